import PyProof.Rows.All
import Wide.All
import OpenK.AllK
import Wide.FinOn
import Lean
import PyProof.EqAt
import PyProof.EqKinds
import PyProof.TupleCall
import KE.KSortTup
import KE.KDictSum
import KE.KDictOf
import PyProof.AttrMissHeap
import OpenK.KRaise
import KE.KIsAll
import KE.KTryMore
import KE.RegKIsAll
import KE.RegKTryMore
import PyProof.NsDelKeeps
import PyProof.ExcArgs
import PyProof.FitsReplace
import PyProof.Rows.StrJoin2
import PySem.Challenge.RW_oncedoor_k74_rows_not_whole
set_option Elab.async false
set_option linter.all false
set_option maxRecDepth 100000
set_option maxHeartbeats 4000000
abbrev ZB:=List (PySem.Addr×PySem.Obj)
abbrev X9:=PySem.Value->PySem.Shared->Prop
abbrev X8:=PySem.Str->Option PySem.Value
def X7:=@PySem.wpAny_bind
def X6:=@PySem.wpAny_pure
def XV:=@Bool.false_ne_true
def W9:=@of_decide_eq_true
def W8:=@of_decide_eq_false
def W7:=@decide_eq_true
def W6:=@decide_eq_false
def UV:=@PySem.Heap.get?_push_size
abbrev UF:=PySem.Addr
abbrev T0:=PySem.Value
abbrev TW:=PySem.Shared
def TD:=@if_pos
def P7:=@if_neg
def QZZ:=@absurd
def QZY:=@Nat.le_of_ble_eq_true
def QZX:=@List.mem_append_left
def QZW:=@List.mem_append_right
def QZV:=@Nat.lt_of_lt_of_le
def QZU:=@List.not_mem_nil
def QZT:=@List.filterMap_append
def QZS:=@List.filterMap_cons
abbrev QZR:List PySem.Str:=["_law_deck_here","_law_many"]
abbrev QZQ:List PySem.Str:=["self","row"]
abbrev QZP:List PySem.Str:=["deed"]
abbrev QZO:List PySem.Str:=["_law_deck_here","_law_menus_here"]
abbrev QZN:List PySem.Str:=["book","deed"]
abbrev QZM:List PySem.Str:=["rows"]
abbrev QZL:List PySem.Str:=["_law_one","_law_row"]
abbrev QZK:List PySem.Str:=["_law_row","_law_ahead"]
abbrev QZJ:List PySem.Str:=["thing"]
abbrev QZI:List PySem.Str:=["_law_script"]
abbrev QZH:List PySem.Str:=["_law_deck_here","_law_names","_law_houses"]
abbrev QZG:List PySem.Str:=["self"]
abbrev QZF:List PySem.Str:=["_law_deed_here","_law_asked"]
abbrev QZE:List PySem.Str:=["_law_deck_here","_law_deed_here","_law_word"]
abbrev QZD:List PySem.Str:=["_law_rows"]
abbrev QZC:List PySem.Str:=["_law_deck_here","_law_rows","_law_row"]
abbrev QZB:List PySem.Str:=["_law_deck_here","_law_rows","_law_row","_law_menus_here"]
abbrev QZA:List PySem.Str:=["_law_deck_here","_law_rows","_law_menus_here"]
abbrev QZz:List PySem.Str:=["_law_row"]
abbrev QZy:List PySem.Str:=["self","name"]
abbrev QZx:List PySem.Str:=["thing","signs","longest"]
abbrev QZw:List PySem.Str:=["things","bounds"]
abbrev QZv:List PySem.Str:=["self","rows"]
abbrev QZu:List PySem.Str:=["_law_one"]
abbrev QZt:List PySem.Str:=["thing","least","most"]
abbrev QZs:List PySem.Str:=["deed","answer"]
abbrev QZr:List PySem.Str:=["_law_deck_here","_law_menus_here","_law_number","_law_turn"]
abbrev QZq:List PySem.Str:=["_law_deck_here","_law_rows","_law_menus_here","_law_many","_law_shut","_law_under","_law_number","_law_turn","_law_k","_law_way","_law_deed_here","_law_one","_law_words_here","_law_answer_here"]
abbrev QZp:List PySem.Str:=["_law_row","_law_ahead","_law_same","_law_came","_law_words_here","_law_deed_here","_law_far"]
abbrev QZo:List PySem.Str:=["_law_error"]
abbrev QZn:List PySem.Str:=["book","deed","heard"]
abbrev QZm:List PySem.Str:=["deed","thing"]
abbrev QZl:List PySem.Str:=["self","changes"]
abbrev QZk:List PySem.Str:=["rows","word"]
abbrev QZj:List PySem.Str:=["_law_deck_here","_law_signs","_law_longest","_law_many","_law_word","_law_size","_law_at","_law_first","_law_ends"]
abbrev QZi:List PySem.Str:=["_law_deck_here","_law_signs","_law_longest","_law_many"]
abbrev QZh:List PySem.Str:=["_law_deck_here"]
abbrev QZg:List PySem.Str:=["_law_deck_here","_law_rows","_law_menus_here","_law_many"]
abbrev QZf:List PySem.Str:=["_law_deed_here","_law_answer_here"]
abbrev QZe:List PySem.Str:=["_law_deck_here","_law_rows","_law_menus_here","_law_numbers","_law_number","_law_turn","_law_name","_law_some","_law_deed_here","_law_words_here","_law_answer_here"]
abbrev QZd:List PySem.Str:=["thing","least_most"]
abbrev QZc:List PySem.Str:=["name","by","book"]
abbrev QZb:List PySem.Str:=["_law_deed_here","_law_asked","_law_words_here","_law_some"]
abbrev QZa:List PySem.Str:=["_law_rows","_law_k","_law_row","_law_ahead","_law_good","_law_turns"]
abbrev QYZ:List PySem.Str:=["_law_deck_here","_law_rows","_law_row","_law_some"]
abbrev QYY:List PySem.Str:=["_law_deck_here","_law_rows","_law_row","_law_menus_here","_law_deeds","_law_deed_here","_law_words_here","_law_word"]
abbrev QYX:List PySem.Str:=["_law_k","_law_deck_here","_law_signs"]
abbrev QYW:List PySem.Str:=["_law_k","_law_signs","_law_first","_law_ends"]
open List (mem_filter mem_range filterMap_cons mem_cons mem_append_left getElem?_set_self getElem?_set_ne mem_filterMap mem_append_right map_cons append_nil nodup_cons of_mem_zip replicate length length_drop map_nil length_set all_cons any_cons find?_cons length_nil any_eq_true forIn_cons lookup_cons drop_zero all_eq_true getElem_mem map_map any_map all_map toArray pairwise_cons le_trans getD_eq_getElem?_getD nodup_nil not_mem_nil eraseIdx_cons_succ pairwise_iff_getElem getElem_of_mem mem_of_mem_take getElem_map getElem_set foldl_append nodup_append map_set ext_getElem mem_map_of_mem filterMap_append)
open Nat (lt_of_lt_of_le lt_irrefl ne_of_lt le_of_lt ne_of_gt le_of_eq lt_succ_self zero_le le_succ lt_trans le_of_ble_eq_true min_le_left min_eq_left succ_pos add_lt_add_left le_add_right mod_lt)
def Zk{p:Prop}(h:p:=by decide +kernel):p:=h
def Zo{p:Prop}(h:p:=by omega):p:=h
def Zs{p:Prop}(h:p:=by simp):p:=h
def Zd{p:Prop}(h:p:=by decide):p:=h
def aZ:=@List.length_map
def eP:=@PySem.Heap.get?_push_of_some
def Zgs:=@List.getElem?_eq_some_iff
def gZ:=@List.getElem?_eq_getElem
def oP:=@List.mem_cons_of_mem
def Zmm:=@List.mem_map
def iB:=@List.map_append
def kM:=@List.length_append
def jC:=@List.getElem?_map
def kN:=@Nat.le_trans
def jI:=@List.mem_cons_self
def eB:=@List.size_toArray
def jD:=@List.length_take
def vQ:=@List.take_of_length_le
def Zma:=@List.mem_append
def Zms:=@List.mem_singleton
def vR:=@List.length_cons
def oZ:=@Nat.lt_of_le_of_lt
def bQ:=@Nat.le_refl
def jW:=@List.mem_of_getElem?
namespace L2
open PySem PySem.Spec PyProof.Rows
abbrev bA:=Sum Int Str
def kO:bA->T0->Bool
 | .inl k,v=>Value.isInt k v
 | .inr x,v=>Value.isStrOf x v
def Yq(w:World):bA->Int
 | .inl k=>hashInt k
 | .inr x=>hashStr w x
def bM:∀ {k:bA}{v:T0},kO k v=true->(∃i t,k=Sum.inl i/\v=Value.int i t)∨(∃x t,k=Sum.inr x/\v=Value.str x t)
 | .inl i,v,h=>by
  obtain⟨t,e⟩:=Value.isInt_shape (k:=i) (v:=v) h;exact .inl ⟨i,t,rfl,e⟩
 | .inr x,v,h=>by
  obtain⟨t,e⟩:=Value.isStrOf_shape (x:=x) (v:=v) h;exact .inr ⟨x,t,rfl,e⟩
def Cs(i:Int)(t:Tok):kO (.inl i) (.int i t)=true:=by simp[kO,Value.isInt]
def Ct(x:Str)(t:Tok):kO (.inr x) (.str x t)=true:=by simp[kO,Value.isStrOf]
def Tk(a b:Int):decide ((Sum.inl a:bA)=Sum.inl b)=(a==b):=by
 by_cases e:a=b
 ·subst e;simp
 ·have h:¬ (Sum.inl a:bA)=Sum.inl b:=λq=>e (Sum.inl.inj q)
  rw[W6 h];exact(beq_eq_false_iff_ne.mpr e).symm
def Tl(a b:Str):decide ((Sum.inr a:bA)=Sum.inr b)=decide (a=b):=by
 by_cases e:a=b
 ·subst e;simp
 ·have h:¬ (Sum.inr a:bA)=Sum.inr b:=λq=>e (Sum.inr.inj q)
  rw[W6 h,W6 e]
def Tm(a:Int)(b:Str):decide ((Sum.inl a:bA)=Sum.inr b)=false:=W6 (λq=>nomatch q)
def Tn(a:Str)(b:Int):decide ((Sum.inr a:bA)=Sum.inl b)=false:=W6 (λq=>nomatch q)
def aT(prog:Program)(w:World):PySem.KeyKind prog w bA where
 is:=kO
 hash:=Yq w
 inj:=λv a b ha hb=>by
  rcases bM ha with⟨i,t,rfl,rfl⟩|⟨x,t,rfl,rfl⟩
  ·rcases bM hb with⟨j,u,rfl,e⟩|⟨y,u,rfl,e⟩
   ·injection e with e1 _;rw[e1]
   ·exact nomatch e
  ·rcases bM hb with⟨j,u,rfl,e⟩|⟨y,u,rfl,e⟩
   ·exact nomatch e
   ·injection e with e1 _;rw[e1]
 byValue:=λk v h=>by
  rcases bM h with⟨i,t,rfl,rfl⟩|⟨x,t,rfl,rfl⟩<;>rfl
 pyHash:=λhv h=>by
  rcases bM hv with⟨i,t,rfl,rfl⟩|⟨x,t,rfl,rfl⟩
  ·exact wpAny_pyHash_int h
  ·exact wpAny_pyHash_str h
 eqBool:=λhu hv h=>by
  rcases bM hu with⟨i,t,rfl,rfl⟩|⟨x,t,rfl,rfl⟩
  ·rcases bM hv with⟨j,u,rfl,rfl⟩|⟨y,u,rfl,rfl⟩
   ·rw[Tk]at h;exact wpAny_eqBool_int h
   ·rw[Tm]at h;exact SeqAt.EqAt.int_str i t y u _ _ _ _ h
  ·rcases bM hv with⟨j,u,rfl,rfl⟩|⟨y,u,rfl,rfl⟩
   ·rw[Tn]at h;exact SeqAt.EqAt.str_int x t j u _ _ _ _ h
   ·rw[Tl]at h;exact wpAny_eqBool_str h
 «strs»:=λk x t v h=>by
  rcases bM h with⟨i,u,rfl,e⟩|⟨y,u,rfl,e⟩
  ·exact nomatch e
  ·injection e with e1 _
   subst e1;cases v<;>rfl
def vT(prog:Program)(w:World)(i:Int)(t:Tok):(aT prog w).is (.inl i) (.int i t)=true:=Cs i t
def vU(prog:Program)(w:World)(x:Str)(t:Tok):(aT prog w).is (.inr x) (.str x t)=true:=Ct x t
inductive V where
 | non|bl (b:Bool)|int (i:Int)|str (x:Str)|byt (b:Array UInt8)|flt (b:UInt64)|ref (a:UF)|ty (n:String)
 deriving DecidableEq
def RelV:V->T0->Prop
 | .non,u=>u=Value.none
 | .bl b,u=>u=Value.bool b
 | .int i,u=>∃t,u=Value.int i t
 | .str x,u=>∃t,u=Value.str x t
 | .byt b,u=>∃t,u=Value.bytes b t
 | .flt b,u=>∃t,u=Value.float b t
 | .ref a,u=>u=Value.ref a
 | .ty n,u=>u=Value.type n
abbrev Vals:List V->List T0->Prop:=Paired RelV
def Vals.length{xs:List V}{us:List T0}(r:Vals xs us):xs.length=us.length:=Paired.length r
def Vals.get:∀ {xs:List V}{us:List T0}{i:Nat}{x:V},Vals xs us->xs[i]?=some x->∃u,us[i]?=some u/\RelV x u
 | _,_,_,_,.nil,e=>by simp at e
 | _,_,0,_,.cons r _,e=>by simp at e;subst e;exact⟨_,rfl,r⟩
 | _,_,i+1,x,.cons _ t,e=>by
  obtain⟨u,h1,h2⟩:=Vals.get (i:=i) (x:=x) t (by simpa using e);exact⟨u,by simpa using h1,h2⟩
def Vals.set{x:V}{u:T0}(r:RelV x u):∀ {xs:List V}{us:List T0} (i:Nat),Vals xs us->Vals (xs.set i x) (us.set i u)
 | _,_,_,.nil=>.nil
 | _,_,0,.cons _ t=>.cons r t
 | _,_,i+1,.cons q t=>.cons q (Vals.set r i t)
def Vals.append:∀ {xs ys:List V}{us ws:List T0},Vals xs us->Vals ys ws->Vals (xs++ys) (us++ws)
 | _,_,_,_,.nil,s=>s
 | _,_,_,_,.cons r t,s=>.cons r (Vals.append t s)
def Vals.take:∀ {xs:List V}{us:List T0} (n:Nat),Vals xs us->Vals (xs.take n) (us.take n)
 | _,_,0,_=>.nil
 | _,_,_+1,.nil=>.nil
 | _,_,n+1,.cons r t=>.cons r (Vals.take n t)
def Vals.drop:∀ {xs:List V}{us:List T0} (n:Nat),Vals xs us->Vals (xs.drop n) (us.drop n)
 | _,_,0,r=>r
 | _,_,_+1,.nil=>.nil
 | _,_,n+1,.cons _ t=>Vals.drop n t
def RelO:Option V->Option T0->Prop
 | some v,some u=>RelV v u
 | none,none=>True
 | _,_=>False
def KV{κ:Type}:List (κ×V)->List (κ×T0)->Prop:=Paired λ(p:κ×V) (q:κ×T0)=>p.1=q.1/\RelV p.2 q.2
def kV:bA->V
 | .inl i=>.int i
 | .inr x=>.str x
inductive HO where
 /-- a list -/
 | lst (xs:List V)
 /-- a tuple (never changes) -/
 | tup (xs:List V)
 /-- a dict whose keys are ints and texts;one whose keys are tuples of ints and texts (the empty one is both) -/
 | dK (kvs:List (bA×V))|dT (kvs:List (List bA×V))
 /-- a set of ints: its members,its size -/
 | set (S:Int->Bool) (n:Nat)
 /-- an instance of the class at C,its dict at dx,its attributes -/
 | ins (C dx:UF) (fs:List (Str×V))
 /-- the dict of the instance at x -/
 | own (x:UF)
 /-- the dict of an exception -/
 | xd (fs:List (Str×V))
 /-- a bound method,f of x -/
 | met (f x:UF)
 /-- a range object lo,lo+1,.. below hi -/
 | rng (lo hi:Int)
 /-- a thing that is known to the object (the script;a dict while a loop walks it): read,never written while it is so -/
 | frz (o:Obj) (u:HO)
 /-- a code object's table -/
 | tbl (ps:Array Value)
 /-- any other thing,by what is true of its one object (a def of one's own: SetO a S n:=HO.ext λh=>..) -/
 | ext (φ:Heap->Prop)
abbrev Hp:=Addr->Option HO
def aI(H:Hp)(a:UF)(o:HO):Hp:=λb=>if b=a then some o else H b
def aA{H:Hp}{a:UF}{o:HO}:aI H a o a=some o:=by unfold aI;rw[TD rfl]
def aD{H:Hp}{a b:UF}{o:HO}(h:b≠a):aI H a o b=H b:=by unfold aI;rw[P7 h]
def fW{H:Hp}{a b:UF}{o u:HO}(h:H a=some o)(h':H b=some u)(d:o≠u):a≠b:=by
 intro e;subst e;rw[h]at h';exact d (Option.some.inj h')
def aE{H:Hp}{a b:UF}{o:HO}(h:H a=some o)(h':H b=none):a≠b:=by
 intro e;subst e;rw[h]at h';cases h'
section
variable (P:Program) (w:World)
def ObjOk(H:Hp)(h:Heap)(a:UF):HO->Prop
 | .lst xs=>xs.length<=sizeLine/\∃(its:List T0)(n:Nat),Vals xs its/\h.get? a=some {cls:=.type "list",data:=.seq its.toArray n }
 | .tup xs=>xs.length<=sizeLine/\∃its:List T0,Vals xs its/\IsTup h a its.toArray
 | .dK kvs=>kvs.length<=sizeLine/\(a==sysModules)=false/\∃vs,KV kvs vs/\h.DictOf (aT P w) a vs
 | .dT kvs=>kvs.length<=sizeLine/\(a==sysModules)=false/\∃xs:List (List bA×UF×T0),
   Paired (λ(p:List bA×V) (q:List bA×UF×T0)=>p.1=q.1/\H q.2.1=some (.tup (p.1.map kV))/\RelV p.2 q.2.2) kvs xs ∧
   ∃o es ep,h.get? a=some o/\o.ExactDict/\o.data=.dict es ep/\es.toList=xs.map (entryOfKey (tupleKind (aT P w)))/\(xs.map (·.1)).Nodup
 | .set S n=>h.SetOf (intKind P w) a S n
 | .ins C dx fs=>H dx=some (.own a)/\fs.length<=1000/\dx≠a/\h.get? a=some (W.instObj C dx) ∧
   ∃mA,h.Ns1 dx mA/\(∀f,RelO (fs.lookup f) (mA f))/\PySem.Within mA (fs.map (·.1))
 | .own _=>∃o,h.get? a=some o
 | .xd fs=>∃mA,h.Ns1 a mA/\∀f,RelO (fs.lookup f) (mA f)
 | .rng lo hi=>∃t u v,h.get? a=some {cls:=.type "range",data:=.fields #[.int lo t,.int hi u,.int 1 v] }
 | .frz o u=>h.get? a=some o/\ObjOk H h a u
 | .tbl ps=>h.get? a=some {cls:=.none,data:=.fields ps }
 | .met f x=>h.get? a=some (W.methodObj (.ref f) (.ref x))
 | .ext φ=>φ h/\(∃o,h.get? a=some o)/\∀h1 h2:Heap,φ h1->(∀o,h1.get? a=some o->h2.get? a=some o)->φ h2
def HOk(H:Hp)(h:Heap):Prop:=∀a o,H a=some o->ObjOk P w H h a o
end
section
variable {P:Program}{w:World}{H H':Hp}{h h':Heap}{a:UF}{o:HO}
def ObjOk.lt(x:ObjOk P w H h a o):a<h.objs.size:=by
 cases o with
 | lst xs=>obtain⟨_,_,_,_,e⟩:=x;exact Heap.lt_size e
 | tup xs=>obtain⟨_,_,_,p⟩:=x;exact p.lt
 | dK kvs=>obtain⟨_,_,_,_,o,_,_,e,_⟩:=x;exact Heap.lt_size e
 | dT kvs=>obtain⟨_,_,_,_,o,_,_,e,_⟩:=x;exact Heap.lt_size e
 | set S n=>obtain⟨o,_,_,_,e,_⟩:=x;exact Heap.lt_size e
 | ins C dx fs=>obtain⟨_,_,_,e,_⟩:=x;exact Heap.lt_size e
 | own y=>obtain⟨_,e⟩:=x;exact Heap.lt_size e
 | xd fs=>obtain⟨_,⟨_,_,_,e,_⟩,_⟩:=x;exact Heap.lt_size e
 | rng lo hi=>obtain⟨_,_,_,e⟩:=x;exact Heap.lt_size e
 | frz ob u=>obtain⟨e,_⟩:=x;exact Heap.lt_size e
 | tbl ps=>exact Heap.lt_size (show h.get? a=some _ from x)
 | met f y=>exact Heap.lt_size (show h.get? a=some _ from x)
 | ext φ=>obtain⟨_,⟨_,e⟩,_⟩:=x;exact Heap.lt_size e
def Paired.mapP{α β:Type}{F G:α->β->Prop}:∀ {l₁:List α}{l₂:List β},Paired F l₁ l₂->(∀a b,F a b->G a b)->Paired G l₁ l₂
 | _,_,.nil,_=>.nil
 | _,_,.cons r t,f=>.cons (f _ _ r) (Paired.mapP t f)
def ObjOk.stay(x:ObjOk P w H h a o)(k:∀b u,(b=a∨H b=some (.own a))->h.get? b=some u->h'.get? b=some u)(ho:∀b,H b=some (.own a)->H' b=some (.own a))(ht:∀b xs,H b=some (.tup xs)->H' b=some (.tup xs)):ObjOk P w H' h' a o:=by
 induction o with
 | lst xs=>obtain⟨z,its,n,r,e⟩:=x;exact⟨z,its,n,r,k _ _ (.inl rfl) e⟩
 | tup xs=>obtain⟨z,its,r,ob,e,c⟩:=x;exact⟨z,its,r,ob,k _ _ (.inl rfl) e,c⟩
 | dK kvs=>obtain⟨z,y,vs,r,ob,es,ep,e,c⟩:=x;exact⟨z,y,vs,r,ob,es,ep,k _ _ (.inl rfl) e,c⟩
 | dT kvs=>
  obtain⟨z,y,xs,r,ob,es,ep,e,c⟩:=x;exact⟨z,y,xs,Paired.mapP r λp q z=>⟨z.1,ht _ _ z.2.1,z.2.2⟩,ob,es,ep,k _ _ (.inl rfl) e,c⟩
 | set S n=>obtain⟨ob,es,ep,t,e,c⟩:=x;exact⟨ob,es,ep,t,k _ _ (.inl rfl) e,c⟩
 | ins C dx fs=>
  obtain⟨d,z,ne,e,mA,⟨od,es,ep,e2,c⟩,r⟩:=x;exact⟨ho _ d,z,ne,k _ _ (.inl rfl) e,mA,⟨od,es,ep,k _ _ (.inr d) e2,c⟩,r⟩
 | own y=>obtain⟨ob,e⟩:=x;exact⟨ob,k _ _ (.inl rfl) e⟩
 | xd fs=>obtain⟨mA,⟨od,es,ep,e,c⟩,r⟩:=x;exact⟨mA,⟨od,es,ep,k _ _ (.inl rfl) e,c⟩,r⟩
 | rng lo hi=>obtain⟨t,u,v,e⟩:=x;exact⟨t,u,v,k _ _ (.inl rfl) e⟩
 | frz ob u ih=>obtain⟨e,q⟩:=x;exact⟨k _ _ (.inl rfl) e,ih q⟩
 | tbl ps=>
  have e:h.get? a=some {cls:=.none,data:=.fields ps }:=x;show h'.get? a=some {cls:=.none,data:=.fields ps };exact k a _ (.inl rfl) e
 | met f y=>
  have e:h.get? a=some (W.methodObj (.ref f) (.ref y)):=x;show h'.get? a=some (W.methodObj (.ref f) (.ref y));exact k a _ (.inl rfl) e
 | ext φ=>obtain⟨p,⟨o,e⟩,st⟩:=x;exact⟨st _ _ p λo q=>k _ _ (.inl rfl) q,⟨o,k _ _ (.inl rfl) e⟩,st⟩
def HOk.lt(x:HOk P w H h)(e:H a=some o):a<h.objs.size:=(x a o e).lt
def HOk.fresh(x:HOk P w H h)(e:h.objs.size<=a):H a=none:=by
 cases q:H a with
 | none=>rfl
 | some u=>exact QZZ (QZV (x.lt q) e) (lt_irrefl _)
def HOk.kept(x:HOk P w H h)(k:∀b u,h.get? b=some u->h'.get? b=some u):HOk P w H h':=λa o e=>
 (x a o e).stay (λb u _ q=>k b u q) (λ_ q=>q) λ_ _ q=>q
def HOk.laid(x:HOk P w H h)(k:∀b u,h.get? b=some u->h'.get? b=some u)(hp:h.objs.size<=a)(new:ObjOk P w (aI H a o) h' a o):HOk P w (aI H a o) h':=λb u e=>by
 have hn:=x.fresh hp;by_cases hb:b=a
 ·subst hb;rw[aA]at e;cases e;exact new
 ·rw[aD hb]at e;exact(x b u e).stay (λc v _ q=>k c v q) (λc q=>by rw[aD (aE q hn)];exact q) λc xs q=>by rw[aD (aE q hn)];exact q
end
def Rd(H:Hp)(a:UF)(u:HO):Prop:=H a=some u∨∃o,H a=some (.frz o u)
def Rd.ok{P:Program}{w:World}{H:Hp}{h:Heap}{a:UF}{u:HO}(r:Rd H a u)(x:HOk P w H h):ObjOk P w H h a u:=by
 rcases r with r|⟨o,r⟩
 ·exact x a u r
 ·obtain⟨_,q⟩:=x a _ r;exact q
def Yr:Option HO->Prop
 | some (.lst _)=>True
 | some (.dK _)=>True
 | some (.dT _)=>True
 | some (.set _ _)=>True
 | some (.ins _ _ _)=>True
 | some (.ext _)=>True
 | _=>False
section
variable {P:Program}{w:World}{H:Hp}{h h':Heap}{x e:UF}{o':HO}
def HOk.write(ok:HOk P w H h)(mu:Yr (H x))(he:e=x∨H e=some (.own x))(k:∀b u,b≠e->h.get? b=some u->h'.get? b=some u)(HS:∃u,h'.get? e=some u)(new:ObjOk P w (aI H x o') h' x o'):HOk P w (aI H x o') h':=λb u q=>by
 have JF:∀c y,H c=some (.own y)->c≠x:=λc y r z=>by subst z;rw[r]at mu;exact mu
 have OH:∀c xs,H c=some (.tup xs)->c≠x:=λc xs r z=>by subst z;rw[r]at mu;exact mu
 by_cases hb:b=x
 ·subst hb;rw[aA]at q;cases q;exact new
 ·rw[aD hb]at q;by_cases CG:b=e
  ·have q':H b=some (.own x):=by
    rcases he with z|z
    ·exact QZZ (CG.trans z) hb
    ·rw[CG];exact z
   rw[q]at q';cases q';obtain⟨v,hv⟩:=HS;exact⟨v,by rw[CG];exact hv⟩
  ·refine(ok b u q).stay (λc v hc r=>k c v ?_ r) (λc r=>by rw[aD (JF c b r)];exact r) λc xs r=>by rw[aD (OH c xs r)];exact r
   rcases hc with rfl|hc
   ·exact CG
   ·rintro rfl;rcases he with z|z
    ·exact JF c b hc z
    ·rw[hc]at z;cases z;exact hb rfl
end
structure Un(fs ex:List UF)(H H':Hp)(h h':Heap):Prop where
 keep:∀b o,h.get? b=some o->H b=none->b∉fs->b∉ex->h'.get? b=some o
 slot:∀b o,h.get? b=some o->H b=none->b∈fs->b∉ex->∃sl,h'.get? b=some {o with slots:=sl }
 free:∀b o,h.get? b=some o->H b=none->b∉ex->H' b=none
 there:∀b o,h.get? b=some o->b∉ex->∃o',h'.get? b=some o'
 tups:∀b xs,H b=some (.tup xs)->H' b=some (.tup xs)
 frzs:∀b o u,H b=some (.frz o u)->H' b=some (.frz o u)
 tbls:∀b ps,H b=some (.tbl ps)->∃more,H' b=some (.tbl (ps++more))
section
variable {fs YS ex ex':List UF}{H H1 H2:Hp}{h h1 h2 h':Heap}{a x e:UF}{o:HO}
def Un.any(u:Un fs ex H H1 h h1){b:UF}{ob:Obj}(q:h.get? b=some ob)(n:H b=none)(hx:b∉ex):∃sl,h1.get? b=some {ob with slots:=sl }:=by
 by_cases hb:b∈fs
 ·exact u.slot b ob q n hb hx
 ·exact⟨ob.slots,u.keep b ob q n hb hx⟩
def Un.kept(k:∀b u,h.get? b=some u->h'.get? b=some u):Un fs ex H H h h':=
 ⟨λb ob q _ _ _=>k b ob q,λb ob q _ _ _=>⟨ob.slots,k b ob q⟩,λ_ _ _ n _=>n,λb ob q _=>⟨ob,k b ob q⟩,λ_ _ q=>q,λ_ _ _ q=>q,λ_ ps q=>⟨#[],by rw[q];simp⟩⟩
def Un.refl:Un fs ex H H h h:=Un.kept λ_ _ q=>q
def Un.laid(k:∀b u,h.get? b=some u->h'.get? b=some u)(hp:h.objs.size<=a)(hn:H a=none):Un fs ex H (aI H a o) h h' where
 keep:=λb u q _ _ _=>k b u q
 slot:=λb u q _ _ _=>⟨u.slots,k b u q⟩
 free:=λb u q n _=>by rw[aD (ne_of_lt (QZV (Heap.lt_size q) hp))];exact n
 there:=λb u q _=>⟨u,k b u q⟩
 tups:=λb xs q=>by rw[aD (aE q hn)];exact q
 frzs:=λb u xs q=>by rw[aD (aE q hn)];exact q
 tbls:=λb ps q=>⟨#[],by rw[aD (aE q hn),q];simp⟩
def Un.write(mu:Yr (H x))(he:e=x∨H e=some (.own x))(k:∀b u,b≠e->h.get? b=some u->h'.get? b=some u)(HS:∃u,h'.get? e=some u):Un fs ex H (aI H x o) h h':=by
 have hx:∀b,H b=none->b≠x:=λb n z=>by subst z;rw[n]at mu;exact mu
 have hb:∀b,H b=none->b≠e:=λb n z=>by
  subst z;rcases he with r|r
  ·exact hx b n r
  ·rw[n]at r;cases r
 have hm:∀b u,H b=some u->¬ Yr (some u)->b≠x:=λb u q nm z=>by subst z;rw[q]at mu;exact nm mu
 refine⟨λb u q n _ _=>k b u (hb b n) q,λb u q n _ _=>⟨u.slots,k b u (hb b n) q⟩,λb u q n _=>by rw[aD (hx b n)];exact n,λb u q _=>?_,
  λb xs q=>by rw[aD (hm b _ q λz=>z)];exact q,λb u xs q=>by rw[aD (hm b _ q λz=>z)];exact q,λb ps q=>⟨#[],by rw[aD (hm b _ q λz=>z),q];simp⟩⟩
 by_cases CG:b=e
 ·subst CG;exact HS
 ·exact⟨u,k b u CG q⟩
end
def trk(h:Heap)(H:Hp):List Addr:=(List.range h.objs.size).filter λa=>(H a).isSome
def tF(h:Heap)(H:Hp):Heap:=W.hideAll h (trk h H)
def Cu(h:Heap)(H:Hp):(tF h H).objs.size=h.objs.size:=W.hideAll_size _ _
def Fx{h:Heap}{H:Hp}{b:UF}{o:Obj}(e:h.get? b=some o)(n:H b=none):(tF h H).get? b=some o:=
 W.hideAll_get _ e λhm=>by
  have q:(H b).isSome=true:=(mem_filter.mp hm).2;rw[n]at q;simp at q
def Nc{h:Heap}{H:Hp}{b:UF}{o:Obj}(e:(tF h H).get? b=some o):h.get? b=some o/\H b=none:=by
 have e':h.get? b=some o:=W.of_hideAll (trk h H) e;refine⟨e',?_⟩
 cases q:H b with
 | none=>rfl
 | some x=>
  have hm:b∈trk h H:=mem_filter.mpr ⟨mem_range.mpr (Heap.lt_size e'),by simp[q]⟩;have z:(tF h H).get? b=none:=W.hideAll_none (trk h H) hm;rw[z]at e;cases e
structure Mod(K:W.Frag)(mg:X8)(base:Heap):Prop where
 kin:K.In base
 glob:base.Ns mainGlobals mg
 blt:∃mb,base.Ns builtinsNs mb/\∀x:Str,x≠"__name__"->mb x=bootBuiltins x
 nolimit:base.NoLimit
structure Cx where
 prog:Program
 w:World
 K:W.Frag
 mg:Str->Option Value
 base:Heap
 A:Around
 N:List Str
 s₀:Shared
 H₀:Hp
 env:Env
 outer:List Env
 stack:List Env
 ex:List Addr
 fn:Str->Bool
 calm:Bool
 pn:List (UF×Obj)
 xe:T0->TW->Prop
def jJ(l:List Env):List Addr:=l.filterMap (·.frame)
abbrev Cx.fs(X:Cx):List Addr:=jJ X.outer
def Ys(sc:Scope)(x:Str):Prop:=sc.names.lookup x=some .local∨sc.names.lookup x=some .cell∨sc.names.lookup x=some .free
def Fu(sc:Scope)(x:Str):Prop:=sc.names.lookup x=some .local∨sc.names.lookup x=some .cell
def aBl(env:Env)(h:Heap)(m:X8)(x:Str)(u:T0):Prop:=
 (env.kindOf x=some .local/\m x=some u)∨((env.kindOf x=some .cell∨env.kindOf x=some .free)/\∃c,env.cells.lookup x=some c/\h.IsCell c (some u))
structure Cx.Ok(X:Cx):Prop where
 mod:Mod X.K X.mg X.base
 kind:X.env.scope.kind=.function
 glob:X.env.globals=mainGlobals
 blt:X.env.builtins=builtinsNs
 above:X.s₀.heap.objs.size<=X.env.locals
 inj:∀x y c,X.env.cells.lookup x=some c->X.env.cells.lookup y=some c->x=y
 has:∀x,(X.env.kindOf x=some .cell∨X.env.kindOf x=some .free)->∃c,X.env.cells.lookup x=some c
 cab:∀x c,X.fn x=true->X.env.cells.lookup x=some c->X.s₀.heap.objs.size<=c
 hd:X.calm=true->X.A.handled=none
 frames:X.A.frames=some X.stack
 stk:X.stack=X.outer∨(X.stack=X.env::X.outer/\X.env.frame=some X.env.locals)
 exf:∀b∈X.ex,b≠X.env.locals/\∀x c,X.env.cells.lookup x=some c->c≠b
 bs:∀b o,X.base.get? b=some o->X.s₀.heap.get? b=some o/\X.H₀ b=none
 bsz:X.base.objs.size<=X.s₀.heap.objs.size
 noex:∀b o,X.base.get? b=some o->b∉X.ex
 exfs:∀b∈X.ex,b∉X.fs
 funs:X.s₀.heap.FunFrames X.base X.outer
 frf:∀b∈X.fs,X.H₀ b=none
structure Inv(X:Cx)(pins:ZB)(σ:List (Option V))(H:Hp)(s:TW):Prop where
 ok:X.Ok
 os:s.os=X.s₀.os
 bare:AllBare s.gens
 base:Un X.fs X.ex X.H₀ H X.s₀.heap s.heap
 loc:∃m,s.heap.Ns X.env.locals m/\∀(i:Nat)(x:Str)(v:V),X.N[i]?=some x->σ[i]?=some (some v)->Ys X.env.scope x->∃u,RelV v u/\aBl X.env s.heap m x u
 cell:∀x c,X.env.cells.lookup x=some c->∃v,s.heap.IsCell c v
 free:H X.env.locals=none
 freeC:∀x c,X.env.cells.lookup x=some c->H c=none
 pin:∀p∈X.pn++pins,s.heap.get? p.1=some p.2/\H p.1=none/\p.1≠X.env.locals/\p.1∉X.fs/\∀v,p.2.data≠.cell v
 hok:HOk X.prog X.w H s.heap
 len:σ.length=X.N.length
section
variable {X:Cx}{pins:ZB}{σ:List (Option V)}{H H':Hp}{s:TW}{h':Heap}
def Cx.Ok.nofr(ok:X.Ok){b:UF}{o:Obj}(e:X.base.get? b=some o):b∉X.fs:=λhb=>by
 have:=(ok.funs.mem hb).1;rw[e]at this;cases this
def Inv.bs(I:Inv X pins σ H s):∀b o,X.base.get? b=some o->s.heap.get? b=some o/\H b=none:=λb o e=>
 ⟨I.base.keep b o (I.ok.bs b o e).1 (I.ok.bs b o e).2 (I.ok.nofr e) (I.ok.noex b o e),I.base.free b o (I.ok.bs b o e).1 (I.ok.bs b o e).2 (I.ok.noex b o e)⟩
def Inv.bk(I:Inv X pins σ H s):∀b o,X.base.get? b=some o->s.heap.get? b=some o:=λb o e=>(I.bs b o e).1
def Inv.mod(I:Inv X pins σ H s):Mod X.K X.mg X.base:=I.ok.mod
def Inv.kIn(I:Inv X pins σ H s):X.K.In s.heap:=I.ok.mod.kin.keeps I.bk
def Inv.fr(I:Inv X pins σ H s):∃m,Fr X.base X.env.locals s.heap m:=
 let ⟨m,hn,_⟩:=I.loc
 ⟨m,hn,I.bk,kN I.ok.bsz I.ok.above⟩
def Inv.lt(I:Inv X pins σ H s):X.env.locals<s.heap.objs.size:=let ⟨_,hn,_⟩:=I.loc;hn.lt
def Inv.sz(I:Inv X pins σ H s):X.s₀.heap.objs.size<=s.heap.objs.size:=kN I.ok.above (le_of_lt I.lt)
def Inv.nofs(I:Inv X pins σ H s){a:UF}(h:s.heap.objs.size<=a):a∉X.fs:=λhb=>by
 obtain⟨_,o,ho,_⟩:=I.ok.funs.mem hb;exact QZZ (QZV (Heap.lt_size ho) (kN I.sz h)) (lt_irrefl _)
def Inv.cne(I:Inv X pins σ H s):∀x c,X.env.cells.lookup x=some c->c≠X.env.locals:=λx c e z=>by
 obtain⟨v,o,ho,hd⟩:=I.cell x c e;obtain⟨m,⟨o',es,ep,Q5,EO,_⟩,_⟩:=I.loc;rw[z,Q5]at ho;cases ho;rw[EO]at hd;cases hd
def Inv.funs(I:Inv X pins σ H s):s.heap.FunFrames X.base X.outer:=by
 have all:∀(l:List Env),(∀b∈jJ l,b∈X.fs)->X.s₀.heap.FunFrames X.base l->s.heap.FunFrames X.base l:=by
  intro l;induction l with
  | nil=>intro _ _;trivial
  | cons env r ih=>
   intro hs hl;obtain⟨hk,⟨L,o,hf,hn,ho,hd⟩,hr⟩:=hl;have hL:L∈X.fs:=hs L (by unfold jJ;rw[QZS,hf];exact jI);obtain⟨sl,e⟩:=I.base.slot L o ho (I.ok.frf L hL) hL λz=>I.ok.exfs L z hL
   exact⟨hk,⟨L,_,hf,hn,e,hd⟩,ih (λb hb=>hs b (by unfold jJ;rw[QZS,hf];exact oP _ hb)) hr⟩
 exact all X.outer (λ_ hb=>hb) I.ok.funs
def Inv.stack(I:Inv X pins σ H s):s.heap.FunFrames X.base X.stack:=by
 rcases I.ok.stk with e|⟨e,hf⟩
 ·rw[e];exact I.funs
 ·rw[e];obtain⟨m,hn,_⟩:=I.loc;refine .cons (by rw[I.ok.kind];decide) hf hn ?_ I.funs;exact Heap.get?_none_of_le (kN I.ok.bsz I.ok.above)
def Inv.stkSub(I:Inv X pins σ H s):∀b∈jJ X.stack,b∈X.env.locals::X.fs:=λb hb=>by
 rcases I.ok.stk with e|⟨e,hf⟩
 ·rw[e]at hb;exact oP _ hb
 ·rw[e]at hb;unfold jJ at hb;rw[QZS,hf]at hb;exact hb
def Inv.stkFree(I:Inv X pins σ H s):∀b∈jJ X.stack,H b=none:=λb hb=>by
 rcases mem_cons.mp (I.stkSub b hb) with e|hb
 ·rw[e];exact I.free
 ·obtain⟨_,o,ho,_⟩:=I.ok.funs.mem hb;exact I.base.free b o ho (I.ok.frf b hb) λz=>I.ok.exfs b z hb
def Inv.step{g':Array GenState}{t':Nat}{d':Drawn}{ch:List UF}(I:Inv X pins σ H s)(BR:∀b∈ch,(b∈X.ex∨X.s₀.heap.objs.size<=b)/\b≠X.env.locals/\(∀x c,X.env.cells.lookup x=some c->c≠b)/\∀p∈X.pn++pins,p.1≠b)(keep:∀b o,b≠X.env.locals->b∉X.fs->b∉ch->s.heap.get? b=some o->H b=none->h'.get? b=some o)(slot:∀b o,b≠X.env.locals->b∈X.fs->b∉ch->s.heap.get? b=some o->H b=none->∃sl,h'.get? b=some {o with slots:=sl })(free:∀b o,b∉ch->s.heap.get? b=some o->H b=none->H' b=none)(there:∀b o,b∉ch->s.heap.get? b=some o->∃o',h'.get? b=some o')(tups:∀b xs,H b=some (.tup xs)->H' b=some (.tup xs))(frzs:∀b o u,H b=some (.frz o u)->H' b=some (.frz o u))(tbls:∀b ps,H b=some (.tbl ps)->∃more,H' b=some (.tbl (ps++more)))(ns:∀m,s.heap.Ns X.env.locals m->h'.Ns X.env.locals m)(hok:HOk X.prog X.w H' h')(hg:AllBare g') :
  Inv X pins σ H' {s with heap:=h',gens:=g',drawn:=d',toks:=t' }:=by
 have SM:∀b o,X.s₀.heap.get? b=some o->b≠X.env.locals:=λb o e=>ne_of_lt (QZV (Heap.lt_size e) I.ok.above)
 have MU:∀b o,X.s₀.heap.get? b=some o->b∉X.ex->b∉ch:=λb o e hx hb=>by
  rcases(BR b hb).1 with z|z
  ·exact hx z
  ·exact QZZ (QZV (Heap.lt_size e) z) (lt_irrefl _)
 have cellK:∀x c,X.env.cells.lookup x=some c->∀v,s.heap.IsCell c v->h'.IsCell c v:=λx c e v ⟨o,ho,hd⟩=>by
  have zj:c∉ch:=λz=>(BR c z).2.2.1 x c e rfl
  by_cases hc:c∈X.fs
  ·obtain⟨sl,q⟩:=slot c o (I.cne x c e) hc zj ho (I.freeC x c e);exact⟨_,q,hd⟩
  ·exact⟨o,keep c o (I.cne x c e) hc zj ho (I.freeC x c e),hd⟩
 refine⟨I.ok,I.os,hg,⟨λb o e n hb hx=>?_,λb o e n hb hx=>?_,λb o e n hx=>?_,λb o e hx=>?_,λb xs e=>tups b xs (I.base.tups b xs e),λb o xs e=>frzs b o xs (I.base.frzs b o xs e),λb ps e=>?_⟩,?_,λx c e=>?_,?_,λx c e=>?_,λp hp=>?_,hok,I.len⟩
 ·exact keep b o (SM b o e) hb (MU b o e hx) (I.base.keep b o e n hb hx) (I.base.free b o e n hx)
 ·obtain⟨sl,e1⟩:=I.base.slot b o e n hb hx;obtain⟨OI,e2⟩:=slot b _ (SM b o e) hb (MU b o e hx) e1 (I.base.free b o e n hx);exact⟨OI,e2⟩
 ·obtain⟨o',e1⟩:=I.base.there b o e hx;exact free b o' (MU b o e hx) e1 (I.base.free b o e n hx)
 ·obtain⟨o',e1⟩:=I.base.there b o e hx;exact there b o' (MU b o e hx) e1
 ·obtain⟨m1,e1⟩:=I.base.tbls b ps e;obtain⟨m2,e2⟩:=tbls b _ e1;exact⟨m1++m2,by rw[e2,Array.append_assoc]⟩
 ·obtain⟨m,hn,hl⟩:=I.loc;refine⟨m,ns m hn,λi x v e1 e2 e3=>?_⟩;obtain⟨u,r,l⟩:=hl i x v e1 e2 e3;refine⟨u,r,?_⟩;rcases l with l|⟨k,c,e,z⟩
  ·exact .inl l
  ·exact .inr ⟨k,c,e,cellK x c e _ z⟩
 ·obtain⟨v,z⟩:=I.cell x c e;exact⟨v,cellK x c e v z⟩
 ·obtain⟨m,⟨o,_,_,ho,_⟩,_⟩:=I.loc;exact free _ o (λz=>(BR _ z).2.1 rfl) ho I.free
 ·obtain⟨v,o,ho,hd⟩:=I.cell x c e;exact free c o (λz=>(BR c z).2.2.1 x c e rfl) ho (I.freeC x c e)
 ·obtain⟨e,n,ne,nf,d⟩:=I.pin p hp;have zj:p.1∉ch:=λz=>(BR p.1 z).2.2.2 p hp rfl
  exact⟨keep p.1 p.2 ne nf zj e n,free p.1 p.2 zj e n,ne,nf,d⟩
def Inv.un{t':Nat}(I:Inv X pins σ H s)(u:Un X.fs [] H H' s.heap h')(hok:HOk X.prog X.w H' h'):Inv X pins σ H' {s with heap:=h',toks:=t' }:=by
 obtain⟨m,⟨o,es,ep,ho,r⟩,_⟩:=id I.loc;obtain⟨sl,hL⟩:=u.any ho I.free Zs;exact I.step (g':=s.gens) (d':=s.drawn) (ch:=[]) (λ_ z=>nomatch z) (λb o _ hb _ e n=>u.keep b o e n hb Zs) (λb o _ hb _ e n=>u.slot b o e n hb Zs) (λb o _ e n=>u.free b o e n Zs) (λb o _ e=>u.there b o e Zs) u.tups u.frzs u.tbls (λm' hm=>by
  obtain⟨o',MV,OJ,Q5,r'⟩:=hm;rw[ho]at Q5;cases Q5;exact⟨_,MV,OJ,hL,r'⟩) hok I.bare
def Inv.call{g':Array GenState}{t':Nat}{d':Drawn}{ch:List UF}(I:Inv X pins σ H s)(u:Un (jJ X.stack) ch H H' s.heap h')(hok:HOk X.prog X.w H' h')(hg:AllBare g')(BR:∀b∈ch,(b∈X.ex∨X.s₀.heap.objs.size<=b)/\b≠X.env.locals/\(∀x c,X.env.cells.lookup x=some c->c≠b)/\∀p∈X.pn++pins,p.1≠b) :
  Inv X pins σ H' {s with heap:=h',gens:=g',drawn:=d',toks:=t' }:=by
 obtain⟨m,⟨o,es,ep,ho,r⟩,_⟩:=id I.loc;obtain⟨sl,hL⟩:=u.any ho I.free λz=>(BR _ z).2.1 rfl
 exact I.step (ch:=ch) BR (λb o hL hb hc e n=>u.keep b o e n (λz=>(mem_cons.mp (I.stkSub b z)).elim hL hb) hc) (λb o _ _ hc e n=>u.any e n hc) (λb o hc e n=>u.free b o e n hc) (λb o hc e=>u.there b o e hc) u.tups u.frzs u.tbls (λm' hm=>by
  obtain⟨o',MV,OJ,Q5,r'⟩:=hm;rw[ho]at Q5;cases Q5;exact⟨_,MV,OJ,hL,r'⟩) hok hg
def Inv.turned{t':Nat}{it:UF}(I:Inv X pins σ H s)(k:∀b o,b≠it->s.heap.get? b=some o->h'.get? b=some o)(hn:H it=none)(hL:it≠X.env.locals)(h1:it∈X.ex∨X.s₀.heap.objs.size<=it)(h2:∀x c,X.env.cells.lookup x=some c->c≠it)(h3:∀p∈X.pn++pins,p.1≠it):Inv X pins σ H {s with heap:=h',toks:=t' }:=by
 have SN:∀b u,H b=some u->b≠it:=λb u e z=>by rw[z,hn]at e;cases e
 refine I.step (g':=s.gens) (d':=s.drawn) (ch:=[it]) (λb hb=>?_) (λb o _ _ hc e _=>k b o (λz=>hc (by simp[z])) e) (λb o _ _ hc e _=>⟨o.slots,k b o (λz=>hc (by simp[z])) e⟩) (λ_ _ _ _ n=>n)
  (λb o hc e=>⟨o,k b o (λz=>hc (by simp[z])) e⟩) (λ_ _ e=>e) (λ_ _ _ e=>e) (λb ps e=>⟨#[],by rw[e];simp⟩) (λm hm=>?_) (λb u e=>?_) I.bare
 ·have e:b=it:=by simpa using hb
  subst e;exact⟨h1,hL,h2,h3⟩
 ·obtain⟨o,es,ep,ho,r⟩:=hm;exact⟨o,es,ep,k _ o (Ne.symm hL) ho,r⟩
 ·refine(I.hok b u e).stay (λc v hc q=>k c v ?_ q) (λ_ q=>q) λ_ _ q=>q;rcases hc with z|z
  ·rw[z];exact SN b u e
  ·exact SN c _ z
def Inv.tok(I:Inv X pins σ H s)(t:Nat):Inv X pins σ H {s with toks:=t }:=I.un (h':=s.heap) (t':=t) Un.refl I.hok
def Inv.kept{t':Nat}(I:Inv X pins σ H s)(k:∀b u,s.heap.get? b=some u->h'.get? b=some u):Inv X pins σ H {s with heap:=h',toks:=t' }:=I.un (Un.kept k) (I.hok.kept k)
def Inv.laid{a:UF}{o:HO}{t':Nat}(I:Inv X pins σ H s)(k:∀b u,s.heap.get? b=some u->h'.get? b=some u)(hp:s.heap.objs.size<=a)(new:ObjOk X.prog X.w (aI H a o) h' a o) :
  Inv X pins σ (aI H a o) {s with heap:=h',toks:=t' }:=I.un (Un.laid k hp (I.hok.fresh hp)) (I.hok.laid k hp new)
def Inv.write{x e:UF}{o:HO}{t':Nat}(I:Inv X pins σ H s)(mu:Yr (H x))(he:e=x∨H e=some (.own x))(k:∀b u,b≠e->s.heap.get? b=some u->h'.get? b=some u)(HS:∃u,h'.get? e=some u)(new:ObjOk X.prog X.w (aI H x o) h' x o):Inv X pins σ (aI H x o) {s with heap:=h',toks:=t' }:=I.un (Un.write mu he k HS) (I.hok.write mu he k HS new)
def Inv.weak{σ':List (Option V)}(I:Inv X pins σ H s)(hl:σ'.length=σ.length)(w:∀(i:Nat) v,σ'[i]?=some (some v)->σ[i]?=some (some v)):Inv X pins σ' H s:=
 ⟨I.ok,I.os,I.bare,I.base,let ⟨m,hn,BS⟩:=I.loc;⟨m,hn,λi x v e1 e2 e3=>BS i x v e1 (w i v e2) e3⟩,I.cell,I.free,I.freeC,I.pin,I.hok,hl.trans I.len⟩
def Inv.pins_of{DV:ZB}(I:Inv X pins σ H s)(h:∀p∈DV,s.heap.get? p.1=some p.2/\H p.1=none/\p.1≠X.env.locals/\p.1∉X.fs/\∀v,p.2.data≠.cell v):Inv X DV σ H s:=
 ⟨I.ok,I.os,I.bare,I.base,I.loc,I.cell,I.free,I.freeC,λp hp=>(Zma.mp hp).elim (λz=>I.pin p (QZX _ z)) (h p),I.hok,I.len⟩
def pA{N:List Str}(hN:N.Nodup){i j:Nat}{x:Str}(a:N[i]?=some x)(b:N[j]?=some x):i=j:=by
 obtain⟨h1,e1⟩:=Zgs.mp a;obtain⟨h2,e2⟩:=Zgs.mp b;exact(List.getElem_inj hN).mp (e1.trans e2.symm)
def rQ{M:Model}{A:Around}{E:X9}{i:Nat}{x:Str}{v:V}{u:T0}{Q:Unit->TW->Prop}(I:Inv X pins σ H s)(hN:X.N.Nodup)(hi:X.N[i]?=some x)(hx:Fu X.env.scope x)(r:RelV v u)(h:∀s',Inv X pins (σ.set i (some v)) H s'->(∃a,Heap.SameBut a s.heap s'.heap/\(a=X.env.locals∨X.env.cells.lookup x=some a))->Q () s')(hf:X.fn x=true∨X.env.scope.names.lookup x=some .local:=by first|exact .inl rfl|exact .inr rfl|assumption):wpAny M A (storeName X.env x u) Q E s:=by
 obtain⟨m,hn,hl⟩:=id I.loc;have zk:(X.env.scope.kind == .class||(X.env.scope.kind == .module&&X.env.locals != X.env.globals))=false:=by rw[I.ok.kind];rfl
 have JG:i<σ.length:=by rw[I.len];exact(Zgs.mp hi).1
 have cne:=I.cne;have tracked:∀ {a:UF}{h':Heap},(∃o,s.heap.get? a=some o/\H a=none)->Heap.SameBut a s.heap h'->HOk X.prog X.w H h':=λ{a h'} ha hs b ob e=>by
  obtain⟨_,_,uc⟩:=ha;refine(I.hok b ob e).stay (λc w' hc q=>(hs.2 c ?_).trans q) (λ_ q=>q) λ_ _ q=>q;rintro rfl;rcases hc with rfl|hc
  ·rw[uc]at e;cases e
  ·rw[uc]at hc;cases hc
 rcases hx with hk|hk
 ·refine wpAny_storeName_local hk hn (λh' BU hs=>?_) zk;obtain⟨oL,_,_,SO,_⟩:=id hn;refine h _ ⟨I.ok,I.os,I.bare,⟨λb o e n hb hx=>?_,λb o e n hb hx=>?_,I.base.free,λb o e hx=>?_,I.base.tups,I.base.frzs,I.base.tbls⟩,⟨_,BU,λj y v' e1 e2 e3=>?_⟩,λy c e=>?_,I.free,I.freeC,λp hp=>?_,tracked ⟨oL,SO,I.free⟩ hs,by simpa using I.len⟩ ⟨_,hs,.inl rfl⟩
  ·exact(hs.2 b (ne_of_lt (QZV (Heap.lt_size e) I.ok.above))).trans (I.base.keep b o e n hb hx)
  ·obtain⟨sl,e1⟩:=I.base.slot b o e n hb hx;exact⟨sl,(hs.2 b (ne_of_lt (QZV (Heap.lt_size e) I.ok.above))).trans e1⟩
  ·obtain⟨o',e1⟩:=I.base.there b o e hx;exact⟨o',(hs.2 b (ne_of_lt (QZV (Heap.lt_size e) I.ok.above))).trans e1⟩
  ·by_cases hj:j=i
   ·subst hj;rw[hi]at e1;cases e1;rw[getElem?_set_self JG]at e2;cases e2;exact⟨u,r,.inl ⟨hk,Zs⟩⟩
   ·rw[getElem?_set_ne (Ne.symm hj)]at e2;obtain⟨u',r',q⟩:=hl j y v' e1 e2 e3;refine⟨u',r',?_⟩;rcases q with⟨k,e⟩|⟨k,c,e,z⟩
    ·refine .inl ⟨k,?_⟩;have:y≠x:=λe=>hj (pA hN e1 (e▸hi))
     simp[this,e]
    ·exact .inr ⟨k,c,e,z.sameBut hs (cne y c e)⟩
  ·obtain⟨w',z⟩:=I.cell y c e;exact⟨w',z.sameBut hs (cne y c e)⟩
  ·obtain⟨e,n,ne,nf,d⟩:=I.pin p hp;exact⟨(hs.2 p.1 ne).trans e,n,ne,nf,d⟩
 ·have ud:X.fn x=true:=by
   rcases hf with z|z
   ·exact z
   ·rw[z]at hk;cases hk
  obtain⟨c,hc⟩:=I.ok.has x (.inl hk);obtain⟨w',z⟩:=I.cell x c hc;refine wpAny_storeName_cell I.ok.kind hk hc z (λh' CH hs=>?_);obtain⟨oc,HU,OK⟩:=id z;refine h {s with heap:=h' } ⟨I.ok,I.os,I.bare,⟨λb o e n hb hx=>?_,λb o e n hb hx=>?_,I.base.free,λb o e hx=>?_,I.base.tups,I.base.frzs,I.base.tbls⟩,⟨m,hn.sameBut hs (Ne.symm (cne x c hc)),λj y v' e1 e2 e3=>?_⟩,λy c' e=>?_,I.free,I.freeC,λp hp=>?_,tracked ⟨oc,HU,I.freeC x c hc⟩ hs,by simpa using I.len⟩ ⟨c,hs,.inr hc⟩
  ·exact(hs.2 b (ne_of_lt (QZV (Heap.lt_size e) (I.ok.cab x c ud hc)))).trans (I.base.keep b o e n hb hx)
  ·obtain⟨sl,e1⟩:=I.base.slot b o e n hb hx;exact⟨sl,(hs.2 b (ne_of_lt (QZV (Heap.lt_size e) (I.ok.cab x c ud hc)))).trans e1⟩
  ·obtain⟨o',e1⟩:=I.base.there b o e hx;exact⟨o',(hs.2 b (ne_of_lt (QZV (Heap.lt_size e) (I.ok.cab x c ud hc)))).trans e1⟩
  ·by_cases hj:j=i
   ·subst hj;rw[hi]at e1;cases e1;rw[getElem?_set_self JG]at e2;cases e2;exact⟨u,r,.inr ⟨.inl hk,c,hc,CH⟩⟩
   ·rw[getElem?_set_ne (Ne.symm hj)]at e2;obtain⟨u',r',q⟩:=hl j y v' e1 e2 e3;refine⟨u',r',?_⟩;rcases q with q|⟨k,c',e,z'⟩
    ·exact .inl q
    ·refine .inr ⟨k,c',e,z'.sameBut hs ?_⟩;rintro rfl;exact hj (pA hN e1 (I.ok.inj _ _ _ e hc▸hi))
  ·by_cases SQ:c'=c
   ·subst SQ;exact⟨_,CH⟩
   ·obtain⟨w2,z2⟩:=I.cell y c' e;exact⟨w2,z2.sameBut hs SQ⟩
  ·obtain⟨e,n,ne,nf,d⟩:=I.pin p hp;refine⟨(hs.2 p.1 ?_).trans e,n,ne,nf,d⟩;intro q;rw[q,HU]at e;have q':oc=p.2:=Option.some.inj e;exact d w' (by rw[<- q'];exact OK)
def lE{M:Model}{A:Around}{E:X9}{i:Nat}{x:Str}{v:V}{u:T0}{Q:Unit->TW->Prop}(I:Inv X pins σ H s)(hN:X.N.Nodup)(hi:X.N[i]?=some x)(hx:Fu X.env.scope x)(r:RelV v u)(h:∀s',Inv X pins (σ.set i (some v)) H s'->Q () s')(hf:X.fn x=true∨X.env.scope.names.lookup x=some .local:=by first|exact .inl rfl|exact .inr rfl|assumption):wpAny M A (storeName X.env x u) Q E s:=
 rQ I hN hi hx r (λs' I' _=>h s' I') hf
def Inv.call'{s':TW}{ch:List UF}(I:Inv X pins σ H s)(ho:s'.os=s.os)(u:Un (jJ X.stack) ch H H' s.heap s'.heap)(hok:HOk X.prog X.w H' s'.heap)(hg:AllBare s'.gens)(BR:∀b∈ch,(b∈X.ex∨X.s₀.heap.objs.size<=b)/\b≠X.env.locals/\(∀x c,X.env.cells.lookup x=some c->c≠b)/\∀p∈X.pn++pins,p.1≠b):Inv X pins σ H' s':=by
 obtain⟨h',g',d',t',o'⟩:=s';have e:o'=s.os:=ho;subst e;exact I.call (g':=g') (t':=t') (d':=d') u hok hg BR
end
abbrev XK:=Value->Option UF->Hp->Prop
abbrev St:=List (Option V)
abbrev VK:=V->Hp->Prop
abbrev TE:=St->Hp->VK->Prop
abbrev TT:=St->Hp->(Bool->Hp->Prop)->Prop
abbrev TA:=St->Hp->(List V->Hp->Prop)->Prop
structure kK where
 nx:St->Hp->Prop
 rt:VK
 bk:St->Hp->Prop:=λ_ _=>False
 ct:St->Hp->Prop:=λ_ _=>False
abbrev TS:=kK->St->Hp->Prop
def EP(X:Cx)(pins:ZB)(σ:St)(Q:VK)(u:T0)(s':TW):Prop:=∃v H',Inv X pins σ H' s'/\RelV v u/\Q v H'
def TP(X:Cx)(pins:ZB)(σ:St)(Q:Bool->Hp->Prop)(b:Bool)(s':TW):Prop:=∃H',Inv X pins σ H' s'/\Q b H'
def AP(X:Cx)(pins:ZB)(σ:St)(Q:List V->Hp->Prop)(us:List T0)(s':TW):Prop:=∃vs H',Inv X pins σ H' s'/\Vals vs us/\Q vs H'
def SP(X:Cx)(pins:ZB)(D:kK)(f:Flow)(s':TW):Prop:=
 match f with
 | .next=>∃ σ' H',Inv X pins σ' H' s'/\D.nx σ' H'
 | .brk=>∃ σ' H',Inv X pins σ' H' s'/\D.bk σ' H'
 | .cont=>∃ σ' H',Inv X pins σ' H' s'/\D.ct σ' H'
 | .ret u=>∃v σ' H',Inv X pins σ' H' s'/\RelV v u/\D.rt v H'
def PE(X:Cx)(e:Expr)(t:TE):Prop:=
 ∀(pins:ZB)(s:TW)(σ:St)(H:Hp)(Q:VK),Inv X pins σ H s->t σ H Q->wpAny (model X.prog X.w) X.A (eval e X.env) (EP X pins σ Q) X.xe s
def PT(X:Cx)(e:Expr)(t:TT):Prop:=
 ∀(pins:ZB)(s:TW)(σ:St)(H:Hp)(Q:Bool->Hp->Prop),Inv X pins σ H s->t σ H Q->wpAny (model X.prog X.w) X.A (isTrue e X.env (eval e X.env)) (TP X pins σ Q) X.xe s
def PW(X:Cx)(e:Expr)(t:TT):Prop:=
 ∀(whole:Sem Value)(pins:ZB)(s:TW)(σ:St)(H:Hp)(Q:Bool->Hp->Prop),Inv X pins σ H s->t σ H Q->wpAny (model X.prog X.w) X.A (isTrue e X.env whole) (TP X pins σ Q) X.xe s
def PW.pt{X:Cx}{e:Expr}{t:TT}(h:PW X e t):PT X e t:=h _
def PA(X:Cx)(es:List Expr)(t:TA):Prop:=
 ∀(pos:Pos)(pins:ZB)(s:TW)(σ:St)(H:Hp)(Q:List V->Hp->Prop),Inv X pins σ H s->t σ H Q->wpAny (model X.prog X.w) X.A (spliced (backTo pos (starEach es X.env))) (AP X pins σ Q) X.xe s
def PS(X:Cx)(st:Stmt)(t:TS):Prop:=
 ∀(pins:ZB)(s:TW)(σ:St)(H:Hp)(D:kK),Inv X pins σ H s->t D σ H->wpAny (model X.prog X.w) X.A (exec st X.env) (SP X pins D) X.xe s
def PSs(X:Cx)(st:List Stmt)(t:TS):Prop:=
 ∀(pins:ZB)(s:TW)(σ:St)(H:Hp)(D:kK),Inv X pins σ H s->t D σ H->wpAny (model X.prog X.w) X.A (execs st X.env) (SP X pins D) X.xe s
def bU{α:Type}{t:Sem α}{Q Q':α->TW->Prop}{M:Model}{A:Around}{E:X9}{s:TW}(h:wpAny M A t Q E s)(hQ:∀a s,Q a s->Q' a s):wpAny M A t Q' E s:=wpAny_mono h hQ λ_ _ x=>x
section
variable {X:Cx}
def bin{a b:Expr}{ta tb:TE}(ha:PE X a ta)(hb:PE X b tb){pins:ZB}{s:TW}{σ:St}{H:Hp}{R:V->V->Hp->Prop}(I:Inv X pins σ H s)(h:ta σ H λx H1=>tb σ H1 λy H2=>R x y H2){α:Type}{Q:α->TW->Prop}{f:T0->T0->Sem α}(hf:∀v u s2 x y H2,Inv X pins σ H2 s2->RelV x v->RelV y u->R x y H2->wpAny (model X.prog X.w) X.A (f v u) Q X.xe s2) :
  wpAny (model X.prog X.w) X.A (eval a X.env) (λv s₁=>wpAny (model X.prog X.w) X.A (eval b X.env) (λu s₂=>wpAny (model X.prog X.w) X.A (f v u) Q X.xe s₂) X.xe s₁) X.xe s:=by
 refine bU (ha pins s σ H _ I h) λv s1 ⟨x,H1,I1,r1,q1⟩=>?_;refine bU (hb pins s1 σ H1 _ I1 q1) λu s2 ⟨y,H2,I2,r2,q2⟩=>?_;exact hf v u s2 x y H2 I2 r1 r2 q2
def To(i:Nat):TE:=λσ H Q=>∃v,σ[i]?=some (some v)/\Q v H
def tC(v:V):TE:=λ_ H Q=>Q v H
def Tp{i:Nat}{x:Str}{pos:Pos}(hN:X.N[i]?=some x)(hv:Ys X.env.scope x)(hd:(x==("__debug__":Str))=false:=by decide)(ue:(x==("__classdict__":Str))=false:=by decide):PE X (.Name x pos) (To i):=by
 intro pins s σ H Q I h;obtain⟨v,e,h⟩:=h;obtain⟨m,hn,hl⟩:=I.loc;obtain⟨u,r,l⟩:=hl i x v hN e hv;have fin:EP X pins σ Q u s:=⟨v,H,I,r,h⟩;rcases l with⟨hk,hm⟩|⟨hk,c,hc,mm⟩
 ·exact wpAny_Name (wpAny_loadName_local I.ok.kind hk hn hm fin) hd
 ·rcases hk with hk|hk
  ·exact wpAny_Name (wpAny_loadName_cell I.ok.kind hk hc mm fin) hd
  ·exact wpAny_Name (wpAny_loadName_free I.ok.kind hk hc mm fin ue) hd
def Tq{i j pos}:PE X (.Constant (.int i) j pos) (tC (.int i)):=λ_ _ _ H _ I h=>wpAny_Constant_int ⟨.int i,H,I.tok _,⟨_,rfl⟩,h⟩
def Yt{b j pos}:PE X (.Constant (.bool b) j pos) (tC (.bl b)):=λ_ _ _ H _ I h=>Constant_bool ⟨.bl b,H,I,rfl,h⟩
def Tr{j pos}:PE X (.Constant .none j pos) (tC .non):=λ_ _ _ H _ I h=>Constant_none ⟨.non,H,I,rfl,h⟩
def Ts{x j pos}:PE X (.Constant (.str x) j pos) (tC (.str x)):=λ_ _ _ H _ I h=>Calls.Constant_str ⟨.str x,H,I.tok _,⟨_,rfl⟩,h⟩
def Gl(X:Cx)(x:Str):Prop:=X.env.kindOf x=some .globalImplicit
def iC{E:X9}{pins:ZB}{s:TW}{σ:St}{H:Hp}{x:Str}{u:T0}{pos:Pos}{Q:X9}(I:Inv X pins σ H s)(hg:Gl X x)(hm:X.mg x=some u)(h:Q u s)(hd:(x==("__debug__":Str))=false:=by decide):wpAny (model X.prog X.w) X.A (eval (.Name x pos) X.env) Q E s:=
 Calls.Name_function_global I.ok.kind hg (Calls.loadGlobal_global (by rw[I.ok.glob];exact I.mod.glob.keeps I.bk) hm h) hd
def mO{E:X9}{pins:ZB}{s:TW}{σ:St}{H:Hp}{x:Str}{u:T0}{pos:Pos}{Q:X9}(I:Inv X pins σ H s)(hg:Gl X x)(hm:X.mg x=none)(hv:bootBuiltins x=some u)(h:Q u s)(hn:x≠"__name__":=by decide)(hd:(x==("__debug__":Str))=false:=by decide):wpAny (model X.prog X.w) X.A (eval (.Name x pos) X.env) Q E s:=by
 obtain⟨mb,h1,h2⟩:=I.mod.blt;exact Calls.Name_function_global I.ok.kind hg (Calls.loadGlobal_builtin (by rw[I.ok.glob];exact I.mod.glob.keeps I.bk) hm (by rw[I.ok.blt];exact h1.keeps I.bk) ((h2 x hn).trans hv) h) hd
def tG{x:Str}{v:V}{u:T0}{pos:Pos}(hg:Gl X x)(hm:X.mg x=some u)(r:RelV v u)(hd:(x==("__debug__":Str))=false:=by decide):PE X (.Name x pos) (tC v):=
 λ_ _ _ H _ I h=>iC I hg hm ⟨v,H,I,r,h⟩ hd
def Af{x:Str}{v:V}{u:T0}{pos:Pos}(hg:Gl X x)(hm:X.mg x=none)(hv:bootBuiltins x=some u)(r:RelV v u)(hn:x≠"__name__":=by decide)(hd:(x==("__debug__":Str))=false:=by decide):PE X (.Name x pos) (tC v):=
 λ_ _ _ H _ I h=>mO I hg hm hv ⟨v,H,I,r,h⟩ hn hd
variable {a b:Expr}{ta tb:TE}{pos:Pos}
def PC(X:Cx)(op:CmpOp)(a b:Expr)(t:TE):Prop:=
 ∀(pins:ZB)(s:TW)(σ:St)(H:Hp)(Q:VK),Inv X pins σ H s->t σ H Q →
  wpAny (model X.prog X.w) X.A (eval a X.env) (λv s₁=>wpAny (model X.prog X.w) X.A (eval b X.env) (λu s₂=>wpAny (model X.prog X.w) X.A (compareOp op v u) (EP X pins σ Q) X.xe s₂) X.xe s₁) X.xe s
def tB(t:TE):TT:=λσ H Q=>t σ H λx H1=>∃c,x=.bl c/\Q c H1
def aBm{op:CmpOp}{t:TE}(h:PC X op a b t)(h1:behindInMarks op b=false:=by first|exact JH _ Zd Zd|rfl):PT X (.Compare a [op] [b] pos) (tB t):=by
 intro pins s σ H Q I hw;refine wpAny_isTrue_Compare1 (bU (h pins s σ H _ I hw) λv s1 h1=>bU h1 λu s2 h2=>bU h2 λc s3 ⟨x,H1,I1,r1,q1⟩=>?_) h1;obtain⟨d,rfl,q⟩:=q1;cases r1;exact wpAny_truthy_bool ⟨H1,I1,q⟩
def Tt{e:Expr}{t:TE}(h:PE X e t)(he:∀whole,isTrue e X.env whole=(do let v←whole;standAt e.pos;holding [v] (truthy v)):=by intro _;rfl):PT X e (tB t):=by
 intro pins s σ H Q I hw;refine isTrue_plain (bU (h pins s σ H _ I hw) λv s1 ⟨x,H1,I1,r1,q1⟩=>?_) (he _);obtain⟨d,rfl,q⟩:=q1;cases r1;exact wpAny_truthy_bool ⟨H1,I1,q⟩
variable {tA CI:TT}{rest:List Expr}
def Nd(t u:TT):TT:=λσ H Q=>t σ H λc H1=>if c=true then u σ H1 Q else Q false H1
def tOr(t u:TT):TT:=λσ H Q=>t σ H λc H1=>if c=true then Q true H1 else u σ H1 Q
def Yu(t:TT):TT:=λσ H Q=>t σ H λc H1=>Q (!c) H1
def Nf(ha:PT X a tA):PW X (.BoolOp .And [a] pos) tA:=by
 intro wh pins s σ H Q I h;refine isTrue_and (bU (ha pins s σ H Q I h) λc s1 e=>?_)
 cases c with
 | true=>exact isTrue_and_nil e
 | false=>exact e
def Tu(ha:PT X a tA):PW X (.BoolOp .Or [a] pos) tA:=by
 intro wh pins s σ H Q I h;refine isTrue_or (bU (ha pins s σ H Q I h) λc s1 e=>?_)
 cases c with
 | false=>exact isTrue_or_nil e
 | true=>exact e
def Tv(ha:PT X a tA)(hb:PW X (.BoolOp .And (b::rest) pos) CI):PW X (.BoolOp .And (a::b::rest) pos) (Nd tA CI):=by
 intro wh pins s σ H Q I h;refine isTrue_and (bU (ha pins s σ H _ I h) λc s1 ⟨H1,I1,q1⟩=>?_)
 cases c with
 | true=>exact hb wh pins s1 σ H1 Q I1 q1
 | false=>exact⟨H1,I1,q1⟩
def Yv(ha:PT X a tA)(hb:PW X (.BoolOp .Or (b::rest) pos) CI):PW X (.BoolOp .Or (a::b::rest) pos) (tOr tA CI):=by
 intro wh pins s σ H Q I h;refine isTrue_or (bU (ha pins s σ H _ I h) λc s1 ⟨H1,I1,q1⟩=>?_)
 cases c with
 | true=>exact⟨H1,I1,q1⟩
 | false=>exact hb wh pins s1 σ H1 Q I1 q1
def Tw(ha:PT X a tA):PT X (.UnaryOp .Not a pos) (Yu tA):=by
 intro pins s σ H Q I h;exact isTrue_not (ha pins s σ H (λc H1=>Q (!c) H1) I h)
def Fy(ta tb:TE):TE:=λσ H Q=>ta σ H λx H1=>∃c,x=.bl c/\if c=true then tb σ H1 Q else Q (.bl false) H1
def Tx(ta tb:TE):TE:=λσ H Q=>ta σ H λx H1=>∃c,x=.bl c/\if c=true then Q (.bl true) H1 else tb σ H1 Q
def Fz(ta:TE):TE:=λσ H Q=>ta σ H λx H1=>∃c,x=.bl c/\Q (.bl (!c)) H1
def Ty{op}{t:TE}(h:PE X a t):PE X (.BoolOp op [a] pos) t:=λpins s σ H Q I hw=>BoolOp_one (h pins s σ H Q I hw)
def Tz(ha:PE X a ta)(hb:PE X (.BoolOp .And (b::rest) pos) tb):PE X (.BoolOp .And (a::b::rest) pos) (Fy ta tb):=by
 intro pins s σ H Q I h;refine BoolOp_and (bU (ha pins s σ H _ I h) λv s1 ⟨x,H1,I1,r1,q1⟩=>?_);obtain⟨c,rfl,q1⟩:=q1;cases r1;refine wpAny_truthy_bool ?_
 cases c with
 | true=>exact hb pins s1 σ H1 Q I1 q1
 | false=>exact⟨.bl false,H1,I1,rfl,q1⟩
def Yw(ha:PE X a ta)(hb:PE X (.BoolOp .Or (b::rest) pos) tb):PE X (.BoolOp .Or (a::b::rest) pos) (Tx ta tb):=by
 intro pins s σ H Q I h;refine BoolOp_or (bU (ha pins s σ H _ I h) λv s1 ⟨x,H1,I1,r1,q1⟩=>?_);obtain⟨c,rfl,q1⟩:=q1;cases r1;refine wpAny_truthy_bool ?_
 cases c with
 | false=>exact hb pins s1 σ H1 Q I1 q1
 | true=>exact⟨.bl true,H1,I1,rfl,q1⟩
def Ua(ha:PE X a ta):PE X (.UnaryOp .Not a pos) (Fz ta):=by
 intro pins s σ H Q I h;refine UnaryOp_ (bU (ha pins s σ H _ I h) λv s1 ⟨x,H1,I1,r1,q1⟩=>?_);obtain⟨c,rfl,q1⟩:=q1;cases r1;exact not_of (wpAny_truthy_bool ⟨.bl (!c),H1,I1,rfl,q1⟩)
end
def SqL(K:W.Frag)(H:Hp)(a:UF)(xs:List V):Prop:=
 Rd H a (.lst xs)∨
  ∃(o:Obj)(its:Array Value)(n:Nat),K.lookup a=some o/\o.cls=.type "list"/\o.dict=none/\o.data=.seq its n/\its.size<=sizeLine/\Vals xs its.toList
def SqT(K:W.Frag)(H:Hp)(a:UF)(xs:List V):Prop:=
 Rd H a (.tup xs)∨
  ∃(o:Obj)(its:Array Value)(n:Nat),K.lookup a=some o/\o.cls=.type "tuple"/\o.data=.seq its n/\its.size<=sizeLine/\Vals xs its.toList
def aBn:T0->Option V
 | .none=>some .non
 | .bool b=>some (.bl b)
 | .int i _=>some (.int i)
 | .str x _=>some (.str x)
 | .bytes b _=>some (.byt b)
 | .float b _=>some (.flt b)
 | .ref a=>some (.ref a)
 | .type n=>some (.ty n)
 | _=>none
def RelV.abs{x:V}{u:T0}(r:RelV x u):aBn u=some x:=by
 cases x with
 | non=>cases r;rfl
 | bl _=>cases r;rfl
 | int _=>obtain⟨t,rfl⟩:=r;rfl
 | str _=>obtain⟨t,rfl⟩:=r;rfl
 | byt _=>obtain⟨t,rfl⟩:=r;rfl
 | flt _=>obtain⟨t,rfl⟩:=r;rfl
 | ref _=>cases r;rfl
 | ty _=>cases r;rfl
def RelV.inj{x y:V}{u:T0}(r:RelV x u)(q:RelV y u):x=y:=Option.some.inj (r.abs.symm.trans q.abs)
def Vals.inj:∀ {xs ys:List V}{us:List T0},Vals xs us->Vals ys us->xs=ys
 | _,_,_,.nil,.nil=>rfl
 | _,_,_,.cons r t,.cons r' t'=>by rw[r.inj r',Vals.inj t t']
section
variable {X:Cx}{pins:ZB}{σ:St}{H:Hp}{s:TW}{a:UF}{xs ys:List V}
def SqL.of{K:W.Frag}(h:H a=some (.lst xs)):SqL K H a xs:=.inl (.inl h)
def QYU:=@SqL.of
def SqT.of{K:W.Frag}(h:H a=some (.tup xs)):SqT K H a xs:=.inl (.inl h)
def QYV:=@SqT.of
def Inv.list(I:Inv X pins σ H s)(h:SqL X.K H a xs):∃its:List T0,Vals xs its/\PlainL s.heap a its.toArray/\xs.length<=sizeLine:=by
 rcases h with h|⟨o,its,n,hk,hc,hd,hs,hz,r⟩
 ·obtain⟨z,its,n,r,e⟩:=h.ok I.hok;exact⟨its,r,⟨_,n,e,rfl,rfl,rfl⟩,z⟩
 ·refine⟨its.toList,r,⟨o,n,I.kIn a o hk,hc,hd,by simpa using hs⟩,?_⟩;have e:=r.length;simp only [Array.length_toList]at e;omega
def Inv.tuple(I:Inv X pins σ H s)(h:SqT X.K H a xs):∃its:List T0,Vals xs its/\IsTup s.heap a its.toArray/\xs.length<=sizeLine:=by
 rcases h with h|⟨o,its,n,hk,hc,hs,hz,r⟩
 ·obtain⟨z,its,r,p⟩:=h.ok I.hok;exact⟨its,r,p,z⟩
 ·refine⟨its.toList,r,⟨o,I.kIn a o hk,hc,n,by simpa using hs⟩,?_⟩;have e:=r.length;simp only [Array.length_toList]at e;omega
def Inv.list_inj(I:Inv X pins σ H s)(h:SqL X.K H a xs)(h':SqL X.K H a ys):xs=ys:=by
 obtain⟨its,r,⟨o,n,e,_,_,d⟩,_⟩:=I.list h;obtain⟨its',r',⟨o',n',e',_,_,d'⟩,_⟩:=I.list h';rw[e]at e';cases e';rw[d]at d';injection d' with d1 _
 have:its=its':=by simpa using congrArg Array.toList d1
 subst this;exact r.inj r'
def Inv.tuple_inj(I:Inv X pins σ H s)(h:SqT X.K H a xs)(h':SqT X.K H a ys):xs=ys:=by
 obtain⟨its,r,⟨o,e,_,n,d⟩,_⟩:=I.tuple h;obtain⟨its',r',⟨o',e',_,n',d'⟩,_⟩:=I.tuple h';rw[e]at e';cases e';rw[d]at d';injection d' with d1 _
 have:its=its':=by simpa using congrArg Array.toList d1
 subst this;exact r.inj r'
end
abbrev Cx.wish(X:Cx)(E:X9):Cx:={X with xe:=E }
abbrev Cx.nox(X:Cx):Cx:=X.wish λ_ _=>False
def Cx.Ok.wish{X:Cx}(ok:X.Ok)(E:X9):(X.wish E).Ok:=
 ⟨ok.mod,ok.kind,ok.glob,ok.blt,ok.above,ok.inj,ok.has,ok.cab,ok.hd,ok.frames,ok.stk,ok.exf,ok.bs,ok.bsz,ok.noex,ok.exfs,ok.funs,ok.frf⟩
def Cx.Ok.unwish{X:Cx}{E:X9}(ok:(X.wish E).Ok):X.Ok:=
 ⟨ok.mod,ok.kind,ok.glob,ok.blt,ok.above,ok.inj,ok.has,ok.cab,ok.hd,ok.frames,ok.stk,ok.exf,ok.bs,ok.bsz,ok.noex,ok.exfs,ok.funs,ok.frf⟩
section
variable {X:Cx}{pins:ZB}{σ:St}{H:Hp}{s:TW}{E:X9}
def Inv.wish(I:Inv X pins σ H s)(E:X9):Inv (X.wish E) pins σ H s:=⟨I.ok.wish E,I.os,I.bare,I.base,I.loc,I.cell,I.free,I.freeC,I.pin,I.hok,I.len⟩
def Inv.unwish(I:Inv (X.wish E) pins σ H s):Inv X pins σ H s:=⟨I.ok.unwish,I.os,I.bare,I.base,I.loc,I.cell,I.free,I.freeC,I.pin,I.hok,I.len⟩
def SP.unwish{D:kK}{f:Flow}{s':TW}(h:SP (X.wish E) pins D f s'):SP X pins D f s':=by
 cases f with
 | next=>obtain⟨σ',H',I,q⟩:=h;exact⟨σ',H',I.unwish,q⟩
 | brk=>obtain⟨σ',H',I,q⟩:=h;exact⟨σ',H',I.unwish,q⟩
 | cont=>obtain⟨σ',H',I,q⟩:=h;exact⟨σ',H',I.unwish,q⟩
 | ret u=>obtain⟨v,σ',H',I,r,q⟩:=h;exact⟨v,σ',H',I.unwish,r,q⟩
def PSs.nox{st:List Stmt}{t:TS}(h:PSs X.nox st t):PSs X st t:=λpins s σ H D I hw=>
 wpAny_mono (h pins s σ H D (I.wish _) hw) (λ_ _ q=>q.unwish) λ_ _ z=>False.elim z
end
section
variable {X:Cx}{st:Stmt}{rest:List Stmt}{t u:TS}{e:Expr}{te:TE}{pos:Pos}
def kP:TS:=λD σ H=>D.nx σ H
def yA(t u:TS):TS:=λD σ H=>t {D with nx:=u D } σ H
def Ng:PSs X [] kP:=λ_ _ σ H _ I h=>wpAny_execs_nil ⟨σ,H,I,h⟩
def Ga(h1:PS X st t)(h2:PSs X rest u):PSs X (st::rest) (yA t u):=by
 intro pins s σ H D I h;refine wpAny_execs_cons (bU (h1 pins s σ H {D with nx:=u D } I h) λf s1 q=>?_)
 cases f with
 | next=>
  obtain⟨σ',H',I',q⟩:=q;exact h2 pins s1 σ' H' D I' q
 | ret v=>exact q
 | brk=>exact q
 | cont=>exact q
def Nh(h1:PS X st t):PSs X [st] t:=by
 intro pins s σ H D I h;refine wpAny_execs_cons (bU (h1 pins s σ H D I h) λf s1 q=>?_)
 cases f with
 | next=>exact wpAny_execs_nil q
 | ret v=>exact q
 | brk=>exact q
 | cont=>exact q
def Inv.quiet{pins:ZB}{σ:St}{H:Hp}{s:TW}(I:Inv X pins σ H s):interactive X.env=false:=by simp[interactive,I.ok.kind]
def Rv(te:TE):TS:=λD σ H=>te σ H λ_ H1=>D.nx σ H1
def Ni(he:PE X e te)(hs:swapsWith e none pos.line X.env=pure false:=by rfl):PS X (.Expr e pos) (Rv te):=by
 intro pins s σ H D I h;exact wpAny_Expr_any (bU (he pins s σ H _ I h) λv s1 ⟨x,H1,I1,r1,q1⟩=>⟨σ,H1,I1,q1⟩) I.quiet hs
def Yx(te:TE):TS:=λD σ H=>te σ H D.rt
def Ub(he:PE X e te):PS X (.Return (some e) pos) (Yx te):=by
 intro pins s σ H D I h;exact wpAny_Return_some (bU (he pins s σ H _ I h) λv s1 ⟨x,H1,I1,r1,q1⟩=>⟨x,σ,H1,I1,r1,q1⟩)
def Gb(c:TT)(t u:TS):TS:=λD σ H=>c σ H λb H1=>if b=true then t D σ H1 else u D σ H1
def Yy{c:Expr}{a b:List Stmt}{tc:TT}(hc:PT X c tc)(ha:PSs X a t)(hb:PSs X b u):PS X (.If c a b pos) (Gb tc t u):=by
 intro pins s σ H D I h;refine wpAny_If (bU (hc pins s σ H _ I h) λd s1 ⟨H1,I1,q1⟩=>?_)
 cases d with
 | true=>exact ha pins s1 σ H1 D I1 q1
 | false=>exact hb pins s1 σ H1 D I1 q1
end
abbrev TG:=V->St->Hp->(St->Hp->Prop)->Prop
abbrev Ag:=List V->St->Hp->(St->Hp->Prop)->Prop
def PG(X:Cx)(target:Expr)(t:TG):Prop:=
 ∀(pins:ZB)(s:TW)(σ:St)(H:Hp)(v:V)(u:T0)(Q:St->Hp->Prop),Inv X pins σ H s->RelV v u->t v σ H Q →
  wpAny (model X.prog X.w) X.A (assign target X.env u) (λ_ s'=>∃ σ' H',Inv X pins σ' H' s'/\Q σ' H') X.xe s
def Yz(X:Cx)(ts:List Expr)(t:Ag):Prop:=
 ∀(pins:ZB)(s:TW)(σ:St)(H:Hp)(vs:List V)(us:List T0)(Q:St->Hp->Prop),Inv X pins σ H s->Vals vs us->t vs σ H Q →
  wpAny (model X.prog X.w) X.A (assignInOrder ((assignEach ts X.env).map (·.2)) us) (λ_ s'=>∃ σ' H',Inv X pins σ' H' s'/\Q σ' H') X.xe s
abbrev Cv:=V->V->V->Hp->(Hp->Prop)->Prop
def Nj(X:Cx)(t:Cv):Prop:=
 ∀(pins:ZB)(s:TW)(σ:St)(H:Hp)(o i v:V)(ov iv u:T0)(Q:Hp->Prop),Inv X pins σ H s->RelV o ov->RelV i iv->RelV v u->t o i v H Q →
  wpAny (model X.prog X.w) X.A (setItem ov iv u) (λ_ s'=>∃H',Inv X pins σ H' s'/\Q H') X.xe s
section
variable {X:Cx}{pos:Pos}
def aK(i:Nat):TG:=λv σ H Q=>Q (σ.set i (some v)) H
def Nk{i:Nat}{x:Str}(hN:X.N.Nodup)(hi:X.N[i]?=some x)(hx:Fu X.env.scope x)(hf:X.fn x=true∨X.env.scope.names.lookup x=some .local:=by first|exact .inl rfl|exact .inr rfl|assumption):PG X (.Name x pos) (aK i):=by
 intro pins s σ H v u Q I r h;exact wpAny_assign_Name (lE I hN hi hx r (λs' I'=>⟨_,H,I',h⟩) hf)
def Uc:Ag:=λvs σ H Q=>vs=[]/\Q σ H
def Gc(t:TG)(u:Ag):Ag:=λvs σ H Q=>∃v r,vs=v::r/\t v σ H λσ' H'=>u r σ' H' Q
def Nl:Yz X [] Uc:=by
 intro pins s σ H vs us Q I r h;obtain⟨e,h⟩:=h;subst e;cases r;exact assignInOrder_nil ⟨σ,H,I,h⟩
def Gd{e:Expr}{es:List Expr}{t:TG}{u:Ag}(h1:PG X e t)(h2:Yz X es u)(hs:(assignEach (e::es) X.env).map (·.2)=assign e X.env::(assignEach es X.env).map (·.2):=by rfl):Yz X (e::es) (Gc t u):=by
 intro pins s σ H vs us Q I r h;obtain⟨v,vr,e1,h⟩:=h;subst e1;cases r with
 | cons r rr=>
  rw[hs];refine assignInOrder_cons (bU (h1 pins s σ H _ _ _ I r h) λ_ s1 ⟨σ1,H1,I1,q1⟩=>?_);exact h2 pins s1 σ1 H1 _ _ Q I1 rr q1
def Nm(K:W.Frag)(n:Nat)(t:Ag):TG:=λv σ H Q=>∃a xs,v=.ref a/\SqT K H a xs/\xs.length=n/\t xs σ H Q
def Ud{es:List Expr}{k:Nat}{t:Ag}{n:Nat}(hc:X.calm=true)(h:Yz X es t)(hn:(assignEach es X.env).length=n:=by rfl)(ze:(assignEach es X.env).findIdx? (·.1)=none:=by rfl):PG X (.Tuple es k pos) (Nm X.K n t):=by
 intro pins s σ H v u Q I r hw;obtain⟨a,xs,e1,hq,hl,hw⟩:=hw;subst e1;cases r;obtain⟨its,rv,ht,hz⟩:=I.tuple hq;refine assign_Tuple_tuple (I.ok.hd hc) ht (by simp[hn,<- hl,rv.length]) ze λh' hx=>?_;have I1:Inv X pins σ H {s with heap:=h' }:=I.kept (t':=s.toks) λb o e=>hx b o (ne_of_lt (Heap.lt_size e)) e
 exact h pins _ σ H xs _ Q I1 (by simpa using rv) hw
def Za(to ti:TE)(t:Cv):TG:=λv σ H Q=>to σ H λo H1=>ti σ H1 λi H2=>t o i v H2 λH3=>Q σ H3
def Ue{o i:Expr}{to ti:TE}{t:Cv}(ho:PE X o to)(hi:PE X i ti)(hs:Nj X t)(ha:∀v,assign (.Subscript o i pos) X.env v=(do
   let ov←holding [v] (eval o X.env)
   let iv←holding [v,ov] (eval i X.env)
   standAt pos
   holding [v,ov,iv] (setItem ov iv v)
   release [v,ov,iv] []):=by intro _;rfl):PG X (.Subscript o i pos) (Za to ti t):=by
 intro pins s σ H v u Q I r h;rw[ha];refine X7 (wpAny_holding (bU (ho pins s σ H _ I h) λov s1 ⟨x,H1,I1,r1,q1⟩=>?_));refine X7 (wpAny_holding (bU (hi pins s1 σ H1 _ I1 q1) λiv s2 ⟨y,H2,I2,r2,q2⟩=>?_));refine X7 (wpAny_standAt (X7 (wpAny_holding (bU (hs pins s2 σ H2 x y v ov iv u _ I2 r1 r2 r q2) λ_ s3 ⟨H3,I3,q3⟩=>?_))));exact wpAny_release ⟨σ,H3,I3,q3⟩
def Ge(te:TE)(g:TG):TS:=λD σ H=>te σ H λx H1=>g x σ H1 D.nx
def Uf{tg e:Expr}{te:TE}{g:TG}(he:PE X e te)(hg:PG X tg g)(hs:swapsWithSole [tg] e pos.line X.env=pure false:=by rfl)(hw:swappedStores [tg] e X.env=pure none:=by rfl)(h1:(assignEach [tg] X.env).map (·.2)=[assign tg X.env]:=by rfl):PS X (.Assign [tg] e pos) (Ge te g):=by
 intro pins s σ H D I h;refine wpAny_Assign_stores (bU (he pins s σ H _ I h) λv s1 ⟨x,H1,I1,r1,q1⟩=>?_) hs hw;rw[h1];exact bU (hg pins s1 σ H1 x v _ I1 r1 q1) λ_ s2 q=>q
def Ug{i:Nat}{x:Str}{e:Expr}{te:TE}{pos':Pos}(hN:X.N.Nodup)(hi:X.N[i]?=some x)(hx:Fu X.env.scope x)(he:PE X e te)(hs:swapsWith e (some (.Name x pos')) pos.line X.env=pure false:=by rfl)(hf:X.fn x=true∨X.env.scope.names.lookup x=some .local:=by first|exact .inl rfl|exact .inr rfl|assumption) :
  PS X (.Assign [.Name x pos'] e pos) (Ge te (aK i)):=by
 intro pins s σ H D I h;refine wpAny_Assign_Name (bU (he pins s σ H _ I h) λv s1 ⟨y,H1,I1,r1,q1⟩=>?_) hs;exact lE I1 hN hi hx r1 (λs2 I2=>⟨_,H1,I2,q1⟩) hf
end
section
variable {X:Cx}{pos:Pos}
def Gf(c:TT)(tb:TS):TS:=λD σ H=>∃W:Nat->St->Hp->Prop,(∃m,W m σ H)/\∀m σ H,W m σ H →
 c σ H λb H1=>if b=true then ∃N:St->Hp->Prop,(∀ σ' H',N σ' H'->∃m',m'<m/\W m' σ' H')/\tb {D with nx:=N,ct:=N,bk:=D.nx } σ H1 else D.nx σ H1
def Gg{c:Expr}{body:List Stmt}{tc:TT}{tb:TS}(hp:PassesOwn (model X.prog X.w) X.A X.env X.xe)(hc:PT X c tc)(hb:PSs X body tb):PS X (.While c body [] pos) (Gf tc tb):=by
 intro pins s σ H D I h;obtain⟨W,⟨m0,w0⟩,turn⟩:=h;refine wpAny_While (codeAny_whileLoop (λn s'=>∃ σ' H',Inv X pins σ' H' s'/\W n σ' H') ?_ m0 ⟨σ,H,I,w0⟩);rintro n s1 ⟨σ1,H1,I1,w1⟩;refine wpAny_passesOwn hp (bU (hc pins s1 σ1 H1 _ I1 (turn n σ1 H1 w1)) λb s2 ⟨H2,I2,q2⟩=>?_)
 cases b with
 | true=>
  obtain⟨N,hN,q2⟩:=q2;rw[TD rfl];refine wpAny_passesOwn hp (bU (hb pins s2 σ1 H2 _ I2 q2) λf s3 q3=>?_)
  cases f with
  | next=>
   obtain⟨σ3,H3,I3,n3⟩:=q3;obtain⟨m',hm,w3⟩:=hN σ3 H3 n3;exact⟨m',hm,σ3,H3,I3,w3⟩
  | cont=>
   obtain⟨σ3,H3,I3,n3⟩:=q3;obtain⟨m',hm,w3⟩:=hN σ3 H3 n3;exact⟨m',hm,σ3,H3,I3,w3⟩
  | brk=>exact q3
  | ret v=>exact q3
 | false=>
  rw[P7 XV];exact wpAny_execs_nil ⟨σ1,H2,I2,q2⟩
end
structure It where
 go:Nat->Hp->Prop
 yld:Nat->Hp->V->Hp->Prop
 stop:Nat->Hp->Prop
def mP(X:Cx)(pins:ZB)(H:Hp)(b:UF):Prop:=
 H b=none/\b≠X.env.locals/\b∉X.fs/\(b∈X.ex∨X.s₀.heap.objs.size<=b)/\(∀x c,X.env.cells.lookup x=some c->c≠b)/\∀p∈X.pn++pins,p.1≠b
def Inv.fpOk{X:Cx}{pins:ZB}{σ:St}{H H':Hp}{s:TW}{b:UF}(I:Inv X pins σ H s)(hb:s.heap.objs.size<=b)(hn:H' b=none):mP X pins H' b:=by
 refine⟨hn,ne_of_gt (QZV I.lt hb),I.nofs hb,.inr (kN I.sz hb),λx c e z=>?_,λp hp z=>?_⟩
 ·obtain⟨v,q⟩:=I.cell x c e;exact QZZ (QZV q.lt (by rw[z];exact hb)) (lt_irrefl _)
 ·exact QZZ (QZV (Heap.lt_size (I.pin p hp).1) (by rw[z];exact hb)) (lt_irrefl _)
structure tH(P:Program)(w:World)(K:W.Frag)(tg:Expr)(J:It)(fp:List UF)(it:UF)(tn:Nat->Heap->Prop):Prop where
 mem:it∈fp
 obj:∀i h,tn i h->∀b∈fp,∃o,h.get? b=some o/\∀v,o.data≠.cell v
 keep:∀i h h',tn i h->(∀b∈fp,∀o,h.get? b=some o->h'.get? b=some o)->tn i h'
 item:∀(X:Cx),X.prog=P->X.w=w->X.K=K->X.calm=true->∀(i:Nat)(pins:ZB)(s:TW)(σ:St)(H:Hp)(E:X9),Inv X pins σ H s->(∀b∈fp,mP X pins H b)->tn i s.heap->J.go i H →
  wpAny (model P w) X.A (pyNext (.ref it)) (λr s1=>∃u,r=some u ∧
   wpAny (model P w) X.A (letOwnedTupleGo tg (.ref it) u) (λ_ s2=>∃x H',Inv X pins σ H' s2/\RelV x u/\J.yld i H x H'/\tn (i+1) s2.heap/\∀b∈fp,H' b=none) E s1) E s
 done:∀(X:Cx),X.prog=P->X.w=w->X.K=K->X.calm=true->∀(i:Nat)(pins:ZB)(s:TW)(σ:St)(H:Hp)(E:X9),Inv X pins σ H s->(∀b∈fp,mP X pins H b)->tn i s.heap->J.stop i H →
  wpAny (model P w) X.A (pyNext (.ref it)) (λr s1=>r=none/\Inv X pins σ H s1) E s
 self:∀(A:Around)(i:Nat)(s:TW)(Q:X9)(E:X9),tn i s.heap->Q (.ref it) s->wpAny (model P w) A (pyIter (.ref it)) Q E s
abbrev TI:=St->Hp->(It->Hp->Prop)->Prop
def PIE(X:Cx)(pins:ZB)(σ:St)(tg:Expr)(R:It->Hp->Prop)(MW:T0)(s2:TW):Prop:=
 ∃(it:UF)(fp:List UF)(tn:Nat->Heap->Prop)(J:It)(H':Hp),MW=.ref it/\Inv X pins σ H' s2/\tH X.prog X.w X.K tg J fp it tn/\tn 0 s2.heap/\(∀b∈fp,mP X pins H' b)/\R J H'
def PI(X:Cx)(tg iter:Expr)(wi:TI):Prop:=
 ∀(pins:ZB)(s:TW)(σ:St)(H:Hp)(R:It->Hp->Prop),Inv X pins σ H s->wi σ H R →
  wpAny (model X.prog X.w) X.A (eval iter X.env) (λv s1=>wpAny (model X.prog X.w) X.A (pyIter v) (PIE X pins σ tg R) X.xe s1) X.xe s
def vV{M:Model}{A:Around}{E:X9}{s:TW}{tg:Expr}{it:UF}{u:T0}{o:Obj}{n:String}{vs:Array Value}{Q:Unit->TW->Prop}(ho:s.heap.get? it=some o)(hc:o.cls=.type n)(hd:o.data=.fields vs)(hn:["enumerate","zip","dict_itemiterator","dict_reverseitemiterator","odict_iterator","itertools.zip_longest","itertools.pairwise"].contains n=false)(hQ:Q () s):wpAny M A (letOwnedTupleGo tg (.ref it) u) Q E s:=by
  unfold letOwnedTupleGo;cases tg<;>first
    | exact X6 hQ
    | (cases u <;> first
        | exact X6 hQ
        | (refine X7 (wpAny_load ho ?_)
           rw[hc,hd];show wpAny M A (if (["enumerate","zip","dict_itemiterator","dict_reverseitemiterator","odict_iterator","itertools.zip_longest","itertools.pairwise"].contains n&&vs[0]? == some (rawInt _))=true then _ else _) Q E s;rw[P7 (by intro h;rw[hn,Bool.false_and]at h;cases h)];exact X6 hQ))
def Itl(K:W.Frag)(a:UF):It:=
 ⟨λi H=>∃xs x,SqL K H a xs/\xs[i]?=some x,λi H x H'=>H'=H/\∀xs,SqL K H a xs->xs[i]?=some x,λi H=>∃xs,SqL K H a xs/\xs.length<=i⟩
def Itt(K:W.Frag)(a:UF):It:=
 ⟨λi H=>∃xs x,SqT K H a xs/\xs[i]?=some x,λi H x H'=>H'=H/\∀xs,SqT K H a xs->xs[i]?=some x,λi H=>∃xs,SqT K H a xs/\xs.length<=i⟩
def Itr(lo:Int)(n:Nat):It:=⟨λi _=>i<n,λi H x H'=>H'=H/\x=.int (lo+i),λi _=>n<=i⟩
def Cw{P:Program}{w:World}{K:W.Frag}{tg:Expr}(a it:UF):tH P w K tg (Itl K a) [it] it (λi h=>h.IsListIter it a i) where
 mem:=by simp
 obj:=λi h st b hb=>by
  have e:b=it:=by simpa using hb
  subst e;obtain⟨o,e,c,d⟩:=st;exact⟨o,e,λv z=>by rw[d]at z;cases z⟩
 keep:=λi h h' st k=>st.at λo e=>k it Zs o e
 item:=by
  intro X hP hw hK hc i pins s σ H E I hf st hg;subst hP hw hK;obtain⟨xs,x,hq,hx⟩:=hg;obtain⟨its,rv,p,hz⟩:=I.list hq;obtain⟨u,hu,ru⟩:=rv.get hx;obtain⟨f0,f1,f2,f3,f4,f5⟩:=hf it Zs;refine wpAny_pyNext_list_item st p.isList (x:=u) (by simpa using hu) λh' vn sb=>?_;have I1:Inv X pins σ H {s with heap:=h' }:=I.turned (t':=s.toks) (λb o hb e=>(sb.2 b hb).trans e) f0 f1 f3 f4 f5;obtain⟨o,e,c,d⟩:=id vn;exact⟨u,rfl,vV (s:={s with heap:=h' }) e c d Zd ⟨x,H,I1,ru,⟨rfl,λys hy=>by rw[I.list_inj hy hq];exact hx⟩,vn,λb hb=>(hf b hb).1⟩⟩
 done:=by
  intro X hP hw hK hc i pins s σ H E I hf st hg;subst hP hw hK;obtain⟨xs,hq,hx⟩:=hg;obtain⟨its,rv,p,hz⟩:=I.list hq;obtain⟨f0,f1,f2,f3,f4,f5⟩:=hf it Zs;have hl:=rv.length;exact wpAny_pyNext_list_end (I.ok.hd hc) st p.isList (by simp;omega) λh' eb=>⟨rfl,I.turned (t':=s.toks) (λb o hb e=>eb b o hb e) f0 f1 f3 f4 f5⟩
 self:=λ_ _ _ _ _ st h=>wpAny_pyIter_listiter st h
def yB{P:Program}{w:World}{K:W.Frag}{tg:Expr}(a it:UF):tH P w K tg (Itt K a) [it] it (λi h=>h.IsTupleIter it a i) where
 mem:=by simp
 obj:=λi h st b hb=>by
  have e:b=it:=by simpa using hb
  subst e;obtain⟨o,e,c,d⟩:=st;exact⟨o,e,λv z=>by rw[d]at z;cases z⟩
 keep:=λi h h' st k=>st.at λo e=>k it Zs o e
 item:=by
  intro X hP hw hK hc i pins s σ H E I hf st hg;subst hP hw hK;obtain⟨xs,x,hq,hx⟩:=hg;obtain⟨its,rv,p,hz⟩:=I.tuple hq;obtain⟨u,hu,ru⟩:=rv.get hx;obtain⟨f0,f1,f2,f3,f4,f5⟩:=hf it Zs;refine wpAny_pyNext_tuple_item st (show s.heap.IsTuple a its.toArray from p) (x:=u) (by simpa using hu) λh' vn sb=>?_;have I1:Inv X pins σ H {s with heap:=h' }:=I.turned (t':=s.toks) (λb o hb e=>(sb.2 b hb).trans e) f0 f1 f3 f4 f5;obtain⟨o,e,c,d⟩:=id vn;exact⟨u,rfl,vV (s:={s with heap:=h' }) e c d Zd ⟨x,H,I1,ru,⟨rfl,λys hy=>by rw[I.tuple_inj hy hq];exact hx⟩,vn,λb hb=>(hf b hb).1⟩⟩
 done:=by
  intro X hP hw hK hc i pins s σ H E I hf st hg;subst hP hw hK;obtain⟨xs,hq,hx⟩:=hg;obtain⟨its,rv,p,hz⟩:=I.tuple hq;obtain⟨f0,f1,f2,f3,f4,f5⟩:=hf it Zs;have hl:=rv.length;exact wpAny_pyNext_tuple_end (I.ok.hd hc) st (show s.heap.IsTuple a its.toArray from p) (by simp;omega) λh' eb=>⟨rfl,I.turned (t':=s.toks) (λb o hb e=>eb b o hb e) f0 f1 f3 f4 f5⟩
 self:=λ_ _ _ _ _ st h=>wpAny_pyIter_tupleiter st h
def yC{P:Program}{w:World}{K:W.Frag}{tg:Expr}(it:UF)(lo:Int)(n:Nat):tH P w K tg (Itr lo n) [it] it (λi h=>IsRangeIter h it (lo+(i:Nat)*1) ((n:Int)-(i:Nat)) 1) where
 mem:=by simp
 obj:=λi h st b hb=>by
  have e:b=it:=by simpa using hb
  subst e;exact⟨_,st,λv z=>by
   have z':Data.fields _=Data.cell v:=z;cases z'⟩
 keep:=λi h h' st k=>k it Zs _ st
 item:=by
  intro X hP hw hK hc i pins s σ H E I hf st hg;subst hP hw hK;obtain⟨f0,f1,f2,f3,f4,f5⟩:=hf it Zs;have W:=Walks.range (prog:=X.prog) (w:=X.w) (I.ok.hd hc) it lo 1 n;refine W.item i s _ _ hg st λv h' tk hv vn kk=>?_;obtain⟨t,rfl⟩:=hv;have I1:Inv X pins σ H {s with heap:=h',toks:=tk }:=I.turned (λb o hb e=>kk b o (by simpa using hb) e) f0 f1 f3 f4 f5;refine⟨_,rfl,vV (s:={s with heap:=h',toks:=tk }) (n:="range_iterator") vn rfl rfl Zd ⟨.int (lo+i),H,I1,⟨t,?_⟩,⟨rfl,rfl⟩,vn,λb hb=>(hf b hb).1⟩⟩;rw[Int.mul_one]
 done:=by
  intro X hP hw hK hc i pins s σ H E I hf st hg;subst hP hw hK;obtain⟨f0,f1,f2,f3,f4,f5⟩:=hf it Zs;exact wpAny_pyNext_range_end (I.ok.hd hc) st (by have:n<=i:=hg;omega) λh' eb=>⟨rfl,I.turned (t':=s.toks) (λb o hb e=>eb b o hb e) f0 f1 f3 f4 f5⟩
 self:=λ_ _ _ _ _ st h=>wpAny_pyIter_rangeiter st h
section
variable {X:Cx}{tg:Expr}
def Gh(K:W.Frag)(tl:TE):TI:=λσ H R=>tl σ H λx H1=>∃a,x=.ref a/\(∃xs,SqL K H1 a xs)/\R (Itl K a) H1
def Uh(K:W.Frag)(tl:TE):TI:=λσ H R=>tl σ H λx H1=>∃a,x=.ref a/\(∃xs,SqT K H1 a xs)/\R (Itt K a) H1
def Nn{l:Expr}{tl:TE}(hl:PE X l tl):PI X tg l (Gh X.K tl):=by
 intro pins s σ H R I h;refine bU (hl pins s σ H _ I h) λv s1 ⟨x,H1,I1,r1,q1⟩=>?_
 obtain⟨a,e,⟨xs,hq⟩,q⟩:=q1;subst e;cases r1;obtain⟨its,rv,p,hz⟩:=I1.list hq;refine wpAny_pyIter_list p.isList ?_;refine⟨s1.heap.objs.size,[s1.heap.objs.size],_,_,H1,rfl,I1.kept (t':=s1.toks) λb o e=>eP _ e,Cw a _,⟨_,UV _ rfl,rfl,rfl⟩,λb hb=>?_,q⟩;have e:b=s1.heap.objs.size:=by simpa using hb
 subst e;exact I1.fpOk (bQ _) (I1.hok.fresh (bQ _))
def Ui{l:Expr}{tl:TE}(hl:PE X l tl):PI X tg l (Uh X.K tl):=by
 intro pins s σ H R I h;refine bU (hl pins s σ H _ I h) λv s1 ⟨x,H1,I1,r1,q1⟩=>?_
 obtain⟨a,e,⟨xs,hq⟩,q⟩:=q1;subst e;cases r1;obtain⟨its,rv,p,hz⟩:=I1.tuple hq;refine wpAny_pyIter_tuple (show s1.heap.IsTuple a its.toArray from p) ?_;refine⟨s1.heap.objs.size,[s1.heap.objs.size],_,_,H1,rfl,I1.kept (t':=s1.toks) λb o e=>eP _ e,yB a _,⟨_,UV _ rfl,rfl,rfl⟩,λb hb=>?_,q⟩;have e:b=s1.heap.objs.size:=by simpa using hb
 subst e;exact I1.fpOk (bQ _) (I1.hok.fresh (bQ _))
def Gi{pins:ZB}{σ:St}{H:Hp}{s:TW}{R:It->Hp->Prop}{E:X9}{lo hi:Int}{t u v:Tok}{tk:Nat}(I:Inv X pins σ H s)(h1:-(2^62)<=lo)(h2:lo<2^62)(h3:-(2^62)<=hi)(h4:hi<2^62)(q:R (Itr lo (hi-lo).toNat) H):wpAny (model X.prog X.w) X.A (pyIter (.ref s.heap.objs.size)) (PIE X pins σ tg R) E {s with heap:=s.heap.push {cls:=.type "range",data:=.fields #[.int lo t,.int hi u,.int 1 v] },toks:=tk }:=by
 refine wpAny_pyIter_range (IsRange.new ..) (small_one h1 h2 h3 h4) ?_;have I1:Inv X pins σ H {s with heap:=s.heap.push {cls:=.type "range",data:=.fields #[.int lo t,.int hi u,.int 1 v] },toks:=tk }:=I.kept λb o e=>eP _ e
 refine⟨(s.heap.push {cls:=.type "range",data:=.fields #[.int lo t,.int hi u,.int 1 v] }).objs.size,[(s.heap.push {cls:=.type "range",data:=.fields #[.int lo t,.int hi u,.int 1 v] }).objs.size],_,_,H,rfl,
  I1.kept (t':=tk) λb o e=>eP _ e,yC _ lo (hi - lo).toNat,?_,λb hb=>?_,q⟩
 ·have e1:lo+((0:Nat):Int)*1=lo:=by simp
  have e2:(((hi-lo).toNat:Nat):Int)-((0:Nat):Int)=Builtin.Range.rangeSize lo hi 1:=by rw[rangeSize_one];split<;>omega
  show IsRangeIter _ _ (lo+((0:Nat):Int)*1) ((((hi-lo).toNat:Nat):Int)-((0:Nat):Int)) 1;rw[e1,e2];exact UV _ rfl
 ·have e:b=(s.heap.push {cls:=.type "range",data:=.fields #[.int lo t,.int hi u,.int 1 v] }).objs.size:=by simpa using hb
  subst e;exact I1.fpOk (bQ _) (I1.hok.fresh (bQ _))
def Rw(ta:TA):TI:=λσ H R=>ta σ H λvs H1=>∃j:Int,vs=[.int j]/\-(2^62)<=j/\j<2^62/\R (Itr 0 j.toNat) H1
def Cy{a:Expr}{ta:TA}{p pos:Pos}(hg:Gl X "range")(hm:X.mg "range"=none)(ha:PA X [a] ta)(hs:starEach [a] X.env=[(false,eval a X.env)]:=by rfl):PI X tg (.Call (.Name "range" p) [a] [] pos) (Rw ta):=by
 intro pins s σ H R I h;refine Call_ (mO I hg hm boot_range (PyProof.Rows.callWith_type1 (bU (ha pos pins s σ H _ I h) λus s1 ⟨vs,H1,I1,r1,q1⟩=>?_) hs rfl));obtain⟨j,e,q1,q2,q⟩:=q1;subst e;cases r1 with
 | cons r rr=>
  cases rr;obtain⟨t,rfl⟩:=r;exact call_range_1 (Gi I1 Zo Zo q1 q2 (by simpa using q))
def Zb(wi:TI)(g:TG)(tb:TS):TS:=λD σ H=>wi σ H λJ H1=>∃W:Nat->Nat->St->Hp->Prop,(∃m,W 0 m σ H1)/\∀i m σ H,W i m σ H →
 (J.stop i H/\D.nx σ H)∨(J.go i H/\∃N:St->Hp->Prop,(∀ σ' H',N σ' H'->∃m',m'<m/\W (i+1) m' σ' H')/\∀x H',J.yld i H x H'->g x σ H' λσ2 H2=>tb {D with nx:=N,ct:=N,bk:=D.nx } σ2 H2)
def pB(fp:List UF)(h:Heap):List (UF×Obj):=fp.filterMap λb=>(h.get? b).map λo=>(b,o)
def iD{fp:List UF}{h:Heap}{b:UF}{o:Obj}(hb:b∈fp)(e:h.get? b=some o):(b,o)∈pB fp h:=mem_filterMap.mpr ⟨b,hb,by rw[e];rfl⟩
def Cz{fp:List UF}{h:Heap}{p:UF×Obj}(hp:p∈pB fp h):p.1∈fp/\h.get? p.1=some p.2:=by
 obtain⟨b,hb,e⟩:=mem_filterMap.mp hp
 cases q:h.get? b with
 | none=>rw[q]at e;cases e
 | some o=>
  rw[q]at e;have e':(b,o)=p:=Option.some.inj e;subst e';exact⟨hb,q⟩
def Inv.pinned{pins:ZB}{σ:St}{H:Hp}{s:TW}{fp:List UF}(I:Inv X pins σ H s)(hf:∀b∈fp,mP X pins H b)(ho:∀b∈fp,∃o,s.heap.get? b=some o/\∀v,o.data≠.cell v):Inv X (pins++pB fp s.heap) σ H s:=
 I.pins_of λp hp=>(Zma.mp hp).elim (λz=>I.pin p (QZW _ z)) λz=>by
  obtain⟨hb,e⟩:=Cz z;obtain⟨f0,f1,f2,_⟩:=hf p.1 hb;obtain⟨o,e',d⟩:=ho p.1 hb;rw[e]at e';cases e';exact⟨e,f0,f1,f2,d⟩
def Inv.unpinned{pins pl:ZB}{σ:St}{H:Hp}{s:TW}(I:Inv X (pins++pl) σ H s):Inv X pins σ H s:=I.pins_of λp hp=>I.pin p (QZW _ (QZX _ hp))
def Uj{iter:Expr}{body:List Stmt}{wi:TI}{g:TG}{tb:TS}{pos:Pos}(hp:PassesOwn (model X.prog X.w) X.A X.env X.xe)(hc:X.calm=true)(hi:PI X tg iter wi)(hg:PG X tg g)(hb:PSs X body tb)(hs:∀x,foldedSetIterable iter X.env x=pure x:=by intro _;rfl):PS X (.For tg iter body [] pos) (Zb wi g tb):=by
 intro pins s σ H D I h;refine wpAny_For (bU (hi pins s σ H _ I h) λv s1 h1=>bU h1 λMW s2 h2=>?_) hs;obtain⟨it,fp,tn,J,H2,e,I2,T,CJ,f2,W,⟨m0,w0⟩,turn⟩:=h2;subst e;have ER:∀ {H':Hp},(∀b∈fp,H' b=none)->∀b∈fp,mP X pins H' b:=λhn b hb=>⟨hn b hb,(f2 b hb).2⟩
 refine codeAny_forLoop_any (λn s'=>∃i σ' H',Inv X pins σ' H' s'/\tn i s'.heap/\(∀b∈fp,H' b=none)/\W i n σ' H') ?_ m0 ⟨0,σ,H2,I2,CJ,λb hb=>(f2 b hb).1,w0⟩;rintro n s3 ⟨i,σ3,H3,I3,JI,JJ,w3⟩;rcases turn i n σ3 H3 w3 with⟨stop,qn⟩|⟨go,N,hN,step⟩
 ·refine wpAny_passesOwn hp (bU (T.done X rfl rfl rfl hc i pins s3 σ3 H3 X.xe I3 (ER JJ) JI stop) λr s4 ⟨hr,I4⟩=>?_);subst hr;exact wpAny_execs_nil ⟨σ3,H3,I4,qn⟩
 ·refine wpAny_passesOwn hp (bU (T.item X rfl rfl rfl hc i pins s3 σ3 H3 X.xe I3 (ER JJ) JI go) λr s4 ⟨u,hr,h4⟩=>?_);subst hr;refine wpAny_passesOwn hp (bU h4 λ_ s5 ⟨x,H5,I5,r5,y5,ES,OL⟩=>?_);have OM:=I5.pinned (ER OL) (T.obj _ _ ES);refine wpAny_passesOwn hp (bU (hg _ s5 σ3 H5 x u _ OM r5 (step x H5 y5)) λ_ s6 ⟨σ6,H6,I6,q6⟩=>?_);refine wpAny_passesOwn hp (bU (hb _ s6 σ6 H6 _ I6 q6) λf s7 q7=>?_);have again:∀ {σ7:St}{H7:Hp},Inv X (pins++pB fp s5.heap) σ7 H7 s7->N σ7 H7->∃m,m<n/\∃i σ' H',Inv X pins σ' H' s7/\tn i s7.heap/\(∀b∈fp,H' b=none)/\W i m σ' H':=λ{σ7 H7} I7 n7=>by
   obtain⟨m',hm,w7⟩:=hN σ7 H7 n7;refine⟨m',hm,i+1,σ7,H7,I7.unpinned,T.keep _ _ _ ES λb hb o e=>(I7.pin (b,o) (QZW _ (QZW _ (iD hb e)))).1,λb hb=>?_,w7⟩;obtain⟨o,e,d⟩:=T.obj _ _ ES b hb;exact(I7.pin (b,o) (QZW _ (QZW _ (iD hb e)))).2.1
  cases f with
  | next=>obtain⟨σ7,H7,I7,n7⟩:=q7;exact again I7 n7
  | cont=>obtain⟨σ7,H7,I7,n7⟩:=q7;exact again I7 n7
  | brk=>obtain⟨σ7,H7,I7,q7⟩:=q7;exact⟨σ7,H7,I7.unpinned,q7⟩
  | ret v=>obtain⟨x7,σ7,H7,I7,r7,q7⟩:=q7;exact⟨x7,σ7,H7,I7.unpinned,r7,q7⟩
end
abbrev R2:=V->V->Hp->VK->Prop
def OpR(X:Cx)(f:T0->T0->Sem Value)(r:R2):Prop:=
 ∀(pins:ZB)(s:TW)(σ:St)(H:Hp)(x y:V)(v u:T0)(Q:VK),Inv X pins σ H s->RelV x v->RelV y u->r x y H Q →
  wpAny (model X.prog X.w) X.A (f v u) (EP X pins σ Q) X.xe s
def UnR(X:Cx)(f:T0->Sem Value)(r:V->Hp->VK->Prop):Prop:=
 ∀(pins:ZB)(s:TW)(σ:St)(H:Hp)(x:V)(v:T0)(Q:VK),Inv X pins σ H s->RelV x v->r x H Q →
  wpAny (model X.prog X.w) X.A (f v) (EP X pins σ Q) X.xe s
def CallR(X:Cx)(f:T0)(r:List V->Hp->VK->Prop):Prop:=
 ∀(pins:ZB)(s:TW)(σ:St)(H:Hp)(xs:List V)(us:List T0)(Q:VK),Inv X pins σ H s->Vals xs us->r xs H Q →
  wpAny (model X.prog X.w) X.A (call f us) (EP X pins σ Q) X.xe s
def Gj(r:R2)(ta tb:TE):TE:=λσ H Q=>ta σ H λx H1=>tb σ H1 λy H2=>r x y H2 Q
def tUn(r:V->Hp->VK->Prop)(ta:TE):TE:=λσ H Q=>ta σ H λx H1=>r x H1 Q
def rI(C:Int->Int->Prop)(g:Int->Int->V):R2:=λx y H Q=>∃i j,x=.int i/\y=.int j/\C i j/\Q (g i j) H
def No(g:Int->Int->V):R2:=λx y H Q=>∃i j,x=.int i/\y=.int j/\Q (g i j) H
def rU(g:Int->V):V->Hp->VK->Prop:=λx H Q=>∃i,x=.int i/\Q (g i) H
section
variable {X:Cx}{a b c:Expr}{ta tb tc:TE}{pos:Pos}
def Uk(ha:PE X a ta)(hb:PE X b tb){pins:ZB}{s:TW}{σ:St}{H:Hp}{R:V->V->Hp->Prop}(I:Inv X pins σ H s)(h:ta σ H λx H1=>tb σ H1 λy H2=>R x y H2){Q:X9}{f:T0->T0->Sem Value}(hf:∀v u s2 x y H2,Inv X pins σ H2 s2->RelV x v->RelV y u->R x y H2->wpAny (model X.prog X.w) X.A (f v u) Q X.xe s2) :
  wpAny (model X.prog X.w) X.A (eval a X.env) (λv s₁=>wpAny (model X.prog X.w) X.A (eval b X.env) (λu s₂=>wpAny (model X.prog X.w) X.A (f v u) Q X.xe s₂) X.xe s₁) X.xe s:=by
 refine bU (ha pins s σ H _ I h) λv s1 ⟨x,H1,I1,r1,q1⟩=>?_;refine bU (hb pins s1 σ H1 _ I1 q1) λu s2 ⟨y,H2,I2,r2,q2⟩=>?_;exact hf v u s2 x y H2 I2 r1 r2 q2
def Zc{op:Operator}{r:R2}(ho:OpR X (binaryOp op) r)(ha:PE X a ta)(hb:PE X b tb):PE X (.BinOp a op b pos) (Gj r ta tb):=by
 intro pins s σ H Q I h;exact wpAny_BinOp (Uk ha hb I h λv u s2 x y H2 I2 rx ry q=>ho pins s2 σ H2 x y v u Q I2 rx ry q)
def Ze{op:UnaryOp}{r:V->Hp->VK->Prop}(ho:UnR X (unaryOp op) r)(ha:PE X a ta):PE X (.UnaryOp op a pos) (tUn r ta):=by
 intro pins s σ H Q I h;exact UnaryOp_ (bU (ha pins s σ H _ I h) λv s1 ⟨x,H1,I1,r1,q1⟩=>ho pins s1 σ H1 x v Q I1 r1 q1)
def opI{f:T0->T0->Sem Value}{C:Int->Int->Prop}{g:Int->Int->Int}(rule:∀(i j:Int)(t u:Tok)(s:TW)(Q:X9)(E:X9),C i j->Q (.int (g i j) s.toks) {s with toks:=s.toks+1 }->wpAny (model X.prog X.w) X.A (f (.int i t) (.int j u)) Q E s) :
  OpR X f (rI C λi j=>.int (g i j)):=by
 intro pins s σ H x y v u Q I rx ry h;obtain⟨i,j,rfl,rfl,hc,q⟩:=h;obtain⟨t,rfl⟩:=rx;obtain⟨t',rfl⟩:=ry;exact rule i j t t' s _ _ hc ⟨.int (g i j),H,I.tok _,⟨_,rfl⟩,q⟩
def Zf{f:T0->T0->Sem Value}{g:Int->Int->Int}(rule:∀(i j:Int)(t u:Tok)(s:TW)(Q:X9)(E:X9),Q (.int (g i j) s.toks) {s with toks:=s.toks+1 }->wpAny (model X.prog X.w) X.A (f (.int i t) (.int j u)) Q E s) :
  OpR X f (No λi j=>.int (g i j)):=by
 intro pins s σ H x y v u Q I rx ry h;obtain⟨i,j,rfl,rfl,q⟩:=h;obtain⟨t,rfl⟩:=rx;obtain⟨t',rfl⟩:=ry;exact rule i j t t' s _ _ ⟨.int (g i j),H,I.tok _,⟨_,rfl⟩,q⟩
def Np{f:T0->T0->Sem Value}{g:Int->Int->Bool}(rule:∀(i j:Int)(t u:Tok)(s:TW)(Q:X9)(E:X9),Q (.bool (g i j)) s->wpAny (model X.prog X.w) X.A (f (.int i t) (.int j u)) Q E s) :
  OpR X f (No λi j=>.bl (g i j)):=by
 intro pins s σ H x y v u Q I rx ry h;obtain⟨i,j,rfl,rfl,q⟩:=h;obtain⟨t,rfl⟩:=rx;obtain⟨t',rfl⟩:=ry;exact rule i j t t' s _ _ ⟨.bl (g i j),H,I,rfl,q⟩
def Ul(i j:Int):Prop:=0<=j/\j<=1000000/\i.natAbs<2^64
def CMul(i j:Int):Prop:=(-(2^64)<i/\i<2^64)∨(-(2^64)<j/\j<2^64)
def CMul.ok{i j:Int}(h:CMul i j):IntMulOk i j:=by
 rcases h with⟨h1,h2⟩|⟨h1,h2⟩
 ·exact .of_left (intBits_le_64 h1 h2)
 ·exact .of_right (intBits_le_64 h1 h2)
def Um:OpR X (binaryOp .Add) (No λi j=>.int (i+j)):=Zf λ_ _ _ _ _ _ _ q=>add_int q
def Uo:OpR X (binaryOp .Sub) (No λi j=>.int (i-j)):=Zf λ_ _ _ _ _ _ _ q=>sub_int q
def Up:OpR X (binaryOp .Mult) (rI CMul λi j=>.int (i*j)):=opI λ_ _ _ _ _ _ _ hc q=>mul_int q hc.ok
def Uq:OpR X (binaryOp .Mod) (rI (λ_ j=>0<j) λi j=>.int (i%j)):=opI λi j _ _ _ _ _ hc q=>by
 have h1:(0:Int)<j:=hc;exact mod_int' Zo (by rw[Int.fmod_eq_emod_of_nonneg i Zo];exact q)
def Ur:OpR X (binaryOp .Pow) (rI Ul λi j=>.int (i^j.toNat)):=opI λ_ _ _ _ _ _ _ hc q=>pow_int_small hc.1 hc.2.1 hc.2.2 q
def unI{f:T0->Sem Value}{g:Int->Int}(rule:∀(i:Int)(t:Tok)(s:TW)(Q:X9)(E:X9),Q (.int (g i) s.toks) {s with toks:=s.toks+1 }->wpAny (model X.prog X.w) X.A (f (.int i t)) Q E s) :
  UnR X f (rU λi=>.int (g i)):=by
 intro pins s σ H x v Q I rx h;obtain⟨i,rfl,q⟩:=h;obtain⟨t,rfl⟩:=rx;exact rule i t s _ _ ⟨.int (g i),H,I.tok _,⟨_,rfl⟩,q⟩
def Us:UnR X (unaryOp .USub) (rU λi=>.int (-i)):=unI λ_ _ _ _ _ q=>neg_int q
end
def scal:V->V->Bool
 | .non,.non=>true|.non,.int _=>true|.int _,.non=>true|.non,.bl _=>true|.bl _,.non=>true|.non,.str _=>true|.str _,.non=>true
 | .int _,.int _=>true|.bl _,.bl _=>true|.str _,.str _=>true|.byt _,.byt _=>true
 | .int _,.str _=>true|.str _,.int _=>true|.bl _,.str _=>true|.str _,.bl _=>true
 | _,_=>false
def rEq:R2:=λx y H Q=>scal x y=true/\Q (.bl (decide (x=y))) H
def rNe:R2:=λx y H Q=>scal x y=true/\Q (.bl (!decide (x=y))) H
def Ah{i j:Int}:decide (V.int i=V.int j)=(i==j):=by
 rw[Bool.eq_iff_iff];simp
def Gk{i j:Bool}:decide (V.bl i=V.bl j)=(i==j):=by
 rw[Bool.eq_iff_iff];simp
def Ai{i j:Str}:decide (V.str i=V.str j)=(i==j):=by
 rw[Bool.eq_iff_iff];simp
def Aj{i j:Array UInt8}:decide (V.byt i=V.byt j)=(i.toList==j.toList):=by
 rw[Bool.eq_iff_iff];cases i;cases j;simp
section
variable {X:Cx}{a b c:Expr}{ta tb tc:TE}{pos:Pos}
def aX{pins:ZB}{σ:St}{H:Hp}{s:TW}{Q:VK}{k k':Bool}(I:Inv X pins σ H s)(q:Q (.bl k) H)(e:k=k'):EP X pins σ Q (.bool k') s:=by
 subst e;exact⟨.bl k,H,I,rfl,q⟩
def Rx:OpR X (compareOp .Eq) rEq:=by
 intro pins s σ H x y v u Q I rx ry h;obtain⟨hs,q⟩:=h
 cases x with
 | non=>
  cases rx
  cases y with
  | non=>cases ry;exact PySem.EqNone.eq_none_none (aX I q Zs)
  | bl j=>cases ry;exact PySem.EqNone.eq_none_bool (aX I q Zs)
  | int j=>obtain⟨t',rfl⟩:=ry;exact PySem.EqNone.eq_none_int (aX I q Zs)
  | str j=>obtain⟨t',rfl⟩:=ry;exact PySem.EqNone.eq_none_str (aX I q Zs)
  | _=>exact QZZ (show false=true from hs) XV
 | bl i=>
  cases rx
  cases y with
  | non=>cases ry;exact PySem.EqNone.eq_bool_none (aX I q Zs)
  | bl j=>cases ry;exact eq_bool (aX I q Gk)
  | str j=>obtain⟨t',rfl⟩:=ry;exact PySem.EqMixed.eq_bool_str (aX I q Zs)
  | _=>exact QZZ (show false=true from hs) XV
 | int i=>
  obtain⟨t,rfl⟩:=rx
  cases y with
  | non=>cases ry;exact PySem.EqNone.eq_int_none (aX I q Zs)
  | int j=>obtain⟨t',rfl⟩:=ry;exact eq_int (aX I q Ah)
  | str j=>obtain⟨t',rfl⟩:=ry;exact PySem.EqMixed.eq_int_str (aX I q Zs)
  | _=>exact QZZ (show false=true from hs) XV
 | str i=>
  obtain⟨t,rfl⟩:=rx
  cases y with
  | non=>cases ry;exact PySem.EqNone.eq_str_none (aX I q Zs)
  | bl j=>cases ry;exact PySem.EqMixed.eq_str_bool (aX I q Zs)
  | int j=>obtain⟨t',rfl⟩:=ry;exact PySem.EqMixed.eq_str_int (aX I q Zs)
  | str j=>obtain⟨t',rfl⟩:=ry;exact eq_str (aX I q Ai)
  | _=>exact QZZ (show false=true from hs) XV
 | byt i=>
  obtain⟨t,rfl⟩:=rx
  cases y with
  | byt j=>obtain⟨t',rfl⟩:=ry;exact W.eq_bytes (aX I q Aj)
  | _=>exact QZZ (show false=true from hs) XV
 | _=>cases y<;>exact QZZ (show false=true from hs) XV
def Ry:OpR X (compareOp .NotEq) rNe:=by
 intro pins s σ H x y v u Q I rx ry h;obtain⟨hs,q⟩:=h
 cases x with
 | non=>
  cases rx
  cases y with
  | non=>cases ry;exact PySem.EqNone.ne_none_none (aX I q Zs)
  | bl j=>cases ry;exact PySem.EqNone.ne_none_bool (aX I q Zs)
  | int j=>obtain⟨t',rfl⟩:=ry;exact PySem.EqNone.ne_none_int (aX I q Zs)
  | str j=>obtain⟨t',rfl⟩:=ry;exact PySem.EqNone.ne_none_str (aX I q Zs)
  | _=>exact QZZ (show false=true from hs) XV
 | bl i=>
  cases rx
  cases y with
  | non=>cases ry;exact PySem.EqNone.ne_bool_none (aX I q Zs)
  | bl j=>cases ry;exact ne_bool (aX I q (congrArg not Gk))
  | str j=>obtain⟨t',rfl⟩:=ry;exact PySem.EqMixed.ne_bool_str (aX I q Zs)
  | _=>exact QZZ (show false=true from hs) XV
 | int i=>
  obtain⟨t,rfl⟩:=rx
  cases y with
  | non=>cases ry;exact PySem.EqNone.ne_int_none (aX I q Zs)
  | int j=>obtain⟨t',rfl⟩:=ry;exact ne_int (aX I q (congrArg not Ah))
  | str j=>obtain⟨t',rfl⟩:=ry;exact PySem.EqMixed.ne_int_str (aX I q Zs)
  | _=>exact QZZ (show false=true from hs) XV
 | str i=>
  obtain⟨t,rfl⟩:=rx
  cases y with
  | non=>cases ry;exact PySem.EqNone.ne_str_none (aX I q Zs)
  | bl j=>cases ry;exact PySem.EqMixed.ne_str_bool (aX I q Zs)
  | int j=>obtain⟨t',rfl⟩:=ry;exact PySem.EqMixed.ne_str_int (aX I q Zs)
  | str j=>obtain⟨t',rfl⟩:=ry;exact ne_str (aX I q (congrArg not Ai))
  | _=>exact QZZ (show false=true from hs) XV
 | byt i=>
  obtain⟨t,rfl⟩:=rx
  cases y with
  | byt j=>obtain⟨t',rfl⟩:=ry;exact W.ne_bytes (aX I q (congrArg not Aj))
  | _=>exact QZZ (show false=true from hs) XV
 | _=>cases y<;>exact QZZ (show false=true from hs) XV
def Rz:OpR X (compareOp .Lt) (No λi j=>.bl (decide (i<j))):=Np λ_ _ _ _ _ _ _ q=>lt_int q
def Zh:OpR X (compareOp .LtE) (No λi j=>.bl (decide (i<=j))):=Np λ_ _ _ _ _ _ _ q=>le_int q
def Zi:OpR X (compareOp .Gt) (No λi j=>.bl (decide (j<i))):=Np λ_ _ _ _ _ _ _ q=>gt_int q
def Sb:OpR X (compareOp .GtE) (No λi j=>.bl (decide (j<=i))):=Np λ_ _ _ _ _ _ _ q=>ge_int q
def Dg:OpR X (compareOp .Lt) (λx y H Q=>∃i j,x=.str i/\y=.str j/\Q (.bl (decide (i.cps.toList<j.cps.toList))) H):=by
 intro pins s σ H x y v u Q I rx ry h;obtain⟨i,j,rfl,rfl,q⟩:=h;obtain⟨t,rfl⟩:=rx;obtain⟨t',rfl⟩:=ry;exact lt_str (aX I q rfl)
def Dh:OpR X (compareOp .In) (λx y H Q=>∃i j,x=.str i/\y=.str j/\Q (.bl (!(Builtin.Str.occurrences j i 0 j.length 1).isEmpty)) H):=by
 intro pins s σ H x y v u Q I rx ry h;obtain⟨i,j,rfl,rfl,q⟩:=h;obtain⟨t,rfl⟩:=rx;obtain⟨t',rfl⟩:=ry;exact in_str (aX I q rfl)
def Ut:OpR X (compareOp .Is) (λx y H Q=>y=.non/\Q (.bl (decide (x=.non))) H):=by
 intro pins s σ H x y v u Q I rx ry h;obtain⟨rfl,q⟩:=h;cases ry;refine is_none_gen (aX I q ?_);cases x<;>first
  | (cases rx;rfl)
  | (obtain⟨t,rfl⟩:=rx;rfl)
def Nq:OpR X (compareOp .IsNot) (λx y H Q=>y=.non/\Q (.bl (!decide (x=.non))) H):=by
 intro pins s σ H x y v u Q I rx ry h;obtain⟨rfl,q⟩:=h;cases ry;refine isnot_none_gen (aX I q ?_);cases x<;>first
  | (cases rx;rfl)
  | (obtain⟨t,rfl⟩:=rx;rfl)
def tJ(b:Expr){op:CmpOp}(h:op≠.In:=by decide)(h2:op≠.NotIn:=by decide):behindInMarks op b=false:=by
 have e1:(op==CmpOp.In)=false:=by cases op<;>first|rfl|exact QZZ rfl h
 have e2:(op==CmpOp.NotIn)=false:=by cases op<;>first|rfl|exact QZZ rfl h2
 cases b<;>simp[behindInMarks,e1,e2]
def Nr{op:CmpOp}{r:R2}(ho:OpR X (compareOp op) r)(ha:PE X a ta)(hb:PE X b tb)(hm:behindInMarks op b=false):PE X (.Compare a [op] [b] pos) (Gj r ta tb):=by
 intro pins s σ H Q I h;exact wpAny_Compare1 (Uk ha hb I h λv u s2 x y H2 I2 rx ry q=>ho pins s2 σ H2 x y v u Q I2 rx ry q) hm
def Ak(t:TE):TT:=λσ H Q=>t σ H λx H'=>∃k,x=.bl k/\Q k H'
def Nt{op:CmpOp}{r:R2}(ho:OpR X (compareOp op) r)(ha:PE X a ta)(hb:PE X b tb)(hm:behindInMarks op b=false):PT X (.Compare a [op] [b] pos) (Ak (Gj r ta tb)):=by
 intro pins s σ H Q I h;refine wpAny_isTrue_Compare1 (bU (ha pins s σ H _ I h) λv s1 ⟨x,H1,I1,r1,q1⟩=>bU (hb pins s1 σ H1 _ I1 q1) λu s2 ⟨y,H2,I2,r2,q2⟩=>
  bU (ho pins s2 σ H2 x y v u _ I2 r1 r2 q2) λc s3 ⟨z,H3,I3,r3,k,e,q3⟩=>?_) hm
 subst e;cases r3;exact wpAny_truthy_bool ⟨H3,I3,q3⟩
def tK(r r':R2)(ta tb tc:TE):TE:=λσ H Q=>ta σ H λx H1=>tb σ H1 λy H2=>r x y H2 λz H3=>∃k,z=.bl k ∧
 (if k=true then tc σ H3 λw' H4=>r' y w' H4 Q else Q (.bl false) H3)
def Gm{op Y6:CmpOp}{r r':R2}(ho:OpR X (compareOp op) r)(Q5:OpR X (compareOp Y6) r')(ha:PE X a ta)(hb:PE X b tb)(hc:PE X c tc)(hm:lastMarks [op,Y6] [b,c]=false:=by with_unfolding_all rfl):PE X (.Compare a [op,Y6] [b,c] pos) (tK r r' ta tb tc):=by
 intro pins s σ H Q I h;refine Compare_chain (bU (ha pins s σ H _ I h) λv s1 ⟨x,H1,I1,r1,q1⟩=>chain_link (bU (hb pins s1 σ H1 _ I1 q1) λu s2 ⟨y,H2,I2,r2,q2⟩=>
  bU (ho pins s2 σ H2 x y v u _ I2 r1 r2 q2) λd s3 ⟨z,H3,I3,r3,k,e,q3⟩=>?_)) hm
 subst e;cases r3;refine wpAny_truthy_bool ?_
 cases k with
 | false=>exact ite_ff ⟨.bl false,H3,I3,rfl,q3⟩
 | true=>exact ite_tt (chain_last (bU (hc pins s3 σ H3 _ I3 q3) λw' s4 ⟨z',H4,I4,r4,q4⟩=>Q5 pins s4 σ H4 y z' u w' Q I4 r2 r4 q4))
def Gn{op Y6:CmpOp}{r r':R2}(ho:OpR X (compareOp op) r)(Q5:OpR X (compareOp Y6) r')(ha:PE X a ta)(hb:PE X b tb)(hc:PE X c tc)(hm:lastMarks [op,Y6] [b,c]=false:=by with_unfolding_all rfl):PT X (.Compare a [op,Y6] [b,c] pos) (Ak (tK r r' ta tb tc)):=by
 intro pins s σ H Q I h;refine isTrue_chain (bU (ha pins s σ H _ I h) λv s1 ⟨x,H1,I1,r1,q1⟩=>test_link (bU (hb pins s1 σ H1 _ I1 q1) λu s2 ⟨y,H2,I2,r2,q2⟩=>
  bU (ho pins s2 σ H2 x y v u _ I2 r1 r2 q2) λd s3 ⟨z,H3,I3,r3,k,e,q3⟩=>?_)) hm
 subst e;cases r3;refine wpAny_truthy_bool ?_
 cases k with
 | false=>
  obtain⟨k',e',q'⟩:=q3;cases e';exact ite_ff ⟨H3,I3,q'⟩
 | true=>
  refine ite_tt (test_last (bU (hc pins s3 σ H3 _ I3 q3) λw' s4 ⟨z',H4,I4,r4,q4⟩=>bU (Q5 pins s4 σ H4 y z' u w' _ I4 r2 r4 q4) λd' s5 ⟨z2,H5,I5,r5,k2,e2,q5⟩=>?_));subst e2;cases r5;exact wpAny_truthy_bool ⟨H5,I5,q5⟩
def mQ:(sizeLine:Nat)<2^63:=by rw[sizeLine_eq];decide
def yD:OpR X (binaryOp .Add) (λx y H Q=>∃i j,x=.str i/\y=.str j/\i.length+j.length<=sizeLine/\Q (.str (i++j)) H):=by
 intro pins s σ H x y v u Q I rx ry h;obtain⟨i,j,rfl,rfl,hz,q⟩:=h;obtain⟨t,rfl⟩:=rx;obtain⟨t',rfl⟩:=ry;exact add_str (λt' tk=>⟨.str (i++j),H,I.tok _,⟨_,rfl⟩,q⟩) hz
def jE{x:V}{us:List T0}(r:Vals [x] us):∃u,us=[u]/\RelV x u:=by
 cases r with
 | cons r1 r2=>cases r2;exact⟨_,rfl,r1⟩
def Zj{x y:V}{us:List T0}(r:Vals [x,y] us):∃u w',us=[u,w']/\RelV x u/\RelV y w':=by
 cases r with
 | cons r1 r2=>
  cases r2 with
  | cons r3 r4=>cases r4;exact⟨_,_,rfl,r1,r3⟩
def Dl(hc:X.calm=true):CallR X (.builtin "max") (λxs H Q=>∃i j,xs=[.int i,.int j]/\Q (.int (if j>i then j else i)) H):=by
 intro pins s σ H xs us Q I r h;obtain⟨i,j,rfl,q⟩:=h;obtain⟨u,w',rfl,⟨t,rfl⟩,⟨t',rfl⟩⟩:=Zj r;refine max_two_ints (I.ok.hd hc) λh' tk k=>⟨_,H,I.kept k,?_,q⟩;by_cases hj:j>i
 ·rw[TD hj,TD hj];exact⟨_,rfl⟩
 ·rw[P7 hj,P7 hj];exact⟨_,rfl⟩
def Dm:CallR X (.type "int") (λxs H Q=>(∃i,xs=[.int i]/\Q (.int i) H)∨∃k,xs=[.bl k]/\Q (.int (if k then 1 else 0)) H):=by
 intro pins s σ H xs us Q I r h;rcases h with⟨i,rfl,q⟩|⟨k,rfl,q⟩
 ·obtain⟨u,rfl,t,rfl⟩:=jE r;exact call_int_int ⟨.int i,H,I,⟨_,rfl⟩,q⟩
 ·obtain⟨u,rfl,r1⟩:=jE r;cases r1;exact call_int_bool ⟨.int (if k then 1 else 0),H,I.tok _,⟨_,rfl⟩,q⟩
end
structure ObjM(h:Heap)(x dx C:UF)(mA:X8):Prop where
 obj:h.get? x=some (W.instObj C dx)
 ns:h.Ns1 dx mA
 ne:dx≠x
def rR{h:Heap}{dx:UF}{mA:X8}(n:h.Ns1 dx mA):∃od,h.get? dx=some od/\∀name,W.lookIn name od=some (mA name):=by
 obtain⟨o,es,ep,ho,hd,hk,_,hm⟩:=n;refine⟨o,ho,λname=>?_⟩;have e:=hm name;unfold nsFind findBy at e;rw[<- Array.find?_toList]at e;unfold W.lookIn;rw[hd];dsimp only;split
 ·rename_i y q;rw[q]at e;exact congrArg some e
 ·rename_i q;rw[q]at e;have a:es.toList.any (·.refKey)=false:=by
   rw[List.any_eq_false];intro y hy;obtain⟨z,t,ON⟩:=hk y (Array.mem_toList_iff.mp hy);simp[DictEntry.refKey,ON]
  have a':¬ es.toList.any (·.refKey)=true:=by rw[a];exact XV
  rw[P7 a'];exact congrArg some e
def ObjM.look{h:Heap}{x dx C:UF}{mA:X8}(I:ObjM h x dx C mA):∃od,W.InstAt h x (W.instObj C dx) C (some od)/\∀name,W.lookIn name od=some (mA name):=
 let ⟨od,ho,hl⟩:=rR I.ns
 ⟨od,⟨I.obj,rfl,rfl,ho⟩,hl⟩
section
variable {prog:Program}{w:World}{A:Around}{E:X9}{s:TW}{K:W.Frag}{x dx C f:UF}{mA:X8}{name:Str}{v:T0}
def Nu{expr:Bool}{Q:X9}(X:K.In s.heap)(I:ObjM s.heap x dx C mA)(hg:W.plainGet K C name=true)(hh:W.hasDictIn K C=true)(ha:W.findIn K (.ref C) name=some none)(hv:mA name=some v)(zl:W.handedIn v=true)(h:Q v {s with toks:=s.toks+1 }) :
  wpAny (model prog w) A (getAttr (.ref x) name expr) Q E s:=by
 obtain⟨od,J,hl⟩:=I.look;exact W.get_value X J (W.plainGet_of hg).1 (W.findObj_own hh ha rfl (by rw[hl,hv])) zl h
def Go{pl:Sem Bool}{Q:T0×List T0->TW->Prop}(X:K.In s.heap)(I:ObjM s.heap x dx C mA)(hg:W.plainGet K C name=true)(hf:W.findIn K (.ref C) name=some (some (.ref f)))(ht:W.isFn K (.ref f)=true)(hv:mA name=none)(h:Q (.ref f,[.ref x]) s) :
  wpAny (model prog w) A (getMethod (.ref x) name pl) Q E s:=by
 obtain⟨od,J,hl⟩:=I.look;exact W.method_fn X J (W.plainGet_of hg).1 (W.plainGet_of hg).2 hf (beq_iff_eq.mp ht) (by show(W.lookIn name od).map (·.isSome)=some false;rw[hl,hv];rfl) h
def Nv{ns:List Str}{Q:Unit->TW->Prop}(X:K.In s.heap)(I:ObjM s.heap x dx C mA)(hs:W.findIn K (.ref C) "__setattr__"=some (some (.builtin "object.__setattr__")))(hp:W.plainOver K C=true)(ht:W.takerIn K C name=some none)(hh:W.hasDictIn K C=true)(hw:PySem.Within mA ns)(hsz:ns.length<=sizeLine)(h:∀h',ObjM h' x dx C (λy=>if y=name then some v else mA y)->Heap.SameBut dx s.heap h'->Q () {s with heap:=h',toks:=s.toks+2 }) :
  wpAny (model prog w) A (setAttr (.ref x) name v) Q E s:=by
 obtain⟨od,J,hl⟩:=I.look;refine W.set_plain X J hs (W.osa_open (s:={s with toks:=s.toks+1 }) (r:=none) X J hp ht λb=>?_);obtain⟨cd,hc,EO⟩:=W.any_some hh;have hx:s.heap.get? x=some ⟨.ref C,some dx,.plain,#[]⟩:=I.obj;refine X7 (X6 (X7 (X7 (wpAny_loadPart hx (X7 (W.Looks.here (s:={s with toks:=s.toks+1 }) (W.looks_clsIn X hc) ?_))))));rw[EO];refine X6 (a:=some dx) (X7 (X6 (X7 ?_)));refine wpAny_nsSet1 (s:={s with toks:=s.toks+1 }) I.ns λh' ng ET=>?_;obtain⟨oD,esD,epD,YT,YU,CK⟩:=ng.count (PySem.Within.cons name v hw);refine X7 (wpAny_lookBehind YT (by rw[YU];exact pastItsLine_dict (kN CK (by rw[vR];omega))) ?_);exact X6 (h _ ⟨(ET.2 _ (Ne.symm I.ne)).trans I.obj,ng,I.ne⟩ ET)
def Gp{R:Result->TW->Prop}{vs:List T0}{kw:List (Str × Value)}(X:K.In s.heap)(hm:W.makesIn K C=true)(hi:W.findIn K (.ref C) "__init__"=some (some (.ref f)))(hf:W.typeIn K (.ref f)=some (.type "function"))(h:codeAny (model prog w) (A.under (.builtin "type.__call__" ⟨.ref C::vs,kw⟩)) (.call (.ref f) ⟨.ref (s.heap.objs.size+1)::vs,kw⟩) (W.InitBack (s.heap.objs.size+1) R)
   {s with heap:=(s.heap.push W.emptyDict).push (W.instObj C s.heap.objs.size) }) :
  codeAny (model prog w) A (.call (.ref C) ⟨vs,kw⟩) R s:=by
 obtain⟨hh,g,d,t,os⟩:=s;exact W.make_core (W.makes_of X hm) (W.looks_findIn X hi) (λself=>W.bind_fn X self hf) (.inl rfl) h
end
def bL(f:Str)(v:V):List (Str×V)->List (Str×V)
 | []=>[(f,v)]
 | (g,x)::r=>if g=f then (g,v)::r else (g,x)::bL f v r
def nV(f g:Str)(v:V):∀fs:List (Str×V),(bL f v fs).lookup g=if g=f then some v else fs.lookup g
 | []=>by
  show List.lookup g [(f,v)]=_;by_cases h:g=f
  ·have hb:(g==f)=true:=beq_iff_eq.mpr h;simp only [List.lookup,hb,TD h]
  ·have hb:(g==f)=false:=beq_eq_false_iff_ne.mpr h;simp only [List.lookup,hb,P7 h]
 | (k,x)::r=>by
  have ih:=nV f g v r;rw[show bL f v ((k,x)::r)=(if k=f then (k,v)::r else (k,x)::bL f v r) from rfl];by_cases hk:k=f
  ·rw[TD hk];by_cases h:g=k
   ·have hb:(g==k)=true:=beq_iff_eq.mpr h;simp only [List.lookup,hb,TD (h.trans hk)]
   ·have hb:(g==k)=false:=beq_eq_false_iff_ne.mpr h;simp only [List.lookup,hb,P7 (λe:g=f=>h (e.trans hk.symm))]
  ·rw[P7 hk];by_cases h:g=k
   ·have hb:(g==k)=true:=beq_iff_eq.mpr h;simp only [List.lookup,hb,P7 (λe:g=f=>hk (h.symm.trans e))]
   ·have hb:(g==k)=false:=beq_eq_false_iff_ne.mpr h;simp only [List.lookup,hb];exact ih
def mU(f:Str)(v:V):∀fs:List (Str×V),f∈(bL f v fs).map (·.1)/\∀g,g∈fs.map (·.1)->g∈(bL f v fs).map (·.1)
 | []=>⟨by simp[bL],λg h=>by simp at h⟩
 | (k,x)::r=>by
  obtain⟨i1,i2⟩:=mU f v r;rw[show bL f v ((k,x)::r)=(if k=f then (k,v)::r else (k,x)::bL f v r) from rfl];by_cases hk:k=f
  ·rw[TD hk];subst hk;exact⟨Zs,λg h=>by simpa using h⟩
  ·rw[P7 hk];refine⟨?_,λg h=>?_⟩
   ·rw[map_cons];exact oP _ i1
   ·rw[map_cons]at h ⊢;rcases mem_cons.mp h with e|e
    ·exact mem_cons.mpr (.inl e)
    ·exact oP _ (i2 g e)
def nW(f:Str)(v:V):∀fs:List (Str×V),(bL f v fs).length<=fs.length+1
 | []=>by simp[bL]
 | (k,x)::r=>by
  have ih:=nW f v r;rw[show bL f v ((k,x)::r)=(if k=f then (k,v)::r else (k,x)::bL f v r) from rfl];by_cases hk:k=f
  ·rw[TD hk,vR,vR];omega
  ·rw[P7 hk,vR,vR];omega
def RelO.some_of{v:V}{o:Option T0}(r:RelO (some v) o):∃u,o=some u/\RelV v u:=by
 cases o with
 | none=>exact(show False from r).elim
 | some u=>exact⟨u,rfl,r⟩
def RelO.none_of{o:Option T0}(r:RelO none o):o=none:=by
 cases o with
 | none=>rfl
 | some u=>exact(show False from r).elim
def rS{v:V}{u:T0}(r:RelV v u):W.handedIn u=true:=by
 cases v with
 | non=>cases(show u=Value.none from r);rfl
 | bl b=>cases(show u=Value.bool b from r);rfl
 | int i=>obtain⟨t,e⟩:=(show ∃t,u=Value.int i t from r);cases e;rfl
 | str x=>obtain⟨t,e⟩:=(show ∃t,u=Value.str x t from r);cases e;rfl
 | byt b=>obtain⟨t,e⟩:=(show ∃t,u=Value.bytes b t from r);cases e;rfl
 | flt b=>obtain⟨t,e⟩:=(show ∃t,u=Value.float b t from r);cases e;rfl
 | ref a=>cases(show u=Value.ref a from r);rfl
 | ty n=>cases(show u=Value.type n from r);rfl
section
variable {P:Program}{w:World}{H H':Hp}{h h':Heap}{a C dx:UF}{fs YS:List (Str×V)}
def oQ(hok:HOk P w H h)(e:H a=some (.ins C dx fs)):∃mA,ObjM h a dx C mA/\(∀f,RelO (fs.lookup f) (mA f))/\PySem.Within mA (fs.map (·.1))/\fs.length<=1000/\H dx=some (.own a):=by
 obtain⟨d,z,ne,ob,mA,n,r,q⟩:=(show ObjOk P w H h a (.ins C dx fs) from hok a _ e);exact⟨mA,⟨ob,n,ne⟩,r,q,z,d⟩
end
structure Cls(K:W.Frag)(C:UF):Prop where
 pg:W.plainGet K C Str.empty=true
 hd:W.hasDictIn K C=true
 po:W.plainOver K C=true
 sa:W.findIn K (.ref C) "__setattr__"=some (some (.builtin "object.__setattr__"))
def Cls.get{K:W.Frag}{C:UF}(c:Cls K C)(f:Str):W.plainGet K C f=true:=c.pg
def NoAttr(K:W.Frag)(C:UF)(f:Str):Prop:=W.findIn K (.ref C) f=some none
def NoAttr.taker{K:W.Frag}{C:UF}{f:Str}(n:NoAttr K C f):W.takerIn K C f=some none:=by
 unfold W.takerIn;rw[show W.findIn K (.ref C) f=some none from n];rfl
structure Uu(K:W.Frag)(C:UF)(m:Str)(f:UF):Prop where
 at_:W.findIn K (.ref C) m=some (some (.ref f))
 fn:W.isFn K (.ref f)=true
 kp:W.keepIn K (.ref f)=true
section
variable {X:Cx}{pins:ZB}{σ:St}{H:Hp}{s:TW}{a C dx:UF}{fs:List (Str×V)}{f:Str}{v:V}{A:Around}{E:X9}
def yE{b:Bool}{Q:X9}(I:Inv X pins σ H s)(e:H a=some (.ins C dx fs))(c:Cls X.K C)(n:NoAttr X.K C f)(l:fs.lookup f=some v)(h:∀u s',Inv X pins σ H s'->RelV v u->Q u s'):wpAny (model X.prog X.w) A (getAttr (.ref a) f b) Q E s:=by
 obtain⟨mA,O,r,_,_,_⟩:=oQ I.hok e;obtain⟨u,hu,ru⟩:=RelO.some_of (v:=v) (o:=mA f) (by rw[<- l];exact r f);exact Nu I.kIn O (c.get f) c.hd n hu (rS ru) (h u _ (I.tok _) ru)
def yF{m:Str}{g:UF}{pl:Sem Bool}{Q:T0×List T0->TW->Prop}(I:Inv X pins σ H s)(e:H a=some (.ins C dx fs))(c:Cls X.K C)(k:Uu X.K C m g)(l:fs.lookup m=none)(h:Q (.ref g,[.ref a]) s):wpAny (model X.prog X.w) A (getMethod (.ref a) m pl) Q E s:=by
 obtain⟨mA,O,r,_,_,_⟩:=oQ I.hok e;have hn:mA m=none:=RelO.none_of (by rw[<- l];exact r m);exact Go I.kIn O (c.get m) k.at_ k.fn hn h
def yG{y:V}{u:T0}{Q:Unit->TW->Prop}(I:Inv X pins σ H s)(e:H a=some (.ins C dx fs))(c:Cls X.K C)(n:NoAttr X.K C f)(hl:fs.length<1000)(ry:RelV y u)(h:∀s',Inv X pins σ (aI H a (.ins C dx (bL f y fs))) s'->Q () s'):wpAny (model X.prog X.w) A (setAttr (.ref a) f u) Q E s:=by
 obtain⟨mA,O,r,wi,_,ho⟩:=oQ I.hok e;have hz:(fs.map (·.1)).length<=sizeLine:=by rw[aZ,sizeLine_eq];omega
 refine Nv I.kIn O c.sa c.po n.taker c.hd wi hz λh' O' sb=>h _ ?_;have hd:∃o,h'.get? dx=some o:=let ⟨o,_,_,e',_⟩:=O'.ns;⟨o,e'⟩;refine I.write (x:=a) (e:=dx) (by rw[e];exact True.intro) (.inr ho) (λb q hb z=>(sb.2 b hb).trans z) hd ?_;refine⟨by rw[aD O.ne];exact ho,?_,O.ne,O'.obj,_,O'.ns,λg=>?_,λg hg=>?_⟩
 ·have:=nW f y fs;omega
 ·show RelO ((bL f y fs).lookup g) (if g=f then some u else mA g);rw[nV];by_cases q:g=f
  ·rw[TD q,TD q];exact ry
  ·rw[P7 q,P7 q];exact r g
 ·by_cases q:g=f
  ·rw[q];exact(mU f y fs).1
  ·refine(mU f y fs).2 g (wi g λz=>hg ?_);show(if g=f then some u else mA g)=none;rw[P7 q];exact z
def Inv.made(I:Inv X pins σ H s):Inv X pins σ (aI (aI H s.heap.objs.size (.own (s.heap.objs.size+1))) (s.heap.objs.size+1) (.ins C s.heap.objs.size []))
  {s with heap:=(s.heap.push W.emptyDict).push (W.instObj C s.heap.objs.size) }:=by
 have e1:(s.heap.push W.emptyDict).get? s.heap.objs.size=some W.emptyDict:=UV s.heap rfl;have e2:((s.heap.push W.emptyDict).push (W.instObj C s.heap.objs.size)).get? (s.heap.objs.size+1)=some (W.instObj C s.heap.objs.size):=by
  have:=UV (s.heap.push W.emptyDict) (o:=W.instObj C s.heap.objs.size) rfl
  rwa [Heap.size_push]at this
 have e3:(s.heap.push W.emptyDict).Ns s.heap.objs.size (λ_=>none):=⟨W.emptyDict,#[],_,e1,rfl,(λe he=>QZZ he Zs),λ_=>rfl⟩;have I1:=I.laid (a:=s.heap.objs.size) (o:=.own (s.heap.objs.size+1)) (h':=s.heap.push W.emptyDict) (t':=s.toks) (λb u q=>eP _ q) (bQ _) ⟨_,e1⟩;refine I1.laid (a:=s.heap.objs.size+1) (o:=.ins C s.heap.objs.size []) (t':=s.toks) (λb u q=>eP _ q) (le_of_eq (Heap.size_push _ _)) ?_;have ne:s.heap.objs.size≠s.heap.objs.size+1:=ne_of_lt (lt_succ_self _);refine⟨by rw[aD ne,aA],zero_le _,ne,e2,λ_=>none,(Heap.Ns1.of_empty e3).at λo q=>eP _ q,λ_=>True.intro,λy hy=>QZZ rfl hy⟩
def Al{prog:Program}{w:World}{env:Env}{e:Expr}{f:Str}{pos:Pos}{s:TW}{Q:X9}(hb:attributeBase e f env (eval e env)=eval e env)(h:wpAny (model prog w) A (eval e env) (λo s₁=>wpAny (model prog w) A (getAttr o f true) Q E s₁) E s):wpAny (model prog w) A (eval (.Attribute e f pos) env) Q E s:=
 Attribute_any_ h (by rw[arm_eval_Attribute,hb])
end
section
variable {X:Cx}{pins:ZB}{σ:St}{H:Hp}{s:TW}{A:Around}{E:X9}{Q:X9}{c:T0}{b:Bool}
inductive lF(K:W.Frag)(H:Hp):V->T0->Prop where
 | non:lF K H .non (.type "NoneType")
 | bl (x:Bool):lF K H (.bl x) (.type "bool")
 | int (i:Int):lF K H (.int i) (.type "int")
 | str (x:Str):lF K H (.str x) (.type "str")
 | flt (x:UInt64):lF K H (.flt x) (.type "float")
 | lst {a:UF}{xs:List V} (e:H a=some (.lst xs)):lF K H (.ref a) (.type "list")
 | frz {a:UF}{o:Obj}{xs:List V} (e:H a=some (.frz o (.lst xs))):lF K H (.ref a) (.type "list")
 | tup {a:UF}{xs:List V} (e:H a=some (.tup xs)):lF K H (.ref a) (.type "tuple")
 | dK {a:UF}{kvs:List (bA×V)} (e:H a=some (.dK kvs)):lF K H (.ref a) (.type "dict")
 | dT {a:UF}{kvs:List (List bA×V)} (e:H a=some (.dT kvs)):lF K H (.ref a) (.type "dict")
 | ins {a C dx:UF}{fs:List (Str×V)} (e:H a=some (.ins C dx fs)) (cl:Cls K C) (ha:W.findIn K (.ref C) "__class__"=some (some (.builtin "object.__class__")))
   (hn:W.specialIn K (.builtin "object.__class__") "__get__"=some (some (.builtin "getset_descriptor.__get__"))) (htk:W.takesIn K (.builtin "object.__class__")=some true)
   (hm:W.mroIn K C (.type "object")=some true):lF K H (.ref a) (.ref C)
def Dn{x:V}{u t:T0}(I:Inv X pins σ H s)(rx:RelV x u)(ty:lF X.K H x t)(e:W.kitOne X.K t c=some b)(h:∀tk,Q (.bool b) {s with toks:=tk }) :
  wpAny (model X.prog X.w) A (call (.builtin "isinstance") [u,c]) Q E s:=by
 cases ty with
 | non=>cases(show u=Value.none from rx);exact W.kia_one W.kitx_none I.kIn True.intro e nofun h
 | bl y=>cases(show u=Value.bool y from rx);exact W.kia_one W.kitx_bool I.kIn True.intro e nofun h
 | int i=>obtain⟨t,q⟩:=(show ∃t,u=Value.int i t from rx);cases q;exact W.kia_one W.kitx_int I.kIn True.intro e nofun h
 | str y=>obtain⟨t,q⟩:=(show ∃t,u=Value.str y t from rx);cases q;exact W.kia_one W.kitx_str I.kIn True.intro e nofun h
 | flt y=>obtain⟨t,q⟩:=(show ∃t,u=Value.float y t from rx);cases q;exact W.kia_one W.kitx_float I.kIn True.intro e nofun h
 | @lst a xs ea=>
  cases(show u=Value.ref a from rx);obtain⟨_,_,n,_,h1⟩:=(show ObjOk X.prog X.w H s.heap a (.lst xs) from I.hok a _ ea);exact W.kia_one W.kitx_list I.kIn ⟨_,h1,rfl⟩ e nofun h
 | @frz a ob xs ea=>
  cases(show u=Value.ref a from rx);obtain⟨_,_,_,n,_,h1⟩:=(show ObjOk X.prog X.w H s.heap a (.frz ob (.lst xs)) from I.hok a _ ea);exact W.kia_one W.kitx_list I.kIn ⟨_,h1,rfl⟩ e nofun h
 | @tup a xs ea=>
  cases(show u=Value.ref a from rx);obtain⟨_,_,_,p⟩:=(show ObjOk X.prog X.w H s.heap a (.tup xs) from I.hok a _ ea);obtain⟨o,h1,h2,_⟩:=p;exact W.kia_one W.kitx_tuple I.kIn ⟨o,h1,h2⟩ e nofun h
 | @dK a kvs ea=>
  cases(show u=Value.ref a from rx);obtain⟨_,_,vs,_,p⟩:=(show ObjOk X.prog X.w H s.heap a (.dK kvs) from I.hok a _ ea);obtain⟨o,es,ep,h1,h2,_⟩:=p;exact W.kia_one W.kitx_dict I.kIn ⟨o,h1,h2.1⟩ e nofun h
 | @dT a kvs ea=>
  cases(show u=Value.ref a from rx);obtain⟨_,_,xs,_,o,es,ep,h1,h2,_⟩:=(show ObjOk X.prog X.w H s.heap a (.dT kvs) from I.hok a _ ea);exact W.kia_one W.kitx_dict I.kIn ⟨o,h1,h2.1⟩ e nofun h
 | @ins a C dx fs ea cl ha hn htk hm=>
  cases(show u=Value.ref a from rx);obtain⟨mA,O,_⟩:=oQ I.hok ea;obtain⟨od,J,_⟩:=O.look;exact W.kia_one (W.kitx_own (cl.get _) cl.hd ha hn htk hm) I.kIn J e nofun h
end
structure Room(k:Nat)(A:Around):Prop where
 hd:A.handled=none
 dp:A.depth+3*k+5<recursionLimit
 un:A.units+16*k+200<cLine
def Room.mono{j k:Nat}{A:Around}(r:Room k A)(h:j<=k):Room j A:=⟨r.hd,by have:=r.dp;omega,by have:=r.un;omega⟩
def Room.deeper{k:Nat}{A:Around}(r:Room (k+1) A)(env:Env):Room k (A.deeper env):=
 ⟨r.hd,by have:=r.dp;show A.depth+1+3*k+5<_;omega,by have:=r.un;show A.units+3+16*k+200<_;omega⟩
def yH{A:Around}{C:UF}{us:List T0}{kw:List (Str×T0)}:(A.under (.builtin "type.__call__" ⟨.ref C::us,kw⟩)).depth=A.depth+1:=by
 first|rfl|simp[Around.under,Code.weight,Code.isCreation,Code.isGuard,Code.isCaller,Code.frames,Code.isFrame,guardIds]
def yI{A:Around}{C:UF}{us:List T0}{kw:List (Str×T0)}:(A.under (.builtin "type.__call__" ⟨.ref C::us,kw⟩)).units=A.units+1:=by
 first|rfl|simp[Around.under,Code.cUnits,Code.frames,Code.isFrame]
def Room.make{k:Nat}{A:Around}(r:Room (k+1) A)(C:UF)(us:List T0)(kw:List (Str×T0)):Room k (A.under (.builtin "type.__call__" ⟨.ref C::us,kw⟩)):=
 ⟨r.hd,by have:=r.dp;rw[yH];omega,by have:=r.un;rw[yI];omega⟩
def Room.depth{k:Nat}{A:Around}(r:Room k A):A.depth<recursionLimit:=by have:=r.dp;omega
def Room.units{k:Nat}{A:Around}(r:Room k A):A.units+64<cLine:=by have:=r.un;omega
def Room.units0{k:Nat}{A:Around}(r:Room k A):A.units<cLine:=by have:=r.un;omega
def yJ:TA:=λ_ H Q=>Q [] H
def nX(ta:TE)(tr:TA):TA:=λσ H Q=>ta σ H λx H1=>tr σ H1 λxs H2=>Q (x::xs) H2
section
variable {X:Cx}{e:Expr}{es:List Expr}{te:TE}{t:TA}{pos:Pos}
def tL:PA X [] yJ:=λ_ _ _ _ H Q I h=>Calls.spliced_nil ⟨[],H,I,.nil,h⟩
def tM(ha:PE X e te)(hr:PA X es t)(hs:starEach (e::es) X.env=(false,eval e X.env)::starEach es X.env:=by rfl):PA X (e::es) (nX te t):=by
 intro pos pins s σ H Q I h;rw[hs];show wpAny _ _ (spliced ((false,eval e X.env)::backTo pos (starEach es X.env))) _ _ s;refine Calls.spliced_cons (bU (ha pins s σ H _ I h) λu s1 ⟨x,H1,I1,r1,q1⟩=>?_);exact bU (hr pos pins s1 σ H1 _ I1 q1) λus s2 ⟨xs,H2,I2,r2,q2⟩=>⟨x::xs,H2,I2,.cons r1 r2,q2⟩
def Zl(t:TA):TE:=λσ H Q=>t σ H λxs H1=>xs.length<=sizeLine/\∀p,H1 p=none->Q (.ref p) (aI H1 p (.tup xs))
def Zm(t:TA):TE:=λσ H Q=>t σ H λxs H1=>xs.length<=sizeLine/\∀p,H1 p=none->Q (.ref p) (aI H1 p (.lst xs))
def Uv{x1}(h:PA X es t):PE X (.Tuple es x1 pos) (Zl t):=by
 intro pins s σ H Q I hq;refine wpAny_Tuple_spliced (bU (h pos pins s σ H _ I hq) λus s1 ⟨xs,H1,I1,r,z,q⟩=>⟨by rw[<- r.length];exact z,?_⟩);have hf:H1 s1.heap.objs.size=none:=I1.hok.fresh (bQ _);refine⟨.ref s1.heap.objs.size,aI H1 s1.heap.objs.size (.tup xs),I1.laid (t':=s1.toks) (λb u e=>eP _ e) (bQ _) ?_,rfl,q _ hf⟩;exact⟨z,us,r,⟨_,UV _ rfl,rfl,_,rfl⟩⟩
def Uw(h:PA X es t):PE X (.List es pos) (Zm t):=by
 intro pins s σ H Q I hq;refine wpAny_List_spliced (bU (h pos pins s σ H _ I hq) λus s1 ⟨xs,H1,I1,r,z,q⟩=>⟨by rw[<- r.length];exact z,?_⟩);have hf:H1 s1.heap.objs.size=none:=I1.hok.fresh (bQ _);refine⟨.ref s1.heap.objs.size,aI H1 s1.heap.objs.size (.lst xs),I1.laid (t':=s1.toks) (λb u e=>eP _ e) (bQ _) ?_,rfl,q _ hf⟩;exact⟨z,us,0,r,UV _ rfl⟩
end
abbrev Sp:=List V->Hp->VK->XK->Prop
abbrev Gq:=List Env->Hp->TW->XK->T0->TW->Prop
structure Env0(P:Program)(w:World)(K:W.Frag)(mg:X8)(base:Heap)(A:Around)(outer:List Env)(s:TW)(H:Hp):Prop where
 frames:A.frames=some outer
 mod:Mod K mg base
 bs:∀b o,base.get? b=some o->s.heap.get? b=some o/\H b=none
 bsz:base.objs.size<=s.heap.objs.size
 funs:s.heap.FunFrames base outer
 frf:∀b∈jJ outer,H b=none
 hok:HOk P w H s.heap
 bare:AllBare s.gens
def CE(outer:List Env)(P:Program)(w:World)(H:Hp)(s:TW)(Q:VK)(u:T0)(s':TW):Prop:=
 ∃v H',s'.os=s.os/\AllBare s'.gens/\Un (jJ outer) [] H H' s.heap s'.heap/\HOk P w H' s'.heap/\RelV v u/\Q v H'
def CR(CX:Gq)(outer:List Env)(P:Program)(w:World)(H:Hp)(s:TW)(Q:VK)(E:XK)(r:Result)(s':TW):Prop:=
 match r with
 | .ok (.ret u)=>CE outer P w H s Q u s'
 | .ok _=>False
 | .error e=>CX outer H s E e s'
structure iE(P:Program)(w:World)(K:W.Frag)(mg:X8)(base:Heap)(CX:Gq)(k:Nat)(f:UF)(fd:FuncData)(ps:List Str)(sp:Sp):Prop where
 len:∀vs H Q E,sp vs H Q E->vs.length=ps.length
 run:∀(A:Around)(outer:List Env)(s:TW)(H:Hp)(args:Args)(us:List T0)(vs:List V)(Q:VK)(E:XK),Room k A->Env0 P w K mg base A outer s H->BindsTo s fd args (ps.zip us)->Vals vs us->sp vs H Q E →
  codeAny (model P w) A (.call (.ref f) args) (CR CX outer P w H s Q E) s
def Env0.make{P:Program}{w:World}{K:W.Frag}{mg:X8}{base:Heap}{A:Around}{outer:List Env}{s:TW}{H:Hp}(e:Env0 P w K mg base A outer s H)(C:UF)(us:List T0)(kw:List (Str×T0)) :
  Env0 P w K mg base (A.under (.builtin "type.__call__" ⟨.ref C::us,kw⟩)) outer s H:=⟨by first|exact e.frames|(simpa [Around.under,Code.envs,Code.isFrame,pushEnvs]using e.frames),e.mod,e.bs,e.bsz,e.funs,e.frf,e.hok,e.bare⟩
section
variable {X:Cx}{pins:ZB}{σ:St}{H:Hp}{s s':TW}
def Inv.env0(I:Inv X pins σ H s):Env0 X.prog X.w X.K X.mg X.base X.A X.stack s H:=
 ⟨I.ok.frames,I.ok.mod,I.bs,kN I.ok.bsz I.sz,I.stack,I.stkFree,I.hok,I.bare⟩
def Inv.after{Q:VK}{u:T0}(I:Inv X pins σ H s)(h:CE X.stack X.prog X.w H s Q u s'):EP X pins σ Q u s':=by
 obtain⟨v,H',os,bare,un,hok,r,q⟩:=h;obtain⟨hh,g,d,t,YV⟩:=s';obtain rfl:YV=s.os:=os;exact⟨v,H',I.call (h':=hh) (g':=g) (d':=d) (t':=t) (ch:=[]) un hok bare (λb z=>QZZ z Zs),r,q⟩
end
def Zp(sp:Sp)(dvs:List V)(E:XK)(t:TA):TE:=λσ H Q=>t σ H λvs H1=>sp (vs++dvs) H1 Q E
def Am(C:UF)(sp:Sp)(dvs:List V)(E:XK)(t:TA):TE:=λσ H Q=>t σ H λvs H1=>∀x dx,H1 x=none->H1 dx=none->dx≠x →
 sp (.ref x::(vs++dvs)) (aI (aI H1 dx (.own x)) x (.ins C dx [])) (λv H2=>v=.non/\Q (.ref x) H2) E
def Binds(K:W.Frag)(fd:FuncData)(ps:List Str)(ds:List T0):Prop:=
 ∀(s:TW)(us:List T0),K.In s.heap->(us++ds).length=ps.length->BindsTo s fd ⟨us,[]⟩ (ps.zip (us++ds))
def Binds.all{K:W.Frag}{fd:FuncData}{ps:List Str}(h:∀us:List T0,us.length=ps.length->bindArgs fd ⟨us,[]⟩=pure (ps.zip us)):Binds K fd ps []:=λs us _ hl=>by
 rw[append_nil]at hl ⊢;exact .of_eq (h us hl)
def mV(CX:Gq)(X:Cx)(E:XK):Prop:=∀(pins:ZB)(σ:St)(H:Hp)(s:TW)(e:T0)(s':TW),Inv X pins σ H s->CX X.stack H s E e s'->X.xe e s'
section
variable {X:Cx}{CX:Gq}{k:Nat}{f C:UF}{fd:FuncData}{ps:List Str}{sp:Sp}{dvs:List V}{ds:List T0}{E:XK}{x m:Str}{p pos apos:Pos}{e o:Expr}{es:List Expr}{ta:TE}{t:TA}
def Gr{pins:ZB}{σ:St}{H:Hp}{s:TW}{Q:VK}{us:List T0}{vs:List V}(F:iE X.prog X.w X.K X.mg X.base CX k f fd ps sp)(hr:Room k X.A)(hb:Binds X.K fd ps ds)(hd:Vals dvs ds)(hx:mV CX X E)(I:Inv X pins σ H s)(r:Vals vs us)(h:sp (vs++dvs) H Q E):wpAny (model X.prog X.w) X.A (call (.ref f) us) (EP X pins σ Q) X.xe s:=by
 have r2:Vals (vs++dvs) (us++ds):=r.append hd;have hl:(us++ds).length=ps.length:=by rw[<- r2.length];exact F.len _ _ _ _ h
 refine wpAny_call (codeAny_mono (F.run X.A X.stack s H ⟨us,[]⟩ (us++ds) (vs++dvs) Q E hr I.env0 (hb s us I.kIn hl) r2 h) λr s' hq=>?_)
 cases r with
 | error e=>exact hx pins σ H s e s' I hq
 | ok fl=>
  cases fl with
  | ret u=>exact I.after hq
  | next=>exact False.elim hq
  | brk=>exact False.elim hq
  | cont=>exact False.elim hq
def Nw(F:iE X.prog X.w X.K X.mg X.base CX k f fd ps sp)(hr:Room k X.A)(hg:Gl X x)(hm:X.mg x=some (.ref f))(hk:W.keepIn X.K (.ref f)=true)(hb:Binds X.K fd ps ds)(hd:Vals dvs ds)(hx:mV CX X E)(ha:PA X (e::es) t)(E2:(x==("__debug__":Str))=false:=by decide)(he:starEach (e::es) X.env=(false,eval e X.env)::starEach es X.env:=by rfl)(uf:(backTo pos (starEach es X.env)).any (·.1)=false:=by rfl) :
  PE X (.Call (.Name x p) (e::es) [] pos) (Zp sp dvs E t):=by
 intro pins s σ H Q I h;refine wpAny_Call_Name_kw (iC I hg hm ?_ E2);refine W.callWith_K (h₀:=X.base) I.ok.mod.kin hk (bU (ha pos pins s σ H _ I h) λus s1 ⟨vs,H1,I1,r,q⟩=>⟨I1.kIn,?_⟩) he uf;exact Gr F hr hb hd hx I1 r q
structure Mk(K:W.Frag)(C f:UF):Prop where
 makes:W.makesIn K C=true
 init:W.findIn K (.ref C) "__init__"=some (some (.ref f))
 fn:W.isFn K (.ref f)=true
 kp:W.keepIn K (.ref C)=true
def vW{pins:ZB}{σ:St}{H:Hp}{s:TW}{Q:VK}{us:List T0}{vs:List V}(M:Mk X.K C f)(F:iE X.prog X.w X.K X.mg X.base CX k f fd ps sp)(hr:Room (k+1) X.A)(hb:Binds X.K fd ps ds)(hd:Vals dvs ds)(hx:mV CX X E)(I:Inv X pins σ H s)(r:Vals vs us)(h:∀x dx,H x=none->H dx=none->dx≠x->sp (.ref x::(vs++dvs)) (aI (aI H dx (.own x)) x (.ins C dx [])) (λv H2=>v=.non/\Q (.ref x) H2) E) :
  wpAny (model X.prog X.w) X.A (call (.ref C) us) (EP X pins σ Q) X.xe s:=by
 have hq:=h (s.heap.objs.size+1) s.heap.objs.size (I.hok.fresh (le_succ _)) (I.hok.fresh (bQ _)) (ne_of_lt (lt_succ_self _));have I2:=Inv.made (C:=C) I;have r2:Vals (V.ref (s.heap.objs.size+1)::(vs++dvs)) (Value.ref (s.heap.objs.size+1)::(us++ds)):=.cons rfl (r.append hd);have hl:(Value.ref (s.heap.objs.size+1)::us++ds).length=ps.length:=by
  have e:=r2.length;rw[F.len _ _ _ _ hq]at e;exact e.symm
 refine wpAny_call (Gp (f:=f) I.kIn M.makes M.init (beq_iff_eq.mp M.fn) (codeAny_mono (F.run _ X.stack _ _ ⟨Value.ref (s.heap.objs.size+1)::us,[]⟩ (Value.ref (s.heap.objs.size+1)::(us++ds)) _ _ E (hr.make C us [])
  (I2.env0.make C us []) (hb _ (Value.ref (s.heap.objs.size+1)::us) I2.kIn hl) r2 hq) λr s' kx=>?_))
 cases r with
 | error e=>exact hx pins σ _ _ e s' I2 kx
 | ok fl=>
  cases fl with
  | ret u=>
   obtain⟨v,H',I3,rv,ev,q3⟩:=I2.after kx;subst ev;exact⟨rv,⟨V.ref (s.heap.objs.size+1),H',I3,rfl,q3⟩⟩
  | next=>exact False.elim kx
  | brk=>exact False.elim kx
  | cont=>exact False.elim kx
def Ny(M:Mk X.K C f)(F:iE X.prog X.w X.K X.mg X.base CX k f fd ps sp)(hr:Room (k+1) X.A)(hg:Gl X x)(hm:X.mg x=some (.ref C))(hb:Binds X.K fd ps ds)(hd:Vals dvs ds)(hx:mV CX X E)(ha:PA X (e::es) t)(E2:(x==("__debug__":Str))=false:=by decide)(he:starEach (e::es) X.env=(false,eval e X.env)::starEach es X.env:=by rfl)(uf:(backTo pos (starEach es X.env)).any (·.1)=false:=by rfl) :
  PE X (.Call (.Name x p) (e::es) [] pos) (Am C sp dvs E t):=by
 intro pins s σ H Q I h;refine wpAny_Call_Name_kw (iC I hg hm ?_ E2);refine W.callWith_K (h₀:=X.base) I.ok.mod.kin M.kp (bU (ha pos pins s σ H _ I h) λus s1 ⟨vs,H1,I1,r,q⟩=>⟨I1.kIn,?_⟩) he uf;exact vW M F hr hb hd hx I1 r q
def Gs(M:Mk X.K C f)(F:iE X.prog X.w X.K X.mg X.base CX k f fd ps sp)(hr:Room (k+1) X.A)(hg:Gl X x)(hm:X.mg x=some (.ref C))(hb:Binds X.K fd ps ds)(hd:Vals dvs ds)(hx:mV CX X E)(E2:(x==("__debug__":Str))=false:=by decide):PE X (.Call (.Name x p) [] [] pos) (Am C sp dvs E yJ):=by
 intro pins s σ H Q I h;refine wpAny_Call_Name_kw (iC I hg hm ?_ E2);exact W.callWith_K0 I.kIn M.kp (vW (us:=[]) M F hr hb hd hx I .nil h)
end
structure aJ(N P:List Str)(sc:Scope):Prop where
 kind:sc.kind=.function
 co:sc.isCoroutine=false
 gen:sc.isGenerator=false
 nd:N.Nodup
 pre:N.take P.length=P
 par:∀x∈P,sc.names.lookup x=some .local∨sc.names.lookup x=some .cell
 nofree:∀y∈sc.names,y.2≠.free
def rT{kindOf:Str->Option NameKind}{x:Str}:∀ {binds:List (Str×T0)}{m:X8},(∀v,(x,v)∉binds)->bindL kindOf binds m x=m x
 | [],_,_=>rfl
 | (n,v)::r,m,h=>by
  unfold bindL;rw[rT λw hw=>h w (oP _ hw)];split
  ·have:x≠n:=by rintro rfl;exact h v jI
   simp[this]
  ·rfl
def rV{kindOf:Str->Option NameKind}{x:Str}:∀ {binds:List (Str×T0)}{m:X8},(∀v,(x,v)∉binds)->bindC kindOf binds m x=m x
 | [],_,_=>rfl
 | (n,v)::r,m,h=>by
  unfold bindC;rw[rV λw hw=>h w (oP _ hw)];split
  ·rfl
  ·have:x≠n:=by rintro rfl;exact h v jI
   simp[this]
def rW{kindOf:Str->Option NameKind}{x:Str}{v:T0}:∀ {P:List Str}{vs:List T0}{i:Nat}{m:X8},P.Nodup->P[i]?=some x->vs[i]?=some v->kindOf x=some .local →
  bindL kindOf (P.zip vs) m x=some v
 | [],_,_,_,_,h,_,_=>by simp at h
 | _::_,[],_,_,_,_,h,_=>by simp at h
 | p::P,w::vs,0,m,nd,h1,h2,hk=>by
  simp at h1 h2;subst h1;subst h2;show bindL kindOf ((p,w)::P.zip vs) m p=_;unfold bindL;rw[rT λv hv=>(nodup_cons.mp nd).1 (of_mem_zip hv).1,TD hk];simp
 | p::P,w::vs,i+1,m,nd,h1,h2,hk=>by
  show bindL kindOf ((p,w)::P.zip vs) m x=_;unfold bindL;exact rW (i:=i) (nodup_cons.mp nd).2 (by simpa using h1) (by simpa using h2) hk
def rX{kindOf:Str->Option NameKind}{x:Str}{v:T0}:∀ {P:List Str}{vs:List T0}{i:Nat}{m:X8},P.Nodup->P[i]?=some x->vs[i]?=some v->kindOf x≠some .local →
  bindC kindOf (P.zip vs) m x=some v
 | [],_,_,_,_,h,_,_=>by simp at h
 | _::_,[],_,_,_,_,h,_=>by simp at h
 | p::P,w::vs,0,m,nd,h1,h2,hk=>by
  simp at h1 h2;subst h1;subst h2;show bindC kindOf ((p,w)::P.zip vs) m p=_;unfold bindC;rw[rV λv hv=>(nodup_cons.mp nd).1 (of_mem_zip hv).1,P7 hk];simp
 | p::P,w::vs,i+1,m,nd,h1,h2,hk=>by
  show bindC kindOf ((p,w)::P.zip vs) m x=_;unfold bindC;exact rX (i:=i) (nodup_cons.mp nd).2 (by simpa using h1) (by simpa using h2) hk
def start(N:List Str)(vs:List V):St:=vs.map some++replicate (N.length-vs.length) none
def fL(CX:Gq)(P:Program)(w:World)(K:W.Frag)(mg:X8)(base:Heap)(N:List Str)(qual:Str)(scope:Scope)(f:UF)(cd:T0)(A:Around)(outer:List Env)(s:TW)(H:Hp)(E:XK):Cx where
 prog:=P
 w:=w
 K:=K
 mg:=mg
 base:=base
 A:=A.deeper (envOfC qual scope s.heap.objs.size f cd)
 N:=N
 s₀:=s
 H₀:=H
 env:=envOfC qual scope s.heap.objs.size f cd
 outer:=outer
 stack:=envOfC qual scope s.heap.objs.size f cd::outer
 ex:=[]
 calm:=true
 fn:=λ_=>true
 pn:=[]
 xe:=λe s'=>wpAny (model P w) (A.deeper (envOfC qual scope s.heap.objs.size f cd)) (leaving (envOfC qual scope s.heap.objs.size f cd) e) (λ_ tm=>CX outer H s E e tm) (λe' tm=>CX outer H s E e' tm) s'
def vX{sc:Scope}{n:Nat}{x:Str}(h:sc.names.lookup x=some .cell):∃c,(cellsFrom n sc.names []).lookup x=some c:=by
 have q:=W.cellsFrom_some sc.names n [] (.inl h);exact Option.isSome_iff_exists.mp q
def Dp{CX:Gq}{P:Program}{w:World}{K:W.Frag}{mg:X8}{base:Heap}{N ps:List Str}{qual:Str}{scope:Scope}{f:UF}{cd:T0}{A:Around}{outer:List Env}{s s1:TW}{H:Hp}{E:XK}{us:List T0}{vs:List V}(S:aJ N ps scope)(hd:A.handled=none)(e0:Env0 P w K mg base A outer s H)(hl:vs.length=ps.length)(r:Vals vs us)(x:InCallC s s.heap.objs.size (bindL (envOfC qual scope s.heap.objs.size f cd).kindOf (ps.zip us) λ_=>none) (cellsFrom (s.heap.objs.size+1) scope.names []) (bindC (envOfC qual scope s.heap.objs.size f cd).kindOf (ps.zip us) λ_=>none) s1) :
  Inv (fL CX P w K mg base N qual scope f cd A outer s H E) [] (start N vs) H s1:=by
 have uf:ps.length<=N.length:=by have:=congrArg length S.pre;rw[jD]at this;omega
 obtain⟨h1,tk,rfl,hk⟩:=x.done;have JK:∀b:UF,b∉(fL CX P w K mg base N qual scope f cd A outer s H E).ex:=λb z=>QZZ (show b∈([]:List UF) from z) Zs
 refine⟨⟨e0.mod,S.kind,rfl,rfl,bQ _,λy z c h1 h2=>?_,λy hy=>?_,λy c _ h=>?_,λ_=>hd,Around.frames_deeper e0.frames,.inr ⟨rfl,rfl⟩,λb z=>QZZ z (JK b),e0.bs,e0.bsz,λb _ _=>JK b,λb z=>QZZ z (JK b),e0.funs,e0.frf⟩,
  rfl,e0.bare,Un.kept hk,⟨_,x.toInCall.ns,λi y v h1 h2 h3=>?_⟩,λy c h=>⟨_,x.cell y c h⟩,e0.hok.fresh (bQ _),λy c h=>?_,λp hp=>QZZ (show p∈([]:List (Addr × Obj)) from hp) Zs,e0.hok.kept hk,?_⟩
 ·exact name_of_addr x.apart (PySem.mem_of_lookup h1) (PySem.mem_of_lookup h2)
 ·have hy:scope.names.lookup y=some .cell∨scope.names.lookup y=some .free:=hy;rcases hy with hy|hy
  ·exact vX hy
  ·exact QZZ rfl (S.nofree _ (PySem.mem_of_lookup hy))
 ·exact le_of_lt (x.above y c (PySem.mem_of_lookup h))
 ·have hi:i<vs.length:=by
   unfold start at h2;by_cases hi:i<vs.length
   ·exact hi
   ·rw[List.getElem?_append_right (by simpa using hi)]at h2;rw[List.getElem?_replicate]at h2;split at h2<;>cases h2
  have ha:vs[i]?=some v:=by
   unfold start at h2;rw[List.getElem?_append_left (by simpa using hi),jC]at h2
   cases e:vs[i]? with
   | none=>rw[e]at h2;cases h2
   | some a=>rw[e]at h2;cases h2;rfl
  obtain⟨u,hu,rv⟩:=r.get ha;have hp:ps[i]?=some y:=by
   rw[<- S.pre,List.getElem?_take_of_lt Zo];exact h1
  have SR:ps.Nodup:=by rw[<- S.pre];exact S.nd.sublist (List.take_sublist _ _)
  refine⟨u,rv,?_⟩;rcases S.par y (jW hp) with k|k
  ·exact .inl ⟨k,rW SR hp hu k⟩
  ·obtain⟨c,e⟩:=vX (n:=s.heap.objs.size+1) k;refine .inr ⟨.inl k,c,e,?_⟩;have q:=x.cell y c e;rw[rX SR hp hu (by show scope.names.lookup y≠_;rw[k];decide)]at q;exact q
 ·exact e0.hok.fresh (le_of_lt (x.above y c (PySem.mem_of_lookup h)))
 ·unfold start;show _=N.length;rw[kM,aZ,List.length_replicate];omega
def Gu{CX:Gq}{P:Program}{w:World}{K:W.Frag}{mg:X8}{base:Heap}{k:Nat}{f:UF}{name qual:Str}{params:Arguments}{body:List Stmt}{scope:Scope}{dV kV doc pm cdv ct oc:T0}{an od:Option UF}{osl:Array (Option T0)}{N ps:List Str}{sp:Sp}(lk:K.lookup f=some ⟨oc,od,.func (W.fnOf name qual params body scope dV kV doc pm an cdv ct),osl⟩)(ue:W.codeIn K cdv qual=true)(S:aJ N ps scope)(len:∀vs H Q E,sp vs H Q E->vs.length=ps.length)(n8:∀(A:Around)(outer:List Env)(s:TW)(H:Hp)(vs:List V)(Q:VK)(E:XK),Room k (A.deeper (envOfC qual scope s.heap.objs.size f cdv))->sp vs H Q E →
   ∃t,PSs (fL CX P w K mg base N qual scope f cdv A outer s H E) body t/\t {nx:=λ_ H'=>Q .non H',rt:=Q } (start N vs) H) :
  iE P w K mg base CX (k+1) f (W.fnOf name qual params body scope dV kV doc pm an cdv ct) ps sp:=by
 refine⟨len,λA outer s H args us vs Q E hr e0 hb r ya=>?_⟩;have hl:=len _ _ _ _ ya;have KX:K.In s.heap:=e0.mod.kin.keeps λb o e=>(e0.bs b o e).1
 have lim:s.heap.NoLimit:=e0.mod.nolimit.keeps λb o e=>(e0.bs b o e).1
 have JL:∀y∈ps.zip us,scope.names.lookup y.1=some .local∨(scope.names.lookup y.1=some .cell/\((cellsFrom (s.heap.objs.size+1) scope.names []).lookup y.1).isSome=true):=λ⟨n,v⟩ hy=>by
  rcases S.par n (of_mem_zip hy).1 with q|q
  ·exact .inl q
  ·exact .inr ⟨q,W.cellsFrom_some _ _ _ (.inl q)⟩
 refine codeAny_call_function hr.depth (KX _ _ lk) rfl S.co S.gen rfl (W.codeRec_of KX ue) (hb _ _ _ _ ?_);refine wpAny_newFunctionEnv_cells S.kind JL λenv he s1 x=>?_;subst he;refine⟨lim.keeps x.toInCall.keep,codeAny_func ?_⟩;obtain⟨t,ht,hq⟩:=n8 A outer s H vs Q E (hr.deeper _) ya;have I:Inv (fL CX P w K mg base N qual scope f cdv A outer s H E) [] (start N vs) H s1:=Dp S hr.hd e0 hl r x;refine wpAny_mono (ht [] s1 (start N vs) H _ I hq) (λfl s' hs=>?_) λe s' hs=>hs;have fin:∀ {σ':St}{H':Hp}{v:V}{u:T0},Inv (fL CX P w K mg base N qual scope f cdv A outer s H E) [] σ' H' s'->RelV v u->Q v H'->CE outer P w H s Q u s':=
  λ{σ' H' v u} J rv q=>⟨v,H',J.os,J.bare,J.base,J.hok,rv,q⟩
 cases fl with
 | ret u=>
  obtain⟨v,σ',H',J,rv,q⟩:=hs;exact fin J rv q
 | next=>
  obtain⟨σ',H',J,q⟩:=hs;exact fin (v:=V.non) (u:=Value.none) J rfl q
 | brk=>
  obtain⟨_,_,_,q⟩:=hs;exact False.elim q
 | cont=>
  obtain⟨_,_,_,q⟩:=hs;exact False.elim q
section
variable {X:Cx}{x:Str}{p pos:Pos}{e:Expr}{es:List Expr}{t:TA}{id T:String}{r:List V->Hp->VK->Prop}
def Yi(r:List V->Hp->VK->Prop)(t:TA):TE:=λσ H Q=>t σ H λvs H1=>r vs H1 Q
def vY(hc:CallR X (.builtin id) r)(hg:Gl X x)(hm:X.mg x=none)(hv:bootBuiltins x=some (.builtin id))(ha:PA X (e::es) t)(hn:x≠"__name__":=by decide)(E2:(x==("__debug__":Str))=false:=by decide)(he:starEach (e::es) X.env=(false,eval e X.env)::starEach es X.env:=by rfl)(uf:(backTo pos (starEach es X.env)).any (·.1)=false:=by rfl):PE X (.Call (.Name x p) (e::es) [] pos) (Yi r t):=by
 intro pins s σ H Q I h;refine wpAny_Call_Name_kw (mO I hg hm hv ?_ hn E2);exact PyProof.Rows.callWith_builtin1 (bU (ha pos pins s σ H _ I h) λus s1 ⟨vs,H1,I1,r1,q1⟩=>hc pins s1 σ H1 vs us Q I1 r1 q1) he uf
def Dq(hc:CallR X (.type T) r)(hg:Gl X x)(hm:X.mg x=none)(hv:bootBuiltins x=some (.type T))(ha:PA X (e::es) t)(hn:x≠"__name__":=by decide)(E2:(x==("__debug__":Str))=false:=by decide)(he:starEach (e::es) X.env=(false,eval e X.env)::starEach es X.env:=by rfl)(uf:(backTo pos (starEach es X.env)).any (·.1)=false:=by rfl):PE X (.Call (.Name x p) (e::es) [] pos) (Yi r t):=by
 intro pins s σ H Q I h;refine wpAny_Call_Name_kw (mO I hg hm hv ?_ hn E2);exact PyProof.Rows.callWith_type1 (bU (ha pos pins s σ H _ I h) λus s1 ⟨vs,H1,I1,r1,q1⟩=>hc pins s1 σ H1 vs us Q I1 r1 q1) he uf
end
end L2
namespace HT
open PySem PyProof.Rows
section
variable {prog:Program}{w:World}{A:Around}{E:X9}{s:TW}
def cat_tup{t b:UF}{vs ws:List T0}{Q:X9}(ht:IsTup s.heap t vs.toArray)(hb:IsTup s.heap b ws.toArray)(hv:vs≠[])(h1:ws=[]->Q (.ref t) s)(h2:ws≠[]->Q (.ref s.heap.objs.size) {s with heap:=s.heap.push {cls:=.type "tuple",data:=.seq (vs++ws).toArray } })(hsz:vs.length+ws.length<=sizeLine):wpAny (model prog w) A (binaryOp .Add (.ref t) (.ref b)) Q E s:=by
 obtain⟨⟨cls,dd,data,sl⟩,ho,hc,n,hd⟩:=id ht;obtain⟨⟨OO,MX,data2,EU⟩,zm,EV,n2,hd2⟩:=id hb;simp only at hc hd EV hd2;subst hc hd EV hd2;have e:vs.toArray++ws.toArray=(vs++ws).toArray:=by simp
 by_cases hw:ws=[]
 ·exact concat_meets ⟨_,ho,rfl⟩ ⟨_,zm,rfl⟩ noFill_tuple_add seq_tuple_add PySem.F.slot_tuple_add PySem.F.entry_tuple_add (PySem.F.args_tuple_add_2 _ _)
   (tuple_addW1 t b vs.toArray ws.toArray n n2 dd MX sl EU (by simpa using hv) (by simp[hw])) ⟨ho,zm,h1 hw⟩
 ·refine concat_meets ⟨_,ho,rfl⟩ ⟨_,zm,rfl⟩ noFill_tuple_add seq_tuple_add PySem.F.slot_tuple_add PySem.F.entry_tuple_add (PySem.F.args_tuple_add_2 _ _)
   (tuple_addW2 t b vs.toArray ws.toArray n n2 dd MX sl EU (by simpa using hv) (by simpa using hw) (by rw[eB,eB];exact hsz)) ⟨ho,zm,?_⟩
  rw[e];exact h2 hw
def sIx(n d:Nat):Option Int->Nat
 | none=>d
 | some v=>if v<0 then (v+(n:Int)).toNat else min v.toNat n
def sIx_none(n d:Nat):sIx n d none=d:=rfl
def sIx_nat(n d k:Nat):sIx n d (some (k:Int))=min k n:=by
 show(if (k:Int)<0 then ((k:Int)+(n:Int)).toNat else min (k:Int).toNat n)=min k n;rw[P7 Zo,Int.toNat_natCast]
def Ux(n d:Nat)(hd:d<=n)(o:Option Int):sIx n d o<=n:=by
 cases o with
 | none=>exact hd
 | some v=>
  show(if v<0 then (v+(n:Int)).toNat else min v.toNat n)<=n;by_cases hv:v<0
  ·rw[TD hv];omega
  ·rw[P7 hv];exact Nat.min_le_right _ _
def Ao(v:Int)(n d:Nat):(if v<0 then max (v+(n:Int)) 0 else min v (n:Int))=((sIx n d (some v):Nat):Int):=by
 show(if v<0 then max (v+(n:Int)) 0 else min v (n:Int))=(((if v<0 then (v+(n:Int)).toNat else min v.toNat n):Nat):Int);by_cases hv:v<0
 ·simp only [TD hv];omega
 ·simp only [P7 hv];omega
def yK(lo hi:Option Int)(n:Nat):Builtin.Slice.sliceAdjust lo hi 1 (n:Int)=(((sIx n 0 lo:Nat):Int),((sIx n n hi:Nat):Int)):=by
 have h1:¬ ((1:Int)<0):=by omega
 unfold Builtin.Slice.sliceAdjust;simp only [h1,if_false];refine Prod.ext ?_ ?_
 ·cases lo with
  | none=>rfl
  | some v=>exact Ao v n 0
 ·cases hi with
  | none=>rfl
  | some v=>exact Ao v n n
def yL(i j:Nat):Builtin.Slice.slicePlaces (i:Int) (j:Int) 1=j-i:=by
 unfold Builtin.Slice.slicePlaces;have h1:(1:Int)>0:=by omega
 simp only [h1,if_true,Int.ediv_one];split<;>omega
def pC{v:T0}{o:Option Int}{Q:Option Int->TW->Prop}(p:IsPart v o)(h:Q o s):wpAny (model prog w) A (Builtin.Slice.slicePartIndex v) Q E s:=by
 cases p with
 | none=>exact slicePart_none h
 | int i t=>exact slicePart_int h
def sliceApplied_gen{sl:UF}{vl vu:T0}{lo hi:Option Int}{n:Nat}{Q:Int×Int×Nat->TW->Prop}(hs:s.heap.IsSliceOf sl vl vu .none)(pl:IsPart vl lo)(pu:IsPart vu hi)(h:Q (((sIx n 0 lo:Nat):Int),1,sIx n n hi-sIx n 0 lo) s):wpAny (model prog w) A (Builtin.Slice.sliceApplied (.ref sl) (pure (n:Int))) Q E s:=by
 obtain⟨os,EW,HV,JM⟩:=id hs;unfold Builtin.Slice.sliceApplied Builtin.Slice.sliceFields;refine X7 (X7 (wpAny_field EW JM (x:=vl) rfl (X7 (wpAny_field EW JM (x:=vu) rfl (X7 (wpAny_field EW JM (x:=.none) rfl (X6 ?_)))))));refine X7 (slicePart_none ?_);show wpAny _ _ (if ((1:Int)==0)=true then _ else _) _ _ s;rw[P7 Zd];refine X7 (pC pl (X7 (pC pu (X7 (X6 ?_)))));show wpAny _ _ (match Builtin.Slice.sliceAdjust lo hi 1 (n:Int) with|(lo,hi)=>pure (lo,(1:Int),Builtin.Slice.slicePlaces lo hi 1)) _ _ s;rw[yK lo hi n];show wpAny _ _ (pure (((sIx n 0 lo:Nat):Int),(1:Int),Builtin.Slice.slicePlaces ((sIx n 0 lo:Nat):Int) ((sIx n n hi:Nat):Int) 1)) _ _ s;rw[yL];exact X6 h
def Gv(xs:Array Value)(i k:Nat):((List.range k).filterMap λ(m:Nat)=>xs[((i:Int)+(m:Int)*1).toNat]?).toArray=((xs.toList.drop i).take k).toArray:=by
 have e:(λ(m:Nat)=>xs[((i:Int)+(m:Int)*1).toNat]?)=λm=>xs[i+m]?:=by
  funext m
  have:((i:Int)+(m:Int)*1).toNat=i+m:=by omega
  rw[this]
 rw[e];have:=pick_run xs i k;rw[List.filterMap_map]at this;have e2:((λx=>xs[x]?)∘λx=>i+x)=λm=>xs[i+m]?:=rfl
 rw[e2]at this;rw[this]
def getItem_tuple_cut{t sl:UF}{items:Array Value}{vl vu:T0}{lo hi:Option Int}{Q:X9}(ht:IsTup s.heap t items)(hs:s.heap.IsSliceOf sl vl vu .none)(pl:IsPart vl lo)(pu:IsPart vu hi)(hw:¬ (sIx items.size 0 lo=0/\sIx items.size items.size hi=items.size))(h:Q (.ref s.heap.objs.size) {s with heap:=s.heap.push {cls:=.type "tuple",data:=.seq ((items.toList.drop (sIx items.size 0 lo)).take (sIx items.size items.size hi-sIx items.size 0 lo)).toArray } })(hsz:items.size<=sizeLine):wpAny (model prog w) A (getItem (.ref t) (.ref sl)) Q E s:=by
 have yb:sizeOk (.seq ((items.toList.drop (sIx items.size 0 lo)).take (sIx items.size items.size hi-sIx items.size 0 lo)).toArray):=by
  show((items.toList.drop (sIx items.size 0 lo)).take (sIx items.size items.size hi-sIx items.size 0 lo)).toArray.size<=sizeLine;rw[eB,jD,length_drop,Array.length_toList];omega
 have hj:sIx items.size items.size hi<=items.size:=Ux _ _ (bQ _) hi;obtain⟨os,EW,HV,JM⟩:=id hs;have OP:s.TypeIs (.ref sl) "slice":=⟨os,EW,HV⟩;unfold getItem;try with_reducible refine wpAny_holding ?_
 first|refine X7 (X6 ?_)|skip
 refine X7 (wpAny_sequenceKey ht.typeIs Zd ?_);refine X7 (wpAny_callSpecial?_slot (name:=Str.ofString "__getitem__") ht.typeIs PyProof.Rows.slot_tuple_getitem
  (wpAny_call_entry PyProof.Rows.slot_tuple_getitem ht.typeIs entry_tuple_getitem ?_ (args_tuple_getitem _ _)))
 show wpAny _ _ (Builtin.Tuple.tupleItemsOf (.ref t)>>=_) _ _ s;refine X7 (tupleItemsOf_ ht ?_);refine X7 (wpAny_typeOf OP ?_);rw[TD Zd];refine X7 (sliceApplied_gen hs pl pu ?_);have ua:¬ ((((sIx items.size 0 lo:Nat):Int)==0&&(1:Int)==1&&(sIx items.size items.size hi-sIx items.size 0 lo)==items.size)=true):=by
  intro q;rw[Bool.and_eq_true,Bool.and_eq_true]at q;have q1:((sIx items.size 0 lo:Nat):Int)=0:=eq_of_beq q.1.1;have q2:sIx items.size items.size hi-sIx items.size 0 lo=items.size:=eq_of_beq q.2;exact hw ⟨Zo,Zo⟩
 show wpAny _ _ (if (((sIx items.size 0 lo:Nat):Int)==0&&(1:Int)==1&&(sIx items.size items.size hi-sIx items.size 0 lo)==items.size)=true then _ else _) _ _ s;rw[P7 ua,Gv];first
  | exact X7 (m:=Builtin.Tuple.tupleExact _) (wpAny_newObj_type (X6 ⟨_,rfl,X6 h⟩) yb)
  | exact X7 (m:=Builtin.Tuple.tupleExact _) (wpAny_newObj_type (X7 (X6 (X6 ⟨_,rfl,X6 h⟩))) yb)
  | exact X7 (X7 (m:=Builtin.Tuple.tupleExact _) (wpAny_newObj_type (X6 (X6 ⟨_,rfl,X6 h⟩)) yb))
  | exact X7 (X7 (m:=Builtin.Tuple.tupleExact _) (wpAny_newObj_type (X6 ⟨_,rfl,X6 h⟩) yb))
end
end HT
namespace L2
open PySem PySem.Spec PyProof.Rows
abbrev TO:=St->Hp->(Option Int->Hp->Prop)->Prop
def PO(X:Cx)(e:Option Expr)(t:TO):Prop:=
 ∀(pins:ZB)(s:TW)(σ:St)(H:Hp)(Q:Option Int->Hp->Prop),Inv X pins σ H s->t σ H Q →
  wpAny (model X.prog X.w) X.A (evalPart e X.env) (λu s'=>∃o H',Inv X pins σ H' s'/\IsPart u o/\Q o H') X.xe s
def Ap:TO:=λ_ H Q=>Q none H
def Gw(t:TE):TO:=λσ H Q=>t σ H λx H1=>∃i,x=.int i/\Q (some i) H1
def pE{ns:List Int}:∀ {us:List T0},Vals (ns.map V.int) us->IntsAre us ns:=by
 induction ns with
 | nil=>intro us r;rw[map_nil]at r;cases r;exact .nil
 | cons n ns ih=>
  intro us r;rw[map_cons]at r;cases r with
  | cons r1 r2=>
   obtain⟨t,e⟩:=r1;subst e;exact .cons n t (ih r2)
section
variable {X:Cx}{e:Expr}{te:TE}{lo hi:Option Expr}{tl th:TO}{pos p2:Pos}
def Nz:PO X none Ap:=by
 intro pins s σ H Q I h;rw[evalPart_none];exact X6 ⟨none,H,I,.none,h⟩
def Oa(h:PE X e te):PO X (some e) (Gw te):=by
 intro pins s σ H Q I hw;rw[evalPart_some];refine bU (h pins s σ H _ I hw) λu s1 ⟨x,H1,I1,r1,q1⟩=>?_
 obtain⟨i,rfl,q⟩:=q1;obtain⟨t,rfl⟩:=r1;exact⟨some i,H1,I1,.int i t,q⟩
def SlR(X:Cx)(r:V->Option Int->Option Int->Hp->VK->Prop):Prop:=
 ∀(pins:ZB)(s:TW)(σ:St)(H:Hp)(x:V)(v vl vu:T0)(lo hi:Option Int)(sl:UF)(Q:VK),Inv X pins σ H s->RelV x v->s.heap.IsSliceOf sl vl vu .none->IsPart vl lo->IsPart vu hi->r x lo hi H Q →
  ∃T id,typeLookup (.type T) "__getitem__"=pure (some (.builtin id))/\s.TypeIs v T/\wpAny (model X.prog X.w) X.A (getItem v (.ref sl)) (EP X pins σ Q) X.xe s
def tSl(r:V->Option Int->Option Int->Hp->VK->Prop)(te:TE)(tl th:TO):TE:=λσ H Q=>te σ H λx H1=>tl σ H1 λl H2=>th σ H2 λu H3=>r x l u H3 Q
def Gx{r:V->Option Int->Option Int->Hp->VK->Prop}(hr:SlR X r)(he:PE X e te)(hl:PO X lo tl)(hu:PO X hi th):PE X (.Subscript e (.Slice lo hi none p2) pos) (tSl r te tl th):=by
 intro pins s σ H Q I h;refine Subscript_ (bU (he pins s σ H _ I h) λv s1 ⟨x,H1,I1,r1,q1⟩=>?_);refine wpAny_Slice (bU (hl pins s1 σ H1 _ I1 q1) λvl s2 ⟨l,H2,I2,pl,q2⟩=>bU (hu pins s2 σ H2 _ I2 q2) λvu s3 ⟨u,H3,I3,pu,q3⟩=>?_);rw[evalPart_none];refine X6 ?_;have I4:Inv X pins σ H3 {s3 with heap:=s3.heap.push {cls:=.type "slice",data:=.fields #[vl,vu,.none] } }:=I3.kept (t':=s3.toks) λb ob q=>eP _ q
 obtain⟨T,id,hT,ht,hg⟩:=hr pins {s3 with heap:=s3.heap.push {cls:=.type "slice",data:=.fields #[vl,vu,.none] } } σ H3 x v vl vu l u s3.heap.objs.size Q I4 r1 (Heap.IsSliceOf.new ..) pl pu q3;show wpAny (model X.prog X.w) X.A (subscriptTail e (.Slice lo hi none p2) v (.ref s3.heap.objs.size)) (EP X pins σ Q) X.xe {s3 with heap:=s3.heap.push {cls:=.type "slice",data:=.fields #[vl,vu,.none] } };exact tail_any (ops:=[.ref s3.heap.objs.size,v]) ht hT hg (by with_unfolding_all rfl)
def Dr(xs:List V)(lo hi:Option Int):List V:=(xs.drop (HT.sIx xs.length 0 lo)).take (HT.sIx xs.length xs.length hi-HT.sIx xs.length 0 lo)
def nY(xs:List V)(lo hi:Option Int):(Dr xs lo hi).length<=xs.length:=by
 unfold Dr;rw[jD,length_drop];omega
def aBq(K:W.Frag):V->Option Int->Option Int->Hp->VK->Prop:=λx lo hi H Q=>∃a xs,x=.ref a/\SqT K H a xs ∧
 ¬ (HT.sIx xs.length 0 lo=0/\HT.sIx xs.length xs.length hi=xs.length)/\∀p,H p=none->Q (.ref p) (aI H p (.tup (Dr xs lo hi)))
def Uy:SlR X (aBq X.K):=by
 intro pins s σ H x v vl vu lo hi sl Q I rx hs pl pu h;obtain⟨a,xs,rfl,hx,hw,q⟩:=h;cases rx;obtain⟨its,r,ht,hz⟩:=I.tuple hx;have hlen:its.toArray.size=xs.length:=by rw[eB];exact r.length.symm
 refine⟨"tuple",_,PyProof.Rows.slot_tuple_getitem.lookup,ht.typeIs,?_⟩;refine HT.getItem_tuple_cut ht hs pl pu (by rw[hlen];exact hw) ?_ (by rw[hlen];exact hz);rw[hlen];refine⟨.ref s.heap.objs.size,_,I.laid (t':=s.toks) (o:=.tup (Dr xs lo hi)) (λb ob q=>eP _ q) (bQ _) ?_,rfl,q _ (I.hok.fresh (bQ _))⟩;exact⟨kN (nY xs lo hi) hz,_,(r.drop (HT.sIx xs.length 0 lo)).take (HT.sIx xs.length xs.length hi-HT.sIx xs.length 0 lo),IsTup.new _ _⟩
def Zq(K:W.Frag):R2:=λx y H Q=>∃a b xs ys,x=.ref a/\y=.ref b/\SqT K H a xs/\SqT K H b ys/\xs≠[]/\xs.length+ys.length<=sizeLine ∧
 (ys=[]->Q (.ref a) H)/\(ys≠[]->∀p,H p=none->Q (.ref p) (aI H p (.tup (xs++ys))))
def Vals.nil_iff{xs:List V}{us:List T0}(r:Vals xs us):us=[]↔xs=[]:=by
 cases r with
 | nil=>simp
 | cons _ _=>simp
def Ob:OpR X (binaryOp .Add) (Zq X.K):=by
 intro pins s σ H x y v u Q I rx ry h;obtain⟨a,b,xs,ys,rfl,rfl,ha,hb,hx,hz,q1,q2⟩:=h;cases rx;cases ry;obtain⟨its,r1,p1,_⟩:=I.tuple ha;obtain⟨d8,r2,p2,_⟩:=I.tuple hb;refine HT.cat_tup p1 p2 (λz=>hx (r1.nil_iff.mp z)) (λz=>⟨.ref a,H,I,rfl,q1 (r2.nil_iff.mp z)⟩) (λz=>?_) (by rw[<- r1.length,<- r2.length];exact hz);refine⟨.ref s.heap.objs.size,_,I.laid (t':=s.toks) (o:=.tup (xs++ys)) (λb ob q=>eP _ q) (bQ _) ?_,rfl,q2 (λw=>z (r2.nil_iff.mpr w)) _ (I.hok.fresh (bQ _))⟩;exact⟨by rw[kM];exact hz,_,r1.append r2,IsTup.new _ _⟩
end
def Uz(n:Nat)(i:Int):Option Nat:=if 0<=i then (if i<n then some i.toNat else none) else if -(n:Int)<=i then some (i+n).toNat else none
def mW{α:Type}(xs:List α)(i:Int):Option α:=(Uz xs.length i).bind λj=>xs[j]?
def Aq{n:Nat}{i:Int}{j:Nat}(h:Uz n i=some j):seqIndex? i n=some j/\j<n/\-(n:Int)<=i/\i<n:=by
 unfold Uz at h;by_cases h0:0<=i
 ·rw[TD h0]at h;by_cases h1:i<n
  ·rw[TD h1]at h;have e:i.toNat=j:=Option.some.inj h;exact⟨by rw[seqIndex_of h0 h1,e],Zo,Zo,h1⟩
  ·rw[P7 h1]at h;cases h
 ·rw[P7 h0]at h;by_cases h1:-(n:Int)<=i
  ·rw[TD h1]at h;have e:(i+n).toNat=j:=Option.some.inj h;exact⟨by rw[seqIndex_neg Zo h1,e],Zo,h1,Zo⟩
  ·rw[P7 h1]at h;cases h
def tN{α:Type}{xs:List α}{i:Int}{v:α}(h:mW xs i=some v):∃j,seqIndex? i xs.length=some j/\xs[j]?=some v/\j<xs.length/\-(xs.length:Int)<=i/\i<xs.length:=by
 unfold mW at h;cases e:Uz xs.length i with
 | none=>rw[e]at h;cases h
 | some j=>
  rw[e]at h;obtain⟨h1,h2,h3,h4⟩:=Aq e;exact⟨j,h1,h,h2,h3,h4⟩
def bJ{α:Type}{xs:List α}{j:Nat}{v:α}(h:xs[j]?=some v):mW xs (j:Int)=some v:=by
 have hj:j<xs.length:=(Zgs.mp h).1;have e:Uz xs.length (j:Int)=some j:=by
  unfold Uz;rw[TD Zo,TD Zo];simp
 unfold mW;rw[e];exact h
def tO(b:Expr):Prop:=∀o i,subscripted b false o i=operate [o,i] (getItem o i)
def IxR(X:Cx)(r:R2):Prop:=
 ∀(value slice:Expr)(pins:ZB)(s:TW)(σ:St)(H:Hp)(x y:V)(v u:T0)(Q:VK),Inv X pins σ H s->RelV x v->RelV y u->r x y H Q →
  subscripted slice false v u=operate [v,u] (getItem v u)->wpAny (model X.prog X.w) X.A (subscriptTail value slice v u) (EP X pins σ Q) X.xe s
def Zr(X:Cx)(id:String)(r:V->List V->Hp->VK->Prop):Prop:=
 ∀(pins:ZB)(s:TW)(σ:St)(H:Hp)(x:V)(xs:List V)(v:T0)(us:List T0)(Q:VK),Inv X pins σ H s->RelV x v->Vals xs us->r x xs H Q →
  wpAny (model X.prog X.w) X.A (call (.builtin id) (v::us)) (EP X pins σ Q) X.xe s
section
variable {X:Cx}{a b:Expr}{ta tb:TE}{pos:Pos}
def Zt{r:R2}(hr:IxR X r)(ha:PE X a ta)(hb:PE X b tb)(hs:tO b):PE X (.Subscript a b pos) (Gj r ta tb):=by
 intro pins s σ H Q I h;exact Subscript_ (Uk ha hb I h λv u s2 x y H2 I2 rx ry q=>hr a b pins s2 σ H2 x y v u Q I2 rx ry q (hs _ _))
def aBr(K:W.Frag):R2:=λx y H Q=>∃p xs i v,x=.ref p/\y=.int i/\SqL K H p xs/\mW xs i=some v/\Q v H
def aBs(K:W.Frag):R2:=λx y H Q=>∃p xs i v,x=.ref p/\y=.int i/\SqT K H p xs/\mW xs i=some v/\Q v H
def aBt:R2:=λx y H Q=>∃z i c,x=.str z/\y=.int i/\z.length<=sizeLine/\mW z.cps.toList i=some c/\Q (.str ⟨#[c]⟩) H
def Oc:IxR X (aBr X.K):=by
 intro value slice pins s σ H x y v u Q I rx ry h hs;obtain⟨p,xs,i,z,rfl,rfl,hq,he,q⟩:=h;cases rx;obtain⟨t,rfl⟩:=ry;obtain⟨its,r,pl,hz⟩:=I.list hq;obtain⟨j,h1,h2,h3,h4,h5⟩:=tN he;obtain⟨w,ew,ub⟩:=r.get h2;have hl:=r.length;have hn:=mQ;have fin:EP X pins σ Q w s:=⟨z,H,I,ub,q⟩;by_cases h0:0<=i
 ·have hj:i.toNat=j:=by
   rw[seqIndex_of h0 h5]at h1;exact Option.some.inj h1
  exact item_listR pl.isList h0 Zo (by rw[hj];simpa using ew) fin hs
 ·have hj:(i+(its.toArray.size:Int)).toNat=j:=by
   rw[seqIndex_neg Zo h4]at h1;rw[eB,<- hl];exact Option.some.inj h1
  exact subscriptTail_builtinR (x:=w) pl.isList.typeIs slot_list_getitem.lookup
   (wpAny_getItem_list_neg (Q:=λr s'=>r=w/\EP X pins σ Q r s') pl.isList Zo (by rw[eB]<;>omega) Zo (by rw[hj];simpa using ew) ⟨rfl,fin⟩) hs
def Va:IxR X (aBs X.K):=by
 intro value slice pins s σ H x y v u Q I rx ry h hs;obtain⟨p,xs,i,z,rfl,rfl,hq,he,q⟩:=h;cases rx;obtain⟨t,rfl⟩:=ry;obtain⟨its,r,pl,hz⟩:=I.tuple hq;obtain⟨j,h1,h2,h3,h4,h5⟩:=tN he;obtain⟨w,ew,ub⟩:=r.get h2;have hl:=r.length;have hn:=mQ;have fin:EP X pins σ Q w s:=⟨z,H,I,ub,q⟩;exact subscriptTail_builtinR (x:=w) pl.typeIs slot_tuple_getitem.lookup
  (getItem_tuple (j:=j) (Q:=λr s'=>r=w/\EP X pins σ Q r s') pl Zo Zo (by rw[eB,<- hl];exact h1) (by simpa using ew) ⟨rfl,fin⟩) hs
def Vb:IxR X aBt:=by
 intro value slice pins s σ H x y v u Q I rx ry h hs;obtain⟨z,i,c,rfl,rfl,hz,he,q⟩:=h;obtain⟨t,rfl⟩:=rx;obtain⟨t',rfl⟩:=ry;obtain⟨j,h1,h2,h3,h4,h5⟩:=tN he;have hl:z.cps.toList.length=z.length:=by simp[Str.length]
 rw[hl]at h1 h4 h5;have hn:=mQ;exact tail_any (typeIs_str s z t) slot_str_getitem.lookup (getItem_str (c:=c) (by
  have e1:decide (i < -(2 ^ 63:Int))=false:=W6 Zo;have e2:decide (i ≥ 2 ^ 63)=false:=W6 Zo;rw[e1,e2,Bool.or_false]) (by rw[h1];simpa using h2) ⟨.str ⟨#[c]⟩,H,I.tok _,⟨_,rfl⟩,q⟩) hs
def yM(its:List T0)(n j:Nat)(u:T0):Obj.mapSeq (·.setIfInBounds j u) {cls:=.type "list",data:=.seq its.toArray n }={cls:=.type "list",data:=.seq (its.set j u).toArray n }:=by
 simp[Obj.mapSeq]
def Inv.lst{pins:ZB}{σ:St}{H:Hp}{s:TW}{p:UF}{xs:List V}(I:Inv X pins σ H s)(h:H p=some (.lst xs)) :
  ∃(its:List T0)(n:Nat),Vals xs its/\s.heap.get? p=some {cls:=.type "list",data:=.seq its.toArray n }/\xs.length<=sizeLine:=by
 obtain⟨z,its,n,r,e⟩:=I.hok p _ h;exact⟨its,n,r,e,z⟩
def Inv.lstUpd{pins:ZB}{σ:St}{H:Hp}{s:TW}{p:UF}{xs ys:List V}{its its':List T0}{n n':Nat}{f:Obj->Obj}(I:Inv X pins σ H s)(h:H p=some (.lst xs))(ho:s.heap.get? p=some {cls:=.type "list",data:=.seq its.toArray n })(hf:f {cls:=.type "list",data:=.seq its.toArray n }={cls:=.type "list",data:=.seq its'.toArray n' })(r:Vals ys its')(hz:ys.length<=sizeLine)(t:Nat) :
  Inv X pins σ (aI H p (.lst ys)) {s with heap:=s.heap.update p f,toks:=t }:=by
 have e:(s.heap.update p f).get? p=some {cls:=.type "list",data:=.seq its'.toArray n' }:=by
  rw[Heap.get?_update_self f ho (by rw[hf]<;>rfl),hf]
 refine I.write (x:=p) (e:=p) (by rw[h];trivial) (.inl rfl) (λb u hb q=>(Heap.get?_update_other _ _ (Ne.symm hb)).trans q) ⟨_,e⟩ ?_;exact⟨hz,its',n',r,e⟩
def Sc:V->V->V->Hp->(Hp->Prop)->Prop:=λo i v H Q=>∃p xs k j,o=.ref p/\i=.int k/\H p=some (.lst xs)/\Uz xs.length k=some j/\Q (aI H p (.lst (xs.set j v)))
def Gy:Nj X Sc:=by
 intro pins s σ H o i v ov iv u Q I ro ri rv h;obtain⟨p,xs,k,j,rfl,rfl,hp,hj,q⟩:=h;cases ro;obtain⟨t,rfl⟩:=ri;obtain⟨its,n,r,ho,hz⟩:=I.lst hp;obtain⟨h1,h2,h3,h4⟩:=Aq hj;have hl:=r.length;have hn:=mQ;have I':Inv X pins σ (aI H p (.lst (xs.set j v))) {s with heap:=s.heap.update p (Obj.mapSeq (·.setIfInBounds j u)) }:=
  I.lstUpd hp ho (yM its n j u) (r.set rv j) (by rw[length_set];exact hz) s.toks
 by_cases h0:0<=k
 ·have hk:k.toNat=j:=by
   rw[seqIndex_of h0 h4]at h1;exact Option.some.inj h1
  exact W.ki_setAt ho h0 Zo (by rw[eB,<- hl];exact h4) (by rw[hk];exact⟨_,I',q⟩)
 ·have hk:(k+(its.toArray.size:Int)).toNat=j:=by
   rw[seqIndex_neg Zo h3]at h1;rw[eB,<- hl];exact Option.some.inj h1
  exact W.ki_setBack ho Zo (by rw[eB,<- hl];exact h3) Zo (by rw[hk];exact⟨_,I',q⟩)
def tP(lo hi:Option Int)(n:Nat):(sliceBounds lo hi none n).1=((HT.sIx n 0 lo:Nat):Int)/\(sliceBounds lo hi none n).2.1=((HT.sIx n n hi:Nat):Int)/\(sliceBounds lo hi none n).2.2=1:=by
 refine⟨?_,?_,rfl⟩
 ·cases lo with
  | none=>simp[sliceBounds,HT.sIx]
  | some i=>
   simp only [sliceBounds,HT.sIx,Option.getD_none,show(1:Int)>0 by decide,if_true];by_cases h:i<0
   ·simp only [h,if_true]<;>omega
   ·simp only [h,if_false]<;>omega
 ·cases hi with
  | none=>simp[sliceBounds,HT.sIx]
  | some i=>
   simp only [sliceBounds,HT.sIx,Option.getD_none,show(1:Int)>0 by decide,if_true];by_cases h:i<0
   ·simp only [h,if_true]<;>omega
   ·simp only [h,if_false]<;>omega
def qX(its:List T0)(lo hi:Option Int):slicePick its.toArray lo hi none=((its.drop (HT.sIx its.length 0 lo)).take (HT.sIx its.length its.length hi-HT.sIx its.length 0 lo)).toArray:=by
 obtain⟨h1,h2,h3⟩:=tP lo hi its.toArray.size;unfold slicePick;rw[h1,h2,h3];simp only [sliceRange_one,pick_run,eB]<;>rfl
def aBu(K:W.Frag):V->Option Int->Option Int->Hp->VK->Prop:=λx lo hi H Q=>∃a xs,x=.ref a/\SqL K H a xs/\∀p,H p=none->Q (.ref p) (aI H p (.lst (Dr xs lo hi)))
def Od:SlR X (aBu X.K):=by
 intro pins s σ H x v vl vu lo hi sl Q I rx hs pl pu h;obtain⟨a,xs,rfl,hx,q⟩:=h;cases rx;obtain⟨its,r,ht,hz⟩:=I.list hx;have hlen:=r.length;refine⟨"list",_,slot_list_getitem.lookup,ht.isList.typeIs,?_⟩;refine wpAny_getItem_list_slice ht.isList hs pl pu .none Zs ?_ (by rw[eB]<;>omega);rw[qX,<- hlen];refine⟨.ref s.heap.objs.size,_,I.laid (t':=s.toks) (o:=.lst (Dr xs lo hi)) (λb ob q=>eP _ q) (bQ _) ?_,rfl,q _ (I.hok.fresh (bQ _))⟩;exact⟨kN (nY xs lo hi) hz,_,0,(r.drop (HT.sIx xs.length 0 lo)).take (HT.sIx xs.length xs.length hi-HT.sIx xs.length 0 lo),UV _ rfl⟩
def eC:V->Bool
 | .non=>true
 | .bl _=>true
 | .int _=>true
 | .str _=>true
 | _=>false
def qY:V->V->Bool
 | .non,.non=>true
 | .bl a,.bl b=>a==b
 | .bl a,.int b=>(if a then 1 else 0)==b
 | .int a,.bl b=>a==(if b then 1 else 0)
 | .int a,.int b=>a==b
 | .str a,.str b=>a==b
 | _,_=>false
def pF{A:Around}{s:TW}{y x:V}{u v:T0}(ry:RelV y u)(rx:RelV x v)(fy:eC y=true)(fx:eC x=true):SeqAt.EqAt A s u v (qY y x):=by
 cases y with
 | non=>
  cases ry
  cases x with
  | non=>cases rx;exact SeqAt.EqAt.same _
  | bl b=>cases rx;exact SeqAt.EqAt.none_bool b
  | int b=>obtain⟨t,rfl⟩:=rx;exact SeqAt.EqAt.none_int b t
  | str b=>obtain⟨t,rfl⟩:=rx;exact SeqAt.EqAt.none_str b t
  | _=>exact QZZ (show false=true from fx) XV
 | bl a=>
  cases ry
  cases x with
  | non=>cases rx;exact SeqAt.EqAt.bool_none a
  | bl b=>cases rx;exact SeqAt.EqAt.bool_bool a b
  | int b=>obtain⟨t,rfl⟩:=rx;exact SeqAt.EqAt.bool_int a b t
  | str b=>obtain⟨t,rfl⟩:=rx;exact SeqAt.EqAt.bool_str a b t
  | _=>exact QZZ (show false=true from fx) XV
 | int a=>
  obtain⟨t',rfl⟩:=ry
  cases x with
  | non=>cases rx;exact SeqAt.EqAt.int_none a t'
  | bl b=>cases rx;exact SeqAt.EqAt.int_bool a t' b
  | int b=>obtain⟨t,rfl⟩:=rx;exact SeqAt.EqAt.int_int a t' b t
  | str b=>obtain⟨t,rfl⟩:=rx;exact SeqAt.EqAt.int_str a t' b t
  | _=>exact QZZ (show false=true from fx) XV
 | str a=>
  obtain⟨t',rfl⟩:=ry
  cases x with
  | non=>cases rx;exact SeqAt.EqAt.str_none a t'
  | bl b=>cases rx;exact SeqAt.EqAt.str_bool a t' b
  | int b=>obtain⟨t,rfl⟩:=rx;exact SeqAt.EqAt.str_int a t' b t
  | str b=>obtain⟨t,rfl⟩:=rx;exact SeqAt.EqAt.str_str a t' b t
  | _=>exact QZZ (show false=true from fx) XV
 | _=>exact QZZ (show false=true from fy) XV
def Oe(x:V)(u:T0):Bool:=match u with
 | .none=>qY .non x
 | .bool b=>qY (.bl b) x
 | .int i _=>qY (.int i) x
 | .str z _=>qY (.str z) x
 | _=>false
def Gz{x y:V}{u:T0}(r:RelV y u)(f:eC y=true):Oe x u=qY y x:=by
 cases y with
 | non=>cases r;rfl
 | bl b=>cases r;rfl
 | int i=>obtain⟨t,rfl⟩:=r;rfl
 | str z=>obtain⟨t,rfl⟩:=r;rfl
 | _=>exact QZZ (show false=true from f) XV
def tQ{x:V}:∀ {xs:List V}{us:List T0},Vals xs us->xs.all eC=true->us.any (Oe x)=xs.any λy=>qY y x
 | _,_,.nil,_=>rfl
 | y::xs,u::us,.cons r t,f=>by
  rw[all_cons,Bool.and_eq_true]at f;rw[any_cons,any_cons,Gz r f.1,tQ t f.2]
def pG{A:Around}{s:TW}{x:V}{v:T0}(rx:RelV x v)(fx:eC x=true):∀ {xs:List V}{us:List T0},Vals xs us->xs.all eC=true->∀u∈us,SeqAt.EqAt A s u v (Oe x u)
 | _,_,.nil,_=>λu hu=>by cases hu
 | y::xs,u::us,.cons r t,f=>λu' hu=>by
  rw[all_cons,Bool.and_eq_true]at f;rcases mem_cons.mp hu with rfl|hu
  ·rw[Gz r f.1];exact pF r rx f.1 fx
  ·exact pG rx fx t f.2 u' hu
def gT(x:V)(xs:List V):Bool:=xs.any λy=>qY y x
def rIn(K:W.Frag)(neg:Bool):R2:=λx y H Q=>∃p xs,y=.ref p/\(SqL K H p xs∨SqT K H p xs)/\eC x=true/\xs.all eC=true/\Q (.bl (if neg then !gT x xs else gT x xs)) H
def Ds:OpR X (compareOp .In) (rIn X.K false):=by
 intro pins s σ H x y v u Q I rx ry h;obtain⟨p,xs,rfl,hq,fx,fs,q⟩:=h;cases ry;rcases hq with hq|hq
 ·obtain⟨its,r,pl,hz⟩:=I.list hq;refine SeqAt.in_listAt (Oe x) pl.isList (λw hw=>pG rx fx r fs w (by simpa using hw)) ⟨.bl _,H,I,rfl,?_⟩;rw[show its.toArray.any (Oe x)=its.any (Oe x) by simp,tQ r fs];exact q
 ·obtain⟨its,r,pl,hz⟩:=I.tuple hq;refine SeqAt.in_tupleAt (Oe x) pl (λw hw=>pG rx fx r fs w (by simpa using hw)) ⟨.bl _,H,I,rfl,?_⟩;rw[show its.toArray.any (Oe x)=its.any (Oe x) by simp,tQ r fs];exact q
def tT:CallR X (.builtin "len") (λxs H Q=>∃p ys,xs=[.ref p]/\(SqL X.K H p ys∨SqT X.K H p ys)/\Q (.int ys.length) H):=by
 intro pins s σ H xs us Q I r h;obtain⟨p,ys,rfl,hq,q⟩:=h;obtain⟨u,rfl,rx⟩:=jE r;cases rx;have hn:=mQ;rcases hq with hq|hq
 ·obtain⟨its,r',pl,hz⟩:=I.list hq;have hlen:=r'.length;exact Calls.call_len_list pl.isList (by simp only [eB]<;>omega) ⟨.int ys.length,H,I.tok _,⟨s.toks+1,by rw[eB,hlen]⟩,q⟩
 ·obtain⟨its,r',pl,hz⟩:=I.tuple hq;have hlen:=r'.length;exact len_tuple pl (by simp only [eB]<;>omega) ⟨.int ys.length,H,I.tok _,⟨s.toks+1,by rw[eB,hlen]⟩,q⟩
def tV:CallR X (.builtin "len") (λxs H Q=>∃z,xs=[.str z]/\z.length<=sizeLine/\Q (.int z.length) H):=by
 intro pins s σ H xs us Q I r h;obtain⟨z,rfl,hz,q⟩:=h;obtain⟨u,rfl,t,rfl⟩:=jE r;have hn:=mQ;exact len_str Zo ⟨.int z.length,H,I.tok _,⟨_,rfl⟩,q⟩
def tW:CallR X (.type "list") (λxs H Q=>∃p ys,xs=[.ref p]/\(SqL X.K H p ys∨SqT X.K H p ys)/\∀l,H l=none->Q (.ref l) (aI H l (.lst ys))):=by
 intro pins s σ H xs us Q I r h;obtain⟨p,ys,rfl,hq,q⟩:=h;obtain⟨u,rfl,rx⟩:=jE r;cases rx;have fin:∀(its:List T0),Vals ys its->ys.length<=sizeLine->∀(h':Heap)(c':Nat),(∀b o',s.heap.get? b=some o'->h'.get? b=some o') →
   h'.get? s.heap.objs.size=some {cls:=.type "list",dict:=none,data:=.seq its.toArray c',slots:=#[] }->EP X pins σ Q (.ref s.heap.objs.size) {s with heap:=h' }:=λits r' hz h' c' kp e=>
  ⟨.ref s.heap.objs.size,_,I.laid (t':=s.toks) kp (bQ _) (show ObjOk X.prog X.w _ h' _ (.lst ys) from⟨hz,its,c',r',e⟩),rfl,q _ (I.hok.fresh (bQ _))⟩
 rcases hq with hq|hq
 ·obtain⟨its,r',pl,hz⟩:=I.list hq;have hlen:=r'.length;obtain⟨o,ho,hc,n,hd⟩:=pl.isList;exact call_list_seq p (.inl rfl) ho hc hd (λh' c' kp e=>fin its r' hz h' c' kp e) (by simp only [eB]<;>omega)
 ·obtain⟨its,r',pl,hz⟩:=I.tuple hq;have hlen:=r'.length;obtain⟨o,ho,hc,n,hd⟩:=pl;exact call_list_seq p (.inr rfl) ho hc hd (λh' c' kp e=>fin its r' hz h' c' kp e) (by simp only [eB]<;>omega)
def qZ:CallR X (.type "tuple") (λxs H Q=>∃p ys,xs=[.ref p]/\((SqL X.K H p ys/\∀l,H l=none->Q (.ref l) (aI H l (.tup ys)))∨(SqT X.K H p ys/\Q (.ref p) H))):=by
 intro pins s σ H xs us Q I r h;obtain⟨p,ys,rfl,h⟩:=h;obtain⟨u,rfl,rx⟩:=jE r;cases rx;rcases h with⟨hq,q⟩|⟨hq,q⟩
 ·obtain⟨its,r',pl,hz⟩:=I.list hq;have hlen:=r'.length;refine call_tuple_list pl.isList (λh' kp=>?_) (by simp only [eB]<;>omega);have I1:Inv X pins σ H {s with heap:=h' }:=I.kept (t':=s.toks) kp;have I2:Inv X pins σ (aI H h'.objs.size (.tup ys)) {s with heap:=h'.push {cls:=.type "tuple",data:=.seq its.toArray } }:=
   I1.laid (t':=s.toks) (λb o e=>eP _ e) (bQ _) (show ObjOk X.prog X.w _ _ _ (.tup ys) from⟨hz,its,r',IsTup.new _ _⟩)
  exact⟨.ref h'.objs.size,_,I2,rfl,q _ (I1.hok.fresh (bQ _))⟩
 ·obtain⟨its,r',pl,hz⟩:=I.tuple hq;exact call_tuple_same pl ⟨.ref p,H,I,rfl,q⟩
def tyV(K:W.Frag)(T:String)(x:V)(H:Hp):Prop:=match x with
 | .str _=>T="str"
 | .int _=>T="int"
 | .ref p=>(T="list"/\∃xs,SqL K H p xs)∨(T="tuple"/\∃o,K.lookup p=some o/\o.cls=.type "tuple"/\o.dict=none)∨
   (T="dict"/\((∃kvs,H p=some (.dK kvs))∨∃kvs,H p=some (.dT kvs)))∨(T="set"/\∃S n,H p=some (.set S n))
 | _=>False
def Vc{pins:ZB}{σ:St}{H:Hp}{s:TW}{T:String}{x:V}{v:T0}(I:Inv X pins σ H s)(r:RelV x v)(ty:tyV X.K T x H) :
  s.TypeIs v T/\∀a,v=.ref a->∃ob,s.heap.get? a=some ob/\ob.dict=none:=by
 cases x with
 | str z=>
  obtain⟨t,rfl⟩:=r;cases(show T="str" from ty);exact⟨typeIs_str s z t,λ_ e=>nomatch e⟩
 | int i=>
  obtain⟨t,rfl⟩:=r;cases(show T="int" from ty);exact⟨typeIs_int s i t,λ_ e=>nomatch e⟩
 | ref p=>
  cases r;rcases ty with⟨rfl,xs,hq⟩|⟨rfl,o,hk,hc,hd⟩|⟨rfl,hk⟩|⟨rfl,S,n,hk⟩
  ·obtain⟨its,_,pl,_⟩:=I.list hq;refine⟨pl.isList.typeIs,λa e=>?_⟩;cases e;obtain⟨o,n,e,c,hd,_⟩:=pl;exact⟨o,e,hd⟩
  ·refine⟨⟨o,I.kIn p o hk,hc⟩,λa e=>?_⟩;cases e;exact⟨o,I.kIn _ o hk,hd⟩
  ·have z:∃o,s.heap.get? p=some o/\o.ExactDict:=by
    rcases hk with⟨kvs,hk⟩|⟨kvs,hk⟩
    ·obtain⟨_,_,_,_,o,_,_,e,ex,_⟩:=I.hok p _ hk;exact⟨o,e,ex⟩
    ·obtain⟨_,_,_,_,o,_,_,e,ex,_⟩:=I.hok p _ hk;exact⟨o,e,ex⟩
   obtain⟨o,e,ex⟩:=z;refine⟨⟨o,e,ex.1⟩,λa e2=>?_⟩;cases e2;exact⟨o,e,ex.2.1⟩
  ·obtain⟨o,_,_,_,e,ex,_⟩:=I.hok p _ hk;refine⟨⟨o,e,ex.1⟩,λa e2=>?_⟩;cases e2;exact⟨o,e,ex.2.1⟩
 | _=>exact False.elim ty
def tBM(K:W.Frag)(T:String)(r:V->List V->Hp->VK->Prop)(to:TE)(t:TA):TE:=λσ H Q=>to σ H λx H1=>tyV K T x H1/\t σ H1 λxs H2=>r x xs H2 Q
variable {o e:Expr}{es:List Expr}{to:TE}{t:TA}{name:Str}{apos cpos:Pos}{T id:String}{r:V->List V->Hp->VK->Prop}
def Zu(pa:PlainAttrs T)(slot:Slot T name id)(EX:typeOf (.builtin id)=pure (.type "method_descriptor"))(hm:Zr X id r)(ho:PE X o to)(ha:PA X (e::es) t)(Y7:attributeBase o name X.env (eval o X.env)=eval o X.env:=by rfl)(OQ:((backTo cpos (starEach (e::es) X.env)).all (λx=>!x.1)&&(backToKw cpos (keywordEach [] X.env)).all (λx=>x.1.isSome)
   && decide ((e::es).length+([]:List Keyword).length+(if ([]:List Keyword).isEmpty then 0 else 1)<30))=true:=by rfl)(Y8:(apos.endLine == cpos.line)=true:=by rfl)(hs:starEach (e::es) X.env=(false,eval e X.env)::starEach es X.env:=by rfl)(EY:(backTo cpos (starEach es X.env)).any (·.1)=false:=by rfl) :
  PE X (.Call (.Attribute o name apos) (e::es) [] cpos) (tBM X.K T r to t):=by
 intro pins s σ H Q I h;refine wpAny_Call_method_late Y7 OQ Y8 rfl (bU (ho pins s σ H _ I h) λv s1 ⟨x,H1,I1,r1,ty,q1⟩=>?_);obtain⟨h1,h2⟩:=Vc I1 r1 ty;refine⟨T,id,pa,slot,EX,h1,h2,?_⟩;have hA:=ha cpos pins s1 σ H1 _ I1 q1;rw[hs]at hA ⊢;refine Calls.callWith_builtin (by show(false||(backTo cpos (starEach es X.env)).any (·.1))=false;rw[EY]<;>rfl) (Calls.evalArgs_plain ?_);exact bU hA λus s2 ⟨vs,H2,I2,r2,q2⟩=>hm pins s2 σ H2 x vs v us Q I2 r1 r2 q2
/- xs.append(e),list.index on a JN tuple .. are Zr facts of 06m -/
end
def Zv(X:Cx)(id:String)(r:V->List V->Hp->VK->Prop):Prop:=
 ∀(pins:ZB)(s:TW)(σ:St)(H:Hp)(x:V)(xs:List V)(v:T0)(us:List T0)(Q:VK),Inv X pins σ H s->RelV x v->Vals xs us->r x xs H Q →
  wpAny (model X.prog X.w) X.A (call (.builtin id) (v::us)) (EP X pins σ Q) X.xe s
def Vals.one:∀ {x:V}{us:List T0},Vals [x] us->∃u,us=[u]/\RelV x u
 | _,_,.cons r .nil=>⟨_,rfl,r⟩
def Vals.two{x y:V}{us:List T0}(h:Vals [x,y] us):∃u v,us=[u,v] ∧ RelV x u ∧ RelV y v:=by
 cases h with|cons r t=>cases t with|cons q t=>cases t;exact⟨_,_,rfl,r,q⟩
def Vals.eraseIdx:∀ {xs:List V}{us:List T0} (i:Nat),Vals xs us->Vals (xs.eraseIdx i) (us.eraseIdx i)
 | _,_,_,.nil=>.nil
 | _,_,0,.cons _ t=>t
 | _,_,i+1,.cons r t=>.cons r (Vals.eraseIdx i t)
def mY{α:Type}:∀(l:List α)(i:Nat),(l.eraseIdx i).length<=l.length
 | [],_=>bQ _
 | _::_,0=>le_succ _
 | _::r,i+1=>Nat.succ_le_succ (mY r i)
section
variable {X:Cx}{pins:ZB}{σ:St}{H:Hp}{s:TW}{l b:UF}{xs ys zs:List V}
def Inv.lset{its its':List T0}{n:Nat}{f:Array Value->Array Value}{t':Nat}(I:Inv X pins σ H s)(hH:H l=some (.lst xs))(e:s.heap.get? l=some {cls:=.type "list",data:=.seq its.toArray n })(hf:f its.toArray=its'.toArray)(hv:Vals ys its')(hz:ys.length<=sizeLine) :
  Inv X pins σ (aI H l (.lst ys)) {s with heap:=s.heap.update l (Obj.mapSeq f),toks:=t' }:=by
 have q:=PySem.IsL.update e f;rw[hf]at q;refine I.write (x:=l) (e:=l) (by rw[hH];exact trivial) (.inl rfl) (λb' u hb hu=>(Heap.get?_update_other s.heap (Obj.mapSeq f) (Ne.symm hb)).trans hu) ⟨_,q⟩ ?_;exact⟨hz,its',_,hv,q⟩
def Inv.lnew{its:List T0}{t':Nat}(I:Inv X pins σ H s)(hv:Vals ys its)(hz:ys.length<=sizeLine) :
  Inv X pins σ (aI H s.heap.objs.size (.lst ys)) {s with heap:=s.heap.push {cls:=.type "list",data:=.seq its.toArray },toks:=t' }:=
 I.laid (λ_ _ q=>eP _ q) (bQ _) ⟨hz,its,0,hv,UV _ rfl⟩
def Inv.fresh(I:Inv X pins σ H s):H s.heap.objs.size=none:=I.hok.fresh (bQ _)
def Inv.lstM(I:Inv X pins σ H s)(hH:H l=some (.lst xs)):xs.length<=sizeLine/\∃(its:List T0)(n:Nat),Vals xs its/\xs.length=its.length/\s.heap.get? l=some {cls:=.type "list",data:=.seq its.toArray n }:=by
 obtain⟨z,its,n,r,e⟩:=I.hok l _ hH;exact⟨z,its,n,r,r.length,e⟩
def Hq{n:Nat}(h:n<=sizeLine):Builtin.List.listTooLong n=false:=by
 unfold Builtin.List.listTooLong;exact W6 Zo
end
section
variable {X:Cx}
def Ar:V->List V->Hp->VK->Prop:=λx vs H Q=>∃l xs y,x=.ref l/\vs=[y]/\H l=some (.lst xs)/\xs.length<sizeLine/\Q .non (aI H l (.lst (xs++[y])))
def Dt:Zv X "list.append" Ar:=by
 intro pins s σ H x vs v us Q I rx rv h;obtain⟨l,xs,y,rfl,rfl,hH,hz,q⟩:=h;cases rx;obtain⟨u,rfl,ru⟩:=rv.one;obtain⟨z,its,n,r,hl,e⟩:=I.lstM hH;refine call_meets F.slot_list_append ⟨_,e,rfl⟩ F.entry_list_append (F.args_list_append_2 _ _) (PySem.list_append l its.toArray n u (by rw[eB];omega)) ⟨e,?_⟩;refine⟨.non,_,I.lset (its':=its++[u]) hH e Zs (r.append (.cons ru .nil)) ?_,rfl,q⟩;rw[kM,List.length_singleton];omega
def Og:V->List V->Hp->VK->Prop:=λx vs H Q=>∃l b xs zs,x=.ref l/\vs=[.ref b]/\H l=some (.lst xs)/\H b=some (.lst zs)/\xs.length+zs.length<=sizeLine/\Q .non (aI H l (.lst (xs++zs)))
def Yj:Zv X "list.extend" Og:=by
 intro pins s σ H x vs v us Q I rx rv h;obtain⟨l,b,xs,zs,rfl,rfl,hH,hB,hz,q⟩:=h;cases rx;obtain⟨u,rfl,ru⟩:=rv.one;cases ru;obtain⟨z,its,n,r,hl,e⟩:=I.lstM hH;obtain⟨z2,d8,n2,r2,vo,e2⟩:=I.lstM hB;have hsz:its.toArray.size+d8.toArray.size<=sizeLine:=by rw[eB,eB];omega
 have JO:¬ (!its.toArray.isEmpty&&Builtin.List.listTooLong (its.toArray.size+d8.toArray.size))=true:=by
  rw[Hq hsz,Bool.and_false];exact XV
 refine call_meets F.slot_list_extend ⟨_,e,rfl⟩ F.entry_list_extend (F.args_list_extend_2 _ _)
  (AutoSeq1.list_extend_list_list_0 l its.toArray n b d8.toArray n2 JO (by rw[eB];omega) Zo) ⟨e,e2,?_⟩
 refine⟨.non,_,I.lset (its':=its++d8) hH e Zs (r.append r2) ?_,rfl,q⟩;rw[kM];omega
def Hr:V->List V->Hp->VK->Prop:=λx vs H Q=>∃l xs i k y,x=.ref l/\vs=[.int i]/\H l=some (.lst xs)/\-(2^63)<=i/\i<2^63/\seqIndex? i xs.length=some k/\xs[k]?=some y/\Q y (aI H l (.lst (xs.eraseIdx k)))
def Hs:Zv X "list.pop" Hr:=by
 intro pins s σ H x vs v us Q I rx rv h;obtain⟨l,xs,i,k,y,rfl,rfl,hH,h1,h2,hk,hy,q⟩:=h;cases rx;obtain⟨u,rfl,ru⟩:=rv.one;obtain⟨t,rfl⟩:=ru;obtain⟨z,its,n,r,hl,e⟩:=I.lstM hH;obtain⟨w,hw,ub⟩:=r.get hy;refine call_meets F.slot_list_pop ⟨_,e,rfl⟩ F.entry_list_pop (F.args_list_pop_2 _ _)
  (MeetsSeq.list_pop_at l its.toArray n i t k w (fitsIndex_both h1 h2) (by rw[eB,<- hl];exact hk) (by rw[<- Array.getElem?_toList];exact hw) (by rw[eB];omega)) ⟨e,?_⟩
 refine⟨y,_,I.lset (its':=its.eraseIdx k) hH e ?_ (r.eraseIdx k) ?_,ub,q⟩
 ·show its.toArray.eraseIdxIfInBounds k=(its.eraseIdx k).toArray;rw[List.eraseIdxIfInBounds_toArray]
 ·have:=mY xs k;omega
def aBw:R2:=λx y H Q=>∃l b xs zs,x=.ref l/\y=.ref b/\H l=some (.lst xs)/\H b=some (.lst zs)/\xs.length+zs.length<=sizeLine/\∀p,H p=none->Q (.ref p) (aI H p (.lst (xs++zs)))
def Vd:OpR X (binaryOp .Add) aBw:=by
 intro pins s σ H x y v u Q I rx ry h;obtain⟨l,b,xs,zs,rfl,rfl,hH,hB,hz,q⟩:=h;cases rx;cases ry;obtain⟨z,its,n,r,hl,e⟩:=I.lstM hH;obtain⟨z2,d8,n2,r2,vo,e2⟩:=I.lstM hB;refine PySem.P.add_list e e2 ?_ (by rw[eB,eB];omega);have ea:its.toArray++d8.toArray=(its++d8).toArray:=by simp
 rw[ea];exact⟨.ref _,_,I.lnew (t':=s.toks) (r.append r2) (by rw[kM];omega),rfl,q _ I.fresh⟩
end
section
variable {κ:Type} [DecidableEq κ]
def bC(kvs:List (κ×V))(k:κ):Option V:=(kvs.find? λkv=>decide (kv.1=k)).map (·.2)
def bN(kvs:List (κ×V))(k:κ)(v:V):List (κ×V):=
 if (kvs.any λkv=>decide (kv.1=k))=true then kvs.map (λkv=>if kv.1=k then (kv.1,v) else kv) else kvs++[(k,v)]
def cJ{p:κ×V}{r:List (κ×V)}{k:κ}(e:p.1=k):bC (p::r) k=some p.2:=by simp[bC,find?_cons,e]
def cK{p:κ×V}{r:List (κ×V)}{k:κ}(e:¬ p.1=k):bC (p::r) k=bC r k:=by simp[bC,find?_cons,e]
def fX(k:κ):∀kvs:List (κ×V),(kvs.any λkv=>decide (kv.1=k))=(bC kvs k).isSome
 | []=>rfl
 | p::r=>by
  rw[any_cons];by_cases e:p.1=k
  ·simp only [cJ e,W7 e,Bool.true_or,Option.isSome_some]
  ·rw[cK e,W6 e,Bool.false_or];exact fX k r
def vZ(k j:κ)(y:V):∀kvs:List (κ×V),bC (kvs.map λkv=>if kv.1=k then (kv.1,y) else kv) j=(bC kvs j).map λx=>if j=k then y else x
 | []=>rfl
 | p::r=>by
  have ih:=vZ k j y r;rw[map_cons];by_cases h:p.1=k
  ·rw[TD h];by_cases e:p.1=j
   ·rw[cJ (p:=(p.1,y)) e,cJ e,Option.map_some,TD (e.symm.trans h)]
   ·rw[cK (p:=(p.1,y)) e,cK e,ih]
  ·rw[P7 h];by_cases e:p.1=j
   ·rw[cJ (p:=p) e,cJ e,Option.map_some,P7 (λz=>h (e.trans z))]
   ·rw[cK (p:=p) e,cK e,ih]
def rY(k j:κ)(y:V):∀kvs:List (κ×V),bC kvs k=none->bC (kvs++[(k,y)]) j=if j=k then some y else bC kvs j
 | [],_=>by
  by_cases e:k=j
  ·rw[TD e.symm];exact cJ (p:=(k,y)) e
  ·rw[P7 (λz=>e z.symm)];exact cK (p:=(k,y)) e
 | p::r,hn=>by
  rw[List.cons_append];have hk:¬ p.1=k:=λz=>by rw[cJ z]at hn;cases hn
  rw[cK hk]at hn;have ih:=rY k j y r hn;by_cases e:p.1=j
  ·rw[cJ e,cJ e,P7 (λz=>hk (e.trans z))]
  ·rw[cK e,cK e,ih]
def cV(kvs:List (κ×V))(k j:κ)(y:V):bC (bN kvs k y) j=if j=k then some y else bC kvs j:=by
 unfold bN;by_cases a:(kvs.any λkv=>decide (kv.1=k))=true
 ·rw[TD a,vZ];rw[fX]at a;by_cases e:j=k
  ·obtain⟨x,hx⟩:=Option.isSome_iff_exists.mp a;rw[TD e,e,hx,Option.map_some,TD rfl]
  ·rw[P7 e];cases bC kvs j with
   | none=>rfl
   | some x=>rw[Option.map_some,P7 e]
 ·rw[P7 a];refine rY k j y kvs ?_;rw[fX]at a;cases q:bC kvs k with
  | none=>rfl
  | some x=>rw[q]at a;exact(a rfl).elim
def dW(kvs:List (κ×V))(k:κ)(v:V):(bN kvs k v).length<=kvs.length+1:=by
 unfold bN;split
 ·rw[aZ];omega
 ·rw[kM,vR,length_nil];omega
def wA{kvs:List (κ×V)}{k:κ}(v:V)(h:bC kvs k=none):bN kvs k v=kvs++[(k,v)]:=by
 unfold bN;rw[fX,h];exact P7 Zd
def RelO.isSome_eq{o:Option V}{u:Option T0}(r:RelO o u):o.isSome=u.isSome:=by
 cases o with
 | none=>cases u with
  | none=>rfl
  | some _=>exact(show False from r).elim
 | some _=>cases u with
  | none=>exact(show False from r).elim
  | some _=>rfl
def RelO.getD{o:Option V}{u:Option T0}{d:V}{d':T0}(r:RelO o u)(rd:RelV d d'):RelV (o.getD d) (u.getD d'):=by
 cases o with
 | none=>cases u with
  | none=>exact rd
  | some _=>exact(show False from r).elim
 | some _=>cases u with
  | none=>exact(show False from r).elim
  | some _=>exact r
def KV.val{kvs:List (κ×V)}{vs:List (κ×T0)}(r:KV kvs vs)(k:κ):RelO (bC kvs k) (valueAt vs k):=by
 unfold KV at r;induction r with
 | nil=>exact True.intro
 | @cons p q ps qs h t ih=>
  obtain⟨h1,h2⟩:=h;by_cases e:p.1=k
  ·have e':q.1=k:=h1.symm.trans e;have b:valueAt (q::qs) k=some q.2:=by simp[valueAt,find?_cons,e']
   rw[cJ e,b];exact h2
  ·have e':¬ q.1=k:=λz=>e (h1.trans z)
   have b:valueAt (q::qs) k=valueAt qs k:=by simp[valueAt,find?_cons,e']
   rw[cK e,b];exact ih
def KV.any{kvs:List (κ×V)}{vs:List (κ×T0)}(r:KV kvs vs)(k:κ):(kvs.any λkv=>decide (kv.1=k))=vs.any λkv=>decide (kv.1=k):=by
 unfold KV at r;induction r with
 | nil=>rfl
 | cons h t ih=>rw[any_cons,any_cons,ih,h.1]
def KV.repl{kvs:List (κ×V)}{vs:List (κ×T0)}(r:KV kvs vs)(k:κ){y:V}{u:T0}(ry:RelV y u) :
  KV (kvs.map λkv=>if kv.1=k then (kv.1,y) else kv) (vs.map λkv=>if kv.1=k then (kv.1,u) else kv):=by
 unfold KV at r ⊢
 induction r with
 | nil=>exact .nil
 | @cons p q ps qs h t ih=>
  rw[map_cons,map_cons];refine .cons ?_ ih;obtain⟨h1,h2⟩:=h;by_cases e:p.1=k
  ·rw[TD e,TD (h1.symm.trans e)];exact⟨h1,ry⟩
  ·rw[P7 e,P7 (λz=>e (h1.trans z))];exact⟨h1,h2⟩
def KV.put{kvs:List (κ×V)}{vs:List (κ×T0)}(r:KV kvs vs)(k:κ){y:V}{u:T0}(ry:RelV y u):KV (bN kvs k y) (stored vs k u):=by
 unfold bN stored;rw[r.any k];by_cases e:(vs.any λkv=>decide (kv.1=k))=true
 ·rw[TD e,TD e];exact r.repl k ry
 ·rw[P7 e,P7 e];exact Paired.snoc r ⟨rfl,ry⟩
def KV.length{kvs:List (κ×V)}{vs:List (κ×T0)}(r:KV kvs vs):kvs.length=vs.length:=Paired.length r
end
def nZ{P:Program}{w:World}{k:bA}{u:T0}(r:RelV (kV k) u):(aT P w).is k u=true:=by
 cases k with
 | inl i=>obtain⟨t,e⟩:=(show ∃t,u=Value.int i t from r);subst e;exact vT P w i t
 | inr x=>obtain⟨t,e⟩:=(show ∃t,u=Value.str x t from r);subst e;exact vU P w x t
def rZ{P:Program}{w:World}:∀ {ks:List bA}{us:List T0},Vals (ks.map kV) us->ItemsAre (aT P w) ks us
 | [],_,r=>by rw[map_nil]at r;cases r;exact .nil
 | k::ks,_,r=>by
  rw[map_cons]at r;cases r with
  | cons h t=>exact .cons (nZ h) (rZ t)
abbrev KT(H:Hp):List (List bA×V)->List (List bA×UF×T0)->Prop:=Paired λp q=>p.1=q.1/\H q.2.1=some (.tup (p.1.map kV))/\RelV p.2 q.2.2
def KT.val{H:Hp}{kvs:List (List bA×V)}{xs:List (List bA×UF×T0)}(r:KT H kvs xs)(k:List bA):RelO (bC kvs k) ((atKey xs k).map (·.2)):=by
 induction r with
 | nil=>exact True.intro
 | @cons p q ps qs h t ih=>
  obtain⟨h1,_,h2⟩:=h;by_cases e:p.1=k
  ·have e':q.1=k:=h1.symm.trans e;have b:atKey (q::qs) k=some q.2:=by simp[atKey,find?_cons,e']
   rw[cJ e,b];exact h2
  ·have e':¬ q.1=k:=λz=>e (h1.trans z)
   have b:atKey (q::qs) k=atKey qs k:=by simp[atKey,find?_cons,e']
   rw[cK e,b];exact ih
def KT.repl{H:Hp}{kvs:List (List bA×V)}{xs:List (List bA×UF×T0)}(r:KT H kvs xs)(k:List bA){y:V}{u:T0}(ry:RelV y u) :
  KT H (kvs.map λkv=>if kv.1=k then (kv.1,y) else kv) (xs.map (putAt k u)):=by
 induction r with
 | nil=>exact .nil
 | @cons p q ps qs h t ih=>
  rw[map_cons,map_cons];refine .cons ?_ ih;obtain⟨h1,h2,h3⟩:=h;unfold putAt;by_cases e:p.1=k
  ·rw[TD e,TD (h1.symm.trans e)];exact⟨h1,h2,ry⟩
  ·rw[P7 e,P7 (λz=>e (h1.trans z))];exact⟨h1,h2,h3⟩
def KT.put{H:Hp}{kvs:List (List bA×V)}{xs:List (List bA×UF×T0)}(r:KT H kvs xs)(k:List bA){b:UF}{y:V}{u:T0}(hb:H b=some (.tup (k.map kV)))(ry:RelV y u) :
  KT H (bN kvs k y) (storedH xs k b u):=by
 have e:(kvs.any λkv=>decide (kv.1=k))=(atKey xs k).isSome:=by
  rw[fX,(r.val k).isSome_eq,Option.isSome_map]
 unfold bN storedH;rw[e];by_cases q:(atKey xs k).isSome=true
 ·rw[TD q,TD q];exact r.repl k ry
 ·rw[P7 q,P7 q];exact Paired.snoc r ⟨rfl,hb,ry⟩
def KT.keeps{H H':Hp}{kvs:List (List bA×V)}{xs:List (List bA×UF×T0)}(r:KT H kvs xs)(ht:∀b ys,H b=some (.tup ys)->H' b=some (.tup ys)):KT H' kvs xs:=
 Paired.mapP r λ_ _ z=>⟨z.1,ht _ _ z.2.1,z.2.2⟩
section
variable {P:Program}{w:World}{H:Hp}{h:Heap}{a:UF}
def Sd{u:HO}(ok:HOk P w H h)(e:Rd H a u):ObjOk P w H h a u:=e.ok ok
def oA{kvs:List (bA×V)}(ok:HOk P w H h)(e:Rd H a (.dK kvs)):kvs.length<=sizeLine/\(a==sysModules)=false/\∃vs,KV kvs vs/\h.DictOf (aT P w) a vs:=
 show ObjOk P w H h a (.dK kvs) from Sd ok e
def Ht{kvs:List (bA×V)}(ok:HOk P w H h)(e:H a=some (.dK kvs)):kvs.length<=sizeLine/\(a==sysModules)=false/\∃vs,KV kvs vs/\h.DictOf (aT P w) a vs:=oA ok (.inl e)
def mZ{ks:List bA}(ok:HOk P w H h)(e:H a=some (.tup (ks.map kV))):(tupleKind (aT P w)).is h ks a:=by
 obtain⟨_,its,r,o,h1,h2,n,h3⟩:=(show ObjOk P w H h a (.tup (ks.map kV)) from ok a _ e);exact⟨o,its.toArray,n,h1,h2,h3,by simpa using rZ r⟩
def pH{kvs:List (List bA×V)}(ok:HOk P w H h)(e:Rd H a (.dT kvs)):kvs.length<=sizeLine/\(a==sysModules)=false ∧
  ∃xs,KT H kvs xs/\h.DictOfH (tupleKind (aT P w)) a xs:=by
 obtain⟨z,y,xs,r,o,es,ep,h1,h2,h3,h4,h5⟩:=(show ObjOk P w H h a (.dT kvs) from Sd ok e);refine⟨z,y,xs,r,o,es,ep,h1,h2,h3,h4,λx hx=>?_,h5⟩;have all:∀ {l:List (List bA×V)}{m:List (List bA×UF×T0)},KT H l m->∀x∈m,(tupleKind (aT P w)).is h x.1 x.2.1:=by
  intro l m q;induction q with
  | nil=>intro x hx;exact nomatch hx
  | @cons p q ps qs hq t ih=>
   intro x hx;rcases mem_cons.mp hx with e|hx
   ·subst e;exact mZ ok (by rw[<- hq.1];exact hq.2.1)
   ·exact ih x hx
 exact all r x hx
def Zw{kvs:List (List bA×V)}(ok:HOk P w H h)(e:H a=some (.dT kvs)):kvs.length<=sizeLine/\(a==sysModules)=false ∧
  ∃xs,KT H kvs xs/\h.DictOfH (tupleKind (aT P w)) a xs:=pH ok (.inl e)
end
def DGet(H:Hp)(a:UF)(y:V)(r:Option V):Prop:=
 (∃kvs k,Rd H a (.dK kvs)/\y=kV k/\r=bC kvs k)∨∃kvs k b,Rd H a (.dT kvs)/\y=.ref b/\H b=some (.tup (k.map kV))/\r=bC kvs k
def DPut(H:Hp)(a:UF)(y v:V)(H':Hp):Prop:=
 (∃kvs k,H a=some (.dK kvs)/\y=kV k/\kvs.length<sizeLine/\H'=aI H a (.dK (bN kvs k v)))∨
 ∃kvs k b,H a=some (.dT kvs)/\y=.ref b/\H b=some (.tup (k.map kV))/\kvs.length<sizeLine/\H'=aI H a (.dT (bN kvs k v))
def DGet.k{H:Hp}{a:UF}{kvs:List (bA×V)}{k:bA}(e:H a=some (.dK kvs)):DGet H a (kV k) (bC kvs k):=.inl ⟨kvs,k,.inl e,rfl,rfl⟩
def DPut.k{H:Hp}{a:UF}{kvs:List (bA×V)}{k:bA}{v:V}(e:H a=some (.dK kvs))(hl:kvs.length<sizeLine):DPut H a (kV k) v (aI H a (.dK (bN kvs k v))):=.inl ⟨kvs,k,e,rfl,hl,rfl⟩
section
variable {X:Cx}{pins:ZB}{σ:St}{H:Hp}{s:TW}{a:UF}{y v:V}{u r:T0}{o:Option V}{A:Around}{E:X9}
def Inv.big(I:Inv X pins σ H s):sysModules<s.heap.objs.size:=by
 have h:mainGlobals<s.heap.objs.size:=(I.mod.glob.keeps I.bk).lt;exact lt_trans Zd h
def Du{Q:X9}(hu:A.units+1<cLine)(I:Inv X pins σ H s)(g:DGet H a y (some v))(ry:RelV y u)(h:∀w' s',Inv X pins σ H s'->RelV v w'->Q w' s') :
  wpAny (model X.prog X.w) A (getItem (.ref a) u) Q E s:=by
 rcases g with⟨kvs,k,e,ey,l⟩|⟨kvs,k,b,e,ey,eb,l⟩
 ·subst ey;obtain⟨z,hd,vs,rel,dd⟩:=oA I.hok e;obtain⟨w',hw,ub⟩:=RelO.some_of (v:=v) (o:=valueAt vs k) (by rw[l];exact rel.val k);exact wpAny_getItem_of (nZ ry) dd.mapOf hw (h w' _ (I.tok _) ub)
 ·subst ey;cases(show u=Value.ref b from ry);obtain⟨z,hd,xs,rel,dd⟩:=pH I.hok e;obtain⟨w',hw,ub⟩:=RelO.some_of (v:=v) (o:=(atKey xs k).map (·.2)) (by rw[l];exact rel.val k);obtain⟨p,hp,m5⟩:=Option.map_eq_some_iff.mp hw;refine wpAny_getItem_heap (tupleKind_room_in1 hu) (mZ I.hok eb) dd hp ?_;rw[m5];exact h w' _ (I.tok _) ub
def Zx{Q:X9}(hu:A.units+1<cLine)(I:Inv X pins σ H s)(g:DGet H a y o)(ry:RelV y u)(h:∀s',Inv X pins σ H s'->Q (.bool o.isSome) s') :
  wpAny (model X.prog X.w) A (compareOp .In u (.ref a)) Q E s:=by
 rcases g with⟨kvs,k,e,ey,l⟩|⟨kvs,k,b,e,ey,eb,l⟩
 ·subst ey;obtain⟨z,hd,vs,rel,dd⟩:=oA I.hok e;refine wpAny_in_of (nZ ry) hd dd.mapOf ?_;rw[<- (rel.val k).isSome_eq,<- l];exact h _ (I.tok _)
 ·subst ey;cases(show u=Value.ref b from ry);obtain⟨z,hd,xs,rel,dd⟩:=pH I.hok e;refine wpAny_in_heap (tupleKind_room_in1 hu) (mZ I.hok eb) hd dd ?_;have q:=(rel.val k).isSome_eq;rw[Option.isSome_map]at q;rw[<- q,<- l];exact h _ (I.tok _)
def As{Q:X9}(hu:A.units+1<cLine)(I:Inv X pins σ H s)(g:DGet H a y o)(ry:RelV y u)(h:∀s',Inv X pins σ H s'->Q (.bool (!o.isSome)) s') :
  wpAny (model X.prog X.w) A (compareOp .NotIn u (.ref a)) Q E s:=by
 rcases g with⟨kvs,k,e,ey,l⟩|⟨kvs,k,b,e,ey,eb,l⟩
 ·subst ey;obtain⟨z,hd,vs,rel,dd⟩:=oA I.hok e;refine wpAny_notIn_of (nZ ry) hd dd.mapOf ?_;rw[<- (rel.val k).isSome_eq,<- l];exact h _ (I.tok _)
 ·subst ey;cases(show u=Value.ref b from ry);obtain⟨z,hd,xs,rel,dd⟩:=pH I.hok e;refine wpAny_notIn_heap (tupleKind_room_in1 hu) (mZ I.hok eb) hd dd ?_;have q:=(rel.val k).isSome_eq;rw[Option.isSome_map]at q;rw[<- q,<- l];exact h _ (I.tok _)
def tX{h':Heap}{t':Nat}{ob:HO}(I:Inv X pins σ H s)(mu:Yr (H a))(hs:Heap.SameBut a s.heap h')(he:∃q,h'.get? a=some q)(new:ObjOk X.prog X.w (aI H a ob) h' a ob) :
  Inv X pins σ (aI H a ob) {s with heap:=h',toks:=t' }:=
 I.write (x:=a) (e:=a) mu (.inl rfl) (λb q hb z=>(hs.2 b hb).trans z) he new
def Hu{P:Program}{w:World}{H':Hp}{h':Heap}{kvs:List (bA×V)}{vs:List (bA×T0)}(z:kvs.length<=sizeLine)(hd:(a==sysModules)=false)(rel:KV kvs vs)(dd:h'.DictOf (aT P w) a vs) :
  ObjOk P w H' h' a (.dK kvs):=⟨z,hd,vs,rel,dd⟩
def Dv{H':Hp}{Q:Unit->TW->Prop}(hu:A.units+1<cLine)(I:Inv X pins σ H s)(g:DPut H a y v H')(ry:RelV y u)(rv:RelV v r)(h:∀s',Inv X pins σ H' s'->Q () s') :
  wpAny (model X.prog X.w) A (setItem (.ref a) u r) Q E s:=by
 rcases g with⟨kvs,k,e,ey,l,eH⟩|⟨kvs,k,b,e,ey,eb,l,eH⟩
 ·subst ey eH;obtain⟨z,hd,vs,rel,dd⟩:=Ht I.hok e;have hz:vs.length<=sizeLine:=by rw[<- rel.length];exact z
  have hl:(bN kvs k v).length<=sizeLine:=by have:=dW kvs k v;omega
  refine wpAny_setItem_pairs (hsz:=hz) (nZ ry) dd λh' EZ hs=>h _ ?_;have he:∃q,h'.get? a=some q:=let ⟨q,_,_,hq,_⟩:=EZ;⟨q,hq⟩;exact tX I (by rw[e];exact True.intro) hs he (Hu hl hd (rel.put k rv) EZ)
 ·subst ey eH;cases(show u=Value.ref b from ry);obtain⟨z,hd,xs,rel,dd⟩:=Zw I.hok e;have hz:xs.length<=sizeLine:=by rw[<- Paired.length rel];exact z
  have hl:(bN kvs k v).length<=sizeLine:=by have:=dW kvs k v;omega
  refine wpAny_setItem_heap (hsz:=hz) (tupleKind_room_in1 hu) (mZ I.hok eb) dd λh' EZ hs=>h _ ?_;obtain⟨q,es,ep,hq,h2,h3,h4,_,h5⟩:=EZ;refine tX I (by rw[e];exact True.intro) hs ⟨q,hq⟩ ⟨hl,hd,_,(rel.put k eb rv).keeps λc ys ec=>?_,q,es,ep,hq,h2,h3,h4,h5⟩;rw[aD (fW ec e nofun)];exact ec
end
section
variable {X:Cx}{pins:ZB}{σ:St}{H:Hp}{s:TW}{a:UF}{kvs:List (bA×V)}{k:bA}{u:T0}{A:Around}{E:X9}
def Zy{Q:X9}(I:Inv X pins σ H s)(e:Rd H a (.dK kvs))(h:∀t s',Inv X pins σ H s'->Q (.int kvs.length t) s'):wpAny (model X.prog X.w) A (call (.builtin "len") [.ref a]) Q E s:=by
 obtain⟨z,hd,vs,rel,dd⟩:=oA I.hok e;refine call_len_dict hd dd (by rw[<- rel.length];rw[sizeLine_eq]at z;omega) ?_;rw[<- rel.length];exact h _ _ (I.tok _)
end
def Ve(i:Expr):Prop:=∀ov iv,subscripted i false ov iv=operate [ov,iv] (getItem ov iv)
def Oh{prog:Program}{w:World}{A:Around}{E:X9}{s:TW}{env:Env}{value slice:Expr}{pos:Pos}{T id:String}{Q:X9}(hl:typeLookup (.type T) "__getitem__"=pure (some (.builtin id)))(hs:Ve slice)(h:wpAny (model prog w) A (eval value env) (λo s₁=>wpAny (model prog w) A (eval slice env) (λi s₂=>s₂.TypeIs o T/\wpAny (model prog w) A (getItem o i) Q E s₂) E s₁) E s) :
  wpAny (model prog w) A (eval (.Subscript value slice pos) env) Q E s:=by
 refine Subscript_ (wpAny_mono h (λo s₁ h₁=>wpAny_mono h₁ (λi s₂ h₂=>?_) λ_ _ x=>x) λ_ _ x=>x);obtain⟨hT,h₂⟩:=h₂;unfold subscriptTail;refine X7 ?_;rw[getitemInPython_of_ne hT.not_modules];refine X7 (wpAny_specialOf hT hl ?_);have fin:wpAny (model prog w) A (subscripted slice false o i) (λr s₃=>wpAny (model prog w) A (letTemporaryGo value o r>>=λ_=>pure r) Q E s₃) E s₂:=by
  rw[hs o i];exact wpAny_operating (wpAny_mono h₂ (λr s₃ h₃=>X7 (wpAny_letTemporaryGo (X6 h₃))) λ_ _ x=>x)
 first
  | exact X6 (X7 fin)
  | exact X7 (X6 (X7 fin))
  | exact X7 fin
def wB{X:Cx}{pins:ZB}{σ:St}{H:Hp}{s:TW}{a:UF}{y:V}{o:Option V}(I:Inv X pins σ H s)(g:DGet H a y o):s.TypeIs (.ref a) "dict":=by
 rcases g with⟨kvs,k,e,_,_⟩|⟨kvs,k,b,e,_,_,_⟩
 ·obtain⟨_,_,vs,_,dd⟩:=oA I.hok e;exact dd.typeIs
 ·obtain⟨_,_,xs,_,dd⟩:=pH I.hok e;exact dd.typeIs
def Se(td ty:TE):TE:=λσ H Q=>td σ H λx H1=>ty σ H1 λy H2=>∃a v,x=.ref a/\DGet H2 a y (some v)/\Q v H2
section
variable {X:Cx}{o i e value:Expr}{pos pos' yj:Pos}{td ty tv:TE}
def Oi(hu:X.A.units+1<cLine)(ho:PE X o td)(hi:PE X i ty)(hs:Ve i):PE X (.Subscript o i pos) (Se td ty):=by
 intro pins s σ H Q I h;refine Oh PySem.F.slot_dict_getitem.lookup hs (bU (ho pins s σ H _ I h) λu s1 ⟨x,H1,I1,rx,q1⟩=>bU (hi pins s1 σ H1 _ I1 q1) λiv s2 ⟨y,H2,I2,ry,a,v,ex,g,q2⟩=>?_);subst ex;obtain rfl:u=Value.ref a:=rx;exact⟨wB I2 g,Du hu I2 g ry λw' s3 I3 ub=>⟨v,H2,I3,ub,q2⟩⟩
end
def wC{P:Program}{w:World}{H:Hp}(h:Heap)(hb:sysModules<h.objs.size):ObjOk P w H (h.push {cls:=.type "dict",data:=.dict #[] }) h.objs.size (.dK []):=
 ⟨zero_le _,beq_eq_false_iff_ne.mpr (Ne.symm (ne_of_lt hb)),[],.nil,Heap.DictOf.new h⟩
def Hv:TE:=λ_ H Q=>∀p,H p=none->Q (.ref p) (aI H p (.dK []))
section
variable {X:Cx}{pos:Pos}
def Hw:PE X (.Dict [] [] pos) Hv:=λpins s σ H Q I h=>
 wpAny_Dict_empty ⟨.ref s.heap.objs.size,_,I.laid (a:=s.heap.objs.size) (o:=.dK []) (t':=s.toks) (λ_ _ q=>eP _ q) (bQ _) (wC s.heap I.big),rfl,h _ (I.hok.fresh (bQ _))⟩
end
def yN:List (TE×TE)->St->Hp->(List (V×V)->Hp->Prop)->Prop
 | [],_,H,Q=>Q [] H
 | (tk,tv)::r,σ,H,Q=>tk σ H λx H1=>tv σ H1 λy H2=>yN r σ H2 λps H3=>Q ((x,y)::ps) H3
abbrev VV:List (V×V)->List (T0×T0)->Prop:=Paired λp q=>RelV p.1 q.1/\RelV p.2 q.2
def Zz(X:Cx)(pos:Pos)(keys:List (Option Expr))(values:List Expr)(trs:List (TE×TE)):Prop:=
 ∀(pins:ZB)(s:TW)(σ:St)(H:Hp)(Q:List (V×V)->Hp->Prop),Inv X pins σ H s->yN trs σ H Q →
  wpAny (model X.prog X.w) X.A (evalPairs (pairTrees keys values X.env pos)) (λvs s'=>∃ps H',Inv X pins σ H' s'/\VV ps vs/\Q ps H') X.xe s
def Oj{X:Cx}{pos:Pos}:Zz X pos [] [] []:=λpins s σ H Q I h=>pairTrees_nil_walk ⟨[],H,I,.nil,h⟩
def Hx{X:Cx}{pos:Pos}{k v:Expr}{ks:List (Option Expr)}{vs:List Expr}{tk tv:TE}{trs:List (TE×TE)}(hk:PE X k tk)(hv:PE X v tv)(hr:Zz X pos ks vs trs) :
  Zz X pos (some k::ks) (v::vs) ((tk,tv)::trs):=λpins s σ H Q I h=>
 pairTrees_cons_walk (bU (hk pins s σ H _ I h) λu s1 ⟨x,H1,I1,rx,q1⟩=>bU (hv pins s1 σ H1 _ I1 q1) λw2 s2 ⟨y,H2,I2,ry,q2⟩=>
  bU (hr pins s2 σ H2 _ I2 q2) λws s3 ⟨ps,H3,I3,rel,q3⟩=>⟨(x,y)::ps,H3,I3,.cons ⟨rx,ry⟩ rel,q3⟩)
def bD(kvs more:List (bA×V)):List (bA×V):=more.foldl (λacc kv=>bN acc kv.1 kv.2) kvs
def KV.merge:∀ {more:List (bA×V)}{rs:List (bA×T0)}{kvs:List (bA×V)}{vs:List (bA×T0)},KV more rs->KV kvs vs->KV (bD kvs more) (merged vs rs):=by
 intro more rs kvs vs r;unfold KV at r;induction r generalizing kvs vs with
 | nil=>intro q;exact q
 | @cons p q ps qs h t ih=>
  intro r0;have e:KV (bN kvs p.1 p.2) (stored vs q.1 q.2):=by
   have:=r0.put p.1 h.2;rw[<- h.1];exact this
  exact ih e
def eU:∀(more kvs:List (bA×V)),(bD kvs more).length<=kvs.length+more.length
 | [],kvs=>by show kvs.length<=kvs.length+0;omega
 | p::r,kvs=>by
  have h1:=eU r (bN kvs p.1 p.2);have h2:=dW kvs p.1 p.2;show(bD (bN kvs p.1 p.2) r).length<=_;rw[vR];omega
def pI{P:Program}{w:World}:∀ {kvs:List (bA×V)}{ws:List (T0×T0)},VV (kvs.map λkv=>(kV kv.1,kv.2)) ws->∃rs,Carries (aT P w) ws rs/\KV kvs rs
 | [],_,r=>by rw[map_nil]at r;cases r;exact⟨[],True.intro,.nil⟩
 | p::kvs,_,r=>by
  rw[map_cons]at r;cases r with
  | @cons a b as bs h t=>
   obtain⟨rs,c,q⟩:=pI (P:=P) (w:=w) t;obtain⟨b1,b2⟩:=b;exact⟨(p.1,b2)::rs,⟨nZ h.1,rfl,c⟩,.cons ⟨rfl,h.2⟩ q⟩
def Sf(trs:List (TE×TE)):TE:=λσ H Q=>∀p,H p=none->yN trs σ (aI H p (.dK [])) λps H2=>H2 p=some (.dK [])/\∃kvs:List (bA×V),ps=kvs.map (λkv=>(kV kv.1,kv.2))/\kvs.length<=15/\Q (.ref p) (aI H2 p (.dK (bD [] kvs)))
def Ol{X:Cx}{pos:Pos}{keys:List (Option Expr)}{values:List Expr}{trs:List (TE×TE)}(h:Zz X pos keys values trs)(kz:keys.all (·.isSome)=true)(hl:keys.length=values.length)(h0:keys≠[])(OR:keys.length<=15):PE X (.Dict keys values pos) (Sf trs):=by
 intro pins s σ H Q I q;have hn:=I.hok.fresh (bQ s.heap.objs.size);have I1:=I.laid (a:=s.heap.objs.size) (o:=.dK []) (h':=s.heap.push {cls:=.type "dict",data:=.dict #[] }) (t':=s.toks) (λ_ _ q=>eP _ q) (bQ _) (wC s.heap I.big);refine wpAny_Dict_walk (knd:=aT X.prog X.w) kz hl h0 OR (bU (h pins _ σ _ _ I1 (q _ hn)) λws s2 ⟨ps,H2,I2,rel,e,kvs,ep,lk,q2⟩=>?_);subst ep;obtain⟨rs,c,rk⟩:=pI (P:=X.prog) (w:=X.w) rel;obtain⟨z,hd,vs0,r0,dd⟩:=Ht I2.hok e;cases r0;refine⟨rs,c,dd,λh' EZ hs=>⟨.ref s.heap.objs.size,_,?_,rfl,q2⟩⟩;have hz:(bD [] kvs).length<=sizeLine:=by
  have h1:=eU kvs [];rw[length_nil]at h1;rw[sizeLine_eq];omega
 have he:∃q,h'.get? s.heap.objs.size=some q:=let ⟨q,_,_,hq,_⟩:=EZ;⟨q,hq⟩;exact tX I2 (by rw[e];exact True.intro) hs he (Hu hz hd (rk.merge .nil) EZ)
structure M2(X:Cx)(o:Expr)(m:Str)(apos:Pos)(e f:Expr)(cpos:Pos):Prop where
 base:attributeBase o m X.env (eval o X.env)=eval o X.env
 few:((backTo cpos (starEach [e,f] X.env)).all (λx=>!x.1)&&(backToKw cpos (keywordEach [] X.env)).all (λx=>x.1.isSome)
  && decide (([e,f]:List Expr).length+([]:List Keyword).length+(if ([]:List Keyword).isEmpty then 0 else 1)<30))=true
 line:(apos.endLine==cpos.line)=true
 trees:backTo cpos (starEach [e,f] X.env)=[(false,eval e X.env),(false,eval f X.env)]
def IsD(H:Hp)(a:UF):Prop:=(∃kvs,Rd H a (.dK kvs))∨∃kvs,Rd H a (.dT kvs)
def Vf{X:Cx}{pins:ZB}{σ:St}{H:Hp}{s:TW}{a:UF}(I:Inv X pins σ H s)(d:IsD H a) :
  s.TypeIs (.ref a) "dict"/\(∀b,Value.ref a=.ref b->∃ob,s.heap.get? b=some ob/\ob.dict=none)/\(a==sysModules)=false:=by
 rcases d with⟨kvs,e⟩|⟨kvs,e⟩
 ·obtain⟨_,hd,vs,_,dd⟩:=oA I.hok e;refine⟨dd.typeIs,λb q=>?_,hd⟩;cases q;obtain⟨ob,_,_,h1,h2,_⟩:=dd;exact⟨ob,h1,h2.2.1⟩
 ·obtain⟨_,hd,xs,_,dd⟩:=pH I.hok e;refine⟨dd.typeIs,λb q=>?_,hd⟩;cases q;obtain⟨ob,_,_,h1,h2,_⟩:=dd;exact⟨ob,h1,h2.2.1⟩
section
variable {X:Cx}{pins:ZB}{σ:St}{H:Hp}{s:TW}{a:UF}{y d:V}{u r:T0}{o:Option V}{A:Around}{E:X9}
def Vg{Q:X9}(hu:A.units+1<cLine)(I:Inv X pins σ H s)(g:DGet H a y o)(ry:RelV y u)(rd:RelV d r)(h:∀w' s',Inv X pins σ H s'->RelV (o.getD d) w'->Q w' s') :
  wpAny (model X.prog X.w) A (call (.builtin "dict.get") [.ref a,u,r]) Q E s:=by
 rcases g with⟨kvs,k,e,ey,l⟩|⟨kvs,k,b,e,ey,eb,l⟩
 ·subst ey;obtain⟨z,hd,vs,rel,dd⟩:=oA I.hok e;refine call_meetsIn PySem.F.slot_dict_get dd.typeIs PySem.F.entry_dict_get (PySem.F.args_dict_get_3 _ _ _) (meets_dict_get_default (aT X.prog X.w) a (nZ ry) hd r) ⟨_,dd.mapOf,h _ _ (I.tok _) ?_⟩;rw[l];exact(rel.val k).getD rd
 ·subst ey;cases(show u=Value.ref b from ry);obtain⟨z,hd,xs,rel,dd⟩:=pH I.hok e;refine call_meetsIn PySem.F.slot_dict_get dd.typeIs PySem.F.entry_dict_get (PySem.F.args_dict_get_3 _ _ _) (meetsH_dict_get_default (tupleKind (aT X.prog X.w)) a b hd r) ⟨tupleKind_room_in1 hu,k,xs,mZ I.hok eb,dd,h _ _ (I.tok _) ?_⟩;rw[l];exact(rel.val k).getD rd
end
def Hy(td ty tx:TE):TE:=λσ H Q=>td σ H λx H1=>∃a,x=.ref a/\IsD H1 a/\ty σ H1 λy H2=>tx σ H2 λz H3=>∃o,DGet H3 a y o/\Q (o.getD z) H3
section
variable {X:Cx}{o e f:Expr}{apos cpos:Pos}{td ty tx:TE}
def Ia(hu:X.A.units+1<cLine)(ho:PE X o td)(he:PE X e ty)(hf:PE X f tx)(m:M2 X o "get" apos e f cpos):PE X (.Call (.Attribute o "get" apos) [e,f] [] cpos) (Hy td ty tx):=by
 intro pins s σ H Q I h;refine wpAny_Call_method m.base m.few m.line PySem.F.plainAttrs_dict PySem.F.slot_dict_get PySem.F.type_dict_get (bU (ho pins s σ H _ I h) λu s1 ⟨x,H1,I1,rx,a,ex,d,q1⟩=>?_);subst ex;obtain rfl:u=Value.ref a:=rx;obtain⟨t1,t2,_⟩:=Vf I1 d;refine⟨t1,t2,?_⟩;rw[m.trees];refine Calls.callWith_builtin rfl (Calls.evalArgs_plain (Calls.spliced_cons (bU (he pins s1 σ H1 _ I1 q1) λiv s2 ⟨y,H2,I2,ry,q2⟩=>
  Calls.spliced_cons (bU (hf pins s2 σ H2 _ I2 q2) λfv s3 ⟨z,H3,I3,rz,ov,g,q3⟩=>Calls.spliced_nil ?_))))
 exact Vg hu I3 g ry rz λw' s4 I4 ub=>⟨_,H3,I4,ub,q3⟩
end
end L2
namespace SS
open PySem PySem.W PySem.Calls PyProof.Rows
def oJ{P:Params}{h:Heap}:∀(ns:List Int)(vs:List T0),WellAll P h vs (ns.map WData.int)->IntsAre vs ns:=by
 intro ns;induction ns with
 | nil=>
  intro vs w;rw[map_nil]at w;cases w;exact .nil
 | cons n ns ih=>
  intro vs w;rw[map_cons]at w;cases w with
  | cons a b=>
   cases a;exact .cons _ _ (ih _ b)
def Dw{l:OpenLaw}{n:Nat}(hn:l.most=some n){P:Params}{h:Heap}{args:List WData}{vals:List T0}(CL:l.row.toRowW.claim.pre args=true)(OS:WellAll P h vals args) :
  ∃a vs ns,vals=[Value.ref a]/\args=[WData.list (ns.map WData.int)]/\h.get? a=some {cls:=.type "list",data:=.seq vs.toArray }/\IntsAre vs ns/\ns.length<=n:=by
 have OT:WShape.hasAll [] args [.list .int]=true:=(pre_splitW CL).1;have hc:l.pre.holds [] {args:=args }=true:=(pre_splitW CL).2;obtain⟨d,r,rfl,h1,h2⟩:=hasAllW_cons OT;obtain rfl:=hasAllW_nil h2;obtain⟨xs,rfl,h3⟩:=hasW_list h1;obtain⟨ns,rfl⟩:=items_int h3;have hlen:ns.length<=n:=by
  unfold OpenLaw.pre at hc;have h4:(WTm.not (.lt (.lit (.int (n:Int))) (.len (.arg 0)))).holds [] {args:=[.list (ns.map .int)] }=true:=by
   have h4:=(holds_andW hc).1;rw[hn]at h4;exact h4
  have h5:=condW_of h4 (w_not (w_lt w_lit (w_len_list (w_arg rfl))));rw[aZ]at h5;refine Nat.le_of_not_lt λq=>?_
  have q':(n:Int)<((ns.length:Nat):Int):=by omega
  first
   | (rw[W7 q']at h5;exact QZZ h5 Zd)
   | (simp at h5;omega)
 cases OS with
 | cons w1 w2=>
  cases w2
  cases w1 with
  | list ho kz=>exact⟨_,_,ns,rfl,rfl,ho,oJ ns _ kz,hlen⟩
def Dx(l:OpenLaw)(args:List WData):l.row.toRowW.claim.post args (.bool true) args=true:=
 postW_of (r:=l.row.toRowW) (X:=(true==true))
  (show WShape.has [] (.bool true) .bool=true by first|rfl|decide|simp[WShape.has,WShape.arms,WShape.armsAll])
  (show(WTm.eq .res (.lit (.bool true))).value [] {args:=args,res:=some (.bool true),after:=args }=some (.bool (true==true)) from w_eq_bool (w_res rfl) w_lit) rfl
def attach_call{l:OpenLaw}{n:Nat}{q:Program}{loose:List Str}{XP:(Str->Option T0)->Heap->Prop}{YP:World->Heap->Prop}{d:DefRec}(hn:l.most=some n)(JP:d.params.defaults=[])(call:∀(w:World)(s₀ s₁:TW)(mg mb:X8)(fa:UF)(o:Obj)(pm cd doc:T0)(a:UF)(vs:List T0)(ns:List Int),
   Ground q loose [] XP w s₀ mg mb s₁.heap->YP w s₁.heap →
   s₁.heap.get? fa=some o->o.data=.func (docDef d.name d.params d.body d.scope pm cd doc)->s₁.heap.CodeRec cd d.name->mg d.name=some (.ref fa) →
   s₁.heap.get? a=some {cls:=.type "list",data:=.seq vs.toArray }->IntsAre vs ns->ns.length<=n->s₁.gens=#[] →
   codeAny (model l.prog w) callerA (.call (.ref fa) ⟨[.ref a],[]⟩) (λr s'=>r=.ok (.ret (.bool true))/\OldK s₁.heap s'.heap/\s'.os=s₁.os/\AllBare s'.gens) s₁) :
  WalkO q loose XP YP l.row.toRowW d [] (λf vs=>PySem.call f vs):=by
 intro w s₀ s₁ mg mb G Y fa o pm cd doc dV kV ho hd ue hD DX hg args vals as CL YW yc OS OU;obtain rfl:dV=.none:=Dflts.none hD JP;obtain rfl:kV=.none:=Dflts.noKw hD;obtain⟨a,vs,ns,rfl,rfl,FC,hints,hlen⟩:=Dw hn CL OS;refine enter_call (codeAny_mono (call w s₀ s₁ mg mb fa o pm cd doc a vs ns G Y ho (fd_plain hd) ue DX FC hints hlen hg) λr s' hq=>?_);obtain⟨rfl,h2,h3,h4⟩:=hq;exact⟨.inl ⟨.bool true,.bool true,[],rfl,λ_=>rfl,.bool true,Dx l _,λ_=>⟨List.Pairwise.nil,λ_ hm=>(nomatch hm)⟩⟩,h2,h3,h4⟩
end SS
namespace L2
open PySem PySem.Spec PyProof.Rows
def sA:∀ {vs:List T0}{ns:List Int},IntsAre vs ns->Vals (ns.map V.int) vs
 | _,_,.nil=>.nil
 | _,_,.cons n t h=>.cons ⟨t,rfl⟩ (sA h)
def Vh(H:Hp):Prop:=∀b,H b=none∨∃o xs,H b=some (.frz o (.lst xs))
def Ib{P:Program}{w:World}{K:W.Frag}{mg mb:X8}{CX:Gq}{k:Nat}{fa a:UF}{fd:FuncData}{x:Str}{sp:Sp}{s₁:TW}{vs:List T0}{ns:List Int}(KX:K.In s₁.heap)(HW:s₁.heap.Ns mainGlobals mg)(hb:s₁.heap.Ns builtinsNs mb)(YX:∀x:Str,x≠"__name__"->mb x=bootBuiltins x)(OV:s₁.heap.NoLimit)(hg:s₁.gens=#[])(ha:s₁.heap.get? a=some {cls:=.type "list",data:=.seq vs.toArray })(hi:IntsAre vs ns)(hl:ns.length<=sizeLine)(hr:Room k callerA)(F:∀base:Heap,K.In base->base.Ns mainGlobals mg->iE P w K mg base CX k fa fd [x] sp)(JQ:∀(s:TW)(u:T0),BindsTo s fd ⟨[u],[]⟩ [(x,u)])(ya:∀H:Hp,Vh H->SqL K H a (ns.map V.int)->sp [.ref a] H (λv _=>v=.bl true) λ_ _ _=>False)(OW:∀H e s',CX [] H s₁ (λ_ _ _=>False) e s'->False) :
  codeAny (model P w) callerA (.call (.ref fa) ⟨[.ref a],[]⟩) (λr s'=>r=.ok (.ret (.bool true))/\OldK s₁.heap s'.heap/\s'.os=s₁.os/\AllBare s'.gens) s₁:=by
 have rv:=sA hi;have OX:=hi.length;have core:∀H:Hp,Vh H->SqL K H a (ns.map V.int)->HOk P w H s₁.heap->(∀b,H b≠none->b=a)->(H a≠none->K.lookup a=none) →
   codeAny (model P w) callerA (.call (.ref fa) ⟨[.ref a],[]⟩) (λr s'=>r=.ok (.ret (.bool true))/\OldK s₁.heap s'.heap/\s'.os=s₁.os/\AllBare s'.gens) s₁:=by
  intro H hO hS hok hA hK;have yd:∀ {b:UF}{o:Obj},s₁.heap.get? b=some o->H b=none->(tF s₁.heap H).get? b=some o:=λe n=>Fx e n
  have JK:∀ {b:UF}{o:Obj}{es:Array DictEntry}{ep:Nat},s₁.heap.get? b=some o->o.data=.dict es ep->H b=none:=λ{b o es ep} e d=>by
   cases q:H b with
   | none=>rfl
   | some u=>
    have e':b=a:=hA b (by rw[q];simp);subst e';rw[ha]at e;cases e;have d':Data.seq vs.toArray _=Data.dict es ep:=d;cases d'
  have MY:∀ {b:UF}{m:X8},s₁.heap.Ns b m->(tF s₁.heap H).Ns b m:=λ{b m} ⟨o,es,ep,e,d,r⟩=>⟨o,es,ep,yd e (JK e d),d,r⟩
  have SU:K.In (tF s₁.heap H):=λb o e=>yd (KX b o e) (by
   cases q:H b with
   | none=>rfl
   | some u=>
    have e':b=a:=hA b (by rw[q];simp);subst e';rw[hK (by rw[q];simp)]at e;cases e)
  have hM:Mod K mg (tF s₁.heap H):=⟨SU,MY HW,⟨mb,MY hb,YX⟩,let ⟨mc,h1,h2⟩:=OV;⟨mc,MY h1,h2⟩⟩;have e0:Env0 P w K mg (tF s₁.heap H) callerA [] s₁ H:=⟨rfl,hM,λb o e=>Nc e,le_of_eq (Cu _ _),trivial,λb hb=>QZZ (show b∈([]:List UF) from hb) Zs,hok,.of_eq hg⟩;refine codeAny_mono ((F _ SU (MY HW)).run callerA [] s₁ H ⟨[.ref a],[]⟩ [.ref a] [.ref a] _ _ hr e0 (JQ s₁ (.ref a)) (.cons rfl .nil) (ya H hO hS)) λr s' h=>?_
  cases r with
  | error e=>exact(OW H e s' h).elim
  | ok fl=>
   cases fl with
   | next=>exact False.elim h
   | brk=>exact False.elim h
   | cont=>exact False.elim h
   | ret u=>
    obtain⟨v,H',os,bare,un,OY,r',q⟩:=h;have q':v=.bl true:=q;subst q';obtain rfl:u=Value.bool true:=r';refine⟨rfl,OldK.of_keep λb o e=>?_,os,bare⟩
    cases q:H b with
    | none=>exact un.keep b o e q (by intro z;exact QZZ (show b∈([]:List UF) from z) Zs) Zs
    | some u=>
     rcases hO b with z|⟨ob,xs,z⟩
     ·rw[q]at z;cases z
     ·have z2:=un.frzs b ob _ z;obtain⟨e1,_⟩:=hok b _ z;obtain⟨e2,_⟩:=OY b _ z2;rw[e]at e1;cases e1;exact e2
 cases hk:K.lookup a with
 | some o=>
  have e:=KX a o hk;rw[ha]at e;cases e;refine core (λ_=>none) (λ_=>.inl rfl) (.inr ⟨_,vs.toArray,_,hk,rfl,rfl,rfl,by rw[eB,OX];exact hl,by simpa using rv⟩) (λb u z=>by have z':(none:Option HO)=some u:=z;cases z') (λb z=>QZZ rfl z) λz=>QZZ rfl z
 | none=>
  refine core (λb=>if b=a then some (.frz {cls:=.type "list",data:=.seq vs.toArray } (.lst (ns.map V.int))) else none) (λb=>?_) (.inl (.inr ⟨{cls:=.type "list",data:=.seq vs.toArray },TD rfl⟩)) (λb u z=>?_) (λb z=>?_) λ_=>hk
  ·by_cases hb:b=a
   ·exact .inr ⟨_,_,TD hb⟩
   ·exact .inl (P7 hb)
  ·by_cases hb:b=a
   ·have z':=(TD hb).symm.trans z;cases z';subst hb;exact⟨ha,by rw[aZ];exact hl,vs,_,rv,ha⟩
   ·have z':=(P7 hb).symm.trans z;cases z'
  ·by_cases hb:b=a
   ·exact hb
   ·exact QZZ (P7 hb) z
def Au{l:W.OpenLaw}{n k:Nat}{q:Program}{loose:List Str}{XP:(Str->Option T0)->Heap->Prop}{YP:World->Heap->Prop}{d:DefRec}{K:Params->W.Frag}{CX:World->Gq}{sp:World->Sp}{x:Str}(hn:l.most=some n)(ng:n<=sizeLine)(JP:d.params.defaults=[])(hr:Room k callerA)(hY:∀(w:World)(h:Heap),YP w h->(K w.params).In h)(F:∀(w:World)(mg:X8)(fa:UF)(h:Heap),(K w.params).In h->h.Ns mainGlobals mg->mg d.name=some (.ref fa) →
   ∃fd:FuncData,(∀(s:TW)(u:T0),BindsTo s fd ⟨[u],[]⟩ [(x,u)]) ∧
    ∀base:Heap,(K w.params).In base->base.Ns mainGlobals mg->iE l.prog w (K w.params) mg base (CX w) k fa fd [x] (sp w))(ya:∀(w:World)(H:Hp)(a:UF)(ns:List Int),ns.length<=n->Vh H->SqL (K w.params) H a (ns.map V.int)->sp w [.ref a] H (λv _=>v=.bl true) λ_ _ _=>False)(OW:∀(w:World)(H:Hp)(s:TW)(e:T0)(s':TW),CX w [] H s (λ_ _ _=>False) e s'->False) :
  W.WalkO q loose XP YP l.row.toRowW d [] (λf vs=>PySem.call f vs):=by
 refine SS.attach_call hn JP λw s₀ s₁ mg mb fa o pm cd doc a vs ns G Y ho hd ue DX FC hints hlen hg=>?_;have KX:=hY w _ Y;obtain⟨fd,hb,hF⟩:=F w mg fa _ KX G.T.g DX;exact Ib KX G.T.g G.T.b G.T.builtins G.T.nolimit hg FC hints (kN hlen ng) hr hF hb (λH hO hS=>ya w H a ns hlen hO hS) λH e s'=>OW w H s₁ e s'
end L2
/- THE YY MZ (shape;LID,My.* are SV):
   My.Adr: a structure of the addresses that YZ SW names (classes,HX);My.Txt K t: a structure (Prop) of the equations over K;
   My.txt_mk:{K} {implicit addresses ..} (e1:nsIn K mainGlobals "law"=some (some (.ref f))) (e2:K.lookup f=some ⟨oc,od,.func (fnOf "law" "law" params body scope dV kV doc pm an cdv ct),sl⟩) (e3:codeIn K cdv "law"=true) ..:∃t,My.Txt K t
set_option maxRecDepth 100000 in
set_option maxHeartbeats 0 in
def PySem.Challenge.cw_LID_holds : PySem.Challenge.rw_LID.Holds := by
 w_on;o_law;k_head;(case hw=>w_witness2)
 k_fill
 refine L2.Au (l:=PySem.Challenge.rw_LID) (n:=63) (k:=40) (x:="script") (CX:=λw=>..) (sp:=λ_=>My.sp_law) rfl Zd rfl ⟨rfl,Zd,Zd⟩ (λw h Y=>W.kIn_of Y) ?F ?S ?C
 case F=>
  intro w mg fa h KX G DX;have T:∃t,My.Txt (L2.KOf KX) t:=by
   dsimp only [L2.KOf]                          -- K Zg SX as «<heap const> w.params» for k_is
   refine' My.txt_mk ?e1 ?e2 ?e3 ..
   (case e1=>W.k_is)                    -- in the order: a name->its address->its object->its parts
   (case e2=>W.k_is)
   ..
  obtain⟨t,T⟩:=T;have e0:=DX.symm.trans (W.mg_of KX G T.law);cases e0                                       -- fa is the SY own address;exact⟨_,λs u=>.of_eq rfl,λbase kb nb=>My.law_fn T kb nb⟩     -- if «.of_eq rfl» comes too early: refine' ⟨_,?b,λbase kb nb=>My.law_fn T kb nb⟩;exact λs u=>.of_eq rfl
 case S=>exact λw H a ns hl hO hS=>..
 case C=>exact ..
(the tactic k_is has no namespace: write k_is) -/
namespace L2
open PySem PySem.Spec PyProof.Rows
def eE(s:Stmt)(j:Nat):Stmt:=match s with
 | .ClassDef _ _ _ body _ _ _ _ _ _ _=>body.getD j (.Pass ⟨0,0,0,0⟩)
 | _=>.Pass ⟨0,0,0,0⟩
def bZ(s:Stmt):Arguments:=match s with
 | .FunctionDef _ a _ _ _ _ _ _ _ _=>a
 | _=>{posonlyargs:=[],args:=[],vararg:=none,kwonlyargs:=[],kw_defaults:=[],kwarg:=none,defaults:=[] }
def aV(s:Stmt):List Stmt:=match s with
 | .FunctionDef _ _ b _ _ _ _ _ _ _=>b
 | _=>[]
def aB(s:Stmt):Scope:=match s with
 | .FunctionDef _ _ _ _ _ _ sc _ _ _=>sc
 | _=>{kind:=.function,names:=[],isGenerator:=false,isCoroutine:=false }
abbrev qW:Gq:=λ_ _ _ _ _ _=>False
abbrev E0:XK:=λ_ _ _=>False
def Av{X:Cx}:mV qW X E0:=λ_ _ _ _ _ _ _ h=>h.elim
structure Fun(K:W.Frag)(x qual:Str)(st:Stmt)(f:UF)(fd:FuncData):Prop where
 ex:∃(oc:T0)(od:Option UF)(kV doc pm:T0)(an:Option UF)(cdv ct:T0)(osl:Array (Option T0)),
  fd=W.fnOf x qual (bZ st) (aV st) (aB st) .none kV doc pm an cdv ct/\K.lookup f=some ⟨oc,od,.func fd,osl⟩/\W.codeIn K cdv qual=true
 kp:W.keepIn K (.ref f)=true
section
variable {P:Program}{w:World}{K:W.Frag}{mg:X8}{base:Heap}
def Fun.ok{x qual:Str}{st:Stmt}{f:UF}{fd:FuncData}{N ps:List Str}{k:Nat}{sp:Sp}(F:Fun K x qual st f fd)(S:aJ N ps (aB st))(len:∀vs H Q E,sp vs H Q E->vs.length=ps.length)(n8:∀(cdv:T0)(A:Around)(outer:List Env)(s:TW)(H:Hp)(vs:List V)(Q:VK)(E:XK),Room k (A.deeper (envOfC qual (aB st) s.heap.objs.size f cdv))->sp vs H Q E →
   ∃t,PSs (fL qW P w K mg base N qual (aB st) f cdv A outer s H E).nox (aV st) t/\t {nx:=λ_ H'=>Q .non H',rt:=Q } (start N vs) H):iE P w K mg base qW (k+1) f fd ps sp:=by
 obtain⟨oc,od,kV,doc,pm,an,cdv,ct,osl,rfl,lk,ue⟩:=F.ex;refine Gu lk ue S len λA outer s H vs Q E hr ya=>?_;obtain⟨t,h,q⟩:=n8 cdv A outer s H vs Q E hr ya;exact⟨t,h.nox,q⟩
def Fun.binds{x qual:Str}{st:Stmt}{f:UF}{fd:FuncData}{ps:List Str}(F:Fun K x qual st f fd)(h:∀(kV doc pm:T0)(an:Option UF)(cdv ct:T0)(us:List T0),us.length=ps.length->bindArgs (W.fnOf x qual (bZ st) (aV st) (aB st) .none kV doc pm an cdv ct) ⟨us,[]⟩=pure (ps.zip us)):Binds K fd ps []:=by
 obtain⟨oc,od,kV,doc,pm,an,cdv,ct,osl,rfl,lk,ue⟩:=F.ex;exact .all (h kV doc pm an cdv ct)
def kU{x qual:Str}{st:Stmt}{f:UF}{oc:T0}{od an:Option UF}{osl:Array (Option T0)}{kV doc pm cdv ct:T0}(l:K.lookup f=some ⟨oc,od,.func (W.fnOf x qual (bZ st) (aV st) (aB st) .none kV doc pm an cdv ct),osl⟩)(c:W.codeIn K cdv qual=true)(k:W.keepIn K (.ref f)=true):Fun K x qual st f (W.fnOf x qual (bZ st) (aV st) (aB st) .none kV doc pm an cdv ct):=⟨⟨oc,od,kV,doc,pm,an,cdv,ct,osl,rfl,l,c⟩,k⟩
end
def jK{A:Around}{k:Nat}(hr:Room k A):A.units+1<cLine:=oZ (Nat.add_le_add_left (by decide:1<=64) _) hr.units
section
variable {X:Cx}
def Dy:CallR X (.builtin "len") (λxs H Q=>∃a kvs,xs=[V.ref a]/\H a=some (.dK kvs)/\Q (.int kvs.length) H):=by
 intro pins s σ H xs us Q I r h;obtain⟨a,kvs,rfl,ha,q⟩:=h;obtain⟨u,rfl,ru⟩:=jE r;cases ru;exact Zy I (.inl ha) λt s' I'=>⟨.int kvs.length,H,I',⟨t,rfl⟩,q⟩
end
def Same(H H':Hp):Prop:=∀b o,H b=some o->H' b=some o
def Same.refl(H:Hp):Same H H:=λ_ _ h=>h
def Same.trans{H H1 H2:Hp}(a:Same H H1)(b:Same H1 H2):Same H H2:=λc o h=>b c o (a c o h)
def Same.free{H H':Hp}(e:Same H H'){l:UF}(h:H' l=Option.none):H l=Option.none:=by
 cases q:H l with
 | none=>rfl
 | some o=>
  rw[e l o q]at h;cases h
def Same.seq{K:W.Frag}{H H':Hp}{a:UF}{xs:List V}(e:Same H H')(h:SqL K H a xs):SqL K H' a xs:=by
 rcases h with(h|⟨o,h⟩)|h
 ·exact .inl (.inl (e _ _ h))
 ·exact .inl (.inr ⟨o,e _ _ h⟩)
 ·exact .inr h
section
variable {κ:Type} [DecidableEq κ]
def Om{kvs:List (κ×V)}{k:κ}{v:V}(h:bC kvs k=some v):k∈kvs.map (·.1):=by
 have q:(kvs.any λkv=>decide (kv.1=k))=true:=by
  rw[fX,h];all_goals rfl
 obtain⟨p,hp,e⟩:=any_eq_true.mp q;exact Zmm.mpr ⟨p,hp,W9 e⟩
def Aw:∀ {l:List κ}{k:κ},l.Nodup->¬ k∈l->(l++[k]).Nodup
 | [],k,_,_=>by simp
 | a::r,k,h,hk=>by
  obtain⟨h1,h2⟩:=nodup_cons.mp h;show(a::(r++[k])).Nodup;refine nodup_cons.mpr ⟨λm=>?_,Aw h2 λm=>hk (mem_cons.mpr (Or.inr m))⟩;rcases Zma.mp m with q|q
  ·exact h1 q
  ·exact hk (mem_cons.mpr (Or.inl (Zms.mp q).symm))
end
def jL(env:Env):List (Str×NameKind)->List (Str×UF)->List (Str×UF)
 | [],cs=>cs
 | (n,k)::r,cs=>jL env r (if k=.free then (match env.cells.lookup n with|some c=>(n,c)::cs|none=>cs) else cs)
def kW{env:Env}:∀(names:List (Str×NameKind))(cs:List (Str×UF)),(∀x∈names,x.2=.free->∃c,env.cells.lookup x.1=some c) →
  (forIn names cs λ(x:Str × NameKind) (r:List (Str × Addr))=>(do
   if x.2 == .free then do
    let c←cellOf env x.1
    pure (ForInStep.yield ((x.1,c)::r))
   else pure (ForInStep.yield r):Sem _))=pure (jL env names cs)
 | [],cs,_=>rfl
 | (n,k)::r,cs,h=>by
  rw[forIn_cons];by_cases hk:k=.free
  ·subst hk;obtain⟨c,hc⟩:=h (n,.free) jI rfl;have CH:env.cells.lookup n=some c:=hc;have e1:cellOf env n=pure c:=by unfold cellOf;rw[CH]
   simp only [beq_self_eq_true,if_true,e1,pure_bind];rw[kW r ((n,c)::cs) λx hx=>h x (oP _ hx)];simp[jL,CH]
  ·have hb:(k==NameKind.free)=false:=by simpa using hk
   simp only [hb,Bool.false_eq_true,if_false,pure_bind];rw[kW r cs λx hx=>h x (oP _ hx)];simp[jL,hk]
def pJ{scope:Scope}{env:Env}(h:∀x∈scope.names,x.2=.free->∃c,env.cells.lookup x.1=some c):closureFor scope env=pure (jL env scope.names []):=by
 have e:=kW scope.names [] h;unfold closureFor;exact(congrArg (λz=>z>>=λ(r:List (Str×UF))=>(pure r:Sem _)) e).trans (pure_bind _ _)
def wD{env:Env}:∀(names:List (Str×NameKind))(cs:List (Str×UF)),(∀y d,(y,d)∈cs->env.cells.lookup y=some d)->∀y d,(y,d)∈jL env names cs->env.cells.lookup y=some d
 | [],_,h=>h
 | (n,k)::r,cs,h=>by
  unfold jL;refine wD r _ λy d hm=>?_
  split at hm
  ·split at hm
   ·rename_i c hc;rcases mem_cons.mp hm with e|e
    ·cases e;exact hc
    ·exact h y d e
   ·exact h y d hm
  ·exact h y d hm
def Ax{env:Env}:∀(names:List (Str×NameKind))(cs:List (Str×UF))(y:Str)(d:UF),(y,d)∈jL env names cs->(y,.free)∈names∨(y,d)∈cs
 | [],_,_,_,h=>.inr h
 | (n,k)::r,cs,y,d,h=>by
  unfold jL at h;rcases Ax r _ y d h with e|hm
  ·exact .inl (oP _ e)
  ·split at hm
   ·rename_i hk;split at hm
    ·rcases mem_cons.mp hm with e|e
     ·cases e;subst hk;exact .inl jI
     ·exact .inr e
    ·exact .inr hm
   ·exact .inr hm
def Ic{env:Env}:∀(names:List (Str×NameKind))(cs:List (Str×UF))(y:Str),((∃d,(y,d)∈cs)∨(y,.free)∈names)->(∀x∈names,x.2=.free->∃c,env.cells.lookup x.1=some c)->∃d,(y,d)∈jL env names cs
 | [],_,_,h,_=>by
  rcases h with h|h
  ·exact h
  ·cases h
 | (n,k)::r,cs,y,h,hf=>by
  unfold jL;refine Ic r _ y ?_ λx hx=>hf x (oP _ hx)
  rcases h with⟨d,hd⟩|h
  ·refine .inl ⟨d,?_⟩;split
   ·split
    ·exact oP _ hd
    ·exact hd
   ·exact hd
  ·rcases mem_cons.mp h with e|e
   ·have e1:y=n:=congrArg Prod.fst e;have e2:NameKind.free=k:=congrArg Prod.snd e;subst e1 e2;obtain⟨c,hc⟩:=hf (y,.free) jI rfl;have CH:env.cells.lookup y=some c:=hc;refine .inl ⟨c,?_⟩;rw[TD rfl,CH];exact jI
   ·exact .inr e
def pK{α:Type}:∀ {l:List (Str×α)}{y:Str}{d:α},(y,d)∈l->∃d',l.lookup y=some d'/\(y,d')∈l
 | (n,c)::r,y,d,h=>by
  by_cases e:y=n
  ·subst e;exact⟨c,by simp[lookup_cons],jI⟩
  ·rcases mem_cons.mp h with q|q
   ·cases q;exact QZZ rfl e
   ·obtain⟨d',h1,h2⟩:=pK q;have hb:(y==n)=false:=by simpa using e
    exact⟨d',by rw[lookup_cons,hb];exact h1,oP _ h2⟩
def dX{env:Env}{names:List (Str×NameKind)}{y:Str}{c:UF}(h:(jL env names []).lookup y=some c):env.cells.lookup y=some c/\(y,.free)∈names:=by
 have hm:=PySem.mem_of_lookup h;refine⟨wD names [] (λ_ _ z=>nomatch z) y c hm,?_⟩;rcases Ax names [] y c hm with e|e
 ·exact e
 ·cases e
def Ay{env:Env}{names:List (Str×NameKind)}{y:Str}(h:(y,.free)∈names)(hf:∀x∈names,x.2=.free->∃c,env.cells.lookup x.1=some c):∃c,(jL env names []).lookup y=some c/\env.cells.lookup y=some c:=by
 obtain⟨d,hd⟩:=Ic names [] y (.inr h) hf;obtain⟨c,hc,_⟩:=pK hd;exact⟨c,hc,(dX hc).1⟩
def tY{scope:Scope}{env:Env}(mm:∀y∈scope.names,y.2≠.cell){x:Str}(h:(relabel scope env).names.lookup x=some .cell∨(relabel scope env).names.lookup x=some .free):(x,.free)∈scope.names:=by
 have go:∀ {k:NameKind},k=.cell∨k=.free->(relabel scope env).names.lookup x=some k->(x,.free)∈scope.names:=λ{k} hk h=>by
  have hm:=PySem.mem_of_lookup h;unfold relabel at hm;obtain⟨⟨n,j⟩,hp,e⟩:=Zmm.mp hm;dsimp only at e;split at e
  ·rename_i hc;cases e;have:j=.free:=by
    have:=(Bool.and_eq_true_iff.mp (Bool.and_eq_true_iff.mp hc).1).1;simpa using this
   subst this;exact hp
  ·cases e;rcases hk with q|q
   ·exact QZZ q (mm _ hp)
   ·subst q;exact hp
 rcases h with h|h
 ·exact go (.inl rfl) h
 ·exact go (.inr rfl) h
def lG{env:Env}:∀ {names:List (Str×NameKind)}{x:Str},names.lookup x=some .free →
  (names.map λ(n,k)=>if (k==NameKind.free&&env.scope.kind == .function&&env.kindOf n==some .cell) then (n,NameKind.cell) else (n,k)).lookup x=some .cell∨
  (names.map λ(n,k)=>if (k==NameKind.free&&env.scope.kind == .function&&env.kindOf n==some .cell) then (n,NameKind.cell) else (n,k)).lookup x=some .free
 | [],_,h=>by simp at h
 | (n,k)::r,x,h=>by
  have ih:=@lG env r x;rw[map_cons];dsimp only;cases hx:x==n with
  | true=>
   simp only [lookup_cons,hx]at h;cases h;split
   ·left;simp[lookup_cons,hx]
   ·right;simp[lookup_cons,hx]
  | false=>
   simp only [lookup_cons,hx]at h;split
   ·simp only [lookup_cons,hx];exact ih h
   ·simp only [lookup_cons,hx];exact ih h
def mL(X:Cx)(scope:Scope)(C:UF)(N:List Str)(s₂:TW)(H₂:Hp)(fp:List UF):Cx where
 prog:=X.prog
 w:=X.w
 K:=X.K
 mg:=X.mg
 base:=X.base
 A:=X.A
 N:=N
 s₀:=s₂
 H₀:=H₂
 env:=compEnvC scope (jL X.env scope.names []) C X.env
 outer:=X.stack
 stack:=X.stack
 ex:=fp
 fn:=λ_=>false
 calm:=X.calm
 pn:=[]
 xe:=λ_ _=>False
def tZ(js:List (Option Nat))(σ:St):St:=js.map λo=>match o with|some j=>(σ[j]?).getD none|none=>none
structure CompScope(X:Cx)(scope:Scope)(N:List Str)(js:List (Option Nat)):Prop where
 kind:scope.kind=.function
 nocell:∀y∈scope.names,y.2≠.cell
 loc:∀y∈scope.names,y.2=.local->scope.names.lookup y.1=some .local
 len:js.length=N.length
 cap:∀(i j:Nat),js[i]?=some (some j)->∃x,N[i]?=some x/\X.N[j]?=some x/\scope.names.lookup x=some .free
 out:∀y∈scope.names,y.2=.free->X.env.kindOf y.1=some .cell∨X.env.kindOf y.1=some .free
def yO(js:List (Option Nat))(g:TG):Prop:=∀x σ H Q,g x σ H Q->g x σ H λσ2 H2=>Q σ2 H2/\σ2.length=σ.length/\∀(i j:Nat),js[i]?=some (some j)->σ2[i]?=σ[i]?
def Az(js:List (Option Nat))(g:Ag):Prop:=∀xs σ H Q,g xs σ H Q->g xs σ H λσ2 H2=>Q σ2 H2/\σ2.length=σ.length/\∀(i j:Nat),js[i]?=some (some j)->σ2[i]?=σ[i]?
def aP{js:List (Option Nat)}{k:Nat}(h:js[k]?=some none):yO js (aK k):=λx σ H Q q=>by
 refine⟨q,Zs,λi j e=>?_⟩;have:k≠i:=λz=>by subst z;rw[h]at e;cases e
 rw[getElem?_set_ne this]
def nB{js:List (Option Nat)}:Az js Uc:=λxs σ H Q q=>⟨q.1,q.2,rfl,λ_ _ _=>rfl⟩
def eQ{js:List (Option Nat)}{k:Nat}{u:Ag}(h:js[k]?=some none)(hu:Az js u):Az js (Gc (aK k) u):=λxs σ H Q q=>by
 obtain⟨v,r,e,q⟩:=q;refine⟨v,r,e,?_⟩;obtain⟨_,h2⟩:=aP h v σ H (λ_ _=>True) trivial;have q2:=hu r _ _ _ q;have e2:(λσ2 H2=>Q σ2 H2/\σ2.length=(σ.set k (some v)).length/\∀(i j:Nat),js[i]?=some (some j)->σ2[i]?=(σ.set k (some v))[i]?)=(λσ2 (H2:Hp)=>Q σ2 H2/\σ2.length=σ.length/\∀(i j:Nat),js[i]?=some (some j)->σ2[i]?=σ[i]?):=by
  funext σ2 H2
  have e3:∀(i j:Nat),js[i]?=some (some j)->(σ.set k (some v))[i]?=σ[i]?:=h2.2;apply propext;constructor
  ·rintro⟨a,b,c⟩;exact⟨a,by simpa using b,λi j e=>(c i j e).trans (e3 i j e)⟩
  ·rintro⟨a,b,c⟩;exact⟨a,by simpa using b,λi j e=>(c i j e).trans (e3 i j e).symm⟩
 show u r (σ.set k (some v)) H _;rw[<- e2];exact q2
def pL{K:W.Frag}{n:Nat}{js:List (Option Nat)}{t:Ag}(h:Az js t):yO js (Nm K n t):=λx σ H Q q=>by
 obtain⟨a,xs,e,hq,hl,q⟩:=q;exact⟨a,xs,e,hq,hl,h xs σ H Q q⟩
section
variable {X:Cx}{pins:ZB}{σ:St}{H H':Hp}{s:TW}
def Un.more{fs ex:List UF}{H H':Hp}{h h':Heap}{D:UF}{o:HO}(u:Un fs ex H H' h h')(hD:h.get? D=none)(hH:H D=none):Un fs ex H (aI H' D o) h h' where
 keep:=u.keep
 slot:=u.slot
 free:=λb ob q n hx=>by
  have:b≠D:=λz=>by rw[z,hD]at q;cases q
  rw[aD this];exact u.free b ob q n hx
 there:=u.there
 tups:=λb xs q=>by rw[aD (aE q hH)];exact u.tups b xs q
 frzs:=λb ob xs q=>by rw[aD (aE q hH)];exact u.frzs b ob xs q
 tbls:=λb ps q=>by rw[aD (aE q hH)];exact u.tbls b ps q
def HOk.more{P:Program}{w:World}{h:Heap}{D:UF}{o:HO}(k:HOk P w H h)(hH:H D=none)(new:ObjOk P w (aI H D o) h D o):HOk P w (aI H D o) h:=λb u e=>by
 by_cases hb:b=D
 ·subst hb;rw[aA]at e;cases e;exact new
 ·rw[aD hb]at e;exact(k b u e).stay (λ_ _ _ q=>q) (λc q=>by rw[aD (aE q hH)];exact q) λc xs q=>by rw[aD (aE q hH)];exact q
def CompScope.ok{scope:Scope}{N:List Str}{js:List (Option Nat)}{C:UF}{fp:List UF}(S:CompScope X scope N js)(I:Inv X pins σ H s)(hC:s.heap.objs.size<=C)(hf:∀b∈fp,mP X pins H b)(hl:∀b∈fp,b<s.heap.objs.size) :
  (mL X scope C N s H fp).Ok where
 mod:=I.ok.mod
 kind:=S.kind
 glob:=I.ok.glob
 blt:=I.ok.blt
 above:=hC
 inj:=λx y c h1 h2=>I.ok.inj x y c (dX h1).1 (dX h2).1
 has:=λx hx=>by
  have hm:(x,.free)∈scope.names:=tY S.nocell hx;obtain⟨c,h1,_⟩:=Ay (env:=X.env) hm λy hy hk=>I.ok.has y.1 (S.out y hy hk)
  exact⟨c,h1⟩
 cab:=λx c z=>nomatch z
 hd:=I.ok.hd
 frames:=I.ok.frames
 stk:=.inl rfl
 exf:=λb hb=>⟨ne_of_lt (QZV (hl b hb) hC),λx c e=>(hf b hb).2.2.2.2.1 x c (dX e).1⟩
 bs:=I.bs
 bsz:=kN I.ok.bsz I.sz
 noex:=λb o e hb=>by
  rcases(hf b hb).2.2.2.1 with z|z
  ·exact I.ok.noex b o e z
  ·exact QZZ (QZV (Heap.lt_size e) (kN I.ok.bsz z)) (lt_irrefl _)
 exfs:=λb hb hm=>by
  rcases mem_cons.mp (I.stkSub b hm) with z|z
  ·exact(hf b hb).2.1 z
  ·exact(hf b hb).2.2.1 z
 funs:=I.stack
 frf:=I.stkFree
def CompScope.start{scope:Scope}{N:List Str}{js:List (Option Nat)}{C D:UF}{fp:List UF}{ob:Obj}{h₁:Heap}{m:X8}{tk:Nat}(S:CompScope X scope N js)(I:Inv X pins σ H s)(hC:s.heap.objs.size<=C)(hD:s.heap.objs.size<=D)(zo:D≠C)(hf:∀b∈fp,mP X pins H b)(hl:∀b∈fp,b<s.heap.objs.size)(k:∀b o,s.heap.get? b=some o->h₁.get? b=some o)(HW:h₁.Ns C m)(eD:h₁.get? D=some ob)(nc:∀v,ob.data≠.cell v) :
  Inv (mL X scope C N s H fp) [(D,ob)] (tZ js σ) H {s with heap:=h₁,toks:=tk } where
 ok:=S.ok I hC hf hl
 os:=rfl
 bare:=I.bare
 base:=Un.kept k
 loc:=by
  refine⟨m,HW,λi x v h1 h2 h3=>?_⟩;have h1:N[i]?=some x:=h1;unfold tZ at h2;rw[jC]at h2;cases e:js[i]? with
  | none=>rw[e]at h2;cases h2
  | some o=>
   rw[e]at h2;cases o with
   | none=>cases h2
   | some j=>
    have Q7:(σ[j]?).getD none=some v:=Option.some.inj h2;have hσ:σ[j]?=some (some v):=by
     cases q:σ[j]? with
     | none=>rw[q]at Q7;cases Q7
     | some z=>rw[q]at Q7;exact congrArg some Q7
    obtain⟨y,e1,e2,e3⟩:=S.cap i j e;rw[h1]at e1;cases e1;have uc:(x,.free)∈scope.names:=PySem.mem_of_lookup e3;have ho:=S.out (x,.free) uc rfl;obtain⟨mX,_,Zn⟩:=I.loc;have ZA:Ys X.env.scope x:=by
     rcases ho with z|z
     ·exact .inr (.inl z)
     ·exact .inr (.inr z)
    obtain⟨u,r,l⟩:=Zn j x v e2 hσ ZA;refine⟨u,r,.inr ?_⟩;rcases l with⟨hk,_⟩|⟨hk,c,hc,mm⟩
    ·rcases ho with z|z
     ·have z':X.env.kindOf x=some .cell:=z;rw[hk]at z';cases z'
     ·have z':X.env.kindOf x=some .free:=z;rw[hk]at z';cases z'
    ·obtain⟨c',M6,JR⟩:=Ay (env:=X.env) uc λy hy hk=>I.ok.has y.1 (S.out y hy hk)
     rw[hc]at JR;cases JR;refine⟨lG e3,c,M6,?_⟩;obtain⟨oc,q1,q2⟩:=mm;exact⟨oc,k c oc q1,q2⟩
 cell:=λx c e=>by
  obtain⟨v,oc,q1,q2⟩:=I.cell x c (dX e).1;exact⟨v,oc,k c oc q1,q2⟩
 free:=I.hok.fresh hC
 freeC:=λx c e=>I.freeC x c (dX e).1
 pin:=λp hp=>by
  have e:p=(D,ob):=by
   rcases Zma.mp hp with z|z
   ·exact QZZ (show p∈([]:List (UF×Obj)) from z) Zs
   ·simpa using z
  subst e;refine⟨eD,I.hok.fresh hD,zo,λhm=>?_,nc⟩;rcases mem_cons.mp (I.stkSub D hm) with z|z
  ·have z:D=X.env.locals:=z;have:=I.lt;rw[<- z]at this;exact QZZ (QZV this hD) (lt_irrefl _)
  ·exact I.nofs hD z
 hok:=I.hok.kept k
 len:=by
  unfold tZ;rw[aZ];exact S.len
end
def Yk(X:Cx)(cs:List Expr)(t:TT):Prop:=
 ∀(pins:ZB)(s:TW)(σ:St)(H:Hp)(Q:Bool->Hp->Prop)(E:X9),Inv X pins σ H s->t σ H Q →
  wpAny (model X.prog X.w) X.A (forIn cs true λc r=>if r=true then do let ok←isTrue c X.env (eval c X.env);pure (ForInStep.yield ok) else pure (ForInStep.yield r)) (TP X pins σ Q) E s
def Sg:TT:=λ_ H Q=>Q true H
def On{X:Cx}:Yk X [] Sg:=λpins s σ H Q E I h=>wpAny_tests_nil ⟨H,I,h⟩
def Oo{X:Cx}{c:Expr}{t:TT}(h:PT X c t)(hx:X.xe=λ_ _=>False:=by rfl):Yk X [c] t:=λpins s σ H Q E I q=>
 wpAny_tests_one (wpAny_mono (h pins s σ H Q I q) (λ_ _ z=>z) λe s' z=>by rw[hx]at z;exact z.elim)
def pM(js:List (Option Nat))(g:TG)(tt:TT)(te:TE)(σ:St)(J:It)(H1:Hp)(Q:List V->Hp->Prop):Prop:=
 ∃W:Nat->Nat->List V->Hp->Prop,(∃m,W 0 m [] H1)/\∀i m ys H,W i m ys H →
  (J.stop i H/\Q ys H)∨
  (J.go i H/\ys.length<sizeLine/\∃N:List V->Hp->Prop,(∀DY H',N DY H'->∃m',m'<m/\W (i+1) m' DY H') ∧
   ∀x H',J.yld i H x H'->g x (tZ js σ) H' λσ2 H2=>tt σ2 H2 λb H3=>if b=true then te σ2 H3 λy H4=>N (ys++[y]) H4 else N ys H3)
def Sh(wi:TI)(js:List (Option Nat))(g:TG)(tt:TT)(te:TE):TE:=λσ H Q=>wi σ H λJ H1=>
 pM js g tt te σ J H1 λys H2=>∀p,H2 p=none->Q (.ref p) (aI H2 p (.lst ys))
def Si(i:Nat)(wi:TI)(js:List (Option Nat))(g:TG)(tt:TT)(te:TE):TS:=λD σ H=>wi σ H λJ H1=>
 pM js g tt te σ J H1 λys H2=>∀p,H2 p=none->D.nx (σ.set i (some (.ref p))) (aI H2 p (.lst ys))
section
variable {X:Cx}{tg iter elt:Expr}{ifs:List Expr}{scope:Scope}{N:List Str}{js:List (Option Nat)}{wi:TI}{g:TG}{tt:TT}{te:TE}{pos:Pos}
def pN{pins:ZB}{σ:St}{H2:Hp}{s2:TW}{it:UF}{fp:List UF}{tn:Nat->Heap->Prop}{J:It}{Qf:List V->Hp->Prop}{RR:T0->UF->Result->TW->Prop}{E:X9}(hc:X.calm=true)(S:CompScope X scope N js)(go:yO js g)(hb:∀(C:UF)(s₂:TW)(H₂:Hp)(fp:List UF),PG (mL X scope C N s₂ H₂ fp) tg g/\Yk (mL X scope C N s₂ H₂ fp) ifs tt/\PE (mL X scope C N s₂ H₂ fp) elt te)(I2:Inv X pins σ H2 s2)(T:tH X.prog X.w X.K tg J fp it tn)(CJ:tn 0 s2.heap)(f2:∀b∈fp,mP X pins H2 b)(hw:pM js g tt te σ J H2 Qf)(ZC:∀(C D:UF)(ys:List V)(H3:Hp)(s3:TW)(m:X8),s2.heap.objs.size<=C->s2.heap.objs.size<=D->D≠C->Inv X pins σ (aI H3 D (.lst ys)) s3->H3 C=none->H3 D=none->s3.heap.Ns C m->Qf ys H3->RR (.ref D) C (.ok .next) s3) :
  wpAny (model X.prog X.w) X.A (newList []) (λacc s₃=>wpAny (model X.prog X.w) X.A (newFunctionEnv scope X.env.globals (jL X.env scope.names []) [] X.env.qual none .none (some X.env)) (λJS s₄=>
   codeAny (model X.prog X.w) X.A (.compStart (.ListComp elt [⟨tg,iter,ifs,0⟩] scope pos) 0 (.ref it) acc {JS with scope:=relabel scope X.env }) (RR acc JS.locals) s₄) E s₃) E s2:=by
 obtain⟨W,⟨m0,w0⟩,turn⟩:=hw;refine wpAny_newObj_type (wpAny_newFunctionEnv S.nocell (by intro y hy;simp at hy) (λh₁ CM CO=>?_) S.kind);dsimp only at CM CO ⊢;generalize OZ:s2.heap.push {cls:=.type "list",dict:=none,data:=.seq ([]:List T0).toArray }=HP at CM CO ⊢;have hC:HP.objs.size=s2.heap.objs.size+1:=by rw[<- OZ,Heap.size_push]
 have zo:s2.heap.objs.size≠HP.objs.size:=by rw[hC];exact ne_of_lt (lt_succ_self _)
 have FD:s2.heap.objs.size<=HP.objs.size:=by rw[hC];exact le_succ _
 have old:∀b o,s2.heap.get? b=some o->h₁.get? b=some o:=λb o e=>CO.extBut b o (by rw[hC];exact ne_of_lt (Nat.lt_succ_of_lt (Heap.lt_size e))) (eP _ (OZ▸eP _ e))
 have JT:h₁.get? s2.heap.objs.size=some {cls:=.type "list",data:=.seq ([]:List T0).toArray 0 }:=CO.extBut _ _ zo (eP _ (OZ▸UV _ rfl));have NA:∀b∈fp,b<s2.heap.objs.size:=λb hb=>by
  obtain⟨o,e,_⟩:=T.obj _ _ CJ b hb;exact Heap.lt_size e
 generalize TB:s2.heap.objs.size=D at zo FD JT ⊢;generalize hCn:HP.objs.size=C at zo FD CM ⊢;have NB:s2.heap.objs.size<=C:=by rw[TB];exact FD
 have FE:s2.heap.objs.size<=D:=le_of_eq TB;obtain⟨pg,pt,pe⟩:=hb C s2 H2 fp;have I0:=S.start (D:=D) (fp:=fp) (tk:=s2.toks+([]:List (Str×T0)).length) I2 NB FE zo f2 NA old CM JT (λv z=>nomatch z);have PB:∀ {H':Hp}{pl:ZB},(∀b∈fp,H' b=none)->(∀p∈pl,p.1∉fp)->∀b∈fp,mP (mL X scope C N s2 H2 fp) pl H' b:=λhn hp b hb=>
  ⟨hn b hb,ne_of_lt (QZV (NA b hb) NB),(S.ok I2 NB f2 NA).exfs b hb,.inl hb,λx c e=>(f2 b hb).2.2.2.2.1 x c (dX e).1,λp hm z=>by
   rcases Zma.mp hm with q|q
   ·exact QZZ (show p∈([]:List (UF×Obj)) from q) Zs
   ·exact hp p q (z ▸ hb)⟩
 have TC:D∉fp:=λz=>QZZ (QZV (NA D z) FE) (lt_irrefl _)
 have one:∀ {ob:Obj},∀p∈[(D,ob)],p.1∉fp:=λp hp=>by
  have e:=Zms.mp hp;subst e;exact TC
 have loop:∀s₃:TW,s₃={s2 with heap:=h₁,toks:=s2.toks+([]:List (Str×T0)).length } →
   codeAny (model X.prog X.w) X.A (.compLoop (.ListComp elt [⟨tg,iter,ifs,0⟩] scope pos) 0 (.ref it) (.ref D) (compEnvC scope (jL X.env scope.names []) C X.env)) (RR (.ref D) C) s₃:=by
  rintro s₃ rfl;refine codeAny_loop rfl (λn s'=>∃(i:Nat)(ys:List V)(H':Hp)(its:List T0)(k:Nat),Inv (mL X scope C N s2 H2 fp) [(D,{cls:=.type "list",data:=.seq its.toArray k })] (tZ js σ) H' s'/\Vals ys its/\ys.length<=sizeLine/\tn i s'.heap/\(∀b∈fp,H' b=none)/\W i n ys H') ?_ m0 ?_
  ·rintro n s3 ⟨i,ys,H3,its,k,I3,rv,hz,JI,JJ,w3⟩;show wpAny _ X.A ((compTurn (.ListComp elt [⟨tg,iter,ifs,0⟩] scope pos) 0 (.ref it) (.ref D) (compEnvC scope (jL X.env scope.names []) C X.env)).onRaise (λx=>do noteFrame x _;theTreesLotGoes x)) _ _ s3;refine wpAny_noted (wpAny_noRaise ?_);rw[compTurn_list];rcases turn i n ys H3 w3 with⟨stop,qn⟩|⟨goes,B5,Nx,hN,step⟩
   ·refine X7 (wpAny_standAt (X7 (bU (T.done (mL X scope C N s2 H2 fp) rfl rfl rfl hc i _ s3 (tZ js σ) H3 (λ_ _=>False) I3 (PB JJ one) JI stop) λr s4 ⟨hr,I4⟩=>?_)));subst hr;refine X6 ?_;have pD:=I4.pin (D,{cls:=.type "list",data:=.seq its.toArray k }) (by simp[mL]);obtain⟨mC,ZD,_⟩:=id I4.loc;have IX:Inv X pins σ (aI H3 D (.lst ys)) s4:=by
     refine I2.call' (ch:=fp) I4.os (Un.more I4.base (Heap.get?_none_of_le FE) (I2.hok.fresh FE)) (HOk.more I4.hok pD.2.1 ⟨hz,its,k,rv,pD.1⟩) I4.bare λb hb=>?_;obtain⟨_,f1,_,f3,f4,f5⟩:=f2 b hb;exact⟨f3,f1,f4,f5⟩
    exact ZC C D ys H3 s4 mC NB FE zo IX I4.free pD.2.1 ZD qn
   ·refine X7 (wpAny_standAt (X7 (bU (T.item (mL X scope C N s2 H2 fp) rfl rfl rfl hc i _ s3 (tZ js σ) H3 (λ_ _=>False) I3 (PB JJ one) JI goes) λr s4 ⟨u,hr,h4⟩=>?_)));subst hr;refine X7 (bU h4 λ_ s5 ⟨x,H5,I5,r5,y5,ES,OL⟩=>?_);have OM:=I5.pinned (PB OL one) (T.obj _ _ ES);refine X7 (bU (pg _ s5 (tZ js σ) H5 x u _ OM r5 (go _ _ _ _ (step x H5 y5))) λ_ s6 ⟨σ6,H6,I6,⟨q6,l6,e6⟩⟩=>?_);have weak:∀ {pl:ZB}{H7:Hp}{s7:TW},Inv (mL X scope C N s2 H2 fp) pl σ6 H7 s7->Inv (mL X scope C N s2 H2 fp) pl (tZ js σ) H7 s7:=λ{pl H7 s7} I7=>by
     refine I7.weak l6.symm λj v hj=>?_
     cases e:js[j]? with
     | none=>unfold tZ at hj;rw[jC,e]at hj;cases hj
     | some o=>
      cases o with
      | none=>unfold tZ at hj;rw[jC,e]at hj;cases hj
      | some j'=>rw[e6 j j' e];exact hj
    have DZ:∀ {H7:Hp}{s7:TW}{pl:ZB},Inv (mL X scope C N s2 H2 fp) (pl++pB fp s5.heap) (tZ js σ) H7 s7->tn (i+1) s7.heap/\∀b∈fp,H7 b=none:=λ{H7 s7 pl} I7=>by
     refine⟨T.keep _ _ _ ES λb hb o e=>(I7.pin (b,o) (QZW _ (QZW _ (iD hb e)))).1,λb hb=>?_⟩;obtain⟨o,e,d⟩:=T.obj _ _ ES b hb;exact(I7.pin (b,o) (QZW _ (QZW _ (iD hb e)))).2.1
    refine X7 (bU (pt _ s6 σ6 H6 _ _ I6 q6) λok s7 ⟨H7,I7,q7⟩=>?_)
    cases ok with
    | false=>
     rw[P7 XV]at q7;refine X6 ⟨rfl,?_⟩;obtain⟨m',hm,w7⟩:=hN ys H7 q7;have TF:=weak I7;obtain⟨k1,k2⟩:=DZ TF;exact⟨m',hm,i+1,ys,H7,its,k,TF.unpinned,rv,hz,k1,k2,w7⟩
    | true=>
     rw[TD rfl]at q7;show wpAny _ _ ((eval elt _>>=λx=>call (.builtin "list.append") [.ref D,x]>>=λ_=>pure ())>>=λ_=>again _) _ _ _;refine X7 (X7 (bU (pe _ s7 σ6 H7 _ I7 q7) λy s8 ⟨yv,H8,I8,r8,q8⟩=>?_));obtain⟨m',hm,w8⟩:=hN (ys++[yv]) H8 q8;have PD:=weak I8;obtain⟨k1,k2⟩:=DZ PD;have pD:=PD.pin (D,{cls:=.type "list",data:=.seq its.toArray k }) (by simp[mL]);have TH:=rv.length;refine X7 (call_meets F.slot_list_append ⟨_,pD.1,rfl⟩ F.entry_list_append (F.args_list_append_2 _ _) (PySem.list_append D its.toArray k y (by rw[eB];omega)) ⟨pD.1,?_⟩);refine X6 (X6 ⟨rfl,m',hm,i+1,ys++[yv],H8,its++[y],?_⟩);have q:=PySem.IsL.update pD.1 (λz=>z.push y);have eA:its.toArray.push y=(its++[y]).toArray:=by simp
     rw[eA]at q;have I9:Inv (mL X scope C N s2 H2 fp) [] (tZ js σ) H8 s8:=PD.pins_of λp hp=>QZZ hp Zs
     have EA:∀b o,b≠D->s8.heap.get? b=some o->(s8.heap.update D (Obj.mapSeq λz=>z.push y)).get? b=some o:=λb o hb hu=>(Heap.get?_update_other s8.heap _ (Ne.symm hb)).trans hu
     have ZE:Inv (mL X scope C N s2 H2 fp) [] (tZ js σ) H8 {s8 with heap:=s8.heap.update D (Obj.mapSeq λz=>z.push y),toks:=s8.toks }:=I9.turned EA pD.2.1 pD.2.2.1 (.inr FE)
      (λx c e z=>by
       obtain⟨v,oc,q1,q2⟩:=I2.cell x c (dX e).1;rw[z]at q1;exact QZZ (QZV (Heap.lt_size q1) FE) (lt_irrefl _))
      (λp hp=>by
       rcases Zma.mp hp with q|q
       ·exact QZZ (show p∈([]:List (UF×Obj)) from q) Zs
       ·exact QZZ q Zs)
     refine⟨(if ((its++[y]).toArray).size==its.toArray.size then k else k+1),ZE.pins_of λp hp=>?_,rv.append (.cons r8 .nil),?_,?_,k2,w8⟩
     ·have e:=Zms.mp hp;subst e;exact⟨q,pD.2.1,pD.2.2.1,pD.2.2.2.1,λv z=>nomatch z⟩
     ·rw[kM,List.length_singleton];omega
     ·exact T.keep _ _ _ k1 λb hb o e=>EA b o (λz=>TC (z▸hb)) e
  ·exact⟨0,[],H2,[],0,I0,.nil,zero_le _,T.keep _ _ _ CJ λb _ o e=>old b o e,λb hb=>(f2 b hb).1,w0⟩
 exact codeAny_compStart_list (loop _ rfl) (T.self _ 0 _ _ _ (T.keep _ _ _ CJ λb _ o e=>old b o e) (loop _ rfl))
def Op(hc:X.calm=true)(S:CompScope X scope N js)(go:yO js g)(hi:PI X tg iter wi)(hb:∀(C:UF)(s₂:TW)(H₂:Hp)(fp:List UF),PG (mL X scope C N s₂ H₂ fp) tg g/\Yk (mL X scope C N s₂ H₂ fp) ifs tt/\PE (mL X scope C N s₂ H₂ fp) elt te)(hs:∀x,foldedSetIterable iter X.env x=pure x:=by intro _;rfl):PE X (.ListComp elt [⟨tg,iter,ifs,0⟩] scope pos) (Sh wi js g tt te):=by
 intro pins s σ H Q I h;rw[eval_ListComp];refine wpAny_comprehension_free (use:=none) rfl hs (pJ λy hy hk=>I.ok.has y.1 (S.out y hy hk)) S.kind S.loc (bU (hi pins s σ H _ I h) λv s1 h1=>bU h1 λMW s2 h2=>?_);obtain⟨it,fp,tn,J,H2,e,I2,T,CJ,f2,hw⟩:=h2;subst e;refine pN (RR:=λacc C=>compPost (model X.prog X.w) X.A X.xe none (EP X pins σ Q) acc C) hc S go hb I2 T CJ f2 hw ?_;intro C D ys H3 s3 m hC hD zo I3 fC fD hn q;refine⟨m,hn,λh' PF=>?_⟩;refine⟨.ref D,aI H3 D (.lst ys),I3.turned (it:=C) (t':=s3.toks) (λb o hb e=>(PF.2 b hb).trans e) (by rw[aD (Ne.symm zo)];exact fC) ?_ (.inr (kN I2.sz hC)) ?_ ?_,rfl,q D fD⟩
 ·exact ne_of_gt (QZV I2.lt hC)
 ·intro x c e z;obtain⟨v,oc,q1,q2⟩:=I2.cell x c e;rw[z]at q1;exact QZZ (QZV (Heap.lt_size q1) hC) (lt_irrefl _)
 ·intro p hp z;have:=Heap.lt_size (I2.pin p hp).1;rw[z]at this;exact QZZ (QZV this hC) (lt_irrefl _)
def Oq{i:Nat}{y:Str}{py zp:Pos}(hN:X.N.Nodup)(hy:X.N[i]?=some y)(hx:Fu X.env.scope y)(hc:X.calm=true)(S:CompScope X scope N js)(go:yO js g)(hi:PI X tg iter wi)(hb:∀(C:UF)(s₂:TW)(H₂:Hp)(fp:List UF),PG (mL X scope C N s₂ H₂ fp) tg g/\Yk (mL X scope C N s₂ H₂ fp) ifs tt/\PE (mL X scope C N s₂ H₂ fp) elt te)(PH:swapsWith (.ListComp elt [⟨tg,iter,ifs,0⟩] scope pos) (some (.Name y py)) zp.line X.env=pure true)(hs:∀x,foldedSetIterable iter X.env x=pure x:=by intro _;rfl)(hf:X.fn y=true∨X.env.scope.names.lookup y=some .local:=by first|exact .inl rfl|exact .inr rfl|assumption) :
  PS X (.Assign [.Name y py] (.ListComp elt [⟨tg,iter,ifs,0⟩] scope pos) zp) (Si i wi js g tt te):=by
 intro pins s σ H D I h;rw[exec_Assign_Name_used _ _ _ _ PH];refine X7 (wpAny_standAt (X7 ?_));show wpAny _ X.A (do let _ ← comprehension (.ListComp elt [⟨tg,iter,ifs,0⟩] scope pos) scope X.env _ (newList []) false (eval iter X.env) (some (assign (.Name y py) X.env))) _ _ s;refine X7 (bU (wpAny_comprehension_free (use:=some (assign (.Name y py) X.env)) (Q:=λ_ s'=>SP X pins D .next s') rfl hs (pJ λy hy hk=>I.ok.has y.1 (S.out y hy hk)) S.kind S.loc
  (bU (hi pins s σ H _ I h) λv s1 h1=>bU h1 λMW s2 h2=>?_)) λ_ s' hq=>X6 (X6 hq))
 obtain⟨it,fp,tn,J,H2,e,I2,T,CJ,f2,hw⟩:=h2;subst e;refine pN (RR:=λacc C=>compPost (model X.prog X.w) X.A X.xe (some (assign (.Name y py) X.env)) (λ_ s'=>SP X pins D .next s') acc C) hc S go hb I2 T CJ f2 hw ?_;intro C Da ys H3 s3 m hC hD zo I3 fC fD hn q;have cne:∀x c,X.env.cells.lookup x=some c->c≠C:=λx c e z=>by
  obtain⟨v,oc,q1,q2⟩:=I2.cell x c e;rw[z]at q1;exact QZZ (QZV (Heap.lt_size q1) hC) (lt_irrefl _)
 have TJ:C≠X.env.locals:=ne_of_gt (QZV I2.lt hC);show wpAny _ X.A (assign (.Name y py) X.env (.ref Da)) _ _ _;refine wpAny_assign_Name (rQ (v:=.ref Da) I3 hN hy hx rfl (λs4 I4 ZF=>?_) hf);obtain⟨a,ZG,ha⟩:=ZF;have aC:C≠a:=by
  rcases ha with z|z
  ·rw[z];exact TJ
  ·exact Ne.symm (cne y a z)
 refine⟨m,hn.sameBut ZG aC,λh' PF=>?_⟩;refine⟨_,_,I4.turned (it:=C) (t':=s4.toks) (λb o hb e=>(PF.2 b hb).trans e) (by rw[aD (Ne.symm zo)];exact fC) TJ (.inr (kN I2.sz hC)) cne ?_,q Da fD⟩;intro p hp z;have:=Heap.lt_size (I2.pin p hp).1;rw[z]at this;exact QZZ (QZV this hC) (lt_irrefl _)
end
def Its(x:Str):It:=⟨λi _=>i<x.cps.size,λi H v H'=>H'=H/\∃c,x.cps[i]?=some c/\v=.str ⟨#[c]⟩,λi _=>x.cps.size<=i⟩
def yP{P:Program}{w:World}{K:W.Frag}{tg:Expr}(it:UF)(x:Str)(t:Tok):tH P w K tg (Its x) [it] it (λi h=>h.IsStrIter it "str_ascii_iterator" x t i) where
 mem:=by simp
 obj:=λi h st b hb=>by
  have e:b=it:=by simpa using hb
  subst e;obtain⟨o,e,c,d⟩:=st;exact⟨o,e,λv z=>by rw[d]at z;cases z⟩
 keep:=λi h h' st k=>let ⟨o,ho,r⟩:=st;⟨o,k it Zs o ho,r⟩
 item:=by
  intro X hP hw hK hc i pins s σ H E I hf st hg;subst hP hw hK;obtain⟨f0,f1,f2,f3,f4,f5⟩:=hf it Zs;have hi:i<x.cps.size:=hg;refine wpAny_pyNext_ascii_item st (c:=x.cps[i]) (by simp[hi]) λh' vn sb=>?_;have I1:Inv X pins σ H {s with heap:=h',toks:=s.toks+1 }:=I.turned (λb o hb e=>(sb.2 b hb).trans e) f0 f1 f3 f4 f5;obtain⟨o,e,c,d⟩:=id vn;exact⟨_,rfl,vV (s:={s with heap:=h',toks:=s.toks+1 }) e c d Zd ⟨.str ⟨#[x.cps[i]]⟩,H,I1,⟨_,rfl⟩,⟨rfl,_,by simp[hi],rfl⟩,vn,λb hb=>(hf b hb).1⟩⟩
 done:=by
  intro X hP hw hK hc i pins s σ H E I hf st hg;subst hP hw hK;obtain⟨f0,f1,f2,f3,f4,f5⟩:=hf it Zs;have hi:x.cps.size<=i:=hg;exact wpAny_pyNext_ascii_end (I.ok.hd hc) st (by simp[hi]) λh' eb=>⟨rfl,I.turned (t':=s.toks) (λb o hb e=>eb b o hb e) f0 f1 f3 f4 f5⟩
 self:=λ_ _ _ _ _ st h=>wpAny_pyIter_striter_ascii st h
def Dz{P:Program}{w:World}{K:W.Frag}{tg:Expr}(it:UF)(x:Str)(t:Tok):tH P w K tg (Its x) [it] it (λi h=>h.IsStrIter it "str_iterator" x t i) where
 mem:=by simp
 obj:=λi h st b hb=>by
  have e:b=it:=by simpa using hb
  subst e;obtain⟨o,e,c,d⟩:=st;exact⟨o,e,λv z=>by rw[d]at z;cases z⟩
 keep:=λi h h' st k=>let ⟨o,ho,r⟩:=st;⟨o,k it Zs o ho,r⟩
 item:=by
  intro X hP hw hK hc i pins s σ H E I hf st hg;subst hP hw hK;obtain⟨f0,f1,f2,f3,f4,f5⟩:=hf it Zs;have hi:i<x.cps.size:=hg;refine wpAny_pyNext_wide_item st (c:=x.cps[i]) (by simp[hi]) λh' vn sb=>?_;have I1:Inv X pins σ H {s with heap:=h',toks:=s.toks+1 }:=I.turned (λb o hb e=>(sb.2 b hb).trans e) f0 f1 f3 f4 f5;obtain⟨o,e,c,d⟩:=id vn;exact⟨_,rfl,vV (s:={s with heap:=h',toks:=s.toks+1 }) e c d Zd ⟨.str ⟨#[x.cps[i]]⟩,H,I1,⟨_,rfl⟩,⟨rfl,_,by simp[hi],rfl⟩,vn,λb hb=>(hf b hb).1⟩⟩
 done:=by
  intro X hP hw hK hc i pins s σ H E I hf st hg;subst hP hw hK;obtain⟨f0,f1,f2,f3,f4,f5⟩:=hf it Zs;have hi:x.cps.size<=i:=hg;exact wpAny_pyNext_wide_end (I.ok.hd hc) st (by simp[hi]) λh' eb=>⟨rfl,I.turned (t':=s.toks) (λb o hb e=>eb b o hb e) f0 f1 f3 f4 f5⟩
 self:=λ_ _ _ _ _ st h=>wpAny_pyIter_striter_wide st h
section
variable {X:Cx}{tg:Expr}
def aAa(tl:TE):TI:=λσ H R=>tl σ H λx H1=>∃z,x=.str z/\R (Its z) H1
def Vi{l:Expr}{tl:TE}(hl:PE X l tl):PI X tg l (aAa tl):=by
 intro pins s σ H R I h;refine bU (hl pins s σ H _ I h) λv s1 ⟨x,H1,I1,r1,q1⟩=>?_
 obtain⟨z,rfl,q⟩:=q1;obtain⟨t,rfl⟩:=r1;have fp:∀b∈[s1.heap.objs.size],mP X pins H1 b:=λb hb=>by
  have e:b=s1.heap.objs.size:=by simpa using hb
  subst e;exact I1.fpOk (bQ _) (I1.hok.fresh (bQ _))
 cases ha:z.cps.all (·<128)
 ·refine wpAny_pyIter_wide ha ?_;exact⟨s1.heap.objs.size,[s1.heap.objs.size],_,_,H1,rfl,I1.kept (t':=s1.toks) λb o e=>eP _ e,Dz _ z t,⟨_,UV _ rfl,rfl,rfl⟩,fp,q⟩
 ·refine wpAny_pyIter_ascii ha ?_;exact⟨s1.heap.objs.size,[s1.heap.objs.size],_,_,H1,rfl,I1.kept (t':=s1.toks) λb o e=>eP _ e,yP _ z t,⟨_,UV _ rfl,rfl,rfl⟩,fp,q⟩
end
abbrev tx(l:List Nat):Str:=⟨l.toArray⟩
def yQ(x:Str):tx x.cps.toList=x:=by cases x;simp
def fY(l:List Nat):(tx l).length=l.length:=by simp[Str.length]
def uA(a b:List Nat):tx a++tx b=tx (a++b):=by
 show Str.append (tx a) (tx b)=_;unfold Str.append;simp
def dO{α:Type}(xs:List α)(lo hi:Option Int):List α:=(xs.drop (HT.sIx xs.length 0 lo)).take (HT.sIx xs.length xs.length hi-HT.sIx xs.length 0 lo)
def lH{α:Type}(xs:List α)(lo hi:Option Int):(dO xs lo hi).length<=xs.length:=by
 unfold dO;rw[jD,length_drop];omega
def Ba(n d:Nat)(v:Option Int):(match v with|none=>(d:Int)|some i=>max 0 (min (if i<0 then i+(n:Int) else i) (n:Int)))=((HT.sIx n d v:Nat):Int):=by
 cases v with
 | none=>rfl
 | some i=>
  show max 0 (min (if i<0 then i+(n:Int) else i) (n:Int))=(((if i<0 then (i+(n:Int)).toNat else min i.toNat n):Nat):Int);by_cases h:i<0
  ·rw[TD h,TD h];omega
  ·rw[P7 h,P7 h];omega
def Id(lo hi:Option Int)(n:Nat):Builtin.Str.strSliceIndices lo hi 1 n=(List.range (HT.sIx n n hi-HT.sIx n 0 lo)).map (HT.sIx n 0 lo+·):=by
 rw[<- sliceRange_one,<- Ba n 0 lo,<- Ba n n hi];unfold Builtin.Str.strSliceIndices;simp only [show(1:Int)>0 by decide,if_true];cases lo<;>cases hi<;>rfl
def Os(n d:Nat)(hd:d<=n)(v:Option Int):HT.sIx n d v<=n:=by
 cases v with
 | none=>exact hd
 | some i=>
  show(if i<0 then (i+(n:Int)).toNat else min i.toNat n)<=n;split<;>omega
def Ea(x:Str)(lo hi:Option Int):(Txt.slice x lo hi).cps.toList=dO x.cps.toList lo hi:=by
 have hl:x.cps.toList.length=x.length:=by simp[Str.length]
 unfold Txt.slice dO;rw[hl,Id];have key:=pick_run x.cps (HT.sIx x.length 0 lo) (HT.sIx x.length x.length hi-HT.sIx x.length 0 lo);split
 ·rename_i h;have h2:(HT.sIx x.length x.length hi-HT.sIx x.length 0 lo)=x.length:=by simpa using h
  have h3:=Os x.length x.length (bQ _) hi;have h4:HT.sIx x.length 0 lo=0∨x.length=0:=by omega
  rw[h2];rcases h4 with h4|h4
  ·rw[h4,drop_zero,vQ (by rw[hl];exact bQ _)]
  ·have e:x.cps.toList=[]:=List.eq_nil_of_length_eq_zero (by rw[hl];exact h4);rw[e];simp
 ·simpa using key
def Ie(x:Str)(lo hi:Option Int):Txt.slice x lo hi=tx (dO x.cps.toList lo hi):=by
 rw[<- Ea,yQ]
section
variable {X:Cx}
def aBx:V->Option Int->Option Int->Hp->VK->Prop:=λx lo hi H Q=>∃z,x=.str z/\z.length<=sizeLine/\Q (.str (tx (dO z.cps.toList lo hi))) H
def yR{h:Heap}{sl:UF}{vl vu:T0}{lo hi:Option Int}(hs:h.IsSliceOf sl vl vu .none)(pl:IsPart vl lo)(pu:IsPart vu hi):∃l u:Option (Int×Tok),h.IsSlice sl l u none/\l.map (·.1)=lo/\u.map (·.1)=hi:=by
 cases pl with
 | none=>
  cases pu with
  | none=>exact⟨none,none,hs,rfl,rfl⟩
  | int j t=>exact⟨none,some (j,t),hs,rfl,rfl⟩
 | int i t=>
  cases pu with
  | none=>exact⟨some (i,t),none,hs,rfl,rfl⟩
  | int j u=>exact⟨some (i,t),some (j,u),hs,rfl,rfl⟩
def Vj:SlR X aBx:=by
 intro pins s σ H x v vl vu lo hi sl Q I rx hs pl pu h;obtain⟨z,rfl,hz,q⟩:=h;obtain⟨t,rfl⟩:=rx;obtain⟨l,u,hS,e1,e2⟩:=yR hs pl pu;refine⟨"str",_,F.slot_str_getitem.lookup,typeIs_str _ _ _,wpAny_getItem_str_slice hS rfl ?_⟩;have fin:∀t' k,EP X pins σ Q (.str (Txt.slice z lo hi) t') {s with toks:=k }:=λt' k=>⟨.str (tx (dO z.cps.toList lo hi)),H,I.tok _,⟨t',by rw[Ie]⟩,q⟩
 subst e1 e2;exact post_val_or_str ⟨kN (Txt.slice_le z _ _) hz,λt' k=>fin t' k⟩
def kX{ns:List Str}:∀ {us:List T0},Vals (ns.map V.str) us->StrsAre us ns:=by
 induction ns with
 | nil=>intro us r;rw[map_nil]at r;cases r;exact .nil
 | cons n ns ih=>
  intro us r;rw[map_cons]at r;cases r with
  | cons r1 r2=>
   obtain⟨t,e⟩:=r1;subst e;exact .cons n t (ih r2)
def Ig(K:W.Frag):V->List V->Hp->VK->Prop:=λx vs H Q=>∃sep p ys,x=.str sep/\vs=[.ref p]/\SqL K H p (ys.map V.str)/\(ys.map (·.length)).sum+ys.length*sep.length<=16777216/\Q (.str (Txt.join sep ys)) H
def Ot:Zr X "str.join" (Ig X.K):=by
 intro pins s σ H x vs v us Q I rx rv h;obtain⟨sep,p,ys,rfl,rfl,hq,hz,q⟩:=h;obtain⟨t,rfl⟩:=rx;obtain⟨u,rfl,ru⟩:=rv.one;cases ru;obtain⟨its,r,pl,_⟩:=I.list hq;exact join_list pl.isList (by simpa using kX r) hz λt' k=>⟨.str _,H,I.tok _,⟨_,rfl⟩,q⟩
def aBy(K:W.Frag):List V->Hp->VK->Prop:=λvs H Q=>∃x T t b,vs=[x,.ty T]/\lF K H x t/\W.kitOne K t (.type T)=some b/\Q (.bl b) H
def Ih:CallR X (.builtin "isinstance") (aBy X.K):=by
 intro pins s σ H xs us Q I r h;obtain⟨x,T,t,b,rfl,ty,e,q⟩:=h;obtain⟨u,c,rfl,ru,rc⟩:∃u c,us=[u,c]/\RelV x u/\RelV (.ty T) c:=by
  cases r with
  | cons p q=>
   cases q with
   | cons p' q'=>
    cases q';exact⟨_,_,rfl,p,p'⟩
 cases(show c=Value.type T from rc);exact Dn I ru ty e λtk=>⟨.bl b,H,I.tok _,rfl,q⟩
def wE{ns:List Bool}:∀ {us:List T0},Vals (ns.map V.bl) us->PyProof.Rows.LSm.BoolsAre us ns:=by
 induction ns with
 | nil=>intro us r;rw[map_nil]at r;cases r;exact .nil
 | cons n ns ih=>
  intro us r;rw[map_cons]at r;cases r with
  | cons r1 r2=>
   have e:=r1;cases(show _=Value.bool n from e);exact .cons n (ih r2)
def Vk(K:W.Frag):List V->Hp->VK->Prop:=λvs H Q=>∃(p:UF)(bs:List Bool),vs=[.ref p]/\SqL K H p (bs.map V.bl)/\Q (.bl (bs.all id)) H
def Vl(K:W.Frag):List V->Hp->VK->Prop:=λvs H Q=>∃(p:UF)(ns:List Int),vs=[.ref p]/\SqL K H p (ns.map V.int)/\Q (.int (List.sum ns)) H
def Ii(hc:X.calm=true):CallR X (.builtin "all") (Vk X.K):=by
 intro pins s σ H xs us Q I r h;obtain⟨p,bs,rfl,hq,q⟩:=h;obtain⟨u,rfl,ru⟩:=jE r;cases ru;obtain⟨its,rv,pl,hz⟩:=I.list hq;have hl:=pl.isList;have hb:=wE rv;have B5:p<s.heap.objs.size:=by obtain⟨_,e,_⟩:=hl;exact Heap.lt_size e
 refine call_all_walk (wpAny_pyIter_list hl ?_);refine⟨s.heap.objs.size,[s.heap.objs.size,p],[s.heap.objs.size],its.toArray.size,_,_,λi=>(bs[i]?).getD true,rfl,Walks.list (A:=X.A.in1) (I.ok.hd hc) _ p (ne_of_lt B5) its.toArray,
  ⟨⟨_,UV _ rfl,rfl,rfl⟩,hl.push _⟩,λi v s' Q' E' hP hQ=>?_,λh' tk hk=>?_⟩
 ·obtain⟨b,e,rfl⟩:=hb.get i v (by simpa using hP);simp only [e,Option.getD_some]at hQ;exact wpAny_truthy_bool hQ
 ·have e:((List.range its.toArray.size).all λi=>(bs[i]?).getD true)=bs.all id:=by
   rw[eB,hb.length];exact PyProof.Rows.LSm.range_all bs
  rw[e];exact⟨.bl _,H,I.kept (PyProof.Rows.LSm.kept_iter hk),rfl,q⟩
def Ij(hc:X.calm=true):CallR X (.builtin "sum") (Vl X.K):=by
 intro pins s σ H xs us Q I r h;obtain⟨p,ns,rfl,hq,q⟩:=h;obtain⟨u,rfl,ru⟩:=jE r;cases ru;obtain⟨its,rv,pl,hz⟩:=I.list hq;have hi:=pE rv;obtain⟨xs,hx⟩:=hi.allInts.items;have BS:s.heap.IsList p (intItems xs):=hx▸pl.isList;refine sum_intListG (I.ok.hd hc) BS λh' tk t' hk=>?_;have e1:ns=xs.toList.map (·.1):=by
  rw[<- nums_intItems,<- hx];exact(show numsOf its.toArray.toList=ns from hi.numsOf).symm
 have e2:preSum (numAt xs) xs.size=ns.sum:=by
  rw[preSum_eq,vQ Zs,e1]
 rw[e2];exact⟨.int _,H,I.kept hk,⟨_,rfl⟩,q⟩
end
section
variable {X:Cx}
def nC(K:W.Frag)(neg:Bool):R2:=λx y H Q=>∃(a b:UF)(xs:List V),x=.ref a/\y=.ref b/\SqL K H a xs/\SqL K H b []/\Q (.bl (if neg then !xs.isEmpty else xs.isEmpty)) H
def jX{us:List T0}(r:Vals [] us):us=[]:=by cases r;rfl
def Ik(hu:X.A.units<cLine):OpR X (compareOp .Eq) (nC X.K false):=by
 intro pins s σ H x y v u Q I rx ry h;obtain⟨a,b,xs,rfl,rfl,h1,h2,q⟩:=h;cases rx;cases ry;obtain⟨its,r1,p1,_⟩:=I.list h1;obtain⟨d8,r2,p2,_⟩:=I.list h2;have e2:=jX r2;subst e2;have hl:=r1.length
 cases xs with
 | nil=>
  have e1:=jX r1;subst e1;exact SeqAt.eq_listAt (e:=λ_=>true) p1.isList p2.isList rfl hu (λj h=>QZZ h Zs) ⟨.bl true,H,I,rfl,q⟩
 | cons z zs=>
  exact SeqAt.eq_list_lengthsAt p1.isList p2.isList (by simp only [eB,<- hl];simp) hu ⟨.bl false,H,I,rfl,q⟩
def Il(hu:X.A.units<cLine):OpR X (compareOp .NotEq) (nC X.K true):=by
 intro pins s σ H x y v u Q I rx ry h;obtain⟨a,b,xs,rfl,rfl,h1,h2,q⟩:=h;cases rx;cases ry;obtain⟨its,r1,p1,_⟩:=I.list h1;obtain⟨d8,r2,p2,_⟩:=I.list h2;have e2:=jX r2;subst e2;have hl:=r1.length
 cases xs with
 | nil=>
  have e1:=jX r1;subst e1;exact SeqAt.RcNeAt.lists (e:=λ_=>true) p1.isList p2.isList rfl hu (λj h=>QZZ h Zs) _ _ _ _ ⟨.bl false,H,I,rfl,q⟩
 | cons z zs=>
  exact SeqAt.RcNeAt.lists_lengths p1.isList p2.isList (by simp only [eB,<- hl];simp) hu _ _ _ _ ⟨.bl true,H,I,rfl,q⟩
end
def mB(x:V)(k:Bool->Prop):Prop:=match x with|.bl b=>k b|_=>False
def mI(x:V)(k:Int->Prop):Prop:=match x with|.int b=>k b|_=>False
def mS(x:V)(k:Str->Prop):Prop:=match x with|.str b=>k b|_=>False
def mR(x:V)(k:UF->Prop):Prop:=match x with|.ref b=>k b|_=>False
def sC(x:V)(k:Bool->Prop):mB x k=∃b,x=.bl b/\k b:=by
 cases x<;>simp[mB]
def lI(x:V)(k:Int->Prop):mI x k=∃b,x=.int b/\k b:=by
 cases x<;>simp[mI]
def pO(x:V)(k:Str->Prop):mS x k=∃b,x=.str b/\k b:=by
 cases x<;>simp[mS]
def dY(x:V)(k:UF->Prop):mR x k=∃b,x=.ref b/\k b:=by
 cases x<;>simp[mR]
def eK{n:Nat}(h:Nat.ble n 1000=true):n<=sizeLine:=kN (QZY h) Zd
def fA{n:Nat}(h:n<=1000):n<=sizeLine:=kN h Zd
section
variable {X:Cx}{a b c e:Expr}{ta tb tc te:TE}{pos:Pos}
def vr(i:Nat):TE:=λσ H Q=>match σ[i]? with|some (some v)=>Q v H|_=>False
def aAb(i:Nat):vr i=To i:=by
 funext σ H Q
 unfold vr To;apply propext
 cases σ[i]? with
 | none=>simp
 | some o=>cases o<;>simp
def xv(i:Nat){x:Str}{pos:Pos}(hN:X.N[i]?=some x:=by rfl)(hv:Ys X.env.scope x:=by first|exact Or.inl rfl|exact Or.inr (Or.inl rfl)|exact Or.inr (Or.inr rfl))(hd:(x==("__debug__":Str))=false:=by decide)(ue:(x==("__classdict__":Str))=false:=by decide):PE X (.Name x pos) (vr i):=by
 rw[aAb];exact Tp hN hv hd ue
def OpR.imp{f:T0->T0->Sem Value}{r r':R2}(h:OpR X f r)(hi:∀x y H Q,r' x y H Q->r x y H Q):OpR X f r':=λpins s σ H x y v u Q I rx ry q=>h pins s σ H x y v u Q I rx ry (hi x y H Q q)
def UnR.imp{f:T0->Sem Value}{r r':V->Hp->VK->Prop}(h:UnR X f r)(hi:∀x H Q,r' x H Q->r x H Q):UnR X f r':=λpins s σ H x v Q I rx q=>h pins s σ H x v Q I rx (hi x H Q q)
def CallR.imp{f:T0}{r r':List V->Hp->VK->Prop}(h:CallR X f r)(hi:∀xs H Q,r' xs H Q->r xs H Q):CallR X f r':=λpins s σ H xs us Q I rs q=>h pins s σ H xs us Q I rs (hi xs H Q q)
def IxR.imp{r r':R2}(h:IxR X r)(hi:∀x y H Q,r' x y H Q->r x y H Q):IxR X r':=λvalue slice pins s σ H x y v u Q I rx ry q=>h value slice pins s σ H x y v u Q I rx ry (hi x y H Q q)
def SlR.imp{r r':V->Option Int->Option Int->Hp->VK->Prop}(h:SlR X r)(hi:∀x l u H Q,r' x l u H Q->r x l u H Q):SlR X r':=λpins s σ H x v vl vu lo NC sl Q I rx hs pl pu q=>h pins s σ H x v vl vu lo NC sl Q I rx hs pl pu (hi x lo NC H Q q)
def m2(C:Int->Int->Prop)(g:Int->Int->V):R2:=λx y H Q=>mI x λi=>mI y λj=>C i j/\Q (g i j) H
def yS(g:Int->Int->V):R2:=λx y H Q=>mI x λi=>mI y λj=>Q (g i j) H
def jY{g:Int->Int->V}(x y:V)(H:Hp)(Q:VK)(h:yS g x y H Q):No g x y H Q:=by
 unfold yS at h;rw[lI]at h;obtain⟨i,rfl,h⟩:=h;rw[lI]at h;obtain⟨j,rfl,h⟩:=h;exact⟨i,j,rfl,rfl,h⟩
def uB{C:Int->Int->Prop}{g:Int->Int->V}(x y:V)(H:Hp)(Q:VK)(h:m2 C g x y H Q):rI C g x y H Q:=by
 unfold m2 at h;rw[lI]at h;obtain⟨i,rfl,h⟩:=h;rw[lI]at h;obtain⟨j,rfl,hc,h⟩:=h;exact⟨i,j,rfl,rfl,hc,h⟩
def aAc:OpR X (binaryOp .Add) (yS λi j=>.int (i+j)):=Um.imp jY
def aAd:OpR X (binaryOp .Sub) (yS λi j=>.int (i-j)):=Uo.imp jY
def aAe:OpR X (binaryOp .Mult) (m2 CMul λi j=>.int (i*j)):=Up.imp uB
def aAf:OpR X (binaryOp .Mod) (m2 (λ_ j=>0<j) λi j=>.int (i%j)):=Uq.imp uB
def aAg:OpR X (binaryOp .Pow) (m2 Ul λi j=>.int (i^j.toNat)):=Ur.imp uB
def aBz:OpR X (compareOp .Lt) (yS λi j=>.bl (decide (i<j))):=Rz.imp jY
def aBA:OpR X (compareOp .LtE) (yS λi j=>.bl (decide (i<=j))):=Zh.imp jY
def aBB:OpR X (compareOp .Gt) (yS λi j=>.bl (decide (j<i))):=Zi.imp jY
def aBC:OpR X (compareOp .GtE) (yS λi j=>.bl (decide (j<=i))):=Sb.imp jY
def Im:R2:=λx y H Q=>mS x λi=>mS y λj=>i.length+j.length<=sizeLine/\Q (.str (i++j)) H
def Vm:OpR X (binaryOp .Add) Im:=yD.imp λx y H Q h=>by
 unfold Im at h;rw[pO]at h;obtain⟨i,rfl,h⟩:=h;rw[pO]at h;obtain⟨j,rfl,hc,h⟩:=h;exact⟨i,j,rfl,rfl,hc,h⟩
def mEq:R2:=λx y H Q=>match x,y with
 | .int i,.int j=>Q (.bl (decide (i=j))) H
 | .str i,.str j=>Q (.bl (decide (i=j))) H
 | .bl i,.bl j=>Q (.bl (decide (i=j))) H
 | .non,.non=>Q (.bl true) H
 | .int _,.non=>Q (.bl false) H|.non,.int _=>Q (.bl false) H
 | .str _,.non=>Q (.bl false) H|.non,.str _=>Q (.bl false) H
 | .bl _,.non=>Q (.bl false) H|.non,.bl _=>Q (.bl false) H
 | .int _,.str _=>Q (.bl false) H|.str _,.int _=>Q (.bl false) H
 | .bl _,.str _=>Q (.bl false) H|.str _,.bl _=>Q (.bl false) H
 | _,_=>False
def mNe:R2:=λx y H Q=>match x,y with
 | .int i,.int j=>Q (.bl (!decide (i=j))) H
 | .str i,.str j=>Q (.bl (!decide (i=j))) H
 | .bl i,.bl j=>Q (.bl (!decide (i=j))) H
 | .non,.non=>Q (.bl false) H
 | .int _,.non=>Q (.bl true) H|.non,.int _=>Q (.bl true) H
 | .str _,.non=>Q (.bl true) H|.non,.str _=>Q (.bl true) H
 | .bl _,.non=>Q (.bl true) H|.non,.bl _=>Q (.bl true) H
 | .int _,.str _=>Q (.bl true) H|.str _,.int _=>Q (.bl true) H
 | .bl _,.str _=>Q (.bl true) H|.str _,.bl _=>Q (.bl true) H
 | _,_=>False
def aBE:OpR X (compareOp .Eq) mEq:=Rx.imp λx y H Q h=>by
 unfold rEq;cases x<;>cases y<;>first|exact h.elim|exact⟨rfl,h⟩|(refine⟨rfl,?_⟩;have h:Q (.bl _) H:=h;simpa using h)
def aBF:OpR X (compareOp .NotEq) mNe:=Ry.imp λx y H Q h=>by
 unfold rNe;cases x<;>cases y<;>first|exact h.elim|exact⟨rfl,h⟩|(refine⟨rfl,?_⟩;have h:Q (.bl _) H:=h;simpa using h)
def Vn(neg:Bool):R2:=λx y H Q=>mS x λi=>mS y λj=>∃c,i=tx [c]/\Q (.bl (if neg then !decide (c∈j.cps.toList) else decide (c∈j.cps.toList))) H
def aAh:OpR X (compareOp .In) (Vn false):=Dh.imp λx y H Q h=>by
 unfold Vn at h;rw[pO]at h;obtain⟨i,rfl,h⟩:=h;rw[pO]at h;obtain⟨j,rfl,c,rfl,h⟩:=h;refine⟨_,j,rfl,rfl,?_⟩;have e:=StrLaws.found_one j c;have e':(!(Builtin.Str.occurrences j (tx [c]) 0 j.length 1).isEmpty)=decide (c∈j.cps.toList):=e;rw[e'];exact h
def aAi:OpR X (compareOp .Is) (λx y H Q=>match y with|.non=>Q (.bl (decide (x=.non))) H|_=>False):=Ut.imp λx y H Q h=>by
 cases y<;>first|exact⟨rfl,h⟩|exact h.elim
def Vo:OpR X (compareOp .IsNot) (λx y H Q=>match y with|.non=>Q (.bl (!decide (x=.non))) H|_=>False):=Nq.imp λx y H Q h=>by
 cases y<;>first|exact⟨rfl,h⟩|exact h.elim
def mT(t:TE):TT:=λσ H Q=>t σ H λx H'=>mB x λk=>Q k H'
def Sj(t:TE):mT t=Ak t:=by
 funext σ H Q
 unfold mT Ak;congr 1
 funext x H'
 exact sC x _
def Vp(t:TE):mT t=tB t:=by
 funext σ H Q
 unfold mT tB;congr 1
 funext x H'
 exact sC x _
def aAj{op:CmpOp}{r:R2}(ho:OpR X (compareOp op) r)(ha:PE X a ta)(hb:PE X b tb)(hm:behindInMarks op b=false:=by first|exact tJ _|rfl):PT X (.Compare a [op] [b] pos) (mT (Gj r ta tb)):=by
 rw[Sj];exact Nt ho ha hb hm
def aAk{op:CmpOp}{r:R2}(ho:OpR X (compareOp op) r)(ha:PE X a ta)(hb:PE X b tb)(hm:behindInMarks op b=false:=by first|exact tJ _|rfl):PE X (.Compare a [op] [b] pos) (Gj r ta tb):=Nr ho ha hb hm
def nD(r r':R2)(ta tb tc:TE):TE:=λσ H Q=>ta σ H λx H1=>tb σ H1 λy H2=>r x y H2 λz H3=>mB z λk=>(if k=true then tc σ H3 λw' H4=>r' y w' H4 Q else Q (.bl false) H3)
def sD(r r':R2)(ta tb tc:TE):nD r r' ta tb tc=tK r r' ta tb tc:=by
 funext σ H Q
 unfold nD tK;congr 1
 funext x H1
 congr 1
 funext y H2
 congr 1
 funext z H3
 exact sC z _
def Ou{op Y6:CmpOp}{r r':R2}(ho:OpR X (compareOp op) r)(Q5:OpR X (compareOp Y6) r')(ha:PE X a ta)(hb:PE X b tb)(hc:PE X c tc)(hm:lastMarks [op,Y6] [b,c]=false:=by with_unfolding_all rfl):PE X (.Compare a [op,Y6] [b,c] pos) (nD r r' ta tb tc):=by
 rw[sD];exact Gm ho Q5 ha hb hc hm
def Ov{op Y6:CmpOp}{r r':R2}(ho:OpR X (compareOp op) r)(Q5:OpR X (compareOp Y6) r')(ha:PE X a ta)(hb:PE X b tb)(hc:PE X c tc)(hm:lastMarks [op,Y6] [b,c]=false:=by with_unfolding_all rfl):PT X (.Compare a [op,Y6] [b,c] pos) (mT (nD r r' ta tb tc)):=by
 rw[Sj,sD];exact Gn ho Q5 ha hb hc hm
def aAl{t:TE}(h:PE X e t)(he:∀whole,isTrue e X.env whole=(do let v←whole;standAt e.pos;holding [v] (truthy v)):=by intro _;rfl):PT X e (mT t):=by
 rw[Vp];exact Tt h he
def Bb(ta tb:TE):TE:=λσ H Q=>ta σ H λx H1=>mB x λc=>if c=true then tb σ H1 Q else Q (.bl false) H1
def Ow(ta tb:TE):TE:=λσ H Q=>ta σ H λx H1=>mB x λc=>if c=true then Q (.bl true) H1 else tb σ H1 Q
def Bc(ta:TE):TE:=λσ H Q=>ta σ H λx H1=>mB x λc=>Q (.bl (!c)) H1
def aAm{rest:List Expr}(ha:PE X a ta)(hb:PE X (.BoolOp .And (b::rest) pos) tb):PE X (.BoolOp .And (a::b::rest) pos) (Bb ta tb):=by
 have:Bb ta tb=Fy ta tb:=by
  funext σ H Q;unfold Bb Fy;congr 1;funext x H1;exact sC x _
 rw[this];exact Tz ha hb
def aBG{rest:List Expr}(ha:PE X a ta)(hb:PE X (.BoolOp .Or (b::rest) pos) tb):PE X (.BoolOp .Or (a::b::rest) pos) (Ow ta tb):=by
 have:Ow ta tb=Tx ta tb:=by
  funext σ H Q;unfold Ow Tx;congr 1;funext x H1;exact sC x _
 rw[this];exact Yw ha hb
def aAn(ha:PE X a ta):PE X (.UnaryOp .Not a pos) (Bc ta):=by
 have:Bc ta=Fz ta:=by
  funext σ H Q;unfold Bc Fz;congr 1;funext x H1;exact sC x _
 rw[this];exact Ua ha
def aAo(ha:PE X a ta):PE X (.UnaryOp .USub a pos) (tUn (λx H Q=>mI x λi=>Q (.int (-i)) H) ta):=Ze (Us.imp λx H Q h=>by
 rw[lI]at h;obtain⟨i,rfl,h⟩:=h;exact⟨i,rfl,h⟩) ha
def Ox(K:W.Frag):R2:=λx y H Q=>mR x λp=>mI y λi=>∃xs,SqL K H p xs/\∃v,mW xs i=some v/\Q v H
def Oy(K:W.Frag):R2:=λx y H Q=>mR x λp=>mI y λi=>∃xs,SqT K H p xs/\∃v,mW xs i=some v/\Q v H
def Vq:R2:=λx y H Q=>mS x λz=>mI y λi=>z.length<=sizeLine/\∃c,mW z.cps.toList i=some c/\Q (.str (tx [c])) H
def Vr:IxR X (Ox X.K):=Oc.imp λx y H Q h=>by
 unfold Ox at h;rw[dY]at h;obtain⟨p,rfl,h⟩:=h;rw[lI]at h;obtain⟨i,rfl,xs,hq,v,hv,h⟩:=h;exact⟨p,xs,i,v,rfl,rfl,hq,hv,h⟩
def aAp:IxR X (Oy X.K):=Va.imp λx y H Q h=>by
 unfold Oy at h;rw[dY]at h;obtain⟨p,rfl,h⟩:=h;rw[lI]at h;obtain⟨i,rfl,xs,hq,v,hv,h⟩:=h;exact⟨p,xs,i,v,rfl,rfl,hq,hv,h⟩
def aAq:IxR X Vq:=Vb.imp λx y H Q h=>by
 unfold Vq at h;rw[pO]at h;obtain⟨z,rfl,h⟩:=h;rw[lI]at h;obtain⟨i,rfl,hz,c,hc,h⟩:=h;exact⟨z,i,c,rfl,rfl,hz,hc,h⟩
def aBH{r:R2}(hr:IxR X r)(ha:PE X a ta)(hb:PE X b tb)(hs:tO b:=by exact λ_ _=>rfl):PE X (.Subscript a b pos) (Gj r ta tb):=Zt hr ha hb hs
def Bd(t:TE):TO:=λσ H Q=>t σ H λx H1=>mI x λi=>Q (some i) H1
def Vs(h:PE X e te):PO X (some e) (Bd te):=by
 have:Bd te=Gw te:=by
  funext σ H Q;unfold Bd Gw;congr 1;funext x H1;exact lI x _
 rw[this];exact Oa h
def Vt:V->Option Int->Option Int->Hp->VK->Prop:=λx lo hi H Q=>mS x λz=>z.length<=sizeLine/\Q (.str (tx (dO z.cps.toList lo hi))) H
def aAr:SlR X Vt:=Vj.imp λx l u H Q h=>by
 unfold Vt at h;rw[pO]at h;obtain⟨z,rfl,hz,h⟩:=h;exact⟨z,rfl,hz,h⟩
def Oz(K:W.Frag):V->Option Int->Option Int->Hp->VK->Prop:=λx lo hi H Q=>mR x λa=>∃xs,SqL K H a xs/\∀p,H p=none->Q (.ref p) (aI H p (.lst (dO xs lo hi)))
def Vu:SlR X (Oz X.K):=Od.imp λx l u H Q h=>by
 unfold Oz at h;rw[dY]at h;obtain⟨a,rfl,xs,hq,h⟩:=h;exact⟨a,xs,rfl,hq,h⟩
def Vv:CallR X (.builtin "len") (λvs H Q=>match vs with|[.str z]=>z.length<=sizeLine/\Q (.int z.length) H|_=>False):=tV.imp λvs H Q h=>by
 split at h
 ·rename_i z;exact⟨z,rfl,h.1,h.2⟩
 ·exact h.elim
def Vw:CallR X (.builtin "len") (λvs H Q=>match vs with|[.ref p]=>∃ys,(SqL X.K H p ys∨SqT X.K H p ys)/\Q (.int ys.length) H|_=>False):=tT.imp λvs H Q h=>by
 split at h
 ·rename_i p;obtain⟨ys,hq,h⟩:=h;exact⟨p,ys,rfl,hq,h⟩
 ·exact h.elim
def aAs:CallR X (.type "int") (λvs H Q=>match vs with|[.bl k]=>Q (.int (if k then 1 else 0)) H|_=>False):=Dm.imp λvs H Q h=>by
 split at h
 ·rename_i k;exact .inr ⟨k,rfl,h⟩
 ·exact h.elim
end
inductive Kd where|non|bl|int|str|lst|tup|dct
def Pa:Kd->String|.non=>"NoneType"|.bl=>"bool"|.int=>"int"|.str=>"str"|.lst=>"list"|.tup=>"tuple"|.dct=>"dict"
def Sk(H:Hp):V->Kd->Prop
 | .non,.non=>True|.bl _,.bl=>True|.int _,.int=>True|.str _,.str=>True
 | .ref a,.lst=>(∃xs,H a=some (.lst xs))∨∃o xs,H a=some (.frz o (.lst xs))
 | .ref a,.tup=>∃xs,H a=some (.tup xs)
 | .ref a,.dct=>∃kvs,H a=some (.dK kvs)
 | _,_=>False
def isK:Kd->Kd->Bool|.non,.non=>true|.bl,.bl=>true|.int,.int=>true|.int,.bl=>true|.str,.str=>true|.lst,.lst=>true|.tup,.tup=>true|.dct,.dct=>true|_,_=>false
def aAu(K:W.Frag)(want k:Kd):W.kitOne K (.type (Pa k)) (.type (Pa want))=some (isK want k):=by
 cases want<;>cases k<;>first|rfl|kernel_rfl
def aBI{K:W.Frag}{H:Hp}{x:V}{k:Kd}(h:Sk H x k):lF K H x (.type (Pa k)):=by
  cases x<;>cases k<;>first
    | exact h.elim
    | exact .non
    | exact .bl _
    | exact .int _
    | exact .str _
    | (obtain⟨xs,e⟩:=h;exact .tup e)
    | (obtain⟨xs,e⟩:=h;exact .dK e)
    | (rcases h with⟨xs,e⟩ | ⟨o,xs,e⟩
       . exact .lst e
       . exact .frz e)
def Vx(want:Kd):List V->Hp->VK->Prop:=λvs H Q=>match vs with
 | [x,y]=>y=.ty (Pa want)/\∃k,Sk H x k/\Q (.bl (isK want k)) H
 | _=>False
section
variable {X:Cx}
def aAv(want:Kd):CallR X (.builtin "isinstance") (Vx want):=Ih.imp λvs H Q h=>by
 unfold Vx at h;split at h
 ·rename_i x y;obtain⟨rfl,k,hk,h⟩:=h;exact⟨x,_,_,_,rfl,aBI hk,aAu X.K want k,h⟩
 ·exact h.elim
variable {e:Expr}{te:TE}{p p2 pos:Pos}{T:Str}
def Vy(want:Kd)(te:TE):TE:=λσ H Q=>te σ H λx H1=>∃k,Sk H1 x k/\Q (.bl (isK want k)) H1
def aAw(want:Kd)(he:PE X e te)(hg:Gl X "isinstance")(hm:X.mg "isinstance"=none)(JU:Gl X T)(JV:X.mg T=none)(hT:bootBuiltins T=some (.type (Pa want)))(hs:starEach [e,.Name T p2] X.env=(false,eval e X.env)::starEach [.Name T p2] X.env:=by rfl)(ET:starEach [.Name T p2] X.env=(false,eval (.Name T p2) X.env)::starEach [] X.env:=by rfl)(hn:T≠"__name__":=by decide)(hd:(T==("__debug__":Str))=false:=by decide)(uf:(backTo pos (starEach [.Name T p2] X.env)).any (·.1)=false:=by rfl) :
  PE X (.Call (.Name "isinstance" p) [e,.Name T p2] [] pos) (Vy want te):=by
 have h:=vY (X:=X) (x:="isinstance") (p:=p) (pos:=pos) (aAv want) hg hm PyProof.Rows.boot_isinstance (tM he (tM (Af (v:=.ty (Pa want)) (pos:=p2) JU JV hT rfl hn hd) tL ET) hs) Zd Zd hs uf;intro pins s σ H Q I q;exact h pins s σ H Q I (by
  show te σ H _;have:(λ(x:V) (H1:Hp)=>Vx want [x,.ty (Pa want)] H1 Q)=(λx H1=>∃k,Sk H1 x k/\Q (.bl (isK want k)) H1):=by
   funext x H1
   apply propext;constructor
   ·rintro⟨_,z⟩;exact z
   ·intro z;exact⟨rfl,z⟩
  exact this ▸ q)
end
structure aG(P:Program)(w:World)(K:W.Frag)(mg:X8)(base:Heap)(n:Nat)(x:Str)(ps:List Str)(sp:Sp):Prop where
 ex:∃(f:UF)(fd:FuncData),iE P w K mg base qW n f fd ps sp/\mg x=some (.ref f)/\W.keepIn K (.ref f)=true/\Binds K fd ps []
section
variable {X:Cx}{n:Nat}{x:Str}{ps:List Str}{sp:Sp}{p pos:Pos}{e:Expr}{es:List Expr}{t:TA}
def tFn(sp:Sp)(t:TA):TE:=λσ H Q=>t σ H λvs H1=>sp vs H1 Q E0
def aBK(c:aG X.prog X.w X.K X.mg X.base n x ps sp)(hr:Room n X.A)(hg:Gl X x)(ha:PA X (e::es) t)(E2:(x==("__debug__":Str))=false:=by decide)(he:starEach (e::es) X.env=(false,eval e X.env)::starEach es X.env:=by rfl)(uf:(backTo pos (starEach es X.env)).any (·.1)=false:=by rfl):PE X (.Call (.Name x p) (e::es) [] pos) (tFn sp t):=by
 obtain⟨f,fd,F,hm,hk,hb⟩:=c.ex;have h:=Nw (X:=X) (p:=p) (pos:=pos) (E:=E0) F hr hg hm hk hb (dvs:=[]) .nil Av ha E2 he uf;intro pins s σ H Q I q;exact h pins s σ H Q I (by
  show t σ H _;have:(λ(vs:List V) (H1:Hp)=>sp (vs++[]) H1 Q E0)=(λvs H1=>sp vs H1 Q E0):=by
   funext vs H1;rw[append_nil]
  rw[this];exact q)
end
structure DefAt(K:W.Frag)(mg:X8)(x:Str)(st:Stmt)(ps:List Str):Prop where
 ex:∃(f:UF)(fd:FuncData),Fun K x x st f fd/\mg x=some (.ref f)/\Binds K fd ps []
def DefAt.ok{P:Program}{w:World}{K:W.Frag}{mg:X8}{base:Heap}{x:Str}{st:Stmt}{N ps:List Str}{k:Nat}{sp:Sp}(D:DefAt K mg x st ps)(S:aJ N ps (aB st))(len:∀vs H Q E,sp vs H Q E->vs.length=ps.length)(n8:∀(f:UF)(cdv:T0)(A:Around)(outer:List Env)(s:TW)(H:Hp)(vs:List V)(Q:VK)(E:XK),Room k (A.deeper (envOfC x (aB st) s.heap.objs.size f cdv))->sp vs H Q E →
   ∃t,PSs (fL qW P w K mg base N x (aB st) f cdv A outer s H E).nox (aV st) t/\t {nx:=λ_ H'=>Q .non H',rt:=Q } (start N vs) H):aG P w K mg base (k+1) x ps sp:=by
 obtain⟨f,fd,F,hm,hb⟩:=D.ex;exact⟨f,fd,F.ok S len (n8 f),hm,F.kp,hb⟩
def Io(EB:Scope)(N0:List Str)(scope:Scope)(N:List Str)(js:List (Option Nat)):Bool:=
 (scope.kind == .function)&&scope.names.all (λy=>y.2 != .cell)&&scope.names.all (λy=>y.2 != .local||scope.names.lookup y.1==some .local)&&(js.length==N.length)&&
 (List.range js.length).all (λi=>match js[i]? with|some (some j)=>(match N[i]? with|some x=>N0[j]? == some x&&scope.names.lookup x==some .free|none=>false)|_=>true)&&
 scope.names.all (λy=>y.2 != .free||EB.names.lookup y.1==some .cell||EB.names.lookup y.1==some .free)
def CompScope.by{X:Cx}{scope:Scope}{N:List Str}{js:List (Option Nat)}(EB:Scope)(N0:List Str)(h0:X.env.scope=EB)(hN:X.N=N0)(ok:Io EB N0 scope N js=true):CompScope X scope N js:=by
 unfold Io at ok;simp only [Bool.and_eq_true]at ok;obtain⟨⟨⟨⟨⟨h1,h2⟩,h3⟩,h4⟩,h5⟩,h6⟩:=ok;refine⟨by simpa using h1,λy hy=>?_,λy hy hk=>?_,by simpa using h4,λi j e=>?_,λy hy hk=>?_⟩
 ·have:=all_eq_true.mp h2 y hy;simpa using this
 ·have:=all_eq_true.mp h3 y hy;rw[hk]at this;simpa using this
 ·have hi:i<js.length:=(Zgs.mp e).1;have:=all_eq_true.mp h5 i (mem_range.mpr hi);rw[e]at this;cases q:N[i]? with
  | none=>simp[q]at this
  | some x=>
   simp only [q,Bool.and_eq_true,beq_iff_eq]at this;exact⟨x,rfl,by rw[hN];exact this.1,this.2⟩
 ·have:=all_eq_true.mp h6 y hy;rw[hk]at this;have z:(EB.names.lookup y.1==some .cell)=true∨(EB.names.lookup y.1==some .free)=true:=by simpa using this
  have ek:X.env.kindOf y.1=EB.names.lookup y.1:=by rw[<- h0];rfl
  rw[ek];rcases z with z|z
  ·exact .inl (by simpa using z)
  ·exact .inr (by simpa using z)
def aM:Expr->Bool|.Starred _ _=>false|_=>true
def bB{e:Expr}{es:List Expr}{env:Env}(h:aM e=true):starEach (e::es) env=(false,eval e env)::starEach es env:=by
 cases e<;>first|rfl|cases h
def fB{es:List Expr}{env:Env}{pos:Pos}(h:es.all aM=true):(backTo pos (starEach es env)).any (·.1)=false:=by
 induction es with
 | nil=>rfl
 | cons e es ih=>
  rw[all_cons,Bool.and_eq_true]at h;rw[bB h.1];have:=ih h.2;show(false||(backTo pos (starEach es env)).any (·.1))=false;rw[this];rfl
section
variable {X:Cx}{e o:Expr}{es:List Expr}{te to:TE}{t:TA}{x:Str}{p pos apos cpos:Pos}{id T:String}{r:List V->Hp->VK->Prop}
def uC(ha:PE X e te)(hr:PA X es t)(h:aM e=true:=by rfl):PA X (e::es) (nX te t):=tM ha hr (bB h)
def Pb(hc:CallR X (.builtin id) r)(hg:Gl X x)(hm:X.mg x=none)(hv:bootBuiltins x=some (.builtin id))(ha:PA X (e::es) t)(hn:x≠"__name__":=by decide)(E2:(x==("__debug__":Str))=false:=by decide)(h1:aM e=true:=by rfl)(h2:es.all aM=true:=by rfl):PE X (.Call (.Name x p) (e::es) [] pos) (Yi r t):=vY hc hg hm hv ha hn E2 (bB h1) (fB h2)
def Ip(hc:CallR X (.type T) r)(hg:Gl X x)(hm:X.mg x=none)(hv:bootBuiltins x=some (.type T))(ha:PA X (e::es) t)(hn:x≠"__name__":=by decide)(E2:(x==("__debug__":Str))=false:=by decide)(h1:aM e=true:=by rfl)(h2:es.all aM=true:=by rfl):PE X (.Call (.Name x p) (e::es) [] pos) (Yi r t):=Dq hc hg hm hv ha hn E2 (bB h1) (fB h2)
def aAx{n:Nat}{ps:List Str}{sp:Sp}(c:aG X.prog X.w X.K X.mg X.base n x ps sp)(hr:Room n X.A)(hg:Gl X x)(ha:PA X (e::es) t)(E2:(x==("__debug__":Str))=false:=by decide)(h1:aM e=true:=by rfl)(h2:es.all aM=true:=by rfl):PE X (.Call (.Name x p) (e::es) [] pos) (tFn sp t):=aBK c hr hg ha E2 (bB h1) (fB h2)
def Iq{es:List Expr}{env:Env}{cpos:Pos}(h:es.all aM=true):(backTo cpos (starEach es env)).all (λx=>!x.1)=true:=by
 induction es with
 | nil=>rfl
 | cons e es ih=>
  rw[all_cons,Bool.and_eq_true]at h;rw[bB h.1];show(!false&&(backTo cpos (starEach es env)).all (λx=>!x.1))=true;rw[ih h.2];rfl
def aBL{name:Str}{r:V->List V->Hp->VK->Prop}(pa:PlainAttrs T)(slot:Slot T name id)(EX:typeOf (.builtin id)=pure (.type "method_descriptor"))(hm:Zr X id r)(ho:PE X o to)(ha:PA X (e::es) t)(Y7:attributeBase o name X.env (eval o X.env)=eval o X.env:=by rfl)(Y8:(apos.endLine==cpos.line)=true:=by rfl)(h1:aM e=true:=by rfl)(h2:es.all aM=true:=by rfl)(hn:es.length+1<30:=by decide) :
  PE X (.Call (.Attribute o name apos) (e::es) [] cpos) (tBM X.K T r to t):=by
 refine Zu pa slot EX hm ho ha Y7 ?_ Y8 (bB h1) (fB h2);rw[Iq (by rw[all_cons,h1,h2];rfl)];show(true&&true&&decide (es.length+1+0+0<30))=true;simp;omega
def Vz{p2:Pos}{T:Str}(want:Kd)(he:PE X e te)(hg:Gl X "isinstance")(hm:X.mg "isinstance"=none)(JU:Gl X T)(JV:X.mg T=none)(hT:bootBuiltins T=some (.type (Pa want)))(hn:T≠"__name__":=by decide)(hd:(T==("__debug__":Str))=false:=by decide)(h1:aM e=true:=by rfl):PE X (.Call (.Name "isinstance" p) [e,.Name T p2] [] pos) (Vy want te):=
 aAw want he hg hm JU JV hT (bB h1) (bB rfl) hn hd (fB rfl)
end
def aO:bootBuiltins "len"=some (.builtin "len"):=by decide +kernel
def eV:bootBuiltins "isinstance"=some (.builtin "isinstance"):=by decide +kernel
def Ir:bootBuiltins "all"=some (.builtin "all"):=by decide +kernel
def Wa:bootBuiltins "sum"=some (.builtin "sum"):=by decide +kernel
def Eb:bootBuiltins "sorted"=some (.builtin "sorted"):=by decide +kernel
def pP:bootBuiltins "max"=some (.builtin "max"):=by decide +kernel
def Be:bootBuiltins "list"=some (.type "list"):=by decide +kernel
def Iu:bootBuiltins "str"=some (.type "str"):=by decide +kernel
def uD:bootBuiltins "int"=some (.type "int"):=by decide +kernel
def uE:bootBuiltins "bool"=some (.type "bool"):=by decide +kernel
def wF:bootBuiltins "tuple"=some (.type "tuple"):=by decide +kernel
def Pd:bootBuiltins "dict"=some (.type "dict"):=by decide +kernel
structure Dk(H:Hp)(d b:UF):Prop where
 ex:∃(ns:List Int)(s k:Int),H d=some (.lst [.ref b,.int s,.int k])/\H b=some (.lst (ns.map V.int))/\ns.length<=63
def Kp(d b:UF)(H H':Hp):Prop:=∀c o,H c=some o->c≠d->c≠b->H' c=some o
def Kp.refl{d b:UF}{H:Hp}:Kp d b H H:=λ_ _ e _ _=>e
def Kp.trans{d b:UF}{H H1 H2:Hp}(x:Kp d b H H1)(y:Kp d b H1 H2):Kp d b H H2:=λc o e h1 h2=>y c o (x c o e h1 h2) h1 h2
def Kp.new{d b p:UF}{H:Hp}{o:HO}(h:H p=none):Kp d b H (aI H p o):=λc u e _ _=>by rw[aD (aE e h)];exact e
def Dk.new{d b p:UF}{H:Hp}{o:HO}(x:Dk H d b)(h:H p=none):Dk (aI H p o) d b:=by
 obtain⟨ns,s,k,h1,h2,h3⟩:=x.ex;exact⟨ns,s,k,by rw[aD (aE h1 h)];exact h1,by rw[aD (aE h2 h)];exact h2,h3⟩
def Iv(K:W.Frag):Sp:=λvs H Q _=>∃(a:UF)(ns:List Int),vs=[.ref a]/\SqL K H a (ns.map V.int)/\∀d b H',H d=none->H b=none->Dk H' d b->Same H H'->Q (.ref d) H'
end L2
namespace L2
def Wb{c:Bool}{A B:Prop}(h:c=true)(k:A):if c=true then A else B:=by rw[TD h];exact k
def Wc{c:Bool}{A B:Prop}(h:c=false)(k:B):if c=true then A else B:=by rw[P7 (by rw[h];exact XV)];exact k
def aQ{c:Bool}{A B:Prop}(ht:c=true->A)(hf:c=false->B):if c=true then A else B:=by
 cases h:c with
 | true=>rw[TD rfl];exact ht h
 | false=>rw[P7 XV];exact hf h
open PySem PySem.Spec PyProof.Rows
structure yT(J:It)(xs:List V)(A:Hp->Prop):Prop where
 go:∀i H,i<xs.length->A H->J.go i H
 yld:∀i H x H',i<xs.length->A H->J.yld i H x H'->H'=H/\xs[i]?=some x
 stop:∀H,A H->J.stop xs.length H
def sE(x:Str):List V:=x.cps.toList.map λc=>V.str (tx [c])
def Pe(x:Str):yT (Its x) (sE x) (λ_=>True):=by
 have hl:(sE x).length=x.cps.size:=by simp[sE]
 refine⟨λi H hi _=>by rw[hl]at hi;exact hi,λi H v H' _ _ ⟨e,c,hc,ev⟩=>⟨e,?_⟩,λH _=>by rw[hl];exact bQ _⟩;subst ev;unfold sE;rw[jC,Array.getElem?_toList,hc];rfl
def jM(lo:Int)(n:Nat):List V:=(List.range n).map λ(i:Nat)=>V.int (lo+(i:Int))
def dZ(lo:Int)(n:Nat):yT (Itr lo n) (jM lo n) (λ_=>True):=by
 have hl:(jM lo n).length=n:=by simp[jM]
 refine⟨λi H hi _=>by rw[hl]at hi;exact hi,λi H v H' hi _ ⟨e,ev⟩=>⟨e,?_⟩,λH _=>by rw[hl];exact bQ _⟩;subst ev;rw[hl]at hi;unfold jM;rw[jC,List.getElem?_range hi];rfl
def dB(K:W.Frag)(a:UF)(xs:List V):yT (Itl K a) xs (λH=>SqL K H a xs):=
 ⟨λi H hi h=>⟨xs,xs[i],h,by simp[hi]⟩,λi H x H' _ h ⟨e,y⟩=>⟨e,y xs h⟩,λH h=>⟨xs,h,bQ _⟩⟩
def lJ(K:W.Frag)(a:UF)(xs:List V):yT (Itt K a) xs (λH=>SqT K H a xs):=
 ⟨λi H hi h=>⟨xs,xs[i],h,by simp[hi]⟩,λi H x H' _ h ⟨e,y⟩=>⟨e,y xs h⟩,λH h=>⟨xs,h,bQ _⟩⟩
def bT{J:It}{xs:List V}{A:Hp->Prop}{js:List (Option Nat)}{g:TG}{tt:TT}{te:TE}{σ:St}{H:Hp}{Q:List V->Hp->Prop}(S:yT J xs A)(hz:xs.length<=100000)(Pv:Nat->List V->Hp->Prop)(hA:∀i ys H,Pv i ys H->A H/\ys.length<=i)(h0:Pv 0 [] H)(hs:∀i x ys H,xs[i]?=some x->Pv i ys H->g x (tZ js σ) H λσ2 H2=>tt σ2 H2 λb H3=>if b=true then te σ2 H3 λy H4=>Pv (i+1) (ys++[y]) H4 else Pv (i+1) ys H3)(hd:∀ys H,Pv xs.length ys H->Q ys H):pM js g tt te σ J H Q:=by
 refine⟨λi m ys H=>m=xs.length-i/\i<=xs.length/\Pv i ys H,⟨xs.length,Zs,zero_le _,h0⟩,?_⟩;rintro i m ys H ⟨rfl,hi,p⟩;obtain⟨pa,hy⟩:=hA i ys H p;by_cases B5:i<xs.length
 ·refine .inr ⟨S.go i H B5 pa,oZ (m:=100000) Zo Zd,Pv (i+1),λDY H' p'=>⟨xs.length-(i+1),Zo,rfl,B5,p'⟩,λx H' y=>?_⟩;obtain⟨rfl,hx⟩:=S.yld i H x H' B5 pa y;exact hs i x ys H' hx p
 ·have e:i=xs.length:=by omega
  subst e;exact .inl ⟨S.stop H pa,hd ys H p⟩
def Ec{J:It}{xs:List V}{A:Hp->Prop}{js:List (Option Nat)}{g:TG}{tt:TT}{te:TE}{σ:St}{H:Hp}{Q:List V->Hp->Prop}(S:yT J xs A)(hz:xs.length<=100000)(p:V->Bool)(f:V->V)(hA:A H)(hs:∀(x:V)(ys:List V)(N:List V->Hp->Prop),x∈xs->(p x=true->N (ys++[f x]) H)->(p x=false->N ys H)->g x (tZ js σ) H λσ2 H2=>tt σ2 H2 λb H3=>if b=true then te σ2 H3 λy H4=>N (ys++[y]) H4 else N ys H3)(hd:Q ((xs.filter p).map f) H):pM js g tt te σ J H Q:=by
 refine bT S hz (λi ys H'=>ys=((xs.take i).filter p).map f/\H'=H) (λi ys H' ⟨e,e2⟩=>⟨by rw[e2];exact hA,?_⟩) ⟨Zs,rfl⟩ (λi x ys H' hx ⟨e,e2⟩=>?_) (λys H' ⟨e,e2⟩=>?_)
 ·rw[e,aZ];exact kN (List.length_filter_le _ _) (by rw[jD];exact min_le_left _ _)
 ·subst e2;have key:(xs.take (i+1)).filter p=(xs.take i).filter p++(if p x=true then [x] else []):=take_succ_filter p xs i x hx;refine hs x ys (λDY H3=>DY=((xs.take (i+1)).filter p).map f/\H3=H') (jW hx) (λh=>⟨?_,rfl⟩) (λh=>⟨?_,rfl⟩)
  ·rw[key,TD h,iB,e];rfl
  ·rw[key,P7 (by rw[h];exact XV),append_nil,e]
 ·subst e2;rw[e,vQ (bQ _)];exact hd
def fN{J:It}{xs:List V}{A:Hp->Prop}{g:TG}{tb:TS}{D:kK}{σ:St}{H:Hp}(S:yT J xs A)(Pv:Nat->St->Hp->Prop)(hA:∀i σ H,Pv i σ H->A H)(h0:Pv 0 σ H)(hs:∀(i:Nat)(x:V) σ H,xs[i]?=some x->Pv i σ H->g x σ H λσ2 H2=>tb {D with nx:=Pv (i+1),ct:=Pv (i+1),bk:=D.nx } σ2 H2)(hd:∀ σ H,Pv xs.length σ H->D.nx σ H) :
  ∃W:Nat->Nat->St->Hp->Prop,(∃m,W 0 m σ H)/\∀i m σ H,W i m σ H →
   (J.stop i H/\D.nx σ H)∨(J.go i H/\∃N:St->Hp->Prop,(∀ σ' H',N σ' H'->∃m',m'<m/\W (i+1) m' σ' H')/\∀x H',J.yld i H x H'->g x σ H' λσ2 H2=>tb {D with nx:=N,ct:=N,bk:=D.nx } σ2 H2):=by
 refine⟨λi m σ H=>m=xs.length-i/\i<=xs.length/\Pv i σ H,⟨xs.length,Zs,zero_le _,h0⟩,?_⟩;rintro i m σ H ⟨rfl,hi,p⟩;have pa:=hA i σ H p;by_cases B5:i<xs.length
 ·refine .inr ⟨S.go i H B5 pa,Pv (i+1),λσ' H' p'=>⟨xs.length-(i+1),Zo,rfl,B5,p'⟩,λx H' y=>?_⟩;obtain⟨rfl,hx⟩:=S.yld i H x H' B5 pa y;exact hs i x σ H' hx p
 ·have e:i=xs.length:=by omega
  subst e;exact .inl ⟨S.stop H pa,hd σ H p⟩
end L2
namespace L2
open PySem
def aF{H:Hp}{p:UF}{o:HO}(h:H p=none):Same H (aI H p o):=λb u q=>by rw[aD (aE q h)];exact q
def pQ{α:Type}(xs:List α)(k:Nat):dO xs none (some (k:Int))=xs.take k:=by
 unfold dO;rw[HT.sIx_none,HT.sIx_nat,drop_zero,Nat.sub_zero,<- List.take_take,vQ (bQ _)]
def lK{α:Type}(xs:List α)(k:Nat):dO xs (some (k:Int)) none=xs.drop k:=by
 unfold dO;rw[HT.sIx_none,HT.sIx_nat];by_cases h:k<=xs.length
 ·rw[min_eq_left h,vQ (by rw[length_drop];exact bQ _)]
 ·rw[Nat.min_eq_right Zo,List.drop_of_length_le (bQ _),List.drop_of_length_le Zo,List.take_nil]
def uF{α β:Type}(f:α->β)(xs:List α)(lo hi:Option Int):dO (xs.map f) lo hi=(dO xs lo hi).map f:=by
 unfold dO;rw[aZ,<- List.map_drop,<- List.map_take]
open PySem PySem.Spec PyProof.Rows
def aN{H:Hp}{p q:UF}{o u:HO}(h:H p=some o)(hq:H q=none):aI H q u p=some o:=by rw[aD (aE h hq)];exact h
def Iw{α:Type}{xs:List α}{i:Int}(h0:0<=i)(h1:i<xs.length):∃v,mW xs i=some v/\v∈xs:=by
 obtain⟨j,rfl⟩:=Int.eq_ofNat_of_zero_le h0;have hj:j<xs.length:=by omega
 exact⟨xs[j],bJ (by simp[hj]),getElem_mem hj⟩
def Bf(g:Array Nat):∀(ps:List Str)(acc:Array Nat),(ps.foldl (λacc p=>acc++g++p.cps) acc).toList=acc.toList++(ps.map λp=>g.toList++p.cps.toList).flatten
 | [],acc=>by simp
 | p::ps,acc=>by
  rw[List.foldl_cons,Bf g ps];simp
def Ix(ps:List Str):(Txt.join (tx []) ps).cps.toList=(ps.map λp=>p.cps.toList).flatten:=by
 unfold Txt.join Builtin.Str.glued;rw[Bf];cases ps with
 | nil=>simp[Str.empty]
 | cons p ps=>simp
def Pf(ps:List Str):Txt.join (tx []) ps=tx (ps.map λp=>p.cps.toList).flatten:=by rw[<- Ix,yQ]
def yU(ts:List Nat):Txt.join (tx []) (ts.map λc=>tx [c])=tx ts:=by
 rw[Pf,map_map];congr 1
 congr 1
 induction ts with
 | nil=>rfl
 | cons c r ih=>rw[map_cons,List.flatten_cons,ih];rfl
def Iy:("":Str)=tx []:=by decide +kernel
end L2
namespace L2
open PySem
def Dk.ne{H:Hp}{d b p:UF}(x:Dk H d b)(h:H p=none):p≠d/\p≠b:=by
 obtain⟨ns,s,k,h1,h2,h3⟩:=x.ex;exact⟨(aE h1 h).symm,(aE h2 h).symm⟩
def pR(x:Str):x=tx x.cps.toList:=(yQ x).symm
end L2
namespace L2
open PySem
def wG:∀ts:List Nat,((ts.map λc=>tx [c]).map (·.length)).sum=ts.length
 | []=>rfl
 | c::ts=>by
  rw[map_cons,map_cons,List.sum_cons,wG ts,vR];show 1+ts.length=_;omega
end L2
namespace L2
open PySem
def aAy{t:TT}{σ:St}{H:Hp}{Q:Bool->Hp->Prop}(R:Bool->Hp->Prop)(h:∀k:Bool->Hp->Prop,(∀v H',R v H'->k v H')->t σ H k)(h2:∀v H',R v H'->Q v H'):t σ H Q:=h Q h2
def aAz{t:TS}{D:kK}{σ:St}{H:Hp}(R:St->Hp->Prop)(h:∀nx:St->Hp->Prop,(∀ σ' H',R σ' H'->nx σ' H')->t {D with nx:=nx } σ H)(h2:∀ σ' H',R σ' H'->D.nx σ' H'):t D σ H:=h D.nx h2
def Dk.same{H H':Hp}{d b:UF}(s:Same H H')(h:Dk H d b):Dk H' d b:=by
 obtain⟨ns,s0,k,h1,h2,h3⟩:=h.ex;exact⟨ns,s0,k,s _ _ h1,s _ _ h2,h3⟩
open PySem PySem.Spec PyProof.Rows
structure XE(X:Cx)(e:Expr)(t:TE):Prop where
 h:PE X e t
structure XT(X:Cx)(e:Expr)(t:TT):Prop where
 h:PT X e t
structure XW(X:Cx)(e:Expr)(t:TT):Prop where
 h:PW X e t
structure XA(X:Cx)(es:List Expr)(t:TA):Prop where
 h:PA X es t
structure XS(X:Cx)(st:Stmt)(t:TS):Prop where
 h:PS X st t
structure XB(X:Cx)(st:List Stmt)(t:TS):Prop where
 h:PSs X st t
structure XI(X:Cx)(tg iter:Expr)(t:TI):Prop where
 h:PI X tg iter t
structure XG(X:Cx)(e:Expr)(t:TG):Prop where
 h:PG X e t
structure XGs(X:Cx)(es:List Expr)(t:Ag):Prop where
 h:Yz X es t
structure XO(X:Cx)(e:Option Expr)(t:TO):Prop where
 h:PO X e t
structure XTs(X:Cx)(cs:List Expr)(t:TT):Prop where
 h:Yk X cs t
structure Wd(X:Cx)(t:Cv):Prop where
 h:Nj X t
structure jF(X:Cx)(f:T0->T0->Sem Value)(r:R2):Prop where
 h:OpR X f r
structure We(X:Cx)(r:R2):Prop where
 h:IxR X r
structure XSl(X:Cx)(r:V->Option Int->Option Int->Hp->VK->Prop):Prop where
 h:SlR X r
structure XC(X:Cx)(f:T0)(r:List V->Hp->VK->Prop):Prop where
 h:CallR X f r
structure XM(X:Cx)(id:String)(r:V->List V->Hp->VK->Prop):Prop where
 h:Zr X id r
namespace R
section
variable {X:Cx}{a b c e o i:Expr}{es rest:List Expr}{ta tb tc te to ti:TE}{tA CI:TT}{t u:TA}{pos p p2 apos cpos pos':Pos}{x:Str}{n:Nat}{r r':R2}
def v(i:Nat){x:Str}{pos:Pos}(hN:X.N[i]?=some x:=by rfl)(hv:Ys X.env.scope x:=by first|exact Or.inl rfl|exact Or.inr (Or.inl rfl)|exact Or.inr (Or.inr rfl))(hd:(x==("__debug__":Str))=false:=by decide)(ue:(x==("__classdict__":Str))=false:=by decide):XE X (.Name x pos) (vr i):=⟨xv i hN hv hd ue⟩
def ac{i j pos}:XE X (.Constant (.int i) j pos) (tC (.int i)):=⟨Tq⟩
def bl{b j pos}:XE X (.Constant (.bool b) j pos) (tC (.bl b)):=⟨Yt⟩
def bu{j pos}:XE X (.Constant .none j pos) (tC .non):=⟨Tr⟩
def af{x j pos}:XE X (.Constant (.str x) j pos) (tC (.str x)):=⟨Ts⟩
def gS{z:Str}(hg:Gl X x)(hm:∃t,X.mg x=some (.str z t))(hd:(x==("__debug__":Str))=false:=by decide):XE X (.Name x pos) (tC (.str z)):=by
 obtain⟨t,hm⟩:=hm;exact⟨tG hg hm ⟨t,rfl⟩ hd⟩
def gI{z:Int}(hg:Gl X x)(hm:∃t,X.mg x=some (.int z t))(hd:(x==("__debug__":Str))=false:=by decide):XE X (.Name x pos) (tC (.int z)):=by
 obtain⟨t,hm⟩:=hm;exact⟨tG hg hm ⟨t,rfl⟩ hd⟩
def gR{a:UF}(hg:Gl X x)(hm:X.mg x=some (.ref a))(hd:(x==("__debug__":Str))=false:=by decide):XE X (.Name x pos) (tC (.ref a)):=⟨tG hg hm rfl hd⟩
def op{op:Operator}(ho:jF X (binaryOp op) r)(ha:XE X a ta)(hb:XE X b tb):XE X (.BinOp a op b pos) (Gj r ta tb):=⟨Zc ho.h ha.h hb.h⟩
def ay:jF X (binaryOp .Add) (yS λi j=>.int (i+j)):=⟨aAc⟩
def bv:jF X (binaryOp .Sub) (yS λi j=>.int (i-j)):=⟨aAd⟩
def eg:jF X (binaryOp .Mult) (m2 CMul λi j=>.int (i*j)):=⟨aAe⟩
def da:jF X (binaryOp .Mod) (m2 (λ_ j=>0<j) λi j=>.int (i%j)):=⟨aAf⟩
def cn:jF X (binaryOp .Pow) (m2 Ul λi j=>.int (i^j.toNat)):=⟨aAg⟩
def ic:jF X (binaryOp .Add) Im:=⟨Vm⟩
def lt:jF X (compareOp .Lt) (yS λi j=>.bl (decide (i<j))):=⟨aBz⟩
def le:jF X (compareOp .LtE) (yS λi j=>.bl (decide (i<=j))):=⟨aBA⟩
def gt:jF X (compareOp .Gt) (yS λi j=>.bl (decide (j<i))):=⟨aBB⟩
def ge:jF X (compareOp .GtE) (yS λi j=>.bl (decide (j<=i))):=⟨aBC⟩
def eq:jF X (compareOp .Eq) mEq:=⟨aBE⟩
def ne:jF X (compareOp .NotEq) mNe:=⟨aBF⟩
def jn:jF X (compareOp .In) (Vn false):=⟨aAh⟩
def inQ:jF X (compareOp .In) (rIn X.K false):=⟨Ds⟩
def jm:jF X (compareOp .Is) (λx y H Q=>match y with|.non=>Q (.bl (decide (x=.non))) H|_=>False):=⟨aAi⟩
def fm:jF X (compareOp .IsNot) (λx y H Q=>match y with|.non=>Q (.bl (!decide (x=.non))) H|_=>False):=⟨Vo⟩
def eqNil(hu:X.A.units<cLine):jF X (compareOp .Eq) (nC X.K false):=⟨Ik hu⟩
def neNil(hu:X.A.units<cLine):jF X (compareOp .NotEq) (nC X.K true):=⟨Il hu⟩
def aw{op:CmpOp}(ho:jF X (compareOp op) r)(ha:XE X a ta)(hb:XE X b tb)(hm:behindInMarks op b=false:=by first|exact tJ _|rfl):XE X (.Compare a [op] [b] pos) (Gj r ta tb):=⟨aAk ho.h ha.h hb.h hm⟩
def al{op:CmpOp}(ho:jF X (compareOp op) r)(ha:XE X a ta)(hb:XE X b tb)(hm:behindInMarks op b=false:=by first|exact tJ _|rfl):XT X (.Compare a [op] [b] pos) (mT (Gj r ta tb)):=⟨aAj ho.h ha.h hb.h hm⟩
def jg{op Y6:CmpOp}(ho:jF X (compareOp op) r)(Q5:jF X (compareOp Y6) r')(ha:XE X a ta)(hb:XE X b tb)(hc:XE X c tc)(hm:lastMarks [op,Y6] [b,c]=false:=by with_unfolding_all rfl):XE X (.Compare a [op,Y6] [b,c] pos) (nD r r' ta tb tc):=⟨Ou ho.h Q5.h ha.h hb.h hc.h hm⟩
def je{op Y6:CmpOp}(ho:jF X (compareOp op) r)(Q5:jF X (compareOp Y6) r')(ha:XE X a ta)(hb:XE X b tb)(hc:XE X c tc)(hm:lastMarks [op,Y6] [b,c]=false:=by with_unfolding_all rfl):XT X (.Compare a [op,Y6] [b,c] pos) (mT (nD r r' ta tb tc)):=⟨Ov ho.h Q5.h ha.h hb.h hc.h hm⟩
def bf(ha:XE X a ta):XE X (.UnaryOp .USub a pos) (tUn (λx H Q=>mI x λi=>Q (.int (-i)) H) ta):=⟨aAo ha.h⟩
def bn{t:TE}(h:XE X e t)(he:∀whole,isTrue e X.env whole=(do let v←whole;standAt e.pos;holding [v] (truthy v)):=by intro _;rfl):XT X e (mT t):=⟨aAl h.h he⟩
def cf(ha:XT X a tA):XT X (.UnaryOp .Not a pos) (Yu tA):=⟨Tw ha.h⟩
def cj(ha:XT X a tA):XW X (.BoolOp .And [a] pos) tA:=⟨Nf ha.h⟩
def cg(ha:XT X a tA):XW X (.BoolOp .Or [a] pos) tA:=⟨Tu ha.h⟩
def bt(ha:XT X a tA)(hb:XW X (.BoolOp .And (b::rest) pos) CI):XW X (.BoolOp .And (a::b::rest) pos) (Nd tA CI):=⟨Tv ha.h hb.h⟩
def bo(ha:XT X a tA)(hb:XW X (.BoolOp .Or (b::rest) pos) CI):XW X (.BoolOp .Or (a::b::rest) pos) (tOr tA CI):=⟨Yv ha.h hb.h⟩
def tw(h:XW X e tA):XT X e tA:=⟨h.h.pt⟩
def bb{op}(h:XE X a ta):XE X (.BoolOp op [a] pos) ta:=⟨Ty h.h⟩
def be(ha:XE X a ta)(hb:XE X (.BoolOp .And (b::rest) pos) tb):XE X (.BoolOp .And (a::b::rest) pos) (Bb ta tb):=⟨aAm ha.h hb.h⟩
def or(ha:XE X a ta)(hb:XE X (.BoolOp .Or (b::rest) pos) tb):XE X (.BoolOp .Or (a::b::rest) pos) (Ow ta tb):=⟨aBG ha.h hb.h⟩
def ie(ha:XE X a ta):XE X (.UnaryOp .Not a pos) (Bc ta):=⟨aAn ha.h⟩
def ix(hr:We X r)(ha:XE X a ta)(hb:XE X b tb)(hs:tO b:=by exact λ_ _=>rfl):XE X (.Subscript a b pos) (Gj r ta tb):=⟨aBH hr.h ha.h hb.h hs⟩
def iL:We X (Ox X.K):=⟨Vr⟩
def iT:We X (Oy X.K):=⟨aAp⟩
def iS:We X Vq:=⟨aAq⟩
def pn:XO X none Ap:=⟨Nz⟩
def ps(h:XE X e te):XO X (some e) (Bd te):=⟨Vs h.h⟩
def sl{r:V->Option Int->Option Int->Hp->VK->Prop}{lo hi:Option Expr}{tl th:TO}(hr:XSl X r)(he:XE X e te)(hl:XO X lo tl)(hu:XO X hi th):XE X (.Subscript e (.Slice lo hi none p2) pos) (tSl r te tl th):=⟨Gx hr.h he.h hl.h hu.h⟩
def sS:XSl X Vt:=⟨aAr⟩
def sL:XSl X (Oz X.K):=⟨Vu⟩
def ad:XA X [] yJ:=⟨tL⟩
def aa(ha:XE X e te)(hr:XA X es t)(h:aM e=true:=by rfl):XA X (e::es) (nX te t):=⟨uC ha.h hr.h h⟩
def ib{x1}(h:XA X es t):XE X (.Tuple es x1 pos) (Zl t):=⟨Uv h.h⟩
def az(h:XA X es t):XE X (.List es pos) (Zm t):=⟨Uw h.h⟩
def ax{id:String}{r:List V->Hp->VK->Prop}(hc:XC X (.builtin id) r)(hg:Gl X x)(hm:X.mg x=none)(hv:bootBuiltins x=some (.builtin id))(ha:XA X (e::es) t)(hn:x≠"__name__":=by decide)(E2:(x==("__debug__":Str))=false:=by decide)(h1:aM e=true:=by rfl)(h2:es.all aM=true:=by rfl):XE X (.Call (.Name x p) (e::es) [] pos) (Yi r t):=⟨Pb hc.h hg hm hv ha.h hn E2 h1 h2⟩
def ee{T:String}{r:List V->Hp->VK->Prop}(hc:XC X (.type T) r)(hg:Gl X x)(hm:X.mg x=none)(hv:bootBuiltins x=some (.type T))(ha:XA X (e::es) t)(hn:x≠"__name__":=by decide)(E2:(x==("__debug__":Str))=false:=by decide)(h1:aM e=true:=by rfl)(h2:es.all aM=true:=by rfl):XE X (.Call (.Name x p) (e::es) [] pos) (Yi r t):=⟨Ip hc.h hg hm hv ha.h hn E2 h1 h2⟩
def ft:XC X (.builtin "len") (λvs H Q=>match vs with|[.str z]=>z.length<=sizeLine/\Q (.int z.length) H|_=>False):=⟨Vv⟩
def lenL:XC X (.builtin "len") (λvs H Q=>match vs with|[.ref p]=>∃ys,(SqL X.K H p ys∨SqT X.K H p ys)/\Q (.int ys.length) H|_=>False):=⟨Vw⟩
def jj:XC X (.type "int") (λvs H Q=>match vs with|[.bl k]=>Q (.int (if k then 1 else 0)) H|_=>False):=⟨aAs⟩
def all(hc:X.calm=true):XC X (.builtin "all") (Vk X.K):=⟨Ii hc⟩
def sum(hc:X.calm=true):XC X (.builtin "sum") (Vl X.K):=⟨Ij hc⟩
def fn{n:Nat}{ps:List Str}{sp:Sp}(c:aG X.prog X.w X.K X.mg X.base n x ps sp)(hr:Room n X.A)(hg:Gl X x)(ha:XA X (e::es) t)(E2:(x==("__debug__":Str))=false:=by decide)(h1:aM e=true:=by rfl)(h2:es.all aM=true:=by rfl):XE X (.Call (.Name x p) (e::es) [] pos) (tFn sp t):=⟨aAx c hr hg ha.h E2 h1 h2⟩
def bm{T id:String}{name:Str}{r:V->List V->Hp->VK->Prop}(pa:PlainAttrs T)(slot:Slot T name id)(EX:typeOf (.builtin id)=pure (.type "method_descriptor"))(hm:XM X id r)(ho:XE X o to)(ha:XA X (e::es) t)(Y7:attributeBase o name X.env (eval o X.env)=eval o X.env:=by rfl)(Y8:(apos.endLine==cpos.line)=true:=by rfl)(h1:aM e=true:=by rfl)(h2:es.all aM=true:=by rfl)(hn:es.length+1<30:=by decide) :
  XE X (.Call (.Attribute o name apos) (e::es) [] cpos) (tBM X.K T r to t):=⟨aBL pa slot EX hm.h ho.h ha.h Y7 Y8 h1 h2 hn⟩
def dl:XM X "list.append" Ar:=⟨Dt⟩
def jp:XM X "list.pop" Hr:=⟨Hs⟩
def join:XM X "str.join" (Ig X.K):=⟨Ot⟩
def dm{T:Str}(want:Kd)(he:XE X e te)(hg:Gl X "isinstance")(hm:X.mg "isinstance"=none)(JU:Gl X T)(JV:X.mg T=none)(hT:bootBuiltins T=some (.type (Pa want)))(hn:T≠"__name__":=by decide)(hd:(T==("__debug__":Str))=false:=by decide)(h1:aM e=true:=by rfl):XE X (.Call (.Name "isinstance" p) [e,.Name T p2] [] pos) (Vy want te):=⟨Vz want he.h hg hm JU JV hT hn hd h1⟩
def dq:XE X (.Dict [] [] pos) (Hv):=⟨Hw⟩
variable {tg:Expr}
def wL(hl:XE X e te):XI X tg e (Gh X.K te):=⟨Nn hl.h⟩
def wT(hl:XE X e te):XI X tg e (Uh X.K te):=⟨Ui hl.h⟩
def wS(hl:XE X e te):XI X tg e (aAa te):=⟨Vi hl.h⟩
def dw(hg:Gl X "range")(hm:X.mg "range"=none)(ha:XA X [a] t)(h1:aM a=true:=by rfl):XI X tg (.Call (.Name "range" p) [a] [] pos) (Rw t):=⟨Cy hg hm ha.h (bB h1)⟩
def gn{i:Nat}(hN:X.N.Nodup)(hi:X.N[i]?=some x:=by rfl)(hx:Fu X.env.scope x:=by first|exact Or.inl rfl|exact Or.inr rfl)(hf:X.fn x=true∨X.env.scope.names.lookup x=some .local:=by first|exact .inl rfl|exact .inr rfl|assumption):XG X (.Name x pos) (aK i):=⟨Nk hN hi hx hf⟩
def du:XGs X [] Uc:=⟨Nl⟩
def bp{TL:TG}{EC:Ag}(h1:XG X e TL)(h2:XGs X es EC)(hs:(assignEach (e::es) X.env).map (·.2)=assign e X.env::(assignEach es X.env).map (·.2):=by rfl):XGs X (e::es) (Gc TL EC):=⟨Gd h1.h h2.h hs⟩
def gt'{k:Nat}{EC:Ag}(hc:X.calm=true)(h:XGs X es EC)(hn:(assignEach es X.env).length=n:=by rfl)(ze:(assignEach es X.env).findIdx? (·.1)=none:=by rfl):XG X (.Tuple es k pos) (Nm X.K n EC):=⟨Ud hc h.h hn ze⟩
def ji:Wd X Sc:=⟨Gy⟩
def de{ts:Cv}(ho:XE X o to)(hi:XE X i ti)(hs:Wd X ts)(ha:∀v,assign (.Subscript o i pos) X.env v=(do
   let ov←holding [v] (eval o X.env)
   let iv←holding [v,ov] (eval i X.env)
   standAt pos
   holding [v,ov,iv] (setItem ov iv v)
   release [v,ov,iv] []):=by intro _;rfl):XG X (.Subscript o i pos) (Za to ti ts):=⟨Ue ho.h hi.h hs.h ha⟩
end
section
variable {X:Cx}{c e tg iter elt:Expr}{ifs:List Expr}{te:TE}{tc tt:TT}{g:TG}{wi:TI}{st:Stmt}{ss sa sb:List Stmt}{t u:TS}{pos pos' zp py:Pos}{x y:Str}{scope:Scope}{N:List Str}{js:List (Option Nat)}
def dn:XTs X [] Sg:=⟨On⟩
def bq(h:XT X c tt)(hx:X.xe=λ_ _=>False:=by rfl):XTs X [c] tt:=⟨Oo h.h hx⟩
def bi(hc:X.calm=true)(S:CompScope X scope N js)(go:yO js g)(hi:XI X tg iter wi)(hb:∀(C:UF)(s₂:TW)(H₂:Hp)(fp:List UF),XG (mL X scope C N s₂ H₂ fp) tg g/\XTs (mL X scope C N s₂ H₂ fp) ifs tt/\XE (mL X scope C N s₂ H₂ fp) elt te)(hs:∀x,foldedSetIterable iter X.env x=pure x:=by intro _;rfl):XE X (.ListComp elt [⟨tg,iter,ifs,0⟩] scope pos) (Sh wi js g tt te):=
 ⟨Op hc S go hi.h (λC s₂ H₂ fp=>let ⟨a,b,c⟩:=hb C s₂ H₂ fp;⟨a.h,b.h,c.h⟩) hs⟩
def eh{i:Nat}(hN:X.N.Nodup)(hy:X.N[i]?=some y)(hx:Fu X.env.scope y)(hc:X.calm=true)(S:CompScope X scope N js)(go:yO js g)(hi:XI X tg iter wi)(hb:∀(C:UF)(s₂:TW)(H₂:Hp)(fp:List UF),XG (mL X scope C N s₂ H₂ fp) tg g/\XTs (mL X scope C N s₂ H₂ fp) ifs tt/\XE (mL X scope C N s₂ H₂ fp) elt te)(PH:swapsWith (.ListComp elt [⟨tg,iter,ifs,0⟩] scope pos) (some (.Name y py)) zp.line X.env=pure true)(hs:∀x,foldedSetIterable iter X.env x=pure x:=by intro _;rfl)(hf:X.fn y=true∨X.env.scope.names.lookup y=some .local:=by first|exact .inl rfl|exact .inr rfl|assumption) :
  XS X (.Assign [.Name y py] (.ListComp elt [⟨tg,iter,ifs,0⟩] scope pos) zp) (Si i wi js g tt te):=
 ⟨Oq hN hy hx hc S go hi.h (λC s₂ H₂ fp=>let ⟨a,b,c⟩:=hb C s₂ H₂ fp;⟨a.h,b.h,c.h⟩) PH hs hf⟩
def au:XB X [] kP:=⟨Ng⟩
def ah(h1:XS X st t):XB X [st] t:=⟨Nh h1.h⟩
def ae(h1:XS X st t)(h2:XB X ss u):XB X (st::ss) (yA t u):=⟨Ga h1.h h2.h⟩
def ai(he:XE X e te):XS X (.Return (some e) pos) (Yx te):=⟨Ub he.h⟩
def bz(he:XE X e te)(hs:swapsWith e none pos.line X.env=pure false:=by rfl):XS X (.Expr e pos) (Rv te):=⟨Ni he.h hs⟩
def ar(hc:XT X c tc)(ha:XB X sa t)(hb:XB X sb u):XS X (.If c sa sb pos) (Gb tc t u):=⟨Yy hc.h ha.h hb.h⟩
def ao{i:Nat}(hN:X.N.Nodup)(he:XE X e te)(hi:X.N[i]?=some x:=by rfl)(hx:Fu X.env.scope x:=by first|exact Or.inl rfl|exact Or.inr rfl)(hs:swapsWith e (some (.Name x pos')) pos.line X.env=pure false:=by rfl)(hf:X.fn x=true∨X.env.scope.names.lookup x=some .local:=by first|exact .inl rfl|exact .inr rfl|assumption):XS X (.Assign [.Name x pos'] e pos) (Ge te (aK i)):=⟨Ug hN hi hx he.h hs hf⟩
def db(he:XE X e te)(hg:XG X tg g)(hs:swapsWithSole [tg] e pos.line X.env=pure false:=by rfl)(hw:swappedStores [tg] e X.env=pure none:=by rfl)(h1:(assignEach [tg] X.env).map (·.2)=[assign tg X.env]:=by rfl) :
  XS X (.Assign [tg] e pos) (Ge te g):=⟨Uf he.h hg.h hs hw h1⟩
def dh(hp:PassesOwn (model X.prog X.w) X.A X.env X.xe)(hc:X.calm=true)(hi:XI X tg iter wi)(hg:XG X tg g)(hb:XB X ss t)(hs:∀x,foldedSetIterable iter X.env x=pure x:=by intro _;rfl):XS X (.For tg iter ss [] pos) (Zb wi g t):=⟨Uj hp hc hi.h hg.h hb.h hs⟩
def jt(hp:PassesOwn (model X.prog X.w) X.A X.env X.xe)(hc:XT X c tc)(hb:XB X ss t):XS X (.While c ss [] pos) (Gf tc t):=⟨Gg hp hc.h hb.h⟩
end
end R
def DefAt.go{P:Program}{w:World}{K:W.Frag}{mg:X8}{base:Heap}{x:Str}{st:Stmt}{N ps:List Str}{k:Nat}{sp:Sp}(D:DefAt K mg x st ps)(S:aJ N ps (aB st))(len:∀vs H Q E,sp vs H Q E->vs.length=ps.length)(n8:∀(f:UF)(cdv:T0)(A:Around)(outer:List Env)(s:TW)(H:Hp)(vs:List V)(Q:VK)(E:XK),Room k (A.deeper (envOfC x (aB st) s.heap.objs.size f cdv))->sp vs H Q E →
   ∃t,XB (fL qW P w K mg base N x (aB st) f cdv A outer s H E).nox (aV st) t/\t {nx:=λ_ H'=>Q .non H',rt:=Q } (start N vs) H):aG P w K mg base (k+1) x ps sp:=
 D.ok S len λf cdv A outer s H vs Q E hr h=>let ⟨t,h1,h2⟩:=n8 f cdv A outer s H vs Q E hr h;⟨t,h1.h,h2⟩
def Fun.go{P:Program}{w:World}{K:W.Frag}{mg:X8}{base:Heap}{x qual:Str}{st:Stmt}{f:UF}{fd:FuncData}{N ps:List Str}{k:Nat}{sp:Sp}(F:Fun K x qual st f fd)(S:aJ N ps (aB st))(len:∀vs H Q E,sp vs H Q E->vs.length=ps.length)(n8:∀(cdv:T0)(A:Around)(outer:List Env)(s:TW)(H:Hp)(vs:List V)(Q:VK)(E:XK),Room k (A.deeper (envOfC qual (aB st) s.heap.objs.size f cdv))->sp vs H Q E →
   ∃t,XB (fL qW P w K mg base N qual (aB st) f cdv A outer s H E).nox (aV st) t/\t {nx:=λ_ H'=>Q .non H',rt:=Q } (start N vs) H):iE P w K mg base qW (k+1) f fd ps sp:=
 F.ok S len λcdv A outer s H vs Q E hr h=>let ⟨t,h1,h2⟩:=n8 cdv A outer s H vs Q E hr h;⟨t,h1.h,h2⟩
def Wf{K:W.Frag}{h:Heap}{mg:X8}{x:Str}{st:Stmt}{ps:List Str}{f:UF}{od an:Option UF}{sl:Array (Option T0)}{oc kV dc pm cd ct:T0}(X:K.In h)(G:h.Ns mainGlobals mg)(a:W.nsIn K mainGlobals x=some (some (.ref f)))(l:K.lookup f=some ⟨oc,od,.func (W.fnOf x x (bZ st) (aV st) (aB st) .none kV dc pm an cd ct),sl⟩)(c:W.codeIn K cd x=true)(k:W.keepIn K (.ref f)=true)(hb:∀(kV doc pm:T0)(an:Option UF)(cdv ct:T0)(us:List T0),us.length=ps.length->bindArgs (W.fnOf x x (bZ st) (aV st) (aB st) .none kV doc pm an cdv ct) ⟨us,[]⟩=pure (ps.zip us)):DefAt K mg x st ps:=
 ⟨f,_,kU l c k,W.mg_of X G a,(kU (st:=st) l c k).binds hb⟩
namespace R
section
variable {X:Cx}{K:W.Frag}{a b c e o i tg:Expr}{es rest:List Expr}{te to:TE}{t:TA}{pos p p2 apos cpos:Pos}{x:Str}{n:Nat}
def av(hK:X.K=K:=by rfl):We X (Ox K):=hK▸iL
def ag(hK:X.K=K:=by rfl):We X (Oy K):=hK▸iT
def br(hK:X.K=K:=by rfl):XSl X (Oz K):=hK▸sL
def bc(hK:X.K=K:=by rfl):jF X (compareOp .In) (rIn K false):=hK▸inQ
def dy(hu:X.A.units<cLine)(hK:X.K=K:=by rfl):jF X (compareOp .Eq) (nC K false):=hK▸eqNil hu
def fk(hu:X.A.units<cLine)(hK:X.K=K:=by rfl):jF X (compareOp .NotEq) (nC K true):=hK▸neNil hu
def ba(hK:X.K=K:=by rfl):XC X (.builtin "len") (λvs H Q=>match vs with|[.ref p]=>∃ys,(SqL K H p ys∨SqT K H p ys)/\Q (.int ys.length) H|_=>False):=hK▸lenL
def jf(hc:X.calm=true)(hK:X.K=K:=by rfl):XC X (.builtin "all") (Vk K):=hK▸all hc
def jo(hc:X.calm=true)(hK:X.K=K:=by rfl):XC X (.builtin "sum") (Vl K):=hK▸sum hc
def jq(hK:X.K=K:=by rfl):XM X "str.join" (Ig K):=hK▸join
def bw{T id:String}{name:Str}{r:V->List V->Hp->VK->Prop}(pa:PlainAttrs T)(slot:Slot T name id)(EX:typeOf (.builtin id)=pure (.type "method_descriptor"))(hm:XM X id r)(ho:XE X o to)(ha:XA X (e::es) t)(hK:X.K=K:=by rfl)(Y7:attributeBase o name X.env (eval o X.env)=eval o X.env:=by rfl)(Y8:(apos.endLine==cpos.line)=true:=by rfl)(h1:aM e=true:=by rfl)(h2:es.all aM=true:=by rfl)(hn:es.length+1<30:=by decide) :
  XE X (.Call (.Attribute o name apos) (e::es) [] cpos) (tBM K T r to t):=hK▸bm pa slot EX hm ho ha Y7 Y8 h1 h2 hn
def bj(hl:XE X e te)(hK:X.K=K:=by rfl):XI X tg e (Gh K te):=hK▸wL hl
def fj(hl:XE X e te)(hK:X.K=K:=by rfl):XI X tg e (Uh K te):=hK▸wT hl
def dt{k:Nat}{EC:Ag}(hc:X.calm=true)(h:XGs X es EC)(hK:X.K=K:=by rfl)(hn:(assignEach es X.env).length=n:=by rfl)(ze:(assignEach es X.env).findIdx? (·.1)=none:=by rfl):XG X (.Tuple es k pos) (Nm K n EC):=hK▸gt' hc h hn ze
end
end R
section
variable {X:Cx}
def aBM:List V->Hp->VK->Prop:=λvs H Q=>match vs with
 | [.int i]=>(0<=i/\i<10^40)/\Q (.str (Str.ofString (toString i))) H
 | [.str z]=>Q (.str z) H
 | _=>False
def aBZ:List V->Hp->VK->Prop:=λvs H Q=>match vs with
 | [.str z]=>NumText.AllDigits z.cps.toList/\z.cps.toList≠[]/\z.length<=640/\Q (.int (NumText.digitsVal z.cps.toList:Nat)) H
 | _=>False
end
def LET:List Nat:=[97,98,99,100,101,102,103,104,105,106,107,108,109,110,111,112,113,114,115,116,117,118,119,120,121,122]
def FIG:List Nat:=[48,49,50,51,52,53,54,55,56,57]
def yV:(("abcdefghijklmnopqrstuvwxyz":Str)).cps.toList=LET:=by decide +kernel
def Wg:(("0123456789":Str)).cps.toList=FIG:=by decide +kernel
def jN(x:V)(cs:List Nat)(n:Int):Bool:=match x with|.str z=>decide (1<=(z.length:Int))&&decide ((z.length:Int)<=n)&&z.cps.toList.all (λc=>decide (c∈cs))|_=>false
def iF(z:Str)(cs:List Nat)(n:Int):jN (.str z) cs n=(decide (1<=(z.length:Int))&&decide ((z.length:Int)<=n)&&z.cps.toList.all (λc=>decide (c∈cs))):=rfl
def Iz:Sp:=λvs H Q _=>∃x sg n k,vs=[x,.str sg,.int n]/\Sk H x k/\(∀z,x=.str z->z.length<=1000)/\∀H',Same H H'->Q (.bl (jN x sg.cps.toList n)) H'
def Ja(cs:List Nat)(n:Int):Sp:=λvs H Q _=>∃x k,vs=[x]/\Sk H x k/\(∀z,x=.str z->z.length<=1000)/\∀H',Same H H'->Q (.bl (jN x cs n)) H'
def fE(z:Str):Prop:=1<=z.length/\z.length<=8/\∀c∈z.cps.toList,c∈LET
def Bg(z:Str)(ns:List Str):gT (.str z) (ns.map V.str)=decide (z∈ns):=by
 unfold gT;rw[any_map,Bool.eq_iff_iff,any_eq_true,decide_eq_true_iff];constructor
 ·rintro⟨y,hy,e⟩;have:y=z:=by simpa [qY]using e
  rw[<- this];exact hy
 ·intro h;exact⟨z,h,by simp[qY]⟩
def nE(ns:List Str):(ns.map V.str).all eC=true:=by
 rw[all_map];exact all_eq_true.mpr λ_ _=>rfl
namespace R
variable {X:Cx}
def jl(hc:X.calm=true):XC X (.builtin "max") (λvs H Q=>match vs with | [.int i,.int j]=>Q (.int (if j > i then j else i)) H | _=>False):=⟨(Dl hc).imp λvs H Q h=>by
 split at h
 ·rename_i i j;exact⟨i,j,rfl,h⟩
 ·exact h.elim⟩
end R
section
variable {prog:Program}{w:World}{A:Around}{E:X9}{s:TW}
def Ed{t:UF}{items:Array Value}{Q:Bool->TW->Prop}(ht:IsTup s.heap t items)(h:Q true s):wpAny (model prog w) A (Builtin.Tuple.tupleIsExact (.ref t)) Q E s:=by
 unfold Builtin.Tuple.tupleIsExact;refine X7 (wpAny_typeOf ht.typeIs ?_);exact X6 h
def kL{t sl:UF}{items:Array Value}{vl vu:T0}{lo hi:Option Int}{Q:X9}(ht:IsTup s.heap t items)(hs:s.heap.IsSliceOf sl vl vu .none)(pl:IsPart vl lo)(pu:IsPart vu hi)(hw:HT.sIx items.size 0 lo=0/\HT.sIx items.size items.size hi=items.size)(h:Q (.ref t) s):wpAny (model prog w) A (getItem (.ref t) (.ref sl)) Q E s:=by
 obtain⟨os,EW,HV,JM⟩:=id hs;have OP:s.TypeIs (.ref sl) "slice":=⟨os,EW,HV⟩;unfold getItem;try with_reducible refine wpAny_holding ?_
 first|refine X7 (X6 ?_)|skip
 refine X7 (wpAny_sequenceKey ht.typeIs Zd ?_);refine X7 (wpAny_callSpecial?_slot (name:=Str.ofString "__getitem__") ht.typeIs PyProof.Rows.slot_tuple_getitem
  (wpAny_call_entry PyProof.Rows.slot_tuple_getitem ht.typeIs entry_tuple_getitem ?_ (args_tuple_getitem _ _)))
 show wpAny _ _ (Builtin.Tuple.tupleItemsOf (.ref t)>>=_) _ _ s;refine X7 (tupleItemsOf_ ht ?_);refine X7 (wpAny_typeOf OP ?_);rw[TD Zd];refine X7 (HT.sliceApplied_gen hs pl pu ?_);have PJ:(((HT.sIx items.size 0 lo:Nat):Int)==0&&(1:Int)==1&&(HT.sIx items.size items.size hi-HT.sIx items.size 0 lo)==items.size)=true:=by
  rw[hw.1,hw.2];simp
 show wpAny _ _ (if (((HT.sIx items.size 0 lo:Nat):Int)==0&&(1:Int)==1&&(HT.sIx items.size items.size hi-HT.sIx items.size 0 lo)==items.size)=true then _ else _) _ _ s;rw[TD PJ];refine X7 (Ed ht ?_);rw[TD rfl];exact X7 (wpAny_rule (X6 ⟨_,rfl,X6 h⟩))
def Jb{t b:UF}{ws:List T0}{Q:X9}(ht:IsTup s.heap t ([]:List T0).toArray)(hb:IsTup s.heap b ws.toArray)(h1:Q (.ref b) s):wpAny (model prog w) A (binaryOp .Add (.ref t) (.ref b)) Q E s:=by
 obtain⟨⟨cls,dd,data,sl⟩,ho,hc,n,hd⟩:=id ht;obtain⟨⟨OO,MX,data2,EU⟩,zm,EV,n2,hd2⟩:=id hb;simp only at hc hd EV hd2;subst hc hd EV hd2;exact concat_meets ⟨_,ho,rfl⟩ ⟨_,zm,rfl⟩ noFill_tuple_add seq_tuple_add PySem.F.slot_tuple_add PySem.F.entry_tuple_add (PySem.F.args_tuple_add_2 _ _)
   (tuple_addW0 t b _ ws.toArray n n2 dd MX sl EU Zs) ⟨ho,zm,h1⟩
end
section
variable {X:Cx}{e o e1 e2:Expr}{te:TE}{pos p2 p3:Pos}
def Wh:V->Option Int->Option Int->Hp->VK->Prop:=λx lo hi H Q=>mR x λa=>∃xs,H a=some (.tup xs)/\∀p H',Same H H'->H' p=some (.tup (dO xs lo hi))->Q (.ref p) H'
def aAC:SlR X Wh:=by
 intro pins s σ H x v vl vu lo hi sl Q I rx hs pl pu h;unfold Wh at h;rw[dY]at h;obtain⟨a,rfl,xs,hx,q⟩:=h;by_cases hw:HT.sIx xs.length 0 lo=0/\HT.sIx xs.length xs.length hi=xs.length
 ·cases rx;obtain⟨its,r,ht,hz⟩:=I.tuple (QYV hx);have hlen:its.toArray.size=xs.length:=by rw[eB];exact r.length.symm
  refine⟨"tuple",_,PyProof.Rows.slot_tuple_getitem.lookup,ht.typeIs,?_⟩;refine kL ht hs pl pu (by rw[hlen];exact hw) ⟨.ref a,H,I,rfl,q a H (Same.refl H) ?_⟩;rw[hx];unfold dO;rw[hw.1,hw.2,drop_zero,Nat.sub_zero,vQ (bQ _)]
 ·exact Uy pins s σ H (.ref a) v vl vu lo hi sl Q I rx hs pl pu ⟨a,xs,rfl,QYV hx,hw,λp hp=>q p _ (aF hp) aA⟩
def Jc:R2:=λx y H Q=>mR x λa=>mR y λb=>∃xs ys,H a=some (.tup xs)/\H b=some (.tup ys)/\xs.length+ys.length<=1000/\∀p H',Same H H'->H' p=some (.tup (xs++ys))->Q (.ref p) H'
def Wi:OpR X (binaryOp .Add) Jc:=by
 intro pins s σ H x y v u Q I rx ry h;unfold Jc at h;rw[dY]at h;obtain⟨a,rfl,h⟩:=h;rw[dY]at h;obtain⟨b,rfl,xs,ys,ha,hb,hz,q⟩:=h;by_cases h0:xs=[]
 ·subst h0;cases rx;cases ry;obtain⟨its,r1,p1,_⟩:=I.tuple (QYV ha);obtain⟨d8,r2,p2,_⟩:=I.tuple (QYV hb);cases r1;exact Jb p1 p2 ⟨.ref b,H,I,rfl,q b H (Same.refl H) (by rw[hb];rfl)⟩
 ·exact Ob pins s σ H _ _ v u Q I rx ry ⟨a,b,xs,ys,rfl,rfl,QYV ha,QYV hb,h0,kN hz Zd,(λh1=>q a H (Same.refl H) (by rw[ha,h1,append_nil])),λ_ p hp=>q p _ (aF hp) aA⟩
end
def Tab(P:Params):List DictEntry->List (Str×Int)->Prop
 | [],[]=>True
 | e::r,(x,i)::q=>(∃t,e.key=.str x t)/\e.hash=PyData.keyHash P x/\(∃t,e.val=.int i t)/\Tab P r q
 | _,_=>False
def Tab.keys{P:Params}:∀ {es:List DictEntry}{ws:List (Str×Int)},Tab P es ws->W.KeysLit P es
 | [],[],_=>trivial
 | e::r,(x,i)::q,h=>⟨let ⟨t,ht⟩:=h.1;⟨x,t,ht,h.2.1⟩,Tab.keys h.2.2.2⟩
 | [],_::_,h=>h.elim
 | _::_,[],h=>h.elim
def Tab.find{P:Params}(z:Str):∀ {es:List DictEntry}{ws:List (Str×Int)},Tab P es ws->(match ws.lookup z with|some i=>∃t,(es.find? λe=>Value.isStrOf z e.key).map (·.val)=some (.int i t)|none=>(es.find? λe=>Value.isStrOf z e.key).map (·.val)=none)
 | [],[],_=>rfl
 | [],_::_,h=>h.elim
 | _::_,[],h=>h.elim
 | e::r,(x,i)::q,h=>by
  obtain⟨⟨t,ht⟩,h2,⟨t',hv⟩,h4⟩:=h;have ih:=Tab.find z h4;rw[lookup_cons,find?_cons];have e1:Value.isStrOf z e.key=(z==x):=by
   rw[ht];show(x==z)=(z==x);exact Bool.beq_comm
  rw[e1];cases hz:z==x with
  | true=>exact⟨t',by rw[<- hv];rfl⟩
  | false=>exact ih
structure KTab(K:W.Frag)(P:Params)(a:UF)(ws:List (Str×Int)):Prop where
 ex:∃es n,K.lookup a=some ⟨.type "dict",none,.dict (toArray es) n,#[]⟩/\Tab P es ws/\(a==sysModules)=false
def KTab.map{K:W.Frag}{prog:Program}{w:World}{a:UF}{ws:List (Str×Int)}{h:Heap}(T:KTab K w.params a ws)(X:K.In h) :
  ∃f:Str->Option T0,h.MapOf (strKind prog w) a f/\(a==sysModules)=false/\∀z,(match ws.lookup z with|some i=>∃t,f z=some (.int i t)|none=>f z=none):=by
 obtain⟨es,n,hl,ht,lo⟩:=T.ex;refine⟨_,W.mapOf_K (prog:=prog) X hl ht.keys,lo,λz=>?_⟩;have:=ht.find z;unfold findBy;rw[List.find?_toArray];exact this
section
variable {X:Cx}
def Wj(K:W.Frag)(P:Params):R2:=λx y H Q=>mR x λa=>mS y λz=>∃ws i,KTab K P a ws/\ws.lookup z=some i/\Q (.int i) H
def i_K:IxR X (Wj X.K X.w.params):=by
 intro value slice pins s σ H x y v u Q I rx ry h hs;unfold Wj at h;rw[dY]at h;obtain⟨a,rfl,h⟩:=h;rw[pO]at h;obtain⟨z,rfl,ws,i,T,hi,h⟩:=h;obtain⟨t,rfl⟩:=ry;cases rx;obtain⟨f,hm,lo,hf⟩:=T.map (prog:=X.prog) I.kIn;have hz:=hf z;rw[hi]at hz;obtain⟨t',hz⟩:=hz;exact tail_any hm.typeIs slot_dict_getitem.lookup (wpAny_getItem_of (strKind_is X.prog X.w z t) hm hz ⟨.int i,H,I.tok _,⟨t',rfl⟩,h⟩) hs
end
structure XPs(X:Cx)(pos:Pos)(keys:List (Option Expr))(values:List Expr)(trs:List (TE×TE)):Prop where
 h:Zz X pos keys values trs
namespace R
section
variable {X:Cx}{K:W.Frag}{P:Params}{e e1 k v o f:Expr}{te t1 tk tv td ty TM:TE}{pos p2 apos cpos:Pos}{ks:List (Option Expr)}{vs:List Expr}{trs:List (TE×TE)}
def sT:XSl X Wh:=⟨aAC⟩
def df:jF X (binaryOp .Add) Jc:=⟨Wi⟩
def jk(hK:X.K=K:=by rfl)(hP:X.w.params=P:=by rfl):We X (Wj K P):=hK▸hP▸⟨i_K⟩
def jh(hK:X.K=K:=by rfl):XC X (.type "list") (λvs H Q=>match vs with | [.ref p]=>∃ys,(SqL K H p ys∨SqT K H p ys)/\∀l,H l=none->Q (.ref l) (aI H l (.lst ys)) | _=>False):=hK ▸ ⟨tW.imp λvs H Q h=>by
 split at h
 ·rename_i p;obtain⟨ys,hq,h⟩:=h;exact⟨p,ys,rfl,hq,h⟩
 ·exact h.elim⟩
def jw(hK:X.K=K:=by rfl):XC X (.type "tuple") (λvs H Q=>match vs with | [.ref p]=>∃ys,SqL K H p ys/\∀l,H l=none->Q (.ref l) (aI H l (.tup ys)) | _=>False):=hK ▸ ⟨qZ.imp λvs H Q h=>by
 split at h
 ·rename_i p;obtain⟨ys,hq,h⟩:=h;exact⟨p,ys,rfl,.inl ⟨hq,h⟩⟩
 ·exact h.elim⟩
def gs:XPs X pos [] [] []:=⟨Oj⟩
def cv(hk:XE X k tk)(hv:XE X v tv)(hr:XPs X pos ks vs trs):XPs X pos (some k::ks) (v::vs) ((tk,tv)::trs):=⟨Hx hk.h hv.h hr.h⟩
def fu(h:XPs X pos ks vs trs)(kz:ks.all (·.isSome)=true:=by rfl)(hl:ks.length=vs.length:=by rfl)(h0:ks≠[]:=by simp)(OR:ks.length<=15:=by decide):XE X (.Dict ks vs pos) (Sf trs):=⟨Ol h.h kz hl h0 OR⟩
def ju(hu:X.A.units+1<cLine)(ho:XE X o td)(he:XE X e ty)(hf:XE X f TM)(h1:attributeBase o "get" X.env (eval o X.env)=eval o X.env:=by rfl)(h3:(apos.endLine == cpos.line)=true:=by rfl)(h2:((backTo cpos (starEach [e,f] X.env)).all (λx=>!x.1)&&(backToKw cpos (keywordEach [] X.env)).all (λx=>x.1.isSome)
  && decide (([e,f]:List Expr).length+([]:List Keyword).length+(if ([]:List Keyword).isEmpty then 0 else 1)<30))=true:=by rfl)(h4:backTo cpos (starEach [e,f] X.env)=[(false,eval e X.env),(false,eval f X.env)]:=by rfl):XE X (.Call (.Attribute o "get" apos) [e,f] [] cpos) (Hy td ty TM):=⟨Ia hu ho.h he.h hf.h ⟨h1,h2,h3,h4⟩⟩
end
end R
def Yl(x:V):Bool:=jN x LET 8
def yW(lo hi:Int)(x:V):Bool:=match x with|.int n=>decide (lo<=n)&&decide (n<=hi)|_=>false
def Pt(H:Hp)(x:V):Prop:=∃k,Sk H x k/\∀z,x=.str z->z.length<=1000
def Bh:Sp:=λvs H Q _=>∃x lo hi,vs=[x,.int lo,.int hi]/\Pt H x/\∀H',Same H H'->Q (.bl (yW lo hi x)) H'
def aAD:R2:=λx y H Q=>mR x λl=>mR y λb=>∃xs zs,H l=some (.lst xs)/\H b=some (.lst zs)/\xs.length+zs.length<=sizeLine/\∀p,H p=none->Q (.ref p) (aI H p (.lst (xs++zs)))
def R.bh{X:Cx}:jF X (binaryOp .Add) aAD:=⟨Vd.imp λx y H Q h=>by
 unfold aAD at h;rw[dY]at h;obtain⟨a,rfl,h⟩:=h;rw[dY]at h;obtain⟨b,rfl,xs,zs,h⟩:=h;exact⟨a,b,xs,zs,rfl,rfl,h⟩⟩
def Wk{z:Str}(h:fE z):Yl (.str z)=true:=by
 unfold Yl;rw[iF,W7 (by have:=h.1;omega),W7 (by have:=h.2.1;omega),all_eq_true.mpr λc hc=>W7 (h.2.2 c hc)];rfl
def Dk.tup_ne{H:Hp}{d b p:UF}{xs:List V}(D:Dk H d b)(h:H p=some (.tup xs)):p≠d/\p≠b:=by
 obtain⟨ns,s,k,h1,h2,h3⟩:=D.ex;exact⟨λe=>(by rw[e,h1]at h;cases h),λe=>(by rw[e,h2]at h;cases h)⟩
inductive TV where
 | sc (v:V)
 | tp (xs:List TV)
 | ls (xs:List TV)
def kY:V->Bool|.non=>true|.bl _=>true|.int _=>true|.str _=>true|_=>false
def Jd(H:Hp):Nat->TV->V->Prop
 | 0,.sc v,x=>x=v/\kY v=true
 | _+1,.sc v,x=>x=v/\kY v=true
 | n+1,.tp ts,x=>∃a xs,x=.ref a/\H a=some (.tup xs)/\Paired (Jd H n) ts xs
 | n+1,.ls ts,x=>∃a xs,x=.ref a/\H a=some (.lst xs)/\Paired (Jd H n) ts xs
 | 0,_,_=>False
def Paired.map'{α β:Type}{R S:α->β->Prop}(f:∀a b,R a b->S a b){xs:List α}{ys:List β}(h:Paired R xs ys):Paired S xs ys:=by
 induction h with
 | nil=>exact .nil
 | cons h t ih=>exact .cons (f _ _ h) ih
def Paired.get'{α β:Type}{R:α->β->Prop}:∀ {xs:List α}{ys:List β}{j:Nat},Paired R xs ys->∀(h:j<ys.length),∃h':j<xs.length,R xs[j] ys[j]
 | _,_,0,.cons h t,_=>⟨succ_pos _,h⟩
 | _,_,j+1,.cons h t,hj=>let ⟨h',r⟩:=Paired.get' (j:=j) t (by simpa using hj);⟨by simpa using h',by simpa using r⟩
section
variable {X:Cx}{pins:ZB}{s:TW}{σ:St}{H:Hp}
def Pg(B:Around):B.in1.units=B.units+1:=rfl
def jO(n:Nat):(List.range n).all (λ_=>true)=true:=all_eq_true.mpr λ_ _=>rfl
def Je(I:Inv X pins σ H s):∀(n:Nat){t:TV}{x y:V}{v u:T0}{A:Around},Jd H n t x->Jd H n t y->RelV x v->RelV y u->A.units+n<cLine->SeqAt.EqAt A s v u true:=by
 have sc:∀ {v:V}{x y:V}{v1 u1:T0}{A:Around},(x=v/\kY v=true)->(y=v/\kY v=true)->RelV x v1->RelV y u1->SeqAt.EqAt A s v1 u1 true:=by
  rintro v x y v1 u1 A ⟨rfl,hx⟩ ⟨rfl,_⟩ r1 r2
  cases y with
  | non=>cases r1;cases r2;exact SeqAt.EqAt.same _
  | bl i=>cases r1;cases r2;exact SeqAt.EqAt.same _
  | int i=>
   obtain⟨t1,rfl⟩:=r1;obtain⟨t2,rfl⟩:=r2;have:=SeqAt.EqAt.int_int (A:=A) (s:=s) i t1 i t2
   rwa [beq_self_eq_true]at this
  | str i=>
   obtain⟨t1,rfl⟩:=r1;obtain⟨t2,rfl⟩:=r2;have:=SeqAt.EqAt.str_str (A:=A) (s:=s) i t1 i t2
   rwa [beq_self_eq_true]at this
  | _=>cases hx
 intro n;induction n with
 | zero=>
  intro t x y v u A h1 h2 r1 r2 hu;cases t with
  | sc z=>exact sc h1 h2 r1 r2
  | _=>exact h1.elim
 | succ n ih=>
  intro t x y v u A h1 h2 r1 r2 hu;cases t with
  | sc z=>exact sc h1 h2 r1 r2
  | tp ts=>
   obtain⟨a,xs,rfl,g1,p1⟩:=h1;obtain⟨b,ys,rfl,g2,p2⟩:=h2;cases r1;cases r2;by_cases CP:a=b
   ·subst CP;exact SeqAt.EqAt.same _
   ·obtain⟨its,ri,ti,_⟩:=I.tuple (QYV g1);obtain⟨d8,ni,vv,_⟩:=I.tuple (QYV g2);have zf:its.length=ts.length:=by rw[<- ri.length,p1.length]
    have yk:d8.length=ts.length:=by rw[<- ni.length,p2.length]
    have key:=SeqAt.RcAt.tuples (A:=A) (s:=s) (e:=λ_=>true) ti vv Zo (λj h1 h2=>by
     rw[eB]at h1 h2;obtain⟨M6,q1⟩:=Paired.get' (j:=j) ri h1;obtain⟨Q7,q2⟩:=Paired.get' (j:=j) ni h2;obtain⟨h3,q3⟩:=Paired.get' (j:=j) p1 M6;obtain⟨h4,q4⟩:=Paired.get' (j:=j) p2 Q7;simpa using ih q3 q4 q1 q2 (by rw[Pg];omega))
    have e:((List.range (min its.toArray.size d8.toArray.size)).all (λ_=>true)&&its.toArray.size==d8.toArray.size)=true:=by
     rw[jO,eB,eB,zf,yk,beq_self_eq_true];rfl
    rw[e]at key;exact SeqAt.EqAt.of_refs CP key
  | ls ts=>
   obtain⟨a,xs,rfl,g1,p1⟩:=h1;obtain⟨b,ys,rfl,g2,p2⟩:=h2;cases r1;cases r2;by_cases CP:a=b
   ·subst CP;exact SeqAt.EqAt.same _
   ·obtain⟨its,ri,ti,_⟩:=I.list (QYU g1);obtain⟨d8,ni,vv,_⟩:=I.list (QYU g2);have zf:its.length=ts.length:=by rw[<- ri.length,p1.length]
    have yk:d8.length=ts.length:=by rw[<- ni.length,p2.length]
    have key:=SeqAt.RcAt.lists (A:=A) (s:=s) (e:=λ_=>true) ti.isList vv.isList (by rw[eB,eB,zf,yk]) Zo (λj h1 h2=>by
     rw[eB]at h1 h2;obtain⟨M6,q1⟩:=Paired.get' (j:=j) ri h1;obtain⟨Q7,q2⟩:=Paired.get' (j:=j) ni h2;obtain⟨h3,q3⟩:=Paired.get' (j:=j) p1 M6;obtain⟨h4,q4⟩:=Paired.get' (j:=j) p2 Q7;simpa using ih q3 q4 q1 q2 (by rw[Pg];omega))
    rw[jO]at key;exact SeqAt.EqAt.of_refs CP key
end
section
variable {X:Cx}
def aAE(neg:Bool):R2:=λx y H Q=>∃n t,n<=50/\Jd H n t x/\Jd H n t y/\Q (.bl (!neg)) H
def Ph(neg:Bool){pins:ZB}{s:TW}{σ:St}{H:Hp}{x y:V}{v u:T0}{Q:VK}{op:CmpOp}(HY:op=if neg then .NotEq else .Eq)(hu:X.A.units+64<cLine)(I:Inv X pins σ H s)(rx:RelV x v)(ry:RelV y u)(h:aAE neg x y H Q) :
  wpAny (model X.prog X.w) X.A (compareOp op v u) (EP X pins σ Q) X.xe s:=by
 obtain⟨n,t,hn,h1,h2,q⟩:=h;have sc:∀z,t=.sc z->wpAny (model X.prog X.w) X.A (compareOp op v u) (EP X pins σ Q) X.xe s:=by
  rintro z rfl;have e1:x=z/\kY z=true:=by cases n<;>exact h1
  have e2:y=z/\kY z=true:=by cases n<;>exact h2
  obtain⟨rfl,hx⟩:=e1;obtain⟨rfl,_⟩:=e2;have hs:L2.scal y y=true:=by cases y<;>first|rfl|cases hx
  cases neg with
  | true=>
   subst HY;exact Ry pins s σ H y y v u Q I rx ry ⟨hs,by simpa using q⟩
  | false=>
   subst HY;exact Rx pins s σ H y y v u Q I rx ry ⟨hs,by simpa using q⟩
 cases n with
 | zero=>
  cases t with
  | sc z=>exact sc z rfl
  | _=>exact h1.elim
 | succ n=>
  cases t with
  | sc z=>exact sc z rfl
  | tp ts=>
   obtain⟨a,xs,rfl,g1,p1⟩:=h1;obtain⟨b,ys,rfl,g2,p2⟩:=h2;cases rx;cases ry;obtain⟨its,ri,ti,_⟩:=I.tuple (QYV g1);obtain⟨d8,ni,vv,_⟩:=I.tuple (QYV g2);have zf:its.length=ts.length:=by rw[<- ri.length,p1.length]
   have yk:d8.length=ts.length:=by rw[<- ni.length,p2.length]
   have each:∀j (h1:j<its.toArray.size) (h2:j<d8.toArray.size),SeqAt.EqAt X.A.in1 s its.toArray[j] d8.toArray[j] true:=λj h1 h2=>by
    rw[eB]at h1 h2;obtain⟨M6,q1⟩:=Paired.get' (j:=j) ri h1;obtain⟨Q7,q2⟩:=Paired.get' (j:=j) ni h2;obtain⟨h3,q3⟩:=Paired.get' (j:=j) p1 M6;obtain⟨h4,q4⟩:=Paired.get' (j:=j) p2 Q7;simpa using Je I n q3 q4 q1 q2 (by rw[Pg];omega)
   have e:((List.range (min its.toArray.size d8.toArray.size)).all (λ_=>true)&&its.toArray.size==d8.toArray.size)=true:=by
    rw[jO,eB,eB,zf,yk,beq_self_eq_true];rfl
   cases neg with
   | true=>
    subst HY;have key:=SeqAt.RcNeAt.tuples (A:=X.A) (s:=s) (e:=λ_=>true) ti vv Zo each;rw[e]at key;exact key _ _ _ _ ⟨.bl false,H,I,rfl,q⟩
   | false=>
    subst HY;have key:=SeqAt.RcAt.tuples (A:=X.A) (s:=s) (e:=λ_=>true) ti vv Zo each;rw[e]at key;exact key _ _ _ _ ⟨.bl true,H,I,rfl,q⟩
  | ls ts=>
   obtain⟨a,xs,rfl,g1,p1⟩:=h1;obtain⟨b,ys,rfl,g2,p2⟩:=h2;cases rx;cases ry;obtain⟨its,ri,ti,_⟩:=I.list (QYU g1);obtain⟨d8,ni,vv,_⟩:=I.list (QYU g2);have zf:its.length=ts.length:=by rw[<- ri.length,p1.length]
   have yk:d8.length=ts.length:=by rw[<- ni.length,p2.length]
   have each:∀j (h1:j<its.toArray.size) (h2:j<d8.toArray.size),SeqAt.EqAt X.A.in1 s its.toArray[j] d8.toArray[j] true:=λj h1 h2=>by
    rw[eB]at h1 h2;obtain⟨M6,q1⟩:=Paired.get' (j:=j) ri h1;obtain⟨Q7,q2⟩:=Paired.get' (j:=j) ni h2;obtain⟨h3,q3⟩:=Paired.get' (j:=j) p1 M6;obtain⟨h4,q4⟩:=Paired.get' (j:=j) p2 Q7;simpa using Je I n q3 q4 q1 q2 (by rw[Pg];omega)
   cases neg with
   | true=>
    subst HY;have key:=SeqAt.RcNeAt.lists (A:=X.A) (s:=s) (e:=λ_=>true) ti.isList vv.isList (by rw[eB,eB,zf,yk]) Zo each;rw[jO]at key;exact key _ _ _ _ ⟨.bl false,H,I,rfl,q⟩
   | false=>
    subst HY;have key:=SeqAt.RcAt.lists (A:=X.A) (s:=s) (e:=λ_=>true) ti.isList vv.isList (by rw[eB,eB,zf,yk]) Zo each;rw[jO]at key;exact key _ _ _ _ ⟨.bl true,H,I,rfl,q⟩
def R.ii(hu:X.A.units+64<cLine):jF X (compareOp .NotEq) (aAE true):=⟨λpins s σ H x y v u Q I rx ry h=>Ph true rfl hu I rx ry h⟩
def R.ij{st:Stmt}:XS X st (λ_ _ _=>False):=⟨λpins s σ H D I h=>h.elim⟩
end
def Wl(a b:Str):ltCps b.cps.toList a.cps.toList=false↔a.cps.toList<=b.cps.toList:=by
 rw[ltCps_eq,decide_eq_false_iff_not];exact Iff.rfl
def Jf{a b:Str}(h:a.cps.toList=b.cps.toList):a=b:=by rw[pR a,pR b,h]
def hJ:∀(l:List Str)(p:Str),risingS p l=true->(p::l).Pairwise (λa b=>a.cps.toList<=b.cps.toList)
 | [],p,_=>List.pairwise_singleton _ _
 | x::r,p,h=>by
  unfold risingS at h;rw[Bool.and_eq_true]at h;obtain⟨h1,h2⟩:=h;have ih:=hJ r x h2;have TN:p.cps.toList<=x.cps.toList:=(Wl p x).mp (by simpa using h1);refine pairwise_cons.mpr ⟨λy hy=>?_,ih⟩;rcases mem_cons.mp hy with rfl|hy
  ·exact TN
  ·exact le_trans TN ((pairwise_cons.mp ih).1 y hy)
def nF:∀(l:List Str),sortedS l=true->l.Pairwise (λa b=>a.cps.toList<=b.cps.toList)
 | [],_=>List.Pairwise.nil
 | x::r,h=>hJ r x h
def oC:∀(l m:List Str),l.Perm m->l.Pairwise (λa b=>a.cps.toList<=b.cps.toList)->m.Pairwise (λa b=>a.cps.toList<=b.cps.toList)->l=m
 | [],m,hp,_,_=>(List.nil_perm.mp hp).symm
 | a::l,[],hp,_,_=>(List.perm_nil.mp hp)
 | a::l,b::m,hp,h1,h2=>by
  obtain⟨p1,p2⟩:=pairwise_cons.mp h1;obtain⟨q1,q2⟩:=pairwise_cons.mp h2;have e:a=b:=by
   have ma:a∈b::m:=hp.mem_iff.mp jI;have mb:b∈a::l:=hp.mem_iff.mpr jI;rcases mem_cons.mp ma with h|h
   ·exact h
   ·rcases mem_cons.mp mb with h'|h'
    ·exact h'.symm
    ·exact Jf (List.le_antisymm (p1 b h') (q1 a h))
  subst e;rw[oC l m (List.Perm.cons_inv hp) p2 q2]
def vS(ss:List Str):List Str:=ss.mergeSort (λa b=>decide (a.cps.toList<=b.cps.toList))
def lM(ss:List Str):(vS ss).Perm ss:=List.mergeSort_perm _ _
def pS(ss:List Str):(vS ss).Pairwise (λa b=>a.cps.toList<=b.cps.toList):=by
 have:=List.pairwise_mergeSort (le:=λ(a b:Str)=>decide (a.cps.toList<=b.cps.toList)) (λa b c h1 h2=>W7 (le_trans (W9 h1) (W9 h2))) (λa b=>by
  rcases List.le_total a.cps.toList b.cps.toList with h|h
  ·simp[h]
  ·simp [h]) ss
 exact this.imp λh=>W9 h
def Wm{ss ND:List Str}(hp:ND.Perm ss)(hs:sortedS ND=true):ND=vS ss:=
 oC _ _ (hp.trans (lM ss).symm) (nF _ hs) (pS ss)
def uG(ss:List Str):(vS ss).length=ss.length:=(lM ss).length_eq
section
variable {prog:Program}{w:World}{A:Around}{E:X9}{s:TW}
def pT{l:UF}{T:String}{o:Obj}{vs:List T0}{ss:List Str}{n:Nat}{Q:X9}(hT:T="list"∨T="tuple")(ho:s.heap.get? l=some o)(hc:o.cls=.type T)(hd:o.data=.seq vs.toArray n)(hS:StrsAre vs ss)(JW:vs.length<64)(h:∀(h1 h':Heap)(out:Array Value)(e:Nat),(∀b ob,s.heap.get? b=some ob->h1.get? b=some ob)->(∀b ob,h1.get? b=some ob->h'.get? b=some ob)->h'.get? h1.objs.size=some (seqObj "list" out e)->StrsAre out.toList (vS ss)->Q (.ref h1.objs.size) {s with heap:=h' }) :
  wpAny (model prog w) A (call (.builtin "sorted") [.ref l]) Q E s:=by
 apply Calls.call_function_entry kind_sorted plain_sorted entry_sorted (args_sorted1 _);unfold Builtin.«sorted»;apply X7 (m:=checkCount "sorted" 1 1 _);apply X6;apply X7;refine wpAny_collect_seq l hT ho hc hd (λh1 k1=>?_) (by rw[eB];exact kN (le_of_lt JW) Zd);have e1:vs.toArray.toList=vs:=by simp
 rw[e1];apply X7;apply wpAny_newList
 ·have g2:(h1.push (seqObj "list" vs.toArray 0)).get? h1.objs.size=some (seqObj "list" vs.toArray 0):=UV _ rfl;apply X7;apply wpAny_holding;refine wpAny_call_entry slot_list_sort ⟨_,g2,rfl⟩ entry_list_sort (list_sort_treeK strKind_oneLt g2 hS.keysOf (λv₁ v₂ rest e=>keyKind_strs (by rw[<- e];exact hS)) JW λvn hp hs=>⟨_,rfl,X6 ⟨_,rfl,?_⟩⟩) (args_list_sort _);obtain⟨ND,q1,q2,q3⟩:=sorted_out_str hS hp hs;obtain⟨e,he⟩:=sortedHeap_at (out:=(arrOf vn).map (·.2)) g2;refine h h1 _ _ e k1 (λb ob TQ=>?_) he (Wm q2 q3▸q1);have B5:=Heap.lt_size TQ;rw[sortedHeap_old (ne_of_lt B5) (by rw[size_push'];exact Nat.lt_succ_of_lt B5)];exact eP _ TQ
 ·exact kN (le_of_lt JW) Zd
end
def sF:∀ {vs:List T0}{ss:List Str},StrsAre vs ss->Vals (ss.map V.str) vs
 | _,_,.nil=>.nil
 | _,_,.cons x t h=>.cons ⟨t,rfl⟩ (sF h)
section
variable {X:Cx}
def uH(K:W.Frag):List V->Hp->VK->Prop:=λvs H Q=>match vs with
 | [.ref a]=>∃ss:List Str,(SqL K H a (ss.map V.str)∨SqT K H a (ss.map V.str))/\ss.length<64/\∀l,H l=none->Q (.ref l) (aI H l (.lst ((vS ss).map V.str)))
 | _=>False
def Jg:CallR X (.builtin "sorted") (uH X.K):=by
 intro pins s σ H xs us Q I r h;unfold uH at h;split at h
 ·rename_i a;obtain⟨ss,hq,JW,q⟩:=h;obtain⟨u,rfl,ru⟩:=jE r;cases ru;have fin:∀(h1 h':Heap)(out:Array Value)(e:Nat),(∀c ob,s.heap.get? c=some ob->h1.get? c=some ob)->(∀c ob,h1.get? c=some ob->h'.get? c=some ob)->h'.get? h1.objs.size=some (seqObj "list" out e)->StrsAre out.toList (vS ss)->EP X pins σ Q (.ref h1.objs.size) {s with heap:=h' }:=λh1 h' out e k1 k he hS=>by
   have I1:=I.kept (t':=s.toks) k1;refine⟨.ref h1.objs.size,_,I1.laid (t':=s.toks) (o:=.lst ((vS ss).map V.str)) k (bQ _) ?_,rfl,q _ (I1.hok.fresh (bQ _))⟩;refine⟨?_,out.toList,e,sF hS,he⟩;rw[aZ,uG];exact kN (le_of_lt JW) Zd
  rcases hq with hq|hq
  ·obtain⟨its,r1,p1,_⟩:=I.list hq;obtain⟨o,ho,hc,n,hd⟩:=p1.isList;have hl:=r1.length;rw[aZ]at hl;exact pT (.inl rfl) ho hc hd (kX r1) Zo fin
  ·obtain⟨its,r1,p1,_⟩:=I.tuple hq;obtain⟨o,ho,hc,n,hd⟩:=p1;have hl:=r1.length;rw[aZ]at hl;exact pT (.inr rfl) ho hc hd (kX r1) Zo fin
 ·exact h.elim
def R.ik{K:W.Frag}(hK:X.K=K:=by rfl):XC X (.builtin "sorted") (uH K):=hK▸⟨Jg⟩
end
def TK(H H':Hp):Prop:=∀a xs,H a=some (.tup xs)->H' a=some (.tup xs)
def TK.trans{H H1 H2:Hp}(a:TK H H1)(b:TK H1 H2):TK H H2:=λp xs h=>b p xs (a p xs h)
def Same.tk{H H':Hp}(s:Same H H'):TK H H':=λa xs h=>s _ _ h
def Kp.tk{H H':Hp}{d b:UF}(D:Dk H d b)(k:Kp d b H H'):TK H H':=λa xs h=>k _ _ h (D.tup_ne h).1 (D.tup_ne h).2
def fZ{H:Hp}{l:UF}{xs ys:List V}(g:H l=some (.lst xs)):TK H (aI H l (.lst ys)):=λa zs h=>by
 have:a≠l:=λe=>by rw[e,g]at h;cases h
 rw[aD this];exact h
def RepT(H:Hp):Nat->TV->V->Prop
 | 0,.sc v,x=>x=v/\kY v=true
 | _+1,.sc v,x=>x=v/\kY v=true
 | n+1,.tp ts,x=>∃a xs,x=.ref a/\H a=some (.tup xs)/\Paired (RepT H n) ts xs
 | _,_,_=>False
def RepT.scal{H:Hp}{n:Nat}{v:V}(h:kY v=true):RepT H n (.sc v) v:=by
 cases n<;>exact⟨rfl,h⟩
def RepT.s{H:Hp}{n:Nat}{z:Str}:RepT H n (.sc (.str z)) (.str z):=.scal rfl
def RepT.i{H:Hp}{n:Nat}{z:Int}:RepT H n (.sc (.int z)) (.int z):=.scal rfl
section
variable {X:Cx}{es:List Expr}{t:TA}{pos:Pos}
def Sl(t:TA):TE:=λσ H Q=>t σ H λxs H1=>xs.length<=1000/\∀p H',Same H1 H'->H' p=some (.tup xs)->Q (.ref p) H'
def Pi{x1}(h:PA X es t):PE X (.Tuple es x1 pos) (Sl t):=by
 intro pins s σ H Q I hq;refine wpAny_Tuple_spliced (bU (h pos pins s σ H _ I hq) λus s1 ⟨xs,H1,I1,r,z,q⟩=>⟨by rw[<- r.length];exact fA z,?_⟩);have hf:H1 s1.heap.objs.size=none:=I1.hok.fresh (bQ _);refine⟨.ref s1.heap.objs.size,aI H1 s1.heap.objs.size (.tup xs),I1.laid (t':=s1.toks) (λb u e=>eP _ e) (bQ _) ?_,rfl,q _ _ (aF hf) aA⟩;exact⟨fA z,us,r,⟨_,UV _ rfl,rfl,_,rfl⟩⟩
def R.aq{x1}(h:XA X es t):XE X (.Tuple es x1 pos) (Sl t):=⟨Pi h.h⟩
end
abbrev Z:=Addr×Str×Int
def Ee(H:Hp)(zs:List Z):Prop:=∀z∈zs,H z.1=some (.tup [.str z.2.1,.int z.2.2])
def fF(zs:List Z):List V:=zs.map λz=>V.ref z.1
section
variable {X:Cx}{pins:ZB}{σ:St}{H:Hp}{s:TW}
def nG:∀ {xs:List V}{vs:List T0} (i:Nat),Vals xs vs->i<xs.length->∀x,xs[i]?=some x->RelV x (vs.getD i Value.none)
 | x::xs,v::vs,0,.cons r rs,_,y,hy=>by
  cases hy;exact r
 | x::xs,v::vs,i+1,.cons r rs,hi,y,hy=>by
  have:=nG i rs (by simpa using hi) y (by simpa using hy);simpa using this
end
def uI:typeLookup (.type "list") "keys"=pure none:=am_miss_of_fast (by kernel_rfl)
def jZ:plainId "dict.update.loop"=true:=by decide +kernel
def sI:entryFor table "dict.update.loop"=some Builtin.«dict.update.loop»:=entryFor_of_tree (by kernel_rfl)
section
variable {prog:Program}{w:World}{A:Around}{E:X9}{s:TW}
def Pj{a:UF}{o:Obj}{xs:Array Value}{k:Nat}{Q:Option T0->TW->Prop}(hx:s.heap.get? a=some o)(hc:o.cls=.type "list")(JX:o.data=.seq xs k)(hd:o.dict=none)(hA:A.handled=none)(h:∀h' tk,(∀b ob,s.heap.get? b=some ob->h'.get? b=some ob)->Q none {s with heap:=h',toks:=tk }):wpAny (model prog w) A (getAttr? (.ref a) "keys") Q E s:=by
 obtain⟨c,dct,dat,sl⟩:=o;simp only at hc JX hd;subst hc JX hd;obtain⟨hp,g,d,tk,os⟩:=s;have hT:∀CQ,(⟨hp,g,d,CQ,os⟩:TW).TypeIs (.ref a) "list":=λ_=>⟨_,hx,rfl⟩
 have f1:=sub_AttributeError;have f3:=F.slot_list_getattribute.lookup;have f4:=F.slot_list_getattribute.bind (.ref a);have f5:=am_list_getattr_none;have f6:=uI;unfold getAttr? getAttrBy? getAttrBy
 repeat (any_goals (first|assumption|exact hT _|((with_reducible show wpAny _ _ (call (Value.builtin "list.__getattribute__") _ _) _ _ _);refine call_meets F.slot_list_getattribute (hT _) am_entry_list_getattribute (F.args_list_getattribute_2 _ _) (meets_getattribute_miss_list a xs k sl "keys" _ f6 Zk) ⟨hx,hA,λh' CQ e X0=>?_⟩)|wp_step))
 obtain⟨t',u',he⟩:=X0.there;show wpAny _ _ (getattributeRaised _ _ _ _ _ _ _) _ _ _;unfold getattributeRaised;repeat (any_goals (first|assumption|wp_step))
 exact h _ _ X0.keeps
def Sm(h:Heap)(v:T0)(q:bA×V):Prop:=∃a u x,v=Value.ref a/\IsTup h a #[u,x]/\RelV (kV q.1) u/\RelV q.2 x
def Jh(hh:A.handled=none){I l d:UF}{its:List T0}{qs:List (bA×V)}{R:Result->TW->Prop}{res:T0}(ZH:I≠l)(PK:I≠d)(BV:l≠d) :
  ∀(k i:Nat)(s:TW)(kvs:List (bA×V))(vs:List (bA×T0))(z:Int),its.length-i=k->i<=its.length->qs.length=its.length->s.heap.IsListIter I l i->s.heap.IsList l its.toArray->(∀(j:Nat)(v:T0)(q:bA×V),its[j]?=some v->qs[j]?=some q->Sm s.heap v q) →
  (∀(j:Nat)(v:T0)(a:UF),its[j]?=some v->v=Value.ref a->a≠I/\a≠d)->s.heap.DictOf (aT prog w) d vs->KV kvs vs->kvs.length+k<=1000 →
  (∀h' tk nj,(∀b ob,b≠I->b≠d->s.heap.get? b=some ob->h'.get? b=some ob)->h'.DictOf (aT prog w) d nj->KV (bD kvs (qs.drop i)) nj->R (.ok (.ret res)) {s with heap:=h',toks:=tk }) →
  codeAny (model prog w) A (.builtin "dict.update.loop" ⟨[.ref d,.ref I,.int z 0,res],[]⟩) R s:=by
 intro k;induction k with
 | zero=>
  intro i s kvs vs z hk hi FF hit hl hp C7 hd rel hz hR;obtain rfl:i=its.length:=by omega
  refine codeAny_builtin sI ?_;rw[Around.under_plainId jZ _];show wpAny _ A.in1 (pyNext (.ref I)>>=_) _ _ s;apply X7;refine wpAny_pyNext_list_end hh hit hl Zs λh' eb=>?_;show wpAny _ A.in1 (Builtin.Dict.addKeywords d []>>=_) _ _ _;apply X7;apply X6;apply X6;refine hR h' s.toks vs (λb ob hb _ e=>eb b ob hb e) (hd.extBut eb PK.symm) ?_;rw[<- FF,List.drop_length];exact rel
 | succ k ih=>
  intro i s kvs vs z hk hi FF hit hl hp C7 hd rel hz hR;have B5:i<its.length:=by omega
  obtain⟨v,hv⟩:∃v,its[i]?=some v:=⟨its[i],by simp[B5]⟩;obtain⟨q,hq⟩:∃q,qs[i]?=some q:=⟨qs[i],by simp[FF,B5]⟩;obtain⟨a,u,x,rfl,⟨ob,EA,HU,n,ZI⟩,ru,rx⟩:=hp i v q hv hq;obtain⟨na,nd⟩:=C7 i _ a hv rfl;refine codeAny_builtin sI ?_;rw[Around.under_plainId jZ _];show wpAny _ A.in1 (pyNext (.ref I)>>=_) _ _ s;apply X7;refine wpAny_pyNext_list_item hit hl (x:=.ref a) (by simpa using hv) λh' vw sb=>?_;have JY:h'.get? a=some ob:=(sb.2 a na).trans EA;have EO:h'.DictOf (aT prog w) d vs:=hd.extBut sb.extBut PK.symm;apply X7;apply wpAny_holding;apply X7;apply wpAny_tryCatch;unfold Builtin.Dict.pairItems;apply X7;refine wpAny_typeOf (T:="tuple") ⟨ob,JY,HU⟩ ?_;rw[TD Zd];apply X7;refine wpAny_seqItems JY ZI ?_;apply X6;show wpAny _ _ (holding [u,x] (dictSet d u x)) _ _ _;apply wpAny_holding;have ZJ:vs.length<=sizeLine:=by rw[<- rel.length];exact fA Zo
  refine wpAny_dictSet_pairs (s:={s with heap:=h' }) (nZ ru) EO (λh2 hd2 TR=>?_) ZJ;apply X6;refine⟨plainId_quiet jZ _,?_⟩;have hl0:=dW kvs q.1 q.2;have ex:∀b o,b≠I->b≠d->s.heap.get? b=some o->h2.get? b=some o:=λb o b1 b2 e=>(TR.2 b b2).trans ((sb.2 b b1).trans e)
  refine ih (i+1) _ (bN kvs q.1 q.2) (stored vs q.1 x) _ Zo Zo FF ?_ ?_ ?_ C7 hd2 (rel.put q.1 rx) Zo λh3 tk nj k3 HZ PL=>?_
  ·exact vw.at λo e=>(TR.2 I PK).trans e
  ·obtain⟨o,e,r⟩:=hl;exact⟨o,ex l o ZH.symm BV e,r⟩
  ·intro j v q' hj kx;obtain⟨a',u',x',rfl,⟨o',Q5,r'⟩,rr⟩:=hp j v q' hj kx;obtain⟨n1,n2⟩:=C7 j _ a' hj rfl;exact⟨a',u',x',rfl,⟨o',ex a' o' n1 n2 Q5,r'⟩,rr⟩
  ·refine hR h3 tk nj (λb o b1 b2 e=>k3 b o b1 b2 (ex b o b1 b2 e)) HZ ?_;have e1:qs.drop i=q::qs.drop (i+1):=by
    rw[List.drop_eq_getElem_cons Zo]
    congr 1
    have:qs[i]?=some qs[i]:=gZ Zo;rw[this]at hq;exact Option.some.inj hq
   rw[e1];exact PL
def wH(hh:A.handled=none){l:UF}{o:Obj}{n:Nat}{its:List T0}{qs:List (bA×V)}{Q:X9}(OU:s.heap.get? l=some o)(NF:o.cls=.type "list")(BV:o.data=.seq its.toArray n)(PM:o.dict=none)(FF:qs.length=its.length)(hp:∀(j:Nat)(v:T0)(q:bA×V),its[j]?=some v->qs[j]?=some q->Sm s.heap v q)(hz:its.length<=1000)(h:∀h' tk nj,(∀b ob,s.heap.get? b=some ob->h'.get? b=some ob)->h'.DictOf (aT prog w) s.heap.objs.size nj->KV (bD [] qs) nj->Q (.ref s.heap.objs.size) {s with heap:=h',toks:=tk }) :
  wpAny (model prog w) A (call (.type "dict") [.ref l]) Q E s:=by
 refine callType_codes (Q₁:=λobj s₁=>obj=.ref s.heap.objs.size/\s₁={s with heap:=s.heap.push {cls:=.type "dict",data:=.dict #[] } }) F.kt_called_dict (F.kt_typeCall_dict_1 _) F.entry_dict_init (kt_code_dict_new _ ⟨rfl,rfl⟩) ?_;rintro obj s₁ ⟨rfl,rfl⟩;have FG:(s.heap.push {cls:=.type "dict",data:=.dict #[] }).DictOf (aT prog w) s.heap.objs.size []:=Heap.DictOf.new s.heap;have ug:(s.heap.push {cls:=.type "dict",data:=.dict #[] }).get? l=some o:=eP _ OU;refine⟨FG.typeIs,F.args_dict_init_2 _ _,?_⟩;unfold Builtin.«dict.__init__»;apply X7;unfold Builtin.Dict.selfAndRest;apply X7;refine wpAny_notOrdered_dict FG.typeIs ?_;show wpAny _ _ (pure (s.heap.objs.size,[Value.ref l])) _ _ _;apply X6;show wpAny _ _ (Builtin.Dict.updateFrom "dict.__init__" s.heap.objs.size (.ref l) [] .none) _ _ _;unfold Builtin.Dict.updateFrom;apply X7;refine wpAny_typeOf (T:="list") ⟨o,ug,NF⟩ ?_;rw[TD Zd];apply X7;refine Pj ug NF BV PM hh λh1 tk k1=>?_;rw[TD (show(none:Option T0).isNone=true from rfl)];apply X7;apply wpAny_rule;have vo:h1.get? l=some o:=k1 _ _ ug;have ZK:h1.IsList l its.toArray:=⟨o,vo,NF,n,BV⟩;have hd2:h1.DictOf (aT prog w) s.heap.objs.size []:=by
  obtain⟨oo,es,ep,ho,r⟩:=FG;exact⟨oo,es,ep,k1 _ _ ho,r⟩
 have CS:s.heap.objs.size<h1.objs.size:=by
  obtain⟨oo,es,ep,ho,r⟩:=hd2;exact Heap.lt_size ho
 have TU:l<s.heap.objs.size:=Heap.lt_size OU;apply X7;refine wpAny_pyIter_list (s:={s with heap:=h1,toks:=tk }) ZK ?_;apply X6;refine⟨plainId_quiet jZ _,?_⟩;refine Jh (A:=A.in1) (s:={s with heap:=h1.push {cls:=.type "list_iterator",data:=.fields #[.ref l,.int 0 0] },toks:=tk }) (its:=its) (qs:=qs) (l:=l) hh (ne_of_gt (lt_trans TU CS)) (ne_of_gt CS) (ne_of_lt TU) its.length 0 [] [] 0 rfl (zero_le _) FF ⟨_,UV _ rfl,rfl,rfl⟩ ?_ ?_ ?_ (hd2.push _) .nil (by simpa using hz) ?_
 ·exact⟨o,eP _ vo,NF,n,BV⟩
 ·intro j v q hj hq;obtain⟨a,u,x,rfl,⟨ob,EA,r⟩,rr⟩:=hp j v q hj hq;exact⟨a,u,x,rfl,⟨ob,eP _ (k1 _ _ (eP _ EA)),r⟩,rr⟩
 ·intro j v a hj e;obtain⟨q,hq⟩:∃q,qs[j]?=some q:=by
   have:j<its.length:=(Zgs.mp hj).1;exact⟨qs[j],by simp[FF,this]⟩
  obtain⟨a',u,x,e',⟨ob,EA,r⟩,rr⟩:=hp j v q hj hq;rw[e]at e';cases e';have:=Heap.lt_size EA;exact⟨ne_of_lt (lt_trans this CS),ne_of_lt this⟩
 ·intro h' CQ nj k' EO PN;refine⟨rfl,h h' CQ nj (λb ob e=>?_) EO PN⟩;have:=Heap.lt_size e;exact k' b ob (ne_of_lt (lt_trans this CS)) (ne_of_lt this) (eP _ (k1 _ _ (eP _ e)))
end
section
variable {X:Cx}
abbrev W:=Addr×bA×V
def WAt(H:Hp)(zs:List W):Prop:=∀z∈zs,H z.1=some (.tup [kV z.2.1,z.2.2])
def uJ(K:W.Frag):List V->Hp->VK->Prop:=λvs H Q=>match vs with
 | [.ref a]=>∃zs:List W,SqL K H a (zs.map λz=>V.ref z.1)/\WAt H zs/\zs.length<=1000/\∀d,H d=none->Q (.ref d) (aI H d (.dK (bD [] (zs.map (·.2)))))
 | _=>False
def Ji(FH:X.calm=true):CallR X (.type "dict") (uJ X.K):=by
 intro pins s σ H xs us Q I r h;unfold uJ at h;split at h
 ·rename_i a;obtain⟨zs,hq,hz,TX,q⟩:=h;obtain⟨u,rfl,ru⟩:=jE r;cases ru;obtain⟨its,r1,p1,_⟩:=I.list hq;obtain⟨o,n,ho,hc,PQ,hd⟩:=p1;have hl:zs.length=its.length:=by
   have:=r1.length;rw[aZ]at this;exact this
  refine wH (I.ok.hd FH) ho hc hd PQ (qs:=zs.map (·.2)) (by rw[aZ];exact hl) (λj v q' hj kx=>?_) Zo λh' tk nj k hd rel=>?_
  ·rw[jC]at kx;cases JZ:zs[j]? with
   | none=>rw[JZ]at kx;cases kx
   | some z=>
    rw[JZ]at kx;cases kx;have e:=hz z (jW JZ);obtain⟨_,d8,r2,it⟩:=(show ObjOk X.prog X.w H s.heap z.1 (.tup [kV z.2.1,z.2.2]) from I.hok _ _ e);have yl:j<zs.length:=(Zgs.mp JZ).1;have rv:RelV (V.ref z.1) (its.getD j Value.none):=nG j r1 (by rw[aZ];exact yl) _ (by rw[jC,JZ];rfl);have ev:its.getD j Value.none=v:=by rw[getD_eq_getElem?_getD,hj];rfl
    rw[ev]at rv;cases rv
    cases r2 with
    | cons a1 r3=>
     cases r3 with
     | cons a2 r4=>
      cases r4;exact⟨z.1,_,_,rfl,it,a1,a2⟩
  ·have hf:H s.heap.objs.size=none:=I.hok.fresh (bQ _);refine⟨.ref s.heap.objs.size,_,I.laid (t':=tk) (o:=.dK (bD [] (zs.map (·.2)))) k (bQ _) ⟨?_,?_,nj,rel,hd⟩,rfl,q _ hf⟩
   ·have:=eU (zs.map (·.2)) [];rw[aZ]at this;exact fA (by simp at this;omega)
   ·have hb:=I.big;exact beq_eq_false_iff_ne.mpr (ne_of_gt hb)
 ·exact h.elim
def R.il{K:W.Frag}(FH:X.calm=true)(hK:X.K=K:=by rfl):XC X (.type "dict") (uJ K):=hK▸⟨Ji FH⟩
end
def aAF(K:W.Frag)(te:TE)(f:Str):TE:=λσ H Q=>te σ H λx H1=>mR x λa=>∃C dx fs v,H1 a=some (.ins C dx fs)/\Cls K C/\NoAttr K C f/\fs.lookup f=some v/\Q v H1
def Sn(K:W.Frag)(ta tv:TE)(f:Str):TS:=λD σ H=>tv σ H λy H1=>ta σ H1 λx H2=>mR x λa=>∃C dx fs,H2 a=some (.ins C dx fs)/\Cls K C/\NoAttr K C f/\fs.length<1000/\D.nx σ (aI H2 a (.ins C dx (bL f y fs)))
section
variable {X:Cx}{e o value:Expr}{f:Str}{pos pos':Pos}{te ta tv:TE}{K:W.Frag}
def Pk(he:PE X e te)(hb:attributeBase e f X.env (eval e X.env)=eval e X.env):PE X (.Attribute e f pos) (aAF X.K te f):=by
 intro pins s σ H Q I h;refine Al hb (bU (he pins s σ H _ I h) λu s1 ⟨x,H1,I1,rx,q1⟩=>?_);dsimp only at q1;rw[dY]at q1;obtain⟨a,rfl,C,dx,fs,v,ea,c,n,l,q⟩:=q1;obtain rfl:u=Value.ref a:=rx;exact yE I1 ea c n l λu' s2 I2 ru=>⟨v,H1,I2,ru,q⟩
def Pl(ha:PE X o ta)(hv:PE X value tv)(hs:swapsWith value (some (.Attribute o f pos')) pos.line X.env=pure false):PS X (.Assign [.Attribute o f pos'] value pos) (Sn X.K ta tv f):=by
 intro pins s σ H D I h;refine plainObj_wpAny_Assign_Attribute (bU (hv pins s σ H _ I h) λu s1 ⟨y,H1,I1,ry,q⟩=>bU (ha pins s1 σ H1 _ I1 q) λov s2 ⟨x,H2,I2,rx,q1⟩=>?_) hs;dsimp only at q1;rw[dY]at q1;obtain⟨a,rfl,C,dx,fs,ea,c,n,l,q2⟩:=q1;obtain rfl:ov=Value.ref a:=rx;exact yG I2 ea c n l ry λs3 I3=>⟨σ,_,I3,q2⟩
end
structure sJ(P:Program)(w:World)(K:W.Frag)(mg:X8)(base:Heap)(n:Nat)(C:UF)(m:Str)(ps:List Str)(sp:Sp):Prop where
 ex:∃f fd,Cls K C/\Uu K C m f/\iE P w K mg base qW n f fd ps sp/\Binds K fd ps []
structure Wn(P:Program)(w:World)(K:W.Frag)(mg:X8)(base:Heap)(n:Nat)(x:Str)(C:UF)(ps:List Str)(dvs:List V)(sp:Sp):Prop where
 ex:∃f fd ds,mg x=some (.ref C)/\Mk K C f/\iE P w K mg base qW n f fd ps sp/\Binds K fd ps ds/\Vals dvs ds
def So(C:UF)(m:Str)(sp:Sp)(ta:TE)(t:TA):TE:=λσ H Q=>ta σ H λx H1=>mR x λa=>∃dx fs,H1 a=some (.ins C dx fs)/\fs.lookup m=none/\t σ H1 λvs H2=>sp (.ref a::vs) H2 Q E0
section
variable {X:Cx}{e o:Expr}{es:List Expr}{m x:Str}{p pos apos:Pos}{ta:TE}{t:TA}{C:UF}{n:Nat}{ps:List Str}{sp:Sp}{dvs:List V}
def Jj{pl:Sem Bool}(he:PE X o ta)(c:sJ X.prog X.w X.K X.mg X.base n C m ps sp)(hr:Room n X.A)(ha:PA X (e::es) t)(hs:aM e=true)(uf:(backTo pos (starEach es X.env)).any (·.1)=false)(ht:eval (.Call (.Attribute o m apos) (e::es) [] pos) X.env=(do
   let ov←eval o X.env
   standAt apos.atName
   let (f,first)←holding [ov] (getMethod ov m pl)
   callWith pos f first (backTo pos (starEach (e::es) X.env)) (backToKw pos (keywordEach [] X.env)))) :
  PE X (.Call (.Attribute o m apos) (e::es) [] pos) (So C m sp ta t):=by
 obtain⟨f,fd,cl,hm,F,hb⟩:=c.ex;intro pins s σ H Q I h;refine W.methodCall_KW (pl:=pl) (bU (he pins s σ H _ I h) λu s1 ⟨x,H1,I1,rx,q1⟩=>?_) ht;dsimp only at q1;rw[dY]at q1;obtain⟨a,rfl,dx,fs,ea,l,q⟩:=q1;obtain rfl:u=Value.ref a:=rx;refine yF I1 ea cl hm l ?_;refine W.callWith_K (first:=[.ref a]) (h₀:=X.base) I.ok.mod.kin hm.kp (bU (ha pos pins s1 σ H1 _ I1 q) λus s2 ⟨vs,H2,I2,r,q2⟩=>⟨I2.kIn,?_⟩) (bB hs) uf;exact Gr (us:=.ref a::us) (vs:=.ref a::vs) (dvs:=[]) (ds:=[]) F hr hb .nil Av I2 (.cons rfl r) (by rw[append_nil];exact q2)
end
structure FunD(K:W.Frag)(x qual:Str)(st:Stmt)(dv:T0)(f:UF)(fd:FuncData):Prop where
 ex:∃(oc:T0)(od:Option UF)(kV doc pm:T0)(an:Option UF)(cdv ct:T0)(osl:Array (Option T0)),
  fd=W.fnOf x qual (bZ st) (aV st) (aB st) dv kV doc pm an cdv ct/\K.lookup f=some ⟨oc,od,.func fd,osl⟩/\W.codeIn K cdv qual=true
section
variable {P:Program}{w:World}{K:W.Frag}{mg:X8}{base:Heap}{x qual:Str}{st:Stmt}{dv:T0}{f C:UF}{fd:FuncData}{N ps:List Str}{k:Nat}{sp:Sp}
def FunD.go(F:FunD K x qual st dv f fd)(S:aJ N ps (aB st))(len:∀vs H Q E,sp vs H Q E->vs.length=ps.length)(n8:∀(cdv:T0)(A:Around)(outer:List Env)(s:TW)(H:Hp)(vs:List V)(Q:VK)(E:XK),Room k (A.deeper (envOfC qual (aB st) s.heap.objs.size f cdv))->sp vs H Q E →
   ∃t,XB (fL qW P w K mg base N qual (aB st) f cdv A outer s H E).nox (aV st) t/\t {nx:=λ_ H'=>Q .non H',rt:=Q } (start N vs) H):iE P w K mg base qW (k+1) f fd ps sp:=by
 obtain⟨oc,od,kV,doc,pm,an,cdv,ct,osl,rfl,lk,ue⟩:=F.ex;refine Gu lk ue S len λA outer s H vs Q E hr ya=>?_;obtain⟨t,h,q⟩:=n8 cdv A outer s H vs Q E hr ya;exact⟨t,h.h.nox,q⟩
structure MethAt(K:W.Frag)(C:UF)(m qual:Str)(st:Stmt)(ps:List Str):Prop where
 cl:Cls K C
 ex:∃f fd,Fun K m qual st f fd/\Uu K C m f/\Binds K fd ps []
def MethAt.go{m:Str}(D:MethAt K C m qual st ps)(S:aJ N ps (aB st))(len:∀vs H Q E,sp vs H Q E->vs.length=ps.length)(n8:∀(f:UF)(cdv:T0)(A:Around)(outer:List Env)(s:TW)(H:Hp)(vs:List V)(Q:VK)(E:XK),Room k (A.deeper (envOfC qual (aB st) s.heap.objs.size f cdv))->sp vs H Q E →
   ∃t,XB (fL qW P w K mg base N qual (aB st) f cdv A outer s H E).nox (aV st) t/\t {nx:=λ_ H'=>Q .non H',rt:=Q } (start N vs) H):sJ P w K mg base (k+1) C m ps sp:=by
 obtain⟨f,fd,F,hm,hb⟩:=D.ex;exact⟨f,fd,D.cl,hm,F.go S len (n8 f),hb⟩
structure ClsAt(K:W.Frag)(mg:X8)(x:Str)(C:UF)(qual:Str)(st:Stmt)(ps:List Str)(dvs:List (List V)):Prop where
 ex:∃f fd dv,mg x=some (.ref C)/\FunD K "__init__" qual st dv f fd/\Mk K C f/\∀d∈dvs,∃ds,Binds K fd ps ds/\Vals d ds
def ClsAt.go{dvs:List (List V)}(D:ClsAt K mg x C qual st ps dvs)(S:aJ N ps (aB st))(len:∀vs H Q E,sp vs H Q E->vs.length=ps.length)(n8:∀(f:UF)(cdv:T0)(A:Around)(outer:List Env)(s:TW)(H:Hp)(vs:List V)(Q:VK)(E:XK),Room k (A.deeper (envOfC qual (aB st) s.heap.objs.size f cdv))->sp vs H Q E →
   ∃t,XB (fL qW P w K mg base N qual (aB st) f cdv A outer s H E).nox (aV st) t/\t {nx:=λ_ H'=>Q .non H',rt:=Q } (start N vs) H):∀d∈dvs,Wn P w K mg base (k+1) x C ps d sp:=by
 intro d hd;obtain⟨f,fd,dv,e,F,M,hb⟩:=D.ex;obtain⟨ds,b,v⟩:=hb d hd;exact⟨f,fd,ds,e,M,F.go S len (n8 f),b,v⟩
end
namespace R
section
variable {X:Cx}{e o i value:Expr}{es:List Expr}{m x f:Str}{p pos pos' apos:Pos}{te ta tv td ty:TE}{t:TA}{C:UF}{n:Nat}{ps:List Str}{sp:Sp}{dvs:List V}{K:W.Frag}{tg:Expr}
def bg(he:XE X e te)(hK:X.K=K:=by rfl)(hb:attributeBase e f X.env (eval e X.env)=eval e X.env:=by rfl):XE X (.Attribute e f pos) (aAF K te f):=hK▸⟨Pk he.h hb⟩
def di(ha:XE X o ta)(hv:XE X value tv)(hK:X.K=K:=by rfl)(hs:swapsWith value (some (.Attribute o f pos')) pos.line X.env=pure false:=by rfl):XS X (.Assign [.Attribute o f pos'] value pos) (Sn K ta tv f):=hK▸⟨Pl ha.h hv.h hs⟩
def dz(hu:X.A.units+1<cLine)(ho:XE X o td)(hi:XE X i ty)(hs:Ve i:=by exact λ_ _=>rfl):XE X (.Subscript o i pos) (Se td ty):=⟨Oi hu ho.h hi.h hs⟩
def cq{pl:Sem Bool}(c:sJ X.prog X.w X.K X.mg X.base n C m ps sp)(hr:Room n X.A)(he:XE X o ta)(ha:XA X (e::es) t)(hs:aM e=true:=by rfl)(h2:es.all aM=true:=by rfl)(ht:eval (.Call (.Attribute o m apos) (e::es) [] pos) X.env=(do
   let ov←eval o X.env
   standAt apos.atName
   let (f,first)←holding [ov] (getMethod ov m pl)
   callWith pos f first (backTo pos (starEach (e::es) X.env)) (backToKw pos (keywordEach [] X.env))):=by rfl):XE X (.Call (.Attribute o m apos) (e::es) [] pos) (So C m sp ta t):=⟨Jj he.h c hr ha.h hs (fB h2) ht⟩
def jv(c:Wn X.prog X.w X.K X.mg X.base n x C ps [] sp)(hr:Room (n+1) X.A)(hg:Gl X x)(ha:XA X (e::es) t)(E2:(x==("__debug__":Str))=false:=by decide)(hs:aM e=true:=by rfl)(h2:es.all aM=true:=by rfl) :
  XE X (.Call (.Name x p) (e::es) [] pos) (Am C sp [] E0 t):=by
 obtain⟨f,fd,ds,hm,M,F,hb,hd⟩:=c.ex;exact⟨Ny M F hr hg hm hb hd Av ha.h E2 (bB hs) (fB h2)⟩
def jr(c:Wn X.prog X.w X.K X.mg X.base n x C ps dvs sp)(hr:Room (n+1) X.A)(hg:Gl X x)(E2:(x==("__debug__":Str))=false:=by decide) :
  XE X (.Call (.Name x p) [] [] pos) (Am C sp dvs E0 yJ):=by
 obtain⟨f,fd,ds,hm,M,F,hb,hd⟩:=c.ex;exact⟨Gs M F hr hg hm hb hd Av E2⟩
end
end R
def mM(prs:List (Str×Int)):List (bA×V):=prs.map λq=>(Sum.inr q.1,V.int q.2)
def dM(prs:List (Str×Int))(n:Str):Int:=(prs.lookup n).getD 0
def wI(prs:List (Str×Int)):(mM prs).map (·.1)=(prs.map (·.1)).map Sum.inr:=by
 unfold mM;rw[map_map,map_map];rfl
def uK(n:Str):∀(prs:List (Str×Int)),bC (mM prs) (Sum.inr n)=(prs.lookup n).map V.int
 | []=>rfl
 | q::r=>by
  unfold mM;rw[map_cons,lookup_cons];by_cases h:n=q.1
  ·subst h;rw[cJ rfl];simp
  ·have hb:(n==q.1)=false:=beq_eq_false_iff_ne.mpr h;rw[cK (by intro z;exact h (Sum.inr.inj z).symm),hb];exact uK n r
def oS(prs:List (Str×Int))(n:Str):(bC (mM prs) (Sum.inr n)).getD (V.int 0)=V.int (dM prs n):=by
 rw[uK];unfold dM;cases prs.lookup n<;>rfl
def kA:∀(more kvs:List (bA×V)),(more.map (·.1)).Nodup->(∀k∈more.map (·.1),bC kvs k=none)->bD kvs more=kvs++more
 | [],kvs,_,_=>(append_nil _).symm
 | p::r,kvs,hn,h=>by
  obtain⟨h1,h2⟩:=nodup_cons.mp hn;show bD (bN kvs p.1 p.2) r=_;have e0:bC kvs p.1=none:=h p.1 Zs;rw[kA r _ h2 λk hk=>?_,wA _ e0]
  ·simp
  ·rw[cV,P7 (λ(z:k=p.1)=>h1 (by dsimp only;rw[<- z];exact hk))];exact h k (oP _ hk)
def sK:∀ {l:List Str},l.Nodup->(l.map (Sum.inr:Str->bA)).Nodup
 | [],_=>nodup_nil
 | a::l,h=>by
  obtain⟨h1,h2⟩:=nodup_cons.mp h;refine nodup_cons.mpr ⟨λz=>?_,sK h2⟩;obtain⟨b,hb,e⟩:=Zmm.mp z;cases e;exact h1 hb
def sM{prs:List (Str×Int)}(h:(prs.map (·.1)).Nodup):bD [] (mM prs)=mM prs:=by
 rw[kA _ _ (by rw[wI];exact sK h) λ_ _=>rfl];rfl
def pU{n:Str}:∀ {prs:List (Str×Int)},n∈prs.map (·.1)->∃a,prs.lookup n=some a
 | q::r,h=>by
  rw[lookup_cons];by_cases e:n=q.1
  ·subst e;exact⟨q.2,Zs⟩
  ·have hb:(n==q.1)=false:=beq_eq_false_iff_ne.mpr e;rw[hb];rcases mem_cons.mp h with z|z
   ·exact QZZ z e
   ·exact pU z
structure Wo(K:W.Frag)(C:UF):Prop where
 cl:Cls K C
 nA:NoAttr K C "amounts"
structure BookAt(C:UF)(H:Hp)(p:UF)(prs:List (Str×Int)):Prop where
 ex:∃dx d,H p=some (.ins C dx [("amounts",.ref d)])/\H d=some (.dK (mM prs))
 nd:(prs.map (·.1)).Nodup
def BookAt.same{C:UF}{H H':Hp}{p:UF}{prs:List (Str×Int)}(B:BookAt C H p prs)(s:Same H H'):BookAt C H' p prs:=by
 obtain⟨dx,d,h1,h2⟩:=B.ex;exact⟨⟨dx,d,s _ _ h1,s _ _ h2⟩,B.nd⟩
def Wp(H:Hp)(r:V)(prs:List (Str×Int)):Prop:=(r=.non/\prs=[])∨∃l zs,r=.ref l/\H l=some (.lst (fF zs))/\Ee H zs/\zs.map (·.2)=prs
def iG(C:UF):Sp:=λvs H Q _=>∃(p:UF)(n:Str)(prs:List (Str×Int)),vs=[.ref p,.str n]/\BookAt C H p prs/\Q (.int (dM prs n)) H
def wz(zs:List Z):List W:=zs.map λz=>(z.1,Sum.inr z.2.1,V.int z.2.2)
def Wq(zs:List Z):((wz zs).map λz=>V.ref z.1)=fF zs:=by
 unfold wz fF;rw[map_map];rfl
def aAG{H:Hp}{zs:List Z}(h:Ee H zs):WAt H (wz zs):=λz hz=>by
 obtain⟨y,hy,rfl⟩:=Zmm.mp hz;exact h y hy
def Wr(zs:List Z):(wz zs).map (·.2)=mM (zs.map (·.2)):=by
 unfold wz mM;rw[map_map,map_map];rfl
def aBN(y:V):bL "amounts" y []=[(("amounts":Str),y)]:=rfl
def put1(x y:V):bL "amounts" y [(("amounts":Str),x)]=[(("amounts":Str),y)]:=by
 unfold bL;rw[TD rfl]
def oE(y:V):([(("amounts":Str),y)]:List (Str×V)).lookup ("amounts":Str)=some y:=by
 rw[lookup_cons];simp
def pV{m:Str}(y:V)(h:(m==("amounts":Str))=false):([(("amounts":Str),y)]:List (Str×V)).lookup m=none:=by
 rw[lookup_cons,h];rfl
section
variable {M:Model}{A:Around}{E:X9}{s:TW}
def Jk(e:UF)(oe:Obj)(h':Heap):Prop:=∃zg,h'.get? e=some zg/\zg.dict=oe.dict
def Jl{base:Heap}{env:Env}{outer:List Env}{L e:UF}{oe:Obj}{vs:Array Value}{head a0:T0}{CT:Bool}{Q:Unit->TW->Prop}(mn:A.frames=some (env::outer))(hl:s.heap.FunFrames base (env::outer))(hf:env.frame=some L)(he:s.heap.get? e=some oe)(FI:base.StaysIn s.heap)(KA:base.get? e=none)(hd:oe.data=.fields vs)(hsz:1<vs.size)(h0:vs[0]?=some a0)(h:∀h',Heap.NotedW base (env::outer) e oe.cls a0 (rawInt L) s.heap h'->Jk e oe h'->Q () {s with heap:=h' }) :
  wpAny M A (do let a←frameOf env;let pl←entryPlaceOf L CT;let b←EntryCells.newEntry head a .none (rawInt L) .none pl;setField (.ref e) 1 b) Q E s:=by
 have PR:e∉(env::outer).filterMap (·.frame):=λhm=>by
  obtain⟨_,o,ho,X1⟩:=hl.mem hm;rw[he]at ho;cases ho;exact X1 vs hd
 refine X7 (wpAny_frameOf_fun mn hl hf λk1 s1=>X7 (wpAny_entryPlaceOf λpl uf=>?_));unfold EntryCells.newEntry newFields;refine X7 (wpAny_newObj_type ?_ (uf.sizeOk5 _ _ _ _ _));have e1:k1.get? e=some oe:=(s1.2.1 e PR).trans he;have b1:base.StaysIn k1:=λb o vx=>(s1.2.1 b λhm=>by rw[(hl.mem hm).1]at vx;cases vx).trans (FI b o vx)
 have e2:=eP (h:=k1) {cls:=.type "traceback",dict:=none,data:=.fields ([head,.ref L,.none,rawInt L,.none]++(if pl.isEmpty then replicate 6 Value.none else pl)).toArray } e1;have TY:k1.objs.size≠e:=ne_of_gt (Heap.lt_size e1);have d3:=Obj.data_mapFields hd (·.setIfInBounds 1 (Value.ref k1.objs.size));have e3:=Heap.get?_update_self (Obj.mapFields (·.setIfInBounds 1 (Value.ref k1.objs.size))) e2 (Obj.isFreed_of_fields d3);have t3:=(Heap.get?_update_other (k1.push {cls:=.type "traceback",dict:=none,data:=.fields ([head,.ref L,.none,rawInt L,.none]++(if pl.isEmpty then replicate 6 Value.none else pl)).toArray }) (Obj.mapFields (·.setIfInBounds 1 (Value.ref k1.objs.size))) (Ne.symm TY)).trans (UV k1 rfl);have kp:∀b o,b≠e->k1.get? b=some o->((k1.push {cls:=.type "traceback",dict:=none,data:=.fields ([head,.ref L,.none,rawInt L,.none]++(if pl.isEmpty then replicate 6 Value.none else pl)).toArray }).update e (Obj.mapFields (·.setIfInBounds 1 (Value.ref k1.objs.size)))).get? b=some o:=λb o CG hb=>by rw[Heap.get?_update_other _ _ (Ne.symm CG)];exact eP _ hb
 have nr:∀b o,s.heap.get? b=some o->(∀vs,o.data≠.fields vs)->b≠e:=λb o hb X1 q=>by rw[q,he]at hb;cases hb;exact X1 vs hd
 refine wpAny_setField e2 hd hsz (h _ ⟨λb o vx=>kp b o (λq=>by rw[q,KA]at vx;cases vx) (b1 b o vx),hl.of_keeps λb o hb X1=>?_,?_,λb o hb X1=>?_⟩ ⟨_,e3,?_⟩)
 ·obtain⟨sl,hs⟩:=s1.2.2 b o hb;exact⟨_,kp b _ (nr b o hb X1) hs,rfl⟩
 ·exact⟨_,_,k1.objs.size,_,_,e3,⟨Obj.cls_mapFields _ _,by rw[Array.getElem?_setIfInBounds_ne Zd];exact h0⟩,d3,by simp[hsz],b1.fresh,TY,t3,rfl,by first|(simp;done)|(rcases uf with rfl|⟨_,_,_,_,_,_,_,rfl⟩<;>simp)⟩
 ·obtain⟨sl,hs⟩:=s1.2.2 b o hb;exact⟨sl,kp b _ (nr b o hb X1) hs⟩
 ·obtain⟨oc,od,odt,osl⟩:=oe;cases hd;rfl
def aAH{base:Heap}{env:Env}{outer:List Env}{L e:UF}{oe:Obj}{cls a0:T0}{Q:Unit->TW->Prop}(mn:A.frames=some (env::outer))(hl:s.heap.FunFrames base (env::outer))(hf:env.frame=some L)(he:s.heap.get? e=some oe)(ht:s.heap.TracedW base e cls a0)(FI:base.StaysIn s.heap)(KA:base.get? e=none)(h:∀h',Heap.NotedW base (env::outer) e cls a0 (rawInt L) s.heap h'->Jk e oe h'->Q () {s with heap:=h' }):wpAny M A (noteFrame (.ref e) env) Q E s:=by
 obtain⟨zg,vs,T,oT,ts,ED,⟨zk,h0⟩,hd,h1,NG,KC,hT,EE,h3⟩:=ht;rw[he]at ED;cases ED;subst zk;unfold noteFrame;simp only [hf];refine X7 (wpAny_field he hd h1 ?_);rw[TD (show(Value.ref T != Value.none)=true from by simp)];refine X7 (wpAny_field hT EE h3 ?_);rw[P7 (show ¬ ((Value.none==rawInt L)=true) from by simp[rawInt])];refine X7 (wpAny_setField hT EE (Array.getElem?_eq_some_iff.mp h3).1 ?_);have ot:∀b,b≠T->(s.heap.update T (Obj.mapFields (·.setIfInBounds 3 Value.none))).get? b=s.heap.get? b:=λb hb=>Heap.get?_update_other _ _ (Ne.symm hb)
 have nr:∀b o,s.heap.get? b=some o->(∀vs,o.data≠.fields vs)->b≠T:=λb o hb X1 q=>by rw[q,hT]at hb;cases hb;exact X1 ts EE
 refine Jl mn (hl.of_keeps λb o hb X1=>⟨o,(ot b (nr b o hb X1)).trans hb,rfl⟩) hf ((ot e (Ne.symm KC)).trans he) (λb o vx=>(ot b λq=>by rw[q,NG]at vx;cases vx).trans (FI b o vx)) KA hd (Array.getElem?_eq_some_iff.mp h1).1 h0
  λh' ⟨x1,x2,x3,x4⟩ hD=>h h' ⟨x1,x2,x3,λb o hb X1=>x4 b o ((ot b (nr b o hb X1)).trans hb) X1⟩ hD
def Sq{base:Heap}{l:List Env}{e:UF}{oe:Obj}{cls a0 fl:T0}{Q:Unit->TW->Prop}(FI:base.StaysIn s.heap)(hl:s.heap.FunFrames base l)(he:s.heap.get? e=some oe)(ht:s.heap.TracedAtW base e cls a0 fl)(h:∀h',base.StaysIn h'->h'.FunFrames base l->h'.TracedW base e cls a0->(∀b o,s.heap.get? b=some o->(∀vs,o.data≠.fields vs)->h'.get? b=some o)->h'.get? e=some oe->Q () {s with heap:=h' }):wpAny M A (setFlight (.ref e) none) Q E s:=by
 obtain⟨zg,vs,T,oT,ts,ED,zk,hd,h1,NG,KC,hT,EE,h3⟩:=ht;rw[he]at ED;cases ED;have z3:3<ts.size:=(Array.getElem?_eq_some_iff.mp h3).1;have ot:∀b,b≠T->(s.heap.update T (Obj.mapFields (·.setIfInBounds 3 ((none:Option UF).elim Value.none λf=>rawInt f)))).get? b=s.heap.get? b:=λb hb=>Heap.get?_update_other _ _ (Ne.symm hb)
 have nr:∀b o,s.heap.get? b=some o->(∀vs,o.data≠.fields vs)->b≠T:=λb o hb X1 q=>by rw[q,hT]at hb;cases hb;exact X1 ts EE
 unfold setFlight;refine X7 (wpAny_field he hd h1 ?_);rw[TD (show(Value.ref T != Value.none)=true from by simp)];refine wpAny_setField hT EE z3 (h _ (λb o vx=>(ot b λq=>by rw[q,NG]at vx;cases vx).trans (FI b o vx)) (hl.of_keeps λb o hb X1=>⟨o,(ot b (nr b o hb X1)).trans hb,rfl⟩) ?_ (λb o hb X1=>(ot b (nr b o hb X1)).trans hb) ((ot e (Ne.symm KC)).trans he));exact⟨oe,vs,T,_,_,(ot e (Ne.symm KC)).trans he,zk,hd,h1,NG,KC,Heap.get?_update_self _ hT (Obj.isFreed_of_fields (Obj.data_mapFields EE _)),Obj.data_mapFields EE _,by simp[z3]⟩
def Ws{base:Heap}{env:Env}{outer:List Env}{L e:UF}{oe:Obj}{vs:Array Value}{a0:T0}{Q:Unit->TW->Prop}(mn:A.frames=some (env::outer))(hl:s.heap.FunFrames base (env::outer))(hf:env.frame=some L)(he:s.heap.get? e=some oe)(FI:base.StaysIn s.heap)(KA:base.get? e=none)(hd:oe.data=.fields vs)(h1:vs[1]?=some .none)(h0:vs[0]?=some a0)(h:∀h',Heap.LeftW base (env::outer) e oe.cls a0 s.heap h'->Jk e oe h'->Q () {s with heap:=h' }):wpAny M A (leaving env (.ref e)) Q E s:=by
 unfold leaving noteFrame;simp only [hf];refine X7 (X7 (wpAny_field he hd h1 ?_));rw[P7 Zd];refine Jl mn hl hf he FI KA hd (Array.getElem?_eq_some_iff.mp h1).1 h0 λk ⟨x1,x2,x3,x4⟩ ⟨zg,y1,y2⟩=>?_;exact Sq (s:={s with heap:=k }) x1 x2 y1 x3 λh' z1 z2 z3 z4 z5=>h h' ⟨z1,z2,z3,λb o hb X1=>let ⟨sl,q⟩:=x4 b o hb X1;⟨sl,z4 b _ q X1⟩⟩ ⟨zg,z5,y2⟩
end
section
variable {P:Program}{w:World}{H H0:Hp}{h h1 h2:Heap}{a:UF}{o:HO}
def ObjOk.has(x:ObjOk P w H h a o):∃ob,h.get? a=some ob:=by
 cases o with
 | lst xs=>obtain⟨_,_,_,_,e⟩:=x;exact⟨_,e⟩
 | tup xs=>obtain⟨_,_,_,ob,e,_⟩:=x;exact⟨_,e⟩
 | dK kvs=>obtain⟨_,_,_,_,ob,_,_,e,_⟩:=x;exact⟨_,e⟩
 | dT kvs=>obtain⟨_,_,_,_,ob,_,_,e,_⟩:=x;exact⟨_,e⟩
 | set S n=>obtain⟨ob,_,_,_,e,_⟩:=x;exact⟨_,e⟩
 | ins C dx fs=>obtain⟨_,_,_,e,_⟩:=x;exact⟨_,e⟩
 | own y=>exact x
 | xd fs=>obtain⟨_,⟨ob,_,_,e,_⟩,_⟩:=x;exact⟨_,e⟩
 | rng lo hi=>obtain⟨_,_,_,e⟩:=x;exact⟨_,e⟩
 | frz ob u=>exact⟨_,x.1⟩
 | tbl ps=>exact⟨_,x⟩
 | met f y=>exact⟨_,x⟩
 | ext φ=>exact x.2.1
def HOk.none_of(x:HOk P w H h)(e:h.get? a=none):H a=none:=by
 cases q:H a with
 | none=>rfl
 | some u=>
  obtain⟨ob,z⟩:=(x a u q).has;rw[e]at z;cases z
def yX{fs BW:List UF}{s0:Heap}(un:Un fs [] H0 H s0 h1)(hok:HOk P w H h1)(hh:∀b∈BW,b∈fs∨(s0.get? b=none/\H b=none))(FJ:∀b∈fs,b∈BW)(mn:∀b∈fs,H0 b=none/\∃o,s0.get? b=some o/\∀vs,o.data≠.fields vs)(hB:(W.hideAll h1 BW).StaysIn h2)(hS:∀b o,h1.get? b=some o->(∀vs,o.data≠.fields vs)->∃sl,h2.get? b=some {o with slots:=sl }):Un fs [] H0 H s0 h2/\HOk P w H h2:=by
 have kp:∀b ob,h1.get? b=some ob->b∉BW->h2.get? b=some ob:=λb ob q n=>hB b ob (W.hideAll_get _ q n)
 have nh:∀b ob,s0.get? b=some ob->b∉fs->b∉BW:=λb ob q n z=>by
  rcases hh b z with y|y
  ·exact n y
  ·rw[y.1]at q;cases q
 have sl:∀b ob,s0.get? b=some ob->b∈fs->∃sl,h2.get? b=some {ob with slots:=sl }:=λb ob q hb=>by
  obtain⟨h0,o',q',nf⟩:=mn b hb;rw[q]at q';cases q';obtain⟨sl,e⟩:=un.slot b ob q h0 hb Zs;obtain⟨EU,e2⟩:=hS b {ob with slots:=sl } e nf;exact⟨EU,e2⟩
 refine⟨⟨λb ob q n hb hx=>kp b ob (un.keep b ob q n hb hx) (nh b ob q hb),λb ob q n hb hx=>sl b ob q hb,un.free,λb ob q hx=>?_,un.tups,un.frzs,un.tbls⟩,λb u e=>?_⟩
 ·by_cases hb:b∈fs
  ·obtain⟨_,z⟩:=sl b ob q hb;exact⟨_,z⟩
  ·obtain⟨o',z⟩:=un.there b ob q hx;exact⟨o',kp b o' z (nh b ob q hb)⟩
 ·have nt:∀c v,H c=some v->c∉BW:=λc v hc z=>by
   rcases hh c z with y|y
   ·obtain⟨h0,o',q',_⟩:=mn c y;rw[un.free c o' q' h0 Zs]at hc;cases hc
   ·rw[y.2]at hc;cases hc
  refine(hok b u e).stay (λc v hc q=>kp c v q ?_) (λ_ q=>q) λ_ _ q=>q;rcases hc with z|z
  ·rw[z];exact nt b u e
  ·exact nt c _ z
def uL{fs BW:List UF}{s0:Heap}{T:UF}{oT:Obj}{ts:Array Value}(un:Un fs [] H0 H s0 h1)(hok:HOk P w H h1)(hh:∀b∈BW,b∈fs∨(s0.get? b=none/\H b=none))(mn:∀b∈fs,H0 b=none/\∃o,s0.get? b=some o/\∀vs,o.data≠.fields vs)(hS:∀b o,h1.get? b=some o->(∀vs,o.data≠.fields vs)->∃sl,h2.get? b=some {o with slots:=sl })(hn:(W.hideAll h1 BW).get? T=none)(hT:h2.get? T=some oT)(hd:oT.data=.fields ts):s0.get? T=none/\H T=none:=by
 by_cases hm:T∈BW
 ·rcases hh T hm with y|y
  ·obtain⟨h0,o',q',nf⟩:=mn T y;obtain⟨sl,e⟩:=un.slot T o' q' h0 y Zs;obtain⟨EU,e2⟩:=hS T _ e nf;rw[hT]at e2;cases e2;exact QZZ hd (nf ts)
  ·exact y
 ·have z:h1.get? T=none:=by
   cases q:h1.get? T with
   | none=>rfl
   | some ob=>
    rw[W.hideAll_get _ q hm]at hn;cases hn
  refine⟨?_,hok.none_of z⟩
  cases q:s0.get? T with
  | none=>rfl
  | some ob=>
   obtain⟨o',e⟩:=un.there T ob q Zs;rw[z]at e;cases e
end
def Trc(h:Heap)(a:UF)(cls fl:T0)(T:UF):Prop:=
 ∃oe vs a0 oT ts,h.get? a=some oe/\oe.cls=cls/\vs[0]?=some a0/\oe.data=.fields vs/\vs[1]?=some (.ref T)/\T≠a/\h.get? T=some oT/\oT.data=.fields ts/\ts[3]?=some fl
def DOf(h:Heap)(a:UF)(od:Option UF):Prop:=∀dx,od=some dx->∃oe,h.get? a=some oe/\oe.dict=some dx
structure Fly(P:Program)(w:World)(l:List Env)(H0:Hp)(s0:TW)(H:Hp)(a:UF)(cls:T0)(od:Option UF)(fl:T0)(s:TW):Prop where
 na:s0.heap.get? a=none
 os:s.os=s0.os
 bare:AllBare s.gens
 un:Un (jJ l) [] H0 H s0.heap s.heap
 hok:HOk P w H s.heap
 ha:H a=none
 tr:∃T,Trc s.heap a cls fl T/\s0.heap.get? T=none/\H T=none
 dd:DOf s.heap a od
def Bi(P:Program)(w:World):Gq:=λouter H s E e s'=>∃a cls od H',e=Value.ref a/\Fly P w outer H s H' a cls od .none s'/\E cls od H'
section
variable {X:Cx}{pins:ZB}{σ:St}{H H0:Hp}{s s0:TW}{a:UF}{cls fl:T0}{od:Option UF}{M:Model}{A:Around}{E:X9}{Q:Unit->TW->Prop}
def uM{l:List Env}{env:Env}{b:UF}(he:env∈l)(hb:env.frame=some b):b∈jJ l:=mem_filterMap.mpr ⟨env,he,hb⟩
def Inv.frms(I:Inv X pins σ H s):∀b∈jJ X.stack,H b=none/\∃o,s.heap.get? b=some o/\∀vs,o.data≠.fields vs:=λb hb=>
 ⟨I.stkFree b hb,(I.stack.mem hb).2⟩
def Fly.inv(F:Fly X.prog X.w X.stack H0 s0 H a cls od fl s)(I0:Inv X pins σ H0 s0):Inv X pins σ H s:=I0.call' F.os F.un F.hok F.bare (λ_ z=>nomatch z)
def Jm(I0:Inv X pins σ H0 s0)(F:Fly X.prog X.w X.stack H0 s0 H a cls od .none s)(hA:A.frames=some X.stack)(ze:X.stack=X.env::X.outer)(hf:X.env.frame=some X.env.locals)(k:∀s',Fly X.prog X.w X.stack H0 s0 H a cls od (rawInt X.env.locals) s'->Q () s'):wpAny M A (noteFrame (.ref a) X.env) Q E s:=by
 have I:=F.inv I0;obtain⟨T,⟨oe,vs,a0,oT,ts,e1,e2,e3,e4,e5,e6,e7,e8,e9⟩,nT,hT⟩:=F.tr;have ye:∀env∈X.stack,∀b,env.frame=some b->b∈jJ X.stack++[a,T]:=λenv he b hb=>QZX _ (uM he hb)
 have hh:∀b∈jJ X.stack++[a,T],b∈jJ X.stack∨(s0.heap.get? b=none/\H b=none):=λb hb=>by
  rcases Zma.mp hb with z|z
  ·exact .inl z
  ·rcases mem_cons.mp z with y|y
   ·rw[y];exact .inr ⟨F.na,F.ha⟩
   ·rw[Zms.mp y];exact .inr ⟨nT,hT⟩
 have vp:a∈jJ X.stack++[a,T]:=QZW _ jI;have vq:T∈jJ X.stack++[a,T]:=QZW _ (oP _ jI);have ff:=W.funFrames_hide I.stack ye;have go:=aAH (M:=M) (A:=A) (E:=E) (Q:=Q) (s:=s) (base:=W.hideAll s.heap (jJ X.stack++[a,T])) (env:=X.env) (outer:=X.outer) (L:=X.env.locals) (e:=a) (cls:=cls) (a0:=a0) (by rw[hA,ze]) (by rw[<- ze];exact ff) hf e1
  ⟨oe,vs,T,oT,ts,e1,⟨e2,e3⟩,e4,e5,W.hideAll_none _ vq,e6,e7,e8,e9⟩ (λb o q=>W.of_hideAll _ q) (W.hideAll_none _ vp) ?_
 ·exact go
 ·rintro h' ⟨k1,k2,⟨zg,nj,T',KD,KG,q1,⟨q2,q3⟩,q4,q5,q6,q7,q8,q9,KH⟩,k4⟩ ⟨PU,d1,d2⟩;obtain⟨u2,KJ⟩:=yX F.un F.hok hh (λb hb=>QZX _ hb) I0.frms k1 k4;obtain⟨n1,n2⟩:=uL F.un F.hok hh I0.frms k4 q6 q8 q9;refine k _ ⟨F.na,F.os,F.bare,u2,KJ,F.ha,⟨T',⟨zg,nj,a0,KD,KG,q1,q2,q3,q4,q5,q7,q8,q9,KH⟩,n1,n2⟩,λdx kr=>?_⟩;obtain⟨o1,z1,z2⟩:=F.dd dx kr;rw[e1]at z1;cases z1;exact⟨PU,d1,d2.trans z2⟩
def wJ(I0:Inv X pins σ H0 s0)(F:Fly X.prog X.w X.stack H0 s0 H a cls od fl s)(k:∀s',Fly X.prog X.w X.stack H0 s0 H a cls od .none s'->Q () s'):wpAny M A (setFlight (.ref a) none) Q E s:=by
 have I:=F.inv I0;obtain⟨T,⟨oe,vs,a0,oT,ts,e1,e2,e3,e4,e5,e6,e7,e8,e9⟩,nT,hT⟩:=F.tr;have ye:∀env∈X.stack,∀b,env.frame=some b->b∈jJ X.stack++[a,T]:=λenv he b hb=>QZX _ (uM he hb)
 have hh:∀b∈jJ X.stack++[a,T],b∈jJ X.stack∨(s0.heap.get? b=none/\H b=none):=λb hb=>by
  rcases Zma.mp hb with z|z
  ·exact .inl z
  ·rcases mem_cons.mp z with y|y
   ·rw[y];exact .inr ⟨F.na,F.ha⟩
   ·rw[Zms.mp y];exact .inr ⟨nT,hT⟩
 have vq:T∈jJ X.stack++[a,T]:=QZW _ (oP _ jI);refine Sq (base:=W.hideAll s.heap (jJ X.stack++[a,T])) (l:=X.stack) (cls:=cls) (a0:=a0) (fl:=fl) (λb o q=>W.of_hideAll _ q) (W.funFrames_hide I.stack ye) e1 ⟨oe,vs,T,oT,ts,e1,⟨e2,e3⟩,e4,e5,W.hideAll_none _ vq,e6,e7,e8,e9⟩ ?_;rintro h' k1 k2 ⟨zg,nj,T',KD,KG,q1,⟨q2,q3⟩,q4,q5,q6,q7,q8,q9,KH⟩ k4 kE;have k5:∀b o,s.heap.get? b=some o->(∀vs,o.data≠.fields vs)->∃sl,h'.get? b=some {o with slots:=sl }:=λb o q n=>⟨o.slots,k4 b o q n⟩
 obtain⟨u2,KJ⟩:=yX F.un F.hok hh (λb hb=>QZX _ hb) I0.frms k1 k5;obtain⟨n1,n2⟩:=uL F.un F.hok hh I0.frms k5 q6 q8 q9;refine k _ ⟨F.na,F.os,F.bare,u2,KJ,F.ha,⟨T',⟨zg,nj,a0,KD,KG,q1,q2,q3,q4,q5,q7,q8,q9,KH⟩,n1,n2⟩,λdx kr=>?_⟩;obtain⟨o1,z1,z2⟩:=F.dd dx kr;rw[e1]at z1;cases z1;exact⟨oe,kE,z2⟩
end
abbrev Sr:List Value:=[.type "ValueError",.type "Exception",.type "BaseException",.type "object"]
structure lN(P:Program)(w:World)(K:W.Frag)(mg:X8)(base:Heap)(n:Nat)(x:Str)(ps:List Str)(sp:Sp):Prop where
 ex:∃f fd,mg x=some (.ref f)/\W.keepIn K (.ref f)=true/\iE P w K mg base (Bi P w) n f fd ps sp/\Binds K fd ps []
def DefAt.goX{P:Program}{w:World}{K:W.Frag}{mg:X8}{base:Heap}{x:Str}{st:Stmt}{N ps:List Str}{k:Nat}{sp:Sp}(D:DefAt K mg x st ps)(S:aJ N ps (aB st))(len:∀vs H Q E,sp vs H Q E->vs.length=ps.length)(n8:∀(f:UF)(cdv:T0)(A:Around)(outer:List Env)(s:TW)(H:Hp)(vs:List V)(Q:VK)(E:XK),Room k (A.deeper (envOfC x (aB st) s.heap.objs.size f cdv))->sp vs H Q E →
   ∃t,XB (fL (Bi P w) P w K mg base N x (aB st) f cdv A outer s H E) (aV st) t/\t {nx:=λ_ H'=>Q .non H',rt:=Q } (start N vs) H):lN P w K mg base (k+1) x ps sp:=by
 obtain⟨f,fd,F,hm,hb⟩:=D.ex;refine⟨f,fd,hm,F.kp,?_,hb⟩;obtain⟨oc,od,kV,doc,pm,an,cdv,ct,osl,rfl,lk,ue⟩:=F.ex;refine Gu lk ue S len λA outer s H vs Q E hr ya=>?_;obtain⟨t,h,q⟩:=n8 f cdv A outer s H vs Q E hr ya;exact⟨t,h.h,q⟩
def Jn(X:Cx)(Ex:St->T0->Option UF->Hp->Prop):Prop:=∀(pins:ZB)(σ:St)(H:Hp)(s:TW)(e:T0)(s':TW),Inv X pins σ H s->Bi X.prog X.w X.stack H s (λcls od H'=>Ex σ cls od H') e s'->X.xe e s'
def aAI(sp:Sp)(Ex:St->T0->Option UF->Hp->Prop)(t:TA):TE:=λσ H Q=>t σ H λvs H1=>sp vs H1 Q (λcls od H'=>Ex σ cls od H')
section
variable {X:Cx}{x:Str}{n:Nat}{ps:List Str}{sp:Sp}{Ex:St->T0->Option UF->Hp->Prop}{e:Expr}{es:List Expr}{t:TA}{p pos:Pos}
def Wt(c:lN X.prog X.w X.K X.mg X.base n x ps sp)(hr:Room n X.A)(hg:Gl X x)(hx:Jn X Ex)(ha:PA X (e::es) t)(hs:aM e=true)(h2:es.all aM=true)(E2:(x==("__debug__":Str))=false) :
  PE X (.Call (.Name x p) (e::es) [] pos) (aAI sp Ex t):=by
 obtain⟨f,fd,hm,hk,F,hb⟩:=c.ex;intro pins s σ H Q I h;refine wpAny_Call_Name_kw (iC I hg hm ?_ E2);refine W.callWith_K (h₀:=X.base) I.ok.mod.kin hk (bU (ha pos pins s σ H _ I h) λus s1 ⟨vs,H1,I1,r,q⟩=>⟨I1.kIn,?_⟩) (bB hs) (fB h2);have hl:us.length=ps.length:=by rw[<- r.length];exact F.len _ _ _ _ q
 have J1:=hb s1 us I1.kIn (by rw[append_nil];exact hl);rw[append_nil]at J1;refine wpAny_call (codeAny_mono (F.run X.A X.stack s1 H1 ⟨us,[]⟩ us vs Q _ hr I1.env0 J1 r q) λrs s' hq=>?_)
 cases rs with
 | error e'=>exact hx pins σ H1 s1 e' s' I1 hq
 | ok fl=>
  cases fl with
  | ret u=>exact I1.after hq
  | next=>exact False.elim hq
  | brk=>exact False.elim hq
  | cont=>exact False.elim hq
end
def XF(X:Cx)(Ex:St->T0->Option UF->Hp->Prop):T0->TW->Prop:=λe s'=>∃ σ H s,Inv X [] σ H s/\Bi X.prog X.w X.stack H s (λcls od H'=>Ex σ cls od H') e s'
abbrev Cx.pin(X:Cx)(pn:ZB):Cx:={X with pn:=pn }
abbrev Cx.trying(X:Cx)(pn:ZB)(Ex:St->T0->Option UF->Hp->Prop):Cx:={X with pn:=pn,xe:=XF (X.pin pn) Ex }
abbrev Cx.handling(X:Cx)(a:UF):Cx:={X with A:=X.A.mark (some (.ref a)),calm:=false,xe:=λ_ _=>False }
section
variable {X:Cx}{pins pn:ZB}{σ:St}{H:Hp}{s:TW}{Ex:St->T0->Option UF->Hp->Prop}{a:UF}
def Cx.Ok.pin(ok:X.Ok):(X.pin pn).Ok:=⟨ok.mod,ok.kind,ok.glob,ok.blt,ok.above,ok.inj,ok.has,ok.cab,ok.hd,ok.frames,ok.stk,ok.exf,ok.bs,ok.bsz,ok.noex,ok.exfs,ok.funs,ok.frf⟩
def Cx.Ok.handling(ok:X.Ok):(X.handling a).Ok:=⟨ok.mod,ok.kind,ok.glob,ok.blt,ok.above,ok.inj,ok.has,ok.cab,nofun,ok.frames,ok.stk,ok.exf,ok.bs,ok.bsz,ok.noex,ok.exfs,ok.funs,ok.frf⟩
def Inv.pnIn(I:Inv X pins σ H s):Inv (X.pin (X.pn++pins)) [] σ H s:=⟨I.ok.pin,I.os,I.bare,I.base,I.loc,I.cell,I.free,I.freeC,λp hp=>I.pin p (by rw[append_nil]at hp;exact hp),I.hok,I.len⟩
def Inv.pnOut(I:Inv (X.pin (X.pn++pins)) [] σ H s)(ok:X.Ok):Inv X pins σ H s:=⟨ok,I.os,I.bare,I.base,I.loc,I.cell,I.free,I.freeC,λp hp=>I.pin p (by rw[append_nil];exact hp),I.hok,I.len⟩
def Inv.handling(I:Inv X pins σ H s):Inv (X.handling a) pins σ H s:=⟨I.ok.handling,I.os,I.bare,I.base,I.loc,I.cell,I.free,I.freeC,I.pin,I.hok,I.len⟩
def Inv.handled(I:Inv (X.handling a) pins σ H s)(ok:X.Ok):Inv X pins σ H s:=⟨ok,I.os,I.bare,I.base,I.loc,I.cell,I.free,I.freeC,I.pin,I.hok,I.len⟩
def Inv.trying(I:Inv (X.pin pn) pins σ H s):Inv (X.trying pn Ex) pins σ H s:=I.wish _
def Inv.tried(I:Inv (X.trying pn Ex) pins σ H s):Inv (X.pin pn) pins σ H s:=Inv.unwish (X:=X.pin pn) (E:=XF (X.pin pn) Ex) I
def uN:Jn (X.trying pn Ex) Ex:=λpins σ H s e s' I h=>⟨σ,H,s,I.tried.pins_of (λp hp=>nomatch hp),h⟩
def rA(a:UF)(cls:T0)(od:Option UF):Heap->Prop:=λh=>∃o vs,h.get? a=some o/\o.cls=cls/\o.data=.fields vs/\∀dx,od=some dx->o.dict=some dx
def Inv.exc{cls:T0}{od:Option UF}{H0:Hp}{s0:TW}{σ0:St}(I:Inv X pins σ H s)(I0:Inv X pins σ0 H0 s0)(hex:X.ex=[])(na:s0.heap.get? a=none)(ha:H a=none)(hx:rA a cls od s.heap):Inv X pins σ (aI H a (.ext (rA a cls od))) s where
 ok:=I.ok
 os:=I.os
 bare:=I.bare
 base:=by
  have n0:∀b ob,X.s₀.heap.get? b=some ob->b≠a:=λb ob q z=>by
   obtain⟨o',y⟩:=I0.base.there b ob q (by rw[hex];simp);rw[z,na]at y;cases y
  refine⟨I.base.keep,I.base.slot,λb ob q n hx=>?_,I.base.there,λb xs q=>?_,λb ob u q=>?_,λb ps q=>?_⟩
  ·rw[aD (n0 b ob q)];exact I.base.free b ob q n hx
  ·have:=I.base.tups b xs q;rw[aD (aE this ha)];exact this
  ·have:=I.base.frzs b ob u q;rw[aD (aE this ha)];exact this
  ·obtain⟨more,z⟩:=I.base.tbls b ps q;exact⟨more,by rw[aD (aE z ha)];exact z⟩
 loc:=I.loc
 cell:=I.cell
 free:=by
  have:X.env.locals≠a:=λz=>by
   obtain⟨m,⟨o,_,_,ho,_⟩,_⟩:=I0.loc;rw[z,na]at ho;cases ho
  rw[aD this];exact I.free
 freeC:=λx c h=>by
  have:c≠a:=λz=>by
   obtain⟨v,o,ho,_⟩:=I0.cell x c h;rw[z,na]at ho;cases ho
  rw[aD this];exact I.freeC x c h
 pin:=λp hp=>by
  obtain⟨p1,p2,p3⟩:=I.pin p hp;have:p.1≠a:=λz=>by
   have ho:=(I0.pin p hp).1;rw[z,na]at ho;cases ho
  exact⟨p1,by rw[aD this];exact p2,p3⟩
 hok:=by
  intro b u hb;by_cases q:b=a
  ·subst q;rw[aA]at hb;cases hb;obtain⟨o,vs,h1,h2,h3⟩:=hx;refine⟨⟨o,vs,h1,h2,h3⟩,⟨o,h1⟩,?_⟩;rintro ha hb2 ⟨o',nj,q1,q2,q3⟩ k;exact⟨o',nj,k o' q1,q2,q3⟩
  ·rw[aD q]at hb;refine(I.hok b u hb).stay (λc v _ h=>h) (λc h=>?_) λc xs h=>?_
   ·rw[aD (aE h ha)];exact h
   ·rw[aD (aE h ha)];exact h
 len:=I.len
def oU{M:Model}{A:Around}{E:X9}{i:Nat}{x:Str}{pos:Pos}{Q:Unit->TW->Prop}(I:Inv X pins σ H s)(hN:X.N.Nodup)(hi:X.N[i]?=some x)(hx:X.env.kindOf x=some .local)(hl:Fu X.env.scope x)(ud:X.fn x=true∨X.env.scope.names.lookup x=some .local)(h:∀s',Inv X pins (σ.set i none) H s'->Q () s'):wpAny M A (do bindName X.env x .none;unbindBehindTheSuite X.env x pos) Q E s:=by
 have hp:(X.env.scope.kind == .class||(X.env.scope.kind == .module&&X.env.locals != X.env.globals))=false:=by rw[I.ok.kind];rfl
 refine X7 (wpAny_bindName (lE (v:=.non) I hN hi hl rfl (λs1 I1=>?_) ud));unfold unbindBehindTheSuite;refine wpAny_onRaise ?_;unfold unbindName;refine X7 (wpAny_point (X7 ?_));unfold deleteName;simp only [hx,hp];rw[P7 Zd];obtain⟨m,hn,ug⟩:=id I1.loc;have JG:i<σ.length:=by rw[I.len];exact(Zgs.mp hi).1
 have cne:=I1.cne;refine X7 (wpAny_nsDel_keeps hn λh2 v ng hs=>?_);have hm:(m x).isSome=true:=by
  obtain⟨u,ru,lk⟩:=ug i x .non hi (getElem?_set_self JG) (Or.inl (by
   have:=hx;unfold Env.kindOf at this;first | exact this | simpa using this))
  rcases lk with⟨_,e⟩|⟨k,_⟩
  ·rw[e];rfl
  ·rcases k with k|k
   ·have:=hx;simp_all
   ·have:=hx;simp_all
 simp only [hm,if_true,Bool.not_true,Bool.false_eq_true,if_false];have bl:∀b o,X.s₀.heap.get? b=some o->b≠X.env.locals:=λb o e=>ne_of_lt (QZV (Heap.lt_size e) I.ok.above)
 obtain⟨oL,_,_,SO,_⟩:=id hn;refine X6 (wpAny_point (h _ ⟨I1.ok,I1.os,I1.bare,⟨λb o e n hb X0=>(hs.2 b (bl b o e)).trans (I1.base.keep b o e n hb X0),λb o e n hb X0=>?_,I1.base.free,λb o e X0=>?_,I1.base.tups,I1.base.frzs,I1.base.tbls⟩,⟨_,ng,λj y v' e1 e2 e3=>?_⟩,λy c e=>?_,I1.free,I1.freeC,λp zq=>?_,λb u e=>?_,by simpa using I.len⟩))
 ·obtain⟨sl,z⟩:=I1.base.slot b o e n hb X0;exact⟨sl,(hs.2 b (bl b o e)).trans z⟩
 ·obtain⟨o',z⟩:=I1.base.there b o e X0;exact⟨o',(hs.2 b (bl b o e)).trans z⟩
 ·by_cases hj:j=i
  ·subst hj;rw[getElem?_set_self JG]at e2;cases e2
  ·rw[getElem?_set_ne (Ne.symm hj)]at e2;obtain⟨u,r,q⟩:=ug j y v' e1 (by rw[getElem?_set_ne (Ne.symm hj)];exact e2) e3;refine⟨u,r,?_⟩;rcases q with⟨k,e⟩|⟨k,c,e,z⟩
   ·have C7:y≠x:=λe=>hj (pA hN e1 (e▸hi))
    exact .inl ⟨k,by dsimp only;rw[P7 C7];exact e⟩
   ·exact .inr ⟨k,c,e,z.sameBut hs (cne y c e)⟩
 ·obtain⟨w',z⟩:=I1.cell y c e;exact⟨w',z.sameBut hs (cne y c e)⟩
 ·obtain⟨e,n,ne,nf,d⟩:=I1.pin p zq;exact⟨(hs.2 p.1 ne).trans e,n,ne,nf,d⟩
 ·refine(I1.hok b u e).stay (λc w' hc q=>(hs.2 c ?_).trans q) (λ_ q=>q) λ_ _ q=>q;rintro rfl;rcases hc with z|z
  ·rw[<- z,I1.free]at e;cases e
  ·rw[I1.free]at z;cases z
def SP.goes{M:Model}{A:Around}{E:X9}{i:Nat}{x:Str}{pos:Pos}{D:kK}{f:Flow}(hq:SP X pins {nx:=λσ' H'=>D.nx (σ'.set i none) H',rt:=D.rt,bk:=λσ' H'=>D.bk (σ'.set i none) H',ct:=λσ' H'=>D.ct (σ'.set i none) H' } f s)(hN:X.N.Nodup)(hi:X.N[i]?=some x)(hx:X.env.kindOf x=some .local)(hl:Fu X.env.scope x)(ud:X.fn x=true∨X.env.scope.names.lookup x=some .local) :
  wpAny M A (do bindName X.env x .none;unbindBehindTheSuite X.env x pos) (λ_ s'=>SP X pins D f s') E s:=by
 cases f with
 | next=>obtain⟨σ',H',I,q⟩:=hq;exact oU I hN hi hx hl ud λs' I'=>⟨_,H',I',q⟩
 | brk=>obtain⟨σ',H',I,q⟩:=hq;exact oU I hN hi hx hl ud λs' I'=>⟨_,H',I',q⟩
 | cont=>obtain⟨σ',H',I,q⟩:=hq;exact oU I hN hi hx hl ud λs' I'=>⟨_,H',I',q⟩
 | ret u=>obtain⟨v,σ',H',I,r,q⟩:=hq;exact oU I hN hi hx hl ud λs' I'=>⟨v,_,H',I',r,q⟩
def SP.handled{D:kK}{f:Flow}(h:SP (X.handling a) pins D f s)(ok:X.Ok):SP X pins D f s:=by
 cases f with
 | next=>obtain⟨σ',H',I,q⟩:=h;exact⟨σ',H',I.handled ok,q⟩
 | brk=>obtain⟨σ',H',I,q⟩:=h;exact⟨σ',H',I.handled ok,q⟩
 | cont=>obtain⟨σ',H',I,q⟩:=h;exact⟨σ',H',I.handled ok,q⟩
 | ret u=>obtain⟨v,σ',H',I,r,q⟩:=h;exact⟨v,σ',H',I.handled ok,r,q⟩
def SP.tried{D:kK}{f:Flow}(h:SP (X.trying (X.pn++pins) Ex) [] D f s)(ok:X.Ok):SP X pins D f s:=by
 cases f with
 | next=>obtain⟨σ',H',I,q⟩:=h;exact⟨σ',H',I.tried.pnOut ok,q⟩
 | brk=>obtain⟨σ',H',I,q⟩:=h;exact⟨σ',H',I.tried.pnOut ok,q⟩
 | cont=>obtain⟨σ',H',I,q⟩:=h;exact⟨σ',H',I.tried.pnOut ok,q⟩
 | ret u=>obtain⟨v,σ',H',I,r,q⟩:=h;exact⟨v,σ',H',I.tried.pnOut ok,r,q⟩
def aAJ(K:W.Frag)(C:UF)(i:Nat)(tb:(St->T0->Option UF->Hp->Prop)->TS)(th:TS):TS:=λD σ H=>
 tb (λσ' cls od H'=>W.exmOne K cls (.ref C)=some true/\∀a,H' a=none->th {nx:=λσ'' P9=>D.nx (σ''.set i none) P9,rt:=D.rt,bk:=λσ'' P9=>D.bk (σ''.set i none) P9,ct:=λσ'' P9=>D.ct (σ''.set i none) P9 } (σ'.set i (some (.ref a))) (aI H' a (.ext (rA a cls od)))) D σ H
def Wu{C:UF}{c n:Str}{i:Nat}{body uh:List Stmt}{s0:Stmt}{p CU pos:Pos}{tb:(St->T0->Option UF->Hp->Prop)->TS}{th:TS}(hN:X.N.Nodup)(hi:X.N[i]?=some n)(hx:X.env.kindOf n=some .local)(hl:Fu X.env.scope n)(ud:X.fn n=true∨X.env.scope.names.lookup n=some .local)(ze:X.stack=X.env::X.outer)(hf:X.env.frame=some X.env.locals)(hex:X.ex=[])(hg:Gl X c)(hm:X.mg c=some (.ref C))(E2:(c==("__debug__":Str))=false)(hb:∀pn Ex,PSs (X.trying pn Ex) body (tb Ex))(hs:∀a,PSs (X.handling a) (s0::uh) th) :
  PS X (.Try body [.ExceptHandler (some (.Name c p)) (some n) (s0::uh) CU] [] [] pos) (aAJ X.K C i tb th):=by
 intro pins s σ H D I h;refine wpAny_Try_except (wpAny_mono (hb (X.pn++pins) _ [] s σ H D I.pnIn.trying h) (λf s1 q=>?_) λe s1 q=>?_)
 ·have q':=q.tried I.ok
  cases f with
  | next=>exact wpAny_execs_nil q'
  | brk=>exact q'
  | cont=>exact q'
  | ret u=>exact q'
 ·obtain⟨σ',H0,sc,I0,a,cls,od,H',rfl,F,IA,hw⟩:=q;have IB:Inv X pins σ' H0 sc:=I0.pnOut I.ok;have F':Fly X.prog X.w X.stack H0 sc H' a cls od .none s1:=F;refine Jm IB F' I.ok.frames ze hf λs2 F2=>?_;refine wJ IB F2 λs3 F3=>?_;have I3:=F3.inv IB;refine wpAny_handleBy_cons (codeAny_handlers_test ?_) (by intro q;cases q);refine iC (X:=X.handling a) (I3.handling (a:=a)) hg hm ?_ E2;obtain⟨T,⟨oe,vs,a0,oT,ts,e1,e2,_⟩,_⟩:=F3.tr;have LT:W.Looks (model X.prog X.w) s3.heap (typeOf (.ref a)) cls:=e2▸(W.Looks.ld e1).andThen .now;refine(W.exm_one I3.kIn LT IA).here ?_;show codeAny _ _ _ _ _;refine codeAny_handlers_suite_as ?_;refine wJ IB F3 λs4 F4=>?_;have I4:=F4.inv IB;obtain⟨T4,⟨ZL,ZM,a04,oT4,ts4,q1,q2,q3,q4,_⟩,_⟩:=F4.tr;have I5:=I4.exc IB hex F4.na F4.ha (od:=od) ⟨ZL,ZM,q1,q2,q4,λdx kr=>by obtain⟨o1,z1,z2⟩:=F4.dd dx kr;rw[q1]at z1;cases z1;exact z2⟩;refine lE (v:=.ref a) I5 hN hi hl rfl (λs5 I6=>?_) ud;refine wpAny_mono (hs a pins s5 _ _ _ (I6.handling (a:=a)) (hw a F4.ha)) (λf s6 q=>?_) (λ_ _ z=>False.elim z);exact SP.goes (q.handled I.ok) hN hi hx hl ud
end
structure oF(K:W.Frag)(D:UF):Prop where
 ga:W.findIn K (.ref D) "__getattribute__"=some (some (.builtin "BaseException.__getattribute__"))
 gx:W.findIn K (.ref D) "__getattr__"=some none
 cl:W.findIn K (.ref D) "__class__"=some (some (.builtin "object.__class__"))
 gg:W.specialIn K (.builtin "object.__class__") "__get__"=some (some (.builtin "getset_descriptor.__get__"))
 tk:W.takesIn K (.builtin "object.__class__")=some true
 mo:W.mroIn K D (.type "object")=some true
 mb:W.mroIn K D (.type "BaseException")=some true
 ci:(W.clsIn K D).isSome=true
def OfCls(x D:UF)(h:Heap):Prop:=∃o,h.get? x=some o/\o.cls=.ref D
section
variable {prog:Program}{w:World}{A:Around}{E:X9}{s:TW}{K:W.Frag}{x D:UF}
def OfCls.type{M:Model}{h:Heap}(c:OfCls x D h):W.Looks M h (typeOf (.ref x)) (.ref D):=by
 obtain⟨o,h1,h2⟩:=c;exact h2▸(W.Looks.ld h1).andThen .now
def sN{M:Model}{EF:T0}{Q:Unit->TW->Prop}(LI:W.Looks M s.heap (isInstance (.ref x) (.type "BaseException")) true)(h:Q () s):wpAny M A (checkBuiltinCall "BaseException.__getattribute__" ⟨[.ref x,EF],[]⟩) Q E s:=by
 have ZN:builtinKind "BaseException.__getattribute__"=some .slot:=by decide +kernel
 have ya:splitId "BaseException.__getattribute__"=some ("BaseException","__getattribute__"):=by decide +kernel
 have har:=F.args_bexc_ga (.ref x) EF;simp only [checkBuiltinCall,ZN,ya];refine X7 (LI.here ?_);obtain⟨hh,g,d,t,os⟩:=s
 repeat (first|wp_step)
 exact h
def yY{M:Model}{h:Heap}(X:K.In h)(k:oF K D):W.Looks M h (Builtin.ObjectAttr.find (.ref x) (.ref D) "__class__") (.bind (.builtin "getset_descriptor.__get__") (.builtin "object.__class__")):=by
 have l1:=W.looks_findIn (M:=M) X k.cl;have l2:W.Looks M h (Builtin.ObjectAttr.getOf (some (.builtin "object.__class__"))) (some (.builtin "getset_descriptor.__get__")):=W.looks_specialIn X k.gg;have l3:=W.looks_takesIn (M:=M) X k.tk;refine l1.andThen (l2.andThen ?_);exact(show W.Looks M h (Builtin.ObjectAttr.dataDescriptor? (some (.builtin "object.__class__")) (some (.builtin "getset_descriptor.__get__"))) (some (.builtin "getset_descriptor.__get__",.builtin "object.__class__")) from l3.andThen .now).andThen (W.Looks.tag .now)
open PySem.W Builtin Builtin.ObjectAttr Builtin.Getset_descriptor in
def Ef{R:Result->TW->Prop}{tp:T0}(X:K.In s.heap)(c:OfCls x D s.heap)(hm:W.mroIn K D (.type "object")=some true)(h:R (.ok (.ret (.ref D))) s) :
  codeAny (model prog w) A (.call (.builtin "getset_descriptor.__get__") ⟨[.builtin "object.__class__",.ref x,tp],[]⟩) R s:=by
 obtain⟨hh,g,dr,t,os⟩:=s;have L0:=c.type (M:=model prog w);have L1:=W.looks_mroIn (M:=model prog w) X hm;refine codeAny_call_builtin KF.slot_gs.plain KF.entry_gs (KF.slot_gs.check _ _ _ _ _ _ _ _ KF.type_class (KF.args_gs _ _ _) ?_);unfold Builtin.«getset_descriptor.__get__» descrGet;rw[dga_obj];apply X7;apply X6;unfold descrGetter descrCheckInstance descrNameAndClass isInstance;simp only [KF.owner_class]
 repeat lk
 refine⟨Code.quiet_builtin _ Zk,codeAny_builtin KF.entry_class ?_⟩;unfold Builtin.«object.__class__» shownTypeOf
 repeat lk
 exact h
def Eg{Q:Option T0->TW->Prop}(X:K.In s.heap)(c:OfCls x D s.heap)(k:oF K D)(h:Q (some (.ref D)) {s with toks:=s.toks+1 }):wpAny (model prog w) A (getAttr? (.ref x) "__class__") Q E s:=by
 obtain⟨hh,g,d,t,os⟩:=s;have L0:=c.type (M:=model prog w);have L1:=W.looks_findIn (M:=model prog w) X k.ga;have L2:=W.looks_findIn (M:=model prog w) X k.gx;have L3:=yY (M:=model prog w) (x:=x) X k;have LI:W.Looks (model prog w) hh (isInstance (.ref x) (.type "BaseException")) true:=L0.andThen (W.looks_mroIn X k.mb);unfold getAttr? getAttrBy? getAttrBy;refine X7 (wpAny_mkText (X7 (wpAny_attempt (wpAny_holding (X7 (L0.at (X7 (L1.at ?_))))))));dsimp only;have NH:(Value.builtin "BaseException.__getattribute__"==Value.builtin "object.__getattribute__")=false:=by decide +kernel
 have IA:(onTheHeap (Value.ref D)&&Value.builtin "BaseException.__getattribute__"==Value.builtin "object.__getattribute__")=false:=by rw[NH];rfl
 rw[P7 (by rw[IA];exact XV)];unfold getAttrByItsOwn hookBefore;rw[TD (show onTheHeap (Value.ref D)=true from rfl)];refine X7 (L2.at ?_);refine X7 (wpAny_attempt (wpAny_holding ?_));unfold callGetattribute;rw[P7 Zd];unfold boundAndCalled;refine X7 (wpAny_of_eq (F.excAttr_ValueError.ga.bind _) ?_);show wpAny _ _ (call (.builtin "BaseException.__getattribute__") [.ref x,.str "__class__" t]) _ _ _;refine wpAny_call (codeAny_call_builtin F.excAttr_ValueError.ga.plain F.entry_bexc_ga (sN LI ?_));unfold Builtin.«object.__getattribute__»;refine X7 (wpAny_of_eq (a:=(Value.ref x,[Value.str "__class__" t])) rfl ?_);dsimp only;refine X7 (X6 (X7 (L0.at (X7 (L3.at ?_)))));dsimp only;show wpAny _ _ (holding [Value.builtin "object.__class__"] (call (.builtin "getset_descriptor.__get__") [.builtin "object.__class__",.ref x,.ref D])>>=ret) _ _ _;refine X7 (wpAny_holding (wpAny_call (Ef (s:=⟨hh,g,d,t+1,os⟩) X c k.mo ?_)));refine X6 ?_;show wpAny _ _ (handedOut (.ref D)) _ _ _;exact X6 (X6 h)
def pW(k:oF K D):W.KitX K (.ref x) (.ref D) (OfCls x D) where
 ty:=λ_ _ _ c=>c.type
 it:=λ_ _ X _=>by
  obtain⟨ZO,CK⟩:=Option.isSome_iff_exists.mp k.ci;unfold W.clsIn at CK;split at CK
  ·rename_i c' d' ZP OI ho;intro A' Q' E' s' k' q;unfold isType loadHead;exact X7 (wpAny_loadPart (k' _ _ (X _ _ ho)) (X6 q))
  ·cases CK
 ne:=λh tp dd its n sl X KN=>by
  obtain⟨ZO,CK⟩:=Option.isSome_iff_exists.mp k.ci;refine Bool.eq_false_iff.mpr λq=>?_;have e:D=tp:=Value.ref.inj (beq_iff_eq.mp q);subst e;unfold W.clsIn at CK;split at CK
  ·rename_i c' d' ZP OI ho;rw[X _ _ ho]at KN;cases KN
  ·cases CK
 ca:=λX c q=>Eg X c k q
end
def aAK(K:W.Frag)(H:Hp)(D:UF)(c:V)(b:Bool):Prop:=match c with
 | .ref t=>(∃xs:List UF,H t=some (.tup (xs.map V.ref))/\W.kitAny K (.ref D) (xs.map Value.ref)=some b)∨W.kitOne K (.ref D) (.ref t)=some b
 | .ty n=>W.kitOne K (.ref D) (.type n)=some b
 | _=>False
def Wv(K:W.Frag):List V->Hp->VK->Prop:=λvs H Q=>match vs with
 | [.ref a,c]=>∃D b od,H a=some (.ext (rA a (.ref D) od))/\oF K D/\aAK K H D c b/\Q (.bl b) H
 | _=>False
def sO:∀ {xs:List UF}{us:List T0},Vals (xs.map V.ref) us->us=xs.map Value.ref
 | [],[],_=>rfl
 | x::xs,u::us,.cons r rs=>by
  cases r;rw[sO rs];rfl
section
variable {X:Cx}
def aAL:CallR X (.builtin "isinstance") (Wv X.K):=by
 intro pins s σ H xs us Q I r h;unfold Wv at h;split at h
 ·rename_i a c;obtain⟨D,b,od,e,k,PV,q⟩:=h;obtain⟨⟨o,vs,h1,h2,h3⟩,_⟩:=(show ObjOk X.prog X.w H s.heap a (.ext (rA a (.ref D) od)) from I.hok a _ e);have oc:OfCls a D s.heap:=⟨o,h1,h2⟩
  cases r with
  | cons ra r2=>
   cases r2 with
   | cons rc r3=>
    cases r3;cases ra
    cases c with
    | ref t=>
     cases rc;rcases PV with⟨ys,et,ka⟩|ko
     ·obtain⟨_,its,rv,⟨ot,ht,hc,n,hd⟩⟩:=(show ObjOk X.prog X.w H s.heap t (.tup (ys.map V.ref)) from I.hok t _ et);obtain rfl:=sO rv;obtain⟨c0,dd,dat,sl⟩:=ot;dsimp only at hc hd;subst hc hd;exact W.kia_tup (pW k) I.kIn oc ht ka (by intro z;cases z) λtk=>⟨.bl b,H,I.tok _,rfl,q⟩
     ·exact W.kia_one (pW k) I.kIn oc ko (by intro z;cases z) λtk=>⟨.bl b,H,I.tok _,rfl,q⟩
    | ty n=>
     cases rc;exact W.kia_one (pW k) I.kIn oc PV (by intro z;cases z) λtk=>⟨.bl b,H,I.tok _,rfl,q⟩
    | _=>exact PV.elim
 ·exact h.elim
end
namespace R
section
variable {X:Cx}{x n c:Str}{C:UF}{E:XK}{e:Expr}{es:List Expr}{t:TA}{np cpos pos p CU:Pos}{m i:Nat}{ps:List Str}{sp:Sp}{Ex:St->T0->Option UF->Hp->Prop}{K:W.Frag}{body uh:List Stmt}{s0:Stmt}{tb:(St->T0->Option UF->Hp->Prop)->TS}{th:TS}
def gu(hK:X.K=K:=by rfl):XC X (.builtin "isinstance") (Wv K):=hK▸⟨aAL⟩
def jy(c:lN X.prog X.w X.K X.mg X.base m x ps sp)(hr:Room m X.A)(hg:Gl X x)(hx:Jn X Ex)(ha:XA X (e::es) t)(hs:aM e=true:=by rfl)(h2:es.all aM=true:=by rfl)(E2:(x==("__debug__":Str))=false:=by decide) :
  XE X (.Call (.Name x p) (e::es) [] pos) (aAI sp Ex t):=⟨Wt c hr hg hx ha.h hs h2 E2⟩
def jx(hm:X.mg c=some (.ref C))(hg:Gl X c)(hN:X.N.Nodup)(hb:∀pn Ex,XB (X.trying pn Ex) body (tb Ex))(hs:∀a,XB (X.handling a) (s0::uh) th)(hK:X.K=K:=by rfl)(hi:X.N[i]?=some n:=by rfl)(hx:X.env.kindOf n=some .local:=by rfl)(hl:Fu X.env.scope n:=by first|exact Or.inl rfl|exact Or.inr rfl)(ud:X.fn n=true∨X.env.scope.names.lookup n=some .local:=by first|exact .inl rfl|exact .inr rfl)(ze:X.stack=X.env::X.outer:=by rfl)(hf:X.env.frame=some X.env.locals:=by rfl)(hex:X.ex=[]:=by rfl)(E2:(c==("__debug__":Str))=false:=by decide) :
  XS X (.Try body [.ExceptHandler (some (.Name c p)) (some n) (s0::uh) CU] [] [] pos) (aAJ K C i tb th):=hK▸⟨Wu hN hi hx hl ud ze hf hex hg hm E2 (λpn Ex=>(hb pn Ex).h) λa=>(hs a).h⟩
end
end R
def rB:bootBuiltins "ValueError"=some (.type "ValueError"):=by decide +kernel
def R.im{X:Cx}{x:Str}{n:String}{pos:Pos}(hg:Gl X x)(hm:X.mg x=none)(hv:bootBuiltins x=some (.type n))(hn:x≠"__name__":=by decide)(hd:(x==("__debug__":Str))=false:=by decide):XE X (.Name x pos) (tC (.ty n)):=⟨Af hg hm hv rfl hn hd⟩
inductive DW(one other nm:Str)(n:Int):Str->List V->List (Str×Int)->List (Str×List V)->Prop
 | add:DW one other nm n "add" [.str "add",.str nm,.int n] [(nm,n)] []
 | take:DW one other nm n "take" [.str "take",.str nm,.int n] [(nm,-n)] []
 | move:DW one other nm n "move" [.str "move",.str one,.str other,.int n] [(one,-n),(other,n)] []
 | send:DW one other nm n "send" [.str "send",.str one,.str nm,.int n] [(nm,-n)] [(one,[.str "add",.str nm,.int n])]
 | fetch:DW one other nm n "fetch" [.str "fetch",.str one,.str nm,.int n] [(nm,n)] [(one,[.str "take",.str nm,.int n])]
 | pass:DW one other nm n "pass" [.str "pass",.str one,.str other,.str nm,.int n] [] [(one,[.str "take",.str nm,.int n]),(other,[.str "add",.str nm,.int n])]
structure Ss(wd:Str)(xs:List V)(cs:List (Str×Int))(as:List (Str×List V)):Prop where
 ex:∃one other nm n,DW one other nm n wd xs cs as
def aAM(H:Hp)(q:Str×List V)(v:V):Prop:=∃a d,v=.ref a/\H a=some (.tup [.str q.1,.ref d])/\H d=some (.tup q.2)
def nH:Sp:=λvs H Q _=>∃p wd xs cs as,vs=[.ref p]/\H p=some (.tup xs)/\Ss wd xs cs as/\∀t zs H',Same H H'->H' t=some (.tup (fF zs))->Ee H' zs->zs.map (·.2)=cs->Q (.ref t) H'
def kZ:Sp:=λvs H Q _=>∃p wd xs cs as,vs=[.ref p]/\H p=some (.tup xs)/\Ss wd xs cs as/\∀t us H',Same H H'->H' t=some (.tup us)->Paired (aAM H') as us->Q (.ref t) H'
abbrev tS(z:Str):TV:=.sc (.str z)
abbrev tI(n:Int):TV:=.sc (.int n)
def isT(f:Str->Int)(cs:List (Str×Int)):List V:=.str "is"::cs.map λq=>V.int (f q.1+q.2)
def nJ(C:UF):Sp:=λvs H Q _=>∃b p wd xs cs as prs,vs=[.ref b,.ref p]/\BookAt C H b prs/\H p=some (.tup xs)/\Ss wd xs cs as/\∀t H',Same H H'->H' t=some (.tup (isT (dM prs) cs))->Q (.ref t) H'
def iH(f:Str->Int)(last:TV):List (Str×Int)->TV
 | []=>last
 | q::r=>if q.2<0/\f q.1+q.2<0 then .tp [tS "short",tI (f q.1)] else if 0<q.2/\1000000000000<f q.1+q.2 then .tp [tS "full",tI (f q.1)] else iH f last r
def wK(f:Str->Int)(last:TV)(q:Str×Int)(r:List (Str×Int)):iH f last (q::r)=if q.2<0/\f q.1+q.2<0 then .tp [tS "short",tI (f q.1)] else if 0<q.2/\1000000000000<f q.1+q.2 then .tp [tS "full",tI (f q.1)] else iH f last r:=rfl
def lO(f:Str->Int)(cs:List (Str×Int))(as:List (Str×List V)):TV:=if as=[] then .tp ((isT f cs).map .sc) else .sc .non
def Bj(C:UF):Sp:=λvs H Q _=>∃b p wd xs cs as prs,vs=[.ref b,.ref p]/\BookAt C H b prs/\H p=some (.tup xs)/\Ss wd xs cs as/\∀v H',Same H H'->RepT H' 1 (iH (dM prs) (lO (dM prs) cs as) cs) v->Q v H'
def uO{H:Hp}{n:Nat}:∀ {xs:List V},(∀y∈xs,kY y=true)->Paired (RepT H n) (xs.map TV.sc) xs
 | [],_=>.nil
 | y::r,h=>.cons (RepT.scal (h y jI)) (uO λz m=>h z (oP _ m))
def Jo(f:Str->Int)(cs:List (Str×Int)):∀y∈isT f cs,kY y=true:=λy hy=>by
 rcases mem_cons.mp hy with rfl|h
 ·rfl
 ·obtain⟨q,_,rfl⟩:=Zmm.mp h;rfl
def Jp:Bool->String|true=>"list_iterator"|false=>"tuple_iterator"
def lP(k:Bool)(a:UF):Obj:={cls:=.type (Jp k),data:=.fields #[.ref a,.int 0 0] }
def ItAt(k:Bool)(h:Heap)(it a:UF)(i:Nat):Prop:=∃o,h.get? it=some o/\o.cls=.type (Jp k)/\o.data=.fields #[.ref a,.int i 0]
def SeqIn(k:Bool)(h:Heap)(a:UF)(vs:Array Value):Prop:=match k with|true=>h.IsList a vs|false=>h.IsTuple a vs
def ItAt.by{k:Bool}{h h':Heap}{it a:UF}{i:Nat}(x:ItAt k h it a i)(g:∀o,h.get? it=some o->h'.get? it=some o):ItAt k h' it a i:=let ⟨o,e,r⟩:=x;⟨o,g o e,r⟩
def SeqIn.by{k:Bool}{h h':Heap}{a:UF}{vs:Array Value}(x:SeqIn k h a vs)(g:∀o,h.get? a=some o->h'.get? a=some o):SeqIn k h' a vs:=by
 cases k
 ·obtain⟨o,e,r⟩:=x;exact⟨o,g o e,r⟩
 ·obtain⟨o,e,r⟩:=x;exact⟨o,g o e,r⟩
def SeqIn.lt{k:Bool}{h:Heap}{a:UF}{vs:Array Value}(x:SeqIn k h a vs):a<h.objs.size:=by
 cases k
 ·obtain⟨o,e,r⟩:=x;exact Heap.lt_size e
 ·obtain⟨o,e,r⟩:=x;exact Heap.lt_size e
section
variable {prog:Program}{w:World}{A:Around}{E:X9}{s:TW}
def Jq{k:Bool}{a:UF}{vs:Array Value}{Q:X9}(h:SeqIn k s.heap a vs)(q:Q (.ref s.heap.objs.size) {s with heap:=s.heap.push (lP k a) }):wpAny (model prog w) A (pyIter (.ref a)) Q E s:=by
 cases k
 ·exact wpAny_pyIter_tuple (show s.heap.IsTuple a vs from h) q
 ·exact wpAny_pyIter_list (show s.heap.IsList a vs from h) q
def uP{k:Bool}{it a:UF}{i:Nat}{vs:Array Value}{x:T0}{Q:X9}(hit:ItAt k s.heap it a i)(hs:SeqIn k s.heap a vs)(hx:vs[i]?=some x)(q:∀h',ItAt k h' it a (i+1)->Heap.SameBut it s.heap h'->Q x {s with heap:=h' }):wpAny (model prog w) A (Builtin.SmallTypes.nextOf (.ref it)) Q E s:=by
 cases k with
 | true=>exact wpAny_nextOf_list_item (show s.heap.IsListIter it a i from hit) (show s.heap.IsList a vs from hs) hx q
 | false=>
  have vw:s.heap.IsTupleIter it a i:=hit;obtain⟨o,ho,hc,hd⟩:=hit;obtain⟨ol,PX,_,nl,PY⟩:=hs;unfold Builtin.SmallTypes.nextOf;refine X7 (wpAny_callSpecial?_slot (name:=Str.ofString "__next__") vw.typeIs F.slot_tuple_iterator_next (wpAny_call_entry F.slot_tuple_iterator_next vw.typeIs F.entry_tuple_iterator_next ?_ (F.args_tuple_iterator_next_1 _)));show wpAny (model prog w) _ (field (.ref it) 0>>=_) _ _ s;refine X7 (wpAny_field ho hd (x:=.ref a) rfl ?_);show wpAny (model prog w) _ (if (Value.ref a==Value.none)=true then _ else _) _ _ s;rw[P7 (show ¬ ((Value.ref a==Value.none)=true) from XV)];show wpAny (model prog w) _ (field (.ref it) 1>>=_) _ _ s;refine X7 (wpAny_field (x:=.int i 0) ho hd rfl ?_);show wpAny (model prog w) _ (seqItems? (.ref a)>>=_) _ _ s;refine X7 (wpAny_seqItems (PX) PY ?_);simp only [hx,Int.toNat_natCast];refine X7 (wpAny_setField ho hd Zs (X6 ⟨x,rfl,X6 (q _ ?_ (Heap.SameBut.update ..))⟩));exact⟨_,Heap.get?_update_self _ ho (Obj.isFreed_of_fields (Obj.data_mapFields hd _)),(Obj.cls_mapFields ..).trans hc,by rw[Obj.data_mapFields hd];simp[rawInt]⟩
def Jr{k:Bool}{it a:UF}{i:Nat}{vs:Array Value}{Q:X9}(hh:A.handled=none)(hit:ItAt k s.heap it a i)(hs:SeqIn k s.heap a vs)(hx:vs[i]?=none)(hE:∀h' e,Heap.ExtBut it s.heap h'->(∃o,h'.get? e=some o/\o.cls=.type "StopIteration")->E (.ref e) {s with heap:=h' }):wpAny (model prog w) A (Builtin.SmallTypes.nextOf (.ref it)) Q E s:=by
 cases k with
 | true=>exact wpAny_nextOf_list_end hh (show s.heap.IsListIter it a i from hit) (show s.heap.IsList a vs from hs) hx hE
 | false=>
  have vw:s.heap.IsTupleIter it a i:=hit;obtain⟨o,ho,hc,hd⟩:=hit;obtain⟨ol,PX,_,nl,PY⟩:=hs;unfold Builtin.SmallTypes.nextOf;refine X7 (wpAny_callSpecial?_slot (name:=Str.ofString "__next__") vw.typeIs F.slot_tuple_iterator_next (wpAny_call_entry F.slot_tuple_iterator_next vw.typeIs F.entry_tuple_iterator_next ?_ (F.args_tuple_iterator_next_1 _)));show wpAny (model prog w) _ (field (.ref it) 0>>=_) _ _ s;refine X7 (wpAny_field ho hd (x:=.ref a) rfl ?_);show wpAny (model prog w) _ (if (Value.ref a==Value.none)=true then _ else _) _ _ s;rw[P7 (show ¬ ((Value.ref a==Value.none)=true) from XV)];show wpAny (model prog w) _ (field (.ref it) 1>>=_) _ _ s;refine X7 (wpAny_field (x:=.int i 0) ho hd rfl ?_);show wpAny (model prog w) _ (seqItems? (.ref a)>>=_) _ _ s;refine X7 (wpAny_seqItems (PX) PY ?_);simp only [hx,Int.toNat_natCast];refine X7 (wpAny_rule (X7 (wpAny_setField (ho) hd Zs ?_)));show wpAny (model prog w) _ (newExc (.type "StopIteration") []>>=_) _ _ _;refine X7 ?_;simp only [newTuple,newExc];refine X7 (wpAny_newObj_type ?_ (by size_fits));refine X7 (m:=firstArgMember _ _) (wpAny_of_eq (a:=Value.none) (by first|rfl|(simp only [firstArgMember];rfl)) ?_);refine wpAny_newObj_type ?_ (by size_fits);simp only [raiseNew];refine X7 (wpAny_handled ?_)
  first|rw[show A.in1.handled=none from(hh)]|rw[hh]
  refine X7 (X6 (wpAny_throw ?_));exact hE _ _ (((Heap.SameBut.update ..).extBut.push _).push _) ⟨_,UV _ rfl,rfl⟩
structure Pn(z ti to j1 j2 a1 a2:UF):Prop where
 i:ti≠z
 o:to≠z
 p:j1≠z
 q:j2≠z
 io:ti≠to
 ip:ti≠j1
 iq:ti≠j2
 op:to≠j1
 oq:to≠j2
 pq:j1≠j2
 a:∀b,b=a1∨b=a2->b≠z/\b≠to/\b≠j1/\b≠j2
structure ZSt(k1 k2:Bool)(h:Heap)(z ti to j1 j2 a1 a2:UF)(f0:T0)(n1 n2:Nat):Prop where
 z:IsZip h z ti to f0
 i:IsPair h ti (.ref j1) (.ref j2)
 o:∃a b,IsPair h to a b
 x:ItAt k1 h j1 a1 n1
 y:ItAt k2 h j2 a2 n2
def Po{k1 k2:Bool}{z ti to j1 j2 a1 a2:UF}{n:Nat}{xs ys:Array Value}{x y:T0}{Q:X9}(D:Pn z ti to j1 j2 a1 a2)(S:ZSt k1 k2 s.heap z ti to j1 j2 a1 a2 .none n n)(ug:SeqIn k1 s.heap a1 xs)(vo:SeqIn k2 s.heap a2 ys)(hx:xs[n]?=some x)(hy:ys[n]?=some y)(hQ:∀h',ZSt k1 k2 h' z ti to j1 j2 a1 a2 (rawInt s.heap.objs.size) (n+1) (n+1)->IsPair h' s.heap.objs.size x y->h'.objs.size=s.heap.objs.size+1 →
   (∀c o,c≠z->c≠to->c≠j1->c≠j2->s.heap.get? c=some o->h'.get? c=some o)->Q (.ref s.heap.objs.size) {s with heap:=h' }) :
  wpAny (model prog w) A (Builtin.«zip.__next__» ⟨[.ref z],[]⟩) (λfin s'=>∃v,fin=.done (.ret v)/\Q v s') E s:=by
 obtain⟨hz,hI,⟨u1,u2,hO⟩,h1,h2⟩:=S;obtain⟨NI,ZQ,ZR,ZS⟩:=D.a a1 (.inl rfl);obtain⟨PZ,QA,QB,ZT⟩:=D.a a2 (.inr rfl);show wpAny (model prog w) _ (field (.ref z) 2>>=_) _ _ _;refine X7 (wpAny_field (x:=.bool false) hz rfl rfl ?_);show wpAny (model prog w) _ (field (.ref z) 3>>=_) _ _ _;refine X7 (wpAny_field (x:=.ref ti) hz rfl rfl ?_);refine X7 (wpAny_seqItems hI rfl ?_);show wpAny (model prog w) _ (Builtin.SmallTypes.ownedTupleIsFree (.ref z)>>=_) _ _ _;refine X7 ?_;unfold Builtin.SmallTypes.ownedTupleIsFree;refine X7 (wpAny_field (x:=.none) hz rfl rfl (X6 ?_));simp only [if_true];refine X7 (wpAny_rule ?_);refine X7 (wpAny_field (x:=.ref to) hz rfl rfl ?_);refine X7 (wpAny_setField_rec hz Zs λg1 z1 b1=>?_);have z1:IsZip g1 z ti to .ellipsis:=z1;refine X7 ?_;simp only [List.zipIdx_nil,List.zipIdx_cons,List.forIn_nil,forIn_cons];refine X7 (X7 (wpAny_onRaise ?_));show wpAny (model prog w) _ (Builtin.SmallTypes.nextOf (.ref j1)>>=_) _ _ _;refine X7 (uP (h1.by λo e=>b1.extBut _ _ D.p e) (ug.by λo e=>b1.extBut _ _ NI e) hx λg2 i2 b2=>X6 ?_);have o2:IsPair g2 to u1 u2:=b2.extBut _ _ D.op (b1.extBut _ _ D.o hO);refine X7 (wpAny_seqItems o2 rfl ?_);refine X7 (wpAny_updateSeq_pair o2 λg3 o3 b3=>?_);have o3:IsPair g3 to x u2:=o3;refine X7 (wpAny_letGo (X6 ?_));refine X7 (X7 (wpAny_onRaise ?_));show wpAny (model prog w) _ (Builtin.SmallTypes.nextOf (.ref j2)>>=_) _ _ _;refine X7 (uP (h2.by λo e=>b3.extBut _ _ D.oq.symm (b2.extBut _ _ D.pq.symm (b1.extBut _ _ D.q e))) (vo.by λo e=>b3.extBut _ _ QA (b2.extBut _ _ QB (b1.extBut _ _ PZ e))) hy λg4 i4 b4=>X6 ?_);have o4:IsPair g4 to x u2:=b4.extBut _ _ D.oq o3;refine X7 (wpAny_seqItems o4 rfl ?_);refine X7 (wpAny_updateSeq_pair o4 λg5 o5 b5=>?_);have o5:IsPair g5 to x y:=o5;refine X7 (wpAny_letGo (X6 (X6 ?_)));refine X7 (wpAny_seqItems o5 rfl ?_);refine X7 (wpAny_newTuple ?_);have hsz:g5.objs.size=s.heap.objs.size:=by rw[b5.1,b4.1,b3.1,b2.1,b1.1]
 have z5:IsZip g5 z ti to .ellipsis:=b5.extBut _ _ D.o.symm (b4.extBut _ _ D.q.symm (b3.extBut _ _ D.o.symm (b2.extBut _ _ D.p.symm z1)));have KO:∀c o,c≠z->c≠to->c≠j1->c≠j2->s.heap.get? c=some o->g5.get? c=some o:=λc o n1 n2 n3 n4 e=>b5.extBut _ _ n2 (b4.extBut _ _ n4 (b3.extBut _ _ n2 (b2.extBut _ _ n3 (b1.extBut _ _ n1 e))))
 have i5:ItAt k1 g5 j1 a1 (n+1):=i2.by λo e=>b5.extBut _ _ D.op.symm (b4.extBut _ _ D.pq (b3.extBut _ _ D.op.symm e))
 have j5:ItAt k2 g5 j2 a2 (n+1):=i4.by λo e=>b5.extBut _ _ D.oq.symm e
 have KP:z<g5.objs.size:=Heap.lt_size z5;show wpAny (model prog w) _ (Builtin.SmallTypes.ownedTupleHandOut (.ref z) (.ref g5.objs.size)>>=_) _ _ _;refine X7 ?_;unfold Builtin.SmallTypes.ownedTupleHandOut;have z6:IsZip (g5.push {cls:=.type "tuple",data:=.seq #[x,y] }) z ti to .ellipsis:=eP _ z5;refine X7 (wpAny_setField_rec z6 Zs λg7 z7 b7=>?_);have z7:IsZip g7 z ti to (rawInt g5.objs.size):=z7;refine wpAny_setField_rec z7 Zs λg8 z8 b8=>?_;have z8:IsZip g8 z ti to (rawInt g5.objs.size):=z8;have up:∀c o,c≠z->g5.get? c=some o->g8.get? c=some o:=λc o n1 e=>b8.extBut _ _ n1 (b7.extBut _ _ n1 (eP _ e))
 have t8:IsPair g8 g5.objs.size x y:=b8.extBut _ _ (ne_of_gt KP) (b7.extBut _ _ (ne_of_gt KP) (UV _ rfl));have s8:g8.objs.size=g5.objs.size+1:=by rw[b8.1,b7.1,Heap.size_push]
 rw[hsz]at z8 t8 s8;refine X6 ⟨_,rfl,?_⟩;show Q (.ref g5.objs.size) _;rw[hsz];exact hQ g8 ⟨z8,up _ _ D.i (KO _ _ D.i D.io D.ip D.iq hI),⟨_,_,up _ _ D.o o5⟩,i5.by λo e=>up _ o D.p e,j5.by λo e=>up _ o D.q e⟩ t8 s8 λc o n1 n2 n3 n4 e=>up c o n1 (KO c o n1 n2 n3 n4 e)
def Ww{k1 k2:Bool}{z ti to j1 j2 a1 a2:UF}{n:Nat}{xs ys:Array Value}{Q:Fin->TW->Prop}(hh:A.handled=none)(D:Pn z ti to j1 j2 a1 a2)(S:ZSt k1 k2 s.heap z ti to j1 j2 a1 a2 .none n n)(ug:SeqIn k1 s.heap a1 xs)(vo:SeqIn k2 s.heap a2 ys)(QC:xs[n]?=none∨ys[n]?=none)(hE:∀h' e,(∀c o,c≠z->c≠to->c≠j1->c≠j2->s.heap.get? c=some o->h'.get? c=some o)->(∃o,h'.get? e=some o/\o.cls=.type "StopIteration")->E (.ref e) {s with heap:=h' }) :
  wpAny (model prog w) A (Builtin.«zip.__next__» ⟨[.ref z],[]⟩) Q E s:=by
 obtain⟨hz,hI,⟨u1,u2,hO⟩,h1,h2⟩:=S;obtain⟨NI,ZQ,ZR,ZS⟩:=D.a a1 (.inl rfl);obtain⟨PZ,QA,QB,ZT⟩:=D.a a2 (.inr rfl);show wpAny (model prog w) _ (field (.ref z) 2>>=_) _ _ _;refine X7 (wpAny_field (x:=.bool false) hz rfl rfl ?_);show wpAny (model prog w) _ (field (.ref z) 3>>=_) _ _ _;refine X7 (wpAny_field (x:=.ref ti) hz rfl rfl ?_);refine X7 (wpAny_seqItems hI rfl ?_);show wpAny (model prog w) _ (Builtin.SmallTypes.ownedTupleIsFree (.ref z)>>=_) _ _ _;refine X7 ?_;unfold Builtin.SmallTypes.ownedTupleIsFree;refine X7 (wpAny_field (x:=.none) hz rfl rfl (X6 ?_));simp only [if_true];refine X7 (wpAny_rule ?_);refine X7 (wpAny_field (x:=.ref to) hz rfl rfl ?_);refine X7 (wpAny_setField_rec hz Zs λg1 z1 b1=>?_);have z1:IsZip g1 z ti to .ellipsis:=z1;refine X7 ?_;simp only [List.zipIdx_nil,List.zipIdx_cons,List.forIn_nil,forIn_cons];refine X7 (X7 (wpAny_onRaise ?_));show wpAny (model prog w) _ (Builtin.SmallTypes.nextOf (.ref j1)>>=_) _ _ _
 cases hx:xs[n]? with
 | none=>
  refine X7 (Jr hh (h1.by λo e=>b1.extBut _ _ D.p e) (ug.by λo e=>b1.extBut _ _ NI e) hx λg2 e b2 he=>?_);obtain⟨oe,FK,KQ⟩:=he;have z2:IsZip g2 z ti to .ellipsis:=b2 _ _ D.p.symm z1;have ne:e≠z:=λ(q:e=z)=>by subst q;rw[z2]at FK;cases FK;simp at KQ
  exact wpAny_setField_rec z2 Zs λg3 _ b3=>hE g3 e (λc o n1 _ n3 _ q=>b3.extBut _ _ n1 (b2 _ _ n3 (b1.extBut _ _ n1 q))) ⟨oe,b3.extBut _ _ ne FK,KQ⟩
 | some x=>
  have hy:ys[n]?=none:=QC.resolve_left (by rw[hx];exact λq=>nomatch q);refine X7 (uP (h1.by λo e=>b1.extBut _ _ D.p e) (ug.by λo e=>b1.extBut _ _ NI e) hx λg2 i2 b2=>X6 ?_);have o2:IsPair g2 to u1 u2:=b2.extBut _ _ D.op (b1.extBut _ _ D.o hO);refine X7 (wpAny_seqItems o2 rfl ?_);refine X7 (wpAny_updateSeq_pair o2 λg3 o3 b3=>?_);refine X7 (wpAny_letGo (X6 ?_));refine X7 (X7 (wpAny_onRaise ?_));show wpAny (model prog w) _ (Builtin.SmallTypes.nextOf (.ref j2)>>=_) _ _ _;refine X7 (Jr hh (h2.by λo e=>b3.extBut _ _ D.oq.symm (b2.extBut _ _ D.pq.symm (b1.extBut _ _ D.q e))) (vo.by λo e=>b3.extBut _ _ QA (b2.extBut _ _ QB (b1.extBut _ _ PZ e))) hy λg4 e b4 he=>?_);obtain⟨oe,FK,KQ⟩:=he;have z4:IsZip g4 z ti to .ellipsis:=b4 _ _ D.q.symm (b3.extBut _ _ D.o.symm (b2.extBut _ _ D.p.symm z1));have ne:e≠z:=λ(q:e=z)=>by subst q;rw[z4]at FK;cases FK;simp at KQ
  exact wpAny_setField_rec z4 Zs λg5 _ b5=>hE g5 e (λc o n1 n2 n3 n4 q=>b5.extBut _ _ n1 (b4 _ _ n4 (b3.extBut _ _ n2 (b2.extBut _ _ n3 (b1.extBut _ _ n1 q))))) ⟨oe,b5.extBut _ _ ne FK,KQ⟩
end
section
variable {X:Cx}{pins:ZB}{σ:List (Option V)}{H:Hp}{s:TW}{h':Heap}
def Inv.turnLaid{t':Nat}{ch:List UF}{a:UF}{o:HO}(I:Inv X pins σ H s)(hf:∀b∈ch,mP X pins H b)(k:∀b u,b∉ch->s.heap.get? b=some u->h'.get? b=some u)(hp:s.heap.objs.size<=a)(new:ObjOk X.prog X.w (aI H a o) h' a o) :
  Inv X pins σ (aI H a o) {s with heap:=h',toks:=t' }:=by
 have hn:=I.hok.fresh hp;have zj:∀b u,H b=some u->b∉ch:=λb u e z=>by rw[(hf b z).1]at e;cases e
 refine I.step (g':=s.gens) (d':=s.drawn) (ch:=ch) (λb hb=>⟨(hf b hb).2.2.2.1,(hf b hb).2.1,(hf b hb).2.2.2.2.1,(hf b hb).2.2.2.2.2⟩) (λb u _ _ hc e _=>k b u hc e) (λb u _ _ hc e _=>⟨u.slots,k b u hc e⟩)
  (λb u _ e n=>by rw[aD (ne_of_lt (QZV (Heap.lt_size e) hp))];exact n) (λb u hc e=>⟨u,k b u hc e⟩) (λb xs e=>by rw[aD (aE e hn)];exact e) (λb v u e=>by rw[aD (aE e hn)];exact e)
  (λb ps e=>⟨#[],by rw[aD (aE e hn),e];simp⟩) (λm hm=>?_) (λb u e=>?_) I.bare
 ·obtain⟨u,es,ep,ho,r⟩:=hm;exact⟨u,es,ep,k _ u (λz=>(hf _ z).2.1 rfl) ho,r⟩
 ·by_cases hb:b=a
  ·subst hb;rw[aA]at e;cases e;exact new
  ·rw[aD hb]at e;refine(I.hok b u e).stay (λc v hc q=>k c v ?_ q) (λc q=>by rw[aD (aE q hn)];exact q) λc xs q=>by rw[aD (aE q hn)];exact q
   rcases hc with z|z
   ·rw[z];exact zj b u e
   ·exact zj c _ z
def Inv.turnL{t':Nat}{ch:List UF}(I:Inv X pins σ H s)(hf:∀b∈ch,mP X pins H b)(k:∀b u,b∉ch->s.heap.get? b=some u->h'.get? b=some u):Inv X pins σ H {s with heap:=h',toks:=t' }:=by
 have zj:∀b u,H b=some u->b∉ch:=λb u e z=>by rw[(hf b z).1]at e;cases e
 refine I.step (g':=s.gens) (d':=s.drawn) (ch:=ch) (λb hb=>⟨(hf b hb).2.2.2.1,(hf b hb).2.1,(hf b hb).2.2.2.2.1,(hf b hb).2.2.2.2.2⟩) (λb u _ _ hc e _=>k b u hc e) (λb u _ _ hc e _=>⟨u.slots,k b u hc e⟩)
  (λ_ _ _ _ n=>n) (λb u hc e=>⟨u,k b u hc e⟩) (λ_ _ e=>e) (λ_ _ _ e=>e) (λb ps e=>⟨#[],by rw[e];simp⟩) (λm hm=>?_) (λb u e=>?_) I.bare
 ·obtain⟨u,es,ep,ho,r⟩:=hm;exact⟨u,es,ep,k _ u (λz=>(hf _ z).2.1 rfl) ho,r⟩
 ·refine(I.hok b u e).stay (λc v hc q=>k c v ?_ q) (λ_ q=>q) λ_ _ q=>q;rcases hc with z|z
  ·rw[z];exact zj b u e
  ·exact zj c _ z
end
def yZ(K:W.Frag)(k:Bool)(H:Hp)(a:UF)(xs:List V):Prop:=match k with|true=>SqL K H a xs|false=>SqT K H a xs
def Itz(K:W.Frag)(k1 k2:Bool)(a1 a2:UF):It:=
  ⟨λi H=>∃xs ys x y,yZ K k1 H a1 xs/\yZ K k2 H a2 ys/\xs[i]?=some x/\ys[i]?=some y,
   λi H v H'=>∃t x y,H t=none/\v=.ref t/\H'=aI H t (.tup [x,y])/\(∀xs,yZ K k1 H a1 xs->xs[i]?=some x)/\∀ys,yZ K k2 H a2 ys->ys[i]?=some y,
   λi H=>∃xs ys,yZ K k1 H a1 xs/\yZ K k2 H a2 ys/\(xs.length<=i∨ys.length<=i)⟩
def Inv.sqk{X:Cx}{pins:ZB}{σ:St}{H:Hp}{s:TW}(I:Inv X pins σ H s){k:Bool}{a:UF}{xs:List V}(h:yZ X.K k H a xs):∃its,Vals xs its/\SeqIn k s.heap a its.toArray:=by
 cases k
 ·obtain⟨its,r,p,_⟩:=I.tuple h;exact⟨its,r,p⟩
 ·obtain⟨its,r,p,_⟩:=I.list h;exact⟨its,r,p.isList⟩
def Inv.sqk_inj{X:Cx}{pins:ZB}{σ:St}{H:Hp}{s:TW}(I:Inv X pins σ H s){k:Bool}{a:UF}{xs ys:List V}(h:yZ X.K k H a xs)(h2:yZ X.K k H a ys):xs=ys:=by
 cases k
 ·exact I.tuple_inj h h2
 ·exact I.list_inj h h2
def Js{P:Program}{w:World}{K:W.Frag}{es:List Expr}{n:Nat}{pos:Pos}{k1 k2:Bool}{z ti to j1 j2 a1 a2:UF}(D:Pn z ti to j1 j2 a1 a2) :
  tH P w K (.Tuple es n pos) (Itz K k1 k2 a1 a2) [z,ti,to,j1,j2] z (λi h=>ZSt k1 k2 h z ti to j1 j2 a1 a2 .none i i) where
 mem:=by simp
 obj:=λi h st b hb=>by
  obtain⟨u1,u2,hO⟩:=st.o;obtain⟨o1,e1,_,d1⟩:=st.x;obtain⟨o2,e2,_,d2⟩:=st.y;simp only [mem_cons,QZU,or_false]at hb;rcases hb with rfl|rfl|rfl|rfl|rfl
  ·exact⟨_,st.z,λv q=>by have q':Data.fields _=Data.cell v:=q;cases q'⟩
  ·exact⟨_,st.i,λv q=>by have q':Data.seq _ _=Data.cell v:=q;cases q'⟩
  ·exact⟨_,hO,λv q=>by have q':Data.seq _ _=Data.cell v:=q;cases q'⟩
  ·exact⟨_,e1,λv q=>by rw[d1]at q;cases q⟩
  ·exact⟨_,e2,λv q=>by rw[d2]at q;cases q⟩
 keep:=λi h h' st g=>by
  obtain⟨u1,u2,hO⟩:=st.o;exact⟨g z Zs _ st.z,g ti Zs _ st.i,⟨u1,u2,g to Zs _ hO⟩,st.x.by λo e=>g j1 Zs o e,st.y.by λo e=>g j2 Zs o e⟩
 item:=by
  intro X hP hw hK hc i pins s σ H E I hf st hg;subst hP hw hK;obtain⟨xs,ys,x,y,hx,hy,ex,ey⟩:=hg;obtain⟨its,rv,p⟩:=I.sqk hx;obtain⟨TZ,ub,p'⟩:=I.sqk hy;obtain⟨u,hu,ru⟩:=rv.get ex;obtain⟨v,hv,ZU⟩:=ub.get ey;have hT:s.TypeIs (.ref z) "zip":=⟨_,st.z,rfl⟩;unfold pyNext;refine X7 (wpAny_attempt (wpAny_callSpecial?_slot (name:=Str.ofString "__next__") hT F.slot_zip_next (wpAny_call_entry F.slot_zip_next hT F.entry_zip_next (Po D st p p' (by simpa using hu) (by simpa using hv) λh1 KR t1 z1 FL=>X6 ?_) (F.args_zip_next_1 _))));refine⟨_,rfl,?_⟩;refine wpAny_letOwnedTupleGo_zip KR.z λh2 z2 b2=>?_;obtain⟨w1,w2,hO⟩:=KR.o;have KP:z<s.heap.objs.size:=Heap.lt_size st.z;have t2:IsPair h2 s.heap.objs.size u v:=b2.extBut _ _ (ne_of_gt KP) t1;refine⟨.ref s.heap.objs.size,aI H s.heap.objs.size (.tup [x,y]),I.turnLaid (t':=s.toks) hf (λb o hb e=>?_) (bQ _) ⟨by show 2<=sizeLine;decide,[u,v],.cons ru (.cons ZU .nil),⟨_,t2,rfl,_,rfl⟩⟩,rfl,?_,?_,λb hb=>?_⟩
  ·have J1:b≠z/\b≠ti/\b≠to/\b≠j1/\b≠j2:=by simpa using hb
   exact b2.extBut _ _ J1.1 (FL b o J1.1 J1.2.2.1 J1.2.2.2.1 J1.2.2.2.2 e)
  ·exact⟨s.heap.objs.size,x,y,I.hok.fresh (bQ _),rfl,rfl,λzs hz=>by rw[I.sqk_inj hz hx];exact ex,λzs hz=>by rw[I.sqk_inj hz hy];exact ey⟩
  ·exact⟨z2,b2.extBut _ _ D.i KR.i,⟨_,_,b2.extBut _ _ D.o hO⟩,KR.x.by λo e=>b2.extBut _ _ D.p e,KR.y.by λo e=>b2.extBut _ _ D.q e⟩
  ·have B5:b<s.heap.objs.size:=by
    obtain⟨u1,u2,ZV⟩:=st.o;obtain⟨o1,e1,_⟩:=st.x;obtain⟨o2,e2,_⟩:=st.y;simp only [mem_cons,QZU,or_false]at hb;rcases hb with rfl|rfl|rfl|rfl|rfl
    ·exact KP
    ·exact Heap.lt_size st.i
    ·exact Heap.lt_size ZV
    ·exact Heap.lt_size e1
    ·exact Heap.lt_size e2
   rw[aD (ne_of_lt B5)];exact(hf b hb).1
 done:=by
  intro X hP hw hK hc i pins s σ H E I hf st hg;subst hP hw hK;obtain⟨xs,ys,hx,hy,he⟩:=hg;obtain⟨its,rv,p⟩:=I.sqk hx;obtain⟨TZ,ub,p'⟩:=I.sqk hy;have hT:s.TypeIs (.ref z) "zip":=⟨_,st.z,rfl⟩;have l1:=rv.length;have l2:=ub.length;unfold pyNext;refine X7 (wpAny_attempt (wpAny_callSpecial?_slot (name:=Str.ofString "__next__") hT F.slot_zip_next (wpAny_call_entry F.slot_zip_next hT F.entry_zip_next (Ww (I.ok.hd hc) D st p p' (he.imp (λh=>by simp;omega) (λh=>by simp;omega)) λh1 e FL X0=>?_) (F.args_zip_next_1 _))));obtain⟨o,ho,NJ⟩:=X0;refine X7 (wpAny_isInstance (T:="StopIteration") (b:=true) ⟨o,ho,NJ⟩ isSubtype_stop ?_);refine X6 ⟨rfl,I.turnL (t':=s.toks) hf λb u hb e'=>?_⟩;have J1:b≠z/\b≠ti/\b≠to/\b≠j1/\b≠j2:=by simpa using hb
  exact FL b u J1.1 J1.2.2.1 J1.2.2.2.1 J1.2.2.2.2 e'
 self:=λ_ _ _ _ _ st h=>wpAny_pyIter_zip st.z h
def Ym(k1 k2:Bool)(h:Heap)(a1 a2:UF):Heap:=
 ((((h.push (lP k1 a1)).push (lP k2 a2)).push {cls:=.type "tuple",data:=.seq #[.ref h.objs.size,.ref (h.objs.size+1)] }).push {cls:=.type "tuple",data:=.seq #[.none,.none] }).push {cls:=.type "zip",data:=.fields #[.none,.bool false,.bool false,.ref (h.objs.size+2),.ref (h.objs.size+3)] }
def Wx(k1 k2:Bool)(a1 a2:UF)(xs ys:Array Value) :
  Meets (Builtin.«zip.__new__» ⟨[.type "zip",.ref a1,.ref a2],[]⟩) (λ_ R s=>SeqIn k1 s.heap a1 xs/\SeqIn k2 s.heap a2 ys/\R (.ok (.ret (.ref (s.heap.objs.size+4)))) {s with heap:=Ym k1 k2 s.heap a1 a2 }):=
 .of_wp λprog w A R s h=>by
  obtain⟨hp,g,d,tk,os⟩:=s;obtain⟨ug,vo,h⟩:=h;have FJ:=sub_zip;have L1:SeqIn k1 (Shared.heap ⟨hp,g,d,tk,os⟩) a1 xs:=ug;have L2:SeqIn k2 (Shared.heap ⟨hp.push (lP k1 a1),g,d,tk,os⟩) a2 ys:=SeqIn.by vo λo e=>eP _ e
  wp_walk using Jq L1,Jq L2
  refine⟨_,rfl,?_⟩;simp only [Heap.size_push];exact h
def Wy{n a1 a2:UF}(h1:a1<n)(h2:a2<n):Pn (n+4) (n+2) (n+3) n (n+1) a1 a2 where
 i:=ne_of_lt (add_lt_add_left Zd n)
 o:=ne_of_lt (add_lt_add_left Zd n)
 p:=ne_of_lt (Nat.lt_add_of_pos_right Zd)
 q:=ne_of_lt (add_lt_add_left Zd n)
 io:=ne_of_lt (add_lt_add_left Zd n)
 ip:=ne_of_gt (Nat.lt_add_of_pos_right Zd)
 iq:=ne_of_gt (add_lt_add_left Zd n)
 op:=ne_of_gt (Nat.lt_add_of_pos_right Zd)
 oq:=ne_of_gt (add_lt_add_left Zd n)
 pq:=ne_of_lt (Nat.lt_add_of_pos_right Zd)
 a:=λb hb=>by
  have B5:b<n:=by rcases hb with rfl|rfl<;>assumption
  exact⟨ne_of_lt (QZV B5 (le_add_right n 4)),ne_of_lt (QZV B5 (le_add_right n 3)),ne_of_lt B5,ne_of_lt (QZV B5 (le_add_right n 1))⟩
section
variable {prog:Program}{w:World}{A:Around}{E:X9}{s:TW}
def Pq{k1 k2:Bool}{a1 a2:UF}{xs ys:Array Value}{Q:X9}(ug:SeqIn k1 s.heap a1 xs)(vo:SeqIn k2 s.heap a2 ys)(h:∀h',ZSt k1 k2 h' (s.heap.objs.size+4) (s.heap.objs.size+2) (s.heap.objs.size+3) s.heap.objs.size (s.heap.objs.size+1) a1 a2 .none 0 0->(∀c o,s.heap.get? c=some o->h'.get? c=some o)->Q (.ref (s.heap.objs.size+4)) {s with heap:=h' }) :
  wpAny (model prog w) A (call (.type "zip") [.ref a1,.ref a2]) Q E s:=by
 refine callType_new F.called_zip Zd (F.typeCall_zip_2 _ _) (F.newCall_zip_2 _ _) (λobj=>F.args_object_init_3 obj _ _) F.entry_zip_new (Wx k1 k2 a1 a2 xs ys) ⟨ug,vo,?_⟩;have n1:(s.heap.push (lP k1 a1)).objs.size=s.heap.objs.size+1:=Heap.size_push ..;have n2:((s.heap.push (lP k1 a1)).push (lP k2 a2)).objs.size=s.heap.objs.size+2:=by rw[Heap.size_push,n1]
 have up:∀ {o1 o2 o3 o4 o5:Obj}{b:UF}{o:Obj},s.heap.get? b=some o->(((((s.heap.push o1).push o2).push o3).push o4).push o5).get? b=some o:=λe=>eP _ (eP _ (eP _ (eP _ (eP _ e))))
 have NK:∀ {h0:Heap}{o:Obj}{n:Nat},h0.objs.size=n->o.isFreed=false->(h0.push o).get? n=some o:=λe f=>by subst e;exact UV _ f
 have g1:(Ym k1 k2 s.heap a1 a2).get? s.heap.objs.size=some (lP k1 a1):=eP _ (eP _ (eP _ (eP _ (UV _ rfl))));have g2:(Ym k1 k2 s.heap a1 a2).get? (s.heap.objs.size+1)=some (lP k2 a2):=eP _ (eP _ (eP _ (NK n1 rfl)));have g3:IsPair (Ym k1 k2 s.heap a1 a2) (s.heap.objs.size+2) (.ref s.heap.objs.size) (.ref (s.heap.objs.size+1)):=eP _ (eP _ (NK n2 rfl));have g4:IsPair (Ym k1 k2 s.heap a1 a2) (s.heap.objs.size+3) .none .none:=eP _ (NK (by rw[Heap.size_push,n2]) rfl);have g5:IsZip (Ym k1 k2 s.heap a1 a2) (s.heap.objs.size+4) (s.heap.objs.size+2) (s.heap.objs.size+3) .none:=NK (by rw[Heap.size_push,Heap.size_push,n2]) rfl;exact⟨⟨_,g5,rfl⟩,h _ ⟨g5,g3,⟨_,_,g4⟩,⟨_,g1,rfl,rfl⟩,⟨_,g2,rfl,rfl⟩⟩ λc o e=>up e⟩
end
section
variable {X:Cx}{a b:Expr}{ta tb:TE}{p pos yj:Pos}{es:List Expr}{n:Nat}
def aAO(K:W.Frag)(ta tb:TE):TI:=λσ H R=>ta σ H λx H1=>tb σ H1 λy H2=>mR x λa1=>mR y λa2=>∃k1 k2 xs ys,yZ K k1 H2 a1 xs/\yZ K k2 H2 a2 ys/\R (Itz K k1 k2 a1 a2) H2
def Jt:bootBuiltins "zip"=some (.type "zip"):=by decide +kernel
def Wz(hg:Gl X "zip")(hm:X.mg "zip"=none)(ha:PE X a ta)(hb:PE X b tb)(h1:aM a=true)(h2:aM b=true):PI X (.Tuple es n yj) (.Call (.Name "zip" p) [a,b] [] pos) (aAO X.K ta tb):=by
 intro pins s σ H R I h;have hs:starEach [a,b] X.env=[(false,eval a X.env),(false,eval b X.env)]:=by rw[bB h1,bB h2];rfl
 have ET:starEach [b] X.env=[(false,eval b X.env)]:=by rw[bB h2];rfl
 have hA:PA X [a,b] (nX ta (nX tb yJ)):=uC ha (uC hb tL h2) h1;refine Call_ (mO I hg hm Jt (PyProof.Rows.callWith_type1 (bU (hA pos pins s σ H (λvs H2=>match vs with|[x,y]=>(mR x λa1=>mR y λa2=>∃k1 k2 xs ys,yZ X.K k1 H2 a1 xs/\yZ X.K k2 H2 a2 ys/\R (Itz X.K k1 k2 a1 a2) H2)|_=>False) I ?_) λus s1 ⟨vs,H1,I1,r1,q1⟩=>?_) (by rw[hs,ET]) (by rw[ET];rfl)))
 ·exact h
 ·dsimp only at q1;split at q1
  rotate_left
  ·exact q1.elim
  rename_i x y;rw[dY]at q1;obtain⟨a1,rfl,q1⟩:=q1;rw[dY]at q1;obtain⟨a2,rfl,k1,k2,xs,ys,q2,q3,q⟩:=q1
  cases r1 with
  | cons r rr=>
   cases rr with
   | cons r' rr=>
    cases rr;cases r;cases r';obtain⟨its,rv,p1⟩:=I1.sqk q2;obtain⟨TZ,ub,p2⟩:=I1.sqk q3;refine Pq p1 p2 λh' S k=>?_;have I2:Inv X pins σ H1 {s1 with heap:=h' }:=I1.kept (t':=s1.toks) k;refine wpAny_pyIter_zip (s:={s1 with heap:=h' }) S.z ?_;refine⟨s1.heap.objs.size+4,_,_,_,H1,rfl,I2,Js (Wy p1.lt p2.lt),S,λb hb=>?_,q⟩;have J1:s1.heap.objs.size<=b:=by
     simp only [mem_cons,QZU,or_false]at hb;rcases hb with rfl|rfl|rfl|rfl|rfl
     ·exact le_add_right _ 4
     ·exact le_add_right _ 2
     ·exact le_add_right _ 3
     ·exact bQ _
     ·exact le_add_right _ 1
    exact I1.fpOk J1 (I1.hok.fresh J1)
def R.ir{K:W.Frag}(hg:Gl X "zip")(hm:X.mg "zip"=none)(ha:XE X a ta)(hb:XE X b tb)(hK:X.K=K:=by rfl)(h1:aM a=true:=by rfl)(h2:aM b=true:=by rfl):XI X (.Tuple es n yj) (.Call (.Name "zip" p) [a,b] [] pos) (aAO K ta tb):=
 hK▸⟨Wz hg hm ha.h hb.h h1 h2⟩
end
def Ju{K:W.Frag}{k1 k2:Bool}{a1 a2:UF}{xs ys:List V}{js:List (Option Nat)}{g:TG}{tt:TT}{te:TE}{σ:St}{H:Hp}{Q:List V->Hp->Prop}(hz:xs.length<=100000)(Pv:Nat->List V->Hp->Prop)(hA:∀i zs H,Pv i zs H->yZ K k1 H a1 xs/\yZ K k2 H a2 ys/\zs.length<=i)(h0:Pv 0 [] H)(hs:∀i x y zs H t,xs[i]?=some x->ys[i]?=some y->Pv i zs H->H t=none->g (.ref t) (tZ js σ) (aI H t (.tup [x,y])) λσ2 H2=>tt σ2 H2 λb H3=>if b=true then te σ2 H3 λv H4=>Pv (i+1) (zs++[v]) H4 else Pv (i+1) zs H3)(hd:∀zs H,Pv (min xs.length ys.length) zs H->Q zs H):pM js g tt te σ (Itz K k1 k2 a1 a2) H Q:=by
 refine⟨λi m zs H=>m=min xs.length ys.length-i/\i<=min xs.length ys.length/\Pv i zs H,⟨_,rfl,zero_le _,h0⟩,?_⟩;rintro i m zs H ⟨rfl,hi,p⟩;obtain⟨q1,q2,q3⟩:=hA i zs H p;by_cases B5:i<min xs.length ys.length
 ·have l1:i<xs.length:=QZV B5 (min_le_left _ _);have l2:i<ys.length:=QZV B5 (Nat.min_le_right _ _);refine .inr ⟨⟨xs,ys,xs[i],ys[i],q1,q2,by simp[l1],by simp[l2]⟩,oZ (m:=100000) Zo Zd,Pv (i+1),λzs' H' p'=>⟨_,Zo,rfl,B5,p'⟩,λv H' y=>?_⟩;obtain⟨t,x,y,ht,rfl,rfl,e1,e2⟩:=y;exact hs i x y zs H t (e1 xs q1) (e2 ys q2) p ht
 ·have e:i=min xs.length ys.length:=by omega
  subst e;exact .inl ⟨⟨xs,ys,q1,q2,Zo⟩,hd zs H p⟩
def oK(x:V)(zs:List Str):Bool:=match x with|.str z=>decide (z∈zs)|_=>false
section
variable {X:Cx}
def Eh(A:Around):A.in1.units=A.units+1:=rfl
def kQ(xs ys:List V):Bool:=(List.range (min xs.length ys.length)).all (λj=>qY (xs.getD j .non) (ys.getD j .non))&&xs.length==ys.length
end
def nIs:Option bA->T0->Bool
 | none,.none=>true
 | none,_=>false
 | some k,v=>kO k v
def cX:∀ {k:Option bA}{v:T0},nIs k v=true->(k=none/\v=.none)∨∃j,k=some j/\kO j v=true
 | none,v,h=>by cases v<;>first|exact .inl ⟨rfl,rfl⟩|exact QZZ (show false=true from h) XV
 | some j,v,h=>.inr ⟨j,rfl,h⟩
def pX{j:bA}:kO j .none=false:=by cases j<;>rfl
def wM:Int:=4238894112
section
variable {prog:Program}{w:World}{A:Around}{E:X9}{s:TW}
def Ei{Q:Int->TW->Prop}(h:Q wM {s with toks:=s.toks+1 }):wpAny (model prog w) A (PySem.pyHash .none) Q E s:=by
 have hT:s.TypeIs Value.none "NoneType":=rfl;unfold PySem.pyHash;refine X7 ?_;rw[cRoomFor,P7 (show ¬ ([Value.none].any Value.onHeap=true) from XV)];refine X6 ?_;refine X7 (wpAny_specialOf hT PySem.F.slot_NoneType_hash.lookup ?_);show wpAny (model prog w) A (if (some (Value.builtin "NoneType.__hash__")==some Value.none)=true then _ else _) Q E s;rw[P7 (show ¬ ((some (Value.builtin "NoneType.__hash__")==some Value.none)=true) from XV)];refine X7 (wpAny_specialOf hT PySem.F.slot_NoneType_hash.lookup ?_);show wpAny (model prog w) A (callSpecialIfBoundUnlessNone? Value.none "__hash__" _>>=_) Q E s;refine X7 (wpAny_callSpecialIfBoundUnlessNone?_slot hT PySem.F.slot_NoneType_hash (wpAny_call_entry PySem.F.slot_NoneType_hash hT PySem.F.entry_NoneType_hash (show wpAny (model prog w) _ (do ret (← mkInt wM)) _ _ s from wpAny_ret_mkInt ?_) (PySem.F.args_NoneType_hash_1 _)));show wpAny (model prog w) A (if (decide (-(2:Int)^63<=wM)&&decide (wM<2^63))=true then _ else _) Q E _;rw[TD Zd];exact X6 h
end
def Jv(prog:Program)(w:World):PySem.KeyKind prog w (Option bA) where
 is:=nIs
 hash:=λk=>match k with|none=>wM|some j=>Yq w j
 inj:=λv a b ha hb=>by
  rcases cX ha with⟨rfl,rfl⟩|⟨i,rfl,h1⟩
  ·rcases cX hb with⟨rfl,_⟩|⟨j,rfl,h2⟩
   ·rfl
   ·rw[pX]at h2;cases h2
  ·rcases cX hb with⟨rfl,rfl⟩|⟨j,rfl,h2⟩
   ·rw[pX]at h1;cases h1
   ·rw[(aT prog w).inj v i j h1 h2]
 byValue:=λk v h=>by
  rcases cX h with⟨rfl,rfl⟩|⟨i,rfl,h1⟩
  ·rfl
  ·exact(aT prog w).byValue i v h1
 pyHash:=λ{A E s k v Q} hv h=>by
  rcases cX hv with⟨rfl,rfl⟩|⟨i,rfl,h1⟩
  ·exact Ei h
  ·exact(aT prog w).pyHash h1 h
 eqBool:=λ{A E s a b u v Q} hu hv h=>by
  rcases cX hu with⟨rfl,rfl⟩|⟨i,rfl,h1⟩
  ·rcases cX hv with⟨rfl,rfl⟩|⟨j,rfl,h2⟩
   ·exact SeqAt.EqAt.same _ _ _ _ _ (by simpa using h)
   ·have h':Q false s:=by simpa using h
    rcases bM h2 with⟨n,t,rfl,rfl⟩|⟨x,t,rfl,rfl⟩
    ·exact SeqAt.EqAt.none_int n t _ _ _ _ h'
    ·exact SeqAt.EqAt.none_str x t _ _ _ _ h'
  ·rcases cX hv with⟨rfl,rfl⟩|⟨j,rfl,h2⟩
   ·have h':Q false s:=by simpa using h
    rcases bM h1 with⟨n,t,rfl,rfl⟩|⟨x,t,rfl,rfl⟩
    ·exact SeqAt.EqAt.int_none n t _ _ _ _ h'
    ·exact SeqAt.EqAt.str_none x t _ _ _ _ h'
   ·refine(aT prog w).eqBool h1 h2 ?_;have e:decide (some i=some j)=decide (i=j):=by simp
    rw[<- e];exact h
 «strs»:=λk x t v h=>by
  rcases cX h with⟨rfl,e⟩|⟨i,rfl,h1⟩
  ·cases e
  ·exact(aT prog w).strs i x t v h1
def Jw{prog:Program}{w:World}{h:Heap}{a:UF}{f:bA->Option T0}(m:h.MapOf (aT prog w) a f):∃g:Option bA->Option T0,h.MapOf (Jv prog w) a g/\g none=none:=by
 obtain⟨o,es,ep,ho,hx,hd,hk,hf⟩:=m;refine⟨_,⟨o,es,ep,ho,hx,hd,λe he=>?_,λk=>rfl⟩,?_⟩
 ·obtain⟨k,h1,h2⟩:=hk e he;exact⟨some k,h1,h2⟩
 ·show findBy nIs es none=none;unfold findBy;have:es.find? (λe=>nIs none e.key)=none:=by
   rw[Array.find?_eq_none];intro e he z;obtain⟨k,h1,h2⟩:=hk e he;rcases cX z with⟨_,e1⟩|⟨_,e1,_⟩
   ·rw[e1]at h1;have M6:kO k .none=true:=h1;rw[pX]at M6;cases M6
   ·cases e1
  rw[this];rfl
section
variable {X:Cx}
def Xa(neg:Bool):R2:=λx y H Q=>mR y λa=>match x with
 | .non=>(∃kvs,H a=some (.dK kvs))/\Q (.bl neg) H
 | .str z=>∃kvs,H a=some (.dK kvs)/\Q (.bl (if neg then !(bC kvs (Sum.inr z)).isSome else (bC kvs (Sum.inr z)).isSome)) H
 | _=>False
def Xb(neg:Bool)(hu:X.A.units+1<cLine):OpR X (compareOp (if neg then .NotIn else .In)) (Xa neg):=by
 intro pins s σ H x y v u Q I rx ry h;unfold Xa at h;rw[dY]at h;obtain⟨a,rfl,h⟩:=h;cases ry
 cases x with
 | non=>
  obtain⟨⟨kvs,e⟩,q⟩:=h;cases rx;obtain⟨z,hd,vs,rel,dd⟩:=Ht I.hok e;obtain⟨g,hm,hg⟩:=Jw dd.mapOf;cases neg
  ·refine wpAny_in_of (knd:=Jv X.prog X.w) (k:=none) rfl hd hm ⟨.bl _,H,I.tok _,rfl,?_⟩;rw[hg];exact q
  ·refine wpAny_notIn_of (knd:=Jv X.prog X.w) (k:=none) rfl hd hm ⟨.bl _,H,I.tok _,rfl,?_⟩;rw[hg];exact q
 | str z=>
  obtain⟨kvs,e,q⟩:=h;cases neg
  ·exact Zx hu I (DGet.k (k:=Sum.inr z) e) rx λs' I'=>⟨.bl _,H,I',rfl,q⟩
  ·exact As hu I (DGet.k (k:=Sum.inr z) e) rx λs' I'=>⟨.bl _,H,I',rfl,q⟩
 | _=>exact h.elim
def R.iu(hu:X.A.units+1<cLine):jF X (compareOp .In) (Xa false):=⟨Xb false hu⟩
end
def Pc(H:Hp)(y:V):Prop:=(eC y=true/\∀z,y=.str z->z.length<=1000)∨(∃a ys,y=.ref a/\(H a=some (.lst ys)∨H a=some (.tup ys)))∨∃a kvs,y=.ref a/\H a=some (.dK kvs)
def Tg(H:Hp)(x:V):Prop:=Pc H x/\∀a xs,x=.ref a->H a=some (.tup xs)->xs.length<=1000/\∀y∈xs,Pc H y
def Pc.same{H H':Hp}{y:V}(s:Same H H')(h:Pc H y):Pc H' y:=by
 rcases h with h|⟨a,ys,e,h⟩|⟨a,kvs,e,h⟩
 ·exact .inl h
 ·exact .inr (.inl ⟨a,ys,e,h.imp (s _ _) (s _ _)⟩)
 ·exact .inr (.inr ⟨a,kvs,e,s _ _ h⟩)
def Pc.kd{H:Hp}{y:V}(h:Pc H y):∃k,Sk H y k:=by
 rcases h with⟨h,_⟩|⟨a,ys,rfl,h|h⟩|⟨a,kvs,rfl,h⟩
 ·cases y with
  | non=>exact⟨.non,trivial⟩
  | bl _=>exact⟨.bl,trivial⟩
  | int _=>exact⟨.int,trivial⟩
  | str _=>exact⟨.str,trivial⟩
  | _=>exact QZZ (show false=true from h) XV
 ·exact⟨.lst,.inl ⟨ys,h⟩⟩
 ·exact⟨.tup,⟨ys,h⟩⟩
 ·exact⟨.dct,⟨kvs,h⟩⟩
def Pc.pt{H:Hp}{y:V}(h:Pc H y):Pt H y:=by
 obtain⟨k,hk⟩:=h.kd;refine⟨k,hk,λz e=>?_⟩;subst e;rcases h with⟨_,h⟩|⟨_,_,e,_⟩|⟨_,_,e,_⟩
 ·exact h z rfl
 ·cases e
 ·cases e
def Pc.int{H:Hp}{n:Int}:Pc H (.int n):=.inl ⟨rfl,λ_ e=>nomatch e⟩
def Pc.str{H:Hp}{z:Str}(h:z.length<=1000):Pc H (.str z):=.inl ⟨rfl,λ_ e=>by injection e with e;rw[<- e];exact h⟩
def Pc.tup{H:Hp}{a:UF}{ys:List V}(h:H a=some (.tup ys)):Pc H (.ref a):=.inr (.inl ⟨a,ys,rfl,.inr h⟩)
def Tg.tup{H:Hp}{a:UF}{xs:List V}(h:H a=some (.tup xs))(hl:xs.length<=1000)(hx:∀y∈xs,Pc H y):Tg H (.ref a):=
 ⟨.tup h,λb ys e g=>by cases e;rw[h]at g;cases g;exact⟨hl,hx⟩⟩
def jP(H:Hp)(x:V):Option (List V):=match x with|.ref a=>(match H a with|some (.tup xs)=>some xs|_=>none)|_=>none
def Su(xs:List V):V:=match xs with|.str u::_=>.str u|_=>.non
def jQ(H:Hp)(x:V):V:=match jP H x with|some xs=>Su xs|none=>.non
def pY{H:Hp}{a:UF}{xs:List V}(h:H a=some (.tup xs)):jP H (.ref a)=some xs:=by unfold jP;dsimp only;rw[h]
def Jx(wd:Str)(n:Int):List (Str×List (Int×Int)):=
 if wd="pass" then [] else if wd="move" then [("is",[(0,1000000000000-n),(n,1000000000000)]),("short",[(0,n-1)]),("full",[(1000000000000-n+1,1000000000000)])]
 else if wd="take"∨wd="send" then [("is",[(0,1000000000000-n)]),("short",[(0,n-1)])] else [("is",[(n,1000000000000)]),("full",[(1000000000000-n+1,1000000000000)])]
def aW(xs:List V)(bs:List (Int×Int)):Bool:=decide (xs.length=bs.length)&&(xs.zip bs).all λq=>yW q.2.1 q.2.2 q.1
def Ej(wd:Str)(hs:List Str)(n:Int)(xs:List V):Bool:=match xs with
 | .str u::r=>
  if u="no" then (match r with|[y]=>oK y hs|_=>false)
  else if u="ok" then decide (wd="pass")&&r.isEmpty
  else match (Jx wd n).lookup u with|some bs=>aW r bs|none=>false
 | _=>false
def zA(H:Hp)(wd:Str)(hs:List Str)(n:Int)(x:V):Bool:=match jP H x with|some xs=>Ej wd hs n xs|none=>false
abbrev B2:=Addr×Int×Int
def BAt(H:Hp)(bs:List B2):Prop:=∀z∈bs,H z.1=some (.tup [.int z.2.1,.int z.2.2])
def uQ(bs:List B2):List V:=bs.map λz=>V.ref z.1
def wN(H:Hp)(o:Option (List (Int×Int)))(v:Option V):Prop:=match o with
 | some bs=>∃t zs,v=some (.ref t)/\H t=some (.tup (uQ zs))/\BAt H zs/\zs.map (·.2)=bs
 | none=>v=none
def BAt.same{H H':Hp}{bs:List B2}(s:Same H H')(h:BAt H bs):BAt H' bs:=λz hz=>s _ _ (h z hz)
structure DWN(wd:Str)(n:Int)(xs:List V)(as:List (Str×List V)):Prop where
 ex:∃one other nm cs,DW one other nm n wd xs cs as
 nm:∀q∈as,fE q.1
def DWN.dwx{wd:Str}{n:Int}{xs:List V}{as:List (Str×List V)}(h:DWN wd n xs as):∃cs,Ss wd xs cs as:=by
 obtain⟨one,other,nm,cs,hd⟩:=h.ex;exact⟨cs,one,other,nm,n,hd⟩
def wO:Sp:=λvs H Q _=>∃x,vs=[x]/\Tg H x/\Q (jQ H x) H
def Sv(xs:List V):Bool:=match xs with|[_,y]=>Yl y|_=>false
def Jy:Sp:=λvs H Q _=>∃a xs,vs=[.ref a]/\H a=some (.tup xs)/\(∀y∈xs,Pc H y)/\∀H',Same H H'->Q (.bl (Sv xs)) H'
def wP:Sp:=λvs H Q _=>∃p wd n xs as,vs=[.ref p]/\H p=some (.tup xs)/\DWN wd n xs as/\∀d kvs H',Same H H'->H' d=some (.dK kvs)->(∀u:Str,wN H' ((Jx wd n).lookup u) (bC kvs (Sum.inr u)))->Q (.ref d) H'
def wQ:Sp:=λvs H Q _=>∃a t xs bs,vs=[.ref a,.ref t]/\H a=some (.tup xs)/\xs.length<=1000/\(∀y∈xs,Pc H y)/\H t=some (.tup (uQ bs))/\BAt H bs/\∀H',Same H H'->Q (.bl (aW xs (bs.map (·.2)))) H'
def Bk:Sp:=λvs H Q _=>∃p wd n xs as x,vs=[.ref p,x]/\H p=some (.tup xs)/\DWN wd n xs as/\Tg H x/\∀H',Same H H'->Q (.bl (zA H wd (as.map (·.1)) n x)) H'
section
variable {X:Cx}{o:Expr}{to:TE}{p pos apos cpos:Pos}
def Sw:Cv:=λo i v H Q=>∃a H',o=.ref a/\DPut H a i v H'/\Q H'
def Jz(hu:X.A.units+1<cLine):Nj X Sw:=by
 intro pins s σ H o i v ov iv u Q I ro ri rv h;obtain⟨a,H',rfl,g,q⟩:=h;cases ro;exact Dv hu I g ri rv λs' I'=>⟨H',I',q⟩
def R.dj(hu:X.A.units+1<cLine):Wd X Sw:=⟨Jz hu⟩
end
def Ka(prs:List (Str×Int))(n:Str)(v:Int):List (Str×Int):=prs.map λq=>if q.1=n then (q.1,v) else q
def Ek(prs:List (Str×Int))(n:Str)(v:Int):(Ka prs n v).map (·.1)=prs.map (·.1):=by
 unfold Ka;rw[map_map];refine List.map_congr_left λq _=>?_
 show(if q.1=n then (q.1,v) else q).1=q.1;split<;>rfl
def Pr{prs:List (Str×Int)}{n:Str}{v:Int}(h:n∈prs.map (·.1)):bN (mM prs) (Sum.inr n) (.int v)=mM (Ka prs n v):=by
 unfold bN;rw[TD (by rw[fX,uK];obtain⟨a,ha⟩:=pU h;rw[ha];rfl)];unfold mM Ka;rw[map_map,map_map];refine List.map_congr_left λq _=>?_
 show(if (Sum.inr q.1:bA)=Sum.inr n then (Sum.inr q.1,V.int v) else ((Sum.inr q.1:bA),V.int q.2))=((Sum.inr (if q.1=n then (q.1,v) else q).1:bA),V.int (if q.1=n then (q.1,v) else q).2);by_cases e:q.1=n
 ·rw[TD (by rw[e]),TD e]
 ·rw[P7 (λz=>e (Sum.inr.inj z)),P7 e]
def Bl(C:UF):Sp:=λvs H Q _=>∃(p dx:UF)(r:V)(prs:List (Str×Int)),vs=[.ref p,r]/\H p=some (.ins C dx [])/\Wp H r prs/\(prs.map (·.1)).Nodup/\prs.length<=1000 ∧
 ∀H' d,H d=none->H' p=some (.ins C dx [("amounts",.ref d)])->H' d=some (.dK (mM prs))->(∀b o,H b=some o->b≠p->H' b=some o)->Q .non H'
section
variable {X:Cx}
def Kb(i j:Int):Prop:=0<j/\j<2^64
def Ps:OpR X (binaryOp .FloorDiv) (m2 Kb λi j=>.int (i / j)):=(opI (C:=Kb) (g:=λi j=>i / j) λi j _ _ s Q E hc q=>by
 have h1:i.fdiv j=i/j:=Int.fdiv_eq_ediv_of_nonneg _ (by have:=hc.1;omega);refine floordiv_int (by have:=hc.1;omega) (by rw[h1];exact q) (.inl (PyProof.noPylong_of_log2 ?_));have h2:j.natAbs<2^64:=by have:=hc.1;have:=hc.2;omega
 exact QZV (Nat.log2_lt (by have:=hc.1;omega) |>.mpr h2) Zd).imp uB
def R.gv:jF X (binaryOp .FloorDiv) (m2 Kb λi j=>.int (i/j)):=⟨Ps⟩
end
def KLET:List Nat:=LET++FIG
def wR(z:Str):Prop:=1<=z.length/\z.length<=12/\∀c∈z.cps.toList,c∈KLET
def Yn(K:W.Frag)(a:UF):It:=
  ⟨λi H=>∃xs x,SqL K H a xs/\xs[i]?=some x,
   λi H v H'=>∃t x,H t=none/\v=.ref t/\H'=aI H t (.tup [.int i,x])/\∀xs,SqL K H a xs->xs[i]?=some x,
   λi H=>∃xs,SqL K H a xs/\xs.length<=i⟩
structure ESt(h:Heap)(e it a:UF)(i:Nat):Prop where
 e:∃old,IsEnum h e it i old
 i:h.IsListIter it a i
def El{P:Program}{w:World}{K:W.Frag}{es:List Expr}{n:Nat}{pos:Pos}{e it a:UF}(C7:e≠it)(hea:a≠e)(hia:a≠it) :
  tH P w K (.Tuple es n pos) (Yn K a) [e,it] e (λi h=>ESt h e it a i) where
 mem:=by simp
 obj:=λi h st b hb=>by
  obtain⟨old,he⟩:=st.e;obtain⟨o1,e1,_,d1⟩:=st.i;simp only [mem_cons,QZU,or_false]at hb;rcases hb with rfl|rfl
  ·exact⟨_,he,λv q=>by have q':Data.fields _=Data.cell v:=q;cases q'⟩
  ·exact⟨_,e1,λv q=>by rw[d1]at q;cases q⟩
 keep:=λi h h' st g=>by
  obtain⟨old,he⟩:=st.e;obtain⟨o1,e1,r⟩:=st.i;exact⟨⟨old,g e Zs _ he⟩,⟨o1,g it Zs _ e1,r⟩⟩
 item:=by
  intro X hP hw hK hc i pins s σ H E I hf st hg;subst hP hw hK;obtain⟨xs,x,hx,ex⟩:=hg;obtain⟨its,rv,p,_⟩:=I.list hx;obtain⟨u,hu,ru⟩:=rv.get ex;obtain⟨old,he⟩:=st.e;refine wpAny_pyNext_enum_item he st.i p.isList (by simpa using hu) C7 λh1 e1 i1 t1 z1 k1=>?_;refine⟨_,rfl,?_⟩;refine wpAny_letOwnedTupleGo_enum e1 λh2 e2 b2=>?_;have elt:e<s.heap.objs.size:=Heap.lt_size he;have t2:h2.get? s.heap.objs.size=some {cls:=.type "tuple",data:=.seq #[.int i s.toks,u] }:=b2.extBut _ _ (ne_of_gt elt) t1;refine⟨.ref s.heap.objs.size,aI H s.heap.objs.size (.tup [.int i,x]),I.turnLaid (t':=s.toks+1) hf (λb o hb e'=>?_) (bQ _) ⟨by show 2<=sizeLine;decide,[.int i s.toks,u],.cons ⟨_,rfl⟩ (.cons ru .nil),⟨_,t2,rfl,_,rfl⟩⟩,rfl,?_,?_,λb hb=>?_⟩
  ·have J1:b≠e/\b≠it:=by simpa using hb
   exact b2.extBut _ _ J1.1 (k1 b o J1.1 J1.2 e')
  ·exact⟨s.heap.objs.size,x,I.hok.fresh (bQ _),rfl,rfl,λzs hz=>by rw[I.list_inj hz hx];exact ex⟩
  ·obtain⟨o1,q1,r1⟩:=i1;exact⟨⟨_,by simpa using e2⟩,⟨o1,b2.extBut _ _ C7.symm q1,r1⟩⟩
  ·have B5:b<s.heap.objs.size:=by
    obtain⟨o1,q1,r1⟩:=st.i;simp only [mem_cons,QZU,or_false]at hb;rcases hb with rfl|rfl
    ·exact elt
    ·exact Heap.lt_size q1
   rw[aD (ne_of_lt B5)];exact(hf b hb).1
 done:=by
  intro X hP hw hK hc i pins s σ H E I hf st hg;subst hP hw hK;obtain⟨xs,hx,hl⟩:=hg;obtain⟨its,rv,p,_⟩:=I.list hx;obtain⟨old,he⟩:=st.e;have l1:=rv.length;refine wpAny_pyNext_enum_end (I.ok.hd hc) he st.i p.isList (by simp;omega) λh1 k1=>?_;refine⟨rfl,I.turnL (t':=s.toks) hf λb u hb e'=>?_⟩;have J1:b≠e/\b≠it:=by simpa using hb
  exact k1 b u J1.2 e'
 self:=λ_ _ _ _ _ st h=>by
  obtain⟨old,he⟩:=st.e;exact wpAny_pyIter_enum he h
section
variable {X:Cx}{a b:Expr}{ta tb:TE}{p pos yj:Pos}{es:List Expr}{n:Nat}
def Sx(K:W.Frag)(ta:TE):TI:=λσ H R=>ta σ H λx H1=>mR x λa=>∃xs,SqL K H1 a xs/\R (Yn K a) H1
def Pu(hg:Gl X "enumerate")(hm:X.mg "enumerate"=none)(ha:PE X a ta)(h1:aM a=true):PI X (.Tuple es n yj) (.Call (.Name "enumerate" p) [a] [] pos) (Sx X.K ta):=by
 intro pins s σ H R I h;have hs:starEach [a] X.env=[(false,eval a X.env)]:=by rw[bB h1];rfl
 have hA:PA X [a] (nX ta yJ):=uC ha tL h1;refine Call_ (mO I hg hm boot_enumerate (PyProof.Rows.callWith_type1 (bU (hA pos pins s σ H (λvs H2=>match vs with|[x]=>(mR x λa1=>∃xs,SqL X.K H2 a1 xs/\R (Yn X.K a1) H2)|_=>False) I ?_) λus s1 ⟨vs,H1,I1,r1,q1⟩=>?_) (by rw[hs];rfl) rfl))
 ·exact h
 ·dsimp only at q1;split at q1
  rotate_left
  ·exact q1.elim
  rename_i x;rw[dY]at q1;obtain⟨a1,rfl,xs,q2,q⟩:=q1
  cases r1 with
  | cons r rr=>
   cases rr;cases r;obtain⟨its,rv,p1,_⟩:=I1.list q2;refine call_enumerate_list p1.isList λh' he hi hz k=>?_;have I2:Inv X pins σ H1 {s1 with heap:=h' }:=I1.kept (t':=s1.toks) k;have la:a1<s1.heap.objs.size:=by
    obtain⟨o,e',_⟩:=p1.isList;exact Heap.lt_size e'
   refine wpAny_pyIter_enum (s:={s1 with heap:=h' }) he ?_;refine⟨s1.heap.objs.size+1,_,_,_,H1,rfl,I2,El (ne_of_gt (lt_succ_self _)) (ne_of_lt (Nat.lt_succ_of_lt la)) (ne_of_lt la),⟨⟨_,he⟩,hi⟩,λb hb=>?_,q⟩;have J1:s1.heap.objs.size<=b:=by
    simp only [mem_cons,QZU,or_false]at hb;rcases hb with rfl|rfl
    ·exact le_add_right _ 1
    ·exact bQ _
   exact I1.fpOk J1 (I1.hok.fresh J1)
def R.gw{K:W.Frag}(hg:Gl X "enumerate")(hm:X.mg "enumerate"=none)(ha:XE X a ta)(hK:X.K=K:=by rfl)(h1:aM a=true:=by rfl):XI X (.Tuple es n yj) (.Call (.Name "enumerate" p) [a] [] pos) (Sx K ta):=
 hK▸⟨Pu hg hm ha.h h1⟩
end
def wU{K:W.Frag}{a:UF}{xs:List V}{g:TG}{tb:TS}{D:kK}{σ:St}{H:Hp}(Pv:Nat->St->Hp->Prop)(hA:∀i σ H,Pv i σ H->SqL K H a xs)(h0:Pv 0 σ H)(hs:∀(i:Nat)(x:V) σ H t,xs[i]?=some x->Pv i σ H->H t=none->g (.ref t) σ (aI H t (.tup [.int i,x])) λσ2 H2=>tb {D with nx:=Pv (i+1),ct:=Pv (i+1),bk:=D.nx } σ2 H2)(hd:∀ σ H,Pv xs.length σ H->D.nx σ H) :
  ∃W:Nat->Nat->St->Hp->Prop,(∃m,W 0 m σ H)/\∀i m σ H,W i m σ H →
   ((Yn K a).stop i H/\D.nx σ H)∨((Yn K a).go i H/\∃N:St->Hp->Prop,(∀ σ' H',N σ' H'->∃m',m'<m/\W (i+1) m' σ' H')/\∀x H',(Yn K a).yld i H x H'->g x σ H' λσ2 H2=>tb {D with nx:=N,ct:=N,bk:=D.nx } σ2 H2):=by
 refine⟨λi m σ H=>m=xs.length-i/\i<=xs.length/\Pv i σ H,⟨_,rfl,zero_le _,h0⟩,?_⟩;rintro i m σ H ⟨rfl,hi,p⟩;have q1:=hA i σ H p;by_cases B5:i<xs.length
 ·refine .inr ⟨⟨xs,xs[i],q1,gZ B5⟩,Pv (i+1),λσ' H' n=>⟨xs.length-(i+1),Zo,rfl,B5,n⟩,?_⟩;rintro v H' ⟨t,x,ht,rfl,rfl,e1⟩;exact hs i x σ H t (e1 xs q1) p ht
 ·have:i=xs.length:=by omega
  subst this;exact .inl ⟨⟨xs,q1,bQ _⟩,hd σ H p⟩
section
variable {P:Program}{w:World}{K:W.Frag}{mg:X8}{base:Heap}{N:List Str}{qual:Str}{scope:Scope}{f:UF}{cd:T0}{A:Around}{outer:List Env}{s:TW}{H:Hp}{E:XK}
def Em:PassesOwn (model P w) (fL (Bi P w) P w K mg base N qual scope f cd A outer s H E).A (fL (Bi P w) P w K mg base N qual scope f cd A outer s H E).env (fL (Bi P w) P w K mg base N qual scope f cd A outer s H E).xe:=by
 unfold fL;dsimp only;passes_own
end
section
variable {prog:Program}{w:World}{A:Around}{E:X9}{h:Heap}{g:Array GenState}{d:Drawn}{t:Nat}{os:OsState}
variable {nm q:Str}{C N:UF}{bs bm CV:List T0}{hdct:Bool}{sn:List Str}{sub:List T0}{ab:Bool}{col:Option Bool}{dd:Option UF}{k0 k1 k2 k3 k5:Option T0}{B newId nk:String}
abbrev eR(C t:UF):Obj:={cls:=.ref C,data:=.fields #[.ref t,.none,.none,.none,.bool false,.none] }
abbrev jG(h:Heap)(C:UF)(rest:List T0):Heap:=(h.push {cls:=.type "tuple",data:=.seq rest.toArray }).push (eR C h.objs.size)
def gA{rest:List T0}{b:UF}{o:Obj}(e:h.get? b=some o):(jG h C rest).get? b=some o:=eP _ (eP _ e)
def wV{rest:List T0}:(jG h C rest).get? (h.objs.size+1)=some (eR C h.objs.size):=by
 have:=UV (h.push {cls:=.type "tuple",data:=.seq rest.toArray }) (o:=eR C h.objs.size) rfl
 rwa [Heap.size_push]at this
def wW(F:ExcBaseFacts B newId nk CV)(T:OwnTail h CV bm){mN:X8}{rest:List T0}{fI:UF}{oI:Obj}{Q:Fin->TW->Prop}(hC:h.get? C=some (excClassObj nm q C N bs bm hdct sn sub ab col dd k0 k1 k2 k3 k5 newId))(hn:h.Ns N mN)(hi:mN "__init__"=some (.ref fI))(QD:h.get? fI=some oI)(KS:oI.cls=.type "function")(go:wpAny (model prog w) A (call (.ref fI) (.ref (h.objs.size+1)::rest)) (λr s'=>r=.none/\Q (.done (.ret (.ref (h.objs.size+1)))) s') E ⟨jG h C rest,g,d,t,os⟩)(zr:rest.length<=sizeLine) :
  wpAny (model prog w) A (Builtin.«type.__call__» ⟨.ref C::rest,[]⟩) Q E ⟨h,g,d,t,os⟩:=by
 repeat (first|with_reducible refine wpAny_loadPart_at hC ?_|with_reducible refine wpAny_madeBy_exc hC ?_|wp_step)
 refine codeAny_call_builtin_code (Code.quiet_builtin _ F.quiet) (wpAny_check_new_subT F T hC (codeAny_exc_new_subT F T hC ?_ zr));show wpAny _ _ _ _ _ _;have cx:(jG h C rest).get? C=_:=gA hC;have fx:(jG h C rest).get? fI=_:=gA QD;have nx:(jG h C rest).Ns N mN:=let ⟨o,es,ep,e,r⟩:=hn;⟨o,es,ep,gA e,r⟩;have gx:(jG h C rest).get? (h.objs.size+1)=some (eR C h.objs.size):=wV;have me:(Value.ref C::bm).contains (.ref C)=true:=by simp
 have tx:=T.keeps (h':=jG h C rest) λb o e=>gA e;unfold isInstance
 repeat (first|with_reducible refine wpAny_loadPart_at gx ?_|(with_reducible refine wpAny_isSubtype_exc cx ?_;rw[me])|wp_step)
 show wpAny _ _ (typeLookup (.ref C) _) _ _ _;refine wpAny_typeLookup_tail cx nx tx F.mroIs F.init.lookup ?_;rw[hi];refine wpAny_holding (X7 ?_);unfold bindSpecial;refine X7 (wpAny_typeOf (T:="function") ⟨_,fx,KS⟩ ?_);rw[TD Zd];refine X6 (X7 (wpAny_mono go (λr s' hr=>?_) λ_ _ x=>x));obtain⟨rfl,hQ⟩:=hr
 wp_walk;exact hQ
def zB(F:ExcBaseFacts B newId nk CV)(T:OwnTail h CV bm){mN:X8}{rest:List T0}{fI:UF}{oI:Obj}{Q:X9}(hC:h.get? C=some (excClassObj nm q C N bs bm hdct sn sub ab col dd k0 k1 k2 k3 k5 newId))(hn:h.Ns N mN)(hi:mN "__init__"=some (.ref fI))(QD:h.get? fI=some oI)(KS:oI.cls=.type "function")(go:wpAny (model prog w) (A.under (.builtin "type.__call__" ⟨.ref C::rest,[]⟩)) (call (.ref fI) (.ref (h.objs.size+1)::rest)) (λr s'=>r=.none/\Q (.ref (h.objs.size+1)) s') E ⟨jG h C rest,g,d,t,os⟩)(zr:rest.length<=sizeLine) :
  wpAny (model prog w) A (call (.ref C) rest) Q E ⟨h,g,d,t,os⟩:=by
 have f1:=tc_lookup;have f2:=tc_bind (.ref C);have hT:(⟨h,g,d,t,os⟩:TW).TypeIs (.ref C) "type":=⟨_,hC,rfl⟩;refine wpAny_call (codeAny_of_tree ?_);show wpAny _ _ (callAny (.ref C) _) _ _ _
 repeat (any_goals (first|assumption|with_reducible refine wpAny_loadPart_at hC ?_|wp_step))
 refine⟨rfl,codeAny_call_builtin_at (Code.quiet_builtin _ Zk) entry_typeCall (wpAny_check_type_call_sub hC (wW F T hC hn hi QD KS ?_ zr))⟩;exact go
end
section
variable {prog:Program}{w:World}{A:Around}{E:X9}{s:TW}{env:Env}
variable {nm q:Str}{C N:UF}{bs bm CV:List T0}{hdct:Bool}{sn:List Str}{sub:List T0}{ab:Bool}{col:Option Bool}{dd:Option UF}{k0 k1 k2 k3 k5:Option T0}{B newId nk:String}
def En{x:Sem Value}{Q:Flow->TW->Prop}(hb:bm.contains (.type "BaseException")=true)(hh:A.handled=none)(h:wpAny (model prog w) A x (λv s1=>∃e t dx sl,v=.ref e/\s1.heap.get? C=some (excClassObj nm q C N bs bm hdct sn sub ab col dd k0 k1 k2 k3 k5 newId) ∧
   s1.heap.get? e=some {cls:=.ref C,dict:=dx,data:=.fields #[.ref t,.none,.none,.none,.bool false,.none],slots:=sl }/\E (.ref e) s1) E s):wpAny (model prog w) A (raiseStmt env (some x) none) Q E s:=by
 have cB:(Value.ref C::bm).contains (.type "BaseException")=true:=by rw[List.contains_cons,hb,Bool.or_true]
 unfold raiseStmt;refine X7 (wpAny_mono h (λv s1 h1=>?_) λ_ _ x=>x);obtain⟨e,t,dx,sl,rfl,hC,he,hE⟩:=h1;obtain⟨hp,g,d,tk,os⟩:=s1
 repeat (first|with_reducible refine wpAny_loadPart_at he ?_|with_reducible refine wpAny_loadPart_at hC ?_|(with_reducible refine wpAny_isSubtype_exc hC ?_;rw[cB])|wp_step)
 exact wpAny_raiseNew_none hh hE
def wX(F:ExcBaseFacts B newId nk CV){mN:X8}{x:Str}{np cpos pos:Pos}{args:List Expr}{fI:UF}{oI:Obj}{Q:Flow->TW->Prop}(hb:bm.contains (.type "BaseException")=true)(hh:A.handled=none)(hp:(backTo cpos (starEach args env)).any (·.1)=false)(hi:mN "__init__"=some (.ref fI))(KS:oI.cls=.type "function")(h:wpAny (model prog w) A (eval (.Name x np) env) (λf s1=>f=.ref C/\wpAny (model prog w) A (evalArgs (.ref C) true (backTo cpos (starEach args env)) [])
   (λa s2=>a.kw=[]/\a.pos.length<=sizeLine/\s2.heap.get? C=some (excClassObj nm q C N bs bm hdct sn sub ab col dd k0 k1 k2 k3 k5 newId)/\s2.heap.Ns N mN/\OwnTail s2.heap CV bm/\s2.heap.get? fI=some oI ∧
    wpAny (model prog w) (A.under (.builtin "type.__call__" ⟨.ref C::a.pos,[]⟩)) (call (.ref fI) (.ref (s2.heap.objs.size+1)::a.pos)) (λr s'=>r=.none/\∃t dx sl,s'.heap.get? C=some (excClassObj nm q C N bs bm hdct sn sub ab col dd k0 k1 k2 k3 k5 newId) ∧
     s'.heap.get? (s2.heap.objs.size+1)=some {cls:=.ref C,dict:=dx,data:=.fields #[.ref t,.none,.none,.none,.bool false,.none],slots:=sl }/\E (.ref (s2.heap.objs.size+1)) s') E {s2 with heap:=jG s2.heap C a.pos }) E s1) E s) :
  wpAny (model prog w) A (exec (.Raise (some (.Call (.Name x np) args [] cpos)) none pos) env) Q E s:=by
 rw[arm_exec_Raise];simp only [evalOpt,Option.map];refine X7 (wpAny_standAt (En (C:=C) (nm:=nm) (q:=q) (N:=N) (bs:=bs) (bm:=bm) (hdct:=hdct) (sn:=sn) (sub:=sub) (ab:=ab) (col:=col) (dd:=dd) (k0:=k0) (k1:=k1) (k2:=k2) (k3:=k3) (k5:=k5) (newId:=newId) hb hh (X7 (wpAny_mono (wpAny_Call_ofName (wpAny_mono h (λf s1 h1=>?_) λ_ _ x=>x)) (λv s3 h3=>X7 (wpAny_standAt (X6 h3))) λ_ _ x=>x))));obtain⟨rfl,h1⟩:=h1;unfold callWith;refine X7 (wpAny_holding (wpAny_mono h1 (λa s2 h2=>X7 (wpAny_standAt ?_)) λ_ _ x=>x));obtain⟨ap,ak⟩:=a;obtain⟨ZW,hlen,hC,hn,T,hf,h2⟩:=h2;obtain rfl:ak=[]:=ZW;obtain⟨zq,g,d,tk,os⟩:=s2;simp only [hp];refine X7 (wpAny_keeperOf_exc hC (X7 (zB F T hC hn hi hf KS (wpAny_mono h2 (λr s' hr=>⟨hr.1,X7 (wpAny_holding (wpAny_point (X6 ?_)))⟩) λ_ _ x=>x) hlen)));obtain⟨t,dx,sl,g1,g2,g3⟩:=hr.2;exact⟨_,t,dx,sl,rfl,g1,g2,g3⟩
end
def zC:List Value → Bool
 | []=>false
 | v::r=>match v with|.ref _=>zC r|_=>(v::r) == [.type "ValueError",.type "Exception",.type "BaseException",.type "object"]
def kR(v:T0):∀ {l:List T0},zC l=true → refuseLoop v "__setattr__" l=pure () ∧ l.contains (.type "object")=true
 | [],h=>nomatch h
 | u::r,h=>by
  cases u with
  | ref a=>
   have:=kR v (l:=r) h;exact⟨by rw[refuseLoop_ref];exact this.1,by rw[List.contains_cons,this.2,Bool.or_true]⟩
  | _=>rw[show _::r=_ from eq_of_beq h];exact⟨PySem.F.store_ValueError.passes v,Zd⟩
def uR(K:W.Frag)(C:UF):Bool:=(W.clsIn K C).any λcd=>zC cd.mro&&cd.hasDict
section
variable {prog:Program}{w:World}{A:Around}{E:X9}{s:TW}{K:W.Frag}{C x t:UF}{name:Str}{v:T0}
def aBO{Q:Unit->TW->Prop}(X:K.In s.heap)(gx:s.heap.get? x=some (eR C t))(hs:W.findIn K (.ref C) "__setattr__"=some (some (.builtin "object.__setattr__")))(ho:uR K C=true)(ht:W.takerIn K C name=some none)(h:∀h' CQ,h'.get? x=some {eR C t with dict:=some s.heap.objs.size }->(∀b o,b≠x->s.heap.get? b=some o->h'.get? b=some o)->h'.Ns1 s.heap.objs.size (λy=>if y=name then some v else none)->Q () {s with heap:=h',toks:=CQ }) :
  wpAny (model prog w) A (setAttr (.ref x) name v) Q E s:=by
 have J:W.InstAt s.heap x (eR C t) C none:=⟨gx,rfl,rfl,True.intro⟩;obtain⟨cd,hc,hm⟩:=W.any_some ho;obtain⟨hm,PQ⟩:=Bool.and_eq_true _ _▸hm;refine W.set_plain X J hs ?_;have SF:=PySem.F.store_object;obtain⟨p1,p2⟩:=kR (.ref x) hm;have ne:cd.mro.isEmpty=false:=by cases q:cd.mro with|nil=>(rw[q]at p2;cases p2)|cons _ _=>rfl
 have sub:W.Looks (model prog w) s.heap (isInstance (.ref x) (.type "object")) true:=J.type.andThen (W.looks_mroIn X (by unfold W.mroIn;rw[hc,Option.bind_some,P7 (by rw[ne];decide),p2]));have lm:W.Looks (model prog w) s.heap (mroOf (.ref C)) cd.mro:=(W.looks_clsIn X hc).andThen .now;obtain⟨attr,ha,hr⟩:=Option.bind_eq_some_iff.mp ht;have l3:W.Looks (model prog w) s.heap (Builtin.ObjectAttr.storeTaker? attr) none:=by
  cases attr with
  | none=>cases hr;exact .now
  | some a=>
   obtain⟨b,hb,e⟩:=Option.map_eq_some_iff.mp hr;refine(W.looks_takesIn X hb).andThen ?_
   cases b with
   | true=>cases e
   | false=>exact .now
 refine codeAny_call_builtin SF.slot.plain SF.entry (@W.check_slot (model prog w) _ _ {s with toks:=s.toks+1 } "object.__setattr__" "object" "__setattr__" (.ref x) [.str name s.toks,v] [] _ SF.kind SF.split sub (SF.args (.ref x) (.str name s.toks) v) ?_);rw[W.osa_eq,refuse_eq];refine X7 (X7 (W.Looks.here (s:={s with toks:=s.toks+1 }) J.type (X7 (W.Looks.here (s:={s with toks:=s.toks+1 }) lm ?_))));rw[p1];refine X6 (X7 (W.Looks.here (s:={s with toks:=s.toks+1 }) J.type (X7 (W.Looks.here (s:={s with toks:=s.toks+1 }) (W.looks_findIn X ha) (X7 (W.Looks.here (s:={s with toks:=s.toks+1 }) l3 ?_))))));refine X7 (X6 (X7 (X7 (wpAny_loadPart (s:={s with toks:=s.toks+1 }) gx (X7 (W.Looks.here (s:={s with toks:=s.toks+1 }) (W.looks_clsIn X hc) ?_))))));rw[PQ];have UA:x≠s.heap.objs.size:=ne_of_lt (Heap.lt_size gx);have g1:(s.heap.push {cls:=.type "dict",data:=.dict #[] }).get? x=some (eR C t):=eP _ gx;refine X7 (wpAny_alloc' ?_);refine X7 (wpAny_update' g1 ?_);have gd:((s.heap.push {cls:=.type "dict",data:=.dict #[] }).update x λo=>{o with dict:=some s.heap.objs.size }).get? s.heap.objs.size=some {cls:=.type "dict",data:=.dict #[] }:=(Heap.get?_update_ne _ _ _ _ UA.symm).trans (Heap.get?_push_at rfl rfl);have nd:((s.heap.push {cls:=.type "dict",data:=.dict #[] }).update x λo=>{o with dict:=some s.heap.objs.size }).Ns s.heap.objs.size (λ_=>none):=⟨_,#[],_,gd,rfl,λe he=>QZZ he Zs,λ_=>rfl⟩;refine X6 ?_;show wpAny _ _ (Builtin.ObjectAttr.storeInDict s.heap.objs.size (.str name s.toks) name v) _ _ _;unfold Builtin.ObjectAttr.storeInDict Builtin.ObjectAttr.newKeyGuard;refine X7 (X6 (X7 (wpAny_nsSet1 (Heap.Ns1.of_empty nd) λh' n1 b1=>?_)));obtain⟨oD,eD,pD,q1,q2,q3⟩:=n1.count (Within.cons name v Within.nil);refine X7 (wpAny_lookBehind q1 (by rw[q2];exact pastItsLine_dict (kN q3 (by rw[vR,length_nil,sizeLine_eq];omega))) (X6 ?_));refine h h' _ ((b1.2 x UA).trans (Heap.get?_update_self _ g1 rfl)) (λb o hb e=>?_) n1;exact(b1.2 b (ne_of_lt (Heap.lt_size e))).trans ((Heap.get?_update_ne _ _ _ _ hb).trans (eP _ e))
end
def XN(e C t:UF):Heap->Prop:=λh=>h.get? e=some (eR C t)
def Yo(e C t dx:UF):Heap->Prop:=λh=>h.get? e=some {eR C t with dict:=some dx }
structure aAP(K:W.Frag)(C:UF)(f:Str):Prop where
 sa:W.findIn K (.ref C) "__setattr__"=some (some (.builtin "object.__setattr__"))
 ov:uR K C=true
 tk:W.takerIn K C f=some none
section
variable {X:Cx}{pins:ZB}{σ:St}{H:Hp}{s:TW}{a e C t:UF}{φ:Heap->Prop}
def aAQ{P:Program}{w:World}{h:Heap}(g:h.get? e=some (eR C t)):ObjOk P w H h e (.ext (XN e C t)):=⟨g,⟨_,g⟩,λ_ _ q k=>k _ q⟩
def aAR{P:Program}{w:World}{h:Heap}{dx:UF}(g:h.get? e=some {eR C t with dict:=some dx }):ObjOk P w H h e (.ext (Yo e C t dx)):=⟨g,⟨_,g⟩,λ_ _ q k=>k _ q⟩
def Inv.drop(I:Inv X pins σ (aI H a (.ext φ)) s)(na:H a=none):Inv X pins σ H s:=by
 have back:∀b u,(aI H a (.ext φ)) b=some u->(∀ ψ,u≠.ext ψ)->H b=some u:=λb u q n=>by
  by_cases z:b=a
  ·rw[z,aA]at q;cases q;exact QZZ rfl (n φ)
  ·rw[aD z]at q;exact q
 have yf:∀b,(aI H a (.ext φ)) b=none->H b=none:=λb q=>by
  by_cases z:b=a
  ·rw[z,aA]at q;cases q
  ·rw[aD z]at q;exact q
 refine⟨I.ok,I.os,I.bare,⟨I.base.keep,I.base.slot,λb ob q n hx=>yf _ (I.base.free b ob q n hx),I.base.there,λb xs q=>back _ _ (I.base.tups b xs q) (λ_ z=>nomatch z),λb ob u q=>back _ _ (I.base.frzs b ob u q) (λ_ z=>nomatch z),λb ps q=>?_⟩,I.loc,I.cell,yf _ I.free,λx c h=>yf _ (I.freeC x c h),λp hp=>?_,λb u q=>?_,I.len⟩
 ·obtain⟨more,z⟩:=I.base.tbls b ps q;exact⟨more,back _ _ z (λ_ z=>nomatch z)⟩
 ·obtain⟨p1,p2,p3⟩:=I.pin p hp;exact⟨p1,yf _ p2,p3⟩
 ·have nb:b≠a:=aE q na;exact(I.hok b u (by rw[aD nb];exact q)).stay (λc v _ h=>h) (λc h=>back _ _ h (λ_ z=>nomatch z)) λc xs h=>back _ _ h (λ_ z=>nomatch z)
variable {o value:Expr}{f:Str}{pos pos':Pos}{ta tv:TE}{K:W.Frag}
def Kc(K:W.Frag)(ta tv:TE)(f:Str):TS:=λD σ H=>tv σ H λy H1=>ta σ H1 λx H2=>mR x λe=>∃C t,H2 e=some (.ext (XN e C t))/\aAP K C f/\∀dx,H2 dx=none->dx≠e->D.nx σ (aI (aI H2 dx (.xd [(f,y)])) e (.ext (Yo e C t dx)))
def Ke(ha:PE X o ta)(hv:PE X value tv)(hs:swapsWith value (some (.Attribute o f pos')) pos.line X.env=pure false):PS X (.Assign [.Attribute o f pos'] value pos) (Kc X.K ta tv f):=by
 intro pins s σ H D I h;refine plainObj_wpAny_Assign_Attribute (bU (hv pins s σ H _ I h) λu s1 ⟨y,H1,I1,ry,q⟩=>bU (ha pins s1 σ H1 _ I1 q) λov s2 ⟨x,H2,I2,rx,q1⟩=>?_) hs;dsimp only at q1;rw[dY]at q1;obtain⟨a,rfl,C,t,ea,c,q2⟩:=q1;obtain rfl:ov=Value.ref a:=rx;have gx:s2.heap.get? a=some (eR C t):=(show ObjOk X.prog X.w H2 s2.heap a (.ext (XN a C t)) from I2.hok a _ ea).1;refine aBO I2.kIn gx c.sa c.ov c.tk λh' CQ g1 k n1=>?_;have n2:H2 s2.heap.objs.size=none:=I2.hok.fresh (bQ _);have nx:s2.heap.objs.size≠a:=(aE ea n2).symm;obtain⟨oD,eD,pD,d1,d2⟩:=id n1;have gD:(s2.heap.push oD).get? s2.heap.objs.size=some oD:=UV _ (Heap.get?_some_iff.mp d1).2;have I3:=I2.laid (a:=s2.heap.objs.size) (o:=.xd [(f,y)]) (t':=CQ) (h':=s2.heap.push oD) (λb u q=>eP _ q) (bQ _) ⟨_,⟨oD,eD,pD,gD,d2⟩,λg=>?_⟩
 ·have I4:=I3.write (x:=a) (e:=a) (o:=.ext (Yo a C t s2.heap.objs.size)) (t':=CQ) (h':=h') (by rw[aD nx.symm,ea];exact True.intro) (.inl rfl) (λb u hb q=>?_) ⟨_,g1⟩ (aAR g1)
  ·exact⟨σ,_,I4,q2 _ n2 nx⟩
  ·by_cases z:b=s2.heap.objs.size
   ·rw[z,show(s2.heap.push oD).get? s2.heap.objs.size=some oD from gD]at q;cases q;rw[z];exact d1
   ·refine k b u hb ?_;have lt:b<(s2.heap.push oD).objs.size:=Heap.lt_size q;rw[Heap.size_push]at lt;rw[Heap.get?_push_ne]at q
    ·exact q
    ·omega
 ·show RelO (List.lookup g [(f,y)]) (if g=f then some u else none);by_cases z:g=f
  ·rw[z,TD rfl,lookup_cons,beq_self_eq_true];exact ry
  ·rw[P7 z,lookup_cons,beq_eq_false_iff_ne.mpr z];exact trivial
def R.iw(ha:XE X o ta)(hv:XE X value tv)(hK:X.K=K:=by rfl)(hs:swapsWith value (some (.Attribute o f pos')) pos.line X.env=pure false:=by rfl):XS X (.Assign [.Attribute o f pos'] value pos) (Kc K ta tv f):=hK▸⟨Ke ha.h hv.h hs⟩
end
def zD(K:W.Frag)(C fI:UF)(CV:List T0)(newId:String):Bool:=match K.lookup C with
 | some ⟨.type "type",_,.cls cd,sl⟩=>(match cd.mro,sl.toList with
  | .ref C'::bm,[_,_,_,_,some (.builtin n),_]=>C'==C&&n==newId&&!cd.hasDel&&W.tailIn K CV bm&&W.nsOkIn K cd.ns&&(match W.nsIn K cd.ns "__init__" with|some (some (.ref f))=>f==fI|_=>false)
  | _,_=>false)
 | _=>false
structure XClsI(K:W.Frag)(mg:X8)(x:Str)(C fI:UF):Prop where
 at_:mg x=some (.ref C)
 ok:zD K C fI Sr "ValueError.__new__"=true
def zE{K:W.Frag}{h:Heap}{N:UF}{mg:X8}{n:Str}{v:T0}(X:K.In h)(G:h.Ns N mg)(e:W.nsIn K N n=some (some v)):mg n=some v:=by
 obtain⟨o,es,ep,ho,hd,_,hf⟩:=G;unfold W.nsIn at e;split at e
 ·rename_i c d MV n' sl q;have z:=X _ _ q;rw[ho]at z;cases z;cases hd;split at e
  ·rename_i en he;cases e;rw[<- hf];unfold nsFind findBy;rw[<- Array.find?_toList,he];rfl
  ·split at e<;>cases e
 ·cases e
def XClsI.obj{K:W.Frag}{mg:X8}{x:Str}{C fI:UF}{h:Heap}(c:XClsI K mg x C fI)(X:K.In h) :
  ∃bm N nm q bs hdct sn sub ab col dd k0 k1 k2 k3 k5 mN,h.get? C=some (excClassObj nm q C N bs bm hdct sn sub ab col dd k0 k1 k2 k3 k5 "ValueError.__new__")/\h.Ns N mN/\mN "__init__"=some (.ref fI)/\OwnTail h Sr bm:=by
 have q:=c.ok;unfold zD at q;split at q
 ·rename_i dd cd sl ho;split at q
  ·rename_i C' bm k0 k1 k2 k3 n k5 hm hs;simp only [Bool.and_eq_true,beq_iff_eq,Bool.not_eq_true']at q;obtain⟨⟨⟨⟨⟨e1,e2⟩,KU⟩,ht⟩,hok⟩,EG⟩:=q;subst e1 e2;obtain⟨nm,bs,mro,ns,qn,hd,sn,sub,ab,col,del⟩:=cd;dsimp only at hm KU hok EG;subst hm KU;have ZX:sl=#[k0,k1,k2,k3,some (.builtin "ValueError.__new__"),k5]:=by
    obtain⟨l⟩:=sl;simp only at hs;rw[hs]
   subst ZX;refine⟨bm,ns,nm,qn,bs,hd,sn,sub,ab,col,dd,k0,k1,k2,k3,k5,_,X _ _ ho,.of_isNs (W.isNs_of_in X hok),?_,W.tail_of_in X ht⟩;split at EG
   ·rename_i f hf;rw[<- eq_of_beq EG];exact zE X (.of_isNs (W.isNs_of_in X hok)) hf
   ·cases EG
  ·cases q
 ·cases q
def uS(X:Cx)(E:XK):Prop:=∀(pins:ZB)(σ0 σ:St)(H0 H:Hp)(s s3:TW)(e t:UF)(cls:T0)(dx:Option UF),Inv X pins σ0 H0 s->s.heap.get? e=none->H e=none->Inv X pins σ H s3->s3.heap.get? e=some {cls:=cls,dict:=dx,data:=.fields #[.ref t,.none,.none,.none,.bool false,.none] }->E cls dx H->X.xe (.ref e) s3
def Kf{pins:ZB}{σ0 σ:St}{cls:T0}{P:Program}{w:World}{K:W.Frag}{mg:X8}{base:Heap}{N:List Str}{qual:Str}{scope:Scope}{f:UF}{cd:T0}{A:Around}{outer:List Env}{s s0 s1:TW}{H H0 H1:Hp}{E:XK}{e t:UF}{dx:Option UF}(I0:Inv (fL (Bi P w) P w K mg base N qual scope f cd A outer s H E) pins σ0 H0 s0)(n0:s0.heap.get? e=none)(UB:H1 e=none)(I:Inv (fL (Bi P w) P w K mg base N qual scope f cd A outer s H E) pins σ H1 s1)(hf:(envOfC qual scope s.heap.objs.size f cd).frame=some (envOfC qual scope s.heap.objs.size f cd).locals)(he:s1.heap.get? e=some {cls:=cls,dict:=dx,data:=.fields #[.ref t,.none,.none,.none,.bool false,.none] })(q:E cls dx H1) :
  (fL (Bi P w) P w K mg base N qual scope f cd A outer s H E).xe (.ref e) s1:=by
 have und:Un (jJ outer) [] H H1 s.heap s1.heap:=I.base;have QE:Un (jJ outer) [] H H0 s.heap s0.heap:=I0.base;have UC:∀b∈jJ outer,H b=none/\∃o,s.heap.get? b=some o/\∀vs,o.data≠.fields vs:=λb hb=>⟨I.ok.frf b hb,(I.ok.funs.mem hb).2⟩
 have st:(fL (Bi P w) P w K mg base N qual scope f cd A outer s H E).stack=envOfC qual scope s.heap.objs.size f cd::outer:=rfl;have nL:s.heap.get? (envOfC qual scope s.heap.objs.size f cd).locals=none:=Heap.get?_none_of_le I.ok.above;have UD:s.heap.get? e=none:=by
  cases z:s.heap.get? e with
  | none=>rfl
  | some ob=>
   obtain⟨o',y⟩:=QE.there e ob z Zs;rw[n0]at y;cases y
 have ye:∀env∈(envOfC qual scope s.heap.objs.size f cd::outer),∀b,env.frame=some b->b∈jJ (envOfC qual scope s.heap.objs.size f cd::outer)++[e]:=λenv he b hb=>QZX _ (uM he hb)
 have hh:∀b∈jJ (envOfC qual scope s.heap.objs.size f cd::outer)++[e],b∈jJ outer∨(s.heap.get? b=none/\H1 b=none):=λb hb=>by
  rcases Zma.mp hb with z|z
  ·unfold jJ at z;rw[QZS,hf]at z;rcases mem_cons.mp z with y|y
   ·rw[y];exact .inr ⟨nL,I.free⟩
   ·exact .inl y
  ·rw[Zms.mp z];exact .inr ⟨UD,UB⟩
 have FJ:∀b∈jJ outer,b∈jJ (envOfC qual scope s.heap.objs.size f cd::outer)++[e]:=λb hb=>by
  refine QZX _ ?_;unfold jJ;rw[QZS,hf];exact oP _ hb
 have vp:e∈jJ (envOfC qual scope s.heap.objs.size f cd::outer)++[e]:=QZW _ jI;have ZY:s1.heap.FunFrames base (envOfC qual scope s.heap.objs.size f cd::outer):=I.stack;have go:=Ws (M:=model P w) (A:=A.deeper (envOfC qual scope s.heap.objs.size f cd)) (E:=λe' tm=>Bi P w outer H s E e' tm) (Q:=λ_ tm=>Bi P w outer H s E (.ref e) tm) (s:=s1) (base:=W.hideAll s1.heap (jJ (envOfC qual scope s.heap.objs.size f cd::outer)++[e])) (env:=envOfC qual scope s.heap.objs.size f cd) (outer:=outer) (e:=e) (a0:=.ref t)
  I.ok.frames (W.funFrames_hide ZY ye) hf he (λb o q=>W.of_hideAll _ q) (W.hideAll_none _ vp) rfl rfl rfl ?_
 ·exact go
 ·rintro h2 ⟨k1,k2,⟨zg,nj,T',KD,KG,q1,⟨q2,q3⟩,q4,q5,q6,q7,q8,q9,KH⟩,k4⟩ ⟨PU,d1,d2⟩;obtain⟨u2,KJ⟩:=yX und I.hok hh FJ UC k1 k4;obtain⟨n1,n2⟩:=uL und I.hok hh UC k4 q6 q8 q9;exact⟨e,cls,dx,H1,rfl,⟨UD,I.os,I.bare,u2,KJ,UB,⟨T',⟨zg,nj,_,KD,KG,q1,q2,q3,q4,q5,q7,q8,q9,KH⟩,n1,n2⟩,λQF kr=>⟨PU,d1,d2.trans kr⟩⟩,q⟩
def wY{P:Program}{w:World}{K:W.Frag}{mg:X8}{base:Heap}{N:List Str}{qual:Str}{scope:Scope}{f:UF}{cd:T0}{A:Around}{outer:List Env}{s:TW}{H:Hp}{E:XK}(hf:(envOfC qual scope s.heap.objs.size f cd).frame=some (envOfC qual scope s.heap.objs.size f cd).locals:=by rfl):uS (fL (Bi P w) P w K mg base N qual scope f cd A outer s H E) E:=
 λpins σ0 σ H0 H1 s0 s1 e t cls dx I0 n0 h1 I he q=>Kf I0 n0 h1 I hf he q
def Xc(C:UF)(f:Str):Sp:=λvs H Q _=>∃(e t:UF)(v:V),vs=[.ref e,v]/\H e=some (.ext (XN e C t))/\∀dx,H dx=none->dx≠e->Q .non (aI (aI H dx (.xd [(f,v)])) e (.ext (Yo e C t dx)))
structure sP(P:Program)(w:World)(K:W.Frag)(mg:X8)(base:Heap)(n:Nat)(C fI:UF)(fl:Str):Prop where
 ex:∃fd ps,iE P w K mg base qW n fI fd ps (Xc C fl)/\Binds K fd ps []
 fn:W.isFn K (.ref fI)=true
section
variable {X:Cx}{x fl:Str}{C fI:UF}{E:XK}{e:Expr}{t:TA}{np cpos pos:Pos}{n:Nat}
def Bm(C:UF)(fl:Str)(E:XK)(t:TA):TS:=λ_ σ H=>t σ H λvs H1=>∃v,vs=[v]/\∀dx,H1 dx=none->E (.ref C) (some dx) (aI H1 dx (.xd [(fl,v)]))
def Eo(c:XClsI X.K X.mg x C fI)(ci:sP X.prog X.w X.K X.mg X.base n C fI fl)(hr:Room (n+1) X.A)(hl:uS X E)(hc:X.calm=true)(hg:Gl X x)(ha:PA X [e] t)(hs:aM e=true)(E2:(x==("__debug__":Str))=false) :
  PS X (.Raise (some (.Call (.Name x np) [e] [] cpos)) none pos) (Bm C fl E t):=by
 intro pins s σ H D I h;obtain⟨tl,N,nm,q,bs,hdct,sn,sub,ab,col,dd,k0,k1,k2,k3,k5,mN,hC,hN,EG,T⟩:=c.obj I.mod.kin;obtain⟨⟨fd,ps,F,hb⟩,ud⟩:=ci;have he:starEach [e] X.env=[(false,eval e X.env)]:=by rw[bB hs];rfl
 have ZZ:=beq_iff_eq.mp ud;obtain⟨oI,hoI,HU⟩:∃oI,X.base.get? fI=some oI/\oI.cls=.type "function":=by
  obtain⟨oI,ho,e'⟩:=Option.map_eq_some_iff.mp (show(X.K.lookup fI).map (·.cls)=some (.type "function") from ZZ);exact⟨oI,I.mod.kin _ _ ho,e'⟩
 refine wX (C:=C) (nm:=nm) (q:=q) (N:=N) (bs:=bs) (bm:=tl) (hdct:=hdct) (sn:=sn) (sub:=sub) (ab:=ab) (col:=col) (dd:=dd) (k0:=k0) (k1:=k1) (k2:=k2) (k3:=k3) (k5:=k5) (fI:=fI) (oI:=oI)
  PySem.F.excBase_ValueError (mN:=mN) (T.hasType PySem.F.excBase_ValueError.hasBase) (I.ok.hd hc) (by rw[he];rfl) EG HU (iC I hg c.at_ ⟨rfl,?_⟩ E2)
 have hp:=ha cpos pins s σ H _ I h;rw[he]at hp ⊢;refine Calls.evalArgs_plain (bU hp λus s1 ⟨vs,H1,I1,r,v,ev,q⟩=>?_);subst ev;have FN:us.length=1:=r.length.symm;refine⟨rfl,by rw[FN];decide,I1.bk _ _ hC,hN.keeps I1.bk,T.keeps I1.bk,I1.bk _ _ hoI,?_⟩;have I2:=I1.laid (a:=s1.heap.objs.size+1) (o:=.ext (XN (s1.heap.objs.size+1) C s1.heap.objs.size)) (t':=s1.toks) (h':=jG s1.heap C us) (λb u q=>gA q) (le_succ _) (aAQ wV);have n1:H1 (s1.heap.objs.size+1)=none:=I1.hok.fresh (le_succ _);have hq:Xc C fl (.ref (s1.heap.objs.size+1)::[v]) (aI H1 (s1.heap.objs.size+1) (.ext (XN (s1.heap.objs.size+1) C s1.heap.objs.size))) (λu H2=>u=.non/\∃dx,H1 dx=none/\dx≠s1.heap.objs.size+1/\H2=aI (aI H1 dx (.xd [(fl,v)])) (s1.heap.objs.size+1) (.ext (Yo (s1.heap.objs.size+1) C s1.heap.objs.size dx))) E0:=by
  refine⟨_,_,v,rfl,aA,λdx h0 C7=>⟨rfl,dx,by rw[aD C7]at h0;exact h0,C7,?_⟩⟩
  funext b
  unfold aI;by_cases z:b=s1.heap.objs.size+1
  ·rw[TD z,TD z]
  ·simp only [P7 z]
 have vo:(Value.ref (s1.heap.objs.size+1)::us).length=ps.length:=by
  have e1:=F.len _ _ _ _ hq;rw[vR,FN,<- e1];rfl
 have J1:=hb {s1 with heap:=jG s1.heap C us } (Value.ref (s1.heap.objs.size+1)::us) I2.kIn (by rw[append_nil];exact vo);rw[append_nil]at J1;refine wpAny_call (codeAny_mono (F.run _ X.stack _ _ ⟨Value.ref (s1.heap.objs.size+1)::us,[]⟩ (Value.ref (s1.heap.objs.size+1)::us) (.ref (s1.heap.objs.size+1)::[v]) _ E0 (hr.make C us []) (I2.env0.make C us []) J1 (.cons rfl r) hq) λrs s' kx=>?_)
 cases rs with
 | error e'=>exact False.elim kx
 | ok fl=>
  cases fl with
  | ret u=>
   obtain⟨v',H',I3,rv,ev,dx,f0,C7,eH⟩:=I2.after kx;subst ev eH;have gx:=(show ObjOk X.prog X.w _ s'.heap _ (.ext (Yo (s1.heap.objs.size+1) C s1.heap.objs.size dx)) from I3.hok _ _ aA).1;have n2:(aI H1 dx (.xd [(fl,v)])) (s1.heap.objs.size+1)=none:=by rw[aD C7.symm];exact n1
   have I4:=I3.drop n2;exact⟨rv,s1.heap.objs.size,some dx,#[],I4.bk _ _ hC,gx,hl pins σ σ H1 _ s1 s' _ _ _ _ I1 (Heap.get?_none_of_le (le_succ _)) n2 I4 gx (q dx f0)⟩
  | next=>exact False.elim kx
  | brk=>exact False.elim kx
  | cont=>exact False.elim kx
def R.iy(c:XClsI X.K X.mg x C fI)(ci:sP X.prog X.w X.K X.mg X.base n C fI fl)(hr:Room (n+1) X.A)(hl:uS X E)(hc:X.calm=true)(hg:Gl X x:=by rfl)(ha:XA X [e] t)(hs:aM e=true:=by rfl)(E2:(x==("__debug__":Str))=false:=by decide) :
  XS X (.Raise (some (.Call (.Name x np) [e] [] cpos)) none pos) (Bm C fl E t):=⟨Eo c ci hr hl hc hg ha.h hs E2⟩
end
section
variable {prog:Program}{w:World}{A:Around}{E:X9}{s:TW}{K:W.Frag}{x D:UF}
def Kg{Q:X9}{f:Str}{ox od:Obj}{v:T0}{b:Bool}(X:K.In s.heap)(J:W.InstAt s.heap x ox D (some od))(k:oF K D)(hd:W.hasDictIn K D=true)(hf:W.findIn K (.ref D) f=some none)(hl:W.lookIn f od=some (some v))(hv:W.handedIn v=true)(h:Q v {s with toks:=s.toks+1 }):wpAny (model prog w) A (getAttr (.ref x) f b) Q E s:=by
 obtain⟨hh,g,d,t,os⟩:=s;have c:OfCls x D hh:=⟨ox,J.at_,J.cls⟩;have L0:=c.type (M:=model prog w);have L1:=W.looks_findIn (M:=model prog w) X k.ga;have L2:=W.looks_findIn (M:=model prog w) X k.gx;have L3:=W.looks_find (M:=model prog w) X J (W.findObj_own hd hf rfl hl);have LI:W.Looks (model prog w) hh (isInstance (.ref x) (.type "BaseException")) true:=L0.andThen (W.looks_mroIn X k.mb);unfold getAttr getAttrBy;refine X7 (wpAny_mkText (wpAny_holding (X7 (L0.at (X7 (L1.at ?_))))));dsimp only;have NH:(Value.builtin "BaseException.__getattribute__"==Value.builtin "object.__getattribute__")=false:=by decide +kernel
 have IA:(onTheHeap (Value.ref D)&&Value.builtin "BaseException.__getattribute__"==Value.builtin "object.__getattribute__")=false:=by rw[NH];rfl
 rw[P7 (by rw[IA];exact XV)];unfold getAttrByItsOwn hookBefore;rw[TD (show onTheHeap (Value.ref D)=true from rfl)];refine X7 (L2.at ?_);refine X7 (wpAny_attempt (wpAny_holding ?_));unfold callGetattribute;rw[P7 (by cases b<;>decide)];unfold boundAndCalled;refine X7 (wpAny_of_eq (F.excAttr_ValueError.ga.bind _) ?_);show wpAny _ _ (call (.builtin "BaseException.__getattribute__") [.ref x,.str f t]) _ _ _;refine wpAny_call (codeAny_call_builtin F.excAttr_ValueError.ga.plain F.entry_bexc_ga (sN LI ?_));unfold Builtin.«object.__getattribute__»;refine X7 (wpAny_of_eq (a:=(Value.ref x,[Value.str f t])) rfl ?_);dsimp only;refine X7 (X6 (X7 (L0.at (X7 (L3.at ?_)))));dsimp only;refine X6 ?_;show wpAny _ _ (handedOut v) _ _ _;rw[W.handedOut_of hv];exact X6 h
end
def mXF(K:W.Frag)(te:TE)(f:Str):TE:=λσ H Q=>te σ H λx H1=>∃a D dx fs v,x=.ref a/\H1 a=some (.ext (rA a (.ref D) (some dx)))/\H1 dx=some (.xd fs)/\oF K D/\W.hasDictIn K D=true/\W.findIn K (.ref D) f=some none/\fs.lookup f=some v/\Q v H1
section
variable {X:Cx}{e:Expr}{te:TE}{f:Str}{pos:Pos}{K:W.Frag}
def Xd(he:PE X e te)(hb:attributeBase e f X.env (eval e X.env)=eval e X.env):PE X (.Attribute e f pos) (mXF X.K te f):=by
 intro pins s σ H Q I h;refine Al hb (bU (he pins s σ H _ I h) λu s1 ⟨x,H1,I1,rx,q1⟩=>?_);obtain⟨a,D,dx,fs,v,rfl,ea,ed,k,hd,hf,hl,q⟩:=q1;cases rx;obtain⟨⟨o,vs,h1,h2,h3,h4⟩,_⟩:=(show ObjOk X.prog X.w H1 s1.heap a (.ext (rA a (.ref D) (some dx))) from I1.hok a _ ea);obtain⟨mA,ns,r⟩:=(show ObjOk X.prog X.w H1 s1.heap dx (.xd fs) from I1.hok dx _ ed);obtain⟨od,ho,hlk⟩:=rR ns;obtain⟨u,hu,ru⟩:=RelO.some_of (v:=v) (o:=mA f) (by rw[<- hl];exact r f);obtain⟨oc,odi,oda,osl⟩:=o;have UE:=h4 dx rfl;dsimp only at h2 h3 UE;subst h2 h3 UE;exact Kg I1.kIn ⟨h1,rfl,rfl,ho⟩ k hd hf (by rw[hlk,hu]) (rS ru) ⟨v,H1,I1.tok _,ru,q⟩
end
namespace R
def ig{X:Cx}{e:Expr}{te:TE}{f:Str}{pos:Pos}{K:W.Frag}(he:XE X e te)(hK:X.K=K:=by rfl)(hb:attributeBase e f X.env (eval e X.env)=eval e X.env:=by rfl):XE X (.Attribute e f pos) (mXF K te f):=hK▸⟨Xd he.h hb⟩
end R
structure InitAt(K:W.Frag)(fI:UF)(qual:Str)(st:Stmt)(ps:List Str):Prop where
 ex:∃fd,Fun K "__init__" qual st fI fd/\Binds K fd ps []
 fn:W.isFn K (.ref fI)=true
def InitAt.go{P:Program}{w:World}{K:W.Frag}{mg:X8}{base:Heap}{qual fl:Str}{st:Stmt}{N ps:List Str}{k:Nat}{C fI:UF}(D:InitAt K fI qual st ps)(S:aJ N ps (aB st))(len:ps.length=2)(n8:∀(cdv:T0)(A:Around)(outer:List Env)(s:TW)(H:Hp)(vs:List V)(Q:VK)(E:XK),Room k (A.deeper (envOfC qual (aB st) s.heap.objs.size fI cdv))->Xc C fl vs H Q E →
   ∃t,XB (fL qW P w K mg base N qual (aB st) fI cdv A outer s H E).nox (aV st) t/\t {nx:=λ_ H'=>Q .non H',rt:=Q } (start N vs) H):sP P w K mg base (k+1) C fI fl:=by
 obtain⟨fd,F,hb⟩:=D.ex;exact⟨⟨fd,ps,F.go S (λvs H Q E h=>by obtain⟨e,t,v,rfl,_⟩:=h;rw[len];rfl) n8,hb⟩,D.fn⟩
section
variable {X:Cx}
def uT{α:Type}(xs:List α)(k:Nat)(x:α):List α:=xs.take k++[x]++xs.drop k
def Bn:V->List V->Hp->VK->Prop:=λx vs H Q=>∃(l:UF)(xs:List V)(k:Nat)(y:V),x=.ref l/\vs=[.int (k:Int),y]/\H l=some (.lst xs)/\k<=xs.length/\xs.length<1000/\Q .non (aI H l (.lst (uT xs k y)))
def Kh{k:Nat}(h:k<1000):¬ (!Builtin.List.listFitsIndex (k:Int))=true:=by
 have e1:-(2^63)<=(k:Int):=by omega
 have e2:(k:Int)<2^63:=by omega
 rw[fitsIndex_both e1 e2];exact XV
def sQ:∀ {xs:List V}{its:List T0} (k:Nat),Vals xs its->Vals (xs.take k) (its.take k)
 | _,_,0,_=>by simp;exact .nil
 | _,_,k+1,.nil=>by simp;exact .nil
 | _,_,k+1,.cons h t=>by rw[List.take_succ_cons,List.take_succ_cons];exact .cons h (sQ k t)
def sR:∀ {xs:List V}{its:List T0} (k:Nat),Vals xs its->Vals (xs.drop k) (its.drop k)
 | _,_,0,h=>by simpa using h
 | _,_,k+1,.nil=>by simp;exact .nil
 | _,_,k+1,.cons h t=>by rw[List.drop_succ_cons,List.drop_succ_cons];exact sR k t
def Xe{s:TW}{A:Around}{E:X9}{prog:Program}{w:World}{l:UF}{its:List T0}{n:Nat}{k:Int}{t:Tok}{u2:T0}{Q:X9}(e:s.heap.get? l=some {cls:=.type "list",data:=.seq its.toArray n })(f1:¬ (!Builtin.List.listFitsIndex k)=true)(f2:its.toArray.size<=sizeLine)(q:Q .none {s with heap:=s.heap.update l (Obj.mapSeq λxs=>have k:=if k<0 then (k+(xs.size:Int)).toNat else min k.toNat xs.size;(xs.extract 0 k).push u2++xs.extract k),toks:=s.toks }) :
  wpAny (model prog w) A (call (.builtin "list.insert") [.ref l,.int k t,u2]) Q E s:=by
 have M:=AutoSeq1.list_insert_list_int_val_1 l its.toArray n k t u2 f1 f2;exact call_meets PySem.F.slot_list_insert ⟨_,e,rfl⟩ PySem.F.entry_list_insert (PySem.F.args_list_insert_3 _ _ _) M ⟨e,q⟩
def Ep:Zv X "list.insert" Bn:=by
 intro pins s σ H x vs v us Q I rx rv h;obtain⟨l,xs,k,y,rfl,rfl,hH,hk,hz,q⟩:=h;cases rx;obtain⟨u1,u2,rfl,ru1,ru2⟩:=rv.two;obtain⟨t,rfl⟩:=ru1;obtain⟨z,its,n,r,hl,e⟩:=I.lstM hH;have hlen:(uT xs k y).length=xs.length+1:=by unfold uT;simp;omega
 have hv:Vals (uT xs k y) (uT its k u2):=by
  unfold uT;exact((sQ k r).append (.cons ru2 .nil)).append (sR k r)
 have hle:(uT xs k y).length<=sizeLine:=fA (by rw[hlen];omega);refine Xe e (Kh (oZ hk hz)) (by rw[eB,<- hl];exact z) ?_;refine⟨.non,_,I.lset (its':=uT its k u2) hH e ?_ hv hle,rfl,q⟩;have h0:¬ ((k:Int)<0):=by omega
 have h1:min (k:Int).toNat its.toArray.size=k:=by rw[eB,<- hl];simp;omega
 simp only [h0,if_false,h1];unfold uT;simp;exact vQ Zs
def R.iz:XM X "list.insert" Bn:=⟨Ep⟩
end
section
open PySem.MeetsSeq PySem.SeqAt
def rC(l:UF)(items:Array Value)(n:Nat)(x:T0)(e:T0->Bool)(j:Nat)(hj:j<items.size)(hit:e items[j]=true)(k:Nat)(NL:items.size<=sizeLine) :
  ∀i:Nat,j-i=k->i<=j->(∀m (hm:m<items.size),i<=m->m<j->e items[m]=false)->Meets (Builtin.«list.remove.loop» ⟨[.ref l,x,rawInt i],[]⟩)
   (λA R s=>s.heap.get? l=some {cls:=.type "list",dict:=none,data:=.seq items n,slots:=#[] }/\(∀y,y∈items->EqAt A.in1 s y x (e y))/\R (.ok (.ret .none)) {s with heap:=s.heap.update l (Obj.mapSeq λxs=>xs.eraseIdxIfInBounds j) }):=by
 induction k with
 | zero=>
  intro i hk IC ua prog w A R s h;obtain⟨hp,g,d,tk,os⟩:=s;obtain⟨hl,he,h⟩:=h;obtain rfl:i=j:=by omega
  wp_walk using AutoSeq1.wpAny_loadPart' hl
  rw[show items[((i:Nat):Int).toNat]?=some items[i] by simp[hj]];refine X7 (he _ (Array.getElem_mem hj) prog w _ _ ?_);rw[hit];have vt:(items.eraseIdxIfInBounds i).size<=sizeLine+1:=kN (size_erased items _) (Nat.le_succ_of_le NL)
  wp_walk using (wpAny_updateSeq hl rfl (hz:=NL) (_hz':=vt)),AutoSeq1.wpAny_loadPart' hl
  simpa using h
 | succ k ih=>
  intro i hk IC ua prog w A R s h;obtain⟨hp,g,d,tk,os⟩:=s;obtain⟨hl,he,h⟩:=h;have B5:i<items.size:=by omega
  wp_walk using AutoSeq1.wpAny_loadPart' hl
  have hc:((i:Int)+1)=((i+1:Nat):Int):=by push_cast;rfl
  rw[show items[((i:Nat):Int).toNat]?=some items[i] by simp[B5]];refine X7 (he _ (Array.getElem_mem B5) prog w _ _ ?_);rw[ua i B5 (bQ _) Zo]
  wp_walk
  rw[hc];exact⟨plainId_quiet plain_remove_loop _,codeAny_builtin entry_remove_loop (by
   rw[Around.under_plainId plain_remove_loop _];exact ih (i+1) Zo Zo (λm hm h1 h2=>ua m hm Zo h2) prog w A R _ ⟨hl,he,h⟩)⟩
def rD(l:UF)(items:Array Value)(n:Nat)(x:T0)(e:T0->Bool)(j:Nat)(hj:j<items.size)(hit:e items[j]=true)(ua:∀m (hm:m<items.size),m<j->e items[m]=false)(NL:items.size<=sizeLine) :
  Meets (Builtin.«list.remove» ⟨[.ref l,x],[]⟩)
   (λA R s=>s.heap.get? l=some {cls:=.type "list",dict:=none,data:=.seq items n,slots:=#[] }/\(∀y,y∈items->EqAt A.in1 s y x (e y))/\R (.ok (.ret .none)) {s with heap:=s.heap.update l (Obj.mapSeq λxs=>xs.eraseIdxIfInBounds j) }):=by
 intro prog w A R s h;obtain⟨hp,g,d,tk,os⟩:=s;obtain⟨hl,he,h⟩:=h
 wp_walk using AutoSeq1.wpAny_loadPart' hl
 exact⟨plainId_quiet plain_remove_loop _,codeAny_builtin entry_remove_loop (by
  rw[Around.under_plainId plain_remove_loop _];exact rC l items n x e j hj hit _ NL 0 rfl (zero_le _) (λm hm _ h2=>ua m hm h2) prog w A R _ ⟨hl,he,h⟩)⟩
end
def EQ(H:Hp)(u v:V):Prop:=(eC u=true/\eC v=true)∨∃b b' ps qs,u=.ref b/\v=.ref b'/\H b=some (.tup ps)/\H b'=some (.tup qs)/\∀(j:Nat)(x y:V),ps[j]?=some x->qs[j]?=some y->eC x=true/\eC y=true
section
variable {X:Cx}{pins:ZB}{σ:St}{H:Hp}{s:TW}
def EQ.at{A:Around}{x y:V}{u v:T0}(hu:A.units<cLine)(I:Inv X pins σ H s)(rx:RelV x u)(ry:RelV y v)(h:EQ H x y):∃b,SeqAt.EqAt A s u v b:=by
 rcases h with⟨f1,f2⟩|⟨b,b',ps,qs,rfl,rfl,g1,g2,fl⟩
 ·exact⟨_,pF rx ry f1 f2⟩
 ·cases rx;cases ry;by_cases e:b=b'
  ·subst e;exact⟨true,SeqAt.EqAt.same _⟩
  ·obtain⟨its,ri,ti,_⟩:=I.tuple (QYV g1);obtain⟨d8,ni,vv,_⟩:=I.tuple (QYV g2);have each:∀j (h1:j<its.toArray.size) (h2:j<d8.toArray.size),SeqAt.EqAt A.in1 s its.toArray[j] d8.toArray[j] (qY (ps.getD j .non) (qs.getD j .non)):=λj h1 h2=>by
    rw[eB]at h1 h2;obtain⟨M6,q1⟩:=Paired.get' (j:=j) ri h1;obtain⟨Q7,q2⟩:=Paired.get' (j:=j) ni h2;obtain⟨f1,f2⟩:=fl j ps[j] qs[j] (gZ M6) (gZ Q7);have e1:ps.getD j .non=ps[j]:=by simp[List.getD,M6]
    have e2:qs.getD j .non=qs[j]:=by simp[List.getD,Q7]
    rw[e1,e2];simpa using pF q1 q2 f1 f2
   exact⟨_,.of_refs e (SeqAt.RcAt.tuples ti vv hu each)⟩
def wZ{A:Around}{c a:UF}{n m:Int}{xs ys:List V}(hu:A.units+1<cLine)(I:Inv X pins σ H s)(C7:c≠a)(g1:H c=some (.lst (.int n::xs)))(g2:H a=some (.lst (.int m::ys)))(hnm:n≠m)(hl:xs.length=ys.length)(h:∀(j:Nat)(u v:V),xs[j]?=some u->ys[j]?=some v->EQ H u v):SeqAt.EqAt A s (.ref c) (.ref a) false:=by
 obtain⟨its,ri,ti,_⟩:=I.list (QYU g1);obtain⟨d8,ni,vv,_⟩:=I.list (QYU g2);have zf:its.length=xs.length+1:=ri.length.symm;have yk:d8.length=ys.length+1:=ni.length.symm;have es:its.toArray.size=d8.toArray.size:=by rw[eB,eB];omega
 have each:∀j:Nat,∃b,(j=0->b=false)/\∀(h1:j<its.toArray.size)(h2:j<d8.toArray.size),SeqAt.EqAt A.in1 s its.toArray[j] d8.toArray[j] b:=λj=>by
  by_cases h1:j<its.length
  ·have h2:j<d8.length:=by omega
   obtain⟨M6,q1⟩:=Paired.get' (j:=j) ri h1;obtain⟨Q7,q2⟩:=Paired.get' (j:=j) ni h2
   cases j with
   | zero=>
    have key:=pF (A:=A.in1) (s:=s) q1 q2 rfl rfl;rw[show qY ((V.int n::xs)[0]) ((V.int m::ys)[0])=false from W6 hnm]at key;exact⟨false,λ_=>rfl,λ_ _=>by simpa using key⟩
   | succ j=>
    have q1':RelV (xs[j]'(by simpa using M6)) its[j+1]:=q1;have q2':RelV (ys[j]'(by simpa using Q7)) d8[j+1]:=q2;obtain⟨b,hb⟩:=EQ.at (A:=A.in1) (by show A.units+1<cLine;exact hu) I q1' q2' (h j _ _ (gZ _) (gZ _));exact⟨b,λe=>QZZ e Zo,λ_ _=>by simpa using hb⟩
  ·exact⟨false,λ_=>rfl,λh _=>QZZ (by simpa using h) h1⟩
 obtain⟨e,he⟩:=Classical.axiomOfChoice each;have key:=SeqAt.EqAt.of_refs C7 (SeqAt.RcAt.lists (A:=A) (s:=s) (e:=e) ti.isList vv.isList es Zo (λj h1 h2=>(he j).2 h1 h2));have ef:(List.range its.toArray.size).all e=false:=by
  rw[eB,zf];rw[List.all_eq_false];exact⟨0,mem_range.mpr Zo,by rw[(he 0).1 rfl];decide⟩
 rw[ef]at key;exact key
end
def jR:V->List V->Hp->VK->Prop:=λx vs H Q=>match x,vs with
 | .ref l,[.ref a]=>∃(us:List UF)(j:Nat),H l=some (.lst (us.map V.ref))/\us[j]?=some a/\us.Nodup ∧
  (∀c∈us,c≠a->∃n m xs ys,H c=some (.lst (.int n::xs))/\H a=some (.lst (.int m::ys))/\n≠m/\xs.length=ys.length/\∀(j:Nat)(u v:V),xs[j]?=some u->ys[j]?=some v->EQ H u v) ∧
  Q .non (aI H l (.lst ((us.eraseIdx j).map V.ref)))
 | _,_=>False
def pZ:∀(ss:List UF)(j:Nat),(ss.eraseIdx j).map V.ref=(ss.map V.ref).eraseIdx j
 | [],j=>by simp
 | s::r,0=>by simp
 | s::r,j+1=>by
  rw[eraseIdx_cons_succ,map_cons,map_cons,eraseIdx_cons_succ,pZ r j]
def zF{X:Cx}(hu:X.A.units+64<cLine):Zv X "list.remove" jR:=by
 intro pins s σ H x vs v us0 Q I rx rv h;unfold jR at h;split at h
 ·rename_i l a;obtain⟨us,j,hl,hj,nd,ne,q⟩:=h;cases rx;obtain⟨u,rfl,ru⟩:=rv.one;cases ru;obtain⟨z0,its,n,r,TH,e⟩:=I.lstM hl;rw[aZ]at TH;have hjl:j<us.length:=(Zgs.mp hj).1;have at_:∀(m:Nat)(hm:m<its.length),∃B6:m<us.length,its[m]=Value.ref us[m]:=λm hm=>by
   have B6:m<us.length:=by omega
   have rv:RelV (V.ref us[m]) (its.getD m Value.none):=nG m r (by rw[aZ];exact B6) _ (by rw[jC,gZ B6];rfl);have e1:its.getD m Value.none=its[m]:=by rw[getD_eq_getElem?_getD,gZ hm];rfl
   rw[e1]at rv;exact⟨B6,rv⟩
  refine call_meets PySem.F.slot_list_remove ⟨_,e,rfl⟩ PySem.F.entry_list_remove (PySem.F.args_list_remove_2 _ _)
   (rD l its.toArray n (.ref a) (λy=>y==Value.ref a) j (by simp;omega) ?_ ?_ (by rw[eB];rw[aZ]at z0;omega)) ⟨e,?_,?_⟩
  ·obtain⟨B6,ej⟩:=at_ j Zo;simp only [List.getElem_toArray];rw[ej,(Zgs.mp hj).2];exact beq_self_eq_true _
  ·intro m hm B5;have vq:m<its.length:=by simpa using hm
   obtain⟨B6,ej⟩:=at_ m vq;simp only [List.getElem_toArray];rw[ej];refine beq_eq_false_iff_ne.mpr λh=>?_
   injection h with h
   exact(pairwise_iff_getElem.mp nd) m j B6 hjl B5 (h.trans (Zgs.mp hj).2.symm)
  ·intro y hy;obtain⟨m,hm,rfl⟩:=getElem_of_mem (show y∈its by simpa using hy);obtain⟨B6,ej⟩:=at_ m hm;rw[ej];by_cases ea:us[m]=a
   ·rw[ea,beq_self_eq_true];exact SeqAt.EqAt.same _
   ·obtain⟨n1,n2,xs,ys,g1,g2,hn,hlen,heq⟩:=ne us[m] (getElem_mem B6) ea;rw[show(Value.ref us[m]==Value.ref a)=false from beq_eq_false_iff_ne.mpr λh=>ea (by injection h)];exact wZ (by show X.A.units+1+1<cLine;omega) I ea g1 g2 hn hlen heq
  ·have er:(us.eraseIdx j).map V.ref=(us.map V.ref).eraseIdx j:=pZ us j;refine⟨.non,_,I.lset (its':=its.eraseIdx j) hl e ?_ (er▸r.eraseIdx j) ?_,rfl,q⟩
   ·show its.toArray.eraseIdxIfInBounds j=(its.eraseIdx j).toArray;rw[List.eraseIdxIfInBounds_toArray]
   ·rw[er];have:=mY (us.map V.ref) j;omega
 ·exact h.elim
def R.ja{X:Cx}(hu:X.A.units+64<cLine):XM X "list.remove" jR:=⟨zF hu⟩
section
variable {X:Cx}
def Sy(K:W.Frag):List V->Hp->VK->Prop:=λvs H Q=>∃(p:UF)(ns:List Int),vs=[.ref p]/\SqL K H p (ns.map V.int)/\0<ns.length/\∀M:Int,M∈ns->(∀a∈ns,a<=M)->Q (.int M) H
def Er(hc:X.calm=true):CallR X (.builtin "max") (Sy X.K):=by
 intro pins s σ H xs us Q I r h;obtain⟨p,ns,rfl,hq,hn,q⟩:=h;obtain⟨u,rfl,ru⟩:=jE r;cases ru;obtain⟨its,rv,pl,hz⟩:=I.list hq;have hi:=pE rv;obtain⟨xs,hx⟩:=hi.allInts.items;have BS:s.heap.IsList p (intItems xs):=hx▸pl.isList;have e1:ns=xs.toList.map (·.1):=by
  rw[<- nums_intItems,<- hx];exact(show numsOf its.toArray.toList=ns from hi.numsOf).symm
 have hsz:ns.length=xs.size:=by rw[e1];simp
 refine max_intList (I.ok.hd hc) BS Zo λv h' tk hv hk=>?_;obtain⟨hle,EH⟩:=argBest_gt (numAt xs) (xs.size-1);generalize argBest (λi j=>decide (numAt xs i>numAt xs j)) (xs.size-1)=k at hv hle EH;obtain⟨t,rfl⟩:=intItems_at hv;have at_:∀j,j<ns.length->numAt xs j=ns.getD j 0:=λj _=>by rw[numAt_eq,e1]
 refine⟨.int _,H,I.kept hk,⟨_,rfl⟩,q _ ?_ ?_⟩
 ·rw[at_ k Zo,getD_eq_getElem?_getD,gZ Zo];exact getElem_mem _
 ·intro a ha;obtain⟨j,hj,rfl⟩:=getElem_of_mem ha;have:=EH j Zo;rw[at_ j hj,getD_eq_getElem?_getD,gZ hj]at this;exact this
def R.fq{K:W.Frag}(hc:X.calm=true)(hK:X.K=K:=by rfl):XC X (.builtin "max") (Sy K):=hK▸⟨Er hc⟩
end
inductive Dd where
 | add (a:Str) (n:Nat)
 | take (a:Str) (n:Nat)
 | move (a b:Str) (n:Nat)
 | send (h a:Str) (n:Nat)
 | fetch (h a:Str) (n:Nat)
 | pass (h g a:Str) (n:Nat)
namespace Dd
def vs:Dd->List V
 | .add a n=>[.str "add",.str a,.int (n:Int)]
 | .take a n=>[.str "take",.str a,.int (n:Int)]
 | .move a b n=>[.str "move",.str a,.str b,.int (n:Int)]
 | .send h a n=>[.str "send",.str h,.str a,.int (n:Int)]
 | .fetch h a n=>[.str "fetch",.str h,.str a,.int (n:Int)]
 | .pass h g a n=>[.str "pass",.str h,.str g,.str a,.int (n:Int)]
def n:Dd->Nat
 | .add _ n=>n|.take _ n=>n|.move _ _ n=>n|.send _ _ n=>n|.fetch _ _ n=>n|.pass _ _ _ n=>n
def far:Dd->Bool
 | .send _ _ _=>true|.fetch _ _ _=>true|.pass _ _ _ _=>true|_=>false
def Ok:Dd->Prop
 | .add a n=>fE a/\1<=n/\n<=1000000000000
 | .take a n=>fE a/\1<=n/\n<=1000000000000
 | .move a b n=>fE a/\fE b/\a≠b/\1<=n/\n<=1000000000000
 | .send h a n=>fE h/\fE a/\1<=n/\n<=1000000000000
 | .fetch h a n=>fE h/\fE a/\1<=n/\n<=1000000000000
 | .pass h g a n=>fE h/\fE g/\fE a/\h≠g/\1<=n/\n<=1000000000000
def Ok.n{d:Dd}(h:d.Ok):1<=d.n/\d.n<=1000000000000:=by
 cases d<;>simp only [Ok]at h<;>simp only [Dd.n]<;>omega
def wd:Dd->Str
 | .add _ _=>"add"|.take _ _=>"take"|.move _ _ _=>"move"|.send _ _ _=>"send"|.fetch _ _ _=>"fetch"|.pass _ _ _ _=>"pass"
end Dd
inductive An where
 | is1 (m:Nat)
 | is2 (l m:Nat)
 | short (m:Nat)
 | full (m:Nat)
 | no (h:Str)
 | ok
namespace An
def vs:An->List V
 | .is1 m=>[.str "is",.int (m:Int)]
 | .is2 l m=>[.str "is",.int (l:Int),.int (m:Int)]
 | .short m=>[.str "short",.int (m:Int)]
 | .full m=>[.str "full",.int (m:Int)]
 | .no h=>[.str "no",.str h]
 | .ok=>[.str "ok"]
def early:An->Bool|.short _=>true|.full _=>true|_=>false
def Of:Dd->An->Prop
 | .add _ n,.is1 m=>n<=m/\m<=1000000000000
 | .add _ n,.full m=>1000000000000<m+n/\m<=1000000000000
 | .take _ n,.is1 m=>m+n<=1000000000000
 | .take _ n,.short m=>m<n
 | .move _ _ n,.is2 l m=>l+n<=1000000000000/\n<=m/\m<=1000000000000
 | .move _ _ n,.short m=>m<n
 | .move _ _ n,.full m=>1000000000000<m+n/\m<=1000000000000
 | .send _ _ n,.is1 m=>m+n<=1000000000000
 | .send _ _ n,.short m=>m<n
 | .send h _ _,.no g=>g=h
 | .fetch _ _ n,.is1 m=>n<=m/\m<=1000000000000
 | .fetch _ _ n,.full m=>1000000000000<m+n/\m<=1000000000000
 | .fetch h _ _,.no g=>g=h
 | .pass h g _ _,.no k=>k=h∨k=g
 | .pass _ _ _ _,.ok=>True
 | _,_=>False
end An
inductive RX where
 | next (n t:Nat)
 | has (z:Str) (m:Nat)
 | kept (n t:Nat) (p k:Str) (d:Dd) (y:An)
 | came (n t:Nat) (p k:Str) (d:Dd)
 | asked (n:Nat)
 | done (n t:Nat) (y:An)
namespace RX
def At(H:Hp)(a:UF):RX->Prop
 | .next n t=>H a=some (.tup [.str "next",.int (n:Int),.int (t:Int)])
 | .has z m=>H a=some (.tup [.str "has",.str z,.int (m:Int)])
 | .kept n t p k d y=>∃b c,H a=some (.tup [.str "kept",.int (n:Int),.int (t:Int),.str p,.str k,.ref b,.ref c])/\H b=some (.tup d.vs)/\H c=some (.tup y.vs)
 | .came n t p k d=>∃b,H a=some (.tup [.str "came",.int (n:Int),.int (t:Int),.str p,.str k,.ref b])/\H b=some (.tup d.vs)
 | .asked n=>H a=some (.tup [.str "asked",.int (n:Int)])
 | .done n t y=>∃c,H a=some (.tup [.str "done",.int (n:Int),.int (t:Int),.ref c])/\H c=some (.tup y.vs)
def At.tk{H H':Hp}{a:UF}{r:RX}(s:TK H H')(h:r.At H a):r.At H' a:=by
 cases r with
 | next n t=>exact s _ _ h
 | has z m=>exact s _ _ h
 | kept n t p k d y=>obtain⟨b,c,h1,h2,h3⟩:=h;exact⟨b,c,s _ _ h1,s _ _ h2,s _ _ h3⟩
 | came n t p k d=>obtain⟨b,h1,h2⟩:=h;exact⟨b,s _ _ h1,s _ _ h2⟩
 | asked n=>exact s _ _ h
 | done n t y=>obtain⟨b,h1,h2⟩:=h;exact⟨b,s _ _ h1,s _ _ h2⟩
def tvs:List V->TV:=λxs=>.tp (xs.map TV.sc)
def tv:RX->TV
 | .next n t=>.tp [.sc (.str "next"),.sc (.int (n:Int)),.sc (.int (t:Int))]
 | .has z m=>.tp [.sc (.str "has"),.sc (.str z),.sc (.int (m:Int))]
 | .kept n t p k d y=>.tp [.sc (.str "kept"),.sc (.int (n:Int)),.sc (.int (t:Int)),.sc (.str p),.sc (.str k),tvs d.vs,tvs y.vs]
 | .came n t p k d=>.tp [.sc (.str "came"),.sc (.int (n:Int)),.sc (.int (t:Int)),.sc (.str p),.sc (.str k),tvs d.vs]
 | .asked n=>.tp [.sc (.str "asked"),.sc (.int (n:Int))]
 | .done n t y=>.tp [.sc (.str "done"),.sc (.int (n:Int)),.sc (.int (t:Int)),tvs y.vs]
def lQ{H:Hp}{b:UF}{xs:List V}(g:H b=some (.tup xs))(hf:∀x∈xs,kY x=true):Jd H 1 (tvs xs) (.ref b):=by
 refine⟨b,xs,rfl,g,?_⟩
 induction xs with
 | nil=>exact .nil
 | cons x xs ih=>
  clear g;refine .cons ⟨rfl,hf x jI⟩ ?_;have:∀(ys:List V),(∀y∈ys,kY y=true)->Paired (Jd H 0) (ys.map TV.sc) ys:=λys h=>by
   induction ys with
   | nil=>exact .nil
   | cons y ys ih=>exact .cons ⟨rfl,h y jI⟩ (ih λz hz=>h z (oP _ hz))
  exact this xs λz hz=>hf z (oP _ hz)
def Sz(d:Dd):∀x∈d.vs,kY x=true:=by
 intro x hx;cases d<;>simp only [Dd.vs,mem_cons,QZU,or_false]at hx<;>rcases hx with rfl|rfl|rfl|rfl|rfl<;>rfl
def Ta(y:An):∀x∈y.vs,kY x=true:=by
 intro x hx;cases y<;>simp only [An.vs,mem_cons,QZU,or_false]at hx<;>rcases hx with rfl|rfl|rfl|rfl|rfl<;>rfl
def At.rep{H:Hp}{a:UF}{r:RX}(h:r.At H a):Jd H 2 r.tv (.ref a):=by
 cases r with
 | next n t=>exact⟨a,_,rfl,h,.cons ⟨rfl,rfl⟩ (.cons ⟨rfl,rfl⟩ (.cons ⟨rfl,rfl⟩ .nil))⟩
 | has z m=>exact⟨a,_,rfl,h,.cons ⟨rfl,rfl⟩ (.cons ⟨rfl,rfl⟩ (.cons ⟨rfl,rfl⟩ .nil))⟩
 | kept n t p k d y=>
  obtain⟨b,c,h1,h2,h3⟩:=h;exact⟨a,_,rfl,h1,.cons ⟨rfl,rfl⟩ (.cons ⟨rfl,rfl⟩ (.cons ⟨rfl,rfl⟩ (.cons ⟨rfl,rfl⟩ (.cons ⟨rfl,rfl⟩ (.cons (lQ h2 (Sz d)) (.cons (lQ h3 (Ta y)) .nil))))))⟩
 | came n t p k d=>
  obtain⟨b,h1,h2⟩:=h;exact⟨a,_,rfl,h1,.cons ⟨rfl,rfl⟩ (.cons ⟨rfl,rfl⟩ (.cons ⟨rfl,rfl⟩ (.cons ⟨rfl,rfl⟩ (.cons ⟨rfl,rfl⟩ (.cons (lQ h2 (Sz d)) .nil)))))⟩
 | asked n=>exact⟨a,_,rfl,h,.cons ⟨rfl,rfl⟩ (.cons ⟨rfl,rfl⟩ .nil)⟩
 | done n t y=>
  obtain⟨b,h1,h2⟩:=h;exact⟨a,_,rfl,h1,.cons ⟨rfl,rfl⟩ (.cons ⟨rfl,rfl⟩ (.cons ⟨rfl,rfl⟩ (.cons (lQ h2 (Ta y)) .nil)))⟩
def rank:RX->Nat|.next _ _=>0|.has _ _=>1|.kept _ _ _ _ _ _=>2|_=>3
def turn:RX->Nat|.next _ t=>t|.came _ t _ _ _=>t|.done _ t _=>t|_=>0
def Fits(rs:List RX):RX->Prop
 | .next _ _=>rs=[]
 | .has z _=>(∀q∈rs,rank q<=1)/\(∃n t,.next n t∈rs)/\∀z' m,.has z' m∈rs->z'.cps.toList<z.cps.toList
 | .kept n t _ _ d y=>(∀q∈rs,rank q<=2)/\(∃n0 t0,.next n0 t0∈rs/\n<n0/\t<=t0)/\(∀n' t' p' k' d' y',.kept n' t' p' k' d' y'∈rs->n'<n)/\An.Of d y
 | .came n t _ _ _=>(∀n' t' p' k' d',.came n' t' p' k' d'∈rs->n'<n)/\(∀t' p' k' d' y',.kept n t' p' k' d' y'∉rs)/\∀q∈rs,turn q<=t
 | .asked n=>(∃t p k d,.came n t p k d∈rs/\d.far=true)/\.asked n∉rs/\∀t y,.done n t y∉rs
 | .done n t y=>(∀q∈rs,turn q<=t)/\(∀t y,.done n t y∉rs)/\∃t0 p k d,.came n t0 p k d∈rs/\An.Of d y/\(d.far=true->(.asked n∈rs↔y.early=false))
inductive Whole:List RX->Prop
 | nil:Whole []
 | snoc {rs:List RX}{r:RX}:Whole rs->Fits rs r->Whole (rs++[r])
def Ok:RX->Prop
 | .next n t=>1<=n/\n<=1000000/\t<=1000000000000
 | .has z m=>fE z/\1<=m/\m<=1000000000000
 | .kept n t p k d y=>1<=n/\n<=999999/\t<=1000000000000/\fE p/\wR k/\d.Ok/\An.Of d y
 | .came n t p k d=>1<=n/\n<=999999/\t<=1000000000000/\fE p/\wR k/\d.Ok
 | .asked n=>1<=n/\n<=999999
 | .done n t _=>1<=n/\n<=999999/\t<=1000000000000
end RX
structure RxsAt(H:Hp)(ra:UF)(rs:List RX)(as:List UF):Prop where
 lst:H ra=some (.lst (as.map V.ref))
 each:Paired (λr a=>RX.At H a r) rs as
def RxsAt.len{H:Hp}{ra:UF}{rs:List RX}{as:List UF}(h:RxsAt H ra rs as):rs.length=as.length:=h.each.length
def RxsAt.keep{H H':Hp}{ra:UF}{rs:List RX}{as:List UF}(h:RxsAt H ra rs as)(s:TK H H')(e:H' ra=some (.lst (as.map V.ref))):RxsAt H' ra rs as:=⟨e,Paired.map' (λ_ _ x=>x.tk s) h.each⟩
def RxsAt.same{H H':Hp}{ra:UF}{rs:List RX}{as:List UF}(h:RxsAt H ra rs as)(s:Same H H'):RxsAt H' ra rs as:=h.keep s.tk (s _ _ h.lst)
def RxsAt.snoc{H H':Hp}{ra:UF}{rs:List RX}{as:List UF}{r:RX}{a:UF}(h:RxsAt H ra rs as)(s:TK H H')(hr:r.At H' a)(e:H' ra=some (.lst (as.map V.ref++[.ref a]))):RxsAt H' ra (rs++[r]) (as++[a]):=
 ⟨by rw[e,iB];rfl,Paired.snoc (Paired.map' (λ_ _ x=>x.tk s) h.each) hr⟩
def RxsAt.get{H:Hp}{ra:UF}{rs:List RX}{as:List UF}(h:RxsAt H ra rs as){i:Nat}{v:V}(e:(as.map V.ref)[i]?=some v):∃(a:UF)(r:RX),v=.ref a/\as[i]?=some a/\rs[i]?=some r/\r.At H a:=by
 rw[jC]at e;cases ha:as[i]? with
 | none=>rw[ha]at e;cases e
 | some a=>
  rw[ha]at e;cases e;obtain⟨hi,ei⟩:=Zgs.mp ha;obtain⟨NC,hr⟩:=Paired.get' (j:=i) h.each hi;rw[ei]at hr;exact⟨a,rs[i],rfl,rfl,gZ NC,hr⟩
def RxsAt.rep{H:Hp}{ra:UF}{rs:List RX}{as:List UF}(h:RxsAt H ra rs as):Jd H 3 (.ls (rs.map RX.tv)) (.ref ra):=by
 refine⟨ra,_,rfl,h.lst,?_⟩;have:∀ {rs:List RX}{as:List UF},Paired (λr a=>RX.At H a r) rs as->Paired (Jd H 2) (rs.map RX.tv) (as.map V.ref):=by
  intro rs as p;induction p with
  | nil=>exact .nil
  | cons h t ih=>exact .cons h.rep ih
 exact this h.each
def RxsAt.nil{H:Hp}{ra:UF}(h:H ra=some (.lst [])):RxsAt H ra [] []:=⟨h,.nil⟩
def Pw(l:List Stmt)(i:Nat):Stmt:=l.getD i (.Pass ⟨0,0,0,0⟩)
def stT:Stmt->List Stmt|.If _ a _ _=>a|_=>[]
def stE:Stmt->List Stmt|.If _ _ b _=>b|_=>[]
def stB:Stmt->List Stmt|.For _ _ ss _ _=>ss|.While _ ss _ _=>ss|_=>[]
def bK{t u:TS}{D:kK}{σ:St}{H:Hp}(R:St->Hp->Prop)(h:∀nx:St->Hp->Prop,(∀ σ' H',R σ' H'->nx σ' H')->t {D with nx:=nx } σ H)(h2:∀ σ' H',R σ' H'->u D σ' H'):yA t u D σ H:=h (u D) h2
def Ki{c:TT}{t u:TS}{D:kK}{σ:St}{H:Hp}(R:Bool->Hp->Prop)(h:∀k:Bool->Hp->Prop,(∀v H',R v H'->k v H')->c σ H k)(ht:∀H',R true H'->t D σ H')(hf:∀H',R false H'->u D σ H'):Gb c t u D σ H:=
 h (λb H1=>if b=true then t D σ H1 else u D σ H1) λv H' r=>match v,r with|true,r=>ht H' r|false,r=>hf H' r
def jS{c:TT}{t u x:TS}{D:kK}{σ:St}{H:Hp}(R:Bool->Hp->Prop)(h:∀k:Bool->Hp->Prop,(∀v H',R v H'->k v H')->c σ H k)(ht:∀H',R true H'->t {D with nx:=x D } σ H')(hf:∀H',R false H'->u {D with nx:=x D } σ H'):yA (Gb c t u) x D σ H:=
 h (λb H1=>if b=true then t {D with nx:=x D } σ H1 else u {D with nx:=x D } σ H1) λv H' r=>match v,r with|true,r=>ht H' r|false,r=>hf H' r
section
variable {X:Cx}
def Px(neg:Bool):R2:=λx y H Q=>mR y λa=>∃o,DGet H a x o/\Q (.bl (if neg then !o.isSome else o.isSome)) H
def Kj(neg:Bool)(hu:X.A.units+1<cLine):OpR X (compareOp (if neg then .NotIn else .In)) (Px neg):=by
 intro pins s σ H x y v u Q I rx ry h;unfold Px at h;rw[dY]at h;obtain⟨a,rfl,o,g,q⟩:=h;cases ry;cases neg
 ·exact Zx hu I g rx λs' I'=>⟨.bl _,H,I',rfl,q⟩
 ·exact As hu I g rx λs' I'=>⟨.bl _,H,I',rfl,q⟩
def R.fh(hu:X.A.units+1<cLine):jF X (compareOp .In) (Px false):=⟨Kj false hu⟩
def R.fi(hu:X.A.units+1<cLine):jF X (compareOp .NotIn) (Px true):=⟨Kj true hu⟩
end
def RKS:List (Str×Int):=[("next",0),("has",1),("kept",2),("came",3),("asked",3),("done",3)]
def UAW:List V:=[.str "short",.str "full"]
section
variable {X:Cx}
def Xf:R2:=λx y H Q=>match x,y with|.int i,.int j=>Q (.bl (decide (i<j))) H|.str i,.str j=>Q (.bl (decide (i.cps.toList<j.cps.toList))) H|_,_=>False
def Xg:OpR X (compareOp .Lt) Xf:=by
 intro pins s σ H x y v u Q I rx ry h;unfold Xf at h;split at h
 ·exact Rz pins s σ H _ _ v u Q I rx ry ⟨_,_,rfl,rfl,h⟩
 ·exact Dg pins s σ H _ _ v u Q I rx ry ⟨_,_,rfl,rfl,h⟩
 ·exact h.elim
def R.jb:jF X (compareOp .Lt) Xf:=⟨Xg⟩
def R.jc:XC X (.builtin "len") (λvs H Q=>match vs with | [.ref a]=>∃kvs,H a=some (.dK kvs)/\Q (.int kvs.length) H | _=>False):=⟨Dy.imp λvs H Q h=>by
 split at h
 ·obtain⟨kvs,g,q⟩:=h;exact⟨_,kvs,rfl,g,q⟩
 ·exact h.elim⟩
end
section
variable {X:Cx}
def Xh:R2:=λx y H Q=>match x,y with|.int i,.int j=>Q (.bl (decide (j<=i))) H|.str i,.str j=>Q (.bl (!decide (i.cps.toList<j.cps.toList))) H|_,_=>False
def Xi:OpR X (compareOp .GtE) Xh:=by
 intro pins s σ H x y v u Q I rx ry h;unfold Xh at h;split at h
 ·exact Sb pins s σ H _ _ v u Q I rx ry ⟨_,_,rfl,rfl,h⟩
 ·obtain⟨t,rfl⟩:=rx;obtain⟨t',rfl⟩:=ry;exact P.ge_str (aX I h rfl)
 ·exact h.elim
def R.ia:jF X (compareOp .GtE) Xh:=⟨Xi⟩
end
def jT(xs ys:List V):Prop:=∀(j:Nat)(u v:V),xs[j]?=some u->ys[j]?=some v->eC u=true/\eC v=true
def zG{xs:List V}(h:jT xs xs):kQ xs xs=true:=by
 unfold kQ;rw[Bool.and_eq_true_iff];refine⟨all_eq_true.mpr λj hj=>?_,Zs⟩;have hj:j<xs.length:=by simpa using hj
 have e:xs.getD j .non=xs[j]:=by simp[List.getD,hj]
 rw[e];have:=(h j xs[j] xs[j] (gZ hj) (gZ hj)).1;generalize xs[j]=v at this;cases v<;>first|exact QZZ (show false=true from this) XV|simp[qY]
section
variable {X:Cx}
def Kk{pins:ZB}{s:TW}{σ:St}{H:Hp}{a b:UF}{xs ys:List V}(I:Inv X pins σ H s)(hu:X.A.units+64<cLine)(g1:H a=some (.tup xs))(g2:H b=some (.tup ys))(fl:jT xs ys):SeqAt.EqAt X.A.in1 s (.ref a) (.ref b) (kQ xs ys):=by
 by_cases e:a=b
 ·subst e;rw[g1]at g2;cases g2;rw[zG fl];exact SeqAt.EqAt.same _
 ·obtain⟨its,ri,ti,_⟩:=I.tuple (QYV g1);obtain⟨d8,ni,vv,_⟩:=I.tuple (QYV g2);have zf:its.length=xs.length:=ri.length.symm;have yk:d8.length=ys.length:=ni.length.symm;have each:∀j (h1:j<its.toArray.size) (h2:j<d8.toArray.size),SeqAt.EqAt X.A.in1.in1 s its.toArray[j] d8.toArray[j] (qY (xs.getD j .non) (ys.getD j .non)):=λj h1 h2=>by
   rw[eB]at h1 h2;obtain⟨M6,q1⟩:=Paired.get' (j:=j) ri h1;obtain⟨Q7,q2⟩:=Paired.get' (j:=j) ni h2;obtain⟨f1,f2⟩:=fl j xs[j] ys[j] (gZ M6) (gZ Q7);have e1:xs.getD j .non=xs[j]:=by simp[List.getD,M6]
   have e2:ys.getD j .non=ys[j]:=by simp[List.getD,Q7]
   rw[e1,e2];simpa using pF q1 q2 f1 f2
  have e:((List.range (min its.toArray.size d8.toArray.size)).all (λj=>qY (xs.getD j .non) (ys.getD j .non))&&its.toArray.size==d8.toArray.size)=kQ xs ys:=by
   rw[eB,eB,zf,yk];rfl
  have key:=SeqAt.RcAt.tuples (A:=X.A.in1) (s:=s) ti vv (by rw[Eh];omega) each;rw[e]at key;intro prog w E Q h;unfold eqBool;refine wpAny_holding ?_;refine wpAny_ite_split (λCP=>QZZ (eq_of_beq CP) (λz=>by cases z;contradiction)) (λ_=>?_);exact X7 (key prog w E _ (wpAny_truthy_bool h))
def zH(xs:List V)(zs:List (UF×List V)):Bool:=zs.any λz=>kQ z.2 xs
def Xj(neg:Bool):R2:=λx y H Q=>mR x λa=>mR y λp=>∃(xs:List V)(zs:List (UF×List V)),H a=some (.tup xs)/\H p=some (.lst (zs.map λz=>V.ref z.1))/\(∀z∈zs,H z.1=some (.tup z.2)/\jT z.2 xs)/\Q (.bl (if neg then !zH xs zs else zH xs zs)) H
def eqH(H:Hp)(xs:List V)(v:T0):Bool:=match v with|.ref b=>(match H b with|some (.tup ys)=>kQ ys xs|_=>false)|_=>false
def Kl{H:Hp}{xs ys:List V}{b:UF}(g:H b=some (.tup ys)):eqH H xs (.ref b)=kQ ys xs:=by unfold eqH;dsimp only;rw[g]
def zI{zs:List (UF×List V)}:∀ {us:List T0},Vals (zs.map λz=>V.ref z.1) us->us=zs.map λz=>Value.ref z.1:=by
 induction zs with
 | nil=>intro us r;cases r;rfl
 | cons z zs ih=>intro us r;cases r with|cons r t=>rw[ih t];cases r;rfl
def Xk(neg:Bool)(hu:X.A.units+64<cLine):OpR X (compareOp (if neg then .NotIn else .In)) (Xj neg):=by
  intro pins s σ H x y v u Q I rx ry h;unfold Xj at h;rw[dY]at h;obtain⟨a,rfl,h⟩:=h;rw[dY]at h;obtain⟨p,rfl,xs,zs,g1,g2,hz,q⟩:=h;cases rx;cases ry;obtain⟨its,r,pl,_⟩:=I.list (QYU g2);have ei:=zI r;have he:∀w,w∈its.toArray->SeqAt.EqAt X.A.in1 s w (.ref a) (eqH H xs w):=λw hw=>by
    have hw:w∈its:=by simpa using hw
    rw[ei]at hw;obtain⟨z,hm,rfl⟩:=Zmm.mp hw;rw[Kl (hz z hm).1];exact Kk I hu (hz z hm).1 g1 (hz z hm).2
  have ea:its.toArray.any (eqH H xs)=zH xs zs:=by
    rw[ei];unfold zH;rw[List.any_toArray,any_map];have:∀zs:List (UF×List V),(∀z∈zs,H z.1=some (.tup z.2)/\jT z.2 xs)->zs.any (eqH H xs∘λz=>Value.ref z.1)=zs.any λz=>kQ z.2 xs:=λzs hz=>by
     induction zs with
     | nil=>rfl
     | cons z zs ih=>
      rw[any_cons,any_cons,ih λy hy=>hz y (oP _ hy)]
      congr 1
      exact Kl (hz z jI).1
    exact this zs hz
  cases neg
  . refine SeqAt.in_listAt _ pl.isList he ⟨.bl _,H,I,rfl,?_⟩
    rw[ea];exact q
  . refine SeqAt.notIn_listAt _ pl.isList he ⟨.bl _,H,I,rfl,?_⟩
    rw[ea];exact q
def R.jd(hu:X.A.units+64<cLine):jF X (compareOp .NotIn) (Xj true):=⟨Xk true hu⟩
end
end L2
namespace KL
open PySem L2
def kq:=@R.v
def kt:=@R.aa
def lc:=@R.ac
def lf:=@R.ad
def li:=@R.ix
def lv:=@R.ae
def mh:=@R.af
def mi:=@R.ag
def mj:=@R.ah
def mk:=@R.fn
def ml:=@R.op
def ms:=@R.ai
def nw:=@R.al
def o0:=@R.ao
def pi:=@R.aq
def re:=@R.ar
def rp:=@R.au
def rq:=@R.eq
def sj:=@R.av
def sq:=@R.aw
def su:=@R.ax
def sv:=@R.ay
def sw:=@R.az
def sx:=@R.gn
def sy:=@R.ba
def tf:=@R.bb
def tj:=@R.bl
def tz:=@R.bc
def ut:=@R.ps
def u8:=@R.be
def ve:=@R.tw
def vf:=@R.sl
def vg:=@R.pn
def vh:=@R.bf
def vi:=@R.bg
def vj:=@R.bh
def vk:=@R.gR
def vm:=@R.bi
def wf:=@R.bj
def wn:=@R.bn
def wp:=@R.bo
def wr:=@R.bp
def wv:=@R.bq
def ww:=@R.br
def xo:=@R.bt
def xp:=@R.bu
def xq:=@R.bv
def xr:=@R.bw
def xt:=@R.bz
def xu:=@R.cf
def xw:=@R.cg
def xx:=@R.cj
def xy:=@R.cn
def xz:=@R.lt
def yx:=@R.cq
def yy:=@R.le
def yz:=@R.cv
def zc:=@R.da
def zd:=@R.db
def zn:=@R.de
def AC:=@R.df
def AT:=@R.dh
def DT:=@R.di
def DU:=@R.dl
def EN:=@R.dj
def FM:=@R.dm
def FS:=@R.dn
def HN:=@R.dq
def IN:=@R.ne
def IR:=@R.dt
def M3:=@R.du
def NE:=@R.sT
def PP:=@R.dw
def P4:=@R.dy
def eL(i:Nat):Stmt:=PySem.Challenge.pw_oncedoor_k74_rows_not_whole.main.body.getD i (.Pass ⟨0,0,0,0⟩)
abbrev bG:Stmt:=eE (eL 19) 0
abbrev kB:Stmt:=eL 24
abbrev iI:Stmt:=eL 25
abbrev eF:Stmt:=eL 26
abbrev kC:Stmt:=eL 28
abbrev dC:Stmt:=eL 29
abbrev oV:Stmt:=eL 31
abbrev uU:Stmt:=eL 32
abbrev dP:Stmt:=eL 33
abbrev fO:Stmt:=eL 34
abbrev fG:Stmt:=eL 35
abbrev kF:Stmt:=eL 36
abbrev oW:Stmt:=eL 37
abbrev gE:Stmt:=eL 38
abbrev eG:Stmt:=eL 39
abbrev cC:Stmt:=eE (eL 41) 0
abbrev eW:Stmt:=eE (eL 41) 1
abbrev jU:Stmt:=eE (eL 41) 2
abbrev eX:Stmt:=eE (eL 41) 3
abbrev cD:Stmt:=eE (eL 45) 0
abbrev gF:Stmt:=eE (eL 45) 1
abbrev fP:Stmt:=eE (eL 45) 2
abbrev dH:Stmt:=eE (eL 45) 3
abbrev cS:Stmt:=eE (eL 45) 4
abbrev gG:Stmt:=eE (eL 45) 5
abbrev gH:Stmt:=eL 46
abbrev fQ:Stmt:=eL 47
abbrev eI:Stmt:=eL 48
abbrev eY:Stmt:=eL 50
abbrev cW:Stmt:=eL 51
abbrev iJ:Stmt:=eL 53
abbrev iK:Stmt:=eL 54
abbrev cT:Stmt:=eL 55
abbrev kG:Stmt:=eL 56
abbrev iM:Stmt:=eL 57
abbrev fH:Stmt:=eL 58
abbrev fR:Stmt:=eL 59
abbrev gJ:Stmt:=eL 60
abbrev iO:Stmt:=eL 61
abbrev iP:Stmt:=eL 62
abbrev iQ:Stmt:=eL 63
abbrev bR:Stmt:=eL 64
abbrev fS:Stmt:=eL 65
abbrev iR:Stmt:=eL 66
abbrev bS:Stmt:=eL 67
abbrev bI:Stmt:=eL 68
abbrev hU:Stmt:=eL 69
abbrev bX:Stmt:=eL 70
abbrev dI:Stmt:=eL 71
abbrev cM:Stmt:=eL 72
abbrev dR:Stmt:=eL 73
abbrev cN:Stmt:=eL 74
abbrev fT:Stmt:=eL 75
abbrev dJ:Stmt:=eL 76
abbrev gK:Stmt:=eL 77
abbrev lR:Stmt:=eL 78
def eO{N P:List Str}{sc:Scope}(a:sc.kind=.function:=by rfl)(b:sc.isCoroutine=false:=by rfl)(c:sc.isGenerator=false:=by rfl)(d:N.Nodup:=by decide +kernel)(e:N.take P.length=P:=by rfl)(f:∀x∈P,sc.names.lookup x=some .local∨sc.names.lookup x=some .cell:=by decide +kernel)(g:∀y∈sc.names,y.2≠.free:=by decide +kernel):aJ N P sc:=⟨a,b,c,d,e,f,g⟩
def lA:aJ QZQ QZQ (aB bG):=eO
def zJ:aJ QZJ QZJ (aB kB):=eO
def xA:aJ QZt QZt (aB iI):=eO
def rE:aJ QZx QZx (aB eF):=eO
def lB:aJ ["deed","add","take"] QZP (aB kC):=eO
def jH:aJ QZP QZP (aB dC):=eO
def lS:aJ ["book","deed","name","by","amount"] QZN (aB oV):=eO
def Bo:aJ ["book","deed","heard","asks"] QZn (aB uU):=eO
def qA:aJ QZN QZN (aB dP):=eO
def rF:aJ QZs QZs (aB fO):=eO
def iU:aJ ["deed","thing","word","bounds"] QZm (aB fG):=eO
def zK:aJ QZJ QZJ (aB kF):=eO
def Km:aJ ["answer"] ["answer"] (aB oW):=eO
def dL:aJ ["deed","n","left","come","short","full"] QZP (aB gE):=eO
def rG:aJ QZw QZw (aB eG):=eO
def nK:aJ QZv QZv (aB cC):=eO
def qB:aJ QZy QZy (aB eW):=eO
def Py:aJ QZG QZG (aB jU):=eO
def dD:aJ ["self","changes","name","by"] QZl (aB eX):=eO
def nM:aJ QZG QZG (aB cD):=eO
def lT:aJ ["self","row","word"] QZQ (aB gF):=eO
def rH:aJ QZQ QZQ (aB fP):=eO
def gL:aJ ["self","row","ahead"] QZQ (aB dH):=eO
def dN:aJ ["self","row","deed","was_asked"] QZQ (aB cS):=eO
def lU:aJ ["self","row","word"] QZQ (aB gG):=eO
def fU:aJ ["rows","walk","place","row"] QZM (aB gH):=eO
def gU:aJ ["rows","word","told","row"] QZk (aB fQ):=eO
def rJ:aJ QZM QZM (aB eI):=eO
def bY:aJ ["rows","odd","came","book","place","row","deed"] QZM (aB eY):=eO
def hV:aJ ["book","deed","known"] QZN (aB cW):=eO
def xB:aJ QZI QZI (aB iJ):=eO
def fJ:aJ ["_law_deck_here","_law_many","_law_cell","_law_number"] QZR (aB iK):=eO
def cY:aJ QZj QZi (aB cT):=eO
def zL:aJ QZR QZR (aB kG):=eO
def bV:aJ ["_law_deck_here","_law_names","_law_houses","_law_amount","_law_at","_law_name","_law_other","_law_spot_here","_law_house","_law_there","_law_some"] QZH (aB iM):=eO
def iV:aJ QZb QZF (aB fH):=eO
def eZ:aJ ["_law_deck_here","_law_deed_here","_law_word","_law_amount","_law_low","_law_high"] QZE (aB fR):=eO
def iW:aJ ["_law_deck_here","_law_letters","_law_menus_here"] QZh (aB gJ):=eO
def xC:aJ QZO QZO (aB iO):=eO
def gM:aJ ["_law_deck_here","_law_menus_here","_law_number","_law_turn","_law_deed_here","_law_words_here","_law_answer_here"] QZr (aB iP):=eO
def cR:aJ ["_law_deck_here","_law_menus_here","_law_number","_law_turn","_law_rows","_law_name","_law_last","_law_k"] QZO (aB iQ):=eO
def aY:aJ QZq QZg (aB bR):=eO
def gV:aJ ["_law_deck_here","_law_menus_here","_law_rows"] QZO (aB fS):=eO
def jV:aJ ["_law_deed_here","_law_answer_here","_law_amount","_law_word"] QZf (aB iR):=eO
def nN:aJ QZK QZK (aB bS):=eO
def bW:aJ QZp QZK (aB bI):=eO
def dE:aJ QZa QZD (aB hU):=eO
def fM:aJ QYZ QZC (aB bX):=eO
def gN:aJ ["_law_deck_here","_law_rows","_law_row","_law_turn"] QZC (aB dI):=eO
def cF:aJ QYY QZB (aB cM):=eO
def hW:aJ ["_law_deck_here","_law_rows","_law_row","_law_menus_here","_law_way"] QZB (aB dR):=eO
def aS:aJ QZe QZA (aB cN):=eO
def cZ:aJ ["_law_deck_here","_law_rows","_law_menus_here","_law_way","_law_at","_law_rest","_law_to","_law_other"] QZA (aB fT):=eO
def lV:aJ QZo QZo (aB dJ):=eO
def cG:aJ ["_law_rows","_law_due_here","_law_kept_here","_law_found","_law_error","e"] QZD (aB gK):=eO
def qC:aJ ["_law_script","_law_deck_here","_law_menus_here","_law_rows","_law_turn"] QZI (aB lR):=eO
structure Txt(K:W.Frag)(mg:X8):Prop where
 b_isinstance:mg "isinstance"=none
 b_int:mg "int"=none
 b_bool:mg "bool"=none
 b_str:mg "str"=none
 b_len:mg "len"=none
 b_all:mg "all"=none
 b_tuple:mg "tuple"=none
 b_zip:mg "zip"=none
 b_enumerate:mg "enumerate"=none
 b_sum:mg "sum"=none
 b_list:mg "list"=none
 b_range:mg "range"=none
 b_sorted:mg "sorted"=none
 b_max:mg "max"=none
 b_dict:mg "dict"=none
 b_ValueError:mg "ValueError"=none
 g_LETTERS:∃t,mg "LETTERS"=some (.str ("abcdefghijklmnopqrstuvwxyz") t)
 g_LONGEST_NAME:∃t,mg "LONGEST_NAME"=some (.int (8) t)
 g_MOST:∃t,mg "MOST"=some (.int (1000000000000) t)
structure Top(Pm:Params)(K:W.Frag)(mg:X8):Prop where
 g_RANKS:∃a,mg "RANKS"=some (.ref a)/\KTab K Pm a (RKS)
 g_UNASKED_WORDS:∃a,mg "UNASKED_WORDS"=some (.ref a)/\∀H,SqT K H a (UAW)
section
variable {P:Program}{w:World}{K:W.Frag}{mg:X8}{base:Heap}
def Pz(T:Txt K mg)(D:DefAt K mg "is_made_of" eF QZx):aG P w K mg base 1 "is_made_of" QZx Iz:=by
 refine D.go rE (λvs H Q E h=>?_) (λf cdv A outer s H vs Q E hr h=>?_)
 ·obtain⟨x,sg,n,k,rfl,_⟩:=h;rfl
 ·obtain⟨x,sg,n,k,rfl,hk,hz,q⟩:=h;refine⟨_,(lv (re (ve (wp (xu (wn (FM .str (kq 0) rfl T.b_isinstance rfl T.b_str Iu))) (xw (xu (R.je yy yy lc (su R.ft rfl T.b_len aO (kt (kq 0) lf)) (kq 2)))))) (mj (ms tj)) rp) (mj (ms (su (R.jf (K:=K) rfl) rfl T.b_all Ir (kt (vm rfl (js:=[none,some 1]) (N:=["sign","signs"]) (CompScope.by (aB eF) QZx rfl rfl Zk) (aP rfl) (R.wS (kq 0)) (λC s₂ H₂ fp=>⟨(sx (i:=0) (show(["sign","signs"]:List Str).Nodup by decide +kernel)),FS,(sq R.jn (kq 0) (kq 1))⟩)) lf))))),?_⟩;have no:isK .str k=false->jN x sg.cps.toList n=false:=λe=>by
   cases x<;>first|rfl|(cases k<;>first|exact hk.elim|cases e)
  refine⟨k,hk,?_⟩
  cases x with
  | str z=>
   cases k<;>first|exact hk.elim|skip
   have KW:=hz z rfl;refine⟨fA KW,?_⟩;refine aQ (λh1=>?_) (λh1=>?_)
   ·refine aQ (λh2=>?_) (λh2=>?_)
    ·have e:jN (.str z) sg.cps.toList n=false:=by
      rw[iF];have Q7:decide ((z.length:Int)<=n)=false:=by simpa using h2
      rw[Q7];simp
     have h:=q H (Same.refl H);rw[e]at h;exact h
    ·refine⟨z,rfl,Ec (Pe z) (by simp[sE,Str.length]at KW ⊢;omega) (λ_=>true) (λv=>match v with|.str y=>.bl (decide (y.cps.toList.headD 0∈sg.cps.toList))|_=>.non) trivial (λv ys N hv ht hf=>?_) ?_⟩
     ·obtain⟨c,hc,rfl⟩:=Zmm.mp hv;exact⟨c,rfl,ht rfl⟩
     ·intro p hp;refine⟨p,z.cps.toList.map (λc=>decide (c∈sg.cps.toList)),rfl,QYU (by rw[aA,List.filter_eq_self.mpr (λ_ _=>rfl)];unfold sE;rw[map_map,map_map];rfl),?_⟩;have e:jN (.str z) sg.cps.toList n=List.all (z.cps.toList.map (λc=>decide (c∈sg.cps.toList))) id:=by
       rw[iF];have Q7:decide ((z.length:Int)<=n)=true:=by simpa using h2
       have M6:decide (1<=(z.length:Int))=true:=h1;rw[Q7,M6,all_map];simp[Function.comp_def]
      rw[<- e];exact q _ (λc o e=>by rw[aD (aE e hp)];exact e)
   ·have e:jN (.str z) sg.cps.toList n=false:=by
     rw[iF];have M6:decide (1<=(z.length:Int))=false:=h1;rw[M6];simp
    have h:=q H (Same.refl H);rw[e]at h;exact h
  | _=>
   cases k<;>first|exact hk.elim|exact q H (Same.refl H)
def zM(T:Txt K mg)(nq:aG P w K mg base 1 "is_made_of" QZx Iz)(D:DefAt K mg "is_name" kB QZJ):aG P w K mg base 2 "is_name" QZJ (Ja LET 8):=by
 refine D.go zJ (λvs H Q E h=>?_) (λf cdv A outer s H vs Q E hr h=>?_)
 ·obtain⟨x,k,rfl,_⟩:=h;rfl
 ·obtain⟨x,k,rfl,hk,hz,q⟩:=h;have lg:=hr;refine⟨_,(mj (ms (mk nq lg rfl (kt (kq 0) (kt (R.gS rfl T.g_LETTERS) (kt (R.gI rfl T.g_LONGEST_NAME) lf)))))),?_⟩;refine⟨x,_,8,k,rfl,hk,hz,λH' s'=>?_⟩;rw[yV];exact q H' s'
def Kn(T:Txt K mg)(D:DefAt K mg "is_whole" iI QZt):aG P w K mg base 1 "is_whole" QZt Bh:=by
 refine D.go xA (λvs H Q E h=>?_) (λf cdv A outer s H vs Q E hr h=>?_)
 ·obtain⟨x,lo,hi,rfl,_⟩:=h;rfl
 ·obtain⟨x,lo,hi,rfl,⟨k,hk,hz⟩,q⟩:=h;refine⟨_,(lv (re (ve (wp (xu (wn (FM .int (kq 0) rfl T.b_isinstance rfl T.b_int uD))) (xw (wn (FM .bl (kq 0) rfl T.b_isinstance rfl T.b_bool uE))))) (mj (ms tj)) rp) (mj (ms (R.jg yy yy (kq 1) (kq 0) (kq 2))))),?_⟩;have h:=q H (Same.refl H);refine⟨k,hk,?_⟩
  cases x with
  | int n=>
   cases k<;>first|exact hk.elim|skip
   refine⟨.int,trivial,?_⟩;show if decide (lo<=n)=true then _ else _
   have e:yW lo hi (.int n)=(decide (lo<=n)&&decide (n<=hi)):=rfl;refine aQ (λh1=>?_) (λh1=>?_)
   ·rw[e,h1,Bool.true_and]at h;exact h
   ·rw[e,h1,Bool.false_and]at h;exact h
  | bl b=>
   cases k<;>first|exact hk.elim|skip
   exact⟨.bl,trivial,h⟩
  | _=>cases k<;>first|exact hk.elim|exact h
def Qa(T:Txt K mg)(D:DefAt K mg "asks_of" kC QZP):aG P w K mg base 1 "asks_of" QZP kZ:=by
 refine D.go lB (λvs H Q E h=>?_) (λf cdv A outer s H vs Q E hr h=>?_)
 ·obtain⟨p,wd,xs,cs,as,rfl,_⟩:=h;rfl
 ·obtain⟨p,wd,xs,cs,as,rfl,hp,⟨one,other,nm,n,hd⟩,q⟩:=h;refine⟨_,(lv (o0 (i:=1) lB.nd (pi (kt mh (kt (li (mi (K:=K)) (kq 0) (vh lc)) (kt (li (mi (K:=K)) (kq 0) (vh lc)) lf))))) (lv (o0 (i:=2) lB.nd (pi (kt mh (kt (li (mi (K:=K)) (kq 0) (vh lc)) (kt (li (mi (K:=K)) (kq 0) (vh lc)) lf))))) (lv (re (nw rq (li (mi (K:=K)) (kq 0) lc) mh) (mj (ms (pi (kt (pi (kt (li (mi (K:=K)) (kq 0) lc) (kt (kq 1) lf))) lf)))) rp) (lv (re (nw rq (li (mi (K:=K)) (kq 0) lc) mh) (mj (ms (pi (kt (pi (kt (li (mi (K:=K)) (kq 0) lc) (kt (kq 2) lf))) lf)))) rp) (lv (re (nw rq (li (mi (K:=K)) (kq 0) lc) mh) (mj (ms (pi (kt (pi (kt (li (mi (K:=K)) (kq 0) lc) (kt (kq 2) lf))) (kt (pi (kt (li (mi (K:=K)) (kq 0) lc) (kt (kq 1) lf))) lf))))) rp) (mj (ms (pi lf)))))))),?_⟩;cases hd
  all_goals
   refine⟨_,QYV hp,_,rfl,_,QYV hp,_,rfl,Zs,λp1 H1 s1 g1=>⟨_,QYV (s1 _ _ hp),_,rfl,_,QYV (s1 _ _ hp),_,rfl,Zs,λp2 H2 s2 g2=>?_⟩⟩;have m5:=(s1.trans s2) _ _ hp;refine⟨_,QYV m5,_,rfl,?_⟩
  case send=>exact⟨_,QYV m5,_,rfl,Zs,λp3 H3 s3 g3=>⟨Zs,λp4 H4 s4 g4=>q p4 _ H4 (((s1.trans s2).trans s3).trans s4) g4 (.cons ⟨p3,p1,rfl,s4 _ _ g3,s4 _ _ (s3 _ _ (s2 _ _ g1))⟩ .nil)⟩⟩
  all_goals refine⟨_,QYV m5,_,rfl,?_⟩
  case fetch=>exact⟨_,QYV m5,_,rfl,Zs,λp3 H3 s3 g3=>⟨Zs,λp4 H4 s4 g4=>q p4 _ H4 (((s1.trans s2).trans s3).trans s4) g4 (.cons ⟨p3,p2,rfl,s4 _ _ g3,s4 _ _ (s3 _ _ g2)⟩ .nil)⟩⟩
  all_goals refine⟨_,QYV m5,_,rfl,?_⟩
  case pass=>
   refine⟨_,QYV m5,_,rfl,Zs,λp3 H3 s3 g3=>⟨_,QYV (s3 _ _ m5),_,rfl,Zs,λp4 H4 s4 g4=>⟨Zs,λp5 H5 s5 g5=>?_⟩⟩⟩;exact q p5 _ H5 ((((s1.trans s2).trans s3).trans s4).trans s5) g5 (.cons ⟨p3,p2,rfl,s5 _ _ (s4 _ _ g3),s5 _ _ (s4 _ _ (s3 _ _ g2))⟩ (.cons ⟨p4,p1,rfl,s5 _ _ g4,s5 _ _ (s4 _ _ (s3 _ _ (s2 _ _ g1)))⟩ .nil))
  all_goals exact⟨Zd,λp3 H3 s3 g3=>q p3 [] H3 ((s1.trans s2).trans s3) g3 .nil⟩
def zN(T:Txt K mg)(D:DefAt K mg "word_of" kF QZJ):aG P w K mg base 1 "word_of" QZJ wO:=by
 refine D.go zK (λvs H Q E h=>?_) (λf cdv A outer s H vs Q E hr h=>?_)
 ·obtain⟨x,rfl,_⟩:=h;rfl
 ·obtain⟨x,rfl,hx,q⟩:=h;refine⟨_,(lv (re (ve (wp (xu (wn (FM .tup (kq 0) rfl T.b_isinstance rfl T.b_tuple wF))) (wp (nw rq (su (sy (K:=K)) rfl T.b_len aO (kt (kq 0) lf)) lc) (xw (xu (wn (FM .str (li (mi (K:=K)) (kq 0) lc) rfl T.b_isinstance rfl T.b_str Iu))))))) (mj (ms xp)) rp) (mj (ms (li (mi (K:=K)) (kq 0) lc)))),?_⟩;rcases hx.1 with⟨hf,_⟩|⟨a,ys,rfl,h|h⟩|⟨a,kvs,rfl,h⟩
  ·cases x with
   | non=>exact⟨.non,trivial,q⟩
   | bl _=>exact⟨.bl,trivial,q⟩
   | int _=>exact⟨.int,trivial,q⟩
   | str _=>exact⟨.str,trivial,q⟩
   | _=>exact QZZ (show false=true from hf) XV
  ·refine⟨.lst,.inl ⟨ys,h⟩,?_⟩;have e:jQ H (.ref a)=.non:=by unfold jQ jP;dsimp only;rw[h]
   rw[e]at q;exact q
  ·refine⟨.tup,⟨ys,h⟩,ys,.inr (QYV h),?_⟩;have e0:jQ H (.ref a)=Su ys:=by unfold jQ;rw[pY h]
   rw[e0]at q;obtain⟨_,hp⟩:=hx.2 a ys rfl h
   cases ys with
   | nil=>exact q
   | cons y r=>
    have e1:mW (y::r) ((0:Nat):Int)=some y:=bJ rfl;refine⟨y::r,QYV h,y,e1,?_⟩;obtain⟨k,hk⟩:=(hp y jI).kd;refine⟨k,hk,?_⟩
    cases y with
    | str u=>
     cases k<;>first|exact hk.elim|skip
     exact⟨_,QYV h,_,e1,q⟩
    | non=>cases k<;>first|exact hk.elim|exact q
    | bl _=>cases k<;>first|exact hk.elim|exact q
    | int _=>cases k<;>first|exact hk.elim|exact q
    | ref _=>cases k<;>first|exact hk.elim|exact q
    | _=>cases k<;>exact hk.elim
  ·refine⟨.dct,⟨kvs,h⟩,?_⟩;have e:jQ H (.ref a)=.non:=by unfold jQ jP;dsimp only;rw[h]
   rw[e]at q;exact q
def Ko(T:Txt K mg)(ym:aG P w K mg base 2 "is_name" QZJ (Ja LET 8))(D:DefAt K mg "is_no" oW ["answer"]):aG P w K mg base 3 "is_no" ["answer"] Jy:=by
 refine D.go Km (λvs H Q E h=>?_) (λf cdv A outer s H vs Q E hr h=>?_)
 ·obtain⟨a,xs,rfl,_⟩:=h;rfl
 ·obtain⟨a,xs,rfl,h,hp,q⟩:=h;have vy:=hr;refine⟨_,(mj (ms (u8 (sq rq (su (sy (K:=K)) rfl T.b_len aO (kt (kq 0) lf)) lc) (tf (mk ym vy rfl (kt (li (mi (K:=K)) (kq 0) lc) lf)))))),?_⟩;refine⟨xs,.inr (QYV h),?_⟩
  match xs,h,hp,q with
  | [],h,hp,q=>exact q H (Same.refl _)
  | [_],h,hp,q=>exact q H (Same.refl _)
  | [x,y],h,hp,q=>
   obtain⟨k,hk⟩:=(hp y Zs).kd;refine⟨_,QYV h,y,rfl,y,k,rfl,hk,?_,λH' s'=>q H' s'⟩;intro z e;subst e;rcases hp (.str z) Zs with⟨_,h⟩|⟨_,_,e,_⟩|⟨_,_,e,_⟩
   ·exact h z rfl
   ·cases e
   ·cases e
  | x::y::z::r,h,hp,q=>
   exact q H (Same.refl _)
def oX{H:Hp}:∀ {L:List (Str×List (Int×Int))}{kvs:List (bA×V)},Paired (λa b=>b.1=Sum.inr a.1/\wN H (some a.2) (some b.2)) L kvs->∀u:Str,wN H (L.lookup u) (bC kvs (Sum.inr u))
 | _,_,.nil,u=>rfl
 | a::L,b::kvs,.cons h t,u=>by
  rw[lookup_cons];by_cases e:u=a.1
  ·subst e;rw[beq_self_eq_true,cJ h.1];exact h.2
  ·have hb:(u==a.1)=false:=beq_eq_false_iff_ne.mpr e;rw[hb,cK (by rw[h.1];intro z;exact e (Sum.inr.inj z).symm)];exact oX t u
def mk2{a b:Str}(h:([Sum.inr a,Sum.inr b]:List bA).Nodup)(x y:V):bD [] [(Sum.inr a,x),(Sum.inr b,y)]=[(Sum.inr a,x),(Sum.inr b,y)]:=kA _ _ h λ_ _=>rfl
def mk3{a b c:Str}(h:([Sum.inr a,Sum.inr b,Sum.inr c]:List bA).Nodup)(x y z:V):bD [] [(Sum.inr a,x),(Sum.inr b,y),(Sum.inr c,z)]=[(Sum.inr a,x),(Sum.inr b,y),(Sum.inr c,z)]:=kA _ _ h λ_ _=>rfl
def Es(T:Txt K mg)(D:DefAt K mg "bounds_of" gE QZP):aG P w K mg base 1 "bounds_of" QZP wP:=by
 refine D.go dL (λvs H Q E h=>?_) (λf cdv A outer s H vs Q E hr h=>?_)
 ·obtain⟨p,wd,n,xs,as,rfl,_⟩:=h;rfl
 ·obtain⟨p,wd,n,xs,as,rfl,hp,⟨⟨one,other,nm,cs,hd⟩,_⟩,q⟩:=h;refine⟨_,(lv (o0 (i:=1) dL.nd (li (mi (K:=K)) (kq 0) (vh lc))) (lv (o0 (i:=2) dL.nd (pi (kt lc (kt (ml xq (R.gI rfl T.g_MOST) (kq 1)) lf)))) (lv (o0 (i:=3) dL.nd (pi (kt (kq 1) (kt (R.gI rfl T.g_MOST) lf)))) (lv (o0 (i:=4) dL.nd (pi (kt lc (kt (ml xq (kq 1) lc) lf)))) (lv (o0 (i:=5) dL.nd (pi (kt (ml sv (ml xq (R.gI rfl T.g_MOST) (kq 1)) lc) (kt (R.gI rfl T.g_MOST) lf)))) (lv (re (nw rq (li (mi (K:=K)) (kq 0) lc) mh) (mj (ms HN)) rp) (lv (re (nw rq (li (mi (K:=K)) (kq 0) lc) mh) (mj (ms (R.fu (yz mh (pi (kt (kq 2) (kt (kq 3) lf))) (yz mh (pi (kt (kq 4) lf)) (yz mh (pi (kt (kq 5) lf)) R.gs)))))) rp) (lv (re (nw (tz (K:=K)) (li (mi (K:=K)) (kq 0) lc) (pi (kt mh (kt mh lf)))) (mj (ms (R.fu (yz mh (pi (kt (kq 2) lf)) (yz mh (pi (kt (kq 4) lf)) R.gs))))) rp) (mj (ms (R.fu (yz mh (pi (kt (kq 3) lf)) (yz mh (pi (kt (kq 5) lf)) R.gs))))))))))))),?_⟩;have el:mW xs (-1)=some (.int n):=by cases hd<;>rfl
  refine⟨_,QYV hp,_,el,?_⟩;dsimp only [aK];refine⟨Zs,λp1 H1 s1 g1=>⟨Zs,λp2 H2 s2 g2=>⟨Zs,λp3 H3 s3 g3=>⟨Zs,λp4 H4 s4 g4=>?_⟩⟩⟩⟩;have vz:=((s1.trans s2).trans s3).trans s4;have wa:=vz _ _ hp;have UG:=s4 _ _ (s3 _ _ (s2 _ _ g1));have UH:=s4 _ _ (s3 _ _ g2);have UI:=s4 _ _ g3;have fin:∀(H5:Hp)(pd:UF)(G:Hp)(kvs:List (bA×V)),Same H H5->H5 pd=none->Same (aI H5 pd (.dK [])) G->(∀u:Str,wN (aI G pd (.dK kvs)) ((Jx wd n).lookup u) (bC kvs (Sum.inr u)))->Q (.ref pd) (aI G pd (.dK kvs)):=λH5 pd G kvs sH J7 sG hb=>by
   refine q pd kvs _ (λc o e=>?_) aA hb;have e':=sH _ _ e;rw[aD (aE e' J7)];exact sG _ _ (aF J7 _ _ e')
  have at_:∀ {H5:Hp}{pd:UF}{G:Hp}{kvs:List (bA×V)}{c:UF}{ys:List V},Same (aI H5 pd (.dK [])) G->G c=some (.tup ys)->aI G pd (.dK kvs) c=some (.tup ys):=λ{H5 pd G kvs c ys} sG e=>by
   have:c≠pd:=λz=>by have h:=sG _ _ aA;rw[<- z,e]at h;cases h
   rw[aD this];exact e
  have b1:∀ {G:Hp}{c t:UF}{lo hi:Int},G t=some (.tup [.ref c])->G c=some (.tup [.int lo,.int hi])->wN G (some [(lo,hi)]) (some (.ref t)):=λ{G c t lo hi} h1 h2=>⟨t,[(c,lo,hi)],rfl,h1,λz hz=>by rw[Zms.mp hz];exact h2,rfl⟩
  cases hd with
  | pass=>
   refine⟨_,QYV wa,_,rfl,?_⟩;intro d hd;exact q d [] _ (vz.trans (aF hd)) aA λu=>rfl
  | move=>
   refine⟨_,QYV wa,_,rfl,?_⟩;refine⟨_,QYV wa,_,rfl,?_⟩;intro pd J7;refine⟨Zs,λq1 G1 r1 e1=>⟨Zs,λq2 G2 r2 e2=>⟨Zs,λq3 G3 r3 e3=>⟨r3 _ _ (r2 _ _ (r1 _ _ aA)),[(Sum.inr ("is":Str),.ref q1),(Sum.inr ("short":Str),.ref q2),(Sum.inr ("full":Str),.ref q3)],rfl,Zs,?_⟩⟩⟩⟩;rw[mk3 Zk];have sG:=(r1.trans r2).trans r3;have up:=λ{c:UF}{ys:List V} (e:H4 c=some (.tup ys))=>sG _ _ (aF (o:=.dK []) J7 _ _ e)
   refine fin H4 pd G3 _ vz J7 sG (oX (.cons ⟨rfl,?_⟩ (.cons ⟨rfl,b1 (at_ sG (r3 _ _ e2)) (at_ sG (up UI))⟩ (.cons ⟨rfl,b1 (at_ sG e3) (at_ sG (up g4))⟩ .nil))));exact⟨q1,[(p1,_,_),(p2,_,_)],rfl,at_ sG (r3 _ _ (r2 _ _ e1)),λz hz=>by
    simp only [mem_cons,QZU,or_false]at hz;rcases hz with rfl|rfl
    ·exact at_ sG (up UG)
    ·exact at_ sG (up UH),rfl⟩
  | take|send=>
   refine⟨_,QYV wa,_,rfl,?_⟩;refine⟨_,QYV wa,_,rfl,?_⟩;refine⟨_,QYV wa,_,rfl,Zs,λp5 H5 s5 g5=>⟨p5,_,rfl,.inr (QYV g5),rfl,rfl,?_⟩⟩;intro pd J7;refine⟨Zs,λq1 G1 r1 e1=>⟨Zs,λq2 G2 r2 e2=>⟨r2 _ _ (r1 _ _ aA),[(Sum.inr ("is":Str),.ref q1),(Sum.inr ("short":Str),.ref q2)],rfl,Zs,?_⟩⟩⟩;rw[mk2 Zk];have sG:=r1.trans r2;have up:=λ{c:UF}{ys:List V} (e:H4 c=some (.tup ys))=>sG _ _ (aF (o:=.dK []) J7 _ _ (s5 _ _ e))
   exact fin H5 pd G2 _ (vz.trans s5) J7 sG (oX (.cons ⟨rfl,b1 (at_ sG (r2 _ _ e1)) (at_ sG (up UG))⟩ (.cons ⟨rfl,b1 (at_ sG e2) (at_ sG (up UI))⟩ .nil)))
  | add|fetch=>
   refine⟨_,QYV wa,_,rfl,?_⟩;refine⟨_,QYV wa,_,rfl,?_⟩;refine⟨_,QYV wa,_,rfl,Zs,λp5 H5 s5 g5=>⟨p5,_,rfl,.inr (QYV g5),rfl,rfl,?_⟩⟩;intro pd J7;refine⟨Zs,λq1 G1 r1 e1=>⟨Zs,λq2 G2 r2 e2=>⟨r2 _ _ (r1 _ _ aA),[(Sum.inr ("is":Str),.ref q1),(Sum.inr ("full":Str),.ref q2)],rfl,Zs,?_⟩⟩⟩;rw[mk2 Zk];have sG:=r1.trans r2;have up:=λ{c:UF}{ys:List V} (e:H4 c=some (.tup ys))=>sG _ _ (aF (o:=.dK []) J7 _ _ (s5 _ _ e))
   exact fin H5 pd G2 _ (vz.trans s5) J7 sG (oX (.cons ⟨rfl,b1 (at_ sG (r2 _ _ e1)) (at_ sG (up UH))⟩ (.cons ⟨rfl,b1 (at_ sG e2) (at_ sG (up g4))⟩ .nil)))
def xD{α:Type}{xs:List α}{i:Nat}{x:α}(h:xs[i]?=some x):xs.take (i+1)=xs.take i++[x]:=by
 rw[List.take_succ,h];rfl
def Et(T:Txt K mg)(wb:aG P w K mg base 1 "is_whole" QZt Bh)(D:DefAt K mg "are_within" eG QZw):aG P w K mg base 2 "are_within" QZw wQ:=by
 refine D.go rG (λvs H Q E h=>?_) (λf cdv A outer s H vs Q E hr h=>?_)
 ·obtain⟨a,t,xs,bs,rfl,_⟩:=h;rfl
 ·obtain⟨a,t,xs,bs,rfl,ha,hl,hx,ht,hb,q⟩:=h;have ui:=hr;refine⟨_,(lv (re (nw IN (su (sy (K:=K)) rfl T.b_len aO (kt (kq 0) lf)) (su (sy (K:=K)) rfl T.b_len aO (kt (kq 1) lf))) (mj (ms tj)) rp) (mj (ms (su (R.jf (K:=K) rfl) rfl T.b_all Ir (kt (vm rfl (js:=[none,none]) (N:=QZd) (CompScope.by (aB eG) QZw rfl rfl Zk) (pL (eQ rfl (eQ rfl nB))) (R.ir (K:=K) rfl T.b_zip (kq 0) (kq 1)) (λC s₂ H₂ fp=>⟨(IR (K:=K) (n:=2) rfl (wr (sx (i:=0) (show(QZd:List Str).Nodup by decide +kernel)) (wr (sx (i:=1) (show(QZd:List Str).Nodup by decide +kernel)) M3))),FS,(mk wb ui rfl (kt (kq 0) (kt (li (mi (K:=K)) (kq 1) lc) (kt (li (mi (K:=K)) (kq 1) lc) lf))))⟩)) lf))))),?_⟩;refine⟨xs,.inr (QYV ha),uQ bs,.inr (QYV ht),?_⟩;have QG:(uQ bs).length=(bs.map (·.2)).length:=by unfold uQ;rw[aZ,aZ]
  dsimp only [mNe,mB];refine aQ (λh=>?_) (λh=>?_)
  ·have h':xs.length≠(bs.map (·.2)).length:=by
    rw[<- QG];intro e;rw[e]at h;simp at h
   have:=q H (Same.refl _);unfold aW at this;rw[W6 h',Bool.false_and]at this;exact this
  ·have h':xs.length=(bs.map (·.2)).length:=by
    rw[<- QG];have:((xs.length:Int)=((uQ bs).length:Int)):=by simpa using h
    omega
   have hlb:bs.length=xs.length:=by rw[h',aZ]
   refine⟨false,false,xs,uQ bs,QYV ha,QYV ht,?_⟩;refine Ju Zo (λi ys H'=>ys=(((xs.zip (bs.map (·.2))).take i).map λq=>yW q.2.1 q.2.2 q.1).map V.bl/\Same H H') (λi ys H' ⟨e,s'⟩=>⟨QYV (s' _ _ ha),QYV (s' _ _ ht),by rw[e,aZ,aZ,jD];exact min_le_left _ _⟩) ⟨rfl,Same.refl _⟩ (λi x y ys H' t' X0 BX ⟨e,s'⟩ ht'=>?_) (λys H' ⟨e,s'⟩=>?_)
   ·unfold uQ at BX;rw[jC]at BX;cases hn:bs[i]? with
    | none=>rw[hn]at BX;cases BX
    | some z=>
     rw[hn]at BX;cases BX;have s2:=s'.trans (aF (o:=.tup [x,.ref z.1]) ht');have gz:=s2 _ _ (hb z (jW hn));have ez:(xs.zip (bs.map (·.2)))[i]?=some (x,z.2):=by
      rw[List.getElem?_zip_eq_some];exact⟨X0,by rw[jC,hn];rfl⟩
     refine⟨t',_,rfl,QYV aA,rfl,_,_,rfl,_,_,rfl,rfl,_,QYV gz,_,rfl,_,QYV gz,_,rfl,x,z.2.1,z.2.2,rfl,((hx x (jW X0)).same s2).pt,λP9 tm=>⟨?_,s2.trans tm⟩⟩;rw[xD ez,iB,iB,e];rfl
   ·intro l BS;refine⟨l,((xs.zip (bs.map (·.2))).map λq=>yW q.2.1 q.2.2 q.1),rfl,QYU ?_,?_⟩
    ·rw[aA,e];have:(xs.zip (bs.map (·.2))).take (min xs.length (uQ bs).length)=xs.zip (bs.map (·.2)):=vQ (by rw[List.length_zip,QG];exact bQ _);rw[this]
    ·have:=q (aI H' l (.lst ys)) (s'.trans (aF BS));unfold aW at this;rw[W7 h',Bool.true_and]at this;rw[all_map];exact this
def Bp{wd:Str}{xs:List V}{cs:List (Str×Int)}{as:List (Str×List V)}(h:Ss wd xs cs as):mW xs 0=some (.str wd):=by
 obtain⟨one,other,nm,n,hd⟩:=h;cases hd<;>rfl
def Eu(wd:Str)(hs:List Str)(n:Int)(u:Str)(r:List V):Ej wd hs n (.str u::r)=if u="no" then (match r with|[y]=>oK y hs|_=>false) else if u="ok" then decide (wd="pass")&&r.isEmpty else match (Jx wd n).lookup u with|some bs=>aW r bs|none=>false:=rfl
def Qb{hs:List Str}(h:∀z∈hs,fE z)(y:V)(m:oK y hs=true):Yl y=true:=by
 cases y with
 | str z=>exact Wk (h z (by simpa [oK]using m))
 | _=>cases m
def uV(T:Txt K mg)(yn:aG P w K mg base 1 "word_of" QZJ wO)(CW:aG P w K mg base 3 "is_no" ["answer"] Jy)(d9:aG P w K mg base 1 "asks_of" QZP kZ)(uj:aG P w K mg base 1 "bounds_of" QZP wP)(nv:aG P w K mg base 2 "are_within" QZw wQ)(D:DefAt K mg "is_answer" fG QZm):aG P w K mg base 4 "is_answer" QZm Bk:=by
 refine D.go iU (λvs H Q E h=>?_) (λf cdv A outer s H vs Q E hr h=>?_)
 ·obtain⟨p,wd,n,xs,as,x,rfl,_⟩:=h;rfl
 ·obtain⟨p,wd,n,xs,as,x,rfl,hp,hd,hx,q⟩:=h;have wc:Room 1 _:=hr.mono Zd;have d6:Room 1 _:=hr.mono Zd;have ny:Room 1 _:=hr.mono Zd;have lh:Room 2 _:=hr.mono Zd;have zt:=hr;have J8:=jK hr;refine⟨_,(lv (o0 (i:=2) iU.nd (mk yn wc rfl (kt (kq 1) lf))) (lv (re (nw rq (kq 2) mh) (mj (ms (u8 (mk CW zt rfl (kt (kq 1) lf)) (tf (sq (tz (K:=K)) (li (mi (K:=K)) (kq 1) lc) (vm rfl (js:=[none,none]) (N:=["house","there"]) (CompScope.by (aB fG) ["deed","thing","word","bounds"] rfl rfl Zk) (pL (eQ rfl (eQ rfl nB))) (R.fj (K:=K) (mk d9 d6 rfl (kt (kq 0) lf))) (λC s₂ H₂ fp=>⟨(IR (K:=K) (n:=2) rfl (wr (sx (i:=0) (show(["house","there"]:List Str).Nodup by decide +kernel)) (wr (sx (i:=1) (show(["house","there"]:List Str).Nodup by decide +kernel)) M3))),FS,(kq 0)⟩))))))) rp) (lv (re (nw rq (kq 2) mh) (mj (ms (u8 (sq rq (li (mi (K:=K)) (kq 0) lc) mh) (tf (sq rq (su (sy (K:=K)) rfl T.b_len aO (kt (kq 1) lf)) lc))))) rp) (lv (o0 (i:=3) iU.nd (mk uj ny rfl (kt (kq 0) lf))) (mj (ms (u8 (sq (R.iu J8) (kq 2) (kq 3)) (tf (mk nv lh rfl (kt (vf NE (kq 1) (ut lc) vg) (kt (R.dz J8 (kq 3) (kq 2)) lf))))))))))),?_⟩;refine⟨x,rfl,hx,?_⟩;dsimp only [aK];obtain⟨cs,kr⟩:=hd.dwx;have ID:jQ H x=.non->zA H wd (as.map (·.1)) n x=false->∀ {R:Prop},R=R->True:=λ_ _ _ _=>trivial
  have key:(jQ H x=.non/\zA H wd (as.map (·.1)) n x=false)∨∃a u r,x=.ref a/\H a=some (.tup (.str u::r))/\jQ H x=.str u/\zA H wd (as.map (·.1)) n x=Ej wd (as.map (·.1)) n (.str u::r):=by
   unfold jQ zA;cases e:jP H x with
   | none=>exact .inl ⟨rfl,rfl⟩
   | some ys=>
    have:∃a,x=.ref a/\H a=some (.tup ys):=by
     unfold jP at e;cases x with
     | ref a=>
      dsimp only at e;refine⟨a,rfl,?_⟩;split at e
      ·cases e;assumption
      ·cases e
     | _=>cases e
    obtain⟨a,rfl,h⟩:=this
    cases ys with
    | nil=>exact .inl ⟨rfl,rfl⟩
    | cons y r=>cases y with
     | str u=>exact .inr ⟨a,u,r,rfl,h,rfl,rfl⟩
     | _=>exact .inl ⟨rfl,rfl⟩
  rcases key with⟨ew,ea⟩|⟨a,u,r,rfl,h,ew,ea⟩
  ·rw[ew];refine⟨p,wd,n,xs,as,rfl,hp,hd,λd kvs H1 s1 g1 hb=>?_⟩;refine⟨⟨kvs,g1⟩,?_⟩;have:=q H1 s1;rw[ea]at this;exact this
  ·rw[ew];rw[ea,Eu]at q;obtain⟨hl,UJ⟩:=hx.2 a _ rfl h;have CY:∀y∈r,Pc H y:=λy hy=>UJ y (oP _ hy)
   show if decide (u="no")=true then _ else _
   refine aQ (λh0=>?_) (λh0=>?_)
   ·rw[TD (W9 h0)]at q;refine⟨a,_,rfl,h,UJ,λH1 s1=>?_⟩;show if Sv (.str u::r)=true then _ else _
    refine aQ (λh1=>?_) (λh1=>?_)
    ·match r,h1,q,h,CY with
     | [y],h1,q,h,CY=>
      have hny:Yl y=true:=h1
      cases y with
      | str z=>
       refine⟨_,QYV (s1 _ _ h),_,rfl,p,wd,xs,cs,as,rfl,s1 _ _ hp,kr,λt us H2 s2 g2 ha=>⟨t,rfl,⟨_,QYV g2⟩,?_⟩⟩;refine bT (lJ K t us) (by have:=ha.length;obtain⟨one,other,nm,n',hh⟩:=kr;rw[<- this];cases hh<;>simp) (λi ys H'=>H'=H2/\ys=((as.take i).map (·.1)).map V.str) (λi ys H' ⟨e,e2⟩=>⟨by rw[e];exact QYV g2,by rw[e2,aZ,aZ,jD];exact min_le_left _ _⟩) ⟨rfl,rfl⟩ (λi v ys H' hv ⟨e,e2⟩=>?_) (λys H' ⟨e,e2⟩=>?_)
       ·subst e;obtain⟨hi,ev⟩:=Zgs.mp hv;obtain⟨FO,a',d',UK,ga,gd⟩:=Paired.get' (j:=i) ha hi;rw[ev]at UK;subst UK;refine⟨a',_,rfl,QYV ga,rfl,_,_,rfl,_,_,rfl,rfl,rfl,?_⟩;rw[xD (gZ FO),iB,iB,e2];rfl
       ·subst e;intro l BS;have e3:ys=(as.map (·.1)).map V.str:=by rw[e2,<- ha.length,List.take_length]
        refine⟨l,_,rfl,.inl (QYU aA),rfl,by rw[e3];exact nE _,?_⟩;have:=q (aI H' l (.lst ys)) ((s1.trans s2).trans (aF BS));show Q (.bl (gT (.str z) ys)) _;rw[e3,Bg]at *;exact this
      | _=>cases hny
    ·have e:(match r with|[y]=>oK y (as.map (·.1))|_=>false)=false:=by
      match r,h1 with
      | [],_=>rfl
      | [y],h1=>
       have M6:Yl y=false:=h1
       cases m:oK y (as.map (·.1)) with
       | false=>exact m
       | true=>
        have:=Qb (hs:=as.map (·.1)) (λz hz=>by obtain⟨q',kx,rfl⟩:=Zmm.mp hz;exact hd.nm q' kx) y m;rw[this]at M6;cases M6
      | _::_::_,_=>rfl
     rw[e]at q;exact q H1 s1
   ·rw[P7 (W8 h0)]at q;show if decide (u="ok")=true then _ else _
    refine aQ (λh1=>?_) (λh1=>?_)
    ·rw[TD (W9 h1)]at q;refine⟨_,QYV hp,_,Bp kr,?_⟩;show if decide (wd="pass")=true then _ else _
     have q':=q H (Same.refl _);refine aQ (λh2=>?_) (λh2=>?_)
     ·rw[h2,Bool.true_and]at q';refine⟨_,.inr (QYV h),?_⟩;have e:r.isEmpty=decide ((((V.str u::r).length:Nat):Int)=1):=by
       cases r with
       | nil=>rfl
       | cons y r=>symm;exact W6 (by rw[vR,vR];omega)
      rw[e]at q';exact q'
     ·rw[h2,Bool.false_and]at q';exact q'
    ·rw[P7 (W8 h1)]at q;refine⟨p,wd,n,xs,as,rfl,hp,hd,λd kvs H1 s1 g1 hb=>?_⟩;dsimp only [aK];have NM:=hb u;refine⟨kvs,g1,?_⟩;show if (bC kvs (Sum.inr u)).isSome=true then _ else _
     cases eb:(Jx wd n).lookup u with
     | none=>
      rw[eb]at NM q;have hv:bC kvs (Sum.inr u)=none:=NM;rw[hv];exact q H1 s1
     | some bs=>
      rw[eb]at NM q;obtain⟨t,zs,hv,gt,hba,hm⟩:=NM;rw[hv];refine⟨_,s1 _ _ h,λp2 H2 s2 g2=>⟨d,.ref t,rfl,?_,p2,t,r,zs,rfl,?_,?_,λy hy=>(CY y hy).same (s1.trans s2),s2 _ _ gt,hba.same s2,λH3 s3=>?_⟩⟩
      ·have:=DGet.k (k:=Sum.inr u) (s2 _ _ g1);rw[hv]at this;exact this
      ·have ec:dO (V.str u::r) (some 1) none=r:=lK _ 1;rw[ec]at g2;exact g2
      ·rw[vR]at hl;omega
      ·rw[hm];exact q H3 ((s1.trans s2).trans s3)
def bF:Sp:=λvs H Q _=>∃d b m,vs=[.ref d,.int m]/\Dk H d b/\0<m/\m<18446744073709551616/\∀r H',0<=r->r<m->Dk H' d b->Kp d b H H'->Q (.int r) H'
def Qc(T:Txt K mg)(D:DefAt K mg "_law_deck" iJ QZI):aG P w K mg base 1 "_law_deck" QZI (Iv K):=by
 refine D.go xB (λvs H Q E h=>?_) (λf cdv A outer s H vs Q E hr h=>?_)
 ·obtain⟨a,ns,rfl,_⟩:=h;rfl
 ·obtain⟨a,ns,rfl,hS,q⟩:=h;refine⟨_,(mj (ms (sw (kt (R.ee (R.jh (K:=K)) rfl T.b_list Be (kt (vf (ww (K:=K)) (kq 0) vg (ut lc)) lf)) (kt (ml sv lc (ml zc (su (R.jo (K:=K) rfl) rfl T.b_sum Wa (kt (vf (ww (K:=K)) (kq 0) vg (ut lc)) lf)) lc)) (kt lc lf)))))),?_⟩;have hc:dO (ns.map V.int) none (some 63)=(ns.take 63).map V.int:=by rw[uF];exact congrArg _ (pQ ns 63)
  refine⟨_,hS,λp1 ku=>⟨_,.inl (QYU aA),λb hb=>?_⟩⟩;have s2:Same H (aI (aI H p1 (.lst (dO (ns.map V.int) none (some 63)))) b (.lst (dO (ns.map V.int) none (some 63)))):=(aF ku).trans (aF hb);have g2:(aI (aI H p1 (.lst (dO (ns.map V.int) none (some 63)))) b (.lst (dO (ns.map V.int) none (some 63)))) b=some (.lst ((ns.take 63).map V.int)):=by rw[aA,hc]
  have hb0:H b=none:=(aF ku).free hb;show nX _ _ _ (aI (aI H p1 (.lst (dO (ns.map V.int) none (some 63)))) b (.lst (dO (ns.map V.int) none (some 63)))) _;generalize aI (aI H p1 (.lst (dO (ns.map V.int) none (some 63)))) b (.lst (dO (ns.map V.int) none (some 63)))=H2 at s2 g2;refine⟨_,s2.seq hS,λp2 m5=>⟨p2,ns.take 63,rfl,QYU (by rw[aA,hc]),by show(0:Int)<2147483629;decide,eK rfl,λd hd=>?_⟩⟩;have s4:Same H (aI H2 p2 (.lst (dO (ns.map V.int) none (some 63)))):=s2.trans (aF m5);have NN:b≠d:=aE ((aF m5) _ _ g2) hd;refine q d b _ (s4.free hd) hb0 ⟨ns.take 63,_,_,aA,?_,?_⟩ (s4.trans (aF hd))
  ·rw[aD NN];exact(aF m5) _ _ g2
  ·rw[jD];exact min_le_left _ _
def Kq(D:DefAt K mg "_law_draw" iK QZR) :
  aG P w K mg base 1 "_law_draw" QZR bF:=by
 refine D.go fJ (λvs H Q E h=>?_) (λf cdv A outer s H vs Q E hr h=>?_)
 ·obtain⟨d,b,m,rfl,_⟩:=h;rfl
 ·obtain⟨d,b,m,rfl,dk,hm,vq,q⟩:=h;have hu:=hr.units0;obtain⟨ns,s0,k0,h1,h2,h3⟩:=dk.ex;have QH:d≠b:=fW h1 h2 (by
   intro z;injection z with z
   cases ns with
   | nil=>cases z
   | cons z1 zs=>injection z with z _;cases z)
  refine⟨_,(lv (zd (ml sv (li (sj (K:=K)) (kq 0) lc) lc) (zn (kq 0) lc R.ji)) (lv (o0 (i:=2) fJ.nd (li (sj (K:=K)) (kq 0) lc)) (lv (re (nw (R.fk (K:=K) hu) (li (sj (K:=K)) (kq 0) lc) (sw lf)) (lv (o0 (i:=2) fJ.nd (xr (K:=K) PySem.F.plainAttrs_list PySem.F.slot_list_pop PySem.F.type_list_pop R.jp (li (sj (K:=K)) (kq 0) lc) (kt lc lf))) (mj (re (nw R.ge (kq 2) (ml xy lc lc)) (lv (xt (xr (K:=K) PySem.F.plainAttrs_list PySem.F.slot_list_insert PySem.F.type_list_insert R.iz (li (sj (K:=K)) (kq 0) lc) (kt lc (kt (ml R.gv (kq 2) (kq 1)) lf)))) (mj (ms (ml zc (kq 2) (kq 1))))) rp))) rp) (lv (o0 (i:=3) fJ.nd (ml zc (ml sv (ml sv (ml R.eg (ml zc (kq 2) lc) lc) (ml R.eg lc (li (sj (K:=K)) (kq 0) lc))) lc) lc)) (lv (o0 (i:=3) fJ.nd (ml zc (ml R.eg (kq 3) (kq 3)) lc)) (mj (ms (ml zc (ml R.gv (ml zc (ml R.eg (kq 3) (ml sv (kq 3) lc)) lc) lc) (kq 1))))))))),?_⟩;refine⟨_,QYU h1,_,rfl,d,_,2,2,rfl,rfl,h1,rfl,?_⟩;have g1:(aI H d (.lst [.ref b,.int s0,.int (k0+1)])) d=some (.lst [.ref b,.int s0,.int (k0+1)]):=aA;have g2:(aI H d (.lst [.ref b,.int s0,.int (k0+1)])) b=some (.lst (ns.map V.int)):=by rw[aD QH.symm];exact h2
  have UL:Kp d b H (aI H d (.lst [.ref b,.int s0,.int (k0+1)])):=λc o e n1 n2=>by rw[aD n1];exact e
  show yA _ _ _ _ (aI H d (.lst [.ref b,.int s0,.int (k0+1)]));generalize aI H d (.lst [.ref b,.int s0,.int (k0+1)])=H1 at g1 g2 UL;refine⟨_,QYU g1,_,rfl,?_⟩;dsimp only [aK];refine aAz (t:=Gb _ _ _) (λσ' H'=>∃c:Int,σ'=[some (.ref d),some (.int m),some (.int c),none]/\(∃NO:List Int,H' d=some (.lst [.ref b,.int s0,.int (k0+1)])/\H' b=some (.lst (NO.map V.int))/\NO.length<=63)/\Kp d b H H') (λnx d7=>?_) ?_
  ·refine⟨_,QYU g1,_,rfl,eK rfl,λp hp=>⟨b,p,_,rfl,rfl,QYU (by rw[aD (aE g2 hp)];exact g2),QYU aA,?_⟩⟩;have e1:(aI H1 p (.lst [])) d=some (.lst [.ref b,.int s0,.int (k0+1)]):=by rw[aD (aE g1 hp)];exact g1
   have e2:(aI H1 p (.lst [])) b=some (.lst (ns.map V.int)):=by rw[aD (aE g2 hp)];exact g2
   have QI:Kp d b H (aI H1 p (.lst [])):=UL.trans (.new hp);generalize aI H1 p (.lst [])=H2 at e1 e2 QI;cases ns with
   | nil=>
    exact d7 _ _ ⟨_,rfl,⟨[],e1,e2,h3⟩,QI⟩
   | cons z ns=>
    have hl:ns.length+1<=63:=by simpa using h3
    refine⟨_,QYU e1,_,rfl,.inl ⟨rfl,_,QYU e2⟩,b,_,0,0,.int z,rfl,rfl,e2,Zd,Zd,by simp[seqIndex?],rfl,?_⟩;have f1:(aI H2 b (.lst ((List.map V.int (z::ns)).eraseIdx 0))) d=some (.lst [.ref b,.int s0,.int (k0+1)]):=by rw[aD QH];exact e1
    have f2:(aI H2 b (.lst ((List.map V.int (z::ns)).eraseIdx 0))) b=some (.lst (ns.map V.int)):=by rw[aA];rfl
    have QJ:Kp d b H (aI H2 b (.lst ((List.map V.int (z::ns)).eraseIdx 0))):=λc o e n1 n2=>by rw[aD n2];exact QI c o e n1 n2
    dsimp only [aK];generalize aI H2 b (.lst ((List.map V.int (z::ns)).eraseIdx 0))=H3 at f1 f2 QJ;refine⟨⟨Zd,Zd,Zd⟩,?_⟩;refine aQ (λ_=>?_) (λ_=>?_)
    ·refine⟨_,QYU f1,_,rfl,.inl ⟨rfl,_,QYU f2⟩,⟨hm,vq⟩,b,_,0,_,rfl,rfl,f2,zero_le _,oZ (m:=63) (by rw[aZ];omega) Zd,hm,?_⟩;refine q _ _ (Int.emod_nonneg _ Zo) (Int.emod_lt_of_pos _ hm) ⟨z/m::ns,s0,k0+1,by rw[aD QH];exact f1,by rw[aA];rfl,by simpa using hl⟩ λc o e n1 n2=>by rw[aD n2];exact QJ c o e n1 n2
    ·exact d7 _ _ ⟨_,rfl,⟨ns,f1,f2,Zo⟩,QJ⟩
  ·rintro σ' H' ⟨c,rfl,⟨NO,f1,f2,f3⟩,kp⟩;refine⟨by show(0:Int)<_;decide,.inr ⟨Zd,Zd⟩,_,QYU f1,_,rfl,.inl ⟨Zd,Zd⟩,by show(0:Int)<_;decide,?_⟩;generalize hx:(c%2147483629*16807+69621*(k0+1)+7919)%2147483629=x;have NH:0<=x:=by omega
   have IA:x<2147483629:=by omega
   dsimp only [aK];refine⟨.inl ⟨Zo,Zo⟩,by show(0:Int)<_;decide,?_⟩;generalize hy:x*x%2147483587=y;have hy0:0<=y:=by omega
   have hy1:y<2147483587:=by omega
   dsimp only [aK];refine⟨.inl ⟨Zo,Zo⟩,by show(0:Int)<_;decide,⟨Zd,Zd⟩,hm,?_⟩;exact q _ _ (Int.emod_nonneg _ Zo) (Int.emod_lt_of_pos _ hm) ⟨NO,s0,k0+1,f1,f2,f3⟩ kp
def Xl{r:Int}(h0:0<=r)(h1:r<4):r=0∨r=1∨r=2∨r=3:=by omega
def six{r:Int}(h0:0<=r)(h1:r<6):r=0∨r=1∨r=2∨r=3∨r=4∨r=5:=by omega
def Xm(T:Txt K mg)(b9:aG P w K mg base 1 "_law_draw" QZR bF)(D:DefAt K mg "_law_end" kG QZR) :
  aG P w K mg base 2 "_law_end" QZR bF:=by
 refine D.go zL (λvs H Q E h=>?_) (λf cdv A outer s H vs Q E hr h=>?_)
 ·obtain⟨d,b,m,rfl,_⟩:=h;rfl
 ·obtain⟨d,b,m,rfl,dk,hm,vq,q⟩:=h;have c6:=hr;refine⟨_,(mj (ms (li (sj (K:=K)) (sw (kt lc (kt (ml xq (kq 1) lc) (kt (mk b9 c6 rfl (kt (kq 0) (kt (kq 1) lf))) (kt (mk b9 c6 rfl (kt (kq 0) (kt (kq 1) lf))) lf))))) (mk b9 c6 rfl (kt (kq 0) (kt lc lf)))))),?_⟩;refine⟨d,b,m,rfl,dk,hm,vq,λr1 H1 a0 a1 D1 k1=>⟨d,b,m,rfl,D1,hm,vq,λr2 H2 b0 b1 D2 k2=>⟨eK rfl,λp hp=>⟨d,b,4,rfl,D2.new hp,Zd,Zd,λr3 H3 c0 c1 D3 k3=>?_⟩⟩⟩⟩;have J7:=D2.ne hp;have gp:=k3 p _ aA J7.1 J7.2;have kk:=((k1.trans k2).trans (.new hp)).trans k3;rcases Xl c0 c1 with rfl|rfl|rfl|rfl
  ·exact⟨_,QYU gp,_,rfl,q _ _ Zo Zo D3 kk⟩
  ·exact⟨_,QYU gp,_,rfl,q _ _ Zo Zo D3 kk⟩
  ·exact⟨_,QYU gp,_,rfl,q _ _ a0 a1 D3 kk⟩
  ·exact⟨_,QYU gp,_,rfl,q _ _ b0 b1 D3 kk⟩
structure WordsOf(L:List Nat)(g:Nat)(ws:List Str):Prop where
 nd:ws.Nodup
 of:∀z∈ws,1<=z.length/\z.length<=g/\∀c∈z.cps.toList,c∈L
def sU:Sp:=λvs H Q _=>∃(d b:UF)(L:List Nat)(g m:Nat),vs=[.ref d,.str (tx L),.int (g:Int),.int (m:Int)]/\Dk H d b/\1<=m/\m<=g/\g<=12/\L.Nodup/\m<=L.length/\L.length<=40 ∧
 ∀(l:UF)(ws:List Str)(H':Hp),WordsOf L g ws->ws.length=m->H' l=some (.lst (ws.map V.str))->l≠d->l≠b->Dk H' d b->Kp d b H H'->Q (.ref l) H'
def Kr{α:Type}(xs:List α){i j:Nat}(hi:i<=xs.length)(hj:j<=xs.length):dO xs (some (i:Int)) (some (j:Int))=(xs.drop i).take (j-i):=by
 unfold dO;rw[HT.sIx_nat,HT.sIx_nat,min_eq_left hi,min_eq_left hj]
def qD(L ts:List Nat)(a sz f k:Nat):List Nat:=ts.take a++[L.getD ((f+k)%L.length) 0]++(ts.drop (a+1)).take (sz-(a+1))
def Qd{L:List Nat}(hn:L.Nodup){i j:Nat}(hi:i<L.length)(hj:j<L.length)(h:L.getD i 0=L.getD j 0):i=j:=by
 rw[getD_eq_getElem?_getD,getD_eq_getElem?_getD,gZ hi,gZ hj]at h;have h':L[i]=L[j]:=h;have p:=pairwise_iff_getElem.mp hn;rcases Nat.lt_trichotomy i j with z|z|z
 ·exact QZZ h' (p i j hi hj z)
 ·exact z
 ·exact QZZ h'.symm (p j i hj hi z)
def Qe{f k k' n:Nat}(hk:k<n)(nz:k'<n)(h:(f+k)%n=(f+k')%n):k=k':=by
 have h1:=Nat.mod_add_div (f+k) n;have h2:=Nat.mod_add_div (f+k') n;rw[h]at h1;generalize (f+k)/n=u at h1;generalize (f+k')/n=v at h2;rcases Nat.lt_trichotomy u v with z|z|z
 ·have:n*(u+1)<=n*v:=Nat.mul_le_mul_left n z;rw[Nat.mul_add,Nat.mul_one]at this;omega
 ·subst z;omega
 ·have:n*(v+1)<=n*u:=Nat.mul_le_mul_left n z;rw[Nat.mul_add,Nat.mul_one]at this;omega
def Ks{L ts:List Nat}(hn:L.Nodup){a sz f k k':Nat}(h:qD L ts a sz f k=qD L ts a sz f k')(hk:k<L.length)(nz:k'<L.length):k=k':=by
 unfold qD at h;have h1:=List.append_inj_left' h rfl;have h2:=List.append_inj_right' h1 rfl;have h3:L.getD ((f+k)%L.length) 0=L.getD ((f+k')%L.length) 0:=by injection h2
 exact Qe hk nz (Qd hn (mod_lt _ Zo) (mod_lt _ Zo) h3)
def aAT{L:List Nat}{i:Nat}(h:i<L.length):L.getD i 0∈L/\L[i]?=some (L.getD i 0):=by
 have e:L[i]?=some (L[i]):=gZ h;have e2:L.getD i 0=L[i]:=by rw[getD_eq_getElem?_getD,e];rfl
 exact⟨e2▸getElem_mem _,e2▸e⟩
def Qg{L ts:List Nat}{g a sz f k:Nat}(h0:0<L.length)(hl:ts.length=g)(ht:∀c∈ts,c∈L)(ha:a<sz)(hs:sz<=g):1<=(qD L ts a sz f k).length/\(qD L ts a sz f k).length<=g/\∀c∈qD L ts a sz f k,c∈L:=by
 have e:(qD L ts a sz f k).length=sz:=by
  unfold qD;simp[hl];omega
 refine⟨Zo,Zo,λc hc=>?_⟩;unfold qD at hc;rcases Zma.mp hc with hc|hc
 ·rcases Zma.mp hc with hc|hc
  ·exact ht c (mem_of_mem_take hc)
  ·rw[Zms.mp hc];exact(aAT (mod_lt _ h0)).1
 ·exact ht c (List.mem_of_mem_drop (mem_of_mem_take hc))
def lC{n i:Nat}{x:V}(h:(jM 0 n)[i]?=some x):x=.int (i:Int)/\i<n:=by
 unfold jM at h;rw[jC]at h;cases hh:(List.range n)[i]? with
 | none=>rw[hh]at h;cases h
 | some y=>
  rw[hh]at h;obtain⟨h1,h2⟩:=Zgs.mp hh;rw[List.getElem_range]at h2;cases h;rw[<- h2];exact⟨Zs,by simpa using h1⟩
def eJ(n:Nat):(jM 0 n).length=n:=by simp[jM]
def xE{L:List Nat}{g m:Nat}{F:Nat->List Nat}(hi:∀k k',k<m->k'<m->F k=F k'->k=k')(ho:∀k,k<m->1<=(F k).length/\(F k).length<=g/\∀c∈F k,c∈L):WordsOf L g ((List.range m).map λk=>tx (F k)):=by
 refine⟨?_,λz hz=>?_⟩
 ·show List.Pairwise (·≠·) _;rw[List.pairwise_map];refine List.Pairwise.imp_of_mem (λ{x y} hx hy C7 exy=>C7 ?_) List.nodup_range;exact hi _ _ (mem_range.mp hx) (mem_range.mp hy) (by simpa using congrArg (λz:Str=>z.cps.toList) exy)
 ·obtain⟨k,hk,rfl⟩:=Zmm.mp hz;have:=ho k (mem_range.mp hk);exact⟨by rw[fY];exact this.1,by rw[fY];exact this.2.1,λc hc=>this.2.2 c (by simpa using hc)⟩
def Ev(T:Txt K mg)(b9:aG P w K mg base 1 "_law_draw" QZR bF)(D:DefAt K mg "_law_unlike" cT QZi) :
  aG P w K mg base 2 "_law_unlike" QZi sU:=by
 refine D.go cY (λvs H Q E h=>?_) (λf cdv A outer s H vs Q E hr h=>?_)
 ·obtain⟨d,b,L,g,m,rfl,_⟩:=h;rfl
 ·obtain⟨d,b,L,g,m,rfl,dk,vp,DX,hg,KY,hmL,an',q⟩:=h;have c6:=hr;have lL:(tx L).length=L.length:=fY L;have KZ:(tx L).length<=sizeLine:=fA Zo;have cL:(tx L).cps.toList=L:=by simp
  refine⟨_,(lv (o0 (i:=4) cY.nd (xr (K:=K) PySem.F.plainAttrs_str PySem.F.slot_str_join PySem.F.type_str_join (R.jq (K:=K)) mh (kt (vm rfl (js:=[none,some 0,some 1]) (N:=QYX) (CompScope.by (aB cT) QZj rfl rfl Zk) (aP rfl) (PP rfl T.b_range (kt (kq 2) lf)) (λC s₂ H₂ fp=>⟨(sx (i:=0) (show(QYX:List Str).Nodup by decide +kernel)),FS,(li R.iS (kq 2) (mk b9 c6 rfl (kt (kq 1) (kt (su R.ft rfl T.b_len aO (kt (kq 2) lf)) lf))))⟩)) lf))) (lv (re (nw rq (mk b9 c6 rfl (kt (kq 0) (kt lc lf))) lc) (mj (ms (vm rfl (js:=[none,some 4]) (N:=["_law_k","_law_word"]) (CompScope.by (aB cT) QZj rfl rfl Zk) (aP rfl) (PP rfl T.b_range (kt (kq 3) lf)) (λC s₂ H₂ fp=>⟨(sx (i:=0) (show(["_law_k","_law_word"]:List Str).Nodup by decide +kernel)),FS,(vf R.sS (kq 1) vg (ut (ml sv (kq 0) lc)))⟩)))) rp) (lv (o0 (i:=5) cY.nd (ml sv lc (mk b9 c6 rfl (kt (kq 0) (kt (kq 2) lf))))) (lv (o0 (i:=6) cY.nd (mk b9 c6 rfl (kt (kq 0) (kt (kq 5) lf)))) (lv (o0 (i:=7) cY.nd (mk b9 c6 rfl (kt (kq 0) (kt (su R.ft rfl T.b_len aO (kt (kq 1) lf)) lf)))) (lv (o0 (i:=8) cY.nd (R.ib (kt (vf R.sS (kq 4) vg (ut (kq 6))) (kt (vf R.sS (kq 4) (ut (ml sv (kq 6) lc)) (ut (kq 5))) lf)))) (mj (ms (vm rfl (js:=[none,some 1,some 7,some 8]) (N:=QYW) (CompScope.by (aB cT) QZj rfl rfl Zk) (aP rfl) (PP rfl T.b_range (kt (kq 3) lf)) (λC s₂ H₂ fp=>⟨(sx (i:=0) (show(QYW:List Str).Nodup by decide +kernel)),FS,(ml R.ic (ml R.ic (li (mi (K:=K)) (kq 3) lc) (li R.iS (kq 1) (ml zc (ml sv (kq 2) (kq 0)) (su R.ft rfl T.b_len aO (kt (kq 1) lf))))) (li (mi (K:=K)) (kq 3) lc))⟩)))))))))),?_⟩;refine aAz (t:=Ge _ _) (λσ' H'=>∃ts:List Nat,σ'=[some (.ref d),some (.str (tx L)),some (.int (g:Int)),some (.int m),some (.str (tx ts)),none,none,none,none]/\ts.length=g/\(∀c∈ts,c∈L)/\Dk H' d b/\Kp d b H H') (λnx d7=>?_) ?_
  ·refine⟨rfl,g,rfl,Zo,Zo,?_⟩;refine bT (dZ 0 (g:Int).toNat) (by rw[eJ];omega) (λi ys H'=>Dk H' d b/\Kp d b H H'/\∃ts:List Nat,ys=ts.map (λc=>V.str (tx [c]))/\ts.length=i/\∀c∈ts,c∈L) (λi ys H' ⟨_,_,ts,e,e2,_⟩=>⟨trivial,by rw[e,aZ,e2];exact bQ _⟩) ⟨dk,.refl,[],rfl,rfl,(λ_ h=>nomatch h)⟩ (λi x ys H' hx ⟨Di,QK,ts,e,e2,e3⟩=>?_) (λys H' ⟨Di,QK,ts,e,e2,e3⟩=>?_)
   ·refine⟨KZ,d,b,_,rfl,Di,Zo,Zo,λr2 P9 r20 r21 Dj kpj=>⟨KZ,?_⟩⟩;obtain⟨c,hc,hm⟩:=Iw (xs:=(tx L).cps.toList) r20 (by rw[cL];omega);rw[cL]at hm;refine⟨c,hc,Dj,QK.trans kpj,ts++[c],by rw[e,iB];rfl,by rw[kM,e2];rfl,λc' CH=>?_⟩;rcases Zma.mp CH with h|h
    ·exact e3 c' h
    ·rw[Zms.mp h];exact hm
   ·intro p hp;have IE:ts.length=g:=by rw[e2,eJ];omega
    refine⟨_,p,ts.map (λc=>tx [c]),rfl,rfl,QYU (by rw[aA,e,map_map];rfl),?_,?_⟩
    ·rw[wG,aZ,Iy,fY];simp;omega
    ·refine d7 _ _ ⟨ts,?_,IE,e3,Di.new hp,QK.trans (.new hp)⟩;rw[Iy,yU];rfl
  ·rintro σ' H1 ⟨ts,rfl,IE,LA,D1,k1⟩;have NJ:(tx ts).cps.toList=ts:=by simp
   have em:((m:Int)).toNat=m:=by omega
   refine⟨d,b,3,rfl,D1,Zd,Zd,λr H2 r0 r1 D2 k2=>?_⟩;refine aQ (λ_=>?_) (λ_=>?_)
   ·refine⟨m,rfl,Zo,Zo,?_⟩;refine bT (dZ 0 (m:Int).toNat) (by rw[eJ];omega) (λi ys H'=>ys=((List.range i).map λk=>tx (ts.take (k+1))).map V.str/\H'=H2) (λi ys H' ⟨e,_⟩=>⟨trivial,by rw[e];simp⟩) ⟨rfl,rfl⟩ (λi x ys H' hx ⟨e,e2⟩=>?_) (λys H' ⟨e,e2⟩=>?_)
    ·subst e2;obtain⟨rfl,hi⟩:=lC hx;refine⟨fA (by rw[fY];omega),?_,rfl⟩;rw[NJ,show((i:Nat):Int)+1=((i+1:Nat):Int) by omega,pQ,e,List.range_succ,iB,iB];rfl
    ·subst e2;intro p hp;rw[eJ,em]at e;have hd:=D2.ne hp;refine q p ((List.range m).map λk=>tx (ts.take (k+1))) _ (xE (λk k' hk nz e=>?_) (λk hk=>?_)) Zs (by rw[aA,e]) hd.1 hd.2 (D2.new hp) ((k1.trans k2).trans (.new hp))
     ·have:=congrArg length e;rw[jD,jD,IE]at this;omega
     ·exact⟨by rw[jD,IE];omega,by rw[jD,IE];omega,λc hc=>LA c (mem_of_mem_take hc)⟩
   ·refine⟨d,b,g,rfl,D2,Zo,Zo,λr5 H3 s0 s1 D3 k3=>?_⟩;dsimp only [aK];refine⟨d,b,1+r5,rfl,D3,Zo,Zo,λra H4 a0 a1 D4 k4=>?_⟩;dsimp only [aK];refine⟨KZ,d,b,_,rfl,D4,Zo,Zo,λrf H5 f0 f1 D5 k5=>?_⟩;rw[lL]at f1;dsimp only [aK];obtain⟨a,rfl⟩:∃a:Nat,ra=a:=⟨ra.toNat,Zo⟩;obtain⟨z5,rfl⟩:∃z:Nat,r5=z:=⟨r5.toNat,Zo⟩;obtain⟨fz,rfl⟩:∃z:Nat,rf=z:=⟨rf.toNat,Zo⟩;refine⟨fA (by rw[fY];omega),fA (by rw[fY];omega),eK rfl,λtp KN=>?_⟩;have g5:(aI H5 tp (.tup [.str (tx (dO (tx ts).cps.toList none (some (a:Int)))),.str (tx (dO (tx ts).cps.toList (some ((a:Int)+1)) (some (1+(z5:Int)))))])) tp=some (.tup [.str (tx (ts.take a)),.str (tx ((ts.drop (a+1)).take (z5+1-(a+1))))]):=by
     rw[aA,NJ,pQ,show(a:Int)+1=((a+1:Nat):Int) by omega,show 1+(z5:Int)=((z5+1:Nat):Int) by omega,Kr ts Zo Zo]
    have k6:Kp d b H (aI H5 tp (.tup [.str (tx (dO (tx ts).cps.toList none (some (a:Int)))),.str (tx (dO (tx ts).cps.toList (some ((a:Int)+1)) (some (1+(z5:Int)))))])):=((((k1.trans k2).trans k3).trans k4).trans k5).trans (.new KN);have D6:=D5.new (o:=.tup [.str (tx (dO (tx ts).cps.toList none (some (a:Int)))),.str (tx (dO (tx ts).cps.toList (some ((a:Int)+1)) (some (1+(z5:Int)))))]) KN;dsimp only [aK];generalize aI H5 tp (.tup [.str (tx (dO (tx ts).cps.toList none (some (a:Int)))),.str (tx (dO (tx ts).cps.toList (some ((a:Int)+1)) (some (1+(z5:Int)))))])=H6 at g5 k6 D6;refine⟨m,rfl,Zo,Zo,?_⟩;refine bT (dZ 0 (m:Int).toNat) (by rw[eJ];omega) (λi ys H'=>ys=((List.range i).map λk=>tx (qD L ts a (z5+1) fz k)).map V.str/\H'=H6) (λi ys H' ⟨e,_⟩=>⟨trivial,by rw[e];simp⟩) ⟨rfl,rfl⟩ (λi x ys H' hx ⟨e,e2⟩=>?_) (λys H' ⟨e,e2⟩=>?_)
    ·subst e2;obtain⟨rfl,hi⟩:=lC hx;have h0:0<L.length:=by omega
     have hL:=aAT (L:=L) (mod_lt (fz+i) h0);have t1:(tx (ts.take a)).length<=12:=by rw[fY,jD];omega
     have t2:(tx ((ts.drop (a+1)).take (z5+1-(a+1)))).length<=12:=by rw[fY,jD,length_drop];omega
     refine⟨_,QYV g5,_,rfl,KZ,by rw[lL];omega,KZ,L.getD ((fz+i)%L.length) 0,?_,fA (by have:=fY [L.getD ((fz+i)%L.length) 0];simp only [vR,length_nil]at this;omega),_,QYV g5,_,rfl,fA ?_,?_,rfl⟩
     ·rw[lL,cL,show((fz:Int)+(i:Int))%(L.length:Int)=(((fz+i)%L.length:Nat):Int) by rw[Int.natCast_emod,Int.natCast_add]];exact bJ hL.2
     ·rw[uA,fY,kM,jD];simp only [vR,length_nil];omega
     ·rw[e,List.range_succ,iB,iB,uA,uA];rfl
    ·subst e2;intro p hp;rw[eJ,em]at e;have hd:=D6.ne hp;refine q p ((List.range m).map λk=>tx (qD L ts a (z5+1) fz k)) _ (xE (λk k' hk nz e=>?_) (λk hk=>?_)) Zs (by rw[aA,e]) hd.1 hd.2 (D6.new hp) (k6.trans (.new hp))
     ·exact Ks KY e Zo Zo
     ·exact Qg Zo IE LA Zo Zo
def aL{n:Nat}(h:Nat.ble n 1000=true):n<=1000:=QZY h
structure Fw(d b:UF)(H H':Hp):Prop where
 d0:Dk H d b
 dk:Dk H' d b
 kp:Kp d b H H'
def Kp.same'{d b:UF}{H H':Hp}(s:Same H H'):Kp d b H H':=λc o e _ _=>s c o e
def Fw.refl{d b:UF}{H:Hp}(D:Dk H d b):Fw d b H H:=⟨D,D,.refl⟩
def Fw.same{d b:UF}{H H1 H2:Hp}(f:Fw d b H H1)(s:Same H1 H2):Fw d b H H2:=⟨f.d0,f.dk.same s,f.kp.trans (Kp.same' s)⟩
def Fw.new{d b p:UF}{H H1:Hp}{o:HO}(f:Fw d b H H1)(h:H1 p=none):Fw d b H (aI H1 p o):=⟨f.d0,f.dk.new h,f.kp.trans (.new h)⟩
def Fw.draw{d b:UF}{H H1 H2:Hp}(f:Fw d b H H1)(D:Dk H2 d b)(k:Kp d b H1 H2):Fw d b H H2:=⟨f.d0,D,f.kp.trans k⟩
def Fw.trans{d b:UF}{H H1 H2:Hp}(f:Fw d b H H1)(g:Fw d b H1 H2):Fw d b H H2:=⟨f.d0,g.dk,f.kp.trans g.kp⟩
def Fw.tk{d b:UF}{H H':Hp}(f:Fw d b H H'):TK H H':=Kp.tk f.d0 f.kp
def Fw.tup{d b a:UF}{H H':Hp}{xs:List V}(f:Fw d b H H')(g:H a=some (.tup xs)):H' a=some (.tup xs):=f.tk _ _ g
def Fw.get{d b a:UF}{H H':Hp}{o:HO}(f:Fw d b H H')(g:H a=some o)(n1:a≠d)(n2:a≠b):H' a=some o:=f.kp _ _ g n1 n2
def fK{ws:List Str}{r:Int}(h0:0<=r)(h1:r<ws.length):∃(i:Nat)(hi:i<ws.length),r=i/\mW (ws.map V.str) r=some (.str ws[i]):=by
 obtain⟨j,rfl⟩:=Int.eq_ofNat_of_zero_le h0;have hj:j<ws.length:=by omega
 exact⟨j,hj,rfl,bJ (by rw[jC,gZ hj];rfl)⟩
def Bq{n i r:Nat}(hi:i<n)(hr:r+1<n):(i+1+r)%n<n/\(i+1+r)%n≠i:=by
 refine⟨mod_lt _ Zo,λe=>?_⟩;by_cases h:i+1+r<n
 ·rw[Nat.mod_eq_of_lt h]at e;omega
 ·rw[Nat.mod_eq_sub_mod Zo,Nat.mod_eq_of_lt Zo]at e;omega
def Tb{ws:List Str}(h:ws.Nodup){i j:Nat}(hi:i<ws.length)(hj:j<ws.length)(hn:i≠j):ws[i]≠ws[j]:=by
 have p:=pairwise_iff_getElem.mp h;rcases Nat.lt_or_gt_of_ne hn with z|z
 ·exact p i j hi hj z
 ·exact λe=>p j i hj hi z e.symm
structure Menu(ws:List Str):Prop where
 of:WordsOf LET 8 ws
 two:2<=ws.length
 six:ws.length<=6
def Menu.nm{ws:List Str}(h:Menu ws){i:Nat}(hi:i<ws.length):fE ws[i]:=h.of.of _ (getElem_mem hi)
def iX:Sp:=λvs H Q _=>∃(d b la lb:UF)(ws us:List Str),vs=[.ref d,.ref la,.ref lb]/\Dk H d b/\H la=some (.lst (ws.map V.str))/\H lb=some (.lst (us.map V.str))/\(la≠d/\la≠b/\lb≠d/\lb≠b)/\Menu ws/\Menu us ∧
 ∀(t:UF)(x:Dd)(H':Hp),x.Ok->H' t=some (.tup x.vs)->Fw d b H H'->Q (.ref t) H'
def Qh(T:Txt K mg)(b9:aG P w K mg base 1 "_law_draw" QZR bF)(J2:aG P w K mg base 2 "_law_end" QZR bF)(D:DefAt K mg "_law_deed" iM QZH):aG P w K mg base 3 "_law_deed" QZH iX:=by
 refine D.go bV (λvs H Q E h=>?_) (λf cdv A outer s H vs Q E hr h=>?_)
 ·obtain⟨d,b,la,lb,ws,us,rfl,_⟩:=h;rfl
 ·obtain⟨d,b,la,lb,ws,us,rfl,dk,ga,gb,⟨n1,n2,n3,n4⟩,mw,mu,q⟩:=h;have c6:Room 1 _:=hr.mono Zd;have J3:Room 2 _:=hr.mono Zd;have w2:=mw.two;have w6:=mw.six;have u2:=mu.two;have u6:=mu.six;refine⟨_,(lv (o0 (i:=3) bV.nd (li (sj (K:=K)) (sw (kt (ml sv lc (mk b9 c6 rfl (kt (kq 0) (kt lc lf)))) (kt (ml sv lc (mk J2 J3 rfl (kt (kq 0) (kt (ml xy lc lc) lf)))) lf))) (mk b9 c6 rfl (kt (kq 0) (kt lc lf))))) (lv (o0 (i:=4) bV.nd (mk b9 c6 rfl (kt (kq 0) (kt (su (sy (K:=K)) rfl T.b_len aO (kt (kq 1) lf)) lf)))) (lv (o0 (i:=5) bV.nd (li (sj (K:=K)) (kq 1) (kq 4))) (lv (o0 (i:=6) bV.nd (li (sj (K:=K)) (kq 1) (ml zc (ml sv (ml sv (kq 4) lc) (mk b9 c6 rfl (kt (kq 0) (kt (ml xq (su (sy (K:=K)) rfl T.b_len aO (kt (kq 1) lf)) lc) lf)))) (su (sy (K:=K)) rfl T.b_len aO (kt (kq 1) lf))))) (lv (o0 (i:=7) bV.nd (mk b9 c6 rfl (kt (kq 0) (kt (su (sy (K:=K)) rfl T.b_len aO (kt (kq 2) lf)) lf)))) (lv (o0 (i:=8) bV.nd (li (sj (K:=K)) (kq 2) (kq 7))) (lv (o0 (i:=9) bV.nd (li (sj (K:=K)) (kq 2) (ml zc (ml sv (ml sv (kq 7) lc) (mk b9 c6 rfl (kt (kq 0) (kt (ml xq (su (sy (K:=K)) rfl T.b_len aO (kt (kq 2) lf)) lc) lf)))) (su (sy (K:=K)) rfl T.b_len aO (kt (kq 2) lf))))) (lv (o0 (i:=10) bV.nd (sw (kt (pi (kt mh (kt (kq 5) (kt (kq 3) lf)))) (kt (pi (kt mh (kt (kq 5) (kt (kq 3) lf)))) (kt (pi (kt mh (kt (kq 5) (kt (kq 6) (kt (kq 3) lf))))) lf))))) (lv (o0 (i:=10) bV.nd (ml vj (kq 10) (sw (kt (pi (kt mh (kt (kq 8) (kt (kq 5) (kt (kq 3) lf))))) (kt (pi (kt mh (kt (kq 8) (kt (kq 5) (kt (kq 3) lf))))) (kt (pi (kt mh (kt (kq 8) (kt (kq 9) (kt (kq 5) (kt (kq 3) lf)))))) lf)))))) (mj (ms (li (sj (K:=K)) (kq 10) (mk b9 c6 rfl (kt (kq 0) (kt lc lf))))))))))))))),?_⟩;refine bK (λσ' H'=>∃n:Nat,σ'=[some (.ref d),some (.ref la),some (.ref lb),some (.int (n:Int)),none,none,none,none,none,none,none]/\1<=n/\n<=1000000000000/\Fw d b H H') (λnx d7=>?_) ?_
  ·refine⟨d,b,9,rfl,dk,Zd,Zd,λr1 H1 a0 a1 D1 k1=>⟨⟨Zd,Zd,Zd⟩,d,b,_,rfl,D1,Zd,Zd,λr2 H2 b0 b1 D2 k2=>⟨eK rfl,λp hp=>⟨d,b,2,rfl,D2.new hp,Zd,Zd,λr3 H3 c0 c1 D3 k3=>?_⟩⟩⟩⟩;have J7:=D2.ne hp;have gp:=k3 p _ aA J7.1 J7.2;have ff:=((((Fw.refl dk).draw D1 k1).draw D2 k2).new hp).draw D3 k3;have b1':r2<1000000000000:=b1;rcases(by omega:r3=0∨r3=1) with rfl|rfl
   ·refine⟨_,QYU gp,_,rfl,d7 _ _ ⟨(1+r1).toNat,?_,Zo,Zo,ff⟩⟩;rw[Int.toNat_of_nonneg Zo];rfl
   ·refine⟨_,QYU gp,_,rfl,d7 _ _ ⟨(1+r2).toNat,?_,Zo,Zo,ff⟩⟩;rw[Int.toNat_of_nonneg Zo];rfl
  ·rintro σ' H1 ⟨n,rfl,BY,ng,f1⟩;have ga1:=f1.get ga n1 n2;have gb1:=f1.get gb n3 n4;refine⟨_,.inl (QYU ga1),d,b,_,rfl,f1.dk,by rw[aZ];omega,by rw[aZ];omega,λr2 H2 b0 b1 D2 k2=>?_⟩;rw[aZ]at b1;have f2:=f1.draw D2 k2;have UM:=f2.get ga n1 n2;obtain⟨i,hi,rfl,ei⟩:=fK b0 b1;dsimp only [aK];refine⟨_,QYU UM,_,ei,?_⟩;dsimp only [aK];refine⟨_,.inl (QYU UM),d,b,_,rfl,f2.dk,by rw[aZ];omega,by rw[aZ];omega,λr3 H3 c0 c1 D3 k3=>?_⟩;rw[aZ]at c1;have f3:=f2.draw D3 k3;have UN:=f3.get ga n1 n2;obtain⟨r3,rfl⟩:∃z:Nat,r3=z:=⟨r3.toNat,Zo⟩;obtain⟨hj,FP⟩:=Bq (r:=r3) hi Zo;have ej:((i:Int)+1+(r3:Int))%((ws.map V.str).length:Int)=(((i+1+r3)%ws.length:Nat):Int):=by
    rw[aZ,Int.natCast_emod];rfl
   refine⟨_,.inl (QYU UN),by rw[aZ];omega,_,QYU UN,V.str ws[(i+1+r3)%ws.length],?_,?_⟩
   ·rw[ej];exact bJ (by rw[jC,gZ hj];rfl)
   have C7:=Tb mw.of.nd hi hj (λe=>FP e.symm);have FQ:=mw.nm hi;have UO:=mw.nm hj;generalize ws[(i+1+r3)%ws.length]=zb at C7 UO;generalize ws[i]=za at C7 FQ;dsimp only [aK];have gb3:=f3.get gb n3 n4;refine⟨_,.inl (QYU gb3),d,b,_,rfl,f3.dk,by rw[aZ];omega,by rw[aZ];omega,λr4 H4 d0 d1 D4 k4=>?_⟩;rw[aZ]at d1;have f4:=f3.draw D4 k4;have UP:=f4.get gb n3 n4;obtain⟨u,QL,rfl,eu⟩:=fK d0 d1;dsimp only [aK];refine⟨_,QYU UP,_,eu,?_⟩;dsimp only [aK];refine⟨_,.inl (QYU UP),d,b,_,rfl,f4.dk,by rw[aZ];omega,by rw[aZ];omega,λr5 H5 e0 e1 D5 k5=>?_⟩;rw[aZ]at e1;have f5:=f4.draw D5 k5;have UQ:=f5.get gb n3 n4;obtain⟨r5,rfl⟩:∃z:Nat,r5=z:=⟨r5.toNat,Zo⟩;obtain⟨hv,hvu⟩:=Bq (r:=r5) QL Zo;have ev:((u:Int)+1+(r5:Int))%((us.map V.str).length:Int)=(((u+1+r5)%us.length:Nat):Int):=by
    rw[aZ,Int.natCast_emod];rfl
   refine⟨_,.inl (QYU UQ),by rw[aZ];omega,_,QYU UQ,V.str us[(u+1+r5)%us.length],?_,?_⟩
   ·rw[ev];exact bJ (by rw[jC,gZ hv];rfl)
   have FR:=Tb mu.of.nd QL hv (λe=>hvu e.symm);have NP:=mu.nm QL;have UR:=mu.nm hv;generalize us[(u+1+r5)%us.length]=zv at FR UR;generalize us[u]=zu at FR NP;dsimp only [aK];refine⟨aL rfl,λt1 H6 s6 g6=>⟨aL rfl,λt2 H7 s7 g7=>⟨aL rfl,λt3 H8 s8 g8=>⟨eK rfl,λp hp=>?_⟩⟩⟩⟩;have s58:Same H5 H8:=(s6.trans s7).trans s8;have f8:=f5.same s58;have h1:=s8 _ _ (s7 _ _ g6);have h2:=s8 _ _ g7;have gp:(aI H8 p (.lst [.ref t1,.ref t2,.ref t3])) p=some (.lst [.ref t1,.ref t2,.ref t3]):=aA;have sp:=aF (o:=.lst [.ref t1,.ref t2,.ref t3]) hp;dsimp only [aK];generalize aI H8 p (.lst [.ref t1,.ref t2,.ref t3])=H9 at gp sp;refine⟨aL rfl,λt4 Ha sa g4=>⟨aL rfl,λt5 Hb sb g5=>⟨aL rfl,λt6 Hc sc g9=>⟨eK rfl,λp2 m5=>?_⟩⟩⟩⟩;have s9c:Same H9 Hc:=(sa.trans sb).trans sc;have LB:(aI Hc p2 (.lst [.ref t4,.ref t5,.ref t6])) p2=some (.lst [.ref t4,.ref t5,.ref t6]):=aA;have LC:=aF (o:=.lst [.ref t4,.ref t5,.ref t6]) m5;generalize aI Hc p2 (.lst [.ref t4,.ref t5,.ref t6])=Hd at LB LC;have QM:=s9c.trans LC;refine⟨_,_,QM _ _ gp,LB,eK rfl,λp3 C9=>?_⟩;have fd:=f8.same (sp.trans QM);have LD:=fd.dk.ne C9;have NQ:Same H8 (aI Hd p3 (.lst ([.ref t1,.ref t2,.ref t3]++[.ref t4,.ref t5,.ref t6]))):=(sp.trans QM).trans (aF C9);have US:(aI Hd p3 (.lst ([.ref t1,.ref t2,.ref t3]++[.ref t4,.ref t5,.ref t6]))) p3=some (.lst [.ref t1,.ref t2,.ref t3,.ref t4,.ref t5,.ref t6]):=aA;have UT:=(LC.trans (aF C9 (o:=.lst ([.ref t1,.ref t2,.ref t3]++[.ref t4,.ref t5,.ref t6])))) _ _ (sc _ _ (sb _ _ g4));have UU:=(LC.trans (aF C9 (o:=.lst ([.ref t1,.ref t2,.ref t3]++[.ref t4,.ref t5,.ref t6])))) _ _ (sc _ _ g5);have UW:=(LC.trans (aF C9 (o:=.lst ([.ref t1,.ref t2,.ref t3]++[.ref t4,.ref t5,.ref t6])))) _ _ g9;have f9:=f8.same NQ;have M6:=NQ _ _ h1;have Q7:=NQ _ _ h2;have UX:=NQ _ _ g8;dsimp only [aK];generalize aI Hd p3 (.lst ([.ref t1,.ref t2,.ref t3]++[.ref t4,.ref t5,.ref t6]))=He at US UT UU UW f9 M6 Q7 UX;refine⟨d,b,6,rfl,f9.dk,Zd,Zd,λr6 Hf i0 i1 Df kf=>?_⟩;have ff:=f9.draw Df kf;have F1:=Fw.draw (.refl f9.dk) Df kf;have gq:=kf _ _ US LD.1 LD.2;rcases six i0 i1 with rfl|rfl|rfl|rfl|rfl|rfl
   ·exact⟨_,QYU gq,_,rfl,q _ (.add za n) _ ⟨FQ,BY,ng⟩ (F1.tup M6) ff⟩
   ·exact⟨_,QYU gq,_,rfl,q _ (.take za n) _ ⟨FQ,BY,ng⟩ (F1.tup Q7) ff⟩
   ·exact⟨_,QYU gq,_,rfl,q _ (.move za zb n) _ ⟨FQ,UO,C7,BY,ng⟩ (F1.tup UX) ff⟩
   ·exact⟨_,QYU gq,_,rfl,q _ (.send zu za n) _ ⟨NP,FQ,BY,ng⟩ (F1.tup UT) ff⟩
   ·exact⟨_,QYU gq,_,rfl,q _ (.fetch zu za n) _ ⟨NP,FQ,BY,ng⟩ (F1.tup UU) ff⟩
   ·exact⟨_,QYU gq,_,rfl,q _ (.pass zu zv za n) _ ⟨NP,UR,FQ,FR,BY,ng⟩ (F1.tup UW) ff⟩
def gB:Dd->Bool->List Str
 | .add _ _,_=>["is","full"]
 | .take _ _,_=>["is","short"]
 | .move _ _ _,_=>["is","short","full"]
 | .send _ _ _,true=>["is","no"]|.send _ _ _,false=>["short"]
 | .fetch _ _ _,true=>["is","no"]|.fetch _ _ _,false=>["full"]
 | .pass _ _ _ _,true=>["ok","no"]|.pass _ _ _ _,false=>[]
def hX:Sp:=λvs H Q _=>∃(t:UF)(x:Dd)(q:Bool),vs=[.ref t,.bl q]/\H t=some (.tup x.vs)/\∀l H',H l=none->H' l=some (.lst ((gB x q).map V.str))->Same H H'->Q (.ref l) H'
def kv6(v1 v2 v3 v4 v5 v6:V):List (bA×V):=bN (bN (bD [] [(Sum.inr ("add":Str),v1),(Sum.inr ("take":Str),v2),(Sum.inr ("move":Str),v3),(Sum.inr ("pass":Str),v4)]) (Sum.inr ("send":Str)) v5) (Sum.inr ("fetch":Str)) v6
def Xn(v1 v2 v3 v4 v5 v6:V)(x:Dd):bC (kv6 v1 v2 v3 v4 v5 v6) (Sum.inr x.wd)=some (match x with|.add _ _=>v1|.take _ _=>v2|.move _ _ _=>v3|.pass _ _ _ _=>v4|.send _ _ _=>v5|.fetch _ _ _=>v6):=by
 cases x<;>rfl
def xF(x:Dd):mW x.vs 0=some (.str x.wd):=by cases x<;>rfl
def Xo(x:Dd):gT (.str x.wd) [.str "add",.str "take",.str "move"]=!x.far:=by cases x<;>rfl
def gW:Dd->List Str
 | .add _ _=>["is","full"]|.take _ _=>["is","short"]|.move _ _ _=>["is","short","full"]|.send _ _ _=>["is","short","no"]|.fetch _ _ _=>["is","full","no"]|.pass _ _ _ _=>["ok","no"]
def qF(x:Dd)(h:x.far=false)(q:Bool):gB x q=gW x:=by cases x<;>first|rfl|cases h
def oY(x:Dd)(h:x.far=true)(q:Bool):gB x q=(gW x).filter λz=>(gT (.str z) [.str "short",.str "full"]) != q:=by cases x<;>cases q<;>first|rfl|cases h
def Kt(x:Dd):(gW x).length<=3:=by cases x<;>exact QZY rfl
def cU{H:Hp}{p:UF}{kvs:List (bA×V)}(e:H p=some (.dK kvs))(QN:List (bA×V)){c:UF}{o:HO}(ec:H c=some o)(ne:∀z,o≠.dK z):(aI H p (.dK QN)) c=some o:=by
 rw[aD (λz=>by rw[z,e]at ec;cases ec;exact ne _ rfl)];exact ec
def cO{H H1:Hp}{p:UF}{o:HO}(hp:H p=none)(s:Same H H1):Same H (aI H1 p o):=λc u e=>by
 rw[aD (aE e hp)];exact s _ _ e
def Ku(T:Txt K mg)(D:DefAt K mg "_law_words" fH QZF):aG P w K mg base 1 "_law_words" QZF hX:=by
 refine D.go iV (λvs H Q E h=>?_) (λf cdv A outer s H vs Q E hr h=>?_)
 ·obtain⟨t,x,q,rfl,_⟩:=h;rfl
 ·obtain⟨t,x,qq,rfl,gt,q⟩:=h;have J8:=jK hr;refine⟨_,(lv (o0 (i:=2) iV.nd (R.fu (yz mh (sw (kt mh (kt mh lf))) (yz mh (sw (kt mh (kt mh lf))) (yz mh (sw (kt mh (kt mh (kt mh lf)))) (yz mh (sw (kt mh (kt mh lf))) R.gs)))))) (lv (zd (sw (kt mh (kt mh (kt mh lf)))) (zn (kq 2) mh (EN J8))) (lv (zd (sw (kt mh (kt mh (kt mh lf)))) (zn (kq 2) mh (EN J8))) (lv (o0 (i:=3) iV.nd (R.dz J8 (kq 2) (li (mi (K:=K)) (kq 0) lc))) (lv (re (nw (tz (K:=K)) (li (mi (K:=K)) (kq 0) lc) (pi (kt mh (kt mh (kt mh lf))))) (mj (ms (kq 3))) rp) (mj (ms (vm rfl (js:=[none,some 1]) (N:=["_law_word","_law_asked"]) (CompScope.by (aB fH) QZb rfl rfl Zk) (aP rfl) (wf (K:=K) (kq 3)) (λC s₂ H₂ fp=>⟨(sx (i:=0) (show(["_law_word","_law_asked"]:List Str).Nodup by decide +kernel)),(wv (nw IN (sq (tz (K:=K)) (kq 0) (pi (kt mh (kt mh lf)))) (kq 1))),(kq 0)⟩))))))))),?_⟩;refine λp hp=>?_;have g0:(aI H p (.dK [])) p=some (.dK []):=aA;have s0:=aF (o:=.dK []) hp;generalize aI H p (.dK [])=H0 at g0 s0;refine⟨eK rfl,λp1 ku=>⟨eK rfl,λp2 m5=>⟨eK rfl,λp3 C9=>⟨eK rfl,λp4 wa=>?_⟩⟩⟩⟩;have s1:=aF (o:=.lst [.str "is",.str "full"]) ku;have i1:(aI H0 p1 (.lst [.str "is",.str "full"])) p1=_:=aA;have f1:H p1=none:=s0.free ku;generalize aI H0 p1 (.lst [.str "is",.str "full"])=H1 at s1 i1 m5 C9 wa ⊢;have s2:=aF (o:=.lst [.str "is",.str "short"]) m5;have i2:(aI H1 p2 (.lst [.str "is",.str "short"])) p2=_:=aA;have f2:H p2=none:=(s0.trans s1).free m5;generalize aI H1 p2 (.lst [.str "is",.str "short"])=H2 at s2 i2 C9 wa ⊢;have s3:=aF (o:=.lst [.str "is",.str "short",.str "full"]) C9;have i3:(aI H2 p3 (.lst [.str "is",.str "short",.str "full"])) p3=_:=aA;have f3:H p3=none:=((s0.trans s1).trans s2).free C9;generalize aI H2 p3 (.lst [.str "is",.str "short",.str "full"])=H3 at s3 i3 wa ⊢;have s4:=aF (o:=.lst [.str "ok",.str "no"]) wa;have i4:(aI H3 p4 (.lst [.str "ok",.str "no"])) p4=_:=aA;have f4:H p4=none:=(((s0.trans s1).trans s2).trans s3).free wa;generalize aI H3 p4 (.lst [.str "ok",.str "no"])=H4 at s4 i4 ⊢;have UY:Same H0 H4:=((s1.trans s2).trans s3).trans s4;have g4:=UY _ _ g0;refine⟨g4,[(Sum.inr ("add":Str),.ref p1),(Sum.inr ("take":Str),.ref p2),(Sum.inr ("move":Str),.ref p3),(Sum.inr ("pass":Str),.ref p4)],rfl,QZY rfl,?_⟩;have S4:Same H H4:=s0.trans UY;replace i1:=s4 _ _ (s3 _ _ (s2 _ _ i1));replace i2:=s4 _ _ (s3 _ _ i2);replace i3:=s4 _ _ i3;show yA _ _ _ [some (.ref t),some (.bl qq),some (.ref p),none] (aI H4 p (.dK (bD [] [(Sum.inr ("add":Str),.ref p1),(Sum.inr ("take":Str),.ref p2),(Sum.inr ("move":Str),.ref p3),(Sum.inr ("pass":Str),.ref p4)])));generalize hk:bD [] [(Sum.inr ("add":Str),V.ref p1),(Sum.inr ("take":Str),.ref p2),(Sum.inr ("move":Str),.ref p3),(Sum.inr ("pass":Str),.ref p4)]=CZ;have l4:CZ.length=4:=by rw[<- hk];rfl
  have S5:Same H (aI H4 p (.dK CZ)):=cO hp S4;have g5:(aI H4 p (.dK CZ)) p=_:=aA;replace i1:=cU g4 CZ i1 (λ_ z=>nomatch z);replace i2:=cU g4 CZ i2 (λ_ z=>nomatch z);replace i3:=cU g4 CZ i3 (λ_ z=>nomatch z);replace i4:=cU g4 CZ i4 (λ_ z=>nomatch z);generalize aI H4 p (.dK CZ)=H5 at i1 i2 i3 i4 S5 g5 ⊢;refine⟨eK rfl,λp5 QO=>⟨p,_,rfl,DPut.k (k:=Sum.inr ("send":Str)) (aN g5 QO) (oZ (m:=100) Zo Zd),?_⟩⟩;have f5:H p5=none:=S5.free QO;have s6:=aF (o:=.lst [.str "is",.str "short",.str "no"]) QO;have i5:(aI H5 p5 (.lst [.str "is",.str "short",.str "no"])) p5=_:=aA;have g6:=s6 _ _ g5;generalize aI H5 p5 (.lst [.str "is",.str "short",.str "no"])=H6 at s6 i5 g6 ⊢;generalize KO:bN CZ (Sum.inr ("send":Str)) (V.ref p5)=BZ;have l5:BZ.length<=5:=by rw[<- KO];exact kN (dW _ _ _) Zo
  have S7:Same H (aI H6 p (.dK BZ)):=cO hp (S5.trans s6);have g7:(aI H6 p (.dK BZ)) p=_:=aA;replace i1:=cU g6 BZ (s6 _ _ i1) (λ_ z=>nomatch z);replace i2:=cU g6 BZ (s6 _ _ i2) (λ_ z=>nomatch z);replace i3:=cU g6 BZ (s6 _ _ i3) (λ_ z=>nomatch z);replace i4:=cU g6 BZ (s6 _ _ i4) (λ_ z=>nomatch z);replace i5:=cU g6 BZ i5 (λ_ z=>nomatch z);generalize aI H6 p (.dK BZ)=H7 at i1 i2 i3 i4 i5 S7 g7 ⊢;refine⟨eK rfl,λp6 QP=>⟨p,_,rfl,DPut.k (k:=Sum.inr ("fetch":Str)) (aN g7 QP) (oZ (m:=100) Zo Zd),?_⟩⟩;have f6:H p6=none:=S7.free QP;have s8:=aF (o:=.lst [.str "is",.str "full",.str "no"]) QP;have i6:(aI H7 p6 (.lst [.str "is",.str "full",.str "no"])) p6=_:=aA;have g8:=s8 _ _ g7;generalize aI H7 p6 (.lst [.str "is",.str "full",.str "no"])=H8 at s8 i6 g8 ⊢;generalize hk6:bN BZ (Sum.inr ("fetch":Str)) (V.ref p6)=Y9;have ek:Y9=kv6 (.ref p1) (.ref p2) (.ref p3) (.ref p4) (.ref p5) (.ref p6):=by rw[<- hk6,<- KO,<- hk];rfl
  have S9:Same H (aI H8 p (.dK Y9)):=cO hp (S7.trans s8);have g9:(aI H8 p (.dK Y9)) p=_:=aA;replace i1:=cU g8 Y9 (s8 _ _ i1) (λ_ z=>nomatch z);replace i2:=cU g8 Y9 (s8 _ _ i2) (λ_ z=>nomatch z);replace i3:=cU g8 Y9 (s8 _ _ i3) (λ_ z=>nomatch z);replace i4:=cU g8 Y9 (s8 _ _ i4) (λ_ z=>nomatch z);replace i5:=cU g8 Y9 (s8 _ _ i5) (λ_ z=>nomatch z);replace i6:=cU g8 Y9 i6 (λ_ z=>nomatch z);generalize aI H8 p (.dK Y9)=H9 at i1 i2 i3 i4 i5 i6 S9 g9 ⊢;have key:∃pl:UF,bC Y9 (Sum.inr x.wd)=some (.ref pl)/\H pl=none/\H9 pl=some (.lst ((gW x).map V.str)):=by
   rw[ek,Xn];cases x with
   | add a n=>exact⟨p1,rfl,f1,i1⟩
   | take a n=>exact⟨p2,rfl,f2,i2⟩
   | move a b n=>exact⟨p3,rfl,f3,i3⟩
   | send a b n=>exact⟨p5,rfl,f5,i5⟩
   | fetch a b n=>exact⟨p6,rfl,f6,i6⟩
   | pass a b c n=>exact⟨p4,rfl,f4,i4⟩
  obtain⟨pl,hv,fl,gl⟩:=key;have dg:DGet H9 p (.str x.wd) (some (.ref pl)):=by rw[<- hv];exact DGet.k (k:=Sum.inr x.wd) g9
  have UZ:=S9 _ _ gt;refine⟨_,QYV UZ,_,xF x,p,_,rfl,dg,?_⟩;dsimp only [aK];refine⟨_,QYV UZ,_,xF x,aL rfl,λtq Ha sa ga=>⟨tq,_,rfl,.inr (QYV ga),rfl,rfl,?_⟩⟩;have Sa:Same H Ha:=S9.trans sa;show if gT (.str x.wd) [.str "add",.str "take",.str "move"]=true then _ else _
  rw[Xo];cases hf:x.far with
  | false=>
   refine Wb rfl ?_;refine q pl Ha fl ?_ Sa;rw[qF x hf];exact sa _ _ gl
  | true=>
   refine Wc rfl ?_;have VA:=sa _ _ gl;refine⟨pl,rfl,⟨_,QYU VA⟩,?_⟩;refine bT (dB K pl ((gW x).map V.str)) (by have:=Kt x;rw[aZ];omega) (λi ys H'=>ys=(((gW x).take i).filter λz=>(gT (.str z) [.str "short",.str "full"]) != qq).map V.str/\Same H H'/\H' pl=some (.lst ((gW x).map V.str))) (λi ys H' ⟨e,_,FT⟩=>⟨QYU FT,by rw[e,aZ];exact kN (List.length_filter_le _ _) (by rw[jD];omega)⟩) ⟨rfl,Sa,VA⟩ (λi y ys H' hy ⟨e,S',FT⟩=>?_) (λys H' ⟨e,S',FT⟩=>?_)
   ·rw[jC]at hy;cases hz:(gW x)[i]? with
    | none=>rw[hz]at hy;cases hy
    | some z=>
     rw[hz]at hy;cases hy;have key:=take_succ_filter (λz=>(gT (.str z) [.str "short",.str "full"]) != qq) (gW x) i z hz;refine⟨aL rfl,λtp Hb sb gb=>⟨tp,_,rfl,.inr (QYV gb),rfl,rfl,?_⟩⟩;show if (!decide (gT (.str z) [.str "short",.str "full"]=qq))=true then _ else _
     have eb:(!decide (gT (.str z) [.str "short",.str "full"]=qq))=(gT (.str z) [.str "short",.str "full"] != qq):=by cases gT (.str z) [.str "short",.str "full"]<;>cases qq<;>rfl
     rw[eb];refine aQ (λh=>⟨?_,S'.trans sb,sb _ _ FT⟩) (λh=>⟨?_,S'.trans sb,sb _ _ FT⟩)
     ·rw[key,TD h,iB,e];rfl
     ·rw[key,P7 (by rw[h];exact XV),append_nil,e]
   ·intro pn uk;refine q pn _ (S'.free uk) ?_ (S'.trans (aF uk));rw[aA,e,aZ,vQ (bQ _),oY x hf]
def uW:An->Str|.is1 _=>"is"|.is2 _ _=>"is"|.short _=>"short"|.full _=>"full"|.no _=>"no"|.ok=>"ok"
def nO:Sp:=λvs H Q _=>∃(d b t:UF)(x:Dd)(z:Str),vs=[.ref d,.ref t,.str z]/\Dk H d b/\H t=some (.tup x.vs)/\x.Ok/\z∈gW x ∧
 ∀(c:UF)(y:An)(H':Hp),An.Of x y->uW y=z->H' c=some (.tup y.vs)->Fw d b H H'->Q (.ref c) H'
def aAU(x:Dd):mW x.vs (-1)=some (.int (x.n:Int)):=by cases x<;>rfl
def dF{r:Int}(h:0<=r):∃z:Nat,r=z:=⟨r.toNat,Zo⟩
def Ew(T:Txt K mg)(b9:aG P w K mg base 1 "_law_draw" QZR bF)(J2:aG P w K mg base 2 "_law_end" QZR bF)(D:DefAt K mg "_law_answer" fR QZE):aG P w K mg base 3 "_law_answer" QZE nO:=by
 refine D.go eZ (λvs H Q E h=>?_) (λf cdv A outer s H vs Q E hr h=>?_)
 ·obtain⟨d,b,t,x,z,rfl,_⟩:=h;rfl
 ·obtain⟨d,b,t,x,z,rfl,dk,gt,hx,hz,q⟩:=h;have c6:Room 1 _:=hr.mono Zd;have J3:Room 2 _:=hr.mono Zd;have hn:=hx.n;refine⟨_,(lv (o0 (i:=3) eZ.nd (li (mi (K:=K)) (kq 1) (vh lc))) (lv (o0 (i:=4) eZ.nd (mk J2 J3 rfl (kt (kq 0) (kt (ml sv (ml xq (ml xy lc lc) (kq 3)) lc) lf)))) (lv (o0 (i:=5) eZ.nd (ml sv (kq 3) (mk J2 J3 rfl (kt (kq 0) (kt (ml sv (ml xq (ml xy lc lc) (kq 3)) lc) lf))))) (lv (re (nw rq (kq 2) mh) (mj (ms (pi (kt mh (kt (li (mi (K:=K)) (kq 1) (ml sv lc (ml R.eg (mk b9 c6 rfl (kt (kq 0) (kt lc lf))) (R.ee R.jj rfl T.b_int uD (kt (sq rq (li (mi (K:=K)) (kq 1) lc) mh) lf))))) lf))))) rp) (lv (re (nw rq (kq 2) mh) (mj (ms (pi (kt mh lf)))) rp) (lv (re (nw rq (kq 2) mh) (mj (ms (pi (kt mh (kt (mk J2 J3 rfl (kt (kq 0) (kt (kq 3) lf))) lf))))) rp) (lv (re (nw rq (kq 2) mh) (mj (ms (pi (kt mh (kt (ml xq (ml xy lc lc) (mk J2 J3 rfl (kt (kq 0) (kt (kq 3) lf)))) lf))))) rp) (lv (re (nw rq (li (mi (K:=K)) (kq 1) lc) mh) (mj (ms (pi (kt mh (kt (kq 4) (kt (kq 5) lf)))))) rp) (mj (ms (pi (kt mh (kt (li (sj (K:=K)) (sw (kt (kq 4) (kt (kq 5) lf))) (R.ee R.jj rfl T.b_int uD (kt (sq (tz (K:=K)) (li (mi (K:=K)) (kq 1) lc) (pi (kt mh (kt mh lf)))) lf))) lf))))))))))))),?_⟩;refine⟨_,QYV gt,_,aAU x,?_⟩;dsimp only [aK];refine⟨⟨Zd,Zd,Zd⟩,d,b,1000000000000-(x.n:Int)+1,rfl,dk,Zo,Zo,λr1 H1 a0 a1 D1 k1=>?_⟩;dsimp only [aK];refine⟨⟨Zd,Zd,Zd⟩,d,b,1000000000000-(x.n:Int)+1,rfl,D1,Zo,Zo,λr2 H2 b0 b1 D2 k2=>?_⟩;dsimp only [aK];have f2:=((Fw.refl dk).draw D1 k1).draw D2 k2;obtain⟨r1,rfl⟩:=dF a0;obtain⟨r2,rfl⟩:=dF b0;have DA:=f2.tup gt;have ff:=f2;dsimp only [yS,mI];show yA _ _ _ [some (.ref d),some (.ref t),some (.str z),some (.int (x.n:Int)),some (.int (r1:Int)),some (.int ((x.n:Int)+(r2:Int)))] H2
  cases x with
  | add a n=>
   simp only [Dd.n]at hn a1 b1;simp only [gW,mem_cons,QZU,or_false]at hz;rcases hz with rfl|rfl
   ·refine⟨_,QYV DA,_,rfl,⟨eK rfl,λp hp=>⟨_,QYV (aN DA hp),_,rfl,aL rfl,λtq Ha sa ga=>⟨tq,_,rfl,.inr (QYV ga),rfl,rfl,⟨_,QYU (sa _ _ aA),_,rfl,aL rfl,λp' H' s' g'=>?_⟩⟩⟩⟩⟩;refine q p' (.is1 (n+r2)) H' ⟨Zo,Zo⟩ rfl ?_ (((ff.new hp).same sa).same s');rw[g'];show some (HO.tup [V.str "is",.int ((n:Int)+(r2:Int))])=some (HO.tup [V.str "is",.int ((n+r2:Nat):Int)]);rw[show((n+r2:Nat):Int)=(n:Int)+(r2:Int) by omega]
   ·refine⟨⟨Zd,Zd,Zd⟩,d,b,(n:Int),rfl,ff.dk,Zo,Zo,λr3 H3 c0 c1 D3 k3=>⟨aL rfl,λp H' s' g'=>?_⟩⟩;obtain⟨r3,rfl⟩:=dF c0;refine q p (.full (1000000000000-r3)) H' ⟨Zo,Zo⟩ rfl ?_ ((ff.draw D3 k3).same s');rw[g'];show some (HO.tup [V.str "full",.int ((1000000000000:Int)-(r3:Int))])=some (HO.tup [V.str "full",.int ((1000000000000-r3:Nat):Int)]);rw[show((1000000000000-r3:Nat):Int)=(1000000000000:Int)-(r3:Int) by omega]
  | take a n=>
   simp only [Dd.n]at hn a1 b1;simp only [gW,mem_cons,QZU,or_false]at hz;rcases hz with rfl|rfl
   ·refine⟨_,QYV DA,_,rfl,⟨eK rfl,λp hp=>⟨_,QYV (aN DA hp),_,rfl,aL rfl,λtq Ha sa ga=>⟨tq,_,rfl,.inr (QYV ga),rfl,rfl,⟨_,QYU (sa _ _ aA),_,rfl,aL rfl,λp' H' s' g'=>?_⟩⟩⟩⟩⟩;exact q p' (.is1 r1) H' (by show r1+n<=1000000000000;omega) rfl g' (((ff.new hp).same sa).same s')
   ·refine⟨d,b,(n:Int),rfl,ff.dk,Zo,Zo,λr3 H3 c0 c1 D3 k3=>⟨aL rfl,λp H' s' g'=>?_⟩⟩;obtain⟨r3,rfl⟩:=dF c0;exact q p (.short r3) H' (by show r3<n;omega) rfl g' ((ff.draw D3 k3).same s')
  | move a b' n=>
   simp only [Dd.n]at hn a1 b1;simp only [gW,mem_cons,QZU,or_false]at hz;rcases hz with rfl|rfl|rfl
   ·refine⟨_,QYV DA,_,rfl,aL rfl,λp H' s' g'=>?_⟩;refine q p (.is2 r1 (n+r2)) H' ⟨Zo,Zo,Zo⟩ rfl ?_ (ff.same s');rw[g'];show some (HO.tup [V.str "is",.int (r1:Int),.int ((n:Int)+(r2:Int))])=some (HO.tup [V.str "is",.int (r1:Int),.int ((n+r2:Nat):Int)]);rw[show((n+r2:Nat):Int)=(n:Int)+(r2:Int) by omega]
   ·refine⟨d,b,(n:Int),rfl,ff.dk,Zo,Zo,λr3 H3 c0 c1 D3 k3=>⟨aL rfl,λp H' s' g'=>?_⟩⟩;obtain⟨r3,rfl⟩:=dF c0;exact q p (.short r3) H' (by show r3<n;omega) rfl g' ((ff.draw D3 k3).same s')
   ·refine⟨⟨Zd,Zd,Zd⟩,d,b,(n:Int),rfl,ff.dk,Zo,Zo,λr3 H3 c0 c1 D3 k3=>⟨aL rfl,λp H' s' g'=>?_⟩⟩;obtain⟨r3,rfl⟩:=dF c0;refine q p (.full (1000000000000-r3)) H' ⟨Zo,Zo⟩ rfl ?_ ((ff.draw D3 k3).same s');rw[g'];show some (HO.tup [V.str "full",.int ((1000000000000:Int)-(r3:Int))])=some (HO.tup [V.str "full",.int ((1000000000000-r3:Nat):Int)]);rw[show((1000000000000-r3:Nat):Int)=(1000000000000:Int)-(r3:Int) by omega]
  | send h a n=>
   simp only [Dd.n]at hn a1 b1;simp only [gW,mem_cons,QZU,or_false]at hz;rcases hz with rfl|rfl|rfl
   ·refine⟨_,QYV DA,_,rfl,⟨eK rfl,λp hp=>⟨_,QYV (aN DA hp),_,rfl,aL rfl,λtq Ha sa ga=>⟨tq,_,rfl,.inr (QYV ga),rfl,rfl,⟨_,QYU (sa _ _ aA),_,rfl,aL rfl,λp' H' s' g'=>?_⟩⟩⟩⟩⟩;exact q p' (.is1 r1) H' (by show r1+n<=1000000000000;omega) rfl g' (((ff.new hp).same sa).same s')
   ·refine⟨d,b,(n:Int),rfl,ff.dk,Zo,Zo,λr3 H3 c0 c1 D3 k3=>⟨aL rfl,λp H' s' g'=>?_⟩⟩;obtain⟨r3,rfl⟩:=dF c0;exact q p (.short r3) H' (by show r3<n;omega) rfl g' ((ff.draw D3 k3).same s')
   ·refine⟨d,b,2,rfl,ff.dk,Zd,Zd,λr3 H3 c0 c1 D3 k3=>⟨_,QYV ((ff.draw D3 k3).tup gt),_,rfl,.inl ⟨Zo,Zo⟩,_,QYV ((ff.draw D3 k3).tup gt),.str h,?_,aL rfl,λp H' s' g'=>?_⟩⟩
    ·show mW _ (1+r3*0)=_;rw[Int.mul_zero];rfl
    ·exact q p (.no h) H' rfl rfl g' ((ff.draw D3 k3).same s')
  | fetch h a n=>
   simp only [Dd.n]at hn a1 b1;simp only [gW,mem_cons,QZU,or_false]at hz;rcases hz with rfl|rfl|rfl
   ·refine⟨_,QYV DA,_,rfl,⟨eK rfl,λp hp=>⟨_,QYV (aN DA hp),_,rfl,aL rfl,λtq Ha sa ga=>⟨tq,_,rfl,.inr (QYV ga),rfl,rfl,⟨_,QYU (sa _ _ aA),_,rfl,aL rfl,λp' H' s' g'=>?_⟩⟩⟩⟩⟩;refine q p' (.is1 (n+r2)) H' ⟨Zo,Zo⟩ rfl ?_ (((ff.new hp).same sa).same s');rw[g'];show some (HO.tup [V.str "is",.int ((n:Int)+(r2:Int))])=some (HO.tup [V.str "is",.int ((n+r2:Nat):Int)]);rw[show((n+r2:Nat):Int)=(n:Int)+(r2:Int) by omega]
   ·refine⟨⟨Zd,Zd,Zd⟩,d,b,(n:Int),rfl,ff.dk,Zo,Zo,λr3 H3 c0 c1 D3 k3=>⟨aL rfl,λp H' s' g'=>?_⟩⟩;obtain⟨r3,rfl⟩:=dF c0;refine q p (.full (1000000000000-r3)) H' ⟨Zo,Zo⟩ rfl ?_ ((ff.draw D3 k3).same s');rw[g'];show some (HO.tup [V.str "full",.int ((1000000000000:Int)-(r3:Int))])=some (HO.tup [V.str "full",.int ((1000000000000-r3:Nat):Int)]);rw[show((1000000000000-r3:Nat):Int)=(1000000000000:Int)-(r3:Int) by omega]
   ·refine⟨d,b,2,rfl,ff.dk,Zd,Zd,λr3 H3 c0 c1 D3 k3=>⟨_,QYV ((ff.draw D3 k3).tup gt),_,rfl,.inl ⟨Zo,Zo⟩,_,QYV ((ff.draw D3 k3).tup gt),.str h,?_,aL rfl,λp H' s' g'=>?_⟩⟩
    ·show mW _ (1+r3*0)=_;rw[Int.mul_zero];rfl
    ·exact q p (.no h) H' rfl rfl g' ((ff.draw D3 k3).same s')
  | pass h g a n=>
   simp only [Dd.n]at hn a1 b1;simp only [gW,mem_cons,QZU,or_false]at hz;rcases hz with rfl|rfl
   ·refine⟨aL rfl,λp H' s' g'=>?_⟩;exact q p .ok H' trivial rfl g' (ff.same s')
   ·refine⟨d,b,2,rfl,ff.dk,Zd,Zd,λr3 H3 c0 c1 D3 k3=>?_⟩;rcases(by omega:r3=0∨r3=1) with rfl|rfl
    ·refine⟨_,QYV ((ff.draw D3 k3).tup gt),_,rfl,.inl ⟨Zo,Zo⟩,_,QYV ((ff.draw D3 k3).tup gt),.str h,rfl,aL rfl,λp H' s' g'=>?_⟩;exact q p (.no h) H' (.inl rfl) rfl g' ((ff.draw D3 k3).same s')
    ·refine⟨_,QYV ((ff.draw D3 k3).tup gt),_,rfl,.inl ⟨Zo,Zo⟩,_,QYV ((ff.draw D3 k3).tup gt),.str g,rfl,aL rfl,λp H' s' g'=>?_⟩;exact q p (.no g) H' (.inr rfl) rfl g' ((ff.draw D3 k3).same s')
structure MenusAt(H:Hp)(lm:UF)(M:List UF):Prop where
 ex:∃(a0 a1 a2 a3:UF)(ws us ps ks:List Str),M=[lm,a0,a1,a2,a3]/\H lm=some (.lst [.ref a0,.ref a1,.ref a2,.ref a3])/\H a0=some (.lst (ws.map V.str))/\H a1=some (.lst (us.map V.str))/\H a2=some (.lst (ps.map V.str))/\H a3=some (.lst (ks.map V.str)) ∧
  Menu ws/\Menu us/\(1<=ps.length/\ps.length<=6/\∀z∈ps,fE z)/\1<=ks.length/\ks.length<=6/\∀z∈ks,wR z
def MenusAt.keep{H H':Hp}{lm:UF}{M:List UF}(h:MenusAt H lm M)(k:∀c∈M,∀o,H c=some o->H' c=some o):MenusAt H' lm M:=by
 obtain⟨a0,a1,a2,a3,ws,us,ps,ks,rfl,h0,h1,h2,h3,h4,r⟩:=h.ex;exact⟨a0,a1,a2,a3,ws,us,ps,ks,rfl,k _ Zs _ h0,k _ Zs _ h1,k _ Zs _ h2,k _ Zs _ h3,k _ Zs _ h4,r⟩
def Fw.menus{d b:UF}{H H':Hp}{lm:UF}{M:List UF}(f:Fw d b H H')(h1:d∉M)(h2:b∉M)(h:MenusAt H lm M):MenusAt H' lm M:=h.keep λc hc o e=>f.get e (λz=>h1 (z▸hc)) (λz=>h2 (z▸hc))
def Fw.put{d b a:UF}{H H':Hp}{o:HO}(f:Fw d b H H')(hn:H a=none):Fw d b H (aI H' a o):=by
 have hd:=f.d0.ne hn;refine⟨f.d0,?_,λc u e n1 n2=>?_⟩
 ·obtain⟨ns,s,k,h1,h2,h3⟩:=f.dk.ex;exact⟨ns,s,k,by rw[aD (λz=>hd.1 z.symm)];exact h1,by rw[aD (λz=>hd.2 z.symm)];exact h2,h3⟩
 ·rw[aD (aE e hn)];exact f.kp _ _ e n1 n2
def lW:Sp:=λvs H Q _=>∃(d b lm:UF)(M:List UF),vs=[.ref d,.ref lm]/\Dk H d b/\MenusAt H lm M/\d∉M/\b∉M/\∀(t:UF)(p k:Str)(H':Hp),fE p->wR k->H' t=some (.tup [.str p,.str k])->Fw d b H H'->Q (.ref t) H'
def Qi(T:Txt K mg)(b9:aG P w K mg base 1 "_law_draw" QZR bF)(D:DefAt K mg "_law_spot" iO QZO):aG P w K mg base 2 "_law_spot" QZO lW:=by
 refine D.go xC (λvs H Q E h=>?_) (λf cdv A outer s H vs Q E hr h=>?_)
 ·obtain⟨d,b,lm,M,rfl,_⟩:=h;rfl
 ·obtain⟨d,b,lm,M,rfl,dk,hM,hd,hb,q⟩:=h;have c6:=hr;obtain⟨a0,a1,a2,a3,ws,us,ps,ks,rfl,h0,h1,h2,h3,h4,mw,mu,⟨p1,p6,pn⟩,k1,k6,kn⟩:=hM.ex;have nd:∀c∈[lm,a0,a1,a2,a3],c≠d/\c≠b:=λc hc=>⟨λz=>hd (z▸hc),λz=>hb (z▸hc)⟩
  refine⟨_,(mj (ms (pi (kt (li (sj (K:=K)) (li (sj (K:=K)) (kq 1) lc) (mk b9 c6 rfl (kt (kq 0) (kt (su (sy (K:=K)) rfl T.b_len aO (kt (li (sj (K:=K)) (kq 1) lc) lf)) lf)))) (kt (li (sj (K:=K)) (li (sj (K:=K)) (kq 1) lc) (mk b9 c6 rfl (kt (kq 0) (kt (su (sy (K:=K)) rfl T.b_len aO (kt (li (sj (K:=K)) (kq 1) lc) lf)) lf)))) lf))))),?_⟩;refine⟨_,QYU h0,_,rfl,_,QYU h0,_,rfl,_,.inl (QYU h3),d,b,(ps.length:Int),by rw[aZ],dk,Zo,Zo,λr1 H1 x0 x1 D1 e1=>?_⟩;have f1:=(Fw.refl dk).draw D1 e1;have ge:∀c∈[lm,a0,a1,a2,a3],∀o,H c=some o->H1 c=some o:=λc hc o e=>f1.get e (nd c hc).1 (nd c hc).2
  obtain⟨i,hi,rfl,ei⟩:=fK x0 x1;refine⟨_,QYU (ge a2 Zs _ h3),_,ei,?_⟩;refine⟨_,QYU (ge lm Zs _ h0),_,rfl,_,QYU (ge lm Zs _ h0),_,rfl,_,.inl (QYU (ge a3 Zs _ h4)),d,b,(ks.length:Int),by rw[aZ],D1,Zo,Zo,λr2 H2 y0 y1 D2 e2=>?_⟩;have f2:=f1.draw D2 e2;obtain⟨j,hj,rfl,ej⟩:=fK y0 y1;refine⟨_,QYU (f2.get h4 (nd a3 Zs).1 (nd a3 Zs).2),_,ej,aL rfl,λt H' s' g'=>?_⟩;exact q t _ _ H' (pn _ (getElem_mem hi)) (kn _ (getElem_mem hj)) g' (f2.same s')
def uX:Sp:=λvs H Q _=>∃(d b lm:UF)(M:List UF)(n t:Nat),vs=[.ref d,.ref lm,.int (n:Int),.int (t:Int)]/\Dk H d b/\MenusAt H lm M/\d∉M/\b∉M ∧
 ∀(a:UF)(p k:Str)(x:Dd)(y:An)(H':Hp),fE p->wR k->x.Ok->An.Of x y->RX.At H' a (.kept n t p k x y)->Fw d b H H'->Q (.ref a) H'
def kH(x:Dd)(q:Bool):∀z∈gB x q,z∈gW x:=by
 cases hf:x.far with
 | false=>rw[qF x hf];exact λz h=>h
 | true=>rw[oY x hf];exact λz h=>(mem_filter.mp h).1
def hZ(x:Dd):1<=(gB x true++gB x false).length/\(gB x true++gB x false).length<=6:=by cases x<;>exact⟨QZY rfl,QZY rfl⟩
def Qj(T:Txt K mg)(b9:aG P w K mg base 1 "_law_draw" QZR bF)(A0:aG P w K mg base 3 "_law_deed" QZH iX)(m6:aG P w K mg base 1 "_law_words" QZF hX)(n9:aG P w K mg base 3 "_law_answer" QZE nO)(M8:aG P w K mg base 2 "_law_spot" QZO lW)(D:DefAt K mg "_law_kept" iP QZr):aG P w K mg base 4 "_law_kept" QZr uX:=by
 refine D.go gM (λvs H Q E h=>?_) (λf cdv A outer s H vs Q E hr h=>?_)
 ·obtain⟨d,b,lm,M,n,t,rfl,_⟩:=h;rfl
 ·obtain⟨d,b,lm,M,n,t,rfl,dk,hM,hd,hb,q⟩:=h;have c6:Room 1 _:=hr.mono Zd;have E3:Room 3 _:=hr.mono Zd;have v7:Room 1 _:=hr.mono Zd;have A1:Room 3 _:=hr.mono Zd;have Z0:Room 2 _:=hr.mono Zd;have VB:=hM;obtain⟨a0,a1,a2,a3,ws,us,ps,ks,rfl,h0,h1,h2,h3,h4,mw,mu,⟨p1,p6,pn⟩,k1,k6,kn⟩:=hM.ex;have nd:∀c∈[lm,a0,a1,a2,a3],c≠d/\c≠b:=λc hc=>⟨λz=>hd (z▸hc),λz=>hb (z▸hc)⟩
  refine⟨_,(lv (o0 (i:=4) gM.nd (mk A0 E3 rfl (kt (kq 0) (kt (li (sj (K:=K)) (kq 1) lc) (kt (li (sj (K:=K)) (kq 1) lc) lf))))) (lv (o0 (i:=5) gM.nd (ml vj (mk m6 v7 rfl (kt (kq 4) (kt tj lf))) (mk m6 v7 rfl (kt (kq 4) (kt tj lf))))) (lv (o0 (i:=6) gM.nd (mk n9 A1 rfl (kt (kq 0) (kt (kq 4) (kt (li (sj (K:=K)) (kq 5) (mk b9 c6 rfl (kt (kq 0) (kt (su (sy (K:=K)) rfl T.b_len aO (kt (kq 5) lf)) lf)))) lf))))) (mj (ms (ml AC (ml AC (pi (kt mh (kt (kq 2) (kt (kq 3) lf)))) (mk M8 Z0 rfl (kt (kq 0) (kt (kq 1) lf)))) (pi (kt (kq 4) (kt (kq 6) lf))))))))),?_⟩;refine⟨_,QYU h0,_,rfl,_,QYU h0,_,rfl,d,b,a0,a1,ws,us,rfl,dk,h1,h2,⟨(nd a0 Zs).1,(nd a0 Zs).2,(nd a1 Zs).1,(nd a1 Zs).2⟩,mw,mu,λtd x H1 hx gx f1=>?_⟩;dsimp only [aK];refine⟨td,x,true,rfl,gx,λl1 H2 n1 g1 s1=>⟨td,x,false,rfl,s1 _ _ gx,λl2 H3 n2 g2 s2=>⟨_,_,s2 _ _ g1,g2,?_,λl3 zw=>?_⟩⟩⟩
  ·have:=hZ x;rw[kM]at this;rw[aZ,aZ];exact fA Zo
  have VC:Same H1 (aI H3 l3 (.lst ((gB x true).map V.str++(gB x false).map V.str))):=(s1.trans s2).trans (aF zw);have g3:(aI H3 l3 (.lst ((gB x true).map V.str++(gB x false).map V.str))) l3=some (.lst ((gB x true++gB x false).map V.str)):=by rw[aA,iB]
  have f3:=f1.same VC;have LF:=(f1.same (s1.trans s2)).dk.ne zw;have EI:=VC _ _ gx;dsimp only [aK];generalize aI H3 l3 (.lst ((gB x true).map V.str++(gB x false).map V.str))=H4 at g3 f3 EI;have w6:=hZ x;refine⟨_,.inl (QYU g3),d,b,((gB x true++gB x false).length:Int),by rw[aZ],f3.dk,Zo,Zo,λr H5 r0 r1 D5 e5=>?_⟩;have f5:=f3.draw D5 e5;have F5:=(Fw.refl f3.dk).draw D5 e5;obtain⟨i,hi,rfl,ei⟩:=fK r0 r1;have hz:(gB x true++gB x false)[i]∈gW x:=by
   rcases Zma.mp (getElem_mem hi) with h|h
   ·exact kH x _ _ h
   ·exact kH x _ _ h
  refine⟨_,QYU (F5.get g3 LF.1 LF.2),_,ei,d,b,td,x,_,rfl,D5,F5.tup EI,hx,hz,λc y H6 hy _ gy f6=>?_⟩;have f06:=f5.trans f6;dsimp only [aK];refine⟨aL rfl,λt1 H7 s7 g7=>?_⟩;have QQ:=f06.same s7;refine⟨d,b,lm,_,rfl,QQ.dk,QQ.menus hd hb VB,hd,hb,λt2 p k H8 hp hk g8 f8=>?_⟩;refine⟨_,_,f8.tup g7,g8,QZY rfl,λt3 H9 s9 g9=>⟨aL rfl,λt4 Ha sa ga=>⟨_,_,sa _ _ g9,ga,QZY rfl,λt5 Hb sb gb=>?_⟩⟩⟩;have VD:TK H7 Hb:=f8.tk.trans (((Same.tk s9).trans (Same.tk sa)).trans (Same.tk sb));refine q t5 p k x y Hb hp hk hx hy ⟨td,c,gb,?_,?_⟩ (((((QQ.trans f8).same s9).same sa).same sb))
  ·exact VD _ _ (s7 _ _ (f6.tup (F5.tup EI)))
  ·exact VD _ _ (s7 _ _ gy)
def Fw.free{d b a:UF}{H H':Hp}(f:Fw d b H H')(h:H' a=none):H a=none:=by
 have hd:=f.dk.ne h
 cases e:H a with
 | none=>rfl
 | some o=>rw[f.kp _ _ e hd.1 hd.2]at h;cases h
structure uY(rs:List RX):Prop where
 wh:RX.Whole rs
 ok:∀r∈rs,r.Ok
 rk:∀r∈rs,r.rank<=2
 len:rs.length<=13
 nx:∀n t,.next n t∈rs->n<=900006/\t<500000000000
structure Hd1(n t:Nat)(zs:List Str)(rs:List RX):Prop where
 wh:RX.Whole rs
 ok:∀r∈rs,r.Ok
 nx:∀n' t',.next n' t'∈rs->n'=n/\t'=t
 one:.next n t∈rs
 rk:∀r∈rs,r.rank<=1
 hs:∀z m,.has z m∈rs->z∈zs
def aH{α:Type}{xs:List α}{x y:α}(h:y∈xs++[x]):y∈xs∨y=x:=by
 rcases Zma.mp h with h|h
 ·exact .inl h
 ·exact .inr (Zms.mp h)
def Hd1.skip{n t:Nat}{zs:List Str}{rs:List RX}(h:Hd1 n t zs rs)(z:Str):Hd1 n t (zs++[z]) rs:=⟨h.wh,h.ok,h.nx,h.one,h.rk,λy m q=>QZX _ (h.hs y m q)⟩
def Hd1.step{n t:Nat}{zs:List Str}{rs:List RX}(h:Hd1 n t zs rs){z:Str}{m:Nat}(hz:∀y∈zs,y.cps.toList<z.cps.toList)(hn:fE z)(h1:1<=m)(h2:m<=1000000000000):Hd1 n t (zs++[z]) (rs++[.has z m]):=by
 refine⟨h.wh.snoc ⟨h.rk,⟨n,t,h.one⟩,λz' m' q=>hz z' (h.hs _ _ q)⟩,λr hr=>?_,λn' t' hr=>?_,QZX _ h.one,λr hr=>?_,λz' m' hr=>?_⟩
 ·rcases aH hr with hr|rfl
  ·exact h.ok r hr
  ·exact⟨hn,h1,h2⟩
 ·rcases aH hr with hr|hr
  ·exact h.nx _ _ hr
  ·cases hr
 ·rcases aH hr with hr|rfl
  ·exact h.rk r hr
  ·exact bQ _
 ·rcases aH hr with hr|hr
  ·exact QZX _ (h.hs _ _ hr)
  ·cases hr;exact QZW _ jI
structure Hd2(n t last:Nat)(rs:List RX):Prop where
 wh:RX.Whole rs
 ok:∀r∈rs,r.Ok
 nx:∀n' t',.next n' t'∈rs->n'=n/\t'=t
 one:.next n t∈rs
 rk:∀r∈rs,r.rank<=2
 kp:∀n' t' p k x y,.kept n' t' p k x y∈rs->n'<=last
def Hd2.more{n t last EJ:Nat}{rs:List RX}(h:Hd2 n t last rs)(hl:last<=EJ):Hd2 n t EJ rs:=⟨h.wh,h.ok,h.nx,h.one,h.rk,λn' t' p k x y q=>kN (h.kp n' t' p k x y q) hl⟩
def Hd2.step{n t last m u:Nat}{rs:List RX}(h:Hd2 n t last rs){p k:Str}{x:Dd}{y:An}(hm:last<m)(LG:m<n)(hn:n<=900006)(hu:u<=t)(ht:t<=1000000000000)(hp:fE p)(hk:wR k)(hx:x.Ok)(hy:An.Of x y):Hd2 n t m (rs++[.kept m u p k x y]):=by
 refine⟨h.wh.snoc ⟨h.rk,⟨n,t,h.one,LG,hu⟩,λn' t' p' k' d' y' q=>oZ (h.kp _ _ _ _ _ _ q) hm,hy⟩,λr hr=>?_,λn' t' hr=>?_,QZX _ h.one,λr hr=>?_,λn' t' p' k' x' y' hr=>?_⟩
 ·rcases aH hr with hr|rfl
  ·exact h.ok r hr
  ·exact⟨Zo,Zo,Zo,hp,hk,hx,hy⟩
 ·rcases aH hr with hr|hr
  ·exact h.nx _ _ hr
  ·cases hr
 ·rcases aH hr with hr|rfl
  ·exact h.rk r hr
  ·exact bQ _
 ·rcases aH hr with hr|hr
  ·exact le_of_lt (oZ (h.kp _ _ _ _ _ _ hr) hm)
  ·cases hr;exact bQ _
def aAV{zs:List Str}(hs:zs.Pairwise λa b=>a.cps.toList<=b.cps.toList)(hn:zs.Nodup){i:Nat}{z:Str}(h:zs[i]?=some z):∀y∈zs.take i,y.cps.toList<z.cps.toList:=by
 intro y hy;obtain⟨hi,ei⟩:=Zgs.mp h;obtain⟨j,hj,ej⟩:=getElem_of_mem hy;rw[jD]at hj;rw[List.getElem_take]at ej;have h1:=(pairwise_iff_getElem.mp hs) j i Zo hi Zo;have h2:=(pairwise_iff_getElem.mp hn) j i Zo hi Zo;rw[ej,ei]at h1 h2;rcases List.le_iff_lt_or_eq.mp h1 with h3|h3
 ·exact h3
 ·exact QZZ (by rw[pR y,pR z,h3]) h2
def Br:Sp:=λvs H Q _=>∃(d b lm:UF)(M:List UF),vs=[.ref d,.ref lm]/\Dk H d b/\MenusAt H lm M/\d∉M/\b∉M ∧
 ∀(ra:UF)(rs:List RX)(as:List UF)(H':Hp),H ra=none->RxsAt H' ra rs as->uY rs->Fw d b H H'->Q (.ref ra) H'
def Qk(T:Txt K mg)(b9:aG P w K mg base 1 "_law_draw" QZR bF)(J2:aG P w K mg base 2 "_law_end" QZR bF)(we:aG P w K mg base 4 "_law_kept" QZr uX)(D:DefAt K mg "_law_head" iQ QZO):aG P w K mg base 5 "_law_head" QZO Br:=by
 refine D.go cR (λvs H Q E h=>?_) (λf cdv A outer s H vs Q E hr h=>?_)
 ·obtain⟨d,b,lm,M,rfl,_⟩:=h;rfl
 ·obtain⟨d,b,lm,M,rfl,dk,hM,hd,hb,q⟩:=h;have c6:Room 1 _:=hr.mono Zd;have J3:Room 2 _:=hr.mono Zd;have wg:Room 4 _:=hr.mono Zd;refine⟨_,(lv (o0 (i:=2) cR.nd (li (sj (K:=K)) (sw (kt (ml sv lc (mk b9 c6 rfl (kt (kq 0) (kt lc lf)))) (kt (ml sv lc (mk b9 c6 rfl (kt (kq 0) (kt lc lf)))) lf))) (mk b9 c6 rfl (kt (kq 0) (kt lc lf))))) (lv (o0 (i:=3) cR.nd (mk J2 J3 rfl (kt (kq 0) (kt (ml R.eg lc (ml xy lc lc)) lf)))) (lv (o0 (i:=4) cR.nd (sw (kt (pi (kt mh (kt (kq 2) (kt (kq 3) lf)))) lf))) (lv (AT PassesOwn.never rfl (wf (K:=K) (su (R.ik (K:=K)) rfl T.b_sorted Eb (kt (li (sj (K:=K)) (kq 1) lc) lf))) (sx (i:=5) cR.nd) (mj (re (nw R.gt (mk b9 c6 rfl (kt (kq 0) (kt lc lf))) lc) (mj (xt (xr (K:=K) PySem.F.plainAttrs_list PySem.F.slot_list_append PySem.F.type_list_append DU (kq 4) (kt (pi (kt mh (kt (kq 5) (kt (ml sv lc (mk J2 J3 rfl (kt (kq 0) (kt (ml xy lc lc) lf)))) lf)))) lf)))) rp))) (lv (o0 (i:=6) cR.nd lc) (lv (AT PassesOwn.never rfl (PP rfl T.b_range (kt (mk b9 c6 rfl (kt (kq 0) (kt lc lf))) lf)) (sx (i:=7) cR.nd) (lv (o0 (i:=6) cR.nd (ml sv (ml sv (kq 6) lc) (li (sj (K:=K)) (sw (kt lc (kt lc (kt (mk b9 c6 rfl (kt (kq 0) (kt lc lf))) lf)))) (mk b9 c6 rfl (kt (kq 0) (kt lc lf)))))) (mj (re (nw xz (kq 6) (kq 2)) (mj (xt (xr (K:=K) PySem.F.plainAttrs_list PySem.F.slot_list_append PySem.F.type_list_append DU (kq 4) (kt (mk we wg rfl (kt (kq 0) (kt (kq 1) (kt (kq 6) (kt (mk J2 J3 rfl (kt (kq 0) (kt (ml sv (kq 3) lc) lf))) lf))))) lf)))) rp)))) (mj (ms (kq 4))))))))),?_⟩;refine bK (λσ' H'=>∃n:Nat,σ'=[some (.ref d),some (.ref lm),some (.int (n:Int)),none,none,none,none,none]/\1<=n/\n<=900006/\Fw d b H H') (λnx d7=>?_) ?_
  ·refine⟨d,b,12,rfl,dk,Zd,Zd,λr1 H1 a0 a1 D1 k1=>⟨d,b,900000,rfl,D1,Zd,Zd,λr2 H2 b0 b1 D2 k2=>⟨eK rfl,λp hp=>⟨d,b,2,rfl,D2.new hp,Zd,Zd,λr3 H3 c0 c1 D3 k3=>?_⟩⟩⟩⟩;have J7:=D2.ne hp;have gp:=k3 p _ aA J7.1 J7.2;have ff:=((((Fw.refl dk).draw D1 k1).draw D2 k2).new hp).draw D3 k3;rcases(by omega:r3=0∨r3=1) with rfl|rfl
   ·refine⟨_,QYU gp,_,rfl,d7 _ _ ⟨(1+r1).toNat,?_,Zo,Zo,ff⟩⟩;rw[Int.toNat_of_nonneg Zo];rfl
   ·refine⟨_,QYU gp,_,rfl,d7 _ _ ⟨(7+r2).toNat,?_,Zo,Zo,ff⟩⟩;rw[Int.toNat_of_nonneg Zo];rfl
  ·rintro σ' H1 ⟨n,rfl,BY,ng,f1⟩;refine⟨⟨Zd,Zd,Zd⟩,.inl ⟨Zd,Zd⟩,d,b,500000000000,rfl,f1.dk,Zd,Zd,λt H2 t0 t1 D2 k2=>?_⟩;obtain⟨t,rfl⟩:=dF t0;have f2:=f1.draw D2 k2;dsimp only [aK];refine⟨aL rfl,λa1 H3 s3 g3=>⟨eK rfl,λra LH=>?_⟩⟩;have f3:=f2.same s3;have zh:=f3.free LH;have f4:=f3.new (o:=.lst [.ref a1]) LH;have R4:RxsAt (aI H3 ra (.lst [.ref a1])) ra [.next n t] [a1]:=⟨aA,.cons (aN g3 LH) .nil⟩;dsimp only [aK];generalize aI H3 ra (.lst [.ref a1])=H4 at f4 R4;have VE:=f4.menus hd hb hM;have VB:=VE;obtain⟨a0,a1',a2,a3,ws,us,ps,ks,rfl,h0,h1,h2,h3,h4,mw,mu,⟨p1,p6,pn⟩,k1,k6,kn⟩:=VE.ex;refine bK (λσ' H'=>∃(rs:List RX)(as:List UF)(o5:Option V),σ'=[some (.ref d),some (.ref lm),some (.int (n:Int)),some (.int (t:Int)),some (.ref ra),o5,none,none]/\RxsAt H' ra rs as/\Fw d b H H'/\rs.length<=7/\Hd1 n t (vS ws) rs) (λnx d7=>?_) ?_
   ·refine⟨_,QYU h0,_,rfl,ws,.inl (QYU h1),by have:=mw.six;omega,λls CA=>⟨ls,rfl,⟨_,QYU aA⟩,?_⟩⟩;have hlr:ls≠ra:=(aE R4.lst CA).symm;have f5:=f4.new (o:=.lst ((vS ws).map V.str)) CA;have R5:=R4.same (aF (o:=.lst ((vS ws).map V.str)) CA);have BV:=f4.dk.ne CA;have w6:=mw.six;have VF:=f4.free CA;refine fN (dB K ls ((vS ws).map V.str)) (λi σ' H'=>∃(rs:List RX)(as:List UF)(o5:Option V),σ'=[some (.ref d),some (.ref lm),some (.int (n:Int)),some (.int (t:Int)),some (.ref ra),o5,none,none]/\RxsAt H' ra rs as/\Fw d b H H'/\H' ls=some (.lst ((vS ws).map V.str))/\rs.length<=1+i/\Hd1 n t ((vS ws).take i) rs) (λi σ' H' ⟨_,_,_,_,_,_,e,_⟩=>QYU e)
     ⟨[.next n t],[a1],_,rfl,R5,f5,aA,bQ _,?_⟩ ?_ ?_
    ·refine⟨RX.Whole.snoc .nil rfl,λr hr=>?_,λn' t' hr=>?_,jI,λr hr=>?_,λz m hr=>?_⟩
     ·rw[Zms.mp hr];exact⟨BY,Zo,Zo⟩
     ·cases Zms.mp hr;exact⟨rfl,rfl⟩
     ·rw[Zms.mp hr];exact zero_le _
     ·cases Zms.mp hr
    ·rintro i x σ' H6 hx ⟨rs,as,o5,rfl,R6,f6,g6,l6,LJ⟩;rw[jC]at hx;cases hz:(vS ws)[i]? with
     | none=>rw[hz]at hx;cases hx
     | some z=>
      rw[hz]at hx;cases hx;have hi:i<(vS ws).length:=(Zgs.mp hz).1;rw[uG]at hi;have LK:z∈ws:=(lM ws).mem_iff.mp (jW hz);have LL:=aAV (pS ws) ((lM ws).nodup_iff.mpr mw.of.nd) hz;have um:(vS ws).take (i+1)=(vS ws).take i++[z]:=by rw[List.take_add_one,hz];rfl
      dsimp only [aK];refine⟨d,b,3,rfl,f6.dk,Zd,Zd,λr H7 r0 r1 D7 k7=>?_⟩;have f7:=f6.draw D7 k7;have F7:=(Fw.refl f6.dk).draw D7 k7;have yc:=f6.d0.ne zh;have R7:=R6.keep F7.tk (F7.get R6.lst yc.1 yc.2);have g7:=F7.get g6 BV.1 BV.2;refine aQ (λ_=>?_) (λ_=>?_)
      ·refine⟨.inl ⟨rfl,_,QYU R7.lst⟩,⟨Zd,Zd,Zd⟩,d,b,1000000000000,rfl,D7,Zd,Zd,λm H8 m0 m1 D8 k8=>⟨aL rfl,λta H9 s9 g9=>?_⟩⟩;obtain⟨m,rfl⟩:=dF m0;have f8:=f7.draw D8 k8;have F8:=(Fw.refl D7).draw D8 k8;have f9:=f8.same s9;have R9:=(R7.keep F8.tk (F8.get R7.lst yc.1 yc.2)).same s9;have g9':=s9 _ _ (F8.get g7 BV.1 BV.2);have lr:=R9.len;refine⟨ra,_,_,rfl,rfl,R9.lst,by rw[aZ];exact oZ (m:=1000) Zo Zd,?_⟩;refine⟨rs++[.has z (1+m)],as++[ta],_,rfl,R9.snoc (fZ R9.lst) ?_ aA,f9.put zh,by rw[aD hlr];exact g9',by simp;omega,?_⟩
       ·have:=fZ R9.lst (ys:=as.map V.ref++[.ref ta]) _ _ g9;show _=some (HO.tup [V.str "has",.str z,.int ((1+m:Nat):Int)]);rw[this,show((1+m:Nat):Int)=1+(m:Int) by omega]
       ·rw[um];exact LJ.step LL (mw.of.of z LK) Zo Zo
      ·refine⟨rs,as,_,rfl,R7,f7,g7,Zo,?_⟩;rw[um];exact LJ.skip z
    ·rintro σ' H6 ⟨rs,as,o5,rfl,R6,f6,g6,l6,LJ⟩;refine d7 _ _ ⟨rs,as,o5,rfl,R6,f6,?_,?_⟩
     ·rw[aZ,uG]at l6;omega
     ·rw[aZ,vQ (bQ _)]at LJ;exact LJ
   ·rintro σ' H5 ⟨rs,as,o5,rfl,R5,f5,l5,yo⟩;have yc:=f5.d0.ne zh;refine⟨d,b,7,rfl,f5.dk,Zd,Zd,λr7 H6 r0 r1 D6 k6=>⟨r7,rfl,Zo,Zo,?_⟩⟩;have F6:=(Fw.refl f5.dk).draw D6 k6;have f6:=f5.draw D6 k6;have R6:=R5.keep F6.tk (F6.get R5.lst yc.1 yc.2);refine fN (dZ 0 r7.toNat) (λi σ' H'=>∃(rs:List RX)(as:List UF)(last:Nat)(o7:Option V),σ'=[some (.ref d),some (.ref lm),some (.int (n:Int)),some (.int (t:Int)),some (.ref ra),o5,some (.int (last:Int)),o7]/\RxsAt H' ra rs as/\Fw d b H H'/\rs.length<=7+i/\last<=9*i/\Hd2 n t last rs) (λ_ _ _ _=>trivial)
     ⟨rs,as,0,_,rfl,R6,f6,Zo,bQ _,⟨yo.wh,yo.ok,yo.nx,yo.one,λr hr=>Nat.le_succ_of_le (yo.rk r hr),λn' t' p k x y q=>QZZ (yo.rk _ q) (by show ¬ (2<=1);decide)⟩⟩ ?_ ?_
    ·rintro i x σ' H7 hx ⟨rs,as,last,o7,rfl,R7,f7,l7,la7,FU⟩;obtain⟨rfl,hi⟩:=lC hx;dsimp only [aK];refine bK (λσ' H'=>∃(m:Nat),σ'=[some (.ref d),some (.ref lm),some (.int (n:Int)),some (.int (t:Int)),some (.ref ra),o5,some (.int (m:Int)),some (.int (i:Int))]/\last<m/\m<=last+9/\RxsAt H' ra rs as/\Fw d b H H') (λQR Q1=>?_) ?_
     ·refine⟨d,b,9,rfl,f7.dk,Zd,Zd,λr8 H8 x0 x1 D8 k8=>⟨eK rfl,λp hp=>⟨d,b,3,rfl,D8.new hp,Zd,Zd,λr9 H9 y0 y1 D9 k9=>?_⟩⟩⟩;obtain⟨r8,rfl⟩:=dF x0;have J7:=D8.ne hp;have gp:=k9 p _ aA J7.1 J7.2;have F9:=(((Fw.refl f7.dk).draw D8 k8).new hp).draw D9 k9;have R9:=R7.keep F9.tk (F9.get R7.lst yc.1 yc.2);have f9:=f7.trans F9;rcases(by omega:r9=0∨r9=1∨r9=2) with rfl|rfl|rfl
      ·refine⟨_,QYU gp,_,rfl,Q1 _ _ ⟨last+1,?_,Zo,Zo,R9,f9⟩⟩;rw[show((last+1:Nat):Int)=(last:Int)+1+0 by omega];rfl
      ·refine⟨_,QYU gp,_,rfl,Q1 _ _ ⟨last+1,?_,Zo,Zo,R9,f9⟩⟩;rw[show((last+1:Nat):Int)=(last:Int)+1+0 by omega];rfl
      ·refine⟨_,QYU gp,_,rfl,Q1 _ _ ⟨last+1+r8,?_,Zo,Zo,R9,f9⟩⟩;rw[show((last+1+r8:Nat):Int)=(last:Int)+1+(r8:Int) by omega];rfl
     ·rintro σ' H8 ⟨m,rfl,m1,m2,R8,f8⟩;refine aQ (λB5=>?_) (λ_=>?_)
      ·have LG:m<n:=by have:=W9 B5;omega
       refine⟨.inl ⟨rfl,_,QYU R8.lst⟩,d,b,(t:Int)+1,rfl,f8.dk,Zo,Zo,λu H9 u0 u1 D9 k9=>?_⟩;obtain⟨u,rfl⟩:=dF u0;have F9:=(Fw.refl f8.dk).draw D9 k9;have f9:=f8.trans F9;have R9:=R8.keep F9.tk (F9.get R8.lst yc.1 yc.2);refine⟨d,b,lm,_,m,u,rfl,D9,f9.menus hd hb hM,hd,hb,λta p k x y Ha hp hk hxo hy at_ fa=>?_⟩;have Ra:=R9.keep fa.tk (fa.get R9.lst yc.1 yc.2);have lr:=Ra.len;refine⟨ra,_,_,rfl,rfl,Ra.lst,by rw[aZ];exact oZ (m:=1000) Zo Zd,?_⟩;refine⟨rs++[.kept m u p k x y],as++[ta],m,_,rfl,Ra.snoc (fZ Ra.lst) (at_.tk (fZ Ra.lst)) aA,(f9.trans fa).put zh,by simp;omega,Zo,?_⟩;exact FU.step m1 LG ng Zo Zo hp hk hxo hy
      ·exact⟨rs,as,m,_,rfl,R8,f8,Zo,Zo,FU.more (le_of_lt m1)⟩
    ·rintro σ' H7 ⟨rs,as,last,o7,rfl,R7,f7,l7,la7,FU⟩;refine q ra rs as H7 zh R7 ⟨FU.wh,FU.ok,FU.rk,?_,λn' t' hr=>?_⟩ f7
     ·rw[eJ]at l7;omega
     ·obtain⟨rfl,rfl⟩:=FU.nx _ _ hr;exact⟨Zo,Zo⟩
def zO:("abcdefghijklmnopqrstuvwxyz":Str)=tx LET:=by rw[pR ("abcdefghijklmnopqrstuvwxyz":Str),yV]
def Ql:("abcdefghijklmnopqrstuvwxyz":Str)++("0123456789":Str)=tx KLET:=by rw[pR ("abcdefghijklmnopqrstuvwxyz":Str),yV,pR ("0123456789":Str),Wg,uA];rfl
def kI{H:Hp}{a l:UF}{ws:List Str}{xs:List UF}(h1:H a=some (.lst (ws.map V.str)))(h2:1<=ws.length)(h3:H l=some (.lst (xs.map V.ref))):a≠l:=by
 intro e;rw[e,h3]at h1;cases ws with
 | nil=>cases h2
 | cons w ws=>
  cases xs with
  | nil=>cases h1
  | cons x xs=>cases h1
def Xp:LET.Nodup:=by decide
def aAW:KLET.Nodup:=by decide
def xG:Sp:=λvs H Q _=>∃(d b:UF),vs=[.ref d]/\Dk H d b/\∀(lm:UF)(M:List UF)(H':Hp),MenusAt H' lm M->d∉M->b∉M->Fw d b H H'->Q (.ref lm) H'
def aAX{d a0 a1 a2 a3 a4:UF}(h0:a0≠d)(h1:a1≠d)(h2:a2≠d)(h3:a3≠d)(h4:a4≠d):d∉[a0,a1,a2,a3,a4]:=by
 intro h;simp only [mem_cons,QZU,or_false]at h;rcases h with h|h|h|h|h
 ·exact h0 h.symm
 ·exact h1 h.symm
 ·exact h2 h.symm
 ·exact h3 h.symm
 ·exact h4 h.symm
def WordsOf.nm{ws:List Str}(h:WordsOf LET 8 ws):∀z∈ws,fE z:=λz hz=>h.of z hz
def WordsOf.ky{ws:List Str}(h:WordsOf KLET 12 ws):∀z∈ws,wR z:=λz hz=>h.of z hz
def Kv(T:Txt K mg)(b9:aG P w K mg base 1 "_law_draw" QZR bF)(Q2:aG P w K mg base 2 "_law_unlike" QZi sU)(D:DefAt K mg "_law_menus" gJ QZh):aG P w K mg base 3 "_law_menus" QZh xG:=by
 refine D.go iW (λvs H Q E h=>?_) (λf cdv A outer s H vs Q E hr h=>?_)
 ·obtain⟨d,b,rfl,_⟩:=h;rfl
 ·obtain⟨d,b,rfl,dk,q⟩:=h;have c6:Room 1 _:=hr.mono Zd;have Q3:Room 2 _:=hr.mono Zd;refine⟨_,(lv (o0 (i:=1) iW.nd mh) (lv (o0 (i:=2) iW.nd (sw (kt (mk Q2 Q3 rfl (kt (kq 0) (kt (kq 1) (kt lc (kt (ml sv lc (mk b9 c6 rfl (kt (kq 0) (kt lc lf)))) lf))))) lf))) (lv (xt (xr (K:=K) PySem.F.plainAttrs_list PySem.F.slot_list_append PySem.F.type_list_append DU (kq 2) (kt (mk Q2 Q3 rfl (kt (kq 0) (kt (kq 1) (kt lc (kt (ml sv lc (mk b9 c6 rfl (kt (kq 0) (kt lc lf)))) lf))))) lf))) (lv (xt (xr (K:=K) PySem.F.plainAttrs_list PySem.F.slot_list_append PySem.F.type_list_append DU (kq 2) (kt (mk Q2 Q3 rfl (kt (kq 0) (kt (kq 1) (kt lc (kt (ml sv lc (mk b9 c6 rfl (kt (kq 0) (kt lc lf)))) lf))))) lf))) (lv (xt (xr (K:=K) PySem.F.plainAttrs_list PySem.F.slot_list_append PySem.F.type_list_append DU (kq 2) (kt (mk Q2 Q3 rfl (kt (kq 0) (kt (ml R.ic (kq 1) mh) (kt lc (kt (ml sv lc (mk b9 c6 rfl (kt (kq 0) (kt lc lf)))) lf))))) lf))) (mj (ms (kq 2)))))))),?_⟩;refine⟨d,b,5,rfl,dk,Zd,Zd,λr1 H1 x0 x1 D1 e1=>?_⟩;obtain⟨r1,rfl⟩:=dF x0;refine⟨d,b,LET,8,2+r1,by rw[<- zO,show((2+r1:Nat):Int)=2+(r1:Int) by omega];rfl,D1,Zo,Zo,Zd,Xp,by show 2+r1<=26;omega,Zd,λa0 ws H2 hw lw g0 n0 m0 D2 e2=>⟨eK rfl,λlm IF=>?_⟩⟩;have f2:=((Fw.refl dk).draw D1 e1).draw D2 e2;have nl:=D2.ne IF;have f3:=f2.new (o:=.lst [.ref a0]) IF;have gl:(aI H2 lm (.lst [.ref a0])) lm=some (.lst ([a0].map V.ref)):=aA;replace g0:=aN (u:=.lst [.ref a0]) g0 IF;dsimp only [aK];generalize aI H2 lm (.lst [.ref a0])=H3 at f3 gl g0;refine⟨.inl ⟨rfl,_,QYU gl⟩,d,b,5,rfl,f3.dk,Zd,Zd,λr2 H4 x0 x1 D4 e4=>?_⟩;obtain⟨r2,rfl⟩:=dF x0;refine⟨d,b,LET,8,2+r2,by rw[<- zO,show((2+r2:Nat):Int)=2+(r2:Int) by omega];rfl,D4,Zo,Zo,Zd,Xp,by show 2+r2<=26;omega,Zd,λa1 us H5 hu lu g1 n1 m1 D5 e5=>?_⟩;have f5:=(f3.draw D4 e4).draw D5 e5;have F5:=((Fw.refl f3.dk).draw D4 e4).draw D5 e5;replace gl:=F5.get gl nl.1 nl.2;replace g0:=F5.get g0 n0 m0;have QS:=kI g0 Zo gl;have QT:=kI g1 Zo gl;refine⟨lm,_,_,rfl,rfl,gl,oZ (m:=100) (QZY rfl) Zd,?_⟩;have f6:=f5.put (f2.free IF) (o:=.lst ([a0].map V.ref++[.ref a1]));replace gl:(aI H5 lm (.lst ([a0].map V.ref++[.ref a1]))) lm=some (.lst ([a0,a1].map V.ref)):=aA;replace g0:(aI H5 lm (.lst ([a0].map V.ref++[.ref a1]))) a0=_:=(aD QS).trans g0;replace g1:(aI H5 lm (.lst ([a0].map V.ref++[.ref a1]))) a1=_:=(aD QT).trans g1;generalize aI H5 lm (.lst ([a0].map V.ref++[.ref a1]))=H6 at f6 gl g0 g1;refine⟨.inl ⟨rfl,_,QYU gl⟩,d,b,6,rfl,f6.dk,Zd,Zd,λr3 H7 x0 x1 D7 e7=>?_⟩;obtain⟨r3,rfl⟩:=dF x0;refine⟨d,b,LET,8,1+r3,by rw[<- zO,show((1+r3:Nat):Int)=1+(r3:Int) by omega];rfl,D7,Zo,Zo,Zd,Xp,by show 1+r3<=26;omega,Zd,λa2 ps H8 hp lp g2 n2 m2 D8 e8=>?_⟩;have f8:=(f6.draw D7 e7).draw D8 e8;have F8:=((Fw.refl f6.dk).draw D7 e7).draw D8 e8;replace gl:=F8.get gl nl.1 nl.2;replace g0:=F8.get g0 n0 m0;replace g1:=F8.get g1 n1 m1;have VG:=kI g2 Zo gl;refine⟨lm,_,_,rfl,rfl,gl,oZ (m:=100) (QZY rfl) Zd,?_⟩;have f9:=f8.put (f2.free IF) (o:=.lst ([a0,a1].map V.ref++[.ref a2]));replace gl:(aI H8 lm (.lst ([a0,a1].map V.ref++[.ref a2]))) lm=some (.lst ([a0,a1,a2].map V.ref)):=aA;replace g0:(aI H8 lm (.lst ([a0,a1].map V.ref++[.ref a2]))) a0=_:=(aD QS).trans g0;replace g1:(aI H8 lm (.lst ([a0,a1].map V.ref++[.ref a2]))) a1=_:=(aD QT).trans g1;replace g2:(aI H8 lm (.lst ([a0,a1].map V.ref++[.ref a2]))) a2=_:=(aD VG).trans g2;generalize aI H8 lm (.lst ([a0,a1].map V.ref++[.ref a2]))=H9 at f9 gl g0 g1 g2;refine⟨.inl ⟨rfl,_,QYU gl⟩,fA Zk,d,b,6,rfl,f9.dk,Zd,Zd,λr4 Ha x0 x1 Da ea=>?_⟩;obtain⟨r4,rfl⟩:=dF x0;refine⟨d,b,KLET,12,1+r4,by rw[<- Ql,show((1+r4:Nat):Int)=1+(r4:Int) by omega];rfl,Da,Zo,Zo,Zd,aAW,by show 1+r4<=36;omega,Zd,λa3 ks Hb hk lk g3 n3 m3 Db eb=>?_⟩;have fb:=(f9.draw Da ea).draw Db eb;have Fb:=((Fw.refl f9.dk).draw Da ea).draw Db eb;replace gl:=Fb.get gl nl.1 nl.2;replace g0:=Fb.get g0 n0 m0;replace g1:=Fb.get g1 n1 m1;replace g2:=Fb.get g2 n2 m2;have w31:=kI g3 Zo gl;refine⟨lm,_,_,rfl,rfl,gl,oZ (m:=100) (QZY rfl) Zd,?_⟩;have fc:=fb.put (f2.free IF) (o:=.lst ([a0,a1,a2].map V.ref++[.ref a3]));replace gl:(aI Hb lm (.lst ([a0,a1,a2].map V.ref++[.ref a3]))) lm=some (.lst ([a0,a1,a2,a3].map V.ref)):=aA;replace g0:(aI Hb lm (.lst ([a0,a1,a2].map V.ref++[.ref a3]))) a0=_:=(aD QS).trans g0;replace g1:(aI Hb lm (.lst ([a0,a1,a2].map V.ref++[.ref a3]))) a1=_:=(aD QT).trans g1;replace g2:(aI Hb lm (.lst ([a0,a1,a2].map V.ref++[.ref a3]))) a2=_:=(aD VG).trans g2;replace g3:(aI Hb lm (.lst ([a0,a1,a2].map V.ref++[.ref a3]))) a3=_:=(aD w31).trans g3;generalize aI Hb lm (.lst ([a0,a1,a2].map V.ref++[.ref a3]))=Hc at fc gl g0 g1 g2 g3;have mw:Menu ws:=⟨hw,Zo,Zo⟩;have mu:Menu us:=⟨hu,Zo,Zo⟩;have hM:MenusAt Hc lm [lm,a0,a1,a2,a3]:=⟨a0,a1,a2,a3,ws,us,ps,ks,rfl,gl,g0,g1,g2,g3,mw,mu,⟨Zo,Zo,hp.nm⟩,Zo,Zo,hk.ky⟩;have od:=aAX nl.1 n0 n1 n2 n3;have ob:=aAX nl.2 m0 m1 m2 m3;exact q lm _ Hc hM od ob fc
def Kw(H:Hp)(e:UF)(n:Nat)(t:UF)(x:Dd)(q:Bool):Prop:=H e=some (.lst [.int (n:Int),.ref t,.bl q])/\H t=some (.tup x.vs)
def Bs(x:Dd):gT (.str x.wd) [.str "send",.str "fetch",.str "pass"]=x.far:=by cases x<;>rfl
def bH:RX->Str|.next _ _=>"next"|.has _ _=>"has"|.kept _ _ _ _ _ _=>"kept"|.came _ _ _ _ _=>"came"|.asked _=>"asked"|.done _ _ _=>"done"
def Kx:RX->V|.next n _=>.int (n:Int)|.has z _=>.str z|.kept n _ _ _ _ _=>.int (n:Int)|.came n _ _ _ _=>.int (n:Int)|.asked n=>.int (n:Int)|.done n _ _=>.int (n:Int)
def Ky:RX->V|.next _ t=>.int (t:Int)|.has _ m=>.int (m:Int)|.kept _ t _ _ _ _=>.int (t:Int)|.came _ t _ _ _=>.int (t:Int)|.asked _=>.non|.done _ t _=>.int (t:Int)
def bO{H:Hp}{a:UF}{r:RX}(h:r.At H a):∃xs,H a=some (.tup xs)/\mW xs 0=some (.str (bH r))/\mW xs 1=some (Kx r)/\(Ky r≠.non->mW xs 2=some (Ky r)):=by
 cases r with
 | next n t=>exact⟨_,h,rfl,rfl,λ_=>rfl⟩
 | has z m=>exact⟨_,h,rfl,rfl,λ_=>rfl⟩
 | kept n t p k d y=>obtain⟨b,c,h1,h2,h3⟩:=h;exact⟨_,h1,rfl,rfl,λ_=>rfl⟩
 | came n t p k d=>obtain⟨b,h1,h2⟩:=h;exact⟨_,h1,rfl,rfl,λ_=>rfl⟩
 | asked n=>exact⟨_,h,rfl,rfl,λz=>QZZ rfl z⟩
 | done n t y=>obtain⟨b,h1,h2⟩:=h;exact⟨_,h1,rfl,rfl,λ_=>rfl⟩
structure Un where
 n:Nat
 x:Dd
 q:Bool
 e:Addr
 t:Addr
def Kz{us:List Un}(h:(us.map (·.n)).Nodup){i j:Nat}{u v:Un}(hi:us[i]?=some u)(hj:us[j]?=some v)(hn:i≠j):u.n≠v.n:=by
 intro e;obtain⟨LM,FO⟩:=Zgs.mp hi;obtain⟨CB,yl⟩:=Zgs.mp hj;have p:=pairwise_iff_getElem.mp h;rcases Nat.lt_or_gt_of_ne hn with z|z
 ·have:=p i j (by simpa using LM) (by simpa using CB) z;simp only [getElem_map,FO,yl]at this;exact this e
 ·have:=p j i (by simpa using CB) (by simpa using LM) z;simp only [getElem_map,FO,yl]at this;exact this e.symm
def lX{α:Type}{us:List α}{j:Nat}{u v:α}(h:v∈us.set j u):v=u∨∃i,i≠j/\us[i]?=some v:=by
 obtain⟨i,hi,e⟩:=getElem_of_mem h;rw[getElem_set]at e;split at e
 ·exact .inl e.symm
 ·rename_i C7;rw[length_set]at hi;exact .inr ⟨i,λz=>C7 z.symm,by rw[gZ hi,e]⟩
def Bt(x:Dd):∀v∈x.vs,eC v=true:=by
 intro v hv;cases x<;>simp only [Dd.vs,mem_cons,QZU,or_false]at hv<;>rcases hv with rfl|rfl|rfl|rfl|rfl<;>rfl
def Dk.put'{H':Hp}{d b:UF}{o:HO}{a:UF}(D:Dk H' d b)(h1:a≠d)(h2:a≠b):Dk (aI H' a o) d b:=by
 obtain⟨ns,s,k,e1,e2,e3⟩:=D.ex;exact⟨ns,s,k,by rw[aD h1.symm];exact e1,by rw[aD h2.symm];exact e2,e3⟩
def Xq{us:List Un}(h:(us.map (·.e)).Nodup){i j:Nat}{u v:Un}(hi:us[i]?=some u)(hj:us[j]?=some v)(hn:i≠j):u.e≠v.e:=by
 intro e;obtain⟨LM,FO⟩:=Zgs.mp hi;obtain⟨CB,yl⟩:=Zgs.mp hj;have p:=pairwise_iff_getElem.mp h;rcases Nat.lt_or_gt_of_ne hn with z|z
 ·have:=p i j (by simpa using LM) (by simpa using CB) z;simp only [getElem_map,FO,yl]at this;exact this e
 ·have:=p j i (by simpa using CB) (by simpa using LM) z;simp only [getElem_map,FO,yl]at this;exact this e.symm
def lY{r:RX}(h:bH r="next"):∃n t,r=.next n t:=by
 cases r with
 | next n t=>exact⟨n,t,rfl⟩
 | has z m=>exact QZZ (show("has":Str)="next" from h) Zk
 | kept n t p k x y=>exact QZZ (show("kept":Str)="next" from h) Zk
 | came n t p k x=>exact QZZ (show("came":Str)="next" from h) Zk
 | asked n=>exact QZZ (show("asked":Str)="next" from h) Zk
 | done n t y=>exact QZZ (show("done":Str)="next" from h) Zk
def Bu{r:RX}(h:bH r="kept"):∃n t p k x y,r=.kept n t p k x y:=by
 cases r with
 | kept n t p k x y=>exact⟨n,t,p,k,x,y,rfl⟩
 | has z m=>exact QZZ (show("has":Str)="kept" from h) Zk
 | next n t=>exact QZZ (show("next":Str)="kept" from h) Zk
 | came n t p k x=>exact QZZ (show("came":Str)="kept" from h) Zk
 | asked n=>exact QZZ (show("asked":Str)="kept" from h) Zk
 | done n t y=>exact QZZ (show("done":Str)="kept" from h) Zk
def zP{r:RX}(h:bH r="has"):∃z m,r=.has z m:=by
 cases r with
 | has z m=>exact⟨z,m,rfl⟩
 | next n t=>exact QZZ (show("next":Str)="has" from h) Zk
 | kept n t p k x y=>exact QZZ (show("kept":Str)="has" from h) Zk
 | came n t p k x=>exact QZZ (show("came":Str)="has" from h) Zk
 | asked n=>exact QZZ (show("asked":Str)="has" from h) Zk
 | done n t y=>exact QZZ (show("done":Str)="has" from h) Zk
def uZ{r:RX}(h:bH r="came"):∃n t p k x,r=.came n t p k x:=by
 cases r with
 | came n t p k x=>exact⟨n,t,p,k,x,rfl⟩
 | has z m=>exact QZZ (show("has":Str)="came" from h) Zk
 | next n t=>exact QZZ (show("next":Str)="came" from h) Zk
 | kept n t p k x y=>exact QZZ (show("kept":Str)="came" from h) Zk
 | asked n=>exact QZZ (show("asked":Str)="came" from h) Zk
 | done n t y=>exact QZZ (show("done":Str)="came" from h) Zk
def Bv{r:RX}(h:bH r="done"):∃n t y,r=.done n t y:=by
 cases r with
 | done n t y=>exact⟨n,t,y,rfl⟩
 | has z m=>exact QZZ (show("has":Str)="done" from h) Zk
 | next n t=>exact QZZ (show("next":Str)="done" from h) Zk
 | kept n t p k x y=>exact QZZ (show("kept":Str)="done" from h) Zk
 | asked n=>exact QZZ (show("asked":Str)="done" from h) Zk
 | came n t p k x=>exact QZZ (show("came":Str)="done" from h) Zk
def cE{α:Type}{xs:List α}{i:Nat}{x:α}(h:xs[i]?=some x):xs.take (i+1)=xs.take i++[x]:=by rw[List.take_add_one,h];rfl
def fV{rs:List RX}(h:RX.Whole rs){n t t':Nat}{p k p' k':Str}{x x':Dd}(h1:.came n t p k x∈rs)(h2:.came n t' p' k' x'∈rs):RX.came n t p k x=.came n t' p' k' x':=by
 induction h with
 | nil=>cases h1
 | snoc hw hf ih=>
  rcases aH h1 with h1|h1
  ·rcases aH h2 with h2|h2
   ·exact ih h1 h2
   ·rw[<- h2]at hf;exact QZZ (hf.1 _ _ _ _ _ h1) (lt_irrefl _)
  ·rcases aH h2 with h2|h2
   ·rw[<- h1]at hf;exact QZZ (hf.1 _ _ _ _ _ h2) (lt_irrefl _)
   ·rw[h1,h2]
def dS(ps:List RX)(w:Str):Option RX:=ps.foldl (λo r=>if bH r=w then some r else o) none
def dG(ps:List RX)(r:RX)(w:Str):dS (ps++[r]) w=if bH r=w then some r else dS ps w:=by
 unfold dS;rw[foldl_append];rfl
def cP(ps:List RX):Nat:=ps.foldl (λ_ r=>r.rank) 0
def gX(ps:List RX)(r:RX):cP (ps++[r])=r.rank:=by unfold cP;rw[foldl_append];rfl
def kS:RX->Bool|.next _ _=>true|.came _ _ _ _ _=>true|.done _ _ _=>true|_=>false
def cH(ps:List RX):Nat:=ps.foldl (λt r=>if kS r=true then r.turn else t) 0
def kT(ps:List RX)(r:RX):cH (ps++[r])=if kS r=true then r.turn else cH ps:=by unfold cH;rw[foldl_append];rfl
def Bw{r:RX}(h:¬ kS r=true):r.turn=0:=by cases r<;>first|rfl|exact QZZ rfl h
def qG{ps:List RX}(h:RX.Whole ps):∀ {w:Str}{r:RX},dS ps w=some r->r∈ps/\bH r=w:=by
 induction h with
 | nil=>intro w r e;cases e
 | @snoc rs q _ _ ih=>
  intro w r e;rw[dG]at e;split at e
  ·cases e;exact⟨QZW _ jI,by assumption⟩
  ·exact⟨QZX _ (ih e).1,(ih e).2⟩
def iA{ps:List RX}(h:RX.Whole ps):∀ {r:RX},r∈ps->dS ps (bH r)≠none:=by
 induction h with
 | nil=>intro r e;cases e
 | @snoc rs q _ _ ih=>
  intro r e;rw[dG];rcases aH e with e|rfl
  ·split
   ·intro z;cases z
   ·exact ih e
  ·rw[TD rfl];intro z;cases z
def Qm{ps:List RX}(h:RX.Whole ps):∀q∈ps,q.rank<=cP ps:=by
 induction h with
 | nil=>intro q e;cases e
 | @snoc rs r _ hf ih=>
  intro q e;rw[gX];rcases aH e with e1|rfl
  ·cases r with
   | next n t=>rw[show rs=[] from hf]at e1;cases e1
   | has z m=>exact hf.1 q e1
   | kept n t p k d y=>exact hf.1 q e1
   | came n t p k d=>cases q<;>(show _<=3;exact QZY rfl)
   | asked n=>cases q<;>(show _<=3;exact QZY rfl)
   | done n t y=>cases q<;>(show _<=3;exact QZY rfl)
  ·exact bQ _
def gC{ps:List RX}(h:RX.Whole ps)(k:Nat):(∀q∈ps,q.rank<=k)↔cP ps<=k:=by
 refine⟨λz=>?_,λz q hq=>kN (Qm h q hq) z⟩
 cases h with
 | nil=>exact zero_le _
 | @snoc rs r _ _=>rw[gX];exact z r (QZW _ jI)
def lZ{ps:List RX}(h:RX.Whole ps):∀k:Nat,(∀q∈ps,q.turn<=k)↔cH ps<=k:=by
 induction h with
 | nil=>intro k;exact⟨λ_=>zero_le _,λ_ q e=>nomatch e⟩
 | @snoc rs r hw hf ih=>
  intro k;rw[kT];refine⟨λz=>?_,λz q hq=>?_⟩
  ·split
   ·exact z r (QZW _ jI)
   ·exact(ih k).mp λq hq=>z q (QZX _ hq)
  ·rcases aH hq with CC|rfl
   ·split at z
    ·cases r with
     | next n t=>rw[show rs=[] from hf]at CC;cases CC
     | came n t p k d=>exact kN (hf.2.2 q CC) z
     | done n t y=>exact kN (hf.1 q CC) z
     | _=>rename_i hh;cases hh
    ·exact(ih k).mpr z q CC
   ·split at z
    ·exact z
    ·rename_i hh;rw[Bw hh];exact zero_le _
def kJ{ps:List RX}(h:RX.Whole ps):∀ {n t n' t':Nat},.next n t∈ps->.next n' t'∈ps->n=n'/\t=t':=by
 induction h with
 | nil=>intro n t n' t' e;cases e
 | @snoc rs r hw hf ih=>
  have no:∀ {n t n' t':Nat},r=.next n t->.next n' t'∉rs:=λe m=>by rw[e]at hf;rw[show rs=[] from hf]at m;cases m
  intro n t n' t' e1 e2;rcases aH e1 with z1|z1
  ·rcases aH e2 with z2|z2
   ·exact ih z1 z2
   ·exact QZZ z1 (no z2.symm)
  ·rcases aH e2 with z2|z2
   ·exact QZZ z2 (no z1.symm)
   ·rw[<- z1]at z2;cases z2;exact⟨rfl,rfl⟩
def Lk{ps:List RX}(h:RX.Whole ps):∀ {z:Str}{m:Nat},dS ps "has"=some (.has z m)->∀z' m',.has z' m'∈ps->z'=z∨z'.cps.toList<z.cps.toList:=by
 induction h with
 | nil=>intro z m e;cases e
 | @snoc rs r hw hf ih=>
  intro z m e z' m' hm;rw[dG]at e;split at e
  ·cases e;rcases aH hm with hm|hm
   ·exact .inr (hf.2.2 _ _ hm)
   ·cases hm;exact .inl rfl
  ·rename_i hh;rcases aH hm with hm|hm
   ·exact ih e _ _ hm
   ·subst hm;exact QZZ rfl hh
def Ey{ps:List RX}(h:RX.Whole ps):∀ {n t:Nat}{p k:Str}{x:Dd}{y:An},dS ps "kept"=some (.kept n t p k x y)->∀n' t' p' k' x' y',.kept n' t' p' k' x' y'∈ps->n'<=n:=by
 induction h with
 | nil=>intro n t p k x y e;cases e
 | @snoc rs r hw hf ih=>
  intro n t p k x y e n' t' p' k' x' y' hm;rw[dG]at e;split at e
  ·cases e;rcases aH hm with hm|hm
   ·exact le_of_lt (hf.2.2.1 _ _ _ _ _ _ hm)
   ·cases hm;exact bQ _
  ·rename_i hh;rcases aH hm with hm|hm
   ·exact ih e _ _ _ _ _ _ hm
   ·subst hm;exact QZZ rfl hh
def Ez{ps:List RX}(h:RX.Whole ps):∀ {n t:Nat}{p k:Str}{x:Dd},dS ps "came"=some (.came n t p k x)->∀n' t' p' k' x',.came n' t' p' k' x'∈ps->n'<=n:=by
 induction h with
 | nil=>intro n t p k x e;cases e
 | @snoc rs r hw hf ih=>
  intro n t p k x e n' t' p' k' x' hm;rw[dG]at e;split at e
  ·cases e;rcases aH hm with hm|hm
   ·exact le_of_lt (hf.1 _ _ _ _ _ hm)
   ·cases hm;exact bQ _
  ·rename_i hh;rcases aH hm with hm|hm
   ·exact ih e _ _ _ _ _ hm
   ·subst hm;exact QZZ rfl hh
def qH(y:An):Prop:=∃x:Dd,x.Ok/\An.Of x y
def cI:RX->Prop
 | .kept _ _ _ _ d y=>d.Ok/\An.Of d y
 | .came _ _ _ _ d=>d.Ok
 | .done _ _ y=>qH y
 | .has _ m=>m<=1000000000000
 | _=>True
def Qn{y:An}(hy:qH y){g:Str}(e:y=.no g):fE g:=by
 obtain⟨d,hd,h⟩:=hy;subst e;cases d with
 | send u a n=>rw[show g=u from h];exact hd.1
 | fetch u a n=>rw[show g=u from h];exact hd.1
 | pass u g' a n=>
  rcases(show g=u∨g=g' from h) with rfl|rfl
  ·exact hd.1
  ·exact hd.2.1
 | _=>exact h.elim
def zQ{ps:List RX}(h:RX.Whole ps)(ho:∀r∈ps,r.Ok):∀r∈ps,cI r:=by
 induction h with
 | nil=>intro r e;cases e
 | @snoc rs r hw hf ih=>
  intro q hq;have Q5:∀r∈rs,r.Ok:=λr hr=>ho r (QZX _ hr)
  rcases aH hq with hq|rfl
  ·exact ih Q5 q hq
  ·have:=ho q (QZW _ jI)
   cases q with
   | kept n t p k d y=>exact⟨this.2.2.2.2.2.1,this.2.2.2.2.2.2⟩
   | came n t p k d=>exact this.2.2.2.2.2
   | has z m=>exact this.2.2
   | done n t y=>
    obtain⟨_,_,t0,p,k,d,hm,zx,_⟩:=hf;exact⟨d,(Q5 _ hm).2.2.2.2.2,zx⟩
   | _=>trivial
def qI(rs:List RX):Option Nat->Prop
 | none=>RX.Whole rs
 | some i=>∃r,rs[i]?=some r/\RX.Whole (rs.take i)/\¬ RX.Fits (rs.take i) r
def mE{rs:List RX}(h:RX.Whole rs):∀ {i:Nat}{r:RX},rs[i]?=some r->RX.Whole (rs.take i)/\RX.Fits (rs.take i) r:=by
 induction h with
 | nil=>intro i r e;cases e
 | @snoc rs q hw hf ih=>
  intro i r e;by_cases hi:i<rs.length
  ·rw[List.getElem?_append_left hi]at e;rw[List.take_append_of_le_length (le_of_lt hi)];exact ih e
  ·rw[List.getElem?_append_right Zo]at e;have:i=rs.length:=by
    have:=(Zgs.mp e).1;simp at this;omega
   subst this;rw[Nat.sub_self]at e;cases e;rw[List.take_left];exact⟨hw,hf⟩
def xH{rs:List RX}{o o':Option Nat}(h:qI rs o)(h':qI rs o'):o=o':=by
 have key:∀ {i j:Nat},qI rs (some i)->qI rs (some j)->¬ i<j:=λ{i j} hi hj IC=>by
  obtain⟨r,e1,_,n1⟩:=hi;obtain⟨_,_,w2,_⟩:=hj;have e:(rs.take j)[i]?=some r:=by rw[List.getElem?_take_of_lt IC];exact e1
  have:=(mE w2 e).2;rw[List.take_take,min_eq_left (le_of_lt IC)]at this;exact n1 this
 cases o with
 | none=>cases o' with
  | none=>rfl
  | some j=>obtain⟨r,e,_,n⟩:=h';exact QZZ (mE h e).2 n
 | some i=>cases o' with
  | none=>obtain⟨r,e,_,n⟩:=h;exact QZZ (mE h' e).2 n
  | some j=>
   have h1:=key h h';have h2:=key h' h;rw[show i=j by omega]
def Fa:Option Nat->V|none=>.non|some i=>.int (i:Int)
def dQ:Dd->List (Str×List V)
 | .send h a n=>[(h,[.str "add",.str a,.int (n:Int)])]
 | .fetch h a n=>[(h,[.str "take",.str a,.int (n:Int)])]
 | .pass h g a n=>[(h,[.str "take",.str a,.int (n:Int)]),(g,[.str "add",.str a,.int (n:Int)])]
 | _=>[]
def zR{d:Dd}(h:d.Ok):DWN d.wd (d.n:Int) d.vs (dQ d):=by
 cases d with
 | add a n=>exact⟨⟨a,a,a,_,.add⟩,(λq hq=>nomatch hq)⟩
 | take a n=>exact⟨⟨a,a,a,_,.take⟩,(λq hq=>nomatch hq)⟩
 | move a b n=>exact⟨⟨a,b,a,_,.move⟩,(λq hq=>nomatch hq)⟩
 | send g a n=>exact⟨⟨g,a,a,_,.send⟩,λq hq=>by rw[Zms.mp hq];exact h.1⟩
 | fetch g a n=>exact⟨⟨g,a,a,_,.fetch⟩,λq hq=>by rw[Zms.mp hq];exact h.1⟩
 | pass g g' a n=>exact⟨⟨g,g',a,_,.pass⟩,λq hq=>by
   simp only [dQ,mem_cons,QZU,or_false]at hq;rcases hq with rfl|rfl
   ·exact h.1
   ·exact h.2.1⟩
def xI(d:Dd):(dQ d).length=0↔d.far=false:=by cases d<;>simp[dQ,Dd.far]
def Nb(a b:Int)(m:Nat):aW [.int (m:Int)] [(a,b)]=true↔a<=(m:Int)/\(m:Int)<=b:=by
 simp[aW,yW]
def wi2(a b c d:Int)(l m:Nat):aW [.int (l:Int),.int (m:Int)] [(a,b),(c,d)]=true↔(a<=(l:Int)/\(l:Int)<=b)/\c<=(m:Int)/\(m:Int)<=d:=by
 simp[aW,yW]
def Qo(a b:Int)(l m:Nat):aW [.int (l:Int),.int (m:Int)] [(a,b)]=true↔False:=by simp[aW]
def aBP(a b c d:Int)(m:Nat):aW [.int (m:Int)] [(a,b),(c,d)]=true↔False:=by simp[aW]
def Xr{d:Dd}{y:An}(hd:d.Ok):Ej d.wd ((dQ d).map (·.1)) (d.n:Int) y.vs=true↔An.Of d y:=by
 have hn:=hd.n;have ff:∀ {p:Prop},¬ p->((false=true)↔p):=λh=>⟨nofun,λz=>QZZ z h⟩
 cases d with
 | add a n=>cases y with
  | is1 m=>show aW [.int (m:Int)] [((n:Int),1000000000000)]=true↔n<=m/\m<=1000000000000;rw[Nb];omega
  | is2 l m=>show aW [.int (l:Int),.int (m:Int)] [((n:Int),1000000000000)]=true↔False;exact Qo ..
  | short m=>exact ff id
  | full m=>show aW [.int (m:Int)] [(1000000000000-(n:Int)+1,1000000000000)]=true↔1000000000000<m+n/\m<=1000000000000;rw[Nb];omega
  | no h=>exact ff id
  | ok=>exact ff id
 | take a n=>cases y with
  | is1 m=>show aW [.int (m:Int)] [(0,1000000000000-(n:Int))]=true↔m+n<=1000000000000;rw[Nb];omega
  | is2 l m=>show aW [.int (l:Int),.int (m:Int)] [(0,1000000000000-(n:Int))]=true↔False;exact Qo ..
  | short m=>show aW [.int (m:Int)] [(0,(n:Int)-1)]=true↔m<n;rw[Nb];omega
  | full m=>exact ff id
  | no h=>exact ff id
  | ok=>exact ff id
 | move a b n=>cases y with
  | is1 m=>show aW [.int (m:Int)] [(0,1000000000000-(n:Int)),((n:Int),1000000000000)]=true↔False;exact aBP ..
  | is2 l m=>
   have BU:1<=n/\n<=1000000000000:=hn;show aW [.int (l:Int),.int (m:Int)] [(0,1000000000000-(n:Int)),((n:Int),1000000000000)]=true↔l+n<=1000000000000/\n<=m/\m<=1000000000000;rw[wi2];omega
  | short m=>show aW [.int (m:Int)] [(0,(n:Int)-1)]=true↔m<n;rw[Nb];omega
  | full m=>show aW [.int (m:Int)] [(1000000000000-(n:Int)+1,1000000000000)]=true↔1000000000000<m+n/\m<=1000000000000;rw[Nb];omega
  | no h=>exact ff id
  | ok=>exact ff id
 | send g a n=>cases y with
  | is1 m=>show aW [.int (m:Int)] [(0,1000000000000-(n:Int))]=true↔m+n<=1000000000000;rw[Nb];omega
  | is2 l m=>show aW [.int (l:Int),.int (m:Int)] [(0,1000000000000-(n:Int))]=true↔False;exact Qo ..
  | short m=>show aW [.int (m:Int)] [(0,(n:Int)-1)]=true↔m<n;rw[Nb];omega
  | full m=>exact ff id
  | no h=>show oK (.str h) [g]=true↔h=g;simp[oK]
  | ok=>exact ff id
 | fetch g a n=>cases y with
  | is1 m=>show aW [.int (m:Int)] [((n:Int),1000000000000)]=true↔n<=m/\m<=1000000000000;rw[Nb];omega
  | is2 l m=>show aW [.int (l:Int),.int (m:Int)] [((n:Int),1000000000000)]=true↔False;exact Qo ..
  | short m=>exact ff id
  | full m=>show aW [.int (m:Int)] [(1000000000000-(n:Int)+1,1000000000000)]=true↔1000000000000<m+n/\m<=1000000000000;rw[Nb];omega
  | no h=>show oK (.str h) [g]=true↔h=g;simp[oK]
  | ok=>exact ff id
 | pass g g' a n=>cases y with
  | is1 m=>exact ff id
  | is2 l m=>exact ff id
  | short m=>exact ff id
  | full m=>exact ff id
  | no h=>show oK (.str h) [g,g']=true↔h=g∨h=g';simp[oK]
  | ok=>exact⟨λ_=>trivial,λ_=>rfl⟩
def aAY{H:Hp}{c:UF}{y:An}(h:H c=some (.tup y.vs))(hf:qH y):Tg H (.ref c):=by
 refine .tup h (by cases y<;>exact QZY rfl) λv hv=>?_
 cases y with
 | is1 m=>simp only [An.vs,mem_cons,QZU,or_false]at hv;rcases hv with rfl|rfl<;>first|exact .int|exact .str Zk
 | is2 l m=>simp only [An.vs,mem_cons,QZU,or_false]at hv;rcases hv with rfl|rfl|rfl<;>first|exact .int|exact .str Zk
 | short m=>simp only [An.vs,mem_cons,QZU,or_false]at hv;rcases hv with rfl|rfl<;>first|exact .int|exact .str Zk
 | full m=>simp only [An.vs,mem_cons,QZU,or_false]at hv;rcases hv with rfl|rfl<;>first|exact .int|exact .str Zk
 | no g=>
  have:=Qn hf rfl;simp only [An.vs,mem_cons,QZU,or_false]at hv;rcases hv with rfl|rfl
  ·exact .str Zk
  ·exact .str (by have:=this.2.1;omega)
 | ok=>simp only [An.vs,mem_cons,QZU,or_false]at hv;rw[hv];exact .str Zk
structure Xs(K:W.Frag)(C:UF):Prop where
 cl:Cls K C
 n1:NoAttr K C "last_rows"
 n2:NoAttr K C "last_rank"
 n3:NoAttr K C "last_turn"
 n4:NoAttr K C "kept_numbers"
 n5:NoAttr K C "came_deeds"
 n6:NoAttr K C "asked_numbers"
 n7:NoAttr K C "done_numbers"
structure WA where
 dx:Addr
 d1:Addr
 d2:Addr
 d3:Addr
 d4:Addr
 d5:Addr
def Xt(A:WA)(rk tn:Nat):List (Str×V):=[("last_rows",.ref A.d1),("last_rank",.int (rk:Int)),("last_turn",.int (tn:Int)),("kept_numbers",.ref A.d2),("came_deeds",.ref A.d3),("asked_numbers",.ref A.d4),("done_numbers",.ref A.d5)]
def NumK(kvs:List (bA×V))(p:Nat->Prop):Prop:=∀n:Nat,(bC kvs (Sum.inl (n:Int))).isSome=true↔p n
structure aAZ(H:Hp)(kvs:List (bA×V))(ps:List RX):Prop where
 em:kvs.length=0↔ps=[]
 no:∀w:Str,dS ps w=none->bC kvs (Sum.inr w)=none
 yes:∀(w:Str)(r:RX),dS ps w=some r->∃b,bC kvs (Sum.inr w)=some (.ref b)/\r.At H b
structure aA0(H:Hp)(kvs:List (bA×V))(ps:List RX):Prop where
 no:∀n:Nat,bC kvs (Sum.inl (n:Int))=none->∀t p k x,.came n t p k x∉ps
 yes:∀(n:Nat)(v:V),bC kvs (Sum.inl (n:Int))=some v->∃b t p k x,v=.ref b/\H b=some (.tup x.vs)/\.came n t p k x∈ps
structure WkG(H:Hp)(C a:UF)(A:WA)(rk tn:Nat)(k1 k2 k3 k4 k5:List (bA×V)):Prop where
 ins:H a=some (.ins C A.dx (Xt A rk tn))
 g1:H A.d1=some (.dK k1)
 g2:H A.d2=some (.dK k2)
 g3:H A.d3=some (.dK k3)
 g4:H A.d4=some (.dK k4)
 g5:H A.d5=some (.dK k5)
structure WkP(H:Hp)(ps:List RX)(k1 k2 k3 k4 k5:List (bA×V)):Prop where
 l1:k1.length<=ps.length
 l2:k2.length<=ps.length
 l3:k3.length<=ps.length
 l4:k4.length<=ps.length
 l5:k5.length<=ps.length
 last:aAZ H k1 ps
 kept:NumK k2 λn=>∃t p k x y,.kept n t p k x y∈ps
 came:aA0 H k3 ps
 asked:NumK k4 λn=>.asked n∈ps
 done:NumK k5 λn=>∃t y,.done n t y∈ps
structure WkF(H0:Hp)(a:UF)(A:WA):Prop where
 fa:H0 a=none
 f1:H0 A.d1=none
 f2:H0 A.d2=none
 f3:H0 A.d3=none
 f4:H0 A.d4=none
 f5:H0 A.d5=none
 nd:[A.d1,A.d2,A.d3,A.d4,A.d5].Nodup
def WkAt(H0 H:Hp)(C a:UF)(A:WA)(ps:List RX):Prop:=WkF H0 a A/\Same H0 H/\∃k1 k2 k3 k4 k5,WkG H C a A (cP ps) (cH ps) k1 k2 k3 k4 k5/\WkP H ps k1 k2 k3 k4 k5
def WkG.same{H H':Hp}{C a:UF}{A:WA}{rk tn:Nat}{k1 k2 k3 k4 k5:List (bA×V)}(h:WkG H C a A rk tn k1 k2 k3 k4 k5)(s:Same H H'):WkG H' C a A rk tn k1 k2 k3 k4 k5:=
 ⟨s _ _ h.ins,s _ _ h.g1,s _ _ h.g2,s _ _ h.g3,s _ _ h.g4,s _ _ h.g5⟩
def WkP.tk{H H':Hp}{ps:List RX}{k1 k2 k3 k4 k5:List (bA×V)}(h:WkP H ps k1 k2 k3 k4 k5)(s:TK H H'):WkP H' ps k1 k2 k3 k4 k5:=
 ⟨h.l1,h.l2,h.l3,h.l4,h.l5,⟨h.last.em,h.last.no,λw r e=>by obtain⟨b,h1,h2⟩:=h.last.yes w r e;exact⟨b,h1,h2.tk s⟩⟩,h.kept,⟨h.came.no,λn v e=>by obtain⟨b,t,p,k,x,h1,h2,h3⟩:=h.came.yes n v e;exact⟨b,t,p,k,x,h1,s _ _ h2,h3⟩⟩,h.asked,h.done⟩
def WkAt.same{H0 H H':Hp}{C a:UF}{A:WA}{ps:List RX}(h:WkAt H0 H C a A ps)(s:Same H H'):WkAt H0 H' C a A ps:=by
 obtain⟨h1,h2,k1,k2,k3,k4,k5,h3,h4⟩:=h;exact⟨h1,h2.trans s,k1,k2,k3,k4,k5,h3.same s,h4.tk s.tk⟩
section
variable {H:Hp}{C a:UF}{A:WA}{rk tn:Nat}{k1 k2 k3 k4 k5:List (bA×V)}
def WkG.ne(h:WkG H C a A rk tn k1 k2 k3 k4 k5):a≠A.d1/\a≠A.d2/\a≠A.d3/\a≠A.d4/\a≠A.d5:=
 ⟨fW h.ins h.g1 nofun,fW h.ins h.g2 nofun,fW h.ins h.g3 nofun,fW h.ins h.g4 nofun,fW h.ins h.g5 nofun⟩
def WkF.nn{H0:Hp}(f:WkF H0 a A):A.d1≠A.d2/\A.d1≠A.d3/\A.d1≠A.d4/\A.d1≠A.d5/\A.d2≠A.d3/\A.d2≠A.d4/\A.d2≠A.d5/\A.d3≠A.d4/\A.d3≠A.d5/\A.d4≠A.d5:=by
 have:=f.nd;simp only [nodup_cons,mem_cons,QZU,or_false,not_or]at this;obtain⟨⟨a1,a2,a3,a4⟩,⟨b1,b2,b3⟩,⟨c1,c2⟩,d1,_⟩:=this;exact⟨a1,a2,a3,a4,b1,b2,b3,c1,c2,d1⟩
def WkG.put1{H0:Hp}(f:WkF H0 a A)(h:WkG H C a A rk tn k1 k2 k3 k4 k5)(k:List (bA×V)):WkG (aI H A.d1 (.dK k)) C a A rk tn k k2 k3 k4 k5:=by
 obtain⟨a1,a2,a3,a4,a5⟩:=h.ne;obtain⟨IG,IH,II,IJ,IK,IL,IM,IP,IQ,IS⟩:=f.nn;exact⟨by rw[aD a1];exact h.ins,aA,by rw[aD IG.symm];exact h.g2,by rw[aD IH.symm];exact h.g3,by rw[aD II.symm];exact h.g4,by rw[aD IJ.symm];exact h.g5⟩
def WkG.put2{H0:Hp}(f:WkF H0 a A)(h:WkG H C a A rk tn k1 k2 k3 k4 k5)(k:List (bA×V)):WkG (aI H A.d2 (.dK k)) C a A rk tn k1 k k3 k4 k5:=by
 obtain⟨a1,a2,a3,a4,a5⟩:=h.ne;obtain⟨IG,IH,II,IJ,IK,IL,IM,IP,IQ,IS⟩:=f.nn;exact⟨by rw[aD a2];exact h.ins,by rw[aD IG];exact h.g1,aA,by rw[aD IK.symm];exact h.g3,by rw[aD IL.symm];exact h.g4,by rw[aD IM.symm];exact h.g5⟩
def WkG.put3{H0:Hp}(f:WkF H0 a A)(h:WkG H C a A rk tn k1 k2 k3 k4 k5)(k:List (bA×V)):WkG (aI H A.d3 (.dK k)) C a A rk tn k1 k2 k k4 k5:=by
 obtain⟨a1,a2,a3,a4,a5⟩:=h.ne;obtain⟨IG,IH,II,IJ,IK,IL,IM,IP,IQ,IS⟩:=f.nn;exact⟨by rw[aD a3];exact h.ins,by rw[aD IH];exact h.g1,by rw[aD IK];exact h.g2,aA,by rw[aD IP.symm];exact h.g4,by rw[aD IQ.symm];exact h.g5⟩
def WkG.put4{H0:Hp}(f:WkF H0 a A)(h:WkG H C a A rk tn k1 k2 k3 k4 k5)(k:List (bA×V)):WkG (aI H A.d4 (.dK k)) C a A rk tn k1 k2 k3 k k5:=by
 obtain⟨a1,a2,a3,a4,a5⟩:=h.ne;obtain⟨IG,IH,II,IJ,IK,IL,IM,IP,IQ,IS⟩:=f.nn;exact⟨by rw[aD a4];exact h.ins,by rw[aD II];exact h.g1,by rw[aD IL];exact h.g2,by rw[aD IP];exact h.g3,aA,by rw[aD IS.symm];exact h.g5⟩
def WkG.put5{H0:Hp}(f:WkF H0 a A)(h:WkG H C a A rk tn k1 k2 k3 k4 k5)(k:List (bA×V)):WkG (aI H A.d5 (.dK k)) C a A rk tn k1 k2 k3 k4 k:=by
 obtain⟨a1,a2,a3,a4,a5⟩:=h.ne;obtain⟨IG,IH,II,IJ,IK,IL,IM,IP,IQ,IS⟩:=f.nn;exact⟨by rw[aD a5];exact h.ins,by rw[aD IJ];exact h.g1,by rw[aD IM];exact h.g2,by rw[aD IQ];exact h.g3,by rw[aD IS];exact h.g4,aA⟩
def WkG.fld(h:WkG H C a A rk tn k1 k2 k3 k4 k5)(VH VI:Nat):WkG (aI H a (.ins C A.dx (Xt A VH VI))) C a A VH VI k1 k2 k3 k4 k5:=by
 obtain⟨a1,a2,a3,a4,a5⟩:=h.ne;exact⟨aA,by rw[aD a1.symm];exact h.g1,by rw[aD a2.symm];exact h.g2,by rw[aD a3.symm];exact h.g3,by rw[aD a4.symm];exact h.g4,by rw[aD a5.symm];exact h.g5⟩
end
def Tc(ps:List RX):RX->Prop
 | .has z _=>∀z' m,.has z' m∈ps->z'.cps.toList<z.cps.toList
 | .kept n _ _ _ _ _=>∀n' t' p' k' d' y',.kept n' t' p' k' d' y'∈ps->n'<n
 | .came n _ _ _ _=>∀n' t' p' k' d',.came n' t' p' k' d'∈ps->n'<n
 | _=>False
def Qp:RX->Bool|.has _ _=>true|.kept _ _ _ _ _ _=>true|.came _ _ _ _ _=>true|_=>false
def qJ(C:UF):Sp:=λvs H Q _=>∃(a b:UF)(H0:Hp)(A:WA)(ps:List RX)(r:RX),vs=[.ref a,.ref b]/\WkAt H0 H C a A ps/\r.At H b/\RX.Whole ps/\Qp r=true/\∀fb:Bool,(fb=true↔Tc ps r)->Q (.bl fb) H
def aA1{a b c:Str}(h1:a=b∨a.cps.toList<b.cps.toList)(h2:b.cps.toList<c.cps.toList):a.cps.toList<c.cps.toList:=by
 rcases h1 with rfl|h1
 ·exact h2
 ·exact List.lt_trans h1 h2
def Fc{C:UF}(B:Xs K C)(D:MethAt K C "rises" "Walk.rises" fP QZQ):sJ P w K mg base 1 C "rises" QZQ (qJ C):=by
 refine D.go rH (λvs H Q E h=>?_) (λf cdv A outer s H vs Q E hr h=>?_)
 ·obtain⟨a,b,H0,A,ps,r,rfl,_⟩:=h;rfl
 ·obtain⟨a,b,H0,A,ps,r,rfl,⟨_,_,k1,k2,k3,k4,k5,W,WP⟩,j7,hw,zy,q⟩:=h;have J8:=jK hr;obtain⟨xs,g,x0,x1,x2⟩:=bO j7;refine⟨_,(mj (ms (R.or (sq (R.fi J8) (li (mi (K:=K)) (kq 1) lc) (vi (K:=K) (kq 0))) (tf (sq R.jb (li (mi (K:=K)) (R.dz J8 (vi (K:=K) (kq 0)) (li (mi (K:=K)) (kq 1) lc)) lc) (li (mi (K:=K)) (kq 1) lc)))))),?_⟩;refine⟨_,QYV g,_,x0,C,A.dx,_,.ref A.d1,W.ins,B.cl,B.n1,rfl,_,DGet.k (k:=Sum.inr (bH r)) W.g1,?_⟩
  cases e:dS ps (bH r) with
  | none=>
   rw[WP.last.no _ e];refine q true ⟨λ_=>?_,λ_=>rfl⟩
   cases r with
   | has z m=>exact λz' m' hm=>QZZ e (iA (r:=.has z' m') hw hm)
   | kept n t p k d y=>exact λn' t' p' k' d' y' hm=>QZZ e (iA (r:=.kept n' t' p' k' d' y') hw hm)
   | came n t p k d=>exact λn' t' p' k' d' hm=>QZZ e (iA (r:=.came n' t' p' k' d') hw hm)
   | _=>cases zy
  | some r'=>
   obtain⟨b',hv,AA⟩:=WP.last.yes _ _ e;obtain⟨B6,FV⟩:=qG hw e;obtain⟨QU,g',NR,FW,wj⟩:=bO AA;have dg:=DGet.k (k:=Sum.inr (bH r)) W.g1;rw[hv]at dg ⊢;refine⟨C,A.dx,_,.ref A.d1,W.ins,B.cl,B.n1,rfl,_,QYV g,_,x0,A.d1,_,rfl,dg,_,QYV g',_,FW,_,QYV g,_,x1,?_⟩
   cases r with
   | has z m=>
    obtain⟨z',m',rfl⟩:=zP FV;refine q _ ⟨λh z2 m2 vq=>?_,λh=>?_⟩
    ·exact aA1 (Lk hw e z2 m2 vq) (W9 h)
    ·exact W7 (h _ _ B6)
   | kept n t p k d y=>
    obtain⟨n',t',p',k',d',y',rfl⟩:=Bu FV;refine q _ ⟨λh n2 t2 p2 k2 d2 y2 vq=>?_,λh=>?_⟩
    ·have:=Ey hw e _ _ _ _ _ _ vq;have h':(n':Int)<(n:Int):=W9 h;omega
    ·exact W7 (by have:=h _ _ _ _ _ _ B6;omega)
   | came n t p k d=>
    obtain⟨n',t',p',k',d',rfl⟩:=uZ FV;refine q _ ⟨λh n2 t2 p2 k2 d2 vq=>?_,λh=>?_⟩
    ·have:=Ez hw e _ _ _ _ _ vq;have h':(n':Int)<(n:Int):=W9 h;omega
    ·exact W7 (by have:=h _ _ _ _ _ B6;omega)
   | _=>cases zy
def Bx(C:UF):Sp:=λvs H Q _=>∃(a b:UF)(H0:Hp)(A:WA)(ps:List RX)(n t:Nat)(p k:Str)(x:Dd)(y:An)(n0 t0:Nat),vs=[.ref a,.ref b]/\WkAt H0 H C a A ps/\RX.At H b (.kept n t p k x y)/\RX.Whole ps/\.next n0 t0∈ps/\∀fb:Bool,(fb=true↔Tc ps (.kept n t p k x y)/\n<n0/\t<=t0)->Q (.bl fb) H
def Ll{C:UF}(B:Xs K C)(z9:sJ P w K mg base 1 C "rises" QZQ (qJ C))(D:MethAt K C "fits_kept" "Walk.fits_kept" dH QZQ):sJ P w K mg base 2 C "fits_kept" QZQ (Bx C):=by
 refine D.go gL (λvs H Q E h=>?_) (λf cdv A outer s H vs Q E hr h=>?_)
 ·obtain⟨a,b,H0,A,ps,n,t,p,k,x,y,n0,t0,rfl,_⟩:=h;rfl
 ·obtain⟨a,b,H0,A,ps,n,t,p,k,x,y,n0,t0,rfl,WW,j7,hw,d7,q⟩:=h;have⟨_,_,k1,k2,k3,k4,k5,W,WP⟩:=WW;have J8:=jK hr;have v8:Room 1 _:=hr;obtain⟨b1,b2,g,_⟩:=id j7;have hl:dS ps "next"=some (.next n0 t0):=by
   cases e:dS ps "next" with
   | none=>exact QZZ e (iA hw d7)
   | some r=>
    obtain⟨hm,QV⟩:=qG hw e;obtain⟨n',t',rfl⟩:=lY QV;obtain⟨rfl,rfl⟩:=kJ hw hm d7;rfl
  obtain⟨b',hv,gn⟩:=WP.last.yes _ _ hl;have dg:=DGet.k (k:=Sum.inr ("next":Str)) W.g1;rw[hv]at dg;refine⟨_,(lv (o0 (i:=2) gL.nd (R.dz J8 (vi (K:=K) (kq 0)) mh)) (mj (ms (u8 (yx z9 v8 (kq 0) (kt (kq 1) lf)) (u8 (sq xz (li (mi (K:=K)) (kq 1) lc) (li (mi (K:=K)) (kq 2) lc)) (tf (sq yy (li (mi (K:=K)) (kq 1) lc) (li (mi (K:=K)) (kq 2) lc)))))))),?_⟩;refine⟨C,A.dx,_,.ref A.d1,W.ins,B.cl,B.n1,rfl,A.d1,_,rfl,dg,?_⟩;dsimp only [aK];refine⟨A.dx,_,W.ins,rfl,a,b,H0,A,ps,_,rfl,WW,j7,hw,rfl,λfb Y0=>?_⟩;show if fb=true then _ else _
  cases fb with
  | false=>exact q false ⟨nofun,λz=>Y0.mpr z.1⟩
  | true=>
   have zy:=Y0.mp rfl;refine⟨_,QYV g,_,rfl,_,QYV gn,_,rfl,?_⟩;refine aQ (λh=>?_) (λh=>?_)
   ·refine⟨_,QYV g,_,rfl,_,QYV gn,_,rfl,?_⟩;refine q _ ⟨λz=>⟨zy,?_,?_⟩,λz=>?_⟩
    ·have:=W9 h;omega
    ·have:=W9 z;omega
    ·exact W7 (by have:=z.2.2;omega)
   ·exact q false ⟨nofun,λz=>QZZ (W8 h) (by have:=z.2.1;omega)⟩
def Lm(C:UF):Sp:=λvs H Q _=>∃(a b:UF)(H0:Hp)(A:WA)(ps:List RX)(n t:Nat)(y:An)(t0:Nat)(p k:Str)(x:Dd),vs=[.ref a,.ref b]/\WkAt H0 H C a A ps/\RX.At H b (.done n t y)/\RX.Whole ps/\qH y/\x.Ok/\.came n t0 p k x∈ps/\∀(fb:Bool)(H':Hp),(fb=true↔An.Of x y/\(x.far=true->(.asked n∈ps↔y.early=false)))->Same H H'->Q (.bl fb) H'
def By{y:An}:∃u,mW y.vs 0=some (.str u)/\gT (.str u) UAW=y.early:=by
 cases y with
 | is1 m=>exact⟨"is",rfl,rfl⟩
 | is2 l m=>exact⟨"is",rfl,rfl⟩
 | short m=>exact⟨"short",rfl,rfl⟩
 | full m=>exact⟨"full",rfl,rfl⟩
 | no h=>exact⟨"no",rfl,rfl⟩
 | ok=>exact⟨"ok",rfl,rfl⟩
def Bz{H:Hp}{C a:UF}{A:WA}{ps:List RX}{rk tn:Nat}{k1 k2 k3 k4 k5:List (bA×V)}(g:WkG H C a A rk tn k1 k2 k3 k4 k5)(h:WkP H ps k1 k2 k3 k4 k5)(hw:RX.Whole ps){n t:Nat}{p k:Str}{x:Dd}(hm:.came n t p k x∈ps):∃b,DGet H A.d3 (.int (n:Int)) (some (.ref b))/\H b=some (.tup x.vs):=by
 have dg:=DGet.k (k:=Sum.inl (n:Int)) g.g3
 cases e:bC k3 (Sum.inl (n:Int)) with
 | none=>exact QZZ hm (h.came.no n e t p k x)
 | some v=>
  obtain⟨b,t',p',k',x',rfl,h2,h3⟩:=h.came.yes n v e;have:=fV hw hm h3;cases this;rw[e]at dg;exact⟨b,dg,h2⟩
def zS{b c:Bool}{p:Prop}(h:b=true↔p):(!decide (b=c))=true↔(p↔c=false):=by
 cases b<;>cases c<;>simp_all
def Qq{C:UF}(T:Txt K mg)(U:Top w.params K mg)(B:Xs K C)(uo:aG P w K mg base 4 "is_answer" QZm Bk)(d9:aG P w K mg base 1 "asks_of" QZP kZ)(D:MethAt K C "fits_answer" "Walk.fits_answer" cS QZQ):sJ P w K mg base 5 C "fits_answer" QZQ (Lm C):=by
 refine D.go dN (λvs H Q E h=>?_) (λf cdv A outer s H vs Q E hr h=>?_)
 ·obtain⟨a,b,H0,A,ps,n,t,y,t0,p,k,x,rfl,_⟩:=h;rfl
 ·obtain⟨a,b,H0,A,ps,n,t,y,t0,p,k,x,rfl,⟨_,_,k1,k2,k3,k4,k5,W,WP⟩,j7,hw,hy,hx,hm,q⟩:=h;have J8:=jK hr;have oa:Room 4 _:=hr;have d6:Room 1 _:=hr.mono Zd;obtain⟨aU,X2,tU⟩:=U.g_UNASKED_WORDS;obtain⟨c,g,gc⟩:=id j7;obtain⟨bd,dg,gd⟩:=Bz W WP hw hm;refine⟨_,(lv (o0 (i:=2) dN.nd (R.dz J8 (vi (K:=K) (kq 0)) (li (mi (K:=K)) (kq 1) lc))) (lv (re (xu (wn (mk uo oa rfl (kt (kq 2) (kt (li (mi (K:=K)) (kq 1) lc) lf))))) (mj (ms tj)) rp) (lv (o0 (i:=3) dN.nd (sq (R.fh J8) (li (mi (K:=K)) (kq 1) lc) (vi (K:=K) (kq 0)))) (mj (ms (R.or (sq rq (su (sy (K:=K)) rfl T.b_len aO (kt (mk d9 d6 rfl (kt (kq 2) lf)) lf)) lc) (tf (sq IN (kq 3) (sq (tz (K:=K)) (li (mi (K:=K)) (li (mi (K:=K)) (kq 1) lc) lc) (vk rfl X2)))))))))),?_⟩;refine⟨C,A.dx,_,.ref A.d3,W.ins,B.cl,B.n5,rfl,_,QYV g,_,rfl,A.d3,_,rfl,dg,?_⟩;dsimp only [aK];refine⟨_,QYV g,_,rfl,bd,x.wd,x.n,x.vs,dQ x,.ref c,rfl,gd,zR hx,aAY gc hy,λH1 s1=>?_⟩;have ea:zA H x.wd ((dQ x).map (·.1)) (x.n:Int) (.ref c)=Ej x.wd ((dQ x).map (·.1)) (x.n:Int) y.vs:=by unfold zA;rw[pY gc]
  rw[ea];have QW:=Xr (y:=y) hx;generalize Ej x.wd ((dQ x).map (·.1)) (x.n:Int) y.vs=ab at QW;cases ab with
  | false=>exact q false H1 ⟨nofun,λz=>QW.mpr z.1⟩ s1
  | true=>
   have zx:=QW.mp rfl;have W1:=W.same s1;refine⟨_,QYV (s1 _ _ g),_,rfl,C,A.dx,_,.ref A.d4,W1.ins,B.cl,B.n6,rfl,_,DGet.k (k:=Sum.inl (n:Int)) W1.g4,?_⟩;have AB:=WP.asked n;dsimp only [aK];obtain⟨cs,kr⟩:=(zR hx).dwx;refine⟨bd,x.wd,x.vs,cs,dQ x,rfl,s1 _ _ gd,kr,λtu us H2 s2 g2 ha=>⟨us,.inr (QYV g2),?_⟩⟩;have NS:=s1.trans s2;have hlen:=ha.length;have wk:=xI x;show if decide ((us.length:Int)=0)=true then _ else _
   refine aQ (λh=>?_) (λh=>?_)
   ·refine q true H2 ⟨λ_=>⟨zx,λz=>?_⟩,λ_=>rfl⟩ NS;have:=W9 h;have:=wk.mp Zo;rw[this]at z;cases z
   ·have hf:x.far=true:=by
     cases e:x.far with
     | true=>rfl
     | false=>
      have:=wk.mpr e;exact QZZ (W8 h) Zo
    obtain⟨u,QX,NT⟩:=By (y:=y);refine⟨_,QYV (NS _ _ g),_,rfl,_,QYV (NS _ _ gc),_,QX,aU,_,rfl,.inr (tU _),rfl,rfl,?_⟩;refine q _ H2 ⟨λz=>⟨zx,λ_=>?_⟩,λz=>?_⟩ NS
    ·exact(zS AB).mp (NT▸z)
    ·have:=(zS AB).mpr (z.2 hf);rw[<- NT]at this;exact this
def Ca(C:UF):Sp:=λvs H Q _=>∃(a b:UF)(H0:Hp)(A:WA)(ps:List RX)(r:RX),vs=[.ref a,.ref b]/\WkAt H0 H C a A ps/\r.At H b/\RX.Whole ps/\(∀q∈ps,cI q)/\cI r/\∀(fb:Bool)(H':Hp),(fb=true↔RX.Fits ps r)->Same H H'->Q (.bl fb) H'
def Qr(r:RX):RKS.lookup (bH r)=some (r.rank:Int):=by cases r<;>rfl
def Ln{C:UF}(T:Txt K mg)(U:Top w.params K mg)(B:Xs K C)(z9:sJ P w K mg base 1 C "rises" QZQ (qJ C))(Q8:sJ P w K mg base 2 C "fits_kept" QZQ (Bx C))(M9:sJ P w K mg base 5 C "fits_answer" QZQ (Lm C))(d9:aG P w K mg base 1 "asks_of" QZP kZ)(D:MethAt K C "fits" "Walk.fits" gF QZQ):sJ P w K mg base 6 C "fits" QZQ (Ca C):=by
 refine D.go lT (λvs H Q E h=>?_) (λf cdv A outer s H vs Q E hr h=>?_)
 ·obtain⟨a,b,H0,A,ps,r,rfl,_⟩:=h;rfl
 ·obtain⟨a,b,H0,A,ps,r,rfl,WW,j7,hw,NU,mn,q⟩:=h;have⟨_,_,k1,k2,k3,k4,k5,W,WP⟩:=WW;have J8:=jK hr;have v8:Room 1 _:=hr.mono Zd;have Q4:Room 2 _:=hr.mono Zd;have M7:Room 5 _:=hr;have d6:Room 1 _:=hr.mono Zd;obtain⟨aR,og,tR⟩:=U.g_RANKS;have sr:=Same.refl H;have d7:(bC k1 (Sum.inr ("next":Str))).isSome=true↔∃n t,.next n t∈ps:=by
   constructor
   ·intro h;cases e:dS ps "next" with
    | none=>rw[WP.last.no _ e]at h;cases h
    | some r'=>
     obtain⟨hm,QV⟩:=qG hw e;obtain⟨n',t',rfl⟩:=lY QV;exact⟨n',t',hm⟩
   ·rintro⟨n,t,hm⟩
    cases e:dS ps "next" with
    | none=>exact QZZ e (iA hw hm)
    | some r'=>obtain⟨b',hv,_⟩:=WP.last.yes _ _ e;rw[hv];rfl
  have NV:∀n:Nat,(bC k3 (Sum.inl (n:Int))).isSome=true↔∃t p k x,.came n t p k x∈ps:=λn=>by
   constructor
   ·intro h;cases e:bC k3 (Sum.inl (n:Int)) with
    | none=>rw[e]at h;cases h
    | some v=>obtain⟨b,t,p,k,x,_,_,hm⟩:=WP.came.yes n v e;exact⟨t,p,k,x,hm⟩
   ·rintro⟨t,p,k,x,hm⟩
    cases e:bC k3 (Sum.inl (n:Int)) with
    | none=>exact QZZ hm (WP.came.no n e _ _ _ _)
    | some v=>rfl
  refine⟨_,(lv (o0 (i:=2) lT.nd (li (mi (K:=K)) (kq 1) lc)) (lv (re (nw rq (kq 2) mh) (mj (ms (sq rq (su R.jc rfl T.b_len aO (kt (vi (K:=K) (kq 0)) lf)) lc))) rp) (lv (re (nw xz (li (R.jk (K:=K) (P:=w.params)) (vk rfl og) (kq 2)) (vi (K:=K) (kq 0))) (mj (ms tj)) rp) (lv (re (nw rq (kq 2) mh) (mj (ms (u8 (sq (R.fh J8) mh (vi (K:=K) (kq 0))) (tf (yx z9 v8 (kq 0) (kt (kq 1) lf)))))) rp) (lv (re (nw rq (kq 2) mh) (mj (ms (u8 (sq (R.fh J8) mh (vi (K:=K) (kq 0))) (tf (yx Q8 Q4 (kq 0) (kt (kq 1) lf)))))) rp) (lv (re (nw rq (kq 2) mh) (mj (ms (u8 (yx z9 v8 (kq 0) (kt (kq 1) lf)) (u8 (sq (R.fi J8) (li (mi (K:=K)) (kq 1) lc) (vi (K:=K) (kq 0))) (tf (sq R.ge (li (mi (K:=K)) (kq 1) lc) (vi (K:=K) (kq 0)))))))) rp) (lv (re (ve (wp (nw (R.fi J8) (li (mi (K:=K)) (kq 1) lc) (vi (K:=K) (kq 0))) (xw (nw (R.fh J8) (li (mi (K:=K)) (kq 1) lc) (vi (K:=K) (kq 0)))))) (mj (ms tj)) rp) (lv (re (nw rq (kq 2) mh) (mj (ms (u8 (sq (R.fi J8) (li (mi (K:=K)) (kq 1) lc) (vi (K:=K) (kq 0))) (tf (sq R.gt (su (sy (K:=K)) rfl T.b_len aO (kt (mk d9 d6 rfl (kt (R.dz J8 (vi (K:=K) (kq 0)) (li (mi (K:=K)) (kq 1) lc)) lf)) lf)) lc))))) rp) (mj (ms (u8 (sq R.ge (li (mi (K:=K)) (kq 1) lc) (vi (K:=K) (kq 0))) (tf (yx M9 M7 (kq 0) (kt (kq 1) lf)))))))))))))),?_⟩
  cases r with
  | next n t=>
   refine⟨_,QYV j7,_,rfl,?_⟩;dsimp only [aK];refine⟨C,A.dx,_,.ref A.d1,W.ins,B.cl,B.n1,rfl,_,W.g1,?_⟩;refine q _ H ⟨λz=>?_,λz=>?_⟩ sr
   ·exact WP.last.em.mp (by have:=W9 z;omega)
   ·exact W7 (by have:=WP.last.em.mpr z;omega)
  | has z m=>
   refine⟨_,QYV j7,_,rfl,?_⟩;dsimp only [aK];refine⟨RKS,1,tR,rfl,C,A.dx,_,.int (cP ps:Int),W.ins,B.cl,B.n2,rfl,?_⟩;refine aQ (λh=>?_) (λh=>?_)
   ·refine q false H ⟨nofun,λz=>?_⟩ sr;have:=(gC hw 1).mp z.1;exact QZZ (W9 h) Zo
   ·have EK:cP ps<=1:=by have:=W8 h;omega
    refine⟨C,A.dx,_,.ref A.d1,W.ins,B.cl,B.n1,rfl,_,DGet.k (k:=Sum.inr ("next":Str)) W.g1,?_⟩;show if (bC k1 (Sum.inr ("next":Str))).isSome=true then _ else _
    refine aQ (λh1=>?_) (λh1=>?_)
    ·refine⟨A.dx,_,W.ins,rfl,a,b,H0,A,ps,_,rfl,WW,j7,hw,rfl,λfb Y0=>?_⟩;exact q fb H ⟨λz=>⟨(gC hw 1).mpr EK,d7.mp h1,Y0.mp z⟩,λz=>Y0.mpr z.2.2⟩ sr
    ·refine q false H ⟨nofun,λz=>?_⟩ sr;rw[d7.mpr z.2.1]at h1;cases h1
  | kept n t p k x y=>
   obtain⟨b1,b2,g,_⟩:=id j7;refine⟨_,QYV g,_,rfl,?_⟩;dsimp only [aK];refine⟨RKS,2,tR,rfl,C,A.dx,_,.int (cP ps:Int),W.ins,B.cl,B.n2,rfl,?_⟩;refine aQ (λh=>?_) (λh=>?_)
   ·refine q false H ⟨nofun,λz=>?_⟩ sr;have:=(gC hw 2).mp z.1;exact QZZ (W9 h) Zo
   ·have EK:cP ps<=2:=by have:=W8 h;omega
    refine⟨C,A.dx,_,.ref A.d1,W.ins,B.cl,B.n1,rfl,_,DGet.k (k:=Sum.inr ("next":Str)) W.g1,?_⟩;show if (bC k1 (Sum.inr ("next":Str))).isSome=true then _ else _
    refine aQ (λh1=>?_) (λh1=>?_)
    ·obtain⟨n0,t0,yg⟩:=d7.mp h1;refine⟨A.dx,_,W.ins,rfl,a,b,H0,A,ps,n,t,p,k,x,y,n0,t0,rfl,WW,j7,hw,yg,λfb Y0=>?_⟩;refine q fb H ⟨λz=>?_,λz=>Y0.mpr ?_⟩ sr
     ·obtain⟨h2,h3,h4⟩:=Y0.mp z;exact⟨(gC hw 2).mpr EK,⟨n0,t0,yg,h3,h4⟩,h2,mn.2⟩
     ·obtain⟨_,⟨n',t',B6,h3,h4⟩,h2,_⟩:=z;obtain⟨rfl,rfl⟩:=kJ hw B6 yg;exact⟨h2,h3,h4⟩
    ·refine q false H ⟨nofun,λz=>?_⟩ sr;obtain⟨n',t',B6,_⟩:=z.2.1;rw[d7.mpr ⟨_,_,B6⟩]at h1;cases h1
  | came n t p k x=>
   obtain⟨b1,g,_⟩:=id j7;refine⟨_,QYV g,_,rfl,?_⟩;dsimp only [aK];refine⟨RKS,3,tR,rfl,C,A.dx,_,.int (cP ps:Int),W.ins,B.cl,B.n2,rfl,?_⟩;refine aQ (λh=>?_) (λh=>?_)
   ·exact QZZ (W9 h) (by have:=(gC hw 3).mp (λq _=>by cases q<;>exact QZY rfl);omega)
   ·refine⟨A.dx,_,W.ins,rfl,a,b,H0,A,ps,_,rfl,WW,j7,hw,rfl,λfb Y0=>?_⟩;show if fb=true then _ else _
    cases fb with
    | false=>exact q false H ⟨nofun,λz=>Y0.mpr z.1⟩ sr
    | true=>
     refine⟨_,QYV g,_,rfl,C,A.dx,_,.ref A.d2,W.ins,B.cl,B.n4,rfl,_,DGet.k (k:=Sum.inl (n:Int)) W.g2,?_⟩;have hk:=WP.kept n;show if (!(bC k2 (Sum.inl (n:Int))).isSome)=true then _ else _
     refine aQ (λh1=>?_) (λh1=>?_)
     ·refine⟨_,QYV g,_,rfl,C,A.dx,_,.int (cH ps:Int),W.ins,B.cl,B.n3,rfl,?_⟩;refine q _ H ⟨λz=>⟨Y0.mp rfl,λt' p' k' d' y' hm=>?_,?_⟩,λz=>?_⟩ sr
      ·rw[hk.mpr ⟨_,_,_,_,_,hm⟩]at h1;cases h1
      ·exact(lZ hw t).mpr (by have:=W9 z;omega)
      ·exact W7 (by have:=(lZ hw t).mp z.2.2;omega)
     ·refine q false H ⟨nofun,λz=>?_⟩ sr;obtain⟨t',p',k',x',y',hm⟩:=hk.mp (by simpa using h1);exact QZZ hm (z.2.1 _ _ _ _ _)
  | asked n=>
   refine⟨_,QYV j7,_,rfl,?_⟩;dsimp only [aK];refine⟨RKS,3,tR,rfl,C,A.dx,_,.int (cP ps:Int),W.ins,B.cl,B.n2,rfl,?_⟩;refine aQ (λh=>?_) (λh=>?_)
   ·exact QZZ (W9 h) (by have:=(gC hw 3).mp (λq _=>by cases q<;>exact QZY rfl);omega)
   ·refine⟨_,QYV j7,_,rfl,C,A.dx,_,.ref A.d3,W.ins,B.cl,B.n5,rfl,_,DGet.k (k:=Sum.inl (n:Int)) W.g3,?_⟩;show if (!(bC k3 (Sum.inl (n:Int))).isSome)=true then _ else _
    refine aQ (λh1=>?_) (λh1=>?_)
    ·refine q false H ⟨nofun,λz=>?_⟩ sr;obtain⟨⟨t,p,k,x,hm,_⟩,_⟩:=z;rw[(NV n).mpr ⟨_,_,_,_,hm⟩]at h1;cases h1
    ·obtain⟨t,p,k,x,hm⟩:=(NV n).mp (by simpa using h1);refine⟨_,QYV j7,_,rfl,C,A.dx,_,.ref A.d5,W.ins,B.cl,B.n7,rfl,_,DGet.k (k:=Sum.inl (n:Int)) W.g5,?_⟩;have hd:=WP.done n;show if (bC k5 (Sum.inl (n:Int))).isSome=true then _ else _
     refine aQ (λh2=>?_) (λh2=>?_)
     ·refine q false H ⟨nofun,λz=>?_⟩ sr;obtain⟨t',y',B6⟩:=hd.mp h2;exact QZZ B6 (z.2.2 _ _)
     ·have QY:∀t y,.done n t y∉ps:=λt y B6=>by rw[hd.mpr ⟨_,_,B6⟩]at h2;cases h2
      refine⟨_,QYV j7,_,rfl,C,A.dx,_,.ref A.d4,W.ins,B.cl,B.n6,rfl,_,DGet.k (k:=Sum.inl (n:Int)) W.g4,?_⟩;have hk:=WP.asked n;show if (!(bC k4 (Sum.inl (n:Int))).isSome)=true then _ else _
      refine aQ (λh3=>?_) (λh3=>?_)
      ·have noa:.asked n∉ps:=λB6=>by rw[hk.mpr B6]at h3;cases h3
       obtain⟨bd,dg,gd⟩:=Bz W WP hw hm;have hx:x.Ok:=NU _ hm;obtain⟨cs,kr⟩:=(zR hx).dwx;refine⟨C,A.dx,_,.ref A.d3,W.ins,B.cl,B.n5,rfl,_,QYV j7,_,rfl,A.d3,_,rfl,dg,bd,x.wd,x.vs,cs,dQ x,rfl,gd,kr,λtu us H2 s2 g2 ha=>⟨us,.inr (QYV g2),?_⟩⟩;have hlen:=ha.length;have wk:=xI x;refine q _ H2 ⟨λz=>⟨⟨t,p,k,x,hm,?_⟩,noa,QY⟩,λz=>?_⟩ s2
       ·cases e:x.far with
        | true=>rfl
        | false=>have:=wk.mpr e;have:=W9 z;omega
       ·obtain⟨⟨t',p',k',x',B6,FX⟩,_⟩:=z;have:=fV hw hm B6;cases this;refine W7 ?_;have:(dQ x).length≠0:=λz=>by rw[wk.mp z]at FX;cases FX
        omega
      ·refine q false H ⟨nofun,λz=>?_⟩ sr;exact QZZ (hk.mp (by simpa using h3)) z.2.1
  | done n t y=>
   obtain⟨b1,g,_⟩:=id j7;refine⟨_,QYV g,_,rfl,?_⟩;dsimp only [aK];refine⟨RKS,3,tR,rfl,C,A.dx,_,.int (cP ps:Int),W.ins,B.cl,B.n2,rfl,?_⟩;refine aQ (λh=>?_) (λh=>?_)
   ·exact QZZ (W9 h) (by have:=(gC hw 3).mp (λq _=>by cases q<;>exact QZY rfl);omega)
   ·refine⟨_,QYV g,_,rfl,C,A.dx,_,.ref A.d3,W.ins,B.cl,B.n5,rfl,_,DGet.k (k:=Sum.inl (n:Int)) W.g3,?_⟩;show if (!(bC k3 (Sum.inl (n:Int))).isSome)=true then _ else _
    refine aQ (λh1=>?_) (λh1=>?_)
    ·refine q false H ⟨nofun,λz=>?_⟩ sr;obtain⟨_,_,t,p,k,x,hm,_⟩:=z;rw[(NV n).mpr ⟨_,_,_,_,hm⟩]at h1;cases h1
    ·obtain⟨t0,p,k,x,hm⟩:=(NV n).mp (by simpa using h1);refine⟨_,QYV g,_,rfl,C,A.dx,_,.ref A.d5,W.ins,B.cl,B.n7,rfl,_,DGet.k (k:=Sum.inl (n:Int)) W.g5,?_⟩;have hd:=WP.done n;show if (bC k5 (Sum.inl (n:Int))).isSome=true then _ else _
     refine aQ (λh2=>?_) (λh2=>?_)
     ·refine q false H ⟨nofun,λz=>?_⟩ sr;obtain⟨t',y',B6⟩:=hd.mp h2;exact QZZ B6 (z.2.1 _ _)
     ·have QY:∀t y,.done n t y∉ps:=λt y B6=>by rw[hd.mpr ⟨_,_,B6⟩]at h2;cases h2
      refine⟨_,QYV g,_,rfl,C,A.dx,_,.int (cH ps:Int),W.ins,B.cl,B.n3,rfl,?_⟩;refine aQ (λh3=>?_) (λh3=>?_)
      ·have ht:=(lZ hw t).mpr (by have:=W9 h3;omega);refine⟨A.dx,_,W.ins,rfl,a,b,H0,A,ps,n,t,y,t0,p,k,x,rfl,WW,j7,hw,mn,NU _ hm,hm,λfb H' Y0 s'=>?_⟩;refine q fb H' ⟨λz=>⟨ht,QY,t0,p,k,x,hm,Y0.mp z⟩,λz=>?_⟩ s';obtain⟨_,_,t',p',k',x',B6,hz⟩:=z;have:=fV hw hm B6;cases this;exact Y0.mpr hz
      ·refine q false H ⟨nofun,λz=>?_⟩ sr;have:=(lZ hw t).mp z.1;exact QZZ (W8 h3) Zo
def s2K(k:List (bA×V)):RX->List (bA×V)|.kept n _ _ _ _ _=>bN k (Sum.inl (n:Int)) (.bl true)|_=>k
def s3K(k:List (bA×V))(bd:UF):RX->List (bA×V)|.came n _ _ _ _=>bN k (Sum.inl (n:Int)) (.ref bd)|_=>k
def s4K(k:List (bA×V)):RX->List (bA×V)|.asked n=>bN k (Sum.inl (n:Int)) (.bl true)|_=>k
def s5K(k:List (bA×V)):RX->List (bA×V)|.done n _ _=>bN k (Sum.inl (n:Int)) (.bl true)|_=>k
def NumK.put{k:List (bA×V)}{p q:Nat->Prop}(h:NumK k p)(n:Nat)(v:V)(hq:∀m,q m↔p m∨m=n):NumK (bN k (Sum.inl (n:Int)) v) q:=by
 intro m;rw[cV,hq];by_cases e:m=n
 ·subst e;rw[TD rfl];simp
 ·rw[P7 (λz=>e (by have:=Sum.inl.inj z;omega)),h m];exact⟨.inl,λz=>z.resolve_right e⟩
def NumK.iff{k:List (bA×V)}{p q:Nat->Prop}(h:NumK k p)(hq:∀m,q m↔p m):NumK k q:=λm=>by rw[hq];exact h m
def Lo(k:List (bA×V))(x:bA)(v:V):(bN k x v).length≠0:=by
 unfold bN;split
 ·rename_i h
  cases k with
  | nil=>cases h
  | cons y r=>simp
 ·simp
def bP{α:Type}{l:List α}{x y:α}:x∈l++[y]↔x∈l∨x=y:=by simp
def WkP.step{H H':Hp}{ps:List RX}{k1 k2 k3 k4 k5:List (bA×V)}(h:WkP H ps k1 k2 k3 k4 k5)(s:TK H H'){r:RX}{b bd:UF}(hr:r.At H' b)(hb:∀n t p k x,r=.came n t p k x->H' bd=some (.tup x.vs))  :
  WkP H' (ps++[r]) (bN k1 (Sum.inr (bH r)) (.ref b)) (s2K k2 r) (s3K k3 bd r) (s4K k4 r) (s5K k5 r):=by
 have h':=h.tk s;have lp:∀(k:List (bA×V))(x:bA)(v:V),k.length<=ps.length->(bN k x v).length<=(ps++[r]).length:=λk x v l=>by have:=dW k x v;rw[kM];simp;omega
 have ls:∀(k:List (bA×V)),k.length<=ps.length->k.length<=(ps++[r]).length:=λk l=>by rw[kM];omega
 refine⟨lp _ _ _ h.l1,?_,?_,?_,?_,⟨⟨λz=>QZZ z (Lo _ _ _),λz=>by simp at z⟩,λw e=>?_,λw q e=>?_⟩,?_,⟨λn e t p k x hm=>?_,λn v e=>?_⟩,?_,?_⟩
 ·cases r<;>first|exact lp _ _ _ h.l2|exact ls _ h.l2
 ·cases r<;>first|exact lp _ _ _ h.l3|exact ls _ h.l3
 ·cases r<;>first|exact lp _ _ _ h.l4|exact ls _ h.l4
 ·cases r<;>first|exact lp _ _ _ h.l5|exact ls _ h.l5
 ·rw[dG]at e;split at e
  ·cases e
  ·rename_i C7;rw[cV,P7 (λz=>C7 (Sum.inr.inj z).symm)];exact h'.last.no w e
 ·rw[dG]at e;split at e
  ·rename_i hw;cases e;rw[cV,TD (by rw[hw])];exact⟨b,rfl,hr⟩
  ·rename_i C7;rw[cV,P7 (λz=>C7 (Sum.inr.inj z).symm)];exact h'.last.yes w q e
 ·cases r with
  | kept n t p k x y=>
   refine h.kept.put n _ λm=>⟨λ⟨t',p',k',x',y',hm⟩=>?_,λz=>?_⟩
   ·rcases bP.mp hm with hm|hm
    ·exact .inl ⟨_,_,_,_,_,hm⟩
    ·cases hm;exact .inr rfl
   ·rcases z with⟨t',p',k',x',y',hm⟩|rfl
    ·exact⟨_,_,_,_,_,bP.mpr (.inl hm)⟩
    ·exact⟨_,_,_,_,_,bP.mpr (.inr rfl)⟩
  | _=>
   refine h.kept.iff λm=>⟨λ⟨t',p',k',x',y',hm⟩=>?_,λ⟨t',p',k',x',y',hm⟩=>⟨_,_,_,_,_,bP.mpr (.inl hm)⟩⟩;rcases bP.mp hm with hm|hm
   ·exact⟨_,_,_,_,_,hm⟩
   ·cases hm
 ·cases r with
  | came n1 t1 p1 FL x1=>
   change bC (bN k3 (Sum.inl (n1:Int)) (.ref bd)) _=none at e;rw[cV]at e;split at e
   ·cases e
   ·rename_i C7;rcases bP.mp hm with hm|hm
    ·exact h.came.no n e _ _ _ _ hm
    ·cases hm;exact C7 rfl
  | _=>
   rcases bP.mp hm with hm|hm
   ·exact h.came.no n e _ _ _ _ hm
   ·cases hm
 ·cases r with
  | came n1 t1 p1 FL x1=>
   change bC (bN k3 (Sum.inl (n1:Int)) (.ref bd)) _=some v at e;rw[cV]at e;split at e
   ·rename_i he;have:n=n1:=by have:=Sum.inl.inj he;omega
    subst this;cases e;exact⟨bd,t1,p1,FL,x1,rfl,hb _ _ _ _ _ rfl,bP.mpr (.inr rfl)⟩
   ·obtain⟨b',t',p',k',x',h1,h2,h3⟩:=h'.came.yes n v e;exact⟨b',t',p',k',x',h1,h2,bP.mpr (.inl h3)⟩
  | _=>
   obtain⟨b',t',p',k',x',h1,h2,h3⟩:=h'.came.yes n v e;exact⟨b',t',p',k',x',h1,h2,bP.mpr (.inl h3)⟩
 ·cases r with
  | asked n=>
   refine h.asked.put n _ λm=>⟨λhm=>?_,λz=>?_⟩
   ·rcases bP.mp hm with hm|hm
    ·exact .inl hm
    ·cases hm;exact .inr rfl
   ·rcases z with hm|rfl
    ·exact bP.mpr (.inl hm)
    ·exact bP.mpr (.inr rfl)
  | _=>
   refine h.asked.iff λm=>⟨λhm=>?_,λhm=>bP.mpr (.inl hm)⟩;rcases bP.mp hm with hm|hm
   ·exact hm
   ·cases hm
 ·cases r with
  | done n t y=>
   refine h.done.put n _ λm=>⟨λ⟨t',y',hm⟩=>?_,λz=>?_⟩
   ·rcases bP.mp hm with hm|hm
    ·exact .inl ⟨_,_,hm⟩
    ·cases hm;exact .inr rfl
   ·rcases z with⟨t',y',hm⟩|rfl
    ·exact⟨_,_,bP.mpr (.inl hm)⟩
    ·exact⟨_,_,bP.mpr (.inr rfl)⟩
  | _=>
   refine h.done.iff λm=>⟨λ⟨t',y',hm⟩=>?_,λ⟨t',y',hm⟩=>⟨_,_,bP.mpr (.inl hm)⟩⟩;rcases bP.mp hm with hm|hm
   ·exact⟨_,_,hm⟩
   ·cases hm
def Cb(C:UF):Sp:=λvs H Q _=>∃(a b:UF)(H0:Hp)(A:WA)(ps:List RX)(r:RX),vs=[.ref a,.ref b]/\WkAt H0 H C a A ps/\r.At H0 b/\ps.length<=200/\∀(v:V)(H':Hp),WkAt H0 H' C a A (ps++[r])->Q v H'
def qK{H:Hp}{a:UF}{k:List (bA×V)}{o:HO}(h:H a=some (.dK k)):TK H (aI H a o):=λb xs e=>by rw[aD (fW e h nofun)];exact e
def Lp{H:Hp}{a C dx:UF}{fs:List (Str×V)}{o:HO}(h:H a=some (.ins C dx fs)):TK H (aI H a o):=λb xs e=>by rw[aD (fW e h nofun)];exact e
def Lq{C:UF}(T:Txt K mg)(U:Top w.params K mg)(B:Xs K C)(D:MethAt K C "step" "Walk.step" gG QZQ):sJ P w K mg base 1 C "step" QZQ (Cb C):=by
 refine D.go lU (λvs H Q E h=>?_) (λf cdv A outer s H vs Q E hr h=>?_)
 ·obtain⟨a,b,H0,A,ps,r,rfl,_⟩:=h;rfl
 ·obtain⟨a,b,H0,A,ps,r,rfl,⟨WF,s0,k1,k2,k3,k4,k5,W,WP⟩,Q9,hl,q⟩:=h;have J8:=jK hr;obtain⟨aR,og,tR⟩:=U.g_RANKS;have j7:=Q9.tk s0.tk;obtain⟨xs,g,x0,x1,x2⟩:=bO j7;have ug:=WP.l1;have vo:=WP.l2;have zw:=WP.l3;have IT:=WP.l4;have NW:=WP.l5;have sz:∀(k:List (bA×V)),k.length<=ps.length->k.length<sizeLine:=λk h=>oZ (m:=1000) Zo Zd
  refine⟨_,(lv (o0 (i:=2) lU.nd (li (mi (K:=K)) (kq 1) lc)) (lv (zd (kq 1) (zn (vi (K:=K) (kq 0)) (kq 2) (EN J8))) (lv (DT (K:=K) (kq 0) (li (R.jk (K:=K) (P:=w.params)) (vk rfl og) (kq 2))) (lv (re (nw (tz (K:=K)) (kq 2) (pi (kt mh (kt mh (kt mh lf))))) (mj (DT (K:=K) (kq 0) (li (mi (K:=K)) (kq 1) lc))) rp) (lv (re (nw rq (kq 2) mh) (mj (zd tj (zn (vi (K:=K) (kq 0)) (li (mi (K:=K)) (kq 1) lc) (EN J8)))) rp) (lv (re (nw rq (kq 2) mh) (mj (zd (li (mi (K:=K)) (kq 1) lc) (zn (vi (K:=K) (kq 0)) (li (mi (K:=K)) (kq 1) lc) (EN J8)))) rp) (lv (re (nw rq (kq 2) mh) (mj (zd tj (zn (vi (K:=K) (kq 0)) (li (mi (K:=K)) (kq 1) lc) (EN J8)))) rp) (mj (re (nw rq (kq 2) mh) (mj (zd tj (zn (vi (K:=K) (kq 0)) (li (mi (K:=K)) (kq 1) lc) (EN J8)))) rp))))))))),?_⟩;refine⟨_,QYV g,_,x0,?_⟩;dsimp only [aK];refine⟨C,A.dx,_,.ref A.d1,W.ins,B.cl,B.n1,rfl,A.d1,_,rfl,DPut.k (k:=Sum.inr (bH r)) W.g1 (sz _ ug),?_⟩;have W1:=W.put1 WF (bN k1 (Sum.inr (bH r)) (.ref b));have t1:TK H (aI H A.d1 (.dK (bN k1 (Sum.inr (bH r)) (.ref b)))):=qK W.g1;have s1:Same H0 (aI H A.d1 (.dK (bN k1 (Sum.inr (bH r)) (.ref b)))):=cO WF.f1 s0;generalize aI H A.d1 (.dK (bN k1 (Sum.inr (bH r)) (.ref b)))=H1 at W1 t1 s1;refine⟨RKS,_,tR,Qr r,C,A.dx,_,W1.ins,B.cl,B.n2,QZY rfl,?_⟩;have e2:bL "last_rank" (.int (r.rank:Int)) (Xt A (cP ps) (cH ps))=Xt A r.rank (cH ps):=rfl;rw[e2];have W2:=W1.fld r.rank (cH ps);have t2:=t1.trans (Lp (o:=.ins C A.dx (Xt A r.rank (cH ps))) W1.ins);have s2:Same H0 (aI H1 a (.ins C A.dx (Xt A r.rank (cH ps)))):=cO WF.fa s1;generalize aI H1 a (.ins C A.dx (Xt A r.rank (cH ps)))=H2 at W2 t2 s2;dsimp only;refine bK (λσ' H'=>σ'=[some (.ref a),some (.ref b),some (.str (bH r))]/\WkG H' C a A r.rank (cH (ps++[r])) (bN k1 (Sum.inr (bH r)) (.ref b)) k2 k3 k4 k5/\TK H H'/\Same H0 H') (λnx d7=>?_) ?_
  ·refine⟨aL rfl,λtp H3 s3 g3=>⟨tp,_,rfl,.inr (QYV g3),rfl,rfl,?_⟩⟩;have W3:=W2.same s3;have t3:=t2.trans s3.tk;have DB:=s2.trans s3;have et:gT (.str (bH r)) [.str "next",.str "came",.str "done"]=kS r:=by cases r<;>rfl
   rw[kT]at d7;show if gT (.str (bH r)) [.str "next",.str "came",.str "done"]=true then _ else _
   rw[et];refine aQ (λh=>?_) (λh=>?_)
   ·rw[TD h]at d7;have e2:Ky r=.int (r.turn:Int):=by cases r<;>first|rfl|cases h
    have wj:=x2 (by rw[e2];exact λz=>nomatch z);rw[e2]at wj;refine⟨_,QYV (t3 _ _ g),_,wj,C,A.dx,_,W3.ins,B.cl,B.n3,QZY rfl,?_⟩;exact d7 _ _ ⟨rfl,W3.fld r.rank r.turn,t3.trans (Lp W3.ins),cO WF.fa DB⟩
   ·rw[P7 (by rw[h];exact XV)]at d7;exact d7 _ _ ⟨rfl,W3,t3,DB⟩
  rintro σ' H3 ⟨rfl,W3,t3,s3⟩;have yp:=j7.tk t3;rw[<- gX ps r]at W3;cases r with
  | next n t=>exact q _ _ ⟨WF,s3,_,_,_,_,_,W3,WP.step (bd:=a) t3 yp (λ_ _ _ _ _ e=>nomatch e)⟩
  | has z m=>exact q _ _ ⟨WF,s3,_,_,_,_,_,W3,WP.step (bd:=a) t3 yp (λ_ _ _ _ _ e=>nomatch e)⟩
  | kept n t p k x y=>
   obtain⟨b1,b2,g',_⟩:=id yp;refine⟨C,A.dx,_,.ref A.d2,W3.ins,B.cl,B.n4,rfl,_,QYV g',_,rfl,A.d2,_,rfl,DPut.k (k:=Sum.inl (n:Int)) W3.g2 (sz _ vo),?_⟩;have t4:=t3.trans (qK (o:=.dK (bN k2 (Sum.inl (n:Int)) (.bl true))) W3.g2);exact q _ _ ⟨WF,cO WF.f2 s3,_,_,_,_,_,W3.put2 WF _,WP.step (bd:=a) t4 (j7.tk t4) (λ_ _ _ _ _ e=>nomatch e)⟩
  | came n t p k x=>
   obtain⟨b1,g',gd'⟩:=id yp;refine⟨_,QYV g',_,rfl,C,A.dx,_,.ref A.d3,W3.ins,B.cl,B.n5,rfl,_,QYV g',_,rfl,A.d3,_,rfl,DPut.k (k:=Sum.inl (n:Int)) W3.g3 (sz _ zw),?_⟩;have t5:=qK (o:=.dK (bN k3 (Sum.inl (n:Int)) (.ref b1))) W3.g3;have t4:=t3.trans t5;exact q _ _ ⟨WF,cO WF.f3 s3,_,_,_,_,_,W3.put3 WF _,WP.step (bd:=b1) t4 (j7.tk t4) (λ_ _ _ _ _ e=>by cases e;exact t5 _ _ gd')⟩
  | asked n=>
   refine⟨C,A.dx,_,.ref A.d4,W3.ins,B.cl,B.n6,rfl,_,QYV yp,_,rfl,A.d4,_,rfl,DPut.k (k:=Sum.inl (n:Int)) W3.g4 (sz _ IT),?_⟩;have t4:=t3.trans (qK (o:=.dK (bN k4 (Sum.inl (n:Int)) (.bl true))) W3.g4);exact q _ _ ⟨WF,cO WF.f4 s3,_,_,_,_,_,W3.put4 WF _,WP.step (bd:=a) t4 (j7.tk t4) (λ_ _ _ _ _ e=>nomatch e)⟩
  | done n t y=>
   obtain⟨b1,g',_⟩:=id yp;refine⟨C,A.dx,_,.ref A.d5,W3.ins,B.cl,B.n7,rfl,_,QYV g',_,rfl,A.d5,_,rfl,DPut.k (k:=Sum.inl (n:Int)) W3.g5 (sz _ NW),?_⟩;have t4:=t3.trans (qK (o:=.dK (bN k5 (Sum.inl (n:Int)) (.bl true))) W3.g5);exact q _ _ ⟨WF,cO WF.f5 s3,_,_,_,_,_,W3.put5 WF _,WP.step (bd:=a) t4 (j7.tk t4) (λ_ _ _ _ _ e=>nomatch e)⟩
def Cc(C:UF):Sp:=λvs H Q _=>∃(p dx:UF),vs=[.ref p]/\H p=some (.ins C dx [])/\∀(H':Hp)(A:WA),H A.d1=none->H A.d2=none->H A.d3=none->H A.d4=none->H A.d5=none->[A.d1,A.d2,A.d3,A.d4,A.d5].Nodup->WkG H' C p A 0 0 [] [] [] [] []->(∀b o,H b=some o->b≠p->H' b=some o)->Q .non H'
def Lr{C:UF}(B:Xs K C)(D:ClsAt K mg "Walk" C "Walk.__init__" cD QZG [[]]):∀d∈([[]]:List (List V)),Wn P w K mg base 1 "Walk" C QZG d (Cc C):=by
 refine D.go nM (λvs H Q E h=>?_) (λf cdv A outer s H vs Q E hr h=>?_)
 ·obtain⟨p,dx,rfl,_⟩:=h;rfl
 ·obtain⟨p,dx,rfl,hp,q⟩:=h;refine⟨_,(lv (DT (K:=K) (kq 0) HN) (lv (DT (K:=K) (kq 0) lc) (lv (DT (K:=K) (kq 0) lc) (lv (DT (K:=K) (kq 0) HN) (lv (DT (K:=K) (kq 0) HN) (lv (DT (K:=K) (kq 0) HN) (mj (DT (K:=K) (kq 0) HN)))))))),?_⟩;have st:∀ {H1:Hp}{d:UF}{o o':HO},(∀b u,H b=some u->b≠p->H1 b=some u)->H1 d=none->p≠d->(∀b u,H b=some u->b≠p->(aI (aI H1 d o) p o') b=some u)/\H d=none:=λ{H1 d o o'} k hd J7=>by
   refine⟨λb u e hb=>?_,?_⟩
   ·rw[aD hb,aD (aE (k b u e hb) hd)];exact k b u e hb
   ·cases e:H d with
    | none=>rfl
    | some u=>rw[k d u e J7.symm]at hd;cases hd
  intro d1 IU;have n1:=aE hp IU;refine⟨C,dx,_,(by rw[aD n1];exact hp),B.cl,B.n1,(by show 0<1000;decide),?_⟩;obtain⟨k1,f1⟩:=st (o:=.dK []) (o':=.ins C dx (bL "last_rows" (.ref d1) [])) (λb u e _=>e) IU n1;have i1:(aI (aI H d1 (.dK [])) p (.ins C dx (bL "last_rows" (.ref d1) []))) p=some (.ins C dx [("last_rows",.ref d1)]):=aA;have a1:(aI (aI H d1 (.dK [])) p (.ins C dx (bL "last_rows" (.ref d1) []))) d1=some (.dK []):=by rw[aD n1.symm];exact aA
  dsimp only;generalize aI (aI H d1 (.dK [])) p (.ins C dx (bL "last_rows" (.ref d1) []))=H1 at k1 i1 a1;refine⟨C,dx,_,i1,B.cl,B.n2,QZY rfl,?_⟩;refine⟨C,dx,_,aA,B.cl,B.n3,QZY rfl,?_⟩;have i2:(aI (aI H1 p (.ins C dx (bL "last_rank" (.int 0) [("last_rows",.ref d1)]))) p (.ins C dx (bL "last_turn" (.int 0) (bL "last_rank" (.int 0) [("last_rows",.ref d1)])))) p=some (.ins C dx [("last_rows",.ref d1),("last_rank",.int 0),("last_turn",.int 0)]):=aA;have a2:(aI (aI H1 p (.ins C dx (bL "last_rank" (.int 0) [("last_rows",.ref d1)]))) p (.ins C dx (bL "last_turn" (.int 0) (bL "last_rank" (.int 0) [("last_rows",.ref d1)])))) d1=some (.dK []):=by rw[aD n1.symm,aD n1.symm];exact a1
  have k2:∀b u,H b=some u->b≠p->(aI (aI H1 p (.ins C dx (bL "last_rank" (.int 0) [("last_rows",.ref d1)]))) p (.ins C dx (bL "last_turn" (.int 0) (bL "last_rank" (.int 0) [("last_rows",.ref d1)])))) b=some u:=λb u e hb=>by rw[aD hb,aD hb];exact k1 b u e hb
  generalize aI (aI H1 p (.ins C dx (bL "last_rank" (.int 0) [("last_rows",.ref d1)]))) p (.ins C dx (bL "last_turn" (.int 0) (bL "last_rank" (.int 0) [("last_rows",.ref d1)])))=H2 at i2 a2 k2;intro d2 hd2;have n2:=aE i2 hd2;have VJ:=aE a2 hd2;refine⟨C,dx,_,(by rw[aD n2];exact i2),B.cl,B.n4,QZY rfl,?_⟩;obtain⟨k3,f2⟩:=st (o:=.dK []) (o':=.ins C dx (bL "kept_numbers" (.ref d2) [("last_rows",.ref d1),("last_rank",.int 0),("last_turn",.int 0)])) k2 hd2 n2;have i3:(aI (aI H2 d2 (.dK [])) p (.ins C dx (bL "kept_numbers" (.ref d2) [("last_rows",.ref d1),("last_rank",.int 0),("last_turn",.int 0)]))) p=some (.ins C dx [("last_rows",.ref d1),("last_rank",.int 0),("last_turn",.int 0),("kept_numbers",.ref d2)]):=aA;have a3:(aI (aI H2 d2 (.dK [])) p (.ins C dx (bL "kept_numbers" (.ref d2) [("last_rows",.ref d1),("last_rank",.int 0),("last_turn",.int 0)]))) d1=some (.dK []):=by rw[aD n1.symm,aD VJ];exact a2
  have c3:(aI (aI H2 d2 (.dK [])) p (.ins C dx (bL "kept_numbers" (.ref d2) [("last_rows",.ref d1),("last_rank",.int 0),("last_turn",.int 0)]))) d2=some (.dK []):=by rw[aD n2.symm];exact aA
  dsimp only;generalize aI (aI H2 d2 (.dK [])) p (.ins C dx (bL "kept_numbers" (.ref d2) [("last_rows",.ref d1),("last_rank",.int 0),("last_turn",.int 0)]))=H3 at k3 i3 a3 c3;intro d3 HZ;have n3:=aE i3 HZ;have VL:=aE a3 HZ;have VM:=aE c3 HZ;refine⟨C,dx,_,(by rw[aD n3];exact i3),B.cl,B.n5,QZY rfl,?_⟩;obtain⟨k4,f3⟩:=st (o:=.dK []) (o':=.ins C dx (bL "came_deeds" (.ref d3) [("last_rows",.ref d1),("last_rank",.int 0),("last_turn",.int 0),("kept_numbers",.ref d2)])) k3 HZ n3;have i4:(aI (aI H3 d3 (.dK [])) p (.ins C dx (bL "came_deeds" (.ref d3) [("last_rows",.ref d1),("last_rank",.int 0),("last_turn",.int 0),("kept_numbers",.ref d2)]))) p=some (.ins C dx [("last_rows",.ref d1),("last_rank",.int 0),("last_turn",.int 0),("kept_numbers",.ref d2),("came_deeds",.ref d3)]):=aA;have a4:(aI (aI H3 d3 (.dK [])) p (.ins C dx (bL "came_deeds" (.ref d3) [("last_rows",.ref d1),("last_rank",.int 0),("last_turn",.int 0),("kept_numbers",.ref d2)]))) d1=some (.dK []):=by rw[aD n1.symm,aD VL];exact a3
  have c4:(aI (aI H3 d3 (.dK [])) p (.ins C dx (bL "came_deeds" (.ref d3) [("last_rows",.ref d1),("last_rank",.int 0),("last_turn",.int 0),("kept_numbers",.ref d2)]))) d2=some (.dK []):=by rw[aD n2.symm,aD VM];exact c3
  have e4:(aI (aI H3 d3 (.dK [])) p (.ins C dx (bL "came_deeds" (.ref d3) [("last_rows",.ref d1),("last_rank",.int 0),("last_turn",.int 0),("kept_numbers",.ref d2)]))) d3=some (.dK []):=by rw[aD n3.symm];exact aA
  dsimp only;generalize aI (aI H3 d3 (.dK [])) p (.ins C dx (bL "came_deeds" (.ref d3) [("last_rows",.ref d1),("last_rank",.int 0),("last_turn",.int 0),("kept_numbers",.ref d2)]))=H4 at k4 i4 a4 c4 e4;intro d4 LN;have n4:=aE i4 LN;have VN:=aE a4 LN;have VO:=aE c4 LN;have VP:=aE e4 LN;refine⟨C,dx,_,(by rw[aD n4];exact i4),B.cl,B.n6,QZY rfl,?_⟩;obtain⟨k5,f4⟩:=st (o:=.dK []) (o':=.ins C dx (bL "asked_numbers" (.ref d4) [("last_rows",.ref d1),("last_rank",.int 0),("last_turn",.int 0),("kept_numbers",.ref d2),("came_deeds",.ref d3)])) k4 LN n4;have i5:(aI (aI H4 d4 (.dK [])) p (.ins C dx (bL "asked_numbers" (.ref d4) [("last_rows",.ref d1),("last_rank",.int 0),("last_turn",.int 0),("kept_numbers",.ref d2),("came_deeds",.ref d3)]))) p=some (.ins C dx [("last_rows",.ref d1),("last_rank",.int 0),("last_turn",.int 0),("kept_numbers",.ref d2),("came_deeds",.ref d3),("asked_numbers",.ref d4)]):=aA;have a5:(aI (aI H4 d4 (.dK [])) p (.ins C dx (bL "asked_numbers" (.ref d4) [("last_rows",.ref d1),("last_rank",.int 0),("last_turn",.int 0),("kept_numbers",.ref d2),("came_deeds",.ref d3)]))) d1=some (.dK []):=by rw[aD n1.symm,aD VN];exact a4
  have c5:(aI (aI H4 d4 (.dK [])) p (.ins C dx (bL "asked_numbers" (.ref d4) [("last_rows",.ref d1),("last_rank",.int 0),("last_turn",.int 0),("kept_numbers",.ref d2),("came_deeds",.ref d3)]))) d2=some (.dK []):=by rw[aD n2.symm,aD VO];exact c4
  have e5:(aI (aI H4 d4 (.dK [])) p (.ins C dx (bL "asked_numbers" (.ref d4) [("last_rows",.ref d1),("last_rank",.int 0),("last_turn",.int 0),("kept_numbers",.ref d2),("came_deeds",.ref d3)]))) d3=some (.dK []):=by rw[aD n3.symm,aD VP];exact e4
  have g5:(aI (aI H4 d4 (.dK [])) p (.ins C dx (bL "asked_numbers" (.ref d4) [("last_rows",.ref d1),("last_rank",.int 0),("last_turn",.int 0),("kept_numbers",.ref d2),("came_deeds",.ref d3)]))) d4=some (.dK []):=by rw[aD n4.symm];exact aA
  dsimp only;generalize aI (aI H4 d4 (.dK [])) p (.ins C dx (bL "asked_numbers" (.ref d4) [("last_rows",.ref d1),("last_rank",.int 0),("last_turn",.int 0),("kept_numbers",.ref d2),("came_deeds",.ref d3)]))=H5 at k5 i5 a5 c5 e5 g5;intro d5 yo;have n5:=aE i5 yo;have VQ:=aE a5 yo;have VR:=aE c5 yo;have VS:=aE e5 yo;have VT:=aE g5 yo;refine⟨C,dx,_,(by rw[aD n5];exact i5),B.cl,B.n7,QZY rfl,?_⟩;obtain⟨k6,f5⟩:=st (o:=.dK []) (o':=.ins C dx (bL "done_numbers" (.ref d5) [("last_rows",.ref d1),("last_rank",.int 0),("last_turn",.int 0),("kept_numbers",.ref d2),("came_deeds",.ref d3),("asked_numbers",.ref d4)])) k5 yo n5;refine q _ ⟨dx,d1,d2,d3,d4,d5⟩ f1 f2 f3 f4 f5 ?_ ⟨aA,?_,?_,?_,?_,?_⟩ k6
  ·simp only [nodup_cons,mem_cons,QZU,or_false,not_or];exact⟨⟨VJ,VL,VN,VQ⟩,⟨VM,VO,VR⟩,⟨VP,VS⟩,VT,not_false,nodup_nil⟩
  ·show(aI _ p _) d1=_;rw[aD n1.symm,aD VQ];exact a5
  ·show(aI _ p _) d2=_;rw[aD n2.symm,aD VR];exact c5
  ·show(aI _ p _) d3=_;rw[aD n3.symm,aD VS];exact e5
  ·show(aI _ p _) d4=_;rw[aD n4.symm,aD VT];exact g5
  ·show(aI _ p _) d5=_;rw[aD n5.symm];exact aA
def Td:Sp:=λvs H Q _=>∃(ra:UF)(rs:List RX)(as:List UF),vs=[.ref ra]/\RxsAt H ra rs as/\(∀r∈rs,cI r)/\rs.length<=100/\∀(o:Option Nat)(H':Hp),qI rs o->Same H H'->Q (Fa o) H'
def vA{C:UF}(T:Txt K mg)(DC:Wn P w K mg base 1 "Walk" C QZG [] (Cc C))(uq:sJ P w K mg base 6 C "fits" QZQ (Ca C))(ur:sJ P w K mg base 1 C "step" QZQ (Cb C))(D:DefAt K mg "first_odd" gH QZM):aG P w K mg base 7 "first_odd" QZM Td:=by
 refine D.go fU (λvs H Q E h=>?_) (λf cdv A outer s H vs Q E hr h=>?_)
 ·obtain⟨ra,rs,as,rfl,_⟩:=h;rfl
 ·obtain⟨ra,rs,as,rfl,RR,hf,hl,q⟩:=h;have DD:Room 2 _:=hr.mono Zd;have oh:Room 6 _:=hr;have oi:Room 1 _:=hr.mono Zd;have le:=RR.len;refine⟨_,(lv (o0 (i:=1) fU.nd (R.jr DC DD rfl)) (lv (AT PassesOwn.never rfl (R.gw (K:=K) rfl T.b_enumerate (kq 0)) (IR (K:=K) (n:=2) rfl (wr (sx (i:=2) fU.nd) (wr (sx (i:=3) fU.nd) M3))) (lv (re (xu (wn (yx uq oh (kq 1) (kt (kq 3) lf)))) (mj (ms (kq 2))) rp) (mj (xt (yx ur oi (kq 1) (kt (kq 3) lf)))))) (mj (ms xp)))),?_⟩;refine λa dx ha kr C7=>?_;refine⟨a,dx,rfl,aA,λH1 A f1 f2 f3 f4 f5 nd W1 k1=>⟨rfl,?_⟩⟩;have fr:∀ {d:UF},(aI (aI H dx (.own a)) a (.ins C dx [])) d=none->H d=none:=λ{d} e=>by
   by_cases h1:d=a
   ·rw[h1,aA]at e;cases e
   ·by_cases h2:d=dx
    ·rw[h2];exact kr
    ·rw[aD h1,aD h2]at e;exact e
  have s1:Same H H1:=λc o e=>k1 c o (by rw[aD (aE e ha),aD (aE e kr)];exact e) (aE e ha)
  have WF:WkF H a A:=⟨ha,fr f1,fr f2,fr f3,fr f4,fr f5,nd⟩;have W0:WkAt H H1 C a A []:=⟨WF,s1,[],[],[],[],[],W1,⟨bQ _,bQ _,bQ _,bQ _,bQ _,⟨⟨λ_=>rfl,λ_=>rfl⟩,λ_ _=>rfl,(λ_ _ e=>nomatch e)⟩,λn=>⟨nofun,λ⟨_,_,_,_,_,z⟩=>nomatch z⟩,⟨(λ_ _ _ _ _ _ z=>nomatch z),(λ_ _ e=>nomatch e)⟩,λn=>⟨nofun,nofun⟩,λn=>⟨nofun,λ⟨_,_,z⟩=>nomatch z⟩⟩⟩;dsimp only [aK];refine bK (λσ' H'=>RX.Whole rs/\Same H H') (λnx d7=>?_) ?_
  ·refine⟨_,QYU (s1 _ _ RR.lst),wU (xs:=as.map V.ref) (λi σ' H'=>∃o2 o3,σ'=[some (.ref ra),some (.ref a),o2,o3]/\WkAt H H' C a A (rs.take i)/\RX.Whole (rs.take i)) (λi σ' H' ⟨_,_,_,W',_⟩=>QYU (W'.2.1 _ _ RR.lst)) ⟨_,_,rfl,W0,.nil⟩ ?_ ?_⟩
   ·rintro i x σ' H2 te hx ⟨o2,o3,rfl,W2,hw⟩ QZ;obtain⟨b,r,rfl,hb,C8,j7⟩:=RR.get hx;have hil:i<rs.length:=(Zgs.mp C8).1;have se:=aF (o:=.tup [.int (i:Int),.ref b]) QZ;refine⟨te,_,rfl,QYV aA,rfl,_,_,rfl,_,_,rfl,rfl,?_⟩;generalize aI H2 te (.tup [.int (i:Int),.ref b])=H3 at se;replace W2:=W2.same se;have⟨_,s3,FL,k2',k3',k4',k5',WG,_⟩:=W2;dsimp only [aK];refine⟨A.dx,_,WG.ins,rfl,a,b,H,A,rs.take i,r,rfl,W2,j7.tk s3.tk,hw,λq hq=>hf q (mem_of_mem_take hq),hf r (jW C8),λfb H4 Y0 s4=>?_⟩;have W4:=W2.same s4;have⟨_,vz,_,_,_,_,_,WG4,_⟩:=W4
    cases fb with
    | false=>exact q (some i) H4 ⟨r,C8,hw,λz=>by have:=Y0.mpr z;cases this⟩ vz
    | true=>
     have RA:=Y0.mp rfl;refine⟨A.dx,_,WG4.ins,rfl,a,b,H,A,rs.take i,r,rfl,W4,j7,by rw[jD];omega,λv H5 W5=>?_⟩;rw[<- cE C8]at W5;exact⟨_,_,rfl,W5,by rw[cE C8];exact hw.snoc RA⟩
   ·rintro σ' H2 ⟨o2,o3,rfl,W2,hw⟩;rw[aZ,<- le,vQ (bQ _)]at hw;exact d7 _ _ ⟨hw,W2.2.1⟩
  ·rintro σ' H2 ⟨hw,s2⟩;exact q none H2 hw s2
structure BdP(rs:List RX)(sh:List Nat)(num turn:Nat)(us:List Un):Prop where
 wh:RX.Whole rs
 ok:∀r∈rs,r.Ok
 cnum:∀n t p k x,.came n t p k x∈rs->n<=num
 knum:∀n t p k x y,.kept n t p k x y∈rs->n∈sh
 trn:∀q∈rs,q.turn<=turn
 und:∀u∈us,u.x.Ok/\(∃t p k,.came u.n t p k u.x∈rs)/\(∀t y,.done u.n t y∉rs)/\(u.q=true↔.asked u.n∈rs)/\(u.q=true->u.x.far=true)
 nd:(us.map (·.n)).Nodup
 asn:∀n,.asked n∈rs->∃t p k x,.came n t p k x∈rs
 dnn:∀n t y,.done n t y∈rs->∃t p k x,.came n t p k x∈rs
def BdP.turn'{rs:List RX}{sh:List Nat}{num turn turn':Nat}{us:List Un}(h:BdP rs sh num turn us)(ht:turn<=turn'):BdP rs sh num turn' us:=
 ⟨h.wh,h.ok,h.cnum,h.knum,λq hq=>kN (h.trn q hq) ht,h.und,h.nd,h.asn,h.dnn⟩
def BdP.came{rs:List RX}{sh:List Nat}{num turn n:Nat}{us:List Un}(h:BdP rs sh num turn us)(hn:num<n)(HW:n∉sh)(ng:n<=999999)(ht:turn<=1000000000000){p k:Str}{x:Dd}{e t:UF}(hp:fE p)(hk:wR k)(hx:x.Ok) :
  BdP (rs++[.came n turn p k x]) sh n turn (us++[⟨n,x,false,e,t⟩]):=by
 have no1:.asked n∉rs:=λm=>by obtain⟨t,p,k,x,m⟩:=h.asn n m;have:=h.cnum _ _ _ _ _ m;omega
 have no2:∀t y,.done n t y∉rs:=λt y m=>by obtain⟨t,p,k,x,m⟩:=h.dnn n t y m;have:=h.cnum _ _ _ _ _ m;omega
 refine⟨h.wh.snoc ⟨λn' t' p' k' d' m=>oZ (h.cnum _ _ _ _ _ m) hn,λt' p' k' d' y' m=>QZZ (h.knum _ _ _ _ _ _ m) HW,h.trn⟩,λr hr=>?_,λn' t' p' k' x' hr=>?_,λn' t' p' k' x' y' hr=>?_,λq hq=>?_,λu hu=>?_,?_,λn' hr=>?_,λn' t' y' hr=>?_⟩
 ·rcases aH hr with hr|rfl
  ·exact h.ok r hr
  ·exact⟨Zo,ng,ht,hp,hk,hx⟩
 ·rcases aH hr with hr|hr
  ·have:=h.cnum _ _ _ _ _ hr;omega
  ·cases hr;exact bQ _
 ·rcases aH hr with hr|hr
  ·exact h.knum _ _ _ _ _ _ hr
  ·cases hr
 ·rcases aH hq with hq|rfl
  ·exact h.trn q hq
  ·exact bQ _
 ·rcases aH hu with hu|rfl
  ·obtain⟨h1,⟨t1,p1,k1,h2⟩,h3,h4,h5⟩:=h.und u hu;refine⟨h1,⟨t1,p1,k1,QZX _ h2⟩,λt' y' m=>?_,⟨λz=>QZX _ (h4.mp z),λm=>?_⟩,h5⟩
   ·rcases aH m with m|m
    ·exact h3 _ _ m
    ·cases m
   ·rcases aH m with m|m
    ·exact h4.mpr m
    ·cases m
  ·refine⟨hx,⟨turn,p,k,QZW _ jI⟩,λt' y' m=>?_,⟨nofun,λm=>?_⟩,nofun⟩
   ·rcases aH m with m|m
    ·exact no2 _ _ m
    ·cases m
   ·rcases aH m with m|m
    ·exact QZZ m no1
    ·cases m
 ·rw[iB];refine nodup_append.mpr ⟨h.nd,Zs,λa ha b hb=>?_⟩;obtain⟨u,hu,rfl⟩:=Zmm.mp ha;obtain⟨_,⟨t1,p1,k1,h2⟩,_⟩:=h.und u hu;have:=h.cnum _ _ _ _ _ h2;have J1:b=n:=by simpa using hb
  omega
 ·rcases aH hr with hr|hr
  ·obtain⟨t,p,k,x,m⟩:=h.asn n' hr;exact⟨t,p,k,x,QZX _ m⟩
  ·cases hr
 ·rcases aH hr with hr|hr
  ·obtain⟨t,p,k,x,m⟩:=h.dnn n' _ _ hr;exact⟨t,p,k,x,QZX _ m⟩
  ·cases hr
def BdP.mark{rs:List RX}{sh:List Nat}{num turn j:Nat}{us:List Un}{u:Un}(h:BdP rs sh num turn us)(hu:us[j]?=some u)(hq:u.q=false)(hf:u.x.far=true) :
  BdP (rs++[.asked u.n]) sh num turn (us.set j {u with q:=true }):=by
 have hm:=jW hu;obtain⟨g1,⟨t1,p1,k1,g2⟩,g3,g4,g5⟩:=h.und u hm;have no:.asked u.n∉rs:=λm=>by rw[g4.mpr m]at hq;cases hq
 have LO:=h.ok _ g2;refine⟨h.wh.snoc ⟨⟨t1,p1,k1,u.x,g2,hf⟩,no,g3⟩,λr hr=>?_,λn' t' p' k' x' hr=>?_,λn' t' p' k' x' y' hr=>?_,λq hq=>?_,λv hv=>?_,?_,λn' hr=>?_,λn' t' y' hr=>?_⟩
 ·rcases aH hr with hr|rfl
  ·exact h.ok r hr
  ·exact⟨LO.1,LO.2.1⟩
 ·rcases aH hr with hr|hr
  ·exact h.cnum _ _ _ _ _ hr
  ·cases hr
 ·rcases aH hr with hr|hr
  ·exact h.knum _ _ _ _ _ _ hr
  ·cases hr
 ·rcases aH hq with hq|rfl
  ·exact h.trn q hq
  ·exact zero_le _
 ·rcases lX hv with rfl|⟨i,hi,ei⟩
  ·refine⟨g1,⟨t1,p1,k1,QZX _ g2⟩,λt' y' m=>?_,⟨λ_=>QZW _ jI,λ_=>rfl⟩,λ_=>hf⟩;rcases aH m with m|m
   ·exact g3 _ _ m
   ·cases m
  ·obtain⟨h1,⟨t2,p2,k2,h2⟩,h3,h4,h5⟩:=h.und v (jW ei);have C7:=Kz h.nd ei hu hi;refine⟨h1,⟨t2,p2,k2,QZX _ h2⟩,λt' y' m=>?_,⟨λz=>QZX _ (h4.mp z),λm=>?_⟩,h5⟩
   ·rcases aH m with m|m
    ·exact h3 _ _ m
    ·cases m
   ·rcases aH m with m|m
    ·exact h4.mpr m
    ·injection m with m;exact QZZ m C7
 ·have e:(us.set j {u with q:=true }).map (·.n)=us.map (·.n):=by
   obtain⟨CB,yl⟩:=Zgs.mp hu;rw[map_set];apply ext_getElem Zs;intro i h1 h2;rw[getElem_set];split
   ·rename_i z;subst z;simp[yl]
   ·rfl
  rw[e];exact h.nd
 ·rcases aH hr with hr|hr
  ·obtain⟨t,p,k,x,m⟩:=h.asn n' hr;exact⟨t,p,k,x,QZX _ m⟩
  ·cases hr;exact⟨t1,p1,k1,u.x,QZX _ g2⟩
 ·rcases aH hr with hr|hr
  ·obtain⟨t,p,k,x,m⟩:=h.dnn n' _ _ hr;exact⟨t,p,k,x,QZX _ m⟩
  ·cases hr
def BdP.done{rs:List RX}{sh:List Nat}{num turn j:Nat}{us:List Un}{u:Un}{y:An}(h:BdP rs sh num turn us)(hu:us[j]?=some u)(ht:turn<=1000000000000)(r1:An.Of u.x y)(r2:u.x.far=true->(u.q=true↔y.early=false)) :
  BdP (rs++[.done u.n turn y]) sh num turn (us.eraseIdx j):=by
 have hm:=jW hu;obtain⟨g1,⟨t1,p1,k1,g2⟩,g3,g4,g5⟩:=h.und u hm;have LO:=h.ok _ g2;refine⟨h.wh.snoc ⟨h.trn,g3,t1,p1,k1,u.x,g2,r1,λz=>⟨λm=>(r2 z).mp (g4.mpr m),λm=>g4.mp ((r2 z).mpr m)⟩⟩,λr hr=>?_,λn' t' p' k' x' hr=>?_,λn' t' p' k' x' y' hr=>?_,λq hq=>?_,λv hv=>?_,?_,λn' hr=>?_,λn' t' y' hr=>?_⟩
 ·rcases aH hr with hr|rfl
  ·exact h.ok r hr
  ·exact⟨LO.1,LO.2.1,ht⟩
 ·rcases aH hr with hr|hr
  ·exact h.cnum _ _ _ _ _ hr
  ·cases hr
 ·rcases aH hr with hr|hr
  ·exact h.knum _ _ _ _ _ _ hr
  ·cases hr
 ·rcases aH hq with hq|rfl
  ·exact h.trn q hq
  ·exact bQ _
 ·obtain⟨i,hi,ei⟩:=List.mem_eraseIdx_iff_getElem?.mp hv;obtain⟨h1,⟨t2,p2,k2,h2⟩,h3,h4,h5⟩:=h.und v (jW ei);have C7:=Kz h.nd ei hu hi;refine⟨h1,⟨t2,p2,k2,QZX _ h2⟩,λt' y' m=>?_,⟨λz=>QZX _ (h4.mp z),λm=>?_⟩,h5⟩
  ·rcases aH m with m|m
   ·exact h3 _ _ m
   ·injection m with m;exact QZZ m C7
  ·rcases aH m with m|m
   ·exact h4.mpr m
   ·cases m
 ·exact h.nd.sublist ((List.eraseIdx_sublist us j).map _)
 ·rcases aH hr with hr|hr
  ·obtain⟨t,p,k,x,m⟩:=h.asn n' hr;exact⟨t,p,k,x,QZX _ m⟩
  ·cases hr
 ·rcases aH hr with hr|hr
  ·obtain⟨t,p,k,x,m⟩:=h.dnn n' _ _ hr;exact⟨t,p,k,x,QZX _ m⟩
  ·cases hr;exact⟨t1,p1,k1,u.x,QZX _ g2⟩
def BdP.start{rs:List RX}{sh:List Nat}{num turn:Nat}(h:uY rs)(hk:∀n t p k x y,.kept n t p k x y∈rs->n∈sh)(ht:∀n t,.next n t∈rs->t<=turn):BdP rs sh num turn []:=by
 have no:∀r∈rs,r.rank=3->False:=λr hr e=>by have:=h.rk r hr;omega
 refine⟨h.wh,h.ok,λn t p k x m=>(no _ m rfl).elim,hk,λq hq=>?_,(λu hu=>nomatch hu),nodup_nil,λn m=>(no _ m rfl).elim,λn t y m=>(no _ m rfl).elim⟩
 cases q with
 | next n t=>exact ht _ _ hq
 | has z m=>exact zero_le _
 | kept n t p k x y=>exact zero_le _
 | came n t p k x=>exact(no _ hq rfl).elim
 | asked n=>exact(no _ hq rfl).elim
 | done n t y=>exact(no _ hq rfl).elim
def nI(ns:List Nat):List V:=ns.map λn:Nat=>V.int (n:Int)
structure BdH(H:Hp)(d b ra bk ul:UF)(H':Hp)(rs:List RX)(as:List UF)(sh:List Nat)(us:List Un):Prop where
 d0:Dk H d b
 r0:∃xs,H ra=some (.lst xs)
 fbk:H bk=none
 ful:H ul=none
 fes:∀u∈us,H u.e=none
 nra:ra≠d/\ra≠b
 nbu:bk≠ul
 nue:∀u∈us,u.e≠ul/\u.e≠bk
 nde:(us.map (·.e)).Nodup
 dk:Dk H' d b
 rows:RxsAt H' ra rs as
 book:H' bk=some (.lst (nI sh))
 und:H' ul=some (.lst ((us.map (·.e)).map V.ref))
 ent:∀u∈us,Kw H' u.e u.n u.t u.x u.q
 fr:∀c o,H c=some o->c≠d->c≠b->c≠ra->H' c=some o
section
variable {H H' P9:Hp}{d b ra bk ul:UF}{rs:List RX}{as:List UF}{sh:List Nat}{us:List Un}
def BdH.ra_ne(h:BdH H d b ra bk ul H' rs as sh us):ra≠bk/\ra≠ul/\∀u∈us,ra≠u.e:=by
 obtain⟨xs,r0⟩:=h.r0;exact⟨aE r0 h.fbk,aE r0 h.ful,λu hu=>aE r0 (h.fes u hu)⟩
def BdH.ne_d(h:BdH H d b ra bk ul H' rs as sh us){c:UF}(hc:H c=none):c≠d/\c≠b:=h.d0.ne hc
def BdH.fw(h:BdH H d b ra bk ul H' rs as sh us)(F:Fw d b H' P9):BdH H d b ra bk ul P9 rs as sh us:=by
 have nb:=h.ne_d h.fbk;have nu:=h.ne_d h.ful;refine⟨h.d0,h.r0,h.fbk,h.ful,h.fes,h.nra,h.nbu,h.nue,h.nde,F.dk,h.rows.keep F.tk (F.get h.rows.lst h.nra.1 h.nra.2),F.get h.book nb.1 nb.2,F.get h.und nu.1 nu.2,λu hu=>?_,λc o e n1 n2 n3=>F.get (h.fr c o e n1 n2 n3) n1 n2⟩;have ne:=h.ne_d (h.fes u hu);exact⟨F.get (h.ent u hu).1 ne.1 ne.2,F.tup (h.ent u hu).2⟩
def BdH.row(h:BdH H d b ra bk ul H' rs as sh us){r:RX}{a:UF}(hr:r.At H' a):BdH H d b ra bk ul (aI H' ra (.lst (as.map V.ref++[.ref a]))) (rs++[r]) (as++[a]) sh us:=by
 obtain⟨n1,n2,n3⟩:=h.ra_ne;have tk:TK H' (aI H' ra (.lst (as.map V.ref++[.ref a]))):=fZ h.rows.lst;refine⟨h.d0,h.r0,h.fbk,h.ful,h.fes,h.nra,h.nbu,h.nue,h.nde,Dk.put' h.dk h.nra.1 h.nra.2,h.rows.snoc tk (hr.tk tk) aA,by rw[aD n1.symm];exact h.book,by rw[aD n2.symm];exact h.und,λu hu=>⟨by rw[aD (n3 u hu).symm];exact(h.ent u hu).1,tk _ _ (h.ent u hu).2⟩,λc o e m1 m2 m3=>by rw[aD m3];exact h.fr c o e m1 m2 m3⟩
def BdH.push(h:BdH H d b ra bk ul H' rs as sh us){n:Nat}{x:Dd}{q:Bool}{e t:UF}(he:Kw H' e n t x q)(hf:H e=none)(h1:e≠ul)(h2:e≠bk)(h3:∀u∈us,u.e≠e) :
  BdH H d b ra bk ul (aI H' ul (.lst ((us.map (·.e)).map V.ref++[.ref e]))) rs as sh (us++[⟨n,x,q,e,t⟩]):=by
 obtain⟨n1,n2,n3⟩:=h.ra_ne;have nu:=h.ne_d h.ful;have tk:TK H' (aI H' ul (.lst ((us.map (·.e)).map V.ref++[.ref e]))):=fZ h.und;refine⟨h.d0,h.r0,h.fbk,h.ful,λu hu=>?_,h.nra,h.nbu,λu hu=>?_,?_,Dk.put' h.dk nu.1 nu.2,h.rows.keep tk (by rw[aD n2];exact h.rows.lst),by rw[aD h.nbu];exact h.book,by rw[aA,iB,iB];rfl,λu hu=>?_,λc o e' m1 m2 m3=>by rw[aD (aE e' h.ful)];exact h.fr c o e' m1 m2 m3⟩
 ·rcases aH hu with hu|rfl
  ·exact h.fes u hu
  ·exact hf
 ·rcases aH hu with hu|rfl
  ·exact h.nue u hu
  ·exact⟨h1,h2⟩
 ·rw[iB];refine nodup_append.mpr ⟨h.nde,Zs,λa ha c hc=>?_⟩;obtain⟨u,hu,rfl⟩:=Zmm.mp ha;have:c=e:=by simpa using hc
  rw[this];exact h3 u hu
 ·rcases aH hu with hu|rfl
  ·exact⟨by rw[aD (h.nue u hu).1];exact(h.ent u hu).1,tk _ _ (h.ent u hu).2⟩
  ·exact⟨by rw[aD h1];exact he.1,tk _ _ he.2⟩
def BdH.mark(h:BdH H d b ra bk ul H' rs as sh us){j:Nat}{u:Un}(hu:us[j]?=some u) :
  BdH H d b ra bk ul (aI H' u.e (.lst [.int (u.n:Int),.ref u.t,.bl true])) rs as sh (us.set j {u with q:=true }):=by
 obtain⟨n1,n2,n3⟩:=h.ra_ne;have hm:=jW hu;have ne:=h.ne_d (h.fes u hm);have tk:TK H' (aI H' u.e (.lst [.int (u.n:Int),.ref u.t,.bl true])):=fZ (h.ent u hm).1;have em:(us.set j {u with q:=true }).map (·.e)=us.map (·.e):=by
  obtain⟨CB,yl⟩:=Zgs.mp hu;rw[map_set];apply ext_getElem Zs;intro i h1 h2;rw[getElem_set];split
  ·rename_i z;subst z;simp[yl]
  ·rfl
 refine⟨h.d0,h.r0,h.fbk,h.ful,λv hv=>?_,h.nra,h.nbu,λv hv=>?_,by rw[em];exact h.nde,Dk.put' h.dk ne.1 ne.2,h.rows.keep tk (by rw[aD (n3 u hm)];exact h.rows.lst),by rw[aD (h.nue u hm).2.symm];exact h.book,by rw[aD (h.nue u hm).1.symm,em];exact h.und,λv hv=>?_,λc o e' m1 m2 m3=>by rw[aD (aE e' (h.fes u hm))];exact h.fr c o e' m1 m2 m3⟩
 ·rcases lX hv with rfl|⟨i,hi,ei⟩
  ·exact h.fes u hm
  ·exact h.fes v (jW ei)
 ·rcases lX hv with rfl|⟨i,hi,ei⟩
  ·exact h.nue u hm
  ·exact h.nue v (jW ei)
 ·rcases lX hv with rfl|⟨i,hi,ei⟩
  ·exact⟨aA,tk _ _ (h.ent u hm).2⟩
  ·have zl:=jW ei;exact⟨by rw[aD (Xq h.nde ei hu hi)];exact(h.ent v zl).1,tk _ _ (h.ent v zl).2⟩
def BdH.drop(h:BdH H d b ra bk ul H' rs as sh us)(j:Nat):BdH H d b ra bk ul (aI H' ul (.lst (((us.map (·.e)).eraseIdx j).map V.ref))) rs as sh (us.eraseIdx j):=by
 obtain⟨n1,n2,n3⟩:=h.ra_ne;have nu:=h.ne_d h.ful;have tk:TK H' (aI H' ul (.lst (((us.map (·.e)).eraseIdx j).map V.ref))):=fZ h.und;have sub:∀u∈us.eraseIdx j,u∈us:=λu hu=>List.mem_of_mem_eraseIdx hu
 have em:(us.eraseIdx j).map (·.e)=(us.map (·.e)).eraseIdx j:=by
  have:∀(us:List Un)(j:Nat),(us.eraseIdx j).map (·.e)=(us.map (·.e)).eraseIdx j:=by
   intro us;induction us with
   | nil=>intro j;simp
   | cons u us ih=>
    intro j;cases j with
    | zero=>simp
    | succ j=>rw[eraseIdx_cons_succ,map_cons,map_cons,eraseIdx_cons_succ,ih]
  exact this us j
 refine⟨h.d0,h.r0,h.fbk,h.ful,λu hu=>h.fes u (sub u hu),h.nra,h.nbu,λu hu=>h.nue u (sub u hu),h.nde.sublist ((List.eraseIdx_sublist us j).map _),Dk.put' h.dk nu.1 nu.2,h.rows.keep tk (by rw[aD n2];exact h.rows.lst),by rw[aD h.nbu];exact h.book,by rw[aA,em],λu hu=>⟨by rw[aD (h.nue u (sub u hu)).1];exact(h.ent u (sub u hu)).1,tk _ _ (h.ent u (sub u hu)).2⟩,λc o e' m1 m2 m3=>by rw[aD (aE e' h.ful)];exact h.fr c o e' m1 m2 m3⟩
def BdH.rem(h:BdH H d b ra bk ul H' rs as sh us)(hn:(us.map (·.n)).Nodup){j:Nat}{u:Un}(hu:us[j]?=some u){Q:VK}(q:Q .non (aI H' ul (.lst (((us.map (·.e)).eraseIdx j).map V.ref)))):jR (.ref ul) [.ref u.e] H' Q:=by
 have hm:=jW hu;refine⟨us.map (·.e),j,h.und,by rw[jC,hu];rfl,h.nde,λc hc C7=>?_,q⟩;obtain⟨v,hv,rfl⟩:=Zmm.mp hc;obtain⟨i,hi,ei⟩:=getElem_of_mem hv;have zl:us[i]?=some v:=by rw[gZ hi,ei]
 have IC:i≠j:=λz=>C7 (by rw[z]at zl;rw[hu]at zl;cases zl;rfl)
 refine⟨(v.n:Int),(u.n:Int),[.ref v.t,.bl v.q],[.ref u.t,.bl u.q],(h.ent v hv).1,(h.ent u hm).1,?_,rfl,λi u' v' e1 e2=>?_⟩
 ·have:=Kz hn zl hu IC;omega
 ·match i,e1,e2 with
  | 0,e1,e2=>
   cases e1;cases e2;exact .inr ⟨v.t,u.t,_,_,rfl,rfl,(h.ent v hv).2,(h.ent u hm).2,λj x y h1 h2=>⟨Bt v.x x (jW h1),Bt u.x y (jW h2)⟩⟩
  | 1,e1,e2=>cases e1;cases e2;exact .inl ⟨rfl,rfl⟩
  | i+2,e1,e2=>cases e1
end
def Qs(ns:List Nat):(nI ns).all eC=true:=by unfold nI;rw[all_eq_true];intro v hv;obtain⟨n,_,rfl⟩:=Zmm.mp hv;rfl
def Ls(n:Nat):∀sh:List Nat,gT (.int (n:Int)) (nI sh)=decide (n∈sh)
 | []=>rfl
 | a::r=>by
  have h1:gT (.int (n:Int)) (nI (a::r))=(qY (.int (a:Int)) (.int (n:Int))||gT (.int (n:Int)) (nI r)):=rfl;have e:qY (.int (a:Int)) (.int (n:Int))=decide (a=n):=by
   show((a:Int)==(n:Int))=_;by_cases h:a=n
   ·subst h;simp
   ·rw[W6 h];exact beq_eq_false_iff_ne.mpr Zo
  rw[h1,e,Ls n r];by_cases h:a=n
  ·subst h;simp
  ·have h':n≠a:=λz=>h z.symm
   simp[h,h']
def Fv(sh:List Nat)(m:Nat):Nat:=(sh.filter λx=>decide (m<=x)).length
def mF(a:Nat)(r:List Nat)(m:Nat):Fv (a::r) m=Fv r m+(if m<=a then 1 else 0):=by
 unfold Fv;rw[List.filter_cons];by_cases h:m<=a
 ·rw[TD (W7 h),TD h];rfl
 ·rw[P7 (by simpa using h),P7 h];rfl
def Xu(m:Nat):∀sh,Fv sh m<=sh.length:=λsh=>List.length_filter_le _ _
def xJ(m:Nat):∀sh,Fv sh (m+1)<=Fv sh m
 | []=>bQ _
 | a::r=>by
  have:=xJ m r;rw[mF,mF];split<;>split<;>omega
def Lu{m:Nat}:∀ {sh:List Nat},m∈sh->Fv sh (m+1)<Fv sh m
 | a::r,h=>by
  rw[mF,mF];have h0:=xJ m r;by_cases e:a=m
  ·subst e;rw[P7 Zo,TD (bQ _)];omega
  ·have hm:m∈r:=by
    rcases mem_cons.mp h with z|z
    ·exact QZZ z.symm e
    ·exact z
   have:=Lu hm;split<;>split<;>omega
def BdH.men{H H':Hp}{d b ra bk ul lm:UF}{rs:List RX}{as:List UF}{sh:List Nat}{us:List Un}{M:List UF}(h:BdH H d b ra bk ul H' rs as sh us)(hM:MenusAt H lm M)(h1:d∉M)(h2:b∉M)(h3:ra∉M):MenusAt H' lm M:=
 hM.keep λc hc o e=>h.fr c o e (λz=>h1 (z▸hc)) (λz=>h2 (z▸hc)) (λz=>h3 (z▸hc))
def Lv(y:An):gT (.str (uW y)) [.str "short",.str "full"]=y.early:=by cases y<;>rfl
def Qt{x:Dd}{q:Bool}{z:Str}(h:z∈gB x q):z∈gW x:=by
 cases hf:x.far with
 | false=>rw[qF x hf]at h;exact h
 | true=>rw[oY x hf]at h;exact(mem_filter.mp h).1
def Fd{x:Dd}{q:Bool}{y:An}(h:uW y∈gB x q)(hf:x.far=true):q=true↔y.early=false:=by
 rw[oY x hf]at h;have:=(mem_filter.mp h).2;rw[Lv]at this;revert this;cases q<;>cases y.early<;>decide
def tB(i:Nat):Nat:=500000000000+1000000000*i
def Cd(i:Nat):tB (i+1)=tB i+1000000000:=by unfold tB;rw[Nat.mul_succ,Nat.add_assoc]
def Te{i:Nat}(h:i<=30):tB i<=600000000000:=kN (Nat.add_le_add_left (Nat.mul_le_mul_left _ h) _) (QZY rfl)
def Xv(H:Hp)(d b ra lm bk ul:UF)(sh:List Nat)(many i:Nat)(σ':St)(H':Hp):Prop:=∃(rs:List RX)(as:List UF)(us:List Un)(num turn:Nat)(o8 o9 mq mr mv my:Option V),σ'=[some (.ref d),some (.ref ra),some (.ref lm),some (.int (many:Int)),some (.ref bk),some (.ref ul),some (.int (num:Int)),some (.int (turn:Int)),o8,o9,mq,mr,mv,my]/\BdH H d b ra bk ul H' rs as sh us/\BdP rs sh num turn us/\rs.length<=13+i/\num<=900006+22*i/\turn<=tB i/\us.length<=i
def Qu(T:Txt K mg)(b9:aG P w K mg base 1 "_law_draw" QZR bF)(A0:aG P w K mg base 3 "_law_deed" QZH iX)(M8:aG P w K mg base 2 "_law_spot" QZO lW){fa:UF}{cdv:T0}{A:Around}{outer:List Env}{s:TW}{H0:Hp}{E:XK}(hr:Room 3 (A.deeper (PyProof.Rows.envOfC "_law_body" (aB bR) s.heap.objs.size fa cdv))) :
  ∃t,XB (fL qW P w K mg base QZq "_law_body" (aB bR) fa cdv A outer s H0 E).nox (stT (Pw (stB (Pw (aV bR) 4)) 2)) t ∧
  ∀(D:kK)(H H9:Hp)(d b ra lm bk ul:UF)(M:List UF)(sh:List Nat)(many i way num turn turn':Nat)(rs:List RX)(as:List UF)(us:List Un)(mq mr mv my:Option V),MenusAt H lm M->d∉M->b∉M->ra∉M->i<30->sh.length<=13->BdH H d b ra bk ul H9 rs as sh us->BdP rs sh num turn' us->rs.length<=13+i->num<=900006+22*i->turn<=tB i->us.length<=i->turn<=turn'->turn'<=turn+1000000000->(∀ σ' H',Xv H d b ra lm bk ul sh many (i+1) σ' H'->D.nx σ' H') →
   t D [some (.ref d),some (.ref ra),some (.ref lm),some (.int (many:Int)),some (.ref bk),some (.ref ul),some (.int (num:Int)),some (.int (turn':Int)),some (.int (i:Int)),some (.int (way:Int)),mq,mr,mv,my] H9:=by
 have c6:Room 1 _:=hr.mono Zd;have E3:Room 3 _:=hr.mono Zd;have Z0:Room 2 _:=hr.mono Zd;have hu:=hr.units0;have wm:=hr.units;refine⟨_,(lv (o0 (i:=6) aY.nd (ml sv (ml sv (kq 6) lc) (li (sj (K:=K)) (sw (kt lc (kt lc (kt (mk b9 c6 rfl (kt (kq 0) (kt lc lf))) lf)))) (mk b9 c6 rfl (kt (kq 0) (kt lc lf)))))) (lv (R.jt PassesOwn.never (nw (tz (K:=K)) (kq 6) (kq 4)) (mj (o0 (i:=6) aY.nd (ml sv (kq 6) lc)))) (lv (o0 (i:=10) aY.nd (mk A0 E3 rfl (kt (kq 0) (kt (li (sj (K:=K)) (kq 2) lc) (kt (li (sj (K:=K)) (kq 2) lc) lf))))) (lv (xt (xr (K:=K) PySem.F.plainAttrs_list PySem.F.slot_list_append PySem.F.type_list_append DU (kq 1) (kt (ml AC (ml AC (pi (kt mh (kt (kq 6) (kt (kq 7) lf)))) (mk M8 Z0 rfl (kt (kq 0) (kt (kq 2) lf)))) (pi (kt (kq 10) lf))) lf))) (mj (xt (xr (K:=K) PySem.F.plainAttrs_list PySem.F.slot_list_append PySem.F.type_list_append DU (kq 5) (kt (sw (kt (kq 6) (kt (kq 10) (kt tj lf)))) lf)))))))),?_⟩;intro D H H9 d b ra lm bk ul M sh many i way num turn turn' rs as us mq mr mv my hM oD oB oR hi OT L9 P8 l1 l2 l3 l5 t1 t2 LP;have b3:turn'<=tB (i+1):=by have:=Cd i;omega
 have b4:turn'<=1000000000000:=by have:=Te (i:=i) Zo;omega
 refine bK (λσ' H'=>∃(m:Nat),σ'=[some (.ref d),some (.ref ra),some (.ref lm),some (.int (many:Int)),some (.ref bk),some (.ref ul),some (.int (m:Int)),some (.int (turn':Int)),some (.int (i:Int)),some (.int (way:Int)),mq,mr,mv,my]/\num<m/\m<=num+9/\BdH H d b ra bk ul H' rs as sh us) (λQR Q1=>?_) ?_
 ·refine⟨d,b,9,rfl,L9.dk,Zd,Zd,λr8 H8 x0 x1 D8 k8=>⟨eK rfl,λp hp=>⟨d,b,3,rfl,D8.new hp,Zd,Zd,λr9 Ha y0 y1 D9 k9=>?_⟩⟩⟩;obtain⟨r8,rfl⟩:=dF x0;have J7:=D8.ne hp;have gp:=k9 p _ aA J7.1 J7.2;have La:=L9.fw ((((Fw.refl L9.dk).draw D8 k8).new hp).draw D9 k9);rcases(by omega:r9=0∨r9=1∨r9=2) with rfl|rfl|rfl
  ·exact⟨_,QYU gp,_,rfl,Q1 _ _ ⟨num+1,rfl,Zo,Zo,La⟩⟩
  ·exact⟨_,QYU gp,_,rfl,Q1 _ _ ⟨num+1,rfl,Zo,Zo,La⟩⟩
  ·exact⟨_,QYU gp,_,rfl,Q1 _ _ ⟨num+1+r8,rfl,Zo,Zo,La⟩⟩
 rintro σ' Hz ⟨m0,rfl,z1,z2,Lz⟩;refine bK (λσ' H'=>∃(m:Nat),σ'=[some (.ref d),some (.ref ra),some (.ref lm),some (.int (many:Int)),some (.ref bk),some (.ref ul),some (.int (m:Int)),some (.int (turn':Int)),some (.int (i:Int)),some (.int (way:Int)),mq,mr,mv,my]/\num<m/\m<=num+22/\m∉sh/\BdH H d b ra bk ul H' rs as sh us) (λQR Q1=>?_) ?_
 ·refine⟨λk σ' H'=>∃(m:Nat),σ'=[some (.ref d),some (.ref ra),some (.ref lm),some (.int (many:Int)),some (.ref bk),some (.ref ul),some (.int (m:Int)),some (.int (turn':Int)),some (.int (i:Int)),some (.int (way:Int)),mq,mr,mv,my]/\k=Fv sh m/\num<m/\m+Fv sh m<=num+22/\H'=Hz,⟨Fv sh m0,m0,rfl,rfl,z1,by have:=Xu m0 sh;omega,rfl⟩,?_⟩;rintro k σ' H' ⟨m,rfl,rfl,q1,q2,rfl⟩;refine⟨bk,_,rfl,.inl (QYU Lz.book),rfl,Qs _,?_⟩;show if gT (.int (m:Int)) (nI sh)=true then _ else _
  rw[Ls];refine aQ (λh=>?_) (λh=>Q1 _ _ ⟨m,rfl,q1,Zo,W8 h,Lz⟩);have B5:=Lu (W9 h);refine⟨λσ'' P9=>σ''=[some (.ref d),some (.ref ra),some (.ref lm),some (.int (many:Int)),some (.ref bk),some (.ref ul),some (.int ((m+1:Nat):Int)),some (.int (turn':Int)),some (.int (i:Int)),some (.int (way:Int)),mq,mr,mv,my]/\P9=H',λσ'' P9 ⟨e1,e2⟩=>⟨Fv sh (m+1),B5,m+1,e1,rfl,Zo,Zo,e2⟩,?_⟩;exact⟨rfl,rfl⟩
 rintro σ' Ha ⟨m,rfl,m1,m2,mns,La⟩;have hMa:=La.men hM oD oB oR;obtain⟨a0,a1,a2,a3,ws,us',ps,ks,eM,h0,h1,h2,h3,h4,mw,mu,_⟩:=hMa.ex;have nd:∀c∈M,c≠d/\c≠b:=λc hc=>⟨(λz=>oD (z▸hc)),(λz=>oB (z▸hc))⟩
 have i0:a0∈M:=by rw[eM];simp
 have i1:a1∈M:=by rw[eM];simp
 refine⟨_,QYU h0,_,rfl,_,QYU h0,_,rfl,d,b,a0,a1,ws,us',rfl,La.dk,h1,h2,⟨(nd a0 i0).1,(nd a0 i0).2,(nd a1 i1).1,(nd a1 i1).2⟩,mw,mu,λt' x' Hc X0 EL fc=>?_⟩;have Lc:=La.fw fc;dsimp only [aK];refine⟨.inl ⟨rfl,_,QYU Lc.rows.lst⟩,aL rfl,λq1 Hd sd gd=>?_⟩;have Ld:=Lc.fw ((Fw.refl Lc.dk).same sd);refine⟨d,b,lm,M,rfl,Ld.dk,Ld.men hM oD oB oR,oD,oB,λq2 pp kk He hpp lj ge fe=>?_⟩;refine⟨_,_,fe.tup gd,ge,QZY rfl,λq3 Hf sf gf=>⟨aL rfl,λq4 Hg sg gg=>⟨_,_,sg _ _ gf,gg,QZY rfl,λq5 Hh sh' gh=>?_⟩⟩⟩;have Fh:=(((fe.same sf).same sg).same sh');have Lh:=Ld.fw Fh;have lr:=Lh.rows.len;refine⟨ra,_,_,rfl,rfl,Lh.rows.lst,by rw[aZ];exact oZ (m:=1000) Zo Zd,?_⟩;have Li:=Lh.row (r:=.came m turn' pp kk x') (a:=q5) ⟨t',gh,Fh.tup (sd _ _ EL)⟩;have VU:(aI Hh ra (.lst (as.map V.ref++[.ref q5]))) t'=some (.tup x'.vs):=fZ Lh.rows.lst _ _ (Fh.tup (sd _ _ EL));generalize aI Hh ra (.lst (as.map V.ref++[.ref q5]))=Hi at Li VU;refine⟨.inl ⟨rfl,_,QYU Li.und⟩,eK rfl,λe he=>?_⟩;have Lj:=Li.fw ((Fw.refl Li.dk).new (o:=.lst [.int (m:Int),.ref t',.bl false]) he);have ge':Kw (aI Hi e (.lst [.int (m:Int),.ref t',.bl false])) e m t' x' false:=⟨aA,aN VU he⟩;have eul:e≠ul:=(aE Li.und he).symm;have FY:e≠bk:=(aE Li.book he).symm;have eus:∀u∈us,u.e≠e:=λu hu=>aE (Li.ent u hu).1 he
 have fe0:H e=none:=by
  cases hh:H e with
  | none=>rfl
  | some o=>
   have VW:=Li.dk.ne he;have:e≠ra:=(aE Li.rows.lst he).symm;rw[Li.fr e o hh VW.1 VW.2 this]at he;cases he
 refine⟨ul,_,_,rfl,rfl,Lj.und,by rw[aZ,aZ];exact oZ (m:=1000) Zo Zd,?_⟩;exact LP _ _ ⟨_,_,_,m,turn',_,_,_,_,_,_,rfl,Lj.push ge' fe0 eul FY eus,P8.came m1 mns Zo b4 hpp lj X0,by simp;omega,Zo,b3,by simp;omega⟩
def Qv(T:Txt K mg)(b9:aG P w K mg base 1 "_law_draw" QZR bF)(m6:aG P w K mg base 1 "_law_words" QZF hX)(n9:aG P w K mg base 3 "_law_answer" QZE nO){fa:UF}{cdv:T0}{A:Around}{outer:List Env}{s:TW}{H0:Hp}{E:XK}(hr:Room 3 (A.deeper (PyProof.Rows.envOfC "_law_body" (aB bR) s.heap.objs.size fa cdv))) :
  ∃t,XB (fL qW P w K mg base QZq "_law_body" (aB bR) fa cdv A outer s H0 E).nox (stE (Pw (stB (Pw (aV bR) 4)) 2)) t ∧
  ∀(D:kK)(H H9:Hp)(d b ra lm bk ul:UF)(M:List UF)(sh:List Nat)(many i way num turn turn':Nat)(rs:List RX)(as:List UF)(us:List Un)(mq mr mv my:Option V),MenusAt H lm M->d∉M->b∉M->ra∉M->i<30->sh.length<=13->BdH H d b ra bk ul H9 rs as sh us->BdP rs sh num turn' us->rs.length<=13+i->num<=900006+22*i->turn<=tB i->us.length<=i->turn<=turn'->turn'<=turn+1000000000->us≠[]->(∀ σ' H',Xv H d b ra lm bk ul sh many (i+1) σ' H'->D.nx σ' H') →
   t D [some (.ref d),some (.ref ra),some (.ref lm),some (.int (many:Int)),some (.ref bk),some (.ref ul),some (.int (num:Int)),some (.int (turn':Int)),some (.int (i:Int)),some (.int (way:Int)),mq,mr,mv,my] H9:=by
 have c6:Room 1 _:=hr.mono Zd;have v7:Room 1 _:=hr.mono Zd;have A1:Room 3 _:=hr.mono Zd;have hu:=hr.units0;have wm:=hr.units;refine⟨_,(lv (o0 (i:=11) aY.nd (li (sj (K:=K)) (kq 5) (mk b9 c6 rfl (kt (kq 0) (kt (su (sy (K:=K)) rfl T.b_len aO (kt (kq 5) lf)) lf))))) (lv (o0 (i:=12) aY.nd (mk m6 v7 rfl (kt (li (sj (K:=K)) (kq 11) lc) (kt (li (sj (K:=K)) (kq 11) lc) lf)))) (mj (re (ve (xo (nw rq (kq 9) lc) (xo (xu (wn (li (sj (K:=K)) (kq 11) lc))) (xx (nw (tz (K:=K)) (li (mi (K:=K)) (li (sj (K:=K)) (kq 11) lc) lc) (pi (kt mh (kt mh (kt mh lf))))))))) (lv (xt (xr (K:=K) PySem.F.plainAttrs_list PySem.F.slot_list_append PySem.F.type_list_append DU (kq 1) (kt (pi (kt mh (kt (li (sj (K:=K)) (kq 11) lc) lf))) lf))) (mj (zd tj (zn (kq 11) lc R.ji)))) (mj (re (nw (R.fk (K:=K) hu) (kq 12) (sw lf)) (lv (o0 (i:=13) aY.nd (mk n9 A1 rfl (kt (kq 0) (kt (li (sj (K:=K)) (kq 11) lc) (kt (li (sj (K:=K)) (kq 12) (mk b9 c6 rfl (kt (kq 0) (kt (su (sy (K:=K)) rfl T.b_len aO (kt (kq 12) lf)) lf)))) lf))))) (lv (xt (xr (K:=K) PySem.F.plainAttrs_list PySem.F.slot_list_append PySem.F.type_list_append DU (kq 1) (kt (pi (kt mh (kt (li (sj (K:=K)) (kq 11) lc) (kt (kq 7) (kt (kq 13) lf))))) lf))) (mj (xt (xr (K:=K) PySem.F.plainAttrs_list PySem.F.slot_list_remove PySem.F.type_list_remove (R.ja wm) (kq 5) (kt (kq 11) lf)))))) rp)))))),?_⟩;intro D H H9 d b ra lm bk ul M sh many i way num turn turn' rs as us mq mr mv my hM oD oB oR hi OT L9 P8 l1 l2 l3 l5 t1 t2 C7 LP;have b3:turn'<=tB (i+1):=by have:=Cd i;omega
 have b4:turn'<=1000000000000:=by have:=Te (i:=i) Zo;omega
 have CU:0<us.length:=by cases us with|nil=>exact QZZ rfl C7|cons _ _=>exact succ_pos _
 refine⟨_,.inl (QYU L9.und),d,b,(us.length:Int),by rw[aZ,aZ],L9.dk,Zo,Zo,λr Ha r0 r1 Da ka=>?_⟩;have La:=L9.fw ((Fw.refl L9.dk).draw Da ka);obtain⟨j,rfl⟩:=dF r0;have hj:j<us.length:=by omega
 obtain⟨u,IV⟩:∃u,us[j]?=some u:=⟨us[j],gZ hj⟩;have CF:=jW IV;obtain⟨g1,⟨tc,pc,kc,g2⟩,g3,g4,g5⟩:=P8.und u CF;refine⟨_,QYU La.und,.ref u.e,bJ (by rw[jC,jC,IV];rfl),?_⟩;dsimp only [aK];refine⟨_,QYU (La.ent u CF).1,_,rfl,_,QYU (La.ent u CF).1,_,rfl,u.t,u.x,u.q,rfl,(La.ent u CF).2,λwl Hb VX RB sb=>?_⟩;have VY:=La.dk.ne VX;have nwr:wl≠ra:=(aE La.rows.lst VX).symm;have Lb:=La.fw ((Fw.refl La.dk).same sb);dsimp only [aK];refine Ki (λc H'=>BdH H d b ra bk ul H' rs as sh us/\H' wl=some (.lst ((gB u.x u.q).map V.str))/\(c=true->u.q=false/\u.x.far=true)) (λk hk=>?_) ?_ ?_
 ·have en:=(Lb.ent u CF);refine aQ (λ_=>?_) (λ_=>hk _ _ ⟨Lb,RB,nofun⟩);refine⟨_,QYU en.1,_,rfl,?_⟩;show if (!u.q)=true then _ else _
  refine aQ (λhq=>?_) (λ_=>hk _ _ ⟨Lb,RB,nofun⟩);refine⟨_,QYU en.1,_,rfl,_,QYV en.2,_,xF u.x,aL rfl,λtq Hc sc gc=>⟨tq,_,rfl,.inr (QYV gc),rfl,rfl,?_⟩⟩;refine hk _ _ ⟨Lb.fw ((Fw.refl Lb.dk).same sc),sc _ _ RB,λz=>⟨by simpa using hq,?_⟩⟩;rw[<- Bs];exact z
 ·rintro Hc ⟨Lc,RC,hc⟩;obtain⟨hq,hf⟩:=hc rfl;refine⟨.inl ⟨rfl,_,QYU Lc.rows.lst⟩,_,QYU (Lc.ent u CF).1,_,rfl,aL rfl,λta Hd sd gd=>?_⟩;have Ld:=Lc.fw ((Fw.refl Lc.dk).same sd);have lr:=Ld.rows.len;refine⟨ra,_,_,rfl,rfl,Ld.rows.lst,by rw[aZ];exact oZ (m:=1000) Zo Zd,?_⟩;have Le:=Ld.row (r:=.asked u.n) (a:=ta) gd;generalize aI Hd ra (.lst (as.map V.ref++[.ref ta]))=He at Le;refine⟨u.e,_,2,2,rfl,rfl,(Le.ent u CF).1,rfl,?_⟩;exact LP _ _ ⟨_,_,_,num,turn',_,_,_,_,_,_,rfl,Le.mark IV,P8.mark IV hq hf,by simp;omega,Zo,b3,by rw[length_set];omega⟩
 ·rintro Hc ⟨Lc,RC,hc⟩;refine Ki (λc H'=>BdH H d b ra bk ul H' rs as sh us/\H' wl=some (.lst ((gB u.x u.q).map V.str))/\(c=true->gB u.x u.q≠[])) (λk hk=>?_) ?_ ?_
  ·refine⟨eK rfl,λp hp=>⟨wl,p,_,rfl,rfl,QYU (aN RC hp),QYU aA,?_⟩⟩;refine hk _ _ ⟨Lc.fw ((Fw.refl Lc.dk).new hp),aN RC hp,λe z=>?_⟩;rw[z]at e;cases e
  ·rintro Hd ⟨Ld,VZ,hw⟩;have RD:=hw rfl;have hwp:0<(gB u.x u.q).length:=List.length_pos_iff.mpr RD;have hw9:(gB u.x u.q).length<=9:=by cases u.x<;>cases u.q<;>exact QZY rfl
   refine⟨_,QYU (Ld.ent u CF).1,_,rfl,_,.inl (QYU VZ),d,b,((gB u.x u.q).length:Int),by rw[aZ],Ld.dk,Zo,Zo,λr He r0 r1 De ke=>?_⟩;obtain⟨jz,rfl⟩:=dF r0;have Fe:=(Fw.refl Ld.dk).draw De ke;have Le:=Ld.fw Fe;have WB:jz<(gB u.x u.q).length:=by omega
   have LK:(gB u.x u.q)[jz]∈gB u.x u.q:=getElem_mem WB;refine⟨_,QYU (Fe.get VZ VY.1 VY.2),.str (gB u.x u.q)[jz],bJ (by rw[jC,gZ WB];rfl),d,b,u.t,u.x,(gB u.x u.q)[jz],rfl,Le.dk,(Le.ent u CF).2,g1,Qt LK,λcc y Hf zx hwy gcc ff=>?_⟩;have Lf:=Le.fw ff;rw[<- hwy]at LK;dsimp only [aK];refine⟨.inl ⟨rfl,_,QYU Lf.rows.lst⟩,_,QYU (Lf.ent u CF).1,_,rfl,aL rfl,λta Hg sg gg=>?_⟩;have Lg:=Lf.fw ((Fw.refl Lf.dk).same sg);have lr:=Lg.rows.len;have gcg:=sg _ _ gcc;refine⟨ra,_,_,rfl,rfl,Lg.rows.lst,by rw[aZ];exact oZ (m:=1000) Zo Zd,?_⟩;have Lh:=Lg.row (r:=.done u.n turn' y) (a:=ta) ⟨cc,gg,gcg⟩;generalize aI Hg ra (.lst (as.map V.ref++[.ref ta]))=Hh at Lh;refine⟨.inl ⟨rfl,_,QYU Lh.und⟩,?_⟩;dsimp only [nX,yJ,vr];show jR (.ref ul) [.ref u.e] Hh _;refine Lh.rem P8.nd IV ?_;exact LP _ _ ⟨_,_,_,num,turn',_,_,_,_,_,_,rfl,Lh.drop j,P8.done IV b4 zx (Fd LK),by simp;omega,Zo,b3,by have:=List.length_eraseIdx_le us j;omega⟩
  ·rintro Hd ⟨Ld,_,_⟩;exact LP _ _ ⟨rs,as,us,num,turn',_,_,_,_,_,_,rfl,Ld,P8,Zo,Zo,b3,Zo⟩
def vB:Sp:=λvs H Q _=>∃(d b ra lm:UF)(M:List UF)(rs:List RX)(as:List UF)(many:Nat),vs=[.ref d,.ref ra,.ref lm,.int (many:Int)]/\Dk H d b/\RxsAt H ra rs as/\uY rs/\MenusAt H lm M/\d∉M/\b∉M/\ra∉M/\ra≠d/\ra≠b/\many<=30 ∧
 ∀(Q6:List RX)(X3:List UF)(H':Hp),RxsAt H' ra Q6 X3->RX.Whole Q6->(∀r∈Q6,r.Ok)->Q6.length<=43->Dk H' d b->(∀c o,H c=some o->c≠d->c≠b->c≠ra->H' c=some o)->Q (.ref ra) H'
def Qw(T:Txt K mg)(b9:aG P w K mg base 1 "_law_draw" QZR bF)(A0:aG P w K mg base 3 "_law_deed" QZH iX)(M8:aG P w K mg base 2 "_law_spot" QZO lW)(m6:aG P w K mg base 1 "_law_words" QZF hX)(n9:aG P w K mg base 3 "_law_answer" QZE nO)(D:DefAt K mg "_law_body" bR QZg):aG P w K mg base 4 "_law_body" QZg vB:=by
 refine D.go aY (λvs H Q E h=>?_) (λf cdv A outer s H vs Q E hr h=>?_)
 ·obtain⟨d,b,ra,lm,M,rs,as,many,rfl,_⟩:=h;rfl
 ·obtain⟨d,b,ra,lm,M,FZ,NX,many,rfl,dk,R0,LQ,hM,oD,oB,oR,RE,RF,WC,q⟩:=h;have c6:Room 1 _:=hr.mono Zd;have hu:=hr.units0;have wm:=hr.units;have l0:=LQ.len;have WD:=R0.len;obtain⟨tc1,h1,p1⟩:=Qu (P:=P) (w:=w) (base:=base) T b9 A0 M8 (fa:=f) (outer:=outer) (H0:=H) (E:=E) hr;obtain⟨tc2,h2,p2⟩:=Qv (P:=P) (w:=w) (base:=base) T b9 m6 n9 (fa:=f) (outer:=outer) (H0:=H) (E:=E) hr;refine⟨_,(lv (R.eh (i:=4) aY.nd rfl (Or.inl rfl) rfl (js:=[none]) (N:=QZz) (CompScope.by (aB bR) QZq rfl rfl Zk) (aP rfl) (wf (K:=K) (kq 1)) (λC s₂ H₂ fp=>⟨(sx (i:=0) (show(QZz:List Str).Nodup by decide +kernel)),(wv (nw rq (li (mi (K:=K)) (kq 0) lc) mh)),(li (mi (K:=K)) (kq 0) lc)⟩) rfl) (lv (o0 (i:=5) aY.nd (sw lf)) (lv (o0 (i:=6) aY.nd (mk b9 c6 rfl (kt (kq 0) (kt (li (sj (K:=K)) (sw (kt lc (kt lc lf))) (mk b9 c6 rfl (kt (kq 0) (kt lc lf)))) lf)))) (lv (o0 (i:=7) aY.nd (su (R.fq (K:=K) rfl) rfl T.b_max pP (kt (ml vj (vm rfl (js:=[none]) (N:=QZz) (CompScope.by (aB bR) QZq rfl rfl Zk) (aP rfl) (wf (K:=K) (kq 1)) (λC s₂ H₂ fp=>⟨(sx (i:=0) (show(QZz:List Str).Nodup by decide +kernel)),(wv (nw rq (li (mi (K:=K)) (kq 0) lc) mh)),(li (mi (K:=K)) (kq 0) lc)⟩)) (sw (kt lc lf))) lf))) (lv (AT PassesOwn.never rfl (PP rfl T.b_range (kt (kq 3) lf)) (sx (i:=8) aY.nd) (lv (o0 (i:=9) aY.nd (mk b9 c6 rfl (kt (kq 0) (kt lc lf)))) (lv (o0 (i:=7) aY.nd (ml sv (kq 7) (li (sj (K:=K)) (sw (kt lc (kt lc (kt lc (kt (mk b9 c6 rfl (kt (kq 0) (kt (ml xy lc lc) lf))) lf))))) (mk b9 c6 rfl (kt (kq 0) (kt lc lf)))))) (mj (re (ve (wp (nw xz (kq 9) lc) (xw (nw (P4 (K:=K) hu) (kq 5) (sw lf)))))
   h1
   h2))))) (mj (ms (kq 1)))))))),?_⟩
  refine bK (λσ' H'=>∃(bk:UF)(sh:List Nat),σ'=[some (.ref d),some (.ref ra),some (.ref lm),some (.int (many:Int)),some (.ref bk),none,none,none,none,none,none,none,none,none]/\H bk=none/\H' bk=some (.lst (nI sh))/\sh.length<=13/\(∀n t p k x y,.kept n t p k x y∈FZ->n∈sh)/\Same H H') (λnx d7=>?_) ?_
  ·refine⟨ra,rfl,⟨_,QYU R0.lst⟩,?_⟩;refine bT (dB K ra (NX.map V.ref)) (by rw[aZ];omega) (λi ys H'=>H'=H/\∃ns:List Nat,ys=nI ns/\ns.length<=i/\∀n t p k x y,.kept n t p k x y∈FZ.take i->n∈ns) (λi ys H' ⟨e0,ns,e,l',_⟩=>⟨by rw[e0];exact QYU R0.lst,by rw[e];unfold nI;rw[aZ];exact l'⟩) ⟨rfl,[],rfl,bQ _,(λ_ _ _ _ _ _ h=>nomatch h)⟩ (λi x ys H' hx ⟨e0,ns,e,l',nz⟩=>?_) (λys H' ⟨e0,ns,e,l',nz⟩=>?_)
   ·subst e0;obtain⟨a,r,rfl,ha,C8,j7⟩:=R0.get hx;obtain⟨xs,g,x0,x1,x2⟩:=bO j7;have um:=cE C8;dsimp only [aK];refine⟨_,QYV g,_,x0,?_⟩;show if decide (bH r="kept")=true then _ else _
    refine aQ (λh=>?_) (λh=>?_)
    ·obtain⟨n,t,p,k,x,y,rfl⟩:=Bu (W9 h);refine⟨_,QYV g,_,x1,rfl,ns++[n],by rw[e];unfold nI;rw[iB];rfl,by simp;omega,λn' t' p' k' x' y' hm=>?_⟩;rw[um]at hm;rcases aH hm with hm|hm
     ·exact QZX _ (nz _ _ _ _ _ _ hm)
     ·cases hm;exact QZW _ jI
    ·refine⟨rfl,ns,e,Zo,λn' t' p' k' x' y' hm=>?_⟩;rw[um]at hm;rcases aH hm with hm|hm
     ·exact nz _ _ _ _ _ _ hm
     ·subst hm;exact QZZ rfl (W8 h)
   ·subst e0;intro p hp;rw[aZ]at l' nz;rw[<- WD,vQ (bQ _)]at nz;exact d7 _ _ ⟨p,ns,rfl,hp,by rw[aA,e],Zo,nz,aF hp⟩
  rintro σ' H1 ⟨bk,sh,rfl,fbk,LR,WE,hkn,s1⟩;have f1:=(Fw.refl dk).same s1;refine⟨eK rfl,λul FN=>?_⟩;have ful:=s1.free FN;have nbu:bk≠ul:=aE LR FN;have f2:=f1.new (o:=.lst []) FN;have WH:(aI H1 ul (.lst [])) ul=some (.lst []):=aA;replace LR:=aN (u:=.lst []) LR FN;dsimp only [aK];generalize aI H1 ul (.lst [])=H2 at f2 WH LR;refine bK (λσ' H'=>∃(num:Nat),σ'=[some (.ref d),some (.ref ra),some (.ref lm),some (.int (many:Int)),some (.ref bk),some (.ref ul),some (.int (num:Int)),none,none,none,none,none,none,none]/\num<=900006/\Fw d b H2 H') (λnx d7=>?_) ?_
  ·refine⟨eK rfl,λp hp=>⟨d,b,2,rfl,f2.dk.new hp,Zd,Zd,λr H3 r0 r1 D3 k3=>?_⟩⟩;have pd:=f2.dk.ne hp;have F3:=((Fw.refl f2.dk).new (o:=.lst [.int 4,.int 900000]) hp).draw D3 k3;have gp:=k3 p _ aA pd.1 pd.2;rcases(by omega:r=0∨r=1) with rfl|rfl
   ·refine⟨_,QYU gp,_,rfl,d,b,4,rfl,F3.dk,Zd,Zd,λr4 H4 x0 x1 D4 k4=>?_⟩;obtain⟨n,rfl⟩:=dF x0;exact d7 _ _ ⟨n,rfl,Zo,F3.draw D4 k4⟩
   ·refine⟨_,QYU gp,_,rfl,d,b,900000,rfl,F3.dk,Zd,Zd,λr4 H4 x0 x1 D4 k4=>?_⟩;obtain⟨n,rfl⟩:=dF x0;exact d7 _ _ ⟨n,rfl,Zo,F3.draw D4 k4⟩
  rintro σ' H4 ⟨num,rfl,aX',F4⟩;have f4:=f2.trans F4;have R4:=R0.keep f4.tk (f4.get R0.lst RE RF);refine bK (λσ' H'=>∃(turn:Nat),σ'=[some (.ref d),some (.ref ra),some (.ref lm),some (.int (many:Int)),some (.ref bk),some (.ref ul),some (.int (num:Int)),some (.int (turn:Int)),none,none,none,none,none,none]/\turn<500000000000/\(∀n t,.next n t∈FZ->t<=turn)/\Fw d b H2 H') (λnx d7=>?_) ?_
  ·refine⟨ra,rfl,⟨_,QYU R4.lst⟩,?_⟩;refine bT (dB K ra (NX.map V.ref)) (by rw[aZ];omega) (λi ys H'=>H'=H4/\∃ns:List Nat,ys=ns.map (λn:Nat=>V.int (n:Int))/\ns.length<=i/\(∀n∈ns,n<500000000000)/\∀n t,.next n t∈FZ.take i->t∈ns) (λi ys H' ⟨e0,ns,e,l',_⟩=>⟨by rw[e0];exact QYU R4.lst,by rw[e,aZ];exact l'⟩) ⟨rfl,[],rfl,bQ _,(λ_ h=>nomatch h),(λ_ _ h=>nomatch h)⟩ (λi x ys H' hx ⟨e0,ns,e,l',J1,nz⟩=>?_) (λys H' ⟨e0,ns,e,l',J1,nz⟩=>?_)
   ·subst e0;obtain⟨a,r,rfl,ha,C8,j7⟩:=R4.get hx;obtain⟨xs,g,x0,x1,x2⟩:=bO j7;have um:=cE C8;have hrm:r∈FZ:=jW C8;dsimp only [aK];refine⟨_,QYV g,_,x0,?_⟩;show if decide (bH r="next")=true then _ else _
    refine aQ (λh=>?_) (λh=>?_)
    ·obtain⟨n,t,rfl⟩:=lY (W9 h);refine⟨_,QYV g,_,x2 nofun,rfl,ns++[t],by rw[e,iB];rfl,by simp;omega,λm hm=>?_,λn' t' hm=>?_⟩
     ·rcases aH hm with hm|rfl
      ·exact J1 m hm
      ·exact(LQ.nx _ _ hrm).2
     ·rw[um]at hm;rcases aH hm with hm|hm
      ·exact QZX _ (nz _ _ hm)
      ·cases hm;exact QZW _ jI
    ·refine⟨rfl,ns,e,Zo,J1,λn' t' hm=>?_⟩;rw[um]at hm;rcases aH hm with hm|hm
     ·exact nz _ _ hm
     ·subst hm;exact QZZ rfl (W8 h)
   ·subst e0;intro p hp;rw[aZ]at l' nz;rw[<- WD,vQ (bQ _)]at nz;refine⟨eK rfl,λp2 m5=>⟨_,_,aN aA m5,aA,by rw[e,aZ];exact fA (by simp;omega),λp3 C9=>?_⟩⟩;refine⟨p3,(ns.map (λn:Nat=>(n:Int)))++[0],rfl,QYU (by rw[aA,e,iB,map_map];rfl),Zs,λmx EH kz=>?_⟩;have nn:∃m:Nat,mx=m/\m<500000000000:=by
     rcases Zma.mp EH with h|h
     ·obtain⟨n,hn,rfl⟩:=Zmm.mp h;exact⟨n,rfl,J1 n hn⟩
     ·rw[Zms.mp h];exact⟨0,rfl,Zo⟩
    obtain⟨m,rfl,hm⟩:=nn;refine d7 _ _ ⟨m,rfl,hm,λn t hh=>?_,((F4.new hp).new m5).new C9⟩;have:=kz (t:Int) (QZX _ (mem_map_of_mem (nz _ _ hh)));omega
  rintro σ' H5 ⟨turn,rfl,LS,GA,F5⟩;have f5:=f2.trans F5;have R5:=R0.keep f5.tk (f5.get R0.lst RE RF);have NN:=dk.ne fbk;have WI:=dk.ne ful;have L5:BdH H d b ra bk ul H5 FZ NX sh []:=⟨dk,⟨_,R0.lst⟩,fbk,ful,(λ_ h=>nomatch h),⟨RE,RF⟩,nbu,(λ_ h=>nomatch h),nodup_nil,f5.dk,R5,F5.get LR NN.1 NN.2,F5.get WH WI.1 WI.2,(λ_ h=>nomatch h),λc o e n1 n2 _=>f5.get e n1 n2⟩;have P5:=BdP.start (num:=num) (turn:=turn) LQ hkn GA;have b0:turn<=tB 0:=by show turn<=500000000000+1000000000*0;rw[Nat.mul_zero];omega
  refine bK (λσ' H'=>∃(rs:List RX)(as:List UF)(us:List Un)(num turn:Nat)(o8 o9 mq mr mv my:Option V),σ'=[some (.ref d),some (.ref ra),some (.ref lm),some (.int (many:Int)),some (.ref bk),some (.ref ul),some (.int (num:Int)),some (.int (turn:Int)),o8,o9,mq,mr,mv,my]/\BdH H d b ra bk ul H' rs as sh us/\BdP rs sh num turn us/\rs.length<=43) (λnx d7=>?_) ?_
  ·refine⟨(many:Int),rfl,Zo,Zo,?_⟩;have em:(many:Int).toNat=many:=by omega
   refine fN (dZ 0 (many:Int).toNat) (Xv H d b ra lm bk ul sh many) (λ_ _ _ _=>trivial)
    ⟨FZ,NX,[],num,turn,_,_,_,_,_,_,rfl,L5,P5,Zo,Zo,b0,bQ _⟩ ?_ ?_
   ·rintro i x σ' H6 hx ⟨rs,as,us,num,turn,o8,o9,mq,mr,mv,my,rfl,L6,P6,l1,l2,l3,l5⟩;obtain⟨rfl,hi⟩:=lC hx;rw[em]at hi;dsimp only [aK];refine⟨d,b,4,rfl,L6.dk,Zd,Zd,λway H7 w0 w1 D7 k7=>?_⟩;obtain⟨way,rfl⟩:=dF w0;have L7:=L6.fw ((Fw.refl L6.dk).draw D7 k7);dsimp only [aK];refine bK (λσ' H'=>∃(turn':Nat),σ'=[some (.ref d),some (.ref ra),some (.ref lm),some (.int (many:Int)),some (.ref bk),some (.ref ul),some (.int (num:Int)),some (.int (turn':Int)),some (.int (i:Int)),some (.int (way:Int)),mq,mr,mv,my]/\turn<=turn'/\turn'<=turn+1000000000/\BdH H d b ra bk ul H' rs as sh us) (λQR Q1=>?_) ?_
    ·refine⟨⟨Zd,Zd,Zd⟩,d,b,1000000000,rfl,L7.dk,Zd,Zd,λr8 H8 x0 x1 D8 k8=>⟨eK rfl,λp hp=>⟨d,b,4,rfl,D8.new hp,Zd,Zd,λr9 H9 y0 y1 D9 k9=>?_⟩⟩⟩;obtain⟨r8,rfl⟩:=dF x0;have J7:=D8.ne hp;have gp:=k9 p _ aA J7.1 J7.2;have L9:=L7.fw ((((Fw.refl L7.dk).draw D8 k8).new hp).draw D9 k9);rcases Xl y0 y1 with rfl|rfl|rfl|rfl
     ·refine⟨_,QYU gp,_,rfl,Q1 _ _ ⟨turn,?_,Zo,Zo,L9⟩⟩;rw[show(turn:Int)=(turn:Int)+0 by omega];rfl
     ·refine⟨_,QYU gp,_,rfl,Q1 _ _ ⟨turn,?_,Zo,Zo,L9⟩⟩;rw[show(turn:Int)=(turn:Int)+0 by omega];rfl
     ·exact⟨_,QYU gp,_,rfl,Q1 _ _ ⟨turn+1,rfl,Zo,Zo,L9⟩⟩
     ·exact⟨_,QYU gp,_,rfl,Q1 _ _ ⟨turn+r8,rfl,Zo,Zo,L9⟩⟩
    ·rintro σ' H8 ⟨turn',rfl,t1,t2,L8⟩;have P8:=P6.turn' t1;refine Ki (λv H'=>BdH H d b ra bk ul H' rs as sh us/\(v=false->us≠[])) (λk hk=>?_) ?_ ?_
     ·refine aQ (λ_=>hk _ _ ⟨L8,nofun⟩) (λ_=>?_);refine⟨eK rfl,λp hp=>⟨ul,p,_,rfl,rfl,QYU (aN L8.und hp),QYU aA,?_⟩⟩;refine hk _ _ ⟨L8.fw ((Fw.refl L8.dk).new hp),λe z=>?_⟩;subst z;cases e
     ·rintro H9 ⟨L9,hv⟩;exact p1 _ H H9 d b ra lm bk ul M sh many i way num turn turn' rs as us mq mr mv my hM oD oB oR Zo WE L9 P8 l1 l2 l3 l5 t1 t2 (λ_ _ h=>h)
     ·rintro H9 ⟨L9,hv⟩;exact p2 _ H H9 d b ra lm bk ul M sh many i way num turn turn' rs as us mq mr mv my hM oD oB oR Zo WE L9 P8 l1 l2 l3 l5 t1 t2 (hv rfl) (λ_ _ h=>h)
   ·rintro σ' H6 ⟨rs,as,us,num,turn,o8,o9,mq,mr,mv,my,rfl,L6,P6,l1,l2,l3,l5⟩;rw[eJ]at l1;exact d7 _ _ ⟨rs,as,us,num,turn,o8,o9,mq,mr,mv,my,rfl,L6,P6,Zo⟩
  rintro σ' H6 ⟨rs,as,us,num,turn,o8,o9,mq,mr,mv,my,rfl,L6,P6,l1⟩;exact q rs as H6 L6.rows P6.wh P6.ok l1 L6.dk L6.fr
def xK:Sp:=λvs H Q _=>∃(d b lm:UF)(M:List UF),vs=[.ref d,.ref lm]/\Dk H d b/\MenusAt H lm M/\d∉M/\b∉M ∧
 ∀(ra:UF)(rs:List RX)(as:List UF)(H':Hp),H ra=none->RxsAt H' ra rs as->RX.Whole rs->(∀r∈rs,r.Ok)->rs.length<=43->Fw d b H H'->Q (.ref ra) H'
def MenusAt.new{H:Hp}{lm p:UF}{M:List UF}(h:MenusAt H lm M)(hp:H p=none):p∉M:=by
 obtain⟨a0,a1,a2,a3,ws,us,ps,ks,rfl,h0,h1,h2,h3,h4,_⟩:=h.ex;intro hm;simp only [mem_cons,QZU,or_false]at hm;rcases hm with rfl|rfl|rfl|rfl|rfl
 ·rw[h0]at hp;cases hp
 ·rw[h1]at hp;cases hp
 ·rw[h2]at hp;cases hp
 ·rw[h3]at hp;cases hp
 ·rw[h4]at hp;cases hp
def Fi(T:Txt K mg)(b9:aG P w K mg base 1 "_law_draw" QZR bF)(GB:aG P w K mg base 5 "_law_head" QZO Br)(GC:aG P w K mg base 4 "_law_body" QZg vB)(D:DefAt K mg "_law_listed" fS QZO):aG P w K mg base 6 "_law_listed" QZO xK:=by
 refine D.go gV (λvs H Q E h=>?_) (λf cdv A outer s H vs Q E hr h=>?_)
 ·obtain⟨d,b,lm,M,rfl,_⟩:=h;rfl
 ·obtain⟨d,b,lm,M,rfl,dk,hM,hd,hb,q⟩:=h;have c6:Room 1 _:=hr.mono Zd;have GD:Room 5 _:=hr;have GF:Room 4 _:=hr.mono Zd;refine⟨_,(lv (o0 (i:=2) gV.nd (sw lf)) (lv (re (nw rq (mk b9 c6 rfl (kt (kq 0) (kt lc lf))) lc) (mj (o0 (i:=2) gV.nd (mk GB GD rfl (kt (kq 0) (kt (kq 1) lf))))) rp) (mj (ms (mk GC GF rfl (kt (kq 0) (kt (kq 2) (kt (kq 1) (kt (li (sj (K:=K)) (sw (kt (mk b9 c6 rfl (kt (kq 0) (kt lc lf))) (kt (mk b9 c6 rfl (kt (kq 0) (kt lc lf))) lf))) (mk b9 c6 rfl (kt (kq 0) (kt lc lf)))) lf))))))))),?_⟩;refine⟨eK rfl,λp hp=>?_⟩;have f1:=(Fw.refl dk).new (o:=.lst []) hp;have g1:(aI H p (.lst [])) p=some (.lst []):=aA;dsimp only [aK];generalize aI H p (.lst [])=H1 at f1 g1;refine bK (λσ' H'=>∃(ra:UF)(rs:List RX)(as:List UF),σ'=[some (.ref d),some (.ref lm),some (.ref ra)]/\H ra=none/\RxsAt H' ra rs as/\uY rs/\Fw d b H H') (λnx d7=>?_) ?_
  ·refine⟨d,b,2,rfl,f1.dk,Zd,Zd,λr H2 r0 r1 D2 k2=>?_⟩;have f2:=f1.draw D2 k2;have F2:=(Fw.refl f1.dk).draw D2 k2;refine aQ (λ_=>?_) (λ_=>?_)
   ·refine⟨d,b,lm,M,rfl,D2,f2.menus hd hb hM,hd,hb,λra rs as H3 fr R hk f3=>?_⟩;exact d7 _ _ ⟨ra,rs,as,rfl,f2.free fr,R,hk,f2.trans f3⟩
   ·have pd:=dk.ne hp;exact d7 _ _ ⟨p,[],[],rfl,hp,.nil (F2.get g1 pd.1 pd.2),⟨.nil,(λ_ h=>nomatch h),(λ_ h=>nomatch h),zero_le _,(λ_ _ h=>nomatch h)⟩,f2⟩
  rintro σ' H2 ⟨ra,rs,as,rfl,zh,R2,hk,f2⟩;have nra:=dk.ne zh;have oR:=hM.new zh;refine⟨d,b,7,rfl,f2.dk,Zd,Zd,λm1 Ha z0 z1 Da ea=>⟨d,b,25,rfl,Da,Zd,Zd,λm2 Hb v0 v1 Db eb=>⟨eK rfl,λp hp=>⟨d,b,2,rfl,Db.new hp,Zd,Zd,λm3 Hc w0 w1 Dc ec=>?_⟩⟩⟩⟩;have J7:=Db.ne hp;have gp:=ec p _ aA J7.1 J7.2;obtain⟨m1,rfl⟩:=dF z0;obtain⟨m2,rfl⟩:=dF v0;have F:=(((((Fw.refl f2.dk).draw Da ea).draw Db eb).new (o:=.lst [.int (m1:Int),.int (m2:Int)]) hp).draw Dc ec);have fc:=f2.trans F;have Rc:=R2.keep F.tk (F.get R2.lst nra.1 nra.2);have hMc:=fc.menus hd hb hM;have fin:∀(many:Nat),many<=30->vB [.ref d,.ref ra,.ref lm,.int (many:Int)] Hc Q E0:=λmany hm=>
   ⟨d,b,ra,lm,M,rs,as,many,rfl,Dc,Rc,hk,hMc,hd,hb,oR,nra.1,nra.2,hm,λQ6 X3 Hd Rd wd okd ld Dd' frd=>
    q ra Q6 X3 Hd zh Rd wd okd ld ⟨dk,Dd',λc o e n1 n2=>frd c o (fc.get e n1 n2) n1 n2 (aE e zh)⟩⟩
  rcases(by omega:m3=0∨m3=1) with rfl|rfl
  ·exact⟨_,QYU gp,_,rfl,fin m1 Zo⟩
  ·exact⟨_,QYU gp,_,rfl,fin m2 Zo⟩
def Xw(m:Nat):RX->RX
 | .next _ t=>.next m t
 | .has z k=>.has z k
 | .kept _ t p k x y=>.kept m t p k x y
 | .came _ t p k x=>.came m t p k x
 | .asked _=>.asked m
 | .done _ t y=>.done m t y
def Xx(m:Nat):RX->RX
 | .next n _=>.next n m
 | .has z k=>.has z k
 | .kept n _ p k x y=>.kept n m p k x y
 | .came n _ p k x=>.came n m p k x
 | .asked n=>.asked n
 | .done n _ y=>.done n m y
def Fk{m:Nat}{r:RX}(h:cI r):cI (Xw m r):=by cases r<;>exact h
def Fl{m:Nat}{r:RX}(h:cI r):cI (Xx m r):=by cases r<;>exact h
def oG:RX->Bool|.has _ _=>true|_=>false
def zT{r:RX}(h:oG r=false):∃n:Nat,Kx r=.int (n:Int):=by cases r<;>first|exact⟨_,rfl⟩|cases h
def Ce{r:RX}:bH r≠"has"↔oG r=false:=by
 constructor
 ·intro h;cases r<;>first|rfl|exact QZZ rfl h
 ·intro h e;obtain⟨z,m,rfl⟩:=zP e;cases h
def zU{H:Hp}{a:UF}{r:RX}{xs:List V}(h:r.At H a)(g:H a=some (.tup xs)):xs.length<=7:=by
 cases r with
 | next n t=>rw[show H a=_ from h]at g;cases g;exact QZY rfl
 | has z m=>rw[show H a=_ from h]at g;cases g;exact QZY rfl
 | kept n t p k x y=>obtain⟨b,c,h1,_⟩:=h;rw[h1]at g;cases g;exact QZY rfl
 | came n t p k x=>obtain⟨b,h1,_⟩:=h;rw[h1]at g;cases g;exact QZY rfl
 | asked n=>rw[show H a=_ from h]at g;cases g;exact QZY rfl
 | done n t y=>obtain⟨b,h1,_⟩:=h;rw[h1]at g;cases g;exact QZY rfl
def Qx{H H':Hp}{a a':UF}{r:RX}{xs:List V}{m:Nat}(h:r.At H a)(g:H a=some (.tup xs))(ua:oG r=false)(tk:TK H H')(g':H' a'=some (.tup ([.str (bH r),.int (m:Int)]++dO xs (some 2) none))):RX.At H' a' (Xw m r):=by
 have ec:dO xs (some 2) none=xs.drop 2:=lK xs 2;rw[ec]at g';cases r with
 | next n t=>rw[show H a=_ from h]at g;cases g;exact g'
 | has z m=>cases ua
 | kept n t p k x y=>obtain⟨b,c,h1,h2,h3⟩:=h;rw[h1]at g;cases g;exact⟨b,c,g',tk _ _ h2,tk _ _ h3⟩
 | came n t p k x=>obtain⟨b,h1,h2⟩:=h;rw[h1]at g;cases g;exact⟨b,g',tk _ _ h2⟩
 | asked n=>rw[show H a=_ from h]at g;cases g;exact g'
 | done n t y=>obtain⟨b,h1,h2⟩:=h;rw[h1]at g;cases g;exact⟨b,g',tk _ _ h2⟩
def zV:Sp:=λvs H Q _=>∃(d b ra a:UF)(rs:List RX)(as:List UF)(r:RX),vs=[.ref d,.ref ra,.ref a]/\Dk H d b/\RxsAt H ra rs as/\rs.length<=43/\r.At H a/\oG r=false ∧
 ∀(a':UF)(m:Nat)(H':Hp),RX.At H' a' (Xw m r)->Fw d b H H'->Q (.ref a') H'
def oM(T:Txt K mg)(b9:aG P w K mg base 1 "_law_draw" QZR bF)(D:DefAt K mg "_law_number_other" bX QZC):aG P w K mg base 2 "_law_number_other" QZC zV:=by
 refine D.go fM (λvs H Q E h=>?_) (λf cdv A outer s H vs Q E hr h=>?_)
 ·obtain⟨d,b,ra,a,rs,as,r,rfl,_⟩:=h;rfl
 ·obtain⟨d,b,ra,a,rs,as,r,rfl,dk,RR,hl,j7,ua,q⟩:=h;have c6:Room 1 _:=hr;have le:=RR.len;refine⟨_,(lv (o0 (i:=3) fM.nd (ml vj (vm rfl (js:=[none]) (N:=QZu) (CompScope.by (aB bX) QYZ rfl rfl Zk) (aP rfl) (wf (K:=K) (kq 1)) (λC s₂ H₂ fp=>⟨(sx (i:=0) (show(QZu:List Str).Nodup by decide +kernel)),(wv (nw IN (li (mi (K:=K)) (kq 0) lc) mh)),(li (mi (K:=K)) (kq 0) lc)⟩)) (sw (kt (ml sv (li (mi (K:=K)) (kq 2) lc) lc) (kt (su (R.jl rfl) rfl T.b_max pP (kt lc (kt (ml xq (li (mi (K:=K)) (kq 2) lc) lc) lf))) (kt lc lf)))))) (mj (ms (ml AC (pi (kt (li (mi (K:=K)) (kq 2) lc) (kt (li (sj (K:=K)) (kq 3) (mk b9 c6 rfl (kt (kq 0) (kt (su (sy (K:=K)) rfl T.b_len aO (kt (kq 3) lf)) lf)))) lf))) (vf NE (kq 2) (ut lc) vg))))),?_⟩;refine bK (λσ' H'=>∃(l:UF)(ns:List Nat),σ'=[some (.ref d),some (.ref ra),some (.ref a),some (.ref l)]/\H l=none/\H' l=some (.lst (nI ns))/\1<=ns.length/\ns.length<=100/\Same H H') (λnx d7=>?_) ?_
  ·refine⟨ra,rfl,⟨_,QYU RR.lst⟩,?_⟩;refine bT (dB K ra (as.map V.ref)) (by rw[aZ];omega) (λi ys H'=>H'=H/\∃ns:List Nat,ys=nI ns/\ns.length<=i) (λi ys H' ⟨e0,ns,e,l'⟩=>⟨by rw[e0];exact QYU RR.lst,by rw[e];unfold nI;rw[aZ];exact l'⟩) ⟨rfl,[],rfl,bQ _⟩ (λi x ys H' hx ⟨e0,ns,e,l'⟩=>?_) (λys H' ⟨e0,ns,e,l'⟩=>?_)
   ·subst e0;obtain⟨a1,r1,rfl,ha,C8,m4⟩:=RR.get hx;obtain⟨xs,g,x0,x1,x2⟩:=bO m4;dsimp only [aK];refine⟨_,QYV g,_,x0,?_⟩;show if (!decide (bH r1="has"))=true then _ else _
    refine aQ (λh=>?_) (λh=>?_)
    ·obtain⟨n,en⟩:=zT (Ce.mp (by simpa using h));rw[en]at x1;exact⟨_,QYV g,_,x1,rfl,ns++[n],by rw[e];unfold nI;rw[iB];rfl,by simp;omega⟩
    ·exact⟨rfl,ns,e,Zo⟩
   ·subst e0;intro p hp;rw[aZ]at l';obtain⟨xs,g,x0,x1,x2⟩:=bO j7;obtain⟨n,en⟩:=zT ua;rw[en]at x1;have s1:=aF (o:=.lst ys) hp;have gp:(aI H' p (.lst ys)) p=some (.lst (nI ns)):=by rw[aA,e]
    generalize aI H' p (.lst ys)=H1 at s1 gp;have em:(if (n:Int)-1>1 then (n:Int)-1 else 1)=((max 1 (n-1):Nat):Int):=by split<;>omega
    refine⟨_,QYV (s1 _ _ g),_,x1,_,QYV (s1 _ _ g),_,x1,eK rfl,λp2 m5=>⟨_,_,aN gp m5,aA,by unfold nI;rw[aZ];exact fA (by simp;omega),λp3 C9=>?_⟩⟩;refine d7 _ _ ⟨p3,ns++[n+1,max 1 (n-1),999999],rfl,(s1.trans (aF m5)).free C9,?_,Zs,by simp;omega,(s1.trans (aF m5)).trans (aF C9)⟩;rw[aA,em];unfold nI;rw[iB];rfl
  rintro σ' H1 ⟨l,ns,rfl,fl,gl,l1,l2,s1⟩;have f1:=(Fw.refl dk).same s1;have ld:=dk.ne fl;obtain⟨xs,g,x0,x1,x2⟩:=bO j7;have en:(nI ns).length=ns.length:=by unfold nI;rw[aZ]
  refine⟨_,QYV (s1 _ _ g),_,x0,_,.inl (QYU gl),d,b,(ns.length:Int),by rw[en],f1.dk,Zo,Zo,λk H2 k0 k1 D2 e2=>?_⟩;obtain⟨k,rfl⟩:=dF k0;have hk:k<ns.length:=by omega
  have F2:=(Fw.refl f1.dk).draw D2 e2;have g2:=F2.tup (s1 _ _ g);refine⟨_,QYU (F2.get gl ld.1 ld.2),.int (ns[k]:Int),bJ (by unfold nI;rw[jC,gZ hk];rfl),aL rfl,λt1 H3 s3 g3=>⟨_,s3 _ _ g2,λt2 H4 s4 g4=>⟨_,_,s4 _ _ g3,g4,?_,λt3 H5 s5 g5=>?_⟩⟩⟩
  ·have:=lH xs (some 2) none;have hx8:xs.length<=7:=zU j7 g;show 2+_<=1000;omega
  ·have ff:=((((f1.draw D2 e2).same s3).same s4).same s5);refine q t3 ns[k] H5 ?_ ff;exact Qx j7 g ua ff.tk g5
def Qy:RX->Bool|.next _ _=>true|.kept _ _ _ _ _ _=>true|.came _ _ _ _ _=>true|.done _ _ _=>true|_=>false
def Xy{r:RX}(h:Qy r=true):∃n:Nat,Ky r=.int (n:Int):=by cases r<;>first|exact⟨_,rfl⟩|cases h
def Qz{H H':Hp}{a a':UF}{r:RX}{xs:List V}{m:Nat}(h:r.At H a)(g:H a=some (.tup xs))(ua:Qy r=true)(tk:TK H H')(g':H' a'=some (.tup ((dO xs none (some 2)++[.int (m:Int)])++dO xs (some 3) none))):RX.At H' a' (Xx m r):=by
 have ec:dO xs (some 3) none=xs.drop 3:=lK xs 3;have ed:dO xs none (some 2)=xs.take 2:=pQ xs 2;rw[ec,ed]at g';cases r with
 | next n t=>rw[show H a=_ from h]at g;cases g;exact g'
 | has z m=>cases ua
 | kept n t p k x y=>obtain⟨b,c,h1,h2,h3⟩:=h;rw[h1]at g;cases g;exact⟨b,c,g',tk _ _ h2,tk _ _ h3⟩
 | came n t p k x=>obtain⟨b,h1,h2⟩:=h;rw[h1]at g;cases g;exact⟨b,g',tk _ _ h2⟩
 | asked n=>cases ua
 | done n t y=>obtain⟨b,h1,h2⟩:=h;rw[h1]at g;cases g;exact⟨b,g',tk _ _ h2⟩
def vC:Sp:=λvs H Q _=>∃(d b ra a:UF)(r:RX),vs=[.ref d,.ref ra,.ref a]/\Dk H d b/\r.At H a/\Qy r=true ∧
 ∀(a':UF)(m:Nat)(H':Hp),RX.At H' a' (Xx m r)->Fw d b H H'->Q (.ref a') H'
def rK(T:Txt K mg)(b9:aG P w K mg base 1 "_law_draw" QZR bF)(D:DefAt K mg "_law_turn_other" dI QZC):aG P w K mg base 2 "_law_turn_other" QZC vC:=by
 refine D.go gN (λvs H Q E h=>?_) (λf cdv A outer s H vs Q E hr h=>?_)
 ·obtain⟨d,b,ra,a,r,rfl,_⟩:=h;rfl
 ·obtain⟨d,b,ra,a,r,rfl,dk,j7,ua,q⟩:=h;have c6:Room 1 _:=hr;obtain⟨xs,g,x0,x1,x2⟩:=bO j7;obtain⟨n,en⟩:=Xy ua;have wj:=x2 (by rw[en];exact λz=>nomatch z);rw[en]at wj;have em:(if (n:Int)-1>0 then (n:Int)-1 else 0)=((n-1:Nat):Int):=by split<;>omega
  refine⟨_,(lv (o0 (i:=3) gN.nd (li (sj (K:=K)) (sw (kt (su (R.jl rfl) rfl T.b_max pP (kt lc (kt (ml xq (li (mi (K:=K)) (kq 2) lc) lc) lf))) (kt (ml sv (li (mi (K:=K)) (kq 2) lc) lc) (kt lc (kt (ml xy lc lc) lf))))) (mk b9 c6 rfl (kt (kq 0) (kt lc lf))))) (mj (ms (ml AC (ml AC (vf NE (kq 2) vg (ut lc)) (pi (kt (kq 3) lf))) (vf NE (kq 2) (ut lc) vg))))),?_⟩;refine bK (λσ' H'=>∃(m:Nat),σ'=[some (.ref d),some (.ref ra),some (.ref a),some (.int (m:Int))]/\Fw d b H H') (λnx d7=>?_) ?_
  ·refine⟨_,QYV g,_,wj,_,QYV g,_,wj,⟨Zd,Zd,Zd⟩,eK rfl,λp hp=>⟨d,b,4,rfl,dk.new hp,Zd,Zd,λr3 H3 c0 c1 D3 k3=>?_⟩⟩;have J7:=dk.ne hp;have gp:=k3 p _ aA J7.1 J7.2;have f3:=((Fw.refl dk).new hp).draw D3 k3;rcases Xl c0 c1 with rfl|rfl|rfl|rfl
   ·refine⟨_,QYU gp,_,rfl,d7 _ _ ⟨n-1,?_,f3⟩⟩;rw[<- em];rfl
   ·exact⟨_,QYU gp,_,rfl,d7 _ _ ⟨n+1,rfl,f3⟩⟩
   ·exact⟨_,QYU gp,_,rfl,d7 _ _ ⟨0,rfl,f3⟩⟩
   ·exact⟨_,QYU gp,_,rfl,d7 _ _ ⟨1000000000000,rfl,f3⟩⟩
  rintro σ' H1 ⟨m,rfl,f1⟩;have g1:=f1.tup g;refine⟨_,g1,λt1 H2 s2 g2=>⟨aL rfl,λt2 H3 s3 g3=>⟨_,_,s3 _ _ g2,g3,?_,λt3 H4 s4 g4=>⟨_,s4 _ _ (s3 _ _ (s2 _ _ g1)),λt5 H5 s5 g5=>⟨_,_,s5 _ _ g4,g5,?_,λt6 H6 s6 g6=>?_⟩⟩⟩⟩⟩
  ·have:=lH xs none (some 2);have:=zU j7 g;show _+1<=1000;omega
  ·have:=lH xs none (some 2);have:=lH xs (some 3) none;have:=zU j7 g;rw[kM];show _+1+_<=1000;omega
  ·have ff:=(((((f1.same s2).same s3).same s4).same s5).same s6);exact q t6 m H6 (Qz j7 g ua ff.tk g6) ff
def Cf:Sp:=λvs H Q _=>∃(d b ra a lm:UF)(M:List UF)(rs:List RX)(as:List UF)(n t:Nat)(y:An),vs=[.ref d,.ref ra,.ref a,.ref lm]/\Dk H d b/\RxsAt H ra rs as/\rs.length<=43/\(∀r∈rs,cI r)/\RX.At H a (.done n t y)/\MenusAt H lm M/\d∉M/\b∉M ∧
 ∀(a':UF)(y':An)(H':Hp),qH y'->RX.At H' a' (.done n t y')->Fw d b H H'->Q (.ref a') H'
def Lw(H:Hp)(zs:List UF):Prop:=∀z∈zs,∃x:Dd,x.Ok/\H z=some (.tup x.vs)
def rL(T:Txt K mg)(b9:aG P w K mg base 1 "_law_draw" QZR bF)(A0:aG P w K mg base 3 "_law_deed" QZH iX)(m6:aG P w K mg base 1 "_law_words" QZF hX)(n9:aG P w K mg base 3 "_law_answer" QZE nO)(D:DefAt K mg "_law_done_other" cM QZB):aG P w K mg base 4 "_law_done_other" QZB Cf:=by
 refine D.go cF (λvs H Q E h=>?_) (λf cdv A outer s H vs Q E hr h=>?_)
 ·obtain⟨d,b,ra,a,lm,M,rs,as,n,t,y,rfl,_⟩:=h;rfl
 ·obtain⟨d,b,ra,a,lm,M,rs,as,n,t,y,rfl,dk,RR,hl,hf,⟨cy,g,gy⟩,hM,hd,hb,q⟩:=h;have c6:Room 1 _:=hr.mono Zd;have v7:Room 1 _:=hr.mono Zd;have E3:Room 3 _:=hr;have A1:Room 3 _:=hr;have le:=RR.len;refine⟨_,(lv (R.eh (i:=4) cF.nd rfl (Or.inl rfl) rfl (js:=[none,some 2]) (N:=QZL) (CompScope.by (aB cM) QYY rfl rfl Zk) (aP rfl) (wf (K:=K) (kq 1)) (λC s₂ H₂ fp=>⟨(sx (i:=0) (show(QZL:List Str).Nodup by decide +kernel)),(wv (ve (xo (nw rq (li (mi (K:=K)) (kq 0) lc) mh) (xx (nw rq (li (mi (K:=K)) (kq 0) lc) (li (mi (K:=K)) (kq 1) lc)))))),(li (mi (K:=K)) (kq 0) lc)⟩) rfl) (lv (o0 (i:=5) cF.nd (li (sj (K:=K)) (ml vj (kq 4) (sw (kt (mk A0 E3 rfl (kt (kq 0) (kt (li (sj (K:=K)) (kq 3) lc) (kt (li (sj (K:=K)) (kq 3) lc) lf)))) lf))) (ml zc (mk b9 c6 rfl (kt (kq 0) (kt lc lf))) (ml sv (su (sy (K:=K)) rfl T.b_len aO (kt (kq 4) lf)) lc)))) (lv (o0 (i:=6) cF.nd (ml vj (mk m6 v7 rfl (kt (kq 5) (kt tj lf))) (mk m6 v7 rfl (kt (kq 5) (kt tj lf))))) (lv (o0 (i:=7) cF.nd (li (sj (K:=K)) (kq 6) (mk b9 c6 rfl (kt (kq 0) (kt (su (sy (K:=K)) rfl T.b_len aO (kt (kq 6) lf)) lf))))) (mj (ms (ml AC (vf NE (kq 2) vg (ut lc)) (pi (kt (mk n9 A1 rfl (kt (kq 0) (kt (kq 5) (kt (kq 7) lf)))) lf))))))))),?_⟩;refine bK (λσ' H'=>∃(l:UF)(zs:List UF),σ'=[some (.ref d),some (.ref ra),some (.ref a),some (.ref lm),some (.ref l),none,none,none]/\H l=none/\H' l=some (.lst (zs.map V.ref))/\zs.length<=43/\Lw H zs/\Same H H') (λnx d7=>?_) ?_
  ·refine⟨ra,rfl,⟨_,QYU RR.lst⟩,?_⟩;refine bT (dB K ra (as.map V.ref)) (by rw[aZ];omega) (λi ys H'=>H'=H/\∃zs:List UF,ys=zs.map V.ref/\zs.length<=i/\Lw H zs) (λi ys H' ⟨e0,ns,e,l',_⟩=>⟨by rw[e0];exact QYU RR.lst,by rw[e];rw[aZ];exact l'⟩) ⟨rfl,[],rfl,bQ _,(λ_ h=>nomatch h)⟩ (λi x ys H' hx ⟨e0,zs,e,l',hz⟩=>?_) (λys H' ⟨e0,zs,e,l',hz⟩=>?_)
   ·subst e0;obtain⟨a1,r1,rfl,ha,C8,m4⟩:=RR.get hx;obtain⟨xs,g1,x0,x1,x2⟩:=bO m4;dsimp only [aK];refine⟨_,QYV g1,_,x0,?_⟩;show if decide (bH r1="came")=true then _ else _
    refine aQ (λh=>?_) (λh=>?_)
    ·obtain⟨n1,t1,p1,k1,FW,rfl⟩:=uZ (W9 h);obtain⟨bd,h1,h2⟩:=m4;refine⟨_,QYV h1,_,rfl,_,QYV g,_,rfl,?_⟩;refine aQ (λh3=>?_) (λh3=>?_)
     ·refine⟨_,QYV h1,_,rfl,rfl,zs++[bd],by rw[e,iB];rfl,by simp;omega,λz vt=>?_⟩;rcases aH vt with vt|rfl
      ·exact hz z vt
      ·exact⟨FW,hf _ (jW C8),h2⟩
     ·exact⟨rfl,zs,e,Zo,hz⟩
    ·exact⟨rfl,zs,e,Zo,hz⟩
   ·subst e0;intro p hp;rw[aZ]at l';exact d7 _ _ ⟨p,zs,rfl,hp,by rw[aA,e],Zo,hz,aF hp⟩
  rintro σ' H1 ⟨l,zs,rfl,fl,gl,lz,hz,s1⟩;have f1:=(Fw.refl dk).same s1;have ld:=dk.ne fl;have NY:=f1.menus hd hb hM;obtain⟨a0,a1,a2,a3,ws,us,ps,ks,rfl,h0,h1,h2,h3,h4,mw,mu,_⟩:=NY.ex;have nd:∀x∈[lm,a0,a1,a2,a3],x≠d/\x≠b:=λx hx=>⟨λz=>hd (z▸hx),λz=>hb (z▸hx)⟩
  refine bK (λσ' H'=>∃(td:UF)(x:Dd),σ'=[some (.ref d),some (.ref ra),some (.ref a),some (.ref lm),some (.ref l),some (.ref td),none,none]/\x.Ok/\H' td=some (.tup x.vs)/\Fw d b H H') (λnx d7=>?_) ?_
  ·refine⟨_,QYU h0,_,rfl,_,QYU h0,_,rfl,d,b,a0,a1,ws,us,rfl,f1.dk,h1,h2,⟨(nd a0 Zs).1,(nd a0 Zs).2,(nd a1 Zs).1,(nd a1 Zs).2⟩,mw,mu,λtd x H2 hx gx f2=>?_⟩;have WJ:=f2.get gl ld.1 ld.2;refine⟨eK rfl,λp hp=>⟨_,_,aN WJ hp,aA,by rw[aZ];exact fA (by simp;omega),λp2 m5=>?_⟩⟩;have f3:=((f1.trans f2).new (o:=.lst [.ref td]) hp).new (o:=.lst (zs.map V.ref++[.ref td])) m5;have LU:=((f1.trans f2).new (o:=.lst [.ref td]) hp).dk.ne m5;have LB:(aI (aI H2 p (.lst [.ref td])) p2 (.lst (zs.map V.ref++[.ref td]))) p2=some (.lst ((zs++[td]).map V.ref)):=by rw[aA,iB];rfl
   have WK:=aN (u:=.lst (zs.map V.ref++[.ref td])) (aN (u:=.lst [.ref td]) WJ hp) m5;have EI:=aN (u:=.lst (zs.map V.ref++[.ref td])) (aN (u:=.lst [.ref td]) gx hp) m5;have WL:Lw (aI (aI H2 p (.lst [.ref td])) p2 (.lst (zs.map V.ref++[.ref td]))) (zs++[td]):=λz hm=>by
    rcases aH hm with hm|rfl
    ·obtain⟨x',X0,EL⟩:=hz z hm;exact⟨x',X0,f3.tup EL⟩
    ·exact⟨x,hx,EI⟩
   generalize aI (aI H2 p (.lst [.ref td])) p2 (.lst (zs.map V.ref++[.ref td]))=H3 at f3 LB WK EI WL;refine⟨d,b,2,rfl,f3.dk,Zd,Zd,λk H4 k0 k1 D4 e4=>?_⟩;obtain⟨k,rfl⟩:=dF k0;have F4:=(Fw.refl f3.dk).draw D4 e4;have hj:k%(zs.length+1)<(zs++[td]).length:=by rw[kM];exact mod_lt _ (succ_pos _)
   have ej:(k:Int)%(((zs.map V.ref).length:Int)+1)=((k%(zs.length+1):Nat):Int):=by rw[aZ];rfl
   refine⟨_,.inl (QYU (F4.get WK ld.1 ld.2)),by show(0:Int)<_+1;omega,_,QYU (F4.get LB LU.1 LU.2),.ref (zs++[td])[k%(zs.length+1)],?_,?_⟩
   ·show mW _ ((k:Int)%(((zs.map V.ref).length:Int)+1))=_;rw[ej];exact bJ (by rw[jC,gZ hj];rfl)
   ·obtain⟨x',X0,EL⟩:=WL _ (getElem_mem hj);exact d7 _ _ ⟨_,x',rfl,X0,F4.tup EL,f3.draw D4 e4⟩
  rintro σ' H2 ⟨td,x,rfl,hx,gx,f2⟩;refine bK (λσ' H'=>∃(l3:UF),σ'=[some (.ref d),some (.ref ra),some (.ref a),some (.ref lm),some (.ref l),some (.ref td),some (.ref l3),none]/\H l3=none/\H' l3=some (.lst ((gB x true++gB x false).map V.str))/\H' td=some (.tup x.vs)/\Fw d b H H') (λnx d7=>?_) ?_
  ·refine⟨td,x,true,rfl,gx,λl1 H3 n1 g1 s1=>⟨td,x,false,rfl,s1 _ _ gx,λl2 H4 n2 g2 s2=>⟨_,_,s2 _ _ g1,g2,?_,λl3 zw=>?_⟩⟩⟩
   ·have:=hZ x;rw[kM]at this;rw[aZ,aZ];exact fA Zo
   ·have f4:=(f2.same (s1.trans s2));refine d7 _ _ ⟨l3,rfl,f4.free zw,by rw[aA,iB],aN (s2 _ _ (s1 _ _ gx)) zw,f4.new zw⟩
  rintro σ' H3 ⟨l3,rfl,WM,g3,EI,f3⟩;have w6:=hZ x;have LF:=dk.ne WM;refine⟨_,.inl (QYU g3),d,b,((gB x true++gB x false).length:Int),by rw[aZ],f3.dk,Zo,Zo,λr H5 r0 r1 D5 e5=>?_⟩;have f5:=f3.draw D5 e5;have F5:=(Fw.refl f3.dk).draw D5 e5;obtain⟨i,hi,rfl,ei⟩:=fK r0 r1;have hz:(gB x true++gB x false)[i]∈gW x:=by
   rcases Zma.mp (getElem_mem hi) with h|h
   ·exact kH x _ _ h
   ·exact kH x _ _ h
  refine⟨_,QYU (F5.get g3 LF.1 LF.2),_,ei,?_⟩;dsimp only [aK];refine⟨_,f5.tup g,λt1 H6 s6 g6=>⟨d,b,td,x,_,rfl,D5.same s6,s6 _ _ (F5.tup EI),hx,hz,λc y' H7 hy _ gy f7=>⟨aL rfl,λt2 H8 s8 g8=>⟨_,_,s8 _ _ (f7.tup g6),g8,QZY rfl,λt3 H9 s9 g9=>?_⟩⟩⟩⟩;refine q t3 y' H9 ⟨x,hx,hy⟩ ⟨c,g9,s9 _ _ (s8 _ _ gy)⟩ (((((f5.same s6).trans f7).same s8).same s9))
def Lx:Sp:=λvs H Q _=>∃(d b ra a lm:UF)(M:List UF)(rs:List RX)(as:List UF)(r:RX),vs=[.ref d,.ref ra,.ref a,.ref lm]/\Dk H d b/\RxsAt H ra rs as/\(ra≠d/\ra≠b)/\rs.length<=43/\(∀r∈rs,cI r)/\r.At H a/\cI r/\MenusAt H lm M/\d∉M/\b∉M ∧
 ∀(a':UF)(r':RX)(H':Hp),cI r'->r'.At H' a'->Fw d b H H'->Q (.ref a') H'
def vD(T:Txt K mg)(b9:aG P w K mg base 1 "_law_draw" QZR bF)(A0:aG P w K mg base 3 "_law_deed" QZH iX)(Z1:aG P w K mg base 2 "_law_number_other" QZC zV)(oj:aG P w K mg base 2 "_law_turn_other" QZC vC)(om:aG P w K mg base 4 "_law_done_other" QZB Cf)(D:DefAt K mg "_law_row_other" dR QZB):aG P w K mg base 5 "_law_row_other" QZB Lx:=by
 refine D.go hW (λvs H Q E h=>?_) (λf cdv A outer s H vs Q E hr h=>?_)
 ·obtain⟨d,b,ra,a,lm,M,rs,as,r,rfl,_⟩:=h;rfl
 ·obtain⟨d,b,ra,a,lm,M,rs,as,r,rfl,dk,RR,nra,hl,hf,j7,mn,hM,hd,hb,q⟩:=h;have c6:Room 1 _:=hr.mono Zd;have E3:Room 3 _:=hr.mono Zd;have Z2:Room 2 _:=hr.mono Zd;have ou:Room 2 _:=hr.mono Zd;have ow:Room 4 _:=hr;refine⟨_,(lv (o0 (i:=4) hW.nd (mk b9 c6 rfl (kt (kq 0) (kt lc lf)))) (lv (re (nw rq (li (mi (K:=K)) (kq 2) lc) mh) (mj (ms (pi (kt mh (kt (li (sj (K:=K)) (li (sj (K:=K)) (kq 3) lc) (mk b9 c6 rfl (kt (kq 0) (kt (su (sy (K:=K)) rfl T.b_len aO (kt (li (sj (K:=K)) (kq 3) lc) lf)) lf)))) (kt (li (mi (K:=K)) (kq 2) lc) lf)))))) rp) (lv (re (ve (xo (nw rq (li (mi (K:=K)) (kq 2) lc) mh) (xx (nw rq (kq 4) lc)))) (mj (ms (mk om ow rfl (kt (kq 0) (kt (kq 1) (kt (kq 2) (kt (kq 3) lf))))))) rp) (lv (re (ve (xo (nw rq (li (mi (K:=K)) (kq 2) lc) mh) (xx (nw rq (kq 4) lc)))) (mj (ms (ml AC (vf NE (kq 2) vg (ut lc)) (pi (kt (mk A0 E3 rfl (kt (kq 0) (kt (li (sj (K:=K)) (kq 3) lc) (kt (li (sj (K:=K)) (kq 3) lc) lf)))) lf))))) rp) (lv (re (ve (wp (nw rq (li (mi (K:=K)) (kq 2) lc) mh) (xw (nw rq (kq 4) lc)))) (mj (ms (mk Z1 Z2 rfl (kt (kq 0) (kt (kq 1) (kt (kq 2) lf)))))) rp) (mj (ms (mk oj ou rfl (kt (kq 0) (kt (kq 1) (kt (kq 2) lf))))))))))),?_⟩;refine⟨d,b,3,rfl,dk,Zd,Zd,λway H1 w0 w1 D1 e1=>?_⟩;obtain⟨way,rfl⟩:=dF w0;have f1:=(Fw.refl dk).draw D1 e1;have R1:=RR.keep f1.tk (f1.get RR.lst nra.1 nra.2);have NY:=f1.menus hd hb hM;have m4:=j7.tk f1.tk;obtain⟨xs,g,x0,x1,x2⟩:=bO m4;dsimp only [aK];obtain⟨a0,a1,a2,a3,ws,us,ps,ks,rfl,h0,h1,h2,h3,h4,mw,mu,_⟩:=NY.ex;have nd:∀x∈[lm,a0,a1,a2,a3],x≠d/\x≠b:=λx hx=>⟨λz=>hd (z▸hx),λz=>hb (z▸hx)⟩
  have AD:oG r=false->zV [.ref d,.ref ra,.ref a] H1 Q E0:=λhh=>⟨d,b,ra,a,rs,as,r,rfl,D1,R1,hl,m4,hh,λa' m H' h' f'=>q a' _ H' (Fk mn) h' (f1.trans f')⟩
  have yh:Qy r=true->vC [.ref d,.ref ra,.ref a] H1 Q E0:=λhh=>⟨d,b,ra,a,r,rfl,D1,m4,hh,λa' m H' h' f'=>q a' _ H' (Fl mn) h' (f1.trans f')⟩
  refine⟨_,QYV g,_,x0,?_⟩
  cases r with
  | has z m=>
   have w2:=mw.two;refine⟨_,QYU h0,_,rfl,_,QYU h0,_,rfl,_,.inl (QYU h1),d,b,(ws.length:Int),by rw[aZ],D1,Zo,by have:=mw.six;omega,λk H2 k0 k1 D2 e2=>?_⟩;have F2:=(Fw.refl D1).draw D2 e2;obtain⟨i,hi,rfl,ei⟩:=fK k0 k1;refine⟨_,QYU (F2.get h1 (nd a0 Zs).1 (nd a0 Zs).2),_,ei,_,QYV (F2.tup g),_,x2 nofun,aL rfl,λt3 H3 s3 g3=>?_⟩;exact q t3 (.has ws[i] m) H3 mn g3 ((f1.trans F2).same s3)
  | done n t y=>
   refine⟨_,QYV g,_,x0,?_⟩;rcases(by omega:way=0∨way=1∨way=2) with rfl|rfl|rfl
   ·exact⟨_,QYV g,_,x0,_,QYV g,_,x0,AD rfl⟩
   ·exact⟨_,QYV g,_,x0,_,QYV g,_,x0,yh rfl⟩
   ·exact⟨d,b,ra,a,lm,_,rs,as,n,t,y,rfl,D1,R1,hl,hf,m4,NY,hd,hb,λa' y' H' BX h' f'=>q a' (.done n t y') H' BX h' (f1.trans f')⟩
  | came n t p k x=>
   obtain⟨bd,gr,gd⟩:=id m4;refine⟨_,QYV g,_,x0,?_⟩;refine⟨_,QYV g,_,x0,?_⟩;rcases(by omega:way=0∨way=1∨way=2) with rfl|rfl|rfl
   ·exact⟨_,QYV g,_,x0,AD rfl⟩
   ·exact⟨_,QYV g,_,x0,yh rfl⟩
   ·refine⟨_,gr,λt1 H2 s2 g2=>⟨_,QYU (s2 _ _ h0),_,rfl,_,QYU (s2 _ _ h0),_,rfl,d,b,a0,a1,ws,us,rfl,D1.same s2,s2 _ _ h1,s2 _ _ h2,⟨(nd a0 Zs).1,(nd a0 Zs).2,(nd a1 Zs).1,(nd a1 Zs).2⟩,mw,mu,λtd x' H3 X0 EL f3=>?_⟩⟩;refine⟨aL rfl,λt2 H4 s4 g4=>⟨_,_,s4 _ _ (f3.tup g2),g4,QZY rfl,λt5 H5 s5 g5=>?_⟩⟩;exact q t5 (.came n t p k x') H5 X0 ⟨td,g5,s5 _ _ (s4 _ _ EL)⟩ ((((f1.same s2).trans f3).same s4).same s5)
  | next n t=>
   refine⟨_,QYV g,_,x0,?_⟩;refine⟨_,QYV g,_,x0,?_⟩;refine⟨_,QYV g,_,x0,?_⟩;refine aQ (λ_=>AD rfl) (λ_=>yh rfl)
  | kept n t p k x y=>
   refine⟨_,QYV g,_,x0,?_⟩;refine⟨_,QYV g,_,x0,?_⟩;refine⟨_,QYV g,_,x0,?_⟩;refine aQ (λ_=>AD rfl) (λ_=>yh rfl)
  | asked n=>
   refine⟨_,QYV g,_,x0,?_⟩;refine⟨_,QYV g,_,x0,?_⟩;exact⟨_,QYV g,_,x0,AD rfl⟩
def Ly:Sp:=λvs H Q _=>∃(d b ra lm:UF)(M:List UF)(rs:List RX)(as:List UF),vs=[.ref d,.ref ra,.ref lm]/\Dk H d b/\RxsAt H ra rs as/\(ra≠d/\ra≠b)/\rs.length<=43/\(∀r∈rs,r.turn<=1000000000000)/\MenusAt H lm M/\d∉M/\b∉M ∧
 ∀(a':UF)(r':RX)(H':Hp),cI r'->r'.At H' a'->Fw d b H H'->Q (.ref a') H'
def Re{r:RX}(h:r.Ok):r.turn<=1000000000000:=by
 cases r with
 | next n t=>exact h.2.2
 | came n t p k x=>exact h.2.2.1
 | done n t y=>exact h.2.2
 | _=>exact zero_le _
def qL(r:RX):gT (.str (bH r)) [.str "next",.str "came",.str "done"]=kS r:=by cases r<;>rfl
def qM{r:RX}(h:kS r=true):Ky r=.int (r.turn:Int):=by cases r<;>first|rfl|cases h
def xL(T:Txt K mg)(b9:aG P w K mg base 1 "_law_draw" QZR bF)(J2:aG P w K mg base 2 "_law_end" QZR bF)(A0:aG P w K mg base 3 "_law_deed" QZH iX)(m6:aG P w K mg base 1 "_law_words" QZF hX)(n9:aG P w K mg base 3 "_law_answer" QZE nO)(we:aG P w K mg base 4 "_law_kept" QZr uX)(M8:aG P w K mg base 2 "_law_spot" QZO lW)(D:DefAt K mg "_law_row_more" cN QZA):aG P w K mg base 5 "_law_row_more" QZA Ly:=by
 refine D.go aS (λvs H Q E h=>?_) (λf cdv A outer s H vs Q E hr h=>?_)
 ·obtain⟨d,b,ra,lm,M,rs,as,rfl,_⟩:=h;rfl
 ·obtain⟨d,b,ra,lm,M,rs,as,rfl,dk,RR,nra,hl,GA,hM,hd,hb,q⟩:=h;have c6:Room 1 _:=hr.mono Zd;have J3:Room 2 _:=hr.mono Zd;have E3:Room 3 _:=hr.mono Zd;have v7:Room 1 _:=hr.mono Zd;have A1:Room 3 _:=hr.mono Zd;have wg:Room 4 _:=hr;have Z0:Room 2 _:=hr.mono Zd;have le:=RR.len;refine⟨_,(lv (o0 (i:=3) aS.nd (ml vj (vm rfl (js:=[none]) (N:=QZz) (CompScope.by (aB cN) QZe rfl rfl Zk) (aP rfl) (wf (K:=K) (kq 1)) (λC s₂ H₂ fp=>⟨(sx (i:=0) (show(QZz:List Str).Nodup by decide +kernel)),(wv (nw IN (li (mi (K:=K)) (kq 0) lc) mh)),(li (mi (K:=K)) (kq 0) lc)⟩)) (sw (kt lc (kt lc lf))))) (lv (o0 (i:=4) aS.nd (li (sj (K:=K)) (kq 3) (mk b9 c6 rfl (kt (kq 0) (kt (su (sy (K:=K)) rfl T.b_len aO (kt (kq 3) lf)) lf))))) (lv (o0 (i:=5) aS.nd (su (R.fq (K:=K) rfl) rfl T.b_max pP (kt (ml vj (sw (kt lc lf)) (vm rfl (js:=[none]) (N:=QZz) (CompScope.by (aB cN) QZe rfl rfl Zk) (aP rfl) (wf (K:=K) (kq 1)) (λC s₂ H₂ fp=>⟨(sx (i:=0) (show(QZz:List Str).Nodup by decide +kernel)),(wv (nw (tz (K:=K)) (li (mi (K:=K)) (kq 0) lc) (pi (kt mh (kt mh (kt mh lf)))))),(li (mi (K:=K)) (kq 0) lc)⟩))) lf))) (lv (o0 (i:=6) aS.nd (li (sj (K:=K)) (li (sj (K:=K)) (kq 2) lc) (mk b9 c6 rfl (kt (kq 0) (kt (su (sy (K:=K)) rfl T.b_len aO (kt (li (sj (K:=K)) (kq 2) lc) lf)) lf))))) (lv (o0 (i:=7) aS.nd (sw (kt (pi (kt mh (kt (kq 4) (kt (kq 5) lf)))) (kt (pi (kt mh (kt (kq 6) (kt (ml sv lc (mk b9 c6 rfl (kt (kq 0) (kt lc lf)))) lf)))) lf)))) (lv (o0 (i:=8) aS.nd (mk A0 E3 rfl (kt (kq 0) (kt (li (sj (K:=K)) (kq 2) lc) (kt (li (sj (K:=K)) (kq 2) lc) lf))))) (lv (o0 (i:=9) aS.nd (ml vj (mk m6 v7 rfl (kt (kq 8) (kt tj lf))) (mk m6 v7 rfl (kt (kq 8) (kt tj lf))))) (lv (o0 (i:=10) aS.nd (mk n9 A1 rfl (kt (kq 0) (kt (kq 8) (kt (li (sj (K:=K)) (kq 9) lc) lf))))) (lv (o0 (i:=7) aS.nd (ml vj (kq 7) (sw (kt (pi (kt mh (kt (kq 4) lf))) (kt (pi (kt mh (kt (kq 4) (kt (kq 5) (kt (kq 10) lf))))) lf))))) (lv (o0 (i:=7) aS.nd (ml vj (kq 7) (sw (kt (mk we wg rfl (kt (kq 0) (kt (kq 2) (kt (kq 4) (kt (mk J2 J3 rfl (kt (kq 0) (kt (ml sv (kq 5) lc) lf))) lf))))) lf)))) (lv (xt (xr (K:=K) PySem.F.plainAttrs_list PySem.F.slot_list_append PySem.F.type_list_append DU (kq 7) (kt (ml AC (ml AC (pi (kt mh (kt (kq 4) (kt (kq 5) lf)))) (mk M8 Z0 rfl (kt (kq 0) (kt (kq 2) lf)))) (pi (kt (kq 8) lf))) lf))) (mj (ms (li (sj (K:=K)) (kq 7) (mk b9 c6 rfl (kt (kq 0) (kt lc lf))))))))))))))))),?_⟩;refine bK (λσ' H'=>∃(l:UF)(ns:List Nat),σ'=[some (.ref d),some (.ref ra),some (.ref lm),some (.ref l),none,none,none,none,none,none,none]/\H l=none/\H' l=some (.lst (nI ns))/\1<=ns.length/\ns.length<=100/\Same H H') (λnx d7=>?_) ?_
  ·refine⟨ra,rfl,⟨_,QYU RR.lst⟩,?_⟩;refine bT (dB K ra (as.map V.ref)) (by rw[aZ];omega) (λi ys H'=>H'=H/\∃ns:List Nat,ys=nI ns/\ns.length<=i) (λi ys H' ⟨e0,ns,e,l'⟩=>⟨by rw[e0];exact QYU RR.lst,by rw[e];unfold nI;rw[aZ];exact l'⟩) ⟨rfl,[],rfl,bQ _⟩ (λi x ys H' hx ⟨e0,ns,e,l'⟩=>?_) (λys H' ⟨e0,ns,e,l'⟩=>?_)
   ·subst e0;obtain⟨a1,r1,rfl,ha,C8,m4⟩:=RR.get hx;obtain⟨xs,g,x0,x1,x2⟩:=bO m4;dsimp only [aK];refine⟨_,QYV g,_,x0,?_⟩;show if (!decide (bH r1="has"))=true then _ else _
    refine aQ (λh=>?_) (λh=>?_)
    ·obtain⟨n,en⟩:=zT (Ce.mp (by simpa using h));rw[en]at x1;exact⟨_,QYV g,_,x1,rfl,ns++[n],by rw[e];unfold nI;rw[iB];rfl,by simp;omega⟩
    ·exact⟨rfl,ns,e,Zo⟩
   ·subst e0;intro p hp;rw[aZ]at l';refine⟨eK rfl,λp2 m5=>⟨_,_,aN aA m5,aA,by rw[e];unfold nI;rw[aZ];exact fA (by simp;omega),λp3 C9=>?_⟩⟩;have s1:Same H' (aI H' p (.lst ys)):=aF hp;refine d7 _ _ ⟨p3,ns++[1,5],rfl,(s1.trans (aF m5)).free C9,?_,Zs,by simp;omega,(s1.trans (aF m5)).trans (aF C9)⟩;rw[aA,e];unfold nI;rw[iB];rfl
  rintro σ' H1 ⟨l,ns,rfl,fl,gl,l1,l2,s1⟩;have f1:=(Fw.refl dk).same s1;have ld:=dk.ne fl;have en:(nI ns).length=ns.length:=by unfold nI;rw[aZ]
  refine⟨_,.inl (QYU gl),d,b,(ns.length:Int),by rw[en],f1.dk,Zo,Zo,λk H2 k0 k1 D2 e2=>?_⟩;obtain⟨k,rfl⟩:=dF k0;have hk:k<ns.length:=by omega
  have F2:=(Fw.refl f1.dk).draw D2 e2;have f2:=f1.draw D2 e2;refine⟨_,QYU (F2.get gl ld.1 ld.2),.int (ns[k]:Int),bJ (by unfold nI;rw[jC,gZ hk];rfl),?_⟩;dsimp only [aK];generalize ns[k]=num;have R2:=RR.keep f2.tk (f2.get RR.lst nra.1 nra.2);refine bK (λσ' H'=>∃(turn:Nat),σ'=[some (.ref d),some (.ref ra),some (.ref lm),some (.ref l),some (.int (num:Int)),some (.int (turn:Int)),none,none,none,none,none]/\turn<=1000000000000/\Fw d b H H') (λnx d7=>?_) ?_
  ·refine⟨eK rfl,λp0 IW=>?_⟩;have s3:=aF (o:=.lst [.int 0]) IW;have g0:(aI H2 p0 (.lst [.int 0])) p0=some (.lst [.int 0]):=aA;have f3:=f2.new (o:=.lst [.int 0]) IW;generalize aI H2 p0 (.lst [.int 0])=H3 at s3 g0 f3;have R3:=R2.same s3;refine⟨ra,rfl,⟨_,QYU R3.lst⟩,?_⟩;refine bT (dB K ra (as.map V.ref)) (by rw[aZ];omega) (λi ys H'=>Same H3 H'/\∃ns:List Nat,ys=nI ns/\ns.length<=i/\∀n∈ns,n<=1000000000000) (λi ys H' ⟨e0,ns,e,l',_⟩=>⟨QYU (e0 _ _ R3.lst),by rw[e];unfold nI;rw[aZ];exact l'⟩) ⟨Same.refl _,[],rfl,bQ _,(λ_ h=>nomatch h)⟩ (λi x ys H' hx ⟨e0,ns,e,l',hn⟩=>?_) (λys H' ⟨e0,ns,e,l',hn⟩=>?_)
   ·obtain⟨a1,r1,rfl,ha,C8,m4⟩:=(R3.same e0).get hx;obtain⟨xs,g,x0,x1,x2⟩:=bO m4;dsimp only [aK];refine⟨_,QYV g,_,x0,aL rfl,λtp H4 s4 g4=>⟨tp,_,rfl,.inr (QYV g4),rfl,rfl,?_⟩⟩;show if gT (.str (bH r1)) [.str "next",.str "came",.str "done"]=true then _ else _
    rw[qL];refine aQ (λh=>?_) (λh=>?_)
    ·have WN:=qM h;have wj:=x2 (by rw[WN];exact λz=>nomatch z);rw[WN]at wj;refine⟨_,QYV (s4 _ _ g),_,wj,e0.trans s4,ns++[r1.turn],by rw[e];unfold nI;rw[iB];rfl,by simp;omega,λn BU=>?_⟩;rcases aH BU with BU|rfl
     ·exact hn n BU
     ·exact GA _ (jW C8)
    ·exact⟨e0.trans s4,ns,e,Zo,hn⟩
   ·intro p hp;rw[aZ]at l';refine⟨_,_,aN (e0 _ _ g0) hp,aA,by rw[e];unfold nI;rw[aZ];exact fA (by simp;omega),λp3 C9=>?_⟩;refine⟨p3,(0:Int)::(ns.map (λn:Nat=>(n:Int))),rfl,QYU (by rw[aA,e];unfold nI;rw[map_cons,map_map];rfl),Zs,λmx EH kz=>?_⟩;have nn:∃m:Nat,mx=m/\m<=1000000000000:=by
     rcases mem_cons.mp EH with rfl|h
     ·exact⟨0,rfl,Zo⟩
     ·obtain⟨n,BU,rfl⟩:=Zmm.mp h;exact⟨n,rfl,hn n BU⟩
    obtain⟨m,rfl,hm⟩:=nn;exact d7 _ _ ⟨m,rfl,hm,((f3.same e0).new hp).new C9⟩
  rintro σ' H3 ⟨turn,rfl,LS,f3⟩;have WO:=hM;obtain⟨a0,a1,a2,a3,ws,us,ps,ks,rfl,h0,h1,h2,h3,h4,mw,mu,_⟩:=hM.ex;have nd:∀x∈[lm,a0,a1,a2,a3],x≠d/\x≠b:=λx hx=>⟨λz=>hd (z▸hx),λz=>hb (z▸hx)⟩
  have nl:=nd lm Zs;have n0:=nd a0 Zs;have n1:=nd a1 Zs;have w2:=mw.two;refine⟨_,QYU (f3.get h0 nl.1 nl.2),_,rfl,_,QYU (f3.get h0 nl.1 nl.2),_,rfl,_,.inl (QYU (f3.get h1 n0.1 n0.2)),d,b,(ws.length:Int),by rw[aZ],f3.dk,Zo,by have:=mw.six;omega,λk H4 k0 k1 D4 e4=>?_⟩;have F4:=(Fw.refl f3.dk).draw D4 e4;have f4:=f3.trans F4;obtain⟨i,hi,rfl,ei⟩:=fK k0 k1;refine⟨_,QYU (f4.get h1 n0.1 n0.2),_,ei,?_⟩;dsimp only [aK];generalize ws[i]=nm;refine⟨aL rfl,λtn H5 s5 g5=>⟨d,b,9,rfl,f4.dk.same s5,Zd,Zd,λk9 H6 k90 k91 D6 e6=>⟨aL rfl,λth H7 s7 g7=>⟨eK rfl,λls CA=>?_⟩⟩⟩⟩;obtain⟨k9,rfl⟩:=dF k90;have f7:=((f4.same s5).draw D6 e6).same s7;have F57:=((Fw.refl (f4.dk.same s5)).draw D6 e6).same s7;have f8:=f7.new (o:=.lst [.ref tn,.ref th]) CA;have VF:=f7.free CA;have NZ:=dk.ne VF;have R8:RxsAt (aI H7 ls (.lst [.ref tn,.ref th])) ls [.next num turn,.has nm (1+k9)] [tn,th]:=by
   refine⟨aA,.cons (aN (F57.tup g5) CA) (.cons ?_ .nil)⟩;have:=aN (u:=.lst [.ref tn,.ref th]) g7 CA;show _=some (HO.tup [V.str "has",.str nm,.int ((1+k9:Nat):Int)]);rw[this,show((1+k9:Nat):Int)=1+(k9:Int) by omega]
  dsimp only [aK];generalize aI H7 ls (.lst [.ref tn,.ref th])=H8 at f8 R8;refine⟨_,QYU (f8.get h0 nl.1 nl.2),_,rfl,_,QYU (f8.get h0 nl.1 nl.2),_,rfl,d,b,a0,a1,ws,us,rfl,f8.dk,f8.get h1 n0.1 n0.2,f8.get h2 n1.1 n1.2,⟨n0.1,n0.2,n1.1,n1.2⟩,mw,mu,λtd x H9 hx gx F9=>?_⟩;have f9:=f8.trans F9;have R9:=R8.keep F9.tk (F9.get R8.lst NZ.1 NZ.2);dsimp only [aK];refine bK (λσ' H'=>∃(l3:UF),σ'=[some (.ref d),some (.ref ra),some (.ref lm),some (.ref l),some (.int (num:Int)),some (.int (turn:Int)),some (.str nm),some (.ref ls),some (.ref td),some (.ref l3),none]/\H l3=none/\H' l3=some (.lst ((gB x false++gB x true).map V.str))/\Same H9 H') (λnx d7=>?_) ?_
  ·refine⟨td,x,false,rfl,gx,λl1 H3 n1 g1 s1=>⟨td,x,true,rfl,s1 _ _ gx,λl2 H4 n2 g2 s2=>⟨_,_,s2 _ _ g1,g2,?_,λl3 zw=>?_⟩⟩⟩
   ·have:=hZ x;rw[kM]at this;rw[aZ,aZ];exact fA Zo
   ·exact d7 _ _ ⟨l3,rfl,(f9.same (s1.trans s2)).free zw,by rw[aA,iB],(s1.trans s2).trans (aF zw)⟩
  rintro σ' Ha ⟨l3,rfl,WM,g3,sa⟩;have fa:=f9.same sa;have Ra:=R9.same sa;have WQ:0<(gB x false++gB x true).length:=by have:=hZ x;rw[kM]at this ⊢;omega
  have hz:(gB x false++gB x true)[0]∈gW x:=by
   rcases Zma.mp (getElem_mem WQ) with h|h
   ·exact kH x _ _ h
   ·exact kH x _ _ h
  refine⟨_,QYU g3,.str (gB x false++gB x true)[0],bJ (j:=0) (by rw[jC,gZ WQ];rfl),d,b,td,x,_,rfl,fa.dk,sa _ _ gx,hx,hz,λc y Hb hy _ gy Fb=>?_⟩;have fb:=fa.trans Fb;have Rb:=Ra.keep Fb.tk (Fb.get Ra.lst NZ.1 NZ.2);have gxb:=Fb.tup (sa _ _ gx);dsimp only [aK];refine⟨aL rfl,λt1 Hc sc gc=>⟨aL rfl,λt2 Hd sd gd=>⟨eK rfl,λp2 m5=>⟨_,_,aN (sd _ _ (sc _ _ Rb.lst)) m5,aA,fA Zs,λl4 IT=>?_⟩⟩⟩⟩;have LV:=(sc.trans sd).trans ((aF (o:=.lst [.ref t1,.ref t2]) m5).trans (aF (o:=.lst ([tn,th].map V.ref++[.ref t1,.ref t2])) IT));have LW:=fb.same LV;have fl4:=(((fb.same sc).same sd).new (o:=.lst [.ref t1,.ref t2]) m5).free IT;have WR:=dk.ne fl4;have Rc:RxsAt (aI (aI Hd p2 (.lst [.ref t1,.ref t2])) l4 (.lst ([tn,th].map V.ref++[.ref t1,.ref t2]))) l4 [.next num turn,.has nm (1+k9),.asked num,.done num turn y] [tn,th,t1,t2]:=by
   refine⟨aA,?_⟩;have:=(Rb.same LV).each
   cases this with
   | cons i1 i2=>cases i2 with
    | cons i2 i3=>exact .cons i1 (.cons i2 (.cons (aN (aN (sd _ _ gc) m5) IT) (.cons ⟨c,aN (aN gd m5) IT,LV _ _ gy⟩ .nil)))
  have IY:=LV _ _ gxb;dsimp only [aK];generalize aI (aI Hd p2 (.lst [.ref t1,.ref t2])) l4 (.lst ([tn,th].map V.ref++[.ref t1,.ref t2]))=He at LV LW Rc IY;refine⟨d,b,(turn:Int)+1,rfl,LW.dk,Zo,Zo,λu Hf u0 u1 Df ef=>?_⟩;obtain⟨u,rfl⟩:=dF u0;have Ff:=(Fw.refl LW.dk).draw Df ef;refine⟨d,b,lm,_,num,u,rfl,Df,(LW.trans Ff).menus hd hb WO,hd,hb,λtk p k x' y' Hg hp hk X0 BX at_ fg=>?_⟩;have Fg:=Ff.trans fg;have WS:=LW.trans Fg;have Rg:=Rc.keep Fg.tk (Fg.get Rc.lst WR.1 WR.2);refine⟨eK rfl,λp3 C9=>⟨_,_,aN Rg.lst C9,aA,fA Zs,λl5 NW=>?_⟩⟩;have s6:=(aF (o:=.lst [.ref tk]) C9).trans (aF (o:=.lst ([tn,th,t1,t2].map V.ref++[.ref tk])) NW);have WU:=(WS.new (o:=.lst [.ref tk]) C9).free NW;have OA:=dk.ne WU;have OB:=WS.same s6;have Rh:RxsAt (aI (aI Hg p3 (.lst [.ref tk])) l5 (.lst ([tn,th,t1,t2].map V.ref++[.ref tk]))) l5 ([.next num turn,.has nm (1+k9),.asked num,.done num turn y]++[.kept num u p k x' y']) ([tn,th,t1,t2]++[tk]):=by
   refine⟨aA,Paired.snoc ?_ (at_.tk s6.tk)⟩;exact(Rg.same s6).each
  have WV:=s6 _ _ (Fg.tup IY);dsimp only [aK];generalize aI (aI Hg p3 (.lst [.ref tk])) l5 (.lst ([tn,th,t1,t2].map V.ref++[.ref tk]))=Hh at s6 OB Rh WV;refine⟨.inl ⟨rfl,_,QYU Rh.lst⟩,aL rfl,λc1 Hi si gi=>?_⟩;have WX:=OB.same si;refine⟨d,b,lm,_,rfl,WX.dk,WX.menus hd hb WO,hd,hb,λc2 p' k' Hj zq nz gj Fj=>?_⟩;refine⟨_,_,Fj.tup gi,gj,QZY rfl,λc3 Hk sk gk=>⟨aL rfl,λc4 Hl sl FT=>⟨_,_,sl _ _ gk,FT,QZY rfl,λc5 Hm sm gm=>?_⟩⟩⟩;have Fm:=(((((Fw.refl OB.dk).same si).trans Fj).same sk).same sl).same sm;have f8':=OB.trans Fm;have Rm:=Rh.keep Fm.tk (Fm.get Rh.lst OA.1 OA.2);refine⟨l5,_,_,rfl,rfl,Rm.lst,oZ (m:=1000) (QZY rfl) Zd,?_⟩;have OC:=f8'.put (o:=.lst (([tn,th,t1,t2]++[tk]).map V.ref++[.ref c5])) WU;have Rn:=Rm.snoc (r:=.came num turn p' k' x) (a:=c5) (fZ (ys:=([tn,th,t1,t2]++[tk]).map V.ref++[.ref c5]) Rm.lst) (RX.At.tk (fZ Rm.lst) (show RX.At Hm c5 (.came num turn p' k' x) from⟨td,gm,Fm.tup WV⟩)) aA;generalize aI Hm l5 (.lst (([tn,th,t1,t2]++[tk]).map V.ref++[.ref c5]))=Hn at OC Rn;refine⟨d,b,6,rfl,OC.dk,Zd,Zd,λk6 Ho k60 k61 Do eo=>?_⟩;have Fo:=(Fw.refl OC.dk).draw Do eo;have Ro:=Rn.keep Fo.tk (Fo.get Rn.lst OA.1 OA.2);have fo:=OC.trans Fo;obtain⟨j,rfl⟩:=dF k60;have hj:j<6:=by omega
  have LX:∀r∈([.next num turn,.has nm (1+k9),.asked num,.done num turn y]++[.kept num u p k x' y']++[.came num turn p' k' x]:List RX),cI r:=by
   intro r hr;simp only [List.cons_append,List.nil_append,mem_cons,QZU,or_false]at hr;rcases hr with rfl|rfl|rfl|rfl|rfl|rfl
   ·trivial
   ·show 1+k9<=1000000000000;omega
   ·trivial
   ·exact⟨x,hx,hy⟩
   ·exact⟨X0,BX⟩
   ·exact hx
  have hv:(([tn,th,t1,t2]++[tk]++[c5]).map V.ref)[j]?=some (.ref ([tn,th,t1,t2]++[tk]++[c5])[j]):=by rw[jC,gZ (by simpa using hj)];rfl
  obtain⟨a',r',ea,_,C8,j7⟩:=Ro.get hv;refine⟨_,QYU Ro.lst,.ref a',?_,q a' r' Ho (LX r' (jW C8)) j7 fo⟩;rw[<- ea];exact bJ hv
def Paired.take{α β:Type}{R:α->β->Prop}:∀ {xs:List α}{ys:List β} (k:Nat),Paired R xs ys->Paired R (xs.take k) (ys.take k)
 | _,_,0,_=>by simp only [List.take_zero];exact .nil
 | _,_,k+1,.nil=>.nil
 | _,_,k+1,.cons h t=>.cons h (Paired.take k t)
def Paired.drop{α β:Type}{R:α->β->Prop}:∀ {xs:List α}{ys:List β} (k:Nat),Paired R xs ys->Paired R (xs.drop k) (ys.drop k)
 | _,_,0,h=>h
 | _,_,k+1,.nil=>.nil
 | _,_,k+1,.cons h t=>Paired.drop k t
def Paired.app{α β:Type}{R:α->β->Prop}:∀ {xs:List α}{ys:List β}{QU:List α}{DY:List β},Paired R xs ys->Paired R QU DY->Paired R (xs++QU) (ys++DY)
 | _,_,_,_,.nil,h=>h
 | _,_,_,_,.cons h t,h'=>.cons h (Paired.app t h')
def Ma{H:Hp}{ra p:UF}{rs:List RX}{as:List UF}(h:RxsAt H ra rs as)(k:Nat)(g:H p=some (.lst (dO (as.map V.ref) none (some (k:Int))))):RxsAt H p (rs.take k) (as.take k):=
 ⟨by rw[g,uF,pQ],Paired.take k h.each⟩
def Mb{H:Hp}{ra p:UF}{rs:List RX}{as:List UF}(h:RxsAt H ra rs as)(k:Nat)(g:H p=some (.lst (dO (as.map V.ref) (some (k:Int)) none))):RxsAt H p (rs.drop k) (as.drop k):=
 ⟨by rw[g,uF,lK],Paired.drop k h.each⟩
def Rf{H:Hp}{p p' q:UF}{rs Q6:List RX}{as X3:List UF}(h:RxsAt H p rs as)(h':RxsAt H p' Q6 X3)(g:H q=some (.lst (as.map V.ref++X3.map V.ref))):RxsAt H q (rs++Q6) (as++X3):=
 ⟨by rw[g,iB],Paired.app h.each h'.each⟩
def vE{H:Hp}{p a:UF}{r:RX}(h:r.At H a)(g:H p=some (.lst [.ref a])):RxsAt H p [r] [a]:=⟨g,.cons h .nil⟩
def Xz{H:Hp}{ra p:UF}{rs:List RX}{as:List UF}(h:RxsAt H ra rs as)(hp:H p=none)(k:Nat):Same H (aI H p (.lst (dO (as.map V.ref) none (some (k:Int)))))/\RxsAt (aI H p (.lst (dO (as.map V.ref) none (some (k:Int))))) p (rs.take k) (as.take k):=⟨aF hp,Ma (h.same (aF hp)) k aA⟩
def Yp{H:Hp}{ra p:UF}{rs:List RX}{as:List UF}(h:RxsAt H ra rs as)(hp:H p=none)(k:Nat):Same H (aI H p (.lst (dO (as.map V.ref) (some (k:Int)) none)))/\RxsAt (aI H p (.lst (dO (as.map V.ref) (some (k:Int)) none))) p (rs.drop k) (as.drop k):=⟨aF hp,Mb (h.same (aF hp)) k aA⟩
def vF{H:Hp}{p p' l:UF}{rs Q6:List RX}{as X3:List UF}(h:RxsAt H p rs as)(h':RxsAt H p' Q6 X3)(hl:H l=none):Same H (aI H l (.lst (as.map V.ref++X3.map V.ref)))/\RxsAt (aI H l (.lst (as.map V.ref++X3.map V.ref))) l (rs++Q6) (as++X3):=⟨aF hl,Rf (h.same (aF hl)) (h'.same (aF hl)) aA⟩
def vG{H H':Hp}{p p':UF}{rs Q6:List RX}{as X3:List UF}(h:RxsAt H p rs as)(h':RxsAt H' p' Q6 X3)(hl:rs.length+Q6.length<=200):(as.map V.ref).length+(X3.map V.ref).length<=sizeLine:=by
 have:=h.len;have:=h'.len;rw[aZ,aZ];exact fA Zo
def xM:Sp:=λvs H Q _=>∃(d b ra lm:UF)(M:List UF)(rs:List RX)(as:List UF),vs=[.ref d,.ref ra,.ref lm]/\Dk H d b/\RxsAt H ra rs as/\(ra≠d/\ra≠b)/\rs.length<=43/\(∀r∈rs,cI r)/\(∀r∈rs,r.turn<=1000000000000)/\MenusAt H lm M/\d∉M/\b∉M ∧
 ∀(la:UF)(Q6:List RX)(X3:List UF)(H':Hp),H la=none->RxsAt H' la Q6 X3->(∀r∈Q6,cI r)->Q6.length<=44->Fw d b H H'->Q (.ref la) H'
def Fn(T:Txt K mg)(b9:aG P w K mg base 1 "_law_draw" QZR bF)(wo:aG P w K mg base 5 "_law_row_more" QZA Ly)(uu:aG P w K mg base 5 "_law_row_other" QZB Lx)(D:DefAt K mg "_law_spoilt" fT QZA):aG P w K mg base 6 "_law_spoilt" QZA xM:=by
 refine D.go cZ (λvs H Q E h=>?_) (λf cdv A outer s H vs Q E hr h=>?_)
 ·obtain⟨d,b,ra,lm,M,rs,as,rfl,_⟩:=h;rfl
 ·obtain⟨d,b,ra,lm,M,rs,as,rfl,dk,RR,nra,hl,hf,GA,hM,hd,hb,q⟩:=h;have c6:Room 1 _:=hr.mono Zd;have wq:Room 5 _:=hr;have uv:Room 5 _:=hr;have le:=RR.len;have IZ:(as.map V.ref).length=rs.length:=by rw[aZ];omega
  refine⟨_,(lv (o0 (i:=3) cZ.nd (mk b9 c6 rfl (kt (kq 0) (kt lc lf)))) (lv (o0 (i:=4) cZ.nd (mk b9 c6 rfl (kt (kq 0) (kt (ml sv (su (sy (K:=K)) rfl T.b_len aO (kt (kq 1) lf)) lc) lf)))) (lv (re (ve (wp (nw xz (kq 3) lc) (xw (nw rq (kq 4) (su (sy (K:=K)) rfl T.b_len aO (kt (kq 1) lf)))))) (mj (ms (ml vj (ml vj (vf (ww (K:=K)) (kq 1) vg (ut (kq 4))) (sw (kt (mk wo wq rfl (kt (kq 0) (kt (kq 1) (kt (kq 2) lf)))) lf))) (vf (ww (K:=K)) (kq 1) (ut (kq 4)) vg)))) rp) (lv (re (nw rq (kq 3) lc) (mj (ms (ml vj (vf (ww (K:=K)) (kq 1) vg (ut (ml sv (kq 4) lc))) (vf (ww (K:=K)) (kq 1) (ut (kq 4)) vg)))) rp) (lv (re (nw rq (kq 3) lc) (mj (ms (ml vj (vf (ww (K:=K)) (kq 1) vg (ut (kq 4))) (vf (ww (K:=K)) (kq 1) (ut (ml sv (kq 4) lc)) vg)))) rp) (lv (re (nw rq (kq 3) lc) (lv (o0 (i:=5) cZ.nd (ml vj (vf (ww (K:=K)) (kq 1) vg (ut (kq 4))) (vf (ww (K:=K)) (kq 1) (ut (ml sv (kq 4) lc)) vg))) (lv (o0 (i:=6) cZ.nd (mk b9 c6 rfl (kt (kq 0) (kt (ml sv (su (sy (K:=K)) rfl T.b_len aO (kt (kq 5) lf)) lc) lf)))) (mj (ms (ml vj (ml vj (vf (ww (K:=K)) (kq 5) vg (ut (kq 6))) (sw (kt (li (sj (K:=K)) (kq 1) (kq 4)) lf))) (vf (ww (K:=K)) (kq 5) (ut (kq 6)) vg)))))) rp) (lv (o0 (i:=7) cZ.nd (mk uu uv rfl (kt (kq 0) (kt (kq 1) (kt (li (sj (K:=K)) (kq 1) (kq 4)) (kt (kq 2) lf)))))) (mj (ms (ml vj (ml vj (vf (ww (K:=K)) (kq 1) vg (ut (kq 4))) (sw (kt (kq 7) lf))) (vf (ww (K:=K)) (kq 1) (ut (ml sv (kq 4) lc)) vg))))))))))),?_⟩;refine⟨d,b,8,rfl,dk,Zd,Zd,λway H1 w0 w1 D1 e1=>?_⟩;obtain⟨way,rfl⟩:=dF w0;have f1:=(Fw.refl dk).draw D1 e1;have R1:=RR.keep f1.tk (f1.get RR.lst nra.1 nra.2);dsimp only [aK];refine⟨_,.inl (QYU R1.lst),d,b,(rs.length:Int)+1,by rw[IZ],f1.dk,Zo,Zo,λk H2 k0 k1 D2 e2=>?_⟩;obtain⟨k,rfl⟩:=dF k0;have hk:k<=rs.length:=by omega
  have f2:=f1.draw D2 e2;have R2:=RR.keep f2.tk (f2.get RR.lst nra.1 nra.2);dsimp only [aK];have szr:∀ {n m:Nat},n<=44->m<=44->n+m<=sizeLine:=λh1 h2=>fA Zo
  have bj':∀lo hi,(dO (as.map V.ref) lo hi).length<=43:=λlo hi=>by have:=lH (as.map V.ref) lo hi;omega
  have mt:∀ {k:Nat}{r:RX},r∈rs.take k->cI r:=λh=>hf _ (mem_of_mem_take h)
  have md:∀ {k:Nat}{r:RX},r∈rs.drop k->cI r:=λh=>hf _ (List.mem_of_mem_drop h)
  refine jS (λv H'=>H'=H2/\(v=false->k<rs.length)) (λkk lj=>?_) ?_ ?_
  ·refine aQ (λ_=>lj _ _ ⟨rfl,nofun⟩) (λ_=>⟨_,.inl (QYU R2.lst),lj _ _ ⟨rfl,λz=>?_⟩⟩);have:=W8 z;rw[IZ]at this;omega
  ·rintro G ⟨rfl,_⟩;refine⟨_,QYU R2.lst,λp1 yi=>?_⟩;obtain⟨s3,T3⟩:=Xz R2 yi k;generalize aI G p1 (.lst (dO (as.map V.ref) none (some (k:Int))))=H3 at s3 T3 ⊢;have f3:=f2.same s3;have WY:=dk.ne (f2.free yi);have R3:=R2.same s3;refine⟨d,b,ra,lm,M,rs,as,rfl,f3.dk,R3,nra,hl,GA,f3.menus hd hb hM,hd,hb,λa' r' H4 Y1 AA F4=>?_⟩;have f4:=f3.trans F4;have T4:=T3.keep F4.tk (F4.get T3.lst WY.1 WY.2);have R4:=R3.keep F4.tk (F4.get R3.lst nra.1 nra.2);refine⟨eK rfl,λp2 m5=>?_⟩;have s5:=aF (o:=.lst [.ref a']) m5;have O5:=vE (AA.tk s5.tk) (aA (H:=H4) (a:=p2) (o:=.lst [.ref a']));have T5:=T4.same s5;have R5:=R4.same s5;have f5:=f4.same s5;generalize aI H4 p2 (.lst [.ref a'])=H5 at s5 O5 T5 R5 f5;have cz:=vG T5 O5 (by rw[jD];simp;omega);refine⟨_,_,(T5).lst,(O5).lst,cz,λp3 LY=>?_⟩;obtain⟨s6,A6⟩:=vF T5 O5 LY;generalize aI _ p3 _=H6 at s6 A6 ⊢;refine⟨_,QYU (R5.same s6).lst,λp4 AE=>?_⟩;obtain⟨s7,B7⟩:=Yp (R5.same s6) AE k;generalize aI H6 p4 (.lst (dO (as.map V.ref) (some (k:Int)) none))=H7 at s7 B7 ⊢;have cz:=vG (A6.same s7) B7 (by rw[kM,jD,length_drop];simp;omega);refine⟨_,_,((A6.same s7)).lst,(B7).lst,cz,λp5 yq=>?_⟩;obtain⟨s8,A8⟩:=vF (A6.same s7) B7 yq;generalize aI _ p5 _=H8 at s8 A8 ⊢;refine q p5 _ _ H8 (((f5.same s6).same s7).free yq) A8 (λr hr=>?_) (by rw[kM,kM,jD,length_drop];simp;omega) (((f5.same s6).same s7).same s8);rcases Zma.mp hr with hr|hr
   ·rcases aH hr with hr|rfl
    ·exact mt hr
    ·exact Y1
   ·exact md hr
  ·rintro G ⟨rfl,WZ⟩;have WZ:=WZ rfl;refine aQ (λ_=>?_) (λ_=>?_)
   ·refine⟨_,QYU R2.lst,λp1 yi=>?_⟩;obtain⟨s3,T3⟩:=Xz R2 yi (k+1);rw[Int.natCast_add]at s3 T3;generalize aI G p1 (.lst (dO (as.map V.ref) none (some ((k:Int)+((1:Nat):Int):Int))))=H3 at s3 T3 ⊢;refine⟨_,QYU (R2.same s3).lst,λp4 AE=>?_⟩;obtain⟨s4,B4⟩:=Yp (R2.same s3) AE k;generalize aI H3 p4 (.lst (dO (as.map V.ref) (some (k:Int)) none))=H4 at s4 B4 ⊢;have cz:=vG (T3.same s4) B4 (by rw[jD,length_drop];omega);refine⟨_,_,((T3.same s4)).lst,(B4).lst,cz,λp5 yq=>?_⟩;obtain⟨s5,A5⟩:=vF (T3.same s4) B4 yq;generalize aI _ p5 _=H5 at s5 A5 ⊢;refine q p5 _ _ H5 (((f2.same s3).same s4).free yq) A5 (λr hr=>?_) (by rw[kM,jD,length_drop];omega) (((f2.same s3).same s4).same s5);rcases Zma.mp hr with hr|hr
    ·exact mt hr
    ·exact md hr
   refine aQ (λ_=>?_) (λ_=>?_)
   ·refine⟨_,QYU R2.lst,λp1 yi=>?_⟩;obtain⟨s3,T3⟩:=Xz R2 yi k;generalize aI G p1 (.lst (dO (as.map V.ref) none (some (k:Int))))=H3 at s3 T3 ⊢;refine⟨_,QYU (R2.same s3).lst,λp4 AE=>?_⟩;obtain⟨s4,B4⟩:=Yp (R2.same s3) AE (k+1);rw[Int.natCast_add]at s4 B4;generalize aI H3 p4 (.lst (dO (as.map V.ref) (some ((k:Int)+((1:Nat):Int):Int)) none))=H4 at s4 B4 ⊢;have cz:=vG (T3.same s4) B4 (by rw[jD,length_drop];omega);refine⟨_,_,((T3.same s4)).lst,(B4).lst,cz,λp5 yq=>?_⟩;obtain⟨s5,A5⟩:=vF (T3.same s4) B4 yq;generalize aI _ p5 _=H5 at s5 A5 ⊢;refine q p5 _ _ H5 (((f2.same s3).same s4).free yq) A5 (λr hr=>?_) (by rw[kM,jD,length_drop];omega) (((f2.same s3).same s4).same s5);rcases Zma.mp hr with hr|hr
    ·exact mt hr
    ·exact md hr
   have hv:(as.map V.ref)[k]?=some (.ref (as[k]'Zo)):=by rw[jC,gZ Zo];rfl
   obtain⟨ak,rk,eak,_,EK,LZ⟩:=R2.get hv;rw[eak]at hv;have XD:cI rk:=hf _ (jW EK);refine aQ (λ_=>?_) (λ_=>?_)
   ·refine bK (λσ' H'=>∃(p5:UF)(Q6:List RX)(X3:List UF),σ'=[some (.ref d),some (.ref ra),some (.ref lm),some (.int (way:Int)),some (.int (k:Int)),some (.ref p5),none,none]/\H p5=none/\RxsAt H' p5 Q6 X3/\(∀r∈Q6,cI r)/\Q6.length<=43/\Same G H') (λnx d7=>?_) ?_
    ·refine⟨_,QYU R2.lst,λp1 yi=>?_⟩;obtain⟨s3,T3⟩:=Xz R2 yi k;generalize aI G p1 (.lst (dO (as.map V.ref) none (some (k:Int))))=H3 at s3 T3 ⊢;refine⟨_,QYU (R2.same s3).lst,λp4 AE=>?_⟩;obtain⟨s4,B4⟩:=Yp (R2.same s3) AE (k+1);rw[Int.natCast_add]at s4 B4;generalize aI H3 p4 (.lst (dO (as.map V.ref) (some ((k:Int)+((1:Nat):Int):Int)) none))=H4 at s4 B4 ⊢;have cz:=vG (T3.same s4) B4 (by rw[jD,length_drop];omega);refine⟨_,_,((T3.same s4)).lst,(B4).lst,cz,λp5 yq=>?_⟩;obtain⟨s5,A5⟩:=vF (T3.same s4) B4 yq;generalize aI _ p5 _=H5 at s5 A5 ⊢;refine d7 _ _ ⟨p5,_,_,rfl,((f2.same s3).same s4).free yq,A5,λr hr=>?_,by rw[kM,jD,length_drop];omega,(s3.trans s4).trans s5⟩;rcases Zma.mp hr with hr|hr
     ·exact mt hr
     ·exact md hr
    rintro σ' H3 ⟨p5,Q6,X3,rfl,yq,T3,FX,l',s3⟩;have f3:=f2.same s3;have XH:=dk.ne yq;have le':=T3.len;have RG:(X3.map V.ref).length=Q6.length:=by rw[aZ];omega
    refine⟨_,.inl (QYU T3.lst),d,b,(Q6.length:Int)+1,by rw[RG],f3.dk,Zo,Zo,λj H4 j0 j1 D4 e4=>?_⟩;obtain⟨j,rfl⟩:=dF j0;have F4:=(Fw.refl f3.dk).draw D4 e4;have f4:=f3.draw D4 e4;have T4:=T3.keep F4.tk (F4.get T3.lst XH.1 XH.2);have R4:=RR.keep f4.tk (f4.get RR.lst nra.1 nra.2);have RH:=LZ.tk (s3.tk.trans F4.tk);dsimp only [aK];refine⟨_,QYU T4.lst,λp1 yi=>?_⟩;obtain⟨s5,T5⟩:=Xz T4 yi j;generalize aI H4 p1 (.lst (dO (X3.map V.ref) none (some (j:Int))))=H5 at s5 T5 ⊢;refine⟨_,QYU (s5 _ _ R4.lst),.ref ak,bJ hv,eK rfl,λp2 m5=>?_⟩;have s6:=aF (o:=.lst [.ref ak]) m5;have O6:=vE (RH.tk (s5.trans s6).tk) (aA (H:=H5) (a:=p2) (o:=.lst [.ref ak]));generalize aI H5 p2 (.lst [.ref ak])=H6 at s6 O6;have cz:=vG (T5.same s6) O6 (by rw[jD];simp;omega);refine⟨_,_,((T5.same s6)).lst,(O6).lst,cz,λp3 LY=>?_⟩;obtain⟨s7,A7⟩:=vF (T5.same s6) O6 LY;generalize aI _ p3 _=H7 at s7 A7 ⊢;refine⟨_,QYU (((T4.same s5).same s6).same s7).lst,λp4 AE=>?_⟩;obtain⟨s8,B8⟩:=Yp (((T4.same s5).same s6).same s7) AE j;generalize aI H7 p4 (.lst (dO (X3.map V.ref) (some (j:Int)) none))=H8 at s8 B8 ⊢;have cz:=vG (A7.same s8) B8 (by rw[kM,jD,length_drop];simp;omega);refine⟨_,_,((A7.same s8)).lst,(B8).lst,cz,λp9 MB=>?_⟩;obtain⟨s9,A9⟩:=vF (A7.same s8) B8 MB;generalize aI _ p9 _=H9 at s9 A9 ⊢;refine q p9 _ _ H9 (((((f4.same s5).same s6).same s7).same s8).free MB) A9 (λr hr=>?_) (by rw[kM,kM,jD,length_drop];simp;omega) (((((f4.same s5).same s6).same s7).same s8).same s9);rcases Zma.mp hr with hr|hr
    ·rcases aH hr with hr|rfl
     ·exact FX _ (mem_of_mem_take hr)
     ·exact XD
    ·exact FX _ (List.mem_of_mem_drop hr)
   ·refine⟨_,QYU R2.lst,.ref ak,bJ hv,d,b,ra,ak,lm,M,rs,as,rk,rfl,f2.dk,R2,nra,hl,hf,LZ,XD,f2.menus hd hb hM,hd,hb,λa' r' H4 Y1 AA F4=>?_⟩;have f4:=f2.trans F4;have R4:=R2.keep F4.tk (F4.get R2.lst nra.1 nra.2);dsimp only [aK];refine⟨_,QYU R4.lst,λp1 yi=>?_⟩;obtain⟨s5,T5⟩:=Xz R4 yi k;generalize aI H4 p1 (.lst (dO (as.map V.ref) none (some (k:Int))))=H5 at s5 T5 ⊢;refine⟨eK rfl,λp2 m5=>?_⟩;have s6:=aF (o:=.lst [.ref a']) m5;have O6:=vE (AA.tk (s5.trans s6).tk) (aA (H:=H5) (a:=p2) (o:=.lst [.ref a']));generalize aI H5 p2 (.lst [.ref a'])=H6 at s6 O6;have cz:=vG (T5.same s6) O6 (by rw[jD];simp;omega);refine⟨_,_,((T5.same s6)).lst,(O6).lst,cz,λp3 LY=>?_⟩;obtain⟨s7,A7⟩:=vF (T5.same s6) O6 LY;generalize aI _ p3 _=H7 at s7 A7 ⊢;refine⟨_,QYU (((R4.same s5).same s6).same s7).lst,λp4 AE=>?_⟩;obtain⟨s8,B8⟩:=Yp (((R4.same s5).same s6).same s7) AE (k+1);rw[Int.natCast_add]at s8 B8;generalize aI H7 p4 (.lst (dO (as.map V.ref) (some ((k:Int)+((1:Nat):Int):Int)) none))=H8 at s8 B8 ⊢;have cz:=vG (A7.same s8) B8 (by rw[kM,jD,length_drop];simp;omega);refine⟨_,_,((A7.same s8)).lst,(B8).lst,cz,λp9 MB=>?_⟩;obtain⟨s9,A9⟩:=vF (A7.same s8) B8 MB;generalize aI _ p9 _=H9 at s9 A9 ⊢;refine q p9 _ _ H9 (((((f4.same s5).same s6).same s7).same s8).free MB) A9 (λr hr=>?_) (by rw[kM,kM,jD,length_drop];simp;omega) (((((f4.same s5).same s6).same s7).same s8).same s9);rcases Zma.mp hr with hr|hr
    ·rcases aH hr with hr|rfl
     ·exact mt hr
     ·exact Y1
    ·exact md hr
def Ri{y:An}(h:qH y):(∀m,y=.is1 m->m<=1000000000000)/\(∀l m,y=.is2 l m->l<=1000000000000/\m<=1000000000000)/\(∀m,y=.full m->m<=1000000000000):=by
 obtain⟨x,hx,ho⟩:=h;have hn:=hx.n;refine⟨λm e=>?_,λl m e=>?_,λm e=>?_⟩<;>subst e<;>cases x<;>first|exact ho.elim|(delta An.Of at ho;dsimp only [Dd.n]at ho hn;omega)
def Cg:Sp:=λvs H Q _=>∃(t c:UF)(x:Dd)(y:An),vs=[.ref t,.ref c]/\H t=some (.tup x.vs)/\H c=some (.tup y.vs)/\x.Ok/\qH y/\∀(fb:Bool)(H':Hp),(fb=true↔An.Of x y)->Same H H'->Q (.bl fb) H'
def Mc(T:Txt K mg)(D:DefAt K mg "_law_fits" iR QZf):aG P w K mg base 1 "_law_fits" QZf Cg:=by
 refine D.go jV (λvs H Q E h=>?_) (λf cdv A outer s H vs Q E hr h=>?_)
 ·obtain⟨t,c,x,y,rfl,_⟩:=h;rfl
 ·obtain⟨t,c,x,y,rfl,gx,gy,hx,hy,q⟩:=h;have hn:=hx.n;have⟨b1,b2,b3⟩:=Ri hy;have sr:=Same.refl H;have no:∀ {p:Prop},¬ p->((false=true)↔p):=λh=>⟨nofun,λz=>QZZ z h⟩
  refine⟨_,(lv (o0 (i:=2) jV.nd (li (mi (K:=K)) (kq 0) (vh lc))) (lv (o0 (i:=3) jV.nd (li (mi (K:=K)) (kq 0) lc)) (lv (re (nw rq (li (mi (K:=K)) (kq 1) lc) mh) (mj (ms (sq rq (kq 3) mh))) rp) (lv (re (nw rq (li (mi (K:=K)) (kq 1) lc) mh) (mj (ms (R.or (u8 (sq (tz (K:=K)) (kq 3) (pi (kt mh (kt mh lf)))) (tf (sq rq (li (mi (K:=K)) (kq 1) lc) (li (mi (K:=K)) (kq 0) lc)))) (tf (u8 (sq rq (kq 3) mh) (tf (sq (tz (K:=K)) (li (mi (K:=K)) (kq 1) lc) (vf NE (kq 0) (ut lc) (ut lc))))))))) rp) (lv (re (nw rq (li (mi (K:=K)) (kq 1) lc) mh) (mj (ms (u8 (sq (tz (K:=K)) (kq 3) (pi (kt mh (kt mh (kt mh lf))))) (tf (sq xz (li (mi (K:=K)) (kq 1) lc) (kq 2)))))) rp) (lv (re (nw rq (li (mi (K:=K)) (kq 1) lc) mh) (mj (ms (u8 (sq (tz (K:=K)) (kq 3) (pi (kt mh (kt mh (kt mh lf))))) (tf (sq R.gt (li (mi (K:=K)) (kq 1) lc) (ml xq (ml xy lc lc) (kq 2))))))) rp) (lv (re (nw rq (kq 3) mh) (mj (ms (u8 (sq rq (su (sy (K:=K)) rfl T.b_len aO (kt (kq 1) lf)) lc) (u8 (sq yy (li (mi (K:=K)) (kq 1) lc) (ml xq (ml xy lc lc) (kq 2))) (tf (sq R.ge (li (mi (K:=K)) (kq 1) lc) (kq 2))))))) rp) (lv (re (nw (tz (K:=K)) (kq 3) (pi (kt mh (kt mh lf)))) (mj (ms (u8 (sq rq (su (sy (K:=K)) rfl T.b_len aO (kt (kq 1) lf)) lc) (tf (sq R.ge (li (mi (K:=K)) (kq 1) lc) (kq 2)))))) rp) (mj (ms (u8 (sq (tz (K:=K)) (kq 3) (pi (kt mh (kt mh lf)))) (u8 (sq rq (su (sy (K:=K)) rfl T.b_len aO (kt (kq 1) lf)) lc) (tf (sq yy (li (mi (K:=K)) (kq 1) lc) (ml xq (ml xy lc lc) (kq 2)))))))))))))))),?_⟩;refine⟨_,QYV gx,_,aAU x,?_⟩;dsimp only [aK];refine⟨_,QYV gx,_,xF x,?_⟩;dsimp only [aK];cases y with
  | ok=>
   refine⟨_,QYV gy,_,rfl,?_⟩
   cases x with
   | add a n=>
    exact q false H (no id) sr
   | take a n=>
    exact q false H (no id) sr
   | move a b n=>
    exact q false H (no id) sr
   | send g a n=>
    exact q false H (no id) sr
   | fetch g a n=>
    exact q false H (no id) sr
   | pass g gg a n=>
    exact q true H ⟨λ_=>trivial,λ_=>rfl⟩ sr
  | no h=>
   refine⟨_,QYV gy,_,rfl,?_⟩;refine⟨_,QYV gy,_,rfl,?_⟩
   cases x with
   | add a n=>
    refine⟨aL rfl,λq0 H1 s1 g1=>⟨q0,_,rfl,.inr (QYV g1),rfl,rfl,?_⟩⟩;exact q false H1 (no id) s1
   | take a n=>
    refine⟨aL rfl,λq0 H1 s1 g1=>⟨q0,_,rfl,.inr (QYV g1),rfl,rfl,?_⟩⟩;exact q false H1 (no id) s1
   | move a b n=>
    refine⟨aL rfl,λq0 H1 s1 g1=>⟨q0,_,rfl,.inr (QYV g1),rfl,rfl,?_⟩⟩;exact q false H1 (no id) s1
   | send g a n=>
    refine⟨aL rfl,λq0 H1 s1 g1=>⟨q0,_,rfl,.inr (QYV g1),rfl,rfl,?_⟩⟩;refine⟨_,QYV (s1 _ _ gy),_,rfl,_,QYV (s1 _ _ gx),_,rfl,?_⟩;show if decide (h=g)=true then _ else _
    refine aQ (λh1=>?_) (λh1=>?_)
    ·have h2:h=g:=W9 h1;exact q true H1 ⟨λ_=>h2,λ_=>rfl⟩ s1
    ·have h2:¬ h=g:=W8 h1;exact q false H1 (no h2) s1
   | fetch g a n=>
    refine⟨aL rfl,λq0 H1 s1 g1=>⟨q0,_,rfl,.inr (QYV g1),rfl,rfl,?_⟩⟩;refine⟨_,QYV (s1 _ _ gy),_,rfl,_,QYV (s1 _ _ gx),_,rfl,?_⟩;show if decide (h=g)=true then _ else _
    refine aQ (λh1=>?_) (λh1=>?_)
    ·have h2:h=g:=W9 h1;exact q true H1 ⟨λ_=>h2,λ_=>rfl⟩ s1
    ·have h2:¬ h=g:=W8 h1;exact q false H1 (no h2) s1
   | pass g gg a n=>
    refine⟨aL rfl,λq0 H1 s1 g1=>⟨q0,_,rfl,.inr (QYV g1),rfl,rfl,?_⟩⟩;refine⟨_,QYV (s1 _ _ gy),_,rfl,_,s1 _ _ gx,λt2 H2 s2 g2=>⟨t2,_,rfl,.inr (QYV g2),rfl,rfl,?_⟩⟩;refine q _ H2 ?_ (s1.trans s2);show gT (.str h) [.str g,.str gg]=true↔(h=g∨h=gg);simp[gT,qY];exact⟨λz=>z.imp Eq.symm Eq.symm,λz=>z.imp Eq.symm Eq.symm⟩
  | short m=>
   refine⟨_,QYV gy,_,rfl,?_⟩;refine⟨_,QYV gy,_,rfl,?_⟩;refine⟨_,QYV gy,_,rfl,?_⟩
   cases x with
   | add a n=>
    refine⟨aL rfl,λq0 H1 s1 g1=>⟨q0,_,rfl,.inr (QYV g1),rfl,rfl,?_⟩⟩;exact q false H1 (no id) s1
   | take a n=>
    refine⟨aL rfl,λq0 H1 s1 g1=>⟨q0,_,rfl,.inr (QYV g1),rfl,rfl,?_⟩⟩;refine⟨_,QYV (s1 _ _ gy),_,rfl,?_⟩;exact q _ H1 ⟨λz=>(by have:=W9 z;exact Int.ofNat_lt.mp this),λz=>W7 (Int.ofNat_lt.mpr z)⟩ s1
   | move a b n=>
    refine⟨aL rfl,λq0 H1 s1 g1=>⟨q0,_,rfl,.inr (QYV g1),rfl,rfl,?_⟩⟩;refine⟨_,QYV (s1 _ _ gy),_,rfl,?_⟩;exact q _ H1 ⟨λz=>(by have:=W9 z;exact Int.ofNat_lt.mp this),λz=>W7 (Int.ofNat_lt.mpr z)⟩ s1
   | send g a n=>
    refine⟨aL rfl,λq0 H1 s1 g1=>⟨q0,_,rfl,.inr (QYV g1),rfl,rfl,?_⟩⟩;refine⟨_,QYV (s1 _ _ gy),_,rfl,?_⟩;exact q _ H1 ⟨λz=>(by have:=W9 z;exact Int.ofNat_lt.mp this),λz=>W7 (Int.ofNat_lt.mpr z)⟩ s1
   | fetch g a n=>
    refine⟨aL rfl,λq0 H1 s1 g1=>⟨q0,_,rfl,.inr (QYV g1),rfl,rfl,?_⟩⟩;exact q false H1 (no id) s1
   | pass g gg a n=>
    refine⟨aL rfl,λq0 H1 s1 g1=>⟨q0,_,rfl,.inr (QYV g1),rfl,rfl,?_⟩⟩;exact q false H1 (no id) s1
  | full m=>
   refine⟨_,QYV gy,_,rfl,?_⟩;refine⟨_,QYV gy,_,rfl,?_⟩;refine⟨_,QYV gy,_,rfl,?_⟩;refine⟨_,QYV gy,_,rfl,?_⟩
   cases x with
   | add a n=>
    refine⟨aL rfl,λq0 H1 s1 g1=>⟨q0,_,rfl,.inr (QYV g1),rfl,rfl,?_⟩⟩;refine⟨_,QYV (s1 _ _ gy),_,rfl,⟨Zd,Zd,Zd⟩,?_⟩;have hb:=b3 m rfl;exact q _ H1 ⟨λz=>(by have h1:(m:Int)>1000000000000-(n:Int):=W9 z;exact⟨Zo,hb⟩),λz=>W7 (by have h1:1000000000000<m+n:=z.1;show(m:Int)>1000000000000-(n:Int);omega)⟩ s1
   | take a n=>
    refine⟨aL rfl,λq0 H1 s1 g1=>⟨q0,_,rfl,.inr (QYV g1),rfl,rfl,?_⟩⟩;exact q false H1 (no id) s1
   | move a b n=>
    refine⟨aL rfl,λq0 H1 s1 g1=>⟨q0,_,rfl,.inr (QYV g1),rfl,rfl,?_⟩⟩;refine⟨_,QYV (s1 _ _ gy),_,rfl,⟨Zd,Zd,Zd⟩,?_⟩;have hb:=b3 m rfl;exact q _ H1 ⟨λz=>(by have h1:(m:Int)>1000000000000-(n:Int):=W9 z;exact⟨Zo,hb⟩),λz=>W7 (by have h1:1000000000000<m+n:=z.1;show(m:Int)>1000000000000-(n:Int);omega)⟩ s1
   | send g a n=>
    refine⟨aL rfl,λq0 H1 s1 g1=>⟨q0,_,rfl,.inr (QYV g1),rfl,rfl,?_⟩⟩;exact q false H1 (no id) s1
   | fetch g a n=>
    refine⟨aL rfl,λq0 H1 s1 g1=>⟨q0,_,rfl,.inr (QYV g1),rfl,rfl,?_⟩⟩;refine⟨_,QYV (s1 _ _ gy),_,rfl,⟨Zd,Zd,Zd⟩,?_⟩;have hb:=b3 m rfl;exact q _ H1 ⟨λz=>(by have h1:(m:Int)>1000000000000-(n:Int):=W9 z;exact⟨Zo,hb⟩),λz=>W7 (by have h1:1000000000000<m+n:=z.1;show(m:Int)>1000000000000-(n:Int);omega)⟩ s1
   | pass g gg a n=>
    refine⟨aL rfl,λq0 H1 s1 g1=>⟨q0,_,rfl,.inr (QYV g1),rfl,rfl,?_⟩⟩;exact q false H1 (no id) s1
  | is1 m=>
   refine⟨_,QYV gy,_,rfl,?_⟩;refine⟨_,QYV gy,_,rfl,?_⟩;refine⟨_,QYV gy,_,rfl,?_⟩;refine⟨_,QYV gy,_,rfl,?_⟩
   cases x with
   | add a n=>
    refine⟨aL rfl,λq0 H1 s1 g1=>⟨q0,_,rfl,.inr (QYV g1),rfl,rfl,?_⟩⟩;refine⟨_,.inr (QYV (s1 _ _ gy)),?_⟩;have hb:=b1 m rfl;refine⟨_,QYV (s1 _ _ gy),_,rfl,?_⟩;exact q _ H1 ⟨λz=>(by have h2:(m:Int)≥(n:Int):=W9 z;exact⟨Zo,hb⟩),λz=>W7 (by have h2:=z.1;show(m:Int)≥(n:Int);omega)⟩ s1
   | take a n=>
    refine⟨aL rfl,λq0 H1 s1 g1=>⟨q0,_,rfl,.inr (QYV g1),rfl,rfl,?_⟩⟩;refine⟨aL rfl,λAF H2 s2 g2=>⟨AF,_,rfl,.inr (QYV g2),rfl,rfl,?_⟩⟩;refine⟨_,.inr (QYV (s2 _ _ (s1 _ _ gy))),?_⟩;have BU:n<=1000000000000:=hn.2;refine⟨_,QYV (s2 _ _ (s1 _ _ gy)),_,rfl,⟨Zd,Zd,Zd⟩,?_⟩;exact q _ H2 ⟨λz=>(by have h2:(m:Int)<=1000000000000-(n:Int):=W9 z;show m+n<=1000000000000;omega),λz=>W7 (by have h2:m+n<=1000000000000:=z;show(m:Int)<=1000000000000-(n:Int);omega)⟩ (s1.trans s2)
   | move a b n=>
    refine⟨_,.inr (QYV gy),?_⟩;exact q false H (no id) sr
   | send g a n=>
    refine⟨aL rfl,λq0 H1 s1 g1=>⟨q0,_,rfl,.inr (QYV g1),rfl,rfl,?_⟩⟩;refine⟨aL rfl,λAF H2 s2 g2=>⟨AF,_,rfl,.inr (QYV g2),rfl,rfl,?_⟩⟩;refine⟨_,.inr (QYV (s2 _ _ (s1 _ _ gy))),?_⟩;have BU:n<=1000000000000:=hn.2;refine⟨_,QYV (s2 _ _ (s1 _ _ gy)),_,rfl,⟨Zd,Zd,Zd⟩,?_⟩;exact q _ H2 ⟨λz=>(by have h2:(m:Int)<=1000000000000-(n:Int):=W9 z;show m+n<=1000000000000;omega),λz=>W7 (by have h2:m+n<=1000000000000:=z;show(m:Int)<=1000000000000-(n:Int);omega)⟩ (s1.trans s2)
   | fetch g a n=>
    refine⟨aL rfl,λq0 H1 s1 g1=>⟨q0,_,rfl,.inr (QYV g1),rfl,rfl,?_⟩⟩;refine⟨_,.inr (QYV (s1 _ _ gy)),?_⟩;have hb:=b1 m rfl;refine⟨_,QYV (s1 _ _ gy),_,rfl,?_⟩;exact q _ H1 ⟨λz=>(by have h2:(m:Int)≥(n:Int):=W9 z;exact⟨Zo,hb⟩),λz=>W7 (by have h2:=z.1;show(m:Int)≥(n:Int);omega)⟩ s1
   | pass g gg a n=>
    refine⟨aL rfl,λq0 H1 s1 g1=>⟨q0,_,rfl,.inr (QYV g1),rfl,rfl,?_⟩⟩;refine⟨aL rfl,λAF H2 s2 g2=>⟨AF,_,rfl,.inr (QYV g2),rfl,rfl,?_⟩⟩;exact q false H2 (no id) (s1.trans s2)
  | is2 l m=>
   refine⟨_,QYV gy,_,rfl,?_⟩;refine⟨_,QYV gy,_,rfl,?_⟩;refine⟨_,QYV gy,_,rfl,?_⟩;refine⟨_,QYV gy,_,rfl,?_⟩
   cases x with
   | add a n=>
    refine⟨aL rfl,λq0 H1 s1 g1=>⟨q0,_,rfl,.inr (QYV g1),rfl,rfl,?_⟩⟩;refine⟨_,.inr (QYV (s1 _ _ gy)),?_⟩;exact q false H1 (no id) s1
   | take a n=>
    refine⟨aL rfl,λq0 H1 s1 g1=>⟨q0,_,rfl,.inr (QYV g1),rfl,rfl,?_⟩⟩;refine⟨aL rfl,λAF H2 s2 g2=>⟨AF,_,rfl,.inr (QYV g2),rfl,rfl,?_⟩⟩;refine⟨_,.inr (QYV (s2 _ _ (s1 _ _ gy))),?_⟩;exact q false H2 (no id) (s1.trans s2)
   | move a b n=>
    refine⟨_,.inr (QYV gy),?_⟩;have hb:=b2 l m rfl;refine⟨_,QYV gy,_,rfl,⟨Zd,Zd,Zd⟩,?_⟩;show if decide ((l:Int)<=1000000000000-(n:Int))=true then _ else _
    refine aQ (λh1=>?_) (λh1=>?_)
    ·have h1:=W9 h1;refine⟨_,QYV gy,_,rfl,?_⟩;exact q _ H ⟨λz=>(by have h2:(m:Int)≥(n:Int):=W9 z;exact⟨Zo,Zo,hb.2⟩),λz=>W7 (by have h2:=z.2.1;show(m:Int)≥(n:Int);omega)⟩ sr
    ·have h1:=W8 h1;exact q false H (no λz=>by have h2:l+n<=1000000000000:=z.1;omega) sr
   | send g a n=>
    refine⟨aL rfl,λq0 H1 s1 g1=>⟨q0,_,rfl,.inr (QYV g1),rfl,rfl,?_⟩⟩;refine⟨aL rfl,λAF H2 s2 g2=>⟨AF,_,rfl,.inr (QYV g2),rfl,rfl,?_⟩⟩;refine⟨_,.inr (QYV (s2 _ _ (s1 _ _ gy))),?_⟩;exact q false H2 (no id) (s1.trans s2)
   | fetch g a n=>
    refine⟨aL rfl,λq0 H1 s1 g1=>⟨q0,_,rfl,.inr (QYV g1),rfl,rfl,?_⟩⟩;refine⟨_,.inr (QYV (s1 _ _ gy)),?_⟩;exact q false H1 (no id) s1
   | pass g gg a n=>
    refine⟨aL rfl,λq0 H1 s1 g1=>⟨q0,_,rfl,.inr (QYV g1),rfl,rfl,?_⟩⟩;refine⟨aL rfl,λAF H2 s2 g2=>⟨AF,_,rfl,.inr (QYV g2),rfl,rfl,?_⟩⟩;exact q false H2 (no id) (s1.trans s2)
def gO{K:W.Frag}{js:List (Option Nat)}{tt:TT}{te:TE}{σ:St}{H:Hp}{Q:List V->Hp->Prop}{ra:UF}{rs:List RX}{as:List UF}(RR:RxsAt H ra rs as)(hl:rs.length<=100)(Pp:RX->Bool)(f:RX->UF->V)(ht:∀(a:UF)(r:RX)(H':Hp)(k:Bool->Hp->Prop),r∈rs->r.At H' a->Same H H'->(∀P9,Same H' P9->k (Pp r) P9)->tt ((tZ js σ).set 0 (some (.ref a))) H' k)(he:∀(a:UF)(r:RX)(H':Hp)(Q':VK),r∈rs->Pp r=true->r.At H' a->Q' (f r a) H'->te ((tZ js σ).set 0 (some (.ref a))) H' Q')(hd:∀(prs:List (RX×UF))(H':Hp),Same H H'->(∀p∈prs,p.1∈rs/\Pp p.1=true/\p.1.At H' p.2)->(∀r∈rs,Pp r=true->∃a,(r,a)∈prs)->prs.length<=rs.length->Q (prs.map λp=>f p.1 p.2) H') :
  pM js (aK 0) tt te σ (Itl K ra) H Q:=by
 have le:=RR.len;refine bT (dB K ra (as.map V.ref)) (by rw[aZ];omega) (λi ys H'=>∃prs:List (RX×UF),ys=prs.map (λp=>f p.1 p.2)/\prs.length<=i/\(∀p∈prs,p.1∈rs/\Pp p.1=true/\p.1.At H' p.2)/\(∀r∈rs.take i,Pp r=true->∃a,(r,a)∈prs)/\Same H H')
  (λi ys H' ⟨prs,e,l',_,_,s'⟩=>⟨QYU (s' _ _ RR.lst),by rw[e,aZ];exact l'⟩) ⟨[],rfl,bQ _,(λ_ h=>nomatch h),(λ_ h=>by simp at h),Same.refl _⟩ (λi x ys H' hx ⟨prs,e,l',h1,h2,s'⟩=>?_) (λys H' ⟨prs,e,l',h1,h2,s'⟩=>?_)
 ·obtain⟨a,r,rfl,ha,C8,j7⟩:=(RR.same s').get hx;have hm:=jW C8;have um:rs.take (i+1)=rs.take i++[r]:=cE C8;refine ht a r H' _ hm j7 s' λP9 tm=>?_;have M6:∀p∈prs,p.1∈rs/\Pp p.1=true/\p.1.At P9 p.2:=λp hp=>⟨(h1 p hp).1,(h1 p hp).2.1,(h1 p hp).2.2.tk tm.tk⟩
  cases hp:Pp r with
  | true=>
   refine he a r P9 _ hm hp (j7.tk tm.tk) ⟨prs++[(r,a)],by rw[e,iB];rfl,by simp;omega,λp zq=>?_,λr' Y1 CY=>?_,s'.trans tm⟩
   ·rcases aH zq with zq|rfl
    ·exact M6 p zq
    ·exact⟨hm,hp,j7.tk tm.tk⟩
   ·rw[um]at Y1;rcases aH Y1 with Y1|rfl
    ·obtain⟨a',ha'⟩:=h2 r' Y1 CY;exact⟨a',QZX _ ha'⟩
    ·exact⟨a,QZW _ jI⟩
  | false=>
   refine⟨prs,e,Zo,M6,λr' Y1 CY=>?_,s'.trans tm⟩;rw[um]at Y1;rcases aH Y1 with Y1|rfl
   ·exact h2 r' Y1 CY
   ·rw[hp]at CY;cases CY
 ·rw[aZ,<- le,vQ (bQ _)]at h2;rw[aZ,<- le]at l';rw[e];exact hd prs H' s' h1 h2 l'
def iY{rs:List RX}{Pp:RX->Bool}{prs:List (RX×UF)}{H:Hp}(h1:∀p∈prs,p.1∈rs/\Pp p.1=true/\p.1.At H p.2)(h2:∀r∈rs,Pp r=true->∃a,(r,a)∈prs):prs=[]↔∀r∈rs,Pp r=false:=by
 constructor
 ·intro e r hr;cases hp:Pp r with
  | false=>rfl
  | true=>obtain⟨a,ha⟩:=h2 r hr hp;rw[e]at ha;cases ha
 ·intro h;cases prs with
  | nil=>rfl
  | cons p prs=>have:=h1 p jI;rw[h _ this.1]at this;cases this.2.1
def cQ{α:Type}{l:List α}{f:α->V}:(l.map f).isEmpty=true↔l=[]:=by cases l<;>simp
def zW{ps:List RX}(h:RX.Whole ps){n t:Nat}(hm:.next n t∈ps):ps[0]?=some (.next n t):=by
 obtain⟨i,hi,e⟩:=getElem_of_mem hm;have e':ps[i]?=some (.next n t):=by rw[gZ hi,e]
 have:=(mE h e').2;have h0:ps.take i=[]:=this;have:i=0:=by
  have:=congrArg length h0;rw[jD,length_nil]at this;omega
 subst this;exact e'
def sV:RX->Bool|.came _ _ _ _ _=>true|.asked _=>true|.done _ _ _=>true|_=>false
def Md(r:RX):gT (.str (bH r)) [.str "came",.str "asked",.str "done"]=sV r:=by cases r<;>rfl
def qN(r:RX):sV r=false↔r.rank<=2:=by cases r<;>simp[sV,RX.rank]
def Ya:RX->Bool|.next _ _=>true|.has _ _=>true|.kept _ _ _ _ _ _=>true|_=>false
def Ch:Sp:=λvs H Q _=>∃(b la:UF)(r:RX)(ps:List RX)(as:List UF),vs=[.ref b,.ref la]/\r.At H b/\RxsAt H la ps as/\RX.Whole ps/\ps.length<=60/\Ya r=true/\cI r/\∀(fb:Bool)(H':Hp),(fb=true↔RX.Fits ps r)->Same H H'->Q (.bl fb) H'
def vH(T:Txt K mg)(D:DefAt K mg "_law_head_good" bS QZK):aG P w K mg base 1 "_law_head_good" QZK Ch:=by
 refine D.go nN (λvs H Q E h=>?_) (λf cdv A outer s H vs Q E hr h=>?_)
 ·obtain⟨b,la,r,ps,as,rfl,_⟩:=h;rfl
 ·obtain⟨b,la,r,ps,as,rfl,j7,RR,hw,hl,hh,hf,q⟩:=h;have hu:=hr.units0;have le:=RR.len;obtain⟨xs,g,x0,x1,x2⟩:=bO j7;refine⟨_,(lv (re (nw rq (li (mi (K:=K)) (kq 0) lc) mh) (mj (ms (sq (P4 (K:=K) hu) (kq 1) (sw lf)))) rp) (lv (re (ve (wp (nw (P4 (K:=K) hu) (kq 1) (sw lf)) (wp (nw IN (li (mi (K:=K)) (li (sj (K:=K)) (kq 1) lc) lc) mh) (xw (nw (R.fk (K:=K) hu) (vm rfl (js:=[none]) (N:=QZu) (CompScope.by (aB bS) QZK rfl rfl Zk) (aP rfl) (wf (K:=K) (kq 1)) (λC s₂ H₂ fp=>⟨(sx (i:=0) (show(QZu:List Str).Nodup by decide +kernel)),(wv (nw (tz (K:=K)) (li (mi (K:=K)) (kq 0) lc) (pi (kt mh (kt mh (kt mh lf)))))),(kq 0)⟩)) (sw lf)))))) (mj (ms tj)) rp) (lv (re (nw rq (li (mi (K:=K)) (kq 0) lc) mh) (mj (ms (sq (P4 (K:=K) hu) (vm rfl (js:=[none,some 0]) (N:=QZL) (CompScope.by (aB bS) QZK rfl rfl Zk) (aP rfl) (wf (K:=K) (kq 1)) (λC s₂ H₂ fp=>⟨(sx (i:=0) (show(QZL:List Str).Nodup by decide +kernel)),(wv (ve (wp (nw rq (li (mi (K:=K)) (kq 0) lc) mh) (xw (ve (xo (nw rq (li (mi (K:=K)) (kq 0) lc) mh) (xx (nw R.ia (li (mi (K:=K)) (kq 0) lc) (li (mi (K:=K)) (kq 1) lc))))))))),(kq 0)⟩)) (sw lf)))) rp) (lv (re (nw (R.fk (K:=K) hu) (vm rfl (js:=[none,some 0]) (N:=QZL) (CompScope.by (aB bS) QZK rfl rfl Zk) (aP rfl) (wf (K:=K) (kq 1)) (λC s₂ H₂ fp=>⟨(sx (i:=0) (show(QZL:List Str).Nodup by decide +kernel)),(wv (ve (xo (nw rq (li (mi (K:=K)) (kq 0) lc) mh) (xx (nw R.ia (li (mi (K:=K)) (kq 0) lc) (li (mi (K:=K)) (kq 1) lc)))))),(kq 0)⟩)) (sw lf)) (mj (ms tj)) rp) (mj (ms (u8 (sq xz (li (mi (K:=K)) (kq 0) lc) (li (mi (K:=K)) (li (sj (K:=K)) (kq 1) lc) lc)) (tf (sq yy (li (mi (K:=K)) (kq 0) lc) (li (mi (K:=K)) (li (sj (K:=K)) (kq 1) lc) lc)))))))))),?_⟩;refine jS (λv H'=>H'=H/\(v=true↔∃n t,r=.next n t)) (λkk lj=>⟨_,QYV g,_,x0,lj _ _ ⟨rfl,?_⟩⟩) ?_ ?_
  ·constructor
   ·intro h;exact lY (W9 h)
   ·rintro⟨n,t,rfl⟩;rfl
  ·rintro _ ⟨rfl,h⟩;obtain⟨n,t,rfl⟩:=h.mp rfl;refine⟨eK rfl,λp hp=>⟨la,p,_,rfl,rfl,QYU (aN RR.lst hp),QYU aA,?_⟩⟩;refine q _ _ ?_ (aF hp);show(as.map V.ref).isEmpty=true↔ps=[];rw[cQ];constructor
   ·intro e;rw[e]at le;exact List.eq_nil_of_length_eq_zero le
   ·intro e;rw[e]at le;exact List.eq_nil_of_length_eq_zero le.symm
  rintro G ⟨rfl,OD⟩;have OD:∀n t,r≠.next n t:=λn t e=>by have:=OD.mpr ⟨n,t,e⟩;cases this
  dsimp only [kP];refine jS (λv H'=>Same G H'/\(v=false->∃n t,ps[0]?=some (.next n t)/\∀q∈ps,q.rank<=2)/\(v=true->¬ ((∃n t,.next n t∈ps)/\∀q∈ps,q.rank<=2))) (λkk lj=>?_) ?_ ?_
  ·refine⟨eK rfl,λp hp=>⟨la,p,_,rfl,rfl,QYU (aN RR.lst hp),QYU aA,?_⟩⟩;have s1:=aF (o:=.lst []) hp;generalize aI G p (.lst [])=H1 at s1 ⊢;cases RI:ps with
   | nil=>
    subst RI;have:as=[]:=List.eq_nil_of_length_eq_zero le.symm;subst this;exact lj _ _ ⟨s1,nofun,λ_ z=>by obtain⟨⟨n,t,hm⟩,_⟩:=z;cases hm⟩
   | cons p0 pr=>
    have hv:(as.map V.ref)[0]?=some (.ref (as[0]'(by rw[<- le,RI];simp))):=by rw[jC,gZ];rfl
    obtain⟨a0,r0,ea,_,MC,Q9⟩:=(RR.same s1).get hv;rw[ea]at hv;obtain⟨xs0,g0,y0,y1,y2⟩:=bO Q9;have ne:(as.map V.ref).isEmpty=false:=by cases as with|nil=>rw[RI]at le;cases le|cons _ _=>rfl
    show if (as.map V.ref).isEmpty=true then _ else _
    rw[ne];refine⟨_,QYU (RR.same s1).lst,.ref a0,bJ hv,_,QYV g0,_,y0,?_⟩;show if (!decide (bH r0="next"))=true then _ else _
    refine aQ (λh=>?_) (λh=>?_)
    ·refine lj _ _ ⟨s1,nofun,λ_ z=>?_⟩;obtain⟨⟨n,t,hm⟩,_⟩:=z;have:=zW hw hm;rw[MC]at this;cases this;simp[bH]at h
    ·obtain⟨n,t,rfl⟩:=lY (r:=r0) (by simpa using h);refine⟨la,rfl,⟨_,QYU (RR.same s1).lst⟩,?_⟩;refine gO (RR.same s1) Zo sV (λ_ a=>.ref a) (λa1 r1 H' k1 vp m4 s' wt=>?_) (λa1 r1 H' Q' _ _ _ h'=>h') (λprs H' s' h1 h2 l'=>?_)
     ·obtain⟨DE,g1,z0,_,_⟩:=bO m4;refine⟨_,QYV g1,_,z0,aL rfl,λtp H4 s4 g4=>⟨tp,_,rfl,.inr (QYV g4),rfl,rfl,?_⟩⟩;have:=wt H4 s4;rw[<- Md]at this;exact this
     ·intro p2 m5;have s2:=aF (o:=.lst (prs.map λp=>V.ref p.2)) m5;have g2:(aI H' p2 (.lst (prs.map λp=>V.ref p.2))) p2=_:=aA;generalize aI H' p2 (.lst (prs.map λp=>V.ref p.2))=H5 at s2 g2 ⊢;refine⟨eK rfl,λp3 C9=>⟨p2,p3,_,rfl,rfl,QYU (aN g2 C9),QYU aA,?_⟩⟩;have uk:=iY h1 h2;refine lj _ _ ⟨((s1.trans s').trans s2).trans (aF C9),λz=>⟨n,t,MC,λq hq=>?_⟩,λz zz=>?_⟩
      ·have e:(prs.map λp=>V.ref p.2).isEmpty=true:=by simpa using z
       exact(qN q).mp (uk.mp (cQ.mp e) q hq)
      ·have e:(prs.map λp=>V.ref p.2).isEmpty=false:=by simpa using z
       have:=(cQ (f:=λp:RX×Addr=>V.ref p.2)).mpr (uk.mpr λr hr=>(qN r).mpr (zz.2 r hr));rw[e]at this;cases this
  ·rintro H1 ⟨s1,_,hv⟩;refine q false H1 ⟨nofun,λz=>?_⟩ s1;refine QZZ ?_ (hv rfl)
   cases r with
   | next n t=>exact QZZ rfl (OD n t)
   | has z' m=>exact⟨z.2.1,λq hq=>Nat.le_succ_of_le (z.1 q hq)⟩
   | kept n t p k x y=>exact⟨by obtain⟨n0,t0,h0,_⟩:=z.2.1;exact⟨n0,t0,h0⟩,z.1⟩
   | _=>cases hh
  rintro H1 ⟨s1,hv,_⟩;obtain⟨n0,t0,IW,EK⟩:=hv rfl;have yg:.next n0 t0∈ps:=jW IW;dsimp only [kP];have R1:=RR.same s1;have m4:=j7.tk s1.tk;obtain⟨ys,g',NR,FW,wj⟩:=bO m4;refine jS (λv H'=>H'=H1/\(v=true↔oG r=true)) (λkk lj=>⟨_,QYV g',_,NR,lj _ _ ⟨rfl,?_⟩⟩) ?_ ?_
  ·cases r<;>exact Iff.rfl
  ·rintro _ ⟨rfl,hv⟩;obtain⟨z,m,rfl⟩:∃z m,r=.has z m:=by have:=hv.mp rfl;cases r<;>first|exact⟨_,_,rfl⟩|cases this
   refine⟨la,rfl,⟨_,QYU R1.lst⟩,?_⟩;refine gO R1 Zo (λr=>match r with|.kept _ _ _ _ _ _=>true|.has z' _=>!decide (z'.cps.toList<z.cps.toList)|_=>false) (λ_ a=>.ref a) (λa1 r1 H' k1 vp AG s' wt=>?_) (λa1 r1 H' Q' _ _ _ h'=>h') (λprs H' s' h1 h2 l'=>?_)
   ·obtain⟨DE,g1,z0,z1,_⟩:=bO AG;have hk:=wt H' (Same.refl _);refine⟨_,QYV g1,_,z0,?_⟩
    cases r1 with
    | kept n t p k x y=>exact hk
    | has z' m'=>exact⟨_,QYV g1,_,z0,_,QYV g1,_,z1,_,QYV (s' _ _ g'),_,FW,hk⟩
    | next n t=>exact⟨_,QYV g1,_,z0,hk⟩
    | came n t p k x=>exact⟨_,QYV g1,_,z0,hk⟩
    | asked n=>exact⟨_,QYV g1,_,z0,hk⟩
    | done n t y=>exact⟨_,QYV g1,_,z0,hk⟩
   ·intro p2 m5;have s2:=aF (o:=.lst (prs.map λp=>V.ref p.2)) m5;have g2:(aI H' p2 (.lst (prs.map λp=>V.ref p.2))) p2=_:=aA;generalize aI H' p2 (.lst (prs.map λp=>V.ref p.2))=H5 at s2 g2 ⊢;refine⟨eK rfl,λp3 C9=>⟨p2,p3,_,rfl,rfl,QYU (aN g2 C9),QYU aA,?_⟩⟩;have uk:=iY h1 h2;refine q _ _ ?_ (((s1.trans s').trans s2).trans (aF C9));show(prs.map λp=>V.ref p.2).isEmpty=true↔_;rw[cQ,uk];constructor
    ·intro hz;refine⟨λq hq=>?_,⟨n0,t0,yg⟩,λz' m' B6=>?_⟩
     ·have:=hz q hq;have:=EK q hq;cases q<;>first|exact QZY rfl|(exact QZZ this Zd)|contradiction
     ·have:=hz _ B6;simpa using this
    ·intro hz r1 JA;cases r1 with
     | kept n t p k x y=>exact QZZ (hz.1 _ JA) (by show ¬ (2<=1);decide)
     | has z' m'=>have:=hz.2.2 _ _ JA;simpa using this
     | _=>rfl
  ·rintro _ ⟨rfl,hv⟩;obtain⟨n,t,p,k,x,y,rfl⟩:∃n t p k x y,r=.kept n t p k x y:=by
    cases r with
    | kept n t p k x y=>exact⟨_,_,_,_,_,_,rfl⟩
    | next n t=>exact QZZ rfl (OD n t)
    | has z m=>have:=hv.mpr rfl;cases this
    | _=>cases hh
   dsimp only [kP];refine jS (λv H'=>Same G H'/\(v=false↔∀n' t' p' k' x' y',.kept n' t' p' k' x' y'∈ps->n'<n)) (λkk lj=>?_) ?_ ?_
   ·refine⟨la,rfl,⟨_,QYU R1.lst⟩,?_⟩;refine gO R1 Zo (λr=>match r with|.kept n' _ _ _ _ _=>decide ((n:Int)<=(n':Int))|_=>false) (λ_ a=>.ref a) (λa1 r1 H' k1 vp AG s' wt=>?_) (λa1 r1 H' Q' _ _ _ h'=>h') (λprs H' s' h1 h2 l'=>?_)
    ·obtain⟨DE,g1,z0,z1,_⟩:=bO AG;have hk:=wt H' (Same.refl _);refine⟨_,QYV g1,_,z0,?_⟩
     cases r1 with
     | kept n' t' p' k' x' y'=>exact⟨_,QYV g1,_,z1,_,QYV (s' _ _ g'),_,FW,hk⟩
     | _=>exact hk
    ·intro p2 m5;have s2:=aF (o:=.lst (prs.map λp=>V.ref p.2)) m5;have g2:(aI H' p2 (.lst (prs.map λp=>V.ref p.2))) p2=_:=aA;generalize aI H' p2 (.lst (prs.map λp=>V.ref p.2))=H5 at s2 g2 ⊢;refine⟨eK rfl,λp3 C9=>⟨p2,p3,_,rfl,rfl,QYU (aN g2 C9),QYU aA,?_⟩⟩;have uk:=iY h1 h2;refine lj _ _ ⟨((s1.trans s').trans s2).trans (aF C9),?_⟩;show(!(prs.map λp=>V.ref p.2).isEmpty)=false↔_;rw[Bool.not_eq_false',cQ,uk];constructor
     ·intro hz n' t' p' k' x' y' B6;have:=W8 (hz _ B6);omega
     ·intro hz r1 JA;cases r1 with
      | kept n' t' p' k' x' y'=>exact W6 (by have:=hz _ _ _ _ _ _ JA;omega)
      | _=>rfl
   ·rintro H2 ⟨s2,hv⟩;refine q false H2 ⟨nofun,λz=>?_⟩ s2;have:=hv.mpr z.2.2.1;cases this
   rintro H2 ⟨s2,hv⟩;dsimp only [kP];have zy:=hv.mp rfl;have R2:=RR.same s2;obtain⟨ys2,g2,w0,w1,w2⟩:=bO (j7.tk s2.tk);have OE:(as.map V.ref)[0]?=some (.ref (as[0]'(by have:=(Zgs.mp IW).1;omega))):=by rw[jC,gZ];rfl
   obtain⟨a0,r0,ea,_,MC,Q9⟩:=R2.get OE;rw[IW]at MC;cases MC;rw[ea]at OE;refine⟨_,QYV g2,_,w1,_,QYU R2.lst,.ref a0,bJ OE,_,QYV Q9,_,rfl,?_⟩;refine aQ (λh=>?_) (λh=>?_)
   ·refine⟨_,QYV g2,_,w2 nofun,_,QYU R2.lst,.ref a0,bJ OE,_,QYV Q9,_,rfl,?_⟩;refine q _ H2 ⟨λz=>⟨EK,⟨n0,t0,yg,?_,?_⟩,zy,hf.2⟩,λz=>?_⟩ s2
    ·have:=W9 h;omega
    ·have:=W9 z;omega
    ·obtain⟨n1,t1,vp,h3,h4⟩:=z.2.1;obtain⟨rfl,rfl⟩:=kJ hw vp yg;exact W7 Zo
   ·refine q false H2 ⟨nofun,λz=>?_⟩ s2;obtain⟨n1,t1,vp,h3,h4⟩:=z.2.1;obtain⟨rfl,rfl⟩:=kJ hw vp yg;exact QZZ (W8 h) Zo
def Me(ps:List RX):RX->Prop
 | .came n _ _ _ _=>(∀n' t' p' k' d',.came n' t' p' k' d'∈ps->n'<n)/\(∀t' p' k' d' y',.kept n t' p' k' d' y'∉ps)
 | .done n _ y=>(∀t y,.done n t y∉ps)/\∃t0 p k d,.came n t0 p k d∈ps/\An.Of d y/\(d.far=true->(.asked n∈ps↔y.early=false))
 | r=>RX.Fits ps r
def mG{ps:List RX}{r:RX}:RX.Fits ps r↔Me ps r/\(kS r=true->∀q∈ps,q.turn<=r.turn):=by
 cases r with
 | came n t p k x=>exact⟨λh=>⟨⟨h.1,h.2.1⟩,λ_=>h.2.2⟩,λh=>⟨h.1.1,h.1.2,h.2 rfl⟩⟩
 | done n t y=>exact⟨λh=>⟨⟨h.2.1,h.2.2⟩,λ_=>h.1⟩,λh=>⟨h.2 rfl,h.1.1,h.1.2⟩⟩
 | next n t=>exact⟨λh=>⟨h,λ_ q hq=>by rw[show ps=[] from h]at hq;cases hq⟩,λh=>h.1⟩
 | has z m=>exact⟨λh=>⟨h,nofun⟩,λh=>h.1⟩
 | kept n t p k x y=>exact⟨λh=>⟨h,nofun⟩,λh=>h.1⟩
 | asked n=>exact⟨λh=>⟨h,nofun⟩,λh=>h.1⟩
def dA:RX->Nat|.next n _=>n|.has _ _=>0|.kept n _ _ _ _ _=>n|.came n _ _ _ _=>n|.asked n=>n|.done n _ _=>n
def qO{r:RX}(h:oG r=false):Kx r=.int (dA r:Int):=by cases r<;>first|rfl|cases h
def Mf:RX->Bool|.came _ _ _ _ _=>true|.kept _ _ _ _ _ _=>true|_=>false
def Yb:RX->Bool|.came _ _ _ _ _=>true|_=>false
def Mg:RX->Bool|.asked _=>true|.done _ _ _=>true|_=>false
def Rj(r:RX):gT (.str (bH r)) [.str "came",.str "kept"]=Mf r:=by cases r<;>rfl
def Rk(r:RX):gT (.str (bH r)) [.str "asked",.str "done"]=Mg r:=by cases r<;>rfl
def vI(r:RX):decide (bH r="came")=Yb r:=by cases r<;>rfl
def Ci:Sp:=λvs H Q _=>∃(b la:UF)(r:RX)(ps:List RX)(as:List UF),vs=[.ref b,.ref la]/\r.At H b/\RxsAt H la ps as/\RX.Whole ps/\(∀q∈ps,cI q)/\ps.length<=60/\sV r=true/\cI r/\∀(fb:Bool)(H':Hp),(fb=true↔Me ps r)->Same H H'->Q (.bl fb) H'
def vJ(T:Txt K mg)(GG:aG P w K mg base 1 "_law_fits" QZf Cg)(D:DefAt K mg "_law_body_good" bI QZK):aG P w K mg base 2 "_law_body_good" QZK Ci:=by
 refine D.go bW (λvs H Q E h=>?_) (λf cdv A outer s H vs Q E hr h=>?_)
 ·obtain⟨b,la,r,ps,as,rfl,_⟩:=h;rfl
 ·obtain⟨b,la,r,ps,as,rfl,j7,RR,hw,NU,hl,hh,hf,q⟩:=h;have hu:=hr.units0;have GH:Room 1 _:=hr;have le:=RR.len;obtain⟨xs,g,x0,x1,x2⟩:=bO j7;have hnh:oG r=false:=by cases r<;>first|rfl|cases hh
  rw[qO hnh]at x1;refine⟨_,(lv (re (nw rq (li (mi (K:=K)) (kq 0) lc) mh) (lv (R.eh (i:=2) bW.nd rfl (Or.inl rfl) rfl (js:=[none,some 0]) (N:=QZL) (CompScope.by (aB bI) QZp rfl rfl Zk) (aP rfl) (wf (K:=K) (kq 1)) (λC s₂ H₂ fp=>⟨(sx (i:=0) (show(QZL:List Str).Nodup by decide +kernel)),(wv (ve (xo (nw (tz (K:=K)) (li (mi (K:=K)) (kq 0) lc) (pi (kt mh (kt mh lf)))) (xx (nw rq (li (mi (K:=K)) (kq 0) lc) (li (mi (K:=K)) (kq 1) lc)))))),(kq 0)⟩) rfl) (mj (ms (u8 (sq (P4 (K:=K) hu) (kq 2) (sw lf)) (tf (sq (P4 (K:=K) hu) (vm rfl (js:=[none,some 0]) (N:=QZL) (CompScope.by (aB bI) QZp rfl rfl Zk) (aP rfl) (wf (K:=K) (kq 1)) (λC s₂ H₂ fp=>⟨(sx (i:=0) (show(QZL:List Str).Nodup by decide +kernel)),(wv (ve (xo (nw rq (li (mi (K:=K)) (kq 0) lc) mh) (xx (nw R.gt (li (mi (K:=K)) (kq 0) lc) (li (mi (K:=K)) (kq 1) lc)))))),(kq 0)⟩)) (sw lf))))))) rp) (lv (R.eh (i:=3) bW.nd rfl (Or.inl rfl) rfl (js:=[none,some 0]) (N:=QZL) (CompScope.by (aB bI) QZp rfl rfl Zk) (aP rfl) (wf (K:=K) (kq 1)) (λC s₂ H₂ fp=>⟨(sx (i:=0) (show(QZL:List Str).Nodup by decide +kernel)),(wv (ve (xo (nw rq (li (mi (K:=K)) (kq 0) lc) mh) (xx (nw rq (li (mi (K:=K)) (kq 0) lc) (li (mi (K:=K)) (kq 1) lc)))))),(kq 0)⟩) rfl) (lv (R.eh (i:=4) bW.nd rfl (Or.inl rfl) rfl (js:=[none,some 0]) (N:=QZL) (CompScope.by (aB bI) QZp rfl rfl Zk) (aP rfl) (wf (K:=K) (kq 1)) (λC s₂ H₂ fp=>⟨(sx (i:=0) (show(QZL:List Str).Nodup by decide +kernel)),(wv (ve (xo (nw (tz (K:=K)) (li (mi (K:=K)) (kq 0) lc) (pi (kt mh (kt mh lf)))) (xx (nw rq (li (mi (K:=K)) (kq 0) lc) (li (mi (K:=K)) (kq 1) lc)))))),(li (mi (K:=K)) (kq 0) lc)⟩) rfl) (lv (re (ve (wp (nw (P4 (K:=K) hu) (kq 3) (sw lf)) (xw (nw (tz (K:=K)) mh (kq 4))))) (mj (ms tj)) rp) (lv (o0 (i:=5) bW.nd (li (mi (K:=K)) (li (sj (K:=K)) (kq 3) lc) lc)) (lv (o0 (i:=6) bW.nd (sq (tz (K:=K)) (li (mi (K:=K)) (kq 5) lc) (pi (kt mh (kt mh (kt mh lf)))))) (lv (re (nw rq (li (mi (K:=K)) (kq 0) lc) mh) (mj (ms (u8 (sq (P4 (K:=K) hu) (kq 4) (sw lf)) (tf (kq 6))))) rp) (mj (ms (u8 (mk GG GH rfl (kt (kq 5) (kt (li (mi (K:=K)) (kq 0) lc) lf))) (tf (R.or (R.ie (kq 6)) (tf (sq IN (sq (tz (K:=K)) mh (kq 4)) (sq (tz (K:=K)) (li (mi (K:=K)) (li (mi (K:=K)) (kq 0) lc) lc) (pi (kt mh (kt mh lf)))))))))))))))))),?_⟩;refine jS (λv H'=>H'=H/\v=Yb r) (λkk lj=>⟨_,QYV g,_,x0,lj _ _ ⟨rfl,vI r⟩⟩) ?_ ?_
  ·rintro G ⟨e,hv⟩;obtain rfl:H=G:=e.symm;obtain⟨n,t,p,k,x,rfl⟩:∃n t p k x,r=.came n t p k x:=by cases r<;>first|exact⟨_,_,_,_,_,rfl⟩|cases hv
   refine bK (λσ' H'=>∃(l:UF)(zs:List V),σ'=[some (.ref b),some (.ref la),some (.ref l),none,none,none,none]/\H' l=some (.lst zs)/\(zs.isEmpty=true↔∀q∈ps,Mf q=true->dA q≠n)/\Same H H') (λnx d7=>?_) ?_
   ·refine⟨la,rfl,⟨_,QYU RR.lst⟩,?_⟩;refine gO RR Zo (λr=>Mf r&&decide ((dA r:Int)=(n:Int))) (λ_ a=>.ref a) (λa1 r1 H' k1 vp m4 s' wt=>?_) (λa1 r1 H' Q' _ _ _ h'=>h') (λprs H' s' h1 h2 l'=>?_)
    ·obtain⟨DE,g1,z0,z1,_⟩:=bO m4;refine⟨_,QYV g1,_,z0,aL rfl,λtp H4 s4 g4=>⟨tp,_,rfl,.inr (QYV g4),rfl,rfl,?_⟩⟩;have hk:=wt H4 s4;show if gT (.str (bH r1)) [.str "came",.str "kept"]=true then _ else _
     rw[Rj];refine aQ (λh=>?_) (λh=>?_)
     ·rw[qO (by cases r1<;>first|rfl|cases h)]at z1;rw[h,Bool.true_and]at hk;exact⟨_,QYV (s4 _ _ g1),_,z1,_,QYV (s4 _ _ (s' _ _ g)),_,x1,hk⟩
     ·rw[h,Bool.false_and]at hk;exact hk
    ·intro p2 m5;have uk:=iY h1 h2;refine d7 _ _ ⟨p2,_,rfl,aA,?_,s'.trans (aF m5)⟩;rw[cQ,uk];constructor
     ·intro hz q hq hc en;have:=hz q hq;rw[hc,Bool.true_and]at this;exact QZZ (W8 this) Zo
     ·intro hz q hq;show(Mf q&&decide ((dA q:Int)=(n:Int)))=false
      cases hc:Mf q with
      | false=>rfl
      | true=>exact W6 (by have:=hz q hq hc;omega)
   rintro σ' H1 ⟨l,zs,rfl,gl,hz,s1⟩;refine⟨eK rfl,λp1 ku=>⟨l,p1,_,rfl,rfl,QYU (aN gl ku),QYU aA,?_⟩⟩;have s2:=s1.trans (aF (o:=.lst []) ku);generalize aI H1 p1 (.lst [])=H2 at s2 ⊢;show if zs.isEmpty=true then _ else _
   refine aQ (λh=>?_) (λh=>?_)
   ·have hz:=hz.mp h;refine⟨la,rfl,⟨_,QYU (RR.same s2).lst⟩,?_⟩;refine gO (RR.same s2) Zo (λr=>Yb r&&decide ((n:Int)<(dA r:Int))) (λ_ a=>.ref a) (λa1 r1 H' k1 vp m4 s' wt=>?_) (λa1 r1 H' Q' _ _ _ h'=>h') (λprs H' s' h1 h2 l'=>?_)
    ·obtain⟨DE,g1,z0,z1,_⟩:=bO m4;refine⟨_,QYV g1,_,z0,?_⟩;have hk:=wt H' (Same.refl _);show if decide (bH r1="came")=true then _ else _
     rw[vI];refine aQ (λh=>?_) (λh=>?_)
     ·rw[qO (by cases r1<;>first|rfl|cases h)]at z1;rw[h,Bool.true_and]at hk;exact⟨_,QYV g1,_,z1,_,QYV (s' _ _ (s2 _ _ g)),_,x1,hk⟩
     ·rw[h,Bool.false_and]at hk;exact hk
    ·intro p2 m5;have uk:=iY h1 h2;have s3:=aF (o:=.lst (prs.map λp=>V.ref p.2)) m5;have g3:(aI H' p2 (.lst (prs.map λp=>V.ref p.2))) p2=_:=aA;generalize aI H' p2 (.lst (prs.map λp=>V.ref p.2))=H5 at s3 g3 ⊢;refine⟨eK rfl,λp3 C9=>⟨p2,p3,_,rfl,rfl,QYU (aN g3 C9),QYU aA,?_⟩⟩;refine q _ _ ?_ (((s2.trans s').trans s3).trans (aF C9));show(prs.map λp=>V.ref p.2).isEmpty=true↔_;rw[cQ,uk];constructor
     ·intro hy;refine⟨λn' t' p' k' d' B6=>?_,λt' p' k' d' y' B6=>QZZ rfl (hz _ B6 rfl)⟩;have e1:=hy _ B6;have e2:=hz _ B6 rfl;have e1:=W8 (show decide ((n:Int)<(n':Int))=false from e1);have e2:n'≠n:=e2;omega
     ·intro hy q hq;show(Yb q&&decide ((n:Int)<(dA q:Int)))=false
      cases q with
      | came n' t' p' k' d'=>exact W6 (by have:=hy.1 _ _ _ _ _ hq;show ¬ (n:Int)<(n':Int);omega)
      | _=>rfl
   ·refine q false H2 ⟨nofun,λz=>?_⟩ s2;have:zs.isEmpty=true:=hz.mpr λq1 hq hc en=>by
     subst en;cases q1 with
     | came n' t' p' k' d'=>have:=z.1 _ _ _ _ _ hq;exact lt_irrefl _ this
     | kept n' t' p' k' d' y'=>exact z.2 _ _ _ _ _ hq
     | _=>cases hc
    rw[h]at this;cases this
  rintro G ⟨e,hv⟩;obtain rfl:H=G:=e.symm;dsimp only [kP];refine bK (λσ' H'=>∃(l:UF)(prs:List (RX×UF)),σ'=[some (.ref b),some (.ref la),none,some (.ref l),none,none,none]/\H' l=some (.lst (prs.map λp=>V.ref p.2))/\(∀p∈prs,p.1∈ps/\(Yb p.1&&decide ((dA p.1:Int)=(dA r:Int)))=true/\p.1.At H' p.2)/\(prs=[]↔∀t p k x,.came (dA r) t p k x∉ps)/\Same H H') (λnx d7=>?_) ?_
  ·refine⟨la,rfl,⟨_,QYU RR.lst⟩,?_⟩;refine gO RR Zo (λr1=>Yb r1&&decide ((dA r1:Int)=(dA r:Int))) (λ_ a=>.ref a) (λa1 r1 H' k1 vp m4 s' wt=>?_) (λa1 r1 H' Q' _ _ _ h'=>h') (λprs H' s' h1 h2 l'=>?_)
   ·obtain⟨DE,g1,z0,z1,_⟩:=bO m4;refine⟨_,QYV g1,_,z0,?_⟩;have hk:=wt H' (Same.refl _);show if decide (bH r1="came")=true then _ else _
    rw[vI];refine aQ (λh=>?_) (λh=>?_)
    ·rw[qO (by cases r1<;>first|rfl|cases h)]at z1;rw[h,Bool.true_and]at hk;exact⟨_,QYV g1,_,z1,_,QYV (s' _ _ g),_,x1,hk⟩
    ·rw[h,Bool.false_and]at hk;exact hk
   ·intro p2 m5;have uk:=iY h1 h2;refine d7 _ _ ⟨p2,prs,rfl,aA,λp hp=>⟨(h1 p hp).1,(h1 p hp).2.1,(h1 p hp).2.2.tk (aF m5).tk⟩,?_,s'.trans (aF m5)⟩;rw[uk];constructor
    ·intro hz t p k x hm;have:=hz _ hm;exact QZZ rfl (W8 (show decide ((dA r:Int)=(dA r:Int))=false from this))
    ·intro hz q1 CC;show(Yb q1&&decide ((dA q1:Int)=(dA r:Int)))=false
     cases q1 with
     | came n' t' p' k' d'=>
      refine W6 λe=>?_;have e:(n':Int)=(dA r:Int):=e;have e:n'=dA r:=by omega
      subst e;exact hz _ _ _ _ CC
     | _=>rfl
  rintro σ' H1 ⟨l,prs,rfl,gl,RJ,uk,s1⟩;refine bK (λσ' H'=>∃(l4:UF)(ws:List Str),σ'=[some (.ref b),some (.ref la),none,some (.ref l),some (.ref l4),none,none]/\H' l4=some (.lst (ws.map V.str))/\(("done":Str)∈ws↔∃t y,.done (dA r) t y∈ps)/\(("asked":Str)∈ws↔.asked (dA r)∈ps)/\(ws=[]↔(.asked (dA r)∉ps/\∀t y,.done (dA r) t y∉ps))/\Same H1 H') (λnx d7=>?_) ?_
  ·have R1:=RR.same s1;refine⟨la,rfl,⟨_,QYU R1.lst⟩,?_⟩;refine gO R1 Zo (λr1=>Mg r1&&decide ((dA r1:Int)=(dA r:Int))) (λr1 _=>.str (bH r1)) (λa1 r1 H' k1 vp m4 s' wt=>?_) (λa1 r1 H' Q' _ _ m4 h'=>?_) (λDF H' s' h1 h2 l'=>?_)
   ·obtain⟨DE,g1,z0,z1,_⟩:=bO m4;refine⟨_,QYV g1,_,z0,aL rfl,λtp H4 s4 g4=>⟨tp,_,rfl,.inr (QYV g4),rfl,rfl,?_⟩⟩;have hk:=wt H4 s4;show if gT (.str (bH r1)) [.str "asked",.str "done"]=true then _ else _
    rw[Rk];refine aQ (λh=>?_) (λh=>?_)
    ·rw[qO (by cases r1<;>first|rfl|cases h)]at z1;rw[h,Bool.true_and]at hk;exact⟨_,QYV (s4 _ _ g1),_,z1,_,QYV (s4 _ _ (s' _ _ (s1 _ _ g))),_,x1,hk⟩
    ·rw[h,Bool.false_and]at hk;exact hk
   ·obtain⟨DE,g1,z0,z1,_⟩:=bO m4;exact⟨_,QYV g1,_,z0,h'⟩
   ·intro p2 m5;have bn':=iY h1 h2;have ye:∀r1∈ps,Mg r1=true->dA r1=dA r->∃a,(r1,a)∈DF:=λr1 JA ha hn=>h2 r1 JA (by show(Mg r1&&decide ((dA r1:Int)=(dA r:Int)))=true;rw[ha,hn];simp)
    have RK:∀p∈DF,p.1∈ps/\Mg p.1=true/\dA p.1=dA r:=λp hp=>by
     have:=(h1 p hp).2.1;have h3:=(Bool.and_eq_true_iff.mp this).2;refine⟨(h1 p hp).1,(Bool.and_eq_true_iff.mp this).1,?_⟩;have:=W9 h3;omega
    refine d7 _ _ ⟨p2,DF.map λp=>bH p.1,rfl,by rw[aA,map_map];rfl,?_,?_,?_,s'.trans (aF m5)⟩
    ·constructor
     ·intro hm;obtain⟨⟨r1,a1⟩,hp,e⟩:=Zmm.mp hm;obtain⟨h3,h4,h5⟩:=RK _ hp;obtain⟨n,t,y,rfl⟩:=Bv (r:=r1) e;rw[<- show n=dA r from h5];exact⟨t,y,h3⟩
     ·rintro⟨t,y,hm⟩;obtain⟨a1,hp⟩:=ye _ hm rfl rfl;exact Zmm.mpr ⟨_,hp,rfl⟩
    ·constructor
     ·intro hm;obtain⟨⟨r1,a1⟩,hp,e⟩:=Zmm.mp hm;obtain⟨h3,h4,h5⟩:=RK _ hp
      cases r1 with
      | asked n=>rw[<- show n=dA r from h5];exact h3
      | done n t y=>exact QZZ (show("done":Str)="asked" from e) Zk
      | _=>cases h4
     ·intro hm;obtain⟨a1,hp⟩:=ye _ hm rfl rfl;exact Zmm.mpr ⟨_,hp,rfl⟩
    ·rw[List.map_eq_nil_iff];constructor
     ·intro e;refine⟨λhm=>?_,λt y hm=>?_⟩
      ·obtain⟨a1,hp⟩:=ye _ hm rfl rfl;rw[e]at hp;cases hp
      ·obtain⟨a1,hp⟩:=ye _ hm rfl rfl;rw[e]at hp;cases hp
     ·intro hz;cases DF with
      | nil=>rfl
      | cons p pr=>
       obtain⟨h3,h4,h5⟩:=RK p jI;obtain⟨r1,a1⟩:=p
       cases r1 with
       | asked n=>rw[show n=dA r from h5]at h3;exact QZZ h3 hz.1
       | done n t y=>rw[show n=dA r from h5]at h3;exact QZZ h3 (hz.2 _ _)
       | _=>cases h4
  rintro σ' H2 ⟨l4,ws,rfl,RL,XJ,has,XR,s2⟩;have zi:=s1.trans s2;have RM:∀z:Str,gT (.str z) (ws.map V.str)=decide (z∈ws):=λz=>by rw[Bg]
  refine jS (λv H'=>Same H2 H'/\(v=false->prs≠[]/\∀t y,.done (dA r) t y∉ps)/\(v=true->prs=[]∨∃t y,.done (dA r) t y∈ps)) (λkk lj=>?_) ?_ ?_
  ·refine⟨eK rfl,λp1 ku=>⟨l,p1,_,rfl,rfl,QYU (aN (s2 _ _ gl) ku),QYU aA,?_⟩⟩;have s3:=aF (o:=.lst []) ku;generalize aI H2 p1 (.lst [])=H3 at s3 ⊢;show if (prs.map λp=>V.ref p.2).isEmpty=true then _ else _
   refine aQ (λh=>?_) (λh=>?_)
   ·exact lj _ _ ⟨s3,nofun,λ_=>.inl (cQ.mp h)⟩
   ·refine⟨l4,_,rfl,.inl (QYU (s3 _ _ RL)),rfl,nE _,?_⟩;refine lj _ _ ⟨s3,λz=>⟨λe=>?_,λt y hm=>?_⟩,λz=>.inr ?_⟩
    ·have:=(cQ (f:=λp:RX×Addr=>V.ref p.2)).mpr e;rw[h]at this;cases this
    ·have z:gT (.str "done") (ws.map V.str)=false:=z;rw[RM]at z;exact QZZ (XJ.mpr ⟨t,y,hm⟩) (W8 z)
    ·have z:gT (.str "done") (ws.map V.str)=true:=z;rw[RM]at z;exact XJ.mp (W9 z)
  ·rintro H3 ⟨s3,_,RN⟩;refine q false H3 ⟨nofun,λz=>?_⟩ (zi.trans s3);rcases RN rfl with e|⟨t,y,hm⟩
   ·have:=uk.mp e
    cases r with
    | asked n=>obtain⟨⟨t,p,k,d,hm,_⟩,_⟩:=z;exact QZZ hm (this _ _ _ _)
    | done n t y=>obtain⟨_,t0,p,k,d,hm,_⟩:=z;exact QZZ hm (this _ _ _ _)
    | came n t p k x=>cases hv
    | _=>cases hh
   ·cases r with
    | asked n=>exact QZZ hm (z.2.2 _ _)
    | done n t' y'=>exact QZZ hm (z.1 _ _)
    | came n t p k x=>cases hv
    | _=>cases hh
  rintro H3 ⟨s3,RN,_⟩;obtain⟨RO,KY⟩:=RN rfl;dsimp only [kP];have DB:=zi.trans s3;obtain⟨⟨r0,a0⟩,pr,rfl⟩:∃p pr,prs=p::pr:=by cases prs with|nil=>exact QZZ rfl RO|cons p pr=>exact⟨p,pr,rfl⟩
  obtain⟨yg,XU,Q9⟩:=RJ _ jI;have hc1:=(Bool.and_eq_true_iff.mp XU).1;have EV:=W9 (Bool.and_eq_true_iff.mp XU).2;obtain⟨n0,t0,p0,k0,x,rfl⟩:∃n t p k x,r0=.came n t p k x:=by cases r0<;>first|exact⟨_,_,_,_,_,rfl⟩|cases hc1
  have en:n0=dA r:=by have:(n0:Int)=(dA r:Int):=EV;omega
  have hx:x.Ok:=NU _ yg;obtain⟨bd,gr0,gd0⟩:=id Q9;have XX:=s2.trans s3;have gr:=XX _ _ gr0;have gd:=XX _ _ gd0;refine⟨_,QYU (s3 _ _ (s2 _ _ gl)),.ref a0,bJ (j:=0) rfl,_,QYV gr,_,rfl,?_⟩;dsimp only [aK];refine⟨_,QYV gd,_,xF x,aL rfl,λtp H4 s4 g4=>⟨tp,_,rfl,.inr (QYV g4),rfl,rfl,?_⟩⟩;have MD:gT (.str x.wd) [.str "send",.str "fetch",.str "pass"]=x.far:=Bs x;dsimp only [aK];have vz:=DB.trans s4;obtain⟨ys,g',NR,FW,wj⟩:=bO (j7.tk vz.tk);have uniq:∀ {t p k d},.came n0 t p k d∈ps->d=x:=λhm=>by have:=fV hw hm yg;cases this;rfl
  refine⟨_,QYV g',_,NR,?_⟩
  cases r with
  | asked n=>
   obtain rfl:n0=n:=en;refine⟨eK rfl,λp1 ku=>⟨l4,p1,_,rfl,rfl,QYU (aN (s4 _ _ (s3 _ _ RL)) ku),QYU aA,?_⟩⟩;have s5:=vz.trans (aF (o:=.lst []) ku);generalize aI H4 p1 (.lst [])=H5 at s5 ⊢;show if (ws.map V.str).isEmpty=true then _ else _
   have XY:(ws.map V.str).isEmpty=true↔ws=[]:=cQ;refine aQ (λh=>?_) (λh=>?_)
   ·have hz:=XR.mp (XY.mp h);refine q _ H5 ?_ s5;show gT (.str x.wd) [.str "send",.str "fetch",.str "pass"]=true↔_;rw[MD];exact⟨λz=>⟨⟨t0,p0,k0,x,yg,z⟩,hz.1,hz.2⟩,λz=>by obtain⟨⟨t,p,k,d,hm,XZ⟩,_⟩:=z;rw[uniq hm]at XZ;exact XZ⟩
   ·refine q false H5 ⟨nofun,λz=>?_⟩ s5;have:=XY.mpr (XR.mpr ⟨z.2.1,KY⟩);rw[h]at this;cases this
  | done n t y=>
   obtain rfl:n0=n:=en;obtain⟨cy,YA,YB⟩:=j7.tk vz.tk;refine⟨_,QYV YA,_,rfl,bd,cy,x,y,rfl,s4 _ _ gd,YB,hx,hf,λfb H5 Y0 s5=>?_⟩;have JB:=vz.trans s5;show if fb=true then _ else _
   cases fb with
   | false=>
    refine q false H5 ⟨nofun,λz=>?_⟩ JB;obtain⟨_,t',p',k',d',B6,Q5,_⟩:=z;rw[uniq B6]at Q5;exact Y0.mpr Q5
   | true=>
    have zx:=Y0.mp rfl;show if (!gT (.str x.wd) [.str "send",.str "fetch",.str "pass"])=true then _ else _
    rw[MD];refine aQ (λh=>?_) (λh=>?_)
    ·have X1:x.far=false:=by simpa using h
     refine q true H5 ⟨λ_=>⟨KY,t0,p0,k0,x,yg,zx,λz=>by rw[X1]at z;cases z⟩,λ_=>rfl⟩ JB
    ·have wk:x.far=true:=by simpa using h
     obtain⟨u,QX,NT⟩:=By (y:=y);refine⟨l4,_,rfl,.inl (QYU (s5 _ _ (s4 _ _ (s3 _ _ RL)))),rfl,nE _,_,QYV (s5 _ _ YA),_,rfl,_,QYV (s5 _ _ YB),_,QX,aL rfl,λt6 H6 s6 g6=>⟨t6,_,rfl,.inr (QYV g6),rfl,rfl,?_⟩⟩;have RP:decide (("asked":Str)∈ws)=true↔.asked n0∈ps:=by rw[decide_eq_true_iff];exact has
     refine q _ H6 ?_ (JB.trans s6);show(!decide (gT (.str "asked") (ws.map V.str)=gT (.str u) UAW))=true↔_;rw[RM,NT,zS RP];constructor
     ·intro z;exact⟨KY,t0,p0,k0,x,yg,zx,λ_=>z⟩
     ·intro z;obtain⟨_,t',p',k',d',B6,Q5,vt⟩:=z;rw[uniq B6]at vt;exact vt wk
  | came n t p k x=>cases hv
  | _=>cases hh
def Rl(r:RX):gT (.str (bH r)) [.str "next",.str "has",.str "kept"]=Ya r:=by cases r<;>rfl
def Rp{r:RX}(h:Ya r=false):sV r=true:=by cases r<;>first|rfl|cases h
def Cj:Sp:=λvs H Q _=>∃(ra:UF)(rs:List RX)(as:List UF),vs=[.ref ra]/\RxsAt H ra rs as/\(∀r∈rs,cI r)/\rs.length<=60/\∀(o:Option Nat)(H':Hp),qI rs o->Same H H'->Q (Fa o) H'
def Mh(T:Txt K mg)(uw:aG P w K mg base 1 "_law_head_good" QZK Ch)(ux:aG P w K mg base 2 "_law_body_good" QZK Ci)(D:DefAt K mg "_law_due" hU QZD):aG P w K mg base 3 "_law_due" QZD Cj:=by
 refine D.go dE (λvs H Q E h=>?_) (λf cdv A outer s H vs Q E hr h=>?_)
 ·obtain⟨ra,rs,as,rfl,_⟩:=h;rfl
 ·obtain⟨ra,rs,as,rfl,RR,hf,hl,q⟩:=h;have hu:=hr.units0;have uy:Room 1 _:=hr.mono Zd;have uz:Room 2 _:=hr;have le:=RR.len;have IZ:(as.map V.ref).length=rs.length:=by rw[aZ];omega
  refine⟨_,(lv (AT PassesOwn.never rfl (PP rfl T.b_range (kt (su (sy (K:=K)) rfl T.b_len aO (kt (kq 0) lf)) lf)) (sx (i:=1) dE.nd) (lv (o0 (i:=2) dE.nd (li (sj (K:=K)) (kq 0) (kq 1))) (lv (o0 (i:=3) dE.nd (vf (ww (K:=K)) (kq 0) vg (ut (kq 1)))) (lv (re (nw (tz (K:=K)) (li (mi (K:=K)) (kq 2) lc) (pi (kt mh (kt mh (kt mh lf))))) (mj (o0 (i:=4) dE.nd (mk uw uy rfl (kt (kq 2) (kt (kq 3) lf))))) (mj (o0 (i:=4) dE.nd (mk ux uz rfl (kt (kq 2) (kt (kq 3) lf)))))) (lv (R.eh (i:=5) dE.nd rfl (Or.inl rfl) rfl (js:=[none]) (N:=QZu) (CompScope.by (aB hU) QZa rfl rfl Zk) (aP rfl) (wf (K:=K) (kq 3)) (λC s₂ H₂ fp=>⟨(sx (i:=0) (show(QZu:List Str).Nodup by decide +kernel)),(wv (nw (tz (K:=K)) (li (mi (K:=K)) (kq 0) lc) (pi (kt mh (kt mh (kt mh lf)))))),(li (mi (K:=K)) (kq 0) lc)⟩) rfl) (lv (re (ve (xo (nw (tz (K:=K)) (li (mi (K:=K)) (kq 2) lc) (pi (kt mh (kt mh (kt mh lf))))) (xo (nw (R.fk (K:=K) hu) (kq 5) (sw lf)) (xx (nw xz (li (mi (K:=K)) (kq 2) lc) (su (R.fq (K:=K) rfl) rfl T.b_max pP (kt (kq 5) lf))))))) (mj (o0 (i:=4) dE.nd tj)) rp) (mj (re (xu (wn (kq 4))) (mj (ms (kq 1))) rp)))))))) (mj (ms xp))),?_⟩;refine bK (λσ' H'=>RX.Whole rs/\Same H H') (λnx d7=>?_) ?_
  ·refine⟨_,.inl (QYU RR.lst),(rs.length:Int),by rw[IZ],Zo,Zo,?_⟩;refine fN (dZ 0 (rs.length:Int).toNat) (λi σ' H'=>∃o1 o2 o3 o4 o5,σ'=[some (.ref ra),o1,o2,o3,o4,o5]/\RX.Whole (rs.take i)/\Same H H') (λ_ _ _ _=>trivial) ⟨_,_,_,_,_,rfl,.nil,Same.refl _⟩ ?_ ?_
   ·rintro k x σ' H1 hx ⟨o1,o2,o3,o4,o5,rfl,hw,s1⟩;obtain⟨rfl,hk⟩:=lC hx;have hk:k<rs.length:=by omega
    have hv:(as.map V.ref)[k]?=some (.ref (as[k]'Zo)):=by rw[jC,gZ];rfl
    obtain⟨a,r,ea,_,C8,Q9⟩:=RR.get hv;rw[ea]at hv;have mn:cI r:=hf _ (jW C8);dsimp only [aK];refine⟨_,QYU (s1 _ _ RR.lst),.ref a,bJ hv,?_⟩;dsimp only [aK];refine⟨_,QYU (s1 _ _ RR.lst),λp1 yi=>?_⟩;obtain⟨s2,T2⟩:=Xz (RR.same s1) yi k;generalize aI H1 p1 (.lst (dO (as.map V.ref) none (some (k:Int))))=H2 at s2 T2 ⊢;dsimp only [aK];have zi:=s1.trans s2;have B5:(rs.take k).length<=60:=by rw[jD];omega
    refine bK (λσ' H'=>∃gb:Bool,σ'=[some (.ref ra),some (.int (k:Int)),some (.ref a),some (.ref p1),some (.bl gb),o5]/\(gb=true↔Me (rs.take k) r)/\Same H2 H') (λnx d7=>?_) ?_
    ·obtain⟨xs,g,x0,_,_⟩:=bO (Q9.tk zi.tk);refine⟨_,QYV g,_,x0,aL rfl,λtp H3 s3 g3=>⟨tp,_,rfl,.inr (QYV g3),rfl,rfl,?_⟩⟩;show if gT (.str (bH r)) [.str "next",.str "has",.str "kept"]=true then _ else _
     rw[Rl];refine aQ (λh=>?_) (λh=>?_)
     ·refine⟨a,p1,r,_,_,rfl,Q9.tk (zi.trans s3).tk,T2.same s3,hw,B5,h,mn,λfb H4 Y0 s4=>?_⟩;refine d7 _ _ ⟨fb,rfl,?_,s3.trans s4⟩;rw[Y0];cases r<;>first|exact Iff.rfl|cases h
     ·refine⟨a,p1,r,_,_,rfl,Q9.tk (zi.trans s3).tk,T2.same s3,hw,λq hq=>hf q (mem_of_mem_take hq),B5,Rp h,mn,λfb H4 Y0 s4=>?_⟩;exact d7 _ _ ⟨fb,rfl,Y0,s3.trans s4⟩
    rintro σ' H3 ⟨gb,rfl,RQ,s3⟩;have DB:=zi.trans s3;have T3:=T2.same s3;refine bK (λσ' H'=>∃(l:UF)(ns:List Nat),σ'=[some (.ref ra),some (.int (k:Int)),some (.ref a),some (.ref p1),some (.bl gb),some (.ref l)]/\H' l=some (.lst (nI ns))/\(∀n∈ns,∃q∈rs.take k,q.turn=n)/\(∀q∈rs.take k,kS q=true->q.turn∈ns)/\Same H3 H') (λnx d7=>?_) ?_
    ·refine⟨p1,rfl,⟨_,QYU T3.lst⟩,?_⟩;refine gO T3 Zo kS (λr1 _=>.int (r1.turn:Int)) (λa1 r1 H' k1 vp m4 s' wt=>?_) (λa1 r1 H' Q' _ ku m4 h'=>?_) (λprs H' s' h1 h2 l'=>?_)
     ·obtain⟨DE,g1,z0,z1,_⟩:=bO m4;refine⟨_,QYV g1,_,z0,aL rfl,λtp H4 s4 g4=>⟨tp,_,rfl,.inr (QYV g4),rfl,rfl,?_⟩⟩;have hk:=wt H4 s4;rw[<- qL]at hk;exact hk
     ·obtain⟨DE,g1,z0,z1,z2⟩:=bO m4;have e2:=qM ku;have YC:=z2 (by rw[e2];exact λz=>nomatch z);rw[e2]at YC;exact⟨_,QYV g1,_,YC,h'⟩
     ·intro p2 m5;refine d7 _ _ ⟨p2,prs.map λp=>p.1.turn,rfl,by rw[aA];unfold nI;rw[map_map];rfl,λn hn=>?_,λq hq ht=>?_,s'.trans (aF m5)⟩
      ·obtain⟨p,hp,rfl⟩:=Zmm.mp hn;exact⟨p.1,(h1 p hp).1,rfl⟩
      ·obtain⟨a1,hp⟩:=h2 q hq ht;exact Zmm.mpr ⟨_,hp,rfl⟩
    rintro σ' H4 ⟨l,ns,rfl,gl,BY,ng,s4⟩;have vz:=DB.trans s4;have GI:∀t:Nat,(∀n∈ns,n<=t)↔∀q∈rs.take k,q.turn<=t:=λt=>by
     constructor
     ·intro h q hq;cases ht:kS q with
      | true=>exact h _ (ng q hq ht)
      | false=>rw[Bw (by rw[ht];exact XV)];exact zero_le _
     ·intro h n hn;obtain⟨q,hq,rfl⟩:=BY n hn;exact h q hq
    refine bK (λσ' H'=>∃OF:Bool,σ'=[some (.ref ra),some (.int (k:Int)),some (.ref a),some (.ref p1),some (.bl OF),some (.ref l)]/\(OF=true↔RX.Fits (rs.take k) r)/\Same H H') (λnx d7=>?_) ?_
    ·obtain⟨xs,g,x0,x1,x2⟩:=bO (Q9.tk vz.tk);refine⟨_,QYV g,_,x0,aL rfl,λtp H5 s5 g5=>⟨tp,_,rfl,.inr (QYV g5),rfl,rfl,?_⟩⟩;have JB:=vz.trans s5;show if gT (.str (bH r)) [.str "next",.str "came",.str "done"]=true then _ else _
     rw[qL];refine aQ (λht=>?_) (λht=>?_)
     ·refine⟨eK rfl,λp3 C9=>⟨l,p3,_,rfl,rfl,QYU (aN (s5 _ _ gl) C9),QYU aA,?_⟩⟩;have s6:=JB.trans (aF (o:=.lst []) C9);have YD:=aN (u:=.lst []) (s5 _ _ gl) C9;have g6:=aN (u:=.lst []) (s5 _ _ g) C9;generalize aI H5 p3 (.lst [])=H6 at s6 YD g6 ⊢;have YE:(nI ns).isEmpty=true↔ns=[]:=cQ;show if (!(nI ns).isEmpty)=true then _ else _
      refine aQ (λhe=>?_) (λhe=>?_)
      ·have e2:=qM ht;have wj:=x2 (by rw[e2];exact λz=>nomatch z);rw[e2]at wj;refine⟨_,QYV g6,_,wj,l,ns.map (λn:Nat=>(n:Int)),rfl,QYU (by rw[YD];unfold nI;rw[map_map];rfl),?_,λmx EH kz=>?_⟩
       ·have:ns≠[]:=λe=>by rw[YE.mpr e]at he;cases he
        have:=List.length_pos_iff.mpr this;simpa using this
       ·obtain⟨m,hm,rfl⟩:=Zmm.mp EH;have ME:(∀n∈ns,n<=r.turn)↔m<=r.turn:=⟨λh=>h m hm,λh n hn=>by have:=kz _ (mem_map_of_mem (f:=λn:Nat=>(n:Int)) hn);omega⟩;refine aQ (λh=>?_) (λh=>?_)
        ·refine d7 _ _ ⟨false,rfl,⟨nofun,λz=>?_⟩,s6⟩;have h3:=(mG.mp z).2 ht;have:=ME.mp ((GI _).mpr h3);have:=W9 h;omega
        ·refine d7 _ _ ⟨gb,rfl,?_,s6⟩;rw[RQ,mG];refine⟨λz=>⟨z,λ_=>(GI _).mp (ME.mpr ?_)⟩,λz=>z.1⟩;have:=W8 h;omega
      ·have C7:ns=[]:=YE.mp (by simpa using he);refine d7 _ _ ⟨gb,rfl,?_,s6⟩;rw[RQ,mG];exact⟨λz=>⟨z,λ_=>(GI _).mp (by rw[C7];exact λ_ h=>nomatch h)⟩,λz=>z.1⟩
     ·refine d7 _ _ ⟨gb,rfl,?_,JB⟩;rw[RQ,mG];exact⟨λz=>⟨z,λh=>by rw[ht]at h;cases h⟩,λz=>z.1⟩
    rintro σ' H5 ⟨OF,rfl,MF,s5⟩
    cases OF with
    | false=>exact q (some k) H5 ⟨r,C8,hw,λz=>by have:=MF.mpr z;cases this⟩ s5
    | true=>exact⟨_,_,_,_,_,rfl,by rw[cE C8];exact hw.snoc (MF.mp rfl),s5⟩
   ·rintro σ' H1 ⟨o1,o2,o3,o4,o5,rfl,hw,s1⟩;rw[eJ,show(rs.length:Int).toNat=rs.length by omega,vQ (bQ _)]at hw;exact d7 _ _ ⟨hw,s1⟩
  rintro σ' H1 ⟨hw,s1⟩;exact q none H1 hw s1
def eS(f:Str->Nat)(z:Str)(v:Nat):Str->Nat:=λy=>if y=z then v else f y
def bE(f:Str->Nat):Dd->Option An
 | .add a n=>if 1000000000000<f a+n then some (.full (f a)) else some (.is1 (f a+n))
 | .take a n=>if f a<n then some (.short (f a)) else some (.is1 (f a-n))
 | .move a b n=>if f a<n then some (.short (f a)) else if 1000000000000<f b+n then some (.full (f b)) else some (.is2 (f a-n) (f b+n))
 | .send _ a n=>if f a<n then some (.short (f a)) else none
 | .fetch _ a n=>if 1000000000000<f a+n then some (.full (f a)) else none
 | .pass _ _ _ _=>none
def cA(f:Str->Nat):Dd->List An
 | .send h a n=>[.no h,.is1 (f a-n)]
 | .fetch h a n=>[.no h,.is1 (f a+n)]
 | .pass h g _ _=>[.no h,.no g,.ok]
 | _=>[]
def after(f:Str->Nat):Dd->An->(Str->Nat)
 | .add a n,.is1 _=>eS f a (f a+n)
 | .take a n,.is1 _=>eS f a (f a-n)
 | .move a b n,.is2 _ _=>eS (eS f a (f a-n)) b (f b+n)
 | .send _ a n,.is1 _=>eS f a (f a-n)
 | .fetch _ a n,.is1 _=>eS f a (f a+n)
 | _,_=>f
def vK(f:Str->Nat)(x:Dd)(q:Bool)(y:An):Prop:=(q=false/\bE f x=some y)∨(q=true/\bE f x=none/\y∈cA f x)
def BookIs(kvs:List (bA×V))(f:Str->Nat):Prop:=∀z:Str,(bC kvs (Sum.inr z)).getD (.int 0)=.int (f z:Int)
def iZ{f:Str->Nat}{z:Str}{v:Nat}(hf:∀z,f z<=1000000000000)(hv:v<=1000000000000):∀y,eS f z v y<=1000000000000:=λy=>by
 unfold eS;split
 ·exact hv
 ·exact hf y
def Mi{f:Str->Nat}(hf:∀z,f z<=1000000000000){x:Dd}{q:Bool}{y:An}(h:vK f x q y):∀z,after f x y z<=1000000000000:=by
 rcases h with⟨rfl,h⟩|⟨rfl,h1,h2⟩
 ·cases x with
  | add a n=>
   simp only [bE]at h;split at h<;>cases h
   ·exact hf
   ·exact iZ hf Zo
  | take a n=>
   simp only [bE]at h;have:=hf a;split at h<;>cases h
   ·exact hf
   ·exact iZ hf Zo
  | move a b n=>
   simp only [bE]at h;have:=hf a;split at h
   ·cases h;exact hf
   ·split at h<;>cases h
    ·exact hf
    ·exact iZ (iZ hf Zo) Zo
  | send g a n=>
   simp only [bE]at h;split at h<;>cases h;exact hf
  | fetch g a n=>
   simp only [bE]at h;split at h<;>cases h;exact hf
  | pass g k a n=>cases h
 ·cases x with
  | add a n=>cases h2
  | take a n=>cases h2
  | move a b n=>cases h2
  | send g a n=>
   have:=hf a;simp only [cA,mem_cons,QZU,or_false]at h2;rcases h2 with rfl|rfl
   ·exact hf
   ·exact iZ hf Zo
  | fetch g a n=>
   simp only [bE]at h1;simp only [cA,mem_cons,QZU,or_false]at h2;have hn:¬ 1000000000000<f a+n:=by
    intro hh;rw[TD hh]at h1;cases h1
   rcases h2 with rfl|rfl
   ·exact hf
   ·exact iZ hf Zo
  | pass g k a n=>
   simp only [cA,mem_cons,QZU,or_false]at h2;rcases h2 with rfl|rfl|rfl<;>exact hf
def BookIs.put{kvs:List (bA×V)}{f:Str->Nat}(h:BookIs kvs f)(z:Str)(v:Nat):BookIs (bN kvs (Sum.inr z) (.int (v:Int))) (eS f z v):=λy=>by
 rw[cV];unfold eS;by_cases e:y=z
 ·rw[TD (by rw[e]),TD e];rfl
 ·rw[P7 (λc=>e (by injection c)),P7 e];exact h y
def Rq:Dd->An->List (Str×Int)
 | .add a n,.is1 _=>[(a,(n:Int))]
 | .take a n,.is1 _=>[(a,-(n:Int))]
 | .move a b n,.is2 _ _=>[(a,-(n:Int)),(b,(n:Int))]
 | .send _ a n,.is1 _=>[(a,-(n:Int))]
 | .fetch _ a n,.is1 _=>[(a,(n:Int))]
 | _,_=>[]
def aA2(y:An):mW y.vs 0=some (.str (uW y)):=by cases y<;>rfl
def aA3{y:An}(h:uW y="is"):(∃m,y=.is1 m)∨∃l m,y=.is2 l m:=by
 cases y with
 | is1 m=>exact .inl ⟨m,rfl⟩
 | is2 l m=>exact .inr ⟨l,m,rfl⟩
 | short m=>exact QZZ (show("short":Str)="is" from h) Zk
 | full m=>exact QZZ (show("full":Str)="is" from h) Zk
 | no m=>exact QZZ (show("no":Str)="is" from h) Zk
 | ok=>exact QZZ (show("ok":Str)="is" from h) Zk
def eT(f:Str->Nat)(c:Str×Int):Str->Nat:=eS f c.1 ((f c.1:Int)+c.2).toNat
def Mj(f:Str->Nat)(cs:List (Str×Int)):Str->Nat:=cs.foldl eT f
def Ml:(Str->Nat)->List (Str×Int)->Prop
 | _,[]=>True
 | f,c::cs=>0<=(f c.1:Int)+c.2/\Ml (eT f c) cs
def xN{f:Str->Nat}{x:Dd}{q:Bool}{y:An}(hx:x.Ok)(h:vK f x q y):Mj f (Rq x y)=after f x y/\Ml f (Rq x y):=by
 rcases h with⟨rfl,h⟩|⟨rfl,h1,h2⟩
 ·cases x with
  | add a n=>
   simp only [bE]at h;split at h<;>cases h
   ·exact⟨rfl,trivial⟩
   ·refine⟨?_,by show(0:Int)<=_+_;omega,trivial⟩;show eS f a ((f a:Int)+(n:Int)).toNat=eS f a (f a+n);rw[show((f a:Int)+(n:Int)).toNat=f a+n by omega]
  | take a n=>
   simp only [bE]at h;split at h<;>cases h
   ·exact⟨rfl,trivial⟩
   ·refine⟨?_,by show(0:Int)<=(f a:Int)+-(n:Int);omega,trivial⟩;show eS f a ((f a:Int)+-(n:Int)).toNat=eS f a (f a-n);rw[show((f a:Int)+-(n:Int)).toNat=f a-n by omega]
  | move a b n=>
   have CP:b≠a:=λz=>hx.2.2.1 z.symm
   simp only [bE]at h;split at h
   ·cases h;exact⟨rfl,trivial⟩
   ·split at h<;>cases h
    ·exact⟨rfl,trivial⟩
    ·have eb:eT f (a,-(n:Int)) b=f b:=by unfold eT eS;exact P7 CP
     refine⟨?_,by show(0:Int)<=(f a:Int)+-(n:Int);omega,?_,trivial⟩
     ·show eT (eT f (a,-(n:Int))) (b,(n:Int))=eS (eS f a (f a-n)) b (f b+n);have e1:eT f (a,-(n:Int))=eS f a (f a-n):=by
       unfold eT;rw[show((f a:Int)+-(n:Int)).toNat=f a-n by omega]
      unfold eT at eb ⊢;dsimp only at eb ⊢;rw[eb,show((f b:Int)+(n:Int)).toNat=f b+n by omega];unfold eT at e1;rw[e1]
     ·show(0:Int)<=(eT f (a,-(n:Int)) b:Int)+(n:Int);omega
  | send g a n=>
   simp only [bE]at h;split at h<;>cases h;exact⟨rfl,trivial⟩
  | fetch g a n=>
   simp only [bE]at h;split at h<;>cases h;exact⟨rfl,trivial⟩
  | pass g k a n=>cases h
 ·cases x with
  | add a n=>cases h2
  | take a n=>cases h2
  | move a b n=>cases h2
  | send g a n=>
   simp only [bE]at h1;simp only [cA,mem_cons,QZU,or_false]at h2;have hn:¬ f a<n:=by
    intro hh;rw[TD hh]at h1;cases h1
   rcases h2 with rfl|rfl
   ·exact⟨rfl,trivial⟩
   ·refine⟨?_,by show(0:Int)<=(f a:Int)+-(n:Int);omega,trivial⟩;show eS f a ((f a:Int)+-(n:Int)).toNat=eS f a (f a-n);rw[show((f a:Int)+-(n:Int)).toNat=f a-n by omega]
  | fetch g a n=>
   simp only [cA,mem_cons,QZU,or_false]at h2;rcases h2 with rfl|rfl
   ·exact⟨rfl,trivial⟩
   ·refine⟨?_,by show(0:Int)<=(f a:Int)+(n:Int);omega,trivial⟩;show eS f a ((f a:Int)+(n:Int)).toNat=eS f a (f a+n);rw[show((f a:Int)+(n:Int)).toNat=f a+n by omega]
  | pass g k a n=>
   simp only [cA,mem_cons,QZU,or_false]at h2;rcases h2 with rfl|rfl|rfl<;>exact⟨rfl,trivial⟩
def Ck(x:Dd)(y:An):(Rq x y).length<=2:=by cases x<;>cases y<;>exact QZY rfl
def vL(rs:List RX):Str->Nat:=rs.foldl (λf r=>match r with|.has z m=>eS f z m|_=>f) (λ_=>0)
def oH(rs:List RX):List (bA×V):=rs.filterMap λr=>match r with|.has z m=>some (Sum.inr z,.int (m:Int))|_=>none
def dU:∀(rs:List RX)(kvs:List (bA×V))(f:Str->Nat),BookIs kvs f->BookIs (bD kvs (oH rs)) (rs.foldl (λf r=>match r with|.has z m=>eS f z m|_=>f) f)
 | [],kvs,f,h=>h
 | r::rs,kvs,f,h=>by
  cases r with
  | has z m=>exact dU rs _ _ (h.put z m)
  | next n t=>exact dU rs _ _ h
  | kept n t p k x y=>exact dU rs _ _ h
  | came n t p k x=>exact dU rs _ _ h
  | asked n=>exact dU rs _ _ h
  | done n t y=>exact dU rs _ _ h
def mH:RX->bA|.next n _=>Sum.inl (n:Int)|.has z _=>Sum.inr z|.kept n _ _ _ _ _=>Sum.inl (n:Int)|.came n _ _ _ _=>Sum.inl (n:Int)|.asked n=>Sum.inl (n:Int)|.done n _ _=>Sum.inl (n:Int)
def Yc(r:RX):Kx r=kV (mH r):=by cases r<;>rfl
def lD(wd:Str)(r:RX)(a:UF):List (bA×V):=if bH r=wd then [(mH r,.ref a)] else []
def jA(wd:Str)(rs:List RX)(as:List UF):Nat->List (bA×V)
 | 0=>[]
 | i+1=>jA wd rs as i++(match rs[i]?,as[i]? with|some r,some a=>lD wd r a|_,_=>[])
def nP{wd:Str}{rs:List RX}{as:List UF}{i:Nat}{r:RX}{a:UF}(h1:rs[i]?=some r)(h2:as[i]?=some a):jA wd rs as (i+1)=jA wd rs as i++lD wd r a:=by
 simp only [jA,h1,h2]
def xO(wd:Str)(rs:List RX)(as:List UF):∀i,(jA wd rs as i).length<=i
 | 0=>bQ _
 | i+1=>by
  have:=xO wd rs as i;unfold jA;rw[kM];split
  ·unfold lD;split<;>simp<;>omega
  ·simp;omega
def xP{wd:Str}{rs:List RX}{as:List UF}{k:bA}{v:V}:∀ {i:Nat},(k,v)∈jA wd rs as i->∃j r a,j<i/\rs[j]?=some r/\as[j]?=some a/\bH r=wd/\k=mH r/\v=.ref a
 | 0,h=>nomatch h
 | i+1,h=>by
  unfold jA at h;rcases Zma.mp h with h|h
  ·obtain⟨j,r,a,h1,h2⟩:=xP h;exact⟨j,r,a,Zo,h2⟩
  ·split at h
   ·rename_i r a e1 e2;unfold lD at h;split at h
    ·rename_i e3;have:=Zms.mp h;injection this with h1 h2
     exact⟨i,r,a,lt_succ_self _,e1,e2,e3,h1,h2⟩
    ·cases h
   ·cases h
def xQ{wd:Str}{rs:List RX}{as:List UF}{j:Nat}{r:RX}{a:UF}(h1:rs[j]?=some r)(h2:as[j]?=some a)(h3:bH r=wd):∀ {i:Nat},j<i->(mH r,V.ref a)∈jA wd rs as i
 | 0,h=>nomatch h
 | i+1,h=>by
  by_cases e:j=i
  ·subst e;rw[nP h1 h2];refine QZW _ ?_;unfold lD;rw[TD h3];exact jI
  ·unfold jA;exact QZX _ (xQ h1 h2 h3 Zo)
def zX(kvs l:List (bA×V))(k:bA)(v:V):bD kvs (l++[(k,v)])=bN (bD kvs l) k v:=by unfold bD;rw[foldl_append];rfl
def qP{k:bA}{v:V}:∀ {l kvs:List (bA×V)},bC (bD kvs l) k=some v->(k,v)∈l∨bC kvs k=some v
 | [],kvs,h=>.inr h
 | (k',v')::l,kvs,h=>by
  have h':bC (bD (bN kvs k' v') l) k=some v:=h;rcases qP h' with h1|h1
  ·exact .inl (oP _ h1)
  ·rw[cV]at h1;by_cases e:k=k'
   ·rw[TD e]at h1;injection h1 with h1
    rw[<- h1,e];exact .inl jI
   ·rw[P7 e]at h1;exact .inr h1
def xR{k:bA}:∀ {l kvs:List (bA×V)},(k∈l.map (·.1)∨∃v,bC kvs k=some v)->∃v,bC (bD kvs l) k=some v
 | [],kvs,h=>by
  rcases h with h|h
  ·cases h
  ·exact h
 | (k',v')::l,kvs,h=>by
  refine xR (l:=l) (kvs:=bN kvs k' v') ?_;rcases h with h|⟨v,h⟩
  ·rcases mem_cons.mp h with h|h
   ·right
    rw[cV,TD h];exact⟨_,rfl⟩
   ·exact .inl h
  ·right
   rw[cV];split
   ·exact⟨_,rfl⟩
   ·exact⟨v,h⟩
def Mm{wd:Str}{rs:List RX}{as:List UF}(hl:rs.length=as.length){r:RX}(hm:r∈rs)(hw:bH r=wd):∃(j:Nat)(r':RX)(a:UF),bC (bD [] (jA wd rs as rs.length)) (mH r)=some (.ref a)/\rs[j]?=some r'/\as[j]?=some a/\bH r'=wd/\mH r=mH r':=by
 obtain⟨j,hj,ej⟩:=getElem_of_mem hm;have h1:rs[j]?=some r:=by rw[gZ hj,ej]
 have h2:as[j]?=some as[j]:=gZ Zo;have h3:=xQ h1 h2 hw hj;obtain⟨v,hv⟩:=xR (kvs:=[]) (k:=mH r) (l:=jA wd rs as rs.length) (.inl (mem_map_of_mem h3));rcases qP hv with h4|h4
 ·obtain⟨j',r',a',_,g1,g2,g3,g4,g5⟩:=xP h4;rw[g5]at hv;exact⟨j',r',a',hv,g1,g2,g3,g4⟩
 ·cases h4
def Cl:Sp:=λvs H Q _=>∃(ra:UF)(wd:Str)(rs:List RX)(as:List UF),vs=[.ref ra,.str wd]/\RxsAt H ra rs as/\rs.length<=100/\∀(p:UF)(H':Hp),H p=none->H' p=some (.dK (bD [] (jA wd rs as rs.length)))->Same H H'->Q (.ref p) H'
def rM(D:DefAt K mg "by_numbers" fQ QZk):aG P w K mg base 1 "by_numbers" QZk Cl:=by
 refine D.go gU (λvs H Q E h=>?_) (λf cdv A outer s H vs Q E hr h=>?_)
 ·obtain⟨ra,wd,rs,as,rfl,_⟩:=h;rfl
 ·obtain⟨ra,wd,rs,as,rfl,RR,hl,q⟩:=h;have J8:=jK hr;have le:=RR.len;refine⟨_,(lv (o0 (i:=2) gU.nd HN) (lv (AT PassesOwn.never rfl (wf (K:=K) (kq 0)) (sx (i:=3) gU.nd) (mj (re (nw rq (li (mi (K:=K)) (kq 3) lc) (kq 1)) (mj (zd (kq 3) (zn (kq 2) (li (mi (K:=K)) (kq 3) lc) (EN J8)))) rp))) (mj (ms (kq 2))))),?_⟩;refine λp hp=>?_;have nr:p≠ra:=(aE RR.lst hp).symm;dsimp only [aK];refine bK (λσ' H'=>∃o3,σ'=[some (.ref ra),some (.str wd),some (.ref p),o3]/\H' p=some (.dK (bD [] (jA wd rs as rs.length)))/\Same H H') (λnx d7=>?_) ?_
  ·refine⟨ra,rfl,⟨_,QYU (aN RR.lst hp)⟩,fN (dB K ra (as.map V.ref)) (λi σ' H'=>∃o3,σ'=[some (.ref ra),some (.str wd),some (.ref p),o3]/\H' p=some (.dK (bD [] (jA wd rs as i)))/\Same H H') (λi σ' H' ⟨_,_,_,s'⟩=>QYU (s' _ _ RR.lst))
    ⟨_,rfl,aA,aF hp⟩ ?_ ?_⟩
   ·rintro i x σ' H1 hx ⟨o3,rfl,g1,s1⟩;obtain⟨a,r,rfl,ha,C8,j7⟩:=(RR.same s1).get hx;obtain⟨xs,g,x0,x1,x2⟩:=bO j7;have hi:=(Zgs.mp ha).1;have ln:=xO wd rs as i;have lm:=eU (jA wd rs as i) [];dsimp only [aK];refine⟨_,QYV g,_,x0,?_⟩;show if decide (bH r=wd)=true then _ else _
    refine aQ (λh=>?_) (λh=>?_)
    ·have dp:DPut H1 p (Kx r) (.ref a) (aI H1 p (.dK (bN (bD [] (jA wd rs as i)) (mH r) (.ref a)))):=by
      rw[Yc];exact DPut.k g1 (oZ (m:=1000) (by simp at lm;omega) Zd)
     refine⟨_,QYV g,_,x1,p,_,rfl,dp,?_⟩
     ·refine⟨_,rfl,?_,cO hp s1⟩;rw[aA,nP C8 ha];unfold lD;rw[TD (W9 h),zX]
    ·refine⟨_,rfl,?_,s1⟩;rw[nP C8 ha];unfold lD;rw[P7 (W8 h),append_nil];exact g1
   ·rintro σ' H1 ⟨o3,rfl,g1,s1⟩;rw[aZ,<- le]at g1;exact d7 _ _ ⟨o3,rfl,g1,s1⟩
  ·rintro σ' H1 ⟨o3,rfl,g1,s1⟩;exact q p H1 hp g1 s1
def sW{rs:List RX}(h:RX.Whole rs){n t:Nat}{y:An}(h1:.done n t y∈rs):∃t0 p k x,RX.came n t0 p k x∈rs/\An.Of x y:=by
 induction h with
 | nil=>cases h1
 | snoc hw hf ih=>
  rcases aH h1 with h1|h1
  ·obtain⟨t0,p,k,x,h2,h3⟩:=ih h1;exact⟨t0,p,k,x,QZX _ h2,h3⟩
  ·rw[<- h1]at hf;obtain⟨_,_,t0,p,k,x,h2,h3,_⟩:=hf;exact⟨t0,p,k,x,QZX _ h2,h3⟩
def gP(rs:List RX):List Nat:=rs.filterMap λr=>match r with|.done n _ _=>some n|_=>none
def Cm(rs:List RX):List Nat:=rs.filterMap λr=>match r with|.came n _ _ _ _=>some n|_=>none
def sX{rs:List RX}{n:Nat}(h:n∈gP rs):∃t y,.done n t y∈rs:=by
 obtain⟨r,hr,e⟩:=mem_filterMap.mp h;cases r<;>cases e;exact⟨_,_,hr⟩
def Fp{rs:List RX}{n t:Nat}{p k:Str}{x:Dd}(h:.came n t p k x∈rs):n∈Cm rs:=mem_filterMap.mpr ⟨_,h,rfl⟩
def Mn{rs:List RX}(h:RX.Whole rs):(gP rs).Nodup:=by
 induction h with
 | nil=>exact nodup_nil
 | @snoc rs r hw hf ih=>
  unfold gP at ih ⊢;rw[QZT];cases r with
  | done n t y=>
   refine nodup_append.mpr ⟨ih,Zs,λa ha b hb=>?_⟩;have J1:b=n:=by simpa using hb
   subst J1;rintro rfl;obtain⟨t',y',hm⟩:=sX ha;exact hf.2.1 _ _ hm
  | _=>simpa using ih
def Yd{xs:List Nat}:∀ {ys:List Nat},xs.Nodup->(∀x∈xs,x∈ys)->xs.length<=ys.length:=by
 induction xs with
 | nil=>exact λ_ _=>zero_le _
 | cons x r ih=>
  intro ys hn h;obtain⟨h1,h2⟩:=nodup_cons.mp hn;have hx:=h x jI;have:=ih (ys:=ys.erase x) h2 λy hy=>(List.mem_erase_of_ne (λe=>h1 (by rw[<- e];exact hy))).mpr (h y (oP _ hy))
  rw[List.length_erase_of_mem hx]at this;have hp:0<ys.length:=List.length_pos_of_mem hx;rw[vR];omega
def xS(rs:List RX):(oH rs).length+(gP rs).length+(Cm rs).length<=rs.length:=by
 induction rs with
 | nil=>exact bQ _
 | cons r rs ih=>
  unfold oH gP Cm at ih ⊢;cases r<;>simp only [QZS,vR]<;>omega
def Fq{rs:List RX}(h:RX.Whole rs):(oH rs).length+2*(gP rs).length<=rs.length:=by
 have h1:=xS rs;have h2:=Yd (Mn h) (ys:=Cm rs) λn hn=>by
  obtain⟨t,y,hm⟩:=sX hn;obtain⟨t0,p,k,x,hc,_⟩:=sW h hm;exact Fp hc
 omega
def zY(rs:List RX)(i:Nat):(gP (rs.take i)).length<=(gP rs).length:=by
 unfold gP;exact((List.take_sublist i rs).filterMap _).length_le
def mJ:Dd->List (Str×Int)
 | .add a n=>[(a,(n:Int))]
 | .take a n=>[(a,-(n:Int))]
 | .move a b n=>[(a,-(n:Int)),(b,(n:Int))]
 | .send _ a n=>[(a,-(n:Int))]
 | .fetch _ a n=>[(a,(n:Int))]
 | .pass _ _ _ _=>[]
def Mo{x:Dd}{y:An}(hy:An.Of x y)(h:uW y="is"):Rq x y=mJ x:=by
 rcases aA3 h with⟨m,rfl⟩|⟨l,m,rfl⟩<;>cases x<;>first|rfl|exact hy.elim
def Ye{x:Dd}{y:An}(h:uW y≠"is"):Rq x y=[]:=by cases x<;>cases y<;>first|rfl|exact QZZ rfl h
def Cn:Sp:=λvs H Q _=>∃(t:UF)(x:Dd),vs=[.ref t]/\H t=some (.tup x.vs)/\∀(tp:UF)(zs:List Z)(H':Hp),Same H H'->H' tp=some (.tup (fF zs))->Ee H' zs->zs.map (·.2)=mJ x->Q (.ref tp) H'
def oN(T:Txt K mg)(D:DefAt K mg "done_changes" dC QZP):aG P w K mg base 1 "done_changes" QZP Cn:=by
 refine D.go jH (λvs H Q E h=>?_) (λf cdv A outer s H vs Q E hr h=>?_)
 ·obtain⟨t,x,rfl,_⟩:=h;rfl
 ·obtain⟨p,x,rfl,hp,q⟩:=h;refine⟨_,(lv (re (nw rq (li (mi (K:=K)) (kq 0) lc) mh) (mj (ms (pi lf))) rp) (lv (re (nw rq (li (mi (K:=K)) (kq 0) lc) mh) (mj (ms (pi (kt (pi (kt (li (mi (K:=K)) (kq 0) lc) (kt (vh (li (mi (K:=K)) (kq 0) (vh lc))) lf))) (kt (pi (kt (li (mi (K:=K)) (kq 0) lc) (kt (li (mi (K:=K)) (kq 0) (vh lc)) lf))) lf))))) rp) (lv (re (nw (tz (K:=K)) (li (mi (K:=K)) (kq 0) lc) (pi (kt mh (kt mh lf)))) (mj (ms (pi (kt (pi (kt (li (mi (K:=K)) (kq 0) (vh lc)) (kt (vh (li (mi (K:=K)) (kq 0) (vh lc))) lf))) lf)))) rp) (mj (ms (pi (kt (pi (kt (li (mi (K:=K)) (kq 0) (vh lc)) (kt (li (mi (K:=K)) (kq 0) (vh lc)) lf))) lf))))))),?_⟩;have z1:∀ {H':Hp}{a:UF}{x:Str}{i:Int},H' a=some (.tup [.str x,.int i])->Ee H' [(a,x,i)]:=λh z hz=>by
   rw[Zms.mp hz];exact h
  cases x with
  | add a n=>
   refine⟨_,QYV hp,_,rfl,_,QYV hp,_,rfl,_,QYV hp,_,rfl,aL rfl,λp1 H1 s1 g1=>⟨p1,_,rfl,.inr (QYV g1),rfl,rfl,?_⟩⟩;exact⟨_,QYV (s1 _ _ hp),_,rfl,_,QYV (s1 _ _ hp),_,rfl,aL rfl,λp2 H2 s2 g2=>⟨aL rfl,λp3 H3 s3 g3=>q p3 [(p2,a,(n:Int))] H3 ((s1.trans s2).trans s3) g3 (z1 (s3 _ _ g2)) rfl⟩⟩
  | take a n=>
   refine⟨_,QYV hp,_,rfl,_,QYV hp,_,rfl,_,QYV hp,_,rfl,aL rfl,λp1 H1 s1 g1=>⟨p1,_,rfl,.inr (QYV g1),rfl,rfl,?_⟩⟩;exact⟨_,QYV (s1 _ _ hp),_,rfl,_,QYV (s1 _ _ hp),_,rfl,aL rfl,λp2 H2 s2 g2=>⟨aL rfl,λp3 H3 s3 g3=>q p3 [(p2,a,-(n:Int))] H3 ((s1.trans s2).trans s3) g3 (z1 (s3 _ _ g2)) rfl⟩⟩
  | send h a n=>
   refine⟨_,QYV hp,_,rfl,_,QYV hp,_,rfl,_,QYV hp,_,rfl,aL rfl,λp1 H1 s1 g1=>⟨p1,_,rfl,.inr (QYV g1),rfl,rfl,?_⟩⟩;exact⟨_,QYV (s1 _ _ hp),_,rfl,_,QYV (s1 _ _ hp),_,rfl,aL rfl,λp2 H2 s2 g2=>⟨aL rfl,λp3 H3 s3 g3=>q p3 [(p2,a,-(n:Int))] H3 ((s1.trans s2).trans s3) g3 (z1 (s3 _ _ g2)) rfl⟩⟩
  | fetch h a n=>
   refine⟨_,QYV hp,_,rfl,_,QYV hp,_,rfl,_,QYV hp,_,rfl,aL rfl,λp1 H1 s1 g1=>⟨p1,_,rfl,.inr (QYV g1),rfl,rfl,?_⟩⟩;exact⟨_,QYV (s1 _ _ hp),_,rfl,_,QYV (s1 _ _ hp),_,rfl,aL rfl,λp2 H2 s2 g2=>⟨aL rfl,λp3 H3 s3 g3=>q p3 [(p2,a,(n:Int))] H3 ((s1.trans s2).trans s3) g3 (z1 (s3 _ _ g2)) rfl⟩⟩
  | move a b n=>
   refine⟨_,QYV hp,_,rfl,_,QYV hp,_,rfl,_,QYV hp,_,rfl,_,QYV hp,_,rfl,aL rfl,λp2 H2 s2 g2=>⟨_,QYV (s2 _ _ hp),_,rfl,_,QYV (s2 _ _ hp),_,rfl,aL rfl,λp3 H3 s3 g3=>⟨aL rfl,λp4 H4 s4 g4=>?_⟩⟩⟩;refine q p4 [(p2,a,-(n:Int)),(p3,b,(n:Int))] H4 ((s2.trans s3).trans s4) g4 (λz hz=>?_) rfl;rcases mem_cons.mp hz with rfl|hz
   ·exact s4 _ _ (s3 _ _ g2)
   ·rw[Zms.mp hz];exact s4 _ _ g3
  | pass h g a n=>
   refine⟨_,QYV hp,_,rfl,?_⟩;exact⟨aL rfl,λp1 H1 s1 g1=>q p1 [] H1 s1 g1 (λ_ h=>nomatch h) rfl⟩
def Tf:Sp:=λvs H Q _=>∃(t c:UF)(x:Dd)(y:An),vs=[.ref t,.ref c]/\H t=some (.tup x.vs)/\H c=some (.tup y.vs)/\An.Of x y/\∀(tp:UF)(zs:List Z)(H':Hp),Same H H'->H' tp=some (.tup (fF zs))->Ee H' zs->zs.map (·.2)=Rq x y->Q (.ref tp) H'
def rN(T:Txt K mg)(j8:aG P w K mg base 1 "done_changes" QZP Cn)(D:DefAt K mg "changes_of" fO QZs):aG P w K mg base 2 "changes_of" QZs Tf:=by
 refine D.go rF (λvs H Q E h=>?_) (λf cdv A outer s H vs Q E hr h=>?_)
 ·obtain⟨t,c,x,y,rfl,_⟩:=h;rfl
 ·obtain⟨t,c,x,y,rfl,gt,gc,hy,q⟩:=h;have h8:=hr;refine⟨_,(lv (re (nw IN (li (mi (K:=K)) (kq 1) lc) mh) (mj (ms (pi lf))) rp) (mj (ms (mk j8 h8 rfl (kt (kq 0) lf))))),?_⟩;refine⟨_,QYV gc,_,aA2 y,?_⟩;show if (!decide (uW y="is"))=true then _ else _
  by_cases hw:uW y="is"
  ·refine Wc (by rw[W7 hw];rfl) ?_;exact⟨t,x,rfl,gt,λtp zs H' s' g z e=>q tp zs H' s' g z (by rw[e,Mo hy hw])⟩
  ·refine Wb (by rw[W6 hw];rfl) ?_;exact⟨aL rfl,λp1 H1 s1 g1=>q p1 [] H1 s1 g1 (λ_ h=>nomatch h) (by rw[Ye hw];rfl)⟩
def Mp{C:UF}(T:Txt K mg)(B:Wo K C)(D:ClsAt K mg "Book" C "Book.__init__" cC QZv [[],[.non]]):∀d∈([[],[.non]]:List (List V)),Wn P w K mg base 1 "Book" C QZv d (Bl C):=by
 refine D.go nK (λvs H Q E h=>?_) (λf cdv A outer s H vs Q E hr h=>?_)
 ·obtain⟨p,dx,r,prs,rfl,_⟩:=h;rfl
 ·obtain⟨p,dx,r,prs,rfl,hp,hR,nd,hz,q⟩:=h;refine⟨_,(lv (DT (K:=K) (kq 0) HN) (mj (re (nw R.fm (kq 1) xp) (mj (DT (K:=K) (kq 0) (R.ee (R.il (K:=K) rfl) rfl T.b_dict Pd (kt (kq 1) lf)))) rp))),?_⟩;intro d1 IU;have np:=aE hp IU;refine⟨C,dx,[],(by rw[aD np];exact hp),B.cl,B.nA,(by show 0<1000;decide),?_⟩;have g1:(aI (aI H d1 (.dK [])) p (.ins C dx [("amounts",.ref d1)])) p=some (.ins C dx [("amounts",.ref d1)]):=aA;have g2:(aI (aI H d1 (.dK [])) p (.ins C dx [("amounts",.ref d1)])) d1=some (.dK []):=by rw[aD np.symm];exact aA
  have k1:∀b o,H b=some o->b≠p->(aI (aI H d1 (.dK [])) p (.ins C dx [("amounts",.ref d1)])) b=some o:=λb o e hb=>by rw[aD hb,aD (aE e IU)];exact e
  dsimp only;rw[aBN];generalize aI (aI H d1 (.dK [])) p (.ins C dx [("amounts",.ref d1)])=H1 at g1 g2 k1;rcases hR with⟨rfl,rfl⟩|⟨l,zs,rfl,hl,YF,rfl⟩
  ·exact q H1 d1 IU g1 g2 k1
  ·have nl:l≠p:=fW hl hp nofun;have RS:Ee H1 zs:=λz hz=>k1 _ _ (YF z hz) (fW (YF z hz) hp nofun)
   refine⟨wz zs,by rw[Wq];exact QYU (k1 _ _ hl nl),aAG RS,by unfold wz;rw[aZ];simpa using hz,λd hd=>?_⟩;have LQ:H d=none:=by
    cases e:H d with
    | none=>rfl
    | some o=>
     by_cases z:d=p
     ·rw[z,g1]at hd;cases hd
     ·rw[k1 d o e z]at hd;cases hd
   rw[Wr,sM nd];refine⟨C,dx,_,(by rw[aD (aE g1 hd)];exact g1),B.cl,B.nA,(by show 1<1000;decide),?_⟩;refine q _ d LQ (by rw[aA,put1]) (by rw[aD (aE g1 hd).symm];exact aA) λb o e hb=>?_;rw[aD hb,aD (aE (k1 b o e hb) hd)];exact k1 b o e hb
def vM{C:UF}(B:Wo K C)(D:MethAt K C "amount" "Book.amount" eW QZy):sJ P w K mg base 1 C "amount" QZy (iG C):=by
 refine D.go qB (λvs H Q E h=>?_) (λf cdv A outer s H vs Q E hr h=>?_)
 ·obtain⟨p,n,prs,rfl,_⟩:=h;rfl
 ·obtain⟨p,n,prs,rfl,bk,q⟩:=h;have J8:=jK hr;obtain⟨dx,d,h1,h2⟩:=bk.ex;refine⟨_,(mj (ms (R.ju J8 (vi (K:=K) (kq 0)) (kq 1) lc))),?_⟩;refine⟨C,dx,_,.ref d,h1,B.cl,B.nA,oE _,d,rfl,.inl ⟨_,.inl h2⟩,_,DGet.k (k:=Sum.inr n) h2,?_⟩;rw[oS];exact q
def nQ(prs:List (Str×Int))(n:Str)(v:Int):List (Str×Int):=if n∈prs.map (·.1) then Ka prs n v else prs++[(n,v)]
def oO:List (Str×Int)->List (Str×Int)->List (Str×Int)
 | prs,[]=>prs
 | prs,q::r=>oO (nQ prs q.1 (dM prs q.1+q.2)) r
def sY:∀(cs prs:List (Str×Int))(q:Str×Int),oO prs (cs++[q])=nQ (oO prs cs) q.1 (dM (oO prs cs) q.1+q.2)
 | [],_,_=>rfl
 | p::r,prs,q=>sY r _ q
def xT{prs:List (Str×Int)}{n:Str}{v:Int}:bN (mM prs) (Sum.inr n) (.int v)=mM (nQ prs n v):=by
 unfold nQ;by_cases h:n∈prs.map (·.1)
 ·rw[TD h];exact Pr h
 ·rw[P7 h];have hv:bC (mM prs) (Sum.inr n)=none:=by
   cases e:bC (mM prs) (Sum.inr n) with
   | none=>rfl
   | some x=>
    have:=Om e;rw[wI]at this;obtain⟨m,hm,e2⟩:=Zmm.mp this;cases e2;exact QZZ hm h
  rw[wA _ hv];unfold mM;rw[iB];rfl
def sZ{prs:List (Str×Int)}{n:Str}{v:Int}:(nQ prs n v).map (·.1)=if n∈prs.map (·.1) then prs.map (·.1) else prs.map (·.1)++[n]:=by
 unfold nQ;by_cases h:n∈prs.map (·.1)
 ·rw[TD h,TD h];exact Ek _ _ _
 ·rw[P7 h,P7 h,iB];rfl
def Rr{prs:List (Str×Int)}{n:Str}{v:Int}(h:(prs.map (·.1)).Nodup):((nQ prs n v).map (·.1)).Nodup:=by
 rw[sZ];split
 ·exact h
 ·rename_i hn;exact Aw h hn
def vN:∀(cs prs:List (Str×Int)),(prs.map (·.1)).Nodup->((oO prs cs).map (·.1)).Nodup
 | [],_,h=>h
 | _::r,_,h=>vN r _ (Rr h)
def Th(prs:List (Str×Int))(q:Str×Int):Prop:=0<=dM prs q.1+q.2/\dM prs q.1+q.2<=1000000000000
def Co{H:Hp}{zs:List Z}{i:Nat}{x:V}(hz:Ee H zs)(hx:(fF zs)[i]?=some x):∃z,zs[i]?=some z/\x=.ref z.1/\H z.1=some (.tup [.str z.2.1,.int z.2.2]):=by
 unfold fF at hx;rw[jC]at hx;obtain⟨z,hn,rfl⟩:=Option.map_eq_some_iff.mp hx;exact⟨z,hn,rfl,hz z (jW hn)⟩
def qQ:∀(cs prs:List (Str×Int)),(oO prs cs).length<=prs.length+cs.length
 | [],prs=>bQ _
 | q::r,prs=>by
  have h:=qQ r (nQ prs q.1 (dM prs q.1+q.2));have h2:(nQ prs q.1 (dM prs q.1+q.2)).length<=prs.length+1:=by
   have:=congrArg length (sZ (prs:=prs) (n:=q.1) (v:=dM prs q.1+q.2));rw[aZ]at this;rw[this];split<;>simp
  show(oO (nQ prs q.1 (dM prs q.1+q.2)) r).length<=_;rw[vR];omega
def tD(C:UF):Sp:=λvs H Q E=>∃(p dx d t:UF)(prs:List (Str×Int))(zs:List Z),vs=[.ref p,.ref t]/\H p=some (.ins C dx [("amounts",.ref d)])/\H d=some (.dK (mM prs))/\(prs.map (·.1)).Nodup/\H t=some (.tup (fF zs))/\Ee H zs/\prs.length+zs.length<=100 ∧
 (∀q∈zs.map (·.2),Th prs q)/\∀H',H' d=some (.dK (mM (oO prs (zs.map (·.2)))))->(∀b o,H b=some o->b≠d->H' b=some o)->Q .non H'
def zZ{C:UF}(T:Txt K mg)(B:Wo K C)(i8:sJ P w K mg base 1 C "amount" QZy (iG C))(D:MethAt K C "change" "Book.change" eX QZl):sJ P w K mg base 2 C "change" QZl (tD C):=by
 refine D.go dD (λvs H Q E h=>?_) (λf cdv A outer s H vs Q E hr h=>?_)
 ·obtain⟨p,dx,d,t,prs,zs,rfl,_⟩:=h;rfl
 ·obtain⟨p,dx,d,t,prs,zs,rfl,hp,hd,nd,ht,hz,hl,hg,Q0⟩:=h;have h7:=hr;have J8:=jK hr;have hlz:(fF zs).length=zs.length:=by unfold fF;rw[aZ]
  refine⟨_,(lv (AT PassesOwn.never rfl (R.fj (K:=K) (kq 1)) (IR (K:=K) (n:=2) rfl (wr (sx (i:=2) dD.nd) (wr (sx (i:=3) dD.nd) M3))) (mj (re (xu (R.je yy yy lc (ml sv (yx i8 h7 (kq 0) (kt (kq 2) lf)) (kq 3)) (R.gI rfl T.g_MOST))) (mj R.ij) rp))) (mj (AT PassesOwn.never rfl (R.fj (K:=K) (kq 1)) (IR (K:=K) (n:=2) rfl (wr (sx (i:=2) dD.nd) (wr (sx (i:=3) dD.nd) M3))) (mj (zd (ml sv (yx i8 h7 (kq 0) (kt (kq 2) lf)) (kq 3)) (zn (vi (K:=K) (kq 0)) (kq 2) (EN J8))))))),?_⟩;refine bK (λσ' H'=>H'=H/\∃o2 o3,σ'=[some (.ref p),some (.ref t),o2,o3]) (λnx d7=>?_) ?_
  ·refine⟨t,rfl,⟨_,QYV ht⟩,fN (lJ K t (fF zs)) (λi σ H'=>H'=H/\∃o2 o3,σ=[some (.ref p),some (.ref t),o2,o3]) (λi σ H' ⟨e,_⟩=>by rw[e];exact QYV ht) ⟨rfl,_,_,rfl⟩ ?_ (λσ H' h=>d7 σ H' h)⟩;rintro i x σ H' hx ⟨rfl,o2,o3,rfl⟩;obtain⟨z,hn,rfl,gz⟩:=Co hz hx;have YG:=hg z.2 (mem_map_of_mem (jW hn));refine⟨z.1,_,rfl,QYV gz,rfl,_,_,rfl,_,_,rfl,rfl,dx,_,hp,pV _ Zk,p,z.2.1,prs,rfl,⟨⟨dx,d,hp,hd⟩,nd⟩,?_⟩;refine Wb (W7 YG.1) ?_;show if (!decide (dM prs z.2.1+z.2.2<=1000000000000))=true then _ else _
   refine Wc (by rw[W7 YG.2];rfl) ?_;exact⟨rfl,_,_,rfl⟩
  ·rintro σ H' ⟨rfl,o2,o3,rfl⟩;have ntd:t≠d:=fW ht hd nofun;refine⟨t,rfl,⟨_,QYV ht⟩,fN (lJ K t (fF zs)) (λi σ P9=>P9 d=some (.dK (mM (oO prs ((zs.map (·.2)).take i))))/\(∀b o,H' b=some o->b≠d->P9 b=some o)/\∃o2 o3,σ=[some (.ref p),some (.ref t),o2,o3]) (λi σ P9 ⟨_,k,_⟩=>QYV (k _ _ ht ntd)) ⟨hd,λb o e _=>e,_,_,rfl⟩ ?_ ?_⟩
   ·rintro i x σ P9 hx ⟨g,k,o2,o3,rfl⟩;obtain⟨z,hn,rfl,gz⟩:=Co (λz m=>k _ _ (hz z m) (fW (hz z m) hd nofun)) hx;have EG:(zs.map (·.2))[i]?=some z.2:=by rw[jC,hn];rfl
    have zq:=k _ _ hp (fW hp hd nofun);have nd':=vN ((zs.map (·.2)).take i) prs nd;have hle:=qQ ((zs.map (·.2)).take i) prs;have bu':((zs.map (·.2)).take i).length<=zs.length:=by rw[jD,aZ];exact Nat.min_le_right _ _
    refine⟨z.1,_,rfl,QYV gz,rfl,_,_,rfl,_,_,rfl,rfl,dx,_,zq,pV _ Zk,p,z.2.1,oO prs ((zs.map (·.2)).take i),rfl,⟨⟨dx,d,zq,g⟩,nd'⟩,?_⟩;refine⟨C,dx,_,.ref d,zq,B.cl,B.nA,oE _,d,_,rfl,DPut.k (k:=Sum.inr z.2.1) g ?_,?_,λb o e hb=>?_,_,_,rfl⟩
    ·unfold mM;rw[aZ];exact oZ (m:=1000) Zo Zd
    ·rw[aA,xT,cE EG,sY]
    ·rw[aD hb];exact k b o e hb
   ·rintro σ P9 ⟨g,k,o2,o3,rfl⟩;refine Q0 _ ?_ k;rw[g,hlz,vQ (by rw[aZ];exact bQ _)]
def gY(rs:List RX):List (Str×Int):=rs.filterMap λr=>match r with|.has z m=>some (z,(m:Int))|_=>none
def nR:∀rs:List RX,oH rs=mM (gY rs)
 | []=>rfl
 | r::rs=>by
  have ih:=nR rs;unfold oH gY mM at ih ⊢;cases r<;>simp only [QZS,map_cons]<;>first|exact ih|rw[ih]
def Mq(rs:List RX):(gY rs).length=(oH rs).length:=by rw[nR];unfold mM;rw[aZ]
def Mr{rs:List RX}{z:Str}{m:Int}(h:(z,m)∈gY rs):∃m',.has z m'∈rs:=by
 obtain⟨r,hr,e⟩:=mem_filterMap.mp h;cases r<;>cases e;exact⟨_,hr⟩
def vO{rs:List RX}(h:RX.Whole rs):((gY rs).map (·.1)).Nodup:=by
 induction h with
 | nil=>exact nodup_nil
 | @snoc rs r hw hf ih=>
  have e:gY (rs++[r])=gY rs++gY [r]:=by unfold gY;rw[QZT]
  rw[e,iB];cases r with
  | has z m=>
   refine nodup_append.mpr ⟨ih,by simp[gY],λa ha b hb=>?_⟩;have J1:b=z:=by simpa [gY]using hb
   subst J1;rintro rfl;obtain⟨q,hq,rfl⟩:=Zmm.mp ha;obtain⟨m',hm⟩:=Mr (z:=q.1) (m:=q.2) hq;exact QZZ (hf.2.2 _ _ hm) (List.lt_irrefl _)
  | _=>simpa [gY]using ih
def Ms{rs:List RX}(h:RX.Whole rs)(z:Str):dM (gY rs) z=(vL rs z:Int):=by
 have h1:=dU rs [] (λ_=>0) (λ_=>rfl) z;rw[nR,sM (vO h),oS]at h1;injection h1
def Mt(prs:List (Str×Int))(n m:Str)(v:Int):dM (nQ prs n v) m=if m=n then v else dM prs m:=by
 have h1:=oS (nQ prs n v) m;rw[<- xT,cV]at h1;by_cases e:m=n
 ·rw[TD (by rw[e])]at h1;rw[TD e];injection h1 with h1
  exact h1.symm
 ·rw[P7 (λc=>e (by injection c)),oS]at h1;rw[P7 e];injection h1 with h1
  exact h1.symm
def xU:∀(cs:List (Str×Int))(prs:List (Str×Int))(g:Str->Nat),Ml g cs->(∀z,dM prs z=(g z:Int))->∀z,dM (oO prs cs) z=(Mj g cs z:Int)
 | [],prs,g,_,h=>h
 | c::cs,prs,g,hG,h=>by
  refine xU cs (nQ prs c.1 (dM prs c.1+c.2)) (eT g c) hG.2 (λz=>?_);rw[Mt,h];unfold eT eS;by_cases e:z=c.1
  ·rw[TD e,TD e,Int.toNat_of_nonneg hG.1]
  ·rw[P7 e,P7 e];exact h z
def Mu{f:Str->Nat}(hf:∀z,f z<=1000000000000){x:Dd}{q:Bool}{y:An}(hx:x.Ok)(h:vK f x q y):∀c∈Rq x y,0<=(f c.1:Int)+c.2/\(f c.1:Int)+c.2<=1000000000000:=by
 have hn:=hx.n;rcases h with⟨rfl,h⟩|⟨rfl,h1,h2⟩
 ·cases x with
  | add a n=>
   have:=hf a;simp only [bE]at h;split at h<;>cases h
   ·exact λc hc=>nomatch hc
   ·intro c hc;rw[Zms.mp hc];exact⟨by show(0:Int)<=(f a:Int)+(n:Int);omega,by show(f a:Int)+(n:Int)<=_;omega⟩
  | take a n=>
   have:=hf a;simp only [bE]at h;split at h<;>cases h
   ·exact λc hc=>nomatch hc
   ·intro c hc;rw[Zms.mp hc];exact⟨by show(0:Int)<=(f a:Int)+-(n:Int);omega,by show(f a:Int)+-(n:Int)<=_;omega⟩
  | move a b n=>
   have:=hf a;have:=hf b;simp only [bE]at h;split at h
   ·cases h;exact λc hc=>nomatch hc
   ·split at h<;>cases h
    ·exact λc hc=>nomatch hc
    ·intro c hc;rcases mem_cons.mp hc with rfl|hc
     ·exact⟨by show(0:Int)<=(f a:Int)+-(n:Int);omega,by show(f a:Int)+-(n:Int)<=_;omega⟩
     ·rw[Zms.mp hc];exact⟨by show(0:Int)<=(f b:Int)+(n:Int);omega,by show(f b:Int)+(n:Int)<=_;omega⟩
  | send g a n=>
   simp only [bE]at h;split at h<;>cases h;exact λc hc=>nomatch hc
  | fetch g a n=>
   simp only [bE]at h;split at h<;>cases h;exact λc hc=>nomatch hc
  | pass g k a n=>cases h
 ·cases x with
  | add a n=>cases h2
  | take a n=>cases h2
  | move a b n=>cases h2
  | send g a n=>
   have:=hf a;simp only [bE]at h1;simp only [cA,mem_cons,QZU,or_false]at h2;have hh:¬ f a<n:=λhh=>by rw[TD hh]at h1;cases h1
   rcases h2 with rfl|rfl
   ·exact λc hc=>nomatch hc
   ·intro c hc;rw[Zms.mp hc];exact⟨by show(0:Int)<=(f a:Int)+-(n:Int);omega,by show(f a:Int)+-(n:Int)<=_;omega⟩
  | fetch g a n=>
   have:=hf a;simp only [bE]at h1;simp only [cA,mem_cons,QZU,or_false]at h2;have hh:¬ 1000000000000<f a+n:=λhh=>by rw[TD hh]at h1;cases h1
   rcases h2 with rfl|rfl
   ·exact λc hc=>nomatch hc
   ·intro c hc;rw[Zms.mp hc];exact⟨by show(0:Int)<=(f a:Int)+(n:Int);omega,by show(f a:Int)+(n:Int)<=_;omega⟩
  | pass g k a n=>
   simp only [cA,mem_cons,QZU,or_false]at h2;rcases h2 with rfl|rfl|rfl<;>exact λc hc=>nomatch hc
def Cp(C:UF):Sp:=λvs H Q _=>∃(ra:UF)(rs:List RX)(as:List UF),vs=[.ref ra]/\RxsAt H ra rs as/\rs.length<=100/\RX.Whole rs ∧
 ∀(p dx d:UF)(H':Hp),H p=none->H d=none->H' p=some (.ins C dx [("amounts",.ref d)])->H' d=some (.dK (mM (gY rs)))->Same H H'->Q (.ref p) H'
def rO{C:UF}(T:Txt K mg)(GJ:Wn P w K mg base 1 "Book" C QZv [] (Bl C))(D:DefAt K mg "first_book" eI QZM):aG P w K mg base 3 "first_book" QZM (Cp C):=by
 refine D.go rJ (λvs H Q E h=>?_) (λf cdv A outer s H vs Q E hr h=>?_)
 ·obtain⟨ra,rs,as,rfl,_⟩:=h;rfl
 ·obtain⟨ra,rs,as,rfl,RR,hl,hw,q⟩:=h;have DG:Room 2 _:=hr.mono Zd;have le:=RR.len;refine⟨_,(mj (ms (R.jv GJ DG rfl (kt (vm rfl (js:=[none]) (N:=["row"]) (CompScope.by (aB eI) QZM rfl rfl Zk) (aP rfl) (wf (K:=K) (kq 0)) (λC s₂ H₂ fp=>⟨(sx (i:=0) (show(["row"]:List Str).Nodup by decide +kernel)),(wv (nw rq (li (mi (K:=K)) (kq 0) lc) mh)),(vf NE (kq 0) (ut lc) vg)⟩)) lf)))),?_⟩;refine⟨ra,rfl,⟨_,QYU RR.lst⟩,?_⟩;refine bT (dB K ra (as.map V.ref)) (by rw[aZ];omega) (λi ys H'=>∃zs:List Z,ys=fF zs/\Ee H' zs/\zs.map (·.2)=gY (rs.take i)/\Same H H'/\zs.length<=i) (λi ys H' ⟨zs,e,_,_,s',l'⟩=>⟨QYU (s' _ _ RR.lst),by rw[e];unfold fF;rw[aZ];exact l'⟩) ⟨[],rfl,(λ_ h=>nomatch h),rfl,(λ_ _ e=>e),bQ _⟩ (λi x ys H' hx ⟨zs,e,hz,ez,s',l'⟩=>?_) (λys H' ⟨zs,e,hz,ez,s',l'⟩=>?_)
  ·obtain⟨a,r,rfl,ha,C8,j7⟩:=(RR.same s').get hx;obtain⟨xs,g,x0,x1,x2⟩:=bO j7;have um:=cE C8;have YH:gY (rs.take i++[r])=gY (rs.take i)++gY [r]:=by unfold gY;rw[QZT]
   dsimp only [aK];refine⟨_,QYV g,_,x0,?_⟩;show if decide (bH r="has")=true then _ else _
   refine aQ (λh=>?_) (λh=>?_)
   ·obtain⟨z,m,rfl⟩:=zP (W9 h);refine⟨_,j7,λtp H2 s2 g2=>⟨zs++[(tp,z,(m:Int))],by rw[e];unfold fF;rw[iB];rfl,λy hy=>?_,?_,s'.trans s2,by simp;omega⟩⟩
    ·rcases aH hy with hy|rfl
     ·exact s2 _ _ (hz y hy)
     ·exact g2
    ·rw[iB,ez,um,YH];rfl
   ·refine⟨zs,e,hz,?_,s',Zo⟩;rw[ez,um,YH];have:gY [r]=[]:=by
     cases r with
     | has z m=>exact QZZ rfl (W8 h)
     | _=>rfl
    rw[this,append_nil]
  ·intro l RT;rw[aZ]at l' ez;rw[<- le,vQ (bQ _)]at ez;have s1:Same H (aI H' l (.lst ys)):=s'.trans (aF RT);have gl:(aI H' l (.lst ys)) l=some (.lst (fF zs)):=by rw[aA,e]
   have KW:Ee (aI H' l (.lst ys)) zs:=λz RU=>aN (hz z RU) RT
   generalize aI H' l (.lst ys)=H1 at s1 gl KW;intro x dx hx kr C7;have sB:Same H1 (aI (aI H1 dx (.own x)) x (.ins C dx [])):=λc o e=>by
    rw[aD (aE e hx),aD (aE e kr)];exact e
   refine⟨x,dx,.ref l,zs.map (·.2),rfl,aA,.inr ⟨l,zs,rfl,sB _ _ gl,λz RU=>sB _ _ (KW z RU),rfl⟩,by rw[ez];exact vO hw,by rw[aZ];omega,λH2 d hd h1 h2 k=>⟨rfl,?_⟩⟩;rw[ez]at h2;refine q x dx d H2 (s1.free hx) (s1.free (sB.free hd)) h1 h2 (λc o e=>k _ _ (sB _ _ (s1 _ _ e)) (aE (s1 _ _ e) hx))
def Rs{H:Hp}{ra:UF}{rs:List RX}{as:List UF}(hw:RX.Whole rs)(RR:RxsAt H ra rs as){n t:Nat}{p k:Str}{x:Dd}(hm:.came n t p k x∈rs):∃(a b:UF)(t':Nat),bC (bD [] (jA "came" rs as rs.length)) (Sum.inl (n:Int))=some (.ref a)/\H a=some (.tup [.str "came",.int (n:Int),.int (t':Int),.str p,.str k,.ref b])/\H b=some (.tup x.vs):=by
 obtain⟨j,r',a',hv,CB,yl,hj3,hj4⟩:=Mm RR.len hm (wd:="came") rfl;obtain⟨n',t',p',k',x',rfl⟩:=uZ hj3;have en:n=n':=by
  have:(Sum.inl (n:Int):bA)=Sum.inl (n':Int):=hj4;injection this with this
  omega
 subst en;have ecm:=fV hw hm (jW CB);injection ecm with _ _ e1 e2 e3
 subst e1;subst e2;subst e3;obtain⟨aj,rj,e0,by',MG,RV⟩:=RR.get (i:=j) (v:=.ref a') (by rw[jC,yl];rfl);injection e0 with e0
 subst e0;rw[CB]at MG;injection MG with e0
 subst e0;obtain⟨bx,gj,gj2⟩:=RV;exact⟨a',bx,t',hv,gj,gj2⟩
def qR(rs:List RX)(r:RX):gP (rs++[r])=gP rs++gP [r]:=by unfold gP;rw[QZT]
def Aa(T:Txt K mg)(D:DefAt K mg "done_changes" dC QZP):aG P w K mg base 1 "done_changes" QZP nH:=by
 refine D.go jH (λvs H Q E h=>?_) (λf cdv A outer s H vs Q E hr h=>?_)
 ·obtain⟨p,wd,xs,cs,as,rfl,_⟩:=h;rfl
 ·obtain⟨p,wd,xs,cs,as,rfl,hp,⟨one,other,nm,n,hd⟩,q⟩:=h;refine⟨_,(lv (re (nw rq (li (mi (K:=K)) (kq 0) lc) mh) (mj (ms (pi lf))) rp) (lv (re (nw rq (li (mi (K:=K)) (kq 0) lc) mh) (mj (ms (pi (kt (pi (kt (li (mi (K:=K)) (kq 0) lc) (kt (vh (li (mi (K:=K)) (kq 0) (vh lc))) lf))) (kt (pi (kt (li (mi (K:=K)) (kq 0) lc) (kt (li (mi (K:=K)) (kq 0) (vh lc)) lf))) lf))))) rp) (lv (re (nw (tz (K:=K)) (li (mi (K:=K)) (kq 0) lc) (pi (kt mh (kt mh lf)))) (mj (ms (pi (kt (pi (kt (li (mi (K:=K)) (kq 0) (vh lc)) (kt (vh (li (mi (K:=K)) (kq 0) (vh lc))) lf))) lf)))) rp) (mj (ms (pi (kt (pi (kt (li (mi (K:=K)) (kq 0) (vh lc)) (kt (li (mi (K:=K)) (kq 0) (vh lc)) lf))) lf))))))),?_⟩;have z1:∀ {H':Hp}{a:UF}{x:Str}{i:Int},H' a=some (.tup [.str x,.int i])->Ee H' [(a,x,i)]:=λh z hz=>by
   rw[Zms.mp hz];exact h
  have two:∀(nm:Str)(i:Int),H p=some (.tup xs)->mW xs (-2)=some (.str nm)->mW xs (-1)=some (.int i)->True:=λ_ _ _ _ _=>trivial
  cases hd with
  | add=>
   refine⟨_,QYV hp,_,rfl,?_⟩;refine⟨_,QYV hp,_,rfl,?_⟩;refine⟨_,QYV hp,_,rfl,Zs,λp1 H1 s1 g1=>⟨p1,_,rfl,.inr (QYV g1),rfl,rfl,?_⟩⟩;refine⟨_,QYV (s1 _ _ hp),_,rfl,_,QYV (s1 _ _ hp),_,rfl,Zs,λp2 H2 s2 g2=>⟨Zs,λp3 H3 s3 g3=>q p3 [(p2,nm,n)] H3 ((s1.trans s2).trans s3) g3 (z1 (s3 _ _ g2)) rfl⟩⟩
  | take=>
   refine⟨_,QYV hp,_,rfl,?_⟩;refine⟨_,QYV hp,_,rfl,?_⟩;refine⟨_,QYV hp,_,rfl,Zs,λp1 H1 s1 g1=>⟨p1,_,rfl,.inr (QYV g1),rfl,rfl,?_⟩⟩;refine⟨_,QYV (s1 _ _ hp),_,rfl,_,QYV (s1 _ _ hp),_,rfl,Zs,λp2 H2 s2 g2=>⟨Zs,λp3 H3 s3 g3=>q p3 [(p2,nm,-n)] H3 ((s1.trans s2).trans s3) g3 (z1 (s3 _ _ g2)) rfl⟩⟩
  | move=>
   refine⟨_,QYV hp,_,rfl,?_⟩;refine⟨_,QYV hp,_,rfl,?_⟩;refine⟨_,QYV hp,_,rfl,_,QYV hp,_,rfl,Zs,λp2 H2 s2 g2=>⟨_,QYV (s2 _ _ hp),_,rfl,_,QYV (s2 _ _ hp),_,rfl,Zs,λp3 H3 s3 g3=>⟨Zs,λp4 H4 s4 g4=>?_⟩⟩⟩;refine q p4 [(p2,one,-n),(p3,other,n)] H4 ((s2.trans s3).trans s4) g4 (λz hz=>?_) rfl;rcases mem_cons.mp hz with rfl|hz
   ·exact s4 _ _ (s3 _ _ g2)
   ·rw[Zms.mp hz];exact s4 _ _ g3
  | send=>
   refine⟨_,QYV hp,_,rfl,?_⟩;refine⟨_,QYV hp,_,rfl,?_⟩;refine⟨_,QYV hp,_,rfl,Zs,λp1 H1 s1 g1=>⟨p1,_,rfl,.inr (QYV g1),rfl,rfl,?_⟩⟩;refine⟨_,QYV (s1 _ _ hp),_,rfl,_,QYV (s1 _ _ hp),_,rfl,Zs,λp2 H2 s2 g2=>⟨Zs,λp3 H3 s3 g3=>q p3 [(p2,nm,-n)] H3 ((s1.trans s2).trans s3) g3 (z1 (s3 _ _ g2)) rfl⟩⟩
  | fetch=>
   refine⟨_,QYV hp,_,rfl,?_⟩;refine⟨_,QYV hp,_,rfl,?_⟩;refine⟨_,QYV hp,_,rfl,Zs,λp1 H1 s1 g1=>⟨p1,_,rfl,.inr (QYV g1),rfl,rfl,?_⟩⟩;refine⟨_,QYV (s1 _ _ hp),_,rfl,_,QYV (s1 _ _ hp),_,rfl,Zs,λp2 H2 s2 g2=>⟨Zs,λp3 H3 s3 g3=>q p3 [(p2,nm,n)] H3 ((s1.trans s2).trans s3) g3 (z1 (s3 _ _ g2)) rfl⟩⟩
  | pass=>
   refine⟨_,QYV hp,_,rfl,?_⟩;exact⟨Zd,λp1 H1 s1 g1=>q p1 [] H1 s1 g1 (λ_ h=>nomatch h) rfl⟩
def xV{H:Hp}{zs:List Z}(h:Ee H zs){i:Nat}{x:V}(hx:(fF zs)[i]?=some x):∃z,zs[i]?=some z/\x=.ref z.1/\H z.1=some (.tup [.str z.2.1,.int z.2.2]):=by
 unfold fF at hx;rw[jC]at hx;cases hn:zs[i]? with
 | none=>rw[hn]at hx;cases hx
 | some z=>
  rw[hn]at hx;cases hx;exact⟨z,rfl,rfl,h z (jW hn)⟩
def qS{C:UF}(T:Txt K mg)(B:Wo K C)(j8:aG P w K mg base 1 "done_changes" QZP nH)(i8:sJ P w K mg base 1 C "amount" QZy (iG C))(D:DefAt K mg "done_answer" dP QZN):aG P w K mg base 2 "done_answer" QZN (nJ C):=by
 refine D.go qA (λvs H Q E h=>?_) (λf cdv A outer s H vs Q E hr h=>?_)
 ·obtain⟨b,p,wd,xs,cs,as,prs,rfl,_⟩:=h;rfl
 ·obtain⟨b,p,wd,xs,cs,as,prs,rfl,bk,hp,hd,q⟩:=h;have h8:=hr;have h7:=hr;refine⟨_,(mj (ms (R.ee (R.jw (K:=K)) rfl T.b_tuple wF (kt (ml vj (sw (kt mh lf)) (vm rfl (js:=[none,none,some 0]) (N:=QZc) (CompScope.by (aB dP) QZN rfl rfl Zk) (pL (eQ rfl (eQ rfl nB))) (R.fj (K:=K) (mk j8 h8 rfl (kt (kq 1) lf))) (λC s₂ H₂ fp=>⟨(IR (K:=K) (n:=2) rfl (wr (sx (i:=0) (show(QZc:List Str).Nodup by decide +kernel)) (wr (sx (i:=1) (show(QZc:List Str).Nodup by decide +kernel)) M3))),FS,(ml sv (yx i8 h7 (kq 2) (kt (kq 0) lf)) (kq 1))⟩))) lf)))),?_⟩;refine⟨eK rfl,λl0 h0=>⟨p,wd,xs,cs,as,rfl,aF h0 _ _ hp,hd,λt zs H1 s1 g1 hz hm=>⟨t,rfl,⟨_,QYV g1⟩,?_⟩⟩⟩;have YI:Same H H1:=(aF h0).trans s1;have MH:=bk.same YI;have hlen:zs.length<=2:=by
   obtain⟨one,other,nm,n,hd⟩:=hd;have:=congrArg length hm;rw[aZ]at this;rw[this];cases hd<;>simp
  refine bT (lJ K t (fF zs)) (by unfold fF;rw[aZ];omega) (λi ys H'=>H'=H1/\ys=((zs.map (·.2)).take i).map λq=>V.int (dM prs q.1+q.2)) (λi ys H' ⟨e,e2⟩=>⟨by rw[e];exact QYV g1,by rw[e2,aZ,jD];exact min_le_left _ _⟩) ⟨rfl,rfl⟩ (λi x ys H' hx ⟨e,e2⟩=>?_) (λys H' ⟨e,e2⟩=>?_)
  ·subst e;obtain⟨z,hn,rfl,gz⟩:=xV hz hx;obtain⟨dx,d,h1,h2⟩:=id MH.ex;refine⟨z.1,_,rfl,QYV gz,rfl,_,_,rfl,_,_,rfl,rfl,dx,_,h1,pV _ Zk,b,z.2.1,prs,rfl,MH,rfl,?_⟩;rw[cE (x:=z.2) (by rw[jC,hn];rfl),iB,e2];rfl
  ·subst e;intro l1 h1;have e3:ys=cs.map λq=>V.int (dM prs q.1+q.2):=by
    rw[e2,hm];have:(fF zs).length=cs.length:=by rw[<- hm];unfold fF;rw[aZ,aZ]
    rw[this,List.take_length]
   have gl0:H' l0=some (.lst [.str "is"]):=s1 _ _ aA;refine⟨[.str "is"],ys,aF h1 _ _ gl0,aA,fA (by rw[e3,aZ,<- hm,aZ];simp;omega),λl2 h2=>⟨_,QYU aA,λt2 ht2=>?_⟩⟩;refine q t2 _ (((YI.trans (aF h1)).trans (aF h2)).trans (aF ht2)) ?_;rw[aA,e3];rfl
def Mv{C:UF}(T:Txt K mg)(B:Wo K C)(j8:aG P w K mg base 1 "done_changes" QZP nH)(d9:aG P w K mg base 1 "asks_of" QZP kZ)(i8:sJ P w K mg base 1 C "amount" QZy (iG C))(C1:aG P w K mg base 2 "done_answer" QZN (nJ C))(D:DefAt K mg "early" oV QZN):aG P w K mg base 3 "early" QZN (Bj C):=by
 refine D.go lS (λvs H Q E h=>?_) (λf cdv A outer s H vs Q E hr h=>?_)
 ·obtain⟨b,p,wd,xs,cs,as,prs,rfl,_⟩:=h;rfl
 ·obtain⟨b,p,wd,xs,cs,as,prs,rfl,bk,hp,hd,q⟩:=h;have h8:Room 1 _:=hr.mono Zd;have d6:Room 1 _:=hr.mono Zd;have h7:Room 1 _:=hr.mono Zd;have A2:=hr;refine⟨_,(lv (AT PassesOwn.never rfl (R.fj (K:=K) (mk j8 h8 rfl (kt (kq 1) lf))) (IR (K:=K) (n:=2) rfl (wr (sx (i:=2) lS.nd) (wr (sx (i:=3) lS.nd) M3))) (lv (o0 (i:=4) lS.nd (yx i8 h7 (kq 0) (kt (kq 2) lf))) (lv (re (ve (xo (nw xz (kq 3) lc) (xx (nw xz (ml sv (kq 4) (kq 3)) lc)))) (mj (ms (pi (kt mh (kt (kq 4) lf))))) rp) (mj (re (ve (xo (nw R.gt (kq 3) lc) (xx (nw R.gt (ml sv (kq 4) (kq 3)) (R.gI rfl T.g_MOST))))) (mj (ms (pi (kt mh (kt (kq 4) lf))))) rp))))) (lv (re (nw R.gt (su (sy (K:=K)) rfl T.b_len aO (kt (mk d9 d6 rfl (kt (kq 1) lf)) lf)) lc) (mj (ms xp)) rp) (mj (ms (mk C1 A2 rfl (kt (kq 0) (kt (kq 1) lf))))))),?_⟩;refine⟨p,wd,xs,cs,as,rfl,hp,hd,λt zs H1 s1 g1 hz hm=>⟨t,rfl,⟨_,QYV g1⟩,?_⟩⟩;have MH:=bk.same s1;have ku:=s1 _ _ hp;refine fN (lJ K t (fF zs)) (λi σ H'=>Same H1 H'/\(∃o2 o3 o4:Option V,σ=[some (.ref b),some (.ref p),o2,o3,o4])/\iH (dM prs) (lO (dM prs) cs as) cs=iH (dM prs) (lO (dM prs) cs as) (cs.drop i)) (λi σ H' ⟨s',_⟩=>QYV (s' _ _ g1)) ⟨Same.refl _,⟨_,_,_,rfl⟩,rfl⟩ ?_ ?_
  ·rintro i x σ H2 hx ⟨s2,⟨o2,o3,o4,rfl⟩,he⟩;obtain⟨z,hn,rfl,gz⟩:=xV (λz m=>s2 _ _ (hz z m)) hx;have YJ:=MH.same s2;obtain⟨dx,d,h1,h2⟩:=id YJ.ex;have HV:cs.drop i=z.2::cs.drop (i+1):=by
    have:cs[i]?=some z.2:=by rw[<- hm,jC,hn];rfl
    obtain⟨hi,e⟩:=Zgs.mp this;rw[List.drop_eq_getElem_cons hi,e]
   rw[HV,wK]at he;refine⟨z.1,_,rfl,QYV gz,rfl,_,_,rfl,_,_,rfl,rfl,dx,_,h1,pV _ Zk,b,z.2.1,prs,rfl,YJ,?_⟩;dsimp only [aK];have fin:∀u:TV,iH (dM prs) (lO (dM prs) cs as) cs=u->∀v H',Same H2 H'->RepT H' 1 u v->Q v H':=λu e v H' s' r=>q v H' ((s1.trans s2).trans s') (by rw[e];exact r)
   refine aAy (t:=Nd _ _) (λv H'=>v=decide (z.2.2<0/\dM prs z.2.1+z.2.2<0)/\H'=H2) (λk hk=>?_) ?_
   ·refine aQ (λh=>?_) (λh=>?_)
    ·exact hk _ _ ⟨by rw[Bool.decide_and,h];rfl,rfl⟩
    ·exact hk _ _ ⟨by rw[Bool.decide_and,h];rfl,rfl⟩
   rintro v H' ⟨rfl,rfl⟩;refine aQ (λh=>?_) (λh=>?_)
   ·rw[TD (W9 h)]at he;exact⟨Zs,λt2 H3 s3 g3=>fin _ he _ H3 s3 ⟨t2,_,rfl,g3,.cons .s (.cons .i .nil)⟩⟩
   rw[P7 (W8 h)]at he;dsimp only [kP];refine aAy (t:=Nd _ _) (λv P9=>v=decide (0<z.2.2/\1000000000000<dM prs z.2.1+z.2.2)/\P9=H') (λk hk=>?_) ?_
   ·refine aQ (λh=>?_) (λh=>?_)
    ·exact hk _ _ ⟨by rw[Bool.decide_and,h];rfl,rfl⟩
    ·exact hk _ _ ⟨by rw[Bool.decide_and,h];rfl,rfl⟩
   rintro v P9 ⟨rfl,rfl⟩;refine aQ (λh=>?_) (λh=>?_)
   ·rw[TD (W9 h)]at he;exact⟨Zs,λt2 H3 s3 g3=>fin _ he _ H3 s3 ⟨t2,_,rfl,g3,.cons .s (.cons .i .nil)⟩⟩
   rw[P7 (W8 h)]at he;exact⟨s2,⟨_,_,_,rfl⟩,he⟩
  ·rintro σ H2 ⟨s2,⟨o2,o3,o4,rfl⟩,he⟩;have el:(fF zs).length=cs.length:=by rw[<- hm];unfold fF;rw[aZ,aZ]
   rw[el,List.drop_length]at he;have ED:iH (dM prs) (lO (dM prs) cs as) cs=lO (dM prs) cs as:=he;refine⟨p,wd,xs,cs,as,rfl,s2 _ _ ku,hd,λt2 us H3 s3 g3 ha=>⟨us,.inr (QYV g3),?_⟩⟩;have yk:us.length=as.length:=ha.length.symm;refine aQ (λh=>?_) (λh=>?_)
   ·have h':0<us.length:=by have:=W9 h;omega
    refine q _ H3 ((s1.trans s2).trans s3) ?_;rw[ED];unfold lO;rw[P7 (λe=>by rw[yk,e]at h';exact QZZ h' (lt_irrefl _))];exact RepT.scal rfl
   ·have h':¬ 0<us.length:=by have:=W8 h;omega
    have e0:as=[]:=List.length_eq_zero_iff.mp Zo;refine⟨b,p,wd,xs,cs,as,prs,rfl,MH.same (s2.trans s3),s3 _ _ (s2 _ _ ku),hd,λt4 H4 s4 g4=>?_⟩;refine q _ H4 (((s1.trans s2).trans s3).trans s4) ?_;rw[ED];unfold lO;rw[TD e0];exact⟨t4,_,rfl,g4,uO (Jo _ _)⟩
def xW(f:Str->Int)(wd:Str)(cs:List (Str×Int))(as:List (Str×List V))(h:Nat):TV:=match as[h]? with
 | some q=>.tp [tS "no",tS q.1]
 | none=>if wd="pass" then .tp [tS "ok"] else .tp ((isT f cs).map .sc)
def Mw(C:UF):Sp:=λvs H Q _=>∃b p wd xs cs as prs,∃h:Nat,vs=[.ref b,.ref p,.int h]/\BookAt C H b prs/\H p=some (.tup xs)/\Ss wd xs cs as/\∀v H',Same H H'->RepT H' 1 (xW (dM prs) wd cs as h) v->Q v H'
def Rt{C:UF}(T:Txt K mg)(B:Wo K C)(d9:aG P w K mg base 1 "asks_of" QZP kZ)(C1:aG P w K mg base 2 "done_answer" QZN (nJ C))(D:DefAt K mg "late" uU QZn):aG P w K mg base 3 "late" QZn (Mw C):=by
 refine D.go Bo (λvs H Q E h=>?_) (λf cdv A outer s H vs Q E hr h=>?_)
 ·obtain⟨b,p,wd,xs,cs,as,prs,hh,rfl,_⟩:=h;rfl
 ·obtain⟨b,p,wd,xs,cs,as,prs,hh,rfl,bk,hp,hd,q⟩:=h;have d6:Room 1 _:=hr.mono Zd;have A2:=hr;refine⟨_,(lv (o0 (i:=3) Bo.nd (mk d9 d6 rfl (kt (kq 1) lf))) (lv (re (nw xz (kq 2) (su (sy (K:=K)) rfl T.b_len aO (kt (kq 3) lf))) (mj (ms (pi (kt mh (kt (li (mi (K:=K)) (li (mi (K:=K)) (kq 3) (kq 2)) lc) lf))))) rp) (lv (re (nw rq (li (mi (K:=K)) (kq 1) lc) mh) (mj (ms (pi (kt mh lf)))) rp) (mj (ms (mk C1 A2 rfl (kt (kq 0) (kt (kq 1) lf)))))))),?_⟩;refine⟨p,wd,xs,cs,as,rfl,hp,hd,λt us H1 s1 g1 ha=>?_⟩;dsimp only [aK];have el:=ha.length;refine⟨us,.inr (QYV g1),?_⟩;refine aQ (λh=>?_) (λh=>?_)
  ·have h':hh<us.length:=by have:=W9 h;omega
   obtain⟨h2,a,d,e,ga,gd⟩:=Paired.get' (j:=hh) ha h';have e':us[hh]?=some (.ref a):=by rw[gZ h',e]
   refine⟨us,QYV g1,_,bJ e',_,QYV ga,_,rfl,Zs,λt2 H2 s2 g2=>q _ H2 (s1.trans s2) ?_⟩;unfold xW;rw[gZ h2];exact⟨t2,_,rfl,g2,.cons .s (.cons .s .nil)⟩
  ·have h':¬ hh<us.length:=by have:=W8 h;omega
   have en:as[hh]?=none:=List.getElem?_eq_none Zo;have ku:=s1 _ _ hp;refine⟨_,QYV ku,_,Bp hd,?_⟩;show if decide (wd="pass")=true then _ else _
   refine aQ (λh=>?_) (λh=>?_)
   ·refine⟨Zs,λt2 H2 s2 g2=>q _ H2 (s1.trans s2) ?_⟩;unfold xW;rw[en];dsimp only;rw[TD (W9 h)];exact⟨t2,_,rfl,g2,.cons .s .nil⟩
   ·refine⟨b,p,wd,xs,cs,as,prs,rfl,bk.same s1,ku,hd,λt2 H2 s2 g2=>q _ H2 (s1.trans s2) ?_⟩;unfold xW;rw[en];dsimp only;rw[P7 (W8 h)];exact⟨t2,_,rfl,g2,uO (Jo _ _)⟩
def jB(f:Str->Nat)(x:Dd):List An:=match bE f x with|some y=>[y]|none=>cA f x
def Mx{f:Str->Nat}{x:Dd}{y:An}(h:y∈jB f x):∃q,vK f x q y:=by
 unfold jB at h;cases e:bE f x with
 | some y'=>rw[e]at h;rw[Zms.mp h];exact⟨false,.inl ⟨rfl,e⟩⟩
 | none=>rw[e]at h;exact⟨true,.inr ⟨rfl,e,h⟩⟩
def Ab(x:Dd):Ss x.wd x.vs (mJ x) (dQ x):=by
 cases x with
 | add a n=>exact⟨a,a,a,_,.add⟩
 | take a n=>exact⟨a,a,a,_,.take⟩
 | move a b n=>exact⟨a,b,a,_,.move⟩
 | send g a n=>exact⟨g,a,a,_,.send⟩
 | fetch g a n=>exact⟨g,a,a,_,.fetch⟩
 | pass g g' a n=>exact⟨g,g',a,_,.pass⟩
def Ac{prs:List (Str×Int)}{f:Str->Nat}(am:∀z,dM prs z=(f z:Int)){x:Dd}(hx:x.Ok) :
  iH (dM prs) (lO (dM prs) (mJ x) (dQ x)) (mJ x)=(match bE f x with|some y=>RX.tvs y.vs|none=>.sc .non):=by
 have hn:=hx.n
 cases x with
 | add a n=>
  have hn:1<=n/\n<=1000000000000:=hn;show(if (n:Int)<0/\dM prs a+(n:Int)<0 then _ else if 0<(n:Int)/\1000000000000<dM prs a+(n:Int) then TV.tp [tS "full",tI (dM prs a)] else TV.tp [tS "is",tI (dM prs a+(n:Int))])=(match (if 1000000000000<f a+n then some (An.full (f a)) else some (.is1 (f a+n))) with|some y=>RX.tvs y.vs|none=>.sc .non);rw[P7 Zo,am];by_cases h:1000000000000<f a+n
  ·rw[TD h,TD Zo];rfl
  ·rw[P7 h,P7 Zo];rfl
 | take a n=>
  have hn:1<=n/\n<=1000000000000:=hn;show(if -(n:Int)<0/\dM prs a+-(n:Int)<0 then TV.tp [tS "short",tI (dM prs a)] else if 0 < -(n:Int)/\1000000000000<dM prs a+-(n:Int) then _ else TV.tp [tS "is",tI (dM prs a+-(n:Int))])=(match (if f a<n then some (An.short (f a)) else some (.is1 (f a-n))) with|some y=>RX.tvs y.vs|none=>.sc .non);rw[am];by_cases h:f a<n
  ·rw[TD h,TD Zo];rfl
  ·rw[P7 h,P7 Zo,P7 Zo,show(f a:Int)+-(n:Int)=((f a-n:Nat):Int) by omega];rfl
 | move a b n=>
  have hn:1<=n/\n<=1000000000000:=hn;show(if -(n:Int)<0/\dM prs a+-(n:Int)<0 then TV.tp [tS "short",tI (dM prs a)] else if 0 < -(n:Int)/\1000000000000<dM prs a+-(n:Int) then TV.tp [tS "full",tI (dM prs a)] else if (n:Int)<0/\dM prs b+(n:Int)<0 then TV.tp [tS "short",tI (dM prs b)] else if 0<(n:Int)/\1000000000000<dM prs b+(n:Int) then TV.tp [tS "full",tI (dM prs b)] else TV.tp [tS "is",tI (dM prs a+-(n:Int)),tI (dM prs b+(n:Int))])=(match (if f a<n then some (An.short (f a)) else if 1000000000000<f b+n then some (.full (f b)) else some (.is2 (f a-n) (f b+n))) with|some y=>RX.tvs y.vs|none=>.sc .non);rw[am,am];by_cases h:f a<n
  ·rw[TD h,TD Zo];rfl
  ·rw[P7 h,P7 Zo,P7 Zo,P7 Zo];by_cases h2:1000000000000<f b+n
   ·rw[TD h2,TD Zo];rfl
   ·rw[P7 h2,P7 Zo,show(f a:Int)+-(n:Int)=((f a-n:Nat):Int) by omega];rfl
 | send g a n=>
  have hn:1<=n/\n<=1000000000000:=hn;show(if -(n:Int)<0/\dM prs a+-(n:Int)<0 then TV.tp [tS "short",tI (dM prs a)] else if 0 < -(n:Int)/\1000000000000<dM prs a+-(n:Int) then _ else TV.sc .non)=(match (if f a<n then some (An.short (f a)) else none) with|some y=>RX.tvs y.vs|none=>.sc .non);rw[am];by_cases h:f a<n
  ·rw[TD h,TD Zo];rfl
  ·rw[P7 h,P7 Zo,P7 Zo]
 | fetch g a n=>
  have hn:1<=n/\n<=1000000000000:=hn;show(if (n:Int)<0/\dM prs a+(n:Int)<0 then _ else if 0<(n:Int)/\1000000000000<dM prs a+(n:Int) then TV.tp [tS "full",tI (dM prs a)] else TV.sc .non)=(match (if 1000000000000<f a+n then some (An.full (f a)) else none) with|some y=>RX.tvs y.vs|none=>.sc .non);rw[P7 Zo,am];by_cases h:1000000000000<f a+n
  ·rw[TD h,TD Zo];rfl
  ·rw[P7 h,P7 Zo]
 | pass g g' a n=>rfl
def Fs{prs:List (Str×Int)}{f:Str->Nat}(am:∀z,dM prs z=(f z:Int)){x:Dd}(hx:x.Ok)(he:bE f x=none){h:Nat}{y:An}(hy:(cA f x)[h]?=some y) :
  xW (dM prs) x.wd (mJ x) (dQ x) h=RX.tvs y.vs:=by
 cases x with
 | send g a n=>
  have hn:n<=f a:=by
   by_cases hh:f a<n
   ·rw[show bE f (.send g a n)=some (.short (f a)) from TD hh]at he;cases he
   ·omega
  match h,hy with
  | 0,hy=>cases hy;rfl
  | 1,hy=>
   cases hy;show TV.tp [tS "is",tI (dM prs a+-(n:Int))]=_;rw[am,show(f a:Int)+-(n:Int)=((f a-n:Nat):Int) by omega];rfl
  | h+2,hy=>cases hy
 | fetch g a n=>
  match h,hy with
  | 0,hy=>cases hy;rfl
  | 1,hy=>
   cases hy;show TV.tp [tS "is",tI (dM prs a+(n:Int))]=_;rw[am];rfl
  | h+2,hy=>cases hy
 | pass g g' a n=>
  match h,hy with
  | 0,hy=>cases hy;rfl
  | 1,hy=>cases hy;rfl
  | 2,hy=>cases hy;rfl
  | h+3,hy=>cases hy
 | _=>cases hy
def Cq{H:Hp}{xs:List V}{v:V}(h:RepT H 1 (RX.tvs xs) v):∃a,v=.ref a/\H a=some (.tup xs):=by
 obtain⟨a,ys,rfl,g,p⟩:=h;have:∀ {xs ys:List V},Paired (RepT H 0) (xs.map TV.sc) ys->ys=xs:=by
  intro xs;induction xs with
  | nil=>intro ys p;cases p;rfl
  | cons x xs ih=>intro ys p;cases p with|cons h t=>rw[ih t,h.1]
 rw[this p]at g;exact⟨a,rfl,g⟩
def nS{f:Str->Nat}{x:Dd}(he:bE f x=none):(cA f x).length=(dQ x).length+1:=by
 cases x with
 | add a n=>simp only [bE]at he;split at he<;>cases he
 | take a n=>simp only [bE]at he;split at he<;>cases he
 | move a b n=>simp only [bE]at he;split at he<;>first|cases he|(split at he<;>cases he)
 | _=>rfl
def Ti(H:Hp)(zs:List (UF×An)):Prop:=∀z∈zs,H z.1=some (.tup z.2.vs)
def aA4(C:UF):Sp:=λvs H Q _=>∃(b p:UF)(x:Dd)(prs:List (Str×Int))(f:Str->Nat),vs=[.ref b,.ref p]/\BookAt C H b prs/\H p=some (.tup x.vs)/\x.Ok/\(∀z,dM prs z=(f z:Int)) ∧
 ∀(l:UF)(zs:List (UF×An))(H':Hp),H' l=some (.lst (zs.map λz=>V.ref z.1))->Ti H' zs->zs.map (·.2)=jB f x->Same H H'->Q (.ref l) H'
def nU{C:UF}(T:Txt K mg)(DH:aG P w K mg base 3 "early" QZN (Bj C))(GK:aG P w K mg base 3 "late" QZn (Mw C))(d9:aG P w K mg base 1 "asks_of" QZP kZ)(D:DefAt K mg "right_answers" cW QZN):aG P w K mg base 4 "right_answers" QZN (aA4 C):=by
 refine D.go hV (λvs H Q E h=>?_) (λf cdv A outer s H vs Q E hr h=>?_)
 ·obtain⟨b,p,x,prs,f,rfl,_⟩:=h;rfl
 ·obtain⟨b,p,x,prs,f,rfl,bk,gp,hx,am,q⟩:=h;have AH:Room 3 _:=hr;have DI:Room 3 _:=hr;have d6:Room 1 _:=hr.mono Zd;refine⟨_,(lv (o0 (i:=2) hV.nd (mk DH AH rfl (kt (kq 0) (kt (kq 1) lf)))) (lv (re (nw R.fm (kq 2) xp) (mj (ms (sw (kt (kq 2) lf)))) rp) (mj (ms (vm rfl (js:=[none,some 0,some 1]) (N:=["heard","book","deed"]) (CompScope.by (aB cW) ["book","deed","known"] rfl rfl Zk) (aP rfl) (PP rfl T.b_range (kt (ml sv (su (sy (K:=K)) rfl T.b_len aO (kt (mk d9 d6 rfl (kt (kq 1) lf)) lf)) lc) lf)) (λC s₂ H₂ fp=>⟨(sx (i:=0) (show(["heard","book","deed"]:List Str).Nodup by decide +kernel)),FS,(mk GK DI rfl (kt (kq 1) (kt (kq 2) (kt (kq 0) lf))))⟩)))))),?_⟩;refine⟨b,p,x.wd,x.vs,mJ x,dQ x,prs,rfl,bk,gp,Ab x,λv H1 s1 hv=>?_⟩;rw[Ac am hx]at hv;dsimp only [aK];cases e:bE f x with
  | some y=>
   rw[e]at hv;obtain⟨a,rfl,ga⟩:=Cq hv;refine⟨eK rfl,λl hl=>q l [(a,y)] _ aA (λz hz=>?_) ?_ (s1.trans (aF hl))⟩
   ·rw[Zms.mp hz];exact aN ga hl
   ·unfold jB;rw[e];rfl
  | none=>
   rw[e]at hv;obtain⟨rfl,_⟩:=hv;refine⟨p,x.wd,x.vs,mJ x,dQ x,rfl,s1 _ _ gp,Ab x,λt us H2 s2 g2 ha=>⟨us,.inr (QYV g2),((cA f x).length:Int),?_,Zo,?_,?_⟩⟩
   ·rw[nS e,ha.length];rfl
   ·have:=nS e;have:(dQ x).length<=2:=by cases x<;>exact QZY rfl
    omega
   ·have RT:(cA f x).length<=3:=by
     have:=nS e;have:(dQ x).length<=2:=by cases x<;>exact QZY rfl
     omega
    have eN:((cA f x).length:Int).toNat=(cA f x).length:=by omega
    refine bT (dZ 0 ((cA f x).length:Int).toNat) (by rw[eJ];omega) (λi ys H'=>∃zs:List (UF×An),ys=zs.map (λz=>V.ref z.1)/\Ti H' zs/\zs.map (·.2)=(cA f x).take i/\Same H H') (λi ys H' ⟨zs,e1,_,e2,_⟩=>⟨trivial,?_⟩) ⟨[],rfl,(λ_ h=>nomatch h),rfl,s1.trans s2⟩ (λi v ys H' zl ⟨zs,e1,hz,e2,s'⟩=>?_) (λys H' ⟨zs,e1,hz,e2,s'⟩=>?_)
    ·have:=congrArg length e2;rw[aZ,jD]at this;rw[e1,aZ];omega
    ·obtain⟨rfl,hi⟩:=lC zl;rw[eN]at hi;have hy:(cA f x)[i]?=some (cA f x)[i]:=gZ hi;dsimp only [aK];refine⟨b,p,x.wd,x.vs,mJ x,dQ x,prs,i,rfl,bk.same s',s' _ _ gp,Ab x,λv' P9 tm MI=>?_⟩;rw[Fs am hx e hy]at MI;obtain⟨a,rfl,ga⟩:=Cq MI;refine⟨zs++[(a,(cA f x)[i])],by rw[e1,iB];rfl,λz vt=>?_,by rw[iB,e2,cE hy];rfl,s'.trans tm⟩;rcases aH vt with vt|rfl
     ·exact tm _ _ (hz z vt)
     ·exact ga
    ·intro l hl;rw[eJ,eN,vQ (bQ _)]at e2;refine q l zs _ (by rw[aA,e1]) (λz vt=>aN (hz z vt) hl) ?_ (s'.trans (aF hl));rw[e2];unfold jB;rw[e]
def qT(rs:List RX)(n:Nat):Option Dd:=rs.findSome? λr=>match r with|.came m _ _ _ x=>if m=n then some x else none|_=>none
def xX{rs:List RX}(hw:RX.Whole rs){n t:Nat}{p k:Str}{x:Dd}(hm:.came n t p k x∈rs):qT rs n=some x:=by
 unfold qT;cases e:rs.findSome? (λr=>match r with|.came m _ _ _ x=>if m=n then some x else none|_=>none) with
 | none=>
  have:=List.findSome?_eq_none_iff.mp e _ hm;simp at this
 | some x'=>
  obtain⟨r,hr,er⟩:=List.exists_of_findSome?_eq_some e
  cases r with
  | came m t' p' k' x''=>
   dsimp only at er;split at er
   ·rename_i LG;cases er;subst LG;have:=fV hw hm hr;cases this;rfl
   ·cases er
  | _=>cases er
def Tj(rs:List RX)(f:Str->Nat):RX->(Str->Nat)
 | .done n _ y=>(match qT rs n with|some x=>after f x y|none=>f)
 | _=>f
def gQ(rs:List RX)(i:Nat):Str->Nat:=(rs.take i).foldl (Tj rs) (vL rs)
def qU{rs:List RX}{i:Nat}{r:RX}(h:rs[i]?=some r):gQ rs (i+1)=Tj rs (gQ rs i) r:=by
 unfold gQ;rw[cE h,foldl_append];rfl
def mK(rs:List RX)(i:Nat):RX->Prop
 | .done n _ y=>∀x,qT rs n=some x->y∈jB (gQ rs i) x
 | _=>True
def vP(rs:List RX):Option Nat->Prop
 | none=>∀i r,rs[i]?=some r->mK rs i r
 | some i=>(∃r,rs[i]?=some r/\¬ mK rs i r)/\∀j r,j<i->rs[j]?=some r->mK rs j r
def Ft{rs:List RX}(h:∀r∈rs,cI r):∀z,vL rs z<=1000000000000:=by
 unfold vL;have:∀(rs:List RX)(f:Str->Nat),(∀r∈rs,cI r)->(∀z,f z<=1000000000000)->∀z,rs.foldl (λf r=>match r with|.has z m=>eS f z m|_=>f) f z<=1000000000000:=by
  intro rs;induction rs with
  | nil=>intro f _ hf z;exact hf z
  | cons r rs ih=>
   intro f h hf;refine ih _ (λq hq=>h q (oP _ hq)) ?_;have hr:=h r jI
   cases r with
   | has z m=>exact iZ hf hr
   | _=>exact hf
 exact this rs _ h λ_=>zero_le _
def Mz{u v:V}(hu:(∃z,u=.str z)∨∃n,u=.int n)(hv:(∃z,v=.str z)∨∃n,v=.int n):qY u v=true↔u=v:=by
 rcases hu with⟨z,rfl⟩|⟨n,rfl⟩<;>rcases hv with⟨z',rfl⟩|⟨n',rfl⟩<;>simp[qY]
def xY{xs ys:List V}(hx:∀u∈xs,(∃z,u=.str z)∨∃n,u=.int n)(hy:∀u∈ys,(∃z,u=.str z)∨∃n,u=.int n):kQ xs ys=true↔xs=ys:=by
 unfold kQ;rw[Bool.and_eq_true_iff];constructor
 ·rintro⟨h1,h2⟩;have hl:xs.length=ys.length:=by simpa using h2
  refine ext_getElem hl λj a b=>?_;have:=all_eq_true.mp h1 j (by simp;omega);have e1:xs.getD j .non=xs[j]:=by simp[List.getD,a]
  have e2:ys.getD j .non=ys[j]:=by simp[List.getD,b]
  rw[e1,e2]at this;exact(Mz (hx _ (getElem_mem a)) (hy _ (getElem_mem b))).mp this
 ·rintro rfl;refine⟨all_eq_true.mpr λj hj=>?_,Zs⟩;have hj:j<xs.length:=by simpa using hj
  have e:xs.getD j .non=xs[j]:=by simp[List.getD,hj]
  rw[e];exact(Mz (hx _ (getElem_mem hj)) (hx _ (getElem_mem hj))).mpr rfl
def xZ(y:An):∀u∈y.vs,(∃z,u=.str z)∨∃n,u=.int n:=by
 intro u hu;cases y<;>simp only [An.vs,mem_cons,QZU,or_false]at hu<;>rcases hu with rfl|rfl|rfl<;>first|exact .inl ⟨_,rfl⟩|exact .inr ⟨_,rfl⟩
def Yf{y y':An}(h:y.vs=y'.vs):y=y':=by
 cases y<;>cases y'<;>simp only [An.vs]at h<;>first
  | rfl
  | (injection h with h1 h2;injection h1 with h1;exact QZZ h1 Zk)
  | (simp at h;rw[An.is1.injEq];omega)
  | (simp at h;rw[An.is2.injEq];omega)
  | (simp at h;rw[An.short.injEq];omega)
  | (simp at h;rw[An.full.injEq];omega)
  | (simp at h;rw[h])
  | (simp at h)
def aA5{y:An}{zs:List (UF×An)}:zH y.vs (zs.map λz=>(z.1,z.2.vs))=true↔y∈zs.map (·.2):=by
 unfold zH;rw[any_map,any_eq_true];constructor
 ·rintro⟨z,hz,e⟩;have:=Yf ((xY (xZ _) (xZ _)).mp e);rw[<- this];exact mem_map_of_mem hz
 ·intro h;obtain⟨z,hz,e⟩:=Zmm.mp h;exact⟨z,hz,(xY (xZ _) (xZ _)).mpr (by rw[e])⟩
def Ru(y y':An):jT y.vs y'.vs:=λj u v h1 h2=>by
 have f:∀ {y:An}{u:V},u∈y.vs->eC u=true:=λ{y u} hu=>by rcases xZ y u hu with⟨z,rfl⟩|⟨n,rfl⟩<;>rfl
 exact⟨f (jW h1),f (jW h2)⟩
def Na{CN fI:UF}(XA:aAP K CN "row")(D:InitAt K fI "NoRows.__init__" bG QZQ):sP P w K mg base 1 CN fI "row":=by
 refine D.go lA rfl (λcdv A outer s H vs Q E hr h=>?_);obtain⟨e,t,v,rfl,he,q⟩:=h;exact⟨_,(mj (R.iw (K:=K) (kq 0) (kq 1))),CN,t,he,XA,q⟩
def aA6(CR:UF):Sp:=λvs H Q E=>∃(ra:UF)(rs:List RX)(as:List UF),vs=[.ref ra]/\RxsAt H ra rs as/\(∀r∈rs,cI r)/\rs.length<=60 ∧
 (∀(o:Option Nat)(H':Hp),RX.Whole rs->vP rs o->Same H H'->Q (Fa o) H') ∧
 (∀(i:Nat)(dx:UF)(H':Hp),qI rs (some i)->Same H H'->H' dx=some (.xd [("row",.int (i:Int))])->E (.ref CR) (some dx) H')
def qV{C CR fI:UF}(T:Txt K mg)(AI:XClsI K mg "NoRows" CR fI)(AJ:sP P w K mg base 1 CR fI "row")(va:aG P w K mg base 7 "first_odd" QZM Td)(oy:aG P w K mg base 1 "by_numbers" QZk Cl)(oz:aG P w K mg base 3 "first_book" QZM (Cp C))(X4:aG P w K mg base 4 "right_answers" QZN (aA4 C))(pb:aG P w K mg base 2 "changes_of" QZs Tf)(ll:sJ P w K mg base 2 C "change" QZl (tD C))(D:DefAt K mg "first_wrong" eY QZM):lN P w K mg base 8 "first_wrong" QZM (aA6 CR):=by
 refine D.goX bY (λvs H Q E h=>?_) (λf cdv A outer s H vs Q E hr h=>?_)
 ·obtain⟨ra,rs,as,rfl,_⟩:=h;rfl
 ·obtain⟨ra,rs,as,rfl,RR,hf,hl,q,qE⟩:=h;have pf:Room 7 _:=hr;have lq:Room 1 _:=hr.mono Zd;have lx:Room 3 _:=hr.mono Zd;have S0:Room 4 _:=hr.mono Zd;have ly:Room 2 _:=hr.mono Zd;have Z3:Room 2 _:=hr.mono Zd;have yr:Room 2 _:=hr.mono Zd;have J8:=jK hr;have wm:=hr.units;have le:=RR.len;refine⟨_,(lv (o0 (i:=1) bY.nd (mk va pf rfl (kt (kq 0) lf))) (lv (re (nw R.fm (kq 1) xp) (mj (R.iy AI AJ yr wY rfl rfl (kt (kq 1) lf))) rp) (lv (o0 (i:=2) bY.nd (mk oy lq rfl (kt (kq 0) (kt mh lf)))) (lv (o0 (i:=3) bY.nd (mk oz lx rfl (kt (kq 0) lf))) (lv (AT Em rfl (R.gw (K:=K) rfl T.b_enumerate (kq 0)) (IR (K:=K) (n:=2) rfl (wr (sx (i:=4) bY.nd) (wr (sx (i:=5) bY.nd) M3))) (mj (re (nw rq (li (mi (K:=K)) (kq 5) lc) mh) (lv (o0 (i:=6) bY.nd (li (mi (K:=K)) (R.dz J8 (kq 2) (li (mi (K:=K)) (kq 5) lc)) lc)) (lv (re (nw (R.jd wm) (li (mi (K:=K)) (kq 5) lc) (mk X4 S0 rfl (kt (kq 3) (kt (kq 6) lf)))) (mj (ms (kq 4))) rp) (mj (xt (yx ll Z3 (kq 3) (kt (mk pb ly rfl (kt (kq 6) (kt (li (mi (K:=K)) (kq 5) lc) lf))) lf)))))) rp))) (mj (ms xp))))))),?_⟩;refine⟨ra,rs,as,rfl,RR,hf,Zo,λo H1 ho s1=>?_⟩;dsimp only [aK];cases o with
  | some i=>
   refine⟨_,rfl,λdx kr=>?_⟩;exact qE i dx _ ho (s1.trans (aF kr)) aA
  | none=>
   have hw:RX.Whole rs:=ho;have hct:=Fq hw;refine⟨ra,"came",rs,as,rfl,RR.same s1,Zo,λcd H2 fcd gcd s2=>?_⟩;dsimp only [aK];have zi:=s1.trans s2;refine⟨ra,rs,as,rfl,RR.same zi,Zo,hw,λp dx d H3 fp fd gp gd s3=>?_⟩;have npd:p≠d:=fW gp gd nofun;have DB:=zi.trans s3;have fp0:=zi.free fp;have fd0:=zi.free fd;have RW:=s3 _ _ gcd;have ncd:cd≠d:=aE gcd fd;have ncp:cd≠p:=aE gcd fp;dsimp only [aK];refine bK (λσ' H'=>vP rs none/\Same H H') (λnx d7=>?_) ?_
   ·refine⟨_,QYU (DB _ _ RR.lst),wU (xs:=as.map V.ref) (λi σ' H'=>∃(prs:List (Str × Int))(o4 o5 o6:Option V),σ'=[some (.ref ra),some .non,some (.ref cd),some (.ref p),o4,o5,o6]/\H' p=some (.ins C dx [("amounts",.ref d)])/\H' d=some (.dK (mM prs))/\H' cd=some (.dK (bD [] (jA "came" rs as rs.length)))/\(prs.map (·.1)).Nodup/\(∀z,dM prs z=(gQ rs i z:Int))/\(∀z,gQ rs i z<=1000000000000)/\prs.length<=(oH rs).length+2*(gP (rs.take i)).length/\(∀j r,j<i->rs[j]?=some r->mK rs j r)/\Same H H') (λi σ' H' ⟨_,_,_,_,_,_,_,_,_,_,_,_,_,s'⟩=>QYU (s' _ _ RR.lst))
     ⟨gY rs,_,_,_,rfl,gp,gd,RW,vO hw,λz=>Ms hw z,Ft hf,by rw[Mq];omega,λj r hj=>QZZ hj (Nat.not_lt_zero _),DB⟩ ?_ ?_⟩
    ·rintro i x σ' H4 te hx ⟨prs,o4,o5,o6,rfl,EM,JC,yt,MJ,MK,OG,ln4,JD,s4⟩ QZ;obtain⟨a,r,rfl,ha,C8,j7⟩:=(RR.same s4).get hx;have hil:i<rs.length:=(Zgs.mp C8).1;have se:=aF (o:=.tup [.int (i:Int),.ref a]) QZ;refine⟨te,_,rfl,QYV aA,rfl,_,_,rfl,_,_,rfl,rfl,?_⟩;generalize aI H4 te (.tup [.int (i:Int),.ref a])=H5 at se;replace EM:=se _ _ EM;replace JC:=se _ _ JC;replace yt:=se _ _ yt;replace s4:=s4.trans se;replace j7:=j7.tk se.tk;obtain⟨xs,g,x0,x1,x2⟩:=bO j7;have um:=cE C8;dsimp only [aK];refine⟨_,QYV g,_,x0,?_⟩;show if decide (bH r="done")=true then _ else _
     refine aQ (λh=>?_) (λh=>?_)
     ·obtain⟨n,t,y,rfl⟩:=Bv (W9 h);obtain⟨cy,gr,gy⟩:=j7;obtain⟨t0,pp,kk,xd,FH,zx⟩:=sW hw (jW C8);have GL:xd.Ok:=hf _ FH;have RY:=xX hw FH;obtain⟨ca,cb,ct,hv,gca,YK⟩:=Rs hw (RR.same s4) FH;have dg':DGet H5 cd (.int (n:Int)) (some (.ref ca)):=by rw[<- hv];exact DGet.k (k:=Sum.inl (n:Int)) yt
      refine⟨_,QYV gr,_,rfl,cd,_,rfl,dg',_,QYV gca,_,rfl,?_⟩;dsimp only [aK];have bkA:BookAt C H5 p prs:=⟨⟨dx,d,EM,JC⟩,MJ⟩;refine⟨_,QYV gr,_,rfl,p,cb,xd,prs,gQ rs i,rfl,bkA,YK,GL,MK,λl zs H6 gl hz ez s6=>?_⟩;refine⟨y.vs,zs.map (λz=>(z.1,z.2.vs)),s6 _ _ gy,by rw[gl,map_map];rfl,λz vt=>?_,?_⟩
      ·obtain⟨z',RZ,rfl⟩:=Zmm.mp vt;exact⟨hz z' RZ,Ru _ _⟩
      ·have ye:=aA5 (y:=y) (zs:=zs);rw[ez]at ye;show if (!zH y.vs (zs.map λz=>(z.1,z.2.vs)))=true then _ else _
       refine aQ (λhi=>?_) (λhi=>?_)
       ·refine q (some i) H6 hw ⟨⟨_,C8,λLH=>?_⟩,JD⟩ (s4.trans s6);have:=ye.mpr (LH xd RY);rw[this]at hi;cases hi
       ·have zy:y∈jB (gQ rs i) xd:=ye.mp (by simpa using hi);obtain⟨qq,hR⟩:=Mx zy;obtain⟨ea,hG⟩:=xN GL hR;have SA:mK rs i (.done n t y):=λx' X0=>by rw[RY]at X0;cases X0;exact zy
        refine⟨dx,_,s6 _ _ EM,pV _ Zk,_,QYV (s6 _ _ gr),_,rfl,cb,cy,xd,y,rfl,s6 _ _ YK,s6 _ _ gy,zx,λtp YL H7 s7 g7 hz2 SD=>?_⟩;have lz:YL.length<=2:=by
         have:=congrArg length SD;rw[aZ]at this;have:=Ck xd y;omega
        have ML:=s6.trans s7;refine⟨p,dx,d,tp,prs,YL,rfl,ML _ _ EM,ML _ _ JC,MJ,g7,hz2,?_,λqc hq=>?_,λH8 g8 k8=>?_⟩
        ·have:=zY rs i;omega
        ·rw[SD]at hq;have:=Mu OG GL hR qc hq;unfold Th;rw[MK];exact this
        ·rw[SD]at g8;have FY:gQ rs (i+1)=after (gQ rs i) xd y:=by rw[qU C8];show(match qT rs n with|some x=>after (gQ rs i) x y|none=>gQ rs i)=_;rw[RY]
         refine⟨oO prs (Rq xd y),_,_,_,rfl,k8 _ _ (ML _ _ EM) npd,g8,k8 _ _ (ML _ _ yt) ncd,vN _ _ MJ,λz=>?_,?_,?_,λj r' hj Y1=>?_,λc o e=>k8 _ _ (ML _ _ (s4 _ _ e)) (aE e fd0)⟩
         ·rw[xU _ _ _ hG MK,ea,FY]
         ·rw[FY];exact Mi OG hR
         ·have h1:=qQ (Rq xd y) prs;have h2:=Ck xd y;rw[um,qR,kM];show _<=_+2*(_+1);omega
         ·rcases Nat.lt_or_ge j i with FP|FP
          ·exact JD j r' FP Y1
          ·have:j=i:=by omega
           subst this;rw[C8]at Y1;cases Y1;exact SA
     ·have FY:gQ rs (i+1)=gQ rs i:=by
       rw[qU C8];cases r with
       | done n t y=>exact QZZ rfl (W8 h)
       | _=>rfl
      refine⟨prs,_,_,_,rfl,EM,JC,yt,MJ,λz=>by rw[FY];exact MK z,by rw[FY];exact OG,?_,λj r' hj Y1=>?_,s4⟩
      ·rw[um,qR,kM];omega
      ·rcases Nat.lt_or_ge j i with FP|FP
       ·exact JD j r' FP Y1
       ·have:j=i:=by omega
        subst this;rw[C8]at Y1;cases Y1
        cases r with
        | done n t y=>exact QZZ rfl (W8 h)
        | _=>trivial
    ·rintro σ' H4 ⟨prs,o4,o5,o6,rfl,EM,JC,yt,MJ,MK,OG,ln4,JD,s4⟩;rw[aZ,<- le]at JD;exact d7 _ _ ⟨λi r Y1=>JD i r (Zgs.mp Y1).1 Y1,s4⟩
   rintro σ' H4 ⟨zy,s4⟩;exact q none H4 hw zy s4
structure Ad(K:W.Frag)(mg:X8)(CN CD:UF)(as bs:List UF):Prop where
 mC:mg "NoRows"=some (.ref CN)
 mD:mg "DoorError"=some (.ref CD)
 xm:W.exmOne K (.ref CN) (.ref CN)=some true
 xk:oF K CN
 k1:W.kitAny K (.ref CN) (as.map Value.ref)=some false
 k2:W.kitAny K (.ref CN) (bs.map Value.ref)=some false
 kD:W.kitOne K (.ref CN) (.ref CD)=some true
 kV:W.kitOne K (.ref CN) (.type "ValueError")=some true
 hd:W.hasDictIn K CN=true
 nu:W.findIn K (.ref CN) "row"=some none
def aA7(CN:UF):Sp:=λvs H Q _=>∃(e dx:UF),vs=[.ref e]/\H e=some (.ext (rA e (.ref CN) (some dx)))/\∀H',Same H H'->Q (.bl false) H'
def rP{CN CD a1 a2 a3 a4 a5 a6 a7 a8 a9 MM MN b1 b2 b3 b4 b5 b6:UF}(T:Txt K mg)(M:Ad K mg CN CD [a1,a2,a3,a4,a5,a6,a7,a8,a9,MM,MN] [b1,b2,b3,b4,b5,b6])(GN:mg "Busy"=some (.ref a1))(GO:mg "Down"=some (.ref a2))(GP:mg "Late"=some (.ref a3))(DJ:mg "NoAsk"=some (.ref a4))(wu:mg "NoChange"=some (.ref a5))(AK:mg "NoDeed"=some (.ref a6))(yu:mg "NoHouse"=some (.ref a7))(vb:mg "NoJournal"=some (.ref a8))(DK:mg "NoKey"=some (.ref a9))(AL:mg "NoLine"=some (.ref MM))(AM:mg "NoName"=some (.ref MN))(wx:mg "NoNumber"=some (.ref b1))(DL:mg "NoRow"=some (.ref b2))(DM:mg "NoWay"=some (.ref b3))(DN:mg "Other"=some (.ref b4))(AN:mg "Unsafe"=some (.ref b5))(SE:mg "Up"=some (.ref b6))(D:DefAt K mg "_law_other_word" dJ QZo):aG P w K mg base 1 "_law_other_word" QZo (aA7 CN):=by
 have vc:=M.mD;refine D.go lV (λvs H Q E h=>?_) (λf cdv A outer s H vs Q E hr h=>?_)
 ·obtain⟨e,dx,rfl,_⟩:=h;rfl
 ·obtain⟨e,dx,rfl,ge,q⟩:=h;refine⟨_,(lv (re (wn (su (R.gu (K:=K)) rfl T.b_isinstance eV (kt (kq 0) (kt (R.ib (kt (vk rfl GN) (kt (vk rfl GO) (kt (vk rfl GP) (kt (vk rfl DJ) (kt (vk rfl wu) (kt (vk rfl AK) (kt (vk rfl yu) (kt (vk rfl vb) (kt (vk rfl DK) (kt (vk rfl AL) (kt (vk rfl AM) lf)))))))))))) lf)))) (mj (ms tj)) rp) (lv (re (wn (su (R.gu (K:=K)) rfl T.b_isinstance eV (kt (kq 0) (kt (R.ib (kt (vk rfl wx) (kt (vk rfl DL) (kt (vk rfl DM) (kt (vk rfl DN) (kt (vk rfl AN) (kt (vk rfl SE) lf))))))) lf)))) (mj (ms tj)) rp) (mj (ms (R.or (R.ie (su (R.gu (K:=K)) rfl T.b_isinstance eV (kt (kq 0) (kt (vk rfl vc) lf)))) (tf (R.ie (su (R.gu (K:=K)) rfl T.b_isinstance eV (kt (kq 0) (kt (R.im rfl T.b_ValueError rB) lf)))))))))),?_⟩;refine⟨eK rfl,λq1 CC=>⟨CN,false,_,aF CC _ _ ge,M.xk,.inl ⟨[a1,a2,a3,a4,a5,a6,a7,a8,a9,MM,MN],aA,M.k1⟩,?_⟩⟩;have s1:=aF (o:=.tup [.ref a1,.ref a2,.ref a3,.ref a4,.ref a5,.ref a6,.ref a7,.ref a8,.ref a9,.ref MM,.ref MN]) CC;generalize aI H q1 (.tup [.ref a1,.ref a2,.ref a3,.ref a4,.ref a5,.ref a6,.ref a7,.ref a8,.ref a9,.ref MM,.ref MN])=H1 at s1;refine⟨eK rfl,λq2 YM=>⟨CN,false,_,aF YM _ _ (s1 _ _ ge),M.xk,.inl ⟨[b1,b2,b3,b4,b5,b6],aA,M.k2⟩,?_⟩⟩;have s2:=s1.trans (aF (o:=.tup [.ref b1,.ref b2,.ref b3,.ref b4,.ref b5,.ref b6]) YM);generalize aI H1 q2 (.tup [.ref b1,.ref b2,.ref b3,.ref b4,.ref b5,.ref b6])=H2 at s2;have YN:=s2 _ _ ge;exact⟨CN,true,_,YN,M.xk,.inr M.kD,CN,true,_,YN,M.xk,M.kV,q _ s2⟩
def tE:Sp:=λvs H Q _=>∃(ra:UF)(rs:List RX)(as:List UF),vs=[.ref ra]/\RxsAt H ra rs as/\(∀r∈rs,cI r)/\rs.length<=60/\∀(H':Hp),Same H H'->Q (.bl true) H'
def Ae{CN CD:UF}{a5 b5:List UF}(T:Txt K mg)(M:Ad K mg CN CD a5 b5)(MO:aG P w K mg base 3 "_law_due" QZD Cj)(mf:lN P w K mg base 8 "first_wrong" QZM (aA6 CN))(ph:aG P w K mg base 1 "_law_other_word" QZo (aA7 CN))(D:DefAt K mg "_law_right" gK QZD):aG P w K mg base 9 "_law_right" QZD tE:=by
 have AO:=M.mC;refine D.go cG (λvs H Q E h=>?_) (λf cdv A outer s H vs Q E hr h=>?_)
 ·obtain⟨ra,rs,as,rfl,_⟩:=h;rfl
 ·obtain⟨ra,rs,as,rfl,RR,hf,hl,q⟩:=h;have MP:Room 3 _:=hr.mono Zd;have Z4:Room 8 _:=hr;have pj:Room 1 _:=hr.mono Zd;have wm:=hr.units;have le:=RR.len;refine⟨_,(lv (o0 (i:=1) cG.nd (mk MO MP rfl (kt (kq 0) lf))) (lv (o0 (i:=2) cG.nd (R.ee (R.jh (K:=K)) rfl T.b_list Be (kt (kq 0) lf))) (lv (o0 (i:=3) cG.nd xp) (lv (o0 (i:=4) cG.nd xp) (lv (R.jx (K:=K) (i:=5) AO rfl cG.nd (λpn Ex=>(mj (o0 (i:=3) cG.nd (R.jy mf Z4 rfl uN (kt (kq 0) lf))))) (λa=>(mj (o0 (i:=4) cG.nd (kq 5))))) (lv (re (nw (R.ii wm) (kq 0) (kq 2)) (mj (ms tj)) rp) (lv (re (nw R.fm (kq 1) xp) (lv (re (ve (wp (nw R.jm (kq 4) xp) (wp (wn (mk ph pj rfl (kt (kq 4) lf))) (xw (wn (FM .bl (R.ig (K:=K) (kq 4)) rfl T.b_isinstance rfl T.b_bool uE)))))) (mj (ms tj)) rp) (mj (ms (u8 (FM .int (R.ig (K:=K) (kq 4)) rfl T.b_isinstance rfl T.b_int uD) (tf (sq rq (R.ig (K:=K) (kq 4)) (kq 1))))))) rp) (lv (re (ve (wp (nw R.fm (kq 4) xp) (xw (wn (FM .bl (kq 3) rfl T.b_isinstance rfl T.b_bool uE))))) (mj (ms tj)) rp) (mj (ms (R.or (sq R.jm (kq 3) xp) (tf (u8 (R.jg yy xz lc (kq 3) (su (sy (K:=K)) rfl T.b_len aO (kt (kq 0) lf))) (tf (sq rq (li (mi (K:=K)) (li (sj (K:=K)) (kq 0) (kq 3)) lc) mh))))))))))))))),?_⟩;refine⟨ra,rs,as,rfl,RR,hf,hl,λo H1 ho s1=>?_⟩;dsimp only [aK];refine⟨_,.inl (QYU (s1 _ _ RR.lst)),λcp hcp=>?_⟩;have s2:=s1.trans (aF (o:=.lst (as.map V.ref)) hcp);have SG:(aI H1 cp (.lst (as.map V.ref))) cp=_:=aA;dsimp only [aK];generalize aI H1 cp (.lst (as.map V.ref))=H2 at s2 SG ⊢;refine bK (λσ' H'=>σ'=[some (.ref ra),some (Fa o),some (.ref cp),some .non,none,none]/\H2=H') (λnx d7=>d7 _ _ ⟨rfl,rfl⟩) ?_;rintro _ _ ⟨rfl,rfl⟩;refine bK (λσ' H'=>σ'=[some (.ref ra),some (Fa o),some (.ref cp),some .non,some .non,none]/\H2=H') (λnx d7=>d7 _ _ ⟨rfl,rfl⟩) ?_;rintro _ _ ⟨rfl,rfl⟩;refine bK (λσ' H'=>(∃(i:Nat)(e dx:UF)(o5:Option V),o=some i/\σ'=[some (.ref ra),some (.int (i:Int)),some (.ref cp),some .non,some (.ref e),o5]/\H' e=some (.ext (rA e (.ref CN) (some dx)))/\H' dx=some (.xd [("row",.int (i:Int))])/\Same H2 H')∨(∃(o2:Option Nat)(o5:Option V),o=none/\vP rs o2/\σ'=[some (.ref ra),some .non,some (.ref cp),some (Fa o2),some .non,o5]/\Same H2 H')) (λnx d7=>?_) ?_
  ·refine⟨ra,rs,as,rfl,RR.same s2,hf,hl,λo2 H3 hw zm s3=>?_,λi QF G hoi sG gx=>⟨M.xm,λe he=>?_⟩⟩
   ·have e:=xH (o':=none) ho hw;subst e;exact d7 _ _ (.inr ⟨o2,_,rfl,zm,rfl,s3⟩)
   ·have e':=xH ho hoi;subst e';have s4:=aF (o:=.ext (rA e (.ref CN) (some QF))) he;exact d7 _ _ (.inl ⟨i,e,QF,_,rfl,rfl,aA,s4 _ _ gx,sG.trans s4⟩)
  rintro σ' H3 (⟨i,e,dx,o5,rfl,rfl,ge,gx,s3⟩|⟨o2,o5,rfl,zm,rfl,s3⟩)
  ·have R3:=(RR.same s2).same s3;have C3:RxsAt H3 cp rs as:=⟨s3 _ _ SG,R3.each⟩;have SH:([(("row":Str),V.int (i:Int))]).lookup ("row":Str)=some (.int (i:Int)):=by rw[lookup_cons];simp
   refine⟨3,_,Zd,R3.rep,C3.rep,?_⟩;refine⟨e,dx,rfl,ge,λH4 s4=>?_⟩;have SI:=s4 _ _ ge;have IY:=s4 _ _ gx;refine⟨e,CN,dx,_,.int (i:Int),rfl,SI,IY,M.xk,M.hd,M.nu,SH,.int,trivial,?_⟩;refine⟨e,CN,dx,_,.int (i:Int),rfl,SI,IY,M.xk,M.hd,M.nu,SH,.int,trivial,?_⟩;refine⟨e,CN,dx,_,.int (i:Int),rfl,SI,IY,M.xk,M.hd,M.nu,SH,?_⟩;have:=q H4 ((s2.trans s3).trans s4);rw[<- W7 (rfl:(i:Int)=(i:Int))]at this;exact this
  ·have R3:=(RR.same s2).same s3;have C3:RxsAt H3 cp rs as:=⟨s3 _ _ SG,R3.each⟩;refine⟨3,_,Zd,R3.rep,C3.rep,?_⟩;have fin:=q H3 (s2.trans s3)
   cases o2 with
   | none=>exact⟨.non,trivial,fin⟩
   | some j=>
    obtain⟨⟨r,C8,hnr⟩,_⟩:=zm;have hj:=(Zgs.mp C8).1;have IZ:(as.map V.ref).length=rs.length:=by rw[aZ];omega
    refine⟨.int,trivial,_,.inl (QYU R3.lst),?_⟩;show if decide ((j:Int)<((as.map V.ref).length:Int))=true then _ else _
    refine aQ (λ_=>?_) (λh=>QZZ (W8 h) (by rw[IZ];omega));have hv:(as.map V.ref)[j]?=some (.ref (as[j]'Zo)):=by rw[jC,gZ];rfl
    obtain⟨a,r',ea,_,MQ,j7⟩:=R3.get hv;rw[C8]at MQ;cases MQ;rw[ea]at hv;obtain⟨xs,g,x0,_,_⟩:=bO j7;refine⟨_,QYU R3.lst,.ref a,bJ hv,_,QYV g,_,x0,?_⟩;have:decide (bH r="done")=true:=by
     cases r with
     | done n t y=>rfl
     | _=>exact QZZ trivial hnr
    show Q (.bl (decide (bH r="done"))) H3;rw[this];exact fin
def Cr(K:W.Frag):Sp:=λvs H Q _=>∃(a:UF)(ns:List Int),vs=[.ref a]/\SqL K H a (ns.map V.int)/\ns.length<=63/\∀H',Q (.bl true) H'
def Yg(T:Txt K mg)(GQ:aG P w K mg base 1 "_law_deck" QZI (Iv K))(DO:aG P w K mg base 3 "_law_menus" QZh xG)(AQ:aG P w K mg base 6 "_law_listed" QZO xK)(Y2:aG P w K mg base 9 "_law_right" QZD tE)(AR:aG P w K mg base 6 "_law_spoilt" QZA xM){f:UF}{fd:FuncData}(F:Fun K "law" "law" lR f fd):iE P w K mg base qW 10 f fd QZI (Cr K):=by
 refine F.go qC (λvs H Q E h=>?_) (λcdv A outer s H vs Q E hr h=>?_)
 ·obtain⟨a,ns,rfl,_⟩:=h;rfl
 ·obtain⟨a,ns,rfl,hS,hlen,q⟩:=h;have GR:Room 1 _:=hr.mono Zd;have DP:Room 3 _:=hr.mono Zd;have AS:Room 6 _:=hr.mono Zd;have Y3:Room 9 _:=hr;have AU:Room 6 _:=hr.mono Zd;refine⟨_,(lv (o0 (i:=1) qC.nd (mk GQ GR rfl (kt (kq 0) lf))) (lv (o0 (i:=2) qC.nd (mk DO DP rfl (kt (kq 1) lf))) (lv (o0 (i:=3) qC.nd (mk AQ AS rfl (kt (kq 1) (kt (kq 2) lf)))) (lv (re (ve (wp (xu (wn (mk Y2 Y3 rfl (kt (kq 3) lf)))) (xw (xu (wn (mk Y2 Y3 rfl (kt (sw lf) lf))))))) (mj (ms tj)) rp) (lv (AT PassesOwn.never rfl (PP rfl T.b_range (kt lc lf)) (sx (i:=4) qC.nd) (mj (re (xu (wn (mk Y2 Y3 rfl (kt (mk AR AU rfl (kt (kq 1) (kt (kq 3) (kt (kq 2) lf)))) lf)))) (mj (ms tj)) rp))) (mj (ms (mk Y2 Y3 rfl (kt (kq 3) lf))))))))),?_⟩;refine⟨a,ns,rfl,hS,λd b H1 nd nb D1 s1=>?_⟩;dsimp only [aK];refine⟨d,b,rfl,D1,λlm M H2 hM oD oB f2=>?_⟩;dsimp only [aK];refine⟨d,b,lm,M,rfl,f2.dk,hM,oD,oB,λra rs as H3 zh R3 hw hok hl F3=>?_⟩;have hf:=zQ hw hok;have GA:∀r∈rs,r.turn<=1000000000000:=λr hr=>Re (hok r hr)
  have nra:=f2.dk.ne zh;dsimp only [aK];refine jS (λv H'=>Same H3 H'/\v=false) (λkk lj=>?_) ?_ ?_
  ·refine⟨ra,rs,as,rfl,R3,hf,Zo,λH4 s4=>?_⟩;refine⟨eK rfl,λp hp=>⟨p,[],[],rfl,.nil aA,(λ_ h=>nomatch h),zero_le _,λH5 s5=>?_⟩⟩;exact lj _ _ ⟨(s4.trans (aF hp)).trans s5,rfl⟩
  ·rintro _ ⟨_,z⟩;cases z
  rintro H4 ⟨s4,_⟩;dsimp only [kP];have F4:=F3.same s4;refine bK (λσ' H'=>∃o4,σ'=[some (.ref a),some (.ref d),some (.ref lm),some (.ref ra),o4]/\RxsAt H' ra rs as) (λnx d7=>?_) ?_
  ·refine⟨8,rfl,Zd,Zd,fN (dZ 0 (8:Int).toNat) (λi σ' H'=>∃o4,σ'=[some (.ref a),some (.ref d),some (.ref lm),some (.ref ra),o4]/\RxsAt H' ra rs as/\Fw d b H2 H') (λ_ _ _ _=>trivial) ⟨_,rfl,R3.same s4,F4⟩ ?_ ?_⟩
   ·rintro i x σ' H5 hx ⟨o4,rfl,R5,F5⟩;obtain⟨rfl,hi⟩:=lC hx;dsimp only [aK];refine⟨d,b,ra,lm,M,rs,as,rfl,F5.dk,R5,nra,hl,hf,GA,F5.menus oD oB hM,oD,oB,λla Q6 X3 H6 fla T6 FX BS G6=>?_⟩;have F6:=F5.trans G6;have R6:=R5.keep G6.tk (G6.get R5.lst nra.1 nra.2);refine⟨la,Q6,X3,rfl,T6,FX,Zo,λH7 s7=>?_⟩;exact⟨_,rfl,R6.same s7,F6.same s7⟩
   ·rintro σ' H5 ⟨o4,rfl,R5,F5⟩;exact d7 _ _ ⟨_,rfl,R5⟩
  rintro σ' H5 ⟨o4,rfl,R5⟩;exact⟨ra,rs,as,rfl,R5,hf,Zo,λH6 s6=>q H6⟩
end
structure FA(K:W.Frag)(x:Str)(st:Stmt):Prop where
 ex:∃(f:UF)(od an:Option UF)(sl:Array (Option T0))(oc kV dc pm cd ct:T0),W.nsIn K mainGlobals x=some (some (.ref f))/\K.lookup f=some ⟨oc,od,.func (W.fnOf x x (bZ st) (aV st) (aB st) .none kV dc pm an cd ct),sl⟩/\W.codeIn K cd x=true/\W.keepIn K (.ref f)=true
def FA.of{K:W.Frag}{x:Str}{st:Stmt}{f:UF}{od an:Option UF}{sl:Array (Option T0)}{oc kV dc pm cd ct:T0}(a:W.nsIn K mainGlobals x=some (some (.ref f)))(l:K.lookup f=some ⟨oc,od,.func (W.fnOf x x (bZ st) (aV st) (aB st) .none kV dc pm an cd ct),sl⟩)(c:W.codeIn K cd x=true)(k:W.keepIn K (.ref f)=true):FA K x st:=⟨f,od,an,sl,oc,kV,dc,pm,cd,ct,a,l,c,k⟩
def FA.at{K:W.Frag}{x:Str}{st:Stmt}{ps:List Str}{h:Heap}{mg:X8}(F:FA K x st)(X:K.In h)(G:h.Ns mainGlobals mg)(hb:∀(kV doc pm:T0)(an:Option UF)(cdv ct:T0)(us:List T0),us.length=ps.length->bindArgs (W.fnOf x x (bZ st) (aV st) (aB st) .none kV doc pm an cdv ct) ⟨us,[]⟩=pure (ps.zip us):=by intro _ _ _ _ _ _ us hl;first|exact(match us,hl with|[_],_=>rfl)|exact(match us,hl with|[_,_],_=>rfl)|exact(match us,hl with|[_,_,_],_=>rfl)|exact(match us,hl with|[_,_,_,_],_=>rfl)|exact(match us,hl with|[_,_,_,_,_],_=>rfl)|exact(match us,hl with|[_,_,_,_,_,_],_=>rfl)|exact(match us,hl with|[_,_,_,_,_,_,_],_=>rfl)):DefAt K mg x st ps:=by
 obtain⟨f,od,an,sl,oc,kV,dc,pm,cd,ct,a,l,c,k⟩:=F.ex;exact Wf X G a l c k hb
structure MA(K:W.Frag)(C:UF)(m qual:Str)(st:Stmt):Prop where
 ex:∃(f:UF)(od an:Option UF)(sl:Array (Option T0))(oc kV dc pm cd ct:T0),W.findIn K (.ref C) m=some (some (.ref f))/\W.isFn K (.ref f)=true/\K.lookup f=some ⟨oc,od,.func (W.fnOf m qual (bZ st) (aV st) (aB st) .none kV dc pm an cd ct),sl⟩/\W.codeIn K cd qual=true/\W.keepIn K (.ref f)=true
def MA.of{K:W.Frag}{C:UF}{m qual:Str}{st:Stmt}{f:UF}{od an:Option UF}{sl:Array (Option T0)}{oc kV dc pm cd ct:T0}(a:W.findIn K (.ref C) m=some (some (.ref f)))(i:W.isFn K (.ref f)=true)(l:K.lookup f=some ⟨oc,od,.func (W.fnOf m qual (bZ st) (aV st) (aB st) .none kV dc pm an cd ct),sl⟩)(c:W.codeIn K cd qual=true)(k:W.keepIn K (.ref f)=true):MA K C m qual st:=⟨f,od,an,sl,oc,kV,dc,pm,cd,ct,a,i,l,c,k⟩
def MA.at{K:W.Frag}{C:UF}{m qual:Str}{st:Stmt}{ps:List Str}(F:MA K C m qual st)(cl:Cls K C)(hb:∀(kV doc pm:T0)(an:Option UF)(cdv ct:T0)(us:List T0),us.length=ps.length->bindArgs (W.fnOf m qual (bZ st) (aV st) (aB st) .none kV doc pm an cdv ct) ⟨us,[]⟩=pure (ps.zip us):=by intro _ _ _ _ _ _ us hl;first|exact(match us,hl with|[_],_=>rfl)|exact(match us,hl with|[_,_],_=>rfl)|exact(match us,hl with|[_,_,_],_=>rfl)|exact(match us,hl with|[_,_,_,_],_=>rfl)|exact(match us,hl with|[_,_,_,_,_],_=>rfl)|exact(match us,hl with|[_,_,_,_,_,_],_=>rfl)|exact(match us,hl with|[_,_,_,_,_,_,_],_=>rfl)):MethAt K C m qual st ps:=by
 obtain⟨f,od,an,sl,oc,kV,dc,pm,cd,ct,a,i,l,c,k⟩:=F.ex;exact⟨cl,_,_,kU l c k,⟨a,i,k⟩,(kU (st:=st) l c k).binds hb⟩
def Yh{l:W.OpenLaw}{w:World}{K:W.Frag}{h:Heap}{mg:X8}{fa AV:UF}(X:K.In h)(G:h.Ns mainGlobals mg)(hfa:mg "law"=some (.ref fa)){GS AW:Option UF}{GU:Array (Option T0)}{GV AX AY AZ wy BA:T0}(S1:FA K "is_name" kB)(N1:FA K "is_whole" iI)(E4:FA K "is_made_of" eF)(S2:FA K "asks_of" kC)(A3:FA K "done_changes" dC)(pk:FA K "early" oV)(xa:FA K "late" uU)(C2:FA K "done_answer" dP)(E5:FA K "changes_of" fO)(J9:FA K "is_answer" fG)(S3:FA K "word_of" kF)(pv:FA K "is_no" oW)(K0:FA K "bounds_of" gE)(E6:FA K "are_within" eG)(K1:FA K "first_odd" gH)(E7:FA K "by_numbers" fQ)(E8:FA K "first_book" eI)(C4:FA K "first_wrong" eY)(v9:FA K "right_answers" cW)(N2:FA K "_law_deck" iJ)(N3:FA K "_law_draw" iK)(E9:FA K "_law_unlike" cT)(S6:FA K "_law_end" kG)(N4:FA K "_law_deed" iM)(K2:FA K "_law_words" fH)(F0:FA K "_law_answer" fR)(K3:FA K "_law_menus" gJ)(N5:FA K "_law_spot" iO)(N6:FA K "_law_kept" iP)(N7:FA K "_law_head" iQ)(N8:FA K "_law_body" bR)(G0:FA K "_law_listed" fS)(N9:FA K "_law_fits" iR)(w4:FA K "_law_head_good" bS)(w5:FA K "_law_body_good" bI)(S8:FA K "_law_due" hU)(m8:FA K "_law_number_other" bX)(t7:FA K "_law_turn_other" dI)(t9:FA K "_law_done_other" cM)(w9:FA K "_law_row_other" dR)(A4:FA K "_law_row_more" cN)(G4:FA K "_law_spoilt" fT)(u3:FA K "_law_other_word" dJ)(K4:FA K "_law_right" gK)(BB:W.nsIn K mainGlobals "law"=some (some (.ref AV)))(BC:K.lookup AV=some ⟨GV,GS,.func (W.fnOf "law" "law" (bZ lR) (aV lR) (aB lR) .none AX AY AZ AW wy BA),GU⟩)(BD:W.codeIn K wy "law"=true)(BE:W.keepIn K (.ref AV)=true){c9:UF}(pw:W.nsIn K mainGlobals "Walk"=some (some (.ref c9)))(px:W.plainGet K c9 Str.empty=true)(pz:W.hasDictIn K c9=true)(qa:W.plainOver K c9=true)(qb:W.findIn K (.ref c9) "__setattr__"=some (some (.builtin "object.__setattr__")))(qd:W.makesIn K c9=true)(qe:W.keepIn K (.ref c9)=true)(u4:W.findIn K (.ref c9) "last_rows"=some none)(u5:W.findIn K (.ref c9) "last_rank"=some none)(u7:W.findIn K (.ref c9) "last_turn"=some none)(l8:W.findIn K (.ref c9) "kept_numbers"=some none)(p7:W.findIn K (.ref c9) "came_deeds"=some none)(j9:W.findIn K (.ref c9) "asked_numbers"=some none)(l9:W.findIn K (.ref c9) "done_numbers"=some none){h9:UF}{T1 T7:Option UF}{T8:Array (Option T0)}{T9 U0 U1 U2 D0 U3:T0}(x5:W.findIn K (.ref c9) "__init__"=some (some (.ref h9)))(x6:W.isFn K (.ref h9)=true)(x8:K.lookup h9=some ⟨T9,T1,.func (W.fnOf "__init__" "Walk.__init__" (bZ cD) (aV cD) (aB cD) .none U0 U1 U2 T7 D0 U3),T8⟩)(x9:W.codeIn K D0 "Walk.__init__"=true)(J4:W.keepIn K (.ref h9)=true)(K5:MA K c9 "fits" "Walk.fits" gF)(G5:MA K c9 "rises" "Walk.rises" fP)(u9:MA K c9 "fits_kept" "Walk.fits_kept" dH)(m9:MA K c9 "fits_answer" "Walk.fits_answer" cS)(K6:MA K c9 "step" "Walk.step" gG){i9:UF}(qf:W.nsIn K mainGlobals "Book"=some (some (.ref i9)))(qg:W.plainGet K i9 Str.empty=true)(qh:W.hasDictIn K i9=true)(qi:W.plainOver K i9=true)(qj:W.findIn K (.ref i9) "__setattr__"=some (some (.builtin "object.__setattr__")))(qk:W.makesIn K i9=true)(ql:W.keepIn K (.ref i9)=true)(B0:W.findIn K (.ref i9) "amounts"=some none){i7:UF}{U4 U5:Option UF}{U6:Array (Option T0)}{U7 U8 U9 V0 E1 V1:T0}{qm:UF}(y3:W.findIn K (.ref i9) "__init__"=some (some (.ref i7)))(y4:W.isFn K (.ref i7)=true)(y6:K.lookup i7=some ⟨U7,U4,.func (W.fnOf "__init__" "Book.__init__" (bZ cC) (aV cC) (aB cC) (.ref qm) U8 U9 V0 U5 E1 V1),U6⟩)(y7:W.codeIn K E1 "Book.__init__"=true)(J5:W.keepIn K (.ref i7)=true)(C5:MA K i9 "amount" "Book.amount" eW)(K7:MA K i9 "rows" "Book.rows" jU)(C6:MA K i9 "change" "Book.change" eX){DQ:Option UF}{mz:List T0}{DR:Nat}{BF:Array (Option T0)}(Y4:K.lookup qm=some ⟨.type "tuple",DQ,.seq (toArray mz) DR,BF⟩)(qo:mz=[.none]){K8:UF}(G7:W.nsIn K mainGlobals "DoorError"=some (some (.ref K8))){c7:UF}(M4:W.nsIn K mainGlobals "NoRows"=some (some (.ref c7))){xb:UF}(qp:W.nsIn K mainGlobals "Busy"=some (some (.ref xb))){xc:UF}(qr:W.nsIn K mainGlobals "Down"=some (some (.ref xc))){xf:UF}(qt:W.nsIn K mainGlobals "Late"=some (some (.ref xf))){qu:UF}(Z5:W.nsIn K mainGlobals "NoAsk"=some (some (.ref qu))){O0:UF}(K9:W.nsIn K mainGlobals "NoChange"=some (some (.ref O0))){Z6:UF}(V2:W.nsIn K mainGlobals "NoDeed"=some (some (.ref Z6))){V3:UF}(O1:W.nsIn K mainGlobals "NoHouse"=some (some (.ref V3))){L4:UF}(G8:W.nsIn K mainGlobals "NoJournal"=some (some (.ref L4))){qv:UF}(Z7:W.nsIn K mainGlobals "NoKey"=some (some (.ref qv))){Z8:UF}(V4:W.nsIn K mainGlobals "NoLine"=some (some (.ref Z8))){Z9:UF}(V5:W.nsIn K mainGlobals "NoName"=some (some (.ref Z9))){O2:UF}(M0:W.nsIn K mainGlobals "NoNumber"=some (some (.ref O2))){qw:UF}(kg:W.nsIn K mainGlobals "NoRow"=some (some (.ref qw))){qx:UF}(kh:W.nsIn K mainGlobals "NoWay"=some (some (.ref qx))){qy:UF}(ki:W.nsIn K mainGlobals "Other"=some (some (.ref qy))){kj:UF}(V6:W.nsIn K mainGlobals "Unsafe"=some (some (.ref kj))){GW:UF}(BG:W.nsIn K mainGlobals "Up"=some (some (.ref GW))){c8:UF}{O3 O4:Option UF}{O7:Array (Option T0)}{O8 O9 P0 P1 B1 P2:T0}(B9:W.findIn K (.ref c7) "__init__"=some (some (.ref c8)))(p8:W.isFn K (.ref c8)=true)(j3:K.lookup c8=some ⟨O8,O3,.func (W.fnOf "__init__" "NoRows.__init__" (bZ bG) (aV bG) (aB bG) .none O9 P0 P1 O4 B1 P2),O7⟩)(j4:W.codeIn K B1 "NoRows.__init__"=true)(j6:W.keepIn K (.ref c8)=true)(GX:W.findIn K (.ref c7) "__getattribute__"=some (some (.builtin "BaseException.__getattribute__")))(GY:W.findIn K (.ref c7) "__getattr__"=some none)(GZ:W.findIn K (.ref c7) "__class__"=some (some (.builtin "object.__class__")))(HA:W.specialIn K (.builtin "object.__class__") "__get__"=some (some (.builtin "getset_descriptor.__get__")))(HB:W.takesIn K (.builtin "object.__class__")=some true)(HC:W.mroIn K c7 (.type "object")=some true)(HD:W.mroIn K c7 (.type "BaseException")=some true)(HE:W.isClsIn K c7=true)(HF:W.kitOne K (.ref c7) (.type "ValueError")=some true)(BH:zD K c7 c8 [.type "ValueError",.type "Exception",.type "BaseException",.type "object"] "ValueError.__new__"=true)(HG:W.findIn K (.ref c7) "__setattr__"=some (some (.builtin "object.__setattr__")))(HH:uR K c7=true)(HI:W.hasDictIn K c7=true)(HJ:W.exmOne K (.ref c7) (.ref c7)=some true)(xg:W.kitAny K (.ref c7) [.ref xb,.ref xc,.ref xf,.ref qu,.ref O0,.ref Z6,.ref V3,.ref L4,.ref qv,.ref Z8,.ref Z9]=some false)(xh:W.kitAny K (.ref c7) [.ref O2,.ref qw,.ref qx,.ref qy,.ref kj,.ref GW]=some false)(HK:W.kitOne K (.ref c7) (.ref K8)=some true)(HL:W.takerIn K c7 "row"=some none)(BI:W.findIn K (.ref c7) "row"=some none)(G9:W.nsIn K mainGlobals "isinstance"=some none)(BJ:W.nsIn K mainGlobals "int"=some none)(xi:W.nsIn K mainGlobals "bool"=some none)(BK:W.nsIn K mainGlobals "str"=some none)(BL:W.nsIn K mainGlobals "len"=some none)(BM:W.nsIn K mainGlobals "all"=some none)(qz:W.nsIn K mainGlobals "tuple"=some none)(BN:W.nsIn K mainGlobals "zip"=some none)(M1:W.nsIn K mainGlobals "enumerate"=some none)(BO:W.nsIn K mainGlobals "sum"=some none)(xj:W.nsIn K mainGlobals "list"=some none)(rb:W.nsIn K mainGlobals "range"=some none)(kl:W.nsIn K mainGlobals "sorted"=some none)(BP:W.nsIn K mainGlobals "max"=some none)(xl:W.nsIn K mainGlobals "dict"=some none)(J0:W.nsIn K mainGlobals "ValueError"=some none){yw:Tok}(V7:W.nsIn K mainGlobals "LETTERS"=some (some (.str ("abcdefghijklmnopqrstuvwxyz") yw))){km:Tok}(B3:W.nsIn K mainGlobals "LONGEST_NAME"=some (some (.int (8) km))){HM:Tok}(xn:W.nsIn K mainGlobals "MOST"=some (some (.int (1000000000000) HM))){rg:UF}{vd:List DictEntry}{DS:Nat}(rh:W.nsIn K mainGlobals "RANKS"=some (some (.ref rg)))(rl:K.lookup rg=some ⟨.type "dict",none,.dict (toArray vd) DS,#[]⟩)(rm:Tab w.params vd (RKS))(rn:(rg==sysModules)=false){J6:UF}{C0:List T0}{V8:Option UF}{X5:Nat}{V9:Array (Option T0)}(y8:W.nsIn K mainGlobals "UNASKED_WORDS"=some (some (.ref J6)))(y9:K.lookup J6=some ⟨.type "tuple",V8,.seq (toArray C0) X5,V9⟩)(m7:Vals (UAW) C0)
  : ∃fd:FuncData,(∀(s:TW)(v:T0),BindsTo s fd ⟨[v],[]⟩ [("_law_script",v)])/\∀base:Heap,K.In base->base.Ns mainGlobals mg->iE l.prog w K mg base qW 10 fa fd QZI (Cr K):=by
 have e:=hfa.symm.trans (W.mg_of X G BB);cases e;have T:Txt K mg:=⟨W.mg_none_of X G G9,W.mg_none_of X G BJ,W.mg_none_of X G xi,W.mg_none_of X G BK,W.mg_none_of X G BL,W.mg_none_of X G BM,W.mg_none_of X G qz,W.mg_none_of X G BN,W.mg_none_of X G M1,W.mg_none_of X G BO,W.mg_none_of X G xj,W.mg_none_of X G rb,W.mg_none_of X G kl,W.mg_none_of X G BP,W.mg_none_of X G xl,W.mg_none_of X G J0,⟨_,W.mg_of X G V7⟩,⟨_,W.mg_of X G B3⟩,⟨_,W.mg_of X G xn⟩⟩;have U:Top w.params K mg:=⟨⟨_,W.mg_of X G rh,⟨_,_,rl,rm,rn⟩⟩,⟨_,W.mg_of X G y8,λ_=>.inr ⟨_,_,_,y9,rfl,rfl,by rw[eB,<- m7.length];decide,m7⟩⟩⟩;have M5:Cls K c9:=⟨px,pz,qa,qb⟩;have HQ:ClsAt K mg "Walk" c9 "Walk.__init__" cD QZG [[]]:=⟨h9,_,_,W.mg_of X G pw,⟨_,_,_,_,_,_,_,_,_,rfl,x8,x9⟩,⟨qd,x5,x6,qe⟩,by
  intro d hd;obtain rfl:=Zms.mp hd;exact⟨[],λs us KI hl=>match us,(show us.length=1 by simpa using hl) with | [_],_=>BindsTo.of_eq rfl,.nil⟩⟩
 have Y5:Cls K i9:=⟨qg,qh,qi,qj⟩;subst qo;have HR:ClsAt K mg "Book" i9 "Book.__init__" cC QZv [[],[.non]]:=⟨i7,_,_,W.mg_of X G qf,⟨_,_,_,_,_,_,_,_,_,rfl,y6,y7⟩,⟨qk,y3,y4,ql⟩,by
  intro d hd;rcases mem_cons.mp hd with rfl|hd
  ·exact⟨[],λs us KI hl=>match us,(show us.length=2 by simpa using hl) with|[_,_],_=>BindsTo.of_defaults (T:=qm) rfl (KI _ _ Y4) rfl rfl rfl,.nil⟩
  obtain rfl:=Zms.mp hd
  ·exact⟨[.none],λs us KI hl=>match us,(show us.length=1 by simpa using hl) with | [_],_=>BindsTo.of_defaults (T:=qm) rfl (KI _ _ Y4) rfl rfl rfl,(.cons rfl .nil)⟩⟩
 have BQ:InitAt K c8 "NoRows.__init__" bG QZQ:=⟨⟨_,kU j3 j4 j6,(kU (st:=bG) j3 j4 j6).binds (λ_ _ _ _ _ _ us hl=>match us,hl with|[_,_],_=>rfl)⟩,p8⟩;refine⟨W.fnOf "law" "law" (bZ lR) (aV lR) (aB lR) .none AX AY AZ AW wy BA,λs v=>.of_eq rfl,λbase _ _=>?_⟩;have MR:=kU (st:=lR) BC BD BE;have WT:Xs K c9:=⟨M5,u4,u5,u7,l8,p7,j9,l9⟩;have cd:=Qc (P:=l.prog) (w:=w) (base:=base) T (N2.at X G);have cr:=Kq (P:=l.prog) (w:=w) (base:=base) (N3.at X G);have ce:=Xm T cr (S6.at X G);have cu:=Ev T cr (E9.at X G);have MS:=Qh T cr ce (N4.at X G);have cw:=Ku (P:=l.prog) (w:=w) (base:=base) T (K2.at X G);have ca:=Ew T cr ce (F0.at X G);have SJ:=Qi T cr (N5.at X G);have ck:=Qj T cr MS cw ca SJ (N6.at X G);have ch:=Qk T cr ce ck (N7.at X G);have cm:=Kv T cr cu (K3.at X G);have cbo:=Qw T cr MS SJ cw ca (N8.at X G);have c3:=Pz (P:=l.prog) (w:=w) (base:=base) T (E4.at X G);have c4:=zM T c3 (S1.at X G);have c5:=Kn (P:=l.prog) (w:=w) (base:=base) T (N1.at X G);have JE:=Qa (P:=l.prog) (w:=w) (base:=base) T (S2.at X G);have cwo:=zN (P:=l.prog) (w:=w) (base:=base) T (S3.at X G);have cno:=Ko T c4 (pv.at X G);have cb:=Es (P:=l.prog) (w:=w) (base:=base) T (K0.at X G);have cwi:=Et T c5 (E6.at X G);have cia:=uV T cwo cno JE cb cwi (J9.at X G);have YO:=Fc (P:=l.prog) (w:=w) (mg:=mg) (base:=base) WT (G5.at M5);have cwk:=Ll WT YO (u9.at M5);have cwa:=Qq T U WT cia JE (m9.at M5);have cwf:=Ln T U WT YO cwk cwa JE (K5.at M5);have cws:=Lq (P:=l.prog) (base:=base) T U WT (K6.at M5);have cwn:=Lr (P:=l.prog) (w:=w) (base:=base) WT HQ;have cfo:=vA T (cwn _ Zs) cwf cws (K1.at X G);have cli:=Fi T cr ch cbo (G0.at X G);have cnu:=oM T cr (m8.at X G);have ctu:=rK T cr (t7.at X G);have cdo:=rL T cr MS cw ca (t9.at X G);have cro:=vD T cr MS cnu ctu cdo (w9.at X G);have crm:=xL T cr ce MS cw ca ck SJ (A4.at X G);have csl:=Fn T cr crm cro (G4.at X G);have clf:=Mc (P:=l.prog) (w:=w) (base:=base) T (N9.at X G);have chg:=vH (P:=l.prog) (w:=w) (base:=base) T (w4.at X G);have cbd:=vJ T clf (w5.at X G);have cdu:=Mh T chg cbd (S8.at X G);have BT:Wo K i9:=⟨Y5,B0⟩;have ci:=Mp (P:=l.prog) (w:=w) (base:=base) T BT HR;have SK:=vM (P:=l.prog) (w:=w) (mg:=mg) (base:=base) BT (C5.at Y5);have cgn:=zZ T BT SK (C6.at Y5);have cdc:=oN (P:=l.prog) (w:=w) (base:=base) T (A3.at X G);have cco:=rN T cdc (E5.at X G);have cfb:=rO T (ci _ Zs) (E8.at X G);have cbn:=rM (P:=l.prog) (w:=w) (base:=base) (E7.at X G);have YQ:=Aa (P:=l.prog) (w:=w) (base:=base) T (A3.at X G);have YR:=qS T BT YQ SK (C2.at X G);have cea:=Mv T BT YQ JE SK YR (pk.at X G);have clt:=Rt T BT JE YR (xa.at X G);have cra:=nU T cea clt JE (v9.at X G);have XQ:oF K c7:=⟨GX,GY,GZ,HA,HB,HC,HD,HE⟩;have XI:XClsI K mg "NoRows" c7 c8:=⟨W.mg_of X G M4,BH⟩;have iN:sP l.prog w K mg base 1 c7 c8 "row":=Na ⟨HG,HH,HL⟩ BQ;have cfw:=qV T XI iN cfo cbn cfb cra cco cgn (C4.at X G);have MT:Ad K mg c7 K8 [xb,xc,xf,qu,O0,Z6,V3,L4,qv,Z8,Z9] [O2,qw,qx,qy,kj,GW]:=⟨W.mg_of X G M4,W.mg_of X G G7,HJ,XQ,xg,xh,HK,HF,HI,BI⟩;have cow:=rP (P:=l.prog) (w:=w) (base:=base) T MT (W.mg_of X G qp) (W.mg_of X G qr) (W.mg_of X G qt) (W.mg_of X G Z5) (W.mg_of X G K9) (W.mg_of X G V2) (W.mg_of X G O1) (W.mg_of X G G8) (W.mg_of X G Z7) (W.mg_of X G V4) (W.mg_of X G V5) (W.mg_of X G M0) (W.mg_of X G kg) (W.mg_of X G kh) (W.mg_of X G ki) (W.mg_of X G V6) (W.mg_of X G BG) (u3.at X G);have crt:=Ae T MT cdu cfw cow (K4.at X G);exact Yg T cd cm cli crt csl MR
def aBQ{l:W.OpenLaw}{q:Program}{loose:List Str}{XP:(Str->Option T0)->Heap->Prop}{YP:World->Heap->Prop}{d:DefRec}{K:Params->W.Frag}(hn:l.most=some 63)(JP:d.params.defaults=[])(hY:∀(w:World)(h:Heap),YP w h->(K w.params).In h)(F:∀(w:World)(mg:X8)(fa:UF)(h:Heap),(K w.params).In h->h.Ns mainGlobals mg->mg d.name=some (.ref fa) →
   ∃fd:FuncData,(∀(s:TW)(u:T0),BindsTo s fd ⟨[u],[]⟩ [("_law_script",u)])/\∀base:Heap,(K w.params).In base->base.Ns mainGlobals mg->iE l.prog w (K w.params) mg base qW 10 fa fd QZI (Cr (K w.params))) :
  W.WalkO q loose XP YP l.row.toRowW d [] (λf vs=>PySem.call f vs):=
 L2.Au (n:=63) (k:=10) (x:="_law_script") (CX:=λ_=>qW) (sp:=λw=>Cr (K w.params)) hn Zd JP ⟨rfl,Zd,Zd⟩ hY F (λ_ _ a ns hl _ hS=>⟨a,ns,rfl,hS,hl,λ_=>rfl⟩) λ_ _ _ _ _ z=>z
end KL
namespace PySem.W.Fast
def tw8534631087294500977:=0
def tw7102772987062898983:=0
def tw11105104716845612437:=0
def tw4776119355158453096:=0
def tw10343180128226453753:=0
def tw12734003339336521460:=0
def tw15767571265852467126:=0
def tw7966301349869000268:=0
def tw14370960326158923639:=0
def tw16242459451228860331:=0
def tw5854270873395901321:=0
def tw5845128234764604026:=0
def tw6595664678136673144:=0
def tw17637332269750197159:=0
def tw6002383380566810113:=0
def tw335473176150621763:=0
def tw3667356479545992816:=0
def tw11887465676178249060:=0
def tw17241367329377206605:=0
def tw2071440801774248610:=0
def tw15956601441505555836:=0
def tw16608913921091775511:=0
def tw10939117183714971851:=0
def tw14507746549110902772:=0
def tw18321794476203585234:=0
def tw16378250813187720411:=0
def tw6863484569855157671:=0
def tw18083259800734107250:=0
def tw16637651456291961773:=0
def tw17019593244174475571:=0
def tw1050361183285570983:=0
def tw5153509029280075035:=0
def tw4309128116496696186:=0
def tw1828348000463874250:=0
def tw7107974420534061558:=0
def tw15999867236860170048:=0
def tw913073730701001169:=0
def tw12798761446588244552:=0
def tw2001959061548253133:=0
def tw8855568428227729767:=0
def tw10584498984695848714:=0
def tw14497296090630247490:=0
def tw15997038819830748382:=0
def tw15770207203571550358:=0
def tw733444047443452477:=0
def tw15000738327813011347:=0
def tw18316303460429150680:=0
def tw17566599730918141859:=0
def tw3551570987551014768:=0
def tw10574687578454458224:=0
def tw14796176983002328300:=0
def tw15025090262042973285:=0
def tw14843464452648446121:=0
def tw13899709305384046750:=0
def tw850589180233681961:=0
def tw13142999136521581590:=0
def tw4134883401578323746:=0
def tw4356317503253633607:=0
def tw4127559807305023340:=0
def tw16162494402412952263:=0
def tw1300364541055702241:=0
def tw9750022266302958687:=0
def tw6819599423349469234:=0
def tw10233959742184416900:=0
def tw15161741867045662966:=0
def tw1470425329757665574:=0
def tw17468277148294478774:=0
def tw15278021100416393980:=0
def tw4352646229586100269:=0
def tw15736260924260296584:=0
def tw8797270211747229558:=0
def tw7485713813837094861:=0
def tw13506086739814249603:=0
def tw6893276044115086264:=0
def tw14069240079403727990:=0
def tw8806189101944591192:=0
def tw10789562936381195499:=0
def tw11603752753914691523:=0
def tw12840262509983209922:=0
def tw1710077178279432428:=0
def tw12137373023231862691:=0
def tw8911391892520224305:=0
def tw7970187847108797450:=0
def tw15404707626978495981:=0
def tw12986814709052031508:=0
def tw10453257731125392291:=0
def tw12349990825706690976:=0
def tw8280633736472801933:=0
def tw5295682884125048799:=0
def tw2650893821848058016:=0
def tw11966983544502182897:=0
def tw15526843395314999622:=0
def tw10756662032091401816:=0
def tw16815880519409911266:=0
def tw2332093281347500219:=0
def tw10012427489554131193:=0
def tw1583618913106709595:=0
def tw1009165914142707524:=0
def tw3906239080621617588:=0
def tw15774638219902181784:=0
def tw18121216137548845223:=0
def tw12577254712995445022:=0
def tw13235836261869330922:=0
def tw13630565590793392665:=0
def tw7041568267122039545:=0
def tw250754250129416837:=0
def tw5000335254835060934:=0
def tw852537800722751222:=0
def tw512086981101700803:=0
def tw14669883302009444307:=0
def tw3382807331312237568:=0
def tw13219857467643393104:=0
def tw9079229355655022655:=0
def tw9749852937556335732:=0
def tw10505299829561047986:=0
def tw9825680253721606364:=0
def tw15406283359181625123:=0
def tw6530216239047527668:=0
def tw17577866743663252092:=0
def tw12707232217565389337:=0
def tw13966352282301088628:=0
def tw15804959754977228778:=0
def tw1240325629170114865:=0
def tw14172652467209635936:=0
def tw10590345798796816030:=0
def tw12467237524290669123:=0
def tw11712185216887268538:=0
def tw17663192094226648132:=0
def tw13843574328980498554:=0
def tw16516694007914093193:=0
def tw17710918993033936234:=0
def tw13650748661345276859:=0
def tw16506539317580752357:=0
def tw5675719543823310797:=0
def tw3651825611745303346:=0
def tw972360907221452100:=0
def tw6236687776532466187:=0
def tw16164713375318758866:=0
def tw9772744762800575922:=0
def tw7803704345523593415:=0
def tw12035410726776474762:=0
def tw6364497282859460699:=0
def tw11974263077940487707:=0
def tw12159198882103368413:=0
def tw1273847758158825496:=0
def tw4157411986707109376:=0
def tw712383837874123039:=0
def tw16550800734656430876:=0
def tw1054547855898067636:=0
def tw6818446914668788734:=0
def tw13303523199212192510:=0
def tw11633451114901528795:=0
def tw16995821768579185083:=0
def tw2608811541411355521:=0
def tw5865431808131994092:=0
def tw3399066724489945296:=0
def tw11506332438377845627:=0
def tw111520327449567980:=0
def tw5921294915551080691:=0
def tw1965306880536609813:=0
def tw6027325898703382387:=0
def tw6756103151339709075:=0
def tw115843627285546835:=0
def tw9273134052845543938:=0
def tw14478925259880383533:=0
def tw12245540064133469947:=0
def tw1783227711156735974:=0
def tw17835054430988710242:=0
def tw14836865177057799726:=0
def tw3811355230034910683:=0
def tw1766959126587104660:=0
def tw12599355157914717147:=0
def tw18444813314944422628:=0
def tw13514457517541751015:=0
def tw4427619177662157347:=0
def tw5512794235796311491:=0
def tw17153915274699475300:=0
def tw10177332308753500716:=0
def tw2180507176408396963:=0
def tw9230300138725237989:=0
def tw4502332566197591332:=0
def tw9253926072881776365:=0
def tw15389325717339745687:=0
def tw10455168519260699773:=0
def tw15300012815756606997:=0
def tw84334427557710541:=0
def tw2194178402158362963:=0
def tw10090488788168543253:=0
def tw14992785104334878777:=0
def tw12881751037774372387:=0
def tw4891288806178009893:=0
def tw12618614199734942190:=0
def tw860985030936922642:=0
def tw6619341244040818993:=0
def tw5438851714558716732:=0
def tw5437876736531835849:=0
def tw14824684903345212146:=0
def tw13804992486341885250:=0
def tw13593801769549547130:=0
def tw12703129564818301517:=0
def tw3105314670174566668:=0
def tw2569051306817483717:=0
def tw18415591227468929186:=0
def tw13695271970266770226:=0
def tw16079455013897790557:=0
def tw14893739909902868251:=0
def tw12214834788227200516:=0
def tw11395877319672148239:=0
def tw1099689486135457009:=0
def tw3671829369304457522:=0
def tw8230772336854046808:=0
def tw53833402469766767:=0
def tw2356572512352077665:=0
def tw2207443414550982668:=0
def tw2096701650004968758:=0
def tw14740836699944668309:=0
def tw11743817007212730316:=0
def tw11418982587824191868:=0
def tw2553007455112917448:=0
def tw12479424115662782024:=0
def tw2030664408217929572:=0
def tw16420922249075019545:=0
def tw15016376239383623873:=0
def tw11491087961684839987:=0
def tw4495079484914267581:=0
def tw15893377257559782804:=0
def tw11554754330258979196:=0
def tw12178923471288221569:=0
def tw2939516827391578134:=0
def tw18417675413206968196:=0
def tw366599853572902850:=0
def tw1792489706081663010:=0
def tw8398835069888901115:=0
def tw6134832796703701503:=0
def tw329424127027944140:=0
def tw2740325674880721646:=0
def tw2634289094517632967:=0
def tw16992917471931684669:=0
def tw16885843137934635582:=0
def tw14842363971953039953:=0
def tw13258612428492436781:=0
def tw12074962806244472838:=0
def tw1761786829814598435:=0
def tw7522085120981925327:=0
def tw15953874928990666067:=0
def tw8060892130862449197:=0
def tw16507023919787794835:=0
def tw12452274666637514994:=0
def tw2209029822449043575:=0
def tw17334833465666295531:=0
def tw11788546908960090833:=0
def tw14152669324010756848:=0
def tw7235699640429345036:=0
def tw7812114569141533734:=0
def tw3893761450283202571:=0
def tw14091068539516663756:=0
def tw5730124305620504160:=0
def tw2297851864444505015:=0
def tw1474277795086741324:=0
def tw13094670296312208066:=0
def tw10193107645567958200:=0
def tw7485352153320559572:=0
def tw6254475322341110658:=0
def tw6168641646430801735:=0
def tw2228054338516136485:=0
def tw11720058942321311276:=0
def tw9849098723335455365:=0
def tw9823148671241505606:=0
def tw9699551213164392251:=0
def tw15724494979782857157:=0
def tw17545162748502213236:=0
def tw10848893247132214763:=0
def tw10543413802991247645:=0
def tw5405108477412461340:=0
def tw17526072080339820777:=0
def tw8678887038288474738:=0
def tw6801390020111256849:=0
def tw12668973388483477092:=0
def tw11060350705019374483:=0
def tw16015216500230943794:=0
def tw14848202364115927762:=0
def tw12407956207110616726:=0
def tw8444112413338698015:=0
def tw5707100566837594097:=0
def tw3471973096956240494:=0
def tw15298563860387752714:=0
def tw16447374298667624739:=0
def tw15615808844686735806:=0
def tw16592585443236341886:=0
def tw7213007836770468665:=0
def tw5711301388093364366:=0
def tw16649385138046152317:=0
def tw9698531802042578526:=0
def tw10191936144829237546:=0
def tw13703058339291691036:=0
def tw7321930468322151955:=0
def tw16728378813895785752:=0
def tw6087999920747823041:=0
def tw8851252679678082701:=0
def tw5643422481860210293:=0
def tw8767400892476827219:=0
def tw590656543281164305:=0
def tw3754288650180978999:=0
def tw2412635994752415170:=0
def tw128758086378512949:=0
def tw11876578156376885386:=0
def tw10157087359964467550:=0
def tw6444139599002720962:=0
def tw15732049678177088666:=0
def tw16764901365922199735:=0
def tw10991421187903689715:=0
def tw15890962917191248207:=0
def tw1398361807938604465:=0
def tw10128957618453118544:=0
def tw5166094578422908767:=0
def tw8994257543179782848:=0
def tw8603247758691167363:=0
def tw5504195084326705083:=0
def tw4911780581459132942:=0
def tw706701483507510791:=0
def tw4215183167235831195:=0
def tw18372146941001351664:=0
def tw14922991777596362353:=0
def tw12869177480225809005:=0
def tw8558557728155751713:=0
def tw7796757910131332116:=0
def tw528852255083908264:=0
def tw526030548278327841:=0
def tw4686085747105760968:=0
def tw416616687362656390:=0
def tw3826275835882777733:=0
def tw3560937202763330622:=0
def tw17789373253226568676:=0
def tw1739397595799134767:=0
def tw17050633519737030207:=0
def tw17006001493004743586:=0
def tw16459571317319082070:=0
def tw16223514017298419940:=0
def tw14720041776475716913:=0
def tw13658531067693681887:=0
def tw12758821191849643101:=0
def tw12594626408412713155:=0
def tw11030058469224699153:=0
def tw10613361974104218981:=0
def tw3119066629160756350:=0
def tw16339547744457831694:=0
def tw12142653264857040079:=0
def tw979568777996940587:=0
def tw9106897522010344564:=0
def tw9101253355234772972:=0
def tw823253991671122628:=0
def tw7845416058444008653:=0
def tw7336681455758843639:=0
def tw7187789475319982381:=0
def tw6879696743907588328:=0
def tw6795092894626461073:=0
def tw618046594776994080:=0
def tw5899990607628290318:=0
def tw5137741526688456751:=0
def tw4436954118381411171:=0
def tw4022175437126482233:=0
def tw3939884423713922968:=0
def tw2552174379825775479:=0
def tw1834926847573019892:=0
def tw18214211171205704236:=0
def tw17919305680224497559:=0
def tw16330609876641266771:=0
def tw15723827492550392163:=0
def tw15721892181745784456:=0
def tw15324564594220723685:=0
def tw14814483747714708402:=0
def tw14640978084603344428:=0
def tw14349191496161078210:=0
def tw13917134970231660113:=0
def tw12865928326731410961:=0
def tw12502719484296229136:=0
def tw12073232798338681428:=0
def tw11897793745710634879:=0
def tw11144140748579549291:=0
def tw1079526148695601366:=0
def tw10556336866865654232:=0
def tw1249838166580695794:=0
def tw3293853549298792343:=0
def tw883096620021653462:=0
def tw1861876657079619627:=0
def tw16205310616019680209:=0
def tw11356377468424121458:=0
def tw7511230004665063314:=0
def tw3349239057049706330:=0
def tw3196157169021656491:=0
def tw10494517883047143430:=0
def tw13876303864254343593:=0
def tw812584174871691920:=0
def tw6111240981512735776:=0
def tw14129256839612108928:=0
def tw12051140694961110291:=0
def tw6665702959239513193:=0
def tw4190536834365329102:=0
def tw327809093894798111:=0
def tw2664840414076950753:=0
def tw2596595828648036241:=0
def tw16656380331955776513:=0
def tw13562666899846948101:=0
def tw10516888272048828384:=0
def tw21041817654305021:=0
def tw13538289191916786036:=0
def tw8286176615937880910:=0
def tw6127000161490078644:=0
def tw6882903446626828961:=0
def tw6090565564635518215:=0
def tw3040069773307697153:=0
def tw12321605368310609989:=0
def tw9382526408968780921:=0
def tw1505105398700540011:=0
def tw8496553459814156173:=0
def tw18164219874342937272:=0
def tw17071558676560762161:=0
def tw14932145318204868834:=0
def tw13440413948108602400:=0
def tw16318512446286040906:=0
def tw9565421213964912508:=0
def tw6692810455182794942:=0
def tw5739159836148046120:=0
def tw3293755207364890303:=0
def tw17099317906443690709:=0
def tw16867725046919558269:=0
def tw15271161250678711496:=0
def tw14982092809430216012:=0
def tw14952172022894582746:=0
def tw11898513341651737902:=0
def tw11178346316356895886:=0
def tw11176930573969097092:=0
def tw13876142319872259972:=0
def tw9105554441859343545:=0
def tw5059309861612188625:=0
def tw2873491829133692293:=0
def tw9099604701607761997:=0
def tw7618228912250836471:=0
def tw6223445044208121619:=0
def tw3544429953714055069:=0
def tw3211508565445000046:=0
def tw2215012732309978152:=0
def tw17022867742370249296:=0
def tw15953832803160161614:=0
def tw14718117257363262006:=0
def tw13545473260533097068:=0
def tw12006138865377932146:=0
def tw11492091742003146206:=0
def tw18347798054069757083:=0
def tw16229783607706868097:=0
def tw5155713164384077721:=0
def tw4626021437448551866:=0
def tw4209329053412031980:=0
def tw3426710100125686119:=0
def tw2208528237302834503:=0
def tw17844293725441540426:=0
def tw16429658235364640693:=0
def tw1611703972961497903:=0
def tw16078687255656784731:=0
def tw15830950330268068315:=0
def tw15807260017509164682:=0
def tw1574975994546616362:=0
def tw14991060379259221719:=0
def tw1122541686386674348:=0
def tw7996907175116222772:=0
def tw6032397826722688195:=0
def tw9867564093248182051:=0
def tw9105312583642779388:=0
def tw8016921413949133815:=0
def tw1395850238858609894:=0
def tw8625136937472732280:=0
def tw6287336049754419517:=0
def tw6106700507804368841:=0
def tw16653437263958061683:=0
def tw15051392083564325001:=0
def tw1285015443256924821:=0
def tw8257494086992362661:=0
def tw7660497371406997598:=0
def tw3987180917867940869:=0
def tw18208996479164545754:=0
def tw18001390606123220657:=0
def tw14806064390495597062:=0
def tw14615598521072629140:=0
def tw14455723286450406423:=0
def tw13850101330421858194:=0
def tw13623691149710212060:=0
def tw13553606359823893653:=0
def tw12931864323132088736:=0
def tw12075771978307872221:=0
def tw11111643562765524903:=0
def tw4594240375693252343:=0
def tw5318695129892492065:=0
def tw3802450868315181717:=0
def tw1878611503746981097:=0
def tw11498851962285497822:=0
def tw8337916042739546650:=0
def tw8330800660273375889:=0
def tw8057762362426259479:=0
def tw7737018479444140131:=0
def tw7456190966294161771:=0
def tw7448002376294497412:=0
def tw5976181612494390526:=0
def tw4849353832502783487:=0
def tw4079983196414435852:=0
def tw3519410031547770887:=0
def tw3509761543716541451:=0
def tw2914447921942233814:=0
def tw2243651393604142861:=0
def tw1984956004597276615:=0
def tw18387312799967561035:=0
def tw17882747298274220317:=0
def tw16087397018477065677:=0
def tw16009373651847469976:=0
def tw14401809364312637512:=0
def tw13956316901233229514:=0
def tw13892972280435605661:=0
def tw12800285349553868323:=0
def tw12267408476263741348:=0
def tw11458816379446577694:=0
def tw101204596035684375:=0
def tw10015550907347411988:=0
def tw9860397096401515372:=0
def tw9843427575481863636:=0
def tw9473585849842828385:=0
def tw9210454963609023402:=0
def tw9153792174225244796:=0
def tw8883207138480126020:=0
def tw8827665572412385200:=0
def tw867399824506829661:=0
def tw861627403021941367:=0
def tw8500950951465865781:=0
def tw8453362587160682208:=0
def tw8366984101949347746:=0
def tw8346986943827176609:=0
def tw8344581837207396716:=0
def tw8330220166179210425:=0
def tw7967864021704263225:=0
def tw7803057960704649306:=0
def tw777497860368763189:=0
def tw7643529595075325846:=0
def tw7386705592938838783:=0
def tw7349979217038701157:=0
def tw720470573935432692:=0
def tw7165989117019793318:=0
def tw7142467499657488678:=0
def tw6945777944019358362:=0
def tw6880930990909243120:=0
def tw6778725157145838910:=0
def tw6775553780088897354:=0
def tw6748597523827408223:=0
def tw6728303303987641776:=0
def tw6577269111691554249:=0
def tw65541298396932321:=0
def tw6403243320003305948:=0
def tw6401981178997816713:=0
def tw6294370454380072024:=0
def tw6149821353568344696:=0
def tw5940449231919748981:=0
def tw5935239989596052545:=0
def tw5745759068527327161:=0
def tw5656105307596108954:=0
def tw5441275187146673012:=0
def tw5261506815076445874:=0
def tw5252812020956804966:=0
def tw5097017925137159224:=0
def tw4894263578636052772:=0
def tw4826721997194235660:=0
def tw4807008398776421031:=0
def tw457265349483037244:=0
def tw4555625572100824743:=0
def tw4487411721516026177:=0
def tw4245299582799502759:=0
def tw4049362209133750692:=0
def tw3887325349691104457:=0
def tw3753664932384030860:=0
def tw3730253947392462438:=0
def tw3426771251116306588:=0
def tw3185095678351781575:=0
def tw3009265638496583771:=0
def tw2956063761971516026:=0
def tw2879770927401947960:=0
def tw2879668819877417389:=0
def tw2840492800364830219:=0
def tw2809944618132082496:=0
def tw2728690040818201982:=0
def tw2653499074297365907:=0
def tw262086079252396385:=0
def tw2528573300995093890:=0
def tw2260860759959427442:=0
def tw2044508053493739055:=0
def tw2009012931105191967:=0
def tw182929950795452863:=0
def tw18286596320022877503:=0
def tw18273904821274857592:=0
def tw18265047444238075899:=0
def tw18139307540294041037:=0
def tw18079349612303096285:=0
def tw17967516777227685167:=0
def tw17730401370599722821:=0
def tw17552661182525209427:=0
def tw17531483351905214168:=0
def tw17496032408749462514:=0
def tw17278320483697420562:=0
def tw17265988337310775:=0
def tw17250800054605119631:=0
def tw17242273096787793456:=0
def tw17199914980819117185:=0
def tw16953862013990769241:=0
def tw16931083374348387608:=0
def tw16923937348781942274:=0
def tw16634592953125037143:=0
def tw16519454314337616287:=0
def tw16398057065826791000:=0
def tw16065053935323156703:=0
def tw1584627944884937373:=0
def tw1571463075522671728:=0
def tw15498198336136088797:=0
def tw14789997758120841630:=0
def tw14514941420936952916:=0
def tw14389458490712445841:=0
def tw14383145127586956324:=0
def tw14341989946808773184:=0
def tw14059400067041483207:=0
def tw13797495073567501558:=0
def tw13552825675478575265:=0
def tw13380173806977587136:=0
def tw13299785066685609739:=0
def tw13266418051973681240:=0
def tw1321466669146149580:=0
def tw13201088797723760186:=0
def tw13049981672043506987:=0
def tw13030987951876440210:=0
def tw13019435323535984750:=0
def tw1294264656965271820:=0
def tw12891863149965864876:=0
def tw12701045327299842540:=0
def tw12680653422185521945:=0
def tw12607855905189926713:=0
def tw12543574546609554395:=0
def tw12533657056559389108:=0
def tw12507139746902200993:=0
def tw12350393614064339349:=0
def tw12299924569083975410:=0
def tw12297963818528643382:=0
def tw12261571072569322388:=0
def tw11975868077642121056:=0
def tw11766787450950125624:=0
def tw11635481904076388192:=0
def tw11598323279328888338:=0
def tw11580209654396721745:=0
def tw11435286174925909654:=0
def tw11230724689654210402:=0
def tw10946599560976845828:=0
def tw10913111129223685186:=0
def tw10870562574201029521:=0
def tw10804337257277833632:=0
def tw10745817568554092365:=0
def tw10692265175087261404:=0
def tw10652750237378380978:=0
def tw10541485379938110591:=0
def tw10186303130786265971:=0
def tw10160901239951749238:=0
def tw10100463249427415732:=0
def tw10082106951261703880:=0
def tw9509387530993343181:=0
def tw8479341652470091698:=0
def tw3985612312376928175:=0
def tw14250828807774255745:=0
end PySem.W.Fast
open PySem PySem.W PyProof.Rows
set_option maxRecDepth 100000 in
set_option maxHeartbeats 0 in
theorem PySem.Challenge.cw_oncedoor_k74_rows_not_whole_holds : PySem.Challenge.rw_oncedoor_k74_rows_not_whole.Holds := by
 w_on;o_law;k_head;(case hw=>w_witness2)
 k_fill
 refine KL.aBQ (l:=PySem.Challenge.rw_oncedoor_k74_rows_not_whole) rfl rfl (λw h Y=>W.kIn_of Y) ?F
 case F=>
  intro w mg fa h KX G DX;refine' KL.Yh KX G DX ?S1 ?N1 ?E4 ?S2 ?A3 ?pk ?xa ?C2 ?E5 ?J9 ?S3 ?pv ?K0 ?E6 ?K1 ?E7 ?E8 ?C4 ?v9 ?N2 ?N3 ?E9 ?S6 ?N4 ?K2 ?F0 ?K3 ?N5 ?N6 ?N7 ?N8 ?G0 ?N9 ?w4 ?w5 ?S8 ?m8 ?t7 ?t9 ?w9 ?A4 ?G4 ?u3 ?K4 ?BB ?BC ?BD ?BE ?pw ?px ?pz ?qa ?qb ?qd ?qe ?u4 ?u5 ?u7 ?l8 ?p7 ?j9 ?l9 ?x5 ?x6 ?x8 ?x9 ?J4 ?K5 ?G5 ?u9 ?m9 ?K6 ?qf ?qg ?qh ?qi ?qj ?qk ?ql ?B0 ?y3 ?y4 ?y6 ?y7 ?J5 ?C5 ?K7 ?C6 ?Y4 ?qo ?G7 ?M4 ?qp ?qr ?qt ?Z5 ?K9 ?V2 ?O1 ?G8 ?Z7 ?V4 ?V5 ?M0 ?kg ?kh ?ki ?V6 ?BG ?B9 ?p8 ?j3 ?j4 ?j6 ?GX ?GY ?GZ ?HA ?HB ?HC ?HD ?HE ?HF ?BH ?HG ?HH ?HI ?HJ ?xg ?xh ?HK ?HL ?BI ?G9 ?BJ ?xi ?BK ?BL ?BM ?qz ?BN ?M1 ?BO ?xj ?rb ?kl ?BP ?xl ?J0 ?V7 ?B3 ?xn ?rh ?rl ?rm ?rn ?y8 ?y9 ?m7
  case S1|N1|E4|S2|A3|pk|xa|C2|E5|J9|S3|pv|K0|E6|K1|E7|E8|C4|v9|N2|N3|E9|S6|N4|K2|F0|K3|N5|N6|N7|N8|G0|N9|w4|w5|S8|m8|t7|t9|w9|A4|G4|u3|K4=>refine' KL.FA.of ?a ?l ?c ?k;(case a=>k_is);(case l=>k_is);(case c=>k_is);case k=>k_is
  case BB|BC|BD|BE|pw|px|pz|qa|qb|qd|qe|u4|u5|u7|l8|p7|j9|l9|x5|x6|x8|x9|J4=>k_is
  case K5|G5|u9|m9|K6=>refine' KL.MA.of ?a ?i ?l ?c ?k;(case a=>k_is);(case i=>k_is);(case l=>k_is);(case c=>k_is);case k=>k_is
  case qf|qg|qh|qi|qj|qk|ql|B0|y3|y4|y6|y7|J5=>k_is
  case C5|K7|C6=>refine' KL.MA.of ?a ?i ?l ?c ?k;(case a=>k_is);(case i=>k_is);(case l=>k_is);(case c=>k_is);case k=>k_is
  case Y4=>k_is
  case qo=>exact rfl
  case G7|M4|qp|qr|qt|Z5|K9|V2|O1|G8|Z7|V4|V5|M0|kg|kh|ki|V6|BG|B9|p8|j3|j4|j6|GX|GY|GZ|HA|HB|HC|HD|HE=>k_is
  case HF=>kit_is
  case BH=>kernel_rfl
  case HG=>k_is
  case HH=>kernel_rfl
  case HI=>k_is
  case HJ=>kts_exm
  case xg|xh|HK=>kit_is
  case HL=>kernel_rfl
  case BI|G9|BJ|xi|BK|BL|BM|qz|BN|M1|BO|xj|rb|kl|BP|xl|J0|V7|B3|xn|rh|rl=>k_is
  case rm=>repeat (first | exact True.intro | refine And.intro ⟨_,rfl⟩ (And.intro rfl (And.intro ⟨_,rfl⟩ ?_)))
  case rn=>decide
  case y8|y9=>k_is
  case m7=>repeat (first | exact .nil | refine .cons ⟨_,rfl⟩ ?_)
