import PyProof.Rows.All
import Wide.All
import OpenK.AllK
import Wide.FinOn
import Lean
import PyProof.EqAt
import PyProof.EqKinds
import PyProof.TupleCall
import KE.KSortTup
import KE.KDictSum
import KE.KDictOf
import PyProof.AttrMissHeap
import OpenK.KRaise
import KE.KIsAll
import KE.KTryMore
import KE.RegKIsAll
import KE.RegKTryMore
import PyProof.NsDelKeeps
import PyProof.ExcArgs
import PyProof.FitsReplace
import PyProof.Rows.StrJoin2
import PySem.Challenge.RW_oncedoor_k54_whole_folded_comes_up_alike
set_option Elab.async false
set_option linter.all false
set_option maxRecDepth 100000
set_option maxHeartbeats 4000000
abbrev ZB:=List (PySem.Addr×PySem.Obj)
abbrev XV:=PySem.Value->PySem.Shared->Prop
abbrev V5:=PySem.Str->Option PySem.Value
def V4:=@PySem.wpAny_bind
def V3:=@PySem.wpAny_pure
def V2:=@Bool.false_ne_true
def UV:=@of_decide_eq_true
def UF:=@of_decide_eq_false
def T8:=@decide_eq_true
def T0:=@decide_eq_false
def TW:=@PySem.Heap.get?_push_size
abbrev TD:=PySem.Addr
abbrev Q2:=PySem.Value
abbrev P1:=PySem.Shared
def P0:=@if_pos
def QZZ:=@if_neg
def QZY:=@absurd
def QZX:=@Nat.le_of_ble_eq_true
def QZW:=@List.mem_append_left
def QZV:=@List.mem_append_right
def QZU:=@Nat.lt_of_lt_of_le
def QZT:=@List.not_mem_nil
def QZS:=@List.filterMap_append
def QZR:=@List.filterMap_cons
def QZQ:=@List.flatMap_cons
abbrev QZP:List PySem.Str:=["_law_deck_here","_law_many"]
abbrev QZO:List PySem.Str:=["self","row"]
abbrev QZN:List PySem.Str:=["deed"]
abbrev QZM:List PySem.Str:=["rows"]
abbrev QZL:List PySem.Str:=["_law_deck_here","_law_menus_here"]
abbrev QZK:List PySem.Str:=["self"]
abbrev QZJ:List PySem.Str:=["_law_row"]
abbrev QZI:List PySem.Str:=["row"]
abbrev QZH:List PySem.Str:=["thing"]
abbrev QZG:List PySem.Str:=["_law_script"]
abbrev QZF:List PySem.Str:=["rows","came"]
abbrev QZE:List PySem.Str:=["_law_book","_law_deed_here"]
abbrev QZD:List PySem.Str:=["thing","signs","longest"]
abbrev QZC:List PySem.Str:=["things","bounds"]
abbrev QZB:List PySem.Str:=["self","rows"]
abbrev QZA:List PySem.Str:=["rows","done","asked","came","still"]
abbrev QZz:List PySem.Str:=["_law_deck_here","_law_names","_law_houses"]
abbrev QZy:List PySem.Str:=["_law_deck_here","_law_rows","_law_menus_here","_law_many","_law_book","_law_under","_law_words_here","_law_number","_law_turn","_law_k","_law_way","_law_deed_here","_law_one","_law_answer_here"]
abbrev QZx:List PySem.Str:=["_law_rows","_law_life","_law_turn","_law_numbers","_law_other","_law_book","_law_kept_here","_law_waiting","_law_number","_law_last","_law_came","_law_there","_law_spots","_law_under"]
abbrev QZw:List PySem.Str:=["since","life","turn"]
abbrev QZv:List PySem.Str:=["thing","least","most"]
abbrev QZu:List PySem.Str:=["deed","answer"]
abbrev QZt:List PySem.Str:=["self","name"]
abbrev QZs:List PySem.Str:=["rows","word"]
abbrev QZr:List PySem.Str:=["_law_deed_here","_law_answer_here"]
abbrev QZq:List PySem.Str:=["_law_book","_law_deed_here","_law_answer_here"]
abbrev QZp:List PySem.Str:=["_law_deck_here","_law_book","_law_deed_here"]
abbrev QZo:List PySem.Str:=["_law_deck_here","_law_book","_law_one"]
abbrev QZn:List PySem.Str:=["_law_deck_here","_law_rows","_law_done","_law_numbers","_law_way","_law_turns","_law_turn","_law_life"]
abbrev QZm:List PySem.Str:=["deed","thing"]
abbrev QZl:List PySem.Str:=["self","changes"]
abbrev QZk:List PySem.Str:=["rows","life","turn","numbers","up","has","came","busy","kept"]
abbrev QZj:List PySem.Str:=["rows","life","turn","numbers"]
abbrev QZi:List PySem.Str:=["kept","life","turn"]
abbrev QZh:List PySem.Str:=["rows","turn","numbers"]
abbrev QZg:List PySem.Str:=["_law_deck_here","_law_signs","_law_longest","_law_many","_law_word","_law_size","_law_at","_law_first","_law_ends"]
abbrev QZf:List PySem.Str:=["_law_deck_here","_law_signs","_law_longest","_law_many"]
abbrev QZe:List PySem.Str:=["_law_deed_here","_law_asked"]
abbrev QZd:List PySem.Str:=["_law_deck_here","_law_deed_here","_law_word"]
abbrev QZc:List PySem.Str:=["_law_deck_here"]
abbrev QZb:List PySem.Str:=["_law_deck_here","_law_menus_here","_law_number","_law_turn"]
abbrev QZa:List PySem.Str:=["_law_deck_here","_law_rows","_law_menus_here","_law_many"]
abbrev QYZ:List PySem.Str:=["_law_deck_here","_law_rows"]
abbrev QYY:List PySem.Str:=["_law_kept_here","_law_life","_law_turn","_law_spots"]
abbrev QYX:List PySem.Str:=["_law_rows","_law_life","_law_turn","_law_numbers","_law_other"]
abbrev QYW:List PySem.Str:=["_law_one","_law_came"]
abbrev QYV:List PySem.Str:=["rows","came","kept"]
abbrev QYU:List PySem.Str:=["thing","least_most"]
abbrev QYT:List PySem.Str:=["kept","life","turn","last","entry"]
abbrev QYS:List PySem.Str:=["_law_deed_here","_law_asked","_law_words_here","_law_some"]
abbrev QYR:List PySem.Str:=["_law_kept_here","_law_life","_law_turn","_law_spots","_law_last","_law_number","_law_when","_law_asker","_law_key","_law_deed_here","_law_answer_here"]
abbrev QYQ:List PySem.Str:=["_law_k","_law_deck_here","_law_signs"]
abbrev QYP:List PySem.Str:=["_law_k","_law_signs","_law_first","_law_ends"]
abbrev QYO:List PySem.Str:=["_law_number","_law_deck_here","_law_way"]
abbrev QYN:List PySem.Str:=["_law_spot_here","_law_life","_law_turn","_law_spots","_law_last"]
open List (mem_filter mem_range filterMap_cons mem_cons mem_append_left mem_filterMap mem_append_right map_cons append_nil nodup_cons of_mem_zip length take_sublist filterMap_map length_drop map_nil length_set all_cons any_cons length_singleton find?_cons cons_append length_nil nodup_nil any_eq_true forIn_cons lookup_cons drop_zero all_eq_true length_filter_le getElem_mem foldl_cons map_map any_map all_map toArray pairwise_cons le_trans getD_eq_getElem?_getD not_mem_nil map_congr_left range_succ ext_getElem pairwise_iff_getElem eraseIdx_cons_succ getElem_of_mem mem_of_mem_take pairwise_map nodup_append getElem_map getElem_set map_set filterMap_append mem_map_of_mem foldl_append filter_append filter_cons flatMap_append flatMap_cons length_filterMap_le append_assoc mem_flatMap)
open Nat (lt_of_lt_of_le lt_irrefl ne_of_lt le_of_lt ne_of_gt le_of_eq lt_succ_self zero_le le_succ min_le_right lt_trans lt_succ_of_lt le_of_ble_eq_true min_le_left min_eq_left add_lt_add_left le_add_right le_succ_of_le mod_lt)
def Zk{p:Prop}(h:p:=by decide +kernel):p:=h
def Zo{p:Prop}(h:p:=by omega):p:=h
def Zs{p:Prop}(h:p:=by simp):p:=h
def Zd{p:Prop}(h:p:=by decide):p:=h
def aS:=@List.length_map
def eG:=@PySem.Heap.get?_push_of_some
def Zgs:=@List.getElem?_eq_some_iff
def eZ:=@List.getElem?_eq_getElem
def iV:=@List.mem_cons_of_mem
def Zmm:=@List.mem_map
def dJ:=@List.map_append
def mO:=@List.length_append
def fA:=@List.getElem?_map
def eI:=@Nat.le_trans
def eV:=@List.mem_cons_self
def eB:=@List.size_toArray
def nU:=@List.length_take
def iB:=@List.take_of_length_le
def Zma:=@List.mem_append
def Zms:=@List.mem_singleton
def qE:=@List.length_cons
def nS:=@Nat.lt_of_le_of_lt
def aY:=@Nat.le_refl
def kI:=@List.mem_of_getElem?
namespace L2
open PySem PySem.Spec PyProof.Rows
abbrev aT:=Sum Int Str
def kB:aT->Q2->Bool
 | .inl k,v=>Value.isInt k v
 | .inr x,v=>Value.isStrOf x v
def aAo(w:World):aT->Int
 | .inl k=>hashInt k
 | .inr x=>hashStr w x
def bM:∀ {k:aT}{v:Q2},kB k v=true->(∃i t,k=Sum.inl i/\v=Value.int i t)∨(∃x t,k=Sum.inr x/\v=Value.str x t)
 | .inl i,v,h=>by
  obtain⟨t,e⟩:=Value.isInt_shape (k:=i) (v:=v) h;exact .inl ⟨i,t,rfl,e⟩
 | .inr x,v,h=>by
  obtain⟨t,e⟩:=Value.isStrOf_shape (x:=x) (v:=v) h;exact .inr ⟨x,t,rfl,e⟩
def El(i:Int)(t:Tok):kB (.inl i) (.int i t)=true:=by simp[kB,Value.isInt]
def Em(x:Str)(t:Tok):kB (.inr x) (.str x t)=true:=by simp[kB,Value.isStrOf]
def Vj(a b:Int):decide ((Sum.inl a:aT)=Sum.inl b)=(a==b):=by
 by_cases e:a=b
 ·subst e;simp
 ·have h:¬ (Sum.inl a:aT)=Sum.inl b:=λq=>e (Sum.inl.inj q)
  rw[T0 h];exact(beq_eq_false_iff_ne.mpr e).symm
def Vk(a b:Str):decide ((Sum.inr a:aT)=Sum.inr b)=decide (a=b):=by
 by_cases e:a=b
 ·subst e;simp
 ·have h:¬ (Sum.inr a:aT)=Sum.inr b:=λq=>e (Sum.inr.inj q)
  rw[T0 h,T0 e]
def Vl(a:Int)(b:Str):decide ((Sum.inl a:aT)=Sum.inr b)=false:=T0 (λq=>nomatch q)
def Vm(a:Str)(b:Int):decide ((Sum.inr a:aT)=Sum.inl b)=false:=T0 (λq=>nomatch q)
def bB(prog:Program)(w:World):PySem.KeyKind prog w aT where
 is:=kB
 hash:=aAo w
 inj:=λv a b ha hb=>by
  rcases bM ha with⟨i,t,rfl,rfl⟩|⟨x,t,rfl,rfl⟩
  ·rcases bM hb with⟨j,u,rfl,e⟩|⟨y,u,rfl,e⟩
   ·injection e with e1 _;rw[e1]
   ·exact nomatch e
  ·rcases bM hb with⟨j,u,rfl,e⟩|⟨y,u,rfl,e⟩
   ·exact nomatch e
   ·injection e with e1 _;rw[e1]
 byValue:=λk v h=>by
  rcases bM h with⟨i,t,rfl,rfl⟩|⟨x,t,rfl,rfl⟩<;>rfl
 pyHash:=λhv h=>by
  rcases bM hv with⟨i,t,rfl,rfl⟩|⟨x,t,rfl,rfl⟩
  ·exact wpAny_pyHash_int h
  ·exact wpAny_pyHash_str h
 eqBool:=λhu hv h=>by
  rcases bM hu with⟨i,t,rfl,rfl⟩|⟨x,t,rfl,rfl⟩
  ·rcases bM hv with⟨j,u,rfl,rfl⟩|⟨y,u,rfl,rfl⟩
   ·rw[Vj]at h;exact wpAny_eqBool_int h
   ·rw[Vl]at h;exact SeqAt.EqAt.int_str i t y u _ _ _ _ h
  ·rcases bM hv with⟨j,u,rfl,rfl⟩|⟨y,u,rfl,rfl⟩
   ·rw[Vm]at h;exact SeqAt.EqAt.str_int x t j u _ _ _ _ h
   ·rw[Vk]at h;exact wpAny_eqBool_str h
 «strs»:=λk x t v h=>by
  rcases bM h with⟨i,u,rfl,e⟩|⟨y,u,rfl,e⟩
  ·exact nomatch e
  ·injection e with e1 _
   subst e1;cases v<;>rfl
def wX(prog:Program)(w:World)(i:Int)(t:Tok):(bB prog w).is (.inl i) (.int i t)=true:=El i t
def wY(prog:Program)(w:World)(x:Str)(t:Tok):(bB prog w).is (.inr x) (.str x t)=true:=Em x t
inductive V where
 | non|bl (b:Bool)|int (i:Int)|str (x:Str)|byt (b:Array UInt8)|flt (b:UInt64)|ref (a:TD)|ty (n:String)
 deriving DecidableEq
def RelV:V->Q2->Prop
 | .non,u=>u=Value.none
 | .bl b,u=>u=Value.bool b
 | .int i,u=>∃t,u=Value.int i t
 | .str x,u=>∃t,u=Value.str x t
 | .byt b,u=>∃t,u=Value.bytes b t
 | .flt b,u=>∃t,u=Value.float b t
 | .ref a,u=>u=Value.ref a
 | .ty n,u=>u=Value.type n
abbrev Vals:List V->List Q2->Prop:=Paired RelV
def Vals.length{xs:List V}{us:List Q2}(r:Vals xs us):xs.length=us.length:=Paired.length r
def Vals.get:∀ {xs:List V}{us:List Q2}{i:Nat}{x:V},Vals xs us->xs[i]?=some x->∃u,us[i]?=some u/\RelV x u
 | _,_,_,_,.nil,e=>by simp at e
 | _,_,0,_,.cons r _,e=>by simp at e;subst e;exact⟨_,rfl,r⟩
 | _,_,i+1,x,.cons _ t,e=>by
  obtain⟨u,h1,h2⟩:=Vals.get (i:=i) (x:=x) t (by simpa using e);exact⟨u,by simpa using h1,h2⟩
def Vals.set{x:V}{u:Q2}(r:RelV x u):∀ {xs:List V}{us:List Q2} (i:Nat),Vals xs us->Vals (xs.set i x) (us.set i u)
 | _,_,_,.nil=>.nil
 | _,_,0,.cons _ t=>.cons r t
 | _,_,i+1,.cons q t=>.cons q (Vals.set r i t)
def Vals.append:∀ {xs ys:List V}{us ws:List Q2},Vals xs us->Vals ys ws->Vals (xs++ys) (us++ws)
 | _,_,_,_,.nil,s=>s
 | _,_,_,_,.cons r t,s=>.cons r (Vals.append t s)
def Vals.take:∀ {xs:List V}{us:List Q2} (n:Nat),Vals xs us->Vals (xs.take n) (us.take n)
 | _,_,0,_=>.nil
 | _,_,_+1,.nil=>.nil
 | _,_,n+1,.cons r t=>.cons r (Vals.take n t)
def Vals.drop:∀ {xs:List V}{us:List Q2} (n:Nat),Vals xs us->Vals (xs.drop n) (us.drop n)
 | _,_,0,r=>r
 | _,_,_+1,.nil=>.nil
 | _,_,n+1,.cons _ t=>Vals.drop n t
def RelO:Option V->Option Q2->Prop
 | some v,some u=>RelV v u
 | none,none=>True
 | _,_=>False
def KV{κ:Type}:List (κ×V)->List (κ×Q2)->Prop:=Paired λ(p:κ×V) (q:κ×Q2)=>p.1=q.1/\RelV p.2 q.2
def kV:aT->V
 | .inl i=>.int i
 | .inr x=>.str x
inductive HO where
 /-- a list -/
 | lst (xs:List V)
 /-- a tuple (never changes) -/
 | tup (xs:List V)
 /-- a dict whose keys are ints and texts;one whose keys are tuples of ints and texts (the empty one is both) -/
 | dK (kvs:List (aT×V))|dT (kvs:List (List aT×V))
 /-- a set of ints: its members,its size -/
 | set (S:Int->Bool) (n:Nat)
 /-- an instance of the class at C,its dict at dx,its attributes -/
 | ins (C dx:TD) (fs:List (Str×V))
 /-- the dict of the instance at x -/
 | own (x:TD)
 /-- the dict of an exception -/
 | xd (fs:List (Str×V))
 /-- a bound method,f of x -/
 | met (f x:TD)
 /-- a range object lo,lo+1,.. below hi -/
 | rng (lo hi:Int)
 /-- a thing that is known to the object (the script;a dict while a loop walks it): read,never written while it is so -/
 | frz (o:Obj) (u:HO)
 /-- a code object's table -/
 | tbl (ps:Array Value)
 /-- any other thing,by what is true of its one object (a def of one's own: SetO a S n:=HO.ext λh=>..) -/
 | ext (φ:Heap->Prop)
abbrev Hp:=Addr->Option HO
def aI(H:Hp)(a:TD)(o:HO):Hp:=λb=>if b=a then some o else H b
def aA{H:Hp}{a:TD}{o:HO}:aI H a o a=some o:=by unfold aI;rw[P0 rfl]
def aB{H:Hp}{a b:TD}{o:HO}(h:b≠a):aI H a o b=H b:=by unfold aI;rw[QZZ h]
def cV{H:Hp}{a b:TD}{o u:HO}(h:H a=some o)(h':H b=some u)(d:o≠u):a≠b:=by
 intro e;subst e;rw[h]at h';exact d (Option.some.inj h')
def aE{H:Hp}{a b:TD}{o:HO}(h:H a=some o)(h':H b=none):a≠b:=by
 intro e;subst e;rw[h]at h';cases h'
section
variable (P:Program) (w:World)
def ObjOk(H:Hp)(h:Heap)(a:TD):HO->Prop
 | .lst xs=>xs.length<=sizeLine/\∃(its:List Q2)(n:Nat),Vals xs its/\h.get? a=some {cls:=.type "list",data:=.seq its.toArray n }
 | .tup xs=>xs.length<=sizeLine/\∃its:List Q2,Vals xs its/\IsTup h a its.toArray
 | .dK kvs=>kvs.length<=sizeLine/\(a==sysModules)=false/\∃vs,KV kvs vs/\h.DictOf (bB P w) a vs
 | .dT kvs=>kvs.length<=sizeLine/\(a==sysModules)=false/\∃xs:List (List aT×TD×Q2),
   Paired (λ(p:List aT×V) (q:List aT×TD×Q2)=>p.1=q.1/\H q.2.1=some (.tup (p.1.map kV))/\RelV p.2 q.2.2) kvs xs ∧
   ∃o es ep,h.get? a=some o/\o.ExactDict/\o.data=.dict es ep/\es.toList=xs.map (entryOfKey (tupleKind (bB P w)))/\(xs.map (·.1)).Nodup
 | .set S n=>h.SetOf (intKind P w) a S n
 | .ins C dx fs=>H dx=some (.own a)/\fs.length<=1000/\dx≠a/\h.get? a=some (W.instObj C dx) ∧
   ∃mA,h.Ns1 dx mA/\(∀f,RelO (fs.lookup f) (mA f))/\PySem.Within mA (fs.map (·.1))
 | .own _=>∃o,h.get? a=some o
 | .xd fs=>∃mA,h.Ns1 a mA/\∀f,RelO (fs.lookup f) (mA f)
 | .rng lo hi=>∃t u v,h.get? a=some {cls:=.type "range",data:=.fields #[.int lo t,.int hi u,.int 1 v] }
 | .frz o u=>h.get? a=some o/\ObjOk H h a u
 | .tbl ps=>h.get? a=some {cls:=.none,data:=.fields ps }
 | .met f x=>h.get? a=some (W.methodObj (.ref f) (.ref x))
 | .ext φ=>φ h/\(∃o,h.get? a=some o)/\∀h1 h2:Heap,φ h1->(∀o,h1.get? a=some o->h2.get? a=some o)->φ h2
def HOk(H:Hp)(h:Heap):Prop:=∀a o,H a=some o->ObjOk P w H h a o
end
section
variable {P:Program}{w:World}{H H':Hp}{h h':Heap}{a:TD}{o:HO}
def ObjOk.lt(x:ObjOk P w H h a o):a<h.objs.size:=by
 cases o with
 | lst xs=>obtain⟨_,_,_,_,e⟩:=x;exact Heap.lt_size e
 | tup xs=>obtain⟨_,_,_,p⟩:=x;exact p.lt
 | dK kvs=>obtain⟨_,_,_,_,o,_,_,e,_⟩:=x;exact Heap.lt_size e
 | dT kvs=>obtain⟨_,_,_,_,o,_,_,e,_⟩:=x;exact Heap.lt_size e
 | set S n=>obtain⟨o,_,_,_,e,_⟩:=x;exact Heap.lt_size e
 | ins C dx fs=>obtain⟨_,_,_,e,_⟩:=x;exact Heap.lt_size e
 | own y=>obtain⟨_,e⟩:=x;exact Heap.lt_size e
 | xd fs=>obtain⟨_,⟨_,_,_,e,_⟩,_⟩:=x;exact Heap.lt_size e
 | rng lo hi=>obtain⟨_,_,_,e⟩:=x;exact Heap.lt_size e
 | frz ob u=>obtain⟨e,_⟩:=x;exact Heap.lt_size e
 | tbl ps=>exact Heap.lt_size (show h.get? a=some _ from x)
 | met f y=>exact Heap.lt_size (show h.get? a=some _ from x)
 | ext φ=>obtain⟨_,⟨_,e⟩,_⟩:=x;exact Heap.lt_size e
def Paired.mapP{α β:Type}{F G:α->β->Prop}:∀ {l₁:List α}{l₂:List β},Paired F l₁ l₂->(∀a b,F a b->G a b)->Paired G l₁ l₂
 | _,_,.nil,_=>.nil
 | _,_,.cons r t,f=>.cons (f _ _ r) (Paired.mapP t f)
def ObjOk.stay(x:ObjOk P w H h a o)(k:∀b u,(b=a∨H b=some (.own a))->h.get? b=some u->h'.get? b=some u)(ho:∀b,H b=some (.own a)->H' b=some (.own a))(ht:∀b xs,H b=some (.tup xs)->H' b=some (.tup xs)):ObjOk P w H' h' a o:=by
 induction o with
 | lst xs=>obtain⟨z,its,n,r,e⟩:=x;exact⟨z,its,n,r,k _ _ (.inl rfl) e⟩
 | tup xs=>obtain⟨z,its,r,ob,e,c⟩:=x;exact⟨z,its,r,ob,k _ _ (.inl rfl) e,c⟩
 | dK kvs=>obtain⟨z,y,vs,r,ob,es,ep,e,c⟩:=x;exact⟨z,y,vs,r,ob,es,ep,k _ _ (.inl rfl) e,c⟩
 | dT kvs=>
  obtain⟨z,y,xs,r,ob,es,ep,e,c⟩:=x;exact⟨z,y,xs,Paired.mapP r λp q z=>⟨z.1,ht _ _ z.2.1,z.2.2⟩,ob,es,ep,k _ _ (.inl rfl) e,c⟩
 | set S n=>obtain⟨ob,es,ep,t,e,c⟩:=x;exact⟨ob,es,ep,t,k _ _ (.inl rfl) e,c⟩
 | ins C dx fs=>
  obtain⟨d,z,ne,e,mA,⟨od,es,ep,e2,c⟩,r⟩:=x;exact⟨ho _ d,z,ne,k _ _ (.inl rfl) e,mA,⟨od,es,ep,k _ _ (.inr d) e2,c⟩,r⟩
 | own y=>obtain⟨ob,e⟩:=x;exact⟨ob,k _ _ (.inl rfl) e⟩
 | xd fs=>obtain⟨mA,⟨od,es,ep,e,c⟩,r⟩:=x;exact⟨mA,⟨od,es,ep,k _ _ (.inl rfl) e,c⟩,r⟩
 | rng lo hi=>obtain⟨t,u,v,e⟩:=x;exact⟨t,u,v,k _ _ (.inl rfl) e⟩
 | frz ob u ih=>obtain⟨e,q⟩:=x;exact⟨k _ _ (.inl rfl) e,ih q⟩
 | tbl ps=>
  have e:h.get? a=some {cls:=.none,data:=.fields ps }:=x;show h'.get? a=some {cls:=.none,data:=.fields ps };exact k a _ (.inl rfl) e
 | met f y=>
  have e:h.get? a=some (W.methodObj (.ref f) (.ref y)):=x;show h'.get? a=some (W.methodObj (.ref f) (.ref y));exact k a _ (.inl rfl) e
 | ext φ=>obtain⟨p,⟨o,e⟩,st⟩:=x;exact⟨st _ _ p λo q=>k _ _ (.inl rfl) q,⟨o,k _ _ (.inl rfl) e⟩,st⟩
def HOk.lt(x:HOk P w H h)(e:H a=some o):a<h.objs.size:=(x a o e).lt
def HOk.fresh(x:HOk P w H h)(e:h.objs.size<=a):H a=none:=by
 cases q:H a with
 | none=>rfl
 | some u=>exact QZY (QZU (x.lt q) e) (lt_irrefl _)
def HOk.kept(x:HOk P w H h)(k:∀b u,h.get? b=some u->h'.get? b=some u):HOk P w H h':=λa o e=>
 (x a o e).stay (λb u _ q=>k b u q) (λ_ q=>q) λ_ _ q=>q
def HOk.laid(x:HOk P w H h)(k:∀b u,h.get? b=some u->h'.get? b=some u)(hp:h.objs.size<=a)(new:ObjOk P w (aI H a o) h' a o):HOk P w (aI H a o) h':=λb u e=>by
 have hn:=x.fresh hp;by_cases hb:b=a
 ·subst hb;rw[aA]at e;cases e;exact new
 ·rw[aB hb]at e;exact(x b u e).stay (λc v _ q=>k c v q) (λc q=>by rw[aB (aE q hn)];exact q) λc xs q=>by rw[aB (aE q hn)];exact q
end
def Rd(H:Hp)(a:TD)(u:HO):Prop:=H a=some u∨∃o,H a=some (.frz o u)
def Rd.ok{P:Program}{w:World}{H:Hp}{h:Heap}{a:TD}{u:HO}(r:Rd H a u)(x:HOk P w H h):ObjOk P w H h a u:=by
 rcases r with r|⟨o,r⟩
 ·exact x a u r
 ·obtain⟨_,q⟩:=x a _ r;exact q
def Mut:Option HO->Prop
 | some (.lst _)=>True
 | some (.dK _)=>True
 | some (.dT _)=>True
 | some (.set _ _)=>True
 | some (.ins _ _ _)=>True
 | some (.ext _)=>True
 | _=>False
section
variable {P:Program}{w:World}{H:Hp}{h h':Heap}{x e:TD}{o':HO}
def HOk.write(ok:HOk P w H h)(mu:Mut (H x))(he:e=x∨H e=some (.own x))(k:∀b u,b≠e->h.get? b=some u->h'.get? b=some u)(DR:∃u,h'.get? e=some u)(new:ObjOk P w (aI H x o') h' x o'):HOk P w (aI H x o') h':=λb u q=>by
 have FI:∀c y,H c=some (.own y)->c≠x:=λc y r z=>by subst z;rw[r]at mu;exact mu
 have KZ:∀c xs,H c=some (.tup xs)->c≠x:=λc xs r z=>by subst z;rw[r]at mu;exact mu
 by_cases hb:b=x
 ·subst hb;rw[aA]at q;cases q;exact new
 ·rw[aB hb]at q;by_cases BL:b=e
  ·have q':H b=some (.own x):=by
    rcases he with z|z
    ·exact QZY (BL.trans z) hb
    ·rw[BL];exact z
   rw[q]at q';cases q';obtain⟨v,hv⟩:=DR;exact⟨v,by rw[BL];exact hv⟩
  ·refine(ok b u q).stay (λc v hc r=>k c v ?_ r) (λc r=>by rw[aB (FI c b r)];exact r) λc xs r=>by rw[aB (KZ c xs r)];exact r
   rcases hc with rfl|hc
   ·exact BL
   ·rintro rfl;rcases he with z|z
    ·exact FI c b hc z
    ·rw[hc]at z;cases z;exact hb rfl
end
structure Un(fs ex:List TD)(H H':Hp)(h h':Heap):Prop where
 keep:∀b o,h.get? b=some o->H b=none->b∉fs->b∉ex->h'.get? b=some o
 slot:∀b o,h.get? b=some o->H b=none->b∈fs->b∉ex->∃sl,h'.get? b=some {o with slots:=sl }
 free:∀b o,h.get? b=some o->H b=none->b∉ex->H' b=none
 there:∀b o,h.get? b=some o->b∉ex->∃o',h'.get? b=some o'
 tups:∀b xs,H b=some (.tup xs)->H' b=some (.tup xs)
 frzs:∀b o u,H b=some (.frz o u)->H' b=some (.frz o u)
 tbls:∀b ps,H b=some (.tbl ps)->∃more,H' b=some (.tbl (ps++more))
section
variable {fs VL ex ex':List TD}{H H1 H2:Hp}{h h1 h2 h':Heap}{a x e:TD}{o:HO}
def Un.any(u:Un fs ex H H1 h h1){b:TD}{ob:Obj}(q:h.get? b=some ob)(n:H b=none)(hx:b∉ex):∃sl,h1.get? b=some {ob with slots:=sl }:=by
 by_cases hb:b∈fs
 ·exact u.slot b ob q n hb hx
 ·exact⟨ob.slots,u.keep b ob q n hb hx⟩
def Un.kept(k:∀b u,h.get? b=some u->h'.get? b=some u):Un fs ex H H h h':=
 ⟨λb ob q _ _ _=>k b ob q,λb ob q _ _ _=>⟨ob.slots,k b ob q⟩,λ_ _ _ n _=>n,λb ob q _=>⟨ob,k b ob q⟩,λ_ _ q=>q,λ_ _ _ q=>q,λ_ ps q=>⟨#[],by rw[q];simp⟩⟩
def Un.refl:Un fs ex H H h h:=Un.kept λ_ _ q=>q
def Un.laid(k:∀b u,h.get? b=some u->h'.get? b=some u)(hp:h.objs.size<=a)(hn:H a=none):Un fs ex H (aI H a o) h h' where
 keep:=λb u q _ _ _=>k b u q
 slot:=λb u q _ _ _=>⟨u.slots,k b u q⟩
 free:=λb u q n _=>by rw[aB (ne_of_lt (QZU (Heap.lt_size q) hp))];exact n
 there:=λb u q _=>⟨u,k b u q⟩
 tups:=λb xs q=>by rw[aB (aE q hn)];exact q
 frzs:=λb u xs q=>by rw[aB (aE q hn)];exact q
 tbls:=λb ps q=>⟨#[],by rw[aB (aE q hn),q];simp⟩
def Un.write(mu:Mut (H x))(he:e=x∨H e=some (.own x))(k:∀b u,b≠e->h.get? b=some u->h'.get? b=some u)(DR:∃u,h'.get? e=some u):Un fs ex H (aI H x o) h h':=by
 have hx:∀b,H b=none->b≠x:=λb n z=>by subst z;rw[n]at mu;exact mu
 have hb:∀b,H b=none->b≠e:=λb n z=>by
  subst z;rcases he with r|r
  ·exact hx b n r
  ·rw[n]at r;cases r
 have hm:∀b u,H b=some u->¬ Mut (some u)->b≠x:=λb u q nm z=>by subst z;rw[q]at mu;exact nm mu
 refine⟨λb u q n _ _=>k b u (hb b n) q,λb u q n _ _=>⟨u.slots,k b u (hb b n) q⟩,λb u q n _=>by rw[aB (hx b n)];exact n,λb u q _=>?_,
  λb xs q=>by rw[aB (hm b _ q λz=>z)];exact q,λb u xs q=>by rw[aB (hm b _ q λz=>z)];exact q,λb ps q=>⟨#[],by rw[aB (hm b _ q λz=>z),q];simp⟩⟩
 by_cases BL:b=e
 ·subst BL;exact DR
 ·exact⟨u,k b u BL q⟩
end
def trk(h:Heap)(H:Hp):List Addr:=(List.range h.objs.size).filter λa=>(H a).isSome
def uU(h:Heap)(H:Hp):Heap:=W.hideAll h (trk h H)
def En(h:Heap)(H:Hp):(uU h H).objs.size=h.objs.size:=W.hideAll_size _ _
def Ih{h:Heap}{H:Hp}{b:TD}{o:Obj}(e:h.get? b=some o)(n:H b=none):(uU h H).get? b=some o:=
 W.hideAll_get _ e λhm=>by
  have q:(H b).isSome=true:=(mem_filter.mp hm).2;rw[n]at q;simp at q
def Pl{h:Heap}{H:Hp}{b:TD}{o:Obj}(e:(uU h H).get? b=some o):h.get? b=some o/\H b=none:=by
 have e':h.get? b=some o:=W.of_hideAll (trk h H) e;refine⟨e',?_⟩
 cases q:H b with
 | none=>rfl
 | some x=>
  have hm:b∈trk h H:=mem_filter.mpr ⟨mem_range.mpr (Heap.lt_size e'),by simp[q]⟩;have z:(uU h H).get? b=none:=W.hideAll_none (trk h H) hm;rw[z]at e;cases e
structure Mod(K:W.Frag)(mg:V5)(base:Heap):Prop where
 kin:K.In base
 glob:base.Ns mainGlobals mg
 blt:∃mb,base.Ns builtinsNs mb/\∀x:Str,x≠"__name__"->mb x=bootBuiltins x
 nolimit:base.NoLimit
structure Cx where
 prog:Program
 w:World
 K:W.Frag
 mg:Str->Option Value
 base:Heap
 A:Around
 N:List Str
 s₀:Shared
 H₀:Hp
 env:Env
 outer:List Env
 stack:List Env
 ex:List Addr
 fn:Str->Bool
 calm:Bool
 pn:List (TD×Obj)
 xe:Q2->P1->Prop
def Ii(l:List Env):List Addr:=l.filterMap (·.frame)
abbrev Cx.fs(X:Cx):List Addr:=Ii X.outer
def Vis(sc:Scope)(x:Str):Prop:=sc.names.lookup x=some .local∨sc.names.lookup x=some .cell∨sc.names.lookup x=some .free
def Ty(sc:Scope)(x:Str):Prop:=sc.names.lookup x=some .local∨sc.names.lookup x=some .cell
def aBZ(env:Env)(h:Heap)(m:V5)(x:Str)(u:Q2):Prop:=
 (env.kindOf x=some .local/\m x=some u)∨((env.kindOf x=some .cell∨env.kindOf x=some .free)/\∃c,env.cells.lookup x=some c/\h.IsCell c (some u))
structure Cx.Ok(X:Cx):Prop where
 mod:Mod X.K X.mg X.base
 kind:X.env.scope.kind=.function
 glob:X.env.globals=mainGlobals
 blt:X.env.builtins=builtinsNs
 above:X.s₀.heap.objs.size<=X.env.locals
 inj:∀x y c,X.env.cells.lookup x=some c->X.env.cells.lookup y=some c->x=y
 has:∀x,(X.env.kindOf x=some .cell∨X.env.kindOf x=some .free)->∃c,X.env.cells.lookup x=some c
 cab:∀x c,X.fn x=true->X.env.cells.lookup x=some c->X.s₀.heap.objs.size<=c
 hd:X.calm=true->X.A.handled=none
 frames:X.A.frames=some X.stack
 stk:X.stack=X.outer∨(X.stack=X.env::X.outer/\X.env.frame=some X.env.locals)
 exf:∀b∈X.ex,b≠X.env.locals/\∀x c,X.env.cells.lookup x=some c->c≠b
 bs:∀b o,X.base.get? b=some o->X.s₀.heap.get? b=some o/\X.H₀ b=none
 bsz:X.base.objs.size<=X.s₀.heap.objs.size
 noex:∀b o,X.base.get? b=some o->b∉X.ex
 exfs:∀b∈X.ex,b∉X.fs
 funs:X.s₀.heap.FunFrames X.base X.outer
 frf:∀b∈X.fs,X.H₀ b=none
structure Inv(X:Cx)(pins:ZB)(σ:List (Option V))(H:Hp)(s:P1):Prop where
 ok:X.Ok
 os:s.os=X.s₀.os
 bare:AllBare s.gens
 base:Un X.fs X.ex X.H₀ H X.s₀.heap s.heap
 loc:∃m,s.heap.Ns X.env.locals m/\∀(i:Nat)(x:Str)(v:V),X.N[i]?=some x->σ[i]?=some (some v)->Vis X.env.scope x->∃u,RelV v u/\aBZ X.env s.heap m x u
 cell:∀x c,X.env.cells.lookup x=some c->∃v,s.heap.IsCell c v
 free:H X.env.locals=none
 freeC:∀x c,X.env.cells.lookup x=some c->H c=none
 pin:∀p∈X.pn++pins,s.heap.get? p.1=some p.2/\H p.1=none/\p.1≠X.env.locals/\p.1∉X.fs/\∀v,p.2.data≠.cell v
 hok:HOk X.prog X.w H s.heap
 len:σ.length=X.N.length
section
variable {X:Cx}{pins:ZB}{σ:List (Option V)}{H H':Hp}{s:P1}{h':Heap}
def Cx.Ok.nofr(ok:X.Ok){b:TD}{o:Obj}(e:X.base.get? b=some o):b∉X.fs:=λhb=>by
 have:=(ok.funs.mem hb).1;rw[e]at this;cases this
def Inv.bs(I:Inv X pins σ H s):∀b o,X.base.get? b=some o->s.heap.get? b=some o/\H b=none:=λb o e=>
 ⟨I.base.keep b o (I.ok.bs b o e).1 (I.ok.bs b o e).2 (I.ok.nofr e) (I.ok.noex b o e),I.base.free b o (I.ok.bs b o e).1 (I.ok.bs b o e).2 (I.ok.noex b o e)⟩
def Inv.bk(I:Inv X pins σ H s):∀b o,X.base.get? b=some o->s.heap.get? b=some o:=λb o e=>(I.bs b o e).1
def Inv.mod(I:Inv X pins σ H s):Mod X.K X.mg X.base:=I.ok.mod
def Inv.kIn(I:Inv X pins σ H s):X.K.In s.heap:=I.ok.mod.kin.keeps I.bk
def Inv.fr(I:Inv X pins σ H s):∃m,Fr X.base X.env.locals s.heap m:=
 let ⟨m,hn,_⟩:=I.loc
 ⟨m,hn,I.bk,eI I.ok.bsz I.ok.above⟩
def Inv.lt(I:Inv X pins σ H s):X.env.locals<s.heap.objs.size:=let ⟨_,hn,_⟩:=I.loc;hn.lt
def Inv.sz(I:Inv X pins σ H s):X.s₀.heap.objs.size<=s.heap.objs.size:=eI I.ok.above (le_of_lt I.lt)
def Inv.nofs(I:Inv X pins σ H s){a:TD}(h:s.heap.objs.size<=a):a∉X.fs:=λhb=>by
 obtain⟨_,o,ho,_⟩:=I.ok.funs.mem hb;exact QZY (QZU (Heap.lt_size ho) (eI I.sz h)) (lt_irrefl _)
def Inv.cne(I:Inv X pins σ H s):∀x c,X.env.cells.lookup x=some c->c≠X.env.locals:=λx c e z=>by
 obtain⟨v,o,ho,hd⟩:=I.cell x c e;obtain⟨m,⟨o',es,ep,P2,vi,_⟩,_⟩:=I.loc;rw[z,P2]at ho;cases ho;rw[vi]at hd;cases hd
def Inv.funs(I:Inv X pins σ H s):s.heap.FunFrames X.base X.outer:=by
 have all:∀(l:List Env),(∀b∈Ii l,b∈X.fs)->X.s₀.heap.FunFrames X.base l->s.heap.FunFrames X.base l:=by
  intro l;induction l with
  | nil=>intro _ _;trivial
  | cons env r ih=>
   intro hs hl;obtain⟨hk,⟨L,o,hf,hn,ho,hd⟩,hr⟩:=hl;have hL:L∈X.fs:=hs L (by unfold Ii;rw[QZR,hf];exact eV);obtain⟨sl,e⟩:=I.base.slot L o ho (I.ok.frf L hL) hL λz=>I.ok.exfs L z hL
   exact⟨hk,⟨L,_,hf,hn,e,hd⟩,ih (λb hb=>hs b (by unfold Ii;rw[QZR,hf];exact iV _ hb)) hr⟩
 exact all X.outer (λ_ hb=>hb) I.ok.funs
def Inv.stack(I:Inv X pins σ H s):s.heap.FunFrames X.base X.stack:=by
 rcases I.ok.stk with e|⟨e,hf⟩
 ·rw[e];exact I.funs
 ·rw[e];obtain⟨m,hn,_⟩:=I.loc;refine .cons (by rw[I.ok.kind];decide) hf hn ?_ I.funs;exact Heap.get?_none_of_le (eI I.ok.bsz I.ok.above)
def Inv.stkSub(I:Inv X pins σ H s):∀b∈Ii X.stack,b∈X.env.locals::X.fs:=λb hb=>by
 rcases I.ok.stk with e|⟨e,hf⟩
 ·rw[e]at hb;exact iV _ hb
 ·rw[e]at hb;unfold Ii at hb;rw[QZR,hf]at hb;exact hb
def Inv.stkFree(I:Inv X pins σ H s):∀b∈Ii X.stack,H b=none:=λb hb=>by
 rcases mem_cons.mp (I.stkSub b hb) with e|hb
 ·rw[e];exact I.free
 ·obtain⟨_,o,ho,_⟩:=I.ok.funs.mem hb;exact I.base.free b o ho (I.ok.frf b hb) λz=>I.ok.exfs b z hb
def Inv.step{g':Array GenState}{t':Nat}{d':Drawn}{ch:List TD}(I:Inv X pins σ H s)(xu:∀b∈ch,(b∈X.ex∨X.s₀.heap.objs.size<=b)/\b≠X.env.locals/\(∀x c,X.env.cells.lookup x=some c->c≠b)/\∀p∈X.pn++pins,p.1≠b)(keep:∀b o,b≠X.env.locals->b∉X.fs->b∉ch->s.heap.get? b=some o->H b=none->h'.get? b=some o)(slot:∀b o,b≠X.env.locals->b∈X.fs->b∉ch->s.heap.get? b=some o->H b=none->∃sl,h'.get? b=some {o with slots:=sl })(free:∀b o,b∉ch->s.heap.get? b=some o->H b=none->H' b=none)(there:∀b o,b∉ch->s.heap.get? b=some o->∃o',h'.get? b=some o')(tups:∀b xs,H b=some (.tup xs)->H' b=some (.tup xs))(frzs:∀b o u,H b=some (.frz o u)->H' b=some (.frz o u))(tbls:∀b ps,H b=some (.tbl ps)->∃more,H' b=some (.tbl (ps++more)))(ns:∀m,s.heap.Ns X.env.locals m->h'.Ns X.env.locals m)(hok:HOk X.prog X.w H' h')(hg:AllBare g') :
  Inv X pins σ H' {s with heap:=h',gens:=g',drawn:=d',toks:=t' }:=by
 have OS:∀b o,X.s₀.heap.get? b=some o->b≠X.env.locals:=λb o e=>ne_of_lt (QZU (Heap.lt_size e) I.ok.above)
 have IS:∀b o,X.s₀.heap.get? b=some o->b∉X.ex->b∉ch:=λb o e hx hb=>by
  rcases(xu b hb).1 with z|z
  ·exact hx z
  ·exact QZY (QZU (Heap.lt_size e) z) (lt_irrefl _)
 have cellK:∀x c,X.env.cells.lookup x=some c->∀v,s.heap.IsCell c v->h'.IsCell c v:=λx c e v ⟨o,ho,hd⟩=>by
  have vn:c∉ch:=λz=>(xu c z).2.2.1 x c e rfl
  by_cases hc:c∈X.fs
  ·obtain⟨sl,q⟩:=slot c o (I.cne x c e) hc vn ho (I.freeC x c e);exact⟨_,q,hd⟩
  ·exact⟨o,keep c o (I.cne x c e) hc vn ho (I.freeC x c e),hd⟩
 refine⟨I.ok,I.os,hg,⟨λb o e n hb hx=>?_,λb o e n hb hx=>?_,λb o e n hx=>?_,λb o e hx=>?_,λb xs e=>tups b xs (I.base.tups b xs e),λb o xs e=>frzs b o xs (I.base.frzs b o xs e),λb ps e=>?_⟩,?_,λx c e=>?_,?_,λx c e=>?_,λp hp=>?_,hok,I.len⟩
 ·exact keep b o (OS b o e) hb (IS b o e hx) (I.base.keep b o e n hb hx) (I.base.free b o e n hx)
 ·obtain⟨sl,e1⟩:=I.base.slot b o e n hb hx;obtain⟨VM,e2⟩:=slot b _ (OS b o e) hb (IS b o e hx) e1 (I.base.free b o e n hx);exact⟨VM,e2⟩
 ·obtain⟨o',e1⟩:=I.base.there b o e hx;exact free b o' (IS b o e hx) e1 (I.base.free b o e n hx)
 ·obtain⟨o',e1⟩:=I.base.there b o e hx;exact there b o' (IS b o e hx) e1
 ·obtain⟨m1,e1⟩:=I.base.tbls b ps e;obtain⟨m2,e2⟩:=tbls b _ e1;exact⟨m1++m2,by rw[e2,Array.append_assoc]⟩
 ·obtain⟨m,hn,hl⟩:=I.loc;refine⟨m,ns m hn,λi x v e1 e2 e3=>?_⟩;obtain⟨u,r,l⟩:=hl i x v e1 e2 e3;refine⟨u,r,?_⟩;rcases l with l|⟨k,c,e,z⟩
  ·exact .inl l
  ·exact .inr ⟨k,c,e,cellK x c e _ z⟩
 ·obtain⟨v,z⟩:=I.cell x c e;exact⟨v,cellK x c e v z⟩
 ·obtain⟨m,⟨o,_,_,ho,_⟩,_⟩:=I.loc;exact free _ o (λz=>(xu _ z).2.1 rfl) ho I.free
 ·obtain⟨v,o,ho,hd⟩:=I.cell x c e;exact free c o (λz=>(xu c z).2.2.1 x c e rfl) ho (I.freeC x c e)
 ·obtain⟨e,n,ne,nf,d⟩:=I.pin p hp;have vn:p.1∉ch:=λz=>(xu p.1 z).2.2.2 p hp rfl
  exact⟨keep p.1 p.2 ne nf vn e n,free p.1 p.2 vn e n,ne,nf,d⟩
def Inv.un{t':Nat}(I:Inv X pins σ H s)(u:Un X.fs [] H H' s.heap h')(hok:HOk X.prog X.w H' h'):Inv X pins σ H' {s with heap:=h',toks:=t' }:=by
 obtain⟨m,⟨o,es,ep,ho,r⟩,_⟩:=id I.loc;obtain⟨sl,hL⟩:=u.any ho I.free Zs;exact I.step (g':=s.gens) (d':=s.drawn) (ch:=[]) (λ_ z=>nomatch z) (λb o _ hb _ e n=>u.keep b o e n hb Zs) (λb o _ hb _ e n=>u.slot b o e n hb Zs) (λb o _ e n=>u.free b o e n Zs) (λb o _ e=>u.there b o e Zs) u.tups u.frzs u.tbls (λm' hm=>by
  obtain⟨o',DS,AQ,P2,r'⟩:=hm;rw[ho]at P2;cases P2;exact⟨_,DS,AQ,hL,r'⟩) hok I.bare
def Inv.call{g':Array GenState}{t':Nat}{d':Drawn}{ch:List TD}(I:Inv X pins σ H s)(u:Un (Ii X.stack) ch H H' s.heap h')(hok:HOk X.prog X.w H' h')(hg:AllBare g')(xu:∀b∈ch,(b∈X.ex∨X.s₀.heap.objs.size<=b)/\b≠X.env.locals/\(∀x c,X.env.cells.lookup x=some c->c≠b)/\∀p∈X.pn++pins,p.1≠b) :
  Inv X pins σ H' {s with heap:=h',gens:=g',drawn:=d',toks:=t' }:=by
 obtain⟨m,⟨o,es,ep,ho,r⟩,_⟩:=id I.loc;obtain⟨sl,hL⟩:=u.any ho I.free λz=>(xu _ z).2.1 rfl
 exact I.step (ch:=ch) xu (λb o hL hb hc e n=>u.keep b o e n (λz=>(mem_cons.mp (I.stkSub b z)).elim hL hb) hc) (λb o _ _ hc e n=>u.any e n hc) (λb o hc e n=>u.free b o e n hc) (λb o hc e=>u.there b o e hc) u.tups u.frzs u.tbls (λm' hm=>by
  obtain⟨o',DS,AQ,P2,r'⟩:=hm;rw[ho]at P2;cases P2;exact⟨_,DS,AQ,hL,r'⟩) hok hg
def Inv.turned{t':Nat}{it:TD}(I:Inv X pins σ H s)(k:∀b o,b≠it->s.heap.get? b=some o->h'.get? b=some o)(hn:H it=none)(hL:it≠X.env.locals)(h1:it∈X.ex∨X.s₀.heap.objs.size<=it)(h2:∀x c,X.env.cells.lookup x=some c->c≠it)(h3:∀p∈X.pn++pins,p.1≠it):Inv X pins σ H {s with heap:=h',toks:=t' }:=by
 have OT:∀b u,H b=some u->b≠it:=λb u e z=>by rw[z,hn]at e;cases e
 refine I.step (g':=s.gens) (d':=s.drawn) (ch:=[it]) (λb hb=>?_) (λb o _ _ hc e _=>k b o (λz=>hc (by simp[z])) e) (λb o _ _ hc e _=>⟨o.slots,k b o (λz=>hc (by simp[z])) e⟩) (λ_ _ _ _ n=>n)
  (λb o hc e=>⟨o,k b o (λz=>hc (by simp[z])) e⟩) (λ_ _ e=>e) (λ_ _ _ e=>e) (λb ps e=>⟨#[],by rw[e];simp⟩) (λm hm=>?_) (λb u e=>?_) I.bare
 ·have e:b=it:=by simpa using hb
  subst e;exact⟨h1,hL,h2,h3⟩
 ·obtain⟨o,es,ep,ho,r⟩:=hm;exact⟨o,es,ep,k _ o (Ne.symm hL) ho,r⟩
 ·refine(I.hok b u e).stay (λc v hc q=>k c v ?_ q) (λ_ q=>q) λ_ _ q=>q;rcases hc with z|z
  ·rw[z];exact OT b u e
  ·exact OT c _ z
def Inv.tok(I:Inv X pins σ H s)(t:Nat):Inv X pins σ H {s with toks:=t }:=I.un (h':=s.heap) (t':=t) Un.refl I.hok
def Inv.kept{t':Nat}(I:Inv X pins σ H s)(k:∀b u,s.heap.get? b=some u->h'.get? b=some u):Inv X pins σ H {s with heap:=h',toks:=t' }:=I.un (Un.kept k) (I.hok.kept k)
def Inv.laid{a:TD}{o:HO}{t':Nat}(I:Inv X pins σ H s)(k:∀b u,s.heap.get? b=some u->h'.get? b=some u)(hp:s.heap.objs.size<=a)(new:ObjOk X.prog X.w (aI H a o) h' a o) :
  Inv X pins σ (aI H a o) {s with heap:=h',toks:=t' }:=I.un (Un.laid k hp (I.hok.fresh hp)) (I.hok.laid k hp new)
def Inv.write{x e:TD}{o:HO}{t':Nat}(I:Inv X pins σ H s)(mu:Mut (H x))(he:e=x∨H e=some (.own x))(k:∀b u,b≠e->s.heap.get? b=some u->h'.get? b=some u)(DR:∃u,h'.get? e=some u)(new:ObjOk X.prog X.w (aI H x o) h' x o):Inv X pins σ (aI H x o) {s with heap:=h',toks:=t' }:=I.un (Un.write mu he k DR) (I.hok.write mu he k DR new)
def Inv.weak{σ':List (Option V)}(I:Inv X pins σ H s)(hl:σ'.length=σ.length)(w:∀(i:Nat) v,σ'[i]?=some (some v)->σ[i]?=some (some v)):Inv X pins σ' H s:=
 ⟨I.ok,I.os,I.bare,I.base,let ⟨m,hn,ue⟩:=I.loc;⟨m,hn,λi x v e1 e2 e3=>ue i x v e1 (w i v e2) e3⟩,I.cell,I.free,I.freeC,I.pin,I.hok,hl.trans I.len⟩
def Inv.pins_of{AR:ZB}(I:Inv X pins σ H s)(h:∀p∈AR,s.heap.get? p.1=some p.2/\H p.1=none/\p.1≠X.env.locals/\p.1∉X.fs/\∀v,p.2.data≠.cell v):Inv X AR σ H s:=
 ⟨I.ok,I.os,I.bare,I.base,I.loc,I.cell,I.free,I.freeC,λp hp=>(Zma.mp hp).elim (λz=>I.pin p (QZW _ z)) (h p),I.hok,I.len⟩
def wZ{N:List Str}(hN:N.Nodup){i j:Nat}{x:Str}(a:N[i]?=some x)(b:N[j]?=some x):i=j:=by
 obtain⟨h1,e1⟩:=Zgs.mp a;obtain⟨h2,e2⟩:=Zgs.mp b;exact(List.getElem_inj hN).mp (e1.trans e2.symm)
def tJ{M:Model}{A:Around}{E:XV}{i:Nat}{x:Str}{v:V}{u:Q2}{Q:Unit->P1->Prop}(I:Inv X pins σ H s)(hN:X.N.Nodup)(hi:X.N[i]?=some x)(hx:Ty X.env.scope x)(r:RelV v u)(h:∀s',Inv X pins (σ.set i (some v)) H s'->(∃a,Heap.SameBut a s.heap s'.heap/\(a=X.env.locals∨X.env.cells.lookup x=some a))->Q () s')(hf:X.fn x=true∨X.env.scope.names.lookup x=some .local:=by first|exact .inl rfl|exact .inr rfl|assumption):wpAny M A (storeName X.env x u) Q E s:=by
 obtain⟨m,hn,hl⟩:=id I.loc;have LA:(X.env.scope.kind == .class||(X.env.scope.kind == .module&&X.env.locals != X.env.globals))=false:=by rw[I.ok.kind];rfl
 have OU:i<σ.length:=by rw[I.len];exact(Zgs.mp hi).1
 have cne:=I.cne;have tracked:∀ {a:TD}{h':Heap},(∃o,s.heap.get? a=some o/\H a=none)->Heap.SameBut a s.heap h'->HOk X.prog X.w H h':=λ{a h'} ha hs b ob e=>by
  obtain⟨_,_,nz⟩:=ha;refine(I.hok b ob e).stay (λc w' hc q=>(hs.2 c ?_).trans q) (λ_ q=>q) λ_ _ q=>q;rintro rfl;rcases hc with rfl|hc
  ·rw[nz]at e;cases e
  ·rw[nz]at hc;cases hc
 rcases hx with hk|hk
 ·refine wpAny_storeName_local hk hn (λh' DT hs=>?_) LA;obtain⟨oL,_,_,VN,_⟩:=id hn;refine h _ ⟨I.ok,I.os,I.bare,⟨λb o e n hb hx=>?_,λb o e n hb hx=>?_,I.base.free,λb o e hx=>?_,I.base.tups,I.base.frzs,I.base.tbls⟩,⟨_,DT,λj y v' e1 e2 e3=>?_⟩,λy c e=>?_,I.free,I.freeC,λp hp=>?_,tracked ⟨oL,VN,I.free⟩ hs,by simpa using I.len⟩ ⟨_,hs,.inl rfl⟩
  ·exact(hs.2 b (ne_of_lt (QZU (Heap.lt_size e) I.ok.above))).trans (I.base.keep b o e n hb hx)
  ·obtain⟨sl,e1⟩:=I.base.slot b o e n hb hx;exact⟨sl,(hs.2 b (ne_of_lt (QZU (Heap.lt_size e) I.ok.above))).trans e1⟩
  ·obtain⟨o',e1⟩:=I.base.there b o e hx;exact⟨o',(hs.2 b (ne_of_lt (QZU (Heap.lt_size e) I.ok.above))).trans e1⟩
  ·by_cases hj:j=i
   ·subst hj;rw[hi]at e1;cases e1;rw[List.getElem?_set_self OU]at e2;cases e2;exact⟨u,r,.inl ⟨hk,Zs⟩⟩
   ·rw[List.getElem?_set_ne (Ne.symm hj)]at e2;obtain⟨u',r',q⟩:=hl j y v' e1 e2 e3;refine⟨u',r',?_⟩;rcases q with⟨k,e⟩|⟨k,c,e,z⟩
    ·refine .inl ⟨k,?_⟩;have:y≠x:=λe=>hj (wZ hN e1 (e▸hi))
     simp[this,e]
    ·exact .inr ⟨k,c,e,z.sameBut hs (cne y c e)⟩
  ·obtain⟨w',z⟩:=I.cell y c e;exact⟨w',z.sameBut hs (cne y c e)⟩
  ·obtain⟨e,n,ne,nf,d⟩:=I.pin p hp;exact⟨(hs.2 p.1 ne).trans e,n,ne,nf,d⟩
 ·have DU:X.fn x=true:=by
   rcases hf with z|z
   ·exact z
   ·rw[z]at hk;cases hk
  obtain⟨c,hc⟩:=I.ok.has x (.inl hk);obtain⟨w',z⟩:=I.cell x c hc;refine wpAny_storeName_cell I.ok.kind hk hc z (λh' yp hs=>?_);obtain⟨oc,IT,LB⟩:=id z;refine h {s with heap:=h' } ⟨I.ok,I.os,I.bare,⟨λb o e n hb hx=>?_,λb o e n hb hx=>?_,I.base.free,λb o e hx=>?_,I.base.tups,I.base.frzs,I.base.tbls⟩,⟨m,hn.sameBut hs (Ne.symm (cne x c hc)),λj y v' e1 e2 e3=>?_⟩,λy c' e=>?_,I.free,I.freeC,λp hp=>?_,tracked ⟨oc,IT,I.freeC x c hc⟩ hs,by simpa using I.len⟩ ⟨c,hs,.inr hc⟩
  ·exact(hs.2 b (ne_of_lt (QZU (Heap.lt_size e) (I.ok.cab x c DU hc)))).trans (I.base.keep b o e n hb hx)
  ·obtain⟨sl,e1⟩:=I.base.slot b o e n hb hx;exact⟨sl,(hs.2 b (ne_of_lt (QZU (Heap.lt_size e) (I.ok.cab x c DU hc)))).trans e1⟩
  ·obtain⟨o',e1⟩:=I.base.there b o e hx;exact⟨o',(hs.2 b (ne_of_lt (QZU (Heap.lt_size e) (I.ok.cab x c DU hc)))).trans e1⟩
  ·by_cases hj:j=i
   ·subst hj;rw[hi]at e1;cases e1;rw[List.getElem?_set_self OU]at e2;cases e2;exact⟨u,r,.inr ⟨.inl hk,c,hc,yp⟩⟩
   ·rw[List.getElem?_set_ne (Ne.symm hj)]at e2;obtain⟨u',r',q⟩:=hl j y v' e1 e2 e3;refine⟨u',r',?_⟩;rcases q with q|⟨k,c',e,z'⟩
    ·exact .inl q
    ·refine .inr ⟨k,c',e,z'.sameBut hs ?_⟩;rintro rfl;exact hj (wZ hN e1 (I.ok.inj _ _ _ e hc▸hi))
  ·by_cases IU:c'=c
   ·subst IU;exact⟨_,yp⟩
   ·obtain⟨w2,z2⟩:=I.cell y c' e;exact⟨w2,z2.sameBut hs IU⟩
  ·obtain⟨e,n,ne,nf,d⟩:=I.pin p hp;refine⟨(hs.2 p.1 ?_).trans e,n,ne,nf,d⟩;intro q;rw[q,IT]at e;have q':oc=p.2:=Option.some.inj e;exact d w' (by rw[<- q'];exact LB)
def xA{M:Model}{A:Around}{E:XV}{i:Nat}{x:Str}{v:V}{u:Q2}{Q:Unit->P1->Prop}(I:Inv X pins σ H s)(hN:X.N.Nodup)(hi:X.N[i]?=some x)(hx:Ty X.env.scope x)(r:RelV v u)(h:∀s',Inv X pins (σ.set i (some v)) H s'->Q () s')(hf:X.fn x=true∨X.env.scope.names.lookup x=some .local:=by first|exact .inl rfl|exact .inr rfl|assumption):wpAny M A (storeName X.env x u) Q E s:=
 tJ I hN hi hx r (λs' I' _=>h s' I') hf
def Inv.call'{s':P1}{ch:List TD}(I:Inv X pins σ H s)(ho:s'.os=s.os)(u:Un (Ii X.stack) ch H H' s.heap s'.heap)(hok:HOk X.prog X.w H' s'.heap)(hg:AllBare s'.gens)(xu:∀b∈ch,(b∈X.ex∨X.s₀.heap.objs.size<=b)/\b≠X.env.locals/\(∀x c,X.env.cells.lookup x=some c->c≠b)/\∀p∈X.pn++pins,p.1≠b):Inv X pins σ H' s':=by
 obtain⟨h',g',d',t',o'⟩:=s';have e:o'=s.os:=ho;subst e;exact I.call (g':=g') (t':=t') (d':=d') u hok hg xu
end
abbrev XK:=Value->Option TD->Hp->Prop
abbrev St:=List (Option V)
abbrev VK:=V->Hp->Prop
abbrev TE:=St->Hp->VK->Prop
abbrev TT:=St->Hp->(Bool->Hp->Prop)->Prop
abbrev TA:=St->Hp->(List V->Hp->Prop)->Prop
structure nV where
 nx:St->Hp->Prop
 rt:VK
 bk:St->Hp->Prop:=λ_ _=>False
 ct:St->Hp->Prop:=λ_ _=>False
abbrev TS:=nV->St->Hp->Prop
def EP(X:Cx)(pins:ZB)(σ:St)(Q:VK)(u:Q2)(s':P1):Prop:=∃v H',Inv X pins σ H' s'/\RelV v u/\Q v H'
def TP(X:Cx)(pins:ZB)(σ:St)(Q:Bool->Hp->Prop)(b:Bool)(s':P1):Prop:=∃H',Inv X pins σ H' s'/\Q b H'
def AP(X:Cx)(pins:ZB)(σ:St)(Q:List V->Hp->Prop)(us:List Q2)(s':P1):Prop:=∃vs H',Inv X pins σ H' s'/\Vals vs us/\Q vs H'
def SP(X:Cx)(pins:ZB)(D:nV)(f:Flow)(s':P1):Prop:=
 match f with
 | .next=>∃ σ' H',Inv X pins σ' H' s'/\D.nx σ' H'
 | .brk=>∃ σ' H',Inv X pins σ' H' s'/\D.bk σ' H'
 | .cont=>∃ σ' H',Inv X pins σ' H' s'/\D.ct σ' H'
 | .ret u=>∃v σ' H',Inv X pins σ' H' s'/\RelV v u/\D.rt v H'
def PE(X:Cx)(e:Expr)(t:TE):Prop:=
 ∀(pins:ZB)(s:P1)(σ:St)(H:Hp)(Q:VK),Inv X pins σ H s->t σ H Q->wpAny (model X.prog X.w) X.A (eval e X.env) (EP X pins σ Q) X.xe s
def PT(X:Cx)(e:Expr)(t:TT):Prop:=
 ∀(pins:ZB)(s:P1)(σ:St)(H:Hp)(Q:Bool->Hp->Prop),Inv X pins σ H s->t σ H Q->wpAny (model X.prog X.w) X.A (isTrue e X.env (eval e X.env)) (TP X pins σ Q) X.xe s
def PW(X:Cx)(e:Expr)(t:TT):Prop:=
 ∀(whole:Sem Value)(pins:ZB)(s:P1)(σ:St)(H:Hp)(Q:Bool->Hp->Prop),Inv X pins σ H s->t σ H Q->wpAny (model X.prog X.w) X.A (isTrue e X.env whole) (TP X pins σ Q) X.xe s
def PW.pt{X:Cx}{e:Expr}{t:TT}(h:PW X e t):PT X e t:=h _
def PA(X:Cx)(es:List Expr)(t:TA):Prop:=
 ∀(pos:Pos)(pins:ZB)(s:P1)(σ:St)(H:Hp)(Q:List V->Hp->Prop),Inv X pins σ H s->t σ H Q->wpAny (model X.prog X.w) X.A (spliced (backTo pos (starEach es X.env))) (AP X pins σ Q) X.xe s
def PS(X:Cx)(st:Stmt)(t:TS):Prop:=
 ∀(pins:ZB)(s:P1)(σ:St)(H:Hp)(D:nV),Inv X pins σ H s->t D σ H->wpAny (model X.prog X.w) X.A (exec st X.env) (SP X pins D) X.xe s
def PSs(X:Cx)(st:List Stmt)(t:TS):Prop:=
 ∀(pins:ZB)(s:P1)(σ:St)(H:Hp)(D:nV),Inv X pins σ H s->t D σ H->wpAny (model X.prog X.w) X.A (execs st X.env) (SP X pins D) X.xe s
def cA{α:Type}{t:Sem α}{Q Q':α->P1->Prop}{M:Model}{A:Around}{E:XV}{s:P1}(h:wpAny M A t Q E s)(hQ:∀a s,Q a s->Q' a s):wpAny M A t Q' E s:=wpAny_mono h hQ λ_ _ x=>x
section
variable {X:Cx}
def bin{a b:Expr}{ta tb:TE}(ha:PE X a ta)(hb:PE X b tb){pins:ZB}{s:P1}{σ:St}{H:Hp}{R:V->V->Hp->Prop}(I:Inv X pins σ H s)(h:ta σ H λx H1=>tb σ H1 λy H2=>R x y H2){α:Type}{Q:α->P1->Prop}{f:Q2->Q2->Sem α}(hf:∀v u s2 x y H2,Inv X pins σ H2 s2->RelV x v->RelV y u->R x y H2->wpAny (model X.prog X.w) X.A (f v u) Q X.xe s2) :
  wpAny (model X.prog X.w) X.A (eval a X.env) (λv s₁=>wpAny (model X.prog X.w) X.A (eval b X.env) (λu s₂=>wpAny (model X.prog X.w) X.A (f v u) Q X.xe s₂) X.xe s₁) X.xe s:=by
 refine cA (ha pins s σ H _ I h) ?_;rintro v s1 ⟨x,H1,I1,r1,q1⟩;refine cA (hb pins s1 σ H1 _ I1 q1) ?_;rintro u s2 ⟨y,H2,I2,r2,q2⟩;exact hf v u s2 x y H2 I2 r1 r2 q2
def Vn(i:Nat):TE:=λσ H Q=>∃v,σ[i]?=some (some v)/\Q v H
def tC(v:V):TE:=λ_ H Q=>Q v H
def Vo{i:Nat}{x:Str}{pos:Pos}(hN:X.N[i]?=some x)(hv:Vis X.env.scope x)(hd:(x==("__debug__":Str))=false:=by decide)(og:(x==("__classdict__":Str))=false:=by decide):PE X (.Name x pos) (Vn i):=by
 intro pins s σ H Q I h;obtain⟨v,e,h⟩:=h;obtain⟨m,hn,hl⟩:=I.loc;obtain⟨u,r,l⟩:=hl i x v hN e hv;have fin:EP X pins σ Q u s:=⟨v,H,I,r,h⟩;rcases l with⟨hk,hm⟩|⟨hk,c,hc,V6⟩
 ·exact wpAny_Name (wpAny_loadName_local I.ok.kind hk hn hm fin) hd
 ·rcases hk with hk|hk
  ·exact wpAny_Name (wpAny_loadName_cell I.ok.kind hk hc V6 fin) hd
  ·exact wpAny_Name (wpAny_loadName_free I.ok.kind hk hc V6 fin og) hd
def Vp{i j pos}:PE X (.Constant (.int i) j pos) (tC (.int i)):=λ_ _ _ H _ I h=>wpAny_Constant_int ⟨.int i,H,I.tok _,⟨_,rfl⟩,h⟩
def aAr{b j pos}:PE X (.Constant (.bool b) j pos) (tC (.bl b)):=λ_ _ _ H _ I h=>Constant_bool ⟨.bl b,H,I,rfl,h⟩
def Vq{j pos}:PE X (.Constant .none j pos) (tC .non):=λ_ _ _ H _ I h=>Constant_none ⟨.non,H,I,rfl,h⟩
def Vr{x j pos}:PE X (.Constant (.str x) j pos) (tC (.str x)):=λ_ _ _ H _ I h=>Calls.Constant_str ⟨.str x,H,I.tok _,⟨_,rfl⟩,h⟩
def Gl(X:Cx)(x:Str):Prop:=X.env.kindOf x=some .globalImplicit
def pS{E:XV}{pins:ZB}{s:P1}{σ:St}{H:Hp}{x:Str}{u:Q2}{pos:Pos}{Q:XV}(I:Inv X pins σ H s)(hg:Gl X x)(hm:X.mg x=some u)(h:Q u s)(hd:(x==("__debug__":Str))=false:=by decide):wpAny (model X.prog X.w) X.A (eval (.Name x pos) X.env) Q E s:=
 Calls.Name_function_global I.ok.kind hg (Calls.loadGlobal_global (by rw[I.ok.glob];exact I.mod.glob.keeps I.bk) hm h) hd
def nW{E:XV}{pins:ZB}{s:P1}{σ:St}{H:Hp}{x:Str}{u:Q2}{pos:Pos}{Q:XV}(I:Inv X pins σ H s)(hg:Gl X x)(hm:X.mg x=none)(hv:bootBuiltins x=some u)(h:Q u s)(hn:x≠"__name__":=by decide)(hd:(x==("__debug__":Str))=false:=by decide):wpAny (model X.prog X.w) X.A (eval (.Name x pos) X.env) Q E s:=by
 obtain⟨mb,h1,h2⟩:=I.mod.blt;exact Calls.Name_function_global I.ok.kind hg (Calls.loadGlobal_builtin (by rw[I.ok.glob];exact I.mod.glob.keeps I.bk) hm (by rw[I.ok.blt];exact h1.keeps I.bk) ((h2 x hn).trans hv) h) hd
def uV{x:Str}{v:V}{u:Q2}{pos:Pos}(hg:Gl X x)(hm:X.mg x=some u)(r:RelV v u)(hd:(x==("__debug__":Str))=false:=by decide):PE X (.Name x pos) (tC v):=
 λ_ _ _ H _ I h=>pS I hg hm ⟨v,H,I,r,h⟩ hd
def Pn{x:Str}{v:V}{u:Q2}{pos:Pos}(hg:Gl X x)(hm:X.mg x=none)(hv:bootBuiltins x=some u)(r:RelV v u)(hn:x≠"__name__":=by decide)(hd:(x==("__debug__":Str))=false:=by decide):PE X (.Name x pos) (tC v):=
 λ_ _ _ H _ I h=>nW I hg hm hv ⟨v,H,I,r,h⟩ hn hd
variable {a b:Expr}{ta tb:TE}{pos:Pos}
def PC(X:Cx)(op:CmpOp)(a b:Expr)(t:TE):Prop:=
 ∀(pins:ZB)(s:P1)(σ:St)(H:Hp)(Q:VK),Inv X pins σ H s->t σ H Q →
  wpAny (model X.prog X.w) X.A (eval a X.env) (λv s₁=>wpAny (model X.prog X.w) X.A (eval b X.env) (λu s₂=>wpAny (model X.prog X.w) X.A (compareOp op v u) (EP X pins σ Q) X.xe s₂) X.xe s₁) X.xe s
def tB(t:TE):TT:=λσ H Q=>t σ H λx H1=>∃c,x=.bl c/\Q c H1
def aB0{op:CmpOp}{t:TE}(h:PC X op a b t)(h1:behindInMarks op b=false:=by first|exact FJ _ Zd Zd|rfl):PT X (.Compare a [op] [b] pos) (tB t):=by
 intro pins s σ H Q I hw;refine wpAny_isTrue_Compare1 (cA (h pins s σ H _ I hw) λv s1 h1=>cA h1 λu s2 h2=>cA h2 ?_) h1;rintro c s3 ⟨x,H1,I1,r1,q1⟩;obtain⟨d,rfl,q⟩:=q1;cases r1;exact wpAny_truthy_bool ⟨H1,I1,q⟩
def Vs{e:Expr}{t:TE}(h:PE X e t)(he:∀whole,isTrue e X.env whole=(do let v←whole;standAt e.pos;holding [v] (truthy v)):=by intro _;rfl):PT X e (tB t):=by
 intro pins s σ H Q I hw;refine isTrue_plain (cA (h pins s σ H _ I hw) ?_) (he _);rintro v s1 ⟨x,H1,I1,r1,q1⟩;obtain⟨d,rfl,q⟩:=q1;cases r1;exact wpAny_truthy_bool ⟨H1,I1,q⟩
variable {tA yq:TT}{rest:List Expr}
def aAs(t u:TT):TT:=λσ H Q=>t σ H λc H1=>if c=true then u σ H1 Q else Q false H1
def tOr(t u:TT):TT:=λσ H Q=>t σ H λc H1=>if c=true then Q true H1 else u σ H1 Q
def aAt(t:TT):TT:=λσ H Q=>t σ H λc H1=>Q (!c) H1
def Po(ha:PT X a tA):PW X (.BoolOp .And [a] pos) tA:=by
 intro wh pins s σ H Q I h;refine isTrue_and (cA (ha pins s σ H Q I h) λc s1 e=>?_)
 cases c with
 | true=>exact isTrue_and_nil e
 | false=>exact e
def Vt(ha:PT X a tA):PW X (.BoolOp .Or [a] pos) tA:=by
 intro wh pins s σ H Q I h;refine isTrue_or (cA (ha pins s σ H Q I h) λc s1 e=>?_)
 cases c with
 | false=>exact isTrue_or_nil e
 | true=>exact e
def Vu(ha:PT X a tA)(hb:PW X (.BoolOp .And (b::rest) pos) yq):PW X (.BoolOp .And (a::b::rest) pos) (aAs tA yq):=by
 intro wh pins s σ H Q I h;refine isTrue_and (cA (ha pins s σ H _ I h) ?_);rintro c s1 ⟨H1,I1,q1⟩
 cases c with
 | true=>exact hb wh pins s1 σ H1 Q I1 q1
 | false=>exact⟨H1,I1,q1⟩
def aAu(ha:PT X a tA)(hb:PW X (.BoolOp .Or (b::rest) pos) yq):PW X (.BoolOp .Or (a::b::rest) pos) (tOr tA yq):=by
 intro wh pins s σ H Q I h;refine isTrue_or (cA (ha pins s σ H _ I h) ?_);rintro c s1 ⟨H1,I1,q1⟩
 cases c with
 | true=>exact⟨H1,I1,q1⟩
 | false=>exact hb wh pins s1 σ H1 Q I1 q1
def Vv(ha:PT X a tA):PT X (.UnaryOp .Not a pos) (aAt tA):=by
 intro pins s σ H Q I h;exact isTrue_not (ha pins s σ H (λc H1=>Q (!c) H1) I h)
def Ij(ta tb:TE):TE:=λσ H Q=>ta σ H λx H1=>∃c,x=.bl c/\if c=true then tb σ H1 Q else Q (.bl false) H1
def Vw(ta tb:TE):TE:=λσ H Q=>ta σ H λx H1=>∃c,x=.bl c/\if c=true then Q (.bl true) H1 else tb σ H1 Q
def Vx{op}{t:TE}(h:PE X a t):PE X (.BoolOp op [a] pos) t:=λpins s σ H Q I hw=>BoolOp_one (h pins s σ H Q I hw)
def Vy(ha:PE X a ta)(hb:PE X (.BoolOp .And (b::rest) pos) tb):PE X (.BoolOp .And (a::b::rest) pos) (Ij ta tb):=by
 intro pins s σ H Q I h;refine BoolOp_and (cA (ha pins s σ H _ I h) ?_);rintro v s1 ⟨x,H1,I1,r1,q1⟩;obtain⟨c,rfl,q1⟩:=q1;cases r1;refine wpAny_truthy_bool ?_
 cases c with
 | true=>exact hb pins s1 σ H1 Q I1 q1
 | false=>exact⟨.bl false,H1,I1,rfl,q1⟩
def aAv(ha:PE X a ta)(hb:PE X (.BoolOp .Or (b::rest) pos) tb):PE X (.BoolOp .Or (a::b::rest) pos) (Vw ta tb):=by
 intro pins s σ H Q I h;refine BoolOp_or (cA (ha pins s σ H _ I h) ?_);rintro v s1 ⟨x,H1,I1,r1,q1⟩;obtain⟨c,rfl,q1⟩:=q1;cases r1;refine wpAny_truthy_bool ?_
 cases c with
 | false=>exact hb pins s1 σ H1 Q I1 q1
 | true=>exact⟨.bl true,H1,I1,rfl,q1⟩
end
def SqL(K:W.Frag)(H:Hp)(a:TD)(xs:List V):Prop:=
 Rd H a (.lst xs)∨
  ∃(o:Obj)(its:Array Value)(n:Nat),K.lookup a=some o/\o.cls=.type "list"/\o.dict=none/\o.data=.seq its n/\its.size<=sizeLine/\Vals xs its.toList
def SqT(K:W.Frag)(H:Hp)(a:TD)(xs:List V):Prop:=
 Rd H a (.tup xs)∨
  ∃(o:Obj)(its:Array Value)(n:Nat),K.lookup a=some o/\o.cls=.type "tuple"/\o.data=.seq its n/\its.size<=sizeLine/\Vals xs its.toList
def aB1:Q2->Option V
 | .none=>some .non
 | .bool b=>some (.bl b)
 | .int i _=>some (.int i)
 | .str x _=>some (.str x)
 | .bytes b _=>some (.byt b)
 | .float b _=>some (.flt b)
 | .ref a=>some (.ref a)
 | .type n=>some (.ty n)
 | _=>none
def RelV.abs{x:V}{u:Q2}(r:RelV x u):aB1 u=some x:=by
 cases x with
 | non=>cases r;rfl
 | bl _=>cases r;rfl
 | int _=>obtain⟨t,rfl⟩:=r;rfl
 | str _=>obtain⟨t,rfl⟩:=r;rfl
 | byt _=>obtain⟨t,rfl⟩:=r;rfl
 | flt _=>obtain⟨t,rfl⟩:=r;rfl
 | ref _=>cases r;rfl
 | ty _=>cases r;rfl
def RelV.inj{x y:V}{u:Q2}(r:RelV x u)(q:RelV y u):x=y:=Option.some.inj (r.abs.symm.trans q.abs)
def Vals.inj:∀ {xs ys:List V}{us:List Q2},Vals xs us->Vals ys us->xs=ys
 | _,_,_,.nil,.nil=>rfl
 | _,_,_,.cons r t,.cons r' t'=>by rw[r.inj r',Vals.inj t t']
section
variable {X:Cx}{pins:ZB}{σ:St}{H:Hp}{s:P1}{a:TD}{xs ys:List V}
def SqL.of{K:W.Frag}(h:H a=some (.lst xs)):SqL K H a xs:=.inl (.inl h)
def QYL:=@SqL.of
def SqT.of{K:W.Frag}(h:H a=some (.tup xs)):SqT K H a xs:=.inl (.inl h)
def QYM:=@SqT.of
def Inv.list(I:Inv X pins σ H s)(h:SqL X.K H a xs):∃its:List Q2,Vals xs its/\PlainL s.heap a its.toArray/\xs.length<=sizeLine:=by
 rcases h with h|⟨o,its,n,hk,hc,hd,hs,hz,r⟩
 ·obtain⟨z,its,n,r,e⟩:=h.ok I.hok;exact⟨its,r,⟨_,n,e,rfl,rfl,rfl⟩,z⟩
 ·refine⟨its.toList,r,⟨o,n,I.kIn a o hk,hc,hd,by simpa using hs⟩,?_⟩;have e:=r.length;simp only [Array.length_toList]at e;omega
def Inv.tuple(I:Inv X pins σ H s)(h:SqT X.K H a xs):∃its:List Q2,Vals xs its/\IsTup s.heap a its.toArray/\xs.length<=sizeLine:=by
 rcases h with h|⟨o,its,n,hk,hc,hs,hz,r⟩
 ·obtain⟨z,its,r,p⟩:=h.ok I.hok;exact⟨its,r,p,z⟩
 ·refine⟨its.toList,r,⟨o,I.kIn a o hk,hc,n,by simpa using hs⟩,?_⟩;have e:=r.length;simp only [Array.length_toList]at e;omega
def Inv.list_inj(I:Inv X pins σ H s)(h:SqL X.K H a xs)(h':SqL X.K H a ys):xs=ys:=by
 obtain⟨its,r,⟨o,n,e,_,_,d⟩,_⟩:=I.list h;obtain⟨its',r',⟨o',n',e',_,_,d'⟩,_⟩:=I.list h';rw[e]at e';cases e';rw[d]at d';injection d' with d1 _
 have:its=its':=by simpa using congrArg Array.toList d1
 subst this;exact r.inj r'
def Inv.tuple_inj(I:Inv X pins σ H s)(h:SqT X.K H a xs)(h':SqT X.K H a ys):xs=ys:=by
 obtain⟨its,r,⟨o,e,_,n,d⟩,_⟩:=I.tuple h;obtain⟨its',r',⟨o',e',_,n',d'⟩,_⟩:=I.tuple h';rw[e]at e';cases e';rw[d]at d';injection d' with d1 _
 have:its=its':=by simpa using congrArg Array.toList d1
 subst this;exact r.inj r'
end
abbrev Cx.wish(X:Cx)(E:XV):Cx:={X with xe:=E }
abbrev Cx.nox(X:Cx):Cx:=X.wish λ_ _=>False
def Cx.Ok.wish{X:Cx}(ok:X.Ok)(E:XV):(X.wish E).Ok:=
 ⟨ok.mod,ok.kind,ok.glob,ok.blt,ok.above,ok.inj,ok.has,ok.cab,ok.hd,ok.frames,ok.stk,ok.exf,ok.bs,ok.bsz,ok.noex,ok.exfs,ok.funs,ok.frf⟩
def Cx.Ok.unwish{X:Cx}{E:XV}(ok:(X.wish E).Ok):X.Ok:=
 ⟨ok.mod,ok.kind,ok.glob,ok.blt,ok.above,ok.inj,ok.has,ok.cab,ok.hd,ok.frames,ok.stk,ok.exf,ok.bs,ok.bsz,ok.noex,ok.exfs,ok.funs,ok.frf⟩
section
variable {X:Cx}{pins:ZB}{σ:St}{H:Hp}{s:P1}{E:XV}
def Inv.wish(I:Inv X pins σ H s)(E:XV):Inv (X.wish E) pins σ H s:=⟨I.ok.wish E,I.os,I.bare,I.base,I.loc,I.cell,I.free,I.freeC,I.pin,I.hok,I.len⟩
def Inv.unwish(I:Inv (X.wish E) pins σ H s):Inv X pins σ H s:=⟨I.ok.unwish,I.os,I.bare,I.base,I.loc,I.cell,I.free,I.freeC,I.pin,I.hok,I.len⟩
def SP.unwish{D:nV}{f:Flow}{s':P1}(h:SP (X.wish E) pins D f s'):SP X pins D f s':=by
 cases f with
 | next=>obtain⟨σ',H',I,q⟩:=h;exact⟨σ',H',I.unwish,q⟩
 | brk=>obtain⟨σ',H',I,q⟩:=h;exact⟨σ',H',I.unwish,q⟩
 | cont=>obtain⟨σ',H',I,q⟩:=h;exact⟨σ',H',I.unwish,q⟩
 | ret u=>obtain⟨v,σ',H',I,r,q⟩:=h;exact⟨v,σ',H',I.unwish,r,q⟩
def PSs.nox{st:List Stmt}{t:TS}(h:PSs X.nox st t):PSs X st t:=λpins s σ H D I hw=>
 wpAny_mono (h pins s σ H D (I.wish _) hw) (λ_ _ q=>q.unwish) λ_ _ z=>False.elim z
end
section
variable {X:Cx}{st:Stmt}{rest:List Stmt}{t u:TS}{e:Expr}{te:TE}{pos:Pos}
def qF:TS:=λD σ H=>D.nx σ H
def sI(t u:TS):TS:=λD σ H=>t {D with nx:=u D } σ H
def Pp:PSs X [] qF:=λ_ _ σ H _ I h=>wpAny_execs_nil ⟨σ,H,I,h⟩
def Ik(h1:PS X st t)(h2:PSs X rest u):PSs X (st::rest) (sI t u):=by
 intro pins s σ H D I h;refine wpAny_execs_cons (cA (h1 pins s σ H {D with nx:=u D } I h) λf s1 q=>?_)
 cases f with
 | next=>
  obtain⟨σ',H',I',q⟩:=q;exact h2 pins s1 σ' H' D I' q
 | ret v=>exact q
 | brk=>exact q
 | cont=>exact q
def Pq(h1:PS X st t):PSs X [st] t:=by
 intro pins s σ H D I h;refine wpAny_execs_cons (cA (h1 pins s σ H D I h) λf s1 q=>?_)
 cases f with
 | next=>exact wpAny_execs_nil q
 | ret v=>exact q
 | brk=>exact q
 | cont=>exact q
def Inv.quiet{pins:ZB}{σ:St}{H:Hp}{s:P1}(I:Inv X pins σ H s):interactive X.env=false:=by simp[interactive,I.ok.kind]
def Tz(te:TE):TS:=λD σ H=>te σ H λ_ H1=>D.nx σ H1
def Pr(he:PE X e te)(hs:swapsWith e none pos.line X.env=pure false:=by rfl):PS X (.Expr e pos) (Tz te):=by
 intro pins s σ H D I h;exact wpAny_Expr_any (cA (he pins s σ H _ I h) λv s1 ⟨x,H1,I1,r1,q1⟩=>⟨σ,H1,I1,q1⟩) I.quiet hs
def aAw(te:TE):TS:=λD σ H=>te σ H D.rt
def Vz(he:PE X e te):PS X (.Return (some e) pos) (aAw te):=by
 intro pins s σ H D I h;exact wpAny_Return_some (cA (he pins s σ H _ I h) λv s1 ⟨x,H1,I1,r1,q1⟩=>⟨x,σ,H1,I1,r1,q1⟩)
def Eo(c:TT)(t u:TS):TS:=λD σ H=>c σ H λb H1=>if b=true then t D σ H1 else u D σ H1
def aAx{c:Expr}{a b:List Stmt}{tc:TT}(hc:PT X c tc)(ha:PSs X a t)(hb:PSs X b u):PS X (.If c a b pos) (Eo tc t u):=by
 intro pins s σ H D I h;refine wpAny_If (cA (hc pins s σ H _ I h) ?_);rintro d s1 ⟨H1,I1,q1⟩
 cases d with
 | true=>exact ha pins s1 σ H1 D I1 q1
 | false=>exact hb pins s1 σ H1 D I1 q1
end
abbrev TG:=V->St->Hp->(St->Hp->Prop)->Prop
abbrev Bs:=List V->St->Hp->(St->Hp->Prop)->Prop
def PG(X:Cx)(target:Expr)(t:TG):Prop:=
 ∀(pins:ZB)(s:P1)(σ:St)(H:Hp)(v:V)(u:Q2)(Q:St->Hp->Prop),Inv X pins σ H s->RelV v u->t v σ H Q →
  wpAny (model X.prog X.w) X.A (assign target X.env u) (λ_ s'=>∃ σ' H',Inv X pins σ' H' s'/\Q σ' H') X.xe s
def PGs(X:Cx)(ts:List Expr)(t:Bs):Prop:=
 ∀(pins:ZB)(s:P1)(σ:St)(H:Hp)(vs:List V)(us:List Q2)(Q:St->Hp->Prop),Inv X pins σ H s->Vals vs us->t vs σ H Q →
  wpAny (model X.prog X.w) X.A (assignInOrder ((assignEach ts X.env).map (·.2)) us) (λ_ s'=>∃ σ' H',Inv X pins σ' H' s'/\Q σ' H') X.xe s
abbrev Ep:=V->V->V->Hp->(Hp->Prop)->Prop
def Ps(X:Cx)(t:Ep):Prop:=
 ∀(pins:ZB)(s:P1)(σ:St)(H:Hp)(o i v:V)(ov iv u:Q2)(Q:Hp->Prop),Inv X pins σ H s->RelV o ov->RelV i iv->RelV v u->t o i v H Q →
  wpAny (model X.prog X.w) X.A (setItem ov iv u) (λ_ s'=>∃H',Inv X pins σ H' s'/\Q H') X.xe s
section
variable {X:Cx}{pos:Pos}
def aJ(i:Nat):TG:=λv σ H Q=>Q (σ.set i (some v)) H
def Pu{i:Nat}{x:Str}(hN:X.N.Nodup)(hi:X.N[i]?=some x)(hx:Ty X.env.scope x)(hf:X.fn x=true∨X.env.scope.names.lookup x=some .local:=by first|exact .inl rfl|exact .inr rfl|assumption):PG X (.Name x pos) (aJ i):=by
 intro pins s σ H v u Q I r h;exact wpAny_assign_Name (xA I hN hi hx r (λs' I'=>⟨_,H,I',h⟩) hf)
def Wa:Bs:=λvs σ H Q=>vs=[]/\Q σ H
def Il(t:TG)(u:Bs):Bs:=λvs σ H Q=>∃v r,vs=v::r/\t v σ H λσ' H'=>u r σ' H' Q
def Pw:PGs X [] Wa:=by
 intro pins s σ H vs us Q I r h;obtain⟨e,h⟩:=h;subst e;cases r;exact assignInOrder_nil ⟨σ,H,I,h⟩
def Im{e:Expr}{es:List Expr}{t:TG}{u:Bs}(h1:PG X e t)(h2:PGs X es u)(hs:(assignEach (e::es) X.env).map (·.2)=assign e X.env::(assignEach es X.env).map (·.2):=by rfl):PGs X (e::es) (Il t u):=by
 intro pins s σ H vs us Q I r h;obtain⟨v,vr,e1,h⟩:=h;subst e1;cases r with
 | cons r rr=>
  rw[hs];refine assignInOrder_cons (cA (h1 pins s σ H _ _ _ I r h) ?_);rintro _ s1 ⟨σ1,H1,I1,q1⟩;exact h2 pins s1 σ1 H1 _ _ Q I1 rr q1
def Px(K:W.Frag)(n:Nat)(t:Bs):TG:=λv σ H Q=>∃a xs,v=.ref a/\SqT K H a xs/\xs.length=n/\t xs σ H Q
def Wb{es:List Expr}{k:Nat}{t:Bs}{n:Nat}(hc:X.calm=true)(h:PGs X es t)(hn:(assignEach es X.env).length=n:=by rfl)(xw:(assignEach es X.env).findIdx? (·.1)=none:=by rfl):PG X (.Tuple es k pos) (Px X.K n t):=by
 intro pins s σ H v u Q I r hw;obtain⟨a,xs,e1,hq,hl,hw⟩:=hw;subst e1;cases r;obtain⟨its,rv,ht,hz⟩:=I.tuple hq;refine assign_Tuple_tuple (I.ok.hd hc) ht (by simp[hn,<- hl,rv.length]) xw λh' hx=>?_;have I1:Inv X pins σ H {s with heap:=h' }:=I.kept (t':=s.toks) λb o e=>hx b o (ne_of_lt (Heap.lt_size e)) e
 exact h pins _ σ H xs _ Q I1 (by simpa using rv) hw
def aAz(to ti:TE)(t:Ep):TG:=λv σ H Q=>to σ H λo H1=>ti σ H1 λi H2=>t o i v H2 λH3=>Q σ H3
def Wc{o i:Expr}{to ti:TE}{t:Ep}(ho:PE X o to)(hi:PE X i ti)(hs:Ps X t)(ha:∀v,assign (.Subscript o i pos) X.env v=(do
   let ov←holding [v] (eval o X.env)
   let iv←holding [v,ov] (eval i X.env)
   standAt pos
   holding [v,ov,iv] (setItem ov iv v)
   release [v,ov,iv] []):=by intro _;rfl):PG X (.Subscript o i pos) (aAz to ti t):=by
 intro pins s σ H v u Q I r h;rw[ha];refine V4 (wpAny_holding (cA (ho pins s σ H _ I h) ?_));rintro ov s1 ⟨x,H1,I1,r1,q1⟩;refine V4 (wpAny_holding (cA (hi pins s1 σ H1 _ I1 q1) ?_));rintro iv s2 ⟨y,H2,I2,r2,q2⟩;refine V4 (wpAny_standAt (V4 (wpAny_holding (cA (hs pins s2 σ H2 x y v ov iv u _ I2 r1 r2 r q2) ?_))));rintro _ s3 ⟨H3,I3,q3⟩;exact wpAny_release ⟨σ,H3,I3,q3⟩
def Io(te:TE)(g:TG):TS:=λD σ H=>te σ H λx H1=>g x σ H1 D.nx
def Wd{tg e:Expr}{te:TE}{g:TG}(he:PE X e te)(hg:PG X tg g)(hs:swapsWithSole [tg] e pos.line X.env=pure false:=by rfl)(hw:swappedStores [tg] e X.env=pure none:=by rfl)(h1:(assignEach [tg] X.env).map (·.2)=[assign tg X.env]:=by rfl):PS X (.Assign [tg] e pos) (Io te g):=by
 intro pins s σ H D I h;refine wpAny_Assign_stores (cA (he pins s σ H _ I h) ?_) hs hw;rintro v s1 ⟨x,H1,I1,r1,q1⟩;rw[h1];exact cA (hg pins s1 σ H1 x v _ I1 r1 q1) λ_ s2 q=>q
def We{i:Nat}{x:Str}{e:Expr}{te:TE}{pos':Pos}(hN:X.N.Nodup)(hi:X.N[i]?=some x)(hx:Ty X.env.scope x)(he:PE X e te)(hs:swapsWith e (some (.Name x pos')) pos.line X.env=pure false:=by rfl)(hf:X.fn x=true∨X.env.scope.names.lookup x=some .local:=by first|exact .inl rfl|exact .inr rfl|assumption) :
  PS X (.Assign [.Name x pos'] e pos) (Io te (aJ i)):=by
 intro pins s σ H D I h;refine wpAny_Assign_Name (cA (he pins s σ H _ I h) ?_) hs;rintro v s1 ⟨y,H1,I1,r1,q1⟩;exact xA I1 hN hi hx r1 (λs2 I2=>⟨_,H1,I2,q1⟩) hf
end
structure It where
 go:Nat->Hp->Prop
 yld:Nat->Hp->V->Hp->Prop
 stop:Nat->Hp->Prop
def nX(X:Cx)(pins:ZB)(H:Hp)(b:TD):Prop:=
 H b=none/\b≠X.env.locals/\b∉X.fs/\(b∈X.ex∨X.s₀.heap.objs.size<=b)/\(∀x c,X.env.cells.lookup x=some c->c≠b)/\∀p∈X.pn++pins,p.1≠b
def Inv.fpOk{X:Cx}{pins:ZB}{σ:St}{H H':Hp}{s:P1}{b:TD}(I:Inv X pins σ H s)(hb:s.heap.objs.size<=b)(hn:H' b=none):nX X pins H' b:=by
 refine⟨hn,ne_of_gt (QZU I.lt hb),I.nofs hb,.inr (eI I.sz hb),λx c e z=>?_,λp hp z=>?_⟩
 ·obtain⟨v,q⟩:=I.cell x c e;exact QZY (QZU q.lt (by rw[z];exact hb)) (lt_irrefl _)
 ·exact QZY (QZU (Heap.lt_size (I.pin p hp).1) (by rw[z];exact hb)) (lt_irrefl _)
structure pK(P:Program)(w:World)(K:W.Frag)(tg:Expr)(J:It)(fp:List TD)(it:TD)(tn:Nat->Heap->Prop):Prop where
 mem:it∈fp
 obj:∀i h,tn i h->∀b∈fp,∃o,h.get? b=some o/\∀v,o.data≠.cell v
 keep:∀i h h',tn i h->(∀b∈fp,∀o,h.get? b=some o->h'.get? b=some o)->tn i h'
 item:∀(X:Cx),X.prog=P->X.w=w->X.K=K->X.calm=true->∀(i:Nat)(pins:ZB)(s:P1)(σ:St)(H:Hp)(E:XV),Inv X pins σ H s->(∀b∈fp,nX X pins H b)->tn i s.heap->J.go i H →
  wpAny (model P w) X.A (pyNext (.ref it)) (λr s1=>∃u,r=some u ∧
   wpAny (model P w) X.A (letOwnedTupleGo tg (.ref it) u) (λ_ s2=>∃x H',Inv X pins σ H' s2/\RelV x u/\J.yld i H x H'/\tn (i+1) s2.heap/\∀b∈fp,H' b=none) E s1) E s
 done:∀(X:Cx),X.prog=P->X.w=w->X.K=K->X.calm=true->∀(i:Nat)(pins:ZB)(s:P1)(σ:St)(H:Hp)(E:XV),Inv X pins σ H s->(∀b∈fp,nX X pins H b)->tn i s.heap->J.stop i H →
  wpAny (model P w) X.A (pyNext (.ref it)) (λr s1=>r=none/\Inv X pins σ H s1) E s
 self:∀(A:Around)(i:Nat)(s:P1)(Q:XV)(E:XV),tn i s.heap->Q (.ref it) s->wpAny (model P w) A (pyIter (.ref it)) Q E s
abbrev TI:=St->Hp->(It->Hp->Prop)->Prop
def PIE(X:Cx)(pins:ZB)(σ:St)(tg:Expr)(R:It->Hp->Prop)(IV:Q2)(s2:P1):Prop:=
 ∃(it:TD)(fp:List TD)(tn:Nat->Heap->Prop)(J:It)(H':Hp),IV=.ref it/\Inv X pins σ H' s2/\pK X.prog X.w X.K tg J fp it tn/\tn 0 s2.heap/\(∀b∈fp,nX X pins H' b)/\R J H'
def PI(X:Cx)(tg iter:Expr)(wi:TI):Prop:=
 ∀(pins:ZB)(s:P1)(σ:St)(H:Hp)(R:It->Hp->Prop),Inv X pins σ H s->wi σ H R →
  wpAny (model X.prog X.w) X.A (eval iter X.env) (λv s1=>wpAny (model X.prog X.w) X.A (pyIter v) (PIE X pins σ tg R) X.xe s1) X.xe s
def oZ{M:Model}{A:Around}{E:XV}{s:P1}{tg:Expr}{it:TD}{u:Q2}{o:Obj}{n:String}{vs:Array Value}{Q:Unit->P1->Prop}(ho:s.heap.get? it=some o)(hc:o.cls=.type n)(hd:o.data=.fields vs)(hn:["enumerate","zip","dict_itemiterator","dict_reverseitemiterator","odict_iterator","itertools.zip_longest","itertools.pairwise"].contains n=false)(hQ:Q () s):wpAny M A (letOwnedTupleGo tg (.ref it) u) Q E s:=by
  unfold letOwnedTupleGo;cases tg<;>first
    | exact V3 hQ
    | (cases u <;> first
        | exact V3 hQ
        | (refine V4 (wpAny_load ho ?_)
           rw[hc,hd];show wpAny M A (if (["enumerate","zip","dict_itemiterator","dict_reverseitemiterator","odict_iterator","itertools.zip_longest","itertools.pairwise"].contains n&&vs[0]? == some (rawInt _))=true then _ else _) Q E s;rw[QZZ (by intro h;rw[hn,Bool.false_and]at h;cases h)];exact V3 hQ))
def Itl(K:W.Frag)(a:TD):It:=
 ⟨λi H=>∃xs x,SqL K H a xs/\xs[i]?=some x,λi H x H'=>H'=H/\∀xs,SqL K H a xs->xs[i]?=some x,λi H=>∃xs,SqL K H a xs/\xs.length<=i⟩
def Itt(K:W.Frag)(a:TD):It:=
 ⟨λi H=>∃xs x,SqT K H a xs/\xs[i]?=some x,λi H x H'=>H'=H/\∀xs,SqT K H a xs->xs[i]?=some x,λi H=>∃xs,SqT K H a xs/\xs.length<=i⟩
def Itr(lo:Int)(n:Nat):It:=⟨λi _=>i<n,λi H x H'=>H'=H/\x=.int (lo+i),λi _=>n<=i⟩
def Er{P:Program}{w:World}{K:W.Frag}{tg:Expr}(a it:TD):pK P w K tg (Itl K a) [it] it (λi h=>h.IsListIter it a i) where
 mem:=by simp
 obj:=λi h st b hb=>by
  have e:b=it:=by simpa using hb
  subst e;obtain⟨o,e,c,d⟩:=st;exact⟨o,e,λv z=>by rw[d]at z;cases z⟩
 keep:=λi h h' st k=>st.at λo e=>k it Zs o e
 item:=by
  intro X hP hw hK hc i pins s σ H E I hf st hg;subst hP hw hK;obtain⟨xs,x,hq,hx⟩:=hg;obtain⟨its,rv,p,hz⟩:=I.list hq;obtain⟨u,hu,ru⟩:=rv.get hx;obtain⟨f0,f1,f2,f3,f4,f5⟩:=hf it Zs;refine wpAny_pyNext_list_item st p.isList (x:=u) (by simpa using hu) λh' J1 sb=>?_;have I1:Inv X pins σ H {s with heap:=h' }:=I.turned (t':=s.toks) (λb o hb e=>(sb.2 b hb).trans e) f0 f1 f3 f4 f5;obtain⟨o,e,c,d⟩:=id J1;exact⟨u,rfl,oZ (s:={s with heap:=h' }) e c d Zd ⟨x,H,I1,ru,⟨rfl,λys hy=>by rw[I.list_inj hy hq];exact hx⟩,J1,λb hb=>(hf b hb).1⟩⟩
 done:=by
  intro X hP hw hK hc i pins s σ H E I hf st hg;subst hP hw hK;obtain⟨xs,hq,hx⟩:=hg;obtain⟨its,rv,p,hz⟩:=I.list hq;obtain⟨f0,f1,f2,f3,f4,f5⟩:=hf it Zs;have hl:=rv.length;exact wpAny_pyNext_list_end (I.ok.hd hc) st p.isList (by simp;omega) λh' eb=>⟨rfl,I.turned (t':=s.toks) (λb o hb e=>eb b o hb e) f0 f1 f3 f4 f5⟩
 self:=λ_ _ _ _ _ st h=>wpAny_pyIter_listiter st h
def zR{P:Program}{w:World}{K:W.Frag}{tg:Expr}(a it:TD):pK P w K tg (Itt K a) [it] it (λi h=>h.IsTupleIter it a i) where
 mem:=by simp
 obj:=λi h st b hb=>by
  have e:b=it:=by simpa using hb
  subst e;obtain⟨o,e,c,d⟩:=st;exact⟨o,e,λv z=>by rw[d]at z;cases z⟩
 keep:=λi h h' st k=>st.at λo e=>k it Zs o e
 item:=by
  intro X hP hw hK hc i pins s σ H E I hf st hg;subst hP hw hK;obtain⟨xs,x,hq,hx⟩:=hg;obtain⟨its,rv,p,hz⟩:=I.tuple hq;obtain⟨u,hu,ru⟩:=rv.get hx;obtain⟨f0,f1,f2,f3,f4,f5⟩:=hf it Zs;refine wpAny_pyNext_tuple_item st (show s.heap.IsTuple a its.toArray from p) (x:=u) (by simpa using hu) λh' J1 sb=>?_;have I1:Inv X pins σ H {s with heap:=h' }:=I.turned (t':=s.toks) (λb o hb e=>(sb.2 b hb).trans e) f0 f1 f3 f4 f5;obtain⟨o,e,c,d⟩:=id J1;exact⟨u,rfl,oZ (s:={s with heap:=h' }) e c d Zd ⟨x,H,I1,ru,⟨rfl,λys hy=>by rw[I.tuple_inj hy hq];exact hx⟩,J1,λb hb=>(hf b hb).1⟩⟩
 done:=by
  intro X hP hw hK hc i pins s σ H E I hf st hg;subst hP hw hK;obtain⟨xs,hq,hx⟩:=hg;obtain⟨its,rv,p,hz⟩:=I.tuple hq;obtain⟨f0,f1,f2,f3,f4,f5⟩:=hf it Zs;have hl:=rv.length;exact wpAny_pyNext_tuple_end (I.ok.hd hc) st (show s.heap.IsTuple a its.toArray from p) (by simp;omega) λh' eb=>⟨rfl,I.turned (t':=s.toks) (λb o hb e=>eb b o hb e) f0 f1 f3 f4 f5⟩
 self:=λ_ _ _ _ _ st h=>wpAny_pyIter_tupleiter st h
def zS{P:Program}{w:World}{K:W.Frag}{tg:Expr}(it:TD)(lo:Int)(n:Nat):pK P w K tg (Itr lo n) [it] it (λi h=>IsRangeIter h it (lo+(i:Nat)*1) ((n:Int)-(i:Nat)) 1) where
 mem:=by simp
 obj:=λi h st b hb=>by
  have e:b=it:=by simpa using hb
  subst e;exact⟨_,st,λv z=>by
   have z':Data.fields _=Data.cell v:=z;cases z'⟩
 keep:=λi h h' st k=>k it Zs _ st
 item:=by
  intro X hP hw hK hc i pins s σ H E I hf st hg;subst hP hw hK;obtain⟨f0,f1,f2,f3,f4,f5⟩:=hf it Zs;have W:=Walks.range (prog:=X.prog) (w:=X.w) (I.ok.hd hc) it lo 1 n;refine W.item i s _ _ hg st λv h' tk hv J1 kk=>?_;obtain⟨t,rfl⟩:=hv;have I1:Inv X pins σ H {s with heap:=h',toks:=tk }:=I.turned (λb o hb e=>kk b o (by simpa using hb) e) f0 f1 f3 f4 f5;refine⟨_,rfl,oZ (s:={s with heap:=h',toks:=tk }) (n:="range_iterator") J1 rfl rfl Zd ⟨.int (lo+i),H,I1,⟨t,?_⟩,⟨rfl,rfl⟩,J1,λb hb=>(hf b hb).1⟩⟩;rw[Int.mul_one]
 done:=by
  intro X hP hw hK hc i pins s σ H E I hf st hg;subst hP hw hK;obtain⟨f0,f1,f2,f3,f4,f5⟩:=hf it Zs;exact wpAny_pyNext_range_end (I.ok.hd hc) st (by have:n<=i:=hg;omega) λh' eb=>⟨rfl,I.turned (t':=s.toks) (λb o hb e=>eb b o hb e) f0 f1 f3 f4 f5⟩
 self:=λ_ _ _ _ _ st h=>wpAny_pyIter_rangeiter st h
section
variable {X:Cx}{tg:Expr}
def Ip(K:W.Frag)(tl:TE):TI:=λσ H R=>tl σ H λx H1=>∃a,x=.ref a/\(∃xs,SqL K H1 a xs)/\R (Itl K a) H1
def Wf(K:W.Frag)(tl:TE):TI:=λσ H R=>tl σ H λx H1=>∃a,x=.ref a/\(∃xs,SqT K H1 a xs)/\R (Itt K a) H1
def Py{l:Expr}{tl:TE}(hl:PE X l tl):PI X tg l (Ip X.K tl):=by
 intro pins s σ H R I h;refine cA (hl pins s σ H _ I h) ?_;rintro v s1 ⟨x,H1,I1,r1,q1⟩
 obtain⟨a,e,⟨xs,hq⟩,q⟩:=q1;subst e;cases r1;obtain⟨its,rv,p,hz⟩:=I1.list hq;refine wpAny_pyIter_list p.isList ?_;refine⟨s1.heap.objs.size,[s1.heap.objs.size],_,_,H1,rfl,I1.kept (t':=s1.toks) λb o e=>eG _ e,Er a _,⟨_,TW _ rfl,rfl,rfl⟩,λb hb=>?_,q⟩;have e:b=s1.heap.objs.size:=by simpa using hb
 subst e;exact I1.fpOk (aY _) (I1.hok.fresh (aY _))
def Wg{l:Expr}{tl:TE}(hl:PE X l tl):PI X tg l (Wf X.K tl):=by
 intro pins s σ H R I h;refine cA (hl pins s σ H _ I h) ?_;rintro v s1 ⟨x,H1,I1,r1,q1⟩
 obtain⟨a,e,⟨xs,hq⟩,q⟩:=q1;subst e;cases r1;obtain⟨its,rv,p,hz⟩:=I1.tuple hq;refine wpAny_pyIter_tuple (show s1.heap.IsTuple a its.toArray from p) ?_;refine⟨s1.heap.objs.size,[s1.heap.objs.size],_,_,H1,rfl,I1.kept (t':=s1.toks) λb o e=>eG _ e,zR a _,⟨_,TW _ rfl,rfl,rfl⟩,λb hb=>?_,q⟩;have e:b=s1.heap.objs.size:=by simpa using hb
 subst e;exact I1.fpOk (aY _) (I1.hok.fresh (aY _))
def Iq{pins:ZB}{σ:St}{H:Hp}{s:P1}{R:It->Hp->Prop}{E:XV}{lo hi:Int}{t u v:Tok}{tk:Nat}(I:Inv X pins σ H s)(h1:-(2^62)<=lo)(h2:lo<2^62)(h3:-(2^62)<=hi)(h4:hi<2^62)(q:R (Itr lo (hi-lo).toNat) H):wpAny (model X.prog X.w) X.A (pyIter (.ref s.heap.objs.size)) (PIE X pins σ tg R) E {s with heap:=s.heap.push {cls:=.type "range",data:=.fields #[.int lo t,.int hi u,.int 1 v] },toks:=tk }:=by
 refine wpAny_pyIter_range (IsRange.new ..) (small_one h1 h2 h3 h4) ?_;have I1:Inv X pins σ H {s with heap:=s.heap.push {cls:=.type "range",data:=.fields #[.int lo t,.int hi u,.int 1 v] },toks:=tk }:=I.kept λb o e=>eG _ e
 refine⟨(s.heap.push {cls:=.type "range",data:=.fields #[.int lo t,.int hi u,.int 1 v] }).objs.size,[(s.heap.push {cls:=.type "range",data:=.fields #[.int lo t,.int hi u,.int 1 v] }).objs.size],_,_,H,rfl,
  I1.kept (t':=tk) λb o e=>eG _ e,zS _ lo (hi - lo).toNat,?_,λb hb=>?_,q⟩
 ·have e1:lo+((0:Nat):Int)*1=lo:=by simp
  have e2:(((hi-lo).toNat:Nat):Int)-((0:Nat):Int)=Builtin.Range.rangeSize lo hi 1:=by rw[rangeSize_one];split<;>omega
  show IsRangeIter _ _ (lo+((0:Nat):Int)*1) ((((hi-lo).toNat:Nat):Int)-((0:Nat):Int)) 1;rw[e1,e2];exact TW _ rfl
 ·have e:b=(s.heap.push {cls:=.type "range",data:=.fields #[.int lo t,.int hi u,.int 1 v] }).objs.size:=by simpa using hb
  subst e;exact I1.fpOk (aY _) (I1.hok.fresh (aY _))
def Ua(ta:TA):TI:=λσ H R=>ta σ H λvs H1=>∃j:Int,vs=[.int j]/\-(2^62)<=j/\j<2^62/\R (Itr 0 j.toNat) H1
def Es{a:Expr}{ta:TA}{p pos:Pos}(hg:Gl X "range")(hm:X.mg "range"=none)(ha:PA X [a] ta)(hs:starEach [a] X.env=[(false,eval a X.env)]:=by rfl):PI X tg (.Call (.Name "range" p) [a] [] pos) (Ua ta):=by
 intro pins s σ H R I h;refine Call_ (nW I hg hm boot_range (PyProof.Rows.callWith_type1 (cA (ha pos pins s σ H _ I h) ?_) hs rfl));rintro us s1 ⟨vs,H1,I1,r1,q1⟩;obtain⟨j,e,q1,q2,q⟩:=q1;subst e;cases r1 with
 | cons r rr=>
  cases rr;obtain⟨t,rfl⟩:=r;exact call_range_1 (Iq I1 Zo Zo q1 q2 (by simpa using q))
def aAA(wi:TI)(g:TG)(tb:TS):TS:=λD σ H=>wi σ H λJ H1=>∃W:Nat->Nat->St->Hp->Prop,(∃m,W 0 m σ H1)/\∀i m σ H,W i m σ H →
 (J.stop i H/\D.nx σ H)∨(J.go i H/\∃N:St->Hp->Prop,(∀ σ' H',N σ' H'->∃m',m'<m/\W (i+1) m' σ' H')/\∀x H',J.yld i H x H'->g x σ H' λσ2 H2=>tb {D with nx:=N,ct:=N,bk:=D.nx } σ2 H2)
def qG(fp:List TD)(h:Heap):List (TD×Obj):=fp.filterMap λb=>(h.get? b).map λo=>(b,o)
def jJ{fp:List TD}{h:Heap}{b:TD}{o:Obj}(hb:b∈fp)(e:h.get? b=some o):(b,o)∈qG fp h:=mem_filterMap.mpr ⟨b,hb,by rw[e];rfl⟩
def Et{fp:List TD}{h:Heap}{p:TD×Obj}(hp:p∈qG fp h):p.1∈fp/\h.get? p.1=some p.2:=by
 obtain⟨b,hb,e⟩:=mem_filterMap.mp hp
 cases q:h.get? b with
 | none=>rw[q]at e;cases e
 | some o=>
  rw[q]at e;have e':(b,o)=p:=Option.some.inj e;subst e';exact⟨hb,q⟩
def Inv.pinned{pins:ZB}{σ:St}{H:Hp}{s:P1}{fp:List TD}(I:Inv X pins σ H s)(hf:∀b∈fp,nX X pins H b)(ho:∀b∈fp,∃o,s.heap.get? b=some o/\∀v,o.data≠.cell v):Inv X (pins++qG fp s.heap) σ H s:=
 I.pins_of λp hp=>(Zma.mp hp).elim (λz=>I.pin p (QZV _ z)) λz=>by
  obtain⟨hb,e⟩:=Et z;obtain⟨f0,f1,f2,_⟩:=hf p.1 hb;obtain⟨o,e',d⟩:=ho p.1 hb;rw[e]at e';cases e';exact⟨e,f0,f1,f2,d⟩
def Inv.unpinned{pins pl:ZB}{σ:St}{H:Hp}{s:P1}(I:Inv X (pins++pl) σ H s):Inv X pins σ H s:=I.pins_of λp hp=>I.pin p (QZV _ (QZW _ hp))
def Wh{iter:Expr}{body:List Stmt}{wi:TI}{g:TG}{tb:TS}{pos:Pos}(hp:PassesOwn (model X.prog X.w) X.A X.env X.xe)(hc:X.calm=true)(hi:PI X tg iter wi)(hg:PG X tg g)(hb:PSs X body tb)(hs:∀x,foldedSetIterable iter X.env x=pure x:=by intro _;rfl):PS X (.For tg iter body [] pos) (aAA wi g tb):=by
 intro pins s σ H D I h;refine wpAny_For (cA (hi pins s σ H _ I h) λv s1 h1=>cA h1 λIV s2 h2=>?_) hs;obtain⟨it,fp,tn,J,H2,e,I2,T,yr,f2,W,⟨m0,w0⟩,turn⟩:=h2;subst e;have BM:∀ {H':Hp},(∀b∈fp,H' b=none)->∀b∈fp,nX X pins H' b:=λhn b hb=>⟨hn b hb,(f2 b hb).2⟩
 refine codeAny_forLoop_any (λn s'=>∃i σ' H',Inv X pins σ' H' s'/\tn i s'.heap/\(∀b∈fp,H' b=none)/\W i n σ' H') ?_ m0 ⟨0,σ,H2,I2,yr,λb hb=>(f2 b hb).1,w0⟩;rintro n s3 ⟨i,σ3,H3,I3,FK,FL,w3⟩;rcases turn i n σ3 H3 w3 with⟨stop,qn⟩|⟨go,N,hN,step⟩
 ·refine wpAny_passesOwn hp (cA (T.done X rfl rfl rfl hc i pins s3 σ3 H3 X.xe I3 (BM FL) FK stop) ?_);rintro r s4 ⟨hr,I4⟩;subst hr;exact wpAny_execs_nil ⟨σ3,H3,I4,qn⟩
 ·refine wpAny_passesOwn hp (cA (T.item X rfl rfl rfl hc i pins s3 σ3 H3 X.xe I3 (BM FL) FK go) ?_);rintro r s4 ⟨u,hr,h4⟩;subst hr;refine wpAny_passesOwn hp (cA h4 ?_);rintro _ s5 ⟨x,H5,I5,r5,y5,BN,LC⟩;have LD:=I5.pinned (BM LC) (T.obj _ _ BN);refine wpAny_passesOwn hp (cA (hg _ s5 σ3 H5 x u _ LD r5 (step x H5 y5)) ?_);rintro _ s6 ⟨σ6,H6,I6,q6⟩;refine wpAny_passesOwn hp (cA (hb _ s6 σ6 H6 _ I6 q6) λf s7 q7=>?_);have again:∀ {σ7:St}{H7:Hp},Inv X (pins++qG fp s5.heap) σ7 H7 s7->N σ7 H7->∃m,m<n/\∃i σ' H',Inv X pins σ' H' s7/\tn i s7.heap/\(∀b∈fp,H' b=none)/\W i m σ' H':=λ{σ7 H7} I7 n7=>by
   obtain⟨m',hm,w7⟩:=hN σ7 H7 n7;refine⟨m',hm,i+1,σ7,H7,I7.unpinned,T.keep _ _ _ BN λb hb o e=>(I7.pin (b,o) (QZV _ (QZV _ (jJ hb e)))).1,λb hb=>?_,w7⟩;obtain⟨o,e,d⟩:=T.obj _ _ BN b hb;exact(I7.pin (b,o) (QZV _ (QZV _ (jJ hb e)))).2.1
  cases f with
  | next=>obtain⟨σ7,H7,I7,n7⟩:=q7;exact again I7 n7
  | cont=>obtain⟨σ7,H7,I7,n7⟩:=q7;exact again I7 n7
  | brk=>obtain⟨σ7,H7,I7,q7⟩:=q7;exact⟨σ7,H7,I7.unpinned,q7⟩
  | ret v=>obtain⟨x7,σ7,H7,I7,r7,q7⟩:=q7;exact⟨x7,σ7,H7,I7.unpinned,r7,q7⟩
end
abbrev R2:=V->V->Hp->VK->Prop
def OpR(X:Cx)(f:Q2->Q2->Sem Value)(r:R2):Prop:=
 ∀(pins:ZB)(s:P1)(σ:St)(H:Hp)(x y:V)(v u:Q2)(Q:VK),Inv X pins σ H s->RelV x v->RelV y u->r x y H Q →
  wpAny (model X.prog X.w) X.A (f v u) (EP X pins σ Q) X.xe s
def UnR(X:Cx)(f:Q2->Sem Value)(r:V->Hp->VK->Prop):Prop:=
 ∀(pins:ZB)(s:P1)(σ:St)(H:Hp)(x:V)(v:Q2)(Q:VK),Inv X pins σ H s->RelV x v->r x H Q →
  wpAny (model X.prog X.w) X.A (f v) (EP X pins σ Q) X.xe s
def CallR(X:Cx)(f:Q2)(r:List V->Hp->VK->Prop):Prop:=
 ∀(pins:ZB)(s:P1)(σ:St)(H:Hp)(xs:List V)(us:List Q2)(Q:VK),Inv X pins σ H s->Vals xs us->r xs H Q →
  wpAny (model X.prog X.w) X.A (call f us) (EP X pins σ Q) X.xe s
def sJ(r:R2)(ta tb:TE):TE:=λσ H Q=>ta σ H λx H1=>tb σ H1 λy H2=>r x y H2 Q
def tUn(r:V->Hp->VK->Prop)(ta:TE):TE:=λσ H Q=>ta σ H λx H1=>r x H1 Q
def rI(C:Int->Int->Prop)(g:Int->Int->V):R2:=λx y H Q=>∃i j,x=.int i/\y=.int j/\C i j/\Q (g i j) H
def Pz(g:Int->Int->V):R2:=λx y H Q=>∃i j,x=.int i/\y=.int j/\Q (g i j) H
def rU(g:Int->V):V->Hp->VK->Prop:=λx H Q=>∃i,x=.int i/\Q (g i) H
section
variable {X:Cx}{a b c:Expr}{ta tb tc:TE}{pos:Pos}
def Wi(ha:PE X a ta)(hb:PE X b tb){pins:ZB}{s:P1}{σ:St}{H:Hp}{R:V->V->Hp->Prop}(I:Inv X pins σ H s)(h:ta σ H λx H1=>tb σ H1 λy H2=>R x y H2){Q:XV}{f:Q2->Q2->Sem Value}(hf:∀v u s2 x y H2,Inv X pins σ H2 s2->RelV x v->RelV y u->R x y H2->wpAny (model X.prog X.w) X.A (f v u) Q X.xe s2) :
  wpAny (model X.prog X.w) X.A (eval a X.env) (λv s₁=>wpAny (model X.prog X.w) X.A (eval b X.env) (λu s₂=>wpAny (model X.prog X.w) X.A (f v u) Q X.xe s₂) X.xe s₁) X.xe s:=by
 refine cA (ha pins s σ H _ I h) ?_;rintro v s1 ⟨x,H1,I1,r1,q1⟩;refine cA (hb pins s1 σ H1 _ I1 q1) ?_;rintro u s2 ⟨y,H2,I2,r2,q2⟩;exact hf v u s2 x y H2 I2 r1 r2 q2
def aAB{op:Operator}{r:R2}(ho:OpR X (binaryOp op) r)(ha:PE X a ta)(hb:PE X b tb):PE X (.BinOp a op b pos) (sJ r ta tb):=by
 intro pins s σ H Q I h;exact wpAny_BinOp (Wi ha hb I h λv u s2 x y H2 I2 rx ry q=>ho pins s2 σ H2 x y v u Q I2 rx ry q)
def aAC{op:UnaryOp}{r:V->Hp->VK->Prop}(ho:UnR X (unaryOp op) r)(ha:PE X a ta):PE X (.UnaryOp op a pos) (tUn r ta):=by
 intro pins s σ H Q I h;exact UnaryOp_ (cA (ha pins s σ H _ I h) λv s1 ⟨x,H1,I1,r1,q1⟩=>ho pins s1 σ H1 x v Q I1 r1 q1)
def opI{f:Q2->Q2->Sem Value}{C:Int->Int->Prop}{g:Int->Int->Int}(rule:∀(i j:Int)(t u:Tok)(s:P1)(Q:XV)(E:XV),C i j->Q (.int (g i j) s.toks) {s with toks:=s.toks+1 }->wpAny (model X.prog X.w) X.A (f (.int i t) (.int j u)) Q E s) :
  OpR X f (rI C λi j=>.int (g i j)):=by
 intro pins s σ H x y v u Q I rx ry h;obtain⟨i,j,rfl,rfl,hc,q⟩:=h;obtain⟨t,rfl⟩:=rx;obtain⟨t',rfl⟩:=ry;exact rule i j t t' s _ _ hc ⟨.int (g i j),H,I.tok _,⟨_,rfl⟩,q⟩
def aAD{f:Q2->Q2->Sem Value}{g:Int->Int->Int}(rule:∀(i j:Int)(t u:Tok)(s:P1)(Q:XV)(E:XV),Q (.int (g i j) s.toks) {s with toks:=s.toks+1 }->wpAny (model X.prog X.w) X.A (f (.int i t) (.int j u)) Q E s) :
  OpR X f (Pz λi j=>.int (g i j)):=by
 intro pins s σ H x y v u Q I rx ry h;obtain⟨i,j,rfl,rfl,q⟩:=h;obtain⟨t,rfl⟩:=rx;obtain⟨t',rfl⟩:=ry;exact rule i j t t' s _ _ ⟨.int (g i j),H,I.tok _,⟨_,rfl⟩,q⟩
def Qa{f:Q2->Q2->Sem Value}{g:Int->Int->Bool}(rule:∀(i j:Int)(t u:Tok)(s:P1)(Q:XV)(E:XV),Q (.bool (g i j)) s->wpAny (model X.prog X.w) X.A (f (.int i t) (.int j u)) Q E s) :
  OpR X f (Pz λi j=>.bl (g i j)):=by
 intro pins s σ H x y v u Q I rx ry h;obtain⟨i,j,rfl,rfl,q⟩:=h;obtain⟨t,rfl⟩:=rx;obtain⟨t',rfl⟩:=ry;exact rule i j t t' s _ _ ⟨.bl (g i j),H,I,rfl,q⟩
def Wj(i j:Int):Prop:=0<=j/\j<=1000000/\i.natAbs<2^64
def CMul(i j:Int):Prop:=(-(2^64)<i/\i<2^64)∨(-(2^64)<j/\j<2^64)
def CMul.ok{i j:Int}(h:CMul i j):IntMulOk i j:=by
 rcases h with⟨h1,h2⟩|⟨h1,h2⟩
 ·exact .of_left (intBits_le_64 h1 h2)
 ·exact .of_right (intBits_le_64 h1 h2)
def Wk:OpR X (binaryOp .Add) (Pz λi j=>.int (i+j)):=aAD λ_ _ _ _ _ _ _ q=>add_int q
def Wl:OpR X (binaryOp .Sub) (Pz λi j=>.int (i-j)):=aAD λ_ _ _ _ _ _ _ q=>sub_int q
def Wm:OpR X (binaryOp .Mult) (rI CMul λi j=>.int (i*j)):=opI λ_ _ _ _ _ _ _ hc q=>mul_int q hc.ok
def Wn:OpR X (binaryOp .Mod) (rI (λ_ j=>0<j) λi j=>.int (i%j)):=opI λi j _ _ _ _ _ hc q=>by
 have h1:(0:Int)<j:=hc;exact mod_int' Zo (by rw[Int.fmod_eq_emod_of_nonneg i Zo];exact q)
def Wo:OpR X (binaryOp .Pow) (rI Wj λi j=>.int (i^j.toNat)):=opI λ_ _ _ _ _ _ _ hc q=>pow_int_small hc.1 hc.2.1 hc.2.2 q
def unI{f:Q2->Sem Value}{g:Int->Int}(rule:∀(i:Int)(t:Tok)(s:P1)(Q:XV)(E:XV),Q (.int (g i) s.toks) {s with toks:=s.toks+1 }->wpAny (model X.prog X.w) X.A (f (.int i t)) Q E s) :
  UnR X f (rU λi=>.int (g i)):=by
 intro pins s σ H x v Q I rx h;obtain⟨i,rfl,q⟩:=h;obtain⟨t,rfl⟩:=rx;exact rule i t s _ _ ⟨.int (g i),H,I.tok _,⟨_,rfl⟩,q⟩
def Wp:UnR X (unaryOp .USub) (rU λi=>.int (-i)):=unI λ_ _ _ _ _ q=>neg_int q
end
def Wq:V->V->Bool
 | .non,.non=>true|.non,.int _=>true|.int _,.non=>true|.non,.bl _=>true|.bl _,.non=>true|.non,.str _=>true|.str _,.non=>true
 | .int _,.int _=>true|.bl _,.bl _=>true|.str _,.str _=>true|.byt _,.byt _=>true
 | .int _,.str _=>true|.str _,.int _=>true|.bl _,.str _=>true|.str _,.bl _=>true
 | _,_=>false
def rEq:R2:=λx y H Q=>Wq x y=true/\Q (.bl (decide (x=y))) H
def rNe:R2:=λx y H Q=>Wq x y=true/\Q (.bl (!decide (x=y))) H
def Bt{i j:Int}:decide (V.int i=V.int j)=(i==j):=by
 rw[Bool.eq_iff_iff];simp
def Ir{i j:Bool}:decide (V.bl i=V.bl j)=(i==j):=by
 rw[Bool.eq_iff_iff];simp
def Bu{i j:Str}:decide (V.str i=V.str j)=(i==j):=by
 rw[Bool.eq_iff_iff];simp
def Bv{i j:Array UInt8}:decide (V.byt i=V.byt j)=(i.toList==j.toList):=by
 rw[Bool.eq_iff_iff];cases i;cases j;simp
section
variable {X:Cx}{a b c:Expr}{ta tb tc:TE}{pos:Pos}
def bE{pins:ZB}{σ:St}{H:Hp}{s:P1}{Q:VK}{k k':Bool}(I:Inv X pins σ H s)(q:Q (.bl k) H)(e:k=k'):EP X pins σ Q (.bool k') s:=by
 subst e;exact⟨.bl k,H,I,rfl,q⟩
def Ub:OpR X (compareOp .Eq) rEq:=by
 intro pins s σ H x y v u Q I rx ry h;obtain⟨hs,q⟩:=h
 cases x with
 | non=>
  cases rx
  cases y with
  | non=>cases ry;exact PySem.EqNone.eq_none_none (bE I q Zs)
  | bl j=>cases ry;exact PySem.EqNone.eq_none_bool (bE I q Zs)
  | int j=>obtain⟨t',rfl⟩:=ry;exact PySem.EqNone.eq_none_int (bE I q Zs)
  | str j=>obtain⟨t',rfl⟩:=ry;exact PySem.EqNone.eq_none_str (bE I q Zs)
  | _=>exact QZY (show false=true from hs) V2
 | bl i=>
  cases rx
  cases y with
  | non=>cases ry;exact PySem.EqNone.eq_bool_none (bE I q Zs)
  | bl j=>cases ry;exact eq_bool (bE I q Ir)
  | str j=>obtain⟨t',rfl⟩:=ry;exact PySem.EqMixed.eq_bool_str (bE I q Zs)
  | _=>exact QZY (show false=true from hs) V2
 | int i=>
  obtain⟨t,rfl⟩:=rx
  cases y with
  | non=>cases ry;exact PySem.EqNone.eq_int_none (bE I q Zs)
  | int j=>obtain⟨t',rfl⟩:=ry;exact eq_int (bE I q Bt)
  | str j=>obtain⟨t',rfl⟩:=ry;exact PySem.EqMixed.eq_int_str (bE I q Zs)
  | _=>exact QZY (show false=true from hs) V2
 | str i=>
  obtain⟨t,rfl⟩:=rx
  cases y with
  | non=>cases ry;exact PySem.EqNone.eq_str_none (bE I q Zs)
  | bl j=>cases ry;exact PySem.EqMixed.eq_str_bool (bE I q Zs)
  | int j=>obtain⟨t',rfl⟩:=ry;exact PySem.EqMixed.eq_str_int (bE I q Zs)
  | str j=>obtain⟨t',rfl⟩:=ry;exact eq_str (bE I q Bu)
  | _=>exact QZY (show false=true from hs) V2
 | byt i=>
  obtain⟨t,rfl⟩:=rx
  cases y with
  | byt j=>obtain⟨t',rfl⟩:=ry;exact W.eq_bytes (bE I q Bv)
  | _=>exact QZY (show false=true from hs) V2
 | _=>cases y<;>exact QZY (show false=true from hs) V2
def Uc:OpR X (compareOp .NotEq) rNe:=by
 intro pins s σ H x y v u Q I rx ry h;obtain⟨hs,q⟩:=h
 cases x with
 | non=>
  cases rx
  cases y with
  | non=>cases ry;exact PySem.EqNone.ne_none_none (bE I q Zs)
  | bl j=>cases ry;exact PySem.EqNone.ne_none_bool (bE I q Zs)
  | int j=>obtain⟨t',rfl⟩:=ry;exact PySem.EqNone.ne_none_int (bE I q Zs)
  | str j=>obtain⟨t',rfl⟩:=ry;exact PySem.EqNone.ne_none_str (bE I q Zs)
  | _=>exact QZY (show false=true from hs) V2
 | bl i=>
  cases rx
  cases y with
  | non=>cases ry;exact PySem.EqNone.ne_bool_none (bE I q Zs)
  | bl j=>cases ry;exact ne_bool (bE I q (congrArg not Ir))
  | str j=>obtain⟨t',rfl⟩:=ry;exact PySem.EqMixed.ne_bool_str (bE I q Zs)
  | _=>exact QZY (show false=true from hs) V2
 | int i=>
  obtain⟨t,rfl⟩:=rx
  cases y with
  | non=>cases ry;exact PySem.EqNone.ne_int_none (bE I q Zs)
  | int j=>obtain⟨t',rfl⟩:=ry;exact ne_int (bE I q (congrArg not Bt))
  | str j=>obtain⟨t',rfl⟩:=ry;exact PySem.EqMixed.ne_int_str (bE I q Zs)
  | _=>exact QZY (show false=true from hs) V2
 | str i=>
  obtain⟨t,rfl⟩:=rx
  cases y with
  | non=>cases ry;exact PySem.EqNone.ne_str_none (bE I q Zs)
  | bl j=>cases ry;exact PySem.EqMixed.ne_str_bool (bE I q Zs)
  | int j=>obtain⟨t',rfl⟩:=ry;exact PySem.EqMixed.ne_str_int (bE I q Zs)
  | str j=>obtain⟨t',rfl⟩:=ry;exact ne_str (bE I q (congrArg not Bu))
  | _=>exact QZY (show false=true from hs) V2
 | byt i=>
  obtain⟨t,rfl⟩:=rx
  cases y with
  | byt j=>obtain⟨t',rfl⟩:=ry;exact W.ne_bytes (bE I q (congrArg not Bv))
  | _=>exact QZY (show false=true from hs) V2
 | _=>cases y<;>exact QZY (show false=true from hs) V2
def Ud:OpR X (compareOp .Lt) (Pz λi j=>.bl (decide (i<j))):=Qa λ_ _ _ _ _ _ _ q=>lt_int q
def aAE:OpR X (compareOp .LtE) (Pz λi j=>.bl (decide (i<=j))):=Qa λ_ _ _ _ _ _ _ q=>le_int q
def aAF:OpR X (compareOp .Gt) (Pz λi j=>.bl (decide (j<i))):=Qa λ_ _ _ _ _ _ _ q=>gt_int q
def aAG:OpR X (compareOp .GtE) (Pz λi j=>.bl (decide (j<=i))):=Qa λ_ _ _ _ _ _ _ q=>ge_int q
def Eu:OpR X (compareOp .Lt) (λx y H Q=>∃i j,x=.str i/\y=.str j/\Q (.bl (decide (i.cps.toList<j.cps.toList))) H):=by
 intro pins s σ H x y v u Q I rx ry h;obtain⟨i,j,rfl,rfl,q⟩:=h;obtain⟨t,rfl⟩:=rx;obtain⟨t',rfl⟩:=ry;exact lt_str (bE I q rfl)
def Ev:OpR X (compareOp .In) (λx y H Q=>∃i j,x=.str i/\y=.str j/\Q (.bl (!(Builtin.Str.occurrences j i 0 j.length 1).isEmpty)) H):=by
 intro pins s σ H x y v u Q I rx ry h;obtain⟨i,j,rfl,rfl,q⟩:=h;obtain⟨t,rfl⟩:=rx;obtain⟨t',rfl⟩:=ry;exact in_str (bE I q rfl)
def Wr:OpR X (compareOp .Is) (λx y H Q=>y=.non/\Q (.bl (decide (x=.non))) H):=by
 intro pins s σ H x y v u Q I rx ry h;obtain⟨rfl,q⟩:=h;cases ry;refine is_none_gen (bE I q ?_);cases x<;>first
  | (cases rx;rfl)
  | (obtain⟨t,rfl⟩:=rx;rfl)
def Qb:OpR X (compareOp .IsNot) (λx y H Q=>y=.non/\Q (.bl (!decide (x=.non))) H):=by
 intro pins s σ H x y v u Q I rx ry h;obtain⟨rfl,q⟩:=h;cases ry;refine isnot_none_gen (bE I q ?_);cases x<;>first
  | (cases rx;rfl)
  | (obtain⟨t,rfl⟩:=rx;rfl)
def uW(b:Expr){op:CmpOp}(h:op≠.In:=by decide)(h2:op≠.NotIn:=by decide):behindInMarks op b=false:=by
 have e1:(op==CmpOp.In)=false:=by cases op<;>first|rfl|exact QZY rfl h
 have e2:(op==CmpOp.NotIn)=false:=by cases op<;>first|rfl|exact QZY rfl h2
 cases b<;>simp[behindInMarks,e1,e2]
def Qc{op:CmpOp}{r:R2}(ho:OpR X (compareOp op) r)(ha:PE X a ta)(hb:PE X b tb)(hm:behindInMarks op b=false):PE X (.Compare a [op] [b] pos) (sJ r ta tb):=by
 intro pins s σ H Q I h;exact wpAny_Compare1 (Wi ha hb I h λv u s2 x y H2 I2 rx ry q=>ho pins s2 σ H2 x y v u Q I2 rx ry q) hm
def Bw(t:TE):TT:=λσ H Q=>t σ H λx H'=>∃k,x=.bl k/\Q k H'
def Qd{op:CmpOp}{r:R2}(ho:OpR X (compareOp op) r)(ha:PE X a ta)(hb:PE X b tb)(hm:behindInMarks op b=false):PT X (.Compare a [op] [b] pos) (Bw (sJ r ta tb)):=by
 intro pins s σ H Q I h;refine wpAny_isTrue_Compare1 (cA (ha pins s σ H _ I h) λv s1 ⟨x,H1,I1,r1,q1⟩=>cA (hb pins s1 σ H1 _ I1 q1) λu s2 ⟨y,H2,I2,r2,q2⟩=>
  cA (ho pins s2 σ H2 x y v u _ I2 r1 r2 q2) λc s3 ⟨z,H3,I3,r3,k,e,q3⟩=>?_) hm
 subst e;cases r3;exact wpAny_truthy_bool ⟨H3,I3,q3⟩
def uX(r r':R2)(ta tb tc:TE):TE:=λσ H Q=>ta σ H λx H1=>tb σ H1 λy H2=>r x y H2 λz H3=>∃k,z=.bl k ∧
 (if k=true then tc σ H3 λw' H4=>r' y w' H4 Q else Q (.bl false) H3)
def Iu{op Q8:CmpOp}{r r':R2}(ho:OpR X (compareOp op) r)(P2:OpR X (compareOp Q8) r')(ha:PE X a ta)(hb:PE X b tb)(hc:PE X c tc)(hm:lastMarks [op,Q8] [b,c]=false:=by with_unfolding_all rfl):PE X (.Compare a [op,Q8] [b,c] pos) (uX r r' ta tb tc):=by
 intro pins s σ H Q I h;refine Compare_chain (cA (ha pins s σ H _ I h) λv s1 ⟨x,H1,I1,r1,q1⟩=>chain_link (cA (hb pins s1 σ H1 _ I1 q1) λu s2 ⟨y,H2,I2,r2,q2⟩=>
  cA (ho pins s2 σ H2 x y v u _ I2 r1 r2 q2) λd s3 ⟨z,H3,I3,r3,k,e,q3⟩=>?_)) hm
 subst e;cases r3;refine wpAny_truthy_bool ?_
 cases k with
 | false=>exact ite_ff ⟨.bl false,H3,I3,rfl,q3⟩
 | true=>exact ite_tt (chain_last (cA (hc pins s3 σ H3 _ I3 q3) λw' s4 ⟨z',H4,I4,r4,q4⟩=>P2 pins s4 σ H4 y z' u w' Q I4 r2 r4 q4))
def Iv{op Q8:CmpOp}{r r':R2}(ho:OpR X (compareOp op) r)(P2:OpR X (compareOp Q8) r')(ha:PE X a ta)(hb:PE X b tb)(hc:PE X c tc)(hm:lastMarks [op,Q8] [b,c]=false:=by with_unfolding_all rfl):PT X (.Compare a [op,Q8] [b,c] pos) (Bw (uX r r' ta tb tc)):=by
 intro pins s σ H Q I h;refine isTrue_chain (cA (ha pins s σ H _ I h) λv s1 ⟨x,H1,I1,r1,q1⟩=>test_link (cA (hb pins s1 σ H1 _ I1 q1) λu s2 ⟨y,H2,I2,r2,q2⟩=>
  cA (ho pins s2 σ H2 x y v u _ I2 r1 r2 q2) λd s3 ⟨z,H3,I3,r3,k,e,q3⟩=>?_)) hm
 subst e;cases r3;refine wpAny_truthy_bool ?_
 cases k with
 | false=>
  obtain⟨k',e',q'⟩:=q3;cases e';exact ite_ff ⟨H3,I3,q'⟩
 | true=>
  refine ite_tt (test_last (cA (hc pins s3 σ H3 _ I3 q3) λw' s4 ⟨z',H4,I4,r4,q4⟩=>cA (P2 pins s4 σ H4 y z' u w' _ I4 r2 r4 q4) ?_));rintro d' s5 ⟨z2,H5,I5,r5,k2,e2,q5⟩;subst e2;cases r5;exact wpAny_truthy_bool ⟨H5,I5,q5⟩
def nY:(sizeLine:Nat)<2^63:=by rw[sizeLine_eq];decide
def zT:OpR X (binaryOp .Add) (λx y H Q=>∃i j,x=.str i/\y=.str j/\i.length+j.length<=sizeLine/\Q (.str (i++j)) H):=by
 intro pins s σ H x y v u Q I rx ry h;obtain⟨i,j,rfl,rfl,hz,q⟩:=h;obtain⟨t,rfl⟩:=rx;obtain⟨t',rfl⟩:=ry;exact add_str (λt' tk=>⟨.str (i++j),H,I.tok _,⟨_,rfl⟩,q⟩) hz
def jA{x:V}{us:List Q2}(r:Vals [x] us):∃u,us=[u]/\RelV x u:=by
 cases r with
 | cons r1 r2=>cases r2;exact⟨_,rfl,r1⟩
def Ue{x y:V}{us:List Q2}(r:Vals [x,y] us):∃u w',us=[u,w']/\RelV x u/\RelV y w':=by
 cases r with
 | cons r1 r2=>
  cases r2 with
  | cons r3 r4=>cases r4;exact⟨_,_,rfl,r1,r3⟩
def Ew(hc:X.calm=true):CallR X (.builtin "max") (λxs H Q=>∃i j,xs=[.int i,.int j]/\Q (.int (if j>i then j else i)) H):=by
 intro pins s σ H xs us Q I r h;obtain⟨i,j,rfl,q⟩:=h;obtain⟨u,w',rfl,⟨t,rfl⟩,⟨t',rfl⟩⟩:=Ue r;refine max_two_ints (I.ok.hd hc) λh' tk k=>⟨_,H,I.kept k,?_,q⟩;by_cases hj:j>i
 ·rw[P0 hj,P0 hj];exact⟨_,rfl⟩
 ·rw[QZZ hj,QZZ hj];exact⟨_,rfl⟩
def Ex(hc:X.calm=true):CallR X (.builtin "min") (λxs H Q=>∃i j,xs=[.int i,.int j]/\Q (.int (if j<i then j else i)) H):=by
 intro pins s σ H xs us Q I r h;obtain⟨i,j,rfl,q⟩:=h;obtain⟨u,w',rfl,⟨t,rfl⟩,⟨t',rfl⟩⟩:=Ue r;refine min_two_ints (I.ok.hd hc) λh' tk k=>⟨_,H,I.kept k,?_,q⟩;by_cases hj:j<i
 ·rw[P0 hj,P0 hj];exact⟨_,rfl⟩
 ·rw[QZZ hj,QZZ hj];exact⟨_,rfl⟩
def Ey:CallR X (.type "int") (λxs H Q=>(∃i,xs=[.int i]/\Q (.int i) H)∨∃k,xs=[.bl k]/\Q (.int (if k then 1 else 0)) H):=by
 intro pins s σ H xs us Q I r h;rcases h with⟨i,rfl,q⟩|⟨k,rfl,q⟩
 ·obtain⟨u,rfl,t,rfl⟩:=jA r;exact call_int_int ⟨.int i,H,I,⟨_,rfl⟩,q⟩
 ·obtain⟨u,rfl,r1⟩:=jA r;cases r1;exact call_int_bool ⟨.int (if k then 1 else 0),H,I.tok _,⟨_,rfl⟩,q⟩
end
structure ObjM(h:Heap)(x dx C:TD)(mA:V5):Prop where
 obj:h.get? x=some (W.instObj C dx)
 ns:h.Ns1 dx mA
 ne:dx≠x
def Ez{h:Heap}{dx:TD}{mA:V5}(n:h.Ns1 dx mA):∃od,h.get? dx=some od/\∀name,W.lookIn name od=some (mA name):=by
 obtain⟨o,es,ep,ho,hd,hk,_,hm⟩:=n;refine⟨o,ho,λname=>?_⟩;have e:=hm name;unfold nsFind findBy at e;rw[<- Array.find?_toList]at e;unfold W.lookIn;rw[hd];dsimp only;split
 ·rename_i y q;rw[q]at e;exact congrArg some e
 ·rename_i q;rw[q]at e;have a:es.toList.any (·.refKey)=false:=by
   rw[List.any_eq_false];intro y hy;obtain⟨z,t,uq⟩:=hk y (Array.mem_toList_iff.mp hy);simp[DictEntry.refKey,uq]
  have a':¬ es.toList.any (·.refKey)=true:=by rw[a];exact V2
  rw[QZZ a'];exact congrArg some e
def ObjM.look{h:Heap}{x dx C:TD}{mA:V5}(I:ObjM h x dx C mA):∃od,W.InstAt h x (W.instObj C dx) C (some od)/\∀name,W.lookIn name od=some (mA name):=
 let ⟨od,ho,hl⟩:=Ez I.ns
 ⟨od,⟨I.obj,rfl,rfl,ho⟩,hl⟩
section
variable {prog:Program}{w:World}{A:Around}{E:XV}{s:P1}{K:W.Frag}{x dx C f:TD}{mA:V5}{name:Str}{v:Q2}
def Qe{expr:Bool}{Q:XV}(X:K.In s.heap)(I:ObjM s.heap x dx C mA)(hg:W.plainGet K C name=true)(hh:W.hasDictIn K C=true)(ha:W.findIn K (.ref C) name=some none)(hv:mA name=some v)(yt:W.handedIn v=true)(h:Q v {s with toks:=s.toks+1 }) :
  wpAny (model prog w) A (getAttr (.ref x) name expr) Q E s:=by
 obtain⟨od,J,hl⟩:=I.look;exact W.get_value X J (W.plainGet_of hg).1 (W.findObj_own hh ha rfl (by rw[hl,hv])) yt h
def Iw{pl:Sem Bool}{Q:Q2×List Q2->P1->Prop}(X:K.In s.heap)(I:ObjM s.heap x dx C mA)(hg:W.plainGet K C name=true)(hf:W.findIn K (.ref C) name=some (some (.ref f)))(ht:W.isFn K (.ref f)=true)(hv:mA name=none)(h:Q (.ref f,[.ref x]) s) :
  wpAny (model prog w) A (getMethod (.ref x) name pl) Q E s:=by
 obtain⟨od,J,hl⟩:=I.look;exact W.method_fn X J (W.plainGet_of hg).1 (W.plainGet_of hg).2 hf (beq_iff_eq.mp ht) (by show(W.lookIn name od).map (·.isSome)=some false;rw[hl,hv];rfl) h
def Qg{ns:List Str}{Q:Unit->P1->Prop}(X:K.In s.heap)(I:ObjM s.heap x dx C mA)(hs:W.findIn K (.ref C) "__setattr__"=some (some (.builtin "object.__setattr__")))(hp:W.plainOver K C=true)(ht:W.takerIn K C name=some none)(hh:W.hasDictIn K C=true)(hw:PySem.Within mA ns)(hsz:ns.length<=sizeLine)(h:∀h',ObjM h' x dx C (λy=>if y=name then some v else mA y)->Heap.SameBut dx s.heap h'->Q () {s with heap:=h',toks:=s.toks+2 }) :
  wpAny (model prog w) A (setAttr (.ref x) name v) Q E s:=by
 obtain⟨od,J,hl⟩:=I.look;refine W.set_plain X J hs (W.osa_open (s:={s with toks:=s.toks+1 }) (r:=none) X J hp ht λb=>?_);obtain⟨cd,hc,vi⟩:=W.any_some hh;have hx:s.heap.get? x=some ⟨.ref C,some dx,.plain,#[]⟩:=I.obj;refine V4 (V3 (V4 (V4 (wpAny_loadPart hx (V4 (W.Looks.here (s:={s with toks:=s.toks+1 }) (W.looks_clsIn X hc) ?_))))));rw[vi];refine V3 (a:=some dx) (V4 (V3 (V4 ?_)));refine wpAny_nsSet1 (s:={s with toks:=s.toks+1 }) I.ns λh' oh T9=>?_;obtain⟨oD,esD,epD,VO,VP,VQ⟩:=oh.count (PySem.Within.cons name v hw);refine V4 (wpAny_lookBehind VO (by rw[VP];exact pastItsLine_dict (eI VQ (by rw[qE];omega))) ?_);exact V3 (h _ ⟨(T9.2 _ (Ne.symm I.ne)).trans I.obj,oh,I.ne⟩ T9)
def Ix{R:Result->P1->Prop}{vs:List Q2}{kw:List (Str × Value)}(X:K.In s.heap)(hm:W.makesIn K C=true)(hi:W.findIn K (.ref C) "__init__"=some (some (.ref f)))(hf:W.typeIn K (.ref f)=some (.type "function"))(h:codeAny (model prog w) (A.under (.builtin "type.__call__" ⟨.ref C::vs,kw⟩)) (.call (.ref f) ⟨.ref (s.heap.objs.size+1)::vs,kw⟩) (W.InitBack (s.heap.objs.size+1) R)
   {s with heap:=(s.heap.push W.emptyDict).push (W.instObj C s.heap.objs.size) }) :
  codeAny (model prog w) A (.call (.ref C) ⟨vs,kw⟩) R s:=by
 obtain⟨hh,g,d,t,os⟩:=s;exact W.make_core (W.makes_of X hm) (W.looks_findIn X hi) (λself=>W.bind_fn X self hf) (.inl rfl) h
end
def bU(f:Str)(v:V):List (Str×V)->List (Str×V)
 | []=>[(f,v)]
 | (g,x)::r=>if g=f then (g,v)::r else (g,x)::bU f v r
def pA(f g:Str)(v:V):∀fs:List (Str×V),(bU f v fs).lookup g=if g=f then some v else fs.lookup g
 | []=>by
  show List.lookup g [(f,v)]=_;by_cases h:g=f
  ·have hb:(g==f)=true:=beq_iff_eq.mpr h;simp only [List.lookup,hb,P0 h]
  ·have hb:(g==f)=false:=beq_eq_false_iff_ne.mpr h;simp only [List.lookup,hb,QZZ h]
 | (k,x)::r=>by
  have ih:=pA f g v r;rw[show bU f v ((k,x)::r)=(if k=f then (k,v)::r else (k,x)::bU f v r) from rfl];by_cases hk:k=f
  ·rw[P0 hk];by_cases h:g=k
   ·have hb:(g==k)=true:=beq_iff_eq.mpr h;simp only [List.lookup,hb,P0 (h.trans hk)]
   ·have hb:(g==k)=false:=beq_eq_false_iff_ne.mpr h;simp only [List.lookup,hb,QZZ (λe:g=f=>h (e.trans hk.symm))]
  ·rw[QZZ hk];by_cases h:g=k
   ·have hb:(g==k)=true:=beq_iff_eq.mpr h;simp only [List.lookup,hb,QZZ (λe:g=f=>hk (h.symm.trans e))]
   ·have hb:(g==k)=false:=beq_eq_false_iff_ne.mpr h;simp only [List.lookup,hb];exact ih
def nZ(f:Str)(v:V):∀fs:List (Str×V),f∈(bU f v fs).map (·.1)/\∀g,g∈fs.map (·.1)->g∈(bU f v fs).map (·.1)
 | []=>⟨by simp[bU],λg h=>by simp at h⟩
 | (k,x)::r=>by
  obtain⟨i1,i2⟩:=nZ f v r;rw[show bU f v ((k,x)::r)=(if k=f then (k,v)::r else (k,x)::bU f v r) from rfl];by_cases hk:k=f
  ·rw[P0 hk];subst hk;exact⟨Zs,λg h=>by simpa using h⟩
  ·rw[QZZ hk];refine⟨?_,λg h=>?_⟩
   ·rw[map_cons];exact iV _ i1
   ·rw[map_cons]at h ⊢;rcases mem_cons.mp h with e|e
    ·exact mem_cons.mpr (.inl e)
    ·exact iV _ (i2 g e)
def pB(f:Str)(v:V):∀fs:List (Str×V),(bU f v fs).length<=fs.length+1
 | []=>by simp[bU]
 | (k,x)::r=>by
  have ih:=pB f v r;rw[show bU f v ((k,x)::r)=(if k=f then (k,v)::r else (k,x)::bU f v r) from rfl];by_cases hk:k=f
  ·rw[P0 hk,qE,qE];omega
  ·rw[QZZ hk,qE,qE];omega
def RelO.some_of{v:V}{o:Option Q2}(r:RelO (some v) o):∃u,o=some u/\RelV v u:=by
 cases o with
 | none=>exact(show False from r).elim
 | some u=>exact⟨u,rfl,r⟩
def RelO.none_of{o:Option Q2}(r:RelO none o):o=none:=by
 cases o with
 | none=>rfl
 | some u=>exact(show False from r).elim
def Fa{v:V}{u:Q2}(r:RelV v u):W.handedIn u=true:=by
 cases v with
 | non=>cases(show u=Value.none from r);rfl
 | bl b=>cases(show u=Value.bool b from r);rfl
 | int i=>obtain⟨t,e⟩:=(show ∃t,u=Value.int i t from r);cases e;rfl
 | str x=>obtain⟨t,e⟩:=(show ∃t,u=Value.str x t from r);cases e;rfl
 | byt b=>obtain⟨t,e⟩:=(show ∃t,u=Value.bytes b t from r);cases e;rfl
 | flt b=>obtain⟨t,e⟩:=(show ∃t,u=Value.float b t from r);cases e;rfl
 | ref a=>cases(show u=Value.ref a from r);rfl
 | ty n=>cases(show u=Value.type n from r);rfl
section
variable {P:Program}{w:World}{H H':Hp}{h h':Heap}{a C dx:TD}{fs VL:List (Str×V)}
def pT(hok:HOk P w H h)(e:H a=some (.ins C dx fs)):∃mA,ObjM h a dx C mA/\(∀f,RelO (fs.lookup f) (mA f))/\PySem.Within mA (fs.map (·.1))/\fs.length<=1000/\H dx=some (.own a):=by
 obtain⟨d,z,ne,ob,mA,n,r,q⟩:=(show ObjOk P w H h a (.ins C dx fs) from hok a _ e);exact⟨mA,⟨ob,n,ne⟩,r,q,z,d⟩
end
structure Cls(K:W.Frag)(C:TD):Prop where
 pg:W.plainGet K C Str.empty=true
 hd:W.hasDictIn K C=true
 po:W.plainOver K C=true
 sa:W.findIn K (.ref C) "__setattr__"=some (some (.builtin "object.__setattr__"))
def Cls.get{K:W.Frag}{C:TD}(c:Cls K C)(f:Str):W.plainGet K C f=true:=c.pg
def NoAttr(K:W.Frag)(C:TD)(f:Str):Prop:=W.findIn K (.ref C) f=some none
def NoAttr.taker{K:W.Frag}{C:TD}{f:Str}(n:NoAttr K C f):W.takerIn K C f=some none:=by
 unfold W.takerIn;rw[show W.findIn K (.ref C) f=some none from n];rfl
structure Ws(K:W.Frag)(C:TD)(m:Str)(f:TD):Prop where
 at_:W.findIn K (.ref C) m=some (some (.ref f))
 fn:W.isFn K (.ref f)=true
 kp:W.keepIn K (.ref f)=true
section
variable {X:Cx}{pins:ZB}{σ:St}{H:Hp}{s:P1}{a C dx:TD}{fs:List (Str×V)}{f:Str}{v:V}{A:Around}{E:XV}
def zU{b:Bool}{Q:XV}(I:Inv X pins σ H s)(e:H a=some (.ins C dx fs))(c:Cls X.K C)(n:NoAttr X.K C f)(l:fs.lookup f=some v)(h:∀u s',Inv X pins σ H s'->RelV v u->Q u s'):wpAny (model X.prog X.w) A (getAttr (.ref a) f b) Q E s:=by
 obtain⟨mA,O,r,_,_,_⟩:=pT I.hok e;obtain⟨u,hu,ru⟩:=RelO.some_of (v:=v) (o:=mA f) (by rw[<- l];exact r f);exact Qe I.kIn O (c.get f) c.hd n hu (Fa ru) (h u _ (I.tok _) ru)
def qH{m:Str}{g:TD}{pl:Sem Bool}{Q:Q2×List Q2->P1->Prop}(I:Inv X pins σ H s)(e:H a=some (.ins C dx fs))(c:Cls X.K C)(k:Ws X.K C m g)(l:fs.lookup m=none)(h:Q (.ref g,[.ref a]) s):wpAny (model X.prog X.w) A (getMethod (.ref a) m pl) Q E s:=by
 obtain⟨mA,O,r,_,_,_⟩:=pT I.hok e;have hn:mA m=none:=RelO.none_of (by rw[<- l];exact r m);exact Iw I.kIn O (c.get m) k.at_ k.fn hn h
def zV{y:V}{u:Q2}{Q:Unit->P1->Prop}(I:Inv X pins σ H s)(e:H a=some (.ins C dx fs))(c:Cls X.K C)(n:NoAttr X.K C f)(hl:fs.length<1000)(ry:RelV y u)(h:∀s',Inv X pins σ (aI H a (.ins C dx (bU f y fs))) s'->Q () s'):wpAny (model X.prog X.w) A (setAttr (.ref a) f u) Q E s:=by
 obtain⟨mA,O,r,wi,_,ho⟩:=pT I.hok e;have hz:(fs.map (·.1)).length<=sizeLine:=by rw[aS,sizeLine_eq];omega
 refine Qg I.kIn O c.sa c.po n.taker c.hd wi hz λh' O' sb=>h _ ?_;have hd:∃o,h'.get? dx=some o:=let ⟨o,_,_,e',_⟩:=O'.ns;⟨o,e'⟩;refine I.write (x:=a) (e:=dx) (by rw[e];exact True.intro) (.inr ho) (λb q hb z=>(sb.2 b hb).trans z) hd ?_;refine⟨by rw[aB O.ne];exact ho,?_,O.ne,O'.obj,_,O'.ns,λg=>?_,λg hg=>?_⟩
 ·have:=pB f y fs;omega
 ·show RelO ((bU f y fs).lookup g) (if g=f then some u else mA g);rw[pA];by_cases q:g=f
  ·rw[P0 q,P0 q];exact ry
  ·rw[QZZ q,QZZ q];exact r g
 ·by_cases q:g=f
  ·rw[q];exact(nZ f y fs).1
  ·refine(nZ f y fs).2 g (wi g λz=>hg ?_);show(if g=f then some u else mA g)=none;rw[QZZ q];exact z
def Inv.made(I:Inv X pins σ H s):Inv X pins σ (aI (aI H s.heap.objs.size (.own (s.heap.objs.size+1))) (s.heap.objs.size+1) (.ins C s.heap.objs.size []))
  {s with heap:=(s.heap.push W.emptyDict).push (W.instObj C s.heap.objs.size) }:=by
 have e1:(s.heap.push W.emptyDict).get? s.heap.objs.size=some W.emptyDict:=TW s.heap rfl;have e2:((s.heap.push W.emptyDict).push (W.instObj C s.heap.objs.size)).get? (s.heap.objs.size+1)=some (W.instObj C s.heap.objs.size):=by
  have:=TW (s.heap.push W.emptyDict) (o:=W.instObj C s.heap.objs.size) rfl
  rwa [Heap.size_push]at this
 have e3:(s.heap.push W.emptyDict).Ns s.heap.objs.size (λ_=>none):=⟨W.emptyDict,#[],_,e1,rfl,(λe he=>QZY he Zs),λ_=>rfl⟩;have I1:=I.laid (a:=s.heap.objs.size) (o:=.own (s.heap.objs.size+1)) (h':=s.heap.push W.emptyDict) (t':=s.toks) (λb u q=>eG _ q) (aY _) ⟨_,e1⟩;refine I1.laid (a:=s.heap.objs.size+1) (o:=.ins C s.heap.objs.size []) (t':=s.toks) (λb u q=>eG _ q) (le_of_eq (Heap.size_push _ _)) ?_;have ne:s.heap.objs.size≠s.heap.objs.size+1:=ne_of_lt (lt_succ_self _);refine⟨by rw[aB ne,aA],zero_le _,ne,e2,λ_=>none,(Heap.Ns1.of_empty e3).at λo q=>eG _ q,λ_=>True.intro,λy hy=>QZY rfl hy⟩
def Qh{prog:Program}{w:World}{env:Env}{e:Expr}{f:Str}{pos:Pos}{s:P1}{Q:XV}(hb:attributeBase e f env (eval e env)=eval e env)(h:wpAny (model prog w) A (eval e env) (λo s₁=>wpAny (model prog w) A (getAttr o f true) Q E s₁) E s):wpAny (model prog w) A (eval (.Attribute e f pos) env) Q E s:=
 Attribute_any_ h (by rw[arm_eval_Attribute,hb])
end
section
variable {X:Cx}{pins:ZB}{σ:St}{H:Hp}{s:P1}{A:Around}{E:XV}{Q:XV}{c:Q2}{b:Bool}
inductive mP(K:W.Frag)(H:Hp):V->Q2->Prop where
 | non:mP K H .non (.type "NoneType")
 | bl (x:Bool):mP K H (.bl x) (.type "bool")
 | int (i:Int):mP K H (.int i) (.type "int")
 | str (x:Str):mP K H (.str x) (.type "str")
 | flt (x:UInt64):mP K H (.flt x) (.type "float")
 | lst {a:TD}{xs:List V} (e:H a=some (.lst xs)):mP K H (.ref a) (.type "list")
 | frz {a:TD}{o:Obj}{xs:List V} (e:H a=some (.frz o (.lst xs))):mP K H (.ref a) (.type "list")
 | tup {a:TD}{xs:List V} (e:H a=some (.tup xs)):mP K H (.ref a) (.type "tuple")
 | dK {a:TD}{kvs:List (aT×V)} (e:H a=some (.dK kvs)):mP K H (.ref a) (.type "dict")
 | dT {a:TD}{kvs:List (List aT×V)} (e:H a=some (.dT kvs)):mP K H (.ref a) (.type "dict")
 | ins {a C dx:TD}{fs:List (Str×V)} (e:H a=some (.ins C dx fs)) (cl:Cls K C) (ha:W.findIn K (.ref C) "__class__"=some (some (.builtin "object.__class__")))
   (hn:W.specialIn K (.builtin "object.__class__") "__get__"=some (some (.builtin "getset_descriptor.__get__"))) (htk:W.takesIn K (.builtin "object.__class__")=some true)
   (hm:W.mroIn K C (.type "object")=some true):mP K H (.ref a) (.ref C)
def Fc{x:V}{u t:Q2}(I:Inv X pins σ H s)(rx:RelV x u)(ty:mP X.K H x t)(e:W.kitOne X.K t c=some b)(h:∀tk,Q (.bool b) {s with toks:=tk }) :
  wpAny (model X.prog X.w) A (call (.builtin "isinstance") [u,c]) Q E s:=by
 cases ty with
 | non=>cases(show u=Value.none from rx);exact W.kia_one W.kitx_none I.kIn True.intro e nofun h
 | bl y=>cases(show u=Value.bool y from rx);exact W.kia_one W.kitx_bool I.kIn True.intro e nofun h
 | int i=>obtain⟨t,q⟩:=(show ∃t,u=Value.int i t from rx);cases q;exact W.kia_one W.kitx_int I.kIn True.intro e nofun h
 | str y=>obtain⟨t,q⟩:=(show ∃t,u=Value.str y t from rx);cases q;exact W.kia_one W.kitx_str I.kIn True.intro e nofun h
 | flt y=>obtain⟨t,q⟩:=(show ∃t,u=Value.float y t from rx);cases q;exact W.kia_one W.kitx_float I.kIn True.intro e nofun h
 | @lst a xs ea=>
  cases(show u=Value.ref a from rx);obtain⟨_,_,n,_,h1⟩:=(show ObjOk X.prog X.w H s.heap a (.lst xs) from I.hok a _ ea);exact W.kia_one W.kitx_list I.kIn ⟨_,h1,rfl⟩ e nofun h
 | @frz a ob xs ea=>
  cases(show u=Value.ref a from rx);obtain⟨_,_,_,n,_,h1⟩:=(show ObjOk X.prog X.w H s.heap a (.frz ob (.lst xs)) from I.hok a _ ea);exact W.kia_one W.kitx_list I.kIn ⟨_,h1,rfl⟩ e nofun h
 | @tup a xs ea=>
  cases(show u=Value.ref a from rx);obtain⟨_,_,_,p⟩:=(show ObjOk X.prog X.w H s.heap a (.tup xs) from I.hok a _ ea);obtain⟨o,h1,h2,_⟩:=p;exact W.kia_one W.kitx_tuple I.kIn ⟨o,h1,h2⟩ e nofun h
 | @dK a kvs ea=>
  cases(show u=Value.ref a from rx);obtain⟨_,_,vs,_,p⟩:=(show ObjOk X.prog X.w H s.heap a (.dK kvs) from I.hok a _ ea);obtain⟨o,es,ep,h1,h2,_⟩:=p;exact W.kia_one W.kitx_dict I.kIn ⟨o,h1,h2.1⟩ e nofun h
 | @dT a kvs ea=>
  cases(show u=Value.ref a from rx);obtain⟨_,_,xs,_,o,es,ep,h1,h2,_⟩:=(show ObjOk X.prog X.w H s.heap a (.dT kvs) from I.hok a _ ea);exact W.kia_one W.kitx_dict I.kIn ⟨o,h1,h2.1⟩ e nofun h
 | @ins a C dx fs ea cl ha hn htk hm=>
  cases(show u=Value.ref a from rx);obtain⟨mA,O,_⟩:=pT I.hok ea;obtain⟨od,J,_⟩:=O.look;exact W.kia_one (W.kitx_own (cl.get _) cl.hd ha hn htk hm) I.kIn J e nofun h
end
structure Room(k:Nat)(A:Around):Prop where
 hd:A.handled=none
 dp:A.depth+3*k+5<recursionLimit
 un:A.units+16*k+200<cLine
def Room.mono{j k:Nat}{A:Around}(r:Room k A)(h:j<=k):Room j A:=⟨r.hd,by have:=r.dp;omega,by have:=r.un;omega⟩
def Room.deeper{k:Nat}{A:Around}(r:Room (k+1) A)(env:Env):Room k (A.deeper env):=
 ⟨r.hd,by have:=r.dp;show A.depth+1+3*k+5<_;omega,by have:=r.un;show A.units+3+16*k+200<_;omega⟩
def zW{A:Around}{C:TD}{us:List Q2}{kw:List (Str×Q2)}:(A.under (.builtin "type.__call__" ⟨.ref C::us,kw⟩)).depth=A.depth+1:=by
 first|rfl|simp[Around.under,Code.weight,Code.isCreation,Code.isGuard,Code.isCaller,Code.frames,Code.isFrame,guardIds]
def zX{A:Around}{C:TD}{us:List Q2}{kw:List (Str×Q2)}:(A.under (.builtin "type.__call__" ⟨.ref C::us,kw⟩)).units=A.units+1:=by
 first|rfl|simp[Around.under,Code.cUnits,Code.frames,Code.isFrame]
def Room.make{k:Nat}{A:Around}(r:Room (k+1) A)(C:TD)(us:List Q2)(kw:List (Str×Q2)):Room k (A.under (.builtin "type.__call__" ⟨.ref C::us,kw⟩)):=
 ⟨r.hd,by have:=r.dp;rw[zW];omega,by have:=r.un;rw[zX];omega⟩
def Room.depth{k:Nat}{A:Around}(r:Room k A):A.depth<recursionLimit:=by have:=r.dp;omega
def Room.units{k:Nat}{A:Around}(r:Room k A):A.units+64<cLine:=by have:=r.un;omega
def Room.units0{k:Nat}{A:Around}(r:Room k A):A.units<cLine:=by have:=r.un;omega
def sK:TA:=λ_ H Q=>Q [] H
def kJ(ta:TE)(tr:TA):TA:=λσ H Q=>ta σ H λx H1=>tr σ H1 λxs H2=>Q (x::xs) H2
section
variable {X:Cx}{e:Expr}{es:List Expr}{te:TE}{t:TA}{pos:Pos}
def uY:PA X [] sK:=λ_ _ _ _ H Q I h=>Calls.spliced_nil ⟨[],H,I,.nil,h⟩
def uZ(ha:PE X e te)(hr:PA X es t)(hs:starEach (e::es) X.env=(false,eval e X.env)::starEach es X.env:=by rfl):PA X (e::es) (kJ te t):=by
 intro pos pins s σ H Q I h;rw[hs];show wpAny _ _ (spliced ((false,eval e X.env)::backTo pos (starEach es X.env))) _ _ s;refine Calls.spliced_cons (cA (ha pins s σ H _ I h) ?_);rintro u s1 ⟨x,H1,I1,r1,q1⟩;exact cA (hr pos pins s1 σ H1 _ I1 q1) λus s2 ⟨xs,H2,I2,r2,q2⟩=>⟨x::xs,H2,I2,.cons r1 r2,q2⟩
def aAH(t:TA):TE:=λσ H Q=>t σ H λxs H1=>xs.length<=sizeLine/\∀p,H1 p=none->Q (.ref p) (aI H1 p (.tup xs))
def aAI(t:TA):TE:=λσ H Q=>t σ H λxs H1=>xs.length<=sizeLine/\∀p,H1 p=none->Q (.ref p) (aI H1 p (.lst xs))
def Wt{x1}(h:PA X es t):PE X (.Tuple es x1 pos) (aAH t):=by
 intro pins s σ H Q I hq;refine wpAny_Tuple_spliced (cA (h pos pins s σ H _ I hq) λus s1 ⟨xs,H1,I1,r,z,q⟩=>⟨by rw[<- r.length];exact z,?_⟩);have hf:H1 s1.heap.objs.size=none:=I1.hok.fresh (aY _);refine⟨.ref s1.heap.objs.size,aI H1 s1.heap.objs.size (.tup xs),I1.laid (t':=s1.toks) (λb u e=>eG _ e) (aY _) ?_,rfl,q _ hf⟩;exact⟨z,us,r,⟨_,TW _ rfl,rfl,_,rfl⟩⟩
def Wu(h:PA X es t):PE X (.List es pos) (aAI t):=by
 intro pins s σ H Q I hq;refine wpAny_List_spliced (cA (h pos pins s σ H _ I hq) λus s1 ⟨xs,H1,I1,r,z,q⟩=>⟨by rw[<- r.length];exact z,?_⟩);have hf:H1 s1.heap.objs.size=none:=I1.hok.fresh (aY _);refine⟨.ref s1.heap.objs.size,aI H1 s1.heap.objs.size (.lst xs),I1.laid (t':=s1.toks) (λb u e=>eG _ e) (aY _) ?_,rfl,q _ hf⟩;exact⟨z,us,0,r,TW _ rfl⟩
end
abbrev Sp:=List V->Hp->VK->XK->Prop
abbrev Pj:=List Env->Hp->P1->XK->Q2->P1->Prop
structure Env0(P:Program)(w:World)(K:W.Frag)(mg:V5)(base:Heap)(A:Around)(outer:List Env)(s:P1)(H:Hp):Prop where
 frames:A.frames=some outer
 mod:Mod K mg base
 bs:∀b o,base.get? b=some o->s.heap.get? b=some o/\H b=none
 bsz:base.objs.size<=s.heap.objs.size
 funs:s.heap.FunFrames base outer
 frf:∀b∈Ii outer,H b=none
 hok:HOk P w H s.heap
 bare:AllBare s.gens
def CE(outer:List Env)(P:Program)(w:World)(H:Hp)(s:P1)(Q:VK)(u:Q2)(s':P1):Prop:=
 ∃v H',s'.os=s.os/\AllBare s'.gens/\Un (Ii outer) [] H H' s.heap s'.heap/\HOk P w H' s'.heap/\RelV v u/\Q v H'
def CR(CX:Pj)(outer:List Env)(P:Program)(w:World)(H:Hp)(s:P1)(Q:VK)(E:XK)(r:Result)(s':P1):Prop:=
 match r with
 | .ok (.ret u)=>CE outer P w H s Q u s'
 | .ok _=>False
 | .error e=>CX outer H s E e s'
structure kK(P:Program)(w:World)(K:W.Frag)(mg:V5)(base:Heap)(CX:Pj)(k:Nat)(f:TD)(fd:FuncData)(ps:List Str)(sp:Sp):Prop where
 len:∀vs H Q E,sp vs H Q E->vs.length=ps.length
 run:∀(A:Around)(outer:List Env)(s:P1)(H:Hp)(args:Args)(us:List Q2)(vs:List V)(Q:VK)(E:XK),Room k A->Env0 P w K mg base A outer s H->BindsTo s fd args (ps.zip us)->Vals vs us->sp vs H Q E →
  codeAny (model P w) A (.call (.ref f) args) (CR CX outer P w H s Q E) s
def Env0.make{P:Program}{w:World}{K:W.Frag}{mg:V5}{base:Heap}{A:Around}{outer:List Env}{s:P1}{H:Hp}(e:Env0 P w K mg base A outer s H)(C:TD)(us:List Q2)(kw:List (Str×Q2)) :
  Env0 P w K mg base (A.under (.builtin "type.__call__" ⟨.ref C::us,kw⟩)) outer s H:=⟨by first|exact e.frames|(simpa [Around.under,Code.envs,Code.isFrame,pushEnvs]using e.frames),e.mod,e.bs,e.bsz,e.funs,e.frf,e.hok,e.bare⟩
section
variable {X:Cx}{pins:ZB}{σ:St}{H:Hp}{s s':P1}
def Inv.env0(I:Inv X pins σ H s):Env0 X.prog X.w X.K X.mg X.base X.A X.stack s H:=
 ⟨I.ok.frames,I.ok.mod,I.bs,eI I.ok.bsz I.sz,I.stack,I.stkFree,I.hok,I.bare⟩
def Inv.after{Q:VK}{u:Q2}(I:Inv X pins σ H s)(h:CE X.stack X.prog X.w H s Q u s'):EP X pins σ Q u s':=by
 obtain⟨v,H',os,bare,un,hok,r,q⟩:=h;obtain⟨hh,g,d,t,VR⟩:=s';obtain rfl:VR=s.os:=os;exact⟨v,H',I.call (h':=hh) (g':=g) (d':=d) (t':=t) (ch:=[]) un hok bare (λb z=>QZY z Zs),r,q⟩
end
def aAJ(sp:Sp)(dvs:List V)(E:XK)(t:TA):TE:=λσ H Q=>t σ H λvs H1=>sp (vs++dvs) H1 Q E
def Bx(C:TD)(sp:Sp)(dvs:List V)(E:XK)(t:TA):TE:=λσ H Q=>t σ H λvs H1=>∀x dx,H1 x=none->H1 dx=none->dx≠x →
 sp (.ref x::(vs++dvs)) (aI (aI H1 dx (.own x)) x (.ins C dx [])) (λv H2=>v=.non/\Q (.ref x) H2) E
def Binds(K:W.Frag)(fd:FuncData)(ps:List Str)(ds:List Q2):Prop:=
 ∀(s:P1)(us:List Q2),K.In s.heap->(us++ds).length=ps.length->BindsTo s fd ⟨us,[]⟩ (ps.zip (us++ds))
def Binds.all{K:W.Frag}{fd:FuncData}{ps:List Str}(h:∀us:List Q2,us.length=ps.length->bindArgs fd ⟨us,[]⟩=pure (ps.zip us)):Binds K fd ps []:=λs us _ hl=>by
 rw[append_nil]at hl ⊢;exact .of_eq (h us hl)
def oA(CX:Pj)(X:Cx)(E:XK):Prop:=∀(pins:ZB)(σ:St)(H:Hp)(s:P1)(e:Q2)(s':P1),Inv X pins σ H s->CX X.stack H s E e s'->X.xe e s'
section
variable {X:Cx}{CX:Pj}{k:Nat}{f C:TD}{fd:FuncData}{ps:List Str}{sp:Sp}{dvs:List V}{ds:List Q2}{E:XK}{x m:Str}{p pos apos:Pos}{e o:Expr}{es:List Expr}{ta:TE}{t:TA}
def zY{pins:ZB}{σ:St}{H:Hp}{s:P1}{Q:VK}{us:List Q2}{vs:List V}(F:kK X.prog X.w X.K X.mg X.base CX k f fd ps sp)(hr:Room k X.A)(hb:Binds X.K fd ps ds)(hd:Vals dvs ds)(hx:oA CX X E)(I:Inv X pins σ H s)(r:Vals vs us)(h:sp (vs++dvs) H Q E):wpAny (model X.prog X.w) X.A (call (.ref f) us) (EP X pins σ Q) X.xe s:=by
 have r2:Vals (vs++dvs) (us++ds):=r.append hd;have hl:(us++ds).length=ps.length:=by rw[<- r2.length];exact F.len _ _ _ _ h
 refine wpAny_call (codeAny_mono (F.run X.A X.stack s H ⟨us,[]⟩ (us++ds) (vs++dvs) Q E hr I.env0 (hb s us I.kIn hl) r2 h) λr s' hq=>?_)
 cases r with
 | error e=>exact hx pins σ H s e s' I hq
 | ok fl=>
  cases fl with
  | ret u=>exact I.after hq
  | next=>exact False.elim hq
  | brk=>exact False.elim hq
  | cont=>exact False.elim hq
def Qi(F:kK X.prog X.w X.K X.mg X.base CX k f fd ps sp)(hr:Room k X.A)(hg:Gl X x)(hm:X.mg x=some (.ref f))(hk:W.keepIn X.K (.ref f)=true)(hb:Binds X.K fd ps ds)(hd:Vals dvs ds)(hx:oA CX X E)(ha:PA X (e::es) t)(M0:(x==("__debug__":Str))=false:=by decide)(he:starEach (e::es) X.env=(false,eval e X.env)::starEach es X.env:=by rfl)(qz:(backTo pos (starEach es X.env)).any (·.1)=false:=by rfl) :
  PE X (.Call (.Name x p) (e::es) [] pos) (aAJ sp dvs E t):=by
 intro pins s σ H Q I h;refine wpAny_Call_Name_kw (pS I hg hm ?_ M0);refine W.callWith_K (h₀:=X.base) I.ok.mod.kin hk (cA (ha pos pins s σ H _ I h) λus s1 ⟨vs,H1,I1,r,q⟩=>⟨I1.kIn,?_⟩) he qz;exact zY F hr hb hd hx I1 r q
structure Mk(K:W.Frag)(C f:TD):Prop where
 makes:W.makesIn K C=true
 init:W.findIn K (.ref C) "__init__"=some (some (.ref f))
 fn:W.isFn K (.ref f)=true
 kp:W.keepIn K (.ref C)=true
def xB{pins:ZB}{σ:St}{H:Hp}{s:P1}{Q:VK}{us:List Q2}{vs:List V}(M:Mk X.K C f)(F:kK X.prog X.w X.K X.mg X.base CX k f fd ps sp)(hr:Room (k+1) X.A)(hb:Binds X.K fd ps ds)(hd:Vals dvs ds)(hx:oA CX X E)(I:Inv X pins σ H s)(r:Vals vs us)(h:∀x dx,H x=none->H dx=none->dx≠x->sp (.ref x::(vs++dvs)) (aI (aI H dx (.own x)) x (.ins C dx [])) (λv H2=>v=.non/\Q (.ref x) H2) E) :
  wpAny (model X.prog X.w) X.A (call (.ref C) us) (EP X pins σ Q) X.xe s:=by
 have hq:=h (s.heap.objs.size+1) s.heap.objs.size (I.hok.fresh (le_succ _)) (I.hok.fresh (aY _)) (ne_of_lt (lt_succ_self _));have I2:=Inv.made (C:=C) I;have r2:Vals (V.ref (s.heap.objs.size+1)::(vs++dvs)) (Value.ref (s.heap.objs.size+1)::(us++ds)):=.cons rfl (r.append hd);have hl:(Value.ref (s.heap.objs.size+1)::us++ds).length=ps.length:=by
  have e:=r2.length;rw[F.len _ _ _ _ hq]at e;exact e.symm
 refine wpAny_call (Ix (f:=f) I.kIn M.makes M.init (beq_iff_eq.mp M.fn) (codeAny_mono (F.run _ X.stack _ _ ⟨Value.ref (s.heap.objs.size+1)::us,[]⟩ (Value.ref (s.heap.objs.size+1)::(us++ds)) _ _ E (hr.make C us [])
  (I2.env0.make C us []) (hb _ (Value.ref (s.heap.objs.size+1)::us) I2.kIn hl) r2 hq) λr s' oi=>?_))
 cases r with
 | error e=>exact hx pins σ _ _ e s' I2 oi
 | ok fl=>
  cases fl with
  | ret u=>
   obtain⟨v,H',I3,rv,ev,q3⟩:=I2.after oi;subst ev;exact⟨rv,⟨V.ref (s.heap.objs.size+1),H',I3,rfl,q3⟩⟩
  | next=>exact False.elim oi
  | brk=>exact False.elim oi
  | cont=>exact False.elim oi
def Qj(M:Mk X.K C f)(F:kK X.prog X.w X.K X.mg X.base CX k f fd ps sp)(hr:Room (k+1) X.A)(hg:Gl X x)(hm:X.mg x=some (.ref C))(hb:Binds X.K fd ps ds)(hd:Vals dvs ds)(hx:oA CX X E)(ha:PA X (e::es) t)(M0:(x==("__debug__":Str))=false:=by decide)(he:starEach (e::es) X.env=(false,eval e X.env)::starEach es X.env:=by rfl)(qz:(backTo pos (starEach es X.env)).any (·.1)=false:=by rfl) :
  PE X (.Call (.Name x p) (e::es) [] pos) (Bx C sp dvs E t):=by
 intro pins s σ H Q I h;refine wpAny_Call_Name_kw (pS I hg hm ?_ M0);refine W.callWith_K (h₀:=X.base) I.ok.mod.kin M.kp (cA (ha pos pins s σ H _ I h) λus s1 ⟨vs,H1,I1,r,q⟩=>⟨I1.kIn,?_⟩) he qz;exact xB M F hr hb hd hx I1 r q
def Iy(M:Mk X.K C f)(F:kK X.prog X.w X.K X.mg X.base CX k f fd ps sp)(hr:Room (k+1) X.A)(hg:Gl X x)(hm:X.mg x=some (.ref C))(hb:Binds X.K fd ps ds)(hd:Vals dvs ds)(hx:oA CX X E)(M0:(x==("__debug__":Str))=false:=by decide):PE X (.Call (.Name x p) [] [] pos) (Bx C sp dvs E sK):=by
 intro pins s σ H Q I h;refine wpAny_Call_Name_kw (pS I hg hm ?_ M0);exact W.callWith_K0 I.kIn M.kp (xB (us:=[]) M F hr hb hd hx I .nil h)
end
structure aK(N P:List Str)(sc:Scope):Prop where
 kind:sc.kind=.function
 co:sc.isCoroutine=false
 gen:sc.isGenerator=false
 nd:N.Nodup
 pre:N.take P.length=P
 par:∀x∈P,sc.names.lookup x=some .local∨sc.names.lookup x=some .cell
 nofree:∀y∈sc.names,y.2≠.free
def tK{kindOf:Str->Option NameKind}{x:Str}:∀ {binds:List (Str×Q2)}{m:V5},(∀v,(x,v)∉binds)->bindL kindOf binds m x=m x
 | [],_,_=>rfl
 | (n,v)::r,m,h=>by
  unfold bindL;rw[tK λw hw=>h w (iV _ hw)];split
  ·have:x≠n:=by rintro rfl;exact h v eV
   simp[this]
  ·rfl
def tL{kindOf:Str->Option NameKind}{x:Str}:∀ {binds:List (Str×Q2)}{m:V5},(∀v,(x,v)∉binds)->bindC kindOf binds m x=m x
 | [],_,_=>rfl
 | (n,v)::r,m,h=>by
  unfold bindC;rw[tL λw hw=>h w (iV _ hw)];split
  ·rfl
  ·have:x≠n:=by rintro rfl;exact h v eV
   simp[this]
def tM{kindOf:Str->Option NameKind}{x:Str}{v:Q2}:∀ {P:List Str}{vs:List Q2}{i:Nat}{m:V5},P.Nodup->P[i]?=some x->vs[i]?=some v->kindOf x=some .local →
  bindL kindOf (P.zip vs) m x=some v
 | [],_,_,_,_,h,_,_=>by simp at h
 | _::_,[],_,_,_,_,h,_=>by simp at h
 | p::P,w::vs,0,m,nd,h1,h2,hk=>by
  simp at h1 h2;subst h1;subst h2;show bindL kindOf ((p,w)::P.zip vs) m p=_;unfold bindL;rw[tK λv hv=>(nodup_cons.mp nd).1 (of_mem_zip hv).1,P0 hk];simp
 | p::P,w::vs,i+1,m,nd,h1,h2,hk=>by
  show bindL kindOf ((p,w)::P.zip vs) m x=_;unfold bindL;exact tM (i:=i) (nodup_cons.mp nd).2 (by simpa using h1) (by simpa using h2) hk
def tN{kindOf:Str->Option NameKind}{x:Str}{v:Q2}:∀ {P:List Str}{vs:List Q2}{i:Nat}{m:V5},P.Nodup->P[i]?=some x->vs[i]?=some v->kindOf x≠some .local →
  bindC kindOf (P.zip vs) m x=some v
 | [],_,_,_,_,h,_,_=>by simp at h
 | _::_,[],_,_,_,_,h,_=>by simp at h
 | p::P,w::vs,0,m,nd,h1,h2,hk=>by
  simp at h1 h2;subst h1;subst h2;show bindC kindOf ((p,w)::P.zip vs) m p=_;unfold bindC;rw[tL λv hv=>(nodup_cons.mp nd).1 (of_mem_zip hv).1,QZZ hk];simp
 | p::P,w::vs,i+1,m,nd,h1,h2,hk=>by
  show bindC kindOf ((p,w)::P.zip vs) m x=_;unfold bindC;exact tN (i:=i) (nodup_cons.mp nd).2 (by simpa using h1) (by simpa using h2) hk
def start(N:List Str)(vs:List V):St:=vs.map some++List.replicate (N.length-vs.length) none
def mQ(CX:Pj)(P:Program)(w:World)(K:W.Frag)(mg:V5)(base:Heap)(N:List Str)(qual:Str)(scope:Scope)(f:TD)(cd:Q2)(A:Around)(outer:List Env)(s:P1)(H:Hp)(E:XK):Cx where
 prog:=P
 w:=w
 K:=K
 mg:=mg
 base:=base
 A:=A.deeper (envOfC qual scope s.heap.objs.size f cd)
 N:=N
 s₀:=s
 H₀:=H
 env:=envOfC qual scope s.heap.objs.size f cd
 outer:=outer
 stack:=envOfC qual scope s.heap.objs.size f cd::outer
 ex:=[]
 calm:=true
 fn:=λ_=>true
 pn:=[]
 xe:=λe s'=>wpAny (model P w) (A.deeper (envOfC qual scope s.heap.objs.size f cd)) (leaving (envOfC qual scope s.heap.objs.size f cd) e) (λ_ BO=>CX outer H s E e BO) (λe' BO=>CX outer H s E e' BO) s'
def xC{sc:Scope}{n:Nat}{x:Str}(h:sc.names.lookup x=some .cell):∃c,(cellsFrom n sc.names []).lookup x=some c:=by
 have q:=W.cellsFrom_some sc.names n [] (.inl h);exact Option.isSome_iff_exists.mp q
def Fd{CX:Pj}{P:Program}{w:World}{K:W.Frag}{mg:V5}{base:Heap}{N ps:List Str}{qual:Str}{scope:Scope}{f:TD}{cd:Q2}{A:Around}{outer:List Env}{s s1:P1}{H:Hp}{E:XK}{us:List Q2}{vs:List V}(S:aK N ps scope)(hd:A.handled=none)(e0:Env0 P w K mg base A outer s H)(hl:vs.length=ps.length)(r:Vals vs us)(x:InCallC s s.heap.objs.size (bindL (envOfC qual scope s.heap.objs.size f cd).kindOf (ps.zip us) λ_=>none) (cellsFrom (s.heap.objs.size+1) scope.names []) (bindC (envOfC qual scope s.heap.objs.size f cd).kindOf (ps.zip us) λ_=>none) s1) :
  Inv (mQ CX P w K mg base N qual scope f cd A outer s H E) [] (start N vs) H s1:=by
 have qz:ps.length<=N.length:=by have:=congrArg length S.pre;rw[nU]at this;omega
 obtain⟨h1,tk,rfl,hk⟩:=x.done;have FN:∀b:TD,b∉(mQ CX P w K mg base N qual scope f cd A outer s H E).ex:=λb z=>QZY (show b∈([]:List TD) from z) Zs
 refine⟨⟨e0.mod,S.kind,rfl,rfl,aY _,λy z c h1 h2=>?_,λy hy=>?_,λy c _ h=>?_,λ_=>hd,Around.frames_deeper e0.frames,.inr ⟨rfl,rfl⟩,λb z=>QZY z (FN b),e0.bs,e0.bsz,λb _ _=>FN b,λb z=>QZY z (FN b),e0.funs,e0.frf⟩,
  rfl,e0.bare,Un.kept hk,⟨_,x.toInCall.ns,λi y v h1 h2 h3=>?_⟩,λy c h=>⟨_,x.cell y c h⟩,e0.hok.fresh (aY _),λy c h=>?_,λp hp=>QZY (show p∈([]:List (Addr × Obj)) from hp) Zs,e0.hok.kept hk,?_⟩
 ·exact name_of_addr x.apart (PySem.mem_of_lookup h1) (PySem.mem_of_lookup h2)
 ·have hy:scope.names.lookup y=some .cell∨scope.names.lookup y=some .free:=hy;rcases hy with hy|hy
  ·exact xC hy
  ·exact QZY rfl (S.nofree _ (PySem.mem_of_lookup hy))
 ·exact le_of_lt (x.above y c (PySem.mem_of_lookup h))
 ·have hi:i<vs.length:=by
   unfold start at h2;by_cases hi:i<vs.length
   ·exact hi
   ·rw[List.getElem?_append_right (by simpa using hi)]at h2;rw[List.getElem?_replicate]at h2;split at h2<;>cases h2
  have ha:vs[i]?=some v:=by
   unfold start at h2;rw[List.getElem?_append_left (by simpa using hi),fA]at h2
   cases e:vs[i]? with
   | none=>rw[e]at h2;cases h2
   | some a=>rw[e]at h2;cases h2;rfl
  obtain⟨u,hu,rv⟩:=r.get ha;have hp:ps[i]?=some y:=by
   rw[<- S.pre,List.getElem?_take_of_lt Zo];exact h1
  have OV:ps.Nodup:=by rw[<- S.pre];exact S.nd.sublist (take_sublist _ _)
  refine⟨u,rv,?_⟩;rcases S.par y (kI hp) with k|k
  ·exact .inl ⟨k,tM OV hp hu k⟩
  ·obtain⟨c,e⟩:=xC (n:=s.heap.objs.size+1) k;refine .inr ⟨.inl k,c,e,?_⟩;have q:=x.cell y c e;rw[tN OV hp hu (by show scope.names.lookup y≠_;rw[k];decide)]at q;exact q
 ·exact e0.hok.fresh (le_of_lt (x.above y c (PySem.mem_of_lookup h)))
 ·unfold start;show _=N.length;rw[mO,aS,List.length_replicate];omega
def Uf{CX:Pj}{P:Program}{w:World}{K:W.Frag}{mg:V5}{base:Heap}{k:Nat}{f:TD}{name qual:Str}{params:Arguments}{body:List Stmt}{scope:Scope}{dV kV doc pm cdv ct oc:Q2}{an od:Option TD}{osl:Array (Option Q2)}{N ps:List Str}{sp:Sp}(lk:K.lookup f=some ⟨oc,od,.func (W.fnOf name qual params body scope dV kV doc pm an cdv ct),osl⟩)(og:W.codeIn K cdv qual=true)(S:aK N ps scope)(len:∀vs H Q E,sp vs H Q E->vs.length=ps.length)(u3:∀(A:Around)(outer:List Env)(s:P1)(H:Hp)(vs:List V)(Q:VK)(E:XK),Room k (A.deeper (envOfC qual scope s.heap.objs.size f cdv))->sp vs H Q E →
   ∃t,PSs (mQ CX P w K mg base N qual scope f cdv A outer s H E) body t/\t {nx:=λ_ H'=>Q .non H',rt:=Q } (start N vs) H) :
  kK P w K mg base CX (k+1) f (W.fnOf name qual params body scope dV kV doc pm an cdv ct) ps sp:=by
 refine⟨len,λA outer s H args us vs Q E hr e0 hb r xy=>?_⟩;have hl:=len _ _ _ _ xy;have KX:K.In s.heap:=e0.mod.kin.keeps λb o e=>(e0.bs b o e).1
 have lim:s.heap.NoLimit:=e0.mod.nolimit.keeps λb o e=>(e0.bs b o e).1
 have FO:∀y∈ps.zip us,scope.names.lookup y.1=some .local∨(scope.names.lookup y.1=some .cell/\((cellsFrom (s.heap.objs.size+1) scope.names []).lookup y.1).isSome=true):=λ⟨n,v⟩ hy=>by
  rcases S.par n (of_mem_zip hy).1 with q|q
  ·exact .inl q
  ·exact .inr ⟨q,W.cellsFrom_some _ _ _ (.inl q)⟩
 refine codeAny_call_function hr.depth (KX _ _ lk) rfl S.co S.gen rfl (W.codeRec_of KX og) (hb _ _ _ _ ?_);refine wpAny_newFunctionEnv_cells S.kind FO λenv he s1 x=>?_;subst he;refine⟨lim.keeps x.toInCall.keep,codeAny_func ?_⟩;obtain⟨t,ht,hq⟩:=u3 A outer s H vs Q E (hr.deeper _) xy;have I:Inv (mQ CX P w K mg base N qual scope f cdv A outer s H E) [] (start N vs) H s1:=Fd S hr.hd e0 hl r x;refine wpAny_mono (ht [] s1 (start N vs) H _ I hq) (λfl s' hs=>?_) λe s' hs=>hs;have fin:∀ {σ':St}{H':Hp}{v:V}{u:Q2},Inv (mQ CX P w K mg base N qual scope f cdv A outer s H E) [] σ' H' s'->RelV v u->Q v H'->CE outer P w H s Q u s':=
  λ{σ' H' v u} J rv q=>⟨v,H',J.os,J.bare,J.base,J.hok,rv,q⟩
 cases fl with
 | ret u=>
  obtain⟨v,σ',H',J,rv,q⟩:=hs;exact fin J rv q
 | next=>
  obtain⟨σ',H',J,q⟩:=hs;exact fin (v:=V.non) (u:=Value.none) J rfl q
 | brk=>
  obtain⟨_,_,_,q⟩:=hs;exact False.elim q
 | cont=>
  obtain⟨_,_,_,q⟩:=hs;exact False.elim q
section
variable {X:Cx}{x:Str}{p pos:Pos}{e:Expr}{es:List Expr}{t:TA}{id T:String}{r:List V->Hp->VK->Prop}
def tCB(r:List V->Hp->VK->Prop)(t:TA):TE:=λσ H Q=>t σ H λvs H1=>r vs H1 Q
def xD(hc:CallR X (.builtin id) r)(hg:Gl X x)(hm:X.mg x=none)(hv:bootBuiltins x=some (.builtin id))(ha:PA X (e::es) t)(hn:x≠"__name__":=by decide)(M0:(x==("__debug__":Str))=false:=by decide)(he:starEach (e::es) X.env=(false,eval e X.env)::starEach es X.env:=by rfl)(qz:(backTo pos (starEach es X.env)).any (·.1)=false:=by rfl):PE X (.Call (.Name x p) (e::es) [] pos) (tCB r t):=by
 intro pins s σ H Q I h;refine wpAny_Call_Name_kw (nW I hg hm hv ?_ hn M0);exact PyProof.Rows.callWith_builtin1 (cA (ha pos pins s σ H _ I h) λus s1 ⟨vs,H1,I1,r1,q1⟩=>hc pins s1 σ H1 vs us Q I1 r1 q1) he qz
def Fe(hc:CallR X (.type T) r)(hg:Gl X x)(hm:X.mg x=none)(hv:bootBuiltins x=some (.type T))(ha:PA X (e::es) t)(hn:x≠"__name__":=by decide)(M0:(x==("__debug__":Str))=false:=by decide)(he:starEach (e::es) X.env=(false,eval e X.env)::starEach es X.env:=by rfl)(qz:(backTo pos (starEach es X.env)).any (·.1)=false:=by rfl):PE X (.Call (.Name x p) (e::es) [] pos) (tCB r t):=by
 intro pins s σ H Q I h;refine wpAny_Call_Name_kw (nW I hg hm hv ?_ hn M0);exact PyProof.Rows.callWith_type1 (cA (ha pos pins s σ H _ I h) λus s1 ⟨vs,H1,I1,r1,q1⟩=>hc pins s1 σ H1 vs us Q I1 r1 q1) he qz
end
end L2
namespace HT
open PySem PyProof.Rows
section
variable {prog:Program}{w:World}{A:Around}{E:XV}{s:P1}
def cat_tup{t b:TD}{vs ws:List Q2}{Q:XV}(ht:IsTup s.heap t vs.toArray)(hb:IsTup s.heap b ws.toArray)(hv:vs≠[])(h1:ws=[]->Q (.ref t) s)(h2:ws≠[]->Q (.ref s.heap.objs.size) {s with heap:=s.heap.push {cls:=.type "tuple",data:=.seq (vs++ws).toArray } })(hsz:vs.length+ws.length<=sizeLine):wpAny (model prog w) A (binaryOp .Add (.ref t) (.ref b)) Q E s:=by
 obtain⟨⟨cls,dd,data,sl⟩,ho,hc,n,hd⟩:=id ht;obtain⟨⟨LF,IW,data2,IY⟩,oj,yu,n2,hd2⟩:=id hb;simp only at hc hd yu hd2;subst hc hd yu hd2;have e:vs.toArray++ws.toArray=(vs++ws).toArray:=by simp
 by_cases hw:ws=[]
 ·exact concat_meets ⟨_,ho,rfl⟩ ⟨_,oj,rfl⟩ noFill_tuple_add seq_tuple_add PySem.F.slot_tuple_add PySem.F.entry_tuple_add (PySem.F.args_tuple_add_2 _ _)
   (tuple_addW1 t b vs.toArray ws.toArray n n2 dd IW sl IY (by simpa using hv) (by simp[hw])) ⟨ho,oj,h1 hw⟩
 ·refine concat_meets ⟨_,ho,rfl⟩ ⟨_,oj,rfl⟩ noFill_tuple_add seq_tuple_add PySem.F.slot_tuple_add PySem.F.entry_tuple_add (PySem.F.args_tuple_add_2 _ _)
   (tuple_addW2 t b vs.toArray ws.toArray n n2 dd IW sl IY (by simpa using hv) (by simpa using hw) (by rw[eB,eB];exact hsz)) ⟨ho,oj,?_⟩
  rw[e];exact h2 hw
def sIx(n d:Nat):Option Int->Nat
 | none=>d
 | some v=>if v<0 then (v+(n:Int)).toNat else min v.toNat n
def sIx_none(n d:Nat):sIx n d none=d:=rfl
def sIx_nat(n d k:Nat):sIx n d (some (k:Int))=min k n:=by
 show(if (k:Int)<0 then ((k:Int)+(n:Int)).toNat else min (k:Int).toNat n)=min k n;rw[QZZ Zo,Int.toNat_natCast]
def Wv(n d:Nat)(hd:d<=n)(o:Option Int):sIx n d o<=n:=by
 cases o with
 | none=>exact hd
 | some v=>
  show(if v<0 then (v+(n:Int)).toNat else min v.toNat n)<=n;by_cases hv:v<0
  ·rw[P0 hv];omega
  ·rw[QZZ hv];exact min_le_right _ _
def By(v:Int)(n d:Nat):(if v<0 then max (v+(n:Int)) 0 else min v (n:Int))=((sIx n d (some v):Nat):Int):=by
 show(if v<0 then max (v+(n:Int)) 0 else min v (n:Int))=(((if v<0 then (v+(n:Int)).toNat else min v.toNat n):Nat):Int);by_cases hv:v<0
 ·simp only [P0 hv];omega
 ·simp only [QZZ hv];omega
def zZ(lo hi:Option Int)(n:Nat):Builtin.Slice.sliceAdjust lo hi 1 (n:Int)=(((sIx n 0 lo:Nat):Int),((sIx n n hi:Nat):Int)):=by
 have h1:¬ ((1:Int)<0):=by omega
 unfold Builtin.Slice.sliceAdjust;simp only [h1,if_false];refine Prod.ext ?_ ?_
 ·cases lo with
  | none=>rfl
  | some v=>exact By v n 0
 ·cases hi with
  | none=>rfl
  | some v=>exact By v n n
def Aa(i j:Nat):Builtin.Slice.slicePlaces (i:Int) (j:Int) 1=j-i:=by
 unfold Builtin.Slice.slicePlaces;have h1:(1:Int)>0:=by omega
 simp only [h1,if_true,Int.ediv_one];split<;>omega
def qI{v:Q2}{o:Option Int}{Q:Option Int->P1->Prop}(p:IsPart v o)(h:Q o s):wpAny (model prog w) A (Builtin.Slice.slicePartIndex v) Q E s:=by
 cases p with
 | none=>exact slicePart_none h
 | int i t=>exact slicePart_int h
def sliceApplied_gen{sl:TD}{vl vu:Q2}{lo hi:Option Int}{n:Nat}{Q:Int×Int×Nat->P1->Prop}(hs:s.heap.IsSliceOf sl vl vu .none)(pl:IsPart vl lo)(pu:IsPart vu hi)(h:Q (((sIx n 0 lo:Nat):Int),1,sIx n n hi-sIx n 0 lo) s):wpAny (model prog w) A (Builtin.Slice.sliceApplied (.ref sl) (pure (n:Int))) Q E s:=by
 obtain⟨os,AS,DV,FP⟩:=id hs;unfold Builtin.Slice.sliceApplied Builtin.Slice.sliceFields;refine V4 (V4 (wpAny_field AS FP (x:=vl) rfl (V4 (wpAny_field AS FP (x:=vu) rfl (V4 (wpAny_field AS FP (x:=.none) rfl (V3 ?_)))))));refine V4 (slicePart_none ?_);show wpAny _ _ (if ((1:Int)==0)=true then _ else _) _ _ s;rw[QZZ Zd];refine V4 (qI pl (V4 (qI pu (V4 (V3 ?_)))));show wpAny _ _ (match Builtin.Slice.sliceAdjust lo hi 1 (n:Int) with|(lo,hi)=>pure (lo,(1:Int),Builtin.Slice.slicePlaces lo hi 1)) _ _ s;rw[zZ lo hi n];show wpAny _ _ (pure (((sIx n 0 lo:Nat):Int),(1:Int),Builtin.Slice.slicePlaces ((sIx n 0 lo:Nat):Int) ((sIx n n hi:Nat):Int) 1)) _ _ s;rw[Aa];exact V3 h
def Iz(xs:Array Value)(i k:Nat):((List.range k).filterMap λ(m:Nat)=>xs[((i:Int)+(m:Int)*1).toNat]?).toArray=((xs.toList.drop i).take k).toArray:=by
 have e:(λ(m:Nat)=>xs[((i:Int)+(m:Int)*1).toNat]?)=λm=>xs[i+m]?:=by
  funext m
  have:((i:Int)+(m:Int)*1).toNat=i+m:=by omega
  rw[this]
 rw[e];have:=pick_run xs i k;rw[filterMap_map]at this;have e2:((λx=>xs[x]?)∘λx=>i+x)=λm=>xs[i+m]?:=rfl
 rw[e2]at this;rw[this]
def getItem_tuple_cut{t sl:TD}{items:Array Value}{vl vu:Q2}{lo hi:Option Int}{Q:XV}(ht:IsTup s.heap t items)(hs:s.heap.IsSliceOf sl vl vu .none)(pl:IsPart vl lo)(pu:IsPart vu hi)(hw:¬ (sIx items.size 0 lo=0/\sIx items.size items.size hi=items.size))(h:Q (.ref s.heap.objs.size) {s with heap:=s.heap.push {cls:=.type "tuple",data:=.seq ((items.toList.drop (sIx items.size 0 lo)).take (sIx items.size items.size hi-sIx items.size 0 lo)).toArray } })(hsz:items.size<=sizeLine):wpAny (model prog w) A (getItem (.ref t) (.ref sl)) Q E s:=by
 have uf:sizeOk (.seq ((items.toList.drop (sIx items.size 0 lo)).take (sIx items.size items.size hi-sIx items.size 0 lo)).toArray):=by
  show((items.toList.drop (sIx items.size 0 lo)).take (sIx items.size items.size hi-sIx items.size 0 lo)).toArray.size<=sizeLine;rw[eB,nU,length_drop,Array.length_toList];omega
 have hj:sIx items.size items.size hi<=items.size:=Wv _ _ (aY _) hi;obtain⟨os,AS,DV,FP⟩:=id hs;have LG:s.TypeIs (.ref sl) "slice":=⟨os,AS,DV⟩;unfold getItem;try with_reducible refine wpAny_holding ?_
 first|refine V4 (V3 ?_)|skip
 refine V4 (wpAny_sequenceKey ht.typeIs Zd ?_);refine V4 (wpAny_callSpecial?_slot (name:=Str.ofString "__getitem__") ht.typeIs PyProof.Rows.slot_tuple_getitem
  (wpAny_call_entry PyProof.Rows.slot_tuple_getitem ht.typeIs entry_tuple_getitem ?_ (args_tuple_getitem _ _)))
 show wpAny _ _ (Builtin.Tuple.tupleItemsOf (.ref t)>>=_) _ _ s;refine V4 (tupleItemsOf_ ht ?_);refine V4 (wpAny_typeOf LG ?_);rw[P0 Zd];refine V4 (sliceApplied_gen hs pl pu ?_);have rb:¬ ((((sIx items.size 0 lo:Nat):Int)==0&&(1:Int)==1&&(sIx items.size items.size hi-sIx items.size 0 lo)==items.size)=true):=by
  intro q;rw[Bool.and_eq_true,Bool.and_eq_true]at q;have q1:((sIx items.size 0 lo:Nat):Int)=0:=eq_of_beq q.1.1;have q2:sIx items.size items.size hi-sIx items.size 0 lo=items.size:=eq_of_beq q.2;exact hw ⟨Zo,Zo⟩
 show wpAny _ _ (if (((sIx items.size 0 lo:Nat):Int)==0&&(1:Int)==1&&(sIx items.size items.size hi-sIx items.size 0 lo)==items.size)=true then _ else _) _ _ s;rw[QZZ rb,Iz];first
  | exact V4 (m:=Builtin.Tuple.tupleExact _) (wpAny_newObj_type (V3 ⟨_,rfl,V3 h⟩) uf)
  | exact V4 (m:=Builtin.Tuple.tupleExact _) (wpAny_newObj_type (V4 (V3 (V3 ⟨_,rfl,V3 h⟩))) uf)
  | exact V4 (V4 (m:=Builtin.Tuple.tupleExact _) (wpAny_newObj_type (V3 (V3 ⟨_,rfl,V3 h⟩)) uf))
  | exact V4 (V4 (m:=Builtin.Tuple.tupleExact _) (wpAny_newObj_type (V3 ⟨_,rfl,V3 h⟩) uf))
end
end HT
namespace L2
open PySem PySem.Spec PyProof.Rows
abbrev TO:=St->Hp->(Option Int->Hp->Prop)->Prop
def PO(X:Cx)(e:Option Expr)(t:TO):Prop:=
 ∀(pins:ZB)(s:P1)(σ:St)(H:Hp)(Q:Option Int->Hp->Prop),Inv X pins σ H s->t σ H Q →
  wpAny (model X.prog X.w) X.A (evalPart e X.env) (λu s'=>∃o H',Inv X pins σ H' s'/\IsPart u o/\Q o H') X.xe s
def Bz:TO:=λ_ H Q=>Q none H
def Ja(t:TE):TO:=λσ H Q=>t σ H λx H1=>∃i,x=.int i/\Q (some i) H1
def qJ{ns:List Int}:∀ {us:List Q2},Vals (ns.map V.int) us->IntsAre us ns:=by
 induction ns with
 | nil=>intro us r;rw[map_nil]at r;cases r;exact .nil
 | cons n ns ih=>
  intro us r;rw[map_cons]at r;cases r with
  | cons r1 r2=>
   obtain⟨t,e⟩:=r1;subst e;exact .cons n t (ih r2)
section
variable {X:Cx}{e:Expr}{te:TE}{lo hi:Option Expr}{tl th:TO}{pos p2:Pos}
def Qk:PO X none Bz:=by
 intro pins s σ H Q I h;rw[evalPart_none];exact V3 ⟨none,H,I,.none,h⟩
def Ql(h:PE X e te):PO X (some e) (Ja te):=by
 intro pins s σ H Q I hw;rw[evalPart_some];refine cA (h pins s σ H _ I hw) ?_;rintro u s1 ⟨x,H1,I1,r1,q1⟩
 obtain⟨i,rfl,q⟩:=q1;obtain⟨t,rfl⟩:=r1;exact⟨some i,H1,I1,.int i t,q⟩
def SlR(X:Cx)(r:V->Option Int->Option Int->Hp->VK->Prop):Prop:=
 ∀(pins:ZB)(s:P1)(σ:St)(H:Hp)(x:V)(v vl vu:Q2)(lo hi:Option Int)(sl:TD)(Q:VK),Inv X pins σ H s->RelV x v->s.heap.IsSliceOf sl vl vu .none->IsPart vl lo->IsPart vu hi->r x lo hi H Q →
  ∃T id,typeLookup (.type T) "__getitem__"=pure (some (.builtin id))/\s.TypeIs v T/\wpAny (model X.prog X.w) X.A (getItem v (.ref sl)) (EP X pins σ Q) X.xe s
def tSl(r:V->Option Int->Option Int->Hp->VK->Prop)(te:TE)(tl th:TO):TE:=λσ H Q=>te σ H λx H1=>tl σ H1 λl H2=>th σ H2 λu H3=>r x l u H3 Q
def Jb{r:V->Option Int->Option Int->Hp->VK->Prop}(hr:SlR X r)(he:PE X e te)(hl:PO X lo tl)(hu:PO X hi th):PE X (.Subscript e (.Slice lo hi none p2) pos) (tSl r te tl th):=by
 intro pins s σ H Q I h;refine Subscript_ (cA (he pins s σ H _ I h) ?_);rintro v s1 ⟨x,H1,I1,r1,q1⟩;refine wpAny_Slice (cA (hl pins s1 σ H1 _ I1 q1) λvl s2 ⟨l,H2,I2,pl,q2⟩=>cA (hu pins s2 σ H2 _ I2 q2) ?_);rintro vu s3 ⟨u,H3,I3,pu,q3⟩;rw[evalPart_none];refine V3 ?_;have I4:Inv X pins σ H3 {s3 with heap:=s3.heap.push {cls:=.type "slice",data:=.fields #[vl,vu,.none] } }:=I3.kept (t':=s3.toks) λb ob q=>eG _ q
 obtain⟨T,id,hT,ht,hg⟩:=hr pins {s3 with heap:=s3.heap.push {cls:=.type "slice",data:=.fields #[vl,vu,.none] } } σ H3 x v vl vu l u s3.heap.objs.size Q I4 r1 (Heap.IsSliceOf.new ..) pl pu q3;show wpAny (model X.prog X.w) X.A (subscriptTail e (.Slice lo hi none p2) v (.ref s3.heap.objs.size)) (EP X pins σ Q) X.xe {s3 with heap:=s3.heap.push {cls:=.type "slice",data:=.fields #[vl,vu,.none] } };exact tail_any (ops:=[.ref s3.heap.objs.size,v]) ht hT hg (by with_unfolding_all rfl)
def Ff(xs:List V)(lo hi:Option Int):List V:=(xs.drop (HT.sIx xs.length 0 lo)).take (HT.sIx xs.length xs.length hi-HT.sIx xs.length 0 lo)
def pC(xs:List V)(lo hi:Option Int):(Ff xs lo hi).length<=xs.length:=by
 unfold Ff;rw[nU,length_drop];omega
def aB4(K:W.Frag):V->Option Int->Option Int->Hp->VK->Prop:=λx lo hi H Q=>∃a xs,x=.ref a/\SqT K H a xs ∧
 ¬ (HT.sIx xs.length 0 lo=0/\HT.sIx xs.length xs.length hi=xs.length)/\∀p,H p=none->Q (.ref p) (aI H p (.tup (Ff xs lo hi)))
def Ww:SlR X (aB4 X.K):=by
 intro pins s σ H x v vl vu lo hi sl Q I rx hs pl pu h;obtain⟨a,xs,rfl,hx,hw,q⟩:=h;cases rx;obtain⟨its,r,ht,hz⟩:=I.tuple hx;have hlen:its.toArray.size=xs.length:=by rw[eB];exact r.length.symm
 refine⟨"tuple",_,PyProof.Rows.slot_tuple_getitem.lookup,ht.typeIs,?_⟩;refine HT.getItem_tuple_cut ht hs pl pu (by rw[hlen];exact hw) ?_ (by rw[hlen];exact hz);rw[hlen];refine⟨.ref s.heap.objs.size,_,I.laid (t':=s.toks) (o:=.tup (Ff xs lo hi)) (λb ob q=>eG _ q) (aY _) ?_,rfl,q _ (I.hok.fresh (aY _))⟩;exact⟨eI (pC xs lo hi) hz,_,(r.drop (HT.sIx xs.length 0 lo)).take (HT.sIx xs.length xs.length hi-HT.sIx xs.length 0 lo),IsTup.new _ _⟩
def aAK(K:W.Frag):R2:=λx y H Q=>∃a b xs ys,x=.ref a/\y=.ref b/\SqT K H a xs/\SqT K H b ys/\xs≠[]/\xs.length+ys.length<=sizeLine ∧
 (ys=[]->Q (.ref a) H)/\(ys≠[]->∀p,H p=none->Q (.ref p) (aI H p (.tup (xs++ys))))
def Vals.nil_iff{xs:List V}{us:List Q2}(r:Vals xs us):us=[]↔xs=[]:=by
 cases r with
 | nil=>simp
 | cons _ _=>simp
def Qm:OpR X (binaryOp .Add) (aAK X.K):=by
 intro pins s σ H x y v u Q I rx ry h;obtain⟨a,b,xs,ys,rfl,rfl,ha,hb,hx,hz,q1,q2⟩:=h;cases rx;cases ry;obtain⟨its,r1,p1,_⟩:=I.tuple ha;obtain⟨a9,r2,p2,_⟩:=I.tuple hb;refine HT.cat_tup p1 p2 (λz=>hx (r1.nil_iff.mp z)) (λz=>⟨.ref a,H,I,rfl,q1 (r2.nil_iff.mp z)⟩) (λz=>?_) (by rw[<- r1.length,<- r2.length];exact hz);refine⟨.ref s.heap.objs.size,_,I.laid (t':=s.toks) (o:=.tup (xs++ys)) (λb ob q=>eG _ q) (aY _) ?_,rfl,q2 (λw=>z (r2.nil_iff.mpr w)) _ (I.hok.fresh (aY _))⟩;exact⟨by rw[mO];exact hz,_,r1.append r2,IsTup.new _ _⟩
end
def Wx(n:Nat)(i:Int):Option Nat:=if 0<=i then (if i<n then some i.toNat else none) else if -(n:Int)<=i then some (i+n).toNat else none
def mU{α:Type}(xs:List α)(i:Int):Option α:=(Wx xs.length i).bind λj=>xs[j]?
def Ca{n:Nat}{i:Int}{j:Nat}(h:Wx n i=some j):seqIndex? i n=some j/\j<n/\-(n:Int)<=i/\i<n:=by
 unfold Wx at h;by_cases h0:0<=i
 ·rw[P0 h0]at h;by_cases h1:i<n
  ·rw[P0 h1]at h;have e:i.toNat=j:=Option.some.inj h;exact⟨by rw[seqIndex_of h0 h1,e],Zo,Zo,h1⟩
  ·rw[QZZ h1]at h;cases h
 ·rw[QZZ h0]at h;by_cases h1:-(n:Int)<=i
  ·rw[P0 h1]at h;have e:(i+n).toNat=j:=Option.some.inj h;exact⟨by rw[seqIndex_neg Zo h1,e],Zo,h1,Zo⟩
  ·rw[QZZ h1]at h;cases h
def vA{α:Type}{xs:List α}{i:Int}{v:α}(h:mU xs i=some v):∃j,seqIndex? i xs.length=some j/\xs[j]?=some v/\j<xs.length/\-(xs.length:Int)<=i/\i<xs.length:=by
 unfold mU at h;cases e:Wx xs.length i with
 | none=>rw[e]at h;cases h
 | some j=>
  rw[e]at h;obtain⟨h1,h2,h3,h4⟩:=Ca e;exact⟨j,h1,h,h2,h3,h4⟩
def iC{α:Type}{xs:List α}{j:Nat}{v:α}(h:xs[j]?=some v):mU xs (j:Int)=some v:=by
 have hj:j<xs.length:=(Zgs.mp h).1;have e:Wx xs.length (j:Int)=some j:=by
  unfold Wx;rw[P0 Zo,P0 Zo];simp
 unfold mU;rw[e];exact h
def vB(b:Expr):Prop:=∀o i,subscripted b false o i=operate [o,i] (getItem o i)
def IxR(X:Cx)(r:R2):Prop:=
 ∀(value slice:Expr)(pins:ZB)(s:P1)(σ:St)(H:Hp)(x y:V)(v u:Q2)(Q:VK),Inv X pins σ H s->RelV x v->RelV y u->r x y H Q →
  subscripted slice false v u=operate [v,u] (getItem v u)->wpAny (model X.prog X.w) X.A (subscriptTail value slice v u) (EP X pins σ Q) X.xe s
def MtR(X:Cx)(id:String)(r:V->List V->Hp->VK->Prop):Prop:=
 ∀(pins:ZB)(s:P1)(σ:St)(H:Hp)(x:V)(xs:List V)(v:Q2)(us:List Q2)(Q:VK),Inv X pins σ H s->RelV x v->Vals xs us->r x xs H Q →
  wpAny (model X.prog X.w) X.A (call (.builtin id) (v::us)) (EP X pins σ Q) X.xe s
section
variable {X:Cx}{a b:Expr}{ta tb:TE}{pos:Pos}
def aAM{r:R2}(hr:IxR X r)(ha:PE X a ta)(hb:PE X b tb)(hs:vB b):PE X (.Subscript a b pos) (sJ r ta tb):=by
 intro pins s σ H Q I h;exact Subscript_ (Wi ha hb I h λv u s2 x y H2 I2 rx ry q=>hr a b pins s2 σ H2 x y v u Q I2 rx ry q (hs _ _))
def aB5(K:W.Frag):R2:=λx y H Q=>∃p xs i v,x=.ref p/\y=.int i/\SqL K H p xs/\mU xs i=some v/\Q v H
def aB6(K:W.Frag):R2:=λx y H Q=>∃p xs i v,x=.ref p/\y=.int i/\SqT K H p xs/\mU xs i=some v/\Q v H
def aB7:R2:=λx y H Q=>∃z i c,x=.str z/\y=.int i/\z.length<=sizeLine/\mU z.cps.toList i=some c/\Q (.str ⟨#[c]⟩) H
def Qn:IxR X (aB5 X.K):=by
 intro value slice pins s σ H x y v u Q I rx ry h hs;obtain⟨p,xs,i,z,rfl,rfl,hq,he,q⟩:=h;cases rx;obtain⟨t,rfl⟩:=ry;obtain⟨its,r,pl,hz⟩:=I.list hq;obtain⟨j,h1,h2,h3,h4,h5⟩:=vA he;obtain⟨w,ew,nq⟩:=r.get h2;have hl:=r.length;have hn:=nY;have fin:EP X pins σ Q w s:=⟨z,H,I,nq,q⟩;by_cases h0:0<=i
 ·have hj:i.toNat=j:=by
   rw[seqIndex_of h0 h5]at h1;exact Option.some.inj h1
  exact item_listR pl.isList h0 Zo (by rw[hj];simpa using ew) fin hs
 ·have hj:(i+(its.toArray.size:Int)).toNat=j:=by
   rw[seqIndex_neg Zo h4]at h1;rw[eB,<- hl];exact Option.some.inj h1
  exact subscriptTail_builtinR (x:=w) pl.isList.typeIs slot_list_getitem.lookup
   (wpAny_getItem_list_neg (Q:=λr s'=>r=w/\EP X pins σ Q r s') pl.isList Zo (by rw[eB]<;>omega) Zo (by rw[hj];simpa using ew) ⟨rfl,fin⟩) hs
def Wy:IxR X (aB6 X.K):=by
 intro value slice pins s σ H x y v u Q I rx ry h hs;obtain⟨p,xs,i,z,rfl,rfl,hq,he,q⟩:=h;cases rx;obtain⟨t,rfl⟩:=ry;obtain⟨its,r,pl,hz⟩:=I.tuple hq;obtain⟨j,h1,h2,h3,h4,h5⟩:=vA he;obtain⟨w,ew,nq⟩:=r.get h2;have hl:=r.length;have hn:=nY;have fin:EP X pins σ Q w s:=⟨z,H,I,nq,q⟩;exact subscriptTail_builtinR (x:=w) pl.typeIs slot_tuple_getitem.lookup
  (getItem_tuple (j:=j) (Q:=λr s'=>r=w/\EP X pins σ Q r s') pl Zo Zo (by rw[eB,<- hl];exact h1) (by simpa using ew) ⟨rfl,fin⟩) hs
def Wz:IxR X aB7:=by
 intro value slice pins s σ H x y v u Q I rx ry h hs;obtain⟨z,i,c,rfl,rfl,hz,he,q⟩:=h;obtain⟨t,rfl⟩:=rx;obtain⟨t',rfl⟩:=ry;obtain⟨j,h1,h2,h3,h4,h5⟩:=vA he;have hl:z.cps.toList.length=z.length:=by simp[Str.length]
 rw[hl]at h1 h4 h5;have hn:=nY;exact tail_any (typeIs_str s z t) slot_str_getitem.lookup (getItem_str (c:=c) (by
  have e1:decide (i < -(2 ^ 63:Int))=false:=T0 Zo;have e2:decide (i ≥ 2 ^ 63)=false:=T0 Zo;rw[e1,e2,Bool.or_false]) (by rw[h1];simpa using h2) ⟨.str ⟨#[c]⟩,H,I.tok _,⟨_,rfl⟩,q⟩) hs
def Ab(its:List Q2)(n j:Nat)(u:Q2):Obj.mapSeq (·.setIfInBounds j u) {cls:=.type "list",data:=.seq its.toArray n }={cls:=.type "list",data:=.seq (its.set j u).toArray n }:=by
 simp[Obj.mapSeq]
def Inv.lst{pins:ZB}{σ:St}{H:Hp}{s:P1}{p:TD}{xs:List V}(I:Inv X pins σ H s)(h:H p=some (.lst xs)) :
  ∃(its:List Q2)(n:Nat),Vals xs its/\s.heap.get? p=some {cls:=.type "list",data:=.seq its.toArray n }/\xs.length<=sizeLine:=by
 obtain⟨z,its,n,r,e⟩:=I.hok p _ h;exact⟨its,n,r,e,z⟩
def Inv.lstUpd{pins:ZB}{σ:St}{H:Hp}{s:P1}{p:TD}{xs ys:List V}{its its':List Q2}{n n':Nat}{f:Obj->Obj}(I:Inv X pins σ H s)(h:H p=some (.lst xs))(ho:s.heap.get? p=some {cls:=.type "list",data:=.seq its.toArray n })(hf:f {cls:=.type "list",data:=.seq its.toArray n }={cls:=.type "list",data:=.seq its'.toArray n' })(r:Vals ys its')(hz:ys.length<=sizeLine)(t:Nat) :
  Inv X pins σ (aI H p (.lst ys)) {s with heap:=s.heap.update p f,toks:=t }:=by
 have e:(s.heap.update p f).get? p=some {cls:=.type "list",data:=.seq its'.toArray n' }:=by
  rw[Heap.get?_update_self f ho (by rw[hf]<;>rfl),hf]
 refine I.write (x:=p) (e:=p) (by rw[h];trivial) (.inl rfl) (λb u hb q=>(Heap.get?_update_other _ _ (Ne.symm hb)).trans q) ⟨_,e⟩ ?_;exact⟨hz,its',n',r,e⟩
def Ug:V->V->V->Hp->(Hp->Prop)->Prop:=λo i v H Q=>∃p xs k j,o=.ref p/\i=.int k/\H p=some (.lst xs)/\Wx xs.length k=some j/\Q (aI H p (.lst (xs.set j v)))
def Jc:Ps X Ug:=by
 intro pins s σ H o i v ov iv u Q I ro ri rv h;obtain⟨p,xs,k,j,rfl,rfl,hp,hj,q⟩:=h;cases ro;obtain⟨t,rfl⟩:=ri;obtain⟨its,n,r,ho,hz⟩:=I.lst hp;obtain⟨h1,h2,h3,h4⟩:=Ca hj;have hl:=r.length;have hn:=nY;have I':Inv X pins σ (aI H p (.lst (xs.set j v))) {s with heap:=s.heap.update p (Obj.mapSeq (·.setIfInBounds j u)) }:=
  I.lstUpd hp ho (Ab its n j u) (r.set rv j) (by rw[length_set];exact hz) s.toks
 by_cases h0:0<=k
 ·have hk:k.toNat=j:=by
   rw[seqIndex_of h0 h4]at h1;exact Option.some.inj h1
  exact W.ki_setAt ho h0 Zo (by rw[eB,<- hl];exact h4) (by rw[hk];exact⟨_,I',q⟩)
 ·have hk:(k+(its.toArray.size:Int)).toNat=j:=by
   rw[seqIndex_neg Zo h3]at h1;rw[eB,<- hl];exact Option.some.inj h1
  exact W.ki_setBack ho Zo (by rw[eB,<- hl];exact h3) Zo (by rw[hk];exact⟨_,I',q⟩)
def vC(lo hi:Option Int)(n:Nat):(sliceBounds lo hi none n).1=((HT.sIx n 0 lo:Nat):Int)/\(sliceBounds lo hi none n).2.1=((HT.sIx n n hi:Nat):Int)/\(sliceBounds lo hi none n).2.2=1:=by
 refine⟨?_,?_,rfl⟩
 ·cases lo with
  | none=>simp[sliceBounds,HT.sIx]
  | some i=>
   simp only [sliceBounds,HT.sIx,Option.getD_none,show(1:Int)>0 by decide,if_true];by_cases h:i<0
   ·simp only [h,if_true]<;>omega
   ·simp only [h,if_false]<;>omega
 ·cases hi with
  | none=>simp[sliceBounds,HT.sIx]
  | some i=>
   simp only [sliceBounds,HT.sIx,Option.getD_none,show(1:Int)>0 by decide,if_true];by_cases h:i<0
   ·simp only [h,if_true]<;>omega
   ·simp only [h,if_false]<;>omega
def sM(its:List Q2)(lo hi:Option Int):slicePick its.toArray lo hi none=((its.drop (HT.sIx its.length 0 lo)).take (HT.sIx its.length its.length hi-HT.sIx its.length 0 lo)).toArray:=by
 obtain⟨h1,h2,h3⟩:=vC lo hi its.toArray.size;unfold slicePick;rw[h1,h2,h3];simp only [sliceRange_one,pick_run,eB]<;>rfl
def aB8(K:W.Frag):V->Option Int->Option Int->Hp->VK->Prop:=λx lo hi H Q=>∃a xs,x=.ref a/\SqL K H a xs/\∀p,H p=none->Q (.ref p) (aI H p (.lst (Ff xs lo hi)))
def Qo:SlR X (aB8 X.K):=by
 intro pins s σ H x v vl vu lo hi sl Q I rx hs pl pu h;obtain⟨a,xs,rfl,hx,q⟩:=h;cases rx;obtain⟨its,r,ht,hz⟩:=I.list hx;have hlen:=r.length;refine⟨"list",_,slot_list_getitem.lookup,ht.isList.typeIs,?_⟩;refine wpAny_getItem_list_slice ht.isList hs pl pu .none Zs ?_ (by rw[eB]<;>omega);rw[sM,<- hlen];refine⟨.ref s.heap.objs.size,_,I.laid (t':=s.toks) (o:=.lst (Ff xs lo hi)) (λb ob q=>eG _ q) (aY _) ?_,rfl,q _ (I.hok.fresh (aY _))⟩;exact⟨eI (pC xs lo hi) hz,_,0,(r.drop (HT.sIx xs.length 0 lo)).take (HT.sIx xs.length xs.length hi-HT.sIx xs.length 0 lo),TW _ rfl⟩
def eW:V->Bool
 | .non=>true
 | .bl _=>true
 | .int _=>true
 | .str _=>true
 | _=>false
def zP:V->V->Bool
 | .non,.non=>true
 | .bl a,.bl b=>a==b
 | .bl a,.int b=>(if a then 1 else 0)==b
 | .int a,.bl b=>a==(if b then 1 else 0)
 | .int a,.int b=>a==b
 | .str a,.str b=>a==b
 | _,_=>false
def qK{A:Around}{s:P1}{y x:V}{u v:Q2}(ry:RelV y u)(rx:RelV x v)(fy:eW y=true)(fx:eW x=true):SeqAt.EqAt A s u v (zP y x):=by
 cases y with
 | non=>
  cases ry
  cases x with
  | non=>cases rx;exact SeqAt.EqAt.same _
  | bl b=>cases rx;exact SeqAt.EqAt.none_bool b
  | int b=>obtain⟨t,rfl⟩:=rx;exact SeqAt.EqAt.none_int b t
  | str b=>obtain⟨t,rfl⟩:=rx;exact SeqAt.EqAt.none_str b t
  | _=>exact QZY (show false=true from fx) V2
 | bl a=>
  cases ry
  cases x with
  | non=>cases rx;exact SeqAt.EqAt.bool_none a
  | bl b=>cases rx;exact SeqAt.EqAt.bool_bool a b
  | int b=>obtain⟨t,rfl⟩:=rx;exact SeqAt.EqAt.bool_int a b t
  | str b=>obtain⟨t,rfl⟩:=rx;exact SeqAt.EqAt.bool_str a b t
  | _=>exact QZY (show false=true from fx) V2
 | int a=>
  obtain⟨t',rfl⟩:=ry
  cases x with
  | non=>cases rx;exact SeqAt.EqAt.int_none a t'
  | bl b=>cases rx;exact SeqAt.EqAt.int_bool a t' b
  | int b=>obtain⟨t,rfl⟩:=rx;exact SeqAt.EqAt.int_int a t' b t
  | str b=>obtain⟨t,rfl⟩:=rx;exact SeqAt.EqAt.int_str a t' b t
  | _=>exact QZY (show false=true from fx) V2
 | str a=>
  obtain⟨t',rfl⟩:=ry
  cases x with
  | non=>cases rx;exact SeqAt.EqAt.str_none a t'
  | bl b=>cases rx;exact SeqAt.EqAt.str_bool a t' b
  | int b=>obtain⟨t,rfl⟩:=rx;exact SeqAt.EqAt.str_int a t' b t
  | str b=>obtain⟨t,rfl⟩:=rx;exact SeqAt.EqAt.str_str a t' b t
  | _=>exact QZY (show false=true from fx) V2
 | _=>exact QZY (show false=true from fy) V2
def Ac(x:V)(u:Q2):Bool:=match u with
 | .none=>zP .non x
 | .bool b=>zP (.bl b) x
 | .int i _=>zP (.int i) x
 | .str z _=>zP (.str z) x
 | _=>false
def Jd{x y:V}{u:Q2}(r:RelV y u)(f:eW y=true):Ac x u=zP y x:=by
 cases y with
 | non=>cases r;rfl
 | bl b=>cases r;rfl
 | int i=>obtain⟨t,rfl⟩:=r;rfl
 | str z=>obtain⟨t,rfl⟩:=r;rfl
 | _=>exact QZY (show false=true from f) V2
def mV{x:V}:∀ {xs:List V}{us:List Q2},Vals xs us->xs.all eW=true->us.any (Ac x)=xs.any λy=>zP y x
 | _,_,.nil,_=>rfl
 | y::xs,u::us,.cons r t,f=>by
  rw[all_cons,Bool.and_eq_true]at f;rw[any_cons,any_cons,Jd r f.1,mV t f.2]
def kL{A:Around}{s:P1}{x:V}{v:Q2}(rx:RelV x v)(fx:eW x=true):∀ {xs:List V}{us:List Q2},Vals xs us->xs.all eW=true->∀u∈us,SeqAt.EqAt A s u v (Ac x u)
 | _,_,.nil,_=>λu hu=>by cases hu
 | y::xs,u::us,.cons r t,f=>λu' hu=>by
  rw[all_cons,Bool.and_eq_true]at f;rcases mem_cons.mp hu with rfl|hu
  ·rw[Jd r f.1];exact qK r rx f.1 fx
  ·exact kL rx fx t f.2 u' hu
def mM(x:V)(xs:List V):Bool:=xs.any λy=>zP y x
def Xa(K:W.Frag)(neg:Bool):R2:=λx y H Q=>∃p xs,y=.ref p/\(SqL K H p xs∨SqT K H p xs)/\eW x=true/\xs.all eW=true/\Q (.bl (if neg then !mM x xs else mM x xs)) H
def Fg:OpR X (compareOp .In) (Xa X.K false):=by
 intro pins s σ H x y v u Q I rx ry h;obtain⟨p,xs,rfl,hq,fx,fs,q⟩:=h;cases ry;rcases hq with hq|hq
 ·obtain⟨its,r,pl,hz⟩:=I.list hq;refine SeqAt.in_listAt (Ac x) pl.isList (λw hw=>kL rx fx r fs w (by simpa using hw)) ⟨.bl _,H,I,rfl,?_⟩;rw[show its.toArray.any (Ac x)=its.any (Ac x) by simp,mV r fs];exact q
 ·obtain⟨its,r,pl,hz⟩:=I.tuple hq;refine SeqAt.in_tupleAt (Ac x) pl (λw hw=>kL rx fx r fs w (by simpa using hw)) ⟨.bl _,H,I,rfl,?_⟩;rw[show its.toArray.any (Ac x)=its.any (Ac x) by simp,mV r fs];exact q
def vD:OpR X (compareOp .NotIn) (Xa X.K true):=by
 intro pins s σ H x y v u Q I rx ry h;obtain⟨p,xs,rfl,hq,fx,fs,q⟩:=h;cases ry;rcases hq with hq|hq
 ·obtain⟨its,r,pl,hz⟩:=I.list hq;refine SeqAt.notIn_listAt (Ac x) pl.isList (λw hw=>kL rx fx r fs w (by simpa using hw)) ⟨.bl _,H,I,rfl,?_⟩;rw[show its.toArray.any (Ac x)=its.any (Ac x) by simp,mV r fs];exact q
 ·obtain⟨its,r,pl,hz⟩:=I.tuple hq;refine SeqAt.notIn_tupleAt (Ac x) pl (λw hw=>kL rx fx r fs w (by simpa using hw)) ⟨.bl _,H,I,rfl,?_⟩;rw[show its.toArray.any (Ac x)=its.any (Ac x) by simp,mV r fs];exact q
def vE:CallR X (.builtin "len") (λxs H Q=>∃p ys,xs=[.ref p]/\(SqL X.K H p ys∨SqT X.K H p ys)/\Q (.int ys.length) H):=by
 intro pins s σ H xs us Q I r h;obtain⟨p,ys,rfl,hq,q⟩:=h;obtain⟨u,rfl,rx⟩:=jA r;cases rx;have hn:=nY;rcases hq with hq|hq
 ·obtain⟨its,r',pl,hz⟩:=I.list hq;have hlen:=r'.length;exact Calls.call_len_list pl.isList (by simp only [eB]<;>omega) ⟨.int ys.length,H,I.tok _,⟨s.toks+1,by rw[eB,hlen]⟩,q⟩
 ·obtain⟨its,r',pl,hz⟩:=I.tuple hq;have hlen:=r'.length;exact len_tuple pl (by simp only [eB]<;>omega) ⟨.int ys.length,H,I.tok _,⟨s.toks+1,by rw[eB,hlen]⟩,q⟩
def vF:CallR X (.builtin "len") (λxs H Q=>∃z,xs=[.str z]/\z.length<=sizeLine/\Q (.int z.length) H):=by
 intro pins s σ H xs us Q I r h;obtain⟨z,rfl,hz,q⟩:=h;obtain⟨u,rfl,t,rfl⟩:=jA r;have hn:=nY;exact len_str Zo ⟨.int z.length,H,I.tok _,⟨_,rfl⟩,q⟩
def vG:CallR X (.type "list") (λxs H Q=>∃p ys,xs=[.ref p]/\(SqL X.K H p ys∨SqT X.K H p ys)/\∀l,H l=none->Q (.ref l) (aI H l (.lst ys))):=by
 intro pins s σ H xs us Q I r h;obtain⟨p,ys,rfl,hq,q⟩:=h;obtain⟨u,rfl,rx⟩:=jA r;cases rx;have fin:∀(its:List Q2),Vals ys its->ys.length<=sizeLine->∀(h':Heap)(c':Nat),(∀b o',s.heap.get? b=some o'->h'.get? b=some o') →
   h'.get? s.heap.objs.size=some {cls:=.type "list",dict:=none,data:=.seq its.toArray c',slots:=#[] }->EP X pins σ Q (.ref s.heap.objs.size) {s with heap:=h' }:=λits r' hz h' c' kp e=>
  ⟨.ref s.heap.objs.size,_,I.laid (t':=s.toks) kp (aY _) (show ObjOk X.prog X.w _ h' _ (.lst ys) from⟨hz,its,c',r',e⟩),rfl,q _ (I.hok.fresh (aY _))⟩
 rcases hq with hq|hq
 ·obtain⟨its,r',pl,hz⟩:=I.list hq;have hlen:=r'.length;obtain⟨o,ho,hc,n,hd⟩:=pl.isList;exact call_list_seq p (.inl rfl) ho hc hd (λh' c' kp e=>fin its r' hz h' c' kp e) (by simp only [eB]<;>omega)
 ·obtain⟨its,r',pl,hz⟩:=I.tuple hq;have hlen:=r'.length;obtain⟨o,ho,hc,n,hd⟩:=pl;exact call_list_seq p (.inr rfl) ho hc hd (λh' c' kp e=>fin its r' hz h' c' kp e) (by simp only [eB]<;>omega)
def tyV(K:W.Frag)(T:String)(x:V)(H:Hp):Prop:=match x with
 | .str _=>T="str"
 | .int _=>T="int"
 | .ref p=>(T="list"/\∃xs,SqL K H p xs)∨(T="tuple"/\∃o,K.lookup p=some o/\o.cls=.type "tuple"/\o.dict=none)∨
   (T="dict"/\((∃kvs,H p=some (.dK kvs))∨∃kvs,H p=some (.dT kvs)))∨(T="set"/\∃S n,H p=some (.set S n))
 | _=>False
def Xb{pins:ZB}{σ:St}{H:Hp}{s:P1}{T:String}{x:V}{v:Q2}(I:Inv X pins σ H s)(r:RelV x v)(ty:tyV X.K T x H) :
  s.TypeIs v T/\∀a,v=.ref a->∃ob,s.heap.get? a=some ob/\ob.dict=none:=by
 cases x with
 | str z=>
  obtain⟨t,rfl⟩:=r;cases(show T="str" from ty);exact⟨typeIs_str s z t,λ_ e=>nomatch e⟩
 | int i=>
  obtain⟨t,rfl⟩:=r;cases(show T="int" from ty);exact⟨typeIs_int s i t,λ_ e=>nomatch e⟩
 | ref p=>
  cases r;rcases ty with⟨rfl,xs,hq⟩|⟨rfl,o,hk,hc,hd⟩|⟨rfl,hk⟩|⟨rfl,S,n,hk⟩
  ·obtain⟨its,_,pl,_⟩:=I.list hq;refine⟨pl.isList.typeIs,λa e=>?_⟩;cases e;obtain⟨o,n,e,c,hd,_⟩:=pl;exact⟨o,e,hd⟩
  ·refine⟨⟨o,I.kIn p o hk,hc⟩,λa e=>?_⟩;cases e;exact⟨o,I.kIn _ o hk,hd⟩
  ·have z:∃o,s.heap.get? p=some o/\o.ExactDict:=by
    rcases hk with⟨kvs,hk⟩|⟨kvs,hk⟩
    ·obtain⟨_,_,_,_,o,_,_,e,ex,_⟩:=I.hok p _ hk;exact⟨o,e,ex⟩
    ·obtain⟨_,_,_,_,o,_,_,e,ex,_⟩:=I.hok p _ hk;exact⟨o,e,ex⟩
   obtain⟨o,e,ex⟩:=z;refine⟨⟨o,e,ex.1⟩,λa e2=>?_⟩;cases e2;exact⟨o,e,ex.2.1⟩
  ·obtain⟨o,_,_,_,e,ex,_⟩:=I.hok p _ hk;refine⟨⟨o,e,ex.1⟩,λa e2=>?_⟩;cases e2;exact⟨o,e,ex.2.1⟩
 | _=>exact False.elim ty
def tBM(K:W.Frag)(T:String)(r:V->List V->Hp->VK->Prop)(to:TE)(t:TA):TE:=λσ H Q=>to σ H λx H1=>tyV K T x H1/\t σ H1 λxs H2=>r x xs H2 Q
variable {o e:Expr}{es:List Expr}{to:TE}{t:TA}{name:Str}{apos cpos:Pos}{T id:String}{r:V->List V->Hp->VK->Prop}
def aAN(pa:PlainAttrs T)(slot:Slot T name id)(yw:typeOf (.builtin id)=pure (.type "method_descriptor"))(hm:MtR X id r)(ho:PE X o to)(ha:PA X (e::es) t)(C3:attributeBase o name X.env (eval o X.env)=eval o X.env:=by rfl)(LH:((backTo cpos (starEach (e::es) X.env)).all (λx=>!x.1)&&(backToKw cpos (keywordEach [] X.env)).all (λx=>x.1.isSome)
   && decide ((e::es).length+([]:List Keyword).length+(if ([]:List Keyword).isEmpty then 0 else 1)<30))=true:=by rfl)(C4:(apos.endLine == cpos.line)=true:=by rfl)(hs:starEach (e::es) X.env=(false,eval e X.env)::starEach es X.env:=by rfl)(BP:(backTo cpos (starEach es X.env)).any (·.1)=false:=by rfl) :
  PE X (.Call (.Attribute o name apos) (e::es) [] cpos) (tBM X.K T r to t):=by
 intro pins s σ H Q I h;refine wpAny_Call_method_late C3 LH C4 rfl (cA (ho pins s σ H _ I h) ?_);rintro v s1 ⟨x,H1,I1,r1,ty,q1⟩;obtain⟨h1,h2⟩:=Xb I1 r1 ty;refine⟨T,id,pa,slot,yw,h1,h2,?_⟩;have hA:=ha cpos pins s1 σ H1 _ I1 q1;rw[hs]at hA ⊢;refine Calls.callWith_builtin (by show(false||(backTo cpos (starEach es X.env)).any (·.1))=false;rw[BP]<;>rfl) (Calls.evalArgs_plain ?_);exact cA hA λus s2 ⟨vs,H2,I2,r2,q2⟩=>hm pins s2 σ H2 x vs v us Q I2 r1 r2 q2
/- xs.append(e),list.index on a FQ tuple .. are MtR facts of 06m -/
end
def MtM(X:Cx)(id:String)(r:V->List V->Hp->VK->Prop):Prop:=
 ∀(pins:ZB)(s:P1)(σ:St)(H:Hp)(x:V)(xs:List V)(v:Q2)(us:List Q2)(Q:VK),Inv X pins σ H s->RelV x v->Vals xs us->r x xs H Q →
  wpAny (model X.prog X.w) X.A (call (.builtin id) (v::us)) (EP X pins σ Q) X.xe s
def Vals.one:∀ {x:V}{us:List Q2},Vals [x] us->∃u,us=[u]/\RelV x u
 | _,_,.cons r .nil=>⟨_,rfl,r⟩
def Vals.two{x y:V}{us:List Q2}(h:Vals [x,y] us):∃u v,us=[u,v] ∧ RelV x u ∧ RelV y v:=by
 cases h with|cons r t=>cases t with|cons q t=>cases t;exact⟨_,_,rfl,r,q⟩
def Vals.eraseIdx:∀ {xs:List V}{us:List Q2} (i:Nat),Vals xs us->Vals (xs.eraseIdx i) (us.eraseIdx i)
 | _,_,_,.nil=>.nil
 | _,_,0,.cons _ t=>t
 | _,_,i+1,.cons r t=>.cons r (Vals.eraseIdx i t)
def oC{α:Type}:∀(l:List α)(i:Nat),(l.eraseIdx i).length<=l.length
 | [],_=>aY _
 | _::_,0=>le_succ _
 | _::r,i+1=>Nat.succ_le_succ (oC r i)
section
variable {X:Cx}{pins:ZB}{σ:St}{H:Hp}{s:P1}{l b:TD}{xs ys zs:List V}
def Inv.lset{its its':List Q2}{n:Nat}{f:Array Value->Array Value}{t':Nat}(I:Inv X pins σ H s)(hH:H l=some (.lst xs))(e:s.heap.get? l=some {cls:=.type "list",data:=.seq its.toArray n })(hf:f its.toArray=its'.toArray)(hv:Vals ys its')(hz:ys.length<=sizeLine) :
  Inv X pins σ (aI H l (.lst ys)) {s with heap:=s.heap.update l (Obj.mapSeq f),toks:=t' }:=by
 have q:=PySem.IsL.update e f;rw[hf]at q;refine I.write (x:=l) (e:=l) (by rw[hH];exact trivial) (.inl rfl) (λb' u hb hu=>(Heap.get?_update_other s.heap (Obj.mapSeq f) (Ne.symm hb)).trans hu) ⟨_,q⟩ ?_;exact⟨hz,its',_,hv,q⟩
def Inv.lnew{its:List Q2}{t':Nat}(I:Inv X pins σ H s)(hv:Vals ys its)(hz:ys.length<=sizeLine) :
  Inv X pins σ (aI H s.heap.objs.size (.lst ys)) {s with heap:=s.heap.push {cls:=.type "list",data:=.seq its.toArray },toks:=t' }:=
 I.laid (λ_ _ q=>eG _ q) (aY _) ⟨hz,its,0,hv,TW _ rfl⟩
def Inv.fresh(I:Inv X pins σ H s):H s.heap.objs.size=none:=I.hok.fresh (aY _)
def Inv.lstM(I:Inv X pins σ H s)(hH:H l=some (.lst xs)):xs.length<=sizeLine/\∃(its:List Q2)(n:Nat),Vals xs its/\xs.length=its.length/\s.heap.get? l=some {cls:=.type "list",data:=.seq its.toArray n }:=by
 obtain⟨z,its,n,r,e⟩:=I.hok l _ hH;exact⟨z,its,n,r,r.length,e⟩
def Je{n:Nat}(h:n<=sizeLine):Builtin.List.listTooLong n=false:=by
 unfold Builtin.List.listTooLong;exact T0 Zo
end
section
variable {X:Cx}
def Cb:V->List V->Hp->VK->Prop:=λx vs H Q=>∃l xs y,x=.ref l/\vs=[y]/\H l=some (.lst xs)/\xs.length<sizeLine/\Q .non (aI H l (.lst (xs++[y])))
def Fi:MtM X "list.append" Cb:=by
 intro pins s σ H x vs v us Q I rx rv h;obtain⟨l,xs,y,rfl,rfl,hH,hz,q⟩:=h;cases rx;obtain⟨u,rfl,ru⟩:=rv.one;obtain⟨z,its,n,r,hl,e⟩:=I.lstM hH;refine call_meets F.slot_list_append ⟨_,e,rfl⟩ F.entry_list_append (F.args_list_append_2 _ _) (PySem.list_append l its.toArray n u (by rw[eB];omega)) ⟨e,?_⟩;refine⟨.non,_,I.lset (its':=its++[u]) hH e Zs (r.append (.cons ru .nil)) ?_,rfl,q⟩;rw[mO,length_singleton];omega
def Qp:V->List V->Hp->VK->Prop:=λx vs H Q=>∃l b xs zs,x=.ref l/\vs=[.ref b]/\H l=some (.lst xs)/\H b=some (.lst zs)/\xs.length+zs.length<=sizeLine/\Q .non (aI H l (.lst (xs++zs)))
def aAj:MtM X "list.extend" Qp:=by
 intro pins s σ H x vs v us Q I rx rv h;obtain⟨l,b,xs,zs,rfl,rfl,hH,hB,hz,q⟩:=h;cases rx;obtain⟨u,rfl,ru⟩:=rv.one;cases ru;obtain⟨z,its,n,r,hl,e⟩:=I.lstM hH;obtain⟨z2,a9,n2,r2,x9,e2⟩:=I.lstM hB;have hsz:its.toArray.size+a9.toArray.size<=sizeLine:=by rw[eB,eB];omega
 have FR:¬ (!its.toArray.isEmpty&&Builtin.List.listTooLong (its.toArray.size+a9.toArray.size))=true:=by
  rw[Je hsz,Bool.and_false];exact V2
 refine call_meets F.slot_list_extend ⟨_,e,rfl⟩ F.entry_list_extend (F.args_list_extend_2 _ _)
  (AutoSeq1.list_extend_list_list_0 l its.toArray n b a9.toArray n2 FR (by rw[eB];omega) Zo) ⟨e,e2,?_⟩
 refine⟨.non,_,I.lset (its':=its++a9) hH e Zs (r.append r2) ?_,rfl,q⟩;rw[mO];omega
def Jf:V->List V->Hp->VK->Prop:=λx vs H Q=>∃l xs i k y,x=.ref l/\vs=[.int i]/\H l=some (.lst xs)/\-(2^63)<=i/\i<2^63/\seqIndex? i xs.length=some k/\xs[k]?=some y/\Q y (aI H l (.lst (xs.eraseIdx k)))
def Jg:MtM X "list.pop" Jf:=by
 intro pins s σ H x vs v us Q I rx rv h;obtain⟨l,xs,i,k,y,rfl,rfl,hH,h1,h2,hk,hy,q⟩:=h;cases rx;obtain⟨u,rfl,ru⟩:=rv.one;obtain⟨t,rfl⟩:=ru;obtain⟨z,its,n,r,hl,e⟩:=I.lstM hH;obtain⟨w,hw,nq⟩:=r.get hy;refine call_meets F.slot_list_pop ⟨_,e,rfl⟩ F.entry_list_pop (F.args_list_pop_2 _ _)
  (MeetsSeq.list_pop_at l its.toArray n i t k w (fitsIndex_both h1 h2) (by rw[eB,<- hl];exact hk) (by rw[<- Array.getElem?_toList];exact hw) (by rw[eB];omega)) ⟨e,?_⟩
 refine⟨y,_,I.lset (its':=its.eraseIdx k) hH e ?_ (r.eraseIdx k) ?_,nq,q⟩
 ·show its.toArray.eraseIdxIfInBounds k=(its.eraseIdx k).toArray;rw[List.eraseIdxIfInBounds_toArray]
 ·have:=oC xs k;omega
def aB9:R2:=λx y H Q=>∃l b xs zs,x=.ref l/\y=.ref b/\H l=some (.lst xs)/\H b=some (.lst zs)/\xs.length+zs.length<=sizeLine/\∀p,H p=none->Q (.ref p) (aI H p (.lst (xs++zs)))
def Xc:OpR X (binaryOp .Add) aB9:=by
 intro pins s σ H x y v u Q I rx ry h;obtain⟨l,b,xs,zs,rfl,rfl,hH,hB,hz,q⟩:=h;cases rx;cases ry;obtain⟨z,its,n,r,hl,e⟩:=I.lstM hH;obtain⟨z2,a9,n2,r2,x9,e2⟩:=I.lstM hB;refine PySem.P.add_list e e2 ?_ (by rw[eB,eB];omega);have ea:its.toArray++a9.toArray=(its++a9).toArray:=by simp
 rw[ea];exact⟨.ref _,_,I.lnew (t':=s.toks) (r.append r2) (by rw[mO];omega),rfl,q _ I.fresh⟩
end
section
variable {κ:Type} [DecidableEq κ]
def bA(kvs:List (κ×V))(k:κ):Option V:=(kvs.find? λkv=>decide (kv.1=k)).map (·.2)
def bJ(kvs:List (κ×V))(k:κ)(v:V):List (κ×V):=
 if (kvs.any λkv=>decide (kv.1=k))=true then kvs.map (λkv=>if kv.1=k then (kv.1,v) else kv) else kvs++[(k,v)]
def cH{p:κ×V}{r:List (κ×V)}{k:κ}(e:p.1=k):bA (p::r) k=some p.2:=by simp[bA,find?_cons,e]
def cI{p:κ×V}{r:List (κ×V)}{k:κ}(e:¬ p.1=k):bA (p::r) k=bA r k:=by simp[bA,find?_cons,e]
def dC(k:κ):∀kvs:List (κ×V),(kvs.any λkv=>decide (kv.1=k))=(bA kvs k).isSome
 | []=>rfl
 | p::r=>by
  rw[any_cons];by_cases e:p.1=k
  ·simp only [cH e,T8 e,Bool.true_or,Option.isSome_some]
  ·rw[cI e,T0 e,Bool.false_or];exact dC k r
def xE(k j:κ)(y:V):∀kvs:List (κ×V),bA (kvs.map λkv=>if kv.1=k then (kv.1,y) else kv) j=(bA kvs j).map λx=>if j=k then y else x
 | []=>rfl
 | p::r=>by
  have ih:=xE k j y r;rw[map_cons];by_cases h:p.1=k
  ·rw[P0 h];by_cases e:p.1=j
   ·rw[cH (p:=(p.1,y)) e,cH e,Option.map_some,P0 (e.symm.trans h)]
   ·rw[cI (p:=(p.1,y)) e,cI e,ih]
  ·rw[QZZ h];by_cases e:p.1=j
   ·rw[cH (p:=p) e,cH e,Option.map_some,QZZ (λz=>h (e.trans z))]
   ·rw[cI (p:=p) e,cI e,ih]
def tO(k j:κ)(y:V):∀kvs:List (κ×V),bA kvs k=none->bA (kvs++[(k,y)]) j=if j=k then some y else bA kvs j
 | [],_=>by
  by_cases e:k=j
  ·rw[P0 e.symm];exact cH (p:=(k,y)) e
  ·rw[QZZ (λz=>e z.symm)];exact cI (p:=(k,y)) e
 | p::r,hn=>by
  rw[cons_append];have hk:¬ p.1=k:=λz=>by rw[cH z]at hn;cases hn
  rw[cI hk]at hn;have ih:=tO k j y r hn;by_cases e:p.1=j
  ·rw[cH e,cH e,QZZ (λz=>hk (e.trans z))]
  ·rw[cI e,cI e,ih]
def cW(kvs:List (κ×V))(k j:κ)(y:V):bA (bJ kvs k y) j=if j=k then some y else bA kvs j:=by
 unfold bJ;by_cases a:(kvs.any λkv=>decide (kv.1=k))=true
 ·rw[P0 a,xE];rw[dC]at a;by_cases e:j=k
  ·obtain⟨x,hx⟩:=Option.isSome_iff_exists.mp a;rw[P0 e,e,hx,Option.map_some,P0 rfl]
  ·rw[QZZ e];cases bA kvs j with
   | none=>rfl
   | some x=>rw[Option.map_some,QZZ e]
 ·rw[QZZ a];refine tO k j y kvs ?_;rw[dC]at a;cases q:bA kvs k with
  | none=>rfl
  | some x=>rw[q]at a;exact(a rfl).elim
def cQ(kvs:List (κ×V))(k:κ)(v:V):(bJ kvs k v).length<=kvs.length+1:=by
 unfold bJ;split
 ·rw[aS];omega
 ·rw[mO,qE,length_nil];omega
def kM{kvs:List (κ×V)}{k:κ}(v:V)(h:bA kvs k=none):bJ kvs k v=kvs++[(k,v)]:=by
 unfold bJ;rw[dC,h];exact QZZ Zd
def RelO.isSome_eq{o:Option V}{u:Option Q2}(r:RelO o u):o.isSome=u.isSome:=by
 cases o with
 | none=>cases u with
  | none=>rfl
  | some _=>exact(show False from r).elim
 | some _=>cases u with
  | none=>exact(show False from r).elim
  | some _=>rfl
def RelO.getD{o:Option V}{u:Option Q2}{d:V}{d':Q2}(r:RelO o u)(rd:RelV d d'):RelV (o.getD d) (u.getD d'):=by
 cases o with
 | none=>cases u with
  | none=>exact rd
  | some _=>exact(show False from r).elim
 | some _=>cases u with
  | none=>exact(show False from r).elim
  | some _=>exact r
def KV.val{kvs:List (κ×V)}{vs:List (κ×Q2)}(r:KV kvs vs)(k:κ):RelO (bA kvs k) (valueAt vs k):=by
 unfold KV at r;induction r with
 | nil=>exact True.intro
 | @cons p q ps qs h t ih=>
  obtain⟨h1,h2⟩:=h;by_cases e:p.1=k
  ·have e':q.1=k:=h1.symm.trans e;have b:valueAt (q::qs) k=some q.2:=by simp[valueAt,find?_cons,e']
   rw[cH e,b];exact h2
  ·have e':¬ q.1=k:=λz=>e (h1.trans z)
   have b:valueAt (q::qs) k=valueAt qs k:=by simp[valueAt,find?_cons,e']
   rw[cI e,b];exact ih
def KV.any{kvs:List (κ×V)}{vs:List (κ×Q2)}(r:KV kvs vs)(k:κ):(kvs.any λkv=>decide (kv.1=k))=vs.any λkv=>decide (kv.1=k):=by
 unfold KV at r;induction r with
 | nil=>rfl
 | cons h t ih=>rw[any_cons,any_cons,ih,h.1]
def KV.repl{kvs:List (κ×V)}{vs:List (κ×Q2)}(r:KV kvs vs)(k:κ){y:V}{u:Q2}(ry:RelV y u) :
  KV (kvs.map λkv=>if kv.1=k then (kv.1,y) else kv) (vs.map λkv=>if kv.1=k then (kv.1,u) else kv):=by
 unfold KV at r ⊢
 induction r with
 | nil=>exact .nil
 | @cons p q ps qs h t ih=>
  rw[map_cons,map_cons];refine .cons ?_ ih;obtain⟨h1,h2⟩:=h;by_cases e:p.1=k
  ·rw[P0 e,P0 (h1.symm.trans e)];exact⟨h1,ry⟩
  ·rw[QZZ e,QZZ (λz=>e (h1.trans z))];exact⟨h1,h2⟩
def KV.put{kvs:List (κ×V)}{vs:List (κ×Q2)}(r:KV kvs vs)(k:κ){y:V}{u:Q2}(ry:RelV y u):KV (bJ kvs k y) (stored vs k u):=by
 unfold bJ stored;rw[r.any k];by_cases e:(vs.any λkv=>decide (kv.1=k))=true
 ·rw[P0 e,P0 e];exact r.repl k ry
 ·rw[QZZ e,QZZ e];exact Paired.snoc r ⟨rfl,ry⟩
def KV.keys{kvs:List (κ×V)}{vs:List (κ×Q2)}(r:KV kvs vs):kvs.map (·.1)=vs.map (·.1):=by
 unfold KV at r;induction r with
 | nil=>rfl
 | cons h t ih=>rw[map_cons,map_cons,ih,h.1]
def KV.length{kvs:List (κ×V)}{vs:List (κ×Q2)}(r:KV kvs vs):kvs.length=vs.length:=Paired.length r
end
def pE{P:Program}{w:World}{k:aT}{u:Q2}(r:RelV (kV k) u):(bB P w).is k u=true:=by
 cases k with
 | inl i=>obtain⟨t,e⟩:=(show ∃t,u=Value.int i t from r);subst e;exact wX P w i t
 | inr x=>obtain⟨t,e⟩:=(show ∃t,u=Value.str x t from r);subst e;exact wY P w x t
def tP{P:Program}{w:World}:∀ {ks:List aT}{us:List Q2},Vals (ks.map kV) us->ItemsAre (bB P w) ks us
 | [],_,r=>by rw[map_nil]at r;cases r;exact .nil
 | k::ks,_,r=>by
  rw[map_cons]at r;cases r with
  | cons h t=>exact .cons (pE h) (tP t)
abbrev KT(H:Hp):List (List aT×V)->List (List aT×TD×Q2)->Prop:=Paired λp q=>p.1=q.1/\H q.2.1=some (.tup (p.1.map kV))/\RelV p.2 q.2.2
def KT.val{H:Hp}{kvs:List (List aT×V)}{xs:List (List aT×TD×Q2)}(r:KT H kvs xs)(k:List aT):RelO (bA kvs k) ((atKey xs k).map (·.2)):=by
 induction r with
 | nil=>exact True.intro
 | @cons p q ps qs h t ih=>
  obtain⟨h1,_,h2⟩:=h;by_cases e:p.1=k
  ·have e':q.1=k:=h1.symm.trans e;have b:atKey (q::qs) k=some q.2:=by simp[atKey,find?_cons,e']
   rw[cH e,b];exact h2
  ·have e':¬ q.1=k:=λz=>e (h1.trans z)
   have b:atKey (q::qs) k=atKey qs k:=by simp[atKey,find?_cons,e']
   rw[cI e,b];exact ih
def KT.repl{H:Hp}{kvs:List (List aT×V)}{xs:List (List aT×TD×Q2)}(r:KT H kvs xs)(k:List aT){y:V}{u:Q2}(ry:RelV y u) :
  KT H (kvs.map λkv=>if kv.1=k then (kv.1,y) else kv) (xs.map (putAt k u)):=by
 induction r with
 | nil=>exact .nil
 | @cons p q ps qs h t ih=>
  rw[map_cons,map_cons];refine .cons ?_ ih;obtain⟨h1,h2,h3⟩:=h;unfold putAt;by_cases e:p.1=k
  ·rw[P0 e,P0 (h1.symm.trans e)];exact⟨h1,h2,ry⟩
  ·rw[QZZ e,QZZ (λz=>e (h1.trans z))];exact⟨h1,h2,h3⟩
def KT.put{H:Hp}{kvs:List (List aT×V)}{xs:List (List aT×TD×Q2)}(r:KT H kvs xs)(k:List aT){b:TD}{y:V}{u:Q2}(hb:H b=some (.tup (k.map kV)))(ry:RelV y u) :
  KT H (bJ kvs k y) (storedH xs k b u):=by
 have e:(kvs.any λkv=>decide (kv.1=k))=(atKey xs k).isSome:=by
  rw[dC,(r.val k).isSome_eq,Option.isSome_map]
 unfold bJ storedH;rw[e];by_cases q:(atKey xs k).isSome=true
 ·rw[P0 q,P0 q];exact r.repl k ry
 ·rw[QZZ q,QZZ q];exact Paired.snoc r ⟨rfl,hb,ry⟩
def KT.keeps{H H':Hp}{kvs:List (List aT×V)}{xs:List (List aT×TD×Q2)}(r:KT H kvs xs)(ht:∀b ys,H b=some (.tup ys)->H' b=some (.tup ys)):KT H' kvs xs:=
 Paired.mapP r λ_ _ z=>⟨z.1,ht _ _ z.2.1,z.2.2⟩
section
variable {P:Program}{w:World}{H:Hp}{h:Heap}{a:TD}
def Uh{u:HO}(ok:HOk P w H h)(e:Rd H a u):ObjOk P w H h a u:=e.ok ok
def mW{kvs:List (aT×V)}(ok:HOk P w H h)(e:Rd H a (.dK kvs)):kvs.length<=sizeLine/\(a==sysModules)=false/\∃vs,KV kvs vs/\h.DictOf (bB P w) a vs:=
 show ObjOk P w H h a (.dK kvs) from Uh ok e
def Cc{kvs:List (aT×V)}(ok:HOk P w H h)(e:H a=some (.dK kvs)):kvs.length<=sizeLine/\(a==sysModules)=false/\∃vs,KV kvs vs/\h.DictOf (bB P w) a vs:=mW ok (.inl e)
def oE{ks:List aT}(ok:HOk P w H h)(e:H a=some (.tup (ks.map kV))):(tupleKind (bB P w)).is h ks a:=by
 obtain⟨_,its,r,o,h1,h2,n,h3⟩:=(show ObjOk P w H h a (.tup (ks.map kV)) from ok a _ e);exact⟨o,its.toArray,n,h1,h2,h3,by simpa using tP r⟩
def qL{kvs:List (List aT×V)}(ok:HOk P w H h)(e:Rd H a (.dT kvs)):kvs.length<=sizeLine/\(a==sysModules)=false ∧
  ∃xs,KT H kvs xs/\h.DictOfH (tupleKind (bB P w)) a xs:=by
 obtain⟨z,y,xs,r,o,es,ep,h1,h2,h3,h4,h5⟩:=(show ObjOk P w H h a (.dT kvs) from Uh ok e);refine⟨z,y,xs,r,o,es,ep,h1,h2,h3,h4,λx hx=>?_,h5⟩;have all:∀ {l:List (List aT×V)}{m:List (List aT×TD×Q2)},KT H l m->∀x∈m,(tupleKind (bB P w)).is h x.1 x.2.1:=by
  intro l m q;induction q with
  | nil=>intro x hx;exact nomatch hx
  | @cons p q ps qs hq t ih=>
   intro x hx;rcases mem_cons.mp hx with e|hx
   ·subst e;exact oE ok (by rw[<- hq.1];exact hq.2.1)
   ·exact ih x hx
 exact all r x hx
def aAP{kvs:List (List aT×V)}(ok:HOk P w H h)(e:H a=some (.dT kvs)):kvs.length<=sizeLine/\(a==sysModules)=false ∧
  ∃xs,KT H kvs xs/\h.DictOfH (tupleKind (bB P w)) a xs:=qL ok (.inl e)
end
def DGet(H:Hp)(a:TD)(y:V)(r:Option V):Prop:=
 (∃kvs k,Rd H a (.dK kvs)/\y=kV k/\r=bA kvs k)∨∃kvs k b,Rd H a (.dT kvs)/\y=.ref b/\H b=some (.tup (k.map kV))/\r=bA kvs k
def DPut(H:Hp)(a:TD)(y v:V)(H':Hp):Prop:=
 (∃kvs k,H a=some (.dK kvs)/\y=kV k/\kvs.length<sizeLine/\H'=aI H a (.dK (bJ kvs k v)))∨
 ∃kvs k b,H a=some (.dT kvs)/\y=.ref b/\H b=some (.tup (k.map kV))/\kvs.length<sizeLine/\H'=aI H a (.dT (bJ kvs k v))
def DGet.k{H:Hp}{a:TD}{kvs:List (aT×V)}{k:aT}(e:H a=some (.dK kvs)):DGet H a (kV k) (bA kvs k):=.inl ⟨kvs,k,.inl e,rfl,rfl⟩
def DPut.k{H:Hp}{a:TD}{kvs:List (aT×V)}{k:aT}{v:V}(e:H a=some (.dK kvs))(hl:kvs.length<sizeLine):DPut H a (kV k) v (aI H a (.dK (bJ kvs k v))):=.inl ⟨kvs,k,e,rfl,hl,rfl⟩
def DPut.t{H:Hp}{a b:TD}{kvs:List (List aT×V)}{k:List aT}{v:V}(e:H a=some (.dT kvs))(eb:H b=some (.tup (k.map kV)))(hl:kvs.length<sizeLine) :
  DPut H a (.ref b) v (aI H a (.dT (bJ kvs k v))):=.inr ⟨kvs,k,b,e,rfl,eb,hl,rfl⟩
section
variable {X:Cx}{pins:ZB}{σ:St}{H:Hp}{s:P1}{a:TD}{y v:V}{u r:Q2}{o:Option V}{A:Around}{E:XV}
def Inv.big(I:Inv X pins σ H s):sysModules<s.heap.objs.size:=by
 have h:mainGlobals<s.heap.objs.size:=(I.mod.glob.keeps I.bk).lt;exact lt_trans Zd h
def Fj{Q:XV}(hu:A.units+1<cLine)(I:Inv X pins σ H s)(g:DGet H a y (some v))(ry:RelV y u)(h:∀w' s',Inv X pins σ H s'->RelV v w'->Q w' s') :
  wpAny (model X.prog X.w) A (getItem (.ref a) u) Q E s:=by
 rcases g with⟨kvs,k,e,ey,l⟩|⟨kvs,k,b,e,ey,eb,l⟩
 ·subst ey;obtain⟨z,hd,vs,rel,dd⟩:=mW I.hok e;obtain⟨w',hw,nq⟩:=RelO.some_of (v:=v) (o:=valueAt vs k) (by rw[l];exact rel.val k);exact wpAny_getItem_of (pE ry) dd.mapOf hw (h w' _ (I.tok _) nq)
 ·subst ey;cases(show u=Value.ref b from ry);obtain⟨z,hd,xs,rel,dd⟩:=qL I.hok e;obtain⟨w',hw,nq⟩:=RelO.some_of (v:=v) (o:=(atKey xs k).map (·.2)) (by rw[l];exact rel.val k);obtain⟨p,hp,C5⟩:=Option.map_eq_some_iff.mp hw;refine wpAny_getItem_heap (tupleKind_room_in1 hu) (oE I.hok eb) dd hp ?_;rw[C5];exact h w' _ (I.tok _) nq
def aAQ{Q:XV}(hu:A.units+1<cLine)(I:Inv X pins σ H s)(g:DGet H a y o)(ry:RelV y u)(h:∀s',Inv X pins σ H s'->Q (.bool o.isSome) s') :
  wpAny (model X.prog X.w) A (compareOp .In u (.ref a)) Q E s:=by
 rcases g with⟨kvs,k,e,ey,l⟩|⟨kvs,k,b,e,ey,eb,l⟩
 ·subst ey;obtain⟨z,hd,vs,rel,dd⟩:=mW I.hok e;refine wpAny_in_of (pE ry) hd dd.mapOf ?_;rw[<- (rel.val k).isSome_eq,<- l];exact h _ (I.tok _)
 ·subst ey;cases(show u=Value.ref b from ry);obtain⟨z,hd,xs,rel,dd⟩:=qL I.hok e;refine wpAny_in_heap (tupleKind_room_in1 hu) (oE I.hok eb) hd dd ?_;have q:=(rel.val k).isSome_eq;rw[Option.isSome_map]at q;rw[<- q,<- l];exact h _ (I.tok _)
def Cd{Q:XV}(hu:A.units+1<cLine)(I:Inv X pins σ H s)(g:DGet H a y o)(ry:RelV y u)(h:∀s',Inv X pins σ H s'->Q (.bool (!o.isSome)) s') :
  wpAny (model X.prog X.w) A (compareOp .NotIn u (.ref a)) Q E s:=by
 rcases g with⟨kvs,k,e,ey,l⟩|⟨kvs,k,b,e,ey,eb,l⟩
 ·subst ey;obtain⟨z,hd,vs,rel,dd⟩:=mW I.hok e;refine wpAny_notIn_of (pE ry) hd dd.mapOf ?_;rw[<- (rel.val k).isSome_eq,<- l];exact h _ (I.tok _)
 ·subst ey;cases(show u=Value.ref b from ry);obtain⟨z,hd,xs,rel,dd⟩:=qL I.hok e;refine wpAny_notIn_heap (tupleKind_room_in1 hu) (oE I.hok eb) hd dd ?_;have q:=(rel.val k).isSome_eq;rw[Option.isSome_map]at q;rw[<- q,<- l];exact h _ (I.tok _)
def vH{h':Heap}{t':Nat}{ob:HO}(I:Inv X pins σ H s)(mu:Mut (H a))(hs:Heap.SameBut a s.heap h')(he:∃q,h'.get? a=some q)(new:ObjOk X.prog X.w (aI H a ob) h' a ob) :
  Inv X pins σ (aI H a ob) {s with heap:=h',toks:=t' }:=
 I.write (x:=a) (e:=a) mu (.inl rfl) (λb q hb z=>(hs.2 b hb).trans z) he new
def Jh{P:Program}{w:World}{H':Hp}{h':Heap}{kvs:List (aT×V)}{vs:List (aT×Q2)}(z:kvs.length<=sizeLine)(hd:(a==sysModules)=false)(rel:KV kvs vs)(dd:h'.DictOf (bB P w) a vs) :
  ObjOk P w H' h' a (.dK kvs):=⟨z,hd,vs,rel,dd⟩
def Fk{H':Hp}{Q:Unit->P1->Prop}(hu:A.units+1<cLine)(I:Inv X pins σ H s)(g:DPut H a y v H')(ry:RelV y u)(rv:RelV v r)(h:∀s',Inv X pins σ H' s'->Q () s') :
  wpAny (model X.prog X.w) A (setItem (.ref a) u r) Q E s:=by
 rcases g with⟨kvs,k,e,ey,l,eH⟩|⟨kvs,k,b,e,ey,eb,l,eH⟩
 ·subst ey eH;obtain⟨z,hd,vs,rel,dd⟩:=Cc I.hok e;have hz:vs.length<=sizeLine:=by rw[<- rel.length];exact z
  have hl:(bJ kvs k v).length<=sizeLine:=by have:=cQ kvs k v;omega
  refine wpAny_setItem_pairs (hsz:=hz) (pE ry) dd λh' BQ hs=>h _ ?_;have he:∃q,h'.get? a=some q:=let ⟨q,_,_,hq,_⟩:=BQ;⟨q,hq⟩;exact vH I (by rw[e];exact True.intro) hs he (Jh hl hd (rel.put k rv) BQ)
 ·subst ey eH;cases(show u=Value.ref b from ry);obtain⟨z,hd,xs,rel,dd⟩:=aAP I.hok e;have hz:xs.length<=sizeLine:=by rw[<- Paired.length rel];exact z
  have hl:(bJ kvs k v).length<=sizeLine:=by have:=cQ kvs k v;omega
  refine wpAny_setItem_heap (hsz:=hz) (tupleKind_room_in1 hu) (oE I.hok eb) dd λh' BQ hs=>h _ ?_;obtain⟨q,es,ep,hq,h2,h3,h4,_,h5⟩:=BQ;refine vH I (by rw[e];exact True.intro) hs ⟨q,hq⟩ ⟨hl,hd,_,(rel.put k eb rv).keeps λc ys ec=>?_,q,es,ep,hq,h2,h3,h4,h5⟩;rw[aB (cV ec e nofun)];exact ec
end
section
variable {X:Cx}{pins:ZB}{σ:St}{H:Hp}{s:P1}{a:TD}{kvs:List (aT×V)}{k:aT}{u:Q2}{A:Around}{E:XV}
def aAR{Q:XV}(I:Inv X pins σ H s)(e:Rd H a (.dK kvs))(h:∀t s',Inv X pins σ H s'->Q (.int kvs.length t) s'):wpAny (model X.prog X.w) A (call (.builtin "len") [.ref a]) Q E s:=by
 obtain⟨z,hd,vs,rel,dd⟩:=mW I.hok e;refine call_len_dict hd dd (by rw[<- rel.length];rw[sizeLine_eq]at z;omega) ?_;rw[<- rel.length];exact h _ _ (I.tok _)
end
def Xd(i:Expr):Prop:=∀ov iv,subscripted i false ov iv=operate [ov,iv] (getItem ov iv)
def Qq{prog:Program}{w:World}{A:Around}{E:XV}{s:P1}{env:Env}{value slice:Expr}{pos:Pos}{T id:String}{Q:XV}(hl:typeLookup (.type T) "__getitem__"=pure (some (.builtin id)))(hs:Xd slice)(h:wpAny (model prog w) A (eval value env) (λo s₁=>wpAny (model prog w) A (eval slice env) (λi s₂=>s₂.TypeIs o T/\wpAny (model prog w) A (getItem o i) Q E s₂) E s₁) E s) :
  wpAny (model prog w) A (eval (.Subscript value slice pos) env) Q E s:=by
 refine Subscript_ (wpAny_mono h (λo s₁ h₁=>wpAny_mono h₁ (λi s₂ h₂=>?_) λ_ _ x=>x) λ_ _ x=>x);obtain⟨hT,h₂⟩:=h₂;unfold subscriptTail;refine V4 ?_;rw[getitemInPython_of_ne hT.not_modules];refine V4 (wpAny_specialOf hT hl ?_);have fin:wpAny (model prog w) A (subscripted slice false o i) (λr s₃=>wpAny (model prog w) A (letTemporaryGo value o r>>=λ_=>pure r) Q E s₃) E s₂:=by
  rw[hs o i];exact wpAny_operating (wpAny_mono h₂ (λr s₃ h₃=>V4 (wpAny_letTemporaryGo (V3 h₃))) λ_ _ x=>x)
 first
  | exact V3 (V4 fin)
  | exact V4 (V3 (V4 fin))
  | exact V4 fin
def xF{X:Cx}{pins:ZB}{σ:St}{H:Hp}{s:P1}{a:TD}{y:V}{o:Option V}(I:Inv X pins σ H s)(g:DGet H a y o):s.TypeIs (.ref a) "dict":=by
 rcases g with⟨kvs,k,e,_,_⟩|⟨kvs,k,b,e,_,_,_⟩
 ·obtain⟨_,_,vs,_,dd⟩:=mW I.hok e;exact dd.typeIs
 ·obtain⟨_,_,xs,_,dd⟩:=qL I.hok e;exact dd.typeIs
def Ui(td ty:TE):TE:=λσ H Q=>td σ H λx H1=>ty σ H1 λy H2=>∃a v,x=.ref a/\DGet H2 a y (some v)/\Q v H2
section
variable {X:Cx}{o i e value:Expr}{pos pos' ur:Pos}{td ty tv:TE}
def Qr(hu:X.A.units+1<cLine)(ho:PE X o td)(hi:PE X i ty)(hs:Xd i):PE X (.Subscript o i pos) (Ui td ty):=by
 intro pins s σ H Q I h;refine Qq PySem.F.slot_dict_getitem.lookup hs (cA (ho pins s σ H _ I h) λu s1 ⟨x,H1,I1,rx,q1⟩=>cA (hi pins s1 σ H1 _ I1 q1) ?_);rintro iv s2 ⟨y,H2,I2,ry,a,v,ex,g,q2⟩;subst ex;obtain rfl:u=Value.ref a:=rx;exact⟨xF I2 g,Fj hu I2 g ry λw' s3 I3 nq=>⟨v,H2,I3,nq,q2⟩⟩
end
def xG{P:Program}{w:World}{H:Hp}(h:Heap)(hb:sysModules<h.objs.size):ObjOk P w H (h.push {cls:=.type "dict",data:=.dict #[] }) h.objs.size (.dK []):=
 ⟨zero_le _,beq_eq_false_iff_ne.mpr (Ne.symm (ne_of_lt hb)),[],.nil,Heap.DictOf.new h⟩
def Ji{P:Program}{w:World}{H:Hp}(h:Heap)(hb:sysModules<h.objs.size):ObjOk P w H (h.push {cls:=.type "dict",data:=.dict #[] }) h.objs.size (.dT []):=
 ⟨zero_le _,beq_eq_false_iff_ne.mpr (Ne.symm (ne_of_lt hb)),[],.nil,_,#[],0,TW _ rfl,⟨rfl,rfl,rfl⟩,rfl,rfl,nodup_nil⟩
def Jj:TE:=λ_ H Q=>∀p,H p=none->Q (.ref p) (aI H p (.dK []))
def Jk:TE:=λ_ H Q=>∀p,H p=none->Q (.ref p) (aI H p (.dT []))
section
variable {X:Cx}{pos:Pos}
def Jl:PE X (.Dict [] [] pos) Jj:=λpins s σ H Q I h=>
 wpAny_Dict_empty ⟨.ref s.heap.objs.size,_,I.laid (a:=s.heap.objs.size) (o:=.dK []) (t':=s.toks) (λ_ _ q=>eG _ q) (aY _) (xG s.heap I.big),rfl,h _ (I.hok.fresh (aY _))⟩
def Jm:PE X (.Dict [] [] pos) Jk:=λpins s σ H Q I h=>
 wpAny_Dict_empty ⟨.ref s.heap.objs.size,_,I.laid (a:=s.heap.objs.size) (o:=.dT []) (t':=s.toks) (λ_ _ q=>eG _ q) (aY _) (Ji s.heap I.big),rfl,h _ (I.hok.fresh (aY _))⟩
end
def Ad:List (TE×TE)->St->Hp->(List (V×V)->Hp->Prop)->Prop
 | [],_,H,Q=>Q [] H
 | (tk,tv)::r,σ,H,Q=>tk σ H λx H1=>tv σ H1 λy H2=>Ad r σ H2 λps H3=>Q ((x,y)::ps) H3
abbrev VV:List (V×V)->List (Q2×Q2)->Prop:=Paired λp q=>RelV p.1 q.1/\RelV p.2 q.2
def PPs(X:Cx)(pos:Pos)(keys:List (Option Expr))(values:List Expr)(trs:List (TE×TE)):Prop:=
 ∀(pins:ZB)(s:P1)(σ:St)(H:Hp)(Q:List (V×V)->Hp->Prop),Inv X pins σ H s->Ad trs σ H Q →
  wpAny (model X.prog X.w) X.A (evalPairs (pairTrees keys values X.env pos)) (λvs s'=>∃ps H',Inv X pins σ H' s'/\VV ps vs/\Q ps H') X.xe s
def Qs{X:Cx}{pos:Pos}:PPs X pos [] [] []:=λpins s σ H Q I h=>pairTrees_nil_walk ⟨[],H,I,.nil,h⟩
def Jn{X:Cx}{pos:Pos}{k v:Expr}{ks:List (Option Expr)}{vs:List Expr}{tk tv:TE}{trs:List (TE×TE)}(hk:PE X k tk)(hv:PE X v tv)(hr:PPs X pos ks vs trs) :
  PPs X pos (some k::ks) (v::vs) ((tk,tv)::trs):=λpins s σ H Q I h=>
 pairTrees_cons_walk (cA (hk pins s σ H _ I h) λu s1 ⟨x,H1,I1,rx,q1⟩=>cA (hv pins s1 σ H1 _ I1 q1) λw2 s2 ⟨y,H2,I2,ry,q2⟩=>
  cA (hr pins s2 σ H2 _ I2 q2) λws s3 ⟨ps,H3,I3,rel,q3⟩=>⟨(x,y)::ps,H3,I3,.cons ⟨rx,ry⟩ rel,q3⟩)
def aM(kvs more:List (aT×V)):List (aT×V):=more.foldl (λacc kv=>bJ acc kv.1 kv.2) kvs
def KV.merge:∀ {more:List (aT×V)}{rs:List (aT×Q2)}{kvs:List (aT×V)}{vs:List (aT×Q2)},KV more rs->KV kvs vs->KV (aM kvs more) (merged vs rs):=by
 intro more rs kvs vs r;unfold KV at r;induction r generalizing kvs vs with
 | nil=>intro q;exact q
 | @cons p q ps qs h t ih=>
  intro r0;have e:KV (bJ kvs p.1 p.2) (stored vs q.1 q.2):=by
   have:=r0.put p.1 h.2;rw[<- h.1];exact this
  exact ih e
def dR:∀(more kvs:List (aT×V)),(aM kvs more).length<=kvs.length+more.length
 | [],kvs=>by show kvs.length<=kvs.length+0;omega
 | p::r,kvs=>by
  have h1:=dR r (bJ kvs p.1 p.2);have h2:=cQ kvs p.1 p.2;show(aM (bJ kvs p.1 p.2) r).length<=_;rw[qE];omega
def qM{P:Program}{w:World}:∀ {kvs:List (aT×V)}{ws:List (Q2×Q2)},VV (kvs.map λkv=>(kV kv.1,kv.2)) ws->∃rs,Carries (bB P w) ws rs/\KV kvs rs
 | [],_,r=>by rw[map_nil]at r;cases r;exact⟨[],True.intro,.nil⟩
 | p::kvs,_,r=>by
  rw[map_cons]at r;cases r with
  | @cons a b as bs h t=>
   obtain⟨rs,c,q⟩:=qM (P:=P) (w:=w) t;obtain⟨b1,b2⟩:=b;exact⟨(p.1,b2)::rs,⟨pE h.1,rfl,c⟩,.cons ⟨rfl,h.2⟩ q⟩
def Uj(trs:List (TE×TE)):TE:=λσ H Q=>∀p,H p=none->Ad trs σ (aI H p (.dK [])) λps H2=>H2 p=some (.dK [])/\∃kvs:List (aT×V),ps=kvs.map (λkv=>(kV kv.1,kv.2))/\kvs.length<=15/\Q (.ref p) (aI H2 p (.dK (aM [] kvs)))
def Qt{X:Cx}{pos:Pos}{keys:List (Option Expr)}{values:List Expr}{trs:List (TE×TE)}(h:PPs X pos keys values trs)(K7:keys.all (·.isSome)=true)(hl:keys.length=values.length)(h0:keys≠[])(LI:keys.length<=15):PE X (.Dict keys values pos) (Uj trs):=by
 intro pins s σ H Q I q;have hn:=I.hok.fresh (aY s.heap.objs.size);have I1:=I.laid (a:=s.heap.objs.size) (o:=.dK []) (h':=s.heap.push {cls:=.type "dict",data:=.dict #[] }) (t':=s.toks) (λ_ _ q=>eG _ q) (aY _) (xG s.heap I.big);refine wpAny_Dict_walk (knd:=bB X.prog X.w) K7 hl h0 LI (cA (h pins _ σ _ _ I1 (q _ hn)) ?_);rintro ws s2 ⟨ps,H2,I2,rel,e,kvs,ep,lk,q2⟩;subst ep;obtain⟨rs,c,rk⟩:=qM (P:=X.prog) (w:=X.w) rel;obtain⟨z,hd,vs0,r0,dd⟩:=Cc I2.hok e;cases r0;refine⟨rs,c,dd,λh' BQ hs=>⟨.ref s.heap.objs.size,_,?_,rfl,q2⟩⟩;have hz:(aM [] kvs).length<=sizeLine:=by
  have h1:=dR kvs [];rw[length_nil]at h1;rw[sizeLine_eq];omega
 have he:∃q,h'.get? s.heap.objs.size=some q:=let ⟨q,_,_,hq,_⟩:=BQ;⟨q,hq⟩;exact vH I2 (by rw[e];exact True.intro) hs he (Jh hz hd (rk.merge .nil) BQ)
structure M2(X:Cx)(o:Expr)(m:Str)(apos:Pos)(e f:Expr)(cpos:Pos):Prop where
 base:attributeBase o m X.env (eval o X.env)=eval o X.env
 few:((backTo cpos (starEach [e,f] X.env)).all (λx=>!x.1)&&(backToKw cpos (keywordEach [] X.env)).all (λx=>x.1.isSome)
  && decide (([e,f]:List Expr).length+([]:List Keyword).length+(if ([]:List Keyword).isEmpty then 0 else 1)<30))=true
 line:(apos.endLine==cpos.line)=true
 trees:backTo cpos (starEach [e,f] X.env)=[(false,eval e X.env),(false,eval f X.env)]
def IsD(H:Hp)(a:TD):Prop:=(∃kvs,Rd H a (.dK kvs))∨∃kvs,Rd H a (.dT kvs)
def Jo{X:Cx}{pins:ZB}{σ:St}{H:Hp}{s:P1}{a:TD}(I:Inv X pins σ H s)(d:IsD H a) :
  s.TypeIs (.ref a) "dict"/\(∀b,Value.ref a=.ref b->∃ob,s.heap.get? b=some ob/\ob.dict=none)/\(a==sysModules)=false:=by
 rcases d with⟨kvs,e⟩|⟨kvs,e⟩
 ·obtain⟨_,hd,vs,_,dd⟩:=mW I.hok e;refine⟨dd.typeIs,λb q=>?_,hd⟩;cases q;obtain⟨ob,_,_,h1,h2,_⟩:=dd;exact⟨ob,h1,h2.2.1⟩
 ·obtain⟨_,hd,xs,_,dd⟩:=qL I.hok e;refine⟨dd.typeIs,λb q=>?_,hd⟩;cases q;obtain⟨ob,_,_,h1,h2,_⟩:=dd;exact⟨ob,h1,h2.2.1⟩
section
variable {X:Cx}{pins:ZB}{σ:St}{H:Hp}{s:P1}{a:TD}{y d:V}{u r:Q2}{o:Option V}{A:Around}{E:XV}
def Xe{Q:XV}(hu:A.units+1<cLine)(I:Inv X pins σ H s)(g:DGet H a y o)(ry:RelV y u)(rd:RelV d r)(h:∀w' s',Inv X pins σ H s'->RelV (o.getD d) w'->Q w' s') :
  wpAny (model X.prog X.w) A (call (.builtin "dict.get") [.ref a,u,r]) Q E s:=by
 rcases g with⟨kvs,k,e,ey,l⟩|⟨kvs,k,b,e,ey,eb,l⟩
 ·subst ey;obtain⟨z,hd,vs,rel,dd⟩:=mW I.hok e;refine call_meetsIn PySem.F.slot_dict_get dd.typeIs PySem.F.entry_dict_get (PySem.F.args_dict_get_3 _ _ _) (meets_dict_get_default (bB X.prog X.w) a (pE ry) hd r) ⟨_,dd.mapOf,h _ _ (I.tok _) ?_⟩;rw[l];exact(rel.val k).getD rd
 ·subst ey;cases(show u=Value.ref b from ry);obtain⟨z,hd,xs,rel,dd⟩:=qL I.hok e;refine call_meetsIn PySem.F.slot_dict_get dd.typeIs PySem.F.entry_dict_get (PySem.F.args_dict_get_3 _ _ _) (meetsH_dict_get_default (tupleKind (bB X.prog X.w)) a b hd r) ⟨tupleKind_room_in1 hu,k,xs,oE I.hok eb,dd,h _ _ (I.tok _) ?_⟩;rw[l];exact(rel.val k).getD rd
end
def Jp(td ty tx:TE):TE:=λσ H Q=>td σ H λx H1=>∃a,x=.ref a/\IsD H1 a/\ty σ H1 λy H2=>tx σ H2 λz H3=>∃o,DGet H3 a y o/\Q (o.getD z) H3
section
variable {X:Cx}{o e f:Expr}{apos cpos:Pos}{td ty tx:TE}
def Jq(hu:X.A.units+1<cLine)(ho:PE X o td)(he:PE X e ty)(hf:PE X f tx)(m:M2 X o "get" apos e f cpos):PE X (.Call (.Attribute o "get" apos) [e,f] [] cpos) (Jp td ty tx):=by
 intro pins s σ H Q I h;refine wpAny_Call_method m.base m.few m.line PySem.F.plainAttrs_dict PySem.F.slot_dict_get PySem.F.type_dict_get (cA (ho pins s σ H _ I h) ?_);rintro u s1 ⟨x,H1,I1,rx,a,ex,d,q1⟩;subst ex;obtain rfl:u=Value.ref a:=rx;obtain⟨t1,t2,_⟩:=Jo I1 d;refine⟨t1,t2,?_⟩;rw[m.trees];refine Calls.callWith_builtin rfl (Calls.evalArgs_plain (Calls.spliced_cons (cA (he pins s1 σ H1 _ I1 q1) λiv s2 ⟨y,H2,I2,ry,q2⟩=>
  Calls.spliced_cons (cA (hf pins s2 σ H2 _ I2 q2) λfv s3 ⟨z,H3,I3,rz,ov,g,q3⟩=>Calls.spliced_nil ?_))))
 exact Xe hu I3 g ry rz λw' s4 I4 nq=>⟨_,H3,I4,nq,q3⟩
end
end L2
namespace OW
open PySem PySem.W PySem.Calls PyProof.Rows
def pL{P:Params}{h:Heap}:∀(ns:List Int)(vs:List Q2),WellAll P h vs (ns.map WData.int)->IntsAre vs ns:=by
 intro ns;induction ns with
 | nil=>
  intro vs w;rw[map_nil]at w;cases w;exact .nil
 | cons n ns ih=>
  intro vs w;rw[map_cons]at w;cases w with
  | cons a b=>
   cases a;exact .cons _ _ (ih _ b)
def Fl{l:OpenLaw}{n:Nat}(hn:l.most=some n){P:Params}{h:Heap}{args:List WData}{vals:List Q2}(yx:l.row.toRowW.claim.pre args=true)(LJ:WellAll P h vals args) :
  ∃a vs ns,vals=[Value.ref a]/\args=[WData.list (ns.map WData.int)]/\h.get? a=some {cls:=.type "list",data:=.seq vs.toArray }/\IntsAre vs ns/\ns.length<=n:=by
 have VS:WShape.hasAll [] args [.list .int]=true:=(pre_splitW yx).1;have hc:l.pre.holds [] {args:=args }=true:=(pre_splitW yx).2;obtain⟨d,r,rfl,h1,h2⟩:=hasAllW_cons VS;obtain rfl:=hasAllW_nil h2;obtain⟨xs,rfl,h3⟩:=hasW_list h1;obtain⟨ns,rfl⟩:=items_int h3;have hlen:ns.length<=n:=by
  unfold OpenLaw.pre at hc;have h4:(WTm.not (.lt (.lit (.int (n:Int))) (.len (.arg 0)))).holds [] {args:=[.list (ns.map .int)] }=true:=by
   have h4:=(holds_andW hc).1;rw[hn]at h4;exact h4
  have h5:=condW_of h4 (w_not (w_lt w_lit (w_len_list (w_arg rfl))));rw[aS]at h5;refine Nat.le_of_not_lt λq=>?_
  have q':(n:Int)<((ns.length:Nat):Int):=by omega
  first
   | (rw[T8 q']at h5;exact QZY h5 Zd)
   | (simp at h5;omega)
 cases LJ with
 | cons w1 w2=>
  cases w2
  cases w1 with
  | list ho K7=>exact⟨_,_,ns,rfl,rfl,ho,pL ns _ K7,hlen⟩
def Fm(l:OpenLaw)(args:List WData):l.row.toRowW.claim.post args (.bool true) args=true:=
 postW_of (r:=l.row.toRowW) (X:=(true==true))
  (show WShape.has [] (.bool true) .bool=true by first|rfl|decide|simp[WShape.has,WShape.arms,WShape.armsAll])
  (show(WTm.eq .res (.lit (.bool true))).value [] {args:=args,res:=some (.bool true),after:=args }=some (.bool (true==true)) from w_eq_bool (w_res rfl) w_lit) rfl
def attach_call{l:OpenLaw}{n:Nat}{q:Program}{loose:List Str}{XP:(Str->Option Q2)->Heap->Prop}{YP:World->Heap->Prop}{d:DefRec}(hn:l.most=some n)(FT:d.params.defaults=[])(call:∀(w:World)(s₀ s₁:P1)(mg mb:V5)(fa:TD)(o:Obj)(pm cd doc:Q2)(a:TD)(vs:List Q2)(ns:List Int),
   Ground q loose [] XP w s₀ mg mb s₁.heap->YP w s₁.heap →
   s₁.heap.get? fa=some o->o.data=.func (docDef d.name d.params d.body d.scope pm cd doc)->s₁.heap.CodeRec cd d.name->mg d.name=some (.ref fa) →
   s₁.heap.get? a=some {cls:=.type "list",data:=.seq vs.toArray }->IntsAre vs ns->ns.length<=n->s₁.gens=#[] →
   codeAny (model l.prog w) callerA (.call (.ref fa) ⟨[.ref a],[]⟩) (λr s'=>r=.ok (.ret (.bool true))/\OldK s₁.heap s'.heap/\s'.os=s₁.os/\AllBare s'.gens) s₁) :
  WalkO q loose XP YP l.row.toRowW d [] (λf vs=>PySem.call f vs):=by
 intro w s₀ s₁ mg mb G Y fa o pm cd doc dV kV ho hd og hD AU hg args vals as yx VT ug LJ AV;obtain rfl:dV=.none:=Dflts.none hD FT;obtain rfl:kV=.none:=Dflts.noKw hD;obtain⟨a,vs,ns,rfl,rfl,BR,hints,hlen⟩:=Fl hn yx LJ;refine enter_call (codeAny_mono (call w s₀ s₁ mg mb fa o pm cd doc a vs ns G Y ho (fd_plain hd) og AU BR hints hlen hg) λr s' hq=>?_);obtain⟨rfl,h2,h3,h4⟩:=hq;exact⟨.inl ⟨.bool true,.bool true,[],rfl,λ_=>rfl,.bool true,Fm l _,λ_=>⟨List.Pairwise.nil,λ_ hm=>(nomatch hm)⟩⟩,h2,h3,h4⟩
end OW
namespace L2
open PySem PySem.Spec PyProof.Rows
def tQ:∀ {vs:List Q2}{ns:List Int},IntsAre vs ns->Vals (ns.map V.int) vs
 | _,_,.nil=>.nil
 | _,_,.cons n t h=>.cons ⟨t,rfl⟩ (tQ h)
def Xf(H:Hp):Prop:=∀b,H b=none∨∃o xs,H b=some (.frz o (.lst xs))
def Jr{P:Program}{w:World}{K:W.Frag}{mg mb:V5}{CX:Pj}{k:Nat}{fa a:TD}{fd:FuncData}{x:Str}{sp:Sp}{s₁:P1}{vs:List Q2}{ns:List Int}(KX:K.In s₁.heap)(FU:s₁.heap.Ns mainGlobals mg)(hb:s₁.heap.Ns builtinsNs mb)(VU:∀x:Str,x≠"__name__"->mb x=bootBuiltins x)(LK:s₁.heap.NoLimit)(hg:s₁.gens=#[])(ha:s₁.heap.get? a=some {cls:=.type "list",data:=.seq vs.toArray })(hi:IntsAre vs ns)(hl:ns.length<=sizeLine)(hr:Room k callerA)(F:∀base:Heap,K.In base->base.Ns mainGlobals mg->kK P w K mg base CX k fa fd [x] sp)(FV:∀(s:P1)(u:Q2),BindsTo s fd ⟨[u],[]⟩ [(x,u)])(xy:∀H:Hp,Xf H->SqL K H a (ns.map V.int)->sp [.ref a] H (λv _=>v=.bl true) λ_ _ _=>False)(LL:∀H e s',CX [] H s₁ (λ_ _ _=>False) e s'->False) :
  codeAny (model P w) callerA (.call (.ref fa) ⟨[.ref a],[]⟩) (λr s'=>r=.ok (.ret (.bool true))/\OldK s₁.heap s'.heap/\s'.os=s₁.os/\AllBare s'.gens) s₁:=by
 have rv:=tQ hi;have LM:=hi.length;have core:∀H:Hp,Xf H->SqL K H a (ns.map V.int)->HOk P w H s₁.heap->(∀b,H b≠none->b=a)->(H a≠none->K.lookup a=none) →
   codeAny (model P w) callerA (.call (.ref fa) ⟨[.ref a],[]⟩) (λr s'=>r=.ok (.ret (.bool true))/\OldK s₁.heap s'.heap/\s'.os=s₁.os/\AllBare s'.gens) s₁:=by
  intro H hO hS hok hA hK;have uh:∀ {b:TD}{o:Obj},s₁.heap.get? b=some o->H b=none->(uU s₁.heap H).get? b=some o:=λe n=>Ih e n
  have FN:∀ {b:TD}{o:Obj}{es:Array DictEntry}{ep:Nat},s₁.heap.get? b=some o->o.data=.dict es ep->H b=none:=λ{b o es ep} e d=>by
   cases q:H b with
   | none=>rfl
   | some u=>
    have e':b=a:=hA b (by rw[q];simp);subst e';rw[ha]at e;cases e;have d':Data.seq vs.toArray _=Data.dict es ep:=d;cases d'
  have IZ:∀ {b:TD}{m:V5},s₁.heap.Ns b m->(uU s₁.heap H).Ns b m:=λ{b m} ⟨o,es,ep,e,d,r⟩=>⟨o,es,ep,uh e (FN e d),d,r⟩
  have OX:K.In (uU s₁.heap H):=λb o e=>uh (KX b o e) (by
   cases q:H b with
   | none=>rfl
   | some u=>
    have e':b=a:=hA b (by rw[q];simp);subst e';rw[hK (by rw[q];simp)]at e;cases e)
  have hM:Mod K mg (uU s₁.heap H):=⟨OX,IZ FU,⟨mb,IZ hb,VU⟩,let ⟨mc,h1,h2⟩:=LK;⟨mc,IZ h1,h2⟩⟩;have e0:Env0 P w K mg (uU s₁.heap H) callerA [] s₁ H:=⟨rfl,hM,λb o e=>Pl e,le_of_eq (En _ _),trivial,λb hb=>QZY (show b∈([]:List TD) from hb) Zs,hok,.of_eq hg⟩;refine codeAny_mono ((F _ OX (IZ FU)).run callerA [] s₁ H ⟨[.ref a],[]⟩ [.ref a] [.ref a] _ _ hr e0 (FV s₁ (.ref a)) (.cons rfl .nil) (xy H hO hS)) λr s' h=>?_
  cases r with
  | error e=>exact(LL H e s' h).elim
  | ok fl=>
   cases fl with
   | next=>exact False.elim h
   | brk=>exact False.elim h
   | cont=>exact False.elim h
   | ret u=>
    obtain⟨v,H',os,bare,un,LN,r',q⟩:=h;have q':v=.bl true:=q;subst q';obtain rfl:u=Value.bool true:=r';refine⟨rfl,OldK.of_keep λb o e=>?_,os,bare⟩
    cases q:H b with
    | none=>exact un.keep b o e q (by intro z;exact QZY (show b∈([]:List TD) from z) Zs) Zs
    | some u=>
     rcases hO b with z|⟨ob,xs,z⟩
     ·rw[q]at z;cases z
     ·have z2:=un.frzs b ob _ z;obtain⟨e1,_⟩:=hok b _ z;obtain⟨e2,_⟩:=LN b _ z2;rw[e]at e1;cases e1;exact e2
 cases hk:K.lookup a with
 | some o=>
  have e:=KX a o hk;rw[ha]at e;cases e;refine core (λ_=>none) (λ_=>.inl rfl) (.inr ⟨_,vs.toArray,_,hk,rfl,rfl,rfl,by rw[eB,LM];exact hl,by simpa using rv⟩) (λb u z=>by have z':(none:Option HO)=some u:=z;cases z') (λb z=>QZY rfl z) λz=>QZY rfl z
 | none=>
  refine core (λb=>if b=a then some (.frz {cls:=.type "list",data:=.seq vs.toArray } (.lst (ns.map V.int))) else none) (λb=>?_) (.inl (.inr ⟨{cls:=.type "list",data:=.seq vs.toArray },P0 rfl⟩)) (λb u z=>?_) (λb z=>?_) λ_=>hk
  ·by_cases hb:b=a
   ·exact .inr ⟨_,_,P0 hb⟩
   ·exact .inl (QZZ hb)
  ·by_cases hb:b=a
   ·have z':=(P0 hb).symm.trans z;cases z';subst hb;exact⟨ha,by rw[aS];exact hl,vs,_,rv,ha⟩
   ·have z':=(QZZ hb).symm.trans z;cases z'
  ·by_cases hb:b=a
   ·exact hb
   ·exact QZY (QZZ hb) z
def Ce{l:W.OpenLaw}{n k:Nat}{q:Program}{loose:List Str}{XP:(Str->Option Q2)->Heap->Prop}{YP:World->Heap->Prop}{d:DefRec}{K:Params->W.Frag}{CX:World->Pj}{sp:World->Sp}{x:Str}(hn:l.most=some n)(oh:n<=sizeLine)(FT:d.params.defaults=[])(hr:Room k callerA)(hY:∀(w:World)(h:Heap),YP w h->(K w.params).In h)(F:∀(w:World)(mg:V5)(fa:TD)(h:Heap),(K w.params).In h->h.Ns mainGlobals mg->mg d.name=some (.ref fa) →
   ∃fd:FuncData,(∀(s:P1)(u:Q2),BindsTo s fd ⟨[u],[]⟩ [(x,u)]) ∧
    ∀base:Heap,(K w.params).In base->base.Ns mainGlobals mg->kK l.prog w (K w.params) mg base (CX w) k fa fd [x] (sp w))(xy:∀(w:World)(H:Hp)(a:TD)(ns:List Int),ns.length<=n->Xf H->SqL (K w.params) H a (ns.map V.int)->sp w [.ref a] H (λv _=>v=.bl true) λ_ _ _=>False)(LL:∀(w:World)(H:Hp)(s:P1)(e:Q2)(s':P1),CX w [] H s (λ_ _ _=>False) e s'->False) :
  W.WalkO q loose XP YP l.row.toRowW d [] (λf vs=>PySem.call f vs):=by
 refine OW.attach_call hn FT λw s₀ s₁ mg mb fa o pm cd doc a vs ns G Y ho hd og AU BR hints hlen hg=>?_;have KX:=hY w _ Y;obtain⟨fd,hb,hF⟩:=F w mg fa _ KX G.T.g AU;exact Jr KX G.T.g G.T.b G.T.builtins G.T.nolimit hg BR hints (eI hlen oh) hr hF hb (λH hO hS=>xy w H a ns hlen hO hS) λH e s'=>LL w H s₁ e s'
end L2
/- THE VW JA (shape;LID,My.* are OY):
   My.Adr: a structure of the addresses that VX OZ names (classes,DX);My.Txt K t: a structure (Prop) of the equations over K;
   My.txt_mk:{K} {implicit addresses ..} (e1:nsIn K mainGlobals "law"=some (some (.ref f))) (e2:K.lookup f=some ⟨oc,od,.func (fnOf "law" "law" params body scope dV kV doc pm an cdv ct),sl⟩) (e3:codeIn K cdv "law"=true) ..:∃t,My.Txt K t
set_option maxRecDepth 100000 in
set_option maxHeartbeats 0 in
def PySem.Challenge.cw_LID_holds : PySem.Challenge.rw_LID.Holds := by
 w_on;o_law;k_head;(case hw=>w_witness2)
 k_fill
 refine L2.Ce (l:=PySem.Challenge.rw_LID) (n:=63) (k:=40) (x:="script") (CX:=λw=>..) (sp:=λ_=>My.sp_law) rfl Zd rfl ⟨rfl,Zd,Zd⟩ (λw h Y=>W.kIn_of Y) ?F ?S ?C
 case F=>
  intro w mg fa h KX G AU;have T:∃t,My.Txt (L2.KOf KX) t:=by
   dsimp only [L2.KOf]                          -- K VY PB as «<heap const> w.params» for k_is
   refine' My.txt_mk ?e1 ?e2 ?e3 ..
   (case e1=>W.k_is)                    -- in the order: a name->its address->its object->its parts
   (case e2=>W.k_is)
   ..
  obtain⟨t,T⟩:=T;have e0:=AU.symm.trans (W.mg_of KX G T.law);cases e0                                       -- fa is the PD own address;exact⟨_,λs u=>.of_eq rfl,λbase kb nb=>My.law_fn T kb nb⟩     -- if «.of_eq rfl» comes too early: refine' ⟨_,?b,λbase kb nb=>My.law_fn T kb nb⟩;exact λs u=>.of_eq rfl
 case S=>exact λw H a ns hl hO hS=>..
 case C=>exact ..
(the tactic k_is has no namespace: write k_is) -/
namespace L2
open PySem PySem.Spec PyProof.Rows
def fG(s:Stmt)(j:Nat):Stmt:=match s with
 | .ClassDef _ _ _ body _ _ _ _ _ _ _=>body.getD j (.Pass ⟨0,0,0,0⟩)
 | _=>.Pass ⟨0,0,0,0⟩
def cJ(s:Stmt):Arguments:=match s with
 | .FunctionDef _ a _ _ _ _ _ _ _ _=>a
 | _=>{posonlyargs:=[],args:=[],vararg:=none,kwonlyargs:=[],kw_defaults:=[],kwarg:=none,defaults:=[] }
def bH(s:Stmt):List Stmt:=match s with
 | .FunctionDef _ _ b _ _ _ _ _ _ _=>b
 | _=>[]
def aD(s:Stmt):Scope:=match s with
 | .FunctionDef _ _ _ _ _ _ sc _ _ _=>sc
 | _=>{kind:=.function,names:=[],isGenerator:=false,isCoroutine:=false }
abbrev tS:Pj:=λ_ _ _ _ _ _=>False
abbrev E0:XK:=λ_ _ _=>False
def xH{X:Cx}:oA tS X E0:=λ_ _ _ _ _ _ _ h=>h.elim
structure Fun(K:W.Frag)(x qual:Str)(st:Stmt)(f:TD)(fd:FuncData):Prop where
 ex:∃(oc:Q2)(od:Option TD)(kV doc pm:Q2)(an:Option TD)(cdv ct:Q2)(osl:Array (Option Q2)),
  fd=W.fnOf x qual (cJ st) (bH st) (aD st) .none kV doc pm an cdv ct/\K.lookup f=some ⟨oc,od,.func fd,osl⟩/\W.codeIn K cdv qual=true
 kp:W.keepIn K (.ref f)=true
section
variable {P:Program}{w:World}{K:W.Frag}{mg:V5}{base:Heap}
def Fun.ok{x qual:Str}{st:Stmt}{f:TD}{fd:FuncData}{N ps:List Str}{k:Nat}{sp:Sp}(F:Fun K x qual st f fd)(S:aK N ps (aD st))(len:∀vs H Q E,sp vs H Q E->vs.length=ps.length)(u3:∀(cdv:Q2)(A:Around)(outer:List Env)(s:P1)(H:Hp)(vs:List V)(Q:VK)(E:XK),Room k (A.deeper (envOfC qual (aD st) s.heap.objs.size f cdv))->sp vs H Q E →
   ∃t,PSs (mQ tS P w K mg base N qual (aD st) f cdv A outer s H E).nox (bH st) t/\t {nx:=λ_ H'=>Q .non H',rt:=Q } (start N vs) H):kK P w K mg base tS (k+1) f fd ps sp:=by
 obtain⟨oc,od,kV,doc,pm,an,cdv,ct,osl,rfl,lk,og⟩:=F.ex;refine Uf lk og S len λA outer s H vs Q E hr xy=>?_;obtain⟨t,h,q⟩:=u3 cdv A outer s H vs Q E hr xy;exact⟨t,h.nox,q⟩
def Fun.binds{x qual:Str}{st:Stmt}{f:TD}{fd:FuncData}{ps:List Str}(F:Fun K x qual st f fd)(h:∀(kV doc pm:Q2)(an:Option TD)(cdv ct:Q2)(us:List Q2),us.length=ps.length->bindArgs (W.fnOf x qual (cJ st) (bH st) (aD st) .none kV doc pm an cdv ct) ⟨us,[]⟩=pure (ps.zip us)):Binds K fd ps []:=by
 obtain⟨oc,od,kV,doc,pm,an,cdv,ct,osl,rfl,lk,og⟩:=F.ex;exact .all (h kV doc pm an cdv ct)
def qN{x qual:Str}{st:Stmt}{f:TD}{oc:Q2}{od an:Option TD}{osl:Array (Option Q2)}{kV doc pm cdv ct:Q2}(l:K.lookup f=some ⟨oc,od,.func (W.fnOf x qual (cJ st) (bH st) (aD st) .none kV doc pm an cdv ct),osl⟩)(c:W.codeIn K cdv qual=true)(k:W.keepIn K (.ref f)=true):Fun K x qual st f (W.fnOf x qual (cJ st) (bH st) (aD st) .none kV doc pm an cdv ct):=⟨⟨oc,od,kV,doc,pm,an,cdv,ct,osl,rfl,l,c⟩,k⟩
end
def dP{A:Around}{k:Nat}(hr:Room k A):A.units+1<cLine:=nS (Nat.add_le_add_left (by decide:1<=64) _) hr.units
section
variable {X:Cx}
def Fn:CallR X (.builtin "len") (λxs H Q=>∃a kvs,xs=[V.ref a]/\H a=some (.dK kvs)/\Q (.int kvs.length) H):=by
 intro pins s σ H xs us Q I r h;obtain⟨a,kvs,rfl,ha,q⟩:=h;obtain⟨u,rfl,ru⟩:=jA r;cases ru;exact aAR I (.inl ha) λt s' I'=>⟨.int kvs.length,H,I',⟨t,rfl⟩,q⟩
end
def Same(H H':Hp):Prop:=∀b o,H b=some o->H' b=some o
def Same.refl(H:Hp):Same H H:=λ_ _ h=>h
def Same.trans{H H1 H2:Hp}(a:Same H H1)(b:Same H1 H2):Same H H2:=λc o h=>b c o (a c o h)
def Same.free{H H':Hp}(e:Same H H'){l:TD}(h:H' l=Option.none):H l=Option.none:=by
 cases q:H l with
 | none=>rfl
 | some o=>
  rw[e l o q]at h;cases h
def Same.seq{K:W.Frag}{H H':Hp}{a:TD}{xs:List V}(e:Same H H')(h:SqL K H a xs):SqL K H' a xs:=by
 rcases h with(h|⟨o,h⟩)|h
 ·exact .inl (.inl (e _ _ h))
 ·exact .inl (.inr ⟨o,e _ _ h⟩)
 ·exact .inr h
section
variable {κ:Type} [DecidableEq κ]
def xI{kvs:List (κ×V)}{k:κ}(h:bA kvs k=none):¬ k∈kvs.map (·.1):=by
 intro m;obtain⟨p,hp,e⟩:=Zmm.mp m;have q:(kvs.any λkv=>decide (kv.1=k))=true:=any_eq_true.mpr ⟨p,hp,T8 e⟩;rw[dC,h]at q;exact QZY q Zs
def Cf{kvs:List (κ×V)}{k:κ}{v:V}(h:bA kvs k=some v):k∈kvs.map (·.1):=by
 have q:(kvs.any λkv=>decide (kv.1=k))=true:=by
  rw[dC,h];all_goals rfl
 obtain⟨p,hp,e⟩:=any_eq_true.mp q;exact Zmm.mpr ⟨p,hp,UV e⟩
def vI:∀ {l:List κ}{k:κ},l.Nodup->¬ k∈l->(l++[k]).Nodup
 | [],k,_,_=>by simp
 | a::r,k,h,hk=>by
  obtain⟨h1,h2⟩:=nodup_cons.mp h;show(a::(r++[k])).Nodup;refine nodup_cons.mpr ⟨λm=>?_,vI h2 λm=>hk (mem_cons.mpr (Or.inr m))⟩;rcases Zma.mp m with q|q
  ·exact h1 q
  ·exact hk (mem_cons.mpr (Or.inl (Zms.mp q).symm))
def Qu{kvs:List (κ×V)}{k:κ}(v:V)(hn:(kvs.map (·.1)).Nodup)(h:bA kvs k=none):((bJ kvs k v).map (·.1)).Nodup:=by
 rw[kM v h,dJ];exact vI hn (xI h)
end
def kN(env:Env):List (Str×NameKind)->List (Str×TD)->List (Str×TD)
 | [],cs=>cs
 | (n,k)::r,cs=>kN env r (if k=.free then (match env.cells.lookup n with|some c=>(n,c)::cs|none=>cs) else cs)
def lY{env:Env}:∀(names:List (Str×NameKind))(cs:List (Str×TD)),(∀x∈names,x.2=.free->∃c,env.cells.lookup x.1=some c) →
  (forIn names cs λ(x:Str × NameKind) (r:List (Str × Addr))=>(do
   if x.2 == .free then do
    let c←cellOf env x.1
    pure (ForInStep.yield ((x.1,c)::r))
   else pure (ForInStep.yield r):Sem _))=pure (kN env names cs)
 | [],cs,_=>rfl
 | (n,k)::r,cs,h=>by
  rw[forIn_cons];by_cases hk:k=.free
  ·subst hk;obtain⟨c,hc⟩:=h (n,.free) eV rfl;have yp:env.cells.lookup n=some c:=hc;have e1:cellOf env n=pure c:=by unfold cellOf;rw[yp]
   simp only [beq_self_eq_true,if_true,e1,pure_bind];rw[lY r ((n,c)::cs) λx hx=>h x (iV _ hx)];simp[kN,yp]
  ·have hb:(k==NameKind.free)=false:=by simpa using hk
   simp only [hb,Bool.false_eq_true,if_false,pure_bind];rw[lY r cs λx hx=>h x (iV _ hx)];simp[kN,hk]
def qO{scope:Scope}{env:Env}(h:∀x∈scope.names,x.2=.free->∃c,env.cells.lookup x.1=some c):closureFor scope env=pure (kN env scope.names []):=by
 have e:=lY scope.names [] h;unfold closureFor;exact(congrArg (λz=>z>>=λ(r:List (Str×TD))=>(pure r:Sem _)) e).trans (pure_bind _ _)
def xJ{env:Env}:∀(names:List (Str×NameKind))(cs:List (Str×TD)),(∀y d,(y,d)∈cs->env.cells.lookup y=some d)->∀y d,(y,d)∈kN env names cs->env.cells.lookup y=some d
 | [],_,h=>h
 | (n,k)::r,cs,h=>by
  unfold kN;refine xJ r _ λy d hm=>?_
  split at hm
  ·split at hm
   ·rename_i c hc;rcases mem_cons.mp hm with e|e
    ·cases e;exact hc
    ·exact h y d e
   ·exact h y d hm
  ·exact h y d hm
def Cg{env:Env}:∀(names:List (Str×NameKind))(cs:List (Str×TD))(y:Str)(d:TD),(y,d)∈kN env names cs->(y,.free)∈names∨(y,d)∈cs
 | [],_,_,_,h=>.inr h
 | (n,k)::r,cs,y,d,h=>by
  unfold kN at h;rcases Cg r _ y d h with e|hm
  ·exact .inl (iV _ e)
  ·split at hm
   ·rename_i hk;split at hm
    ·rcases mem_cons.mp hm with e|e
     ·cases e;subst hk;exact .inl eV
     ·exact .inr e
    ·exact .inr hm
   ·exact .inr hm
def Js{env:Env}:∀(names:List (Str×NameKind))(cs:List (Str×TD))(y:Str),((∃d,(y,d)∈cs)∨(y,.free)∈names)->(∀x∈names,x.2=.free->∃c,env.cells.lookup x.1=some c)->∃d,(y,d)∈kN env names cs
 | [],_,_,h,_=>by
  rcases h with h|h
  ·exact h
  ·cases h
 | (n,k)::r,cs,y,h,hf=>by
  unfold kN;refine Js r _ y ?_ λx hx=>hf x (iV _ hx)
  rcases h with⟨d,hd⟩|h
  ·refine .inl ⟨d,?_⟩;split
   ·split
    ·exact iV _ hd
    ·exact hd
   ·exact hd
  ·rcases mem_cons.mp h with e|e
   ·have e1:y=n:=congrArg Prod.fst e;have e2:NameKind.free=k:=congrArg Prod.snd e;subst e1 e2;obtain⟨c,hc⟩:=hf (y,.free) eV rfl;have yp:env.cells.lookup y=some c:=hc;refine .inl ⟨c,?_⟩;rw[P0 rfl,yp];exact eV
   ·exact .inr e
def qP{α:Type}:∀ {l:List (Str×α)}{y:Str}{d:α},(y,d)∈l->∃d',l.lookup y=some d'/\(y,d')∈l
 | (n,c)::r,y,d,h=>by
  by_cases e:y=n
  ·subst e;exact⟨c,by simp[lookup_cons],eV⟩
  ·rcases mem_cons.mp h with q|q
   ·cases q;exact QZY rfl e
   ·obtain⟨d',h1,h2⟩:=qP q;have hb:(y==n)=false:=by simpa using e
    exact⟨d',by rw[lookup_cons,hb];exact h1,iV _ h2⟩
def eC{env:Env}{names:List (Str×NameKind)}{y:Str}{c:TD}(h:(kN env names []).lookup y=some c):env.cells.lookup y=some c/\(y,.free)∈names:=by
 have hm:=PySem.mem_of_lookup h;refine⟨xJ names [] (λ_ _ z=>nomatch z) y c hm,?_⟩;rcases Cg names [] y c hm with e|e
 ·exact e
 ·cases e
def Ch{env:Env}{names:List (Str×NameKind)}{y:Str}(h:(y,.free)∈names)(hf:∀x∈names,x.2=.free->∃c,env.cells.lookup x.1=some c):∃c,(kN env names []).lookup y=some c/\env.cells.lookup y=some c:=by
 obtain⟨d,hd⟩:=Js names [] y (.inr h) hf;obtain⟨c,hc,_⟩:=qP hd;exact⟨c,hc,(eC hc).1⟩
def vJ{scope:Scope}{env:Env}(V6:∀y∈scope.names,y.2≠.cell){x:Str}(h:(relabel scope env).names.lookup x=some .cell∨(relabel scope env).names.lookup x=some .free):(x,.free)∈scope.names:=by
 have go:∀ {k:NameKind},k=.cell∨k=.free->(relabel scope env).names.lookup x=some k->(x,.free)∈scope.names:=λ{k} hk h=>by
  have hm:=PySem.mem_of_lookup h;unfold relabel at hm;obtain⟨⟨n,j⟩,hp,e⟩:=Zmm.mp hm;dsimp only at e;split at e
  ·rename_i hc;cases e;have:j=.free:=by
    have:=(Bool.and_eq_true_iff.mp (Bool.and_eq_true_iff.mp hc).1).1;simpa using this
   subst this;exact hp
  ·cases e;rcases hk with q|q
   ·exact QZY q (V6 _ hp)
   ·subst q;exact hp
 rcases h with h|h
 ·exact go (.inl rfl) h
 ·exact go (.inr rfl) h
def mY{env:Env}:∀ {names:List (Str×NameKind)}{x:Str},names.lookup x=some .free →
  (names.map λ(n,k)=>if (k==NameKind.free&&env.scope.kind == .function&&env.kindOf n==some .cell) then (n,NameKind.cell) else (n,k)).lookup x=some .cell∨
  (names.map λ(n,k)=>if (k==NameKind.free&&env.scope.kind == .function&&env.kindOf n==some .cell) then (n,NameKind.cell) else (n,k)).lookup x=some .free
 | [],_,h=>by simp at h
 | (n,k)::r,x,h=>by
  have ih:=@mY env r x;rw[map_cons];dsimp only;cases hx:x==n with
  | true=>
   simp only [lookup_cons,hx]at h;cases h;split
   ·left;simp[lookup_cons,hx]
   ·right;simp[lookup_cons,hx]
  | false=>
   simp only [lookup_cons,hx]at h;split
   ·simp only [lookup_cons,hx];exact ih h
   ·simp only [lookup_cons,hx];exact ih h
def nT(X:Cx)(scope:Scope)(C:TD)(N:List Str)(s₂:P1)(H₂:Hp)(fp:List TD):Cx where
 prog:=X.prog
 w:=X.w
 K:=X.K
 mg:=X.mg
 base:=X.base
 A:=X.A
 N:=N
 s₀:=s₂
 H₀:=H₂
 env:=compEnvC scope (kN X.env scope.names []) C X.env
 outer:=X.stack
 stack:=X.stack
 ex:=fp
 fn:=λ_=>false
 calm:=X.calm
 pn:=[]
 xe:=λ_ _=>False
def xK(js:List (Option Nat))(σ:St):St:=js.map λo=>match o with|some j=>(σ[j]?).getD none|none=>none
structure CompScope(X:Cx)(scope:Scope)(N:List Str)(js:List (Option Nat)):Prop where
 kind:scope.kind=.function
 nocell:∀y∈scope.names,y.2≠.cell
 loc:∀y∈scope.names,y.2=.local->scope.names.lookup y.1=some .local
 len:js.length=N.length
 cap:∀(i j:Nat),js[i]?=some (some j)->∃x,N[i]?=some x/\X.N[j]?=some x/\scope.names.lookup x=some .free
 out:∀y∈scope.names,y.2=.free->X.env.kindOf y.1=some .cell∨X.env.kindOf y.1=some .free
def Ae(js:List (Option Nat))(g:TG):Prop:=∀x σ H Q,g x σ H Q->g x σ H λσ2 H2=>Q σ2 H2/\σ2.length=σ.length/\∀(i j:Nat),js[i]?=some (some j)->σ2[i]?=σ[i]?
def Ci(js:List (Option Nat))(g:Bs):Prop:=∀xs σ H Q,g xs σ H Q->g xs σ H λσ2 H2=>Q σ2 H2/\σ2.length=σ.length/\∀(i j:Nat),js[i]?=some (some j)->σ2[i]?=σ[i]?
def aO{js:List (Option Nat)}{k:Nat}(h:js[k]?=some none):Ae js (aJ k):=λx σ H Q q=>by
 refine⟨q,Zs,λi j e=>?_⟩;have:k≠i:=λz=>by subst z;rw[h]at e;cases e
 rw[List.getElem?_set_ne this]
def tT{js:List (Option Nat)}:Ci js Wa:=λxs σ H Q q=>⟨q.1,q.2,rfl,λ_ _ _=>rfl⟩
def jK{js:List (Option Nat)}{k:Nat}{u:Bs}(h:js[k]?=some none)(hu:Ci js u):Ci js (Il (aJ k) u):=λxs σ H Q q=>by
 obtain⟨v,r,e,q⟩:=q;refine⟨v,r,e,?_⟩;obtain⟨_,h2⟩:=aO h v σ H (λ_ _=>True) trivial;have q2:=hu r _ _ _ q;have e2:(λσ2 H2=>Q σ2 H2/\σ2.length=(σ.set k (some v)).length/\∀(i j:Nat),js[i]?=some (some j)->σ2[i]?=(σ.set k (some v))[i]?)=(λσ2 (H2:Hp)=>Q σ2 H2/\σ2.length=σ.length/\∀(i j:Nat),js[i]?=some (some j)->σ2[i]?=σ[i]?):=by
  funext σ2 H2
  have e3:∀(i j:Nat),js[i]?=some (some j)->(σ.set k (some v))[i]?=σ[i]?:=h2.2;apply propext;constructor
  ·rintro⟨a,b,c⟩;exact⟨a,by simpa using b,λi j e=>(c i j e).trans (e3 i j e)⟩
  ·rintro⟨a,b,c⟩;exact⟨a,by simpa using b,λi j e=>(c i j e).trans (e3 i j e).symm⟩
 show u r (σ.set k (some v)) H _;rw[<- e2];exact q2
def xL{K:W.Frag}{n:Nat}{js:List (Option Nat)}{t:Bs}(h:Ci js t):Ae js (Px K n t):=λx σ H Q q=>by
 obtain⟨a,xs,e,hq,hl,q⟩:=q;exact⟨a,xs,e,hq,hl,h xs σ H Q q⟩
section
variable {X:Cx}{pins:ZB}{σ:St}{H H':Hp}{s:P1}
def Un.more{fs ex:List TD}{H H':Hp}{h h':Heap}{D:TD}{o:HO}(u:Un fs ex H H' h h')(hD:h.get? D=none)(hH:H D=none):Un fs ex H (aI H' D o) h h' where
 keep:=u.keep
 slot:=u.slot
 free:=λb ob q n hx=>by
  have:b≠D:=λz=>by rw[z,hD]at q;cases q
  rw[aB this];exact u.free b ob q n hx
 there:=u.there
 tups:=λb xs q=>by rw[aB (aE q hH)];exact u.tups b xs q
 frzs:=λb ob xs q=>by rw[aB (aE q hH)];exact u.frzs b ob xs q
 tbls:=λb ps q=>by rw[aB (aE q hH)];exact u.tbls b ps q
def HOk.more{P:Program}{w:World}{h:Heap}{D:TD}{o:HO}(k:HOk P w H h)(hH:H D=none)(new:ObjOk P w (aI H D o) h D o):HOk P w (aI H D o) h:=λb u e=>by
 by_cases hb:b=D
 ·subst hb;rw[aA]at e;cases e;exact new
 ·rw[aB hb]at e;exact(k b u e).stay (λ_ _ _ q=>q) (λc q=>by rw[aB (aE q hH)];exact q) λc xs q=>by rw[aB (aE q hH)];exact q
def CompScope.ok{scope:Scope}{N:List Str}{js:List (Option Nat)}{C:TD}{fp:List TD}(S:CompScope X scope N js)(I:Inv X pins σ H s)(hC:s.heap.objs.size<=C)(hf:∀b∈fp,nX X pins H b)(hl:∀b∈fp,b<s.heap.objs.size) :
  (nT X scope C N s H fp).Ok where
 mod:=I.ok.mod
 kind:=S.kind
 glob:=I.ok.glob
 blt:=I.ok.blt
 above:=hC
 inj:=λx y c h1 h2=>I.ok.inj x y c (eC h1).1 (eC h2).1
 has:=λx hx=>by
  have hm:(x,.free)∈scope.names:=vJ S.nocell hx;obtain⟨c,h1,_⟩:=Ch (env:=X.env) hm λy hy hk=>I.ok.has y.1 (S.out y hy hk)
  exact⟨c,h1⟩
 cab:=λx c z=>nomatch z
 hd:=I.ok.hd
 frames:=I.ok.frames
 stk:=.inl rfl
 exf:=λb hb=>⟨ne_of_lt (QZU (hl b hb) hC),λx c e=>(hf b hb).2.2.2.2.1 x c (eC e).1⟩
 bs:=I.bs
 bsz:=eI I.ok.bsz I.sz
 noex:=λb o e hb=>by
  rcases(hf b hb).2.2.2.1 with z|z
  ·exact I.ok.noex b o e z
  ·exact QZY (QZU (Heap.lt_size e) (eI I.ok.bsz z)) (lt_irrefl _)
 exfs:=λb hb hm=>by
  rcases mem_cons.mp (I.stkSub b hm) with z|z
  ·exact(hf b hb).2.1 z
  ·exact(hf b hb).2.2.1 z
 funs:=I.stack
 frf:=I.stkFree
def CompScope.start{scope:Scope}{N:List Str}{js:List (Option Nat)}{C D:TD}{fp:List TD}{ob:Obj}{h₁:Heap}{m:V5}{tk:Nat}(S:CompScope X scope N js)(I:Inv X pins σ H s)(hC:s.heap.objs.size<=C)(hD:s.heap.objs.size<=D)(vo:D≠C)(hf:∀b∈fp,nX X pins H b)(hl:∀b∈fp,b<s.heap.objs.size)(k:∀b o,s.heap.get? b=some o->h₁.get? b=some o)(FU:h₁.Ns C m)(eD:h₁.get? D=some ob)(nc:∀v,ob.data≠.cell v) :
  Inv (nT X scope C N s H fp) [(D,ob)] (xK js σ) H {s with heap:=h₁,toks:=tk } where
 ok:=S.ok I hC hf hl
 os:=rfl
 bare:=I.bare
 base:=Un.kept k
 loc:=by
  refine⟨m,FU,λi x v h1 h2 h3=>?_⟩;have h1:N[i]?=some x:=h1;unfold xK at h2;rw[fA]at h2;cases e:js[i]? with
  | none=>rw[e]at h2;cases h2
  | some o=>
   rw[e]at h2;cases o with
   | none=>cases h2
   | some j=>
    have M1:(σ[j]?).getD none=some v:=Option.some.inj h2;have hσ:σ[j]?=some (some v):=by
     cases q:σ[j]? with
     | none=>rw[q]at M1;cases M1
     | some z=>rw[q]at M1;exact congrArg some M1
    obtain⟨y,e1,e2,e3⟩:=S.cap i j e;rw[h1]at e1;cases e1;have nz:(x,.free)∈scope.names:=PySem.mem_of_lookup e3;have ho:=S.out (x,.free) nz rfl;obtain⟨mX,_,VZ⟩:=I.loc;have WB:Vis X.env.scope x:=by
     rcases ho with z|z
     ·exact .inr (.inl z)
     ·exact .inr (.inr z)
    obtain⟨u,r,l⟩:=VZ j x v e2 hσ WB;refine⟨u,r,.inr ?_⟩;rcases l with⟨hk,_⟩|⟨hk,c,hc,V6⟩
    ·rcases ho with z|z
     ·have z':X.env.kindOf x=some .cell:=z;rw[hk]at z';cases z'
     ·have z':X.env.kindOf x=some .free:=z;rw[hk]at z';cases z'
    ·obtain⟨c',G9,FW⟩:=Ch (env:=X.env) nz λy hy hk=>I.ok.has y.1 (S.out y hy hk)
     rw[hc]at FW;cases FW;refine⟨mY e3,c,G9,?_⟩;obtain⟨oc,q1,q2⟩:=V6;exact⟨oc,k c oc q1,q2⟩
 cell:=λx c e=>by
  obtain⟨v,oc,q1,q2⟩:=I.cell x c (eC e).1;exact⟨v,oc,k c oc q1,q2⟩
 free:=I.hok.fresh hC
 freeC:=λx c e=>I.freeC x c (eC e).1
 pin:=λp hp=>by
  have e:p=(D,ob):=by
   rcases Zma.mp hp with z|z
   ·exact QZY (show p∈([]:List (TD×Obj)) from z) Zs
   ·simpa using z
  subst e;refine⟨eD,I.hok.fresh hD,vo,λhm=>?_,nc⟩;rcases mem_cons.mp (I.stkSub D hm) with z|z
  ·have z:D=X.env.locals:=z;have:=I.lt;rw[<- z]at this;exact QZY (QZU this hD) (lt_irrefl _)
  ·exact I.nofs hD z
 hok:=I.hok.kept k
 len:=by
  unfold xK;rw[aS];exact S.len
end
def PTs(X:Cx)(cs:List Expr)(t:TT):Prop:=
 ∀(pins:ZB)(s:P1)(σ:St)(H:Hp)(Q:Bool->Hp->Prop)(E:XV),Inv X pins σ H s->t σ H Q →
  wpAny (model X.prog X.w) X.A (forIn cs true λc r=>if r=true then do let ok←isTrue c X.env (eval c X.env);pure (ForInStep.yield ok) else pure (ForInStep.yield r)) (TP X pins σ Q) E s
def Jt:TT:=λ_ H Q=>Q true H
def Qv{X:Cx}:PTs X [] Jt:=λpins s σ H Q E I h=>wpAny_tests_nil ⟨H,I,h⟩
def Qw{X:Cx}{c:Expr}{t:TT}(h:PT X c t)(hx:X.xe=λ_ _=>False:=by rfl):PTs X [c] t:=λpins s σ H Q E I q=>
 wpAny_tests_one (wpAny_mono (h pins s σ H Q I q) (λ_ _ z=>z) λe s' z=>by rw[hx]at z;exact z.elim)
def lV(js:List (Option Nat))(g:TG)(tt:TT)(te:TE)(σ:St)(J:It)(H1:Hp)(Q:List V->Hp->Prop):Prop:=
 ∃W:Nat->Nat->List V->Hp->Prop,(∃m,W 0 m [] H1)/\∀i m ys H,W i m ys H →
  (J.stop i H/\Q ys H)∨
  (J.go i H/\ys.length<sizeLine/\∃N:List V->Hp->Prop,(∀AW H',N AW H'->∃m',m'<m/\W (i+1) m' AW H') ∧
   ∀x H',J.yld i H x H'->g x (xK js σ) H' λσ2 H2=>tt σ2 H2 λb H3=>if b=true then te σ2 H3 λy H4=>N (ys++[y]) H4 else N ys H3)
def Uk(wi:TI)(js:List (Option Nat))(g:TG)(tt:TT)(te:TE):TE:=λσ H Q=>wi σ H λJ H1=>
 lV js g tt te σ J H1 λys H2=>∀p,H2 p=none->Q (.ref p) (aI H2 p (.lst ys))
def Ul(i:Nat)(wi:TI)(js:List (Option Nat))(g:TG)(tt:TT)(te:TE):TS:=λD σ H=>wi σ H λJ H1=>
 lV js g tt te σ J H1 λys H2=>∀p,H2 p=none->D.nx (σ.set i (some (.ref p))) (aI H2 p (.lst ys))
section
variable {X:Cx}{tg iter elt:Expr}{ifs:List Expr}{scope:Scope}{N:List Str}{js:List (Option Nat)}{wi:TI}{g:TG}{tt:TT}{te:TE}{pos:Pos}
def qQ{pins:ZB}{σ:St}{H2:Hp}{s2:P1}{it:TD}{fp:List TD}{tn:Nat->Heap->Prop}{J:It}{Qf:List V->Hp->Prop}{RR:Q2->TD->Result->P1->Prop}{E:XV}(hc:X.calm=true)(S:CompScope X scope N js)(go:Ae js g)(hb:∀(C:TD)(s₂:P1)(H₂:Hp)(fp:List TD),PG (nT X scope C N s₂ H₂ fp) tg g/\PTs (nT X scope C N s₂ H₂ fp) ifs tt/\PE (nT X scope C N s₂ H₂ fp) elt te)(I2:Inv X pins σ H2 s2)(T:pK X.prog X.w X.K tg J fp it tn)(yr:tn 0 s2.heap)(f2:∀b∈fp,nX X pins H2 b)(hw:lV js g tt te σ J H2 Qf)(WC:∀(C D:TD)(ys:List V)(H3:Hp)(s3:P1)(m:V5),s2.heap.objs.size<=C->s2.heap.objs.size<=D->D≠C->Inv X pins σ (aI H3 D (.lst ys)) s3->H3 C=none->H3 D=none->s3.heap.Ns C m->Qf ys H3->RR (.ref D) C (.ok .next) s3) :
  wpAny (model X.prog X.w) X.A (newList []) (λacc s₃=>wpAny (model X.prog X.w) X.A (newFunctionEnv scope X.env.globals (kN X.env scope.names []) [] X.env.qual none .none (some X.env)) (λFX s₄=>
   codeAny (model X.prog X.w) X.A (.compStart (.ListComp elt [⟨tg,iter,ifs,0⟩] scope pos) 0 (.ref it) acc {FX with scope:=relabel scope X.env }) (RR acc FX.locals) s₄) E s₃) E s2:=by
 obtain⟨W,⟨m0,w0⟩,turn⟩:=hw;refine wpAny_newObj_type (wpAny_newFunctionEnv S.nocell (by intro y hy;simp at hy) (λh₁ yz zc=>?_) S.kind);dsimp only at yz zc ⊢;generalize LO:s2.heap.push {cls:=.type "list",dict:=none,data:=.seq ([]:List Q2).toArray }=HP at yz zc ⊢;have hC:HP.objs.size=s2.heap.objs.size+1:=by rw[<- LO,Heap.size_push]
 have vo:s2.heap.objs.size≠HP.objs.size:=by rw[hC];exact ne_of_lt (lt_succ_self _)
 have BS:s2.heap.objs.size<=HP.objs.size:=by rw[hC];exact le_succ _
 have old:∀b o,s2.heap.get? b=some o->h₁.get? b=some o:=λb o e=>zc.extBut b o (by rw[hC];exact ne_of_lt (lt_succ_of_lt (Heap.lt_size e))) (eG _ (LO▸eG _ e))
 have vp:h₁.get? s2.heap.objs.size=some {cls:=.type "list",data:=.seq ([]:List Q2).toArray 0 }:=zc.extBut _ _ vo (eG _ (LO▸TW _ rfl));have ya:∀b∈fp,b<s2.heap.objs.size:=λb hb=>by
  obtain⟨o,e,_⟩:=T.obj _ _ yr b hb;exact Heap.lt_size e
 generalize PF:s2.heap.objs.size=D at vo BS vp ⊢;generalize hCn:HP.objs.size=C at vo BS yz ⊢;have JB:s2.heap.objs.size<=C:=by rw[PF];exact BS
 have BU:s2.heap.objs.size<=D:=le_of_eq PF;obtain⟨pg,pt,pe⟩:=hb C s2 H2 fp;have I0:=S.start (D:=D) (fp:=fp) (tk:=s2.toks+([]:List (Str×Q2)).length) I2 JB BU vo f2 ya old yz vp (λv z=>nomatch z);have LP:∀ {H':Hp}{pl:ZB},(∀b∈fp,H' b=none)->(∀p∈pl,p.1∉fp)->∀b∈fp,nX (nT X scope C N s2 H2 fp) pl H' b:=λhn hp b hb=>
  ⟨hn b hb,ne_of_lt (QZU (ya b hb) JB),(S.ok I2 JB f2 ya).exfs b hb,.inl hb,λx c e=>(f2 b hb).2.2.2.2.1 x c (eC e).1,λp hm z=>by
   rcases Zma.mp hm with q|q
   ·exact QZY (show p∈([]:List (TD×Obj)) from q) Zs
   ·exact hp p q (z ▸ hb)⟩
 have PH:D∉fp:=λz=>QZY (QZU (ya D z) BU) (lt_irrefl _)
 have one:∀ {ob:Obj},∀p∈[(D,ob)],p.1∉fp:=λp hp=>by
  have e:=Zms.mp hp;subst e;exact PH
 have loop:∀s₃:P1,s₃={s2 with heap:=h₁,toks:=s2.toks+([]:List (Str×Q2)).length } →
   codeAny (model X.prog X.w) X.A (.compLoop (.ListComp elt [⟨tg,iter,ifs,0⟩] scope pos) 0 (.ref it) (.ref D) (compEnvC scope (kN X.env scope.names []) C X.env)) (RR (.ref D) C) s₃:=by
  rintro s₃ rfl;refine codeAny_loop rfl (λn s'=>∃(i:Nat)(ys:List V)(H':Hp)(its:List Q2)(k:Nat),Inv (nT X scope C N s2 H2 fp) [(D,{cls:=.type "list",data:=.seq its.toArray k })] (xK js σ) H' s'/\Vals ys its/\ys.length<=sizeLine/\tn i s'.heap/\(∀b∈fp,H' b=none)/\W i n ys H') ?_ m0 ?_
  ·rintro n s3 ⟨i,ys,H3,its,k,I3,rv,hz,FK,FL,w3⟩;show wpAny _ X.A ((compTurn (.ListComp elt [⟨tg,iter,ifs,0⟩] scope pos) 0 (.ref it) (.ref D) (compEnvC scope (kN X.env scope.names []) C X.env)).onRaise (λx=>do noteFrame x _;theTreesLotGoes x)) _ _ s3;refine wpAny_noted (wpAny_noRaise ?_);rw[compTurn_list];rcases turn i n ys H3 w3 with⟨stop,qn⟩|⟨LQ,q9,Nx,hN,step⟩
   ·refine V4 (wpAny_standAt (V4 (cA (T.done (nT X scope C N s2 H2 fp) rfl rfl rfl hc i _ s3 (xK js σ) H3 (λ_ _=>False) I3 (LP FL one) FK stop) ?_)));rintro r s4 ⟨hr,I4⟩;subst hr;refine V3 ?_;have pD:=I4.pin (D,{cls:=.type "list",data:=.seq its.toArray k }) (by simp[nT]);obtain⟨mC,WD,_⟩:=id I4.loc;have IX:Inv X pins σ (aI H3 D (.lst ys)) s4:=by
     refine I2.call' (ch:=fp) I4.os (Un.more I4.base (Heap.get?_none_of_le BU) (I2.hok.fresh BU)) (HOk.more I4.hok pD.2.1 ⟨hz,its,k,rv,pD.1⟩) I4.bare λb hb=>?_;obtain⟨_,f1,_,f3,f4,f5⟩:=f2 b hb;exact⟨f3,f1,f4,f5⟩
    exact WC C D ys H3 s4 mC JB BU vo IX I4.free pD.2.1 WD qn
   ·refine V4 (wpAny_standAt (V4 (cA (T.item (nT X scope C N s2 H2 fp) rfl rfl rfl hc i _ s3 (xK js σ) H3 (λ_ _=>False) I3 (LP FL one) FK LQ) ?_)));rintro r s4 ⟨u,hr,h4⟩;subst hr;refine V4 (cA h4 ?_);rintro _ s5 ⟨x,H5,I5,r5,y5,BN,LC⟩;have LD:=I5.pinned (LP LC one) (T.obj _ _ BN);refine V4 (cA (pg _ s5 (xK js σ) H5 x u _ LD r5 (go _ _ _ _ (step x H5 y5))) ?_);rintro _ s6 ⟨σ6,H6,I6,⟨q6,l6,e6⟩⟩;have weak:∀ {pl:ZB}{H7:Hp}{s7:P1},Inv (nT X scope C N s2 H2 fp) pl σ6 H7 s7->Inv (nT X scope C N s2 H2 fp) pl (xK js σ) H7 s7:=λ{pl H7 s7} I7=>by
     refine I7.weak l6.symm λj v hj=>?_
     cases e:js[j]? with
     | none=>unfold xK at hj;rw[fA,e]at hj;cases hj
     | some o=>
      cases o with
      | none=>unfold xK at hj;rw[fA,e]at hj;cases hj
      | some j'=>rw[e6 j j' e];exact hj
    have AX:∀ {H7:Hp}{s7:P1}{pl:ZB},Inv (nT X scope C N s2 H2 fp) (pl++qG fp s5.heap) (xK js σ) H7 s7->tn (i+1) s7.heap/\∀b∈fp,H7 b=none:=λ{H7 s7 pl} I7=>by
     refine⟨T.keep _ _ _ BN λb hb o e=>(I7.pin (b,o) (QZV _ (QZV _ (jJ hb e)))).1,λb hb=>?_⟩;obtain⟨o,e,d⟩:=T.obj _ _ BN b hb;exact(I7.pin (b,o) (QZV _ (QZV _ (jJ hb e)))).2.1
    refine V4 (cA (pt _ s6 σ6 H6 _ _ I6 q6) ?_);rintro ok s7 ⟨H7,I7,q7⟩
    cases ok with
    | false=>
     rw[QZZ V2]at q7;refine V3 ⟨rfl,?_⟩;obtain⟨m',hm,w7⟩:=hN ys H7 q7;have PJ:=weak I7;obtain⟨k1,k2⟩:=AX PJ;exact⟨m',hm,i+1,ys,H7,its,k,PJ.unpinned,rv,hz,k1,k2,w7⟩
    | true=>
     rw[P0 rfl]at q7;show wpAny _ _ ((eval elt _>>=λx=>call (.builtin "list.append") [.ref D,x]>>=λ_=>pure ())>>=λ_=>again _) _ _ _;refine V4 (V4 (cA (pe _ s7 σ6 H7 _ I7 q7) ?_));rintro y s8 ⟨yv,H8,I8,r8,q8⟩;obtain⟨m',hm,w8⟩:=hN (ys++[yv]) H8 q8;have LR:=weak I8;obtain⟨k1,k2⟩:=AX LR;have pD:=LR.pin (D,{cls:=.type "list",data:=.seq its.toArray k }) (by simp[nT]);have PK:=rv.length;refine V4 (call_meets F.slot_list_append ⟨_,pD.1,rfl⟩ F.entry_list_append (F.args_list_append_2 _ _) (PySem.list_append D its.toArray k y (by rw[eB];omega)) ⟨pD.1,?_⟩);refine V3 (V3 ⟨rfl,m',hm,i+1,ys++[yv],H8,its++[y],?_⟩);have q:=PySem.IsL.update pD.1 (λz=>z.push y);have eA:its.toArray.push y=(its++[y]).toArray:=by simp
     rw[eA]at q;have I9:Inv (nT X scope C N s2 H2 fp) [] (xK js σ) H8 s8:=LR.pins_of λp hp=>QZY hp Zs
     have AY:∀b o,b≠D->s8.heap.get? b=some o->(s8.heap.update D (Obj.mapSeq λz=>z.push y)).get? b=some o:=λb o hb hu=>(Heap.get?_update_other s8.heap _ (Ne.symm hb)).trans hu
     have WE:Inv (nT X scope C N s2 H2 fp) [] (xK js σ) H8 {s8 with heap:=s8.heap.update D (Obj.mapSeq λz=>z.push y),toks:=s8.toks }:=I9.turned AY pD.2.1 pD.2.2.1 (.inr BU)
      (λx c e z=>by
       obtain⟨v,oc,q1,q2⟩:=I2.cell x c (eC e).1;rw[z]at q1;exact QZY (QZU (Heap.lt_size q1) BU) (lt_irrefl _))
      (λp hp=>by
       rcases Zma.mp hp with q|q
       ·exact QZY (show p∈([]:List (TD×Obj)) from q) Zs
       ·exact QZY q Zs)
     refine⟨(if ((its++[y]).toArray).size==its.toArray.size then k else k+1),WE.pins_of λp hp=>?_,rv.append (.cons r8 .nil),?_,?_,k2,w8⟩
     ·have e:=Zms.mp hp;subst e;exact⟨q,pD.2.1,pD.2.2.1,pD.2.2.2.1,λv z=>nomatch z⟩
     ·rw[mO,length_singleton];omega
     ·exact T.keep _ _ _ k1 λb hb o e=>AY b o (λz=>PH (z▸hb)) e
  ·exact⟨0,[],H2,[],0,I0,.nil,zero_le _,T.keep _ _ _ yr λb _ o e=>old b o e,λb hb=>(f2 b hb).1,w0⟩
 exact codeAny_compStart_list (loop _ rfl) (T.self _ 0 _ _ _ (T.keep _ _ _ yr λb _ o e=>old b o e) (loop _ rfl))
def Qx(hc:X.calm=true)(S:CompScope X scope N js)(go:Ae js g)(hi:PI X tg iter wi)(hb:∀(C:TD)(s₂:P1)(H₂:Hp)(fp:List TD),PG (nT X scope C N s₂ H₂ fp) tg g/\PTs (nT X scope C N s₂ H₂ fp) ifs tt/\PE (nT X scope C N s₂ H₂ fp) elt te)(hs:∀x,foldedSetIterable iter X.env x=pure x:=by intro _;rfl):PE X (.ListComp elt [⟨tg,iter,ifs,0⟩] scope pos) (Uk wi js g tt te):=by
 intro pins s σ H Q I h;rw[eval_ListComp];refine wpAny_comprehension_free (use:=none) rfl hs (qO λy hy hk=>I.ok.has y.1 (S.out y hy hk)) S.kind S.loc (cA (hi pins s σ H _ I h) λv s1 h1=>cA h1 λIV s2 h2=>?_);obtain⟨it,fp,tn,J,H2,e,I2,T,yr,f2,hw⟩:=h2;subst e;refine qQ (RR:=λacc C=>compPost (model X.prog X.w) X.A X.xe none (EP X pins σ Q) acc C) hc S go hb I2 T yr f2 hw ?_;intro C D ys H3 s3 m hC hD vo I3 fC fD hn q;refine⟨m,hn,λh' DY=>?_⟩;refine⟨.ref D,aI H3 D (.lst ys),I3.turned (it:=C) (t':=s3.toks) (λb o hb e=>(DY.2 b hb).trans e) (by rw[aB (Ne.symm vo)];exact fC) ?_ (.inr (eI I2.sz hC)) ?_ ?_,rfl,q D fD⟩
 ·exact ne_of_gt (QZU I2.lt hC)
 ·intro x c e z;obtain⟨v,oc,q1,q2⟩:=I2.cell x c e;rw[z]at q1;exact QZY (QZU (Heap.lt_size q1) hC) (lt_irrefl _)
 ·intro p hp z;have:=Heap.lt_size (I2.pin p hp).1;rw[z]at this;exact QZY (QZU this hC) (lt_irrefl _)
def Qy{i:Nat}{y:Str}{py vq:Pos}(hN:X.N.Nodup)(hy:X.N[i]?=some y)(hx:Ty X.env.scope y)(hc:X.calm=true)(S:CompScope X scope N js)(go:Ae js g)(hi:PI X tg iter wi)(hb:∀(C:TD)(s₂:P1)(H₂:Hp)(fp:List TD),PG (nT X scope C N s₂ H₂ fp) tg g/\PTs (nT X scope C N s₂ H₂ fp) ifs tt/\PE (nT X scope C N s₂ H₂ fp) elt te)(LS:swapsWith (.ListComp elt [⟨tg,iter,ifs,0⟩] scope pos) (some (.Name y py)) vq.line X.env=pure true)(hs:∀x,foldedSetIterable iter X.env x=pure x:=by intro _;rfl)(hf:X.fn y=true∨X.env.scope.names.lookup y=some .local:=by first|exact .inl rfl|exact .inr rfl|assumption) :
  PS X (.Assign [.Name y py] (.ListComp elt [⟨tg,iter,ifs,0⟩] scope pos) vq) (Ul i wi js g tt te):=by
 intro pins s σ H D I h;rw[exec_Assign_Name_used _ _ _ _ LS];refine V4 (wpAny_standAt (V4 ?_));show wpAny _ X.A (do let _ ← comprehension (.ListComp elt [⟨tg,iter,ifs,0⟩] scope pos) scope X.env _ (newList []) false (eval iter X.env) (some (assign (.Name y py) X.env))) _ _ s;refine V4 (cA (wpAny_comprehension_free (use:=some (assign (.Name y py) X.env)) (Q:=λ_ s'=>SP X pins D .next s') rfl hs (qO λy hy hk=>I.ok.has y.1 (S.out y hy hk)) S.kind S.loc
  (cA (hi pins s σ H _ I h) λv s1 h1=>cA h1 λIV s2 h2=>?_)) λ_ s' hq=>V3 (V3 hq))
 obtain⟨it,fp,tn,J,H2,e,I2,T,yr,f2,hw⟩:=h2;subst e;refine qQ (RR:=λacc C=>compPost (model X.prog X.w) X.A X.xe (some (assign (.Name y py) X.env)) (λ_ s'=>SP X pins D .next s') acc C) hc S go hb I2 T yr f2 hw ?_;intro C Da ys H3 s3 m hC hD vo I3 fC fD hn q;have cne:∀x c,X.env.cells.lookup x=some c->c≠C:=λx c e z=>by
  obtain⟨v,oc,q1,q2⟩:=I2.cell x c e;rw[z]at q1;exact QZY (QZU (Heap.lt_size q1) hC) (lt_irrefl _)
 have PL:C≠X.env.locals:=ne_of_gt (QZU I2.lt hC);show wpAny _ X.A (assign (.Name y py) X.env (.ref Da)) _ _ _;refine wpAny_assign_Name (tJ (v:=.ref Da) I3 hN hy hx rfl (λs4 I4 LU=>?_) hf);obtain⟨a,WH,ha⟩:=LU;have aC:C≠a:=by
  rcases ha with z|z
  ·rw[z];exact PL
  ·exact Ne.symm (cne y a z)
 refine⟨m,hn.sameBut WH aC,λh' DY=>?_⟩;refine⟨_,_,I4.turned (it:=C) (t':=s4.toks) (λb o hb e=>(DY.2 b hb).trans e) (by rw[aB (Ne.symm vo)];exact fC) PL (.inr (eI I2.sz hC)) cne ?_,q Da fD⟩;intro p hp z;have:=Heap.lt_size (I2.pin p hp).1;rw[z]at this;exact QZY (QZU this hC) (lt_irrefl _)
end
def Its(x:Str):It:=⟨λi _=>i<x.cps.size,λi H v H'=>H'=H/\∃c,x.cps[i]?=some c/\v=.str ⟨#[c]⟩,λi _=>x.cps.size<=i⟩
def Af{P:Program}{w:World}{K:W.Frag}{tg:Expr}(it:TD)(x:Str)(t:Tok):pK P w K tg (Its x) [it] it (λi h=>h.IsStrIter it "str_ascii_iterator" x t i) where
 mem:=by simp
 obj:=λi h st b hb=>by
  have e:b=it:=by simpa using hb
  subst e;obtain⟨o,e,c,d⟩:=st;exact⟨o,e,λv z=>by rw[d]at z;cases z⟩
 keep:=λi h h' st k=>let ⟨o,ho,r⟩:=st;⟨o,k it Zs o ho,r⟩
 item:=by
  intro X hP hw hK hc i pins s σ H E I hf st hg;subst hP hw hK;obtain⟨f0,f1,f2,f3,f4,f5⟩:=hf it Zs;have hi:i<x.cps.size:=hg;refine wpAny_pyNext_ascii_item st (c:=x.cps[i]) (by simp[hi]) λh' J1 sb=>?_;have I1:Inv X pins σ H {s with heap:=h',toks:=s.toks+1 }:=I.turned (λb o hb e=>(sb.2 b hb).trans e) f0 f1 f3 f4 f5;obtain⟨o,e,c,d⟩:=id J1;exact⟨_,rfl,oZ (s:={s with heap:=h',toks:=s.toks+1 }) e c d Zd ⟨.str ⟨#[x.cps[i]]⟩,H,I1,⟨_,rfl⟩,⟨rfl,_,by simp[hi],rfl⟩,J1,λb hb=>(hf b hb).1⟩⟩
 done:=by
  intro X hP hw hK hc i pins s σ H E I hf st hg;subst hP hw hK;obtain⟨f0,f1,f2,f3,f4,f5⟩:=hf it Zs;have hi:x.cps.size<=i:=hg;exact wpAny_pyNext_ascii_end (I.ok.hd hc) st (by simp[hi]) λh' eb=>⟨rfl,I.turned (t':=s.toks) (λb o hb e=>eb b o hb e) f0 f1 f3 f4 f5⟩
 self:=λ_ _ _ _ _ st h=>wpAny_pyIter_striter_ascii st h
def Fo{P:Program}{w:World}{K:W.Frag}{tg:Expr}(it:TD)(x:Str)(t:Tok):pK P w K tg (Its x) [it] it (λi h=>h.IsStrIter it "str_iterator" x t i) where
 mem:=by simp
 obj:=λi h st b hb=>by
  have e:b=it:=by simpa using hb
  subst e;obtain⟨o,e,c,d⟩:=st;exact⟨o,e,λv z=>by rw[d]at z;cases z⟩
 keep:=λi h h' st k=>let ⟨o,ho,r⟩:=st;⟨o,k it Zs o ho,r⟩
 item:=by
  intro X hP hw hK hc i pins s σ H E I hf st hg;subst hP hw hK;obtain⟨f0,f1,f2,f3,f4,f5⟩:=hf it Zs;have hi:i<x.cps.size:=hg;refine wpAny_pyNext_wide_item st (c:=x.cps[i]) (by simp[hi]) λh' J1 sb=>?_;have I1:Inv X pins σ H {s with heap:=h',toks:=s.toks+1 }:=I.turned (λb o hb e=>(sb.2 b hb).trans e) f0 f1 f3 f4 f5;obtain⟨o,e,c,d⟩:=id J1;exact⟨_,rfl,oZ (s:={s with heap:=h',toks:=s.toks+1 }) e c d Zd ⟨.str ⟨#[x.cps[i]]⟩,H,I1,⟨_,rfl⟩,⟨rfl,_,by simp[hi],rfl⟩,J1,λb hb=>(hf b hb).1⟩⟩
 done:=by
  intro X hP hw hK hc i pins s σ H E I hf st hg;subst hP hw hK;obtain⟨f0,f1,f2,f3,f4,f5⟩:=hf it Zs;have hi:x.cps.size<=i:=hg;exact wpAny_pyNext_wide_end (I.ok.hd hc) st (by simp[hi]) λh' eb=>⟨rfl,I.turned (t':=s.toks) (λb o hb e=>eb b o hb e) f0 f1 f3 f4 f5⟩
 self:=λ_ _ _ _ _ st h=>wpAny_pyIter_striter_wide st h
section
variable {X:Cx}{tg:Expr}
def aAT(tl:TE):TI:=λσ H R=>tl σ H λx H1=>∃z,x=.str z/\R (Its z) H1
def Xg{l:Expr}{tl:TE}(hl:PE X l tl):PI X tg l (aAT tl):=by
 intro pins s σ H R I h;refine cA (hl pins s σ H _ I h) ?_;rintro v s1 ⟨x,H1,I1,r1,q1⟩
 obtain⟨z,rfl,q⟩:=q1;obtain⟨t,rfl⟩:=r1;have fp:∀b∈[s1.heap.objs.size],nX X pins H1 b:=λb hb=>by
  have e:b=s1.heap.objs.size:=by simpa using hb
  subst e;exact I1.fpOk (aY _) (I1.hok.fresh (aY _))
 cases ha:z.cps.all (·<128)
 ·refine wpAny_pyIter_wide ha ?_;exact⟨s1.heap.objs.size,[s1.heap.objs.size],_,_,H1,rfl,I1.kept (t':=s1.toks) λb o e=>eG _ e,Fo _ z t,⟨_,TW _ rfl,rfl,rfl⟩,fp,q⟩
 ·refine wpAny_pyIter_ascii ha ?_;exact⟨s1.heap.objs.size,[s1.heap.objs.size],_,_,H1,rfl,I1.kept (t':=s1.toks) λb o e=>eG _ e,Af _ z t,⟨_,TW _ rfl,rfl,rfl⟩,fp,q⟩
end
abbrev tx(l:List Nat):Str:=⟨l.toArray⟩
def Ag(x:Str):tx x.cps.toList=x:=by cases x;simp
def gY(l:List Nat):(tx l).length=l.length:=by simp[Str.length]
def vK(a b:List Nat):tx a++tx b=tx (a++b):=by
 show Str.append (tx a) (tx b)=_;unfold Str.append;simp
def kC{α:Type}(xs:List α)(lo hi:Option Int):List α:=(xs.drop (HT.sIx xs.length 0 lo)).take (HT.sIx xs.length xs.length hi-HT.sIx xs.length 0 lo)
def Cj(n d:Nat)(v:Option Int):(match v with|none=>(d:Int)|some i=>max 0 (min (if i<0 then i+(n:Int) else i) (n:Int)))=((HT.sIx n d v:Nat):Int):=by
 cases v with
 | none=>rfl
 | some i=>
  show max 0 (min (if i<0 then i+(n:Int) else i) (n:Int))=(((if i<0 then (i+(n:Int)).toNat else min i.toNat n):Nat):Int);by_cases h:i<0
  ·rw[P0 h,P0 h];omega
  ·rw[QZZ h,QZZ h];omega
def Ju(lo hi:Option Int)(n:Nat):Builtin.Str.strSliceIndices lo hi 1 n=(List.range (HT.sIx n n hi-HT.sIx n 0 lo)).map (HT.sIx n 0 lo+·):=by
 rw[<- sliceRange_one,<- Cj n 0 lo,<- Cj n n hi];unfold Builtin.Str.strSliceIndices;simp only [show(1:Int)>0 by decide,if_true];cases lo<;>cases hi<;>rfl
def Qz(n d:Nat)(hd:d<=n)(v:Option Int):HT.sIx n d v<=n:=by
 cases v with
 | none=>exact hd
 | some i=>
  show(if i<0 then (i+(n:Int)).toNat else min i.toNat n)<=n;split<;>omega
def Fp(x:Str)(lo hi:Option Int):(Txt.slice x lo hi).cps.toList=kC x.cps.toList lo hi:=by
 have hl:x.cps.toList.length=x.length:=by simp[Str.length]
 unfold Txt.slice kC;rw[hl,Ju];have key:=pick_run x.cps (HT.sIx x.length 0 lo) (HT.sIx x.length x.length hi-HT.sIx x.length 0 lo);split
 ·rename_i h;have h2:(HT.sIx x.length x.length hi-HT.sIx x.length 0 lo)=x.length:=by simpa using h
  have h3:=Qz x.length x.length (aY _) hi;have h4:HT.sIx x.length 0 lo=0∨x.length=0:=by omega
  rw[h2];rcases h4 with h4|h4
  ·rw[h4,drop_zero,iB (by rw[hl];exact aY _)]
  ·have e:x.cps.toList=[]:=List.eq_nil_of_length_eq_zero (by rw[hl];exact h4);rw[e];simp
 ·simpa using key
def Jv(x:Str)(lo hi:Option Int):Txt.slice x lo hi=tx (kC x.cps.toList lo hi):=by
 rw[<- Fp,Ag]
section
variable {X:Cx}
def aCb:V->Option Int->Option Int->Hp->VK->Prop:=λx lo hi H Q=>∃z,x=.str z/\z.length<=sizeLine/\Q (.str (tx (kC z.cps.toList lo hi))) H
def Ah{h:Heap}{sl:TD}{vl vu:Q2}{lo hi:Option Int}(hs:h.IsSliceOf sl vl vu .none)(pl:IsPart vl lo)(pu:IsPart vu hi):∃l u:Option (Int×Tok),h.IsSlice sl l u none/\l.map (·.1)=lo/\u.map (·.1)=hi:=by
 cases pl with
 | none=>
  cases pu with
  | none=>exact⟨none,none,hs,rfl,rfl⟩
  | int j t=>exact⟨none,some (j,t),hs,rfl,rfl⟩
 | int i t=>
  cases pu with
  | none=>exact⟨some (i,t),none,hs,rfl,rfl⟩
  | int j u=>exact⟨some (i,t),some (j,u),hs,rfl,rfl⟩
def Xh:SlR X aCb:=by
 intro pins s σ H x v vl vu lo hi sl Q I rx hs pl pu h;obtain⟨z,rfl,hz,q⟩:=h;obtain⟨t,rfl⟩:=rx;obtain⟨l,u,hS,e1,e2⟩:=Ah hs pl pu;refine⟨"str",_,F.slot_str_getitem.lookup,typeIs_str _ _ _,wpAny_getItem_str_slice hS rfl ?_⟩;have fin:∀t' k,EP X pins σ Q (.str (Txt.slice z lo hi) t') {s with toks:=k }:=λt' k=>⟨.str (tx (kC z.cps.toList lo hi)),H,I.tok _,⟨t',by rw[Jv]⟩,q⟩
 subst e1 e2;exact post_val_or_str ⟨eI (Txt.slice_le z _ _) hz,λt' k=>fin t' k⟩
def lZ{ns:List Str}:∀ {us:List Q2},Vals (ns.map V.str) us->StrsAre us ns:=by
 induction ns with
 | nil=>intro us r;rw[map_nil]at r;cases r;exact .nil
 | cons n ns ih=>
  intro us r;rw[map_cons]at r;cases r with
  | cons r1 r2=>
   obtain⟨t,e⟩:=r1;subst e;exact .cons n t (ih r2)
def Jw(K:W.Frag):V->List V->Hp->VK->Prop:=λx vs H Q=>∃sep p ys,x=.str sep/\vs=[.ref p]/\SqL K H p (ys.map V.str)/\(ys.map (·.length)).sum+ys.length*sep.length<=16777216/\Q (.str (Txt.join sep ys)) H
def Rf:MtR X "str.join" (Jw X.K):=by
 intro pins s σ H x vs v us Q I rx rv h;obtain⟨sep,p,ys,rfl,rfl,hq,hz,q⟩:=h;obtain⟨t,rfl⟩:=rx;obtain⟨u,rfl,ru⟩:=rv.one;cases ru;obtain⟨its,r,pl,_⟩:=I.list hq;exact join_list pl.isList (by simpa using lZ r) hz λt' k=>⟨.str _,H,I.tok _,⟨_,rfl⟩,q⟩
def aCc(K:W.Frag):List V->Hp->VK->Prop:=λvs H Q=>∃x T t b,vs=[x,.ty T]/\mP K H x t/\W.kitOne K t (.type T)=some b/\Q (.bl b) H
def Jx:CallR X (.builtin "isinstance") (aCc X.K):=by
 intro pins s σ H xs us Q I r h;obtain⟨x,T,t,b,rfl,ty,e,q⟩:=h;obtain⟨u,c,rfl,ru,rc⟩:∃u c,us=[u,c]/\RelV x u/\RelV (.ty T) c:=by
  cases r with
  | cons p q=>
   cases q with
   | cons p' q'=>
    cases q';exact⟨_,_,rfl,p,p'⟩
 cases(show c=Value.type T from rc);exact Fc I ru ty e λtk=>⟨.bl b,H,I.tok _,rfl,q⟩
def xM{ns:List Bool}:∀ {us:List Q2},Vals (ns.map V.bl) us->PyProof.Rows.LSm.BoolsAre us ns:=by
 induction ns with
 | nil=>intro us r;rw[map_nil]at r;cases r;exact .nil
 | cons n ns ih=>
  intro us r;rw[map_cons]at r;cases r with
  | cons r1 r2=>
   have e:=r1;cases(show _=Value.bool n from e);exact .cons n (ih r2)
def Xi(K:W.Frag):List V->Hp->VK->Prop:=λvs H Q=>∃(p:TD)(bs:List Bool),vs=[.ref p]/\SqL K H p (bs.map V.bl)/\Q (.bl (bs.all id)) H
def Xj(K:W.Frag):List V->Hp->VK->Prop:=λvs H Q=>∃(p:TD)(ns:List Int),vs=[.ref p]/\SqL K H p (ns.map V.int)/\Q (.int (List.sum ns)) H
def Jy(hc:X.calm=true):CallR X (.builtin "all") (Xi X.K):=by
 intro pins s σ H xs us Q I r h;obtain⟨p,bs,rfl,hq,q⟩:=h;obtain⟨u,rfl,ru⟩:=jA r;cases ru;obtain⟨its,rv,pl,hz⟩:=I.list hq;have hl:=pl.isList;have hb:=xM rv;have q9:p<s.heap.objs.size:=by obtain⟨_,e,_⟩:=hl;exact Heap.lt_size e
 refine call_all_walk (wpAny_pyIter_list hl ?_);refine⟨s.heap.objs.size,[s.heap.objs.size,p],[s.heap.objs.size],its.toArray.size,_,_,λi=>(bs[i]?).getD true,rfl,Walks.list (A:=X.A.in1) (I.ok.hd hc) _ p (ne_of_lt q9) its.toArray,
  ⟨⟨_,TW _ rfl,rfl,rfl⟩,hl.push _⟩,λi v s' Q' E' hP hQ=>?_,λh' tk hk=>?_⟩
 ·obtain⟨b,e,rfl⟩:=hb.get i v (by simpa using hP);simp only [e,Option.getD_some]at hQ;exact wpAny_truthy_bool hQ
 ·have e:((List.range its.toArray.size).all λi=>(bs[i]?).getD true)=bs.all id:=by
   rw[eB,hb.length];exact PyProof.Rows.LSm.range_all bs
  rw[e];exact⟨.bl _,H,I.kept (PyProof.Rows.LSm.kept_iter hk),rfl,q⟩
def Jz(hc:X.calm=true):CallR X (.builtin "sum") (Xj X.K):=by
 intro pins s σ H xs us Q I r h;obtain⟨p,ns,rfl,hq,q⟩:=h;obtain⟨u,rfl,ru⟩:=jA r;cases ru;obtain⟨its,rv,pl,hz⟩:=I.list hq;have hi:=qJ rv;obtain⟨xs,hx⟩:=hi.allInts.items;have ue:s.heap.IsList p (intItems xs):=hx▸pl.isList;refine sum_intListG (I.ok.hd hc) ue λh' tk t' hk=>?_;have e1:ns=xs.toList.map (·.1):=by
  rw[<- nums_intItems,<- hx];exact(show numsOf its.toArray.toList=ns from hi.numsOf).symm
 have e2:preSum (numAt xs) xs.size=ns.sum:=by
  rw[preSum_eq,iB Zs,e1]
 rw[e2];exact⟨.int _,H,I.kept hk,⟨_,rfl⟩,q⟩
end
section
variable {X:Cx}
def oF(K:W.Frag)(neg:Bool):R2:=λx y H Q=>∃(a b:TD)(xs:List V),x=.ref a/\y=.ref b/\SqL K H a xs/\SqL K H b []/\Q (.bl (if neg then !xs.isEmpty else xs.isEmpty)) H
def lC{us:List Q2}(r:Vals [] us):us=[]:=by cases r;rfl
def Ka(hu:X.A.units<cLine):OpR X (compareOp .Eq) (oF X.K false):=by
 intro pins s σ H x y v u Q I rx ry h;obtain⟨a,b,xs,rfl,rfl,h1,h2,q⟩:=h;cases rx;cases ry;obtain⟨its,r1,p1,_⟩:=I.list h1;obtain⟨a9,r2,p2,_⟩:=I.list h2;have e2:=lC r2;subst e2;have hl:=r1.length
 cases xs with
 | nil=>
  have e1:=lC r1;subst e1;exact SeqAt.eq_listAt (e:=λ_=>true) p1.isList p2.isList rfl hu (λj h=>QZY h Zs) ⟨.bl true,H,I,rfl,q⟩
 | cons z zs=>
  exact SeqAt.eq_list_lengthsAt p1.isList p2.isList (by simp only [eB,<- hl];simp) hu ⟨.bl false,H,I,rfl,q⟩
def Kb(hu:X.A.units<cLine):OpR X (compareOp .NotEq) (oF X.K true):=by
 intro pins s σ H x y v u Q I rx ry h;obtain⟨a,b,xs,rfl,rfl,h1,h2,q⟩:=h;cases rx;cases ry;obtain⟨its,r1,p1,_⟩:=I.list h1;obtain⟨a9,r2,p2,_⟩:=I.list h2;have e2:=lC r2;subst e2;have hl:=r1.length
 cases xs with
 | nil=>
  have e1:=lC r1;subst e1;exact SeqAt.RcNeAt.lists (e:=λ_=>true) p1.isList p2.isList rfl hu (λj h=>QZY h Zs) _ _ _ _ ⟨.bl false,H,I,rfl,q⟩
 | cons z zs=>
  exact SeqAt.RcNeAt.lists_lengths p1.isList p2.isList (by simp only [eB,<- hl];simp) hu _ _ _ _ ⟨.bl true,H,I,rfl,q⟩
end
def mB(x:V)(k:Bool->Prop):Prop:=match x with|.bl b=>k b|_=>False
def mI(x:V)(k:Int->Prop):Prop:=match x with|.int b=>k b|_=>False
def mS(x:V)(k:Str->Prop):Prop:=match x with|.str b=>k b|_=>False
def mR(x:V)(k:TD->Prop):Prop:=match x with|.ref b=>k b|_=>False
def xN(x:V)(k:Bool->Prop):mB x k=∃b,x=.bl b/\k b:=by
 cases x<;>simp[mB]
def mZ(x:V)(k:Int->Prop):mI x k=∃b,x=.int b/\k b:=by
 cases x<;>simp[mI]
def qR(x:V)(k:Str->Prop):mS x k=∃b,x=.str b/\k b:=by
 cases x<;>simp[mS]
def dD(x:V)(k:TD->Prop):mR x k=∃b,x=.ref b/\k b:=by
 cases x<;>simp[mR]
def eT{n:Nat}(h:Nat.ble n 1000=true):n<=sizeLine:=eI (QZX h) Zd
def gB{n:Nat}(h:n<=1000):n<=sizeLine:=eI h Zd
section
variable {X:Cx}{a b c e:Expr}{ta tb tc te:TE}{pos:Pos}
def vr(i:Nat):TE:=λσ H Q=>match σ[i]? with|some (some v)=>Q v H|_=>False
def aAU(i:Nat):vr i=Vn i:=by
 funext σ H Q
 unfold vr Vn;apply propext
 cases σ[i]? with
 | none=>simp
 | some o=>cases o<;>simp
def xv(i:Nat){x:Str}{pos:Pos}(hN:X.N[i]?=some x:=by rfl)(hv:Vis X.env.scope x:=by first|exact Or.inl rfl|exact Or.inr (Or.inl rfl)|exact Or.inr (Or.inr rfl))(hd:(x==("__debug__":Str))=false:=by decide)(og:(x==("__classdict__":Str))=false:=by decide):PE X (.Name x pos) (vr i):=by
 rw[aAU];exact Vo hN hv hd og
def OpR.imp{f:Q2->Q2->Sem Value}{r r':R2}(h:OpR X f r)(hi:∀x y H Q,r' x y H Q->r x y H Q):OpR X f r':=λpins s σ H x y v u Q I rx ry q=>h pins s σ H x y v u Q I rx ry (hi x y H Q q)
def UnR.imp{f:Q2->Sem Value}{r r':V->Hp->VK->Prop}(h:UnR X f r)(hi:∀x H Q,r' x H Q->r x H Q):UnR X f r':=λpins s σ H x v Q I rx q=>h pins s σ H x v Q I rx (hi x H Q q)
def CallR.imp{f:Q2}{r r':List V->Hp->VK->Prop}(h:CallR X f r)(hi:∀xs H Q,r' xs H Q->r xs H Q):CallR X f r':=λpins s σ H xs us Q I rs q=>h pins s σ H xs us Q I rs (hi xs H Q q)
def IxR.imp{r r':R2}(h:IxR X r)(hi:∀x y H Q,r' x y H Q->r x y H Q):IxR X r':=λvalue slice pins s σ H x y v u Q I rx ry q=>h value slice pins s σ H x y v u Q I rx ry (hi x y H Q q)
def SlR.imp{r r':V->Option Int->Option Int->Hp->VK->Prop}(h:SlR X r)(hi:∀x l u H Q,r' x l u H Q->r x l u H Q):SlR X r':=λpins s σ H x v vl vu lo K8 sl Q I rx hs pl pu q=>h pins s σ H x v vl vu lo K8 sl Q I rx hs pl pu (hi x lo K8 H Q q)
def m2(C:Int->Int->Prop)(g:Int->Int->V):R2:=λx y H Q=>mI x λi=>mI y λj=>C i j/\Q (g i j) H
def zQ(g:Int->Int->V):R2:=λx y H Q=>mI x λi=>mI y λj=>Q (g i j) H
def lD{g:Int->Int->V}(x y:V)(H:Hp)(Q:VK)(h:zQ g x y H Q):Pz g x y H Q:=by
 unfold zQ at h;rw[mZ]at h;obtain⟨i,rfl,h⟩:=h;rw[mZ]at h;obtain⟨j,rfl,h⟩:=h;exact⟨i,j,rfl,rfl,h⟩
def vL{C:Int->Int->Prop}{g:Int->Int->V}(x y:V)(H:Hp)(Q:VK)(h:m2 C g x y H Q):rI C g x y H Q:=by
 unfold m2 at h;rw[mZ]at h;obtain⟨i,rfl,h⟩:=h;rw[mZ]at h;obtain⟨j,rfl,hc,h⟩:=h;exact⟨i,j,rfl,rfl,hc,h⟩
def aAV:OpR X (binaryOp .Add) (zQ λi j=>.int (i+j)):=Wk.imp lD
def aAW:OpR X (binaryOp .Sub) (zQ λi j=>.int (i-j)):=Wl.imp lD
def aAX:OpR X (binaryOp .Mult) (m2 CMul λi j=>.int (i*j)):=Wm.imp vL
def aAY:OpR X (binaryOp .Mod) (m2 (λ_ j=>0<j) λi j=>.int (i%j)):=Wn.imp vL
def aAZ:OpR X (binaryOp .Pow) (m2 Wj λi j=>.int (i^j.toNat)):=Wo.imp vL
def aCd:OpR X (compareOp .Lt) (zQ λi j=>.bl (decide (i<j))):=Ud.imp lD
def aCe:OpR X (compareOp .LtE) (zQ λi j=>.bl (decide (i<=j))):=aAE.imp lD
def aCf:OpR X (compareOp .Gt) (zQ λi j=>.bl (decide (j<i))):=aAF.imp lD
def aCg:OpR X (compareOp .GtE) (zQ λi j=>.bl (decide (j<=i))):=aAG.imp lD
def Kc:R2:=λx y H Q=>mS x λi=>mS y λj=>i.length+j.length<=sizeLine/\Q (.str (i++j)) H
def Xk:OpR X (binaryOp .Add) Kc:=zT.imp λx y H Q h=>by
 unfold Kc at h;rw[qR]at h;obtain⟨i,rfl,h⟩:=h;rw[qR]at h;obtain⟨j,rfl,hc,h⟩:=h;exact⟨i,j,rfl,rfl,hc,h⟩
def mEq:R2:=λx y H Q=>match x,y with
 | .int i,.int j=>Q (.bl (decide (i=j))) H
 | .str i,.str j=>Q (.bl (decide (i=j))) H
 | .bl i,.bl j=>Q (.bl (decide (i=j))) H
 | .non,.non=>Q (.bl true) H
 | .int _,.non=>Q (.bl false) H|.non,.int _=>Q (.bl false) H
 | .str _,.non=>Q (.bl false) H|.non,.str _=>Q (.bl false) H
 | .bl _,.non=>Q (.bl false) H|.non,.bl _=>Q (.bl false) H
 | .int _,.str _=>Q (.bl false) H|.str _,.int _=>Q (.bl false) H
 | .bl _,.str _=>Q (.bl false) H|.str _,.bl _=>Q (.bl false) H
 | _,_=>False
def mNe:R2:=λx y H Q=>match x,y with
 | .int i,.int j=>Q (.bl (!decide (i=j))) H
 | .str i,.str j=>Q (.bl (!decide (i=j))) H
 | .bl i,.bl j=>Q (.bl (!decide (i=j))) H
 | .non,.non=>Q (.bl false) H
 | .int _,.non=>Q (.bl true) H|.non,.int _=>Q (.bl true) H
 | .str _,.non=>Q (.bl true) H|.non,.str _=>Q (.bl true) H
 | .bl _,.non=>Q (.bl true) H|.non,.bl _=>Q (.bl true) H
 | .int _,.str _=>Q (.bl true) H|.str _,.int _=>Q (.bl true) H
 | .bl _,.str _=>Q (.bl true) H|.str _,.bl _=>Q (.bl true) H
 | _,_=>False
def aCi:OpR X (compareOp .Eq) mEq:=Ub.imp λx y H Q h=>by
 unfold rEq;cases x<;>cases y<;>first|exact h.elim|exact⟨rfl,h⟩|(refine⟨rfl,?_⟩;have h:Q (.bl _) H:=h;simpa using h)
def aCj:OpR X (compareOp .NotEq) mNe:=Uc.imp λx y H Q h=>by
 unfold rNe;cases x<;>cases y<;>first|exact h.elim|exact⟨rfl,h⟩|(refine⟨rfl,?_⟩;have h:Q (.bl _) H:=h;simpa using h)
def Xl(neg:Bool):R2:=λx y H Q=>mS x λi=>mS y λj=>∃c,i=tx [c]/\Q (.bl (if neg then !decide (c∈j.cps.toList) else decide (c∈j.cps.toList))) H
def aA0:OpR X (compareOp .In) (Xl false):=Ev.imp λx y H Q h=>by
 unfold Xl at h;rw[qR]at h;obtain⟨i,rfl,h⟩:=h;rw[qR]at h;obtain⟨j,rfl,c,rfl,h⟩:=h;refine⟨_,j,rfl,rfl,?_⟩;have e:=StrLaws.found_one j c;have e':(!(Builtin.Str.occurrences j (tx [c]) 0 j.length 1).isEmpty)=decide (c∈j.cps.toList):=e;rw[e'];exact h
def aA1:OpR X (compareOp .Is) (λx y H Q=>match y with|.non=>Q (.bl (decide (x=.non))) H|_=>False):=Wr.imp λx y H Q h=>by
 cases y<;>first|exact⟨rfl,h⟩|exact h.elim
def Xm:OpR X (compareOp .IsNot) (λx y H Q=>match y with|.non=>Q (.bl (!decide (x=.non))) H|_=>False):=Qb.imp λx y H Q h=>by
 cases y<;>first|exact⟨rfl,h⟩|exact h.elim
def mT(t:TE):TT:=λσ H Q=>t σ H λx H'=>mB x λk=>Q k H'
def Um(t:TE):mT t=Bw t:=by
 funext σ H Q
 unfold mT Bw;congr 1
 funext x H'
 exact xN x _
def Xn(t:TE):mT t=tB t:=by
 funext σ H Q
 unfold mT tB;congr 1
 funext x H'
 exact xN x _
def aA2{op:CmpOp}{r:R2}(ho:OpR X (compareOp op) r)(ha:PE X a ta)(hb:PE X b tb)(hm:behindInMarks op b=false:=by first|exact uW _|rfl):PT X (.Compare a [op] [b] pos) (mT (sJ r ta tb)):=by
 rw[Um];exact Qd ho ha hb hm
def aA3{op:CmpOp}{r:R2}(ho:OpR X (compareOp op) r)(ha:PE X a ta)(hb:PE X b tb)(hm:behindInMarks op b=false:=by first|exact uW _|rfl):PE X (.Compare a [op] [b] pos) (sJ r ta tb):=Qc ho ha hb hm
def oG(r r':R2)(ta tb tc:TE):TE:=λσ H Q=>ta σ H λx H1=>tb σ H1 λy H2=>r x y H2 λz H3=>mB z λk=>(if k=true then tc σ H3 λw' H4=>r' y w' H4 Q else Q (.bl false) H3)
def tV(r r':R2)(ta tb tc:TE):oG r r' ta tb tc=uX r r' ta tb tc:=by
 funext σ H Q
 unfold oG uX;congr 1
 funext x H1
 congr 1
 funext y H2
 congr 1
 funext z H3
 exact xN z _
def Rg{op Q8:CmpOp}{r r':R2}(ho:OpR X (compareOp op) r)(P2:OpR X (compareOp Q8) r')(ha:PE X a ta)(hb:PE X b tb)(hc:PE X c tc)(hm:lastMarks [op,Q8] [b,c]=false:=by with_unfolding_all rfl):PE X (.Compare a [op,Q8] [b,c] pos) (oG r r' ta tb tc):=by
 rw[tV];exact Iu ho P2 ha hb hc hm
def Rh{op Q8:CmpOp}{r r':R2}(ho:OpR X (compareOp op) r)(P2:OpR X (compareOp Q8) r')(ha:PE X a ta)(hb:PE X b tb)(hc:PE X c tc)(hm:lastMarks [op,Q8] [b,c]=false:=by with_unfolding_all rfl):PT X (.Compare a [op,Q8] [b,c] pos) (mT (oG r r' ta tb tc)):=by
 rw[Um,tV];exact Iv ho P2 ha hb hc hm
def aA4{t:TE}(h:PE X e t)(he:∀whole,isTrue e X.env whole=(do let v←whole;standAt e.pos;holding [v] (truthy v)):=by intro _;rfl):PT X e (mT t):=by
 rw[Xn];exact Vs h he
def Ck(ta tb:TE):TE:=λσ H Q=>ta σ H λx H1=>mB x λc=>if c=true then tb σ H1 Q else Q (.bl false) H1
def Ri(ta tb:TE):TE:=λσ H Q=>ta σ H λx H1=>mB x λc=>if c=true then Q (.bl true) H1 else tb σ H1 Q
def aA5{rest:List Expr}(ha:PE X a ta)(hb:PE X (.BoolOp .And (b::rest) pos) tb):PE X (.BoolOp .And (a::b::rest) pos) (Ck ta tb):=by
 have:Ck ta tb=Ij ta tb:=by
  funext σ H Q;unfold Ck Ij;congr 1;funext x H1;exact xN x _
 rw[this];exact Vy ha hb
def aCk{rest:List Expr}(ha:PE X a ta)(hb:PE X (.BoolOp .Or (b::rest) pos) tb):PE X (.BoolOp .Or (a::b::rest) pos) (Ri ta tb):=by
 have:Ri ta tb=Vw ta tb:=by
  funext σ H Q;unfold Ri Vw;congr 1;funext x H1;exact xN x _
 rw[this];exact aAv ha hb
def aA6(ha:PE X a ta):PE X (.UnaryOp .USub a pos) (tUn (λx H Q=>mI x λi=>Q (.int (-i)) H) ta):=aAC (Wp.imp λx H Q h=>by
 rw[mZ]at h;obtain⟨i,rfl,h⟩:=h;exact⟨i,rfl,h⟩) ha
def Rj(K:W.Frag):R2:=λx y H Q=>mR x λp=>mI y λi=>∃xs,SqL K H p xs/\∃v,mU xs i=some v/\Q v H
def sN(K:W.Frag):R2:=λx y H Q=>mR x λp=>mI y λi=>∃xs,SqT K H p xs/\∃v,mU xs i=some v/\Q v H
def Xo:R2:=λx y H Q=>mS x λz=>mI y λi=>z.length<=sizeLine/\∃c,mU z.cps.toList i=some c/\Q (.str (tx [c])) H
def Xp:IxR X (Rj X.K):=Qn.imp λx y H Q h=>by
 unfold Rj at h;rw[dD]at h;obtain⟨p,rfl,h⟩:=h;rw[mZ]at h;obtain⟨i,rfl,xs,hq,v,hv,h⟩:=h;exact⟨p,xs,i,v,rfl,rfl,hq,hv,h⟩
def aA7:IxR X (sN X.K):=Wy.imp λx y H Q h=>by
 unfold sN at h;rw[dD]at h;obtain⟨p,rfl,h⟩:=h;rw[mZ]at h;obtain⟨i,rfl,xs,hq,v,hv,h⟩:=h;exact⟨p,xs,i,v,rfl,rfl,hq,hv,h⟩
def aA8:IxR X Xo:=Wz.imp λx y H Q h=>by
 unfold Xo at h;rw[qR]at h;obtain⟨z,rfl,h⟩:=h;rw[mZ]at h;obtain⟨i,rfl,hz,c,hc,h⟩:=h;exact⟨z,i,c,rfl,rfl,hz,hc,h⟩
def aCl{r:R2}(hr:IxR X r)(ha:PE X a ta)(hb:PE X b tb)(hs:vB b:=by exact λ_ _=>rfl):PE X (.Subscript a b pos) (sJ r ta tb):=aAM hr ha hb hs
def Cl(t:TE):TO:=λσ H Q=>t σ H λx H1=>mI x λi=>Q (some i) H1
def Xq(h:PE X e te):PO X (some e) (Cl te):=by
 have:Cl te=Ja te:=by
  funext σ H Q;unfold Cl Ja;congr 1;funext x H1;exact mZ x _
 rw[this];exact Ql h
def Xr:V->Option Int->Option Int->Hp->VK->Prop:=λx lo hi H Q=>mS x λz=>z.length<=sizeLine/\Q (.str (tx (kC z.cps.toList lo hi))) H
def aA9:SlR X Xr:=Xh.imp λx l u H Q h=>by
 unfold Xr at h;rw[qR]at h;obtain⟨z,rfl,hz,h⟩:=h;exact⟨z,rfl,hz,h⟩
def Rk(K:W.Frag):V->Option Int->Option Int->Hp->VK->Prop:=λx lo hi H Q=>mR x λa=>∃xs,SqL K H a xs/\∀p,H p=none->Q (.ref p) (aI H p (.lst (kC xs lo hi)))
def Xs:SlR X (Rk X.K):=Qo.imp λx l u H Q h=>by
 unfold Rk at h;rw[dD]at h;obtain⟨a,rfl,xs,hq,h⟩:=h;exact⟨a,xs,rfl,hq,h⟩
def Xt:CallR X (.builtin "len") (λvs H Q=>match vs with|[.str z]=>z.length<=sizeLine/\Q (.int z.length) H|_=>False):=vF.imp λvs H Q h=>by
 split at h
 ·rename_i z;exact⟨z,rfl,h.1,h.2⟩
 ·exact h.elim
def Xu:CallR X (.builtin "len") (λvs H Q=>match vs with|[.ref p]=>∃ys,(SqL X.K H p ys∨SqT X.K H p ys)/\Q (.int ys.length) H|_=>False):=vE.imp λvs H Q h=>by
 split at h
 ·rename_i p;obtain⟨ys,hq,h⟩:=h;exact⟨p,ys,rfl,hq,h⟩
 ·exact h.elim
def aBa:CallR X (.type "int") (λvs H Q=>match vs with|[.bl k]=>Q (.int (if k then 1 else 0)) H|_=>False):=Ey.imp λvs H Q h=>by
 split at h
 ·rename_i k;exact .inr ⟨k,rfl,h⟩
 ·exact h.elim
end
inductive Kd where|non|bl|int|str|lst|tup|dct
def Rl:Kd->String|.non=>"NoneType"|.bl=>"bool"|.int=>"int"|.str=>"str"|.lst=>"list"|.tup=>"tuple"|.dct=>"dict"
def Uo(H:Hp):V->Kd->Prop
 | .non,.non=>True|.bl _,.bl=>True|.int _,.int=>True|.str _,.str=>True
 | .ref a,.lst=>(∃xs,H a=some (.lst xs))∨∃o xs,H a=some (.frz o (.lst xs))
 | .ref a,.tup=>∃xs,H a=some (.tup xs)
 | .ref a,.dct=>∃kvs,H a=some (.dK kvs)
 | _,_=>False
def isK:Kd->Kd->Bool|.non,.non=>true|.bl,.bl=>true|.int,.int=>true|.int,.bl=>true|.str,.str=>true|.lst,.lst=>true|.tup,.tup=>true|.dct,.dct=>true|_,_=>false
def aBc(K:W.Frag)(want k:Kd):W.kitOne K (.type (Rl k)) (.type (Rl want))=some (isK want k):=by
 cases want<;>cases k<;>first|rfl|kernel_rfl
def aCm{K:W.Frag}{H:Hp}{x:V}{k:Kd}(h:Uo H x k):mP K H x (.type (Rl k)):=by
  cases x<;>cases k<;>first
    | exact h.elim
    | exact .non
    | exact .bl _
    | exact .int _
    | exact .str _
    | (obtain⟨xs,e⟩:=h;exact .tup e)
    | (obtain⟨xs,e⟩:=h;exact .dK e)
    | (rcases h with⟨xs,e⟩ | ⟨o,xs,e⟩
       . exact .lst e
       . exact .frz e)
def Xv(want:Kd):List V->Hp->VK->Prop:=λvs H Q=>match vs with
 | [x,y]=>y=.ty (Rl want)/\∃k,Uo H x k/\Q (.bl (isK want k)) H
 | _=>False
section
variable {X:Cx}
def aBd(want:Kd):CallR X (.builtin "isinstance") (Xv want):=Jx.imp λvs H Q h=>by
 unfold Xv at h;split at h
 ·rename_i x y;obtain⟨rfl,k,hk,h⟩:=h;exact⟨x,_,_,_,rfl,aCm hk,aBc X.K want k,h⟩
 ·exact h.elim
variable {e:Expr}{te:TE}{p p2 pos:Pos}{T:Str}
def Xw(want:Kd)(te:TE):TE:=λσ H Q=>te σ H λx H1=>∃k,Uo H1 x k/\Q (.bl (isK want k)) H1
def aBe(want:Kd)(he:PE X e te)(hg:Gl X "isinstance")(hm:X.mg "isinstance"=none)(FY:Gl X T)(FZ:X.mg T=none)(hT:bootBuiltins T=some (.type (Rl want)))(hs:starEach [e,.Name T p2] X.env=(false,eval e X.env)::starEach [.Name T p2] X.env:=by rfl)(T9:starEach [.Name T p2] X.env=(false,eval (.Name T p2) X.env)::starEach [] X.env:=by rfl)(hn:T≠"__name__":=by decide)(hd:(T==("__debug__":Str))=false:=by decide)(qz:(backTo pos (starEach [.Name T p2] X.env)).any (·.1)=false:=by rfl) :
  PE X (.Call (.Name "isinstance" p) [e,.Name T p2] [] pos) (Xw want te):=by
 have h:=xD (X:=X) (x:="isinstance") (p:=p) (pos:=pos) (aBd want) hg hm PyProof.Rows.boot_isinstance (uZ he (uZ (Pn (v:=.ty (Rl want)) (pos:=p2) FY FZ hT rfl hn hd) uY T9) hs) Zd Zd hs qz;intro pins s σ H Q I q;exact h pins s σ H Q I (by
  show te σ H _;have:(λ(x:V) (H1:Hp)=>Xv want [x,.ty (Rl want)] H1 Q)=(λx H1=>∃k,Uo H1 x k/\Q (.bl (isK want k)) H1):=by
   funext x H1
   apply propext;constructor
   ·rintro⟨_,z⟩;exact z
   ·intro z;exact⟨rfl,z⟩
  exact this ▸ q)
end
structure aG(P:Program)(w:World)(K:W.Frag)(mg:V5)(base:Heap)(n:Nat)(x:Str)(ps:List Str)(sp:Sp):Prop where
 ex:∃(f:TD)(fd:FuncData),kK P w K mg base tS n f fd ps sp/\mg x=some (.ref f)/\W.keepIn K (.ref f)=true/\Binds K fd ps []
section
variable {X:Cx}{n:Nat}{x:Str}{ps:List Str}{sp:Sp}{p pos:Pos}{e:Expr}{es:List Expr}{t:TA}
def tFn(sp:Sp)(t:TA):TE:=λσ H Q=>t σ H λvs H1=>sp vs H1 Q E0
def aCo(c:aG X.prog X.w X.K X.mg X.base n x ps sp)(hr:Room n X.A)(hg:Gl X x)(ha:PA X (e::es) t)(M0:(x==("__debug__":Str))=false:=by decide)(he:starEach (e::es) X.env=(false,eval e X.env)::starEach es X.env:=by rfl)(qz:(backTo pos (starEach es X.env)).any (·.1)=false:=by rfl):PE X (.Call (.Name x p) (e::es) [] pos) (tFn sp t):=by
 obtain⟨f,fd,F,hm,hk,hb⟩:=c.ex;have h:=Qi (X:=X) (p:=p) (pos:=pos) (E:=E0) F hr hg hm hk hb (dvs:=[]) .nil xH ha M0 he qz;intro pins s σ H Q I q;exact h pins s σ H Q I (by
  show t σ H _;have:(λ(vs:List V) (H1:Hp)=>sp (vs++[]) H1 Q E0)=(λvs H1=>sp vs H1 Q E0):=by
   funext vs H1;rw[append_nil]
  rw[this];exact q)
end
structure DefAt(K:W.Frag)(mg:V5)(x:Str)(st:Stmt)(ps:List Str):Prop where
 ex:∃(f:TD)(fd:FuncData),Fun K x x st f fd/\mg x=some (.ref f)/\Binds K fd ps []
def DefAt.ok{P:Program}{w:World}{K:W.Frag}{mg:V5}{base:Heap}{x:Str}{st:Stmt}{N ps:List Str}{k:Nat}{sp:Sp}(D:DefAt K mg x st ps)(S:aK N ps (aD st))(len:∀vs H Q E,sp vs H Q E->vs.length=ps.length)(u3:∀(f:TD)(cdv:Q2)(A:Around)(outer:List Env)(s:P1)(H:Hp)(vs:List V)(Q:VK)(E:XK),Room k (A.deeper (envOfC x (aD st) s.heap.objs.size f cdv))->sp vs H Q E →
   ∃t,PSs (mQ tS P w K mg base N x (aD st) f cdv A outer s H E).nox (bH st) t/\t {nx:=λ_ H'=>Q .non H',rt:=Q } (start N vs) H):aG P w K mg base (k+1) x ps sp:=by
 obtain⟨f,fd,F,hm,hb⟩:=D.ex;exact⟨f,fd,F.ok S len (u3 f),hm,F.kp,hb⟩
def Ke(AZ:Scope)(N0:List Str)(scope:Scope)(N:List Str)(js:List (Option Nat)):Bool:=
 (scope.kind == .function)&&scope.names.all (λy=>y.2 != .cell)&&scope.names.all (λy=>y.2 != .local||scope.names.lookup y.1==some .local)&&(js.length==N.length)&&
 (List.range js.length).all (λi=>match js[i]? with|some (some j)=>(match N[i]? with|some x=>N0[j]? == some x&&scope.names.lookup x==some .free|none=>false)|_=>true)&&
 scope.names.all (λy=>y.2 != .free||AZ.names.lookup y.1==some .cell||AZ.names.lookup y.1==some .free)
def CompScope.by{X:Cx}{scope:Scope}{N:List Str}{js:List (Option Nat)}(AZ:Scope)(N0:List Str)(h0:X.env.scope=AZ)(hN:X.N=N0)(ok:Ke AZ N0 scope N js=true):CompScope X scope N js:=by
 unfold Ke at ok;simp only [Bool.and_eq_true]at ok;obtain⟨⟨⟨⟨⟨h1,h2⟩,h3⟩,h4⟩,h5⟩,h6⟩:=ok;refine⟨by simpa using h1,λy hy=>?_,λy hy hk=>?_,by simpa using h4,λi j e=>?_,λy hy hk=>?_⟩
 ·have:=all_eq_true.mp h2 y hy;simpa using this
 ·have:=all_eq_true.mp h3 y hy;rw[hk]at this;simpa using this
 ·have hi:i<js.length:=(Zgs.mp e).1;have:=all_eq_true.mp h5 i (mem_range.mpr hi);rw[e]at this;cases q:N[i]? with
  | none=>simp[q]at this
  | some x=>
   simp only [q,Bool.and_eq_true,beq_iff_eq]at this;exact⟨x,rfl,by rw[hN];exact this.1,this.2⟩
 ·have:=all_eq_true.mp h6 y hy;rw[hk]at this;have z:(AZ.names.lookup y.1==some .cell)=true∨(AZ.names.lookup y.1==some .free)=true:=by simpa using this
  have ek:X.env.kindOf y.1=AZ.names.lookup y.1:=by rw[<- h0];rfl
  rw[ek];rcases z with z|z
  ·exact .inl (by simpa using z)
  ·exact .inr (by simpa using z)
def aW:Expr->Bool|.Starred _ _=>false|_=>true
def bQ{e:Expr}{es:List Expr}{env:Env}(h:aW e=true):starEach (e::es) env=(false,eval e env)::starEach es env:=by
 cases e<;>first|rfl|cases h
def gZ{es:List Expr}{env:Env}{pos:Pos}(h:es.all aW=true):(backTo pos (starEach es env)).any (·.1)=false:=by
 induction es with
 | nil=>rfl
 | cons e es ih=>
  rw[all_cons,Bool.and_eq_true]at h;rw[bQ h.1];have:=ih h.2;show(false||(backTo pos (starEach es env)).any (·.1))=false;rw[this];rfl
section
variable {X:Cx}{e o:Expr}{es:List Expr}{te to:TE}{t:TA}{x:Str}{p pos apos cpos:Pos}{id T:String}{r:List V->Hp->VK->Prop}
def vM(ha:PE X e te)(hr:PA X es t)(h:aW e=true:=by rfl):PA X (e::es) (kJ te t):=uZ ha hr (bQ h)
def Rm(hc:CallR X (.builtin id) r)(hg:Gl X x)(hm:X.mg x=none)(hv:bootBuiltins x=some (.builtin id))(ha:PA X (e::es) t)(hn:x≠"__name__":=by decide)(M0:(x==("__debug__":Str))=false:=by decide)(h1:aW e=true:=by rfl)(h2:es.all aW=true:=by rfl):PE X (.Call (.Name x p) (e::es) [] pos) (tCB r t):=xD hc hg hm hv ha hn M0 (bQ h1) (gZ h2)
def Kf(hc:CallR X (.type T) r)(hg:Gl X x)(hm:X.mg x=none)(hv:bootBuiltins x=some (.type T))(ha:PA X (e::es) t)(hn:x≠"__name__":=by decide)(M0:(x==("__debug__":Str))=false:=by decide)(h1:aW e=true:=by rfl)(h2:es.all aW=true:=by rfl):PE X (.Call (.Name x p) (e::es) [] pos) (tCB r t):=Fe hc hg hm hv ha hn M0 (bQ h1) (gZ h2)
def aBf{n:Nat}{ps:List Str}{sp:Sp}(c:aG X.prog X.w X.K X.mg X.base n x ps sp)(hr:Room n X.A)(hg:Gl X x)(ha:PA X (e::es) t)(M0:(x==("__debug__":Str))=false:=by decide)(h1:aW e=true:=by rfl)(h2:es.all aW=true:=by rfl):PE X (.Call (.Name x p) (e::es) [] pos) (tFn sp t):=aCo c hr hg ha M0 (bQ h1) (gZ h2)
def Kg{es:List Expr}{env:Env}{cpos:Pos}(h:es.all aW=true):(backTo cpos (starEach es env)).all (λx=>!x.1)=true:=by
 induction es with
 | nil=>rfl
 | cons e es ih=>
  rw[all_cons,Bool.and_eq_true]at h;rw[bQ h.1];show(!false&&(backTo cpos (starEach es env)).all (λx=>!x.1))=true;rw[ih h.2];rfl
def aCp{name:Str}{r:V->List V->Hp->VK->Prop}(pa:PlainAttrs T)(slot:Slot T name id)(yw:typeOf (.builtin id)=pure (.type "method_descriptor"))(hm:MtR X id r)(ho:PE X o to)(ha:PA X (e::es) t)(C3:attributeBase o name X.env (eval o X.env)=eval o X.env:=by rfl)(C4:(apos.endLine==cpos.line)=true:=by rfl)(h1:aW e=true:=by rfl)(h2:es.all aW=true:=by rfl)(hn:es.length+1<30:=by decide) :
  PE X (.Call (.Attribute o name apos) (e::es) [] cpos) (tBM X.K T r to t):=by
 refine aAN pa slot yw hm ho ha C3 ?_ C4 (bQ h1) (gZ h2);rw[Kg (by rw[all_cons,h1,h2];rfl)];show(true&&true&&decide (es.length+1+0+0<30))=true;simp;omega
def Xx{p2:Pos}{T:Str}(want:Kd)(he:PE X e te)(hg:Gl X "isinstance")(hm:X.mg "isinstance"=none)(FY:Gl X T)(FZ:X.mg T=none)(hT:bootBuiltins T=some (.type (Rl want)))(hn:T≠"__name__":=by decide)(hd:(T==("__debug__":Str))=false:=by decide)(h1:aW e=true:=by rfl):PE X (.Call (.Name "isinstance" p) [e,.Name T p2] [] pos) (Xw want te):=
 aBe want he hg hm FY FZ hT (bQ h1) (bQ rfl) hn hd (gZ rfl)
end
def cD:bootBuiltins "len"=some (.builtin "len"):=by decide +kernel
def Kh:bootBuiltins "all"=some (.builtin "all"):=by decide +kernel
def Xy:bootBuiltins "sum"=some (.builtin "sum"):=by decide +kernel
def lE:bootBuiltins "sorted"=some (.builtin "sorted"):=by decide +kernel
def oH:bootBuiltins "max"=some (.builtin "max"):=by decide +kernel
def Xz:bootBuiltins "min"=some (.builtin "min"):=by decide +kernel
def Cm:bootBuiltins "list"=some (.type "list"):=by decide +kernel
def Ki:bootBuiltins "str"=some (.type "str"):=by decide +kernel
def oI:bootBuiltins "int"=some (.type "int"):=by decide +kernel
def Rn:bootBuiltins "bool"=some (.type "bool"):=by decide +kernel
def Kj:bootBuiltins "tuple"=some (.type "tuple"):=by decide +kernel
def vN:bootBuiltins "dict"=some (.type "dict"):=by decide +kernel
structure Dk(H:Hp)(d b:TD):Prop where
 ex:∃(ns:List Int)(s k:Int),H d=some (.lst [.ref b,.int s,.int k])/\H b=some (.lst (ns.map V.int))/\ns.length<=63
def Kp(d b:TD)(H H':Hp):Prop:=∀c o,H c=some o->c≠d->c≠b->H' c=some o
def Kp.refl{d b:TD}{H:Hp}:Kp d b H H:=λ_ _ e _ _=>e
def Kp.trans{d b:TD}{H H1 H2:Hp}(x:Kp d b H H1)(y:Kp d b H1 H2):Kp d b H H2:=λc o e h1 h2=>y c o (x c o e h1 h2) h1 h2
def Kp.new{d b p:TD}{H:Hp}{o:HO}(h:H p=none):Kp d b H (aI H p o):=λc u e _ _=>by rw[aB (aE e h)];exact e
def Dk.new{d b p:TD}{H:Hp}{o:HO}(x:Dk H d b)(h:H p=none):Dk (aI H p o) d b:=by
 obtain⟨ns,s,k,h1,h2,h3⟩:=x.ex;exact⟨ns,s,k,by rw[aB (aE h1 h)];exact h1,by rw[aB (aE h2 h)];exact h2,h3⟩
def Kk(K:W.Frag):Sp:=λvs H Q _=>∃(a:TD)(ns:List Int),vs=[.ref a]/\SqL K H a (ns.map V.int)/\∀d b H',H d=none->H b=none->Dk H' d b->Same H H'->Q (.ref d) H'
end L2
namespace L2
def Fq{c:Bool}{A B:Prop}(h:c=true)(k:A):if c=true then A else B:=by rw[P0 h];exact k
def vO{c:Bool}{A B:Prop}(h:c=false)(k:B):if c=true then A else B:=by rw[QZZ (by rw[h];exact V2)];exact k
def bG{c:Bool}{A B:Prop}(ht:c=true->A)(hf:c=false->B):if c=true then A else B:=by
 cases h:c with
 | true=>rw[P0 rfl];exact ht h
 | false=>rw[QZZ V2];exact hf h
open PySem PySem.Spec PyProof.Rows
structure sO(J:It)(xs:List V)(A:Hp->Prop):Prop where
 go:∀i H,i<xs.length->A H->J.go i H
 yld:∀i H x H',i<xs.length->A H->J.yld i H x H'->H'=H/\xs[i]?=some x
 stop:∀H,A H->J.stop xs.length H
def tW(x:Str):List V:=x.cps.toList.map λc=>V.str (tx [c])
def Rp(x:Str):sO (Its x) (tW x) (λ_=>True):=by
 have hl:(tW x).length=x.cps.size:=by simp[tW]
 refine⟨λi H hi _=>by rw[hl]at hi;exact hi,λi H v H' _ _ ⟨e,c,hc,ev⟩=>⟨e,?_⟩,λH _=>by rw[hl];exact aY _⟩;subst ev;unfold tW;rw[fA,Array.getElem?_toList,hc];rfl
def kO(lo:Int)(n:Nat):List V:=(List.range n).map λ(i:Nat)=>V.int (lo+(i:Int))
def gP(lo:Int)(n:Nat):sO (Itr lo n) (kO lo n) (λ_=>True):=by
 have hl:(kO lo n).length=n:=by simp[kO]
 refine⟨λi H hi _=>by rw[hl]at hi;exact hi,λi H v H' hi _ ⟨e,ev⟩=>⟨e,?_⟩,λH _=>by rw[hl];exact aY _⟩;subst ev;rw[hl]at hi;unfold kO;rw[fA,List.getElem?_range hi];rfl
def aX(K:W.Frag)(a:TD)(xs:List V):sO (Itl K a) xs (λH=>SqL K H a xs):=
 ⟨λi H hi h=>⟨xs,xs[i],h,by simp[hi]⟩,λi H x H' _ h ⟨e,y⟩=>⟨e,y xs h⟩,λH h=>⟨xs,h,aY _⟩⟩
def vP(K:W.Frag)(a:TD)(xs:List V):sO (Itt K a) xs (λH=>SqT K H a xs):=
 ⟨λi H hi h=>⟨xs,xs[i],h,by simp[hi]⟩,λi H x H' _ h ⟨e,y⟩=>⟨e,y xs h⟩,λH h=>⟨xs,h,aY _⟩⟩
def aV{J:It}{xs:List V}{A:Hp->Prop}{js:List (Option Nat)}{g:TG}{tt:TT}{te:TE}{σ:St}{H:Hp}{Q:List V->Hp->Prop}(S:sO J xs A)(hz:xs.length<=100000)(Pv:Nat->List V->Hp->Prop)(hA:∀i ys H,Pv i ys H->A H/\ys.length<=i)(h0:Pv 0 [] H)(hs:∀i x ys H,xs[i]?=some x->Pv i ys H->g x (xK js σ) H λσ2 H2=>tt σ2 H2 λb H3=>if b=true then te σ2 H3 λy H4=>Pv (i+1) (ys++[y]) H4 else Pv (i+1) ys H3)(hd:∀ys H,Pv xs.length ys H->Q ys H):lV js g tt te σ J H Q:=by
 refine⟨λi m ys H=>m=xs.length-i/\i<=xs.length/\Pv i ys H,⟨xs.length,Zs,zero_le _,h0⟩,?_⟩;rintro i m ys H ⟨rfl,hi,p⟩;obtain⟨pa,hy⟩:=hA i ys H p;by_cases q9:i<xs.length
 ·refine .inr ⟨S.go i H q9 pa,nS (m:=100000) Zo Zd,Pv (i+1),λAW H' p'=>⟨xs.length-(i+1),Zo,rfl,q9,p'⟩,λx H' y=>?_⟩;obtain⟨rfl,hx⟩:=S.yld i H x H' q9 pa y;exact hs i x ys H' hx p
 ·have e:i=xs.length:=by omega
  subst e;exact .inl ⟨S.stop H pa,hd ys H p⟩
def Fs{J:It}{xs:List V}{A:Hp->Prop}{js:List (Option Nat)}{g:TG}{tt:TT}{te:TE}{σ:St}{H:Hp}{Q:List V->Hp->Prop}(S:sO J xs A)(hz:xs.length<=100000)(p:V->Bool)(f:V->V)(hA:A H)(hs:∀(x:V)(ys:List V)(N:List V->Hp->Prop),x∈xs->(p x=true->N (ys++[f x]) H)->(p x=false->N ys H)->g x (xK js σ) H λσ2 H2=>tt σ2 H2 λb H3=>if b=true then te σ2 H3 λy H4=>N (ys++[y]) H4 else N ys H3)(hd:Q ((xs.filter p).map f) H):lV js g tt te σ J H Q:=by
 refine aV S hz (λi ys H'=>ys=((xs.take i).filter p).map f/\H'=H) (λi ys H' ⟨e,e2⟩=>⟨by rw[e2];exact hA,?_⟩) ⟨Zs,rfl⟩ (?_) (?_)
 ·rw[e,aS];exact eI (length_filter_le _ _) (by rw[nU];exact min_le_left _ _)
 ·rintro i x ys H' hx ⟨e,e2⟩;subst e2;have key:(xs.take (i+1)).filter p=(xs.take i).filter p++(if p x=true then [x] else []):=take_succ_filter p xs i x hx;refine hs x ys (λAW H3=>AW=((xs.take (i+1)).filter p).map f/\H3=H') (kI hx) (λh=>⟨?_,rfl⟩) (λh=>⟨?_,rfl⟩)
  ·rw[key,P0 h,dJ,e];rfl
  ·rw[key,QZZ (by rw[h];exact V2),append_nil,e]
 ·rintro ys H' ⟨e,e2⟩;subst e2;rw[e,iB (aY _)];exact hd
def dU{J:It}{xs:List V}{A:Hp->Prop}{g:TG}{tb:TS}{D:nV}{σ:St}{H:Hp}(S:sO J xs A)(Pv:Nat->St->Hp->Prop)(hA:∀i σ H,Pv i σ H->A H)(h0:Pv 0 σ H)(hs:∀(i:Nat)(x:V) σ H,xs[i]?=some x->Pv i σ H->g x σ H λσ2 H2=>tb {D with nx:=Pv (i+1),ct:=Pv (i+1),bk:=D.nx } σ2 H2)(hd:∀ σ H,Pv xs.length σ H->D.nx σ H) :
  ∃W:Nat->Nat->St->Hp->Prop,(∃m,W 0 m σ H)/\∀i m σ H,W i m σ H →
   (J.stop i H/\D.nx σ H)∨(J.go i H/\∃N:St->Hp->Prop,(∀ σ' H',N σ' H'->∃m',m'<m/\W (i+1) m' σ' H')/\∀x H',J.yld i H x H'->g x σ H' λσ2 H2=>tb {D with nx:=N,ct:=N,bk:=D.nx } σ2 H2):=by
 refine⟨λi m σ H=>m=xs.length-i/\i<=xs.length/\Pv i σ H,⟨xs.length,Zs,zero_le _,h0⟩,?_⟩;rintro i m σ H ⟨rfl,hi,p⟩;have pa:=hA i σ H p;by_cases q9:i<xs.length
 ·refine .inr ⟨S.go i H q9 pa,Pv (i+1),λσ' H' p'=>⟨xs.length-(i+1),Zo,rfl,q9,p'⟩,λx H' y=>?_⟩;obtain⟨rfl,hx⟩:=S.yld i H x H' q9 pa y;exact hs i x σ H' hx p
 ·have e:i=xs.length:=by omega
  subst e;exact .inl ⟨S.stop H pa,hd σ H p⟩
end L2
namespace L2
open PySem
def aF{H:Hp}{p:TD}{o:HO}(h:H p=none):Same H (aI H p o):=λb u q=>by rw[aB (aE q h)];exact q
def Ai{α:Type}(xs:List α)(k:Nat):kC xs none (some (k:Int))=xs.take k:=by
 unfold kC;rw[HT.sIx_none,HT.sIx_nat,drop_zero,Nat.sub_zero,<- List.take_take,iB (aY _)]
def Kl{α:Type}(xs:List α)(k:Nat):kC xs (some (k:Int)) none=xs.drop k:=by
 unfold kC;rw[HT.sIx_none,HT.sIx_nat];by_cases h:k<=xs.length
 ·rw[min_eq_left h,iB (by rw[length_drop];exact aY _)]
 ·rw[Nat.min_eq_right Zo,List.drop_of_length_le (aY _),List.drop_of_length_le Zo,List.take_nil]
def Rq{α β:Type}(f:α->β)(xs:List α)(lo hi:Option Int):kC (xs.map f) lo hi=(kC xs lo hi).map f:=by
 unfold kC;rw[aS,<- List.map_drop,<- List.map_take]
open PySem PySem.Spec PyProof.Rows
def aP{H:Hp}{p q:TD}{o u:HO}(h:H p=some o)(hq:H q=none):aI H q u p=some o:=by rw[aB (aE h hq)];exact h
def Km{α:Type}{xs:List α}{i:Int}(h0:0<=i)(h1:i<xs.length):∃v,mU xs i=some v/\v∈xs:=by
 obtain⟨j,rfl⟩:=Int.eq_ofNat_of_zero_le h0;have hj:j<xs.length:=by omega
 exact⟨xs[j],iC (by simp[hj]),getElem_mem hj⟩
def Cn(g:Array Nat):∀(ps:List Str)(acc:Array Nat),(ps.foldl (λacc p=>acc++g++p.cps) acc).toList=acc.toList++(ps.map λp=>g.toList++p.cps.toList).flatten
 | [],acc=>by simp
 | p::ps,acc=>by
  rw[foldl_cons,Cn g ps];simp
def Kn(ps:List Str):(Txt.join (tx []) ps).cps.toList=(ps.map λp=>p.cps.toList).flatten:=by
 unfold Txt.join Builtin.Str.glued;rw[Cn];cases ps with
 | nil=>simp[Str.empty]
 | cons p ps=>simp
def Rr(ps:List Str):Txt.join (tx []) ps=tx (ps.map λp=>p.cps.toList).flatten:=by rw[<- Kn,Ag]
def Aj(ts:List Nat):Txt.join (tx []) (ts.map λc=>tx [c])=tx ts:=by
 rw[Rr,map_map];congr 1
 congr 1
 induction ts with
 | nil=>rfl
 | cons c r ih=>rw[map_cons,List.flatten_cons,ih];rfl
def Ko:("":Str)=tx []:=by decide +kernel
end L2
namespace L2
open PySem
def Dk.ne{H:Hp}{d b p:TD}(x:Dk H d b)(h:H p=none):p≠d/\p≠b:=by
 obtain⟨ns,s,k,h1,h2,h3⟩:=x.ex;exact⟨(aE h1 h).symm,(aE h2 h).symm⟩
def nB(x:Str):x=tx x.cps.toList:=(Ag x).symm
end L2
namespace L2
open PySem
def xO:∀ts:List Nat,((ts.map λc=>tx [c]).map (·.length)).sum=ts.length
 | []=>rfl
 | c::ts=>by
  rw[map_cons,map_cons,List.sum_cons,xO ts,qE];show 1+ts.length=_;omega
end L2
namespace L2
open PySem
def Ya{t:TS}{D:nV}{σ:St}{H:Hp}(R:St->Hp->Prop)(h:∀nx:St->Hp->Prop,(∀ σ' H',R σ' H'->nx σ' H')->t {D with nx:=nx } σ H)(h2:∀ σ' H',R σ' H'->D.nx σ' H'):t D σ H:=h D.nx h2
def Dk.same{H H':Hp}{d b:TD}(s:Same H H')(h:Dk H d b):Dk H' d b:=by
 obtain⟨ns,s0,k,h1,h2,h3⟩:=h.ex;exact⟨ns,s0,k,s _ _ h1,s _ _ h2,h3⟩
open PySem PySem.Spec PyProof.Rows
structure XE(X:Cx)(e:Expr)(t:TE):Prop where
 h:PE X e t
structure XT(X:Cx)(e:Expr)(t:TT):Prop where
 h:PT X e t
structure XW(X:Cx)(e:Expr)(t:TT):Prop where
 h:PW X e t
structure XA(X:Cx)(es:List Expr)(t:TA):Prop where
 h:PA X es t
structure XS(X:Cx)(st:Stmt)(t:TS):Prop where
 h:PS X st t
structure XB(X:Cx)(st:List Stmt)(t:TS):Prop where
 h:PSs X st t
structure XI(X:Cx)(tg iter:Expr)(t:TI):Prop where
 h:PI X tg iter t
structure XG(X:Cx)(e:Expr)(t:TG):Prop where
 h:PG X e t
structure XGs(X:Cx)(es:List Expr)(t:Bs):Prop where
 h:PGs X es t
structure XO(X:Cx)(e:Option Expr)(t:TO):Prop where
 h:PO X e t
structure XTs(X:Cx)(cs:List Expr)(t:TT):Prop where
 h:PTs X cs t
structure Yb(X:Cx)(t:Ep):Prop where
 h:Ps X t
structure jI(X:Cx)(f:Q2->Q2->Sem Value)(r:R2):Prop where
 h:OpR X f r
structure Yc(X:Cx)(r:R2):Prop where
 h:IxR X r
structure XSl(X:Cx)(r:V->Option Int->Option Int->Hp->VK->Prop):Prop where
 h:SlR X r
structure XC(X:Cx)(f:Q2)(r:List V->Hp->VK->Prop):Prop where
 h:CallR X f r
structure XM(X:Cx)(id:String)(r:V->List V->Hp->VK->Prop):Prop where
 h:MtR X id r
namespace R
section
variable {X:Cx}{a b c e o i:Expr}{es rest:List Expr}{ta tb tc te to ti:TE}{tA yq:TT}{t u:TA}{pos p p2 apos cpos pos':Pos}{x:Str}{n:Nat}{r r':R2}
def v(i:Nat){x:Str}{pos:Pos}(hN:X.N[i]?=some x:=by rfl)(hv:Vis X.env.scope x:=by first|exact Or.inl rfl|exact Or.inr (Or.inl rfl)|exact Or.inr (Or.inr rfl))(hd:(x==("__debug__":Str))=false:=by decide)(og:(x==("__classdict__":Str))=false:=by decide):XE X (.Name x pos) (vr i):=⟨xv i hN hv hd og⟩
def ad{i j pos}:XE X (.Constant (.int i) j pos) (tC (.int i)):=⟨Vp⟩
def bl{b j pos}:XE X (.Constant (.bool b) j pos) (tC (.bl b)):=⟨aAr⟩
def dq{j pos}:XE X (.Constant .none j pos) (tC .non):=⟨Vq⟩
def ag{x j pos}:XE X (.Constant (.str x) j pos) (tC (.str x)):=⟨Vr⟩
def gS{z:Str}(hg:Gl X x)(hm:∃t,X.mg x=some (.str z t))(hd:(x==("__debug__":Str))=false:=by decide):XE X (.Name x pos) (tC (.str z)):=by
 obtain⟨t,hm⟩:=hm;exact⟨uV hg hm ⟨t,rfl⟩ hd⟩
def gI{z:Int}(hg:Gl X x)(hm:∃t,X.mg x=some (.int z t))(hd:(x==("__debug__":Str))=false:=by decide):XE X (.Name x pos) (tC (.int z)):=by
 obtain⟨t,hm⟩:=hm;exact⟨uV hg hm ⟨t,rfl⟩ hd⟩
def gR{a:TD}(hg:Gl X x)(hm:X.mg x=some (.ref a))(hd:(x==("__debug__":Str))=false:=by decide):XE X (.Name x pos) (tC (.ref a)):=⟨uV hg hm rfl hd⟩
def op{op:Operator}(ho:jI X (binaryOp op) r)(ha:XE X a ta)(hb:XE X b tb):XE X (.BinOp a op b pos) (sJ r ta tb):=⟨aAB ho.h ha.h hb.h⟩
def av:jI X (binaryOp .Add) (zQ λi j=>.int (i+j)):=⟨aAV⟩
def cx:jI X (binaryOp .Sub) (zQ λi j=>.int (i-j)):=⟨aAW⟩
def fj:jI X (binaryOp .Mult) (m2 CMul λi j=>.int (i*j)):=⟨aAX⟩
def di:jI X (binaryOp .Mod) (m2 (λ_ j=>0<j) λi j=>.int (i%j)):=⟨aAY⟩
def bv:jI X (binaryOp .Pow) (m2 Wj λi j=>.int (i^j.toNat)):=⟨aAZ⟩
def ig:jI X (binaryOp .Add) Kc:=⟨Xk⟩
def lt:jI X (compareOp .Lt) (zQ λi j=>.bl (decide (i<j))):=⟨aCd⟩
def le:jI X (compareOp .LtE) (zQ λi j=>.bl (decide (i<=j))):=⟨aCe⟩
def gt:jI X (compareOp .Gt) (zQ λi j=>.bl (decide (j<i))):=⟨aCf⟩
def ge:jI X (compareOp .GtE) (zQ λi j=>.bl (decide (j<=i))):=⟨aCg⟩
def eq:jI X (compareOp .Eq) mEq:=⟨aCi⟩
def ne:jI X (compareOp .NotEq) mNe:=⟨aCj⟩
def jl:jI X (compareOp .In) (Xl false):=⟨aA0⟩
def inQ:jI X (compareOp .In) (Xa X.K false):=⟨Fg⟩
def notInQ:jI X (compareOp .NotIn) (Xa X.K true):=⟨vD⟩
def ji:jI X (compareOp .Is) (λx y H Q=>match y with|.non=>Q (.bl (decide (x=.non))) H|_=>False):=⟨aA1⟩
def ii:jI X (compareOp .IsNot) (λx y H Q=>match y with|.non=>Q (.bl (!decide (x=.non))) H|_=>False):=⟨Xm⟩
def eqNil(hu:X.A.units<cLine):jI X (compareOp .Eq) (oF X.K false):=⟨Ka hu⟩
def neNil(hu:X.A.units<cLine):jI X (compareOp .NotEq) (oF X.K true):=⟨Kb hu⟩
def az{op:CmpOp}(ho:jI X (compareOp op) r)(ha:XE X a ta)(hb:XE X b tb)(hm:behindInMarks op b=false:=by first|exact uW _|rfl):XE X (.Compare a [op] [b] pos) (sJ r ta tb):=⟨aA3 ho.h ha.h hb.h hm⟩
def ap{op:CmpOp}(ho:jI X (compareOp op) r)(ha:XE X a ta)(hb:XE X b tb)(hm:behindInMarks op b=false:=by first|exact uW _|rfl):XT X (.Compare a [op] [b] pos) (mT (sJ r ta tb)):=⟨aA2 ho.h ha.h hb.h hm⟩
def jm{op Q8:CmpOp}(ho:jI X (compareOp op) r)(P2:jI X (compareOp Q8) r')(ha:XE X a ta)(hb:XE X b tb)(hc:XE X c tc)(hm:lastMarks [op,Q8] [b,c]=false:=by with_unfolding_all rfl):XE X (.Compare a [op,Q8] [b,c] pos) (oG r r' ta tb tc):=⟨Rg ho.h P2.h ha.h hb.h hc.h hm⟩
def je{op Q8:CmpOp}(ho:jI X (compareOp op) r)(P2:jI X (compareOp Q8) r')(ha:XE X a ta)(hb:XE X b tb)(hc:XE X c tc)(hm:lastMarks [op,Q8] [b,c]=false:=by with_unfolding_all rfl):XT X (.Compare a [op,Q8] [b,c] pos) (mT (oG r r' ta tb tc)):=⟨Rh ho.h P2.h ha.h hb.h hc.h hm⟩
def bb(ha:XE X a ta):XE X (.UnaryOp .USub a pos) (tUn (λx H Q=>mI x λi=>Q (.int (-i)) H) ta):=⟨aA6 ha.h⟩
def bo{t:TE}(h:XE X e t)(he:∀whole,isTrue e X.env whole=(do let v←whole;standAt e.pos;holding [v] (truthy v)):=by intro _;rfl):XT X e (mT t):=⟨aA4 h.h he⟩
def cg(ha:XT X a tA):XT X (.UnaryOp .Not a pos) (aAt tA):=⟨Vv ha.h⟩
def dj(ha:XT X a tA):XW X (.BoolOp .And [a] pos) tA:=⟨Po ha.h⟩
def dm(ha:XT X a tA):XW X (.BoolOp .Or [a] pos) tA:=⟨Vt ha.h⟩
def de(ha:XT X a tA)(hb:XW X (.BoolOp .And (b::rest) pos) yq):XW X (.BoolOp .And (a::b::rest) pos) (aAs tA yq):=⟨Vu ha.h hb.h⟩
def dh(ha:XT X a tA)(hb:XW X (.BoolOp .Or (b::rest) pos) yq):XW X (.BoolOp .Or (a::b::rest) pos) (tOr tA yq):=⟨aAu ha.h hb.h⟩
def tw6789352443640092807:=0
def tw18099809632848742127:=0
def tw5792774739872217226:=0
def tw15491023266231028191:=0
def tw8392266999518113870:=0
def tw12547509400337018679:=0
def tw17452696534282074148:=0
def tw13360667578037672183:=0
def tw17367341523007869485:=0
def tw10379800691064864222:=0
def tw1724212324268305193:=0
def tw12788441883745895306:=0
def tw6911211277205970162:=0
def tw3107374219986258877:=0
def tw17860671483341813901:=0
def tw17995095904905974172:=0
def tw9986550069363098355:=0
def tw14200779460405618854:=0
def tw10462746905546006742:=0
def tw3850029818302535262:=0
def tw14628961682680834698:=0
def tw4656690894219173972:=0
def tw3224293565718051465:=0
def tw1249282754926149506:=0
def tw11722591099268938938:=0
def tw7629148253102326793:=0
def tw10749504656954470919:=0
def tw2558881235195516477:=0
def tw15231264766306487232:=0
def tw8851100463738655149:=0
def tw16529618812637821625:=0
def tw4159721358123488935:=0
def tw13112687656325919348:=0
def tw9035464183325182821:=0
def tw8124246532782048208:=0
def tw1859659004957102694:=0
def tw16365677497408249183:=0
def tw8729503098908651311:=0
def tw12511863144219004861:=0
def tw1880949742640774352:=0
def tw13532633719295887955:=0
def tw9501320905263164429:=0
def tw3101179738479245715:=0
def tw7228912402392985373:=0
def tw9381134566637320609:=0
def tw5934035930694720060:=0
def tw6215485708419893325:=0
def tw1292330108031758152:=0
def tw(h:XW X e tA):XT X e tA:=⟨h.h.pt⟩
def cv{op}(h:XE X a ta):XE X (.BoolOp op [a] pos) ta:=⟨Vx h.h⟩
def cp(ha:XE X a ta)(hb:XE X (.BoolOp .And (b::rest) pos) tb):XE X (.BoolOp .And (a::b::rest) pos) (Ck ta tb):=⟨aA5 ha.h hb.h⟩
def or(ha:XE X a ta)(hb:XE X (.BoolOp .Or (b::rest) pos) tb):XE X (.BoolOp .Or (a::b::rest) pos) (Ri ta tb):=⟨aCk ha.h hb.h⟩
def ix(hr:Yc X r)(ha:XE X a ta)(hb:XE X b tb)(hs:vB b:=by exact λ_ _=>rfl):XE X (.Subscript a b pos) (sJ r ta tb):=⟨aCl hr.h ha.h hb.h hs⟩
def iL:Yc X (Rj X.K):=⟨Xp⟩
def iT:Yc X (sN X.K):=⟨aA7⟩
def iS:Yc X Xo:=⟨aA8⟩
def pn:XO X none Bz:=⟨Qk⟩
def ps(h:XE X e te):XO X (some e) (Cl te):=⟨Xq h.h⟩
def sl{r:V->Option Int->Option Int->Hp->VK->Prop}{lo hi:Option Expr}{tl th:TO}(hr:XSl X r)(he:XE X e te)(hl:XO X lo tl)(hu:XO X hi th):XE X (.Subscript e (.Slice lo hi none p2) pos) (tSl r te tl th):=⟨Jb hr.h he.h hl.h hu.h⟩
def sS:XSl X Xr:=⟨aA9⟩
def sL:XSl X (Rk X.K):=⟨Xs⟩
def ae:XA X [] sK:=⟨uY⟩
def ac(ha:XE X e te)(hr:XA X es t)(h:aW e=true:=by rfl):XA X (e::es) (kJ te t):=⟨vM ha.h hr.h h⟩
def jh{x1}(h:XA X es t):XE X (.Tuple es x1 pos) (aAH t):=⟨Wt h.h⟩
def ax(h:XA X es t):XE X (.List es pos) (aAI t):=⟨Wu h.h⟩
def ay{id:String}{r:List V->Hp->VK->Prop}(hc:XC X (.builtin id) r)(hg:Gl X x)(hm:X.mg x=none)(hv:bootBuiltins x=some (.builtin id))(ha:XA X (e::es) t)(hn:x≠"__name__":=by decide)(M0:(x==("__debug__":Str))=false:=by decide)(h1:aW e=true:=by rfl)(h2:es.all aW=true:=by rfl):XE X (.Call (.Name x p) (e::es) [] pos) (tCB r t):=⟨Rm hc.h hg hm hv ha.h hn M0 h1 h2⟩
def dw{T:String}{r:List V->Hp->VK->Prop}(hc:XC X (.type T) r)(hg:Gl X x)(hm:X.mg x=none)(hv:bootBuiltins x=some (.type T))(ha:XA X (e::es) t)(hn:x≠"__name__":=by decide)(M0:(x==("__debug__":Str))=false:=by decide)(h1:aW e=true:=by rfl)(h2:es.all aW=true:=by rfl):XE X (.Call (.Name x p) (e::es) [] pos) (tCB r t):=⟨Kf hc.h hg hm hv ha.h hn M0 h1 h2⟩
def gm:XC X (.builtin "len") (λvs H Q=>match vs with|[.str z]=>z.length<=sizeLine/\Q (.int z.length) H|_=>False):=⟨Xt⟩
def lenL:XC X (.builtin "len") (λvs H Q=>match vs with|[.ref p]=>∃ys,(SqL X.K H p ys∨SqT X.K H p ys)/\Q (.int ys.length) H|_=>False):=⟨Xu⟩
def ft:XC X (.type "int") (λvs H Q=>match vs with|[.bl k]=>Q (.int (if k then 1 else 0)) H|_=>False):=⟨aBa⟩
def all(hc:X.calm=true):XC X (.builtin "all") (Xi X.K):=⟨Jy hc⟩
def sum(hc:X.calm=true):XC X (.builtin "sum") (Xj X.K):=⟨Jz hc⟩
def fn{n:Nat}{ps:List Str}{sp:Sp}(c:aG X.prog X.w X.K X.mg X.base n x ps sp)(hr:Room n X.A)(hg:Gl X x)(ha:XA X (e::es) t)(M0:(x==("__debug__":Str))=false:=by decide)(h1:aW e=true:=by rfl)(h2:es.all aW=true:=by rfl):XE X (.Call (.Name x p) (e::es) [] pos) (tFn sp t):=⟨aBf c hr hg ha.h M0 h1 h2⟩
def bm{T id:String}{name:Str}{r:V->List V->Hp->VK->Prop}(pa:PlainAttrs T)(slot:Slot T name id)(yw:typeOf (.builtin id)=pure (.type "method_descriptor"))(hm:XM X id r)(ho:XE X o to)(ha:XA X (e::es) t)(C3:attributeBase o name X.env (eval o X.env)=eval o X.env:=by rfl)(C4:(apos.endLine==cpos.line)=true:=by rfl)(h1:aW e=true:=by rfl)(h2:es.all aW=true:=by rfl)(hn:es.length+1<30:=by decide) :
  XE X (.Call (.Attribute o name apos) (e::es) [] cpos) (tBM X.K T r to t):=⟨aCp pa slot yw hm.h ho.h ha.h C3 C4 h1 h2 hn⟩
def db:XM X "list.append" Cb:=⟨Fi⟩
def jq:XM X "list.pop" Jf:=⟨Jg⟩
def join:XM X "str.join" (Jw X.K):=⟨Rf⟩
def fi{T:Str}(want:Kd)(he:XE X e te)(hg:Gl X "isinstance")(hm:X.mg "isinstance"=none)(FY:Gl X T)(FZ:X.mg T=none)(hT:bootBuiltins T=some (.type (Rl want)))(hn:T≠"__name__":=by decide)(hd:(T==("__debug__":Str))=false:=by decide)(h1:aW e=true:=by rfl):XE X (.Call (.Name "isinstance" p) [e,.Name T p2] [] pos) (Xw want te):=⟨Xx want he.h hg hm FY FZ hT hn hd h1⟩
def dz:XE X (.Dict [] [] pos) (Jj):=⟨Jl⟩
variable {tg:Expr}
def wL(hl:XE X e te):XI X tg e (Ip X.K te):=⟨Py hl.h⟩
def wT(hl:XE X e te):XI X tg e (Wf X.K te):=⟨Wg hl.h⟩
def wS(hl:XE X e te):XI X tg e (aAT te):=⟨Xg hl.h⟩
def fm(hg:Gl X "range")(hm:X.mg "range"=none)(ha:XA X [a] t)(h1:aW a=true:=by rfl):XI X tg (.Call (.Name "range" p) [a] [] pos) (Ua t):=⟨Es hg hm ha.h (bQ h1)⟩
def gn{i:Nat}(hN:X.N.Nodup)(hi:X.N[i]?=some x:=by rfl)(hx:Ty X.env.scope x:=by first|exact Or.inl rfl|exact Or.inr rfl)(hf:X.fn x=true∨X.env.scope.names.lookup x=some .local:=by first|exact .inl rfl|exact .inr rfl|assumption):XG X (.Name x pos) (aJ i):=⟨Pu hN hi hx hf⟩
def du:XGs X [] Wa:=⟨Pw⟩
def bc{PM:TG}{BA:Bs}(h1:XG X e PM)(h2:XGs X es BA)(hs:(assignEach (e::es) X.env).map (·.2)=assign e X.env::(assignEach es X.env).map (·.2):=by rfl):XGs X (e::es) (Il PM BA):=⟨Im h1.h h2.h hs⟩
def gt'{k:Nat}{BA:Bs}(hc:X.calm=true)(h:XGs X es BA)(hn:(assignEach es X.env).length=n:=by rfl)(xw:(assignEach es X.env).findIdx? (·.1)=none:=by rfl):XG X (.Tuple es k pos) (Px X.K n BA):=⟨Wb hc h.h hn xw⟩
def jg:Yb X Ug:=⟨Jc⟩
def bu{ts:Ep}(ho:XE X o to)(hi:XE X i ti)(hs:Yb X ts)(ha:∀v,assign (.Subscript o i pos) X.env v=(do
   let ov←holding [v] (eval o X.env)
   let iv←holding [v,ov] (eval i X.env)
   standAt pos
   holding [v,ov,iv] (setItem ov iv v)
   release [v,ov,iv] []):=by intro _;rfl):XG X (.Subscript o i pos) (aAz to ti ts):=⟨Wc ho.h hi.h hs.h ha⟩
end
section
variable {X:Cx}{c e tg iter elt:Expr}{ifs:List Expr}{te:TE}{tc tt:TT}{g:TG}{wi:TI}{st:Stmt}{ss sa sb:List Stmt}{t u:TS}{pos pos' vq py:Pos}{x y:Str}{scope:Scope}{N:List Str}{js:List (Option Nat)}
def cz:XTs X [] Jt:=⟨Qv⟩
def bh(h:XT X c tt)(hx:X.xe=λ_ _=>False:=by rfl):XTs X [c] tt:=⟨Qw h.h hx⟩
def bg(hc:X.calm=true)(S:CompScope X scope N js)(go:Ae js g)(hi:XI X tg iter wi)(hb:∀(C:TD)(s₂:P1)(H₂:Hp)(fp:List TD),XG (nT X scope C N s₂ H₂ fp) tg g/\XTs (nT X scope C N s₂ H₂ fp) ifs tt/\XE (nT X scope C N s₂ H₂ fp) elt te)(hs:∀x,foldedSetIterable iter X.env x=pure x:=by intro _;rfl):XE X (.ListComp elt [⟨tg,iter,ifs,0⟩] scope pos) (Uk wi js g tt te):=
 ⟨Qx hc S go hi.h (λC s₂ H₂ fp=>let ⟨a,b,c⟩:=hb C s₂ H₂ fp;⟨a.h,b.h,c.h⟩) hs⟩
def dy{i:Nat}(hN:X.N.Nodup)(hy:X.N[i]?=some y)(hx:Ty X.env.scope y)(hc:X.calm=true)(S:CompScope X scope N js)(go:Ae js g)(hi:XI X tg iter wi)(hb:∀(C:TD)(s₂:P1)(H₂:Hp)(fp:List TD),XG (nT X scope C N s₂ H₂ fp) tg g/\XTs (nT X scope C N s₂ H₂ fp) ifs tt/\XE (nT X scope C N s₂ H₂ fp) elt te)(LS:swapsWith (.ListComp elt [⟨tg,iter,ifs,0⟩] scope pos) (some (.Name y py)) vq.line X.env=pure true)(hs:∀x,foldedSetIterable iter X.env x=pure x:=by intro _;rfl)(hf:X.fn y=true∨X.env.scope.names.lookup y=some .local:=by first|exact .inl rfl|exact .inr rfl|assumption) :
  XS X (.Assign [.Name y py] (.ListComp elt [⟨tg,iter,ifs,0⟩] scope pos) vq) (Ul i wi js g tt te):=
 ⟨Qy hN hy hx hc S go hi.h (λC s₂ H₂ fp=>let ⟨a,b,c⟩:=hb C s₂ H₂ fp;⟨a.h,b.h,c.h⟩) LS hs hf⟩
def au:XB X [] qF:=⟨Pp⟩
def ai(h1:XS X st t):XB X [st] t:=⟨Pq h1.h⟩
def af(h1:XS X st t)(h2:XB X ss u):XB X (st::ss) (sI t u):=⟨Ik h1.h h2.h⟩
def ao(he:XE X e te):XS X (.Return (some e) pos) (aAw te):=⟨Vz he.h⟩
def br(he:XE X e te)(hs:swapsWith e none pos.line X.env=pure false:=by rfl):XS X (.Expr e pos) (Tz te):=⟨Pr he.h hs⟩
def ar(hc:XT X c tc)(ha:XB X sa t)(hb:XB X sb u):XS X (.If c sa sb pos) (Eo tc t u):=⟨aAx hc.h ha.h hb.h⟩
def al{i:Nat}(hN:X.N.Nodup)(he:XE X e te)(hi:X.N[i]?=some x:=by rfl)(hx:Ty X.env.scope x:=by first|exact Or.inl rfl|exact Or.inr rfl)(hs:swapsWith e (some (.Name x pos')) pos.line X.env=pure false:=by rfl)(hf:X.fn x=true∨X.env.scope.names.lookup x=some .local:=by first|exact .inl rfl|exact .inr rfl|assumption):XS X (.Assign [.Name x pos'] e pos) (Io te (aJ i)):=⟨We hN hi hx he.h hs hf⟩
def bp(he:XE X e te)(hg:XG X tg g)(hs:swapsWithSole [tg] e pos.line X.env=pure false:=by rfl)(hw:swappedStores [tg] e X.env=pure none:=by rfl)(h1:(assignEach [tg] X.env).map (·.2)=[assign tg X.env]:=by rfl) :
  XS X (.Assign [tg] e pos) (Io te g):=⟨Wd he.h hg.h hs hw h1⟩
def cn(hp:PassesOwn (model X.prog X.w) X.A X.env X.xe)(hc:X.calm=true)(hi:XI X tg iter wi)(hg:XG X tg g)(hb:XB X ss t)(hs:∀x,foldedSetIterable iter X.env x=pure x:=by intro _;rfl):XS X (.For tg iter ss [] pos) (aAA wi g t):=⟨Wh hp hc hi.h hg.h hb.h hs⟩
end
end R
def DefAt.go{P:Program}{w:World}{K:W.Frag}{mg:V5}{base:Heap}{x:Str}{st:Stmt}{N ps:List Str}{k:Nat}{sp:Sp}(D:DefAt K mg x st ps)(S:aK N ps (aD st))(len:∀vs H Q E,sp vs H Q E->vs.length=ps.length)(u3:∀(f:TD)(cdv:Q2)(A:Around)(outer:List Env)(s:P1)(H:Hp)(vs:List V)(Q:VK)(E:XK),Room k (A.deeper (envOfC x (aD st) s.heap.objs.size f cdv))->sp vs H Q E →
   ∃t,XB (mQ tS P w K mg base N x (aD st) f cdv A outer s H E).nox (bH st) t/\t {nx:=λ_ H'=>Q .non H',rt:=Q } (start N vs) H):aG P w K mg base (k+1) x ps sp:=
 D.ok S len λf cdv A outer s H vs Q E hr h=>let ⟨t,h1,h2⟩:=u3 f cdv A outer s H vs Q E hr h;⟨t,h1.h,h2⟩
def Fun.go{P:Program}{w:World}{K:W.Frag}{mg:V5}{base:Heap}{x qual:Str}{st:Stmt}{f:TD}{fd:FuncData}{N ps:List Str}{k:Nat}{sp:Sp}(F:Fun K x qual st f fd)(S:aK N ps (aD st))(len:∀vs H Q E,sp vs H Q E->vs.length=ps.length)(u3:∀(cdv:Q2)(A:Around)(outer:List Env)(s:P1)(H:Hp)(vs:List V)(Q:VK)(E:XK),Room k (A.deeper (envOfC qual (aD st) s.heap.objs.size f cdv))->sp vs H Q E →
   ∃t,XB (mQ tS P w K mg base N qual (aD st) f cdv A outer s H E).nox (bH st) t/\t {nx:=λ_ H'=>Q .non H',rt:=Q } (start N vs) H):kK P w K mg base tS (k+1) f fd ps sp:=
 F.ok S len λcdv A outer s H vs Q E hr h=>let ⟨t,h1,h2⟩:=u3 cdv A outer s H vs Q E hr h;⟨t,h1.h,h2⟩
def Yd{K:W.Frag}{h:Heap}{mg:V5}{x:Str}{st:Stmt}{ps:List Str}{f:TD}{od an:Option TD}{sl:Array (Option Q2)}{oc kV dc pm cd ct:Q2}(X:K.In h)(G:h.Ns mainGlobals mg)(a:W.nsIn K mainGlobals x=some (some (.ref f)))(l:K.lookup f=some ⟨oc,od,.func (W.fnOf x x (cJ st) (bH st) (aD st) .none kV dc pm an cd ct),sl⟩)(c:W.codeIn K cd x=true)(k:W.keepIn K (.ref f)=true)(hb:∀(kV doc pm:Q2)(an:Option TD)(cdv ct:Q2)(us:List Q2),us.length=ps.length->bindArgs (W.fnOf x x (cJ st) (bH st) (aD st) .none kV doc pm an cdv ct) ⟨us,[]⟩=pure (ps.zip us)):DefAt K mg x st ps:=
 ⟨f,_,qN l c k,W.mg_of X G a,(qN (st:=st) l c k).binds hb⟩
namespace R
section
variable {X:Cx}{K:W.Frag}{a b c e o i tg:Expr}{es rest:List Expr}{te to:TE}{t:TA}{pos p p2 apos cpos:Pos}{x:Str}{n:Nat}
def aw(hK:X.K=K:=by rfl):Yc X (Rj K):=hK▸iL
def ah(hK:X.K=K:=by rfl):Yc X (sN K):=hK▸iT
def ie(hK:X.K=K:=by rfl):XSl X (Rk K):=hK▸sL
def bj(hK:X.K=K:=by rfl):jI X (compareOp .In) (Xa K false):=hK▸inQ
def kh(hK:X.K=K:=by rfl):jI X (compareOp .NotIn) (Xa K true):=hK▸notInQ
def ju(hu:X.A.units<cLine)(hK:X.K=K:=by rfl):jI X (compareOp .Eq) (oF K false):=hK▸eqNil hu
def jp(hu:X.A.units<cLine)(hK:X.K=K:=by rfl):jI X (compareOp .NotEq) (oF K true):=hK▸neNil hu
def bi(hK:X.K=K:=by rfl):XC X (.builtin "len") (λvs H Q=>match vs with|[.ref p]=>∃ys,(SqL K H p ys∨SqT K H p ys)/\Q (.int ys.length) H|_=>False):=hK▸lenL
def jf(hc:X.calm=true)(hK:X.K=K:=by rfl):XC X (.builtin "all") (Xi K):=hK▸all hc
def jo(hc:X.calm=true)(hK:X.K=K:=by rfl):XC X (.builtin "sum") (Xj K):=hK▸sum hc
def jr(hK:X.K=K:=by rfl):XM X "str.join" (Jw K):=hK▸join
def bt{T id:String}{name:Str}{r:V->List V->Hp->VK->Prop}(pa:PlainAttrs T)(slot:Slot T name id)(yw:typeOf (.builtin id)=pure (.type "method_descriptor"))(hm:XM X id r)(ho:XE X o to)(ha:XA X (e::es) t)(hK:X.K=K:=by rfl)(C3:attributeBase o name X.env (eval o X.env)=eval o X.env:=by rfl)(C4:(apos.endLine==cpos.line)=true:=by rfl)(h1:aW e=true:=by rfl)(h2:es.all aW=true:=by rfl)(hn:es.length+1<30:=by decide) :
  XE X (.Call (.Attribute o name apos) (e::es) [] cpos) (tBM K T r to t):=hK▸bm pa slot yw hm ho ha C3 C4 h1 h2 hn
def ba(hl:XE X e te)(hK:X.K=K:=by rfl):XI X tg e (Ip K te):=hK▸wL hl
def ic(hl:XE X e te)(hK:X.K=K:=by rfl):XI X tg e (Wf K te):=hK▸wT hl
def dr{k:Nat}{BA:Bs}(hc:X.calm=true)(h:XGs X es BA)(hK:X.K=K:=by rfl)(hn:(assignEach es X.env).length=n:=by rfl)(xw:(assignEach es X.env).findIdx? (·.1)=none:=by rfl):XG X (.Tuple es k pos) (Px K n BA):=hK▸gt' hc h hn xw
end
end R
section
variable {X:Cx}
def aCq:List V->Hp->VK->Prop:=λvs H Q=>match vs with
 | [.int i]=>(0<=i/\i<10^40)/\Q (.str (Str.ofString (toString i))) H
 | [.str z]=>Q (.str z) H
 | _=>False
def aCI:List V->Hp->VK->Prop:=λvs H Q=>match vs with
 | [.str z]=>NumText.AllDigits z.cps.toList/\z.cps.toList≠[]/\z.length<=640/\Q (.int (NumText.digitsVal z.cps.toList:Nat)) H
 | _=>False
end
def LET:List Nat:=[97,98,99,100,101,102,103,104,105,106,107,108,109,110,111,112,113,114,115,116,117,118,119,120,121,122]
def FIG:List Nat:=[48,49,50,51,52,53,54,55,56,57]
def Ak:(("abcdefghijklmnopqrstuvwxyz":Str)).cps.toList=LET:=by decide +kernel
def Ye:(("0123456789":Str)).cps.toList=FIG:=by decide +kernel
def kP(x:V)(cs:List Nat)(n:Int):Bool:=match x with|.str z=>decide (1<=(z.length:Int))&&decide ((z.length:Int)<=n)&&z.cps.toList.all (λc=>decide (c∈cs))|_=>false
def jL(z:Str)(cs:List Nat)(n:Int):kP (.str z) cs n=(decide (1<=(z.length:Int))&&decide ((z.length:Int)<=n)&&z.cps.toList.all (λc=>decide (c∈cs))):=rfl
def Kq:Sp:=λvs H Q _=>∃x sg n k,vs=[x,.str sg,.int n]/\Uo H x k/\(∀z,x=.str z->z.length<=1000)/\∀H',Same H H'->Q (.bl (kP x sg.cps.toList n)) H'
def Kr(cs:List Nat)(n:Int):Sp:=λvs H Q _=>∃x k,vs=[x]/\Uo H x k/\(∀z,x=.str z->z.length<=1000)/\∀H',Same H H'->Q (.bl (kP x cs n)) H'
def fO(z:Str):Prop:=1<=z.length/\z.length<=8/\∀c∈z.cps.toList,c∈LET
def Rs(z:Str)(ns:List Str):mM (.str z) (ns.map V.str)=decide (z∈ns):=by
 unfold mM;rw[any_map,Bool.eq_iff_iff,any_eq_true,decide_eq_true_iff];constructor
 ·rintro⟨y,hy,e⟩;have:y=z:=by simpa [zP]using e
  rw[<- this];exact hy
 ·intro h;exact⟨z,h,by simp[zP]⟩
def Ft(ns:List Str):(ns.map V.str).all eW=true:=by
 rw[all_map];exact all_eq_true.mpr λ_ _=>rfl
namespace R
variable {X:Cx}
def jt(hc:X.calm=true):XC X (.builtin "max") (λvs H Q=>match vs with | [.int i,.int j]=>Q (.int (if j > i then j else i)) H | _=>False):=⟨(Ew hc).imp λvs H Q h=>by
 split at h
 ·rename_i i j;exact⟨i,j,rfl,h⟩
 ·exact h.elim⟩
end R
section
variable {prog:Program}{w:World}{A:Around}{E:XV}{s:P1}
def Fu{t:TD}{items:Array Value}{Q:Bool->P1->Prop}(ht:IsTup s.heap t items)(h:Q true s):wpAny (model prog w) A (Builtin.Tuple.tupleIsExact (.ref t)) Q E s:=by
 unfold Builtin.Tuple.tupleIsExact;refine V4 (wpAny_typeOf ht.typeIs ?_);exact V3 h
def lT{t sl:TD}{items:Array Value}{vl vu:Q2}{lo hi:Option Int}{Q:XV}(ht:IsTup s.heap t items)(hs:s.heap.IsSliceOf sl vl vu .none)(pl:IsPart vl lo)(pu:IsPart vu hi)(hw:HT.sIx items.size 0 lo=0/\HT.sIx items.size items.size hi=items.size)(h:Q (.ref t) s):wpAny (model prog w) A (getItem (.ref t) (.ref sl)) Q E s:=by
 obtain⟨os,AS,DV,FP⟩:=id hs;have LG:s.TypeIs (.ref sl) "slice":=⟨os,AS,DV⟩;unfold getItem;try with_reducible refine wpAny_holding ?_
 first|refine V4 (V3 ?_)|skip
 refine V4 (wpAny_sequenceKey ht.typeIs Zd ?_);refine V4 (wpAny_callSpecial?_slot (name:=Str.ofString "__getitem__") ht.typeIs PyProof.Rows.slot_tuple_getitem
  (wpAny_call_entry PyProof.Rows.slot_tuple_getitem ht.typeIs entry_tuple_getitem ?_ (args_tuple_getitem _ _)))
 show wpAny _ _ (Builtin.Tuple.tupleItemsOf (.ref t)>>=_) _ _ s;refine V4 (tupleItemsOf_ ht ?_);refine V4 (wpAny_typeOf LG ?_);rw[P0 Zd];refine V4 (HT.sliceApplied_gen hs pl pu ?_);have LV:(((HT.sIx items.size 0 lo:Nat):Int)==0&&(1:Int)==1&&(HT.sIx items.size items.size hi-HT.sIx items.size 0 lo)==items.size)=true:=by
  rw[hw.1,hw.2];simp
 show wpAny _ _ (if (((HT.sIx items.size 0 lo:Nat):Int)==0&&(1:Int)==1&&(HT.sIx items.size items.size hi-HT.sIx items.size 0 lo)==items.size)=true then _ else _) _ _ s;rw[P0 LV];refine V4 (Fu ht ?_);rw[P0 rfl];exact V4 (wpAny_rule (V3 ⟨_,rfl,V3 h⟩))
def Ks{t b:TD}{ws:List Q2}{Q:XV}(ht:IsTup s.heap t ([]:List Q2).toArray)(hb:IsTup s.heap b ws.toArray)(h1:Q (.ref b) s):wpAny (model prog w) A (binaryOp .Add (.ref t) (.ref b)) Q E s:=by
 obtain⟨⟨cls,dd,data,sl⟩,ho,hc,n,hd⟩:=id ht;obtain⟨⟨LF,IW,data2,IY⟩,oj,yu,n2,hd2⟩:=id hb;simp only at hc hd yu hd2;subst hc hd yu hd2;exact concat_meets ⟨_,ho,rfl⟩ ⟨_,oj,rfl⟩ noFill_tuple_add seq_tuple_add PySem.F.slot_tuple_add PySem.F.entry_tuple_add (PySem.F.args_tuple_add_2 _ _)
   (tuple_addW0 t b _ ws.toArray n n2 dd IW sl IY Zs) ⟨ho,oj,h1⟩
end
section
variable {X:Cx}{e o e1 e2:Expr}{te:TE}{pos p2 p3:Pos}
def Yf:V->Option Int->Option Int->Hp->VK->Prop:=λx lo hi H Q=>mR x λa=>∃xs,H a=some (.tup xs)/\∀p H',Same H H'->H' p=some (.tup (kC xs lo hi))->Q (.ref p) H'
def aBi:SlR X Yf:=by
 intro pins s σ H x v vl vu lo hi sl Q I rx hs pl pu h;unfold Yf at h;rw[dD]at h;obtain⟨a,rfl,xs,hx,q⟩:=h;by_cases hw:HT.sIx xs.length 0 lo=0/\HT.sIx xs.length xs.length hi=xs.length
 ·cases rx;obtain⟨its,r,ht,hz⟩:=I.tuple (QYM hx);have hlen:its.toArray.size=xs.length:=by rw[eB];exact r.length.symm
  refine⟨"tuple",_,PyProof.Rows.slot_tuple_getitem.lookup,ht.typeIs,?_⟩;refine lT ht hs pl pu (by rw[hlen];exact hw) ⟨.ref a,H,I,rfl,q a H (Same.refl H) ?_⟩;rw[hx];unfold kC;rw[hw.1,hw.2,drop_zero,Nat.sub_zero,iB (aY _)]
 ·exact Ww pins s σ H (.ref a) v vl vu lo hi sl Q I rx hs pl pu ⟨a,xs,rfl,QYM hx,hw,λp hp=>q p _ (aF hp) aA⟩
def Kt:R2:=λx y H Q=>mR x λa=>mR y λb=>∃xs ys,H a=some (.tup xs)/\H b=some (.tup ys)/\xs.length+ys.length<=1000/\∀p H',Same H H'->H' p=some (.tup (xs++ys))->Q (.ref p) H'
def Yg:OpR X (binaryOp .Add) Kt:=by
 intro pins s σ H x y v u Q I rx ry h;unfold Kt at h;rw[dD]at h;obtain⟨a,rfl,h⟩:=h;rw[dD]at h;obtain⟨b,rfl,xs,ys,ha,hb,hz,q⟩:=h;by_cases h0:xs=[]
 ·subst h0;cases rx;cases ry;obtain⟨its,r1,p1,_⟩:=I.tuple (QYM ha);obtain⟨a9,r2,p2,_⟩:=I.tuple (QYM hb);cases r1;exact Ks p1 p2 ⟨.ref b,H,I,rfl,q b H (Same.refl H) (by rw[hb];rfl)⟩
 ·exact Qm pins s σ H _ _ v u Q I rx ry ⟨a,b,xs,ys,rfl,rfl,QYM ha,QYM hb,h0,eI hz Zd,(λh1=>q a H (Same.refl H) (by rw[ha,h1,append_nil])),λ_ p hp=>q p _ (aF hp) aA⟩
end
def Tab(P:Params):List DictEntry->List (Str×Int)->Prop
 | [],[]=>True
 | e::r,(x,i)::q=>(∃t,e.key=.str x t)/\e.hash=PyData.keyHash P x/\(∃t,e.val=.int i t)/\Tab P r q
 | _,_=>False
def Tab.keys{P:Params}:∀ {es:List DictEntry}{ws:List (Str×Int)},Tab P es ws->W.KeysLit P es
 | [],[],_=>trivial
 | e::r,(x,i)::q,h=>⟨let ⟨t,ht⟩:=h.1;⟨x,t,ht,h.2.1⟩,Tab.keys h.2.2.2⟩
 | [],_::_,h=>h.elim
 | _::_,[],h=>h.elim
def Tab.find{P:Params}(z:Str):∀ {es:List DictEntry}{ws:List (Str×Int)},Tab P es ws->(match ws.lookup z with|some i=>∃t,(es.find? λe=>Value.isStrOf z e.key).map (·.val)=some (.int i t)|none=>(es.find? λe=>Value.isStrOf z e.key).map (·.val)=none)
 | [],[],_=>rfl
 | [],_::_,h=>h.elim
 | _::_,[],h=>h.elim
 | e::r,(x,i)::q,h=>by
  obtain⟨⟨t,ht⟩,h2,⟨t',hv⟩,h4⟩:=h;have ih:=Tab.find z h4;rw[lookup_cons,find?_cons];have e1:Value.isStrOf z e.key=(z==x):=by
   rw[ht];show(x==z)=(z==x);exact Bool.beq_comm
  rw[e1];cases hz:z==x with
  | true=>exact⟨t',by rw[<- hv];rfl⟩
  | false=>exact ih
structure KTab(K:W.Frag)(P:Params)(a:TD)(ws:List (Str×Int)):Prop where
 ex:∃es n,K.lookup a=some ⟨.type "dict",none,.dict (toArray es) n,#[]⟩/\Tab P es ws/\(a==sysModules)=false
def KTab.map{K:W.Frag}{prog:Program}{w:World}{a:TD}{ws:List (Str×Int)}{h:Heap}(T:KTab K w.params a ws)(X:K.In h) :
  ∃f:Str->Option Q2,h.MapOf (strKind prog w) a f/\(a==sysModules)=false/\∀z,(match ws.lookup z with|some i=>∃t,f z=some (.int i t)|none=>f z=none):=by
 obtain⟨es,n,hl,ht,lo⟩:=T.ex;refine⟨_,W.mapOf_K (prog:=prog) X hl ht.keys,lo,λz=>?_⟩;have:=ht.find z;unfold findBy;rw[List.find?_toArray];exact this
section
variable {X:Cx}
def Yh(K:W.Frag)(P:Params):R2:=λx y H Q=>mR x λa=>mS y λz=>∃ws i,KTab K P a ws/\ws.lookup z=some i/\Q (.int i) H
def i_K:IxR X (Yh X.K X.w.params):=by
 intro value slice pins s σ H x y v u Q I rx ry h hs;unfold Yh at h;rw[dD]at h;obtain⟨a,rfl,h⟩:=h;rw[qR]at h;obtain⟨z,rfl,ws,i,T,hi,h⟩:=h;obtain⟨t,rfl⟩:=ry;cases rx;obtain⟨f,hm,lo,hf⟩:=T.map (prog:=X.prog) I.kIn;have hz:=hf z;rw[hi]at hz;obtain⟨t',hz⟩:=hz;exact tail_any hm.typeIs slot_dict_getitem.lookup (wpAny_getItem_of (strKind_is X.prog X.w z t) hm hz ⟨.int i,H,I.tok _,⟨t',rfl⟩,h⟩) hs
end
structure XPs(X:Cx)(pos:Pos)(keys:List (Option Expr))(values:List Expr)(trs:List (TE×TE)):Prop where
 h:PPs X pos keys values trs
namespace R
section
variable {X:Cx}{K:W.Frag}{P:Params}{e e1 k v o f:Expr}{te t1 tk tv td ty PN:TE}{pos p2 apos cpos:Pos}{ks:List (Option Expr)}{vs:List Expr}{trs:List (TE×TE)}
def sT:XSl X Yf:=⟨aBi⟩
def cj:jI X (binaryOp .Add) Kt:=⟨Yg⟩
def jj(hK:X.K=K:=by rfl)(hP:X.w.params=P:=by rfl):Yc X (Yh K P):=hK▸hP▸⟨i_K⟩
def jn(hK:X.K=K:=by rfl):XC X (.type "list") (λvs H Q=>match vs with | [.ref p]=>∃ys,(SqL K H p ys∨SqT K H p ys)/\∀l,H l=none->Q (.ref l) (aI H l (.lst ys)) | _=>False):=hK ▸ ⟨vG.imp λvs H Q h=>by
 split at h
 ·rename_i p;obtain⟨ys,hq,h⟩:=h;exact⟨p,ys,rfl,hq,h⟩
 ·exact h.elim⟩
def gu:XPs X pos [] [] []:=⟨Qs⟩
def da(hk:XE X k tk)(hv:XE X v tv)(hr:XPs X pos ks vs trs):XPs X pos (some k::ks) (v::vs) ((tk,tv)::trs):=⟨Jn hk.h hv.h hr.h⟩
def gs(h:XPs X pos ks vs trs)(K7:ks.all (·.isSome)=true:=by rfl)(hl:ks.length=vs.length:=by rfl)(h0:ks≠[]:=by simp)(LI:ks.length<=15:=by decide):XE X (.Dict ks vs pos) (Uj trs):=⟨Qt h.h K7 hl h0 LI⟩
def eg(hu:X.A.units+1<cLine)(ho:XE X o td)(he:XE X e ty)(hf:XE X f PN)(h1:attributeBase o "get" X.env (eval o X.env)=eval o X.env:=by rfl)(h3:(apos.endLine == cpos.line)=true:=by rfl)(h2:((backTo cpos (starEach [e,f] X.env)).all (λx=>!x.1)&&(backToKw cpos (keywordEach [] X.env)).all (λx=>x.1.isSome)
  && decide (([e,f]:List Expr).length+([]:List Keyword).length+(if ([]:List Keyword).isEmpty then 0 else 1)<30))=true:=by rfl)(h4:backTo cpos (starEach [e,f] X.env)=[(false,eval e X.env),(false,eval f X.env)]:=by rfl):XE X (.Call (.Attribute o "get" apos) [e,f] [] cpos) (Jp td ty PN):=⟨Jq hu ho.h he.h hf.h ⟨h1,h2,h3,h4⟩⟩
end
end R
def nmV(x:V):Bool:=kP x LET 8
def Al(lo hi:Int)(x:V):Bool:=match x with|.int n=>decide (lo<=n)&&decide (n<=hi)|_=>false
def Pt(H:Hp)(x:V):Prop:=∃k,Uo H x k/\∀z,x=.str z->z.length<=1000
def Co:Sp:=λvs H Q _=>∃x lo hi,vs=[x,.int lo,.int hi]/\Pt H x/\∀H',Same H H'->Q (.bl (Al lo hi x)) H'
def aBj:R2:=λx y H Q=>mR x λl=>mR y λb=>∃xs zs,H l=some (.lst xs)/\H b=some (.lst zs)/\xs.length+zs.length<=sizeLine/\∀p,H p=none->Q (.ref p) (aI H p (.lst (xs++zs)))
def R.bw{X:Cx}:jI X (binaryOp .Add) aBj:=⟨Xc.imp λx y H Q h=>by
 unfold aBj at h;rw[dD]at h;obtain⟨a,rfl,h⟩:=h;rw[dD]at h;obtain⟨b,rfl,xs,zs,h⟩:=h;exact⟨a,b,xs,zs,rfl,rfl,h⟩⟩
def Yi{z:Str}(h:fO z):nmV (.str z)=true:=by
 unfold nmV;rw[jL,T8 (by have:=h.1;omega),T8 (by have:=h.2.1;omega),all_eq_true.mpr λc hc=>T8 (h.2.2 c hc)];rfl
def Dk.tup_ne{H:Hp}{d b p:TD}{xs:List V}(D:Dk H d b)(h:H p=some (.tup xs)):p≠d/\p≠b:=by
 obtain⟨ns,s,k,h1,h2,h3⟩:=D.ex;exact⟨λe=>(by rw[e,h1]at h;cases h),λe=>(by rw[e,h2]at h;cases h)⟩
inductive TV where
 | sc (v:V)
 | tp (xs:List TV)
 | ls (xs:List TV)
def sP:V->Bool|.non=>true|.bl _=>true|.int _=>true|.str _=>true|_=>false
def Fv(H:Hp):Nat->TV->V->Prop
 | 0,.sc v,x=>x=v/\sP v=true
 | _+1,.sc v,x=>x=v/\sP v=true
 | n+1,.tp ts,x=>∃a xs,x=.ref a/\H a=some (.tup xs)/\Paired (Fv H n) ts xs
 | n+1,.ls ts,x=>∃a xs,x=.ref a/\H a=some (.lst xs)/\Paired (Fv H n) ts xs
 | 0,_,_=>False
def Paired.map'{α β:Type}{R S:α->β->Prop}(f:∀a b,R a b->S a b){xs:List α}{ys:List β}(h:Paired R xs ys):Paired S xs ys:=by
 induction h with
 | nil=>exact .nil
 | cons h t ih=>exact .cons (f _ _ h) ih
def Paired.get'{α β:Type}{R:α->β->Prop}:∀ {xs:List α}{ys:List β}{j:Nat},Paired R xs ys->∀(h:j<ys.length),∃h':j<xs.length,R xs[j] ys[j]
 | _,_,0,.cons h t,_=>⟨Nat.succ_pos _,h⟩
 | _,_,j+1,.cons h t,hj=>let ⟨h',r⟩:=Paired.get' (j:=j) t (by simpa using hj);⟨by simpa using h',by simpa using r⟩
section
variable {X:Cx}{pins:ZB}{s:P1}{σ:St}{H:Hp}
def Rt(B:Around):B.in1.units=B.units+1:=rfl
def kQ(n:Nat):(List.range n).all (λ_=>true)=true:=all_eq_true.mpr λ_ _=>rfl
def Ku(I:Inv X pins σ H s):∀(n:Nat){t:TV}{x y:V}{v u:Q2}{A:Around},Fv H n t x->Fv H n t y->RelV x v->RelV y u->A.units+n<cLine->SeqAt.EqAt A s v u true:=by
 have sc:∀ {v:V}{x y:V}{v1 u1:Q2}{A:Around},(x=v/\sP v=true)->(y=v/\sP v=true)->RelV x v1->RelV y u1->SeqAt.EqAt A s v1 u1 true:=by
  rintro v x y v1 u1 A ⟨rfl,hx⟩ ⟨rfl,_⟩ r1 r2
  cases y with
  | non=>cases r1;cases r2;exact SeqAt.EqAt.same _
  | bl i=>cases r1;cases r2;exact SeqAt.EqAt.same _
  | int i=>
   obtain⟨t1,rfl⟩:=r1;obtain⟨t2,rfl⟩:=r2;have:=SeqAt.EqAt.int_int (A:=A) (s:=s) i t1 i t2
   rwa [beq_self_eq_true]at this
  | str i=>
   obtain⟨t1,rfl⟩:=r1;obtain⟨t2,rfl⟩:=r2;have:=SeqAt.EqAt.str_str (A:=A) (s:=s) i t1 i t2
   rwa [beq_self_eq_true]at this
  | _=>cases hx
 intro n;induction n with
 | zero=>
  intro t x y v u A h1 h2 r1 r2 hu;cases t with
  | sc z=>exact sc h1 h2 r1 r2
  | _=>exact h1.elim
 | succ n ih=>
  intro t x y v u A h1 h2 r1 r2 hu;cases t with
  | sc z=>exact sc h1 h2 r1 r2
  | tp ts=>
   obtain⟨a,xs,rfl,g1,p1⟩:=h1;obtain⟨b,ys,rfl,g2,p2⟩:=h2;cases r1;cases r2;by_cases rg:a=b
   ·subst rg;exact SeqAt.EqAt.same _
   ·obtain⟨its,ri,ti,_⟩:=I.tuple (QYM g1);obtain⟨a9,W6,rh,_⟩:=I.tuple (QYM g2);have vj:its.length=ts.length:=by rw[<- ri.length,p1.length]
    have vt:a9.length=ts.length:=by rw[<- W6.length,p2.length]
    have key:=SeqAt.RcAt.tuples (A:=A) (s:=s) (e:=λ_=>true) ti rh Zo (λj h1 h2=>by
     rw[eB]at h1 h2;obtain⟨G9,q1⟩:=Paired.get' (j:=j) ri h1;obtain⟨M1,q2⟩:=Paired.get' (j:=j) W6 h2;obtain⟨h3,q3⟩:=Paired.get' (j:=j) p1 G9;obtain⟨h4,q4⟩:=Paired.get' (j:=j) p2 M1;simpa using ih q3 q4 q1 q2 (by rw[Rt];omega))
    have e:((List.range (min its.toArray.size a9.toArray.size)).all (λ_=>true)&&its.toArray.size==a9.toArray.size)=true:=by
     rw[kQ,eB,eB,vj,vt,beq_self_eq_true];rfl
    rw[e]at key;exact SeqAt.EqAt.of_refs rg key
  | ls ts=>
   obtain⟨a,xs,rfl,g1,p1⟩:=h1;obtain⟨b,ys,rfl,g2,p2⟩:=h2;cases r1;cases r2;by_cases rg:a=b
   ·subst rg;exact SeqAt.EqAt.same _
   ·obtain⟨its,ri,ti,_⟩:=I.list (QYL g1);obtain⟨a9,W6,rh,_⟩:=I.list (QYL g2);have vj:its.length=ts.length:=by rw[<- ri.length,p1.length]
    have vt:a9.length=ts.length:=by rw[<- W6.length,p2.length]
    have key:=SeqAt.RcAt.lists (A:=A) (s:=s) (e:=λ_=>true) ti.isList rh.isList (by rw[eB,eB,vj,vt]) Zo (λj h1 h2=>by
     rw[eB]at h1 h2;obtain⟨G9,q1⟩:=Paired.get' (j:=j) ri h1;obtain⟨M1,q2⟩:=Paired.get' (j:=j) W6 h2;obtain⟨h3,q3⟩:=Paired.get' (j:=j) p1 G9;obtain⟨h4,q4⟩:=Paired.get' (j:=j) p2 M1;simpa using ih q3 q4 q1 q2 (by rw[Rt];omega))
    rw[kQ]at key;exact SeqAt.EqAt.of_refs rg key
end
section
variable {X:Cx}
def Yj(neg:Bool):R2:=λx y H Q=>∃n t,n<=50/\Fv H n t x/\Fv H n t y/\Q (.bl (!neg)) H
def Cp(neg:Bool){pins:ZB}{s:P1}{σ:St}{H:Hp}{x y:V}{v u:Q2}{Q:VK}{op:CmpOp}(DZ:op=if neg then .NotEq else .Eq)(hu:X.A.units+64<cLine)(I:Inv X pins σ H s)(rx:RelV x v)(ry:RelV y u)(h:Yj neg x y H Q) :
  wpAny (model X.prog X.w) X.A (compareOp op v u) (EP X pins σ Q) X.xe s:=by
 obtain⟨n,t,hn,h1,h2,q⟩:=h;have sc:∀z,t=.sc z->wpAny (model X.prog X.w) X.A (compareOp op v u) (EP X pins σ Q) X.xe s:=by
  rintro z rfl;have e1:x=z/\sP z=true:=by cases n<;>exact h1
  have e2:y=z/\sP z=true:=by cases n<;>exact h2
  obtain⟨rfl,hx⟩:=e1;obtain⟨rfl,_⟩:=e2;have hs:L2.Wq y y=true:=by cases y<;>first|rfl|cases hx
  cases neg with
  | true=>
   subst DZ;exact Uc pins s σ H y y v u Q I rx ry ⟨hs,by simpa using q⟩
  | false=>
   subst DZ;exact Ub pins s σ H y y v u Q I rx ry ⟨hs,by simpa using q⟩
 cases n with
 | zero=>
  cases t with
  | sc z=>exact sc z rfl
  | _=>exact h1.elim
 | succ n=>
  cases t with
  | sc z=>exact sc z rfl
  | tp ts=>
   obtain⟨a,xs,rfl,g1,p1⟩:=h1;obtain⟨b,ys,rfl,g2,p2⟩:=h2;cases rx;cases ry;obtain⟨its,ri,ti,_⟩:=I.tuple (QYM g1);obtain⟨a9,W6,rh,_⟩:=I.tuple (QYM g2);have vj:its.length=ts.length:=by rw[<- ri.length,p1.length]
   have vt:a9.length=ts.length:=by rw[<- W6.length,p2.length]
   have each:∀j (h1:j<its.toArray.size) (h2:j<a9.toArray.size),SeqAt.EqAt X.A.in1 s its.toArray[j] a9.toArray[j] true:=λj h1 h2=>by
    rw[eB]at h1 h2;obtain⟨G9,q1⟩:=Paired.get' (j:=j) ri h1;obtain⟨M1,q2⟩:=Paired.get' (j:=j) W6 h2;obtain⟨h3,q3⟩:=Paired.get' (j:=j) p1 G9;obtain⟨h4,q4⟩:=Paired.get' (j:=j) p2 M1;simpa using Ku I n q3 q4 q1 q2 (by rw[Rt];omega)
   have e:((List.range (min its.toArray.size a9.toArray.size)).all (λ_=>true)&&its.toArray.size==a9.toArray.size)=true:=by
    rw[kQ,eB,eB,vj,vt,beq_self_eq_true];rfl
   cases neg with
   | true=>
    subst DZ;have key:=SeqAt.RcNeAt.tuples (A:=X.A) (s:=s) (e:=λ_=>true) ti rh Zo each;rw[e]at key;exact key _ _ _ _ ⟨.bl false,H,I,rfl,q⟩
   | false=>
    subst DZ;have key:=SeqAt.RcAt.tuples (A:=X.A) (s:=s) (e:=λ_=>true) ti rh Zo each;rw[e]at key;exact key _ _ _ _ ⟨.bl true,H,I,rfl,q⟩
  | ls ts=>
   obtain⟨a,xs,rfl,g1,p1⟩:=h1;obtain⟨b,ys,rfl,g2,p2⟩:=h2;cases rx;cases ry;obtain⟨its,ri,ti,_⟩:=I.list (QYL g1);obtain⟨a9,W6,rh,_⟩:=I.list (QYL g2);have vj:its.length=ts.length:=by rw[<- ri.length,p1.length]
   have vt:a9.length=ts.length:=by rw[<- W6.length,p2.length]
   have each:∀j (h1:j<its.toArray.size) (h2:j<a9.toArray.size),SeqAt.EqAt X.A.in1 s its.toArray[j] a9.toArray[j] true:=λj h1 h2=>by
    rw[eB]at h1 h2;obtain⟨G9,q1⟩:=Paired.get' (j:=j) ri h1;obtain⟨M1,q2⟩:=Paired.get' (j:=j) W6 h2;obtain⟨h3,q3⟩:=Paired.get' (j:=j) p1 G9;obtain⟨h4,q4⟩:=Paired.get' (j:=j) p2 M1;simpa using Ku I n q3 q4 q1 q2 (by rw[Rt];omega)
   cases neg with
   | true=>
    subst DZ;have key:=SeqAt.RcNeAt.lists (A:=X.A) (s:=s) (e:=λ_=>true) ti.isList rh.isList (by rw[eB,eB,vj,vt]) Zo each;rw[kQ]at key;exact key _ _ _ _ ⟨.bl false,H,I,rfl,q⟩
   | false=>
    subst DZ;have key:=SeqAt.RcAt.lists (A:=X.A) (s:=s) (e:=λ_=>true) ti.isList rh.isList (by rw[eB,eB,vj,vt]) Zo each;rw[kQ]at key;exact key _ _ _ _ ⟨.bl true,H,I,rfl,q⟩
def R.ij(hu:X.A.units+64<cLine):jI X (compareOp .Eq) (Yj false):=⟨λpins s σ H x y v u Q I rx ry h=>Cp false rfl hu I rx ry h⟩
def R.fq(hu:X.A.units+64<cLine):jI X (compareOp .NotEq) (Yj true):=⟨λpins s σ H x y v u Q I rx ry h=>Cp true rfl hu I rx ry h⟩
def R.ik{st:Stmt}:XS X st (λ_ _ _=>False):=⟨λpins s σ H D I h=>h.elim⟩
end
def Yk(a b:Str):ltCps b.cps.toList a.cps.toList=false↔a.cps.toList<=b.cps.toList:=by
 rw[ltCps_eq,decide_eq_false_iff_not];exact Iff.rfl
def Kv{a b:Str}(h:a.cps.toList=b.cps.toList):a=b:=by rw[nB a,nB b,h]
def jB:∀(l:List Str)(p:Str),risingS p l=true->(p::l).Pairwise (λa b=>a.cps.toList<=b.cps.toList)
 | [],p,_=>List.pairwise_singleton _ _
 | x::r,p,h=>by
  unfold risingS at h;rw[Bool.and_eq_true]at h;obtain⟨h1,h2⟩:=h;have ih:=jB r x h2;have PQ:p.cps.toList<=x.cps.toList:=(Yk p x).mp (by simpa using h1);refine pairwise_cons.mpr ⟨λy hy=>?_,ih⟩;rcases mem_cons.mp hy with rfl|hy
  ·exact PQ
  ·exact le_trans PQ ((pairwise_cons.mp ih).1 y hy)
def oJ:∀(l:List Str),sortedS l=true->l.Pairwise (λa b=>a.cps.toList<=b.cps.toList)
 | [],_=>List.Pairwise.nil
 | x::r,h=>jB r x h
def pF:∀(l m:List Str),l.Perm m->l.Pairwise (λa b=>a.cps.toList<=b.cps.toList)->m.Pairwise (λa b=>a.cps.toList<=b.cps.toList)->l=m
 | [],m,hp,_,_=>(List.nil_perm.mp hp).symm
 | a::l,[],hp,_,_=>(List.perm_nil.mp hp)
 | a::l,b::m,hp,h1,h2=>by
  obtain⟨p1,p2⟩:=pairwise_cons.mp h1;obtain⟨q1,q2⟩:=pairwise_cons.mp h2;have e:a=b:=by
   have ma:a∈b::m:=hp.mem_iff.mp eV;have mb:b∈a::l:=hp.mem_iff.mpr eV;rcases mem_cons.mp ma with h|h
   ·exact h
   ·rcases mem_cons.mp mb with h'|h'
    ·exact h'.symm
    ·exact Kv (List.le_antisymm (p1 b h') (q1 a h))
  subst e;rw[pF l m (List.Perm.cons_inv hp) p2 q2]
def mD(ss:List Str):List Str:=ss.mergeSort (λa b=>decide (a.cps.toList<=b.cps.toList))
def hJ(ss:List Str):(mD ss).Perm ss:=List.mergeSort_perm _ _
def mE(ss:List Str):(mD ss).Pairwise (λa b=>a.cps.toList<=b.cps.toList):=by
 have:=List.pairwise_mergeSort (le:=λ(a b:Str)=>decide (a.cps.toList<=b.cps.toList)) (λa b c h1 h2=>T8 (le_trans (UV h1) (UV h2))) (λa b=>by
  rcases List.le_total a.cps.toList b.cps.toList with h|h
  ·simp[h]
  ·simp [h]) ss
 exact this.imp λh=>UV h
def Kw{ss GA:List Str}(hp:GA.Perm ss)(hs:sortedS GA=true):GA=mD ss:=
 pF _ _ (hp.trans (hJ ss).symm) (oJ _ hs) (mE ss)
def lF(ss:List Str):(mD ss).length=ss.length:=(hJ ss).length_eq
section
variable {prog:Program}{w:World}{A:Around}{E:XV}{s:P1}
def qS{l:TD}{T:String}{o:Obj}{vs:List Q2}{ss:List Str}{n:Nat}{Q:XV}(hT:T="list"∨T="tuple")(ho:s.heap.get? l=some o)(hc:o.cls=.type T)(hd:o.data=.seq vs.toArray n)(hS:StrsAre vs ss)(U0:vs.length<64)(h:∀(h1 h':Heap)(out:Array Value)(e:Nat),(∀b ob,s.heap.get? b=some ob->h1.get? b=some ob)->(∀b ob,h1.get? b=some ob->h'.get? b=some ob)->h'.get? h1.objs.size=some (seqObj "list" out e)->StrsAre out.toList (mD ss)->Q (.ref h1.objs.size) {s with heap:=h' }) :
  wpAny (model prog w) A (call (.builtin "sorted") [.ref l]) Q E s:=by
 apply Calls.call_function_entry kind_sorted plain_sorted entry_sorted (args_sorted1 _);unfold Builtin.«sorted»;apply V4 (m:=checkCount "sorted" 1 1 _);apply V3;apply V4;refine wpAny_collect_seq l hT ho hc hd (λh1 k1=>?_) (by rw[eB];exact eI (le_of_lt U0) Zd);have e1:vs.toArray.toList=vs:=by simp
 rw[e1];apply V4;apply wpAny_newList
 ·have g2:(h1.push (seqObj "list" vs.toArray 0)).get? h1.objs.size=some (seqObj "list" vs.toArray 0):=TW _ rfl;apply V4;apply wpAny_holding;refine wpAny_call_entry slot_list_sort ⟨_,g2,rfl⟩ entry_list_sort (list_sort_treeK strKind_oneLt g2 hS.keysOf (λv₁ v₂ rest e=>keyKind_strs (by rw[<- e];exact hS)) U0 λJ1 hp hs=>⟨_,rfl,V3 ⟨_,rfl,?_⟩⟩) (args_list_sort _);obtain⟨GA,q1,q2,q3⟩:=sorted_out_str hS hp hs;obtain⟨e,he⟩:=sortedHeap_at (out:=(arrOf J1).map (·.2)) g2;refine h h1 _ _ e k1 (λb ob yb=>?_) he (Kw q2 q3▸q1);have q9:=Heap.lt_size yb;rw[sortedHeap_old (ne_of_lt q9) (by rw[size_push'];exact lt_succ_of_lt q9)];exact eG _ yb
 ·exact eI (le_of_lt U0) Zd
end
def oK:∀ {vs:List Q2}{ss:List Str},StrsAre vs ss->Vals (ss.map V.str) vs
 | _,_,.nil=>.nil
 | _,_,.cons x t h=>.cons ⟨t,rfl⟩ (oK h)
section
variable {X:Cx}
def vQ(K:W.Frag):List V->Hp->VK->Prop:=λvs H Q=>match vs with
 | [.ref a]=>∃ss:List Str,(SqL K H a (ss.map V.str)∨SqT K H a (ss.map V.str))/\ss.length<64/\∀l,H l=none->Q (.ref l) (aI H l (.lst ((mD ss).map V.str)))
 | _=>False
def Kx:CallR X (.builtin "sorted") (vQ X.K):=by
 intro pins s σ H xs us Q I r h;unfold vQ at h;split at h
 ·rename_i a;obtain⟨ss,hq,U0,q⟩:=h;obtain⟨u,rfl,ru⟩:=jA r;cases ru;have fin:∀(h1 h':Heap)(out:Array Value)(e:Nat),(∀c ob,s.heap.get? c=some ob->h1.get? c=some ob)->(∀c ob,h1.get? c=some ob->h'.get? c=some ob)->h'.get? h1.objs.size=some (seqObj "list" out e)->StrsAre out.toList (mD ss)->EP X pins σ Q (.ref h1.objs.size) {s with heap:=h' }:=λh1 h' out e k1 k he hS=>by
   have I1:=I.kept (t':=s.toks) k1;refine⟨.ref h1.objs.size,_,I1.laid (t':=s.toks) (o:=.lst ((mD ss).map V.str)) k (aY _) ?_,rfl,q _ (I1.hok.fresh (aY _))⟩;refine⟨?_,out.toList,e,oK hS,he⟩;rw[aS,lF];exact eI (le_of_lt U0) Zd
  rcases hq with hq|hq
  ·obtain⟨its,r1,p1,_⟩:=I.list hq;obtain⟨o,ho,hc,n,hd⟩:=p1.isList;have hl:=r1.length;rw[aS]at hl;exact qS (.inl rfl) ho hc hd (lZ r1) Zo fin
  ·obtain⟨its,r1,p1,_⟩:=I.tuple hq;obtain⟨o,ho,hc,n,hd⟩:=p1;have hl:=r1.length;rw[aS]at hl;exact qS (.inr rfl) ho hc hd (lZ r1) Zo fin
 ·exact h.elim
def R.il{K:W.Frag}(hK:X.K=K:=by rfl):XC X (.builtin "sorted") (vQ K):=hK▸⟨Kx⟩
end
def TK(H H':Hp):Prop:=∀a xs,H a=some (.tup xs)->H' a=some (.tup xs)
def TK.refl{H:Hp}:TK H H:=λ_ _ h=>h
def TK.trans{H H1 H2:Hp}(a:TK H H1)(b:TK H1 H2):TK H H2:=λp xs h=>b p xs (a p xs h)
def Same.tk{H H':Hp}(s:Same H H'):TK H H':=λa xs h=>s _ _ h
def Kp.tk{H H':Hp}{d b:TD}(D:Dk H d b)(k:Kp d b H H'):TK H H':=λa xs h=>k _ _ h (D.tup_ne h).1 (D.tup_ne h).2
def fW{H:Hp}{l:TD}{xs ys:List V}(g:H l=some (.lst xs)):TK H (aI H l (.lst ys)):=λa zs h=>by
 have:a≠l:=λe=>by rw[e,g]at h;cases h
 rw[aB this];exact h
section
variable {X:Cx}{es:List Expr}{t:TA}{pos:Pos}
def Ky(t:TA):TE:=λσ H Q=>t σ H λxs H1=>xs.length<=1000/\∀p H',Same H1 H'->H' p=some (.tup xs)->Q (.ref p) H'
def Ru{x1}(h:PA X es t):PE X (.Tuple es x1 pos) (Ky t):=by
 intro pins s σ H Q I hq;refine wpAny_Tuple_spliced (cA (h pos pins s σ H _ I hq) λus s1 ⟨xs,H1,I1,r,z,q⟩=>⟨by rw[<- r.length];exact gB z,?_⟩);have hf:H1 s1.heap.objs.size=none:=I1.hok.fresh (aY _);refine⟨.ref s1.heap.objs.size,aI H1 s1.heap.objs.size (.tup xs),I1.laid (t':=s1.toks) (λb u e=>eG _ e) (aY _) ?_,rfl,q _ _ (aF hf) aA⟩;exact⟨gB z,us,r,⟨_,TW _ rfl,rfl,_,rfl⟩⟩
def R.aq{x1}(h:XA X es t):XE X (.Tuple es x1 pos) (Ky t):=⟨Ru h.h⟩
end
section
def Ask(lt:Nat->Nat->Bool)(n:Nat){α:Type}:W.KasT α->(α->Prop)->Prop
 | .ret a,Q=>Q a
 | .ask i j k,Q=>i<n/\j<n/\Ask lt n (k (lt i j)) Q
def Ask.bind{lt:Nat->Nat->Bool}{n:Nat}{α β:Type}{f:α->W.KasT β}{Q:β->Prop}:∀(t:W.KasT α),Ask lt n t (λa=>Ask lt n (f a) Q)->Ask lt n (t.bind f) Q
 | .ret _,h=>h
 | .ask i j k,h=>⟨h.1,h.2.1,Ask.bind (k (lt i j)) h.2.2⟩
def Ask.wp{lt:Nat->Nat->Bool}{n:Nat}{α:Type}{cmp:Nat->Nat->(Bool->P1->Prop)->P1->Prop}{s:P1}{G:α->P1->Prop}(hc:∀i j C,i<n->j<n->C (lt i j) s->cmp i j C s) :
  ∀(t:W.KasT α),Ask lt n t (λa=>G a s)->t.kasWp cmp G s
 | .ret _,h=>h
 | .ask i j k,h=>hc i j _ h.1 h.2.1 (Ask.wp hc (k (lt i j)) h.2.2)
variable {O:KeyOrd}{key:Nat->O.α}{n:Nat}
abbrev kg(key:Nat->O.α)(p:Array Nat)(i:Nat):O.α:=key (p.getD i 0)
abbrev nC(key:Nat->O.α)(i j:Nat):Bool:=O.blt (key i) (key j)
def Prm(n:Nat)(p:Array Nat):Prop:=p.Perm (List.range n).toArray
def Prm.size{p:Array Nat}(h:Prm n p):p.size=n:=by
 have:=h.size_eq;simpa using this
def Prm.lt{p:Array Nat}(h:Prm n p){i:Nat}(hi:i<n):p.getD i 0<n:=by
 have hs:i<p.size:=by rw[h.size];exact hi
 have e:p.getD i 0=p[i]:=by simp[Array.getD,hs]
 rw[e];have hm:p[i]∈(List.range n).toArray.toList:=(Array.perm_iff_toList_perm.mp h).mem_iff.mp Zs;simpa using hm
def gd{p q:Array Nat}{i j:Nat}(h:p[i]?=q[j]?):p.getD i 0=q.getD j 0:=by
 rw[Array.getD_eq_getD_getElem?,Array.getD_eq_getD_getElem?,h]
def Am{p:Array Nat}{i j:Nat}(hj:j<=p.size)(k:Nat):kg key (W.kas_rev p i j) k=if i<=k/\k<j then kg key p (i+j-1-k) else kg key p k:=by
 have e:=getElem?_mirror_all (xs:=p) (i:=i) hj k;unfold kg W.kas_rev;by_cases h1:i<=k/\k<j
 ·rw[P0 h1]at e ⊢;rw[gd e]
 ·rw[QZZ h1]at e ⊢;rw[gd e]
def vR{p:Array Nat}{i j:Nat}(hj:j<=p.size)(heq:∀k,i<=k->k<j->kg key p k=kg key p (j-1))(k:Nat):kg key (W.kas_rev p i j) k=kg key p k:=by
 rw[Am hj];split
 ·rename_i h;rw[heq (i+j-1-k) Zo Zo,heq k h.1 h.2]
 ·rfl
def Kz{p:Array Nat}{a d:Nat}(hs:a<p.size)(hd:d<=a)(k:Nat):kg key (bubble p a d) k=if k=a-d then kg key p a else if a-d<k/\k<=a then kg key p (k-1) else kg key p k:=by
 have e:=getElem?_bubble (xs:=p) hs d hd k;unfold kg;by_cases h1:k=a-d
 ·rw[P0 h1]at e ⊢;rw[gd e]
 ·rw[QZZ h1]at e ⊢;by_cases h2:a-d<k/\k<=a
  ·rw[P0 h2]at e ⊢;rw[gd e]
  ·rw[QZZ h2]at e ⊢;rw[gd e]
def Prm.rev{p:Array Nat}(h:Prm n p)(i j:Nat):Prm n (W.kas_rev p i j):=(mirror_perm _ _ _ _).trans h
def Prm.bub{p:Array Nat}(h:Prm n p)(i j:Nat):Prm n (bubble p i j):=(bubble_perm _ _ _).trans h
def Up(key:Nat->O.α)(p:Array Nat)(m:Nat):Prop:=∀i j,i<=j->j<m->O.kle (kg key p i) (kg key p j)
def Dn(key:Nat->O.α)(p:Array Nat)(m:Nat):Prop:=∀i j,i<=j->j<m->O.kle (kg key p j) (kg key p i)
def Up.one{p:Array Nat}:Up key p 1:=λi j h1 h2=>by
 have e:i=j:=by omega
 subst e;exact KeyOrd.kle_refl _
def Up.more{p:Array Nat}{m:Nat}(h:Up key p m)(hm:1<=m)(hs:O.kle (kg key p (m-1)) (kg key p m)):Up key p (m+1):=λi j h1 h2=>by
 by_cases hj:j<m
 ·exact h i j h1 hj
 ·obtain rfl:j=m:=by omega
  by_cases hi:i=j
  ·subst hi;exact KeyOrd.kle_refl _
  ·exact KeyOrd.kle_trans (h i (j-1) Zo Zo) hs
def Dn.more{p:Array Nat}{m:Nat}(h:Dn key p m)(hm:1<=m)(hs:O.kle (kg key p m) (kg key p (m-1))):Dn key p (m+1):=λi j h1 h2=>by
 by_cases hj:j<m
 ·exact h i j h1 hj
 ·obtain rfl:j=m:=by omega
  by_cases hi:i=j
  ·subst hi;exact KeyOrd.kle_refl _
  ·exact KeyOrd.kle_trans hs (h i (j-1) Zo Zo)
def vS{p:Array Nat}(hp:Prm n p){Q:Nat->Prop}:∀(f a:Nat),1<=a->a+f<=n->Up key p a →
  (∀m,a<=m->m<=a+f->Up key p m->(m=a+f∨O.klt (kg key p m) (kg key p (m-1)))->Q m)->Ask (nC key) n (W.kas_asc p f a) Q
 | 0,a,_,_,hu,h=>h a (aY _) (aY _) hu (.inl rfl)
 | f+1,a,h1,hn,hu,h=>by
  refine⟨hp.lt Zo,hp.lt Zo,?_⟩;show Ask (nC key) n (if O.blt (kg key p a) (kg key p (a-1))=true then _ else _) Q
  cases hb:O.blt (kg key p a) (kg key p (a-1)) with
  | true=>exact h a (aY _) Zo hu (.inr hb)
  | false=>
   refine vS hp f (a+1) Zo Zo (hu.more h1 hb) λm m1 m2 m3 m4=>h m Zo Zo m3 (m4.imp (λe=>by omega) id)
def nD{Q:Array Nat×Nat×Nat->Prop}:∀(f:Nat)(p:Array Nat)(a q:Nat),Prm n p->1<=a->a+f<=n->Dn key p a->q+1<=a->(∀i,a-(q+1)<=i->i<a->kg key p i=kg key p (a-1)) →
  (∀p' m q',Prm n p'->1<=m->m<=a+f->Dn key p' m->q'+1<=m->(∀i,m-(q'+1)<=i->i<m->kg key p' i=kg key p' (m-1))->Q (p',m,q'))->Ask (nC key) n (W.kas_desc f p a q) Q
 | 0,p,a,q,hp,h1,_,hd,hq,he,h=>h p a q hp h1 (aY _) hd hq he
 | f+1,p,a,q,hp,h1,hn,hd,hq,he,h=>by
  have hsz:a<=p.size:=by rw[hp.size];omega
  have one:∀p':Array Nat,∀i,a+1-(0+1)<=i->i<a+1->kg key p' i=kg key p' (a+1-1):=λp' i x y=>by
   have e:i=a+1-1:=by omega
   rw[e]
  refine⟨hp.lt Zo,hp.lt Zo,?_⟩;show Ask (nC key) n (if O.blt (kg key p a) (kg key p (a-1))=true then _ else _) Q
  cases hb:O.blt (kg key p a) (kg key p (a-1)) with
  | true=>
   rw[P0 rfl];have vi:=hd.more h1 (KeyOrd.kle_of_klt hb);by_cases q0:q>0
   ·rw[P0 q0];have hs:=vR (key:=key) hsz he;refine nD f _ (a+1) 0 (hp.rev _ _) Zo Zo (λi j x y=>by rw[hs,hs];exact vi i j x y) Zo (one _) λp' m q' x1 x2 x3=>h p' m q' x1 x2 Zo
   ·rw[QZZ q0];exact nD f _ (a+1) 0 hp Zo Zo vi Zo (one _) λp' m q' x1 x2 x3=>h p' m q' x1 x2 Zo
  | false=>
   rw[QZZ Zd];refine⟨hp.lt Zo,hp.lt Zo,?_⟩;show Ask (nC key) n (if O.blt (kg key p (a-1)) (kg key p a)=true then _ else _) Q
   cases hc:O.blt (kg key p (a-1)) (kg key p a) with
   | true=>exact h p a q hp h1 Zo hd hq he
   | false=>
    rw[QZZ Zd];have hx:kg key p a=kg key p (a-1):=KeyOrd.kle_antisymm hc hb;refine nD f p (a+1) (q+1) hp Zo Zo (hd.more h1 hc) Zo (λi x y=>?_) λp' m q' x1 x2 x3=>h p' m q' x1 x2 Zo;rw[show a+1-1=a from rfl];by_cases hi:i=a
    ·rw[hi]
    ·rw[hx];exact he i Zo Zo
def tX{p:Array Nat}{a r:Nat}{Q:Nat×Array Nat->Prop}(hp:Prm n p)(h1:1<=a)(hr:a<=r)(hn:r<=n)(hd:Dn key p a)(h:∀m p',Prm n p'->1<=m->m<=r->Up key p' m->Q (m,p')) :
  Ask (nC key) n (W.kas_tail3 a r p) Q:=by
 have hsz:a<=p.size:=by rw[hp.size];omega
 refine Ask.bind _ (vS (hp.rev 0 a) (r-a) a h1 Zo (λi j x y=>?_) λm m1 m2 m3 _=>h m _ (hp.rev 0 a) Zo Zo m3);rw[Am hsz,Am hsz,P0 Zo,P0 Zo];exact hd _ _ Zo Zo
def nE{p:Array Nat}{a r:Nat}{Q:Nat×Array Nat->Prop}(hp:Prm n p)(ha:a+1<=r)(hn:r<=n)(hd:Dn key p (a+1))(h:∀m p',Prm n p'->1<=m->m<=r->Up key p' m->Q (m,p')) :
  Ask (nC key) n (W.kas_descPart a r p) Q:=by
 refine Ask.bind _ (nD (r-(a+1)) p (a+1) 0 hp Zo Zo hd Zo (λi x y=>by rw[show i=a+1-1 by omega]) λp' m q x1 x2 x3 x4 x5 x6=>?_);have hsz:m<=p'.size:=by rw[x1.size];omega
 dsimp only;by_cases q0:q>0
 ·rw[P0 q0];have hs:=vR (key:=key) hsz x6;exact tX (x1.rev _ _) x2 Zo hn (λi j x y=>by rw[hs,hs];exact x4 i j x y) h
 ·rw[QZZ q0];exact tX x1 x2 Zo hn x4 h
def Fx{p:Array Nat}{r:Nat}{Q:Nat×Array Nat->Prop}(hp:Prm n p)(h1:1<=r)(hn:r<=n)(h:∀m p',Prm n p'->1<=m->m<=r->Up key p' m->Q (m,p')) :
  Ask (nC key) n (W.kas_count r p) Q:=by
 refine Ask.bind _ (vS hp (r-1) 1 (aY _) Zo Up.one λa a1 a2 hu ho=>?_);by_cases e:a=r
 ·rw[P0 (by simpa using e)];exact h a p hp a1 Zo hu
 ·rw[QZZ (by simpa using e)];have q9:O.klt (kg key p a) (kg key p (a-1)):=ho.resolve_left Zo;by_cases g:a>1
  ·rw[P0 g];refine⟨hp.lt Zo,hp.lt Zo,?_⟩;show Ask (nC key) n (if O.blt (kg key p 0) (kg key p (a-1))=true then _ else _) Q
   cases hb:O.blt (kg key p 0) (kg key p (a-1)) with
   | true=>exact h a p hp a1 Zo hu
   | false=>
    rw[QZZ Zd];have hsz:a<=p.size:=by rw[hp.size];omega
    have K7:∀k,0<=k->k<a->kg key p k=kg key p (a-1):=λk _ hk=>KeyOrd.kle_antisymm (hu k (a-1) Zo Zo) (KeyOrd.kle_trans hb (hu 0 k Zo hk))
    have hs:=vR (key:=key) hsz K7;refine nE (hp.rev _ _) Zo hn (λi j x y=>?_) h;rw[hs,hs];by_cases hj:j<a
    ·rw[K7 i Zo Zo,K7 j Zo hj];exact KeyOrd.kle_refl _
    ·obtain rfl:j=a:=by omega
     by_cases hi:i=j
     ·subst hi;exact KeyOrd.kle_refl _
     ·rw[K7 i Zo Zo];exact KeyOrd.kle_of_klt q9
  ·rw[QZZ g];obtain rfl:a=1:=by omega
   refine nE hp Zo hn (λi j x y=>?_) h;by_cases hi:i=j
   ·subst hi;exact KeyOrd.kle_refl _
   ·obtain rfl:i=0:=by omega
    obtain rfl:j=1:=by omega
    exact KeyOrd.kle_of_klt q9
def oM{p:Array Nat}{k:Nat}{Q:Nat->Prop}(hp:Prm n p)(hk:k<n)(hu:Up key p k):∀(f l r:Nat),l<=r->r<=k->r-l<=f->(∀i,i<l->O.kle (kg key p i) (kg key p k))->(∀i,r<=i->i<k->O.klt (kg key p k) (kg key p i)) →
  (∀l,l<=k->(∀i,i<l->O.kle (kg key p i) (kg key p k))->(∀i,l<=i->i<k->O.klt (kg key p k) (kg key p i))->Q l)->Ask (nC key) n (W.kas_place p k f l r) Q
 | 0,l,r,h1,h2,h3,h4,h5,h=>by
  obtain rfl:l=r:=by omega
  exact h l h2 h4 h5
 | f+1,l,r,h1,h2,h3,h4,h5,h=>by
  unfold W.kas_place;by_cases g:l≥r
  ·rw[P0 g];obtain rfl:l=r:=by omega
   exact h l h2 h4 h5
  ·rw[QZZ g];refine⟨hp.lt hk,hp.lt Zo,?_⟩;show Ask (nC key) n (if O.blt (kg key p k) (kg key p ((l+r)/2))=true then _ else _) Q
   cases hb:O.blt (kg key p k) (kg key p ((l+r)/2)) with
   | true=>
    rw[P0 rfl];exact oM hp hk hu f l _ Zo Zo Zo h4 (λi x y=>KeyOrd.klt_of_klt_of_kle hb (hu _ _ x y)) h
   | false=>
    rw[QZZ Zd];exact oM hp hk hu f _ r Zo h2 Zo (λi x=>KeyOrd.kle_trans (hu i ((l+r)/2) Zo Zo) hb) h5 h
def Cq{Q:Array Nat->Prop}:∀(f:Nat)(p:Array Nat)(k:Nat),Prm n p->k+f=n->Up key p k->(∀p',Prm n p'->Up key p' n->Q p')->Ask (nC key) n (W.kas_bin f p k) Q
 | 0,p,k,hp,e,hu,h=>h p hp (by
  obtain rfl:k=n:=by omega
  exact hu)
 | f+1,p,k,hp,e,hu,h=>by
  refine Ask.bind _ (oM hp Zo hu k 0 k Zo Zo Zo (λi x=>by omega) (λi x y=>by omega) λl hl lo hi=>?_);have PR:k<p.size:=by rw[hp.size];omega
  refine Cq f _ (k+1) (hp.bub _ _) Zo (λi j x y=>?_) h;rw[Kz PR Zo,Kz PR Zo,show k-(k-l)=l by omega];by_cases i1:i=l
  ·rw[P0 i1];by_cases j1:j=l
   ·rw[P0 j1];exact KeyOrd.kle_refl _
   ·rw[QZZ j1,P0 Zo];exact KeyOrd.kle_of_klt (hi _ Zo Zo)
  ·rw[QZZ i1];by_cases j1:j=l
   ·rw[P0 j1,QZZ Zo];exact lo _ Zo
   ·rw[QZZ j1];by_cases i2:l<i/\i<=k
    ·rw[P0 i2,P0 Zo];exact hu _ _ Zo Zo
    ·rw[QZZ i2];by_cases j2:l<j/\j<=k
     ·rw[P0 j2];exact hu _ _ Zo Zo
     ·rw[QZZ j2];exact hu _ _ x Zo
def Lg{Q:Array Nat->Prop}(h1:1<=n)(h:∀p,Prm n p->Up key p n->Q p):Ask (nC key) n (W.kas_sort n) Q:=by
 refine Ask.bind _ (Fx (p:=(List.range n).toArray) (Array.Perm.refl _) h1 (aY _) λm p hp m1 m2 hu=>?_);dsimp only;by_cases hm:m<n
 ·rw[P0 hm];rw[show max m 1=m by omega];exact Cq _ p m hp Zo hu h
 ·rw[QZZ hm];obtain rfl:m=n:=by omega
  exact h p hp hu
end
abbrev Z:=Addr×Str×Int
def zle(x y:Z):Prop:=x.2.1.cps.toList<=y.2.1.cps.toList
def ZAt(H:Hp)(zs:List Z):Prop:=∀z∈zs,H z.1=some (.tup [.str z.2.1,.int z.2.2])
def ZAt.same{H H':Hp}{zs:List Z}(h:ZAt H zs)(s:Same H H'):ZAt H' zs:=λz hz=>s _ _ (h z hz)
def eF(zs:List Z):List V:=zs.map λz=>V.ref z.1
section
variable {X:Cx}{pins:ZB}{σ:St}{H:Hp}{s:P1}
def lG:∀ {xs:List V}{vs:List Q2} (i:Nat),Vals xs vs->i<xs.length->∀x,xs[i]?=some x->RelV x (vs.getD i Value.none)
 | x::xs,v::vs,0,.cons r rs,_,y,hy=>by
  cases hy;exact r
 | x::xs,v::vs,i+1,.cons r rs,hi,y,hy=>by
  have:=lG i rs (by simpa using hi) y (by simpa using hy);simpa using this
def xP{α:Type}{f:α->V}{g:α->Q2}:∀ {l:List α},(∀a∈l,RelV (f a) (g a))->Vals (l.map f) (l.map g)
 | [],_=>.nil
 | a::l,h=>.cons (h a eV) (xP λb hb=>h b (iV _ hb))
def aBk(K:W.Frag):List V->Hp->VK->Prop:=λvs H Q=>match vs with
 | [.ref a]=>∃zs:List Z,SqL K H a (eF zs)/\ZAt H zs/\(zs.map (·.2.1)).Nodup/\zs.length<64/\∀l P4,H l=none->P4.Perm zs->P4.Pairwise zle->Q (.ref l) (aI H l (.lst (eF P4)))
 | _=>False
end
def qT:∀ {ks:List Str}{vs:List Q2},vs.length=ks.length->(∀(i:Nat)(v:Q2),vs[i]?=some v->∃x t,ks[i]?=some x/\v=Value.str x t)->StrsAre vs ks
 | [],[],_,_=>.nil
 | k::ks,v::vs,hl,h=>by
  obtain⟨x,t,e1,rfl⟩:=h 0 v rfl;cases e1;exact .cons k t (qT (by simpa using hl) λi v hv=>by simpa using h (i+1) v (by simpa using hv))
section
variable {prog:Program}{w:World}{A:Around}{E:XV}{s:P1}
def xQ{d:TD}{ss:List Str}{kvs:List (aT×Q2)}{Q:XV}(hh:A.handled=none)(lo:(d==sysModules)=false)(hd:s.heap.DictOf (bB prog w) d kvs)(hk:kvs.map (·.1)=ss.map Sum.inr)(U0:ss.length<64)(h:∀(h1 h':Heap)(tk:Nat)(out:Array Value)(e:Nat),(∀b ob,s.heap.get? b=some ob->h1.get? b=some ob)->(∀b ob,h1.get? b=some ob->h'.get? b=some ob)->h'.get? h1.objs.size=some (seqObj "list" out e)->StrsAre out.toList (mD ss)->Q (.ref h1.objs.size) {s with heap:=h',toks:=tk }) :
  wpAny (model prog w) A (call (.builtin "sorted") [.ref d]) Q E s:=by
 have hl:kvs.length=ss.length:=by simpa using congrArg length hk
 obtain⟨ep,hm⟩:=hd.dictAt;apply Calls.call_function_entry kind_sorted plain_sorted entry_sorted (args_sorted1 _);unfold Builtin.«sorted»;apply V4 (m:=checkCount "sorted" 1 1 _);apply V3;apply V4;refine W.kdu_collect (W.kdl_dict lo) hh hm (by rw[hl];exact eI (le_of_lt U0) Zd) λh1 tk acc k1 vp=>?_;have hS:StrsAre acc.toList ss:=qT (by rw[Array.length_toList,vp.1,hl]) λi v hv=>by
  obtain⟨k,x,e1,e2⟩:=vp.2 i v (by simpa using hv);have e3:(kvs.map (·.1))[i]?=some k:=by rw[fA,e1];rfl
  rw[hk,fA]at e3;cases e4:ss[i]? with
  | none=>rw[e4]at e3;cases e3
  | some y=>
   rw[e4]at e3;cases e3;rcases bM (show kB (Sum.inr y) v=true from e2) with⟨_,_,e,_⟩|⟨z,t,e,ev⟩
   ·cases e
   ·cases e;exact⟨_,t,rfl,ev⟩
 generalize acc.toList=vs at hS;have BV:vs.length<64:=by rw[hS.length];exact U0
 apply V4;apply wpAny_newList
 ·have g2:(h1.push (seqObj "list" vs.toArray 0)).get? h1.objs.size=some (seqObj "list" vs.toArray 0):=TW _ rfl;apply V4;apply wpAny_holding;refine wpAny_call_entry slot_list_sort ⟨_,g2,rfl⟩ entry_list_sort (list_sort_treeK (s:={s with heap:=h1.push (seqObj "list" vs.toArray 0),toks:=tk }) strKind_oneLt g2 hS.keysOf (λv₁ v₂ rest e=>keyKind_strs (by rw[<- e];exact hS)) BV λJ1 hp hs=>⟨_,rfl,V3 ⟨_,rfl,?_⟩⟩) (args_list_sort _);obtain⟨GA,q1,q2,q3⟩:=sorted_out_str hS hp hs;obtain⟨e,he⟩:=sortedHeap_at (out:=(arrOf J1).map (·.2)) g2;refine h h1 _ _ _ e k1 (λb ob yb=>?_) he (Kw q2 q3▸q1);have q9:=Heap.lt_size yb;rw[sortedHeap_old (ne_of_lt q9) (by rw[size_push'];exact lt_succ_of_lt q9)];exact eG _ yb
 ·exact eI (le_of_lt BV) Zd
end
section
variable {X:Cx}
def qU:List V->Hp->VK->Prop:=λvs H Q=>match vs with
 | [.ref a]=>∃(ss:List Str)(kvs:List (aT×V)),Rd H a (.dK kvs)/\kvs.map (·.1)=ss.map Sum.inr/\ss.length<64/\∀l,H l=none->Q (.ref l) (aI H l (.lst ((mD ss).map V.str)))
 | _=>False
def Fy(z9:X.calm=true):CallR X (.builtin "sorted") qU:=by
 intro pins s σ H xs us Q I r h;unfold qU at h;split at h
 ·rename_i a;obtain⟨ss,kvs,hq,hk,U0,q⟩:=h;obtain⟨u,rfl,ru⟩:=jA r;cases ru;obtain⟨_,hd,vs,rel,dd⟩:=mW I.hok hq;refine xQ (I.ok.hd z9) hd dd (by rw[<- rel.keys];exact hk) U0 λh1 h' tk out e k1 k he hS=>?_;have I1:=I.kept (t':=s.toks) k1;refine⟨.ref h1.objs.size,_,I1.laid (t':=tk) (o:=.lst ((mD ss).map V.str)) k (aY _) ⟨?_,out.toList,e,oK hS,he⟩,rfl,q _ (I1.hok.fresh (aY _))⟩;rw[aS,lF];exact eI (le_of_lt U0) Zd
 ·exact h.elim
def R.im(z9:X.calm=true):XC X (.builtin "sorted") qU:=⟨Fy z9⟩
end
def vT:typeLookup (.type "list") "keys"=pure none:=am_miss_of_fast (by kernel_rfl)
def lH:plainId "dict.update.loop"=true:=by decide +kernel
def tY:entryFor table "dict.update.loop"=some Builtin.«dict.update.loop»:=entryFor_of_tree (by kernel_rfl)
section
variable {prog:Program}{w:World}{A:Around}{E:XV}{s:P1}
def Rv{a:TD}{o:Obj}{xs:Array Value}{k:Nat}{Q:Option Q2->P1->Prop}(hx:s.heap.get? a=some o)(hc:o.cls=.type "list")(GB:o.data=.seq xs k)(hd:o.dict=none)(hA:A.handled=none)(h:∀h' tk,(∀b ob,s.heap.get? b=some ob->h'.get? b=some ob)->Q none {s with heap:=h',toks:=tk }):wpAny (model prog w) A (getAttr? (.ref a) "keys") Q E s:=by
 obtain⟨c,dct,dat,sl⟩:=o;simp only at hc GB hd;subst hc GB hd;obtain⟨hp,g,d,tk,os⟩:=s;have hT:∀JC,(⟨hp,g,d,JC,os⟩:P1).TypeIs (.ref a) "list":=λ_=>⟨_,hx,rfl⟩
 have f1:=sub_AttributeError;have f3:=F.slot_list_getattribute.lookup;have f4:=F.slot_list_getattribute.bind (.ref a);have f5:=am_list_getattr_none;have f6:=vT;unfold getAttr? getAttrBy? getAttrBy
 repeat (any_goals (first|assumption|exact hT _|((with_reducible show wpAny _ _ (call (Value.builtin "list.__getattribute__") _ _) _ _ _);refine call_meets F.slot_list_getattribute (hT _) am_entry_list_getattribute (F.args_list_getattribute_2 _ _) (meets_getattribute_miss_list a xs k sl "keys" _ f6 Zk) ⟨hx,hA,λh' JC e om=>?_⟩)|wp_step))
 obtain⟨t',u',he⟩:=om.there;show wpAny _ _ (getattributeRaised _ _ _ _ _ _ _) _ _ _;unfold getattributeRaised;repeat (any_goals (first|assumption|wp_step))
 exact h _ _ om.keeps
def Uq(h:Heap)(v:Q2)(q:aT×V):Prop:=∃a u x,v=Value.ref a/\IsTup h a #[u,x]/\RelV (kV q.1) u/\RelV q.2 x
def Lk(hh:A.handled=none){I l d:TD}{its:List Q2}{qs:List (aT×V)}{R:Result->P1->Prop}{res:Q2}(WI:I≠l)(LW:I≠d)(yc:l≠d) :
  ∀(k i:Nat)(s:P1)(kvs:List (aT×V))(vs:List (aT×Q2))(z:Int),its.length-i=k->i<=its.length->qs.length=its.length->s.heap.IsListIter I l i->s.heap.IsList l its.toArray->(∀(j:Nat)(v:Q2)(q:aT×V),its[j]?=some v->qs[j]?=some q->Uq s.heap v q) →
  (∀(j:Nat)(v:Q2)(a:TD),its[j]?=some v->v=Value.ref a->a≠I/\a≠d)->s.heap.DictOf (bB prog w) d vs->KV kvs vs->kvs.length+k<=1000 →
  (∀h' tk vv,(∀b ob,b≠I->b≠d->s.heap.get? b=some ob->h'.get? b=some ob)->h'.DictOf (bB prog w) d vv->KV (aM kvs (qs.drop i)) vv->R (.ok (.ret res)) {s with heap:=h',toks:=tk }) →
  codeAny (model prog w) A (.builtin "dict.update.loop" ⟨[.ref d,.ref I,.int z 0,res],[]⟩) R s:=by
 intro k;induction k with
 | zero=>
  intro i s kvs vs z hk hi BW hit hl hp v7 hd rel hz hR;obtain rfl:i=its.length:=by omega
  refine codeAny_builtin tY ?_;rw[Around.under_plainId lH _];show wpAny _ A.in1 (pyNext (.ref I)>>=_) _ _ s;apply V4;refine wpAny_pyNext_list_end hh hit hl Zs λh' eb=>?_;show wpAny _ A.in1 (Builtin.Dict.addKeywords d []>>=_) _ _ _;apply V4;apply V3;apply V3;refine hR h' s.toks vs (λb ob hb _ e=>eb b ob hb e) (hd.extBut eb LW.symm) ?_;rw[<- BW,List.drop_length];exact rel
 | succ k ih=>
  intro i s kvs vs z hk hi BW hit hl hp v7 hd rel hz hR;have q9:i<its.length:=by omega
  obtain⟨v,hv⟩:∃v,its[i]?=some v:=⟨its[i],by simp[q9]⟩;obtain⟨q,hq⟩:∃q,qs[i]?=some q:=⟨qs[i],by simp[BW,q9]⟩;obtain⟨a,u,x,rfl,⟨ob,AY,IT,n,LX⟩,ru,rx⟩:=hp i v q hv hq;obtain⟨na,nd⟩:=v7 i _ a hv rfl;refine codeAny_builtin tY ?_;rw[Around.under_plainId lH _];show wpAny _ A.in1 (pyNext (.ref I)>>=_) _ _ s;apply V4;refine wpAny_pyNext_list_item hit hl (x:=.ref a) (by simpa using hv) λh' rl sb=>?_;have GC:h'.get? a=some ob:=(sb.2 a na).trans AY;have vi:h'.DictOf (bB prog w) d vs:=hd.extBut sb.extBut LW.symm;apply V4;apply wpAny_holding;apply V4;apply wpAny_tryCatch;unfold Builtin.Dict.pairItems;apply V4;refine wpAny_typeOf (T:="tuple") ⟨ob,GC,IT⟩ ?_;rw[P0 Zd];apply V4;refine wpAny_seqItems GC LX ?_;apply V3;show wpAny _ _ (holding [u,x] (dictSet d u x)) _ _ _;apply wpAny_holding;have BV:vs.length<=sizeLine:=by rw[<- rel.length];exact gB Zo
  refine wpAny_dictSet_pairs (s:={s with heap:=h' }) (pE ru) vi (λh2 hd2 PU=>?_) BV;apply V3;refine⟨plainId_quiet lH _,?_⟩;have hl0:=cQ kvs q.1 q.2;have ex:∀b o,b≠I->b≠d->s.heap.get? b=some o->h2.get? b=some o:=λb o b1 b2 e=>(PU.2 b b2).trans ((sb.2 b b1).trans e)
  refine ih (i+1) _ (bJ kvs q.1 q.2) (stored vs q.1 x) _ Zo Zo BW ?_ ?_ ?_ v7 hd2 (rel.put q.1 rx) Zo λh3 tk vv k3 EA LY=>?_
  ·exact rl.at λo e=>(PU.2 I LW).trans e
  ·obtain⟨o,e,r⟩:=hl;exact⟨o,ex l o WI.symm yc e,r⟩
  ·intro j v q' hj oi;obtain⟨a',u',x',rfl,⟨o',P2,r'⟩,rr⟩:=hp j v q' hj oi;obtain⟨n1,n2⟩:=v7 j _ a' hj rfl;exact⟨a',u',x',rfl,⟨o',ex a' o' n1 n2 P2,r'⟩,rr⟩
  ·refine hR h3 tk vv (λb o b1 b2 e=>k3 b o b1 b2 (ex b o b1 b2 e)) EA ?_;have e1:qs.drop i=q::qs.drop (i+1):=by
    rw[List.drop_eq_getElem_cons Zo]
    congr 1
    have:qs[i]?=some qs[i]:=eZ Zo;rw[this]at hq;exact Option.some.inj hq
   rw[e1];exact LY
def xR(hh:A.handled=none){l:TD}{o:Obj}{n:Nat}{its:List Q2}{qs:List (aT×V)}{Q:XV}(AV:s.heap.get? l=some o)(JD:o.cls=.type "list")(yc:o.data=.seq its.toArray n)(LZ:o.dict=none)(BW:qs.length=its.length)(hp:∀(j:Nat)(v:Q2)(q:aT×V),its[j]?=some v->qs[j]?=some q->Uq s.heap v q)(hz:its.length<=1000)(h:∀h' tk vv,(∀b ob,s.heap.get? b=some ob->h'.get? b=some ob)->h'.DictOf (bB prog w) s.heap.objs.size vv->KV (aM [] qs) vv->Q (.ref s.heap.objs.size) {s with heap:=h',toks:=tk }) :
  wpAny (model prog w) A (call (.type "dict") [.ref l]) Q E s:=by
 refine callType_codes (Q₁:=λobj s₁=>obj=.ref s.heap.objs.size/\s₁={s with heap:=s.heap.push {cls:=.type "dict",data:=.dict #[] } }) F.kt_called_dict (F.kt_typeCall_dict_1 _) F.entry_dict_init (kt_code_dict_new _ ⟨rfl,rfl⟩) ?_;rintro obj s₁ ⟨rfl,rfl⟩;have BX:(s.heap.push {cls:=.type "dict",data:=.dict #[] }).DictOf (bB prog w) s.heap.objs.size []:=Heap.DictOf.new s.heap;have ot:(s.heap.push {cls:=.type "dict",data:=.dict #[] }).get? l=some o:=eG _ AV;refine⟨BX.typeIs,F.args_dict_init_2 _ _,?_⟩;unfold Builtin.«dict.__init__»;apply V4;unfold Builtin.Dict.selfAndRest;apply V4;refine wpAny_notOrdered_dict BX.typeIs ?_;show wpAny _ _ (pure (s.heap.objs.size,[Value.ref l])) _ _ _;apply V3;show wpAny _ _ (Builtin.Dict.updateFrom "dict.__init__" s.heap.objs.size (.ref l) [] .none) _ _ _;unfold Builtin.Dict.updateFrom;apply V4;refine wpAny_typeOf (T:="list") ⟨o,ot,JD⟩ ?_;rw[P0 Zd];apply V4;refine Rv ot JD yc LZ hh λh1 tk k1=>?_;rw[P0 (show(none:Option Q2).isNone=true from rfl)];apply V4;apply wpAny_rule;have x9:h1.get? l=some o:=k1 _ _ ot;have WJ:h1.IsList l its.toArray:=⟨o,x9,JD,n,yc⟩;have hd2:h1.DictOf (bB prog w) s.heap.objs.size []:=by
  obtain⟨oo,es,ep,ho,r⟩:=BX;exact⟨oo,es,ep,k1 _ _ ho,r⟩
 have zd:s.heap.objs.size<h1.objs.size:=by
  obtain⟨oo,es,ep,ho,r⟩:=hd2;exact Heap.lt_size ho
 have PV:l<s.heap.objs.size:=Heap.lt_size AV;apply V4;refine wpAny_pyIter_list (s:={s with heap:=h1,toks:=tk }) WJ ?_;apply V3;refine⟨plainId_quiet lH _,?_⟩;refine Lk (A:=A.in1) (s:={s with heap:=h1.push {cls:=.type "list_iterator",data:=.fields #[.ref l,.int 0 0] },toks:=tk }) (its:=its) (qs:=qs) (l:=l) hh (ne_of_gt (lt_trans PV zd)) (ne_of_gt zd) (ne_of_lt PV) its.length 0 [] [] 0 rfl (zero_le _) BW ⟨_,TW _ rfl,rfl,rfl⟩ ?_ ?_ ?_ (hd2.push _) .nil (by simpa using hz) ?_
 ·exact⟨o,eG _ x9,JD,n,yc⟩
 ·intro j v q hj hq;obtain⟨a,u,x,rfl,⟨ob,AY,r⟩,rr⟩:=hp j v q hj hq;exact⟨a,u,x,rfl,⟨ob,eG _ (k1 _ _ (eG _ AY)),r⟩,rr⟩
 ·intro j v a hj e;obtain⟨q,hq⟩:∃q,qs[j]?=some q:=by
   have:j<its.length:=(Zgs.mp hj).1;exact⟨qs[j],by simp[BW,this]⟩
  obtain⟨a',u,x,e',⟨ob,AY,r⟩,rr⟩:=hp j v q hj hq;rw[e]at e';cases e';have:=Heap.lt_size AY;exact⟨ne_of_lt (lt_trans this zd),ne_of_lt this⟩
 ·intro h' JC vv k' vi MB;refine⟨rfl,h h' JC vv (λb ob e=>?_) vi MB⟩;have:=Heap.lt_size e;exact k' b ob (ne_of_lt (lt_trans this zd)) (ne_of_lt this) (eG _ (k1 _ _ (eG _ e)))
end
section
variable {X:Cx}
abbrev W:=Addr×aT×V
def WAt(H:Hp)(zs:List W):Prop:=∀z∈zs,H z.1=some (.tup [kV z.2.1,z.2.2])
def vU(K:W.Frag):List V->Hp->VK->Prop:=λvs H Q=>match vs with
 | [.ref a]=>∃zs:List W,SqL K H a (zs.map λz=>V.ref z.1)/\WAt H zs/\zs.length<=1000/\∀d,H d=none->Q (.ref d) (aI H d (.dK (aM [] (zs.map (·.2)))))
 | _=>False
def Ll(z9:X.calm=true):CallR X (.type "dict") (vU X.K):=by
 intro pins s σ H xs us Q I r h;unfold vU at h;split at h
 ·rename_i a;obtain⟨zs,hq,hz,PX,q⟩:=h;obtain⟨u,rfl,ru⟩:=jA r;cases ru;obtain⟨its,r1,p1,_⟩:=I.list hq;obtain⟨o,n,ho,hc,WK,hd⟩:=p1;have hl:zs.length=its.length:=by
   have:=r1.length;rw[aS]at this;exact this
  refine xR (I.ok.hd z9) ho hc hd WK (qs:=zs.map (·.2)) (by rw[aS];exact hl) (λj v q' hj oi=>?_) Zo λh' tk vv k hd rel=>?_
  ·rw[fA]at oi;cases GD:zs[j]? with
   | none=>rw[GD]at oi;cases oi
   | some z=>
    rw[GD]at oi;cases oi;have e:=hz z (kI GD);obtain⟨_,a9,r2,it⟩:=(show ObjOk X.prog X.w H s.heap z.1 (.tup [kV z.2.1,z.2.2]) from I.hok _ _ e);have U2:j<zs.length:=(Zgs.mp GD).1;have rv:RelV (V.ref z.1) (its.getD j Value.none):=lG j r1 (by rw[aS];exact U2) _ (by rw[fA,GD];rfl);have ev:its.getD j Value.none=v:=by rw[getD_eq_getElem?_getD,hj];rfl
    rw[ev]at rv;cases rv
    cases r2 with
    | cons a1 r3=>
     cases r3 with
     | cons a2 r4=>
      cases r4;exact⟨z.1,_,_,rfl,it,a1,a2⟩
  ·have hf:H s.heap.objs.size=none:=I.hok.fresh (aY _);refine⟨.ref s.heap.objs.size,_,I.laid (t':=tk) (o:=.dK (aM [] (zs.map (·.2)))) k (aY _) ⟨?_,?_,vv,rel,hd⟩,rfl,q _ hf⟩
   ·have:=dR (zs.map (·.2)) [];rw[aS]at this;exact gB (by simp at this;omega)
   ·have hb:=I.big;exact beq_eq_false_iff_ne.mpr (ne_of_gt hb)
 ·exact h.elim
def R.fu{K:W.Frag}(z9:X.calm=true)(hK:X.K=K:=by rfl):XC X (.type "dict") (vU K):=hK▸⟨Ll z9⟩
end
def Itd(a:TD)(o:Obj)(kvs:List (aT×V)):It:=
 ⟨λi H=>H a=some (.frz o (.dK kvs))/\i<kvs.length,λi H x H'=>H'=H/\(kvs.map λq=>kV q.1)[i]?=some x,λi H=>H a=some (.frz o (.dK kvs))/\kvs.length<=i⟩
def Cr(a:TD)(o:Obj)(kvs:List (aT×V)):sO (Itd a o kvs) (kvs.map λq=>kV q.1) (λH=>H a=some (.frz o (.dK kvs))):=
 ⟨λi H hi e=>⟨e,by rwa [aS]at hi⟩,λi H x H' _ _ y=>y,λH e=>⟨e,by rw[aS];exact aY _⟩⟩
section
variable {X:Cx}{pins:ZB}{σ:St}{H:Hp}{s:P1}{a:TD}{o:Obj}{kvs:List (aT×V)}
def Ao{P:Program}{w:World}{h:Heap}(ok:HOk P w H h)(e:H a=some (.frz o (.dK kvs))):h.get? a=some o/\(a==sysModules)=false/\∃vs ep,KV kvs vs/\(∃es,o.data=.dict es ep)/\h.DictAt (bB P w) a vs ep:=by
 obtain⟨h1,z,hd,vs,rel,dd⟩:=(show ObjOk P w H h a (.frz o (.dK kvs)) from ok a _ e);obtain⟨ep,d2⟩:=dd.dictAt;obtain⟨o',es,g,r1,r2,r3⟩:=id d2;rw[h1]at g;cases g;exact⟨h1,hd,vs,ep,rel,⟨es,r2⟩,d2⟩
def Lm{P:Program}{w:World}{K:W.Frag}{tg:Expr}(a it:TD){ep:Nat}(he:∃es,o.data=.dict es ep):pK P w K tg (Itd a o kvs) [it] it (λi h=>h.IsKeyIter it a i kvs.length ep) where
 mem:=by simp
 obj:=λi h st b hb=>by
  obtain rfl:b=it:=by simpa using hb
  obtain⟨ob,e,c,d⟩:=st;exact⟨ob,e,λv z=>by rw[d]at z;cases z⟩
 keep:=λi h h' st k=>st.at λob e=>k it Zs ob e
 item:=by
  intro X hP hw hK hc i pins s σ H E I hf st hg;subst hP hw hK;obtain⟨ef,hi⟩:=hg;obtain⟨h1,lo,vs,AQ,rel,⟨DS,e'⟩,dd⟩:=Ao I.hok ef;obtain⟨es,e0⟩:=he;obtain rfl:AQ=ep:=by
   rw[e0]at e';cases e';rfl
  have hl:=rel.length;obtain⟨⟨k,x⟩,hx⟩:∃p,vs[i]?=some p:=⟨vs[i],eZ Zo⟩;have hk:(kvs.map (·.1))[i]?=some k:=by rw[rel.keys,fA,hx];rfl
  obtain⟨f0,f1,f2,f3,f4,f5⟩:=hf it Zs;rw[hl]at st;refine wpAny_pyNext_dict_item st dd hx λkey h' uq J1 sb=>?_
  have I1:Inv X pins σ H {s with heap:=h' }:=I.turned (t':=s.toks) (λb ob hb e=>(sb.2 b hb).trans e) f0 f1 f3 f4 f5;obtain⟨ob,e,c,d⟩:=id J1;have rk:RelV (kV k) key:=by
   rcases bM (show kB k key=true from uq) with⟨j,t,rfl,rfl⟩|⟨z,t,rfl,rfl⟩
   ·exact⟨t,rfl⟩
   ·exact⟨t,rfl⟩
  refine⟨key,rfl,oZ (s:={s with heap:=h' }) e c d Zd ⟨kV k,H,I1,rk,⟨rfl,?_⟩,by rw[hl];exact J1,λb hb=>(hf b hb).1⟩⟩;rw[fA]at hk ⊢;cases z:kvs[i]? with
  | none=>rw[z]at hk;cases hk
  | some q=>rw[z]at hk;cases hk;rfl
 done:=by
  intro X hP hw hK hc i pins s σ H E I hf st hg;subst hP hw hK;obtain⟨ef,hi⟩:=hg;obtain⟨h1,lo,vs,AQ,rel,⟨DS,e'⟩,dd⟩:=Ao I.hok ef;obtain⟨es,e0⟩:=he;obtain rfl:AQ=ep:=by
   rw[e0]at e';cases e';rfl
  have hl:=rel.length;rw[hl]at st;obtain⟨f0,f1,f2,f3,f4,f5⟩:=hf it Zs;exact wpAny_pyNext_dict_end (I.ok.hd hc) st dd (List.getElem?_eq_none Zo) λh' eb=>⟨rfl,I.turned (t':=s.toks) (λb ob hb e=>eb b ob hb e) f0 f1 f3 f4 f5⟩
 self:=λ_ _ _ _ _ st h=>wpAny_pyIter_keyiter st h
def Inv.freeze(I:Inv X pins σ H s)(e:H a=some (.dK kvs)):∃ob,s.heap.get? a=some ob/\Inv X pins σ (aI H a (.frz ob (.dK kvs))) s:=by
 obtain⟨z,hd,vs,rel,dd⟩:=Cc I.hok e;obtain⟨ob,es,ep,g,r⟩:=id dd;refine⟨ob,g,?_⟩;have:=I.write (t':=s.toks) (h':=s.heap) (x:=a) (e:=a) (o:=.frz ob (.dK kvs)) (by rw[e];exact True.intro) (.inl rfl) (λb u _ q=>q) ⟨ob,g⟩ ⟨g,z,hd,vs,rel,dd⟩;exact this
def Inv.thaw(I:Inv X pins σ H s)(e:H a=some (.frz o (.dK kvs)))(hn:∀o' u,X.H₀ a≠some (.frz o' u)):Inv X pins σ (aI H a (.dK kvs)) s where
 ok:=I.ok
 os:=I.os
 bare:=I.bare
 base:=by
  have na:∀b,H b=none->b≠a:=λb z q=>by rw[q,e]at z;cases z
  refine⟨I.base.keep,I.base.slot,λb ob q n hx=>?_,I.base.there,λb xs q=>?_,λb ob u q=>?_,λb ps q=>?_⟩
  ·have:=I.base.free b ob q n hx;rw[aB (na b this)];exact this
  ·have:=I.base.tups b xs q;rw[aB (cV this e nofun)];exact this
  ·have:=I.base.frzs b ob u q;by_cases hb:b=a
   ·subst hb;exact QZY q (hn ob u)
   ·rw[aB hb];exact this
  ·obtain⟨more,q2⟩:=I.base.tbls b ps q;exact⟨more,by rw[aB (cV q2 e nofun)];exact q2⟩
 loc:=I.loc
 cell:=I.cell
 free:=by
  have z:=I.free;rw[aB (λq=>by rw[q,e]at z;cases z)];exact z
 freeC:=λx c h=>by
  have z:=I.freeC x c h;rw[aB (λq=>by rw[q,e]at z;cases z)];exact z
 pin:=λp hp=>by
  obtain⟨p1,p2,p3⟩:=I.pin p hp;refine⟨p1,?_,p3⟩;rw[aB (λq=>by rw[q,e]at p2;cases p2)];exact p2
 hok:=by
  intro b u hb;by_cases q:b=a
  ·subst q;rw[aA]at hb;cases hb;exact(show ObjOk X.prog X.w H s.heap b (.frz o (.dK kvs)) from I.hok b _ e).2
  ·rw[aB q]at hb;refine(I.hok b u hb).stay (λc v _ h=>h) (λc h=>?_) λc xs h=>?_
   ·rw[aB (cV h e nofun)];exact h
   ·rw[aB (cV h e nofun)];exact h
 len:=I.len
def aBm(te:TE):TI:=λσ H R=>te σ H λx H1=>mR x λa=>∃kvs,H1 a=some (.dK kvs)/\∀o,R (Itd a o kvs) (aI H1 a (.frz o (.dK kvs)))
def Yl{tg l:Expr}{tl:TE}(hl:PE X l tl):PI X tg l (aBm tl):=by
 intro pins s σ H R I h;refine cA (hl pins s σ H _ I h) ?_;rintro v s1 ⟨x,H1,I1,r1,q1⟩
 (try dsimp only at q1);rw[dD]at q1;obtain⟨a,rfl,kvs,e,q⟩:=q1;cases r1;obtain⟨ob,g,I2⟩:=I1.freeze e;obtain⟨h1,lo,vs,ep,rel,he,dd⟩:=Ao I2.hok (aA (a:=a));have hn:(aI H1 a (.frz ob (.dK kvs))) s1.heap.objs.size=none:=I2.hok.fresh (aY _);refine wpAny_pyIter_dict lo dd ?_;refine⟨s1.heap.objs.size,[s1.heap.objs.size],_,_,_,rfl,I2.kept (t':=s1.toks) λb o e=>eG _ e,Lm a _ he,⟨_,TW _ rfl,rfl,?_⟩,λb hb=>?_,q ob⟩
 ·rw[rel.length];rfl
 ·obtain rfl:b=s1.heap.objs.size:=by simpa using hb
  exact I2.fpOk (aY _) hn
def Ur(t:TE):TE:=λσ H Q=>t σ H λv H2=>∃a kvs o,(∃Q9,H a=some (.dK Q9))/\H2 a=some (.frz o (.dK kvs))/\Q v (aI H2 a (.dK kvs))
def Rw{e:Expr}{t:TE}(he:PE X e t):PE X e (Ur t):=by
 intro pins s σ H Q I h;refine cA (he pins s σ H _ I h) λu s1 ⟨v,H2,I2,rv,a,kvs,o,⟨Q9,e0⟩,e2,q⟩=>⟨v,_,I2.thaw e2 (λo' u' z=>?_),rv,q⟩
 have:=I.base.frzs a o' u' z;rw[e0]at this;cases this
end
def aBn(K:W.Frag)(te:TE)(f:Str):TE:=λσ H Q=>te σ H λx H1=>mR x λa=>∃C dx fs v,H1 a=some (.ins C dx fs)/\Cls K C/\NoAttr K C f/\fs.lookup f=some v/\Q v H1
def Us(K:W.Frag)(ta tv:TE)(f:Str):TS:=λD σ H=>tv σ H λy H1=>ta σ H1 λx H2=>mR x λa=>∃C dx fs,H2 a=some (.ins C dx fs)/\Cls K C/\NoAttr K C f/\fs.length<1000/\D.nx σ (aI H2 a (.ins C dx (bU f y fs)))
section
variable {X:Cx}{e o value:Expr}{f:Str}{pos pos':Pos}{te ta tv:TE}{K:W.Frag}
def Rx(he:PE X e te)(hb:attributeBase e f X.env (eval e X.env)=eval e X.env):PE X (.Attribute e f pos) (aBn X.K te f):=by
 intro pins s σ H Q I h;refine Qh hb (cA (he pins s σ H _ I h) ?_);rintro u s1 ⟨x,H1,I1,rx,q1⟩;(try dsimp only at q1);rw[dD]at q1;obtain⟨a,rfl,C,dx,fs,v,ea,c,n,l,q⟩:=q1;obtain rfl:u=Value.ref a:=rx;exact zU I1 ea c n l λu' s2 I2 ru=>⟨v,H1,I2,ru,q⟩
def Ry(ha:PE X o ta)(hv:PE X value tv)(hs:swapsWith value (some (.Attribute o f pos')) pos.line X.env=pure false):PS X (.Assign [.Attribute o f pos'] value pos) (Us X.K ta tv f):=by
 intro pins s σ H D I h;refine plainObj_wpAny_Assign_Attribute (cA (hv pins s σ H _ I h) λu s1 ⟨y,H1,I1,ry,q⟩=>cA (ha pins s1 σ H1 _ I1 q) ?_) hs;rintro ov s2 ⟨x,H2,I2,rx,q1⟩;(try dsimp only at q1);rw[dD]at q1;obtain⟨a,rfl,C,dx,fs,ea,c,n,l,q2⟩:=q1;obtain rfl:ov=Value.ref a:=rx;exact zV I2 ea c n l ry λs3 I3=>⟨σ,_,I3,q2⟩
end
structure sF(P:Program)(w:World)(K:W.Frag)(mg:V5)(base:Heap)(n:Nat)(C:TD)(m:Str)(ps:List Str)(sp:Sp):Prop where
 ex:∃f fd,Cls K C/\Ws K C m f/\kK P w K mg base tS n f fd ps sp/\Binds K fd ps []
structure Ym(P:Program)(w:World)(K:W.Frag)(mg:V5)(base:Heap)(n:Nat)(x:Str)(C:TD)(ps:List Str)(dvs:List V)(sp:Sp):Prop where
 ex:∃f fd ds,mg x=some (.ref C)/\Mk K C f/\kK P w K mg base tS n f fd ps sp/\Binds K fd ps ds/\Vals dvs ds
def Cs(C:TD)(m:Str)(sp:Sp)(ta:TE)(t:TA):TE:=λσ H Q=>ta σ H λx H1=>mR x λa=>∃dx fs,H1 a=some (.ins C dx fs)/\fs.lookup m=none/\t σ H1 λvs H2=>sp (.ref a::vs) H2 Q E0
section
variable {X:Cx}{e o:Expr}{es:List Expr}{m x:Str}{p pos apos:Pos}{ta:TE}{t:TA}{C:TD}{n:Nat}{ps:List Str}{sp:Sp}{dvs:List V}
def Ln{pl:Sem Bool}(he:PE X o ta)(c:sF X.prog X.w X.K X.mg X.base n C m ps sp)(hr:Room n X.A)(ha:PA X (e::es) t)(hs:aW e=true)(qz:(backTo pos (starEach es X.env)).any (·.1)=false)(ht:eval (.Call (.Attribute o m apos) (e::es) [] pos) X.env=(do
   let ov←eval o X.env
   standAt apos.atName
   let (f,first)←holding [ov] (getMethod ov m pl)
   callWith pos f first (backTo pos (starEach (e::es) X.env)) (backToKw pos (keywordEach [] X.env)))) :
  PE X (.Call (.Attribute o m apos) (e::es) [] pos) (Cs C m sp ta t):=by
 obtain⟨f,fd,cl,hm,F,hb⟩:=c.ex;intro pins s σ H Q I h;refine W.methodCall_KW (pl:=pl) (cA (he pins s σ H _ I h) ?_) ht;rintro u s1 ⟨x,H1,I1,rx,q1⟩;(try dsimp only at q1);rw[dD]at q1;obtain⟨a,rfl,dx,fs,ea,l,q⟩:=q1;obtain rfl:u=Value.ref a:=rx;refine qH I1 ea cl hm l ?_;refine W.callWith_K (first:=[.ref a]) (h₀:=X.base) I.ok.mod.kin hm.kp (cA (ha pos pins s1 σ H1 _ I1 q) λus s2 ⟨vs,H2,I2,r,q2⟩=>⟨I2.kIn,?_⟩) (bQ hs) qz;exact zY (us:=.ref a::us) (vs:=.ref a::vs) (dvs:=[]) (ds:=[]) F hr hb .nil xH I2 (.cons rfl r) (by rw[append_nil];exact q2)
def Fz{pl:Sem Bool}(he:PE X o ta)(c:sF X.prog X.w X.K X.mg X.base n C m ps sp)(hr:Room n X.A)(ht:eval (.Call (.Attribute o m apos) [] [] pos) X.env=(do
   let ov←eval o X.env
   standAt apos.atName
   let (f,first)←holding [ov] (getMethod ov m pl)
   callWith pos f first (backTo pos (starEach [] X.env)) (backToKw pos (keywordEach [] X.env)))) :
  PE X (.Call (.Attribute o m apos) [] [] pos) (Cs C m sp ta sK):=by
 obtain⟨f,fd,cl,hm,F,hb⟩:=c.ex;intro pins s σ H Q I h;refine W.methodCall_KW (pl:=pl) (cA (he pins s σ H _ I h) ?_) ht;rintro u s1 ⟨x,H1,I1,rx,q1⟩;(try dsimp only at q1);rw[dD]at q1;obtain⟨a,rfl,dx,fs,ea,l,q⟩:=q1;obtain rfl:u=Value.ref a:=rx;refine qH I1 ea cl hm l ?_;exact W.callWith_K0 (first:=[.ref a]) I1.kIn hm.kp (zY (us:=[.ref a]) (vs:=[.ref a]) (dvs:=[]) (ds:=[]) F hr hb .nil xH I1 (.cons rfl .nil) (by rw[append_nil];exact q))
end
structure FunD(K:W.Frag)(x qual:Str)(st:Stmt)(dv:Q2)(f:TD)(fd:FuncData):Prop where
 ex:∃(oc:Q2)(od:Option TD)(kV doc pm:Q2)(an:Option TD)(cdv ct:Q2)(osl:Array (Option Q2)),
  fd=W.fnOf x qual (cJ st) (bH st) (aD st) dv kV doc pm an cdv ct/\K.lookup f=some ⟨oc,od,.func fd,osl⟩/\W.codeIn K cdv qual=true
section
variable {P:Program}{w:World}{K:W.Frag}{mg:V5}{base:Heap}{x qual:Str}{st:Stmt}{dv:Q2}{f C:TD}{fd:FuncData}{N ps:List Str}{k:Nat}{sp:Sp}
def FunD.go(F:FunD K x qual st dv f fd)(S:aK N ps (aD st))(len:∀vs H Q E,sp vs H Q E->vs.length=ps.length)(u3:∀(cdv:Q2)(A:Around)(outer:List Env)(s:P1)(H:Hp)(vs:List V)(Q:VK)(E:XK),Room k (A.deeper (envOfC qual (aD st) s.heap.objs.size f cdv))->sp vs H Q E →
   ∃t,XB (mQ tS P w K mg base N qual (aD st) f cdv A outer s H E).nox (bH st) t/\t {nx:=λ_ H'=>Q .non H',rt:=Q } (start N vs) H):kK P w K mg base tS (k+1) f fd ps sp:=by
 obtain⟨oc,od,kV,doc,pm,an,cdv,ct,osl,rfl,lk,og⟩:=F.ex;refine Uf lk og S len λA outer s H vs Q E hr xy=>?_;obtain⟨t,h,q⟩:=u3 cdv A outer s H vs Q E hr xy;exact⟨t,h.h.nox,q⟩
structure MethAt(K:W.Frag)(C:TD)(m qual:Str)(st:Stmt)(ps:List Str):Prop where
 cl:Cls K C
 ex:∃f fd,Fun K m qual st f fd/\Ws K C m f/\Binds K fd ps []
def MethAt.go{m:Str}(D:MethAt K C m qual st ps)(S:aK N ps (aD st))(len:∀vs H Q E,sp vs H Q E->vs.length=ps.length)(u3:∀(f:TD)(cdv:Q2)(A:Around)(outer:List Env)(s:P1)(H:Hp)(vs:List V)(Q:VK)(E:XK),Room k (A.deeper (envOfC qual (aD st) s.heap.objs.size f cdv))->sp vs H Q E →
   ∃t,XB (mQ tS P w K mg base N qual (aD st) f cdv A outer s H E).nox (bH st) t/\t {nx:=λ_ H'=>Q .non H',rt:=Q } (start N vs) H):sF P w K mg base (k+1) C m ps sp:=by
 obtain⟨f,fd,F,hm,hb⟩:=D.ex;exact⟨f,fd,D.cl,hm,F.go S len (u3 f),hb⟩
structure ClsAt(K:W.Frag)(mg:V5)(x:Str)(C:TD)(qual:Str)(st:Stmt)(ps:List Str)(dvs:List (List V)):Prop where
 ex:∃f fd dv,mg x=some (.ref C)/\FunD K "__init__" qual st dv f fd/\Mk K C f/\∀d∈dvs,∃ds,Binds K fd ps ds/\Vals d ds
def ClsAt.go{dvs:List (List V)}(D:ClsAt K mg x C qual st ps dvs)(S:aK N ps (aD st))(len:∀vs H Q E,sp vs H Q E->vs.length=ps.length)(u3:∀(f:TD)(cdv:Q2)(A:Around)(outer:List Env)(s:P1)(H:Hp)(vs:List V)(Q:VK)(E:XK),Room k (A.deeper (envOfC qual (aD st) s.heap.objs.size f cdv))->sp vs H Q E →
   ∃t,XB (mQ tS P w K mg base N qual (aD st) f cdv A outer s H E).nox (bH st) t/\t {nx:=λ_ H'=>Q .non H',rt:=Q } (start N vs) H):∀d∈dvs,Ym P w K mg base (k+1) x C ps d sp:=by
 intro d hd;obtain⟨f,fd,dv,e,F,M,hb⟩:=D.ex;obtain⟨ds,b,v⟩:=hb d hd;exact⟨f,fd,ds,e,M,F.go S len (u3 f),b,v⟩
end
namespace R
section
variable {X:Cx}{e o i value:Expr}{es:List Expr}{m x f:Str}{p pos pos' apos:Pos}{te ta tv td ty:TE}{t:TA}{C:TD}{n:Nat}{ps:List Str}{sp:Sp}{dvs:List V}{K:W.Frag}{tg:Expr}
def wD(hl:XE X e te):XI X tg e (aBm te):=⟨Yl hl.h⟩
def jy(he:XE X e te):XE X e (Ur te):=⟨Rw he.h⟩
def be(he:XE X e te)(hK:X.K=K:=by rfl)(hb:attributeBase e f X.env (eval e X.env)=eval e X.env:=by rfl):XE X (.Attribute e f pos) (aBn K te f):=hK▸⟨Rx he.h hb⟩
def df(ha:XE X o ta)(hv:XE X value tv)(hK:X.K=K:=by rfl)(hs:swapsWith value (some (.Attribute o f pos')) pos.line X.env=pure false:=by rfl):XS X (.Assign [.Attribute o f pos'] value pos) (Us K ta tv f):=hK▸⟨Ry ha.h hv.h hs⟩
def bn(hu:X.A.units+1<cLine)(ho:XE X o td)(hi:XE X i ty)(hs:Xd i:=by exact λ_ _=>rfl):XE X (.Subscript o i pos) (Ui td ty):=⟨Qr hu ho.h hi.h hs⟩
def dl{pl:Sem Bool}(c:sF X.prog X.w X.K X.mg X.base n C m ps sp)(hr:Room n X.A)(he:XE X o ta)(ha:XA X (e::es) t)(hs:aW e=true:=by rfl)(h2:es.all aW=true:=by rfl)(ht:eval (.Call (.Attribute o m apos) (e::es) [] pos) X.env=(do
   let ov←eval o X.env
   standAt apos.atName
   let (f,first)←holding [ov] (getMethod ov m pl)
   callWith pos f first (backTo pos (starEach (e::es) X.env)) (backToKw pos (keywordEach [] X.env))):=by rfl):XE X (.Call (.Attribute o m apos) (e::es) [] pos) (Cs C m sp ta t):=⟨Ln he.h c hr ha.h hs (gZ h2) ht⟩
def jx{pl:Sem Bool}(c:sF X.prog X.w X.K X.mg X.base n C m ps sp)(hr:Room n X.A)(he:XE X o ta)(ht:eval (.Call (.Attribute o m apos) [] [] pos) X.env=(do
   let ov←eval o X.env
   standAt apos.atName
   let (f,first)←holding [ov] (getMethod ov m pl)
   callWith pos f first (backTo pos (starEach [] X.env)) (backToKw pos (keywordEach [] X.env))):=by rfl):XE X (.Call (.Attribute o m apos) [] [] pos) (Cs C m sp ta sK):=⟨Fz he.h c hr ht⟩
def jv(c:Ym X.prog X.w X.K X.mg X.base n x C ps [] sp)(hr:Room (n+1) X.A)(hg:Gl X x)(ha:XA X (e::es) t)(M0:(x==("__debug__":Str))=false:=by decide)(hs:aW e=true:=by rfl)(h2:es.all aW=true:=by rfl) :
  XE X (.Call (.Name x p) (e::es) [] pos) (Bx C sp [] E0 t):=by
 obtain⟨f,fd,ds,hm,M,F,hb,hd⟩:=c.ex;exact⟨Qj M F hr hg hm hb hd xH ha.h M0 (bQ hs) (gZ h2)⟩
def jz(c:Ym X.prog X.w X.K X.mg X.base n x C ps dvs sp)(hr:Room (n+1) X.A)(hg:Gl X x)(M0:(x==("__debug__":Str))=false:=by decide) :
  XE X (.Call (.Name x p) [] [] pos) (Bx C sp dvs E0 sK):=by
 obtain⟨f,fd,ds,hm,M,F,hb,hd⟩:=c.ex;exact⟨Iy M F hr hg hm hb hd xH M0⟩
end
end R
def mN(prs:List (Str×Int)):List (aT×V):=prs.map λq=>(Sum.inr q.1,V.int q.2)
def mF(prs:List (Str×Int))(n:Str):Int:=(prs.lookup n).getD 0
def qV(prs:List (Str×Int)):(mN prs).map (·.1)=(prs.map (·.1)).map Sum.inr:=by
 unfold mN;rw[map_map,map_map];rfl
def pU(n:Str):∀(prs:List (Str×Int)),bA (mN prs) (Sum.inr n)=(prs.lookup n).map V.int
 | []=>rfl
 | q::r=>by
  unfold mN;rw[map_cons,lookup_cons];by_cases h:n=q.1
  ·subst h;rw[cH rfl];simp
  ·have hb:(n==q.1)=false:=beq_eq_false_iff_ne.mpr h;rw[cI (by intro z;exact h (Sum.inr.inj z).symm),hb];exact pU n r
def pV(prs:List (Str×Int))(n:Str):(bA (mN prs) (Sum.inr n)).getD (V.int 0)=V.int (mF prs n):=by
 rw[pU];unfold mF;cases prs.lookup n<;>rfl
def gQ:∀(more kvs:List (aT×V)),(more.map (·.1)).Nodup->(∀k∈more.map (·.1),bA kvs k=none)->aM kvs more=kvs++more
 | [],kvs,_,_=>(append_nil _).symm
 | p::r,kvs,hn,h=>by
  obtain⟨h1,h2⟩:=nodup_cons.mp hn;show aM (bJ kvs p.1 p.2) r=_;have e0:bA kvs p.1=none:=h p.1 Zs;rw[gQ r _ h2 λk hk=>?_,kM _ e0]
  ·simp
  ·rw[cW,QZZ (λ(z:k=p.1)=>h1 (by dsimp only;rw[<- z];exact hk))];exact h k (iV _ hk)
def tZ:∀ {l:List Str},l.Nodup->(l.map (Sum.inr:Str->aT)).Nodup
 | [],_=>nodup_nil
 | a::l,h=>by
  obtain⟨h1,h2⟩:=nodup_cons.mp h;refine nodup_cons.mpr ⟨λz=>?_,tZ h2⟩;obtain⟨b,hb,e⟩:=Zmm.mp z;cases e;exact h1 hb
def uA{prs:List (Str×Int)}(h:(prs.map (·.1)).Nodup):aM [] (mN prs)=mN prs:=by
 rw[gQ _ _ (by rw[qV];exact tZ h) λ_ _=>rfl];rfl
def Ap(prs:List (Str×Int)):List (Str×Int):=((mD (prs.map (·.1))).filter λn=>decide (0<mF prs n)).map λn=>(n,mF prs n)
def mG{n:Str}:∀ {prs:List (Str×Int)},n∈prs.map (·.1)->∃a,prs.lookup n=some a
 | q::r,h=>by
  rw[lookup_cons];by_cases e:n=q.1
  ·subst e;exact⟨q.2,Zs⟩
  ·have hb:(n==q.1)=false:=beq_eq_false_iff_ne.mpr e;rw[hb];rcases mem_cons.mp h with z|z
   ·exact QZY z e
   ·exact mG z
structure BkT(K:W.Frag)(C:TD):Prop where
 cl:Cls K C
 nA:NoAttr K C "amounts"
structure Lo(C:TD)(H:Hp)(p:TD)(prs:List (Str×Int)):Prop where
 ex:∃dx d,H p=some (.ins C dx [("amounts",.ref d)])/\H d=some (.dK (mN prs))
 nd:(prs.map (·.1)).Nodup
def Yn(H:Hp)(r:V)(prs:List (Str×Int)):Prop:=(r=.non/\prs=[])∨∃l zs,r=.ref l/\H l=some (.lst (eF zs))/\ZAt H zs/\zs.map (·.2)=prs
def qW(C:TD):Sp:=λvs H Q _=>∃(p:TD)(n:Str)(prs:List (Str×Int)),vs=[.ref p,.str n]/\Lo C H p prs/\Q (.int (mF prs n)) H
def xS(C:TD):Sp:=λvs H Q _=>∃(p:TD)(prs:List (Str×Int)),vs=[.ref p]/\Lo C H p prs/\prs.length<64 ∧
 ∀(l:TD)(zs:List Z)(H':Hp),Same H H'->H l=none->H' l=some (.lst (eF zs))->ZAt H' zs->zs.map (·.2)=Ap prs->Q (.ref l) H'
def wz(zs:List Z):List W:=zs.map λz=>(z.1,Sum.inr z.2.1,V.int z.2.2)
def Yo(zs:List Z):((wz zs).map λz=>V.ref z.1)=eF zs:=by
 unfold wz eF;rw[map_map];rfl
def aBp{H:Hp}{zs:List Z}(h:ZAt H zs):WAt H (wz zs):=λz hz=>by
 obtain⟨y,hy,rfl⟩:=Zmm.mp hz;exact h y hy
def Yp(zs:List Z):(wz zs).map (·.2)=mN (zs.map (·.2)):=by
 unfold wz mN;rw[map_map,map_map];rfl
def aCr(y:V):bU "amounts" y []=[(("amounts":Str),y)]:=rfl
def put1(x y:V):bU "amounts" y [(("amounts":Str),x)]=[(("amounts":Str),y)]:=by
 unfold bU;rw[P0 rfl]
def fP(y:V):([(("amounts":Str),y)]:List (Str×V)).lookup ("amounts":Str)=some y:=by
 rw[lookup_cons];simp
def vV{m:Str}(y:V)(h:(m==("amounts":Str))=false):([(("amounts":Str),y)]:List (Str×V)).lookup m=none:=by
 rw[lookup_cons,h];rfl
section
variable {X:Cx}
def R.ir(hc:X.calm=true):XC X (.builtin "min") (λvs H Q=>match vs with | [.int i,.int j]=>Q (.int (if j<i then j else i)) H | _=>False):=⟨(Ex hc).imp λvs H Q h=>by
 split at h
 ·exact⟨_,_,rfl,h⟩
 ·exact h.elim⟩
end
inductive DW(one other nm:Str)(n:Int):Str->List V->List (Str×Int)->List (Str×List V)->Prop
 | add:DW one other nm n "add" [.str "add",.str nm,.int n] [(nm,n)] []
 | take:DW one other nm n "take" [.str "take",.str nm,.int n] [(nm,-n)] []
 | move:DW one other nm n "move" [.str "move",.str one,.str other,.int n] [(one,-n),(other,n)] []
 | send:DW one other nm n "send" [.str "send",.str one,.str nm,.int n] [(nm,-n)] [(one,[.str "add",.str nm,.int n])]
 | fetch:DW one other nm n "fetch" [.str "fetch",.str one,.str nm,.int n] [(nm,n)] [(one,[.str "take",.str nm,.int n])]
 | pass:DW one other nm n "pass" [.str "pass",.str one,.str other,.str nm,.int n] [] [(one,[.str "take",.str nm,.int n]),(other,[.str "add",.str nm,.int n])]
structure DWX(wd:Str)(xs:List V)(cs:List (Str×Int))(as:List (Str×List V)):Prop where
 ex:∃one other nm n,DW one other nm n wd xs cs as
def aBq(H:Hp)(q:Str×List V)(v:V):Prop:=∃a d,v=.ref a/\H a=some (.tup [.str q.1,.ref d])/\H d=some (.tup q.2)
def vW:Sp:=λvs H Q _=>∃p wd xs cs as,vs=[.ref p]/\H p=some (.tup xs)/\DWX wd xs cs as/\∀t us H',Same H H'->H' t=some (.tup us)->Paired (aBq H') as us->Q (.ref t) H'
def Lp:Bool->String|true=>"list_iterator"|false=>"tuple_iterator"
def nF(k:Bool)(a:TD):Obj:={cls:=.type (Lp k),data:=.fields #[.ref a,.int 0 0] }
def ItAt(k:Bool)(h:Heap)(it a:TD)(i:Nat):Prop:=∃o,h.get? it=some o/\o.cls=.type (Lp k)/\o.data=.fields #[.ref a,.int i 0]
def SeqIn(k:Bool)(h:Heap)(a:TD)(vs:Array Value):Prop:=match k with|true=>h.IsList a vs|false=>h.IsTuple a vs
def ItAt.by{k:Bool}{h h':Heap}{it a:TD}{i:Nat}(x:ItAt k h it a i)(g:∀o,h.get? it=some o->h'.get? it=some o):ItAt k h' it a i:=let ⟨o,e,r⟩:=x;⟨o,g o e,r⟩
def SeqIn.by{k:Bool}{h h':Heap}{a:TD}{vs:Array Value}(x:SeqIn k h a vs)(g:∀o,h.get? a=some o->h'.get? a=some o):SeqIn k h' a vs:=by
 cases k
 ·obtain⟨o,e,r⟩:=x;exact⟨o,g o e,r⟩
 ·obtain⟨o,e,r⟩:=x;exact⟨o,g o e,r⟩
def SeqIn.lt{k:Bool}{h:Heap}{a:TD}{vs:Array Value}(x:SeqIn k h a vs):a<h.objs.size:=by
 cases k
 ·obtain⟨o,e,r⟩:=x;exact Heap.lt_size e
 ·obtain⟨o,e,r⟩:=x;exact Heap.lt_size e
section
variable {prog:Program}{w:World}{A:Around}{E:XV}{s:P1}
def Lq{k:Bool}{a:TD}{vs:Array Value}{Q:XV}(h:SeqIn k s.heap a vs)(q:Q (.ref s.heap.objs.size) {s with heap:=s.heap.push (nF k a) }):wpAny (model prog w) A (pyIter (.ref a)) Q E s:=by
 cases k
 ·exact wpAny_pyIter_tuple (show s.heap.IsTuple a vs from h) q
 ·exact wpAny_pyIter_list (show s.heap.IsList a vs from h) q
def vX{k:Bool}{it a:TD}{i:Nat}{vs:Array Value}{x:Q2}{Q:XV}(hit:ItAt k s.heap it a i)(hs:SeqIn k s.heap a vs)(hx:vs[i]?=some x)(q:∀h',ItAt k h' it a (i+1)->Heap.SameBut it s.heap h'->Q x {s with heap:=h' }):wpAny (model prog w) A (Builtin.SmallTypes.nextOf (.ref it)) Q E s:=by
 cases k with
 | true=>exact wpAny_nextOf_list_item (show s.heap.IsListIter it a i from hit) (show s.heap.IsList a vs from hs) hx q
 | false=>
  have rl:s.heap.IsTupleIter it a i:=hit;obtain⟨o,ho,hc,hd⟩:=hit;obtain⟨ol,uu,_,nl,MC⟩:=hs;unfold Builtin.SmallTypes.nextOf;refine V4 (wpAny_callSpecial?_slot (name:=Str.ofString "__next__") rl.typeIs F.slot_tuple_iterator_next (wpAny_call_entry F.slot_tuple_iterator_next rl.typeIs F.entry_tuple_iterator_next ?_ (F.args_tuple_iterator_next_1 _)));show wpAny (model prog w) _ (field (.ref it) 0>>=_) _ _ s;refine V4 (wpAny_field ho hd (x:=.ref a) rfl ?_);show wpAny (model prog w) _ (if (Value.ref a==Value.none)=true then _ else _) _ _ s;rw[QZZ (show ¬ ((Value.ref a==Value.none)=true) from V2)];show wpAny (model prog w) _ (field (.ref it) 1>>=_) _ _ s;refine V4 (wpAny_field (x:=.int i 0) ho hd rfl ?_);show wpAny (model prog w) _ (seqItems? (.ref a)>>=_) _ _ s;refine V4 (wpAny_seqItems (uu) MC ?_);simp only [hx,Int.toNat_natCast];refine V4 (wpAny_setField ho hd Zs (V3 ⟨x,rfl,V3 (q _ ?_ (Heap.SameBut.update ..))⟩));exact⟨_,Heap.get?_update_self _ ho (Obj.isFreed_of_fields (Obj.data_mapFields hd _)),(Obj.cls_mapFields ..).trans hc,by rw[Obj.data_mapFields hd];simp[rawInt]⟩
def Lr{k:Bool}{it a:TD}{i:Nat}{vs:Array Value}{Q:XV}(hh:A.handled=none)(hit:ItAt k s.heap it a i)(hs:SeqIn k s.heap a vs)(hx:vs[i]?=none)(hE:∀h' e,Heap.ExtBut it s.heap h'->(∃o,h'.get? e=some o/\o.cls=.type "StopIteration")->E (.ref e) {s with heap:=h' }):wpAny (model prog w) A (Builtin.SmallTypes.nextOf (.ref it)) Q E s:=by
 cases k with
 | true=>exact wpAny_nextOf_list_end hh (show s.heap.IsListIter it a i from hit) (show s.heap.IsList a vs from hs) hx hE
 | false=>
  have rl:s.heap.IsTupleIter it a i:=hit;obtain⟨o,ho,hc,hd⟩:=hit;obtain⟨ol,uu,_,nl,MC⟩:=hs;unfold Builtin.SmallTypes.nextOf;refine V4 (wpAny_callSpecial?_slot (name:=Str.ofString "__next__") rl.typeIs F.slot_tuple_iterator_next (wpAny_call_entry F.slot_tuple_iterator_next rl.typeIs F.entry_tuple_iterator_next ?_ (F.args_tuple_iterator_next_1 _)));show wpAny (model prog w) _ (field (.ref it) 0>>=_) _ _ s;refine V4 (wpAny_field ho hd (x:=.ref a) rfl ?_);show wpAny (model prog w) _ (if (Value.ref a==Value.none)=true then _ else _) _ _ s;rw[QZZ (show ¬ ((Value.ref a==Value.none)=true) from V2)];show wpAny (model prog w) _ (field (.ref it) 1>>=_) _ _ s;refine V4 (wpAny_field (x:=.int i 0) ho hd rfl ?_);show wpAny (model prog w) _ (seqItems? (.ref a)>>=_) _ _ s;refine V4 (wpAny_seqItems (uu) MC ?_);simp only [hx,Int.toNat_natCast];refine V4 (wpAny_rule (V4 (wpAny_setField (ho) hd Zs ?_)));show wpAny (model prog w) _ (newExc (.type "StopIteration") []>>=_) _ _ _;refine V4 ?_;simp only [newTuple,newExc];refine V4 (wpAny_newObj_type ?_ (by size_fits));refine V4 (m:=firstArgMember _ _) (wpAny_of_eq (a:=Value.none) (by first|rfl|(simp only [firstArgMember];rfl)) ?_);refine wpAny_newObj_type ?_ (by size_fits);simp only [raiseNew];refine V4 (wpAny_handled ?_)
  first|rw[show A.in1.handled=none from(hh)]|rw[hh]
  refine V4 (V3 (wpAny_throw ?_));exact hE _ _ (((Heap.SameBut.update ..).extBut.push _).push _) ⟨_,TW _ rfl,rfl⟩
structure Rz(z ti to j1 j2 a1 a2:TD):Prop where
 i:ti≠z
 o:to≠z
 p:j1≠z
 q:j2≠z
 io:ti≠to
 ip:ti≠j1
 iq:ti≠j2
 op:to≠j1
 oq:to≠j2
 pq:j1≠j2
 a:∀b,b=a1∨b=a2->b≠z/\b≠to/\b≠j1/\b≠j2
structure ZSt(k1 k2:Bool)(h:Heap)(z ti to j1 j2 a1 a2:TD)(f0:Q2)(n1 n2:Nat):Prop where
 z:IsZip h z ti to f0
 i:IsPair h ti (.ref j1) (.ref j2)
 o:∃a b,IsPair h to a b
 x:ItAt k1 h j1 a1 n1
 y:ItAt k2 h j2 a2 n2
def Sb{k1 k2:Bool}{z ti to j1 j2 a1 a2:TD}{n:Nat}{xs ys:Array Value}{x y:Q2}{Q:XV}(D:Rz z ti to j1 j2 a1 a2)(S:ZSt k1 k2 s.heap z ti to j1 j2 a1 a2 .none n n)(ot:SeqIn k1 s.heap a1 xs)(x9:SeqIn k2 s.heap a2 ys)(hx:xs[n]?=some x)(hy:ys[n]?=some y)(hQ:∀h',ZSt k1 k2 h' z ti to j1 j2 a1 a2 (rawInt s.heap.objs.size) (n+1) (n+1)->IsPair h' s.heap.objs.size x y->h'.objs.size=s.heap.objs.size+1 →
   (∀c o,c≠z->c≠to->c≠j1->c≠j2->s.heap.get? c=some o->h'.get? c=some o)->Q (.ref s.heap.objs.size) {s with heap:=h' }) :
  wpAny (model prog w) A (Builtin.«zip.__next__» ⟨[.ref z],[]⟩) (λfin s'=>∃v,fin=.done (.ret v)/\Q v s') E s:=by
 obtain⟨hz,hI,⟨u1,u2,hO⟩,h1,h2⟩:=S;obtain⟨JE,WL,WM,WN⟩:=D.a a1 (.inl rfl);obtain⟨MD,ME,MF,WO⟩:=D.a a2 (.inr rfl);show wpAny (model prog w) _ (field (.ref z) 2>>=_) _ _ _;refine V4 (wpAny_field (x:=.bool false) hz rfl rfl ?_);show wpAny (model prog w) _ (field (.ref z) 3>>=_) _ _ _;refine V4 (wpAny_field (x:=.ref ti) hz rfl rfl ?_);refine V4 (wpAny_seqItems hI rfl ?_);show wpAny (model prog w) _ (Builtin.SmallTypes.ownedTupleIsFree (.ref z)>>=_) _ _ _;refine V4 ?_;unfold Builtin.SmallTypes.ownedTupleIsFree;refine V4 (wpAny_field (x:=.none) hz rfl rfl (V3 ?_));simp only [if_true];refine V4 (wpAny_rule ?_);refine V4 (wpAny_field (x:=.ref to) hz rfl rfl ?_);refine V4 (wpAny_setField_rec hz Zs λg1 z1 b1=>?_);have z1:IsZip g1 z ti to .ellipsis:=z1;refine V4 ?_;simp only [List.zipIdx_nil,List.zipIdx_cons,List.forIn_nil,forIn_cons];refine V4 (V4 (wpAny_onRaise ?_));show wpAny (model prog w) _ (Builtin.SmallTypes.nextOf (.ref j1)>>=_) _ _ _;refine V4 (vX (h1.by λo e=>b1.extBut _ _ D.p e) (ot.by λo e=>b1.extBut _ _ JE e) hx λg2 i2 b2=>V3 ?_);have o2:IsPair g2 to u1 u2:=b2.extBut _ _ D.op (b1.extBut _ _ D.o hO);refine V4 (wpAny_seqItems o2 rfl ?_);refine V4 (wpAny_updateSeq_pair o2 λg3 o3 b3=>?_);have o3:IsPair g3 to x u2:=o3;refine V4 (wpAny_letGo (V3 ?_));refine V4 (V4 (wpAny_onRaise ?_));show wpAny (model prog w) _ (Builtin.SmallTypes.nextOf (.ref j2)>>=_) _ _ _;refine V4 (vX (h2.by λo e=>b3.extBut _ _ D.oq.symm (b2.extBut _ _ D.pq.symm (b1.extBut _ _ D.q e))) (x9.by λo e=>b3.extBut _ _ ME (b2.extBut _ _ MF (b1.extBut _ _ MD e))) hy λg4 i4 b4=>V3 ?_);have o4:IsPair g4 to x u2:=b4.extBut _ _ D.oq o3;refine V4 (wpAny_seqItems o4 rfl ?_);refine V4 (wpAny_updateSeq_pair o4 λg5 o5 b5=>?_);have o5:IsPair g5 to x y:=o5;refine V4 (wpAny_letGo (V3 (V3 ?_)));refine V4 (wpAny_seqItems o5 rfl ?_);refine V4 (wpAny_newTuple ?_);have hsz:g5.objs.size=s.heap.objs.size:=by rw[b5.1,b4.1,b3.1,b2.1,b1.1]
 have z5:IsZip g5 z ti to .ellipsis:=b5.extBut _ _ D.o.symm (b4.extBut _ _ D.q.symm (b3.extBut _ _ D.o.symm (b2.extBut _ _ D.p.symm z1)));have GF:∀c o,c≠z->c≠to->c≠j1->c≠j2->s.heap.get? c=some o->g5.get? c=some o:=λc o n1 n2 n3 n4 e=>b5.extBut _ _ n2 (b4.extBut _ _ n4 (b3.extBut _ _ n2 (b2.extBut _ _ n3 (b1.extBut _ _ n1 e))))
 have i5:ItAt k1 g5 j1 a1 (n+1):=i2.by λo e=>b5.extBut _ _ D.op.symm (b4.extBut _ _ D.pq (b3.extBut _ _ D.op.symm e))
 have j5:ItAt k2 g5 j2 a2 (n+1):=i4.by λo e=>b5.extBut _ _ D.oq.symm e
 have GG:z<g5.objs.size:=Heap.lt_size z5;show wpAny (model prog w) _ (Builtin.SmallTypes.ownedTupleHandOut (.ref z) (.ref g5.objs.size)>>=_) _ _ _;refine V4 ?_;unfold Builtin.SmallTypes.ownedTupleHandOut;have z6:IsZip (g5.push {cls:=.type "tuple",data:=.seq #[x,y] }) z ti to .ellipsis:=eG _ z5;refine V4 (wpAny_setField_rec z6 Zs λg7 z7 b7=>?_);have z7:IsZip g7 z ti to (rawInt g5.objs.size):=z7;refine wpAny_setField_rec z7 Zs λg8 z8 b8=>?_;have z8:IsZip g8 z ti to (rawInt g5.objs.size):=z8;have up:∀c o,c≠z->g5.get? c=some o->g8.get? c=some o:=λc o n1 e=>b8.extBut _ _ n1 (b7.extBut _ _ n1 (eG _ e))
 have t8:IsPair g8 g5.objs.size x y:=b8.extBut _ _ (ne_of_gt GG) (b7.extBut _ _ (ne_of_gt GG) (TW _ rfl));have s8:g8.objs.size=g5.objs.size+1:=by rw[b8.1,b7.1,Heap.size_push]
 rw[hsz]at z8 t8 s8;refine V3 ⟨_,rfl,?_⟩;show Q (.ref g5.objs.size) _;rw[hsz];exact hQ g8 ⟨z8,up _ _ D.i (GF _ _ D.i D.io D.ip D.iq hI),⟨_,_,up _ _ D.o o5⟩,i5.by λo e=>up _ o D.p e,j5.by λo e=>up _ o D.q e⟩ t8 s8 λc o n1 n2 n3 n4 e=>up c o n1 (GF c o n1 n2 n3 n4 e)
def Yq{k1 k2:Bool}{z ti to j1 j2 a1 a2:TD}{n:Nat}{xs ys:Array Value}{Q:Fin->P1->Prop}(hh:A.handled=none)(D:Rz z ti to j1 j2 a1 a2)(S:ZSt k1 k2 s.heap z ti to j1 j2 a1 a2 .none n n)(ot:SeqIn k1 s.heap a1 xs)(x9:SeqIn k2 s.heap a2 ys)(MG:xs[n]?=none∨ys[n]?=none)(hE:∀h' e,(∀c o,c≠z->c≠to->c≠j1->c≠j2->s.heap.get? c=some o->h'.get? c=some o)->(∃o,h'.get? e=some o/\o.cls=.type "StopIteration")->E (.ref e) {s with heap:=h' }) :
  wpAny (model prog w) A (Builtin.«zip.__next__» ⟨[.ref z],[]⟩) Q E s:=by
 obtain⟨hz,hI,⟨u1,u2,hO⟩,h1,h2⟩:=S;obtain⟨JE,WL,WM,WN⟩:=D.a a1 (.inl rfl);obtain⟨MD,ME,MF,WO⟩:=D.a a2 (.inr rfl);show wpAny (model prog w) _ (field (.ref z) 2>>=_) _ _ _;refine V4 (wpAny_field (x:=.bool false) hz rfl rfl ?_);show wpAny (model prog w) _ (field (.ref z) 3>>=_) _ _ _;refine V4 (wpAny_field (x:=.ref ti) hz rfl rfl ?_);refine V4 (wpAny_seqItems hI rfl ?_);show wpAny (model prog w) _ (Builtin.SmallTypes.ownedTupleIsFree (.ref z)>>=_) _ _ _;refine V4 ?_;unfold Builtin.SmallTypes.ownedTupleIsFree;refine V4 (wpAny_field (x:=.none) hz rfl rfl (V3 ?_));simp only [if_true];refine V4 (wpAny_rule ?_);refine V4 (wpAny_field (x:=.ref to) hz rfl rfl ?_);refine V4 (wpAny_setField_rec hz Zs λg1 z1 b1=>?_);have z1:IsZip g1 z ti to .ellipsis:=z1;refine V4 ?_;simp only [List.zipIdx_nil,List.zipIdx_cons,List.forIn_nil,forIn_cons];refine V4 (V4 (wpAny_onRaise ?_));show wpAny (model prog w) _ (Builtin.SmallTypes.nextOf (.ref j1)>>=_) _ _ _
 cases hx:xs[n]? with
 | none=>
  refine V4 (Lr hh (h1.by λo e=>b1.extBut _ _ D.p e) (ot.by λo e=>b1.extBut _ _ JE e) hx λg2 e b2 he=>?_);obtain⟨oe,BY,GH⟩:=he;have z2:IsZip g2 z ti to .ellipsis:=b2 _ _ D.p.symm z1;have ne:e≠z:=λ(q:e=z)=>by subst q;rw[z2]at BY;cases BY;simp at GH
  exact wpAny_setField_rec z2 Zs λg3 _ b3=>hE g3 e (λc o n1 _ n3 _ q=>b3.extBut _ _ n1 (b2 _ _ n3 (b1.extBut _ _ n1 q))) ⟨oe,b3.extBut _ _ ne BY,GH⟩
 | some x=>
  have hy:ys[n]?=none:=MG.resolve_left (by rw[hx];exact λq=>nomatch q);refine V4 (vX (h1.by λo e=>b1.extBut _ _ D.p e) (ot.by λo e=>b1.extBut _ _ JE e) hx λg2 i2 b2=>V3 ?_);have o2:IsPair g2 to u1 u2:=b2.extBut _ _ D.op (b1.extBut _ _ D.o hO);refine V4 (wpAny_seqItems o2 rfl ?_);refine V4 (wpAny_updateSeq_pair o2 λg3 o3 b3=>?_);refine V4 (wpAny_letGo (V3 ?_));refine V4 (V4 (wpAny_onRaise ?_));show wpAny (model prog w) _ (Builtin.SmallTypes.nextOf (.ref j2)>>=_) _ _ _;refine V4 (Lr hh (h2.by λo e=>b3.extBut _ _ D.oq.symm (b2.extBut _ _ D.pq.symm (b1.extBut _ _ D.q e))) (x9.by λo e=>b3.extBut _ _ ME (b2.extBut _ _ MF (b1.extBut _ _ MD e))) hy λg4 e b4 he=>?_);obtain⟨oe,BY,GH⟩:=he;have z4:IsZip g4 z ti to .ellipsis:=b4 _ _ D.q.symm (b3.extBut _ _ D.o.symm (b2.extBut _ _ D.p.symm z1));have ne:e≠z:=λ(q:e=z)=>by subst q;rw[z4]at BY;cases BY;simp at GH
  exact wpAny_setField_rec z4 Zs λg5 _ b5=>hE g5 e (λc o n1 n2 n3 n4 q=>b5.extBut _ _ n1 (b4 _ _ n4 (b3.extBut _ _ n2 (b2.extBut _ _ n3 (b1.extBut _ _ n1 q))))) ⟨oe,b5.extBut _ _ ne BY,GH⟩
end
section
variable {X:Cx}{pins:ZB}{σ:List (Option V)}{H:Hp}{s:P1}{h':Heap}
def Inv.turnLaid{t':Nat}{ch:List TD}{a:TD}{o:HO}(I:Inv X pins σ H s)(hf:∀b∈ch,nX X pins H b)(k:∀b u,b∉ch->s.heap.get? b=some u->h'.get? b=some u)(hp:s.heap.objs.size<=a)(new:ObjOk X.prog X.w (aI H a o) h' a o) :
  Inv X pins σ (aI H a o) {s with heap:=h',toks:=t' }:=by
 have hn:=I.hok.fresh hp;have vn:∀b u,H b=some u->b∉ch:=λb u e z=>by rw[(hf b z).1]at e;cases e
 refine I.step (g':=s.gens) (d':=s.drawn) (ch:=ch) (λb hb=>⟨(hf b hb).2.2.2.1,(hf b hb).2.1,(hf b hb).2.2.2.2.1,(hf b hb).2.2.2.2.2⟩) (λb u _ _ hc e _=>k b u hc e) (λb u _ _ hc e _=>⟨u.slots,k b u hc e⟩)
  (λb u _ e n=>by rw[aB (ne_of_lt (QZU (Heap.lt_size e) hp))];exact n) (λb u hc e=>⟨u,k b u hc e⟩) (λb xs e=>by rw[aB (aE e hn)];exact e) (λb v u e=>by rw[aB (aE e hn)];exact e)
  (λb ps e=>⟨#[],by rw[aB (aE e hn),e];simp⟩) (λm hm=>?_) (λb u e=>?_) I.bare
 ·obtain⟨u,es,ep,ho,r⟩:=hm;exact⟨u,es,ep,k _ u (λz=>(hf _ z).2.1 rfl) ho,r⟩
 ·by_cases hb:b=a
  ·subst hb;rw[aA]at e;cases e;exact new
  ·rw[aB hb]at e;refine(I.hok b u e).stay (λc v hc q=>k c v ?_ q) (λc q=>by rw[aB (aE q hn)];exact q) λc xs q=>by rw[aB (aE q hn)];exact q
   rcases hc with z|z
   ·rw[z];exact vn b u e
   ·exact vn c _ z
def Inv.turnL{t':Nat}{ch:List TD}(I:Inv X pins σ H s)(hf:∀b∈ch,nX X pins H b)(k:∀b u,b∉ch->s.heap.get? b=some u->h'.get? b=some u):Inv X pins σ H {s with heap:=h',toks:=t' }:=by
 have vn:∀b u,H b=some u->b∉ch:=λb u e z=>by rw[(hf b z).1]at e;cases e
 refine I.step (g':=s.gens) (d':=s.drawn) (ch:=ch) (λb hb=>⟨(hf b hb).2.2.2.1,(hf b hb).2.1,(hf b hb).2.2.2.2.1,(hf b hb).2.2.2.2.2⟩) (λb u _ _ hc e _=>k b u hc e) (λb u _ _ hc e _=>⟨u.slots,k b u hc e⟩)
  (λ_ _ _ _ n=>n) (λb u hc e=>⟨u,k b u hc e⟩) (λ_ _ e=>e) (λ_ _ _ e=>e) (λb ps e=>⟨#[],by rw[e];simp⟩) (λm hm=>?_) (λb u e=>?_) I.bare
 ·obtain⟨u,es,ep,ho,r⟩:=hm;exact⟨u,es,ep,k _ u (λz=>(hf _ z).2.1 rfl) ho,r⟩
 ·refine(I.hok b u e).stay (λc v hc q=>k c v ?_ q) (λ_ q=>q) λ_ _ q=>q;rcases hc with z|z
  ·rw[z];exact vn b u e
  ·exact vn c _ z
end
def Aq(K:W.Frag)(k:Bool)(H:Hp)(a:TD)(xs:List V):Prop:=match k with|true=>SqL K H a xs|false=>SqT K H a xs
def Itz(K:W.Frag)(k1 k2:Bool)(a1 a2:TD):It:=
  ⟨λi H=>∃xs ys x y,Aq K k1 H a1 xs/\Aq K k2 H a2 ys/\xs[i]?=some x/\ys[i]?=some y,
   λi H v H'=>∃t x y,H t=none/\v=.ref t/\H'=aI H t (.tup [x,y])/\(∀xs,Aq K k1 H a1 xs->xs[i]?=some x)/\∀ys,Aq K k2 H a2 ys->ys[i]?=some y,
   λi H=>∃xs ys,Aq K k1 H a1 xs/\Aq K k2 H a2 ys/\(xs.length<=i∨ys.length<=i)⟩
def Inv.sqk{X:Cx}{pins:ZB}{σ:St}{H:Hp}{s:P1}(I:Inv X pins σ H s){k:Bool}{a:TD}{xs:List V}(h:Aq X.K k H a xs):∃its,Vals xs its/\SeqIn k s.heap a its.toArray:=by
 cases k
 ·obtain⟨its,r,p,_⟩:=I.tuple h;exact⟨its,r,p⟩
 ·obtain⟨its,r,p,_⟩:=I.list h;exact⟨its,r,p.isList⟩
def Inv.sqk_inj{X:Cx}{pins:ZB}{σ:St}{H:Hp}{s:P1}(I:Inv X pins σ H s){k:Bool}{a:TD}{xs ys:List V}(h:Aq X.K k H a xs)(h2:Aq X.K k H a ys):xs=ys:=by
 cases k
 ·exact I.tuple_inj h h2
 ·exact I.list_inj h h2
def Ls{P:Program}{w:World}{K:W.Frag}{es:List Expr}{n:Nat}{pos:Pos}{k1 k2:Bool}{z ti to j1 j2 a1 a2:TD}(D:Rz z ti to j1 j2 a1 a2) :
  pK P w K (.Tuple es n pos) (Itz K k1 k2 a1 a2) [z,ti,to,j1,j2] z (λi h=>ZSt k1 k2 h z ti to j1 j2 a1 a2 .none i i) where
 mem:=by simp
 obj:=λi h st b hb=>by
  obtain⟨u1,u2,hO⟩:=st.o;obtain⟨o1,e1,_,d1⟩:=st.x;obtain⟨o2,e2,_,d2⟩:=st.y;simp only [mem_cons,QZT,or_false]at hb;rcases hb with rfl|rfl|rfl|rfl|rfl
  ·exact⟨_,st.z,λv q=>by have q':Data.fields _=Data.cell v:=q;cases q'⟩
  ·exact⟨_,st.i,λv q=>by have q':Data.seq _ _=Data.cell v:=q;cases q'⟩
  ·exact⟨_,hO,λv q=>by have q':Data.seq _ _=Data.cell v:=q;cases q'⟩
  ·exact⟨_,e1,λv q=>by rw[d1]at q;cases q⟩
  ·exact⟨_,e2,λv q=>by rw[d2]at q;cases q⟩
 keep:=λi h h' st g=>by
  obtain⟨u1,u2,hO⟩:=st.o;exact⟨g z Zs _ st.z,g ti Zs _ st.i,⟨u1,u2,g to Zs _ hO⟩,st.x.by λo e=>g j1 Zs o e,st.y.by λo e=>g j2 Zs o e⟩
 item:=by
  intro X hP hw hK hc i pins s σ H E I hf st hg;subst hP hw hK;obtain⟨xs,ys,x,y,hx,hy,ex,ey⟩:=hg;obtain⟨its,rv,p⟩:=I.sqk hx;obtain⟨PY,nq,p'⟩:=I.sqk hy;obtain⟨u,hu,ru⟩:=rv.get ex;obtain⟨v,hv,WQ⟩:=nq.get ey;have hT:s.TypeIs (.ref z) "zip":=⟨_,st.z,rfl⟩;unfold pyNext;refine V4 (wpAny_attempt (wpAny_callSpecial?_slot (name:=Str.ofString "__next__") hT F.slot_zip_next (wpAny_call_entry F.slot_zip_next hT F.entry_zip_next (Sb D st p p' (by simpa using hu) (by simpa using hv) λh1 GI t1 z1 yd=>V3 ?_) (F.args_zip_next_1 _))));refine⟨_,rfl,?_⟩;refine wpAny_letOwnedTupleGo_zip GI.z λh2 z2 b2=>?_;obtain⟨w1,w2,hO⟩:=GI.o;have GG:z<s.heap.objs.size:=Heap.lt_size st.z;have t2:IsPair h2 s.heap.objs.size u v:=b2.extBut _ _ (ne_of_gt GG) t1;refine⟨.ref s.heap.objs.size,aI H s.heap.objs.size (.tup [x,y]),I.turnLaid (t':=s.toks) hf (λb o hb e=>?_) (aY _) ⟨by show 2<=sizeLine;decide,[u,v],.cons ru (.cons WQ .nil),⟨_,t2,rfl,_,rfl⟩⟩,rfl,?_,?_,λb hb=>?_⟩
  ·have t7:b≠z/\b≠ti/\b≠to/\b≠j1/\b≠j2:=by simpa using hb
   exact b2.extBut _ _ t7.1 (yd b o t7.1 t7.2.2.1 t7.2.2.2.1 t7.2.2.2.2 e)
  ·exact⟨s.heap.objs.size,x,y,I.hok.fresh (aY _),rfl,rfl,λzs hz=>by rw[I.sqk_inj hz hx];exact ex,λzs hz=>by rw[I.sqk_inj hz hy];exact ey⟩
  ·exact⟨z2,b2.extBut _ _ D.i GI.i,⟨_,_,b2.extBut _ _ D.o hO⟩,GI.x.by λo e=>b2.extBut _ _ D.p e,GI.y.by λo e=>b2.extBut _ _ D.q e⟩
  ·have q9:b<s.heap.objs.size:=by
    obtain⟨u1,u2,WR⟩:=st.o;obtain⟨o1,e1,_⟩:=st.x;obtain⟨o2,e2,_⟩:=st.y;simp only [mem_cons,QZT,or_false]at hb;rcases hb with rfl|rfl|rfl|rfl|rfl
    ·exact GG
    ·exact Heap.lt_size st.i
    ·exact Heap.lt_size WR
    ·exact Heap.lt_size e1
    ·exact Heap.lt_size e2
   rw[aB (ne_of_lt q9)];exact(hf b hb).1
 done:=by
  intro X hP hw hK hc i pins s σ H E I hf st hg;subst hP hw hK;obtain⟨xs,ys,hx,hy,he⟩:=hg;obtain⟨its,rv,p⟩:=I.sqk hx;obtain⟨PY,nq,p'⟩:=I.sqk hy;have hT:s.TypeIs (.ref z) "zip":=⟨_,st.z,rfl⟩;have l1:=rv.length;have l2:=nq.length;unfold pyNext;refine V4 (wpAny_attempt (wpAny_callSpecial?_slot (name:=Str.ofString "__next__") hT F.slot_zip_next (wpAny_call_entry F.slot_zip_next hT F.entry_zip_next (Yq (I.ok.hd hc) D st p p' (he.imp (λh=>by simp;omega) (λh=>by simp;omega)) λh1 e yd om=>?_) (F.args_zip_next_1 _))));obtain⟨o,ho,JF⟩:=om;refine V4 (wpAny_isInstance (T:="StopIteration") (b:=true) ⟨o,ho,JF⟩ isSubtype_stop ?_);refine V3 ⟨rfl,I.turnL (t':=s.toks) hf λb u hb e'=>?_⟩;have t7:b≠z/\b≠ti/\b≠to/\b≠j1/\b≠j2:=by simpa using hb
  exact yd b u t7.1 t7.2.2.1 t7.2.2.2.1 t7.2.2.2.2 e'
 self:=λ_ _ _ _ _ st h=>wpAny_pyIter_zip st.z h
def zpH(k1 k2:Bool)(h:Heap)(a1 a2:TD):Heap:=
 ((((h.push (nF k1 a1)).push (nF k2 a2)).push {cls:=.type "tuple",data:=.seq #[.ref h.objs.size,.ref (h.objs.size+1)] }).push {cls:=.type "tuple",data:=.seq #[.none,.none] }).push {cls:=.type "zip",data:=.fields #[.none,.bool false,.bool false,.ref (h.objs.size+2),.ref (h.objs.size+3)] }
def Yr(k1 k2:Bool)(a1 a2:TD)(xs ys:Array Value) :
  Meets (Builtin.«zip.__new__» ⟨[.type "zip",.ref a1,.ref a2],[]⟩) (λ_ R s=>SeqIn k1 s.heap a1 xs/\SeqIn k2 s.heap a2 ys/\R (.ok (.ret (.ref (s.heap.objs.size+4)))) {s with heap:=zpH k1 k2 s.heap a1 a2 }):=
 .of_wp λprog w A R s h=>by
  obtain⟨hp,g,d,tk,os⟩:=s;obtain⟨ot,x9,h⟩:=h;have ze:=sub_zip;have L1:SeqIn k1 (Shared.heap ⟨hp,g,d,tk,os⟩) a1 xs:=ot;have L2:SeqIn k2 (Shared.heap ⟨hp.push (nF k1 a1),g,d,tk,os⟩) a2 ys:=SeqIn.by x9 λo e=>eG _ e
  wp_walk using Lq L1,Lq L2
  refine⟨_,rfl,?_⟩;simp only [Heap.size_push];exact h
def Ys{n a1 a2:TD}(h1:a1<n)(h2:a2<n):Rz (n+4) (n+2) (n+3) n (n+1) a1 a2 where
 i:=ne_of_lt (add_lt_add_left Zd n)
 o:=ne_of_lt (add_lt_add_left Zd n)
 p:=ne_of_lt (Nat.lt_add_of_pos_right Zd)
 q:=ne_of_lt (add_lt_add_left Zd n)
 io:=ne_of_lt (add_lt_add_left Zd n)
 ip:=ne_of_gt (Nat.lt_add_of_pos_right Zd)
 iq:=ne_of_gt (add_lt_add_left Zd n)
 op:=ne_of_gt (Nat.lt_add_of_pos_right Zd)
 oq:=ne_of_gt (add_lt_add_left Zd n)
 pq:=ne_of_lt (Nat.lt_add_of_pos_right Zd)
 a:=λb hb=>by
  have q9:b<n:=by rcases hb with rfl|rfl<;>assumption
  exact⟨ne_of_lt (QZU q9 (le_add_right n 4)),ne_of_lt (QZU q9 (le_add_right n 3)),ne_of_lt q9,ne_of_lt (QZU q9 (le_add_right n 1))⟩
section
variable {prog:Program}{w:World}{A:Around}{E:XV}{s:P1}
def Sc{k1 k2:Bool}{a1 a2:TD}{xs ys:Array Value}{Q:XV}(ot:SeqIn k1 s.heap a1 xs)(x9:SeqIn k2 s.heap a2 ys)(h:∀h',ZSt k1 k2 h' (s.heap.objs.size+4) (s.heap.objs.size+2) (s.heap.objs.size+3) s.heap.objs.size (s.heap.objs.size+1) a1 a2 .none 0 0->(∀c o,s.heap.get? c=some o->h'.get? c=some o)->Q (.ref (s.heap.objs.size+4)) {s with heap:=h' }) :
  wpAny (model prog w) A (call (.type "zip") [.ref a1,.ref a2]) Q E s:=by
 refine callType_new F.called_zip Zd (F.typeCall_zip_2 _ _) (F.newCall_zip_2 _ _) (λobj=>F.args_object_init_3 obj _ _) F.entry_zip_new (Yr k1 k2 a1 a2 xs ys) ⟨ot,x9,?_⟩;have n1:(s.heap.push (nF k1 a1)).objs.size=s.heap.objs.size+1:=Heap.size_push ..;have n2:((s.heap.push (nF k1 a1)).push (nF k2 a2)).objs.size=s.heap.objs.size+2:=by rw[Heap.size_push,n1]
 have up:∀ {o1 o2 o3 o4 o5:Obj}{b:TD}{o:Obj},s.heap.get? b=some o->(((((s.heap.push o1).push o2).push o3).push o4).push o5).get? b=some o:=λe=>eG _ (eG _ (eG _ (eG _ (eG _ e))))
 have JG:∀ {h0:Heap}{o:Obj}{n:Nat},h0.objs.size=n->o.isFreed=false->(h0.push o).get? n=some o:=λe f=>by subst e;exact TW _ f
 have g1:(zpH k1 k2 s.heap a1 a2).get? s.heap.objs.size=some (nF k1 a1):=eG _ (eG _ (eG _ (eG _ (TW _ rfl))));have g2:(zpH k1 k2 s.heap a1 a2).get? (s.heap.objs.size+1)=some (nF k2 a2):=eG _ (eG _ (eG _ (JG n1 rfl)));have g3:IsPair (zpH k1 k2 s.heap a1 a2) (s.heap.objs.size+2) (.ref s.heap.objs.size) (.ref (s.heap.objs.size+1)):=eG _ (eG _ (JG n2 rfl));have g4:IsPair (zpH k1 k2 s.heap a1 a2) (s.heap.objs.size+3) .none .none:=eG _ (JG (by rw[Heap.size_push,n2]) rfl);have g5:IsZip (zpH k1 k2 s.heap a1 a2) (s.heap.objs.size+4) (s.heap.objs.size+2) (s.heap.objs.size+3) .none:=JG (by rw[Heap.size_push,Heap.size_push,n2]) rfl;exact⟨⟨_,g5,rfl⟩,h _ ⟨g5,g3,⟨_,_,g4⟩,⟨_,g1,rfl,rfl⟩,⟨_,g2,rfl,rfl⟩⟩ λc o e=>up e⟩
end
section
variable {X:Cx}{a b:Expr}{ta tb:TE}{p pos ur:Pos}{es:List Expr}{n:Nat}
def aBs(K:W.Frag)(ta tb:TE):TI:=λσ H R=>ta σ H λx H1=>tb σ H1 λy H2=>mR x λa1=>mR y λa2=>∃k1 k2 xs ys,Aq K k1 H2 a1 xs/\Aq K k2 H2 a2 ys/\R (Itz K k1 k2 a1 a2) H2
def Lu:bootBuiltins "zip"=some (.type "zip"):=by decide +kernel
def Yt(hg:Gl X "zip")(hm:X.mg "zip"=none)(ha:PE X a ta)(hb:PE X b tb)(h1:aW a=true)(h2:aW b=true):PI X (.Tuple es n ur) (.Call (.Name "zip" p) [a,b] [] pos) (aBs X.K ta tb):=by
 intro pins s σ H R I h;have hs:starEach [a,b] X.env=[(false,eval a X.env),(false,eval b X.env)]:=by rw[bQ h1,bQ h2];rfl
 have T9:starEach [b] X.env=[(false,eval b X.env)]:=by rw[bQ h2];rfl
 have hA:PA X [a,b] (kJ ta (kJ tb sK)):=vM ha (vM hb uY h2) h1;refine Call_ (nW I hg hm Lu (PyProof.Rows.callWith_type1 (cA (hA pos pins s σ H (λvs H2=>match vs with|[x,y]=>(mR x λa1=>mR y λa2=>∃k1 k2 xs ys,Aq X.K k1 H2 a1 xs/\Aq X.K k2 H2 a2 ys/\R (Itz X.K k1 k2 a1 a2) H2)|_=>False) I ?_) ?_) (by rw[hs,T9]) (by rw[T9];rfl)))
 ·exact h
 ·rintro us s1 ⟨vs,H1,I1,r1,q1⟩;(try dsimp only at q1);split at q1
  rotate_left
  ·exact q1.elim
  rename_i x y;rw[dD]at q1;obtain⟨a1,rfl,q1⟩:=q1;rw[dD]at q1;obtain⟨a2,rfl,k1,k2,xs,ys,q2,q3,q⟩:=q1
  cases r1 with
  | cons r rr=>
   cases rr with
   | cons r' rr=>
    cases rr;cases r;cases r';obtain⟨its,rv,p1⟩:=I1.sqk q2;obtain⟨PY,nq,p2⟩:=I1.sqk q3;refine Sc p1 p2 λh' S k=>?_;have I2:Inv X pins σ H1 {s1 with heap:=h' }:=I1.kept (t':=s1.toks) k;refine wpAny_pyIter_zip (s:={s1 with heap:=h' }) S.z ?_;refine⟨s1.heap.objs.size+4,_,_,_,H1,rfl,I2,Ls (Ys p1.lt p2.lt),S,λb hb=>?_,q⟩;have t7:s1.heap.objs.size<=b:=by
     simp only [mem_cons,QZT,or_false]at hb;rcases hb with rfl|rfl|rfl|rfl|rfl
     ·exact le_add_right _ 4
     ·exact le_add_right _ 2
     ·exact le_add_right _ 3
     ·exact aY _
     ·exact le_add_right _ 1
    exact I1.fpOk t7 (I1.hok.fresh t7)
def R.iu{K:W.Frag}(hg:Gl X "zip")(hm:X.mg "zip"=none)(ha:XE X a ta)(hb:XE X b tb)(hK:X.K=K:=by rfl)(h1:aW a=true:=by rfl)(h2:aW b=true:=by rfl):XI X (.Tuple es n ur) (.Call (.Name "zip" p) [a,b] [] pos) (aBs K ta tb):=
 hK▸⟨Yt hg hm ha.h hb.h h1 h2⟩
end
def Lv{K:W.Frag}{k1 k2:Bool}{a1 a2:TD}{xs ys:List V}{js:List (Option Nat)}{g:TG}{tt:TT}{te:TE}{σ:St}{H:Hp}{Q:List V->Hp->Prop}(hz:xs.length<=100000)(Pv:Nat->List V->Hp->Prop)(hA:∀i zs H,Pv i zs H->Aq K k1 H a1 xs/\Aq K k2 H a2 ys/\zs.length<=i)(h0:Pv 0 [] H)(hs:∀i x y zs H t,xs[i]?=some x->ys[i]?=some y->Pv i zs H->H t=none->g (.ref t) (xK js σ) (aI H t (.tup [x,y])) λσ2 H2=>tt σ2 H2 λb H3=>if b=true then te σ2 H3 λv H4=>Pv (i+1) (zs++[v]) H4 else Pv (i+1) zs H3)(hd:∀zs H,Pv (min xs.length ys.length) zs H->Q zs H):lV js g tt te σ (Itz K k1 k2 a1 a2) H Q:=by
 refine⟨λi m zs H=>m=min xs.length ys.length-i/\i<=min xs.length ys.length/\Pv i zs H,⟨_,rfl,zero_le _,h0⟩,?_⟩;rintro i m zs H ⟨rfl,hi,p⟩;obtain⟨q1,q2,q3⟩:=hA i zs H p;by_cases q9:i<min xs.length ys.length
 ·have l1:i<xs.length:=QZU q9 (min_le_left _ _);have l2:i<ys.length:=QZU q9 (min_le_right _ _);refine .inr ⟨⟨xs,ys,xs[i],ys[i],q1,q2,by simp[l1],by simp[l2]⟩,nS (m:=100000) Zo Zd,Pv (i+1),λP4 H' p'=>⟨_,Zo,rfl,q9,p'⟩,λv H' y=>?_⟩;obtain⟨t,x,y,ht,rfl,rfl,e1,e2⟩:=y;exact hs i x y zs H t (e1 xs q1) (e2 ys q2) p ht
 ·have e:i=min xs.length ys.length:=by omega
  subst e;exact .inl ⟨⟨xs,ys,q1,q2,Zo⟩,hd zs H p⟩
def pM(x:V)(zs:List Str):Bool:=match x with|.str z=>decide (z∈zs)|_=>false
section
variable {X:Cx}
def Ga(A:Around):A.in1.units=A.units+1:=rfl
def kR(xs ys:List V):Bool:=(List.range (min xs.length ys.length)).all (λj=>zP (xs.getD j .non) (ys.getD j .non))&&xs.length==ys.length
end
def nIs:Option aT->Q2->Bool
 | none,.none=>true
 | none,_=>false
 | some k,v=>kB k v
def cY:∀ {k:Option aT}{v:Q2},nIs k v=true->(k=none/\v=.none)∨∃j,k=some j/\kB j v=true
 | none,v,h=>by cases v<;>first|exact .inl ⟨rfl,rfl⟩|exact QZY (show false=true from h) V2
 | some j,v,h=>.inr ⟨j,rfl,h⟩
def qX{j:aT}:kB j .none=false:=by cases j<;>rfl
def xT:Int:=4238894112
section
variable {prog:Program}{w:World}{A:Around}{E:XV}{s:P1}
def Gb{Q:Int->P1->Prop}(h:Q xT {s with toks:=s.toks+1 }):wpAny (model prog w) A (PySem.pyHash .none) Q E s:=by
 have hT:s.TypeIs Value.none "NoneType":=rfl;unfold PySem.pyHash;refine V4 ?_;rw[cRoomFor,QZZ (show ¬ ([Value.none].any Value.onHeap=true) from V2)];refine V3 ?_;refine V4 (wpAny_specialOf hT PySem.F.slot_NoneType_hash.lookup ?_);show wpAny (model prog w) A (if (some (Value.builtin "NoneType.__hash__")==some Value.none)=true then _ else _) Q E s;rw[QZZ (show ¬ ((some (Value.builtin "NoneType.__hash__")==some Value.none)=true) from V2)];refine V4 (wpAny_specialOf hT PySem.F.slot_NoneType_hash.lookup ?_);show wpAny (model prog w) A (callSpecialIfBoundUnlessNone? Value.none "__hash__" _>>=_) Q E s;refine V4 (wpAny_callSpecialIfBoundUnlessNone?_slot hT PySem.F.slot_NoneType_hash (wpAny_call_entry PySem.F.slot_NoneType_hash hT PySem.F.entry_NoneType_hash (show wpAny (model prog w) _ (do ret (← mkInt xT)) _ _ s from wpAny_ret_mkInt ?_) (PySem.F.args_NoneType_hash_1 _)));show wpAny (model prog w) A (if (decide (-(2:Int)^63<=xT)&&decide (xT<2^63))=true then _ else _) Q E _;rw[P0 Zd];exact V3 h
end
def Lw(prog:Program)(w:World):PySem.KeyKind prog w (Option aT) where
 is:=nIs
 hash:=λk=>match k with|none=>xT|some j=>aAo w j
 inj:=λv a b ha hb=>by
  rcases cY ha with⟨rfl,rfl⟩|⟨i,rfl,h1⟩
  ·rcases cY hb with⟨rfl,_⟩|⟨j,rfl,h2⟩
   ·rfl
   ·rw[qX]at h2;cases h2
  ·rcases cY hb with⟨rfl,rfl⟩|⟨j,rfl,h2⟩
   ·rw[qX]at h1;cases h1
   ·rw[(bB prog w).inj v i j h1 h2]
 byValue:=λk v h=>by
  rcases cY h with⟨rfl,rfl⟩|⟨i,rfl,h1⟩
  ·rfl
  ·exact(bB prog w).byValue i v h1
 pyHash:=λ{A E s k v Q} hv h=>by
  rcases cY hv with⟨rfl,rfl⟩|⟨i,rfl,h1⟩
  ·exact Gb h
  ·exact(bB prog w).pyHash h1 h
 eqBool:=λ{A E s a b u v Q} hu hv h=>by
  rcases cY hu with⟨rfl,rfl⟩|⟨i,rfl,h1⟩
  ·rcases cY hv with⟨rfl,rfl⟩|⟨j,rfl,h2⟩
   ·exact SeqAt.EqAt.same _ _ _ _ _ (by simpa using h)
   ·have h':Q false s:=by simpa using h
    rcases bM h2 with⟨n,t,rfl,rfl⟩|⟨x,t,rfl,rfl⟩
    ·exact SeqAt.EqAt.none_int n t _ _ _ _ h'
    ·exact SeqAt.EqAt.none_str x t _ _ _ _ h'
  ·rcases cY hv with⟨rfl,rfl⟩|⟨j,rfl,h2⟩
   ·have h':Q false s:=by simpa using h
    rcases bM h1 with⟨n,t,rfl,rfl⟩|⟨x,t,rfl,rfl⟩
    ·exact SeqAt.EqAt.int_none n t _ _ _ _ h'
    ·exact SeqAt.EqAt.str_none x t _ _ _ _ h'
   ·refine(bB prog w).eqBool h1 h2 ?_;have e:decide (some i=some j)=decide (i=j):=by simp
    rw[<- e];exact h
 «strs»:=λk x t v h=>by
  rcases cY h with⟨rfl,e⟩|⟨i,rfl,h1⟩
  ·cases e
  ·exact(bB prog w).strs i x t v h1
def Lx{prog:Program}{w:World}{h:Heap}{a:TD}{f:aT->Option Q2}(m:h.MapOf (bB prog w) a f):∃g:Option aT->Option Q2,h.MapOf (Lw prog w) a g/\g none=none:=by
 obtain⟨o,es,ep,ho,hx,hd,hk,hf⟩:=m;refine⟨_,⟨o,es,ep,ho,hx,hd,λe he=>?_,λk=>rfl⟩,?_⟩
 ·obtain⟨k,h1,h2⟩:=hk e he;exact⟨some k,h1,h2⟩
 ·show findBy nIs es none=none;unfold findBy;have:es.find? (λe=>nIs none e.key)=none:=by
   rw[Array.find?_eq_none];intro e he z;obtain⟨k,h1,h2⟩:=hk e he;rcases cY z with⟨_,e1⟩|⟨_,e1,_⟩
   ·rw[e1]at h1;have G9:kB k .none=true:=h1;rw[qX]at G9;cases G9
   ·cases e1
  rw[this];rfl
section
variable {X:Cx}
def Yu(neg:Bool):R2:=λx y H Q=>mR y λa=>match x with
 | .non=>(∃kvs,H a=some (.dK kvs))/\Q (.bl neg) H
 | .str z=>∃kvs,H a=some (.dK kvs)/\Q (.bl (if neg then !(bA kvs (Sum.inr z)).isSome else (bA kvs (Sum.inr z)).isSome)) H
 | _=>False
def Yv(neg:Bool)(hu:X.A.units+1<cLine):OpR X (compareOp (if neg then .NotIn else .In)) (Yu neg):=by
 intro pins s σ H x y v u Q I rx ry h;unfold Yu at h;rw[dD]at h;obtain⟨a,rfl,h⟩:=h;cases ry
 cases x with
 | non=>
  obtain⟨⟨kvs,e⟩,q⟩:=h;cases rx;obtain⟨z,hd,vs,rel,dd⟩:=Cc I.hok e;obtain⟨g,hm,hg⟩:=Lx dd.mapOf;cases neg
  ·refine wpAny_in_of (knd:=Lw X.prog X.w) (k:=none) rfl hd hm ⟨.bl _,H,I.tok _,rfl,?_⟩;rw[hg];exact q
  ·refine wpAny_notIn_of (knd:=Lw X.prog X.w) (k:=none) rfl hd hm ⟨.bl _,H,I.tok _,rfl,?_⟩;rw[hg];exact q
 | str z=>
  obtain⟨kvs,e,q⟩:=h;cases neg
  ·exact aAQ hu I (DGet.k (k:=Sum.inr z) e) rx λs' I'=>⟨.bl _,H,I',rfl,q⟩
  ·exact Cd hu I (DGet.k (k:=Sum.inr z) e) rx λs' I'=>⟨.bl _,H,I',rfl,q⟩
 | _=>exact h.elim
def R.iw(hu:X.A.units+1<cLine):jI X (compareOp .In) (Yu false):=⟨Yv false hu⟩
end
def Pc(H:Hp)(y:V):Prop:=(eW y=true/\∀z,y=.str z->z.length<=1000)∨(∃a ys,y=.ref a/\(H a=some (.lst ys)∨H a=some (.tup ys)))∨∃a kvs,y=.ref a/\H a=some (.dK kvs)
def Tg(H:Hp)(x:V):Prop:=Pc H x/\∀a xs,x=.ref a->H a=some (.tup xs)->xs.length<=1000/\∀y∈xs,Pc H y
def Pc.same{H H':Hp}{y:V}(s:Same H H')(h:Pc H y):Pc H' y:=by
 rcases h with h|⟨a,ys,e,h⟩|⟨a,kvs,e,h⟩
 ·exact .inl h
 ·exact .inr (.inl ⟨a,ys,e,h.imp (s _ _) (s _ _)⟩)
 ·exact .inr (.inr ⟨a,kvs,e,s _ _ h⟩)
def Pc.kd{H:Hp}{y:V}(h:Pc H y):∃k,Uo H y k:=by
 rcases h with⟨h,_⟩|⟨a,ys,rfl,h|h⟩|⟨a,kvs,rfl,h⟩
 ·cases y with
  | non=>exact⟨.non,trivial⟩
  | bl _=>exact⟨.bl,trivial⟩
  | int _=>exact⟨.int,trivial⟩
  | str _=>exact⟨.str,trivial⟩
  | _=>exact QZY (show false=true from h) V2
 ·exact⟨.lst,.inl ⟨ys,h⟩⟩
 ·exact⟨.tup,⟨ys,h⟩⟩
 ·exact⟨.dct,⟨kvs,h⟩⟩
def Pc.pt{H:Hp}{y:V}(h:Pc H y):Pt H y:=by
 obtain⟨k,hk⟩:=h.kd;refine⟨k,hk,λz e=>?_⟩;subst e;rcases h with⟨_,h⟩|⟨_,_,e,_⟩|⟨_,_,e,_⟩
 ·exact h z rfl
 ·cases e
 ·cases e
def Pc.int{H:Hp}{n:Int}:Pc H (.int n):=.inl ⟨rfl,λ_ e=>nomatch e⟩
def Pc.str{H:Hp}{z:Str}(h:z.length<=1000):Pc H (.str z):=.inl ⟨rfl,λ_ e=>by injection e with e;rw[<- e];exact h⟩
def Pc.tup{H:Hp}{a:TD}{ys:List V}(h:H a=some (.tup ys)):Pc H (.ref a):=.inr (.inl ⟨a,ys,rfl,.inr h⟩)
def Tg.tup{H:Hp}{a:TD}{xs:List V}(h:H a=some (.tup xs))(hl:xs.length<=1000)(hx:∀y∈xs,Pc H y):Tg H (.ref a):=
 ⟨.tup h,λb ys e g=>by cases e;rw[h]at g;cases g;exact⟨hl,hx⟩⟩
def kS(H:Hp)(x:V):Option (List V):=match x with|.ref a=>(match H a with|some (.tup xs)=>some xs|_=>none)|_=>none
def Ut(xs:List V):V:=match xs with|.str u::_=>.str u|_=>.non
def kT(H:Hp)(x:V):V:=match kS H x with|some xs=>Ut xs|none=>.non
def qY{H:Hp}{a:TD}{xs:List V}(h:H a=some (.tup xs)):kS H (.ref a)=some xs:=by unfold kS;dsimp only;rw[h]
def Ly(wd:Str)(n:Int):List (Str×List (Int×Int)):=
 if wd="pass" then [] else if wd="move" then [("is",[(0,1000000000000-n),(n,1000000000000)]),("short",[(0,n-1)]),("full",[(1000000000000-n+1,1000000000000)])]
 else if wd="take"∨wd="send" then [("is",[(0,1000000000000-n)]),("short",[(0,n-1)])] else [("is",[(n,1000000000000)]),("full",[(1000000000000-n+1,1000000000000)])]
def bC(xs:List V)(bs:List (Int×Int)):Bool:=decide (xs.length=bs.length)&&(xs.zip bs).all λq=>Al q.2.1 q.2.2 q.1
def Gc(wd:Str)(hs:List Str)(n:Int)(xs:List V):Bool:=match xs with
 | .str u::r=>
  if u="no" then (match r with|[y]=>pM y hs|_=>false)
  else if u="ok" then decide (wd="pass")&&r.isEmpty
  else match (Ly wd n).lookup u with|some bs=>bC r bs|none=>false
 | _=>false
def Ar(H:Hp)(wd:Str)(hs:List Str)(n:Int)(x:V):Bool:=match kS H x with|some xs=>Gc wd hs n xs|none=>false
abbrev B2:=Addr×Int×Int
def BAt(H:Hp)(bs:List B2):Prop:=∀z∈bs,H z.1=some (.tup [.int z.2.1,.int z.2.2])
def vY(bs:List B2):List V:=bs.map λz=>V.ref z.1
def xU(H:Hp)(o:Option (List (Int×Int)))(v:Option V):Prop:=match o with
 | some bs=>∃t zs,v=some (.ref t)/\H t=some (.tup (vY zs))/\BAt H zs/\zs.map (·.2)=bs
 | none=>v=none
def BAt.same{H H':Hp}{bs:List B2}(s:Same H H')(h:BAt H bs):BAt H' bs:=λz hz=>s _ _ (h z hz)
structure DWN(wd:Str)(n:Int)(xs:List V)(as:List (Str×List V)):Prop where
 ex:∃one other nm cs,DW one other nm n wd xs cs as
 nm:∀q∈as,fO q.1
def DWN.dwx{wd:Str}{n:Int}{xs:List V}{as:List (Str×List V)}(h:DWN wd n xs as):∃cs,DWX wd xs cs as:=by
 obtain⟨one,other,nm,cs,hd⟩:=h.ex;exact⟨cs,one,other,nm,n,hd⟩
def xV:Sp:=λvs H Q _=>∃x,vs=[x]/\Tg H x/\Q (kT H x) H
def Uu(xs:List V):Bool:=match xs with|[_,y]=>nmV y|_=>false
def Lz:Sp:=λvs H Q _=>∃a xs,vs=[.ref a]/\H a=some (.tup xs)/\(∀y∈xs,Pc H y)/\∀H',Same H H'->Q (.bl (Uu xs)) H'
def xW:Sp:=λvs H Q _=>∃p wd n xs as,vs=[.ref p]/\H p=some (.tup xs)/\DWN wd n xs as/\∀d kvs H',Same H H'->H' d=some (.dK kvs)->(∀u:Str,xU H' ((Ly wd n).lookup u) (bA kvs (Sum.inr u)))->Q (.ref d) H'
def xX:Sp:=λvs H Q _=>∃a t xs bs,vs=[.ref a,.ref t]/\H a=some (.tup xs)/\xs.length<=1000/\(∀y∈xs,Pc H y)/\H t=some (.tup (vY bs))/\BAt H bs/\∀H',Same H H'->Q (.bl (bC xs (bs.map (·.2)))) H'
def Ct:Sp:=λvs H Q _=>∃p wd n xs as x,vs=[.ref p,x]/\H p=some (.tup xs)/\DWN wd n xs as/\Tg H x/\∀H',Same H H'->Q (.bl (Ar H wd (as.map (·.1)) n x)) H'
section
variable {X:Cx}{o:Expr}{to:TE}{p pos apos cpos:Pos}
def Uv:Ep:=λo i v H Q=>∃a H',o=.ref a/\DPut H a i v H'/\Q H'
def Ma(hu:X.A.units+1<cLine):Ps X Uv:=by
 intro pins s σ H o i v ov iv u Q I ro ri rv h;obtain⟨a,H',rfl,g,q⟩:=h;cases ro;exact Fk hu I g ri rv λs' I'=>⟨H',I',q⟩
def R.cf(hu:X.A.units+1<cLine):Yb X Uv:=⟨Ma hu⟩
end
def Mb(prs:List (Str×Int))(n:Str)(v:Int):List (Str×Int):=prs.map λq=>if q.1=n then (q.1,v) else q
def Gd(prs:List (Str×Int))(n:Str)(v:Int):(Mb prs n v).map (·.1)=prs.map (·.1):=by
 unfold Mb;rw[map_map];refine map_congr_left λq _=>?_
 show(if q.1=n then (q.1,v) else q).1=q.1;split<;>rfl
def Sd{prs:List (Str×Int)}{n:Str}{v:Int}(h:n∈prs.map (·.1)):bJ (mN prs) (Sum.inr n) (.int v)=mN (Mb prs n v):=by
 unfold bJ;rw[P0 (by rw[dC,pU];obtain⟨a,ha⟩:=mG h;rw[ha];rfl)];unfold mN Mb;rw[map_map,map_map];refine map_congr_left λq _=>?_
 show(if (Sum.inr q.1:aT)=Sum.inr n then (Sum.inr q.1,V.int v) else ((Sum.inr q.1:aT),V.int q.2))=((Sum.inr (if q.1=n then (q.1,v) else q).1:aT),V.int (if q.1=n then (q.1,v) else q).2);by_cases e:q.1=n
 ·rw[P0 (by rw[e]),P0 e]
 ·rw[QZZ (λz=>e (Sum.inr.inj z)),QZZ e]
def Cu(C:TD):Sp:=λvs H Q _=>∃(p dx:TD)(r:V)(prs:List (Str×Int)),vs=[.ref p,r]/\H p=some (.ins C dx [])/\Yn H r prs/\(prs.map (·.1)).Nodup/\prs.length<=1000 ∧
 ∀H' d,H d=none->H' p=some (.ins C dx [("amounts",.ref d)])->H' d=some (.dK (mN prs))->(∀b o,H b=some o->b≠p->H' b=some o)->Q .non H'
section
variable {X:Cx}
def Mc(i j:Int):Prop:=0<j/\j<2^64
def Se:OpR X (binaryOp .FloorDiv) (m2 Mc λi j=>.int (i / j)):=(opI (C:=Mc) (g:=λi j=>i / j) λi j _ _ s Q E hc q=>by
 have h1:i.fdiv j=i/j:=Int.fdiv_eq_ediv_of_nonneg _ (by have:=hc.1;omega);refine floordiv_int (by have:=hc.1;omega) (by rw[h1];exact q) (.inl (PyProof.noPylong_of_log2 ?_));have h2:j.natAbs<2^64:=by have:=hc.1;have:=hc.2;omega
 exact QZU (Nat.log2_lt (by have:=hc.1;omega) |>.mpr h2) Zd).imp vL
def R.gv:jI X (binaryOp .FloorDiv) (m2 Mc λi j=>.int (i/j)):=⟨Se⟩
end
def K1(p:TD)(H H':Hp):Prop:=∀c o,H c=some o->c≠p->H' c=some o
def KLET:List Nat:=LET++FIG
def xY(z:Str):Prop:=1<=z.length/\z.length<=12/\∀c∈z.cps.toList,c∈KLET
def Ite(K:W.Frag)(a:TD):It:=
  ⟨λi H=>∃xs x,SqL K H a xs/\xs[i]?=some x,
   λi H v H'=>∃t x,H t=none/\v=.ref t/\H'=aI H t (.tup [.int i,x])/\∀xs,SqL K H a xs->xs[i]?=some x,
   λi H=>∃xs,SqL K H a xs/\xs.length<=i⟩
structure ESt(h:Heap)(e it a:TD)(i:Nat):Prop where
 e:∃old,IsEnum h e it i old
 i:h.IsListIter it a i
def Ge{P:Program}{w:World}{K:W.Frag}{es:List Expr}{n:Nat}{pos:Pos}{e it a:TD}(v7:e≠it)(hea:a≠e)(hia:a≠it) :
  pK P w K (.Tuple es n pos) (Ite K a) [e,it] e (λi h=>ESt h e it a i) where
 mem:=by simp
 obj:=λi h st b hb=>by
  obtain⟨old,he⟩:=st.e;obtain⟨o1,e1,_,d1⟩:=st.i;simp only [mem_cons,QZT,or_false]at hb;rcases hb with rfl|rfl
  ·exact⟨_,he,λv q=>by have q':Data.fields _=Data.cell v:=q;cases q'⟩
  ·exact⟨_,e1,λv q=>by rw[d1]at q;cases q⟩
 keep:=λi h h' st g=>by
  obtain⟨old,he⟩:=st.e;obtain⟨o1,e1,r⟩:=st.i;exact⟨⟨old,g e Zs _ he⟩,⟨o1,g it Zs _ e1,r⟩⟩
 item:=by
  intro X hP hw hK hc i pins s σ H E I hf st hg;subst hP hw hK;obtain⟨xs,x,hx,ex⟩:=hg;obtain⟨its,rv,p,_⟩:=I.list hx;obtain⟨u,hu,ru⟩:=rv.get ex;obtain⟨old,he⟩:=st.e;refine wpAny_pyNext_enum_item he st.i p.isList (by simpa using hu) v7 λh1 e1 i1 t1 z1 k1=>?_;refine⟨_,rfl,?_⟩;refine wpAny_letOwnedTupleGo_enum e1 λh2 e2 b2=>?_;have elt:e<s.heap.objs.size:=Heap.lt_size he;have t2:h2.get? s.heap.objs.size=some {cls:=.type "tuple",data:=.seq #[.int i s.toks,u] }:=b2.extBut _ _ (ne_of_gt elt) t1;refine⟨.ref s.heap.objs.size,aI H s.heap.objs.size (.tup [.int i,x]),I.turnLaid (t':=s.toks+1) hf (λb o hb e'=>?_) (aY _) ⟨by show 2<=sizeLine;decide,[.int i s.toks,u],.cons ⟨_,rfl⟩ (.cons ru .nil),⟨_,t2,rfl,_,rfl⟩⟩,rfl,?_,?_,λb hb=>?_⟩
  ·have t7:b≠e/\b≠it:=by simpa using hb
   exact b2.extBut _ _ t7.1 (k1 b o t7.1 t7.2 e')
  ·exact⟨s.heap.objs.size,x,I.hok.fresh (aY _),rfl,rfl,λzs hz=>by rw[I.list_inj hz hx];exact ex⟩
  ·obtain⟨o1,q1,r1⟩:=i1;exact⟨⟨_,by simpa using e2⟩,⟨o1,b2.extBut _ _ v7.symm q1,r1⟩⟩
  ·have q9:b<s.heap.objs.size:=by
    obtain⟨o1,q1,r1⟩:=st.i;simp only [mem_cons,QZT,or_false]at hb;rcases hb with rfl|rfl
    ·exact elt
    ·exact Heap.lt_size q1
   rw[aB (ne_of_lt q9)];exact(hf b hb).1
 done:=by
  intro X hP hw hK hc i pins s σ H E I hf st hg;subst hP hw hK;obtain⟨xs,hx,hl⟩:=hg;obtain⟨its,rv,p,_⟩:=I.list hx;obtain⟨old,he⟩:=st.e;have l1:=rv.length;refine wpAny_pyNext_enum_end (I.ok.hd hc) he st.i p.isList (by simp;omega) λh1 k1=>?_;refine⟨rfl,I.turnL (t':=s.toks) hf λb u hb e'=>?_⟩;have t7:b≠e/\b≠it:=by simpa using hb
  exact k1 b u t7.2 e'
 self:=λ_ _ _ _ _ st h=>by
  obtain⟨old,he⟩:=st.e;exact wpAny_pyIter_enum he h
section
variable {X:Cx}{a b:Expr}{ta tb:TE}{p pos ur:Pos}{es:List Expr}{n:Nat}
def Uw(K:W.Frag)(ta:TE):TI:=λσ H R=>ta σ H λx H1=>mR x λa=>∃xs,SqL K H1 a xs/\R (Ite K a) H1
def Sf(hg:Gl X "enumerate")(hm:X.mg "enumerate"=none)(ha:PE X a ta)(h1:aW a=true):PI X (.Tuple es n ur) (.Call (.Name "enumerate" p) [a] [] pos) (Uw X.K ta):=by
 intro pins s σ H R I h;have hs:starEach [a] X.env=[(false,eval a X.env)]:=by rw[bQ h1];rfl
 have hA:PA X [a] (kJ ta sK):=vM ha uY h1;refine Call_ (nW I hg hm boot_enumerate (PyProof.Rows.callWith_type1 (cA (hA pos pins s σ H (λvs H2=>match vs with|[x]=>(mR x λa1=>∃xs,SqL X.K H2 a1 xs/\R (Ite X.K a1) H2)|_=>False) I ?_) ?_) (by rw[hs];rfl) rfl))
 ·exact h
 ·rintro us s1 ⟨vs,H1,I1,r1,q1⟩;(try dsimp only at q1);split at q1
  rotate_left
  ·exact q1.elim
  rename_i x;rw[dD]at q1;obtain⟨a1,rfl,xs,q2,q⟩:=q1
  cases r1 with
  | cons r rr=>
   cases rr;cases r;obtain⟨its,rv,p1,_⟩:=I1.list q2;refine call_enumerate_list p1.isList λh' he hi hz k=>?_;have I2:Inv X pins σ H1 {s1 with heap:=h' }:=I1.kept (t':=s1.toks) k;have la:a1<s1.heap.objs.size:=by
    obtain⟨o,e',_⟩:=p1.isList;exact Heap.lt_size e'
   refine wpAny_pyIter_enum (s:={s1 with heap:=h' }) he ?_;refine⟨s1.heap.objs.size+1,_,_,_,H1,rfl,I2,Ge (ne_of_gt (lt_succ_self _)) (ne_of_lt (lt_succ_of_lt la)) (ne_of_lt la),⟨⟨_,he⟩,hi⟩,λb hb=>?_,q⟩;have t7:s1.heap.objs.size<=b:=by
    simp only [mem_cons,QZT,or_false]at hb;rcases hb with rfl|rfl
    ·exact le_add_right _ 1
    ·exact aY _
   exact I1.fpOk t7 (I1.hok.fresh t7)
def R.iy{K:W.Frag}(hg:Gl X "enumerate")(hm:X.mg "enumerate"=none)(ha:XE X a ta)(hK:X.K=K:=by rfl)(h1:aW a=true:=by rfl):XI X (.Tuple es n ur) (.Call (.Name "enumerate" p) [a] [] pos) (Uw K ta):=
 hK▸⟨Sf hg hm ha.h h1⟩
end
def Md{K:W.Frag}{a:TD}{xs:List V}{g:TG}{tb:TS}{D:nV}{σ:St}{H:Hp}(Pv:Nat->St->Hp->Prop)(hA:∀i σ H,Pv i σ H->SqL K H a xs)(h0:Pv 0 σ H)(hs:∀(i:Nat)(x:V) σ H t,xs[i]?=some x->Pv i σ H->H t=none->g (.ref t) σ (aI H t (.tup [.int i,x])) λσ2 H2=>tb {D with nx:=Pv (i+1),ct:=Pv (i+1),bk:=D.nx } σ2 H2)(hd:∀ σ H,Pv xs.length σ H->D.nx σ H) :
  ∃W:Nat->Nat->St->Hp->Prop,(∃m,W 0 m σ H)/\∀i m σ H,W i m σ H →
   ((Ite K a).stop i H/\D.nx σ H)∨((Ite K a).go i H/\∃N:St->Hp->Prop,(∀ σ' H',N σ' H'->∃m',m'<m/\W (i+1) m' σ' H')/\∀x H',(Ite K a).yld i H x H'->g x σ H' λσ2 H2=>tb {D with nx:=N,ct:=N,bk:=D.nx } σ2 H2):=by
 refine⟨λi m σ H=>m=xs.length-i/\i<=xs.length/\Pv i σ H,⟨_,rfl,zero_le _,h0⟩,?_⟩;rintro i m σ H ⟨rfl,hi,p⟩;have q1:=hA i σ H p;by_cases q9:i<xs.length
 ·refine .inr ⟨⟨xs,xs[i],q1,eZ q9⟩,Pv (i+1),λσ' H' n=>⟨xs.length-(i+1),Zo,rfl,q9,n⟩,?_⟩;rintro v H' ⟨t,x,ht,rfl,rfl,e1⟩;exact hs i x σ H t (e1 xs q1) p ht
 ·have:i=xs.length:=by omega
  subst this;exact .inl ⟨⟨xs,q1,aY _⟩,hd σ H p⟩
section
variable {prog:Program}{w:World}{A:Around}{E:XV}{s:P1}
def xZ{a:Q2}{Q:Bool->P1->Prop}(ha:(a==a)=true)(h:Q true s):wpAny (model prog w) A (eqBool a a) Q E s:=by
 unfold eqBool;refine wpAny_holding ?_;rw[P0 ha];exact V4 (wpAny_rule (V3 h))
def Me(a:Q2):(a==a)=true:=beq_self_eq_true a
def yA{b fin:Bool}{Q:Bool->P1->Prop}:∀(l:List Q2)(i:Nat),Q fin s->W.KatLex prog w A b fin Q (l.zip l) i s
 | [],i,h=>W.kat_nil h
 | x::l,i,h=>W.kat_cons (xZ (Me x) (W.kat_yes (yA l (i+1) h)))
end
section
variable {X:Cx}{pins:ZB}{σ:St}{H:Hp}{s:P1}{a:TD}{o:Obj}{kvs:List (aT×V)}
def Ux(t:TS):TS:=λD σ H=>t {nx:=λσ' H2=>∃a kvs o,(∃Q9,H a=some (.dK Q9))/\H2 a=some (.frz o (.dK kvs))/\D.nx σ' (aI H2 a (.dK kvs)),rt:=λ_ _=>False } σ H
def Sg{e:Stmt}{t:TS}(he:PS X e t):PS X e (Ux t):=by
 intro pins s σ H D I h;refine cA (he pins s σ H _ I h) λf s1 q=>?_
 cases f with
 | next=>
  obtain⟨σ',H2,I2,a,kvs,o,⟨Q9,e0⟩,e2,q⟩:=q;refine⟨σ',_,I2.thaw e2 (λo' u' z=>?_),q⟩;have:=I.base.frzs a o' u' z;rw[e0]at this;cases this
 | brk=>obtain⟨_,_,_,q⟩:=q;exact q.elim
 | cont=>obtain⟨_,_,_,q⟩:=q;exact q.elim
 | ret u=>obtain⟨_,_,_,_,_,q⟩:=q;exact q.elim
end
namespace R
section
variable {X:Cx}{tg l:Expr}{tl:TE}{apos cpos:Pos}{e:Stmt}{t:TS}
def jw(h:XS X e t):XS X e (Ux t):=⟨Sg h.h⟩
end
end R
section
variable {X:Cx}{o e f:Expr}{apos cpos:Pos}{td ty tx:TE}
def R.gw{pos:Pos}:XE X (.Dict [] [] pos) Jk:=⟨Jm⟩
end
section
variable {κ:Type} [DecidableEq κ]
def Mf{kvs:List (κ×V)}{k:κ}{v:V}{p:κ×V}(h:p∈bJ kvs k v):p=(k,v)∨(p∈kvs/\p.1≠k):=by
 cases hv:bA kvs k with
 | none=>
  rw[kM v hv]at h;rcases Zma.mp h with h|h
  ·exact .inr ⟨h,λe=>xI hv (e▸Zmm.mpr ⟨p,h,rfl⟩)⟩
  ·exact .inl (Zms.mp h)
 | some x=>
  unfold bJ at h;rw[dC,hv]at h;simp only [Option.isSome_some,if_true]at h;obtain⟨p',GJ,rfl⟩:=Zmm.mp h;by_cases e:p'.1=k
  ·rw[P0 e];left;rw[e]
  ·rw[QZZ e];exact .inr ⟨GJ,e⟩
def Gf{kvs:List (κ×V)}{k:κ}{v:V}(j:κ):j∈(bJ kvs k v).map (·.1)↔j=k∨j∈kvs.map (·.1):=by
 cases hv:bA kvs k with
 | none=>
  rw[kM v hv,dJ,Zma];simp only [map_cons,map_nil,Zms];exact Or.comm
 | some x=>
  have e:(bJ kvs k v).map (·.1)=kvs.map (·.1):=by
   unfold bJ;rw[dC,hv];simp only [Option.isSome_some,if_true,map_map];refine map_congr_left λp _=>?_;simp only [Function.comp];split<;>rfl
  rw[e];exact⟨.inr,λz=>z.elim (λz=>z▸Cf hv) id⟩
def Sh{kvs:List (κ×V)}{k:κ}{v:V}(hn:(kvs.map (·.1)).Nodup):((bJ kvs k v).map (·.1)).Nodup:=by
 cases hv:bA kvs k with
 | none=>exact Qu v hn hv
 | some x=>
  have e:(bJ kvs k v).map (·.1)=kvs.map (·.1):=by
   unfold bJ;rw[dC,hv];simp only [Option.isSome_some,if_true,map_map];refine map_congr_left λp _=>?_;simp only [Function.comp];split<;>rfl
  rw[e];exact hn
end
section
variable {prog:Program}{w:World}{A:Around}{E:XV}{s:P1}{u d:TD}{i n ep:Nat}{od:Obj}{es:Array DictEntry}
def Mg{Q:XV}(lo:(d==sysModules)=false)(g:s.heap.get? d=some od)(ec:od.ExactDict)(gd:od.data=.dict es ep)(q:Q (.ref s.heap.objs.size) {s with heap:=s.heap.push {cls:=.type "dict_keyiterator",data:=.fields #[.ref d,.int 0 0,.int es.size 0,.int ep 0] } }):wpAny (model prog w) A (pyIter (.ref d)) Q E s:=by
 have ty:s.TypeIs (.ref d) "dict":=⟨od,g,ec.1⟩;refine wpAny_pyIter_slot ty PySem.F.slot_dict_iter (wpAny_call_entry PySem.F.slot_dict_iter ty PySem.F.entry_dict_iter ?_ (PySem.F.args_dict_iter_1 _));unfold Builtin.«dict.__iter__»;refine V4 ?_;unfold Builtin.Dict.dictSlotNone;refine V4 (wpAny_notOrdered_dict ty ?_);show wpAny _ _ (pure (Value.ref d)) _ _ s;refine V3 ?_;show wpAny _ _ (Builtin.Dict.showsAll d>>=_) _ _ s;unfold Builtin.Dict.showsAll;rw[QZZ (by rw[lo];exact V2)];refine V4 (V3 (V4 (wpAny_dictEntries g gd (V4 (wpAny_dictEpoch g gd ?_)))));refine V4 (wpAny_newObj_type (V3 ⟨_,rfl,"dict_keyiterator",_,⟨_,TW _ rfl,rfl⟩,PySem.F.slot_dict_keyiterator_next.lookup,?_⟩));simpa [rawInt]using q
def Mh{Q:Option Q2->P1->Prop}(hit:s.heap.IsKeyIter u d i n ep)(g:s.heap.get? d=some od)(gd:od.data=.dict es ep)(hn:es.size=n)(hi:i<es.size)(q:∀h',h'.IsKeyIter u d (i+1) n ep->Heap.SameBut u s.heap h'->Q (some es[i].key) {s with heap:=h' }):wpAny (model prog w) A (pyNext (.ref u)) Q E s:=by
 obtain⟨o,ho,hc,hd⟩:=id hit;have ty:=hit.typeIs;have own:Builtin.Dict_items.ownsTuple "dict_keyiterator"=false:=by decide
 unfold pyNext;refine V4 (wpAny_attempt (wpAny_callSpecial?_slot (name:=Str.ofString "__next__") ty PySem.F.slot_dict_keyiterator_next (wpAny_call_entry PySem.F.slot_dict_keyiterator_next ty PySem.F.entry_dict_keyiterator_next ?_ (PySem.F.args_dict_keyiterator_next_1 _))));refine V4 (V3 (V4 (V4 ?_)))
 first|refine V4 (wpAny_typeNameOfWhole_keyiter ty (V3 (V4 (wpAny_fieldsOf ho hd ?_))))|refine V4 (wpAny_typeNameOf_keyiter ty (V3 (V4 (wpAny_fieldsOf ho hd ?_))))
 simp only [own,Bool.false_eq_true,if_false];show wpAny _ _ (if (Value.ref d==Value.none)=true then _ else _) _ _ s;rw[QZZ (show ¬ ((Value.ref d==Value.none)=true) from V2)];refine V4 (V3 (V4 (wpAny_dictEntries g gd ?_)));rw[QZZ (by rw[hn];simp)];refine V4 (V3 (V4 (wpAny_dictEpoch g gd ?_)));rw[QZZ Zs];refine V3 ?_;simp only [show ¬ ((i:Int)<0) from by omega,if_false,Int.toNat_natCast,Array.getElem?_eq_getElem hi];refine V4 ?_
 first|refine V4 (wpAny_typeNameOfWhole_keyiter ty (V3 (V4 (wpAny_isOneOf_keyiter ty ?_))))|refine V4 (wpAny_typeNameOf_keyiter ty (V3 (V4 (wpAny_isOneOf_keyiter ty ?_))))
 show wpAny _ _ (setField (.ref u) 1 (rawInt ((i:Int)+1))>>=_) _ _ s;refine V4 (wpAny_setField ho hd Zs ?_);have BB:(s.heap.update u (Obj.mapFields (·.setIfInBounds 1 (rawInt ((i:Int)+1))))).IsKeyIter u d (i+1) n ep:=⟨_,Heap.get?_update_self _ ho (Obj.isFreed_of_fields (Obj.data_mapFields hd _)),(Obj.cls_mapFields ..).trans hc,by rw[Obj.data_mapFields hd];simp[rawInt]⟩;refine V4 (wpAny_holding (V4 (wpAny_isOneOf_keyiter (s:={s with heap:=s.heap.update u (Obj.mapFields (·.setIfInBounds 1 (rawInt ((i:Int)+1)))) }) BB.typeIs ?_)));show wpAny _ _ (pure es[i].key) _ _ _;exact V3 (V3 ⟨_,rfl,V3 (q _ BB (Heap.SameBut.update ..))⟩)
def Si{Q:Option Q2->P1->Prop}(hh:A.handled=none)(hit:s.heap.IsKeyIter u d i n ep)(g:s.heap.get? d=some od)(gd:od.data=.dict es ep)(hn:es.size=n)(hi:es.size<=i)(q:∀h',Heap.ExtBut u s.heap h'->Q none {s with heap:=h' }):wpAny (model prog w) A (pyNext (.ref u)) Q E s:=by
 obtain⟨o,ho,hc,hd⟩:=id hit;have ty:=hit.typeIs;have own:Builtin.Dict_items.ownsTuple "dict_keyiterator"=false:=by decide
 unfold pyNext;refine V4 (wpAny_attempt (wpAny_callSpecial?_slot (name:=Str.ofString "__next__") ty PySem.F.slot_dict_keyiterator_next (wpAny_call_entry PySem.F.slot_dict_keyiterator_next ty PySem.F.entry_dict_keyiterator_next ?_ (PySem.F.args_dict_keyiterator_next_1 _))));refine V4 (V3 (V4 (V4 ?_)))
 first|refine V4 (wpAny_typeNameOfWhole_keyiter ty (V3 (V4 (wpAny_fieldsOf ho hd ?_))))|refine V4 (wpAny_typeNameOf_keyiter ty (V3 (V4 (wpAny_fieldsOf ho hd ?_))))
 simp only [own,Bool.false_eq_true,if_false];show wpAny _ _ (if (Value.ref d==Value.none)=true then _ else _) _ _ s;rw[QZZ (show ¬ ((Value.ref d==Value.none)=true) from V2)];refine V4 (V3 (V4 (wpAny_dictEntries g gd ?_)));rw[QZZ (by rw[hn];simp)];refine V4 (V3 (V4 (wpAny_dictEpoch g gd ?_)));rw[QZZ Zs];refine V3 ?_;simp only [show ¬ ((i:Int)<0) from by omega,if_false,Int.toNat_natCast,Array.getElem?_eq_none hi];refine V4 ?_
 first|refine V4 (wpAny_typeNameOfWhole_keyiter ty (V3 ?_))|refine V4 (wpAny_typeNameOf_keyiter ty (V3 ?_))
 show wpAny _ _ (setField (.ref u) 0 .none>>=_) _ _ s;refine V4 (wpAny_setField ho hd Zs ?_);show wpAny _ _ (newExc (.type "StopIteration") []>>=_) _ _ _;refine V4 ?_;simp only [newExc,newTuple];refine V4 (wpAny_newObj_type ?_ (by size_fits));refine V4 (m:=firstArgMember _ _) (wpAny_of_eq (a:=Value.none) (by first|rfl|(simp only [firstArgMember];rfl)) (wpAny_newObj_type ?_ (by size_fits)));simp only [raiseNew];refine V4 (wpAny_handled ?_);rw[show A.in1.handled=none from hh];refine V4 (V3 (wpAny_throw ?_));exact V4 (wpAny_isInstance (T:="StopIteration") (b:=true) ⟨_,TW _ rfl,rfl⟩ isSubtype_stop (V3 (q _ (((Heap.SameBut.update ..).extBut.push _).push _))))
end
@[reducible] def jM:KeyOrd where
 α:=Int
 blt a b:=decide (a<b)
 irrefl a:=by simp
 trans a b c h1 h2:=by simp only [decide_eq_true_eq]at *;omega
 negTrans a b c h:=by simp only [decide_eq_true_eq]at *;omega
 total a b h1 h2:=by simp only [decide_eq_false_iff_not]at *;omega
def yB(h:Heap)(v:Q2)(q:Int×TD):Prop:=∃t rest,v=Value.ref q.2/\IsTup h q.2 (Value.int q.1 t::rest).toArray
def TnsAt(h:Heap):List Q2->List (Int×TD)->Prop
 | [],[]=>True
 | v::vs,q::qs=>yB h v q/\TnsAt h vs qs
 | _,_=>False
def TnsAt.len{h:Heap}:∀ {vs:List Q2}{qs:List (Int×TD)},TnsAt h vs qs->vs.length=qs.length
 | [],[],_=>rfl
 | _::_,_::_,x=>congrArg (·+1) x.2.len
def TnsAt.keep{h h':Heap}(k:∀v q,yB h v q->yB h' v q):∀ {vs:List Q2}{qs:List (Int×TD)},TnsAt h vs qs->TnsAt h' vs qs
 | [],[],_=>True.intro
 | _::_,_::_,x=>⟨k _ _ x.1,x.2.keep k⟩
def TnsAt.get{h:Heap}:∀ {vs:List Q2}{qs:List (Int×TD)} (i:Nat),TnsAt h vs qs->i<vs.length->yB h (vs.getD i Value.none) (qs.getD i ((0:Int),0))
 | v::vs,q::qs,0,x,_=>x.1
 | v::vs,q::qs,i+1,x,hi=>by
  have:=TnsAt.get i x.2 (by simpa using hi);simpa using this
def TnsAt.tups{h:Heap}:∀ {vs:List Q2}{qs:List (Int×TD)},TnsAt h vs qs->∃fs,W.KatTups h vs fs/\fs.length=vs.length/\∀v∈fs,∃x t,v=Value.int x t
 | [],[],_=>⟨[],.nil,rfl,λv hv=>nomatch hv⟩
 | v::vs,q::qs,⟨⟨t,rest,e,o,ho,hc,n,hd⟩,r⟩=>by
  obtain⟨fs,h1,h2,h3⟩:=r.tups;subst e;refine⟨Value.int q.1 t::fs,.cons ho hc hd Zs h1,congrArg (·+1) h2,λv hv=>?_⟩;rcases mem_cons.mp hv with e|hv
  ·exact⟨_,_,e⟩
  ·exact h3 v hv
abbrev jN(qs:List (Int×TD))(i:Nat):jM.α:=(qs.getD i ((0:Int),0)).1
section
variable {prog:Program}{w:World}{A:Around}{E:XV}{s:P1}
def aBt{v v':Q2}{p q:Int×TD}{Q:Bool->P1->Prop}(hx:yB s.heap v p)(hy:yB s.heap v' q)(v7:p.1=q.1->p=q)(h:Q (decide (p.1<q.1)) s) :
  wpAny (model prog w) A (keyLt' (tuples' true) v v') Q E s:=by
 obtain⟨t,rest,rfl,o,ho,_,n,hd⟩:=hx;obtain⟨t',PZ,rfl,o',P2,_,n',vi⟩:=hy;by_cases e:p.1=q.1
 ·have e2:=v7 e;subst e2;rw[ho]at P2;cases P2;refine W.kat_lt ho hd ho hd ?_;have e4:decide (p.1<p.1)=false:=by simpa using Int.lt_irrefl p.1
  rw[e4]at h;refine yA _ 0 ?_;simpa using h
 ·refine W.kat_lt ho hd P2 vi (W.kat_cons (wpAny_eqBool_int (W.kat_go (λe'=>QZY (eq_of_beq e') e) (λ_=>W.kat_no (oneLt_int h)))))
def sQ{a:TD}{vs:List Q2}{qs:List (Int×TD)}{n:Nat}{R:PySem.Fin->P1->Prop}(ho:s.heap.get? a=some (seqObj "list" vs.toArray n))(hp:TnsAt s.heap vs qs)(hn:(qs.map (·.1)).Nodup)(U0:vs.length<64)(h:∀p:Array Nat,Prm vs.length p->Up (O:=jM) (jN qs) p vs.length->R (.done (.ret .none)) {s with heap:=sortedHeap s.heap a vs (p.toList.map λi=>vs.getD i Value.none).toArray }) :
  wpAny (model prog w) A (Builtin.«list.sort» ⟨[.ref a],[]⟩) R E s:=by
 have ha:a<s.heap.objs.size:=Heap.lt_size ho;have ye:vs.toArray.size<=sizeLine:=by rw[eB];exact eI (le_of_lt U0) Zd
 rw[list_sort_plain];apply V4;apply listItems_at ho rfl;apply V4;refine listUpdate_at ho rfl ?_ ye (zero_le _);obtain⟨e1,g1⟩:∃e1,(s.heap.update a (Obj.mapSeq λ_=>(#[]:Array Value))).get? a=some (seqObj "list" #[] e1):=⟨_,get?_update_seq ho λ_=>#[]⟩;apply V4;apply seqEpoch_at g1 rfl;apply V4;refine wpAny_newTuple ?_ (by simpa using ye);apply V4;refine wpAny_newList ?_ (zero_le _);apply wpAny_holding;have g3:(((s.heap.update a (Obj.mapSeq λ_=>(#[]:Array Value))).push (seqObj "tuple" vs.toArray 0)).push (seqObj "list" #[] 0)).get? a=some (seqObj "list" #[] e1):=eG _ (eG _ g1);have kp:∀v q,yB s.heap v q->yB (((s.heap.update a (Obj.mapSeq λ_=>(#[]:Array Value))).push (seqObj "tuple" vs.toArray 0)).push (seqObj "list" #[] 0)) v q:=by
  rintro v q ⟨t,rest,rfl,o,hb,hc,hd⟩;have v7:q.2≠a:=by
   intro z;rw[z]at hb;rw[ho]at hb;cases hb;exact QZY (show(Value.type "list":Q2)=.type "tuple" from hc) Zd
  refine⟨t,rest,rfl,o,eG _ (eG _ ?_),hc,hd⟩;rw[Heap.get?_update_ne _ _ _ _ v7];exact hb
 have Q3:=hp.keep kp;show wpAny (model prog w) A _ R E {s with heap:=((s.heap.update a (Obj.mapSeq λ_=>(#[]:Array Value))).push (seqObj "tuple" vs.toArray 0)).push (seqObj "list" #[] 0) };dsimp only;by_cases h2:vs.toArray.size<2
 ·rw[P0 h2,P0 h2];have x9:vs.length<2:=by simpa using h2
  apply V4;apply V3;rw[StateT.run_pure];apply V4;apply V3;dsimp only;have out:Array.map (λx=>x.2) (arrOf (SortSt.mk' general' (vs.toArray.zip vs.toArray) #[] 7 none))=((List.range vs.length).toArray.toList.map λi=>vs.getD i Value.none).toArray:=by
   show Array.map (λx=>x.2) (vs.toArray.zip vs.toArray)=_;exact(λ(l:List Q2) (q:l.length<2)=>(match l,q with|[],_=>by simp|[_],_=>by simp[range_succ]:Array.map (λx=>x.2) (l.toArray.zip l.toArray)=((List.range l.length).toArray.toList.map λi=>l.getD i Value.none).toArray)) vs x9
  rw[out];have hsz:((List.range vs.length).toArray.toList.map λi=>vs.getD i Value.none).toArray.size<=sizeLine:=by
   rw[eB,aS,List.toList_toArray,List.length_range];exact eI (le_of_lt U0) Zd
  apply V4;apply seqEpoch_at g3 rfl;apply V4;refine listUpdate_at g3 rfl ?_ (zero_le _) (le_succ_of_le hsz);simp only [bne_self_eq_false,Bool.false_eq_true,if_false];refine V3 (h _ (Array.Perm.refl _) λi j x y=>?_);obtain rfl:i=j:=by omega
  exact KeyOrd.kle_refl _
 ·rw[QZZ h2,QZZ h2];have x9:2<=vs.length:=by
   have:¬ vs.length<2:=by simpa using h2
   omega
  obtain⟨fs,t1,t2,t3⟩:=Q3.tups;apply V4;refine W.kat_kind (T:=.type "int") t1 Zo (λv hv=>?_) Zd ?_
  ·obtain⟨x,t,rfl⟩:=t3 v hv;exact W.Looks.of_pure rfl
  have et:tuples' (Value.type "int" != Value.type "tuple")=tuples' true:=by rw[show(Value.type "int" != Value.type "tuple")=true by decide]
  rw[et];have run:=W.kat_run (prog:=prog) (w:=w) (A:=A) (E:=E) (κ:=tuples' true) (ks:=vs) (vs:=vs) (s:={s with heap:=((s.heap.update a (Obj.mapSeq λ_=>(#[]:Array Value))).push (seqObj "tuple" vs.toArray 0)).push (seqObj "list" #[] 0) })
   (Q:=λJ1 s'=>∃p:Array Nat,p.size=vs.length/\arrOf J1=p.map (W.kas_item (vs.toArray.zip vs.toArray))/\failedOf J1=none/\Prm vs.length p/\Up (O:=jM) (jN qs) p vs.length/\s'={s with heap:=((s.heap.update a (Obj.mapSeq λ_=>(#[]:Array Value))).push (seqObj "tuple" vs.toArray 0)).push (seqObj "list" #[] 0) })
   (G:=λp s'=>Prm vs.length p/\Up (O:=jM) (jN qs) p vs.length/\s'={s with heap:=((s.heap.update a (Obj.mapSeq λ_=>(#[]:Array Value))).push (seqObj "tuple" vs.toArray 0)).push (seqObj "list" #[] 0) })
   rfl x9 U0 (λp J1 s' a1 a2 a3 a4=>⟨p,a1,a2,a3,a4⟩) ?_
  ·apply V4;refine wpAny_mono run ?_ λ_ _ e=>e;rintro⟨⟨⟩,J1⟩ s' ⟨p,hz,WS,hf,pp,pu,rfl⟩;dsimp only;have MH:=W.kat_snds rfl WS;rw[MH];have hsz:((p.toList.map λi=>vs.getD i Value.none).toArray).size<=sizeLine:=by
    rw[eB,aS,Array.length_toList,hz];exact eI (le_of_lt U0) Zd
   apply V4;apply seqEpoch_at g3 rfl;apply V4;refine listUpdate_at g3 rfl ?_ (zero_le _) (le_succ_of_le hsz);rw[hf];simp only [bne_self_eq_false,Bool.false_eq_true,if_false];exact V3 (h p pp pu)
  ·refine Ask.wp (lt:=nC (O:=jM) (jN qs)) (n:=vs.length) (λi j C hi hj hC=>?_) _ (Lg Zo λp h1 h2=>⟨h1,h2,rfl⟩);unfold W.kas_ask;refine aBt (Q3.get i hi) (Q3.get j hj) (λe=>?_) hC;have hl:=hp.len;have ei:qs.getD i ((0:Int),0)=qs[i]'Zo:=by simp[List.getD,eZ (show i<qs.length by omega)]
   have ej:qs.getD j ((0:Int),0)=qs[j]'Zo:=by simp[List.getD,eZ (show j<qs.length by omega)]
   rw[ei,ej]at e ⊢;have yf:i=j:=(List.getElem_inj (xs:=qs.map (·.1)) (h₀:=by rw[aS];omega) (h₁:=by rw[aS];omega) hn).mp (by simpa using e);subst yf;rfl
def As{l:TD}{o:Obj}{vs:List Q2}{qs:List (Int × Addr)}{n:Nat}{Q:XV}(ho:s.heap.get? l=some o)(hc:o.cls=.type "list")(hd:o.data=.seq vs.toArray n)(hp:TnsAt s.heap vs qs)(hn:(qs.map (·.1)).Nodup)(U0:vs.length<64)(h:∀(h1 h':Heap)(p:Array Nat)(e:Nat),(∀b ob,s.heap.get? b=some ob->h1.get? b=some ob)->(∀b ob,h1.get? b=some ob->h'.get? b=some ob)->h'.get? h1.objs.size=some (seqObj "list" (p.toList.map λi=>vs.getD i Value.none).toArray e) →
   Prm vs.length p->Up (O:=jM) (jN qs) p vs.length->Q (.ref h1.objs.size) {s with heap:=h' }) :
  wpAny (model prog w) A (call (.builtin "sorted") [.ref l]) Q E s:=by
 apply Calls.call_function_entry kind_sorted plain_sorted entry_sorted (args_sorted1 _);unfold Builtin.«sorted»;apply V4 (m:=checkCount "sorted" 1 1 _);apply V3;apply V4;refine wpAny_collect_seq l (.inl rfl) ho hc hd (λh1 k1=>?_) (by rw[eB];exact eI (le_of_lt U0) Zd);have e1:vs.toArray.toList=vs:=by simp
 rw[e1];apply V4;apply wpAny_newList
 ·have g2:(h1.push (seqObj "list" vs.toArray 0)).get? h1.objs.size=some (seqObj "list" vs.toArray 0):=TW _ rfl;have C5:TnsAt (h1.push (seqObj "list" vs.toArray 0)) vs qs:=hp.keep λv q ⟨t,rest,e,ob,x1,x2⟩=>⟨t,rest,e,ob,eG _ (k1 _ _ x1),x2⟩
  apply V4;apply wpAny_holding;refine wpAny_call_entry slot_list_sort ⟨_,g2,rfl⟩ entry_list_sort (sQ (s:={s with heap:=h1.push (seqObj "list" vs.toArray 0) }) g2 C5 hn U0 λp q1 q2=>⟨_,rfl,V3 ⟨_,rfl,?_⟩⟩) (args_list_sort _);obtain⟨e,he⟩:=sortedHeap_at (out:=(p.toList.map λi=>vs.getD i Value.none).toArray) g2;refine h h1 _ p e k1 (λb ob yb=>?_) he q1 q2;have q9:=Heap.lt_size yb;rw[sortedHeap_old (ne_of_lt q9) (by rw[size_push'];exact lt_succ_of_lt q9)];exact eG _ yb
 ·exact eI (le_of_lt U0) Zd
end
abbrev Tn:=Int×TD×List V
def tln(x y:Tn):Prop:=x.1<=y.1
def NAt(H:Hp)(zs:List Tn):Prop:=∀z∈zs,H z.2.1=some (.tup (.int z.1::z.2.2))
def pN(zs:List Tn):List V:=zs.map λz=>V.ref z.2.1
section
variable {X:Cx}{pins:ZB}{σ:St}{H:Hp}{s:P1}
def Mi(I:Inv X pins σ H s):∀ {zs:List Tn}{vs:List Q2},NAt H zs->Vals (pN zs) vs->TnsAt s.heap vs (zs.map (λz=>(z.1,z.2.1)))
 | [],[],_,_=>True.intro
 | z::zs,v::vs,hz,.cons r rs=>by
  have e:=hz z eV;obtain⟨_,its,r1,it⟩:=(show ObjOk X.prog X.w H s.heap z.2.1 (.tup (.int z.1::z.2.2)) from I.hok _ _ e);cases r;refine⟨?_,Mi I (λy hy=>hz y (iV _ hy)) rs⟩
  cases r1 with
  | cons a1 r2=>
   obtain⟨t,rfl⟩:=a1;exact⟨t,_,rfl,it⟩
def qZ(K:W.Frag):List V->Hp->VK->Prop:=λvs H Q=>match vs with
 | [.ref a]=>∃zs:List Tn,SqL K H a (pN zs)/\NAt H zs/\(zs.map (·.1)).Nodup/\zs.length<64/\∀l P4,H l=none->P4.Perm zs->P4.Pairwise tln->Q (.ref l) (aI H l (.lst (pN P4)))
 | _=>False
def Gg:CallR X (.builtin "sorted") (qZ X.K):=by
 intro pins s σ H xs us Q I r h;unfold qZ at h;split at h
 ·rename_i a;obtain⟨zs,hq,hz,zf,U0,q⟩:=h;obtain⟨u,rfl,ru⟩:=jA r;cases ru;obtain⟨its,r1,p1,_⟩:=I.list hq;obtain⟨o,ho,hc,n,hd⟩:=p1.isList;have hl:its.length=zs.length:=by
   have:=r1.length;unfold pN at this;rw[aS]at this;exact this.symm
  have hp:=Mi I hz r1;refine As ho hc hd hp (by rw[map_map];exact zf) Zo λh1 h' p e k1 k he pp pu=>?_;have I1:=I.kept (t':=s.toks) k1;have WU:∀i∈p.toList,i<zs.length:=λi hi=>by
   have:=(Array.perm_iff_toList_perm.mp pp).mem_iff.mp hi;rw[<- hl];simpa using this
  have e1:(p.toList.map λi=>zs.getD i ((0:Int),0,[])).Perm zs:=by
   have e2:(List.range zs.length).map (λi=>zs.getD i ((0:Int),0,[]))=zs:=by
    apply ext_getElem
    ·simp
    ·intro i h1 h2;simp[List.getD,eZ h2]
   have e3:=(Array.perm_iff_toList_perm.mp pp).map (λi=>zs.getD i ((0:Int),0,[]));rw[List.toList_toArray,hl,e2]at e3;exact e3
  have hsz:p.size=zs.length:=by rw[pp.size,hl]
  refine⟨.ref h1.objs.size,_,I1.laid (t':=s.toks) (o:=.lst (pN (p.toList.map λi=>zs.getD i ((0:Int),0,[])))) k (aY _) ⟨?_,(p.toList.map λi=>its.getD i Value.none),e,?_,he⟩,rfl,q _ _ (I1.hok.fresh (aY _)) e1 ?_⟩
  ·unfold pN;rw[aS,aS,Array.length_toList,hsz];exact eI (le_of_lt U0) Zd
  ·unfold pN;rw[map_map];refine xP λi hi=>?_
   have K8:=WU i hi;refine lG i r1 (by unfold pN;rw[aS];exact K8) _ ?_;unfold pN;rw[fA,eZ K8];simp[List.getD,eZ K8]
  ·rw[pairwise_iff_getElem];intro i j hi hj yf;rw[aS,Array.length_toList]at hi hj;have hu:=pu i j (le_of_lt yf) Zo;unfold tln;have key:∀k,k<p.size->(zs.getD (p.getD k 0) ((0:Int),0,[])).1=kg (O:=jM) (jN (zs.map (λz=>(z.1,z.2.1)))) p k:=λk hk=>by
    have Q4:p.getD k 0<zs.length:=by rw[<- hl];exact pp.lt (by rw[hl,<- hsz];exact hk)
    unfold kg jN;generalize p.getD k 0=i' at Q4;simp[List.getD,eZ Q4]
   have gi:∀k (hk:k<(p.toList.map λi=>zs.getD i ((0:Int),0,[])).length),(p.toList.map λi=>zs.getD i ((0:Int),0,[]))[k]=zs.getD (p.getD k 0) ((0:Int),0,[]):=λk hk=>by
    have Q4:k<p.size:=by simpa using hk
    simp[Array.getD,Q4]
   rw[gi,gi,key i Zo,key j Zo];have WV:decide ((kg (O:=jM) (jN (zs.map (λz=>(z.1,z.2.1)))) p j:Int)<(kg (O:=jM) (jN (zs.map (λz=>(z.1,z.2.1)))) p i:Int))=false:=hu;exact Int.not_lt.mp (UF WV)
 ·exact h.elim
def R.ia{K:W.Frag}(hK:X.K=K:=by rfl):XC X (.builtin "sorted") (qZ K):=hK▸⟨Gg⟩
end
structure FzT(o:Obj)(es:Array DictEntry)(ep:Nat)(bs:List TD):Prop where
 ex:o.ExactDict
 dat:o.data=.dict es ep
 keys:es.toList.map (·.key)=bs.map Value.ref
def FzT.size{o:Obj}{es:Array DictEntry}{ep:Nat}{bs:List TD}(f:FzT o es ep bs):es.size=bs.length:=by
 have:=congrArg length f.keys;rw[aS,aS,Array.length_toList]at this;exact this
def FzT.at{o:Obj}{es:Array DictEntry}{ep:Nat}{bs:List TD}(f:FzT o es ep bs){i:Nat}(hi:i<es.size):∃hb:i<bs.length,es[i].key=Value.ref bs[i]:=by
 have hb:i<bs.length:=by rw[<- f.size];exact hi
 refine⟨hb,?_⟩;have h1:(es.toList.map (·.key))[i]?=some es[i].key:=by rw[fA,Array.getElem?_toList,Array.getElem?_eq_getElem hi];rfl
 rw[f.keys,fA,eZ hb]at h1;exact(Option.some.inj h1).symm
def Yw(a:TD)(o:Obj)(kvs:List (List aT×V))(bs:List TD):It:=
 ⟨λi H=>H a=some (.frz o (.dT kvs))/\i<bs.length,λi H x H'=>H'=H/\(bs.map V.ref)[i]?=some x,λi H=>H a=some (.frz o (.dT kvs))/\bs.length<=i⟩
def Yx(a:TD)(o:Obj)(kvs:List (List aT×V))(bs:List TD):sO (Yw a o kvs bs) (bs.map V.ref) (λH=>H a=some (.frz o (.dT kvs))):=
 ⟨λi H hi e=>⟨e,by rwa [aS]at hi⟩,λi H x H' _ _ y=>y,λH e=>⟨e,by rw[aS];exact aY _⟩⟩
section
variable {X:Cx}{pins:ZB}{σ:St}{H:Hp}{s:P1}{a:TD}{o:Obj}{kvs:List (List aT×V)}
def nG{P:Program}{w:World}{h:Heap}(ok:HOk P w H h)(e:H a=some (.frz o (.dT kvs))):h.get? a=some o:=
 (show ObjOk P w H h a (.frz o (.dT kvs)) from ok a _ e).1
def Sj{P:Program}{w:World}{K:W.Frag}{tg:Expr}(a it:TD){es:Array DictEntry}{ep:Nat}{bs:List TD}(f:FzT o es ep bs):pK P w K tg (Yw a o kvs bs) [it] it (λi h=>h.IsKeyIter it a i bs.length ep) where
 mem:=by simp
 obj:=λi h st b hb=>by
  obtain rfl:b=it:=by simpa using hb
  obtain⟨ob,e,c,d⟩:=st;exact⟨ob,e,λv z=>by rw[d]at z;cases z⟩
 keep:=λi h h' st k=>st.at λob e=>k it Zs ob e
 item:=by
  intro X hP hw hK hc i pins s σ H E I hf st hg;subst hP hw hK;obtain⟨ef,hi⟩:=hg;have h1:=nG I.hok ef;obtain⟨f0,f1,f2,f3,f4,f5⟩:=hf it Zs;have K8:i<es.size:=by rw[f.size];exact hi
  obtain⟨hb,hk⟩:=f.at K8;refine Mh st h1 f.dat f.size K8 λh' J1 sb=>?_;have I1:Inv X pins σ H {s with heap:=h' }:=I.turned (t':=s.toks) (λb ob hb e=>(sb.2 b hb).trans e) f0 f1 f3 f4 f5;obtain⟨ob,e,c,d⟩:=id J1;rw[hk];refine⟨_,rfl,oZ (s:={s with heap:=h' }) e c d Zd ⟨.ref bs[i],H,I1,rfl,⟨rfl,?_⟩,J1,λb hb=>(hf b hb).1⟩⟩;rw[fA,eZ hb];rfl
 done:=by
  intro X hP hw hK hc i pins s σ H E I hf st hg;subst hP hw hK;obtain⟨ef,hi⟩:=hg;have h1:=nG I.hok ef;obtain⟨f0,f1,f2,f3,f4,f5⟩:=hf it Zs;exact Si (I.ok.hd hc) st h1 f.dat f.size (by rw[f.size];exact hi) λh' eb=>⟨rfl,I.turned (t':=s.toks) (λb ob hb e=>eb b ob hb e) f0 f1 f3 f4 f5⟩
 self:=λ_ _ _ _ _ st h=>wpAny_pyIter_keyiter st h
def Inv.freezeT(I:Inv X pins σ H s)(e:H a=some (.dT kvs)):∃(ob:Obj)(es:Array DictEntry)(ep:Nat)(bs:List TD),s.heap.get? a=some ob/\FzT ob es ep bs/\bs.length=kvs.length/\(∀(i:Nat)(b:TD),bs[i]?=some b->∃p:List aT×V,kvs[i]?=some p/\H b=some (.tup (p.1.map kV)))/\(a==sysModules)=false/\Inv X pins σ (aI H a (.frz ob (.dT kvs))) s:=by
 obtain⟨z,hd,xs,rel,ob,es,ep,g,h2,h3,h4,h5⟩:=(show ObjOk X.prog X.w H s.heap a (.dT kvs) from I.hok a _ e);refine⟨ob,es,ep,xs.map (·.2.1),g,⟨h2,h3,?_⟩,?_,λi b hb=>?_,hd,?_⟩
 ·rw[h4,map_map,map_map];rfl
 ·rw[aS];exact(Paired.length rel).symm
 ·rw[fA]at hb;obtain⟨x,hx,rfl⟩:=Option.map_eq_some_iff.mp hb;have hi:i<xs.length:=(Zgs.mp hx).1;obtain⟨h2,_,hr,_⟩:=Paired.get' (j:=i) rel hi;have e1:xs[i]=x:=(Zgs.mp hx).2;rw[e1]at hr;exact⟨kvs[i],eZ h2,hr⟩
 ·have kt:∀b ys,H b=some (.tup ys)->(aI H a (.frz ob (.dT kvs))) b=some (.tup ys):=λb ys q=>by rw[aB (cV q e nofun)];exact q
  exact I.write (t':=s.toks) (h':=s.heap) (x:=a) (e:=a) (o:=.frz ob (.dT kvs)) (by rw[e];exact True.intro) (.inl rfl) (λb u _ q=>q) ⟨ob,g⟩ ⟨g,z,hd,xs,KT.keeps rel kt,ob,es,ep,g,h2,h3,h4,h5⟩
def Inv.thawT(I:Inv X pins σ H s)(e:H a=some (.frz o (.dT kvs)))(hn:∀o' u,X.H₀ a≠some (.frz o' u)):Inv X pins σ (aI H a (.dT kvs)) s where
 ok:=I.ok
 os:=I.os
 bare:=I.bare
 base:=by
  have na:∀b,H b=none->b≠a:=λb z q=>by rw[q,e]at z;cases z
  refine⟨I.base.keep,I.base.slot,λb ob q n hx=>?_,I.base.there,λb xs q=>?_,λb ob u q=>?_,λb ps q=>?_⟩
  ·have:=I.base.free b ob q n hx;rw[aB (na b this)];exact this
  ·have:=I.base.tups b xs q;rw[aB (cV this e nofun)];exact this
  ·have:=I.base.frzs b ob u q;by_cases hb:b=a
   ·subst hb;exact QZY q (hn ob u)
   ·rw[aB hb];exact this
  ·obtain⟨more,q2⟩:=I.base.tbls b ps q;exact⟨more,by rw[aB (cV q2 e nofun)];exact q2⟩
 loc:=I.loc
 cell:=I.cell
 free:=by
  have z:=I.free;rw[aB (λq=>by rw[q,e]at z;cases z)];exact z
 freeC:=λx c h=>by
  have z:=I.freeC x c h;rw[aB (λq=>by rw[q,e]at z;cases z)];exact z
 pin:=λp hp=>by
  obtain⟨p1,p2,p3⟩:=I.pin p hp;refine⟨p1,?_,p3⟩;rw[aB (λq=>by rw[q,e]at p2;cases p2)];exact p2
 hok:=by
  intro b u hb;have st:∀ {c:TD}{v:HO},ObjOk X.prog X.w H s.heap c v->ObjOk X.prog X.w (aI H a (.dT kvs)) s.heap c v:=λx=>x.stay (λc v _ h=>h) (λc h=>by rw[aB (cV h e nofun)];exact h) λc xs h=>by rw[aB (cV h e nofun)];exact h
  by_cases q:b=a
  ·subst q;rw[aA]at hb;cases hb;exact st (show ObjOk X.prog X.w H s.heap b (.frz o (.dT kvs)) from I.hok b _ e).2
  ·rw[aB q]at hb;exact st (I.hok b u hb)
 len:=I.len
def Uy(te:TE):TI:=λσ H R=>te σ H λx H1=>mR x λa=>∃kvs,H1 a=some (.dT kvs)/\∀(o:Obj)(bs:List TD),bs.length=kvs.length->(∀(i:Nat)(b:TD),bs[i]?=some b->∃p:List aT×V,kvs[i]?=some p/\H1 b=some (.tup (p.1.map kV)))->R (Yw a o kvs bs) (aI H1 a (.frz o (.dT kvs)))
def Sk{tg l:Expr}{tl:TE}(hl:PE X l tl):PI X tg l (Uy tl):=by
 intro pins s σ H R I h;refine cA (hl pins s σ H _ I h) ?_;rintro v s1 ⟨x,H1,I1,r1,q1⟩
 (try dsimp only at q1);rw[dD]at q1;obtain⟨a,rfl,kvs,e,q⟩:=q1;cases r1;obtain⟨ob,es,ep,bs,g,f,ue,hb,lo,I2⟩:=I1.freezeT e;have hn:(aI H1 a (.frz ob (.dT kvs))) s1.heap.objs.size=none:=I2.hok.fresh (aY _);refine Mg lo g f.ex f.dat ?_;refine⟨s1.heap.objs.size,[s1.heap.objs.size],_,_,_,rfl,I2.kept (t':=s1.toks) λb o e=>eG _ e,Sj a _ f,⟨_,TW _ rfl,rfl,?_⟩,λb hb=>?_,q ob bs ue hb⟩
 ·rw[f.size];rfl
 ·obtain rfl:b=s1.heap.objs.size:=by simpa using hb
  exact I2.fpOk (aY _) hn
def Mj(t:TE):TE:=λσ H Q=>t σ H λv H2=>∃a kvs o,(∃Q9,H a=some (.dT Q9))/\H2 a=some (.frz o (.dT kvs))/\Q v (aI H2 a (.dT kvs))
def Ml{e:Expr}{t:TE}(he:PE X e t):PE X e (Mj t):=by
 intro pins s σ H Q I h;refine cA (he pins s σ H _ I h) λu s1 ⟨v,H2,I2,rv,a,kvs,o,⟨Q9,e0⟩,e2,q⟩=>⟨v,_,I2.thawT e2 (λo' u' z=>?_),rv,q⟩
 have:=I.base.frzs a o' u' z;rw[e0]at this;cases this
end
namespace R
section
variable {X:Cx}{tg l e1:Expr}{tl te:TE}{e:Stmt}{t:TS}
def ki(hl:XE X l tl):XI X tg l (Uy tl):=⟨Sk hl.h⟩
def jk(h:XE X e1 te):XE X e1 (Mj te):=⟨Ml h.h⟩
end
end R
section
variable {X:Cx}
def vZ{α:Type}(xs:List α)(k:Nat)(x:α):List α:=xs.take k++[x]++xs.drop k
def Cv:V->List V->Hp->VK->Prop:=λx vs H Q=>∃(l:TD)(xs:List V)(k:Nat)(y:V),x=.ref l/\vs=[.int (k:Int),y]/\H l=some (.lst xs)/\k<=xs.length/\xs.length<1000/\Q .non (aI H l (.lst (vZ xs k y)))
def Mm{k:Nat}(h:k<1000):¬ (!Builtin.List.listFitsIndex (k:Int))=true:=by
 have e1:-(2^63)<=(k:Int):=by omega
 have e2:(k:Int)<2^63:=by omega
 rw[fitsIndex_both e1 e2];exact V2
def uB:∀ {xs:List V}{its:List Q2} (k:Nat),Vals xs its->Vals (xs.take k) (its.take k)
 | _,_,0,_=>by simp;exact .nil
 | _,_,k+1,.nil=>by simp;exact .nil
 | _,_,k+1,.cons h t=>by rw[List.take_succ_cons,List.take_succ_cons];exact .cons h (uB k t)
def uC:∀ {xs:List V}{its:List Q2} (k:Nat),Vals xs its->Vals (xs.drop k) (its.drop k)
 | _,_,0,h=>by simpa using h
 | _,_,k+1,.nil=>by simp;exact .nil
 | _,_,k+1,.cons h t=>by rw[List.drop_succ_cons,List.drop_succ_cons];exact uC k t
def Yy{s:P1}{A:Around}{E:XV}{prog:Program}{w:World}{l:TD}{its:List Q2}{n:Nat}{k:Int}{t:Tok}{u2:Q2}{Q:XV}(e:s.heap.get? l=some {cls:=.type "list",data:=.seq its.toArray n })(f1:¬ (!Builtin.List.listFitsIndex k)=true)(f2:its.toArray.size<=sizeLine)(q:Q .none {s with heap:=s.heap.update l (Obj.mapSeq λxs=>have k:=if k<0 then (k+(xs.size:Int)).toNat else min k.toNat xs.size;(xs.extract 0 k).push u2++xs.extract k),toks:=s.toks }) :
  wpAny (model prog w) A (call (.builtin "list.insert") [.ref l,.int k t,u2]) Q E s:=by
 have M:=AutoSeq1.list_insert_list_int_val_1 l its.toArray n k t u2 f1 f2;exact call_meets PySem.F.slot_list_insert ⟨_,e,rfl⟩ PySem.F.entry_list_insert (PySem.F.args_list_insert_3 _ _ _) M ⟨e,q⟩
def Gh:MtM X "list.insert" Cv:=by
 intro pins s σ H x vs v us Q I rx rv h;obtain⟨l,xs,k,y,rfl,rfl,hH,hk,hz,q⟩:=h;cases rx;obtain⟨u1,u2,rfl,WX,WY⟩:=rv.two;obtain⟨t,rfl⟩:=WX;obtain⟨z,its,n,r,hl,e⟩:=I.lstM hH;have hlen:(vZ xs k y).length=xs.length+1:=by unfold vZ;simp;omega
 have hv:Vals (vZ xs k y) (vZ its k u2):=by
  unfold vZ;exact((uB k r).append (.cons WY .nil)).append (uC k r)
 have hle:(vZ xs k y).length<=sizeLine:=gB (by rw[hlen];omega);refine Yy e (Mm (nS hk hz)) (by rw[eB,<- hl];exact z) ?_;refine⟨.non,_,I.lset (its':=vZ its k u2) hH e ?_ hv hle,rfl,q⟩;have h0:¬ ((k:Int)<0):=by omega
 have h1:min (k:Int).toNat its.toArray.size=k:=by rw[eB,<- hl];simp;omega
 simp only [h0,if_false,h1];unfold vZ;simp;exact iB Zs
def R.iz:XM X "list.insert" Cv:=⟨Gh⟩
end
section
open PySem.MeetsSeq PySem.SeqAt
def sR(l:TD)(items:Array Value)(n:Nat)(x:Q2)(e:Q2->Bool)(j:Nat)(hj:j<items.size)(hit:e items[j]=true)(k:Nat)(ye:items.size<=sizeLine) :
  ∀i:Nat,j-i=k->i<=j->(∀m (hm:m<items.size),i<=m->m<j->e items[m]=false)->Meets (Builtin.«list.remove.loop» ⟨[.ref l,x,rawInt i],[]⟩)
   (λA R s=>s.heap.get? l=some {cls:=.type "list",dict:=none,data:=.seq items n,slots:=#[] }/\(∀y,y∈items->EqAt A.in1 s y x (e y))/\R (.ok (.ret .none)) {s with heap:=s.heap.update l (Obj.mapSeq λxs=>xs.eraseIdxIfInBounds j) }):=by
 induction k with
 | zero=>
  intro i hk yf rb prog w A R s h;obtain⟨hp,g,d,tk,os⟩:=s;obtain⟨hl,he,h⟩:=h;obtain rfl:i=j:=by omega
  wp_walk using AutoSeq1.wpAny_loadPart' hl
  rw[show items[((i:Nat):Int).toNat]?=some items[i] by simp[hj]];refine V4 (he _ (Array.getElem_mem hj) prog w _ _ ?_);rw[hit];have GK:(items.eraseIdxIfInBounds i).size<=sizeLine+1:=eI (size_erased items _) (le_succ_of_le ye)
  wp_walk using (wpAny_updateSeq hl rfl (hz:=ye) (_hz':=GK)),AutoSeq1.wpAny_loadPart' hl
  simpa using h
 | succ k ih=>
  intro i hk yf rb prog w A R s h;obtain⟨hp,g,d,tk,os⟩:=s;obtain⟨hl,he,h⟩:=h;have q9:i<items.size:=by omega
  wp_walk using AutoSeq1.wpAny_loadPart' hl
  have hc:((i:Int)+1)=((i+1:Nat):Int):=by push_cast;rfl
  rw[show items[((i:Nat):Int).toNat]?=some items[i] by simp[q9]];refine V4 (he _ (Array.getElem_mem q9) prog w _ _ ?_);rw[rb i q9 (aY _) Zo]
  wp_walk
  rw[hc];exact⟨plainId_quiet plain_remove_loop _,codeAny_builtin entry_remove_loop (by
   rw[Around.under_plainId plain_remove_loop _];exact ih (i+1) Zo Zo (λm hm h1 h2=>rb m hm Zo h2) prog w A R _ ⟨hl,he,h⟩)⟩
def sU(l:TD)(items:Array Value)(n:Nat)(x:Q2)(e:Q2->Bool)(j:Nat)(hj:j<items.size)(hit:e items[j]=true)(rb:∀m (hm:m<items.size),m<j->e items[m]=false)(ye:items.size<=sizeLine) :
  Meets (Builtin.«list.remove» ⟨[.ref l,x],[]⟩)
   (λA R s=>s.heap.get? l=some {cls:=.type "list",dict:=none,data:=.seq items n,slots:=#[] }/\(∀y,y∈items->EqAt A.in1 s y x (e y))/\R (.ok (.ret .none)) {s with heap:=s.heap.update l (Obj.mapSeq λxs=>xs.eraseIdxIfInBounds j) }):=by
 intro prog w A R s h;obtain⟨hp,g,d,tk,os⟩:=s;obtain⟨hl,he,h⟩:=h
 wp_walk using AutoSeq1.wpAny_loadPart' hl
 exact⟨plainId_quiet plain_remove_loop _,codeAny_builtin entry_remove_loop (by
  rw[Around.under_plainId plain_remove_loop _];exact sR l items n x e j hj hit _ ye 0 rfl (zero_le _) (λm hm _ h2=>rb m hm h2) prog w A R _ ⟨hl,he,h⟩)⟩
end
def EQ(H:Hp)(u v:V):Prop:=(eW u=true/\eW v=true)∨∃b b' ps qs,u=.ref b/\v=.ref b'/\H b=some (.tup ps)/\H b'=some (.tup qs)/\∀(j:Nat)(x y:V),ps[j]?=some x->qs[j]?=some y->eW x=true/\eW y=true
section
variable {X:Cx}{pins:ZB}{σ:St}{H:Hp}{s:P1}
def EQ.at{A:Around}{x y:V}{u v:Q2}(hu:A.units<cLine)(I:Inv X pins σ H s)(rx:RelV x u)(ry:RelV y v)(h:EQ H x y):∃b,SeqAt.EqAt A s u v b:=by
 rcases h with⟨f1,f2⟩|⟨b,b',ps,qs,rfl,rfl,g1,g2,fl⟩
 ·exact⟨_,qK rx ry f1 f2⟩
 ·cases rx;cases ry;by_cases e:b=b'
  ·subst e;exact⟨true,SeqAt.EqAt.same _⟩
  ·obtain⟨its,ri,ti,_⟩:=I.tuple (QYM g1);obtain⟨a9,W6,rh,_⟩:=I.tuple (QYM g2);have each:∀j (h1:j<its.toArray.size) (h2:j<a9.toArray.size),SeqAt.EqAt A.in1 s its.toArray[j] a9.toArray[j] (zP (ps.getD j .non) (qs.getD j .non)):=λj h1 h2=>by
    rw[eB]at h1 h2;obtain⟨G9,q1⟩:=Paired.get' (j:=j) ri h1;obtain⟨M1,q2⟩:=Paired.get' (j:=j) W6 h2;obtain⟨f1,f2⟩:=fl j ps[j] qs[j] (eZ G9) (eZ M1);have e1:ps.getD j .non=ps[j]:=by simp[List.getD,G9]
    have e2:qs.getD j .non=qs[j]:=by simp[List.getD,M1]
    rw[e1,e2];simpa using qK q1 q2 f1 f2
   exact⟨_,.of_refs e (SeqAt.RcAt.tuples ti rh hu each)⟩
def yC{A:Around}{c a:TD}{n m:Int}{xs ys:List V}(hu:A.units+1<cLine)(I:Inv X pins σ H s)(v7:c≠a)(g1:H c=some (.lst (.int n::xs)))(g2:H a=some (.lst (.int m::ys)))(EB:n≠m)(hl:xs.length=ys.length)(h:∀(j:Nat)(u v:V),xs[j]?=some u->ys[j]?=some v->EQ H u v):SeqAt.EqAt A s (.ref c) (.ref a) false:=by
 obtain⟨its,ri,ti,_⟩:=I.list (QYL g1);obtain⟨a9,W6,rh,_⟩:=I.list (QYL g2);have vj:its.length=xs.length+1:=ri.length.symm;have vt:a9.length=ys.length+1:=W6.length.symm;have es:its.toArray.size=a9.toArray.size:=by rw[eB,eB];omega
 have each:∀j:Nat,∃b,(j=0->b=false)/\∀(h1:j<its.toArray.size)(h2:j<a9.toArray.size),SeqAt.EqAt A.in1 s its.toArray[j] a9.toArray[j] b:=λj=>by
  by_cases h1:j<its.length
  ·have h2:j<a9.length:=by omega
   obtain⟨G9,q1⟩:=Paired.get' (j:=j) ri h1;obtain⟨M1,q2⟩:=Paired.get' (j:=j) W6 h2
   cases j with
   | zero=>
    have key:=qK (A:=A.in1) (s:=s) q1 q2 rfl rfl;rw[show zP ((V.int n::xs)[0]) ((V.int m::ys)[0])=false from T0 EB]at key;exact⟨false,λ_=>rfl,λ_ _=>by simpa using key⟩
   | succ j=>
    have WZ:RelV (xs[j]'(by simpa using G9)) its[j+1]:=q1;have XD:RelV (ys[j]'(by simpa using M1)) a9[j+1]:=q2;obtain⟨b,hb⟩:=EQ.at (A:=A.in1) (by show A.units+1<cLine;exact hu) I WZ XD (h j _ _ (eZ _) (eZ _));exact⟨b,λe=>QZY e Zo,λ_ _=>by simpa using hb⟩
  ·exact⟨false,λ_=>rfl,λh _=>QZY (by simpa using h) h1⟩
 obtain⟨e,he⟩:=Classical.axiomOfChoice each;have key:=SeqAt.EqAt.of_refs v7 (SeqAt.RcAt.lists (A:=A) (s:=s) (e:=e) ti.isList rh.isList es Zo (λj h1 h2=>(he j).2 h1 h2));have ef:(List.range its.toArray.size).all e=false:=by
  rw[eB,vj];rw[List.all_eq_false];exact⟨0,mem_range.mpr Zo,by rw[(he 0).1 rfl];decide⟩
 rw[ef]at key;exact key
end
def kU:V->List V->Hp->VK->Prop:=λx vs H Q=>match x,vs with
 | .ref l,[.ref a]=>∃(us:List TD)(j:Nat),H l=some (.lst (us.map V.ref))/\us[j]?=some a/\us.Nodup ∧
  (∀c∈us,c≠a->∃n m xs ys,H c=some (.lst (.int n::xs))/\H a=some (.lst (.int m::ys))/\n≠m/\xs.length=ys.length/\∀(j:Nat)(u v:V),xs[j]?=some u->ys[j]?=some v->EQ H u v) ∧
  Q .non (aI H l (.lst ((us.eraseIdx j).map V.ref)))
 | _,_=>False
def rA:∀(ss:List TD)(j:Nat),(ss.eraseIdx j).map V.ref=(ss.map V.ref).eraseIdx j
 | [],j=>by simp
 | s::r,0=>by simp
 | s::r,j+1=>by
  rw[eraseIdx_cons_succ,map_cons,map_cons,eraseIdx_cons_succ,rA r j]
def Au{X:Cx}(hu:X.A.units+64<cLine):MtM X "list.remove" kU:=by
 intro pins s σ H x vs v us0 Q I rx rv h;unfold kU at h;split at h
 ·rename_i l a;obtain⟨us,j,hl,hj,nd,ne,q⟩:=h;cases rx;obtain⟨u,rfl,ru⟩:=rv.one;cases ru;obtain⟨z0,its,n,r,PK,e⟩:=I.lstM hl;rw[aS]at PK;have XF:j<us.length:=(Zgs.mp hj).1;have at_:∀(m:Nat)(hm:m<its.length),∃J3:m<us.length,its[m]=Value.ref us[m]:=λm hm=>by
   have J3:m<us.length:=by omega
   have rv:RelV (V.ref us[m]) (its.getD m Value.none):=lG m r (by rw[aS];exact J3) _ (by rw[fA,eZ J3];rfl);have e1:its.getD m Value.none=its[m]:=by rw[getD_eq_getElem?_getD,eZ hm];rfl
   rw[e1]at rv;exact⟨J3,rv⟩
  refine call_meets PySem.F.slot_list_remove ⟨_,e,rfl⟩ PySem.F.entry_list_remove (PySem.F.args_list_remove_2 _ _)
   (sU l its.toArray n (.ref a) (λy=>y==Value.ref a) j (by simp;omega) ?_ ?_ (by rw[eB];rw[aS]at z0;omega)) ⟨e,?_,?_⟩
  ·obtain⟨J3,ej⟩:=at_ j Zo;simp only [List.getElem_toArray];rw[ej,(Zgs.mp hj).2];exact beq_self_eq_true _
  ·intro m hm q9;have nt:m<its.length:=by simpa using hm
   obtain⟨J3,ej⟩:=at_ m nt;simp only [List.getElem_toArray];rw[ej];refine beq_eq_false_iff_ne.mpr λh=>?_
   injection h with h
   exact(pairwise_iff_getElem.mp nd) m j J3 XF q9 (h.trans (Zgs.mp hj).2.symm)
  ·intro y hy;obtain⟨m,hm,rfl⟩:=getElem_of_mem (show y∈its by simpa using hy);obtain⟨J3,ej⟩:=at_ m hm;rw[ej];by_cases ea:us[m]=a
   ·rw[ea,beq_self_eq_true];exact SeqAt.EqAt.same _
   ·obtain⟨n1,n2,xs,ys,g1,g2,hn,hlen,heq⟩:=ne us[m] (getElem_mem J3) ea;rw[show(Value.ref us[m]==Value.ref a)=false from beq_eq_false_iff_ne.mpr λh=>ea (by injection h)];exact yC (by show X.A.units+1+1<cLine;omega) I ea g1 g2 hn hlen heq
  ·have er:(us.eraseIdx j).map V.ref=(us.map V.ref).eraseIdx j:=rA us j;refine⟨.non,_,I.lset (its':=its.eraseIdx j) hl e ?_ (er▸r.eraseIdx j) ?_,rfl,q⟩
   ·show its.toArray.eraseIdxIfInBounds j=(its.eraseIdx j).toArray;rw[List.eraseIdxIfInBounds_toArray]
   ·rw[er];have:=oC (us.map V.ref) j;omega
 ·exact h.elim
def R.ja{X:Cx}(hu:X.A.units+64<cLine):XM X "list.remove" kU:=⟨Au hu⟩
section
variable {X:Cx}
def Uz(K:W.Frag):List V->Hp->VK->Prop:=λvs H Q=>∃(p:TD)(ns:List Int),vs=[.ref p]/\SqL K H p (ns.map V.int)/\0<ns.length/\∀M:Int,M∈ns->(∀a∈ns,a<=M)->Q (.int M) H
def Gi(hc:X.calm=true):CallR X (.builtin "max") (Uz X.K):=by
 intro pins s σ H xs us Q I r h;obtain⟨p,ns,rfl,hq,hn,q⟩:=h;obtain⟨u,rfl,ru⟩:=jA r;cases ru;obtain⟨its,rv,pl,hz⟩:=I.list hq;have hi:=qJ rv;obtain⟨xs,hx⟩:=hi.allInts.items;have ue:s.heap.IsList p (intItems xs):=hx▸pl.isList;have e1:ns=xs.toList.map (·.1):=by
  rw[<- nums_intItems,<- hx];exact(show numsOf its.toArray.toList=ns from hi.numsOf).symm
 have hsz:ns.length=xs.size:=by rw[e1];simp
 refine max_intList (I.ok.hd hc) ue Zo λv h' tk hv hk=>?_;obtain⟨hle,yg⟩:=argBest_gt (numAt xs) (xs.size-1);generalize argBest (λi j=>decide (numAt xs i>numAt xs j)) (xs.size-1)=k at hv hle yg;obtain⟨t,rfl⟩:=intItems_at hv;have at_:∀j,j<ns.length->numAt xs j=ns.getD j 0:=λj _=>by rw[numAt_eq,e1]
 refine⟨.int _,H,I.kept hk,⟨_,rfl⟩,q _ ?_ ?_⟩
 ·rw[at_ k Zo,getD_eq_getElem?_getD,eZ Zo];exact getElem_mem _
 ·intro a ha;obtain⟨j,hj,rfl⟩:=getElem_of_mem ha;have:=yg j Zo;rw[at_ j hj,getD_eq_getElem?_getD,eZ hj]at this;exact this
def R.fg{K:W.Frag}(hc:X.calm=true)(hK:X.K=K:=by rfl):XC X (.builtin "max") (Uz K):=hK▸⟨Gi hc⟩
end
inductive Dd where
 | add (a:Str) (n:Nat)
 | take (a:Str) (n:Nat)
 | move (a b:Str) (n:Nat)
 | send (h a:Str) (n:Nat)
 | fetch (h a:Str) (n:Nat)
 | pass (h g a:Str) (n:Nat)
namespace Dd
def vs:Dd->List V
 | .add a n=>[.str "add",.str a,.int (n:Int)]
 | .take a n=>[.str "take",.str a,.int (n:Int)]
 | .move a b n=>[.str "move",.str a,.str b,.int (n:Int)]
 | .send h a n=>[.str "send",.str h,.str a,.int (n:Int)]
 | .fetch h a n=>[.str "fetch",.str h,.str a,.int (n:Int)]
 | .pass h g a n=>[.str "pass",.str h,.str g,.str a,.int (n:Int)]
def n:Dd->Nat
 | .add _ n=>n|.take _ n=>n|.move _ _ n=>n|.send _ _ n=>n|.fetch _ _ n=>n|.pass _ _ _ n=>n
def far:Dd->Bool
 | .send _ _ _=>true|.fetch _ _ _=>true|.pass _ _ _ _=>true|_=>false
def Ok:Dd->Prop
 | .add a n=>fO a/\1<=n/\n<=1000000000000
 | .take a n=>fO a/\1<=n/\n<=1000000000000
 | .move a b n=>fO a/\fO b/\a≠b/\1<=n/\n<=1000000000000
 | .send h a n=>fO h/\fO a/\1<=n/\n<=1000000000000
 | .fetch h a n=>fO h/\fO a/\1<=n/\n<=1000000000000
 | .pass h g a n=>fO h/\fO g/\fO a/\h≠g/\1<=n/\n<=1000000000000
def Ok.n{d:Dd}(h:d.Ok):1<=d.n/\d.n<=1000000000000:=by
 cases d<;>simp only [Ok]at h<;>simp only [Dd.n]<;>omega
def wd:Dd->Str
 | .add _ _=>"add"|.take _ _=>"take"|.move _ _ _=>"move"|.send _ _ _=>"send"|.fetch _ _ _=>"fetch"|.pass _ _ _ _=>"pass"
end Dd
inductive An where
 | is1 (m:Nat)
 | is2 (l m:Nat)
 | short (m:Nat)
 | full (m:Nat)
 | no (h:Str)
 | ok
namespace An
def vs:An->List V
 | .is1 m=>[.str "is",.int (m:Int)]
 | .is2 l m=>[.str "is",.int (l:Int),.int (m:Int)]
 | .short m=>[.str "short",.int (m:Int)]
 | .full m=>[.str "full",.int (m:Int)]
 | .no h=>[.str "no",.str h]
 | .ok=>[.str "ok"]
def early:An->Bool|.short _=>true|.full _=>true|_=>false
def Of:Dd->An->Prop
 | .add _ n,.is1 m=>n<=m/\m<=1000000000000
 | .add _ n,.full m=>1000000000000<m+n/\m<=1000000000000
 | .take _ n,.is1 m=>m+n<=1000000000000
 | .take _ n,.short m=>m<n
 | .move _ _ n,.is2 l m=>l+n<=1000000000000/\n<=m/\m<=1000000000000
 | .move _ _ n,.short m=>m<n
 | .move _ _ n,.full m=>1000000000000<m+n/\m<=1000000000000
 | .send _ _ n,.is1 m=>m+n<=1000000000000
 | .send _ _ n,.short m=>m<n
 | .send h _ _,.no g=>g=h
 | .fetch _ _ n,.is1 m=>n<=m/\m<=1000000000000
 | .fetch _ _ n,.full m=>1000000000000<m+n/\m<=1000000000000
 | .fetch h _ _,.no g=>g=h
 | .pass h g _ _,.no k=>k=h∨k=g
 | .pass _ _ _ _,.ok=>True
 | _,_=>False
end An
inductive RX where
 | next (n t:Nat)
 | has (z:Str) (m:Nat)
 | kept (n t:Nat) (p k:Str) (d:Dd) (y:An)
 | came (n t:Nat) (p k:Str) (d:Dd)
 | asked (n:Nat)
 | done (n t:Nat) (y:An)
namespace RX
def At(H:Hp)(a:TD):RX->Prop
 | .next n t=>H a=some (.tup [.str "next",.int (n:Int),.int (t:Int)])
 | .has z m=>H a=some (.tup [.str "has",.str z,.int (m:Int)])
 | .kept n t p k d y=>∃b c,H a=some (.tup [.str "kept",.int (n:Int),.int (t:Int),.str p,.str k,.ref b,.ref c])/\H b=some (.tup d.vs)/\H c=some (.tup y.vs)
 | .came n t p k d=>∃b,H a=some (.tup [.str "came",.int (n:Int),.int (t:Int),.str p,.str k,.ref b])/\H b=some (.tup d.vs)
 | .asked n=>H a=some (.tup [.str "asked",.int (n:Int)])
 | .done n t y=>∃c,H a=some (.tup [.str "done",.int (n:Int),.int (t:Int),.ref c])/\H c=some (.tup y.vs)
def At.tk{H H':Hp}{a:TD}{r:RX}(s:TK H H')(h:r.At H a):r.At H' a:=by
 cases r with
 | next n t=>exact s _ _ h
 | has z m=>exact s _ _ h
 | kept n t p k d y=>obtain⟨b,c,h1,h2,h3⟩:=h;exact⟨b,c,s _ _ h1,s _ _ h2,s _ _ h3⟩
 | came n t p k d=>obtain⟨b,h1,h2⟩:=h;exact⟨b,s _ _ h1,s _ _ h2⟩
 | asked n=>exact s _ _ h
 | done n t y=>obtain⟨b,h1,h2⟩:=h;exact⟨b,s _ _ h1,s _ _ h2⟩
def tvs:List V->TV:=λxs=>.tp (xs.map TV.sc)
def rep_flat{H:Hp}{b:TD}{xs:List V}(g:H b=some (.tup xs))(hf:∀x∈xs,sP x=true):Fv H 1 (tvs xs) (.ref b):=by
 refine⟨b,xs,rfl,g,?_⟩
 induction xs with
 | nil=>exact .nil
 | cons x xs ih=>
  clear g;refine .cons ⟨rfl,hf x eV⟩ ?_;have:∀(ys:List V),(∀y∈ys,sP y=true)->Paired (Fv H 0) (ys.map TV.sc) ys:=λys h=>by
   induction ys with
   | nil=>exact .nil
   | cons y ys ih=>exact .cons ⟨rfl,h y eV⟩ (ih λz hz=>h z (iV _ hz))
  exact this xs λz hz=>hf z (iV _ hz)
def sc_dd(d:Dd):∀x∈d.vs,sP x=true:=by
 intro x hx;cases d<;>simp only [Dd.vs,mem_cons,QZT,or_false]at hx<;>rcases hx with rfl|rfl|rfl|rfl|rfl<;>rfl
def sc_an(y:An):∀x∈y.vs,sP x=true:=by
 intro x hx;cases y<;>simp only [An.vs,mem_cons,QZT,or_false]at hx<;>rcases hx with rfl|rfl|rfl|rfl|rfl<;>rfl
def rank:RX->Nat|.next _ _=>0|.has _ _=>1|.kept _ _ _ _ _ _=>2|_=>3
def turn:RX->Nat|.next _ t=>t|.came _ t _ _ _=>t|.done _ t _=>t|_=>0
def Fits(rs:List RX):RX->Prop
 | .next _ _=>rs=[]
 | .has z _=>(∀q∈rs,rank q<=1)/\(∃n t,.next n t∈rs)/\∀z' m,.has z' m∈rs->z'.cps.toList<z.cps.toList
 | .kept n t _ _ d y=>(∀q∈rs,rank q<=2)/\(∃n0 t0,.next n0 t0∈rs/\n<n0/\t<=t0)/\(∀n' t' p' k' d' y',.kept n' t' p' k' d' y'∈rs->n'<n)/\An.Of d y
 | .came n t _ _ _=>(∀n' t' p' k' d',.came n' t' p' k' d'∈rs->n'<n)/\(∀t' p' k' d' y',.kept n t' p' k' d' y'∉rs)/\∀q∈rs,turn q<=t
 | .asked n=>(∃t p k d,.came n t p k d∈rs/\d.far=true)/\.asked n∉rs/\∀t y,.done n t y∉rs
 | .done n t y=>(∀q∈rs,turn q<=t)/\(∀t y,.done n t y∉rs)/\∃t0 p k d,.came n t0 p k d∈rs/\An.Of d y/\(d.far=true->(.asked n∈rs↔y.early=false))
inductive Whole:List RX->Prop
 | nil:Whole []
 | snoc {rs:List RX}{r:RX}:Whole rs->Fits rs r->Whole (rs++[r])
def Ok:RX->Prop
 | .next n t=>1<=n/\n<=1000000/\t<=1000000000000
 | .has z m=>fO z/\1<=m/\m<=1000000000000
 | .kept n t p k d y=>1<=n/\n<=999999/\t<=1000000000000/\fO p/\xY k/\d.Ok/\An.Of d y
 | .came n t p k d=>1<=n/\n<=999999/\t<=1000000000000/\fO p/\xY k/\d.Ok
 | .asked n=>1<=n/\n<=999999
 | .done n t _=>1<=n/\n<=999999/\t<=1000000000000
end RX
structure RxsAt(H:Hp)(ra:TD)(rs:List RX)(as:List TD):Prop where
 lst:H ra=some (.lst (as.map V.ref))
 each:Paired (λr a=>RX.At H a r) rs as
def RxsAt.len{H:Hp}{ra:TD}{rs:List RX}{as:List TD}(h:RxsAt H ra rs as):rs.length=as.length:=h.each.length
def RxsAt.keep{H H':Hp}{ra:TD}{rs:List RX}{as:List TD}(h:RxsAt H ra rs as)(s:TK H H')(e:H' ra=some (.lst (as.map V.ref))):RxsAt H' ra rs as:=⟨e,Paired.map' (λ_ _ x=>x.tk s) h.each⟩
def RxsAt.same{H H':Hp}{ra:TD}{rs:List RX}{as:List TD}(h:RxsAt H ra rs as)(s:Same H H'):RxsAt H' ra rs as:=h.keep s.tk (s _ _ h.lst)
def RxsAt.snoc{H H':Hp}{ra:TD}{rs:List RX}{as:List TD}{r:RX}{a:TD}(h:RxsAt H ra rs as)(s:TK H H')(hr:r.At H' a)(e:H' ra=some (.lst (as.map V.ref++[.ref a]))):RxsAt H' ra (rs++[r]) (as++[a]):=
 ⟨by rw[e,dJ];rfl,Paired.snoc (Paired.map' (λ_ _ x=>x.tk s) h.each) hr⟩
def RxsAt.get{H:Hp}{ra:TD}{rs:List RX}{as:List TD}(h:RxsAt H ra rs as){i:Nat}{v:V}(e:(as.map V.ref)[i]?=some v):∃(a:TD)(r:RX),v=.ref a/\as[i]?=some a/\rs[i]?=some r/\r.At H a:=by
 rw[fA]at e;cases ha:as[i]? with
 | none=>rw[ha]at e;cases e
 | some a=>
  rw[ha]at e;cases e;obtain⟨hi,ei⟩:=Zgs.mp ha;obtain⟨K8,hr⟩:=Paired.get' (j:=i) h.each hi;rw[ei]at hr;exact⟨a,rs[i],rfl,rfl,eZ K8,hr⟩
def RxsAt.nil{H:Hp}{ra:TD}(h:H ra=some (.lst [])):RxsAt H ra [] []:=⟨h,.nil⟩
def Sl(l:List Stmt)(i:Nat):Stmt:=l.getD i (.Pass ⟨0,0,0,0⟩)
def stT:Stmt->List Stmt|.If _ a _ _=>a|_=>[]
def stE:Stmt->List Stmt|.If _ _ b _=>b|_=>[]
def stB:Stmt->List Stmt|.For _ _ ss _ _=>ss|.While _ ss _ _=>ss|_=>[]
def bY{t u:TS}{D:nV}{σ:St}{H:Hp}(R:St->Hp->Prop)(h:∀nx:St->Hp->Prop,(∀ σ' H',R σ' H'->nx σ' H')->t {D with nx:=nx } σ H)(h2:∀ σ' H',R σ' H'->u D σ' H'):sI t u D σ H:=h (u D) h2
def Mn{c:TT}{t u:TS}{D:nV}{σ:St}{H:Hp}(R:Bool->Hp->Prop)(h:∀k:Bool->Hp->Prop,(∀v H',R v H'->k v H')->c σ H k)(ht:∀H',R true H'->t D σ H')(hf:∀H',R false H'->u D σ H'):Eo c t u D σ H:=
 h (λb H1=>if b=true then t D σ H1 else u D σ H1) λv H' r=>match v,r with|true,r=>ht H' r|false,r=>hf H' r
def rB{c:TT}{t u x:TS}{D:nV}{σ:St}{H:Hp}(R:Bool->Hp->Prop)(h:∀k:Bool->Hp->Prop,(∀v H',R v H'->k v H')->c σ H k)(ht:∀H',R true H'->t {D with nx:=x D } σ H')(hf:∀H',R false H'->u {D with nx:=x D } σ H'):sI (Eo c t u) x D σ H:=
 h (λb H1=>if b=true then t {D with nx:=x D } σ H1 else u {D with nx:=x D } σ H1) λv H' r=>match v,r with|true,r=>ht H' r|false,r=>hf H' r
section
variable {X:Cx}
def Sm(neg:Bool):R2:=λx y H Q=>mR y λa=>∃o,DGet H a x o/\Q (.bl (if neg then !o.isSome else o.isSome)) H
def Mo(neg:Bool)(hu:X.A.units+1<cLine):OpR X (compareOp (if neg then .NotIn else .In)) (Sm neg):=by
 intro pins s σ H x y v u Q I rx ry h;unfold Sm at h;rw[dD]at h;obtain⟨a,rfl,o,g,q⟩:=h;cases ry;cases neg
 ·exact aAQ hu I g rx λs' I'=>⟨.bl _,H,I',rfl,q⟩
 ·exact Cd hu I g rx λs' I'=>⟨.bl _,H,I',rfl,q⟩
def R.eh(hu:X.A.units+1<cLine):jI X (compareOp .In) (Sm false):=⟨Mo false hu⟩
def R.fh(hu:X.A.units+1<cLine):jI X (compareOp .NotIn) (Sm true):=⟨Mo true hu⟩
end
def RKS:List (Str×Int):=[("next",0),("has",1),("kept",2),("came",3),("asked",3),("done",3)]
def UAW:List V:=[.str "short",.str "full"]
section
variable {X:Cx}
def Yz:R2:=λx y H Q=>match x,y with|.int i,.int j=>Q (.bl (decide (i<j))) H|.str i,.str j=>Q (.bl (decide (i.cps.toList<j.cps.toList))) H|_,_=>False
def Za:OpR X (compareOp .Lt) Yz:=by
 intro pins s σ H x y v u Q I rx ry h;unfold Yz at h;split at h
 ·exact Ud pins s σ H _ _ v u Q I rx ry ⟨_,_,rfl,rfl,h⟩
 ·exact Eu pins s σ H _ _ v u Q I rx ry ⟨_,_,rfl,rfl,h⟩
 ·exact h.elim
def R.jb:jI X (compareOp .Lt) Yz:=⟨Za⟩
def R.jc:XC X (.builtin "len") (λvs H Q=>match vs with | [.ref a]=>∃kvs,H a=some (.dK kvs)/\Q (.int kvs.length) H | _=>False):=⟨Fn.imp λvs H Q h=>by
 split at h
 ·obtain⟨kvs,g,q⟩:=h;exact⟨_,kvs,rfl,g,q⟩
 ·exact h.elim⟩
end
def kW(xs ys:List V):Prop:=∀(j:Nat)(u v:V),xs[j]?=some u->ys[j]?=some v->eW u=true/\eW v=true
def Av{xs:List V}(h:kW xs xs):kR xs xs=true:=by
 unfold kR;rw[Bool.and_eq_true_iff];refine⟨all_eq_true.mpr λj hj=>?_,Zs⟩;have hj:j<xs.length:=by simpa using hj
 have e:xs.getD j .non=xs[j]:=by simp[List.getD,hj]
 rw[e];have:=(h j xs[j] xs[j] (eZ hj) (eZ hj)).1;generalize xs[j]=v at this;cases v<;>first|exact QZY (show false=true from this) V2|simp[zP]
section
variable {X:Cx}
def Mp{pins:ZB}{s:P1}{σ:St}{H:Hp}{a b:TD}{xs ys:List V}(I:Inv X pins σ H s)(hu:X.A.units+64<cLine)(g1:H a=some (.tup xs))(g2:H b=some (.tup ys))(fl:kW xs ys):SeqAt.EqAt X.A.in1 s (.ref a) (.ref b) (kR xs ys):=by
 by_cases e:a=b
 ·subst e;rw[g1]at g2;cases g2;rw[Av fl];exact SeqAt.EqAt.same _
 ·obtain⟨its,ri,ti,_⟩:=I.tuple (QYM g1);obtain⟨a9,W6,rh,_⟩:=I.tuple (QYM g2);have vj:its.length=xs.length:=ri.length.symm;have vt:a9.length=ys.length:=W6.length.symm;have each:∀j (h1:j<its.toArray.size) (h2:j<a9.toArray.size),SeqAt.EqAt X.A.in1.in1 s its.toArray[j] a9.toArray[j] (zP (xs.getD j .non) (ys.getD j .non)):=λj h1 h2=>by
   rw[eB]at h1 h2;obtain⟨G9,q1⟩:=Paired.get' (j:=j) ri h1;obtain⟨M1,q2⟩:=Paired.get' (j:=j) W6 h2;obtain⟨f1,f2⟩:=fl j xs[j] ys[j] (eZ G9) (eZ M1);have e1:xs.getD j .non=xs[j]:=by simp[List.getD,G9]
   have e2:ys.getD j .non=ys[j]:=by simp[List.getD,M1]
   rw[e1,e2];simpa using qK q1 q2 f1 f2
  have e:((List.range (min its.toArray.size a9.toArray.size)).all (λj=>zP (xs.getD j .non) (ys.getD j .non))&&its.toArray.size==a9.toArray.size)=kR xs ys:=by
   rw[eB,eB,vj,vt];rfl
  have key:=SeqAt.RcAt.tuples (A:=X.A.in1) (s:=s) ti rh (by rw[Ga];omega) each;rw[e]at key;intro prog w E Q h;unfold eqBool;refine wpAny_holding ?_;refine wpAny_ite_split (λrg=>QZY (eq_of_beq rg) (λz=>by cases z;contradiction)) (λ_=>?_);exact V4 (key prog w E _ (wpAny_truthy_bool h))
def wA(xs:List V)(zs:List (TD×List V)):Bool:=zs.any λz=>kR z.2 xs
def Zb(neg:Bool):R2:=λx y H Q=>mR x λa=>mR y λp=>∃(xs:List V)(zs:List (TD×List V)),H a=some (.tup xs)/\H p=some (.lst (zs.map λz=>V.ref z.1))/\(∀z∈zs,H z.1=some (.tup z.2)/\kW z.2 xs)/\Q (.bl (if neg then !wA xs zs else wA xs zs)) H
def eqH(H:Hp)(xs:List V)(v:Q2):Bool:=match v with|.ref b=>(match H b with|some (.tup ys)=>kR ys xs|_=>false)|_=>false
def Mq{H:Hp}{xs ys:List V}{b:TD}(g:H b=some (.tup ys)):eqH H xs (.ref b)=kR ys xs:=by unfold eqH;dsimp only;rw[g]
def Aw{zs:List (TD×List V)}:∀ {us:List Q2},Vals (zs.map λz=>V.ref z.1) us->us=zs.map λz=>Value.ref z.1:=by
 induction zs with
 | nil=>intro us r;cases r;rfl
 | cons z zs ih=>intro us r;cases r with|cons r t=>rw[ih t];cases r;rfl
def Zc(neg:Bool)(hu:X.A.units+64<cLine):OpR X (compareOp (if neg then .NotIn else .In)) (Zb neg):=by
  intro pins s σ H x y v u Q I rx ry h;unfold Zb at h;rw[dD]at h;obtain⟨a,rfl,h⟩:=h;rw[dD]at h;obtain⟨p,rfl,xs,zs,g1,g2,hz,q⟩:=h;cases rx;cases ry;obtain⟨its,r,pl,_⟩:=I.list (QYL g2);have ei:=Aw r;have he:∀w,w∈its.toArray->SeqAt.EqAt X.A.in1 s w (.ref a) (eqH H xs w):=λw hw=>by
    have hw:w∈its:=by simpa using hw
    rw[ei]at hw;obtain⟨z,hm,rfl⟩:=Zmm.mp hw;rw[Mq (hz z hm).1];exact Mp I hu (hz z hm).1 g1 (hz z hm).2
  have ea:its.toArray.any (eqH H xs)=wA xs zs:=by
    rw[ei];unfold wA;rw[List.any_toArray,any_map];have:∀zs:List (TD×List V),(∀z∈zs,H z.1=some (.tup z.2)/\kW z.2 xs)->zs.any (eqH H xs∘λz=>Value.ref z.1)=zs.any λz=>kR z.2 xs:=λzs hz=>by
     induction zs with
     | nil=>rfl
     | cons z zs ih=>
      rw[any_cons,any_cons,ih λy hy=>hz y (iV _ hy)]
      congr 1
      exact Mq (hz z eV).1
    exact this zs hz
  cases neg
  . refine SeqAt.in_listAt _ pl.isList he ⟨.bl _,H,I,rfl,?_⟩
    rw[ea];exact q
  . refine SeqAt.notIn_listAt _ pl.isList he ⟨.bl _,H,I,rfl,?_⟩
    rw[ea];exact q
def R.ib(hu:X.A.units+64<cLine):jI X (compareOp .NotIn) (Zb true):=⟨Zc true hu⟩
end
section
variable {prog:Program}{w:World}{A:Around}{E:XV}{s:P1}{u d:TD}{i n ep:Nat}{od:Obj}{es:Array DictEntry}
def Gj{Q:Option Q2->P1->Prop}(hit:s.heap.IsValIter u d i n ep)(g:s.heap.get? d=some od)(gd:od.data=.dict es ep)(hn:es.size=n)(hi:i<es.size)(q:∀h',h'.IsValIter u d (i+1) n ep->Heap.SameBut u s.heap h'->Q (some es[i].val) {s with heap:=h' }):wpAny (model prog w) A (pyNext (.ref u)) Q E s:=by
 obtain⟨o,ho,hc,hd⟩:=id hit;have ty:=hit.typeIs;have own:Builtin.Dict_items.ownsTuple "dict_valueiterator"=false:=by decide
 unfold pyNext;refine V4 (wpAny_attempt (wpAny_callSpecial?_slot (name:=Str.ofString "__next__") ty PySem.F.slot_dict_valueiterator_next (wpAny_call_entry PySem.F.slot_dict_valueiterator_next ty PySem.F.entry_dict_valueiterator_next ?_ (PySem.F.args_dict_valueiterator_next_1 _))));refine V4 (V3 (V4 (V4 ?_)))
 first|refine V4 (wpAny_typeNameOfWhole_valiter ty (V3 (V4 (wpAny_fieldsOf ho hd ?_))))|refine V4 (wpAny_typeNameOf_valiter ty (V3 (V4 (wpAny_fieldsOf ho hd ?_))))
 simp only [own,Bool.false_eq_true,if_false];show wpAny _ _ (if (Value.ref d==Value.none)=true then _ else _) _ _ s;rw[QZZ (show ¬ ((Value.ref d==Value.none)=true) from V2)];refine V4 (V3 (V4 (wpAny_dictEntries g gd ?_)));rw[QZZ (by rw[hn];simp)];refine V4 (V3 (V4 (wpAny_dictEpoch g gd ?_)));rw[QZZ Zs];refine V3 ?_;simp only [show ¬ ((i:Int)<0) from by omega,if_false,Int.toNat_natCast,Array.getElem?_eq_getElem hi];refine V4 ?_
 first|refine V4 (wpAny_typeNameOfWhole_valiter ty (V3 (V4 (wpAny_isOneOf_valiter ty ?_))))|refine V4 (wpAny_typeNameOf_valiter ty (V3 (V4 (wpAny_isOneOf_valiter ty ?_))))
 show wpAny _ _ (setField (.ref u) 1 (rawInt ((i:Int)+1))>>=_) _ _ s;refine V4 (wpAny_setField ho hd Zs ?_);have BB:(s.heap.update u (Obj.mapFields (·.setIfInBounds 1 (rawInt ((i:Int)+1))))).IsValIter u d (i+1) n ep:=⟨_,Heap.get?_update_self _ ho (Obj.isFreed_of_fields (Obj.data_mapFields hd _)),(Obj.cls_mapFields ..).trans hc,by rw[Obj.data_mapFields hd];simp[rawInt]⟩;refine V4 (wpAny_holding (V4 (wpAny_isOneOf_valiter (s:={s with heap:=s.heap.update u (Obj.mapFields (·.setIfInBounds 1 (rawInt ((i:Int)+1)))) }) BB.typeIs (V4 (wpAny_isOneOf_valiter (s:={s with heap:=s.heap.update u (Obj.mapFields (·.setIfInBounds 1 (rawInt ((i:Int)+1)))) }) BB.typeIs ?_)))));show wpAny _ _ (pure es[i].val) _ _ _;exact V3 (V3 ⟨_,rfl,V3 (q _ BB (Heap.SameBut.update ..))⟩)
def Mr{Q:Option Q2->P1->Prop}(hh:A.handled=none)(hit:s.heap.IsValIter u d i n ep)(g:s.heap.get? d=some od)(gd:od.data=.dict es ep)(hn:es.size=n)(hi:es.size<=i)(q:∀h',Heap.ExtBut u s.heap h'->Q none {s with heap:=h' }):wpAny (model prog w) A (pyNext (.ref u)) Q E s:=by
 obtain⟨o,ho,hc,hd⟩:=id hit;have ty:=hit.typeIs;have own:Builtin.Dict_items.ownsTuple "dict_valueiterator"=false:=by decide
 unfold pyNext;refine V4 (wpAny_attempt (wpAny_callSpecial?_slot (name:=Str.ofString "__next__") ty PySem.F.slot_dict_valueiterator_next (wpAny_call_entry PySem.F.slot_dict_valueiterator_next ty PySem.F.entry_dict_valueiterator_next ?_ (PySem.F.args_dict_valueiterator_next_1 _))));refine V4 (V3 (V4 (V4 ?_)))
 first|refine V4 (wpAny_typeNameOfWhole_valiter ty (V3 (V4 (wpAny_fieldsOf ho hd ?_))))|refine V4 (wpAny_typeNameOf_valiter ty (V3 (V4 (wpAny_fieldsOf ho hd ?_))))
 simp only [own,Bool.false_eq_true,if_false];show wpAny _ _ (if (Value.ref d==Value.none)=true then _ else _) _ _ s;rw[QZZ (show ¬ ((Value.ref d==Value.none)=true) from V2)];refine V4 (V3 (V4 (wpAny_dictEntries g gd ?_)));rw[QZZ (by rw[hn];simp)];refine V4 (V3 (V4 (wpAny_dictEpoch g gd ?_)));rw[QZZ Zs];refine V3 ?_;simp only [show ¬ ((i:Int)<0) from by omega,if_false,Int.toNat_natCast,Array.getElem?_eq_none hi];refine V4 ?_
 first|refine V4 (wpAny_typeNameOfWhole_valiter ty (V3 ?_))|refine V4 (wpAny_typeNameOf_valiter ty (V3 ?_))
 show wpAny _ _ (setField (.ref u) 0 .none>>=_) _ _ s;refine V4 (wpAny_setField ho hd Zs ?_);show wpAny _ _ (newExc (.type "StopIteration") []>>=_) _ _ _;refine V4 ?_;simp only [newExc,newTuple];refine V4 (wpAny_newObj_type ?_ (by size_fits));refine V4 (m:=firstArgMember _ _) (wpAny_of_eq (a:=Value.none) (by first|rfl|(simp only [firstArgMember];rfl)) (wpAny_newObj_type ?_ (by size_fits)));simp only [raiseNew];refine V4 (wpAny_handled ?_);rw[show A.in1.handled=none from hh];refine V4 (V3 (wpAny_throw ?_));exact V4 (wpAny_isInstance (T:="StopIteration") (b:=true) ⟨_,TW _ rfl,rfl⟩ isSubtype_stop (V3 (q _ (((Heap.SameBut.update ..).extBut.push _).push _))))
def Gk(yw:s.TypeIs (.ref d) "dict")(hd:(d==sysModules)=false){Q:PySem.Fin->P1->Prop}(q:Q (.done (.ret (.ref s.heap.objs.size))) {s with heap:=s.heap.push {cls:=.type "dict_values",data:=.fields #[.ref d] } }):wpAny (model prog w) A (Builtin.«dict.values» ⟨[.ref d],[]⟩) Q E s:=by
 refine V4 ?_;unfold Builtin.Dict.noArgs;refine V4 (wpAny_notOrdered_dict yw ?_);show wpAny _ _ (pure d) _ _ s;refine V3 ?_;show wpAny _ _ (Builtin.Dict.showsAll d>>=_) _ _ s;unfold Builtin.Dict.showsAll;rw[QZZ (by rw[hd];exact V2)];refine V4 (V3 ?_);exact V4 (wpAny_newObj_type (V3 q))
def Gm{v:TD}{Q:XV}(hv:s.heap.IsValuesView v d)(g:s.heap.get? d=some od)(gd:od.data=.dict es ep)(q:Q (.ref s.heap.objs.size) {s with heap:=s.heap.push {cls:=.type "dict_valueiterator",data:=.fields #[.ref d,.int 0 0,.int es.size 0,.int ep 0] } }):wpAny (model prog w) A (pyIter (.ref v)) Q E s:=by
 obtain⟨ov,XH,hcv,XJ⟩:=id hv;refine wpAny_pyIter_slot hv.typeIs PySem.F.slot_dict_values_iter (wpAny_call_entry PySem.F.slot_dict_values_iter hv.typeIs PySem.F.entry_dict_values_iter ?_ (PySem.F.args_dict_values_iter_1 _));unfold Builtin.«dict_values.__iter__»;refine V4 (V3 ?_);refine V4 ?_;unfold Builtin.Dict_items.dictOf;refine V4 (wpAny_field XH XJ (x:=.ref d) rfl (V3 ?_));refine V4 ?_;unfold Builtin.Dict_items.newIterator;refine V4 (wpAny_dictEntries g gd ?_);refine V4 (wpAny_dictEpoch g gd ?_);have MI:Builtin.Dict_items.ownsTuple "dict_valueiterator"=false:=by decide
 simp only [MI,Bool.false_eq_true,if_false];refine wpAny_newObj_type (V3 ⟨_,rfl,"dict_valueiterator",_,⟨_,TW _ rfl,rfl⟩,PySem.F.slot_dict_valueiterator_next.lookup,?_⟩);simpa [rawInt]using q
end
def Ze(a:TD)(o:Obj)(kvs:List (List aT×V)):It:=
 ⟨λi H=>H a=some (.frz o (.dT kvs))/\i<kvs.length,λi H x H'=>H'=H/\(kvs.map (·.2))[i]?=some x,λi H=>H a=some (.frz o (.dT kvs))/\kvs.length<=i⟩
def Zf(a:TD)(o:Obj)(kvs:List (List aT×V)):sO (Ze a o kvs) (kvs.map (·.2)) (λH=>H a=some (.frz o (.dT kvs))):=
 ⟨λi H hi e=>⟨e,by rwa [aS]at hi⟩,λi H x H' _ _ y=>y,λH e=>⟨e,by rw[aS];exact aY _⟩⟩
section
variable {X:Cx}{pins:ZB}{σ:St}{H:Hp}{s:P1}{a:TD}{o:Obj}{kvs:List (List aT×V)}
def wB{P:Program}{w:World}{h:Heap}(ok:HOk P w H h)(e:H a=some (.frz o (.dT kvs))){es:Array DictEntry}{ep:Nat}(hd:o.data=.dict es ep):es.size=kvs.length/\∀(i:Nat)(hi:i<es.size),∃hb:i<kvs.length,RelV kvs[i].2 es[i].val:=by
 obtain⟨g0,_,_,xs,rel,ob,DS,AQ,g,h2,h3,h4,h5⟩:=(show ObjOk P w H h a (.frz o (.dT kvs)) from ok a _ e);rw[g0]at g;cases g;rw[hd]at h3;cases h3;have hl:=Paired.length rel;have hs:es.size=kvs.length:=by have:=congrArg length h4;rw[aS,Array.length_toList]at this;omega
 refine⟨hs,λi hi=>?_⟩;have hx:i<xs.length:=by omega
 obtain⟨hk,_,_,hr⟩:=Paired.get' (j:=i) rel hx;refine⟨hk,?_⟩;have h1:(es.toList)[i]?=some es[i]:=by rw[Array.getElem?_toList,Array.getElem?_eq_getElem hi]
 rw[h4,fA,eZ hx]at h1;rw[<- Option.some.inj h1];exact hr
def Sn{P:Program}{w:World}{K:W.Frag}{tg:Expr}(a it:TD){es:Array DictEntry}{ep:Nat}(hd:o.data=.dict es ep):pK P w K tg (Ze a o kvs) [it] it (λi h=>h.IsValIter it a i kvs.length ep) where
 mem:=by simp
 obj:=λi h st b hb=>by
  obtain rfl:b=it:=by simpa using hb
  obtain⟨ob,e,c,d⟩:=st;exact⟨ob,e,λv z=>by rw[d]at z;cases z⟩
 keep:=λi h h' st k=>st.at λob e=>k it Zs ob e
 item:=by
  intro X hP hw hK hc i pins s σ H E I hf st hg;subst hP hw hK;obtain⟨ef,hi⟩:=hg;have h1:=nG I.hok ef;obtain⟨f0,f1,f2,f3,f4,f5⟩:=hf it Zs;obtain⟨hs,hv⟩:=wB I.hok ef hd;have K8:i<es.size:=by omega
  obtain⟨hb,hk⟩:=hv i K8;refine Gj st h1 hd hs K8 λh' J1 sb=>?_;have I1:Inv X pins σ H {s with heap:=h' }:=I.turned (t':=s.toks) (λb ob hb e=>(sb.2 b hb).trans e) f0 f1 f3 f4 f5;obtain⟨ob,e,c,d⟩:=id J1;refine⟨_,rfl,oZ (s:={s with heap:=h' }) e c d Zd ⟨kvs[i].2,H,I1,hk,⟨rfl,?_⟩,J1,λb hb=>(hf b hb).1⟩⟩;rw[fA,eZ hb];rfl
 done:=by
  intro X hP hw hK hc i pins s σ H E I hf st hg;subst hP hw hK;obtain⟨ef,hi⟩:=hg;have h1:=nG I.hok ef;obtain⟨f0,f1,f2,f3,f4,f5⟩:=hf it Zs;obtain⟨hs,_⟩:=wB I.hok ef hd;exact Mr (I.ok.hd hc) st h1 hd hs Zo λh' eb=>⟨rfl,I.turned (t':=s.toks) (λb ob hb e=>eb b ob hb e) f0 f1 f3 f4 f5⟩
 self:=λ_ _ _ _ _ st h=>wpAny_pyIter_valiter st h
def Ms(te:TE):TI:=λσ H R=>te σ H λx H1=>mR x λa=>∃kvs,H1 a=some (.dT kvs)/\∀o,R (Ze a o kvs) (aI H1 a (.frz o (.dT kvs)))
def Mt{tg l:Expr}{tl:TE}{apos cpos:Pos}(hl:PE X l tl)(C3:attributeBase l "values" X.env (eval l X.env)=eval l X.env)(C4:(apos.endLine==cpos.line)=true):PI X tg (.Call (.Attribute l "values" apos) [] [] cpos) (Ms tl):=by
 intro pins s σ H R I h;refine wpAny_Call_method0_late C3 C4 (cA (hl pins s σ H _ I h) ?_);rintro v s1 ⟨x,H1,I1,r1,q1⟩;(try dsimp only at q1);rw[dD]at q1;obtain⟨a,rfl,kvs,e,q⟩:=q1;cases r1;obtain⟨t1,t2,_⟩:=Jo I1 (.inr ⟨_,.inl e⟩);obtain⟨ob,es,ep,bs,g,f,ue,hb,lo,I2⟩:=I1.freezeT e;have ty:s1.TypeIs (.ref a) "dict":=⟨ob,g,f.ex.1⟩;refine⟨"dict","dict.values",PySem.F.plainAttrs_dict,PySem.F.slot_dict_values,PySem.F.type_dict_values,t1,t2,Calls.callWith_builtin rfl (PySem.evalArgs_none ?_)⟩;refine wpAny_call_entry PySem.F.slot_dict_values ty PySem.F.entry_dict_values (Gk ty lo ⟨_,rfl,?_⟩) (PySem.F.args_dict_values_1 _);have I3:=I2.kept (t':=s1.toks) (h':=s1.heap.push {cls:=.type "dict_values",data:=.fields #[.ref a] }) λb o e=>eG _ e
 have GL:(s1.heap.push {cls:=.type "dict_values",data:=.fields #[.ref a] }).IsValuesView s1.heap.objs.size a:=⟨_,TW _ rfl,rfl,rfl⟩;obtain⟨hs,_⟩:=wB I3.hok (aA (a:=a)) f.dat;refine Gm (s:={s1 with heap:=s1.heap.push {cls:=.type "dict_values",data:=.fields #[.ref a] } }) GL (nG I3.hok (aA (a:=a))) f.dat ?_;have hn:(aI H1 a (.frz ob (.dT kvs))) (s1.heap.push {cls:=.type "dict_values",data:=.fields #[.ref a] }).objs.size=none:=I3.hok.fresh (aY _);refine⟨_,[_],_,_,_,rfl,I3.kept (t':=s1.toks) λb o e=>eG _ e,Sn a _ f.dat,⟨_,TW _ rfl,rfl,?_⟩,λb hb=>?_,q ob⟩
 ·rw[hs];rfl
 ·obtain rfl:b=(s1.heap.push {cls:=.type "dict_values",data:=.fields #[.ref a] }).objs.size:=by simpa using hb
  exact I3.fpOk (aY _) hn
end
def R.jd{X:Cx}{tg l:Expr}{tl:TE}{apos cpos:Pos}(hl:XE X l tl)(C3:attributeBase l "values" X.env (eval l X.env)=eval l X.env:=by rfl)(C4:(apos.endLine==cpos.line)=true:=by rfl):XI X tg (.Call (.Attribute l "values" apos) [] [] cpos) (Ms tl):=⟨Mt hl.h C3 C4⟩
end L2
namespace KL
open PySem L2
def lc:=@R.v
def li:=@R.ac
def ml:=@R.ad
def mm:=@R.ae
def mn:=@R.ix
def mo:=@R.af
def mq:=@R.ag
def mr:=@R.ah
def mv:=@R.ai
def my:=@R.op
def mz:=@R.fn
def ng:=@R.al
def nh:=@R.ao
def ni:=@R.ap
def nj:=@R.aq
def nk:=@R.ar
def nw:=@R.au
def o0:=@R.gn
def pi:=@R.eq
def qi:=@R.av
def qj:=@R.aw
def qk:=@R.ax
def ql:=@R.ay
def qm:=@R.az
def qo:=@R.ps
def qp:=@R.ba
def qr:=@R.bb
def qt:=@R.bc
def qu:=@R.be
def qv:=@R.bg
def qw:=@R.sl
def qx:=@R.bh
def qy:=@R.bl
def re:=@R.tw
def sn:=@R.bi
def sw:=@R.bj
def sy:=@R.sT
def tf:=@R.pn
def tj:=@R.bn
def tm:=@R.bo
def tz:=@R.bp
def ua:=@R.br
def ub:=@R.bt
def uc:=@R.bu
def ud:=@R.bv
def ut:=@R.cg
def u8:=@R.cj
def ve:=@R.cn
def vf:=@R.cp
def vg:=@R.cv
def vh:=@R.cx
def wf:=@R.bw
def wl:=@R.cf
def wn:=@R.cz
def wr:=@R.da
def wv:=@R.db
def ww:=@R.de
def xt:=@R.df
def xz:=@R.dh
def zn:=@R.di
def AC:=@R.dj
def AN:=@R.dl
def AO:=@R.dm
def AT:=@R.dq
def FM:=@R.dr
def FS:=@R.du
def IN:=@R.dw
def IR:=@R.dy
def K5:=@R.dz
def NE:=@R.gt
def PP:=@R.eg
def fH(i:Nat):Stmt:=PySem.Challenge.pw_oncedoor_k54_whole_folded_comes_up_alike.main.body.getD i (.Pass ⟨0,0,0,0⟩)
abbrev jO:Stmt:=fH 4
abbrev lI:Stmt:=fH 9
abbrev jP:Stmt:=fH 10
abbrev eJ:Stmt:=fH 11
abbrev lJ:Stmt:=fH 13
abbrev eK:Stmt:=fH 14
abbrev gC:Stmt:=fH 16
abbrev fQ:Stmt:=fH 17
abbrev lK:Stmt:=fH 18
abbrev pW:Stmt:=fH 19
abbrev iD:Stmt:=fH 20
abbrev eL:Stmt:=fH 21
abbrev cF:Stmt:=fG (fH 23) 0
abbrev fI:Stmt:=fG (fH 23) 1
abbrev fR:Stmt:=fG (fH 23) 2
abbrev fJ:Stmt:=fG (fH 23) 3
abbrev cG:Stmt:=fG (fH 27) 0
abbrev iE:Stmt:=fG (fH 27) 1
abbrev gD:Stmt:=fG (fH 27) 2
abbrev dL:Stmt:=fG (fH 27) 3
abbrev cS:Stmt:=fG (fH 27) 4
abbrev iF:Stmt:=fG (fH 27) 5
abbrev iG:Stmt:=fH 28
abbrev gE:Stmt:=fH 29
abbrev gG:Stmt:=fH 30
abbrev eN:Stmt:=fH 31
abbrev gH:Stmt:=fH 32
abbrev dM:Stmt:=fH 33
abbrev hU:Stmt:=fH 35
abbrev eO:Stmt:=fH 36
abbrev gJ:Stmt:=fH 37
abbrev jQ:Stmt:=fH 39
abbrev jR:Stmt:=fH 40
abbrev cT:Stmt:=fH 41
abbrev lM:Stmt:=fH 42
abbrev jS:Stmt:=fH 43
abbrev fS:Stmt:=fH 44
abbrev gK:Stmt:=fH 45
abbrev iH:Stmt:=fH 46
abbrev jT:Stmt:=fH 47
abbrev jU:Stmt:=fH 48
abbrev jV:Stmt:=fH 49
abbrev iI:Stmt:=fH 51
abbrev iJ:Stmt:=fH 52
abbrev fK:Stmt:=fH 53
abbrev fL:Stmt:=fH 54
abbrev iK:Stmt:=fH 55
abbrev iM:Stmt:=fH 56
abbrev bN:Stmt:=fH 57
abbrev dW:Stmt:=fH 58
abbrev bO:Stmt:=fH 59
abbrev eP:Stmt:=fH 60
abbrev cK:Stmt:=fH 61
abbrev nH:Stmt:=fH 62
def fM{N P:List Str}{sc:Scope}(a:sc.kind=.function:=by rfl)(b:sc.isCoroutine=false:=by rfl)(c:sc.isGenerator=false:=by rfl)(d:N.Nodup:=by decide +kernel)(e:N.take P.length=P:=by rfl)(f:∀x∈P,sc.names.lookup x=some .local∨sc.names.lookup x=some .cell:=by decide +kernel)(g:∀y∈sc.names,y.2≠.free:=by decide +kernel):aK N P sc:=⟨a,b,c,d,e,f,g⟩
def yD:aK QZw QZw (aD jO):=fM
def Ax:aK QZH QZH (aD lI):=fM
def yE:aK QZv QZv (aD jP):=fM
def sV:aK QZD QZD (aD eJ):=fM
def mH:aK ["deed","add","take"] QZN (aD lJ):=fM
def pO:aK QZN QZN (aD eK):=fM
def sW:aK QZu QZu (aD gC):=fM
def jW:aK ["deed","thing","word","bounds"] QZm (aD fQ):=fM
def Ay:aK QZH QZH (aD lK):=fM
def Mu:aK ["answer"] ["answer"] (aD pW):=fM
def dN:aK ["deed","n","left","come","short","full"] QZN (aD iD):=fM
def sX:aK QZC QZC (aD eL):=fM
def oN:aK QZB QZB (aD cF):=fM
def rC:aK QZt QZt (aD fI):=fM
def wC:aK QZK QZK (aD fR):=fM
def dE:aK ["self","changes","name","by"] QZl (aD fJ):=fM
def oO:aK QZK QZK (aD cG):=fM
def nJ:aK ["self","row","word"] QZO (aD iE):=fM
def sY:aK QZO QZO (aD gD):=fM
def iN:aK ["self","row","ahead"] QZO (aD dL):=fM
def dQ:aK ["self","row","deed","was_asked"] QZO (aD cS):=fM
def nK:aK ["self","row","word"] QZO (aD iF):=fM
def gL:aK ["rows","walk","place","row"] QZM (aD iG):=fM
def kX:aK QZA QZM (aD gE):=fM
def iW:aK ["rows","word","told","row"] QZs (aD gG):=fM
def sZ:aK QZM QZM (aD eN):=fM
def iX:aK ["rows","came","book","row"] QZF (aD gH):=fM
def lW:aK QYV QZF (aD dM):=fM
def gT:aK QZk QZj (aD hU):=fM
def iY:aK QYT QZi (aD eO):=fM
def dS:aK ["rows","turn","numbers","came","asked","told","number"] QZh (aD gJ):=fM
def yF:aK QZG QZG (aD jQ):=fM
def fT:aK ["_law_deck_here","_law_many","_law_cell","_law_number"] QZP (aD jR):=fM
def cZ:aK QZg QZf (aD cT):=fM
def Az:aK QZP QZP (aD lM):=fM
def cB:aK ["_law_deck_here","_law_names","_law_houses","_law_amount","_law_at","_law_name","_law_other","_law_spot_here","_law_house","_law_there","_law_some"] QZz (aD jS):=fM
def jX:aK QYS QZe (aD fS):=fM
def fN:aK ["_law_deck_here","_law_deed_here","_law_word","_law_amount","_law_low","_law_high"] QZd (aD gK):=fM
def jY:aK ["_law_deck_here","_law_letters","_law_menus_here"] QZc (aD iH):=fM
def yG:aK QZL QZL (aD jT):=fM
def iO:aK ["_law_deck_here","_law_menus_here","_law_number","_law_turn","_law_deed_here","_law_words_here","_law_answer_here"] QZb (aD jU):=fM
def cR:aK ["_law_deck_here","_law_menus_here","_law_number","_law_turn","_law_rows","_law_name","_law_last","_law_k"] QZL (aD jV):=fM
def eQ:aK ["_law_book","_law_deed_here","_law_amount","_law_name","_law_have"] QZE (aD iI):=fM
def nL:aK ["_law_book","_law_deed_here","_law_behind"] QZE (aD iJ):=fM
def rD:aK QZr QZr (aD fK):=fM
def hV:aK ["_law_book","_law_deed_here","_law_answer_here","_law_name","_law_by"] QZq (aD fL):=fM
def dO:aK ["_law_deck_here","_law_book","_law_deed_here","_law_name","_law_have","_law_some","_law_amount"] QZp (aD iK):=fM
def gM:aK ["_law_deck_here","_law_book","_law_one","_law_due","_law_far","_law_some"] QZo (aD iM):=fM
def bF:aK QZy QZa (aD bN):=fM
def fB:aK ["_law_deck_here","_law_menus_here","_law_rows"] QZL (aD dW):=fM
def bI:aK QZn QYZ (aD bO):=fM
def cC:aK QYR QYY (aD eP):=fM
def bX:aK QZx QYX (aD cK):=fM
def fX:aK ["_law_script","_law_deck_here","_law_menus_here","_law_turn","_law_rows","_law_life","_law_when","_law_numbers","_law_other","_law_later","_law_again"] QZG (aD nH):=fM
structure Txt(K:W.Frag)(mg:V5):Prop where
 b_isinstance:mg "isinstance"=none
 b_int:mg "int"=none
 b_bool:mg "bool"=none
 b_str:mg "str"=none
 b_len:mg "len"=none
 b_all:mg "all"=none
 b_tuple:mg "tuple"=none
 b_zip:mg "zip"=none
 b_enumerate:mg "enumerate"=none
 b_sum:mg "sum"=none
 b_list:mg "list"=none
 b_range:mg "range"=none
 b_sorted:mg "sorted"=none
 b_max:mg "max"=none
 b_dict:mg "dict"=none
 b_min:mg "min"=none
 g_LETTERS:∃t,mg "LETTERS"=some (.str ("abcdefghijklmnopqrstuvwxyz") t)
 g_LONGEST_NAME:∃t,mg "LONGEST_NAME"=some (.int (8) t)
 g_MOST:∃t,mg "MOST"=some (.int (1000000000000) t)
structure Top(Pm:Params)(K:W.Frag)(mg:V5):Prop where
 g_RANKS:∃a,mg "RANKS"=some (.ref a)/\KTab K Pm a (RKS)
 g_UNASKED_WORDS:∃a,mg "UNASKED_WORDS"=some (.ref a)/\∀H,SqT K H a (UAW)
section
variable {P:Program}{w:World}{K:W.Frag}{mg:V5}{base:Heap}
def So(T:Txt K mg)(D:DefAt K mg "is_made_of" eJ QZD):aG P w K mg base 1 "is_made_of" QZD Kq:=by
 refine D.go sV (λvs H Q E h=>?_) (λf cdv A outer s H vs Q E hr h=>?_)
 ·obtain⟨x,sg,n,k,rfl,_⟩:=h;rfl
 ·obtain⟨x,sg,n,k,rfl,hk,hz,q⟩:=h;refine⟨_,(mo (nk (re (xz (ut (tm (R.fi .str (lc 0) rfl T.b_isinstance rfl T.b_str Ki))) (AO (ut (R.je R.le R.le ml (ql R.gm rfl T.b_len cD (li (lc 0) mm)) (lc 2)))))) (mv (nh qy)) nw) (mv (nh (ql (R.jf (K:=K) rfl) rfl T.b_all Kh (li (qv rfl (js:=[none,some 1]) (N:=["sign","signs"]) (CompScope.by (aD eJ) QZD rfl rfl Zk) (aO rfl) (R.wS (lc 0)) (λC s₂ H₂ fp=>⟨(o0 (i:=0) (show(["sign","signs"]:List Str).Nodup by decide +kernel)),wn,(qm R.jl (lc 0) (lc 1))⟩)) mm))))),?_⟩;have no:isK .str k=false->kP x sg.cps.toList n=false:=λe=>by
   cases x<;>first|rfl|(cases k<;>first|exact hk.elim|cases e)
  refine⟨k,hk,?_⟩
  cases x with
  | str z=>
   cases k<;>first|exact hk.elim|skip
   have GN:=hz z rfl;refine⟨gB GN,?_⟩;refine bG (λh1=>?_) (λh1=>?_)
   ·refine bG (λh2=>?_) (λh2=>?_)
    ·have e:kP (.str z) sg.cps.toList n=false:=by
      rw[jL];have M1:decide ((z.length:Int)<=n)=false:=by simpa using h2
      rw[M1];simp
     have h:=q H (Same.refl H);rw[e]at h;exact h
    ·refine⟨z,rfl,Fs (Rp z) (by simp[tW,Str.length]at GN ⊢;omega) (λ_=>true) (λv=>match v with|.str y=>.bl (decide (y.cps.toList.headD 0∈sg.cps.toList))|_=>.non) trivial (λv ys N hv ht hf=>?_) ?_⟩
     ·obtain⟨c,hc,rfl⟩:=Zmm.mp hv;exact⟨c,rfl,ht rfl⟩
     ·intro p hp;refine⟨p,z.cps.toList.map (λc=>decide (c∈sg.cps.toList)),rfl,QYL (by rw[aA,List.filter_eq_self.mpr (λ_ _=>rfl)];unfold tW;rw[map_map,map_map];rfl),?_⟩;have e:kP (.str z) sg.cps.toList n=List.all (z.cps.toList.map (λc=>decide (c∈sg.cps.toList))) id:=by
       rw[jL];have M1:decide ((z.length:Int)<=n)=true:=by simpa using h2
       have G9:decide (1<=(z.length:Int))=true:=h1;rw[M1,G9,all_map];simp[Function.comp_def]
      rw[<- e];exact q _ (λc o e=>by rw[aB (aE e hp)];exact e)
   ·have e:kP (.str z) sg.cps.toList n=false:=by
     rw[jL];have G9:decide (1<=(z.length:Int))=false:=h1;rw[G9];simp
    have h:=q H (Same.refl H);rw[e]at h;exact h
  | _=>
   cases k<;>first|exact hk.elim|exact q H (Same.refl H)
def Ba(T:Txt K mg)(W7:aG P w K mg base 1 "is_made_of" QZD Kq)(D:DefAt K mg "is_name" lI QZH):aG P w K mg base 2 "is_name" QZH (Kr LET 8):=by
 refine D.go Ax (λvs H Q E h=>?_) (λf cdv A outer s H vs Q E hr h=>?_)
 ·obtain⟨x,k,rfl,_⟩:=h;rfl
 ·obtain⟨x,k,rfl,hk,hz,q⟩:=h;have U3:=hr;refine⟨_,(mv (nh (mz W7 U3 rfl (li (lc 0) (li (R.gS rfl T.g_LETTERS) (li (R.gI rfl T.g_LONGEST_NAME) mm)))))),?_⟩;refine⟨x,_,8,k,rfl,hk,hz,λH' s'=>?_⟩;rw[Ak];exact q H' s'
def Mv(T:Txt K mg)(D:DefAt K mg "is_whole" jP QZv):aG P w K mg base 1 "is_whole" QZv Co:=by
 refine D.go yE (λvs H Q E h=>?_) (λf cdv A outer s H vs Q E hr h=>?_)
 ·obtain⟨x,lo,hi,rfl,_⟩:=h;rfl
 ·obtain⟨x,lo,hi,rfl,⟨k,hk,hz⟩,q⟩:=h;refine⟨_,(mo (nk (re (xz (ut (tm (R.fi .int (lc 0) rfl T.b_isinstance rfl T.b_int oI))) (AO (tm (R.fi .bl (lc 0) rfl T.b_isinstance rfl T.b_bool Rn))))) (mv (nh qy)) nw) (mv (nh (R.jm R.le R.le (lc 1) (lc 0) (lc 2))))),?_⟩;have h:=q H (Same.refl H);refine⟨k,hk,?_⟩
  cases x with
  | int n=>
   cases k<;>first|exact hk.elim|skip
   refine⟨.int,trivial,?_⟩;show if decide (lo<=n)=true then _ else _
   have e:Al lo hi (.int n)=(decide (lo<=n)&&decide (n<=hi)):=rfl;refine bG (λh1=>?_) (λh1=>?_)
   ·rw[e,h1,Bool.true_and]at h;exact h
   ·rw[e,h1,Bool.false_and]at h;exact h
  | bl b=>
   cases k<;>first|exact hk.elim|skip
   exact⟨.bl,trivial,h⟩
  | _=>cases k<;>first|exact hk.elim|exact h
def Sq(T:Txt K mg)(D:DefAt K mg "asks_of" lJ QZN):aG P w K mg base 1 "asks_of" QZN vW:=by
 refine D.go mH (λvs H Q E h=>?_) (λf cdv A outer s H vs Q E hr h=>?_)
 ·obtain⟨p,wd,xs,cs,as,rfl,_⟩:=h;rfl
 ·obtain⟨p,wd,xs,cs,as,rfl,hp,⟨one,other,nm,n,hd⟩,q⟩:=h;refine⟨_,(mo (ng (i:=1) mH.nd (nj (li mq (li (mn (mr (K:=K)) (lc 0) (qr ml)) (li (mn (mr (K:=K)) (lc 0) (qr ml)) mm))))) (mo (ng (i:=2) mH.nd (nj (li mq (li (mn (mr (K:=K)) (lc 0) (qr ml)) (li (mn (mr (K:=K)) (lc 0) (qr ml)) mm))))) (mo (nk (ni pi (mn (mr (K:=K)) (lc 0) ml) mq) (mv (nh (nj (li (nj (li (mn (mr (K:=K)) (lc 0) ml) (li (lc 1) mm))) mm)))) nw) (mo (nk (ni pi (mn (mr (K:=K)) (lc 0) ml) mq) (mv (nh (nj (li (nj (li (mn (mr (K:=K)) (lc 0) ml) (li (lc 2) mm))) mm)))) nw) (mo (nk (ni pi (mn (mr (K:=K)) (lc 0) ml) mq) (mv (nh (nj (li (nj (li (mn (mr (K:=K)) (lc 0) ml) (li (lc 2) mm))) (li (nj (li (mn (mr (K:=K)) (lc 0) ml) (li (lc 1) mm))) mm))))) nw) (mv (nh (nj mm)))))))),?_⟩;cases hd
  all_goals
   refine⟨_,QYM hp,_,rfl,_,QYM hp,_,rfl,Zs,λp1 H1 s1 g1=>⟨_,QYM (s1 _ _ hp),_,rfl,_,QYM (s1 _ _ hp),_,rfl,Zs,λp2 H2 s2 g2=>?_⟩⟩;have C5:=(s1.trans s2) _ _ hp;refine⟨_,QYM C5,_,rfl,?_⟩
  case send=>exact⟨_,QYM C5,_,rfl,Zs,λp3 H3 s3 g3=>⟨Zs,λp4 H4 s4 g4=>q p4 _ H4 (((s1.trans s2).trans s3).trans s4) g4 (.cons ⟨p3,p1,rfl,s4 _ _ g3,s4 _ _ (s3 _ _ (s2 _ _ g1))⟩ .nil)⟩⟩
  all_goals refine⟨_,QYM C5,_,rfl,?_⟩
  case fetch=>exact⟨_,QYM C5,_,rfl,Zs,λp3 H3 s3 g3=>⟨Zs,λp4 H4 s4 g4=>q p4 _ H4 (((s1.trans s2).trans s3).trans s4) g4 (.cons ⟨p3,p2,rfl,s4 _ _ g3,s4 _ _ (s3 _ _ g2)⟩ .nil)⟩⟩
  all_goals refine⟨_,QYM C5,_,rfl,?_⟩
  case pass=>
   refine⟨_,QYM C5,_,rfl,Zs,λp3 H3 s3 g3=>⟨_,QYM (s3 _ _ C5),_,rfl,Zs,λp4 H4 s4 g4=>⟨Zs,λp5 H5 s5 g5=>?_⟩⟩⟩;exact q p5 _ H5 ((((s1.trans s2).trans s3).trans s4).trans s5) g5 (.cons ⟨p3,p2,rfl,s5 _ _ (s4 _ _ g3),s5 _ _ (s4 _ _ (s3 _ _ g2))⟩ (.cons ⟨p4,p1,rfl,s5 _ _ g4,s5 _ _ (s4 _ _ (s3 _ _ (s2 _ _ g1)))⟩ .nil))
  all_goals exact⟨Zd,λp3 H3 s3 g3=>q p3 [] H3 ((s1.trans s2).trans s3) g3 .nil⟩
def Bb(T:Txt K mg)(D:DefAt K mg "word_of" lK QZH):aG P w K mg base 1 "word_of" QZH xV:=by
 refine D.go Ay (λvs H Q E h=>?_) (λf cdv A outer s H vs Q E hr h=>?_)
 ·obtain⟨x,rfl,_⟩:=h;rfl
 ·obtain⟨x,rfl,hx,q⟩:=h;refine⟨_,(mo (nk (re (xz (ut (tm (R.fi .tup (lc 0) rfl T.b_isinstance rfl T.b_tuple Kj))) (xz (ni pi (ql (sn (K:=K)) rfl T.b_len cD (li (lc 0) mm)) ml) (AO (ut (tm (R.fi .str (mn (mr (K:=K)) (lc 0) ml) rfl T.b_isinstance rfl T.b_str Ki))))))) (mv (nh AT)) nw) (mv (nh (mn (mr (K:=K)) (lc 0) ml)))),?_⟩;rcases hx.1 with⟨hf,_⟩|⟨a,ys,rfl,h|h⟩|⟨a,kvs,rfl,h⟩
  ·cases x with
   | non=>exact⟨.non,trivial,q⟩
   | bl _=>exact⟨.bl,trivial,q⟩
   | int _=>exact⟨.int,trivial,q⟩
   | str _=>exact⟨.str,trivial,q⟩
   | _=>exact QZY (show false=true from hf) V2
  ·refine⟨.lst,.inl ⟨ys,h⟩,?_⟩;have e:kT H (.ref a)=.non:=by unfold kT kS;dsimp only;rw[h]
   rw[e]at q;exact q
  ·refine⟨.tup,⟨ys,h⟩,ys,.inr (QYM h),?_⟩;have e0:kT H (.ref a)=Ut ys:=by unfold kT;rw[qY h]
   rw[e0]at q;obtain⟨_,hp⟩:=hx.2 a ys rfl h
   cases ys with
   | nil=>exact q
   | cons y r=>
    have e1:mU (y::r) ((0:Nat):Int)=some y:=iC rfl;refine⟨y::r,QYM h,y,e1,?_⟩;obtain⟨k,hk⟩:=(hp y eV).kd;refine⟨k,hk,?_⟩
    cases y with
    | str u=>
     cases k<;>first|exact hk.elim|skip
     exact⟨_,QYM h,_,e1,q⟩
    | non=>cases k<;>first|exact hk.elim|exact q
    | bl _=>cases k<;>first|exact hk.elim|exact q
    | int _=>cases k<;>first|exact hk.elim|exact q
    | ref _=>cases k<;>first|exact hk.elim|exact q
    | _=>cases k<;>exact hk.elim
  ·refine⟨.dct,⟨kvs,h⟩,?_⟩;have e:kT H (.ref a)=.non:=by unfold kT kS;dsimp only;rw[h]
   rw[e]at q;exact q
def Mw(T:Txt K mg)(uv:aG P w K mg base 2 "is_name" QZH (Kr LET 8))(D:DefAt K mg "is_no" pW ["answer"]):aG P w K mg base 3 "is_no" ["answer"] Lz:=by
 refine D.go Mu (λvs H Q E h=>?_) (λf cdv A outer s H vs Q E hr h=>?_)
 ·obtain⟨a,xs,rfl,_⟩:=h;rfl
 ·obtain⟨a,xs,rfl,h,hp,q⟩:=h;have rm:=hr;refine⟨_,(mv (nh (vf (qm pi (ql (sn (K:=K)) rfl T.b_len cD (li (lc 0) mm)) ml) (vg (mz uv rm rfl (li (mn (mr (K:=K)) (lc 0) ml) mm)))))),?_⟩;refine⟨xs,.inr (QYM h),?_⟩
  match xs,h,hp,q with
  | [],h,hp,q=>exact q H (Same.refl _)
  | [_],h,hp,q=>exact q H (Same.refl _)
  | [x,y],h,hp,q=>
   obtain⟨k,hk⟩:=(hp y Zs).kd;refine⟨_,QYM h,y,rfl,y,k,rfl,hk,?_,λH' s'=>q H' s'⟩;intro z e;subst e;rcases hp (.str z) Zs with⟨_,h⟩|⟨_,_,e,_⟩|⟨_,_,e,_⟩
   ·exact h z rfl
   ·cases e
   ·cases e
  | x::y::z::r,h,hp,q=>
   exact q H (Same.refl _)
def pX{H:Hp}:∀ {L:List (Str×List (Int×Int))}{kvs:List (aT×V)},Paired (λa b=>b.1=Sum.inr a.1/\xU H (some a.2) (some b.2)) L kvs->∀u:Str,xU H (L.lookup u) (bA kvs (Sum.inr u))
 | _,_,.nil,u=>rfl
 | a::L,b::kvs,.cons h t,u=>by
  rw[lookup_cons];by_cases e:u=a.1
  ·subst e;rw[beq_self_eq_true,cH h.1];exact h.2
  ·have hb:(u==a.1)=false:=beq_eq_false_iff_ne.mpr e;rw[hb,cI (by rw[h.1];intro z;exact e (Sum.inr.inj z).symm)];exact pX t u
def mk2{a b:Str}(h:([Sum.inr a,Sum.inr b]:List aT).Nodup)(x y:V):aM [] [(Sum.inr a,x),(Sum.inr b,y)]=[(Sum.inr a,x),(Sum.inr b,y)]:=gQ _ _ h λ_ _=>rfl
def mk3{a b c:Str}(h:([Sum.inr a,Sum.inr b,Sum.inr c]:List aT).Nodup)(x y z:V):aM [] [(Sum.inr a,x),(Sum.inr b,y),(Sum.inr c,z)]=[(Sum.inr a,x),(Sum.inr b,y),(Sum.inr c,z)]:=gQ _ _ h λ_ _=>rfl
def Gn(T:Txt K mg)(D:DefAt K mg "bounds_of" iD QZN):aG P w K mg base 1 "bounds_of" QZN xW:=by
 refine D.go dN (λvs H Q E h=>?_) (λf cdv A outer s H vs Q E hr h=>?_)
 ·obtain⟨p,wd,n,xs,as,rfl,_⟩:=h;rfl
 ·obtain⟨p,wd,n,xs,as,rfl,hp,⟨⟨one,other,nm,cs,hd⟩,_⟩,q⟩:=h;refine⟨_,(mo (ng (i:=1) dN.nd (mn (mr (K:=K)) (lc 0) (qr ml))) (mo (ng (i:=2) dN.nd (nj (li ml (li (my vh (R.gI rfl T.g_MOST) (lc 1)) mm)))) (mo (ng (i:=3) dN.nd (nj (li (lc 1) (li (R.gI rfl T.g_MOST) mm)))) (mo (ng (i:=4) dN.nd (nj (li ml (li (my vh (lc 1) ml) mm)))) (mo (ng (i:=5) dN.nd (nj (li (my qi (my vh (R.gI rfl T.g_MOST) (lc 1)) ml) (li (R.gI rfl T.g_MOST) mm)))) (mo (nk (ni pi (mn (mr (K:=K)) (lc 0) ml) mq) (mv (nh K5)) nw) (mo (nk (ni pi (mn (mr (K:=K)) (lc 0) ml) mq) (mv (nh (R.gs (wr mq (nj (li (lc 2) (li (lc 3) mm))) (wr mq (nj (li (lc 4) mm)) (wr mq (nj (li (lc 5) mm)) R.gu)))))) nw) (mo (nk (ni (sw (K:=K)) (mn (mr (K:=K)) (lc 0) ml) (nj (li mq (li mq mm)))) (mv (nh (R.gs (wr mq (nj (li (lc 2) mm)) (wr mq (nj (li (lc 4) mm)) R.gu))))) nw) (mv (nh (R.gs (wr mq (nj (li (lc 3) mm)) (wr mq (nj (li (lc 5) mm)) R.gu))))))))))))),?_⟩;have el:mU xs (-1)=some (.int n):=by cases hd<;>rfl
  refine⟨_,QYM hp,_,el,?_⟩;dsimp only [aJ];refine⟨Zs,λp1 H1 s1 g1=>⟨Zs,λp2 H2 s2 g2=>⟨Zs,λp3 H3 s3 g3=>⟨Zs,λp4 H4 s4 g4=>?_⟩⟩⟩⟩;have BZ:=((s1.trans s2).trans s3).trans s4;have U1:=BZ _ _ hp;have GO:=s4 _ _ (s3 _ _ (s2 _ _ g1));have QA:=s4 _ _ (s3 _ _ g2);have QB:=s4 _ _ g3;have fin:∀(H5:Hp)(pd:TD)(G:Hp)(kvs:List (aT×V)),Same H H5->H5 pd=none->Same (aI H5 pd (.dK [])) G->(∀u:Str,xU (aI G pd (.dK kvs)) ((Ly wd n).lookup u) (bA kvs (Sum.inr u)))->Q (.ref pd) (aI G pd (.dK kvs)):=λH5 pd G kvs sH y9 sG hb=>by
   refine q pd kvs _ (λc o e=>?_) aA hb;have e':=sH _ _ e;rw[aB (aE e' y9)];exact sG _ _ (aF y9 _ _ e')
  have at_:∀ {H5:Hp}{pd:TD}{G:Hp}{kvs:List (aT×V)}{c:TD}{ys:List V},Same (aI H5 pd (.dK [])) G->G c=some (.tup ys)->aI G pd (.dK kvs) c=some (.tup ys):=λ{H5 pd G kvs c ys} sG e=>by
   have:c≠pd:=λz=>by have h:=sG _ _ aA;rw[<- z,e]at h;cases h
   rw[aB this];exact e
  have b1:∀ {G:Hp}{c t:TD}{lo hi:Int},G t=some (.tup [.ref c])->G c=some (.tup [.int lo,.int hi])->xU G (some [(lo,hi)]) (some (.ref t)):=λ{G c t lo hi} h1 h2=>⟨t,[(c,lo,hi)],rfl,h1,λz hz=>by rw[Zms.mp hz];exact h2,rfl⟩
  cases hd with
  | pass=>
   refine⟨_,QYM U1,_,rfl,?_⟩;intro d hd;exact q d [] _ (BZ.trans (aF hd)) aA λu=>rfl
  | move=>
   refine⟨_,QYM U1,_,rfl,?_⟩;refine⟨_,QYM U1,_,rfl,?_⟩;intro pd y9;refine⟨Zs,λq1 G1 r1 e1=>⟨Zs,λq2 G2 r2 e2=>⟨Zs,λq3 G3 r3 e3=>⟨r3 _ _ (r2 _ _ (r1 _ _ aA)),[(Sum.inr ("is":Str),.ref q1),(Sum.inr ("short":Str),.ref q2),(Sum.inr ("full":Str),.ref q3)],rfl,Zs,?_⟩⟩⟩⟩;rw[mk3 Zk];have sG:=(r1.trans r2).trans r3;have up:=λ{c:TD}{ys:List V} (e:H4 c=some (.tup ys))=>sG _ _ (aF (o:=.dK []) y9 _ _ e)
   refine fin H4 pd G3 _ BZ y9 sG (pX (.cons ⟨rfl,?_⟩ (.cons ⟨rfl,b1 (at_ sG (r3 _ _ e2)) (at_ sG (up QB))⟩ (.cons ⟨rfl,b1 (at_ sG e3) (at_ sG (up g4))⟩ .nil))));exact⟨q1,[(p1,_,_),(p2,_,_)],rfl,at_ sG (r3 _ _ (r2 _ _ e1)),λz hz=>by
    simp only [mem_cons,QZT,or_false]at hz;rcases hz with rfl|rfl
    ·exact at_ sG (up GO)
    ·exact at_ sG (up QA),rfl⟩
  | take|send=>
   refine⟨_,QYM U1,_,rfl,?_⟩;refine⟨_,QYM U1,_,rfl,?_⟩;refine⟨_,QYM U1,_,rfl,Zs,λp5 H5 s5 g5=>⟨p5,_,rfl,.inr (QYM g5),rfl,rfl,?_⟩⟩;intro pd y9;refine⟨Zs,λq1 G1 r1 e1=>⟨Zs,λq2 G2 r2 e2=>⟨r2 _ _ (r1 _ _ aA),[(Sum.inr ("is":Str),.ref q1),(Sum.inr ("short":Str),.ref q2)],rfl,Zs,?_⟩⟩⟩;rw[mk2 Zk];have sG:=r1.trans r2;have up:=λ{c:TD}{ys:List V} (e:H4 c=some (.tup ys))=>sG _ _ (aF (o:=.dK []) y9 _ _ (s5 _ _ e))
   exact fin H5 pd G2 _ (BZ.trans s5) y9 sG (pX (.cons ⟨rfl,b1 (at_ sG (r2 _ _ e1)) (at_ sG (up GO))⟩ (.cons ⟨rfl,b1 (at_ sG e2) (at_ sG (up QB))⟩ .nil)))
  | add|fetch=>
   refine⟨_,QYM U1,_,rfl,?_⟩;refine⟨_,QYM U1,_,rfl,?_⟩;refine⟨_,QYM U1,_,rfl,Zs,λp5 H5 s5 g5=>⟨p5,_,rfl,.inr (QYM g5),rfl,rfl,?_⟩⟩;intro pd y9;refine⟨Zs,λq1 G1 r1 e1=>⟨Zs,λq2 G2 r2 e2=>⟨r2 _ _ (r1 _ _ aA),[(Sum.inr ("is":Str),.ref q1),(Sum.inr ("full":Str),.ref q2)],rfl,Zs,?_⟩⟩⟩;rw[mk2 Zk];have sG:=r1.trans r2;have up:=λ{c:TD}{ys:List V} (e:H4 c=some (.tup ys))=>sG _ _ (aF (o:=.dK []) y9 _ _ (s5 _ _ e))
   exact fin H5 pd G2 _ (BZ.trans s5) y9 sG (pX (.cons ⟨rfl,b1 (at_ sG (r2 _ _ e1)) (at_ sG (up QA))⟩ (.cons ⟨rfl,b1 (at_ sG e2) (at_ sG (up g4))⟩ .nil)))
def yH{α:Type}{xs:List α}{i:Nat}{x:α}(h:xs[i]?=some x):xs.take (i+1)=xs.take i++[x]:=by
 rw[List.take_succ,h];rfl
def Go(T:Txt K mg)(rn:aG P w K mg base 1 "is_whole" QZv Co)(D:DefAt K mg "are_within" eL QZC):aG P w K mg base 2 "are_within" QZC xX:=by
 refine D.go sX (λvs H Q E h=>?_) (λf cdv A outer s H vs Q E hr h=>?_)
 ·obtain⟨a,t,xs,bs,rfl,_⟩:=h;rfl
 ·obtain⟨a,t,xs,bs,rfl,ha,hl,hx,ht,hb,q⟩:=h;have ou:=hr;refine⟨_,(mo (nk (ni R.ne (ql (sn (K:=K)) rfl T.b_len cD (li (lc 0) mm)) (ql (sn (K:=K)) rfl T.b_len cD (li (lc 1) mm))) (mv (nh qy)) nw) (mv (nh (ql (R.jf (K:=K) rfl) rfl T.b_all Kh (li (qv rfl (js:=[none,none]) (N:=QYU) (CompScope.by (aD eL) QZC rfl rfl Zk) (xL (jK rfl (jK rfl tT))) (R.iu (K:=K) rfl T.b_zip (lc 0) (lc 1)) (λC s₂ H₂ fp=>⟨(FM (K:=K) (n:=2) rfl (qt (o0 (i:=0) (show(QYU:List Str).Nodup by decide +kernel)) (qt (o0 (i:=1) (show(QYU:List Str).Nodup by decide +kernel)) FS))),wn,(mz rn ou rfl (li (lc 0) (li (mn (mr (K:=K)) (lc 1) ml) (li (mn (mr (K:=K)) (lc 1) ml) mm))))⟩)) mm))))),?_⟩;refine⟨xs,.inr (QYM ha),vY bs,.inr (QYM ht),?_⟩;have MJ:(vY bs).length=(bs.map (·.2)).length:=by unfold vY;rw[aS,aS]
  dsimp only [mNe,mB];refine bG (λh=>?_) (λh=>?_)
  ·have h':xs.length≠(bs.map (·.2)).length:=by
    rw[<- MJ];intro e;rw[e]at h;simp at h
   have:=q H (Same.refl _);unfold bC at this;rw[T0 h',Bool.false_and]at this;exact this
  ·have h':xs.length=(bs.map (·.2)).length:=by
    rw[<- MJ];have:((xs.length:Int)=((vY bs).length:Int)):=by simpa using h
    omega
   have hlb:bs.length=xs.length:=by rw[h',aS]
   refine⟨false,false,xs,vY bs,QYM ha,QYM ht,?_⟩;refine Lv Zo (λi ys H'=>ys=(((xs.zip (bs.map (·.2))).take i).map λq=>Al q.2.1 q.2.2 q.1).map V.bl/\Same H H') (λi ys H' ⟨e,s'⟩=>⟨QYM (s' _ _ ha),QYM (s' _ _ ht),by rw[e,aS,aS,nU];exact min_le_left _ _⟩) ⟨rfl,Same.refl _⟩ (?_) (?_)
   ·rintro i x y ys H' t' om EC ⟨e,s'⟩ BB;unfold vY at EC;rw[fA]at EC;cases hn:bs[i]? with
    | none=>rw[hn]at EC;cases EC
    | some z=>
     rw[hn]at EC;cases EC;have s2:=s'.trans (aF (o:=.tup [x,.ref z.1]) BB);have gz:=s2 _ _ (hb z (kI hn));have ez:(xs.zip (bs.map (·.2)))[i]?=some (x,z.2):=by
      rw[List.getElem?_zip_eq_some];exact⟨om,by rw[fA,hn];rfl⟩
     refine⟨t',_,rfl,QYM aA,rfl,_,_,rfl,_,_,rfl,rfl,_,QYM gz,_,rfl,_,QYM gz,_,rfl,x,z.2.1,z.2.2,rfl,((hx x (kI om)).same s2).pt,λK6 BO=>⟨?_,s2.trans BO⟩⟩;rw[yH ez,dJ,dJ,e];rfl
   ·rintro ys H' ⟨e,s'⟩;intro l ue;refine⟨l,((xs.zip (bs.map (·.2))).map λq=>Al q.2.1 q.2.2 q.1),rfl,QYL ?_,?_⟩
    ·rw[aA,e];have:(xs.zip (bs.map (·.2))).take (min xs.length (vY bs).length)=xs.zip (bs.map (·.2)):=iB (by rw[List.length_zip,MJ];exact aY _);rw[this]
    ·have:=q (aI H' l (.lst ys)) (s'.trans (aF ue));unfold bC at this;rw[T8 h',Bool.true_and]at this;rw[all_map];exact this
def Sr{wd:Str}{xs:List V}{cs:List (Str×Int)}{as:List (Str×List V)}(h:DWX wd xs cs as):mU xs 0=some (.str wd):=by
 obtain⟨one,other,nm,n,hd⟩:=h;cases hd<;>rfl
def Gp(wd:Str)(hs:List Str)(n:Int)(u:Str)(r:List V):Gc wd hs n (.str u::r)=if u="no" then (match r with|[y]=>pM y hs|_=>false) else if u="ok" then decide (wd="pass")&&r.isEmpty else match (Ly wd n).lookup u with|some bs=>bC r bs|none=>false:=rfl
def Ss{hs:List Str}(h:∀z∈hs,fO z)(y:V)(m:pM y hs=true):nmV y=true:=by
 cases y with
 | str z=>exact Yi (h z (by simpa [pM]using m))
 | _=>cases m
def wE(T:Txt K mg)(uw:aG P w K mg base 1 "word_of" QZH xV)(zg:aG P w K mg base 3 "is_no" ["answer"] Lz)(y6:aG P w K mg base 1 "asks_of" QZN vW)(ow:aG P w K mg base 1 "bounds_of" QZN xW)(W8:aG P w K mg base 2 "are_within" QZC xX)(D:DefAt K mg "is_answer" fQ QZm):aG P w K mg base 4 "is_answer" QZm Ct:=by
 refine D.go jW (λvs H Q E h=>?_) (λf cdv A outer s H vs Q E hr h=>?_)
 ·obtain⟨p,wd,n,xs,as,x,rfl,_⟩:=h;rfl
 ·obtain⟨p,wd,n,xs,as,x,rfl,hp,hd,hx,q⟩:=h;have rp:Room 1 _:=hr.mono Zd;have u4:Room 1 _:=hr.mono Zd;have W9:Room 1 _:=hr.mono Zd;have U4:Room 2 _:=hr.mono Zd;have vw:=hr;have d6:=dP hr;refine⟨_,(mo (ng (i:=2) jW.nd (mz uw rp rfl (li (lc 1) mm))) (mo (nk (ni pi (lc 2) mq) (mv (nh (vf (mz zg vw rfl (li (lc 1) mm)) (vg (qm (sw (K:=K)) (mn (mr (K:=K)) (lc 1) ml) (qv rfl (js:=[none,none]) (N:=["house","there"]) (CompScope.by (aD fQ) ["deed","thing","word","bounds"] rfl rfl Zk) (xL (jK rfl (jK rfl tT))) (R.ic (K:=K) (mz y6 u4 rfl (li (lc 0) mm))) (λC s₂ H₂ fp=>⟨(FM (K:=K) (n:=2) rfl (qt (o0 (i:=0) (show(["house","there"]:List Str).Nodup by decide +kernel)) (qt (o0 (i:=1) (show(["house","there"]:List Str).Nodup by decide +kernel)) FS))),wn,(lc 0)⟩))))))) nw) (mo (nk (ni pi (lc 2) mq) (mv (nh (vf (qm pi (mn (mr (K:=K)) (lc 0) ml) mq) (vg (qm pi (ql (sn (K:=K)) rfl T.b_len cD (li (lc 1) mm)) ml))))) nw) (mo (ng (i:=3) jW.nd (mz ow W9 rfl (li (lc 0) mm))) (mv (nh (vf (qm (R.iw d6) (lc 2) (lc 3)) (vg (mz W8 U4 rfl (li (qw sy (lc 1) (qo ml) tf) (li (tj d6 (lc 3) (lc 2)) mm))))))))))),?_⟩;refine⟨x,rfl,hx,?_⟩;dsimp only [aJ];obtain⟨cs,vk⟩:=hd.dwx;have ED:kT H x=.non->Ar H wd (as.map (·.1)) n x=false->∀ {R:Prop},R=R->True:=λ_ _ _ _=>trivial
  have key:(kT H x=.non/\Ar H wd (as.map (·.1)) n x=false)∨∃a u r,x=.ref a/\H a=some (.tup (.str u::r))/\kT H x=.str u/\Ar H wd (as.map (·.1)) n x=Gc wd (as.map (·.1)) n (.str u::r):=by
   unfold kT Ar;cases e:kS H x with
   | none=>exact .inl ⟨rfl,rfl⟩
   | some ys=>
    have:∃a,x=.ref a/\H a=some (.tup ys):=by
     unfold kS at e;cases x with
     | ref a=>
      dsimp only at e;refine⟨a,rfl,?_⟩;split at e
      ·cases e;assumption
      ·cases e
     | _=>cases e
    obtain⟨a,rfl,h⟩:=this
    cases ys with
    | nil=>exact .inl ⟨rfl,rfl⟩
    | cons y r=>cases y with
     | str u=>exact .inr ⟨a,u,r,rfl,h,rfl,rfl⟩
     | _=>exact .inl ⟨rfl,rfl⟩
  rcases key with⟨ew,ea⟩|⟨a,u,r,rfl,h,ew,ea⟩
  ·rw[ew];refine⟨p,wd,n,xs,as,rfl,hp,hd,λd kvs H1 s1 g1 hb=>?_⟩;refine⟨⟨kvs,g1⟩,?_⟩;have:=q H1 s1;rw[ea]at this;exact this
  ·rw[ew];rw[ea,Gp]at q;obtain⟨hl,QC⟩:=hx.2 a _ rfl h;have MK:∀y∈r,Pc H y:=λy hy=>QC y (iV _ hy)
   show if decide (u="no")=true then _ else _
   refine bG (λh0=>?_) (λh0=>?_)
   ·rw[P0 (UV h0)]at q;refine⟨a,_,rfl,h,QC,λH1 s1=>?_⟩;show if Uu (.str u::r)=true then _ else _
    refine bG (λh1=>?_) (λh1=>?_)
    ·match r,h1,q,h,MK with
     | [y],h1,q,h,MK=>
      have XN:nmV y=true:=h1
      cases y with
      | str z=>
       refine⟨_,QYM (s1 _ _ h),_,rfl,p,wd,xs,cs,as,rfl,s1 _ _ hp,vk,λt us H2 s2 g2 ha=>⟨t,rfl,⟨_,QYM g2⟩,?_⟩⟩;refine aV (vP K t us) (by have:=ha.length;obtain⟨one,other,nm,n',hh⟩:=vk;rw[<- this];cases hh<;>simp) (λi ys H'=>H'=H2/\ys=((as.take i).map (·.1)).map V.str) (λi ys H' ⟨e,e2⟩=>⟨by rw[e];exact QYM g2,by rw[e2,aS,aS,nU];exact min_le_left _ _⟩) ⟨rfl,rfl⟩ (λi v ys H' hv ⟨e,e2⟩=>?_) (λys H' ⟨e,e2⟩=>?_)
       ·subst e;obtain⟨hi,ev⟩:=Zgs.mp hv;obtain⟨CA,a',d',QD,ga,gd⟩:=Paired.get' (j:=i) ha hi;rw[ev]at QD;subst QD;refine⟨a',_,rfl,QYM ga,rfl,_,_,rfl,_,_,rfl,rfl,rfl,?_⟩;rw[yH (eZ CA),dJ,dJ,e2];rfl
       ·subst e;intro l ue;have e3:ys=(as.map (·.1)).map V.str:=by rw[e2,<- ha.length,List.take_length]
        refine⟨l,_,rfl,.inl (QYL aA),rfl,by rw[e3];exact Ft _,?_⟩;have:=q (aI H' l (.lst ys)) ((s1.trans s2).trans (aF ue));show Q (.bl (mM (.str z) ys)) _;rw[e3,Rs]at *;exact this
      | _=>cases XN
    ·have e:(match r with|[y]=>pM y (as.map (·.1))|_=>false)=false:=by
      match r,h1 with
      | [],_=>rfl
      | [y],h1=>
       have G9:nmV y=false:=h1
       cases m:pM y (as.map (·.1)) with
       | false=>exact m
       | true=>
        have:=Ss (hs:=as.map (·.1)) (λz hz=>by obtain⟨q',oi,rfl⟩:=Zmm.mp hz;exact hd.nm q' oi) y m;rw[this]at G9;cases G9
      | _::_::_,_=>rfl
     rw[e]at q;exact q H1 s1
   ·rw[QZZ (UF h0)]at q;show if decide (u="ok")=true then _ else _
    refine bG (λh1=>?_) (λh1=>?_)
    ·rw[P0 (UV h1)]at q;refine⟨_,QYM hp,_,Sr vk,?_⟩;show if decide (wd="pass")=true then _ else _
     have q':=q H (Same.refl _);refine bG (λh2=>?_) (λh2=>?_)
     ·rw[h2,Bool.true_and]at q';refine⟨_,.inr (QYM h),?_⟩;have e:r.isEmpty=decide ((((V.str u::r).length:Nat):Int)=1):=by
       cases r with
       | nil=>rfl
       | cons y r=>symm;exact T0 (by rw[qE,qE];omega)
      rw[e]at q';exact q'
     ·rw[h2,Bool.false_and]at q';exact q'
    ·rw[QZZ (UF h1)]at q;refine⟨p,wd,n,xs,as,rfl,hp,hd,λd kvs H1 s1 g1 hb=>?_⟩;dsimp only [aJ];have JH:=hb u;refine⟨kvs,g1,?_⟩;show if (bA kvs (Sum.inr u)).isSome=true then _ else _
     cases eb:(Ly wd n).lookup u with
     | none=>
      rw[eb]at JH q;have hv:bA kvs (Sum.inr u)=none:=JH;rw[hv];exact q H1 s1
     | some bs=>
      rw[eb]at JH q;obtain⟨t,zs,hv,gt,XQ,hm⟩:=JH;rw[hv];refine⟨_,s1 _ _ h,λp2 H2 s2 g2=>⟨d,.ref t,rfl,?_,p2,t,r,zs,rfl,?_,?_,λy hy=>(MK y hy).same (s1.trans s2),s2 _ _ gt,XQ.same s2,λH3 s3=>?_⟩⟩
      ·have:=DGet.k (k:=Sum.inr u) (s2 _ _ g1);rw[hv]at this;exact this
      ·have ec:kC (V.str u::r) (some 1) none=r:=Kl _ 1;rw[ec]at g2;exact g2
      ·rw[qE]at hl;omega
      ·rw[hm];exact q H3 ((s1.trans s2).trans s3)
def bT:Sp:=λvs H Q _=>∃d b m,vs=[.ref d,.int m]/\Dk H d b/\0<m/\m<18446744073709551616/\∀r H',0<=r->r<m->Dk H' d b->Kp d b H H'->Q (.int r) H'
def Su(T:Txt K mg)(D:DefAt K mg "_law_deck" jQ QZG):aG P w K mg base 1 "_law_deck" QZG (Kk K):=by
 refine D.go yF (λvs H Q E h=>?_) (λf cdv A outer s H vs Q E hr h=>?_)
 ·obtain⟨a,ns,rfl,_⟩:=h;rfl
 ·obtain⟨a,ns,rfl,hS,q⟩:=h;refine⟨_,(mv (nh (qk (li (IN (R.jn (K:=K)) rfl T.b_list Cm (li (qw (R.ie (K:=K)) (lc 0) tf (qo ml)) mm)) (li (my qi ml (my zn (ql (R.jo (K:=K) rfl) rfl T.b_sum Xy (li (qw (R.ie (K:=K)) (lc 0) tf (qo ml)) mm)) ml)) (li ml mm)))))),?_⟩;have hc:kC (ns.map V.int) none (some 63)=(ns.take 63).map V.int:=by rw[Rq];exact congrArg _ (Ai ns 63)
  refine⟨_,hS,λp1 zh=>⟨_,.inl (QYL aA),λb hb=>?_⟩⟩;have s2:Same H (aI (aI H p1 (.lst (kC (ns.map V.int) none (some 63)))) b (.lst (kC (ns.map V.int) none (some 63)))):=(aF zh).trans (aF hb);have g2:(aI (aI H p1 (.lst (kC (ns.map V.int) none (some 63)))) b (.lst (kC (ns.map V.int) none (some 63)))) b=some (.lst ((ns.take 63).map V.int)):=by rw[aA,hc]
  have QE:H b=none:=(aF zh).free hb;show kJ _ _ _ (aI (aI H p1 (.lst (kC (ns.map V.int) none (some 63)))) b (.lst (kC (ns.map V.int) none (some 63)))) _;generalize aI (aI H p1 (.lst (kC (ns.map V.int) none (some 63)))) b (.lst (kC (ns.map V.int) none (some 63)))=H2 at s2 g2;refine⟨_,s2.seq hS,λp2 C5=>⟨p2,ns.take 63,rfl,QYL (by rw[aA,hc]),by show(0:Int)<2147483629;decide,eT rfl,λd hd=>?_⟩⟩;have s4:Same H (aI H2 p2 (.lst (kC (ns.map V.int) none (some 63)))):=s2.trans (aF C5);have JI:b≠d:=aE ((aF C5) _ _ g2) hd;refine q d b _ (s4.free hd) QE ⟨ns.take 63,_,_,aA,?_,?_⟩ (s4.trans (aF hd))
  ·rw[aB JI];exact(aF C5) _ _ g2
  ·rw[nU];exact min_le_left _ _
def Mx(D:DefAt K mg "_law_draw" jR QZP) :
  aG P w K mg base 1 "_law_draw" QZP bT:=by
 refine D.go fT (λvs H Q E h=>?_) (λf cdv A outer s H vs Q E hr h=>?_)
 ·obtain⟨d,b,m,rfl,_⟩:=h;rfl
 ·obtain⟨d,b,m,rfl,dk,hm,nt,q⟩:=h;have hu:=hr.units0;obtain⟨ns,s0,k0,h1,h2,h3⟩:=dk.ex;have ML:d≠b:=cV h1 h2 (by
   intro z;injection z with z
   cases ns with
   | nil=>cases z
   | cons z1 zs=>injection z with z _;cases z)
  refine⟨_,(mo (tz (my qi (mn (qj (K:=K)) (lc 0) ml) ml) (uc (lc 0) ml R.jg)) (mo (ng (i:=2) fT.nd (mn (qj (K:=K)) (lc 0) ml)) (mo (nk (ni (R.jp (K:=K) hu) (mn (qj (K:=K)) (lc 0) ml) (qk mm)) (mo (ng (i:=2) fT.nd (ub (K:=K) PySem.F.plainAttrs_list PySem.F.slot_list_pop PySem.F.type_list_pop R.jq (mn (qj (K:=K)) (lc 0) ml) (li ml mm))) (mv (nk (ni R.ge (lc 2) (my ud ml ml)) (mo (ua (ub (K:=K) PySem.F.plainAttrs_list PySem.F.slot_list_insert PySem.F.type_list_insert R.iz (mn (qj (K:=K)) (lc 0) ml) (li ml (li (my R.gv (lc 2) (lc 1)) mm)))) (mv (nh (my zn (lc 2) (lc 1))))) nw))) nw) (mo (ng (i:=3) fT.nd (my zn (my qi (my qi (my R.fj (my zn (lc 2) ml) ml) (my R.fj ml (mn (qj (K:=K)) (lc 0) ml))) ml) ml)) (mo (ng (i:=3) fT.nd (my zn (my R.fj (lc 3) (lc 3)) ml)) (mv (nh (my zn (my R.gv (my zn (my R.fj (lc 3) (my qi (lc 3) ml)) ml) ml) (lc 1))))))))),?_⟩;refine⟨_,QYL h1,_,rfl,d,_,2,2,rfl,rfl,h1,rfl,?_⟩;have g1:(aI H d (.lst [.ref b,.int s0,.int (k0+1)])) d=some (.lst [.ref b,.int s0,.int (k0+1)]):=aA;have g2:(aI H d (.lst [.ref b,.int s0,.int (k0+1)])) b=some (.lst (ns.map V.int)):=by rw[aB ML.symm];exact h2
  have QF:Kp d b H (aI H d (.lst [.ref b,.int s0,.int (k0+1)])):=λc o e n1 n2=>by rw[aB n1];exact e
  show sI _ _ _ _ (aI H d (.lst [.ref b,.int s0,.int (k0+1)]));generalize aI H d (.lst [.ref b,.int s0,.int (k0+1)])=H1 at g1 g2 QF;refine⟨_,QYL g1,_,rfl,?_⟩;dsimp only [aJ];refine Ya (t:=Eo _ _ _) (λσ' H'=>∃c:Int,σ'=[some (.ref d),some (.int m),some (.int c),none]/\(∃ui:List Int,H' d=some (.lst [.ref b,.int s0,.int (k0+1)])/\H' b=some (.lst (ui.map V.int))/\ui.length<=63)/\Kp d b H H') (λnx b6=>?_) ?_
  ·refine⟨_,QYL g1,_,rfl,eT rfl,λp hp=>⟨b,p,_,rfl,rfl,QYL (by rw[aB (aE g2 hp)];exact g2),QYL aA,?_⟩⟩;have e1:(aI H1 p (.lst [])) d=some (.lst [.ref b,.int s0,.int (k0+1)]):=by rw[aB (aE g1 hp)];exact g1
   have e2:(aI H1 p (.lst [])) b=some (.lst (ns.map V.int)):=by rw[aB (aE g2 hp)];exact g2
   have MM:Kp d b H (aI H1 p (.lst [])):=QF.trans (.new hp);generalize aI H1 p (.lst [])=H2 at e1 e2 MM;cases ns with
   | nil=>
    exact b6 _ _ ⟨_,rfl,⟨[],e1,e2,h3⟩,MM⟩
   | cons z ns=>
    have hl:ns.length+1<=63:=by simpa using h3
    refine⟨_,QYL e1,_,rfl,.inl ⟨rfl,_,QYL e2⟩,b,_,0,0,.int z,rfl,rfl,e2,Zd,Zd,by simp[seqIndex?],rfl,?_⟩;have f1:(aI H2 b (.lst ((List.map V.int (z::ns)).eraseIdx 0))) d=some (.lst [.ref b,.int s0,.int (k0+1)]):=by rw[aB ML];exact e1
    have f2:(aI H2 b (.lst ((List.map V.int (z::ns)).eraseIdx 0))) b=some (.lst (ns.map V.int)):=by rw[aA];rfl
    have MN:Kp d b H (aI H2 b (.lst ((List.map V.int (z::ns)).eraseIdx 0))):=λc o e n1 n2=>by rw[aB n2];exact MM c o e n1 n2
    dsimp only [aJ];generalize aI H2 b (.lst ((List.map V.int (z::ns)).eraseIdx 0))=H3 at f1 f2 MN;refine⟨⟨Zd,Zd,Zd⟩,?_⟩;refine bG (λ_=>?_) (λ_=>?_)
    ·refine⟨_,QYL f1,_,rfl,.inl ⟨rfl,_,QYL f2⟩,⟨hm,nt⟩,b,_,0,_,rfl,rfl,f2,zero_le _,nS (m:=63) (by rw[aS];omega) Zd,hm,?_⟩;refine q _ _ (Int.emod_nonneg _ Zo) (Int.emod_lt_of_pos _ hm) ⟨z/m::ns,s0,k0+1,by rw[aB ML];exact f1,by rw[aA];rfl,by simpa using hl⟩ λc o e n1 n2=>by rw[aB n2];exact MN c o e n1 n2
    ·exact b6 _ _ ⟨_,rfl,⟨ns,f1,f2,Zo⟩,MN⟩
  ·rintro σ' H' ⟨c,rfl,⟨ui,f1,f2,f3⟩,kp⟩;refine⟨by show(0:Int)<_;decide,.inr ⟨Zd,Zd⟩,_,QYL f1,_,rfl,.inl ⟨Zd,Zd⟩,by show(0:Int)<_;decide,?_⟩;generalize hx:(c%2147483629*16807+69621*(k0+1)+7919)%2147483629=x;have hx0:0<=x:=by omega
   have hx1:x<2147483629:=by omega
   dsimp only [aJ];refine⟨.inl ⟨Zo,Zo⟩,by show(0:Int)<_;decide,?_⟩;generalize hy:x*x%2147483587=y;have hy0:0<=y:=by omega
   have hy1:y<2147483587:=by omega
   dsimp only [aJ];refine⟨.inl ⟨Zo,Zo⟩,by show(0:Int)<_;decide,⟨Zd,Zd⟩,hm,?_⟩;exact q _ _ (Int.emod_nonneg _ Zo) (Int.emod_lt_of_pos _ hm) ⟨ui,s0,k0+1,f1,f2,f3⟩ kp
def aBv{r:Int}(h0:0<=r)(h1:r<4):r=0∨r=1∨r=2∨r=3:=by omega
def six{r:Int}(h0:0<=r)(h1:r<6):r=0∨r=1∨r=2∨r=3∨r=4∨r=5:=by omega
def Zh(T:Txt K mg)(a6:aG P w K mg base 1 "_law_draw" QZP bT)(D:DefAt K mg "_law_end" lM QZP) :
  aG P w K mg base 2 "_law_end" QZP bT:=by
 refine D.go Az (λvs H Q E h=>?_) (λf cdv A outer s H vs Q E hr h=>?_)
 ·obtain⟨d,b,m,rfl,_⟩:=h;rfl
 ·obtain⟨d,b,m,rfl,dk,hm,nt,q⟩:=h;have a7:=hr;refine⟨_,(mv (nh (mn (qj (K:=K)) (qk (li ml (li (my vh (lc 1) ml) (li (mz a6 a7 rfl (li (lc 0) (li (lc 1) mm))) (li (mz a6 a7 rfl (li (lc 0) (li (lc 1) mm))) mm))))) (mz a6 a7 rfl (li (lc 0) (li ml mm)))))),?_⟩;refine⟨d,b,m,rfl,dk,hm,nt,λr1 H1 a0 a1 D1 k1=>⟨d,b,m,rfl,D1,hm,nt,λr2 H2 b0 b1 D2 k2=>⟨eT rfl,λp hp=>⟨d,b,4,rfl,D2.new hp,Zd,Zd,λr3 H3 c0 c1 D3 k3=>?_⟩⟩⟩⟩;have y9:=D2.ne hp;have gp:=k3 p _ aA y9.1 y9.2;have kk:=((k1.trans k2).trans (.new hp)).trans k3;rcases aBv c0 c1 with rfl|rfl|rfl|rfl
  ·exact⟨_,QYL gp,_,rfl,q _ _ Zo Zo D3 kk⟩
  ·exact⟨_,QYL gp,_,rfl,q _ _ Zo Zo D3 kk⟩
  ·exact⟨_,QYL gp,_,rfl,q _ _ a0 a1 D3 kk⟩
  ·exact⟨_,QYL gp,_,rfl,q _ _ b0 b1 D3 kk⟩
structure WordsOf(L:List Nat)(g:Nat)(ws:List Str):Prop where
 nd:ws.Nodup
 of:∀z∈ws,1<=z.length/\z.length<=g/\∀c∈z.cps.toList,c∈L
def uD:Sp:=λvs H Q _=>∃(d b:TD)(L:List Nat)(g m:Nat),vs=[.ref d,.str (tx L),.int (g:Int),.int (m:Int)]/\Dk H d b/\1<=m/\m<=g/\g<=12/\L.Nodup/\m<=L.length/\L.length<=40 ∧
 ∀(l:TD)(ws:List Str)(H':Hp),WordsOf L g ws->ws.length=m->H' l=some (.lst (ws.map V.str))->l≠d->l≠b->Dk H' d b->Kp d b H H'->Q (.ref l) H'
def Mz{α:Type}(xs:List α){i j:Nat}(hi:i<=xs.length)(hj:j<=xs.length):kC xs (some (i:Int)) (some (j:Int))=(xs.drop i).take (j-i):=by
 unfold kC;rw[HT.sIx_nat,HT.sIx_nat,min_eq_left hi,min_eq_left hj]
def rE(L ts:List Nat)(a sz f k:Nat):List Nat:=ts.take a++[L.getD ((f+k)%L.length) 0]++(ts.drop (a+1)).take (sz-(a+1))
def Sv{L:List Nat}(hn:L.Nodup){i j:Nat}(hi:i<L.length)(hj:j<L.length)(h:L.getD i 0=L.getD j 0):i=j:=by
 rw[getD_eq_getElem?_getD,getD_eq_getElem?_getD,eZ hi,eZ hj]at h;have h':L[i]=L[j]:=h;have p:=pairwise_iff_getElem.mp hn;rcases Nat.lt_trichotomy i j with z|z|z
 ·exact QZY h' (p i j hi hj z)
 ·exact z
 ·exact QZY h'.symm (p j i hj hi z)
def Sw{f k k' n:Nat}(hk:k<n)(Q4:k'<n)(h:(f+k)%n=(f+k')%n):k=k':=by
 have h1:=Nat.mod_add_div (f+k) n;have h2:=Nat.mod_add_div (f+k') n;rw[h]at h1;generalize (f+k)/n=u at h1;generalize (f+k')/n=v at h2;rcases Nat.lt_trichotomy u v with z|z|z
 ·have:n*(u+1)<=n*v:=Nat.mul_le_mul_left n z;rw[Nat.mul_add,Nat.mul_one]at this;omega
 ·subst z;omega
 ·have:n*(v+1)<=n*u:=Nat.mul_le_mul_left n z;rw[Nat.mul_add,Nat.mul_one]at this;omega
def Na{L ts:List Nat}(hn:L.Nodup){a sz f k k':Nat}(h:rE L ts a sz f k=rE L ts a sz f k')(hk:k<L.length)(Q4:k'<L.length):k=k':=by
 unfold rE at h;have h1:=List.append_inj_left' h rfl;have h2:=List.append_inj_right' h1 rfl;have h3:L.getD ((f+k)%L.length) 0=L.getD ((f+k')%L.length) 0:=by injection h2
 exact Sw hk Q4 (Sv hn (mod_lt _ Zo) (mod_lt _ Zo) h3)
def aBw{L:List Nat}{i:Nat}(h:i<L.length):L.getD i 0∈L/\L[i]?=some (L.getD i 0):=by
 have e:L[i]?=some (L[i]):=eZ h;have e2:L.getD i 0=L[i]:=by rw[getD_eq_getElem?_getD,e];rfl
 exact⟨e2▸getElem_mem _,e2▸e⟩
def Sx{L ts:List Nat}{g a sz f k:Nat}(h0:0<L.length)(hl:ts.length=g)(ht:∀c∈ts,c∈L)(ha:a<sz)(hs:sz<=g):1<=(rE L ts a sz f k).length/\(rE L ts a sz f k).length<=g/\∀c∈rE L ts a sz f k,c∈L:=by
 have e:(rE L ts a sz f k).length=sz:=by
  unfold rE;simp[hl];omega
 refine⟨Zo,Zo,λc hc=>?_⟩;unfold rE at hc;rcases Zma.mp hc with hc|hc
 ·rcases Zma.mp hc with hc|hc
  ·exact ht c (mem_of_mem_take hc)
  ·rw[Zms.mp hc];exact(aBw (mod_lt _ h0)).1
 ·exact ht c (List.mem_of_mem_drop (mem_of_mem_take hc))
def rF{n i:Nat}{x:V}(h:(kO 0 n)[i]?=some x):x=.int (i:Int)/\i<n:=by
 unfold kO at h;rw[fA]at h;cases hh:(List.range n)[i]? with
 | none=>rw[hh]at h;cases h
 | some y=>
  rw[hh]at h;obtain⟨h1,h2⟩:=Zgs.mp hh;rw[List.getElem_range]at h2;cases h;rw[<- h2];exact⟨Zs,by simpa using h1⟩
def iP(n:Nat):(kO 0 n).length=n:=by simp[kO]
def yI{L:List Nat}{g m:Nat}{F:Nat->List Nat}(hi:∀k k',k<m->k'<m->F k=F k'->k=k')(ho:∀k,k<m->1<=(F k).length/\(F k).length<=g/\∀c∈F k,c∈L):WordsOf L g ((List.range m).map λk=>tx (F k)):=by
 refine⟨?_,λz hz=>?_⟩
 ·show List.Pairwise (·≠·) _;rw[pairwise_map];refine List.Pairwise.imp_of_mem (λ{x y} hx hy v7 XR=>v7 ?_) List.nodup_range;exact hi _ _ (mem_range.mp hx) (mem_range.mp hy) (by simpa using congrArg (λz:Str=>z.cps.toList) XR)
 ·obtain⟨k,hk,rfl⟩:=Zmm.mp hz;have:=ho k (mem_range.mp hk);exact⟨by rw[gY];exact this.1,by rw[gY];exact this.2.1,λc hc=>this.2.2 c (by simpa using hc)⟩
def Gq(T:Txt K mg)(a6:aG P w K mg base 1 "_law_draw" QZP bT)(D:DefAt K mg "_law_unlike" cT QZf) :
  aG P w K mg base 2 "_law_unlike" QZf uD:=by
 refine D.go cZ (λvs H Q E h=>?_) (λf cdv A outer s H vs Q E hr h=>?_)
 ·obtain⟨d,b,L,g,m,rfl,_⟩:=h;rfl
 ·obtain⟨d,b,L,g,m,rfl,dk,zi,AU,hg,zf,hmL,XU,q⟩:=h;have a7:=hr;have lL:(tx L).length=L.length:=gY L;have GP:(tx L).length<=sizeLine:=gB Zo;have cL:(tx L).cps.toList=L:=by simp
  refine⟨_,(mo (ng (i:=4) cZ.nd (ub (K:=K) PySem.F.plainAttrs_str PySem.F.slot_str_join PySem.F.type_str_join (R.jr (K:=K)) mq (li (qv rfl (js:=[none,some 0,some 1]) (N:=QYQ) (CompScope.by (aD cT) QZg rfl rfl Zk) (aO rfl) (R.fm rfl T.b_range (li (lc 2) mm)) (λC s₂ H₂ fp=>⟨(o0 (i:=0) (show(QYQ:List Str).Nodup by decide +kernel)),wn,(mn R.iS (lc 2) (mz a6 a7 rfl (li (lc 1) (li (ql R.gm rfl T.b_len cD (li (lc 2) mm)) mm))))⟩)) mm))) (mo (nk (ni pi (mz a6 a7 rfl (li (lc 0) (li ml mm))) ml) (mv (nh (qv rfl (js:=[none,some 4]) (N:=["_law_k","_law_word"]) (CompScope.by (aD cT) QZg rfl rfl Zk) (aO rfl) (R.fm rfl T.b_range (li (lc 3) mm)) (λC s₂ H₂ fp=>⟨(o0 (i:=0) (show(["_law_k","_law_word"]:List Str).Nodup by decide +kernel)),wn,(qw R.sS (lc 1) tf (qo (my qi (lc 0) ml)))⟩)))) nw) (mo (ng (i:=5) cZ.nd (my qi ml (mz a6 a7 rfl (li (lc 0) (li (lc 2) mm))))) (mo (ng (i:=6) cZ.nd (mz a6 a7 rfl (li (lc 0) (li (lc 5) mm)))) (mo (ng (i:=7) cZ.nd (mz a6 a7 rfl (li (lc 0) (li (ql R.gm rfl T.b_len cD (li (lc 1) mm)) mm)))) (mo (ng (i:=8) cZ.nd (R.jh (li (qw R.sS (lc 4) tf (qo (lc 6))) (li (qw R.sS (lc 4) (qo (my qi (lc 6) ml)) (qo (lc 5))) mm)))) (mv (nh (qv rfl (js:=[none,some 1,some 7,some 8]) (N:=QYP) (CompScope.by (aD cT) QZg rfl rfl Zk) (aO rfl) (R.fm rfl T.b_range (li (lc 3) mm)) (λC s₂ H₂ fp=>⟨(o0 (i:=0) (show(QYP:List Str).Nodup by decide +kernel)),wn,(my R.ig (my R.ig (mn (mr (K:=K)) (lc 3) ml) (mn R.iS (lc 1) (my zn (my qi (lc 2) (lc 0)) (ql R.gm rfl T.b_len cD (li (lc 1) mm))))) (mn (mr (K:=K)) (lc 3) ml))⟩)))))))))),?_⟩;refine Ya (t:=Io _ _) (λσ' H'=>∃ts:List Nat,σ'=[some (.ref d),some (.str (tx L)),some (.int (g:Int)),some (.int m),some (.str (tx ts)),none,none,none,none]/\ts.length=g/\(∀c∈ts,c∈L)/\Dk H' d b/\Kp d b H H') (λnx b6=>?_) ?_
  ·refine⟨rfl,g,rfl,Zo,Zo,?_⟩;refine aV (gP 0 (g:Int).toNat) (by rw[iP];omega) (λi ys H'=>Dk H' d b/\Kp d b H H'/\∃ts:List Nat,ys=ts.map (λc=>V.str (tx [c]))/\ts.length=i/\∀c∈ts,c∈L) (λi ys H' ⟨_,_,ts,e,e2,_⟩=>⟨trivial,by rw[e,aS,e2];exact aY _⟩) ⟨dk,.refl,[],rfl,rfl,(λ_ h=>nomatch h)⟩ (?_) (?_)
   ·rintro i x ys H' hx ⟨Di,MO,ts,e,e2,e3⟩;refine⟨GP,d,b,_,rfl,Di,Zo,Zo,λr2 K6 XX r21 Dj XY=>⟨GP,?_⟩⟩;obtain⟨c,hc,hm⟩:=Km (xs:=(tx L).cps.toList) XX (by rw[cL];omega);rw[cL]at hm;refine⟨c,hc,Dj,MO.trans XY,ts++[c],by rw[e,dJ];rfl,by rw[mO,e2];rfl,λc' yp=>?_⟩;rcases Zma.mp yp with h|h
    ·exact e3 c' h
    ·rw[Zms.mp h];exact hm
   ·rintro ys H' ⟨Di,MO,ts,e,e2,e3⟩;intro p hp;have EE:ts.length=g:=by rw[e2,iP];omega
    refine⟨_,p,ts.map (λc=>tx [c]),rfl,rfl,QYL (by rw[aA,e,map_map];rfl),?_,?_⟩
    ·rw[xO,aS,Ko,gY];simp;omega
    ·refine b6 _ _ ⟨ts,?_,EE,e3,Di.new hp,MO.trans (.new hp)⟩;rw[Ko,Aj];rfl
  ·rintro σ' H1 ⟨ts,rfl,EE,GQ,D1,k1⟩;have JF:(tx ts).cps.toList=ts:=by simp
   have em:((m:Int)).toNat=m:=by omega
   refine⟨d,b,3,rfl,D1,Zd,Zd,λr H2 r0 r1 D2 k2=>?_⟩;refine bG (λ_=>?_) (λ_=>?_)
   ·refine⟨m,rfl,Zo,Zo,?_⟩;refine aV (gP 0 (m:Int).toNat) (by rw[iP];omega) (λi ys H'=>ys=((List.range i).map λk=>tx (ts.take (k+1))).map V.str/\H'=H2) (λi ys H' ⟨e,_⟩=>⟨trivial,by rw[e];simp⟩) ⟨rfl,rfl⟩ (?_) (?_)
    ·rintro i x ys H' hx ⟨e,e2⟩;subst e2;obtain⟨rfl,hi⟩:=rF hx;refine⟨gB (by rw[gY];omega),?_,rfl⟩;rw[JF,show((i:Nat):Int)+1=((i+1:Nat):Int) by omega,Ai,e,range_succ,dJ,dJ];rfl
    ·rintro ys H' ⟨e,e2⟩;subst e2;intro p hp;rw[iP,em]at e;have hd:=D2.ne hp;refine q p ((List.range m).map λk=>tx (ts.take (k+1))) _ (yI (λk k' hk Q4 e=>?_) (λk hk=>?_)) Zs (by rw[aA,e]) hd.1 hd.2 (D2.new hp) ((k1.trans k2).trans (.new hp))
     ·have:=congrArg length e;rw[nU,nU,EE]at this;omega
     ·exact⟨by rw[nU,EE];omega,by rw[nU,EE];omega,λc hc=>GQ c (mem_of_mem_take hc)⟩
   ·refine⟨d,b,g,rfl,D2,Zo,Zo,λr5 H3 s0 s1 D3 k3=>?_⟩;dsimp only [aJ];refine⟨d,b,1+r5,rfl,D3,Zo,Zo,λra H4 a0 a1 D4 k4=>?_⟩;dsimp only [aJ];refine⟨GP,d,b,_,rfl,D4,Zo,Zo,λrf H5 f0 f1 D5 k5=>?_⟩;rw[lL]at f1;dsimp only [aJ];obtain⟨a,rfl⟩:∃a:Nat,ra=a:=⟨ra.toNat,Zo⟩;obtain⟨z5,rfl⟩:∃z:Nat,r5=z:=⟨r5.toNat,Zo⟩;obtain⟨fz,rfl⟩:∃z:Nat,rf=z:=⟨rf.toNat,Zo⟩;refine⟨gB (by rw[gY];omega),gB (by rw[gY];omega),eT rfl,λtp QG=>?_⟩;have g5:(aI H5 tp (.tup [.str (tx (kC (tx ts).cps.toList none (some (a:Int)))),.str (tx (kC (tx ts).cps.toList (some ((a:Int)+1)) (some (1+(z5:Int)))))])) tp=some (.tup [.str (tx (ts.take a)),.str (tx ((ts.drop (a+1)).take (z5+1-(a+1))))]):=by
     rw[aA,JF,Ai,show(a:Int)+1=((a+1:Nat):Int) by omega,show 1+(z5:Int)=((z5+1:Nat):Int) by omega,Mz ts Zo Zo]
    have k6:Kp d b H (aI H5 tp (.tup [.str (tx (kC (tx ts).cps.toList none (some (a:Int)))),.str (tx (kC (tx ts).cps.toList (some ((a:Int)+1)) (some (1+(z5:Int)))))])):=((((k1.trans k2).trans k3).trans k4).trans k5).trans (.new QG);have D6:=D5.new (o:=.tup [.str (tx (kC (tx ts).cps.toList none (some (a:Int)))),.str (tx (kC (tx ts).cps.toList (some ((a:Int)+1)) (some (1+(z5:Int)))))]) QG;dsimp only [aJ];generalize aI H5 tp (.tup [.str (tx (kC (tx ts).cps.toList none (some (a:Int)))),.str (tx (kC (tx ts).cps.toList (some ((a:Int)+1)) (some (1+(z5:Int)))))])=H6 at g5 k6 D6;refine⟨m,rfl,Zo,Zo,?_⟩;refine aV (gP 0 (m:Int).toNat) (by rw[iP];omega) (λi ys H'=>ys=((List.range i).map λk=>tx (rE L ts a (z5+1) fz k)).map V.str/\H'=H6) (λi ys H' ⟨e,_⟩=>⟨trivial,by rw[e];simp⟩) ⟨rfl,rfl⟩ (?_) (?_)
    ·rintro i x ys H' hx ⟨e,e2⟩;subst e2;obtain⟨rfl,hi⟩:=rF hx;have h0:0<L.length:=by omega
     have hL:=aBw (L:=L) (mod_lt (fz+i) h0);have t1:(tx (ts.take a)).length<=12:=by rw[gY,nU];omega
     have t2:(tx ((ts.drop (a+1)).take (z5+1-(a+1)))).length<=12:=by rw[gY,nU,length_drop];omega
     refine⟨_,QYM g5,_,rfl,GP,by rw[lL];omega,GP,L.getD ((fz+i)%L.length) 0,?_,gB (by have:=gY [L.getD ((fz+i)%L.length) 0];simp only [qE,length_nil]at this;omega),_,QYM g5,_,rfl,gB ?_,?_,rfl⟩
     ·rw[lL,cL,show((fz:Int)+(i:Int))%(L.length:Int)=(((fz+i)%L.length:Nat):Int) by rw[Int.natCast_emod,Int.natCast_add]];exact iC hL.2
     ·rw[vK,gY,mO,nU];simp only [qE,length_nil];omega
     ·rw[e,range_succ,dJ,dJ,vK,vK];rfl
    ·rintro ys H' ⟨e,e2⟩;subst e2;intro p hp;rw[iP,em]at e;have hd:=D6.ne hp;refine q p ((List.range m).map λk=>tx (rE L ts a (z5+1) fz k)) _ (yI (λk k' hk Q4 e=>?_) (λk hk=>?_)) Zs (by rw[aA,e]) hd.1 hd.2 (D6.new hp) (k6.trans (.new hp))
     ·exact Na zf e Zo Zo
     ·exact Sx Zo EE GQ Zo Zo
def aN{n:Nat}(h:Nat.ble n 1000=true):n<=1000:=QZX h
structure Fw(d b:TD)(H H':Hp):Prop where
 d0:Dk H d b
 dk:Dk H' d b
 kp:Kp d b H H'
def Kp.same'{d b:TD}{H H':Hp}(s:Same H H'):Kp d b H H':=λc o e _ _=>s c o e
def Fw.refl{d b:TD}{H:Hp}(D:Dk H d b):Fw d b H H:=⟨D,D,.refl⟩
def Fw.same{d b:TD}{H H1 H2:Hp}(f:Fw d b H H1)(s:Same H1 H2):Fw d b H H2:=⟨f.d0,f.dk.same s,f.kp.trans (Kp.same' s)⟩
def Fw.new{d b p:TD}{H H1:Hp}{o:HO}(f:Fw d b H H1)(h:H1 p=none):Fw d b H (aI H1 p o):=⟨f.d0,f.dk.new h,f.kp.trans (.new h)⟩
def Fw.draw{d b:TD}{H H1 H2:Hp}(f:Fw d b H H1)(D:Dk H2 d b)(k:Kp d b H1 H2):Fw d b H H2:=⟨f.d0,D,f.kp.trans k⟩
def Fw.trans{d b:TD}{H H1 H2:Hp}(f:Fw d b H H1)(g:Fw d b H1 H2):Fw d b H H2:=⟨f.d0,g.dk,f.kp.trans g.kp⟩
def Fw.tk{d b:TD}{H H':Hp}(f:Fw d b H H'):TK H H':=Kp.tk f.d0 f.kp
def Fw.tup{d b a:TD}{H H':Hp}{xs:List V}(f:Fw d b H H')(g:H a=some (.tup xs)):H' a=some (.tup xs):=f.tk _ _ g
def Fw.get{d b a:TD}{H H':Hp}{o:HO}(f:Fw d b H H')(g:H a=some o)(n1:a≠d)(n2:a≠b):H' a=some o:=f.kp _ _ g n1 n2
def kY{ws:List Str}{r:Int}(h0:0<=r)(h1:r<ws.length):∃(i:Nat)(hi:i<ws.length),r=i/\mU (ws.map V.str) r=some (.str ws[i]):=by
 obtain⟨j,rfl⟩:=Int.eq_ofNat_of_zero_le h0;have hj:j<ws.length:=by omega
 exact⟨j,hj,rfl,iC (by rw[fA,eZ hj];rfl)⟩
def Cw{n i r:Nat}(hi:i<n)(hr:r+1<n):(i+1+r)%n<n/\(i+1+r)%n≠i:=by
 refine⟨mod_lt _ Zo,λe=>?_⟩;by_cases h:i+1+r<n
 ·rw[Nat.mod_eq_of_lt h]at e;omega
 ·rw[Nat.mod_eq_sub_mod Zo,Nat.mod_eq_of_lt Zo]at e;omega
def Va{ws:List Str}(h:ws.Nodup){i j:Nat}(hi:i<ws.length)(hj:j<ws.length)(hn:i≠j):ws[i]≠ws[j]:=by
 have p:=pairwise_iff_getElem.mp h;rcases Nat.lt_or_gt_of_ne hn with z|z
 ·exact p i j hi hj z
 ·exact λe=>p j i hj hi z e.symm
structure Menu(ws:List Str):Prop where
 of:WordsOf LET 8 ws
 two:2<=ws.length
 six:ws.length<=6
def Menu.nm{ws:List Str}(h:Menu ws){i:Nat}(hi:i<ws.length):fO ws[i]:=h.of.of _ (getElem_mem hi)
def pY:Sp:=λvs H Q _=>∃(d b la lb:TD)(ws us:List Str),vs=[.ref d,.ref la,.ref lb]/\Dk H d b/\H la=some (.lst (ws.map V.str))/\H lb=some (.lst (us.map V.str))/\(la≠d/\la≠b/\lb≠d/\lb≠b)/\Menu ws/\Menu us ∧
 ∀(t:TD)(x:Dd)(H':Hp),x.Ok->H' t=some (.tup x.vs)->Fw d b H H'->Q (.ref t) H'
def Sy(T:Txt K mg)(a6:aG P w K mg base 1 "_law_draw" QZP bT)(B7:aG P w K mg base 2 "_law_end" QZP bT)(D:DefAt K mg "_law_deed" jS QZz):aG P w K mg base 3 "_law_deed" QZz pY:=by
 refine D.go cB (λvs H Q E h=>?_) (λf cdv A outer s H vs Q E hr h=>?_)
 ·obtain⟨d,b,la,lb,ws,us,rfl,_⟩:=h;rfl
 ·obtain⟨d,b,la,lb,ws,us,rfl,dk,ga,gb,⟨n1,n2,n3,n4⟩,mw,mu,q⟩:=h;have a7:Room 1 _:=hr.mono Zd;have B8:Room 2 _:=hr.mono Zd;have w2:=mw.two;have w6:=mw.six;have u2:=mu.two;have u6:=mu.six;refine⟨_,(mo (ng (i:=3) cB.nd (mn (qj (K:=K)) (qk (li (my qi ml (mz a6 a7 rfl (li (lc 0) (li ml mm)))) (li (my qi ml (mz B7 B8 rfl (li (lc 0) (li (my ud ml ml) mm)))) mm))) (mz a6 a7 rfl (li (lc 0) (li ml mm))))) (mo (ng (i:=4) cB.nd (mz a6 a7 rfl (li (lc 0) (li (ql (sn (K:=K)) rfl T.b_len cD (li (lc 1) mm)) mm)))) (mo (ng (i:=5) cB.nd (mn (qj (K:=K)) (lc 1) (lc 4))) (mo (ng (i:=6) cB.nd (mn (qj (K:=K)) (lc 1) (my zn (my qi (my qi (lc 4) ml) (mz a6 a7 rfl (li (lc 0) (li (my vh (ql (sn (K:=K)) rfl T.b_len cD (li (lc 1) mm)) ml) mm)))) (ql (sn (K:=K)) rfl T.b_len cD (li (lc 1) mm))))) (mo (ng (i:=7) cB.nd (mz a6 a7 rfl (li (lc 0) (li (ql (sn (K:=K)) rfl T.b_len cD (li (lc 2) mm)) mm)))) (mo (ng (i:=8) cB.nd (mn (qj (K:=K)) (lc 2) (lc 7))) (mo (ng (i:=9) cB.nd (mn (qj (K:=K)) (lc 2) (my zn (my qi (my qi (lc 7) ml) (mz a6 a7 rfl (li (lc 0) (li (my vh (ql (sn (K:=K)) rfl T.b_len cD (li (lc 2) mm)) ml) mm)))) (ql (sn (K:=K)) rfl T.b_len cD (li (lc 2) mm))))) (mo (ng (i:=10) cB.nd (qk (li (nj (li mq (li (lc 5) (li (lc 3) mm)))) (li (nj (li mq (li (lc 5) (li (lc 3) mm)))) (li (nj (li mq (li (lc 5) (li (lc 6) (li (lc 3) mm))))) mm))))) (mo (ng (i:=10) cB.nd (my wf (lc 10) (qk (li (nj (li mq (li (lc 8) (li (lc 5) (li (lc 3) mm))))) (li (nj (li mq (li (lc 8) (li (lc 5) (li (lc 3) mm))))) (li (nj (li mq (li (lc 8) (li (lc 9) (li (lc 5) (li (lc 3) mm)))))) mm)))))) (mv (nh (mn (qj (K:=K)) (lc 10) (mz a6 a7 rfl (li (lc 0) (li ml mm))))))))))))))),?_⟩;refine bY (λσ' H'=>∃n:Nat,σ'=[some (.ref d),some (.ref la),some (.ref lb),some (.int (n:Int)),none,none,none,none,none,none,none]/\1<=n/\n<=1000000000000/\Fw d b H H') (λnx b6=>?_) ?_
  ·refine⟨d,b,9,rfl,dk,Zd,Zd,λr1 H1 a0 a1 D1 k1=>⟨⟨Zd,Zd,Zd⟩,d,b,_,rfl,D1,Zd,Zd,λr2 H2 b0 b1 D2 k2=>⟨eT rfl,λp hp=>⟨d,b,2,rfl,D2.new hp,Zd,Zd,λr3 H3 c0 c1 D3 k3=>?_⟩⟩⟩⟩;have y9:=D2.ne hp;have gp:=k3 p _ aA y9.1 y9.2;have ff:=((((Fw.refl dk).draw D1 k1).draw D2 k2).new hp).draw D3 k3;have QH:r2<1000000000000:=b1;rcases(by omega:r3=0∨r3=1) with rfl|rfl
   ·refine⟨_,QYL gp,_,rfl,b6 _ _ ⟨(1+r1).toNat,?_,Zo,Zo,ff⟩⟩;rw[Int.toNat_of_nonneg Zo];rfl
   ·refine⟨_,QYL gp,_,rfl,b6 _ _ ⟨(1+r2).toNat,?_,Zo,Zo,ff⟩⟩;rw[Int.toNat_of_nonneg Zo];rfl
  ·rintro σ' H1 ⟨n,rfl,yh,oh,f1⟩;have XZ:=f1.get ga n1 n2;have zj:=f1.get gb n3 n4;refine⟨_,.inl (QYL XZ),d,b,_,rfl,f1.dk,by rw[aS];omega,by rw[aS];omega,λr2 H2 b0 b1 D2 k2=>?_⟩;rw[aS]at b1;have f2:=f1.draw D2 k2;have QI:=f2.get ga n1 n2;obtain⟨i,hi,rfl,ei⟩:=kY b0 b1;dsimp only [aJ];refine⟨_,QYL QI,_,ei,?_⟩;dsimp only [aJ];refine⟨_,.inl (QYL QI),d,b,_,rfl,f2.dk,by rw[aS];omega,by rw[aS];omega,λr3 H3 c0 c1 D3 k3=>?_⟩;rw[aS]at c1;have f3:=f2.draw D3 k3;have QJ:=f3.get ga n1 n2;obtain⟨r3,rfl⟩:∃z:Nat,r3=z:=⟨r3.toNat,Zo⟩;obtain⟨hj,YA⟩:=Cw (r:=r3) hi Zo;have ej:((i:Int)+1+(r3:Int))%((ws.map V.str).length:Int)=(((i+1+r3)%ws.length:Nat):Int):=by
    rw[aS,Int.natCast_emod];rfl
   refine⟨_,.inl (QYL QJ),by rw[aS];omega,_,QYL QJ,V.str ws[(i+1+r3)%ws.length],?_,?_⟩
   ·rw[ej];exact iC (by rw[fA,eZ hj];rfl)
   have v7:=Va mw.of.nd hi hj (λe=>YA e.symm);have CB:=mw.nm hi;have QK:=mw.nm hj;generalize ws[(i+1+r3)%ws.length]=zb at v7 QK;generalize ws[i]=za at v7 CB;dsimp only [aJ];have EF:=f3.get gb n3 n4;refine⟨_,.inl (QYL EF),d,b,_,rfl,f3.dk,by rw[aS];omega,by rw[aS];omega,λr4 H4 d0 d1 D4 k4=>?_⟩;rw[aS]at d1;have f4:=f3.draw D4 k4;have QL:=f4.get gb n3 n4;obtain⟨u,MP,rfl,eu⟩:=kY d0 d1;dsimp only [aJ];refine⟨_,QYL QL,_,eu,?_⟩;dsimp only [aJ];refine⟨_,.inl (QYL QL),d,b,_,rfl,f4.dk,by rw[aS];omega,by rw[aS];omega,λr5 H5 e0 e1 D5 k5=>?_⟩;rw[aS]at e1;have f5:=f4.draw D5 k5;have QM:=f5.get gb n3 n4;obtain⟨r5,rfl⟩:∃z:Nat,r5=z:=⟨r5.toNat,Zo⟩;obtain⟨hv,YB⟩:=Cw (r:=r5) MP Zo;have ev:((u:Int)+1+(r5:Int))%((us.map V.str).length:Int)=(((u+1+r5)%us.length:Nat):Int):=by
    rw[aS,Int.natCast_emod];rfl
   refine⟨_,.inl (QYL QM),by rw[aS];omega,_,QYL QM,V.str us[(u+1+r5)%us.length],?_,?_⟩
   ·rw[ev];exact iC (by rw[fA,eZ hv];rfl)
   have CC:=Va mu.of.nd MP hv (λe=>YB e.symm);have JJ:=mu.nm MP;have QN:=mu.nm hv;generalize us[(u+1+r5)%us.length]=zv at CC QN;generalize us[u]=zu at CC JJ;dsimp only [aJ];refine⟨aN rfl,λt1 H6 s6 g6=>⟨aN rfl,λt2 H7 s7 g7=>⟨aN rfl,λt3 H8 s8 g8=>⟨eT rfl,λp hp=>?_⟩⟩⟩⟩;have YC:Same H5 H8:=(s6.trans s7).trans s8;have f8:=f5.same YC;have h1:=s8 _ _ (s7 _ _ g6);have h2:=s8 _ _ g7;have gp:(aI H8 p (.lst [.ref t1,.ref t2,.ref t3])) p=some (.lst [.ref t1,.ref t2,.ref t3]):=aA;have sp:=aF (o:=.lst [.ref t1,.ref t2,.ref t3]) hp;dsimp only [aJ];generalize aI H8 p (.lst [.ref t1,.ref t2,.ref t3])=H9 at gp sp;refine⟨aN rfl,λt4 Ha sa g4=>⟨aN rfl,λt5 Hb sb g5=>⟨aN rfl,λt6 Hc sc g9=>⟨eT rfl,λp2 C5=>?_⟩⟩⟩⟩;have YD:Same H9 Hc:=(sa.trans sb).trans sc;have ux:(aI Hc p2 (.lst [.ref t4,.ref t5,.ref t6])) p2=some (.lst [.ref t4,.ref t5,.ref t6]):=aA;have GR:=aF (o:=.lst [.ref t4,.ref t5,.ref t6]) C5;generalize aI Hc p2 (.lst [.ref t4,.ref t5,.ref t6])=Hd at ux GR;have MQ:=YD.trans GR;refine⟨_,_,MQ _ _ gp,ux,eT rfl,λp3 Q3=>?_⟩;have fd:=f8.same (sp.trans MQ);have GS:=fd.dk.ne Q3;have JK:Same H8 (aI Hd p3 (.lst ([.ref t1,.ref t2,.ref t3]++[.ref t4,.ref t5,.ref t6]))):=(sp.trans MQ).trans (aF Q3);have zk:(aI Hd p3 (.lst ([.ref t1,.ref t2,.ref t3]++[.ref t4,.ref t5,.ref t6]))) p3=some (.lst [.ref t1,.ref t2,.ref t3,.ref t4,.ref t5,.ref t6]):=aA;have QO:=(GR.trans (aF Q3 (o:=.lst ([.ref t1,.ref t2,.ref t3]++[.ref t4,.ref t5,.ref t6])))) _ _ (sc _ _ (sb _ _ g4));have QP:=(GR.trans (aF Q3 (o:=.lst ([.ref t1,.ref t2,.ref t3]++[.ref t4,.ref t5,.ref t6])))) _ _ (sc _ _ g5);have QQ:=(GR.trans (aF Q3 (o:=.lst ([.ref t1,.ref t2,.ref t3]++[.ref t4,.ref t5,.ref t6])))) _ _ g9;have f9:=f8.same JK;have G9:=JK _ _ h1;have M1:=JK _ _ h2;have QR:=JK _ _ g8;dsimp only [aJ];generalize aI Hd p3 (.lst ([.ref t1,.ref t2,.ref t3]++[.ref t4,.ref t5,.ref t6]))=He at zk QO QP QQ f9 G9 M1 QR;refine⟨d,b,6,rfl,f9.dk,Zd,Zd,λr6 Hf i0 i1 Df kf=>?_⟩;have ff:=f9.draw Df kf;have F1:=Fw.draw (.refl f9.dk) Df kf;have gq:=kf _ _ zk GS.1 GS.2;rcases six i0 i1 with rfl|rfl|rfl|rfl|rfl|rfl
   ·exact⟨_,QYL gq,_,rfl,q _ (.add za n) _ ⟨CB,yh,oh⟩ (F1.tup G9) ff⟩
   ·exact⟨_,QYL gq,_,rfl,q _ (.take za n) _ ⟨CB,yh,oh⟩ (F1.tup M1) ff⟩
   ·exact⟨_,QYL gq,_,rfl,q _ (.move za zb n) _ ⟨CB,QK,v7,yh,oh⟩ (F1.tup QR) ff⟩
   ·exact⟨_,QYL gq,_,rfl,q _ (.send zu za n) _ ⟨JJ,CB,yh,oh⟩ (F1.tup QO) ff⟩
   ·exact⟨_,QYL gq,_,rfl,q _ (.fetch zu za n) _ ⟨JJ,CB,yh,oh⟩ (F1.tup QP) ff⟩
   ·exact⟨_,QYL gq,_,rfl,q _ (.pass zu zv za n) _ ⟨JJ,QN,CB,CC,yh,oh⟩ (F1.tup QQ) ff⟩
def uE:Dd->Bool->List Str
 | .add _ _,_=>["is","full"]
 | .take _ _,_=>["is","short"]
 | .move _ _ _,_=>["is","short","full"]
 | .send _ _ _,true=>["is","no"]|.send _ _ _,false=>["short"]
 | .fetch _ _ _,true=>["is","no"]|.fetch _ _ _,false=>["full"]
 | .pass _ _ _ _,true=>["ok","no"]|.pass _ _ _ _,false=>[]
def yJ:Sp:=λvs H Q _=>∃(t:TD)(x:Dd)(q:Bool),vs=[.ref t,.bl q]/\H t=some (.tup x.vs)/\∀l H',H l=none->H' l=some (.lst ((uE x q).map V.str))->Same H H'->Q (.ref l) H'
def kv6(v1 v2 v3 v4 v5 v6:V):List (aT×V):=bJ (bJ (aM [] [(Sum.inr ("add":Str),v1),(Sum.inr ("take":Str),v2),(Sum.inr ("move":Str),v3),(Sum.inr ("pass":Str),v4)]) (Sum.inr ("send":Str)) v5) (Sum.inr ("fetch":Str)) v6
def Zi(v1 v2 v3 v4 v5 v6:V)(x:Dd):bA (kv6 v1 v2 v3 v4 v5 v6) (Sum.inr x.wd)=some (match x with|.add _ _=>v1|.take _ _=>v2|.move _ _ _=>v3|.pass _ _ _ _=>v4|.send _ _ _=>v5|.fetch _ _ _=>v6):=by
 cases x<;>rfl
def uF(x:Dd):mU x.vs 0=some (.str x.wd):=by cases x<;>rfl
def Zj(x:Dd):mM (.str x.wd) [.str "add",.str "take",.str "move"]=!x.far:=by cases x<;>rfl
def kG:Dd->List Str
 | .add _ _=>["is","full"]|.take _ _=>["is","short"]|.move _ _ _=>["is","short","full"]|.send _ _ _=>["is","short","no"]|.fetch _ _ _=>["is","full","no"]|.pass _ _ _ _=>["ok","no"]
def yK(x:Dd)(h:x.far=false)(q:Bool):uE x q=kG x:=by cases x<;>first|rfl|cases h
def Cy(x:Dd)(h:x.far=true)(q:Bool):uE x q=(kG x).filter λz=>(mM (.str z) [.str "short",.str "full"]) != q:=by cases x<;>cases q<;>first|rfl|cases h
def Nb(x:Dd):(kG x).length<=3:=by cases x<;>exact QZX rfl
def cU{H:Hp}{p:TD}{kvs:List (aT×V)}(e:H p=some (.dK kvs))(C2:List (aT×V)){c:TD}{o:HO}(ec:H c=some o)(ne:∀z,o≠.dK z):(aI H p (.dK C2)) c=some o:=by
 rw[aB (λz=>by rw[z,e]at ec;cases ec;exact ne _ rfl)];exact ec
def bV{H H1:Hp}{p:TD}{o:HO}(hp:H p=none)(s:Same H H1):Same H (aI H1 p o):=λc u e=>by
 rw[aB (aE e hp)];exact s _ _ e
def Nc(T:Txt K mg)(D:DefAt K mg "_law_words" fS QZe):aG P w K mg base 1 "_law_words" QZe yJ:=by
 refine D.go jX (λvs H Q E h=>?_) (λf cdv A outer s H vs Q E hr h=>?_)
 ·obtain⟨t,x,q,rfl,_⟩:=h;rfl
 ·obtain⟨t,x,qq,rfl,gt,q⟩:=h;have d6:=dP hr;refine⟨_,(mo (ng (i:=2) jX.nd (R.gs (wr mq (qk (li mq (li mq mm))) (wr mq (qk (li mq (li mq mm))) (wr mq (qk (li mq (li mq (li mq mm)))) (wr mq (qk (li mq (li mq mm))) R.gu)))))) (mo (tz (qk (li mq (li mq (li mq mm)))) (uc (lc 2) mq (wl d6))) (mo (tz (qk (li mq (li mq (li mq mm)))) (uc (lc 2) mq (wl d6))) (mo (ng (i:=3) jX.nd (tj d6 (lc 2) (mn (mr (K:=K)) (lc 0) ml))) (mo (nk (ni (sw (K:=K)) (mn (mr (K:=K)) (lc 0) ml) (nj (li mq (li mq (li mq mm))))) (mv (nh (lc 3))) nw) (mv (nh (qv rfl (js:=[none,some 1]) (N:=["_law_word","_law_asked"]) (CompScope.by (aD fS) QYS rfl rfl Zk) (aO rfl) (qp (K:=K) (lc 3)) (λC s₂ H₂ fp=>⟨(o0 (i:=0) (show(["_law_word","_law_asked"]:List Str).Nodup by decide +kernel)),(qx (ni R.ne (qm (sw (K:=K)) (lc 0) (nj (li mq (li mq mm)))) (lc 1))),(lc 0)⟩))))))))),?_⟩;refine λp hp=>?_;have g0:(aI H p (.dK [])) p=some (.dK []):=aA;have s0:=aF (o:=.dK []) hp;generalize aI H p (.dK [])=H0 at g0 s0;refine⟨eT rfl,λp1 zh=>⟨eT rfl,λp2 C5=>⟨eT rfl,λp3 Q3=>⟨eT rfl,λp4 U1=>?_⟩⟩⟩⟩;have s1:=aF (o:=.lst [.str "is",.str "full"]) zh;have i1:(aI H0 p1 (.lst [.str "is",.str "full"])) p1=_:=aA;have f1:H p1=none:=s0.free zh;generalize aI H0 p1 (.lst [.str "is",.str "full"])=H1 at s1 i1 C5 Q3 U1 ⊢;have s2:=aF (o:=.lst [.str "is",.str "short"]) C5;have i2:(aI H1 p2 (.lst [.str "is",.str "short"])) p2=_:=aA;have f2:H p2=none:=(s0.trans s1).free C5;generalize aI H1 p2 (.lst [.str "is",.str "short"])=H2 at s2 i2 Q3 U1 ⊢;have s3:=aF (o:=.lst [.str "is",.str "short",.str "full"]) Q3;have i3:(aI H2 p3 (.lst [.str "is",.str "short",.str "full"])) p3=_:=aA;have f3:H p3=none:=((s0.trans s1).trans s2).free Q3;generalize aI H2 p3 (.lst [.str "is",.str "short",.str "full"])=H3 at s3 i3 U1 ⊢;have s4:=aF (o:=.lst [.str "ok",.str "no"]) U1;have i4:(aI H3 p4 (.lst [.str "ok",.str "no"])) p4=_:=aA;have f4:H p4=none:=(((s0.trans s1).trans s2).trans s3).free U1;generalize aI H3 p4 (.lst [.str "ok",.str "no"])=H4 at s4 i4 ⊢;have QS:Same H0 H4:=((s1.trans s2).trans s3).trans s4;have g4:=QS _ _ g0;refine⟨g4,[(Sum.inr ("add":Str),.ref p1),(Sum.inr ("take":Str),.ref p2),(Sum.inr ("move":Str),.ref p3),(Sum.inr ("pass":Str),.ref p4)],rfl,QZX rfl,?_⟩;have S4:Same H H4:=s0.trans QS;replace i1:=s4 _ _ (s3 _ _ (s2 _ _ i1));replace i2:=s4 _ _ (s3 _ _ i2);replace i3:=s4 _ _ i3;show sI _ _ _ [some (.ref t),some (.bl qq),some (.ref p),none] (aI H4 p (.dK (aM [] [(Sum.inr ("add":Str),.ref p1),(Sum.inr ("take":Str),.ref p2),(Sum.inr ("move":Str),.ref p3),(Sum.inr ("pass":Str),.ref p4)])));generalize hk:aM [] [(Sum.inr ("add":Str),V.ref p1),(Sum.inr ("take":Str),.ref p2),(Sum.inr ("move":Str),.ref p3),(Sum.inr ("pass":Str),.ref p4)]=zm;have l4:zm.length=4:=by rw[<- hk];rfl
  have S5:Same H (aI H4 p (.dK zm)):=bV hp S4;have g5:(aI H4 p (.dK zm)) p=_:=aA;replace i1:=cU g4 zm i1 (λ_ z=>nomatch z);replace i2:=cU g4 zm i2 (λ_ z=>nomatch z);replace i3:=cU g4 zm i3 (λ_ z=>nomatch z);replace i4:=cU g4 zm i4 (λ_ z=>nomatch z);generalize aI H4 p (.dK zm)=H5 at i1 i2 i3 i4 S5 g5 ⊢;refine⟨eT rfl,λp5 BC=>⟨p,_,rfl,DPut.k (k:=Sum.inr ("send":Str)) (aP g5 BC) (nS (m:=100) Zo Zd),?_⟩⟩;have f5:H p5=none:=S5.free BC;have s6:=aF (o:=.lst [.str "is",.str "short",.str "no"]) BC;have i5:(aI H5 p5 (.lst [.str "is",.str "short",.str "no"])) p5=_:=aA;have g6:=s6 _ _ g5;generalize aI H5 p5 (.lst [.str "is",.str "short",.str "no"])=H6 at s6 i5 g6 ⊢;generalize GF:bJ zm (Sum.inr ("send":Str)) (V.ref p5)=yi;have l5:yi.length<=5:=by rw[<- GF];exact eI (cQ _ _ _) Zo
  have S7:Same H (aI H6 p (.dK yi)):=bV hp (S5.trans s6);have g7:(aI H6 p (.dK yi)) p=_:=aA;replace i1:=cU g6 yi (s6 _ _ i1) (λ_ z=>nomatch z);replace i2:=cU g6 yi (s6 _ _ i2) (λ_ z=>nomatch z);replace i3:=cU g6 yi (s6 _ _ i3) (λ_ z=>nomatch z);replace i4:=cU g6 yi (s6 _ _ i4) (λ_ z=>nomatch z);replace i5:=cU g6 yi i5 (λ_ z=>nomatch z);generalize aI H6 p (.dK yi)=H7 at i1 i2 i3 i4 i5 S7 g7 ⊢;refine⟨eT rfl,λp6 GU=>⟨p,_,rfl,DPut.k (k:=Sum.inr ("fetch":Str)) (aP g7 GU) (nS (m:=100) Zo Zd),?_⟩⟩;have f6:H p6=none:=S7.free GU;have s8:=aF (o:=.lst [.str "is",.str "full",.str "no"]) GU;have i6:(aI H7 p6 (.lst [.str "is",.str "full",.str "no"])) p6=_:=aA;have g8:=s8 _ _ g7;generalize aI H7 p6 (.lst [.str "is",.str "full",.str "no"])=H8 at s8 i6 g8 ⊢;generalize YE:bJ yi (Sum.inr ("fetch":Str)) (V.ref p6)=S6;have ek:S6=kv6 (.ref p1) (.ref p2) (.ref p3) (.ref p4) (.ref p5) (.ref p6):=by rw[<- YE,<- GF,<- hk];rfl
  have S9:Same H (aI H8 p (.dK S6)):=bV hp (S7.trans s8);have g9:(aI H8 p (.dK S6)) p=_:=aA;replace i1:=cU g8 S6 (s8 _ _ i1) (λ_ z=>nomatch z);replace i2:=cU g8 S6 (s8 _ _ i2) (λ_ z=>nomatch z);replace i3:=cU g8 S6 (s8 _ _ i3) (λ_ z=>nomatch z);replace i4:=cU g8 S6 (s8 _ _ i4) (λ_ z=>nomatch z);replace i5:=cU g8 S6 (s8 _ _ i5) (λ_ z=>nomatch z);replace i6:=cU g8 S6 i6 (λ_ z=>nomatch z);generalize aI H8 p (.dK S6)=H9 at i1 i2 i3 i4 i5 i6 S9 g9 ⊢;have key:∃pl:TD,bA S6 (Sum.inr x.wd)=some (.ref pl)/\H pl=none/\H9 pl=some (.lst ((kG x).map V.str)):=by
   rw[ek,Zi];cases x with
   | add a n=>exact⟨p1,rfl,f1,i1⟩
   | take a n=>exact⟨p2,rfl,f2,i2⟩
   | move a b n=>exact⟨p3,rfl,f3,i3⟩
   | send a b n=>exact⟨p5,rfl,f5,i5⟩
   | fetch a b n=>exact⟨p6,rfl,f6,i6⟩
   | pass a b c n=>exact⟨p4,rfl,f4,i4⟩
  obtain⟨pl,hv,fl,gl⟩:=key;have dg:DGet H9 p (.str x.wd) (some (.ref pl)):=by rw[<- hv];exact DGet.k (k:=Sum.inr x.wd) g9
  have QT:=S9 _ _ gt;refine⟨_,QYM QT,_,uF x,p,_,rfl,dg,?_⟩;dsimp only [aJ];refine⟨_,QYM QT,_,uF x,aN rfl,λtq Ha sa ga=>⟨tq,_,rfl,.inr (QYM ga),rfl,rfl,?_⟩⟩;have Sa:Same H Ha:=S9.trans sa;show if mM (.str x.wd) [.str "add",.str "take",.str "move"]=true then _ else _
  rw[Zj];cases hf:x.far with
  | false=>
   refine Fq rfl ?_;refine q pl Ha fl ?_ Sa;rw[yK x hf];exact sa _ _ gl
  | true=>
   refine vO rfl ?_;have QU:=sa _ _ gl;refine⟨pl,rfl,⟨_,QYL QU⟩,?_⟩;refine aV (aX K pl ((kG x).map V.str)) (by have:=Nb x;rw[aS];omega) (λi ys H'=>ys=(((kG x).take i).filter λz=>(mM (.str z) [.str "short",.str "full"]) != qq).map V.str/\Same H H'/\H' pl=some (.lst ((kG x).map V.str))) (λi ys H' ⟨e,_,GV⟩=>⟨QYL GV,by rw[e,aS];exact eI (length_filter_le _ _) (by rw[nU];omega)⟩) ⟨rfl,Sa,QU⟩ (?_) (?_)
   ·rintro i y ys H' hy ⟨e,S',GV⟩;rw[fA]at hy;cases hz:(kG x)[i]? with
    | none=>rw[hz]at hy;cases hy
    | some z=>
     rw[hz]at hy;cases hy;have key:=take_succ_filter (λz=>(mM (.str z) [.str "short",.str "full"]) != qq) (kG x) i z hz;refine⟨aN rfl,λtp Hb sb gb=>⟨tp,_,rfl,.inr (QYM gb),rfl,rfl,?_⟩⟩;show if (!decide (mM (.str z) [.str "short",.str "full"]=qq))=true then _ else _
     have eb:(!decide (mM (.str z) [.str "short",.str "full"]=qq))=(mM (.str z) [.str "short",.str "full"] != qq):=by cases mM (.str z) [.str "short",.str "full"]<;>cases qq<;>rfl
     rw[eb];refine bG (λh=>⟨?_,S'.trans sb,sb _ _ GV⟩) (λh=>⟨?_,S'.trans sb,sb _ _ GV⟩)
     ·rw[key,P0 h,dJ,e];rfl
     ·rw[key,QZZ (by rw[h];exact V2),append_nil,e]
   ·rintro ys H' ⟨e,S',GV⟩;intro pn QV;refine q pn _ (S'.free QV) ?_ (S'.trans (aF QV));rw[aA,e,aS,iB (aY _),Cy x hf]
def tD:An->Str|.is1 _=>"is"|.is2 _ _=>"is"|.short _=>"short"|.full _=>"full"|.no _=>"no"|.ok=>"ok"
def Nd:Sp:=λvs H Q _=>∃(d b t:TD)(x:Dd)(z:Str),vs=[.ref d,.ref t,.str z]/\Dk H d b/\H t=some (.tup x.vs)/\x.Ok/\z∈kG x ∧
 ∀(c:TD)(y:An)(H':Hp),An.Of x y->tD y=z->H' c=some (.tup y.vs)->Fw d b H H'->Q (.ref c) H'
def aBx(x:Dd):mU x.vs (-1)=some (.int (x.n:Int)):=by cases x<;>rfl
def gN{r:Int}(h:0<=r):∃z:Nat,r=z:=⟨r.toNat,Zo⟩
def Gr(T:Txt K mg)(a6:aG P w K mg base 1 "_law_draw" QZP bT)(B7:aG P w K mg base 2 "_law_end" QZP bT)(D:DefAt K mg "_law_answer" gK QZd):aG P w K mg base 3 "_law_answer" QZd Nd:=by
 refine D.go fN (λvs H Q E h=>?_) (λf cdv A outer s H vs Q E hr h=>?_)
 ·obtain⟨d,b,t,x,z,rfl,_⟩:=h;rfl
 ·obtain⟨d,b,t,x,z,rfl,dk,gt,hx,hz,q⟩:=h;have a7:Room 1 _:=hr.mono Zd;have B8:Room 2 _:=hr.mono Zd;have hn:=hx.n;refine⟨_,(mo (ng (i:=3) fN.nd (mn (mr (K:=K)) (lc 1) (qr ml))) (mo (ng (i:=4) fN.nd (mz B7 B8 rfl (li (lc 0) (li (my qi (my vh (my ud ml ml) (lc 3)) ml) mm)))) (mo (ng (i:=5) fN.nd (my qi (lc 3) (mz B7 B8 rfl (li (lc 0) (li (my qi (my vh (my ud ml ml) (lc 3)) ml) mm))))) (mo (nk (ni pi (lc 2) mq) (mv (nh (nj (li mq (li (mn (mr (K:=K)) (lc 1) (my qi ml (my R.fj (mz a6 a7 rfl (li (lc 0) (li ml mm))) (IN R.ft rfl T.b_int oI (li (qm pi (mn (mr (K:=K)) (lc 1) ml) mq) mm))))) mm))))) nw) (mo (nk (ni pi (lc 2) mq) (mv (nh (nj (li mq mm)))) nw) (mo (nk (ni pi (lc 2) mq) (mv (nh (nj (li mq (li (mz B7 B8 rfl (li (lc 0) (li (lc 3) mm))) mm))))) nw) (mo (nk (ni pi (lc 2) mq) (mv (nh (nj (li mq (li (my vh (my ud ml ml) (mz B7 B8 rfl (li (lc 0) (li (lc 3) mm)))) mm))))) nw) (mo (nk (ni pi (mn (mr (K:=K)) (lc 1) ml) mq) (mv (nh (nj (li mq (li (lc 4) (li (lc 5) mm)))))) nw) (mv (nh (nj (li mq (li (mn (qj (K:=K)) (qk (li (lc 4) (li (lc 5) mm))) (IN R.ft rfl T.b_int oI (li (qm (sw (K:=K)) (mn (mr (K:=K)) (lc 1) ml) (nj (li mq (li mq mm)))) mm))) mm))))))))))))),?_⟩;refine⟨_,QYM gt,_,aBx x,?_⟩;dsimp only [aJ];refine⟨⟨Zd,Zd,Zd⟩,d,b,1000000000000-(x.n:Int)+1,rfl,dk,Zo,Zo,λr1 H1 a0 a1 D1 k1=>?_⟩;dsimp only [aJ];refine⟨⟨Zd,Zd,Zd⟩,d,b,1000000000000-(x.n:Int)+1,rfl,D1,Zo,Zo,λr2 H2 b0 b1 D2 k2=>?_⟩;dsimp only [aJ];have f2:=((Fw.refl dk).draw D1 k1).draw D2 k2;obtain⟨r1,rfl⟩:=gN a0;obtain⟨r2,rfl⟩:=gN b0;have C6:=f2.tup gt;have ff:=f2;dsimp only [zQ,mI];show sI _ _ _ [some (.ref d),some (.ref t),some (.str z),some (.int (x.n:Int)),some (.int (r1:Int)),some (.int ((x.n:Int)+(r2:Int)))] H2
  cases x with
  | add a n=>
   simp only [Dd.n]at hn a1 b1;simp only [kG,mem_cons,QZT,or_false]at hz;rcases hz with rfl|rfl
   ·refine⟨_,QYM C6,_,rfl,⟨eT rfl,λp hp=>⟨_,QYM (aP C6 hp),_,rfl,aN rfl,λtq Ha sa ga=>⟨tq,_,rfl,.inr (QYM ga),rfl,rfl,⟨_,QYL (sa _ _ aA),_,rfl,aN rfl,λp' H' s' g'=>?_⟩⟩⟩⟩⟩;refine q p' (.is1 (n+r2)) H' ⟨Zo,Zo⟩ rfl ?_ (((ff.new hp).same sa).same s');rw[g'];show some (HO.tup [V.str "is",.int ((n:Int)+(r2:Int))])=some (HO.tup [V.str "is",.int ((n+r2:Nat):Int)]);rw[show((n+r2:Nat):Int)=(n:Int)+(r2:Int) by omega]
   ·refine⟨⟨Zd,Zd,Zd⟩,d,b,(n:Int),rfl,ff.dk,Zo,Zo,λr3 H3 c0 c1 D3 k3=>⟨aN rfl,λp H' s' g'=>?_⟩⟩;obtain⟨r3,rfl⟩:=gN c0;refine q p (.full (1000000000000-r3)) H' ⟨Zo,Zo⟩ rfl ?_ ((ff.draw D3 k3).same s');rw[g'];show some (HO.tup [V.str "full",.int ((1000000000000:Int)-(r3:Int))])=some (HO.tup [V.str "full",.int ((1000000000000-r3:Nat):Int)]);rw[show((1000000000000-r3:Nat):Int)=(1000000000000:Int)-(r3:Int) by omega]
  | take a n=>
   simp only [Dd.n]at hn a1 b1;simp only [kG,mem_cons,QZT,or_false]at hz;rcases hz with rfl|rfl
   ·refine⟨_,QYM C6,_,rfl,⟨eT rfl,λp hp=>⟨_,QYM (aP C6 hp),_,rfl,aN rfl,λtq Ha sa ga=>⟨tq,_,rfl,.inr (QYM ga),rfl,rfl,⟨_,QYL (sa _ _ aA),_,rfl,aN rfl,λp' H' s' g'=>?_⟩⟩⟩⟩⟩;exact q p' (.is1 r1) H' (by show r1+n<=1000000000000;omega) rfl g' (((ff.new hp).same sa).same s')
   ·refine⟨d,b,(n:Int),rfl,ff.dk,Zo,Zo,λr3 H3 c0 c1 D3 k3=>⟨aN rfl,λp H' s' g'=>?_⟩⟩;obtain⟨r3,rfl⟩:=gN c0;exact q p (.short r3) H' (by show r3<n;omega) rfl g' ((ff.draw D3 k3).same s')
  | move a b' n=>
   simp only [Dd.n]at hn a1 b1;simp only [kG,mem_cons,QZT,or_false]at hz;rcases hz with rfl|rfl|rfl
   ·refine⟨_,QYM C6,_,rfl,aN rfl,λp H' s' g'=>?_⟩;refine q p (.is2 r1 (n+r2)) H' ⟨Zo,Zo,Zo⟩ rfl ?_ (ff.same s');rw[g'];show some (HO.tup [V.str "is",.int (r1:Int),.int ((n:Int)+(r2:Int))])=some (HO.tup [V.str "is",.int (r1:Int),.int ((n+r2:Nat):Int)]);rw[show((n+r2:Nat):Int)=(n:Int)+(r2:Int) by omega]
   ·refine⟨d,b,(n:Int),rfl,ff.dk,Zo,Zo,λr3 H3 c0 c1 D3 k3=>⟨aN rfl,λp H' s' g'=>?_⟩⟩;obtain⟨r3,rfl⟩:=gN c0;exact q p (.short r3) H' (by show r3<n;omega) rfl g' ((ff.draw D3 k3).same s')
   ·refine⟨⟨Zd,Zd,Zd⟩,d,b,(n:Int),rfl,ff.dk,Zo,Zo,λr3 H3 c0 c1 D3 k3=>⟨aN rfl,λp H' s' g'=>?_⟩⟩;obtain⟨r3,rfl⟩:=gN c0;refine q p (.full (1000000000000-r3)) H' ⟨Zo,Zo⟩ rfl ?_ ((ff.draw D3 k3).same s');rw[g'];show some (HO.tup [V.str "full",.int ((1000000000000:Int)-(r3:Int))])=some (HO.tup [V.str "full",.int ((1000000000000-r3:Nat):Int)]);rw[show((1000000000000-r3:Nat):Int)=(1000000000000:Int)-(r3:Int) by omega]
  | send h a n=>
   simp only [Dd.n]at hn a1 b1;simp only [kG,mem_cons,QZT,or_false]at hz;rcases hz with rfl|rfl|rfl
   ·refine⟨_,QYM C6,_,rfl,⟨eT rfl,λp hp=>⟨_,QYM (aP C6 hp),_,rfl,aN rfl,λtq Ha sa ga=>⟨tq,_,rfl,.inr (QYM ga),rfl,rfl,⟨_,QYL (sa _ _ aA),_,rfl,aN rfl,λp' H' s' g'=>?_⟩⟩⟩⟩⟩;exact q p' (.is1 r1) H' (by show r1+n<=1000000000000;omega) rfl g' (((ff.new hp).same sa).same s')
   ·refine⟨d,b,(n:Int),rfl,ff.dk,Zo,Zo,λr3 H3 c0 c1 D3 k3=>⟨aN rfl,λp H' s' g'=>?_⟩⟩;obtain⟨r3,rfl⟩:=gN c0;exact q p (.short r3) H' (by show r3<n;omega) rfl g' ((ff.draw D3 k3).same s')
   ·refine⟨d,b,2,rfl,ff.dk,Zd,Zd,λr3 H3 c0 c1 D3 k3=>⟨_,QYM ((ff.draw D3 k3).tup gt),_,rfl,.inl ⟨Zo,Zo⟩,_,QYM ((ff.draw D3 k3).tup gt),.str h,?_,aN rfl,λp H' s' g'=>?_⟩⟩
    ·show mU _ (1+r3*0)=_;rw[Int.mul_zero];rfl
    ·exact q p (.no h) H' rfl rfl g' ((ff.draw D3 k3).same s')
  | fetch h a n=>
   simp only [Dd.n]at hn a1 b1;simp only [kG,mem_cons,QZT,or_false]at hz;rcases hz with rfl|rfl|rfl
   ·refine⟨_,QYM C6,_,rfl,⟨eT rfl,λp hp=>⟨_,QYM (aP C6 hp),_,rfl,aN rfl,λtq Ha sa ga=>⟨tq,_,rfl,.inr (QYM ga),rfl,rfl,⟨_,QYL (sa _ _ aA),_,rfl,aN rfl,λp' H' s' g'=>?_⟩⟩⟩⟩⟩;refine q p' (.is1 (n+r2)) H' ⟨Zo,Zo⟩ rfl ?_ (((ff.new hp).same sa).same s');rw[g'];show some (HO.tup [V.str "is",.int ((n:Int)+(r2:Int))])=some (HO.tup [V.str "is",.int ((n+r2:Nat):Int)]);rw[show((n+r2:Nat):Int)=(n:Int)+(r2:Int) by omega]
   ·refine⟨⟨Zd,Zd,Zd⟩,d,b,(n:Int),rfl,ff.dk,Zo,Zo,λr3 H3 c0 c1 D3 k3=>⟨aN rfl,λp H' s' g'=>?_⟩⟩;obtain⟨r3,rfl⟩:=gN c0;refine q p (.full (1000000000000-r3)) H' ⟨Zo,Zo⟩ rfl ?_ ((ff.draw D3 k3).same s');rw[g'];show some (HO.tup [V.str "full",.int ((1000000000000:Int)-(r3:Int))])=some (HO.tup [V.str "full",.int ((1000000000000-r3:Nat):Int)]);rw[show((1000000000000-r3:Nat):Int)=(1000000000000:Int)-(r3:Int) by omega]
   ·refine⟨d,b,2,rfl,ff.dk,Zd,Zd,λr3 H3 c0 c1 D3 k3=>⟨_,QYM ((ff.draw D3 k3).tup gt),_,rfl,.inl ⟨Zo,Zo⟩,_,QYM ((ff.draw D3 k3).tup gt),.str h,?_,aN rfl,λp H' s' g'=>?_⟩⟩
    ·show mU _ (1+r3*0)=_;rw[Int.mul_zero];rfl
    ·exact q p (.no h) H' rfl rfl g' ((ff.draw D3 k3).same s')
  | pass h g a n=>
   simp only [Dd.n]at hn a1 b1;simp only [kG,mem_cons,QZT,or_false]at hz;rcases hz with rfl|rfl
   ·refine⟨aN rfl,λp H' s' g'=>?_⟩;exact q p .ok H' trivial rfl g' (ff.same s')
   ·refine⟨d,b,2,rfl,ff.dk,Zd,Zd,λr3 H3 c0 c1 D3 k3=>?_⟩;rcases(by omega:r3=0∨r3=1) with rfl|rfl
    ·refine⟨_,QYM ((ff.draw D3 k3).tup gt),_,rfl,.inl ⟨Zo,Zo⟩,_,QYM ((ff.draw D3 k3).tup gt),.str h,rfl,aN rfl,λp H' s' g'=>?_⟩;exact q p (.no h) H' (.inl rfl) rfl g' ((ff.draw D3 k3).same s')
    ·refine⟨_,QYM ((ff.draw D3 k3).tup gt),_,rfl,.inl ⟨Zo,Zo⟩,_,QYM ((ff.draw D3 k3).tup gt),.str g,rfl,aN rfl,λp H' s' g'=>?_⟩;exact q p (.no g) H' (.inr rfl) rfl g' ((ff.draw D3 k3).same s')
structure MenusAt(H:Hp)(lm:TD)(M:List TD):Prop where
 ex:∃(a0 a1 a2 a3:TD)(ws us ps ks:List Str),M=[lm,a0,a1,a2,a3]/\H lm=some (.lst [.ref a0,.ref a1,.ref a2,.ref a3])/\H a0=some (.lst (ws.map V.str))/\H a1=some (.lst (us.map V.str))/\H a2=some (.lst (ps.map V.str))/\H a3=some (.lst (ks.map V.str)) ∧
  Menu ws/\Menu us/\(1<=ps.length/\ps.length<=6/\∀z∈ps,fO z)/\1<=ks.length/\ks.length<=6/\∀z∈ks,xY z
def MenusAt.keep{H H':Hp}{lm:TD}{M:List TD}(h:MenusAt H lm M)(k:∀c∈M,∀o,H c=some o->H' c=some o):MenusAt H' lm M:=by
 obtain⟨a0,a1,a2,a3,ws,us,ps,ks,rfl,h0,h1,h2,h3,h4,r⟩:=h.ex;exact⟨a0,a1,a2,a3,ws,us,ps,ks,rfl,k _ Zs _ h0,k _ Zs _ h1,k _ Zs _ h2,k _ Zs _ h3,k _ Zs _ h4,r⟩
def Fw.menus{d b:TD}{H H':Hp}{lm:TD}{M:List TD}(f:Fw d b H H')(h1:d∉M)(h2:b∉M)(h:MenusAt H lm M):MenusAt H' lm M:=h.keep λc hc o e=>f.get e (λz=>h1 (z▸hc)) (λz=>h2 (z▸hc))
def Fw.put{d b a:TD}{H H':Hp}{o:HO}(f:Fw d b H H')(hn:H a=none):Fw d b H (aI H' a o):=by
 have hd:=f.d0.ne hn;refine⟨f.d0,?_,λc u e n1 n2=>?_⟩
 ·obtain⟨ns,s,k,h1,h2,h3⟩:=f.dk.ex;exact⟨ns,s,k,by rw[aB (λz=>hd.1 z.symm)];exact h1,by rw[aB (λz=>hd.2 z.symm)];exact h2,h3⟩
 ·rw[aB (aE e hn)];exact f.kp _ _ e n1 n2
def pZ:Sp:=λvs H Q _=>∃(d b lm:TD)(M:List TD),vs=[.ref d,.ref lm]/\Dk H d b/\MenusAt H lm M/\d∉M/\b∉M/\∀(t:TD)(p k:Str)(H':Hp),fO p->xY k->H' t=some (.tup [.str p,.str k])->Fw d b H H'->Q (.ref t) H'
def Sz(T:Txt K mg)(a6:aG P w K mg base 1 "_law_draw" QZP bT)(D:DefAt K mg "_law_spot" jT QZL):aG P w K mg base 2 "_law_spot" QZL pZ:=by
 refine D.go yG (λvs H Q E h=>?_) (λf cdv A outer s H vs Q E hr h=>?_)
 ·obtain⟨d,b,lm,M,rfl,_⟩:=h;rfl
 ·obtain⟨d,b,lm,M,rfl,dk,hM,hd,hb,q⟩:=h;have a7:=hr;obtain⟨a0,a1,a2,a3,ws,us,ps,ks,rfl,h0,h1,h2,h3,h4,mw,mu,⟨p1,p6,pn⟩,k1,k6,kn⟩:=hM.ex;have nd:∀c∈[lm,a0,a1,a2,a3],c≠d/\c≠b:=λc hc=>⟨λz=>hd (z▸hc),λz=>hb (z▸hc)⟩
  refine⟨_,(mv (nh (nj (li (mn (qj (K:=K)) (mn (qj (K:=K)) (lc 1) ml) (mz a6 a7 rfl (li (lc 0) (li (ql (sn (K:=K)) rfl T.b_len cD (li (mn (qj (K:=K)) (lc 1) ml) mm)) mm)))) (li (mn (qj (K:=K)) (mn (qj (K:=K)) (lc 1) ml) (mz a6 a7 rfl (li (lc 0) (li (ql (sn (K:=K)) rfl T.b_len cD (li (mn (qj (K:=K)) (lc 1) ml) mm)) mm)))) mm))))),?_⟩;refine⟨_,QYL h0,_,rfl,_,QYL h0,_,rfl,_,.inl (QYL h3),d,b,(ps.length:Int),by rw[aS],dk,Zo,Zo,λr1 H1 x0 x1 D1 e1=>?_⟩;have f1:=(Fw.refl dk).draw D1 e1;have ge:∀c∈[lm,a0,a1,a2,a3],∀o,H c=some o->H1 c=some o:=λc hc o e=>f1.get e (nd c hc).1 (nd c hc).2
  obtain⟨i,hi,rfl,ei⟩:=kY x0 x1;refine⟨_,QYL (ge a2 Zs _ h3),_,ei,?_⟩;refine⟨_,QYL (ge lm Zs _ h0),_,rfl,_,QYL (ge lm Zs _ h0),_,rfl,_,.inl (QYL (ge a3 Zs _ h4)),d,b,(ks.length:Int),by rw[aS],D1,Zo,Zo,λr2 H2 y0 y1 D2 e2=>?_⟩;have f2:=f1.draw D2 e2;obtain⟨j,hj,rfl,ej⟩:=kY y0 y1;refine⟨_,QYL (f2.get h4 (nd a3 Zs).1 (nd a3 Zs).2),_,ej,aN rfl,λt H' s' g'=>?_⟩;exact q t _ _ H' (pn _ (getElem_mem hi)) (kn _ (getElem_mem hj)) g' (f2.same s')
def Cz:Sp:=λvs H Q _=>∃(d b lm:TD)(M:List TD)(n t:Nat),vs=[.ref d,.ref lm,.int (n:Int),.int (t:Int)]/\Dk H d b/\MenusAt H lm M/\d∉M/\b∉M ∧
 ∀(a:TD)(p k:Str)(x:Dd)(y:An)(H':Hp),fO p->xY k->x.Ok->An.Of x y->RX.At H' a (.kept n t p k x y)->Fw d b H H'->Q (.ref a) H'
def Dg(x:Dd)(q:Bool):∀z∈uE x q,z∈kG x:=by
 cases hf:x.far with
 | false=>rw[yK x hf];exact λz h=>h
 | true=>rw[Cy x hf];exact λz h=>(mem_filter.mp h).1
def yL(x:Dd):1<=(uE x true++uE x false).length/\(uE x true++uE x false).length<=6:=by cases x<;>exact⟨QZX rfl,QZX rfl⟩
def Ta(T:Txt K mg)(a6:aG P w K mg base 1 "_law_draw" QZP bT)(S8:aG P w K mg base 3 "_law_deed" QZz pY)(uj:aG P w K mg base 1 "_law_words" QZe yJ)(vx:aG P w K mg base 3 "_law_answer" QZd Nd)(T1:aG P w K mg base 2 "_law_spot" QZL pZ)(D:DefAt K mg "_law_kept" jU QZb):aG P w K mg base 4 "_law_kept" QZb Cz:=by
 refine D.go iO (λvs H Q E h=>?_) (λf cdv A outer s H vs Q E hr h=>?_)
 ·obtain⟨d,b,lm,M,n,t,rfl,_⟩:=h;rfl
 ·obtain⟨d,b,lm,M,n,t,rfl,dk,hM,hd,hb,q⟩:=h;have a7:Room 1 _:=hr.mono Zd;have X0:Room 3 _:=hr.mono Zd;have uk:Room 1 _:=hr.mono Zd;have vy:Room 3 _:=hr.mono Zd;have X1:Room 2 _:=hr.mono Zd;have QW:=hM;obtain⟨a0,a1,a2,a3,ws,us,ps,ks,rfl,h0,h1,h2,h3,h4,mw,mu,⟨p1,p6,pn⟩,k1,k6,kn⟩:=hM.ex;have nd:∀c∈[lm,a0,a1,a2,a3],c≠d/\c≠b:=λc hc=>⟨λz=>hd (z▸hc),λz=>hb (z▸hc)⟩
  refine⟨_,(mo (ng (i:=4) iO.nd (mz S8 X0 rfl (li (lc 0) (li (mn (qj (K:=K)) (lc 1) ml) (li (mn (qj (K:=K)) (lc 1) ml) mm))))) (mo (ng (i:=5) iO.nd (my wf (mz uj uk rfl (li (lc 4) (li qy mm))) (mz uj uk rfl (li (lc 4) (li qy mm))))) (mo (ng (i:=6) iO.nd (mz vx vy rfl (li (lc 0) (li (lc 4) (li (mn (qj (K:=K)) (lc 5) (mz a6 a7 rfl (li (lc 0) (li (ql (sn (K:=K)) rfl T.b_len cD (li (lc 5) mm)) mm)))) mm))))) (mv (nh (my u8 (my u8 (nj (li mq (li (lc 2) (li (lc 3) mm)))) (mz T1 X1 rfl (li (lc 0) (li (lc 1) mm)))) (nj (li (lc 4) (li (lc 6) mm))))))))),?_⟩;refine⟨_,QYL h0,_,rfl,_,QYL h0,_,rfl,d,b,a0,a1,ws,us,rfl,dk,h1,h2,⟨(nd a0 Zs).1,(nd a0 Zs).2,(nd a1 Zs).1,(nd a1 Zs).2⟩,mw,mu,λtd x H1 hx gx f1=>?_⟩;dsimp only [aJ];refine⟨td,x,true,rfl,gx,λl1 H2 n1 g1 s1=>⟨td,x,false,rfl,s1 _ _ gx,λl2 H3 n2 g2 s2=>⟨_,_,s2 _ _ g1,g2,?_,λl3 JL=>?_⟩⟩⟩
  ·have:=yL x;rw[mO]at this;rw[aS,aS];exact gB Zo
  have CD:Same H1 (aI H3 l3 (.lst ((uE x true).map V.str++(uE x false).map V.str))):=(s1.trans s2).trans (aF JL);have g3:(aI H3 l3 (.lst ((uE x true).map V.str++(uE x false).map V.str))) l3=some (.lst ((uE x true++uE x false).map V.str)):=by rw[aA,dJ]
  have f3:=f1.same CD;have QX:=(f1.same (s1.trans s2)).dk.ne JL;have EG:=CD _ _ gx;dsimp only [aJ];generalize aI H3 l3 (.lst ((uE x true).map V.str++(uE x false).map V.str))=H4 at g3 f3 EG;have w6:=yL x;refine⟨_,.inl (QYL g3),d,b,((uE x true++uE x false).length:Int),by rw[aS],f3.dk,Zo,Zo,λr H5 r0 r1 D5 e5=>?_⟩;have f5:=f3.draw D5 e5;have F5:=(Fw.refl f3.dk).draw D5 e5;obtain⟨i,hi,rfl,ei⟩:=kY r0 r1;have hz:(uE x true++uE x false)[i]∈kG x:=by
   rcases Zma.mp (getElem_mem hi) with h|h
   ·exact Dg x _ _ h
   ·exact Dg x _ _ h
  refine⟨_,QYL (F5.get g3 QX.1 QX.2),_,ei,d,b,td,x,_,rfl,D5,F5.tup EG,hx,hz,λc y H6 hy _ gy f6=>?_⟩;have YF:=f5.trans f6;dsimp only [aJ];refine⟨aN rfl,λt1 H7 s7 g7=>?_⟩;have MR:=YF.same s7;refine⟨d,b,lm,_,rfl,MR.dk,MR.menus hd hb QW,hd,hb,λt2 p k H8 hp hk g8 f8=>?_⟩;refine⟨_,_,f8.tup g7,g8,QZX rfl,λt3 H9 s9 g9=>⟨aN rfl,λt4 Ha sa ga=>⟨_,_,sa _ _ g9,ga,QZX rfl,λt5 Hb sb gb=>?_⟩⟩⟩;have QY:TK H7 Hb:=f8.tk.trans (((Same.tk s9).trans (Same.tk sa)).trans (Same.tk sb));refine q t5 p k x y Hb hp hk hx hy ⟨td,c,gb,?_,?_⟩ (((((MR.trans f8).same s9).same sa).same sb))
  ·exact QY _ _ (s7 _ _ (f6.tup (F5.tup EG)))
  ·exact QY _ _ (s7 _ _ gy)
def Fw.free{d b a:TD}{H H':Hp}(f:Fw d b H H')(h:H' a=none):H a=none:=by
 have hd:=f.dk.ne h
 cases e:H a with
 | none=>rfl
 | some o=>rw[f.kp _ _ e hd.1 hd.2]at h;cases h
structure wF(rs:List RX):Prop where
 wh:RX.Whole rs
 ok:∀r∈rs,r.Ok
 rk:∀r∈rs,r.rank<=2
 len:rs.length<=13
 nx:∀n t,.next n t∈rs->n<=900006/\t<500000000000
structure Hd1(n t:Nat)(zs:List Str)(rs:List RX):Prop where
 wh:RX.Whole rs
 ok:∀r∈rs,r.Ok
 nx:∀n' t',.next n' t'∈rs->n'=n/\t'=t
 one:.next n t∈rs
 rk:∀r∈rs,r.rank<=1
 hs:∀z m,.has z m∈rs->z∈zs
def aH{α:Type}{xs:List α}{x y:α}(h:y∈xs++[x]):y∈xs∨y=x:=by
 rcases Zma.mp h with h|h
 ·exact .inl h
 ·exact .inr (Zms.mp h)
def Hd1.skip{n t:Nat}{zs:List Str}{rs:List RX}(h:Hd1 n t zs rs)(z:Str):Hd1 n t (zs++[z]) rs:=⟨h.wh,h.ok,h.nx,h.one,h.rk,λy m q=>QZW _ (h.hs y m q)⟩
def Hd1.step{n t:Nat}{zs:List Str}{rs:List RX}(h:Hd1 n t zs rs){z:Str}{m:Nat}(hz:∀y∈zs,y.cps.toList<z.cps.toList)(hn:fO z)(h1:1<=m)(h2:m<=1000000000000):Hd1 n t (zs++[z]) (rs++[.has z m]):=by
 refine⟨h.wh.snoc ⟨h.rk,⟨n,t,h.one⟩,λz' m' q=>hz z' (h.hs _ _ q)⟩,λr hr=>?_,λn' t' hr=>?_,QZW _ h.one,λr hr=>?_,λz' m' hr=>?_⟩
 ·rcases aH hr with hr|rfl
  ·exact h.ok r hr
  ·exact⟨hn,h1,h2⟩
 ·rcases aH hr with hr|hr
  ·exact h.nx _ _ hr
  ·cases hr
 ·rcases aH hr with hr|rfl
  ·exact h.rk r hr
  ·exact aY _
 ·rcases aH hr with hr|hr
  ·exact QZW _ (h.hs _ _ hr)
  ·cases hr;exact QZV _ eV
structure Hd2(n t last:Nat)(rs:List RX):Prop where
 wh:RX.Whole rs
 ok:∀r∈rs,r.Ok
 nx:∀n' t',.next n' t'∈rs->n'=n/\t'=t
 one:.next n t∈rs
 rk:∀r∈rs,r.rank<=2
 kp:∀n' t' p k x y,.kept n' t' p k x y∈rs->n'<=last
def Hd2.more{n t last BD:Nat}{rs:List RX}(h:Hd2 n t last rs)(hl:last<=BD):Hd2 n t BD rs:=⟨h.wh,h.ok,h.nx,h.one,h.rk,λn' t' p k x y q=>eI (h.kp n' t' p k x y q) hl⟩
def Hd2.step{n t last m u:Nat}{rs:List RX}(h:Hd2 n t last rs){p k:Str}{x:Dd}{y:An}(hm:last<m)(CF:m<n)(hn:n<=900006)(hu:u<=t)(ht:t<=1000000000000)(hp:fO p)(hk:xY k)(hx:x.Ok)(hy:An.Of x y):Hd2 n t m (rs++[.kept m u p k x y]):=by
 refine⟨h.wh.snoc ⟨h.rk,⟨n,t,h.one,CF,hu⟩,λn' t' p' k' d' y' q=>nS (h.kp _ _ _ _ _ _ q) hm,hy⟩,λr hr=>?_,λn' t' hr=>?_,QZW _ h.one,λr hr=>?_,λn' t' p' k' x' y' hr=>?_⟩
 ·rcases aH hr with hr|rfl
  ·exact h.ok r hr
  ·exact⟨Zo,Zo,Zo,hp,hk,hx,hy⟩
 ·rcases aH hr with hr|hr
  ·exact h.nx _ _ hr
  ·cases hr
 ·rcases aH hr with hr|rfl
  ·exact h.rk r hr
  ·exact aY _
 ·rcases aH hr with hr|hr
  ·exact le_of_lt (nS (h.kp _ _ _ _ _ _ hr) hm)
  ·cases hr;exact aY _
def aBy{zs:List Str}(hs:zs.Pairwise λa b=>a.cps.toList<=b.cps.toList)(hn:zs.Nodup){i:Nat}{z:Str}(h:zs[i]?=some z):∀y∈zs.take i,y.cps.toList<z.cps.toList:=by
 intro y hy;obtain⟨hi,ei⟩:=Zgs.mp h;obtain⟨j,hj,ej⟩:=getElem_of_mem hy;rw[nU]at hj;rw[List.getElem_take]at ej;have h1:=(pairwise_iff_getElem.mp hs) j i Zo hi Zo;have h2:=(pairwise_iff_getElem.mp hn) j i Zo hi Zo;rw[ej,ei]at h1 h2;rcases List.le_iff_lt_or_eq.mp h1 with h3|h3
 ·exact h3
 ·exact QZY (by rw[nB y,nB z,h3]) h2
def qA:Sp:=λvs H Q _=>∃(d b lm:TD)(M:List TD),vs=[.ref d,.ref lm]/\Dk H d b/\MenusAt H lm M/\d∉M/\b∉M ∧
 ∀(ra:TD)(rs:List RX)(as:List TD)(H':Hp),H ra=none->RxsAt H' ra rs as->wF rs->Fw d b H H'->Q (.ref ra) H'
def Tb(T:Txt K mg)(a6:aG P w K mg base 1 "_law_draw" QZP bT)(B7:aG P w K mg base 2 "_law_end" QZP bT)(CG:aG P w K mg base 4 "_law_kept" QZb Cz)(D:DefAt K mg "_law_head" jV QZL):aG P w K mg base 5 "_law_head" QZL qA:=by
 refine D.go cR (λvs H Q E h=>?_) (λf cdv A outer s H vs Q E hr h=>?_)
 ·obtain⟨d,b,lm,M,rfl,_⟩:=h;rfl
 ·obtain⟨d,b,lm,M,rfl,dk,hM,hd,hb,q⟩:=h;have a7:Room 1 _:=hr.mono Zd;have B8:Room 2 _:=hr.mono Zd;have CH:Room 4 _:=hr.mono Zd;refine⟨_,(mo (ng (i:=2) cR.nd (mn (qj (K:=K)) (qk (li (my qi ml (mz a6 a7 rfl (li (lc 0) (li ml mm)))) (li (my qi ml (mz a6 a7 rfl (li (lc 0) (li ml mm)))) mm))) (mz a6 a7 rfl (li (lc 0) (li ml mm))))) (mo (ng (i:=3) cR.nd (mz B7 B8 rfl (li (lc 0) (li (my R.fj ml (my ud ml ml)) mm)))) (mo (ng (i:=4) cR.nd (qk (li (nj (li mq (li (lc 2) (li (lc 3) mm)))) mm))) (mo (ve PassesOwn.never rfl (qp (K:=K) (ql (R.il (K:=K)) rfl T.b_sorted lE (li (mn (qj (K:=K)) (lc 1) ml) mm))) (o0 (i:=5) cR.nd) (mv (nk (ni NE (mz a6 a7 rfl (li (lc 0) (li ml mm))) ml) (mv (ua (ub (K:=K) PySem.F.plainAttrs_list PySem.F.slot_list_append PySem.F.type_list_append wv (lc 4) (li (nj (li mq (li (lc 5) (li (my qi ml (mz B7 B8 rfl (li (lc 0) (li (my ud ml ml) mm)))) mm)))) mm)))) nw))) (mo (ng (i:=6) cR.nd ml) (mo (ve PassesOwn.never rfl (R.fm rfl T.b_range (li (mz a6 a7 rfl (li (lc 0) (li ml mm))) mm)) (o0 (i:=7) cR.nd) (mo (ng (i:=6) cR.nd (my qi (my qi (lc 6) ml) (mn (qj (K:=K)) (qk (li ml (li ml (li (mz a6 a7 rfl (li (lc 0) (li ml mm))) mm)))) (mz a6 a7 rfl (li (lc 0) (li ml mm)))))) (mv (nk (ni R.lt (lc 6) (lc 2)) (mv (ua (ub (K:=K) PySem.F.plainAttrs_list PySem.F.slot_list_append PySem.F.type_list_append wv (lc 4) (li (mz CG CH rfl (li (lc 0) (li (lc 1) (li (lc 6) (li (mz B7 B8 rfl (li (lc 0) (li (my qi (lc 3) ml) mm))) mm))))) mm)))) nw)))) (mv (nh (lc 4))))))))),?_⟩;refine bY (λσ' H'=>∃n:Nat,σ'=[some (.ref d),some (.ref lm),some (.int (n:Int)),none,none,none,none,none]/\1<=n/\n<=900006/\Fw d b H H') (λnx b6=>?_) ?_
  ·refine⟨d,b,12,rfl,dk,Zd,Zd,λr1 H1 a0 a1 D1 k1=>⟨d,b,900000,rfl,D1,Zd,Zd,λr2 H2 b0 b1 D2 k2=>⟨eT rfl,λp hp=>⟨d,b,2,rfl,D2.new hp,Zd,Zd,λr3 H3 c0 c1 D3 k3=>?_⟩⟩⟩⟩;have y9:=D2.ne hp;have gp:=k3 p _ aA y9.1 y9.2;have ff:=((((Fw.refl dk).draw D1 k1).draw D2 k2).new hp).draw D3 k3;rcases(by omega:r3=0∨r3=1) with rfl|rfl
   ·refine⟨_,QYL gp,_,rfl,b6 _ _ ⟨(1+r1).toNat,?_,Zo,Zo,ff⟩⟩;rw[Int.toNat_of_nonneg Zo];rfl
   ·refine⟨_,QYL gp,_,rfl,b6 _ _ ⟨(7+r2).toNat,?_,Zo,Zo,ff⟩⟩;rw[Int.toNat_of_nonneg Zo];rfl
  ·rintro σ' H1 ⟨n,rfl,yh,oh,f1⟩;refine⟨⟨Zd,Zd,Zd⟩,.inl ⟨Zd,Zd⟩,d,b,500000000000,rfl,f1.dk,Zd,Zd,λt H2 t0 t1 D2 k2=>?_⟩;obtain⟨t,rfl⟩:=gN t0;have f2:=f1.draw D2 k2;dsimp only [aJ];refine⟨aN rfl,λa1 H3 s3 g3=>⟨eT rfl,λra MS=>?_⟩⟩;have f3:=f2.same s3;have BE:=f3.free MS;have f4:=f3.new (o:=.lst [.ref a1]) MS;have R4:RxsAt (aI H3 ra (.lst [.ref a1])) ra [.next n t] [a1]:=⟨aA,.cons (aP g3 MS) .nil⟩;dsimp only [aJ];generalize aI H3 ra (.lst [.ref a1])=H4 at f4 R4;have QZ:=f4.menus hd hb hM;have QW:=QZ;obtain⟨a0,a1',a2,a3,ws,us,ps,ks,rfl,h0,h1,h2,h3,h4,mw,mu,⟨p1,p6,pn⟩,k1,k6,kn⟩:=QZ.ex;refine bY (λσ' H'=>∃(rs:List RX)(as:List TD)(o5:Option V),σ'=[some (.ref d),some (.ref lm),some (.int (n:Int)),some (.int (t:Int)),some (.ref ra),o5,none,none]/\RxsAt H' ra rs as/\Fw d b H H'/\rs.length<=7/\Hd1 n t (mD ws) rs) (λnx b6=>?_) ?_
   ·refine⟨_,QYL h0,_,rfl,ws,.inl (QYL h1),by have:=mw.six;omega,λls GW=>⟨ls,rfl,⟨_,QYL aA⟩,?_⟩⟩;have YG:ls≠ra:=(aE R4.lst GW).symm;have f5:=f4.new (o:=.lst ((mD ws).map V.str)) GW;have R5:=R4.same (aF (o:=.lst ((mD ws).map V.str)) GW);have yc:=f4.dk.ne GW;have w6:=mw.six;have fls:=f4.free GW;refine dU (aX K ls ((mD ws).map V.str)) (λi σ' H'=>∃(rs:List RX)(as:List TD)(o5:Option V),σ'=[some (.ref d),some (.ref lm),some (.int (n:Int)),some (.int (t:Int)),some (.ref ra),o5,none,none]/\RxsAt H' ra rs as/\Fw d b H H'/\H' ls=some (.lst ((mD ws).map V.str))/\rs.length<=1+i/\Hd1 n t ((mD ws).take i) rs) (λi σ' H' ⟨_,_,_,_,_,_,e,_⟩=>QYL e)
     ⟨[.next n t],[a1],_,rfl,R5,f5,aA,aY _,?_⟩ ?_ ?_
    ·refine⟨RX.Whole.snoc .nil rfl,λr hr=>?_,λn' t' hr=>?_,eV,λr hr=>?_,λz m hr=>?_⟩
     ·rw[Zms.mp hr];exact⟨yh,Zo,Zo⟩
     ·cases Zms.mp hr;exact⟨rfl,rfl⟩
     ·rw[Zms.mp hr];exact zero_le _
     ·cases Zms.mp hr
    ·rintro i x σ' H6 hx ⟨rs,as,o5,rfl,R6,f6,g6,l6,GX⟩;rw[fA]at hx;cases hz:(mD ws)[i]? with
     | none=>rw[hz]at hx;cases hx
     | some z=>
      rw[hz]at hx;cases hx;have hi:i<(mD ws).length:=(Zgs.mp hz).1;rw[lF]at hi;have CI:z∈ws:=(hJ ws).mem_iff.mp (kI hz);have GY:=aBy (mE ws) ((hJ ws).nodup_iff.mpr mw.of.nd) hz;have i8:(mD ws).take (i+1)=(mD ws).take i++[z]:=by rw[List.take_add_one,hz];rfl
      dsimp only [aJ];refine⟨d,b,3,rfl,f6.dk,Zd,Zd,λr H7 r0 r1 D7 k7=>?_⟩;have f7:=f6.draw D7 k7;have F7:=(Fw.refl f6.dk).draw D7 k7;have ug:=f6.d0.ne BE;have R7:=R6.keep F7.tk (F7.get R6.lst ug.1 ug.2);have g7:=F7.get g6 yc.1 yc.2;refine bG (λ_=>?_) (λ_=>?_)
      ·refine⟨.inl ⟨rfl,_,QYL R7.lst⟩,⟨Zd,Zd,Zd⟩,d,b,1000000000000,rfl,D7,Zd,Zd,λm H8 m0 m1 D8 k8=>⟨aN rfl,λta H9 s9 g9=>?_⟩⟩;obtain⟨m,rfl⟩:=gN m0;have f8:=f7.draw D8 k8;have F8:=(Fw.refl D7).draw D8 k8;have f9:=f8.same s9;have R9:=(R7.keep F8.tk (F8.get R7.lst ug.1 ug.2)).same s9;have YH:=s9 _ _ (F8.get g7 yc.1 yc.2);have lr:=R9.len;refine⟨ra,_,_,rfl,rfl,R9.lst,by rw[aS];exact nS (m:=1000) Zo Zd,?_⟩;refine⟨rs++[.has z (1+m)],as++[ta],_,rfl,R9.snoc (fW R9.lst) ?_ aA,f9.put BE,by rw[aB YG];exact YH,by simp;omega,?_⟩
       ·have:=fW R9.lst (ys:=as.map V.ref++[.ref ta]) _ _ g9;show _=some (HO.tup [V.str "has",.str z,.int ((1+m:Nat):Int)]);rw[this,show((1+m:Nat):Int)=1+(m:Int) by omega]
       ·rw[i8];exact GX.step GY (mw.of.of z CI) Zo Zo
      ·refine⟨rs,as,_,rfl,R7,f7,g7,Zo,?_⟩;rw[i8];exact GX.skip z
    ·rintro σ' H6 ⟨rs,as,o5,rfl,R6,f6,g6,l6,GX⟩;refine b6 _ _ ⟨rs,as,o5,rfl,R6,f6,?_,?_⟩
     ·rw[aS,lF]at l6;omega
     ·rw[aS,iB (aY _)]at GX;exact GX
   ·rintro σ' H5 ⟨rs,as,o5,rfl,R5,f5,l5,uy⟩;have ug:=f5.d0.ne BE;refine⟨d,b,7,rfl,f5.dk,Zd,Zd,λr7 H6 r0 r1 D6 k6=>⟨r7,rfl,Zo,Zo,?_⟩⟩;have F6:=(Fw.refl f5.dk).draw D6 k6;have f6:=f5.draw D6 k6;have R6:=R5.keep F6.tk (F6.get R5.lst ug.1 ug.2);refine dU (gP 0 r7.toNat) (λi σ' H'=>∃(rs:List RX)(as:List TD)(last:Nat)(o7:Option V),σ'=[some (.ref d),some (.ref lm),some (.int (n:Int)),some (.int (t:Int)),some (.ref ra),o5,some (.int (last:Int)),o7]/\RxsAt H' ra rs as/\Fw d b H H'/\rs.length<=7+i/\last<=9*i/\Hd2 n t last rs) (λ_ _ _ _=>trivial)
     ⟨rs,as,0,_,rfl,R6,f6,Zo,aY _,⟨uy.wh,uy.ok,uy.nx,uy.one,λr hr=>le_succ_of_le (uy.rk r hr),λn' t' p k x y q=>QZY (uy.rk _ q) (by show ¬ (2<=1);decide)⟩⟩ ?_ ?_
    ·rintro i x σ' H7 hx ⟨rs,as,last,o7,rfl,R7,f7,l7,YI,CJ⟩;obtain⟨rfl,hi⟩:=rF hx;dsimp only [aJ];refine bY (λσ' H'=>∃(m:Nat),σ'=[some (.ref d),some (.ref lm),some (.int (n:Int)),some (.int (t:Int)),some (.ref ra),o5,some (.int (m:Int)),some (.int (i:Int))]/\last<m/\m<=last+9/\RxsAt H' ra rs as/\Fw d b H H') (λGZ A0=>?_) ?_
     ·refine⟨d,b,9,rfl,f7.dk,Zd,Zd,λr8 H8 x0 x1 D8 k8=>⟨eT rfl,λp hp=>⟨d,b,3,rfl,D8.new hp,Zd,Zd,λr9 H9 y0 y1 D9 k9=>?_⟩⟩⟩;obtain⟨r8,rfl⟩:=gN x0;have y9:=D8.ne hp;have gp:=k9 p _ aA y9.1 y9.2;have F9:=(((Fw.refl f7.dk).draw D8 k8).new hp).draw D9 k9;have R9:=R7.keep F9.tk (F9.get R7.lst ug.1 ug.2);have f9:=f7.trans F9;rcases(by omega:r9=0∨r9=1∨r9=2) with rfl|rfl|rfl
      ·refine⟨_,QYL gp,_,rfl,A0 _ _ ⟨last+1,?_,Zo,Zo,R9,f9⟩⟩;rw[show((last+1:Nat):Int)=(last:Int)+1+0 by omega];rfl
      ·refine⟨_,QYL gp,_,rfl,A0 _ _ ⟨last+1,?_,Zo,Zo,R9,f9⟩⟩;rw[show((last+1:Nat):Int)=(last:Int)+1+0 by omega];rfl
      ·refine⟨_,QYL gp,_,rfl,A0 _ _ ⟨last+1+r8,?_,Zo,Zo,R9,f9⟩⟩;rw[show((last+1+r8:Nat):Int)=(last:Int)+1+(r8:Int) by omega];rfl
     ·rintro σ' H8 ⟨m,rfl,m1,m2,R8,f8⟩;refine bG (λq9=>?_) (λ_=>?_)
      ·have CF:m<n:=by have:=UV q9;omega
       refine⟨.inl ⟨rfl,_,QYL R8.lst⟩,d,b,(t:Int)+1,rfl,f8.dk,Zo,Zo,λu H9 u0 u1 D9 k9=>?_⟩;obtain⟨u,rfl⟩:=gN u0;have F9:=(Fw.refl f8.dk).draw D9 k9;have f9:=f8.trans F9;have R9:=R8.keep F9.tk (F9.get R8.lst ug.1 ug.2);refine⟨d,b,lm,_,m,u,rfl,D9,f9.menus hd hb hM,hd,hb,λta p k x y Ha hp hk YJ hy at_ fa=>?_⟩;have Ra:=R9.keep fa.tk (fa.get R9.lst ug.1 ug.2);have lr:=Ra.len;refine⟨ra,_,_,rfl,rfl,Ra.lst,by rw[aS];exact nS (m:=1000) Zo Zd,?_⟩;refine⟨rs++[.kept m u p k x y],as++[ta],m,_,rfl,Ra.snoc (fW Ra.lst) (at_.tk (fW Ra.lst)) aA,(f9.trans fa).put BE,by simp;omega,Zo,?_⟩;exact CJ.step m1 CF oh Zo Zo hp hk YJ hy
      ·exact⟨rs,as,m,_,rfl,R8,f8,Zo,Zo,CJ.more (le_of_lt m1)⟩
    ·rintro σ' H7 ⟨rs,as,last,o7,rfl,R7,f7,l7,YI,CJ⟩;refine q ra rs as H7 BE R7 ⟨CJ.wh,CJ.ok,CJ.rk,?_,λn' t' hr=>?_⟩ f7
     ·rw[iP]at l7;omega
     ·obtain⟨rfl,rfl⟩:=CJ.nx _ _ hr;exact⟨Zo,Zo⟩
def Bc:("abcdefghijklmnopqrstuvwxyz":Str)=tx LET:=by rw[nB ("abcdefghijklmnopqrstuvwxyz":Str),Ak]
def Tc:("abcdefghijklmnopqrstuvwxyz":Str)++("0123456789":Str)=tx KLET:=by rw[nB ("abcdefghijklmnopqrstuvwxyz":Str),Ak,nB ("0123456789":Str),Ye,vK];rfl
def lN{H:Hp}{a l:TD}{ws:List Str}{xs:List TD}(h1:H a=some (.lst (ws.map V.str)))(h2:1<=ws.length)(h3:H l=some (.lst (xs.map V.ref))):a≠l:=by
 intro e;rw[e,h3]at h1;cases ws with
 | nil=>cases h2
 | cons w ws=>
  cases xs with
  | nil=>cases h1
  | cons x xs=>cases h1
def Zl:LET.Nodup:=by decide
def aBz:KLET.Nodup:=by decide
def yM:Sp:=λvs H Q _=>∃(d b:TD),vs=[.ref d]/\Dk H d b/\∀(lm:TD)(M:List TD)(H':Hp),MenusAt H' lm M->d∉M->b∉M->Fw d b H H'->Q (.ref lm) H'
def aBA{d a0 a1 a2 a3 a4:TD}(h0:a0≠d)(h1:a1≠d)(h2:a2≠d)(h3:a3≠d)(h4:a4≠d):d∉[a0,a1,a2,a3,a4]:=by
 intro h;simp only [mem_cons,QZT,or_false]at h;rcases h with h|h|h|h|h
 ·exact h0 h.symm
 ·exact h1 h.symm
 ·exact h2 h.symm
 ·exact h3 h.symm
 ·exact h4 h.symm
def WordsOf.nm{ws:List Str}(h:WordsOf LET 8 ws):∀z∈ws,fO z:=λz hz=>h.of z hz
def WordsOf.ky{ws:List Str}(h:WordsOf KLET 12 ws):∀z∈ws,xY z:=λz hz=>h.of z hz
def Nf(T:Txt K mg)(a6:aG P w K mg base 1 "_law_draw" QZP bT)(K9:aG P w K mg base 2 "_law_unlike" QZf uD)(D:DefAt K mg "_law_menus" iH QZc):aG P w K mg base 3 "_law_menus" QZc yM:=by
 refine D.go jY (λvs H Q E h=>?_) (λf cdv A outer s H vs Q E hr h=>?_)
 ·obtain⟨d,b,rfl,_⟩:=h;rfl
 ·obtain⟨d,b,rfl,dk,q⟩:=h;have a7:Room 1 _:=hr.mono Zd;have L0:Room 2 _:=hr.mono Zd;refine⟨_,(mo (ng (i:=1) jY.nd mq) (mo (ng (i:=2) jY.nd (qk (li (mz K9 L0 rfl (li (lc 0) (li (lc 1) (li ml (li (my qi ml (mz a6 a7 rfl (li (lc 0) (li ml mm)))) mm))))) mm))) (mo (ua (ub (K:=K) PySem.F.plainAttrs_list PySem.F.slot_list_append PySem.F.type_list_append wv (lc 2) (li (mz K9 L0 rfl (li (lc 0) (li (lc 1) (li ml (li (my qi ml (mz a6 a7 rfl (li (lc 0) (li ml mm)))) mm))))) mm))) (mo (ua (ub (K:=K) PySem.F.plainAttrs_list PySem.F.slot_list_append PySem.F.type_list_append wv (lc 2) (li (mz K9 L0 rfl (li (lc 0) (li (lc 1) (li ml (li (my qi ml (mz a6 a7 rfl (li (lc 0) (li ml mm)))) mm))))) mm))) (mo (ua (ub (K:=K) PySem.F.plainAttrs_list PySem.F.slot_list_append PySem.F.type_list_append wv (lc 2) (li (mz K9 L0 rfl (li (lc 0) (li (my R.ig (lc 1) mq) (li ml (li (my qi ml (mz a6 a7 rfl (li (lc 0) (li ml mm)))) mm))))) mm))) (mv (nh (lc 2)))))))),?_⟩;refine⟨d,b,5,rfl,dk,Zd,Zd,λr1 H1 x0 x1 D1 e1=>?_⟩;obtain⟨r1,rfl⟩:=gN x0;refine⟨d,b,LET,8,2+r1,by rw[<- Bc,show((2+r1:Nat):Int)=2+(r1:Int) by omega];rfl,D1,Zo,Zo,Zd,Zl,by show 2+r1<=26;omega,Zd,λa0 ws H2 hw lw g0 n0 m0 D2 e2=>⟨eT rfl,λlm EH=>?_⟩⟩;have f2:=((Fw.refl dk).draw D1 e1).draw D2 e2;have nl:=D2.ne EH;have f3:=f2.new (o:=.lst [.ref a0]) EH;have gl:(aI H2 lm (.lst [.ref a0])) lm=some (.lst ([a0].map V.ref)):=aA;replace g0:=aP (u:=.lst [.ref a0]) g0 EH;dsimp only [aJ];generalize aI H2 lm (.lst [.ref a0])=H3 at f3 gl g0;refine⟨.inl ⟨rfl,_,QYL gl⟩,d,b,5,rfl,f3.dk,Zd,Zd,λr2 H4 x0 x1 D4 e4=>?_⟩;obtain⟨r2,rfl⟩:=gN x0;refine⟨d,b,LET,8,2+r2,by rw[<- Bc,show((2+r2:Nat):Int)=2+(r2:Int) by omega];rfl,D4,Zo,Zo,Zd,Zl,by show 2+r2<=26;omega,Zd,λa1 us H5 hu lu g1 n1 m1 D5 e5=>?_⟩;have f5:=(f3.draw D4 e4).draw D5 e5;have F5:=((Fw.refl f3.dk).draw D4 e4).draw D5 e5;replace gl:=F5.get gl nl.1 nl.2;replace g0:=F5.get g0 n0 m0;have MT:=lN g0 Zo gl;have MU:=lN g1 Zo gl;refine⟨lm,_,_,rfl,rfl,gl,nS (m:=100) (QZX rfl) Zd,?_⟩;have f6:=f5.put (f2.free EH) (o:=.lst ([a0].map V.ref++[.ref a1]));replace gl:(aI H5 lm (.lst ([a0].map V.ref++[.ref a1]))) lm=some (.lst ([a0,a1].map V.ref)):=aA;replace g0:(aI H5 lm (.lst ([a0].map V.ref++[.ref a1]))) a0=_:=(aB MT).trans g0;replace g1:(aI H5 lm (.lst ([a0].map V.ref++[.ref a1]))) a1=_:=(aB MU).trans g1;generalize aI H5 lm (.lst ([a0].map V.ref++[.ref a1]))=H6 at f6 gl g0 g1;refine⟨.inl ⟨rfl,_,QYL gl⟩,d,b,6,rfl,f6.dk,Zd,Zd,λr3 H7 x0 x1 D7 e7=>?_⟩;obtain⟨r3,rfl⟩:=gN x0;refine⟨d,b,LET,8,1+r3,by rw[<- Bc,show((1+r3:Nat):Int)=1+(r3:Int) by omega];rfl,D7,Zo,Zo,Zd,Zl,by show 1+r3<=26;omega,Zd,λa2 ps H8 hp lp g2 n2 m2 D8 e8=>?_⟩;have f8:=(f6.draw D7 e7).draw D8 e8;have F8:=((Fw.refl f6.dk).draw D7 e7).draw D8 e8;replace gl:=F8.get gl nl.1 nl.2;replace g0:=F8.get g0 n0 m0;replace g1:=F8.get g1 n1 m1;have RA:=lN g2 Zo gl;refine⟨lm,_,_,rfl,rfl,gl,nS (m:=100) (QZX rfl) Zd,?_⟩;have f9:=f8.put (f2.free EH) (o:=.lst ([a0,a1].map V.ref++[.ref a2]));replace gl:(aI H8 lm (.lst ([a0,a1].map V.ref++[.ref a2]))) lm=some (.lst ([a0,a1,a2].map V.ref)):=aA;replace g0:(aI H8 lm (.lst ([a0,a1].map V.ref++[.ref a2]))) a0=_:=(aB MT).trans g0;replace g1:(aI H8 lm (.lst ([a0,a1].map V.ref++[.ref a2]))) a1=_:=(aB MU).trans g1;replace g2:(aI H8 lm (.lst ([a0,a1].map V.ref++[.ref a2]))) a2=_:=(aB RA).trans g2;generalize aI H8 lm (.lst ([a0,a1].map V.ref++[.ref a2]))=H9 at f9 gl g0 g1 g2;refine⟨.inl ⟨rfl,_,QYL gl⟩,gB Zk,d,b,6,rfl,f9.dk,Zd,Zd,λr4 Ha x0 x1 Da ea=>?_⟩;obtain⟨r4,rfl⟩:=gN x0;refine⟨d,b,KLET,12,1+r4,by rw[<- Tc,show((1+r4:Nat):Int)=1+(r4:Int) by omega];rfl,Da,Zo,Zo,Zd,aBz,by show 1+r4<=36;omega,Zd,λa3 ks Hb hk lk g3 n3 m3 Db eb=>?_⟩;have fb:=(f9.draw Da ea).draw Db eb;have Fb:=((Fw.refl f9.dk).draw Da ea).draw Db eb;replace gl:=Fb.get gl nl.1 nl.2;replace g0:=Fb.get g0 n0 m0;replace g1:=Fb.get g1 n1 m1;replace g2:=Fb.get g2 n2 m2;have YK:=lN g3 Zo gl;refine⟨lm,_,_,rfl,rfl,gl,nS (m:=100) (QZX rfl) Zd,?_⟩;have fc:=fb.put (f2.free EH) (o:=.lst ([a0,a1,a2].map V.ref++[.ref a3]));replace gl:(aI Hb lm (.lst ([a0,a1,a2].map V.ref++[.ref a3]))) lm=some (.lst ([a0,a1,a2,a3].map V.ref)):=aA;replace g0:(aI Hb lm (.lst ([a0,a1,a2].map V.ref++[.ref a3]))) a0=_:=(aB MT).trans g0;replace g1:(aI Hb lm (.lst ([a0,a1,a2].map V.ref++[.ref a3]))) a1=_:=(aB MU).trans g1;replace g2:(aI Hb lm (.lst ([a0,a1,a2].map V.ref++[.ref a3]))) a2=_:=(aB RA).trans g2;replace g3:(aI Hb lm (.lst ([a0,a1,a2].map V.ref++[.ref a3]))) a3=_:=(aB YK).trans g3;generalize aI Hb lm (.lst ([a0,a1,a2].map V.ref++[.ref a3]))=Hc at fc gl g0 g1 g2 g3;have mw:Menu ws:=⟨hw,Zo,Zo⟩;have mu:Menu us:=⟨hu,Zo,Zo⟩;have hM:MenusAt Hc lm [lm,a0,a1,a2,a3]:=⟨a0,a1,a2,a3,ws,us,ps,ks,rfl,gl,g0,g1,g2,g3,mw,mu,⟨Zo,Zo,hp.nm⟩,Zo,Zo,hk.ky⟩;have od:=aBA nl.1 n0 n1 n2 n3;have ob:=aBA nl.2 m0 m1 m2 m3;exact q lm _ Hc hM od ob fc
def dX(f:Str->Nat)(z:Str)(v:Nat):Str->Nat:=λy=>if y=z then v else f y
def bD(f:Str->Nat):Dd->Option An
 | .add a n=>if 1000000000000<f a+n then some (.full (f a)) else some (.is1 (f a+n))
 | .take a n=>if f a<n then some (.short (f a)) else some (.is1 (f a-n))
 | .move a b n=>if f a<n then some (.short (f a)) else if 1000000000000<f b+n then some (.full (f b)) else some (.is2 (f a-n) (f b+n))
 | .send _ a n=>if f a<n then some (.short (f a)) else none
 | .fetch _ a n=>if 1000000000000<f a+n then some (.full (f a)) else none
 | .pass _ _ _ _=>none
def dA(f:Str->Nat):Dd->List An
 | .send h a n=>[.no h,.is1 (f a-n)]
 | .fetch h a n=>[.no h,.is1 (f a+n)]
 | .pass h g _ _=>[.no h,.no g,.ok]
 | _=>[]
def after(f:Str->Nat):Dd->An->(Str->Nat)
 | .add a n,.is1 _=>dX f a (f a+n)
 | .take a n,.is1 _=>dX f a (f a-n)
 | .move a b n,.is2 _ _=>dX (dX f a (f a-n)) b (f b+n)
 | .send _ a n,.is1 _=>dX f a (f a-n)
 | .fetch _ a n,.is1 _=>dX f a (f a+n)
 | _,_=>f
def jZ(f:Str->Nat)(x:Dd)(q:Bool)(y:An):Prop:=(q=false/\bD f x=some y)∨(q=true/\bD f x=none/\y∈dA f x)
def BookIs(kvs:List (aT×V))(f:Str->Nat):Prop:=∀z:Str,(bA kvs (Sum.inr z)).getD (.int 0)=.int (f z:Int)
def dg{H:Hp}{bk:TD}{kvs:List (aT×V)}{f:Str->Nat}(gb:H bk=some (.dK kvs))(hB:BookIs kvs f)(z:Str):∃o,DGet H bk (.str z) o/\o.getD (.int 0)=.int (f z:Int):=⟨_,DGet.k (k:=Sum.inr z) gb,hB z⟩
def Gs{H:Hp}{bk:TD}{kvs:List (aT×V)}(gb:H bk=some (.dK kvs)):IsD H bk:=.inl ⟨_,.inl gb⟩
def yN{f:Str->Nat}(hf:∀z,f z<=1000000000000){x:Dd}(hx:x.Ok){q:Bool}{y:An}(h:jZ f x q y)(hq:q=true->x.far=true):An.Of x y/\(x.far=true->(q=true↔y.early=false)):=by
 rcases h with⟨rfl,h⟩|⟨rfl,h1,h2⟩
 ·cases x with
  | add a n=>
   simp only [bD]at h;have:=hf a;split at h<;>cases h
   ·exact⟨⟨Zo,Zo⟩,λz=>nomatch z⟩
   ·exact⟨⟨Zo,Zo⟩,λz=>nomatch z⟩
  | take a n=>
   simp only [bD]at h;have:=hf a;split at h<;>cases h
   ·exact⟨by show f a<n;omega,λz=>nomatch z⟩
   ·exact⟨by show f a-n+n<=1000000000000;omega,λz=>nomatch z⟩
  | move a b n=>
   simp only [bD]at h;have:=hf a;have:=hf b;split at h
   ·cases h;exact⟨by show f a<n;omega,λz=>nomatch z⟩
   ·split at h<;>cases h
    ·exact⟨⟨Zo,Zo⟩,λz=>nomatch z⟩
    ·exact⟨⟨Zo,Zo,Zo⟩,λz=>nomatch z⟩
  | send g a n=>
   simp only [bD]at h;split at h<;>cases h;exact⟨by show f a<n;omega,λ_=>⟨nofun,nofun⟩⟩
  | fetch g a n=>
   simp only [bD]at h;have:=hf a;split at h<;>cases h;exact⟨⟨Zo,Zo⟩,λ_=>⟨nofun,nofun⟩⟩
  | pass g k a n=>cases h
 ·cases x with
  | add a n=>cases hq rfl
  | take a n=>cases hq rfl
  | move a b n=>cases hq rfl
  | send g a n=>
   have:=hf a;simp only [bD]at h1;simp only [dA,mem_cons,QZT,or_false]at h2;have hn:n<=f a:=by
    by_cases hh:f a<n
    ·rw[P0 hh]at h1;cases h1
    ·omega
   rcases h2 with rfl|rfl
   ·exact⟨rfl,λ_=>⟨λ_=>rfl,λ_=>rfl⟩⟩
   ·exact⟨by show f a-n+n<=1000000000000;omega,λ_=>⟨λ_=>rfl,λ_=>rfl⟩⟩
  | fetch g a n=>
   simp only [bD]at h1;simp only [dA,mem_cons,QZT,or_false]at h2;have hn:¬ 1000000000000<f a+n:=by
    intro hh;rw[P0 hh]at h1;cases h1
   rcases h2 with rfl|rfl
   ·exact⟨rfl,λ_=>⟨λ_=>rfl,λ_=>rfl⟩⟩
   ·exact⟨⟨Zo,Zo⟩,λ_=>⟨λ_=>rfl,λ_=>rfl⟩⟩
  | pass g k a n=>
   simp only [dA,mem_cons,QZT,or_false]at h2;rcases h2 with rfl|rfl|rfl
   ·exact⟨.inl rfl,λ_=>⟨λ_=>rfl,λ_=>rfl⟩⟩
   ·exact⟨.inr rfl,λ_=>⟨λ_=>rfl,λ_=>rfl⟩⟩
   ·exact⟨trivial,λ_=>⟨λ_=>rfl,λ_=>rfl⟩⟩
def iQ{f:Str->Nat}{z:Str}{v:Nat}(hf:∀z,f z<=1000000000000)(hv:v<=1000000000000):∀y,dX f z v y<=1000000000000:=λy=>by
 unfold dX;split
 ·exact hv
 ·exact hf y
def yO{f:Str->Nat}(hf:∀z,f z<=1000000000000){x:Dd}{q:Bool}{y:An}(h:jZ f x q y):∀z,after f x y z<=1000000000000:=by
 rcases h with⟨rfl,h⟩|⟨rfl,h1,h2⟩
 ·cases x with
  | add a n=>
   simp only [bD]at h;split at h<;>cases h
   ·exact hf
   ·exact iQ hf Zo
  | take a n=>
   simp only [bD]at h;have:=hf a;split at h<;>cases h
   ·exact hf
   ·exact iQ hf Zo
  | move a b n=>
   simp only [bD]at h;have:=hf a;split at h
   ·cases h;exact hf
   ·split at h<;>cases h
    ·exact hf
    ·exact iQ (iQ hf Zo) Zo
  | send g a n=>
   simp only [bD]at h;split at h<;>cases h;exact hf
  | fetch g a n=>
   simp only [bD]at h;split at h<;>cases h;exact hf
  | pass g k a n=>cases h
 ·cases x with
  | add a n=>cases h2
  | take a n=>cases h2
  | move a b n=>cases h2
  | send g a n=>
   have:=hf a;simp only [dA,mem_cons,QZT,or_false]at h2;rcases h2 with rfl|rfl
   ·exact hf
   ·exact iQ hf Zo
  | fetch g a n=>
   simp only [bD]at h1;simp only [dA,mem_cons,QZT,or_false]at h2;have hn:¬ 1000000000000<f a+n:=by
    intro hh;rw[P0 hh]at h1;cases h1
   rcases h2 with rfl|rfl
   ·exact hf
   ·exact iQ hf Zo
  | pass g k a n=>
   simp only [dA,mem_cons,QZT,or_false]at h2;rcases h2 with rfl|rfl|rfl<;>exact hf
def BookIs.put{kvs:List (aT×V)}{f:Str->Nat}(h:BookIs kvs f)(z:Str)(v:Nat):BookIs (bJ kvs (Sum.inr z) (.int (v:Int))) (dX f z v):=λy=>by
 rw[cW];unfold dX;by_cases e:y=z
 ·rw[P0 (by rw[e]),P0 e];rfl
 ·rw[QZZ (λc=>e (by injection c)),QZZ e];exact h y
def yP:Sp:=λvs H Q _=>∃(bk t:TD)(kvs:List (aT×V))(f:Str->Nat)(x:Dd),vs=[.ref bk,.ref t]/\H bk=some (.dK kvs)/\BookIs kvs f/\H t=some (.tup x.vs) ∧
 (∀y c H',bD f x=some y->Same H H'->H' c=some (.tup y.vs)->Q (.ref c) H')/\(bD f x=none->∀H',Same H H'->Q .non H')
def Ng(T:Txt K mg)(D:DefAt K mg "_law_early" iI QZE):aG P w K mg base 1 "_law_early" QZE yP:=by
 refine D.go eQ (λvs H Q E h=>?_) (λf cdv A outer s H vs Q E hr h=>?_)
 ·obtain⟨bk,t,kvs,f,x,rfl,_⟩:=h;rfl
 ·obtain⟨bk,t,kvs,f,x,rfl,gb,hB,gt,qs,qn⟩:=h;have d6:=dP hr;refine⟨_,(mo (ng (i:=2) eQ.nd (mn (mr (K:=K)) (lc 1) (qr ml))) (mo (ng (i:=3) eQ.nd (mn (mr (K:=K)) (lc 1) (qr ml))) (mo (nk (ni pi (mn (mr (K:=K)) (lc 1) ml) mq) (mv (ng (i:=3) eQ.nd (mn (mr (K:=K)) (lc 1) ml))) nw) (mo (ng (i:=4) eQ.nd (PP d6 (lc 0) (lc 3) ml)) (mo (nk (re (ww (ni (sw (K:=K)) (mn (mr (K:=K)) (lc 1) ml) (nj (li mq (li mq (li mq mm))))) (AC (ni R.lt (lc 4) (lc 2))))) (mv (nh (nj (li mq (li (lc 4) mm))))) nw) (mo (nk (re (ww (ni (sw (K:=K)) (mn (mr (K:=K)) (lc 1) ml) (nj (li mq (li mq mm)))) (AC (ni NE (my qi (lc 4) (lc 2)) (my ud ml ml))))) (mv (nh (nj (li mq (li (lc 4) mm))))) nw) (mo (nk (re (ww (ni pi (mn (mr (K:=K)) (lc 1) ml) mq) (AC (ni NE (my qi (PP d6 (lc 0) (mn (mr (K:=K)) (lc 1) ml) ml) (lc 2)) (my ud ml ml))))) (mv (nh (nj (li mq (li (PP d6 (lc 0) (mn (mr (K:=K)) (lc 1) ml) ml) mm))))) nw) (mo (nk (ni pi (mn (mr (K:=K)) (lc 1) ml) mq) (mv (nh (nj (li mq (li (my vh (lc 4) (lc 2)) (li (my qi (PP d6 (lc 0) (mn (mr (K:=K)) (lc 1) ml) ml) (lc 2)) mm)))))) nw) (mo (nk (ni (sw (K:=K)) (mn (mr (K:=K)) (lc 1) ml) (nj (li mq (li mq mm)))) (mv (nh (nj (li mq (li (my qi (lc 4) (mn (qj (K:=K)) (qk (li (lc 2) (li (qr (lc 2)) mm))) (IN R.ft rfl T.b_int oI (li (qm pi (mn (mr (K:=K)) (lc 1) ml) mq) mm)))) mm))))) nw) (mv (nh AT))))))))))),?_⟩
  cases x with
  | add a n=>
   refine⟨_,QYM gt,_,rfl,⟨_,QYM gt,_,rfl,⟨_,QYM gt,_,rfl,?_⟩⟩⟩;obtain⟨o,ho,eo⟩:=dg gb hB a;refine⟨bk,rfl,Gs gb,o,ho,?_⟩;rw[eo];refine⟨_,QYM gt,_,rfl,aN rfl,λt1 H1 s1 g1=>⟨t1,_,rfl,.inr (QYM g1),rfl,rfl,?_⟩⟩;have S1:Same H H1:=s1;have nv:=S1 _ _ gt;have zj:=S1 _ _ gb;refine⟨_,QYM nv,_,rfl,aN rfl,λt2 H2 s2 g2=>⟨t2,_,rfl,.inr (QYM g2),rfl,rfl,?_⟩⟩;have S2:Same H H2:=S1.trans s2;have C6:=S2 _ _ gt;have ox:=S2 _ _ gb;refine⟨⟨Zd,Zd,Zd⟩,?_⟩;refine bG (λh=>?_) (λh=>?_)
   ·have h':(1000000000000:Int)<(f a:Int)+(n:Int):=UV h;exact⟨aN rfl,λc H' s' g'=>qs (.full (f a)) c H' (P0 Zo) (S2.trans s') g'⟩
   ·have h':¬ (1000000000000:Int)<(f a:Int)+(n:Int):=UF h;refine⟨_,QYM C6,_,rfl,_,QYM C6,_,rfl,?_⟩;refine⟨_,QYM C6,_,rfl,aN rfl,λt3 H3 s3 g3=>⟨t3,_,rfl,.inr (QYM g3),rfl,rfl,?_⟩⟩;have S3:Same H H3:=S2.trans s3;have zk:=S3 _ _ gt;have EF:=S3 _ _ gb;refine⟨eT rfl,λp hp=>⟨_,QYM (aP zk hp),_,rfl,_,QYL aA,_,rfl,aN rfl,λc H' s' g'=>?_⟩⟩;refine qs (.is1 (f a+n)) c H' (QZZ Zo) ((S3.trans (aF hp)).trans s') ?_;rw[g'];show some (HO.tup [V.str "is",.int ((f a:Int)+(n:Int))])=some (HO.tup [V.str "is",.int ((f a+n:Nat):Int)]);rw[show((f a+n:Nat):Int)=(f a:Int)+(n:Int) by omega]
  | take a n=>
   refine⟨_,QYM gt,_,rfl,⟨_,QYM gt,_,rfl,⟨_,QYM gt,_,rfl,?_⟩⟩⟩;obtain⟨o,ho,eo⟩:=dg gb hB a;refine⟨bk,rfl,Gs gb,o,ho,?_⟩;rw[eo];refine⟨_,QYM gt,_,rfl,aN rfl,λt1 H1 s1 g1=>⟨t1,_,rfl,.inr (QYM g1),rfl,rfl,?_⟩⟩;have S1:Same H H1:=s1;have nv:=S1 _ _ gt;have zj:=S1 _ _ gb;refine bG (λh=>?_) (λh=>?_)
   ·have h':(f a:Int)<(n:Int):=UV h;exact⟨aN rfl,λc H' s' g'=>qs (.short (f a)) c H' (P0 Zo) (S1.trans s') g'⟩
   ·have h':¬ (f a:Int)<(n:Int):=UF h;refine⟨_,QYM nv,_,rfl,aN rfl,λt2 H2 s2 g2=>⟨t2,_,rfl,.inr (QYM g2),rfl,rfl,?_⟩⟩;have S2:Same H H2:=S1.trans s2;have C6:=S2 _ _ gt;have ox:=S2 _ _ gb;refine⟨_,QYM C6,_,rfl,_,QYM C6,_,rfl,?_⟩;refine⟨_,QYM C6,_,rfl,aN rfl,λt3 H3 s3 g3=>⟨t3,_,rfl,.inr (QYM g3),rfl,rfl,?_⟩⟩;have S3:Same H H3:=S2.trans s3;have zk:=S3 _ _ gt;have EF:=S3 _ _ gb;refine⟨eT rfl,λp hp=>⟨_,QYM (aP zk hp),_,rfl,_,QYL aA,_,rfl,aN rfl,λc H' s' g'=>?_⟩⟩;refine qs (.is1 (f a-n)) c H' (QZZ Zo) ((S3.trans (aF hp)).trans s') ?_;rw[g'];show some (HO.tup [V.str "is",.int ((f a:Int)+-(n:Int))])=some (HO.tup [V.str "is",.int ((f a-n:Nat):Int)]);rw[show((f a-n:Nat):Int)=(f a:Int)+-(n:Int) by omega]
  | move a b n=>
   refine⟨_,QYM gt,_,rfl,⟨_,QYM gt,_,rfl,⟨_,QYM gt,_,rfl,⟨_,QYM gt,_,rfl,?_⟩⟩⟩⟩;obtain⟨o,ho,eo⟩:=dg gb hB a;refine⟨bk,rfl,Gs gb,o,ho,?_⟩;rw[eo];refine⟨_,QYM gt,_,rfl,aN rfl,λt1 H1 s1 g1=>⟨t1,_,rfl,.inr (QYM g1),rfl,rfl,?_⟩⟩;have S1:Same H H1:=s1;have nv:=S1 _ _ gt;have zj:=S1 _ _ gb;refine bG (λh=>?_) (λh=>?_)
   ·have h':(f a:Int)<(n:Int):=UV h;exact⟨aN rfl,λc H' s' g'=>qs (.short (f a)) c H' (P0 Zo) (S1.trans s') g'⟩
   ·have h':¬ (f a:Int)<(n:Int):=UF h;refine⟨_,QYM nv,_,rfl,aN rfl,λt2 H2 s2 g2=>⟨t2,_,rfl,.inr (QYM g2),rfl,rfl,?_⟩⟩;have S2:Same H H2:=S1.trans s2;have C6:=S2 _ _ gt;have ox:=S2 _ _ gb;obtain⟨o2,oj,HA⟩:=dg ox hB b;refine⟨_,QYM C6,_,rfl,bk,rfl,Gs ox,_,QYM C6,_,rfl,o2,oj,?_⟩;rw[HA];refine⟨⟨Zd,Zd,Zd⟩,?_⟩;refine bG (λh=>?_) (λh=>?_)
    ·have YL:(1000000000000:Int)<(f b:Int)+(n:Int):=UV h;refine⟨bk,rfl,Gs ox,_,QYM C6,_,rfl,o2,oj,?_⟩;rw[HA];exact⟨aN rfl,λc H' s' g'=>qs (.full (f b)) c H' ((QZZ Zo).trans (P0 Zo)) (S2.trans s') g'⟩
    ·have YL:¬ (1000000000000:Int)<(f b:Int)+(n:Int):=UF h;refine⟨_,QYM C6,_,rfl,bk,rfl,Gs ox,_,QYM C6,_,rfl,o2,oj,?_⟩;rw[HA];refine⟨aN rfl,λc H' s' g'=>?_⟩;refine qs (.is2 (f a-n) (f b+n)) c H' ((QZZ Zo).trans (QZZ Zo)) (S2.trans s') ?_;rw[g'];show some (HO.tup [V.str "is",.int ((f a:Int)-(n:Int)),.int ((f b:Int)+(n:Int))])=some (HO.tup [V.str "is",.int ((f a-n:Nat):Int),.int ((f b+n:Nat):Int)]);rw[show((f a-n:Nat):Int)=(f a:Int)-(n:Int) by omega,show((f b+n:Nat):Int)=(f b:Int)+(n:Int) by omega]
  | send h a n=>
   refine⟨_,QYM gt,_,rfl,⟨_,QYM gt,_,rfl,⟨_,QYM gt,_,rfl,?_⟩⟩⟩;obtain⟨o,ho,eo⟩:=dg gb hB a;refine⟨bk,rfl,Gs gb,o,ho,?_⟩;rw[eo];refine⟨_,QYM gt,_,rfl,aN rfl,λt1 H1 s1 g1=>⟨t1,_,rfl,.inr (QYM g1),rfl,rfl,?_⟩⟩;have S1:Same H H1:=s1;have nv:=S1 _ _ gt;have zj:=S1 _ _ gb;refine bG (λh=>?_) (λh=>?_)
   ·have h':(f a:Int)<(n:Int):=UV h;exact⟨aN rfl,λc H' s' g'=>qs (.short (f a)) c H' (P0 Zo) (S1.trans s') g'⟩
   ·have h':¬ (f a:Int)<(n:Int):=UF h;refine⟨_,QYM nv,_,rfl,aN rfl,λt2 H2 s2 g2=>⟨t2,_,rfl,.inr (QYM g2),rfl,rfl,?_⟩⟩;have S2:Same H H2:=S1.trans s2;have C6:=S2 _ _ gt;have ox:=S2 _ _ gb;refine⟨_,QYM C6,_,rfl,_,QYM C6,_,rfl,?_⟩;refine⟨_,QYM C6,_,rfl,aN rfl,λt3 H3 s3 g3=>⟨t3,_,rfl,.inr (QYM g3),rfl,rfl,?_⟩⟩;have S3:Same H H3:=S2.trans s3;have zk:=S3 _ _ gt;have EF:=S3 _ _ gb;exact qn (QZZ Zo) _ S3
  | fetch h a n=>
   refine⟨_,QYM gt,_,rfl,⟨_,QYM gt,_,rfl,⟨_,QYM gt,_,rfl,?_⟩⟩⟩;obtain⟨o,ho,eo⟩:=dg gb hB a;refine⟨bk,rfl,Gs gb,o,ho,?_⟩;rw[eo];refine⟨_,QYM gt,_,rfl,aN rfl,λt1 H1 s1 g1=>⟨t1,_,rfl,.inr (QYM g1),rfl,rfl,?_⟩⟩;have S1:Same H H1:=s1;have nv:=S1 _ _ gt;have zj:=S1 _ _ gb;refine⟨_,QYM nv,_,rfl,aN rfl,λt2 H2 s2 g2=>⟨t2,_,rfl,.inr (QYM g2),rfl,rfl,?_⟩⟩;have S2:Same H H2:=S1.trans s2;have C6:=S2 _ _ gt;have ox:=S2 _ _ gb;refine⟨⟨Zd,Zd,Zd⟩,?_⟩;refine bG (λh=>?_) (λh=>?_)
   ·have h':(1000000000000:Int)<(f a:Int)+(n:Int):=UV h;exact⟨aN rfl,λc H' s' g'=>qs (.full (f a)) c H' (P0 Zo) (S2.trans s') g'⟩
   ·have h':¬ (1000000000000:Int)<(f a:Int)+(n:Int):=UF h;refine⟨_,QYM C6,_,rfl,_,QYM C6,_,rfl,?_⟩;refine⟨_,QYM C6,_,rfl,aN rfl,λt3 H3 s3 g3=>⟨t3,_,rfl,.inr (QYM g3),rfl,rfl,?_⟩⟩;have S3:Same H H3:=S2.trans s3;have zk:=S3 _ _ gt;have EF:=S3 _ _ gb;exact qn (QZZ Zo) _ S3
  | pass h g a n=>
   refine⟨_,QYM gt,_,rfl,⟨_,QYM gt,_,rfl,⟨_,QYM gt,_,rfl,?_⟩⟩⟩;obtain⟨o,ho,eo⟩:=dg gb hB a;refine⟨bk,rfl,Gs gb,o,ho,?_⟩;rw[eo];refine⟨_,QYM gt,_,rfl,aN rfl,λt1 H1 s1 g1=>⟨t1,_,rfl,.inr (QYM g1),rfl,rfl,?_⟩⟩;have S1:Same H H1:=s1;have nv:=S1 _ _ gt;have zj:=S1 _ _ gb;refine⟨_,QYM nv,_,rfl,aN rfl,λt2 H2 s2 g2=>⟨t2,_,rfl,.inr (QYM g2),rfl,rfl,?_⟩⟩;have S2:Same H H2:=S1.trans s2;have C6:=S2 _ _ gt;have ox:=S2 _ _ gb;refine⟨_,QYM C6,_,rfl,_,QYM C6,_,rfl,?_⟩;refine⟨_,QYM C6,_,rfl,aN rfl,λt3 H3 s3 g3=>⟨t3,_,rfl,.inr (QYM g3),rfl,rfl,?_⟩⟩;have S3:Same H H3:=S2.trans s3;have zk:=S3 _ _ gt;have EF:=S3 _ _ gb;exact qn (rfl) _ S3
def yQ:Sp:=λvs H Q _=>∃(bk t:TD)(kvs:List (aT×V))(f:Str->Nat)(x:Dd),vs=[.ref bk,.ref t]/\H bk=some (.dK kvs)/\BookIs kvs f/\H t=some (.tup x.vs)/\x.far=true/\bD f x=none ∧
 ∀(l:TD)(cs:List TD)(H':Hp),H l=none->H' l=some (.lst (cs.map V.ref))->Paired (λy c=>H' c=some (.tup (An.vs y))) (dA f x) cs->Same H H'->Q (.ref l) H'
def Nh(T:Txt K mg)(D:DefAt K mg "_law_lates" iJ QZE):aG P w K mg base 1 "_law_lates" QZE yQ:=by
 refine D.go nL (λvs H Q E h=>?_) (λf cdv A outer s H vs Q E hr h=>?_)
 ·obtain⟨bk,t,kvs,f,x,rfl,_⟩:=h;rfl
 ·obtain⟨bk,t,kvs,f,x,rfl,gb,hB,gt,hf,he,q⟩:=h;have d6:=dP hr;refine⟨_,(mo (nk (ni pi (mn (mr (K:=K)) (lc 1) ml) mq) (mv (nh (qk (li (nj (li mq (li (mn (mr (K:=K)) (lc 1) ml) mm))) (li (nj (li mq (li (mn (mr (K:=K)) (lc 1) ml) mm))) (li (nj (li mq mm)) mm)))))) nw) (mo (ng (i:=2) nL.nd (my qi (PP d6 (lc 0) (mn (mr (K:=K)) (lc 1) ml) ml) (mn (qj (K:=K)) (qk (li (mn (mr (K:=K)) (lc 1) ml) (li (qr (mn (mr (K:=K)) (lc 1) ml)) mm))) (IN R.ft rfl T.b_int oI (li (qm pi (mn (mr (K:=K)) (lc 1) ml) mq) mm))))) (mv (nh (qk (li (nj (li mq (li (mn (mr (K:=K)) (lc 1) ml) mm))) (li (nj (li mq (li (lc 2) mm))) mm))))))),?_⟩
  cases x with
  | add a n=>cases hf
  | take a n=>cases hf
  | move a b n=>cases hf
  | pass h g a n=>
   refine⟨_,QYM gt,_,rfl,_,QYM gt,_,rfl,aN rfl,λc1 H1 s1 g1=>⟨_,QYM (s1 _ _ gt),_,rfl,aN rfl,λc2 H2 s2 g2=>⟨aN rfl,λc3 H3 s3 g3=>⟨eT rfl,λl hl=>?_⟩⟩⟩⟩;have S3:=(s1.trans s2).trans s3;exact q l [c1,c2,c3] _ (S3.free hl) aA (.cons (aP (s3 _ _ (s2 _ _ g1)) hl) (.cons (aP (s3 _ _ g2) hl) (.cons (aP g3 hl) .nil))) (S3.trans (aF hl))
  | send h a n=>
   have hn:¬ f a<n:=λz=>by simp only [bD]at he;rw[P0 z]at he;cases he
   obtain⟨o,ho,eo⟩:=dg gb hB a;refine⟨_,QYM gt,_,rfl,bk,rfl,Gs gb,_,QYM gt,_,rfl,o,ho,?_⟩;rw[eo];refine⟨_,QYM gt,_,rfl,_,QYM gt,_,rfl,eT rfl,λp hp=>⟨_,QYM (aP gt hp),_,rfl,_,QYL aA,_,rfl,?_⟩⟩;have S0:=aF (o:=.lst [.int (n:Int),.int (-(n:Int))]) hp;refine⟨_,QYM (aP gt hp),_,rfl,aN rfl,λc1 H1 s1 g1=>⟨aN rfl,λc2 H2 s2 g2=>⟨eT rfl,λl hl=>?_⟩⟩⟩;have S3:=(S0.trans s1).trans s2;refine q l [c1,c2] _ (S3.free hl) aA (.cons (aP (s2 _ _ g1) hl) (.cons ?_ .nil)) (S3.trans (aF hl));rw[aP g2 hl];show some (HO.tup [V.str "is",.int ((f a:Int)+-(n:Int))])=some (HO.tup [V.str "is",.int ((f a-n:Nat):Int)]);rw[show((f a-n:Nat):Int)=(f a:Int)+-(n:Int) by omega]
  | fetch h a n=>
   obtain⟨o,ho,eo⟩:=dg gb hB a;refine⟨_,QYM gt,_,rfl,bk,rfl,Gs gb,_,QYM gt,_,rfl,o,ho,?_⟩;rw[eo];refine⟨_,QYM gt,_,rfl,_,QYM gt,_,rfl,eT rfl,λp hp=>⟨_,QYM (aP gt hp),_,rfl,_,QYL aA,_,rfl,?_⟩⟩;have S0:=aF (o:=.lst [.int (n:Int),.int (-(n:Int))]) hp;refine⟨_,QYM (aP gt hp),_,rfl,aN rfl,λc1 H1 s1 g1=>⟨aN rfl,λc2 H2 s2 g2=>⟨eT rfl,λl hl=>?_⟩⟩⟩;have S3:=(S0.trans s1).trans s2;refine q l [c1,c2] _ (S3.free hl) aA (.cons (aP (s2 _ _ g1) hl) (.cons ?_ .nil)) (S3.trans (aF hl));rw[aP g2 hl];show some (HO.tup [V.str "is",.int ((f a:Int)+(n:Int))])=some (HO.tup [V.str "is",.int ((f a+n:Nat):Int)]);rw[show((f a+n:Nat):Int)=(f a:Int)+(n:Int) by omega]
def uG:Dd->An->List (Str×Int)
 | .add a n,.is1 _=>[(a,(n:Int))]
 | .take a n,.is1 _=>[(a,-(n:Int))]
 | .move a b n,.is2 _ _=>[(a,-(n:Int)),(b,(n:Int))]
 | .send _ a n,.is1 _=>[(a,-(n:Int))]
 | .fetch _ a n,.is1 _=>[(a,(n:Int))]
 | _,_=>[]
def aBB(H:Hp)(c:Str×Int)(p:TD):Prop:=H p=some (.tup [.str c.1,.int c.2])
def rG:Sp:=λvs H Q _=>∃(t c:TD)(x:Dd)(y:An),vs=[.ref t,.ref c]/\H t=some (.tup x.vs)/\H c=some (.tup y.vs)/\An.Of x y ∧
 ∀(l:TD)(ps:List TD)(H':Hp),H l=none->H' l=some (.lst (ps.map V.ref))->Paired (aBB H') (uG x y) ps->Same H H'->Q (.ref l) H'
def Vb(y:An):mU y.vs 0=some (.str (tD y)):=by cases y<;>rfl
def rH{y:An}(h:tD y="is"):(∃m,y=.is1 m)∨∃l m,y=.is2 l m:=by
 cases y with
 | is1 m=>exact .inl ⟨m,rfl⟩
 | is2 l m=>exact .inr ⟨l,m,rfl⟩
 | short m=>exact QZY (show("short":Str)="is" from h) Zk
 | full m=>exact QZY (show("full":Str)="is" from h) Zk
 | no m=>exact QZY (show("no":Str)="is" from h) Zk
 | ok=>exact QZY (show("ok":Str)="is" from h) Zk
def yR(T:Txt K mg)(D:DefAt K mg "_law_changes" fK QZr):aG P w K mg base 1 "_law_changes" QZr rG:=by
 refine D.go rD (λvs H Q E h=>?_) (λf cdv A outer s H vs Q E hr h=>?_)
 ·obtain⟨t,c,x,y,rfl,_⟩:=h;rfl
 ·obtain⟨t,c,x,y,rfl,gt,gc,hy,q⟩:=h;refine⟨_,(mo (nk (ni R.ne (mn (mr (K:=K)) (lc 1) ml) mq) (mv (nh (qk mm))) nw) (mo (nk (ni pi (mn (mr (K:=K)) (lc 0) ml) mq) (mv (nh (qk (li (nj (li (mn (mr (K:=K)) (lc 0) ml) (li (qr (mn (mr (K:=K)) (lc 0) ml)) mm))) (li (nj (li (mn (mr (K:=K)) (lc 0) ml) (li (mn (mr (K:=K)) (lc 0) ml) mm))) mm))))) nw) (mv (nh (qk (li (nj (li (mn (mr (K:=K)) (lc 0) (qr ml)) (li (mn (qj (K:=K)) (qk (li (mn (mr (K:=K)) (lc 0) (qr ml)) (li (qr (mn (mr (K:=K)) (lc 0) (qr ml))) mm))) (IN R.ft rfl T.b_int oI (li (qm (sw (K:=K)) (mn (mr (K:=K)) (lc 0) ml) (nj (li mq (li mq mm)))) mm))) mm))) mm)))))),?_⟩;refine⟨_,QYM gc,_,Vb y,?_⟩;by_cases hw:tD y="is"
  ·show if (!decide (tD y="is"))=true then _ else _
   refine vO (by rw[T8 hw];rfl) ?_
   cases x with
   | add a n=>
    rcases rH hw with⟨m,rfl⟩|⟨l,m,rfl⟩
    ·refine⟨_,QYM gt,_,rfl,_,QYM gt,_,rfl,_,QYM gt,_,rfl,_,QYM gt,_,rfl,eT rfl,λp hp=>⟨_,QYM (aP gt hp),_,rfl,aN rfl,λtq Ha sa ga=>⟨tq,_,rfl,.inr (QYM ga),rfl,rfl,_,QYL (sa _ _ aA),_,rfl,aN rfl,λc1 H1 s1 g1=>⟨eT rfl,λl hl=>?_⟩⟩⟩⟩;have S:=((aF hp).trans sa).trans s1;exact q l [c1] _ (S.free hl) aA (.cons (aP g1 hl) .nil) (S.trans (aF hl))
    ·exact hy.elim
   | take a n=>
    rcases rH hw with⟨m,rfl⟩|⟨l,m,rfl⟩
    ·refine⟨_,QYM gt,_,rfl,_,QYM gt,_,rfl,_,QYM gt,_,rfl,_,QYM gt,_,rfl,eT rfl,λp hp=>⟨_,QYM (aP gt hp),_,rfl,aN rfl,λtq Ha sa ga=>⟨tq,_,rfl,.inr (QYM ga),rfl,rfl,_,QYL (sa _ _ aA),_,rfl,aN rfl,λc1 H1 s1 g1=>⟨eT rfl,λl hl=>?_⟩⟩⟩⟩;have S:=((aF hp).trans sa).trans s1;exact q l [c1] _ (S.free hl) aA (.cons (aP g1 hl) .nil) (S.trans (aF hl))
    ·exact hy.elim
   | send h a n=>
    rcases rH hw with⟨m,rfl⟩|⟨l,m,rfl⟩
    ·refine⟨_,QYM gt,_,rfl,_,QYM gt,_,rfl,_,QYM gt,_,rfl,_,QYM gt,_,rfl,eT rfl,λp hp=>⟨_,QYM (aP gt hp),_,rfl,aN rfl,λtq Ha sa ga=>⟨tq,_,rfl,.inr (QYM ga),rfl,rfl,_,QYL (sa _ _ aA),_,rfl,aN rfl,λc1 H1 s1 g1=>⟨eT rfl,λl hl=>?_⟩⟩⟩⟩;have S:=((aF hp).trans sa).trans s1;exact q l [c1] _ (S.free hl) aA (.cons (aP g1 hl) .nil) (S.trans (aF hl))
    ·exact hy.elim
   | fetch h a n=>
    rcases rH hw with⟨m,rfl⟩|⟨l,m,rfl⟩
    ·refine⟨_,QYM gt,_,rfl,_,QYM gt,_,rfl,_,QYM gt,_,rfl,_,QYM gt,_,rfl,eT rfl,λp hp=>⟨_,QYM (aP gt hp),_,rfl,aN rfl,λtq Ha sa ga=>⟨tq,_,rfl,.inr (QYM ga),rfl,rfl,_,QYL (sa _ _ aA),_,rfl,aN rfl,λc1 H1 s1 g1=>⟨eT rfl,λl hl=>?_⟩⟩⟩⟩;have S:=((aF hp).trans sa).trans s1;exact q l [c1] _ (S.free hl) aA (.cons (aP g1 hl) .nil) (S.trans (aF hl))
    ·exact hy.elim
   | move a b n=>
    rcases rH hw with⟨m,rfl⟩|⟨m',m,rfl⟩
    ·exact hy.elim
    ·refine⟨_,QYM gt,_,rfl,_,QYM gt,_,rfl,_,QYM gt,_,rfl,aN rfl,λc1 H1 s1 g1=>⟨_,QYM (s1 _ _ gt),_,rfl,_,QYM (s1 _ _ gt),_,rfl,aN rfl,λc2 H2 s2 g2=>⟨eT rfl,λl hl=>?_⟩⟩⟩;have S:=s1.trans s2;exact q l [c1,c2] _ (S.free hl) aA (.cons (aP (s2 _ _ g1) hl) (.cons (aP g2 hl) .nil)) (S.trans (aF hl))
   | pass h g a n=>rcases rH hw with⟨m,rfl⟩|⟨m',m,rfl⟩<;>exact hy.elim
  ·show if (!decide (tD y="is"))=true then _ else _
   refine Fq (by rw[T0 hw];rfl) ?_;refine⟨eT rfl,λl hl=>?_⟩;have e:uG x y=[]:=by cases x<;>cases y<;>first|rfl|exact QZY rfl hw
   exact q l [] _ hl aA (by rw[e];exact .nil) (aF hl)
def fE(f:Str->Nat)(c:Str×Int):Str->Nat:=dX f c.1 ((f c.1:Int)+c.2).toNat
def rJ(f:Str->Nat)(cs:List (Str×Int)):Str->Nat:=cs.foldl fE f
def yS:(Str->Nat)->List (Str×Int)->Prop
 | _,[]=>True
 | f,c::cs=>0<=(f c.1:Int)+c.2/\yS (fE f c) cs
def pG{f:Str->Nat}{x:Dd}{q:Bool}{y:An}(hx:x.Ok)(h:jZ f x q y):rJ f (uG x y)=after f x y/\yS f (uG x y):=by
 rcases h with⟨rfl,h⟩|⟨rfl,h1,h2⟩
 ·cases x with
  | add a n=>
   simp only [bD]at h;split at h<;>cases h
   ·exact⟨rfl,trivial⟩
   ·refine⟨?_,by show(0:Int)<=_+_;omega,trivial⟩;show dX f a ((f a:Int)+(n:Int)).toNat=dX f a (f a+n);rw[show((f a:Int)+(n:Int)).toNat=f a+n by omega]
  | take a n=>
   simp only [bD]at h;split at h<;>cases h
   ·exact⟨rfl,trivial⟩
   ·refine⟨?_,by show(0:Int)<=(f a:Int)+-(n:Int);omega,trivial⟩;show dX f a ((f a:Int)+-(n:Int)).toNat=dX f a (f a-n);rw[show((f a:Int)+-(n:Int)).toNat=f a-n by omega]
  | move a b n=>
   have rg:b≠a:=λz=>hx.2.2.1 z.symm
   simp only [bD]at h;split at h
   ·cases h;exact⟨rfl,trivial⟩
   ·split at h<;>cases h
    ·exact⟨rfl,trivial⟩
    ·have eb:fE f (a,-(n:Int)) b=f b:=by unfold fE dX;exact QZZ rg
     refine⟨?_,by show(0:Int)<=(f a:Int)+-(n:Int);omega,?_,trivial⟩
     ·show fE (fE f (a,-(n:Int))) (b,(n:Int))=dX (dX f a (f a-n)) b (f b+n);have e1:fE f (a,-(n:Int))=dX f a (f a-n):=by
       unfold fE;rw[show((f a:Int)+-(n:Int)).toNat=f a-n by omega]
      unfold fE at eb ⊢;dsimp only at eb ⊢;rw[eb,show((f b:Int)+(n:Int)).toNat=f b+n by omega];unfold fE at e1;rw[e1]
     ·show(0:Int)<=(fE f (a,-(n:Int)) b:Int)+(n:Int);omega
  | send g a n=>
   simp only [bD]at h;split at h<;>cases h;exact⟨rfl,trivial⟩
  | fetch g a n=>
   simp only [bD]at h;split at h<;>cases h;exact⟨rfl,trivial⟩
  | pass g k a n=>cases h
 ·cases x with
  | add a n=>cases h2
  | take a n=>cases h2
  | move a b n=>cases h2
  | send g a n=>
   simp only [bD]at h1;simp only [dA,mem_cons,QZT,or_false]at h2;have hn:¬ f a<n:=by
    intro hh;rw[P0 hh]at h1;cases h1
   rcases h2 with rfl|rfl
   ·exact⟨rfl,trivial⟩
   ·refine⟨?_,by show(0:Int)<=(f a:Int)+-(n:Int);omega,trivial⟩;show dX f a ((f a:Int)+-(n:Int)).toNat=dX f a (f a-n);rw[show((f a:Int)+-(n:Int)).toNat=f a-n by omega]
  | fetch g a n=>
   simp only [dA,mem_cons,QZT,or_false]at h2;rcases h2 with rfl|rfl
   ·exact⟨rfl,trivial⟩
   ·refine⟨?_,by show(0:Int)<=(f a:Int)+(n:Int);omega,trivial⟩;show dX f a ((f a:Int)+(n:Int)).toNat=dX f a (f a+n);rw[show((f a:Int)+(n:Int)).toNat=f a+n by omega]
  | pass g k a n=>
   simp only [dA,mem_cons,QZT,or_false]at h2;rcases h2 with rfl|rfl|rfl<;>exact⟨rfl,trivial⟩
def wG(x:Dd)(y:An):(uG x y).length<=2:=by cases x<;>cases y<;>exact QZX rfl
def mJ:Sp:=λvs H Q _=>∃(bk t c:TD)(kvs:List (aT×V))(f:Str->Nat)(x:Dd)(y:An),vs=[.ref bk,.ref t,.ref c]/\H bk=some (.dK kvs)/\BookIs kvs f/\kvs.length<=900/\H t=some (.tup x.vs)/\H c=some (.tup y.vs)/\An.Of x y/\yS f (uG x y) ∧
 ∀(C2:List (aT×V))(H':Hp),H' bk=some (.dK C2)->BookIs C2 (rJ f (uG x y))->C2.length<=kvs.length+2->K1 bk H H'->Q .non H'
def Bd(T:Txt K mg)(uz:aG P w K mg base 1 "_law_changes" QZr rG)(D:DefAt K mg "_law_changed" fL QZq):aG P w K mg base 2 "_law_changed" QZq mJ:=by
 refine D.go hV (λvs H Q E h=>?_) (λf cdv A outer s H vs Q E hr h=>?_)
 ·obtain⟨bk,t,c,kvs,f,x,y,rfl,_⟩:=h;rfl
 ·obtain⟨bk,t,c,kvs,f,x,y,rfl,gb,hB,hl,gt,gc,hy,hG,q⟩:=h;have d6:=dP hr;have va:=hr;refine⟨_,(mv (ve PassesOwn.never rfl (qp (K:=K) (mz uz va rfl (li (lc 1) (li (lc 2) mm)))) (FM (K:=K) (n:=2) rfl (qt (o0 (i:=3) hV.nd) (qt (o0 (i:=4) hV.nd) FS))) (mv (tz (my qi (PP d6 (lc 0) (lc 3) ml) (lc 4)) (uc (lc 0) (lc 3) (wl d6)))))),?_⟩;refine⟨t,c,x,y,rfl,gt,gc,hy,λl ps H1 fl g1 pp s1=>⟨l,rfl,⟨_,QYL g1⟩,?_⟩⟩;have YM:bk≠l:=aE gb fl;have h2:=wG x y;have qz:(uG x y).length=ps.length:=pp.length;refine dU (aX K l (ps.map V.ref)) (λi σ' H'=>∃(C2:List (aT×V))(g:Str->Nat)(o3 o4:Option V),σ'=[some (.ref bk),some (.ref t),some (.ref c),o3,o4]/\H' bk=some (.dK C2)/\BookIs C2 g/\C2.length<=kvs.length+i/\yS g ((uG x y).drop i)/\rJ g ((uG x y).drop i)=rJ f (uG x y)/\K1 bk H1 H'/\H' l=some (.lst (ps.map V.ref))) (λi σ' H' ⟨_,_,_,_,_,_,_,_,_,_,_,e⟩=>QYL e)
   ⟨kvs,f,_,_,rfl,s1 _ _ gb,hB,aY _,hG,rfl,(λ_ _ e _=>e),g1⟩ ?_ ?_
  ·rintro i v σ' H2 hv ⟨C2,g,o3,o4,rfl,ox,JM,x9,JN,ea,k2,RD⟩;rw[fA]at hv;cases hp:ps[i]? with
   | none=>rw[hp]at hv;cases hv
   | some p=>
    rw[hp]at hv;cases hv;obtain⟨hi,ei⟩:=Zgs.mp hp;obtain⟨K8,pv⟩:=Paired.get' (j:=i) pp hi;rw[ei]at pv;generalize IU:(uG x y)[i]=cc at pv;obtain⟨z,EI⟩:=cc;have MV:H1 p=some (.tup [.str z,.int EI]):=pv;have ux:=k2 _ _ MV (λe=>by rw[e,s1 _ _ gb]at MV;cases MV);have ed:(uG x y).drop i=(z,EI)::(uG x y).drop (i+1):=by rw[List.drop_eq_getElem_cons K8,IU]
    rw[ed]at JN ea;refine⟨p,_,rfl,QYM ux,rfl,_,_,rfl,_,_,rfl,rfl,?_⟩;obtain⟨o,ho,eo⟩:=dg ox JM z;refine⟨bk,rfl,Gs ox,o,ho,?_⟩;rw[eo];refine⟨bk,_,rfl,DPut.k (k:=Sum.inr z) ox (nS (m:=1000) Zo Zd),?_⟩;have e0:(0:Int)<=(g z:Int)+EI:=JN.1;have HB:=JM.put z ((g z:Int)+EI).toNat;rw[Int.toNat_of_nonneg e0]at HB;refine⟨_,_,_,_,rfl,aA,HB,eI (cQ _ _ _) Zo,JN.2,ea,λc' o' e' n'=>?_,?_⟩
    ·rw[aB n'];exact k2 _ _ e' n'
    ·rw[aB YM.symm];exact RD
  ·rintro σ' H2 ⟨C2,g,o3,o4,rfl,ox,JM,x9,JN,ea,k2,RD⟩;rw[aS]at x9 ea;rw[<- qz,List.drop_length]at ea;refine q C2 H2 ox ?_ Zo (λc' o' e' n'=>k2 _ _ (s1 _ _ e') n');rw[<- ea];exact JM
def Vc:Dd->Nat->Dd
 | .add a _,m=>.add a m|.take a _,m=>.take a m|.move a b _,m=>.move a b m|.send h a _,m=>.send h a m|.fetch h a _,m=>.fetch h a m|.pass h g a _,m=>.pass h g a m
def Ni{x:Dd}{m:Nat}(h:x.Ok)(h1:1<=m)(h2:m<=1000000000000):(Vc x m).Ok:=by
 cases x with
 | add a n=>exact⟨h.1,h1,h2⟩
 | take a n=>exact⟨h.1,h1,h2⟩
 | move a b n=>exact⟨h.1,h.2.1,h.2.2.1,h1,h2⟩
 | send a b n=>exact⟨h.1,h.2.1,h1,h2⟩
 | fetch a b n=>exact⟨h.1,h.2.1,h1,h2⟩
 | pass a b c n=>exact⟨h.1,h.2.1,h.2.2.1,h.2.2.2.1,h1,h2⟩
def Nj(x:Dd)(m:Nat):kC x.vs none (some (-1))++[.int (m:Int)]=(Vc x m).vs:=by cases x<;>rfl
def aCv(x:Dd):∃z:Str,mU x.vs (-2)=some (.str z):=by cases x<;>exact⟨_,rfl⟩
def rK:Sp:=λvs H Q _=>∃(d b bk t:TD)(kvs:List (aT×V))(f:Str->Nat)(x:Dd),vs=[.ref d,.ref bk,.ref t]/\Dk H d b/\H bk=some (.dK kvs)/\BookIs kvs f/\H t=some (.tup x.vs)/\x.Ok ∧
 ∀(t':TD)(x':Dd)(H':Hp),x'.Ok->H' t'=some (.tup x'.vs)->Fw d b H H'->Q (.ref t') H'
def Dk.dict{H:Hp}{d b a:TD}{kvs:List (aT×V)}(D:Dk H d b)(g:H a=some (.dK kvs)):a≠d/\a≠b:=by
 obtain⟨ns,s,k,h1,h2,h3⟩:=D.ex;exact⟨(λe=>by rw[e,h1]at g;cases g),(λe=>by rw[e,h2]at g;cases g)⟩
def Fw.dict{d b a:TD}{H H':Hp}{kvs:List (aT×V)}(f:Fw d b H H')(g:H a=some (.dK kvs)):H' a=some (.dK kvs):=f.get g (Dk.dict f.d0 g).1 (Dk.dict f.d0 g).2
def Nk(T:Txt K mg)(a6:aG P w K mg base 1 "_law_draw" QZP bT)(D:DefAt K mg "_law_sized" iK QZp):aG P w K mg base 2 "_law_sized" QZp rK:=by
 refine D.go dO (λvs H Q E h=>?_) (λf cdv A outer s H vs Q E hr h=>?_)
 ·obtain⟨d,b,bk,t,kvs,f,x,rfl,_⟩:=h;rfl
 ·obtain⟨d,b,bk,t,kvs,f,x,rfl,dk,gb,hB,gt,hx,q⟩:=h;have d6:=dP hr;have a7:=hr;refine⟨_,(mo (ng (i:=3) dO.nd (mn (mr (K:=K)) (lc 2) (qr ml))) (mo (nk (ni pi (mn (mr (K:=K)) (lc 2) ml) mq) (mv (ng (i:=3) dO.nd (mn (mr (K:=K)) (lc 2) (my qi ml (mz a6 a7 rfl (li (lc 0) (li ml mm))))))) nw) (mo (ng (i:=4) dO.nd (PP d6 (lc 1) (lc 3) ml)) (mo (ng (i:=5) dO.nd (qk (li (mn (mr (K:=K)) (lc 2) (qr ml)) (li (my qi ml (mz a6 a7 rfl (li (lc 0) (li ml mm)))) (li (lc 4) (li (my qi (lc 4) ml) (li (my vh (my ud ml ml) (lc 4)) (li (my qi (my vh (my ud ml ml) (lc 4)) ml) mm)))))))) (mo (ng (i:=6) dO.nd (mn (qj (K:=K)) (lc 5) (mz a6 a7 rfl (li (lc 0) (li ml mm))))) (mv (nh (my u8 (qw sy (lc 2) tf (qo (qr ml))) (nj (li (ql (R.jt rfl) rfl T.b_max oH (li ml (li (ql (R.ir rfl) rfl T.b_min Xz (li (my ud ml ml) (li (lc 6) mm))) mm))) mm)))))))))),?_⟩;obtain⟨z0,ez⟩:=aCv x;refine⟨_,QYM gt,_,ez,?_⟩;dsimp only [aJ,sI];refine Ya (t:=Eo _ _ _) (λσ' H'=>∃z:Str,σ'=[some (.ref d),some (.ref bk),some (.ref t),some (.str z),none,none,none]/\Fw d b H H') (λnx b6=>?_) ?_
  ·refine⟨_,QYM gt,_,uF x,?_⟩;show if decide (x.wd="move")=true then _ else _
   refine bG (λh=>?_) (λ_=>b6 _ _ ⟨z0,rfl,.refl dk⟩);refine⟨d,b,2,rfl,dk,Zd,Zd,λr H1 r0 r1 D1 k1=>?_⟩;have f1:=(Fw.refl dk).draw D1 k1;have hw:=UV h
   cases x with
   | move a b' n=>
    rcases(by omega:r=0∨r=1) with rfl|rfl
    ·exact⟨_,QYM (f1.tup gt),_,rfl,b6 _ _ ⟨a,rfl,f1⟩⟩
    ·exact⟨_,QYM (f1.tup gt),_,rfl,b6 _ _ ⟨b',rfl,f1⟩⟩
   | add a n=>exact QZY (show("add":Str)="move" from hw) Zk
   | take a n=>exact QZY (show("take":Str)="move" from hw) Zk
   | send a b n=>exact QZY (show("send":Str)="move" from hw) Zk
   | fetch a b n=>exact QZY (show("fetch":Str)="move" from hw) Zk
   | pass a b c n=>exact QZY (show("pass":Str)="move" from hw) Zk
  ·rintro σ' H1 ⟨z,rfl,f1⟩;have zj:=f1.dict gb;have nv:=f1.tup gt;obtain⟨o,ho,eo⟩:=dg zj hB z;refine⟨bk,rfl,Gs zj,o,ho,?_⟩;rw[eo];dsimp only [aJ];refine⟨_,QYM nv,_,aBx x,d,b,9,rfl,f1.dk,Zd,Zd,λr H2 r0 r1 D2 k2=>⟨⟨Zd,Zd,Zd⟩,⟨Zd,Zd,Zd⟩,eT rfl,λp hp=>?_⟩⟩;have f2:=f1.draw D2 k2;have pd:=D2.ne hp;have f3:=f2.new (o:=.lst [.int (x.n:Int),.int (1+r),.int (f z:Int),.int ((f z:Int)+1),.int (10^(12:Int).toNat-(f z:Int)),.int (10^(12:Int).toNat-(f z:Int)+1)]) hp;dsimp only [aJ];refine⟨d,b,6,rfl,f3.dk,Zd,Zd,λr6 H4 i0 i1 D4 k4=>?_⟩;have f4:=f3.draw D4 k4;have gp:=k4 p _ aA pd.1 pd.2;obtain⟨v,hv⟩:∃v:Int,mU [V.int (x.n:Int),.int (1+r),.int (f z:Int),.int ((f z:Int)+1),.int (10^(12:Int).toNat-(f z:Int)),.int (10^(12:Int).toNat-(f z:Int)+1)] r6=some (.int v):=by
    rcases six i0 i1 with rfl|rfl|rfl|rfl|rfl|rfl<;>exact⟨_,rfl⟩
   refine⟨_,QYL gp,_,hv,?_⟩;dsimp only [aJ];have YN:=f4.tup gt;refine⟨_,YN,λp1 H5 s5 g5=>⟨⟨Zd,Zd,Zd⟩,aN rfl,λp2 H6 s6 g6=>⟨_,_,s6 _ _ g5,g6,?_,λp3 H7 s7 g7=>?_⟩⟩⟩
   ·cases x<;>exact QZX rfl
   have f7:=((f4.same s5).same s6).same s7;obtain⟨m,em,m1,m2⟩:∃m:Nat,(if (if v<(10:Int)^(12:Int).toNat then v else (10:Int)^(12:Int).toNat)>1 then (if v<(10:Int)^(12:Int).toNat then v else (10:Int)^(12:Int).toNat) else (1:Int))=(m:Int)/\1<=m/\m<=1000000000000:=by
    have YO:(10:Int)^(12:Int).toNat=1000000000000:=rfl;rw[YO];by_cases h1:v<1000000000000
    ·rw[P0 h1];by_cases h2:v>1
     ·rw[P0 h2];exact⟨v.toNat,Zo,Zo,Zo⟩
     ·rw[QZZ h2];exact⟨1,rfl,Zo,Zo⟩
    ·rw[QZZ h1];exact⟨1000000000000,Zd,Zo,Zo⟩
   rw[em,Nj]at g7;exact q p3 _ H7 (Ni hx m1 m2) g7 f7
def Dh(H:Hp)(e:TD)(n:Nat)(t:TD)(x:Dd)(q:Bool):Prop:=H e=some (.lst [.int (n:Int),.ref t,.bl q])/\H t=some (.tup x.vs)
def rL:Sp:=λvs H Q _=>∃(d b bk e t:TD)(kvs:List (aT×V))(f:Str->Nat)(x:Dd)(n:Nat)(a:Bool),vs=[.ref d,.ref bk,.ref e]/\Dk H d b/\H bk=some (.dK kvs)/\BookIs kvs f/\Dh H e n t x a/\(a=true->x.far=true)/\e≠d/\e≠b ∧
 (∀y c H',jZ f x a y->Fw d b H H'->H' c=some (.tup (An.vs y))->Q (.ref c) H')/\(∀H',Fw d b H H'->Q .non H')
def Be{f:Str->Nat}{x:Dd}(h:x.far=false):bD f x≠none:=by
 cases x with
 | add a n=>simp only [bD];split<;>exact λz=>nomatch z
 | take a n=>simp only [bD];split<;>exact λz=>nomatch z
 | move a b n=>
  simp only [bD];split
  ·exact λz=>nomatch z
  ·split<;>exact λz=>nomatch z
 | send a b n=>cases h
 | fetch a b n=>cases h
 | pass a b c n=>cases h
def Gu(f:Str->Nat){x:Dd}(h:x.far=true):0<(dA f x).length:=by cases x<;>first|exact Nat.zero_lt_succ _|cases h
def wH(x:Dd):mM (.str x.wd) [.str "send",.str "fetch",.str "pass"]=x.far:=by cases x<;>rfl
def Nl(T:Txt K mg)(a6:aG P w K mg base 1 "_law_draw" QZP bT)(zo:aG P w K mg base 1 "_law_early" QZE yP)(zp:aG P w K mg base 1 "_law_lates" QZE yQ)(D:DefAt K mg "_law_right" iM QZo):aG P w K mg base 2 "_law_right" QZo rL:=by
 refine D.go gM (λvs H Q E h=>?_) (λf cdv A outer s H vs Q E hr h=>?_)
 ·obtain⟨d,b,bk,e,t,kvs,f,x,n,a,rfl,_⟩:=h;rfl
 ·obtain⟨d,b,bk,e,t,kvs,f,x,n,a,rfl,dk,gb,hB,⟨ge,gt⟩,ha,ed,eb,qs,qn⟩:=h;have a7:=hr;have zr:=hr;have zt:=hr;refine⟨_,(mo (ng (i:=3) gM.nd (mz zo zr rfl (li (lc 1) (li (mn (qj (K:=K)) (lc 2) ml) mm)))) (mo (ng (i:=4) gM.nd (qm (sw (K:=K)) (mn (mr (K:=K)) (mn (qj (K:=K)) (lc 2) ml) ml) (nj (li mq (li mq (li mq mm)))))) (mo (nk (re (ww (tm (mn (qj (K:=K)) (lc 2) ml)) (AC (ni R.ji (lc 3) AT)))) (mo (ng (i:=5) gM.nd (mz zp zt rfl (li (lc 1) (li (mn (qj (K:=K)) (lc 2) ml) mm)))) (mv (nh (mn (qj (K:=K)) (lc 5) (mz a6 a7 rfl (li (lc 0) (li (ql (sn (K:=K)) rfl T.b_len cD (li (lc 5) mm)) mm))))))) nw) (mo (nk (re (xz (tm (mn (qj (K:=K)) (lc 2) ml)) (AO (re (ww (ni R.ji (lc 3) AT) (AC (tm (lc 4)))))))) (mv (nh AT)) nw) (mv (nh (lc 3))))))),?_⟩;refine⟨_,QYL ge,_,rfl,bk,t,kvs,f,x,rfl,gb,hB,gt,λy c H1 hy s1 gc=>?_,λhy H1 s1=>?_⟩
  ·dsimp only [aJ];have ge1:=s1 _ _ ge;have nv:=s1 _ _ gt;refine⟨_,QYL ge1,_,rfl,_,QYM nv,_,uF x,aN rfl,λtq H2 s2 g2=>⟨tq,_,rfl,.inr (QYM g2),rfl,rfl,?_⟩⟩;have CK:=s2 _ _ ge1;have f2:=((Fw.refl dk).same s1).same s2;show sI _ _ _ [some (.ref d),some (.ref bk),some (.ref e),some (.ref c),some (.bl (mM (.str x.wd) [.str "send",.str "fetch",.str "pass"])),none] H2;rw[wH];refine⟨_,QYL CK,_,rfl,?_⟩
   cases a with
   | true=>exact⟨_,QYL CK,_,rfl,qn H2 f2⟩
   | false=>exact⟨_,QYL CK,_,rfl,qs y c H2 (.inl ⟨rfl,hy⟩) f2 (s2 _ _ gc)⟩
  ·dsimp only [aJ];have ge1:=s1 _ _ ge;have nv:=s1 _ _ gt;refine⟨_,QYL ge1,_,rfl,_,QYM nv,_,uF x,aN rfl,λtq H2 s2 g2=>⟨tq,_,rfl,.inr (QYM g2),rfl,rfl,?_⟩⟩;have CK:=s2 _ _ ge1;have f2:=((Fw.refl dk).same s1).same s2;have X2:x.far=true:=by
    cases hh:x.far with
    | true=>rfl
    | false=>exact QZY hy (Be hh)
   show sI _ _ _ [some (.ref d),some (.ref bk),some (.ref e),some .non,some (.bl (mM (.str x.wd) [.str "send",.str "fetch",.str "pass"])),none] H2;rw[wH,X2];refine⟨_,QYL CK,_,rfl,?_⟩
   cases a with
   | true=>
    refine⟨_,QYL CK,_,rfl,bk,t,kvs,f,x,rfl,s2 _ _ (s1 _ _ gb),hB,s2 _ _ nv,X2,hy,λl cs H3 fl gl pp s3=>?_⟩;have f3:=f2.same s3;have nl:=f2.dk.ne fl;have CL:(dA f x).length=cs.length:=pp.length;have hlp:0<(dA f x).length:=Gu f X2;have hlq:(dA f x).length<=3:=by cases x<;>exact QZX rfl
    dsimp only [aJ];refine⟨_,.inl (QYL gl),d,b,(cs.length:Int),by rw[aS],f3.dk,Zo,Zo,λr H4 r0 r1 D4 k4=>?_⟩;have F4:=(Fw.refl f3.dk).draw D4 k4;obtain⟨r,rfl⟩:=gN r0;have RE:r<cs.length:=by omega
    obtain⟨YQ,pr⟩:=Paired.get' (j:=r) pp RE;refine⟨_,QYL (F4.get gl nl.1 nl.2),.ref cs[r],iC (by rw[fA,eZ RE];rfl),?_⟩;exact qs _ _ H4 (.inr ⟨rfl,hy,getElem_mem YQ⟩) (f3.trans F4) (F4.tup pr)
   | false=>exact⟨_,QYL CK,_,rfl,qn H2 f2⟩
def bP:RX->Str|.next _ _=>"next"|.has _ _=>"has"|.kept _ _ _ _ _ _=>"kept"|.came _ _ _ _ _=>"came"|.asked _=>"asked"|.done _ _ _=>"done"
def Nm:RX->V|.next n _=>.int (n:Int)|.has z _=>.str z|.kept n _ _ _ _ _=>.int (n:Int)|.came n _ _ _ _=>.int (n:Int)|.asked n=>.int (n:Int)|.done n _ _=>.int (n:Int)
def Td:RX->V|.next _ t=>.int (t:Int)|.has _ m=>.int (m:Int)|.kept _ t _ _ _ _=>.int (t:Int)|.came _ t _ _ _=>.int (t:Int)|.asked _=>.non|.done _ t _=>.int (t:Int)
def eX{H:Hp}{a:TD}{r:RX}(h:r.At H a):∃xs,H a=some (.tup xs)/\mU xs 0=some (.str (bP r))/\mU xs 1=some (Nm r)/\(Td r≠.non->mU xs 2=some (Td r)):=by
 cases r with
 | next n t=>exact⟨_,h,rfl,rfl,λ_=>rfl⟩
 | has z m=>exact⟨_,h,rfl,rfl,λ_=>rfl⟩
 | kept n t p k d y=>obtain⟨b,c,h1,h2,h3⟩:=h;exact⟨_,h1,rfl,rfl,λ_=>rfl⟩
 | came n t p k d=>obtain⟨b,h1,h2⟩:=h;exact⟨_,h1,rfl,rfl,λ_=>rfl⟩
 | asked n=>exact⟨_,h,rfl,rfl,λz=>QZY rfl z⟩
 | done n t y=>obtain⟨b,h1,h2⟩:=h;exact⟨_,h1,rfl,rfl,λ_=>rfl⟩
def dY(rs:List RX):Str->Nat:=rs.foldl (λf r=>match r with|.has z m=>dX f z m|_=>f) (λ_=>0)
inductive kZ:List RX->(Str->Nat)->Prop
 | head {rs:List RX}:wF rs->kZ rs (dY rs)
 | came {rs:List RX}{f:Str->Nat}{n t:Nat}{p k:Str}{x:Dd}:kZ rs f->kZ (rs++[.came n t p k x]) f
 | asked {rs:List RX}{f:Str->Nat}{n:Nat}:kZ rs f->kZ (rs++[.asked n]) f
 | done {rs:List RX}{f:Str->Nat}{n t t0:Nat}{p k:Str}{x:Dd}{q:Bool}{y:An}:kZ rs f->.came n t0 p k x∈rs->jZ f x q y->kZ (rs++[.done n t y]) (after f x y)
structure Un where
 n:Nat
 x:Dd
 q:Bool
 e:Addr
 t:Addr
structure LvP(rs:List RX)(f:Str->Nat)(num turn:Nat)(us:List Un):Prop where
 wh:RX.Whole rs
 ok:∀r∈rs,r.Ok
 lv:kZ rs f
 fb:∀z,f z<=1000000000000
 cnum:∀n t p k x,.came n t p k x∈rs->n<=num
 knum:∀n t p k x y,.kept n t p k x y∈rs->n<=num
 trn:∀q∈rs,q.turn<=turn
 und:∀u∈us,u.x.Ok/\(∃t p k,.came u.n t p k u.x∈rs)/\(∀t y,.done u.n t y∉rs)/\(u.q=true↔.asked u.n∈rs)/\(u.q=true->u.x.far=true)
 nd:(us.map (·.n)).Nodup
 asn:∀n,.asked n∈rs->∃t p k x,.came n t p k x∈rs
 dnn:∀n t y,.done n t y∈rs->∃t p k x,.came n t p k x∈rs
def LvP.turn'{rs:List RX}{f:Str->Nat}{num turn turn':Nat}{us:List Un}(h:LvP rs f num turn us)(ht:turn<=turn'):LvP rs f num turn' us:=
 ⟨h.wh,h.ok,h.lv,h.fb,h.cnum,h.knum,λq hq=>eI (h.trn q hq) ht,h.und,h.nd,h.asn,h.dnn⟩
def LvP.came{rs:List RX}{f:Str->Nat}{num turn n:Nat}{us:List Un}(h:LvP rs f num turn us)(hn:num<n)(oh:n<=999999)(ht:turn<=1000000000000){p k:Str}{x:Dd}{e t:TD}(hp:fO p)(hk:xY k)(hx:x.Ok) :
  LvP (rs++[.came n turn p k x]) f n turn (us++[⟨n,x,false,e,t⟩]):=by
 have YR:.asked n∉rs:=λm=>by obtain⟨t,p,k,x,m⟩:=h.asn n m;have:=h.cnum _ _ _ _ _ m;omega
 have YS:∀t y,.done n t y∉rs:=λt y m=>by obtain⟨t,p,k,x,m⟩:=h.dnn n t y m;have:=h.cnum _ _ _ _ _ m;omega
 refine⟨h.wh.snoc ⟨λn' t' p' k' d' m=>nS (h.cnum _ _ _ _ _ m) hn,λt' p' k' d' y' m=>QZY (h.knum _ _ _ _ _ _ m) Zo,h.trn⟩,λr hr=>?_,h.lv.came,h.fb,λn' t' p' k' x' hr=>?_,λn' t' p' k' x' y' hr=>?_,λq hq=>?_,λu hu=>?_,?_,λn' hr=>?_,λn' t' y' hr=>?_⟩
 ·rcases aH hr with hr|rfl
  ·exact h.ok r hr
  ·exact⟨Zo,oh,ht,hp,hk,hx⟩
 ·rcases aH hr with hr|hr
  ·have:=h.cnum _ _ _ _ _ hr;omega
  ·cases hr;exact aY _
 ·rcases aH hr with hr|hr
  ·have:=h.knum _ _ _ _ _ _ hr;omega
  ·cases hr
 ·rcases aH hq with hq|rfl
  ·exact h.trn q hq
  ·exact aY _
 ·rcases aH hu with hu|rfl
  ·obtain⟨h1,⟨t1,p1,k1,h2⟩,h3,h4,h5⟩:=h.und u hu;refine⟨h1,⟨t1,p1,k1,QZW _ h2⟩,λt' y' m=>?_,⟨λz=>QZW _ (h4.mp z),λm=>?_⟩,h5⟩
   ·rcases aH m with m|m
    ·exact h3 _ _ m
    ·cases m
   ·rcases aH m with m|m
    ·exact h4.mpr m
    ·cases m
  ·refine⟨hx,⟨turn,p,k,QZV _ eV⟩,λt' y' m=>?_,⟨nofun,λm=>?_⟩,nofun⟩
   ·rcases aH m with m|m
    ·exact YS _ _ m
    ·cases m
   ·rcases aH m with m|m
    ·exact QZY m YR
    ·cases m
 ·rw[dJ];refine nodup_append.mpr ⟨h.nd,Zs,λa ha b hb=>?_⟩;obtain⟨u,hu,rfl⟩:=Zmm.mp ha;obtain⟨_,⟨t1,p1,k1,h2⟩,_⟩:=h.und u hu;have:=h.cnum _ _ _ _ _ h2;have t7:b=n:=by simpa using hb
  omega
 ·rcases aH hr with hr|hr
  ·obtain⟨t,p,k,x,m⟩:=h.asn n' hr;exact⟨t,p,k,x,QZW _ m⟩
  ·cases hr
 ·rcases aH hr with hr|hr
  ·obtain⟨t,p,k,x,m⟩:=h.dnn n' _ _ hr;exact⟨t,p,k,x,QZW _ m⟩
  ·cases hr
def Nn{us:List Un}(h:(us.map (·.n)).Nodup){i j:Nat}{u v:Un}(hi:us[i]?=some u)(hj:us[j]?=some v)(hn:i≠j):u.n≠v.n:=by
 intro e;obtain⟨HC,CA⟩:=Zgs.mp hi;obtain⟨vm,U2⟩:=Zgs.mp hj;have p:=pairwise_iff_getElem.mp h;rcases Nat.lt_or_gt_of_ne hn with z|z
 ·have:=p i j (by simpa using HC) (by simpa using vm) z;simp only [getElem_map,CA,U2]at this;exact this e
 ·have:=p j i (by simpa using vm) (by simpa using HC) z;simp only [getElem_map,CA,U2]at this;exact this e.symm
def nM{α:Type}{us:List α}{j:Nat}{u v:α}(h:v∈us.set j u):v=u∨∃i,i≠j/\us[i]?=some v:=by
 obtain⟨i,hi,e⟩:=getElem_of_mem h;rw[getElem_set]at e;split at e
 ·exact .inl e.symm
 ·rename_i v7;rw[length_set]at hi;exact .inr ⟨i,λz=>v7 z.symm,by rw[eZ hi,e]⟩
def LvP.mark{rs:List RX}{f:Str->Nat}{num turn j:Nat}{us:List Un}{u:Un}(h:LvP rs f num turn us)(hu:us[j]?=some u)(hq:u.q=false)(hf:u.x.far=true) :
  LvP (rs++[.asked u.n]) f num turn (us.set j {u with q:=true }):=by
 have hm:=kI hu;obtain⟨g1,⟨t1,p1,k1,g2⟩,g3,g4,g5⟩:=h.und u hm;have no:.asked u.n∉rs:=λm=>by rw[g4.mpr m]at hq;cases hq
 have HD:=h.ok _ g2;refine⟨h.wh.snoc ⟨⟨t1,p1,k1,u.x,g2,hf⟩,no,g3⟩,λr hr=>?_,h.lv.asked,h.fb,λn' t' p' k' x' hr=>?_,λn' t' p' k' x' y' hr=>?_,λq hq=>?_,λv hv=>?_,?_,λn' hr=>?_,λn' t' y' hr=>?_⟩
 ·rcases aH hr with hr|rfl
  ·exact h.ok r hr
  ·exact⟨HD.1,HD.2.1⟩
 ·rcases aH hr with hr|hr
  ·exact h.cnum _ _ _ _ _ hr
  ·cases hr
 ·rcases aH hr with hr|hr
  ·exact h.knum _ _ _ _ _ _ hr
  ·cases hr
 ·rcases aH hq with hq|rfl
  ·exact h.trn q hq
  ·exact zero_le _
 ·rcases nM hv with rfl|⟨i,hi,ei⟩
  ·refine⟨g1,⟨t1,p1,k1,QZW _ g2⟩,λt' y' m=>?_,⟨λ_=>QZV _ eV,λ_=>rfl⟩,λ_=>hf⟩;rcases aH m with m|m
   ·exact g3 _ _ m
   ·cases m
  ·obtain⟨h1,⟨t2,p2,k2,h2⟩,h3,h4,h5⟩:=h.und v (kI ei);have v7:=Nn h.nd ei hu hi;refine⟨h1,⟨t2,p2,k2,QZW _ h2⟩,λt' y' m=>?_,⟨λz=>QZW _ (h4.mp z),λm=>?_⟩,h5⟩
   ·rcases aH m with m|m
    ·exact h3 _ _ m
    ·cases m
   ·rcases aH m with m|m
    ·exact h4.mpr m
    ·injection m with m;exact QZY m v7
 ·have e:(us.set j {u with q:=true }).map (·.n)=us.map (·.n):=by
   obtain⟨vm,U2⟩:=Zgs.mp hu;rw[map_set];apply ext_getElem Zs;intro i h1 h2;rw[getElem_set];split
   ·rename_i z;subst z;simp[U2]
   ·rfl
  rw[e];exact h.nd
 ·rcases aH hr with hr|hr
  ·obtain⟨t,p,k,x,m⟩:=h.asn n' hr;exact⟨t,p,k,x,QZW _ m⟩
  ·cases hr;exact⟨t1,p1,k1,u.x,QZW _ g2⟩
 ·rcases aH hr with hr|hr
  ·obtain⟨t,p,k,x,m⟩:=h.dnn n' _ _ hr;exact⟨t,p,k,x,QZW _ m⟩
  ·cases hr
def LvP.done{rs:List RX}{f:Str->Nat}{num turn j:Nat}{us:List Un}{u:Un}{y:An}(h:LvP rs f num turn us)(hu:us[j]?=some u)(ht:turn<=1000000000000)(hy:jZ f u.x u.q y) :
  LvP (rs++[.done u.n turn y]) (after f u.x y) num turn (us.eraseIdx j):=by
 have hm:=kI hu;obtain⟨g1,⟨t1,p1,k1,g2⟩,g3,g4,g5⟩:=h.und u hm;obtain⟨r1,r2⟩:=yN h.fb g1 hy g5;have HD:=h.ok _ g2;refine⟨h.wh.snoc ⟨h.trn,g3,t1,p1,k1,u.x,g2,r1,λz=>⟨λm=>(r2 z).mp (g4.mpr m),λm=>g4.mp ((r2 z).mpr m)⟩⟩,λr hr=>?_,h.lv.done g2 hy,yO h.fb hy,λn' t' p' k' x' hr=>?_,λn' t' p' k' x' y' hr=>?_,λq hq=>?_,λv hv=>?_,?_,λn' hr=>?_,λn' t' y' hr=>?_⟩
 ·rcases aH hr with hr|rfl
  ·exact h.ok r hr
  ·exact⟨HD.1,HD.2.1,ht⟩
 ·rcases aH hr with hr|hr
  ·exact h.cnum _ _ _ _ _ hr
  ·cases hr
 ·rcases aH hr with hr|hr
  ·exact h.knum _ _ _ _ _ _ hr
  ·cases hr
 ·rcases aH hq with hq|rfl
  ·exact h.trn q hq
  ·exact aY _
 ·obtain⟨i,hi,ei⟩:=List.mem_eraseIdx_iff_getElem?.mp hv;obtain⟨h1,⟨t2,p2,k2,h2⟩,h3,h4,h5⟩:=h.und v (kI ei);have v7:=Nn h.nd ei hu hi;refine⟨h1,⟨t2,p2,k2,QZW _ h2⟩,λt' y' m=>?_,⟨λz=>QZW _ (h4.mp z),λm=>?_⟩,h5⟩
  ·rcases aH m with m|m
   ·exact h3 _ _ m
   ·injection m with m;exact QZY m v7
  ·rcases aH m with m|m
   ·exact h4.mpr m
   ·cases m
 ·exact h.nd.sublist ((List.eraseIdx_sublist us j).map _)
 ·rcases aH hr with hr|hr
  ·obtain⟨t,p,k,x,m⟩:=h.asn n' hr;exact⟨t,p,k,x,QZW _ m⟩
  ·cases hr
 ·rcases aH hr with hr|hr
  ·obtain⟨t,p,k,x,m⟩:=h.dnn n' _ _ hr;exact⟨t,p,k,x,QZW _ m⟩
  ·cases hr;exact⟨t1,p1,k1,u.x,QZW _ g2⟩
def LvP.start{rs:List RX}{num turn:Nat}(h:wF rs)(hk:∀n t p k x y,.kept n t p k x y∈rs->n<=num)(ht:∀n t,.next n t∈rs->t<=turn)(hf:∀z,dY rs z<=1000000000000):LvP rs (dY rs) num turn []:=by
 have no:∀r∈rs,r.rank=3->False:=λr hr e=>by have:=h.rk r hr;omega
 refine⟨h.wh,h.ok,.head h,hf,λn t p k x m=>(no _ m rfl).elim,hk,λq hq=>?_,(λu hu=>nomatch hu),nodup_nil,λn m=>(no _ m rfl).elim,λn t y m=>(no _ m rfl).elim⟩
 cases q with
 | next n t=>exact ht _ _ hq
 | has z m=>exact zero_le _
 | kept n t p k x y=>exact zero_le _
 | came n t p k x=>exact(no _ hq rfl).elim
 | asked n=>exact(no _ hq rfl).elim
 | done n t y=>exact(no _ hq rfl).elim
def Gv{rs:List RX}(h:∀r∈rs,r.Ok)(z:Str):dY rs z<=1000000000000:=by
 have:∀(rs:List RX)(f:Str->Nat),(∀r∈rs,r.Ok)->(∀z,f z<=1000000000000)->∀z,rs.foldl (λf r=>match r with|.has z m=>dX f z m|_=>f) f z<=1000000000000:=by
  intro rs;induction rs with
  | nil=>exact λf _ hf=>hf
  | cons r rs ih=>
   intro f h hf;refine ih _ (λr hr=>h r (iV _ hr)) ?_
   cases r with
   | has y m=>exact iQ hf (h _ eV).2.2
   | _=>exact hf
 exact this rs _ h (λ_=>zero_le _) z
def Dl(x:Dd):∀v∈x.vs,eW v=true:=by
 intro v hv;cases x<;>simp only [Dd.vs,mem_cons,QZT,or_false]at hv<;>rcases hv with rfl|rfl|rfl|rfl|rfl<;>rfl
structure LvH(H:Hp)(d b ra bk ul:TD)(H':Hp)(rs:List RX)(as:List TD)(kvs:List (aT×V))(f:Str->Nat)(us:List Un):Prop where
 d0:Dk H d b
 r0:∃xs,H ra=some (.lst xs)
 fbk:H bk=none
 ful:H ul=none
 fes:∀u∈us,H u.e=none
 nra:ra≠d/\ra≠b
 nbu:bk≠ul
 nue:∀u∈us,u.e≠ul/\u.e≠bk
 nde:(us.map (·.e)).Nodup
 dk:Dk H' d b
 rows:RxsAt H' ra rs as
 book:H' bk=some (.dK kvs)
 bis:BookIs kvs f
 und:H' ul=some (.lst ((us.map (·.e)).map V.ref))
 ent:∀u∈us,Dh H' u.e u.n u.t u.x u.q
 fr:∀c o,H c=some o->c≠d->c≠b->c≠ra->H' c=some o
section
variable {H H' K6:Hp}{d b ra bk ul:TD}{rs:List RX}{as:List TD}{kvs:List (aT×V)}{f:Str->Nat}{us:List Un}
def LvH.ra_ne(h:LvH H d b ra bk ul H' rs as kvs f us):ra≠bk/\ra≠ul/\∀u∈us,ra≠u.e:=by
 obtain⟨xs,r0⟩:=h.r0;exact⟨aE r0 h.fbk,aE r0 h.ful,λu hu=>aE r0 (h.fes u hu)⟩
def LvH.ne_d(h:LvH H d b ra bk ul H' rs as kvs f us){c:TD}(hc:H c=none):c≠d/\c≠b:=h.d0.ne hc
def LvH.fw(h:LvH H d b ra bk ul H' rs as kvs f us)(F:Fw d b H' K6):LvH H d b ra bk ul K6 rs as kvs f us:=by
 have nb:=h.ne_d h.fbk;have nu:=h.ne_d h.ful;refine⟨h.d0,h.r0,h.fbk,h.ful,h.fes,h.nra,h.nbu,h.nue,h.nde,F.dk,h.rows.keep F.tk (F.get h.rows.lst h.nra.1 h.nra.2),F.get h.book nb.1 nb.2,h.bis,F.get h.und nu.1 nu.2,λu hu=>?_,λc o e n1 n2 n3=>F.get (h.fr c o e n1 n2 n3) n1 n2⟩;have ne:=h.ne_d (h.fes u hu);exact⟨F.get (h.ent u hu).1 ne.1 ne.2,F.tup (h.ent u hu).2⟩
def Dk.put'{o:HO}{a:TD}(D:Dk H' d b)(h1:a≠d)(h2:a≠b):Dk (aI H' a o) d b:=by
 obtain⟨ns,s,k,e1,e2,e3⟩:=D.ex;exact⟨ns,s,k,by rw[aB h1.symm];exact e1,by rw[aB h2.symm];exact e2,e3⟩
def LvH.row(h:LvH H d b ra bk ul H' rs as kvs f us){r:RX}{a:TD}(hr:r.At H' a):LvH H d b ra bk ul (aI H' ra (.lst (as.map V.ref++[.ref a]))) (rs++[r]) (as++[a]) kvs f us:=by
 obtain⟨n1,n2,n3⟩:=h.ra_ne;have tk:TK H' (aI H' ra (.lst (as.map V.ref++[.ref a]))):=fW h.rows.lst;refine⟨h.d0,h.r0,h.fbk,h.ful,h.fes,h.nra,h.nbu,h.nue,h.nde,Dk.put' h.dk h.nra.1 h.nra.2,h.rows.snoc tk (hr.tk tk) aA,by rw[aB n1.symm];exact h.book,h.bis,by rw[aB n2.symm];exact h.und,λu hu=>⟨by rw[aB (n3 u hu).symm];exact(h.ent u hu).1,tk _ _ (h.ent u hu).2⟩,λc o e m1 m2 m3=>by rw[aB m3];exact h.fr c o e m1 m2 m3⟩
def LvH.push(h:LvH H d b ra bk ul H' rs as kvs f us){n:Nat}{x:Dd}{q:Bool}{e t:TD}(he:Dh H' e n t x q)(hf:H e=none)(h1:e≠ul)(h2:e≠bk)(h3:∀u∈us,u.e≠e) :
  LvH H d b ra bk ul (aI H' ul (.lst ((us.map (·.e)).map V.ref++[.ref e]))) rs as kvs f (us++[⟨n,x,q,e,t⟩]):=by
 obtain⟨n1,n2,n3⟩:=h.ra_ne;have nu:=h.ne_d h.ful;have tk:TK H' (aI H' ul (.lst ((us.map (·.e)).map V.ref++[.ref e]))):=fW h.und;refine⟨h.d0,h.r0,h.fbk,h.ful,λu hu=>?_,h.nra,h.nbu,λu hu=>?_,?_,Dk.put' h.dk nu.1 nu.2,h.rows.keep tk (by rw[aB n2];exact h.rows.lst),by rw[aB h.nbu];exact h.book,h.bis,by rw[aA,dJ,dJ];rfl,λu hu=>?_,λc o e' m1 m2 m3=>by rw[aB (aE e' h.ful)];exact h.fr c o e' m1 m2 m3⟩
 ·rcases aH hu with hu|rfl
  ·exact h.fes u hu
  ·exact hf
 ·rcases aH hu with hu|rfl
  ·exact h.nue u hu
  ·exact⟨h1,h2⟩
 ·rw[dJ];refine nodup_append.mpr ⟨h.nde,Zs,λa ha c hc=>?_⟩;obtain⟨u,hu,rfl⟩:=Zmm.mp ha;have:c=e:=by simpa using hc
  rw[this];exact h3 u hu
 ·rcases aH hu with hu|rfl
  ·exact⟨by rw[aB (h.nue u hu).1];exact(h.ent u hu).1,tk _ _ (h.ent u hu).2⟩
  ·exact⟨by rw[aB h1];exact he.1,tk _ _ he.2⟩
def Zm(h:(us.map (·.e)).Nodup){i j:Nat}{u v:Un}(hi:us[i]?=some u)(hj:us[j]?=some v)(hn:i≠j):u.e≠v.e:=by
 intro e;obtain⟨HC,CA⟩:=Zgs.mp hi;obtain⟨vm,U2⟩:=Zgs.mp hj;have p:=pairwise_iff_getElem.mp h;rcases Nat.lt_or_gt_of_ne hn with z|z
 ·have:=p i j (by simpa using HC) (by simpa using vm) z;simp only [getElem_map,CA,U2]at this;exact this e
 ·have:=p j i (by simpa using vm) (by simpa using HC) z;simp only [getElem_map,CA,U2]at this;exact this e.symm
def LvH.mark(h:LvH H d b ra bk ul H' rs as kvs f us){j:Nat}{u:Un}(hu:us[j]?=some u) :
  LvH H d b ra bk ul (aI H' u.e (.lst [.int (u.n:Int),.ref u.t,.bl true])) rs as kvs f (us.set j {u with q:=true }):=by
 obtain⟨n1,n2,n3⟩:=h.ra_ne;have hm:=kI hu;have ne:=h.ne_d (h.fes u hm);have tk:TK H' (aI H' u.e (.lst [.int (u.n:Int),.ref u.t,.bl true])):=fW (h.ent u hm).1;have em:(us.set j {u with q:=true }).map (·.e)=us.map (·.e):=by
  obtain⟨vm,U2⟩:=Zgs.mp hu;rw[map_set];apply ext_getElem Zs;intro i h1 h2;rw[getElem_set];split
  ·rename_i z;subst z;simp[U2]
  ·rfl
 refine⟨h.d0,h.r0,h.fbk,h.ful,λv hv=>?_,h.nra,h.nbu,λv hv=>?_,by rw[em];exact h.nde,Dk.put' h.dk ne.1 ne.2,h.rows.keep tk (by rw[aB (n3 u hm)];exact h.rows.lst),by rw[aB (h.nue u hm).2.symm];exact h.book,h.bis,by rw[aB (h.nue u hm).1.symm,em];exact h.und,λv hv=>?_,λc o e' m1 m2 m3=>by rw[aB (aE e' (h.fes u hm))];exact h.fr c o e' m1 m2 m3⟩
 ·rcases nM hv with rfl|⟨i,hi,ei⟩
  ·exact h.fes u hm
  ·exact h.fes v (kI ei)
 ·rcases nM hv with rfl|⟨i,hi,ei⟩
  ·exact h.nue u hm
  ·exact h.nue v (kI ei)
 ·rcases nM hv with rfl|⟨i,hi,ei⟩
  ·exact⟨aA,tk _ _ (h.ent u hm).2⟩
  ·have yt:=kI ei;exact⟨by rw[aB (Zm h.nde ei hu hi)];exact(h.ent v yt).1,tk _ _ (h.ent v yt).2⟩
def LvH.drop(h:LvH H d b ra bk ul H' rs as kvs f us)(j:Nat):LvH H d b ra bk ul (aI H' ul (.lst (((us.map (·.e)).eraseIdx j).map V.ref))) rs as kvs f (us.eraseIdx j):=by
 obtain⟨n1,n2,n3⟩:=h.ra_ne;have nu:=h.ne_d h.ful;have tk:TK H' (aI H' ul (.lst (((us.map (·.e)).eraseIdx j).map V.ref))):=fW h.und;have sub:∀u∈us.eraseIdx j,u∈us:=λu hu=>List.mem_of_mem_eraseIdx hu
 have em:(us.eraseIdx j).map (·.e)=(us.map (·.e)).eraseIdx j:=by
  have:∀(us:List Un)(j:Nat),(us.eraseIdx j).map (·.e)=(us.map (·.e)).eraseIdx j:=by
   intro us;induction us with
   | nil=>intro j;simp
   | cons u us ih=>
    intro j;cases j with
    | zero=>simp
    | succ j=>rw[eraseIdx_cons_succ,map_cons,map_cons,eraseIdx_cons_succ,ih]
  exact this us j
 refine⟨h.d0,h.r0,h.fbk,h.ful,λu hu=>h.fes u (sub u hu),h.nra,h.nbu,λu hu=>h.nue u (sub u hu),h.nde.sublist ((List.eraseIdx_sublist us j).map _),Dk.put' h.dk nu.1 nu.2,h.rows.keep tk (by rw[aB n2];exact h.rows.lst),by rw[aB h.nbu];exact h.book,h.bis,by rw[aA,em],λu hu=>⟨by rw[aB (h.nue u (sub u hu)).1];exact(h.ent u (sub u hu)).1,tk _ _ (h.ent u (sub u hu)).2⟩,λc o e' m1 m2 m3=>by rw[aB (aE e' h.ful)];exact h.fr c o e' m1 m2 m3⟩
def LvH.pay(h:LvH H d b ra bk ul H' rs as kvs f us){C2:List (aT×V)}{f':Str->Nat}(k:K1 bk H' K6)(g:K6 bk=some (.dK C2))(hb:BookIs C2 f'):LvH H d b ra bk ul K6 rs as C2 f' us:=by
 obtain⟨n1,n2,n3⟩:=h.ra_ne;have nb:=h.ne_d h.fbk;have tk:TK H' K6:=λa xs e=>k _ _ e (λz=>by rw[z,h.book]at e;cases e)
 refine⟨h.d0,h.r0,h.fbk,h.ful,h.fes,h.nra,h.nbu,h.nue,h.nde,?_,h.rows.keep tk (k _ _ h.rows.lst n1),g,hb,k _ _ h.und h.nbu.symm,λu hu=>⟨k _ _ (h.ent u hu).1 (h.nue u hu).2,tk _ _ (h.ent u hu).2⟩,λc o e' m1 m2 m3=>k _ _ (h.fr c o e' m1 m2 m3) (aE e' h.fbk)⟩;obtain⟨ns,s,k0,e1,e2,e3⟩:=h.dk.ex;exact⟨ns,s,k0,k _ _ e1 nb.1.symm,k _ _ e2 nb.2.symm,e3⟩
def LvH.rem(h:LvH H d b ra bk ul H' rs as kvs f us)(hn:(us.map (·.n)).Nodup){j:Nat}{u:Un}(hu:us[j]?=some u){Q:VK}(q:Q .non (aI H' ul (.lst (((us.map (·.e)).eraseIdx j).map V.ref)))):kU (.ref ul) [.ref u.e] H' Q:=by
 have hm:=kI hu;refine⟨us.map (·.e),j,h.und,by rw[fA,hu];rfl,h.nde,λc hc v7=>?_,q⟩;obtain⟨v,hv,rfl⟩:=Zmm.mp hc;obtain⟨i,hi,ei⟩:=getElem_of_mem hv;have yt:us[i]?=some v:=by rw[eZ hi,ei]
 have yf:i≠j:=λz=>v7 (by rw[z]at yt;rw[hu]at yt;cases yt;rfl)
 refine⟨(v.n:Int),(u.n:Int),[.ref v.t,.bl v.q],[.ref u.t,.bl u.q],(h.ent v hv).1,(h.ent u hm).1,?_,rfl,λi u' v' e1 e2=>?_⟩
 ·have:=Nn hn yt hu yf;omega
 ·match i,e1,e2 with
  | 0,e1,e2=>
   cases e1;cases e2;exact .inr ⟨v.t,u.t,_,_,rfl,rfl,(h.ent v hv).2,(h.ent u hm).2,λj x y h1 h2=>⟨Dl v.x x (kI h1),Dl u.x y (kI h2)⟩⟩
  | 1,e1,e2=>cases e1;cases e2;exact .inl ⟨rfl,rfl⟩
  | i+2,e1,e2=>cases e1
end
def Bf{rs:List RX}(h:RX.Whole rs){n t:Nat}{p k:Str}{x:Dd}{y:An}(hm:.kept n t p k x y∈rs):∃n0 t0,RX.next n0 t0∈rs/\n<n0:=by
 induction h with
 | nil=>cases hm
 | snoc hw hf ih=>
  rcases aH hm with hm|rfl
  ·obtain⟨n0,t0,h1,h2⟩:=ih hm;exact⟨n0,t0,QZW _ h1,h2⟩
  ·obtain⟨_,⟨n0,t0,h1,h2,_⟩,_⟩:=hf;exact⟨n0,t0,QZW _ h1,h2⟩
def cN(rs:List RX):List (aT×V):=rs.filterMap λr=>match r with|.has z m=>some (Sum.inr z,.int (m:Int))|_=>none
def dF:∀(rs:List RX)(kvs:List (aT×V))(f:Str->Nat),BookIs kvs f->BookIs (aM kvs (cN rs)) (rs.foldl (λf r=>match r with|.has z m=>dX f z m|_=>f) f)
 | [],kvs,f,h=>h
 | r::rs,kvs,f,h=>by
  cases r with
  | has z m=>exact dF rs _ _ (h.put z m)
  | next n t=>exact dF rs _ _ h
  | kept n t p k x y=>exact dF rs _ _ h
  | came n t p k x=>exact dF rs _ _ h
  | asked n=>exact dF rs _ _ h
  | done n t y=>exact dF rs _ _ h
def No:RX->List (aT×V)|.has z m=>[(Sum.inr z,.int (m:Int))]|_=>[]
def Gw{r:RX}(h:bP r≠"has"):No r=[]:=by cases r<;>first|rfl|exact QZY rfl h
def rM(rs:List RX)(r:RX):cN (rs++[r])=cN rs++No r:=by
 unfold cN;rw[QZS];cases r<;>rfl
def Bg{r:RX}(h:bP r="has"):∃z m,r=.has z m:=by
 cases r with
 | has z m=>exact⟨z,m,rfl⟩
 | next n t=>exact QZY (show("next":Str)="has" from h) Zk
 | kept n t p k x y=>exact QZY (show("kept":Str)="has" from h) Zk
 | came n t p k x=>exact QZY (show("came":Str)="has" from h) Zk
 | asked n=>exact QZY (show("asked":Str)="has" from h) Zk
 | done n t y=>exact QZY (show("done":Str)="has" from h) Zk
def qB{r:RX}(h:bP r="next"):∃n t,r=.next n t:=by
 cases r with
 | next n t=>exact⟨n,t,rfl⟩
 | has z m=>exact QZY (show("has":Str)="next" from h) Zk
 | kept n t p k x y=>exact QZY (show("kept":Str)="next" from h) Zk
 | came n t p k x=>exact QZY (show("came":Str)="next" from h) Zk
 | asked n=>exact QZY (show("asked":Str)="next" from h) Zk
 | done n t y=>exact QZY (show("done":Str)="next" from h) Zk
def Dm{r:RX}(h:bP r="kept"):∃n t p k x y,r=.kept n t p k x y:=by
 cases r with
 | kept n t p k x y=>exact⟨n,t,p,k,x,y,rfl⟩
 | has z m=>exact QZY (show("has":Str)="kept" from h) Zk
 | next n t=>exact QZY (show("next":Str)="kept" from h) Zk
 | came n t p k x=>exact QZY (show("came":Str)="kept" from h) Zk
 | asked n=>exact QZY (show("asked":Str)="kept" from h) Zk
 | done n t y=>exact QZY (show("done":Str)="kept" from h) Zk
def aL{α:Type}{xs:List α}{i:Nat}{x:α}(h:xs[i]?=some x):xs.take (i+1)=xs.take i++[x]:=by rw[List.take_add_one,h];rfl
def LvH.men{H H':Hp}{d b ra bk ul lm:TD}{rs:List RX}{as:List TD}{kvs:List (aT×V)}{f:Str->Nat}{us:List Un}{M:List TD}(h:LvH H d b ra bk ul H' rs as kvs f us)(hM:MenusAt H lm M)(h1:d∉M)(h2:b∉M)(h3:ra∉M):MenusAt H' lm M:=
 hM.keep λc hc o e=>h.fr c o e (λz=>h1 (z▸hc)) (λz=>h2 (z▸hc)) (λz=>h3 (z▸hc))
def Zp(H:Hp)(d b ra lm bk ul wa:TD)(many i:Nat)(σ':St)(H':Hp):Prop:=∃(rs:List RX)(as:List TD)(kvs:List (aT×V))(f:Str->Nat)(us:List Un)(num turn:Nat)(o9 X3 ny oy oz:Option V),σ'=[some (.ref d),some (.ref ra),some (.ref lm),some (.int (many:Int)),some (.ref bk),some (.ref ul),some (.ref wa),some (.int (num:Int)),some (.int (turn:Int)),o9,X3,ny,oy,oz]/\LvH H d b ra bk ul H' rs as kvs f us/\LvP rs f num turn us/\rs.length<=13+i/\num<=900006+9*i/\turn<=500000000000+9*i/\kvs.length<=13+2*i/\us.length<=i
def Te(T:Txt K mg)(a6:aG P w K mg base 1 "_law_draw" QZP bT)(S8:aG P w K mg base 3 "_law_deed" QZz pY)(T1:aG P w K mg base 2 "_law_spot" QZL pZ)(X4:aG P w K mg base 2 "_law_sized" QZp rK){fa:TD}{cdv:Q2}{A:Around}{outer:List Env}{s:P1}{H0:Hp}{E:XK}(hr:Room 3 (A.deeper (PyProof.Rows.envOfC "_law_lived" (aD bN) s.heap.objs.size fa cdv))) :
  ∃t,XB (mQ tS P w K mg base QZy "_law_lived" (aD bN) fa cdv A outer s H0 E).nox (stT (Sl (stB (Sl (bH bN) 5)) 2)) t ∧
  ∀(D:nV)(H H9:Hp)(d b ra lm bk ul wa:TD)(M:List TD)(many i way num turn turn':Nat)(rs:List RX)(as:List TD)(kvs:List (aT×V))(f:Str->Nat)(us:List Un)(ny oy oz:Option V),MenusAt H lm M->d∉M->b∉M->ra∉M->i<30->LvH H d b ra bk ul H9 rs as kvs f us->LvP rs f num turn' us->rs.length<=13+i->num<=900006+9*i->turn<=500000000000+9*i->kvs.length<=13+2*i->us.length<=i->turn<=turn'->turn'<=turn+9->(∀ σ' H',Zp H d b ra lm bk ul wa many (i+1) σ' H'->D.nx σ' H') →
   t D [some (.ref d),some (.ref ra),some (.ref lm),some (.int (many:Int)),some (.ref bk),some (.ref ul),some (.ref wa),some (.int (num:Int)),some (.int (turn':Int)),some (.int (i:Int)),some (.int (way:Int)),ny,oy,oz] H9:=by
 have a7:Room 1 _:=hr.mono Zd;have X0:Room 3 _:=hr.mono Zd;have X1:Room 2 _:=hr.mono Zd;have um:Room 2 _:=hr.mono Zd;have hu:=hr.units0;have J4:=hr.units;refine⟨_,(mo (ng (i:=7) bF.nd (my qi (my qi (lc 7) ml) (mn (qj (K:=K)) (qk (li ml (li ml (li (mz a6 a7 rfl (li (lc 0) (li ml mm))) mm)))) (mz a6 a7 rfl (li (lc 0) (li ml mm)))))) (mo (ng (i:=11) bF.nd (mz X4 um rfl (li (lc 0) (li (lc 4) (li (mz S8 X0 rfl (li (lc 0) (li (mn (qj (K:=K)) (lc 2) ml) (li (mn (qj (K:=K)) (lc 2) ml) mm)))) mm))))) (mo (ua (ub (K:=K) PySem.F.plainAttrs_list PySem.F.slot_list_append PySem.F.type_list_append wv (lc 1) (li (my u8 (my u8 (nj (li mq (li (lc 7) (li (lc 8) mm)))) (mz T1 X1 rfl (li (lc 0) (li (lc 2) mm)))) (nj (li (lc 11) mm))) mm))) (mv (ua (ub (K:=K) PySem.F.plainAttrs_list PySem.F.slot_list_append PySem.F.type_list_append wv (lc 5) (li (qk (li (lc 7) (li (lc 11) (li qy mm)))) mm))))))),?_⟩;intro D H H9 d b ra lm bk ul wa M many i way num turn turn' rs as kvs f us ny oy oz hM oD oB oR hi L9 P8 l1 l2 l3 l4 l5 t1 t2 HE;refine bY (λσ' H'=>∃(m:Nat),σ'=[some (.ref d),some (.ref ra),some (.ref lm),some (.int (many:Int)),some (.ref bk),some (.ref ul),some (.ref wa),some (.int (m:Int)),some (.int (turn':Int)),some (.int (i:Int)),some (.int (way:Int)),ny,oy,oz]/\num<m/\m<=num+9/\LvH H d b ra bk ul H' rs as kvs f us) (λGZ A0=>?_) ?_
 ·refine⟨d,b,9,rfl,L9.dk,Zd,Zd,λr8 H8 x0 x1 D8 k8=>⟨eT rfl,λp hp=>⟨d,b,3,rfl,D8.new hp,Zd,Zd,λr9 Ha y0 y1 D9 k9=>?_⟩⟩⟩;obtain⟨r8,rfl⟩:=gN x0;have y9:=D8.ne hp;have gp:=k9 p _ aA y9.1 y9.2;have La:=L9.fw ((((Fw.refl L9.dk).draw D8 k8).new hp).draw D9 k9);rcases(by omega:r9=0∨r9=1∨r9=2) with rfl|rfl|rfl
  ·exact⟨_,QYL gp,_,rfl,A0 _ _ ⟨num+1,rfl,Zo,Zo,La⟩⟩
  ·exact⟨_,QYL gp,_,rfl,A0 _ _ ⟨num+1,rfl,Zo,Zo,La⟩⟩
  ·exact⟨_,QYL gp,_,rfl,A0 _ _ ⟨num+1+r8,rfl,Zo,Zo,La⟩⟩
 rintro σ' Ha ⟨m,rfl,m1,m2,La⟩;have JO:=La.men hM oD oB oR;obtain⟨a0,a1,a2,a3,ws,YT,ps,ks,eM,h0,h1,h2,h3,h4,mw,mu,_⟩:=JO.ex;have nd:∀c∈M,c≠d/\c≠b:=λc hc=>⟨(λz=>oD (z▸hc)),(λz=>oB (z▸hc))⟩
 have i0:a0∈M:=by rw[eM];simp
 have i1:a1∈M:=by rw[eM];simp
 refine⟨_,QYL h0,_,rfl,_,QYL h0,_,rfl,d,b,a0,a1,ws,YT,rfl,La.dk,h1,h2,⟨(nd a0 i0).1,(nd a0 i0).2,(nd a1 i1).1,(nd a1 i1).2⟩,mw,mu,λtd xd Hb YU YV fb=>?_⟩;have Lb:=La.fw fb;refine⟨d,b,bk,td,kvs,f,xd,rfl,Lb.dk,Lb.book,Lb.bis,YV,YU,λt' x' Hc om RF fc=>?_⟩;have Lc:=Lb.fw fc;dsimp only [aJ];refine⟨.inl ⟨rfl,_,QYL Lc.rows.lst⟩,aN rfl,λq1 Hd sd gd=>?_⟩;have Ld:=Lc.fw ((Fw.refl Lc.dk).same sd);refine⟨d,b,lm,M,rfl,Ld.dk,Ld.men hM oD oB oR,oD,oB,λq2 pp kk He YW YX ge fe=>?_⟩;refine⟨_,_,fe.tup gd,ge,QZX rfl,λq3 Hf sf gf=>⟨aN rfl,λq4 Hg sg gg=>⟨_,_,sg _ _ gf,gg,QZX rfl,λq5 Hh sh gh=>?_⟩⟩⟩;have Fh:=(((fe.same sf).same sg).same sh);have Lh:=Ld.fw Fh;have lr:=Lh.rows.len;refine⟨ra,_,_,rfl,rfl,Lh.rows.lst,by rw[aS];exact nS (m:=1000) Zo Zd,?_⟩;have Li:=Lh.row (r:=.came m turn' pp kk x') (a:=q5) ⟨t',gh,Fh.tup (sd _ _ RF)⟩;have RG:(aI Hh ra (.lst (as.map V.ref++[.ref q5]))) t'=some (.tup x'.vs):=fW Lh.rows.lst _ _ (Fh.tup (sd _ _ RF));generalize aI Hh ra (.lst (as.map V.ref++[.ref q5]))=Hi at Li RG;refine⟨.inl ⟨rfl,_,QYL Li.und⟩,eT rfl,λe he=>?_⟩;have Lj:=Li.fw ((Fw.refl Li.dk).new (o:=.lst [.int (m:Int),.ref t',.bl false]) he);have YY:Dh (aI Hi e (.lst [.int (m:Int),.ref t',.bl false])) e m t' x' false:=⟨aA,aP RG he⟩;have YZ:e≠ul:=(aE Li.und he).symm;have Zg:e≠bk:=(aE Li.book he).symm;have Zn:∀u∈us,u.e≠e:=λu hu=>aE (Li.ent u hu).1 he
 have ZA:H e=none:=by
  cases hh:H e with
  | none=>rfl
  | some o=>
   have RH:=Li.dk.ne he;have:e≠ra:=(aE Li.rows.lst he).symm;rw[Li.fr e o hh RH.1 RH.2 this]at he;cases he
 refine⟨ul,_,_,rfl,rfl,Lj.und,by rw[aS,aS];exact nS (m:=1000) Zo Zd,?_⟩;exact HE _ _ ⟨_,_,kvs,f,_,m,turn',_,_,_,_,_,rfl,Lj.push YY ZA YZ Zg Zn,P8.came m1 Zo Zo YW YX om,by simp;omega,Zo,Zo,Zo,by simp;omega⟩
def Tf(T:Txt K mg)(a6:aG P w K mg base 1 "_law_draw" QZP bT)(X5:aG P w K mg base 2 "_law_right" QZo rL)(M3:aG P w K mg base 2 "_law_changed" QZq mJ){fa:TD}{cdv:Q2}{A:Around}{outer:List Env}{s:P1}{H0:Hp}{E:XK}(hr:Room 3 (A.deeper (PyProof.Rows.envOfC "_law_lived" (aD bN) s.heap.objs.size fa cdv))) :
  ∃t,XB (mQ tS P w K mg base QZy "_law_lived" (aD bN) fa cdv A outer s H0 E).nox (stE (Sl (stB (Sl (bH bN) 5)) 2)) t ∧
  ∀(D:nV)(H H9:Hp)(d b ra lm bk ul wa:TD)(M:List TD)(many i way num turn turn':Nat)(rs:List RX)(as:List TD)(kvs:List (aT×V))(f:Str->Nat)(us:List Un)(ny oy oz:Option V),MenusAt H lm M->d∉M->b∉M->ra∉M->i<30->LvH H d b ra bk ul H9 rs as kvs f us->LvP rs f num turn' us->rs.length<=13+i->num<=900006+9*i->turn<=500000000000+9*i->kvs.length<=13+2*i->us.length<=i->turn<=turn'->turn'<=turn+9->us≠[]->(∀ σ' H',Zp H d b ra lm bk ul wa many (i+1) σ' H'->D.nx σ' H') →
   t D [some (.ref d),some (.ref ra),some (.ref lm),some (.int (many:Int)),some (.ref bk),some (.ref ul),some (.ref wa),some (.int (num:Int)),some (.int (turn':Int)),some (.int (i:Int)),some (.int (way:Int)),ny,oy,oz] H9:=by
 have a7:Room 1 _:=hr.mono Zd;have uo:Room 2 _:=hr.mono Zd;have V7:Room 2 _:=hr.mono Zd;have hu:=hr.units0;have J4:=hr.units;refine⟨_,(mo (ng (i:=12) bF.nd (mn (qj (K:=K)) (lc 5) (mz a6 a7 rfl (li (lc 0) (li (ql (sn (K:=K)) rfl T.b_len cD (li (lc 5) mm)) mm))))) (mo (ng (i:=13) bF.nd (mz X5 uo rfl (li (lc 0) (li (lc 4) (li (lc 12) mm))))) (mv (nk (re (ww (ni pi (lc 10) ml) (ww (ut (tm (mn (qj (K:=K)) (lc 12) ml))) (AC (ni (sw (K:=K)) (mn (mr (K:=K)) (mn (qj (K:=K)) (lc 12) ml) ml) (nj (li mq (li mq (li mq mm))))))))) (mo (ua (ub (K:=K) PySem.F.plainAttrs_list PySem.F.slot_list_append PySem.F.type_list_append wv (lc 1) (li (nj (li mq (li (mn (qj (K:=K)) (lc 12) ml) mm))) mm))) (mv (tz qy (uc (lc 12) ml R.jg)))) (mv (nk (ni R.ii (lc 13) AT) (mo (ua (ub (K:=K) PySem.F.plainAttrs_list PySem.F.slot_list_append PySem.F.type_list_append wv (lc 1) (li (nj (li mq (li (mn (qj (K:=K)) (lc 12) ml) (li (lc 8) (li (lc 13) mm))))) mm))) (mo (ua (mz M3 V7 rfl (li (lc 4) (li (mn (qj (K:=K)) (lc 12) ml) (li (lc 13) mm))))) (mv (ua (ub (K:=K) PySem.F.plainAttrs_list PySem.F.slot_list_remove PySem.F.type_list_remove (R.ja J4) (lc 5) (li (lc 12) mm)))))) nw)))))),?_⟩;intro D H H9 d b ra lm bk ul wa M many i way num turn turn' rs as kvs f us ny oy oz hM oD oB oR hi L9 P8 l1 l2 l3 l4 l5 t1 t2 v7 HE;have ZC:0<us.length:=by cases us with|nil=>exact QZY rfl v7|cons _ _=>exact Nat.succ_pos _
 refine⟨_,.inl (QYL L9.und),d,b,(us.length:Int),by rw[aS,aS],L9.dk,Zo,Zo,λr Ha r0 r1 Da ka=>?_⟩;have La:=L9.fw ((Fw.refl L9.dk).draw Da ka);obtain⟨j,rfl⟩:=gN r0;have hj:j<us.length:=by omega
 obtain⟨u,EJ⟩:∃u,us[j]?=some u:=⟨us[j],eZ hj⟩;have zw:=kI EJ;obtain⟨g1,⟨tc,pc,kc,g2⟩,g3,g4,g5⟩:=P8.und u zw;refine⟨_,QYL La.und,.ref u.e,iC (by rw[fA,fA,EJ];rfl),?_⟩;dsimp only [aJ];refine bY (λσ' H'=>∃(v:V),σ'=[some (.ref d),some (.ref ra),some (.ref lm),some (.int (many:Int)),some (.ref bk),some (.ref ul),some (.ref wa),some (.int (num:Int)),some (.int (turn':Int)),some (.int (i:Int)),some (.int (way:Int)),ny,some (.ref u.e),some v]/\LvH H d b ra bk ul H' rs as kvs f us/\(v=.non∨∃y c,v=.ref c/\jZ f u.x u.q y/\H' c=some (.tup y.vs))) (λGZ A0=>?_) ?_
 ·have RI:=La.ne_d (La.fes u zw);exact⟨d,b,bk,u.e,u.t,kvs,f,u.x,u.n,u.q,rfl,La.dk,La.book,La.bis,La.ent u zw,g5,RI.1,RI.2,λy c H' hy ff gc=>A0 _ _ ⟨.ref c,rfl,La.fw ff,.inr ⟨y,c,rfl,hy,gc⟩⟩,λH' ff=>A0 _ _ ⟨.non,rfl,La.fw ff,.inl rfl⟩⟩
 rintro σ' Hb ⟨v,rfl,Lb,ZD⟩;refine Mn (λc H'=>LvH H d b ra bk ul H' rs as kvs f us/\TK Hb H'/\(c=true->u.q=false/\u.x.far=true)) (λk hk=>?_) ?_ ?_
 ·have en:=(Lb.ent u zw);refine bG (λ_=>?_) (λ_=>hk _ _ ⟨Lb,.refl,nofun⟩);refine⟨_,QYL en.1,_,rfl,?_⟩;show if (!u.q)=true then _ else _
  refine bG (λhq=>?_) (λ_=>hk _ _ ⟨Lb,.refl,nofun⟩);refine⟨_,QYL en.1,_,rfl,_,QYM en.2,_,uF u.x,aN rfl,λtq Hc sc gc=>⟨tq,_,rfl,.inr (QYM gc),rfl,rfl,?_⟩⟩;refine hk _ _ ⟨Lb.fw ((Fw.refl Lb.dk).same sc),Same.tk sc,λz=>⟨by simpa using hq,?_⟩⟩;rw[<- wH];exact z
 ·rintro Hc ⟨Lc,RJ,hc⟩;obtain⟨hq,hf⟩:=hc rfl;refine⟨.inl ⟨rfl,_,QYL Lc.rows.lst⟩,_,QYL (Lc.ent u zw).1,_,rfl,aN rfl,λta Hd sd gd=>?_⟩;have Ld:=Lc.fw ((Fw.refl Lc.dk).same sd);have lr:=Ld.rows.len;refine⟨ra,_,_,rfl,rfl,Ld.rows.lst,by rw[aS];exact nS (m:=1000) Zo Zd,?_⟩;have Le:=Ld.row (r:=.asked u.n) (a:=ta) gd;generalize aI Hd ra (.lst (as.map V.ref++[.ref ta]))=He at Le;refine⟨u.e,_,2,2,rfl,rfl,(Le.ent u zw).1,rfl,?_⟩;exact HE _ _ ⟨_,_,kvs,f,_,num,turn',_,_,_,_,_,rfl,Le.mark EJ,P8.mark EJ hq hf,by simp;omega,Zo,Zo,Zo,by rw[length_set];omega⟩
 ·rintro Hc ⟨Lc,RJ,hc⟩;rcases ZD with rfl|⟨y,cc,rfl,hy,ZE⟩
  ·exact HE _ _ ⟨rs,as,kvs,f,us,num,turn',_,_,_,_,_,rfl,Lc,P8,Zo,Zo,Zo,Zo,Zo⟩
  ·obtain⟨r1,r2⟩:=yN P8.fb g1 hy g5;obtain⟨ea,hG⟩:=pG g1 hy;refine⟨.inl ⟨rfl,_,QYL Lc.rows.lst⟩,_,QYL (Lc.ent u zw).1,_,rfl,aN rfl,λta Hd sd gd=>?_⟩;have Ld:=Lc.fw ((Fw.refl Lc.dk).same sd);have lr:=Ld.rows.len;have gcd:=sd _ _ (RJ _ _ ZE);refine⟨ra,_,_,rfl,rfl,Ld.rows.lst,by rw[aS];exact nS (m:=1000) Zo Zd,?_⟩;have Le:=Ld.row (r:=.done u.n turn' y) (a:=ta) ⟨cc,gd,gcd⟩;have RL:(aI Hd ra (.lst (as.map V.ref++[.ref ta]))) cc=some (.tup y.vs):=fW Ld.rows.lst _ _ gcd;generalize aI Hd ra (.lst (as.map V.ref++[.ref ta]))=He at Le RL;refine⟨_,QYL (Le.ent u zw).1,_,rfl,bk,u.t,cc,kvs,f,u.x,y,rfl,Le.book,Le.bis,Zo,(Le.ent u zw).2,RL,r1,hG,λC2 Hf gf bf lf kf=>?_⟩;have Lf:=Le.pay kf gf bf;refine⟨.inl ⟨rfl,_,QYL Lf.und⟩,?_⟩;dsimp only [kJ,sK,vr];show kU (.ref ul) [.ref u.e] Hf _;refine Lf.rem P8.nd EJ ?_;rw[ea]at Lf;exact HE _ _ ⟨_,_,C2,_,_,num,turn',_,_,_,_,_,rfl,Lf.drop j,P8.done EJ Zo hy,by simp;omega,Zo,Zo,Zo,by have:=List.length_eraseIdx_le us j;omega⟩
def yT:Sp:=λvs H Q _=>∃(d b ra lm:TD)(M:List TD)(rs:List RX)(as:List TD)(many:Nat),vs=[.ref d,.ref ra,.ref lm,.int (many:Int)]/\Dk H d b/\RxsAt H ra rs as/\wF rs/\MenusAt H lm M/\d∉M/\b∉M/\ra∉M/\ra≠d/\ra≠b/\many<=30 ∧
 ∀(A1:List RX)(yj:List TD)(f:Str->Nat)(H':Hp),RxsAt H' ra A1 yj->RX.Whole A1->(∀r∈A1,r.Ok)->kZ A1 f->A1.length<=43->Dk H' d b->(∀c o,H c=some o->c≠d->c≠b->c≠ra->H' c=some o)->Q (.ref ra) H'
def Np(T:Txt K mg)(a6:aG P w K mg base 1 "_law_draw" QZP bT)(S8:aG P w K mg base 3 "_law_deed" QZz pY)(T1:aG P w K mg base 2 "_law_spot" QZL pZ)(X4:aG P w K mg base 2 "_law_sized" QZp rK)(X5:aG P w K mg base 2 "_law_right" QZo rL)(M3:aG P w K mg base 2 "_law_changed" QZq mJ)(D:DefAt K mg "_law_lived" bN QZa):aG P w K mg base 4 "_law_lived" QZa yT:=by
 refine D.go bF (λvs H Q E h=>?_) (λf cdv A outer s H vs Q E hr h=>?_)
 ·obtain⟨d,b,ra,lm,M,rs,as,many,rfl,_⟩:=h;rfl
 ·obtain⟨d,b,ra,lm,M,G7,HF,many,rfl,dk,R0,yk,hM,oD,oB,oR,JP,JQ,RM,q⟩:=h;have a7:Room 1 _:=hr.mono Zd;have X0:Room 3 _:=hr.mono Zd;have X1:Room 2 _:=hr.mono Zd;have um:Room 2 _:=hr.mono Zd;have uo:Room 2 _:=hr.mono Zd;have V7:Room 2 _:=hr.mono Zd;have hu:=hr.units0;have J4:=hr.units;have l0:=yk.len;have MW:=R0.len;obtain⟨tc1,h1,p1⟩:=Te (P:=P) (w:=w) (base:=base) T a6 S8 T1 X4 (fa:=f) (outer:=outer) (H0:=H) (E:=E) hr;obtain⟨tc2,h2,p2⟩:=Tf (P:=P) (w:=w) (base:=base) T a6 X5 M3 (fa:=f) (outer:=outer) (H0:=H) (E:=E) hr;refine⟨_,(mo (ng (i:=4) bF.nd (IN (R.fu (K:=K) rfl) rfl T.b_dict vN (li (qv rfl (js:=[none]) (N:=QZJ) (CompScope.by (aD bN) QZy rfl rfl Zk) (aO rfl) (qp (K:=K) (lc 1)) (λC s₂ H₂ fp=>⟨(o0 (i:=0) (show(QZJ:List Str).Nodup by decide +kernel)),(qx (ni pi (mn (mr (K:=K)) (lc 0) ml) mq)),(nj (li (mn (mr (K:=K)) (lc 0) ml) (li (mn (mr (K:=K)) (lc 0) ml) mm)))⟩)) mm))) (mo (ng (i:=5) bF.nd (qk mm)) (mo (ng (i:=6) bF.nd (qw (R.ie (K:=K)) (qk (li mq (li mq mm))) tf (qo (my qi ml (mz a6 a7 rfl (li (lc 0) (li ml mm))))))) (mo (ng (i:=7) bF.nd (ql (R.fg (K:=K) rfl) rfl T.b_max oH (li (my wf (qv rfl (js:=[none,some 6]) (N:=["_law_row","_law_words_here"]) (CompScope.by (aD bN) QZy rfl rfl Zk) (aO rfl) (qp (K:=K) (lc 1)) (λC s₂ H₂ fp=>⟨(o0 (i:=0) (show(["_law_row","_law_words_here"]:List Str).Nodup by decide +kernel)),(qx (ni (sw (K:=K)) (mn (mr (K:=K)) (lc 0) ml) (lc 1))),(mn (mr (K:=K)) (lc 0) ml)⟩)) (qk (li ml mm))) mm))) (mo (ng (i:=8) bF.nd (ql (R.fg (K:=K) rfl) rfl T.b_max oH (li (my wf (qv rfl (js:=[none]) (N:=QZJ) (CompScope.by (aD bN) QZy rfl rfl Zk) (aO rfl) (qp (K:=K) (lc 1)) (λC s₂ H₂ fp=>⟨(o0 (i:=0) (show(QZJ:List Str).Nodup by decide +kernel)),(qx (ni pi (mn (mr (K:=K)) (lc 0) ml) mq)),(mn (mr (K:=K)) (lc 0) ml)⟩)) (qk (li ml mm))) mm))) (mo (ve PassesOwn.never rfl (R.fm rfl T.b_range (li (lc 3) mm)) (o0 (i:=9) bF.nd) (mo (ng (i:=10) bF.nd (mz a6 a7 rfl (li (lc 0) (li ml mm)))) (mo (ng (i:=8) bF.nd (my qi (lc 8) (mn (qj (K:=K)) (qk (li ml (li ml (li ml (li (mz a6 a7 rfl (li (lc 0) (li ml mm))) mm))))) (mz a6 a7 rfl (li (lc 0) (li ml mm)))))) (mv (nk (re (xz (ni R.lt (lc 10) ml) (AO (ni (R.ju (K:=K) hu) (lc 5) (qk mm)))))
   h1
   h2))))) (mv (nh (lc 1))))))))),?_⟩
  refine bY (λσ' H'=>∃(bk:TD)(kvs:List (aT×V)),σ'=[some (.ref d),some (.ref ra),some (.ref lm),some (.int (many:Int)),some (.ref bk),none,none,none,none,none,none,none,none,none]/\H bk=none/\H' bk=some (.dK kvs)/\BookIs kvs (dY G7)/\kvs.length<=13/\Same H H') (λnx b6=>?_) ?_
  ·refine⟨ra,rfl,⟨_,QYL R0.lst⟩,?_⟩;refine aV (aX K ra (HF.map V.ref)) (by rw[aS];omega) (λi ys H'=>∃zs:List W,ys=zs.map (λz=>V.ref z.1)/\WAt H' zs/\zs.map (·.2)=cN (G7.take i)/\Same H H'/\zs.length<=i) (λi ys H' ⟨zs,e,_,_,s',l'⟩=>⟨QYL (s' _ _ R0.lst),by rw[e,aS];exact l'⟩) ⟨[],rfl,(λ_ h=>nomatch h),rfl,(λ_ _ e=>e),aY _⟩ (?_) (?_)
   ·rintro i x ys H' hx ⟨zs,e,hw,ez,s',l'⟩;obtain⟨a,r,rfl,ha,v9,d8⟩:=(R0.same s').get hx;obtain⟨xs,g,x0,x1,x2⟩:=eX d8;have i8:=aL v9;dsimp only [aJ];refine⟨_,QYM g,_,x0,?_⟩;show if decide (bP r="has")=true then _ else _
    refine bG (λh=>?_) (λh=>?_)
    ·obtain⟨z,m,rfl⟩:=Bg (UV h);refine⟨_,QYM g,_,x1,_,QYM g,_,x2 nofun,aN rfl,λtp H2 s2 g2=>?_⟩;refine⟨zs++[(tp,(Sum.inr z,.int (m:Int)))],by rw[e,dJ];rfl,λy hy=>?_,?_,s'.trans s2,by simp;omega⟩
     ·rcases aH hy with hy|rfl
      ·exact s2 _ _ (hw y hy)
      ·exact g2
     ·rw[dJ,ez,i8,rM];rfl
    ·refine⟨zs,e,hw,?_,s',Zo⟩;rw[ez,i8,rM,Gw (UF h),append_nil]
   ·rintro ys H' ⟨zs,e,hw,ez,s',l'⟩;intro p hp;have gp:(aI H' p (.lst ys)) p=some (.lst (zs.map λz=>V.ref z.1)):=by rw[aA,e]
    have s1:Same H (aI H' p (.lst ys)):=s'.trans (aF hp);have RN:WAt (aI H' p (.lst ys)) zs:=λz hz=>aP (hw z hz) hp
    generalize aI H' p (.lst ys)=H1 at gp s1 RN;rw[aS]at l';refine⟨zs,QYL gp,RN,Zo,λbk RP=>?_⟩;refine b6 _ _ ⟨bk,_,rfl,s1.free RP,aA,?_,?_,s1.trans (aF RP)⟩
    ·rw[ez,aS,<- MW,iB (aY _)];exact dF G7 [] _ (λz=>rfl)
    ·have:=dR (zs.map (·.2)) [];rw[aS]at this;simp at this;omega
  rintro σ' H1 ⟨bk,Q9,rfl,fbk,HG,MX,lk0,s1⟩;have f1:=(Fw.refl dk).same s1;refine⟨eT rfl,λul CM=>?_⟩;have ful:=s1.free CM;have nbu:bk≠ul:=aE HG CM;have f2:=f1.new (o:=.lst []) CM;have JR:(aI H1 ul (.lst [])) ul=some (.lst []):=aA;replace HG:=aP (u:=.lst []) HG CM;dsimp only [aJ];generalize aI H1 ul (.lst [])=H2 at f2 JR HG;refine bY (λσ' H'=>∃(wa:TD)(wz:List Str),σ'=[some (.ref d),some (.ref ra),some (.ref lm),some (.int (many:Int)),some (.ref bk),some (.ref ul),some (.ref wa),none,none,none,none,none,none,none]/\H' wa=some (.lst (wz.map V.str))/\(wz=[("kept":Str)]∨wz=[("kept":Str),"next"])/\wa≠d/\wa≠b/\Fw d b H2 H') (λnx b6=>?_) ?_
  ·refine⟨eT rfl,λp hp=>⟨d,b,2,rfl,f2.dk.new hp,Zd,Zd,λr H3 r0 r1 D3 k3=>?_⟩⟩;have pd:=f2.dk.ne hp;have F3:=((Fw.refl f2.dk).new (o:=.lst [.str "kept",.str "next"]) hp).draw D3 k3;have gp:=k3 p _ aA pd.1 pd.2;rcases(by omega:r=0∨r=1) with rfl|rfl
   ·refine⟨_,QYL gp,λwa CN=>b6 _ _ ⟨wa,["kept"],rfl,aA,.inl rfl,(F3.dk.ne CN).1,(F3.dk.ne CN).2,F3.new CN⟩⟩
   ·refine⟨_,QYL gp,λwa CN=>b6 _ _ ⟨wa,["kept","next"],rfl,aA,.inr rfl,(F3.dk.ne CN).1,(F3.dk.ne CN).2,F3.new CN⟩⟩
  rintro σ' H3 ⟨wa,wz,rfl,ZF,CO,nwd,nwb,F3⟩;have f3:=f2.trans F3;have R3:=R0.keep f3.tk (f3.get R0.lst JP JQ);refine bY (λσ' H'=>∃(num:Nat),σ'=[some (.ref d),some (.ref ra),some (.ref lm),some (.int (many:Int)),some (.ref bk),some (.ref ul),some (.ref wa),some (.int (num:Int)),none,none,none,none,none,none]/\num<=900006/\(∀n t p k x y,.kept n t p k x y∈G7->n<=num)/\Fw d b H2 H') (λnx b6=>?_) ?_
  ·refine⟨ra,rfl,⟨_,QYL R3.lst⟩,?_⟩;refine aV (aX K ra (HF.map V.ref)) (by rw[aS];omega) (λi ys H'=>H'=H3/\∃ns:List Nat,ys=ns.map (λn:Nat=>V.int (n:Int))/\ns.length<=i/\(∀n∈ns,n<=900006)/\∀n t p k x y,.kept n t p k x y∈G7.take i->n∈ns) (λi ys H' ⟨e0,ns,e,l',_⟩=>⟨by rw[e0];exact QYL R3.lst,by rw[e,aS];exact l'⟩) ⟨rfl,[],rfl,aY _,(λ_ h=>nomatch h),(λ_ _ _ _ _ _ h=>nomatch h)⟩ (?_) (?_)
   ·rintro i x ys H' hx ⟨e0,ns,e,l',t7,Q4⟩;subst e0;obtain⟨a,r,rfl,ha,v9,d8⟩:=R3.get hx;obtain⟨xs,g,x0,x1,x2⟩:=eX d8;have i8:=aL v9;have HH:r∈G7:=kI v9;dsimp only [aJ];refine⟨_,QYM g,_,x0,wa,_,rfl,.inl (QYL ZF),rfl,by rcases CO with rfl|rfl<;>rfl,?_⟩;have yes:∀n:Nat,Nm r=.int (n:Int)->n<=900006->(∀n' t p k x y,.kept n' t p k x y∈G7.take (i+1)->n'∈ns++[n])->(∃xs,SqT K H' a xs/\∃v,mU xs 1=some v/\(H'=H'/\∃ui:List Nat,ys++[v]=ui.map (λn:Nat=>V.int (n:Int))/\ui.length<=i+1/\(∀n∈ui,n<=900006)/\∀n t p k x y,.kept n t p k x y∈G7.take (i+1)->n∈ui)):=λn e1 hn JS=>by
     refine⟨_,QYM g,_,x1,rfl,ns++[n],by rw[e,dJ,e1];rfl,by simp;omega,λm hm=>?_,JS⟩;rcases aH hm with hm|rfl
     ·exact t7 m hm
     ·exact hn
    have no:(∀n' t p k x y,r≠.kept n' t p k x y)->H'=H'/\∃ui:List Nat,ys=ui.map (λn:Nat=>V.int (n:Int))/\ui.length<=i+1/\(∀n∈ui,n<=900006)/\∀n t p k x y,.kept n t p k x y∈G7.take (i+1)->n∈ui:=λv7=>by
     refine⟨rfl,ns,e,Zo,t7,λn t p k x y hm=>?_⟩;rw[i8]at hm;rcases aH hm with hm|hm
     ·exact Q4 _ _ _ _ _ _ hm
     ·exact QZY hm.symm (v7 _ _ _ _ _ _)
    show if mM (.str (bP r)) (wz.map V.str)=true then _ else _
    cases r with
    | kept n t p k x y=>
     refine Fq (by rcases CO with rfl|rfl<;>rfl) ?_;refine yes n rfl ?_ (λn' t' p' k' x' y' hm=>?_)
     ·have h1:=yk.ok _ HH;have:∃n0 t0,RX.next n0 t0∈G7/\n<n0:=Bf yk.wh HH;obtain⟨n0,t0,HI,q9⟩:=this;have:=yk.nx _ _ HI;omega
     ·rw[i8]at hm;rcases aH hm with hm|hm
      ·exact QZW _ (Q4 _ _ _ _ _ _ hm)
      ·cases hm;exact QZV _ eV
    | next n t=>
     rcases CO with rfl|rfl
     ·exact vO rfl (no (λ_ _ _ _ _ _ z=>nomatch z))
     ·refine Fq rfl (yes n rfl (yk.nx _ _ HH).1 (λn' t' p' k' x' y' hm=>?_));rw[i8]at hm;rcases aH hm with hm|hm
      ·exact QZW _ (Q4 _ _ _ _ _ _ hm)
      ·cases hm
    | has z m=>exact vO (by rcases CO with rfl|rfl<;>rfl) (no (λ_ _ _ _ _ _ z=>nomatch z))
    | came n t p k x=>exact vO (by rcases CO with rfl|rfl<;>rfl) (no (λ_ _ _ _ _ _ z=>nomatch z))
    | asked n=>exact vO (by rcases CO with rfl|rfl<;>rfl) (no (λ_ _ _ _ _ _ z=>nomatch z))
    | done n t y=>exact vO (by rcases CO with rfl|rfl<;>rfl) (no (λ_ _ _ _ _ _ z=>nomatch z))
   ·rintro ys H' ⟨e0,ns,e,l',t7,Q4⟩;subst e0;intro p hp;rw[aS]at l' Q4;rw[<- MW,iB (aY _)]at Q4;refine⟨eT rfl,λp2 C5=>⟨_,_,aP aA C5,aA,by rw[e,aS];exact gB (by simp;omega),λp3 Q3=>?_⟩⟩;refine⟨p3,(ns.map (λn:Nat=>(n:Int)))++[0],rfl,QYL (by rw[aA,e,dJ,map_map];rfl),Zs,λmx yg K7=>?_⟩;have nn:∃m:Nat,mx=m/\m<=900006:=by
     rcases Zma.mp yg with h|h
     ·obtain⟨n,hn,rfl⟩:=Zmm.mp h;exact⟨n,rfl,t7 n hn⟩
     ·rw[Zms.mp h];exact⟨0,rfl,Zo⟩
    obtain⟨m,rfl,hm⟩:=nn;refine b6 _ _ ⟨m,rfl,hm,λn t p' k x y hh=>?_,((F3.new hp).new C5).new Q3⟩;have:=K7 (n:Int) (QZW _ (mem_map_of_mem (Q4 _ _ _ _ _ _ hh)));omega
  rintro σ' H4 ⟨num,rfl,ZG,ZH,F4⟩;have f4:=f2.trans F4;have R4:=R0.keep f4.tk (f4.get R0.lst JP JQ);refine bY (λσ' H'=>∃(turn:Nat),σ'=[some (.ref d),some (.ref ra),some (.ref lm),some (.int (many:Int)),some (.ref bk),some (.ref ul),some (.ref wa),some (.int (num:Int)),some (.int (turn:Int)),none,none,none,none,none]/\turn<500000000000/\(∀n t,.next n t∈G7->t<=turn)/\Fw d b H2 H') (λnx b6=>?_) ?_
  ·refine⟨ra,rfl,⟨_,QYL R4.lst⟩,?_⟩;refine aV (aX K ra (HF.map V.ref)) (by rw[aS];omega) (λi ys H'=>H'=H4/\∃ns:List Nat,ys=ns.map (λn:Nat=>V.int (n:Int))/\ns.length<=i/\(∀n∈ns,n<500000000000)/\∀n t,.next n t∈G7.take i->t∈ns) (λi ys H' ⟨e0,ns,e,l',_⟩=>⟨by rw[e0];exact QYL R4.lst,by rw[e,aS];exact l'⟩) ⟨rfl,[],rfl,aY _,(λ_ h=>nomatch h),(λ_ _ h=>nomatch h)⟩ (?_) (?_)
   ·rintro i x ys H' hx ⟨e0,ns,e,l',t7,Q4⟩;subst e0;obtain⟨a,r,rfl,ha,v9,d8⟩:=R4.get hx;obtain⟨xs,g,x0,x1,x2⟩:=eX d8;have i8:=aL v9;have HH:r∈G7:=kI v9;dsimp only [aJ];refine⟨_,QYM g,_,x0,?_⟩;show if decide (bP r="next")=true then _ else _
    refine bG (λh=>?_) (λh=>?_)
    ·obtain⟨n,t,rfl⟩:=qB (UV h);refine⟨_,QYM g,_,x2 nofun,rfl,ns++[t],by rw[e,dJ];rfl,by simp;omega,λm hm=>?_,λn' t' hm=>?_⟩
     ·rcases aH hm with hm|rfl
      ·exact t7 m hm
      ·exact(yk.nx _ _ HH).2
     ·rw[i8]at hm;rcases aH hm with hm|hm
      ·exact QZW _ (Q4 _ _ hm)
      ·cases hm;exact QZV _ eV
    ·refine⟨rfl,ns,e,Zo,t7,λn' t' hm=>?_⟩;rw[i8]at hm;rcases aH hm with hm|hm
     ·exact Q4 _ _ hm
     ·subst hm;exact QZY rfl (UF h)
   ·rintro ys H' ⟨e0,ns,e,l',t7,Q4⟩;subst e0;intro p hp;rw[aS]at l' Q4;rw[<- MW,iB (aY _)]at Q4;refine⟨eT rfl,λp2 C5=>⟨_,_,aP aA C5,aA,by rw[e,aS];exact gB (by simp;omega),λp3 Q3=>?_⟩⟩;refine⟨p3,(ns.map (λn:Nat=>(n:Int)))++[0],rfl,QYL (by rw[aA,e,dJ,map_map];rfl),Zs,λmx yg K7=>?_⟩;have nn:∃m:Nat,mx=m/\m<500000000000:=by
     rcases Zma.mp yg with h|h
     ·obtain⟨n,hn,rfl⟩:=Zmm.mp h;exact⟨n,rfl,t7 n hn⟩
     ·rw[Zms.mp h];exact⟨0,rfl,Zo⟩
    obtain⟨m,rfl,hm⟩:=nn;refine b6 _ _ ⟨m,rfl,hm,λn t hh=>?_,((F4.new hp).new C5).new Q3⟩;have:=K7 (t:Int) (QZW _ (mem_map_of_mem (Q4 _ _ hh)));omega
  rintro σ' H5 ⟨turn,rfl,RQ,ZI,F5⟩;have f5:=f2.trans F5;have R5:=R0.keep f5.tk (f5.get R0.lst JP JQ);have JI:=dk.ne fbk;have RS:=dk.ne ful;have L5:LvH H d b ra bk ul H5 G7 HF Q9 (dY G7) []:=⟨dk,⟨_,R0.lst⟩,fbk,ful,(λ_ h=>nomatch h),⟨JP,JQ⟩,nbu,(λ_ h=>nomatch h),nodup_nil,f5.dk,R5,F5.get HG JI.1 JI.2,MX,F5.get JR RS.1 RS.2,(λ_ h=>nomatch h),λc o e n1 n2 _=>f5.get e n1 n2⟩;have P5:=LvP.start (num:=num) (turn:=turn) yk ZH ZI (Gv yk.ok);refine bY (λσ' H'=>∃(rs:List RX)(as:List TD)(kvs:List (aT×V))(f:Str->Nat)(us:List Un)(num turn:Nat)(o9 X3 ny oy oz:Option V),σ'=[some (.ref d),some (.ref ra),some (.ref lm),some (.int (many:Int)),some (.ref bk),some (.ref ul),some (.ref wa),some (.int (num:Int)),some (.int (turn:Int)),o9,X3,ny,oy,oz]/\LvH H d b ra bk ul H' rs as kvs f us/\LvP rs f num turn us/\rs.length<=43) (λnx b6=>?_) ?_
  ·refine⟨(many:Int),rfl,Zo,Zo,?_⟩;have em:(many:Int).toNat=many:=by omega
   refine dU (gP 0 (many:Int).toNat) (Zp H d b ra lm bk ul wa many) (λ_ _ _ _=>trivial)
    ⟨G7,HF,Q9,dY G7,[],num,turn,_,_,_,_,_,rfl,L5,P5,Zo,Zo,Zo,Zo,aY _⟩ ?_ ?_
   ·rintro i x σ' H6 hx ⟨rs,as,kvs,f,us,num,turn,o9,X3,ny,oy,oz,rfl,L6,P6,l1,l2,l3,l4,l5⟩;obtain⟨rfl,hi⟩:=rF hx;rw[em]at hi;dsimp only [aJ];refine⟨d,b,4,rfl,L6.dk,Zd,Zd,λway H7 w0 w1 D7 k7=>?_⟩;obtain⟨way,rfl⟩:=gN w0;have L7:=L6.fw ((Fw.refl L6.dk).draw D7 k7);dsimp only [aJ];refine bY (λσ' H'=>∃(turn':Nat),σ'=[some (.ref d),some (.ref ra),some (.ref lm),some (.int (many:Int)),some (.ref bk),some (.ref ul),some (.ref wa),some (.int (num:Int)),some (.int (turn':Int)),some (.int (i:Int)),some (.int (way:Int)),ny,oy,oz]/\turn<=turn'/\turn'<=turn+9/\LvH H d b ra bk ul H' rs as kvs f us) (λGZ A0=>?_) ?_
    ·refine⟨d,b,9,rfl,L7.dk,Zd,Zd,λr8 H8 x0 x1 D8 k8=>⟨eT rfl,λp hp=>⟨d,b,4,rfl,D8.new hp,Zd,Zd,λr9 H9 y0 y1 D9 k9=>?_⟩⟩⟩;obtain⟨r8,rfl⟩:=gN x0;have y9:=D8.ne hp;have gp:=k9 p _ aA y9.1 y9.2;have L9:=L7.fw ((((Fw.refl L7.dk).draw D8 k8).new hp).draw D9 k9);rcases aBv y0 y1 with rfl|rfl|rfl|rfl
     ·refine⟨_,QYL gp,_,rfl,A0 _ _ ⟨turn,?_,Zo,Zo,L9⟩⟩;rw[show(turn:Int)=(turn:Int)+0 by omega];rfl
     ·refine⟨_,QYL gp,_,rfl,A0 _ _ ⟨turn,?_,Zo,Zo,L9⟩⟩;rw[show(turn:Int)=(turn:Int)+0 by omega];rfl
     ·exact⟨_,QYL gp,_,rfl,A0 _ _ ⟨turn+1,rfl,Zo,Zo,L9⟩⟩
     ·exact⟨_,QYL gp,_,rfl,A0 _ _ ⟨turn+r8,rfl,Zo,Zo,L9⟩⟩
    ·rintro σ' H8 ⟨turn',rfl,t1,t2,L8⟩;have P8:=P6.turn' t1;refine Mn (λv H'=>LvH H d b ra bk ul H' rs as kvs f us/\(v=false->us≠[])) (λk hk=>?_) ?_ ?_
     ·refine bG (λ_=>hk _ _ ⟨L8,nofun⟩) (λ_=>?_);refine⟨eT rfl,λp hp=>⟨ul,p,_,rfl,rfl,QYL (aP L8.und hp),QYL aA,?_⟩⟩;refine hk _ _ ⟨L8.fw ((Fw.refl L8.dk).new hp),λe z=>?_⟩;subst z;cases e
     ·rintro H9 ⟨L9,hv⟩;exact p1 _ H H9 d b ra lm bk ul wa M many i way num turn turn' rs as kvs f us ny oy oz hM oD oB oR Zo L9 P8 l1 l2 l3 l4 l5 t1 t2 (λ_ _ h=>h)
     ·rintro H9 ⟨L9,hv⟩;exact p2 _ H H9 d b ra lm bk ul wa M many i way num turn turn' rs as kvs f us ny oy oz hM oD oB oR Zo L9 P8 l1 l2 l3 l4 l5 t1 t2 (hv rfl) (λ_ _ h=>h)
   ·rintro σ' H6 ⟨rs,as,kvs,f,us,num,turn,o9,X3,ny,oy,oz,rfl,L6,P6,l1,l2,l3,l4,l5⟩;rw[iP]at l1;exact b6 _ _ ⟨rs,as,kvs,f,us,num,turn,o9,X3,ny,oy,oz,rfl,L6,P6,Zo⟩
  rintro σ' H6 ⟨rs,as,kvs,f,us,num,turn,o9,X3,ny,oy,oz,rfl,L6,P6,l1⟩;exact q rs as f H6 L6.rows P6.wh P6.ok P6.lv l1 L6.dk L6.fr
def iR:RX->aT|.next n _=>Sum.inl (n:Int)|.has z _=>Sum.inr z|.kept n _ _ _ _ _=>Sum.inl (n:Int)|.came n _ _ _ _=>Sum.inl (n:Int)|.asked n=>Sum.inl (n:Int)|.done n _ _=>Sum.inl (n:Int)
def Zq(r:RX):Nm r=kV (iR r):=by cases r<;>rfl
def kA(wd:Str)(r:RX)(a:TD):List (aT×V):=if bP r=wd then [(iR r,.ref a)] else []
def bS(wd:Str)(rs:List RX)(as:List TD):Nat->List (aT×V)
 | 0=>[]
 | i+1=>bS wd rs as i++(match rs[i]?,as[i]? with|some r,some a=>kA wd r a|_,_=>[])
def jC{wd:Str}{rs:List RX}{as:List TD}{i:Nat}{r:RX}{a:TD}(h1:rs[i]?=some r)(h2:as[i]?=some a):bS wd rs as (i+1)=bS wd rs as i++kA wd r a:=by
 simp only [bS,h1,h2]
def rN(wd:Str)(rs:List RX)(as:List TD):∀i,(bS wd rs as i).length<=i
 | 0=>aY _
 | i+1=>by
  have:=rN wd rs as i;unfold bS;rw[mO];split
  ·unfold kA;split<;>simp<;>omega
  ·simp;omega
def rO{wd:Str}{rs:List RX}{as:List TD}{k:aT}{v:V}:∀ {i:Nat},(k,v)∈bS wd rs as i->∃j r a,j<i/\rs[j]?=some r/\as[j]?=some a/\bP r=wd/\k=iR r/\v=.ref a
 | 0,h=>nomatch h
 | i+1,h=>by
  unfold bS at h;rcases Zma.mp h with h|h
  ·obtain⟨j,r,a,h1,h2⟩:=rO h;exact⟨j,r,a,Zo,h2⟩
  ·split at h
   ·rename_i r a e1 e2;unfold kA at h;split at h
    ·rename_i e3;have:=Zms.mp h;injection this with h1 h2
     exact⟨i,r,a,lt_succ_self _,e1,e2,e3,h1,h2⟩
    ·cases h
   ·cases h
def yU{wd:Str}{rs:List RX}{as:List TD}{j:Nat}{r:RX}{a:TD}(h1:rs[j]?=some r)(h2:as[j]?=some a)(h3:bP r=wd):∀ {i:Nat},j<i->(iR r,V.ref a)∈bS wd rs as i
 | 0,h=>nomatch h
 | i+1,h=>by
  by_cases e:j=i
  ·subst e;rw[jC h1 h2];refine QZV _ ?_;unfold kA;rw[P0 h3];exact eV
  ·unfold bS;exact QZW _ (yU h1 h2 h3 Zo)
def Bh(kvs l:List (aT×V))(k:aT)(v:V):aM kvs (l++[(k,v)])=bJ (aM kvs l) k v:=by unfold aM;rw[foldl_append];rfl
def mK{k:aT}{v:V}:∀ {l kvs:List (aT×V)},bA (aM kvs l) k=some v->(k,v)∈l∨bA kvs k=some v
 | [],kvs,h=>.inr h
 | (k',v')::l,kvs,h=>by
  have h':bA (aM (bJ kvs k' v') l) k=some v:=h;rcases mK h' with h1|h1
  ·exact .inl (iV _ h1)
  ·rw[cW]at h1;by_cases e:k=k'
   ·rw[P0 e]at h1;injection h1 with h1
    rw[<- h1,e];exact .inl eV
   ·rw[QZZ e]at h1;exact .inr h1
def yV{k:aT}:∀ {l kvs:List (aT×V)},(k∈l.map (·.1)∨∃v,bA kvs k=some v)->∃v,bA (aM kvs l) k=some v
 | [],kvs,h=>by
  rcases h with h|h
  ·cases h
  ·exact h
 | (k',v')::l,kvs,h=>by
  refine yV (l:=l) (kvs:=bJ kvs k' v') ?_;rcases h with h|⟨v,h⟩
  ·rcases mem_cons.mp h with h|h
   ·right
    rw[cW,P0 h];exact⟨_,rfl⟩
   ·exact .inl h
  ·right
   rw[cW];split
   ·exact⟨_,rfl⟩
   ·exact⟨v,h⟩
def rP{wd:Str}{rs:List RX}{as:List TD}(hl:rs.length=as.length){r:RX}(hm:r∈rs)(hw:bP r=wd):∃(j:Nat)(r':RX)(a:TD),bA (aM [] (bS wd rs as rs.length)) (iR r)=some (.ref a)/\rs[j]?=some r'/\as[j]?=some a/\bP r'=wd/\iR r=iR r':=by
 obtain⟨j,hj,ej⟩:=getElem_of_mem hm;have h1:rs[j]?=some r:=by rw[eZ hj,ej]
 have h2:as[j]?=some as[j]:=eZ Zo;have h3:=yU h1 h2 hw hj;obtain⟨v,hv⟩:=yV (kvs:=[]) (k:=iR r) (l:=bS wd rs as rs.length) (.inl (mem_map_of_mem h3));rcases mK hv with h4|h4
 ·obtain⟨j',r',a',_,g1,g2,g3,g4,g5⟩:=rO h4;rw[g5]at hv;exact⟨j',r',a',hv,g1,g2,g3,g4⟩
 ·cases h4
def wI:Sp:=λvs H Q _=>∃(ra:TD)(wd:Str)(rs:List RX)(as:List TD),vs=[.ref ra,.str wd]/\RxsAt H ra rs as/\rs.length<=100/\∀(p:TD)(H':Hp),H p=none->H' p=some (.dK (aM [] (bS wd rs as rs.length)))->Same H H'->Q (.ref p) H'
def tE(D:DefAt K mg "by_numbers" gG QZs):aG P w K mg base 1 "by_numbers" QZs wI:=by
 refine D.go iW (λvs H Q E h=>?_) (λf cdv A outer s H vs Q E hr h=>?_)
 ·obtain⟨ra,wd,rs,as,rfl,_⟩:=h;rfl
 ·obtain⟨ra,wd,rs,as,rfl,RR,hl,q⟩:=h;have d6:=dP hr;have le:=RR.len;refine⟨_,(mo (ng (i:=2) iW.nd K5) (mo (ve PassesOwn.never rfl (qp (K:=K) (lc 0)) (o0 (i:=3) iW.nd) (mv (nk (ni pi (mn (mr (K:=K)) (lc 3) ml) (lc 1)) (mv (tz (lc 3) (uc (lc 2) (mn (mr (K:=K)) (lc 3) ml) (wl d6)))) nw))) (mv (nh (lc 2))))),?_⟩;refine λp hp=>?_;have nr:p≠ra:=(aE RR.lst hp).symm;dsimp only [aJ];refine bY (λσ' H'=>∃o3,σ'=[some (.ref ra),some (.str wd),some (.ref p),o3]/\H' p=some (.dK (aM [] (bS wd rs as rs.length)))/\Same H H') (λnx b6=>?_) ?_
  ·refine⟨ra,rfl,⟨_,QYL (aP RR.lst hp)⟩,dU (aX K ra (as.map V.ref)) (λi σ' H'=>∃o3,σ'=[some (.ref ra),some (.str wd),some (.ref p),o3]/\H' p=some (.dK (aM [] (bS wd rs as i)))/\Same H H') (λi σ' H' ⟨_,_,_,s'⟩=>QYL (s' _ _ RR.lst))
    ⟨_,rfl,aA,aF hp⟩ ?_ ?_⟩
   ·rintro i x σ' H1 hx ⟨o3,rfl,g1,s1⟩;obtain⟨a,r,rfl,ha,v9,d8⟩:=(RR.same s1).get hx;obtain⟨xs,g,x0,x1,x2⟩:=eX d8;have hi:=(Zgs.mp ha).1;have ln:=rN wd rs as i;have lm:=dR (bS wd rs as i) [];dsimp only [aJ];refine⟨_,QYM g,_,x0,?_⟩;show if decide (bP r=wd)=true then _ else _
    refine bG (λh=>?_) (λh=>?_)
    ·have dp:DPut H1 p (Nm r) (.ref a) (aI H1 p (.dK (bJ (aM [] (bS wd rs as i)) (iR r) (.ref a)))):=by
      rw[Zq];exact DPut.k g1 (nS (m:=1000) (by simp at lm;omega) Zd)
     refine⟨_,QYM g,_,x1,p,_,rfl,dp,?_⟩
     ·refine⟨_,rfl,?_,bV hp s1⟩;rw[aA,jC v9 ha];unfold kA;rw[P0 (UV h),Bh]
    ·refine⟨_,rfl,?_,s1⟩;rw[jC v9 ha];unfold kA;rw[QZZ (UF h),append_nil];exact g1
   ·rintro σ' H1 ⟨o3,rfl,g1,s1⟩;rw[aS,<- le]at g1;exact b6 _ _ ⟨o3,rfl,g1,s1⟩
  ·rintro σ' H1 ⟨o3,rfl,g1,s1⟩;exact q p H1 hp g1 s1
def Do:Sp:=λvs H Q _=>∃a b c:Int,vs=[.int a,.int b,.int c]/\Q (.bl (decide (c<a+b))) H
def Nq(D:DefAt K mg "is_alive" jO QZw):aG P w K mg base 1 "is_alive" QZw Do:=by
 refine D.go yD (λvs H Q E h=>?_) (λf cdv A outer s H vs Q E hr h=>?_)
 ·obtain⟨a,b,c,rfl,_⟩:=h;rfl
 ·obtain⟨a,b,c,rfl,q⟩:=h;refine⟨_,(mv (nh (qm NE (my qi (lc 0) (lc 1)) (lc 2)))),?_⟩;exact q
def wJ(T:Txt K mg)(a6:aG P w K mg base 1 "_law_draw" QZP bT)(CP:aG P w K mg base 5 "_law_head" QZL qA)(D:DefAt K mg "_law_some_head" dW QZL):aG P w K mg base 6 "_law_some_head" QZL qA:=by
 refine D.go fB (λvs H Q E h=>?_) (λf cdv A outer s H vs Q E hr h=>?_)
 ·obtain⟨d,b,lm,M,rfl,_⟩:=h;rfl
 ·obtain⟨d,b,lm,M,rfl,dk,hM,hd,hb,q⟩:=h;have a7:Room 1 _:=hr.mono Zd;have CQ:Room 5 _:=hr.mono Zd;refine⟨_,(mo (ng (i:=2) fB.nd (qk mm)) (mo (nk (ni pi (mz a6 a7 rfl (li (lc 0) (li ml mm))) ml) (mv (ng (i:=2) fB.nd (mz CP CQ rfl (li (lc 0) (li (lc 1) mm))))) nw) (mv (nh (lc 2))))),?_⟩;refine⟨eT rfl,λp hp=>?_⟩;have f1:=(Fw.refl dk).new (o:=.lst []) hp;have g1:(aI H p (.lst [])) p=some (.lst []):=aA;dsimp only [aJ];generalize aI H p (.lst [])=H1 at f1 g1;refine⟨d,b,2,rfl,f1.dk,Zd,Zd,λr H2 r0 r1 D2 k2=>?_⟩;have f2:=f1.draw D2 k2;have F2:=(Fw.refl f1.dk).draw D2 k2;refine bG (λ_=>?_) (λ_=>?_)
  ·refine⟨d,b,lm,M,rfl,D2,f2.menus hd hb hM,hd,hb,λra rs as H3 fr R hk f3=>?_⟩;exact q ra rs as H3 (f2.free fr) R hk (f2.trans f3)
  ·have pd:=dk.ne hp;exact q p [] [] H2 hp (.nil (F2.get g1 pd.1 pd.2)) ⟨.nil,(λ_ h=>nomatch h),(λ_ h=>nomatch h),zero_le _,(λ_ _ h=>nomatch h)⟩ f2
def eE{rs:List RX}(h:RX.Whole rs){n t t':Nat}{p k p' k':Str}{x x':Dd}(h1:.came n t p k x∈rs)(h2:.came n t' p' k' x'∈rs):RX.came n t p k x=.came n t' p' k' x':=by
 induction h with
 | nil=>cases h1
 | snoc hw hf ih=>
  rcases aH h1 with h1|h1
  ·rcases aH h2 with h2|h2
   ·exact ih h1 h2
   ·rw[<- h2]at hf;exact QZY (hf.1 _ _ _ _ _ h1) (lt_irrefl _)
  ·rcases aH h2 with h2|h2
   ·rw[<- h1]at hf;exact QZY (hf.1 _ _ _ _ _ h2) (lt_irrefl _)
   ·rw[h1,h2]
def fF{rs:List RX}(h:RX.Whole rs){n t:Nat}{y:An}(h1:.done n t y∈rs):∃t0 p k x,RX.came n t0 p k x∈rs/\An.Of x y:=by
 induction h with
 | nil=>cases h1
 | snoc hw hf ih=>
  rcases aH h1 with h1|h1
  ·obtain⟨t0,p,k,x,h2,h3⟩:=ih h1;exact⟨t0,p,k,x,QZW _ h2,h3⟩
  ·rw[<- h1]at hf;obtain⟨_,_,t0,p,k,x,h2,h3,_⟩:=hf;exact⟨t0,p,k,x,QZW _ h2,h3⟩
def iU{r:RX}(h:bP r="came"):∃n t p k x,r=.came n t p k x:=by
 cases r with
 | came n t p k x=>exact⟨n,t,p,k,x,rfl⟩
 | has z m=>exact QZY (show("has":Str)="came" from h) Zk
 | next n t=>exact QZY (show("next":Str)="came" from h) Zk
 | kept n t p k x y=>exact QZY (show("kept":Str)="came" from h) Zk
 | asked n=>exact QZY (show("asked":Str)="came" from h) Zk
 | done n t y=>exact QZY (show("done":Str)="came" from h) Zk
def nN{r:RX}(h:bP r="done"):∃n t y,r=.done n t y:=by
 cases r with
 | done n t y=>exact⟨n,t,y,rfl⟩
 | has z m=>exact QZY (show("has":Str)="done" from h) Zk
 | next n t=>exact QZY (show("next":Str)="done" from h) Zk
 | kept n t p k x y=>exact QZY (show("kept":Str)="done" from h) Zk
 | asked n=>exact QZY (show("asked":Str)="done" from h) Zk
 | came n t p k x=>exact QZY (show("came":Str)="done" from h) Zk
def lA(rs:List RX)(r:RX)(h:bP r≠"has"):dY (rs++[r])=dY rs:=by
 unfold dY;rw[foldl_append];cases r<;>first|rfl|exact QZY rfl h
structure RepF(rs:List RX)(F:Nat->Str->Nat)(f:Str->Nat):Prop where
 z:F 0=dY rs
 done:∀i n t y,rs[i]?=some (.done n t y)->∃t0 p k x q,.came n t0 p k x∈rs/\jZ (F i) x q y/\F (i+1)=after (F i) x y
 rest:∀i r,rs[i]?=some r->bP r≠"done"->F (i+1)=F i
 last:F rs.length=f
def jD{α:Type}{xs:List α}{x y:α}{i:Nat}(h:(xs++[x])[i]?=some y):(i<xs.length/\xs[i]?=some y)∨(i=xs.length/\y=x):=by
 rcases Nat.lt_or_ge i xs.length with z|z
 ·rw[List.getElem?_append_left z]at h;exact .inl ⟨z,h⟩
 ·rw[List.getElem?_append_right z]at h;have hi:=(Zgs.mp h).1;have:i=xs.length:=by simp at hi;omega
  subst this;rw[Nat.sub_self]at h;cases h;exact .inr ⟨rfl,rfl⟩
def Gx{rs:List RX}{f:Str->Nat}(h:kZ rs f):∃F,RepF rs F f:=by
 induction h with
 | head h=>exact⟨λ_=>dY _,rfl,λi n t y e=>QZY (h.rk _ (kI e)) (by show ¬ (3<=2);decide),λ_ _ _ _=>rfl,rfl⟩
 | @came rs f n t p k x hl ih=>
  obtain⟨F,hF⟩:=ih;refine⟨λi=>if i<=rs.length then F i else f,?_,λi n' t' y' e=>?_,λi r e hr=>?_,?_⟩
  ·show(if 0<=rs.length then F 0 else f)=_;rw[P0 (zero_le _),hF.z,lA rs (.came n t p k x) (show("came":Str)≠"has" by decide +kernel)]
  ·rcases jD e with⟨hi,e⟩|⟨_,e⟩
   ·obtain⟨t0,p0,k0,x0,q,h1,h2,h3⟩:=hF.done i n' t' y' e;refine⟨t0,p0,k0,x0,q,QZW _ h1,?_,?_⟩
    ·rw[P0 (le_of_lt hi)];exact h2
    ·rw[P0 (le_of_lt hi),P0 Zo];exact h3
   ·cases e
  ·rcases jD e with⟨hi,e⟩|⟨hi,e⟩
   ·rw[P0 (le_of_lt hi),P0 Zo];exact hF.rest i r e hr
   ·subst hi;rw[QZZ Zo,P0 (aY _),hF.last]
  ·show(if (rs++[_]).length<=rs.length then _ else f)=f;rw[QZZ Zs]
 | @asked rs f n hl ih=>
  obtain⟨F,hF⟩:=ih;refine⟨λi=>if i<=rs.length then F i else f,?_,λi n' t' y' e=>?_,λi r e hr=>?_,?_⟩
  ·show(if 0<=rs.length then F 0 else f)=_;rw[P0 (zero_le _),hF.z,lA rs (.asked n) (show("asked":Str)≠"has" by decide +kernel)]
  ·rcases jD e with⟨hi,e⟩|⟨_,e⟩
   ·obtain⟨t0,p0,k0,x0,q,h1,h2,h3⟩:=hF.done i n' t' y' e;refine⟨t0,p0,k0,x0,q,QZW _ h1,?_,?_⟩
    ·rw[P0 (le_of_lt hi)];exact h2
    ·rw[P0 (le_of_lt hi),P0 Zo];exact h3
   ·cases e
  ·rcases jD e with⟨hi,e⟩|⟨hi,e⟩
   ·rw[P0 (le_of_lt hi),P0 Zo];exact hF.rest i r e hr
   ·subst hi;rw[QZZ Zo,P0 (aY _),hF.last]
  ·show(if (rs++[_]).length<=rs.length then _ else f)=f;rw[QZZ Zs]
 | @done rs f n t t0 p k x q y hl hc hy ih=>
  obtain⟨F,hF⟩:=ih;refine⟨λi=>if i<=rs.length then F i else after f x y,?_,λi n' t' y' e=>?_,λi r e hr=>?_,?_⟩
  ·show(if 0<=rs.length then F 0 else _)=_;rw[P0 (zero_le _),hF.z,lA rs (.done n t y) (show("done":Str)≠"has" by decide +kernel)]
  ·rcases jD e with⟨hi,e⟩|⟨hi,e⟩
   ·obtain⟨t0,p0,k0,x0,q,h1,h2,h3⟩:=hF.done i n' t' y' e;refine⟨t0,p0,k0,x0,q,QZW _ h1,?_,?_⟩
    ·rw[P0 (le_of_lt hi)];exact h2
    ·rw[P0 (le_of_lt hi),P0 Zo];exact h3
   ·injection e with e1 e2 e3
    subst e1 e2 e3 hi;refine⟨t0,p,k,x,q,QZW _ hc,?_,?_⟩
    ·rw[P0 (aY _),hF.last];exact hy
    ·rw[QZZ Zo,P0 (aY _),hF.last]
  ·rcases jD e with⟨hi,e⟩|⟨hi,e⟩
   ·rw[P0 (le_of_lt hi),P0 Zo];exact hF.rest i r e hr
   ·subst e;exact QZY rfl hr
  ·show(if (rs++[_]).length<=rs.length then _ else after f x y)=_;rw[QZZ Zs]
def aCw:RX->Bool|.done _ _ _=>true|_=>false
def hW:RX->Bool|.came _ _ _ _ _=>true|_=>false
def bW(rs:List RX):List Nat:=rs.filterMap λr=>match r with|.done n _ _=>some n|_=>none
def bL(rs:List RX):List Nat:=rs.filterMap λr=>match r with|.came n _ _ _ _=>some n|_=>none
def gU{rs:List RX}{n:Nat}(h:n∈bW rs):∃t y,.done n t y∈rs:=by
 obtain⟨r,hr,e⟩:=mem_filterMap.mp h;cases r<;>cases e;exact⟨_,_,hr⟩
def lO{rs:List RX}{n t:Nat}{p k:Str}{x:Dd}(h:.came n t p k x∈rs):n∈bL rs:=mem_filterMap.mpr ⟨_,h,rfl⟩
def rQ{rs:List RX}(h:RX.Whole rs):(bW rs).Nodup:=by
 induction h with
 | nil=>exact nodup_nil
 | @snoc rs r hw hf ih=>
  unfold bW at ih ⊢;rw[QZS];cases r with
  | done n t y=>
   refine nodup_append.mpr ⟨ih,Zs,λa ha b hb=>?_⟩;have t7:b=n:=by simpa using hb
   subst t7;rintro rfl;obtain⟨t',y',hm⟩:=gU ha;exact hf.2.1 _ _ hm
  | _=>simpa using ih
def Bi{xs:List Nat}:∀ {ys:List Nat},xs.Nodup->(∀x∈xs,x∈ys)->xs.length<=ys.length:=by
 induction xs with
 | nil=>exact λ_ _=>zero_le _
 | cons x r ih=>
  intro ys hn h;obtain⟨h1,h2⟩:=nodup_cons.mp hn;have hx:=h x eV;have:=ih (ys:=ys.erase x) h2 λy hy=>(List.mem_erase_of_ne (λe=>h1 (by rw[<- e];exact hy))).mpr (h y (iV _ hy))
  rw[List.length_erase_of_mem hx]at this;have hp:0<ys.length:=List.length_pos_of_mem hx;rw[qE];omega
def yW(rs:List RX):(cN rs).length+(bW rs).length+(bL rs).length<=rs.length:=by
 induction rs with
 | nil=>exact aY _
 | cons r rs ih=>
  unfold cN bW bL at ih ⊢;cases r<;>simp only [QZR,qE]<;>omega
def Gy{rs:List RX}(h:RX.Whole rs):(cN rs).length+2*(bW rs).length<=rs.length:=by
 have h1:=yW rs;have h2:=Bi (rQ h) (ys:=bL rs) λn hn=>by
  obtain⟨t,y,hm⟩:=gU hn;obtain⟨t0,p,k,x,hc,_⟩:=fF h hm;exact lO hc
 omega
def Bj(rs:List RX)(i:Nat):(bW (rs.take i)).length<=(bW rs).length:=by
 unfold bW;exact((take_sublist i rs).filterMap _).length_le
def Vd:Dd->List (Str×Int)
 | .add a n=>[(a,(n:Int))]
 | .take a n=>[(a,-(n:Int))]
 | .move a b n=>[(a,-(n:Int)),(b,(n:Int))]
 | .send _ a n=>[(a,-(n:Int))]
 | .fetch _ a n=>[(a,(n:Int))]
 | .pass _ _ _ _=>[]
def Nr{x:Dd}{y:An}(hy:An.Of x y)(h:tD y="is"):uG x y=Vd x:=by
 rcases rH h with⟨m,rfl⟩|⟨l,m,rfl⟩<;>cases x<;>first|rfl|exact hy.elim
def Zr{x:Dd}{y:An}(h:tD y≠"is"):uG x y=[]:=by cases x<;>cases y<;>first|rfl|exact QZY rfl h
def Dp:Sp:=λvs H Q _=>∃(t:TD)(x:Dd),vs=[.ref t]/\H t=some (.tup x.vs)/\∀(tp:TD)(zs:List Z)(H':Hp),Same H H'->H' tp=some (.tup (eF zs))->ZAt H' zs->zs.map (·.2)=Vd x->Q (.ref tp) H'
def pP(T:Txt K mg)(D:DefAt K mg "done_changes" eK QZN):aG P w K mg base 1 "done_changes" QZN Dp:=by
 refine D.go pO (λvs H Q E h=>?_) (λf cdv A outer s H vs Q E hr h=>?_)
 ·obtain⟨t,x,rfl,_⟩:=h;rfl
 ·obtain⟨p,x,rfl,hp,q⟩:=h;refine⟨_,(mo (nk (ni pi (mn (mr (K:=K)) (lc 0) ml) mq) (mv (nh (nj mm))) nw) (mo (nk (ni pi (mn (mr (K:=K)) (lc 0) ml) mq) (mv (nh (nj (li (nj (li (mn (mr (K:=K)) (lc 0) ml) (li (qr (mn (mr (K:=K)) (lc 0) (qr ml))) mm))) (li (nj (li (mn (mr (K:=K)) (lc 0) ml) (li (mn (mr (K:=K)) (lc 0) (qr ml)) mm))) mm))))) nw) (mo (nk (ni (sw (K:=K)) (mn (mr (K:=K)) (lc 0) ml) (nj (li mq (li mq mm)))) (mv (nh (nj (li (nj (li (mn (mr (K:=K)) (lc 0) (qr ml)) (li (qr (mn (mr (K:=K)) (lc 0) (qr ml))) mm))) mm)))) nw) (mv (nh (nj (li (nj (li (mn (mr (K:=K)) (lc 0) (qr ml)) (li (mn (mr (K:=K)) (lc 0) (qr ml)) mm))) mm))))))),?_⟩;have z1:∀ {H':Hp}{a:TD}{x:Str}{i:Int},H' a=some (.tup [.str x,.int i])->ZAt H' [(a,x,i)]:=λh z hz=>by
   rw[Zms.mp hz];exact h
  cases x with
  | add a n=>
   refine⟨_,QYM hp,_,rfl,_,QYM hp,_,rfl,_,QYM hp,_,rfl,aN rfl,λp1 H1 s1 g1=>⟨p1,_,rfl,.inr (QYM g1),rfl,rfl,?_⟩⟩;exact⟨_,QYM (s1 _ _ hp),_,rfl,_,QYM (s1 _ _ hp),_,rfl,aN rfl,λp2 H2 s2 g2=>⟨aN rfl,λp3 H3 s3 g3=>q p3 [(p2,a,(n:Int))] H3 ((s1.trans s2).trans s3) g3 (z1 (s3 _ _ g2)) rfl⟩⟩
  | take a n=>
   refine⟨_,QYM hp,_,rfl,_,QYM hp,_,rfl,_,QYM hp,_,rfl,aN rfl,λp1 H1 s1 g1=>⟨p1,_,rfl,.inr (QYM g1),rfl,rfl,?_⟩⟩;exact⟨_,QYM (s1 _ _ hp),_,rfl,_,QYM (s1 _ _ hp),_,rfl,aN rfl,λp2 H2 s2 g2=>⟨aN rfl,λp3 H3 s3 g3=>q p3 [(p2,a,-(n:Int))] H3 ((s1.trans s2).trans s3) g3 (z1 (s3 _ _ g2)) rfl⟩⟩
  | send h a n=>
   refine⟨_,QYM hp,_,rfl,_,QYM hp,_,rfl,_,QYM hp,_,rfl,aN rfl,λp1 H1 s1 g1=>⟨p1,_,rfl,.inr (QYM g1),rfl,rfl,?_⟩⟩;exact⟨_,QYM (s1 _ _ hp),_,rfl,_,QYM (s1 _ _ hp),_,rfl,aN rfl,λp2 H2 s2 g2=>⟨aN rfl,λp3 H3 s3 g3=>q p3 [(p2,a,-(n:Int))] H3 ((s1.trans s2).trans s3) g3 (z1 (s3 _ _ g2)) rfl⟩⟩
  | fetch h a n=>
   refine⟨_,QYM hp,_,rfl,_,QYM hp,_,rfl,_,QYM hp,_,rfl,aN rfl,λp1 H1 s1 g1=>⟨p1,_,rfl,.inr (QYM g1),rfl,rfl,?_⟩⟩;exact⟨_,QYM (s1 _ _ hp),_,rfl,_,QYM (s1 _ _ hp),_,rfl,aN rfl,λp2 H2 s2 g2=>⟨aN rfl,λp3 H3 s3 g3=>q p3 [(p2,a,(n:Int))] H3 ((s1.trans s2).trans s3) g3 (z1 (s3 _ _ g2)) rfl⟩⟩
  | move a b n=>
   refine⟨_,QYM hp,_,rfl,_,QYM hp,_,rfl,_,QYM hp,_,rfl,_,QYM hp,_,rfl,aN rfl,λp2 H2 s2 g2=>⟨_,QYM (s2 _ _ hp),_,rfl,_,QYM (s2 _ _ hp),_,rfl,aN rfl,λp3 H3 s3 g3=>⟨aN rfl,λp4 H4 s4 g4=>?_⟩⟩⟩;refine q p4 [(p2,a,-(n:Int)),(p3,b,(n:Int))] H4 ((s2.trans s3).trans s4) g4 (λz hz=>?_) rfl;rcases mem_cons.mp hz with rfl|hz
   ·exact s4 _ _ (s3 _ _ g2)
   ·rw[Zms.mp hz];exact s4 _ _ g3
  | pass h g a n=>
   refine⟨_,QYM hp,_,rfl,?_⟩;exact⟨aN rfl,λp1 H1 s1 g1=>q p1 [] H1 s1 g1 (λ_ h=>nomatch h) rfl⟩
def Ve:Sp:=λvs H Q _=>∃(t c:TD)(x:Dd)(y:An),vs=[.ref t,.ref c]/\H t=some (.tup x.vs)/\H c=some (.tup y.vs)/\An.Of x y/\∀(tp:TD)(zs:List Z)(H':Hp),Same H H'->H' tp=some (.tup (eF zs))->ZAt H' zs->zs.map (·.2)=uG x y->Q (.ref tp) H'
def tF(T:Txt K mg)(T2:aG P w K mg base 1 "done_changes" QZN Dp)(D:DefAt K mg "changes_of" gC QZu):aG P w K mg base 2 "changes_of" QZu Ve:=by
 refine D.go sW (λvs H Q E h=>?_) (λf cdv A outer s H vs Q E hr h=>?_)
 ·obtain⟨t,c,x,y,rfl,_⟩:=h;rfl
 ·obtain⟨t,c,x,y,rfl,gt,gc,hy,q⟩:=h;have P7:=hr;refine⟨_,(mo (nk (ni R.ne (mn (mr (K:=K)) (lc 1) ml) mq) (mv (nh (nj mm))) nw) (mv (nh (mz T2 P7 rfl (li (lc 0) mm))))),?_⟩;refine⟨_,QYM gc,_,Vb y,?_⟩;show if (!decide (tD y="is"))=true then _ else _
  by_cases hw:tD y="is"
  ·refine vO (by rw[T8 hw];rfl) ?_;exact⟨t,x,rfl,gt,λtp zs H' s' g z e=>q tp zs H' s' g z (by rw[e,Nr hy hw])⟩
  ·refine Fq (by rw[T0 hw];rfl) ?_;exact⟨aN rfl,λp1 H1 s1 g1=>q p1 [] H1 s1 g1 (λ_ h=>nomatch h) (by rw[Zr hw];rfl)⟩
def Nt{C:TD}(T:Txt K mg)(B:BkT K C)(D:ClsAt K mg "Book" C "Book.__init__" cF QZB [[],[.non]]):∀d∈([[],[.non]]:List (List V)),Ym P w K mg base 1 "Book" C QZB d (Cu C):=by
 refine D.go oN (λvs H Q E h=>?_) (λf cdv A outer s H vs Q E hr h=>?_)
 ·obtain⟨p,dx,r,prs,rfl,_⟩:=h;rfl
 ·obtain⟨p,dx,r,prs,rfl,hp,hR,nd,hz,q⟩:=h;refine⟨_,(mo (xt (K:=K) (lc 0) K5) (mv (nk (ni R.ii (lc 1) AT) (mv (xt (K:=K) (lc 0) (IN (R.fu (K:=K) rfl) rfl T.b_dict vN (li (lc 1) mm)))) nw))),?_⟩;intro d1 EK;have np:=aE hp EK;refine⟨C,dx,[],(by rw[aB np];exact hp),B.cl,B.nA,(by show 0<1000;decide),?_⟩;have g1:(aI (aI H d1 (.dK [])) p (.ins C dx [("amounts",.ref d1)])) p=some (.ins C dx [("amounts",.ref d1)]):=aA;have g2:(aI (aI H d1 (.dK [])) p (.ins C dx [("amounts",.ref d1)])) d1=some (.dK []):=by rw[aB np.symm];exact aA
  have k1:∀b o,H b=some o->b≠p->(aI (aI H d1 (.dK [])) p (.ins C dx [("amounts",.ref d1)])) b=some o:=λb o e hb=>by rw[aB hb,aB (aE e EK)];exact e
  dsimp only;rw[aCr];generalize aI (aI H d1 (.dK [])) p (.ins C dx [("amounts",.ref d1)])=H1 at g1 g2 k1;rcases hR with⟨rfl,rfl⟩|⟨l,zs,rfl,hl,CS,rfl⟩
  ·exact q H1 d1 EK g1 g2 k1
  ·have nl:l≠p:=cV hl hp nofun;have MY:ZAt H1 zs:=λz hz=>k1 _ _ (CS z hz) (cV (CS z hz) hp nofun)
   refine⟨wz zs,by rw[Yo];exact QYL (k1 _ _ hl nl),aBp MY,by unfold wz;rw[aS];simpa using hz,λd hd=>?_⟩;have yk:H d=none:=by
    cases e:H d with
    | none=>rfl
    | some o=>
     by_cases z:d=p
     ·rw[z,g1]at hd;cases hd
     ·rw[k1 d o e z]at hd;cases hd
   rw[Yp,uA nd];refine⟨C,dx,_,(by rw[aB (aE g1 hd)];exact g1),B.cl,B.nA,(by show 1<1000;decide),?_⟩;refine q _ d yk (by rw[aA,put1]) (by rw[aB (aE g1 hd).symm];exact aA) λb o e hb=>?_;rw[aB hb,aB (aE (k1 b o e hb) hd)];exact k1 b o e hb
def wK{C:TD}(B:BkT K C)(D:MethAt K C "amount" "Book.amount" fI QZt):sF P w K mg base 1 C "amount" QZt (qW C):=by
 refine D.go rC (λvs H Q E h=>?_) (λf cdv A outer s H vs Q E hr h=>?_)
 ·obtain⟨p,n,prs,rfl,_⟩:=h;rfl
 ·obtain⟨p,n,prs,rfl,bk,q⟩:=h;have d6:=dP hr;obtain⟨dx,d,h1,h2⟩:=bk.ex;refine⟨_,(mv (nh (PP d6 (qu (K:=K) (lc 0)) (lc 1) ml))),?_⟩;refine⟨C,dx,_,.ref d,h1,B.cl,B.nA,fP _,d,rfl,.inl ⟨_,.inl h2⟩,_,DGet.k (k:=Sum.inr n) h2,?_⟩;rw[pV];exact q
def Bk{C:TD}(T:Txt K mg)(B:BkT K C)(D:MethAt K C "rows" "Book.rows" fR QZK):sF P w K mg base 1 C "rows" QZK (xS C):=by
 refine D.go wC (λvs H Q E h=>?_) (λf cdv A outer s H vs Q E hr h=>?_)
 ·obtain⟨p,prs,rfl,_⟩:=h;rfl
 ·obtain⟨p,prs,rfl,bk,hz,q⟩:=h;have d6:=dP hr;obtain⟨dx,d,h1,h2⟩:=bk.ex;refine⟨_,(mv (nh (qv rfl (js:=[none,some 0]) (N:=["name","self"]) (CompScope.by (aD fR) QZK rfl rfl Zk) (aO rfl) (qp (K:=K) (ql (R.im rfl) rfl T.b_sorted lE (li (qu (K:=K) (lc 0)) mm))) (λC s₂ H₂ fp=>⟨(o0 (i:=0) (show(["name","self"]:List Str).Nodup by decide +kernel)),(qx (ni NE (tj d6 (qu (K:=K) (lc 1)) (lc 0)) ml)),(R.jh (li (lc 0) (li (tj d6 (qu (K:=K) (lc 1)) (lc 0)) mm)))⟩)))),?_⟩;refine⟨C,dx,_,.ref d,h1,B.cl,B.nA,fP _,prs.map (·.1),_,.inl h2,qV prs,by rw[aS];exact hz,λl hl=>⟨l,rfl,⟨_,QYL aA⟩,?_⟩⟩;have s1:Same H (aI H l (.lst ((mD (prs.map (·.1))).map V.str))):=aF hl;have g1:(aI H l (.lst ((mD (prs.map (·.1))).map V.str))) l=some (.lst ((mD (prs.map (·.1))).map V.str)):=aA;generalize aI H l (.lst ((mD (prs.map (·.1))).map V.str))=H1 at s1 g1;have hlen:(mD (prs.map (·.1))).length<64:=by rw[lF,aS];exact hz
  refine aV (aX K l ((mD (prs.map (·.1))).map V.str)) (by rw[aS];omega) (λi ys H'=>∃zs:List Z,ys=eF zs/\Same H1 H'/\ZAt H' zs/\zs.length<=i/\zs.map (·.2)=(((mD (prs.map (·.1))).take i).filter λn=>decide (0<mF prs n)).map λn=>(n,mF prs n))
   (λi ys H' ⟨zs,e,s',_,ue,_⟩=>⟨QYL (s' _ _ g1),by rw[e];unfold eF;rw[aS];exact ue⟩) ⟨[],rfl,Same.refl _,(λ_ h=>nomatch h),aY _,rfl⟩ (λi x ys H' hx ⟨zs,e,s',CS,RT,CI⟩=>?_) (λys H' ⟨zs,e,s',CS,RT,CI⟩=>?_)
  ·rw[fA]at hx;cases hn:(mD (prs.map (·.1)))[i]? with
   | none=>rw[hn]at hx;cases hx
   | some n=>
    rw[hn]at hx;cases hx;have CT:n∈prs.map (·.1):=(hJ _).mem_iff.mp (kI hn);obtain⟨a,ha⟩:=mG CT;have ea:mF prs n=a:=by unfold mF;rw[ha];rfl
    have gd:∀K6,Same H1 K6->DGet K6 d (.str n) (some (.int a)):=λK6 BO=>by
     have:=DGet.k (k:=Sum.inr n) (BO  _ _ (s1 _ _ h2));rw[pU,ha]at this;exact this
    have G9:=s' _ _ (s1 _ _ h1);refine⟨C,dx,_,.ref d,G9,B.cl,B.nA,fP _,d,_,rfl,gd H' s',?_⟩;refine bG (λhb=>?_) (λhb=>?_)
    ·have t7:0<a:=by simpa using hb
     refine⟨C,dx,_,.ref d,G9,B.cl,B.nA,fP _,d,_,rfl,gd H' s',eT rfl,λt ht=>⟨zs++[(t,n,a)],by rw[e];unfold eF;rw[dJ];rfl,s'.trans (aF ht),?_,by rw[mO];simpa using RT,?_⟩⟩
     ·intro z GK;rcases Zma.mp GK with m|m
      ·exact(CS.same (aF ht)) z m
      ·rw[Zms.mp m];exact aA
     ·rw[dJ,CI,aL hn,filter_append,dJ];congr 1;rw[filter_cons,P0 (by rw[ea];exact T8 t7)];rw[<- ea];rfl
    ·have t7:¬ 0<a:=by simpa using hb
     refine⟨zs,e,s',CS,Zo,?_⟩;rw[CI,aL hn,filter_append,filter_cons,QZZ (by rw[ea];simpa using t7)];simp
  ·intro l2 x9;subst e;refine q l2 zs _ (s1.trans (s'.trans (aF x9))) ?_ aA (CS.same (aF x9)) ?_
   ·exact s1.free (s'.free x9)
   ·rw[CI,aS,List.take_length];rfl
def oP(prs:List (Str×Int))(n:Str)(v:Int):List (Str×Int):=if n∈prs.map (·.1) then Mb prs n v else prs++[(n,v)]
def pQ:List (Str×Int)->List (Str×Int)->List (Str×Int)
 | prs,[]=>prs
 | prs,q::r=>pQ (oP prs q.1 (mF prs q.1+q.2)) r
def uH:∀(cs prs:List (Str×Int))(q:Str×Int),pQ prs (cs++[q])=oP (pQ prs cs) q.1 (mF (pQ prs cs) q.1+q.2)
 | [],_,_=>rfl
 | p::r,prs,q=>uH r _ q
def yX{prs:List (Str×Int)}{n:Str}{v:Int}:bJ (mN prs) (Sum.inr n) (.int v)=mN (oP prs n v):=by
 unfold oP;by_cases h:n∈prs.map (·.1)
 ·rw[P0 h];exact Sd h
 ·rw[QZZ h];have hv:bA (mN prs) (Sum.inr n)=none:=by
   cases e:bA (mN prs) (Sum.inr n) with
   | none=>rfl
   | some x=>
    have:=Cf e;rw[qV]at this;obtain⟨m,hm,e2⟩:=Zmm.mp this;cases e2;exact QZY hm h
  rw[kM _ hv];unfold mN;rw[dJ];rfl
def uI{prs:List (Str×Int)}{n:Str}{v:Int}:(oP prs n v).map (·.1)=if n∈prs.map (·.1) then prs.map (·.1) else prs.map (·.1)++[n]:=by
 unfold oP;by_cases h:n∈prs.map (·.1)
 ·rw[P0 h,P0 h];exact Gd _ _ _
 ·rw[QZZ h,QZZ h,dJ];rfl
def Th{prs:List (Str×Int)}{n:Str}{v:Int}(h:(prs.map (·.1)).Nodup):((oP prs n v).map (·.1)).Nodup:=by
 rw[uI];split
 ·exact h
 ·rename_i hn;exact vI h hn
def wM:∀(cs prs:List (Str×Int)),(prs.map (·.1)).Nodup->((pQ prs cs).map (·.1)).Nodup
 | [],_,h=>h
 | _::r,_,h=>wM r _ (Th h)
def Vf(prs:List (Str×Int))(q:Str×Int):Prop:=0<=mF prs q.1+q.2/\mF prs q.1+q.2<=1000000000000
def wN{H:Hp}{zs:List Z}{i:Nat}{x:V}(hz:ZAt H zs)(hx:(eF zs)[i]?=some x):∃z,zs[i]?=some z/\x=.ref z.1/\H z.1=some (.tup [.str z.2.1,.int z.2.2]):=by
 unfold eF at hx;rw[fA]at hx;obtain⟨z,hn,rfl⟩:=Option.map_eq_some_iff.mp hx;exact⟨z,hn,rfl,hz z (kI hn)⟩
def rR:∀(cs prs:List (Str×Int)),(pQ prs cs).length<=prs.length+cs.length
 | [],prs=>aY _
 | q::r,prs=>by
  have h:=rR r (oP prs q.1 (mF prs q.1+q.2));have h2:(oP prs q.1 (mF prs q.1+q.2)).length<=prs.length+1:=by
   have:=congrArg length (uI (prs:=prs) (n:=q.1) (v:=mF prs q.1+q.2));rw[aS]at this;rw[this];split<;>simp
  show(pQ (oP prs q.1 (mF prs q.1+q.2)) r).length<=_;rw[qE];omega
def uJ(C:TD):Sp:=λvs H Q E=>∃(p dx d t:TD)(prs:List (Str×Int))(zs:List Z),vs=[.ref p,.ref t]/\H p=some (.ins C dx [("amounts",.ref d)])/\H d=some (.dK (mN prs))/\(prs.map (·.1)).Nodup/\H t=some (.tup (eF zs))/\ZAt H zs/\prs.length+zs.length<=100 ∧
 (∀q∈zs.map (·.2),Vf prs q)/\∀H',H' d=some (.dK (mN (pQ prs (zs.map (·.2)))))->(∀b o,H b=some o->b≠d->H' b=some o)->Q .non H'
def Bl{C:TD}(T:Txt K mg)(B:BkT K C)(J2:sF P w K mg base 1 C "amount" QZt (qW C))(D:MethAt K C "change" "Book.change" fJ QZl):sF P w K mg base 2 C "change" QZl (uJ C):=by
 refine D.go dE (λvs H Q E h=>?_) (λf cdv A outer s H vs Q E hr h=>?_)
 ·obtain⟨p,dx,d,t,prs,zs,rfl,_⟩:=h;rfl
 ·obtain⟨p,dx,d,t,prs,zs,rfl,hp,hd,nd,ht,hz,hl,hg,Q0⟩:=h;have C7:=hr;have d6:=dP hr;have ZJ:(eF zs).length=zs.length:=by unfold eF;rw[aS]
  refine⟨_,(mo (ve PassesOwn.never rfl (R.ic (K:=K) (lc 1)) (FM (K:=K) (n:=2) rfl (qt (o0 (i:=2) dE.nd) (qt (o0 (i:=3) dE.nd) FS))) (mv (nk (ut (R.je R.le R.le ml (my qi (AN J2 C7 (lc 0) (li (lc 2) mm)) (lc 3)) (R.gI rfl T.g_MOST))) (mv R.ik) nw))) (mv (ve PassesOwn.never rfl (R.ic (K:=K) (lc 1)) (FM (K:=K) (n:=2) rfl (qt (o0 (i:=2) dE.nd) (qt (o0 (i:=3) dE.nd) FS))) (mv (tz (my qi (AN J2 C7 (lc 0) (li (lc 2) mm)) (lc 3)) (uc (qu (K:=K) (lc 0)) (lc 2) (wl d6))))))),?_⟩;refine bY (λσ' H'=>H'=H/\∃o2 o3,σ'=[some (.ref p),some (.ref t),o2,o3]) (λnx b6=>?_) ?_
  ·refine⟨t,rfl,⟨_,QYM ht⟩,dU (vP K t (eF zs)) (λi σ H'=>H'=H/\∃o2 o3,σ=[some (.ref p),some (.ref t),o2,o3]) (λi σ H' ⟨e,_⟩=>by rw[e];exact QYM ht) ⟨rfl,_,_,rfl⟩ ?_ (λσ H' h=>b6 σ H' h)⟩;rintro i x σ H' hx ⟨rfl,o2,o3,rfl⟩;obtain⟨z,hn,rfl,gz⟩:=wN hz hx;have RU:=hg z.2 (mem_map_of_mem (kI hn));refine⟨z.1,_,rfl,QYM gz,rfl,_,_,rfl,_,_,rfl,rfl,dx,_,hp,vV _ Zk,p,z.2.1,prs,rfl,⟨⟨dx,d,hp,hd⟩,nd⟩,?_⟩;refine Fq (T8 RU.1) ?_;show if (!decide (mF prs z.2.1+z.2.2<=1000000000000))=true then _ else _
   refine vO (by rw[T8 RU.2];rfl) ?_;exact⟨rfl,_,_,rfl⟩
  ·rintro σ H' ⟨rfl,o2,o3,rfl⟩;have ZK:t≠d:=cV ht hd nofun;refine⟨t,rfl,⟨_,QYM ht⟩,dU (vP K t (eF zs)) (λi σ K6=>K6 d=some (.dK (mN (pQ prs ((zs.map (·.2)).take i))))/\(∀b o,H' b=some o->b≠d->K6 b=some o)/\∃o2 o3,σ=[some (.ref p),some (.ref t),o2,o3]) (λi σ K6 ⟨_,k,_⟩=>QYM (k _ _ ht ZK)) ⟨hd,λb o e _=>e,_,_,rfl⟩ ?_ ?_⟩
   ·rintro i x σ K6 hx ⟨g,k,o2,o3,rfl⟩;obtain⟨z,hn,rfl,gz⟩:=wN (λz m=>k _ _ (hz z m) (cV (hz z m) hd nofun)) hx;have T3:(zs.map (·.2))[i]?=some z.2:=by rw[fA,hn];rfl
    have GJ:=k _ _ hp (cV hp hd nofun);have ZL:=wM ((zs.map (·.2)).take i) prs nd;have hle:=rR ((zs.map (·.2)).take i) prs;have ZM:((zs.map (·.2)).take i).length<=zs.length:=by rw[nU,aS];exact min_le_right _ _
    refine⟨z.1,_,rfl,QYM gz,rfl,_,_,rfl,_,_,rfl,rfl,dx,_,GJ,vV _ Zk,p,z.2.1,pQ prs ((zs.map (·.2)).take i),rfl,⟨⟨dx,d,GJ,g⟩,ZL⟩,?_⟩;refine⟨C,dx,_,.ref d,GJ,B.cl,B.nA,fP _,d,_,rfl,DPut.k (k:=Sum.inr z.2.1) g ?_,?_,λb o e hb=>?_,_,_,rfl⟩
    ·unfold mN;rw[aS];exact nS (m:=1000) Zo Zd
    ·rw[aA,yX,aL T3,uH]
    ·rw[aB hb];exact k b o e hb
   ·rintro σ K6 ⟨g,k,o2,o3,rfl⟩;refine Q0 _ ?_ k;rw[g,ZJ,iB (by rw[aS];exact aY _)]
def Nu:RX->Prop|.has _ m=>m<=1000000000000|.came _ _ _ _ d=>d.Ok|_=>True
def Zt{r:RX}(h:r.Ok):Nu r:=by
 cases r with
 | has z m=>exact h.2.2
 | came n t p k d=>exact h.2.2.2.2.2
 | _=>trivial
def Bm{rs:List RX}(h:∀r∈rs,Nu r)(z:Str):dY rs z<=1000000000000:=by
 have:∀(rs:List RX)(f:Str->Nat),(∀r∈rs,Nu r)->(∀z,f z<=1000000000000)->∀z,rs.foldl (λf r=>match r with|.has z m=>dX f z m|_=>f) f z<=1000000000000:=by
  intro rs;induction rs with
  | nil=>exact λf _ hf=>hf
  | cons r rs ih=>
   intro f h hf z;rw[foldl_cons];refine ih _ (λr hr=>h r (iV _ hr)) ?_ z
   cases r with
   | has y m=>exact iQ hf (h _ eV)
   | _=>exact hf
 exact this rs _ h (λ_=>zero_le _) z
def RepF.leS{rs:List RX}{F:Nat->Str->Nat}{f:Str->Nat}(h:RepF rs F f)(ok:∀r∈rs,Nu r):∀i,i<=rs.length->∀z,F i z<=1000000000000
 | 0,_,z=>by rw[h.z];exact Bm ok z
 | i+1,hi,z=>by
  have ih:=h.leS ok i Zo;obtain⟨r,hr⟩:∃r,rs[i]?=some r:=⟨rs[i],eZ Zo⟩;by_cases e:bP r="done"
  ·obtain⟨n,t,y,rfl⟩:=nN e;obtain⟨t0,p,k,x,q,_,h2,h3⟩:=h.done i n t y hr;rw[h3];exact yO ih h2 z
  ·rw[h.rest i r hr e];exact ih z
def eU(rs:List RX):List (Str×Int):=rs.filterMap λr=>match r with|.has z m=>some (z,(m:Int))|_=>none
def oQ:∀rs:List RX,cN rs=mN (eU rs)
 | []=>rfl
 | r::rs=>by
  have ih:=oQ rs;unfold cN eU mN at ih ⊢;cases r<;>simp only [QZR,map_cons]<;>first|exact ih|rw[ih]
def yY(rs:List RX):(eU rs).length=(cN rs).length:=by rw[oQ];unfold mN;rw[aS]
def Nv{rs:List RX}{z:Str}{m:Int}(h:(z,m)∈eU rs):∃m',.has z m'∈rs:=by
 obtain⟨r,hr,e⟩:=mem_filterMap.mp h;cases r<;>cases e;exact⟨_,hr⟩
def wO{rs:List RX}(h:RX.Whole rs):((eU rs).map (·.1)).Nodup:=by
 induction h with
 | nil=>exact nodup_nil
 | @snoc rs r hw hf ih=>
  have e:eU (rs++[r])=eU rs++eU [r]:=by unfold eU;rw[QZS]
  rw[e,dJ];cases r with
  | has z m=>
   refine nodup_append.mpr ⟨ih,by simp[eU],λa ha b hb=>?_⟩;have t7:b=z:=by simpa [eU]using hb
   subst t7;rintro rfl;obtain⟨q,hq,rfl⟩:=Zmm.mp ha;obtain⟨m',hm⟩:=Nv (z:=q.1) (m:=q.2) hq;exact QZY (hf.2.2 _ _ hm) (List.lt_irrefl _)
  | _=>simpa [eU]using ih
def Nw{rs:List RX}(h:RX.Whole rs)(z:Str):mF (eU rs) z=(dY rs z:Int):=by
 have h1:=dF rs [] (λ_=>0) (λ_=>rfl) z;rw[oQ,uA (wO h),pV]at h1;injection h1
def Ny(prs:List (Str×Int))(n m:Str)(v:Int):mF (oP prs n v) m=if m=n then v else mF prs m:=by
 have h1:=pV (oP prs n v) m;rw[<- yX,cW]at h1;by_cases e:m=n
 ·rw[P0 (by rw[e])]at h1;rw[P0 e];injection h1 with h1
  exact h1.symm
 ·rw[QZZ (λc=>e (by injection c)),pV]at h1;rw[QZZ e];injection h1 with h1
  exact h1.symm
def yZ:∀(cs:List (Str×Int))(prs:List (Str×Int))(g:Str->Nat),yS g cs->(∀z,mF prs z=(g z:Int))->∀z,mF (pQ prs cs) z=(rJ g cs z:Int)
 | [],prs,g,_,h=>h
 | c::cs,prs,g,hG,h=>by
  refine yZ cs (oP prs c.1 (mF prs c.1+c.2)) (fE g c) hG.2 (λz=>?_);rw[Ny,h];unfold fE dX;by_cases e:z=c.1
  ·rw[P0 e,P0 e,Int.toNat_of_nonneg hG.1]
  ·rw[QZZ e,QZZ e];exact h z
def Nz{f:Str->Nat}(hf:∀z,f z<=1000000000000){x:Dd}{q:Bool}{y:An}(hx:x.Ok)(h:jZ f x q y):∀c∈uG x y,0<=(f c.1:Int)+c.2/\(f c.1:Int)+c.2<=1000000000000:=by
 have hn:=hx.n;rcases h with⟨rfl,h⟩|⟨rfl,h1,h2⟩
 ·cases x with
  | add a n=>
   have:=hf a;simp only [bD]at h;split at h<;>cases h
   ·exact λc hc=>nomatch hc
   ·intro c hc;rw[Zms.mp hc];exact⟨by show(0:Int)<=(f a:Int)+(n:Int);omega,by show(f a:Int)+(n:Int)<=_;omega⟩
  | take a n=>
   have:=hf a;simp only [bD]at h;split at h<;>cases h
   ·exact λc hc=>nomatch hc
   ·intro c hc;rw[Zms.mp hc];exact⟨by show(0:Int)<=(f a:Int)+-(n:Int);omega,by show(f a:Int)+-(n:Int)<=_;omega⟩
  | move a b n=>
   have:=hf a;have:=hf b;simp only [bD]at h;split at h
   ·cases h;exact λc hc=>nomatch hc
   ·split at h<;>cases h
    ·exact λc hc=>nomatch hc
    ·intro c hc;rcases mem_cons.mp hc with rfl|hc
     ·exact⟨by show(0:Int)<=(f a:Int)+-(n:Int);omega,by show(f a:Int)+-(n:Int)<=_;omega⟩
     ·rw[Zms.mp hc];exact⟨by show(0:Int)<=(f b:Int)+(n:Int);omega,by show(f b:Int)+(n:Int)<=_;omega⟩
  | send g a n=>
   simp only [bD]at h;split at h<;>cases h;exact λc hc=>nomatch hc
  | fetch g a n=>
   simp only [bD]at h;split at h<;>cases h;exact λc hc=>nomatch hc
  | pass g k a n=>cases h
 ·cases x with
  | add a n=>cases h2
  | take a n=>cases h2
  | move a b n=>cases h2
  | send g a n=>
   have:=hf a;simp only [bD]at h1;simp only [dA,mem_cons,QZT,or_false]at h2;have hh:¬ f a<n:=λhh=>by rw[P0 hh]at h1;cases h1
   rcases h2 with rfl|rfl
   ·exact λc hc=>nomatch hc
   ·intro c hc;rw[Zms.mp hc];exact⟨by show(0:Int)<=(f a:Int)+-(n:Int);omega,by show(f a:Int)+-(n:Int)<=_;omega⟩
  | fetch g a n=>
   have:=hf a;simp only [bD]at h1;simp only [dA,mem_cons,QZT,or_false]at h2;have hh:¬ 1000000000000<f a+n:=λhh=>by rw[P0 hh]at h1;cases h1
   rcases h2 with rfl|rfl
   ·exact λc hc=>nomatch hc
   ·intro c hc;rw[Zms.mp hc];exact⟨by show(0:Int)<=(f a:Int)+(n:Int);omega,by show(f a:Int)+(n:Int)<=_;omega⟩
  | pass g k a n=>
   simp only [dA,mem_cons,QZT,or_false]at h2;rcases h2 with rfl|rfl|rfl<;>exact λc hc=>nomatch hc
def Dq(C:TD):Sp:=λvs H Q _=>∃(ra:TD)(rs:List RX)(as:List TD),vs=[.ref ra]/\RxsAt H ra rs as/\rs.length<=100/\RX.Whole rs ∧
 ∀(p dx d:TD)(H':Hp),H p=none->H d=none->H' p=some (.ins C dx [("amounts",.ref d)])->H' d=some (.dK (mN (eU rs)))->Same H H'->Q (.ref p) H'
def tG{C:TD}(T:Txt K mg)(CU:Ym P w K mg base 1 "Book" C QZB [] (Cu C))(D:DefAt K mg "first_book" eN QZM):aG P w K mg base 3 "first_book" QZM (Dq C):=by
 refine D.go sZ (λvs H Q E h=>?_) (λf cdv A outer s H vs Q E hr h=>?_)
 ·obtain⟨ra,rs,as,rfl,_⟩:=h;rfl
 ·obtain⟨ra,rs,as,rfl,RR,hl,hw,q⟩:=h;have zx:Room 2 _:=hr.mono Zd;have le:=RR.len;refine⟨_,(mv (nh (R.jv CU zx rfl (li (qv rfl (js:=[none]) (N:=QZI) (CompScope.by (aD eN) QZM rfl rfl Zk) (aO rfl) (qp (K:=K) (lc 0)) (λC s₂ H₂ fp=>⟨(o0 (i:=0) (show(QZI:List Str).Nodup by decide +kernel)),(qx (ni pi (mn (mr (K:=K)) (lc 0) ml) mq)),(qw sy (lc 0) (qo ml) tf)⟩)) mm)))),?_⟩;refine⟨ra,rfl,⟨_,QYL RR.lst⟩,?_⟩;refine aV (aX K ra (as.map V.ref)) (by rw[aS];omega) (λi ys H'=>∃zs:List Z,ys=eF zs/\ZAt H' zs/\zs.map (·.2)=eU (rs.take i)/\Same H H'/\zs.length<=i) (λi ys H' ⟨zs,e,_,_,s',l'⟩=>⟨QYL (s' _ _ RR.lst),by rw[e];unfold eF;rw[aS];exact l'⟩) ⟨[],rfl,(λ_ h=>nomatch h),rfl,(λ_ _ e=>e),aY _⟩ (?_) (?_)
  ·rintro i x ys H' hx ⟨zs,e,hz,ez,s',l'⟩;obtain⟨a,r,rfl,ha,v9,d8⟩:=(RR.same s').get hx;obtain⟨xs,g,x0,x1,x2⟩:=eX d8;have i8:=aL v9;have HJ:eU (rs.take i++[r])=eU (rs.take i)++eU [r]:=by unfold eU;rw[QZS]
   dsimp only [aJ];refine⟨_,QYM g,_,x0,?_⟩;show if decide (bP r="has")=true then _ else _
   refine bG (λh=>?_) (λh=>?_)
   ·obtain⟨z,m,rfl⟩:=Bg (UV h);refine⟨_,d8,λtp H2 s2 g2=>⟨zs++[(tp,z,(m:Int))],by rw[e];unfold eF;rw[dJ];rfl,λy hy=>?_,?_,s'.trans s2,by simp;omega⟩⟩
    ·rcases aH hy with hy|rfl
     ·exact s2 _ _ (hz y hy)
     ·exact g2
    ·rw[dJ,ez,i8,HJ];rfl
   ·refine⟨zs,e,hz,?_,s',Zo⟩;rw[ez,i8,HJ];have:eU [r]=[]:=by
     cases r with
     | has z m=>exact QZY rfl (UF h)
     | _=>rfl
    rw[this,append_nil]
  ·rintro ys H' ⟨zs,e,hz,ez,s',l'⟩;intro l CL;rw[aS]at l' ez;rw[<- le,iB (aY _)]at ez;have s1:Same H (aI H' l (.lst ys)):=s'.trans (aF CL);have gl:(aI H' l (.lst ys)) l=some (.lst (eF zs)):=by rw[aA,e]
   have GN:ZAt (aI H' l (.lst ys)) zs:=λz CV=>aP (hz z CV) CL
   generalize aI H' l (.lst ys)=H1 at s1 gl GN;intro x dx hx vk v7;have sB:Same H1 (aI (aI H1 dx (.own x)) x (.ins C dx [])):=λc o e=>by
    rw[aB (aE e hx),aB (aE e vk)];exact e
   refine⟨x,dx,.ref l,zs.map (·.2),rfl,aA,.inr ⟨l,zs,rfl,sB _ _ gl,λz CV=>sB _ _ (GN z CV),rfl⟩,by rw[ez];exact wO hw,by rw[aS];omega,λH2 d hd h1 h2 k=>⟨rfl,?_⟩⟩;rw[ez]at h2;refine q x dx d H2 (s1.free hx) (s1.free (sB.free hd)) h1 h2 (λc o e=>k _ _ (sB _ _ (s1 _ _ e)) (aE (s1 _ _ e) hx))
def Dr(C:TD):Sp:=λvs H Q _=>∃(ra cd:TD)(rs:List RX)(as:List TD)(F:Nat->Str->Nat)(f:Str->Nat),vs=[.ref ra,.ref cd]/\RxsAt H ra rs as/\rs.length<=100/\(cN rs).length+2*(bW rs).length<=43/\RX.Whole rs/\(∀r∈rs,Nu r)/\RepF rs F f/\H cd=some (.dK (aM [] (bS "came" rs as rs.length))) ∧
 ∀(p dx d:TD)(prs:List (Str×Int))(H':Hp),H p=none->H d=none->H' p=some (.ins C dx [("amounts",.ref d)])->H' d=some (.dK (mN prs))->(prs.map (·.1)).Nodup->(∀z,mF prs z=(f z:Int))->prs.length<=(cN rs).length+2*(bW rs).length->Same H H'->Q (.ref p) H'
def qC{H:Hp}{ra:TD}{rs:List RX}{as:List TD}(hw:RX.Whole rs)(RR:RxsAt H ra rs as){n t:Nat}{p k:Str}{x:Dd}(hm:.came n t p k x∈rs):∃(a b:TD)(t':Nat),bA (aM [] (bS "came" rs as rs.length)) (Sum.inl (n:Int))=some (.ref a)/\H a=some (.tup [.str "came",.int (n:Int),.int (t':Int),.str p,.str k,.ref b])/\H b=some (.tup x.vs):=by
 obtain⟨j,r',a',hv,vm,U2,MZ,NA⟩:=rP RR.len hm (wd:="came") rfl;obtain⟨n',t',p',k',x',rfl⟩:=iU MZ;have en:n=n':=by
  have:(Sum.inl (n:Int):aT)=Sum.inl (n':Int):=NA;injection this with this
  omega
 subst en;have NB:=eE hw hm (kI vm);injection NB with _ _ e1 e2 e3
 subst e1;subst e2;subst e3;obtain⟨aj,rj,e0,NC,vz,CW⟩:=RR.get (i:=j) (v:=.ref a') (by rw[fA,U2];rfl);injection e0 with e0
 subst e0;rw[vm]at vz;injection vz with e0
 subst e0;obtain⟨bx,gj,ZN⟩:=CW;exact⟨a',bx,t',hv,gj,ZN⟩
def rS(rs:List RX)(r:RX):bW (rs++[r])=bW rs++bW [r]:=by unfold bW;rw[QZS]
def tH{C:TD}(T:Txt K mg)(X6:aG P w K mg base 3 "first_book" QZM (Dq C))(X7:aG P w K mg base 2 "changes_of" QZu Ve)(U5:sF P w K mg base 2 C "change" QZl (uJ C))(D:DefAt K mg "risen_book" gH QZF):aG P w K mg base 4 "risen_book" QZF (Dr C):=by
 refine D.go iX (λvs H Q E h=>?_) (λf cdv A outer s H vs Q E hr h=>?_)
 ·obtain⟨ra,cd,rs,as,F,f,rfl,_⟩:=h;rfl
 ·obtain⟨ra,cd,rs,as,F,f,rfl,RR,hl,wb,hw,hok,hF,gcd,q⟩:=h;have U6:=hr;have U7:Room 2 _:=hr.mono Zd;have T4:Room 2 _:=hr.mono Zd;have d6:=dP hr;have le:=RR.len;refine⟨_,(mo (ng (i:=2) iX.nd (mz X6 U6 rfl (li (lc 0) mm))) (mo (ve PassesOwn.never rfl (qp (K:=K) (lc 0)) (o0 (i:=3) iX.nd) (mv (nk (ni pi (mn (mr (K:=K)) (lc 3) ml) mq) (mv (ua (AN U5 T4 (lc 2) (li (mz X7 U7 rfl (li (mn (mr (K:=K)) (tj d6 (lc 1) (mn (mr (K:=K)) (lc 3) ml)) ml) (li (mn (mr (K:=K)) (lc 3) ml) mm))) mm)))) nw))) (mv (nh (lc 2))))),?_⟩;refine⟨ra,rs,as,rfl,RR,Zo,hw,λp dx d H1 fp fd gp gd s1=>?_⟩;have ZO:p≠d:=cV gp gd nofun;dsimp only [aJ];refine bY (λσ' H'=>∃(prs:List (Str×Int))(o3:Option V),σ'=[some (.ref ra),some (.ref cd),some (.ref p),o3]/\H' p=some (.ins C dx [("amounts",.ref d)])/\H' d=some (.dK (mN prs))/\(prs.map (·.1)).Nodup/\(∀z,mF prs z=(f z:Int))/\prs.length<=(cN rs).length+2*(bW rs).length/\Same H H') (λnx b6=>?_) ?_
  ·refine⟨ra,rfl,⟨_,QYL (s1 _ _ RR.lst)⟩,dU (aX K ra (as.map V.ref)) (λi σ' H'=>∃(prs:List (Str × Int))(o3:Option V),σ'=[some (.ref ra),some (.ref cd),some (.ref p),o3]/\H' p=some (.ins C dx [("amounts",.ref d)])/\H' d=some (.dK (mN prs))/\(prs.map (·.1)).Nodup/\(∀z,mF prs z=(F i z:Int))/\prs.length<=(cN rs).length+2*(bW (rs.take i)).length/\Same H H') (λi σ' H' ⟨_,_,_,_,_,_,_,_,s'⟩=>QYL (s' _ _ RR.lst))
    ⟨eU rs,_,rfl,gp,gd,wO hw,λz=>by rw[hF.z];exact Nw hw z,by rw[yY];omega,s1⟩ ?_ ?_⟩
   ·rintro i x σ' H2 hx ⟨prs,o3,rfl,ux,EL,CY,zy,ln2,s2⟩;obtain⟨a,r,rfl,ha,v9,d8⟩:=(RR.same s2).get hx;have ZP:i<rs.length:=(Zgs.mp v9).1;obtain⟨xs,g,x0,x1,x2⟩:=eX d8;have i8:=aL v9;dsimp only [aJ];refine⟨_,QYM g,_,x0,?_⟩;show if decide (bP r="done")=true then _ else _
    refine bG (λh=>?_) (λh=>?_)
    ·obtain⟨n,t,y,rfl⟩:=nN (UV h);obtain⟨cy,gr,gy⟩:=d8;obtain⟨t0,pp,kk,xd,qq,z9,hR,HK⟩:=hF.done i n t y v9;obtain⟨t0',pp',kk',xd',ND,EM⟩:=fF hw (kI v9);have NB:=eE hw z9 ND;injection NB with _ _ _ _ e5
     subst e5;have HL:xd.Ok:=hok _ z9;obtain⟨ca,cb,ct,hv,we,yl⟩:=qC hw (RR.same s2) z9;have AA:DGet H2 cd (.int (n:Int)) (some (.ref ca)):=by rw[<- hv];exact DGet.k (k:=Sum.inl (n:Int)) (s2 _ _ gcd)
     obtain⟨ea,hG⟩:=pG HL hR;have hle:=hF.leS hok i Zo;refine⟨dx,_,ux,vV _ Zk,_,QYM gr,_,rfl,cd,_,rfl,AA,_,QYM we,_,rfl,_,QYM gr,_,rfl,cb,cy,xd,y,rfl,yl,gy,EM,λtp zs H3 s3 g3 hz ez=>?_⟩;have lz:zs.length<=2:=by
      have:=congrArg length ez;rw[aS]at this;have:=wG xd y;omega
     refine⟨p,dx,d,tp,prs,zs,rfl,s3 _ _ ux,s3 _ _ EL,CY,g3,hz,?_,λqc hq=>?_,λH4 g4 k4=>?_⟩
     ·have:=Bj rs i;omega
     ·rw[ez]at hq;have:=Nz hle HL hR qc hq;unfold Vf;rw[zy];exact this
     ·rw[ez]at g4;refine⟨pQ prs (uG xd y),_,rfl,k4 _ _ (s3 _ _ ux) ZO,g4,wM _ _ CY,λz=>?_,?_,λc o e=>k4 _ _ (s3 _ _ (s2 _ _ e)) (aE e fd)⟩
      ·rw[yZ _ _ _ hG zy,ea,HK]
      ·have h1:=rR (uG xd y) prs;have h2:=wG xd y;rw[i8,rS,mO];show _<=_+2*(_+1);omega
    ·refine⟨prs,_,rfl,ux,EL,CY,λz=>?_,?_,s2⟩
     ·rw[hF.rest i r v9 (UF h)];exact zy z
     ·rw[i8,rS,mO];omega
   ·rintro σ' H2 ⟨prs,o3,rfl,ux,EL,CY,zy,ln2,s2⟩;rw[aS,<- le]at zy ln2;rw[iB (aY _)]at ln2;rw[hF.last]at zy;exact b6 _ _ ⟨prs,_,rfl,ux,EL,CY,zy,Zo,s2⟩
  ·rintro σ' H2 ⟨prs,o3,rfl,ux,EL,CY,zy,ln2,s2⟩;exact q p dx d prs H2 fp fd ux EL CY zy ln2 s2
abbrev E6:=Nat×Nat×Str×Str×Dd×An
abbrev O4:=Nat×Str×Str×Dd
def At6(H:Hp)(e:E6)(a:TD):Prop:=∃b c,H a=some (.tup [.int (e.1:Int),.int (e.2.1:Int),.str e.2.2.1,.str e.2.2.2.1,.ref b,.ref c])/\H b=some (.tup e.2.2.2.2.1.vs)/\H c=some (.tup e.2.2.2.2.2.vs)
def AtO(H:Hp)(e:O4)(a:TD):Prop:=∃b,H a=some (.tup [.int (e.1:Int),.str e.2.1,.str e.2.2.1,.ref b])/\H b=some (.tup e.2.2.2.vs)
def At6.tk{H H':Hp}(s:TK H H'){e:E6}{a:TD}(h:At6 H e a):At6 H' e a:=let ⟨b,c,h1,h2,h3⟩:=h;⟨b,c,s _ _ h1,s _ _ h2,s _ _ h3⟩
def AtO.tk{H H':Hp}(s:TK H H'){e:O4}{a:TD}(h:AtO H e a):AtO H' e a:=let ⟨b,h1,h2⟩:=h;⟨b,s _ _ h1,s _ _ h2⟩
def dG(rs:List RX)(n:Nat):Option (Str×Str×Dd):=rs.findSome? λr=>match r with|.came m _ p k x=>if m=n then some (p,k,x) else none|_=>none
def lP{rs:List RX}(hw:RX.Whole rs){n t:Nat}{p k:Str}{x:Dd}(hm:.came n t p k x∈rs):dG rs n=some (p,k,x):=by
 cases h:dG rs n with
 | none=>
  unfold dG at h;have:=List.findSome?_eq_none_iff.mp h _ hm;simp at this
 | some v=>
  unfold dG at h;obtain⟨r,hr,e⟩:=List.exists_of_findSome?_eq_some h
  cases r with
  | came m t' p' k' x'=>
   dsimp only at e;by_cases CF:m=n
   ·rw[P0 CF]at e;subst CF;have:=eE hw hm hr;injection this with _ _ e1 e2 e3
    rw[<- e,e1,e2,e3]
   ·rw[QZZ CF]at e;cases e
  | _=>cases e
def fU:RX->List E6|.kept n t p k x y=>[(n,t,p,k,x,y)]|_=>[]
def uK(rs:List RX):RX->List E6
 | .done n t y=>match dG rs n with|some (p,k,x)=>[(n,t,p,k,x,y)]|none=>[]
 | _=>[]
def cX(rs:List RX):List E6:=rs.flatMap fU++rs.flatMap (uK rs)
def bR{α β:Type}(f:α->List β)(xs:List α)(x:α):(xs++[x]).flatMap f=xs.flatMap f++f x:=by rw[flatMap_append];simp
def Oa{r:RX}(h:bP r≠"kept"):fU r=[]:=by cases r<;>first|rfl|exact QZY rfl h
def zA{rs:List RX}{r:RX}(h:bP r≠"done"):uK rs r=[]:=by cases r<;>first|rfl|exact QZY rfl h
def rT{rs:List RX}(hw:RX.Whole rs){n t t0:Nat}{p k:Str}{x:Dd}{y:An}(hm:.came n t0 p k x∈rs):uK rs (.done n t y)=[(n,t,p,k,x,y)]:=by
 show(match dG rs n with|some (p,k,x)=>[(n,t,p,k,x,y)]|none=>[])=_;rw[lP hw hm]
def Paired.append'{α β:Type}{R:α->β->Prop}{xs NF:List α}{ys AW:List β}(h:Paired R xs ys)(h':Paired R NF AW):Paired R (xs++NF) (ys++AW):=by
 induction h with
 | nil=>exact h'
 | cons a t ih=>exact .cons a ih
def Ob(rs:List RX)(f:RX->List E6)(h:∀r,(f r).length<=1):(rs.flatMap f).length<=rs.length:=by
 induction rs with
 | nil=>exact aY _
 | cons r rs ih=>have:=h r;rw[QZQ,mO,qE];omega
def Oc(r:RX):(fU r).length<=1:=by cases r<;>exact QZX rfl
def Ds:Sp:=λvs H Q _=>∃(ra cd:TD)(rs:List RX)(as:List TD),vs=[.ref ra,.ref cd]/\RxsAt H ra rs as/\rs.length<=100/\RX.Whole rs/\H cd=some (.dK (aM [] (bS "came" rs as rs.length))) ∧
 ∀(l:TD)(ls:List TD)(H':Hp),H l=none->H' l=some (.lst (ls.map V.ref))->Paired (At6 H') (cX rs) ls->Same H H'->Q (.ref l) H'
def tI(T:Txt K mg)(D:DefAt K mg "risen_kept" dM QZF):aG P w K mg base 1 "risen_kept" QZF Ds:=by
 refine D.go lW (λvs H Q E h=>?_) (λf cdv A outer s H vs Q E hr h=>?_)
 ·obtain⟨ra,cd,rs,as,rfl,_⟩:=h;rfl
 ·obtain⟨ra,cd,rs,as,rfl,RR,hl,hw,gcd,q⟩:=h;have d6:=dP hr;have le:=RR.len;refine⟨_,(mo (IR (i:=2) lW.nd rfl (Or.inl rfl) rfl (js:=[none]) (N:=QZI) (CompScope.by (aD dM) QYV rfl rfl Zk) (aO rfl) (qp (K:=K) (lc 0)) (λC s₂ H₂ fp=>⟨(o0 (i:=0) (show(QZI:List Str).Nodup by decide +kernel)),(qx (ni pi (mn (mr (K:=K)) (lc 0) ml) mq)),(qw sy (lc 0) (qo ml) tf)⟩) rfl) (mv (nh (my wf (lc 2) (qv rfl (js:=[none,some 1]) (N:=["row","came"]) (CompScope.by (aD dM) QYV rfl rfl Zk) (aO rfl) (qp (K:=K) (lc 0)) (λC s₂ H₂ fp=>⟨(o0 (i:=0) (show(["row","came"]:List Str).Nodup by decide +kernel)),(qx (ni pi (mn (mr (K:=K)) (lc 0) ml) mq)),(my u8 (my u8 (qw sy (lc 0) (qo ml) (qo ml)) (qw sy (tj d6 (lc 1) (mn (mr (K:=K)) (lc 0) ml)) (qo ml) tf)) (qw sy (lc 0) (qo ml) tf))⟩)))))),?_⟩;refine bY (λσ' H'=>∃(kl:TD)(ls:List TD),σ'=[some (.ref ra),some (.ref cd),some (.ref kl)]/\H' kl=some (.lst (ls.map V.ref))/\Paired (At6 H') (rs.flatMap fU) ls/\Same H H') (λnx b6=>?_) ?_
  ·refine⟨ra,rfl,⟨_,QYL RR.lst⟩,?_⟩;refine aV (aX K ra (as.map V.ref)) (by rw[aS];omega) (λi ys H'=>∃ls:List TD,ys=ls.map V.ref/\Paired (At6 H') ((rs.take i).flatMap fU) ls/\Same H H'/\ls.length<=i) (λi ys H' ⟨ls,e,_,s',l'⟩=>⟨QYL (s' _ _ RR.lst),by rw[e,aS];exact l'⟩) ⟨[],rfl,.nil,(λ_ _ e=>e),aY _⟩ (?_) (?_)
   ·rintro i x ys H' hx ⟨ls,e,pp,s',l'⟩;obtain⟨a,r,rfl,ha,v9,d8⟩:=(RR.same s').get hx;obtain⟨xs,g,x0,x1,x2⟩:=eX d8;have i8:=aL v9;dsimp only [aJ];refine⟨_,QYM g,_,x0,?_⟩;show if decide (bP r="kept")=true then _ else _
    refine bG (λh=>?_) (λh=>?_)
    ·obtain⟨n,t,p,k,x,y,rfl⟩:=Dm (UV h);obtain⟨b1,c1,gx,ym,EG⟩:=d8;refine⟨_,gx,λtp H2 s2 g2=>⟨ls++[tp],by rw[e,dJ];rfl,?_,s'.trans s2,by simp;omega⟩⟩;rw[i8,bR];exact Paired.snoc (Paired.map' (λ_ _ z=>z.tk (Same.tk s2)) pp) ⟨b1,c1,g2,s2 _ _ ym,s2 _ _ EG⟩
    ·refine⟨ls,e,?_,s',Zo⟩;rw[i8,bR,Oa (UF h),append_nil];exact pp
   ·rintro ys H' ⟨ls,e,pp,s',l'⟩;intro kl RV;rw[aS,<- le,iB (aY _)]at pp;exact b6 _ _ ⟨kl,ls,rfl,by rw[aA,e],Paired.map' (λ_ _ z=>z.tk (Same.tk (aF RV))) pp,s'.trans (aF RV)⟩
  rintro σ' H1 ⟨kl,ls,rfl,BF,RW,s1⟩;have R1:=RR.same s1;have lk:=RW.length;have lk1:=Ob rs fU Oc;refine⟨ra,rfl,⟨_,QYL R1.lst⟩,?_⟩;refine aV (aX K ra (as.map V.ref)) (by rw[aS];omega) (λi ys H'=>∃ls:List TD,ys=ls.map V.ref/\Paired (At6 H') ((rs.take i).flatMap (uK rs)) ls/\Same H1 H'/\ls.length<=i) (λi ys H' ⟨ls,e,_,s',l'⟩=>⟨QYL (s' _ _ R1.lst),by rw[e,aS];exact l'⟩) ⟨[],rfl,.nil,(λ_ _ e=>e),aY _⟩ (?_) (?_)
  ·rintro i x ys H' hx ⟨JT,e,pp,s',l'⟩;obtain⟨a,r,rfl,ha,v9,d8⟩:=(R1.same s').get hx;obtain⟨xs,g,x0,x1,x2⟩:=eX d8;have i8:=aL v9;dsimp only [aJ];refine⟨_,QYM g,_,x0,?_⟩;show if decide (bP r="done")=true then _ else _
   refine bG (λh=>?_) (λh=>?_)
   ·obtain⟨n,t,y,rfl⟩:=nN (UV h);obtain⟨c1,gx,ym⟩:=d8;obtain⟨t0,p,k,x,z9,_⟩:=fF hw (kI v9);obtain⟨ca,cb,ct,hv,we,yl⟩:=qC hw (R1.same s') z9;have AA:∀K6,Same H' K6->DGet K6 cd (.int (n:Int)) (some (.ref ca)):=λK6 ss=>by rw[<- hv];exact DGet.k (k:=Sum.inl (n:Int)) (ss _ _ (s' _ _ (s1 _ _ gcd)))
    refine⟨_,gx,λt1 H2 s2 g2=>⟨_,QYM (s2 _ _ gx),_,rfl,cd,_,rfl,AA H2 s2,_,s2 _ _ we,λt2 H3 s3 g3=>⟨_,_,s3 _ _ g2,g3,QZX rfl,λt3 H4 s4 g4=>⟨_,s4 _ _ (s3 _ _ (s2 _ _ gx)),λt4 H5 s5 g5=>⟨_,_,s5 _ _ g4,g5,QZX rfl,λt5 H6 s6 g6=>?_⟩⟩⟩⟩⟩;have EN:Same H' H6:=(((s2.trans s3).trans s4).trans s5).trans s6;refine⟨JT++[t5],by rw[e,dJ];rfl,?_,s'.trans EN,by simp;omega⟩;rw[i8,bR,rT hw z9];exact Paired.snoc (Paired.map' (λ_ _ z=>z.tk (Same.tk EN)) pp) ⟨cb,c1,g6,EN _ _ yl,EN _ _ ym⟩
   ·refine⟨JT,e,?_,s',Zo⟩;rw[i8,bR,zA (UF h),append_nil];exact pp
  ·rintro ys H' ⟨JT,e,pp,s',l'⟩;intro kl2 HM;rw[aS,<- le,iB (aY _)]at pp;rw[aS]at l';have s2:=s'.trans (aF (o:=.lst ys) HM);refine⟨_,_,s2 _ _ BF,aA,by rw[e,aS,aS];exact gB Zo,λl CL=>?_⟩;have s3:=s2.trans (aF (o:=.lst (ls.map V.ref++ys)) CL);refine q l (ls++JT) _ (s1.free (s2.free CL)) (by rw[aA,e,dJ]) ?_ (s1.trans s3);exact Paired.append' (Paired.map' (λ_ _ z=>z.tk (Same.tk s3)) RW) (Paired.map' (λ_ _ z=>z.tk (Same.tk ((aF HM).trans (aF CL)))) pp)
def fV(wd:Str)(rs:List RX)(k:aT):Bool:=rs.any λr=>decide (bP r=wd)&&decide (iR r=k)
def oS{wd:Str}{rs:List RX}{as:List TD}(hl:rs.length=as.length)(k:aT):(bA (aM [] (bS wd rs as rs.length)) k).isSome=fV wd rs k:=by
 cases h:fV wd rs k with
 | true=>
  obtain⟨r,hr,e⟩:=any_eq_true.mp h;rw[Bool.and_eq_true]at e;obtain⟨j,r',a,hv,_⟩:=rP hl hr (UV e.1);rw[UV e.2]at hv;rw[hv];rfl
 | false=>
  cases hv:bA (aM [] (bS wd rs as rs.length)) k with
  | none=>rfl
  | some v=>
   exfalso;rcases mK hv with h4|h4
   ·obtain⟨j,r,a,_,g1,g2,g3,g4,g5⟩:=rO h4;have:=List.any_eq_false.mp h r (kI g1);rw[T8 g3,T8 g4.symm]at this;exact this rfl
   ·cases h4
def eS(rs:List RX)(n:Nat):Bool:=fV "asked" rs (Sum.inl (n:Int))&&!fV "done" rs (Sum.inl (n:Int))
def kD(rs:List RX):RX->List O4|.came n _ p k x=>if eS rs n=true then [(n,p,k,x)] else []|_=>[]
def eY(rs:List RX):List O4:=rs.flatMap (kD rs)
def lQ{rs:List RX}(h:RX.Whole rs):(bL rs).Pairwise (·<·):=by
 induction h with
 | nil=>exact .nil
 | @snoc rs r hw hf ih=>
  have e:bL (rs++[r])=bL rs++bL [r]:=by unfold bL;rw[QZS]
  rw[e];cases r with
  | came n t p k x=>
   refine List.pairwise_append.mpr ⟨ih,List.pairwise_singleton _ _,λa ha b hb=>?_⟩;have t7:b=n:=Zms.mp hb;subst t7;obtain⟨r,hr,e⟩:=mem_filterMap.mp ha;cases r<;>cases e;exact hf.1 _ _ _ _ _ hr
  | _=>simpa [bL]using ih
def oT{rs:List RX}{as:List TD}(hl:rs.length=as.length):∀i,i<=rs.length->(bS "came" rs as i).map (·.1)=(bL (rs.take i)).map λn:Nat=>(Sum.inl (n:Int):aT)
 | 0,_=>rfl
 | i+1,hi=>by
  obtain⟨r,hr⟩:∃r,rs[i]?=some r:=⟨rs[i],eZ Zo⟩;obtain⟨a,ha⟩:∃a,as[i]?=some a:=⟨as[i],eZ Zo⟩;have e:bL (rs.take i++[r])=bL (rs.take i)++bL [r]:=by unfold bL;rw[QZS]
  rw[jC hr ha,aL hr,e,dJ,dJ,oT hl i Zo]
  congr 1
  unfold kA;by_cases h:bP r="came"
  ·rw[P0 h];obtain⟨n,t,p,k,x,rfl⟩:=iU h;rfl
  ·rw[QZZ h];cases r<;>first|rfl|exact QZY rfl h
def rV{rs:List RX}{as:List TD}(hw:RX.Whole rs)(hl:rs.length=as.length):aM [] (bS "came" rs as rs.length)=bS "came" rs as rs.length:=by
 rw[gQ _ _ ?_ (λ_ _=>rfl)]
 ·rfl
 ·rw[oT hl _ (aY _),iB (aY _)];show List.Pairwise (·≠·) _;rw[pairwise_map];exact(lQ hw).imp λ{a b} h e=>by
   have:(Sum.inl (a:Int):aT)=Sum.inl (b:Int):=e;injection this with this
   omega
def cO(rs:List RX):List Nat:=rs.filterMap λr=>match r with|.next n _=>some n|_=>none
def cE(rs:List RX):List Nat:=rs.filterMap λr=>match r with|.next _ t=>some t|.came _ t _ _ _=>some t|.done _ t _=>some t|_=>none
def nI(ns:List Nat):List V:=ns.map λn:Nat=>V.int (n:Int)
def hX(rs:List RX):List Int:=(1::(cO rs).map λn:Nat=>(n:Int))++(bL rs).map λn:Nat=>(n:Int)+1
def turnL(rs:List RX):List Int:=0::(cE rs).map λn:Nat=>(n:Int)
def IsMax(l:List Int)(m:Int):Prop:=m∈l/\∀a∈l,a<=m
def IsMax.uniq{l:List Int}{m m':Int}(h:IsMax l m)(h':IsMax l m'):m=m':=by
 have:=h.2 _ h'.1;have:=h'.2 _ h.1;omega
def pH(rs:List RX)(r:RX):cO (rs++[r])=cO rs++cO [r]:=by unfold cO;rw[QZS]
def pI(rs:List RX)(r:RX):cE (rs++[r])=cE rs++cE [r]:=by unfold cE;rw[QZS]
def wP{β:Type}(f:RX->Option β)(rs:List RX)(i:Nat):((rs.take i).filterMap f).length<=i:=eI (length_filterMap_le _ _) (by rw[nU];omega)
def Gz{σ:St}{H:Hp}{ra:TD}{rs:List RX}{as:List TD}{Q:List V->Hp->Prop}(RR:RxsAt H ra rs as)(hl:rs.length<=100)(h:Q (nI (cO rs)) H) :
  lV [none] (aJ 0) (mT (sJ mEq (sJ (sN K) (vr 0) (tC (.int 0))) (tC (.str "next")))) (sJ (sN K) (vr 0) (tC (.int 1))) σ (Itl K ra) H Q:=by
 have le:=RR.len;refine aV (aX K ra (as.map V.ref)) (by rw[aS];omega) (λi ys H'=>H'=H/\ys=nI (cO (rs.take i))) (λi ys H' ⟨e0,e⟩=>⟨by rw[e0];exact QYL RR.lst,by rw[e];unfold nI cO;rw[aS];exact wP _ _ _⟩) ⟨rfl,rfl⟩ (?_) (?_)
 ·rintro i x ys H' hx ⟨e0,e⟩;subst e0;obtain⟨a,r,rfl,ha,v9,d8⟩:=RR.get hx;obtain⟨xs,g,x0,x1,x2⟩:=eX d8;have i8:=aL v9;dsimp only [aJ];refine⟨_,QYM g,_,x0,?_⟩;show if decide (bP r="next")=true then _ else _
  refine bG (λh=>?_) (λh=>?_)
  ·obtain⟨n,t,rfl⟩:=qB (UV h);refine⟨_,QYM g,_,x1,rfl,?_⟩;rw[i8,pH,e];unfold nI;rw[dJ];rfl
  ·refine⟨rfl,?_⟩;rw[i8,pH,e];have:cO [r]=[]:=by
    cases r with
    | next n t=>exact QZY rfl (UF h)
    | _=>rfl
   rw[this,append_nil]
 ·rintro ys H' ⟨e0,e⟩;subst e0;rw[aS,<- le,iB (aY _)]at e;rw[e];exact h
def Zu(r:RX):mM (.str (bP r)) [.str "next",.str "came",.str "done"]=true↔∃t,cE [r]=[t]/\Td r=.int ((t:Nat):Int):=by
 cases r with
 | next n t=>exact⟨λ_=>⟨t,rfl,rfl⟩,λ_=>rfl⟩
 | came n t p k x=>exact⟨λ_=>⟨t,rfl,rfl⟩,λ_=>rfl⟩
 | done n t y=>exact⟨λ_=>⟨t,rfl,rfl⟩,λ_=>rfl⟩
 | has z m=>exact⟨λz=>QZY (show false=true from z) V2,λ⟨t,h,_⟩=>nomatch h⟩
 | kept n t p k x y=>exact⟨λz=>QZY (show false=true from z) V2,λ⟨t,h,_⟩=>nomatch h⟩
 | asked n=>exact⟨λz=>QZY (show false=true from z) V2,λ⟨t,h,_⟩=>nomatch h⟩
def uL{σ:St}{H:Hp}{ra:TD}{rs:List RX}{as:List TD}{Q:List V->Hp->Prop}(RR:RxsAt H ra rs as)(hl:rs.length<=100)(h:∀H',Same H H'->Q (nI (cE rs)) H') :
  lV [none] (aJ 0) (mT (sJ (Xa K false) (sJ (sN K) (vr 0) (tC (.int 0))) (Ky (kJ (tC (.str "next")) (kJ (tC (.str "came")) (kJ (tC (.str "done")) sK)))))) (sJ (sN K) (vr 0) (tC (.int 2))) σ (Itl K ra) H Q:=by
 have le:=RR.len;refine aV (aX K ra (as.map V.ref)) (by rw[aS];omega) (λi ys H'=>Same H H'/\ys=nI (cE (rs.take i))) (λi ys H' ⟨e0,e⟩=>⟨QYL (e0 _ _ RR.lst),by rw[e];unfold nI cE;rw[aS];exact wP _ _ _⟩) ⟨(λ_ _ e=>e),rfl⟩ (?_) (?_)
 ·rintro i x ys H' hx ⟨e0,e⟩;obtain⟨a,r,rfl,ha,v9,d8⟩:=(RR.same e0).get hx;obtain⟨xs,g,x0,x1,x2⟩:=eX d8;have i8:=aL v9;dsimp only [aJ];refine⟨_,QYM g,_,x0,aN rfl,λtq H2 s2 g2=>⟨tq,_,rfl,.inr (QYM g2),rfl,rfl,?_⟩⟩;show if mM (.str (bP r)) [.str "next",.str "came",.str "done"]=true then _ else _
  refine bG (λh=>?_) (λh=>?_)
  ·obtain⟨t,h1,h2⟩:=(Zu r).mp h;refine⟨_,QYM (s2 _ _ g),_,x2 (by rw[h2];exact λz=>nomatch z),e0.trans s2,?_⟩;rw[i8,pI,e,h1,h2];unfold nI;rw[dJ];rfl
  ·refine⟨e0.trans s2,?_⟩;rw[i8,pI,e];have:cE [r]=[]:=by
    cases r with
    | has z m=>rfl
    | kept n t p k x y=>rfl
    | asked n=>rfl
    | _=>exact QZY (show true=false from h) Zd
   rw[this,append_nil]
 ·rintro ys H' ⟨e0,e⟩;rw[aS,<- le,iB (aY _)]at e;rw[e];exact h H' e0
def Hj{σ:St}{H:Hp}{cd:TD}{o:Obj}{kvs:List (aT×V)}{ns:List Nat}{Q:List V->Hp->Prop}(g:H cd=some (.frz o (.dK kvs)))(hk:kvs.map (·.1)=ns.map λn:Nat=>(Sum.inl (n:Int):aT))(hl:ns.length<=100)(h:Q (ns.map λn:Nat=>V.int ((n:Int)+1)) H) :
  lV [none] (aJ 0) Jt (sJ (zQ λi j=>.int (i+j)) (vr 0) (tC (.int 1))) σ (Itd cd o kvs) H Q:=by
 have lk:kvs.length=ns.length:=by have:=congrArg length hk;simpa using this
 refine aV (Cr cd o kvs) (by rw[aS];omega) (λi ys H'=>H'=H/\ys=(ns.take i).map λn:Nat=>V.int ((n:Int)+1)) (λi ys H' ⟨e0,e⟩=>⟨by rw[e0];exact g,by rw[e,aS,nU];omega⟩) ⟨rfl,rfl⟩ (?_) (?_)
 ·rintro i x ys H' hx ⟨e0,e⟩;subst e0;have om:(kvs.map (·.1))[i]?.map kV=some x:=by rw[fA]at hx ⊢;rw[<- hx];cases kvs[i]? <;> rfl
  rw[hk,fA]at om;cases hn:ns[i]? with
  | none=>rw[hn]at om;cases om
  | some n=>
   rw[hn]at om;injection om with om
   subst om;refine⟨rfl,?_⟩;rw[aL hn,dJ,e];rfl
 ·rintro ys H' ⟨e0,e⟩;subst e0;rw[aS,lk,iB (aY _)]at e;rw[e];exact h
def uM{H:Hp}{cd:TD}{u:HO}{o:Obj}(g:H cd=some u){H2:Hp}(s:Same (aI H cd (.frz o u)) H2):Same H (aI H2 cd u):=λc x e=>by
 by_cases z:c=cd
 ·subst z;rw[g]at e;cases e;exact aA
 ·rw[aB z];exact s _ _ (by rw[aB z];exact e)
def Same.keep{H H2:Hp}{cd:TD}{u:HO}(g:H cd=some u)(o:Obj):∀c x,H c=some x->c≠cd->(aI H cd (.frz o u)) c=some x:=λc x e n=>by rw[aB n];exact e
def zB{H:Hp}{ra:TD}{rs:List RX}{as:List TD}(RR:RxsAt H ra rs as):∀i,i<=rs.length->Paired (λ(r:RX) (kv:aT×V)=>hW r=true/\kv.1=iR r/\r∈rs) ((rs.take i).filter hW) (bS "came" rs as i)
 | 0,_=>.nil
 | i+1,hi=>by
  have le:=RR.len;obtain⟨r,hr⟩:∃r,rs[i]?=some r:=⟨rs[i],eZ Zo⟩;obtain⟨a,ha⟩:∃a,as[i]?=some a:=⟨as[i],eZ Zo⟩;rw[jC hr ha,aL hr,filter_append];refine Paired.append' (zB RR i Zo) ?_;unfold kA;by_cases h:bP r="came"
  ·rw[P0 h];obtain⟨n,t,p,k,x,rfl⟩:=iU h;exact .cons ⟨rfl,rfl,kI hr⟩ .nil
  ·rw[QZZ h];have:hW r=false:=by cases r<;>first|rfl|exact QZY rfl h
   rw[filter_cons,this];exact .nil
def pJ(G7:List RX):∀rs:List RX,rs.flatMap (kD G7)=(rs.filter hW).flatMap (kD G7)
 | []=>rfl
 | r::rs=>by
  rw[QZQ,pJ G7 rs,filter_cons];cases r<;>rfl
def Zv(H:Hp)(e:O4)(a:TD):Prop:=∃(t:Nat)(b:TD),H a=some (.tup [.str "came",.int (e.1:Int),.int (t:Int),.str e.2.1,.str e.2.2.1,.ref b])/\H b=some (.tup e.2.2.2.vs)
def zC(G7 rs:List RX):(rs.flatMap (kD G7)).length<=rs.length:=by
 induction rs with
 | nil=>exact aY _
 | cons r rs ih=>
  have:(kD G7 r).length<=1:=by
   cases r with
   | came n t p k x=>
    show(if eS G7 n=true then [(n,p,k,x)] else []).length<=1;split
    ·exact aY _
    ·exact zero_le _
   | _=>exact zero_le _
  rw[QZQ,mO,qE];omega
def nO{α:Type}{lt:α->α->Prop}(NG:∀a,¬ lt a a)(RY:∀a b,lt a b->¬ lt b a):∀ {xs ys:List α},xs.Pairwise lt->ys.Pairwise lt->(∀a,a∈xs↔a∈ys)->xs=ys
 | [],[],_,_,_=>rfl
 | [],y::ys,_,_,h=>nomatch (h y).mpr eV
 | x::xs,[],_,_,h=>nomatch (h x).mp eV
 | x::xs,y::ys,h1,h2,h=>by
  obtain⟨a1,b1⟩:=pairwise_cons.mp h1;obtain⟨a2,b2⟩:=pairwise_cons.mp h2;have e:x=y:=by
   rcases mem_cons.mp ((h x).mp eV) with z|z
   ·exact z
   ·rcases mem_cons.mp ((h y).mpr eV) with z'|z'
    ·exact z'.symm
    ·exact QZY (a2 _ z) (RY _ _ (a1 _ z'))
  subst e;rw[nO NG RY b1 b2 λa=>⟨λm=>?_,λm=>?_⟩]
  ·rcases mem_cons.mp ((h a).mp (iV _ m)) with z|z
   ·subst z;exact QZY (a1 _ m) (NG _)
   ·exact z
  ·rcases mem_cons.mp ((h a).mpr (iV _ m)) with z|z
   ·subst z;exact QZY (a2 _ m) (NG _)
   ·exact z
structure PosR(f:Str->Nat)(hs:List Str):Prop where
 asc:hs.Pairwise λa b=>a.cps.toList<b.cps.toList
 iff:∀z,z∈hs↔0<f z
def PosR.uniq{f:Str->Nat}{hs DY:List Str}(h:PosR f hs)(h':PosR f DY):hs=DY:=
 nO (lt:=λa b:Str=>a.cps.toList<b.cps.toList) (λ_=>List.lt_irrefl _) (λ_ _ h=>List.lt_asymm h) h.asc h'.asc λz=>(h.iff z).trans (h'.iff z).symm
def Hk{zs:List Str}(hs:zs.Pairwise λa b=>a.cps.toList<=b.cps.toList)(hn:zs.Nodup):zs.Pairwise λa b=>a.cps.toList<b.cps.toList:=
 (hs.and hn).imp λ{y z} ⟨h1,h2⟩=>by
  rcases List.le_iff_lt_or_eq.mp h1 with h3|h3
  ·exact h3
  ·exact QZY (by rw[nB y,nB z,h3]) h2
def Hl(prs:List (Str×Int)):List Str:=(mD (prs.map (·.1))).filter λn=>decide (0<mF prs n)
def Od(prs:List (Str×Int)):(Hl prs).length<=prs.length:=eI (length_filter_le _ _) (by rw[lF,aS];exact aY _)
def Zw{prs:List (Str×Int)}{z:Str}(h:z∉prs.map (·.1)):mF prs z=0:=by
 unfold mF;cases e:prs.lookup z with
 | none=>rfl
 | some a=>
  exfalso;have:(z,a)∈prs:=by
   clear h;induction prs with
   | nil=>cases e
   | cons q prs ih=>
    rw[lookup_cons]at e;by_cases hz:z==q.1
    ·rw[hz]at e;cases e;rw[eq_of_beq hz];exact eV
    ·rw[Bool.eq_false_iff.mpr hz]at e;exact iV _ (ih e)
  exact h (Zmm.mpr ⟨_,this,rfl⟩)
def Ti{prs:List (Str×Int)}{f:Str->Nat}(nd:(prs.map (·.1)).Nodup)(am:∀z,mF prs z=(f z:Int)):PosR f (Hl prs)/\Ap prs=(Hl prs).map λz=>(z,(f z:Int)):=by
 refine⟨⟨List.Pairwise.filter _ (Hk (mE _) ((hJ _).nodup_iff.mpr nd)),λz=>?_⟩,?_⟩
 ·unfold Hl;rw[mem_filter,(hJ _).mem_iff,decide_eq_true_iff,am];refine⟨λh=>by omega,λh=>⟨?_,Zo⟩⟩;by_cases c:z∈prs.map (·.1)
  ·exact c
  ·have:=Zw c;rw[am]at this;omega
 ·unfold Ap Hl;exact map_congr_left λz _=>by rw[am]
structure aBC(H0 H:Hp)(rs:List RX)(f:Str->Nat)(tp:TD)(kl ol:TD):Prop where
 ex:∃(bl:TD)(m1 m2:Int)(ks os:List TD)(zs:List Z)(hs:List Str),H tp=some (.tup [.ref bl,.ref kl,.ref ol,.int m1,.int m2])/\H kl=some (.lst (ks.map V.ref))/\Paired (At6 H) (cX rs) ks/\H ol=some (.lst (os.map V.ref))/\Paired (AtO H) (eY rs) os/\IsMax (hX rs) m1/\IsMax (turnL rs) m2/\H bl=some (.lst (eF zs))/\ZAt H zs/\PosR f hs/\zs.map (·.2)=(hs.map λz=>(z,(f z:Int)))/\hs.length<=(cN rs).length+2*(bW rs).length
 fk:H0 kl=none
 fo:H0 ol=none
 ne:kl≠ol
def wQ:Sp:=λvs H Q _=>∃(ra:TD)(rs:List RX)(as:List TD)(F:Nat->Str->Nat)(f:Str->Nat),vs=[.ref ra]/\RxsAt H ra rs as/\rs.length<=100/\(cN rs).length+2*(bW rs).length<=43/\RX.Whole rs/\(∀r∈rs,Nu r)/\RepF rs F f ∧
 ∀(tp kl ol:TD)(H':Hp),aBC H H' rs f tp kl ol->Same H H'->Q (.ref tp) H'
def Oe{C:TD}(T:Txt K mg)(d7:aG P w K mg base 1 "by_numbers" QZs wI)(X8:aG P w K mg base 4 "risen_book" QZF (Dr C))(pf:sF P w K mg base 1 C "rows" QZK (xS C))(X9:aG P w K mg base 1 "risen_kept" QZF Ds)(D:DefAt K mg "risen" gE QZM):aG P w K mg base 5 "risen" QZM wQ:=by
 refine D.go kX (λvs H Q E h=>?_) (λf cdv A outer s H vs Q E hr h=>?_)
 ·obtain⟨ra,rs,as,F,f,rfl,_⟩:=h;rfl
 ·obtain⟨ra,rs,as,F,f,rfl,RR,hl,wb,hw,hok,hF,q⟩:=h;have c7:Room 1 _:=hr.mono Zd;have U8:Room 4 _:=hr;have Y0:Room 1 _:=hr.mono Zd;have U9:Room 1 _:=hr.mono Zd;have d6:=dP hr;have le:=RR.len;refine⟨_,(mo (ng (i:=1) kX.nd (mz d7 c7 rfl (li (lc 0) (li mq mm)))) (mo (ng (i:=2) kX.nd (mz d7 c7 rfl (li (lc 0) (li mq mm)))) (mo (ng (i:=3) kX.nd (mz d7 c7 rfl (li (lc 0) (li mq mm)))) (mo (R.jw (IR (i:=4) kX.nd rfl (Or.inl rfl) rfl (js:=[none,some 1,some 2,some 3]) (N:=["number","done","asked","came"]) (CompScope.by (aD gE) QZA rfl rfl Zk) (aO rfl) (R.wD (lc 3)) (λC s₂ H₂ fp=>⟨(o0 (i:=0) (show(["number","done","asked","came"]:List Str).Nodup by decide +kernel)),(qx (re (ww (ni (R.eh d6) (lc 0) (lc 2)) (AC (ni (R.fh d6) (lc 0) (lc 1)))))),(tj d6 (lc 3) (lc 0))⟩) rfl)) (mv (nh (nj (li (R.jx pf Y0 (mz X8 U8 rfl (li (lc 0) (li (lc 3) mm)))) (li (mz X9 U9 rfl (li (lc 0) (li (lc 3) mm))) (li (qv rfl (js:=[none]) (N:=QZI) (CompScope.by (aD gE) QZA rfl rfl Zk) (aO rfl) (qp (K:=K) (lc 4)) (λC s₂ H₂ fp=>⟨(o0 (i:=0) (show(QZI:List Str).Nodup by decide +kernel)),wn,(my u8 (qw sy (lc 0) (qo ml) (qo ml)) (qw sy (lc 0) (qo ml) tf))⟩)) (li (ql (R.fg (K:=K) rfl) rfl T.b_max oH (li (my wf (my wf (qk (li ml mm)) (qv rfl (js:=[none]) (N:=QZI) (CompScope.by (aD gE) QZA rfl rfl Zk) (aO rfl) (qp (K:=K) (lc 0)) (λC s₂ H₂ fp=>⟨(o0 (i:=0) (show(QZI:List Str).Nodup by decide +kernel)),(qx (ni pi (mn (mr (K:=K)) (lc 0) ml) mq)),(mn (mr (K:=K)) (lc 0) ml)⟩))) (R.jy (qv rfl (js:=[none]) (N:=["number"]) (CompScope.by (aD gE) QZA rfl rfl Zk) (aO rfl) (R.wD (lc 3)) (λC s₂ H₂ fp=>⟨(o0 (i:=0) (show(["number"]:List Str).Nodup by decide +kernel)),wn,(my qi (lc 0) ml)⟩)))) mm)) (li (ql (R.fg (K:=K) rfl) rfl T.b_max oH (li (my wf (qk (li ml mm)) (qv rfl (js:=[none]) (N:=QZI) (CompScope.by (aD gE) QZA rfl rfl Zk) (aO rfl) (qp (K:=K) (lc 0)) (λC s₂ H₂ fp=>⟨(o0 (i:=0) (show(QZI:List Str).Nodup by decide +kernel)),(qx (ni (sw (K:=K)) (mn (mr (K:=K)) (lc 0) ml) (nj (li mq (li mq (li mq mm)))))),(mn (mr (K:=K)) (lc 0) ml)⟩))) mm)) mm)))))))))))),?_⟩;refine⟨ra,"done",rs,as,rfl,RR,Zo,λdn H1 fdn HN s1=>?_⟩;dsimp only [aJ];refine⟨ra,"asked",rs,as,rfl,RR.same s1,Zo,λak H2 ZQ EO s2=>?_⟩;dsimp only [aJ];refine⟨ra,"came",rs,as,rfl,(RR.same s1).same s2,Zo,λcd H3 JU gcd s3=>?_⟩;have sH:Same H H3:=(s1.trans s2).trans s3;have R3:=RR.same sH;have NH:=s3 _ _ (s2 _ _ HN);have HQ:=s3 _ _ EO;have ZR:dn≠cd:=aE (s2 _ _ HN) JU;have ZS:ak≠cd:=aE EO JU;have nrc:ra≠cd:=aE ((RR.same s1).same s2).lst JU;dsimp only [aJ];refine bY (λσ' H'=>∃(sl:TD)(Y1:List TD),σ'=[some (.ref ra),some (.ref dn),some (.ref ak),some (.ref cd),some (.ref sl)]/\H' sl=some (.lst (Y1.map V.ref))/\Paired (Zv H') (eY rs) Y1/\Same H3 H') (λnx b6=>?_) ?_
  ·refine⟨_,gcd,λo=>?_⟩;have em:=rV hw le;have np:=zB R3 rs.length (aY _);rw[iB (aY _)]at np;have ZT:=rN "came" rs as rs.length;have kF:=Same.keep (H2:=H3) gcd o;have gF:(aI H3 cd (.frz o (.dK (aM [] (bS "came" rs as rs.length))))) cd=some (.frz o (.dK (aM [] (bS "came" rs as rs.length)))):=aA;have BG:TK H3 (aI H3 cd (.frz o (.dK (aM [] (bS "came" rs as rs.length))))):=λa xs e=>kF _ _ e (λz=>by rw[z,gcd]at e;cases e)
   have lpp:(rs.filter hW).length=(bS "came" rs as rs.length).length:=np.length;refine aV (Cr cd o (aM [] (bS "came" rs as rs.length))) (by rw[aS,em];omega) (λj ys H'=>H'=aI H3 cd (.frz o (.dK (aM [] (bS "came" rs as rs.length))))/\∃Y1:List TD,ys=Y1.map V.ref/\Paired (Zv H') (((rs.filter hW).take j).flatMap (kD rs)) Y1/\Y1.length<=j) (λj ys H' ⟨e0,Y1,e,_,l'⟩=>⟨by rw[e0];exact gF,by rw[e,aS];exact l'⟩) ⟨rfl,[],rfl,.nil,aY _⟩ (?_) (?_)
   ·rintro j x ys H' hx ⟨e0,Y1,e,pp,l'⟩;rw[fA,em]at hx;cases yn:(bS "came" rs as rs.length)[j]? with
    | none=>rw[yn]at hx;cases hx
    | some kv=>
     rw[yn]at hx;injection hx with hx
     subst hx;obtain⟨hj,ej⟩:=Zgs.mp yn;obtain⟨NI,RZ,yu,SA⟩:=Paired.get' (j:=j) np hj;rw[ej]at yu;have SD:(rs.filter hW)[j]?=some (rs.filter hW)[j]:=eZ NI;generalize (rs.filter hW)[j]=r at RZ yu SA SD;cases r with
     | came n t p k x=>
      dsimp only;rw[yu];have i8:=aL SD;subst e0;obtain⟨ca,cb,ct,hv,we,yl⟩:=qC hw R3 SA;have HR:DGet (aI H3 cd (.frz o (.dK (aM [] (bS "came" rs as rs.length))))) ak (.int (n:Int)) (bA (aM [] (bS "asked" rs as rs.length)) (Sum.inl (n:Int))):=DGet.k (k:=Sum.inl (n:Int)) (kF _ _ HQ ZS);have JV:DGet (aI H3 cd (.frz o (.dK (aM [] (bS "came" rs as rs.length))))) dn (.int (n:Int)) (bA (aM [] (bS "done" rs as rs.length)) (Sum.inl (n:Int))):=DGet.k (k:=Sum.inl (n:Int)) (kF _ _ NH ZR);have ZU:DGet (aI H3 cd (.frz o (.dK (aM [] (bS "came" rs as rs.length))))) cd (.int (n:Int)) (some (.ref ca)):=.inl ⟨_,Sum.inl (n:Int),.inr ⟨o,gF⟩,rfl,hv.symm⟩;have no:eS rs n=false->(aI H3 cd (.frz o (.dK (aM [] (bS "came" rs as rs.length))))=aI H3 cd (.frz o (.dK (aM [] (bS "came" rs as rs.length))))/\∃Y1:List TD,ys=Y1.map V.ref/\Paired (Zv (aI H3 cd (.frz o (.dK (aM [] (bS "came" rs as rs.length)))))) (((rs.filter hW).take (j+1)).flatMap (kD rs)) Y1/\Y1.length<=j+1):=λrb=>by
       refine⟨rfl,Y1,e,?_,Zo⟩;rw[i8,bR];have:kD rs (.came n t p k x)=[]:=by show(if eS rs n=true then _ else _)=_;rw[QZZ (by rw[rb];exact V2)]
       rw[this,append_nil];exact pp
      dsimp only [aJ];refine⟨_,HR,?_⟩;show if (bA (aM [] (bS "asked" rs as rs.length)) (Sum.inl (n:Int))).isSome=true then _ else _
      rw[oS le];refine bG (λh1=>?_) (λh1=>no (by unfold eS;rw[h1];rfl));refine⟨_,JV,?_⟩;show if (!(bA (aM [] (bS "done" rs as rs.length)) (Sum.inl (n:Int))).isSome)=true then _ else _
      rw[oS le];refine bG (λh2=>?_) (λh2=>no (by unfold eS;rw[h1,h2];rfl));refine⟨cd,_,rfl,ZU,rfl,Y1++[ca],by rw[e,dJ];rfl,?_,by simp;omega⟩;rw[i8,bR];have:kD rs (.came n t p k x)=[(n,p,k,x)]:=by show(if eS rs n=true then _ else _)=_;rw[P0 (by unfold eS;rw[h1,h2];rfl)]
      rw[this];exact Paired.snoc pp ⟨ct,cb,BG _ _ we,BG _ _ yl⟩
     | _=>cases RZ
   ·rintro ys H' ⟨e0,Y1,e,pp,l'⟩;intro sl CZ;subst e0;rw[iB (show(rs.filter hW).length<=((aM [] (bS "came" rs as rs.length)).map λq=>kV q.1).length by rw[aS,em];omega),<- pJ]at pp;have ZV:cd≠sl:=aE gF CZ;have s4:=uM gcd (aF (o:=.lst ys) CZ);refine⟨cd,_,o,⟨_,gcd⟩,aP gF CZ,?_⟩;refine b6 _ _ ⟨sl,Y1,rfl,by rw[aB ZV.symm,aA,e],Paired.map' (λ_ _ z=>?_) pp,s4⟩;obtain⟨t,b,h1,h2⟩:=z;have back:∀ {a:TD}{xs:List V},(aI H3 cd (.frz o (.dK (aM [] (bS "came" rs as rs.length))))) a=some (.tup xs)->(aI (aI (aI H3 cd (.frz o (.dK (aM [] (bS "came" rs as rs.length))))) sl (.lst ys)) cd (.dK (aM [] (bS "came" rs as rs.length)))) a=some (.tup xs):=λ{a xs} e=>by
     have:a≠cd:=λz=>by rw[z,gF]at e;cases e
     rw[aB this];exact aP e CZ
    exact⟨t,b,back h1,back h2⟩
  rintro σ' H4 ⟨sl,Y1,rfl,ER,ps,s4⟩;have R4:=R3.same s4;have wg:=s4 _ _ gcd;refine⟨ra,cd,rs,as,F,f,rfl,R4,hl,wb,hw,hok,hF,wg,λp dx d prs H5 fp fd gp gd nd am ln s5=>?_⟩;refine⟨dx,_,gp,vV _ Zk,p,prs,rfl,⟨⟨dx,d,gp,gd⟩,nd⟩,nS (eI ln wb) Zd,λbl zs H6 s6 fb gb hz ez=>?_⟩;have JW:=s5.trans s6;refine⟨ra,cd,rs,as,rfl,R4.same JW,hl,hw,JW _ _ wg,λkl ks H7 ZW BF pk s7=>?_⟩;have BH:=JW.trans s7;have HS:=BH _ _ ER;have HU:=ps.length;have SE:=zC rs rs;refine⟨sl,rfl,⟨_,QYL HS⟩,?_⟩;refine aV (aX K sl (Y1.map V.ref)) (by rw[aS];unfold eY at HU;omega) (λi ys H'=>∃os:List TD,ys=os.map V.ref/\Paired (AtO H') ((eY rs).take i) os/\Same H7 H'/\os.length<=i) (λi ys H' ⟨os,e,_,s',l'⟩=>⟨QYL (s' _ _ HS),by rw[e,aS];exact l'⟩) ⟨[],rfl,.nil,(λ_ _ e=>e),aY _⟩ (?_) (?_)
  ·rintro i x ys H' hx ⟨os,e,pp,s',l'⟩;rw[fA]at hx;cases NJ:Y1[i]? with
   | none=>rw[NJ]at hx;cases hx
   | some a=>
    rw[NJ]at hx;cases hx;obtain⟨hi,ei⟩:=Zgs.mp NJ;obtain⟨K8,pa⟩:=Paired.get' (j:=i) ps hi;rw[ei]at pa;have yo:(eY rs)[i]?=some (eY rs)[i]:=eZ K8;generalize (eY rs)[i]=eo at pa yo;obtain⟨t,b,g1,g2⟩:=pa;have GO:=s' _ _ (BH _ _ g1);dsimp only [aJ];refine⟨_,GO,λt1 Ha sa ga=>⟨_,sa _ _ GO,λt2 Hb sb JX=>⟨_,_,sb _ _ ga,JX,QZX rfl,λt3 Hc sc gc=>?_⟩⟩⟩;have si:=(sa.trans sb).trans sc;refine⟨os++[t3],by rw[e,dJ];rfl,?_,s'.trans si,by simp;omega⟩;rw[aL yo];exact Paired.snoc (Paired.map' (λ_ _ z=>z.tk (Same.tk si)) pp) ⟨b,gc,si _ _ (s' _ _ (BH _ _ g2))⟩
  ·rintro ys H' ⟨os,e,pp,s',l'⟩;intro ol uu;rw[aS,<- HU,iB (aY _)]at pp;have DA:=BH.trans (s'.trans (aF (o:=.lst ys) uu));have SF:Paired (At6 (aI H' ol (.lst ys))) (cX rs) ks:=Paired.map' (λ_ _ z=>z.tk (Same.tk (s'.trans (aF uu)))) pk;have SG:Paired (AtO (aI H' ol (.lst ys))) (eY rs) os:=Paired.map' (λ_ _ z=>z.tk (Same.tk (aF uu))) pp;have HV:(aI H' ol (.lst ys)) bl=some (.lst (eF zs)):=aP (s' _ _ (s7 _ _ gb)) uu;have SH:ZAt (aI H' ol (.lst ys)) zs:=λz CV=>aP (s' _ _ (s7 _ _ (hz z CV))) uu
   have HW:(aI H' ol (.lst ys)) ol=some (.lst (os.map V.ref)):=by rw[aA,e]
   have HX:(aI H' ol (.lst ys)) kl=some (.lst (ks.map V.ref)):=aP (s' _ _ BF) uu;have ZX:kl≠ol:=aE (s' _ _ BF) uu;have ZY:H ol=none:=sH.free (s4.free ((BH.trans s').free uu));have NK:H kl=none:=sH.free (s4.free (JW.free ZW));generalize aI H' ol (.lst ys)=H8 at DA SF SG HW HX HV SH;have R8:=R4.same DA;have NL:=DA _ _ wg;refine⟨eT rfl,λp1 zh=>?_⟩;have s9:=aF (o:=.lst [.int 1]) zh;have g1:(aI H8 p1 (.lst [.int 1])) p1=some (.lst [.int 1]):=aA;generalize aI H8 p1 (.lst [.int 1])=H9 at s9 g1;refine⟨ra,rfl,⟨_,QYL (R8.same s9).lst⟩,Gz (R8.same s9) Zo λp2 C5=>?_⟩;have nle:(cO rs).length<=rs.length:=length_filterMap_le _ _;have cle:(bL rs).length<=rs.length:=length_filterMap_le _ _;refine⟨_,_,aP g1 C5,aA,by unfold nI;rw[aS];exact gB (by simp;omega),λp3 Q3=>?_⟩;have sa:=((s9.trans (aF (o:=.lst (nI (cO rs))) C5)).trans (aF (o:=.lst ([.int 1]++nI (cO rs))) Q3));have g3:(aI (aI H9 p2 (.lst (nI (cO rs)))) p3 (.lst ([.int 1]++nI (cO rs)))) p3=some (.lst (.int 1::nI (cO rs))):=aA;generalize aI (aI H9 p2 (.lst (nI (cO rs)))) p3 (.lst ([.int 1]++nI (cO rs)))=Ha at sa g3;have DB:=sa _ _ NL;refine⟨_,DB,λo=>?_⟩;have hk:(aM [] (bS "came" rs as rs.length)).map (·.1)=(bL rs).map λn:Nat=>(Sum.inl (n:Int):aT):=by
    rw[rV hw le,oT le _ (aY _),iB (aY _)]
   refine Hj aA hk Zo λp4 U1=>?_;have gF:(aI Ha cd (.frz o (.dK (aM [] (bS "came" rs as rs.length))))) cd=some (.frz o (.dK (aM [] (bS "came" rs as rs.length)))):=aA;have ZZ:cd≠p4:=aE gF U1;refine⟨cd,_,o,⟨_,DB⟩,aP gF U1,?_⟩;have sb:=uM DB (aF (o:=.lst ((bL rs).map λn:Nat=>V.int ((n:Int)+1))) U1);have g4:(aI (aI (aI Ha cd (.frz o (.dK (aM [] (bS "came" rs as rs.length))))) p4 (.lst ((bL rs).map λn:Nat=>V.int ((n:Int)+1)))) cd (.dK (aM [] (bS "came" rs as rs.length)))) p4=some (.lst ((bL rs).map λn:Nat=>V.int ((n:Int)+1))):=by rw[aB ZZ.symm];exact aA
   generalize aI (aI (aI Ha cd (.frz o (.dK (aM [] (bS "came" rs as rs.length))))) p4 (.lst ((bL rs).map λn:Nat=>V.int ((n:Int)+1)))) cd (.dK (aM [] (bS "came" rs as rs.length)))=Hb at sb g4;refine⟨_,_,sb _ _ g3,g4,by unfold nI;rw[aS];exact gB (by simp;omega),λp5 BC=>?_⟩;refine⟨p5,hX rs,rfl,QYL (by rw[aA];unfold hX nI;simp[dJ,map_map]<;>rfl),by unfold hX;simp,λm1 zi HY=>?_⟩;have sc:=((sa.trans sb).trans (aF (o:=.lst ((.int 1::nI (cO rs))++(bL rs).map λn:Nat=>V.int ((n:Int)+1))) BC));generalize aI Hb p5 (.lst ((.int 1::nI (cO rs))++(bL rs).map λn:Nat=>V.int ((n:Int)+1)))=Hc at sc;refine⟨eT rfl,λp6 GU=>?_⟩;have sd:=sc.trans (aF (o:=.lst [.int 0]) GU);have g6:(aI Hc p6 (.lst [.int 0])) p6=some (.lst [.int 0]):=aA;generalize aI Hc p6 (.lst [.int 0])=Hd at sd g6;refine⟨ra,rfl,⟨_,QYL (R8.same sd).lst⟩,uL (R8.same sd) Zo λHe se p7 SI=>?_⟩;have tle:(cE rs).length<=rs.length:=length_filterMap_le _ _;refine⟨_,_,aP (se _ _ g6) SI,aA,by unfold nI;rw[aS];exact gB (by simp;omega),λp8 hp8=>?_⟩;refine⟨p8,turnL rs,rfl,QYL (by rw[aA];unfold turnL nI;simp[map_map]<;>rfl),by unfold turnL;simp,λm2 nt HZ=>⟨aN rfl,λtp Hf sf gf=>?_⟩⟩;have sg:=((sd.trans se).trans ((aF (o:=.lst (nI (cE rs))) SI).trans (aF (o:=.lst ([.int 0]++nI (cE rs))) hp8))).trans sf;obtain⟨pR,eR⟩:=Ti nd am;refine q tp kl ol Hf ⟨⟨bl,m1,m2,ks,os,zs,Hl prs,gf,sg _ _ HX,Paired.map' (λ_ _ z=>z.tk (Same.tk sg)) SF,sg _ _ HW,Paired.map' (λ_ _ z=>z.tk (Same.tk sg)) SG,⟨zi,HY⟩,⟨nt,HZ⟩,sg _ _ HV,λz CV=>sg _ _ (SH z CV),pR,ez.trans eR,eI (Od prs) ln⟩,NK,ZY,ZX⟩ ((sH.trans s4).trans (DA.trans sg))
def dZ(ps:List RX)(w:Str):Option RX:=ps.foldl (λo r=>if bP r=w then some r else o) none
def dH(ps:List RX)(r:RX)(w:Str):dZ (ps++[r]) w=if bP r=w then some r else dZ ps w:=by
 unfold dZ;rw[foldl_append];rfl
def cP(ps:List RX):Nat:=ps.foldl (λ_ r=>r.rank) 0
def iZ(ps:List RX)(r:RX):cP (ps++[r])=r.rank:=by unfold cP;rw[foldl_append];rfl
def Dt:RX->Bool|.next _ _=>true|.came _ _ _ _ _=>true|.done _ _ _=>true|_=>false
def cM(ps:List RX):Nat:=ps.foldl (λt r=>if Dt r=true then r.turn else t) 0
def lX(ps:List RX)(r:RX):cM (ps++[r])=if Dt r=true then r.turn else cM ps:=by unfold cM;rw[foldl_append];rfl
def Tj{r:RX}(h:¬ Dt r=true):r.turn=0:=by cases r<;>first|rfl|exact QZY rfl h
def rW{ps:List RX}(h:RX.Whole ps):∀ {w:Str}{r:RX},dZ ps w=some r->r∈ps/\bP r=w:=by
 induction h with
 | nil=>intro w r e;cases e
 | @snoc rs q _ _ ih=>
  intro w r e;rw[dH]at e;split at e
  ·cases e;exact⟨QZV _ eV,by assumption⟩
  ·exact⟨QZW _ (ih e).1,(ih e).2⟩
def jE{ps:List RX}(h:RX.Whole ps):∀ {r:RX},r∈ps->dZ ps (bP r)≠none:=by
 induction h with
 | nil=>intro r e;cases e
 | @snoc rs q _ _ ih=>
  intro r e;rw[dH];rcases aH e with e|rfl
  ·split
   ·intro z;cases z
   ·exact ih e
  ·rw[P0 rfl];intro z;cases z
def Tk{ps:List RX}(h:RX.Whole ps):∀q∈ps,q.rank<=cP ps:=by
 induction h with
 | nil=>intro q e;cases e
 | @snoc rs r _ hf ih=>
  intro q e;rw[iZ];rcases aH e with e1|rfl
  ·cases r with
   | next n t=>rw[show rs=[] from hf]at e1;cases e1
   | has z m=>exact hf.1 q e1
   | kept n t p k d y=>exact hf.1 q e1
   | came n t p k d=>cases q<;>(show _<=3;exact QZX rfl)
   | asked n=>cases q<;>(show _<=3;exact QZX rfl)
   | done n t y=>cases q<;>(show _<=3;exact QZX rfl)
  ·exact aY _
def hZ{ps:List RX}(h:RX.Whole ps)(k:Nat):(∀q∈ps,q.rank<=k)↔cP ps<=k:=by
 refine⟨λz=>?_,λz q hq=>eI (Tk h q hq) z⟩
 cases h with
 | nil=>exact zero_le _
 | @snoc rs r _ _=>rw[iZ];exact z r (QZV _ eV)
def nP{ps:List RX}(h:RX.Whole ps):∀k:Nat,(∀q∈ps,q.turn<=k)↔cM ps<=k:=by
 induction h with
 | nil=>intro k;exact⟨λ_=>zero_le _,λ_ q e=>nomatch e⟩
 | @snoc rs r hw hf ih=>
  intro k;rw[lX];refine⟨λz=>?_,λz q hq=>?_⟩
  ·split
   ·exact z r (QZV _ eV)
   ·exact(ih k).mp λq hq=>z q (QZW _ hq)
  ·rcases aH hq with BI|rfl
   ·split at z
    ·cases r with
     | next n t=>rw[show rs=[] from hf]at BI;cases BI
     | came n t p k d=>exact eI (hf.2.2 q BI) z
     | done n t y=>exact eI (hf.1 q BI) z
     | _=>rename_i hh;cases hh
    ·exact(ih k).mpr z q BI
   ·split at z
    ·exact z
    ·rename_i hh;rw[Tj hh];exact zero_le _
def uN{ps:List RX}(h:RX.Whole ps):∀ {n t n' t':Nat},.next n t∈ps->.next n' t'∈ps->n=n'/\t=t':=by
 induction h with
 | nil=>intro n t n' t' e;cases e
 | @snoc rs r hw hf ih=>
  have no:∀ {n t n' t':Nat},r=.next n t->.next n' t'∉rs:=λe m=>by rw[e]at hf;rw[show rs=[] from hf]at m;cases m
  intro n t n' t' e1 e2;rcases aH e1 with z1|z1
  ·rcases aH e2 with z2|z2
   ·exact ih z1 z2
   ·exact QZY z1 (no z2.symm)
  ·rcases aH e2 with z2|z2
   ·exact QZY z2 (no z1.symm)
   ·rw[<- z1]at z2;cases z2;exact⟨rfl,rfl⟩
def Og{ps:List RX}(h:RX.Whole ps):∀ {z:Str}{m:Nat},dZ ps "has"=some (.has z m)->∀z' m',.has z' m'∈ps->z'=z∨z'.cps.toList<z.cps.toList:=by
 induction h with
 | nil=>intro z m e;cases e
 | @snoc rs r hw hf ih=>
  intro z m e z' m' hm;rw[dH]at e;split at e
  ·cases e;rcases aH hm with hm|hm
   ·exact .inr (hf.2.2 _ _ hm)
   ·cases hm;exact .inl rfl
  ·rename_i hh;rcases aH hm with hm|hm
   ·exact ih e _ _ hm
   ·subst hm;exact QZY rfl hh
def Hm{ps:List RX}(h:RX.Whole ps):∀ {n t:Nat}{p k:Str}{x:Dd}{y:An},dZ ps "kept"=some (.kept n t p k x y)->∀n' t' p' k' x' y',.kept n' t' p' k' x' y'∈ps->n'<=n:=by
 induction h with
 | nil=>intro n t p k x y e;cases e
 | @snoc rs r hw hf ih=>
  intro n t p k x y e n' t' p' k' x' y' hm;rw[dH]at e;split at e
  ·cases e;rcases aH hm with hm|hm
   ·exact le_of_lt (hf.2.2.1 _ _ _ _ _ _ hm)
   ·cases hm;exact aY _
  ·rename_i hh;rcases aH hm with hm|hm
   ·exact ih e _ _ _ _ _ _ hm
   ·subst hm;exact QZY rfl hh
def Hn{ps:List RX}(h:RX.Whole ps):∀ {n t:Nat}{p k:Str}{x:Dd},dZ ps "came"=some (.came n t p k x)->∀n' t' p' k' x',.came n' t' p' k' x'∈ps->n'<=n:=by
 induction h with
 | nil=>intro n t p k x e;cases e
 | @snoc rs r hw hf ih=>
  intro n t p k x e n' t' p' k' x' hm;rw[dH]at e;split at e
  ·cases e;rcases aH hm with hm|hm
   ·exact le_of_lt (hf.1 _ _ _ _ _ hm)
   ·cases hm;exact aY _
  ·rename_i hh;rcases aH hm with hm|hm
   ·exact ih e _ _ _ _ _ hm
   ·subst hm;exact QZY rfl hh
def Du(y:An):Prop:=∃x:Dd,x.Ok/\An.Of x y
def Dv:RX->Prop
 | .kept _ _ _ _ d y=>d.Ok/\An.Of d y
 | .came _ _ _ _ d=>d.Ok
 | .done _ _ y=>Du y
 | .has _ m=>m<=1000000000000
 | _=>True
def Tl{y:An}(hy:Du y){g:Str}(e:y=.no g):fO g:=by
 obtain⟨d,hd,h⟩:=hy;subst e;cases d with
 | send u a n=>rw[show g=u from h];exact hd.1
 | fetch u a n=>rw[show g=u from h];exact hd.1
 | pass u g' a n=>
  rcases(show g=u∨g=g' from h) with rfl|rfl
  ·exact hd.1
  ·exact hd.2.1
 | _=>exact h.elim
def uO(rs:List RX):Option Nat->Prop
 | none=>RX.Whole rs
 | some i=>∃r,rs[i]?=some r/\RX.Whole (rs.take i)/\¬ RX.Fits (rs.take i) r
def rX{rs:List RX}(h:RX.Whole rs):∀ {i:Nat}{r:RX},rs[i]?=some r->RX.Whole (rs.take i)/\RX.Fits (rs.take i) r:=by
 induction h with
 | nil=>intro i r e;cases e
 | @snoc rs q hw hf ih=>
  intro i r e;by_cases hi:i<rs.length
  ·rw[List.getElem?_append_left hi]at e;rw[List.take_append_of_le_length (le_of_lt hi)];exact ih e
  ·rw[List.getElem?_append_right Zo]at e;have:i=rs.length:=by
    have:=(Zgs.mp e).1;simp at this;omega
   subst this;rw[Nat.sub_self]at e;cases e;rw[List.take_left];exact⟨hw,hf⟩
def Oh{rs:List RX}{o o':Option Nat}(h:uO rs o)(h':uO rs o'):o=o':=by
 have key:∀ {i j:Nat},uO rs (some i)->uO rs (some j)->¬ i<j:=λ{i j} hi hj yf=>by
  obtain⟨r,e1,_,n1⟩:=hi;obtain⟨_,_,w2,_⟩:=hj;have e:(rs.take j)[i]?=some r:=by rw[List.getElem?_take_of_lt yf];exact e1
  have:=(rX w2 e).2;rw[List.take_take,min_eq_left (le_of_lt yf)]at this;exact n1 this
 cases o with
 | none=>cases o' with
  | none=>rfl
  | some j=>obtain⟨r,e,_,n⟩:=h';exact QZY (rX h e).2 n
 | some i=>cases o' with
  | none=>obtain⟨r,e,_,n⟩:=h;exact QZY (rX h' e).2 n
  | some j=>
   have h1:=key h h';have h2:=key h' h;rw[show i=j by omega]
def aCx:Option Nat->V|none=>.non|some i=>.int (i:Int)
def kE:Dd->List (Str×List V)
 | .send h a n=>[(h,[.str "add",.str a,.int (n:Int)])]
 | .fetch h a n=>[(h,[.str "take",.str a,.int (n:Int)])]
 | .pass h g a n=>[(h,[.str "take",.str a,.int (n:Int)]),(g,[.str "add",.str a,.int (n:Int)])]
 | _=>[]
def Bn{d:Dd}(h:d.Ok):DWN d.wd (d.n:Int) d.vs (kE d):=by
 cases d with
 | add a n=>exact⟨⟨a,a,a,_,.add⟩,(λq hq=>nomatch hq)⟩
 | take a n=>exact⟨⟨a,a,a,_,.take⟩,(λq hq=>nomatch hq)⟩
 | move a b n=>exact⟨⟨a,b,a,_,.move⟩,(λq hq=>nomatch hq)⟩
 | send g a n=>exact⟨⟨g,a,a,_,.send⟩,λq hq=>by rw[Zms.mp hq];exact h.1⟩
 | fetch g a n=>exact⟨⟨g,a,a,_,.fetch⟩,λq hq=>by rw[Zms.mp hq];exact h.1⟩
 | pass g g' a n=>exact⟨⟨g,g',a,_,.pass⟩,λq hq=>by
   simp only [kE,mem_cons,QZT,or_false]at hq;rcases hq with rfl|rfl
   ·exact h.1
   ·exact h.2.1⟩
def zD(d:Dd):(kE d).length=0↔d.far=false:=by cases d<;>simp[kE,Dd.far]
def Pk(a b:Int)(m:Nat):bC [.int (m:Int)] [(a,b)]=true↔a<=(m:Int)/\(m:Int)<=b:=by
 simp[bC,Al]
def wi2(a b c d:Int)(l m:Nat):bC [.int (l:Int),.int (m:Int)] [(a,b),(c,d)]=true↔(a<=(l:Int)/\(l:Int)<=b)/\c<=(m:Int)/\(m:Int)<=d:=by
 simp[bC,Al]
def Tm(a b:Int)(l m:Nat):bC [.int (l:Int),.int (m:Int)] [(a,b)]=true↔False:=by simp[bC]
def aCy(a b c d:Int)(m:Nat):bC [.int (m:Int)] [(a,b),(c,d)]=true↔False:=by simp[bC]
def Zx{d:Dd}{y:An}(hd:d.Ok):Gc d.wd ((kE d).map (·.1)) (d.n:Int) y.vs=true↔An.Of d y:=by
 have hn:=hd.n;have ff:∀ {p:Prop},¬ p->((false=true)↔p):=λh=>⟨nofun,λz=>QZY z h⟩
 cases d with
 | add a n=>cases y with
  | is1 m=>show bC [.int (m:Int)] [((n:Int),1000000000000)]=true↔n<=m/\m<=1000000000000;rw[Pk];omega
  | is2 l m=>show bC [.int (l:Int),.int (m:Int)] [((n:Int),1000000000000)]=true↔False;exact Tm ..
  | short m=>exact ff id
  | full m=>show bC [.int (m:Int)] [(1000000000000-(n:Int)+1,1000000000000)]=true↔1000000000000<m+n/\m<=1000000000000;rw[Pk];omega
  | no h=>exact ff id
  | ok=>exact ff id
 | take a n=>cases y with
  | is1 m=>show bC [.int (m:Int)] [(0,1000000000000-(n:Int))]=true↔m+n<=1000000000000;rw[Pk];omega
  | is2 l m=>show bC [.int (l:Int),.int (m:Int)] [(0,1000000000000-(n:Int))]=true↔False;exact Tm ..
  | short m=>show bC [.int (m:Int)] [(0,(n:Int)-1)]=true↔m<n;rw[Pk];omega
  | full m=>exact ff id
  | no h=>exact ff id
  | ok=>exact ff id
 | move a b n=>cases y with
  | is1 m=>show bC [.int (m:Int)] [(0,1000000000000-(n:Int)),((n:Int),1000000000000)]=true↔False;exact aCy ..
  | is2 l m=>
   have DT:1<=n/\n<=1000000000000:=hn;show bC [.int (l:Int),.int (m:Int)] [(0,1000000000000-(n:Int)),((n:Int),1000000000000)]=true↔l+n<=1000000000000/\n<=m/\m<=1000000000000;rw[wi2];omega
  | short m=>show bC [.int (m:Int)] [(0,(n:Int)-1)]=true↔m<n;rw[Pk];omega
  | full m=>show bC [.int (m:Int)] [(1000000000000-(n:Int)+1,1000000000000)]=true↔1000000000000<m+n/\m<=1000000000000;rw[Pk];omega
  | no h=>exact ff id
  | ok=>exact ff id
 | send g a n=>cases y with
  | is1 m=>show bC [.int (m:Int)] [(0,1000000000000-(n:Int))]=true↔m+n<=1000000000000;rw[Pk];omega
  | is2 l m=>show bC [.int (l:Int),.int (m:Int)] [(0,1000000000000-(n:Int))]=true↔False;exact Tm ..
  | short m=>show bC [.int (m:Int)] [(0,(n:Int)-1)]=true↔m<n;rw[Pk];omega
  | full m=>exact ff id
  | no h=>show pM (.str h) [g]=true↔h=g;simp[pM]
  | ok=>exact ff id
 | fetch g a n=>cases y with
  | is1 m=>show bC [.int (m:Int)] [((n:Int),1000000000000)]=true↔n<=m/\m<=1000000000000;rw[Pk];omega
  | is2 l m=>show bC [.int (l:Int),.int (m:Int)] [((n:Int),1000000000000)]=true↔False;exact Tm ..
  | short m=>exact ff id
  | full m=>show bC [.int (m:Int)] [(1000000000000-(n:Int)+1,1000000000000)]=true↔1000000000000<m+n/\m<=1000000000000;rw[Pk];omega
  | no h=>show pM (.str h) [g]=true↔h=g;simp[pM]
  | ok=>exact ff id
 | pass g g' a n=>cases y with
  | is1 m=>exact ff id
  | is2 l m=>exact ff id
  | short m=>exact ff id
  | full m=>exact ff id
  | no h=>show pM (.str h) [g,g']=true↔h=g∨h=g';simp[pM]
  | ok=>exact⟨λ_=>trivial,λ_=>rfl⟩
def aBD{H:Hp}{c:TD}{y:An}(h:H c=some (.tup y.vs))(hf:Du y):Tg H (.ref c):=by
 refine .tup h (by cases y<;>exact QZX rfl) λv hv=>?_
 cases y with
 | is1 m=>simp only [An.vs,mem_cons,QZT,or_false]at hv;rcases hv with rfl|rfl<;>first|exact .int|exact .str Zk
 | is2 l m=>simp only [An.vs,mem_cons,QZT,or_false]at hv;rcases hv with rfl|rfl|rfl<;>first|exact .int|exact .str Zk
 | short m=>simp only [An.vs,mem_cons,QZT,or_false]at hv;rcases hv with rfl|rfl<;>first|exact .int|exact .str Zk
 | full m=>simp only [An.vs,mem_cons,QZT,or_false]at hv;rcases hv with rfl|rfl<;>first|exact .int|exact .str Zk
 | no g=>
  have:=Tl hf rfl;simp only [An.vs,mem_cons,QZT,or_false]at hv;rcases hv with rfl|rfl
  ·exact .str Zk
  ·exact .str (by have:=this.2.1;omega)
 | ok=>simp only [An.vs,mem_cons,QZT,or_false]at hv;rw[hv];exact .str Zk
structure Zy(K:W.Frag)(C:TD):Prop where
 cl:Cls K C
 n1:NoAttr K C "last_rows"
 n2:NoAttr K C "last_rank"
 n3:NoAttr K C "last_turn"
 n4:NoAttr K C "kept_numbers"
 n5:NoAttr K C "came_deeds"
 n6:NoAttr K C "asked_numbers"
 n7:NoAttr K C "done_numbers"
structure WA where
 dx:Addr
 d1:Addr
 d2:Addr
 d3:Addr
 d4:Addr
 d5:Addr
def Zz(A:WA)(rk tn:Nat):List (Str×V):=[("last_rows",.ref A.d1),("last_rank",.int (rk:Int)),("last_turn",.int (tn:Int)),("kept_numbers",.ref A.d2),("came_deeds",.ref A.d3),("asked_numbers",.ref A.d4),("done_numbers",.ref A.d5)]
def NumK(kvs:List (aT×V))(p:Nat->Prop):Prop:=∀n:Nat,(bA kvs (Sum.inl (n:Int))).isSome=true↔p n
structure aBE(H:Hp)(kvs:List (aT×V))(ps:List RX):Prop where
 em:kvs.length=0↔ps=[]
 no:∀w:Str,dZ ps w=none->bA kvs (Sum.inr w)=none
 yes:∀(w:Str)(r:RX),dZ ps w=some r->∃b,bA kvs (Sum.inr w)=some (.ref b)/\r.At H b
structure aBF(H:Hp)(kvs:List (aT×V))(ps:List RX):Prop where
 no:∀n:Nat,bA kvs (Sum.inl (n:Int))=none->∀t p k x,.came n t p k x∉ps
 yes:∀(n:Nat)(v:V),bA kvs (Sum.inl (n:Int))=some v->∃b t p k x,v=.ref b/\H b=some (.tup x.vs)/\.came n t p k x∈ps
structure WkG(H:Hp)(C a:TD)(A:WA)(rk tn:Nat)(k1 k2 k3 k4 k5:List (aT×V)):Prop where
 ins:H a=some (.ins C A.dx (Zz A rk tn))
 g1:H A.d1=some (.dK k1)
 g2:H A.d2=some (.dK k2)
 g3:H A.d3=some (.dK k3)
 g4:H A.d4=some (.dK k4)
 g5:H A.d5=some (.dK k5)
structure WkP(H:Hp)(ps:List RX)(k1 k2 k3 k4 k5:List (aT×V)):Prop where
 l1:k1.length<=ps.length
 l2:k2.length<=ps.length
 l3:k3.length<=ps.length
 l4:k4.length<=ps.length
 l5:k5.length<=ps.length
 last:aBE H k1 ps
 kept:NumK k2 λn=>∃t p k x y,.kept n t p k x y∈ps
 came:aBF H k3 ps
 asked:NumK k4 λn=>.asked n∈ps
 done:NumK k5 λn=>∃t y,.done n t y∈ps
structure WkF(H0:Hp)(a:TD)(A:WA):Prop where
 fa:H0 a=none
 f1:H0 A.d1=none
 f2:H0 A.d2=none
 f3:H0 A.d3=none
 f4:H0 A.d4=none
 f5:H0 A.d5=none
 nd:[A.d1,A.d2,A.d3,A.d4,A.d5].Nodup
def WkAt(H0 H:Hp)(C a:TD)(A:WA)(ps:List RX):Prop:=WkF H0 a A/\Same H0 H/\∃k1 k2 k3 k4 k5,WkG H C a A (cP ps) (cM ps) k1 k2 k3 k4 k5/\WkP H ps k1 k2 k3 k4 k5
def WkG.same{H H':Hp}{C a:TD}{A:WA}{rk tn:Nat}{k1 k2 k3 k4 k5:List (aT×V)}(h:WkG H C a A rk tn k1 k2 k3 k4 k5)(s:Same H H'):WkG H' C a A rk tn k1 k2 k3 k4 k5:=
 ⟨s _ _ h.ins,s _ _ h.g1,s _ _ h.g2,s _ _ h.g3,s _ _ h.g4,s _ _ h.g5⟩
def WkP.tk{H H':Hp}{ps:List RX}{k1 k2 k3 k4 k5:List (aT×V)}(h:WkP H ps k1 k2 k3 k4 k5)(s:TK H H'):WkP H' ps k1 k2 k3 k4 k5:=
 ⟨h.l1,h.l2,h.l3,h.l4,h.l5,⟨h.last.em,h.last.no,λw r e=>by obtain⟨b,h1,h2⟩:=h.last.yes w r e;exact⟨b,h1,h2.tk s⟩⟩,h.kept,⟨h.came.no,λn v e=>by obtain⟨b,t,p,k,x,h1,h2,h3⟩:=h.came.yes n v e;exact⟨b,t,p,k,x,h1,s _ _ h2,h3⟩⟩,h.asked,h.done⟩
def WkAt.same{H0 H H':Hp}{C a:TD}{A:WA}{ps:List RX}(h:WkAt H0 H C a A ps)(s:Same H H'):WkAt H0 H' C a A ps:=by
 obtain⟨h1,h2,k1,k2,k3,k4,k5,h3,h4⟩:=h;exact⟨h1,h2.trans s,k1,k2,k3,k4,k5,h3.same s,h4.tk s.tk⟩
section
variable {H:Hp}{C a:TD}{A:WA}{rk tn:Nat}{k1 k2 k3 k4 k5:List (aT×V)}
def WkG.ne(h:WkG H C a A rk tn k1 k2 k3 k4 k5):a≠A.d1/\a≠A.d2/\a≠A.d3/\a≠A.d4/\a≠A.d5:=
 ⟨cV h.ins h.g1 nofun,cV h.ins h.g2 nofun,cV h.ins h.g3 nofun,cV h.ins h.g4 nofun,cV h.ins h.g5 nofun⟩
def WkF.nn{H0:Hp}(f:WkF H0 a A):A.d1≠A.d2/\A.d1≠A.d3/\A.d1≠A.d4/\A.d1≠A.d5/\A.d2≠A.d3/\A.d2≠A.d4/\A.d2≠A.d5/\A.d3≠A.d4/\A.d3≠A.d5/\A.d4≠A.d5:=by
 have:=f.nd;simp only [nodup_cons,mem_cons,QZT,or_false,not_or]at this;obtain⟨⟨a1,a2,a3,a4⟩,⟨b1,b2,b3⟩,⟨c1,c2⟩,d1,_⟩:=this;exact⟨a1,a2,a3,a4,b1,b2,b3,c1,c2,d1⟩
def WkG.put1{H0:Hp}(f:WkF H0 a A)(h:WkG H C a A rk tn k1 k2 k3 k4 k5)(k:List (aT×V)):WkG (aI H A.d1 (.dK k)) C a A rk tn k k2 k3 k4 k5:=by
 obtain⟨a1,a2,a3,a4,a5⟩:=h.ne;obtain⟨ES,ET,EU,EV,EW,EX,EY,EZ,FC,FD⟩:=f.nn;exact⟨by rw[aB a1];exact h.ins,aA,by rw[aB ES.symm];exact h.g2,by rw[aB ET.symm];exact h.g3,by rw[aB EU.symm];exact h.g4,by rw[aB EV.symm];exact h.g5⟩
def WkG.put2{H0:Hp}(f:WkF H0 a A)(h:WkG H C a A rk tn k1 k2 k3 k4 k5)(k:List (aT×V)):WkG (aI H A.d2 (.dK k)) C a A rk tn k1 k k3 k4 k5:=by
 obtain⟨a1,a2,a3,a4,a5⟩:=h.ne;obtain⟨ES,ET,EU,EV,EW,EX,EY,EZ,FC,FD⟩:=f.nn;exact⟨by rw[aB a2];exact h.ins,by rw[aB ES];exact h.g1,aA,by rw[aB EW.symm];exact h.g3,by rw[aB EX.symm];exact h.g4,by rw[aB EY.symm];exact h.g5⟩
def WkG.put3{H0:Hp}(f:WkF H0 a A)(h:WkG H C a A rk tn k1 k2 k3 k4 k5)(k:List (aT×V)):WkG (aI H A.d3 (.dK k)) C a A rk tn k1 k2 k k4 k5:=by
 obtain⟨a1,a2,a3,a4,a5⟩:=h.ne;obtain⟨ES,ET,EU,EV,EW,EX,EY,EZ,FC,FD⟩:=f.nn;exact⟨by rw[aB a3];exact h.ins,by rw[aB ET];exact h.g1,by rw[aB EW];exact h.g2,aA,by rw[aB EZ.symm];exact h.g4,by rw[aB FC.symm];exact h.g5⟩
def WkG.put4{H0:Hp}(f:WkF H0 a A)(h:WkG H C a A rk tn k1 k2 k3 k4 k5)(k:List (aT×V)):WkG (aI H A.d4 (.dK k)) C a A rk tn k1 k2 k3 k k5:=by
 obtain⟨a1,a2,a3,a4,a5⟩:=h.ne;obtain⟨ES,ET,EU,EV,EW,EX,EY,EZ,FC,FD⟩:=f.nn;exact⟨by rw[aB a4];exact h.ins,by rw[aB EU];exact h.g1,by rw[aB EX];exact h.g2,by rw[aB EZ];exact h.g3,aA,by rw[aB FD.symm];exact h.g5⟩
def WkG.put5{H0:Hp}(f:WkF H0 a A)(h:WkG H C a A rk tn k1 k2 k3 k4 k5)(k:List (aT×V)):WkG (aI H A.d5 (.dK k)) C a A rk tn k1 k2 k3 k4 k:=by
 obtain⟨a1,a2,a3,a4,a5⟩:=h.ne;obtain⟨ES,ET,EU,EV,EW,EX,EY,EZ,FC,FD⟩:=f.nn;exact⟨by rw[aB a5];exact h.ins,by rw[aB EV];exact h.g1,by rw[aB EY];exact h.g2,by rw[aB FC];exact h.g3,by rw[aB FD];exact h.g4,aA⟩
def WkG.fld(h:WkG H C a A rk tn k1 k2 k3 k4 k5)(SJ SK:Nat):WkG (aI H a (.ins C A.dx (Zz A SJ SK))) C a A SJ SK k1 k2 k3 k4 k5:=by
 obtain⟨a1,a2,a3,a4,a5⟩:=h.ne;exact⟨aA,by rw[aB a1.symm];exact h.g1,by rw[aB a2.symm];exact h.g2,by rw[aB a3.symm];exact h.g3,by rw[aB a4.symm];exact h.g4,by rw[aB a5.symm];exact h.g5⟩
end
def Vg(ps:List RX):RX->Prop
 | .has z _=>∀z' m,.has z' m∈ps->z'.cps.toList<z.cps.toList
 | .kept n _ _ _ _ _=>∀n' t' p' k' d' y',.kept n' t' p' k' d' y'∈ps->n'<n
 | .came n _ _ _ _=>∀n' t' p' k' d',.came n' t' p' k' d'∈ps->n'<n
 | _=>False
def To:RX->Bool|.has _ _=>true|.kept _ _ _ _ _ _=>true|.came _ _ _ _ _=>true|_=>false
def rY(C:TD):Sp:=λvs H Q _=>∃(a b:TD)(H0:Hp)(A:WA)(ps:List RX)(r:RX),vs=[.ref a,.ref b]/\WkAt H0 H C a A ps/\r.At H b/\RX.Whole ps/\To r=true/\∀fb:Bool,(fb=true↔Vg ps r)->Q (.bl fb) H
def aBG{a b c:Str}(h1:a=b∨a.cps.toList<b.cps.toList)(h2:b.cps.toList<c.cps.toList):a.cps.toList<c.cps.toList:=by
 rcases h1 with rfl|h1
 ·exact h2
 ·exact List.lt_trans h1 h2
def Ho{C:TD}(B:Zy K C)(D:MethAt K C "rises" "Walk.rises" gD QZO):sF P w K mg base 1 C "rises" QZO (rY C):=by
 refine D.go sY (λvs H Q E h=>?_) (λf cdv A outer s H vs Q E hr h=>?_)
 ·obtain⟨a,b,H0,A,ps,r,rfl,_⟩:=h;rfl
 ·obtain⟨a,b,H0,A,ps,r,rfl,⟨_,_,k1,k2,k3,k4,k5,W,WP⟩,d8,hw,JY,q⟩:=h;have d6:=dP hr;obtain⟨xs,g,x0,x1,x2⟩:=eX d8;refine⟨_,(mv (nh (R.or (qm (R.fh d6) (mn (mr (K:=K)) (lc 1) ml) (qu (K:=K) (lc 0))) (vg (qm R.jb (mn (mr (K:=K)) (tj d6 (qu (K:=K) (lc 0)) (mn (mr (K:=K)) (lc 1) ml)) ml) (mn (mr (K:=K)) (lc 1) ml)))))),?_⟩;refine⟨_,QYM g,_,x0,C,A.dx,_,.ref A.d1,W.ins,B.cl,B.n1,rfl,_,DGet.k (k:=Sum.inr (bP r)) W.g1,?_⟩
  cases e:dZ ps (bP r) with
  | none=>
   rw[WP.last.no _ e];refine q true ⟨λ_=>?_,λ_=>rfl⟩
   cases r with
   | has z m=>exact λz' m' hm=>QZY e (jE (r:=.has z' m') hw hm)
   | kept n t p k d y=>exact λn' t' p' k' d' y' hm=>QZY e (jE (r:=.kept n' t' p' k' d' y') hw hm)
   | came n t p k d=>exact λn' t' p' k' d' hm=>QZY e (jE (r:=.came n' t' p' k' d') hw hm)
   | _=>cases JY
  | some r'=>
   obtain⟨b',hv,NM⟩:=WP.last.yes _ _ e;obtain⟨J3,DC⟩:=rW hw e;obtain⟨NF,g',x0',x1',NN⟩:=eX NM;have dg:=DGet.k (k:=Sum.inr (bP r)) W.g1;rw[hv]at dg ⊢;refine⟨C,A.dx,_,.ref A.d1,W.ins,B.cl,B.n1,rfl,_,QYM g,_,x0,A.d1,_,rfl,dg,_,QYM g',_,x1',_,QYM g,_,x1,?_⟩
   cases r with
   | has z m=>
    obtain⟨z',m',rfl⟩:=Bg DC;refine q _ ⟨λh z2 m2 nt=>?_,λh=>?_⟩
    ·exact aBG (Og hw e z2 m2 nt) (UV h)
    ·exact T8 (h _ _ J3)
   | kept n t p k d y=>
    obtain⟨n',t',p',k',d',y',rfl⟩:=Dm DC;refine q _ ⟨λh n2 t2 p2 k2 d2 y2 nt=>?_,λh=>?_⟩
    ·have:=Hm hw e _ _ _ _ _ _ nt;have h':(n':Int)<(n:Int):=UV h;omega
    ·exact T8 (by have:=h _ _ _ _ _ _ J3;omega)
   | came n t p k d=>
    obtain⟨n',t',p',k',d',rfl⟩:=iU DC;refine q _ ⟨λh n2 t2 p2 k2 d2 nt=>?_,λh=>?_⟩
    ·have:=Hn hw e _ _ _ _ _ nt;have h':(n':Int)<(n:Int):=UV h;omega
    ·exact T8 (by have:=h _ _ _ _ _ J3;omega)
   | _=>cases JY
def Dw(C:TD):Sp:=λvs H Q _=>∃(a b:TD)(H0:Hp)(A:WA)(ps:List RX)(n t:Nat)(p k:Str)(x:Dd)(y:An)(n0 t0:Nat),vs=[.ref a,.ref b]/\WkAt H0 H C a A ps/\RX.At H b (.kept n t p k x y)/\RX.Whole ps/\.next n0 t0∈ps/\∀fb:Bool,(fb=true↔Vg ps (.kept n t p k x y)/\n<n0/\t<=t0)->Q (.bl fb) H
def Oi{C:TD}(B:Zy K C)(t9:sF P w K mg base 1 C "rises" QZO (rY C))(D:MethAt K C "fits_kept" "Walk.fits_kept" dL QZO):sF P w K mg base 2 C "fits_kept" QZO (Dw C):=by
 refine D.go iN (λvs H Q E h=>?_) (λf cdv A outer s H vs Q E hr h=>?_)
 ·obtain⟨a,b,H0,A,ps,n,t,p,k,x,y,n0,t0,rfl,_⟩:=h;rfl
 ·obtain⟨a,b,H0,A,ps,n,t,p,k,x,y,n0,t0,rfl,WW,d8,hw,b6,q⟩:=h;have⟨_,_,k1,k2,k3,k4,k5,W,WP⟩:=WW;have d6:=dP hr;have j8:Room 1 _:=hr;obtain⟨b1,b2,g,_⟩:=id d8;have hl:dZ ps "next"=some (.next n0 t0):=by
   cases e:dZ ps "next" with
   | none=>exact QZY e (jE hw b6)
   | some r=>
    obtain⟨hm,DD⟩:=rW hw e;obtain⟨n',t',rfl⟩:=qB DD;obtain⟨rfl,rfl⟩:=uN hw hm b6;rfl
  obtain⟨b',hv,gn⟩:=WP.last.yes _ _ hl;have dg:=DGet.k (k:=Sum.inr ("next":Str)) W.g1;rw[hv]at dg;refine⟨_,(mo (ng (i:=2) iN.nd (tj d6 (qu (K:=K) (lc 0)) mq)) (mv (nh (vf (AN t9 j8 (lc 0) (li (lc 1) mm)) (vf (qm R.lt (mn (mr (K:=K)) (lc 1) ml) (mn (mr (K:=K)) (lc 2) ml)) (vg (qm R.le (mn (mr (K:=K)) (lc 1) ml) (mn (mr (K:=K)) (lc 2) ml)))))))),?_⟩;refine⟨C,A.dx,_,.ref A.d1,W.ins,B.cl,B.n1,rfl,A.d1,_,rfl,dg,?_⟩;dsimp only [aJ];refine⟨A.dx,_,W.ins,rfl,a,b,H0,A,ps,_,rfl,WW,d8,hw,rfl,λfb ph=>?_⟩;show if fb=true then _ else _
  cases fb with
  | false=>exact q false ⟨nofun,λz=>ph.mpr z.1⟩
  | true=>
   have JY:=ph.mp rfl;refine⟨_,QYM g,_,rfl,_,QYM gn,_,rfl,?_⟩;refine bG (λh=>?_) (λh=>?_)
   ·refine⟨_,QYM g,_,rfl,_,QYM gn,_,rfl,?_⟩;refine q _ ⟨λz=>⟨JY,?_,?_⟩,λz=>?_⟩
    ·have:=UV h;omega
    ·have:=UV z;omega
    ·exact T8 (by have:=z.2.2;omega)
   ·exact q false ⟨nofun,λz=>QZY (UF h) (by have:=z.2.1;omega)⟩
def Oj(C:TD):Sp:=λvs H Q _=>∃(a b:TD)(H0:Hp)(A:WA)(ps:List RX)(n t:Nat)(y:An)(t0:Nat)(p k:Str)(x:Dd),vs=[.ref a,.ref b]/\WkAt H0 H C a A ps/\RX.At H b (.done n t y)/\RX.Whole ps/\Du y/\x.Ok/\.came n t0 p k x∈ps/\∀(fb:Bool)(H':Hp),(fb=true↔An.Of x y/\(x.far=true->(.asked n∈ps↔y.early=false)))->Same H H'->Q (.bl fb) H'
def Tp{y:An}:∃u,mU y.vs 0=some (.str u)/\mM (.str u) UAW=y.early:=by
 cases y with
 | is1 m=>exact⟨"is",rfl,rfl⟩
 | is2 l m=>exact⟨"is",rfl,rfl⟩
 | short m=>exact⟨"short",rfl,rfl⟩
 | full m=>exact⟨"full",rfl,rfl⟩
 | no h=>exact⟨"no",rfl,rfl⟩
 | ok=>exact⟨"ok",rfl,rfl⟩
def Dx{H:Hp}{C a:TD}{A:WA}{ps:List RX}{rk tn:Nat}{k1 k2 k3 k4 k5:List (aT×V)}(g:WkG H C a A rk tn k1 k2 k3 k4 k5)(h:WkP H ps k1 k2 k3 k4 k5)(hw:RX.Whole ps){n t:Nat}{p k:Str}{x:Dd}(hm:.came n t p k x∈ps):∃b,DGet H A.d3 (.int (n:Int)) (some (.ref b))/\H b=some (.tup x.vs):=by
 have dg:=DGet.k (k:=Sum.inl (n:Int)) g.g3
 cases e:bA k3 (Sum.inl (n:Int)) with
 | none=>exact QZY hm (h.came.no n e t p k x)
 | some v=>
  obtain⟨b,t',p',k',x',rfl,h2,h3⟩:=h.came.yes n v e;have:=eE hw hm h3;cases this;rw[e]at dg;exact⟨b,dg,h2⟩
def Ol{b c:Bool}{p:Prop}(h:b=true↔p):(!decide (b=c))=true↔(p↔c=false):=by
 cases b<;>cases c<;>simp_all
def Tq{C:TD}(T:Txt K mg)(U:Top w.params K mg)(B:Zy K C)(pj:aG P w K mg base 4 "is_answer" QZm Ct)(y6:aG P w K mg base 1 "asks_of" QZN vW)(D:MethAt K C "fits_answer" "Walk.fits_answer" cS QZO):sF P w K mg base 5 C "fits_answer" QZO (Oj C):=by
 refine D.go dQ (λvs H Q E h=>?_) (λf cdv A outer s H vs Q E hr h=>?_)
 ·obtain⟨a,b,H0,A,ps,n,t,y,t0,p,k,x,rfl,_⟩:=h;rfl
 ·obtain⟨a,b,H0,A,ps,n,t,y,t0,p,k,x,rfl,⟨_,_,k1,k2,k3,k4,k5,W,WP⟩,d8,hw,hy,hx,hm,q⟩:=h;have d6:=dP hr;have Y2:Room 4 _:=hr;have u4:Room 1 _:=hr.mono Zd;obtain⟨aU,P9,tU⟩:=U.g_UNASKED_WORDS;obtain⟨c,g,gc⟩:=id d8;obtain⟨bd,dg,gd⟩:=Dx W WP hw hm;refine⟨_,(mo (ng (i:=2) dQ.nd (tj d6 (qu (K:=K) (lc 0)) (mn (mr (K:=K)) (lc 1) ml))) (mo (nk (ut (tm (mz pj Y2 rfl (li (lc 2) (li (mn (mr (K:=K)) (lc 1) ml) mm))))) (mv (nh qy)) nw) (mo (ng (i:=3) dQ.nd (qm (R.eh d6) (mn (mr (K:=K)) (lc 1) ml) (qu (K:=K) (lc 0)))) (mv (nh (R.or (qm pi (ql (sn (K:=K)) rfl T.b_len cD (li (mz y6 u4 rfl (li (lc 2) mm)) mm)) ml) (vg (qm R.ne (lc 3) (qm (sw (K:=K)) (mn (mr (K:=K)) (mn (mr (K:=K)) (lc 1) ml) ml) (R.gR rfl P9)))))))))),?_⟩;refine⟨C,A.dx,_,.ref A.d3,W.ins,B.cl,B.n5,rfl,_,QYM g,_,rfl,A.d3,_,rfl,dg,?_⟩;dsimp only [aJ];refine⟨_,QYM g,_,rfl,bd,x.wd,x.n,x.vs,kE x,.ref c,rfl,gd,Bn hx,aBD gc hy,λH1 s1=>?_⟩;have ea:Ar H x.wd ((kE x).map (·.1)) (x.n:Int) (.ref c)=Gc x.wd ((kE x).map (·.1)) (x.n:Int) y.vs:=by unfold Ar;rw[qY gc]
  rw[ea];have NO:=Zx (y:=y) hx;generalize Gc x.wd ((kE x).map (·.1)) (x.n:Int) y.vs=ab at NO;cases ab with
  | false=>exact q false H1 ⟨nofun,λz=>NO.mpr z.1⟩ s1
  | true=>
   have EM:=NO.mp rfl;have W1:=W.same s1;refine⟨_,QYM (s1 _ _ g),_,rfl,C,A.dx,_,.ref A.d4,W1.ins,B.cl,B.n6,rfl,_,DGet.k (k:=Sum.inl (n:Int)) W1.g4,?_⟩;have wj:=WP.asked n;dsimp only [aJ];obtain⟨cs,vk⟩:=(Bn hx).dwx;refine⟨bd,x.wd,x.vs,cs,kE x,rfl,s1 _ _ gd,vk,λtu us H2 s2 g2 ha=>⟨us,.inr (QYM g2),?_⟩⟩;have JZ:=s1.trans s2;have hlen:=ha.length;have X2:=zD x;show if decide ((us.length:Int)=0)=true then _ else _
   refine bG (λh=>?_) (λh=>?_)
   ·refine q true H2 ⟨λ_=>⟨EM,λz=>?_⟩,λ_=>rfl⟩ JZ;have:=UV h;have:=X2.mp Zo;rw[this]at z;cases z
   ·have hf:x.far=true:=by
     cases e:x.far with
     | true=>rfl
     | false=>
      have:=X2.mpr e;exact QZY (UF h) Zo
    obtain⟨u,hu0,SM⟩:=Tp (y:=y);refine⟨_,QYM (JZ _ _ g),_,rfl,_,QYM (JZ _ _ gc),_,hu0,aU,_,rfl,.inr (tU _),rfl,rfl,?_⟩;refine q _ H2 ⟨λz=>⟨EM,λ_=>?_⟩,λz=>?_⟩ JZ
    ·exact(Ol wj).mp (SM▸z)
    ·have:=(Ol wj).mpr (z.2 hf);rw[<- SM]at this;exact this
def Dy(C:TD):Sp:=λvs H Q _=>∃(a b:TD)(H0:Hp)(A:WA)(ps:List RX)(r:RX),vs=[.ref a,.ref b]/\WkAt H0 H C a A ps/\r.At H b/\RX.Whole ps/\(∀q∈ps,Dv q)/\Dv r/\∀(fb:Bool)(H':Hp),(fb=true↔RX.Fits ps r)->Same H H'->Q (.bl fb) H'
def Tr(r:RX):RKS.lookup (bP r)=some (r.rank:Int):=by cases r<;>rfl
def Om{C:TD}(T:Txt K mg)(U:Top w.params K mg)(B:Zy K C)(t9:sF P w K mg base 1 C "rises" QZO (rY C))(M4:sF P w K mg base 2 C "fits_kept" QZO (Dw C))(J5:sF P w K mg base 5 C "fits_answer" QZO (Oj C))(y6:aG P w K mg base 1 "asks_of" QZN vW)(D:MethAt K C "fits" "Walk.fits" iE QZO):sF P w K mg base 6 C "fits" QZO (Dy C):=by
 refine D.go nJ (λvs H Q E h=>?_) (λf cdv A outer s H vs Q E hr h=>?_)
 ·obtain⟨a,b,H0,A,ps,r,rfl,_⟩:=h;rfl
 ·obtain⟨a,b,H0,A,ps,r,rfl,WW,d8,hw,SN,SO,q⟩:=h;have⟨_,_,k1,k2,k3,k4,k5,W,WP⟩:=WW;have d6:=dP hr;have j8:Room 1 _:=hr.mono Zd;have L3:Room 2 _:=hr.mono Zd;have J0:Room 5 _:=hr;have u4:Room 1 _:=hr.mono Zd;obtain⟨aR,Y3,tR⟩:=U.g_RANKS;have sr:=Same.refl H;have b6:(bA k1 (Sum.inr ("next":Str))).isSome=true↔∃n t,.next n t∈ps:=by
   constructor
   ·intro h;cases e:dZ ps "next" with
    | none=>rw[WP.last.no _ e]at h;cases h
    | some r'=>
     obtain⟨hm,DD⟩:=rW hw e;obtain⟨n',t',rfl⟩:=qB DD;exact⟨n',t',hm⟩
   ·rintro⟨n,t,hm⟩
    cases e:dZ ps "next" with
    | none=>exact QZY e (jE hw hm)
    | some r'=>obtain⟨b',hv,_⟩:=WP.last.yes _ _ e;rw[hv];rfl
  have KA:∀n:Nat,(bA k3 (Sum.inl (n:Int))).isSome=true↔∃t p k x,.came n t p k x∈ps:=λn=>by
   constructor
   ·intro h;cases e:bA k3 (Sum.inl (n:Int)) with
    | none=>rw[e]at h;cases h
    | some v=>obtain⟨b,t,p,k,x,_,_,hm⟩:=WP.came.yes n v e;exact⟨t,p,k,x,hm⟩
   ·rintro⟨t,p,k,x,hm⟩
    cases e:bA k3 (Sum.inl (n:Int)) with
    | none=>exact QZY hm (WP.came.no n e _ _ _ _)
    | some v=>rfl
  refine⟨_,(mo (ng (i:=2) nJ.nd (mn (mr (K:=K)) (lc 1) ml)) (mo (nk (ni pi (lc 2) mq) (mv (nh (qm pi (ql R.jc rfl T.b_len cD (li (qu (K:=K) (lc 0)) mm)) ml))) nw) (mo (nk (ni R.lt (mn (R.jj (K:=K) (P:=w.params)) (R.gR rfl Y3) (lc 2)) (qu (K:=K) (lc 0))) (mv (nh qy)) nw) (mo (nk (ni pi (lc 2) mq) (mv (nh (vf (qm (R.eh d6) mq (qu (K:=K) (lc 0))) (vg (AN t9 j8 (lc 0) (li (lc 1) mm)))))) nw) (mo (nk (ni pi (lc 2) mq) (mv (nh (vf (qm (R.eh d6) mq (qu (K:=K) (lc 0))) (vg (AN M4 L3 (lc 0) (li (lc 1) mm)))))) nw) (mo (nk (ni pi (lc 2) mq) (mv (nh (vf (AN t9 j8 (lc 0) (li (lc 1) mm)) (vf (qm (R.fh d6) (mn (mr (K:=K)) (lc 1) ml) (qu (K:=K) (lc 0))) (vg (qm R.ge (mn (mr (K:=K)) (lc 1) ml) (qu (K:=K) (lc 0)))))))) nw) (mo (nk (re (xz (ni (R.fh d6) (mn (mr (K:=K)) (lc 1) ml) (qu (K:=K) (lc 0))) (AO (ni (R.eh d6) (mn (mr (K:=K)) (lc 1) ml) (qu (K:=K) (lc 0)))))) (mv (nh qy)) nw) (mo (nk (ni pi (lc 2) mq) (mv (nh (vf (qm (R.fh d6) (mn (mr (K:=K)) (lc 1) ml) (qu (K:=K) (lc 0))) (vg (qm NE (ql (sn (K:=K)) rfl T.b_len cD (li (mz y6 u4 rfl (li (tj d6 (qu (K:=K) (lc 0)) (mn (mr (K:=K)) (lc 1) ml)) mm)) mm)) ml))))) nw) (mv (nh (vf (qm R.ge (mn (mr (K:=K)) (lc 1) ml) (qu (K:=K) (lc 0))) (vg (AN J5 J0 (lc 0) (li (lc 1) mm)))))))))))))),?_⟩
  cases r with
  | next n t=>
   refine⟨_,QYM d8,_,rfl,?_⟩;dsimp only [aJ];refine⟨C,A.dx,_,.ref A.d1,W.ins,B.cl,B.n1,rfl,_,W.g1,?_⟩;refine q _ H ⟨λz=>?_,λz=>?_⟩ sr
   ·exact WP.last.em.mp (by have:=UV z;omega)
   ·exact T8 (by have:=WP.last.em.mpr z;omega)
  | has z m=>
   refine⟨_,QYM d8,_,rfl,?_⟩;dsimp only [aJ];refine⟨RKS,1,tR,rfl,C,A.dx,_,.int (cP ps:Int),W.ins,B.cl,B.n2,rfl,?_⟩;refine bG (λh=>?_) (λh=>?_)
   ·refine q false H ⟨nofun,λz=>?_⟩ sr;have:=(hZ hw 1).mp z.1;exact QZY (UV h) Zo
   ·have NP:cP ps<=1:=by have:=UF h;omega
    refine⟨C,A.dx,_,.ref A.d1,W.ins,B.cl,B.n1,rfl,_,DGet.k (k:=Sum.inr ("next":Str)) W.g1,?_⟩;show if (bA k1 (Sum.inr ("next":Str))).isSome=true then _ else _
    refine bG (λh1=>?_) (λh1=>?_)
    ·refine⟨A.dx,_,W.ins,rfl,a,b,H0,A,ps,_,rfl,WW,d8,hw,rfl,λfb ph=>?_⟩;exact q fb H ⟨λz=>⟨(hZ hw 1).mpr NP,b6.mp h1,ph.mp z⟩,λz=>ph.mpr z.2.2⟩ sr
    ·refine q false H ⟨nofun,λz=>?_⟩ sr;rw[b6.mpr z.2.1]at h1;cases h1
  | kept n t p k x y=>
   obtain⟨b1,b2,g,_⟩:=id d8;refine⟨_,QYM g,_,rfl,?_⟩;dsimp only [aJ];refine⟨RKS,2,tR,rfl,C,A.dx,_,.int (cP ps:Int),W.ins,B.cl,B.n2,rfl,?_⟩;refine bG (λh=>?_) (λh=>?_)
   ·refine q false H ⟨nofun,λz=>?_⟩ sr;have:=(hZ hw 2).mp z.1;exact QZY (UV h) Zo
   ·have NP:cP ps<=2:=by have:=UF h;omega
    refine⟨C,A.dx,_,.ref A.d1,W.ins,B.cl,B.n1,rfl,_,DGet.k (k:=Sum.inr ("next":Str)) W.g1,?_⟩;show if (bA k1 (Sum.inr ("next":Str))).isSome=true then _ else _
    refine bG (λh1=>?_) (λh1=>?_)
    ·obtain⟨n0,t0,HI⟩:=b6.mp h1;refine⟨A.dx,_,W.ins,rfl,a,b,H0,A,ps,n,t,p,k,x,y,n0,t0,rfl,WW,d8,hw,HI,λfb ph=>?_⟩;refine q fb H ⟨λz=>?_,λz=>ph.mpr ?_⟩ sr
     ·obtain⟨h2,h3,h4⟩:=ph.mp z;exact⟨(hZ hw 2).mpr NP,⟨n0,t0,HI,h3,h4⟩,h2,SO.2⟩
     ·obtain⟨_,⟨n',t',J3,h3,h4⟩,h2,_⟩:=z;obtain⟨rfl,rfl⟩:=uN hw J3 HI;exact⟨h2,h3,h4⟩
    ·refine q false H ⟨nofun,λz=>?_⟩ sr;obtain⟨n',t',J3,_⟩:=z.2.1;rw[b6.mpr ⟨_,_,J3⟩]at h1;cases h1
  | came n t p k x=>
   obtain⟨b1,g,_⟩:=id d8;refine⟨_,QYM g,_,rfl,?_⟩;dsimp only [aJ];refine⟨RKS,3,tR,rfl,C,A.dx,_,.int (cP ps:Int),W.ins,B.cl,B.n2,rfl,?_⟩;refine bG (λh=>?_) (λh=>?_)
   ·exact QZY (UV h) (by have:=(hZ hw 3).mp (λq _=>by cases q<;>exact QZX rfl);omega)
   ·refine⟨A.dx,_,W.ins,rfl,a,b,H0,A,ps,_,rfl,WW,d8,hw,rfl,λfb ph=>?_⟩;show if fb=true then _ else _
    cases fb with
    | false=>exact q false H ⟨nofun,λz=>ph.mpr z.1⟩ sr
    | true=>
     refine⟨_,QYM g,_,rfl,C,A.dx,_,.ref A.d2,W.ins,B.cl,B.n4,rfl,_,DGet.k (k:=Sum.inl (n:Int)) W.g2,?_⟩;have hk:=WP.kept n;show if (!(bA k2 (Sum.inl (n:Int))).isSome)=true then _ else _
     refine bG (λh1=>?_) (λh1=>?_)
     ·refine⟨_,QYM g,_,rfl,C,A.dx,_,.int (cM ps:Int),W.ins,B.cl,B.n3,rfl,?_⟩;refine q _ H ⟨λz=>⟨ph.mp rfl,λt' p' k' d' y' hm=>?_,?_⟩,λz=>?_⟩ sr
      ·rw[hk.mpr ⟨_,_,_,_,_,hm⟩]at h1;cases h1
      ·exact(nP hw t).mpr (by have:=UV z;omega)
      ·exact T8 (by have:=(nP hw t).mp z.2.2;omega)
     ·refine q false H ⟨nofun,λz=>?_⟩ sr;obtain⟨t',p',k',x',y',hm⟩:=hk.mp (by simpa using h1);exact QZY hm (z.2.1 _ _ _ _ _)
  | asked n=>
   refine⟨_,QYM d8,_,rfl,?_⟩;dsimp only [aJ];refine⟨RKS,3,tR,rfl,C,A.dx,_,.int (cP ps:Int),W.ins,B.cl,B.n2,rfl,?_⟩;refine bG (λh=>?_) (λh=>?_)
   ·exact QZY (UV h) (by have:=(hZ hw 3).mp (λq _=>by cases q<;>exact QZX rfl);omega)
   ·refine⟨_,QYM d8,_,rfl,C,A.dx,_,.ref A.d3,W.ins,B.cl,B.n5,rfl,_,DGet.k (k:=Sum.inl (n:Int)) W.g3,?_⟩;show if (!(bA k3 (Sum.inl (n:Int))).isSome)=true then _ else _
    refine bG (λh1=>?_) (λh1=>?_)
    ·refine q false H ⟨nofun,λz=>?_⟩ sr;obtain⟨⟨t,p,k,x,hm,_⟩,_⟩:=z;rw[(KA n).mpr ⟨_,_,_,_,hm⟩]at h1;cases h1
    ·obtain⟨t,p,k,x,hm⟩:=(KA n).mp (by simpa using h1);refine⟨_,QYM d8,_,rfl,C,A.dx,_,.ref A.d5,W.ins,B.cl,B.n7,rfl,_,DGet.k (k:=Sum.inl (n:Int)) W.g5,?_⟩;have hd:=WP.done n;show if (bA k5 (Sum.inl (n:Int))).isSome=true then _ else _
     refine bG (λh2=>?_) (λh2=>?_)
     ·refine q false H ⟨nofun,λz=>?_⟩ sr;obtain⟨t',y',J3⟩:=hd.mp h2;exact QZY J3 (z.2.2 _ _)
     ·have NQ:∀t y,.done n t y∉ps:=λt y J3=>by rw[hd.mpr ⟨_,_,J3⟩]at h2;cases h2
      refine⟨_,QYM d8,_,rfl,C,A.dx,_,.ref A.d4,W.ins,B.cl,B.n6,rfl,_,DGet.k (k:=Sum.inl (n:Int)) W.g4,?_⟩;have hk:=WP.asked n;show if (!(bA k4 (Sum.inl (n:Int))).isSome)=true then _ else _
      refine bG (λh3=>?_) (λh3=>?_)
      ·have noa:.asked n∉ps:=λJ3=>by rw[hk.mpr J3]at h3;cases h3
       obtain⟨bd,dg,gd⟩:=Dx W WP hw hm;have hx:x.Ok:=SN _ hm;obtain⟨cs,vk⟩:=(Bn hx).dwx;refine⟨C,A.dx,_,.ref A.d3,W.ins,B.cl,B.n5,rfl,_,QYM d8,_,rfl,A.d3,_,rfl,dg,bd,x.wd,x.vs,cs,kE x,rfl,gd,vk,λtu us H2 s2 g2 ha=>⟨us,.inr (QYM g2),?_⟩⟩;have hlen:=ha.length;have X2:=zD x;refine q _ H2 ⟨λz=>⟨⟨t,p,k,x,hm,?_⟩,noa,NQ⟩,λz=>?_⟩ s2
       ·cases e:x.far with
        | true=>rfl
        | false=>have:=X2.mpr e;have:=UV z;omega
       ·obtain⟨⟨t',p',k',x',J3,SQ⟩,_⟩:=z;have:=eE hw hm J3;cases this;refine T8 ?_;have:(kE x).length≠0:=λz=>by rw[X2.mp z]at SQ;cases SQ
        omega
      ·refine q false H ⟨nofun,λz=>?_⟩ sr;exact QZY (hk.mp (by simpa using h3)) z.2.1
  | done n t y=>
   obtain⟨b1,g,_⟩:=id d8;refine⟨_,QYM g,_,rfl,?_⟩;dsimp only [aJ];refine⟨RKS,3,tR,rfl,C,A.dx,_,.int (cP ps:Int),W.ins,B.cl,B.n2,rfl,?_⟩;refine bG (λh=>?_) (λh=>?_)
   ·exact QZY (UV h) (by have:=(hZ hw 3).mp (λq _=>by cases q<;>exact QZX rfl);omega)
   ·refine⟨_,QYM g,_,rfl,C,A.dx,_,.ref A.d3,W.ins,B.cl,B.n5,rfl,_,DGet.k (k:=Sum.inl (n:Int)) W.g3,?_⟩;show if (!(bA k3 (Sum.inl (n:Int))).isSome)=true then _ else _
    refine bG (λh1=>?_) (λh1=>?_)
    ·refine q false H ⟨nofun,λz=>?_⟩ sr;obtain⟨_,_,t,p,k,x,hm,_⟩:=z;rw[(KA n).mpr ⟨_,_,_,_,hm⟩]at h1;cases h1
    ·obtain⟨t0,p,k,x,hm⟩:=(KA n).mp (by simpa using h1);refine⟨_,QYM g,_,rfl,C,A.dx,_,.ref A.d5,W.ins,B.cl,B.n7,rfl,_,DGet.k (k:=Sum.inl (n:Int)) W.g5,?_⟩;have hd:=WP.done n;show if (bA k5 (Sum.inl (n:Int))).isSome=true then _ else _
     refine bG (λh2=>?_) (λh2=>?_)
     ·refine q false H ⟨nofun,λz=>?_⟩ sr;obtain⟨t',y',J3⟩:=hd.mp h2;exact QZY J3 (z.2.1 _ _)
     ·have NQ:∀t y,.done n t y∉ps:=λt y J3=>by rw[hd.mpr ⟨_,_,J3⟩]at h2;cases h2
      refine⟨_,QYM g,_,rfl,C,A.dx,_,.int (cM ps:Int),W.ins,B.cl,B.n3,rfl,?_⟩;refine bG (λh3=>?_) (λh3=>?_)
      ·have ht:=(nP hw t).mpr (by have:=UV h3;omega);refine⟨A.dx,_,W.ins,rfl,a,b,H0,A,ps,n,t,y,t0,p,k,x,rfl,WW,d8,hw,SO,SN _ hm,hm,λfb H' ph s'=>?_⟩;refine q fb H' ⟨λz=>⟨ht,NQ,t0,p,k,x,hm,ph.mp z⟩,λz=>?_⟩ s';obtain⟨_,_,t',p',k',x',J3,hz⟩:=z;have:=eE hw hm J3;cases this;exact ph.mpr hz
      ·refine q false H ⟨nofun,λz=>?_⟩ sr;have:=(nP hw t).mp z.1;exact QZY (UF h3) Zo
def s2K(k:List (aT×V)):RX->List (aT×V)|.kept n _ _ _ _ _=>bJ k (Sum.inl (n:Int)) (.bl true)|_=>k
def s3K(k:List (aT×V))(bd:TD):RX->List (aT×V)|.came n _ _ _ _=>bJ k (Sum.inl (n:Int)) (.ref bd)|_=>k
def s4K(k:List (aT×V)):RX->List (aT×V)|.asked n=>bJ k (Sum.inl (n:Int)) (.bl true)|_=>k
def s5K(k:List (aT×V)):RX->List (aT×V)|.done n _ _=>bJ k (Sum.inl (n:Int)) (.bl true)|_=>k
def NumK.put{k:List (aT×V)}{p q:Nat->Prop}(h:NumK k p)(n:Nat)(v:V)(hq:∀m,q m↔p m∨m=n):NumK (bJ k (Sum.inl (n:Int)) v) q:=by
 intro m;rw[cW,hq];by_cases e:m=n
 ·subst e;rw[P0 rfl];simp
 ·rw[QZZ (λz=>e (by have:=Sum.inl.inj z;omega)),h m];exact⟨.inl,λz=>z.resolve_right e⟩
def NumK.iff{k:List (aT×V)}{p q:Nat->Prop}(h:NumK k p)(hq:∀m,q m↔p m):NumK k q:=λm=>by rw[hq];exact h m
def On(k:List (aT×V))(x:aT)(v:V):(bJ k x v).length≠0:=by
 unfold bJ;split
 ·rename_i h
  cases k with
  | nil=>cases h
  | cons y r=>simp
 ·simp
def bZ{α:Type}{l:List α}{x y:α}:x∈l++[y]↔x∈l∨x=y:=by simp
def WkP.step{H H':Hp}{ps:List RX}{k1 k2 k3 k4 k5:List (aT×V)}(h:WkP H ps k1 k2 k3 k4 k5)(s:TK H H'){r:RX}{b bd:TD}(hr:r.At H' b)(hb:∀n t p k x,r=.came n t p k x->H' bd=some (.tup x.vs))  :
  WkP H' (ps++[r]) (bJ k1 (Sum.inr (bP r)) (.ref b)) (s2K k2 r) (s3K k3 bd r) (s4K k4 r) (s5K k5 r):=by
 have h':=h.tk s;have lp:∀(k:List (aT×V))(x:aT)(v:V),k.length<=ps.length->(bJ k x v).length<=(ps++[r]).length:=λk x v l=>by have:=cQ k x v;rw[mO];simp;omega
 have ls:∀(k:List (aT×V)),k.length<=ps.length->k.length<=(ps++[r]).length:=λk l=>by rw[mO];omega
 refine⟨lp _ _ _ h.l1,?_,?_,?_,?_,⟨⟨λz=>QZY z (On _ _ _),λz=>by simp at z⟩,λw e=>?_,λw q e=>?_⟩,?_,⟨λn e t p k x hm=>?_,λn v e=>?_⟩,?_,?_⟩
 ·cases r<;>first|exact lp _ _ _ h.l2|exact ls _ h.l2
 ·cases r<;>first|exact lp _ _ _ h.l3|exact ls _ h.l3
 ·cases r<;>first|exact lp _ _ _ h.l4|exact ls _ h.l4
 ·cases r<;>first|exact lp _ _ _ h.l5|exact ls _ h.l5
 ·rw[dH]at e;split at e
  ·cases e
  ·rename_i v7;rw[cW,QZZ (λz=>v7 (Sum.inr.inj z).symm)];exact h'.last.no w e
 ·rw[dH]at e;split at e
  ·rename_i hw;cases e;rw[cW,P0 (by rw[hw])];exact⟨b,rfl,hr⟩
  ·rename_i v7;rw[cW,QZZ (λz=>v7 (Sum.inr.inj z).symm)];exact h'.last.yes w q e
 ·cases r with
  | kept n t p k x y=>
   refine h.kept.put n _ λm=>⟨?_,λz=>?_⟩
   ·rintro ⟨t',p',k',x',y',hm⟩;rcases bZ.mp hm with hm|hm
    ·exact .inl ⟨_,_,_,_,_,hm⟩
    ·cases hm;exact .inr rfl
   ·rcases z with⟨t',p',k',x',y',hm⟩|rfl
    ·exact⟨_,_,_,_,_,bZ.mpr (.inl hm)⟩
    ·exact⟨_,_,_,_,_,bZ.mpr (.inr rfl)⟩
  | _=>
   refine h.kept.iff λm=>⟨?_,λ⟨t',p',k',x',y',hm⟩=>⟨_,_,_,_,_,bZ.mpr (.inl hm)⟩⟩;rintro ⟨t',p',k',x',y',hm⟩;rcases bZ.mp hm with hm|hm
   ·exact⟨_,_,_,_,_,hm⟩
   ·cases hm
 ·cases r with
  | came n1 t1 p1 yd x1=>
   change bA (bJ k3 (Sum.inl (n1:Int)) (.ref bd)) _=none at e;rw[cW]at e;split at e
   ·cases e
   ·rename_i v7;rcases bZ.mp hm with hm|hm
    ·exact h.came.no n e _ _ _ _ hm
    ·cases hm;exact v7 rfl
  | _=>
   rcases bZ.mp hm with hm|hm
   ·exact h.came.no n e _ _ _ _ hm
   ·cases hm
 ·cases r with
  | came n1 t1 p1 yd x1=>
   change bA (bJ k3 (Sum.inl (n1:Int)) (.ref bd)) _=some v at e;rw[cW]at e;split at e
   ·rename_i he;have:n=n1:=by have:=Sum.inl.inj he;omega
    subst this;cases e;exact⟨bd,t1,p1,yd,x1,rfl,hb _ _ _ _ _ rfl,bZ.mpr (.inr rfl)⟩
   ·obtain⟨b',t',p',k',x',h1,h2,h3⟩:=h'.came.yes n v e;exact⟨b',t',p',k',x',h1,h2,bZ.mpr (.inl h3)⟩
  | _=>
   obtain⟨b',t',p',k',x',h1,h2,h3⟩:=h'.came.yes n v e;exact⟨b',t',p',k',x',h1,h2,bZ.mpr (.inl h3)⟩
 ·cases r with
  | asked n=>
   refine h.asked.put n _ λm=>⟨λhm=>?_,λz=>?_⟩
   ·rcases bZ.mp hm with hm|hm
    ·exact .inl hm
    ·cases hm;exact .inr rfl
   ·rcases z with hm|rfl
    ·exact bZ.mpr (.inl hm)
    ·exact bZ.mpr (.inr rfl)
  | _=>
   refine h.asked.iff λm=>⟨λhm=>?_,λhm=>bZ.mpr (.inl hm)⟩;rcases bZ.mp hm with hm|hm
   ·exact hm
   ·cases hm
 ·cases r with
  | done n t y=>
   refine h.done.put n _ λm=>⟨?_,λz=>?_⟩
   ·rintro ⟨t',y',hm⟩;rcases bZ.mp hm with hm|hm
    ·exact .inl ⟨_,_,hm⟩
    ·cases hm;exact .inr rfl
   ·rcases z with⟨t',y',hm⟩|rfl
    ·exact⟨_,_,bZ.mpr (.inl hm)⟩
    ·exact⟨_,_,bZ.mpr (.inr rfl)⟩
  | _=>
   refine h.done.iff λm=>⟨?_,λ⟨t',y',hm⟩=>⟨_,_,bZ.mpr (.inl hm)⟩⟩;rintro ⟨t',y',hm⟩;rcases bZ.mp hm with hm|hm
   ·exact⟨_,_,hm⟩
   ·cases hm
def Dz(C:TD):Sp:=λvs H Q _=>∃(a b:TD)(H0:Hp)(A:WA)(ps:List RX)(r:RX),vs=[.ref a,.ref b]/\WkAt H0 H C a A ps/\r.At H0 b/\ps.length<=200/\∀(v:V)(H':Hp),WkAt H0 H' C a A (ps++[r])->Q v H'
def rZ{H:Hp}{a:TD}{k:List (aT×V)}{o:HO}(h:H a=some (.dK k)):TK H (aI H a o):=λb xs e=>by rw[aB (cV e h nofun)];exact e
def Oo{H:Hp}{a C dx:TD}{fs:List (Str×V)}{o:HO}(h:H a=some (.ins C dx fs)):TK H (aI H a o):=λb xs e=>by rw[aB (cV e h nofun)];exact e
def Op{C:TD}(T:Txt K mg)(U:Top w.params K mg)(B:Zy K C)(D:MethAt K C "step" "Walk.step" iF QZO):sF P w K mg base 1 C "step" QZO (Dz C):=by
 refine D.go nK (λvs H Q E h=>?_) (λf cdv A outer s H vs Q E hr h=>?_)
 ·obtain⟨a,b,H0,A,ps,r,rfl,_⟩:=h;rfl
 ·obtain⟨a,b,H0,A,ps,r,rfl,⟨WF,s0,k1,k2,k3,k4,k5,W,WP⟩,NR,hl,q⟩:=h;have d6:=dP hr;obtain⟨aR,Y3,tR⟩:=U.g_RANKS;have d8:=NR.tk s0.tk;obtain⟨xs,g,x0,x1,x2⟩:=eX d8;have ot:=WP.l1;have x9:=WP.l2;have JL:=WP.l3;have hl4:=WP.l4;have hl5:=WP.l5;have sz:∀(k:List (aT×V)),k.length<=ps.length->k.length<sizeLine:=λk h=>nS (m:=1000) Zo Zd
  refine⟨_,(mo (ng (i:=2) nK.nd (mn (mr (K:=K)) (lc 1) ml)) (mo (tz (lc 1) (uc (qu (K:=K) (lc 0)) (lc 2) (wl d6))) (mo (xt (K:=K) (lc 0) (mn (R.jj (K:=K) (P:=w.params)) (R.gR rfl Y3) (lc 2))) (mo (nk (ni (sw (K:=K)) (lc 2) (nj (li mq (li mq (li mq mm))))) (mv (xt (K:=K) (lc 0) (mn (mr (K:=K)) (lc 1) ml))) nw) (mo (nk (ni pi (lc 2) mq) (mv (tz qy (uc (qu (K:=K) (lc 0)) (mn (mr (K:=K)) (lc 1) ml) (wl d6)))) nw) (mo (nk (ni pi (lc 2) mq) (mv (tz (mn (mr (K:=K)) (lc 1) ml) (uc (qu (K:=K) (lc 0)) (mn (mr (K:=K)) (lc 1) ml) (wl d6)))) nw) (mo (nk (ni pi (lc 2) mq) (mv (tz qy (uc (qu (K:=K) (lc 0)) (mn (mr (K:=K)) (lc 1) ml) (wl d6)))) nw) (mv (nk (ni pi (lc 2) mq) (mv (tz qy (uc (qu (K:=K) (lc 0)) (mn (mr (K:=K)) (lc 1) ml) (wl d6)))) nw))))))))),?_⟩;refine⟨_,QYM g,_,x0,?_⟩;dsimp only [aJ];refine⟨C,A.dx,_,.ref A.d1,W.ins,B.cl,B.n1,rfl,A.d1,_,rfl,DPut.k (k:=Sum.inr (bP r)) W.g1 (sz _ ot),?_⟩;have W1:=W.put1 WF (bJ k1 (Sum.inr (bP r)) (.ref b));have t1:TK H (aI H A.d1 (.dK (bJ k1 (Sum.inr (bP r)) (.ref b)))):=rZ W.g1;have s1:Same H0 (aI H A.d1 (.dK (bJ k1 (Sum.inr (bP r)) (.ref b)))):=bV WF.f1 s0;generalize aI H A.d1 (.dK (bJ k1 (Sum.inr (bP r)) (.ref b)))=H1 at W1 t1 s1;refine⟨RKS,_,tR,Tr r,C,A.dx,_,W1.ins,B.cl,B.n2,QZX rfl,?_⟩;have e2:bU "last_rank" (.int (r.rank:Int)) (Zz A (cP ps) (cM ps))=Zz A r.rank (cM ps):=rfl;rw[e2];have W2:=W1.fld r.rank (cM ps);have t2:=t1.trans (Oo (o:=.ins C A.dx (Zz A r.rank (cM ps))) W1.ins);have s2:Same H0 (aI H1 a (.ins C A.dx (Zz A r.rank (cM ps)))):=bV WF.fa s1;generalize aI H1 a (.ins C A.dx (Zz A r.rank (cM ps)))=H2 at W2 t2 s2;dsimp only;refine bY (λσ' H'=>σ'=[some (.ref a),some (.ref b),some (.str (bP r))]/\WkG H' C a A r.rank (cM (ps++[r])) (bJ k1 (Sum.inr (bP r)) (.ref b)) k2 k3 k4 k5/\TK H H'/\Same H0 H') (λnx b6=>?_) ?_
  ·refine⟨aN rfl,λtp H3 s3 g3=>⟨tp,_,rfl,.inr (QYM g3),rfl,rfl,?_⟩⟩;have W3:=W2.same s3;have t3:=t2.trans s3.tk;have SR:=s2.trans s3;have et:mM (.str (bP r)) [.str "next",.str "came",.str "done"]=Dt r:=by cases r<;>rfl
   rw[lX]at b6;show if mM (.str (bP r)) [.str "next",.str "came",.str "done"]=true then _ else _
   rw[et];refine bG (λh=>?_) (λh=>?_)
   ·rw[P0 h]at b6;have e2:Td r=.int (r.turn:Int):=by cases r<;>first|rfl|cases h
    have NN:=x2 (by rw[e2];exact λz=>nomatch z);rw[e2]at NN;refine⟨_,QYM (t3 _ _ g),_,NN,C,A.dx,_,W3.ins,B.cl,B.n3,QZX rfl,?_⟩;exact b6 _ _ ⟨rfl,W3.fld r.rank r.turn,t3.trans (Oo W3.ins),bV WF.fa SR⟩
   ·rw[QZZ (by rw[h];exact V2)]at b6;exact b6 _ _ ⟨rfl,W3,t3,SR⟩
  rintro σ' H3 ⟨rfl,W3,t3,s3⟩;have vb:=d8.tk t3;rw[<- iZ ps r]at W3;cases r with
  | next n t=>exact q _ _ ⟨WF,s3,_,_,_,_,_,W3,WP.step (bd:=a) t3 vb (λ_ _ _ _ _ e=>nomatch e)⟩
  | has z m=>exact q _ _ ⟨WF,s3,_,_,_,_,_,W3,WP.step (bd:=a) t3 vb (λ_ _ _ _ _ e=>nomatch e)⟩
  | kept n t p k x y=>
   obtain⟨b1,b2,g',_⟩:=id vb;refine⟨C,A.dx,_,.ref A.d2,W3.ins,B.cl,B.n4,rfl,_,QYM g',_,rfl,A.d2,_,rfl,DPut.k (k:=Sum.inl (n:Int)) W3.g2 (sz _ x9),?_⟩;have t4:=t3.trans (rZ (o:=.dK (bJ k2 (Sum.inl (n:Int)) (.bl true))) W3.g2);exact q _ _ ⟨WF,bV WF.f2 s3,_,_,_,_,_,W3.put2 WF _,WP.step (bd:=a) t4 (d8.tk t4) (λ_ _ _ _ _ e=>nomatch e)⟩
  | came n t p k x=>
   obtain⟨b1,g',gd'⟩:=id vb;refine⟨_,QYM g',_,rfl,C,A.dx,_,.ref A.d3,W3.ins,B.cl,B.n5,rfl,_,QYM g',_,rfl,A.d3,_,rfl,DPut.k (k:=Sum.inl (n:Int)) W3.g3 (sz _ JL),?_⟩;have t5:=rZ (o:=.dK (bJ k3 (Sum.inl (n:Int)) (.ref b1))) W3.g3;have t4:=t3.trans t5;exact q _ _ ⟨WF,bV WF.f3 s3,_,_,_,_,_,W3.put3 WF _,WP.step (bd:=b1) t4 (d8.tk t4) (λ_ _ _ _ _ e=>by cases e;exact t5 _ _ gd')⟩
  | asked n=>
   refine⟨C,A.dx,_,.ref A.d4,W3.ins,B.cl,B.n6,rfl,_,QYM vb,_,rfl,A.d4,_,rfl,DPut.k (k:=Sum.inl (n:Int)) W3.g4 (sz _ hl4),?_⟩;have t4:=t3.trans (rZ (o:=.dK (bJ k4 (Sum.inl (n:Int)) (.bl true))) W3.g4);exact q _ _ ⟨WF,bV WF.f4 s3,_,_,_,_,_,W3.put4 WF _,WP.step (bd:=a) t4 (d8.tk t4) (λ_ _ _ _ _ e=>nomatch e)⟩
  | done n t y=>
   obtain⟨b1,g',_⟩:=id vb;refine⟨C,A.dx,_,.ref A.d5,W3.ins,B.cl,B.n7,rfl,_,QYM g',_,rfl,A.d5,_,rfl,DPut.k (k:=Sum.inl (n:Int)) W3.g5 (sz _ hl5),?_⟩;have t4:=t3.trans (rZ (o:=.dK (bJ k5 (Sum.inl (n:Int)) (.bl true))) W3.g5);exact q _ _ ⟨WF,bV WF.f5 s3,_,_,_,_,_,W3.put5 WF _,WP.step (bd:=a) t4 (d8.tk t4) (λ_ _ _ _ _ e=>nomatch e)⟩
def Ea(C:TD):Sp:=λvs H Q _=>∃(p dx:TD),vs=[.ref p]/\H p=some (.ins C dx [])/\∀(H':Hp)(A:WA),H A.d1=none->H A.d2=none->H A.d3=none->H A.d4=none->H A.d5=none->[A.d1,A.d2,A.d3,A.d4,A.d5].Nodup->WkG H' C p A 0 0 [] [] [] [] []->(∀b o,H b=some o->b≠p->H' b=some o)->Q .non H'
def Oq{C:TD}(B:Zy K C)(D:ClsAt K mg "Walk" C "Walk.__init__" cG QZK [[]]):∀d∈([[]]:List (List V)),Ym P w K mg base 1 "Walk" C QZK d (Ea C):=by
 refine D.go oO (λvs H Q E h=>?_) (λf cdv A outer s H vs Q E hr h=>?_)
 ·obtain⟨p,dx,rfl,_⟩:=h;rfl
 ·obtain⟨p,dx,rfl,hp,q⟩:=h;refine⟨_,(mo (xt (K:=K) (lc 0) K5) (mo (xt (K:=K) (lc 0) ml) (mo (xt (K:=K) (lc 0) ml) (mo (xt (K:=K) (lc 0) K5) (mo (xt (K:=K) (lc 0) K5) (mo (xt (K:=K) (lc 0) K5) (mv (xt (K:=K) (lc 0) K5)))))))),?_⟩;have st:∀ {H1:Hp}{d:TD}{o o':HO},(∀b u,H b=some u->b≠p->H1 b=some u)->H1 d=none->p≠d->(∀b u,H b=some u->b≠p->(aI (aI H1 d o) p o') b=some u)/\H d=none:=λ{H1 d o o'} k hd y9=>by
   refine⟨λb u e hb=>?_,?_⟩
   ·rw[aB hb,aB (aE (k b u e hb) hd)];exact k b u e hb
   ·cases e:H d with
    | none=>rfl
    | some u=>rw[k d u e y9.symm]at hd;cases hd
  intro d1 EK;have n1:=aE hp EK;refine⟨C,dx,_,(by rw[aB n1];exact hp),B.cl,B.n1,(by show 0<1000;decide),?_⟩;obtain⟨k1,f1⟩:=st (o:=.dK []) (o':=.ins C dx (bU "last_rows" (.ref d1) [])) (λb u e _=>e) EK n1;have i1:(aI (aI H d1 (.dK [])) p (.ins C dx (bU "last_rows" (.ref d1) []))) p=some (.ins C dx [("last_rows",.ref d1)]):=aA;have a1:(aI (aI H d1 (.dK [])) p (.ins C dx (bU "last_rows" (.ref d1) []))) d1=some (.dK []):=by rw[aB n1.symm];exact aA
  dsimp only;generalize aI (aI H d1 (.dK [])) p (.ins C dx (bU "last_rows" (.ref d1) []))=H1 at k1 i1 a1;refine⟨C,dx,_,i1,B.cl,B.n2,QZX rfl,?_⟩;refine⟨C,dx,_,aA,B.cl,B.n3,QZX rfl,?_⟩;have i2:(aI (aI H1 p (.ins C dx (bU "last_rank" (.int 0) [("last_rows",.ref d1)]))) p (.ins C dx (bU "last_turn" (.int 0) (bU "last_rank" (.int 0) [("last_rows",.ref d1)])))) p=some (.ins C dx [("last_rows",.ref d1),("last_rank",.int 0),("last_turn",.int 0)]):=aA;have a2:(aI (aI H1 p (.ins C dx (bU "last_rank" (.int 0) [("last_rows",.ref d1)]))) p (.ins C dx (bU "last_turn" (.int 0) (bU "last_rank" (.int 0) [("last_rows",.ref d1)])))) d1=some (.dK []):=by rw[aB n1.symm,aB n1.symm];exact a1
  have k2:∀b u,H b=some u->b≠p->(aI (aI H1 p (.ins C dx (bU "last_rank" (.int 0) [("last_rows",.ref d1)]))) p (.ins C dx (bU "last_turn" (.int 0) (bU "last_rank" (.int 0) [("last_rows",.ref d1)])))) b=some u:=λb u e hb=>by rw[aB hb,aB hb];exact k1 b u e hb
  generalize aI (aI H1 p (.ins C dx (bU "last_rank" (.int 0) [("last_rows",.ref d1)]))) p (.ins C dx (bU "last_turn" (.int 0) (bU "last_rank" (.int 0) [("last_rows",.ref d1)])))=H2 at i2 a2 k2;intro d2 hd2;have n2:=aE i2 hd2;have SS:=aE a2 hd2;refine⟨C,dx,_,(by rw[aB n2];exact i2),B.cl,B.n4,QZX rfl,?_⟩;obtain⟨k3,f2⟩:=st (o:=.dK []) (o':=.ins C dx (bU "kept_numbers" (.ref d2) [("last_rows",.ref d1),("last_rank",.int 0),("last_turn",.int 0)])) k2 hd2 n2;have i3:(aI (aI H2 d2 (.dK [])) p (.ins C dx (bU "kept_numbers" (.ref d2) [("last_rows",.ref d1),("last_rank",.int 0),("last_turn",.int 0)]))) p=some (.ins C dx [("last_rows",.ref d1),("last_rank",.int 0),("last_turn",.int 0),("kept_numbers",.ref d2)]):=aA;have a3:(aI (aI H2 d2 (.dK [])) p (.ins C dx (bU "kept_numbers" (.ref d2) [("last_rows",.ref d1),("last_rank",.int 0),("last_turn",.int 0)]))) d1=some (.dK []):=by rw[aB n1.symm,aB SS];exact a2
  have c3:(aI (aI H2 d2 (.dK [])) p (.ins C dx (bU "kept_numbers" (.ref d2) [("last_rows",.ref d1),("last_rank",.int 0),("last_turn",.int 0)]))) d2=some (.dK []):=by rw[aB n2.symm];exact aA
  dsimp only;generalize aI (aI H2 d2 (.dK [])) p (.ins C dx (bU "kept_numbers" (.ref d2) [("last_rows",.ref d1),("last_rank",.int 0),("last_turn",.int 0)]))=H3 at k3 i3 a3 c3;intro d3 EA;have n3:=aE i3 EA;have SU:=aE a3 EA;have SV:=aE c3 EA;refine⟨C,dx,_,(by rw[aB n3];exact i3),B.cl,B.n5,QZX rfl,?_⟩;obtain⟨k4,f3⟩:=st (o:=.dK []) (o':=.ins C dx (bU "came_deeds" (.ref d3) [("last_rows",.ref d1),("last_rank",.int 0),("last_turn",.int 0),("kept_numbers",.ref d2)])) k3 EA n3;have i4:(aI (aI H3 d3 (.dK [])) p (.ins C dx (bU "came_deeds" (.ref d3) [("last_rows",.ref d1),("last_rank",.int 0),("last_turn",.int 0),("kept_numbers",.ref d2)]))) p=some (.ins C dx [("last_rows",.ref d1),("last_rank",.int 0),("last_turn",.int 0),("kept_numbers",.ref d2),("came_deeds",.ref d3)]):=aA;have a4:(aI (aI H3 d3 (.dK [])) p (.ins C dx (bU "came_deeds" (.ref d3) [("last_rows",.ref d1),("last_rank",.int 0),("last_turn",.int 0),("kept_numbers",.ref d2)]))) d1=some (.dK []):=by rw[aB n1.symm,aB SU];exact a3
  have c4:(aI (aI H3 d3 (.dK [])) p (.ins C dx (bU "came_deeds" (.ref d3) [("last_rows",.ref d1),("last_rank",.int 0),("last_turn",.int 0),("kept_numbers",.ref d2)]))) d2=some (.dK []):=by rw[aB n2.symm,aB SV];exact c3
  have e4:(aI (aI H3 d3 (.dK [])) p (.ins C dx (bU "came_deeds" (.ref d3) [("last_rows",.ref d1),("last_rank",.int 0),("last_turn",.int 0),("kept_numbers",.ref d2)]))) d3=some (.dK []):=by rw[aB n3.symm];exact aA
  dsimp only;generalize aI (aI H3 d3 (.dK [])) p (.ins C dx (bU "came_deeds" (.ref d3) [("last_rows",.ref d1),("last_rank",.int 0),("last_turn",.int 0),("kept_numbers",.ref d2)]))=H4 at k4 i4 a4 c4 e4;intro d4 IA;have n4:=aE i4 IA;have SW:=aE a4 IA;have SX:=aE c4 IA;have SY:=aE e4 IA;refine⟨C,dx,_,(by rw[aB n4];exact i4),B.cl,B.n6,QZX rfl,?_⟩;obtain⟨k5,f4⟩:=st (o:=.dK []) (o':=.ins C dx (bU "asked_numbers" (.ref d4) [("last_rows",.ref d1),("last_rank",.int 0),("last_turn",.int 0),("kept_numbers",.ref d2),("came_deeds",.ref d3)])) k4 IA n4;have i5:(aI (aI H4 d4 (.dK [])) p (.ins C dx (bU "asked_numbers" (.ref d4) [("last_rows",.ref d1),("last_rank",.int 0),("last_turn",.int 0),("kept_numbers",.ref d2),("came_deeds",.ref d3)]))) p=some (.ins C dx [("last_rows",.ref d1),("last_rank",.int 0),("last_turn",.int 0),("kept_numbers",.ref d2),("came_deeds",.ref d3),("asked_numbers",.ref d4)]):=aA;have a5:(aI (aI H4 d4 (.dK [])) p (.ins C dx (bU "asked_numbers" (.ref d4) [("last_rows",.ref d1),("last_rank",.int 0),("last_turn",.int 0),("kept_numbers",.ref d2),("came_deeds",.ref d3)]))) d1=some (.dK []):=by rw[aB n1.symm,aB SW];exact a4
  have c5:(aI (aI H4 d4 (.dK [])) p (.ins C dx (bU "asked_numbers" (.ref d4) [("last_rows",.ref d1),("last_rank",.int 0),("last_turn",.int 0),("kept_numbers",.ref d2),("came_deeds",.ref d3)]))) d2=some (.dK []):=by rw[aB n2.symm,aB SX];exact c4
  have e5:(aI (aI H4 d4 (.dK [])) p (.ins C dx (bU "asked_numbers" (.ref d4) [("last_rows",.ref d1),("last_rank",.int 0),("last_turn",.int 0),("kept_numbers",.ref d2),("came_deeds",.ref d3)]))) d3=some (.dK []):=by rw[aB n3.symm,aB SY];exact e4
  have g5:(aI (aI H4 d4 (.dK [])) p (.ins C dx (bU "asked_numbers" (.ref d4) [("last_rows",.ref d1),("last_rank",.int 0),("last_turn",.int 0),("kept_numbers",.ref d2),("came_deeds",.ref d3)]))) d4=some (.dK []):=by rw[aB n4.symm];exact aA
  dsimp only;generalize aI (aI H4 d4 (.dK [])) p (.ins C dx (bU "asked_numbers" (.ref d4) [("last_rows",.ref d1),("last_rank",.int 0),("last_turn",.int 0),("kept_numbers",.ref d2),("came_deeds",.ref d3)]))=H5 at k5 i5 a5 c5 e5 g5;intro d5 uy;have n5:=aE i5 uy;have TB:=aE a5 uy;have TC:=aE c5 uy;have TF:=aE e5 uy;have TH:=aE g5 uy;refine⟨C,dx,_,(by rw[aB n5];exact i5),B.cl,B.n7,QZX rfl,?_⟩;obtain⟨k6,f5⟩:=st (o:=.dK []) (o':=.ins C dx (bU "done_numbers" (.ref d5) [("last_rows",.ref d1),("last_rank",.int 0),("last_turn",.int 0),("kept_numbers",.ref d2),("came_deeds",.ref d3),("asked_numbers",.ref d4)])) k5 uy n5;refine q _ ⟨dx,d1,d2,d3,d4,d5⟩ f1 f2 f3 f4 f5 ?_ ⟨aA,?_,?_,?_,?_,?_⟩ k6
  ·simp only [nodup_cons,mem_cons,QZT,or_false,not_or];exact⟨⟨SS,SU,SW,TB⟩,⟨SV,SX,TC⟩,⟨SY,TF⟩,TH,not_false,nodup_nil⟩
  ·show(aI _ p _) d1=_;rw[aB n1.symm,aB TB];exact a5
  ·show(aI _ p _) d2=_;rw[aB n2.symm,aB TC];exact c5
  ·show(aI _ p _) d3=_;rw[aB n3.symm,aB TF];exact e5
  ·show(aI _ p _) d4=_;rw[aB n4.symm,aB TH];exact g5
  ·show(aI _ p _) d5=_;rw[aB n5.symm];exact aA
def Vh:Sp:=λvs H Q _=>∃(ra:TD)(rs:List RX)(as:List TD),vs=[.ref ra]/\RxsAt H ra rs as/\(∀r∈rs,Dv r)/\rs.length<=100/\∀(o:Option Nat)(H':Hp),uO rs o->Same H H'->Q (aCx o) H'
def wR{C:TD}(T:Txt K mg)(AB:Ym P w K mg base 1 "Walk" C QZK [] (Ea C))(pw:sF P w K mg base 6 C "fits" QZO (Dy C))(px:sF P w K mg base 1 C "step" QZO (Dz C))(D:DefAt K mg "first_odd" iG QZM):aG P w K mg base 7 "first_odd" QZM Vh:=by
 refine D.go gL (λvs H Q E h=>?_) (λf cdv A outer s H vs Q E hr h=>?_)
 ·obtain⟨ra,rs,as,rfl,_⟩:=h;rfl
 ·obtain⟨ra,rs,as,rfl,RR,hf,hl,q⟩:=h;have AD:Room 2 _:=hr.mono Zd;have Y4:Room 6 _:=hr;have Y5:Room 1 _:=hr.mono Zd;have le:=RR.len;refine⟨_,(mo (ng (i:=1) gL.nd (R.jz AB AD rfl)) (mo (ve PassesOwn.never rfl (R.iy (K:=K) rfl T.b_enumerate (lc 0)) (FM (K:=K) (n:=2) rfl (qt (o0 (i:=2) gL.nd) (qt (o0 (i:=3) gL.nd) FS))) (mo (nk (ut (tm (AN pw Y4 (lc 1) (li (lc 3) mm)))) (mv (nh (lc 2))) nw) (mv (ua (AN px Y5 (lc 1) (li (lc 3) mm)))))) (mv (nh AT)))),?_⟩;refine λa dx ha vk v7=>?_;refine⟨a,dx,rfl,aA,λH1 A f1 f2 f3 f4 f5 nd W1 k1=>⟨rfl,?_⟩⟩;have fr:∀ {d:TD},(aI (aI H dx (.own a)) a (.ins C dx [])) d=none->H d=none:=λ{d} e=>by
   by_cases h1:d=a
   ·rw[h1,aA]at e;cases e
   ·by_cases h2:d=dx
    ·rw[h2];exact vk
    ·rw[aB h1,aB h2]at e;exact e
  have s1:Same H H1:=λc o e=>k1 c o (by rw[aB (aE e ha),aB (aE e vk)];exact e) (aE e ha)
  have WF:WkF H a A:=⟨ha,fr f1,fr f2,fr f3,fr f4,fr f5,nd⟩;have W0:WkAt H H1 C a A []:=⟨WF,s1,[],[],[],[],[],W1,⟨aY _,aY _,aY _,aY _,aY _,⟨⟨λ_=>rfl,λ_=>rfl⟩,λ_ _=>rfl,(λ_ _ e=>nomatch e)⟩,λn=>⟨nofun,λ⟨_,_,_,_,_,z⟩=>nomatch z⟩,⟨(λ_ _ _ _ _ _ z=>nomatch z),(λ_ _ e=>nomatch e)⟩,λn=>⟨nofun,nofun⟩,λn=>⟨nofun,λ⟨_,_,z⟩=>nomatch z⟩⟩⟩;dsimp only [aJ];refine bY (λσ' H'=>RX.Whole rs/\Same H H') (λnx b6=>?_) ?_
  ·refine⟨_,QYL (s1 _ _ RR.lst),Md (xs:=as.map V.ref) (λi σ' H'=>∃o2 o3,σ'=[some (.ref ra),some (.ref a),o2,o3]/\WkAt H H' C a A (rs.take i)/\RX.Whole (rs.take i)) (λi σ' H' ⟨_,_,_,W',_⟩=>QYL (W'.2.1 _ _ RR.lst)) ⟨_,_,rfl,W0,.nil⟩ ?_ ?_⟩
   ·rintro i x σ' H2 te hx ⟨o2,o3,rfl,W2,hw⟩ hte;obtain⟨b,r,rfl,hb,v9,d8⟩:=RR.get hx;have ZP:i<rs.length:=(Zgs.mp v9).1;have se:=aF (o:=.tup [.int (i:Int),.ref b]) hte;refine⟨te,_,rfl,QYM aA,rfl,_,_,rfl,_,_,rfl,rfl,?_⟩;generalize aI H2 te (.tup [.int (i:Int),.ref b])=H3 at se;replace W2:=W2.same se;have⟨_,s3,yd,k2',k3',k4',k5',WG,_⟩:=W2;dsimp only [aJ];refine⟨A.dx,_,WG.ins,rfl,a,b,H,A,rs.take i,r,rfl,W2,d8.tk s3.tk,hw,λq hq=>hf q (mem_of_mem_take hq),hf r (kI v9),λfb H4 ph s4=>?_⟩;have W4:=W2.same s4;have⟨_,BZ,_,_,_,_,_,WG4,_⟩:=W4
    cases fb with
    | false=>exact q (some i) H4 ⟨r,v9,hw,λz=>by have:=ph.mpr z;cases this⟩ BZ
    | true=>
     have NS:=ph.mp rfl;refine⟨A.dx,_,WG4.ins,rfl,a,b,H,A,rs.take i,r,rfl,W4,d8,by rw[nU];omega,λv H5 W5=>?_⟩;rw[<- aL v9]at W5;exact⟨_,_,rfl,W5,by rw[aL v9];exact hw.snoc NS⟩
   ·rintro σ' H2 ⟨o2,o3,rfl,W2,hw⟩;rw[aS,<- le,iB (aY _)]at hw;exact b6 _ _ ⟨hw,W2.2.1⟩
  ·rintro σ' H2 ⟨hw,s2⟩;exact q none H2 hw s2
def aQ(e:E6):Str×Str:=(e.2.2.1,e.2.2.2.1)
def lU(s:Str×Str):List aT:=[Sum.inr s.1,Sum.inr s.2]
def Os{s t:Str×Str}(h:lU s=lU t):s=t:=by
 unfold lU at h;injection h with h1 h2
 injection h2 with h2 _
 injection h1 with h1
 injection h2 with h2
 exact Prod.ext h1 h2
def fZ(l:List E6)(s:Str×Str):Option E6:=l.foldl (λo e=>if aQ e=s then some e else o) none
def mL(l:List E6)(e:E6)(s:Str×Str):fZ (l++[e]) s=if aQ e=s then some e else fZ l s:=by unfold fZ;rw[foldl_append];rfl
def gV{l:List E6}{s:Str×Str}{e:E6}(h:fZ l s=some e):e∈l/\aQ e=s:=by
 have:∀(l:List E6)(o:Option E6)(e:E6),l.foldl (λo e=>if aQ e=s then some e else o) o=some e->o=some e∨(e∈l/\aQ e=s):=by
  intro l;induction l with
  | nil=>exact λo e h=>.inl h
  | cons x l ih=>
   intro o e h;rw[foldl_cons]at h;rcases ih _ e h with h|⟨h1,h2⟩
   ·by_cases c:aQ x=s
    ·rw[P0 c]at h;cases h;exact .inr ⟨eV,c⟩
    ·rw[QZZ c]at h;exact .inl h
   ·exact .inr ⟨iV _ h1,h2⟩
 rcases this l none e h with h|h
 ·cases h
 ·exact h
structure LastD(A:E6->TD->Prop)(l:List E6)(kvs:List (List aT×V)):Prop where
 nd:(kvs.map (·.1)).Nodup
 at_:∀k v,(k,v)∈kvs->∃e a,k=lU (aQ e)/\v=.ref a/\A e a/\fZ l (aQ e)=some e
 all:∀s e,fZ l s=some e->lU s∈kvs.map (·.1)
 len:kvs.length<=l.length
def LastD.nil(A:E6->TD->Prop):LastD A [] []:=⟨nodup_nil,(λ_ _ h=>nomatch h),(λ_ _ h=>nomatch h),aY _⟩
def LastD.mono{A A':E6->TD->Prop}{l:List E6}{kvs:List (List aT×V)}(h:LastD A l kvs)(m:∀e a,A e a->A' e a):LastD A' l kvs:=
 ⟨h.nd,λk v hk=>let ⟨e,a,h1,h2,h3,h4⟩:=h.at_ k v hk;⟨e,a,h1,h2,m _ _ h3,h4⟩,h.all,h.len⟩
def LastD.put{A:E6->TD->Prop}{l:List E6}{kvs:List (List aT×V)}(h:LastD A l kvs){e:E6}{a:TD}(ha:A e a):LastD A (l++[e]) (bJ kvs (lU (aQ e)) (.ref a)):=by
 refine⟨Sh h.nd,λk v hk=>?_,λs e' hs=>?_,?_⟩
 ·rcases Mf hk with hk|⟨hk,v7⟩
  ·cases hk;exact⟨e,a,rfl,rfl,ha,by rw[mL,P0 rfl]⟩
  ·obtain⟨e',a',h1,h2,h3,h4⟩:=h.at_ k v hk;refine⟨e',a',h1,h2,h3,?_⟩;rw[mL,QZZ (λz=>v7 (by rw[h1,z]))];exact h4
 ·rw[Gf];rw[mL]at hs;by_cases c:aQ e=s
  ·exact .inl (by rw[c])
  ·rw[QZZ c]at hs;exact .inr (h.all s e' hs)
 ·have:=cQ kvs (lU (aQ e)) (.ref a);have:=h.len;rw[mO,length_singleton];omega
def lR{α β:Type}{R:α->β->Prop}:∀ {xs:List α},(∀x∈xs,∃y,R x y)->∃ys,Paired R xs ys
 | [],_=>⟨[],.nil⟩
 | x::xs,h=>by
  obtain⟨y,hy⟩:=h x eV;obtain⟨ys,hys⟩:=lR λx hx=>h x (iV _ hx)
  exact⟨y::ys,.cons hy hys⟩
abbrev KvE(A:E6->TD->Prop)(l:List E6)(kv:List aT×V)(q:E6×TD):Prop:=kv.1=lU (aQ q.1)/\kv.2=.ref q.2/\A q.1 q.2/\fZ l (aQ q.1)=some q.1
def LastD.list{A:E6->TD->Prop}{l:List E6}{kvs:List (List aT×V)}(h:LastD A l kvs):∃es:List (E6×TD),Paired (KvE A l) kvs es/\(es.map λq=>aQ q.1).Nodup/\∀e,e∈es.map (·.1)↔fZ l (aQ e)=some e:=by
 obtain⟨es,he⟩:=lR (R:=KvE A l) (xs:=kvs) λkv hk=>by
  obtain⟨e,a,h1,h2,h3,h4⟩:=h.at_ kv.1 kv.2 hk;exact⟨(e,a),h1,h2,h3,h4⟩
 have hl:=he.length;have uq:kvs.map (·.1)=(es.map λq=>aQ q.1).map lU:=by
  refine ext_getElem (by simp[hl]) λi h1 h2=>?_;have hi:i<es.length:=by simpa using h2
  obtain⟨K8,hp⟩:=Paired.get' (j:=i) he hi;simp only [getElem_map];exact hp.1
 refine⟨es,he,?_,λe=>⟨λhm=>?_,λhs=>?_⟩⟩
 ·have:=h.nd;rw[uq]at this;exact List.Pairwise.of_map lU (λa b rg e=>rg (by rw[e])) this
 ·obtain⟨q,hq,rfl⟩:=Zmm.mp hm;obtain⟨i,hi,rfl⟩:=getElem_of_mem hq;obtain⟨K8,hp⟩:=Paired.get' (j:=i) he hi;exact hp.2.2.2
 ·have hk:=h.all _ _ hs;rw[uq]at hk;obtain⟨s,ye,T9⟩:=Zmm.mp hk;obtain⟨q,hq,rfl⟩:=Zmm.mp ye;obtain⟨i,hi,rfl⟩:=getElem_of_mem hq;obtain⟨K8,hp⟩:=Paired.get' (j:=i) he hi;have e1:=Os T9;have e2:=hp.2.2.2;rw[e1,hs]at e2;injection e2 with e2
  rw[e2];exact Zmm.mpr ⟨_,hq,rfl⟩
def Eb{H:Hp}{dt:TD}{kvs:List (List aT×V)}{o:HO}(g:H dt=some (.dT kvs)):TK H (aI H dt o):=λa xs e=>by rw[aB (cV e g nofun)];exact e
def paL{α β:Type}{R:α->β->Prop}{xs:List α}{ys:List β}(p:Paired R xs ys){x:α}(h:x∈xs):∃y∈ys,R x y:=by
 induction p with
 | nil=>cases h
 | @cons a b as bs r t ih=>
  rcases mem_cons.mp h with rfl|h
  ·exact⟨_,eV,r⟩
  ·obtain⟨y,hy,e⟩:=ih h;exact⟨y,iV _ hy,e⟩
def paR{α β:Type}{R:α->β->Prop}{xs:List α}{ys:List β}(p:Paired R xs ys){y:β}(h:y∈ys):∃x∈xs,R x y:=by
 induction p with
 | nil=>cases h
 | @cons a b as bs r t ih=>
  rcases mem_cons.mp h with rfl|h
  ·exact⟨_,eV,r⟩
  ·obtain⟨y,hy,e⟩:=ih h;exact⟨y,iV _ hy,e⟩
def paM{α β γ:Type}{R:α->β->Prop}{f:α->γ}{g:β->γ}{xs:List α}{ys:List β}(p:Paired R xs ys)(h:∀x y,R x y->f x=g y):xs.map f=ys.map g:=by
 induction p with
 | nil=>rfl
 | cons r t ih=>rw[map_cons,map_cons,ih,h _ _ r]
def Ot{α β:Type}{f:α->β}{l:List α}(h:(l.map f).Nodup){a b:α}(ha:a∈l)(hb:b∈l)(e:f a=f b):a=b:=by
 induction l with
 | nil=>cases ha
 | cons x l ih=>
  rw[map_cons,nodup_cons]at h;rcases mem_cons.mp ha with ea|KC<;>rcases mem_cons.mp hb with eb|t7
  ·rw[ea,eb]
  ·exact QZY (Zmm.mpr ⟨b,t7,by rw[<- e,ea]⟩) h.1
  ·exact QZY (Zmm.mpr ⟨a,KC,by rw[e,eb]⟩) h.1
  ·exact ih h.2 KC t7
def Ou{A:Hp->E6->TD->Prop}{H:Hp}{fl:List (E6×TD)}{zs P4:List Tn}(hn:(fl.map λq=>(q.1.1:Int)).Nodup)(pz:Paired (λ(q:E6×TD) (z:Tn)=>z.1=(q.1.1:Int)/\z.2.1=q.2) fl zs)(hp:P4.Perm zs)(hs:P4.Pairwise tln) :
  ∃out:List (E6×TD),out.Perm fl/\pN P4=out.map (λq=>V.ref q.2)/\(out.map (·.1)).Pairwise λa b=>a.1<b.1:=by
 have e1:=paM pz (f:=λq=>((q.1.1:Int),q.2)) (g:=λz:Tn=>(z.1,z.2.1)) λq z h=>by rw[h.1,h.2]
 obtain⟨out,ho⟩:=lR (R:=λ(z:Tn) (q:E6×TD)=>(z.1,z.2.1)=((q.1.1:Int),q.2)/\q∈fl) (xs:=P4) λz hz=>by
  obtain⟨q,hq,h⟩:=paR pz (hp.mem_iff.mp hz);exact⟨q,by rw[h.1,h.2],hq⟩
 have e2:=paM ho (f:=λz:Tn=>(z.1,z.2.1)) (g:=λq=>((q.1.1:Int),q.2)) λz q h=>h.1
 have TJ:(P4.map λz:Tn=>z.1).Nodup:=by
  refine((hp.map _).nodup_iff).mpr ?_;have:zs.map (λz:Tn=>z.1)=fl.map λq=>(q.1.1:Int):=by
   have:=congrArg (List.map Prod.fst) e1;rw[map_map,map_map]at this;exact this.symm
  rw[this];exact hn
 have e3:P4.map (λz:Tn=>z.1)=out.map λq=>(q.1.1:Int):=by
  have:=congrArg (List.map Prod.fst) e2;rw[map_map,map_map]at this;exact this
 refine⟨out,?_,?_,?_⟩
 ·have hnf:fl.Nodup:=(pairwise_map.mp hn).imp λ{a b} rg e=>rg (by rw[e])
  have rb:out.Nodup:=(pairwise_map.mp (show(out.map λq=>(q.1.1:Int)).Nodup by rw[<- e3];exact TJ)).imp λ{a b} rg e=>rg (by rw[e])
  refine(List.perm_ext_iff_of_nodup rb hnf).mpr λq=>⟨λhq=>?_,λhq=>?_⟩
  ·obtain⟨z,_,h⟩:=paR ho hq;exact h.2
  ·obtain⟨z,hz,h⟩:=paL pz hq;obtain⟨q',oi,h'⟩:=paL ho (hp.mem_iff.mpr hz);have:(q.1.1:Int)=(q'.1.1:Int):=by
    have:=congrArg Prod.fst h'.1;exact h.1.symm.trans this
   rw[Ot hn hq h'.2 this];exact oi
 ·have:=congrArg (List.map λp:Int×Addr=>V.ref p.2) e2;rw[map_map,map_map]at this;exact this
 ·have h2:(P4.map λz:Tn=>z.1).Pairwise (·<=·):=pairwise_map.mpr hs;have h3:=(h2.and TJ).imp λ{a b}(h:a<=b/\a≠b)=>(by omega:a<b)
  rw[e3,pairwise_map]at h3;exact pairwise_map.mpr (h3.imp λh=>by omega)
def Ec{H:Hp}{l:List E6}{es fl:List (E6×TD)}(ha:∀q∈es,At6 H q.1 q.2/\q.1∈l)(nde:(es.map λq=>aQ q.1).Nodup)(zf:(l.map (·.1)).Nodup)(hs:fl.Sublist es) :
  ∃zs:List Tn,pN zs=fl.map (λq=>V.ref q.2)/\NAt H zs/\(zs.map (·.1)).Nodup/\zs.length<=es.length/\∀P4,P4.Perm zs->P4.Pairwise tln->∃out:List (E6×TD),out.Perm fl/\pN P4=out.map (λq=>V.ref q.2)/\(out.map (·.1)).Pairwise (λa b=>a.1<b.1)/\Paired (At6 H) (out.map (·.1)) (out.map (·.2)):=by
 have KD:∀q∈fl,At6 H q.1 q.2:=λq hq=>(ha q (hs.subset hq)).1
 have hen:(es.map λq=>(q.1.1:Int)).Nodup:=by
  refine pairwise_map.mpr ?_;refine(pairwise_map.mp nde).imp_of_mem λ{a b} KC t7 v7 e=>v7 ?_;rw[Ot (f:=λx:E6=>x.1) zf (ha a KC).2 (ha b t7).2 Zo]
 have DU:(fl.map λq=>(q.1.1:Int)).Nodup:=List.Nodup.sublist (List.Sublist.map _ hs) hen;obtain⟨zs,pz⟩:=lR (R:=λ(q:E6×TD) (z:Tn)=>(z.1=(q.1.1:Int)/\z.2.1=q.2)/\H z.2.1=some (.tup (.int z.1::z.2.2))) (xs:=fl) λq hq=>by
  obtain⟨b,c,ge,_⟩:=KD q hq;exact⟨(_,_,_),⟨rfl,rfl⟩,ge⟩
 have ez:=paM pz (f:=λq=>((q.1.1:Int),q.2)) (g:=λz:Tn=>(z.1,z.2.1)) λq z h=>by rw[h.1.1,h.1.2]
 refine⟨zs,?_,λz hz=>?_,?_,?_,λP4 hp hso=>?_⟩
 ·have:=congrArg (List.map λp:Int×Addr=>V.ref p.2) ez;rw[map_map,map_map]at this;exact this.symm
 ·obtain⟨q0,_,h⟩:=paR pz hz;exact h.2
 ·have:=congrArg (List.map Prod.fst) ez;rw[map_map,map_map]at this;rw[show zs.map (·.1)=fl.map (λq=>(q.1.1:Int)) from this.symm];exact DU
 ·rw[<- pz.length];exact hs.length_le
 ·obtain⟨out,BJ,oj,IB⟩:=Ou (A:=At6) (H:=H) DU (Paired.map' (λ_ _ h=>h.1) pz) hp hso;refine⟨out,BJ,oj,IB,?_⟩;have:∀ {o:List (E6×TD)},(∀q∈o,q∈fl)->Paired (At6 H) (o.map (·.1)) (o.map (·.2)):=λ{o} ho=>by
   induction o with
   | nil=>exact .nil
   | cons x o ih=>exact .cons (KD x (ho x eV)) (ih λq hq=>ho q (iV _ hq))
  exact this λq hq=>BJ.mem_iff.mp hq
structure Ts(l:List E6)(lf tu:Nat)(out:List E6):Prop where
 asc:out.Pairwise λa b=>a.1<b.1
 iff:∀e,e∈out↔fZ l (aQ e)=some e/\tu<e.2.1+lf
def Ed:Sp:=λvs H Q _=>∃(kl:TD)(ks:List TD)(l:List E6)(lf tu:Nat),vs=[.ref kl,.int (lf:Int),.int (tu:Int)]/\H kl=some (.lst (ks.map V.ref))/\Paired (At6 H) l ks/\l.length<=43/\(l.map (·.1)).Nodup ∧
 ∀(p:TD)(os:List TD)(out:List E6)(H':Hp),H p=none->H' p=some (.lst (os.map V.ref))->Paired (At6 H') out os->Ts l lf tu out->Same H H'->Q (.ref p) H'
def Ov(T:Txt K mg)(sj:aG P w K mg base 1 "is_alive" QZw Do)(D:DefAt K mg "still_kept" eO QZi):aG P w K mg base 2 "still_kept" QZi Ed:=by
 refine D.go iY (λvs H Q E h=>?_) (λf cdv A outer s H vs Q E hr h=>?_)
 ·obtain⟨kl,ks,l,lf,tu,rfl,_⟩:=h;rfl
 ·obtain⟨kl,ks,l,lf,tu,rfl,gk,pk,hl,zf,q⟩:=h;have qa:Room 1 _:=hr.mono Zd;have d6:=dP hr;have lk:=pk.length;refine⟨_,(mo (ng (i:=3) iY.nd R.gw) (mo (ve PassesOwn.never rfl (qp (K:=K) (lc 0)) (o0 (i:=4) iY.nd) (mv (tz (lc 4) (uc (lc 3) (qw sy (lc 4) (qo ml) (qo ml)) (wl d6))))) (mv (nh (ql (R.ia (K:=K)) rfl T.b_sorted lE (li (R.jk (qv rfl (js:=[none,some 1,some 2]) (N:=["entry","life","turn"]) (CompScope.by (aD eO) QYT rfl rfl Zk) (aO rfl) (R.jd (lc 3)) (λC s₂ H₂ fp=>⟨(o0 (i:=0) (show(["entry","life","turn"]:List Str).Nodup by decide +kernel)),(qx (tm (mz sj qa rfl (li (mn (mr (K:=K)) (lc 0) ml) (li (lc 1) (li (lc 2) mm)))))),(lc 0)⟩))) mm)))))),?_⟩;intro dt FE;dsimp only [aJ];have s1:=aF (o:=.dT []) FE;have g1:(aI H dt (.dT [])) dt=some (.dT []):=aA;generalize aI H dt (.dT [])=H1 at s1 g1;refine bY (λσ' H'=>∃(kvs:List (List aT×V))(o4:Option V),σ'=[some (.ref kl),some (.int (lf:Int)),some (.int (tu:Int)),some (.ref dt),o4]/\H' dt=some (.dT kvs)/\LastD (At6 H') l kvs/\Same H H') (λnx b6=>?_) ?_
  ·refine⟨kl,rfl,⟨_,QYL (s1 _ _ gk)⟩,dU (aX K kl (ks.map V.ref)) (λi σ' H'=>∃(kvs:List (List aT×V))(o4:Option V),σ'=[some (.ref kl),some (.int (lf:Int)),some (.int (tu:Int)),some (.ref dt),o4]/\H' dt=some (.dT kvs)/\LastD (At6 H') (l.take i) kvs/\Same H H') (λi σ' H' ⟨_,_,_,_,_,s'⟩=>QYL (s' _ _ gk)) ⟨[],_,rfl,g1,LastD.nil _,s1⟩ ?_ ?_⟩
   ·rintro i x σ' H2 hx ⟨kvs,o4,rfl,g2,L2,s2⟩;rw[fA]at hx;cases DE:ks[i]? with
    | none=>rw[DE]at hx;cases hx
    | some a=>
     rw[DE]at hx;cases hx;obtain⟨hi,ei⟩:=Zgs.mp DE;obtain⟨K8,pa⟩:=Paired.get' (j:=i) pk hi;rw[ei]at pa;have vc:l[i]?=some l[i]:=eZ K8;generalize l[i]=e at pa vc;have TL:=pa.tk (Same.tk s2);obtain⟨b,c,ge,gb,gc⟩:=id TL;dsimp only [aJ];refine⟨_,ge,λtp H3 s3 g3=>⟨dt,_,rfl,DPut.t (k:=lU (aQ e)) (s3 _ _ g2) g3 ?_,?_⟩⟩
     ·have:=L2.len;rw[nU]at this;exact nS (m:=1000) Zo Zd
     have tk:TK H3 (aI H3 dt (.dT (bJ kvs (lU (aQ e)) (.ref a)))):=Eb (s3 _ _ g2);refine⟨_,_,rfl,aA,?_,bV FE (s2.trans s3)⟩;rw[aL vc];exact LastD.put (L2.mono λ_ _ z=>(z.tk (Same.tk s3)).tk tk) ((TL.tk (Same.tk s3)).tk tk)
   ·rintro σ' H2 ⟨kvs,o4,rfl,g2,L2,s2⟩;rw[aS,<- lk,iB (aY _)]at L2;exact b6 _ _ ⟨kvs,o4,rfl,g2,L2,s2⟩
  rintro σ' H2 ⟨kvs,o4,rfl,g2,L2,s2⟩;obtain⟨es,pe,nde,wk⟩:=L2.list;have le:=pe.length;have lkv:=L2.len;refine⟨_,g2,λo=>?_⟩;have BG:TK H2 (aI H2 dt (.frz o (.dT kvs))):=Eb g2;have gF:(aI H2 dt (.frz o (.dT kvs))) dt=some (.frz o (.dT kvs)):=aA;refine aV (Zf dt o kvs) (by rw[aS];omega) (λj ys H'=>H'=aI H2 dt (.frz o (.dT kvs))/\ys=((es.take j).filter λq=>decide ((tu:Int)<(q.1.2.1:Int)+(lf:Int))).map λq=>V.ref q.2) (λj ys H' ⟨e0,e⟩=>⟨by rw[e0];exact gF,by rw[e,aS];exact eI (length_filter_le _ _) (by rw[nU];omega)⟩) ⟨rfl,rfl⟩ (?_) (?_)
  ·rintro j x ys H' hx ⟨e0,e⟩;subst e0;rw[fA]at hx;cases yn:kvs[j]? with
   | none=>rw[yn]at hx;cases hx
   | some kv=>
    rw[yn]at hx;injection hx with hx
    subst hx;obtain⟨hj,ej⟩:=Zgs.mp yn;have U2:j<es.length:=by omega
    obtain⟨NI,hp⟩:=Paired.get' (j:=j) pe U2;rw[ej]at hp;have IC:es[j]?=some es[j]:=eZ U2;generalize es[j]=q0 at hp IC;obtain⟨h1,h2,h3,h4⟩:=hp;dsimp only;rw[h2];obtain⟨b,c,ge,gb,gc⟩:=h3.tk BG;dsimp only [aJ];refine⟨_,QYM ge,_,rfl,_,_,_,rfl,?_⟩;have i8:=aL IC;show if decide ((tu:Int)<(q0.1.2.1:Int)+(lf:Int))=true then _ else _
    refine bG (λh=>?_) (λh=>?_)
    ·refine⟨rfl,?_⟩;rw[i8,filter_append,filter_cons,P0 h,dJ,e];rfl
    ·refine⟨rfl,?_⟩;rw[i8,filter_append,filter_cons,QZZ (by rw[h];exact V2),e];simp
  ·rintro ys H' ⟨e0,e⟩;intro p hp;subst e0;rw[aS,le,iB (aY _)]at e;have NT:dt≠p:=aE gF hp;refine⟨dt,_,o,⟨_,g2⟩,aP gF hp,?_⟩;have s4:Same H2 (aI (aI (aI H2 dt (.frz o (.dT kvs))) p (.lst ys)) dt (.dT kvs)):=λc x e=>by
    by_cases z:c=dt
    ·subst z;rw[g2]at e;cases e;exact aA
    ·rw[aB z];exact aP (by rw[aB z];exact e) hp
   have gp:(aI (aI (aI H2 dt (.frz o (.dT kvs))) p (.lst ys)) dt (.dT kvs)) p=some (.lst ys):=by rw[aB NT.symm];exact aA
   generalize aI (aI (aI H2 dt (.frz o (.dT kvs))) p (.lst ys)) dt (.dT kvs)=H4 at s4 gp;generalize ya:(es.filter λq=>decide ((tu:Int)<(q.1.2.1:Int)+(lf:Int)))=fl at e;have ID:∀q,q∈fl↔q∈es/\tu<q.1.2.1+lf:=λq=>by
    rw[<- ya,mem_filter,decide_eq_true_iff];exact⟨λ⟨a,b⟩=>⟨a,Zo⟩,λ⟨a,b⟩=>⟨a,Zo⟩⟩
   obtain⟨zs,c1,c2,c3,c4,cq⟩:=Ec (H:=H4) (l:=l) (es:=es) (fl:=fl) (λq hq=>by obtain⟨kv,_,h⟩:=paR pe hq;exact⟨h.2.2.1.tk (Same.tk s4),(gV h.2.2.2).1⟩) nde zf (by rw[<- ya];exact List.filter_sublist);refine⟨zs,QYL (by rw[c1,<- e];exact gp),c2,c3,Zo,λl2 P4 x9 wm wo=>?_⟩;obtain⟨out,BJ,oj,IB,NU⟩:=cq P4 wm wo;refine q l2 (out.map (·.2)) (out.map (·.1)) _ ((s2.trans s4).free x9) (by rw[aA,oj,map_map];rfl) (Paired.map' (λ_ _ w=>w.tk (Same.tk (aF x9))) NU) ⟨IB,λe0=>⟨λhm=>?_,?_⟩⟩ ((s2.trans s4).trans (aF x9))
   ·obtain⟨q0,DF,rfl⟩:=Zmm.mp hm;obtain⟨h1,h2⟩:=(ID q0).mp (BJ.mem_iff.mp DF);exact⟨(wk _).mp (Zmm.mpr ⟨q0,h1,rfl⟩),h2⟩
   ·rintro ⟨h1,h2⟩;obtain⟨q0,DF,rfl⟩:=Zmm.mp ((wk e0).mpr h1);exact Zmm.mpr ⟨q0,BJ.mem_iff.mpr ((ID q0).mpr ⟨DF,h2⟩),rfl⟩
def fY(rs:List RX)(tu n:Nat):List RX:=match dG rs n with|some (p,k,x)=>.came n tu p k x::(if fV "asked" rs (Sum.inl (n:Int))=true then [.asked n] else [])|none=>[]
def aZ(rs:List RX)(tu:Nat)(ns:List Nat):List RX:=ns.flatMap (fY rs tu)
def Hq(rs:List RX)(tu n:Nat):(fY rs tu n).length<=2:=by
 unfold fY;cases dG rs n with
 | none=>exact zero_le _
 | some v=>
  dsimp only;split<;>simp
def lS(rs:List RX)(tu:Nat):∀ns:List Nat,(aZ rs tu ns).length<=2*ns.length
 | []=>zero_le _
 | n::ns=>by
  have h1:=Hq rs tu n;have h2:=lS rs tu ns;unfold aZ at h2 ⊢;rw[QZQ,mO,qE];omega
def Tt{rs:List RX}{n:Nat}(h:n∈bL rs):∃t p k x,.came n t p k x∈rs:=by
 obtain⟨r,hr,e⟩:=mem_filterMap.mp h;cases r<;>cases e;exact⟨_,_,_,_,hr⟩
def sA{r:RX}(h:bP r="asked"):∃n,r=.asked n:=by
 cases r with
 | asked n=>exact⟨n,rfl⟩
 | has z m=>exact QZY (show("has":Str)="asked" from h) Zk
 | next n t=>exact QZY (show("next":Str)="asked" from h) Zk
 | kept n t p k x y=>exact QZY (show("kept":Str)="asked" from h) Zk
 | came n t p k x=>exact QZY (show("came":Str)="asked" from h) Zk
 | done n t y=>exact QZY (show("done":Str)="asked" from h) Zk
def Ow{H:Hp}{ra:TD}{rs:List RX}{as:List TD}(RR:RxsAt H ra rs as){n:Nat}(h:fV "asked" rs (Sum.inl (n:Int))=true):∃a,bA (aM [] (bS "asked" rs as rs.length)) (Sum.inl (n:Int))=some (.ref a)/\H a=some (.tup [.str "asked",.int (n:Int)]):=by
 obtain⟨r,hr,e⟩:=any_eq_true.mp h;rw[Bool.and_eq_true]at e;obtain⟨m,rfl⟩:=sA (UV e.1);have em:m=n:=by
  have:(Sum.inl (m:Int):aT)=Sum.inl (n:Int):=UV e.2;injection this with this
  omega
 subst em;obtain⟨j,r',a',hv,vm,U2,MZ,NA⟩:=rP RR.len hr (wd:="asked") rfl;obtain⟨m',rfl⟩:=sA MZ;have en:m=m':=by
  have:(Sum.inl (m:Int):aT)=Sum.inl (m':Int):=NA;injection this with this
  omega
 subst en;obtain⟨aj,rj,e0,NC,vz,CW⟩:=RR.get (i:=j) (v:=.ref a') (by rw[fA,U2];rfl);injection e0 with e0
 subst e0;rw[vm]at vz;injection vz with e0
 subst e0;exact⟨a',hv,CW⟩
def Ee:Sp:=λvs H Q _=>∃(ra nl:TD)(rs:List RX)(as:List TD)(tu:Nat)(ns:List Nat),vs=[.ref ra,.int (tu:Int),.ref nl]/\RxsAt H ra rs as/\rs.length<=100/\RX.Whole rs/\H nl=some (.lst (nI ns))/\(∀n∈ns,n∈bL rs)/\ns.length<=100 ∧
 ∀(p:TD)(os:List TD)(H':Hp),H p=none->RxsAt H' p (aZ rs tu ns) os->Same H H'->Q (.ref p) H'
def Ox(T:Txt K mg)(d7:aG P w K mg base 1 "by_numbers" QZs wI)(D:DefAt K mg "came_again" gJ QZh):aG P w K mg base 2 "came_again" QZh Ee:=by
 refine D.go dS (λvs H Q E h=>?_) (λf cdv A outer s H vs Q E hr h=>?_)
 ·obtain⟨ra,nl,rs,as,tu,ns,rfl,_⟩:=h;rfl
 ·obtain⟨ra,nl,rs,as,tu,ns,rfl,RR,hl,hw,gn,IE,BK,q⟩:=h;have c7:Room 1 _:=hr.mono Zd;have d6:=dP hr;have le:=RR.len;refine⟨_,(mo (ng (i:=3) dS.nd (mz d7 c7 rfl (li (lc 0) (li mq mm)))) (mo (ng (i:=4) dS.nd (mz d7 c7 rfl (li (lc 0) (li mq mm)))) (mo (ng (i:=5) dS.nd (qk mm)) (mo (ve PassesOwn.never rfl (qp (K:=K) (lc 2)) (o0 (i:=6) dS.nd) (mo (ua (ub (K:=K) PySem.F.plainAttrs_list PySem.F.slot_list_append PySem.F.type_list_append wv (lc 5) (li (my u8 (nj (li mq (li (lc 6) (li (lc 1) mm)))) (qw sy (tj d6 (lc 3) (lc 6)) (qo ml) tf)) mm))) (mv (nk (ni (R.eh d6) (lc 6) (lc 4)) (mv (ua (ub (K:=K) PySem.F.plainAttrs_list PySem.F.slot_list_append PySem.F.type_list_append wv (lc 5) (li (tj d6 (lc 4) (lc 6)) mm)))) nw)))) (mv (nh (lc 5))))))),?_⟩;refine⟨ra,"came",rs,as,rfl,RR,Zo,λcd H1 JU gcd s1=>?_⟩;dsimp only [aJ];refine⟨ra,"asked",rs,as,rfl,RR.same s1,Zo,λak H2 ZQ EO s2=>?_⟩;dsimp only [aJ];refine⟨eT rfl,λtl NV=>?_⟩;dsimp only [aJ];have s3:=aF (o:=.lst []) NV;have TM:(aI H2 tl (.lst [])) tl=some (.lst []):=aA;have ft0:H tl=none:=(s1.trans s2).free NV;generalize aI H2 tl (.lst [])=H3 at s3 TM;have sH:Same H H3:=(s1.trans s2).trans s3;have aq':=s3 _ _ (s2 _ _ gcd);have HQ:=s3 _ _ EO;have TN:H2 tl=none:=NV;refine bY (λσ' H'=>∃(os:List TD)(o6:Option V),σ'=[some (.ref ra),some (.int (tu:Int)),some (.ref nl),some (.ref cd),some (.ref ak),some (.ref tl),o6]/\RxsAt H' tl (aZ rs tu ns) os/\Same H2 H') (λnx b6=>?_) ?_
  ·refine⟨nl,rfl,⟨_,QYL (sH _ _ gn)⟩,dU (aX K nl (nI ns)) (λi σ' H'=>∃(os:List TD)(o6:Option V),σ'=[some (.ref ra),some (.int (tu:Int)),some (.ref nl),some (.ref cd),some (.ref ak),some (.ref tl),o6]/\RxsAt H' tl (aZ rs tu (ns.take i)) os/\Same H2 H') (λi σ' H' ⟨_,_,_,_,s'⟩=>QYL (s' _ _ ((s1.trans s2) _ _ gn))) ⟨[],_,rfl,RxsAt.nil TM,s3⟩ ?_ ?_⟩
   ·rintro i x σ' H4 hx ⟨os,o6,rfl,R4,s4⟩;unfold nI at hx;rw[fA]at hx;cases T3:ns[i]? with
    | none=>rw[T3]at hx;cases hx
    | some n=>
     rw[T3]at hx;cases hx;obtain⟨t0,p,k,x,z9⟩:=Tt (IE n (kI T3));have RB:=(RR.same (s1.trans s2)).same s4;obtain⟨ca,cb,ct,hv,we,yl⟩:=qC hw RB z9;have AS:=R4.len;have uu:=lS rs tu (ns.take i);have htk:(ns.take i).length<=ns.length:=by rw[nU];exact min_le_right _ _
     have wg:=s4 _ _ (s2 _ _ gcd);have ar':=s4 _ _ EO;dsimp only [aJ];have e1:aZ rs tu (ns.take (i+1))=aZ rs tu (ns.take i)++fY rs tu n:=by unfold aZ;rw[aL T3,bR]
     have e2:fY rs tu n=.came n tu p k x::(if fV "asked" rs (Sum.inl (n:Int))=true then [.asked n] else []):=by unfold fY;rw[lP hw z9]
     have AA:∀K6,Same H4 K6->DGet K6 cd (.int (n:Int)) (some (.ref ca)):=λK6 ss=>by rw[<- hv];exact DGet.k (k:=Sum.inl (n:Int)) (ss _ _ wg)
     refine bY (λσ' H'=>∃(os:List TD),σ'=[some (.ref ra),some (.int (tu:Int)),some (.ref nl),some (.ref cd),some (.ref ak),some (.ref tl),some (.int (n:Int))]/\RxsAt H' tl (aZ rs tu (ns.take i)++[.came n tu p k x]) os/\Same H2 H') (λGZ A0=>?_) ?_
     ·refine⟨.inl ⟨rfl,_,QYL R4.lst⟩,aN rfl,λt1 Ha sa ga=>⟨cd,_,rfl,AA Ha sa,_,sa _ _ we,λt2 Hb sb gb=>⟨_,_,sb _ _ ga,gb,QZX rfl,λt3 Hc sc gc=>⟨tl,_,_,rfl,rfl,sc _ _ (sb _ _ (sa _ _ R4.lst)),?_,?_⟩⟩⟩⟩
      ·rw[aS];exact nS (m:=1000) Zo Zd
      have si:=(sa.trans sb).trans sc;have tk:TK Hc (aI Hc tl (.lst (os.map V.ref++[.ref t3]))):=fW (si _ _ R4.lst);exact A0 _ _ ⟨os++[t3],rfl,R4.snoc (λa xs e=>tk _ _ (si _ _ e)) ⟨cb,tk _ _ gc,tk _ _ (si _ _ yl)⟩ aA,bV TN (s4.trans si)⟩
     rintro σ' H5 ⟨NW,rfl,R5,s5⟩;have NX:=R5.len;rw[mO,length_singleton]at NX;have HR:DGet H5 ak (.int (n:Int)) (bA (aM [] (bS "asked" rs as rs.length)) (Sum.inl (n:Int))):=DGet.k (k:=Sum.inl (n:Int)) (s5 _ _ EO);refine⟨_,HR,?_⟩;show if (bA (aM [] (bS "asked" rs as rs.length)) (Sum.inl (n:Int))).isSome=true then _ else _
     rw[oS le];refine bG (λh1=>?_) (λh1=>?_)
     ·obtain⟨aa,ha,gaa⟩:=Ow (RR.same ((s1.trans s2).trans s5)) h1;rw[ha]at HR;refine⟨.inl ⟨rfl,_,QYL R5.lst⟩,ak,_,rfl,HR,tl,_,_,rfl,rfl,R5.lst,?_,?_⟩
      ·rw[aS];exact nS (m:=1000) Zo Zd
      have tk:TK H5 (aI H5 tl (.lst (NW.map V.ref++[.ref aa]))):=fW R5.lst;refine⟨NW++[aa],_,rfl,?_,bV TN s5⟩;rw[e1,e2,P0 h1];have:=R5.snoc tk (r:=.asked n) (tk _ _ gaa) aA;rw[append_assoc]at this;exact this
     ·refine⟨NW,_,rfl,?_,s5⟩;rw[e1,e2,QZZ (by rw[h1];exact V2)];exact R5
   ·rintro σ' H4 ⟨os,o6,rfl,R4,s4⟩;rw[show(nI ns).length=ns.length by unfold nI;rw[aS],iB (aY _)]at R4;exact b6 _ _ ⟨os,o6,rfl,R4,s4⟩
  rintro σ' H4 ⟨os,o6,rfl,R4,s4⟩;exact q tl os H4 ft0 R4 ((s1.trans s2).trans s4)
def dI(e:E6):RX:=.kept e.1 e.2.1 e.2.2.1 e.2.2.2.1 e.2.2.2.2.1 e.2.2.2.2.2
def uP{rs:List RX}(h:RX.Whole rs){n t t':Nat}{p k p' k':Str}{x x':Dd}{y:An}(h1:.came n t p k x∈rs)(h2:.kept n t' p' k' x' y∈rs):False:=by
 induction h with
 | nil=>cases h1
 | @snoc rs r hw hf ih=>
  rcases aH h1 with h1|h1
  ·rcases aH h2 with h2|h2
   ·exact ih h1 h2
   ·rw[<- h2]at hf;exact QZY (hf.1 _ h1) (by show ¬ (3<=2);decide)
  ·rcases aH h2 with h2|h2
   ·rw[<- h1]at hf;exact hf.2.1 _ _ _ _ _ h2
   ·rw[<- h1]at h2;cases h2
def oU{G7:List RX}(hw:RX.Whole G7):∀ {rs:List RX},(∀r∈rs,r∈G7)->(rs.flatMap (uK G7)).map (·.1)=bW rs
 | [],_=>rfl
 | r::rs,h=>by
  have ih:=oU hw (rs:=rs) λr hr=>h r (iV _ hr)
  unfold bW at ih ⊢;rw[QZQ,QZR,dJ,ih];cases r with
  | done n t y=>
   obtain⟨t0,p,k,x,z9,_⟩:=fF hw (h _ eV);rw[rT hw z9];rfl
  | _=>rfl
def zE{rs:List RX}(hw:RX.Whole rs):((cX rs).map (·.1)).Nodup:=by
 have h1:((rs.flatMap fU).map (·.1)).Nodup:=by
  induction hw with
  | nil=>exact nodup_nil
  | @snoc rs r hw hf ih=>
   rw[bR,dJ];cases r with
   | kept n t p k x y=>
    refine nodup_append.mpr ⟨ih,by simp[fU],λa ha b hb=>?_⟩;have t7:b=n:=by simpa [fU]using hb
    subst t7;rintro rfl;obtain⟨e,he,rfl⟩:=Zmm.mp ha;obtain⟨r,hr,h3⟩:=mem_flatMap.mp he
    cases r with
    | kept n' t' p' k' x' y'=>
     rw[Zms.mp h3]at hf;exact QZY (hf.2.2.1 _ _ _ _ _ _ hr) (lt_irrefl _)
    | _=>cases h3
   | _=>simpa [fU]using ih
 unfold cX;rw[dJ,oU hw λ_ h=>h];refine nodup_append.mpr ⟨h1,rQ hw,λa ha b hb=>?_⟩;rintro rfl;obtain⟨e,he,rfl⟩:=Zmm.mp ha;obtain⟨r,hr,h3⟩:=mem_flatMap.mp he;obtain⟨t,y,hd⟩:=gU hb;obtain⟨t0,p,k,x,z9,_⟩:=fF hw hd
 cases r with
 | kept n' t' p' k' x' y'=>
  rw[Zms.mp h3]at z9;exact uP hw z9 hr
 | _=>cases h3
def Ef(rs:List RX)(n:Nat):List (Str×Str):=match dG rs n with|some (p,k,_)=>[(p,k)]|none=>[]
def dB(rs:List RX)(ns:List Nat):List (Str×Str):=ns.flatMap (Ef rs)
def Oy:RX->List (Str×Str)|.came _ _ p k _=>[(p,k)]|_=>[]
def sC(rs:List RX)(tu:Nat):∀ns:List Nat,(aZ rs tu ns).flatMap Oy=dB rs ns
 | []=>rfl
 | n::ns=>by
  have ih:=sC rs tu ns;unfold aZ dB at ih ⊢;rw[QZQ,flatMap_append,ih,QZQ];congr 1;unfold fY Ef;cases dG rs n with
  | none=>rfl
  | some v=>
   dsimp only;split<;>rfl
structure aAa(rs:List RX)(f:Str->Nat)(lf tu:Nat)(ns:List Nat)(out:List RX):Prop where
 ex:∃(m:Nat)(hs:List Str)(es:List E6),IsMax (hX rs) (m:Int)/\PosR f hs/\es.Pairwise (λa b=>a.1<b.1)/\(∀e,e∈es↔(fZ (cX rs) (aQ e)=some e/\tu<e.2.1+lf)/\aQ e∉dB rs ns)/\hs.length<=(cN rs).length+2*(bW rs).length/\es.length<=(cX rs).length ∧
  out=.next m tu::(hs.map (λz=>.has z (f z))++(es.map dI++aZ rs tu ns))
def SpA(H:Hp)(s:Str×Str)(a:TD):Prop:=H a=some (.tup [.str s.1,.str s.2])
def SpA.all{H H':Hp}(s:TK H H'){sp:List (Str×Str)}{as:List TD}(p:Paired (SpA H) sp as):Paired (SpA H') sp as:=Paired.map' (λ_ _ w=>s _ _ w) p
def Bo(a b p k:Str):kR [.str a,.str b] [.str p,.str k]=decide ((a,b)=(p,k)):=by
 have:kR [.str a,.str b] [.str p,.str k]=((a==p)&&((b==k)&&true)&&true):=rfl;rw[this,Bool.and_true,Bool.and_true];by_cases h1:a=p
 ·by_cases h2:b=k
  ·rw[h1,h2];simp
  ·rw[beq_eq_false_iff_ne.mpr h2,Bool.and_false];exact(T0 λe=>h2 (Prod.mk.inj e).2).symm
 ·rw[beq_eq_false_iff_ne.mpr h1,Bool.false_and];exact(T0 λe=>h1 (Prod.mk.inj e).1).symm
def sD{H:Hp}{sp:List (Str×Str)}{as:List TD}(p:Paired (SpA H) sp as):∃zs:List (TD×List V),zs.map (·.1)=as/\(∀z∈zs,H z.1=some (.tup z.2))/\∀s,wA [.str s.1,.str s.2] zs=decide (s∈sp)/\∀z∈zs,kW z.2 [.str s.1,.str s.2]:=by
 induction p with
 | nil=>exact⟨[],rfl,(λ_ h=>nomatch h),λs=>⟨rfl,λ_ h=>nomatch h⟩⟩
 | @cons s a sp as h t ih=>
  obtain⟨zs,h1,h2,h3⟩:=ih;refine⟨(a,[.str s.1,.str s.2])::zs,by rw[map_cons,h1],λz hz=>?_,λs'=>⟨?_,λz hz=>?_⟩⟩
  ·rcases mem_cons.mp hz with rfl|hz
   ·exact h
   ·exact h2 z hz
  ·have:wA [.str s'.1,.str s'.2] ((a,[.str s.1,.str s.2])::zs)=(kR [.str s.1,.str s.2] [.str s'.1,.str s'.2]||wA [.str s'.1,.str s'.2] zs):=rfl;rw[this,Bo,(h3 s').1];by_cases c:s=s'
   ·subst c;simp
   ·rw[T0 (show ¬ (s.1,s.2)=(s'.1,s'.2) from c),Bool.false_or];simp[mem_cons,Ne.symm c]
  ·rcases mem_cons.mp hz with rfl|hz
   ·intro j u v hu hv;match j,hu,hv with
    | 0,hu,hv=>cases hu;cases hv;exact⟨rfl,rfl⟩
    | 1,hu,hv=>cases hu;cases hv;exact⟨rfl,rfl⟩
    | j+2,hu,_=>cases hu
   ·exact(h3 s').2 z hz
def zF:Sp:=λvs H Q _=>∃(ra nl:TD)(rs:List RX)(as:List TD)(F:Nat->Str->Nat)(f:Str->Nat)(lf tu:Nat)(ns:List Nat),vs=[.ref ra,.int (lf:Int),.int (tu:Int),.ref nl]/\RxsAt H ra rs as/\rs.length<=100/\(cN rs).length+2*(bW rs).length<=43/\(cX rs).length<=43/\RX.Whole rs/\(∀r∈rs,Nu r)/\RepF rs F f ∧
 H nl=some (.lst (nI ns))/\(∀n∈ns,n∈bL rs)/\ns.length<=100 ∧
 ∀(p:TD)(os:List TD)(out:List RX)(H':Hp),H p=none->RxsAt H' p out os->aAa rs f lf tu ns out->Same H H'->Q (.ref p) H'
def Hr{rs:List RX}{m:Int}(h:IsMax (hX rs) m):∃n:Nat,m=(n:Int):=by
 have:=h.2 1 (by unfold hX;simp);exact⟨m.toNat,Zo⟩
def Hs(T:Txt K mg)(Q5:aG P w K mg base 5 "risen" QZM wQ)(Y6:aG P w K mg base 2 "came_again" QZh Ee)(Y7:aG P w K mg base 2 "still_kept" QZi Ed)(D:DefAt K mg "folded" hU QZj):aG P w K mg base 6 "folded" QZj zF:=by
 refine D.go gT (λvs H Q E h=>?_) (λf cdv A outer s H vs Q E hr h=>?_)
 ·obtain⟨ra,nl,rs,as,F,f,lf,tu,ns,rfl,_⟩:=h;rfl
 ·obtain⟨ra,nl,rs,as,F,ff,lf,tu,ns,rfl,RR,hl,hc,qb,hw,hok,hF,gn,IE,BK,q⟩:=h;have L4:Room 5 _:=hr;have V0:Room 2 _:=hr.mono Zd;have V1:Room 2 _:=hr.mono Zd;have J4:=hr.units;have le:=RR.len;refine⟨_,(mo (ng (i:=4) gT.nd (mz Q5 L4 rfl (li (lc 0) mm))) (mo (IR (i:=5) gT.nd rfl (Or.inl rfl) rfl (js:=[none]) (N:=["pair"]) (CompScope.by (aD hU) QZk rfl rfl Zk) (aO rfl) (qp (K:=K) (mn (mr (K:=K)) (lc 4) ml)) (λC s₂ H₂ fp=>⟨(o0 (i:=0) (show(["pair"]:List Str).Nodup by decide +kernel)),wn,(my u8 (nj (li mq mm)) (lc 0))⟩) rfl) (mo (ng (i:=6) gT.nd (mz Y6 V0 rfl (li (lc 0) (li (lc 2) (li (lc 3) mm))))) (mo (ng (i:=7) gT.nd (qv rfl (js:=[none]) (N:=QZI) (CompScope.by (aD hU) QZk rfl rfl Zk) (aO rfl) (qp (K:=K) (lc 6)) (λC s₂ H₂ fp=>⟨(o0 (i:=0) (show(QZI:List Str).Nodup by decide +kernel)),(qx (ni pi (mn (mr (K:=K)) (lc 0) ml) mq)),(qw sy (lc 0) (qo ml) (qo ml))⟩))) (mo (IR (i:=8) gT.nd rfl (Or.inl rfl) rfl (js:=[none,some 7]) (N:=["entry","busy"]) (CompScope.by (aD hU) QZk rfl rfl Zk) (aO rfl) (qp (K:=K) (mz Y7 V1 rfl (li (mn (mr (K:=K)) (lc 4) ml) (li (lc 1) (li (lc 2) mm))))) (λC s₂ H₂ fp=>⟨(o0 (i:=0) (show(["entry","busy"]:List Str).Nodup by decide +kernel)),(qx (ni (R.ib J4) (qw sy (lc 0) (qo ml) (qo ml)) (lc 1))),(my u8 (nj (li mq mm)) (lc 0))⟩) rfl) (mv (nh (my wf (my wf (my wf (qk (li (nj (li mq (li (mn (mr (K:=K)) (lc 4) ml) (li (lc 2) mm)))) mm)) (lc 5)) (lc 8)) (lc 6))))))))),?_⟩;refine⟨ra,rs,as,F,ff,rfl,RR,hl,hc,hw,hok,hF,λtp kl ol H1 rd s1=>?_⟩;obtain⟨bl,m1,m2,ks,oo,zs,hs,DG,BF,pk,_,_,zi,_,KG,hz,pR,ez,lh⟩:=rd.ex;obtain⟨m,rfl⟩:=Hr zi;have lz:zs.length=hs.length:=by have:=congrArg length ez;simpa using this
  dsimp only [aJ];refine bY (λσ' H'=>∃(hl:TD)(has:List TD),σ'=[some (.ref ra),some (.int (lf:Int)),some (.int (tu:Int)),some (.ref nl),some (.ref tp),some (.ref hl),none,none,none]/\RxsAt H' hl (hs.map λz=>RX.has z (ff z)) has/\Same H1 H') (λnx b6=>?_) ?_
  ·refine⟨_,QYM DG,_,rfl,bl,rfl,⟨_,QYL KG⟩,?_⟩;refine aV (aX K bl (eF zs)) (by unfold eF;rw[aS];omega) (λi ys H'=>∃as:List TD,ys=as.map V.ref/\Paired (λr a=>RX.At H' a r) ((hs.take i).map λz=>RX.has z (ff z)) as/\Same H1 H'/\as.length<=i) (λi ys H' ⟨as,e,_,s',l'⟩=>⟨QYL (s' _ _ KG),by rw[e,aS];exact l'⟩) ⟨[],rfl,.nil,(λ_ _ e=>e),aY _⟩ (?_) (?_)
   ·rintro i x ys H' hx ⟨as,e,pp,s',l'⟩;obtain⟨z,hn,rfl,gz⟩:=wN hz hx;have T3:(zs.map (·.2))[i]?=some z.2:=by rw[fA,hn];rfl
    rw[ez,fA]at T3;obtain⟨nm,EB,enm⟩:=Option.map_eq_some_iff.mp T3;rw[<- enm]at gz;dsimp only [aJ];refine⟨aN rfl,λt1 Ha sa ga=>⟨_,_,ga,sa _ _ (s' _ _ gz),QZX rfl,λt2 Hb sb gb=>⟨as++[t2],by rw[e,dJ];rfl,?_,(s'.trans sa).trans sb,by simp;omega⟩⟩⟩;rw[aL EB,dJ];exact Paired.snoc (Paired.map' (λ_ _ w=>RX.At.tk (Same.tk (sa.trans sb)) w) pp) gb
   ·rintro ys H' ⟨as,e,pp,s',l'⟩;intro x9 TQ;have lz2:(eF zs).length=hs.length:=by unfold eF;rw[aS];exact lz
    rw[lz2,iB (aY _)]at pp;exact b6 _ _ ⟨x9,as,rfl,⟨by rw[aA,e],Paired.map' (λ_ _ w=>RX.At.tk (Same.tk (aF TQ)) w) pp⟩,s'.trans (aF TQ)⟩
  rintro σ' H2 ⟨x9,has,rfl,R2,s2⟩;refine⟨ra,nl,rs,as,tu,ns,rfl,(RR.same s1).same s2,hl,hw,s2 _ _ (s1 _ _ gn),IE,BK,λcl cs H3 fcl RC s3=>?_⟩;have lal:=lS rs tu ns;have lcs:=RC.len;have lhs:=R2.len;rw[aS]at lhs;dsimp only [aJ];refine bY (λσ' H'=>∃(bz:TD)(bs:List TD),σ'=[some (.ref ra),some (.int (lf:Int)),some (.int (tu:Int)),some (.ref nl),some (.ref tp),some (.ref x9),some (.ref cl),some (.ref bz),none]/\H' bz=some (.lst (bs.map V.ref))/\Paired (SpA H') (dB rs ns) bs/\Same H3 H') (λnx b6=>?_) ?_
  ·refine⟨cl,rfl,⟨_,QYL RC.lst⟩,?_⟩;refine aV (aX K cl (cs.map V.ref)) (by rw[aS];omega) (λi ys H'=>∃as:List TD,ys=as.map V.ref/\Paired (SpA H') (((aZ rs tu ns).take i).flatMap Oy) as/\Same H3 H'/\as.length<=i) (λi ys H' ⟨as,e,_,s',l'⟩=>⟨QYL (s' _ _ RC.lst),by rw[e,aS];exact l'⟩) ⟨[],rfl,.nil,(λ_ _ e=>e),aY _⟩ (?_) (?_)
   ·rintro i x ys H' hx ⟨as,e,pp,s',l'⟩;obtain⟨a,r,rfl,ha,v9,d8⟩:=(RC.same s').get hx;obtain⟨xs,g,x0,x1,x2⟩:=eX d8;have i8:=aL v9;dsimp only [aJ];refine⟨_,QYM g,_,x0,?_⟩;show if decide (bP r="came")=true then _ else _
    refine bG (λh=>?_) (λh=>?_)
    ·obtain⟨n,t,p,k,x,rfl⟩:=iU (UV h);obtain⟨b1,gx,ym⟩:=d8;refine⟨_,gx,λt1 Ha sa ga=>⟨as++[t1],by rw[e,dJ];rfl,?_,s'.trans sa,by simp;omega⟩⟩;rw[i8,bR];exact Paired.snoc (Paired.map' (λ_ _ w=>(Same.tk sa) _ _ w) pp) ga
    ·refine⟨as,e,?_,s',Zo⟩;rw[i8,bR];have:Oy r=[]:=by cases r<;>first|rfl|exact QZY rfl (UF h)
     rw[this,append_nil];exact pp
   ·rintro ys H' ⟨as,e,pp,s',l'⟩;intro bz TR;rw[aS,<- lcs,iB (aY _),sC]at pp;exact b6 _ _ ⟨bz,as,rfl,by rw[aA,e],Paired.map' (λ_ _ w=>(Same.tk (aF TR)) _ _ w) pp,s'.trans (aF TR)⟩
  rintro σ' H4 ⟨bz,bs,rfl,gbz,pb,s4⟩;have KH:=(s2.trans s3).trans s4;refine bY (λσ' H'=>∃(kp:TD)(es:List E6)(ka:List TD),σ'=[some (.ref ra),some (.int (lf:Int)),some (.int (tu:Int)),some (.ref nl),some (.ref tp),some (.ref x9),some (.ref cl),some (.ref bz),some (.ref kp)]/\RxsAt H' kp (es.map dI) ka/\es.length<=(cX rs).length/\es.Pairwise (λa b=>a.1<b.1)/\(∀e,e∈es↔(fZ (cX rs) (aQ e)=some e/\tu<e.2.1+lf)/\aQ e∉dB rs ns)/\Same H4 H') (λnx b6=>?_) ?_
  ·refine⟨_,QYM (KH _ _ DG),_,rfl,kl,ks,cX rs,lf,tu,rfl,KH _ _ BF,Paired.map' (λ_ _ z=>z.tk (Same.tk KH)) pk,qb,zE hw,λpl os out H5 fpl TU po xw s5=>?_⟩;have lo:=po.length;have AV:out.length<=(cX rs).length:=(by
    have h1:(out.map (·.1)).Nodup:=pairwise_map.mpr (xw.asc.imp λh=>ne_of_lt h);have h2:=Bi h1 (ys:=(cX rs).map (·.1)) λn hn=>by
     obtain⟨e,he,rfl⟩:=Zmm.mp hn;exact Zmm.mpr ⟨e,(gV ((xw.iff e).mp he).1).1,rfl⟩
    rw[aS,aS]at h2;exact h2)
   refine⟨pl,rfl,⟨_,QYL TU⟩,?_⟩;refine aV (aX K pl (os.map V.ref)) (by rw[aS];omega) (λi ys H'=>∃as:List TD,ys=as.map V.ref/\Paired (λr a=>RX.At H' a r) (((out.take i).filter λe=>!decide (aQ e∈dB rs ns)).map dI) as/\Same H5 H'/\as.length<=i) (λi ys H' ⟨as,e,_,s',l'⟩=>⟨QYL (s' _ _ TU),by rw[e,aS];exact l'⟩) ⟨[],rfl,.nil,(λ_ _ e=>e),aY _⟩ (?_) (?_)
   ·rintro i x ys H' hx ⟨as,e,pp,s',l'⟩;rw[fA]at hx;cases yo:os[i]? with
    | none=>rw[yo]at hx;cases hx
    | some a=>
     rw[yo]at hx;cases hx;obtain⟨hi,ei⟩:=Zgs.mp yo;obtain⟨K8,pa⟩:=Paired.get' (j:=i) po hi;rw[ei]at pa;have vc:out[i]?=some out[i]:=eZ K8;generalize out[i]=e0 at pa vc;obtain⟨b,c,ge,gb,gc⟩:=pa.tk (Same.tk s');dsimp only [aJ];refine⟨_,ge,λt1 Ha sa ga=>?_⟩;obtain⟨zl,z1,z2,z3⟩:=sD (SpA.all (Same.tk ((s5.trans s').trans sa)) pb);refine⟨_,zl,ga,by rw[(s5.trans (s'.trans sa)) _ _ gbz,<- z1,map_map];rfl,λz hz=>⟨z2 z hz,(z3 (aQ e0)).2 z hz⟩,?_⟩;show if (!wA [.str (aQ e0).1,.str (aQ e0).2] zl)=true then _ else _
     rw[(z3 (aQ e0)).1];refine bG (λh=>?_) (λh=>?_)
     ·refine⟨aN rfl,λt2 Hb sb ox=>⟨_,_,ox,sb _ _ (sa _ _ ge),QZX rfl,λt3 Hc sc gc3=>⟨as++[t3],by rw[e,dJ];rfl,?_,s'.trans ((sa.trans sb).trans sc),by simp;omega⟩⟩⟩;rw[aL vc,filter_append,filter_cons,P0 h,dJ];have si:=(sa.trans sb).trans sc;exact Paired.snoc (Paired.map' (λ_ _ w=>RX.At.tk (Same.tk si) w) pp) ⟨b,c,gc3,si _ _ gb,si _ _ gc⟩
     ·refine⟨as,e,?_,s'.trans sa,Zo⟩;rw[aL vc,filter_append,filter_cons,QZZ (by rw[h];exact V2),List.filter_nil,append_nil];exact Paired.map' (λ_ _ w=>RX.At.tk (Same.tk sa) w) pp
   ·rintro ys H' ⟨as,e,pp,s',l'⟩;intro kp TX;rw[aS,<- lo,iB (aY _)]at pp;refine b6 _ _ ⟨kp,_,as,rfl,⟨by rw[aA,e],Paired.map' (λ_ _ w=>RX.At.tk (Same.tk (aF TX)) w) pp⟩,eI (length_filter_le _ _) AV,List.Pairwise.filter _ xw.asc,λe0=>?_,s5.trans (s'.trans (aF TX))⟩;rw[mem_filter,xw.iff];simp
  rintro σ' H5 ⟨kp,es,ka,rfl,RK,le5,he1,he2,s5⟩;have lka:=RK.len;rw[aS]at lka;have NY:=KH.trans s5;have TY:=(R2.same (s3.trans s4)).same s5;have TZ:=(RC.same s4).same s5;refine⟨_,QYM (NY _ _ DG),_,rfl,aN rfl,λt1 H6 s6 g6=>⟨eT rfl,λp1 zh=>?_⟩⟩;have s7:=aF (o:=.lst [.ref t1]) zh;have g7:(aI H6 p1 (.lst [.ref t1])) p1=some (.lst [.ref t1]):=aA;have UA:=s7 _ _ g6;generalize aI H6 p1 (.lst [.ref t1])=H7 at s7 g7 UA;have IF:=s6.trans s7;refine⟨_,_,g7,(TY.same IF).lst,by rw[aS];exact gB (by simp;omega),λp2 C5=>?_⟩;refine⟨_,_,aA,aP (RK.same IF).lst C5,by rw[mO,aS,aS];exact gB (by simp;omega),λp3 Q3=>?_⟩;refine⟨_,_,aA,aP (aP (TZ.same IF).lst C5) Q3,by rw[mO,mO,aS,aS,aS];exact gB (by simp;omega),λp4 U1=>?_⟩;have UB:Same H7 (aI (aI (aI H7 p2 (.lst ([V.ref t1]++has.map V.ref))) p3 (.lst ([V.ref t1]++has.map V.ref++ka.map V.ref))) p4 (.lst ([V.ref t1]++has.map V.ref++ka.map V.ref++cs.map V.ref))):=((aF C5).trans (aF Q3)).trans (aF U1);have KJ:=IF.trans UB;refine q p4 (t1::(has++(ka++cs))) (.next m tu::(hs.map (λz=>.has z (ff z))++(es.map dI++aZ rs tu ns))) _ (s1.free (NY.free (IF.free (((aF C5).trans (aF Q3)).free U1)))) ⟨?_,?_⟩ ⟨m,hs,es,zi,pR,he1,he2,lh,le5,rfl⟩ (s1.trans (NY.trans KJ))
  ·rw[aA];simp
  ·refine .cons (UB _ _ UA) ?_;exact Paired.append' (Paired.map' (λ_ _ w=>RX.At.tk (Same.tk KJ) w) TY.each) (Paired.append' (Paired.map' (λ_ _ w=>RX.At.tk (Same.tk KJ) w) RK.each) (Paired.map' (λ_ _ w=>RX.At.tk (Same.tk KJ) w) TZ.each))
def uQ:RX->Nat|.next n _=>n|.has _ _=>0|.kept n _ _ _ _ _=>n|.came n _ _ _ _=>n|.asked n=>n|.done n _ _=>n
def Oz{r:RX}(h:bP r≠"has"):Nm r=.int (uQ r:Int)/\iR r=Sum.inl (uQ r:Int):=by cases r<;>first|exact⟨rfl,rfl⟩|exact QZY rfl h
def kH(wd:Str)(rs:List RX):List Nat:=rs.filterMap λr=>if bP r=wd then some (uQ r) else none
def uR(wd:Str)(rs:List RX)(r:RX):kH wd (rs++[r])=kH wd rs++kH wd [r]:=by unfold kH;rw[QZS]
def Pa{σ:St}{H:Hp}{ra:TD}{rs:List RX}{as:List TD}{Q:List V->Hp->Prop}(wd:Str)(DD:wd≠"has")(RR:RxsAt H ra rs as)(hl:rs.length<=100)(h:Q (nI (kH wd rs)) H) :
  lV [none] (aJ 0) (mT (sJ mEq (sJ (sN K) (vr 0) (tC (.int 0))) (tC (.str wd)))) (sJ (sN K) (vr 0) (tC (.int 1))) σ (Itl K ra) H Q:=by
 have le:=RR.len;refine aV (aX K ra (as.map V.ref)) (by rw[aS];omega) (λi ys H'=>H'=H/\ys=nI (kH wd (rs.take i))) (λi ys H' ⟨e0,e⟩=>⟨by rw[e0];exact QYL RR.lst,by rw[e];unfold nI kH;rw[aS];exact wP _ _ _⟩) ⟨rfl,rfl⟩ (?_) (?_)
 ·rintro i x ys H' hx ⟨e0,e⟩;subst e0;obtain⟨a,r,rfl,ha,v9,d8⟩:=RR.get hx;obtain⟨xs,g,x0,x1,x2⟩:=eX d8;have i8:=aL v9;dsimp only [aJ];refine⟨_,QYM g,_,x0,?_⟩;show if decide (bP r=wd)=true then _ else _
  refine bG (λh=>?_) (λh=>?_)
  ·have UC:=UV h;refine⟨_,QYM g,_,x1,rfl,?_⟩;have:kH wd [r]=[uQ r]:=by unfold kH;rw[QZR,P0 UC];rfl
   rw[i8,uR,e,this,(Oz (by rw[UC];exact DD)).1];unfold nI;rw[dJ];rfl
  ·refine⟨rfl,?_⟩;have:kH wd [r]=[]:=by unfold kH;rw[QZR,QZZ (UF h)];rfl
   rw[i8,uR,e,this,append_nil]
 ·rintro ys H' ⟨e0,e⟩;subst e0;rw[aS,<- le,iB (aY _)]at e;rw[e];exact h
def Tu{wd:Str}(DD:wd≠"has")(rs:List RX)(n:Nat):mM (.int (n:Int)) (nI (kH wd rs))=fV wd rs (Sum.inl (n:Int)):=by
 unfold mM nI fV kH;induction rs with
 | nil=>rfl
 | cons r rs ih=>
  rw[QZR,any_cons];by_cases h:bP r=wd
  ·rw[P0 h];dsimp only;rw[map_cons,any_cons,ih,T8 h,(Oz (by rw[h];exact DD)).2,Bool.true_and]
   congr 1
   show(((uQ r:Nat):Int)==(n:Int))=_;by_cases e:uQ r=n
   ·rw[e];simp
   ·rw[T0 (λz=>e (by injection z with z;omega))];exact beq_eq_false_iff_ne.mpr Zo
  ·rw[QZZ h];dsimp only;rw[ih,T0 h];rfl
def Eg(ns:List Nat):(nI ns).all eW=true:=by unfold nI;rw[all_eq_true];intro v hv;obtain⟨n,_,rfl⟩:=Zmm.mp hv;rfl
def lB(rs:List RX):RX->Option Nat|.came n _ _ _ _=>if fV "done" rs (Sum.inl (n:Int))=true then none else some n|_=>none
def gA(rs:List RX):List Nat:=rs.filterMap (lB rs)
def Pb:Sp:=λvs H Q _=>∃(d b ra:TD)(rs:List RX)(as:List TD),vs=[.ref d,.ref ra]/\Dk H d b/\RxsAt H ra rs as/\rs.length<=43/\ra≠d/\ra≠b ∧
 ∀(tp nl:TD)(lf tu:Nat)(ns:List Nat)(t0:Int)(H':Hp),H' tp=some (.tup [.int (lf:Int),.int (tu:Int),.ref nl])->H nl=none->H' nl=some (.lst (nI ns))->ns.Sublist (gA rs)->1<=lf->lf<=1000000000000->IsMax (turnL rs) t0->t0<=tu->(tu:Int)<t0+100000000000->Fw d b H H'->Q (.ref tp) H'
def Tv(T:Txt K mg)(a6:aG P w K mg base 1 "_law_draw" QZP bT)(B7:aG P w K mg base 2 "_law_end" QZP bT)(D:DefAt K mg "_law_asked_fold" bO QYZ):aG P w K mg base 3 "_law_asked_fold" QYZ Pb:=by
 refine D.go bI (λvs H Q E h=>?_) (λf cdv A outer s H vs Q E hr h=>?_)
 ·obtain⟨d,b,ra,rs,as,rfl,_⟩:=h;rfl
 ·obtain⟨d,b,ra,rs,as,rfl,D0,RR,hl,nd,nb,q⟩:=h;have a7:Room 1 _:=hr.mono Zd;have B8:Room 2 _:=hr;have J4:=hr.units;have le:=RR.len;refine⟨_,(mo (ng (i:=2) bI.nd (qv rfl (js:=[none]) (N:=QZJ) (CompScope.by (aD bO) QZn rfl rfl Zk) (aO rfl) (qp (K:=K) (lc 1)) (λC s₂ H₂ fp=>⟨(o0 (i:=0) (show(QZJ:List Str).Nodup by decide +kernel)),(qx (ni pi (mn (mr (K:=K)) (lc 0) ml) mq)),(mn (mr (K:=K)) (lc 0) ml)⟩))) (mo (IR (i:=3) bI.nd rfl (Or.inl rfl) rfl (js:=[none,some 2]) (N:=["_law_row","_law_done"]) (CompScope.by (aD bO) QZn rfl rfl Zk) (aO rfl) (qp (K:=K) (lc 1)) (λC s₂ H₂ fp=>⟨(o0 (i:=0) (show(["_law_row","_law_done"]:List Str).Nodup by decide +kernel)),(qx (re (ww (ni pi (mn (mr (K:=K)) (lc 0) ml) mq) (AC (ni (R.kh (K:=K)) (mn (mr (K:=K)) (lc 0) ml) (lc 1)))))),(mn (mr (K:=K)) (lc 0) ml)⟩) rfl) (mo (ng (i:=4) bI.nd (mz a6 a7 rfl (li (lc 0) (li ml mm)))) (mo (nk (ni NE (lc 4) ml) (mv (IR (i:=3) bI.nd rfl (Or.inl rfl) rfl (js:=[none,some 0,some 4]) (N:=QYO) (CompScope.by (aD bO) QZn rfl rfl Zk) (aO rfl) (qp (K:=K) (lc 3)) (λC s₂ H₂ fp=>⟨(o0 (i:=0) (show(QYO:List Str).Nodup by decide +kernel)),(qx (re (ww (ni pi (lc 2) ml) (AC (ni pi (mz a6 a7 rfl (li (lc 1) (li ml mm))) ml))))),(lc 0)⟩) rfl)) nw) (mo (IR (i:=5) bI.nd rfl (Or.inl rfl) rfl (js:=[none]) (N:=QZJ) (CompScope.by (aD bO) QZn rfl rfl Zk) (aO rfl) (qp (K:=K) (lc 1)) (λC s₂ H₂ fp=>⟨(o0 (i:=0) (show(QZJ:List Str).Nodup by decide +kernel)),(qx (ni (sw (K:=K)) (mn (mr (K:=K)) (lc 0) ml) (nj (li mq (li mq (li mq mm)))))),(mn (mr (K:=K)) (lc 0) ml)⟩) rfl) (mo (ng (i:=6) bI.nd (my qi (ql (R.fg (K:=K) rfl) rfl T.b_max oH (li (my wf (qk (li ml mm)) (lc 5)) mm)) (mn (qj (K:=K)) (qk (li ml (li ml (li (mz a6 a7 rfl (li (lc 0) (li ml mm))) (li (mz a6 a7 rfl (li (lc 0) (li (my ud ml ml) mm))) mm))))) (mz a6 a7 rfl (li (lc 0) (li ml mm)))))) (mo (ng (i:=7) bI.nd (mn (qj (K:=K)) (qk (li (my qi ml (mz a6 a7 rfl (li (lc 0) (li ml mm)))) (li (my qi ml (mz B7 B8 rfl (li (lc 0) (li (my ud ml ml) mm)))) mm))) (mz a6 a7 rfl (li (lc 0) (li ml mm))))) (mv (nh (nj (li (lc 7) (li (lc 6) (li (lc 3) mm))))))))))))),?_⟩;refine⟨ra,rfl,⟨_,QYL RR.lst⟩,Pa "done" Zk RR Zo λdn hdn=>?_⟩;have s1:=aF (o:=.lst (nI (kH "done" rs))) hdn;have HN:(aI H dn (.lst (nI (kH "done" rs)))) dn=some (.lst (nI (kH "done" rs))):=aA;dsimp only;generalize aI H dn (.lst (nI (kH "done" rs)))=H1 at s1 HN;have R1:=RR.same s1;refine bY (λσ' H'=>∃(nl:TD),σ'=[some (.ref d),some (.ref ra),some (.ref dn),some (.ref nl),none,none,none,none]/\H1 nl=none/\H' nl=some (.lst (nI (gA rs)))/\Same H1 H') (λnx b6=>?_) ?_
  ·refine⟨ra,rfl,⟨_,QYL R1.lst⟩,?_⟩;refine aV (aX K ra (as.map V.ref)) (by rw[aS];omega) (λi ys H'=>H'=H1/\ys=nI ((rs.take i).filterMap (lB rs))) (λi ys H' ⟨e0,e⟩=>⟨by rw[e0];exact QYL R1.lst,by rw[e];unfold nI;rw[aS];exact wP _ _ _⟩) ⟨rfl,rfl⟩ (?_) (?_)
   ·rintro i x ys H' hx ⟨e0,e⟩;subst e0;obtain⟨a,r,rfl,ha,v9,d8⟩:=R1.get hx;obtain⟨xs,g,x0,x1,x2⟩:=eX d8;have i8:=aL v9;have no:lB rs r=none->H'=H'/\ys=nI ((rs.take (i+1)).filterMap (lB rs)):=λhn=>⟨rfl,by rw[i8,QZS,e,QZR,hn];simp⟩
    dsimp only [aJ];refine⟨_,QYM g,_,x0,?_⟩;show if decide (bP r="came")=true then _ else _
    refine bG (λh=>?_) (λh=>?_)
    ·obtain⟨n,t,p,k,x,rfl⟩:=iU (UV h);refine⟨_,QYM g,_,x1,dn,_,rfl,.inl (QYL HN),rfl,Eg _,?_⟩;show if (!mM (.int (n:Int)) (nI (kH "done" rs)))=true then _ else _
     rw[Tu Zk];refine bG (λh2=>?_) (λh2=>no ?_)
     ·refine⟨_,QYM g,_,x1,rfl,?_⟩;have hn:lB rs (.came n t p k x)=some n:=by
       show(if fV "done" rs (Sum.inl (n:Int))=true then none else some n)=_;rw[QZZ (λz=>by rw[z]at h2;cases h2)]
      rw[i8,QZS,e,QZR,hn];unfold nI;rw[dJ];rfl
     ·show(if fV "done" rs (Sum.inl (n:Int))=true then none else some n)=_;rw[P0 (by simpa using h2)]
    ·refine no ?_;cases r<;>first|rfl|exact QZY rfl (UF h)
   ·rintro ys H' ⟨e0,e⟩;intro nl BK;subst e0;rw[aS,<- le,iB (aY _)]at e;exact b6 _ _ ⟨nl,rfl,BK,by rw[aA,e];rfl,aF BK⟩
  rintro σ' H2 ⟨nl,rfl,KN,IG,s2⟩;have f2:Fw d b H H2:=(Fw.refl D0).same (s1.trans s2);have SE:(gA rs).length<=43:=eI (length_filterMap_le _ _) hl;refine⟨d,b,3,rfl,f2.dk,Zd,Zd,λway H3 z0 z1 D3 e3=>?_⟩;have f3:=f2.draw D3 e3;have DH:=D0.ne (s1.free KN);dsimp only;refine bY (λσ' H'=>∃(nl:TD)(ns:List Nat),σ'=[some (.ref d),some (.ref ra),some (.ref dn),some (.ref nl),some (.int way),none,none,none]/\H nl=none/\H' nl=some (.lst (nI ns))/\ns.Sublist (gA rs)/\Fw d b H H') (λnx b6=>?_) ?_
  ·have DI:H3 nl=some (.lst (nI (gA rs))):=e3 _ _ IG DH.1 DH.2;show if decide (0<way)=true then _ else _
   refine bG (λh=>?_) (λh=>b6 _ _ ⟨nl,_,rfl,s1.free KN,DI,List.Sublist.refl _,f3⟩);refine⟨nl,rfl,⟨_,QYL DI⟩,?_⟩;refine aV (aX K nl (nI (gA rs))) (by unfold nI;rw[aS];omega) (λi ys H'=>∃ms:List Nat,ys=nI ms/\ms.Sublist ((gA rs).take i)/\Fw d b H3 H') (λi ys H' ⟨ms,e,hs,f'⟩=>⟨QYL (f'.get DI DH.1 DH.2),by rw[e];unfold nI;rw[aS];exact eI hs.length_le (by rw[nU];omega)⟩) ⟨[],rfl,List.nil_sublist _,Fw.refl D3⟩ (?_) (?_)
   ·rintro i x ys H' hx ⟨ms,e,hs,f'⟩;unfold nI at hx;rw[fA]at hx;cases T3:(gA rs)[i]? with
    | none=>rw[T3]at hx;cases hx
    | some n=>
     rw[T3]at hx;cases hx;have i8:=aL T3;dsimp only [aJ];show if decide (way=1)=true then _ else _
     refine bG (λh1=>?_) (λh1=>⟨ms,e,by rw[i8];exact hs.trans (List.sublist_append_left _ _),f'⟩);refine⟨d,b,2,rfl,f'.dk,Zd,Zd,λm4 H4 y0 y1 D4 e4=>?_⟩;show if decide (m4=0)=true then _ else _
     refine bG (λh4=>?_) (λh4=>⟨ms,e,by rw[i8];exact hs.trans (List.sublist_append_left _ _),f'.draw D4 e4⟩);refine⟨ms++[n],by rw[e];unfold nI;rw[dJ];rfl,by rw[i8];exact hs.append (List.Sublist.refl _),f'.draw D4 e4⟩
   ·rintro ys H' ⟨ms,e,hs,f'⟩;intro p hp;refine b6 _ _ ⟨p,ms,rfl,(f3.trans f').free hp,by rw[aA,e],hs.trans (take_sublist _ _),(f3.trans f').new hp⟩
  rintro σ' H4 ⟨KO,ns,rfl,UD,gn4,LU,f4⟩;have R4:=RR.keep f4.tk (f4.get RR.lst nd nb);have UE:=D0.ne UD;refine⟨ra,rfl,⟨_,QYL R4.lst⟩,uL R4 Zo λH5 s5 p5 BC=>?_⟩;have f5:=(f4.same s5).new (o:=.lst (nI (cE rs))) BC;have g5:(aI H5 p5 (.lst (nI (cE rs)))) p5=some (.lst (nI (cE rs))):=aA;have KP:(aI H5 p5 (.lst (nI (cE rs)))) KO=some (.lst (nI ns)):=aP (s5 _ _ gn4) BC;dsimp only;generalize aI H5 p5 (.lst (nI (cE rs)))=H6 at f5 g5 KP;have tle:(cE rs).length<=rs.length:=length_filterMap_le _ _;refine bY (λσ' H'=>∃(tu:Nat)(t0:Int),σ'=[some (.ref d),some (.ref ra),some (.ref dn),some (.ref KO),some (.int way),some (.ref p5),some (.int (tu:Int)),none]/\IsMax (turnL rs) t0/\t0<=tu/\(tu:Int)<t0+100000000000/\Fw d b H6 H') (λnx b6=>?_) ?_
  ·refine⟨eT rfl,λq1 BI=>⟨_,_,aA,aP g5 BI,by unfold nI;rw[aS];exact gB (by simp;omega),λq2 hq2=>⟨q2,turnL rs,rfl,QYL (by rw[aA];unfold turnL nI;simp[map_map]<;>rfl),by unfold turnL;simp,λt0 zi nt=>?_⟩⟩⟩;have fa:=((Fw.refl f5.dk).new (o:=.lst [.int 0]) BI).new (o:=.lst ([.int 0]++nI (cE rs))) hq2;generalize aI (aI H6 q1 (.lst [.int 0])) q2 (.lst ([.int 0]++nI (cE rs)))=H7 at fa;have h0:0<=t0:=nt 0 (by unfold turnL;simp);refine⟨d,b,9,rfl,fa.dk,Zd,Zd,λr1 H8 a0 a1 D8 k8=>⟨⟨Zd,Zd,Zd⟩,d,b,_,rfl,D8,Zd,Zd,λr2 H9 b0 b1 D9 k9=>⟨eT rfl,λp hp=>⟨d,b,4,rfl,D9.new hp,Zd,Zd,λr3 Ha c0 c1 Da ka=>?_⟩⟩⟩⟩;have y9:=D9.ne hp;have gp:=ka p _ aA y9.1 y9.2;have fb:=((((fa.draw D8 k8).draw D9 k9).new (o:=.lst [.int 0,.int 0,.int r1,.int r2]) hp).draw Da ka);have QH:r2<100000000000:=b1;obtain⟨EI,QE,yb,hbv⟩:∃v:Int,0<=v/\v<100000000000/\mU [V.int 0,.int 0,.int r1,.int r2] r3=some (.int v):=by
    rcases(by omega:r3=0∨r3=1∨r3=2∨r3=3) with rfl|rfl|rfl|rfl
    ·exact⟨0,Zo,Zo,rfl⟩
    ·exact⟨0,Zo,Zo,rfl⟩
    ·exact⟨r1,Zo,Zo,rfl⟩
    ·exact⟨r2,Zo,Zo,rfl⟩
   refine⟨_,QYL gp,_,hbv,b6 _ _ ⟨(t0+EI).toNat,t0,?_,⟨zi,nt⟩,Zo,Zo,fb⟩⟩;rw[Int.toNat_of_nonneg Zo];rfl
  rintro σ' H7 ⟨tu,t0,rfl,yg,UG,UH,f7⟩;refine bY (λσ' H'=>∃(lf:Nat),σ'=[some (.ref d),some (.ref ra),some (.ref dn),some (.ref KO),some (.int way),some (.ref p5),some (.int (tu:Int)),some (.int (lf:Int))]/\1<=lf/\lf<=1000000000000/\Fw d b H7 H') (λnx b6=>?_) ?_
  ·refine⟨d,b,12,rfl,f7.dk,Zd,Zd,λr1 H1 a0 a1 D1 k1=>⟨⟨Zd,Zd,Zd⟩,d,b,_,rfl,D1,Zd,Zd,λr2 H2 b0 b1 D2 k2=>⟨eT rfl,λp hp=>⟨d,b,2,rfl,D2.new hp,Zd,Zd,λr3 H3 c0 c1 D3 k3=>?_⟩⟩⟩⟩;have y9:=D2.ne hp;have gp:=k3 p _ aA y9.1 y9.2;have ff:=((((Fw.refl f7.dk).draw D1 k1).draw D2 k2).new hp).draw D3 k3;have QH:r2<1000000000000:=b1;rcases(by omega:r3=0∨r3=1) with rfl|rfl
   ·refine⟨_,QYL gp,_,rfl,b6 _ _ ⟨(1+r1).toNat,?_,Zo,Zo,ff⟩⟩;rw[Int.toNat_of_nonneg Zo];rfl
   ·refine⟨_,QYL gp,_,rfl,b6 _ _ ⟨(1+r2).toNat,?_,Zo,Zo,ff⟩⟩;rw[Int.toNat_of_nonneg Zo];rfl
  rintro σ' H8 ⟨lf,rfl,ot,x9,f8⟩;have UI:=f7.trans f8;refine⟨aN rfl,λtp H9 s9 g9=>q tp KO lf tu ns t0 H9 g9 UD (s9 _ _ (UI.get KP UE.1 UE.2)) LU ot x9 yg UG UH ((f5.trans UI).same s9)⟩
def jF{rs:List RX}{n:Nat}:n∈gA rs↔(∃t p k x,.came n t p k x∈rs)/\fV "done" rs (Sum.inl (n:Int))=false:=by
 refine⟨λh=>?_,?_⟩
 ·obtain⟨r,hr,e⟩:=mem_filterMap.mp h
  cases r with
  | came m t p k x=>
   have e':(if fV "done" rs (Sum.inl (m:Int))=true then none else some m)=some n:=e;split at e'
   ·cases e'
   ·rename_i hc;cases e';exact⟨⟨_,_,_,_,hr⟩,Bool.eq_false_iff.mpr hc⟩
  | _=>cases e
 ·rintro ⟨⟨t,p,k,x,h⟩,hd⟩;refine mem_filterMap.mpr ⟨_,h,?_⟩;show(if fV "done" rs (Sum.inl (n:Int))=true then none else some n)=some n;rw[QZZ (by rw[hd];exact V2)]
def gW(rs:List RX):(gA rs).Sublist (bL rs):=by
 have:∀xs:List RX,(xs.filterMap (lB rs)).Sublist (bL xs):=λxs=>by
  induction xs with
  | nil=>exact List.Sublist.refl _
  | cons r xs ih=>
   unfold bL at ih ⊢;rw[QZR,QZR];cases r with
   | came n t p k x=>
    have e:lB rs (.came n t p k x)=if fV "done" rs (Sum.inl (n:Int))=true then none else some n:=rfl
    rw[e];split
    ·rename_i h;split at h
     ·exact ih.trans (List.sublist_cons_self _ _)
     ·cases h
    ·rename_i h;split at h
     ·cases h
     ·cases h;exact ih.cons_cons _
   | _=>exact ih
 exact this rs
def uS{rs:List RX}{n t:Nat}{y:An}(h:.done n t y∈rs):fV "done" rs (Sum.inl (n:Int))=true:=any_eq_true.mpr ⟨_,h,by simp[bP,iR]⟩
def iA{rs:List RX}{n:Nat}:fV "asked" rs (Sum.inl (n:Int))=true↔.asked n∈rs:=by
 refine⟨λh=>?_,λh=>any_eq_true.mpr ⟨_,h,by simp[bP,iR]⟩⟩;obtain⟨r,hr,e⟩:=any_eq_true.mp h;rw[Bool.and_eq_true]at e;obtain⟨m,rfl⟩:=sA (UV e.1);have:(Sum.inl (m:Int):aT)=Sum.inl (n:Int):=UV e.2;injection this with this
 rw[show n=m by omega];exact hr
def Ht{rs:List RX}(h:RX.Whole rs){n:Nat}(h1:.asked n∈rs):∃t p k x,.came n t p k x∈rs/\x.far=true:=by
 induction h with
 | nil=>cases h1
 | snoc hw hf ih=>
  rcases aH h1 with h1|h1
  ·obtain⟨t,p,k,x,h2,h3⟩:=ih h1;exact⟨t,p,k,x,QZW _ h2,h3⟩
  ·rw[<- h1]at hf;obtain⟨⟨t,p,k,x,h2,h3⟩,_⟩:=hf;exact⟨t,p,k,x,QZW _ h2,h3⟩
def Hu{rs:List RX}(h:RX.Whole rs){n t:Nat}{p k:Str}{x:Dd}{y:An}(h1:.kept n t p k x y∈rs):An.Of x y/\∃n0 t0,.next n0 t0∈rs/\n<n0/\t<=t0:=by
 induction h with
 | nil=>cases h1
 | snoc hw hf ih=>
  rcases aH h1 with h1|h1
  ·obtain⟨h3,n0,t0,h2,h4⟩:=ih h1;exact⟨h3,n0,t0,QZW _ h2,h4⟩
  ·rw[<- h1]at hf;obtain⟨_,⟨n0,t0,h2,h3⟩,_,h4⟩:=hf;exact⟨h4,n0,t0,QZW _ h2,h3⟩
structure Vi(rs:List RX)(e:E6):Prop where
 an:An.Of e.2.2.2.2.1 e.2.2.2.2.2
 num:∀m:Int,IsMax (hX rs) m->(e.1:Int)<m
 tn:∀t:Int,IsMax (turnL rs) t->(e.2.1:Int)<=t
 no:∀n∈gA rs,e.1≠n
 dd:(∀r∈rs,Nu r)->(∀n t p k x y,.kept n t p k x y∈rs->x.Ok)->e.2.2.2.2.1.Ok
def aAb{rs:List RX}(hw:RX.Whole rs){e:E6}(h:e∈cX rs):Vi rs e:=by
 unfold cX at h;rcases Zma.mp h with h|h
 ·obtain⟨r,hr,h3⟩:=mem_flatMap.mp h
  cases r with
  | kept n t p k x y=>
   rw[Zms.mp h3];obtain⟨h4,n0,t0,h5,h6,h7⟩:=Hu hw hr;refine⟨h4,λm hm=>?_,λt' ht=>?_,λn' DT e'=>?_,λ_ h8=>h8 _ _ _ _ _ _ hr⟩
   ·have:=hm.2 (n0:Int) (by unfold hX;simp only [cons_append,mem_cons,Zma,Zmm];exact .inr (.inl ⟨n0,mem_filterMap.mpr ⟨_,h5,rfl⟩,rfl⟩));show((n:Nat):Int)<m;omega
   ·have:=ht.2 (t0:Int) (by unfold turnL;exact iV _ (Zmm.mpr ⟨t0,mem_filterMap.mpr ⟨_,h5,rfl⟩,rfl⟩));show((t:Nat):Int)<=t';omega
   ·obtain⟨⟨t1,p1,k1,x1,h8⟩,_⟩:=jF.mp DT;have e':n=n':=e';subst e';exact uP hw h8 hr
  | _=>cases h3
 ·obtain⟨r,hr,h3⟩:=mem_flatMap.mp h
  cases r with
  | done n t y=>
   obtain⟨t0,p,k,x,z9,EM⟩:=fF hw hr;rw[rT hw z9]at h3;rw[Zms.mp h3];refine⟨EM,λm hm=>?_,λt' ht=>?_,λn' DT e'=>?_,λh8 _=>h8 _ z9⟩
   ·have:=hm.2 ((n:Int)+1) (by unfold hX;simp only [cons_append,mem_cons,Zma,Zmm];exact .inr (.inr ⟨n,lO z9,rfl⟩));show((n:Nat):Int)<m;omega
   ·exact ht.2 (t:Int) (by unfold turnL;exact iV _ (Zmm.mpr ⟨t,mem_filterMap.mpr ⟨_,hr,rfl⟩,rfl⟩))
   ·have e':n=n':=e';subst e';exact QZY (jF.mp DT).2 (by rw[uS hr];decide)
  | _=>cases h3
def Pd:∀(l:List Int),0<l.length->∃m,IsMax l m
 | [a],_=>⟨a,Zms.mpr rfl,λb hb=>by rw[Zms.mp hb];exact Int.le_refl _⟩
 | a::b::l,_=>by
  obtain⟨m,h1,h2⟩:=Pd (b::l) Zs;by_cases h:a<=m
  ·exact⟨m,iV _ h1,λc hc=>by rcases mem_cons.mp hc with rfl|hc;exact h;exact h2 c hc⟩
  ·exact⟨a,eV,λc hc=>by rcases mem_cons.mp hc with rfl|hc;exact Int.le_refl _;have:=h2 c hc;omega⟩
structure FoldC(rs:List RX)(f:Str->Nat)(tu:Nat)(ns:List Nat):Prop where
 hw:RX.Whole rs
 snd:∀r∈rs,Nu r
 kd:∀n t p k x y,.kept n t p k x y∈rs->x.Ok
 le:∀z,f z<=1000000000000
 sub:ns.Sublist (gA rs)
 tn:∀t:Int,IsMax (turnL rs) t->t<=(tu:Int)
def FoldC.asc{rs:List RX}{f:Str->Nat}{tu:Nat}{ns:List Nat}(c:FoldC rs f tu ns):ns.Pairwise (·<·):=List.Pairwise.sublist (c.sub.trans (gW rs)) (lQ c.hw)
def FoldC.came{rs:List RX}{f:Str->Nat}{tu:Nat}{ns:List Nat}(c:FoldC rs f tu ns){n:Nat}(h:n∈ns):∃p k x,dG rs n=some (p,k,x)/\x.Ok/\fY rs tu n=.came n tu p k x::(if fV "asked" rs (Sum.inl (n:Int))=true then [.asked n] else [])/\(∃t,.came n t p k x∈rs):=by
 obtain⟨⟨t,p,k,x,hm⟩,_⟩:=jF.mp (c.sub.subset h);have e:=lP c.hw hm;refine⟨p,k,x,e,c.snd _ hm,?_,t,hm⟩;unfold fY;rw[e]
structure FoldX(rs:List RX)(f:Str->Nat)(lf tu:Nat)(ns:List Nat)(m:Nat)(hs:List Str)(es:List E6):Prop where
 mx:IsMax (hX rs) (m:Int)
 pos:PosR f hs
 asc:es.Pairwise λa b=>a.1<b.1
 iff:∀e,e∈es↔(fZ (cX rs) (aQ e)=some e/\tu<e.2.1+lf)/\aQ e∉dB rs ns
def bK(rs:List RX)(f:Str->Nat)(tu:Nat)(ns:List Nat)(m:Nat)(hs:List Str)(es:List E6):List RX:=.next m tu::(hs.map (λz=>.has z (f z))++(es.map dI++aZ rs tu ns))
section
variable {rs:List RX}{f:Str->Nat}{lf tu m:Nat}{ns:List Nat}{hs:List Str}{es:List E6}
def FoldX.ent(c:FoldC rs f tu ns)(x:FoldX rs f lf tu ns m hs es){e:E6}(h:e∈es):Vi rs e:=aAb c.hw (gV ((x.iff e).mp h).1.1).1
def gX(c:FoldC rs f tu ns){r:RX}(ms:List Nat)(UJ:∀n∈ms,n∈ns):r∈aZ rs tu ms↔∃n∈ms,(∃p k x,dG rs n=some (p,k,x)/\r=.came n tu p k x)∨(r=.asked n/\.asked n∈rs):=by
 unfold aZ;rw[mem_flatMap];refine⟨λ⟨n,hn,h⟩=>⟨n,hn,?_⟩,λ⟨n,hn,h⟩=>⟨n,hn,?_⟩⟩
 ·obtain⟨p,k,x,e1,_,e2,_⟩:=c.came (UJ n hn);rw[e2]at h;rcases mem_cons.mp h with h|h
  ·exact .inl ⟨p,k,x,e1,h⟩
  ·split at h
   ·rename_i hc;exact .inr ⟨Zms.mp h,iA.mp hc⟩
   ·cases h
 ·obtain⟨p,k,x,e1,_,e2,_⟩:=c.came (UJ n hn);rw[e2];rcases h with⟨p',k',x',e3,e4⟩|⟨e3,e4⟩
  ·rw[e1]at e3;cases e3;rw[e4];exact eV
  ·rw[e3,P0 (iA.mpr e4)];exact iV _ eV
def qD{α:Type}{lt:α->α->Prop}{xs:List α}(h:xs.Pairwise lt){k:Nat}{x y:α}(hk:xs[k]?=some x)(hy:y∈xs.take k):lt y x:=by
 obtain⟨hi,ei⟩:=Zgs.mp hk;obtain⟨j,hj,ej⟩:=getElem_of_mem hy;rw[nU]at hj;rw[List.getElem_take]at ej;have:=(pairwise_iff_getElem.mp h) j k Zo hi Zo;rw[ej,ei]at this;exact this
def wU{α:Type}{xs:List α}{k:Nat}(h:k<xs.length):∃x,xs[k]?=some x/\x∈xs/\xs.take (k+1)=xs.take k++[x]:=⟨xs[k],eZ h,getElem_mem h,aL (eZ h)⟩
def jG(c:FoldC rs f tu ns)(x:FoldX rs f lf tu ns m hs es):RX.Whole (bK rs f tu ns m hs es):=by
 have w0:RX.Whole [.next m tu]:=.snoc .nil rfl;have w1:∀k,k<=hs.length->RX.Whole (.next m tu::(hs.take k).map λz=>RX.has z (f z)):=by
  intro k;induction k with
  | zero=>exact λ_=>w0
  | succ k ih=>
   intro hk;obtain⟨z,hz,CI,ez⟩:=wU (xs:=hs) (k:=k) Zo;rw[ez,dJ];refine .snoc (ih Zo) ⟨λq hq=>?_,⟨m,tu,eV⟩,λz' m' hq=>?_⟩
   ·rcases mem_cons.mp hq with rfl|hq
    ·exact zero_le _
    ·obtain⟨y,_,rfl⟩:=Zmm.mp hq;exact aY _
   ·rcases mem_cons.mp hq with hq|hq
    ·cases hq
    ·obtain⟨y,hy,e⟩:=Zmm.mp hq;cases e;exact qD x.pos.asc hz hy
 have UK:=w1 hs.length (aY _);rw[iB (aY _)]at UK;have w2:∀k,k<=es.length->RX.Whole ((.next m tu::hs.map λz=>RX.has z (f z))++(es.take k).map dI):=by
  intro k;induction k with
  | zero=>intro _;rw[show(es.take 0).map dI=[] from rfl,append_nil];exact UK
  | succ k ih=>
   intro hk;obtain⟨e,he,hem,ee⟩:=wU (xs:=es) (k:=k) Zo;have eo:=x.ent c hem;rw[ee,dJ,<- append_assoc];refine .snoc (ih Zo) ⟨λq hq=>?_,⟨m,tu,QZW _ eV,?_,?_⟩,λn' t' p' k' d' y' hq=>?_,eo.an⟩
   ·rcases Zma.mp hq with hq|hq
    ·rcases mem_cons.mp hq with rfl|hq
     ·exact zero_le _
     ·obtain⟨y,_,rfl⟩:=Zmm.mp hq;exact le_succ _
    ·obtain⟨y,_,rfl⟩:=Zmm.mp hq;exact aY _
   ·have:=eo.num _ x.mx;omega
   ·obtain⟨t,ht⟩:=Pd (turnL rs) (by unfold turnL;simp);have:=eo.tn t ht;have:=c.tn t ht;omega
   ·rcases Zma.mp hq with hq|hq
    ·rcases mem_cons.mp hq with hq|hq
     ·cases hq
     ·obtain⟨y,_,e⟩:=Zmm.mp hq;cases e
    ·obtain⟨y,hy,e⟩:=Zmm.mp hq;have e':dI y=.kept n' t' p' k' d' y':=e;unfold dI at e';injection e' with e1
     rw[<- e1];exact qD x.asc he hy
 have UL:=w2 es.length (aY _);rw[iB (aY _)]at UL;have w3:∀k,k<=ns.length->RX.Whole (((.next m tu::hs.map λz=>RX.has z (f z))++es.map dI)++aZ rs tu (ns.take k)):=by
  intro k;induction k with
  | zero=>intro _;rw[show aZ rs tu (ns.take 0)=[] from rfl,append_nil];exact UL
  | succ k ih=>
   intro hk;obtain⟨n,hn,EB,en⟩:=wU (xs:=ns) (k:=k) Zo;obtain⟨p,kk,d,e1,hd,e2,t0,z9⟩:=c.came EB;have IH:∀n'∈ns.take k,n'∈ns:=λn' h=>mem_of_mem_take h
   have e3:aZ rs tu (ns.take (k+1))=aZ rs tu (ns.take k)++fY rs tu n:=by unfold aZ;rw[en,bR]
   have inv:∀ {q:RX},q∈((.next m tu::hs.map λz=>RX.has z (f z))++es.map dI)++aZ rs tu (ns.take k)->q=.next m tu∨(∃z,q=.has z (f z))∨(∃e∈es,q=dI e)∨∃n'∈ns.take k,(∃p k x,dG rs n'=some (p,k,x)/\q=.came n' tu p k x)∨(q=.asked n'/\.asked n'∈rs):=λ{q} hq=>by
    rcases Zma.mp hq with hq|hq
    ·rcases Zma.mp hq with hq|hq
     ·rcases mem_cons.mp hq with hq|hq
      ·exact .inl hq
      ·obtain⟨y,_,e⟩:=Zmm.mp hq;exact .inr (.inl ⟨y,e.symm⟩)
     ·obtain⟨y,hy,e⟩:=Zmm.mp hq;exact .inr (.inr (.inl ⟨y,hy,e.symm⟩))
    ·exact .inr (.inr (.inr ((gX c _ IH).mp hq)))
   rw[e3,e2];have wc:RX.Whole (((.next m tu::hs.map λz=>RX.has z (f z))++es.map dI)++aZ rs tu (ns.take k)++[.came n tu p kk d]):=by
    refine .snoc (ih Zo) ⟨λn' t' p' k' d' hq=>?_,λt' p' k' d' y' hq=>?_,λq hq=>?_⟩
    ·rcases inv hq with e|⟨z,e⟩|⟨e0,_,e⟩|⟨n0,FG,⟨_,_,_,_,e⟩|⟨e,_⟩⟩
     ·cases e
     ·cases e
     ·cases e
     ·cases e;exact qD c.asc hn FG
     ·cases e
    ·rcases inv hq with e|⟨z,e⟩|⟨e0,KQ,e⟩|⟨n0,FG,⟨_,_,_,_,e⟩|⟨e,_⟩⟩
     ·cases e
     ·cases e
     ·unfold dI at e;injection e with e5;exact(x.ent c KQ).no n (c.sub.subset EB) e5.symm
     ·cases e
     ·cases e
    ·rcases inv hq with e|⟨z,e⟩|⟨e0,KQ,e⟩|⟨n0,FG,⟨_,_,_,_,e⟩|⟨e,_⟩⟩<;>rw[e]
     ·exact aY _
     ·exact zero_le _
     ·exact zero_le _
     ·exact aY _
     ·exact zero_le _
   by_cases ha:fV "asked" rs (Sum.inl (n:Int))=true
   ·rw[P0 ha];have:=RX.Whole.snoc (r:=.asked n) wc ⟨⟨tu,p,kk,d,QZV _ eV,?_⟩,λhq=>?_,λt y hq=>?_⟩
    ·simpa using this
    ·obtain⟨t1,p1,k1,x1,h1,h2⟩:=Ht c.hw (iA.mp ha);have:=eE c.hw z9 h1;injection this with _ _ _ _ e5
     rw[e5];exact h2
    ·rcases aH hq with hq|hq
     ·rcases inv hq with e|⟨z,e⟩|⟨e0,KQ,e⟩|⟨n0,FG,⟨_,_,_,_,e⟩|⟨e,_⟩⟩
      ·cases e
      ·cases e
      ·cases e
      ·cases e
      ·cases e;exact QZY (qD c.asc hn FG) (lt_irrefl _)
     ·cases hq
    ·rcases aH hq with hq|hq
     ·rcases inv hq with e|⟨z,e⟩|⟨e0,KQ,e⟩|⟨n0,FG,⟨_,_,_,_,e⟩|⟨e,_⟩⟩<;>cases e
     ·cases hq
   ·rw[QZZ ha,<- append_assoc];exact wc
 have UM:=w3 ns.length (aY _);rw[iB (aY _)]at UM;unfold bK;simpa using UM
end
section
variable {rs:List RX}{f:Str->Nat}{lf tu m:Nat}{ns:List Nat}{hs:List Str}{es:List E6}
def gO(c:FoldC rs f tu ns){q:RX}:q∈bK rs f tu ns m hs es↔q=.next m tu∨(∃z∈hs,q=.has z (f z))∨(∃e∈es,q=dI e)∨∃n∈ns,(∃p k x,dG rs n=some (p,k,x)/\q=.came n tu p k x)∨(q=.asked n/\.asked n∈rs):=by
 unfold bK;rw[mem_cons,Zma,Zma,gX c ns λ_ h=>h,Zmm,Zmm];constructor
 ·rintro(h|⟨z,h1,h2⟩|⟨e,h1,h2⟩|h)
  ·exact .inl h
  ·exact .inr (.inl ⟨z,h1,h2.symm⟩)
  ·exact .inr (.inr (.inl ⟨e,h1,h2.symm⟩))
  ·exact .inr (.inr (.inr h))
 ·rintro(h|⟨z,h1,h2⟩|⟨e,h1,h2⟩|h)
  ·exact .inl h
  ·exact .inr (.inl ⟨z,h1,h2.symm⟩)
  ·exact .inr (.inr (.inl ⟨e,h1,h2.symm⟩))
  ·exact .inr (.inr (.inr h))
def Eh{α β:Type}{g:α->Option β}{xs:List α}(h:∀x,g x=none):xs.filterMap g=[]:=by
 induction xs with
 | nil=>rfl
 | cons x xs ih=>rw[QZR,h,ih]
def Bp{β:Type}(g:RX->Option β)(h1:∀z m,g (.has z m)=none)(h2:∀e,g (dI e)=none):(bK rs f tu ns m hs es).filterMap g=(g (.next m tu)).toList++(aZ rs tu ns).filterMap g:=by
 unfold bK;rw[QZR,QZS,QZS,filterMap_map,filterMap_map,Eh (g:=g∘λz=>RX.has z (f z)) λz=>h1 z (f z),Eh (g:=g∘dI) h2];cases g (.next m tu)<;>rfl
def zG{β:Type}(g:RX->Option β)(c:FoldC rs f tu ns){v:Nat->β}(h1:∀n p k x,g (.came n tu p k x)=some (v n))(h2:∀n,g (.asked n)=none):(aZ rs tu ns).filterMap g=ns.map v:=by
 have:∀ms:List Nat,(∀n∈ms,n∈ns)->(aZ rs tu ms).filterMap g=ms.map v:=λms=>by
  induction ms with
  | nil=>exact λ_=>rfl
  | cons n ms ih=>
   intro h;obtain⟨p,k,x,_,_,e2,_⟩:=c.came (h n eV);have e3:aZ rs tu (n::ms)=fY rs tu n++aZ rs tu ms:=by unfold aZ;rw[QZQ]
   have e4:(if fV "asked" rs (Sum.inl (n:Int))=true then [RX.asked n] else []).filterMap g=[]:=by split<;>simp[h2]
   rw[e3,e2,cons_append,List.filterMap_cons_some (h1 n p k x),QZS,ih λn hn=>h n (iV _ hn),e4];rfl
 exact this ns λ_ h=>h
def oV(c:FoldC rs f tu ns):bL (bK rs f tu ns m hs es)=ns:=by
 refine(Bp _ (λ_ _=>rfl) (λ_=>rfl)).trans ?_;refine(List.nil_append _).trans ((zG _ c (v:=λn=>n) (λ_ _ _ _=>rfl) (λ_=>rfl)).trans Zs)
def nQ(c:FoldC rs f tu ns){n t:Nat}{y:An}:.done n t y∉bK rs f tu ns m hs es:=λh=>by
 rcases(gO c).mp h with e|⟨z,_,e⟩|⟨e0,_,e⟩|⟨n0,_,⟨_,_,_,_,e⟩|⟨e,_⟩⟩<;>cases e
def oW(c:FoldC rs f tu ns):bW (bK rs f tu ns m hs es)=[]:=by
 cases h:bW (bK rs f tu ns m hs es) with
 | nil=>rfl
 | cons n l=>
  obtain⟨t,y,hm⟩:=gU (rs:=bK rs f tu ns m hs es) (n:=n) (by rw[h];exact eV);exact QZY hm (nQ c)
def zH(c:FoldC rs f tu ns)(k:aT):fV "done" (bK rs f tu ns m hs es) k=false:=by
 cases h:fV "done" (bK rs f tu ns m hs es) k with
 | false=>rfl
 | true=>
  obtain⟨r,hr,e⟩:=any_eq_true.mp h;rw[Bool.and_eq_true]at e;obtain⟨n,t,y,rfl⟩:=nN (UV e.1);exact QZY hr (nQ c)
def oX(c:FoldC rs f tu ns){n:Nat}(h:n∈ns):fV "asked" (bK rs f tu ns m hs es) (Sum.inl (n:Int))=fV "asked" rs (Sum.inl (n:Int)):=by
 rw[Bool.eq_iff_iff,iA,iA];refine⟨λhm=>?_,λhm=>(gO c).mpr (.inr (.inr (.inr ⟨n,h,.inr ⟨rfl,hm⟩⟩)))⟩;rcases(gO c).mp hm with e|⟨z,_,e⟩|⟨e0,_,e⟩|⟨n0,_,⟨_,_,_,_,e⟩|⟨e,e2⟩⟩
 ·cases e
 ·cases e
 ·cases e
 ·cases e
 ·cases e;exact e2
def zI(c:FoldC rs f tu ns)(x:FoldX rs f lf tu ns m hs es){n:Nat}(h:n∈ns):dG (bK rs f tu ns m hs es) n=dG rs n:=by
 obtain⟨p,k,d,e1,_,_,_⟩:=c.came h;rw[e1];exact lP (jG c x) ((gO c).mpr (.inr (.inr (.inr ⟨n,h,.inl ⟨p,k,d,e1,rfl⟩⟩))))
def Hv(c:FoldC rs f tu ns):gA (bK rs f tu ns m hs es)=ns:=by
 have:gA (bK rs f tu ns m hs es)=bL (bK rs f tu ns m hs es):=by
  have h:lB (bK rs f tu ns m hs es)=λr=>match r with|.came n _ _ _ _=>some n|_=>none:=by
   funext r
   cases r with
   | came n t p k x=>
    show(if fV "done" (bK rs f tu ns m hs es) (Sum.inl (n:Int))=true then none else some n)=some n;rw[zH c];rfl
   | _=>rfl
  unfold gA;rw[h];rfl
 rw[this,oV c]
def Hw(c:FoldC rs f tu ns)(x:FoldX rs f lf tu ns m hs es)(later:Nat):aZ (bK rs f tu ns m hs es) later ns=aZ rs later ns:=by
 have:∀ms:List Nat,(∀n∈ms,n∈ns)->aZ (bK rs f tu ns m hs es) later ms=aZ rs later ms:=λms=>by
  induction ms with
  | nil=>exact λ_=>rfl
  | cons n ms ih=>
   intro h;have hn:=h n eV;have ih:=ih λn hn=>h n (iV _ hn)
   unfold aZ at ih ⊢;rw[QZQ,QZQ,ih];congr 1;unfold fY;rw[zI c x hn,oX c hn]
 exact this ns λ_ h=>h
def Hy(c:FoldC rs f tu ns)(x:FoldX rs f lf tu ns m hs es):dB (bK rs f tu ns m hs es) ns=dB rs ns:=by
 have:∀ms:List Nat,(∀n∈ms,n∈ns)->dB (bK rs f tu ns m hs es) ms=dB rs ms:=λms=>by
  induction ms with
  | nil=>exact λ_=>rfl
  | cons n ms ih=>
   intro h;have hn:=h n eV;have ih:=ih λn hn=>h n (iV _ hn)
   unfold dB at ih ⊢;rw[QZQ,QZQ,ih];congr 1;unfold Ef;rw[zI c x hn]
 exact this ns λ_ h=>h
def jH{α β:Type}{g:α->List β}{xs:List α}(h:∀x∈xs,g x=[]):xs.flatMap g=[]:=List.flatMap_eq_nil_iff.mpr h
def nR(c:FoldC rs f tu ns):cX (bK rs f tu ns m hs es)=es:=by
 unfold cX;have h1:(bK rs f tu ns m hs es).flatMap (uK (bK rs f tu ns m hs es))=[]:=jH λr hr=>zA λe=>by
  obtain⟨n,t,y,rfl⟩:=nN e;exact nQ c hr
 have h2:(aZ rs tu ns).flatMap fU=[]:=jH λr hr=>by
  rcases(gX c ns λ_ h=>h).mp hr with⟨n0,_,⟨_,_,_,_,e⟩|⟨e,_⟩⟩<;>rw[e]<;>rfl
 have h3:(hs.map λz=>RX.has z (f z)).flatMap fU=[]:=jH λr hr=>by
  obtain⟨z,_,rfl⟩:=Zmm.mp hr;rfl
 have h4:(es.map dI).flatMap fU=es:=by
  clear h1 h2 h3 c;induction es with
  | nil=>rfl
  | cons e es ih=>rw[map_cons,QZQ,ih];rfl
 rw[h1,append_nil];unfold bK;rw[QZQ,flatMap_append,flatMap_append,h2,h3,h4];simp[fU]
def zJ(c:FoldC rs f tu ns)(x:FoldX rs f lf tu ns m hs es):IsMax (hX (bK rs f tu ns m hs es)) (m:Int):=by
 have e1:cO (bK rs f tu ns m hs es)=[m]:=by
  refine(Bp _ (λ_ _=>rfl) (λ_=>rfl)).trans ?_;have:(aZ rs tu ns).filterMap (λr=>match r with|.next n _=>some n|_=>none)=[]:=by
   rw[List.filterMap_eq_nil_iff];intro r hr;rcases(gX c ns λ_ h=>h).mp hr with⟨n0,_,⟨_,_,_,_,e⟩|⟨e,_⟩⟩<;>rw[e]
  exact congrArg (λl=>[m]++l) this
 unfold hX;rw[e1,oV c];refine⟨Zs,λa ha=>?_⟩;simp only [map_cons,map_nil,cons_append,List.nil_append,mem_cons,Zmm]at ha;rcases ha with rfl|rfl|⟨n,hn,rfl⟩
 ·exact x.mx.2 1 (by unfold hX;simp)
 ·exact Int.le_refl _
 ·obtain⟨p,k,d,_,_,_,t,hm⟩:=c.came hn;exact x.mx.2 _ (by unfold hX;simp only [cons_append,mem_cons,Zma,Zmm];exact .inr (.inr ⟨n,lO hm,rfl⟩))
def zK(c:FoldC rs f tu ns):IsMax (turnL (bK rs f tu ns m hs es)) (tu:Int):=by
 have e1:cE (bK rs f tu ns m hs es)=tu::ns.map λ_=>tu:=by
  refine(Bp _ (λ_ _=>rfl) (λ_=>rfl)).trans ?_;exact congrArg (λl=>[tu]++l) (zG _ c (v:=λ_=>tu) (λ_ _ _ _=>rfl) (λ_=>rfl))
 unfold turnL;rw[e1];refine⟨Zs,λa ha=>?_⟩;simp only [map_cons,map_map,mem_cons,Zmm]at ha;rcases ha with rfl|rfl|⟨n,hn,rfl⟩
 ·omega
 ·exact Int.le_refl _
 ·exact Int.le_refl _
def aAc(f:Str->Nat)(r:RX):Str->Nat:=match r with|.has z m=>dX f z m|_=>f
def Pe:∀(l:List RX)(g:Str->Nat),(∀r∈l,bP r≠"has")->l.foldl aAc g=g
 | [],_,_=>rfl
 | r::l,g,h=>by
  rw[foldl_cons];have ih:=Pe l g λr hr=>h r (iV _ hr)
  cases r with
  | has z m=>exact QZY rfl (h _ eV)
  | _=>exact ih
def Ei:∀(l:List Str)(g:Str->Nat)(z:Str),(l.map λz=>RX.has z (f z)).foldl aAc g z=if z∈l then f z else g z
 | [],g,z=>by rw[QZZ (λh=>nomatch h)];rfl
 | y::l,g,z=>by
  rw[map_cons,foldl_cons,Ei l];by_cases h1:z∈l
  ·rw[P0 h1,P0 (iV _ h1)]
  ·rw[QZZ h1];show dX g y (f y) z=_;unfold dX;by_cases h2:z=y
   ·rw[P0 h2,P0 (by rw[h2];exact eV),h2]
   ·rw[QZZ h2,QZZ (λh=>by rcases mem_cons.mp h with e|e;exact h2 e;exact h1 e)]
def Hz(c:FoldC rs f tu ns)(x:FoldX rs f lf tu ns m hs es):dY (bK rs f tu ns m hs es)=f:=by
 show(bK rs f tu ns m hs es).foldl aAc (λ_=>0)=f;unfold bK;rw[foldl_cons,foldl_append,Pe (es.map dI++aZ rs tu ns) _ λr hr=>?_]
 ·funext z
  rw[Ei];by_cases h:z∈hs
  ·rw[P0 h]
  ·rw[QZZ h];have h0:¬ 0<f z:=λh0=>h ((x.pos.iff z).mpr h0)
   show 0=f z;omega
 ·rcases Zma.mp hr with hr|hr
  ·obtain⟨e,_,rfl⟩:=Zmm.mp hr;exact show("kept":Str)≠"has" by decide +kernel
  ·rcases(gX c ns λ_ h=>h).mp hr with⟨n0,_,⟨_,_,_,_,e⟩|⟨e,_⟩⟩<;>rw[e]
   ·exact show("came":Str)≠"has" by decide +kernel
   ·exact show("asked":Str)≠"has" by decide +kernel
def wV(c:FoldC rs f tu ns)(x:FoldX rs f lf tu ns m hs es):RepF (bK rs f tu ns m hs es) (λ_=>f) f:=
 ⟨(Hz c x).symm,λi n t y e=>QZY (kI e) (nQ c),λ_ _ _ _=>rfl,rfl⟩
def wW(c:FoldC rs f tu ns):∀r∈bK rs f tu ns m hs es,Nu r:=λr hr=>by
 rcases(gO c).mp hr with e|⟨z,_,e⟩|⟨e0,_,e⟩|⟨n0,h0,⟨p,k,d,e1,e⟩|⟨e,_⟩⟩<;>rw[e]
 ·trivial
 ·exact c.le z
 ·trivial
 ·obtain⟨p',k',d',e2,hd,_⟩:=c.came h0;rw[e1]at e2;cases e2;exact hd
 ·trivial
def aAd(c:FoldC rs f tu ns)(x:FoldX rs f lf tu ns m hs es):∀n t p k d y,.kept n t p k d y∈bK rs f tu ns m hs es->d.Ok:=λn t p k d y hr=>by
 rcases(gO c).mp hr with e|⟨z,_,e⟩|⟨e0,h0,e⟩|⟨n0,h0,⟨p,k,d,e1,e⟩|⟨e,_⟩⟩
 ·cases e
 ·cases e
 ·have:=(x.ent c h0).dd c.snd c.kd;unfold dI at e;injection e with _ _ _ _ e5 _
  rw[e5];exact this
 ·cases e
 ·cases e
def Pf(c:FoldC rs f tu ns)(x:FoldX rs f lf tu ns m hs es):∀r∈bK rs f tu ns m hs es,Dv r:=λr hr=>by
 rcases(gO c).mp hr with e|⟨z,_,e⟩|⟨e0,h0,e⟩|⟨n0,h0,⟨p,k,d,e1,e⟩|⟨e,_⟩⟩
 ·subst e;trivial
 ·subst e;exact c.le z
 ·have h:=x.ent c h0;subst e;exact⟨h.dd c.snd c.kd,h.an⟩
 ·have:=wW (m:=m) (hs:=hs) (es:=es) c r hr;subst e;exact this
 ·subst e;trivial
def Ia(c:FoldC rs f tu ns)(x:FoldX rs f lf tu ns m hs es){later:Nat}(h:tu<=later):FoldC (bK rs f tu ns m hs es) f later ns where
 hw:=jG c x
 snd:=wW c
 kd:=aAd c x
 le:=c.le
 sub:=by rw[Hv c];exact List.Sublist.refl _
 tn:=λt ht=>by have:=ht.uniq (zK c);omega
def Ib(c:FoldC rs f tu ns)(x:FoldX rs f lf tu ns m hs es){later m2:Nat}{T9:List Str}{AE:List E6}(h:tu<=later)(y:FoldX (bK rs f tu ns m hs es) f lf later ns m2 T9 AE):FoldX rs f lf later ns m2 T9 AE where
 mx:=by have:=y.mx.uniq (zJ c x);rw[this];exact x.mx
 pos:=y.pos
 asc:=y.asc
 iff:=λe=>by
  rw[y.iff,nR c,Hy c x];have hl:∀e,fZ es (aQ e)=some e↔e∈es:=λe=>by
   refine⟨λh=>(gV h).1,λh=>?_⟩;have h1:=((x.iff e).mp h).1.1;have v7:fZ es (aQ e)≠none:=by
    have:∀(l:List E6)(o:Option E6),e∈l->l.foldl (λo e'=>if aQ e'=aQ e then some e' else o) o≠none:=λl=>by
     induction l with
     | nil=>exact λ_ h=>nomatch h
     | cons a l ih=>
      intro o hm;rw[foldl_cons];have k2:∀(l:List E6)(v:E6),l.foldl (λo e'=>if aQ e'=aQ e then some e' else o) (some v)≠none:=λl=>by
       induction l with
       | nil=>exact λ_ h=>nomatch h
       | cons b l ih=>intro v;rw[foldl_cons];split<;>exact ih _
      rcases mem_cons.mp hm with rfl|hm
      ·rw[P0 rfl];exact k2 l _
      ·exact ih _ hm
    exact this es none h
   cases hc:fZ es (aQ e) with
   | none=>exact QZY hc v7
   | some e'=>
    obtain⟨h2,h3⟩:=gV hc;have h4:=((x.iff e').mp h2).1.1;rw[h3,h1]at h4;rw[h4]
  rw[hl,x.iff];refine⟨λ⟨⟨⟨⟨h1,h2⟩,h3⟩,h4⟩,_⟩=>⟨⟨h1,h4⟩,h3⟩,λ⟨⟨h1,h4⟩,h3⟩=>⟨⟨⟨⟨h1,Zo⟩,h3⟩,h4⟩,h3⟩⟩
def zL(G7:List RX){rs:List RX}(h:RX.Whole rs):(rs.flatMap (kD G7)).Pairwise λa b=>a.1<b.1:=by
 induction h with
 | nil=>exact .nil
 | @snoc rs r hw hf ih=>
  rw[bR];cases r with
  | came n t p k x=>
   have e:kD G7 (.came n t p k x)=if eS G7 n=true then [(n,p,k,x)] else []:=rfl
   rw[e];split
   ·refine List.pairwise_append.mpr ⟨ih,List.pairwise_singleton _ _,λa ha b hb=>?_⟩;rw[Zms.mp hb];obtain⟨r,hr,h3⟩:=mem_flatMap.mp ha
    cases r with
    | came n' t' p' k' x'=>
     have h4:a∈(if eS G7 n'=true then [(n',p',k',x')] else []):=h3;split at h4
     ·rw[Zms.mp h4];exact hf.1 _ _ _ _ _ hr
     ·cases h4
    | _=>cases h3
   ·rw[append_nil];exact ih
  | _=>simpa [kD]using ih
def zM{rs:List RX}{o:O4}:o∈eY rs↔(∃t,.came o.1 t o.2.1 o.2.2.1 o.2.2.2∈rs)/\eS rs o.1=true:=by
 unfold eY;rw[mem_flatMap];refine⟨?_,λ⟨⟨t,hr⟩,h⟩=>⟨_,hr,?_⟩⟩
 ·rintro ⟨r,hr,h⟩;cases r with
  | came n t p k x=>
   have h4:o∈(if eS rs n=true then [(n,p,k,x)] else []):=h;split at h4
   ·rename_i hc;rw[Zms.mp h4];exact⟨⟨t,hr⟩,hc⟩
   ·cases h4
  | _=>cases h
 ·show o∈(if eS rs o.1=true then [(o.1,o.2.1,o.2.2.1,o.2.2.2)] else []);rw[P0 h];exact Zms.mpr rfl
def Pg(c:FoldC rs f tu ns)(x:FoldX rs f lf tu ns m hs es):eY (bK rs f tu ns m hs es)=(eY rs).filter λo=>decide (o.1∈ns):=by
 refine nO (lt:=λa b:O4=>a.1<b.1) (λ_=>lt_irrefl _) (λ_ _ h=>Nat.lt_asymm h) (zL _ (jG c x)) (List.Pairwise.filter _ (zL _ c.hw)) λo=>?_;rw[mem_filter,zM,zM,decide_eq_true_iff];unfold eS;refine⟨?_,?_⟩
 ·rintro ⟨⟨t,h1⟩,h2⟩;rcases(gO c).mp h1 with e|⟨z,_,e⟩|⟨e0,h0,e⟩|⟨n0,h0,⟨p,k,d,e1,e⟩|⟨e,_⟩⟩
  ·cases e
  ·cases e
  ·cases e
  ·injection e with e2 e3 e4 e5 e6
   rw[e2]at h2 ⊢;rw[oX c h0]at h2;obtain⟨p',k',d',g1,_,_,t',g2⟩:=c.came h0;rw[e1]at g1;cases g1;rw[e4,e5,e6];rw[Bool.and_eq_true]at h2;exact⟨⟨⟨t',g2⟩,by rw[h2.1,(jF.mp (c.sub.subset h0)).2];rfl⟩,h0⟩
  ·cases e
 ·rintro ⟨⟨⟨t,h1⟩,h2⟩,h3⟩;obtain⟨p',k',d',g1,_,_,t',g2⟩:=c.came h3;have:=eE c.hw h1 g2;injection this with _ _ e4 e5 e6
  rw[e4,e5,e6];rw[Bool.and_eq_true]at h2;exact⟨⟨tu,(gO c).mpr (.inr (.inr (.inr ⟨o.1,h3,.inl ⟨p',k',d',g1,rfl⟩⟩)))⟩,by rw[oX c h3,zH c,h2.1];rfl⟩
end
def Ph{κ:Type}[DecidableEq κ]{kvs:List (κ×V)}{k:κ}{v:V}(hn:(kvs.map (·.1)).Nodup)(h:(k,v)∈kvs):bA kvs k=some v:=by
 induction kvs with
 | nil=>cases h
 | cons p r ih=>
  rw[map_cons,nodup_cons]at hn;rcases mem_cons.mp h with e|h'
  ·rw[cH (by rw[<- e]),<- e]
  ·rw[cI (λe=>hn.1 (by rw[e];exact Zmm.mpr ⟨_,h',rfl⟩))];exact ih hn.2 h'
def zN:Sp:=λvs H Q _=>∃(kl sl:TD)(ks ss:List TD)(l:List E6)(lf tu:Nat)(sp:List (Str×Str)),vs=[.ref kl,.int (lf:Int),.int (tu:Int),.ref sl]/\H kl=some (.lst (ks.map V.ref))/\Paired (At6 H) l ks/\l.length<=43/\(l.map (·.1)).Nodup/\H sl=some (.lst (ss.map V.ref))/\Paired (SpA H) sp ss ∧
 ∀(p:TD)(os:List TD)(out:List E6)(H':Hp),H p=none->H' p=some (.lst (os.map V.ref))->Paired (At6 H') out os->out.Pairwise (λa b=>a.1<b.1)->(∀e,e∈out↔(fZ l (aQ e)=some e/\tu<e.2.1+lf)/\aQ e∉sp)->Same H H'->Q (.ref p) H'
def Ic(T:Txt K mg)(D:DefAt K mg "_law_living" eP QYY):aG P w K mg base 1 "_law_living" QYY zN:=by
 refine D.go cC (λvs H Q E h=>?_) (λf cdv A outer s H vs Q E hr h=>?_)
 ·obtain⟨kl,sl,ks,ss,l,lf,tu,sp,rfl,_⟩:=h;rfl
 ·obtain⟨kl,sl,ks,ss,l,lf,tu,sp,rfl,gk,pk,hl,zf,ER,NZ,q⟩:=h;have d6:=dP hr;have J4:=hr.units;have lk:=pk.length;refine⟨_,(mo (ng (i:=4) cC.nd R.gw) (mo (ve PassesOwn.never rfl (qp (K:=K) (lc 0)) (FM (K:=K) (n:=6) rfl (qt (o0 (i:=5) cC.nd) (qt (o0 (i:=6) cC.nd) (qt (o0 (i:=7) cC.nd) (qt (o0 (i:=8) cC.nd) (qt (o0 (i:=9) cC.nd) (qt (o0 (i:=10) cC.nd) FS))))))) (mv (tz (nj (li (lc 5) (li (lc 6) (li (lc 7) (li (lc 8) (li (lc 9) (li (lc 10) mm))))))) (uc (lc 4) (nj (li (lc 7) (li (lc 8) mm))) (wl d6))))) (mv (nh (ql (R.ia (K:=K)) rfl T.b_sorted lE (li (R.jk (qv rfl (js:=[none,some 1,some 2,some 3,some 4]) (N:=QYN) (CompScope.by (aD eP) QYR rfl rfl Zk) (aO rfl) (R.ki (lc 4)) (λC s₂ H₂ fp=>⟨(o0 (i:=0) (show(QYN:List Str).Nodup by decide +kernel)),(qx (re (ww (ni (R.ib J4) (lc 0) (lc 3)) (AC (ni NE (my qi (mn (mr (K:=K)) (tj d6 (lc 4) (lc 0)) ml) (lc 1)) (lc 2)))))),(tj d6 (lc 4) (lc 0))⟩))) mm)))))),?_⟩;intro dt FE;dsimp only [aJ];have s1:=aF (o:=.dT []) FE;have g1:(aI H dt (.dT [])) dt=some (.dT []):=aA;generalize aI H dt (.dT [])=H1 at s1 g1;refine bY (λσ' H'=>∃(kvs:List (List aT×V))(o5 o6 o7 o8 o9 X3:Option V),σ'=[some (.ref kl),some (.int (lf:Int)),some (.int (tu:Int)),some (.ref sl),some (.ref dt),o5,o6,o7,o8,o9,X3]/\H' dt=some (.dT kvs)/\LastD (At6 H') l kvs/\Same H H') (λnx b6=>?_) ?_
  ·refine⟨kl,rfl,⟨_,QYL (s1 _ _ gk)⟩,dU (aX K kl (ks.map V.ref)) (λi σ' H'=>∃(kvs:List (List aT×V))(o5 o6 o7 o8 o9 X3:Option V),σ'=[some (.ref kl),some (.int (lf:Int)),some (.int (tu:Int)),some (.ref sl),some (.ref dt),o5,o6,o7,o8,o9,X3]/\H' dt=some (.dT kvs)/\LastD (At6 H') (l.take i) kvs/\Same H H') (λi σ' H' ⟨_,_,_,_,_,_,_,_,_,_,s'⟩=>QYL (s' _ _ gk)) ⟨[],_,_,_,_,_,_,rfl,g1,LastD.nil _,s1⟩ ?_ ?_⟩
   ·rintro i x σ' H2 hx ⟨kvs,o5,o6,o7,o8,o9,X3,rfl,g2,L2,s2⟩;rw[fA]at hx;cases DE:ks[i]? with
    | none=>rw[DE]at hx;cases hx
    | some a=>
     rw[DE]at hx;cases hx;obtain⟨hi,ei⟩:=Zgs.mp DE;obtain⟨K8,pa⟩:=Paired.get' (j:=i) pk hi;rw[ei]at pa;have vc:l[i]?=some l[i]:=eZ K8;generalize l[i]=e at pa vc;obtain⟨b,c,ge,gb,gc⟩:=pa.tk (Same.tk s2);refine⟨a,_,rfl,QYM ge,rfl,_,_,rfl,_,_,rfl,_,_,rfl,_,_,rfl,_,_,rfl,_,_,rfl,rfl,?_⟩;refine⟨aN rfl,λt1 H3 s3 g3=>⟨aN rfl,λt2 H4 s4 g4=>⟨dt,_,rfl,DPut.t (k:=lU (aQ e)) (s4 _ _ (s3 _ _ g2)) g4 ?_,?_⟩⟩⟩
     ·have:=L2.len;rw[nU]at this;exact nS (m:=1000) Zo Zd
     have II:=s3.trans s4;have tk:TK H4 (aI H4 dt (.dT (bJ kvs (lU (aQ e)) (.ref t1)))):=Eb (II _ _ g2);refine⟨_,_,_,_,_,_,_,rfl,aA,?_,bV FE (s2.trans II)⟩;rw[aL vc];exact LastD.put (L2.mono λ_ _ z=>(z.tk (Same.tk II)).tk tk) ⟨b,c,tk _ _ (s4 _ _ g3),tk _ _ (II _ _ gb),tk _ _ (II _ _ gc)⟩
   ·rintro σ' H2 ⟨kvs,o5,o6,o7,o8,o9,X3,rfl,g2,L2,s2⟩;rw[aS,<- lk,iB (aY _)]at L2;exact b6 _ _ ⟨kvs,o5,o6,o7,o8,o9,X3,rfl,g2,L2,s2⟩
  rintro σ' H2 ⟨kvs,o5,o6,o7,o8,o9,X3,rfl,g2,L2,s2⟩;obtain⟨es,pe,nde,wk⟩:=L2.list;have le:=pe.length;have lkv:=L2.len;have hsd:sl≠dt:=aE ER FE;refine⟨_,g2,λo bs yb hb2=>?_⟩;have BG:TK H2 (aI H2 dt (.frz o (.dT kvs))):=Eb g2;have gF:(aI H2 dt (.frz o (.dT kvs))) dt=some (.frz o (.dT kvs)):=aA;have OA:(aI H2 dt (.frz o (.dT kvs))) sl=some (.lst (ss.map V.ref)):=by rw[aB hsd];exact s2 _ _ ER
  have OB:Paired (SpA (aI H2 dt (.frz o (.dT kvs)))) sp ss:=SpA.all BG (SpA.all (Same.tk s2) NZ)
  let P:E6×TD->Bool:=λq=>!decide (aQ q.1∈sp)&&decide ((tu:Int)<(q.1.2.1:Int)+(lf:Int))
  refine aV (Yx dt o kvs bs) (by rw[aS];omega) (λj ys H'=>H'=aI H2 dt (.frz o (.dT kvs))/\ys=((es.take j).filter P).map λq=>V.ref q.2) (λj ys H' ⟨e0,e⟩=>⟨by rw[e0];exact gF,by rw[e,aS];exact eI (length_filter_le _ _) (by rw[nU];omega)⟩) ⟨rfl,rfl⟩ (?_) (?_)
  ·rintro j x ys H' hx ⟨e0,e⟩;subst e0;rw[fA]at hx;cases OC:bs[j]? with
   | none=>rw[OC]at hx;cases hx
   | some b=>
    rw[OC]at hx;cases hx;obtain⟨kv,yn,gb⟩:=hb2 j b OC;obtain⟨hj,ej⟩:=Zgs.mp yn;have U2:j<es.length:=by omega
    obtain⟨NI,hp⟩:=Paired.get' (j:=j) pe U2;rw[ej]at hp;have IC:es[j]?=some es[j]:=eZ U2;generalize es[j]=q0 at hp IC;obtain⟨h1,h2,h3,h4⟩:=hp;have CT:(lU (aQ q0.1),V.ref q0.2)∈kvs:=by
     have:=kI yn;rw[<- h1,<- h2];exact this
    rw[h1]at gb;have JX:=BG _ _ gb;have i8:=aL IC;have no:P q0=false->aI H2 dt (.frz o (.dT kvs))=aI H2 dt (.frz o (.dT kvs))/\ys=((es.take (j+1)).filter P).map λq=>V.ref q.2:=λrb=>⟨rfl,by rw[i8,filter_append,filter_cons,QZZ (by rw[rb];exact V2),e];simp⟩
    have JV:DGet (aI H2 dt (.frz o (.dT kvs))) dt (.ref b) (some (.ref q0.2)):=.inr ⟨kvs,lU (aQ q0.1),b,.inr ⟨o,gF⟩,rfl,JX,(Ph L2.nd CT).symm⟩;obtain⟨b1,c1,gx,ym,EG⟩:=h3.tk BG;dsimp only [aJ];obtain⟨zl,z1,z2,z3⟩:=sD OB;refine⟨_,zl,JX,by rw[OA,<- z1,map_map];rfl,λz hz=>⟨z2 z hz,(z3 (aQ q0.1)).2 z hz⟩,?_⟩;show if (!wA [.str (aQ q0.1).1,.str (aQ q0.1).2] zl)=true then _ else _
    rw[(z3 (aQ q0.1)).1];refine bG (λh=>?_) (λh=>no (by show(_&&_)=false;rw[h];rfl));refine⟨dt,_,rfl,JV,_,QYM gx,_,rfl,?_⟩;show if decide ((tu:Int)<(q0.1.2.1:Int)+(lf:Int))=true then _ else _
    refine bG (λh'=>?_) (λh'=>no (by show(_&&_)=false;rw[h',Bool.and_false]));refine⟨dt,_,rfl,JV,rfl,?_⟩;rw[i8,filter_append,filter_cons,P0 (show(_&&_)=true by rw[h,h'];rfl),dJ,e];rfl
  ·rintro ys H' ⟨e0,e⟩;intro p hp;subst e0;rw[aS,show bs.length=es.length by omega,iB (aY _)]at e;have NT:dt≠p:=aE gF hp;refine⟨dt,_,o,⟨_,g2⟩,aP gF hp,?_⟩;have s4:Same H2 (aI (aI (aI H2 dt (.frz o (.dT kvs))) p (.lst ys)) dt (.dT kvs)):=λc x e=>by
    by_cases z:c=dt
    ·subst z;rw[g2]at e;cases e;exact aA
    ·rw[aB z];exact aP (by rw[aB z];exact e) hp
   have gp:(aI (aI (aI H2 dt (.frz o (.dT kvs))) p (.lst ys)) dt (.dT kvs)) p=some (.lst ys):=by rw[aB NT.symm];exact aA
   generalize aI (aI (aI H2 dt (.frz o (.dT kvs))) p (.lst ys)) dt (.dT kvs)=H4 at s4 gp;generalize ya:(es.filter P)=fl at e;have ID:∀q,q∈fl↔q∈es/\tu<q.1.2.1+lf/\aQ q.1∉sp:=λq=>by
    rw[<- ya,mem_filter];show _/\(!decide (aQ q.1∈sp)&&decide ((tu:Int)<(q.1.2.1:Int)+(lf:Int)))=true↔_;rw[Bool.and_eq_true,decide_eq_true_iff];simp only [Bool.not_eq_true',decide_eq_false_iff_not];exact⟨λ⟨a,b,c⟩=>⟨a,Zo,b⟩,λ⟨a,b,c⟩=>⟨a,c,Zo⟩⟩
   obtain⟨zs,c1,c2,c3,c4,cq⟩:=Ec (H:=H4) (l:=l) (es:=es) (fl:=fl) (λq hq=>by obtain⟨kv,_,h⟩:=paR pe hq;exact⟨h.2.2.1.tk (Same.tk s4),(gV h.2.2.2).1⟩) nde zf (by rw[<- ya];exact List.filter_sublist);refine⟨zs,QYL (by rw[c1,<- e];exact gp),c2,c3,Zo,λl2 P4 x9 wm wo=>?_⟩;obtain⟨out,BJ,oj,IB,NU⟩:=cq P4 wm wo;refine q l2 (out.map (·.2)) (out.map (·.1)) _ ((s2.trans s4).free x9) (by rw[aA,oj,map_map];rfl) (Paired.map' (λ_ _ w=>w.tk (Same.tk (aF x9))) NU) IB (λe0=>⟨λhm=>?_,?_⟩) ((s2.trans s4).trans (aF x9))
   ·obtain⟨q0,DF,rfl⟩:=Zmm.mp hm;obtain⟨h1,h2,h3⟩:=(ID q0).mp (BJ.mem_iff.mp DF);exact⟨⟨(wk _).mp (Zmm.mpr ⟨q0,h1,rfl⟩),h2⟩,h3⟩
   ·rintro ⟨⟨h1,h2⟩,h3⟩;obtain⟨q0,DF,rfl⟩:=Zmm.mp ((wk e0).mpr h1);exact Zmm.mpr ⟨q0,BJ.mem_iff.mpr ((ID q0).mpr ⟨DF,h2,h3⟩),rfl⟩
def tv6(e:E6):TV:=.tp [.sc (.int (e.1:Int)),.sc (.int (e.2.1:Int)),.sc (.str e.2.2.1),.sc (.str e.2.2.2.1),RX.tvs e.2.2.2.2.1.vs,RX.tvs e.2.2.2.2.2.vs]
def tv4(e:O4):TV:=.tp [.sc (.int (e.1:Int)),.sc (.str e.2.1),.sc (.str e.2.2.1),RX.tvs e.2.2.2.vs]
def aBJ{H:Hp}{e:E6}{a:TD}(h:At6 H e a):Fv H 2 (tv6 e) (.ref a):=by
 obtain⟨b,c,h1,h2,h3⟩:=h;exact⟨a,_,rfl,h1,.cons ⟨rfl,rfl⟩ (.cons ⟨rfl,rfl⟩ (.cons ⟨rfl,rfl⟩ (.cons ⟨rfl,rfl⟩ (.cons (RX.rep_flat h2 (RX.sc_dd _)) (.cons (RX.rep_flat h3 (RX.sc_an _)) .nil)))))⟩
def Tw{H:Hp}{e:O4}{a:TD}(h:AtO H e a):Fv H 2 (tv4 e) (.ref a):=by
 obtain⟨b,h1,h2⟩:=h;exact⟨a,_,rfl,h1,.cons ⟨rfl,rfl⟩ (.cons ⟨rfl,rfl⟩ (.cons ⟨rfl,rfl⟩ (.cons (RX.rep_flat h2 (RX.sc_dd _)) .nil)))⟩
def Id{α:Type}{H:Hp}{n:Nat}{R:α->TD->Prop}{f:α->TV}(hr:∀e a,R e a->Fv H n (f e) (.ref a)){l:TD}{xs:List α}{as:List TD}(g:H l=some (.lst (as.map V.ref)))(p:Paired R xs as):Fv H (n+1) (.ls (xs.map f)) (.ref l):=by
 refine⟨l,_,rfl,g,?_⟩;clear g;induction p with
 | nil=>exact .nil
 | cons h t ih=>exact .cons (hr _ _ h) ih
def aBK{H:Hp}{l:TD}{zs:List Z}(g:H l=some (.lst (eF zs)))(hz:ZAt H zs):Fv H 2 (.ls ((zs.map (·.2)).map λq=>.tp [.sc (.str q.1),.sc (.int q.2)])) (.ref l):=by
 refine⟨l,_,rfl,g,?_⟩;clear g;unfold eF;induction zs with
 | nil=>exact .nil
 | cons z zs ih=>exact .cons ⟨z.1,_,rfl,hz z eV,.cons ⟨rfl,rfl⟩ (.cons ⟨rfl,rfl⟩ .nil)⟩ (ih λy hy=>hz y (iV _ hy))
def Ie:RX->List O4|.came n _ p k x=>[(n,p,k,x)]|_=>[]
def Bq(rs:List RX)(n:Nat):List O4:=match dG rs n with|some (p,k,x)=>[(n,p,k,x)]|none=>[]
def Tx{rs:List RX}{f:Str->Nat}{tu m:Nat}{ns:List Nat}{hs:List Str}{es:List E6}(c:FoldC rs f tu ns):(bK rs f tu ns m hs es).flatMap Ie=ns.flatMap (Bq rs):=by
 have h3:(hs.map λz=>RX.has z (f z)).flatMap Ie=[]:=jH λr hr=>by
  obtain⟨z,_,rfl⟩:=Zmm.mp hr;rfl
 have h4:(es.map dI).flatMap Ie=[]:=jH λr hr=>by
  obtain⟨z,_,rfl⟩:=Zmm.mp hr;rfl
 have h5:∀ms:List Nat,(∀n∈ms,n∈ns)->(aZ rs tu ms).flatMap Ie=ms.flatMap (Bq rs):=λms=>by
  induction ms with
  | nil=>exact λ_=>rfl
  | cons n ms ih=>
   intro h;obtain⟨p,k,x,e1,_,e2,_⟩:=c.came (h n eV);have ih:=ih λn hn=>h n (iV _ hn)
   unfold aZ at ih ⊢;rw[QZQ,flatMap_append,ih,QZQ,e2];congr 1;unfold Bq;rw[e1];split<;>rfl
 unfold bK;rw[QZQ,flatMap_append,flatMap_append,h3,h4,h5 ns λ_ h=>h];rfl
def aBL(H:Hp)(rs:List RX)(kvs:List (aT×V)):Prop:=∀(n t:Nat)(p k:Str)(x:Dd),.came n t p k x∈rs->∃a b,bA kvs (Sum.inl (n:Int))=some (.ref a)/\H a=some (.tup [.str p,.str k,.ref b])/\H b=some (.tup x.vs)
def Ig(rs:List RX):(eY rs).length<=rs.length:=zC rs rs
def aAe(n:Nat)(ns:List Nat):mM (.int (n:Int)) (nI ns)=decide (n∈ns):=by
 unfold nI;induction ns with
 | nil=>rfl
 | cons m ns ih=>
  have:mM (.int (n:Int)) (V.int (m:Int)::ns.map λn:Nat=>V.int (n:Int))=(((m:Int)==(n:Int))||mM (.int (n:Int)) (ns.map λn:Nat=>V.int (n:Int))):=rfl;rw[map_cons,this,ih];by_cases h:m=n
  ·subst h;simp
  ·rw[beq_eq_false_iff_ne.mpr Zo,Bool.false_or];simp[mem_cons,Ne.symm h]
def Ej:Sp:=λvs H Q _=>∃(ra nl oa:TD)(rs:List RX)(as os:List TD)(F:Nat->Str->Nat)(f:Str->Nat)(lf tu m:Nat)(ns:List Nat)(hs:List Str)(es:List E6),vs=[.ref ra,.int (lf:Int),.int (tu:Int),.ref nl,.ref oa]/\RxsAt H ra rs as/\rs.length<=100/\(cN rs).length+2*(bW rs).length<=43/\(cX rs).length<=43/\RepF rs F f/\FoldC rs f tu ns/\H nl=some (.lst (nI ns)) ∧
 RxsAt H oa (bK rs f tu ns m hs es) os/\FoldX rs f lf tu ns m hs es/\(bK rs f tu ns m hs es).length<=100/\hs.length<=43/\∀H',Same H H'->Q (.bl true) H'
def oY{rs:List RX}{f:Str->Nat}{tu m:Nat}{ns:List Nat}{hs:List Str}{es:List E6}(c:FoldC rs f tu ns):(cN (bK rs f tu ns m hs es)).length=hs.length:=by
 have key:∀l:List RX,(∀r∈l,bP r≠"has")->eU l=[]:=λl h=>by
  unfold eU;rw[List.filterMap_eq_nil_iff];intro r hr;cases r with
  | has z m=>exact QZY rfl (h _ hr)
  | _=>rfl
 rw[<- yY];have e:eU (bK rs f tu ns m hs es)=eU (hs.map λz=>RX.has z (f z))++eU (es.map dI++aZ rs tu ns):=by
  unfold bK eU;rw[QZR,QZS]
 rw[e,key (es.map dI++aZ rs tu ns) λr hr=>?_,append_nil]
 ·unfold eU;rw[filterMap_map];clear e key c;induction hs with
  | nil=>rfl
  | cons z hs ih=>rw[QZR];show(_::_).length=_;rw[qE,ih,qE]
 ·rcases Zma.mp hr with hr|hr
  ·obtain⟨e,_,rfl⟩:=Zmm.mp hr;exact show("kept":Str)≠"has" by decide +kernel
  ·rcases(gX c ns λ_ h=>h).mp hr with⟨n0,_,⟨_,_,_,_,e⟩|⟨e,_⟩⟩<;>rw[e]
   ·exact show("came":Str)≠"has" by decide +kernel
   ·exact show("asked":Str)≠"has" by decide +kernel
def Pi(T:Txt K mg)(qd:aG P w K mg base 7 "first_odd" QZM Vh)(Q5:aG P w K mg base 5 "risen" QZM wQ)(wq:aG P w K mg base 1 "_law_living" QYY zN)(D:DefAt K mg "_law_alike" cK QYX):aG P w K mg base 8 "_law_alike" QYX Ej:=by
 refine D.go bX (λvs H Q E h=>?_) (λf cdv A outer s H vs Q E hr h=>?_)
 ·obtain⟨ra,nl,oa,rs,as,os,F,f,lf,tu,m,ns,hs,es,rfl,_⟩:=h;rfl
 ·obtain⟨ra,nl,oa,rs,as,os,F,ff,lf,tu,m,ns,hs,es,rfl,RR,hl,wb,qb,hF,c,gn,RO,x,AV,AF,q⟩:=h;have Y8:Room 7 _:=hr;have L4:Room 5 _:=hr.mono Zd;have wt:Room 1 _:=hr.mono Zd;have d6:=dP hr;have J4:=hr.units;have le:=RR.len;have hw:=c.hw;have FU:ns.length<=100:=eI (c.sub.trans (gW rs)).length_le (eI (length_filterMap_le _ _) hl);refine⟨_,(mo (nk (re (xz (ut (tm (R.fi .lst (lc 4) rfl T.b_isinstance rfl T.b_list Cm))) (AO (ni R.ii (mz qd Y8 rfl (li (lc 4) mm)) AT)))) (mv (nh qy)) nw) (mo (tz (mz Q5 L4 rfl (li (lc 0) mm)) (FM (K:=K) (n:=5) rfl (qt (o0 (i:=5) bX.nd) (qt (o0 (i:=6) bX.nd) (qt (o0 (i:=7) bX.nd) (qt (o0 (i:=8) bX.nd) (qt (o0 (i:=9) bX.nd) FS))))))) (mo (ng (i:=10) bX.nd (IN (R.fu (K:=K) rfl) rfl T.b_dict vN (li (qv rfl (js:=[none]) (N:=QZJ) (CompScope.by (aD cK) QZx rfl rfl Zk) (aO rfl) (qp (K:=K) (lc 0)) (λC s₂ H₂ fp=>⟨(o0 (i:=0) (show(QZJ:List Str).Nodup by decide +kernel)),(qx (ni pi (mn (mr (K:=K)) (lc 0) ml) mq)),(nj (li (mn (mr (K:=K)) (lc 0) ml) (li (qw sy (lc 0) (qo ml) tf) mm)))⟩)) mm))) (mo (ng (i:=11) bX.nd (mz Q5 L4 rfl (li (lc 4) mm))) (mo (nk (re (xz (ni (R.fq J4) (mn (mr (K:=K)) (lc 11) ml) (lc 5)) (AO (ni (R.fq J4) (qw sy (lc 11) (qo ml) tf) (nj (li (lc 8) (li (lc 2) mm))))))) (mv (nh qy)) nw) (mo (nk (ni (R.fq J4) (mn (mr (K:=K)) (lc 11) ml) (qv rfl (js:=[none,some 3]) (N:=["_law_one","_law_numbers"]) (CompScope.by (aD cK) QZx rfl rfl Zk) (aO rfl) (qp (K:=K) (lc 7)) (λC s₂ H₂ fp=>⟨(o0 (i:=0) (show(["_law_one","_law_numbers"]:List Str).Nodup by decide +kernel)),(qx (ni (sw (K:=K)) (mn (mr (K:=K)) (lc 0) ml) (lc 1))),(lc 0)⟩))) (mv (nh qy)) nw) (mo (IR (i:=12) bX.nd rfl (Or.inl rfl) rfl (js:=[none,some 10]) (N:=QYW) (CompScope.by (aD cK) QZx rfl rfl Zk) (aO rfl) (qp (K:=K) (lc 3)) (λC s₂ H₂ fp=>⟨(o0 (i:=0) (show(QYW:List Str).Nodup by decide +kernel)),wn,(qw sy (tj d6 (lc 1) (lc 0)) tf (qo ml))⟩) rfl) (mo (nk (ni (R.fq J4) (mn (mr (K:=K)) (lc 11) ml) (mz wq wt rfl (li (lc 6) (li (lc 1) (li (lc 2) (li (lc 12) mm)))))) (mv (nh qy)) nw) (mo (IR (i:=13) bX.nd rfl (Or.inl rfl) rfl (js:=[none]) (N:=QZJ) (CompScope.by (aD cK) QZx rfl rfl Zk) (aO rfl) (qp (K:=K) (lc 4)) (λC s₂ H₂ fp=>⟨(o0 (i:=0) (show(QZJ:List Str).Nodup by decide +kernel)),(qx (ni pi (mn (mr (K:=K)) (lc 0) ml) mq)),(my u8 (qw sy (lc 0) (qo ml) (qo ml)) (qw sy (lc 0) (qo ml) tf))⟩) rfl) (mv (nh (qm (R.ij J4) (lc 13) (qv rfl (js:=[none,some 10]) (N:=QYW) (CompScope.by (aD cK) QZx rfl rfl Zk) (aO rfl) (qp (K:=K) (lc 3)) (λC s₂ H₂ fp=>⟨(o0 (i:=0) (show(QYW:List Str).Nodup by decide +kernel)),wn,(my u8 (nj (li (lc 0) mm)) (tj d6 (lc 1) (lc 0)))⟩)))))))))))))),?_⟩;refine rB (λb H'=>b=false/\Same H H') (λk hk=>?_) ?_ ?_
  ·refine⟨.lst,.inl ⟨_,RO.lst⟩,?_⟩;refine⟨oa,_,os,rfl,RO,Pf c x,AV,λo H1 LX s1=>?_⟩;cases Oh LX (show uO (bK rs ff tu ns m hs es) none from jG c x);exact hk _ _ ⟨rfl,s1⟩
  ·rintro H1 ⟨h,_⟩;cases h
  rintro H1 ⟨_,s1⟩;dsimp only [qF];have R1:=RR.same s1;refine⟨ra,rs,as,F,ff,rfl,R1,hl,wb,hw,c.snd,hF,λtp kl ol H2 rd s2=>?_⟩;obtain⟨bl,m1,m2,ks,oo,zs,ye,DG,BF,pk,HW,po,zi,nt,KG,hz,pR,ez,lh⟩:=rd.ex;refine⟨tp,_,rfl,QYM DG,rfl,_,_,rfl,_,_,rfl,_,_,rfl,_,_,rfl,_,_,rfl,rfl,?_⟩;dsimp only [aJ];have R2:=R1.same s2;refine bY (λσ' H'=>∃(cd:TD)(kvs:List (aT×V)),σ'=[some (.ref ra),some (.int (lf:Int)),some (.int (tu:Int)),some (.ref nl),some (.ref oa),some (.ref bl),some (.ref kl),some (.ref ol),some (.int m1),some (.int m2),some (.ref cd),none,none,none]/\H' cd=some (.dK kvs)/\aBL H' rs kvs/\Same H2 H') (λnx b6=>?_) ?_
  ·refine⟨ra,rfl,⟨_,QYL R2.lst⟩,?_⟩;refine aV (aX K ra (as.map V.ref)) (by rw[aS];omega) (λi ys H'=>∃zs:List W,ys=zs.map (λz=>V.ref z.1)/\WAt H' zs/\(zs.map (·.2)).map (·.1)=(bL (rs.take i)).map (λn:Nat=>(Sum.inl (n:Int):aT))/\(∀(n t:Nat)(p k:Str)(x:Dd),.came n t p k x∈rs.take i->∃a b,(Sum.inl (n:Int),V.ref a)∈zs.map (·.2)/\H' a=some (.tup [.str p,.str k,.ref b])/\H' b=some (.tup x.vs))/\Same H2 H'/\zs.length<=i) (λi ys H' ⟨zs,e,_,_,_,s',l'⟩=>⟨QYL (s' _ _ R2.lst),by rw[e,aS];exact l'⟩) ⟨[],rfl,(λ_ h=>nomatch h),rfl,(λ_ _ _ _ _ h=>nomatch h),(λ_ _ e=>e),aY _⟩ (?_) (?_)
   ·rintro i x ys H' hx ⟨zs,e,KR,ez,z9,s',l'⟩;obtain⟨a,r,rfl,ha,v9,d8⟩:=(R2.same s').get hx;obtain⟨xs,g,x0,x1,x2⟩:=eX d8;have i8:=aL v9;have HJ:bL (rs.take i++[r])=bL (rs.take i)++bL [r]:=by unfold bL;rw[QZS]
    dsimp only [aJ];refine⟨_,QYM g,_,x0,?_⟩;show if decide (bP r="came")=true then _ else _
    refine bG (λh=>?_) (λh=>?_)
    ·obtain⟨n,t,p,k,x,rfl⟩:=iU (UV h);obtain⟨b1,gx,ym⟩:=d8;refine⟨_,QYM gx,_,rfl,_,gx,λt1 Ha sa ga=>⟨aN rfl,λt2 Hb sb gb=>⟨zs++[(t2,(Sum.inl (n:Int),.ref t1))],by rw[e,dJ];rfl,λy hy=>?_,?_,λn' t' p' k' x' hm=>?_,s'.trans (sa.trans sb),by simp;omega⟩⟩⟩
     ·rcases aH hy with hy|rfl
      ·exact sb _ _ (sa _ _ (KR y hy))
      ·exact gb
     ·rw[dJ,dJ,ez,i8,HJ,dJ];rfl
     ·rw[i8]at hm;rcases aH hm with hm|hm
      ·obtain⟨a1,b2,h1,h2,h3⟩:=z9 _ _ _ _ _ hm;exact⟨a1,b2,by rw[dJ];exact QZW _ h1,sb _ _ (sa _ _ h2),sb _ _ (sa _ _ h3)⟩
      ·cases hm;exact⟨t1,b1,by rw[dJ];exact QZV _ eV,sb _ _ ga,sb _ _ (sa _ _ ym)⟩
    ·have rb:∀n t p k x,r≠.came n t p k x:=λn t p k x e=>UF h (by rw[e];rfl)
     refine⟨zs,e,KR,?_,λn' t' p' k' x' hm=>?_,s',Zo⟩
     ·have:bL [r]=[]:=by
       cases r with
       | came n t p k x=>exact QZY rfl (rb n t p k x)
       | _=>rfl
      rw[ez,i8,HJ,this,append_nil]
     ·rw[i8]at hm;rcases aH hm with hm|hm
      ·exact z9 _ _ _ _ _ hm
      ·exact QZY hm.symm (rb _ _ _ _ _)
   ·rintro ys H' ⟨zs,e,KR,ez,z9,s',l'⟩;intro p hp;have gp:(aI H' p (.lst ys)) p=some (.lst (zs.map λz=>V.ref z.1)):=by rw[aA,e]
    have sp:=aF (o:=.lst ys) hp;generalize aI H' p (.lst ys)=Hx at gp sp;rw[aS]at l' ez z9;rw[<- le,iB (aY _)]at ez z9;refine⟨zs,QYL gp,λz GK=>sp _ _ (KR z GK),Zo,λcd og=>?_⟩;have UN:((zs.map (·.2)).map (·.1)).Nodup:=by
     rw[ez];show List.Pairwise (·≠·) _;rw[pairwise_map];exact(lQ hw).imp λ{a b} h e=>by
      have:(Sum.inl (a:Int):aT)=Sum.inl (b:Int):=e;injection this with this
      omega
    have OD:=sp.trans (aF (o:=.dK (aM [] (zs.map (·.2)))) og);refine b6 _ _ ⟨cd,zs.map (·.2),rfl,by rw[aA,gQ _ _ UN (λ_ _=>rfl)];rfl,λn t p k x hm=>?_,s'.trans OD⟩;obtain⟨a1,b2,h1,h2,h3⟩:=z9 _ _ _ _ _ hm;exact⟨a1,b2,Ph UN h1,OD _ _ h2,OD _ _ h3⟩
  rintro σ' H3 ⟨cd,kvs,rfl,gcd,DV,s3⟩;have CD:=s1.trans (s2.trans s3);have UO:=RO.same CD;have OE:(cN (bK rs ff tu ns m hs es)).length+2*(bW (bK rs ff tu ns m hs es)).length<=43:=by rw[oY c,oW c];simpa using AF
  refine⟨oa,_,os,λ_=>ff,ff,rfl,UO,AV,OE,jG c x,wW c,wV c x,λtq kq oq H4 rq s4=>?_⟩;obtain⟨bq,n1,n2,kk,ooq,zq,T9,KS,gkq,UP,goq,poq,yh,oh,gbq,hzq,pRq,ezq,lhq⟩:=rq.ex;dsimp only [aJ];have e1:n1=m1:=(yh.uniq (zJ c x)).trans (zi.uniq x.mx).symm;have e2:n2=(tu:Int):=oh.uniq (zK c);subst e1 e2;cases pR.uniq pRq;have OF:=s3.trans s4;refine rB (λb H'=>b=false/\Same H4 H') (λk hk=>?_) ?_ ?_
  ·refine⟨_,QYM KS,_,rfl,2,_,Zd,aBK gbq hzq,by rw[ezq,<- ez];exact aBK (OF _ _ KG) (λz h=>OF _ _ (hz z h)),?_⟩;refine⟨_,KS,λt1 Ha sa ga=>⟨aN rfl,λt2 Hb sb gb=>⟨1,.tp [.sc (.int n1),.sc (.int (tu:Int))],Zd,⟨t1,_,rfl,sb _ _ ga,.cons ⟨rfl,rfl⟩ (.cons ⟨rfl,rfl⟩ .nil)⟩,⟨t2,_,rfl,gb,.cons ⟨rfl,rfl⟩ (.cons ⟨rfl,rfl⟩ .nil)⟩,?_⟩⟩⟩;exact hk _ _ ⟨rfl,sa.trans sb⟩
  ·rintro H5 ⟨h,_⟩;cases h
  rintro H5 ⟨_,s5⟩;dsimp only [qF];have KU:=OF.trans s5;have OG:=s5 _ _ KS;have SE:oo.length<=100:=by rw[<- po.length];exact eI (Ig rs) hl
  refine rB (λb H'=>b=false/\Same H5 H') (λk hk=>?_) ?_ ?_
  ·refine⟨_,QYM OG,_,rfl,ol,rfl,⟨_,QYL (KU _ _ HW)⟩,?_⟩;have OH:=KU _ _ HW;have KP:=s5 _ _ (s4 _ _ (CD _ _ gn));have po5:Paired (AtO H5) (eY rs) oo:=Paired.map' (λ_ _ z=>z.tk (Same.tk KU)) po;refine aV (aX K ol (oo.map V.ref)) (by rw[aS];omega) (λi ys H'=>H'=H5/\∃us:List TD,ys=us.map V.ref/\Paired (AtO H5) (((eY rs).take i).filter λo=>decide (o.1∈ns)) us/\us.length<=i) (λi ys H' ⟨e0,us,e,_,l'⟩=>⟨by rw[e0];exact QYL OH,by rw[e,aS];exact l'⟩) ⟨rfl,[],rfl,.nil,aY _⟩ (?_) (?_)
   ·rintro i x ys H' hx ⟨e0,us,e,pp,l'⟩;subst e0;rw[fA]at hx;cases yo:oo[i]? with
    | none=>rw[yo]at hx;cases hx
    | some a=>
     rw[yo]at hx;cases hx;obtain⟨hi,ei⟩:=Zgs.mp yo;obtain⟨K8,pa⟩:=Paired.get' (j:=i) po5 hi;rw[ei]at pa;have vc:(eY rs)[i]?=some (eY rs)[i]:=eZ K8;generalize (eY rs)[i]=e0 at pa vc;obtain⟨b1,gx,ym⟩:=id pa;dsimp only [aJ];refine⟨_,QYM gx,_,rfl,nl,_,rfl,.inl (QYL KP),rfl,Eg _,?_⟩;show if mM (.int (e0.1:Int)) (nI ns)=true then _ else _
     rw[aAe];refine bG (λh=>?_) (λh=>?_)
     ·refine⟨rfl,us++[a],by rw[e,dJ];rfl,?_,by simp;omega⟩;rw[aL vc,filter_append,filter_cons,P0 h];exact Paired.snoc pp pa
     ·refine⟨rfl,us,e,?_,Zo⟩;rw[aL vc,filter_append,filter_cons,QZZ (by rw[h];exact V2),List.filter_nil,append_nil];exact pp
   ·rintro ys H' ⟨e0,us,e,pp,l'⟩;intro p hp;subst e0;rw[aS,<- po.length,iB (aY _)]at pp;have sx:=aF (o:=.lst ys) hp;refine⟨3,_,Zd,Id (R:=AtO _) (f:=tv4) (λ_ _ h=>Tw h) (sx _ _ (s5 _ _ goq)) (Paired.map' (λ_ _ z=>z.tk (Same.tk (s5.trans sx))) poq),by rw[Pg c x];exact Id (R:=AtO _) (f:=tv4) (λ_ _ h=>Tw h) (by rw[aA,e]) (Paired.map' (λ_ _ z=>z.tk (Same.tk sx)) pp),?_⟩;exact hk _ _ ⟨rfl,sx⟩
  ·rintro H6 ⟨h,_⟩;cases h
  rintro H6 ⟨_,s6⟩;dsimp only [qF];have EN:=KU.trans s6;have FH:=(s4.trans s5).trans s6;have OI:=FH _ _ (CD _ _ gn);have IJ:aBL H6 rs kvs:=λn t p k x hm=>let ⟨a,b,h1,h2,h3⟩:=DV n t p k x hm;⟨a,b,h1,FH _ _ h2,FH _ _ h3⟩
  refine bY (λσ' H'=>∃(sl:TD)(ss:List TD),σ'=[some (.ref ra),some (.int (lf:Int)),some (.int (tu:Int)),some (.ref nl),some (.ref oa),some (.ref bl),some (.ref kl),some (.ref ol),some (.int n1),some (.int m2),some (.ref cd),some (.ref tq),some (.ref sl),none]/\H' sl=some (.lst (ss.map V.ref))/\Paired (SpA H') (dB rs ns) ss/\Same H6 H') (λnx b6=>?_) ?_
  ·refine⟨nl,rfl,⟨_,QYL OI⟩,?_⟩;refine aV (aX K nl (nI ns)) (by unfold nI;rw[aS];omega) (λi ys H'=>∃ss:List TD,ys=ss.map V.ref/\Paired (SpA H') (dB rs (ns.take i)) ss/\Same H6 H'/\ss.length<=i) (λi ys H' ⟨ss,e,_,s',l'⟩=>⟨QYL (s' _ _ OI),by rw[e,aS];exact l'⟩) ⟨[],rfl,.nil,(λ_ _ e=>e),aY _⟩ (?_) (?_)
   ·rintro i x ys H' hx ⟨ss,e,pp,s',l'⟩;unfold nI at hx;rw[fA]at hx;cases T3:ns[i]? with
    | none=>rw[T3]at hx;cases hx
    | some n=>
     rw[T3]at hx;cases hx;obtain⟨p,k,d,e1,_,_,t0,z9⟩:=c.came (kI T3);obtain⟨ca,cb,hv,we,yl⟩:=IJ _ _ _ _ _ z9;have AA:DGet H' cd (.int (n:Int)) (some (.ref ca)):=by rw[<- hv];exact DGet.k (k:=Sum.inl (n:Int)) (s' _ _ (FH _ _ gcd))
     dsimp only [aJ];refine⟨cd,_,rfl,AA,_,s' _ _ we,λt1 Ha sa ga=>⟨ss++[t1],by rw[e,dJ];rfl,?_,s'.trans sa,by simp;omega⟩⟩;have e3:dB rs (ns.take (i+1))=dB rs (ns.take i)++[(p,k)]:=by
      unfold dB;rw[aL T3,bR];unfold Ef;rw[e1]
     rw[e3];exact Paired.snoc (SpA.all (Same.tk sa) pp) ga
   ·rintro ys H' ⟨ss,e,pp,s',l'⟩;intro sl CZ;rw[show(nI ns).length=ns.length by unfold nI;rw[aS],iB (aY _)]at pp;exact b6 _ _ ⟨sl,ss,rfl,by rw[aA,e],SpA.all (Same.tk (aF CZ)) pp,s'.trans (aF CZ)⟩
  rintro σ' H7 ⟨sl,ss,rfl,ER,NZ,s7⟩;have UQ:=EN.trans s7;have BH:=(s5.trans s6).trans s7;refine rB (λb H'=>b=false/\Same H7 H') (λk hk=>?_) ?_ ?_
  ·refine⟨_,QYM (BH _ _ KS),_,rfl,kl,sl,ks,ss,cX rs,lf,tu,dB rs ns,rfl,UQ _ _ BF,Paired.map' (λ_ _ z=>z.tk (Same.tk UQ)) pk,qb,zE hw,ER,NZ,λp us out H8 fp gp pp ha hi s8=>?_⟩;have eo:out=es:=nO (lt:=λa b:E6=>a.1<b.1) (λ_=>lt_irrefl _) (λ_ _ h=>Nat.lt_asymm h) ha x.asc λe=>(hi e).trans (x.iff e).symm
   subst eo;rw[nR c]at UP;have DA:=BH.trans s8;refine⟨3,_,Zd,Id (R:=At6 _) (f:=tv6) (λ_ _ h=>aBJ h) (DA _ _ gkq) (Paired.map' (λ_ _ z=>z.tk (Same.tk DA)) UP),Id (R:=At6 _) (f:=tv6) (λ_ _ h=>aBJ h) gp pp,?_⟩;exact hk _ _ ⟨rfl,s8⟩
  ·rintro H8 ⟨h,_⟩;cases h
  rintro H8 ⟨_,s8⟩;dsimp only [qF];have UR:=s7.trans s8;have US:=FH.trans UR;have OJ:=UO.same US;have lro:=RO.len;refine bY (λσ' H'=>∃(ul:TD)(us:List TD),σ'=[some (.ref ra),some (.int (lf:Int)),some (.int (tu:Int)),some (.ref nl),some (.ref oa),some (.ref bl),some (.ref kl),some (.ref ol),some (.int n1),some (.int m2),some (.ref cd),some (.ref tq),some (.ref sl),some (.ref ul)]/\H' ul=some (.lst (us.map V.ref))/\Paired (AtO H') (ns.flatMap (Bq rs)) us/\Same H8 H') (λnx b6=>?_) ?_
  ·refine⟨oa,rfl,⟨_,QYL OJ.lst⟩,?_⟩;refine aV (aX K oa (os.map V.ref)) (by rw[aS];omega) (λi ys H'=>∃us:List TD,ys=us.map V.ref/\Paired (AtO H') (((bK rs ff tu ns m hs es).take i).flatMap Ie) us/\Same H8 H'/\us.length<=i) (λi ys H' ⟨us,e,_,s',l'⟩=>⟨QYL (s' _ _ OJ.lst),by rw[e,aS];exact l'⟩) ⟨[],rfl,.nil,(λ_ _ e=>e),aY _⟩ (?_) (?_)
   ·rintro i x ys H' hx ⟨us,e,pp,s',l'⟩;obtain⟨a,r,rfl,ha,v9,d8⟩:=(OJ.same s').get hx;obtain⟨xs,g,x0,x1,x2⟩:=eX d8;have i8:=aL v9;dsimp only [aJ];refine⟨_,QYM g,_,x0,?_⟩;show if decide (bP r="came")=true then _ else _
    refine bG (λh=>?_) (λh=>?_)
    ·obtain⟨n,t,p,k,x,rfl⟩:=iU (UV h);obtain⟨b1,gx,ym⟩:=d8;refine⟨_,gx,λt1 Ha sa ga=>⟨_,sa _ _ gx,λt2 Hb sb gb=>⟨_,_,sb _ _ ga,gb,QZX rfl,λt3 Hc sc gc=>⟨us++[t3],by rw[e,dJ];rfl,?_,s'.trans ((sa.trans sb).trans sc),by simp;omega⟩⟩⟩⟩;have si:=(sa.trans sb).trans sc;rw[i8,bR];exact Paired.snoc (Paired.map' (λ_ _ z=>z.tk (Same.tk si)) pp) ⟨b1,gc,si _ _ ym⟩
    ·refine⟨us,e,?_,s',Zo⟩;rw[i8,bR];have:Ie r=[]:=by cases r<;>first|rfl|exact QZY rfl (UF h)
     rw[this,append_nil];exact pp
   ·rintro ys H' ⟨us,e,pp,s',l'⟩;intro ul CM;rw[aS,<- lro,iB (aY _),Tx c]at pp;exact b6 _ _ ⟨ul,us,rfl,by rw[aA,e],Paired.map' (λ_ _ z=>z.tk (Same.tk (aF CM))) pp,s'.trans (aF CM)⟩
  rintro σ' H9 ⟨ul,us,rfl,JR,pul,s9⟩;have KW:=UR.trans s9;have UT:=KW _ _ OI;refine⟨nl,rfl,⟨_,QYL UT⟩,?_⟩;refine aV (aX K nl (nI ns)) (by unfold nI;rw[aS];omega) (λi ys H'=>∃vs:List TD,ys=vs.map V.ref/\Paired (AtO H') ((ns.take i).flatMap (Bq rs)) vs/\Same H9 H'/\vs.length<=i) (λi ys H' ⟨vs,e,_,s',l'⟩=>⟨QYL (s' _ _ UT),by rw[e,aS];exact l'⟩) ⟨[],rfl,.nil,(λ_ _ e=>e),aY _⟩ (?_) (?_)
  ·rintro i x ys H' hx ⟨vs,e,pp,s',l'⟩;unfold nI at hx;rw[fA]at hx;cases T3:ns[i]? with
   | none=>rw[T3]at hx;cases hx
   | some n=>
    rw[T3]at hx;cases hx;obtain⟨p,k,d,e1,_,_,t0,z9⟩:=c.came (kI T3);obtain⟨ca,cb,hv,we,yl⟩:=IJ _ _ _ _ _ z9;have AA:∀K6,Same H' K6->DGet K6 cd (.int (n:Int)) (some (.ref ca)):=λK6 ss=>by rw[<- hv];exact DGet.k (k:=Sum.inl (n:Int)) (ss _ _ (s' _ _ (KW _ _ (FH _ _ gcd))))
    dsimp only [aJ];refine⟨aN rfl,λt1 Ha sa ga=>⟨cd,_,rfl,AA Ha sa,_,_,ga,sa _ _ (s' _ _ (KW _ _ we)),QZX rfl,λt2 Hb sb gb=>⟨vs++[t2],by rw[e,dJ];rfl,?_,s'.trans (sa.trans sb),by simp;omega⟩⟩⟩;rw[aL T3,bR];have e3:Bq rs n=[(n,p,k,d)]:=by unfold Bq;rw[e1]
    rw[e3];exact Paired.snoc (Paired.map' (λ_ _ z=>z.tk (Same.tk (sa.trans sb))) pp) ⟨cb,gb,(sa.trans sb) _ _ (s' _ _ (KW _ _ yl))⟩
  ·rintro ys H' ⟨vs,e,pp,s',l'⟩;intro vl BV;rw[show(nI ns).length=ns.length by unfold nI;rw[aS],iB (aY _)]at pp;have sx:=s'.trans (aF (o:=.lst ys) BV);refine⟨3,_,Zd,Id (R:=AtO _) (f:=tv4) (λ_ _ h=>Tw h) (sx _ _ JR) (Paired.map' (λ_ _ z=>z.tk (Same.tk sx)) pul),Id (R:=AtO _) (f:=tv4) (λ_ _ h=>Tw h) (by rw[aA,e]) (Paired.map' (λ_ _ z=>z.tk (Same.tk (aF BV))) pp),?_⟩;exact q _ (CD.trans (US.trans (s9.trans sx)))
def Ek(K:W.Frag):Sp:=λvs H Q _=>∃(a:TD)(ns:List Int),vs=[.ref a]/\SqL K H a (ns.map V.int)/\ns.length<=63/\∀H',Q (.bl true) H'
def MenusAt.new{H:Hp}{lm p:TD}{M:List TD}(h:MenusAt H lm M)(hp:H p=none):p∉M:=by
 obtain⟨a0,a1,a2,a3,ws,us,ps,ks,rfl,h0,h1,h2,h3,h4,_⟩:=h.ex;intro hm;simp only [mem_cons,QZT,or_false]at hm;rcases hm with rfl|rfl|rfl|rfl|rfl
 ·rw[h0]at hp;cases hp
 ·rw[h1]at hp;cases hp
 ·rw[h2]at hp;cases hp
 ·rw[h3]at hp;cases hp
 ·rw[h4]at hp;cases hp
def sE(rs:List RX):(cN rs).length+(rs.flatMap fU).length+(bL rs).length+(bW rs).length<=rs.length:=by
 induction rs with
 | nil=>exact aY _
 | cons r rs ih=>
  unfold cN bW bL at ih ⊢;rw[QZQ,mO];cases r<;>simp only [QZR,qE,fU,length_nil]<;>omega
def uT{rs:List RX}(hw:RX.Whole rs):(cX rs).length=(rs.flatMap fU).length+(bW rs).length:=by
 have h2:=congrArg length (oU hw (rs:=rs) λ_ h=>h);rw[aS]at h2;unfold cX;rw[mO,h2]
def Br{rs:List RX}(hw:RX.Whole rs){ns:List Nat}(h:ns.Sublist (gA rs)):ns.length+(bW rs).length<=(bL rs).length:=by
 have asc:ns.Pairwise (·<·):=List.Pairwise.sublist (h.trans (gW rs)) (lQ hw);have:=Bi (xs:=ns++bW rs) (ys:=bL rs) (nodup_append.mpr ⟨asc.imp λh=>ne_of_lt h,rQ hw,λa ha b hb e=>?_⟩) λn hn=>?_
 ·rwa [mO]at this
 ·subst e;obtain⟨t,y,hm⟩:=gU hb;exact QZY (jF.mp (h.subset ha)).2 (by rw[uS hm];decide)
 ·rcases Zma.mp hn with hn|hn
  ·exact(gW rs).subset (h.subset hn)
  ·obtain⟨t,y,hm⟩:=gU hn;obtain⟨t0,p,k,x,hc,_⟩:=fF hw hm;exact lO hc
def zO{rs:List RX}{f:Str->Nat}{tu m:Nat}{ns:List Nat}{hs:List Str}{es:List E6}(c:FoldC rs f tu ns)(hl:rs.length<=43)(h1:hs.length<=(cN rs).length+2*(bW rs).length)(h2:es.length<=(cX rs).length):(bK rs f tu ns m hs es).length<=100:=by
 have a1:=sE rs;have a2:=uT c.hw;have a3:=Br c.hw c.sub;have a4:=lS rs tu ns;unfold bK;rw[qE,mO,mO,aS,aS];omega
def aAf(T:Txt K mg)(DJ:aG P w K mg base 1 "_law_deck" QZG (Kk K))(AG:aG P w K mg base 3 "_law_menus" QZc yM)(a6:aG P w K mg base 1 "_law_draw" QZP bT)(qe:aG P w K mg base 6 "_law_some_head" QZL qA)(AH:aG P w K mg base 4 "_law_lived" QZa yT)(Y9:aG P w K mg base 3 "_law_asked_fold" QYZ Pb)(qf:aG P w K mg base 6 "folded" QZj zF)(Z0:aG P w K mg base 8 "_law_alike" QYX Ej){f:TD}{fd:FuncData}(F:Fun K "law" "law" nH f fd):kK P w K mg base tS 9 f fd QZG (Ek K):=by
 refine F.go fX (λvs H Q E h=>?_) (λcdv A outer s H vs Q E hr h=>?_)
 ·obtain⟨a,ns,rfl,_⟩:=h;rfl
 ·obtain⟨a,ns,rfl,hS,hlen,q⟩:=h;have DK:Room 1 _:=hr.mono Zd;have AI:Room 3 _:=hr.mono Zd;have a7:Room 1 _:=hr.mono Zd;have qg:Room 6 _:=hr.mono Zd;have AJ:Room 4 _:=hr.mono Zd;have Z1:Room 3 _:=hr.mono Zd;have V8:Room 6 _:=hr.mono Zd;have Z2:Room 8 _:=hr;have J4:=hr.units;refine⟨_,(mo (ng (i:=1) fX.nd (mz DJ DK rfl (li (lc 0) mm))) (mo (ng (i:=2) fX.nd (mz AG AI rfl (li (lc 1) mm))) (mo (ve PassesOwn.never rfl (R.fm rfl T.b_range (li ml mm)) (o0 (i:=3) fX.nd) (mo (ng (i:=4) fX.nd (mz qe qg rfl (li (lc 1) (li (lc 2) mm)))) (mo (ng (i:=4) fX.nd (mz AH AJ rfl (li (lc 1) (li (lc 4) (li (lc 2) (li (mn (qj (K:=K)) (qk (li (mz a6 a7 rfl (li (lc 1) (li ml mm))) (li (mz a6 a7 rfl (li (lc 1) (li ml mm))) mm))) (mz a6 a7 rfl (li (lc 1) (li ml mm)))) mm)))))) (mo (tz (mz Y9 Z1 rfl (li (lc 1) (li (lc 4) mm))) (FM (K:=K) (n:=3) rfl (qt (o0 (i:=5) fX.nd) (qt (o0 (i:=6) fX.nd) (qt (o0 (i:=7) fX.nd) FS))))) (mo (ng (i:=8) fX.nd (mz qf V8 rfl (li (lc 4) (li (lc 5) (li (lc 6) (li (lc 7) mm)))))) (mo (nk (ut (tm (mz Z0 Z2 rfl (li (lc 4) (li (lc 5) (li (lc 6) (li (lc 7) (li (lc 8) mm)))))))) (mv (nh qy)) nw) (mo (ng (i:=9) fX.nd (my qi (lc 6) (mz a6 a7 rfl (li (lc 1) (li ml mm))))) (mo (ng (i:=10) fX.nd (mz qf V8 rfl (li (lc 8) (li (lc 5) (li (lc 9) (li (lc 7) mm)))))) (mv (nk (re (xz (ut (tm (mz Z0 Z2 rfl (li (lc 8) (li (lc 5) (li (lc 9) (li (lc 7) (li (lc 10) mm)))))))) (AO (ut (tm (mz Z0 Z2 rfl (li (lc 4) (li (lc 5) (li (lc 9) (li (lc 7) (li (lc 10) mm))))))))))) (mv (nh qy)) nw)))))))))) (mv (nh qy))))),?_⟩;refine⟨a,ns,rfl,hS,λd b H1 nd nb D1 s1=>?_⟩;dsimp only [aJ];refine⟨d,b,rfl,D1,λlm M H2 hM oD oB f2=>?_⟩;dsimp only [aJ];refine bY (λσ' H'=>True) (λnx b6=>?_) ?_
  ·refine⟨3,rfl,Zd,Zd,dU (gP 0 (3:Int).toNat) (λi σ' H'=>∃(o3 o4 o5 o6 o7 o8 o9 X3:Option V),σ'=[some (.ref a),some (.ref d),some (.ref lm),o3,o4,o5,o6,o7,o8,o9,X3]/\Dk H' d b/\MenusAt H' lm M) (λ_ _ _ _=>trivial) ⟨_,_,_,_,_,_,_,_,rfl,f2.dk,hM⟩ ?_ ?_⟩
   ·rintro i x σ' H3 hx ⟨o3,o4,o5,o6,o7,o8,o9,X3,rfl,D3,OK⟩;obtain⟨rfl,hi⟩:=rF hx;dsimp only [aJ];refine⟨d,b,lm,M,rfl,D3,OK,oD,oB,λra rs as H9 BE R9 hk9 f9=>?_⟩;have oR:=OK.new BE;have nra:=D3.ne BE;dsimp only [aJ];refine bY (λσ' H'=>∃(A1:List RX)(yj:List TD)(ff:Str->Nat),σ'=[some (.ref a),some (.ref d),some (.ref lm),some (.int (i:Int)),some (.ref ra),o5,o6,o7,o8,o9,X3]/\RxsAt H' ra A1 yj/\RX.Whole A1/\(∀r∈A1,r.Ok)/\kZ A1 ff/\A1.length<=43/\Dk H' d b/\MenusAt H' lm M) (λGZ A0=>?_) ?_
    ·refine⟨d,b,9,rfl,f9.dk,Zd,Zd,λm1 Ha z0 z1 Da ea=>⟨d,b,31,rfl,Da,Zd,Zd,λm2 Hb v0 v1 Db eb=>⟨eT rfl,λp hp=>⟨d,b,2,rfl,Db.new hp,Zd,Zd,λm3 Hc w0 w1 Dc ec=>?_⟩⟩⟩⟩;have y9:=Db.ne hp;have gp:=ec p _ aA y9.1 y9.2;obtain⟨m1,rfl⟩:=gN z0;obtain⟨m2,rfl⟩:=gN v0;have fc:=(((((Fw.refl f9.dk).draw Da ea).draw Db eb).new (o:=.lst [.int (m1:Int),.int (m2:Int)]) hp).draw Dc ec);have Rc:=R9.keep fc.tk (fc.get R9.lst nra.1 nra.2);have UU:=(f9.trans fc).menus oD oB OK;obtain⟨many,hm,hmv⟩:∃many:Nat,many<=30/\mU [V.int (m1:Int),.int (m2:Int)] m3=some (.int (many:Int)):=by
      rcases(by omega:m3=0∨m3=1) with rfl|rfl
      ·exact⟨m1,Zo,rfl⟩
      ·exact⟨m2,Zo,rfl⟩
     refine⟨_,QYL gp,_,hmv,d,b,ra,lm,M,rs,as,many,rfl,fc.dk,Rc,hk9,UU,oD,oB,oR,nra.1,nra.2,hm,λA1 yj ff Hd Rd wd okd lvd ld Dd' frd=>?_⟩;exact A0 _ _ ⟨A1,yj,ff,rfl,Rd,wd,okd,lvd,ld,Dd',UU.keep λc hc o e=>frd c o e (λz=>oD (z▸hc)) (λz=>oB (z▸hc)) (λz=>oR (z▸hc))⟩
    rintro σ' Ha ⟨A1,yj,ff,rfl,Ra,wa,UW,lva,la,Da,JO⟩;obtain⟨FF,IK⟩:=Gx lva;have wb:(cN A1).length+2*(bW A1).length<=43:=eI (Gy wa) la;have qb:(cX A1).length<=43:=by
     have a1:=sE A1;have a2:=uT wa;omega
    have OL:∀r∈A1,Nu r:=λr hr=>Zt (UW r hr)
    refine⟨d,b,ra,A1,yj,rfl,Da,Ra,la,nra.1,nra.2,λtp nl lf tu nm t0 Hb DG KN IG ze ot x9 yg UG UH fb=>?_⟩;refine⟨tp,_,rfl,QYM DG,rfl,_,_,rfl,_,_,rfl,_,_,rfl,rfl,?_⟩;dsimp only [aJ];have Rb:=Ra.keep fb.tk (fb.get Ra.lst nra.1 nra.2);have cc:FoldC A1 ff tu nm:=⟨wa,OL,λn t p k x y hm=>(UW _ hm).2.2.2.2.2.1,λz=>by rw[<- IK.last];exact IK.leS OL _ (aY _) z,ze,λt ht=>by have:=ht.uniq yg;omega⟩;have IE:∀n∈nm,n∈bL A1:=λn hn=>(gW A1).subset (ze.subset hn)
    have BK:nm.length<=100:=eI (ze.trans (gW A1)).length_le (eI (length_filterMap_le _ _) Zo);have hMb:=fb.menus oD oB JO;refine⟨ra,nl,A1,yj,FF,ff,lf,tu,nm,rfl,Rb,Zo,wb,qb,wa,OL,IK,IG,IE,BK,λpo os out Hc fpo Ro hfo sc=>?_⟩;dsimp only [aJ];obtain⟨m,hs,es,x1,x2,x3,x4,l1,l2,eo⟩:=hfo.ex;have eo':out=bK A1 ff tu nm m hs es:=eo;subst eo';have xx:FoldX A1 ff lf tu nm m hs es:=⟨x1,x2,x3,x4⟩;have ll:=zO (m:=m) cc la l1 l2;have AF:hs.length<=43:=eI l1 wb;have OM:es.length<=43:=eI l2 qb;refine rB (λb H'=>b=false/\Same Hc H') (λk hk=>?_) ?_ ?_
    ·refine⟨ra,nl,po,A1,yj,os,FF,ff,lf,tu,m,nm,hs,es,rfl,Rb.same sc,Zo,wb,qb,IK,cc,sc _ _ IG,Ro,xx,ll,AF,λH' s'=>?_⟩;exact hk _ _ ⟨rfl,s'⟩
    ·rintro Hg ⟨h,_⟩;cases h
    rintro Hd ⟨_,sd⟩;dsimp only [qF];have KY:=sc.trans sd;have ON:=fb.same KY;refine⟨d,b,20,rfl,ON.dk,Zd,Zd,λr1 He a0 a1 De ke=>?_⟩;obtain⟨r1,rfl⟩:=gN a0;have fe:Fw d b Hd He:=(Fw.refl ON.dk).draw De ke;have DH:=Da.ne KN;have UX:=(fb.dk).ne fpo;have Re:=(Rb.same KY).keep fe.tk (fe.get (Rb.same KY).lst nra.1 nra.2);have UY:=(Ro.same sd).keep fe.tk (fe.get (Ro.same sd).lst UX.1 UX.2);have UZ:=fe.get (KY _ _ IG) DH.1 DH.2;dsimp only [aJ];have c2:=Ia cc xx (later:=tu+r1) (le_add_right _ _);have IL:(cN (bK A1 ff tu nm m hs es)).length+2*(bW (bK A1 ff tu nm m hs es)).length<=43:=by rw[oY cc,oW cc];simpa using AF
    have JS:(cX (bK A1 ff tu nm m hs es)).length<=43:=by rw[nR cc];exact OM
    refine⟨po,nl,_,os,λ_=>ff,ff,lf,tu+r1,nm,rfl,UY,ll,IL,JS,c2.hw,c2.snd,wV cc xx,UZ,λn hn=>by rw[oV cc];exact hn,BK,λpa VA OO Hf fpa VB hf2 sf=>?_⟩;dsimp only [aJ];obtain⟨m2,T9,AE,y1,y2,y3,y4,k1,k2,HA⟩:=hf2.ex;have OP:OO=bK (bK A1 ff tu nm m hs es) ff (tu+r1) nm m2 T9 AE:=HA;subst OP;have yy:FoldX (bK A1 ff tu nm m hs es) ff lf (tu+r1) nm m2 T9 AE:=⟨y1,y2,y3,y4⟩;have zz:=Ib cc xx (le_add_right _ _) yy;have c3:FoldC A1 ff (tu+r1) nm:=⟨cc.hw,cc.snd,cc.kd,cc.le,cc.sub,λt ht=>by have:=cc.tn t ht;omega⟩;have VC:bK (bK A1 ff tu nm m hs es) ff (tu+r1) nm m2 T9 AE=bK A1 ff (tu+r1) nm m2 T9 AE:=by
     unfold bK;congr 3;exact Hw cc xx _
    rw[oY cc,oW cc]at k1;rw[nR cc]at k2;have yd:T9.length<=(cN A1).length+2*(bW A1).length:=by simp at k1;omega
    have VD:=zO (m:=m2) c3 la yd (eI k2 l2);have IM:T9.length<=43:=eI yd wb;have VE:=sf _ _ UZ;refine Mn (λb H'=>b=false/\Same Hf H') (λk hk=>?_) ?_ ?_
    ·refine⟨po,nl,pa,_,os,VA,λ_=>ff,ff,lf,tu+r1,m2,nm,T9,AE,rfl,UY.same sf,ll,IL,JS,wV cc xx,c2,VE,VB,yy,by rw[VC];exact VD,IM,λHg sg=>?_⟩;refine⟨ra,nl,pa,A1,yj,VA,FF,ff,lf,tu+r1,m2,nm,T9,AE,rfl,(Re.same sf).same sg,Zo,wb,qb,IK,c3,sg _ _ VE,by rw[<- VC];exact VB.same sg,zz,VD,IM,λHh sh=>?_⟩;exact hk _ _ ⟨rfl,sg.trans sh⟩
    ·rintro Hg ⟨h,_⟩;cases h
    rintro Hg ⟨_,sg⟩;have VF:=(ON.trans fe).same (sf.trans sg);exact⟨_,_,_,_,_,_,_,_,rfl,VF.dk,VF.menus oD oB JO⟩
   ·rintro σ' H3 _;exact b6 _ _ trivial
  ·rintro σ' H3 _;exact q H3
end
structure FA(K:W.Frag)(x:Str)(st:Stmt):Prop where
 ex:∃(f:TD)(od an:Option TD)(sl:Array (Option Q2))(oc kV dc pm cd ct:Q2),W.nsIn K mainGlobals x=some (some (.ref f))/\K.lookup f=some ⟨oc,od,.func (W.fnOf x x (cJ st) (bH st) (aD st) .none kV dc pm an cd ct),sl⟩/\W.codeIn K cd x=true/\W.keepIn K (.ref f)=true
def FA.of{K:W.Frag}{x:Str}{st:Stmt}{f:TD}{od an:Option TD}{sl:Array (Option Q2)}{oc kV dc pm cd ct:Q2}(a:W.nsIn K mainGlobals x=some (some (.ref f)))(l:K.lookup f=some ⟨oc,od,.func (W.fnOf x x (cJ st) (bH st) (aD st) .none kV dc pm an cd ct),sl⟩)(c:W.codeIn K cd x=true)(k:W.keepIn K (.ref f)=true):FA K x st:=⟨f,od,an,sl,oc,kV,dc,pm,cd,ct,a,l,c,k⟩
def QAL:Nat->(List Q2->Prop)->Prop
 |0,P=>P []
 |n+1,P=>∀a,QAL n λr=>P (a::r)
def qAL{P:List Q2->Prop}:∀us{n},us.length=n->QAL n P->P us
 |[],_,rfl,h=>h
 |a::r,_,rfl,h=>qAL (P:=λr=>P (a::r)) r rfl (h a)
def qAl{P:List Q2->Prop}{n}(h:QAL n P):∀us,us.length=n->P us:=λus hl=>qAL us hl h
def FA.at{K:W.Frag}{x:Str}{st:Stmt}{ps:List Str}{h:Heap}{mg:V5}(F:FA K x st)(X:K.In h)(G:h.Ns mainGlobals mg)(hb:∀(kV doc pm:Q2)(an:Option TD)(cdv ct:Q2)(us:List Q2),us.length=ps.length->bindArgs (W.fnOf x x (cJ st) (bH st) (aD st) .none kV doc pm an cdv ct) ⟨us,[]⟩=pure (ps.zip us):=by intro _ _ _ _ _ _;refine qAl ?_;(iterate 9 try intro _);rfl):DefAt K mg x st ps:=by
 obtain⟨f,od,an,sl,oc,kV,dc,pm,cd,ct,a,l,c,k⟩:=F.ex;exact Yd X G a l c k hb
structure MA(K:W.Frag)(C:TD)(m qual:Str)(st:Stmt):Prop where
 ex:∃(f:TD)(od an:Option TD)(sl:Array (Option Q2))(oc kV dc pm cd ct:Q2),W.findIn K (.ref C) m=some (some (.ref f))/\W.isFn K (.ref f)=true/\K.lookup f=some ⟨oc,od,.func (W.fnOf m qual (cJ st) (bH st) (aD st) .none kV dc pm an cd ct),sl⟩/\W.codeIn K cd qual=true/\W.keepIn K (.ref f)=true
def MA.of{K:W.Frag}{C:TD}{m qual:Str}{st:Stmt}{f:TD}{od an:Option TD}{sl:Array (Option Q2)}{oc kV dc pm cd ct:Q2}(a:W.findIn K (.ref C) m=some (some (.ref f)))(i:W.isFn K (.ref f)=true)(l:K.lookup f=some ⟨oc,od,.func (W.fnOf m qual (cJ st) (bH st) (aD st) .none kV dc pm an cd ct),sl⟩)(c:W.codeIn K cd qual=true)(k:W.keepIn K (.ref f)=true):MA K C m qual st:=⟨f,od,an,sl,oc,kV,dc,pm,cd,ct,a,i,l,c,k⟩
def MA.at{K:W.Frag}{C:TD}{m qual:Str}{st:Stmt}{ps:List Str}(F:MA K C m qual st)(cl:Cls K C)(hb:∀(kV doc pm:Q2)(an:Option TD)(cdv ct:Q2)(us:List Q2),us.length=ps.length->bindArgs (W.fnOf m qual (cJ st) (bH st) (aD st) .none kV doc pm an cdv ct) ⟨us,[]⟩=pure (ps.zip us):=by intro _ _ _ _ _ _;refine qAl ?_;(iterate 9 try intro _);rfl):MethAt K C m qual st ps:=by
 obtain⟨f,od,an,sl,oc,kV,dc,pm,cd,ct,a,i,l,c,k⟩:=F.ex;exact⟨cl,_,_,qN l c k,⟨a,i,k⟩,(qN (st:=st) l c k).binds hb⟩
def aAg{l:W.OpenLaw}{w:World}{K:W.Frag}{h:Heap}{mg:V5}{fa wu:TD}(X:K.In h)(G:h.Ns mainGlobals mg)(KD:mg "law"=some (.ref fa)){DL wx:Option TD}{DM:Array (Option Q2)}{DN wy xa xb sk xc:Q2}(J6:FA K "is_alive" jO)(M5:FA K "is_name" lI)(J7:FA K "is_whole" jP)(A2:FA K "is_made_of" eJ)(M6:FA K "asks_of" lJ)(u5:FA K "done_changes" eK)(A3:FA K "changes_of" gC)(C8:FA K "is_answer" fQ)(M7:FA K "word_of" lK)(Z3:FA K "is_no" pW)(C9:FA K "bounds_of" iD)(A4:FA K "are_within" eL)(E1:FA K "first_odd" iG)(Z4:FA K "risen" gE)(A5:FA K "by_numbers" gG)(A6:FA K "first_book" eN)(A7:FA K "risen_book" gH)(A8:FA K "risen_kept" dM)(T5:FA K "folded" hU)(A9:FA K "still_kept" eO)(B0:FA K "came_again" gJ)(J8:FA K "_law_deck" jQ)(J9:FA K "_law_draw" jR)(B1:FA K "_law_unlike" cT)(M8:FA K "_law_end" lM)(K0:FA K "_law_deed" jS)(E2:FA K "_law_words" fS)(B3:FA K "_law_answer" gK)(E3:FA K "_law_menus" iH)(K2:FA K "_law_spot" jT)(K3:FA K "_law_kept" jU)(K4:FA K "_law_head" jV)(E4:FA K "_law_early" iI)(E5:FA K "_law_lates" iJ)(w4:FA K "_law_changes" fK)(w5:FA K "_law_changed" fL)(E7:FA K "_law_sized" iK)(E8:FA K "_law_right" iM)(E9:FA K "_law_lived" bN)(j9:FA K "_law_some_head" dW)(j0:FA K "_law_asked_fold" bO)(B4:FA K "_law_living" eP)(F0:FA K "_law_alike" cK)(xf:W.nsIn K mainGlobals "law"=some (some (.ref wu)))(xg:K.lookup wu=some ⟨DN,DL,.func (W.fnOf "law" "law" (cJ nH) (bH nH) (aD nH) .none wy xa xb wx sk xc),DM⟩)(xh:W.codeIn K sk "law"=true)(xi:W.keepIn K (.ref wu)=true){a8:TD}(Z5:W.nsIn K mainGlobals "Walk"=some (some (.ref a8)))(Z6:W.plainGet K a8 Str.empty=true)(Z7:W.hasDictIn K a8=true)(Z8:W.plainOver K a8=true)(Z9:W.findIn K (.ref a8) "__setattr__"=some (some (.builtin "object.__setattr__")))(kj:W.makesIn K a8=true)(km:W.keepIn K (.ref a8)=true)(j3:W.findIn K (.ref a8) "last_rows"=some none)(j4:W.findIn K (.ref a8) "last_rank"=some none)(j6:W.findIn K (.ref a8) "last_turn"=some none)(d9:W.findIn K (.ref a8) "kept_numbers"=some none)(i9:W.findIn K (.ref a8) "came_deeds"=some none)(c9:W.findIn K (.ref a8) "asked_numbers"=some none)(e9:W.findIn K (.ref a8) "done_numbers"=some none){b9:TD}{M9 N1:Option TD}{N2:Array (Option Q2)}{N3 N4 N5 N6 y7 N7:Q2}(l8:W.findIn K (.ref a8) "__init__"=some (some (.ref b9)))(l9:W.isFn K (.ref b9)=true)(m5:K.lookup b9=some ⟨N3,M9,.func (W.fnOf "__init__" "Walk.__init__" (cJ cG) (bH cG) (aD cG) .none N4 N5 N6 N1 y7 N7),N2⟩)(m6:W.codeIn K y7 "Walk.__init__"=true)(B9:W.keepIn K (.ref b9)=true)(G0:MA K a8 "fits" "Walk.fits" iE)(B5:MA K a8 "rises" "Walk.rises" gD)(j7:MA K a8 "fits_kept" "Walk.fits_kept" dL)(i7:MA K a8 "fits_answer" "Walk.fits_answer" cS)(G4:MA K a8 "step" "Walk.step" iF){c8:TD}(ko:W.nsIn K mainGlobals "Book"=some (some (.ref c8)))(kr:W.plainGet K c8 Str.empty=true)(ku:W.hasDictIn K c8=true)(kx:W.plainOver K c8=true)(kz:W.findIn K (.ref c8) "__setattr__"=some (some (.builtin "object.__setattr__")))(lg:W.makesIn K c8=true)(lj:W.keepIn K (.ref c8)=true)(u7:W.findIn K (.ref c8) "amounts"=some none){c6:TD}{N8 N9:Option TD}{O0:Array (Option Q2)}{O1 O2 O3 O5 y8 O6:Q2}{lq:TD}(m7:W.findIn K (.ref c8) "__init__"=some (some (.ref c6)))(m8:W.isFn K (.ref c6)=true)(m9:K.lookup c6=some ⟨O1,N8,.func (W.fnOf "__init__" "Book.__init__" (cJ cF) (bH cF) (aD cF) (.ref lq) O2 O3 O5 N9 y8 O6),O0⟩)(n8:W.codeIn K y8 "Book.__init__"=true)(C0:W.keepIn K (.ref c6)=true)(w9:MA K c8 "amount" "Book.amount" fI)(G5:MA K c8 "rows" "Book.rows" fR)(x8:MA K c8 "change" "Book.change" fJ){AK:Option TD}{V9:List Q2}{AL:Nat}{xj:Array (Option Q2)}(Q6:K.lookup lq=some ⟨.type "tuple",AK,.seq (toArray V9) AL,xj⟩)(lx:V9=[.none])(B6:W.nsIn K mainGlobals "isinstance"=some none)(xk:W.nsIn K mainGlobals "int"=some none)(sm:W.nsIn K mainGlobals "bool"=some none)(xl:W.nsIn K mainGlobals "str"=some none)(xm:W.nsIn K mainGlobals "len"=some none)(xn:W.nsIn K mainGlobals "all"=some none)(ly:W.nsIn K mainGlobals "tuple"=some none)(xo:W.nsIn K mainGlobals "zip"=some none)(G6:W.nsIn K mainGlobals "enumerate"=some none)(xp:W.nsIn K mainGlobals "sum"=some none)(sq:W.nsIn K mainGlobals "list"=some none)(md:W.nsIn K mainGlobals "range"=some none)(T6:W.nsIn K mainGlobals "sorted"=some none)(xq:W.nsIn K mainGlobals "max"=some none)(su:W.nsIn K mainGlobals "dict"=some none)(xr:W.nsIn K mainGlobals "min"=some none){vd:Tok}(O7:W.nsIn K mainGlobals "LETTERS"=some (some (.str ("abcdefghijklmnopqrstuvwxyz") vd))){T7:Tok}(u9:W.nsIn K mainGlobals "LONGEST_NAME"=some (some (.int (8) T7))){DO:Tok}(sv:W.nsIn K mainGlobals "MOST"=some (some (.int (1000000000000) DO))){me:TD}{qh:List DictEntry}{AM:Nat}(mf:W.nsIn K mainGlobals "RANKS"=some (some (.ref me)))(mh:K.lookup me=some ⟨.type "dict",none,.dict (toArray qh) AM,#[]⟩)(mi:Tab w.params qh (RKS))(mj:(me==sysModules)=false){C1:TD}{v8:List Q2}{O8:Option TD}{Q1:Nat}{O9:Array (Option Q2)}(n9:W.nsIn K mainGlobals "UNASKED_WORDS"=some (some (.ref C1)))(p9:K.lookup C1=some ⟨.type "tuple",O8,.seq (toArray v8) Q1,O9⟩)(h9:Vals (UAW) v8)
  : ∃fd:FuncData,(∀(s:P1)(v:Q2),BindsTo s fd ⟨[v],[]⟩ [("_law_script",v)])/\∀base:Heap,K.In base->base.Ns mainGlobals mg->kK l.prog w K mg base tS 9 fa fd QZG (Ek K):=by
 have e:=KD.symm.trans (W.mg_of X G xf);cases e;have T:Txt K mg:=⟨W.mg_none_of X G B6,W.mg_none_of X G xk,W.mg_none_of X G sm,W.mg_none_of X G xl,W.mg_none_of X G xm,W.mg_none_of X G xn,W.mg_none_of X G ly,W.mg_none_of X G xo,W.mg_none_of X G G6,W.mg_none_of X G xp,W.mg_none_of X G sq,W.mg_none_of X G md,W.mg_none_of X G T6,W.mg_none_of X G xq,W.mg_none_of X G su,W.mg_none_of X G xr,⟨_,W.mg_of X G O7⟩,⟨_,W.mg_of X G u9⟩,⟨_,W.mg_of X G sv⟩⟩;have U:Top w.params K mg:=⟨⟨_,W.mg_of X G mf,⟨_,_,mh,mi,mj⟩⟩,⟨_,W.mg_of X G n9,λ_=>.inr ⟨_,_,_,p9,rfl,rfl,by rw[eB,<- h9.length];decide,h9⟩⟩⟩;have G8:Cls K a8:=⟨Z6,Z7,Z8,Z9⟩;have DP:ClsAt K mg "Walk" a8 "Walk.__init__" cG QZK [[]]:=⟨b9,_,_,W.mg_of X G Z5,⟨_,_,_,_,_,_,_,_,_,rfl,m5,m6⟩,⟨kj,l8,l9,km⟩,by
  intro d hd;obtain rfl:=Zms.mp hd;exact⟨[],λs us KI hl=>by replace hl:us.length=1:=(by simpa using hl);revert us;refine qAl ?_;intro _;exact BindsTo.of_eq rfl,.nil⟩⟩
 have Q7:Cls K c8:=⟨kr,ku,kx,kz⟩;subst lx;have DQ:ClsAt K mg "Book" c8 "Book.__init__" cF QZB [[],[.non]]:=⟨c6,_,_,W.mg_of X G ko,⟨_,_,_,_,_,_,_,_,_,rfl,m9,n8⟩,⟨lg,m7,m8,lj⟩,by
  intro d hd;rcases mem_cons.mp hd with rfl|hd
  ·exact⟨[],λs us KI hl=>by replace hl:us.length=2:=(by simpa using hl);revert us;refine qAl ?_;intro _ _;exact BindsTo.of_defaults (T:=lq) rfl (KI _ _ Q6) rfl rfl rfl,.nil⟩
  obtain rfl:=Zms.mp hd
  ·exact⟨[.none],λs us KI hl=>by replace hl:us.length=1:=(by simpa using hl);revert us;refine qAl ?_;intro _;exact BindsTo.of_defaults (T:=lq) rfl (KI _ _ Q6) rfl rfl rfl,(.cons rfl .nil)⟩⟩
 refine⟨W.fnOf "law" "law" (cJ nH) (bH nH) (aD nH) .none wy xa xb wx sk xc,λs v=>.of_eq rfl,λbase _ _=>?_⟩;have IP:=qN (st:=nH) xg xh xi;have BT:BkT K c8:=⟨Q7,u7⟩;have cd:=Su (P:=l.prog) (w:=w) (base:=base) T (J8.at X G);have cr:=Mx (P:=l.prog) (w:=w) (base:=base) (J9.at X G);have ce:=Zh T cr (M8.at X G);have cu:=Gq T cr (B1.at X G);have VG:=Sy T cr ce (K0.at X G);have cw:=Nc (P:=l.prog) (w:=w) (base:=base) T (E2.at X G);have ca:=Gr T cr ce (B3.at X G);have VH:=Sz T cr (K2.at X G);have ck:=Ta T cr VG cw ca VH (K3.at X G);have ch:=Tb T cr ce ck (K4.at X G);have cm:=Nf T cr cu (E3.at X G);have cea:=Ng (P:=l.prog) (w:=w) (base:=base) T (E4.at X G);have cla:=Nh (P:=l.prog) (w:=w) (base:=base) T (E5.at X G);have cch:=yR (P:=l.prog) (w:=w) (base:=base) T (w4.at X G);have cc:=Bd T cch (w5.at X G);have csz:=Nk T cr (E7.at X G);have cri:=Nl T cr cea cla (E8.at X G);have cli:=Np T cr VG VH csz cri cc (E9.at X G);have csh:=wJ T cr ch (j9.at X G);have VI:=tE (P:=l.prog) (w:=w) (base:=base) (A5.at X G);have ci:=Nt (P:=l.prog) (w:=w) (base:=base) T BT DQ;have cam:=wK (P:=l.prog) (w:=w) (mg:=mg) (base:=base) BT (w9.at Q7);have cgn:=Bl T BT cam (x8.at Q7);have cdc:=pP (P:=l.prog) (w:=w) (base:=base) T (u5.at X G);have cco:=tF T cdc (A3.at X G);have cfb:=tG T (ci _ Zs) (A6.at X G);have WT:Zy K a8:=⟨G8,j3,j4,j6,d9,i9,c9,e9⟩;have c3:=So (P:=l.prog) (w:=w) (base:=base) T (A2.at X G);have c4:=Ba T c3 (M5.at X G);have c5:=Mv (P:=l.prog) (w:=w) (base:=base) T (J7.at X G);have OQ:=Sq (P:=l.prog) (w:=w) (base:=base) T (M6.at X G);have cwo:=Bb (P:=l.prog) (w:=w) (base:=base) T (M7.at X G);have cno:=Mw T c4 (Z3.at X G);have cb:=Gn (P:=l.prog) (w:=w) (base:=base) T (C9.at X G);have cwi:=Go T c5 (A4.at X G);have cia:=wE T cwo cno OQ cb cwi (C8.at X G);have VJ:=Ho (P:=l.prog) (w:=w) (mg:=mg) (base:=base) WT (B5.at G8);have cwk:=Oi WT VJ (j7.at G8);have cwa:=Tq T U WT cia OQ (i7.at G8);have cwf:=Om T U WT VJ cwk cwa OQ (G0.at G8);have cws:=Op (P:=l.prog) (base:=base) T U WT (G4.at G8);have cwn:=Oq (P:=l.prog) (w:=w) (base:=base) WT DP;have OR:=wR T (cwn _ Zs) cwf cws (E1.at X G);have crw:=Bk (P:=l.prog) (w:=w) (base:=base) T BT (G5.at Q7);have crb:=tH T cfb cco cgn (A7.at X G);have crk:=tI (P:=l.prog) (w:=w) (base:=base) T (A8.at X G);have IQ:=Oe T VI crb crw crk (Z4.at X G);have cal:=Nq (P:=l.prog) (w:=w) (base:=base) (J6.at X G);have cst:=Ov T cal (A9.at X G);have cag:=Ox T VI (B0.at X G);have cfo:=Hs T IQ cag cst (T5.at X G);have caf:=Tv T cr ce (j0.at X G);have clv:=Ic (P:=l.prog) (w:=w) (base:=base) T (B4.at X G);have clk:=Pi T OR IQ clv (F0.at X G);exact aAf T cd cm cr csh cli caf cfo clk IP
def aCB{l:W.OpenLaw}{q:Program}{loose:List Str}{XP:(Str->Option Q2)->Heap->Prop}{YP:World->Heap->Prop}{d:DefRec}{K:Params->W.Frag}(hn:l.most=some 63)(FT:d.params.defaults=[])(hY:∀(w:World)(h:Heap),YP w h->(K w.params).In h)(F:∀(w:World)(mg:V5)(fa:TD)(h:Heap),(K w.params).In h->h.Ns mainGlobals mg->mg d.name=some (.ref fa) →
   ∃fd:FuncData,(∀(s:P1)(u:Q2),BindsTo s fd ⟨[u],[]⟩ [("_law_script",u)])/\∀base:Heap,(K w.params).In base->base.Ns mainGlobals mg->kK l.prog w (K w.params) mg base tS 9 fa fd QZG (Ek (K w.params))) :
  W.WalkO q loose XP YP l.row.toRowW d [] (λf vs=>PySem.call f vs):=
 L2.Ce (n:=63) (k:=9) (x:="_law_script") (CX:=λ_=>tS) (sp:=λw=>Ek (K w.params)) hn Zd FT ⟨rfl,Zd,Zd⟩ hY F (λ_ _ a ns hl _ hS=>⟨a,ns,rfl,hS,hl,λ_=>rfl⟩) λ_ _ _ _ _ z=>z
end KL
namespace PySem.W.Fast
def tw6662518229584136632:=0
def tw12150402068754460436:=0
def tw2057915603392353357:=0
def tw7842014769365070858:=0
def tw9921251966228079951:=0
def tw5072882174687930400:=0
def tw2840581137078109037:=0
def tw10874141431247520436:=0
def tw6516361041620932027:=0
def tw5448384931251638583:=0
def tw16010677185133492012:=0
def tw3308967420299617173:=0
def tw5864898393074013615:=0
def tw8391434911392756708:=0
def tw15756753146117029038:=0
def tw17316199986179216921:=0
def tw14853351910224447295:=0
def tw9263217996298240933:=0
def tw6705998132523463696:=0
def tw1250509793281661363:=0
def tw868057796431805975:=0
def tw434493412839229493:=0
def tw17744468376560207891:=0
def tw10180175200895286944:=0
def tw16405825147952787280:=0
def tw15793852847805716150:=0
def tw10900199272492522748:=0
def tw10941946301019686175:=0
def tw16624487736272094644:=0
def tw2330644026797045528:=0
def tw7546455887862918017:=0
def tw11119933140903526121:=0
def tw2575817658407916968:=0
def tw17458340238686583092:=0
def tw6686577520466979779:=0
def tw1480040614429258800:=0
def tw10118563321087175916:=0
def tw8035798756308769798:=0
def tw1932620603622684740:=0
def tw5421251372328372049:=0
def tw13831424280319493714:=0
def tw7203078166230694761:=0
def tw14048300731347744814:=0
def tw114396117932544359:=0
def tw16503151367718706938:=0
def tw6404567096568470440:=0
def tw8814601729650171894:=0
def tw1731347773072889791:=0
def tw16007620078006958158:=0
def tw857813913414850918:=0
def tw14343039827620413839:=0
def tw3966745176684883001:=0
def tw7573922784410406681:=0
def tw18372659372359260300:=0
def tw10760468000082825782:=0
def tw10845662695223382338:=0
def tw8659608614294711497:=0
def tw18283629760542059354:=0
def tw17472240061309117940:=0
def tw3329045227959765744:=0
def tw9945359444060196094:=0
def tw8874094099431050828:=0
def tw11530496083827802116:=0
def tw13738693232642295419:=0
def tw10991643353422266002:=0
def tw4812527634425583946:=0
def tw4014625185980092719:=0
def tw15399070963967554815:=0
def tw7161281467144020244:=0
def tw6177468309310106827:=0
def tw7751031082045042856:=0
def tw10179720378526949069:=0
def tw993596389838640528:=0
def tw18314555618863288921:=0
def tw3669158962443639990:=0
def tw4866916938700182734:=0
def tw2971765708637455120:=0
def tw6691341960560989779:=0
def tw5965390090164709271:=0
def tw10756995012307408990:=0
def tw8606232874113670809:=0
def tw6100771780039553010:=0
def tw14844028308014330322:=0
def tw17912045503119737540:=0
def tw13393397425722521093:=0
def tw12919441626251117610:=0
def tw2800852268555985010:=0
def tw5304435334003309500:=0
def tw5932819398867954845:=0
def tw5688224458576912316:=0
def tw16508720841153349615:=0
def tw5255939939069828767:=0
def tw11314401002672826106:=0
def tw5873355852931904134:=0
def tw5007491304502007878:=0
def tw15707119680499207114:=0
def tw16858716749670096351:=0
def tw13790708027342882330:=0
def tw283878140435419720:=0
def tw6146622821135473206:=0
def tw3720991938541747605:=0
def tw15362740892039938460:=0
def tw2800728628067851704:=0
def tw12122947724739722858:=0
def tw17311268334414082639:=0
def tw11738731122696477480:=0
def tw11095552748105338586:=0
def tw3848786880459386252:=0
def tw1698848047437412980:=0
def tw13205581070101368:=0
def tw4408383786079675694:=0
def tw2664449470958177439:=0
def tw13181649754554570040:=0
def tw12365984628719898110:=0
def tw5918103327183536658:=0
def tw3952214871580996615:=0
def tw8907016976692406914:=0
def tw7621691022100989643:=0
def tw3636461617924561039:=0
def tw17248335884986202765:=0
def tw11571461000880626914:=0
def tw10419335491048839157:=0
def tw4964328269323534395:=0
def tw2552821624342825095:=0
def tw4908032650892933016:=0
def tw3523078131241678971:=0
def tw5301865112900731285:=0
def tw4571134369445490886:=0
def tw18143852935819915832:=0
def tw1720874823046287681:=0
def tw1863984533269957801:=0
def tw14288771651825821818:=0
def tw14572471648124328883:=0
def tw8385785428895926136:=0
def tw3616200677171937636:=0
def tw5641346995024420918:=0
def tw2308359196872945607:=0
def tw15834453902667722463:=0
def tw421411508870200153:=0
def tw16293758322738840622:=0
def tw10555891915532529364:=0
def tw17370706856658160777:=0
def tw824084250472495191:=0
def tw7715575847709137498:=0
def tw13814416013361752345:=0
def tw3064490186596380595:=0
def tw15223879000229947270:=0
def tw5307339412328368463:=0
def tw17085370200224140849:=0
def tw17587731259335795014:=0
def tw4482120160242728991:=0
def tw16565541699755638815:=0
def tw11689345837411149529:=0
def tw10241508491883400940:=0
def tw1096188686055786087:=0
end PySem.W.Fast
open PySem PySem.W PyProof.Rows
set_option maxRecDepth 100000 in
set_option maxHeartbeats 0 in
theorem PySem.Challenge.cw_oncedoor_k54_whole_folded_comes_up_alike_holds : PySem.Challenge.rw_oncedoor_k54_whole_folded_comes_up_alike.Holds := by
 w_on;o_law;k_head;(case hw=>w_witness2)
 k_fill
 refine KL.aCB (l:=PySem.Challenge.rw_oncedoor_k54_whole_folded_comes_up_alike) rfl rfl (λw h Y=>W.kIn_of Y) ?F
 case F=>
  intro w mg fa h KX G AU;refine' KL.aAg KX G AU ?J6 ?M5 ?J7 ?A2 ?M6 ?u5 ?A3 ?C8 ?M7 ?Z3 ?C9 ?A4 ?E1 ?Z4 ?A5 ?A6 ?A7 ?A8 ?T5 ?A9 ?B0 ?J8 ?J9 ?B1 ?M8 ?K0 ?E2 ?B3 ?E3 ?K2 ?K3 ?K4 ?E4 ?E5 ?w4 ?w5 ?E7 ?E8 ?E9 ?j9 ?j0 ?B4 ?F0 ?xf ?xg ?xh ?xi ?Z5 ?Z6 ?Z7 ?Z8 ?Z9 ?kj ?km ?j3 ?j4 ?j6 ?d9 ?i9 ?c9 ?e9 ?l8 ?l9 ?m5 ?m6 ?B9 ?G0 ?B5 ?j7 ?i7 ?G4 ?ko ?kr ?ku ?kx ?kz ?lg ?lj ?u7 ?m7 ?m8 ?m9 ?n8 ?C0 ?w9 ?G5 ?x8 ?Q6 ?lx ?B6 ?xk ?sm ?xl ?xm ?xn ?ly ?xo ?G6 ?xp ?sq ?md ?T6 ?xq ?su ?xr ?O7 ?u9 ?sv ?mf ?mh ?mi ?mj ?n9 ?p9 ?h9
  case J6|M5|J7|A2|M6|u5|A3|C8|M7|Z3|C9|A4|E1|Z4|A5|A6|A7|A8|T5|A9|B0|J8|J9|B1|M8|K0|E2|B3|E3|K2|K3|K4|E4|E5|w4|w5|E7|E8|E9|j9|j0|B4|F0=>refine' KL.FA.of ?a ?l ?c ?k;(case a=>k_is);(case l=>k_is);(case c=>k_is);case k=>k_is
  case xf|xg|xh|xi|Z5|Z6|Z7|Z8|Z9|kj|km|j3|j4|j6|d9|i9|c9|e9|l8|l9|m5|m6|B9=>k_is
  case G0|B5|j7|i7|G4=>refine' KL.MA.of ?a ?i ?l ?c ?k;(case a=>k_is);(case i=>k_is);(case l=>k_is);(case c=>k_is);case k=>k_is
  case ko|kr|ku|kx|kz|lg|lj|u7|m7|m8|m9|n8|C0=>k_is
  case w9|G5|x8=>refine' KL.MA.of ?a ?i ?l ?c ?k;(case a=>k_is);(case i=>k_is);(case l=>k_is);(case c=>k_is);case k=>k_is
  case Q6=>k_is
  case lx=>exact rfl
  case B6|xk|sm|xl|xm|xn|ly|xo|G6|xp|sq|md|T6|xq|su|xr|O7|u9|sv|mf|mh=>k_is
  case mi=>repeat (first | exact True.intro | refine And.intro ⟨_,rfl⟩ (And.intro rfl (And.intro ⟨_,rfl⟩ ?_)))
  case mj=>decide
  case n9|p9=>k_is
  case h9=>repeat (first | exact .nil | refine .cons ⟨_,rfl⟩ ?_)
