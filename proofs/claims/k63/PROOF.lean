import PyProof.Rows.All
import KE.KDictOf
import KE.LcSums
import KE.KEqDict
import KE.KRevSl
import KE.KRevIter
import KE.KUnpack
import KE.KDictSum
import KE.RegKIsAll
import KE.KSortTup
import KE.KPairComp
import KE.KIntText
import KE.RegKTryMore
import KE.KFromBytes
import PySem.Challenge.RW_oncedoor_k63_written_forced_told
set_option Elab.async false
set_option linter.all false
set_option maxRecDepth 100000
set_option maxHeartbeats 4000000
abbrev Z5:=List (PySem.Addr×PySem.Obj)
abbrev ZB:=PySem.Value->PySem.Shared->Prop
abbrev X7:=PySem.Str->Option PySem.Value
def XV:=@PySem.wpAny_bind
def W1:=@PySem.wpAny_pure
def WP:=@Bool.false_ne_true
def WF:=@of_decide_eq_true
def U4:=@of_decide_eq_false
def UV:=@decide_eq_true
def UF:=@decide_eq_false
def T0:=@Nat.le_of_ble_eq_true
def TW:=@PySem.Heap.get?_push_size
abbrev TD:=PySem.Addr
abbrev S6:=PySem.Value
abbrev PP:=PySem.Shared
def NE:=@if_pos
def IS:=@if_neg
def IQ:=@absurd
def IN:=@List.mem_append_left
def GS:=@List.mem_append_right
def FS:=@Nat.lt_of_lt_of_le
def FM:=@List.not_mem_nil
abbrev EQ:List PySem.Str:=["self"]
abbrev DU:List PySem.Str:=["deed"]
abbrev DT:List PySem.Str:=["thing"]
abbrev DR:List PySem.Str:=["self","name"]
abbrev DQ:List PySem.Str:=["self","number","asker","key","deed","stage"]
abbrev CC:List PySem.Str:=["book","deed"]
abbrev CB:List PySem.Str:=["rows"]
abbrev CA:List PySem.Str:=["_law_deck_here","_law_many"]
abbrev BZ:List PySem.Str:=["row"]
abbrev BY:List PySem.Str:=["_law_script"]
abbrev BX:List PySem.Str:=["rows","came"]
abbrev BW:List PySem.Str:=["self","run"]
abbrev BV:List PySem.Str:=["_law_book","_law_deed_here"]
abbrev AT:List PySem.Str:=["thing","signs","longest"]
abbrev QZZ:List PySem.Str:=["self","rows"]
abbrev QZY:List PySem.Str:=["self","row"]
abbrev QZX:List PySem.Str:=["word","names"]
abbrev QZW:List PySem.Str:=["deed","answer"]
abbrev QZV:List PySem.Str:=["self","life"]
abbrev QZU:List PySem.Str:=["rows","done","asked","came","still"]
abbrev QZT:List PySem.Str:=["self","text"]
abbrev QZS:List PySem.Str:=["self","other"]
abbrev QZR:List PySem.Str:=["self","name","life","houses"]
abbrev QZQ:List PySem.Str:=["self","number","way"]
abbrev QZP:List PySem.Str:=["self","run","answer"]
abbrev QZO:List PySem.Str:=["thing","least","most"]
abbrev QZN:List PySem.Str:=["self","pair"]
abbrev QZM:List PySem.Str:=["self","pair","turn"]
abbrev QZL:List PySem.Str:=["since","life","turn"]
abbrev QZK:List PySem.Str:=["self","changes"]
abbrev QZJ:List PySem.Str:=["self","life","turn","up"]
abbrev QZI:List PySem.Str:=["self","turn","asker","key","deed"]
abbrev QZH:List PySem.Str:=["seen","deed"]
abbrev QZG:List PySem.Str:=["self","rows","closed"]
abbrev QZF:List PySem.Str:=["_law_deck_here"]
abbrev QZE:List PySem.Str:=["_law_deck_here","_law_amount_here"]
abbrev QZD:List PySem.Str:=["_law_book","_law_deed_here","_law_answer_here"]
abbrev QZC:List PySem.Str:=["_law_deed_here"]
abbrev QZB:List PySem.Str:=["self","asker","key","turn"]
abbrev QZA:List PySem.Str:=["self","asker","key","number","deed"]
abbrev QZz:List PySem.Str:=["self","asker","key","turn","answer"]
abbrev QZy:List PySem.Str:=["rows","word"]
abbrev QZx:List PySem.Str:=["self","asker","key","deed"]
abbrev QZw:List PySem.Str:=["self","number","turn","answer"]
abbrev QZv:List PySem.Str:=["_law_deck_here","_law_signs","_law_longest","_law_many","_law_word","_law_size","_law_at","_law_first","_law_ends"]
abbrev QZu:List PySem.Str:=["_law_deck_here","_law_signs","_law_longest","_law_many"]
abbrev QZt:List PySem.Str:=["_law_deck_here","_law_names_here","_law_house","_law_book"]
abbrev QZs:List PySem.Str:=["_law_table","_law_number"]
abbrev QZr:List PySem.Str:=["_law_door","_law_table","_law_number","_law_due","_law_turn","_law_book"]
abbrev QZq:List PySem.Str:=["_law_door","_law_table","_law_written","_law_turn","_law_book","_law_told","_law_due","_law_left","_law_number","_law_deed_here","_law_answer_here"]
abbrev QZp:List PySem.Str:=["_law_door","_law_table","_law_written","_law_turn","_law_book"]
abbrev QZo:List PySem.Str:=["_law_door","_law_book"]
abbrev QZn:List PySem.Str:=["_law_deck_here","_law_door","_law_state","_law_names_here","_law_house"]
abbrev QZm:List PySem.Str:=["_law_deck_here","_law_door","_law_state"]
abbrev QZl:List PySem.Str:=["rows","came","kept"]
abbrev QZk:List PySem.Str:=["name","by","book"]
abbrev QZj:List PySem.Str:=["_law_table","_law_number","_law_other"]
abbrev QZi:List PySem.Str:=["_law_door","_law_book","_law_some"]
abbrev QZh:List PySem.Str:=["_law_deck_here","_law_door","_law_state","_law_first","_law_at","_law_number","_law_due"]
abbrev QZg:List PySem.Str:=["_law_k","_law_deck_here","_law_signs"]
abbrev QZf:List PySem.Str:=["_law_k","_law_signs","_law_first","_law_ends"]
abbrev QZe:List PySem.Str:=["_law_name","_law_table","_law_other"]
open List (mem_filter mem_range mem_cons mem_append_left mem_append_right map_cons append_nil nodup_cons of_mem_zip length length_drop map_nil all_cons any_cons find?_cons length_nil filter_cons length_filter_le nodup_nil any_eq_true lookup_cons drop_zero all_eq_true getElem_mem foldl_cons map_map not_mem_nil toArray mem_of_mem_take pairwise_cons le_trans nil_perm perm_nil range_succ drop_length getD_eq_getElem?_getD map_congr_left pairwise_map filter_eq_self filter filter_sublist all_map filter_append take_length mem_map_of_mem map_set mem_iff_getElem nodup_append append_assoc pairwise_append append_of_mem)
open Nat (lt_of_lt_of_le lt_irrefl ne_of_lt le_of_lt ne_of_gt le_of_eq lt_succ_self zero_le le_succ lt_trans lt_succ_of_lt min_le_left toDigits mod_lt lt_trichotomy)
def Zk{p:Prop}(h:p:=by decide +kernel):p:=h
def Zo{p:Prop}(h:p:=by omega):p:=h
def Zs{p:Prop}(h:p:=by simp):p:=h
def Zd{p:Prop}(h:p:=by decide):p:=h
def bP:=@List.length_map
def gU:=@PySem.Heap.get?_push_of_some
def Zgs:=@List.getElem?_eq_some_iff
def lD:=@List.getElem?_eq_getElem
def fL:=@List.mem_cons_of_mem
def Zmm:=@List.mem_map
def jM:=@List.map_append
def wM:=@List.length_append
def iK:=@List.getElem?_map
def eS:=@Nat.le_trans
def mZ:=@List.mem_cons_self
def dR:=@List.size_toArray
def mV:=@List.length_take
def Mm:=@List.take_of_length_le
def Zma:=@List.mem_append
def Zms:=@List.mem_singleton
def wN:=@List.length_cons
def rY:=@Nat.lt_of_le_of_lt
def bZ:=@Nat.le_refl
def kS:=@List.mem_of_getElem?
namespace L2
open PySem PySem.Spec PyProof.Rows
abbrev bC:=Sum Int Str
def lP:bC->S6->Bool
 | .inl k,v=>Value.isInt k v
 | .inr x,v=>Value.isStrOf x v
def aAf(w:World):bC->Int
 | .inl k=>hashInt k
 | .inr x=>hashStr w x
def bA:∀ {k:bC}{v:S6},lP k v=true->(∃i t,k=Sum.inl i/\v=Value.int i t)∨(∃x t,k=Sum.inr x/\v=Value.str x t)
 | .inl i,v,h=>by
  obtain⟨t,e⟩:=Value.isInt_shape (k:=i) (v:=v) h;exact .inl ⟨i,t,rfl,e⟩
 | .inr x,v,h=>by
  obtain⟨t,e⟩:=Value.isStrOf_shape (x:=x) (v:=v) h;exact .inr ⟨x,t,rfl,e⟩
def Dp(i:Int)(t:Tok):lP (.inl i) (.int i t)=true:=by simp[lP,Value.isInt]
def Dq(x:Str)(t:Tok):lP (.inr x) (.str x t)=true:=by simp[lP,Value.isStrOf]
def Se(a b:Int):decide ((Sum.inl a:bC)=Sum.inl b)=(a==b):=by
 by_cases e:a=b
 ·subst e;simp
 ·have h:¬ (Sum.inl a:bC)=Sum.inl b:=λq=>e (Sum.inl.inj q)
  rw[UF h];exact(beq_eq_false_iff_ne.mpr e).symm
def Sf(a b:Str):decide ((Sum.inr a:bC)=Sum.inr b)=decide (a=b):=by
 by_cases e:a=b
 ·subst e;simp
 ·have h:¬ (Sum.inr a:bC)=Sum.inr b:=λq=>e (Sum.inr.inj q)
  rw[UF h,UF e]
def Sg(a:Int)(b:Str):decide ((Sum.inl a:bC)=Sum.inr b)=false:=UF (λq=>nomatch q)
def Sh(a:Str)(b:Int):decide ((Sum.inr a:bC)=Sum.inl b)=false:=UF (λq=>nomatch q)
def aR(prog:Program)(w:World):PySem.KeyKind prog w bC where
 is:=lP
 hash:=aAf w
 inj:=λv a b ha hb=>by
  rcases bA ha with⟨i,t,rfl,rfl⟩|⟨x,t,rfl,rfl⟩
  ·rcases bA hb with⟨j,u,rfl,e⟩|⟨y,u,rfl,e⟩
   ·injection e with e1 _;rw[e1]
   ·exact nomatch e
  ·rcases bA hb with⟨j,u,rfl,e⟩|⟨y,u,rfl,e⟩
   ·exact nomatch e
   ·injection e with e1 _;rw[e1]
 byValue:=λk v h=>by
  rcases bA h with⟨i,t,rfl,rfl⟩|⟨x,t,rfl,rfl⟩<;>rfl
 pyHash:=λhv h=>by
  rcases bA hv with⟨i,t,rfl,rfl⟩|⟨x,t,rfl,rfl⟩
  ·exact wpAny_pyHash_int h
  ·exact wpAny_pyHash_str h
 eqBool:=λhu hv h=>by
  rcases bA hu with⟨i,t,rfl,rfl⟩|⟨x,t,rfl,rfl⟩
  ·rcases bA hv with⟨j,u,rfl,rfl⟩|⟨y,u,rfl,rfl⟩
   ·rw[Se]at h;exact wpAny_eqBool_int h
   ·rw[Sg]at h;exact SeqAt.EqAt.int_str i t y u _ _ _ _ h
  ·rcases bA hv with⟨j,u,rfl,rfl⟩|⟨y,u,rfl,rfl⟩
   ·rw[Sh]at h;exact SeqAt.EqAt.str_int x t j u _ _ _ _ h
   ·rw[Sf]at h;exact wpAny_eqBool_str h
 «strs»:=λk x t v h=>by
  rcases bA h with⟨i,u,rfl,e⟩|⟨y,u,rfl,e⟩
  ·exact nomatch e
  ·injection e with e1 _
   subst e1;cases v<;>rfl
def wP(prog:Program)(w:World)(i:Int)(t:Tok):(aR prog w).is (.inl i) (.int i t)=true:=Dp i t
def wQ(prog:Program)(w:World)(x:Str)(t:Tok):(aR prog w).is (.inr x) (.str x t)=true:=Dq x t
inductive V where
 | non|bl (b:Bool)|int (i:Int)|str (x:Str)|byt (b:Array UInt8)|flt (b:UInt64)|ref (a:TD)|ty (n:String)
 deriving DecidableEq
def RelV:V->S6->Prop
 | .non,u=>u=Value.none
 | .bl b,u=>u=Value.bool b
 | .int i,u=>∃t,u=Value.int i t
 | .str x,u=>∃t,u=Value.str x t
 | .byt b,u=>∃t,u=Value.bytes b t
 | .flt b,u=>∃t,u=Value.float b t
 | .ref a,u=>u=Value.ref a
 | .ty n,u=>u=Value.type n
abbrev Vals:List V->List S6->Prop:=Paired RelV
def Vals.length{xs:List V}{us:List S6}(r:Vals xs us):xs.length=us.length:=Paired.length r
def Vals.get:∀ {xs:List V}{us:List S6}{i:Nat}{x:V},Vals xs us->xs[i]?=some x->∃u,us[i]?=some u/\RelV x u
 | _,_,_,_,.nil,e=>by simp at e
 | _,_,0,_,.cons r _,e=>by simp at e;subst e;exact⟨_,rfl,r⟩
 | _,_,i+1,x,.cons _ t,e=>by
  obtain⟨u,h1,h2⟩:=Vals.get (i:=i) (x:=x) t (by simpa using e);exact⟨u,by simpa using h1,h2⟩
def Vals.set{x:V}{u:S6}(r:RelV x u):∀ {xs:List V}{us:List S6} (i:Nat),Vals xs us->Vals (xs.set i x) (us.set i u)
 | _,_,_,.nil=>.nil
 | _,_,0,.cons _ t=>.cons r t
 | _,_,i+1,.cons q t=>.cons q (Vals.set r i t)
def Vals.append:∀ {xs ys:List V}{us ws:List S6},Vals xs us->Vals ys ws->Vals (xs++ys) (us++ws)
 | _,_,_,_,.nil,s=>s
 | _,_,_,_,.cons r t,s=>.cons r (Vals.append t s)
def Vals.take:∀ {xs:List V}{us:List S6} (n:Nat),Vals xs us->Vals (xs.take n) (us.take n)
 | _,_,0,_=>.nil
 | _,_,_+1,.nil=>.nil
 | _,_,n+1,.cons r t=>.cons r (Vals.take n t)
def Vals.drop:∀ {xs:List V}{us:List S6} (n:Nat),Vals xs us->Vals (xs.drop n) (us.drop n)
 | _,_,0,r=>r
 | _,_,_+1,.nil=>.nil
 | _,_,n+1,.cons _ t=>Vals.drop n t
def RelO:Option V->Option S6->Prop
 | some v,some u=>RelV v u
 | none,none=>True
 | _,_=>False
def KV{κ:Type}:List (κ×V)->List (κ×S6)->Prop:=Paired λ(p:κ×V) (q:κ×S6)=>p.1=q.1/\RelV p.2 q.2
def kV:bC->V
 | .inl i=>.int i
 | .inr x=>.str x
inductive HO where
 /-- a list -/
 | lst (xs:List V)
 /-- a tuple (never changes) -/
 | tup (xs:List V)
 /-- a dict whose keys are ints and texts;one whose keys are tuples of ints and texts (the empty one is both) -/
 | dK (kvs:List (bC×V))|dT (kvs:List (List bC×V))
 /-- a set of ints: its members,its size -/
 | set (S:Int->Bool) (n:Nat)
 /-- an instance of the class at C,its dict at dx,its attributes -/
 | ins (C dx:TD) (fs:List (Str×V))
 /-- the dict of the instance at x -/
 | own (x:TD)
 /-- the dict of an exception -/
 | xd (fs:List (Str×V))
 /-- a bound method,f of x -/
 | met (f x:TD)
 /-- a range object lo,lo+1,.. below hi -/
 | rng (lo hi:Int)
 /-- a thing that is known to the object (the script;a dict while a loop walks it): read,never written while it is so -/
 | frz (o:Obj) (u:HO)
 /-- a code object's table -/
 | tbl (ps:Array Value)
 /-- any other thing,by what is true of its one object (a def of one's own: SetO a S n:=HO.ext λh=>..) -/
 | ext (φ:Heap->Prop)
abbrev Hp:=Addr->Option HO
def aH(H:Hp)(a:TD)(o:HO):Hp:=λb=>if b=a then some o else H b
def aA{H:Hp}{a:TD}{o:HO}:aH H a o a=some o:=by unfold aH;rw[NE rfl]
def aE{H:Hp}{a b:TD}{o:HO}(h:b≠a):aH H a o b=H b:=by unfold aH;rw[IS h]
def iM{H:Hp}{a:TD}{o u:HO}:aH (aH H a o) a u=aH H a u:=by
 funext b;unfold aH;split<;>rfl
def aQ{H:Hp}{a b:TD}{o u:HO}(h:H a=some o)(h':H b=some u)(d:o≠u):a≠b:=by
 intro e;subst e;rw[h]at h';exact d (Option.some.inj h')
def aD{H:Hp}{a b:TD}{o:HO}(h:H a=some o)(h':H b=none):a≠b:=by
 intro e;subst e;rw[h]at h';cases h'
section
variable (P:Program) (w:World)
def ObjOk(H:Hp)(h:Heap)(a:TD):HO->Prop
 | .lst xs=>xs.length<=sizeLine/\∃(its:List S6)(n:Nat),Vals xs its/\h.get? a=some {cls:=.type "list",data:=.seq its.toArray n }
 | .tup xs=>xs.length<=sizeLine/\∃its:List S6,Vals xs its/\IsTup h a its.toArray
 | .dK kvs=>kvs.length<=sizeLine/\(a==sysModules)=false/\∃vs,KV kvs vs/\h.DictOf (aR P w) a vs
 | .dT kvs=>kvs.length<=sizeLine/\(a==sysModules)=false/\∃xs:List (List bC×TD×S6),
   Paired (λ(p:List bC×V) (q:List bC×TD×S6)=>p.1=q.1/\H q.2.1=some (.tup (p.1.map kV))/\RelV p.2 q.2.2) kvs xs ∧
   ∃o es ep,h.get? a=some o/\o.ExactDict/\o.data=.dict es ep/\es.toList=xs.map (entryOfKey (tupleKind (aR P w)))/\(xs.map (·.1)).Nodup
 | .set S n=>h.SetOf (intKind P w) a S n
 | .ins C dx fs=>H dx=some (.own a)/\fs.length<=1000/\dx≠a/\h.get? a=some (W.instObj C dx) ∧
   ∃mA,h.Ns1 dx mA/\(∀f,RelO (fs.lookup f) (mA f))/\PySem.Within mA (fs.map (·.1))
 | .own _=>∃o,h.get? a=some o
 | .xd fs=>∃mA,h.Ns1 a mA/\∀f,RelO (fs.lookup f) (mA f)
 | .rng lo hi=>∃t u v,h.get? a=some {cls:=.type "range",data:=.fields #[.int lo t,.int hi u,.int 1 v] }
 | .frz o u=>h.get? a=some o/\ObjOk H h a u
 | .tbl ps=>h.get? a=some {cls:=.none,data:=.fields ps }
 | .met f x=>h.get? a=some (W.methodObj (.ref f) (.ref x))
 | .ext φ=>φ h/\(∃o,h.get? a=some o)/\∀h1 h2:Heap,φ h1->(∀o,h1.get? a=some o->h2.get? a=some o)->φ h2
def HOk(H:Hp)(h:Heap):Prop:=∀a o,H a=some o->ObjOk P w H h a o
end
section
variable {P:Program}{w:World}{H H':Hp}{h h':Heap}{a:TD}{o:HO}
def ObjOk.lt(x:ObjOk P w H h a o):a<h.objs.size:=by
 cases o with
 | lst xs=>obtain⟨_,_,_,_,e⟩:=x;exact Heap.lt_size e
 | tup xs=>obtain⟨_,_,_,p⟩:=x;exact p.lt
 | dK kvs=>obtain⟨_,_,_,_,o,_,_,e,_⟩:=x;exact Heap.lt_size e
 | dT kvs=>obtain⟨_,_,_,_,o,_,_,e,_⟩:=x;exact Heap.lt_size e
 | set S n=>obtain⟨o,_,_,_,e,_⟩:=x;exact Heap.lt_size e
 | ins C dx fs=>obtain⟨_,_,_,e,_⟩:=x;exact Heap.lt_size e
 | own y=>obtain⟨_,e⟩:=x;exact Heap.lt_size e
 | xd fs=>obtain⟨_,⟨_,_,_,e,_⟩,_⟩:=x;exact Heap.lt_size e
 | rng lo hi=>obtain⟨_,_,_,e⟩:=x;exact Heap.lt_size e
 | frz ob u=>obtain⟨e,_⟩:=x;exact Heap.lt_size e
 | tbl ps=>exact Heap.lt_size (show h.get? a=some _ from x)
 | met f y=>exact Heap.lt_size (show h.get? a=some _ from x)
 | ext φ=>obtain⟨_,⟨_,e⟩,_⟩:=x;exact Heap.lt_size e
def Paired.mapP{α β:Type}{F G:α->β->Prop}:∀ {l₁:List α}{l₂:List β},Paired F l₁ l₂->(∀a b,F a b->G a b)->Paired G l₁ l₂
 | _,_,.nil,_=>.nil
 | _,_,.cons r t,f=>.cons (f _ _ r) (Paired.mapP t f)
def ObjOk.stay(x:ObjOk P w H h a o)(k:∀b u,(b=a∨H b=some (.own a))->h.get? b=some u->h'.get? b=some u)(ho:∀b,H b=some (.own a)->H' b=some (.own a))(ht:∀b xs,H b=some (.tup xs)->H' b=some (.tup xs)):ObjOk P w H' h' a o:=by
 induction o with
 | lst xs=>obtain⟨z,its,n,r,e⟩:=x;exact⟨z,its,n,r,k _ _ (.inl rfl) e⟩
 | tup xs=>obtain⟨z,its,r,ob,e,c⟩:=x;exact⟨z,its,r,ob,k _ _ (.inl rfl) e,c⟩
 | dK kvs=>obtain⟨z,y,vs,r,ob,es,ep,e,c⟩:=x;exact⟨z,y,vs,r,ob,es,ep,k _ _ (.inl rfl) e,c⟩
 | dT kvs=>
  obtain⟨z,y,xs,r,ob,es,ep,e,c⟩:=x;exact⟨z,y,xs,Paired.mapP r λp q z=>⟨z.1,ht _ _ z.2.1,z.2.2⟩,ob,es,ep,k _ _ (.inl rfl) e,c⟩
 | set S n=>obtain⟨ob,es,ep,t,e,c⟩:=x;exact⟨ob,es,ep,t,k _ _ (.inl rfl) e,c⟩
 | ins C dx fs=>
  obtain⟨d,z,ne,e,mA,⟨od,es,ep,e2,c⟩,r⟩:=x;exact⟨ho _ d,z,ne,k _ _ (.inl rfl) e,mA,⟨od,es,ep,k _ _ (.inr d) e2,c⟩,r⟩
 | own y=>obtain⟨ob,e⟩:=x;exact⟨ob,k _ _ (.inl rfl) e⟩
 | xd fs=>obtain⟨mA,⟨od,es,ep,e,c⟩,r⟩:=x;exact⟨mA,⟨od,es,ep,k _ _ (.inl rfl) e,c⟩,r⟩
 | rng lo hi=>obtain⟨t,u,v,e⟩:=x;exact⟨t,u,v,k _ _ (.inl rfl) e⟩
 | frz ob u ih=>obtain⟨e,q⟩:=x;exact⟨k _ _ (.inl rfl) e,ih q⟩
 | tbl ps=>
  have e:h.get? a=some {cls:=.none,data:=.fields ps }:=x;show h'.get? a=some {cls:=.none,data:=.fields ps };exact k a _ (.inl rfl) e
 | met f y=>
  have e:h.get? a=some (W.methodObj (.ref f) (.ref y)):=x;show h'.get? a=some (W.methodObj (.ref f) (.ref y));exact k a _ (.inl rfl) e
 | ext φ=>obtain⟨p,⟨o,e⟩,st⟩:=x;exact⟨st _ _ p λo q=>k _ _ (.inl rfl) q,⟨o,k _ _ (.inl rfl) e⟩,st⟩
def HOk.lt(x:HOk P w H h)(e:H a=some o):a<h.objs.size:=(x a o e).lt
def HOk.fresh(x:HOk P w H h)(e:h.objs.size<=a):H a=none:=by
 cases q:H a with
 | none=>rfl
 | some u=>exact IQ (FS (x.lt q) e) (lt_irrefl _)
def HOk.kept(x:HOk P w H h)(k:∀b u,h.get? b=some u->h'.get? b=some u):HOk P w H h':=λa o e=>
 (x a o e).stay (λb u _ q=>k b u q) (λ_ q=>q) λ_ _ q=>q
def HOk.laid(x:HOk P w H h)(k:∀b u,h.get? b=some u->h'.get? b=some u)(hp:h.objs.size<=a)(new:ObjOk P w (aH H a o) h' a o):HOk P w (aH H a o) h':=λb u e=>by
 have hn:=x.fresh hp;by_cases hb:b=a
 ·subst hb;rw[aA]at e;cases e;exact new
 ·rw[aE hb]at e;exact(x b u e).stay (λc v _ q=>k c v q) (λc q=>by rw[aE (aD q hn)];exact q) λc xs q=>by rw[aE (aD q hn)];exact q
end
def Rd(H:Hp)(a:TD)(u:HO):Prop:=H a=some u∨∃o,H a=some (.frz o u)
def Rd.ok{P:Program}{w:World}{H:Hp}{h:Heap}{a:TD}{u:HO}(r:Rd H a u)(x:HOk P w H h):ObjOk P w H h a u:=by
 rcases r with r|⟨o,r⟩
 ·exact x a u r
 ·obtain⟨_,q⟩:=x a _ r;exact q
def Ws:Option HO->Prop
 | some (.lst _)=>True
 | some (.dK _)=>True
 | some (.dT _)=>True
 | some (.set _ _)=>True
 | some (.ins _ _ _)=>True
 | some (.ext _)=>True
 | _=>False
section
variable {P:Program}{w:World}{H:Hp}{h h':Heap}{x e:TD}{o':HO}
def HOk.write(ok:HOk P w H h)(mu:Ws (H x))(he:e=x∨H e=some (.own x))(k:∀b u,b≠e->h.get? b=some u->h'.get? b=some u)(MY:∃u,h'.get? e=some u)(new:ObjOk P w (aH H x o') h' x o'):HOk P w (aH H x o') h':=λb u q=>by
 have NV:∀c y,H c=some (.own y)->c≠x:=λc y r z=>by subst z;rw[r]at mu;exact mu
 have VG:∀c xs,H c=some (.tup xs)->c≠x:=λc xs r z=>by subst z;rw[r]at mu;exact mu
 by_cases hb:b=x
 ·subst hb;rw[aA]at q;cases q;exact new
 ·rw[aE hb]at q;by_cases JV:b=e
  ·have q':H b=some (.own x):=by
    rcases he with z|z
    ·exact IQ (JV.trans z) hb
    ·rw[JV];exact z
   rw[q]at q';cases q';obtain⟨v,hv⟩:=MY;exact⟨v,by rw[JV];exact hv⟩
  ·refine(ok b u q).stay (λc v hc r=>k c v ?_ r) (λc r=>by rw[aE (NV c b r)];exact r) λc xs r=>by rw[aE (VG c xs r)];exact r
   rcases hc with rfl|hc
   ·exact JV
   ·rintro rfl;rcases he with z|z
    ·exact NV c b hc z
    ·rw[hc]at z;cases z;exact hb rfl
end
structure Un(fs ex:List TD)(H H':Hp)(h h':Heap):Prop where
 keep:∀b o,h.get? b=some o->H b=none->b∉fs->b∉ex->h'.get? b=some o
 slot:∀b o,h.get? b=some o->H b=none->b∈fs->b∉ex->∃sl,h'.get? b=some {o with slots:=sl }
 free:∀b o,h.get? b=some o->H b=none->b∉ex->H' b=none
 there:∀b o,h.get? b=some o->b∉ex->∃o',h'.get? b=some o'
 tups:∀b xs,H b=some (.tup xs)->H' b=some (.tup xs)
 frzs:∀b o u,H b=some (.frz o u)->H' b=some (.frz o u)
 tbls:∀b ps,H b=some (.tbl ps)->∃more,H' b=some (.tbl (ps++more))
section
variable {fs SW ex ex':List TD}{H H1 H2:Hp}{h h1 h2 h':Heap}{a x e:TD}{o:HO}
def Un.any(u:Un fs ex H H1 h h1){b:TD}{ob:Obj}(q:h.get? b=some ob)(n:H b=none)(hx:b∉ex):∃sl,h1.get? b=some {ob with slots:=sl }:=by
 by_cases hb:b∈fs
 ·exact u.slot b ob q n hb hx
 ·exact⟨ob.slots,u.keep b ob q n hb hx⟩
def Un.kept(k:∀b u,h.get? b=some u->h'.get? b=some u):Un fs ex H H h h':=
 ⟨λb ob q _ _ _=>k b ob q,λb ob q _ _ _=>⟨ob.slots,k b ob q⟩,λ_ _ _ n _=>n,λb ob q _=>⟨ob,k b ob q⟩,λ_ _ q=>q,λ_ _ _ q=>q,λ_ ps q=>⟨#[],by rw[q];simp⟩⟩
def Un.refl:Un fs ex H H h h:=Un.kept λ_ _ q=>q
def Un.laid(k:∀b u,h.get? b=some u->h'.get? b=some u)(hp:h.objs.size<=a)(hn:H a=none):Un fs ex H (aH H a o) h h' where
 keep:=λb u q _ _ _=>k b u q
 slot:=λb u q _ _ _=>⟨u.slots,k b u q⟩
 free:=λb u q n _=>by rw[aE (ne_of_lt (FS (Heap.lt_size q) hp))];exact n
 there:=λb u q _=>⟨u,k b u q⟩
 tups:=λb xs q=>by rw[aE (aD q hn)];exact q
 frzs:=λb u xs q=>by rw[aE (aD q hn)];exact q
 tbls:=λb ps q=>⟨#[],by rw[aE (aD q hn),q];simp⟩
def Un.write(mu:Ws (H x))(he:e=x∨H e=some (.own x))(k:∀b u,b≠e->h.get? b=some u->h'.get? b=some u)(MY:∃u,h'.get? e=some u):Un fs ex H (aH H x o) h h':=by
 have hx:∀b,H b=none->b≠x:=λb n z=>by subst z;rw[n]at mu;exact mu
 have hb:∀b,H b=none->b≠e:=λb n z=>by
  subst z;rcases he with r|r
  ·exact hx b n r
  ·rw[n]at r;cases r
 have hm:∀b u,H b=some u->¬ Ws (some u)->b≠x:=λb u q nm z=>by subst z;rw[q]at mu;exact nm mu
 refine⟨λb u q n _ _=>k b u (hb b n) q,λb u q n _ _=>⟨u.slots,k b u (hb b n) q⟩,λb u q n _=>by rw[aE (hx b n)];exact n,λb u q _=>?_,
  λb xs q=>by rw[aE (hm b _ q λz=>z)];exact q,λb u xs q=>by rw[aE (hm b _ q λz=>z)];exact q,λb ps q=>⟨#[],by rw[aE (hm b _ q λz=>z),q];simp⟩⟩
 by_cases JV:b=e
 ·subst JV;exact MY
 ·exact⟨u,k b u JV q⟩
end
def Zt(h:Heap)(H:Hp):List Addr:=(List.range h.objs.size).filter λa=>(H a).isSome
def uP(h:Heap)(H:Hp):Heap:=W.hideAll h (Zt h H)
def Dr(h:Heap)(H:Hp):(uP h H).objs.size=h.objs.size:=W.hideAll_size _ _
def Gn{h:Heap}{H:Hp}{b:TD}{o:Obj}(e:h.get? b=some o)(n:H b=none):(uP h H).get? b=some o:=
 W.hideAll_get _ e λhm=>by
  have q:(H b).isSome=true:=(mem_filter.mp hm).2;rw[n]at q;simp at q
def Mn{h:Heap}{H:Hp}{b:TD}{o:Obj}(e:(uP h H).get? b=some o):h.get? b=some o/\H b=none:=by
 have e':h.get? b=some o:=W.of_hideAll (Zt h H) e;refine⟨e',?_⟩
 cases q:H b with
 | none=>rfl
 | some x=>
  have hm:b∈Zt h H:=mem_filter.mpr ⟨mem_range.mpr (Heap.lt_size e'),by simp[q]⟩;have z:(uP h H).get? b=none:=W.hideAll_none (Zt h H) hm;rw[z]at e;cases e
structure Mod(K:W.Frag)(mg:X7)(base:Heap):Prop where
 kin:K.In base
 glob:base.Ns mainGlobals mg
 blt:∃mb,base.Ns builtinsNs mb/\∀x:Str,x≠"__name__"->mb x=bootBuiltins x
 nolimit:base.NoLimit
structure Cx where
 prog:Program
 w:World
 K:W.Frag
 mg:Str->Option Value
 base:Heap
 A:Around
 N:List Str
 s₀:Shared
 H₀:Hp
 env:Env
 outer:List Env
 stack:List Env
 ex:List Addr
 fn:Str->Bool
 calm:Bool
 pn:List (TD×Obj)
 xe:S6->PP->Prop
def Go(l:List Env):List Addr:=l.filterMap (·.frame)
abbrev Cx.fs(X:Cx):List Addr:=Go X.outer
def Wt(sc:Scope)(x:Str):Prop:=sc.names.lookup x=some .local∨sc.names.lookup x=some .cell∨sc.names.lookup x=some .free
def Qs(sc:Scope)(x:Str):Prop:=sc.names.lookup x=some .local∨sc.names.lookup x=some .cell
def aAg(env:Env)(h:Heap)(m:X7)(x:Str)(u:S6):Prop:=
 (env.kindOf x=some .local/\m x=some u)∨((env.kindOf x=some .cell∨env.kindOf x=some .free)/\∃c,env.cells.lookup x=some c/\h.IsCell c (some u))
structure Cx.Ok(X:Cx):Prop where
 mod:Mod X.K X.mg X.base
 kind:X.env.scope.kind=.function
 glob:X.env.globals=mainGlobals
 blt:X.env.builtins=builtinsNs
 above:X.s₀.heap.objs.size<=X.env.locals
 inj:∀x y c,X.env.cells.lookup x=some c->X.env.cells.lookup y=some c->x=y
 has:∀x,(X.env.kindOf x=some .cell∨X.env.kindOf x=some .free)->∃c,X.env.cells.lookup x=some c
 cab:∀x c,X.fn x=true->X.env.cells.lookup x=some c->X.s₀.heap.objs.size<=c
 hd:X.calm=true->X.A.handled=none
 frames:X.A.frames=some X.stack
 stk:X.stack=X.outer∨(X.stack=X.env::X.outer/\X.env.frame=some X.env.locals)
 exf:∀b∈X.ex,b≠X.env.locals/\∀x c,X.env.cells.lookup x=some c->c≠b
 bs:∀b o,X.base.get? b=some o->X.s₀.heap.get? b=some o/\X.H₀ b=none
 bsz:X.base.objs.size<=X.s₀.heap.objs.size
 noex:∀b o,X.base.get? b=some o->b∉X.ex
 exfs:∀b∈X.ex,b∉X.fs
 funs:X.s₀.heap.FunFrames X.base X.outer
 frf:∀b∈X.fs,X.H₀ b=none
structure Inv(X:Cx)(pins:Z5)(σ:List (Option V))(H:Hp)(s:PP):Prop where
 ok:X.Ok
 os:s.os=X.s₀.os
 bare:AllBare s.gens
 base:Un X.fs X.ex X.H₀ H X.s₀.heap s.heap
 loc:∃m,s.heap.Ns X.env.locals m/\∀(i:Nat)(x:Str)(v:V),X.N[i]?=some x->σ[i]?=some (some v)->Wt X.env.scope x->∃u,RelV v u/\aAg X.env s.heap m x u
 cell:∀x c,X.env.cells.lookup x=some c->∃v,s.heap.IsCell c v
 free:H X.env.locals=none
 freeC:∀x c,X.env.cells.lookup x=some c->H c=none
 pin:∀p∈X.pn++pins,s.heap.get? p.1=some p.2/\H p.1=none/\p.1≠X.env.locals/\p.1∉X.fs/\∀v,p.2.data≠.cell v
 hok:HOk X.prog X.w H s.heap
 len:σ.length=X.N.length
section
variable {X:Cx}{pins:Z5}{σ:List (Option V)}{H H':Hp}{s:PP}{h':Heap}
def Cx.Ok.nofr(ok:X.Ok){b:TD}{o:Obj}(e:X.base.get? b=some o):b∉X.fs:=λhb=>by
 have:=(ok.funs.mem hb).1;rw[e]at this;cases this
def Inv.bs(I:Inv X pins σ H s):∀b o,X.base.get? b=some o->s.heap.get? b=some o/\H b=none:=λb o e=>
 ⟨I.base.keep b o (I.ok.bs b o e).1 (I.ok.bs b o e).2 (I.ok.nofr e) (I.ok.noex b o e),I.base.free b o (I.ok.bs b o e).1 (I.ok.bs b o e).2 (I.ok.noex b o e)⟩
def Inv.bk(I:Inv X pins σ H s):∀b o,X.base.get? b=some o->s.heap.get? b=some o:=λb o e=>(I.bs b o e).1
def Inv.mod(I:Inv X pins σ H s):Mod X.K X.mg X.base:=I.ok.mod
def Inv.kIn(I:Inv X pins σ H s):X.K.In s.heap:=I.ok.mod.kin.keeps I.bk
def Inv.fr(I:Inv X pins σ H s):∃m,Fr X.base X.env.locals s.heap m:=
 let ⟨m,hn,_⟩:=I.loc
 ⟨m,hn,I.bk,eS I.ok.bsz I.ok.above⟩
def Inv.lt(I:Inv X pins σ H s):X.env.locals<s.heap.objs.size:=let ⟨_,hn,_⟩:=I.loc;hn.lt
def Inv.sz(I:Inv X pins σ H s):X.s₀.heap.objs.size<=s.heap.objs.size:=eS I.ok.above (le_of_lt I.lt)
def Inv.nofs(I:Inv X pins σ H s){a:TD}(h:s.heap.objs.size<=a):a∉X.fs:=λhb=>by
 obtain⟨_,o,ho,_⟩:=I.ok.funs.mem hb;exact IQ (FS (Heap.lt_size ho) (eS I.sz h)) (lt_irrefl _)
def Inv.cne(I:Inv X pins σ H s):∀x c,X.env.cells.lookup x=some c->c≠X.env.locals:=λx c e z=>by
 obtain⟨v,o,ho,hd⟩:=I.cell x c e;obtain⟨m,⟨o',es,ep,T1,CF,_⟩,_⟩:=I.loc;rw[z,T1]at ho;cases ho;rw[CF]at hd;cases hd
def Inv.funs(I:Inv X pins σ H s):s.heap.FunFrames X.base X.outer:=by
 have all:∀(l:List Env),(∀b∈Go l,b∈X.fs)->X.s₀.heap.FunFrames X.base l->s.heap.FunFrames X.base l:=by
  intro l;induction l with
  | nil=>intro _ _;trivial
  | cons env r ih=>
   intro hs hl;obtain⟨hk,⟨L,o,hf,hn,ho,hd⟩,hr⟩:=hl;have hL:L∈X.fs:=hs L (by unfold Go;rw[List.filterMap_cons,hf];exact mZ);obtain⟨sl,e⟩:=I.base.slot L o ho (I.ok.frf L hL) hL λz=>I.ok.exfs L z hL
   exact⟨hk,⟨L,_,hf,hn,e,hd⟩,ih (λb hb=>hs b (by unfold Go;rw[List.filterMap_cons,hf];exact fL _ hb)) hr⟩
 exact all X.outer (λ_ hb=>hb) I.ok.funs
def Inv.stack(I:Inv X pins σ H s):s.heap.FunFrames X.base X.stack:=by
 rcases I.ok.stk with e|⟨e,hf⟩
 ·rw[e];exact I.funs
 ·rw[e];obtain⟨m,hn,_⟩:=I.loc;refine .cons (by rw[I.ok.kind];decide) hf hn ?_ I.funs;exact Heap.get?_none_of_le (eS I.ok.bsz I.ok.above)
def Inv.stkSub(I:Inv X pins σ H s):∀b∈Go X.stack,b∈X.env.locals::X.fs:=λb hb=>by
 rcases I.ok.stk with e|⟨e,hf⟩
 ·rw[e]at hb;exact fL _ hb
 ·rw[e]at hb;unfold Go at hb;rw[List.filterMap_cons,hf]at hb;exact hb
def Inv.stkFree(I:Inv X pins σ H s):∀b∈Go X.stack,H b=none:=λb hb=>by
 rcases mem_cons.mp (I.stkSub b hb) with e|hb
 ·rw[e];exact I.free
 ·obtain⟨_,o,ho,_⟩:=I.ok.funs.mem hb;exact I.base.free b o ho (I.ok.frf b hb) λz=>I.ok.exfs b z hb
def Inv.step{g':Array GenState}{t':Nat}{d':Drawn}{ch:List TD}(I:Inv X pins σ H s)(DX:∀b∈ch,(b∈X.ex∨X.s₀.heap.objs.size<=b)/\b≠X.env.locals/\(∀x c,X.env.cells.lookup x=some c->c≠b)/\∀p∈X.pn++pins,p.1≠b)(keep:∀b o,b≠X.env.locals->b∉X.fs->b∉ch->s.heap.get? b=some o->H b=none->h'.get? b=some o)(slot:∀b o,b≠X.env.locals->b∈X.fs->b∉ch->s.heap.get? b=some o->H b=none->∃sl,h'.get? b=some {o with slots:=sl })(free:∀b o,b∉ch->s.heap.get? b=some o->H b=none->H' b=none)(there:∀b o,b∉ch->s.heap.get? b=some o->∃o',h'.get? b=some o')(tups:∀b xs,H b=some (.tup xs)->H' b=some (.tup xs))(frzs:∀b o u,H b=some (.frz o u)->H' b=some (.frz o u))(tbls:∀b ps,H b=some (.tbl ps)->∃more,H' b=some (.tbl (ps++more)))(ns:∀m,s.heap.Ns X.env.locals m->h'.Ns X.env.locals m)(hok:HOk X.prog X.w H' h')(hg:AllBare g') :
  Inv X pins σ H' {s with heap:=h',gens:=g',drawn:=d',toks:=t' }:=by
 have neL:∀b o,X.s₀.heap.get? b=some o->b≠X.env.locals:=λb o e=>ne_of_lt (FS (Heap.lt_size e) I.ok.above)
 have SX:∀b o,X.s₀.heap.get? b=some o->b∉X.ex->b∉ch:=λb o e hx hb=>by
  rcases(DX b hb).1 with z|z
  ·exact hx z
  ·exact IQ (FS (Heap.lt_size e) z) (lt_irrefl _)
 have cellK:∀x c,X.env.cells.lookup x=some c->∀v,s.heap.IsCell c v->h'.IsCell c v:=λx c e v ⟨o,ho,hd⟩=>by
  have EF:c∉ch:=λz=>(DX c z).2.2.1 x c e rfl
  by_cases hc:c∈X.fs
  ·obtain⟨sl,q⟩:=slot c o (I.cne x c e) hc EF ho (I.freeC x c e);exact⟨_,q,hd⟩
  ·exact⟨o,keep c o (I.cne x c e) hc EF ho (I.freeC x c e),hd⟩
 refine⟨I.ok,I.os,hg,⟨λb o e n hb hx=>?_,λb o e n hb hx=>?_,λb o e n hx=>?_,λb o e hx=>?_,λb xs e=>tups b xs (I.base.tups b xs e),λb o xs e=>frzs b o xs (I.base.frzs b o xs e),λb ps e=>?_⟩,?_,λx c e=>?_,?_,λx c e=>?_,λp hp=>?_,hok,I.len⟩
 ·exact keep b o (neL b o e) hb (SX b o e hx) (I.base.keep b o e n hb hx) (I.base.free b o e n hx)
 ·obtain⟨sl,e1⟩:=I.base.slot b o e n hb hx;obtain⟨sl',e2⟩:=slot b _ (neL b o e) hb (SX b o e hx) e1 (I.base.free b o e n hx);exact⟨sl',e2⟩
 ·obtain⟨o',e1⟩:=I.base.there b o e hx;exact free b o' (SX b o e hx) e1 (I.base.free b o e n hx)
 ·obtain⟨o',e1⟩:=I.base.there b o e hx;exact there b o' (SX b o e hx) e1
 ·obtain⟨m1,e1⟩:=I.base.tbls b ps e;obtain⟨m2,e2⟩:=tbls b _ e1;exact⟨m1++m2,by rw[e2,Array.append_assoc]⟩
 ·obtain⟨m,hn,hl⟩:=I.loc;refine⟨m,ns m hn,λi x v e1 e2 e3=>?_⟩;obtain⟨u,r,l⟩:=hl i x v e1 e2 e3;refine⟨u,r,?_⟩;rcases l with l|⟨k,c,e,z⟩
  ·exact .inl l
  ·exact .inr ⟨k,c,e,cellK x c e _ z⟩
 ·obtain⟨v,z⟩:=I.cell x c e;exact⟨v,cellK x c e v z⟩
 ·obtain⟨m,⟨o,_,_,ho,_⟩,_⟩:=I.loc;exact free _ o (λz=>(DX _ z).2.1 rfl) ho I.free
 ·obtain⟨v,o,ho,hd⟩:=I.cell x c e;exact free c o (λz=>(DX c z).2.2.1 x c e rfl) ho (I.freeC x c e)
 ·obtain⟨e,n,ne,nf,d⟩:=I.pin p hp;have EF:p.1∉ch:=λz=>(DX p.1 z).2.2.2 p hp rfl
  exact⟨keep p.1 p.2 ne nf EF e n,free p.1 p.2 EF e n,ne,nf,d⟩
def Inv.un{t':Nat}(I:Inv X pins σ H s)(u:Un X.fs [] H H' s.heap h')(hok:HOk X.prog X.w H' h'):Inv X pins σ H' {s with heap:=h',toks:=t' }:=by
 obtain⟨m,⟨o,es,ep,ho,r⟩,_⟩:=id I.loc;obtain⟨sl,hL⟩:=u.any ho I.free Zs;exact I.step (g':=s.gens) (d':=s.drawn) (ch:=[]) (λ_ z=>nomatch z) (λb o _ hb _ e n=>u.keep b o e n hb Zs) (λb o _ hb _ e n=>u.slot b o e n hb Zs) (λb o _ e n=>u.free b o e n Zs) (λb o _ e=>u.there b o e Zs) u.tups u.frzs u.tbls (λm' hm=>by
  obtain⟨o',EG,EH,T1,r'⟩:=hm;rw[ho]at T1;cases T1;exact⟨_,EG,EH,hL,r'⟩) hok I.bare
def Inv.call{g':Array GenState}{t':Nat}{d':Drawn}{ch:List TD}(I:Inv X pins σ H s)(u:Un (Go X.stack) ch H H' s.heap h')(hok:HOk X.prog X.w H' h')(hg:AllBare g')(DX:∀b∈ch,(b∈X.ex∨X.s₀.heap.objs.size<=b)/\b≠X.env.locals/\(∀x c,X.env.cells.lookup x=some c->c≠b)/\∀p∈X.pn++pins,p.1≠b) :
  Inv X pins σ H' {s with heap:=h',gens:=g',drawn:=d',toks:=t' }:=by
 obtain⟨m,⟨o,es,ep,ho,r⟩,_⟩:=id I.loc;obtain⟨sl,hL⟩:=u.any ho I.free λz=>(DX _ z).2.1 rfl
 exact I.step (ch:=ch) DX (λb o hL hb hc e n=>u.keep b o e n (λz=>(mem_cons.mp (I.stkSub b z)).elim hL hb) hc) (λb o _ _ hc e n=>u.any e n hc) (λb o hc e n=>u.free b o e n hc) (λb o hc e=>u.there b o e hc) u.tups u.frzs u.tbls (λm' hm=>by
  obtain⟨o',EG,EH,T1,r'⟩:=hm;rw[ho]at T1;cases T1;exact⟨_,EG,EH,hL,r'⟩) hok hg
def Inv.turned{t':Nat}{it:TD}(I:Inv X pins σ H s)(k:∀b o,b≠it->s.heap.get? b=some o->h'.get? b=some o)(hn:H it=none)(hL:it≠X.env.locals)(h1:it∈X.ex∨X.s₀.heap.objs.size<=it)(h2:∀x c,X.env.cells.lookup x=some c->c≠it)(h3:∀p∈X.pn++pins,p.1≠it):Inv X pins σ H {s with heap:=h',toks:=t' }:=by
 have nit:∀b u,H b=some u->b≠it:=λb u e z=>by rw[z,hn]at e;cases e
 refine I.step (g':=s.gens) (d':=s.drawn) (ch:=[it]) (λb hb=>?_) (λb o _ _ hc e _=>k b o (λz=>hc (by simp[z])) e) (λb o _ _ hc e _=>⟨o.slots,k b o (λz=>hc (by simp[z])) e⟩) (λ_ _ _ _ n=>n)
  (λb o hc e=>⟨o,k b o (λz=>hc (by simp[z])) e⟩) (λ_ _ e=>e) (λ_ _ _ e=>e) (λb ps e=>⟨#[],by rw[e];simp⟩) (λm hm=>?_) (λb u e=>?_) I.bare
 ·have e:b=it:=by simpa using hb
  subst e;exact⟨h1,hL,h2,h3⟩
 ·obtain⟨o,es,ep,ho,r⟩:=hm;exact⟨o,es,ep,k _ o (Ne.symm hL) ho,r⟩
 ·refine(I.hok b u e).stay (λc v hc q=>k c v ?_ q) (λ_ q=>q) λ_ _ q=>q;rcases hc with z|z
  ·rw[z];exact nit b u e
  ·exact nit c _ z
def Inv.tok(I:Inv X pins σ H s)(t:Nat):Inv X pins σ H {s with toks:=t }:=I.un (h':=s.heap) (t':=t) Un.refl I.hok
def Inv.kept{t':Nat}(I:Inv X pins σ H s)(k:∀b u,s.heap.get? b=some u->h'.get? b=some u):Inv X pins σ H {s with heap:=h',toks:=t' }:=I.un (Un.kept k) (I.hok.kept k)
def Inv.laid{a:TD}{o:HO}{t':Nat}(I:Inv X pins σ H s)(k:∀b u,s.heap.get? b=some u->h'.get? b=some u)(hp:s.heap.objs.size<=a)(new:ObjOk X.prog X.w (aH H a o) h' a o) :
  Inv X pins σ (aH H a o) {s with heap:=h',toks:=t' }:=I.un (Un.laid k hp (I.hok.fresh hp)) (I.hok.laid k hp new)
def Inv.write{x e:TD}{o:HO}{t':Nat}(I:Inv X pins σ H s)(mu:Ws (H x))(he:e=x∨H e=some (.own x))(k:∀b u,b≠e->s.heap.get? b=some u->h'.get? b=some u)(MY:∃u,h'.get? e=some u)(new:ObjOk X.prog X.w (aH H x o) h' x o):Inv X pins σ (aH H x o) {s with heap:=h',toks:=t' }:=I.un (Un.write mu he k MY) (I.hok.write mu he k MY new)
def Inv.weak{σ':List (Option V)}(I:Inv X pins σ H s)(hl:σ'.length=σ.length)(w:∀(i:Nat) v,σ'[i]?=some (some v)->σ[i]?=some (some v)):Inv X pins σ' H s:=
 ⟨I.ok,I.os,I.bare,I.base,let ⟨m,hn,EI⟩:=I.loc;⟨m,hn,λi x v e1 e2 e3=>EI i x v e1 (w i v e2) e3⟩,I.cell,I.free,I.freeC,I.pin,I.hok,hl.trans I.len⟩
def Inv.pins_of{IU:Z5}(I:Inv X pins σ H s)(h:∀p∈IU,s.heap.get? p.1=some p.2/\H p.1=none/\p.1≠X.env.locals/\p.1∉X.fs/\∀v,p.2.data≠.cell v):Inv X IU σ H s:=
 ⟨I.ok,I.os,I.bare,I.base,I.loc,I.cell,I.free,I.freeC,λp hp=>(Zma.mp hp).elim (λz=>I.pin p (IN _ z)) (h p),I.hok,I.len⟩
def wR{N:List Str}(hN:N.Nodup){i j:Nat}{x:Str}(a:N[i]?=some x)(b:N[j]?=some x):i=j:=by
 obtain⟨h1,e1⟩:=Zgs.mp a;obtain⟨h2,e2⟩:=Zgs.mp b;exact(List.getElem_inj hN).mp (e1.trans e2.symm)
def rZ{M:Model}{A:Around}{E:ZB}{i:Nat}{x:Str}{v:V}{u:S6}{Q:Unit->PP->Prop}(I:Inv X pins σ H s)(hN:X.N.Nodup)(hi:X.N[i]?=some x)(hx:Qs X.env.scope x)(r:RelV v u)(h:∀s',Inv X pins (σ.set i (some v)) H s'->(∃a,Heap.SameBut a s.heap s'.heap/\(a=X.env.locals∨X.env.cells.lookup x=some a))->Q () s')(hf:X.fn x=true∨X.env.scope.names.lookup x=some .local:=by first|exact .inl rfl|exact .inr rfl|assumption):wpAny M A (storeName X.env x u) Q E s:=by
 obtain⟨m,hn,hl⟩:=id I.loc;have VH:(X.env.scope.kind == .class||(X.env.scope.kind == .module&&X.env.locals != X.env.globals))=false:=by rw[I.ok.kind];rfl
 have hiσ:i<σ.length:=by rw[I.len];exact(Zgs.mp hi).1
 have cne:=I.cne;have tracked:∀ {a:TD}{h':Heap},(∃o,s.heap.get? a=some o/\H a=none)->Heap.SameBut a s.heap h'->HOk X.prog X.w H h':=λ{a h'} ha hs b ob e=>by
  obtain⟨_,_,P2⟩:=ha;refine(I.hok b ob e).stay (λc w' hc q=>(hs.2 c ?_).trans q) (λ_ q=>q) λ_ _ q=>q;rintro rfl;rcases hc with rfl|hc
  ·rw[P2]at e;cases e
  ·rw[P2]at hc;cases hc
 rcases hx with hk|hk
 ·refine wpAny_storeName_local hk hn (λh' VI hs=>?_) VH;obtain⟨oL,_,_,hoL,_⟩:=id hn;refine h _ ⟨I.ok,I.os,I.bare,⟨λb o e n hb hx=>?_,λb o e n hb hx=>?_,I.base.free,λb o e hx=>?_,I.base.tups,I.base.frzs,I.base.tbls⟩,⟨_,VI,λj y v' e1 e2 e3=>?_⟩,λy c e=>?_,I.free,I.freeC,λp hp=>?_,tracked ⟨oL,hoL,I.free⟩ hs,by simpa using I.len⟩ ⟨_,hs,.inl rfl⟩
  ·exact(hs.2 b (ne_of_lt (FS (Heap.lt_size e) I.ok.above))).trans (I.base.keep b o e n hb hx)
  ·obtain⟨sl,e1⟩:=I.base.slot b o e n hb hx;exact⟨sl,(hs.2 b (ne_of_lt (FS (Heap.lt_size e) I.ok.above))).trans e1⟩
  ·obtain⟨o',e1⟩:=I.base.there b o e hx;exact⟨o',(hs.2 b (ne_of_lt (FS (Heap.lt_size e) I.ok.above))).trans e1⟩
  ·by_cases hj:j=i
   ·subst hj;rw[hi]at e1;cases e1;rw[List.getElem?_set_self hiσ]at e2;cases e2;exact⟨u,r,.inl ⟨hk,Zs⟩⟩
   ·rw[List.getElem?_set_ne (Ne.symm hj)]at e2;obtain⟨u',r',q⟩:=hl j y v' e1 e2 e3;refine⟨u',r',?_⟩;rcases q with⟨k,e⟩|⟨k,c,e,z⟩
    ·refine .inl ⟨k,?_⟩;have:y≠x:=λe=>hj (wR hN e1 (e▸hi))
     simp[this,e]
    ·exact .inr ⟨k,c,e,z.sameBut hs (cne y c e)⟩
  ·obtain⟨w',z⟩:=I.cell y c e;exact⟨w',z.sameBut hs (cne y c e)⟩
  ·obtain⟨e,n,ne,nf,d⟩:=I.pin p hp;exact⟨(hs.2 p.1 ne).trans e,n,ne,nf,d⟩
 ·have VJ:X.fn x=true:=by
   rcases hf with z|z
   ·exact z
   ·rw[z]at hk;cases hk
  obtain⟨c,hc⟩:=I.ok.has x (.inl hk);obtain⟨w',z⟩:=I.cell x c hc;refine wpAny_storeName_cell I.ok.kind hk hc z (λh' HH hs=>?_);obtain⟨oc,SY,VL⟩:=id z;refine h {s with heap:=h' } ⟨I.ok,I.os,I.bare,⟨λb o e n hb hx=>?_,λb o e n hb hx=>?_,I.base.free,λb o e hx=>?_,I.base.tups,I.base.frzs,I.base.tbls⟩,⟨m,hn.sameBut hs (Ne.symm (cne x c hc)),λj y v' e1 e2 e3=>?_⟩,λy c' e=>?_,I.free,I.freeC,λp hp=>?_,tracked ⟨oc,SY,I.freeC x c hc⟩ hs,by simpa using I.len⟩ ⟨c,hs,.inr hc⟩
  ·exact(hs.2 b (ne_of_lt (FS (Heap.lt_size e) (I.ok.cab x c VJ hc)))).trans (I.base.keep b o e n hb hx)
  ·obtain⟨sl,e1⟩:=I.base.slot b o e n hb hx;exact⟨sl,(hs.2 b (ne_of_lt (FS (Heap.lt_size e) (I.ok.cab x c VJ hc)))).trans e1⟩
  ·obtain⟨o',e1⟩:=I.base.there b o e hx;exact⟨o',(hs.2 b (ne_of_lt (FS (Heap.lt_size e) (I.ok.cab x c VJ hc)))).trans e1⟩
  ·by_cases hj:j=i
   ·subst hj;rw[hi]at e1;cases e1;rw[List.getElem?_set_self hiσ]at e2;cases e2;exact⟨u,r,.inr ⟨.inl hk,c,hc,HH⟩⟩
   ·rw[List.getElem?_set_ne (Ne.symm hj)]at e2;obtain⟨u',r',q⟩:=hl j y v' e1 e2 e3;refine⟨u',r',?_⟩;rcases q with q|⟨k,c',e,z'⟩
    ·exact .inl q
    ·refine .inr ⟨k,c',e,z'.sameBut hs ?_⟩;rintro rfl;exact hj (wR hN e1 (I.ok.inj _ _ _ e hc▸hi))
  ·by_cases hcc:c'=c
   ·subst hcc;exact⟨_,HH⟩
   ·obtain⟨w2,z2⟩:=I.cell y c' e;exact⟨w2,z2.sameBut hs hcc⟩
  ·obtain⟨e,n,ne,nf,d⟩:=I.pin p hp;refine⟨(hs.2 p.1 ?_).trans e,n,ne,nf,d⟩;intro q;rw[q,SY]at e;have q':oc=p.2:=Option.some.inj e;exact d w' (by rw[<- q'];exact VL)
def wU{M:Model}{A:Around}{E:ZB}{i:Nat}{x:Str}{v:V}{u:S6}{Q:Unit->PP->Prop}(I:Inv X pins σ H s)(hN:X.N.Nodup)(hi:X.N[i]?=some x)(hx:Qs X.env.scope x)(r:RelV v u)(h:∀s',Inv X pins (σ.set i (some v)) H s'->Q () s')(hf:X.fn x=true∨X.env.scope.names.lookup x=some .local:=by first|exact .inl rfl|exact .inr rfl|assumption):wpAny M A (storeName X.env x u) Q E s:=
 rZ I hN hi hx r (λs' I' _=>h s' I') hf
def Inv.call'{s':PP}{ch:List TD}(I:Inv X pins σ H s)(ho:s'.os=s.os)(u:Un (Go X.stack) ch H H' s.heap s'.heap)(hok:HOk X.prog X.w H' s'.heap)(hg:AllBare s'.gens)(DX:∀b∈ch,(b∈X.ex∨X.s₀.heap.objs.size<=b)/\b≠X.env.locals/\(∀x c,X.env.cells.lookup x=some c->c≠b)/\∀p∈X.pn++pins,p.1≠b):Inv X pins σ H' s':=by
 obtain⟨h',g',d',t',o'⟩:=s';have e:o'=s.os:=ho;subst e;exact I.call (g':=g') (t':=t') (d':=d') u hok hg DX
end
abbrev XK:=Value->Option TD->Hp->Prop
abbrev St:=List (Option V)
abbrev VK:=V->Hp->Prop
abbrev TE:=St->Hp->VK->Prop
abbrev TT:=St->Hp->(Bool->Hp->Prop)->Prop
abbrev TA:=St->Hp->(List V->Hp->Prop)->Prop
structure hZ where
 nx:St->Hp->Prop
 rt:VK
 bk:St->Hp->Prop:=λ_ _=>False
 ct:St->Hp->Prop:=λ_ _=>False
abbrev TS:=hZ->St->Hp->Prop
def EP(X:Cx)(pins:Z5)(σ:St)(Q:VK)(u:S6)(s':PP):Prop:=∃v H',Inv X pins σ H' s'/\RelV v u/\Q v H'
def TP(X:Cx)(pins:Z5)(σ:St)(Q:Bool->Hp->Prop)(b:Bool)(s':PP):Prop:=∃H',Inv X pins σ H' s'/\Q b H'
def AP(X:Cx)(pins:Z5)(σ:St)(Q:List V->Hp->Prop)(us:List S6)(s':PP):Prop:=∃vs H',Inv X pins σ H' s'/\Vals vs us/\Q vs H'
def SP(X:Cx)(pins:Z5)(D:hZ)(f:Flow)(s':PP):Prop:=
 match f with
 | .next=>∃ σ' H',Inv X pins σ' H' s'/\D.nx σ' H'
 | .brk=>∃ σ' H',Inv X pins σ' H' s'/\D.bk σ' H'
 | .cont=>∃ σ' H',Inv X pins σ' H' s'/\D.ct σ' H'
 | .ret u=>∃v σ' H',Inv X pins σ' H' s'/\RelV v u/\D.rt v H'
def PE(X:Cx)(e:Expr)(t:TE):Prop:=
 ∀(pins:Z5)(s:PP)(σ:St)(H:Hp)(Q:VK),Inv X pins σ H s->t σ H Q->wpAny (model X.prog X.w) X.A (eval e X.env) (EP X pins σ Q) X.xe s
def PT(X:Cx)(e:Expr)(t:TT):Prop:=
 ∀(pins:Z5)(s:PP)(σ:St)(H:Hp)(Q:Bool->Hp->Prop),Inv X pins σ H s->t σ H Q->wpAny (model X.prog X.w) X.A (isTrue e X.env (eval e X.env)) (TP X pins σ Q) X.xe s
def PW(X:Cx)(e:Expr)(t:TT):Prop:=
 ∀(whole:Sem Value)(pins:Z5)(s:PP)(σ:St)(H:Hp)(Q:Bool->Hp->Prop),Inv X pins σ H s->t σ H Q->wpAny (model X.prog X.w) X.A (isTrue e X.env whole) (TP X pins σ Q) X.xe s
def PW.pt{X:Cx}{e:Expr}{t:TT}(h:PW X e t):PT X e t:=h _
def PA(X:Cx)(es:List Expr)(t:TA):Prop:=
 ∀(pos:Pos)(pins:Z5)(s:PP)(σ:St)(H:Hp)(Q:List V->Hp->Prop),Inv X pins σ H s->t σ H Q->wpAny (model X.prog X.w) X.A (spliced (backTo pos (starEach es X.env))) (AP X pins σ Q) X.xe s
def PS(X:Cx)(st:Stmt)(t:TS):Prop:=
 ∀(pins:Z5)(s:PP)(σ:St)(H:Hp)(D:hZ),Inv X pins σ H s->t D σ H->wpAny (model X.prog X.w) X.A (exec st X.env) (SP X pins D) X.xe s
def PSs(X:Cx)(st:List Stmt)(t:TS):Prop:=
 ∀(pins:Z5)(s:PP)(σ:St)(H:Hp)(D:hZ),Inv X pins σ H s->t D σ H->wpAny (model X.prog X.w) X.A (execs st X.env) (SP X pins D) X.xe s
def bH{α:Type}{t:Sem α}{Q Q':α->PP->Prop}{M:Model}{A:Around}{E:ZB}{s:PP}(h:wpAny M A t Q E s)(hQ:∀a s,Q a s->Q' a s):wpAny M A t Q' E s:=wpAny_mono h hQ λ_ _ x=>x
section
variable {X:Cx}
def bin{a b:Expr}{ta tb:TE}(ha:PE X a ta)(hb:PE X b tb){pins:Z5}{s:PP}{σ:St}{H:Hp}{R:V->V->Hp->Prop}(I:Inv X pins σ H s)(h:ta σ H λx H1=>tb σ H1 λy H2=>R x y H2){α:Type}{Q:α->PP->Prop}{f:S6->S6->Sem α}(hf:∀v u s2 x y H2,Inv X pins σ H2 s2->RelV x v->RelV y u->R x y H2->wpAny (model X.prog X.w) X.A (f v u) Q X.xe s2) :
  wpAny (model X.prog X.w) X.A (eval a X.env) (λv s₁=>wpAny (model X.prog X.w) X.A (eval b X.env) (λu s₂=>wpAny (model X.prog X.w) X.A (f v u) Q X.xe s₂) X.xe s₁) X.xe s:=by
 refine bH (ha pins s σ H _ I h) ?_;rintro v s1 ⟨x,H1,I1,r1,q1⟩;refine bH (hb pins s1 σ H1 _ I1 q1) ?_;rintro u s2 ⟨y,H2,I2,r2,q2⟩;exact hf v u s2 x y H2 I2 r1 r2 q2
def Si(i:Nat):TE:=λσ H Q=>∃v,σ[i]?=some (some v)/\Q v H
def tC(v:V):TE:=λ_ H Q=>Q v H
def Sj{i:Nat}{x:Str}{pos:Pos}(hN:X.N[i]?=some x)(hv:Wt X.env.scope x)(hd:(x==("__debug__":Str))=false:=by decide)(yq:(x==("__classdict__":Str))=false:=by decide):PE X (.Name x pos) (Si i):=by
 intro pins s σ H Q I h;obtain⟨v,e,h⟩:=h;obtain⟨m,hn,hl⟩:=I.loc;obtain⟨u,r,l⟩:=hl i x v hN e hv;have fin:EP X pins σ Q u s:=⟨v,H,I,r,h⟩;rcases l with⟨hk,hm⟩|⟨hk,c,hc,uq⟩
 ·exact wpAny_Name (wpAny_loadName_local I.ok.kind hk hn hm fin) hd
 ·rcases hk with hk|hk
  ·exact wpAny_Name (wpAny_loadName_cell I.ok.kind hk hc uq fin) hd
  ·exact wpAny_Name (wpAny_loadName_free I.ok.kind hk hc uq fin yq) hd
def Sk{i j pos}:PE X (.Constant (.int i) j pos) (tC (.int i)):=λ_ _ _ H _ I h=>wpAny_Constant_int ⟨.int i,H,I.tok _,⟨_,rfl⟩,h⟩
def Wu{b j pos}:PE X (.Constant (.bool b) j pos) (tC (.bl b)):=λ_ _ _ H _ I h=>Constant_bool ⟨.bl b,H,I,rfl,h⟩
def Sl{j pos}:PE X (.Constant .none j pos) (tC .non):=λ_ _ _ H _ I h=>Constant_none ⟨.non,H,I,rfl,h⟩
def Sm{x j pos}:PE X (.Constant (.str x) j pos) (tC (.str x)):=λ_ _ _ H _ I h=>Calls.Constant_str ⟨.str x,H,I.tok _,⟨_,rfl⟩,h⟩
def Gl(X:Cx)(x:Str):Prop:=X.env.kindOf x=some .globalImplicit
def pP{E:ZB}{pins:Z5}{s:PP}{σ:St}{H:Hp}{x:Str}{u:S6}{pos:Pos}{Q:ZB}(I:Inv X pins σ H s)(hg:Gl X x)(hm:X.mg x=some u)(h:Q u s)(hd:(x==("__debug__":Str))=false:=by decide):wpAny (model X.prog X.w) X.A (eval (.Name x pos) X.env) Q E s:=
 Calls.Name_function_global I.ok.kind hg (Calls.loadGlobal_global (by rw[I.ok.glob];exact I.mod.glob.keeps I.bk) hm h) hd
def pY{E:ZB}{pins:Z5}{s:PP}{σ:St}{H:Hp}{x:Str}{u:S6}{pos:Pos}{Q:ZB}(I:Inv X pins σ H s)(hg:Gl X x)(hm:X.mg x=none)(hv:bootBuiltins x=some u)(h:Q u s)(hn:x≠"__name__":=by decide)(hd:(x==("__debug__":Str))=false:=by decide):wpAny (model X.prog X.w) X.A (eval (.Name x pos) X.env) Q E s:=by
 obtain⟨mb,h1,h2⟩:=I.mod.blt;exact Calls.Name_function_global I.ok.kind hg (Calls.loadGlobal_builtin (by rw[I.ok.glob];exact I.mod.glob.keeps I.bk) hm (by rw[I.ok.blt];exact h1.keeps I.bk) ((h2 x hn).trans hv) h) hd
def uQ{x:Str}{v:V}{u:S6}{pos:Pos}(hg:Gl X x)(hm:X.mg x=some u)(r:RelV v u)(hd:(x==("__debug__":Str))=false:=by decide):PE X (.Name x pos) (tC v):=
 λ_ _ _ H _ I h=>pP I hg hm ⟨v,H,I,r,h⟩ hd
def Mo{x:Str}{v:V}{u:S6}{pos:Pos}(hg:Gl X x)(hm:X.mg x=none)(hv:bootBuiltins x=some u)(r:RelV v u)(hn:x≠"__name__":=by decide)(hd:(x==("__debug__":Str))=false:=by decide):PE X (.Name x pos) (tC v):=
 λ_ _ _ H _ I h=>pY I hg hm hv ⟨v,H,I,r,h⟩ hn hd
variable {a b:Expr}{ta tb:TE}{pos:Pos}
def PC(X:Cx)(op:CmpOp)(a b:Expr)(t:TE):Prop:=
 ∀(pins:Z5)(s:PP)(σ:St)(H:Hp)(Q:VK),Inv X pins σ H s->t σ H Q →
  wpAny (model X.prog X.w) X.A (eval a X.env) (λv s₁=>wpAny (model X.prog X.w) X.A (eval b X.env) (λu s₂=>wpAny (model X.prog X.w) X.A (compareOp op v u) (EP X pins σ Q) X.xe s₂) X.xe s₁) X.xe s
def tB(t:TE):TT:=λσ H Q=>t σ H λx H1=>∃c,x=.bl c/\Q c H1
def aAh{op:CmpOp}{t:TE}(h:PC X op a b t)(h1:behindInMarks op b=false:=by first|exact NW _ Zd Zd|rfl):PT X (.Compare a [op] [b] pos) (tB t):=by
 intro pins s σ H Q I hw;refine wpAny_isTrue_Compare1 (bH (h pins s σ H _ I hw) λv s1 h1=>bH h1 λu s2 h2=>bH h2 ?_) h1;rintro c s3 ⟨x,H1,I1,r1,q1⟩;obtain⟨d,rfl,q⟩:=q1;cases r1;exact wpAny_truthy_bool ⟨H1,I1,q⟩
def Sn{e:Expr}{t:TE}(h:PE X e t)(he:∀whole,isTrue e X.env whole=(do let v←whole;standAt e.pos;holding [v] (truthy v)):=by intro _;rfl):PT X e (tB t):=by
 intro pins s σ H Q I hw;refine isTrue_plain (bH (h pins s σ H _ I hw) ?_) (he _);rintro v s1 ⟨x,H1,I1,r1,q1⟩;obtain⟨d,rfl,q⟩:=q1;cases r1;exact wpAny_truthy_bool ⟨H1,I1,q⟩
variable {tA HI:TT}{rest:List Expr}
def Mp(t u:TT):TT:=λσ H Q=>t σ H λc H1=>if c=true then u σ H1 Q else Q false H1
def tOr(t u:TT):TT:=λσ H Q=>t σ H λc H1=>if c=true then Q true H1 else u σ H1 Q
def Wv(t:TT):TT:=λσ H Q=>t σ H λc H1=>Q (!c) H1
def Mq(ha:PT X a tA):PW X (.BoolOp .And [a] pos) tA:=by
 intro wh pins s σ H Q I h;refine isTrue_and (bH (ha pins s σ H Q I h) λc s1 e=>?_)
 cases c with
 | true=>exact isTrue_and_nil e
 | false=>exact e
def So(ha:PT X a tA):PW X (.BoolOp .Or [a] pos) tA:=by
 intro wh pins s σ H Q I h;refine isTrue_or (bH (ha pins s σ H Q I h) λc s1 e=>?_)
 cases c with
 | false=>exact isTrue_or_nil e
 | true=>exact e
def Sq(ha:PT X a tA)(hb:PW X (.BoolOp .And (b::rest) pos) HI):PW X (.BoolOp .And (a::b::rest) pos) (Mp tA HI):=by
 intro wh pins s σ H Q I h;refine isTrue_and (bH (ha pins s σ H _ I h) ?_);rintro c s1 ⟨H1,I1,q1⟩
 cases c with
 | true=>exact hb wh pins s1 σ H1 Q I1 q1
 | false=>exact⟨H1,I1,q1⟩
def Ww(ha:PT X a tA)(hb:PW X (.BoolOp .Or (b::rest) pos) HI):PW X (.BoolOp .Or (a::b::rest) pos) (tOr tA HI):=by
 intro wh pins s σ H Q I h;refine isTrue_or (bH (ha pins s σ H _ I h) ?_);rintro c s1 ⟨H1,I1,q1⟩
 cases c with
 | true=>exact⟨H1,I1,q1⟩
 | false=>exact hb wh pins s1 σ H1 Q I1 q1
def Sr(ha:PT X a tA):PT X (.UnaryOp .Not a pos) (Wv tA):=by
 intro pins s σ H Q I h;exact isTrue_not (ha pins s σ H (λc H1=>Q (!c) H1) I h)
def Gp(ta tb:TE):TE:=λσ H Q=>ta σ H λx H1=>∃c,x=.bl c/\if c=true then tb σ H1 Q else Q (.bl false) H1
def Ss(ta tb:TE):TE:=λσ H Q=>ta σ H λx H1=>∃c,x=.bl c/\if c=true then Q (.bl true) H1 else tb σ H1 Q
def Gq(ta:TE):TE:=λσ H Q=>ta σ H λx H1=>∃c,x=.bl c/\Q (.bl (!c)) H1
def Su{op}{t:TE}(h:PE X a t):PE X (.BoolOp op [a] pos) t:=λpins s σ H Q I hw=>BoolOp_one (h pins s σ H Q I hw)
def Sv(ha:PE X a ta)(hb:PE X (.BoolOp .And (b::rest) pos) tb):PE X (.BoolOp .And (a::b::rest) pos) (Gp ta tb):=by
 intro pins s σ H Q I h;refine BoolOp_and (bH (ha pins s σ H _ I h) ?_);rintro v s1 ⟨x,H1,I1,r1,q1⟩;obtain⟨c,rfl,q1⟩:=q1;cases r1;refine wpAny_truthy_bool ?_
 cases c with
 | true=>exact hb pins s1 σ H1 Q I1 q1
 | false=>exact⟨.bl false,H1,I1,rfl,q1⟩
def Wx(ha:PE X a ta)(hb:PE X (.BoolOp .Or (b::rest) pos) tb):PE X (.BoolOp .Or (a::b::rest) pos) (Ss ta tb):=by
 intro pins s σ H Q I h;refine BoolOp_or (bH (ha pins s σ H _ I h) ?_);rintro v s1 ⟨x,H1,I1,r1,q1⟩;obtain⟨c,rfl,q1⟩:=q1;cases r1;refine wpAny_truthy_bool ?_
 cases c with
 | false=>exact hb pins s1 σ H1 Q I1 q1
 | true=>exact⟨.bl true,H1,I1,rfl,q1⟩
def Sw(ha:PE X a ta):PE X (.UnaryOp .Not a pos) (Gq ta):=by
 intro pins s σ H Q I h;refine UnaryOp_ (bH (ha pins s σ H _ I h) ?_);rintro v s1 ⟨x,H1,I1,r1,q1⟩;obtain⟨c,rfl,q1⟩:=q1;cases r1;exact not_of (wpAny_truthy_bool ⟨.bl (!c),H1,I1,rfl,q1⟩)
end
def SqL(K:W.Frag)(H:Hp)(a:TD)(xs:List V):Prop:=
 Rd H a (.lst xs)∨
  ∃(o:Obj)(its:Array Value)(n:Nat),K.lookup a=some o/\o.cls=.type "list"/\o.dict=none/\o.data=.seq its n/\its.size<=sizeLine/\Vals xs its.toList
def SqT(K:W.Frag)(H:Hp)(a:TD)(xs:List V):Prop:=
 Rd H a (.tup xs)∨
  ∃(o:Obj)(its:Array Value)(n:Nat),K.lookup a=some o/\o.cls=.type "tuple"/\o.data=.seq its n/\its.size<=sizeLine/\Vals xs its.toList
def aAi:S6->Option V
 | .none=>some .non
 | .bool b=>some (.bl b)
 | .int i _=>some (.int i)
 | .str x _=>some (.str x)
 | .bytes b _=>some (.byt b)
 | .float b _=>some (.flt b)
 | .ref a=>some (.ref a)
 | .type n=>some (.ty n)
 | _=>none
def RelV.abs{x:V}{u:S6}(r:RelV x u):aAi u=some x:=by
 cases x with
 | non=>cases r;rfl
 | bl _=>cases r;rfl
 | int _=>obtain⟨t,rfl⟩:=r;rfl
 | str _=>obtain⟨t,rfl⟩:=r;rfl
 | byt _=>obtain⟨t,rfl⟩:=r;rfl
 | flt _=>obtain⟨t,rfl⟩:=r;rfl
 | ref _=>cases r;rfl
 | ty _=>cases r;rfl
def RelV.inj{x y:V}{u:S6}(r:RelV x u)(q:RelV y u):x=y:=Option.some.inj (r.abs.symm.trans q.abs)
def Vals.inj:∀ {xs ys:List V}{us:List S6},Vals xs us->Vals ys us->xs=ys
 | _,_,_,.nil,.nil=>rfl
 | _,_,_,.cons r t,.cons r' t'=>by rw[r.inj r',Vals.inj t t']
section
variable {X:Cx}{pins:Z5}{σ:St}{H:Hp}{s:PP}{a:TD}{xs ys:List V}
def SqL.of{K:W.Frag}(h:H a=some (.lst xs)):SqL K H a xs:=.inl (.inl h)
def QZc:=@SqL.of
def SqT.of{K:W.Frag}(h:H a=some (.tup xs)):SqT K H a xs:=.inl (.inl h)
def QZd:=@SqT.of
def Inv.list(I:Inv X pins σ H s)(h:SqL X.K H a xs):∃its:List S6,Vals xs its/\PlainL s.heap a its.toArray/\xs.length<=sizeLine:=by
 rcases h with h|⟨o,its,n,hk,hc,hd,hs,hz,r⟩
 ·obtain⟨z,its,n,r,e⟩:=h.ok I.hok;exact⟨its,r,⟨_,n,e,rfl,rfl,rfl⟩,z⟩
 ·refine⟨its.toList,r,⟨o,n,I.kIn a o hk,hc,hd,by simpa using hs⟩,?_⟩;have e:=r.length;simp only [Array.length_toList]at e;omega
def Inv.tuple(I:Inv X pins σ H s)(h:SqT X.K H a xs):∃its:List S6,Vals xs its/\IsTup s.heap a its.toArray/\xs.length<=sizeLine:=by
 rcases h with h|⟨o,its,n,hk,hc,hs,hz,r⟩
 ·obtain⟨z,its,r,p⟩:=h.ok I.hok;exact⟨its,r,p,z⟩
 ·refine⟨its.toList,r,⟨o,I.kIn a o hk,hc,n,by simpa using hs⟩,?_⟩;have e:=r.length;simp only [Array.length_toList]at e;omega
def Inv.list_inj(I:Inv X pins σ H s)(h:SqL X.K H a xs)(h':SqL X.K H a ys):xs=ys:=by
 obtain⟨its,r,⟨o,n,e,_,_,d⟩,_⟩:=I.list h;obtain⟨its',r',⟨o',n',e',_,_,d'⟩,_⟩:=I.list h';rw[e]at e';cases e';rw[d]at d';injection d' with d1 _
 have:its=its':=by simpa using congrArg Array.toList d1
 subst this;exact r.inj r'
def Inv.tuple_inj(I:Inv X pins σ H s)(h:SqT X.K H a xs)(h':SqT X.K H a ys):xs=ys:=by
 obtain⟨its,r,⟨o,e,_,n,d⟩,_⟩:=I.tuple h;obtain⟨its',r',⟨o',e',_,n',d'⟩,_⟩:=I.tuple h';rw[e]at e';cases e';rw[d]at d';injection d' with d1 _
 have:its=its':=by simpa using congrArg Array.toList d1
 subst this;exact r.inj r'
end
abbrev Cx.wish(X:Cx)(E:ZB):Cx:={X with xe:=E }
abbrev Cx.nox(X:Cx):Cx:=X.wish λ_ _=>False
def Cx.Ok.wish{X:Cx}(ok:X.Ok)(E:ZB):(X.wish E).Ok:=
 ⟨ok.mod,ok.kind,ok.glob,ok.blt,ok.above,ok.inj,ok.has,ok.cab,ok.hd,ok.frames,ok.stk,ok.exf,ok.bs,ok.bsz,ok.noex,ok.exfs,ok.funs,ok.frf⟩
def Cx.Ok.unwish{X:Cx}{E:ZB}(ok:(X.wish E).Ok):X.Ok:=
 ⟨ok.mod,ok.kind,ok.glob,ok.blt,ok.above,ok.inj,ok.has,ok.cab,ok.hd,ok.frames,ok.stk,ok.exf,ok.bs,ok.bsz,ok.noex,ok.exfs,ok.funs,ok.frf⟩
section
variable {X:Cx}{pins:Z5}{σ:St}{H:Hp}{s:PP}{E:ZB}
def Inv.wish(I:Inv X pins σ H s)(E:ZB):Inv (X.wish E) pins σ H s:=⟨I.ok.wish E,I.os,I.bare,I.base,I.loc,I.cell,I.free,I.freeC,I.pin,I.hok,I.len⟩
def Inv.unwish(I:Inv (X.wish E) pins σ H s):Inv X pins σ H s:=⟨I.ok.unwish,I.os,I.bare,I.base,I.loc,I.cell,I.free,I.freeC,I.pin,I.hok,I.len⟩
def SP.unwish{D:hZ}{f:Flow}{s':PP}(h:SP (X.wish E) pins D f s'):SP X pins D f s':=by
 cases f with
 | next=>obtain⟨σ',H',I,q⟩:=h;exact⟨σ',H',I.unwish,q⟩
 | brk=>obtain⟨σ',H',I,q⟩:=h;exact⟨σ',H',I.unwish,q⟩
 | cont=>obtain⟨σ',H',I,q⟩:=h;exact⟨σ',H',I.unwish,q⟩
 | ret u=>obtain⟨v,σ',H',I,r,q⟩:=h;exact⟨v,σ',H',I.unwish,r,q⟩
def PSs.nox{st:List Stmt}{t:TS}(h:PSs X.nox st t):PSs X st t:=λpins s σ H D I hw=>
 wpAny_mono (h pins s σ H D (I.wish _) hw) (λ_ _ q=>q.unwish) λ_ _ z=>False.elim z
end
section
variable {X:Cx}{st:Stmt}{rest:List Stmt}{t u:TS}{e:Expr}{te:TE}{pos:Pos}
def cK:TS:=λD σ H=>D.nx σ H
def Gr(t u:TS):TS:=λD σ H=>t {D with nx:=u D } σ H
def Mr:PSs X [] cK:=λ_ _ σ H _ I h=>wpAny_execs_nil ⟨σ,H,I,h⟩
def Gs(h1:PS X st t)(h2:PSs X rest u):PSs X (st::rest) (Gr t u):=by
 intro pins s σ H D I h;refine wpAny_execs_cons (bH (h1 pins s σ H {D with nx:=u D } I h) λf s1 q=>?_)
 cases f with
 | next=>
  obtain⟨σ',H',I',q⟩:=q;exact h2 pins s1 σ' H' D I' q
 | ret v=>exact q
 | brk=>exact q
 | cont=>exact q
def Ms(h1:PS X st t):PSs X [st] t:=by
 intro pins s σ H D I h;refine wpAny_execs_cons (bH (h1 pins s σ H D I h) λf s1 q=>?_)
 cases f with
 | next=>exact wpAny_execs_nil q
 | ret v=>exact q
 | brk=>exact q
 | cont=>exact q
def Inv.quiet{pins:Z5}{σ:St}{H:Hp}{s:PP}(I:Inv X pins σ H s):interactive X.env=false:=by simp[interactive,I.ok.kind]
def Qt(te:TE):TS:=λD σ H=>te σ H λ_ H1=>D.nx σ H1
def Mt(he:PE X e te)(hs:swapsWith e none pos.line X.env=pure false:=by rfl):PS X (.Expr e pos) (Qt te):=by
 intro pins s σ H D I h;exact wpAny_Expr_any (bH (he pins s σ H _ I h) λv s1 ⟨x,H1,I1,r1,q1⟩=>⟨σ,H1,I1,q1⟩) I.quiet hs
def Wy(te:TE):TS:=λD σ H=>te σ H D.rt
def Sx(he:PE X e te):PS X (.Return (some e) pos) (Wy te):=by
 intro pins s σ H D I h;exact wpAny_Return_some (bH (he pins s σ H _ I h) λv s1 ⟨x,H1,I1,r1,q1⟩=>⟨x,σ,H1,I1,r1,q1⟩)
def Gu(c:TT)(t u:TS):TS:=λD σ H=>c σ H λb H1=>if b=true then t D σ H1 else u D σ H1
def Wz{c:Expr}{a b:List Stmt}{tc:TT}(hc:PT X c tc)(ha:PSs X a t)(hb:PSs X b u):PS X (.If c a b pos) (Gu tc t u):=by
 intro pins s σ H D I h;refine wpAny_If (bH (hc pins s σ H _ I h) ?_);rintro d s1 ⟨H1,I1,q1⟩
 cases d with
 | true=>exact ha pins s1 σ H1 D I1 q1
 | false=>exact hb pins s1 σ H1 D I1 q1
end
abbrev TG:=V->St->Hp->(St->Hp->Prop)->Prop
abbrev Ax:=List V->St->Hp->(St->Hp->Prop)->Prop
def PG(X:Cx)(target:Expr)(t:TG):Prop:=
 ∀(pins:Z5)(s:PP)(σ:St)(H:Hp)(v:V)(u:S6)(Q:St->Hp->Prop),Inv X pins σ H s->RelV v u->t v σ H Q →
  wpAny (model X.prog X.w) X.A (assign target X.env u) (λ_ s'=>∃ σ' H',Inv X pins σ' H' s'/\Q σ' H') X.xe s
def Xa(X:Cx)(ts:List Expr)(t:Ax):Prop:=
 ∀(pins:Z5)(s:PP)(σ:St)(H:Hp)(vs:List V)(us:List S6)(Q:St->Hp->Prop),Inv X pins σ H s->Vals vs us->t vs σ H Q →
  wpAny (model X.prog X.w) X.A (assignInOrder ((assignEach ts X.env).map (·.2)) us) (λ_ s'=>∃ σ' H',Inv X pins σ' H' s'/\Q σ' H') X.xe s
abbrev Ds:=V->V->V->Hp->(Hp->Prop)->Prop
def Mu(X:Cx)(t:Ds):Prop:=
 ∀(pins:Z5)(s:PP)(σ:St)(H:Hp)(o i v:V)(ov iv u:S6)(Q:Hp->Prop),Inv X pins σ H s->RelV o ov->RelV i iv->RelV v u->t o i v H Q →
  wpAny (model X.prog X.w) X.A (setItem ov iv u) (λ_ s'=>∃H',Inv X pins σ H' s'/\Q H') X.xe s
section
variable {X:Cx}{pos:Pos}
def aK(i:Nat):TG:=λv σ H Q=>Q (σ.set i (some v)) H
def Mw{i:Nat}{x:Str}(hN:X.N.Nodup)(hi:X.N[i]?=some x)(hx:Qs X.env.scope x)(hf:X.fn x=true∨X.env.scope.names.lookup x=some .local:=by first|exact .inl rfl|exact .inr rfl|assumption):PG X (.Name x pos) (aK i):=by
 intro pins s σ H v u Q I r h;exact wpAny_assign_Name (wU I hN hi hx r (λs' I'=>⟨_,H,I',h⟩) hf)
def Sy:Ax:=λvs σ H Q=>vs=[]/\Q σ H
def Gv(t:TG)(u:Ax):Ax:=λvs σ H Q=>∃v r,vs=v::r/\t v σ H λσ' H'=>u r σ' H' Q
def Mx:Xa X [] Sy:=by
 intro pins s σ H vs us Q I r h;obtain⟨e,h⟩:=h;subst e;cases r;exact assignInOrder_nil ⟨σ,H,I,h⟩
def Gx{e:Expr}{es:List Expr}{t:TG}{u:Ax}(h1:PG X e t)(h2:Xa X es u)(hs:(assignEach (e::es) X.env).map (·.2)=assign e X.env::(assignEach es X.env).map (·.2):=by rfl):Xa X (e::es) (Gv t u):=by
 intro pins s σ H vs us Q I r h;obtain⟨v,vr,e1,h⟩:=h;subst e1;cases r with
 | cons r rr=>
  rw[hs];refine assignInOrder_cons (bH (h1 pins s σ H _ _ _ I r h) ?_);rintro _ s1 ⟨σ1,H1,I1,q1⟩;exact h2 pins s1 σ1 H1 _ _ Q I1 rr q1
def Mz(K:W.Frag)(n:Nat)(t:Ax):TG:=λv σ H Q=>∃a xs,v=.ref a/\SqT K H a xs/\xs.length=n/\t xs σ H Q
def Sz{es:List Expr}{k:Nat}{t:Ax}{n:Nat}(hc:X.calm=true)(h:Xa X es t)(hn:(assignEach es X.env).length=n:=by rfl)(AF:(assignEach es X.env).findIdx? (·.1)=none:=by rfl):PG X (.Tuple es k pos) (Mz X.K n t):=by
 intro pins s σ H v u Q I r hw;obtain⟨a,xs,e1,hq,hl,hw⟩:=hw;subst e1;cases r;obtain⟨its,rv,ht,hz⟩:=I.tuple hq;refine assign_Tuple_tuple (I.ok.hd hc) ht (by simp[hn,<- hl,rv.length]) AF λh' hx=>?_;have I1:Inv X pins σ H {s with heap:=h' }:=I.kept (t':=s.toks) λb o e=>hx b o (ne_of_lt (Heap.lt_size e)) e
 exact h pins _ σ H xs _ Q I1 (by simpa using rv) hw
def Ta(to ti:TE)(t:Ds):TG:=λv σ H Q=>to σ H λo H1=>ti σ H1 λi H2=>t o i v H2 λH3=>Q σ H3
def Tb{o i:Expr}{to ti:TE}{t:Ds}(ho:PE X o to)(hi:PE X i ti)(hs:Mu X t)(ha:∀v,assign (.Subscript o i pos) X.env v=(do
   let ov←holding [v] (eval o X.env)
   let iv←holding [v,ov] (eval i X.env)
   standAt pos
   holding [v,ov,iv] (setItem ov iv v)
   release [v,ov,iv] []):=by intro _;rfl):PG X (.Subscript o i pos) (Ta to ti t):=by
 intro pins s σ H v u Q I r h;rw[ha];refine XV (wpAny_holding (bH (ho pins s σ H _ I h) ?_));rintro ov s1 ⟨x,H1,I1,r1,q1⟩;refine XV (wpAny_holding (bH (hi pins s1 σ H1 _ I1 q1) ?_));rintro iv s2 ⟨y,H2,I2,r2,q2⟩;refine XV (wpAny_standAt (XV (wpAny_holding (bH (hs pins s2 σ H2 x y v ov iv u _ I2 r1 r2 r q2) ?_))));rintro _ s3 ⟨H3,I3,q3⟩;exact wpAny_release ⟨σ,H3,I3,q3⟩
def Gy(te:TE)(g:TG):TS:=λD σ H=>te σ H λx H1=>g x σ H1 D.nx
def Tc{tg e:Expr}{te:TE}{g:TG}(he:PE X e te)(hg:PG X tg g)(hs:swapsWithSole [tg] e pos.line X.env=pure false:=by rfl)(hw:swappedStores [tg] e X.env=pure none:=by rfl)(h1:(assignEach [tg] X.env).map (·.2)=[assign tg X.env]:=by rfl):PS X (.Assign [tg] e pos) (Gy te g):=by
 intro pins s σ H D I h;refine wpAny_Assign_stores (bH (he pins s σ H _ I h) ?_) hs hw;rintro v s1 ⟨x,H1,I1,r1,q1⟩;rw[h1];exact bH (hg pins s1 σ H1 x v _ I1 r1 q1) λ_ s2 q=>q
def Td{i:Nat}{x:Str}{e:Expr}{te:TE}{pos':Pos}(hN:X.N.Nodup)(hi:X.N[i]?=some x)(hx:Qs X.env.scope x)(he:PE X e te)(hs:swapsWith e (some (.Name x pos')) pos.line X.env=pure false:=by rfl)(hf:X.fn x=true∨X.env.scope.names.lookup x=some .local:=by first|exact .inl rfl|exact .inr rfl|assumption) :
  PS X (.Assign [.Name x pos'] e pos) (Gy te (aK i)):=by
 intro pins s σ H D I h;refine wpAny_Assign_Name (bH (he pins s σ H _ I h) ?_) hs;rintro v s1 ⟨y,H1,I1,r1,q1⟩;exact wU I1 hN hi hx r1 (λs2 I2=>⟨_,H1,I2,q1⟩) hf
end
structure It where
 go:Nat->Hp->Prop
 yld:Nat->Hp->V->Hp->Prop
 stop:Nat->Hp->Prop
def nF(X:Cx)(pins:Z5)(H:Hp)(b:TD):Prop:=
 H b=none/\b≠X.env.locals/\b∉X.fs/\(b∈X.ex∨X.s₀.heap.objs.size<=b)/\(∀x c,X.env.cells.lookup x=some c->c≠b)/\∀p∈X.pn++pins,p.1≠b
def Inv.fpOk{X:Cx}{pins:Z5}{σ:St}{H H':Hp}{s:PP}{b:TD}(I:Inv X pins σ H s)(hb:s.heap.objs.size<=b)(hn:H' b=none):nF X pins H' b:=by
 refine⟨hn,ne_of_gt (FS I.lt hb),I.nofs hb,.inr (eS I.sz hb),λx c e z=>?_,λp hp z=>?_⟩
 ·obtain⟨v,q⟩:=I.cell x c e;exact IQ (FS q.lt (by rw[z];exact hb)) (lt_irrefl _)
 ·exact IQ (FS (Heap.lt_size (I.pin p hp).1) (by rw[z];exact hb)) (lt_irrefl _)
structure rM(P:Program)(w:World)(K:W.Frag)(tg:Expr)(J:It)(fp:List TD)(it:TD)(tn:Nat->Heap->Prop):Prop where
 mem:it∈fp
 obj:∀i h,tn i h->∀b∈fp,∃o,h.get? b=some o/\∀v,o.data≠.cell v
 keep:∀i h h',tn i h->(∀b∈fp,∀o,h.get? b=some o->h'.get? b=some o)->tn i h'
 item:∀(X:Cx),X.prog=P->X.w=w->X.K=K->X.calm=true->∀(i:Nat)(pins:Z5)(s:PP)(σ:St)(H:Hp)(E:ZB),Inv X pins σ H s->(∀b∈fp,nF X pins H b)->tn i s.heap->J.go i H →
  wpAny (model P w) X.A (pyNext (.ref it)) (λr s1=>∃u,r=some u ∧
   wpAny (model P w) X.A (letOwnedTupleGo tg (.ref it) u) (λ_ s2=>∃x H',Inv X pins σ H' s2/\RelV x u/\J.yld i H x H'/\tn (i+1) s2.heap/\∀b∈fp,H' b=none) E s1) E s
 done:∀(X:Cx),X.prog=P->X.w=w->X.K=K->X.calm=true->∀(i:Nat)(pins:Z5)(s:PP)(σ:St)(H:Hp)(E:ZB),Inv X pins σ H s->(∀b∈fp,nF X pins H b)->tn i s.heap->J.stop i H →
  wpAny (model P w) X.A (pyNext (.ref it)) (λr s1=>r=none/\Inv X pins σ H s1) E s
 self:∀(A:Around)(i:Nat)(s:PP)(Q:ZB)(E:ZB),tn i s.heap->Q (.ref it) s->wpAny (model P w) A (pyIter (.ref it)) Q E s
abbrev TI:=St->Hp->(It->Hp->Prop)->Prop
def PIE(X:Cx)(pins:Z5)(σ:St)(tg:Expr)(R:It->Hp->Prop)(TB:S6)(s2:PP):Prop:=
 ∃(it:TD)(fp:List TD)(tn:Nat->Heap->Prop)(J:It)(H':Hp),TB=.ref it/\Inv X pins σ H' s2/\rM X.prog X.w X.K tg J fp it tn/\tn 0 s2.heap/\(∀b∈fp,nF X pins H' b)/\R J H'
def PI(X:Cx)(tg iter:Expr)(wi:TI):Prop:=
 ∀(pins:Z5)(s:PP)(σ:St)(H:Hp)(R:It->Hp->Prop),Inv X pins σ H s->wi σ H R →
  wpAny (model X.prog X.w) X.A (eval iter X.env) (λv s1=>wpAny (model X.prog X.w) X.A (pyIter v) (PIE X pins σ tg R) X.xe s1) X.xe s
def sM{M:Model}{A:Around}{E:ZB}{s:PP}{tg:Expr}{it:TD}{u:S6}{o:Obj}{n:String}{vs:Array Value}{Q:Unit->PP->Prop}(ho:s.heap.get? it=some o)(hc:o.cls=.type n)(hd:o.data=.fields vs)(hn:["enumerate","zip","dict_itemiterator","dict_reverseitemiterator","odict_iterator","itertools.zip_longest","itertools.pairwise"].contains n=false)(hQ:Q () s):wpAny M A (letOwnedTupleGo tg (.ref it) u) Q E s:=by
  unfold letOwnedTupleGo;cases tg<;>first
    | exact W1 hQ
    | (cases u <;> first
        | exact W1 hQ
        | (refine XV (wpAny_load ho ?_)
           rw[hc,hd];show wpAny M A (if (["enumerate","zip","dict_itemiterator","dict_reverseitemiterator","odict_iterator","itertools.zip_longest","itertools.pairwise"].contains n&&vs[0]? == some (rawInt _))=true then _ else _) Q E s;rw[IS (by intro h;rw[hn,Bool.false_and]at h;cases h)];exact W1 hQ))
def Te(K:W.Frag)(a:TD):It:=
 ⟨λi H=>∃xs x,SqL K H a xs/\xs[i]?=some x,λi H x H'=>H'=H/\∀xs,SqL K H a xs->xs[i]?=some x,λi H=>∃xs,SqL K H a xs/\xs.length<=i⟩
def Itt(K:W.Frag)(a:TD):It:=
 ⟨λi H=>∃xs x,SqT K H a xs/\xs[i]?=some x,λi H x H'=>H'=H/\∀xs,SqT K H a xs->xs[i]?=some x,λi H=>∃xs,SqT K H a xs/\xs.length<=i⟩
def Zu(lo:Int)(n:Nat):It:=⟨λi _=>i<n,λi H x H'=>H'=H/\x=.int (lo+i),λi _=>n<=i⟩
def Dt{P:Program}{w:World}{K:W.Frag}{tg:Expr}(a it:TD):rM P w K tg (Te K a) [it] it (λi h=>h.IsListIter it a i) where
 mem:=by simp
 obj:=λi h st b hb=>by
  have e:b=it:=by simpa using hb
  subst e;obtain⟨o,e,c,d⟩:=st;exact⟨o,e,λv z=>by rw[d]at z;cases z⟩
 keep:=λi h h' st k=>st.at λo e=>k it Zs o e
 item:=by
  intro X hP hw hK hc i pins s σ H E I hf st hg;subst hP hw hK;obtain⟨xs,x,hq,hx⟩:=hg;obtain⟨its,rv,p,hz⟩:=I.list hq;obtain⟨u,hu,ru⟩:=rv.get hx;obtain⟨f0,f1,f2,f3,f4,f5⟩:=hf it Zs;refine wpAny_pyNext_list_item st p.isList (x:=u) (by simpa using hu) λh' ni sb=>?_;have I1:Inv X pins σ H {s with heap:=h' }:=I.turned (t':=s.toks) (λb o hb e=>(sb.2 b hb).trans e) f0 f1 f3 f4 f5;obtain⟨o,e,c,d⟩:=id ni;exact⟨u,rfl,sM (s:={s with heap:=h' }) e c d Zd ⟨x,H,I1,ru,⟨rfl,λys hy=>by rw[I.list_inj hy hq];exact hx⟩,ni,λb hb=>(hf b hb).1⟩⟩
 done:=by
  intro X hP hw hK hc i pins s σ H E I hf st hg;subst hP hw hK;obtain⟨xs,hq,hx⟩:=hg;obtain⟨its,rv,p,hz⟩:=I.list hq;obtain⟨f0,f1,f2,f3,f4,f5⟩:=hf it Zs;have hl:=rv.length;exact wpAny_pyNext_list_end (I.ok.hd hc) st p.isList (by simp;omega) λh' eb=>⟨rfl,I.turned (t':=s.toks) (λb o hb e=>eb b o hb e) f0 f1 f3 f4 f5⟩
 self:=λ_ _ _ _ _ st h=>wpAny_pyIter_listiter st h
def zB{P:Program}{w:World}{K:W.Frag}{tg:Expr}(a it:TD):rM P w K tg (Itt K a) [it] it (λi h=>h.IsTupleIter it a i) where
 mem:=by simp
 obj:=λi h st b hb=>by
  have e:b=it:=by simpa using hb
  subst e;obtain⟨o,e,c,d⟩:=st;exact⟨o,e,λv z=>by rw[d]at z;cases z⟩
 keep:=λi h h' st k=>st.at λo e=>k it Zs o e
 item:=by
  intro X hP hw hK hc i pins s σ H E I hf st hg;subst hP hw hK;obtain⟨xs,x,hq,hx⟩:=hg;obtain⟨its,rv,p,hz⟩:=I.tuple hq;obtain⟨u,hu,ru⟩:=rv.get hx;obtain⟨f0,f1,f2,f3,f4,f5⟩:=hf it Zs;refine wpAny_pyNext_tuple_item st (show s.heap.IsTuple a its.toArray from p) (x:=u) (by simpa using hu) λh' ni sb=>?_;have I1:Inv X pins σ H {s with heap:=h' }:=I.turned (t':=s.toks) (λb o hb e=>(sb.2 b hb).trans e) f0 f1 f3 f4 f5;obtain⟨o,e,c,d⟩:=id ni;exact⟨u,rfl,sM (s:={s with heap:=h' }) e c d Zd ⟨x,H,I1,ru,⟨rfl,λys hy=>by rw[I.tuple_inj hy hq];exact hx⟩,ni,λb hb=>(hf b hb).1⟩⟩
 done:=by
  intro X hP hw hK hc i pins s σ H E I hf st hg;subst hP hw hK;obtain⟨xs,hq,hx⟩:=hg;obtain⟨its,rv,p,hz⟩:=I.tuple hq;obtain⟨f0,f1,f2,f3,f4,f5⟩:=hf it Zs;have hl:=rv.length;exact wpAny_pyNext_tuple_end (I.ok.hd hc) st (show s.heap.IsTuple a its.toArray from p) (by simp;omega) λh' eb=>⟨rfl,I.turned (t':=s.toks) (λb o hb e=>eb b o hb e) f0 f1 f3 f4 f5⟩
 self:=λ_ _ _ _ _ st h=>wpAny_pyIter_tupleiter st h
def zC{P:Program}{w:World}{K:W.Frag}{tg:Expr}(it:TD)(lo:Int)(n:Nat):rM P w K tg (Zu lo n) [it] it (λi h=>IsRangeIter h it (lo+(i:Nat)*1) ((n:Int)-(i:Nat)) 1) where
 mem:=by simp
 obj:=λi h st b hb=>by
  have e:b=it:=by simpa using hb
  subst e;exact⟨_,st,λv z=>by
   have z':Data.fields _=Data.cell v:=z;cases z'⟩
 keep:=λi h h' st k=>k it Zs _ st
 item:=by
  intro X hP hw hK hc i pins s σ H E I hf st hg;subst hP hw hK;obtain⟨f0,f1,f2,f3,f4,f5⟩:=hf it Zs;have W:=Walks.range (prog:=X.prog) (w:=X.w) (I.ok.hd hc) it lo 1 n;refine W.item i s _ _ hg st λv h' tk hv ni kk=>?_;obtain⟨t,rfl⟩:=hv;have I1:Inv X pins σ H {s with heap:=h',toks:=tk }:=I.turned (λb o hb e=>kk b o (by simpa using hb) e) f0 f1 f3 f4 f5;refine⟨_,rfl,sM (s:={s with heap:=h',toks:=tk }) (n:="range_iterator") ni rfl rfl Zd ⟨.int (lo+i),H,I1,⟨t,?_⟩,⟨rfl,rfl⟩,ni,λb hb=>(hf b hb).1⟩⟩;rw[Int.mul_one]
 done:=by
  intro X hP hw hK hc i pins s σ H E I hf st hg;subst hP hw hK;obtain⟨f0,f1,f2,f3,f4,f5⟩:=hf it Zs;exact wpAny_pyNext_range_end (I.ok.hd hc) st (by have:n<=i:=hg;omega) λh' eb=>⟨rfl,I.turned (t':=s.toks) (λb o hb e=>eb b o hb e) f0 f1 f3 f4 f5⟩
 self:=λ_ _ _ _ _ st h=>wpAny_pyIter_rangeiter st h
section
variable {X:Cx}{tg:Expr}
def Gz(K:W.Frag)(tl:TE):TI:=λσ H R=>tl σ H λx H1=>∃a,x=.ref a/\(∃xs,SqL K H1 a xs)/\R (Te K a) H1
def Tf(K:W.Frag)(tl:TE):TI:=λσ H R=>tl σ H λx H1=>∃a,x=.ref a/\(∃xs,SqT K H1 a xs)/\R (Itt K a) H1
def Na{l:Expr}{tl:TE}(hl:PE X l tl):PI X tg l (Gz X.K tl):=by
 intro pins s σ H R I h;refine bH (hl pins s σ H _ I h) ?_;rintro v s1 ⟨x,H1,I1,r1,q1⟩
 obtain⟨a,e,⟨xs,hq⟩,q⟩:=q1;subst e;cases r1;obtain⟨its,rv,p,hz⟩:=I1.list hq;refine wpAny_pyIter_list p.isList ?_;refine⟨s1.heap.objs.size,[s1.heap.objs.size],_,_,H1,rfl,I1.kept (t':=s1.toks) λb o e=>gU _ e,Dt a _,⟨_,TW _ rfl,rfl,rfl⟩,λb hb=>?_,q⟩;have e:b=s1.heap.objs.size:=by simpa using hb
 subst e;exact I1.fpOk (bZ _) (I1.hok.fresh (bZ _))
def Tg{l:Expr}{tl:TE}(hl:PE X l tl):PI X tg l (Tf X.K tl):=by
 intro pins s σ H R I h;refine bH (hl pins s σ H _ I h) ?_;rintro v s1 ⟨x,H1,I1,r1,q1⟩
 obtain⟨a,e,⟨xs,hq⟩,q⟩:=q1;subst e;cases r1;obtain⟨its,rv,p,hz⟩:=I1.tuple hq;refine wpAny_pyIter_tuple (show s1.heap.IsTuple a its.toArray from p) ?_;refine⟨s1.heap.objs.size,[s1.heap.objs.size],_,_,H1,rfl,I1.kept (t':=s1.toks) λb o e=>gU _ e,zB a _,⟨_,TW _ rfl,rfl,rfl⟩,λb hb=>?_,q⟩;have e:b=s1.heap.objs.size:=by simpa using hb
 subst e;exact I1.fpOk (bZ _) (I1.hok.fresh (bZ _))
def Ha{pins:Z5}{σ:St}{H:Hp}{s:PP}{R:It->Hp->Prop}{E:ZB}{lo hi:Int}{t u v:Tok}{tk:Nat}(I:Inv X pins σ H s)(h1:-(2^62)<=lo)(h2:lo<2^62)(h3:-(2^62)<=hi)(h4:hi<2^62)(q:R (Zu lo (hi-lo).toNat) H):wpAny (model X.prog X.w) X.A (pyIter (.ref s.heap.objs.size)) (PIE X pins σ tg R) E {s with heap:=s.heap.push {cls:=.type "range",data:=.fields #[.int lo t,.int hi u,.int 1 v] },toks:=tk }:=by
 refine wpAny_pyIter_range (IsRange.new ..) (small_one h1 h2 h3 h4) ?_;have I1:Inv X pins σ H {s with heap:=s.heap.push {cls:=.type "range",data:=.fields #[.int lo t,.int hi u,.int 1 v] },toks:=tk }:=I.kept λb o e=>gU _ e
 refine⟨(s.heap.push {cls:=.type "range",data:=.fields #[.int lo t,.int hi u,.int 1 v] }).objs.size,[(s.heap.push {cls:=.type "range",data:=.fields #[.int lo t,.int hi u,.int 1 v] }).objs.size],_,_,H,rfl,
  I1.kept (t':=tk) λb o e=>gU _ e,zC _ lo (hi - lo).toNat,?_,λb hb=>?_,q⟩
 ·have e1:lo+((0:Nat):Int)*1=lo:=by simp
  have e2:(((hi-lo).toNat:Nat):Int)-((0:Nat):Int)=Builtin.Range.rangeSize lo hi 1:=by rw[rangeSize_one];split<;>omega
  show IsRangeIter _ _ (lo+((0:Nat):Int)*1) ((((hi-lo).toNat:Nat):Int)-((0:Nat):Int)) 1;rw[e1,e2];exact TW _ rfl
 ·have e:b=(s.heap.push {cls:=.type "range",data:=.fields #[.int lo t,.int hi u,.int 1 v] }).objs.size:=by simpa using hb
  subst e;exact I1.fpOk (bZ _) (I1.hok.fresh (bZ _))
def Qu(ta:TA):TI:=λσ H R=>ta σ H λvs H1=>∃j:Int,vs=[.int j]/\-(2^62)<=j/\j<2^62/\R (Zu 0 j.toNat) H1
def Du{a:Expr}{ta:TA}{p pos:Pos}(hg:Gl X "range")(hm:X.mg "range"=none)(ha:PA X [a] ta)(hs:starEach [a] X.env=[(false,eval a X.env)]:=by rfl):PI X tg (.Call (.Name "range" p) [a] [] pos) (Qu ta):=by
 intro pins s σ H R I h;refine Call_ (pY I hg hm boot_range (PyProof.Rows.callWith_type1 (bH (ha pos pins s σ H _ I h) ?_) hs rfl));rintro us s1 ⟨vs,H1,I1,r1,q1⟩;obtain⟨j,e,q1,q2,q⟩:=q1;subst e;cases r1 with
 | cons r rr=>
  cases rr;obtain⟨t,rfl⟩:=r;exact call_range_1 (Ha I1 Zo Zo q1 q2 (by simpa using q))
def Xb(wi:TI)(g:TG)(tb:TS):TS:=λD σ H=>wi σ H λJ H1=>∃W:Nat->Nat->St->Hp->Prop,(∃m,W 0 m σ H1)/\∀i m σ H,W i m σ H →
 (J.stop i H/\D.nx σ H)∨(J.go i H/\∃N:St->Hp->Prop,(∀ σ' H',N σ' H'->∃m',m'<m/\W (i+1) m' σ' H')/\∀x H',J.yld i H x H'->g x σ H' λσ2 H2=>tb {D with nx:=N,ct:=N,bk:=D.nx } σ2 H2)
def pZ(fp:List TD)(h:Heap):List (TD×Obj):=fp.filterMap λb=>(h.get? b).map λo=>(b,o)
def iN{fp:List TD}{h:Heap}{b:TD}{o:Obj}(hb:b∈fp)(e:h.get? b=some o):(b,o)∈pZ fp h:=List.mem_filterMap.mpr ⟨b,hb,by rw[e];rfl⟩
def Dv{fp:List TD}{h:Heap}{p:TD×Obj}(hp:p∈pZ fp h):p.1∈fp/\h.get? p.1=some p.2:=by
 obtain⟨b,hb,e⟩:=List.mem_filterMap.mp hp
 cases q:h.get? b with
 | none=>rw[q]at e;cases e
 | some o=>
  rw[q]at e;have e':(b,o)=p:=Option.some.inj e;subst e';exact⟨hb,q⟩
def Inv.pinned{pins:Z5}{σ:St}{H:Hp}{s:PP}{fp:List TD}(I:Inv X pins σ H s)(hf:∀b∈fp,nF X pins H b)(ho:∀b∈fp,∃o,s.heap.get? b=some o/\∀v,o.data≠.cell v):Inv X (pins++pZ fp s.heap) σ H s:=
 I.pins_of λp hp=>(Zma.mp hp).elim (λz=>I.pin p (GS _ z)) λz=>by
  obtain⟨hb,e⟩:=Dv z;obtain⟨f0,f1,f2,_⟩:=hf p.1 hb;obtain⟨o,e',d⟩:=ho p.1 hb;rw[e]at e';cases e';exact⟨e,f0,f1,f2,d⟩
def Inv.unpinned{pins pl:Z5}{σ:St}{H:Hp}{s:PP}(I:Inv X (pins++pl) σ H s):Inv X pins σ H s:=I.pins_of λp hp=>I.pin p (GS _ (IN _ hp))
def Ti{iter:Expr}{body:List Stmt}{wi:TI}{g:TG}{tb:TS}{pos:Pos}(hp:PassesOwn (model X.prog X.w) X.A X.env X.xe)(hc:X.calm=true)(hi:PI X tg iter wi)(hg:PG X tg g)(hb:PSs X body tb)(hs:∀x,foldedSetIterable iter X.env x=pure x:=by intro _;rfl):PS X (.For tg iter body [] pos) (Xb wi g tb):=by
 intro pins s σ H D I h;refine wpAny_For (bH (hi pins s σ H _ I h) λv s1 h1=>bH h1 λTB s2 h2=>?_) hs;obtain⟨it,fp,tn,J,H2,e,I2,T,HJ,f2,W,⟨m0,w0⟩,turn⟩:=h2;subst e;have JW:∀ {H':Hp},(∀b∈fp,H' b=none)->∀b∈fp,nF X pins H' b:=λhn b hb=>⟨hn b hb,(f2 b hb).2⟩
 refine codeAny_forLoop_any (λn s'=>∃i σ' H',Inv X pins σ' H' s'/\tn i s'.heap/\(∀b∈fp,H' b=none)/\W i n σ' H') ?_ m0 ⟨0,σ,H2,I2,HJ,λb hb=>(f2 b hb).1,w0⟩;rintro n s3 ⟨i,σ3,H3,I3,NX,IV,w3⟩;rcases turn i n σ3 H3 w3 with⟨stop,qn⟩|⟨go,N,hN,step⟩
 ·refine wpAny_passesOwn hp (bH (T.done X rfl rfl rfl hc i pins s3 σ3 H3 X.xe I3 (JW IV) NX stop) ?_);rintro r s4 ⟨hr,I4⟩;subst hr;exact wpAny_execs_nil ⟨σ3,H3,I4,qn⟩
 ·refine wpAny_passesOwn hp (bH (T.item X rfl rfl rfl hc i pins s3 σ3 H3 X.xe I3 (JW IV) NX go) ?_);rintro r s4 ⟨u,hr,h4⟩;subst hr;refine wpAny_passesOwn hp (bH h4 ?_);rintro _ s5 ⟨x,H5,I5,r5,y5,JX,VM⟩;have VN:=I5.pinned (JW VM) (T.obj _ _ JX);refine wpAny_passesOwn hp (bH (hg _ s5 σ3 H5 x u _ VN r5 (step x H5 y5)) ?_);rintro _ s6 ⟨σ6,H6,I6,q6⟩;refine wpAny_passesOwn hp (bH (hb _ s6 σ6 H6 _ I6 q6) λf s7 q7=>?_);have again:∀ {σ7:St}{H7:Hp},Inv X (pins++pZ fp s5.heap) σ7 H7 s7->N σ7 H7->∃m,m<n/\∃i σ' H',Inv X pins σ' H' s7/\tn i s7.heap/\(∀b∈fp,H' b=none)/\W i m σ' H':=λ{σ7 H7} I7 n7=>by
   obtain⟨m',hm,w7⟩:=hN σ7 H7 n7;refine⟨m',hm,i+1,σ7,H7,I7.unpinned,T.keep _ _ _ JX λb hb o e=>(I7.pin (b,o) (GS _ (GS _ (iN hb e)))).1,λb hb=>?_,w7⟩;obtain⟨o,e,d⟩:=T.obj _ _ JX b hb;exact(I7.pin (b,o) (GS _ (GS _ (iN hb e)))).2.1
  cases f with
  | next=>obtain⟨σ7,H7,I7,n7⟩:=q7;exact again I7 n7
  | cont=>obtain⟨σ7,H7,I7,n7⟩:=q7;exact again I7 n7
  | brk=>obtain⟨σ7,H7,I7,q7⟩:=q7;exact⟨σ7,H7,I7.unpinned,q7⟩
  | ret v=>obtain⟨x7,σ7,H7,I7,r7,q7⟩:=q7;exact⟨x7,σ7,H7,I7.unpinned,r7,q7⟩
end
abbrev R2:=V->V->Hp->VK->Prop
def OpR(X:Cx)(f:S6->S6->Sem Value)(r:R2):Prop:=
 ∀(pins:Z5)(s:PP)(σ:St)(H:Hp)(x y:V)(v u:S6)(Q:VK),Inv X pins σ H s->RelV x v->RelV y u->r x y H Q →
  wpAny (model X.prog X.w) X.A (f v u) (EP X pins σ Q) X.xe s
def UnR(X:Cx)(f:S6->Sem Value)(r:V->Hp->VK->Prop):Prop:=
 ∀(pins:Z5)(s:PP)(σ:St)(H:Hp)(x:V)(v:S6)(Q:VK),Inv X pins σ H s->RelV x v->r x H Q →
  wpAny (model X.prog X.w) X.A (f v) (EP X pins σ Q) X.xe s
def CallR(X:Cx)(f:S6)(r:List V->Hp->VK->Prop):Prop:=
 ∀(pins:Z5)(s:PP)(σ:St)(H:Hp)(xs:List V)(us:List S6)(Q:VK),Inv X pins σ H s->Vals xs us->r xs H Q →
  wpAny (model X.prog X.w) X.A (call f us) (EP X pins σ Q) X.xe s
def Hb(r:R2)(ta tb:TE):TE:=λσ H Q=>ta σ H λx H1=>tb σ H1 λy H2=>r x y H2 Q
def tUn(r:V->Hp->VK->Prop)(ta:TE):TE:=λσ H Q=>ta σ H λx H1=>r x H1 Q
def rI(C:Int->Int->Prop)(g:Int->Int->V):R2:=λx y H Q=>∃i j,x=.int i/\y=.int j/\C i j/\Q (g i j) H
def Nb(g:Int->Int->V):R2:=λx y H Q=>∃i j,x=.int i/\y=.int j/\Q (g i j) H
def rU(g:Int->V):V->Hp->VK->Prop:=λx H Q=>∃i,x=.int i/\Q (g i) H
section
variable {X:Cx}{a b c:Expr}{ta tb tc:TE}{pos:Pos}
def Tj(ha:PE X a ta)(hb:PE X b tb){pins:Z5}{s:PP}{σ:St}{H:Hp}{R:V->V->Hp->Prop}(I:Inv X pins σ H s)(h:ta σ H λx H1=>tb σ H1 λy H2=>R x y H2){Q:ZB}{f:S6->S6->Sem Value}(hf:∀v u s2 x y H2,Inv X pins σ H2 s2->RelV x v->RelV y u->R x y H2->wpAny (model X.prog X.w) X.A (f v u) Q X.xe s2) :
  wpAny (model X.prog X.w) X.A (eval a X.env) (λv s₁=>wpAny (model X.prog X.w) X.A (eval b X.env) (λu s₂=>wpAny (model X.prog X.w) X.A (f v u) Q X.xe s₂) X.xe s₁) X.xe s:=by
 refine bH (ha pins s σ H _ I h) ?_;rintro v s1 ⟨x,H1,I1,r1,q1⟩;refine bH (hb pins s1 σ H1 _ I1 q1) ?_;rintro u s2 ⟨y,H2,I2,r2,q2⟩;exact hf v u s2 x y H2 I2 r1 r2 q2
def Xc{op:Operator}{r:R2}(ho:OpR X (binaryOp op) r)(ha:PE X a ta)(hb:PE X b tb):PE X (.BinOp a op b pos) (Hb r ta tb):=by
 intro pins s σ H Q I h;exact wpAny_BinOp (Tj ha hb I h λv u s2 x y H2 I2 rx ry q=>ho pins s2 σ H2 x y v u Q I2 rx ry q)
def Xd{op:UnaryOp}{r:V->Hp->VK->Prop}(ho:UnR X (unaryOp op) r)(ha:PE X a ta):PE X (.UnaryOp op a pos) (tUn r ta):=by
 intro pins s σ H Q I h;exact UnaryOp_ (bH (ha pins s σ H _ I h) λv s1 ⟨x,H1,I1,r1,q1⟩=>ho pins s1 σ H1 x v Q I1 r1 q1)
def Zv{f:S6->S6->Sem Value}{C:Int->Int->Prop}{g:Int->Int->Int}(rule:∀(i j:Int)(t u:Tok)(s:PP)(Q:ZB)(E:ZB),C i j->Q (.int (g i j) s.toks) {s with toks:=s.toks+1 }->wpAny (model X.prog X.w) X.A (f (.int i t) (.int j u)) Q E s) :
  OpR X f (rI C λi j=>.int (g i j)):=by
 intro pins s σ H x y v u Q I rx ry h;obtain⟨i,j,rfl,rfl,hc,q⟩:=h;obtain⟨t,rfl⟩:=rx;obtain⟨t',rfl⟩:=ry;exact rule i j t t' s _ _ hc ⟨.int (g i j),H,I.tok _,⟨_,rfl⟩,q⟩
def Xe{f:S6->S6->Sem Value}{g:Int->Int->Int}(rule:∀(i j:Int)(t u:Tok)(s:PP)(Q:ZB)(E:ZB),Q (.int (g i j) s.toks) {s with toks:=s.toks+1 }->wpAny (model X.prog X.w) X.A (f (.int i t) (.int j u)) Q E s) :
  OpR X f (Nb λi j=>.int (g i j)):=by
 intro pins s σ H x y v u Q I rx ry h;obtain⟨i,j,rfl,rfl,q⟩:=h;obtain⟨t,rfl⟩:=rx;obtain⟨t',rfl⟩:=ry;exact rule i j t t' s _ _ ⟨.int (g i j),H,I.tok _,⟨_,rfl⟩,q⟩
def Nc{f:S6->S6->Sem Value}{g:Int->Int->Bool}(rule:∀(i j:Int)(t u:Tok)(s:PP)(Q:ZB)(E:ZB),Q (.bool (g i j)) s->wpAny (model X.prog X.w) X.A (f (.int i t) (.int j u)) Q E s) :
  OpR X f (Nb λi j=>.bl (g i j)):=by
 intro pins s σ H x y v u Q I rx ry h;obtain⟨i,j,rfl,rfl,q⟩:=h;obtain⟨t,rfl⟩:=rx;obtain⟨t',rfl⟩:=ry;exact rule i j t t' s _ _ ⟨.bl (g i j),H,I,rfl,q⟩
def Tk(i j:Int):Prop:=0<=j/\j<=1000000/\i.natAbs<2^64
def CMul(i j:Int):Prop:=(-(2^64)<i/\i<2^64)∨(-(2^64)<j/\j<2^64)
def CMul.ok{i j:Int}(h:CMul i j):IntMulOk i j:=by
 rcases h with⟨h1,h2⟩|⟨h1,h2⟩
 ·exact .of_left (intBits_le_64 h1 h2)
 ·exact .of_right (intBits_le_64 h1 h2)
def Tl:OpR X (binaryOp .Add) (Nb λi j=>.int (i+j)):=Xe λ_ _ _ _ _ _ _ q=>add_int q
def Tm:OpR X (binaryOp .Sub) (Nb λi j=>.int (i-j)):=Xe λ_ _ _ _ _ _ _ q=>sub_int q
def Tn:OpR X (binaryOp .Mult) (rI CMul λi j=>.int (i*j)):=Zv λ_ _ _ _ _ _ _ hc q=>mul_int q hc.ok
def To:OpR X (binaryOp .Mod) (rI (λ_ j=>0<j) λi j=>.int (i%j)):=Zv λi j _ _ _ _ _ hc q=>by
 have h1:(0:Int)<j:=hc;exact mod_int' Zo (by rw[Int.fmod_eq_emod_of_nonneg i Zo];exact q)
def Tp:OpR X (binaryOp .Pow) (rI Tk λi j=>.int (i^j.toNat)):=Zv λ_ _ _ _ _ _ _ hc q=>pow_int_small hc.1 hc.2.1 hc.2.2 q
def unI{f:S6->Sem Value}{g:Int->Int}(rule:∀(i:Int)(t:Tok)(s:PP)(Q:ZB)(E:ZB),Q (.int (g i) s.toks) {s with toks:=s.toks+1 }->wpAny (model X.prog X.w) X.A (f (.int i t)) Q E s) :
  UnR X f (rU λi=>.int (g i)):=by
 intro pins s σ H x v Q I rx h;obtain⟨i,rfl,q⟩:=h;obtain⟨t,rfl⟩:=rx;exact rule i t s _ _ ⟨.int (g i),H,I.tok _,⟨_,rfl⟩,q⟩
def Tq:UnR X (unaryOp .USub) (rU λi=>.int (-i)):=unI λ_ _ _ _ _ q=>neg_int q
end
def scal:V->V->Bool
 | .non,.non=>true|.non,.int _=>true|.int _,.non=>true|.non,.bl _=>true|.bl _,.non=>true|.non,.str _=>true|.str _,.non=>true
 | .int _,.int _=>true|.bl _,.bl _=>true|.str _,.str _=>true|.byt _,.byt _=>true
 | .int _,.str _=>true|.str _,.int _=>true|.bl _,.str _=>true|.str _,.bl _=>true
 | _,_=>false
def rEq:R2:=λx y H Q=>scal x y=true/\Q (.bl (decide (x=y))) H
def rNe:R2:=λx y H Q=>scal x y=true/\Q (.bl (!decide (x=y))) H
def Ay{i j:Int}:decide (V.int i=V.int j)=(i==j):=by
 rw[Bool.eq_iff_iff];simp
def Hc{i j:Bool}:decide (V.bl i=V.bl j)=(i==j):=by
 rw[Bool.eq_iff_iff];simp
def Az{i j:Str}:decide (V.str i=V.str j)=(i==j):=by
 rw[Bool.eq_iff_iff];simp
def Ba{i j:Array UInt8}:decide (V.byt i=V.byt j)=(i.toList==j.toList):=by
 rw[Bool.eq_iff_iff];cases i;cases j;simp
section
variable {X:Cx}{a b c:Expr}{ta tb tc:TE}{pos:Pos}
def aX{pins:Z5}{σ:St}{H:Hp}{s:PP}{Q:VK}{k k':Bool}(I:Inv X pins σ H s)(q:Q (.bl k) H)(e:k=k'):EP X pins σ Q (.bool k') s:=by
 subst e;exact⟨.bl k,H,I,rfl,q⟩
def Qv:OpR X (compareOp .Eq) rEq:=by
 intro pins s σ H x y v u Q I rx ry h;obtain⟨hs,q⟩:=h
 cases x with
 | non=>
  cases rx
  cases y with
  | non=>cases ry;exact PySem.EqNone.eq_none_none (aX I q Zs)
  | bl j=>cases ry;exact PySem.EqNone.eq_none_bool (aX I q Zs)
  | int j=>obtain⟨t',rfl⟩:=ry;exact PySem.EqNone.eq_none_int (aX I q Zs)
  | str j=>obtain⟨t',rfl⟩:=ry;exact PySem.EqNone.eq_none_str (aX I q Zs)
  | _=>exact IQ (show false=true from hs) WP
 | bl i=>
  cases rx
  cases y with
  | non=>cases ry;exact PySem.EqNone.eq_bool_none (aX I q Zs)
  | bl j=>cases ry;exact eq_bool (aX I q Hc)
  | str j=>obtain⟨t',rfl⟩:=ry;exact PySem.EqMixed.eq_bool_str (aX I q Zs)
  | _=>exact IQ (show false=true from hs) WP
 | int i=>
  obtain⟨t,rfl⟩:=rx
  cases y with
  | non=>cases ry;exact PySem.EqNone.eq_int_none (aX I q Zs)
  | int j=>obtain⟨t',rfl⟩:=ry;exact eq_int (aX I q Ay)
  | str j=>obtain⟨t',rfl⟩:=ry;exact PySem.EqMixed.eq_int_str (aX I q Zs)
  | _=>exact IQ (show false=true from hs) WP
 | str i=>
  obtain⟨t,rfl⟩:=rx
  cases y with
  | non=>cases ry;exact PySem.EqNone.eq_str_none (aX I q Zs)
  | bl j=>cases ry;exact PySem.EqMixed.eq_str_bool (aX I q Zs)
  | int j=>obtain⟨t',rfl⟩:=ry;exact PySem.EqMixed.eq_str_int (aX I q Zs)
  | str j=>obtain⟨t',rfl⟩:=ry;exact eq_str (aX I q Az)
  | _=>exact IQ (show false=true from hs) WP
 | byt i=>
  obtain⟨t,rfl⟩:=rx
  cases y with
  | byt j=>obtain⟨t',rfl⟩:=ry;exact W.eq_bytes (aX I q Ba)
  | _=>exact IQ (show false=true from hs) WP
 | _=>cases y<;>exact IQ (show false=true from hs) WP
def Qw:OpR X (compareOp .NotEq) rNe:=by
 intro pins s σ H x y v u Q I rx ry h;obtain⟨hs,q⟩:=h
 cases x with
 | non=>
  cases rx
  cases y with
  | non=>cases ry;exact PySem.EqNone.ne_none_none (aX I q Zs)
  | bl j=>cases ry;exact PySem.EqNone.ne_none_bool (aX I q Zs)
  | int j=>obtain⟨t',rfl⟩:=ry;exact PySem.EqNone.ne_none_int (aX I q Zs)
  | str j=>obtain⟨t',rfl⟩:=ry;exact PySem.EqNone.ne_none_str (aX I q Zs)
  | _=>exact IQ (show false=true from hs) WP
 | bl i=>
  cases rx
  cases y with
  | non=>cases ry;exact PySem.EqNone.ne_bool_none (aX I q Zs)
  | bl j=>cases ry;exact ne_bool (aX I q (congrArg not Hc))
  | str j=>obtain⟨t',rfl⟩:=ry;exact PySem.EqMixed.ne_bool_str (aX I q Zs)
  | _=>exact IQ (show false=true from hs) WP
 | int i=>
  obtain⟨t,rfl⟩:=rx
  cases y with
  | non=>cases ry;exact PySem.EqNone.ne_int_none (aX I q Zs)
  | int j=>obtain⟨t',rfl⟩:=ry;exact ne_int (aX I q (congrArg not Ay))
  | str j=>obtain⟨t',rfl⟩:=ry;exact PySem.EqMixed.ne_int_str (aX I q Zs)
  | _=>exact IQ (show false=true from hs) WP
 | str i=>
  obtain⟨t,rfl⟩:=rx
  cases y with
  | non=>cases ry;exact PySem.EqNone.ne_str_none (aX I q Zs)
  | bl j=>cases ry;exact PySem.EqMixed.ne_str_bool (aX I q Zs)
  | int j=>obtain⟨t',rfl⟩:=ry;exact PySem.EqMixed.ne_str_int (aX I q Zs)
  | str j=>obtain⟨t',rfl⟩:=ry;exact ne_str (aX I q (congrArg not Az))
  | _=>exact IQ (show false=true from hs) WP
 | byt i=>
  obtain⟨t,rfl⟩:=rx
  cases y with
  | byt j=>obtain⟨t',rfl⟩:=ry;exact W.ne_bytes (aX I q (congrArg not Ba))
  | _=>exact IQ (show false=true from hs) WP
 | _=>cases y<;>exact IQ (show false=true from hs) WP
def Xf:OpR X (compareOp .Lt) (Nb λi j=>.bl (decide (i<j))):=Nc λ_ _ _ _ _ _ _ q=>lt_int q
def Xg:OpR X (compareOp .LtE) (Nb λi j=>.bl (decide (i<=j))):=Nc λ_ _ _ _ _ _ _ q=>le_int q
def Xh:OpR X (compareOp .Gt) (Nb λi j=>.bl (decide (j<i))):=Nc λ_ _ _ _ _ _ _ q=>gt_int q
def Xi:OpR X (compareOp .GtE) (Nb λi j=>.bl (decide (j<=i))):=Nc λ_ _ _ _ _ _ _ q=>ge_int q
def Dw:OpR X (compareOp .In) (λx y H Q=>∃i j,x=.str i/\y=.str j/\Q (.bl (!(Builtin.Str.occurrences j i 0 j.length 1).isEmpty)) H):=by
 intro pins s σ H x y v u Q I rx ry h;obtain⟨i,j,rfl,rfl,q⟩:=h;obtain⟨t,rfl⟩:=rx;obtain⟨t',rfl⟩:=ry;exact in_str (aX I q rfl)
def Tr:OpR X (compareOp .Is) (λx y H Q=>y=.non/\Q (.bl (decide (x=.non))) H):=by
 intro pins s σ H x y v u Q I rx ry h;obtain⟨rfl,q⟩:=h;cases ry;refine is_none_gen (aX I q ?_);cases x<;>first
  | (cases rx;rfl)
  | (obtain⟨t,rfl⟩:=rx;rfl)
def Nd:OpR X (compareOp .IsNot) (λx y H Q=>y=.non/\Q (.bl (!decide (x=.non))) H):=by
 intro pins s σ H x y v u Q I rx ry h;obtain⟨rfl,q⟩:=h;cases ry;refine isnot_none_gen (aX I q ?_);cases x<;>first
  | (cases rx;rfl)
  | (obtain⟨t,rfl⟩:=rx;rfl)
def uR(b:Expr){op:CmpOp}(h:op≠.In:=by decide)(h2:op≠.NotIn:=by decide):behindInMarks op b=false:=by
 have e1:(op==CmpOp.In)=false:=by cases op<;>first|rfl|exact IQ rfl h
 have e2:(op==CmpOp.NotIn)=false:=by cases op<;>first|rfl|exact IQ rfl h2
 cases b<;>simp[behindInMarks,e1,e2]
def Nf{op:CmpOp}{r:R2}(ho:OpR X (compareOp op) r)(ha:PE X a ta)(hb:PE X b tb)(hm:behindInMarks op b=false):PE X (.Compare a [op] [b] pos) (Hb r ta tb):=by
 intro pins s σ H Q I h;exact wpAny_Compare1 (Tj ha hb I h λv u s2 x y H2 I2 rx ry q=>ho pins s2 σ H2 x y v u Q I2 rx ry q) hm
def Bb(t:TE):TT:=λσ H Q=>t σ H λx H'=>∃k,x=.bl k/\Q k H'
def Ng{op:CmpOp}{r:R2}(ho:OpR X (compareOp op) r)(ha:PE X a ta)(hb:PE X b tb)(hm:behindInMarks op b=false):PT X (.Compare a [op] [b] pos) (Bb (Hb r ta tb)):=by
 intro pins s σ H Q I h;refine wpAny_isTrue_Compare1 (bH (ha pins s σ H _ I h) λv s1 ⟨x,H1,I1,r1,q1⟩=>bH (hb pins s1 σ H1 _ I1 q1) λu s2 ⟨y,H2,I2,r2,q2⟩=>
  bH (ho pins s2 σ H2 x y v u _ I2 r1 r2 q2) λc s3 ⟨z,H3,I3,r3,k,e,q3⟩=>?_) hm
 subst e;cases r3;exact wpAny_truthy_bool ⟨H3,I3,q3⟩
def uS(r r':R2)(ta tb tc:TE):TE:=λσ H Q=>ta σ H λx H1=>tb σ H1 λy H2=>r x y H2 λz H3=>∃k,z=.bl k ∧
 (if k=true then tc σ H3 λw' H4=>r' y w' H4 Q else Q (.bl false) H3)
def Hd{op pw:CmpOp}{r r':R2}(ho:OpR X (compareOp op) r)(T1:OpR X (compareOp pw) r')(ha:PE X a ta)(hb:PE X b tb)(hc:PE X c tc)(hm:lastMarks [op,pw] [b,c]=false:=by with_unfolding_all rfl):PE X (.Compare a [op,pw] [b,c] pos) (uS r r' ta tb tc):=by
 intro pins s σ H Q I h;refine Compare_chain (bH (ha pins s σ H _ I h) λv s1 ⟨x,H1,I1,r1,q1⟩=>chain_link (bH (hb pins s1 σ H1 _ I1 q1) λu s2 ⟨y,H2,I2,r2,q2⟩=>
  bH (ho pins s2 σ H2 x y v u _ I2 r1 r2 q2) λd s3 ⟨z,H3,I3,r3,k,e,q3⟩=>?_)) hm
 subst e;cases r3;refine wpAny_truthy_bool ?_
 cases k with
 | false=>exact ite_ff ⟨.bl false,H3,I3,rfl,q3⟩
 | true=>exact ite_tt (chain_last (bH (hc pins s3 σ H3 _ I3 q3) λw' s4 ⟨z',H4,I4,r4,q4⟩=>T1 pins s4 σ H4 y z' u w' Q I4 r2 r4 q4))
def He{op pw:CmpOp}{r r':R2}(ho:OpR X (compareOp op) r)(T1:OpR X (compareOp pw) r')(ha:PE X a ta)(hb:PE X b tb)(hc:PE X c tc)(hm:lastMarks [op,pw] [b,c]=false:=by with_unfolding_all rfl):PT X (.Compare a [op,pw] [b,c] pos) (Bb (uS r r' ta tb tc)):=by
 intro pins s σ H Q I h;refine isTrue_chain (bH (ha pins s σ H _ I h) λv s1 ⟨x,H1,I1,r1,q1⟩=>test_link (bH (hb pins s1 σ H1 _ I1 q1) λu s2 ⟨y,H2,I2,r2,q2⟩=>
  bH (ho pins s2 σ H2 x y v u _ I2 r1 r2 q2) λd s3 ⟨z,H3,I3,r3,k,e,q3⟩=>?_)) hm
 subst e;cases r3;refine wpAny_truthy_bool ?_
 cases k with
 | false=>
  obtain⟨k',e',q'⟩:=q3;cases e';exact ite_ff ⟨H3,I3,q'⟩
 | true=>
  refine ite_tt (test_last (bH (hc pins s3 σ H3 _ I3 q3) λw' s4 ⟨z',H4,I4,r4,q4⟩=>bH (T1 pins s4 σ H4 y z' u w' _ I4 r2 r4 q4) ?_));rintro d' s5 ⟨z2,H5,I5,r5,k2,e2,q5⟩;subst e2;cases r5;exact wpAny_truthy_bool ⟨H5,I5,q5⟩
def nG:(sizeLine:Nat)<2^63:=by rw[sizeLine_eq];decide
def zD:OpR X (binaryOp .Add) (λx y H Q=>∃i j,x=.str i/\y=.str j/\i.length+j.length<=sizeLine/\Q (.str (i++j)) H):=by
 intro pins s σ H x y v u Q I rx ry h;obtain⟨i,j,rfl,rfl,hz,q⟩:=h;obtain⟨t,rfl⟩:=rx;obtain⟨t',rfl⟩:=ry;exact add_str (λt' tk=>⟨.str (i++j),H,I.tok _,⟨_,rfl⟩,q⟩) hz
def gL{x:V}{us:List S6}(r:Vals [x] us):∃u,us=[u]/\RelV x u:=by
 cases r with
 | cons r1 r2=>cases r2;exact⟨_,rfl,r1⟩
def Qx{x y:V}{us:List S6}(r:Vals [x,y] us):∃u w',us=[u,w']/\RelV x u/\RelV y w':=by
 cases r with
 | cons r1 r2=>
  cases r2 with
  | cons r3 r4=>cases r4;exact⟨_,_,rfl,r1,r3⟩
def Dx(hc:X.calm=true):CallR X (.builtin "max") (λxs H Q=>∃i j,xs=[.int i,.int j]/\Q (.int (if j>i then j else i)) H):=by
 intro pins s σ H xs us Q I r h;obtain⟨i,j,rfl,q⟩:=h;obtain⟨u,w',rfl,⟨t,rfl⟩,⟨t',rfl⟩⟩:=Qx r;refine max_two_ints (I.ok.hd hc) λh' tk k=>⟨_,H,I.kept k,?_,q⟩;by_cases hj:j>i
 ·rw[NE hj,NE hj];exact⟨_,rfl⟩
 ·rw[IS hj,IS hj];exact⟨_,rfl⟩
def Dy(hc:X.calm=true):CallR X (.builtin "min") (λxs H Q=>∃i j,xs=[.int i,.int j]/\Q (.int (if j<i then j else i)) H):=by
 intro pins s σ H xs us Q I r h;obtain⟨i,j,rfl,q⟩:=h;obtain⟨u,w',rfl,⟨t,rfl⟩,⟨t',rfl⟩⟩:=Qx r;refine min_two_ints (I.ok.hd hc) λh' tk k=>⟨_,H,I.kept k,?_,q⟩;by_cases hj:j<i
 ·rw[NE hj,NE hj];exact⟨_,rfl⟩
 ·rw[IS hj,IS hj];exact⟨_,rfl⟩
def uT:CallR X (.type "str") (λxs H Q=>∃i,xs=[.int i]/\i.natAbs.log2<1920/\Q (.str (toString i)) H):=by
 intro pins s σ H xs us Q I r h;obtain⟨i,rfl,hz,q⟩:=h;obtain⟨u,rfl,t,rfl⟩:=gL r;exact PySem.P.str_of_int hz ⟨.str _,H,I.tok _,⟨_,rfl⟩,q⟩
end
structure ObjM(h:Heap)(x dx C:TD)(mA:X7):Prop where
 obj:h.get? x=some (W.instObj C dx)
 ns:h.Ns1 dx mA
 ne:dx≠x
def Dz{h:Heap}{dx:TD}{mA:X7}(n:h.Ns1 dx mA):∃od,h.get? dx=some od/\∀name,W.lookIn name od=some (mA name):=by
 obtain⟨o,es,ep,ho,hd,hk,_,hm⟩:=n;refine⟨o,ho,λname=>?_⟩;have e:=hm name;unfold nsFind findBy at e;rw[<- Array.find?_toList]at e;unfold W.lookIn;rw[hd];dsimp only;split
 ·rename_i y q;rw[q]at e;exact congrArg some e
 ·rename_i q;rw[q]at e;have a:es.toList.any (·.refKey)=false:=by
   rw[List.any_eq_false];intro y hy;obtain⟨z,t,nq⟩:=hk y (Array.mem_toList_iff.mp hy);simp[DictEntry.refKey,nq]
  have a':¬ es.toList.any (·.refKey)=true:=by rw[a];exact WP
  rw[IS a'];exact congrArg some e
def ObjM.look{h:Heap}{x dx C:TD}{mA:X7}(I:ObjM h x dx C mA):∃od,W.InstAt h x (W.instObj C dx) C (some od)/\∀name,W.lookIn name od=some (mA name):=
 let ⟨od,ho,hl⟩:=Dz I.ns
 ⟨od,⟨I.obj,rfl,rfl,ho⟩,hl⟩
section
variable {prog:Program}{w:World}{A:Around}{E:ZB}{s:PP}{K:W.Frag}{x dx C f:TD}{mA:X7}{name:Str}{v:S6}
def Nh{expr:Bool}{Q:ZB}(X:K.In s.heap)(I:ObjM s.heap x dx C mA)(hg:W.plainGet K C name=true)(hh:W.hasDictIn K C=true)(ha:W.findIn K (.ref C) name=some none)(hv:mA name=some v)(IW:W.handedIn v=true)(h:Q v {s with toks:=s.toks+1 }) :
  wpAny (model prog w) A (getAttr (.ref x) name expr) Q E s:=by
 obtain⟨od,J,hl⟩:=I.look;exact W.get_value X J (W.plainGet_of hg).1 (W.findObj_own hh ha rfl (by rw[hl,hv])) IW h
def Hf{pl:Sem Bool}{Q:S6×List S6->PP->Prop}(X:K.In s.heap)(I:ObjM s.heap x dx C mA)(hg:W.plainGet K C name=true)(hf:W.findIn K (.ref C) name=some (some (.ref f)))(ht:W.isFn K (.ref f)=true)(hv:mA name=none)(h:Q (.ref f,[.ref x]) s) :
  wpAny (model prog w) A (getMethod (.ref x) name pl) Q E s:=by
 obtain⟨od,J,hl⟩:=I.look;exact W.method_fn X J (W.plainGet_of hg).1 (W.plainGet_of hg).2 hf (beq_iff_eq.mp ht) (by show(W.lookIn name od).map (·.isSome)=some false;rw[hl,hv];rfl) h
def Ni{ns:List Str}{Q:Unit->PP->Prop}(X:K.In s.heap)(I:ObjM s.heap x dx C mA)(hs:W.findIn K (.ref C) "__setattr__"=some (some (.builtin "object.__setattr__")))(hp:W.plainOver K C=true)(ht:W.takerIn K C name=some none)(hh:W.hasDictIn K C=true)(hw:PySem.Within mA ns)(hsz:ns.length<=sizeLine)(h:∀h',ObjM h' x dx C (λy=>if y=name then some v else mA y)->Heap.SameBut dx s.heap h'->Q () {s with heap:=h',toks:=s.toks+2 }) :
  wpAny (model prog w) A (setAttr (.ref x) name v) Q E s:=by
 obtain⟨od,J,hl⟩:=I.look;refine W.set_plain X J hs (W.osa_open (s:={s with toks:=s.toks+1 }) (r:=none) X J hp ht λb=>?_);obtain⟨cd,hc,CF⟩:=W.any_some hh;have hx:s.heap.get? x=some ⟨.ref C,some dx,.plain,#[]⟩:=I.obj;refine XV (W1 (XV (XV (wpAny_loadPart hx (XV (W.Looks.here (s:={s with toks:=s.toks+1 }) (W.looks_clsIn X hc) ?_))))));rw[CF];refine W1 (a:=some dx) (XV (W1 (XV ?_)));refine wpAny_nsSet1 (s:={s with toks:=s.toks+1 }) I.ns λh' IY TC=>?_;obtain⟨oD,esD,epD,hoD,hdD,hcD⟩:=IY.count (PySem.Within.cons name v hw);refine XV (wpAny_lookBehind hoD (by rw[hdD];exact pastItsLine_dict (eS hcD (by rw[wN];omega))) ?_);exact W1 (h _ ⟨(TC.2 _ (Ne.symm I.ne)).trans I.obj,IY,I.ne⟩ TC)
def Hg{R:Result->PP->Prop}{vs:List S6}{kw:List (Str × Value)}(X:K.In s.heap)(hm:W.makesIn K C=true)(hi:W.findIn K (.ref C) "__init__"=some (some (.ref f)))(hf:W.typeIn K (.ref f)=some (.type "function"))(h:codeAny (model prog w) (A.under (.builtin "type.__call__" ⟨.ref C::vs,kw⟩)) (.call (.ref f) ⟨.ref (s.heap.objs.size+1)::vs,kw⟩) (W.InitBack (s.heap.objs.size+1) R)
   {s with heap:=(s.heap.push W.emptyDict).push (W.instObj C s.heap.objs.size) }) :
  codeAny (model prog w) A (.call (.ref C) ⟨vs,kw⟩) R s:=by
 obtain⟨hh,g,d,t,os⟩:=s;exact W.make_core (W.makes_of X hm) (W.looks_findIn X hi) (λself=>W.bind_fn X self hf) (.inl rfl) h
end
def bK(f:Str)(v:V):List (Str×V)->List (Str×V)
 | []=>[(f,v)]
 | (g,x)::r=>if g=f then (g,v)::r else (g,x)::bK f v r
def oU(f g:Str)(v:V):∀fs:List (Str×V),(bK f v fs).lookup g=if g=f then some v else fs.lookup g
 | []=>by
  show List.lookup g [(f,v)]=_;by_cases h:g=f
  ·have hb:(g==f)=true:=beq_iff_eq.mpr h;simp only [List.lookup,hb,NE h]
  ·have hb:(g==f)=false:=beq_eq_false_iff_ne.mpr h;simp only [List.lookup,hb,IS h]
 | (k,x)::r=>by
  have ih:=oU f g v r;rw[show bK f v ((k,x)::r)=(if k=f then (k,v)::r else (k,x)::bK f v r) from rfl];by_cases hk:k=f
  ·rw[NE hk];by_cases h:g=k
   ·have hb:(g==k)=true:=beq_iff_eq.mpr h;simp only [List.lookup,hb,NE (h.trans hk)]
   ·have hb:(g==k)=false:=beq_eq_false_iff_ne.mpr h;simp only [List.lookup,hb,IS (λe:g=f=>h (e.trans hk.symm))]
  ·rw[IS hk];by_cases h:g=k
   ·have hb:(g==k)=true:=beq_iff_eq.mpr h;simp only [List.lookup,hb,IS (λe:g=f=>hk (h.symm.trans e))]
   ·have hb:(g==k)=false:=beq_eq_false_iff_ne.mpr h;simp only [List.lookup,hb];exact ih
def nI(f:Str)(v:V):∀fs:List (Str×V),f∈(bK f v fs).map (·.1)/\∀g,g∈fs.map (·.1)->g∈(bK f v fs).map (·.1)
 | []=>⟨by simp[bK],λg h=>by simp at h⟩
 | (k,x)::r=>by
  obtain⟨i1,i2⟩:=nI f v r;rw[show bK f v ((k,x)::r)=(if k=f then (k,v)::r else (k,x)::bK f v r) from rfl];by_cases hk:k=f
  ·rw[NE hk];subst hk;exact⟨Zs,λg h=>by simpa using h⟩
  ·rw[IS hk];refine⟨?_,λg h=>?_⟩
   ·rw[map_cons];exact fL _ i1
   ·rw[map_cons]at h ⊢;rcases mem_cons.mp h with e|e
    ·exact mem_cons.mpr (.inl e)
    ·exact fL _ (i2 g e)
def oV(f:Str)(v:V):∀fs:List (Str×V),(bK f v fs).length<=fs.length+1
 | []=>by simp[bK]
 | (k,x)::r=>by
  have ih:=oV f v r;rw[show bK f v ((k,x)::r)=(if k=f then (k,v)::r else (k,x)::bK f v r) from rfl];by_cases hk:k=f
  ·rw[NE hk,wN,wN];omega
  ·rw[IS hk,wN,wN];omega
def RelO.some_of{v:V}{o:Option S6}(r:RelO (some v) o):∃u,o=some u/\RelV v u:=by
 cases o with
 | none=>exact(show False from r).elim
 | some u=>exact⟨u,rfl,r⟩
def RelO.none_of{o:Option S6}(r:RelO none o):o=none:=by
 cases o with
 | none=>rfl
 | some u=>exact(show False from r).elim
def Ea{v:V}{u:S6}(r:RelV v u):W.handedIn u=true:=by
 cases v with
 | non=>cases(show u=Value.none from r);rfl
 | bl b=>cases(show u=Value.bool b from r);rfl
 | int i=>obtain⟨t,e⟩:=(show ∃t,u=Value.int i t from r);cases e;rfl
 | str x=>obtain⟨t,e⟩:=(show ∃t,u=Value.str x t from r);cases e;rfl
 | byt b=>obtain⟨t,e⟩:=(show ∃t,u=Value.bytes b t from r);cases e;rfl
 | flt b=>obtain⟨t,e⟩:=(show ∃t,u=Value.float b t from r);cases e;rfl
 | ref a=>cases(show u=Value.ref a from r);rfl
 | ty n=>cases(show u=Value.type n from r);rfl
section
variable {P:Program}{w:World}{H H':Hp}{h h':Heap}{a C dx:TD}{fs SW:List (Str×V)}
def pQ(hok:HOk P w H h)(e:H a=some (.ins C dx fs)):∃mA,ObjM h a dx C mA/\(∀f,RelO (fs.lookup f) (mA f))/\PySem.Within mA (fs.map (·.1))/\fs.length<=1000/\H dx=some (.own a):=by
 obtain⟨d,z,ne,ob,mA,n,r,q⟩:=(show ObjOk P w H h a (.ins C dx fs) from hok a _ e);exact⟨mA,⟨ob,n,ne⟩,r,q,z,d⟩
end
structure Cls(K:W.Frag)(C:TD):Prop where
 pg:W.plainGet K C Str.empty=true
 hd:W.hasDictIn K C=true
 po:W.plainOver K C=true
 sa:W.findIn K (.ref C) "__setattr__"=some (some (.builtin "object.__setattr__"))
def Cls.get{K:W.Frag}{C:TD}(c:Cls K C)(f:Str):W.plainGet K C f=true:=c.pg
def NoAttr(K:W.Frag)(C:TD)(f:Str):Prop:=W.findIn K (.ref C) f=some none
def NoAttr.taker{K:W.Frag}{C:TD}{f:Str}(n:NoAttr K C f):W.takerIn K C f=some none:=by
 unfold W.takerIn;rw[show W.findIn K (.ref C) f=some none from n];rfl
structure Hh(K:W.Frag)(C:TD)(m:Str)(f:TD):Prop where
 at_:W.findIn K (.ref C) m=some (some (.ref f))
 fn:W.isFn K (.ref f)=true
 kp:W.keepIn K (.ref f)=true
section
variable {X:Cx}{pins:Z5}{σ:St}{H:Hp}{s:PP}{a C dx:TD}{fs:List (Str×V)}{f:Str}{v:V}{A:Around}{E:ZB}
def zE{b:Bool}{Q:ZB}(I:Inv X pins σ H s)(e:H a=some (.ins C dx fs))(c:Cls X.K C)(n:NoAttr X.K C f)(l:fs.lookup f=some v)(h:∀u s',Inv X pins σ H s'->RelV v u->Q u s'):wpAny (model X.prog X.w) A (getAttr (.ref a) f b) Q E s:=by
 obtain⟨mA,O,r,_,_,_⟩:=pQ I.hok e;obtain⟨u,hu,ru⟩:=RelO.some_of (v:=v) (o:=mA f) (by rw[<- l];exact r f);exact Nh I.kIn O (c.get f) c.hd n hu (Ea ru) (h u _ (I.tok _) ru)
def lE{m:Str}{g:TD}{pl:Sem Bool}{Q:S6×List S6->PP->Prop}(I:Inv X pins σ H s)(e:H a=some (.ins C dx fs))(c:Cls X.K C)(k:Hh X.K C m g)(l:fs.lookup m=none)(h:Q (.ref g,[.ref a]) s):wpAny (model X.prog X.w) A (getMethod (.ref a) m pl) Q E s:=by
 obtain⟨mA,O,r,_,_,_⟩:=pQ I.hok e;have hn:mA m=none:=RelO.none_of (by rw[<- l];exact r m);exact Hf I.kIn O (c.get m) k.at_ k.fn hn h
def zF{y:V}{u:S6}{Q:Unit->PP->Prop}(I:Inv X pins σ H s)(e:H a=some (.ins C dx fs))(c:Cls X.K C)(n:NoAttr X.K C f)(hl:fs.length<1000)(ry:RelV y u)(h:∀s',Inv X pins σ (aH H a (.ins C dx (bK f y fs))) s'->Q () s'):wpAny (model X.prog X.w) A (setAttr (.ref a) f u) Q E s:=by
 obtain⟨mA,O,r,wi,_,ho⟩:=pQ I.hok e;have hz:(fs.map (·.1)).length<=sizeLine:=by rw[bP,sizeLine_eq];omega
 refine Ni I.kIn O c.sa c.po n.taker c.hd wi hz λh' O' sb=>h _ ?_;have hd:∃o,h'.get? dx=some o:=let ⟨o,_,_,e',_⟩:=O'.ns;⟨o,e'⟩;refine I.write (x:=a) (e:=dx) (by rw[e];exact True.intro) (.inr ho) (λb q hb z=>(sb.2 b hb).trans z) hd ?_;refine⟨by rw[aE O.ne];exact ho,?_,O.ne,O'.obj,_,O'.ns,λg=>?_,λg hg=>?_⟩
 ·have:=oV f y fs;omega
 ·show RelO ((bK f y fs).lookup g) (if g=f then some u else mA g);rw[oU];by_cases q:g=f
  ·rw[NE q,NE q];exact ry
  ·rw[IS q,IS q];exact r g
 ·by_cases q:g=f
  ·rw[q];exact(nI f y fs).1
  ·refine(nI f y fs).2 g (wi g λz=>hg ?_);show(if g=f then some u else mA g)=none;rw[IS q];exact z
def Inv.made(I:Inv X pins σ H s):Inv X pins σ (aH (aH H s.heap.objs.size (.own (s.heap.objs.size+1))) (s.heap.objs.size+1) (.ins C s.heap.objs.size []))
  {s with heap:=(s.heap.push W.emptyDict).push (W.instObj C s.heap.objs.size) }:=by
 have e1:(s.heap.push W.emptyDict).get? s.heap.objs.size=some W.emptyDict:=TW s.heap rfl;have e2:((s.heap.push W.emptyDict).push (W.instObj C s.heap.objs.size)).get? (s.heap.objs.size+1)=some (W.instObj C s.heap.objs.size):=by
  have:=TW (s.heap.push W.emptyDict) (o:=W.instObj C s.heap.objs.size) rfl
  rwa [Heap.size_push]at this
 have e3:(s.heap.push W.emptyDict).Ns s.heap.objs.size (λ_=>none):=⟨W.emptyDict,#[],_,e1,rfl,(λe he=>IQ he Zs),λ_=>rfl⟩;have I1:=I.laid (a:=s.heap.objs.size) (o:=.own (s.heap.objs.size+1)) (h':=s.heap.push W.emptyDict) (t':=s.toks) (λb u q=>gU _ q) (bZ _) ⟨_,e1⟩;refine I1.laid (a:=s.heap.objs.size+1) (o:=.ins C s.heap.objs.size []) (t':=s.toks) (λb u q=>gU _ q) (le_of_eq (Heap.size_push _ _)) ?_;have ne:s.heap.objs.size≠s.heap.objs.size+1:=ne_of_lt (lt_succ_self _);refine⟨by rw[aE ne,aA],zero_le _,ne,e2,λ_=>none,(Heap.Ns1.of_empty e3).at λo q=>gU _ q,λ_=>True.intro,λy hy=>IQ rfl hy⟩
def Nj{prog:Program}{w:World}{env:Env}{e:Expr}{f:Str}{pos:Pos}{s:PP}{Q:ZB}(hb:attributeBase e f env (eval e env)=eval e env)(h:wpAny (model prog w) A (eval e env) (λo s₁=>wpAny (model prog w) A (getAttr o f true) Q E s₁) E s):wpAny (model prog w) A (eval (.Attribute e f pos) env) Q E s:=
 Attribute_any_ h (by rw[arm_eval_Attribute,hb])
end
section
variable {X:Cx}{pins:Z5}{σ:St}{H:Hp}{s:PP}{A:Around}{E:ZB}{Q:ZB}{c:S6}{b:Bool}
inductive lQ(K:W.Frag)(H:Hp):V->S6->Prop where
 | non:lQ K H .non (.type "NoneType")
 | bl (x:Bool):lQ K H (.bl x) (.type "bool")
 | int (i:Int):lQ K H (.int i) (.type "int")
 | str (x:Str):lQ K H (.str x) (.type "str")
 | flt (x:UInt64):lQ K H (.flt x) (.type "float")
 | lst {a:TD}{xs:List V} (e:H a=some (.lst xs)):lQ K H (.ref a) (.type "list")
 | frz {a:TD}{o:Obj}{xs:List V} (e:H a=some (.frz o (.lst xs))):lQ K H (.ref a) (.type "list")
 | tup {a:TD}{xs:List V} (e:H a=some (.tup xs)):lQ K H (.ref a) (.type "tuple")
 | dK {a:TD}{kvs:List (bC×V)} (e:H a=some (.dK kvs)):lQ K H (.ref a) (.type "dict")
 | dT {a:TD}{kvs:List (List bC×V)} (e:H a=some (.dT kvs)):lQ K H (.ref a) (.type "dict")
 | ins {a C dx:TD}{fs:List (Str×V)} (e:H a=some (.ins C dx fs)) (cl:Cls K C) (ha:W.findIn K (.ref C) "__class__"=some (some (.builtin "object.__class__")))
   (hn:W.specialIn K (.builtin "object.__class__") "__get__"=some (some (.builtin "getset_descriptor.__get__"))) (htk:W.takesIn K (.builtin "object.__class__")=some true)
   (hm:W.mroIn K C (.type "object")=some true):lQ K H (.ref a) (.ref C)
def Eb{x:V}{u t:S6}(I:Inv X pins σ H s)(rx:RelV x u)(ty:lQ X.K H x t)(e:W.kitOne X.K t c=some b)(h:∀tk,Q (.bool b) {s with toks:=tk }) :
  wpAny (model X.prog X.w) A (call (.builtin "isinstance") [u,c]) Q E s:=by
 cases ty with
 | non=>cases(show u=Value.none from rx);exact W.kia_one W.kitx_none I.kIn True.intro e nofun h
 | bl y=>cases(show u=Value.bool y from rx);exact W.kia_one W.kitx_bool I.kIn True.intro e nofun h
 | int i=>obtain⟨t,q⟩:=(show ∃t,u=Value.int i t from rx);cases q;exact W.kia_one W.kitx_int I.kIn True.intro e nofun h
 | str y=>obtain⟨t,q⟩:=(show ∃t,u=Value.str y t from rx);cases q;exact W.kia_one W.kitx_str I.kIn True.intro e nofun h
 | flt y=>obtain⟨t,q⟩:=(show ∃t,u=Value.float y t from rx);cases q;exact W.kia_one W.kitx_float I.kIn True.intro e nofun h
 | @lst a xs ea=>
  cases(show u=Value.ref a from rx);obtain⟨_,_,n,_,h1⟩:=(show ObjOk X.prog X.w H s.heap a (.lst xs) from I.hok a _ ea);exact W.kia_one W.kitx_list I.kIn ⟨_,h1,rfl⟩ e nofun h
 | @frz a ob xs ea=>
  cases(show u=Value.ref a from rx);obtain⟨_,_,_,n,_,h1⟩:=(show ObjOk X.prog X.w H s.heap a (.frz ob (.lst xs)) from I.hok a _ ea);exact W.kia_one W.kitx_list I.kIn ⟨_,h1,rfl⟩ e nofun h
 | @tup a xs ea=>
  cases(show u=Value.ref a from rx);obtain⟨_,_,_,p⟩:=(show ObjOk X.prog X.w H s.heap a (.tup xs) from I.hok a _ ea);obtain⟨o,h1,h2,_⟩:=p;exact W.kia_one W.kitx_tuple I.kIn ⟨o,h1,h2⟩ e nofun h
 | @dK a kvs ea=>
  cases(show u=Value.ref a from rx);obtain⟨_,_,vs,_,p⟩:=(show ObjOk X.prog X.w H s.heap a (.dK kvs) from I.hok a _ ea);obtain⟨o,es,ep,h1,h2,_⟩:=p;exact W.kia_one W.kitx_dict I.kIn ⟨o,h1,h2.1⟩ e nofun h
 | @dT a kvs ea=>
  cases(show u=Value.ref a from rx);obtain⟨_,_,xs,_,o,es,ep,h1,h2,_⟩:=(show ObjOk X.prog X.w H s.heap a (.dT kvs) from I.hok a _ ea);exact W.kia_one W.kitx_dict I.kIn ⟨o,h1,h2.1⟩ e nofun h
 | @ins a C dx fs ea cl ha hn htk hm=>
  cases(show u=Value.ref a from rx);obtain⟨mA,O,_⟩:=pQ I.hok ea;obtain⟨od,J,_⟩:=O.look;exact W.kia_one (W.kitx_own (cl.get _) cl.hd ha hn htk hm) I.kIn J e nofun h
end
structure Room(k:Nat)(A:Around):Prop where
 hd:A.handled=none
 dp:A.depth+3*k+5<recursionLimit
 un:A.units+16*k+200<cLine
def Room.mono{j k:Nat}{A:Around}(r:Room k A)(h:j<=k):Room j A:=⟨r.hd,by have:=r.dp;omega,by have:=r.un;omega⟩
def Room.deeper{k:Nat}{A:Around}(r:Room (k+1) A)(env:Env):Room k (A.deeper env):=
 ⟨r.hd,by have:=r.dp;show A.depth+1+3*k+5<_;omega,by have:=r.un;show A.units+3+16*k+200<_;omega⟩
def zG{A:Around}{C:TD}{us:List S6}{kw:List (Str×S6)}:(A.under (.builtin "type.__call__" ⟨.ref C::us,kw⟩)).depth=A.depth+1:=by
 first|rfl|simp[Around.under,Code.weight,Code.isCreation,Code.isGuard,Code.isCaller,Code.frames,Code.isFrame,guardIds]
def zH{A:Around}{C:TD}{us:List S6}{kw:List (Str×S6)}:(A.under (.builtin "type.__call__" ⟨.ref C::us,kw⟩)).units=A.units+1:=by
 first|rfl|simp[Around.under,Code.cUnits,Code.frames,Code.isFrame]
def Room.make{k:Nat}{A:Around}(r:Room (k+1) A)(C:TD)(us:List S6)(kw:List (Str×S6)):Room k (A.under (.builtin "type.__call__" ⟨.ref C::us,kw⟩)):=
 ⟨r.hd,by have:=r.dp;rw[zG];omega,by have:=r.un;rw[zH];omega⟩
def Room.depth{k:Nat}{A:Around}(r:Room k A):A.depth<recursionLimit:=by have:=r.dp;omega
def Room.units{k:Nat}{A:Around}(r:Room k A):A.units+64<cLine:=by have:=r.un;omega
def Room.units0{k:Nat}{A:Around}(r:Room k A):A.units<cLine:=by have:=r.un;omega
def zI:TA:=λ_ H Q=>Q [] H
def wV(ta:TE)(tr:TA):TA:=λσ H Q=>ta σ H λx H1=>tr σ H1 λxs H2=>Q (x::xs) H2
section
variable {X:Cx}{e:Expr}{es:List Expr}{te:TE}{t:TA}{pos:Pos}
def zJ:PA X [] zI:=λ_ _ _ _ H Q I h=>Calls.spliced_nil ⟨[],H,I,.nil,h⟩
def uU(ha:PE X e te)(hr:PA X es t)(hs:starEach (e::es) X.env=(false,eval e X.env)::starEach es X.env:=by rfl):PA X (e::es) (wV te t):=by
 intro pos pins s σ H Q I h;rw[hs];show wpAny _ _ (spliced ((false,eval e X.env)::backTo pos (starEach es X.env))) _ _ s;refine Calls.spliced_cons (bH (ha pins s σ H _ I h) ?_);rintro u s1 ⟨x,H1,I1,r1,q1⟩;exact bH (hr pos pins s1 σ H1 _ I1 q1) λus s2 ⟨xs,H2,I2,r2,q2⟩=>⟨x::xs,H2,I2,.cons r1 r2,q2⟩
def Xj(t:TA):TE:=λσ H Q=>t σ H λxs H1=>xs.length<=sizeLine/\∀p,H1 p=none->Q (.ref p) (aH H1 p (.tup xs))
def Xk(t:TA):TE:=λσ H Q=>t σ H λxs H1=>xs.length<=sizeLine/\∀p,H1 p=none->Q (.ref p) (aH H1 p (.lst xs))
def Ts{x1}(h:PA X es t):PE X (.Tuple es x1 pos) (Xj t):=by
 intro pins s σ H Q I hq;refine wpAny_Tuple_spliced (bH (h pos pins s σ H _ I hq) λus s1 ⟨xs,H1,I1,r,z,q⟩=>⟨by rw[<- r.length];exact z,?_⟩);have hf:H1 s1.heap.objs.size=none:=I1.hok.fresh (bZ _);refine⟨.ref s1.heap.objs.size,aH H1 s1.heap.objs.size (.tup xs),I1.laid (t':=s1.toks) (λb u e=>gU _ e) (bZ _) ?_,rfl,q _ hf⟩;exact⟨z,us,r,⟨_,TW _ rfl,rfl,_,rfl⟩⟩
def Tt(h:PA X es t):PE X (.List es pos) (Xk t):=by
 intro pins s σ H Q I hq;refine wpAny_List_spliced (bH (h pos pins s σ H _ I hq) λus s1 ⟨xs,H1,I1,r,z,q⟩=>⟨by rw[<- r.length];exact z,?_⟩);have hf:H1 s1.heap.objs.size=none:=I1.hok.fresh (bZ _);refine⟨.ref s1.heap.objs.size,aH H1 s1.heap.objs.size (.lst xs),I1.laid (t':=s1.toks) (λb u e=>gU _ e) (bZ _) ?_,rfl,q _ hf⟩;exact⟨z,us,0,r,TW _ rfl⟩
end
abbrev Sp:=List V->Hp->VK->XK->Prop
abbrev Ml:=List Env->Hp->PP->XK->S6->PP->Prop
structure Env0(P:Program)(w:World)(K:W.Frag)(mg:X7)(base:Heap)(A:Around)(outer:List Env)(s:PP)(H:Hp):Prop where
 frames:A.frames=some outer
 mod:Mod K mg base
 bs:∀b o,base.get? b=some o->s.heap.get? b=some o/\H b=none
 bsz:base.objs.size<=s.heap.objs.size
 funs:s.heap.FunFrames base outer
 frf:∀b∈Go outer,H b=none
 hok:HOk P w H s.heap
 bare:AllBare s.gens
def CE(outer:List Env)(P:Program)(w:World)(H:Hp)(s:PP)(Q:VK)(u:S6)(s':PP):Prop:=
 ∃v H',s'.os=s.os/\AllBare s'.gens/\Un (Go outer) [] H H' s.heap s'.heap/\HOk P w H' s'.heap/\RelV v u/\Q v H'
def CR(CX:Ml)(outer:List Env)(P:Program)(w:World)(H:Hp)(s:PP)(Q:VK)(E:XK)(r:Result)(s':PP):Prop:=
 match r with
 | .ok (.ret u)=>CE outer P w H s Q u s'
 | .ok _=>False
 | .error e=>CX outer H s E e s'
structure jK(P:Program)(w:World)(K:W.Frag)(mg:X7)(base:Heap)(CX:Ml)(k:Nat)(f:TD)(fd:FuncData)(ps:List Str)(sp:Sp):Prop where
 len:∀vs H Q E,sp vs H Q E->vs.length=ps.length
 run:∀(A:Around)(outer:List Env)(s:PP)(H:Hp)(args:Args)(us:List S6)(vs:List V)(Q:VK)(E:XK),Room k A->Env0 P w K mg base A outer s H->BindsTo s fd args (ps.zip us)->Vals vs us->sp vs H Q E →
  codeAny (model P w) A (.call (.ref f) args) (CR CX outer P w H s Q E) s
def Env0.make{P:Program}{w:World}{K:W.Frag}{mg:X7}{base:Heap}{A:Around}{outer:List Env}{s:PP}{H:Hp}(e:Env0 P w K mg base A outer s H)(C:TD)(us:List S6)(kw:List (Str×S6)) :
  Env0 P w K mg base (A.under (.builtin "type.__call__" ⟨.ref C::us,kw⟩)) outer s H:=⟨by first|exact e.frames|(simpa [Around.under,Code.envs,Code.isFrame,pushEnvs]using e.frames),e.mod,e.bs,e.bsz,e.funs,e.frf,e.hok,e.bare⟩
section
variable {X:Cx}{pins:Z5}{σ:St}{H:Hp}{s s':PP}
def Inv.env0(I:Inv X pins σ H s):Env0 X.prog X.w X.K X.mg X.base X.A X.stack s H:=
 ⟨I.ok.frames,I.ok.mod,I.bs,eS I.ok.bsz I.sz,I.stack,I.stkFree,I.hok,I.bare⟩
def Inv.after{Q:VK}{u:S6}(I:Inv X pins σ H s)(h:CE X.stack X.prog X.w H s Q u s'):EP X pins σ Q u s':=by
 obtain⟨v,H',os,bare,un,hok,r,q⟩:=h;obtain⟨hh,g,d,t,os'⟩:=s';obtain rfl:os'=s.os:=os;exact⟨v,H',I.call (h':=hh) (g':=g) (d':=d) (t':=t) (ch:=[]) un hok bare (λb z=>IQ z Zs),r,q⟩
end
def Xl(sp:Sp)(dvs:List V)(E:XK)(t:TA):TE:=λσ H Q=>t σ H λvs H1=>sp (vs++dvs) H1 Q E
def Bc(C:TD)(sp:Sp)(dvs:List V)(E:XK)(t:TA):TE:=λσ H Q=>t σ H λvs H1=>∀x dx,H1 x=none->H1 dx=none->dx≠x →
 sp (.ref x::(vs++dvs)) (aH (aH H1 dx (.own x)) x (.ins C dx [])) (λv H2=>v=.non/\Q (.ref x) H2) E
def Binds(K:W.Frag)(fd:FuncData)(ps:List Str)(ds:List S6):Prop:=
 ∀(s:PP)(us:List S6),K.In s.heap->(us++ds).length=ps.length->BindsTo s fd ⟨us,[]⟩ (ps.zip (us++ds))
def Binds.all{K:W.Frag}{fd:FuncData}{ps:List Str}(h:∀us:List S6,us.length=ps.length->bindArgs fd ⟨us,[]⟩=pure (ps.zip us)):Binds K fd ps []:=λs us _ hl=>by
 rw[append_nil]at hl ⊢;exact .of_eq (h us hl)
def nO(CX:Ml)(X:Cx)(E:XK):Prop:=∀(pins:Z5)(σ:St)(H:Hp)(s:PP)(e:S6)(s':PP),Inv X pins σ H s->CX X.stack H s E e s'->X.xe e s'
section
variable {X:Cx}{CX:Ml}{k:Nat}{f C:TD}{fd:FuncData}{ps:List Str}{sp:Sp}{dvs:List V}{ds:List S6}{E:XK}{x m:Str}{p pos apos:Pos}{e o:Expr}{es:List Expr}{ta:TE}{t:TA}
def uV{pins:Z5}{σ:St}{H:Hp}{s:PP}{Q:VK}{us:List S6}{vs:List V}(F:jK X.prog X.w X.K X.mg X.base CX k f fd ps sp)(hr:Room k X.A)(hb:Binds X.K fd ps ds)(hd:Vals dvs ds)(hx:nO CX X E)(I:Inv X pins σ H s)(r:Vals vs us)(h:sp (vs++dvs) H Q E):wpAny (model X.prog X.w) X.A (call (.ref f) us) (EP X pins σ Q) X.xe s:=by
 have r2:Vals (vs++dvs) (us++ds):=r.append hd;have hl:(us++ds).length=ps.length:=by rw[<- r2.length];exact F.len _ _ _ _ h
 refine wpAny_call (codeAny_mono (F.run X.A X.stack s H ⟨us,[]⟩ (us++ds) (vs++dvs) Q E hr I.env0 (hb s us I.kIn hl) r2 h) λr s' hq=>?_)
 cases r with
 | error e=>exact hx pins σ H s e s' I hq
 | ok fl=>
  cases fl with
  | ret u=>exact I.after hq
  | next=>exact False.elim hq
  | brk=>exact False.elim hq
  | cont=>exact False.elim hq
def Nk(F:jK X.prog X.w X.K X.mg X.base CX k f fd ps sp)(hr:Room k X.A)(hg:Gl X x)(hm:X.mg x=some (.ref f))(hk:W.keepIn X.K (.ref f)=true)(hb:Binds X.K fd ps ds)(hd:Vals dvs ds)(hx:nO CX X E)(ha:PA X (e::es) t)(Z7:(x==("__debug__":Str))=false:=by decide)(he:starEach (e::es) X.env=(false,eval e X.env)::starEach es X.env:=by rfl)(X8:(backTo pos (starEach es X.env)).any (·.1)=false:=by rfl) :
  PE X (.Call (.Name x p) (e::es) [] pos) (Xl sp dvs E t):=by
 intro pins s σ H Q I h;refine wpAny_Call_Name_kw (pP I hg hm ?_ Z7);refine W.callWith_K (h₀:=X.base) I.ok.mod.kin hk (bH (ha pos pins s σ H _ I h) λus s1 ⟨vs,H1,I1,r,q⟩=>⟨I1.kIn,?_⟩) he X8;exact uV F hr hb hd hx I1 r q
structure Mk(K:W.Frag)(C f:TD):Prop where
 makes:W.makesIn K C=true
 init:W.findIn K (.ref C) "__init__"=some (some (.ref f))
 fn:W.isFn K (.ref f)=true
 kp:W.keepIn K (.ref C)=true
def wW{pins:Z5}{σ:St}{H:Hp}{s:PP}{Q:VK}{us:List S6}{vs:List V}(M:Mk X.K C f)(F:jK X.prog X.w X.K X.mg X.base CX k f fd ps sp)(hr:Room (k+1) X.A)(hb:Binds X.K fd ps ds)(hd:Vals dvs ds)(hx:nO CX X E)(I:Inv X pins σ H s)(r:Vals vs us)(h:∀x dx,H x=none->H dx=none->dx≠x->sp (.ref x::(vs++dvs)) (aH (aH H dx (.own x)) x (.ins C dx [])) (λv H2=>v=.non/\Q (.ref x) H2) E) :
  wpAny (model X.prog X.w) X.A (call (.ref C) us) (EP X pins σ Q) X.xe s:=by
 have hq:=h (s.heap.objs.size+1) s.heap.objs.size (I.hok.fresh (le_succ _)) (I.hok.fresh (bZ _)) (ne_of_lt (lt_succ_self _));have I2:=Inv.made (C:=C) I;have r2:Vals (V.ref (s.heap.objs.size+1)::(vs++dvs)) (Value.ref (s.heap.objs.size+1)::(us++ds)):=.cons rfl (r.append hd);have hl:(Value.ref (s.heap.objs.size+1)::us++ds).length=ps.length:=by
  have e:=r2.length;rw[F.len _ _ _ _ hq]at e;exact e.symm
 refine wpAny_call (Hg (f:=f) I.kIn M.makes M.init (beq_iff_eq.mp M.fn) (codeAny_mono (F.run _ X.stack _ _ ⟨Value.ref (s.heap.objs.size+1)::us,[]⟩ (Value.ref (s.heap.objs.size+1)::(us++ds)) _ _ E (hr.make C us [])
  (I2.env0.make C us []) (hb _ (Value.ref (s.heap.objs.size+1)::us) I2.kIn hl) r2 hq) λr s' px=>?_))
 cases r with
 | error e=>exact hx pins σ _ _ e s' I2 px
 | ok fl=>
  cases fl with
  | ret u=>
   obtain⟨v,H',I3,rv,ev,q3⟩:=I2.after px;subst ev;exact⟨rv,⟨V.ref (s.heap.objs.size+1),H',I3,rfl,q3⟩⟩
  | next=>exact False.elim px
  | brk=>exact False.elim px
  | cont=>exact False.elim px
def Nl(M:Mk X.K C f)(F:jK X.prog X.w X.K X.mg X.base CX k f fd ps sp)(hr:Room (k+1) X.A)(hg:Gl X x)(hm:X.mg x=some (.ref C))(hb:Binds X.K fd ps ds)(hd:Vals dvs ds)(hx:nO CX X E)(ha:PA X (e::es) t)(Z7:(x==("__debug__":Str))=false:=by decide)(he:starEach (e::es) X.env=(false,eval e X.env)::starEach es X.env:=by rfl)(X8:(backTo pos (starEach es X.env)).any (·.1)=false:=by rfl) :
  PE X (.Call (.Name x p) (e::es) [] pos) (Bc C sp dvs E t):=by
 intro pins s σ H Q I h;refine wpAny_Call_Name_kw (pP I hg hm ?_ Z7);refine W.callWith_K (h₀:=X.base) I.ok.mod.kin M.kp (bH (ha pos pins s σ H _ I h) λus s1 ⟨vs,H1,I1,r,q⟩=>⟨I1.kIn,?_⟩) he X8;exact wW M F hr hb hd hx I1 r q
def Hi(M:Mk X.K C f)(F:jK X.prog X.w X.K X.mg X.base CX k f fd ps sp)(hr:Room (k+1) X.A)(hg:Gl X x)(hm:X.mg x=some (.ref C))(hb:Binds X.K fd ps ds)(hd:Vals dvs ds)(hx:nO CX X E)(Z7:(x==("__debug__":Str))=false:=by decide):PE X (.Call (.Name x p) [] [] pos) (Bc C sp dvs E zI):=by
 intro pins s σ H Q I h;refine wpAny_Call_Name_kw (pP I hg hm ?_ Z7);exact W.callWith_K0 I.kIn M.kp (wW (us:=[]) M F hr hb hd hx I .nil h)
end
structure aG(N P:List Str)(sc:Scope):Prop where
 kind:sc.kind=.function
 co:sc.isCoroutine=false
 gen:sc.isGenerator=false
 nd:N.Nodup
 pre:N.take P.length=P
 par:∀x∈P,sc.names.lookup x=some .local∨sc.names.lookup x=some .cell
 nofree:∀y∈sc.names,y.2≠.free
def sN{kindOf:Str->Option NameKind}{x:Str}:∀ {binds:List (Str×S6)}{m:X7},(∀v,(x,v)∉binds)->bindL kindOf binds m x=m x
 | [],_,_=>rfl
 | (n,v)::r,m,h=>by
  unfold bindL;rw[sN λw hw=>h w (fL _ hw)];split
  ·have:x≠n:=by rintro rfl;exact h v mZ
   simp[this]
  ·rfl
def sO{kindOf:Str->Option NameKind}{x:Str}:∀ {binds:List (Str×S6)}{m:X7},(∀v,(x,v)∉binds)->bindC kindOf binds m x=m x
 | [],_,_=>rfl
 | (n,v)::r,m,h=>by
  unfold bindC;rw[sO λw hw=>h w (fL _ hw)];split
  ·rfl
  ·have:x≠n:=by rintro rfl;exact h v mZ
   simp[this]
def sP{kindOf:Str->Option NameKind}{x:Str}{v:S6}:∀ {P:List Str}{vs:List S6}{i:Nat}{m:X7},P.Nodup->P[i]?=some x->vs[i]?=some v->kindOf x=some .local →
  bindL kindOf (P.zip vs) m x=some v
 | [],_,_,_,_,h,_,_=>by simp at h
 | _::_,[],_,_,_,_,h,_=>by simp at h
 | p::P,w::vs,0,m,nd,h1,h2,hk=>by
  simp at h1 h2;subst h1;subst h2;show bindL kindOf ((p,w)::P.zip vs) m p=_;unfold bindL;rw[sN λv hv=>(nodup_cons.mp nd).1 (of_mem_zip hv).1,NE hk];simp
 | p::P,w::vs,i+1,m,nd,h1,h2,hk=>by
  show bindL kindOf ((p,w)::P.zip vs) m x=_;unfold bindL;exact sP (i:=i) (nodup_cons.mp nd).2 (by simpa using h1) (by simpa using h2) hk
def sQ{kindOf:Str->Option NameKind}{x:Str}{v:S6}:∀ {P:List Str}{vs:List S6}{i:Nat}{m:X7},P.Nodup->P[i]?=some x->vs[i]?=some v->kindOf x≠some .local →
  bindC kindOf (P.zip vs) m x=some v
 | [],_,_,_,_,h,_,_=>by simp at h
 | _::_,[],_,_,_,_,h,_=>by simp at h
 | p::P,w::vs,0,m,nd,h1,h2,hk=>by
  simp at h1 h2;subst h1;subst h2;show bindC kindOf ((p,w)::P.zip vs) m p=_;unfold bindC;rw[sO λv hv=>(nodup_cons.mp nd).1 (of_mem_zip hv).1,IS hk];simp
 | p::P,w::vs,i+1,m,nd,h1,h2,hk=>by
  show bindC kindOf ((p,w)::P.zip vs) m x=_;unfold bindC;exact sQ (i:=i) (nodup_cons.mp nd).2 (by simpa using h1) (by simpa using h2) hk
def start(N:List Str)(vs:List V):St:=vs.map some++List.replicate (N.length-vs.length) none
def nQ(CX:Ml)(P:Program)(w:World)(K:W.Frag)(mg:X7)(base:Heap)(N:List Str)(qual:Str)(scope:Scope)(f:TD)(cd:S6)(A:Around)(outer:List Env)(s:PP)(H:Hp)(E:XK):Cx where
 prog:=P
 w:=w
 K:=K
 mg:=mg
 base:=base
 A:=A.deeper (envOfC qual scope s.heap.objs.size f cd)
 N:=N
 s₀:=s
 H₀:=H
 env:=envOfC qual scope s.heap.objs.size f cd
 outer:=outer
 stack:=envOfC qual scope s.heap.objs.size f cd::outer
 ex:=[]
 calm:=true
 fn:=λ_=>true
 pn:=[]
 xe:=λe s'=>wpAny (model P w) (A.deeper (envOfC qual scope s.heap.objs.size f cd)) (leaving (envOfC qual scope s.heap.objs.size f cd) e) (λ_ JY=>CX outer H s E e JY) (λe' JY=>CX outer H s E e' JY) s'
def wX{sc:Scope}{n:Nat}{x:Str}(h:sc.names.lookup x=some .cell):∃c,(cellsFrom n sc.names []).lookup x=some c:=by
 have q:=W.cellsFrom_some sc.names n [] (.inl h);exact Option.isSome_iff_exists.mp q
def Ec{CX:Ml}{P:Program}{w:World}{K:W.Frag}{mg:X7}{base:Heap}{N ps:List Str}{qual:Str}{scope:Scope}{f:TD}{cd:S6}{A:Around}{outer:List Env}{s s1:PP}{H:Hp}{E:XK}{us:List S6}{vs:List V}(S:aG N ps scope)(hd:A.handled=none)(e0:Env0 P w K mg base A outer s H)(hl:vs.length=ps.length)(r:Vals vs us)(x:InCallC s s.heap.objs.size (bindL (envOfC qual scope s.heap.objs.size f cd).kindOf (ps.zip us) λ_=>none) (cellsFrom (s.heap.objs.size+1) scope.names []) (bindC (envOfC qual scope s.heap.objs.size f cd).kindOf (ps.zip us) λ_=>none) s1) :
  Inv (nQ CX P w K mg base N qual scope f cd A outer s H E) [] (start N vs) H s1:=by
 have X8:ps.length<=N.length:=by have:=congrArg length S.pre;rw[mV]at this;omega
 obtain⟨h1,tk,rfl,hk⟩:=x.done;have NY:∀b:TD,b∉(nQ CX P w K mg base N qual scope f cd A outer s H E).ex:=λb z=>IQ (show b∈([]:List TD) from z) Zs
 refine⟨⟨e0.mod,S.kind,rfl,rfl,bZ _,λy z c h1 h2=>?_,λy hy=>?_,λy c _ h=>?_,λ_=>hd,Around.frames_deeper e0.frames,.inr ⟨rfl,rfl⟩,λb z=>IQ z (NY b),e0.bs,e0.bsz,λb _ _=>NY b,λb z=>IQ z (NY b),e0.funs,e0.frf⟩,
  rfl,e0.bare,Un.kept hk,⟨_,x.toInCall.ns,λi y v h1 h2 h3=>?_⟩,λy c h=>⟨_,x.cell y c h⟩,e0.hok.fresh (bZ _),λy c h=>?_,λp hp=>IQ (show p∈([]:List (Addr × Obj)) from hp) Zs,e0.hok.kept hk,?_⟩
 ·exact name_of_addr x.apart (PySem.mem_of_lookup h1) (PySem.mem_of_lookup h2)
 ·have hy:scope.names.lookup y=some .cell∨scope.names.lookup y=some .free:=hy;rcases hy with hy|hy
  ·exact wX hy
  ·exact IQ rfl (S.nofree _ (PySem.mem_of_lookup hy))
 ·exact le_of_lt (x.above y c (PySem.mem_of_lookup h))
 ·have hi:i<vs.length:=by
   unfold start at h2;by_cases hi:i<vs.length
   ·exact hi
   ·rw[List.getElem?_append_right (by simpa using hi)]at h2;rw[List.getElem?_replicate]at h2;split at h2<;>cases h2
  have ha:vs[i]?=some v:=by
   unfold start at h2;rw[List.getElem?_append_left (by simpa using hi),iK]at h2
   cases e:vs[i]? with
   | none=>rw[e]at h2;cases h2
   | some a=>rw[e]at h2;cases h2;rfl
  obtain⟨u,hu,rv⟩:=r.get ha;have hp:ps[i]?=some y:=by
   rw[<- S.pre,List.getElem?_take_of_lt Zo];exact h1
  have ndP:ps.Nodup:=by rw[<- S.pre];exact S.nd.sublist (List.take_sublist _ _)
  refine⟨u,rv,?_⟩;rcases S.par y (kS hp) with k|k
  ·exact .inl ⟨k,sP ndP hp hu k⟩
  ·obtain⟨c,e⟩:=wX (n:=s.heap.objs.size+1) k;refine .inr ⟨.inl k,c,e,?_⟩;have q:=x.cell y c e;rw[sQ ndP hp hu (by show scope.names.lookup y≠_;rw[k];decide)]at q;exact q
 ·exact e0.hok.fresh (le_of_lt (x.above y c (PySem.mem_of_lookup h)))
 ·unfold start;show _=N.length;rw[wM,bP,List.length_replicate];omega
def Qy{CX:Ml}{P:Program}{w:World}{K:W.Frag}{mg:X7}{base:Heap}{k:Nat}{f:TD}{name qual:Str}{params:Arguments}{body:List Stmt}{scope:Scope}{dV kV doc pm cdv ct oc:S6}{an od:Option TD}{osl:Array (Option S6)}{N ps:List Str}{sp:Sp}(lk:K.lookup f=some ⟨oc,od,.func (W.fnOf name qual params body scope dV kV doc pm an cdv ct),osl⟩)(yq:W.codeIn K cdv qual=true)(S:aG N ps scope)(len:∀vs H Q E,sp vs H Q E->vs.length=ps.length)(x8:∀(A:Around)(outer:List Env)(s:PP)(H:Hp)(vs:List V)(Q:VK)(E:XK),Room k (A.deeper (envOfC qual scope s.heap.objs.size f cdv))->sp vs H Q E →
   ∃t,PSs (nQ CX P w K mg base N qual scope f cdv A outer s H E) body t/\t {nx:=λ_ H'=>Q .non H',rt:=Q } (start N vs) H) :
  jK P w K mg base CX (k+1) f (W.fnOf name qual params body scope dV kV doc pm an cdv ct) ps sp:=by
 refine⟨len,λA outer s H args us vs Q E hr e0 hb r GX=>?_⟩;have hl:=len _ _ _ _ GX;have KX:K.In s.heap:=e0.mod.kin.keeps λb o e=>(e0.bs b o e).1
 have lim:s.heap.NoLimit:=e0.mod.nolimit.keeps λb o e=>(e0.bs b o e).1
 have NZ:∀y∈ps.zip us,scope.names.lookup y.1=some .local∨(scope.names.lookup y.1=some .cell/\((cellsFrom (s.heap.objs.size+1) scope.names []).lookup y.1).isSome=true):=λ⟨n,v⟩ hy=>by
  rcases S.par n (of_mem_zip hy).1 with q|q
  ·exact .inl q
  ·exact .inr ⟨q,W.cellsFrom_some _ _ _ (.inl q)⟩
 refine codeAny_call_function hr.depth (KX _ _ lk) rfl S.co S.gen rfl (W.codeRec_of KX yq) (hb _ _ _ _ ?_);refine wpAny_newFunctionEnv_cells S.kind NZ λenv he s1 x=>?_;subst he;refine⟨lim.keeps x.toInCall.keep,codeAny_func ?_⟩;obtain⟨t,ht,hq⟩:=x8 A outer s H vs Q E (hr.deeper _) GX;have I:Inv (nQ CX P w K mg base N qual scope f cdv A outer s H E) [] (start N vs) H s1:=Ec S hr.hd e0 hl r x;refine wpAny_mono (ht [] s1 (start N vs) H _ I hq) (λfl s' hs=>?_) λe s' hs=>hs;have fin:∀ {σ':St}{H':Hp}{v:V}{u:S6},Inv (nQ CX P w K mg base N qual scope f cdv A outer s H E) [] σ' H' s'->RelV v u->Q v H'->CE outer P w H s Q u s':=
  λ{σ' H' v u} J rv q=>⟨v,H',J.os,J.bare,J.base,J.hok,rv,q⟩
 cases fl with
 | ret u=>
  obtain⟨v,σ',H',J,rv,q⟩:=hs;exact fin J rv q
 | next=>
  obtain⟨σ',H',J,q⟩:=hs;exact fin (v:=V.non) (u:=Value.none) J rfl q
 | brk=>
  obtain⟨_,_,_,q⟩:=hs;exact False.elim q
 | cont=>
  obtain⟨_,_,_,q⟩:=hs;exact False.elim q
section
variable {X:Cx}{x:Str}{p pos:Pos}{e:Expr}{es:List Expr}{t:TA}{id T:String}{r:List V->Hp->VK->Prop}
def Wm(r:List V->Hp->VK->Prop)(t:TA):TE:=λσ H Q=>t σ H λvs H1=>r vs H1 Q
def wY(hc:CallR X (.builtin id) r)(hg:Gl X x)(hm:X.mg x=none)(hv:bootBuiltins x=some (.builtin id))(ha:PA X (e::es) t)(hn:x≠"__name__":=by decide)(Z7:(x==("__debug__":Str))=false:=by decide)(he:starEach (e::es) X.env=(false,eval e X.env)::starEach es X.env:=by rfl)(X8:(backTo pos (starEach es X.env)).any (·.1)=false:=by rfl):PE X (.Call (.Name x p) (e::es) [] pos) (Wm r t):=by
 intro pins s σ H Q I h;refine wpAny_Call_Name_kw (pY I hg hm hv ?_ hn Z7);exact PyProof.Rows.callWith_builtin1 (bH (ha pos pins s σ H _ I h) λus s1 ⟨vs,H1,I1,r1,q1⟩=>hc pins s1 σ H1 vs us Q I1 r1 q1) he X8
def Ed(hc:CallR X (.type T) r)(hg:Gl X x)(hm:X.mg x=none)(hv:bootBuiltins x=some (.type T))(ha:PA X (e::es) t)(hn:x≠"__name__":=by decide)(Z7:(x==("__debug__":Str))=false:=by decide)(he:starEach (e::es) X.env=(false,eval e X.env)::starEach es X.env:=by rfl)(X8:(backTo pos (starEach es X.env)).any (·.1)=false:=by rfl):PE X (.Call (.Name x p) (e::es) [] pos) (Wm r t):=by
 intro pins s σ H Q I h;refine wpAny_Call_Name_kw (pY I hg hm hv ?_ hn Z7);exact PyProof.Rows.callWith_type1 (bH (ha pos pins s σ H _ I h) λus s1 ⟨vs,H1,I1,r1,q1⟩=>hc pins s1 σ H1 vs us Q I1 r1 q1) he X8
end
end L2
namespace HT
open PySem PyProof.Rows
section
variable {prog:Program}{w:World}{A:Around}{E:ZB}{s:PP}
def cat_tup{t b:TD}{vs ws:List S6}{Q:ZB}(ht:IsTup s.heap t vs.toArray)(hb:IsTup s.heap b ws.toArray)(hv:vs≠[])(h1:ws=[]->Q (.ref t) s)(h2:ws≠[]->Q (.ref s.heap.objs.size) {s with heap:=s.heap.push {cls:=.type "tuple",data:=.seq (vs++ws).toArray } })(hsz:vs.length+ws.length<=sizeLine):wpAny (model prog w) A (binaryOp .Add (.ref t) (.ref b)) Q E s:=by
 obtain⟨⟨cls,dd,data,sl⟩,ho,hc,n,hd⟩:=id ht;obtain⟨⟨VO,TF,data2,TH⟩,DY,OA,n2,hd2⟩:=id hb;simp only at hc hd OA hd2;subst hc hd OA hd2;have e:vs.toArray++ws.toArray=(vs++ws).toArray:=by simp
 by_cases hw:ws=[]
 ·exact concat_meets ⟨_,ho,rfl⟩ ⟨_,DY,rfl⟩ noFill_tuple_add seq_tuple_add PySem.F.slot_tuple_add PySem.F.entry_tuple_add (PySem.F.args_tuple_add_2 _ _)
   (tuple_addW1 t b vs.toArray ws.toArray n n2 dd TF sl TH (by simpa using hv) (by simp[hw])) ⟨ho,DY,h1 hw⟩
 ·refine concat_meets ⟨_,ho,rfl⟩ ⟨_,DY,rfl⟩ noFill_tuple_add seq_tuple_add PySem.F.slot_tuple_add PySem.F.entry_tuple_add (PySem.F.args_tuple_add_2 _ _)
   (tuple_addW2 t b vs.toArray ws.toArray n n2 dd TF sl TH (by simpa using hv) (by simpa using hw) (by rw[dR,dR];exact hsz)) ⟨ho,DY,?_⟩
  rw[e];exact h2 hw
def sIx(n d:Nat):Option Int->Nat
 | none=>d
 | some v=>if v<0 then (v+(n:Int)).toNat else min v.toNat n
def sIx_none(n d:Nat):sIx n d none=d:=rfl
def sIx_nat(n d k:Nat):sIx n d (some (k:Int))=min k n:=by
 show(if (k:Int)<0 then ((k:Int)+(n:Int)).toNat else min (k:Int).toNat n)=min k n;rw[IS Zo,Int.toNat_natCast]
def Tu(n d:Nat)(hd:d<=n)(o:Option Int):sIx n d o<=n:=by
 cases o with
 | none=>exact hd
 | some v=>
  show(if v<0 then (v+(n:Int)).toNat else min v.toNat n)<=n;by_cases hv:v<0
  ·rw[NE hv];omega
  ·rw[IS hv];exact Nat.min_le_right _ _
def Bd(v:Int)(n d:Nat):(if v<0 then max (v+(n:Int)) 0 else min v (n:Int))=((sIx n d (some v):Nat):Int):=by
 show(if v<0 then max (v+(n:Int)) 0 else min v (n:Int))=(((if v<0 then (v+(n:Int)).toNat else min v.toNat n):Nat):Int);by_cases hv:v<0
 ·simp only [NE hv];omega
 ·simp only [IS hv];omega
def zK(lo hi:Option Int)(n:Nat):Builtin.Slice.sliceAdjust lo hi 1 (n:Int)=(((sIx n 0 lo:Nat):Int),((sIx n n hi:Nat):Int)):=by
 have h1:¬ ((1:Int)<0):=by omega
 unfold Builtin.Slice.sliceAdjust;simp only [h1,if_false];refine Prod.ext ?_ ?_
 ·cases lo with
  | none=>rfl
  | some v=>exact Bd v n 0
 ·cases hi with
  | none=>rfl
  | some v=>exact Bd v n n
def zL(i j:Nat):Builtin.Slice.slicePlaces (i:Int) (j:Int) 1=j-i:=by
 unfold Builtin.Slice.slicePlaces;have h1:(1:Int)>0:=by omega
 simp only [h1,if_true,Int.ediv_one];split<;>omega
def qA{v:S6}{o:Option Int}{Q:Option Int->PP->Prop}(p:IsPart v o)(h:Q o s):wpAny (model prog w) A (Builtin.Slice.slicePartIndex v) Q E s:=by
 cases p with
 | none=>exact slicePart_none h
 | int i t=>exact slicePart_int h
def sliceApplied_gen{sl:TD}{vl vu:S6}{lo hi:Option Int}{n:Nat}{Q:Int×Int×Nat->PP->Prop}(hs:s.heap.IsSliceOf sl vl vu .none)(pl:IsPart vl lo)(pu:IsPart vu hi)(h:Q (((sIx n 0 lo:Nat):Int),1,sIx n n hi-sIx n 0 lo) s):wpAny (model prog w) A (Builtin.Slice.sliceApplied (.ref sl) (pure (n:Int))) Q E s:=by
 obtain⟨os,JZ,MZ,OB⟩:=id hs;unfold Builtin.Slice.sliceApplied Builtin.Slice.sliceFields;refine XV (XV (wpAny_field JZ OB (x:=vl) rfl (XV (wpAny_field JZ OB (x:=vu) rfl (XV (wpAny_field JZ OB (x:=.none) rfl (W1 ?_)))))));refine XV (slicePart_none ?_);show wpAny _ _ (if ((1:Int)==0)=true then _ else _) _ _ s;rw[IS Zd];refine XV (qA pl (XV (qA pu (XV (W1 ?_)))));show wpAny _ _ (match Builtin.Slice.sliceAdjust lo hi 1 (n:Int) with|(lo,hi)=>pure (lo,(1:Int),Builtin.Slice.slicePlaces lo hi 1)) _ _ s;rw[zK lo hi n];show wpAny _ _ (pure (((sIx n 0 lo:Nat):Int),(1:Int),Builtin.Slice.slicePlaces ((sIx n 0 lo:Nat):Int) ((sIx n n hi:Nat):Int) 1)) _ _ s;rw[zL];exact W1 h
def Hj(xs:Array Value)(i k:Nat):((List.range k).filterMap λ(m:Nat)=>xs[((i:Int)+(m:Int)*1).toNat]?).toArray=((xs.toList.drop i).take k).toArray:=by
 have e:(λ(m:Nat)=>xs[((i:Int)+(m:Int)*1).toNat]?)=λm=>xs[i+m]?:=by
  funext m
  have:((i:Int)+(m:Int)*1).toNat=i+m:=by omega
  rw[this]
 rw[e];have:=pick_run xs i k;rw[List.filterMap_map]at this;have e2:((λx=>xs[x]?)∘λx=>i+x)=λm=>xs[i+m]?:=rfl
 rw[e2]at this;rw[this]
def getItem_tuple_cut{t sl:TD}{items:Array Value}{vl vu:S6}{lo hi:Option Int}{Q:ZB}(ht:IsTup s.heap t items)(hs:s.heap.IsSliceOf sl vl vu .none)(pl:IsPart vl lo)(pu:IsPart vu hi)(hw:¬ (sIx items.size 0 lo=0/\sIx items.size items.size hi=items.size))(h:Q (.ref s.heap.objs.size) {s with heap:=s.heap.push {cls:=.type "tuple",data:=.seq ((items.toList.drop (sIx items.size 0 lo)).take (sIx items.size items.size hi-sIx items.size 0 lo)).toArray } })(hsz:items.size<=sizeLine):wpAny (model prog w) A (getItem (.ref t) (.ref sl)) Q E s:=by
 have CG:sizeOk (.seq ((items.toList.drop (sIx items.size 0 lo)).take (sIx items.size items.size hi-sIx items.size 0 lo)).toArray):=by
  show((items.toList.drop (sIx items.size 0 lo)).take (sIx items.size items.size hi-sIx items.size 0 lo)).toArray.size<=sizeLine;rw[dR,mV,length_drop,Array.length_toList];omega
 have hj:sIx items.size items.size hi<=items.size:=Tu _ _ (bZ _) hi;obtain⟨os,JZ,MZ,OB⟩:=id hs;have VP:s.TypeIs (.ref sl) "slice":=⟨os,JZ,MZ⟩;unfold getItem;try with_reducible refine wpAny_holding ?_
 first|refine XV (W1 ?_)|skip
 refine XV (wpAny_sequenceKey ht.typeIs Zd ?_);refine XV (wpAny_callSpecial?_slot (name:=Str.ofString "__getitem__") ht.typeIs PyProof.Rows.slot_tuple_getitem
  (wpAny_call_entry PyProof.Rows.slot_tuple_getitem ht.typeIs entry_tuple_getitem ?_ (args_tuple_getitem _ _)))
 show wpAny _ _ (Builtin.Tuple.tupleItemsOf (.ref t)>>=_) _ _ s;refine XV (tupleItemsOf_ ht ?_);refine XV (wpAny_typeOf VP ?_);rw[NE Zd];refine XV (sliceApplied_gen hs pl pu ?_);have AG:¬ ((((sIx items.size 0 lo:Nat):Int)==0&&(1:Int)==1&&(sIx items.size items.size hi-sIx items.size 0 lo)==items.size)=true):=by
  intro q;rw[Bool.and_eq_true,Bool.and_eq_true]at q;have q1:((sIx items.size 0 lo:Nat):Int)=0:=eq_of_beq q.1.1;have q2:sIx items.size items.size hi-sIx items.size 0 lo=items.size:=eq_of_beq q.2;exact hw ⟨Zo,Zo⟩
 show wpAny _ _ (if (((sIx items.size 0 lo:Nat):Int)==0&&(1:Int)==1&&(sIx items.size items.size hi-sIx items.size 0 lo)==items.size)=true then _ else _) _ _ s;rw[IS AG,Hj];first
  | exact XV (m:=Builtin.Tuple.tupleExact _) (wpAny_newObj_type (W1 ⟨_,rfl,W1 h⟩) CG)
  | exact XV (m:=Builtin.Tuple.tupleExact _) (wpAny_newObj_type (XV (W1 (W1 ⟨_,rfl,W1 h⟩))) CG)
  | exact XV (XV (m:=Builtin.Tuple.tupleExact _) (wpAny_newObj_type (W1 (W1 ⟨_,rfl,W1 h⟩)) CG))
  | exact XV (XV (m:=Builtin.Tuple.tupleExact _) (wpAny_newObj_type (W1 ⟨_,rfl,W1 h⟩) CG))
end
end HT
namespace L2
open PySem PySem.Spec PyProof.Rows
abbrev TO:=St->Hp->(Option Int->Hp->Prop)->Prop
def PO(X:Cx)(e:Option Expr)(t:TO):Prop:=
 ∀(pins:Z5)(s:PP)(σ:St)(H:Hp)(Q:Option Int->Hp->Prop),Inv X pins σ H s->t σ H Q →
  wpAny (model X.prog X.w) X.A (evalPart e X.env) (λu s'=>∃o H',Inv X pins σ H' s'/\IsPart u o/\Q o H') X.xe s
def Be:TO:=λ_ H Q=>Q none H
def Hk(t:TE):TO:=λσ H Q=>t σ H λx H1=>∃i,x=.int i/\Q (some i) H1
def qB{ns:List Int}:∀ {us:List S6},Vals (ns.map V.int) us->IntsAre us ns:=by
 induction ns with
 | nil=>intro us r;rw[map_nil]at r;cases r;exact .nil
 | cons n ns ih=>
  intro us r;rw[map_cons]at r;cases r with
  | cons r1 r2=>
   obtain⟨t,e⟩:=r1;subst e;exact .cons n t (ih r2)
section
variable {X:Cx}{e:Expr}{te:TE}{lo hi:Option Expr}{tl th:TO}{pos p2:Pos}
def Nm:PO X none Be:=by
 intro pins s σ H Q I h;rw[evalPart_none];exact W1 ⟨none,H,I,.none,h⟩
def Nn(h:PE X e te):PO X (some e) (Hk te):=by
 intro pins s σ H Q I hw;rw[evalPart_some];refine bH (h pins s σ H _ I hw) ?_;rintro u s1 ⟨x,H1,I1,r1,q1⟩
 obtain⟨i,rfl,q⟩:=q1;obtain⟨t,rfl⟩:=r1;exact⟨some i,H1,I1,.int i t,q⟩
def SlR(X:Cx)(r:V->Option Int->Option Int->Hp->VK->Prop):Prop:=
 ∀(pins:Z5)(s:PP)(σ:St)(H:Hp)(x:V)(v vl vu:S6)(lo hi:Option Int)(sl:TD)(Q:VK),Inv X pins σ H s->RelV x v->s.heap.IsSliceOf sl vl vu .none->IsPart vl lo->IsPart vu hi->r x lo hi H Q →
  ∃T id,typeLookup (.type T) "__getitem__"=pure (some (.builtin id))/\s.TypeIs v T/\wpAny (model X.prog X.w) X.A (getItem v (.ref sl)) (EP X pins σ Q) X.xe s
def tSl(r:V->Option Int->Option Int->Hp->VK->Prop)(te:TE)(tl th:TO):TE:=λσ H Q=>te σ H λx H1=>tl σ H1 λl H2=>th σ H2 λu H3=>r x l u H3 Q
def Hl{r:V->Option Int->Option Int->Hp->VK->Prop}(hr:SlR X r)(he:PE X e te)(hl:PO X lo tl)(hu:PO X hi th):PE X (.Subscript e (.Slice lo hi none p2) pos) (tSl r te tl th):=by
 intro pins s σ H Q I h;refine Subscript_ (bH (he pins s σ H _ I h) ?_);rintro v s1 ⟨x,H1,I1,r1,q1⟩;refine wpAny_Slice (bH (hl pins s1 σ H1 _ I1 q1) λvl s2 ⟨l,H2,I2,pl,q2⟩=>bH (hu pins s2 σ H2 _ I2 q2) ?_);rintro vu s3 ⟨u,H3,I3,pu,q3⟩;rw[evalPart_none];refine W1 ?_;have I4:Inv X pins σ H3 {s3 with heap:=s3.heap.push {cls:=.type "slice",data:=.fields #[vl,vu,.none] } }:=I3.kept (t':=s3.toks) λb ob q=>gU _ q
 obtain⟨T,id,hT,ht,hg⟩:=hr pins {s3 with heap:=s3.heap.push {cls:=.type "slice",data:=.fields #[vl,vu,.none] } } σ H3 x v vl vu l u s3.heap.objs.size Q I4 r1 (Heap.IsSliceOf.new ..) pl pu q3;show wpAny (model X.prog X.w) X.A (subscriptTail e (.Slice lo hi none p2) v (.ref s3.heap.objs.size)) (EP X pins σ Q) X.xe {s3 with heap:=s3.heap.push {cls:=.type "slice",data:=.fields #[vl,vu,.none] } };exact tail_any (ops:=[.ref s3.heap.objs.size,v]) ht hT hg (by with_unfolding_all rfl)
def Ee(xs:List V)(lo hi:Option Int):List V:=(xs.drop (HT.sIx xs.length 0 lo)).take (HT.sIx xs.length xs.length hi-HT.sIx xs.length 0 lo)
def oW(xs:List V)(lo hi:Option Int):(Ee xs lo hi).length<=xs.length:=by
 unfold Ee;rw[mV,length_drop];omega
def aAl(K:W.Frag):V->Option Int->Option Int->Hp->VK->Prop:=λx lo hi H Q=>∃a xs,x=.ref a/\SqT K H a xs ∧
 ¬ (HT.sIx xs.length 0 lo=0/\HT.sIx xs.length xs.length hi=xs.length)/\∀p,H p=none->Q (.ref p) (aH H p (.tup (Ee xs lo hi)))
def Tv:SlR X (aAl X.K):=by
 intro pins s σ H x v vl vu lo hi sl Q I rx hs pl pu h;obtain⟨a,xs,rfl,hx,hw,q⟩:=h;cases rx;obtain⟨its,r,ht,hz⟩:=I.tuple hx;have hlen:its.toArray.size=xs.length:=by rw[dR];exact r.length.symm
 refine⟨"tuple",_,PyProof.Rows.slot_tuple_getitem.lookup,ht.typeIs,?_⟩;refine HT.getItem_tuple_cut ht hs pl pu (by rw[hlen];exact hw) ?_ (by rw[hlen];exact hz);rw[hlen];refine⟨.ref s.heap.objs.size,_,I.laid (t':=s.toks) (o:=.tup (Ee xs lo hi)) (λb ob q=>gU _ q) (bZ _) ?_,rfl,q _ (I.hok.fresh (bZ _))⟩;exact⟨eS (oW xs lo hi) hz,_,(r.drop (HT.sIx xs.length 0 lo)).take (HT.sIx xs.length xs.length hi-HT.sIx xs.length 0 lo),IsTup.new _ _⟩
def Xm(K:W.Frag):R2:=λx y H Q=>∃a b xs ys,x=.ref a/\y=.ref b/\SqT K H a xs/\SqT K H b ys/\xs≠[]/\xs.length+ys.length<=sizeLine ∧
 (ys=[]->Q (.ref a) H)/\(ys≠[]->∀p,H p=none->Q (.ref p) (aH H p (.tup (xs++ys))))
def Vals.nil_iff{xs:List V}{us:List S6}(r:Vals xs us):us=[]↔xs=[]:=by
 cases r with
 | nil=>simp
 | cons _ _=>simp
def No:OpR X (binaryOp .Add) (Xm X.K):=by
 intro pins s σ H x y v u Q I rx ry h;obtain⟨a,b,xs,ys,rfl,rfl,ha,hb,hx,hz,q1,q2⟩:=h;cases rx;cases ry;obtain⟨its,r1,p1,_⟩:=I.tuple ha;obtain⟨i7,r2,p2,_⟩:=I.tuple hb;refine HT.cat_tup p1 p2 (λz=>hx (r1.nil_iff.mp z)) (λz=>⟨.ref a,H,I,rfl,q1 (r2.nil_iff.mp z)⟩) (λz=>?_) (by rw[<- r1.length,<- r2.length];exact hz);refine⟨.ref s.heap.objs.size,_,I.laid (t':=s.toks) (o:=.tup (xs++ys)) (λb ob q=>gU _ q) (bZ _) ?_,rfl,q2 (λw=>z (r2.nil_iff.mpr w)) _ (I.hok.fresh (bZ _))⟩;exact⟨by rw[wM];exact hz,_,r1.append r2,IsTup.new _ _⟩
end
def Qz(n:Nat)(i:Int):Option Nat:=if 0<=i then (if i<n then some i.toNat else none) else if -(n:Int)<=i then some (i+n).toNat else none
def nV{α:Type}(xs:List α)(i:Int):Option α:=(Qz xs.length i).bind λj=>xs[j]?
def Bf{n:Nat}{i:Int}{j:Nat}(h:Qz n i=some j):seqIndex? i n=some j/\j<n/\-(n:Int)<=i/\i<n:=by
 unfold Qz at h;by_cases h0:0<=i
 ·rw[NE h0]at h;by_cases h1:i<n
  ·rw[NE h1]at h;have e:i.toNat=j:=Option.some.inj h;exact⟨by rw[seqIndex_of h0 h1,e],Zo,Zo,h1⟩
  ·rw[IS h1]at h;cases h
 ·rw[IS h0]at h;by_cases h1:-(n:Int)<=i
  ·rw[NE h1]at h;have e:(i+n).toNat=j:=Option.some.inj h;exact⟨by rw[seqIndex_neg Zo h1,e],Zo,h1,Zo⟩
  ·rw[IS h1]at h;cases h
def uW{α:Type}{xs:List α}{i:Int}{v:α}(h:nV xs i=some v):∃j,seqIndex? i xs.length=some j/\xs[j]?=some v/\j<xs.length/\-(xs.length:Int)<=i/\i<xs.length:=by
 unfold nV at h;cases e:Qz xs.length i with
 | none=>rw[e]at h;cases h
 | some j=>
  rw[e]at h;obtain⟨h1,h2,h3,h4⟩:=Bf e;exact⟨j,h1,h,h2,h3,h4⟩
def fQ{α:Type}{xs:List α}{j:Nat}{v:α}(h:xs[j]?=some v):nV xs (j:Int)=some v:=by
 have hj:j<xs.length:=(Zgs.mp h).1;have e:Qz xs.length (j:Int)=some j:=by
  unfold Qz;rw[NE Zo,NE Zo];simp
 unfold nV;rw[e];exact h
def uX(b:Expr):Prop:=∀o i,subscripted b false o i=operate [o,i] (getItem o i)
def IxR(X:Cx)(r:R2):Prop:=
 ∀(value slice:Expr)(pins:Z5)(s:PP)(σ:St)(H:Hp)(x y:V)(v u:S6)(Q:VK),Inv X pins σ H s->RelV x v->RelV y u->r x y H Q →
  subscripted slice false v u=operate [v,u] (getItem v u)->wpAny (model X.prog X.w) X.A (subscriptTail value slice v u) (EP X pins σ Q) X.xe s
def Tw(X:Cx)(id:String)(r:V->List V->Hp->VK->Prop):Prop:=
 ∀(pins:Z5)(s:PP)(σ:St)(H:Hp)(x:V)(xs:List V)(v:S6)(us:List S6)(Q:VK),Inv X pins σ H s->RelV x v->Vals xs us->r x xs H Q →
  wpAny (model X.prog X.w) X.A (call (.builtin id) (v::us)) (EP X pins σ Q) X.xe s
section
variable {X:Cx}{a b:Expr}{ta tb:TE}{pos:Pos}
def Xn{r:R2}(hr:IxR X r)(ha:PE X a ta)(hb:PE X b tb)(hs:uX b):PE X (.Subscript a b pos) (Hb r ta tb):=by
 intro pins s σ H Q I h;exact Subscript_ (Tj ha hb I h λv u s2 x y H2 I2 rx ry q=>hr a b pins s2 σ H2 x y v u Q I2 rx ry q (hs _ _))
def aAm(K:W.Frag):R2:=λx y H Q=>∃p xs i v,x=.ref p/\y=.int i/\SqL K H p xs/\nV xs i=some v/\Q v H
def aAn(K:W.Frag):R2:=λx y H Q=>∃p xs i v,x=.ref p/\y=.int i/\SqT K H p xs/\nV xs i=some v/\Q v H
def aAo:R2:=λx y H Q=>∃z i c,x=.str z/\y=.int i/\z.length<=sizeLine/\nV z.cps.toList i=some c/\Q (.str ⟨#[c]⟩) H
def Np:IxR X (aAm X.K):=by
 intro value slice pins s σ H x y v u Q I rx ry h hs;obtain⟨p,xs,i,z,rfl,rfl,hq,he,q⟩:=h;cases rx;obtain⟨t,rfl⟩:=ry;obtain⟨its,r,pl,hz⟩:=I.list hq;obtain⟨j,h1,h2,h3,h4,h5⟩:=uW he;obtain⟨w,ew,pz⟩:=r.get h2;have hl:=r.length;have hn:=nG;have fin:EP X pins σ Q w s:=⟨z,H,I,pz,q⟩;by_cases h0:0<=i
 ·have hj:i.toNat=j:=by
   rw[seqIndex_of h0 h5]at h1;exact Option.some.inj h1
  exact item_listR pl.isList h0 Zo (by rw[hj];simpa using ew) fin hs
 ·have hj:(i+(its.toArray.size:Int)).toNat=j:=by
   rw[seqIndex_neg Zo h4]at h1;rw[dR,<- hl];exact Option.some.inj h1
  exact subscriptTail_builtinR (x:=w) pl.isList.typeIs slot_list_getitem.lookup
   (wpAny_getItem_list_neg (Q:=λr s'=>r=w/\EP X pins σ Q r s') pl.isList Zo (by rw[dR]<;>omega) Zo (by rw[hj];simpa using ew) ⟨rfl,fin⟩) hs
def Tx:IxR X (aAn X.K):=by
 intro value slice pins s σ H x y v u Q I rx ry h hs;obtain⟨p,xs,i,z,rfl,rfl,hq,he,q⟩:=h;cases rx;obtain⟨t,rfl⟩:=ry;obtain⟨its,r,pl,hz⟩:=I.tuple hq;obtain⟨j,h1,h2,h3,h4,h5⟩:=uW he;obtain⟨w,ew,pz⟩:=r.get h2;have hl:=r.length;have hn:=nG;have fin:EP X pins σ Q w s:=⟨z,H,I,pz,q⟩;exact subscriptTail_builtinR (x:=w) pl.typeIs slot_tuple_getitem.lookup
  (getItem_tuple (j:=j) (Q:=λr s'=>r=w/\EP X pins σ Q r s') pl Zo Zo (by rw[dR,<- hl];exact h1) (by simpa using ew) ⟨rfl,fin⟩) hs
def Ty:IxR X aAo:=by
 intro value slice pins s σ H x y v u Q I rx ry h hs;obtain⟨z,i,c,rfl,rfl,hz,he,q⟩:=h;obtain⟨t,rfl⟩:=rx;obtain⟨t',rfl⟩:=ry;obtain⟨j,h1,h2,h3,h4,h5⟩:=uW he;have hl:z.cps.toList.length=z.length:=by simp[Str.length]
 rw[hl]at h1 h4 h5;have hn:=nG;exact tail_any (typeIs_str s z t) slot_str_getitem.lookup (getItem_str (c:=c) (by
  have e1:decide (i < -(2 ^ 63:Int))=false:=UF Zo;have e2:decide (i ≥ 2 ^ 63)=false:=UF Zo;rw[e1,e2,Bool.or_false]) (by rw[h1];simpa using h2) ⟨.str ⟨#[c]⟩,H,I.tok _,⟨_,rfl⟩,q⟩) hs
def zM(its:List S6)(n j:Nat)(u:S6):Obj.mapSeq (·.setIfInBounds j u) {cls:=.type "list",data:=.seq its.toArray n }={cls:=.type "list",data:=.seq (its.set j u).toArray n }:=by
 simp[Obj.mapSeq]
def Inv.lst{pins:Z5}{σ:St}{H:Hp}{s:PP}{p:TD}{xs:List V}(I:Inv X pins σ H s)(h:H p=some (.lst xs)) :
  ∃(its:List S6)(n:Nat),Vals xs its/\s.heap.get? p=some {cls:=.type "list",data:=.seq its.toArray n }/\xs.length<=sizeLine:=by
 obtain⟨z,its,n,r,e⟩:=I.hok p _ h;exact⟨its,n,r,e,z⟩
def Inv.lstUpd{pins:Z5}{σ:St}{H:Hp}{s:PP}{p:TD}{xs ys:List V}{its its':List S6}{n n':Nat}{f:Obj->Obj}(I:Inv X pins σ H s)(h:H p=some (.lst xs))(ho:s.heap.get? p=some {cls:=.type "list",data:=.seq its.toArray n })(hf:f {cls:=.type "list",data:=.seq its.toArray n }={cls:=.type "list",data:=.seq its'.toArray n' })(r:Vals ys its')(hz:ys.length<=sizeLine)(t:Nat) :
  Inv X pins σ (aH H p (.lst ys)) {s with heap:=s.heap.update p f,toks:=t }:=by
 have e:(s.heap.update p f).get? p=some {cls:=.type "list",data:=.seq its'.toArray n' }:=by
  rw[Heap.get?_update_self f ho (by rw[hf]<;>rfl),hf]
 refine I.write (x:=p) (e:=p) (by rw[h];trivial) (.inl rfl) (λb u hb q=>(Heap.get?_update_other _ _ (Ne.symm hb)).trans q) ⟨_,e⟩ ?_;exact⟨hz,its',n',r,e⟩
def Ra:V->V->V->Hp->(Hp->Prop)->Prop:=λo i v H Q=>∃p xs k j,o=.ref p/\i=.int k/\H p=some (.lst xs)/\Qz xs.length k=some j/\Q (aH H p (.lst (xs.set j v)))
def Hm:Mu X Ra:=by
 intro pins s σ H o i v ov iv u Q I ro ri rv h;obtain⟨p,xs,k,j,rfl,rfl,hp,hj,q⟩:=h;cases ro;obtain⟨t,rfl⟩:=ri;obtain⟨its,n,r,ho,hz⟩:=I.lst hp;obtain⟨h1,h2,h3,h4⟩:=Bf hj;have hl:=r.length;have hn:=nG;have I':Inv X pins σ (aH H p (.lst (xs.set j v))) {s with heap:=s.heap.update p (Obj.mapSeq (·.setIfInBounds j u)) }:=
  I.lstUpd hp ho (zM its n j u) (r.set rv j) (by rw[List.length_set];exact hz) s.toks
 by_cases h0:0<=k
 ·have hk:k.toNat=j:=by
   rw[seqIndex_of h0 h4]at h1;exact Option.some.inj h1
  exact W.ki_setAt ho h0 Zo (by rw[dR,<- hl];exact h4) (by rw[hk];exact⟨_,I',q⟩)
 ·have hk:(k+(its.toArray.size:Int)).toNat=j:=by
   rw[seqIndex_neg Zo h3]at h1;rw[dR,<- hl];exact Option.some.inj h1
  exact W.ki_setBack ho Zo (by rw[dR,<- hl];exact h3) Zo (by rw[hk];exact⟨_,I',q⟩)
def uY(lo hi:Option Int)(n:Nat):(sliceBounds lo hi none n).1=((HT.sIx n 0 lo:Nat):Int)/\(sliceBounds lo hi none n).2.1=((HT.sIx n n hi:Nat):Int)/\(sliceBounds lo hi none n).2.2=1:=by
 refine⟨?_,?_,rfl⟩
 ·cases lo with
  | none=>simp[sliceBounds,HT.sIx]
  | some i=>
   simp only [sliceBounds,HT.sIx,Option.getD_none,show(1:Int)>0 by decide,if_true];by_cases h:i<0
   ·simp only [h,if_true]<;>omega
   ·simp only [h,if_false]<;>omega
 ·cases hi with
  | none=>simp[sliceBounds,HT.sIx]
  | some i=>
   simp only [sliceBounds,HT.sIx,Option.getD_none,show(1:Int)>0 by decide,if_true];by_cases h:i<0
   ·simp only [h,if_true]<;>omega
   ·simp only [h,if_false]<;>omega
def rN(its:List S6)(lo hi:Option Int):slicePick its.toArray lo hi none=((its.drop (HT.sIx its.length 0 lo)).take (HT.sIx its.length its.length hi-HT.sIx its.length 0 lo)).toArray:=by
 obtain⟨h1,h2,h3⟩:=uY lo hi its.toArray.size;unfold slicePick;rw[h1,h2,h3];simp only [sliceRange_one,pick_run,dR]<;>rfl
def aAp(K:W.Frag):V->Option Int->Option Int->Hp->VK->Prop:=λx lo hi H Q=>∃a xs,x=.ref a/\SqL K H a xs/\∀p,H p=none->Q (.ref p) (aH H p (.lst (Ee xs lo hi)))
def Nq:SlR X (aAp X.K):=by
 intro pins s σ H x v vl vu lo hi sl Q I rx hs pl pu h;obtain⟨a,xs,rfl,hx,q⟩:=h;cases rx;obtain⟨its,r,ht,hz⟩:=I.list hx;have hlen:=r.length;refine⟨"list",_,slot_list_getitem.lookup,ht.isList.typeIs,?_⟩;refine wpAny_getItem_list_slice ht.isList hs pl pu .none Zs ?_ (by rw[dR]<;>omega);rw[rN,<- hlen];refine⟨.ref s.heap.objs.size,_,I.laid (t':=s.toks) (o:=.lst (Ee xs lo hi)) (λb ob q=>gU _ q) (bZ _) ?_,rfl,q _ (I.hok.fresh (bZ _))⟩;exact⟨eS (oW xs lo hi) hz,_,0,(r.drop (HT.sIx xs.length 0 lo)).take (HT.sIx xs.length xs.length hi-HT.sIx xs.length 0 lo),TW _ rfl⟩
def dA:V->Bool
 | .non=>true
 | .bl _=>true
 | .int _=>true
 | .str _=>true
 | _=>false
def Ef:V->V->Bool
 | .non,.non=>true
 | .bl a,.bl b=>a==b
 | .bl a,.int b=>(if a then 1 else 0)==b
 | .int a,.bl b=>a==(if b then 1 else 0)
 | .int a,.int b=>a==b
 | .str a,.str b=>a==b
 | _,_=>false
def Hn{A:Around}{s:PP}{y x:V}{u v:S6}(ry:RelV y u)(rx:RelV x v)(fy:dA y=true)(fx:dA x=true):SeqAt.EqAt A s u v (Ef y x):=by
 cases y with
 | non=>
  cases ry
  cases x with
  | non=>cases rx;exact SeqAt.EqAt.same _
  | bl b=>cases rx;exact SeqAt.EqAt.none_bool b
  | int b=>obtain⟨t,rfl⟩:=rx;exact SeqAt.EqAt.none_int b t
  | str b=>obtain⟨t,rfl⟩:=rx;exact SeqAt.EqAt.none_str b t
  | _=>exact IQ (show false=true from fx) WP
 | bl a=>
  cases ry
  cases x with
  | non=>cases rx;exact SeqAt.EqAt.bool_none a
  | bl b=>cases rx;exact SeqAt.EqAt.bool_bool a b
  | int b=>obtain⟨t,rfl⟩:=rx;exact SeqAt.EqAt.bool_int a b t
  | str b=>obtain⟨t,rfl⟩:=rx;exact SeqAt.EqAt.bool_str a b t
  | _=>exact IQ (show false=true from fx) WP
 | int a=>
  obtain⟨t',rfl⟩:=ry
  cases x with
  | non=>cases rx;exact SeqAt.EqAt.int_none a t'
  | bl b=>cases rx;exact SeqAt.EqAt.int_bool a t' b
  | int b=>obtain⟨t,rfl⟩:=rx;exact SeqAt.EqAt.int_int a t' b t
  | str b=>obtain⟨t,rfl⟩:=rx;exact SeqAt.EqAt.int_str a t' b t
  | _=>exact IQ (show false=true from fx) WP
 | str a=>
  obtain⟨t',rfl⟩:=ry
  cases x with
  | non=>cases rx;exact SeqAt.EqAt.str_none a t'
  | bl b=>cases rx;exact SeqAt.EqAt.str_bool a t' b
  | int b=>obtain⟨t,rfl⟩:=rx;exact SeqAt.EqAt.str_int a t' b t
  | str b=>obtain⟨t,rfl⟩:=rx;exact SeqAt.EqAt.str_str a t' b t
  | _=>exact IQ (show false=true from fx) WP
 | _=>exact IQ (show false=true from fy) WP
def wZ(x:V)(u:S6):Bool:=match u with
 | .none=>Ef .non x
 | .bool b=>Ef (.bl b) x
 | .int i _=>Ef (.int i) x
 | .str z _=>Ef (.str z) x
 | _=>false
def zN{x y:V}{u:S6}(r:RelV y u)(f:dA y=true):wZ x u=Ef y x:=by
 cases y with
 | non=>cases r;rfl
 | bl b=>cases r;rfl
 | int i=>obtain⟨t,rfl⟩:=r;rfl
 | str z=>obtain⟨t,rfl⟩:=r;rfl
 | _=>exact IQ (show false=true from f) WP
def lR{x:V}:∀ {xs:List V}{us:List S6},Vals xs us->xs.all dA=true->us.any (wZ x)=xs.any λy=>Ef y x
 | _,_,.nil,_=>rfl
 | y::xs,u::us,.cons r t,f=>by
  rw[all_cons,Bool.and_eq_true]at f;rw[any_cons,any_cons,zN r f.1,lR t f.2]
def iG{A:Around}{s:PP}{x:V}{v:S6}(rx:RelV x v)(fx:dA x=true):∀ {xs:List V}{us:List S6},Vals xs us->xs.all dA=true->∀u∈us,SeqAt.EqAt A s u v (wZ x u)
 | _,_,.nil,_=>λu hu=>by cases hu
 | y::xs,u::us,.cons r t,f=>λu' hu=>by
  rw[all_cons,Bool.and_eq_true]at f;rcases mem_cons.mp hu with rfl|hu
  ·rw[zN r f.1];exact Hn r rx f.1 fx
  ·exact iG rx fx t f.2 u' hu
def lO(x:V)(xs:List V):Bool:=xs.any λy=>Ef y x
def Wn(K:W.Frag)(neg:Bool):R2:=λx y H Q=>∃p xs,y=.ref p/\(SqL K H p xs∨SqT K H p xs)/\dA x=true/\xs.all dA=true/\Q (.bl (if neg then !lO x xs else lO x xs)) H
def Eg:OpR X (compareOp .In) (Wn X.K false):=by
 intro pins s σ H x y v u Q I rx ry h;obtain⟨p,xs,rfl,hq,fx,fs,q⟩:=h;cases ry;rcases hq with hq|hq
 ·obtain⟨its,r,pl,hz⟩:=I.list hq;refine SeqAt.in_listAt (wZ x) pl.isList (λw hw=>iG rx fx r fs w (by simpa using hw)) ⟨.bl _,H,I,rfl,?_⟩;rw[show its.toArray.any (wZ x)=its.any (wZ x) by simp,lR r fs];exact q
 ·obtain⟨its,r,pl,hz⟩:=I.tuple hq;refine SeqAt.in_tupleAt (wZ x) pl (λw hw=>iG rx fx r fs w (by simpa using hw)) ⟨.bl _,H,I,rfl,?_⟩;rw[show its.toArray.any (wZ x)=its.any (wZ x) by simp,lR r fs];exact q
def uZ:OpR X (compareOp .NotIn) (Wn X.K true):=by
 intro pins s σ H x y v u Q I rx ry h;obtain⟨p,xs,rfl,hq,fx,fs,q⟩:=h;cases ry;rcases hq with hq|hq
 ·obtain⟨its,r,pl,hz⟩:=I.list hq;refine SeqAt.notIn_listAt (wZ x) pl.isList (λw hw=>iG rx fx r fs w (by simpa using hw)) ⟨.bl _,H,I,rfl,?_⟩;rw[show its.toArray.any (wZ x)=its.any (wZ x) by simp,lR r fs];exact q
 ·obtain⟨its,r,pl,hz⟩:=I.tuple hq;refine SeqAt.notIn_tupleAt (wZ x) pl (λw hw=>iG rx fx r fs w (by simpa using hw)) ⟨.bl _,H,I,rfl,?_⟩;rw[show its.toArray.any (wZ x)=its.any (wZ x) by simp,lR r fs];exact q
def vA:CallR X (.builtin "len") (λxs H Q=>∃p ys,xs=[.ref p]/\(SqL X.K H p ys∨SqT X.K H p ys)/\Q (.int ys.length) H):=by
 intro pins s σ H xs us Q I r h;obtain⟨p,ys,rfl,hq,q⟩:=h;obtain⟨u,rfl,rx⟩:=gL r;cases rx;have hn:=nG;rcases hq with hq|hq
 ·obtain⟨its,r',pl,hz⟩:=I.list hq;have hlen:=r'.length;exact Calls.call_len_list pl.isList (by simp only [dR]<;>omega) ⟨.int ys.length,H,I.tok _,⟨s.toks+1,by rw[dR,hlen]⟩,q⟩
 ·obtain⟨its,r',pl,hz⟩:=I.tuple hq;have hlen:=r'.length;exact len_tuple pl (by simp only [dR]<;>omega) ⟨.int ys.length,H,I.tok _,⟨s.toks+1,by rw[dR,hlen]⟩,q⟩
def vB:CallR X (.builtin "len") (λxs H Q=>∃z,xs=[.str z]/\z.length<=sizeLine/\Q (.int z.length) H):=by
 intro pins s σ H xs us Q I r h;obtain⟨z,rfl,hz,q⟩:=h;obtain⟨u,rfl,t,rfl⟩:=gL r;have hn:=nG;exact len_str Zo ⟨.int z.length,H,I.tok _,⟨_,rfl⟩,q⟩
def vC:CallR X (.type "list") (λxs H Q=>∃p ys,xs=[.ref p]/\(SqL X.K H p ys∨SqT X.K H p ys)/\∀l,H l=none->Q (.ref l) (aH H l (.lst ys))):=by
 intro pins s σ H xs us Q I r h;obtain⟨p,ys,rfl,hq,q⟩:=h;obtain⟨u,rfl,rx⟩:=gL r;cases rx;have fin:∀(its:List S6),Vals ys its->ys.length<=sizeLine->∀(h':Heap)(c':Nat),(∀b o',s.heap.get? b=some o'->h'.get? b=some o') →
   h'.get? s.heap.objs.size=some {cls:=.type "list",dict:=none,data:=.seq its.toArray c',slots:=#[] }->EP X pins σ Q (.ref s.heap.objs.size) {s with heap:=h' }:=λits r' hz h' c' kp e=>
  ⟨.ref s.heap.objs.size,_,I.laid (t':=s.toks) kp (bZ _) (show ObjOk X.prog X.w _ h' _ (.lst ys) from⟨hz,its,c',r',e⟩),rfl,q _ (I.hok.fresh (bZ _))⟩
 rcases hq with hq|hq
 ·obtain⟨its,r',pl,hz⟩:=I.list hq;have hlen:=r'.length;obtain⟨o,ho,hc,n,hd⟩:=pl.isList;exact call_list_seq p (.inl rfl) ho hc hd (λh' c' kp e=>fin its r' hz h' c' kp e) (by simp only [dR]<;>omega)
 ·obtain⟨its,r',pl,hz⟩:=I.tuple hq;have hlen:=r'.length;obtain⟨o,ho,hc,n,hd⟩:=pl;exact call_list_seq p (.inr rfl) ho hc hd (λh' c' kp e=>fin its r' hz h' c' kp e) (by simp only [dR]<;>omega)
def rO:CallR X (.type "tuple") (λxs H Q=>∃p ys,xs=[.ref p]/\((SqL X.K H p ys/\∀l,H l=none->Q (.ref l) (aH H l (.tup ys)))∨(SqT X.K H p ys/\Q (.ref p) H))):=by
 intro pins s σ H xs us Q I r h;obtain⟨p,ys,rfl,h⟩:=h;obtain⟨u,rfl,rx⟩:=gL r;cases rx;rcases h with⟨hq,q⟩|⟨hq,q⟩
 ·obtain⟨its,r',pl,hz⟩:=I.list hq;have hlen:=r'.length;refine call_tuple_list pl.isList (λh' kp=>?_) (by simp only [dR]<;>omega);have I1:Inv X pins σ H {s with heap:=h' }:=I.kept (t':=s.toks) kp;have I2:Inv X pins σ (aH H h'.objs.size (.tup ys)) {s with heap:=h'.push {cls:=.type "tuple",data:=.seq its.toArray } }:=
   I1.laid (t':=s.toks) (λb o e=>gU _ e) (bZ _) (show ObjOk X.prog X.w _ _ _ (.tup ys) from⟨hz,its,r',IsTup.new _ _⟩)
  exact⟨.ref h'.objs.size,_,I2,rfl,q _ (I1.hok.fresh (bZ _))⟩
 ·obtain⟨its,r',pl,hz⟩:=I.tuple hq;exact call_tuple_same pl ⟨.ref p,H,I,rfl,q⟩
def tyV(K:W.Frag)(T:String)(x:V)(H:Hp):Prop:=match x with
 | .str _=>T="str"
 | .int _=>T="int"
 | .ref p=>(T="list"/\∃xs,SqL K H p xs)∨(T="tuple"/\∃o,K.lookup p=some o/\o.cls=.type "tuple"/\o.dict=none)∨
   (T="dict"/\((∃kvs,H p=some (.dK kvs))∨∃kvs,H p=some (.dT kvs)))∨(T="set"/\∃S n,H p=some (.set S n))
 | _=>False
def Tz{pins:Z5}{σ:St}{H:Hp}{s:PP}{T:String}{x:V}{v:S6}(I:Inv X pins σ H s)(r:RelV x v)(ty:tyV X.K T x H) :
  s.TypeIs v T/\∀a,v=.ref a->∃ob,s.heap.get? a=some ob/\ob.dict=none:=by
 cases x with
 | str z=>
  obtain⟨t,rfl⟩:=r;cases(show T="str" from ty);exact⟨typeIs_str s z t,λ_ e=>nomatch e⟩
 | int i=>
  obtain⟨t,rfl⟩:=r;cases(show T="int" from ty);exact⟨typeIs_int s i t,λ_ e=>nomatch e⟩
 | ref p=>
  cases r;rcases ty with⟨rfl,xs,hq⟩|⟨rfl,o,hk,hc,hd⟩|⟨rfl,hk⟩|⟨rfl,S,n,hk⟩
  ·obtain⟨its,_,pl,_⟩:=I.list hq;refine⟨pl.isList.typeIs,λa e=>?_⟩;cases e;obtain⟨o,n,e,c,hd,_⟩:=pl;exact⟨o,e,hd⟩
  ·refine⟨⟨o,I.kIn p o hk,hc⟩,λa e=>?_⟩;cases e;exact⟨o,I.kIn _ o hk,hd⟩
  ·have z:∃o,s.heap.get? p=some o/\o.ExactDict:=by
    rcases hk with⟨kvs,hk⟩|⟨kvs,hk⟩
    ·obtain⟨_,_,_,_,o,_,_,e,ex,_⟩:=I.hok p _ hk;exact⟨o,e,ex⟩
    ·obtain⟨_,_,_,_,o,_,_,e,ex,_⟩:=I.hok p _ hk;exact⟨o,e,ex⟩
   obtain⟨o,e,ex⟩:=z;refine⟨⟨o,e,ex.1⟩,λa e2=>?_⟩;cases e2;exact⟨o,e,ex.2.1⟩
  ·obtain⟨o,_,_,_,e,ex,_⟩:=I.hok p _ hk;refine⟨⟨o,e,ex.1⟩,λa e2=>?_⟩;cases e2;exact⟨o,e,ex.2.1⟩
 | _=>exact False.elim ty
def Zw(K:W.Frag)(T:String)(r:V->List V->Hp->VK->Prop)(to:TE)(t:TA):TE:=λσ H Q=>to σ H λx H1=>tyV K T x H1/\t σ H1 λxs H2=>r x xs H2 Q
variable {o e:Expr}{es:List Expr}{to:TE}{t:TA}{name:Str}{apos cpos:Pos}{T id:String}{r:V->List V->Hp->VK->Prop}
def Xo(pa:PlainAttrs T)(slot:Slot T name id)(KA:typeOf (.builtin id)=pure (.type "method_descriptor"))(hm:Tw X id r)(ho:PE X o to)(ha:PA X (e::es) t)(P4:attributeBase o name X.env (eval o X.env)=eval o X.env:=by rfl)(VQ:((backTo cpos (starEach (e::es) X.env)).all (λx=>!x.1)&&(backToKw cpos (keywordEach [] X.env)).all (λx=>x.1.isSome)
   && decide ((e::es).length+([]:List Keyword).length+(if ([]:List Keyword).isEmpty then 0 else 1)<30))=true:=by rfl)(P5:(apos.endLine == cpos.line)=true:=by rfl)(hs:starEach (e::es) X.env=(false,eval e X.env)::starEach es X.env:=by rfl)(KC:(backTo cpos (starEach es X.env)).any (·.1)=false:=by rfl) :
  PE X (.Call (.Attribute o name apos) (e::es) [] cpos) (Zw X.K T r to t):=by
 intro pins s σ H Q I h;refine wpAny_Call_method_late P4 VQ P5 rfl (bH (ho pins s σ H _ I h) ?_);rintro v s1 ⟨x,H1,I1,r1,ty,q1⟩;obtain⟨h1,h2⟩:=Tz I1 r1 ty;refine⟨T,id,pa,slot,KA,h1,h2,?_⟩;have hA:=ha cpos pins s1 σ H1 _ I1 q1;rw[hs]at hA ⊢;refine Calls.callWith_builtin (by show(false||(backTo cpos (starEach es X.env)).any (·.1))=false;rw[KC]<;>rfl) (Calls.evalArgs_plain ?_);exact bH hA λus s2 ⟨vs,H2,I2,r2,q2⟩=>hm pins s2 σ H2 x vs v us Q I2 r1 r2 q2
/- xs.append(e),list.index on a OC tuple .. are Tw facts of 06m -/
end
def Zx(X:Cx)(id:String)(r:V->List V->Hp->VK->Prop):Prop:=
 ∀(pins:Z5)(s:PP)(σ:St)(H:Hp)(x:V)(xs:List V)(v:S6)(us:List S6)(Q:VK),Inv X pins σ H s->RelV x v->Vals xs us->r x xs H Q →
  wpAny (model X.prog X.w) X.A (call (.builtin id) (v::us)) (EP X pins σ Q) X.xe s
def Vals.one:∀ {x:V}{us:List S6},Vals [x] us->∃u,us=[u]/\RelV x u
 | _,_,.cons r .nil=>⟨_,rfl,r⟩
def Vals.two{x y:V}{us:List S6}(h:Vals [x,y] us):∃u v,us=[u,v] ∧ RelV x u ∧ RelV y v:=by
 cases h with|cons r t=>cases t with|cons q t=>cases t;exact⟨_,_,rfl,r,q⟩
def Vals.eraseIdx:∀ {xs:List V}{us:List S6} (i:Nat),Vals xs us->Vals (xs.eraseIdx i) (us.eraseIdx i)
 | _,_,_,.nil=>.nil
 | _,_,0,.cons _ t=>t
 | _,_,i+1,.cons r t=>.cons r (Vals.eraseIdx i t)
def sR{α:Type}:∀(l:List α)(i:Nat),(l.eraseIdx i).length<=l.length
 | [],_=>bZ _
 | _::_,0=>le_succ _
 | _::r,i+1=>Nat.succ_le_succ (sR r i)
section
variable {X:Cx}{pins:Z5}{σ:St}{H:Hp}{s:PP}{l b:TD}{xs ys zs:List V}
def Inv.lset{its its':List S6}{n:Nat}{f:Array Value->Array Value}{t':Nat}(I:Inv X pins σ H s)(hH:H l=some (.lst xs))(e:s.heap.get? l=some {cls:=.type "list",data:=.seq its.toArray n })(hf:f its.toArray=its'.toArray)(hv:Vals ys its')(hz:ys.length<=sizeLine) :
  Inv X pins σ (aH H l (.lst ys)) {s with heap:=s.heap.update l (Obj.mapSeq f),toks:=t' }:=by
 have q:=PySem.IsL.update e f;rw[hf]at q;refine I.write (x:=l) (e:=l) (by rw[hH];exact trivial) (.inl rfl) (λb' u hb hu=>(Heap.get?_update_other s.heap (Obj.mapSeq f) (Ne.symm hb)).trans hu) ⟨_,q⟩ ?_;exact⟨hz,its',_,hv,q⟩
def Inv.lnew{its:List S6}{t':Nat}(I:Inv X pins σ H s)(hv:Vals ys its)(hz:ys.length<=sizeLine) :
  Inv X pins σ (aH H s.heap.objs.size (.lst ys)) {s with heap:=s.heap.push {cls:=.type "list",data:=.seq its.toArray },toks:=t' }:=
 I.laid (λ_ _ q=>gU _ q) (bZ _) ⟨hz,its,0,hv,TW _ rfl⟩
def Inv.fresh(I:Inv X pins σ H s):H s.heap.objs.size=none:=I.hok.fresh (bZ _)
def Inv.lstM(I:Inv X pins σ H s)(hH:H l=some (.lst xs)):xs.length<=sizeLine/\∃(its:List S6)(n:Nat),Vals xs its/\xs.length=its.length/\s.heap.get? l=some {cls:=.type "list",data:=.seq its.toArray n }:=by
 obtain⟨z,its,n,r,e⟩:=I.hok l _ hH;exact⟨z,its,n,r,r.length,e⟩
def Ho{n:Nat}(h:n<=sizeLine):Builtin.List.listTooLong n=false:=by
 unfold Builtin.List.listTooLong;exact UF Zo
end
section
variable {X:Cx}
def Bg:V->List V->Hp->VK->Prop:=λx vs H Q=>∃l xs y,x=.ref l/\vs=[y]/\H l=some (.lst xs)/\xs.length<sizeLine/\Q .non (aH H l (.lst (xs++[y])))
def Eh:Zx X "list.append" Bg:=by
 intro pins s σ H x vs v us Q I rx rv h;obtain⟨l,xs,y,rfl,rfl,hH,hz,q⟩:=h;cases rx;obtain⟨u,rfl,ru⟩:=rv.one;obtain⟨z,its,n,r,hl,e⟩:=I.lstM hH;refine call_meets F.slot_list_append ⟨_,e,rfl⟩ F.entry_list_append (F.args_list_append_2 _ _) (PySem.list_append l its.toArray n u (by rw[dR];omega)) ⟨e,?_⟩;refine⟨.non,_,I.lset (its':=its++[u]) hH e Zs (r.append (.cons ru .nil)) ?_,rfl,q⟩;rw[wM,List.length_singleton];omega
def Bh:V->List V->Hp->VK->Prop:=λx vs H Q=>∃l b xs zs,x=.ref l/\vs=[.ref b]/\H l=some (.lst xs)/\H b=some (.lst zs)/\xs.length+zs.length<=sizeLine/\Q .non (aH H l (.lst (xs++zs)))
def Ei:Zx X "list.extend" Bh:=by
 intro pins s σ H x vs v us Q I rx rv h;obtain⟨l,b,xs,zs,rfl,rfl,hH,hB,hz,q⟩:=h;cases rx;obtain⟨u,rfl,ru⟩:=rv.one;cases ru;obtain⟨z,its,n,r,hl,e⟩:=I.lstM hH;obtain⟨z2,i7,n2,r2,nr,e2⟩:=I.lstM hB;have hsz:its.toArray.size+i7.toArray.size<=sizeLine:=by rw[dR,dR];omega
 have OD:¬ (!its.toArray.isEmpty&&Builtin.List.listTooLong (its.toArray.size+i7.toArray.size))=true:=by
  rw[Ho hsz,Bool.and_false];exact WP
 refine call_meets F.slot_list_extend ⟨_,e,rfl⟩ F.entry_list_extend (F.args_list_extend_2 _ _)
  (AutoSeq1.list_extend_list_list_0 l its.toArray n b i7.toArray n2 OD (by rw[dR];omega) Zo) ⟨e,e2,?_⟩
 refine⟨.non,_,I.lset (its':=its++i7) hH e Zs (r.append r2) ?_,rfl,q⟩;rw[wM];omega
def Hq:V->List V->Hp->VK->Prop:=λx vs H Q=>∃l xs i k y,x=.ref l/\vs=[.int i]/\H l=some (.lst xs)/\-(2^63)<=i/\i<2^63/\seqIndex? i xs.length=some k/\xs[k]?=some y/\Q y (aH H l (.lst (xs.eraseIdx k)))
def Hr:Zx X "list.pop" Hq:=by
 intro pins s σ H x vs v us Q I rx rv h;obtain⟨l,xs,i,k,y,rfl,rfl,hH,h1,h2,hk,hy,q⟩:=h;cases rx;obtain⟨u,rfl,ru⟩:=rv.one;obtain⟨t,rfl⟩:=ru;obtain⟨z,its,n,r,hl,e⟩:=I.lstM hH;obtain⟨w,hw,pz⟩:=r.get hy;refine call_meets F.slot_list_pop ⟨_,e,rfl⟩ F.entry_list_pop (F.args_list_pop_2 _ _)
  (MeetsSeq.list_pop_at l its.toArray n i t k w (fitsIndex_both h1 h2) (by rw[dR,<- hl];exact hk) (by rw[<- Array.getElem?_toList];exact hw) (by rw[dR];omega)) ⟨e,?_⟩
 refine⟨y,_,I.lset (its':=its.eraseIdx k) hH e ?_ (r.eraseIdx k) ?_,pz,q⟩
 ·show its.toArray.eraseIdxIfInBounds k=(its.eraseIdx k).toArray;rw[List.eraseIdxIfInBounds_toArray]
 ·have:=sR xs k;omega
def aAq:R2:=λx y H Q=>∃l b xs zs,x=.ref l/\y=.ref b/\H l=some (.lst xs)/\H b=some (.lst zs)/\xs.length+zs.length<=sizeLine/\∀p,H p=none->Q (.ref p) (aH H p (.lst (xs++zs)))
def Ua:OpR X (binaryOp .Add) aAq:=by
 intro pins s σ H x y v u Q I rx ry h;obtain⟨l,b,xs,zs,rfl,rfl,hH,hB,hz,q⟩:=h;cases rx;cases ry;obtain⟨z,its,n,r,hl,e⟩:=I.lstM hH;obtain⟨z2,i7,n2,r2,nr,e2⟩:=I.lstM hB;refine PySem.P.add_list e e2 ?_ (by rw[dR,dR];omega);have ea:its.toArray++i7.toArray=(its++i7).toArray:=by simp
 rw[ea];exact⟨.ref _,_,I.lnew (t':=s.toks) (r.append r2) (by rw[wM];omega),rfl,q _ I.fresh⟩
end
section
variable {κ:Type} [DecidableEq κ]
def aV(kvs:List (κ×V))(k:κ):Option V:=(kvs.find? λkv=>decide (kv.1=k)).map (·.2)
def bB(kvs:List (κ×V))(k:κ)(v:V):List (κ×V):=
 if (kvs.any λkv=>decide (kv.1=k))=true then kvs.map (λkv=>if kv.1=k then (kv.1,v) else kv) else kvs++[(k,v)]
def bI(kvs:List (κ×V))(k:κ):List (κ×V):=kvs.filter λkv=>decide (kv.1≠k)
def bV{p:κ×V}{r:List (κ×V)}{k:κ}(e:p.1=k):aV (p::r) k=some p.2:=by simp[aV,find?_cons,e]
def bR{p:κ×V}{r:List (κ×V)}{k:κ}(e:¬ p.1=k):aV (p::r) k=aV r k:=by simp[aV,find?_cons,e]
def cM(k:κ):∀kvs:List (κ×V),(kvs.any λkv=>decide (kv.1=k))=(aV kvs k).isSome
 | []=>rfl
 | p::r=>by
  rw[any_cons];by_cases e:p.1=k
  ·simp only [bV e,UV e,Bool.true_or,Option.isSome_some]
  ·rw[bR e,UF e,Bool.false_or];exact cM k r
def xA(k j:κ)(y:V):∀kvs:List (κ×V),aV (kvs.map λkv=>if kv.1=k then (kv.1,y) else kv) j=(aV kvs j).map λx=>if j=k then y else x
 | []=>rfl
 | p::r=>by
  have ih:=xA k j y r;rw[map_cons];by_cases h:p.1=k
  ·rw[NE h];by_cases e:p.1=j
   ·rw[bV (p:=(p.1,y)) e,bV e,Option.map_some,NE (e.symm.trans h)]
   ·rw[bR (p:=(p.1,y)) e,bR e,ih]
  ·rw[IS h];by_cases e:p.1=j
   ·rw[bV (p:=p) e,bV e,Option.map_some,IS (λz=>h (e.trans z))]
   ·rw[bR (p:=p) e,bR e,ih]
def sU(k j:κ)(y:V):∀kvs:List (κ×V),aV kvs k=none->aV (kvs++[(k,y)]) j=if j=k then some y else aV kvs j
 | [],_=>by
  by_cases e:k=j
  ·rw[NE e.symm];exact bV (p:=(k,y)) e
  ·rw[IS (λz=>e z.symm)];exact bR (p:=(k,y)) e
 | p::r,hn=>by
  rw[List.cons_append];have hk:¬ p.1=k:=λz=>by rw[bV z]at hn;cases hn
  rw[bR hk]at hn;have ih:=sU k j y r hn;by_cases e:p.1=j
  ·rw[bV e,bV e,IS (λz=>hk (e.trans z))]
  ·rw[bR e,bR e,ih]
def xB(kvs:List (κ×V))(k j:κ)(y:V):aV (bB kvs k y) j=if j=k then some y else aV kvs j:=by
 unfold bB;by_cases a:(kvs.any λkv=>decide (kv.1=k))=true
 ·rw[NE a,xA];rw[cM]at a;by_cases e:j=k
  ·obtain⟨x,hx⟩:=Option.isSome_iff_exists.mp a;rw[NE e,e,hx,Option.map_some,NE rfl]
  ·rw[IS e];cases aV kvs j with
   | none=>rfl
   | some x=>rw[Option.map_some,IS e]
 ·rw[IS a];refine sU k j y kvs ?_;rw[cM]at a;cases q:aV kvs k with
  | none=>rfl
  | some x=>rw[q]at a;exact(a rfl).elim
def fE(kvs:List (κ×V))(k:κ)(v:V):(bB kvs k v).length<=kvs.length+1:=by
 unfold bB;split
 ·rw[bP];omega
 ·rw[wM,wN,length_nil];omega
def gM{kvs:List (κ×V)}{k:κ}(v:V)(h:aV kvs k=none):bB kvs k v=kvs++[(k,v)]:=by
 unfold bB;rw[cM,h];exact IS Zd
def RelO.isSome_eq{o:Option V}{u:Option S6}(r:RelO o u):o.isSome=u.isSome:=by
 cases o with
 | none=>cases u with
  | none=>rfl
  | some _=>exact(show False from r).elim
 | some _=>cases u with
  | none=>exact(show False from r).elim
  | some _=>rfl
def RelO.getD{o:Option V}{u:Option S6}{d:V}{d':S6}(r:RelO o u)(rd:RelV d d'):RelV (o.getD d) (u.getD d'):=by
 cases o with
 | none=>cases u with
  | none=>exact rd
  | some _=>exact(show False from r).elim
 | some _=>cases u with
  | none=>exact(show False from r).elim
  | some _=>exact r
def KV.val{kvs:List (κ×V)}{vs:List (κ×S6)}(r:KV kvs vs)(k:κ):RelO (aV kvs k) (valueAt vs k):=by
 unfold KV at r;induction r with
 | nil=>exact True.intro
 | @cons p q ps qs h t ih=>
  obtain⟨h1,h2⟩:=h;by_cases e:p.1=k
  ·have e':q.1=k:=h1.symm.trans e;have b:valueAt (q::qs) k=some q.2:=by simp[valueAt,find?_cons,e']
   rw[bV e,b];exact h2
  ·have e':¬ q.1=k:=λz=>e (h1.trans z)
   have b:valueAt (q::qs) k=valueAt qs k:=by simp[valueAt,find?_cons,e']
   rw[bR e,b];exact ih
def KV.any{kvs:List (κ×V)}{vs:List (κ×S6)}(r:KV kvs vs)(k:κ):(kvs.any λkv=>decide (kv.1=k))=vs.any λkv=>decide (kv.1=k):=by
 unfold KV at r;induction r with
 | nil=>rfl
 | cons h t ih=>rw[any_cons,any_cons,ih,h.1]
def KV.repl{kvs:List (κ×V)}{vs:List (κ×S6)}(r:KV kvs vs)(k:κ){y:V}{u:S6}(ry:RelV y u) :
  KV (kvs.map λkv=>if kv.1=k then (kv.1,y) else kv) (vs.map λkv=>if kv.1=k then (kv.1,u) else kv):=by
 unfold KV at r ⊢
 induction r with
 | nil=>exact .nil
 | @cons p q ps qs h t ih=>
  rw[map_cons,map_cons];refine .cons ?_ ih;obtain⟨h1,h2⟩:=h;by_cases e:p.1=k
  ·rw[NE e,NE (h1.symm.trans e)];exact⟨h1,ry⟩
  ·rw[IS e,IS (λz=>e (h1.trans z))];exact⟨h1,h2⟩
def KV.put{kvs:List (κ×V)}{vs:List (κ×S6)}(r:KV kvs vs)(k:κ){y:V}{u:S6}(ry:RelV y u):KV (bB kvs k y) (stored vs k u):=by
 unfold bB stored;rw[r.any k];by_cases e:(vs.any λkv=>decide (kv.1=k))=true
 ·rw[NE e,NE e];exact r.repl k ry
 ·rw[IS e,IS e];exact Paired.snoc r ⟨rfl,ry⟩
def KV.drop{kvs:List (κ×V)}{vs:List (κ×S6)}(r:KV kvs vs)(k:κ):KV (bI kvs k) (without vs k):=by
 unfold KV at r ⊢;unfold bI without;induction r with
 | nil=>exact .nil
 | @cons p q ps qs h t ih=>
  obtain⟨h1,h2⟩:=h;rw[filter_cons,filter_cons];by_cases e:p.1=k
  ·have a:¬ decide (p.1≠k)=true:=by simp[e]
   have b:¬ decide (q.1≠k)=true:=by simp[h1.symm.trans e]
   rw[IS a,IS b];exact ih
  ·have e':¬ q.1=k:=λz=>e (h1.trans z)
   have a:decide (p.1≠k)=true:=by simp[e]
   have b:decide (q.1≠k)=true:=by simp[e']
   rw[NE a,NE b];exact .cons ⟨h1,h2⟩ ih
def KV.keys{kvs:List (κ×V)}{vs:List (κ×S6)}(r:KV kvs vs):kvs.map (·.1)=vs.map (·.1):=by
 unfold KV at r;induction r with
 | nil=>rfl
 | cons h t ih=>rw[map_cons,map_cons,ih,h.1]
def KV.length{kvs:List (κ×V)}{vs:List (κ×S6)}(r:KV kvs vs):kvs.length=vs.length:=Paired.length r
def lS(kvs:List (κ×V))(k:κ):(bI kvs k).length<=kvs.length:=length_filter_le _ _
end
def kT{P:Program}{w:World}{k:bC}{u:S6}(r:RelV (kV k) u):(aR P w).is k u=true:=by
 cases k with
 | inl i=>obtain⟨t,e⟩:=(show ∃t,u=Value.int i t from r);subst e;exact wP P w i t
 | inr x=>obtain⟨t,e⟩:=(show ∃t,u=Value.str x t from r);subst e;exact wQ P w x t
def sV{P:Program}{w:World}:∀ {ks:List bC}{us:List S6},Vals (ks.map kV) us->ItemsAre (aR P w) ks us
 | [],_,r=>by rw[map_nil]at r;cases r;exact .nil
 | k::ks,_,r=>by
  rw[map_cons]at r;cases r with
  | cons h t=>exact .cons (kT h) (sV t)
abbrev KT(H:Hp):List (List bC×V)->List (List bC×TD×S6)->Prop:=Paired λp q=>p.1=q.1/\H q.2.1=some (.tup (p.1.map kV))/\RelV p.2 q.2.2
def KT.val{H:Hp}{kvs:List (List bC×V)}{xs:List (List bC×TD×S6)}(r:KT H kvs xs)(k:List bC):RelO (aV kvs k) ((atKey xs k).map (·.2)):=by
 induction r with
 | nil=>exact True.intro
 | @cons p q ps qs h t ih=>
  obtain⟨h1,_,h2⟩:=h;by_cases e:p.1=k
  ·have e':q.1=k:=h1.symm.trans e;have b:atKey (q::qs) k=some q.2:=by simp[atKey,find?_cons,e']
   rw[bV e,b];exact h2
  ·have e':¬ q.1=k:=λz=>e (h1.trans z)
   have b:atKey (q::qs) k=atKey qs k:=by simp[atKey,find?_cons,e']
   rw[bR e,b];exact ih
def KT.repl{H:Hp}{kvs:List (List bC×V)}{xs:List (List bC×TD×S6)}(r:KT H kvs xs)(k:List bC){y:V}{u:S6}(ry:RelV y u) :
  KT H (kvs.map λkv=>if kv.1=k then (kv.1,y) else kv) (xs.map (putAt k u)):=by
 induction r with
 | nil=>exact .nil
 | @cons p q ps qs h t ih=>
  rw[map_cons,map_cons];refine .cons ?_ ih;obtain⟨h1,h2,h3⟩:=h;unfold putAt;by_cases e:p.1=k
  ·rw[NE e,NE (h1.symm.trans e)];exact⟨h1,h2,ry⟩
  ·rw[IS e,IS (λz=>e (h1.trans z))];exact⟨h1,h2,h3⟩
def KT.put{H:Hp}{kvs:List (List bC×V)}{xs:List (List bC×TD×S6)}(r:KT H kvs xs)(k:List bC){b:TD}{y:V}{u:S6}(hb:H b=some (.tup (k.map kV)))(ry:RelV y u) :
  KT H (bB kvs k y) (storedH xs k b u):=by
 have e:(kvs.any λkv=>decide (kv.1=k))=(atKey xs k).isSome:=by
  rw[cM,(r.val k).isSome_eq,Option.isSome_map]
 unfold bB storedH;rw[e];by_cases q:(atKey xs k).isSome=true
 ·rw[NE q,NE q];exact r.repl k ry
 ·rw[IS q,IS q];exact Paired.snoc r ⟨rfl,hb,ry⟩
def KT.keeps{H H':Hp}{kvs:List (List bC×V)}{xs:List (List bC×TD×S6)}(r:KT H kvs xs)(ht:∀b ys,H b=some (.tup ys)->H' b=some (.tup ys)):KT H' kvs xs:=
 Paired.mapP r λ_ _ z=>⟨z.1,ht _ _ z.2.1,z.2.2⟩
section
variable {P:Program}{w:World}{H:Hp}{h:Heap}{a:TD}
def Rb{u:HO}(ok:HOk P w H h)(e:Rd H a u):ObjOk P w H h a u:=e.ok ok
def lT{kvs:List (bC×V)}(ok:HOk P w H h)(e:Rd H a (.dK kvs)):kvs.length<=sizeLine/\(a==sysModules)=false/\∃vs,KV kvs vs/\h.DictOf (aR P w) a vs:=
 show ObjOk P w H h a (.dK kvs) from Rb ok e
def sW{kvs:List (bC×V)}(ok:HOk P w H h)(e:H a=some (.dK kvs)):kvs.length<=sizeLine/\(a==sysModules)=false/\∃vs,KV kvs vs/\h.DictOf (aR P w) a vs:=lT ok (.inl e)
def jN{ks:List bC}(ok:HOk P w H h)(e:H a=some (.tup (ks.map kV))):(tupleKind (aR P w)).is h ks a:=by
 obtain⟨_,its,r,o,h1,h2,n,h3⟩:=(show ObjOk P w H h a (.tup (ks.map kV)) from ok a _ e);exact⟨o,its.toArray,n,h1,h2,h3,by simpa using sV r⟩
def qC{kvs:List (List bC×V)}(ok:HOk P w H h)(e:Rd H a (.dT kvs)):kvs.length<=sizeLine/\(a==sysModules)=false ∧
  ∃xs,KT H kvs xs/\h.DictOfH (tupleKind (aR P w)) a xs:=by
 obtain⟨z,y,xs,r,o,es,ep,h1,h2,h3,h4,h5⟩:=(show ObjOk P w H h a (.dT kvs) from Rb ok e);refine⟨z,y,xs,r,o,es,ep,h1,h2,h3,h4,λx hx=>?_,h5⟩;have all:∀ {l:List (List bC×V)}{m:List (List bC×TD×S6)},KT H l m->∀x∈m,(tupleKind (aR P w)).is h x.1 x.2.1:=by
  intro l m q;induction q with
  | nil=>intro x hx;exact nomatch hx
  | @cons p q ps qs hq t ih=>
   intro x hx;rcases mem_cons.mp hx with e|hx
   ·subst e;exact jN ok (by rw[<- hq.1];exact hq.2.1)
   ·exact ih x hx
 exact all r x hx
def Hs{kvs:List (List bC×V)}(ok:HOk P w H h)(e:H a=some (.dT kvs)):kvs.length<=sizeLine/\(a==sysModules)=false ∧
  ∃xs,KT H kvs xs/\h.DictOfH (tupleKind (aR P w)) a xs:=qC ok (.inl e)
end
def DGet(H:Hp)(a:TD)(y:V)(r:Option V):Prop:=
 (∃kvs k,Rd H a (.dK kvs)/\y=kV k/\r=aV kvs k)∨∃kvs k b,Rd H a (.dT kvs)/\y=.ref b/\H b=some (.tup (k.map kV))/\r=aV kvs k
def DPut(H:Hp)(a:TD)(y v:V)(H':Hp):Prop:=
 (∃kvs k,H a=some (.dK kvs)/\y=kV k/\kvs.length<sizeLine/\H'=aH H a (.dK (bB kvs k v)))∨
 ∃kvs k b,H a=some (.dT kvs)/\y=.ref b/\H b=some (.tup (k.map kV))/\kvs.length<sizeLine/\H'=aH H a (.dT (bB kvs k v))
def DGet.k{H:Hp}{a:TD}{kvs:List (bC×V)}{k:bC}(e:H a=some (.dK kvs)):DGet H a (kV k) (aV kvs k):=.inl ⟨kvs,k,.inl e,rfl,rfl⟩
def DGet.t{H:Hp}{a b:TD}{kvs:List (List bC×V)}{k:List bC}(e:H a=some (.dT kvs))(eb:H b=some (.tup (k.map kV))):DGet H a (.ref b) (aV kvs k):=.inr ⟨kvs,k,b,.inl e,rfl,eb,rfl⟩
def DPut.k{H:Hp}{a:TD}{kvs:List (bC×V)}{k:bC}{v:V}(e:H a=some (.dK kvs))(hl:kvs.length<sizeLine):DPut H a (kV k) v (aH H a (.dK (bB kvs k v))):=.inl ⟨kvs,k,e,rfl,hl,rfl⟩
def DPut.t{H:Hp}{a b:TD}{kvs:List (List bC×V)}{k:List bC}{v:V}(e:H a=some (.dT kvs))(eb:H b=some (.tup (k.map kV)))(hl:kvs.length<sizeLine) :
  DPut H a (.ref b) v (aH H a (.dT (bB kvs k v))):=.inr ⟨kvs,k,b,e,rfl,eb,hl,rfl⟩
section
variable {X:Cx}{pins:Z5}{σ:St}{H:Hp}{s:PP}{a:TD}{y v:V}{u r:S6}{o:Option V}{A:Around}{E:ZB}
def Inv.big(I:Inv X pins σ H s):sysModules<s.heap.objs.size:=by
 have h:mainGlobals<s.heap.objs.size:=(I.mod.glob.keeps I.bk).lt;exact lt_trans Zd h
def Ej{Q:ZB}(hu:A.units+1<cLine)(I:Inv X pins σ H s)(g:DGet H a y (some v))(ry:RelV y u)(h:∀w' s',Inv X pins σ H s'->RelV v w'->Q w' s') :
  wpAny (model X.prog X.w) A (getItem (.ref a) u) Q E s:=by
 rcases g with⟨kvs,k,e,ey,l⟩|⟨kvs,k,b,e,ey,eb,l⟩
 ·subst ey;obtain⟨z,hd,vs,rel,dd⟩:=lT I.hok e;obtain⟨w',hw,pz⟩:=RelO.some_of (v:=v) (o:=valueAt vs k) (by rw[l];exact rel.val k);exact wpAny_getItem_of (kT ry) dd.mapOf hw (h w' _ (I.tok _) pz)
 ·subst ey;cases(show u=Value.ref b from ry);obtain⟨z,hd,xs,rel,dd⟩:=qC I.hok e;obtain⟨w',hw,pz⟩:=RelO.some_of (v:=v) (o:=(atKey xs k).map (·.2)) (by rw[l];exact rel.val k);obtain⟨p,hp,nu⟩:=Option.map_eq_some_iff.mp hw;refine wpAny_getItem_heap (tupleKind_room_in1 hu) (jN I.hok eb) dd hp ?_;rw[nu];exact h w' _ (I.tok _) pz
def Xp{Q:ZB}(hu:A.units+1<cLine)(I:Inv X pins σ H s)(g:DGet H a y o)(ry:RelV y u)(h:∀s',Inv X pins σ H s'->Q (.bool o.isSome) s') :
  wpAny (model X.prog X.w) A (compareOp .In u (.ref a)) Q E s:=by
 rcases g with⟨kvs,k,e,ey,l⟩|⟨kvs,k,b,e,ey,eb,l⟩
 ·subst ey;obtain⟨z,hd,vs,rel,dd⟩:=lT I.hok e;refine wpAny_in_of (kT ry) hd dd.mapOf ?_;rw[<- (rel.val k).isSome_eq,<- l];exact h _ (I.tok _)
 ·subst ey;cases(show u=Value.ref b from ry);obtain⟨z,hd,xs,rel,dd⟩:=qC I.hok e;refine wpAny_in_heap (tupleKind_room_in1 hu) (jN I.hok eb) hd dd ?_;have q:=(rel.val k).isSome_eq;rw[Option.isSome_map]at q;rw[<- q,<- l];exact h _ (I.tok _)
def Bi{Q:ZB}(hu:A.units+1<cLine)(I:Inv X pins σ H s)(g:DGet H a y o)(ry:RelV y u)(h:∀s',Inv X pins σ H s'->Q (.bool (!o.isSome)) s') :
  wpAny (model X.prog X.w) A (compareOp .NotIn u (.ref a)) Q E s:=by
 rcases g with⟨kvs,k,e,ey,l⟩|⟨kvs,k,b,e,ey,eb,l⟩
 ·subst ey;obtain⟨z,hd,vs,rel,dd⟩:=lT I.hok e;refine wpAny_notIn_of (kT ry) hd dd.mapOf ?_;rw[<- (rel.val k).isSome_eq,<- l];exact h _ (I.tok _)
 ·subst ey;cases(show u=Value.ref b from ry);obtain⟨z,hd,xs,rel,dd⟩:=qC I.hok e;refine wpAny_notIn_heap (tupleKind_room_in1 hu) (jN I.hok eb) hd dd ?_;have q:=(rel.val k).isSome_eq;rw[Option.isSome_map]at q;rw[<- q,<- l];exact h _ (I.tok _)
def kC{h':Heap}{t':Nat}{ob:HO}(I:Inv X pins σ H s)(mu:Ws (H a))(hs:Heap.SameBut a s.heap h')(he:∃q,h'.get? a=some q)(new:ObjOk X.prog X.w (aH H a ob) h' a ob) :
  Inv X pins σ (aH H a ob) {s with heap:=h',toks:=t' }:=
 I.write (x:=a) (e:=a) mu (.inl rfl) (λb q hb z=>(hs.2 b hb).trans z) he new
def vD{P:Program}{w:World}{H':Hp}{h':Heap}{kvs:List (bC×V)}{vs:List (bC×S6)}(z:kvs.length<=sizeLine)(hd:(a==sysModules)=false)(rel:KV kvs vs)(dd:h'.DictOf (aR P w) a vs) :
  ObjOk P w H' h' a (.dK kvs):=⟨z,hd,vs,rel,dd⟩
def Ek{H':Hp}{Q:Unit->PP->Prop}(hu:A.units+1<cLine)(I:Inv X pins σ H s)(g:DPut H a y v H')(ry:RelV y u)(rv:RelV v r)(h:∀s',Inv X pins σ H' s'->Q () s') :
  wpAny (model X.prog X.w) A (setItem (.ref a) u r) Q E s:=by
 rcases g with⟨kvs,k,e,ey,l,eH⟩|⟨kvs,k,b,e,ey,eb,l,eH⟩
 ·subst ey eH;obtain⟨z,hd,vs,rel,dd⟩:=sW I.hok e;have hz:vs.length<=sizeLine:=by rw[<- rel.length];exact z
  have hl:(bB kvs k v).length<=sizeLine:=by have:=fE kvs k v;omega
  refine wpAny_setItem_pairs (hsz:=hz) (kT ry) dd λh' AH hs=>h _ ?_;have he:∃q,h'.get? a=some q:=let ⟨q,_,_,hq,_⟩:=AH;⟨q,hq⟩;exact kC I (by rw[e];exact True.intro) hs he (vD hl hd (rel.put k rv) AH)
 ·subst ey eH;cases(show u=Value.ref b from ry);obtain⟨z,hd,xs,rel,dd⟩:=Hs I.hok e;have hz:xs.length<=sizeLine:=by rw[<- Paired.length rel];exact z
  have hl:(bB kvs k v).length<=sizeLine:=by have:=fE kvs k v;omega
  refine wpAny_setItem_heap (hsz:=hz) (tupleKind_room_in1 hu) (jN I.hok eb) dd λh' AH hs=>h _ ?_;obtain⟨q,es,ep,hq,h2,h3,h4,_,h5⟩:=AH;refine kC I (by rw[e];exact True.intro) hs ⟨q,hq⟩ ⟨hl,hd,_,(rel.put k eb rv).keeps λc ys ec=>?_,q,es,ep,hq,h2,h3,h4,h5⟩;rw[aE (aQ ec e nofun)];exact ec
end
section
variable {X:Cx}{pins:Z5}{σ:St}{H:Hp}{s:PP}{a:TD}{kvs:List (bC×V)}{k:bC}{u:S6}{A:Around}{E:ZB}
def Wo{Q:Unit->PP->Prop}(I:Inv X pins σ H s)(e:H a=some (.dK kvs))(ry:RelV (kV k) u)(l:(aV kvs k).isSome=true)(h:∀s',Inv X pins σ (aH H a (.dK (bI kvs k))) s'->Q () s') :
  wpAny (model X.prog X.w) A (delItem (.ref a) u) Q E s:=by
 obtain⟨z,hd,vs,rel,dd⟩:=sW I.hok e;refine wpAny_delItem_slot dd.typeIs Zd PySem.F.slot_dict_delitem
  (call_meetsIn PySem.F.slot_dict_delitem dd.typeIs PySem.F.entry_dict_delitem (PySem.F.args_dict_delitem_2 _ _) (meets_dict_delitem_pairs (aR X.prog X.w) a (kT ry)) ⟨vs,dd,by rw[<- rel.length];exact z,by rw[<- (rel.val k).isSome_eq];exact l,λh' AH hs=>h _ ?_⟩)
 have he:∃q,h'.get? a=some q:=let ⟨q,_,_,hq,_⟩:=AH;⟨q,hq⟩;exact kC I (by rw[e];exact True.intro) hs he (vD (eS (lS kvs k) z) hd (rel.drop k) AH)
def Xq{v:V}{more:List S6}{Q:ZB}(I:Inv X pins σ H s)(e:H a=some (.dK kvs))(ry:RelV (kV k) u)(l:aV kvs k=some v)(hm:more=[]∨∃x,more=[x])(h:∀w' s',Inv X pins σ (aH H a (.dK (bI kvs k))) s'->RelV v w'->Q w' s'):wpAny (model X.prog X.w) A (call (.builtin "dict.pop") (.ref a::u::more)) Q E s:=by
 obtain⟨z,hd,vs,rel,dd⟩:=sW I.hok e;obtain⟨w',hw,pz⟩:=RelO.some_of (v:=v) (o:=valueAt vs k) (by rw[<- l];exact rel.val k);have hp:(keyPart u).isSome=true:=by
  cases k with
  | inl i=>obtain⟨t,q⟩:=(show ∃t,u=Value.int i t from ry);subst q;rfl
  | inr x=>obtain⟨t,q⟩:=(show ∃t,u=Value.str x t from ry);subst q;rfl
 have ha:argsOk "dict.pop" ⟨.ref a::u::more,[]⟩:=by
  rcases hm with q|⟨x,q⟩
  ·subst q;exact PySem.F.args_dict_pop_2 _ _
  ·subst q;exact PySem.F.args_dict_pop_3 _ _ _
 refine call_meetsIn PySem.F.slot_dict_pop dd.typeIs PySem.F.entry_dict_pop ha (meets_dict_pop_there (aR X.prog X.w) a (kT ry) more hm hp)
  ⟨vs,w',dd,by rw[<- rel.length];exact z,hw,λh' AH hs=>h w' _ ?_ pz⟩
 have he:∃q,h'.get? a=some q:=let ⟨q,_,_,hq,_⟩:=AH;⟨q,hq⟩;exact kC I (by rw[e];exact True.intro) hs he (vD (eS (lS kvs k) z) hd (rel.drop k) AH)
end
def Ub(i:Expr):Prop:=∀ov iv,subscripted i false ov iv=operate [ov,iv] (getItem ov iv)
def Nr{prog:Program}{w:World}{A:Around}{E:ZB}{s:PP}{env:Env}{value slice:Expr}{pos:Pos}{T id:String}{Q:ZB}(hl:typeLookup (.type T) "__getitem__"=pure (some (.builtin id)))(hs:Ub slice)(h:wpAny (model prog w) A (eval value env) (λo s₁=>wpAny (model prog w) A (eval slice env) (λi s₂=>s₂.TypeIs o T/\wpAny (model prog w) A (getItem o i) Q E s₂) E s₁) E s) :
  wpAny (model prog w) A (eval (.Subscript value slice pos) env) Q E s:=by
 refine Subscript_ (wpAny_mono h (λo s₁ h₁=>wpAny_mono h₁ (λi s₂ h₂=>?_) λ_ _ x=>x) λ_ _ x=>x);obtain⟨hT,h₂⟩:=h₂;unfold subscriptTail;refine XV ?_;rw[getitemInPython_of_ne hT.not_modules];refine XV (wpAny_specialOf hT hl ?_);have fin:wpAny (model prog w) A (subscripted slice false o i) (λr s₃=>wpAny (model prog w) A (letTemporaryGo value o r>>=λ_=>pure r) Q E s₃) E s₂:=by
  rw[hs o i];exact wpAny_operating (wpAny_mono h₂ (λr s₃ h₃=>XV (wpAny_letTemporaryGo (W1 h₃))) λ_ _ x=>x)
 first
  | exact W1 (XV fin)
  | exact XV (W1 (XV fin))
  | exact XV fin
def xC{X:Cx}{pins:Z5}{σ:St}{H:Hp}{s:PP}{a:TD}{y:V}{o:Option V}(I:Inv X pins σ H s)(g:DGet H a y o):s.TypeIs (.ref a) "dict":=by
 rcases g with⟨kvs,k,e,_,_⟩|⟨kvs,k,b,e,_,_,_⟩
 ·obtain⟨_,_,vs,_,dd⟩:=lT I.hok e;exact dd.typeIs
 ·obtain⟨_,_,xs,_,dd⟩:=qC I.hok e;exact dd.typeIs
def Rc(td ty:TE):TE:=λσ H Q=>td σ H λx H1=>ty σ H1 λy H2=>∃a v,x=.ref a/\DGet H2 a y (some v)/\Q v H2
section
variable {X:Cx}{o i e value:Expr}{pos pos' AI:Pos}{td ty tv:TE}
def Nt(hu:X.A.units+1<cLine)(ho:PE X o td)(hi:PE X i ty)(hs:Ub i):PE X (.Subscript o i pos) (Rc td ty):=by
 intro pins s σ H Q I h;refine Nr PySem.F.slot_dict_getitem.lookup hs (bH (ho pins s σ H _ I h) λu s1 ⟨x,H1,I1,rx,q1⟩=>bH (hi pins s1 σ H1 _ I1 q1) ?_);rintro iv s2 ⟨y,H2,I2,ry,a,v,ex,g,q2⟩;subst ex;obtain rfl:u=Value.ref a:=rx;exact⟨xC I2 g,Ej hu I2 g ry λw' s3 I3 pz=>⟨v,H2,I3,pz,q2⟩⟩
end
def xD{P:Program}{w:World}{H:Hp}(h:Heap)(hb:sysModules<h.objs.size):ObjOk P w H (h.push {cls:=.type "dict",data:=.dict #[] }) h.objs.size (.dK []):=
 ⟨zero_le _,beq_eq_false_iff_ne.mpr (Ne.symm (ne_of_lt hb)),[],.nil,Heap.DictOf.new h⟩
def Ht{P:Program}{w:World}{H:Hp}(h:Heap)(hb:sysModules<h.objs.size):ObjOk P w H (h.push {cls:=.type "dict",data:=.dict #[] }) h.objs.size (.dT []):=
 ⟨zero_le _,beq_eq_false_iff_ne.mpr (Ne.symm (ne_of_lt hb)),[],.nil,_,#[],0,TW _ rfl,⟨rfl,rfl,rfl⟩,rfl,rfl,nodup_nil⟩
def Hu:TE:=λ_ H Q=>∀p,H p=none->Q (.ref p) (aH H p (.dK []))
def Hv:TE:=λ_ H Q=>∀p,H p=none->Q (.ref p) (aH H p (.dT []))
section
variable {X:Cx}{pos:Pos}
def Hw:PE X (.Dict [] [] pos) Hu:=λpins s σ H Q I h=>
 wpAny_Dict_empty ⟨.ref s.heap.objs.size,_,I.laid (a:=s.heap.objs.size) (o:=.dK []) (t':=s.toks) (λ_ _ q=>gU _ q) (bZ _) (xD s.heap I.big),rfl,h _ (I.hok.fresh (bZ _))⟩
def Hx:PE X (.Dict [] [] pos) Hv:=λpins s σ H Q I h=>
 wpAny_Dict_empty ⟨.ref s.heap.objs.size,_,I.laid (a:=s.heap.objs.size) (o:=.dT []) (t':=s.toks) (λ_ _ q=>gU _ q) (bZ _) (Ht s.heap I.big),rfl,h _ (I.hok.fresh (bZ _))⟩
end
def zO:List (TE×TE)->St->Hp->(List (V×V)->Hp->Prop)->Prop
 | [],_,H,Q=>Q [] H
 | (tk,tv)::r,σ,H,Q=>tk σ H λx H1=>tv σ H1 λy H2=>zO r σ H2 λps H3=>Q ((x,y)::ps) H3
abbrev VV:List (V×V)->List (S6×S6)->Prop:=Paired λp q=>RelV p.1 q.1/\RelV p.2 q.2
def Xr(X:Cx)(pos:Pos)(keys:List (Option Expr))(values:List Expr)(trs:List (TE×TE)):Prop:=
 ∀(pins:Z5)(s:PP)(σ:St)(H:Hp)(Q:List (V×V)->Hp->Prop),Inv X pins σ H s->zO trs σ H Q →
  wpAny (model X.prog X.w) X.A (evalPairs (pairTrees keys values X.env pos)) (λvs s'=>∃ps H',Inv X pins σ H' s'/\VV ps vs/\Q ps H') X.xe s
def Nu{X:Cx}{pos:Pos}:Xr X pos [] [] []:=λpins s σ H Q I h=>pairTrees_nil_walk ⟨[],H,I,.nil,h⟩
def Hy{X:Cx}{pos:Pos}{k v:Expr}{ks:List (Option Expr)}{vs:List Expr}{tk tv:TE}{trs:List (TE×TE)}(hk:PE X k tk)(hv:PE X v tv)(hr:Xr X pos ks vs trs) :
  Xr X pos (some k::ks) (v::vs) ((tk,tv)::trs):=λpins s σ H Q I h=>
 pairTrees_cons_walk (bH (hk pins s σ H _ I h) λu s1 ⟨x,H1,I1,rx,q1⟩=>bH (hv pins s1 σ H1 _ I1 q1) λw2 s2 ⟨y,H2,I2,ry,q2⟩=>
  bH (hr pins s2 σ H2 _ I2 q2) λws s3 ⟨ps,H3,I3,rel,q3⟩=>⟨(x,y)::ps,H3,I3,.cons ⟨rx,ry⟩ rel,q3⟩)
def cS(kvs more:List (bC×V)):List (bC×V):=more.foldl (λacc kv=>bB acc kv.1 kv.2) kvs
def KV.merge:∀ {more:List (bC×V)}{rs:List (bC×S6)}{kvs:List (bC×V)}{vs:List (bC×S6)},KV more rs->KV kvs vs->KV (cS kvs more) (merged vs rs):=by
 intro more rs kvs vs r;unfold KV at r;induction r generalizing kvs vs with
 | nil=>intro q;exact q
 | @cons p q ps qs h t ih=>
  intro r0;have e:KV (bB kvs p.1 p.2) (stored vs q.1 q.2):=by
   have:=r0.put p.1 h.2;rw[<- h.1];exact this
  exact ih e
def iA:∀(more kvs:List (bC×V)),(cS kvs more).length<=kvs.length+more.length
 | [],kvs=>by show kvs.length<=kvs.length+0;omega
 | p::r,kvs=>by
  have h1:=iA r (bB kvs p.1 p.2);have h2:=fE kvs p.1 p.2;show(cS (bB kvs p.1 p.2) r).length<=_;rw[wN];omega
def qD{P:Program}{w:World}:∀ {kvs:List (bC×V)}{ws:List (S6×S6)},VV (kvs.map λkv=>(kV kv.1,kv.2)) ws->∃rs,Carries (aR P w) ws rs/\KV kvs rs
 | [],_,r=>by rw[map_nil]at r;cases r;exact⟨[],True.intro,.nil⟩
 | p::kvs,_,r=>by
  rw[map_cons]at r;cases r with
  | @cons a b as bs h t=>
   obtain⟨rs,c,q⟩:=qD (P:=P) (w:=w) t;obtain⟨b1,b2⟩:=b;exact⟨(p.1,b2)::rs,⟨kT h.1,rfl,c⟩,.cons ⟨rfl,h.2⟩ q⟩
def Re(trs:List (TE×TE)):TE:=λσ H Q=>∀p,H p=none->zO trs σ (aH H p (.dK [])) λps H2=>H2 p=some (.dK [])/\∃kvs:List (bC×V),ps=kvs.map (λkv=>(kV kv.1,kv.2))/\kvs.length<=15/\Q (.ref p) (aH H2 p (.dK (cS [] kvs)))
def Nv{X:Cx}{pos:Pos}{keys:List (Option Expr)}{values:List Expr}{trs:List (TE×TE)}(h:Xr X pos keys values trs)(su:keys.all (·.isSome)=true)(hl:keys.length=values.length)(h0:keys≠[])(VR:keys.length<=15):PE X (.Dict keys values pos) (Re trs):=by
 intro pins s σ H Q I q;have hn:=I.hok.fresh (bZ s.heap.objs.size);have I1:=I.laid (a:=s.heap.objs.size) (o:=.dK []) (h':=s.heap.push {cls:=.type "dict",data:=.dict #[] }) (t':=s.toks) (λ_ _ q=>gU _ q) (bZ _) (xD s.heap I.big);refine wpAny_Dict_walk (knd:=aR X.prog X.w) su hl h0 VR (bH (h pins _ σ _ _ I1 (q _ hn)) ?_);rintro ws s2 ⟨ps,H2,I2,rel,e,kvs,ep,lk,q2⟩;subst ep;obtain⟨rs,c,rk⟩:=qD (P:=X.prog) (w:=X.w) rel;obtain⟨z,hd,vs0,r0,dd⟩:=sW I2.hok e;cases r0;refine⟨rs,c,dd,λh' AH hs=>⟨.ref s.heap.objs.size,_,?_,rfl,q2⟩⟩;have hz:(cS [] kvs).length<=sizeLine:=by
  have h1:=iA kvs [];rw[length_nil]at h1;rw[sizeLine_eq];omega
 have he:∃q,h'.get? s.heap.objs.size=some q:=let ⟨q,_,_,hq,_⟩:=AH;⟨q,hq⟩;exact kC I2 (by rw[e];exact True.intro) hs he (vD hz hd (rk.merge .nil) AH)
structure M1(X:Cx)(o:Expr)(m:Str)(apos:Pos)(e:Expr)(cpos:Pos):Prop where
 base:attributeBase o m X.env (eval o X.env)=eval o X.env
 few:((backTo cpos (starEach [e] X.env)).all (λx=>!x.1)&&(backToKw cpos (keywordEach [] X.env)).all (λx=>x.1.isSome)
  && decide (([e]:List Expr).length+([]:List Keyword).length+(if ([]:List Keyword).isEmpty then 0 else 1)<30))=true
 line:(apos.endLine==cpos.line)=true
 trees:backTo cpos (starEach [e] X.env)=[(false,eval e X.env)]
structure M2(X:Cx)(o:Expr)(m:Str)(apos:Pos)(e f:Expr)(cpos:Pos):Prop where
 base:attributeBase o m X.env (eval o X.env)=eval o X.env
 few:((backTo cpos (starEach [e,f] X.env)).all (λx=>!x.1)&&(backToKw cpos (keywordEach [] X.env)).all (λx=>x.1.isSome)
  && decide (([e,f]:List Expr).length+([]:List Keyword).length+(if ([]:List Keyword).isEmpty then 0 else 1)<30))=true
 line:(apos.endLine==cpos.line)=true
 trees:backTo cpos (starEach [e,f] X.env)=[(false,eval e X.env),(false,eval f X.env)]
def Xs(H:Hp)(a:TD):Prop:=(∃kvs,Rd H a (.dK kvs))∨∃kvs,Rd H a (.dT kvs)
def qE{X:Cx}{pins:Z5}{σ:St}{H:Hp}{s:PP}{a:TD}(I:Inv X pins σ H s)(d:Xs H a) :
  s.TypeIs (.ref a) "dict"/\(∀b,Value.ref a=.ref b->∃ob,s.heap.get? b=some ob/\ob.dict=none)/\(a==sysModules)=false:=by
 rcases d with⟨kvs,e⟩|⟨kvs,e⟩
 ·obtain⟨_,hd,vs,_,dd⟩:=lT I.hok e;refine⟨dd.typeIs,λb q=>?_,hd⟩;cases q;obtain⟨ob,_,_,h1,h2,_⟩:=dd;exact⟨ob,h1,h2.2.1⟩
 ·obtain⟨_,hd,xs,_,dd⟩:=qC I.hok e;refine⟨dd.typeIs,λb q=>?_,hd⟩;cases q;obtain⟨ob,_,_,h1,h2,_⟩:=dd;exact⟨ob,h1,h2.2.1⟩
section
variable {X:Cx}{pins:Z5}{σ:St}{H:Hp}{s:PP}{a:TD}{y d:V}{u r:S6}{o:Option V}{A:Around}{E:ZB}
def Uc{Q:ZB}(hu:A.units+1<cLine)(I:Inv X pins σ H s)(g:DGet H a y o)(ry:RelV y u)(rd:RelV d r)(h:∀w' s',Inv X pins σ H s'->RelV (o.getD d) w'->Q w' s') :
  wpAny (model X.prog X.w) A (call (.builtin "dict.get") [.ref a,u,r]) Q E s:=by
 rcases g with⟨kvs,k,e,ey,l⟩|⟨kvs,k,b,e,ey,eb,l⟩
 ·subst ey;obtain⟨z,hd,vs,rel,dd⟩:=lT I.hok e;refine call_meetsIn PySem.F.slot_dict_get dd.typeIs PySem.F.entry_dict_get (PySem.F.args_dict_get_3 _ _ _) (meets_dict_get_default (aR X.prog X.w) a (kT ry) hd r) ⟨_,dd.mapOf,h _ _ (I.tok _) ?_⟩;rw[l];exact(rel.val k).getD rd
 ·subst ey;cases(show u=Value.ref b from ry);obtain⟨z,hd,xs,rel,dd⟩:=qC I.hok e;refine call_meetsIn PySem.F.slot_dict_get dd.typeIs PySem.F.entry_dict_get (PySem.F.args_dict_get_3 _ _ _) (meetsH_dict_get_default (tupleKind (aR X.prog X.w)) a b hd r) ⟨tupleKind_room_in1 hu,k,xs,jN I.hok eb,dd,h _ _ (I.tok _) ?_⟩;rw[l];exact(rel.val k).getD rd
end
def Hz(td ty tx:TE):TE:=λσ H Q=>td σ H λx H1=>∃a,x=.ref a/\Xs H1 a/\ty σ H1 λy H2=>tx σ H2 λz H3=>∃o,DGet H3 a y o/\Q (o.getD z) H3
def Ia(td ty:TE):TE:=λσ H Q=>td σ H λx H1=>∃a,x=.ref a/\Xs H1 a/\ty σ H1 λy H2=>∃kvs k v,H2 a=some (.dK kvs)/\y=kV k/\aV kvs k=some v/\Q v (aH H2 a (.dK (bI kvs k)))
section
variable {X:Cx}{o e f:Expr}{apos cpos:Pos}{td ty tx:TE}
def Ib(hu:X.A.units+1<cLine)(ho:PE X o td)(he:PE X e ty)(hf:PE X f tx)(m:M2 X o "get" apos e f cpos):PE X (.Call (.Attribute o "get" apos) [e,f] [] cpos) (Hz td ty tx):=by
 intro pins s σ H Q I h;refine wpAny_Call_method m.base m.few m.line PySem.F.plainAttrs_dict PySem.F.slot_dict_get PySem.F.type_dict_get (bH (ho pins s σ H _ I h) ?_);rintro u s1 ⟨x,H1,I1,rx,a,ex,d,q1⟩;subst ex;obtain rfl:u=Value.ref a:=rx;obtain⟨t1,t2,_⟩:=qE I1 d;refine⟨t1,t2,?_⟩;rw[m.trees];refine Calls.callWith_builtin rfl (Calls.evalArgs_plain (Calls.spliced_cons (bH (he pins s1 σ H1 _ I1 q1) λiv s2 ⟨y,H2,I2,ry,q2⟩=>
  Calls.spliced_cons (bH (hf pins s2 σ H2 _ I2 q2) λfv s3 ⟨z,H3,I3,rz,ov,g,q3⟩=>Calls.spliced_nil ?_))))
 exact Uc hu I3 g ry rz λw' s4 I4 pz=>⟨_,H3,I4,pz,q3⟩
def Ic(ho:PE X o td)(he:PE X e ty)(m:M1 X o "pop" apos e cpos):PE X (.Call (.Attribute o "pop" apos) [e] [] cpos) (Ia td ty):=by
 intro pins s σ H Q I h;refine wpAny_Call_method m.base m.few m.line PySem.F.plainAttrs_dict PySem.F.slot_dict_pop PySem.F.type_dict_pop (bH (ho pins s σ H _ I h) ?_);rintro u s1 ⟨x,H1,I1,rx,a,ex,d,q1⟩;subst ex;obtain rfl:u=Value.ref a:=rx;obtain⟨t1,t2,_⟩:=qE I1 d;refine⟨t1,t2,?_⟩;rw[m.trees];refine Calls.callWith_builtin rfl (Calls.evalArgs_plain (Calls.spliced_cons (bH (he pins s1 σ H1 _ I1 q1) λiv s2 ⟨y,H2,I2,ry,kvs,k,v,ea,ey,l,q2⟩=>Calls.spliced_nil ?_)));subst ey;exact Xq I2 ea ry l (.inl rfl) λw' s3 I3 pz=>⟨v,_,I3,pz,q2⟩
end
end L2
namespace Att
open PySem PySem.W PySem.Calls PyProof.Rows
def pF{P:Params}{h:Heap}:∀(ns:List Int)(vs:List S6),WellAll P h vs (ns.map WData.int)->IntsAre vs ns:=by
 intro ns;induction ns with
 | nil=>
  intro vs w;rw[map_nil]at w;cases w;exact .nil
 | cons n ns ih=>
  intro vs w;rw[map_cons]at w;cases w with
  | cons a b=>
   cases a;exact .cons _ _ (ih _ b)
def El{l:OpenLaw}{n:Nat}(hn:l.most=some n){P:Params}{h:Heap}{args:List WData}{vals:List S6}(HK:l.row.toRowW.claim.pre args=true)(NA:WellAll P h vals args) :
  ∃a vs ns,vals=[Value.ref a]/\args=[WData.list (ns.map WData.int)]/\h.get? a=some {cls:=.type "list",data:=.seq vs.toArray }/\IntsAre vs ns/\ns.length<=n:=by
 have hsh:WShape.hasAll [] args [.list .int]=true:=(pre_splitW HK).1;have hc:l.pre.holds [] {args:=args }=true:=(pre_splitW HK).2;obtain⟨d,r,rfl,h1,h2⟩:=hasAllW_cons hsh;obtain rfl:=hasAllW_nil h2;obtain⟨xs,rfl,h3⟩:=hasW_list h1;obtain⟨ns,rfl⟩:=items_int h3;have hlen:ns.length<=n:=by
  unfold OpenLaw.pre at hc;have h4:(WTm.not (.lt (.lit (.int (n:Int))) (.len (.arg 0)))).holds [] {args:=[.list (ns.map .int)] }=true:=by
   have h4:=(holds_andW hc).1;rw[hn]at h4;exact h4
  have h5:=condW_of h4 (w_not (w_lt w_lit (w_len_list (w_arg rfl))));rw[bP]at h5;refine Nat.le_of_not_lt λq=>?_
  have q':(n:Int)<((ns.length:Nat):Int):=by omega
  first
   | (rw[UV q']at h5;exact IQ h5 Zd)
   | (simp at h5;omega)
 cases NA with
 | cons w1 w2=>
  cases w2
  cases w1 with
  | list ho su=>exact⟨_,_,ns,rfl,rfl,ho,pF ns _ su,hlen⟩
def Em(l:OpenLaw)(args:List WData):l.row.toRowW.claim.post args (.bool true) args=true:=
 postW_of (r:=l.row.toRowW) (X:=(true==true))
  (show WShape.has [] (.bool true) .bool=true by first|rfl|decide|simp[WShape.has,WShape.arms,WShape.armsAll])
  (show(WTm.eq .res (.lit (.bool true))).value [] {args:=args,res:=some (.bool true),after:=args }=some (.bool (true==true)) from w_eq_bool (w_res rfl) w_lit) rfl
def attach_call{l:OpenLaw}{n:Nat}{q:Program}{loose:List Str}{XP:(Str->Option S6)->Heap->Prop}{YP:World->Heap->Prop}{d:DefRec}(hn:l.most=some n)(OE:d.params.defaults=[])(call:∀(w:World)(s₀ s₁:PP)(mg mb:X7)(fa:TD)(o:Obj)(pm cd doc:S6)(a:TD)(vs:List S6)(ns:List Int),
   Ground q loose [] XP w s₀ mg mb s₁.heap->YP w s₁.heap →
   s₁.heap.get? fa=some o->o.data=.func (docDef d.name d.params d.body d.scope pm cd doc)->s₁.heap.CodeRec cd d.name->mg d.name=some (.ref fa) →
   s₁.heap.get? a=some {cls:=.type "list",data:=.seq vs.toArray }->IntsAre vs ns->ns.length<=n->s₁.gens=#[] →
   codeAny (model l.prog w) callerA (.call (.ref fa) ⟨[.ref a],[]⟩) (λr s'=>r=.ok (.ret (.bool true))/\OldK s₁.heap s'.heap/\s'.os=s₁.os/\AllBare s'.gens) s₁) :
  WalkO q loose XP YP l.row.toRowW d [] (λf vs=>PySem.call f vs):=by
 intro w s₀ s₁ mg mb G Y fa o pm cd doc dV kV ho hd yq hD IZ hg args vals as HK dc' hrd NA VS;obtain rfl:dV=.none:=Dflts.none hD OE;obtain rfl:kV=.none:=Dflts.noKw hD;obtain⟨a,vs,ns,rfl,rfl,KD,hints,hlen⟩:=El hn HK NA;refine enter_call (codeAny_mono (call w s₀ s₁ mg mb fa o pm cd doc a vs ns G Y ho (fd_plain hd) yq IZ KD hints hlen hg) λr s' hq=>?_);obtain⟨rfl,h2,h3,h4⟩:=hq;exact⟨.inl ⟨.bool true,.bool true,[],rfl,λ_=>rfl,.bool true,Em l _,λ_=>⟨List.Pairwise.nil,λ_ hm=>(nomatch hm)⟩⟩,h2,h3,h4⟩
end Att
namespace L2
open PySem PySem.Spec PyProof.Rows
def sX:∀ {vs:List S6}{ns:List Int},IntsAre vs ns->Vals (ns.map V.int) vs
 | _,_,.nil=>.nil
 | _,_,.cons n t h=>.cons ⟨t,rfl⟩ (sX h)
def Ud(H:Hp):Prop:=∀b,H b=none∨∃o xs,H b=some (.frz o (.lst xs))
def Id{P:Program}{w:World}{K:W.Frag}{mg mb:X7}{CX:Ml}{k:Nat}{fa a:TD}{fd:FuncData}{x:Str}{sp:Sp}{s₁:PP}{vs:List S6}{ns:List Int}(KX:K.In s₁.heap)(OF:s₁.heap.Ns mainGlobals mg)(hb:s₁.heap.Ns builtinsNs mb)(hbb:∀x:Str,x≠"__name__"->mb x=bootBuiltins x)(VT:s₁.heap.NoLimit)(hg:s₁.gens=#[])(ha:s₁.heap.get? a=some {cls:=.type "list",data:=.seq vs.toArray })(hi:IntsAre vs ns)(hl:ns.length<=sizeLine)(hr:Room k callerA)(F:∀base:Heap,K.In base->base.Ns mainGlobals mg->jK P w K mg base CX k fa fd [x] sp)(OG:∀(s:PP)(u:S6),BindsTo s fd ⟨[u],[]⟩ [(x,u)])(GX:∀H:Hp,Ud H->SqL K H a (ns.map V.int)->sp [.ref a] H (λv _=>v=.bl true) λ_ _ _=>False)(VU:∀H e s',CX [] H s₁ (λ_ _ _=>False) e s'->False) :
  codeAny (model P w) callerA (.call (.ref fa) ⟨[.ref a],[]⟩) (λr s'=>r=.ok (.ret (.bool true))/\OldK s₁.heap s'.heap/\s'.os=s₁.os/\AllBare s'.gens) s₁:=by
 have rv:=sX hi;have VW:=hi.length;have core:∀H:Hp,Ud H->SqL K H a (ns.map V.int)->HOk P w H s₁.heap->(∀b,H b≠none->b=a)->(H a≠none->K.lookup a=none) →
   codeAny (model P w) callerA (.call (.ref fa) ⟨[.ref a],[]⟩) (λr s'=>r=.ok (.ret (.bool true))/\OldK s₁.heap s'.heap/\s'.os=s₁.os/\AllBare s'.gens) s₁:=by
  intro H hO hS hok hA hK;have CI:∀ {b:TD}{o:Obj},s₁.heap.get? b=some o->H b=none->(uP s₁.heap H).get? b=some o:=λe n=>Gn e n
  have NY:∀ {b:TD}{o:Obj}{es:Array DictEntry}{ep:Nat},s₁.heap.get? b=some o->o.data=.dict es ep->H b=none:=λ{b o es ep} e d=>by
   cases q:H b with
   | none=>rfl
   | some u=>
    have e':b=a:=hA b (by rw[q];simp);subst e';rw[ha]at e;cases e;have d':Data.seq vs.toArray _=Data.dict es ep:=d;cases d'
  have TJ:∀ {b:TD}{m:X7},s₁.heap.Ns b m->(uP s₁.heap H).Ns b m:=λ{b m} ⟨o,es,ep,e,d,r⟩=>⟨o,es,ep,CI e (NY e d),d,r⟩
  have hKb:K.In (uP s₁.heap H):=λb o e=>CI (KX b o e) (by
   cases q:H b with
   | none=>rfl
   | some u=>
    have e':b=a:=hA b (by rw[q];simp);subst e';rw[hK (by rw[q];simp)]at e;cases e)
  have hM:Mod K mg (uP s₁.heap H):=⟨hKb,TJ OF,⟨mb,TJ hb,hbb⟩,let ⟨mc,h1,h2⟩:=VT;⟨mc,TJ h1,h2⟩⟩;have e0:Env0 P w K mg (uP s₁.heap H) callerA [] s₁ H:=⟨rfl,hM,λb o e=>Mn e,le_of_eq (Dr _ _),trivial,λb hb=>IQ (show b∈([]:List TD) from hb) Zs,hok,.of_eq hg⟩;refine codeAny_mono ((F _ hKb (TJ OF)).run callerA [] s₁ H ⟨[.ref a],[]⟩ [.ref a] [.ref a] _ _ hr e0 (OG s₁ (.ref a)) (.cons rfl .nil) (GX H hO hS)) λr s' h=>?_
  cases r with
  | error e=>exact(VU H e s' h).elim
  | ok fl=>
   cases fl with
   | next=>exact False.elim h
   | brk=>exact False.elim h
   | cont=>exact False.elim h
   | ret u=>
    obtain⟨v,H',os,bare,un,VX,r',q⟩:=h;have q':v=.bl true:=q;subst q';obtain rfl:u=Value.bool true:=r';refine⟨rfl,OldK.of_keep λb o e=>?_,os,bare⟩
    cases q:H b with
    | none=>exact un.keep b o e q (by intro z;exact IQ (show b∈([]:List TD) from z) Zs) Zs
    | some u=>
     rcases hO b with z|⟨ob,xs,z⟩
     ·rw[q]at z;cases z
     ·have z2:=un.frzs b ob _ z;obtain⟨e1,_⟩:=hok b _ z;obtain⟨e2,_⟩:=VX b _ z2;rw[e]at e1;cases e1;exact e2
 cases hk:K.lookup a with
 | some o=>
  have e:=KX a o hk;rw[ha]at e;cases e;refine core (λ_=>none) (λ_=>.inl rfl) (.inr ⟨_,vs.toArray,_,hk,rfl,rfl,rfl,by rw[dR,VW];exact hl,by simpa using rv⟩) (λb u z=>by have z':(none:Option HO)=some u:=z;cases z') (λb z=>IQ rfl z) λz=>IQ rfl z
 | none=>
  refine core (λb=>if b=a then some (.frz {cls:=.type "list",data:=.seq vs.toArray } (.lst (ns.map V.int))) else none) (λb=>?_) (.inl (.inr ⟨{cls:=.type "list",data:=.seq vs.toArray },NE rfl⟩)) (λb u z=>?_) (λb z=>?_) λ_=>hk
  ·by_cases hb:b=a
   ·exact .inr ⟨_,_,NE hb⟩
   ·exact .inl (IS hb)
  ·by_cases hb:b=a
   ·have z':=(NE hb).symm.trans z;cases z';subst hb;exact⟨ha,by rw[bP];exact hl,vs,_,rv,ha⟩
   ·have z':=(IS hb).symm.trans z;cases z'
  ·by_cases hb:b=a
   ·exact hb
   ·exact IQ (IS hb) z
def Bj{l:W.OpenLaw}{n k:Nat}{q:Program}{loose:List Str}{XP:(Str->Option S6)->Heap->Prop}{YP:World->Heap->Prop}{d:DefRec}{K:Params->W.Frag}{CX:World->Ml}{sp:World->Sp}{x:Str}(hn:l.most=some n)(IY:n<=sizeLine)(OE:d.params.defaults=[])(hr:Room k callerA)(hY:∀(w:World)(h:Heap),YP w h->(K w.params).In h)(F:∀(w:World)(mg:X7)(fa:TD)(h:Heap),(K w.params).In h->h.Ns mainGlobals mg->mg d.name=some (.ref fa) →
   ∃fd:FuncData,(∀(s:PP)(u:S6),BindsTo s fd ⟨[u],[]⟩ [(x,u)]) ∧
    ∀base:Heap,(K w.params).In base->base.Ns mainGlobals mg->jK l.prog w (K w.params) mg base (CX w) k fa fd [x] (sp w))(GX:∀(w:World)(H:Hp)(a:TD)(ns:List Int),ns.length<=n->Ud H->SqL (K w.params) H a (ns.map V.int)->sp w [.ref a] H (λv _=>v=.bl true) λ_ _ _=>False)(VU:∀(w:World)(H:Hp)(s:PP)(e:S6)(s':PP),CX w [] H s (λ_ _ _=>False) e s'->False) :
  W.WalkO q loose XP YP l.row.toRowW d [] (λf vs=>PySem.call f vs):=by
 refine Att.attach_call hn OE λw s₀ s₁ mg mb fa o pm cd doc a vs ns G Y ho hd yq IZ KD hints hlen hg=>?_;have KX:=hY w _ Y;obtain⟨fd,hb,hF⟩:=F w mg fa _ KX G.T.g IZ;exact Id KX G.T.g G.T.b G.T.builtins G.T.nolimit hg KD hints (eS hlen IY) hr hF hb (λH hO hS=>GX w H a ns hlen hO hS) λH e s'=>VU w H s₁ e s'
end L2
/- THE df' TL (shape;LID,My.* are aJ'):
   My.Adr: a structure of the addresses that dg' aK' names (classes,NB);My.Txt K t: a structure (Prop) of the equations over K;
   My.txt_mk:{K} {implicit addresses ..} (e1:nsIn K mainGlobals "law"=some (some (.ref f))) (e2:K.lookup f=some ⟨oc,od,.func (fnOf "law" "law" params body scope dV kV doc pm an cdv ct),sl⟩) (e3:codeIn K cdv "law"=true) ..:∃t,My.Txt K t
set_option maxRecDepth 100000 in
set_option maxHeartbeats 0 in
def PySem.Challenge.cw_LID_holds : PySem.Challenge.rw_LID.Holds := by
 w_on;o_law;k_head;(case hw=>w_witness2)
 k_fill
 refine L2.Bj (l:=PySem.Challenge.rw_LID) (n:=63) (k:=40) (x:="script") (CX:=λw=>..) (sp:=λ_=>My.sp_law) rfl Zd rfl ⟨rfl,Zd,Zd⟩ (λw h Y=>W.kIn_of Y) ?F ?S ?C
 case F=>
  intro w mg fa h KX G IZ;have T:∃t,My.Txt (L2.KOf KX) t:=by
   dsimp only [L2.KOf]                          -- K dh' aL' as «<heap const> w.params» for k_is
   refine' My.txt_mk ?e1 ?e2 ?e3 ..
   (case e1=>W.k_is)                    -- in the order: a name->its address->its object->its parts
   (case e2=>W.k_is)
   ..
  obtain⟨t,T⟩:=T;have e0:=IZ.symm.trans (W.mg_of KX G T.law);cases e0                                       -- fa is the aM' own address;exact⟨_,λs u=>.of_eq rfl,λbase kb nb=>My.law_fn T kb nb⟩     -- if «.of_eq rfl» comes too early: refine' ⟨_,?b,λbase kb nb=>My.law_fn T kb nb⟩;exact λs u=>.of_eq rfl
 case S=>exact λw H a ns hl hO hS=>..
 case C=>exact ..
(the tactic k_is has no namespace: write k_is) -/
namespace L2
open PySem PySem.Spec PyProof.Rows
def aO(s:Stmt)(j:Nat):Stmt:=match s with
 | .ClassDef _ _ _ body _ _ _ _ _ _ _=>body.getD j (.Pass ⟨0,0,0,0⟩)
 | _=>.Pass ⟨0,0,0,0⟩
def bD(s:Stmt):Arguments:=match s with
 | .FunctionDef _ a _ _ _ _ _ _ _ _=>a
 | _=>{posonlyargs:=[],args:=[],vararg:=none,kwonlyargs:=[],kw_defaults:=[],kwarg:=none,defaults:=[] }
def aS(s:Stmt):List Stmt:=match s with
 | .FunctionDef _ _ b _ _ _ _ _ _ _=>b
 | _=>[]
def aB(s:Stmt):Scope:=match s with
 | .FunctionDef _ _ _ _ _ _ sc _ _ _=>sc
 | _=>{kind:=.function,names:=[],isGenerator:=false,isCoroutine:=false }
abbrev sY:Ml:=λ_ _ _ _ _ _=>False
abbrev E0:XK:=λ_ _ _=>False
def sZ{X:Cx}:nO sY X E0:=λ_ _ _ _ _ _ _ h=>h.elim
structure Fun(K:W.Frag)(x qual:Str)(st:Stmt)(f:TD)(fd:FuncData):Prop where
 ex:∃(oc:S6)(od:Option TD)(kV doc pm:S6)(an:Option TD)(cdv ct:S6)(osl:Array (Option S6)),
  fd=W.fnOf x qual (bD st) (aS st) (aB st) .none kV doc pm an cdv ct/\K.lookup f=some ⟨oc,od,.func fd,osl⟩/\W.codeIn K cdv qual=true
 kp:W.keepIn K (.ref f)=true
section
variable {P:Program}{w:World}{K:W.Frag}{mg:X7}{base:Heap}
def Fun.ok{x qual:Str}{st:Stmt}{f:TD}{fd:FuncData}{N ps:List Str}{k:Nat}{sp:Sp}(F:Fun K x qual st f fd)(S:aG N ps (aB st))(len:∀vs H Q E,sp vs H Q E->vs.length=ps.length)(x8:∀(cdv:S6)(A:Around)(outer:List Env)(s:PP)(H:Hp)(vs:List V)(Q:VK)(E:XK),Room k (A.deeper (envOfC qual (aB st) s.heap.objs.size f cdv))->sp vs H Q E →
   ∃t,PSs (nQ sY P w K mg base N qual (aB st) f cdv A outer s H E).nox (aS st) t/\t {nx:=λ_ H'=>Q .non H',rt:=Q } (start N vs) H):jK P w K mg base sY (k+1) f fd ps sp:=by
 obtain⟨oc,od,kV,doc,pm,an,cdv,ct,osl,rfl,lk,yq⟩:=F.ex;refine Qy lk yq S len λA outer s H vs Q E hr GX=>?_;obtain⟨t,h,q⟩:=x8 cdv A outer s H vs Q E hr GX;exact⟨t,h.nox,q⟩
def Fun.binds{x qual:Str}{st:Stmt}{f:TD}{fd:FuncData}{ps:List Str}(F:Fun K x qual st f fd)(h:∀(kV doc pm:S6)(an:Option TD)(cdv ct:S6)(us:List S6),us.length=ps.length->bindArgs (W.fnOf x qual (bD st) (aS st) (aB st) .none kV doc pm an cdv ct) ⟨us,[]⟩=pure (ps.zip us)):Binds K fd ps []:=by
 obtain⟨oc,od,kV,doc,pm,an,cdv,ct,osl,rfl,lk,yq⟩:=F.ex;exact .all (h kV doc pm an cdv ct)
def qF{x qual:Str}{st:Stmt}{f:TD}{oc:S6}{od an:Option TD}{osl:Array (Option S6)}{kV doc pm cdv ct:S6}(l:K.lookup f=some ⟨oc,od,.func (W.fnOf x qual (bD st) (aS st) (aB st) .none kV doc pm an cdv ct),osl⟩)(c:W.codeIn K cdv qual=true)(k:W.keepIn K (.ref f)=true):Fun K x qual st f (W.fnOf x qual (bD st) (aS st) (aB st) .none kV doc pm an cdv ct):=⟨⟨oc,od,kV,doc,pm,an,cdv,ct,osl,rfl,l,c⟩,k⟩
end
def cC{A:Around}{k:Nat}(hr:Room k A):A.units+1<cLine:=rY (Nat.add_le_add_left (by decide:1<=64) _) hr.units
def Same(H H':Hp):Prop:=∀b o,H b=some o->H' b=some o
def Same.refl(H:Hp):Same H H:=λ_ _ h=>h
def Same.trans{H H1 H2:Hp}(a:Same H H1)(b:Same H1 H2):Same H H2:=λc o h=>b c o (a c o h)
def Same.free{H H':Hp}(e:Same H H'){l:TD}(h:H' l=Option.none):H l=Option.none:=by
 cases q:H l with
 | none=>rfl
 | some o=>
  rw[e l o q]at h;cases h
def Same.seq{K:W.Frag}{H H':Hp}{a:TD}{xs:List V}(e:Same H H')(h:SqL K H a xs):SqL K H' a xs:=by
 rcases h with(h|⟨o,h⟩)|h
 ·exact .inl (.inl (e _ _ h))
 ·exact .inl (.inr ⟨o,e _ _ h⟩)
 ·exact .inr h
section
variable {κ:Type} [DecidableEq κ]
def jO{kvs:List (κ×V)}{k:κ}(h:aV kvs k=none):¬ k∈kvs.map (·.1):=by
 intro m;obtain⟨p,hp,e⟩:=Zmm.mp m;have q:(kvs.any λkv=>decide (kv.1=k))=true:=any_eq_true.mpr ⟨p,hp,UV e⟩;rw[cM,h]at q;exact IQ q Zs
def Bk{kvs:List (κ×V)}{k:κ}{v:V}(h:aV kvs k=some v):k∈kvs.map (·.1):=by
 have q:(kvs.any λkv=>decide (kv.1=k))=true:=by
  rw[cM,h];all_goals rfl
 obtain⟨p,hp,e⟩:=any_eq_true.mp q;exact Zmm.mpr ⟨p,hp,WF e⟩
def vE:∀ {l:List κ}{k:κ},l.Nodup->¬ k∈l->(l++[k]).Nodup
 | [],k,_,_=>by simp
 | a::r,k,h,hk=>by
  obtain⟨h1,h2⟩:=nodup_cons.mp h;show(a::(r++[k])).Nodup;refine nodup_cons.mpr ⟨λm=>?_,vE h2 λm=>hk (mem_cons.mpr (Or.inr m))⟩;rcases Zma.mp m with q|q
  ·exact h1 q
  ·exact hk (mem_cons.mpr (Or.inl (Zms.mp q).symm))
def Nw{kvs:List (κ×V)}{k:κ}(v:V)(hn:(kvs.map (·.1)).Nodup)(h:aV kvs k=none):((bB kvs k v).map (·.1)).Nodup:=by
 rw[gM v h,jM];exact vE hn (jO h)
def tD{p:κ×V}{r:List (κ×V)}{k:κ}(e:p.1=k):bI (p::r) k=bI r k:=by
 unfold bI;rw[filter_cons,IS (by simp[e])]
def nX{p:κ×V}{r:List (κ×V)}{k:κ}(e:¬ p.1=k):bI (p::r) k=p::bI r k:=by
 unfold bI;rw[filter_cons,NE (by simp[e])]
def qG:∀ {kvs:List (κ×V)}{k:κ},¬ k∈kvs.map (·.1)->bI kvs k=kvs
 | [],_,_=>rfl
 | p::r,k,h=>by
  have h':¬ k∈r.map (·.1):=λm=>by
   obtain⟨q,hq,e⟩:=Zmm.mp m;exact h (Zmm.mpr ⟨q,mem_cons.mpr (Or.inr hq),e⟩)
  rw[nX λe=>h (Zmm.mpr ⟨p,mem_cons.mpr (Or.inl rfl),e⟩),qG h']
def tE{kvs:List (κ×V)}{k:κ}{p:κ×V}(h:p∈bI kvs k):p∈kvs:=(mem_filter.mp h).1
def qH:∀ {kvs:List (κ×V)}{k:κ},(kvs.map (·.1)).Nodup->((bI kvs k).map (·.1)).Nodup
 | [],_,_=>nodup_nil
 | p::r,k,h=>by
  have h:(p.1::r.map (·.1)).Nodup:=h;obtain⟨h1,h2⟩:=nodup_cons.mp h;by_cases e:p.1=k
  ·rw[tD e];exact qH h2
  ·rw[nX e];show(p.1::(bI r k).map (·.1)).Nodup;refine nodup_cons.mpr ⟨λm=>h1 ?_,qH h2⟩;obtain⟨q,hq,eq⟩:=Zmm.mp m;exact Zmm.mpr ⟨q,tE hq,eq⟩
end
def jP(env:Env):List (Str×NameKind)->List (Str×TD)->List (Str×TD)
 | [],cs=>cs
 | (n,k)::r,cs=>jP env r (if k=.free then (match env.cells.lookup n with|some c=>(n,c)::cs|none=>cs) else cs)
def lF{env:Env}:∀(names:List (Str×NameKind))(cs:List (Str×TD)),(∀x∈names,x.2=.free->∃c,env.cells.lookup x.1=some c) →
  (forIn names cs λ(x:Str × NameKind) (r:List (Str × Addr))=>(do
   if x.2 == .free then do
    let c←cellOf env x.1
    pure (ForInStep.yield ((x.1,c)::r))
   else pure (ForInStep.yield r):Sem _))=pure (jP env names cs)
 | [],cs,_=>rfl
 | (n,k)::r,cs,h=>by
  rw[List.forIn_cons];by_cases hk:k=.free
  ·subst hk;obtain⟨c,hc⟩:=h (n,.free) mZ rfl;have HH:env.cells.lookup n=some c:=hc;have e1:cellOf env n=pure c:=by unfold cellOf;rw[HH]
   simp only [beq_self_eq_true,if_true,e1,pure_bind];rw[lF r ((n,c)::cs) λx hx=>h x (fL _ hx)];simp[jP,HH]
  ·have hb:(k==NameKind.free)=false:=by simpa using hk
   simp only [hb,Bool.false_eq_true,if_false,pure_bind];rw[lF r cs λx hx=>h x (fL _ hx)];simp[jP,hk]
def qI{scope:Scope}{env:Env}(h:∀x∈scope.names,x.2=.free->∃c,env.cells.lookup x.1=some c):closureFor scope env=pure (jP env scope.names []):=by
 have e:=lF scope.names [] h;unfold closureFor;exact(congrArg (λz=>z>>=λ(r:List (Str×TD))=>(pure r:Sem _)) e).trans (pure_bind _ _)
def xE{env:Env}:∀(names:List (Str×NameKind))(cs:List (Str×TD)),(∀y d,(y,d)∈cs->env.cells.lookup y=some d)->∀y d,(y,d)∈jP env names cs->env.cells.lookup y=some d
 | [],_,h=>h
 | (n,k)::r,cs,h=>by
  unfold jP;refine xE r _ λy d hm=>?_
  split at hm
  ·split at hm
   ·rename_i c hc;rcases mem_cons.mp hm with e|e
    ·cases e;exact hc
    ·exact h y d e
   ·exact h y d hm
  ·exact h y d hm
def Bl{env:Env}:∀(names:List (Str×NameKind))(cs:List (Str×TD))(y:Str)(d:TD),(y,d)∈jP env names cs->(y,.free)∈names∨(y,d)∈cs
 | [],_,_,_,h=>.inr h
 | (n,k)::r,cs,y,d,h=>by
  unfold jP at h;rcases Bl r _ y d h with e|hm
  ·exact .inl (fL _ e)
  ·split at hm
   ·rename_i hk;split at hm
    ·rcases mem_cons.mp hm with e|e
     ·cases e;subst hk;exact .inl mZ
     ·exact .inr e
    ·exact .inr hm
   ·exact .inr hm
def Ie{env:Env}:∀(names:List (Str×NameKind))(cs:List (Str×TD))(y:Str),((∃d,(y,d)∈cs)∨(y,.free)∈names)->(∀x∈names,x.2=.free->∃c,env.cells.lookup x.1=some c)->∃d,(y,d)∈jP env names cs
 | [],_,_,h,_=>by
  rcases h with h|h
  ·exact h
  ·cases h
 | (n,k)::r,cs,y,h,hf=>by
  unfold jP;refine Ie r _ y ?_ λx hx=>hf x (fL _ hx)
  rcases h with⟨d,hd⟩|h
  ·refine .inl ⟨d,?_⟩;split
   ·split
    ·exact fL _ hd
    ·exact hd
   ·exact hd
  ·rcases mem_cons.mp h with e|e
   ·have e1:y=n:=congrArg Prod.fst e;have e2:NameKind.free=k:=congrArg Prod.snd e;subst e1 e2;obtain⟨c,hc⟩:=hf (y,.free) mZ rfl;have HH:env.cells.lookup y=some c:=hc;refine .inl ⟨c,?_⟩;rw[NE rfl,HH];exact mZ
   ·exact .inr e
def qJ{α:Type}:∀ {l:List (Str×α)}{y:Str}{d:α},(y,d)∈l->∃d',l.lookup y=some d'/\(y,d')∈l
 | (n,c)::r,y,d,h=>by
  by_cases e:y=n
  ·subst e;exact⟨c,by simp[lookup_cons],mZ⟩
  ·rcases mem_cons.mp h with q|q
   ·cases q;exact IQ rfl e
   ·obtain⟨d',h1,h2⟩:=qJ q;have hb:(y==n)=false:=by simpa using e
    exact⟨d',by rw[lookup_cons,hb];exact h1,fL _ h2⟩
def dN{env:Env}{names:List (Str×NameKind)}{y:Str}{c:TD}(h:(jP env names []).lookup y=some c):env.cells.lookup y=some c/\(y,.free)∈names:=by
 have hm:=PySem.mem_of_lookup h;refine⟨xE names [] (λ_ _ z=>nomatch z) y c hm,?_⟩;rcases Bl names [] y c hm with e|e
 ·exact e
 ·cases e
def Bm{env:Env}{names:List (Str×NameKind)}{y:Str}(h:(y,.free)∈names)(hf:∀x∈names,x.2=.free->∃c,env.cells.lookup x.1=some c):∃c,(jP env names []).lookup y=some c/\env.cells.lookup y=some c:=by
 obtain⟨d,hd⟩:=Ie names [] y (.inr h) hf;obtain⟨c,hc,_⟩:=qJ hd;exact⟨c,hc,(dN hc).1⟩
def vF{scope:Scope}{env:Env}(uq:∀y∈scope.names,y.2≠.cell){x:Str}(h:(relabel scope env).names.lookup x=some .cell∨(relabel scope env).names.lookup x=some .free):(x,.free)∈scope.names:=by
 have go:∀ {k:NameKind},k=.cell∨k=.free->(relabel scope env).names.lookup x=some k->(x,.free)∈scope.names:=λ{k} hk h=>by
  have hm:=PySem.mem_of_lookup h;unfold relabel at hm;obtain⟨⟨n,j⟩,hp,e⟩:=Zmm.mp hm;dsimp only at e;split at e
  ·rename_i hc;cases e;have:j=.free:=by
    have:=(Bool.and_eq_true_iff.mp (Bool.and_eq_true_iff.mp hc).1).1;simpa using this
   subst this;exact hp
  ·cases e;rcases hk with q|q
   ·exact IQ q (uq _ hp)
   ·subst q;exact hp
 rcases h with h|h
 ·exact go (.inl rfl) h
 ·exact go (.inr rfl) h
def lU{env:Env}:∀ {names:List (Str×NameKind)}{x:Str},names.lookup x=some .free →
  (names.map λ(n,k)=>if (k==NameKind.free&&env.scope.kind == .function&&env.kindOf n==some .cell) then (n,NameKind.cell) else (n,k)).lookup x=some .cell∨
  (names.map λ(n,k)=>if (k==NameKind.free&&env.scope.kind == .function&&env.kindOf n==some .cell) then (n,NameKind.cell) else (n,k)).lookup x=some .free
 | [],_,h=>by simp at h
 | (n,k)::r,x,h=>by
  have ih:=@lU env r x;rw[map_cons];dsimp only;cases hx:x==n with
  | true=>
   simp only [lookup_cons,hx]at h;cases h;split
   ·left;simp[lookup_cons,hx]
   ·right;simp[lookup_cons,hx]
  | false=>
   simp only [lookup_cons,hx]at h;split
   ·simp only [lookup_cons,hx];exact ih h
   ·simp only [lookup_cons,hx];exact ih h
def mW(X:Cx)(scope:Scope)(C:TD)(N:List Str)(s₂:PP)(H₂:Hp)(fp:List TD):Cx where
 prog:=X.prog
 w:=X.w
 K:=X.K
 mg:=X.mg
 base:=X.base
 A:=X.A
 N:=N
 s₀:=s₂
 H₀:=H₂
 env:=compEnvC scope (jP X.env scope.names []) C X.env
 outer:=X.stack
 stack:=X.stack
 ex:=fp
 fn:=λ_=>false
 calm:=X.calm
 pn:=[]
 xe:=λ_ _=>False
def xF(js:List (Option Nat))(σ:St):St:=js.map λo=>match o with|some j=>(σ[j]?).getD none|none=>none
structure CompScope(X:Cx)(scope:Scope)(N:List Str)(js:List (Option Nat)):Prop where
 kind:scope.kind=.function
 nocell:∀y∈scope.names,y.2≠.cell
 loc:∀y∈scope.names,y.2=.local->scope.names.lookup y.1=some .local
 len:js.length=N.length
 cap:∀(i j:Nat),js[i]?=some (some j)->∃x,N[i]?=some x/\X.N[j]?=some x/\scope.names.lookup x=some .free
 out:∀y∈scope.names,y.2=.free->X.env.kindOf y.1=some .cell∨X.env.kindOf y.1=some .free
def zP(js:List (Option Nat))(g:TG):Prop:=∀x σ H Q,g x σ H Q->g x σ H λσ2 H2=>Q σ2 H2/\σ2.length=σ.length/\∀(i j:Nat),js[i]?=some (some j)->σ2[i]?=σ[i]?
def Bn(js:List (Option Nat))(g:Ax):Prop:=∀xs σ H Q,g xs σ H Q->g xs σ H λσ2 H2=>Q σ2 H2/\σ2.length=σ.length/\∀(i j:Nat),js[i]?=some (some j)->σ2[i]?=σ[i]?
def aP{js:List (Option Nat)}{k:Nat}(h:js[k]?=some none):zP js (aK k):=λx σ H Q q=>by
 refine⟨q,Zs,λi j e=>?_⟩;have:k≠i:=λz=>by subst z;rw[h]at e;cases e
 rw[List.getElem?_set_ne this]
def En{js:List (Option Nat)}:Bn js Sy:=λxs σ H Q q=>⟨q.1,q.2,rfl,λ_ _ _=>rfl⟩
def qK{js:List (Option Nat)}{k:Nat}{u:Ax}(h:js[k]?=some none)(hu:Bn js u):Bn js (Gv (aK k) u):=λxs σ H Q q=>by
 obtain⟨v,r,e,q⟩:=q;refine⟨v,r,e,?_⟩;obtain⟨_,h2⟩:=aP h v σ H (λ_ _=>True) trivial;have q2:=hu r _ _ _ q;have e2:(λσ2 H2=>Q σ2 H2/\σ2.length=(σ.set k (some v)).length/\∀(i j:Nat),js[i]?=some (some j)->σ2[i]?=(σ.set k (some v))[i]?)=(λσ2 (H2:Hp)=>Q σ2 H2/\σ2.length=σ.length/\∀(i j:Nat),js[i]?=some (some j)->σ2[i]?=σ[i]?):=by
  funext σ2 H2
  have e3:∀(i j:Nat),js[i]?=some (some j)->(σ.set k (some v))[i]?=σ[i]?:=h2.2;apply propext;constructor
  ·rintro⟨a,b,c⟩;exact⟨a,by simpa using b,λi j e=>(c i j e).trans (e3 i j e)⟩
  ·rintro⟨a,b,c⟩;exact⟨a,by simpa using b,λi j e=>(c i j e).trans (e3 i j e).symm⟩
 show u r (σ.set k (some v)) H _;rw[<- e2];exact q2
def Ig{K:W.Frag}{n:Nat}{js:List (Option Nat)}{t:Ax}(h:Bn js t):zP js (Mz K n t):=λx σ H Q q=>by
 obtain⟨a,xs,e,hq,hl,q⟩:=q;exact⟨a,xs,e,hq,hl,h xs σ H Q q⟩
section
variable {X:Cx}{pins:Z5}{σ:St}{H H':Hp}{s:PP}
def Un.more{fs ex:List TD}{H H':Hp}{h h':Heap}{D:TD}{o:HO}(u:Un fs ex H H' h h')(hD:h.get? D=none)(hH:H D=none):Un fs ex H (aH H' D o) h h' where
 keep:=u.keep
 slot:=u.slot
 free:=λb ob q n hx=>by
  have:b≠D:=λz=>by rw[z,hD]at q;cases q
  rw[aE this];exact u.free b ob q n hx
 there:=u.there
 tups:=λb xs q=>by rw[aE (aD q hH)];exact u.tups b xs q
 frzs:=λb ob xs q=>by rw[aE (aD q hH)];exact u.frzs b ob xs q
 tbls:=λb ps q=>by rw[aE (aD q hH)];exact u.tbls b ps q
def HOk.more{P:Program}{w:World}{h:Heap}{D:TD}{o:HO}(k:HOk P w H h)(hH:H D=none)(new:ObjOk P w (aH H D o) h D o):HOk P w (aH H D o) h:=λb u e=>by
 by_cases hb:b=D
 ·subst hb;rw[aA]at e;cases e;exact new
 ·rw[aE hb]at e;exact(k b u e).stay (λ_ _ _ q=>q) (λc q=>by rw[aE (aD q hH)];exact q) λc xs q=>by rw[aE (aD q hH)];exact q
def CompScope.ok{scope:Scope}{N:List Str}{js:List (Option Nat)}{C:TD}{fp:List TD}(S:CompScope X scope N js)(I:Inv X pins σ H s)(hC:s.heap.objs.size<=C)(hf:∀b∈fp,nF X pins H b)(hl:∀b∈fp,b<s.heap.objs.size) :
  (mW X scope C N s H fp).Ok where
 mod:=I.ok.mod
 kind:=S.kind
 glob:=I.ok.glob
 blt:=I.ok.blt
 above:=hC
 inj:=λx y c h1 h2=>I.ok.inj x y c (dN h1).1 (dN h2).1
 has:=λx hx=>by
  have hm:(x,.free)∈scope.names:=vF S.nocell hx;obtain⟨c,h1,_⟩:=Bm (env:=X.env) hm λy hy hk=>I.ok.has y.1 (S.out y hy hk)
  exact⟨c,h1⟩
 cab:=λx c z=>nomatch z
 hd:=I.ok.hd
 frames:=I.ok.frames
 stk:=.inl rfl
 exf:=λb hb=>⟨ne_of_lt (FS (hl b hb) hC),λx c e=>(hf b hb).2.2.2.2.1 x c (dN e).1⟩
 bs:=I.bs
 bsz:=eS I.ok.bsz I.sz
 noex:=λb o e hb=>by
  rcases(hf b hb).2.2.2.1 with z|z
  ·exact I.ok.noex b o e z
  ·exact IQ (FS (Heap.lt_size e) (eS I.ok.bsz z)) (lt_irrefl _)
 exfs:=λb hb hm=>by
  rcases mem_cons.mp (I.stkSub b hm) with z|z
  ·exact(hf b hb).2.1 z
  ·exact(hf b hb).2.2.1 z
 funs:=I.stack
 frf:=I.stkFree
def CompScope.start{scope:Scope}{N:List Str}{js:List (Option Nat)}{C D:TD}{fp:List TD}{ob:Obj}{h₁:Heap}{m:X7}{tk:Nat}(S:CompScope X scope N js)(I:Inv X pins σ H s)(hC:s.heap.objs.size<=C)(hD:s.heap.objs.size<=D)(EJ:D≠C)(hf:∀b∈fp,nF X pins H b)(hl:∀b∈fp,b<s.heap.objs.size)(k:∀b o,s.heap.get? b=some o->h₁.get? b=some o)(OF:h₁.Ns C m)(eD:h₁.get? D=some ob)(nc:∀v,ob.data≠.cell v) :
  Inv (mW X scope C N s H fp) [(D,ob)] (xF js σ) H {s with heap:=h₁,toks:=tk } where
 ok:=S.ok I hC hf hl
 os:=rfl
 bare:=I.bare
 base:=Un.kept k
 loc:=by
  refine⟨m,OF,λi x v h1 h2 h3=>?_⟩;have h1:N[i]?=some x:=h1;unfold xF at h2;rw[iK]at h2;cases e:js[i]? with
  | none=>rw[e]at h2;cases h2
  | some o=>
   rw[e]at h2;cases o with
   | none=>cases h2
   | some j=>
    have sq:(σ[j]?).getD none=some v:=Option.some.inj h2;have hσ:σ[j]?=some (some v):=by
     cases q:σ[j]? with
     | none=>rw[q]at sq;cases sq
     | some z=>rw[q]at sq;exact congrArg some sq
    obtain⟨y,e1,e2,e3⟩:=S.cap i j e;rw[h1]at e1;cases e1;have P2:(x,.free)∈scope.names:=PySem.mem_of_lookup e3;have ho:=S.out (x,.free) P2 rfl;obtain⟨mX,_,hlX⟩:=I.loc;have hvX:Wt X.env.scope x:=by
     rcases ho with z|z
     ·exact .inr (.inl z)
     ·exact .inr (.inr z)
    obtain⟨u,r,l⟩:=hlX j x v e2 hσ hvX;refine⟨u,r,.inr ?_⟩;rcases l with⟨hk,_⟩|⟨hk,c,hc,uq⟩
    ·rcases ho with z|z
     ·have z':X.env.kindOf x=some .cell:=z;rw[hk]at z';cases z'
     ·have z':X.env.kindOf x=some .free:=z;rw[hk]at z';cases z'
    ·obtain⟨c',Z8,OH⟩:=Bm (env:=X.env) P2 λy hy hk=>I.ok.has y.1 (S.out y hy hk)
     rw[hc]at OH;cases OH;refine⟨lU e3,c,Z8,?_⟩;obtain⟨oc,q1,q2⟩:=uq;exact⟨oc,k c oc q1,q2⟩
 cell:=λx c e=>by
  obtain⟨v,oc,q1,q2⟩:=I.cell x c (dN e).1;exact⟨v,oc,k c oc q1,q2⟩
 free:=I.hok.fresh hC
 freeC:=λx c e=>I.freeC x c (dN e).1
 pin:=λp hp=>by
  have e:p=(D,ob):=by
   rcases Zma.mp hp with z|z
   ·exact IQ (show p∈([]:List (TD×Obj)) from z) Zs
   ·simpa using z
  subst e;refine⟨eD,I.hok.fresh hD,EJ,λhm=>?_,nc⟩;rcases mem_cons.mp (I.stkSub D hm) with z|z
  ·have z:D=X.env.locals:=z;have:=I.lt;rw[<- z]at this;exact IQ (FS this hD) (lt_irrefl _)
  ·exact I.nofs hD z
 hok:=I.hok.kept k
 len:=by
  unfold xF;rw[bP];exact S.len
end
def Wp(X:Cx)(cs:List Expr)(t:TT):Prop:=
 ∀(pins:Z5)(s:PP)(σ:St)(H:Hp)(Q:Bool->Hp->Prop)(E:ZB),Inv X pins σ H s->t σ H Q →
  wpAny (model X.prog X.w) X.A (forIn cs true λc r=>if r=true then do let ok←isTrue c X.env (eval c X.env);pure (ForInStep.yield ok) else pure (ForInStep.yield r)) (TP X pins σ Q) E s
def Rf:TT:=λ_ H Q=>Q true H
def Ny{X:Cx}:Wp X [] Rf:=λpins s σ H Q E I h=>wpAny_tests_nil ⟨H,I,h⟩
def Nz{X:Cx}{c:Expr}{t:TT}(h:PT X c t)(hx:X.xe=λ_ _=>False:=by rfl):Wp X [c] t:=λpins s σ H Q E I q=>
 wpAny_tests_one (wpAny_mono (h pins s σ H Q I q) (λ_ _ z=>z) λe s' z=>by rw[hx]at z;exact z.elim)
def oX(js:List (Option Nat))(g:TG)(tt:TT)(te:TE)(σ:St)(J:It)(H1:Hp)(Q:List V->Hp->Prop):Prop:=
 ∃W:Nat->Nat->List V->Hp->Prop,(∃m,W 0 m [] H1)/\∀i m ys H,W i m ys H →
  (J.stop i H/\Q ys H)∨
  (J.go i H/\ys.length<sizeLine/\∃N:List V->Hp->Prop,(∀OI H',N OI H'->∃m',m'<m/\W (i+1) m' OI H') ∧
   ∀x H',J.yld i H x H'->g x (xF js σ) H' λσ2 H2=>tt σ2 H2 λb H3=>if b=true then te σ2 H3 λy H4=>N (ys++[y]) H4 else N ys H3)
def Rg(wi:TI)(js:List (Option Nat))(g:TG)(tt:TT)(te:TE):TE:=λσ H Q=>wi σ H λJ H1=>
 oX js g tt te σ J H1 λys H2=>∀p,H2 p=none->Q (.ref p) (aH H2 p (.lst ys))
def Rh(i:Nat)(wi:TI)(js:List (Option Nat))(g:TG)(tt:TT)(te:TE):TS:=λD σ H=>wi σ H λJ H1=>
 oX js g tt te σ J H1 λys H2=>∀p,H2 p=none->D.nx (σ.set i (some (.ref p))) (aH H2 p (.lst ys))
section
variable {X:Cx}{tg iter elt:Expr}{ifs:List Expr}{scope:Scope}{N:List Str}{js:List (Option Nat)}{wi:TI}{g:TG}{tt:TT}{te:TE}{pos:Pos}
def qL{pins:Z5}{σ:St}{H2:Hp}{s2:PP}{it:TD}{fp:List TD}{tn:Nat->Heap->Prop}{J:It}{Qf:List V->Hp->Prop}{RR:S6->TD->Result->PP->Prop}{E:ZB}(hc:X.calm=true)(S:CompScope X scope N js)(go:zP js g)(hb:∀(C:TD)(s₂:PP)(H₂:Hp)(fp:List TD),PG (mW X scope C N s₂ H₂ fp) tg g/\Wp (mW X scope C N s₂ H₂ fp) ifs tt/\PE (mW X scope C N s₂ H₂ fp) elt te)(I2:Inv X pins σ H2 s2)(T:rM X.prog X.w X.K tg J fp it tn)(HJ:tn 0 s2.heap)(f2:∀b∈fp,nF X pins H2 b)(hw:oX js g tt te σ J H2 Qf)(hRR:∀(C D:TD)(ys:List V)(H3:Hp)(s3:PP)(m:X7),s2.heap.objs.size<=C->s2.heap.objs.size<=D->D≠C->Inv X pins σ (aH H3 D (.lst ys)) s3->H3 C=none->H3 D=none->s3.heap.Ns C m->Qf ys H3->RR (.ref D) C (.ok .next) s3) :
  wpAny (model X.prog X.w) X.A (newList []) (λacc s₃=>wpAny (model X.prog X.w) X.A (newFunctionEnv scope X.env.globals (jP X.env scope.names []) [] X.env.qual none .none (some X.env)) (λOJ s₄=>
   codeAny (model X.prog X.w) X.A (.compStart (.ListComp elt [⟨tg,iter,ifs,0⟩] scope pos) 0 (.ref it) acc {OJ with scope:=relabel scope X.env }) (RR acc OJ.locals) s₄) E s₃) E s2:=by
 obtain⟨W,⟨m0,w0⟩,turn⟩:=hw;refine wpAny_newObj_type (wpAny_newFunctionEnv S.nocell (by intro y hy;simp at hy) (λh₁ HL HM=>?_) S.kind);dsimp only at HL HM ⊢;generalize VY:s2.heap.push {cls:=.type "list",dict:=none,data:=.seq ([]:List S6).toArray }=HP at HL HM ⊢;have hC:HP.objs.size=s2.heap.objs.size+1:=by rw[<- VY,Heap.size_push]
 have EJ:s2.heap.objs.size≠HP.objs.size:=by rw[hC];exact ne_of_lt (lt_succ_self _)
 have KG:s2.heap.objs.size<=HP.objs.size:=by rw[hC];exact le_succ _
 have old:∀b o,s2.heap.get? b=some o->h₁.get? b=some o:=λb o e=>HM.extBut b o (by rw[hC];exact ne_of_lt (lt_succ_of_lt (Heap.lt_size e))) (gU _ (VY▸gU _ e))
 have yu:h₁.get? s2.heap.objs.size=some {cls:=.type "list",data:=.seq ([]:List S6).toArray 0 }:=HM.extBut _ _ EJ (gU _ (VY▸TW _ rfl));have EK:∀b∈fp,b<s2.heap.objs.size:=λb hb=>by
  obtain⟨o,e,_⟩:=T.obj _ _ HJ b hb;exact Heap.lt_size e
 generalize hDn:s2.heap.objs.size=D at EJ KG yu ⊢;generalize hCn:HP.objs.size=C at EJ KG HL ⊢;have TM:s2.heap.objs.size<=C:=by rw[hDn];exact KG
 have KH:s2.heap.objs.size<=D:=le_of_eq hDn;obtain⟨pg,pt,pe⟩:=hb C s2 H2 fp;have I0:=S.start (D:=D) (fp:=fp) (tk:=s2.toks+([]:List (Str×S6)).length) I2 TM KH EJ f2 EK old HL yu (λv z=>nomatch z);have VZ:∀ {H':Hp}{pl:Z5},(∀b∈fp,H' b=none)->(∀p∈pl,p.1∉fp)->∀b∈fp,nF (mW X scope C N s2 H2 fp) pl H' b:=λhn hp b hb=>
  ⟨hn b hb,ne_of_lt (FS (EK b hb) TM),(S.ok I2 TM f2 EK).exfs b hb,.inl hb,λx c e=>(f2 b hb).2.2.2.2.1 x c (dN e).1,λp hm z=>by
   rcases Zma.mp hm with q|q
   ·exact IQ (show p∈([]:List (TD×Obj)) from q) Zs
   ·exact hp p q (z ▸ hb)⟩
 have dfp:D∉fp:=λz=>IQ (FS (EK D z) KH) (lt_irrefl _)
 have one:∀ {ob:Obj},∀p∈[(D,ob)],p.1∉fp:=λp hp=>by
  have e:=Zms.mp hp;subst e;exact dfp
 have loop:∀s₃:PP,s₃={s2 with heap:=h₁,toks:=s2.toks+([]:List (Str×S6)).length } →
   codeAny (model X.prog X.w) X.A (.compLoop (.ListComp elt [⟨tg,iter,ifs,0⟩] scope pos) 0 (.ref it) (.ref D) (compEnvC scope (jP X.env scope.names []) C X.env)) (RR (.ref D) C) s₃:=by
  rintro s₃ rfl;refine codeAny_loop rfl (λn s'=>∃(i:Nat)(ys:List V)(H':Hp)(its:List S6)(k:Nat),Inv (mW X scope C N s2 H2 fp) [(D,{cls:=.type "list",data:=.seq its.toArray k })] (xF js σ) H' s'/\Vals ys its/\ys.length<=sizeLine/\tn i s'.heap/\(∀b∈fp,H' b=none)/\W i n ys H') ?_ m0 ?_
  ·rintro n s3 ⟨i,ys,H3,its,k,I3,rv,hz,NX,IV,w3⟩;show wpAny _ X.A ((compTurn (.ListComp elt [⟨tg,iter,ifs,0⟩] scope pos) 0 (.ref it) (.ref D) (compEnvC scope (jP X.env scope.names []) C X.env)).onRaise (λx=>do noteFrame x _;theTreesLotGoes x)) _ _ s3;refine wpAny_noted (wpAny_noRaise ?_);rw[compTurn_list];rcases turn i n ys H3 w3 with⟨stop,qn⟩|⟨WA,r9,Nx,hN,step⟩
   ·refine XV (wpAny_standAt (XV (bH (T.done (mW X scope C N s2 H2 fp) rfl rfl rfl hc i _ s3 (xF js σ) H3 (λ_ _=>False) I3 (VZ IV one) NX stop) ?_)));rintro r s4 ⟨hr,I4⟩;subst hr;refine W1 ?_;have pD:=I4.pin (D,{cls:=.type "list",data:=.seq its.toArray k }) (by simp[mW]);obtain⟨mC,hnC,_⟩:=id I4.loc;have IX:Inv X pins σ (aH H3 D (.lst ys)) s4:=by
     refine I2.call' (ch:=fp) I4.os (Un.more I4.base (Heap.get?_none_of_le KH) (I2.hok.fresh KH)) (HOk.more I4.hok pD.2.1 ⟨hz,its,k,rv,pD.1⟩) I4.bare λb hb=>?_;obtain⟨_,f1,_,f3,f4,f5⟩:=f2 b hb;exact⟨f3,f1,f4,f5⟩
    exact hRR C D ys H3 s4 mC TM KH EJ IX I4.free pD.2.1 hnC qn
   ·refine XV (wpAny_standAt (XV (bH (T.item (mW X scope C N s2 H2 fp) rfl rfl rfl hc i _ s3 (xF js σ) H3 (λ_ _=>False) I3 (VZ IV one) NX WA) ?_)));rintro r s4 ⟨u,hr,h4⟩;subst hr;refine XV (bH h4 ?_);rintro _ s5 ⟨x,H5,I5,r5,y5,JX,VM⟩;have VN:=I5.pinned (VZ VM one) (T.obj _ _ JX);refine XV (bH (pg _ s5 (xF js σ) H5 x u _ VN r5 (go _ _ _ _ (step x H5 y5))) ?_);rintro _ s6 ⟨σ6,H6,I6,⟨q6,l6,e6⟩⟩;have weak:∀ {pl:Z5}{H7:Hp}{s7:PP},Inv (mW X scope C N s2 H2 fp) pl σ6 H7 s7->Inv (mW X scope C N s2 H2 fp) pl (xF js σ) H7 s7:=λ{pl H7 s7} I7=>by
     refine I7.weak l6.symm λj v hj=>?_
     cases e:js[j]? with
     | none=>unfold xF at hj;rw[iK,e]at hj;cases hj
     | some o=>
      cases o with
      | none=>unfold xF at hj;rw[iK,e]at hj;cases hj
      | some j'=>rw[e6 j j' e];exact hj
    have JA:∀ {H7:Hp}{s7:PP}{pl:Z5},Inv (mW X scope C N s2 H2 fp) (pl++pZ fp s5.heap) (xF js σ) H7 s7->tn (i+1) s7.heap/\∀b∈fp,H7 b=none:=λ{H7 s7 pl} I7=>by
     refine⟨T.keep _ _ _ JX λb hb o e=>(I7.pin (b,o) (GS _ (GS _ (iN hb e)))).1,λb hb=>?_⟩;obtain⟨o,e,d⟩:=T.obj _ _ JX b hb;exact(I7.pin (b,o) (GS _ (GS _ (iN hb e)))).2.1
    refine XV (bH (pt _ s6 σ6 H6 _ _ I6 q6) ?_);rintro ok s7 ⟨H7,I7,q7⟩
    cases ok with
    | false=>
     rw[IS WP]at q7;refine W1 ⟨rfl,?_⟩;obtain⟨m',hm,w7⟩:=hN ys H7 q7;have I7':=weak I7;obtain⟨k1,k2⟩:=JA I7';exact⟨m',hm,i+1,ys,H7,its,k,I7'.unpinned,rv,hz,k1,k2,w7⟩
    | true=>
     rw[NE rfl]at q7;show wpAny _ _ ((eval elt _>>=λx=>call (.builtin "list.append") [.ref D,x]>>=λ_=>pure ())>>=λ_=>again _) _ _ _;refine XV (XV (bH (pe _ s7 σ6 H7 _ I7 q7) ?_));rintro y s8 ⟨yv,H8,I8,r8,q8⟩;obtain⟨m',hm,w8⟩:=hN (ys++[yv]) H8 q8;have WB:=weak I8;obtain⟨k1,k2⟩:=JA WB;have pD:=WB.pin (D,{cls:=.type "list",data:=.seq its.toArray k }) (by simp[mW]);have hln:=rv.length;refine XV (call_meets F.slot_list_append ⟨_,pD.1,rfl⟩ F.entry_list_append (F.args_list_append_2 _ _) (PySem.list_append D its.toArray k y (by rw[dR];omega)) ⟨pD.1,?_⟩);refine W1 (W1 ⟨rfl,m',hm,i+1,ys++[yv],H8,its++[y],?_⟩);have q:=PySem.IsL.update pD.1 (λz=>z.push y);have eA:its.toArray.push y=(its++[y]).toArray:=by simp
     rw[eA]at q;have I9:Inv (mW X scope C N s2 H2 fp) [] (xF js σ) H8 s8:=WB.pins_of λp hp=>IQ hp Zs
     have JC:∀b o,b≠D->s8.heap.get? b=some o->(s8.heap.update D (Obj.mapSeq λz=>z.push y)).get? b=some o:=λb o hb hu=>(Heap.get?_update_other s8.heap _ (Ne.symm hb)).trans hu
     have I10:Inv (mW X scope C N s2 H2 fp) [] (xF js σ) H8 {s8 with heap:=s8.heap.update D (Obj.mapSeq λz=>z.push y),toks:=s8.toks }:=I9.turned JC pD.2.1 pD.2.2.1 (.inr KH)
      (λx c e z=>by
       obtain⟨v,oc,q1,q2⟩:=I2.cell x c (dN e).1;rw[z]at q1;exact IQ (FS (Heap.lt_size q1) KH) (lt_irrefl _))
      (λp hp=>by
       rcases Zma.mp hp with q|q
       ·exact IQ (show p∈([]:List (TD×Obj)) from q) Zs
       ·exact IQ q Zs)
     refine⟨(if ((its++[y]).toArray).size==its.toArray.size then k else k+1),I10.pins_of λp hp=>?_,rv.append (.cons r8 .nil),?_,?_,k2,w8⟩
     ·have e:=Zms.mp hp;subst e;exact⟨q,pD.2.1,pD.2.2.1,pD.2.2.2.1,λv z=>nomatch z⟩
     ·rw[wM,List.length_singleton];omega
     ·exact T.keep _ _ _ k1 λb hb o e=>JC b o (λz=>dfp (z▸hb)) e
  ·exact⟨0,[],H2,[],0,I0,.nil,zero_le _,T.keep _ _ _ HJ λb _ o e=>old b o e,λb hb=>(f2 b hb).1,w0⟩
 exact codeAny_compStart_list (loop _ rfl) (T.self _ 0 _ _ _ (T.keep _ _ _ HJ λb _ o e=>old b o e) (loop _ rfl))
def Oa(hc:X.calm=true)(S:CompScope X scope N js)(go:zP js g)(hi:PI X tg iter wi)(hb:∀(C:TD)(s₂:PP)(H₂:Hp)(fp:List TD),PG (mW X scope C N s₂ H₂ fp) tg g/\Wp (mW X scope C N s₂ H₂ fp) ifs tt/\PE (mW X scope C N s₂ H₂ fp) elt te)(hs:∀x,foldedSetIterable iter X.env x=pure x:=by intro _;rfl):PE X (.ListComp elt [⟨tg,iter,ifs,0⟩] scope pos) (Rg wi js g tt te):=by
 intro pins s σ H Q I h;rw[eval_ListComp];refine wpAny_comprehension_free (use:=none) rfl hs (qI λy hy hk=>I.ok.has y.1 (S.out y hy hk)) S.kind S.loc (bH (hi pins s σ H _ I h) λv s1 h1=>bH h1 λTB s2 h2=>?_);obtain⟨it,fp,tn,J,H2,e,I2,T,HJ,f2,hw⟩:=h2;subst e;refine qL (RR:=λacc C=>compPost (model X.prog X.w) X.A X.xe none (EP X pins σ Q) acc C) hc S go hb I2 T HJ f2 hw ?_;intro C D ys H3 s3 m hC hD EJ I3 fC fD hn q;refine⟨m,hn,λh' WC=>?_⟩;refine⟨.ref D,aH H3 D (.lst ys),I3.turned (it:=C) (t':=s3.toks) (λb o hb e=>(WC.2 b hb).trans e) (by rw[aE (Ne.symm EJ)];exact fC) ?_ (.inr (eS I2.sz hC)) ?_ ?_,rfl,q D fD⟩
 ·exact ne_of_gt (FS I2.lt hC)
 ·intro x c e z;obtain⟨v,oc,q1,q2⟩:=I2.cell x c e;rw[z]at q1;exact IQ (FS (Heap.lt_size q1) hC) (lt_irrefl _)
 ·intro p hp z;have:=Heap.lt_size (I2.pin p hp).1;rw[z]at this;exact IQ (FS this hC) (lt_irrefl _)
def Ob{i:Nat}{y:Str}{py EL:Pos}(hN:X.N.Nodup)(hy:X.N[i]?=some y)(hx:Qs X.env.scope y)(hc:X.calm=true)(S:CompScope X scope N js)(go:zP js g)(hi:PI X tg iter wi)(hb:∀(C:TD)(s₂:PP)(H₂:Hp)(fp:List TD),PG (mW X scope C N s₂ H₂ fp) tg g/\Wp (mW X scope C N s₂ H₂ fp) ifs tt/\PE (mW X scope C N s₂ H₂ fp) elt te)(WD:swapsWith (.ListComp elt [⟨tg,iter,ifs,0⟩] scope pos) (some (.Name y py)) EL.line X.env=pure true)(hs:∀x,foldedSetIterable iter X.env x=pure x:=by intro _;rfl)(hf:X.fn y=true∨X.env.scope.names.lookup y=some .local:=by first|exact .inl rfl|exact .inr rfl|assumption) :
  PS X (.Assign [.Name y py] (.ListComp elt [⟨tg,iter,ifs,0⟩] scope pos) EL) (Rh i wi js g tt te):=by
 intro pins s σ H D I h;rw[exec_Assign_Name_used _ _ _ _ WD];refine XV (wpAny_standAt (XV ?_));show wpAny _ X.A (do let _ ← comprehension (.ListComp elt [⟨tg,iter,ifs,0⟩] scope pos) scope X.env _ (newList []) false (eval iter X.env) (some (assign (.Name y py) X.env))) _ _ s;refine XV (bH (wpAny_comprehension_free (use:=some (assign (.Name y py) X.env)) (Q:=λ_ s'=>SP X pins D .next s') rfl hs (qI λy hy hk=>I.ok.has y.1 (S.out y hy hk)) S.kind S.loc
  (bH (hi pins s σ H _ I h) λv s1 h1=>bH h1 λTB s2 h2=>?_)) λ_ s' hq=>W1 (W1 hq))
 obtain⟨it,fp,tn,J,H2,e,I2,T,HJ,f2,hw⟩:=h2;subst e;refine qL (RR:=λacc C=>compPost (model X.prog X.w) X.A X.xe (some (assign (.Name y py) X.env)) (λ_ s'=>SP X pins D .next s') acc C) hc S go hb I2 T HJ f2 hw ?_;intro C Da ys H3 s3 m hC hD EJ I3 fC fD hn q;have cne:∀x c,X.env.cells.lookup x=some c->c≠C:=λx c e z=>by
  obtain⟨v,oc,q1,q2⟩:=I2.cell x c e;rw[z]at q1;exact IQ (FS (Heap.lt_size q1) hC) (lt_irrefl _)
 have lne:C≠X.env.locals:=ne_of_gt (FS I2.lt hC);show wpAny _ X.A (assign (.Name y py) X.env (.ref Da)) _ _ _;refine wpAny_assign_Name (rZ (v:=.ref Da) I3 hN hy hx rfl (λs4 I4 hs4=>?_) hf);obtain⟨a,hsb,ha⟩:=hs4;have aC:C≠a:=by
  rcases ha with z|z
  ·rw[z];exact lne
  ·exact Ne.symm (cne y a z)
 refine⟨m,hn.sameBut hsb aC,λh' WC=>?_⟩;refine⟨_,_,I4.turned (it:=C) (t':=s4.toks) (λb o hb e=>(WC.2 b hb).trans e) (by rw[aE (Ne.symm EJ)];exact fC) lne (.inr (eS I2.sz hC)) cne ?_,q Da fD⟩;intro p hp z;have:=Heap.lt_size (I2.pin p hp).1;rw[z]at this;exact IQ (FS this hC) (lt_irrefl _)
end
def Zy(x:Str):It:=⟨λi _=>i<x.cps.size,λi H v H'=>H'=H/\∃c,x.cps[i]?=some c/\v=.str ⟨#[c]⟩,λi _=>x.cps.size<=i⟩
def zQ{P:Program}{w:World}{K:W.Frag}{tg:Expr}(it:TD)(x:Str)(t:Tok):rM P w K tg (Zy x) [it] it (λi h=>h.IsStrIter it "str_ascii_iterator" x t i) where
 mem:=by simp
 obj:=λi h st b hb=>by
  have e:b=it:=by simpa using hb
  subst e;obtain⟨o,e,c,d⟩:=st;exact⟨o,e,λv z=>by rw[d]at z;cases z⟩
 keep:=λi h h' st k=>let ⟨o,ho,r⟩:=st;⟨o,k it Zs o ho,r⟩
 item:=by
  intro X hP hw hK hc i pins s σ H E I hf st hg;subst hP hw hK;obtain⟨f0,f1,f2,f3,f4,f5⟩:=hf it Zs;have hi:i<x.cps.size:=hg;refine wpAny_pyNext_ascii_item st (c:=x.cps[i]) (by simp[hi]) λh' ni sb=>?_;have I1:Inv X pins σ H {s with heap:=h',toks:=s.toks+1 }:=I.turned (λb o hb e=>(sb.2 b hb).trans e) f0 f1 f3 f4 f5;obtain⟨o,e,c,d⟩:=id ni;exact⟨_,rfl,sM (s:={s with heap:=h',toks:=s.toks+1 }) e c d Zd ⟨.str ⟨#[x.cps[i]]⟩,H,I1,⟨_,rfl⟩,⟨rfl,_,by simp[hi],rfl⟩,ni,λb hb=>(hf b hb).1⟩⟩
 done:=by
  intro X hP hw hK hc i pins s σ H E I hf st hg;subst hP hw hK;obtain⟨f0,f1,f2,f3,f4,f5⟩:=hf it Zs;have hi:x.cps.size<=i:=hg;exact wpAny_pyNext_ascii_end (I.ok.hd hc) st (by simp[hi]) λh' eb=>⟨rfl,I.turned (t':=s.toks) (λb o hb e=>eb b o hb e) f0 f1 f3 f4 f5⟩
 self:=λ_ _ _ _ _ st h=>wpAny_pyIter_striter_ascii st h
def Eo{P:Program}{w:World}{K:W.Frag}{tg:Expr}(it:TD)(x:Str)(t:Tok):rM P w K tg (Zy x) [it] it (λi h=>h.IsStrIter it "str_iterator" x t i) where
 mem:=by simp
 obj:=λi h st b hb=>by
  have e:b=it:=by simpa using hb
  subst e;obtain⟨o,e,c,d⟩:=st;exact⟨o,e,λv z=>by rw[d]at z;cases z⟩
 keep:=λi h h' st k=>let ⟨o,ho,r⟩:=st;⟨o,k it Zs o ho,r⟩
 item:=by
  intro X hP hw hK hc i pins s σ H E I hf st hg;subst hP hw hK;obtain⟨f0,f1,f2,f3,f4,f5⟩:=hf it Zs;have hi:i<x.cps.size:=hg;refine wpAny_pyNext_wide_item st (c:=x.cps[i]) (by simp[hi]) λh' ni sb=>?_;have I1:Inv X pins σ H {s with heap:=h',toks:=s.toks+1 }:=I.turned (λb o hb e=>(sb.2 b hb).trans e) f0 f1 f3 f4 f5;obtain⟨o,e,c,d⟩:=id ni;exact⟨_,rfl,sM (s:={s with heap:=h',toks:=s.toks+1 }) e c d Zd ⟨.str ⟨#[x.cps[i]]⟩,H,I1,⟨_,rfl⟩,⟨rfl,_,by simp[hi],rfl⟩,ni,λb hb=>(hf b hb).1⟩⟩
 done:=by
  intro X hP hw hK hc i pins s σ H E I hf st hg;subst hP hw hK;obtain⟨f0,f1,f2,f3,f4,f5⟩:=hf it Zs;have hi:x.cps.size<=i:=hg;exact wpAny_pyNext_wide_end (I.ok.hd hc) st (by simp[hi]) λh' eb=>⟨rfl,I.turned (t':=s.toks) (λb o hb e=>eb b o hb e) f0 f1 f3 f4 f5⟩
 self:=λ_ _ _ _ _ st h=>wpAny_pyIter_striter_wide st h
section
variable {X:Cx}{tg:Expr}
def Xt(tl:TE):TI:=λσ H R=>tl σ H λx H1=>∃z,x=.str z/\R (Zy z) H1
def Ue{l:Expr}{tl:TE}(hl:PE X l tl):PI X tg l (Xt tl):=by
 intro pins s σ H R I h;refine bH (hl pins s σ H _ I h) ?_;rintro v s1 ⟨x,H1,I1,r1,q1⟩
 obtain⟨z,rfl,q⟩:=q1;obtain⟨t,rfl⟩:=r1;have fp:∀b∈[s1.heap.objs.size],nF X pins H1 b:=λb hb=>by
  have e:b=s1.heap.objs.size:=by simpa using hb
  subst e;exact I1.fpOk (bZ _) (I1.hok.fresh (bZ _))
 cases ha:z.cps.all (·<128)
 ·refine wpAny_pyIter_wide ha ?_;exact⟨s1.heap.objs.size,[s1.heap.objs.size],_,_,H1,rfl,I1.kept (t':=s1.toks) λb o e=>gU _ e,Eo _ z t,⟨_,TW _ rfl,rfl,rfl⟩,fp,q⟩
 ·refine wpAny_pyIter_ascii ha ?_;exact⟨s1.heap.objs.size,[s1.heap.objs.size],_,_,H1,rfl,I1.kept (t':=s1.toks) λb o e=>gU _ e,zQ _ z t,⟨_,TW _ rfl,rfl,rfl⟩,fp,q⟩
end
abbrev tx(l:List Nat):Str:=⟨l.toArray⟩
def zR(x:Str):tx x.cps.toList=x:=by cases x;simp
def dS(l:List Nat):(tx l).length=l.length:=by simp[Str.length]
def zS(a b:List Nat):tx a++tx b=tx (a++b):=by
 show Str.append (tx a) (tx b)=_;unfold Str.append;simp
def Oc(x y:Str):(x++y).cps.toList=x.cps.toList++y.cps.toList:=by
 show(Str.append x y).cps.toList=_;unfold Str.append;simp
def iB{α:Type}(xs:List α)(lo hi:Option Int):List α:=(xs.drop (HT.sIx xs.length 0 lo)).take (HT.sIx xs.length xs.length hi-HT.sIx xs.length 0 lo)
def Bo(n d:Nat)(v:Option Int):(match v with|none=>(d:Int)|some i=>max 0 (min (if i<0 then i+(n:Int) else i) (n:Int)))=((HT.sIx n d v:Nat):Int):=by
 cases v with
 | none=>rfl
 | some i=>
  show max 0 (min (if i<0 then i+(n:Int) else i) (n:Int))=(((if i<0 then (i+(n:Int)).toNat else min i.toNat n):Nat):Int);by_cases h:i<0
  ·rw[NE h,NE h];omega
  ·rw[IS h,IS h];omega
def Ih(lo hi:Option Int)(n:Nat):Builtin.Str.strSliceIndices lo hi 1 n=(List.range (HT.sIx n n hi-HT.sIx n 0 lo)).map (HT.sIx n 0 lo+·):=by
 rw[<- sliceRange_one,<- Bo n 0 lo,<- Bo n n hi];unfold Builtin.Str.strSliceIndices;simp only [show(1:Int)>0 by decide,if_true];cases lo<;>cases hi<;>rfl
def Od(n d:Nat)(hd:d<=n)(v:Option Int):HT.sIx n d v<=n:=by
 cases v with
 | none=>exact hd
 | some i=>
  show(if i<0 then (i+(n:Int)).toNat else min i.toNat n)<=n;split<;>omega
def Ep(x:Str)(lo hi:Option Int):(Txt.slice x lo hi).cps.toList=iB x.cps.toList lo hi:=by
 have hl:x.cps.toList.length=x.length:=by simp[Str.length]
 unfold Txt.slice iB;rw[hl,Ih];have key:=pick_run x.cps (HT.sIx x.length 0 lo) (HT.sIx x.length x.length hi-HT.sIx x.length 0 lo);split
 ·rename_i h;have h2:(HT.sIx x.length x.length hi-HT.sIx x.length 0 lo)=x.length:=by simpa using h
  have h3:=Od x.length x.length (bZ _) hi;have h4:HT.sIx x.length 0 lo=0∨x.length=0:=by omega
  rw[h2];rcases h4 with h4|h4
  ·rw[h4,drop_zero,Mm (by rw[hl];exact bZ _)]
  ·have e:x.cps.toList=[]:=List.eq_nil_of_length_eq_zero (by rw[hl];exact h4);rw[e];simp
 ·simpa using key
def Ii(x:Str)(lo hi:Option Int):Txt.slice x lo hi=tx (iB x.cps.toList lo hi):=by
 rw[<- Ep,zR]
section
variable {X:Cx}
def aAr:V->Option Int->Option Int->Hp->VK->Prop:=λx lo hi H Q=>∃z,x=.str z/\z.length<=sizeLine/\Q (.str (tx (iB z.cps.toList lo hi))) H
def zT{h:Heap}{sl:TD}{vl vu:S6}{lo hi:Option Int}(hs:h.IsSliceOf sl vl vu .none)(pl:IsPart vl lo)(pu:IsPart vu hi):∃l u:Option (Int×Tok),h.IsSlice sl l u none/\l.map (·.1)=lo/\u.map (·.1)=hi:=by
 cases pl with
 | none=>
  cases pu with
  | none=>exact⟨none,none,hs,rfl,rfl⟩
  | int j t=>exact⟨none,some (j,t),hs,rfl,rfl⟩
 | int i t=>
  cases pu with
  | none=>exact⟨some (i,t),none,hs,rfl,rfl⟩
  | int j u=>exact⟨some (i,t),some (j,u),hs,rfl,rfl⟩
def Uf:SlR X aAr:=by
 intro pins s σ H x v vl vu lo hi sl Q I rx hs pl pu h;obtain⟨z,rfl,hz,q⟩:=h;obtain⟨t,rfl⟩:=rx;obtain⟨l,u,hS,e1,e2⟩:=zT hs pl pu;refine⟨"str",_,F.slot_str_getitem.lookup,typeIs_str _ _ _,wpAny_getItem_str_slice hS rfl ?_⟩;have fin:∀t' k,EP X pins σ Q (.str (Txt.slice z lo hi) t') {s with toks:=k }:=λt' k=>⟨.str (tx (iB z.cps.toList lo hi)),H,I.tok _,⟨t',by rw[Ii]⟩,q⟩
 subst e1 e2;exact post_val_or_str ⟨eS (Txt.slice_le z _ _) hz,λt' k=>fin t' k⟩
def lG{ns:List Str}:∀ {us:List S6},Vals (ns.map V.str) us->StrsAre us ns:=by
 induction ns with
 | nil=>intro us r;rw[map_nil]at r;cases r;exact .nil
 | cons n ns ih=>
  intro us r;rw[map_cons]at r;cases r with
  | cons r1 r2=>
   obtain⟨t,e⟩:=r1;subst e;exact .cons n t (ih r2)
def Ij(K:W.Frag):V->List V->Hp->VK->Prop:=λx vs H Q=>∃sep p ys,x=.str sep/\vs=[.ref p]/\SqL K H p (ys.map V.str)/\(ys.map (·.length)).sum+ys.length*sep.length<=16777216/\Q (.str (Txt.join sep ys)) H
def Oe:Tw X "str.join" (Ij X.K):=by
 intro pins s σ H x vs v us Q I rx rv h;obtain⟨sep,p,ys,rfl,rfl,hq,hz,q⟩:=h;obtain⟨t,rfl⟩:=rx;obtain⟨u,rfl,ru⟩:=rv.one;cases ru;obtain⟨its,r,pl,_⟩:=I.list hq;exact join_list pl.isList (by simpa using lG r) hz λt' k=>⟨.str _,H,I.tok _,⟨_,rfl⟩,q⟩
def aAs(K:W.Frag):List V->Hp->VK->Prop:=λvs H Q=>∃x T t b,vs=[x,.ty T]/\lQ K H x t/\W.kitOne K t (.type T)=some b/\Q (.bl b) H
def Ik:CallR X (.builtin "isinstance") (aAs X.K):=by
 intro pins s σ H xs us Q I r h;obtain⟨x,T,t,b,rfl,ty,e,q⟩:=h;obtain⟨u,c,rfl,ru,rc⟩:∃u c,us=[u,c]/\RelV x u/\RelV (.ty T) c:=by
  cases r with
  | cons p q=>
   cases q with
   | cons p' q'=>
    cases q';exact⟨_,_,rfl,p,p'⟩
 cases(show c=Value.type T from rc);exact Eb I ru ty e λtk=>⟨.bl b,H,I.tok _,rfl,q⟩
def oY{ns:List Bool}:∀ {us:List S6},Vals (ns.map V.bl) us->PyProof.Rows.LSm.BoolsAre us ns:=by
 induction ns with
 | nil=>intro us r;rw[map_nil]at r;cases r;exact .nil
 | cons n ns ih=>
  intro us r;rw[map_cons]at r;cases r with
  | cons r1 r2=>
   have e:=r1;cases(show _=Value.bool n from e);exact .cons n (ih r2)
def Ug(K:W.Frag):List V->Hp->VK->Prop:=λvs H Q=>∃(p:TD)(bs:List Bool),vs=[.ref p]/\SqL K H p (bs.map V.bl)/\Q (.bl (bs.all id)) H
def Uh(K:W.Frag):List V->Hp->VK->Prop:=λvs H Q=>∃(p:TD)(bs:List Bool),vs=[.ref p]/\SqL K H p (bs.map V.bl)/\Q (.bl (bs.any id)) H
def Ui(K:W.Frag):List V->Hp->VK->Prop:=λvs H Q=>∃(p:TD)(ns:List Int),vs=[.ref p]/\SqL K H p (ns.map V.int)/\Q (.int (List.sum ns)) H
def Il(hc:X.calm=true):CallR X (.builtin "all") (Ug X.K):=by
 intro pins s σ H xs us Q I r h;obtain⟨p,bs,rfl,hq,q⟩:=h;obtain⟨u,rfl,ru⟩:=gL r;cases ru;obtain⟨its,rv,pl,hz⟩:=I.list hq;have hl:=pl.isList;have hb:=oY rv;have r9:p<s.heap.objs.size:=by obtain⟨_,e,_⟩:=hl;exact Heap.lt_size e
 refine call_all_walk (wpAny_pyIter_list hl ?_);refine⟨s.heap.objs.size,[s.heap.objs.size,p],[s.heap.objs.size],its.toArray.size,_,_,λi=>(bs[i]?).getD true,rfl,Walks.list (A:=X.A.in1) (I.ok.hd hc) _ p (ne_of_lt r9) its.toArray,
  ⟨⟨_,TW _ rfl,rfl,rfl⟩,hl.push _⟩,λi v s' Q' E' hP hQ=>?_,λh' tk hk=>?_⟩
 ·obtain⟨b,e,rfl⟩:=hb.get i v (by simpa using hP);simp only [e,Option.getD_some]at hQ;exact wpAny_truthy_bool hQ
 ·have e:((List.range its.toArray.size).all λi=>(bs[i]?).getD true)=bs.all id:=by
   rw[dR,hb.length];exact PyProof.Rows.LSm.range_all bs
  rw[e];exact⟨.bl _,H,I.kept (PyProof.Rows.LSm.kept_iter hk),rfl,q⟩
def Im(hc:X.calm=true):CallR X (.builtin "any") (Uh X.K):=by
 intro pins s σ H xs us Q I r h;obtain⟨p,bs,rfl,hq,q⟩:=h;obtain⟨u,rfl,ru⟩:=gL r;cases ru;obtain⟨its,rv,pl,hz⟩:=I.list hq;have hl:=pl.isList;have hb:=oY rv;have r9:p<s.heap.objs.size:=by obtain⟨_,e,_⟩:=hl;exact Heap.lt_size e
 refine call_any_walk (wpAny_pyIter_list hl ?_);refine⟨s.heap.objs.size,[s.heap.objs.size,p],[s.heap.objs.size],its.toArray.size,_,_,λi=>(bs[i]?).getD false,rfl,Walks.list (A:=X.A.in1) (I.ok.hd hc) _ p (ne_of_lt r9) its.toArray,
  ⟨⟨_,TW _ rfl,rfl,rfl⟩,hl.push _⟩,λi v s' Q' E' hP hQ=>?_,λh' tk hk=>?_⟩
 ·obtain⟨b,e,rfl⟩:=hb.get i v (by simpa using hP);simp only [e,Option.getD_some]at hQ;exact wpAny_truthy_bool hQ
 ·have e:((List.range its.toArray.size).any λi=>(bs[i]?).getD false)=bs.any id:=by
   rw[dR,hb.length];exact PyProof.Rows.LSm.range_any bs
  rw[e];exact⟨.bl _,H,I.kept (PyProof.Rows.LSm.kept_iter hk),rfl,q⟩
def Io(hc:X.calm=true):CallR X (.builtin "sum") (Ui X.K):=by
 intro pins s σ H xs us Q I r h;obtain⟨p,ns,rfl,hq,q⟩:=h;obtain⟨u,rfl,ru⟩:=gL r;cases ru;obtain⟨its,rv,pl,hz⟩:=I.list hq;have hi:=qB rv;obtain⟨xs,hx⟩:=hi.allInts.items;have EI:s.heap.IsList p (intItems xs):=hx▸pl.isList;refine sum_intListG (I.ok.hd hc) EI λh' tk t' hk=>?_;have e1:ns=xs.toList.map (·.1):=by
  rw[<- nums_intItems,<- hx];exact(show numsOf its.toArray.toList=ns from hi.numsOf).symm
 have e2:preSum (numAt xs) xs.size=ns.sum:=by
  rw[preSum_eq,Mm Zs,e1]
 rw[e2];exact⟨.int _,H,I.kept hk,⟨_,rfl⟩,q⟩
end
section
variable {X:Cx}
def zU(K:W.Frag)(neg:Bool):R2:=λx y H Q=>∃(a b:TD)(xs:List V),x=.ref a/\y=.ref b/\SqL K H a xs/\SqL K H b []/\Q (.bl (if neg then !xs.isEmpty else xs.isEmpty)) H
def tF{us:List S6}(r:Vals [] us):us=[]:=by cases r;rfl
def Ip(hu:X.A.units<cLine):OpR X (compareOp .NotEq) (zU X.K true):=by
 intro pins s σ H x y v u Q I rx ry h;obtain⟨a,b,xs,rfl,rfl,h1,h2,q⟩:=h;cases rx;cases ry;obtain⟨its,r1,p1,_⟩:=I.list h1;obtain⟨i7,r2,p2,_⟩:=I.list h2;have e2:=tF r2;subst e2;have hl:=r1.length
 cases xs with
 | nil=>
  have e1:=tF r1;subst e1;exact SeqAt.RcNeAt.lists (e:=λ_=>true) p1.isList p2.isList rfl hu (λj h=>IQ h Zs) _ _ _ _ ⟨.bl false,H,I,rfl,q⟩
 | cons z zs=>
  exact SeqAt.RcNeAt.lists_lengths p1.isList p2.isList (by simp only [dR,<- hl];simp) hu _ _ _ _ ⟨.bl true,H,I,rfl,q⟩
end
def mB(x:V)(k:Bool->Prop):Prop:=match x with|.bl b=>k b|_=>False
def mI(x:V)(k:Int->Prop):Prop:=match x with|.int b=>k b|_=>False
def mS(x:V)(k:Str->Prop):Prop:=match x with|.str b=>k b|_=>False
def mR(x:V)(k:TD->Prop):Prop:=match x with|.ref b=>k b|_=>False
def tG(x:V)(k:Bool->Prop):mB x k=∃b,x=.bl b/\k b:=by
 cases x<;>simp[mB]
def lV(x:V)(k:Int->Prop):mI x k=∃b,x=.int b/\k b:=by
 cases x<;>simp[mI]
def kU(x:V)(k:Str->Prop):mS x k=∃b,x=.str b/\k b:=by
 cases x<;>simp[mS]
def dB(x:V)(k:TD->Prop):mR x k=∃b,x=.ref b/\k b:=by
 cases x<;>simp[mR]
def kW{n:Nat}(h:Nat.ble n 1000=true):n<=sizeLine:=eS (T0 h) Zd
def lH{n:Nat}(h:n<=1000):n<=sizeLine:=eS h Zd
section
variable {X:Cx}{a b c e:Expr}{ta tb tc te:TE}{pos:Pos}
def vr(i:Nat):TE:=λσ H Q=>match σ[i]? with|some (some v)=>Q v H|_=>False
def Xu(i:Nat):vr i=Si i:=by
 funext σ H Q
 unfold vr Si;apply propext
 cases σ[i]? with
 | none=>simp
 | some o=>cases o<;>simp
def xv(i:Nat){x:Str}{pos:Pos}(hN:X.N[i]?=some x:=by rfl)(hv:Wt X.env.scope x:=by first|exact Or.inl rfl|exact Or.inr (Or.inl rfl)|exact Or.inr (Or.inr rfl))(hd:(x==("__debug__":Str))=false:=by decide)(yq:(x==("__classdict__":Str))=false:=by decide):PE X (.Name x pos) (vr i):=by
 rw[Xu];exact Sj hN hv hd yq
def OpR.imp{f:S6->S6->Sem Value}{r r':R2}(h:OpR X f r)(hi:∀x y H Q,r' x y H Q->r x y H Q):OpR X f r':=λpins s σ H x y v u Q I rx ry q=>h pins s σ H x y v u Q I rx ry (hi x y H Q q)
def UnR.imp{f:S6->Sem Value}{r r':V->Hp->VK->Prop}(h:UnR X f r)(hi:∀x H Q,r' x H Q->r x H Q):UnR X f r':=λpins s σ H x v Q I rx q=>h pins s σ H x v Q I rx (hi x H Q q)
def CallR.imp{f:S6}{r r':List V->Hp->VK->Prop}(h:CallR X f r)(hi:∀xs H Q,r' xs H Q->r xs H Q):CallR X f r':=λpins s σ H xs us Q I rs q=>h pins s σ H xs us Q I rs (hi xs H Q q)
def IxR.imp{r r':R2}(h:IxR X r)(hi:∀x y H Q,r' x y H Q->r x y H Q):IxR X r':=λvalue slice pins s σ H x y v u Q I rx ry q=>h value slice pins s σ H x y v u Q I rx ry (hi x y H Q q)
def SlR.imp{r r':V->Option Int->Option Int->Hp->VK->Prop}(h:SlR X r)(hi:∀x l u H Q,r' x l u H Q->r x l u H Q):SlR X r':=λpins s σ H x v vl vu lo GY sl Q I rx hs pl pu q=>h pins s σ H x v vl vu lo GY sl Q I rx hs pl pu (hi x lo GY H Q q)
def m2(C:Int->Int->Prop)(g:Int->Int->V):R2:=λx y H Q=>mI x λi=>mI y λj=>C i j/\Q (g i j) H
def zV(g:Int->Int->V):R2:=λx y H Q=>mI x λi=>mI y λj=>Q (g i j) H
def kD{g:Int->Int->V}(x y:V)(H:Hp)(Q:VK)(h:zV g x y H Q):Nb g x y H Q:=by
 unfold zV at h;rw[lV]at h;obtain⟨i,rfl,h⟩:=h;rw[lV]at h;obtain⟨j,rfl,h⟩:=h;exact⟨i,j,rfl,rfl,h⟩
def vG{C:Int->Int->Prop}{g:Int->Int->V}(x y:V)(H:Hp)(Q:VK)(h:m2 C g x y H Q):rI C g x y H Q:=by
 unfold m2 at h;rw[lV]at h;obtain⟨i,rfl,h⟩:=h;rw[lV]at h;obtain⟨j,rfl,hc,h⟩:=h;exact⟨i,j,rfl,rfl,hc,h⟩
def Xv:OpR X (binaryOp .Add) (zV λi j=>.int (i+j)):=Tl.imp kD
def Xw:OpR X (binaryOp .Sub) (zV λi j=>.int (i-j)):=Tm.imp kD
def Xx:OpR X (binaryOp .Mult) (m2 CMul λi j=>.int (i*j)):=Tn.imp vG
def Xy:OpR X (binaryOp .Mod) (m2 (λ_ j=>0<j) λi j=>.int (i%j)):=To.imp vG
def Xz:OpR X (binaryOp .Pow) (m2 Tk λi j=>.int (i^j.toNat)):=Tp.imp vG
def aAt:OpR X (compareOp .Lt) (zV λi j=>.bl (decide (i<j))):=Xf.imp kD
def aAu:OpR X (compareOp .LtE) (zV λi j=>.bl (decide (i<=j))):=Xg.imp kD
def aAv:OpR X (compareOp .Gt) (zV λi j=>.bl (decide (j<i))):=Xh.imp kD
def aAw:OpR X (compareOp .GtE) (zV λi j=>.bl (decide (j<=i))):=Xi.imp kD
def Iq:R2:=λx y H Q=>mS x λi=>mS y λj=>i.length+j.length<=sizeLine/\Q (.str (i++j)) H
def Uj:OpR X (binaryOp .Add) Iq:=zD.imp λx y H Q h=>by
 unfold Iq at h;rw[kU]at h;obtain⟨i,rfl,h⟩:=h;rw[kU]at h;obtain⟨j,rfl,hc,h⟩:=h;exact⟨i,j,rfl,rfl,hc,h⟩
def oZ:R2:=λx y H Q=>match x,y with
 | .int i,.int j=>Q (.bl (decide (i=j))) H
 | .str i,.str j=>Q (.bl (decide (i=j))) H
 | .bl i,.bl j=>Q (.bl (decide (i=j))) H
 | .non,.non=>Q (.bl true) H
 | .int _,.non=>Q (.bl false) H|.non,.int _=>Q (.bl false) H
 | .str _,.non=>Q (.bl false) H|.non,.str _=>Q (.bl false) H
 | .bl _,.non=>Q (.bl false) H|.non,.bl _=>Q (.bl false) H
 | .int _,.str _=>Q (.bl false) H|.str _,.int _=>Q (.bl false) H
 | .bl _,.str _=>Q (.bl false) H|.str _,.bl _=>Q (.bl false) H
 | _,_=>False
def mNe:R2:=λx y H Q=>match x,y with
 | .int i,.int j=>Q (.bl (!decide (i=j))) H
 | .str i,.str j=>Q (.bl (!decide (i=j))) H
 | .bl i,.bl j=>Q (.bl (!decide (i=j))) H
 | .non,.non=>Q (.bl false) H
 | .int _,.non=>Q (.bl true) H|.non,.int _=>Q (.bl true) H
 | .str _,.non=>Q (.bl true) H|.non,.str _=>Q (.bl true) H
 | .bl _,.non=>Q (.bl true) H|.non,.bl _=>Q (.bl true) H
 | .int _,.str _=>Q (.bl true) H|.str _,.int _=>Q (.bl true) H
 | .bl _,.str _=>Q (.bl true) H|.str _,.bl _=>Q (.bl true) H
 | _,_=>False
def aAx:OpR X (compareOp .Eq) oZ:=Qv.imp λx y H Q h=>by
 unfold rEq;cases x<;>cases y<;>first|exact h.elim|exact⟨rfl,h⟩|(refine⟨rfl,?_⟩;have h:Q (.bl _) H:=h;simpa using h)
def aAy:OpR X (compareOp .NotEq) mNe:=Qw.imp λx y H Q h=>by
 unfold rNe;cases x<;>cases y<;>first|exact h.elim|exact⟨rfl,h⟩|(refine⟨rfl,?_⟩;have h:Q (.bl _) H:=h;simpa using h)
def Uk(neg:Bool):R2:=λx y H Q=>mS x λi=>mS y λj=>∃c,i=tx [c]/\Q (.bl (if neg then !decide (c∈j.cps.toList) else decide (c∈j.cps.toList))) H
def Ya:OpR X (compareOp .In) (Uk false):=Dw.imp λx y H Q h=>by
 unfold Uk at h;rw[kU]at h;obtain⟨i,rfl,h⟩:=h;rw[kU]at h;obtain⟨j,rfl,c,rfl,h⟩:=h;refine⟨_,j,rfl,rfl,?_⟩;have e:=StrLaws.found_one j c;have e':(!(Builtin.Str.occurrences j (tx [c]) 0 j.length 1).isEmpty)=decide (c∈j.cps.toList):=e;rw[e'];exact h
def Yb:OpR X (compareOp .Is) (λx y H Q=>match y with|.non=>Q (.bl (decide (x=.non))) H|_=>False):=Tr.imp λx y H Q h=>by
 cases y<;>first|exact⟨rfl,h⟩|exact h.elim
def Ul:OpR X (compareOp .IsNot) (λx y H Q=>match y with|.non=>Q (.bl (!decide (x=.non))) H|_=>False):=Nd.imp λx y H Q h=>by
 cases y<;>first|exact⟨rfl,h⟩|exact h.elim
def mT(t:TE):TT:=λσ H Q=>t σ H λx H'=>mB x λk=>Q k H'
def Ri(t:TE):mT t=Bb t:=by
 funext σ H Q
 unfold mT Bb;congr 1
 funext x H'
 exact tG x _
def Um(t:TE):mT t=tB t:=by
 funext σ H Q
 unfold mT tB;congr 1
 funext x H'
 exact tG x _
def Yc{op:CmpOp}{r:R2}(ho:OpR X (compareOp op) r)(ha:PE X a ta)(hb:PE X b tb)(hm:behindInMarks op b=false:=by first|exact uR _|rfl):PT X (.Compare a [op] [b] pos) (mT (Hb r ta tb)):=by
 rw[Ri];exact Ng ho ha hb hm
def Yd{op:CmpOp}{r:R2}(ho:OpR X (compareOp op) r)(ha:PE X a ta)(hb:PE X b tb)(hm:behindInMarks op b=false:=by first|exact uR _|rfl):PE X (.Compare a [op] [b] pos) (Hb r ta tb):=Nf ho ha hb hm
def nY(r r':R2)(ta tb tc:TE):TE:=λσ H Q=>ta σ H λx H1=>tb σ H1 λy H2=>r x y H2 λz H3=>mB z λk=>(if k=true then tc σ H3 λw' H4=>r' y w' H4 Q else Q (.bl false) H3)
def tH(r r':R2)(ta tb tc:TE):nY r r' ta tb tc=uS r r' ta tb tc:=by
 funext σ H Q
 unfold nY uS;congr 1
 funext x H1
 congr 1
 funext y H2
 congr 1
 funext z H3
 exact tG z _
def Og{op pw:CmpOp}{r r':R2}(ho:OpR X (compareOp op) r)(T1:OpR X (compareOp pw) r')(ha:PE X a ta)(hb:PE X b tb)(hc:PE X c tc)(hm:lastMarks [op,pw] [b,c]=false:=by with_unfolding_all rfl):PE X (.Compare a [op,pw] [b,c] pos) (nY r r' ta tb tc):=by
 rw[tH];exact Hd ho T1 ha hb hc hm
def Oh{op pw:CmpOp}{r r':R2}(ho:OpR X (compareOp op) r)(T1:OpR X (compareOp pw) r')(ha:PE X a ta)(hb:PE X b tb)(hc:PE X c tc)(hm:lastMarks [op,pw] [b,c]=false:=by with_unfolding_all rfl):PT X (.Compare a [op,pw] [b,c] pos) (mT (nY r r' ta tb tc)):=by
 rw[Ri,tH];exact He ho T1 ha hb hc hm
def Ye{t:TE}(h:PE X e t)(he:∀whole,isTrue e X.env whole=(do let v←whole;standAt e.pos;holding [v] (truthy v)):=by intro _;rfl):PT X e (mT t):=by
 rw[Um];exact Sn h he
def Bp(ta tb:TE):TE:=λσ H Q=>ta σ H λx H1=>mB x λc=>if c=true then tb σ H1 Q else Q (.bl false) H1
def Oi(ta tb:TE):TE:=λσ H Q=>ta σ H λx H1=>mB x λc=>if c=true then Q (.bl true) H1 else tb σ H1 Q
def Bq(ta:TE):TE:=λσ H Q=>ta σ H λx H1=>mB x λc=>Q (.bl (!c)) H1
def Yf{rest:List Expr}(ha:PE X a ta)(hb:PE X (.BoolOp .And (b::rest) pos) tb):PE X (.BoolOp .And (a::b::rest) pos) (Bp ta tb):=by
 have:Bp ta tb=Gp ta tb:=by
  funext σ H Q;unfold Bp Gp;congr 1;funext x H1;exact tG x _
 rw[this];exact Sv ha hb
def aAz{rest:List Expr}(ha:PE X a ta)(hb:PE X (.BoolOp .Or (b::rest) pos) tb):PE X (.BoolOp .Or (a::b::rest) pos) (Oi ta tb):=by
 have:Oi ta tb=Ss ta tb:=by
  funext σ H Q;unfold Oi Ss;congr 1;funext x H1;exact tG x _
 rw[this];exact Wx ha hb
def Yg(ha:PE X a ta):PE X (.UnaryOp .Not a pos) (Bq ta):=by
 have:Bq ta=Gq ta:=by
  funext σ H Q;unfold Bq Gq;congr 1;funext x H1;exact tG x _
 rw[this];exact Sw ha
def Yh(ha:PE X a ta):PE X (.UnaryOp .USub a pos) (tUn (λx H Q=>mI x λi=>Q (.int (-i)) H) ta):=Xd (Tq.imp λx H Q h=>by
 rw[lV]at h;obtain⟨i,rfl,h⟩:=h;exact⟨i,rfl,h⟩) ha
def Oj(K:W.Frag):R2:=λx y H Q=>mR x λp=>mI y λi=>∃xs,SqL K H p xs/\∃v,nV xs i=some v/\Q v H
def Ol(K:W.Frag):R2:=λx y H Q=>mR x λp=>mI y λi=>∃xs,SqT K H p xs/\∃v,nV xs i=some v/\Q v H
def Uo:R2:=λx y H Q=>mS x λz=>mI y λi=>z.length<=sizeLine/\∃c,nV z.cps.toList i=some c/\Q (.str (tx [c])) H
def Uq:IxR X (Oj X.K):=Np.imp λx y H Q h=>by
 unfold Oj at h;rw[dB]at h;obtain⟨p,rfl,h⟩:=h;rw[lV]at h;obtain⟨i,rfl,xs,hq,v,hv,h⟩:=h;exact⟨p,xs,i,v,rfl,rfl,hq,hv,h⟩
def Yi:IxR X (Ol X.K):=Tx.imp λx y H Q h=>by
 unfold Ol at h;rw[dB]at h;obtain⟨p,rfl,h⟩:=h;rw[lV]at h;obtain⟨i,rfl,xs,hq,v,hv,h⟩:=h;exact⟨p,xs,i,v,rfl,rfl,hq,hv,h⟩
def Yj:IxR X Uo:=Ty.imp λx y H Q h=>by
 unfold Uo at h;rw[kU]at h;obtain⟨z,rfl,h⟩:=h;rw[lV]at h;obtain⟨i,rfl,hz,c,hc,h⟩:=h;exact⟨z,i,c,rfl,rfl,hz,hc,h⟩
def aAA{r:R2}(hr:IxR X r)(ha:PE X a ta)(hb:PE X b tb)(hs:uX b:=by exact λ_ _=>rfl):PE X (.Subscript a b pos) (Hb r ta tb):=Xn hr ha hb hs
def Br(t:TE):TO:=λσ H Q=>t σ H λx H1=>mI x λi=>Q (some i) H1
def Ur(h:PE X e te):PO X (some e) (Br te):=by
 have:Br te=Hk te:=by
  funext σ H Q;unfold Br Hk;congr 1;funext x H1;exact lV x _
 rw[this];exact Nn h
def Us:V->Option Int->Option Int->Hp->VK->Prop:=λx lo hi H Q=>mS x λz=>z.length<=sizeLine/\Q (.str (tx (iB z.cps.toList lo hi))) H
def Yk:SlR X Us:=Uf.imp λx l u H Q h=>by
 unfold Us at h;rw[kU]at h;obtain⟨z,rfl,hz,h⟩:=h;exact⟨z,rfl,hz,h⟩
def Om(K:W.Frag):V->Option Int->Option Int->Hp->VK->Prop:=λx lo hi H Q=>mR x λa=>∃xs,SqL K H a xs/\∀p,H p=none->Q (.ref p) (aH H p (.lst (iB xs lo hi)))
def Ut:SlR X (Om X.K):=Nq.imp λx l u H Q h=>by
 unfold Om at h;rw[dB]at h;obtain⟨a,rfl,xs,hq,h⟩:=h;exact⟨a,xs,rfl,hq,h⟩
def Uu:CallR X (.builtin "len") (λvs H Q=>match vs with|[.str z]=>z.length<=sizeLine/\Q (.int z.length) H|_=>False):=vB.imp λvs H Q h=>by
 split at h
 ·rename_i z;exact⟨z,rfl,h.1,h.2⟩
 ·exact h.elim
def Uv:CallR X (.builtin "len") (λvs H Q=>match vs with|[.ref p]=>∃ys,(SqL X.K H p ys∨SqT X.K H p ys)/\Q (.int ys.length) H|_=>False):=vA.imp λvs H Q h=>by
 split at h
 ·rename_i p;obtain⟨ys,hq,h⟩:=h;exact⟨p,ys,rfl,hq,h⟩
 ·exact h.elim
end
inductive Kd where|non|bl|int|str|lst|tup|dct
def On:Kd->String|.non=>"NoneType"|.bl=>"bool"|.int=>"int"|.str=>"str"|.lst=>"list"|.tup=>"tuple"|.dct=>"dict"
def Kof(H:Hp):V->Kd->Prop
 | .non,.non=>True|.bl _,.bl=>True|.int _,.int=>True|.str _,.str=>True
 | .ref a,.lst=>(∃xs,H a=some (.lst xs))∨∃o xs,H a=some (.frz o (.lst xs))
 | .ref a,.tup=>∃xs,H a=some (.tup xs)
 | .ref a,.dct=>∃kvs,H a=some (.dK kvs)
 | _,_=>False
def Yl:Kd->Kd->Bool|.non,.non=>true|.bl,.bl=>true|.int,.int=>true|.int,.bl=>true|.str,.str=>true|.lst,.lst=>true|.tup,.tup=>true|.dct,.dct=>true|_,_=>false
def Ym(K:W.Frag)(want k:Kd):W.kitOne K (.type (On k)) (.type (On want))=some (Yl want k):=by
 cases want<;>cases k<;>first|rfl|kernel_rfl
def aAB{K:W.Frag}{H:Hp}{x:V}{k:Kd}(h:Kof H x k):lQ K H x (.type (On k)):=by
  cases x<;>cases k<;>first
    | exact h.elim
    | exact .non
    | exact .bl _
    | exact .int _
    | exact .str _
    | (obtain⟨xs,e⟩:=h;exact .tup e)
    | (obtain⟨xs,e⟩:=h;exact .dK e)
    | (rcases h with⟨xs,e⟩ | ⟨o,xs,e⟩
       . exact .lst e
       . exact .frz e)
def Uw(want:Kd):List V->Hp->VK->Prop:=λvs H Q=>match vs with
 | [x,y]=>y=.ty (On want)/\∃k,Kof H x k/\Q (.bl (Yl want k)) H
 | _=>False
section
variable {X:Cx}
def Yn(want:Kd):CallR X (.builtin "isinstance") (Uw want):=Ik.imp λvs H Q h=>by
 unfold Uw at h;split at h
 ·rename_i x y;obtain⟨rfl,k,hk,h⟩:=h;exact⟨x,_,_,_,rfl,aAB hk,Ym X.K want k,h⟩
 ·exact h.elim
variable {e:Expr}{te:TE}{p p2 pos:Pos}{T:Str}
def Ux(want:Kd)(te:TE):TE:=λσ H Q=>te σ H λx H1=>∃k,Kof H1 x k/\Q (.bl (Yl want k)) H1
def Yo(want:Kd)(he:PE X e te)(hg:Gl X "isinstance")(hm:X.mg "isinstance"=none)(OK:Gl X T)(OL:X.mg T=none)(hT:bootBuiltins T=some (.type (On want)))(hs:starEach [e,.Name T p2] X.env=(false,eval e X.env)::starEach [.Name T p2] X.env:=by rfl)(TC:starEach [.Name T p2] X.env=(false,eval (.Name T p2) X.env)::starEach [] X.env:=by rfl)(hn:T≠"__name__":=by decide)(hd:(T==("__debug__":Str))=false:=by decide)(X8:(backTo pos (starEach [.Name T p2] X.env)).any (·.1)=false:=by rfl) :
  PE X (.Call (.Name "isinstance" p) [e,.Name T p2] [] pos) (Ux want te):=by
 have h:=wY (X:=X) (x:="isinstance") (p:=p) (pos:=pos) (Yn want) hg hm PyProof.Rows.boot_isinstance (uU he (uU (Mo (v:=.ty (On want)) (pos:=p2) OK OL hT rfl hn hd) zJ TC) hs) Zd Zd hs X8;intro pins s σ H Q I q;exact h pins s σ H Q I (by
  show te σ H _;have:(λ(x:V) (H1:Hp)=>Uw want [x,.ty (On want)] H1 Q)=(λx H1=>∃k,Kof H1 x k/\Q (.bl (Yl want k)) H1):=by
   funext x H1
   apply propext;constructor
   ·rintro⟨_,z⟩;exact z
   ·intro z;exact⟨rfl,z⟩
  exact this ▸ q)
end
structure aJ(P:Program)(w:World)(K:W.Frag)(mg:X7)(base:Heap)(n:Nat)(x:Str)(ps:List Str)(sp:Sp):Prop where
 ex:∃(f:TD)(fd:FuncData),jK P w K mg base sY n f fd ps sp/\mg x=some (.ref f)/\W.keepIn K (.ref f)=true/\Binds K fd ps []
section
variable {X:Cx}{n:Nat}{x:Str}{ps:List Str}{sp:Sp}{p pos:Pos}{e:Expr}{es:List Expr}{t:TA}
def tFn(sp:Sp)(t:TA):TE:=λσ H Q=>t σ H λvs H1=>sp vs H1 Q E0
def aAD(c:aJ X.prog X.w X.K X.mg X.base n x ps sp)(hr:Room n X.A)(hg:Gl X x)(ha:PA X (e::es) t)(Z7:(x==("__debug__":Str))=false:=by decide)(he:starEach (e::es) X.env=(false,eval e X.env)::starEach es X.env:=by rfl)(X8:(backTo pos (starEach es X.env)).any (·.1)=false:=by rfl):PE X (.Call (.Name x p) (e::es) [] pos) (tFn sp t):=by
 obtain⟨f,fd,F,hm,hk,hb⟩:=c.ex;have h:=Nk (X:=X) (p:=p) (pos:=pos) (E:=E0) F hr hg hm hk hb (dvs:=[]) .nil sZ ha Z7 he X8;intro pins s σ H Q I q;exact h pins s σ H Q I (by
  show t σ H _;have:(λ(vs:List V) (H1:Hp)=>sp (vs++[]) H1 Q E0)=(λvs H1=>sp vs H1 Q E0):=by
   funext vs H1;rw[append_nil]
  rw[this];exact q)
end
structure DefAt(K:W.Frag)(mg:X7)(x:Str)(st:Stmt)(ps:List Str):Prop where
 ex:∃(f:TD)(fd:FuncData),Fun K x x st f fd/\mg x=some (.ref f)/\Binds K fd ps []
def DefAt.ok{P:Program}{w:World}{K:W.Frag}{mg:X7}{base:Heap}{x:Str}{st:Stmt}{N ps:List Str}{k:Nat}{sp:Sp}(D:DefAt K mg x st ps)(S:aG N ps (aB st))(len:∀vs H Q E,sp vs H Q E->vs.length=ps.length)(x8:∀(f:TD)(cdv:S6)(A:Around)(outer:List Env)(s:PP)(H:Hp)(vs:List V)(Q:VK)(E:XK),Room k (A.deeper (envOfC x (aB st) s.heap.objs.size f cdv))->sp vs H Q E →
   ∃t,PSs (nQ sY P w K mg base N x (aB st) f cdv A outer s H E).nox (aS st) t/\t {nx:=λ_ H'=>Q .non H',rt:=Q } (start N vs) H):aJ P w K mg base (k+1) x ps sp:=by
 obtain⟨f,fd,F,hm,hb⟩:=D.ex;exact⟨f,fd,F.ok S len (x8 f),hm,F.kp,hb⟩
def Ir(JD:Scope)(N0:List Str)(scope:Scope)(N:List Str)(js:List (Option Nat)):Bool:=
 (scope.kind == .function)&&scope.names.all (λy=>y.2 != .cell)&&scope.names.all (λy=>y.2 != .local||scope.names.lookup y.1==some .local)&&(js.length==N.length)&&
 (List.range js.length).all (λi=>match js[i]? with|some (some j)=>(match N[i]? with|some x=>N0[j]? == some x&&scope.names.lookup x==some .free|none=>false)|_=>true)&&
 scope.names.all (λy=>y.2 != .free||JD.names.lookup y.1==some .cell||JD.names.lookup y.1==some .free)
def CompScope.by{X:Cx}{scope:Scope}{N:List Str}{js:List (Option Nat)}(JD:Scope)(N0:List Str)(h0:X.env.scope=JD)(hN:X.N=N0)(ok:Ir JD N0 scope N js=true):CompScope X scope N js:=by
 unfold Ir at ok;simp only [Bool.and_eq_true]at ok;obtain⟨⟨⟨⟨⟨h1,h2⟩,h3⟩,h4⟩,h5⟩,h6⟩:=ok;refine⟨by simpa using h1,λy hy=>?_,λy hy hk=>?_,by simpa using h4,λi j e=>?_,λy hy hk=>?_⟩
 ·have:=all_eq_true.mp h2 y hy;simpa using this
 ·have:=all_eq_true.mp h3 y hy;rw[hk]at this;simpa using this
 ·have hi:i<js.length:=(Zgs.mp e).1;have:=all_eq_true.mp h5 i (mem_range.mpr hi);rw[e]at this;cases q:N[i]? with
  | none=>simp[q]at this
  | some x=>
   simp only [q,Bool.and_eq_true,beq_iff_eq]at this;exact⟨x,rfl,by rw[hN];exact this.1,this.2⟩
 ·have:=all_eq_true.mp h6 y hy;rw[hk]at this;have z:(JD.names.lookup y.1==some .cell)=true∨(JD.names.lookup y.1==some .free)=true:=by simpa using this
  have ek:X.env.kindOf y.1=JD.names.lookup y.1:=by rw[<- h0];rfl
  rw[ek];rcases z with z|z
  ·exact .inl (by simpa using z)
  ·exact .inr (by simpa using z)
def aM:Expr->Bool|.Starred _ _=>false|_=>true
def bL{e:Expr}{es:List Expr}{env:Env}(h:aM e=true):starEach (e::es) env=(false,eval e env)::starEach es env:=by
 cases e<;>first|rfl|cases h
def fF{es:List Expr}{env:Env}{pos:Pos}(h:es.all aM=true):(backTo pos (starEach es env)).any (·.1)=false:=by
 induction es with
 | nil=>rfl
 | cons e es ih=>
  rw[all_cons,Bool.and_eq_true]at h;rw[bL h.1];have:=ih h.2;show(false||(backTo pos (starEach es env)).any (·.1))=false;rw[this];rfl
section
variable {X:Cx}{e o:Expr}{es:List Expr}{te to:TE}{t:TA}{x:Str}{p pos apos cpos:Pos}{id T:String}{r:List V->Hp->VK->Prop}
def Iu(ha:PE X e te)(hr:PA X es t)(h:aM e=true:=by rfl):PA X (e::es) (wV te t):=uU ha hr (bL h)
def Oo(hc:CallR X (.builtin id) r)(hg:Gl X x)(hm:X.mg x=none)(hv:bootBuiltins x=some (.builtin id))(ha:PA X (e::es) t)(hn:x≠"__name__":=by decide)(Z7:(x==("__debug__":Str))=false:=by decide)(h1:aM e=true:=by rfl)(h2:es.all aM=true:=by rfl):PE X (.Call (.Name x p) (e::es) [] pos) (Wm r t):=wY hc hg hm hv ha hn Z7 (bL h1) (fF h2)
def Iv(hc:CallR X (.type T) r)(hg:Gl X x)(hm:X.mg x=none)(hv:bootBuiltins x=some (.type T))(ha:PA X (e::es) t)(hn:x≠"__name__":=by decide)(Z7:(x==("__debug__":Str))=false:=by decide)(h1:aM e=true:=by rfl)(h2:es.all aM=true:=by rfl):PE X (.Call (.Name x p) (e::es) [] pos) (Wm r t):=Ed hc hg hm hv ha hn Z7 (bL h1) (fF h2)
def Yp{n:Nat}{ps:List Str}{sp:Sp}(c:aJ X.prog X.w X.K X.mg X.base n x ps sp)(hr:Room n X.A)(hg:Gl X x)(ha:PA X (e::es) t)(Z7:(x==("__debug__":Str))=false:=by decide)(h1:aM e=true:=by rfl)(h2:es.all aM=true:=by rfl):PE X (.Call (.Name x p) (e::es) [] pos) (tFn sp t):=aAD c hr hg ha Z7 (bL h1) (fF h2)
def Iw{es:List Expr}{env:Env}{cpos:Pos}(h:es.all aM=true):(backTo cpos (starEach es env)).all (λx=>!x.1)=true:=by
 induction es with
 | nil=>rfl
 | cons e es ih=>
  rw[all_cons,Bool.and_eq_true]at h;rw[bL h.1];show(!false&&(backTo cpos (starEach es env)).all (λx=>!x.1))=true;rw[ih h.2];rfl
def aAE{name:Str}{r:V->List V->Hp->VK->Prop}(pa:PlainAttrs T)(slot:Slot T name id)(KA:typeOf (.builtin id)=pure (.type "method_descriptor"))(hm:Tw X id r)(ho:PE X o to)(ha:PA X (e::es) t)(P4:attributeBase o name X.env (eval o X.env)=eval o X.env:=by rfl)(P5:(apos.endLine==cpos.line)=true:=by rfl)(h1:aM e=true:=by rfl)(h2:es.all aM=true:=by rfl)(hn:es.length+1<30:=by decide) :
  PE X (.Call (.Attribute o name apos) (e::es) [] cpos) (Zw X.K T r to t):=by
 refine Xo pa slot KA hm ho ha P4 ?_ P5 (bL h1) (fF h2);rw[Iw (by rw[all_cons,h1,h2];rfl)];show(true&&true&&decide (es.length+1+0+0<30))=true;simp;omega
def Uy{p2:Pos}{T:Str}(want:Kd)(he:PE X e te)(hg:Gl X "isinstance")(hm:X.mg "isinstance"=none)(OK:Gl X T)(OL:X.mg T=none)(hT:bootBuiltins T=some (.type (On want)))(hn:T≠"__name__":=by decide)(hd:(T==("__debug__":Str))=false:=by decide)(h1:aM e=true:=by rfl):PE X (.Call (.Name "isinstance" p) [e,.Name T p2] [] pos) (Ux want te):=
 Yo want he hg hm OK OL hT (bL h1) (bL rfl) hn hd (fF rfl)
end
def dU:bootBuiltins "len"=some (.builtin "len"):=by decide +kernel
def Ix:bootBuiltins "all"=some (.builtin "all"):=by decide +kernel
def Uz:bootBuiltins "any"=some (.builtin "any"):=by decide +kernel
def Va:bootBuiltins "sum"=some (.builtin "sum"):=by decide +kernel
def eI:bootBuiltins "sorted"=some (.builtin "sorted"):=by decide +kernel
def vH:bootBuiltins "max"=some (.builtin "max"):=by decide +kernel
def Vb:bootBuiltins "min"=some (.builtin "min"):=by decide +kernel
def pR:bootBuiltins "list"=some (.type "list"):=by decide +kernel
def nZ:bootBuiltins "str"=some (.type "str"):=by decide +kernel
def Vc:bootBuiltins "int"=some (.type "int"):=by decide +kernel
def Op:bootBuiltins "bool"=some (.type "bool"):=by decide +kernel
def qM:bootBuiltins "tuple"=some (.type "tuple"):=by decide +kernel
def Bs:bootBuiltins "dict"=some (.type "dict"):=by decide +kernel
structure Dk(H:Hp)(d b:TD):Prop where
 ex:∃(ns:List Int)(s k:Int),H d=some (.lst [.ref b,.int s,.int k])/\H b=some (.lst (ns.map V.int))/\ns.length<=63
def Kp(d b:TD)(H H':Hp):Prop:=∀c o,H c=some o->c≠d->c≠b->H' c=some o
def Kp.refl{d b:TD}{H:Hp}:Kp d b H H:=λ_ _ e _ _=>e
def Kp.trans{d b:TD}{H H1 H2:Hp}(x:Kp d b H H1)(y:Kp d b H1 H2):Kp d b H H2:=λc o e h1 h2=>y c o (x c o e h1 h2) h1 h2
def Kp.new{d b p:TD}{H:Hp}{o:HO}(h:H p=none):Kp d b H (aH H p o):=λc u e _ _=>by rw[aE (aD e h)];exact e
def Dk.new{d b p:TD}{H:Hp}{o:HO}(x:Dk H d b)(h:H p=none):Dk (aH H p o) d b:=by
 obtain⟨ns,s,k,h1,h2,h3⟩:=x.ex;exact⟨ns,s,k,by rw[aE (aD h1 h)];exact h1,by rw[aE (aD h2 h)];exact h2,h3⟩
def Iy(K:W.Frag):Sp:=λvs H Q _=>∃(a:TD)(ns:List Int),vs=[.ref a]/\SqL K H a (ns.map V.int)/\∀d b H',H d=none->H b=none->Dk H' d b->Same H H'->Q (.ref d) H'
end L2
namespace L2
def lW{c:Bool}{A B:Prop}(h:c=true)(k:A):if c=true then A else B:=by rw[NE h];exact k
def fR{c:Bool}{A B:Prop}(h:c=false)(k:B):if c=true then A else B:=by rw[IS (by rw[h];exact WP)];exact k
def gV{c:Bool}{A B:Prop}(ht:c=true->A)(hf:c=false->B):if c=true then A else B:=by
 cases h:c with
 | true=>rw[NE rfl];exact ht h
 | false=>rw[IS WP];exact hf h
open PySem PySem.Spec PyProof.Rows
structure xG(J:It)(xs:List V)(A:Hp->Prop):Prop where
 go:∀i H,i<xs.length->A H->J.go i H
 yld:∀i H x H',i<xs.length->A H->J.yld i H x H'->H'=H/\xs[i]?=some x
 stop:∀H,A H->J.stop xs.length H
def tJ(x:Str):List V:=x.cps.toList.map λc=>V.str (tx [c])
def Oq(x:Str):xG (Zy x) (tJ x) (λ_=>True):=by
 have hl:(tJ x).length=x.cps.size:=by simp[tJ]
 refine⟨λi H hi _=>by rw[hl]at hi;exact hi,λi H v H' _ _ ⟨e,c,hc,ev⟩=>⟨e,?_⟩,λH _=>by rw[hl];exact bZ _⟩;subst ev;unfold tJ;rw[iK,Array.getElem?_toList,hc];rfl
def jQ(lo:Int)(n:Nat):List V:=(List.range n).map λ(i:Nat)=>V.int (lo+(i:Int))
def gJ(lo:Int)(n:Nat):xG (Zu lo n) (jQ lo n) (λ_=>True):=by
 have hl:(jQ lo n).length=n:=by simp[jQ]
 refine⟨λi H hi _=>by rw[hl]at hi;exact hi,λi H v H' hi _ ⟨e,ev⟩=>⟨e,?_⟩,λH _=>by rw[hl];exact bZ _⟩;subst ev;rw[hl]at hi;unfold jQ;rw[iK,List.getElem?_range hi];rfl
def cA(K:W.Frag)(a:TD)(xs:List V):xG (Te K a) xs (λH=>SqL K H a xs):=
 ⟨λi H hi h=>⟨xs,xs[i],h,by simp[hi]⟩,λi H x H' _ h ⟨e,y⟩=>⟨e,y xs h⟩,λH h=>⟨xs,h,bZ _⟩⟩
def iO(K:W.Frag)(a:TD)(xs:List V):xG (Itt K a) xs (λH=>SqT K H a xs):=
 ⟨λi H hi h=>⟨xs,xs[i],h,by simp[hi]⟩,λi H x H' _ h ⟨e,y⟩=>⟨e,y xs h⟩,λH h=>⟨xs,h,bZ _⟩⟩
def bJ{J:It}{xs:List V}{A:Hp->Prop}{js:List (Option Nat)}{g:TG}{tt:TT}{te:TE}{σ:St}{H:Hp}{Q:List V->Hp->Prop}(S:xG J xs A)(hz:xs.length<=100000)(Pv:Nat->List V->Hp->Prop)(hA:∀i ys H,Pv i ys H->A H/\ys.length<=i)(h0:Pv 0 [] H)(hs:∀i x ys H,xs[i]?=some x->Pv i ys H->g x (xF js σ) H λσ2 H2=>tt σ2 H2 λb H3=>if b=true then te σ2 H3 λy H4=>Pv (i+1) (ys++[y]) H4 else Pv (i+1) ys H3)(hd:∀ys H,Pv xs.length ys H->Q ys H):oX js g tt te σ J H Q:=by
 refine⟨λi m ys H=>m=xs.length-i/\i<=xs.length/\Pv i ys H,⟨xs.length,Zs,zero_le _,h0⟩,?_⟩;rintro i m ys H ⟨rfl,hi,p⟩;obtain⟨pa,hy⟩:=hA i ys H p;by_cases r9:i<xs.length
 ·refine .inr ⟨S.go i H r9 pa,rY (m:=100000) Zo Zd,Pv (i+1),λOI H' p'=>⟨xs.length-(i+1),Zo,rfl,r9,p'⟩,λx H' y=>?_⟩;obtain⟨rfl,hx⟩:=S.yld i H x H' r9 pa y;exact hs i x ys H' hx p
 ·have e:i=xs.length:=by omega
  subst e;exact .inl ⟨S.stop H pa,hd ys H p⟩
def Er{J:It}{xs:List V}{A:Hp->Prop}{js:List (Option Nat)}{g:TG}{tt:TT}{te:TE}{σ:St}{H:Hp}{Q:List V->Hp->Prop}(S:xG J xs A)(hz:xs.length<=100000)(p:V->Bool)(f:V->V)(hA:A H)(hs:∀(x:V)(ys:List V)(N:List V->Hp->Prop),x∈xs->(p x=true->N (ys++[f x]) H)->(p x=false->N ys H)->g x (xF js σ) H λσ2 H2=>tt σ2 H2 λb H3=>if b=true then te σ2 H3 λy H4=>N (ys++[y]) H4 else N ys H3)(hd:Q ((xs.filter p).map f) H):oX js g tt te σ J H Q:=by
 refine bJ S hz (λi ys H'=>ys=((xs.take i).filter p).map f/\H'=H) (λi ys H' ⟨e,e2⟩=>⟨by rw[e2];exact hA,?_⟩) ⟨Zs,rfl⟩ (?_) (?_)
 ·rw[e,bP];exact eS (length_filter_le _ _) (by rw[mV];exact min_le_left _ _)
 ·rintro i x ys H' hx ⟨e,e2⟩;subst e2;have key:(xs.take (i+1)).filter p=(xs.take i).filter p++(if p x=true then [x] else []):=take_succ_filter p xs i x hx;refine hs x ys (λOI H3=>OI=((xs.take (i+1)).filter p).map f/\H3=H') (kS hx) (λh=>⟨?_,rfl⟩) (λh=>⟨?_,rfl⟩)
  ·rw[key,NE h,jM,e];rfl
  ·rw[key,IS (by rw[h];exact WP),append_nil,e]
 ·rintro ys H' ⟨e,e2⟩;subst e2;rw[e,Mm (bZ _)];exact hd
def dI{J:It}{xs:List V}{A:Hp->Prop}{g:TG}{tb:TS}{D:hZ}{σ:St}{H:Hp}(S:xG J xs A)(Pv:Nat->St->Hp->Prop)(hA:∀i σ H,Pv i σ H->A H)(h0:Pv 0 σ H)(hs:∀(i:Nat)(x:V) σ H,xs[i]?=some x->Pv i σ H->g x σ H λσ2 H2=>tb {D with nx:=Pv (i+1),ct:=Pv (i+1),bk:=D.nx } σ2 H2)(hd:∀ σ H,Pv xs.length σ H->D.nx σ H) :
  ∃W:Nat->Nat->St->Hp->Prop,(∃m,W 0 m σ H)/\∀i m σ H,W i m σ H →
   (J.stop i H/\D.nx σ H)∨(J.go i H/\∃N:St->Hp->Prop,(∀ σ' H',N σ' H'->∃m',m'<m/\W (i+1) m' σ' H')/\∀x H',J.yld i H x H'->g x σ H' λσ2 H2=>tb {D with nx:=N,ct:=N,bk:=D.nx } σ2 H2):=by
 refine⟨λi m σ H=>m=xs.length-i/\i<=xs.length/\Pv i σ H,⟨xs.length,Zs,zero_le _,h0⟩,?_⟩;rintro i m σ H ⟨rfl,hi,p⟩;have pa:=hA i σ H p;by_cases r9:i<xs.length
 ·refine .inr ⟨S.go i H r9 pa,Pv (i+1),λσ' H' p'=>⟨xs.length-(i+1),Zo,rfl,r9,p'⟩,λx H' y=>?_⟩;obtain⟨rfl,hx⟩:=S.yld i H x H' r9 pa y;exact hs i x σ H' hx p
 ·have e:i=xs.length:=by omega
  subst e;exact .inl ⟨S.stop H pa,hd σ H p⟩
end L2
namespace L2
open PySem
def aF{H:Hp}{p:TD}{o:HO}(h:H p=none):Same H (aH H p o):=λb u q=>by rw[aE (aD q h)];exact q
def vI{α:Type}(xs:List α)(k:Nat):iB xs none (some (k:Int))=xs.take k:=by
 unfold iB;rw[HT.sIx_none,HT.sIx_nat,drop_zero,Nat.sub_zero,<- List.take_take,Mm (bZ _)]
def xH{α:Type}(xs:List α)(k:Nat):iB xs (some (k:Int)) none=xs.drop k:=by
 unfold iB;rw[HT.sIx_none,HT.sIx_nat];by_cases h:k<=xs.length
 ·rw[Nat.min_eq_left h,Mm (by rw[length_drop];exact bZ _)]
 ·rw[Nat.min_eq_right Zo,List.drop_of_length_le (bZ _),List.drop_of_length_le Zo,List.take_nil]
def Os{α β:Type}(f:α->β)(xs:List α)(lo hi:Option Int):iB (xs.map f) lo hi=(iB xs lo hi).map f:=by
 unfold iB;rw[bP,<- List.map_drop,<- List.map_take]
open PySem PySem.Spec PyProof.Rows
def lX{α:Type}{xs:List α}{i:Int}(h0:0<=i)(h1:i<xs.length):∃v,nV xs i=some v/\v∈xs:=by
 obtain⟨j,rfl⟩:=Int.eq_ofNat_of_zero_le h0;have hj:j<xs.length:=by omega
 exact⟨xs[j],fQ (by simp[hj]),getElem_mem hj⟩
def Bt(g:Array Nat):∀(ps:List Str)(acc:Array Nat),(ps.foldl (λacc p=>acc++g++p.cps) acc).toList=acc.toList++(ps.map λp=>g.toList++p.cps.toList).flatten
 | [],acc=>by simp
 | p::ps,acc=>by
  rw[foldl_cons,Bt g ps];simp
def Iz(ps:List Str):(Txt.join (tx []) ps).cps.toList=(ps.map λp=>p.cps.toList).flatten:=by
 unfold Txt.join Builtin.Str.glued;rw[Bt];cases ps with
 | nil=>simp[Str.empty]
 | cons p ps=>simp
def Ot(ps:List Str):Txt.join (tx []) ps=tx (ps.map λp=>p.cps.toList).flatten:=by rw[<- Iz,zR]
def zW(ts:List Nat):Txt.join (tx []) (ts.map λc=>tx [c])=tx ts:=by
 rw[Ot,map_map];congr 1
 congr 1
 induction ts with
 | nil=>rfl
 | cons c r ih=>rw[map_cons,List.flatten_cons,ih];rfl
def Ja:("":Str)=tx []:=by decide +kernel
end L2
namespace L2
open PySem
def Dk.ne{H:Hp}{d b p:TD}(x:Dk H d b)(h:H p=none):p≠d/\p≠b:=by
 obtain⟨ns,s,k,h1,h2,h3⟩:=x.ex;exact⟨(aD h1 h).symm,(aD h2 h).symm⟩
def Jb(x:Str):x=tx x.cps.toList:=(zR x).symm
end L2
namespace L2
open PySem
def xI:∀ts:List Nat,((ts.map λc=>tx [c]).map (·.length)).sum=ts.length
 | []=>rfl
 | c::ts=>by
  rw[map_cons,map_cons,List.sum_cons,xI ts,wN];show 1+ts.length=_;omega
end L2
namespace L2
open PySem
def Yq{t:TT}{σ:St}{H:Hp}{Q:Bool->Hp->Prop}(R:Bool->Hp->Prop)(h:∀k:Bool->Hp->Prop,(∀v H',R v H'->k v H')->t σ H k)(h2:∀v H',R v H'->Q v H'):t σ H Q:=h Q h2
def Yr{t:TS}{D:hZ}{σ:St}{H:Hp}(R:St->Hp->Prop)(h:∀nx:St->Hp->Prop,(∀ σ' H',R σ' H'->nx σ' H')->t {D with nx:=nx } σ H)(h2:∀ σ' H',R σ' H'->D.nx σ' H'):t D σ H:=h D.nx h2
def Kof.same{H H':Hp}{x:V}{k:Kd}(s:Same H H')(h:Kof H x k):Kof H' x k:=by
  cases x<;>cases k<;>first
    | exact h
    | (obtain⟨xs,e⟩:=h;exact⟨xs,s _ _ e⟩)
    | (rcases h with⟨xs,e⟩ | ⟨o,xs,e⟩
       . exact .inl ⟨xs,s _ _ e⟩
       . exact .inr ⟨o,xs,s _ _ e⟩)
def Dk.same{H H':Hp}{d b:TD}(s:Same H H')(h:Dk H d b):Dk H' d b:=by
 obtain⟨ns,s0,k,h1,h2,h3⟩:=h.ex;exact⟨ns,s0,k,s _ _ h1,s _ _ h2,h3⟩
open PySem PySem.Spec PyProof.Rows
structure XE(X:Cx)(e:Expr)(t:TE):Prop where
 h:PE X e t
structure XT(X:Cx)(e:Expr)(t:TT):Prop where
 h:PT X e t
structure XW(X:Cx)(e:Expr)(t:TT):Prop where
 h:PW X e t
structure XA(X:Cx)(es:List Expr)(t:TA):Prop where
 h:PA X es t
structure XS(X:Cx)(st:Stmt)(t:TS):Prop where
 h:PS X st t
structure XB(X:Cx)(st:List Stmt)(t:TS):Prop where
 h:PSs X st t
structure XI(X:Cx)(tg iter:Expr)(t:TI):Prop where
 h:PI X tg iter t
structure XG(X:Cx)(e:Expr)(t:TG):Prop where
 h:PG X e t
structure Ys(X:Cx)(es:List Expr)(t:Ax):Prop where
 h:Xa X es t
structure XO(X:Cx)(e:Option Expr)(t:TO):Prop where
 h:PO X e t
structure Zz(X:Cx)(cs:List Expr)(t:TT):Prop where
 h:Wp X cs t
structure Vd(X:Cx)(t:Ds):Prop where
 h:Mu X t
structure iF(X:Cx)(f:S6->S6->Sem Value)(r:R2):Prop where
 h:OpR X f r
structure Ve(X:Cx)(r:R2):Prop where
 h:IxR X r
structure Yt(X:Cx)(r:V->Option Int->Option Int->Hp->VK->Prop):Prop where
 h:SlR X r
structure XC(X:Cx)(f:S6)(r:List V->Hp->VK->Prop):Prop where
 h:CallR X f r
structure XM(X:Cx)(id:String)(r:V->List V->Hp->VK->Prop):Prop where
 h:Tw X id r
namespace R
section
variable {X:Cx}{a b c e o i:Expr}{es rest:List Expr}{ta tb tc te to ti:TE}{tA HI:TT}{t u:TA}{pos p p2 apos cpos pos':Pos}{x:Str}{n:Nat}{r r':R2}
def v(i:Nat){x:Str}{pos:Pos}(hN:X.N[i]?=some x:=by rfl)(hv:Wt X.env.scope x:=by first|exact Or.inl rfl|exact Or.inr (Or.inl rfl)|exact Or.inr (Or.inr rfl))(hd:(x==("__debug__":Str))=false:=by decide)(yq:(x==("__classdict__":Str))=false:=by decide):XE X (.Name x pos) (vr i):=⟨xv i hN hv hd yq⟩
def ac{i j pos}:XE X (.Constant (.int i) j pos) (tC (.int i)):=⟨Sk⟩
def bl{b j pos}:XE X (.Constant (.bool b) j pos) (tC (.bl b)):=⟨Wu⟩
def cc{j pos}:XE X (.Constant .none j pos) (tC .non):=⟨Sl⟩
def af{x j pos}:XE X (.Constant (.str x) j pos) (tC (.str x)):=⟨Sm⟩
def gS{z:Str}(hg:Gl X x)(hm:∃t,X.mg x=some (.str z t))(hd:(x==("__debug__":Str))=false:=by decide):XE X (.Name x pos) (tC (.str z)):=by
 obtain⟨t,hm⟩:=hm;exact⟨uQ hg hm ⟨t,rfl⟩ hd⟩
def gI{z:Int}(hg:Gl X x)(hm:∃t,X.mg x=some (.int z t))(hd:(x==("__debug__":Str))=false:=by decide):XE X (.Name x pos) (tC (.int z)):=by
 obtain⟨t,hm⟩:=hm;exact⟨uQ hg hm ⟨t,rfl⟩ hd⟩
def gR{a:TD}(hg:Gl X x)(hm:X.mg x=some (.ref a))(hd:(x==("__debug__":Str))=false:=by decide):XE X (.Name x pos) (tC (.ref a)):=⟨uQ hg hm rfl hd⟩
def op{op:Operator}(ho:iF X (binaryOp op) r)(ha:XE X a ta)(hb:XE X b tb):XE X (.BinOp a op b pos) (Hb r ta tb):=⟨Xc ho.h ha.h hb.h⟩
def aw:iF X (binaryOp .Add) (zV λi j=>.int (i+j)):=⟨Xv⟩
def cq:iF X (binaryOp .Sub) (zV λi j=>.int (i-j)):=⟨Xw⟩
def ed:iF X (binaryOp .Mult) (m2 CMul λi j=>.int (i*j)):=⟨Xx⟩
def cf:iF X (binaryOp .Mod) (m2 (λ_ j=>0<j) λi j=>.int (i%j)):=⟨Xy⟩
def bw:iF X (binaryOp .Pow) (m2 Tk λi j=>.int (i^j.toNat)):=⟨Xz⟩
def fi:iF X (binaryOp .Add) Iq:=⟨Uj⟩
def lt:iF X (compareOp .Lt) (zV λi j=>.bl (decide (i<j))):=⟨aAt⟩
def le:iF X (compareOp .LtE) (zV λi j=>.bl (decide (i<=j))):=⟨aAu⟩
def gt:iF X (compareOp .Gt) (zV λi j=>.bl (decide (j<i))):=⟨aAv⟩
def ge:iF X (compareOp .GtE) (zV λi j=>.bl (decide (j<=i))):=⟨aAw⟩
def eq:iF X (compareOp .Eq) oZ:=⟨aAx⟩
def ne:iF X (compareOp .NotEq) mNe:=⟨aAy⟩
def ir:iF X (compareOp .In) (Uk false):=⟨Ya⟩
def inQ:iF X (compareOp .In) (Wn X.K false):=⟨Eg⟩
def notInQ:iF X (compareOp .NotIn) (Wn X.K true):=⟨uZ⟩
def jg:iF X (compareOp .Is) (λx y H Q=>match y with|.non=>Q (.bl (decide (x=.non))) H|_=>False):=⟨Yb⟩
def dt:iF X (compareOp .IsNot) (λx y H Q=>match y with|.non=>Q (.bl (!decide (x=.non))) H|_=>False):=⟨Ul⟩
def neNil(hu:X.A.units<cLine):iF X (compareOp .NotEq) (zU X.K true):=⟨Ip hu⟩
def cb{op:CmpOp}(ho:iF X (compareOp op) r)(ha:XE X a ta)(hb:XE X b tb)(hm:behindInMarks op b=false:=by first|exact uR _|rfl):XE X (.Compare a [op] [b] pos) (Hb r ta tb):=⟨Yd ho.h ha.h hb.h hm⟩
def aj{op:CmpOp}(ho:iF X (compareOp op) r)(ha:XE X a ta)(hb:XE X b tb)(hm:behindInMarks op b=false:=by first|exact uR _|rfl):XT X (.Compare a [op] [b] pos) (mT (Hb r ta tb)):=⟨Yc ho.h ha.h hb.h hm⟩
def iu{op pw:CmpOp}(ho:iF X (compareOp op) r)(T1:iF X (compareOp pw) r')(ha:XE X a ta)(hb:XE X b tb)(hc:XE X c tc)(hm:lastMarks [op,pw] [b,c]=false:=by with_unfolding_all rfl):XE X (.Compare a [op,pw] [b,c] pos) (nY r r' ta tb tc):=⟨Og ho.h T1.h ha.h hb.h hc.h hm⟩
def ij{op pw:CmpOp}(ho:iF X (compareOp op) r)(T1:iF X (compareOp pw) r')(ha:XE X a ta)(hb:XE X b tb)(hc:XE X c tc)(hm:lastMarks [op,pw] [b,c]=false:=by with_unfolding_all rfl):XT X (.Compare a [op,pw] [b,c] pos) (mT (nY r r' ta tb tc)):=⟨Oh ho.h T1.h ha.h hb.h hc.h hm⟩
def ay(ha:XE X a ta):XE X (.UnaryOp .USub a pos) (tUn (λx H Q=>mI x λi=>Q (.int (-i)) H) ta):=⟨Yh ha.h⟩
def bi{t:TE}(h:XE X e t)(he:∀whole,isTrue e X.env whole=(do let v←whole;standAt e.pos;holding [v] (truthy v)):=by intro _;rfl):XT X e (mT t):=⟨Ye h.h he⟩
def bj(ha:XT X a tA):XT X (.UnaryOp .Not a pos) (Wv tA):=⟨Sr ha.h⟩
def cn(ha:XT X a tA):XW X (.BoolOp .And [a] pos) tA:=⟨Mq ha.h⟩
def ca(ha:XT X a tA):XW X (.BoolOp .Or [a] pos) tA:=⟨So ha.h⟩
def cm(ha:XT X a tA)(hb:XW X (.BoolOp .And (b::rest) pos) HI):XW X (.BoolOp .And (a::b::rest) pos) (Mp tA HI):=⟨Sq ha.h hb.h⟩
def bz(ha:XT X a tA)(hb:XW X (.BoolOp .Or (b::rest) pos) HI):XW X (.BoolOp .Or (a::b::rest) pos) (tOr tA HI):=⟨Ww ha.h hb.h⟩
def tw(h:XW X e tA):XT X e tA:=⟨h.h.pt⟩
def dn{op}(h:XE X a ta):XE X (.BoolOp op [a] pos) ta:=⟨Su h.h⟩
def fk(ha:XE X a ta)(hb:XE X (.BoolOp .And (b::rest) pos) tb):XE X (.BoolOp .And (a::b::rest) pos) (Bp ta tb):=⟨Yf ha.h hb.h⟩
def or(ha:XE X a ta)(hb:XE X (.BoolOp .Or (b::rest) pos) tb):XE X (.BoolOp .Or (a::b::rest) pos) (Oi ta tb):=⟨aAz ha.h hb.h⟩
def jh(ha:XE X a ta):XE X (.UnaryOp .Not a pos) (Bq ta):=⟨Yg ha.h⟩
def ix(hr:Ve X r)(ha:XE X a ta)(hb:XE X b tb)(hs:uX b:=by exact λ_ _=>rfl):XE X (.Subscript a b pos) (Hb r ta tb):=⟨aAA hr.h ha.h hb.h hs⟩
def iL:Ve X (Oj X.K):=⟨Uq⟩
def iT:Ve X (Ol X.K):=⟨Yi⟩
def iS:Ve X Uo:=⟨Yj⟩
def pn:XO X none Be:=⟨Nm⟩
def ps(h:XE X e te):XO X (some e) (Br te):=⟨Ur h.h⟩
def sl{r:V->Option Int->Option Int->Hp->VK->Prop}{lo hi:Option Expr}{tl th:TO}(hr:Yt X r)(he:XE X e te)(hl:XO X lo tl)(hu:XO X hi th):XE X (.Subscript e (.Slice lo hi none p2) pos) (tSl r te tl th):=⟨Hl hr.h he.h hl.h hu.h⟩
def sS:Yt X Us:=⟨Yk⟩
def sL:Yt X (Om X.K):=⟨Ut⟩
def ab:XA X [] zI:=⟨zJ⟩
def aa(ha:XE X e te)(hr:XA X es t)(h:aM e=true:=by rfl):XA X (e::es) (wV te t):=⟨Iu ha.h hr.h h⟩
def il{x1}(h:XA X es t):XE X (.Tuple es x1 pos) (Xj t):=⟨Ts h.h⟩
def bg(h:XA X es t):XE X (.List es pos) (Xk t):=⟨Tt h.h⟩
def az{id:String}{r:List V->Hp->VK->Prop}(hc:XC X (.builtin id) r)(hg:Gl X x)(hm:X.mg x=none)(hv:bootBuiltins x=some (.builtin id))(ha:XA X (e::es) t)(hn:x≠"__name__":=by decide)(Z7:(x==("__debug__":Str))=false:=by decide)(h1:aM e=true:=by rfl)(h2:es.all aM=true:=by rfl):XE X (.Call (.Name x p) (e::es) [] pos) (Wm r t):=⟨Oo hc.h hg hm hv ha.h hn Z7 h1 h2⟩
def ce{T:String}{r:List V->Hp->VK->Prop}(hc:XC X (.type T) r)(hg:Gl X x)(hm:X.mg x=none)(hv:bootBuiltins x=some (.type T))(ha:XA X (e::es) t)(hn:x≠"__name__":=by decide)(Z7:(x==("__debug__":Str))=false:=by decide)(h1:aM e=true:=by rfl)(h2:es.all aM=true:=by rfl):XE X (.Call (.Name x p) (e::es) [] pos) (Wm r t):=⟨Iv hc.h hg hm hv ha.h hn Z7 h1 h2⟩
def dm:XC X (.builtin "len") (λvs H Q=>match vs with|[.str z]=>z.length<=sizeLine/\Q (.int z.length) H|_=>False):=⟨Uu⟩
def lenL:XC X (.builtin "len") (λvs H Q=>match vs with|[.ref p]=>∃ys,(SqL X.K H p ys∨SqT X.K H p ys)/\Q (.int ys.length) H|_=>False):=⟨Uv⟩
def all(hc:X.calm=true):XC X (.builtin "all") (Ug X.K):=⟨Il hc⟩
def any(hc:X.calm=true):XC X (.builtin "any") (Uh X.K):=⟨Im hc⟩
def sum(hc:X.calm=true):XC X (.builtin "sum") (Ui X.K):=⟨Io hc⟩
def fn{n:Nat}{ps:List Str}{sp:Sp}(c:aJ X.prog X.w X.K X.mg X.base n x ps sp)(hr:Room n X.A)(hg:Gl X x)(ha:XA X (e::es) t)(Z7:(x==("__debug__":Str))=false:=by decide)(h1:aM e=true:=by rfl)(h2:es.all aM=true:=by rfl):XE X (.Call (.Name x p) (e::es) [] pos) (tFn sp t):=⟨Yp c hr hg ha.h Z7 h1 h2⟩
def bm{T id:String}{name:Str}{r:V->List V->Hp->VK->Prop}(pa:PlainAttrs T)(slot:Slot T name id)(KA:typeOf (.builtin id)=pure (.type "method_descriptor"))(hm:XM X id r)(ho:XE X o to)(ha:XA X (e::es) t)(P4:attributeBase o name X.env (eval o X.env)=eval o X.env:=by rfl)(P5:(apos.endLine==cpos.line)=true:=by rfl)(h1:aM e=true:=by rfl)(h2:es.all aM=true:=by rfl)(hn:es.length+1<30:=by decide) :
  XE X (.Call (.Attribute o name apos) (e::es) [] cpos) (Zw X.K T r to t):=⟨aAE pa slot KA hm.h ho.h ha.h P4 P5 h1 h2 hn⟩
def dh:XM X "list.append" Bg:=⟨Eh⟩
def jb:XM X "list.pop" Hq:=⟨Hr⟩
def join:XM X "str.join" (Ij X.K):=⟨Oe⟩
def cy{T:Str}(want:Kd)(he:XE X e te)(hg:Gl X "isinstance")(hm:X.mg "isinstance"=none)(OK:Gl X T)(OL:X.mg T=none)(hT:bootBuiltins T=some (.type (On want)))(hn:T≠"__name__":=by decide)(hd:(T==("__debug__":Str))=false:=by decide)(h1:aM e=true:=by rfl):XE X (.Call (.Name "isinstance" p) [e,.Name T p2] [] pos) (Ux want te):=⟨Uy want he.h hg hm OK OL hT hn hd h1⟩
def cp:XE X (.Dict [] [] pos) (Hu):=⟨Hw⟩
variable {tg:Expr}
def wL(hl:XE X e te):XI X tg e (Gz X.K te):=⟨Na hl.h⟩
def wT(hl:XE X e te):XI X tg e (Tf X.K te):=⟨Tg hl.h⟩
def wS(hl:XE X e te):XI X tg e (Xt te):=⟨Ue hl.h⟩
def cz(hg:Gl X "range")(hm:X.mg "range"=none)(ha:XA X [a] t)(h1:aM a=true:=by rfl):XI X tg (.Call (.Name "range" p) [a] [] pos) (Qu t):=⟨Du hg hm ha.h (bL h1)⟩
def gn{i:Nat}(hN:X.N.Nodup)(hi:X.N[i]?=some x:=by rfl)(hx:Qs X.env.scope x:=by first|exact Or.inl rfl|exact Or.inr rfl)(hf:X.fn x=true∨X.env.scope.names.lookup x=some .local:=by first|exact .inl rfl|exact .inr rfl|assumption):XG X (.Name x pos) (aK i):=⟨Mw hN hi hx hf⟩
def ck:Ys X [] Sy:=⟨Mx⟩
def bb{tg1:TG}{JE:Ax}(h1:XG X e tg1)(h2:Ys X es JE)(hs:(assignEach (e::es) X.env).map (·.2)=assign e X.env::(assignEach es X.env).map (·.2):=by rfl):Ys X (e::es) (Gv tg1 JE):=⟨Gx h1.h h2.h hs⟩
def gt'{k:Nat}{JE:Ax}(hc:X.calm=true)(h:Ys X es JE)(hn:(assignEach es X.env).length=n:=by rfl)(AF:(assignEach es X.env).findIdx? (·.1)=none:=by rfl):XG X (.Tuple es k pos) (Mz X.K n JE):=⟨Sz hc h.h hn AF⟩
def ja:Vd X Ra:=⟨Hm⟩
def bt{ts:Ds}(ho:XE X o to)(hi:XE X i ti)(hs:Vd X ts)(ha:∀v,assign (.Subscript o i pos) X.env v=(do
   let ov←holding [v] (eval o X.env)
   let iv←holding [v,ov] (eval i X.env)
   standAt pos
   holding [v,ov,iv] (setItem ov iv v)
   release [v,ov,iv] []):=by intro _;rfl):XG X (.Subscript o i pos) (Ta to ti ts):=⟨Tb ho.h hi.h hs.h ha⟩
end
section
variable {X:Cx}{c e tg iter elt:Expr}{ifs:List Expr}{te:TE}{tc tt:TT}{g:TG}{wi:TI}{st:Stmt}{ss sa sb:List Stmt}{t u:TS}{pos pos' EL py:Pos}{x y:Str}{scope:Scope}{N:List Str}{js:List (Option Nat)}
def bu:Zz X [] Rf:=⟨Ny⟩
def cg(h:XT X c tt)(hx:X.xe=λ_ _=>False:=by rfl):Zz X [c] tt:=⟨Nz h.h hx⟩
def bn(hc:X.calm=true)(S:CompScope X scope N js)(go:zP js g)(hi:XI X tg iter wi)(hb:∀(C:TD)(s₂:PP)(H₂:Hp)(fp:List TD),XG (mW X scope C N s₂ H₂ fp) tg g/\Zz (mW X scope C N s₂ H₂ fp) ifs tt/\XE (mW X scope C N s₂ H₂ fp) elt te)(hs:∀x,foldedSetIterable iter X.env x=pure x:=by intro _;rfl):XE X (.ListComp elt [⟨tg,iter,ifs,0⟩] scope pos) (Rg wi js g tt te):=
 ⟨Oa hc S go hi.h (λC s₂ H₂ fp=>let ⟨a,b,c⟩:=hb C s₂ H₂ fp;⟨a.h,b.h,c.h⟩) hs⟩
def de{i:Nat}(hN:X.N.Nodup)(hy:X.N[i]?=some y)(hx:Qs X.env.scope y)(hc:X.calm=true)(S:CompScope X scope N js)(go:zP js g)(hi:XI X tg iter wi)(hb:∀(C:TD)(s₂:PP)(H₂:Hp)(fp:List TD),XG (mW X scope C N s₂ H₂ fp) tg g/\Zz (mW X scope C N s₂ H₂ fp) ifs tt/\XE (mW X scope C N s₂ H₂ fp) elt te)(WD:swapsWith (.ListComp elt [⟨tg,iter,ifs,0⟩] scope pos) (some (.Name y py)) EL.line X.env=pure true)(hs:∀x,foldedSetIterable iter X.env x=pure x:=by intro _;rfl)(hf:X.fn y=true∨X.env.scope.names.lookup y=some .local:=by first|exact .inl rfl|exact .inr rfl|assumption) :
  XS X (.Assign [.Name y py] (.ListComp elt [⟨tg,iter,ifs,0⟩] scope pos) EL) (Rh i wi js g tt te):=
 ⟨Ob hN hy hx hc S go hi.h (λC s₂ H₂ fp=>let ⟨a,b,c⟩:=hb C s₂ H₂ fp;⟨a.h,b.h,c.h⟩) WD hs hf⟩
def aq:XB X [] cK:=⟨Mr⟩
def ae(h1:XS X st t):XB X [st] t:=⟨Ms h1.h⟩
def ad(h1:XS X st t)(h2:XB X ss u):XB X (st::ss) (Gr t u):=⟨Gs h1.h h2.h⟩
def ag(he:XE X e te):XS X (.Return (some e) pos) (Wy te):=⟨Sx he.h⟩
def bf(he:XE X e te)(hs:swapsWith e none pos.line X.env=pure false:=by rfl):XS X (.Expr e pos) (Qt te):=⟨Mt he.h hs⟩
def ap(hc:XT X c tc)(ha:XB X sa t)(hb:XB X sb u):XS X (.If c sa sb pos) (Gu tc t u):=⟨Wz hc.h ha.h hb.h⟩
def au{i:Nat}(hN:X.N.Nodup)(he:XE X e te)(hi:X.N[i]?=some x:=by rfl)(hx:Qs X.env.scope x:=by first|exact Or.inl rfl|exact Or.inr rfl)(hs:swapsWith e (some (.Name x pos')) pos.line X.env=pure false:=by rfl)(hf:X.fn x=true∨X.env.scope.names.lookup x=some .local:=by first|exact .inl rfl|exact .inr rfl|assumption):XS X (.Assign [.Name x pos'] e pos) (Gy te (aK i)):=⟨Td hN hi hx he.h hs hf⟩
def bq(he:XE X e te)(hg:XG X tg g)(hs:swapsWithSole [tg] e pos.line X.env=pure false:=by rfl)(hw:swappedStores [tg] e X.env=pure none:=by rfl)(h1:(assignEach [tg] X.env).map (·.2)=[assign tg X.env]:=by rfl) :
  XS X (.Assign [tg] e pos) (Gy te g):=⟨Tc he.h hg.h hs hw h1⟩
def bp(hp:PassesOwn (model X.prog X.w) X.A X.env X.xe)(hc:X.calm=true)(hi:XI X tg iter wi)(hg:XG X tg g)(hb:XB X ss t)(hs:∀x,foldedSetIterable iter X.env x=pure x:=by intro _;rfl):XS X (.For tg iter ss [] pos) (Xb wi g t):=⟨Ti hp hc hi.h hg.h hb.h hs⟩
end
end R
def DefAt.go{P:Program}{w:World}{K:W.Frag}{mg:X7}{base:Heap}{x:Str}{st:Stmt}{N ps:List Str}{k:Nat}{sp:Sp}(D:DefAt K mg x st ps)(S:aG N ps (aB st))(len:∀vs H Q E,sp vs H Q E->vs.length=ps.length)(x8:∀(f:TD)(cdv:S6)(A:Around)(outer:List Env)(s:PP)(H:Hp)(vs:List V)(Q:VK)(E:XK),Room k (A.deeper (envOfC x (aB st) s.heap.objs.size f cdv))->sp vs H Q E →
   ∃t,XB (nQ sY P w K mg base N x (aB st) f cdv A outer s H E).nox (aS st) t/\t {nx:=λ_ H'=>Q .non H',rt:=Q } (start N vs) H):aJ P w K mg base (k+1) x ps sp:=
 D.ok S len λf cdv A outer s H vs Q E hr h=>let ⟨t,h1,h2⟩:=x8 f cdv A outer s H vs Q E hr h;⟨t,h1.h,h2⟩
def Fun.go{P:Program}{w:World}{K:W.Frag}{mg:X7}{base:Heap}{x qual:Str}{st:Stmt}{f:TD}{fd:FuncData}{N ps:List Str}{k:Nat}{sp:Sp}(F:Fun K x qual st f fd)(S:aG N ps (aB st))(len:∀vs H Q E,sp vs H Q E->vs.length=ps.length)(x8:∀(cdv:S6)(A:Around)(outer:List Env)(s:PP)(H:Hp)(vs:List V)(Q:VK)(E:XK),Room k (A.deeper (envOfC qual (aB st) s.heap.objs.size f cdv))->sp vs H Q E →
   ∃t,XB (nQ sY P w K mg base N qual (aB st) f cdv A outer s H E).nox (aS st) t/\t {nx:=λ_ H'=>Q .non H',rt:=Q } (start N vs) H):jK P w K mg base sY (k+1) f fd ps sp:=
 F.ok S len λcdv A outer s H vs Q E hr h=>let ⟨t,h1,h2⟩:=x8 cdv A outer s H vs Q E hr h;⟨t,h1.h,h2⟩
def Vf{K:W.Frag}{h:Heap}{mg:X7}{x:Str}{st:Stmt}{ps:List Str}{f:TD}{od an:Option TD}{sl:Array (Option S6)}{oc kV dc pm cd ct:S6}(X:K.In h)(G:h.Ns mainGlobals mg)(a:W.nsIn K mainGlobals x=some (some (.ref f)))(l:K.lookup f=some ⟨oc,od,.func (W.fnOf x x (bD st) (aS st) (aB st) .none kV dc pm an cd ct),sl⟩)(c:W.codeIn K cd x=true)(k:W.keepIn K (.ref f)=true)(hb:∀(kV doc pm:S6)(an:Option TD)(cdv ct:S6)(us:List S6),us.length=ps.length->bindArgs (W.fnOf x x (bD st) (aS st) (aB st) .none kV doc pm an cdv ct) ⟨us,[]⟩=pure (ps.zip us)):DefAt K mg x st ps:=
 ⟨f,_,qF l c k,W.mg_of X G a,(qF (st:=st) l c k).binds hb⟩
namespace R
section
variable {X:Cx}{K:W.Frag}{a b c e o i tg:Expr}{es rest:List Expr}{te to:TE}{t:TA}{pos p p2 apos cpos:Pos}{x:Str}{n:Nat}
def bo(hK:X.K=K:=by rfl):Ve X (Oj K):=hK▸iL
def ah(hK:X.K=K:=by rfl):Ve X (Ol K):=hK▸iT
def dq(hK:X.K=K:=by rfl):Yt X (Om K):=hK▸sL
def cw(hK:X.K=K:=by rfl):iF X (compareOp .In) (Wn K false):=hK▸inQ
def fj(hK:X.K=K:=by rfl):iF X (compareOp .NotIn) (Wn K true):=hK▸notInQ
def fo(hu:X.A.units<cLine)(hK:X.K=K:=by rfl):iF X (compareOp .NotEq) (zU K true):=hK▸neNil hu
def ci(hK:X.K=K:=by rfl):XC X (.builtin "len") (λvs H Q=>match vs with|[.ref p]=>∃ys,(SqL K H p ys∨SqT K H p ys)/\Q (.int ys.length) H|_=>False):=hK▸lenL
def ik(hc:X.calm=true)(hK:X.K=K:=by rfl):XC X (.builtin "all") (Ug K):=hK▸all hc
def je(hc:X.calm=true)(hK:X.K=K:=by rfl):XC X (.builtin "any") (Uh K):=hK▸any hc
def iz(hc:X.calm=true)(hK:X.K=K:=by rfl):XC X (.builtin "sum") (Ui K):=hK▸sum hc
def jc(hK:X.K=K:=by rfl):XM X "str.join" (Ij K):=hK▸join
def bv{T id:String}{name:Str}{r:V->List V->Hp->VK->Prop}(pa:PlainAttrs T)(slot:Slot T name id)(KA:typeOf (.builtin id)=pure (.type "method_descriptor"))(hm:XM X id r)(ho:XE X o to)(ha:XA X (e::es) t)(hK:X.K=K:=by rfl)(P4:attributeBase o name X.env (eval o X.env)=eval o X.env:=by rfl)(P5:(apos.endLine==cpos.line)=true:=by rfl)(h1:aM e=true:=by rfl)(h2:es.all aM=true:=by rfl)(hn:es.length+1<30:=by decide) :
  XE X (.Call (.Attribute o name apos) (e::es) [] cpos) (Zw K T r to t):=hK▸bm pa slot KA hm ho ha P4 P5 h1 h2 hn
def bc(hl:XE X e te)(hK:X.K=K:=by rfl):XI X tg e (Gz K te):=hK▸wL hl
def cu(hl:XE X e te)(hK:X.K=K:=by rfl):XI X tg e (Tf K te):=hK▸wT hl
def cj{k:Nat}{JE:Ax}(hc:X.calm=true)(h:Ys X es JE)(hK:X.K=K:=by rfl)(hn:(assignEach es X.env).length=n:=by rfl)(AF:(assignEach es X.env).findIdx? (·.1)=none:=by rfl):XG X (.Tuple es k pos) (Mz K n JE):=hK▸gt' hc h hn AF
end
end R
section
variable {X:Cx}
def zX:List V->Hp->VK->Prop:=λvs H Q=>match vs with
 | [.int i]=>(0<=i/\i<10^40)/\Q (.str (Str.ofString (toString i))) H
 | [.str z]=>Q (.str z) H
 | _=>False
def Yu:CallR X (.type "str") zX:=by
 intro pins s σ H xs us Q I r h;unfold zX at h;split at h
 ·rename_i i;refine uT pins s σ H [.int i] us Q I r ⟨i,rfl,?_,h.2⟩;have h1:i.natAbs<2^1920:=by
   have e:(10:Nat)^40<=2^1920:=by decide +kernel
   have e2:i.natAbs<10^40:=by
    have:=h.1;omega
   omega
  rcases Nat.eq_zero_or_pos i.natAbs with z|z
  ·rw[z];decide
  ·exact(Nat.log2_lt Zo).mpr h1
 ·rename_i z;obtain⟨u,rfl,t,rfl⟩:=gL r;exact PySem.P.str_of_str ⟨.str z,H,I,⟨t,rfl⟩,h⟩
 ·exact h.elim
def aA2:List V->Hp->VK->Prop:=λvs H Q=>match vs with
 | [.str z]=>NumText.AllDigits z.cps.toList/\z.cps.toList≠[]/\z.length<=640/\Q (.int (NumText.digitsVal z.cps.toList:Nat)) H
 | _=>False
end
namespace R
variable {X:Cx}
def eg:XC X (.type "str") zX:=⟨Yu⟩
end R
def LET:List Nat:=[97,98,99,100,101,102,103,104,105,106,107,108,109,110,111,112,113,114,115,116,117,118,119,120,121,122]
def Rj:List Nat:=[48,49,50,51,52,53,54,55,56,57]
def zY:(("abcdefghijklmnopqrstuvwxyz":Str)).cps.toList=LET:=by decide +kernel
def Vg:(("0123456789":Str)).cps.toList=Rj:=by decide +kernel
def eJ(x:V)(cs:List Nat)(n:Int):Bool:=match x with|.str z=>decide (1<=(z.length:Int))&&decide ((z.length:Int)<=n)&&z.cps.toList.all (λc=>decide (c∈cs))|_=>false
def gN(z:Str)(cs:List Nat)(n:Int):eJ (.str z) cs n=(decide (1<=(z.length:Int))&&decide ((z.length:Int)<=n)&&z.cps.toList.all (λc=>decide (c∈cs))):=rfl
def zZ:Sp:=λvs H Q _=>∃x sg n k,vs=[x,.str sg,.int n]/\Kof H x k/\(∀z,x=.str z->z.length<=1000)/\∀H',Same H H'->Q (.bl (eJ x sg.cps.toList n)) H'
def oA(cs:List Nat)(n:Int):Sp:=λvs H Q _=>∃x k,vs=[x]/\Kof H x k/\(∀z,x=.str z->z.length<=1000)/\∀H',Same H H'->Q (.bl (eJ x cs n)) H'
def Ou(c:Nat):c∈Rj↔48<=c/\c<=57:=by
 unfold Rj;simp only [mem_cons,FM,or_false];omega
def Bu:∀(k m:Nat),m<10^(k+1)->(toDigits 10 m).length<=k+1
 | 0,m,h=>by rw[Nat.toDigits_of_lt_base (by simpa using h)];exact bZ _
 | k+1,m,h=>by
  by_cases hm:m<10
  ·rw[Nat.toDigits_of_lt_base hm];simp
  ·have TN:m%10<10:=mod_lt m Zd;have t:toDigits 10 (m/10)++toDigits 10 (m%10)=toDigits 10 (10*(m/10)+m%10):=Nat.toDigits_append_toDigits Zd Zo TN;rw[Nat.div_add_mod]at t;rw[<- t,wM,Nat.toDigits_of_lt_base TN];have:=Bu k (m/10) (by rw[Nat.pow_succ]at h;omega);simp;omega
def cH(m:Nat):Str:=Str.ofString (toString ((m:Nat):Int))
def qN(m:Nat):(cH m).cps.toList=(toDigits 10 m).map Char.toNat:=W.KIN.signs_num m
def xJ(m:Nat):NumText.AllDigits (cH m).cps.toList:=by
 intro c hc;rw[qN]at hc;obtain⟨ch,DX,e⟩:=Zmm.mp hc;have r:=PyProof.Rows.digit_range (Nat.isDigit_of_mem_toDigits Zd Zd DX);rw[<- e];exact r
def xK(m:Nat):NumText.digitsVal (cH m).cps.toList=m:=by rw[qN,W.KIN.val_back]
def xL(m:Nat):(cH m).length=(toDigits 10 m).length:=by
 have:(cH m).cps.toList.length=(cH m).length:=by simp[Str.length]
 rw[<- this,qN,bP]
def Jc(m:Nat):1<=(cH m).length:=by rw[xL];exact PySem.toDigits_len_ge 10 m
def Ov{m k:Nat}(h:m<10^(k+1)):(cH m).length<=k+1:=by rw[xL];exact Bu k m h
def isNm(z:Str):Prop:=1<=z.length/\z.length<=8/\∀c∈z.cps.toList,c∈LET
namespace R
variable {X:Cx}
def iq(hc:X.calm=true):XC X (.builtin "max") (λvs H Q=>match vs with | [.int i,.int j]=>Q (.int (if j > i then j else i)) H | _=>False):=⟨(Dx hc).imp λvs H Q h=>by
 split at h
 ·rename_i i j;exact⟨i,j,rfl,h⟩
 ·exact h.elim⟩
end R
section
variable {prog:Program}{w:World}{A:Around}{E:ZB}{s:PP}
def Es{t:TD}{items:Array Value}{Q:Bool->PP->Prop}(ht:IsTup s.heap t items)(h:Q true s):wpAny (model prog w) A (Builtin.Tuple.tupleIsExact (.ref t)) Q E s:=by
 unfold Builtin.Tuple.tupleIsExact;refine XV (wpAny_typeOf ht.typeIs ?_);exact W1 h
def kQ{t sl:TD}{items:Array Value}{vl vu:S6}{lo hi:Option Int}{Q:ZB}(ht:IsTup s.heap t items)(hs:s.heap.IsSliceOf sl vl vu .none)(pl:IsPart vl lo)(pu:IsPart vu hi)(hw:HT.sIx items.size 0 lo=0/\HT.sIx items.size items.size hi=items.size)(h:Q (.ref t) s):wpAny (model prog w) A (getItem (.ref t) (.ref sl)) Q E s:=by
 obtain⟨os,JZ,MZ,OB⟩:=id hs;have VP:s.TypeIs (.ref sl) "slice":=⟨os,JZ,MZ⟩;unfold getItem;try with_reducible refine wpAny_holding ?_
 first|refine XV (W1 ?_)|skip
 refine XV (wpAny_sequenceKey ht.typeIs Zd ?_);refine XV (wpAny_callSpecial?_slot (name:=Str.ofString "__getitem__") ht.typeIs PyProof.Rows.slot_tuple_getitem
  (wpAny_call_entry PyProof.Rows.slot_tuple_getitem ht.typeIs entry_tuple_getitem ?_ (args_tuple_getitem _ _)))
 show wpAny _ _ (Builtin.Tuple.tupleItemsOf (.ref t)>>=_) _ _ s;refine XV (tupleItemsOf_ ht ?_);refine XV (wpAny_typeOf VP ?_);rw[NE Zd];refine XV (HT.sliceApplied_gen hs pl pu ?_);have WE:(((HT.sIx items.size 0 lo:Nat):Int)==0&&(1:Int)==1&&(HT.sIx items.size items.size hi-HT.sIx items.size 0 lo)==items.size)=true:=by
  rw[hw.1,hw.2];simp
 show wpAny _ _ (if (((HT.sIx items.size 0 lo:Nat):Int)==0&&(1:Int)==1&&(HT.sIx items.size items.size hi-HT.sIx items.size 0 lo)==items.size)=true then _ else _) _ _ s;rw[NE WE];refine XV (Es ht ?_);rw[NE rfl];exact XV (wpAny_rule (W1 ⟨_,rfl,W1 h⟩))
def Jd{t b:TD}{ws:List S6}{Q:ZB}(ht:IsTup s.heap t ([]:List S6).toArray)(hb:IsTup s.heap b ws.toArray)(h1:Q (.ref b) s):wpAny (model prog w) A (binaryOp .Add (.ref t) (.ref b)) Q E s:=by
 obtain⟨⟨cls,dd,data,sl⟩,ho,hc,n,hd⟩:=id ht;obtain⟨⟨VO,TF,data2,TH⟩,DY,OA,n2,hd2⟩:=id hb;simp only at hc hd OA hd2;subst hc hd OA hd2;exact concat_meets ⟨_,ho,rfl⟩ ⟨_,DY,rfl⟩ noFill_tuple_add seq_tuple_add PySem.F.slot_tuple_add PySem.F.entry_tuple_add (PySem.F.args_tuple_add_2 _ _)
   (tuple_addW0 t b _ ws.toArray n n2 dd TF sl TH Zs) ⟨ho,DY,h1⟩
end
section
variable {X:Cx}{e o e1 e2:Expr}{te:TE}{pos p2 p3:Pos}
def Vh:V->Option Int->Option Int->Hp->VK->Prop:=λx lo hi H Q=>mR x λa=>∃xs,H a=some (.tup xs)/\∀p H',Same H H'->H' p=some (.tup (iB xs lo hi))->Q (.ref p) H'
def Yv:SlR X Vh:=by
 intro pins s σ H x v vl vu lo hi sl Q I rx hs pl pu h;unfold Vh at h;rw[dB]at h;obtain⟨a,rfl,xs,hx,q⟩:=h;by_cases hw:HT.sIx xs.length 0 lo=0/\HT.sIx xs.length xs.length hi=xs.length
 ·cases rx;obtain⟨its,r,ht,hz⟩:=I.tuple (QZd hx);have hlen:its.toArray.size=xs.length:=by rw[dR];exact r.length.symm
  refine⟨"tuple",_,PyProof.Rows.slot_tuple_getitem.lookup,ht.typeIs,?_⟩;refine kQ ht hs pl pu (by rw[hlen];exact hw) ⟨.ref a,H,I,rfl,q a H (Same.refl H) ?_⟩;rw[hx];unfold iB;rw[hw.1,hw.2,drop_zero,Nat.sub_zero,Mm (bZ _)]
 ·exact Tv pins s σ H (.ref a) v vl vu lo hi sl Q I rx hs pl pu ⟨a,xs,rfl,QZd hx,hw,λp hp=>q p _ (aF hp) aA⟩
def Je:R2:=λx y H Q=>mR x λa=>mR y λb=>∃xs ys,H a=some (.tup xs)/\H b=some (.tup ys)/\xs.length+ys.length<=1000/\∀p H',Same H H'->H' p=some (.tup (xs++ys))->Q (.ref p) H'
def Vi:OpR X (binaryOp .Add) Je:=by
 intro pins s σ H x y v u Q I rx ry h;unfold Je at h;rw[dB]at h;obtain⟨a,rfl,h⟩:=h;rw[dB]at h;obtain⟨b,rfl,xs,ys,ha,hb,hz,q⟩:=h;by_cases h0:xs=[]
 ·subst h0;cases rx;cases ry;obtain⟨its,r1,p1,_⟩:=I.tuple (QZd ha);obtain⟨i7,r2,p2,_⟩:=I.tuple (QZd hb);cases r1;exact Jd p1 p2 ⟨.ref b,H,I,rfl,q b H (Same.refl H) (by rw[hb];rfl)⟩
 ·exact No pins s σ H _ _ v u Q I rx ry ⟨a,b,xs,ys,rfl,rfl,QZd ha,QZd hb,h0,eS hz Zd,(λh1=>q a H (Same.refl H) (by rw[ha,h1,append_nil])),λ_ p hp=>q p _ (aF hp) aA⟩
end
def Tab(P:Params):List DictEntry->List (Str×Int)->Prop
 | [],[]=>True
 | e::r,(x,i)::q=>(∃t,e.key=.str x t)/\e.hash=PyData.keyHash P x/\(∃t,e.val=.int i t)/\Tab P r q
 | _,_=>False
def Tab.keys{P:Params}:∀ {es:List DictEntry}{ws:List (Str×Int)},Tab P es ws->W.KeysLit P es
 | [],[],_=>trivial
 | e::r,(x,i)::q,h=>⟨let ⟨t,ht⟩:=h.1;⟨x,t,ht,h.2.1⟩,Tab.keys h.2.2.2⟩
 | [],_::_,h=>h.elim
 | _::_,[],h=>h.elim
def Tab.find{P:Params}(z:Str):∀ {es:List DictEntry}{ws:List (Str×Int)},Tab P es ws->(match ws.lookup z with|some i=>∃t,(es.find? λe=>Value.isStrOf z e.key).map (·.val)=some (.int i t)|none=>(es.find? λe=>Value.isStrOf z e.key).map (·.val)=none)
 | [],[],_=>rfl
 | [],_::_,h=>h.elim
 | _::_,[],h=>h.elim
 | e::r,(x,i)::q,h=>by
  obtain⟨⟨t,ht⟩,h2,⟨t',hv⟩,h4⟩:=h;have ih:=Tab.find z h4;rw[lookup_cons,find?_cons];have e1:Value.isStrOf z e.key=(z==x):=by
   rw[ht];show(x==z)=(z==x);exact Bool.beq_comm
  rw[e1];cases hz:z==x with
  | true=>exact⟨t',by rw[<- hv];rfl⟩
  | false=>exact ih
structure KTab(K:W.Frag)(P:Params)(a:TD)(ws:List (Str×Int)):Prop where
 ex:∃es n,K.lookup a=some ⟨.type "dict",none,.dict (toArray es) n,#[]⟩/\Tab P es ws/\(a==sysModules)=false
def KTab.map{K:W.Frag}{prog:Program}{w:World}{a:TD}{ws:List (Str×Int)}{h:Heap}(T:KTab K w.params a ws)(X:K.In h) :
  ∃f:Str->Option S6,h.MapOf (strKind prog w) a f/\(a==sysModules)=false/\∀z,(match ws.lookup z with|some i=>∃t,f z=some (.int i t)|none=>f z=none):=by
 obtain⟨es,n,hl,ht,lo⟩:=T.ex;refine⟨_,W.mapOf_K (prog:=prog) X hl ht.keys,lo,λz=>?_⟩;have:=ht.find z;unfold findBy;rw[List.find?_toArray];exact this
section
variable {X:Cx}
def Vj(K:W.Frag)(P:Params)(neg:Bool):R2:=λx y H Q=>mS x λz=>mR y λa=>∃ws,KTab K P a ws/\Q (.bl (if neg then !(ws.lookup z).isSome else (ws.lookup z).isSome)) H
def Et{f:Option S6}{o:Option Int}(h:match o with|some i=>∃t,f=some (.int i t)|none=>f=none):f.isSome=o.isSome:=by
 cases o with
 | none=>rw[h];rfl
 | some i=>obtain⟨t,h⟩:=h;rw[h];rfl
def Jf:OpR X (compareOp .NotIn) (Vj X.K X.w.params true):=by
 intro pins s σ H x y v u Q I rx ry h;unfold Vj at h;rw[kU]at h;obtain⟨z,rfl,h⟩:=h;rw[dB]at h;obtain⟨a,rfl,ws,T,h⟩:=h;obtain⟨t,rfl⟩:=rx;cases ry;obtain⟨f,hm,lo,hf⟩:=T.map (prog:=X.prog) I.kIn;exact wpAny_notIn_of (strKind_is X.prog X.w z t) lo hm ⟨.bl (!(ws.lookup z).isSome),H,I.tok _,by rw[Et (hf z)];rfl,h⟩
def Vk(K:W.Frag)(P:Params):R2:=λx y H Q=>mR x λa=>mS y λz=>∃ws i,KTab K P a ws/\ws.lookup z=some i/\Q (.int i) H
def i_K:IxR X (Vk X.K X.w.params):=by
 intro value slice pins s σ H x y v u Q I rx ry h hs;unfold Vk at h;rw[dB]at h;obtain⟨a,rfl,h⟩:=h;rw[kU]at h;obtain⟨z,rfl,ws,i,T,hi,h⟩:=h;obtain⟨t,rfl⟩:=ry;cases rx;obtain⟨f,hm,lo,hf⟩:=T.map (prog:=X.prog) I.kIn;have hz:=hf z;rw[hi]at hz;obtain⟨t',hz⟩:=hz;exact tail_any hm.typeIs slot_dict_getitem.lookup (wpAny_getItem_of (strKind_is X.prog X.w z t) hm hz ⟨.int i,H,I.tok _,⟨t',rfl⟩,h⟩) hs
end
structure XPs(X:Cx)(pos:Pos)(keys:List (Option Expr))(values:List Expr)(trs:List (TE×TE)):Prop where
 h:Xr X pos keys values trs
namespace R
section
variable {X:Cx}{K:W.Frag}{P:Params}{e e1 k v o f:Expr}{te t1 tk tv td ty tx':TE}{pos p2 apos cpos:Pos}{ks:List (Option Expr)}{vs:List Expr}{trs:List (TE×TE)}
def sT:Yt X Vh:=⟨Yv⟩
def dz:iF X (binaryOp .Add) Je:=⟨Vi⟩
def iw(hK:X.K=K:=by rfl)(hP:X.w.params=P:=by rfl):iF X (compareOp .NotIn) (Vj K P true):=hK▸hP▸⟨Jf⟩
def iy(hK:X.K=K:=by rfl)(hP:X.w.params=P:=by rfl):Ve X (Vk K P):=hK▸hP▸⟨i_K⟩
def fm(hK:X.K=K:=by rfl):XC X (.type "list") (λvs H Q=>match vs with | [.ref p]=>∃ys,(SqL K H p ys∨SqT K H p ys)/\∀l,H l=none->Q (.ref l) (aH H l (.lst ys)) | _=>False):=hK ▸ ⟨vC.imp λvs H Q h=>by
 split at h
 ·rename_i p;obtain⟨ys,hq,h⟩:=h;exact⟨p,ys,rfl,hq,h⟩
 ·exact h.elim⟩
def im(hK:X.K=K:=by rfl):XC X (.type "tuple") (λvs H Q=>match vs with | [.ref p]=>∃ys,SqL K H p ys/\∀l,H l=none->Q (.ref l) (aH H l (.tup ys)) | _=>False):=hK ▸ ⟨rO.imp λvs H Q h=>by
 split at h
 ·rename_i p;obtain⟨ys,hq,h⟩:=h;exact⟨p,ys,rfl,.inl ⟨hq,h⟩⟩
 ·exact h.elim⟩
def jj:XPs X pos [] [] []:=⟨Nu⟩
def di(hk:XE X k tk)(hv:XE X v tv)(hr:XPs X pos ks vs trs):XPs X pos (some k::ks) (v::vs) ((tk,tv)::trs):=⟨Hy hk.h hv.h hr.h⟩
def ji(h:XPs X pos ks vs trs)(su:ks.all (·.isSome)=true:=by rfl)(hl:ks.length=vs.length:=by rfl)(h0:ks≠[]:=by simp)(VR:ks.length<=15:=by decide):XE X (.Dict ks vs pos) (Re trs):=⟨Nv h.h su hl h0 VR⟩
def cv(hu:X.A.units+1<cLine)(ho:XE X o td)(he:XE X e ty)(hf:XE X f tx')(h1:attributeBase o "get" X.env (eval o X.env)=eval o X.env:=by rfl)(h3:(apos.endLine == cpos.line)=true:=by rfl)(h2:((backTo cpos (starEach [e,f] X.env)).all (λx=>!x.1)&&(backToKw cpos (keywordEach [] X.env)).all (λx=>x.1.isSome)
  && decide (([e,f]:List Expr).length+([]:List Keyword).length+(if ([]:List Keyword).isEmpty then 0 else 1)<30))=true:=by rfl)(h4:backTo cpos (starEach [e,f] X.env)=[(false,eval e X.env),(false,eval f X.env)]:=by rfl):XE X (.Call (.Attribute o "get" apos) [e,f] [] cpos) (Hz td ty tx'):=⟨Ib hu ho.h he.h hf.h ⟨h1,h2,h3,h4⟩⟩
end
end R
def WS:List (Str×Int):=[("add",1),("take",1),("move",2),("send",2),("fetch",2),("pass",3)]
def UW:List V:=[.str "move",.str "pass"]
def tK(x:V):Bool:=eJ x LET 8
def xM(lo hi:Int)(x:V):Bool:=match x with|.int n=>decide (lo<=n)&&decide (n<=hi)|_=>false
def fG(x:V)(ns:List V):Bool:=match x with
 | .str z=>(match WS.lookup z with
  | some i=>decide ((ns.length:Int)=i)&&ns.all tK&&(!lO (.str z) UW||!decide (nV ns 0=nV ns 1))
  | none=>false)
 | _=>false
def vJ(xs:List V):List V:=iB xs (some 1) (some (-1))
def kX(xs:List V):Bool:=decide (3<=xs.length)&&fG ((nV xs 0).getD .non) (vJ xs)&&xM 1 1000000000000 ((nV xs (-1)).getD .non)
def Pt(H:Hp)(x:V):Prop:=∃k,Kof H x k/\∀z,x=.str z->z.length<=1000
def Pt.same{H H':Hp}{x:V}(s:Same H H')(h:Pt H x):Pt H' x:=let ⟨k,h1,h2⟩:=h;⟨k,h1.same s,h2⟩
def qO(H:Hp)(x:V):Bool:=match x with|.ref a=>(match H a with|some (.tup xs)=>kX xs|_=>false)|_=>false
def Th(H:Hp)(x:V):Prop:=Pt H x/\∀a xs,x=.ref a->H a=some (.tup xs)->∀y∈xs,Pt H y
def Bv:Sp:=λvs H Q _=>∃x lo hi,vs=[x,.int lo,.int hi]/\Pt H x/\∀H',Same H H'->Q (.bl (xM lo hi x)) H'
def Jg:Sp:=λvs H Q _=>∃x a ns,vs=[x,.ref a]/\Pt H x/\H a=some (.tup ns)/\ns.length<=1000/\(∀y∈ns,Pt H y)/\∀H',Same H H'->Q (.bl (fG x ns)) H'
def xN:Sp:=λvs H Q _=>∃x,vs=[x]/\Th H x/\(∀a xs,x=.ref a->H a=some (.tup xs)->xs.length<=1000)/\∀H',Same H H'->Q (.bl (qO H x)) H'
def Yw{z:Str}{i:Int}(h:WS.lookup z=some i)(u:lO (.str z) UW=true):2<=i:=by
 have e:z="move"∨z="pass":=by
  unfold lO UW at u;simp only [any_cons,List.any_nil,Bool.or_false,Bool.or_eq_true,Ef,beq_iff_eq,decide_eq_true_iff]at u;rcases u with u|u
  ·exact .inl u.symm
  ·exact .inr u.symm
 rcases e with rfl|rfl
 ·have:WS.lookup ("move":Str)=some 2:=by decide +kernel
  rw[this]at h;injection h with h;omega
 ·have:WS.lookup ("pass":Str)=some 3:=by decide +kernel
  rw[this]at h;injection h with h;omega
def Bw{xs:List V}(h:3<=xs.length):vJ xs=(xs.drop 1).take (xs.length-2):=by
 unfold vJ iB HT.sIx;simp only [Int.reduceNeg,Int.reduceLT,if_true,if_false];have e1:min (Int.toNat 1) xs.length=1:=by
  show min 1 xs.length=1;omega
 have e2:((-1:Int)+(xs.length:Int)).toNat=xs.length-1:=by omega
 rw[e2];show((xs.drop (min (Int.toNat 1) xs.length)).take (xs.length-1-min (Int.toNat 1) xs.length))=_;rw[e1];congr 1
def Ow{xs:List V}(h:3<=xs.length):(vJ xs).length=xs.length-2:=by
 rw[Bw h,mV,length_drop];omega
def Ox{xs:List V}{y:V}(h:3<=xs.length)(m:y∈vJ xs):y∈xs:=by
 rw[Bw h]at m;exact List.mem_of_mem_drop (mem_of_mem_take m)
def Yx:R2:=λx y H Q=>mR x λl=>mR y λb=>∃xs zs,H l=some (.lst xs)/\H b=some (.lst zs)/\xs.length+zs.length<=sizeLine/\∀p,H p=none->Q (.ref p) (aH H p (.lst (xs++zs)))
def R.cx{X:Cx}:iF X (binaryOp .Add) Yx:=⟨Ua.imp λx y H Q h=>by
 unfold Yx at h;rw[dB]at h;obtain⟨a,rfl,h⟩:=h;rw[dB]at h;obtain⟨b,rfl,xs,zs,h⟩:=h;exact⟨a,b,xs,zs,rfl,rfl,h⟩⟩
inductive DeedIs:List V->Prop
 | one (z a:Str) (n:Int):(z="add"∨z="take")->isNm a->1<=n->n<=1000000000000->DeedIs [.str z,.str a,.int n]
 | two (z a b:Str) (n:Int):(z="move"∨z="send"∨z="fetch")->isNm a->isNm b->a≠b->1<=n->n<=1000000000000->DeedIs [.str z,.str a,.str b,.int n]
 | three (a b c:Str) (n:Int):isNm a->isNm b->isNm c->a≠b->1<=n->n<=1000000000000->DeedIs [.str "pass",.str a,.str b,.str c,.int n]
def gO{z:Str}(h:isNm z):tK (.str z)=true:=by
 unfold tK;rw[gN,UV (by have:=h.1;omega),UV (by have:=h.2.1;omega),all_eq_true.mpr λc hc=>UV (h.2.2 c hc)];rfl
def DeedIs.ok{xs:List V}(h:DeedIs xs):kX xs=true:=by
 cases h with
 | one z a n hz ha h1 h2=>
  show(fG (.str z) [.str a]&&xM 1 1000000000000 (.int n))=true;have e:fG (.str z) [.str a]=true:=by
   rcases hz with rfl|rfl
   ·show(true&&(tK (.str a)&&true)&&_)=true;rw[gO ha];rfl
   ·show(true&&(tK (.str a)&&true)&&_)=true;rw[gO ha];rfl
  rw[e];show(decide (1<=n)&&decide (n<=1000000000000))=true;rw[UV h1,UV h2];rfl
 | two z a b n hz ha hb hn h1 h2=>
  show(fG (.str z) [.str a,.str b]&&xM 1 1000000000000 (.int n))=true;have ne:decide (some (V.str a)=some (V.str b))=false:=UF λe=>hn (by injection e with e;injection e)
  have e:fG (.str z) [.str a,.str b]=true:=by
   rcases hz with rfl|rfl|rfl
   all_goals
    show(true&&(tK (.str a)&&(tK (.str b)&&true))&&(_||!decide (some (V.str a)=some (V.str b))))=true;rw[gO ha,gO hb,ne,Bool.not_false,Bool.or_true];rfl
  rw[e];show(decide (1<=n)&&decide (n<=1000000000000))=true;rw[UV h1,UV h2];rfl
 | three a b c n ha hb hc hn h1 h2=>
  show(fG (.str "pass") [.str a,.str b,.str c]&&xM 1 1000000000000 (.int n))=true;have ne:decide (some (V.str a)=some (V.str b))=false:=UF λe=>hn (by injection e with e;injection e)
  have e:fG (.str "pass") [.str a,.str b,.str c]=true:=by
   show(true&&(tK (.str a)&&(tK (.str b)&&(tK (.str c)&&true)))&&(_||!decide (some (V.str a)=some (V.str b))))=true;rw[gO ha,gO hb,gO hc,ne,Bool.not_false,Bool.or_true];rfl
  rw[e];show(decide (1<=n)&&decide (n<=1000000000000))=true;rw[UV h1,UV h2];rfl
def isNm.len{z:Str}(h:isNm z):z.length<=1000:=eS h.2.1 Zd
def Jh:("add":Str).length<=1000/\("take":Str).length<=1000/\("move":Str).length<=1000/\("send":Str).length<=1000/\("fetch":Str).length<=1000/\("pass":Str).length<=1000:=by decide +kernel
inductive TV where
 | sc (v:V)
 | tp (xs:List TV)
 | ls (xs:List TV)
def qP:V->Bool|.non=>true|.bl _=>true|.int _=>true|.str _=>true|_=>false
def Ji(H:Hp):Nat->TV->V->Prop
 | 0,.sc v,x=>x=v/\qP v=true
 | _+1,.sc v,x=>x=v/\qP v=true
 | n+1,.tp ts,x=>∃a xs,x=.ref a/\H a=some (.tup xs)/\Paired (Ji H n) ts xs
 | n+1,.ls ts,x=>∃a xs,x=.ref a/\H a=some (.lst xs)/\Paired (Ji H n) ts xs
 | 0,_,_=>False
def Paired.map'{α β:Type}{R S:α->β->Prop}(f:∀a b,R a b->S a b){xs:List α}{ys:List β}(h:Paired R xs ys):Paired S xs ys:=by
 induction h with
 | nil=>exact .nil
 | cons h t ih=>exact .cons (f _ _ h) ih
def Paired.get'{α β:Type}{R:α->β->Prop}:∀ {xs:List α}{ys:List β}{j:Nat},Paired R xs ys->∀(h:j<ys.length),∃h':j<xs.length,R xs[j] ys[j]
 | _,_,0,.cons h t,_=>⟨Nat.succ_pos _,h⟩
 | _,_,j+1,.cons h t,hj=>let ⟨h',r⟩:=Paired.get' (j:=j) t (by simpa using hj);⟨by simpa using h',by simpa using r⟩
section
variable {X:Cx}{pins:Z5}{s:PP}{σ:St}{H:Hp}
def Oy(B:Around):B.in1.units=B.units+1:=rfl
def jR(n:Nat):(List.range n).all (λ_=>true)=true:=all_eq_true.mpr λ_ _=>rfl
def Jj(I:Inv X pins σ H s):∀(n:Nat){t:TV}{x y:V}{v u:S6}{A:Around},Ji H n t x->Ji H n t y->RelV x v->RelV y u->A.units+n<cLine->SeqAt.EqAt A s v u true:=by
 have sc:∀ {v:V}{x y:V}{v1 u1:S6}{A:Around},(x=v/\qP v=true)->(y=v/\qP v=true)->RelV x v1->RelV y u1->SeqAt.EqAt A s v1 u1 true:=by
  rintro v x y v1 u1 A ⟨rfl,hx⟩ ⟨rfl,_⟩ r1 r2
  cases y with
  | non=>cases r1;cases r2;exact SeqAt.EqAt.same _
  | bl i=>cases r1;cases r2;exact SeqAt.EqAt.same _
  | int i=>
   obtain⟨t1,rfl⟩:=r1;obtain⟨t2,rfl⟩:=r2;have:=SeqAt.EqAt.int_int (A:=A) (s:=s) i t1 i t2
   rwa [beq_self_eq_true]at this
  | str i=>
   obtain⟨t1,rfl⟩:=r1;obtain⟨t2,rfl⟩:=r2;have:=SeqAt.EqAt.str_str (A:=A) (s:=s) i t1 i t2
   rwa [beq_self_eq_true]at this
  | _=>cases hx
 intro n;induction n with
 | zero=>
  intro t x y v u A h1 h2 r1 r2 hu;cases t with
  | sc z=>exact sc h1 h2 r1 r2
  | _=>exact h1.elim
 | succ n ih=>
  intro t x y v u A h1 h2 r1 r2 hu;cases t with
  | sc z=>exact sc h1 h2 r1 r2
  | tp ts=>
   obtain⟨a,xs,rfl,g1,p1⟩:=h1;obtain⟨b,ys,rfl,g2,p2⟩:=h2;cases r1;cases r2;by_cases KJ:a=b
   ·subst KJ;exact SeqAt.EqAt.same _
   ·obtain⟨its,ri,ti,_⟩:=I.tuple (QZd g1);obtain⟨i7,CJ,DZ,_⟩:=I.tuple (QZd g2);have GZ:its.length=ts.length:=by rw[<- ri.length,p1.length]
    have EA:i7.length=ts.length:=by rw[<- CJ.length,p2.length]
    have key:=SeqAt.RcAt.tuples (A:=A) (s:=s) (e:=λ_=>true) ti DZ Zo (λj h1 h2=>by
     rw[dR]at h1 h2;obtain⟨Z8,q1⟩:=Paired.get' (j:=j) ri h1;obtain⟨sq,q2⟩:=Paired.get' (j:=j) CJ h2;obtain⟨h3,q3⟩:=Paired.get' (j:=j) p1 Z8;obtain⟨h4,q4⟩:=Paired.get' (j:=j) p2 sq;simpa using ih q3 q4 q1 q2 (by rw[Oy];omega))
    have e:((List.range (min its.toArray.size i7.toArray.size)).all (λ_=>true)&&its.toArray.size==i7.toArray.size)=true:=by
     rw[jR,dR,dR,GZ,EA,beq_self_eq_true];rfl
    rw[e]at key;exact SeqAt.EqAt.of_refs KJ key
  | ls ts=>
   obtain⟨a,xs,rfl,g1,p1⟩:=h1;obtain⟨b,ys,rfl,g2,p2⟩:=h2;cases r1;cases r2;by_cases KJ:a=b
   ·subst KJ;exact SeqAt.EqAt.same _
   ·obtain⟨its,ri,ti,_⟩:=I.list (QZc g1);obtain⟨i7,CJ,DZ,_⟩:=I.list (QZc g2);have GZ:its.length=ts.length:=by rw[<- ri.length,p1.length]
    have EA:i7.length=ts.length:=by rw[<- CJ.length,p2.length]
    have key:=SeqAt.RcAt.lists (A:=A) (s:=s) (e:=λ_=>true) ti.isList DZ.isList (by rw[dR,dR,GZ,EA]) Zo (λj h1 h2=>by
     rw[dR]at h1 h2;obtain⟨Z8,q1⟩:=Paired.get' (j:=j) ri h1;obtain⟨sq,q2⟩:=Paired.get' (j:=j) CJ h2;obtain⟨h3,q3⟩:=Paired.get' (j:=j) p1 Z8;obtain⟨h4,q4⟩:=Paired.get' (j:=j) p2 sq;simpa using ih q3 q4 q1 q2 (by rw[Oy];omega))
    rw[jR]at key;exact SeqAt.EqAt.of_refs KJ key
end
section
variable {X:Cx}
def Vl(neg:Bool):R2:=λx y H Q=>∃n t,n<=50/\Ji H n t x/\Ji H n t y/\Q (.bl (!neg)) H
def Bx(neg:Bool){pins:Z5}{s:PP}{σ:St}{H:Hp}{x y:V}{v u:S6}{Q:VK}{op:CmpOp}(HN:op=if neg then .NotEq else .Eq)(hu:X.A.units+64<cLine)(I:Inv X pins σ H s)(rx:RelV x v)(ry:RelV y u)(h:Vl neg x y H Q) :
  wpAny (model X.prog X.w) X.A (compareOp op v u) (EP X pins σ Q) X.xe s:=by
 obtain⟨n,t,hn,h1,h2,q⟩:=h;have sc:∀z,t=.sc z->wpAny (model X.prog X.w) X.A (compareOp op v u) (EP X pins σ Q) X.xe s:=by
  rintro z rfl;have e1:x=z/\qP z=true:=by cases n<;>exact h1
  have e2:y=z/\qP z=true:=by cases n<;>exact h2
  obtain⟨rfl,hx⟩:=e1;obtain⟨rfl,_⟩:=e2;have hs:L2.scal y y=true:=by cases y<;>first|rfl|cases hx
  cases neg with
  | true=>
   subst HN;exact Qw pins s σ H y y v u Q I rx ry ⟨hs,by simpa using q⟩
  | false=>
   subst HN;exact Qv pins s σ H y y v u Q I rx ry ⟨hs,by simpa using q⟩
 cases n with
 | zero=>
  cases t with
  | sc z=>exact sc z rfl
  | _=>exact h1.elim
 | succ n=>
  cases t with
  | sc z=>exact sc z rfl
  | tp ts=>
   obtain⟨a,xs,rfl,g1,p1⟩:=h1;obtain⟨b,ys,rfl,g2,p2⟩:=h2;cases rx;cases ry;obtain⟨its,ri,ti,_⟩:=I.tuple (QZd g1);obtain⟨i7,CJ,DZ,_⟩:=I.tuple (QZd g2);have GZ:its.length=ts.length:=by rw[<- ri.length,p1.length]
   have EA:i7.length=ts.length:=by rw[<- CJ.length,p2.length]
   have each:∀j (h1:j<its.toArray.size) (h2:j<i7.toArray.size),SeqAt.EqAt X.A.in1 s its.toArray[j] i7.toArray[j] true:=λj h1 h2=>by
    rw[dR]at h1 h2;obtain⟨Z8,q1⟩:=Paired.get' (j:=j) ri h1;obtain⟨sq,q2⟩:=Paired.get' (j:=j) CJ h2;obtain⟨h3,q3⟩:=Paired.get' (j:=j) p1 Z8;obtain⟨h4,q4⟩:=Paired.get' (j:=j) p2 sq;simpa using Jj I n q3 q4 q1 q2 (by rw[Oy];omega)
   have e:((List.range (min its.toArray.size i7.toArray.size)).all (λ_=>true)&&its.toArray.size==i7.toArray.size)=true:=by
    rw[jR,dR,dR,GZ,EA,beq_self_eq_true];rfl
   cases neg with
   | true=>
    subst HN;have key:=SeqAt.RcNeAt.tuples (A:=X.A) (s:=s) (e:=λ_=>true) ti DZ Zo each;rw[e]at key;exact key _ _ _ _ ⟨.bl false,H,I,rfl,q⟩
   | false=>
    subst HN;have key:=SeqAt.RcAt.tuples (A:=X.A) (s:=s) (e:=λ_=>true) ti DZ Zo each;rw[e]at key;exact key _ _ _ _ ⟨.bl true,H,I,rfl,q⟩
  | ls ts=>
   obtain⟨a,xs,rfl,g1,p1⟩:=h1;obtain⟨b,ys,rfl,g2,p2⟩:=h2;cases rx;cases ry;obtain⟨its,ri,ti,_⟩:=I.list (QZc g1);obtain⟨i7,CJ,DZ,_⟩:=I.list (QZc g2);have GZ:its.length=ts.length:=by rw[<- ri.length,p1.length]
   have EA:i7.length=ts.length:=by rw[<- CJ.length,p2.length]
   have each:∀j (h1:j<its.toArray.size) (h2:j<i7.toArray.size),SeqAt.EqAt X.A.in1 s its.toArray[j] i7.toArray[j] true:=λj h1 h2=>by
    rw[dR]at h1 h2;obtain⟨Z8,q1⟩:=Paired.get' (j:=j) ri h1;obtain⟨sq,q2⟩:=Paired.get' (j:=j) CJ h2;obtain⟨h3,q3⟩:=Paired.get' (j:=j) p1 Z8;obtain⟨h4,q4⟩:=Paired.get' (j:=j) p2 sq;simpa using Jj I n q3 q4 q1 q2 (by rw[Oy];omega)
   cases neg with
   | true=>
    subst HN;have key:=SeqAt.RcNeAt.lists (A:=X.A) (s:=s) (e:=λ_=>true) ti.isList DZ.isList (by rw[dR,dR,GZ,EA]) Zo each;rw[jR]at key;exact key _ _ _ _ ⟨.bl false,H,I,rfl,q⟩
   | false=>
    subst HN;have key:=SeqAt.RcAt.lists (A:=X.A) (s:=s) (e:=λ_=>true) ti.isList DZ.isList (by rw[dR,dR,GZ,EA]) Zo each;rw[jR]at key;exact key _ _ _ _ ⟨.bl true,H,I,rfl,q⟩
def R.fq(hu:X.A.units+64<cLine):iF X (compareOp .Eq) (Vl false):=⟨λpins s σ H x y v u Q I rx ry h=>Bx false rfl hu I rx ry h⟩
def R.cr(hu:X.A.units+64<cLine):iF X (compareOp .NotEq) (Vl true):=⟨λpins s σ H x y v u Q I rx ry h=>Bx true rfl hu I rx ry h⟩
def R.be{st:Stmt}:XS X st (λ_ _ _=>False):=⟨λpins s σ H D I h=>h.elim⟩
end
end L2
namespace L2
open PySem PySem.Spec PyProof.Rows PySem.Builtin PySem.Builtin.Str
def By:∀l:List (Str×Tok),Vals ((l.map (·.1)).map V.str) (strValues l)
 | []=>.nil
 | p::l=>.cons ⟨p.2,rfl⟩ (By l)
section
variable {X:Cx}
def Aa:V->List V->Hp->VK->Prop:=λx vs H Q=>mS x λz=>match vs with
 | [.str y]=>(y.length==0)=false/\z.length<=1000/\∀l,H l=none->Q (.ref l) (aH H l (.lst ((Txt.split z y).map V.str)))
 | _=>False
def Jk:Tw X "str.split" Aa:=by
 intro pins s σ H x vs v us Q I rx rv h;unfold Aa at h;rw[kU]at h;obtain⟨z,rfl,h⟩:=h;split at h
 ·rename_i y;obtain⟨hy,hz,q⟩:=h;obtain⟨t,rfl⟩:=rx;obtain⟨uu,rfl,u,rfl⟩:=rv.one;have fin:∀(l:List (Str×Tok))(k:Nat),l.map (·.1)=Txt.split z y->EP X pins σ Q (.ref s.heap.objs.size) {s with heap:=s.heap.push {cls:=.type "list",data:=.seq (strValues l).toArray },toks:=k }:=λl k e=>by
   refine⟨.ref s.heap.objs.size,_,I.laid (t':=k) (o:=.lst ((Txt.split z y).map V.str)) (λb ob q=>gU _ q) (bZ _) ?_,rfl,q _ (I.hok.fresh (bZ _))⟩;refine⟨?_,strValues l,0,by rw[<- e];exact By l,TW _ rfl⟩;rw[bP];have:=split_le z y;exact eS this (eS (show z.length+2<=1002 by omega) Zd)
  have hsz:z.length<=sizeLine:=lH hz;have WG:(partsBetween z (occurrences z y 0 z.length (z.length+1)) y.length).length<=sizeLine:=by
   rw[length_partsBetween];have:=StrLaws.occ_length_le z y 0 z.length (z.length+1);exact eS (show _<=1002 by omega) Zd
  cases h1:(decide (z.length<y.length)||decide (strKind z<strKind y))
  ·cases hf:(occurrences z y 0 z.length (z.length+1)).isEmpty
   ·refine call_meets F.slot_str_split (typeIs_str _ _ _) F.entry_str_split (F.args_str_split_2 _ _) (meets_str_split_sep z y t u h1 hy hf hsz WG) ?_;show wants (EP X pins σ Q) X.xe _ {s with toks:=_,heap:=s.heap.push {cls:=.type "list",data:=.seq (strsFrom s.toks (partsBetween z (occurrences z y 0 z.length (z.length+1)) y.length)).toArray } };rw[strsFrom_eq];exact fin (numbered s.toks _) _ ((numbered_texts _ _).trans ((IS (ne_true_of_eq_false h1)).trans (IS (ne_true_of_eq_false hf))).symm)
   ·exact call_meets F.slot_str_split (typeIs_str _ _ _) F.entry_str_split (F.args_str_split_2 _ _) (meets_str_split_not_found z y t u h1 hy hf)
     (fin [(z,t)] s.toks ((IS (ne_true_of_eq_false h1)).trans (NE hf)).symm)
  ·exact call_meets F.slot_str_split (typeIs_str _ _ _) F.entry_str_split (F.args_str_split_2 _ _) (meets_str_split_cannot_occur z y t u h1)
    (fin [(z,t)] s.toks (NE h1).symm)
 ·exact h.elim
def R.ft:XM X "str.split" Aa:=⟨Jk⟩
end
open PySem PySem.Spec PyProof.Rows
def Vm(a b:Str):ltCps b.cps.toList a.cps.toList=false↔a.cps.toList<=b.cps.toList:=by
 rw[ltCps_eq,decide_eq_false_iff_not];exact Iff.rfl
def Jl{a b:Str}(h:a.cps.toList=b.cps.toList):a=b:=by rw[Jb a,Jb b,h]
def iH:∀(l:List Str)(p:Str),risingS p l=true->(p::l).Pairwise (λa b=>a.cps.toList<=b.cps.toList)
 | [],p,_=>List.pairwise_singleton _ _
 | x::r,p,h=>by
  unfold risingS at h;rw[Bool.and_eq_true]at h;obtain⟨h1,h2⟩:=h;have ih:=iH r x h2;have NC:p.cps.toList<=x.cps.toList:=(Vm p x).mp (by simpa using h1);refine pairwise_cons.mpr ⟨λy hy=>?_,ih⟩;rcases mem_cons.mp hy with rfl|hy
  ·exact NC
  ·exact le_trans NC ((pairwise_cons.mp ih).1 y hy)
def oB:∀(l:List Str),sortedS l=true->l.Pairwise (λa b=>a.cps.toList<=b.cps.toList)
 | [],_=>List.Pairwise.nil
 | x::r,h=>iH r x h
def gW:∀(l m:List Str),l.Perm m->l.Pairwise (λa b=>a.cps.toList<=b.cps.toList)->m.Pairwise (λa b=>a.cps.toList<=b.cps.toList)->l=m
 | [],m,hp,_,_=>(nil_perm.mp hp).symm
 | a::l,[],hp,_,_=>(perm_nil.mp hp)
 | a::l,b::m,hp,h1,h2=>by
  obtain⟨p1,p2⟩:=pairwise_cons.mp h1;obtain⟨q1,q2⟩:=pairwise_cons.mp h2;have e:a=b:=by
   have ma:a∈b::m:=hp.mem_iff.mp mZ;have mb:b∈a::l:=hp.mem_iff.mpr mZ;rcases mem_cons.mp ma with h|h
   ·exact h
   ·rcases mem_cons.mp mb with h'|h'
    ·exact h'.symm
    ·exact Jl (List.le_antisymm (p1 b h') (q1 a h))
  subst e;rw[gW l m (List.Perm.cons_inv hp) p2 q2]
def mY(ss:List Str):List Str:=ss.mergeSort (λa b=>decide (a.cps.toList<=b.cps.toList))
def dC(ss:List Str):(mY ss).Perm ss:=List.mergeSort_perm _ _
def iP(ss:List Str):(mY ss).Pairwise (λa b=>a.cps.toList<=b.cps.toList):=by
 have:=List.pairwise_mergeSort (le:=λ(a b:Str)=>decide (a.cps.toList<=b.cps.toList)) (λa b c h1 h2=>UV (le_trans (WF h1) (WF h2))) (λa b=>by
  rcases List.le_total a.cps.toList b.cps.toList with h|h
  ·simp[h]
  ·simp [h]) ss
 exact this.imp λh=>WF h
def Jm{ss OM:List Str}(hp:OM.Perm ss)(hs:sortedS OM=true):OM=mY ss:=
 gW _ _ (hp.trans (dC ss).symm) (oB _ hs) (iP ss)
def lY(ss:List Str):(mY ss).length=ss.length:=(dC ss).length_eq
section
variable {prog:Program}{w:World}{A:Around}{E:ZB}{s:PP}
def qQ{l:TD}{T:String}{o:Obj}{vs:List S6}{ss:List Str}{n:Nat}{Q:ZB}(hT:T="list"∨T="tuple")(ho:s.heap.get? l=some o)(hc:o.cls=.type T)(hd:o.data=.seq vs.toArray n)(hS:StrsAre vs ss)(Z6:vs.length<64)(h:∀(h1 h':Heap)(out:Array Value)(e:Nat),(∀b ob,s.heap.get? b=some ob->h1.get? b=some ob)->(∀b ob,h1.get? b=some ob->h'.get? b=some ob)->h'.get? h1.objs.size=some (seqObj "list" out e)->StrsAre out.toList (mY ss)->Q (.ref h1.objs.size) {s with heap:=h' }) :
  wpAny (model prog w) A (call (.builtin "sorted") [.ref l]) Q E s:=by
 apply Calls.call_function_entry kind_sorted plain_sorted entry_sorted (args_sorted1 _);unfold Builtin.«sorted»;apply XV (m:=checkCount "sorted" 1 1 _);apply W1;apply XV;refine wpAny_collect_seq l hT ho hc hd (λh1 k1=>?_) (by rw[dR];exact eS (le_of_lt Z6) Zd);have e1:vs.toArray.toList=vs:=by simp
 rw[e1];apply XV;apply wpAny_newList
 ·have g2:(h1.push (seqObj "list" vs.toArray 0)).get? h1.objs.size=some (seqObj "list" vs.toArray 0):=TW _ rfl;apply XV;apply wpAny_holding;refine wpAny_call_entry slot_list_sort ⟨_,g2,rfl⟩ entry_list_sort (list_sort_treeK strKind_oneLt g2 hS.keysOf (λv₁ v₂ rest e=>keyKind_strs (by rw[<- e];exact hS)) Z6 λni hp hs=>⟨_,rfl,W1 ⟨_,rfl,?_⟩⟩) (args_list_sort _);obtain⟨OM,q1,q2,q3⟩:=sorted_out_str hS hp hs;obtain⟨e,he⟩:=sortedHeap_at (out:=(arrOf ni).map (·.2)) g2;refine h h1 _ _ e k1 (λb ob EM=>?_) he (Jm q2 q3▸q1);have r9:=Heap.lt_size EM;rw[sortedHeap_old (ne_of_lt r9) (by rw[size_push'];exact lt_succ_of_lt r9)];exact gU _ EM
 ·exact eS (le_of_lt Z6) Zd
end
def oC:∀ {vs:List S6}{ss:List Str},StrsAre vs ss->Vals (ss.map V.str) vs
 | _,_,.nil=>.nil
 | _,_,.cons x t h=>.cons ⟨t,rfl⟩ (oC h)
section
variable {X:Cx}
def vK(K:W.Frag):List V->Hp->VK->Prop:=λvs H Q=>match vs with
 | [.ref a]=>∃ss:List Str,(SqL K H a (ss.map V.str)∨SqT K H a (ss.map V.str))/\ss.length<64/\∀l,H l=none->Q (.ref l) (aH H l (.lst ((mY ss).map V.str)))
 | _=>False
def Jn:CallR X (.builtin "sorted") (vK X.K):=by
 intro pins s σ H xs us Q I r h;unfold vK at h;split at h
 ·rename_i a;obtain⟨ss,hq,Z6,q⟩:=h;obtain⟨u,rfl,ru⟩:=gL r;cases ru;have fin:∀(h1 h':Heap)(out:Array Value)(e:Nat),(∀c ob,s.heap.get? c=some ob->h1.get? c=some ob)->(∀c ob,h1.get? c=some ob->h'.get? c=some ob)->h'.get? h1.objs.size=some (seqObj "list" out e)->StrsAre out.toList (mY ss)->EP X pins σ Q (.ref h1.objs.size) {s with heap:=h' }:=λh1 h' out e k1 k he hS=>by
   have I1:=I.kept (t':=s.toks) k1;refine⟨.ref h1.objs.size,_,I1.laid (t':=s.toks) (o:=.lst ((mY ss).map V.str)) k (bZ _) ?_,rfl,q _ (I1.hok.fresh (bZ _))⟩;refine⟨?_,out.toList,e,oC hS,he⟩;rw[bP,lY];exact eS (le_of_lt Z6) Zd
  rcases hq with hq|hq
  ·obtain⟨its,r1,p1,_⟩:=I.list hq;obtain⟨o,ho,hc,n,hd⟩:=p1.isList;have hl:=r1.length;rw[bP]at hl;exact qQ (.inl rfl) ho hc hd (lG r1) Zo fin
  ·obtain⟨its,r1,p1,_⟩:=I.tuple hq;obtain⟨o,ho,hc,n,hd⟩:=p1;have hl:=r1.length;rw[bP]at hl;exact qQ (.inr rfl) ho hc hd (lG r1) Zo fin
 ·exact h.elim
def R.fu{K:W.Frag}(hK:X.K=K:=by rfl):XC X (.builtin "sorted") (vK K):=hK▸⟨Jn⟩
end
def TK(H H':Hp):Prop:=∀a xs,H a=some (.tup xs)->H' a=some (.tup xs)
def TK.trans{H H1 H2:Hp}(a:TK H H1)(b:TK H1 H2):TK H H2:=λp xs h=>b p xs (a p xs h)
def RepT(H:Hp):Nat->TV->V->Prop
 | 0,.sc v,x=>x=v/\qP v=true
 | _+1,.sc v,x=>x=v/\qP v=true
 | n+1,.tp ts,x=>∃a xs,x=.ref a/\H a=some (.tup xs)/\Paired (RepT H n) ts xs
 | _,_,_=>False
def RepT.tk{H H':Hp}(s:TK H H'):∀ {n:Nat}{t:TV}{x:V},RepT H n t x->RepT H' n t x
 | 0,.sc v,x,h=>h
 | n+1,.sc v,x,h=>h
 | n+1,.tp ts,x,⟨a,xs,e,g,p⟩=>⟨a,xs,e,s _ _ g,Paired.map' (λ_ _=>RepT.tk s) p⟩
def RepT.rep{H:Hp}:∀ {n:Nat}{t:TV}{x:V},RepT H n t x->Ji H n t x
 | 0,.sc v,x,h=>h
 | n+1,.sc v,x,h=>h
 | n+1,.tp ts,x,⟨a,xs,e,g,p⟩=>⟨a,xs,e,g,Paired.map' (λ_ _=>RepT.rep) p⟩
def RepT.scal{H:Hp}{n:Nat}{v:V}(h:qP v=true):RepT H n (.sc v) v:=by
 cases n<;>exact⟨rfl,h⟩
def RepT.s{H:Hp}{n:Nat}{z:Str}:RepT H n (.sc (.str z)) (.str z):=.scal rfl
def RepT.i{H:Hp}{n:Nat}{z:Int}:RepT H n (.sc (.int z)) (.int z):=.scal rfl
section
variable {X:Cx}{es:List Expr}{t:TA}{pos:Pos}
def Rk(t:TA):TE:=λσ H Q=>t σ H λxs H1=>xs.length<=1000/\∀p H',Same H1 H'->H' p=some (.tup xs)->Q (.ref p) H'
def Oz{x1}(h:PA X es t):PE X (.Tuple es x1 pos) (Rk t):=by
 intro pins s σ H Q I hq;refine wpAny_Tuple_spliced (bH (h pos pins s σ H _ I hq) λus s1 ⟨xs,H1,I1,r,z,q⟩=>⟨by rw[<- r.length];exact lH z,?_⟩);have hf:H1 s1.heap.objs.size=none:=I1.hok.fresh (bZ _);refine⟨.ref s1.heap.objs.size,aH H1 s1.heap.objs.size (.tup xs),I1.laid (t':=s1.toks) (λb u e=>gU _ e) (bZ _) ?_,rfl,q _ _ (aF hf) aA⟩;exact⟨lH z,us,r,⟨_,TW _ rfl,rfl,_,rfl⟩⟩
def R.ak{x1}(h:XA X es t):XE X (.Tuple es x1 pos) (Rk t):=⟨Oz h.h⟩
end
section
def Ask(lt:Nat->Nat->Bool)(n:Nat){α:Type}:W.KasT α->(α->Prop)->Prop
 | .ret a,Q=>Q a
 | .ask i j k,Q=>i<n/\j<n/\Ask lt n (k (lt i j)) Q
def Ask.bind{lt:Nat->Nat->Bool}{n:Nat}{α β:Type}{f:α->W.KasT β}{Q:β->Prop}:∀(t:W.KasT α),Ask lt n t (λa=>Ask lt n (f a) Q)->Ask lt n (t.bind f) Q
 | .ret _,h=>h
 | .ask i j k,h=>⟨h.1,h.2.1,Ask.bind (k (lt i j)) h.2.2⟩
def Ask.wp{lt:Nat->Nat->Bool}{n:Nat}{α:Type}{cmp:Nat->Nat->(Bool->PP->Prop)->PP->Prop}{s:PP}{G:α->PP->Prop}(hc:∀i j C,i<n->j<n->C (lt i j) s->cmp i j C s) :
  ∀(t:W.KasT α),Ask lt n t (λa=>G a s)->t.kasWp cmp G s
 | .ret _,h=>h
 | .ask i j k,h=>hc i j _ h.1 h.2.1 (Ask.wp hc (k (lt i j)) h.2.2)
variable {O:KeyOrd}{key:Nat->O.α}{n:Nat}
abbrev kg(key:Nat->O.α)(p:Array Nat)(i:Nat):O.α:=key (p.getD i 0)
abbrev lZ(key:Nat->O.α)(i j:Nat):Bool:=O.blt (key i) (key j)
def Prm(n:Nat)(p:Array Nat):Prop:=p.Perm (List.range n).toArray
def Prm.size{p:Array Nat}(h:Prm n p):p.size=n:=by
 have:=h.size_eq;simpa using this
def Prm.lt{p:Array Nat}(h:Prm n p){i:Nat}(hi:i<n):p.getD i 0<n:=by
 have hs:i<p.size:=by rw[h.size];exact hi
 have e:p.getD i 0=p[i]:=by simp[Array.getD,hs]
 rw[e];have hm:p[i]∈(List.range n).toArray.toList:=(Array.perm_iff_toList_perm.mp h).mem_iff.mp Zs;simpa using hm
def gd{p q:Array Nat}{i j:Nat}(h:p[i]?=q[j]?):p.getD i 0=q.getD j 0:=by
 rw[Array.getD_eq_getD_getElem?,Array.getD_eq_getD_getElem?,h]
def Ab{p:Array Nat}{i j:Nat}(hj:j<=p.size)(k:Nat):kg key (W.kas_rev p i j) k=if i<=k/\k<j then kg key p (i+j-1-k) else kg key p k:=by
 have e:=getElem?_mirror_all (xs:=p) (i:=i) hj k;unfold kg W.kas_rev;by_cases h1:i<=k/\k<j
 ·rw[NE h1]at e ⊢;rw[gd e]
 ·rw[IS h1]at e ⊢;rw[gd e]
def vL{p:Array Nat}{i j:Nat}(hj:j<=p.size)(heq:∀k,i<=k->k<j->kg key p k=kg key p (j-1))(k:Nat):kg key (W.kas_rev p i j) k=kg key p k:=by
 rw[Ab hj];split
 ·rename_i h;rw[heq (i+j-1-k) Zo Zo,heq k h.1 h.2]
 ·rfl
def Jo{p:Array Nat}{a d:Nat}(hs:a<p.size)(hd:d<=a)(k:Nat):kg key (bubble p a d) k=if k=a-d then kg key p a else if a-d<k/\k<=a then kg key p (k-1) else kg key p k:=by
 have e:=getElem?_bubble (xs:=p) hs d hd k;unfold kg;by_cases h1:k=a-d
 ·rw[NE h1]at e ⊢;rw[gd e]
 ·rw[IS h1]at e ⊢;by_cases h2:a-d<k/\k<=a
  ·rw[NE h2]at e ⊢;rw[gd e]
  ·rw[IS h2]at e ⊢;rw[gd e]
def Prm.rev{p:Array Nat}(h:Prm n p)(i j:Nat):Prm n (W.kas_rev p i j):=(mirror_perm _ _ _ _).trans h
def Prm.bub{p:Array Nat}(h:Prm n p)(i j:Nat):Prm n (bubble p i j):=(bubble_perm _ _ _).trans h
def Up(key:Nat->O.α)(p:Array Nat)(m:Nat):Prop:=∀i j,i<=j->j<m->O.kle (kg key p i) (kg key p j)
def Dn(key:Nat->O.α)(p:Array Nat)(m:Nat):Prop:=∀i j,i<=j->j<m->O.kle (kg key p j) (kg key p i)
def Up.one{p:Array Nat}:Up key p 1:=λi j h1 h2=>by
 have e:i=j:=by omega
 subst e;exact KeyOrd.kle_refl _
def Up.more{p:Array Nat}{m:Nat}(h:Up key p m)(hm:1<=m)(hs:O.kle (kg key p (m-1)) (kg key p m)):Up key p (m+1):=λi j h1 h2=>by
 by_cases hj:j<m
 ·exact h i j h1 hj
 ·obtain rfl:j=m:=by omega
  by_cases hi:i=j
  ·subst hi;exact KeyOrd.kle_refl _
  ·exact KeyOrd.kle_trans (h i (j-1) Zo Zo) hs
def Dn.more{p:Array Nat}{m:Nat}(h:Dn key p m)(hm:1<=m)(hs:O.kle (kg key p m) (kg key p (m-1))):Dn key p (m+1):=λi j h1 h2=>by
 by_cases hj:j<m
 ·exact h i j h1 hj
 ·obtain rfl:j=m:=by omega
  by_cases hi:i=j
  ·subst hi;exact KeyOrd.kle_refl _
  ·exact KeyOrd.kle_trans hs (h i (j-1) Zo Zo)
def vM{p:Array Nat}(hp:Prm n p){Q:Nat->Prop}:∀(f a:Nat),1<=a->a+f<=n->Up key p a →
  (∀m,a<=m->m<=a+f->Up key p m->(m=a+f∨O.klt (kg key p m) (kg key p (m-1)))->Q m)->Ask (lZ key) n (W.kas_asc p f a) Q
 | 0,a,_,_,hu,h=>h a (bZ _) (bZ _) hu (.inl rfl)
 | f+1,a,h1,hn,hu,h=>by
  refine⟨hp.lt Zo,hp.lt Zo,?_⟩;show Ask (lZ key) n (if O.blt (kg key p a) (kg key p (a-1))=true then _ else _) Q
  cases hb:O.blt (kg key p a) (kg key p (a-1)) with
  | true=>exact h a (bZ _) Zo hu (.inr hb)
  | false=>
   refine vM hp f (a+1) Zo Zo (hu.more h1 hb) λm m1 m2 m3 m4=>h m Zo Zo m3 (m4.imp (λe=>by omega) id)
def mD{Q:Array Nat×Nat×Nat->Prop}:∀(f:Nat)(p:Array Nat)(a q:Nat),Prm n p->1<=a->a+f<=n->Dn key p a->q+1<=a->(∀i,a-(q+1)<=i->i<a->kg key p i=kg key p (a-1)) →
  (∀p' m q',Prm n p'->1<=m->m<=a+f->Dn key p' m->q'+1<=m->(∀i,m-(q'+1)<=i->i<m->kg key p' i=kg key p' (m-1))->Q (p',m,q'))->Ask (lZ key) n (W.kas_desc f p a q) Q
 | 0,p,a,q,hp,h1,_,hd,hq,he,h=>h p a q hp h1 (bZ _) hd hq he
 | f+1,p,a,q,hp,h1,hn,hd,hq,he,h=>by
  have hsz:a<=p.size:=by rw[hp.size];omega
  have one:∀p':Array Nat,∀i,a+1-(0+1)<=i->i<a+1->kg key p' i=kg key p' (a+1-1):=λp' i x y=>by
   have e:i=a+1-1:=by omega
   rw[e]
  refine⟨hp.lt Zo,hp.lt Zo,?_⟩;show Ask (lZ key) n (if O.blt (kg key p a) (kg key p (a-1))=true then _ else _) Q
  cases hb:O.blt (kg key p a) (kg key p (a-1)) with
  | true=>
   rw[NE rfl];have CF:=hd.more h1 (KeyOrd.kle_of_klt hb);by_cases q0:q>0
   ·rw[NE q0];have hs:=vL (key:=key) hsz he;refine mD f _ (a+1) 0 (hp.rev _ _) Zo Zo (λi j x y=>by rw[hs,hs];exact CF i j x y) Zo (one _) λp' m q' x1 x2 x3=>h p' m q' x1 x2 Zo
   ·rw[IS q0];exact mD f _ (a+1) 0 hp Zo Zo CF Zo (one _) λp' m q' x1 x2 x3=>h p' m q' x1 x2 Zo
  | false=>
   rw[IS Zd];refine⟨hp.lt Zo,hp.lt Zo,?_⟩;show Ask (lZ key) n (if O.blt (kg key p (a-1)) (kg key p a)=true then _ else _) Q
   cases hc:O.blt (kg key p (a-1)) (kg key p a) with
   | true=>exact h p a q hp h1 Zo hd hq he
   | false=>
    rw[IS Zd];have hx:kg key p a=kg key p (a-1):=KeyOrd.kle_antisymm hc hb;refine mD f p (a+1) (q+1) hp Zo Zo (hd.more h1 hc) Zo (λi x y=>?_) λp' m q' x1 x2 x3=>h p' m q' x1 x2 Zo;rw[show a+1-1=a from rfl];by_cases hi:i=a
    ·rw[hi]
    ·rw[hx];exact he i Zo Zo
def tL{p:Array Nat}{a r:Nat}{Q:Nat×Array Nat->Prop}(hp:Prm n p)(h1:1<=a)(hr:a<=r)(hn:r<=n)(hd:Dn key p a)(h:∀m p',Prm n p'->1<=m->m<=r->Up key p' m->Q (m,p')) :
  Ask (lZ key) n (W.kas_tail3 a r p) Q:=by
 have hsz:a<=p.size:=by rw[hp.size];omega
 refine Ask.bind _ (vM (hp.rev 0 a) (r-a) a h1 Zo (λi j x y=>?_) λm m1 m2 m3 _=>h m _ (hp.rev 0 a) Zo Zo m3);rw[Ab hsz,Ab hsz,NE Zo,NE Zo];exact hd _ _ Zo Zo
def mE{p:Array Nat}{a r:Nat}{Q:Nat×Array Nat->Prop}(hp:Prm n p)(ha:a+1<=r)(hn:r<=n)(hd:Dn key p (a+1))(h:∀m p',Prm n p'->1<=m->m<=r->Up key p' m->Q (m,p')) :
  Ask (lZ key) n (W.kas_descPart a r p) Q:=by
 refine Ask.bind _ (mD (r-(a+1)) p (a+1) 0 hp Zo Zo hd Zo (λi x y=>by rw[show i=a+1-1 by omega]) λp' m q x1 x2 x3 x4 x5 x6=>?_);have hsz:m<=p'.size:=by rw[x1.size];omega
 dsimp only;by_cases q0:q>0
 ·rw[NE q0];have hs:=vL (key:=key) hsz x6;exact tL (x1.rev _ _) x2 Zo hn (λi j x y=>by rw[hs,hs];exact x4 i j x y) h
 ·rw[IS q0];exact tL x1 x2 Zo hn x4 h
def Eu{p:Array Nat}{r:Nat}{Q:Nat×Array Nat->Prop}(hp:Prm n p)(h1:1<=r)(hn:r<=n)(h:∀m p',Prm n p'->1<=m->m<=r->Up key p' m->Q (m,p')) :
  Ask (lZ key) n (W.kas_count r p) Q:=by
 refine Ask.bind _ (vM hp (r-1) 1 (bZ _) Zo Up.one λa a1 a2 hu ho=>?_);by_cases e:a=r
 ·rw[NE (by simpa using e)];exact h a p hp a1 Zo hu
 ·rw[IS (by simpa using e)];have r9:O.klt (kg key p a) (kg key p (a-1)):=ho.resolve_left Zo;by_cases g:a>1
  ·rw[NE g];refine⟨hp.lt Zo,hp.lt Zo,?_⟩;show Ask (lZ key) n (if O.blt (kg key p 0) (kg key p (a-1))=true then _ else _) Q
   cases hb:O.blt (kg key p 0) (kg key p (a-1)) with
   | true=>exact h a p hp a1 Zo hu
   | false=>
    rw[IS Zd];have hsz:a<=p.size:=by rw[hp.size];omega
    have su:∀k,0<=k->k<a->kg key p k=kg key p (a-1):=λk _ hk=>KeyOrd.kle_antisymm (hu k (a-1) Zo Zo) (KeyOrd.kle_trans hb (hu 0 k Zo hk))
    have hs:=vL (key:=key) hsz su;refine mE (hp.rev _ _) Zo hn (λi j x y=>?_) h;rw[hs,hs];by_cases hj:j<a
    ·rw[su i Zo Zo,su j Zo hj];exact KeyOrd.kle_refl _
    ·obtain rfl:j=a:=by omega
     by_cases hi:i=j
     ·subst hi;exact KeyOrd.kle_refl _
     ·rw[su i Zo Zo];exact KeyOrd.kle_of_klt r9
  ·rw[IS g];obtain rfl:a=1:=by omega
   refine mE hp Zo hn (λi j x y=>?_) h;by_cases hi:i=j
   ·subst hi;exact KeyOrd.kle_refl _
   ·obtain rfl:i=0:=by omega
    obtain rfl:j=1:=by omega
    exact KeyOrd.kle_of_klt r9
def oE{p:Array Nat}{k:Nat}{Q:Nat->Prop}(hp:Prm n p)(hk:k<n)(hu:Up key p k):∀(f l r:Nat),l<=r->r<=k->r-l<=f->(∀i,i<l->O.kle (kg key p i) (kg key p k))->(∀i,r<=i->i<k->O.klt (kg key p k) (kg key p i)) →
  (∀l,l<=k->(∀i,i<l->O.kle (kg key p i) (kg key p k))->(∀i,l<=i->i<k->O.klt (kg key p k) (kg key p i))->Q l)->Ask (lZ key) n (W.kas_place p k f l r) Q
 | 0,l,r,h1,h2,h3,h4,h5,h=>by
  obtain rfl:l=r:=by omega
  exact h l h2 h4 h5
 | f+1,l,r,h1,h2,h3,h4,h5,h=>by
  unfold W.kas_place;by_cases g:l≥r
  ·rw[NE g];obtain rfl:l=r:=by omega
   exact h l h2 h4 h5
  ·rw[IS g];refine⟨hp.lt hk,hp.lt Zo,?_⟩;show Ask (lZ key) n (if O.blt (kg key p k) (kg key p ((l+r)/2))=true then _ else _) Q
   cases hb:O.blt (kg key p k) (kg key p ((l+r)/2)) with
   | true=>
    rw[NE rfl];exact oE hp hk hu f l _ Zo Zo Zo h4 (λi x y=>KeyOrd.klt_of_klt_of_kle hb (hu _ _ x y)) h
   | false=>
    rw[IS Zd];exact oE hp hk hu f _ r Zo h2 Zo (λi x=>KeyOrd.kle_trans (hu i ((l+r)/2) Zo Zo) hb) h5 h
def Bz{Q:Array Nat->Prop}:∀(f:Nat)(p:Array Nat)(k:Nat),Prm n p->k+f=n->Up key p k->(∀p',Prm n p'->Up key p' n->Q p')->Ask (lZ key) n (W.kas_bin f p k) Q
 | 0,p,k,hp,e,hu,h=>h p hp (by
  obtain rfl:k=n:=by omega
  exact hu)
 | f+1,p,k,hp,e,hu,h=>by
  refine Ask.bind _ (oE hp Zo hu k 0 k Zo Zo Zo (λi x=>by omega) (λi x y=>by omega) λl hl lo hi=>?_);have KN:k<p.size:=by rw[hp.size];omega
  refine Bz f _ (k+1) (hp.bub _ _) Zo (λi j x y=>?_) h;rw[Jo KN Zo,Jo KN Zo,show k-(k-l)=l by omega];by_cases i1:i=l
  ·rw[NE i1];by_cases j1:j=l
   ·rw[NE j1];exact KeyOrd.kle_refl _
   ·rw[IS j1,NE Zo];exact KeyOrd.kle_of_klt (hi _ Zo Zo)
  ·rw[IS i1];by_cases j1:j=l
   ·rw[NE j1,IS Zo];exact lo _ Zo
   ·rw[IS j1];by_cases i2:l<i/\i<=k
    ·rw[NE i2,NE Zo];exact hu _ _ Zo Zo
    ·rw[IS i2];by_cases j2:l<j/\j<=k
     ·rw[NE j2];exact hu _ _ Zo Zo
     ·rw[IS j2];exact hu _ _ x Zo
def Jp{Q:Array Nat->Prop}(h1:1<=n)(h:∀p,Prm n p->Up key p n->Q p):Ask (lZ key) n (W.kas_sort n) Q:=by
 refine Ask.bind _ (Eu (p:=(List.range n).toArray) (Array.Perm.refl _) h1 (bZ _) λm p hp m1 m2 hu=>?_);dsimp only;by_cases hm:m<n
 ·rw[NE hm];rw[show max m 1=m by omega];exact Bz _ p m hp Zo hu h
 ·rw[IS hm];obtain rfl:m=n:=by omega
  exact h p hp hu
end
def jS(h:Heap)(v:S6)(q:Str×Int):Prop:=∃a t u,v=Value.ref a/\IsTup h a #[Value.str q.1 t,Value.int q.2 u]
def PairsAt(h:Heap):List S6->List (Str×Int)->Prop
 | [],[]=>True
 | v::vs,q::qs=>jS h v q/\PairsAt h vs qs
 | _,_=>False
def PairsAt.len{h:Heap}:∀ {vs:List S6}{qs:List (Str×Int)},PairsAt h vs qs->vs.length=qs.length
 | [],[],_=>rfl
 | _::_,_::_,x=>congrArg (·+1) x.2.len
def PairsAt.keep{h h':Heap}(k:∀v q,jS h v q->jS h' v q):∀ {vs:List S6}{qs:List (Str×Int)},PairsAt h vs qs->PairsAt h' vs qs
 | [],[],_=>True.intro
 | _::_,_::_,x=>⟨k _ _ x.1,x.2.keep k⟩
def PairsAt.get{h:Heap}:∀ {vs:List S6}{qs:List (Str×Int)} (i:Nat),PairsAt h vs qs->i<vs.length->jS h (vs.getD i Value.none) (qs.getD i (Str.empty,0))
 | v::vs,q::qs,0,x,_=>x.1
 | v::vs,q::qs,i+1,x,hi=>by
  have:=PairsAt.get i x.2 (by simpa using hi);simpa using this
def PairsAt.tups{h:Heap}:∀ {vs:List S6}{qs:List (Str×Int)},PairsAt h vs qs->∃fs,W.KatTups h vs fs/\fs.length=vs.length/\∀v∈fs,∃x t,v=Value.str x t
 | [],[],_=>⟨[],.nil,rfl,λv hv=>nomatch hv⟩
 | v::vs,q::qs,⟨⟨a,t,u,e,o,ho,hc,n,hd⟩,r⟩=>by
  obtain⟨fs,h1,h2,h3⟩:=r.tups;subst e;refine⟨Value.str q.1 t::fs,.cons ho hc hd rfl h1,congrArg (·+1) h2,λv hv=>?_⟩;rcases mem_cons.mp hv with e|hv
  ·exact⟨_,_,e⟩
  ·exact h3 v hv
abbrev mF(qs:List (Str×Int))(i:Nat):strKind.toKeyOrd.α:=(qs.getD i (Str.empty,0)).1.cps.toList
section
variable {prog:Program}{w:World}{A:Around}{E:ZB}{s:PP}
def Pa{v v':S6}{p q:Str×Int}{Q:Bool->PP->Prop}(hx:jS s.heap v p)(hy:jS s.heap v' q)(j9:p.1=q.1->p=q)(h:Q (decide (p.1.cps.toList<q.1.cps.toList)) s) :
  wpAny (model prog w) A (keyLt' (tuples' true) v v') Q E s:=by
 obtain⟨a,t,u,rfl,o,ho,_,n,hd⟩:=hx;obtain⟨b,t',u',rfl,o',T1,_,n',CF⟩:=hy;refine W.kat_lt ho hd T1 CF (W.kat_cons (eqBool_str (W.kat_go (λe=>?_) (λe=>?_))))
 ·have e2:=j9 (eq_of_beq e);subst e2;refine W.kat_yes (W.kat_cons (wpAny_eqBool_int (W.kat_go (λ_=>?_) (λe3=>IQ e3 Zs))));refine W.kat_yes (W.kat_nil ?_);have e4:decide (p.1.cps.toList<p.1.cps.toList)=false:=by simpa using List.lt_irrefl p.1.cps.toList
  rw[e4]at h;exact h
 ·exact W.kat_no (oneLt_str h)
def pG{a:TD}{vs:List S6}{qs:List (Str×Int)}{n:Nat}{R:PySem.Fin->PP->Prop}(ho:s.heap.get? a=some (seqObj "list" vs.toArray n))(hp:PairsAt s.heap vs qs)(hn:(qs.map (·.1)).Nodup)(Z6:vs.length<64)(h:∀p:Array Nat,Prm vs.length p->Up (O:=strKind.toKeyOrd) (mF qs) p vs.length->R (.done (.ret .none)) {s with heap:=sortedHeap s.heap a vs (p.toList.map λi=>vs.getD i Value.none).toArray }) :
  wpAny (model prog w) A (Builtin.«list.sort» ⟨[.ref a],[]⟩) R E s:=by
 have ha:a<s.heap.objs.size:=Heap.lt_size ho;have hs1:vs.toArray.size<=sizeLine:=by rw[dR];exact eS (le_of_lt Z6) Zd
 rw[list_sort_plain];apply XV;apply listItems_at ho rfl;apply XV;refine listUpdate_at ho rfl ?_ hs1 (zero_le _);obtain⟨e1,g1⟩:∃e1,(s.heap.update a (Obj.mapSeq λ_=>(#[]:Array Value))).get? a=some (seqObj "list" #[] e1):=⟨_,get?_update_seq ho λ_=>#[]⟩;apply XV;apply seqEpoch_at g1 rfl;apply XV;refine wpAny_newTuple ?_ (by simpa using hs1);apply XV;refine wpAny_newList ?_ (zero_le _);apply wpAny_holding;have g3:(((s.heap.update a (Obj.mapSeq λ_=>(#[]:Array Value))).push (seqObj "tuple" vs.toArray 0)).push (seqObj "list" #[] 0)).get? a=some (seqObj "list" #[] e1):=gU _ (gU _ g1);have kp:∀v q,jS s.heap v q->jS (((s.heap.update a (Obj.mapSeq λ_=>(#[]:Array Value))).push (seqObj "tuple" vs.toArray 0)).push (seqObj "list" #[] 0)) v q:=by
  rintro v q ⟨b,t,u,rfl,o,hb,hc,hd⟩;have j9:b≠a:=by
   rintro rfl;rw[ho]at hb;cases hb;exact IQ (show(Value.type "list":S6)=.type "tuple" from hc) Zd
  refine⟨b,t,u,rfl,o,gU _ (gU _ ?_),hc,hd⟩;rw[Heap.get?_update_ne _ _ _ _ j9];exact hb
 have WH:=hp.keep kp;show wpAny (model prog w) A _ R E {s with heap:=((s.heap.update a (Obj.mapSeq λ_=>(#[]:Array Value))).push (seqObj "tuple" vs.toArray 0)).push (seqObj "list" #[] 0) };dsimp only;by_cases h2:vs.toArray.size<2
 ·rw[NE h2,NE h2];have nr:vs.length<2:=by simpa using h2
  apply XV;apply W1;rw[StateT.run_pure];apply XV;apply W1;dsimp only;have out:Array.map (λx=>x.2) (arrOf (SortSt.mk' general' (vs.toArray.zip vs.toArray) #[] 7 none))=((List.range vs.length).toArray.toList.map λi=>vs.getD i Value.none).toArray:=by
   show Array.map (λx=>x.2) (vs.toArray.zip vs.toArray)=_
   match vs,nr with
   | [],_=>simp
   | [_],_=>simp[range_succ]
  rw[out];have hsz:((List.range vs.length).toArray.toList.map λi=>vs.getD i Value.none).toArray.size<=sizeLine:=by
   rw[dR,bP,List.toList_toArray,List.length_range];exact eS (le_of_lt Z6) Zd
  apply XV;apply seqEpoch_at g3 rfl;apply XV;refine listUpdate_at g3 rfl ?_ (zero_le _) (Nat.le_succ_of_le hsz);simp only [bne_self_eq_false,Bool.false_eq_true,if_false];refine W1 (h _ (Array.Perm.refl _) λi j x y=>?_);obtain rfl:i=j:=by omega
  exact KeyOrd.kle_refl _
 ·rw[IS h2,IS h2];have nr:2<=vs.length:=by
   have:¬ vs.length<2:=by simpa using h2
   omega
  obtain⟨fs,t1,t2,t3⟩:=WH.tups;apply XV;refine W.kat_kind (T:=.type "str") t1 Zo (λv hv=>?_) Zd ?_
  ·obtain⟨x,t,rfl⟩:=t3 v hv;exact W.Looks.of_pure rfl
  have et:tuples' (Value.type "str" != Value.type "tuple")=tuples' true:=by rw[show(Value.type "str" != Value.type "tuple")=true by decide]
  rw[et];have run:=W.kat_run (prog:=prog) (w:=w) (A:=A) (E:=E) (κ:=tuples' true) (ks:=vs) (vs:=vs) (s:={s with heap:=((s.heap.update a (Obj.mapSeq λ_=>(#[]:Array Value))).push (seqObj "tuple" vs.toArray 0)).push (seqObj "list" #[] 0) })
   (Q:=λni s'=>∃p:Array Nat,p.size=vs.length/\arrOf ni=p.map (W.kas_item (vs.toArray.zip vs.toArray))/\failedOf ni=none/\Prm vs.length p/\Up (O:=strKind.toKeyOrd) (mF qs) p vs.length/\s'={s with heap:=((s.heap.update a (Obj.mapSeq λ_=>(#[]:Array Value))).push (seqObj "tuple" vs.toArray 0)).push (seqObj "list" #[] 0) })
   (G:=λp s'=>Prm vs.length p/\Up (O:=strKind.toKeyOrd) (mF qs) p vs.length/\s'={s with heap:=((s.heap.update a (Obj.mapSeq λ_=>(#[]:Array Value))).push (seqObj "tuple" vs.toArray 0)).push (seqObj "list" #[] 0) })
   rfl nr Z6 (λp ni s' a1 a2 a3 a4=>⟨p,a1,a2,a3,a4⟩) ?_
  ·apply XV;refine wpAny_mono run ?_ λ_ _ e=>e;rintro⟨⟨⟩,ni⟩ s' ⟨p,hz,har,hf,pp,pu,rfl⟩;dsimp only;have WI:=W.kat_snds rfl har;rw[WI];have hsz:((p.toList.map λi=>vs.getD i Value.none).toArray).size<=sizeLine:=by
    rw[dR,bP,Array.length_toList,hz];exact eS (le_of_lt Z6) Zd
   apply XV;apply seqEpoch_at g3 rfl;apply XV;refine listUpdate_at g3 rfl ?_ (zero_le _) (Nat.le_succ_of_le hsz);rw[hf];simp only [bne_self_eq_false,Bool.false_eq_true,if_false];exact W1 (h p pp pu)
  ·refine Ask.wp (lt:=lZ (O:=strKind.toKeyOrd) (mF qs)) (n:=vs.length) (λi j C hi hj hC=>?_) _ (Jp Zo λp h1 h2=>⟨h1,h2,rfl⟩);unfold W.kas_ask;refine Pa (WH.get i hi) (WH.get j hj) (λe=>?_) hC;have hl:=hp.len;have ei:qs.getD i (Str.empty,0)=qs[i]'Zo:=by simp[List.getD,lD (show i<qs.length by omega)]
   have ej:qs.getD j (Str.empty,0)=qs[j]'Zo:=by simp[List.getD,lD (show j<qs.length by omega)]
   rw[ei,ej]at e ⊢;have ON:i=j:=(List.getElem_inj (xs:=qs.map (·.1)) (h₀:=by rw[bP];omega) (h₁:=by rw[bP];omega) hn).mp (by simpa using e);subst ON;rfl
end
section
variable {prog:Program}{w:World}{A:Around}{E:ZB}{s:PP}
def vN{l:TD}{o:Obj}{vs:List S6}{qs:List (Str × Int)}{n:Nat}{Q:ZB}(ho:s.heap.get? l=some o)(hc:o.cls=.type "list")(hd:o.data=.seq vs.toArray n)(hp:PairsAt s.heap vs qs)(hn:(qs.map (·.1)).Nodup)(Z6:vs.length<64)(h:∀(h1 h':Heap)(p:Array Nat)(e:Nat),(∀b ob,s.heap.get? b=some ob->h1.get? b=some ob)->(∀b ob,h1.get? b=some ob->h'.get? b=some ob)->h'.get? h1.objs.size=some (seqObj "list" (p.toList.map λi=>vs.getD i Value.none).toArray e) →
   Prm vs.length p->Up (O:=strKind.toKeyOrd) (mF qs) p vs.length->Q (.ref h1.objs.size) {s with heap:=h' }) :
  wpAny (model prog w) A (call (.builtin "sorted") [.ref l]) Q E s:=by
 apply Calls.call_function_entry kind_sorted plain_sorted entry_sorted (args_sorted1 _);unfold Builtin.«sorted»;apply XV (m:=checkCount "sorted" 1 1 _);apply W1;apply XV;refine wpAny_collect_seq l (.inl rfl) ho hc hd (λh1 k1=>?_) (by rw[dR];exact eS (le_of_lt Z6) Zd);have e1:vs.toArray.toList=vs:=by simp
 rw[e1];apply XV;apply wpAny_newList
 ·have g2:(h1.push (seqObj "list" vs.toArray 0)).get? h1.objs.size=some (seqObj "list" vs.toArray 0):=TW _ rfl;have nu:PairsAt (h1.push (seqObj "list" vs.toArray 0)) vs qs:=hp.keep λv q ⟨a,t,u,e,ob,x1,x2⟩=>⟨a,t,u,e,ob,gU _ (k1 _ _ x1),x2⟩
  apply XV;apply wpAny_holding;refine wpAny_call_entry slot_list_sort ⟨_,g2,rfl⟩ entry_list_sort (pG (s:={s with heap:=h1.push (seqObj "list" vs.toArray 0) }) g2 nu hn Z6 λp q1 q2=>⟨_,rfl,W1 ⟨_,rfl,?_⟩⟩) (args_list_sort _);obtain⟨e,he⟩:=sortedHeap_at (out:=(p.toList.map λi=>vs.getD i Value.none).toArray) g2;refine h h1 _ p e k1 (λb ob EM=>?_) he q1 q2;have r9:=Heap.lt_size EM;rw[sortedHeap_old (ne_of_lt r9) (by rw[size_push'];exact lt_succ_of_lt r9)];exact gU _ EM
 ·exact eS (le_of_lt Z6) Zd
end
abbrev Z:=Addr×Str×Int
def zle(x y:Z):Prop:=x.2.1.cps.toList<=y.2.1.cps.toList
def ZAt(H:Hp)(zs:List Z):Prop:=∀z∈zs,H z.1=some (.tup [.str z.2.1,.int z.2.2])
def ZAt.same{H H':Hp}{zs:List Z}(h:ZAt H zs)(s:Same H H'):ZAt H' zs:=λz hz=>s _ _ (h z hz)
def bT(zs:List Z):List V:=zs.map λz=>V.ref z.1
section
variable {X:Cx}{pins:Z5}{σ:St}{H:Hp}{s:PP}
def xO(I:Inv X pins σ H s):∀ {zs:List Z}{vs:List S6},ZAt H zs->Vals (bT zs) vs->PairsAt s.heap vs (zs.map (·.2))
 | [],[],_,_=>True.intro
 | z::zs,v::vs,hz,.cons r rs=>by
  have e:=hz z mZ;obtain⟨_,its,r1,it⟩:=(show ObjOk X.prog X.w H s.heap z.1 (.tup [.str z.2.1,.int z.2.2]) from I.hok _ _ e);cases r;refine⟨?_,xO I (λy hy=>hz y (fL _ hy)) rs⟩
  cases r1 with
  | cons a1 r2=>
   cases r2 with
   | cons a2 r3=>
    cases r3;obtain⟨t,rfl⟩:=a1;obtain⟨u,rfl⟩:=a2;exact⟨z.1,t,u,rfl,it⟩
def kE:∀ {xs:List V}{vs:List S6} (i:Nat),Vals xs vs->i<xs.length->∀x,xs[i]?=some x->RelV x (vs.getD i Value.none)
 | x::xs,v::vs,0,.cons r rs,_,y,hy=>by
  cases hy;exact r
 | x::xs,v::vs,i+1,.cons r rs,hi,y,hy=>by
  have:=kE i rs (by simpa using hi) y (by simpa using hy);simpa using this
def xP{α:Type}{f:α->V}{g:α->S6}:∀ {l:List α},(∀a∈l,RelV (f a) (g a))->Vals (l.map f) (l.map g)
 | [],_=>.nil
 | a::l,h=>.cons (h a mZ) (xP λb hb=>h b (fL _ hb))
def qR(K:W.Frag):List V->Hp->VK->Prop:=λvs H Q=>match vs with
 | [.ref a]=>∃zs:List Z,SqL K H a (bT zs)/\ZAt H zs/\(zs.map (·.2.1)).Nodup/\zs.length<64/\∀l TQ,H l=none->TQ.Perm zs->TQ.Pairwise zle->Q (.ref l) (aH H l (.lst (bT TQ)))
 | _=>False
def Ev:CallR X (.builtin "sorted") (qR X.K):=by
 intro pins s σ H xs us Q I r h;unfold qR at h;split at h
 ·rename_i a;obtain⟨zs,hq,hz,AB,Z6,q⟩:=h;obtain⟨u,rfl,ru⟩:=gL r;cases ru;obtain⟨its,r1,p1,_⟩:=I.list hq;obtain⟨o,ho,hc,n,hd⟩:=p1.isList;have hl:its.length=zs.length:=by
   have:=r1.length;unfold bT at this;rw[bP]at this;exact this.symm
  have hp:=xO I hz r1;refine vN ho hc hd hp (by rw[map_map];exact AB) Zo λh1 h' p e k1 k he pp pu=>?_;have I1:=I.kept (t':=s.toks) k1;have hps:∀i∈p.toList,i<zs.length:=λi hi=>by
   have:=(Array.perm_iff_toList_perm.mp pp).mem_iff.mp hi;rw[<- hl];simpa using this
  have e1:(p.toList.map λi=>zs.getD i (0,Str.empty,0)).Perm zs:=by
   have e2:(List.range zs.length).map (λi=>zs.getD i (0,Str.empty,0))=zs:=by
    apply List.ext_getElem
    ·simp
    ·intro i h1 h2;simp[List.getD,lD h2]
   have e3:=(Array.perm_iff_toList_perm.mp pp).map (λi=>zs.getD i (0,Str.empty,0));rw[List.toList_toArray,hl,e2]at e3;exact e3
  have hsz:p.size=zs.length:=by rw[pp.size,hl]
  refine⟨.ref h1.objs.size,_,I1.laid (t':=s.toks) (o:=.lst (bT (p.toList.map λi=>zs.getD i (0,Str.empty,0)))) k (bZ _) ⟨?_,(p.toList.map λi=>its.getD i Value.none),e,?_,he⟩,rfl,q _ _ (I1.hok.fresh (bZ _)) e1 ?_⟩
  ·unfold bT;rw[bP,bP,Array.length_toList,hsz];exact eS (le_of_lt Z6) Zd
  ·unfold bT;rw[map_map];refine xP λi hi=>?_
   have GY:=hps i hi;refine kE i r1 (by unfold bT;rw[bP];exact GY) _ ?_;unfold bT;rw[iK,lD GY];simp[List.getD,lD GY]
  ·rw[List.pairwise_iff_getElem];intro i j hi hj ON;rw[bP,Array.length_toList]at hi hj;have hu:=pu i j (le_of_lt ON) Zo;unfold zle;have key:∀k,k<p.size->(zs.getD (p.getD k 0) (0,Str.empty,0)).2.1.cps.toList=kg (O:=strKind.toKeyOrd) (mF (zs.map (·.2))) p k:=λk hk=>by
    have HQ:p.getD k 0<zs.length:=by rw[<- hl];exact pp.lt (by rw[hl,<- hsz];exact hk)
    unfold kg mF;generalize p.getD k 0=i' at HQ;simp[List.getD,lD HQ]
   have gi:∀k (hk:k<(p.toList.map λi=>zs.getD i (0,Str.empty,0)).length),(p.toList.map λi=>zs.getD i (0,Str.empty,0))[k]=zs.getD (p.getD k 0) (0,Str.empty,0):=λk hk=>by
    have HQ:k<p.size:=by simpa using hk
    simp[Array.getD,HQ]
   rw[gi,gi,key i Zo,key j Zo];have hu2:decide ((kg (O:=strKind.toKeyOrd) (mF (zs.map (·.2))) p j:List Nat)<kg (O:=strKind.toKeyOrd) (mF (zs.map (·.2))) p i)=false:=hu;exact List.not_lt.mp (U4 hu2)
 ·exact h.elim
def R.fw{K:W.Frag}(hK:X.K=K:=by rfl):XC X (.builtin "sorted") (qR K):=hK▸⟨Ev⟩
end
def qS:∀ {ks:List Str}{vs:List S6},vs.length=ks.length->(∀(i:Nat)(v:S6),vs[i]?=some v->∃x t,ks[i]?=some x/\v=Value.str x t)->StrsAre vs ks
 | [],[],_,_=>.nil
 | k::ks,v::vs,hl,h=>by
  obtain⟨x,t,e1,rfl⟩:=h 0 v rfl;cases e1;exact .cons k t (qS (by simpa using hl) λi v hv=>by simpa using h (i+1) v (by simpa using hv))
section
variable {prog:Program}{w:World}{A:Around}{E:ZB}{s:PP}
def xQ{d:TD}{ss:List Str}{kvs:List (bC×S6)}{Q:ZB}(hh:A.handled=none)(lo:(d==sysModules)=false)(hd:s.heap.DictOf (aR prog w) d kvs)(hk:kvs.map (·.1)=ss.map Sum.inr)(Z6:ss.length<64)(h:∀(h1 h':Heap)(tk:Nat)(out:Array Value)(e:Nat),(∀b ob,s.heap.get? b=some ob->h1.get? b=some ob)->(∀b ob,h1.get? b=some ob->h'.get? b=some ob)->h'.get? h1.objs.size=some (seqObj "list" out e)->StrsAre out.toList (mY ss)->Q (.ref h1.objs.size) {s with heap:=h',toks:=tk }) :
  wpAny (model prog w) A (call (.builtin "sorted") [.ref d]) Q E s:=by
 have hl:kvs.length=ss.length:=by simpa using congrArg length hk
 obtain⟨ep,hm⟩:=hd.dictAt;apply Calls.call_function_entry kind_sorted plain_sorted entry_sorted (args_sorted1 _);unfold Builtin.«sorted»;apply XV (m:=checkCount "sorted" 1 1 _);apply W1;apply XV;refine W.kdu_collect (W.kdl_dict lo) hh hm (by rw[hl];exact eS (le_of_lt Z6) Zd) λh1 tk acc k1 yu=>?_;have hS:StrsAre acc.toList ss:=qS (by rw[Array.length_toList,yu.1,hl]) λi v hv=>by
  obtain⟨k,x,e1,e2⟩:=yu.2 i v (by simpa using hv);have e3:(kvs.map (·.1))[i]?=some k:=by rw[iK,e1];rfl
  rw[hk,iK]at e3;cases e4:ss[i]? with
  | none=>rw[e4]at e3;cases e3
  | some y=>
   rw[e4]at e3;cases e3;rcases bA (show lP (Sum.inr y) v=true from e2) with⟨_,_,e,_⟩|⟨z,t,e,ev⟩
   ·cases e
   ·cases e;exact⟨_,t,rfl,ev⟩
 generalize acc.toList=vs at hS;have KO:vs.length<64:=by rw[hS.length];exact Z6
 apply XV;apply wpAny_newList
 ·have g2:(h1.push (seqObj "list" vs.toArray 0)).get? h1.objs.size=some (seqObj "list" vs.toArray 0):=TW _ rfl;apply XV;apply wpAny_holding;refine wpAny_call_entry slot_list_sort ⟨_,g2,rfl⟩ entry_list_sort (list_sort_treeK (s:={s with heap:=h1.push (seqObj "list" vs.toArray 0),toks:=tk }) strKind_oneLt g2 hS.keysOf (λv₁ v₂ rest e=>keyKind_strs (by rw[<- e];exact hS)) KO λni hp hs=>⟨_,rfl,W1 ⟨_,rfl,?_⟩⟩) (args_list_sort _);obtain⟨OM,q1,q2,q3⟩:=sorted_out_str hS hp hs;obtain⟨e,he⟩:=sortedHeap_at (out:=(arrOf ni).map (·.2)) g2;refine h h1 _ _ _ e k1 (λb ob EM=>?_) he (Jm q2 q3▸q1);have r9:=Heap.lt_size EM;rw[sortedHeap_old (ne_of_lt r9) (by rw[size_push'];exact lt_succ_of_lt r9)];exact gU _ EM
 ·exact eS (le_of_lt KO) Zd
end
section
variable {X:Cx}
def qT:List V->Hp->VK->Prop:=λvs H Q=>match vs with
 | [.ref a]=>∃(ss:List Str)(kvs:List (bC×V)),Rd H a (.dK kvs)/\kvs.map (·.1)=ss.map Sum.inr/\ss.length<64/\∀l,H l=none->Q (.ref l) (aH H l (.lst ((mY ss).map V.str)))
 | _=>False
def Ew(EN:X.calm=true):CallR X (.builtin "sorted") qT:=by
 intro pins s σ H xs us Q I r h;unfold qT at h;split at h
 ·rename_i a;obtain⟨ss,kvs,hq,hk,Z6,q⟩:=h;obtain⟨u,rfl,ru⟩:=gL r;cases ru;obtain⟨_,hd,vs,rel,dd⟩:=lT I.hok hq;refine xQ (I.ok.hd EN) hd dd (by rw[<- rel.keys];exact hk) Z6 λh1 h' tk out e k1 k he hS=>?_;have I1:=I.kept (t':=s.toks) k1;refine⟨.ref h1.objs.size,_,I1.laid (t':=tk) (o:=.lst ((mY ss).map V.str)) k (bZ _) ⟨?_,out.toList,e,oC hS,he⟩,rfl,q _ (I1.hok.fresh (bZ _))⟩;rw[bP,lY];exact eS (le_of_lt Z6) Zd
 ·exact h.elim
def R.ga(EN:X.calm=true):XC X (.builtin "sorted") qT:=⟨Ew EN⟩
end
def vO:typeLookup (.type "list") "keys"=pure none:=am_miss_of_fast (by kernel_rfl)
def kF:plainId "dict.update.loop"=true:=by decide +kernel
def tM:entryFor table "dict.update.loop"=some Builtin.«dict.update.loop»:=entryFor_of_tree (by kernel_rfl)
section
variable {prog:Program}{w:World}{A:Around}{E:ZB}{s:PP}
def Pb{a:TD}{o:Obj}{xs:Array Value}{k:Nat}{Q:Option S6->PP->Prop}(hx:s.heap.get? a=some o)(hc:o.cls=.type "list")(OO:o.data=.seq xs k)(hd:o.dict=none)(hA:A.handled=none)(h:∀h' tk,(∀b ob,s.heap.get? b=some ob->h'.get? b=some ob)->Q none {s with heap:=h',toks:=tk }):wpAny (model prog w) A (getAttr? (.ref a) "keys") Q E s:=by
 obtain⟨c,dct,dat,sl⟩:=o;simp only at hc OO hd;subst hc OO hd;obtain⟨hp,g,d,tk,os⟩:=s;have hT:∀TR,(⟨hp,g,d,TR,os⟩:PP).TypeIs (.ref a) "list":=λ_=>⟨_,hx,rfl⟩
 have f1:=sub_AttributeError;have f3:=F.slot_list_getattribute.lookup;have f4:=F.slot_list_getattribute.bind (.ref a);have f5:=am_list_getattr_none;have f6:=vO;unfold getAttr? getAttrBy? getAttrBy
 repeat (any_goals (first|assumption|exact hT _|((with_reducible show wpAny _ _ (call (Value.builtin "list.__getattribute__") _ _) _ _ _);refine call_meets F.slot_list_getattribute (hT _) am_entry_list_getattribute (F.args_list_getattribute_2 _ _) (meets_getattribute_miss_list a xs k sl "keys" _ f6 Zk) ⟨hx,hA,λh' TR e hx'=>?_⟩)|wp_step))
 obtain⟨t',u',he⟩:=hx'.there;show wpAny _ _ (getattributeRaised _ _ _ _ _ _ _) _ _ _;unfold getattributeRaised;repeat (any_goals (first|assumption|wp_step))
 exact h _ _ hx'.keeps
def Rl(h:Heap)(v:S6)(q:bC×V):Prop:=∃a u x,v=Value.ref a/\IsTup h a #[u,x]/\RelV (kV q.1) u/\RelV q.2 x
def Jq(hh:A.handled=none){I l d:TD}{its:List S6}{qs:List (bC×V)}{R:Result->PP->Prop}{res:S6}(hIl:I≠l)(WJ:I≠d)(CW:l≠d) :
  ∀(k i:Nat)(s:PP)(kvs:List (bC×V))(vs:List (bC×S6))(z:Int),its.length-i=k->i<=its.length->qs.length=its.length->s.heap.IsListIter I l i->s.heap.IsList l its.toArray->(∀(j:Nat)(v:S6)(q:bC×V),its[j]?=some v->qs[j]?=some q->Rl s.heap v q) →
  (∀(j:Nat)(v:S6)(a:TD),its[j]?=some v->v=Value.ref a->a≠I/\a≠d)->s.heap.DictOf (aR prog w) d vs->KV kvs vs->kvs.length+k<=1000 →
  (∀h' tk CL,(∀b ob,b≠I->b≠d->s.heap.get? b=some ob->h'.get? b=some ob)->h'.DictOf (aR prog w) d CL->KV (cS kvs (qs.drop i)) CL->R (.ok (.ret res)) {s with heap:=h',toks:=tk }) →
  codeAny (model prog w) A (.builtin "dict.update.loop" ⟨[.ref d,.ref I,.int z 0,res],[]⟩) R s:=by
 intro k;induction k with
 | zero=>
  intro i s kvs vs z hk hi KP hit hl hp j9 hd rel hz hR;obtain rfl:i=its.length:=by omega
  refine codeAny_builtin tM ?_;rw[Around.under_plainId kF _];show wpAny _ A.in1 (pyNext (.ref I)>>=_) _ _ s;apply XV;refine wpAny_pyNext_list_end hh hit hl Zs λh' eb=>?_;show wpAny _ A.in1 (Builtin.Dict.addKeywords d []>>=_) _ _ _;apply XV;apply W1;apply W1;refine hR h' s.toks vs (λb ob hb _ e=>eb b ob hb e) (hd.extBut eb WJ.symm) ?_;rw[<- KP,drop_length];exact rel
 | succ k ih=>
  intro i s kvs vs z hk hi KP hit hl hp j9 hd rel hz hR;have r9:i<its.length:=by omega
  obtain⟨v,hv⟩:∃v,its[i]?=some v:=⟨its[i],by simp[r9]⟩;obtain⟨q,hq⟩:∃q,qs[i]?=some q:=⟨qs[i],by simp[KP,r9]⟩;obtain⟨a,u,x,rfl,⟨ob,JC,SY,n,HA⟩,ru,rx⟩:=hp i v q hv hq;obtain⟨na,nd⟩:=j9 i _ a hv rfl;refine codeAny_builtin tM ?_;rw[Around.under_plainId kF _];show wpAny _ A.in1 (pyNext (.ref I)>>=_) _ _ s;apply XV;refine wpAny_pyNext_list_item hit hl (x:=.ref a) (by simpa using hv) λh' WK sb=>?_;have OP:h'.get? a=some ob:=(sb.2 a na).trans JC;have CF:h'.DictOf (aR prog w) d vs:=hd.extBut sb.extBut WJ.symm;apply XV;apply wpAny_holding;apply XV;apply wpAny_tryCatch;unfold Builtin.Dict.pairItems;apply XV;refine wpAny_typeOf (T:="tuple") ⟨ob,OP,SY⟩ ?_;rw[NE Zd];apply XV;refine wpAny_seqItems OP HA ?_;apply W1;show wpAny _ _ (holding [u,x] (dictSet d u x)) _ _ _;apply wpAny_holding;have KO:vs.length<=sizeLine:=by rw[<- rel.length];exact lH Zo
  refine wpAny_dictSet_pairs (s:={s with heap:=h' }) (kT ru) CF (λh2 hd2 sb2=>?_) KO;apply W1;refine⟨plainId_quiet kF _,?_⟩;have hl0:=fE kvs q.1 q.2;have ex:∀b o,b≠I->b≠d->s.heap.get? b=some o->h2.get? b=some o:=λb o b1 b2 e=>(sb2.2 b b2).trans ((sb.2 b b1).trans e)
  refine ih (i+1) _ (bB kvs q.1 q.2) (stored vs q.1 x) _ Zo Zo KP ?_ ?_ ?_ j9 hd2 (rel.put q.1 rx) Zo λh3 tk CL k3 hd3 WL=>?_
  ·exact WK.at λo e=>(sb2.2 I WJ).trans e
  ·obtain⟨o,e,r⟩:=hl;exact⟨o,ex l o hIl.symm CW e,r⟩
  ·intro j v q' hj px;obtain⟨a',u',x',rfl,⟨o',T1,r'⟩,rr⟩:=hp j v q' hj px;obtain⟨n1,n2⟩:=j9 j _ a' hj rfl;exact⟨a',u',x',rfl,⟨o',ex a' o' n1 n2 T1,r'⟩,rr⟩
  ·refine hR h3 tk CL (λb o b1 b2 e=>k3 b o b1 b2 (ex b o b1 b2 e)) hd3 ?_;have e1:qs.drop i=q::qs.drop (i+1):=by
    rw[List.drop_eq_getElem_cons Zo]
    congr 1
    have:qs[i]?=some qs[i]:=lD Zo;rw[this]at hq;exact Option.some.inj hq
   rw[e1];exact WL
def xR(hh:A.handled=none){l:TD}{o:Obj}{n:Nat}{its:List S6}{qs:List (bC×V)}{Q:ZB}(VS:s.heap.get? l=some o)(TU:o.cls=.type "list")(CW:o.data=.seq its.toArray n)(WM:o.dict=none)(KP:qs.length=its.length)(hp:∀(j:Nat)(v:S6)(q:bC×V),its[j]?=some v->qs[j]?=some q->Rl s.heap v q)(hz:its.length<=1000)(h:∀h' tk CL,(∀b ob,s.heap.get? b=some ob->h'.get? b=some ob)->h'.DictOf (aR prog w) s.heap.objs.size CL->KV (cS [] qs) CL->Q (.ref s.heap.objs.size) {s with heap:=h',toks:=tk }) :
  wpAny (model prog w) A (call (.type "dict") [.ref l]) Q E s:=by
 refine callType_codes (Q₁:=λobj s₁=>obj=.ref s.heap.objs.size/\s₁={s with heap:=s.heap.push {cls:=.type "dict",data:=.dict #[] } }) F.kt_called_dict (F.kt_typeCall_dict_1 _) F.entry_dict_init (kt_code_dict_new _ ⟨rfl,rfl⟩) ?_;rintro obj s₁ ⟨rfl,rfl⟩;have KQ:(s.heap.push {cls:=.type "dict",data:=.dict #[] }).DictOf (aR prog w) s.heap.objs.size []:=Heap.DictOf.new s.heap;have KR:(s.heap.push {cls:=.type "dict",data:=.dict #[] }).get? l=some o:=gU _ VS;refine⟨KQ.typeIs,F.args_dict_init_2 _ _,?_⟩;unfold Builtin.«dict.__init__»;apply XV;unfold Builtin.Dict.selfAndRest;apply XV;refine wpAny_notOrdered_dict KQ.typeIs ?_;show wpAny _ _ (pure (s.heap.objs.size,[Value.ref l])) _ _ _;apply W1;show wpAny _ _ (Builtin.Dict.updateFrom "dict.__init__" s.heap.objs.size (.ref l) [] .none) _ _ _;unfold Builtin.Dict.updateFrom;apply XV;refine wpAny_typeOf (T:="list") ⟨o,KR,TU⟩ ?_;rw[NE Zd];apply XV;refine Pb KR TU CW WM hh λh1 tk k1=>?_;rw[NE (show(none:Option S6).isNone=true from rfl)];apply XV;apply wpAny_rule;have nr:h1.get? l=some o:=k1 _ _ KR;have hL2:h1.IsList l its.toArray:=⟨o,nr,TU,n,CW⟩;have hd2:h1.DictOf (aR prog w) s.heap.objs.size []:=by
  obtain⟨oo,es,ep,ho,r⟩:=KQ;exact⟨oo,es,ep,k1 _ _ ho,r⟩
 have HR:s.heap.objs.size<h1.objs.size:=by
  obtain⟨oo,es,ep,ho,r⟩:=hd2;exact Heap.lt_size ho
 have ltl:l<s.heap.objs.size:=Heap.lt_size VS;apply XV;refine wpAny_pyIter_list (s:={s with heap:=h1,toks:=tk }) hL2 ?_;apply W1;refine⟨plainId_quiet kF _,?_⟩;refine Jq (A:=A.in1) (s:={s with heap:=h1.push {cls:=.type "list_iterator",data:=.fields #[.ref l,.int 0 0] },toks:=tk }) (its:=its) (qs:=qs) (l:=l) hh (ne_of_gt (lt_trans ltl HR)) (ne_of_gt HR) (ne_of_lt ltl) its.length 0 [] [] 0 rfl (zero_le _) KP ⟨_,TW _ rfl,rfl,rfl⟩ ?_ ?_ ?_ (hd2.push _) .nil (by simpa using hz) ?_
 ·exact⟨o,gU _ nr,TU,n,CW⟩
 ·intro j v q hj hq;obtain⟨a,u,x,rfl,⟨ob,JC,r⟩,rr⟩:=hp j v q hj hq;exact⟨a,u,x,rfl,⟨ob,gU _ (k1 _ _ (gU _ JC)),r⟩,rr⟩
 ·intro j v a hj e;obtain⟨q,hq⟩:∃q,qs[j]?=some q:=by
   have:j<its.length:=(Zgs.mp hj).1;exact⟨qs[j],by simp[KP,this]⟩
  obtain⟨a',u,x,e',⟨ob,JC,r⟩,rr⟩:=hp j v q hj hq;rw[e]at e';cases e';have:=Heap.lt_size JC;exact⟨ne_of_lt (lt_trans this HR),ne_of_lt this⟩
 ·intro h' TR CL k' CF WN;refine⟨rfl,h h' TR CL (λb ob e=>?_) CF WN⟩;have:=Heap.lt_size e;exact k' b ob (ne_of_lt (lt_trans this HR)) (ne_of_lt this) (gU _ (k1 _ _ (gU _ e)))
end
section
variable {X:Cx}
abbrev W:=Addr×bC×V
def WAt(H:Hp)(zs:List W):Prop:=∀z∈zs,H z.1=some (.tup [kV z.2.1,z.2.2])
def vP(K:W.Frag):List V->Hp->VK->Prop:=λvs H Q=>match vs with
 | [.ref a]=>∃zs:List W,SqL K H a (zs.map λz=>V.ref z.1)/\WAt H zs/\zs.length<=1000/\∀d,H d=none->Q (.ref d) (aH H d (.dK (cS [] (zs.map (·.2)))))
 | _=>False
def Jr(EN:X.calm=true):CallR X (.type "dict") (vP X.K):=by
 intro pins s σ H xs us Q I r h;unfold vP at h;split at h
 ·rename_i a;obtain⟨zs,hq,hz,aX',q⟩:=h;obtain⟨u,rfl,ru⟩:=gL r;cases ru;obtain⟨its,r1,p1,_⟩:=I.list hq;obtain⟨o,n,ho,hc,AD,hd⟩:=p1;have hl:zs.length=its.length:=by
   have:=r1.length;rw[bP]at this;exact this
  refine xR (I.ok.hd EN) ho hc hd AD (qs:=zs.map (·.2)) (by rw[bP];exact hl) (λj v q' hj px=>?_) Zo λh' tk CL k hd rel=>?_
  ·rw[iK]at px;cases OQ:zs[j]? with
   | none=>rw[OQ]at px;cases px
   | some z=>
    rw[OQ]at px;cases px;have e:=hz z (kS OQ);obtain⟨_,i7,r2,it⟩:=(show ObjOk X.prog X.w H s.heap z.1 (.tup [kV z.2.1,z.2.2]) from I.hok _ _ e);have hj2:j<zs.length:=(Zgs.mp OQ).1;have rv:RelV (V.ref z.1) (its.getD j Value.none):=kE j r1 (by rw[bP];exact hj2) _ (by rw[iK,OQ];rfl);have ev:its.getD j Value.none=v:=by rw[getD_eq_getElem?_getD,hj];rfl
    rw[ev]at rv;cases rv
    cases r2 with
    | cons a1 r3=>
     cases r3 with
     | cons a2 r4=>
      cases r4;exact⟨z.1,_,_,rfl,it,a1,a2⟩
  ·have hf:H s.heap.objs.size=none:=I.hok.fresh (bZ _);refine⟨.ref s.heap.objs.size,_,I.laid (t':=tk) (o:=.dK (cS [] (zs.map (·.2)))) k (bZ _) ⟨?_,?_,CL,rel,hd⟩,rfl,q _ hf⟩
   ·have:=iA (zs.map (·.2)) [];rw[bP]at this;exact lH (by simp at this;omega)
   ·have hb:=I.big;exact beq_eq_false_iff_ne.mpr (ne_of_gt hb)
 ·exact h.elim
def R.eh{K:W.Frag}(EN:X.calm=true)(hK:X.K=K:=by rfl):XC X (.type "dict") (vP K):=hK▸⟨Jr EN⟩
end
def Itd(a:TD)(o:Obj)(kvs:List (bC×V)):It:=
 ⟨λi H=>H a=some (.frz o (.dK kvs))/\i<kvs.length,λi H x H'=>H'=H/\(kvs.map λq=>kV q.1)[i]?=some x,λi H=>H a=some (.frz o (.dK kvs))/\kvs.length<=i⟩
def Pc(a:TD)(o:Obj)(kvs:List (bC×V)):xG (Itd a o kvs) (kvs.map λq=>kV q.1) (λH=>H a=some (.frz o (.dK kvs))):=
 ⟨λi H hi e=>⟨e,by rwa [bP]at hi⟩,λi H x H' _ _ y=>y,λH e=>⟨e,by rw[bP];exact bZ _⟩⟩
section
variable {X:Cx}{pins:Z5}{σ:St}{H:Hp}{s:PP}{a:TD}{o:Obj}{kvs:List (bC×V)}
def oF{P:Program}{w:World}{h:Heap}(ok:HOk P w H h)(e:H a=some (.frz o (.dK kvs))):h.get? a=some o/\(a==sysModules)=false/\∃vs ep,KV kvs vs/\(∃es,o.data=.dict es ep)/\h.DictAt (aR P w) a vs ep:=by
 obtain⟨h1,z,hd,vs,rel,dd⟩:=(show ObjOk P w H h a (.frz o (.dK kvs)) from ok a _ e);obtain⟨ep,d2⟩:=dd.dictAt;obtain⟨o',es,g,r1,r2,r3⟩:=id d2;rw[h1]at g;cases g;exact⟨h1,hd,vs,ep,rel,⟨es,r2⟩,d2⟩
def Js{P:Program}{w:World}{K:W.Frag}{tg:Expr}(a it:TD){ep:Nat}(he:∃es,o.data=.dict es ep):rM P w K tg (Itd a o kvs) [it] it (λi h=>h.IsKeyIter it a i kvs.length ep) where
 mem:=by simp
 obj:=λi h st b hb=>by
  obtain rfl:b=it:=by simpa using hb
  obtain⟨ob,e,c,d⟩:=st;exact⟨ob,e,λv z=>by rw[d]at z;cases z⟩
 keep:=λi h h' st k=>st.at λob e=>k it Zs ob e
 item:=by
  intro X hP hw hK hc i pins s σ H E I hf st hg;subst hP hw hK;obtain⟨ef,hi⟩:=hg;obtain⟨h1,lo,vs,EH,rel,⟨EG,e'⟩,dd⟩:=oF I.hok ef;obtain⟨es,e0⟩:=he;obtain rfl:EH=ep:=by
   rw[e0]at e';cases e';rfl
  have hl:=rel.length;obtain⟨⟨k,x⟩,hx⟩:∃p,vs[i]?=some p:=⟨vs[i],lD Zo⟩;have hk:(kvs.map (·.1))[i]?=some k:=by rw[rel.keys,iK,hx];rfl
  obtain⟨f0,f1,f2,f3,f4,f5⟩:=hf it Zs;rw[hl]at st;refine wpAny_pyNext_dict_item st dd hx λkey h' nq ni sb=>?_
  have I1:Inv X pins σ H {s with heap:=h' }:=I.turned (t':=s.toks) (λb ob hb e=>(sb.2 b hb).trans e) f0 f1 f3 f4 f5;obtain⟨ob,e,c,d⟩:=id ni;have rk:RelV (kV k) key:=by
   rcases bA (show lP k key=true from nq) with⟨j,t,rfl,rfl⟩|⟨z,t,rfl,rfl⟩
   ·exact⟨t,rfl⟩
   ·exact⟨t,rfl⟩
  refine⟨key,rfl,sM (s:={s with heap:=h' }) e c d Zd ⟨kV k,H,I1,rk,⟨rfl,?_⟩,by rw[hl];exact ni,λb hb=>(hf b hb).1⟩⟩;rw[iK]at hk ⊢;cases z:kvs[i]? with
  | none=>rw[z]at hk;cases hk
  | some q=>rw[z]at hk;cases hk;rfl
 done:=by
  intro X hP hw hK hc i pins s σ H E I hf st hg;subst hP hw hK;obtain⟨ef,hi⟩:=hg;obtain⟨h1,lo,vs,EH,rel,⟨EG,e'⟩,dd⟩:=oF I.hok ef;obtain⟨es,e0⟩:=he;obtain rfl:EH=ep:=by
   rw[e0]at e';cases e';rfl
  have hl:=rel.length;rw[hl]at st;obtain⟨f0,f1,f2,f3,f4,f5⟩:=hf it Zs;exact wpAny_pyNext_dict_end (I.ok.hd hc) st dd (List.getElem?_eq_none Zo) λh' eb=>⟨rfl,I.turned (t':=s.toks) (λb ob hb e=>eb b ob hb e) f0 f1 f3 f4 f5⟩
 self:=λ_ _ _ _ _ st h=>wpAny_pyIter_keyiter st h
def Inv.freeze(I:Inv X pins σ H s)(e:H a=some (.dK kvs)):∃ob,s.heap.get? a=some ob/\Inv X pins σ (aH H a (.frz ob (.dK kvs))) s:=by
 obtain⟨z,hd,vs,rel,dd⟩:=sW I.hok e;obtain⟨ob,es,ep,g,r⟩:=id dd;refine⟨ob,g,?_⟩;have:=I.write (t':=s.toks) (h':=s.heap) (x:=a) (e:=a) (o:=.frz ob (.dK kvs)) (by rw[e];exact True.intro) (.inl rfl) (λb u _ q=>q) ⟨ob,g⟩ ⟨g,z,hd,vs,rel,dd⟩;exact this
def Inv.thaw(I:Inv X pins σ H s)(e:H a=some (.frz o (.dK kvs)))(hn:∀o' u,X.H₀ a≠some (.frz o' u)):Inv X pins σ (aH H a (.dK kvs)) s where
 ok:=I.ok
 os:=I.os
 bare:=I.bare
 base:=by
  have na:∀b,H b=none->b≠a:=λb z q=>by rw[q,e]at z;cases z
  refine⟨I.base.keep,I.base.slot,λb ob q n hx=>?_,I.base.there,λb xs q=>?_,λb ob u q=>?_,λb ps q=>?_⟩
  ·have:=I.base.free b ob q n hx;rw[aE (na b this)];exact this
  ·have:=I.base.tups b xs q;rw[aE (aQ this e nofun)];exact this
  ·have:=I.base.frzs b ob u q;by_cases hb:b=a
   ·subst hb;exact IQ q (hn ob u)
   ·rw[aE hb];exact this
  ·obtain⟨more,q2⟩:=I.base.tbls b ps q;exact⟨more,by rw[aE (aQ q2 e nofun)];exact q2⟩
 loc:=I.loc
 cell:=I.cell
 free:=by
  have z:=I.free;rw[aE (λq=>by rw[q,e]at z;cases z)];exact z
 freeC:=λx c h=>by
  have z:=I.freeC x c h;rw[aE (λq=>by rw[q,e]at z;cases z)];exact z
 pin:=λp hp=>by
  obtain⟨p1,p2,p3⟩:=I.pin p hp;refine⟨p1,?_,p3⟩;rw[aE (λq=>by rw[q,e]at p2;cases p2)];exact p2
 hok:=by
  intro b u hb;by_cases q:b=a
  ·subst q;rw[aA]at hb;cases hb;exact(show ObjOk X.prog X.w H s.heap b (.frz o (.dK kvs)) from I.hok b _ e).2
  ·rw[aE q]at hb;refine(I.hok b u hb).stay (λc v _ h=>h) (λc h=>?_) λc xs h=>?_
   ·rw[aE (aQ h e nofun)];exact h
   ·rw[aE (aQ h e nofun)];exact h
 len:=I.len
def Yy(te:TE):TI:=λσ H R=>te σ H λx H1=>mR x λa=>∃kvs,H1 a=some (.dK kvs)/\∀o,R (Itd a o kvs) (aH H1 a (.frz o (.dK kvs)))
def Vn{tg l:Expr}{tl:TE}(hl:PE X l tl):PI X tg l (Yy tl):=by
 intro pins s σ H R I h;refine bH (hl pins s σ H _ I h) ?_;rintro v s1 ⟨x,H1,I1,r1,q1⟩
 (try dsimp only at q1);rw[dB]at q1;obtain⟨a,rfl,kvs,e,q⟩:=q1;cases r1;obtain⟨ob,g,I2⟩:=I1.freeze e;obtain⟨h1,lo,vs,ep,rel,he,dd⟩:=oF I2.hok (aA (a:=a));have hn:(aH H1 a (.frz ob (.dK kvs))) s1.heap.objs.size=none:=I2.hok.fresh (bZ _);refine wpAny_pyIter_dict lo dd ?_;refine⟨s1.heap.objs.size,[s1.heap.objs.size],_,_,_,rfl,I2.kept (t':=s1.toks) λb o e=>gU _ e,Js a _ he,⟨_,TW _ rfl,rfl,?_⟩,λb hb=>?_,q ob⟩
 ·rw[rel.length];rfl
 ·obtain rfl:b=s1.heap.objs.size:=by simpa using hb
  exact I2.fpOk (bZ _) hn
def Rm(t:TE):TE:=λσ H Q=>t σ H λv H2=>∃a kvs o,(∃EO,H a=some (.dK EO))/\H2 a=some (.frz o (.dK kvs))/\Q v (aH H2 a (.dK kvs))
def Pd{e:Expr}{t:TE}(he:PE X e t):PE X e (Rm t):=by
 intro pins s σ H Q I h;refine bH (he pins s σ H _ I h) λu s1 ⟨v,H2,I2,rv,a,kvs,o,⟨EO,e0⟩,e2,q⟩=>⟨v,_,I2.thaw e2 (λo' u' z=>?_),rv,q⟩
 have:=I.base.frzs a o' u' z;rw[e0]at this;cases this
end
def Yz(K:W.Frag)(te:TE)(f:Str):TE:=λσ H Q=>te σ H λx H1=>mR x λa=>∃C dx fs v,H1 a=some (.ins C dx fs)/\Cls K C/\NoAttr K C f/\fs.lookup f=some v/\Q v H1
def Ro(K:W.Frag)(ta tv:TE)(f:Str):TS:=λD σ H=>tv σ H λy H1=>ta σ H1 λx H2=>mR x λa=>∃C dx fs,H2 a=some (.ins C dx fs)/\Cls K C/\NoAttr K C f/\fs.length<1000/\D.nx σ (aH H2 a (.ins C dx (bK f y fs)))
section
variable {X:Cx}{e o value:Expr}{f:Str}{pos pos':Pos}{te ta tv:TE}{K:W.Frag}
def Pe(he:PE X e te)(hb:attributeBase e f X.env (eval e X.env)=eval e X.env):PE X (.Attribute e f pos) (Yz X.K te f):=by
 intro pins s σ H Q I h;refine Nj hb (bH (he pins s σ H _ I h) ?_);rintro u s1 ⟨x,H1,I1,rx,q1⟩;(try dsimp only at q1);rw[dB]at q1;obtain⟨a,rfl,C,dx,fs,v,ea,c,n,l,q⟩:=q1;obtain rfl:u=Value.ref a:=rx;exact zE I1 ea c n l λu' s2 I2 ru=>⟨v,H1,I2,ru,q⟩
def Pf(ha:PE X o ta)(hv:PE X value tv)(hs:swapsWith value (some (.Attribute o f pos')) pos.line X.env=pure false):PS X (.Assign [.Attribute o f pos'] value pos) (Ro X.K ta tv f):=by
 intro pins s σ H D I h;refine plainObj_wpAny_Assign_Attribute (bH (hv pins s σ H _ I h) λu s1 ⟨y,H1,I1,ry,q⟩=>bH (ha pins s1 σ H1 _ I1 q) ?_) hs;rintro ov s2 ⟨x,H2,I2,rx,q1⟩;(try dsimp only at q1);rw[dB]at q1;obtain⟨a,rfl,C,dx,fs,ea,c,n,l,q2⟩:=q1;obtain rfl:ov=Value.ref a:=rx;exact zF I2 ea c n l ry λs3 I3=>⟨σ,_,I3,q2⟩
end
structure cP(P:Program)(w:World)(K:W.Frag)(mg:X7)(base:Heap)(n:Nat)(C:TD)(m:Str)(ps:List Str)(sp:Sp):Prop where
 ex:∃f fd,Cls K C/\Hh K C m f/\jK P w K mg base sY n f fd ps sp/\Binds K fd ps []
structure wO(P:Program)(w:World)(K:W.Frag)(mg:X7)(base:Heap)(n:Nat)(x:Str)(C:TD)(ps:List Str)(dvs:List V)(sp:Sp):Prop where
 ex:∃f fd ds,mg x=some (.ref C)/\Mk K C f/\jK P w K mg base sY n f fd ps sp/\Binds K fd ps ds/\Vals dvs ds
def Ca(C:TD)(m:Str)(sp:Sp)(ta:TE)(t:TA):TE:=λσ H Q=>ta σ H λx H1=>mR x λa=>∃dx fs,H1 a=some (.ins C dx fs)/\fs.lookup m=none/\t σ H1 λvs H2=>sp (.ref a::vs) H2 Q E0
section
variable {X:Cx}{e o:Expr}{es:List Expr}{m x:Str}{p pos apos:Pos}{ta:TE}{t:TA}{C:TD}{n:Nat}{ps:List Str}{sp:Sp}{dvs:List V}
def Jt{pl:Sem Bool}(he:PE X o ta)(c:cP X.prog X.w X.K X.mg X.base n C m ps sp)(hr:Room n X.A)(ha:PA X (e::es) t)(hs:aM e=true)(X8:(backTo pos (starEach es X.env)).any (·.1)=false)(ht:eval (.Call (.Attribute o m apos) (e::es) [] pos) X.env=(do
   let ov←eval o X.env
   standAt apos.atName
   let (f,first)←holding [ov] (getMethod ov m pl)
   callWith pos f first (backTo pos (starEach (e::es) X.env)) (backToKw pos (keywordEach [] X.env)))) :
  PE X (.Call (.Attribute o m apos) (e::es) [] pos) (Ca C m sp ta t):=by
 obtain⟨f,fd,cl,hm,F,hb⟩:=c.ex;intro pins s σ H Q I h;refine W.methodCall_KW (pl:=pl) (bH (he pins s σ H _ I h) ?_) ht;rintro u s1 ⟨x,H1,I1,rx,q1⟩;(try dsimp only at q1);rw[dB]at q1;obtain⟨a,rfl,dx,fs,ea,l,q⟩:=q1;obtain rfl:u=Value.ref a:=rx;refine lE I1 ea cl hm l ?_;refine W.callWith_K (first:=[.ref a]) (h₀:=X.base) I.ok.mod.kin hm.kp (bH (ha pos pins s1 σ H1 _ I1 q) λus s2 ⟨vs,H2,I2,r,q2⟩=>⟨I2.kIn,?_⟩) (bL hs) X8;exact uV (us:=.ref a::us) (vs:=.ref a::vs) (dvs:=[]) (ds:=[]) F hr hb .nil sZ I2 (.cons rfl r) (by rw[append_nil];exact q2)
def Ex{pl:Sem Bool}(he:PE X o ta)(c:cP X.prog X.w X.K X.mg X.base n C m ps sp)(hr:Room n X.A)(ht:eval (.Call (.Attribute o m apos) [] [] pos) X.env=(do
   let ov←eval o X.env
   standAt apos.atName
   let (f,first)←holding [ov] (getMethod ov m pl)
   callWith pos f first (backTo pos (starEach [] X.env)) (backToKw pos (keywordEach [] X.env)))) :
  PE X (.Call (.Attribute o m apos) [] [] pos) (Ca C m sp ta zI):=by
 obtain⟨f,fd,cl,hm,F,hb⟩:=c.ex;intro pins s σ H Q I h;refine W.methodCall_KW (pl:=pl) (bH (he pins s σ H _ I h) ?_) ht;rintro u s1 ⟨x,H1,I1,rx,q1⟩;(try dsimp only at q1);rw[dB]at q1;obtain⟨a,rfl,dx,fs,ea,l,q⟩:=q1;obtain rfl:u=Value.ref a:=rx;refine lE I1 ea cl hm l ?_;exact W.callWith_K0 (first:=[.ref a]) I1.kIn hm.kp (uV (us:=[.ref a]) (vs:=[.ref a]) (dvs:=[]) (ds:=[]) F hr hb .nil sZ I1 (.cons rfl .nil) (by rw[append_nil];exact q))
end
structure FunD(K:W.Frag)(x qual:Str)(st:Stmt)(dv:S6)(f:TD)(fd:FuncData):Prop where
 ex:∃(oc:S6)(od:Option TD)(kV doc pm:S6)(an:Option TD)(cdv ct:S6)(osl:Array (Option S6)),
  fd=W.fnOf x qual (bD st) (aS st) (aB st) dv kV doc pm an cdv ct/\K.lookup f=some ⟨oc,od,.func fd,osl⟩/\W.codeIn K cdv qual=true
section
variable {P:Program}{w:World}{K:W.Frag}{mg:X7}{base:Heap}{x qual:Str}{st:Stmt}{dv:S6}{f C:TD}{fd:FuncData}{N ps:List Str}{k:Nat}{sp:Sp}
def FunD.go(F:FunD K x qual st dv f fd)(S:aG N ps (aB st))(len:∀vs H Q E,sp vs H Q E->vs.length=ps.length)(x8:∀(cdv:S6)(A:Around)(outer:List Env)(s:PP)(H:Hp)(vs:List V)(Q:VK)(E:XK),Room k (A.deeper (envOfC qual (aB st) s.heap.objs.size f cdv))->sp vs H Q E →
   ∃t,XB (nQ sY P w K mg base N qual (aB st) f cdv A outer s H E).nox (aS st) t/\t {nx:=λ_ H'=>Q .non H',rt:=Q } (start N vs) H):jK P w K mg base sY (k+1) f fd ps sp:=by
 obtain⟨oc,od,kV,doc,pm,an,cdv,ct,osl,rfl,lk,yq⟩:=F.ex;refine Qy lk yq S len λA outer s H vs Q E hr GX=>?_;obtain⟨t,h,q⟩:=x8 cdv A outer s H vs Q E hr GX;exact⟨t,h.h.nox,q⟩
structure MethAt(K:W.Frag)(C:TD)(m qual:Str)(st:Stmt)(ps:List Str):Prop where
 cl:Cls K C
 ex:∃f fd,Fun K m qual st f fd/\Hh K C m f/\Binds K fd ps []
def MethAt.go{m:Str}(D:MethAt K C m qual st ps)(S:aG N ps (aB st))(len:∀vs H Q E,sp vs H Q E->vs.length=ps.length)(x8:∀(f:TD)(cdv:S6)(A:Around)(outer:List Env)(s:PP)(H:Hp)(vs:List V)(Q:VK)(E:XK),Room k (A.deeper (envOfC qual (aB st) s.heap.objs.size f cdv))->sp vs H Q E →
   ∃t,XB (nQ sY P w K mg base N qual (aB st) f cdv A outer s H E).nox (aS st) t/\t {nx:=λ_ H'=>Q .non H',rt:=Q } (start N vs) H):cP P w K mg base (k+1) C m ps sp:=by
 obtain⟨f,fd,F,hm,hb⟩:=D.ex;exact⟨f,fd,D.cl,hm,F.go S len (x8 f),hb⟩
structure ClsAt(K:W.Frag)(mg:X7)(x:Str)(C:TD)(qual:Str)(st:Stmt)(ps:List Str)(dvs:List (List V)):Prop where
 ex:∃f fd dv,mg x=some (.ref C)/\FunD K "__init__" qual st dv f fd/\Mk K C f/\∀d∈dvs,∃ds,Binds K fd ps ds/\Vals d ds
def ClsAt.go{dvs:List (List V)}(D:ClsAt K mg x C qual st ps dvs)(S:aG N ps (aB st))(len:∀vs H Q E,sp vs H Q E->vs.length=ps.length)(x8:∀(f:TD)(cdv:S6)(A:Around)(outer:List Env)(s:PP)(H:Hp)(vs:List V)(Q:VK)(E:XK),Room k (A.deeper (envOfC qual (aB st) s.heap.objs.size f cdv))->sp vs H Q E →
   ∃t,XB (nQ sY P w K mg base N qual (aB st) f cdv A outer s H E).nox (aS st) t/\t {nx:=λ_ H'=>Q .non H',rt:=Q } (start N vs) H):∀d∈dvs,wO P w K mg base (k+1) x C ps d sp:=by
 intro d hd;obtain⟨f,fd,dv,e,F,M,hb⟩:=D.ex;obtain⟨ds,b,v⟩:=hb d hd;exact⟨f,fd,ds,e,M,F.go S len (x8 f),b,v⟩
end
namespace R
section
variable {X:Cx}{e o i value:Expr}{es:List Expr}{m x f:Str}{p pos pos' apos:Pos}{te ta tv td ty:TE}{t:TA}{C:TD}{n:Nat}{ps:List Str}{sp:Sp}{dvs:List V}{K:W.Frag}{tg:Expr}
def wD(hl:XE X e te):XI X tg e (Yy te):=⟨Vn hl.h⟩
def jd(he:XE X e te):XE X e (Rm te):=⟨Pd he.h⟩
def ar(he:XE X e te)(hK:X.K=K:=by rfl)(hb:attributeBase e f X.env (eval e X.env)=eval e X.env:=by rfl):XE X (.Attribute e f pos) (Yz K te f):=hK▸⟨Pe he.h hb⟩
def ax(ha:XE X o ta)(hv:XE X value tv)(hK:X.K=K:=by rfl)(hs:swapsWith value (some (.Attribute o f pos')) pos.line X.env=pure false:=by rfl):XS X (.Assign [.Attribute o f pos'] value pos) (Ro K ta tv f):=hK▸⟨Pf ha.h hv.h hs⟩
def av(hu:X.A.units+1<cLine)(ho:XE X o td)(hi:XE X i ty)(hs:Ub i:=by exact λ_ _=>rfl):XE X (.Subscript o i pos) (Rc td ty):=⟨Nt hu ho.h hi.h hs⟩
def ba{pl:Sem Bool}(c:cP X.prog X.w X.K X.mg X.base n C m ps sp)(hr:Room n X.A)(he:XE X o ta)(ha:XA X (e::es) t)(hs:aM e=true:=by rfl)(h2:es.all aM=true:=by rfl)(ht:eval (.Call (.Attribute o m apos) (e::es) [] pos) X.env=(do
   let ov←eval o X.env
   standAt apos.atName
   let (f,first)←holding [ov] (getMethod ov m pl)
   callWith pos f first (backTo pos (starEach (e::es) X.env)) (backToKw pos (keywordEach [] X.env))):=by rfl):XE X (.Call (.Attribute o m apos) (e::es) [] pos) (Ca C m sp ta t):=⟨Jt he.h c hr ha.h hs (fF h2) ht⟩
def bh{pl:Sem Bool}(c:cP X.prog X.w X.K X.mg X.base n C m ps sp)(hr:Room n X.A)(he:XE X o ta)(ht:eval (.Call (.Attribute o m apos) [] [] pos) X.env=(do
   let ov←eval o X.env
   standAt apos.atName
   let (f,first)←holding [ov] (getMethod ov m pl)
   callWith pos f first (backTo pos (starEach [] X.env)) (backToKw pos (keywordEach [] X.env))):=by rfl):XE X (.Call (.Attribute o m apos) [] [] pos) (Ca C m sp ta zI):=⟨Ex he.h c hr ht⟩
def da(c:wO X.prog X.w X.K X.mg X.base n x C ps [] sp)(hr:Room (n+1) X.A)(hg:Gl X x)(ha:XA X (e::es) t)(Z7:(x==("__debug__":Str))=false:=by decide)(hs:aM e=true:=by rfl)(h2:es.all aM=true:=by rfl) :
  XE X (.Call (.Name x p) (e::es) [] pos) (Bc C sp [] E0 t):=by
 obtain⟨f,fd,ds,hm,M,F,hb,hd⟩:=c.ex;exact⟨Nl M F hr hg hm hb hd sZ ha.h Z7 (bL hs) (fF h2)⟩
def ip(c:wO X.prog X.w X.K X.mg X.base n x C ps dvs sp)(hr:Room (n+1) X.A)(hg:Gl X x)(Z7:(x==("__debug__":Str))=false:=by decide) :
  XE X (.Call (.Name x p) [] [] pos) (Bc C sp dvs E0 zI):=by
 obtain⟨f,fd,ds,hm,M,F,hb,hd⟩:=c.ex;exact⟨Hi M F hr hg hm hb hd sZ Z7⟩
end
end R
def fM(prs:List (Str×Int)):List (bC×V):=prs.map λq=>(Sum.inr q.1,V.int q.2)
def bM(prs:List (Str×Int))(n:Str):Int:=(prs.lookup n).getD 0
def qU(prs:List (Str×Int)):(fM prs).map (·.1)=(prs.map (·.1)).map Sum.inr:=by
 unfold fM;rw[map_map,map_map];rfl
def mG(n:Str):∀(prs:List (Str×Int)),aV (fM prs) (Sum.inr n)=(prs.lookup n).map V.int
 | []=>rfl
 | q::r=>by
  unfold fM;rw[map_cons,lookup_cons];by_cases h:n=q.1
  ·subst h;rw[bV rfl];simp
  ·have hb:(n==q.1)=false:=beq_eq_false_iff_ne.mpr h;rw[bR (by intro z;exact h (Sum.inr.inj z).symm),hb];exact mG n r
def vQ(prs:List (Str×Int))(n:Str):(aV (fM prs) (Sum.inr n)).getD (V.int 0)=V.int (bM prs n):=by
 rw[mG];unfold bM;cases prs.lookup n<;>rfl
def kG:∀(more kvs:List (bC×V)),(more.map (·.1)).Nodup->(∀k∈more.map (·.1),aV kvs k=none)->cS kvs more=kvs++more
 | [],kvs,_,_=>(append_nil _).symm
 | p::r,kvs,hn,h=>by
  obtain⟨h1,h2⟩:=nodup_cons.mp hn;show cS (bB kvs p.1 p.2) r=_;have e0:aV kvs p.1=none:=h p.1 Zs;rw[kG r _ h2 λk hk=>?_,gM _ e0]
  ·simp
  ·rw[xB,IS (λ(z:k=p.1)=>h1 (by dsimp only;rw[<- z];exact hk))];exact h k (fL _ hk)
def tO:∀ {l:List Str},l.Nodup->(l.map (Sum.inr:Str->bC)).Nodup
 | [],_=>nodup_nil
 | a::l,h=>by
  obtain⟨h1,h2⟩:=nodup_cons.mp h;refine nodup_cons.mpr ⟨λz=>?_,tO h2⟩;obtain⟨b,hb,e⟩:=Zmm.mp z;cases e;exact h1 hb
def Ey{prs:List (Str×Int)}(h:(prs.map (·.1)).Nodup):cS [] (fM prs)=fM prs:=by
 rw[kG _ _ (by rw[qU];exact tO h) λ_ _=>rfl];rfl
def qV{n:Str}{a:Int}:∀ {prs:List (Str×Int)},(prs.map (·.1)).Nodup->(n,a)∈prs->prs.lookup n=some a
 | [],_,h=>nomatch h
 | q::r,hn,h=>by
  obtain⟨h1,h2⟩:=nodup_cons.mp hn;rw[lookup_cons];rcases mem_cons.mp h with e|h
  ·subst e;simp
  ·have hb:(n==q.1)=false:=beq_eq_false_iff_ne.mpr λ(z:n=q.1)=>h1 (by dsimp only;rw[<- z];exact Zmm.mpr ⟨(n,a),h,rfl⟩)
   rw[hb];exact qV h2 h
def Cb{n:Str}{a:Int}{prs:List (Str×Int)}(hn:(prs.map (·.1)).Nodup)(h:(n,a)∈prs):bM prs n=a:=by
 unfold bM;rw[qV hn h];rfl
def gP(prs:List (Str×Int)):List (Str×Int):=((mY (prs.map (·.1))).filter λn=>decide (0<bM prs n)).map λn=>(n,bM prs n)
def Pg{prs qs:List (Str×Int)}(hn:(prs.map (·.1)).Nodup)(hp:qs.Perm (prs.filter λq=>decide (0<q.2)))(hs:qs.Pairwise λx y=>x.1.cps.toList<=y.1.cps.toList):qs=gP prs:=by
 have hm:∀q∈qs,q∈prs:=λq hq=>(mem_filter.mp (hp.mem_iff.mp hq)).1
 have e1:qs=(qs.map (·.1)).map λn=>(n,bM prs n):=by
  rw[map_map];have:∀q∈qs,q=((λn=>(n,bM prs n))∘λ(x:Str×Int)=>x.1) q:=λq hq=>by
   show q=(q.1,bM prs q.1);rw[Cb hn (show(q.1,q.2)∈prs from hm q hq)]
  conv=>lhs;rw[<- List.map_id qs]
  exact map_congr_left this
 have e2:qs.map (·.1)=(mY (prs.map (·.1))).filter λn=>decide (0<bM prs n):=by
  refine gW _ _ ?_ ?_ ((iP _).filter _)
  ·have a1:=hp.map (·.1);have a2:(prs.filter λq=>decide (0<q.2)).map (·.1)=(prs.map (·.1)).filter λn=>decide (0<bM prs n):=by
    rw[List.filter_map];congr 1;refine List.filter_congr λq hq=>?_;show decide (0<q.2)=decide (0<bM prs q.1);rw[Cb hn (show(q.1,q.2)∈prs from hq)]
   rw[a2]at a1;exact a1.trans ((dC (prs.map (·.1))).symm.filter _)
  ·rw[pairwise_map];exact hs
 rw[e1,e2];rfl
def lI{n:Str}:∀ {prs:List (Str×Int)},n∈prs.map (·.1)->∃a,prs.lookup n=some a
 | q::r,h=>by
  rw[lookup_cons];by_cases e:n=q.1
  ·subst e;exact⟨q.2,Zs⟩
  ·have hb:(n==q.1)=false:=beq_eq_false_iff_ne.mpr e;rw[hb];rcases mem_cons.mp h with z|z
   ·exact IQ z e
   ·exact lI z
structure Ph(K:W.Frag)(C:TD):Prop where
 cl:Cls K C
 nA:NoAttr K C "amounts"
structure BookAt(C:TD)(H:Hp)(p:TD)(prs:List (Str×Int)):Prop where
 ex:∃dx d,H p=some (.ins C dx [("amounts",.ref d)])/\H d=some (.dK (fM prs))
 nd:(prs.map (·.1)).Nodup
def BookAt.same{C:TD}{H H':Hp}{p:TD}{prs:List (Str×Int)}(B:BookAt C H p prs)(s:Same H H'):BookAt C H' p prs:=by
 obtain⟨dx,d,h1,h2⟩:=B.ex;exact⟨⟨dx,d,s _ _ h1,s _ _ h2⟩,B.nd⟩
def Vo(H:Hp)(r:V)(prs:List (Str×Int)):Prop:=(r=.non/\prs=[])∨∃l zs,r=.ref l/\H l=some (.lst (bT zs))/\ZAt H zs/\zs.map (·.2)=prs
def iQ(C:TD):Sp:=λvs H Q _=>∃(p:TD)(n:Str)(prs:List (Str×Int)),vs=[.ref p,.str n]/\BookAt C H p prs/\Q (.int (bM prs n)) H
def qW(C:TD):Sp:=λvs H Q _=>∃(p:TD)(prs:List (Str×Int)),vs=[.ref p]/\BookAt C H p prs/\prs.length<64 ∧
 ∀(l:TD)(zs:List Z)(H':Hp),Same H H'->H l=none->H' l=some (.lst (bT zs))->ZAt H' zs->zs.map (·.2)=gP prs->Q (.ref l) H'
def wz(zs:List Z):List W:=zs.map λz=>(z.1,Sum.inr z.2.1,V.int z.2.2)
def Vp(zs:List Z):((wz zs).map λz=>V.ref z.1)=bT zs:=by
 unfold wz bT;rw[map_map];rfl
def Za{H:Hp}{zs:List Z}(h:ZAt H zs):WAt H (wz zs):=λz hz=>by
 obtain⟨y,hy,rfl⟩:=Zmm.mp hz;exact h y hy
def Vq(zs:List Z):(wz zs).map (·.2)=fM (zs.map (·.2)):=by
 unfold wz fM;rw[map_map,map_map];rfl
def aAG(y:V):bK "amounts" y []=[(("amounts":Str),y)]:=rfl
def aAH(x y:V):bK "amounts" y [(("amounts":Str),x)]=[(("amounts":Str),y)]:=by
 unfold bK;rw[NE rfl]
def fH(y:V):([(("amounts":Str),y)]:List (Str×V)).lookup ("amounts":Str)=some y:=by
 rw[lookup_cons];simp
def vR{m:Str}(y:V)(h:(m==("amounts":Str))=false):([(("amounts":Str),y)]:List (Str×V)).lookup m=none:=by
 rw[lookup_cons,h];rfl
section
variable {X:Cx}
def R.gh(hc:X.calm=true):XC X (.builtin "min") (λvs H Q=>match vs with | [.int i,.int j]=>Q (.int (if j<i then j else i)) H | _=>False):=⟨(Dy hc).imp λvs H Q h=>by
 split at h
 ·exact⟨_,_,rfl,h⟩
 ·exact h.elim⟩
end
inductive DW(one other nm:Str)(n:Int):Str->List V->List (Str×Int)->List (Str×List V)->Prop
 | add:DW one other nm n "add" [.str "add",.str nm,.int n] [(nm,n)] []
 | take:DW one other nm n "take" [.str "take",.str nm,.int n] [(nm,-n)] []
 | move:DW one other nm n "move" [.str "move",.str one,.str other,.int n] [(one,-n),(other,n)] []
 | send:DW one other nm n "send" [.str "send",.str one,.str nm,.int n] [(nm,-n)] [(one,[.str "add",.str nm,.int n])]
 | fetch:DW one other nm n "fetch" [.str "fetch",.str one,.str nm,.int n] [(nm,n)] [(one,[.str "take",.str nm,.int n])]
 | pass:DW one other nm n "pass" [.str "pass",.str one,.str other,.str nm,.int n] [] [(one,[.str "take",.str nm,.int n]),(other,[.str "add",.str nm,.int n])]
structure Zb(wd:Str)(xs:List V)(cs:List (Str×Int))(as:List (Str×List V)):Prop where
 ex:∃one other nm n,DW one other nm n wd xs cs as
def Zc(H:Hp)(q:Str×List V)(v:V):Prop:=∃a d,v=.ref a/\H a=some (.tup [.str q.1,.ref d])/\H d=some (.tup q.2)
def oG:Sp:=λvs H Q _=>∃p wd xs cs as,vs=[.ref p]/\H p=some (.tup xs)/\Zb wd xs cs as/\∀t zs H',Same H H'->H' t=some (.tup (bT zs))->ZAt H' zs->zs.map (·.2)=cs->Q (.ref t) H'
def Ac:Sp:=λvs H Q _=>∃p wd xs cs as,vs=[.ref p]/\H p=some (.tup xs)/\Zb wd xs cs as/\∀t us H',Same H H'->H' t=some (.tup us)->Paired (Zc H') as us->Q (.ref t) H'
abbrev tS(z:Str):TV:=.sc (.str z)
abbrev tI(n:Int):TV:=.sc (.int n)
def isT(f:Str->Int)(cs:List (Str×Int)):List V:=.str "is"::cs.map λq=>V.int (f q.1+q.2)
def tP(C:TD):Sp:=λvs H Q _=>∃b p wd xs cs as prs,vs=[.ref b,.ref p]/\BookAt C H b prs/\H p=some (.tup xs)/\Zb wd xs cs as/\∀t H',Same H H'->H' t=some (.tup (isT (bM prs) cs))->Q (.ref t) H'
def iR(f:Str->Int)(last:TV):List (Str×Int)->TV
 | []=>last
 | q::r=>if q.2<0/\f q.1+q.2<0 then .tp [tS "short",tI (f q.1)] else if 0<q.2/\1000000000000<f q.1+q.2 then .tp [tS "full",tI (f q.1)] else iR f last r
def xS(f:Str->Int)(last:TV)(q:Str×Int)(r:List (Str×Int)):iR f last (q::r)=if q.2<0/\f q.1+q.2<0 then .tp [tS "short",tI (f q.1)] else if 0<q.2/\1000000000000<f q.1+q.2 then .tp [tS "full",tI (f q.1)] else iR f last r:=rfl
def mH(f:Str->Int)(cs:List (Str×Int))(as:List (Str×List V)):TV:=if as=[] then .tp ((isT f cs).map .sc) else .sc .non
def Cc(C:TD):Sp:=λvs H Q _=>∃b p wd xs cs as prs,vs=[.ref b,.ref p]/\BookAt C H b prs/\H p=some (.tup xs)/\Zb wd xs cs as/\∀v H',Same H H'->RepT H' 1 (iR (bM prs) (mH (bM prs) cs as) cs) v->Q v H'
def Cd{H:Hp}{n:Nat}:∀ {xs:List V},(∀y∈xs,qP y=true)->Paired (RepT H n) (xs.map TV.sc) xs
 | [],_=>.nil
 | y::r,h=>.cons (RepT.scal (h y mZ)) (Cd λz m=>h z (fL _ m))
def Vr(f:Str->Int)(cs:List (Str×Int)):∀y∈isT f cs,qP y=true:=λy hy=>by
 rcases mem_cons.mp hy with rfl|h
 ·rfl
 ·obtain⟨q,_,rfl⟩:=Zmm.mp h;rfl
section
variable {X:Cx}{pins:Z5}{σ:List (Option V)}{H:Hp}{s:PP}{h':Heap}
def Inv.turnLaid{t':Nat}{ch:List TD}{a:TD}{o:HO}(I:Inv X pins σ H s)(hf:∀b∈ch,nF X pins H b)(k:∀b u,b∉ch->s.heap.get? b=some u->h'.get? b=some u)(hp:s.heap.objs.size<=a)(new:ObjOk X.prog X.w (aH H a o) h' a o) :
  Inv X pins σ (aH H a o) {s with heap:=h',toks:=t' }:=by
 have hn:=I.hok.fresh hp;have EF:∀b u,H b=some u->b∉ch:=λb u e z=>by rw[(hf b z).1]at e;cases e
 refine I.step (g':=s.gens) (d':=s.drawn) (ch:=ch) (λb hb=>⟨(hf b hb).2.2.2.1,(hf b hb).2.1,(hf b hb).2.2.2.2.1,(hf b hb).2.2.2.2.2⟩) (λb u _ _ hc e _=>k b u hc e) (λb u _ _ hc e _=>⟨u.slots,k b u hc e⟩)
  (λb u _ e n=>by rw[aE (ne_of_lt (FS (Heap.lt_size e) hp))];exact n) (λb u hc e=>⟨u,k b u hc e⟩) (λb xs e=>by rw[aE (aD e hn)];exact e) (λb v u e=>by rw[aE (aD e hn)];exact e)
  (λb ps e=>⟨#[],by rw[aE (aD e hn),e];simp⟩) (λm hm=>?_) (λb u e=>?_) I.bare
 ·obtain⟨u,es,ep,ho,r⟩:=hm;exact⟨u,es,ep,k _ u (λz=>(hf _ z).2.1 rfl) ho,r⟩
 ·by_cases hb:b=a
  ·subst hb;rw[aA]at e;cases e;exact new
  ·rw[aE hb]at e;refine(I.hok b u e).stay (λc v hc q=>k c v ?_ q) (λc q=>by rw[aE (aD q hn)];exact q) λc xs q=>by rw[aE (aD q hn)];exact q
   rcases hc with z|z
   ·rw[z];exact EF b u e
   ·exact EF c _ z
def Inv.turnL{t':Nat}{ch:List TD}(I:Inv X pins σ H s)(hf:∀b∈ch,nF X pins H b)(k:∀b u,b∉ch->s.heap.get? b=some u->h'.get? b=some u):Inv X pins σ H {s with heap:=h',toks:=t' }:=by
 have EF:∀b u,H b=some u->b∉ch:=λb u e z=>by rw[(hf b z).1]at e;cases e
 refine I.step (g':=s.gens) (d':=s.drawn) (ch:=ch) (λb hb=>⟨(hf b hb).2.2.2.1,(hf b hb).2.1,(hf b hb).2.2.2.2.1,(hf b hb).2.2.2.2.2⟩) (λb u _ _ hc e _=>k b u hc e) (λb u _ _ hc e _=>⟨u.slots,k b u hc e⟩)
  (λ_ _ _ _ n=>n) (λb u hc e=>⟨u,k b u hc e⟩) (λ_ _ e=>e) (λ_ _ _ e=>e) (λb ps e=>⟨#[],by rw[e];simp⟩) (λm hm=>?_) (λb u e=>?_) I.bare
 ·obtain⟨u,es,ep,ho,r⟩:=hm;exact⟨u,es,ep,k _ u (λz=>(hf _ z).2.1 rfl) ho,r⟩
 ·refine(I.hok b u e).stay (λc v hc q=>k c v ?_ q) (λ_ q=>q) λ_ _ q=>q;rcases hc with z|z
  ·rw[z];exact EF b u e
  ·exact EF c _ z
end
section
variable {X:Cx}
def jT(xs ys:List V):Bool:=(List.range (min xs.length ys.length)).all (λj=>Ef (xs.getD j .non) (ys.getD j .non))&&xs.length==ys.length
def Pi(neg:Bool):R2:=λx y H Q=>mR x λa=>mR y λb=>∃xs ys,H a=some (.tup xs)/\H b=some (.tup ys)/\(∀(j:Nat)(u v:V),xs[j]?=some u->ys[j]?=some v->dA u=true/\dA v=true)/\Q (.bl (if neg then !jT xs ys else jT xs ys)) H
def Ju(neg:Bool)(hu:X.A.units+64<cLine):OpR X (compareOp (if neg then .NotEq else .Eq)) (Pi neg):=by
 intro pins s σ H x y v u Q I rx ry h;unfold Pi at h;rw[dB]at h;obtain⟨a,rfl,h⟩:=h;rw[dB]at h;obtain⟨b,rfl,xs,ys,g1,g2,fl,q⟩:=h;cases rx;cases ry;obtain⟨its,ri,ti,_⟩:=I.tuple (QZd g1);obtain⟨i7,CJ,DZ,_⟩:=I.tuple (QZd g2);have GZ:its.length=xs.length:=ri.length.symm;have EA:i7.length=ys.length:=CJ.length.symm;have each:∀j (h1:j<its.toArray.size) (h2:j<i7.toArray.size),SeqAt.EqAt X.A.in1 s its.toArray[j] i7.toArray[j] (Ef (xs.getD j .non) (ys.getD j .non)):=λj h1 h2=>by
  rw[dR]at h1 h2;obtain⟨Z8,q1⟩:=Paired.get' (j:=j) ri h1;obtain⟨sq,q2⟩:=Paired.get' (j:=j) CJ h2;obtain⟨f1,f2⟩:=fl j xs[j] ys[j] (lD Z8) (lD sq);have e1:xs.getD j .non=xs[j]:=by simp[List.getD,Z8]
  have e2:ys.getD j .non=ys[j]:=by simp[List.getD,sq]
  rw[e1,e2];simpa using Hn q1 q2 f1 f2
 have e:((List.range (min its.toArray.size i7.toArray.size)).all (λj=>Ef (xs.getD j .non) (ys.getD j .non))&&its.toArray.size==i7.toArray.size)=jT xs ys:=by
  rw[dR,dR,GZ,EA];rfl
 cases neg with
 | true=>
  have key:=SeqAt.RcNeAt.tuples (A:=X.A) (s:=s) ti DZ Zo each;rw[e]at key;exact key _ _ _ _ ⟨.bl _,H,I,rfl,q⟩
 | false=>
  have key:=SeqAt.RcAt.tuples (A:=X.A) (s:=s) ti DZ Zo each;rw[e]at key;exact key _ _ _ _ ⟨.bl _,H,I,rfl,q⟩
def R.eo(hu:X.A.units+64<cLine):iF X (compareOp .Eq) (Pi false):=⟨Ju false hu⟩
def R.du(hu:X.A.units+64<cLine):iF X (compareOp .NotEq) (Pi true):=⟨Ju true hu⟩
end
section
variable {X:Cx}{o:Expr}{to:TE}{p pos apos cpos:Pos}
def Rp:Ds:=λo i v H Q=>∃a H',o=.ref a/\DPut H a i v H'/\Q H'
def Jv(hu:X.A.units+1<cLine):Mu X Rp:=by
 intro pins s σ H o i v ov iv u Q I ro ri rv h;obtain⟨a,H',rfl,g,q⟩:=h;cases ro;exact Ek hu I g ri rv λs' I'=>⟨H',I',q⟩
def R.br(hu:X.A.units+1<cLine):Vd X Rp:=⟨Jv hu⟩
def aAJ:List V->Hp->VK->Prop:=λvs H Q=>match vs with
 | [.ref a]=>∃kvs,H a=some (.dK kvs)/\∀p,H p=none->Q (.ref p) (aH H p (.dK kvs))
 | _=>False
def vS:V->List V->Hp->VK->Prop:=λx vs H Q=>match x,vs with
 | .ref l,[.str z]=>∃ss:List Str,H l=some (.lst (ss.map V.str))/\z∈ss/\∀j:Nat,ss[j]?=some z->Q (.int j) H
 | _,_=>False
def xT{z:Str}:∀ {ss:List Str},z∈ss->∃j:Nat,ss[j]?=some z/\∀m,m<j->ss[m]?≠some z
 | [],h=>nomatch h
 | y::r,h=>by
  by_cases e:y=z
  ·subst e;exact⟨0,rfl,λm hm=>IQ hm (Nat.not_lt_zero _)⟩
  ·rcases mem_cons.mp h with z'|h
   ·exact IQ z'.symm e
   ·obtain⟨j,hj,hm⟩:=xT h;refine⟨j+1,by simpa using hj,λm JF=>?_⟩
    cases m with
    | zero=>simp;exact e
    | succ m=>simpa using hm m Zo
def Ez:Tw X "list.index" vS:=by
 intro pins s σ H x vs v us Q I rx rv h;unfold vS at h;split at h
 ·rename_i l z;obtain⟨ss,hl,hz,q⟩:=h;cases rx;obtain⟨u,rfl,t',rfl⟩:=rv.one;obtain⟨its,n,r,ho,hsz⟩:=I.lst hl;obtain⟨j,hj,AG⟩:=xT hz;have EI:=r.length;rw[bP]at EI;have WO:j<ss.length:=(Zgs.mp hj).1;have fl:(ss.map V.str).all dA=true:=by simp[dA]
  have ats:∀(m:Nat)(hm:m<its.length),wZ (.str z) its[m]=decide (ss[m]?=some z):=λm hm=>by
   have JF:m<ss.length:=by omega
   have rv:RelV (V.str ss[m]) (its.getD m Value.none):=kE m r (by rw[bP];exact JF) _ (by rw[iK,lD JF];rfl);have e1:its.getD m Value.none=its[m]:=by rw[getD_eq_getElem?_getD,lD hm];rfl
   rw[e1]at rv;rw[zN rv rfl,lD JF];show decide (ss[m]=z)=_;simp
  refine call_meets PySem.F.slot_list_index ⟨_,ho,rfl⟩ PySem.F.entry_list_index (PySem.F.args_list_index_2 _ _)
   (SeqAt.list_indexAt l its.toArray n none #[] (.str z t') (wZ (.str z)) j (by simp;omega) (by rw[sizeLine_eq,bP]at hsz;omega) ?_ ?_) ⟨ho,λy hy=>iG (x:=.str z) (show RelV (V.str z) (Value.str z t') from⟨t',rfl⟩) rfl r fl y (by simpa using hy),⟨.int j,H,I.tok _,⟨_,rfl⟩,q j hj⟩⟩
  ·have:=ats j Zo;simp only [List.getElem_toArray];rw[this];exact UV hj
  ·intro m hm r9;have JF:m<its.length:=by simpa using hm
   have:=ats m JF;simp only [List.getElem_toArray];rw[this];exact UF (AG m r9)
 ·exact h.elim
def R.gk:XM X "list.index" vS:=⟨Ez⟩
end
def Jw(prs:List (Str×Int))(n:Str)(v:Int):List (Str×Int):=prs.map λq=>if q.1=n then (q.1,v) else q
def Fa(prs:List (Str×Int))(n:Str)(v:Int):(Jw prs n v).map (·.1)=prs.map (·.1):=by
 unfold Jw;rw[map_map];refine map_congr_left λq _=>?_
 show(if q.1=n then (q.1,v) else q).1=q.1;split<;>rfl
def Pj{prs:List (Str×Int)}{n:Str}{v:Int}(h:n∈prs.map (·.1)):bB (fM prs) (Sum.inr n) (.int v)=fM (Jw prs n v):=by
 unfold bB;rw[NE (by rw[cM,mG];obtain⟨a,ha⟩:=lI h;rw[ha];rfl)];unfold fM Jw;rw[map_map,map_map];refine map_congr_left λq _=>?_
 show(if (Sum.inr q.1:bC)=Sum.inr n then (Sum.inr q.1,V.int v) else ((Sum.inr q.1:bC),V.int q.2))=((Sum.inr (if q.1=n then (q.1,v) else q).1:bC),V.int (if q.1=n then (q.1,v) else q).2);by_cases e:q.1=n
 ·rw[NE (by rw[e]),NE e]
 ·rw[IS (λz=>e (Sum.inr.inj z)),IS e]
def vT(C:TD):Sp:=λvs H Q _=>∃(p dx:TD)(r:V)(prs:List (Str×Int)),vs=[.ref p,r]/\H p=some (.ins C dx [])/\Vo H r prs/\(prs.map (·.1)).Nodup/\prs.length<=1000 ∧
 ∀H' d,H d=none->H' p=some (.ins C dx [("amounts",.ref d)])->H' d=some (.dK (fM prs))->(∀b o,H b=some o->b≠p->H' b=some o)->Q .non H'
section
variable {X:Cx}
def Jx(i j:Int):Prop:=0<j/\j<2^64
def Pk:OpR X (binaryOp .FloorDiv) (m2 Jx λi j=>.int (i / j)):=(Zv (C:=Jx) (g:=λi j=>i / j) λi j _ _ s Q E hc q=>by
 have h1:i.fdiv j=i/j:=Int.fdiv_eq_ediv_of_nonneg _ (by have:=hc.1;omega);refine floordiv_int (by have:=hc.1;omega) (by rw[h1];exact q) (.inl (PyProof.noPylong_of_log2 ?_));have h2:j.natAbs<2^64:=by have:=hc.1;have:=hc.2;omega
 exact FS (Nat.log2_lt (by have:=hc.1;omega) |>.mpr h2) Zd).imp vG
def R.er:iF X (binaryOp .FloorDiv) (m2 Jx λi j=>.int (i/j)):=⟨Pk⟩
end
def K1(p:TD)(H H':Hp):Prop:=∀c o,H c=some o->c≠p->H' c=some o
def aAK:List Nat:=LET++Rj
def isKy(z:Str):Prop:=1<=z.length/\z.length<=12/\∀c∈z.cps.toList,c∈aAK
def Wq(K:W.Frag)(a:TD):It:=
  ⟨λi H=>∃xs x,SqL K H a xs/\xs[i]?=some x,
   λi H v H'=>∃t x,H t=none/\v=.ref t/\H'=aH H t (.tup [.int i,x])/\∀xs,SqL K H a xs->xs[i]?=some x,
   λi H=>∃xs,SqL K H a xs/\xs.length<=i⟩
structure ESt(h:Heap)(e it a:TD)(i:Nat):Prop where
 e:∃old,IsEnum h e it i old
 i:h.IsListIter it a i
def Fb{P:Program}{w:World}{K:W.Frag}{es:List Expr}{n:Nat}{pos:Pos}{e it a:TD}(j9:e≠it)(hea:a≠e)(hia:a≠it) :
  rM P w K (.Tuple es n pos) (Wq K a) [e,it] e (λi h=>ESt h e it a i) where
 mem:=by simp
 obj:=λi h st b hb=>by
  obtain⟨old,he⟩:=st.e;obtain⟨o1,e1,_,d1⟩:=st.i;simp only [mem_cons,FM,or_false]at hb;rcases hb with rfl|rfl
  ·exact⟨_,he,λv q=>by have q':Data.fields _=Data.cell v:=q;cases q'⟩
  ·exact⟨_,e1,λv q=>by rw[d1]at q;cases q⟩
 keep:=λi h h' st g=>by
  obtain⟨old,he⟩:=st.e;obtain⟨o1,e1,r⟩:=st.i;exact⟨⟨old,g e Zs _ he⟩,⟨o1,g it Zs _ e1,r⟩⟩
 item:=by
  intro X hP hw hK hc i pins s σ H E I hf st hg;subst hP hw hK;obtain⟨xs,x,hx,ex⟩:=hg;obtain⟨its,rv,p,_⟩:=I.list hx;obtain⟨u,hu,ru⟩:=rv.get ex;obtain⟨old,he⟩:=st.e;refine wpAny_pyNext_enum_item he st.i p.isList (by simpa using hu) j9 λh1 e1 i1 t1 z1 k1=>?_;refine⟨_,rfl,?_⟩;refine wpAny_letOwnedTupleGo_enum e1 λh2 e2 b2=>?_;have elt:e<s.heap.objs.size:=Heap.lt_size he;have t2:h2.get? s.heap.objs.size=some {cls:=.type "tuple",data:=.seq #[.int i s.toks,u] }:=b2.extBut _ _ (ne_of_gt elt) t1;refine⟨.ref s.heap.objs.size,aH H s.heap.objs.size (.tup [.int i,x]),I.turnLaid (t':=s.toks+1) hf (λb o hb e'=>?_) (bZ _) ⟨by show 2<=sizeLine;decide,[.int i s.toks,u],.cons ⟨_,rfl⟩ (.cons ru .nil),⟨_,t2,rfl,_,rfl⟩⟩,rfl,?_,?_,λb hb=>?_⟩
  ·have X9:b≠e/\b≠it:=by simpa using hb
   exact b2.extBut _ _ X9.1 (k1 b o X9.1 X9.2 e')
  ·exact⟨s.heap.objs.size,x,I.hok.fresh (bZ _),rfl,rfl,λzs hz=>by rw[I.list_inj hz hx];exact ex⟩
  ·obtain⟨o1,q1,r1⟩:=i1;exact⟨⟨_,by simpa using e2⟩,⟨o1,b2.extBut _ _ j9.symm q1,r1⟩⟩
  ·have r9:b<s.heap.objs.size:=by
    obtain⟨o1,q1,r1⟩:=st.i;simp only [mem_cons,FM,or_false]at hb;rcases hb with rfl|rfl
    ·exact elt
    ·exact Heap.lt_size q1
   rw[aE (ne_of_lt r9)];exact(hf b hb).1
 done:=by
  intro X hP hw hK hc i pins s σ H E I hf st hg;subst hP hw hK;obtain⟨xs,hx,hl⟩:=hg;obtain⟨its,rv,p,_⟩:=I.list hx;obtain⟨old,he⟩:=st.e;have l1:=rv.length;refine wpAny_pyNext_enum_end (I.ok.hd hc) he st.i p.isList (by simp;omega) λh1 k1=>?_;refine⟨rfl,I.turnL (t':=s.toks) hf λb u hb e'=>?_⟩;have X9:b≠e/\b≠it:=by simpa using hb
  exact k1 b u X9.2 e'
 self:=λ_ _ _ _ _ st h=>by
  obtain⟨old,he⟩:=st.e;exact wpAny_pyIter_enum he h
section
variable {X:Cx}{a b:Expr}{ta tb:TE}{p pos AI:Pos}{es:List Expr}{n:Nat}
def Rq(K:W.Frag)(ta:TE):TI:=λσ H R=>ta σ H λx H1=>mR x λa=>∃xs,SqL K H1 a xs/\R (Wq K a) H1
def Pl(hg:Gl X "enumerate")(hm:X.mg "enumerate"=none)(ha:PE X a ta)(h1:aM a=true):PI X (.Tuple es n AI) (.Call (.Name "enumerate" p) [a] [] pos) (Rq X.K ta):=by
 intro pins s σ H R I h;have hs:starEach [a] X.env=[(false,eval a X.env)]:=by rw[bL h1];rfl
 have hA:PA X [a] (wV ta zI):=Iu ha zJ h1;refine Call_ (pY I hg hm boot_enumerate (PyProof.Rows.callWith_type1 (bH (hA pos pins s σ H (λvs H2=>match vs with|[x]=>(mR x λa1=>∃xs,SqL X.K H2 a1 xs/\R (Wq X.K a1) H2)|_=>False) I ?_) ?_) (by rw[hs];rfl) rfl))
 ·exact h
 ·rintro us s1 ⟨vs,H1,I1,r1,q1⟩;(try dsimp only at q1);split at q1
  rotate_left
  ·exact q1.elim
  rename_i x;rw[dB]at q1;obtain⟨a1,rfl,xs,q2,q⟩:=q1
  cases r1 with
  | cons r rr=>
   cases rr;cases r;obtain⟨its,rv,p1,_⟩:=I1.list q2;refine call_enumerate_list p1.isList λh' he hi hz k=>?_;have I2:Inv X pins σ H1 {s1 with heap:=h' }:=I1.kept (t':=s1.toks) k;have la:a1<s1.heap.objs.size:=by
    obtain⟨o,e',_⟩:=p1.isList;exact Heap.lt_size e'
   refine wpAny_pyIter_enum (s:={s1 with heap:=h' }) he ?_;refine⟨s1.heap.objs.size+1,_,_,_,H1,rfl,I2,Fb (ne_of_gt (lt_succ_self _)) (ne_of_lt (lt_succ_of_lt la)) (ne_of_lt la),⟨⟨_,he⟩,hi⟩,λb hb=>?_,q⟩;have X9:s1.heap.objs.size<=b:=by
    simp only [mem_cons,FM,or_false]at hb;rcases hb with rfl|rfl
    ·exact Nat.le_add_right _ 1
    ·exact bZ _
   exact I1.fpOk X9 (I1.hok.fresh X9)
def R.gm{K:W.Frag}(hg:Gl X "enumerate")(hm:X.mg "enumerate"=none)(ha:XE X a ta)(hK:X.K=K:=by rfl)(h1:aM a=true:=by rfl):XI X (.Tuple es n AI) (.Call (.Name "enumerate" p) [a] [] pos) (Rq K ta):=
 hK▸⟨Pl hg hm ha.h h1⟩
end
def Jy{K:W.Frag}{a:TD}{xs:List V}{g:TG}{tb:TS}{D:hZ}{σ:St}{H:Hp}(Pv:Nat->St->Hp->Prop)(hA:∀i σ H,Pv i σ H->SqL K H a xs)(h0:Pv 0 σ H)(hs:∀(i:Nat)(x:V) σ H t,xs[i]?=some x->Pv i σ H->H t=none->g (.ref t) σ (aH H t (.tup [.int i,x])) λσ2 H2=>tb {D with nx:=Pv (i+1),ct:=Pv (i+1),bk:=D.nx } σ2 H2)(hd:∀ σ H,Pv xs.length σ H->D.nx σ H) :
  ∃W:Nat->Nat->St->Hp->Prop,(∃m,W 0 m σ H)/\∀i m σ H,W i m σ H →
   ((Wq K a).stop i H/\D.nx σ H)∨((Wq K a).go i H/\∃N:St->Hp->Prop,(∀ σ' H',N σ' H'->∃m',m'<m/\W (i+1) m' σ' H')/\∀x H',(Wq K a).yld i H x H'->g x σ H' λσ2 H2=>tb {D with nx:=N,ct:=N,bk:=D.nx } σ2 H2):=by
 refine⟨λi m σ H=>m=xs.length-i/\i<=xs.length/\Pv i σ H,⟨_,rfl,zero_le _,h0⟩,?_⟩;rintro i m σ H ⟨rfl,hi,p⟩;have q1:=hA i σ H p;by_cases r9:i<xs.length
 ·refine .inr ⟨⟨xs,xs[i],q1,lD r9⟩,Pv (i+1),λσ' H' n=>⟨xs.length-(i+1),Zo,rfl,r9,n⟩,?_⟩;rintro v H' ⟨t,x,ht,rfl,rfl,e1⟩;exact hs i x σ H t (e1 xs q1) p ht
 ·have:i=xs.length:=by omega
  subst this;exact .inl ⟨⟨xs,q1,bZ _⟩,hd σ H p⟩
section
variable {X:Cx}{pins:Z5}{σ:St}{H:Hp}{s:PP}{a:TD}{o:Obj}{kvs:List (bC×V)}
def Rr(t:TS):TS:=λD σ H=>t {nx:=λσ' H2=>∃a kvs o,(∃EO,H a=some (.dK EO))/\H2 a=some (.frz o (.dK kvs))/\D.nx σ' (aH H2 a (.dK kvs)),rt:=λ_ _=>False } σ H
def Pn{e:Stmt}{t:TS}(he:PS X e t):PS X e (Rr t):=by
 intro pins s σ H D I h;refine bH (he pins s σ H _ I h) λf s1 q=>?_
 cases f with
 | next=>
  obtain⟨σ',H2,I2,a,kvs,o,⟨EO,e0⟩,e2,q⟩:=q;refine⟨σ',_,I2.thaw e2 (λo' u' z=>?_),q⟩;have:=I.base.frzs a o' u' z;rw[e0]at this;cases this
 | brk=>obtain⟨_,_,_,q⟩:=q;exact q.elim
 | cont=>obtain⟨_,_,_,q⟩:=q;exact q.elim
 | ret u=>obtain⟨_,_,_,_,_,q⟩:=q;exact q.elim
end
namespace R
section
variable {X:Cx}{tg l:Expr}{tl:TE}{apos cpos:Pos}{e:Stmt}{t:TS}
def io(h:XS X e t):XS X e (Rr t):=⟨Pn h.h⟩
end
end R
section
variable {prog:Program}{w:World}{K:Type} [DecidableEq K] {knd:HeapKind prog w K}{A:Around}{E:ZB}{s:PP}{d a:TD}{k:K}
def qX(xs:List (K×TD×S6))(k:K):List (K×TD×S6):=xs.filter λx=>decide (x.1≠k)
def Jz{xs:List (K×TD×S6)}(h:k∉xs.map (·.1)):qX xs k=xs:=by
 unfold qX;rw[filter_eq_self];intro x hx;exact UV λe=>h (Zmm.mpr ⟨x,hx,e⟩)
def pA:∀ {xs:List (K×TD×S6)}{j:Nat}{p:TD×S6},(xs.map (·.1)).Nodup->xs[j]?=some (k,p)->qX xs k=xs.eraseIdx j
 | [],j,p,_,h=>by simp at h
 | x::r,0,p,hn,h=>by
  rw[map_cons,nodup_cons]at hn;have hx:x=(k,p):=by simpa using h
  subst hx;show filter _ _=r;rw[List.filter_cons_of_neg Zs];exact Jz hn.1
 | x::r,j+1,p,hn,h=>by
  rw[map_cons,nodup_cons]at hn;have h':r[j]?=some (k,p):=by simpa using h
  have j9:x.1≠k:=λe=>hn.1 (e▸Zmm.mpr ⟨(k,p),kS h',rfl⟩)
  show filter _ _=x::r.eraseIdx j;rw[List.filter_cons_of_pos (by simpa using j9),<- pA hn.2 h'];rfl
def kY{α β:Type}(f:α->β):∀(l:List α)(i:Nat),(l.map f).eraseIdx i=(l.eraseIdx i).map f
 | [],_=>rfl
 | _::_,0=>rfl
 | x::r,i+1=>by rw[map_cons,List.eraseIdx_cons_succ,List.eraseIdx_cons_succ,map_cons,kY f r i]
def iU{xs:List (K×TD×S6)}{Q:Option DictEntry->PP->Prop}(hu:knd.room A)(nq:knd.is s.heap k a)(hm:s.heap.DictOfH knd d xs)(OR:atKey xs k=none->Q none {s with toks:=s.toks+knd.draws k })(OS:∀e p,atKey xs k=some p->e.val=p.2->∀h',h'.DictOfH knd d (qX xs k)->Heap.SameBut d s.heap h'->Q (some e) {s with heap:=h',toks:=s.toks+knd.draws k })(hsz:xs.length<=sizeLine):wpAny (model prog w) A (Builtin.Dict.takeOut d (.ref a)) Q E s:=by
 obtain⟨o,es,ep,ho,hc,hd,he,WQ,hn⟩:=hm;unfold Builtin.Dict.takeOut;try with_reducible refine wpAny_holding ?_
 refine XV (knd.pyHash hu nq ?_);refine XV (wpAny_dictFind_heap (s:={s with toks:=s.toks+knd.draws k }) hu nq ho hd he WQ hn ?_ ?_)
 ·intro AG;exact W1 (OR (atKey_none_of_get AG))
 ·intro j p hj;refine XV (wpAny_dictEntries (s:={s with toks:=s.toks+knd.draws k }) ho hd ?_);rw[entry_at he j,hj];refine XV (wpAny_updateDictKeys (hz:=by have e:=size_of_entries he;omega) (s:={s with toks:=s.toks+knd.draws k }) ho hd (W1 (OS _ p (atKey_of_get hn hj) rfl _ ⟨_,_,ep+1,Heap.get?_update_self _ ho (Obj.isFreed_of_dict (Obj.data_mapDictKeys hd _)),
   hc.mapDictKeys _,Obj.data_mapDictKeys hd _,?_,?_,?_⟩ (Heap.SameBut.update ..))))
  ·rw[pA hn hj,<- kY,<- he];obtain⟨l⟩:=es;simp
  ·intro x hx;exact knd.keeps (WQ x (mem_filter.mp hx).1) ho hd (Heap.SameBut.update ..)
  ·exact List.Nodup.sublist (List.Sublist.map _ filter_sublist) hn
variable (knd)
def jF(hd:(d==sysModules)=false)(rest:List S6)(OT:rest=[]∨∃dflt,rest=[dflt]) :
    MeetsIn prog w (Builtin.«dict.pop» ⟨.ref d::.ref a::rest,[]⟩) (λA R s=>knd.room A.in1/\∃k xs,knd.is s.heap k a/\s.heap.DictOfH knd d xs/\xs.length<=sizeLine ∧
      ((∃p,atKey xs k=some p/\∀h' t',h'.DictOfH knd d (qX xs k)->Heap.SameBut d s.heap h'->R (.ok (.ret p.2)) {s with heap:=h',toks:=t' })∨
       (∃x,rest=[x]/\atKey xs k=none/\∀t',R (.ok (.ret x)) {s with toks:=t' }))):=
  .of_wp λA R s ⟨hu,k,xs,nq,hm,hsz,h⟩=>by
    have JF:=hm;obtain⟨o,es,ep,ho,hc,AD,he,WQ,hn⟩:=JF;unfold Builtin.«dict.pop»;refine XV ?_;unfold Builtin.Dict.keyAndDefault;refine XV (wpAny_notOrdered_dict hm.typeIs ?_);have HS:es.size=xs.length:=size_of_entries he;rcases OT with rfl|⟨dflt,rfl⟩
    . obtain⟨p,hp,h⟩|⟨x,hx,_⟩:=h
      . show wpAny _ _ (pure (d,Value.ref a,none)) _ _ s
        refine W1 ?_;have hE:es.isEmpty=false:=by
          cases xs with
          | nil=>cases hp
          | cons x r=>rw[Array.isEmpty_eq_false_iff];intro e;rw[e]at HS;simp at HS
        simp only [keyPart,Option.isSome_none,Bool.false_eq_true,if_false];refine XV (wpAny_dictEntries ho AD (XV (W1 ?_)));rw[hE];simp only [Bool.false_eq_true,if_false];refine XV (iU hu nq hm (λhn=>by rw[hn]at hp;cases hp) (λe p' yw hv h' d' hs=>?_) hsz);rw[hp]at yw;cases yw;simp only [Option.isNone_some,Bool.false_eq_true,if_false];exact XV (wpAny_letGo (W1 ⟨e.val,rfl,by rw[hv];exact h h' _ d' hs⟩))
      . cases hx
    . show wpAny _ _ (pure (d,Value.ref a,some dflt)) _ _ s
      refine W1 ?_;simp only [keyPart,Option.isSome_none,Bool.false_eq_true,if_false];refine XV (wpAny_dictEntries ho AD (XV (W1 ?_)));obtain⟨p,hp,h⟩|⟨x,hx,AG,h⟩:=h
      . have hE:es.isEmpty=false:=by
          cases xs with
          | nil=>cases hp
          | cons x r=>rw[Array.isEmpty_eq_false_iff];intro e;rw[e]at HS;simp at HS
        rw[hE];simp only [Bool.false_eq_true,if_false];refine XV (iU hu nq hm (λhn=>by rw[hn]at hp;cases hp) (λe p' yw hv h' d' hs=>?_) hsz);rw[hp]at yw;cases yw;simp only [Option.isNone_some,Bool.false_eq_true,if_false];exact XV (wpAny_letGo (W1 ⟨e.val,rfl,by rw[hv];exact h h' _ d' hs⟩))
      . cases hx
        cases hE:es.isEmpty with
        | true=>
          simp only [if_true];refine XV (wpAny_rule (XV (W1 ?_)));simp only [Option.isNone_none,if_true];refine XV (wpAny_missedRemoval_other hd ?_);exact XV (wpAny_rule (W1 ⟨dflt,rfl,h s.toks⟩))
        | false=>
          simp only [Bool.false_eq_true,if_false];refine XV (iU hu nq hm (λhn=>?_) (λe p' yw hv h' d' hs=>by rw[AG]at yw;cases yw) hsz);simp only [Option.isNone_none,if_true];refine XV (wpAny_missedRemoval_other hd ?_);exact XV (wpAny_rule (W1 ⟨dflt,rfl,h _⟩))
end
section
variable {X:Cx}{pins:Z5}{σ:St}{H:Hp}{s:PP}{a b:TD}{kvs:List (List bC×V)}{k:List bC}{A:Around}{E:ZB}
def KT.drop{kvs:List (List bC×V)}{xs:List (List bC×TD×S6)}(r:KT H kvs xs)(k:List bC):KT H (bI kvs k) (qX xs k):=by
 induction r with
 | nil=>exact .nil
 | @cons p q ps qs h t ih=>
  unfold bI qX;by_cases e:p.1=k
  ·rw[List.filter_cons_of_neg (by simpa using e),List.filter_cons_of_neg (by rw[<- h.1];simpa using e)];exact ih
  ·rw[List.filter_cons_of_pos (by simpa using e),List.filter_cons_of_pos (by rw[<- h.1];simpa using e)];exact .cons h ih
def Ka{v:V}{more:List S6}{Q:ZB}(hu:A.units+1<cLine)(I:Inv X pins σ H s)(e:H a=some (.dT kvs))(eb:H b=some (.tup (k.map kV)))(l:aV kvs k=some v)(hm:more=[]∨∃x,more=[x])(h:∀w' s',Inv X pins σ (aH H a (.dT (bI kvs k))) s'->RelV v w'->Q w' s'):wpAny (model X.prog X.w) A (call (.builtin "dict.pop") (.ref a::.ref b::more)) Q E s:=by
 obtain⟨z,hd,xs,rel,dd⟩:=Hs I.hok e;obtain⟨w',hw,pz⟩:=RelO.some_of (v:=v) (o:=(atKey xs k).map (·.2)) (by rw[<- l];exact rel.val k);obtain⟨p,hp,rfl⟩:=Option.map_eq_some_iff.mp hw;have ha:argsOk "dict.pop" ⟨.ref a::.ref b::more,[]⟩:=by
  rcases hm with q|⟨x,q⟩
  ·subst q;exact PySem.F.args_dict_pop_2 _ _
  ·subst q;exact PySem.F.args_dict_pop_3 _ _ _
 refine call_meetsIn PySem.F.slot_dict_pop dd.typeIs PySem.F.entry_dict_pop ha (jF (tupleKind (aR X.prog X.w)) hd more hm)
  ⟨tupleKind_room_in1 hu,k,xs,jN I.hok eb,dd,by rw[<- Paired.length rel];exact z,.inl ⟨p,hp,λh' t' AH hs=>h _ _ ?_ pz⟩⟩
 obtain⟨q,es,ep,hq,h2,h3,h4,_,h5⟩:=AH;refine kC I (by rw[e];exact True.intro) hs ⟨q,hq⟩ ⟨eS (lS kvs k) z,hd,_,(rel.drop k).keeps λc ys ec=>?_,q,es,ep,hq,h2,h3,h4,h5⟩;rw[aE (aQ ec e nofun)];exact ec
def Po{r:S6}{Q:ZB}(hu:A.units+1<cLine)(I:Inv X pins σ H s)(e:H a=some (.dT kvs))(eb:H b=some (.tup (k.map kV)))(l:aV kvs k=none)(h:∀s',Inv X pins σ H s'->Q r s') :
  wpAny (model X.prog X.w) A (call (.builtin "dict.pop") [.ref a,.ref b,r]) Q E s:=by
 obtain⟨z,hd,xs,rel,dd⟩:=Hs I.hok e;have hn:(atKey xs k).map (·.2)=none:=RelO.none_of (by rw[<- l];exact rel.val k);have VI:atKey xs k=none:=by
  cases q:atKey xs k with
  | none=>rfl
  | some p=>rw[q]at hn;cases hn
 exact call_meetsIn PySem.F.slot_dict_pop dd.typeIs PySem.F.entry_dict_pop (PySem.F.args_dict_pop_3 _ _ _) (jF (tupleKind (aR X.prog X.w)) hd [r] (.inr ⟨r,rfl⟩))
  ⟨tupleKind_room_in1 hu,k,xs,jN I.hok eb,dd,by rw[<- Paired.length rel];exact z,.inr ⟨r,rfl,VI,λt'=>h _ (I.tok _)⟩⟩
end
def Ce(td ty:TE):TE:=λσ H Q=>td σ H λx H1=>∃a,x=.ref a/\Xs H1 a/\ty σ H1 λy H2=>∃kvs k b v,H2 a=some (.dT kvs)/\y=.ref b/\H2 b=some (.tup (k.map kV))/\aV kvs k=some v/\Q v (aH H2 a (.dT (bI kvs k)))
def Cf(td ty tx:TE):TE:=λσ H Q=>td σ H λx H1=>∃a,x=.ref a/\Xs H1 a/\ty σ H1 λy H2=>tx σ H2 λz H3=>∃kvs k b,H3 a=some (.dT kvs)/\y=.ref b/\H3 b=some (.tup (k.map kV)) ∧
 (∀v,aV kvs k=some v->Q v (aH H3 a (.dT (bI kvs k))))/\(aV kvs k=none->Q z H3)
section
variable {X:Cx}{o e f:Expr}{apos cpos:Pos}{td ty tx:TE}
def Fc(hu:X.A.units+1<cLine)(ho:PE X o td)(he:PE X e ty)(m:M1 X o "pop" apos e cpos):PE X (.Call (.Attribute o "pop" apos) [e] [] cpos) (Ce td ty):=by
 intro pins s σ H Q I h;refine wpAny_Call_method m.base m.few m.line PySem.F.plainAttrs_dict PySem.F.slot_dict_pop PySem.F.type_dict_pop (bH (ho pins s σ H _ I h) ?_);rintro u s1 ⟨x,H1,I1,rx,a,ex,d,q1⟩;subst ex;obtain rfl:u=Value.ref a:=rx;obtain⟨t1,t2,_⟩:=qE I1 d;refine⟨t1,t2,?_⟩;rw[m.trees];refine Calls.callWith_builtin rfl (Calls.evalArgs_plain (Calls.spliced_cons (bH (he pins s1 σ H1 _ I1 q1) λiv s2 ⟨y,H2,I2,ry,kvs,k,b,v,ea,ey,eb,l,q2⟩=>Calls.spliced_nil ?_)));subst ey;obtain rfl:iv=Value.ref b:=ry;exact Ka hu I2 ea eb l (.inl rfl) λw' s3 I3 pz=>⟨v,_,I3,pz,q2⟩
def Fd(hu:X.A.units+1<cLine)(ho:PE X o td)(he:PE X e ty)(hf:PE X f tx)(m:M2 X o "pop" apos e f cpos):PE X (.Call (.Attribute o "pop" apos) [e,f] [] cpos) (Cf td ty tx):=by
 intro pins s σ H Q I h;refine wpAny_Call_method m.base m.few m.line PySem.F.plainAttrs_dict PySem.F.slot_dict_pop PySem.F.type_dict_pop (bH (ho pins s σ H _ I h) ?_);rintro u s1 ⟨x,H1,I1,rx,a,ex,d,q1⟩;subst ex;obtain rfl:u=Value.ref a:=rx;obtain⟨t1,t2,_⟩:=qE I1 d;refine⟨t1,t2,?_⟩;rw[m.trees];refine Calls.callWith_builtin rfl (Calls.evalArgs_plain (Calls.spliced_cons (bH (he pins s1 σ H1 _ I1 q1) λiv s2 ⟨y,H2,I2,ry,q2⟩=>
  Calls.spliced_cons (bH (hf pins s2 σ H2 _ I2 q2) λfv s3 ⟨z,H3,I3,rz,kvs,k,b,ea,ey,eb,q3,q4⟩=>Calls.spliced_nil ?_))))
 subst ey;obtain rfl:iv=Value.ref b:=ry
 cases l:aV kvs k with
 | some v=>exact Ka hu I3 ea eb l (.inr ⟨fv,rfl⟩) λw' s4 I4 pz=>⟨v,_,I4,pz,q3 v l⟩
 | none=>exact Po hu I3 ea eb l λs4 I4=>⟨z,H3,I4,rz,q4 l⟩
def R.gv(hu:X.A.units+1<cLine)(ho:XE X o td)(he:XE X e ty)(h1:attributeBase o "pop" X.env (eval o X.env)=eval o X.env:=by rfl)(h3:(apos.endLine == cpos.line)=true:=by rfl)(h2:((backTo cpos (starEach [e] X.env)).all (λx=>!x.1)&&(backToKw cpos (keywordEach [] X.env)).all (λx=>x.1.isSome)
  && decide (([e]:List Expr).length+([]:List Keyword).length+(if ([]:List Keyword).isEmpty then 0 else 1)<30))=true:=by rfl)(h4:backTo cpos (starEach [e] X.env)=[(false,eval e X.env)]:=by rfl):XE X (.Call (.Attribute o "pop" apos) [e] [] cpos) (Ce td ty):=⟨Fc hu ho.h he.h ⟨h1,h2,h3,h4⟩⟩
def R.ia(hu:X.A.units+1<cLine)(ho:XE X o td)(he:XE X e ty)(hf:XE X f tx)(h1:attributeBase o "pop" X.env (eval o X.env)=eval o X.env:=by rfl)(h3:(apos.endLine == cpos.line)=true:=by rfl)(h2:((backTo cpos (starEach [e,f] X.env)).all (λx=>!x.1)&&(backToKw cpos (keywordEach [] X.env)).all (λx=>x.1.isSome)
  && decide (([e,f]:List Expr).length+([]:List Keyword).length+(if ([]:List Keyword).isEmpty then 0 else 1)<30))=true:=by rfl)(h4:backTo cpos (starEach [e,f] X.env)=[(false,eval e X.env),(false,eval f X.env)]:=by rfl):XE X (.Call (.Attribute o "pop" apos) [e,f] [] cpos) (Cf td ty tx):=⟨Fd hu ho.h he.h hf.h ⟨h1,h2,h3,h4⟩⟩
def R.fb{pos:Pos}:XE X (.Dict [] [] pos) Hv:=⟨Hx⟩
end
section
variable {X:Cx}
def Pp(neg:Bool):R2:=λx y H Q=>mR y λa=>∃o,DGet H a x o/\Q (.bl (if neg then !o.isSome else o.isSome)) H
def Kb(neg:Bool)(hu:X.A.units+1<cLine):OpR X (compareOp (if neg then .NotIn else .In)) (Pp neg):=by
 intro pins s σ H x y v u Q I rx ry h;unfold Pp at h;rw[dB]at h;obtain⟨a,rfl,o,g,q⟩:=h;cases ry;cases neg
 ·exact Xp hu I g rx λs' I'=>⟨.bl _,H,I',rfl,q⟩
 ·exact Bi hu I g rx λs' I'=>⟨.bl _,H,I',rfl,q⟩
def R.dw(hu:X.A.units+1<cLine):iF X (compareOp .In) (Pp false):=⟨Kb false hu⟩
def R.ib(hu:X.A.units+1<cLine):iF X (compareOp .NotIn) (Pp true):=⟨Kb true hu⟩
end
inductive KE where
 | busy (n:Int) (d:TD)
 | kept (n t:Int) (d a:TD)
abbrev KM:=Str×Str->Option KE
def KM.set(m:KM)(q:Str×Str)(e:Option KE):KM:=λr=>if r=q then e else m r
def KM.set_same{m:KM}{q:Str×Str}{e:Option KE}:m.set q e q=e:=NE rfl
def KM.set_ne{m:KM}{q r:Str×Str}{e:Option KE}(h:r≠q):m.set q e r=m r:=IS h
def pk(q:Str×Str):List bC:=[Sum.inr q.1,Sum.inr q.2]
def Kc{q r:Str×Str}(h:pk q=pk r):q=r:=by
 obtain⟨a,b⟩:=q;obtain⟨c,d⟩:=r;unfold pk at h;simp only [List.cons.injEq,Sum.inr.injEq,and_true]at h;rw[h.1,h.2]
def iC{H:Hp}{t:TD}{q:Str×Str}(h:H t=some (.tup [.str q.1,.str q.2])):H t=some (.tup ((pk q).map kV)):=h
def fB:KE->Option (List V)
 | .busy n d=>some [.int n,.ref d]
 | .kept ..=>none
def fS:KE->Option (List V)
 | .busy ..=>none
 | .kept n t d a=>some [.int n,.int t,.ref d,.ref a]
structure Dic(H:Hp)(kvs:List (List bC×V))(m:KM)(f:KE->Option (List V))(L:Nat):Prop where
 nd:(kvs.map (·.1)).Nodup
 all:∀p∈kvs,∃q e xs t,p=(pk q,V.ref t)/\m q=some e/\f e=some xs/\H t=some (.tup xs)
 has:∀q e xs,m q=some e->f e=some xs->pk q∈kvs.map (·.1)
 len:kvs.length<=L
section
variable {κ:Type} [DecidableEq κ]
def xU{kvs:List (κ×V)}{k:κ}{v:V}(h:aV kvs k=some v):(k,v)∈kvs:=by
 induction kvs with
 | nil=>cases h
 | cons p r ih=>
  by_cases e:p.1=k
  ·rw[bV e]at h;cases h;cases e;exact mZ
  ·rw[bR e]at h;exact fL _ (ih h)
def Ke{kvs:List (κ×V)}{k:κ}{v:V}{p:κ×V}(h:p∈bB kvs k v):p=(k,v)∨(p∈kvs/\p.1≠k):=by
 cases hv:aV kvs k with
 | none=>
  rw[gM v hv]at h;rcases Zma.mp h with h|h
  ·exact .inr ⟨h,λe=>jO hv (e▸Zmm.mpr ⟨p,h,rfl⟩)⟩
  ·exact .inl (Zms.mp h)
 | some x=>
  unfold bB at h;rw[cM,hv]at h;simp only [Option.isSome_some,if_true]at h;obtain⟨p',yw,rfl⟩:=Zmm.mp h;by_cases e:p'.1=k
  ·rw[NE e];left;rw[e]
  ·rw[IS e];exact .inr ⟨yw,e⟩
def Fe{kvs:List (κ×V)}{k:κ}{v:V}(j:κ):j∈(bB kvs k v).map (·.1)↔j=k∨j∈kvs.map (·.1):=by
 cases hv:aV kvs k with
 | none=>
  rw[gM v hv,jM,Zma];simp only [map_cons,map_nil,Zms];exact Or.comm
 | some x=>
  have e:(bB kvs k v).map (·.1)=kvs.map (·.1):=by
   unfold bB;rw[cM,hv];simp only [Option.isSome_some,if_true,map_map];refine map_congr_left λp _=>?_;simp only [Function.comp];split<;>rfl
  rw[e];exact⟨.inr,λz=>z.elim (λz=>z▸Bk hv) id⟩
def Pq{kvs:List (κ×V)}{k:κ}{v:V}(hn:(kvs.map (·.1)).Nodup):((bB kvs k v).map (·.1)).Nodup:=by
 cases hv:aV kvs k with
 | none=>exact Nw v hn hv
 | some x=>
  have e:(bB kvs k v).map (·.1)=kvs.map (·.1):=by
   unfold bB;rw[cM,hv];simp only [Option.isSome_some,if_true,map_map];refine map_congr_left λp _=>?_;simp only [Function.comp];split<;>rfl
  rw[e];exact hn
def Ad{kvs:List (κ×V)}{k j:κ}(h:j∈kvs.map (·.1))(j9:j≠k):j∈(bI kvs k).map (·.1):=by
 obtain⟨p,hp,rfl⟩:=Zmm.mp h;exact Zmm.mpr ⟨p,mem_filter.mpr ⟨hp,UV j9⟩,rfl⟩
def Kf{kvs:List (κ×V)}{k:κ}{p:κ×V}(h:p∈bI kvs k):p.1≠k:=WF (mem_filter.mp h).2
end
section
variable {H H':Hp}{kvs:List (List bC×V)}{m m':KM}{f:KE->Option (List V)}{L:Nat}{q:Str×Str}
def Dic.keep(h:Dic H kvs m f L)(k:∀b xs,H b=some (.tup xs)->H' b=some (.tup xs)):Dic H' kvs m f L:=
 ⟨h.nd,λp hp=>let ⟨q,e,xs,t,h1,h2,h3,h4⟩:=h.all p hp;⟨q,e,xs,t,h1,h2,h3,k _ _ h4⟩,h.has,h.len⟩
def Dic.more(h:Dic H kvs m f L):Dic H kvs m f (L+1):=⟨h.nd,h.all,h.has,Nat.le_succ_of_le h.len⟩
def Dic.get(h:Dic H kvs m f L)(q:Str×Str):(∃t e xs,aV kvs (pk q)=some (.ref t)/\m q=some e/\f e=some xs/\H t=some (.tup xs))∨(aV kvs (pk q)=none/\∀e,m q=some e->f e=none):=by
 cases hv:aV kvs (pk q) with
 | none=>
  refine .inr ⟨rfl,λe he=>?_⟩
  cases hf:f e with
  | none=>rfl
  | some xs=>exact IQ (h.has q e xs he hf) (jO hv)
 | some v=>
  obtain⟨q',e,xs,t,h1,h2,h3,h4⟩:=h.all _ (xU hv);cases Kc (congrArg Prod.fst h1);cases(congrArg Prod.snd h1:v=V.ref t);exact .inl ⟨t,e,xs,rfl,h2,h3,h4⟩
def Dic.at(h:Dic H kvs m f L){e:KE}{xs:List V}(hm:m q=some e)(hf:f e=some xs):∃t,aV kvs (pk q)=some (.ref t)/\H t=some (.tup xs):=by
 rcases h.get q with⟨t,e',HU,h1,h2,h3,h4⟩|⟨_,h2⟩
 ·rw[hm]at h2;cases h2;rw[hf]at h3;cases h3;exact⟨t,h1,h4⟩
 ·rw[h2 e hm]at hf;cases hf
def Dic.no(h:Dic H kvs m f L)(hm:∀e,m q=some e->f e=none):aV kvs (pk q)=none:=by
 rcases h.get q with⟨t,e',HU,h1,h2,h3,h4⟩|⟨h1,_⟩
 ·rw[hm _ h2]at h3;cases h3
 ·exact h1
def Dic.put(h:Dic H kvs m f L){e:KE}{xs:List V}{t:TD}(hf:f e=some xs)(ht:H t=some (.tup xs))(h1:m' q=some e)(h2:∀r,r≠q->m' r=m r):Dic H (bB kvs (pk q) (.ref t)) m' f (L+1):=by
 refine⟨Pq h.nd,λp hp=>?_,λr e' HU hr OU=>?_,eS (fE _ _ _) (Nat.succ_le_succ h.len)⟩
 ·rcases Ke hp with rfl|⟨hp,j9⟩
  ·exact⟨q,e,xs,t,rfl,h1,hf,ht⟩
  ·obtain⟨r,e',HU,t',rfl,g2,g3,g4⟩:=h.all p hp;exact⟨r,e',HU,t',rfl,by rw[h2 r (λz=>j9 (by rw[z]))];exact g2,g3,g4⟩
 ·rw[Fe];by_cases z:r=q
  ·exact .inl (by rw[z])
  ·exact .inr (h.has r e' HU (by rw[<- h2 r z];exact hr) OU)
def Dic.drop(h:Dic H kvs m f L)(h1:∀e,m' q=some e->f e=none)(h2:∀r,r≠q->m' r=m r):Dic H (bI kvs (pk q)) m' f L:=by
 refine⟨qH h.nd,λp hp=>?_,λr e' HU hr OU=>?_,eS (lS _ _) h.len⟩
 ·obtain⟨r,e',HU,t',rfl,g2,g3,g4⟩:=h.all p (tE hp);exact⟨r,e',HU,t',rfl,by rw[h2 r (λz=>Kf hp (by rw[z]))];exact g2,g3,g4⟩
 ·have z:r≠q:=λz=>by rw[z]at hr;rw[h1 _ hr]at OU;cases OU
  exact Ad (h.has r e' HU (by rw[<- h2 r z];exact hr) OU) (λe=>z (Kc e))
def Dic.skip(h:Dic H kvs m f L)(h0:∀e,m q=some e->f e=none)(h1:∀e,m' q=some e->f e=none)(h2:∀r,r≠q->m' r=m r):Dic H kvs m' f L:=by
 have:=h.drop h1 h2
 rwa [qG (jO (h.no h0))]at this
def Dic.nil:Dic H [] (λ_=>none) f L:=⟨nodup_nil,λp hp=>IQ hp (FM),λq e xs he=>(by cases he),zero_le _⟩
end
structure KF where
 dx:Addr
 db:Addr
 ds:Addr
def Cg(a:KF)(life:Int):List (Str×V):=[("life",.int life),("begun_ones",.ref a.db),("settled_ones",.ref a.ds)]
structure KyAt(C:TD)(H:Hp)(p:TD)(a:KF)(life:Int)(m:KM)(L:Nat):Prop where
 hp:H p=some (.ins C a.dx (Cg a life))
 hb:∃kvs,H a.db=some (.dT kvs)/\Dic H kvs m fB L
 hs:∃kvs,H a.ds=some (.dT kvs)/\Dic H kvs m fS L
 ne:a.db≠a.ds
structure Vs(K:W.Frag)(C:TD):Prop where
 cl:Cls K C
 nL:NoAttr K C "life"
 nB:NoAttr K C "begun_ones"
 nS:NoAttr K C "settled_ones"
def aAL(a:KF)(l:Int):(Cg a l).lookup ("life":Str)=some (.int l):=by unfold Cg;rw[lookup_cons];simp
def vU(a:KF)(l:Int):(Cg a l).lookup ("begun_ones":Str)=some (.ref a.db):=by
 unfold Cg;rw[lookup_cons,(by decide +kernel:(("begun_ones":Str)==("life":Str))=false)];show List.lookup ("begun_ones":Str) [(("begun_ones":Str),V.ref a.db),(("settled_ones":Str),V.ref a.ds)]=_;rw[lookup_cons];simp
def Ff(a:KF)(l:Int):(Cg a l).lookup ("settled_ones":Str)=some (.ref a.ds):=by
 unfold Cg;rw[lookup_cons,(by decide +kernel:(("settled_ones":Str)==("life":Str))=false)];show List.lookup ("settled_ones":Str) [(("begun_ones":Str),V.ref a.db),(("settled_ones":Str),V.ref a.ds)]=_;rw[lookup_cons,(by decide +kernel:(("settled_ones":Str)==("begun_ones":Str))=false)];show List.lookup ("settled_ones":Str) [(("settled_ones":Str),V.ref a.ds)]=_;rw[lookup_cons];simp
def xV{m:Str}(a:KF)(l:Int)(h1:(m==("life":Str))=false)(h2:(m==("begun_ones":Str))=false)(h3:(m==("settled_ones":Str))=false):(Cg a l).lookup m=none:=by
 unfold Cg;rw[lookup_cons,h1];show List.lookup m [(("begun_ones":Str),V.ref a.db),(("settled_ones":Str),V.ref a.ds)]=none;rw[lookup_cons,h2];show List.lookup m [(("settled_ones":Str),V.ref a.ds)]=none;rw[lookup_cons,h3];rfl
section
variable {C:TD}{H H':Hp}{p:TD}{a:KF}{life:Int}{m:KM}{L:Nat}
def KyAt.keep(h:KyAt C H p a life m L)(k:∀b o,H b=some o->(∀xs,o≠.lst xs)->H' b=some o):KyAt C H' p a life m L:=by
 obtain⟨b1,g1,d1⟩:=h.hb;obtain⟨b2,g2,d2⟩:=h.hs;have kt:∀b xs,H b=some (.tup xs)->H' b=some (.tup xs):=λb xs e=>k _ _ e (λ_ z=>nomatch z)
 exact⟨k _ _ h.hp (λ_ z=>nomatch z),⟨b1,k _ _ g1 (λ_ z=>nomatch z),d1.keep kt⟩,⟨b2,k _ _ g2 (λ_ z=>nomatch z),d2.keep kt⟩,h.ne⟩
def KyAt.same(h:KyAt C H p a life m L)(s:Same H H'):KyAt C H' p a life m L:=h.keep λb o e _=>s _ _ e
def KyAt.new(h:KyAt C H p a life m L){m':KM}{L':Nat}{b1 b2:List (List bC×V)}(hp:H' p=H p)(g1:H' a.db=some (.dT b1))(g2:H' a.ds=some (.dT b2))(kt:∀b xs,H b=some (.tup xs)->H' b=some (.tup xs))(d1:Dic H' b1 m' fB L')(d2:Dic H' b2 m' fS L'):KyAt C H' p a life m' L':=
 ⟨hp.trans h.hp,⟨b1,g1,d1⟩,⟨b2,g2,d2⟩,h.ne⟩
end
def Kg(life turn:Int):Option KE->List V
 | none=>[.str "free"]
 | some (.busy n d)=>[.str "busy",.int n,.ref d]
 | some (.kept n t d a)=>if t+life>turn then [.str "kept",.int n,.ref d,.ref a] else [.str "free"]
def FrK(H H':Hp)(a:KF):Prop:=∀c o,H c=some o->c≠a.db->c≠a.ds->H' c=some o
def Ch(C:TD):Sp:=λvs H Q _=>∃(p dx:TD)(life:Int),vs=[.ref p,.int life]/\H p=some (.ins C dx []) ∧
 ∀H' a,H a.db=none->H a.ds=none->KyAt C H' p a life (λ_=>none) 0->(∀b o,H b=some o->b≠p->H' b=some o)->Q .non H'
def Ci:Sp:=λvs H Q _=>∃t l n:Int,vs=[.int t,.int l,.int n]/\Q (.bl (decide (t+l>n))) H
def Kh(C:TD):Sp:=λvs H Q _=>∃p a life m L q now,vs=[.ref p,.str q.1,.str q.2,.int now]/\KyAt C H p a life m L/\∀t H',Same H H'->H' t=some (.tup (Kg life now (m q)))->Q (.ref t) H'
def Cj(C:TD):Sp:=λvs H Q _=>∃p a life m L q n d,vs=[.ref p,.str q.1,.str q.2,.int n,.ref d]/\KyAt C H p a life m L/\L<=500/\(∀n' d',m q≠some (.busy n' d')) ∧
 ∀H',KyAt C H' p a life (m.set q (some (.busy n d))) (L+1)->FrK H H' a->Q .non H'
def Rs(C:TD):Sp:=λvs H Q _=>∃p a life m L t q n d,vs=[.ref p,.ref t]/\KyAt C H p a life m L/\H t=some (.tup [.str q.1,.str q.2])/\m q=some (.busy n d) ∧
 ∀u H',KyAt C H' p a life (m.set q none) L->FrK H H' a->H' u=some (.tup [.int n,.ref d])->Q (.ref u) H'
def xW(C:TD):Sp:=λvs H Q _=>∃p a life m L q n d w z,vs=[.ref p,.str q.1,.str q.2,.int w,.ref z]/\KyAt C H p a life m L/\L<=500/\m q=some (.busy n d) ∧
 ∀H',KyAt C H' p a life (m.set q (some (.kept n w d z))) (L+1)->FrK H H' a->Q .non H'
def R.fe{X:Cx}:XM X "list.extend" Bh:=⟨Ei⟩
section
variable {prog:Program}{w:World}{A:Around}{E:ZB}{s:PP}{u v d:TD}{i n ep:Nat}{od:Obj}{es:Array DictEntry}{ok ov:S6}
def Fg{Q:ZB}(hv:s.heap.IsItemsView v d)(g:s.heap.get? d=some od)(gd:od.data=.dict es ep)(q:Q (.ref s.heap.objs.size) {s with heap:=s.heap.push {cls:=.type "dict_itemiterator",data:=.fields #[.none,.bool false,.ref d,.int 0 0,.int es.size 0,.int ep 0,.none,.none] } }):wpAny (model prog w) A (pyIter (.ref v)) Q E s:=by
 obtain⟨vo,g1,c1,d1⟩:=id hv;refine wpAny_pyIter_slot hv.typeIs PySem.F.slot_dict_items_iter (wpAny_call_entry PySem.F.slot_dict_items_iter hv.typeIs PySem.F.entry_dict_items_iter ?_ (PySem.F.args_dict_items_iter_1 _));unfold Builtin.«dict_items.__iter__»;refine XV (W1 (XV ?_));unfold Builtin.Dict_items.dictOf;refine XV (wpAny_field g1 d1 (x:=.ref d) rfl (W1 (XV ?_)));unfold Builtin.Dict_items.newIterator;refine XV (wpAny_dictEntries g gd (XV (wpAny_dictEpoch g gd ?_)));have own:Builtin.Dict_items.ownsTuple "dict_itemiterator"=true:=by decide
 simp only [own,if_true];refine wpAny_newObj_type (W1 ⟨_,rfl,"dict_itemiterator",_,⟨_,TW _ rfl,rfl⟩,PySem.F.slot_dict_itemiterator_next.lookup,?_⟩) (by simp only [sizeOk,Builtin.Dict_items.ownedTupleFields,dR,wM,wN,length_nil,sizeLine_eq];omega);simpa [rawInt,Builtin.Dict_items.ownedTupleFields]using q
end
def tQ:∀ {vs:List S6}{ns:List Int},IntsAre vs ns->Vals (ns.map V.int) vs
 | _,_,.nil=>.nil
 | _,_,.cons x t h=>.cons ⟨t,rfl⟩ (tQ h)
section
variable {X:Cx}
def vV{α:Type}(xs:List α)(k:Nat)(x:α):List α:=xs.take k++[x]++xs.drop k
def Ck:V->List V->Hp->VK->Prop:=λx vs H Q=>∃(l:TD)(xs:List V)(k:Nat)(y:V),x=.ref l/\vs=[.int (k:Int),y]/\H l=some (.lst xs)/\k<=xs.length/\xs.length<1000/\Q .non (aH H l (.lst (vV xs k y)))
def Ki{k:Nat}(h:k<1000):¬ (!Builtin.List.listFitsIndex (k:Int))=true:=by
 have e1:-(2^63)<=(k:Int):=by omega
 have e2:(k:Int)<2^63:=by omega
 rw[fitsIndex_both e1 e2];exact WP
def tR:∀ {xs:List V}{its:List S6} (k:Nat),Vals xs its->Vals (xs.take k) (its.take k)
 | _,_,0,_=>by simp;exact .nil
 | _,_,k+1,.nil=>by simp;exact .nil
 | _,_,k+1,.cons h t=>by rw[List.take_succ_cons,List.take_succ_cons];exact .cons h (tR k t)
def tT:∀ {xs:List V}{its:List S6} (k:Nat),Vals xs its->Vals (xs.drop k) (its.drop k)
 | _,_,0,h=>by simpa using h
 | _,_,k+1,.nil=>by simp;exact .nil
 | _,_,k+1,.cons h t=>by rw[List.drop_succ_cons,List.drop_succ_cons];exact tT k t
def Vt{s:PP}{A:Around}{E:ZB}{prog:Program}{w:World}{l:TD}{its:List S6}{n:Nat}{k:Int}{t:Tok}{u2:S6}{Q:ZB}(e:s.heap.get? l=some {cls:=.type "list",data:=.seq its.toArray n })(f1:¬ (!Builtin.List.listFitsIndex k)=true)(f2:its.toArray.size<=sizeLine)(q:Q .none {s with heap:=s.heap.update l (Obj.mapSeq λxs=>have k:=if k<0 then (k+(xs.size:Int)).toNat else min k.toNat xs.size;(xs.extract 0 k).push u2++xs.extract k),toks:=s.toks }) :
  wpAny (model prog w) A (call (.builtin "list.insert") [.ref l,.int k t,u2]) Q E s:=by
 have M:=AutoSeq1.list_insert_list_int_val_1 l its.toArray n k t u2 f1 f2;exact call_meets PySem.F.slot_list_insert ⟨_,e,rfl⟩ PySem.F.entry_list_insert (PySem.F.args_list_insert_3 _ _ _) M ⟨e,q⟩
def Fh:Zx X "list.insert" Ck:=by
 intro pins s σ H x vs v us Q I rx rv h;obtain⟨l,xs,k,y,rfl,rfl,hH,hk,hz,q⟩:=h;cases rx;obtain⟨u1,u2,rfl,ru1,ru2⟩:=rv.two;obtain⟨t,rfl⟩:=ru1;obtain⟨z,its,n,r,hl,e⟩:=I.lstM hH;have hlen:(vV xs k y).length=xs.length+1:=by unfold vV;simp;omega
 have hv:Vals (vV xs k y) (vV its k u2):=by
  unfold vV;exact((tR k r).append (.cons ru2 .nil)).append (tT k r)
 have hle:(vV xs k y).length<=sizeLine:=lH (by rw[hlen];omega);refine Vt e (Ki (rY hk hz)) (by rw[dR,<- hl];exact z) ?_;refine⟨.non,_,I.lset (its':=vV its k u2) hH e ?_ hv hle,rfl,q⟩;have h0:¬ ((k:Int)<0):=by omega
 have h1:min (k:Int).toNat its.toArray.size=k:=by rw[dR,<- hl];simp;omega
 simp only [h0,if_false,h1];unfold vV;simp;exact Mm Zs
def R.ic:XM X "list.insert" Ck:=⟨Fh⟩
end
def isKy.len{z:Str}(h:isKy z):z.length<=1000:=eS h.2.1 Zd
section
variable {X:Cx}
def Rt(K:W.Frag):List V->Hp->VK->Prop:=λvs H Q=>∃(p:TD)(ns:List Int),vs=[.ref p]/\SqL K H p (ns.map V.int)/\0<ns.length/\∀M:Int,M∈ns->(∀a∈ns,a<=M)->Q (.int M) H
def Fi(hc:X.calm=true):CallR X (.builtin "max") (Rt X.K):=by
 intro pins s σ H xs us Q I r h;obtain⟨p,ns,rfl,hq,hn,q⟩:=h;obtain⟨u,rfl,ru⟩:=gL r;cases ru;obtain⟨its,rv,pl,hz⟩:=I.list hq;have hi:=qB rv;obtain⟨xs,hx⟩:=hi.allInts.items;have EI:s.heap.IsList p (intItems xs):=hx▸pl.isList;have e1:ns=xs.toList.map (·.1):=by
  rw[<- nums_intItems,<- hx];exact(show numsOf its.toArray.toList=ns from hi.numsOf).symm
 have hsz:ns.length=xs.size:=by rw[e1];simp
 refine max_intList (I.ok.hd hc) EI Zo λv h' tk hv hk=>?_;obtain⟨hle,TX⟩:=argBest_gt (numAt xs) (xs.size-1);generalize argBest (λi j=>decide (numAt xs i>numAt xs j)) (xs.size-1)=k at hv hle TX;obtain⟨t,rfl⟩:=intItems_at hv;have at_:∀j,j<ns.length->numAt xs j=ns.getD j 0:=λj _=>by rw[numAt_eq,e1]
 refine⟨.int _,H,I.kept hk,⟨_,rfl⟩,q _ ?_ ?_⟩
 ·rw[at_ k Zo,getD_eq_getElem?_getD,lD Zo];exact getElem_mem _
 ·intro a ha;obtain⟨j,hj,rfl⟩:=List.getElem_of_mem ha;have:=TX j Zo;rw[at_ j hj,getD_eq_getElem?_getD,lD hj]at this;exact this
def R.ff{K:W.Frag}(hc:X.calm=true)(hK:X.K=K:=by rfl):XC X (.builtin "max") (Rt K):=hK▸⟨Fi hc⟩
end
inductive Dd where
 | add (a:Str) (n:Nat)
 | take (a:Str) (n:Nat)
 | move (a b:Str) (n:Nat)
 | send (h a:Str) (n:Nat)
 | fetch (h a:Str) (n:Nat)
 | pass (h g a:Str) (n:Nat)
namespace Dd
def vs:Dd->List V
 | .add a n=>[.str "add",.str a,.int (n:Int)]
 | .take a n=>[.str "take",.str a,.int (n:Int)]
 | .move a b n=>[.str "move",.str a,.str b,.int (n:Int)]
 | .send h a n=>[.str "send",.str h,.str a,.int (n:Int)]
 | .fetch h a n=>[.str "fetch",.str h,.str a,.int (n:Int)]
 | .pass h g a n=>[.str "pass",.str h,.str g,.str a,.int (n:Int)]
def n:Dd->Nat
 | .add _ n=>n|.take _ n=>n|.move _ _ n=>n|.send _ _ n=>n|.fetch _ _ n=>n|.pass _ _ _ n=>n
def far:Dd->Bool
 | .send _ _ _=>true|.fetch _ _ _=>true|.pass _ _ _ _=>true|_=>false
def Ok:Dd->Prop
 | .add a n=>isNm a/\1<=n/\n<=1000000000000
 | .take a n=>isNm a/\1<=n/\n<=1000000000000
 | .move a b n=>isNm a/\isNm b/\a≠b/\1<=n/\n<=1000000000000
 | .send h a n=>isNm h/\isNm a/\1<=n/\n<=1000000000000
 | .fetch h a n=>isNm h/\isNm a/\1<=n/\n<=1000000000000
 | .pass h g a n=>isNm h/\isNm g/\isNm a/\h≠g/\1<=n/\n<=1000000000000
def Ok.n{d:Dd}(h:d.Ok):1<=d.n/\d.n<=1000000000000:=by
 cases d<;>simp only [Ok]at h<;>simp only [Dd.n]<;>omega
def wd:Dd->Str
 | .add _ _=>"add"|.take _ _=>"take"|.move _ _ _=>"move"|.send _ _ _=>"send"|.fetch _ _ _=>"fetch"|.pass _ _ _ _=>"pass"
end Dd
inductive An where
 | is1 (m:Nat)
 | is2 (l m:Nat)
 | short (m:Nat)
 | full (m:Nat)
 | no (h:Str)
 | ok
namespace An
def vs:An->List V
 | .is1 m=>[.str "is",.int (m:Int)]
 | .is2 l m=>[.str "is",.int (l:Int),.int (m:Int)]
 | .short m=>[.str "short",.int (m:Int)]
 | .full m=>[.str "full",.int (m:Int)]
 | .no h=>[.str "no",.str h]
 | .ok=>[.str "ok"]
def early:An->Bool|.short _=>true|.full _=>true|_=>false
def Of:Dd->An->Prop
 | .add _ n,.is1 m=>n<=m/\m<=1000000000000
 | .add _ n,.full m=>1000000000000<m+n/\m<=1000000000000
 | .take _ n,.is1 m=>m+n<=1000000000000
 | .take _ n,.short m=>m<n
 | .move _ _ n,.is2 l m=>l+n<=1000000000000/\n<=m/\m<=1000000000000
 | .move _ _ n,.short m=>m<n
 | .move _ _ n,.full m=>1000000000000<m+n/\m<=1000000000000
 | .send _ _ n,.is1 m=>m+n<=1000000000000
 | .send _ _ n,.short m=>m<n
 | .send h _ _,.no g=>g=h
 | .fetch _ _ n,.is1 m=>n<=m/\m<=1000000000000
 | .fetch _ _ n,.full m=>1000000000000<m+n/\m<=1000000000000
 | .fetch h _ _,.no g=>g=h
 | .pass h g _ _,.no k=>k=h∨k=g
 | .pass _ _ _ _,.ok=>True
 | _,_=>False
end An
inductive RX where
 | next (n t:Nat)
 | has (z:Str) (m:Nat)
 | kept (n t:Nat) (p k:Str) (d:Dd) (y:An)
 | came (n t:Nat) (p k:Str) (d:Dd)
 | asked (n:Nat)
 | done (n t:Nat) (y:An)
namespace RX
def tvs:List V->TV:=λxs=>.tp (xs.map TV.sc)
end RX
def tV{t u:TS}{D:hZ}{σ:St}{H:Hp}(R:St->Hp->Prop)(h:∀nx:St->Hp->Prop,(∀ σ' H',R σ' H'->nx σ' H')->t {D with nx:=nx } σ H)(h2:∀ σ' H',R σ' H'->u D σ' H'):Gr t u D σ H:=h (u D) h2
def jG{c:TT}{t u:TS}{D:hZ}{σ:St}{H:Hp}(R:Bool->Hp->Prop)(h:∀k:Bool->Hp->Prop,(∀v H',R v H'->k v H')->c σ H k)(ht:∀H',R true H'->t D σ H')(hf:∀H',R false H'->u D σ H'):Gu c t u D σ H:=
 h (λb H1=>if b=true then t D σ H1 else u D σ H1) λv H' r=>match v,r with|true,r=>ht H' r|false,r=>hf H' r
def fN{c:TT}{t u x:TS}{D:hZ}{σ:St}{H:Hp}(R:Bool->Hp->Prop)(h:∀k:Bool->Hp->Prop,(∀v H',R v H'->k v H')->c σ H k)(ht:∀H',R true H'->t {D with nx:=x D } σ H')(hf:∀H',R false H'->u {D with nx:=x D } σ H'):Gr (Gu c t u) x D σ H:=
 h (λb H1=>if b=true then t {D with nx:=x D } σ H1 else u {D with nx:=x D } σ H1) λv H' r=>match v,r with|true,r=>ht H' r|false,r=>hf H' r
def qY:∀ {ks:List Int}{vs:List S6},vs.length=ks.length->(∀(i:Nat)(v:S6),vs[i]?=some v->∃x t,ks[i]?=some x/\v=Value.int x t)->IntsAre vs ks
 | [],[],_,_=>.nil
 | k::ks,v::vs,hl,h=>by
  obtain⟨x,t,e1,rfl⟩:=h 0 v rfl;cases e1;exact .cons k t (qY (by simpa using hl) λi v hv=>by simpa using h (i+1) v (by simpa using hv))
section
variable {prog:Program}{w:World}{A:Around}{E:ZB}{s:PP}
def vW{d:TD}{ss:List Int}{kvs:List (bC×S6)}{Q:ZB}(hh:A.handled=none)(lo:(d==sysModules)=false)(hd:s.heap.DictOf (aR prog w) d kvs)(hk:kvs.map (·.1)=ss.map Sum.inl)(Z6:ss.length<64)(h:∀(h1 h':Heap)(tk:Nat)(out:Array Value)(e:Nat)(AE:List Int),(∀b ob,s.heap.get? b=some ob->h1.get? b=some ob)->(∀b ob,h1.get? b=some ob->h'.get? b=some ob)->h'.get? h1.objs.size=some (seqObj "list" out e)->IntsAre out.toList AE->AE.Perm ss->AE.Pairwise (·<=·)->Q (.ref h1.objs.size) {s with heap:=h',toks:=tk }) :
  wpAny (model prog w) A (call (.builtin "sorted") [.ref d]) Q E s:=by
 have hl:kvs.length=ss.length:=by simpa using congrArg length hk
 obtain⟨ep,hm⟩:=hd.dictAt;apply Calls.call_function_entry kind_sorted plain_sorted entry_sorted (args_sorted1 _);unfold Builtin.«sorted»;apply XV (m:=checkCount "sorted" 1 1 _);apply W1;apply XV;refine W.kdu_collect (W.kdl_dict lo) hh hm (by rw[hl];exact eS (le_of_lt Z6) Zd) λh1 tk acc k1 yu=>?_;have hS:IntsAre acc.toList ss:=qY (by rw[Array.length_toList,yu.1,hl]) λi v hv=>by
  obtain⟨k,x,e1,e2⟩:=yu.2 i v (by simpa using hv);have e3:(kvs.map (·.1))[i]?=some k:=by rw[iK,e1];rfl
  rw[hk,iK]at e3;cases e4:ss[i]? with
  | none=>rw[e4]at e3;cases e3
  | some y=>
   rw[e4]at e3;cases e3;rcases bA (show lP (Sum.inl y) v=true from e2) with⟨z,t,e,ev⟩|⟨_,_,e,_⟩
   ·cases e;exact⟨_,t,rfl,ev⟩
   ·cases e
 generalize acc.toList=vs at hS;have KO:vs.length<64:=by rw[hS.length];exact Z6
 apply XV;apply wpAny_newList
 ·have g2:(h1.push (seqObj "list" vs.toArray 0)).get? h1.objs.size=some (seqObj "list" vs.toArray 0):=TW _ rfl;apply XV;apply wpAny_holding;refine wpAny_call_entry slot_list_sort ⟨_,g2,rfl⟩ entry_list_sort (list_sort_tree (s:={s with heap:=h1.push (seqObj "list" vs.toArray 0),toks:=tk }) g2 hS KO λout AE a1 a2 a3=>⟨_,rfl,W1 ⟨_,rfl,?_⟩⟩) (args_list_sort _);obtain⟨e,he⟩:=sortedHeap_at (out:=out) g2;refine h h1 _ _ _ e AE k1 (λb ob EM=>?_) he a1 a2 a3;have r9:=Heap.lt_size EM;rw[sortedHeap_old (ne_of_lt r9) (by rw[size_push'];exact lt_succ_of_lt r9)];exact gU _ EM
 ·exact eS (le_of_lt KO) Zd
end
section
variable {X:Cx}
def oH:List V->Hp->VK->Prop:=λvs H Q=>match vs with
 | [.ref a]=>∃(ss:List Int)(kvs:List (bC×V)),Rd H a (.dK kvs)/\kvs.map (·.1)=ss.map Sum.inl/\ss.length<64/\∀(l:TD)(AE:List Int),H l=none->AE.Perm ss->AE.Pairwise (·<=·)->Q (.ref l) (aH H l (.lst (AE.map V.int)))
 | _=>False
def Ae(EN:X.calm=true):CallR X (.builtin "sorted") oH:=by
 intro pins s σ H xs us Q I r h;unfold oH at h;split at h
 ·rename_i a;obtain⟨ss,kvs,hq,hk,Z6,q⟩:=h;obtain⟨u,rfl,ru⟩:=gL r;cases ru;obtain⟨_,hd,vs,rel,dd⟩:=lT I.hok hq;refine vW (I.ok.hd EN) hd dd (by rw[<- rel.keys];exact hk) Z6 λh1 h' tk out e AE k1 k he hS hp hs=>?_;have I1:=I.kept (t':=s.toks) k1;refine⟨.ref h1.objs.size,_,I1.laid (t':=tk) (o:=.lst (AE.map V.int)) k (bZ _) ⟨?_,out.toList,e,tQ hS,he⟩,rfl,q _ _ (I1.hok.fresh (bZ _)) hp hs⟩;rw[bP,hp.length_eq];exact eS (le_of_lt Z6) Zd
 ·exact h.elim
def R.dj(EN:X.calm=true):XC X (.builtin "sorted") oH:=⟨Ae EN⟩
end
section
variable {X:Cx}
def Pr(neg:Bool):R2:=λx y H Q=>mR y λa=>∃o,DGet H a x o/\Q (.bl (if neg then !o.isSome else o.isSome)) H
def Kj(neg:Bool)(hu:X.A.units+1<cLine):OpR X (compareOp (if neg then .NotIn else .In)) (Pr neg):=by
 intro pins s σ H x y v u Q I rx ry h;unfold Pr at h;rw[dB]at h;obtain⟨a,rfl,o,g,q⟩:=h;cases ry;cases neg
 ·exact Xp hu I g rx λs' I'=>⟨.bl _,H,I',rfl,q⟩
 ·exact Bi hu I g rx λs' I'=>⟨.bl _,H,I',rfl,q⟩
def R.fg(hu:X.A.units+1<cLine):iF X (compareOp .In) (Pr false):=⟨Kj false hu⟩
def R.dy(hu:X.A.units+1<cLine):iF X (compareOp .NotIn) (Pr true):=⟨Kj true hu⟩
end
def qZ(xs ys:List V):Prop:=∀(j:Nat)(u v:V),xs[j]?=some u->ys[j]?=some v->dA u=true/\dA v=true
def eN{xs:List V}(h:qZ xs xs):jT xs xs=true:=by
 unfold jT;rw[Bool.and_eq_true_iff];refine⟨all_eq_true.mpr λj hj=>?_,Zs⟩;have hj:j<xs.length:=by simpa using hj
 have e:xs.getD j .non=xs[j]:=by simp[List.getD,hj]
 rw[e];have:=(h j xs[j] xs[j] (lD hj) (lD hj)).1;generalize xs[j]=v at this;cases v<;>first|exact IQ (show false=true from this) WP|simp[Ef]
section
variable {X:Cx}{e o:Expr}{es:List Expr}{m:Str}{pos apos cpos:Pos}{ta td ty:TE}{t:TA}{C:TD}{n:Nat}{ps:List Str}{sp:Sp}{dvs:List V}
def R.fh(ho:XE X o td)(he:XE X e ty)(h1:attributeBase o "pop" X.env (eval o X.env)=eval o X.env:=by rfl)(h3:(apos.endLine == cpos.line)=true:=by rfl)(h2:((backTo cpos (starEach [e] X.env)).all (λx=>!x.1)&&(backToKw cpos (keywordEach [] X.env)).all (λx=>x.1.isSome)
  && decide (([e]:List Expr).length+([]:List Keyword).length+(if ([]:List Keyword).isEmpty then 0 else 1)<30))=true:=by rfl)(h4:backTo cpos (starEach [e] X.env)=[(false,eval e X.env)]:=by rfl):XE X (.Call (.Attribute o "pop" apos) [e] [] cpos) (Ia td ty):=⟨Ic ho.h he.h ⟨h1,h2,h3,h4⟩⟩
structure Fj(P:Program)(w:World)(K:W.Frag)(mg:X7)(base:Heap)(n:Nat)(C:TD)(m:Str)(ps:List Str)(dvs:List V)(sp:Sp):Prop where
 ex:∃f fd ds,Cls K C/\Hh K C m f/\jK P w K mg base sY n f fd ps sp/\Binds K fd ps ds/\Vals dvs ds
def Kk(C:TD)(m:Str)(sp:Sp)(dvs:List V)(ta:TE)(t:TA):TE:=λσ H Q=>ta σ H λx H1=>mR x λa=>∃dx fs,H1 a=some (.ins C dx fs)/\fs.lookup m=none/\t σ H1 λvs H2=>sp (.ref a::vs++dvs) H2 Q E0
def Fk{pl:Sem Bool}(he:PE X o ta)(c:Fj X.prog X.w X.K X.mg X.base n C m ps dvs sp)(hr:Room n X.A)(ha:PA X (e::es) t)(hs:aM e=true)(X8:(backTo pos (starEach es X.env)).any (·.1)=false)(ht:eval (.Call (.Attribute o m apos) (e::es) [] pos) X.env=(do
   let ov←eval o X.env
   standAt apos.atName
   let (f,first)←holding [ov] (getMethod ov m pl)
   callWith pos f first (backTo pos (starEach (e::es) X.env)) (backToKw pos (keywordEach [] X.env)))) :
  PE X (.Call (.Attribute o m apos) (e::es) [] pos) (Kk C m sp dvs ta t):=by
 obtain⟨f,fd,ds,cl,hm,F,hb,hd⟩:=c.ex;intro pins s σ H Q I h;refine W.methodCall_KW (pl:=pl) (bH (he pins s σ H _ I h) ?_) ht;rintro u s1 ⟨x,H1,I1,rx,q1⟩;(try dsimp only at q1);rw[dB]at q1;obtain⟨a,rfl,dx,fs,ea,l,q⟩:=q1;obtain rfl:u=Value.ref a:=rx;refine lE I1 ea cl hm l ?_;refine W.callWith_K (first:=[.ref a]) (h₀:=X.base) I.ok.mod.kin hm.kp (bH (ha pos pins s1 σ H1 _ I1 q) λus s2 ⟨vs,H2,I2,r,q2⟩=>⟨I2.kIn,?_⟩) (bL hs) X8;exact uV (us:=.ref a::us) (vs:=.ref a::vs) (dvs:=dvs) (ds:=ds) F hr hb hd sZ I2 (.cons rfl r) q2
def R.dl{pl:Sem Bool}(c:Fj X.prog X.w X.K X.mg X.base n C m ps dvs sp)(hr:Room n X.A)(he:XE X o ta)(ha:XA X (e::es) t)(hs:aM e=true:=by rfl)(h2:es.all aM=true:=by rfl)(ht:eval (.Call (.Attribute o m apos) (e::es) [] pos) X.env=(do
   let ov←eval o X.env
   standAt apos.atName
   let (f,first)←holding [ov] (getMethod ov m pl)
   callWith pos f first (backTo pos (starEach (e::es) X.env)) (backToKw pos (keywordEach [] X.env))):=by rfl):XE X (.Call (.Attribute o m apos) (e::es) [] pos) (Kk C m sp dvs ta t):=⟨Fk he.h c hr ha.h hs (fF h2) ht⟩
end
section
variable {P:Program}{w:World}{K:W.Frag}{mg:X7}{base:Heap}{qual m:Str}{st:Stmt}{C:TD}{N ps:List Str}{k:Nat}{sp:Sp}
structure MethAtD(K:W.Frag)(C:TD)(m qual:Str)(st:Stmt)(ps:List Str)(dvs:List (List V)):Prop where
 cl:Cls K C
 ex:∃f fd dv,FunD K m qual st dv f fd/\Hh K C m f/\∀d∈dvs,∃ds,Binds K fd ps ds/\Vals d ds
def MethAtD.go{dvs:List (List V)}(D:MethAtD K C m qual st ps dvs)(S:aG N ps (aB st))(len:∀vs H Q E,sp vs H Q E->vs.length=ps.length)(x8:∀(f:TD)(cdv:S6)(A:Around)(outer:List Env)(s:PP)(H:Hp)(vs:List V)(Q:VK)(E:XK),Room k (A.deeper (envOfC qual (aB st) s.heap.objs.size f cdv))->sp vs H Q E →
   ∃t,XB (nQ sY P w K mg base N qual (aB st) f cdv A outer s H E).nox (aS st) t/\t {nx:=λ_ H'=>Q .non H',rt:=Q } (start N vs) H):∀d∈dvs,Fj P w K mg base (k+1) C m ps d sp:=by
 intro d hd;obtain⟨f,fd,dv,F,hm,hb⟩:=D.ex;obtain⟨ds,b,v⟩:=hb d hd;exact⟨f,fd,ds,D.cl,hm,F.go S len (x8 f),b,v⟩
end
section
variable {X:Cx}
def Cl(neg:Bool):R2:=λx y H Q=>mS y λz=>(∃u,x=.str u/\Q (.bl (if neg then !decide (u=z) else decide (u=z))) H)∨(∃a xs,x=.ref a/\H a=some (.tup xs)/\Q (.bl neg) H)
def Cm(neg:Bool){op:CmpOp}(HN:op=if neg then .NotEq else .Eq)(hu:X.A.units+64<cLine):OpR X (compareOp op) (Cl neg):=by
 intro pins s σ H x y v u Q I rx ry h;unfold Cl at h;rw[kU]at h;obtain⟨z,rfl,⟨k,rfl,q⟩|⟨a,xs,rfl,g,q⟩⟩:=h
 ·obtain⟨t,rfl⟩:=rx;obtain⟨t',rfl⟩:=ry;have e:decide (k=z)=(k==z):=by rw[Bool.eq_iff_iff];simp
  subst HN;cases neg with
  | true=>
   rw[NE rfl,e]at q;exact SeqAt.RcNeAt.str_str k t z t' _ _ _ _ ⟨.bl _,H,I,rfl,q⟩
  | false=>
   rw[IS Zd,e]at q;exact SeqAt.RcAt.str_str k t z t' _ _ _ _ ⟨.bl _,H,I,rfl,q⟩
 ·cases rx;obtain⟨t,rfl⟩:=ry;obtain⟨its,_,pl,_⟩:=I.tuple (QZd g);subst HN;cases neg with
  | true=>exact SeqAt.RcNeAt.tuple_str z t pl Zo _ _ _ _ ⟨.bl _,H,I,rfl,q⟩
  | false=>exact SeqAt.RcAt.tuple_str z t pl Zo _ _ _ _ ⟨.bl _,H,I,rfl,q⟩
def R.ie(hu:X.A.units+64<cLine):iF X (compareOp .Eq) (Cl false):=⟨Cm false rfl hu⟩
def R.ig(hu:X.A.units+64<cLine):iF X (compareOp .NotEq) (Cl true):=⟨Cm true rfl hu⟩
end
abbrev pH(h:Heap)(it d:TD)(i n ep:Nat)(ok ov x:S6)(f:Bool):Prop:=
 h.get? it=some {cls:=.type "dict_itemiterator",dict:=none,data:=.fields #[x,.bool f,.ref d,.int i 0,.int n 0,.int ep 0,ok,ov],slots:=#[] }
def Vu(u:TD)(x:S6):Prop:=x=.none∨∃a:TD,x=rawInt a/\a≠u
section
variable {prog:Program}{w:World}{A:Around}{E:ZB}{s:PP}{u v d:TD}{i n ep:Nat}{od:Obj}{es:Array DictEntry}{ok ov x:S6}{f:Bool}
def Fl{Q:Option S6->PP->Prop}(jt:pH s.heap u d i n ep ok ov x f)(ho:Vu u x)(g:s.heap.get? d=some od)(gd:od.data=.dict es ep)(hn:es.size=n)(hi:i<es.size)(q:∀h',(∃ok ov x f,pH h' u d (i+1) n ep ok ov x f/\Vu u x)->h'.get? s.heap.objs.size=some {cls:=.type "tuple",data:=.seq #[es[i].key,es[i].val] }->(∀b o,b≠u->s.heap.get? b=some o->h'.get? b=some o)->Q (some (.ref s.heap.objs.size)) {s with heap:=h' }) :
  wpAny (model prog w) A (pyNext (.ref u)) Q E s:=by
 obtain⟨hp,gg,dr,tk,os⟩:=s;have ty:Shared.TypeIs ⟨hp,gg,dr,tk,os⟩ (.ref u) "dict_itemiterator":=⟨_,jt,rfl⟩;have own:Builtin.Dict_items.ownsTuple "dict_itemiterator"=true:=by decide
 unfold pyNext;refine XV (wpAny_attempt (wpAny_callSpecial?_slot (name:=Str.ofString "__next__") ty PySem.F.slot_dict_itemiterator_next (wpAny_call_entry PySem.F.slot_dict_itemiterator_next ty PySem.F.entry_dict_itemiterator_next ?_ (PySem.F.args_dict_itemiterator_next_1 _))));refine XV (W1 (XV (XV ?_)))
 first|refine XV (wpAny_typeNameOfWhole_itemiter ty (W1 (XV (wpAny_fieldsOf jt rfl ?_))))|refine XV (wpAny_typeNameOf_itemiter ty (W1 (XV (wpAny_fieldsOf jt rfl ?_))))
 simp only [own,if_true];show wpAny _ _ (if (Value.ref d==Value.none)=true then _ else _) _ _ _;rw[IS (show ¬ ((Value.ref d==Value.none)=true) from WP)];refine XV (W1 (XV (wpAny_dictEntries g gd ?_)));rw[IS (by rw[hn];simp)];refine XV (W1 (XV (wpAny_dictEpoch g gd ?_)));rw[IS Zs];refine W1 ?_;simp only [show ¬ ((i:Int)<0) from by omega,if_false,Int.toNat_natCast,Array.getElem?_eq_getElem hi];refine XV ?_
 first|refine XV (wpAny_typeNameOfWhole_itemiter ty (W1 (XV (wpAny_isOneOf_itemiter ty ?_))))|refine XV (wpAny_typeNameOf_itemiter ty (W1 (XV (wpAny_isOneOf_itemiter ty ?_))))
 show wpAny _ _ (setField (.ref u) 3 (rawInt ((i:Int)+1))>>=_) _ _ ⟨hp,gg,dr,tk,os⟩;refine XV (wpAny_setField_rec jt Zs λh1 e1 b1=>?_);replace b1:Heap.SameBut u hp h1:=b1;replace e1:pH h1 u d (i+1) n ep ok ov x f:=by
  have ee:((i+1:Nat):Int)=(i:Int)+1:=by omega
  unfold pH;rw[ee];simpa [rawInt]using e1
 have WR:Shared.TypeIs ⟨h1,gg,dr,tk,os⟩ (.ref u) "dict_itemiterator":=⟨_,e1,rfl⟩;refine XV (wpAny_holding (XV (wpAny_isOneOf_itemiter WR (XV (wpAny_isOneOf_itemiter WR ?_)))));show wpAny _ _ (Builtin.Dict_items.pairFromOwner (.ref u) 6 es[i].key es[i].val) _ _ ⟨h1,gg,dr,tk,os⟩;unfold Builtin.Dict_items.pairFromOwner;refine XV (wpAny_newTuple ?_);have e2:pH (h1.push {cls:=.type "tuple",data:=.seq #[es[i].key,es[i].val] }) u d (i+1) n ep ok ov x f:=gU _ e1;have lu:u<hp.objs.size:=Heap.lt_size jt;have z1:h1.objs.size=hp.objs.size:=b1.1;have t2:(h1.push {cls:=.type "tuple",data:=.seq #[es[i].key,es[i].val] }).get? hp.objs.size=some {cls:=.type "tuple",data:=.seq #[es[i].key,es[i].val] }:=by rw[<- z1];exact TW _ rfl
 have k2:∀b o,b≠u->hp.get? b=some o->(h1.push {cls:=.type "tuple",data:=.seq #[es[i].key,es[i].val] }).get? b=some o:=λb o hb e=>gU _ (b1.extBut b o hb e)
 generalize h1.push {cls:=.type "tuple",data:=.seq #[es[i].key,es[i].val] }=h2 at e2 t2 k2;show wpAny _ _ (Builtin.Dict_items.ownedTupleIsFree (.ref u)>>=_) _ _ ⟨h2,gg,dr,tk,os⟩;rw[z1];clear e1 b1 WR z1 h1;refine XV (bH (Q:=λb s'=>(b=true/\s'=⟨h2,gg,dr,tk,os⟩)∨(b=false/\∃h3,s'=⟨h3,gg,dr,tk,os⟩/\Heap.SameBut u h2 h3/\pH h3 u d (i+1) n ep ok ov x true)) ?_ λb s' hb=>?_)
 ·unfold Builtin.Dict_items.ownedTupleIsFree;refine XV (wpAny_field e2 rfl (x:=x) rfl ?_);rcases ho with rfl|⟨a,rfl,hau⟩
  ·exact W1 (.inl ⟨rfl,rfl⟩)
  ·show wpAny _ _ (loadIfAlive ((a:Int).toNat)>>=_) _ _ _;rw[Int.toNat_natCast];refine XV (show wpAny _ _ (loadIfAlive a) _ _ _ from λ_ _ _=>(?_:_));show wpAny _ _ (if ((h2.get? a).isNone=true) then _ else _) _ _ _
   cases h2.get? a with
   | none=>exact W1 (.inl ⟨rfl,rfl⟩)
   | some oa=>
    simp only [Option.isNone_some,Bool.false_eq_true,if_false];refine XV (wpAny_field e2 rfl (x:=.bool f) rfl ?_)
    cases f with
    | true=>exact W1 (.inr ⟨rfl,h2,rfl,Heap.SameBut.refl _ _,e2⟩)
    | false=>
     rw[NE (show(Value.bool false != Value.bool true)=true from rfl)];exact XV (wpAny_setField_rec e2 Zs λh3 e3 b3=>W1 (.inr ⟨rfl,h3,rfl,b3,e3⟩))
 ·rcases hb with⟨rfl,rfl⟩|⟨rfl,h3,rfl,b3,e3⟩
  ·simp only [if_true];refine XV (wpAny_field e2 rfl (x:=ok) rfl (XV (wpAny_field e2 rfl (x:=ov) rfl (XV (wpAny_setField_rec e2 Zs λh3 e3 b3=>?_)))));replace b3:Heap.SameBut u h2 h3:=b3;replace e3:pH h3 u d (i+1) n ep es[i].key ov x f:=e3;refine XV (wpAny_setField_rec e3 Zs λh4 e4 b4=>?_);replace b4:Heap.SameBut u h3 h4:=b4;replace e4:pH h4 u d (i+1) n ep es[i].key es[i].val x f:=e4;refine XV (wpAny_setField_rec e4 Zs λh5 e5 b5=>?_);replace b5:Heap.SameBut u h4 h5:=b5;replace e5:pH h5 u d (i+1) n ep es[i].key es[i].val (rawInt hp.objs.size) f:=e5;refine XV (wpAny_setField_rec e5 Zs λh6 e6 b6=>?_);replace b6:Heap.SameBut u h5 h6:=b6;replace e6:pH h6 u d (i+1) n ep es[i].key es[i].val (rawInt hp.objs.size) false:=e6;have kk:∀b o,b≠u->h2.get? b=some o->h6.get? b=some o:=λb o hb e=>b6.extBut b o hb (b5.extBut b o hb (b4.extBut b o hb (b3.extBut b o hb e)))
   exact XV (wpAny_letGo (W1 (W1 ⟨_,rfl,W1 (q h6 ⟨_,_,_,_,e6,.inr ⟨_,rfl,ne_of_gt lu⟩⟩ (kk _ _ (ne_of_gt lu) t2) λb o hb e=>kk _ _ hb (k2 _ _ hb e))⟩)))
  ·simp only [Bool.false_eq_true,if_false];exact W1 (W1 ⟨_,rfl,W1 (q h3 ⟨_,_,_,_,e3,ho⟩ (b3.extBut _ _ (ne_of_gt lu) t2) λb o hb e=>b3.extBut _ _ hb (k2 _ _ hb e))⟩)
def Kl{Q:Option S6->PP->Prop}(hh:A.handled=none)(jt:pH s.heap u d i n ep ok ov x f)(g:s.heap.get? d=some od)(gd:od.data=.dict es ep)(hn:es.size=n)(hi:es.size<=i)(q:∀h',Heap.ExtBut u s.heap h'->Q none {s with heap:=h' }):wpAny (model prog w) A (pyNext (.ref u)) Q E s:=by
 have ty:s.TypeIs (.ref u) "dict_itemiterator":=⟨_,jt,rfl⟩;have own:Builtin.Dict_items.ownsTuple "dict_itemiterator"=true:=by decide
 unfold pyNext;refine XV (wpAny_attempt (wpAny_callSpecial?_slot (name:=Str.ofString "__next__") ty PySem.F.slot_dict_itemiterator_next (wpAny_call_entry PySem.F.slot_dict_itemiterator_next ty PySem.F.entry_dict_itemiterator_next ?_ (PySem.F.args_dict_itemiterator_next_1 _))));refine XV (W1 (XV (XV ?_)))
 first|refine XV (wpAny_typeNameOfWhole_itemiter ty (W1 (XV (wpAny_fieldsOf jt rfl ?_))))|refine XV (wpAny_typeNameOf_itemiter ty (W1 (XV (wpAny_fieldsOf jt rfl ?_))))
 simp only [own,if_true];show wpAny _ _ (if (Value.ref d==Value.none)=true then _ else _) _ _ s;rw[IS (show ¬ ((Value.ref d==Value.none)=true) from WP)];refine XV (W1 (XV (wpAny_dictEntries g gd ?_)));rw[IS (by rw[hn];simp)];refine XV (W1 (XV (wpAny_dictEpoch g gd ?_)));rw[IS Zs];refine W1 ?_;simp only [show ¬ ((i:Int)<0) from by omega,if_false,Int.toNat_natCast,Array.getElem?_eq_none hi];refine XV ?_
 first|refine XV (wpAny_typeNameOfWhole_itemiter ty (W1 ?_))|refine XV (wpAny_typeNameOf_itemiter ty (W1 ?_))
 show wpAny _ _ (setField (.ref u) 2 .none>>=_) _ _ s;refine XV (wpAny_setField jt rfl Zs ?_);show wpAny _ _ (newExc (.type "StopIteration") []>>=_) _ _ _;refine XV ?_;simp only [newExc,newTuple];refine XV (wpAny_newObj_type ?_ (by size_fits));refine XV (m:=firstArgMember _ _) (wpAny_of_eq (a:=Value.none) (by first|rfl|(simp only [firstArgMember];rfl)) (wpAny_newObj_type ?_ (by size_fits)));simp only [raiseNew];refine XV (wpAny_handled ?_);rw[show A.in1.handled=none from hh];refine XV (W1 (wpAny_throw ?_));exact XV (wpAny_isInstance (T:="StopIteration") (b:=true) ⟨_,TW _ rfl,rfl⟩ isSubtype_stop (W1 (q _ (((Heap.SameBut.update ..).extBut.push _).push _))))
end
def Iti(a:TD)(o:Obj)(kvs:List (bC×V)):It:=
 ⟨λi H=>H a=some (.frz o (.dK kvs))/\i<kvs.length,λi H x H'=>∃t k y,H t=none/\x=.ref t/\H'=aH H t (.tup [kV k,y])/\kvs[i]?=some (k,y),λi H=>H a=some (.frz o (.dK kvs))/\kvs.length<=i⟩
section
variable {X:Cx}{pins:Z5}{σ:St}{H:Hp}{s:PP}{a:TD}{o:Obj}{kvs:List (bC×V)}
def Km{P:Program}{w:World}{K:W.Frag}{nm:Str}{pos:Pos}(a it:TD){ep:Nat}(he:∃es,o.data=.dict es ep):rM P w K (.Name nm pos) (Iti a o kvs) [it] it (λi h=>∃ok ov x f,pH h it a i kvs.length ep ok ov x f/\Vu it x) where
 mem:=by simp
 obj:=λi h st b hb=>by
  obtain rfl:b=it:=by simpa using hb
  obtain⟨ok,ov,x,f,e,_⟩:=st;exact⟨_,e,λv z=>by cases z⟩
 keep:=λi h h' ⟨ok,ov,x,f,e,w⟩ k=>⟨ok,ov,x,f,k it Zs _ e,w⟩
 item:=by
  intro X hP hw hK hc i pins s σ H E I hf st hg;subst hP hw hK;obtain⟨ef,hi⟩:=hg;obtain⟨h1,lo,vs,EH,rel,⟨EG,e'⟩,dd⟩:=oF I.hok ef;obtain⟨es,e0⟩:=he;obtain⟨rfl,rfl⟩:EH=ep/\EG=es:=by
   rw[e0]at e';cases e';exact⟨rfl,rfl⟩
  have hl:=rel.length;obtain⟨od,CM,HA,yq,AD,hk,ND,hn⟩:=id dd;obtain rfl:o=od:=by rw[h1]at HA;cases HA;rfl
  obtain rfl:CM=EG:=by rw[e0]at AD;cases AD;rfl
  have hsz:CM.size=vs.length:=by rw[<- ND.length];simp
  obtain⟨⟨k,x⟩,hx⟩:∃p,vs[i]?=some p:=⟨vs[i],lD Zo⟩;obtain⟨f0,f1,f2,f3,f4,f5⟩:=hf it Zs;obtain⟨ok,ov,x0,f,jt,ho⟩:=st;have elt:it<s.heap.objs.size:=Heap.lt_size jt;have OV:i<CM.size:=by omega
  obtain⟨nq,KS⟩:=ND.get? (e:=CM[i]) (by simp[OV]) hx;refine Fl jt ho h1 e0 Zo OV λh' e1 t1 k1=>⟨_,rfl,?_⟩;show wpAny _ _ (pure ()) _ _ _;refine W1 ?_;have GY:i<vs.length:=by omega
  obtain⟨h2,hk2,hr⟩:=Paired.get' (j:=i) rel GY;have e2:vs[i]=(k,x):=(Zgs.mp hx).2;rw[e2]at hr hk2;have rk:RelV (kV k) CM[i].key:=by
   rcases bA nq with⟨j,t,rfl,e⟩|⟨z,t,rfl,e⟩<;>exact⟨t,e⟩
  have ek:kvs[i]=(k,kvs[i].2):=Prod.ext hk2 rfl;refine⟨.ref s.heap.objs.size,aH H s.heap.objs.size (.tup [kV k,kvs[i].2]),I.turnLaid (t':=s.toks) hf (λb o hb e'=>k1 b o (by simpa using hb) e') (bZ _) ⟨by show 2<=sizeLine;decide,[CM[i].key,CM[i].val],.cons rk (.cons (by rw[KS];exact hr) .nil),⟨_,t1,rfl,_,rfl⟩⟩,rfl,⟨_,_,_,I.hok.fresh (bZ _),rfl,rfl,by rw[lD h2,<- ek]⟩,e1,λb hb=>?_⟩;obtain rfl:b=it:=by simpa using hb
  rw[aE (ne_of_lt elt)];exact f0
 done:=by
  intro X hP hw hK hc i pins s σ H E I hf st hg;subst hP hw hK;obtain⟨ef,hi⟩:=hg;obtain⟨h1,lo,vs,EH,rel,⟨EG,e'⟩,dd⟩:=oF I.hok ef;obtain⟨es,e0⟩:=he;obtain⟨rfl,rfl⟩:EH=ep/\EG=es:=by
   rw[e0]at e';cases e';exact⟨rfl,rfl⟩
  have hl:=rel.length;obtain⟨od,CM,HA,yq,AD,hk,ND,hn⟩:=id dd;obtain rfl:o=od:=by rw[h1]at HA;cases HA;rfl
  obtain rfl:CM=EG:=by rw[e0]at AD;cases AD;rfl
  have hsz:CM.size=vs.length:=by rw[<- ND.length];simp
  obtain⟨f0,f1,f2,f3,f4,f5⟩:=hf it Zs;obtain⟨ok,ov,x0,f,jt,ho⟩:=st;exact Kl (I.ok.hd hc) jt h1 e0 Zo Zo λh' eb=>⟨rfl,I.turned (t':=s.toks) (λb ob hb e=>eb b ob hb e) f0 f1 f3 f4 f5⟩
 self:=by
  rintro A i s Q E ⟨ok,ov,x,f,e,_⟩ h;have hT:s.TypeIs (.ref it) "dict_itemiterator":=⟨_,e,rfl⟩;refine wpAny_pyIter_slot hT PySem.F.slot_dict_itemiterator_iter (wpAny_call_entry PySem.F.slot_dict_itemiterator_iter hT W.kcp_entry ?_ (PySem.F.args_dict_itemiterator_iter_1 _));show wpAny _ _ (ret (.ref it)) _ _ s;exact W1 ⟨_,rfl,"dict_itemiterator",_,hT,PySem.F.slot_dict_itemiterator_next.lookup,h⟩
def Ze(te:TE):TI:=λσ H R=>te σ H λx H1=>mR x λa=>∃kvs,H1 a=some (.dK kvs)/\∀o,R (Iti a o kvs) (aH H1 a (.frz o (.dK kvs)))
def Vv{l:Expr}{tl:TE}{nm:Str}{AI apos cpos:Pos}(hl:PE X l tl)(P4:attributeBase l "items" X.env (eval l X.env)=eval l X.env)(P5:(apos.endLine==cpos.line)=true):PI X (.Name nm AI) (.Call (.Attribute l "items" apos) [] [] cpos) (Ze tl):=by
 intro pins s σ H R I h;refine wpAny_Call_method0_late P4 P5 (bH (hl pins s σ H _ I h) ?_);rintro v s1 ⟨x,H1,I1,r1,q1⟩;(try dsimp only at q1);rw[dB]at q1;obtain⟨a,rfl,kvs,e,q⟩:=q1;cases r1;obtain⟨t1,t2,_⟩:=qE I1 (.inl ⟨_,.inl e⟩);obtain⟨z,TY,vs0,dy',dd0⟩:=sW I1.hok e;obtain⟨ob,g,I2⟩:=I1.freeze e;obtain⟨h1,lo,vs,ep,rel,⟨es,he⟩,dd⟩:=oF I2.hok (aA (a:=a));refine⟨"dict","dict.items",PySem.F.plainAttrs_dict,PySem.F.slot_dict_items,PySem.F.type_dict_items,t1,t2,Calls.callWith_builtin rfl (PySem.evalArgs_none ?_)⟩;refine call_meetsIn PySem.F.slot_dict_items dd0.typeIs PySem.F.entry_dict_items (PySem.F.args_dict_items_1 _) (meets_dict_items (aR X.prog X.w) a TY) ⟨⟨vs0,dd0⟩,?_⟩;have I3:=I2.kept (t':=s1.toks) (h':=s1.heap.push {cls:=.type "dict_items",data:=.fields #[.ref a] }) λb o e=>gU _ e
 have OW:(s1.heap.push {cls:=.type "dict_items",data:=.fields #[.ref a] }).IsItemsView s1.heap.objs.size a:=⟨_,TW _ rfl,rfl,rfl⟩;refine Fg (s:={s1 with heap:=s1.heap.push {cls:=.type "dict_items",data:=.fields #[.ref a] } }) OW (gU _ g) he ?_;have hn:(aH H1 a (.frz ob (.dK kvs))) (s1.heap.push {cls:=.type "dict_items",data:=.fields #[.ref a] }).objs.size=none:=I3.hok.fresh (bZ _);obtain⟨od,CM,HA,yq,AD,hk,ND,IY⟩:=id dd;obtain rfl:ob=od:=by rw[h1]at HA;cases HA;rfl
 obtain rfl:CM=es:=by rw[he]at AD;cases AD;rfl
 have hsz:CM.size=kvs.length:=by rw[rel.length,<- ND.length];simp
 refine⟨_,[_],_,_,_,rfl,I3.kept (t':=s1.toks) λb o e=>gU _ e,Km a _ ⟨CM,he⟩,⟨.none,.none,.none,false,?_,.inl rfl⟩,λb hb=>?_,q ob⟩
 ·rw[<- hsz];exact TW _ rfl
 ·obtain rfl:b=(s1.heap.push {cls:=.type "dict_items",data:=.fields #[.ref a] }).objs.size:=by simpa using hb
  exact I3.fpOk (bZ _) hn
def R.ii{l:Expr}{tl:TE}{nm:Str}{AI apos cpos:Pos}(hl:XE X l tl)(P4:attributeBase l "items" X.env (eval l X.env)=eval l X.env:=by rfl)(P5:(apos.endLine==cpos.line)=true:=by rfl):XI X (.Name nm AI) (.Call (.Attribute l "items" apos) [] [] cpos) (Ze tl):=⟨Vv hl.h P4 P5⟩
end
def Kn{a:TD}{o:Obj}{kvs:List (bC×V)}{js:List (Option Nat)}{g:TG}{tt:TT}{te:TE}{σ:St}{H:Hp}{Q:List V->Hp->Prop}(hz:kvs.length<=100000)(Pv:Nat->List V->Hp->Prop)(hA:∀i zs H,Pv i zs H->H a=some (.frz o (.dK kvs))/\zs.length<=i)(h0:Pv 0 [] H)(hs:∀(i:Nat)(k:bC)(y:V) zs H t,kvs[i]?=some (k,y)->Pv i zs H->H t=none->g (.ref t) (xF js σ) (aH H t (.tup [kV k,y])) λσ2 H2=>tt σ2 H2 λc H3=>if c=true then te σ2 H3 λv H4=>Pv (i+1) (zs++[v]) H4 else Pv (i+1) zs H3)(hd:∀zs H,Pv kvs.length zs H->Q zs H):oX js g tt te σ (Iti a o kvs) H Q:=by
 refine⟨λi m zs H=>m=kvs.length-i/\i<=kvs.length/\Pv i zs H,⟨_,rfl,zero_le _,h0⟩,?_⟩;rintro i m zs H ⟨rfl,hi,p⟩;obtain⟨q1,q3⟩:=hA i zs H p;by_cases r9:i<kvs.length
 ·refine .inr ⟨⟨q1,r9⟩,rY (m:=100000) Zo Zd,Pv (i+1),λTQ H' p'=>⟨_,Zo,rfl,r9,p'⟩,?_⟩;rintro v H' ⟨t,b,y,ht,rfl,rfl,e1⟩;exact hs i b y zs H t e1 p ht
 ·have e:i=kvs.length:=by omega
  subst e;exact .inl ⟨⟨q1,bZ _⟩,hd zs H p⟩
end L2
namespace KL
open PySem L2
def jp:=@R.v
def lc:=@R.aa
def li:=@R.ab
def lm:=@R.ac
def lv:=@R.ad
def mk:=@R.ae
def ms:=@R.af
def my:=@R.ix
def mz:=@R.ag
def ng:=@R.ah
def nh:=@R.aj
def o0:=@R.op
def pc:=@R.ap
def pf:=@R.ak
def ph:=@R.aq
def pi:=@R.ar
def pj:=@R.fn
def pr:=@R.gn
def re:=@R.au
def rm:=@R.av
def rq:=@R.aw
def se:=@R.eq
def sf:=@R.ax
def sh:=@R.ay
def sj:=@R.az
def tz:=@R.ps
def uh:=@R.ba
def ui:=@R.bb
def uj:=@R.bl
def uk:=@R.bc
def um:=@R.bf
def uo:=@R.bg
def ut:=@R.bh
def u8:=@R.tw
def v6:=@R.bi
def wv:=@R.be
def ww:=@R.bj
def xx:=@R.sl
def xy:=@R.bn
def xz:=@R.bo
def ya:=@R.bp
def yb:=@R.bq
def yc:=@R.bt
def yd:=@R.bu
def ye:=@R.br
def yf:=@R.pn
def yg:=@R.bv
def yh:=@R.bw
def yi:=@R.bz
def yj:=@R.ca
def yk:=@R.cb
def ym:=@R.gt
def yn:=@R.cc
def yo:=@R.ce
def yp:=@R.cf
def zr:=@R.cg
def zt:=@R.sT
def zu:=@R.ci
def zv:=@R.cj
def zw:=@R.ck
def zx:=@R.cm
def zy:=@R.cn
def AA:=@R.cp
def AC:=@R.cq
def cQ(i:Nat):Stmt:=PySem.Challenge.pw_oncedoor_k63_written_forced_told.main.body.getD i (.Pass ⟨0,0,0,0⟩)
abbrev kH:Stmt:=cQ 24
abbrev mJ:Stmt:=cQ 25
abbrev iV:Stmt:=cQ 28
abbrev dW:Stmt:=cQ 29
abbrev kI:Stmt:=cQ 33
abbrev fI:Stmt:=cQ 34
abbrev iW:Stmt:=cQ 36
abbrev kJ:Stmt:=cQ 37
abbrev cT:Stmt:=cQ 38
abbrev pS:Stmt:=cQ 40
abbrev dD:Stmt:=cQ 42
abbrev fT:Stmt:=cQ 43
abbrev bW:Stmt:=aO (cQ 52) 0
abbrev gX:Stmt:=aO (cQ 52) 1
abbrev fU:Stmt:=aO (cQ 52) 2
abbrev eT:Stmt:=aO (cQ 52) 4
abbrev iX:Stmt:=aO (cQ 52) 7
abbrev dX:Stmt:=aO (cQ 52) 8
abbrev iY:Stmt:=cQ 53
abbrev bX:Stmt:=aO (cQ 55) 0
abbrev eU:Stmt:=aO (cQ 55) 1
abbrev fJ:Stmt:=aO (cQ 55) 2
abbrev eX:Stmt:=aO (cQ 55) 3
abbrev fV:Stmt:=cQ 57
abbrev fW:Stmt:=cQ 58
abbrev dY:Stmt:=cQ 59
abbrev fX:Stmt:=cQ 60
abbrev cW:Stmt:=cQ 61
abbrev bF:Stmt:=aO (cQ 72) 0
abbrev dJ:Stmt:=aO (cQ 72) 1
abbrev dL:Stmt:=aO (cQ 72) 2
abbrev dZ:Stmt:=aO (cQ 72) 4
abbrev eB:Stmt:=aO (cQ 72) 6
abbrev kK:Stmt:=cQ 74
abbrev cD:Stmt:=aO (cQ 79) 0
abbrev eC:Stmt:=aO (cQ 79) 1
abbrev bS:Stmt:=aO (cQ 79) 4
abbrev bN:Stmt:=aO (cQ 80) 0
abbrev fY:Stmt:=aO (cQ 80) 1
abbrev eE:Stmt:=aO (cQ 80) 2
abbrev dE:Stmt:=aO (cQ 80) 3
abbrev fZ:Stmt:=aO (cQ 80) 4
abbrev bY:Stmt:=aO (cQ 84) 0
abbrev gY:Stmt:=aO (cQ 84) 1
abbrev dO:Stmt:=aO (cQ 84) 2
abbrev cI:Stmt:=aO (cQ 84) 3
abbrev cO:Stmt:=aO (cQ 84) 4
abbrev gA:Stmt:=aO (cQ 84) 7
abbrev gZ:Stmt:=aO (cQ 84) 12
abbrev cX:Stmt:=aO (cQ 84) 14
abbrev eF:Stmt:=aO (cQ 84) 17
abbrev dM:Stmt:=aO (cQ 84) 18
abbrev gB:Stmt:=aO (cQ 84) 19
abbrev gC:Stmt:=cQ 85
abbrev bU:Stmt:=aO (cQ 88) 0
abbrev iZ:Stmt:=cQ 91
abbrev jA:Stmt:=cQ 92
abbrev cJ:Stmt:=cQ 93
abbrev gD:Stmt:=cQ 94
abbrev hI:Stmt:=cQ 95
abbrev jB:Stmt:=cQ 96
abbrev gE:Stmt:=cQ 97
abbrev eY:Stmt:=cQ 98
abbrev hJ:Stmt:=cQ 99
abbrev gQ:Stmt:=cQ 100
abbrev eG:Stmt:=cQ 101
abbrev gF:Stmt:=cQ 102
abbrev bG:Stmt:=cQ 103
abbrev cE:Stmt:=cQ 104
abbrev hU:Stmt:=cQ 105
abbrev cF:Stmt:=cQ 106
abbrev mK:Stmt:=cQ 107
def cR{N P:List Str}{sc:Scope}(a:sc.kind=.function:=by rfl)(b:sc.isCoroutine=false:=by rfl)(c:sc.isGenerator=false:=by rfl)(d:N.Nodup:=by decide +kernel)(e:N.take P.length=P:=by rfl)(f:∀x∈P,sc.names.lookup x=some .local∨sc.names.lookup x=some .cell:=by decide +kernel)(g:∀y∈sc.names,y.2≠.free:=by decide +kernel):aG N P sc:=⟨a,b,c,d,e,f,g⟩
def Af:aG DT DT (aB kH):=cR
def Fm:aG DT DT (aB mJ):=cR
def xX:aG QZO QZO (aB iV):=cR
def rP:aG AT AT (aB dW):=cR
def Ag:aG DT DT (aB kI):=cR
def vX:aG QZX QZX (aB fI):=cR
def xY:aG DU DU (aB iW):=cR
def lJ:aG ["deed","add","take"] DU (aB kJ):=cR
def jH:aG DU DU (aB cT):=cR
def mL:aG ["book","deed","name","by","amount"] CC (aB pS):=cR
def rA:aG CC CC (aB dD):=cR
def rQ:aG QZW QZW (aB fT):=cR
def oI:aG QZV QZV (aB bW):=cR
def jC:aG ["self","asker","key","turn","pair","entry"] QZB (aB gX):=cR
def kZ:aG ["self","asker","key","number","deed","pair"] QZA (aB fU):=cR
def jU:aG ["self","asker","key","turn","answer","entry"] QZz (aB eT):=cR
def xZ:aG QZN QZN (aB iX):=cR
def pI:aG QZM QZM (aB dX):=cR
def yA:aG QZL QZL (aB iY):=cR
def oJ:aG QZZ QZZ (aB bX):=cR
def rB:aG DR DR (aB eU):=cR
def vY:aG EQ EQ (aB fJ):=cR
def cU:aG ["self","changes","name","by"] QZK (aB eX):=cR
def jV:aG QZU CB (aB fV):=cR
def iD:aG ["rows","word","told","row"] QZy (aB fW):=cR
def rR:aG CB CB (aB dY):=cR
def iE:aG ["rows","came","book","row"] BX (aB fX):=cR
def lA:aG QZl BX (aB cW):=cR
def kR:aG QZT QZT (aB bF):=cR
def oK:aG QZY QZY (aB dJ):=cR
def oM:aG EQ EQ (aB dL):=cR
def pJ:aG EQ EQ (aB dZ):=cR
def pK:aG EQ EQ (aB eB):=cR
def jD:aG ["text","rows","place","line"] ["text"] (aB kK):=cR
def pL:aG DQ DQ (aB cD):=cR
def pM:aG EQ EQ (aB eC):=cR
def jW:aG QZS QZS (aB bS):=cR
def aL:aG ["self","life","turn","up","number","since","asker","key","deed","answer"] QZJ (aB bN):=cR
def rS:aG DQ DQ (aB fY):=cR
def jI:aG ["self","asker","key","deed","number"] QZx (aB eE):=cR
def jX:aG ["self","run","holders"] BW (aB dE):=cR
def lB:aG ["self","number","turn","answer","run"] QZw (aB fZ):=cR
def oN:aG QZR QZR (aB bY):=cR
def cY:aG ["self","turn","asker","key","deed","memory","house","there","seen","number"] QZI (aB gY):=cR
def jE:aG ["self","number","way","memory","run"] QZQ (aB dO):=cR
def fP:aG QZP BW (aB cI):=cR
def lK:aG QZP QZP (aB cO):=cR
def dF:aG ["self","memory","safe","told","row"] EQ (aB gA):=cR
def vZ:aG EQ EQ (aB gZ):=cR
def mM:aG EQ EQ (aB cX):=cR
def lC:aG ["self","runs"] EQ (aB eF):=cR
def oO:aG DR DR (aB dM):=cR
def rT:aG EQ EQ (aB gB):=cR
def rV:aG QZH QZH (aB gC):=cR
def mN:aG ["self","rows","closed","name"] QZG (aB bU):=cR
def yB:aG BY BY (aB iZ):=cR
def fK:aG ["_law_deck_here","_law_many","_law_cell","_law_number"] CA (aB jA):=cR
def cN:aG QZv QZu (aB cJ):=cR
def rW:aG QZF QZF (aB gD):=cR
def wA:aG QZE QZE (aB hI):=cR
def dP:aG ["_law_deck_here","_law_names_here","_law_house","_law_book","_law_one","_law_there","_law_amount_here","_law_here","_law_way"] QZt (aB jB):=cR
def eZ:aG ["_law_book","_law_deed_here","_law_here","_law_there"] BV (aB gE):=cR
def rC:aG QZD QZD (aB eY):=cR
def wB:aG QZC QZC (aB hJ):=cR
def pB:aG QZj QZs (aB gQ):=cR
def jJ:aG ["_law_book","_law_deed_here","_law_here"] BV (aB eG):=cR
def fA:aG ["_law_door","_law_table","_law_number","_law_due","_law_turn","_law_book","_law_deed_here","_law_other","_law_answer_here"] QZr (aB gF):=cR
def bE:aG QZq QZp (aB bG):=cR
def hV:aG QZi QZo (aB cE):=cR
def gG:aG ["_law_deck_here","_law_door","_law_state","_law_names_here","_law_house","_law_k","_law_deed_here","_law_number"] QZn (aB hU):=cR
def cB:aG QZh QZm (aB cF):=cR
def lM:aG ["_law_script","_law_deck_here","_law_words","_law_door","_law_state","_law_k","_law_told"] BY (aB mK):=cR
structure Txt(K:W.Frag)(mg:X7):Prop where
 b_any:mg "any"=none
 b_isinstance:mg "isinstance"=none
 b_int:mg "int"=none
 b_bool:mg "bool"=none
 b_str:mg "str"=none
 b_len:mg "len"=none
 b_all:mg "all"=none
 b_tuple:mg "tuple"=none
 b_dict:mg "dict"=none
 b_sorted:mg "sorted"=none
 b_max:mg "max"=none
 b_list:mg "list"=none
 b_enumerate:mg "enumerate"=none
 b_sum:mg "sum"=none
 b_range:mg "range"=none
 b_min:mg "min"=none
 g_LETTERS:∃t,mg "LETTERS"=some (.str ("abcdefghijklmnopqrstuvwxyz") t)
 g_FIGURES:∃t,mg "FIGURES"=some (.str ("0123456789") t)
 g_LONGEST_NAME:∃t,mg "LONGEST_NAME"=some (.int (8) t)
 g_LONGEST_KEY:∃t,mg "LONGEST_KEY"=some (.int (12) t)
 g_MOST:∃t,mg "MOST"=some (.int (1000000000000) t)
 g_LONGEST_DOOR_NAME:∃t,mg "LONGEST_DOOR_NAME"=some (.int (5) t)
structure Top(Pm:Params)(K:W.Frag)(mg:X7):Prop where
 g_NAME_COUNTS:∃a,mg "NAME_COUNTS"=some (.ref a)/\KTab K Pm a (WS)
 g_UNLIKE_WORDS:∃a,mg "UNLIKE_WORDS"=some (.ref a)/\∀H,SqT K H a (UW)
 g_WAYS:∃a,mg "WAYS"=some (.ref a)/\∀H,SqT K H a ([V.str "through",V.str "lost",V.str "unheard"])
section
variable {P:Program}{w:World}{K:W.Frag}{mg:X7}{base:Heap}
def Ps(T:Txt K mg)(D:DefAt K mg "is_made_of" dW AT):aJ P w K mg base 1 "is_made_of" AT zZ:=by
 refine D.go rP (λvs H Q E h=>?_) (λf cdv A outer s H vs Q E hr h=>?_)
 ·obtain⟨x,sg,n,k,rfl,_⟩:=h;rfl
 ·obtain⟨x,sg,n,k,rfl,hk,hz,q⟩:=h;refine⟨_,(lv (pc (u8 (yi (ww (v6 (R.cy .str (jp 0) rfl T.b_isinstance rfl T.b_str nZ))) (yj (ww (R.ij R.le R.le lm (sj R.dm rfl T.b_len dU (lc (jp 0) li)) (jp 2)))))) (mk (mz uj)) ph) (mk (mz (sj (R.ik (K:=K) rfl) rfl T.b_all Ix (lc (xy rfl (js:=[none,some 1]) (N:=["sign","signs"]) (CompScope.by (aB dW) AT rfl rfl Zk) (aP rfl) (R.wS (jp 0)) (λC s₂ H₂ fp=>⟨(pr (i:=0) (show(["sign","signs"]:List Str).Nodup by decide +kernel)),yd,(yk R.ir (jp 0) (jp 1))⟩)) li))))),?_⟩;have no:Yl .str k=false->eJ x sg.cps.toList n=false:=λe=>by
   cases x<;>first|rfl|(cases k<;>first|exact hk.elim|cases e)
  refine⟨k,hk,?_⟩
  cases x with
  | str z=>
   cases k<;>first|exact hk.elim|skip
   have OX:=hz z rfl;refine⟨lH OX,?_⟩;refine gV (λh1=>?_) (λh1=>?_)
   ·refine gV (λh2=>?_) (λh2=>?_)
    ·have e:eJ (.str z) sg.cps.toList n=false:=by
      rw[gN];have sq:decide ((z.length:Int)<=n)=false:=by simpa using h2
      rw[sq];simp
     have h:=q H (Same.refl H);rw[e]at h;exact h
    ·refine⟨z,rfl,Er (Oq z) (by simp[tJ,Str.length]at OX ⊢;omega) (λ_=>true) (λv=>match v with|.str y=>.bl (decide (y.cps.toList.headD 0∈sg.cps.toList))|_=>.non) trivial (λv ys N hv ht hf=>?_) ?_⟩
     ·obtain⟨c,hc,rfl⟩:=Zmm.mp hv;exact⟨c,rfl,ht rfl⟩
     ·intro p hp;refine⟨p,z.cps.toList.map (λc=>decide (c∈sg.cps.toList)),rfl,QZc (by rw[aA,filter_eq_self.mpr (λ_ _=>rfl)];unfold tJ;rw[map_map,map_map];rfl),?_⟩;have e:eJ (.str z) sg.cps.toList n=List.all (z.cps.toList.map (λc=>decide (c∈sg.cps.toList))) id:=by
       rw[gN];have sq:decide ((z.length:Int)<=n)=true:=by simpa using h2
       have Z8:decide (1<=(z.length:Int))=true:=h1;rw[sq,Z8,all_map];simp[Function.comp_def]
      rw[<- e];exact q _ (λc o e=>by rw[aE (aD e hp)];exact e)
   ·have e:eJ (.str z) sg.cps.toList n=false:=by
     rw[gN];have Z8:decide (1<=(z.length:Int))=false:=h1;rw[Z8];simp
    have h:=q H (Same.refl H);rw[e]at h;exact h
  | _=>
   cases k<;>first|exact hk.elim|exact q H (Same.refl H)
def Ah(T:Txt K mg)(K8:aJ P w K mg base 1 "is_made_of" AT zZ)(D:DefAt K mg "is_name" kH DT):aJ P w K mg base 2 "is_name" DT (oA LET 8):=by
 refine D.go Af (λvs H Q E h=>?_) (λf cdv A outer s H vs Q E hr h=>?_)
 ·obtain⟨x,k,rfl,_⟩:=h;rfl
 ·obtain⟨x,k,rfl,hk,hz,q⟩:=h;have E7:=hr;refine⟨_,(mk (mz (pj K8 E7 rfl (lc (jp 0) (lc (R.gS rfl T.g_LETTERS) (lc (R.gI rfl T.g_LONGEST_NAME) li)))))),?_⟩;refine⟨x,_,8,k,rfl,hk,hz,λH' s'=>?_⟩;rw[zY];exact q H' s'
def Fn(T:Txt K mg)(K8:aJ P w K mg base 1 "is_made_of" AT zZ)(D:DefAt K mg "is_key" mJ DT):aJ P w K mg base 2 "is_key" DT (oA (LET++Rj) 12):=by
 refine D.go Fm (λvs H Q E h=>?_) (λf cdv A outer s H vs Q E hr h=>?_)
 ·obtain⟨x,k,rfl,_⟩:=h;rfl
 ·obtain⟨x,k,rfl,hk,hz,q⟩:=h;have E7:=hr;refine⟨_,(mk (mz (pj K8 E7 rfl (lc (jp 0) (lc (o0 R.fi (R.gS rfl T.g_LETTERS) (R.gS rfl T.g_FIGURES)) (lc (R.gI rfl T.g_LONGEST_KEY) li)))))),?_⟩;refine⟨Zk,x,_,12,k,rfl,hk,hz,λH' s'=>?_⟩;rw[Oc,zY,Vg];exact q H' s'
def Ko(T:Txt K mg)(D:DefAt K mg "is_whole" iV QZO):aJ P w K mg base 1 "is_whole" QZO Bv:=by
 refine D.go xX (λvs H Q E h=>?_) (λf cdv A outer s H vs Q E hr h=>?_)
 ·obtain⟨x,lo,hi,rfl,_⟩:=h;rfl
 ·obtain⟨x,lo,hi,rfl,⟨k,hk,hz⟩,q⟩:=h;refine⟨_,(lv (pc (u8 (yi (ww (v6 (R.cy .int (jp 0) rfl T.b_isinstance rfl T.b_int Vc))) (yj (v6 (R.cy .bl (jp 0) rfl T.b_isinstance rfl T.b_bool Op))))) (mk (mz uj)) ph) (mk (mz (R.iu R.le R.le (jp 1) (jp 0) (jp 2))))),?_⟩;have h:=q H (Same.refl H);refine⟨k,hk,?_⟩
  cases x with
  | int n=>
   cases k<;>first|exact hk.elim|skip
   refine⟨.int,trivial,?_⟩;show if decide (lo<=n)=true then _ else _
   have e:xM lo hi (.int n)=(decide (lo<=n)&&decide (n<=hi)):=rfl;refine gV (λh1=>?_) (λh1=>?_)
   ·rw[e,h1,Bool.true_and]at h;exact h
   ·rw[e,h1,Bool.false_and]at h;exact h
  | bl b=>
   cases k<;>first|exact hk.elim|skip
   exact⟨.bl,trivial,h⟩
  | _=>cases k<;>first|exact hk.elim|exact h
def Pu(T:Txt K mg)(U:Top w.params K mg)(J8:aJ P w K mg base 2 "is_name" DT (oA LET 8))(D:DefAt K mg "fits_word" fI QZX):aJ P w K mg base 3 "fits_word" QZX Jg:=by
 refine D.go vX (λvs H Q E h=>?_) (λf cdv A outer s H vs Q E hr h=>?_)
 ·obtain⟨x,a,ns,rfl,_⟩:=h;rfl
 ·obtain⟨x,a,ns,rfl,⟨k,hk,hz⟩,ha,OF,hp,q⟩:=h;have B3:=hr;obtain⟨aN,U5,tN⟩:=U.g_NAME_COUNTS;obtain⟨aU,qb,tU⟩:=U.g_UNLIKE_WORDS;refine⟨_,(lv (pc (u8 (yi (ww (v6 (R.cy .str (jp 0) rfl T.b_isinstance rfl T.b_str nZ))) (yj (nh (R.iw (K:=K) (P:=w.params)) (jp 0) (R.gR rfl U5))))) (mk (mz uj)) ph) (lv (pc (u8 (yi (nh R.ne (sj (zu (K:=K)) rfl T.b_len dU (lc (jp 1) li)) (my (R.iy (K:=K) (P:=w.params)) (R.gR rfl U5) (jp 0))) (yj (ww (v6 (sj (R.ik (K:=K) rfl) rfl T.b_all Ix (lc (xy rfl (js:=[none]) (N:=["name"]) (CompScope.by (aB fI) QZX rfl rfl Zk) (aP rfl) (R.cu (K:=K) (jp 1)) (λC s₂ H₂ fp=>⟨(pr (i:=0) (show(["name"]:List Str).Nodup by decide +kernel)),yd,(pj J8 B3 rfl (lc (jp 0) li))⟩)) li))))))) (mk (mz uj)) ph) (mk (mz (R.or (yk (R.fj (K:=K)) (jp 0) (R.gR rfl qb)) (R.dn (yk R.ne (my (ng (K:=K)) (jp 1) lm) (my (ng (K:=K)) (jp 1) lm)))))))),?_⟩;have h:=q H (Same.refl H);refine⟨k,hk,?_⟩
  cases x with
  | str z=>
   cases k<;>first|exact hk.elim|skip
   refine⟨WS,tN,?_⟩;show if (!(WS.lookup z).isSome)=true then _ else _
   cases e:WS.lookup z with
   | none=>
    have e2:fG (.str z) ns=false:=by unfold fG;simp only [e]
    rw[e2]at h;exact h
   | some i=>
    have e2:fG (.str z) ns=(decide ((ns.length:Int)=i)&&ns.all tK&&(!lO (.str z) UW||!decide (nV ns 0=nV ns 1))):=by unfold fG;simp only [e]
    refine⟨ns,.inr (QZd ha),WS,i,tN,e,?_⟩;refine gV (λh1=>?_) (λh1=>?_)
    ·have Z8:decide ((ns.length:Int)=i)=false:=by simpa using h1
     rw[e2,Z8]at h;exact h
    ·have Z8:decide ((ns.length:Int)=i)=true:=by simpa using h1
     refine⟨a,rfl,⟨_,QZd ha⟩,?_⟩;refine bJ (iO K a ns) Zo (λj ys H'=>ys=(ns.take j).map (λy=>V.bl (tK y))/\Same H H') (λj ys H' ⟨e3,s3⟩=>⟨QZd (s3 _ _ ha),by rw[e3,bP,mV];omega⟩) ⟨rfl,Same.refl H⟩ (?_) (?_)
     ·rintro j y ys H' hy ⟨e3,s3⟩;obtain⟨ky,hky,hzy⟩:=(hp y (kS hy)).same s3;refine⟨y,ky,rfl,hky,hzy,λCN JY=>⟨?_,s3.trans JY⟩⟩;rw[List.take_add_one,hy,jM,e3];rfl
     ·rintro ys H' ⟨e3,s3⟩;intro p KU;rw[Mm (bZ _)]at e3;have hs:Same H (aH H' p (.lst ys)):=s3.trans (aF KU);refine⟨p,ns.map tK,rfl,QZc (by rw[aA,e3,map_map];rfl),?_⟩;have e4:List.all (ns.map tK) id=ns.all tK:=by rw[all_map];rfl
      have h5:=q _ hs;dsimp only;rw[e4];cases e5:ns.all tK with
      | false=>
       rw[e2,Z8,e5]at h5;exact h5
      | true=>
       rw[e2,Z8,e5]at h5;refine⟨aU,UW,rfl,.inr (tU _),rfl,rfl,?_⟩;show if (!lO (.str z) UW)=true then _ else _
       cases e6:lO (.str z) UW with
       | false=>
        rw[e6]at h5;exact h5
       | true=>
        rw[e6]at h5;have i2:=Yw e e6;have hl:(ns.length:Int)=i:=WF Z8;obtain⟨y0,NF,m0⟩:=lX (xs:=ns) (i:=0) Zd Zo;obtain⟨y1,OY,m1⟩:=lX (xs:=ns) (i:=1) Zd Zo;have n0:=all_eq_true.mp e5 y0 m0;have n1:=all_eq_true.mp e5 y1 m1;refine⟨ns,QZd (hs _ _ ha),y0,NF,ns,QZd (hs _ _ ha),y1,OY,?_⟩;rw[NF,OY]at h5;cases y0<;>first|(unfold tK eJ at n0;exact IQ n0 WP)|skip
        cases y1<;>first|(unfold tK eJ at n1;exact IQ n1 WP)|skip
        rename_i z0 z1;have e7:decide (some (V.str z0)=some (V.str z1))=decide (z0=z1):=by
         rw[decide_eq_decide];constructor
         ·intro e8;injection e8 with e8;injection e8
         ·intro e8;rw[e8]
        rw[e7]at h5;exact h5
  | _=>cases k<;>first|exact hk.elim|exact h
def Ai(T:Txt K mg)(yx:aJ P w K mg base 3 "fits_word" QZX Jg)(AJ:aJ P w K mg base 1 "is_whole" QZO Bv)(D:DefAt K mg "is_deed" kI DT):aJ P w K mg base 4 "is_deed" DT xN:=by
 refine D.go Ag (λvs H Q E h=>?_) (λf cdv A outer s H vs Q E hr h=>?_)
 ·obtain⟨x,rfl,_⟩:=h;rfl
 ·obtain⟨x,rfl,⟨⟨k,hk,hz⟩,hp⟩,hlen,q⟩:=h;have uv:=hr;have yy:Room 1 _:=hr.mono Zd;refine⟨_,(lv (pc (u8 (yi (ww (v6 (R.cy .tup (jp 0) rfl T.b_isinstance rfl T.b_tuple qM))) (yj (nh R.lt (sj (zu (K:=K)) rfl T.b_len dU (lc (jp 0) li)) lm)))) (mk (mz uj)) ph) (mk (mz (R.fk (pj yx uv rfl (lc (my (ng (K:=K)) (jp 0) lm) (lc (xx zt (jp 0) (tz lm) (tz (sh lm))) li))) (R.dn (pj AJ yy rfl (lc (my (ng (K:=K)) (jp 0) (sh lm)) (lc lm (lc (R.gI rfl T.g_MOST) li))))))))),?_⟩;have h:=q H (Same.refl H);refine⟨k,hk,?_⟩
  cases x with
  | ref a=>
   cases k<;>first|exact hk.elim|skip
   case tup=>
    obtain⟨xs,hx⟩:=hk;have NC:=hp a xs rfl hx;have hlx:=hlen a xs rfl hx;have eV:qO H (.ref a)=kX xs:=by unfold qO;simp only [hx]
    refine⟨xs,.inr (QZd hx),?_⟩;refine gV (λh1=>?_) (λh1=>?_)
    ·have Z8:((xs.length:Int)<3):=WF h1;have e1:kX xs=false:=by
      unfold kX;rw[UF Zo];rfl
     rw[eV,e1]at h;exact h
    ·have Z8:¬ ((xs.length:Int)<3):=U4 h1;have h3:3<=xs.length:=by omega
     obtain⟨y0,NF,m0⟩:=lX (xs:=xs) (i:=0) Zd Zo;refine⟨xs,QZd hx,y0,NF,xs,hx,λp H1 s1 g1=>?_⟩;refine⟨y0,p,_,rfl,(NC y0 m0).same s1,g1,?_,λy hy=>(NC y (Ox h3 hy)).same s1,λH2 s2=>?_⟩
     ·have:=Ow h3;unfold vJ at this;omega
     have e2:kX xs=(fG y0 (vJ xs)&&xM 1 1000000000000 ((nV xs (-1)).getD .non)):=by
      unfold kX;rw[UV h3,NF];rfl
     have hs:=s1.trans s2;have h5:=q H2 hs;show if fG y0 (vJ xs)=true then _ else _
     cases e3:fG y0 (vJ xs) with
     | false=>
      rw[eV,e2,e3]at h5;exact h5
     | true=>
      rw[eV,e2,e3]at h5;obtain⟨yl,hyl,ml⟩:∃v,nV xs (-1)=some v/\v∈xs:=by
       have hj:xs.length-1<xs.length:=by omega
       refine⟨xs[xs.length-1],?_,getElem_mem hj⟩;unfold nV Qz;rw[IS Zd,NE Zo];have:((-1:Int)+(xs.length:Int)).toNat=xs.length-1:=by omega
       simp[this,hj]
      refine⟨xs,QZd (hs _ _ hx),yl,hyl,?_⟩;refine⟨yl,1,1000000000000,rfl,(NC yl ml).same hs,λH3 s3=>?_⟩;have h6:=q H3 (hs.trans s3);rw[eV,e2,e3,hyl]at h6;exact h6
   all_goals
    have e1:qO H (.ref a)=false:=by
     unfold qO;first
      | (rcases hk with⟨xs,e⟩|⟨o,xs,e⟩<;>simp only [e])
      | (obtain⟨kvs,e⟩:=hk;simp only [e])
    rw[e1]at h;exact h
  | _=>cases k<;>first|exact hk.elim|exact h
def Pw(T:Txt K mg)(D:DefAt K mg "asks_of" kJ DU):aJ P w K mg base 1 "asks_of" DU Ac:=by
 refine D.go lJ (λvs H Q E h=>?_) (λf cdv A outer s H vs Q E hr h=>?_)
 ·obtain⟨p,wd,xs,cs,as,rfl,_⟩:=h;rfl
 ·obtain⟨p,wd,xs,cs,as,rfl,hp,⟨one,other,nm,n,hd⟩,q⟩:=h;refine⟨_,(lv (re (i:=1) lJ.nd (pf (lc ms (lc (my (ng (K:=K)) (jp 0) (sh lm)) (lc (my (ng (K:=K)) (jp 0) (sh lm)) li))))) (lv (re (i:=2) lJ.nd (pf (lc ms (lc (my (ng (K:=K)) (jp 0) (sh lm)) (lc (my (ng (K:=K)) (jp 0) (sh lm)) li))))) (lv (pc (nh se (my (ng (K:=K)) (jp 0) lm) ms) (mk (mz (pf (lc (pf (lc (my (ng (K:=K)) (jp 0) lm) (lc (jp 1) li))) li)))) ph) (lv (pc (nh se (my (ng (K:=K)) (jp 0) lm) ms) (mk (mz (pf (lc (pf (lc (my (ng (K:=K)) (jp 0) lm) (lc (jp 2) li))) li)))) ph) (lv (pc (nh se (my (ng (K:=K)) (jp 0) lm) ms) (mk (mz (pf (lc (pf (lc (my (ng (K:=K)) (jp 0) lm) (lc (jp 2) li))) (lc (pf (lc (my (ng (K:=K)) (jp 0) lm) (lc (jp 1) li))) li))))) ph) (mk (mz (pf li)))))))),?_⟩;cases hd
  all_goals
   refine⟨_,QZd hp,_,rfl,_,QZd hp,_,rfl,Zs,λp1 H1 s1 g1=>⟨_,QZd (s1 _ _ hp),_,rfl,_,QZd (s1 _ _ hp),_,rfl,Zs,λp2 H2 s2 g2=>?_⟩⟩;have nu:=(s1.trans s2) _ _ hp;refine⟨_,QZd nu,_,rfl,?_⟩
  case send=>exact⟨_,QZd nu,_,rfl,Zs,λp3 H3 s3 g3=>⟨Zs,λp4 H4 s4 g4=>q p4 _ H4 (((s1.trans s2).trans s3).trans s4) g4 (.cons ⟨p3,p1,rfl,s4 _ _ g3,s4 _ _ (s3 _ _ (s2 _ _ g1))⟩ .nil)⟩⟩
  all_goals refine⟨_,QZd nu,_,rfl,?_⟩
  case fetch=>exact⟨_,QZd nu,_,rfl,Zs,λp3 H3 s3 g3=>⟨Zs,λp4 H4 s4 g4=>q p4 _ H4 (((s1.trans s2).trans s3).trans s4) g4 (.cons ⟨p3,p2,rfl,s4 _ _ g3,s4 _ _ (s3 _ _ g2)⟩ .nil)⟩⟩
  all_goals refine⟨_,QZd nu,_,rfl,?_⟩
  case pass=>
   refine⟨_,QZd nu,_,rfl,Zs,λp3 H3 s3 g3=>⟨_,QZd (s3 _ _ nu),_,rfl,Zs,λp4 H4 s4 g4=>⟨Zs,λp5 H5 s5 g5=>?_⟩⟩⟩;exact q p5 _ H5 ((((s1.trans s2).trans s3).trans s4).trans s5) g5 (.cons ⟨p3,p2,rfl,s5 _ _ (s4 _ _ g3),s5 _ _ (s4 _ _ (s3 _ _ g2))⟩ (.cons ⟨p4,p1,rfl,s5 _ _ g4,s5 _ _ (s4 _ _ (s3 _ _ (s2 _ _ g1)))⟩ .nil))
  all_goals exact⟨Zd,λp3 H3 s3 g3=>q p3 [] H3 ((s1.trans s2).trans s3) g3 .nil⟩
def Kq{C:TD}(B:Vs K C)(D:ClsAt K mg "Keys" C "Keys.__init__" bW QZV [[]]):∀d∈([[]]:List (List V)),wO P w K mg base 1 "Keys" C QZV d (Ch C):=by
 refine D.go oI (λvs H Q E h=>?_) (λf cdv A outer s H vs Q E hr h=>?_)
 ·obtain⟨p,dx,life,rfl,_⟩:=h;rfl
 ·obtain⟨p,dx,life,rfl,hp,q⟩:=h;refine⟨_,(lv (sf (K:=K) (jp 0) (jp 1)) (lv (sf (K:=K) (jp 0) R.fb) (mk (sf (K:=K) (jp 0) R.fb)))),?_⟩;refine⟨C,dx,[],hp,B.cl,B.nL,(by show 0<1000;decide),?_⟩;have e0:bK "life" (.int life) []=[(("life":Str),V.int life)]:=rfl;dsimp only;rw[e0];intro d1 CO;have g0:(aH H p (.ins C dx [("life",.int life)])) p=some (.ins C dx [("life",.int life)]):=aA;have k0:∀b o,H b=some o->b≠p->(aH H p (.ins C dx [("life",.int life)])) b=some o:=λb o e hb=>by rw[aE hb];exact e
  have f1:H d1=none:=by
   cases e:H d1 with
   | none=>rfl
   | some o=>
    by_cases z:d1=p
    ·rw[z,g0]at CO;cases CO
    ·rw[k0 _ _ e z]at CO;cases CO
  generalize aH H p (.ins C dx [("life",.int life)])=H0 at g0 k0 CO ⊢;have WT:=aD g0 CO;refine⟨C,dx,_,(by rw[aE WT];exact g0),B.cl,B.nB,(by show 1<1000;decide),?_⟩;have e1:bK "begun_ones" (.ref d1) [(("life":Str),V.int life)]=[(("life":Str),V.int life),("begun_ones",.ref d1)]:=by
   unfold bK;rw[IS Zk];rfl
  dsimp only;rw[e1];have g1:(aH (aH H0 d1 (.dT [])) p (.ins C dx [("life",.int life),("begun_ones",.ref d1)])) p=some (.ins C dx [("life",.int life),("begun_ones",.ref d1)]):=aA;have a1:(aH (aH H0 d1 (.dT [])) p (.ins C dx [("life",.int life),("begun_ones",.ref d1)])) d1=some (.dT []):=by rw[aE WT.symm];exact aA
  have k1:∀b o,H0 b=some o->b≠p->(aH (aH H0 d1 (.dT [])) p (.ins C dx [("life",.int life),("begun_ones",.ref d1)])) b=some o:=λb o e hb=>by rw[aE hb,aE (aD e CO)];exact e
  generalize aH (aH H0 d1 (.dT [])) p (.ins C dx [("life",.int life),("begun_ones",.ref d1)])=H1 at g1 a1 k1 ⊢;intro d2 hd2;have TZ:=aD g1 hd2;refine⟨C,dx,_,(by rw[aE TZ];exact g1),B.cl,B.nS,(by show 2<1000;decide),?_⟩;have e2:bK "settled_ones" (.ref d2) [(("life":Str),V.int life),("begun_ones",.ref d1)]=[(("life":Str),V.int life),("begun_ones",.ref d1),("settled_ones",.ref d2)]:=by
   unfold bK;rw[IS Zk];unfold bK;rw[IS Zk];rfl
  dsimp only;rw[e2];have n12:d1≠d2:=aD a1 hd2;have f2:H d2=none:=by
   cases e:H d2 with
   | none=>rfl
   | some o=>rw[k1 _ _ (k0 _ _ e TZ.symm) TZ.symm]at hd2;cases hd2
  refine q _ ⟨dx,d1,d2⟩ f1 f2 ⟨aA,⟨[],?_,Dic.nil⟩,⟨[],?_,Dic.nil⟩,n12⟩ (λb o e hb=>?_)
  ·show(aH _ p _) d1=_;rw[aE WT.symm,aE n12];exact a1
  ·show(aH _ p _) d2=_;rw[aE TZ.symm];exact aA
  ·rw[aE hb,aE (aD (k1 _ _ (k0 _ _ e hb) hb) hd2)];exact k1 _ _ (k0 _ _ e hb) hb
def Kr(D:DefAt K mg "is_alive" iY QZL):aJ P w K mg base 1 "is_alive" QZL Ci:=by
 refine D.go yA (λvs H Q E h=>?_) (λf cdv A outer s H vs Q E hr h=>?_)
 ·obtain⟨t,l,n,rfl,_⟩:=h;rfl
 ·obtain⟨t,l,n,rfl,q⟩:=h;refine⟨_,(mk (mz (yk ym (o0 rq (jp 0) (jp 1)) (jp 2)))),?_⟩;exact q
def tX(C:TD):Sp:=λvs H Q _=>∃(p:TD)(a:KF)(life:Int)(m:KM)(L:Nat)(sk:List (List bC×V))(t:TD)(q:Str×Str)(now n w:Int)(d z:TD),vs=[.ref p,.ref t,.int now]/\H p=some (.ins C a.dx (Cg a life))/\Rd H a.ds (.dT sk)/\Dic H sk m fS L/\H t=some (.tup [.str q.1,.str q.2])/\m q=some (.kept n w d z)/\Q (.bl (decide (w+life>now))) H
def DGet.rd{H:Hp}{a b:TD}{kvs:List (List bC×V)}{k:List bC}(e:Rd H a (.dT kvs))(eb:H b=some (.tup (k.map kV))):DGet H a (.ref b) (aV kvs k):=.inr ⟨kvs,k,b,e,rfl,eb,rfl⟩
def Fo{C:TD}(B:Vs K C)(AK:aJ P w K mg base 1 "is_alive" QZL Ci)(D:MethAt K C "is_kept" "Keys.is_kept" dX QZM):cP P w K mg base 2 C "is_kept" QZM (tX C):=by
 refine D.go pI (λvs H Q E h=>?_) (λf cdv A outer s H vs Q E hr h=>?_)
 ·obtain⟨p,a,life,m,L,sk,t,q,now,n,w',d,z,rfl,_⟩:=h;rfl
 ·obtain⟨p,a,life,m,L,sk,t,q,now,n,w',d,z,rfl,hp,gs,ds,gt,hm,Q0⟩:=h;obtain⟨u,hv,gu⟩:=ds.at hm (rfl:fS (.kept n w' d z)=some _);have c3:=cC hr;have yz:=hr;have dg:=DGet.rd gs (iC gt);rw[hv]at dg;refine⟨_,(mk (mz (pj AK yz rfl (lc (my (ng (K:=K)) (rm c3 (pi (K:=K) (jp 0)) (jp 1)) lm) (lc (pi (K:=K) (jp 0)) (lc (jp 2) li)))))),?_⟩;exact⟨C,a.dx,_,.ref a.ds,hp,B.cl,B.nS,Ff a life,a.ds,.ref u,rfl,dg,_,QZd gu,_,rfl,C,a.dx,_,.int life,hp,B.cl,B.nL,aAL a life,w',life,now,rfl,Q0⟩
def Px{C:TD}(B:Vs K C)(qc:cP P w K mg base 2 C "is_kept" QZM (tX C))(D:MethAt K C "look" "Keys.look" gX QZB):cP P w K mg base 3 C "look" QZB (Kh C):=by
 refine D.go jC (λvs H Q E h=>?_) (λf cdv A outer s H vs Q E hr h=>?_)
 ·obtain⟨p,a,life,m,L,q,now,rfl,_⟩:=h;rfl
 ·obtain⟨p,a,life,m,L,q,now,rfl,ht,Q0⟩:=h;have c3:=cC hr;have nv:=hr;refine⟨_,(lv (re (i:=4) jC.nd (pf (lc (jp 1) (lc (jp 2) li)))) (lv (pc (nh (R.dw c3) (jp 4) (pi (K:=K) (jp 0))) (mk (mz (o0 R.dz (pf (lc ms li)) (rm c3 (pi (K:=K) (jp 0)) (jp 4))))) ph) (lv (pc (u8 (zx (nh (R.dw c3) (jp 4) (pi (K:=K) (jp 0))) (zy (v6 (uh qc nv (jp 0) (lc (jp 4) (lc (jp 3) li))))))) (lv (re (i:=5) jC.nd (rm c3 (pi (K:=K) (jp 0)) (jp 4))) (mk (mz (pf (lc ms (lc (my (ng (K:=K)) (jp 5) lm) (lc (my (ng (K:=K)) (jp 5) lm) (lc (my (ng (K:=K)) (jp 5) lm) li)))))))) ph) (mk (mz (pf (lc ms li))))))),?_⟩;refine⟨Zs,λt G s1 gt=>?_⟩;dsimp only [aK];have sr:=ht.same s1;obtain⟨bk,gb,db⟩:=sr.hb;obtain⟨sk,gs,ds⟩:=sr.hs;have EB:=DGet.t gb (iC gt);have OZ:=DGet.t gs (iC gt)
  cases hm:m q with
  | none=>
   rw[db.no (λe z=>by rw[hm]at z;cases z)]at EB;rw[ds.no (λe z=>by rw[hm]at z;cases z)]at OZ;rw[hm]at Q0;refine⟨C,a.dx,_,.ref a.db,sr.hp,B.cl,B.nB,vU a life,none,EB,?_⟩;refine⟨C,a.dx,_,.ref a.ds,sr.hp,B.cl,B.nS,Ff a life,none,OZ,?_⟩;exact⟨Zs,λt2 G2 s2 g2=>Q0 t2 G2 (s1.trans s2) g2⟩
  | some e=>
   rw[hm]at Q0;cases e with
   | busy n d=>
    obtain⟨u,hv,gu⟩:=db.at hm (rfl:fB (.busy n d)=some _);rw[hv]at EB;refine⟨C,a.dx,_,.ref a.db,sr.hp,B.cl,B.nB,vU a life,_,EB,?_⟩;refine⟨Zs,λt2 G2 s2 g2=>⟨C,a.dx,_,.ref a.db,s2 _ _ sr.hp,B.cl,B.nB,vU a life,a.db,.ref u,rfl,?_,_,_,g2,s2 _ _ gu,Zs,λt3 G3 s3 g3=>Q0 t3 G3 ((s1.trans s2).trans s3) g3⟩⟩;have:=DGet.t (s2 _ _ gb) (iC (s2 _ _ gt));rw[hv]at this;exact this
   | kept n w' d z=>
    obtain⟨u,hv,gu⟩:=ds.at hm (rfl:fS (.kept n w' d z)=some _);rw[hv]at OZ;rw[db.no (λe h=>by rw[hm]at h;cases h;rfl)]at EB;refine⟨C,a.dx,_,.ref a.db,sr.hp,B.cl,B.nB,vU a life,none,EB,?_⟩;refine⟨C,a.dx,_,.ref a.ds,sr.hp,B.cl,B.nS,Ff a life,_,OZ,?_⟩;refine⟨a.dx,_,sr.hp,xV a life Zk Zk Zk,p,a,life,m,L,sk,t,q,now,n,w',d,z,rfl,sr.hp,.inl gs,ds,gt,hm,?_⟩;show if decide (w'+life>now)=true then _ else _
    refine gV (λhb=>?_) (λhb=>?_)
    ·have X9:=WF hb;refine⟨C,a.dx,_,.ref a.ds,sr.hp,B.cl,B.nS,Ff a life,a.ds,.ref u,rfl,OZ,?_⟩;dsimp only [aK];refine⟨_,QZd gu,_,rfl,_,QZd gu,_,rfl,_,QZd gu,_,rfl,Zs,λt2 G2 s2 g2=>Q0 t2 G2 (s1.trans s2) ?_⟩;show G2 t2=some (.tup (if w'+life>now then _ else _));rw[NE X9];exact g2
    ·have X9:=U4 hb;refine⟨Zs,λt2 G2 s2 g2=>Q0 t2 G2 (s1.trans s2) ?_⟩;show G2 t2=some (.tup (if w'+life>now then _ else _));rw[IS X9];exact g2
def Vw{C:TD}(B:Vs K C)(D:MethAt K C "end" "Keys.end" iX QZN):cP P w K mg base 1 C "end" QZN (Rs C):=by
 refine D.go xZ (λvs H Q E h=>?_) (λf cdv A outer s H vs Q E hr h=>?_)
 ·obtain⟨p,a,life,m,L,t,q,n,d,rfl,_⟩:=h;rfl
 ·obtain⟨p,a,life,m,L,t,q,n,d,rfl,ht,gt,hm,Q0⟩:=h;have c3:=cC hr;obtain⟨bk,gb,db⟩:=ht.hb;obtain⟨sk,gs,ds⟩:=ht.hs;obtain⟨u,hv,gu⟩:=db.at hm (rfl:fB (.busy n d)=some _);have EB:=DGet.t gb (iC gt);rw[hv]at EB;refine⟨_,(lv (pc (nh (R.ib c3) (jp 1) (pi (K:=K) (jp 0))) (mk wv) ph) (mk (mz (R.gv c3 (pi (K:=K) (jp 0)) (jp 1))))),?_⟩;refine⟨C,a.dx,_,.ref a.db,ht.hp,B.cl,B.nB,vU a life,_,EB,?_⟩;refine⟨C,a.dx,_,.ref a.db,ht.hp,B.cl,B.nB,vU a life,a.db,rfl,.inr ⟨bk,.inl gb⟩,bk,pk q,t,.ref u,gb,rfl,iC gt,hv,?_⟩;have kt:∀b xs,H b=some (.tup xs)->(aH H a.db (.dT (bI bk (pk q)))) b=some (.tup xs):=λb xs e=>by rw[aE (aQ e gb nofun)];exact e
  have h2:∀r,r≠q->(m.set q none) r=m r:=λr hr=>KM.set_ne hr
  have h1:∀e,(m.set q none) q=some e->False:=λe he=>by rw[KM.set_same]at he;cases he
  refine Q0 u _ (ht.new (by rw[aE (aQ ht.hp gb nofun)]) aA (by rw[aE ht.ne.symm];exact gs) kt ((db.drop (λe he=>(h1 e he).elim) h2).keep kt) ((ds.skip (λe he=>?_) (λe he=>(h1 e he).elim) h2).keep kt)) (λc o e n1 n2=>by rw[aE n1];exact e) (kt _ _ gu);rw[hm]at he;cases he;rfl
def Fp{C:TD}(B:Vs K C)(AL:cP P w K mg base 1 C "end" QZN (Rs C))(D:MethAt K C "settle" "Keys.settle" eT QZz):cP P w K mg base 2 C "settle" QZz (xW C):=by
 refine D.go jU (λvs H Q E h=>?_) (λf cdv A outer s H vs Q E hr h=>?_)
 ·obtain⟨p,a,life,m,L,q,n,d,w',z,rfl,_⟩:=h;rfl
 ·obtain⟨p,a,life,m,L,q,n,d,w',z,rfl,ht,hL,hm,Q0⟩:=h;have c3:=cC hr;have za:=hr;refine⟨_,(lv (re (i:=5) jU.nd (uh AL za (jp 0) (lc (pf (lc (jp 1) (lc (jp 2) li))) li))) (mk (yb (pf (lc (my (ng (K:=K)) (jp 5) lm) (lc (jp 3) (lc (my (ng (K:=K)) (jp 5) lm) (lc (jp 4) li))))) (yc (pi (K:=K) (jp 0)) (pf (lc (jp 1) (lc (jp 2) li))) (ye c3))))),?_⟩;refine⟨a.dx,_,ht.hp,xV a life Zk Zk Zk,Zs,λt G s1 gt=>⟨p,a,life,m,L,t,q,n,d,rfl,ht.same s1,gt,hm,λu G2 h2 fr gu=>?_⟩⟩;dsimp only [aK];refine⟨_,QZd gu,_,rfl,_,QZd gu,_,rfl,Zs,λt3 G3 s3 g3=>?_⟩;have h3:=h2.same s3;obtain⟨bk,gb,db⟩:=h3.hb;obtain⟨sk,gs,ds⟩:=h3.hs;refine⟨C,a.dx,_,.ref a.ds,h3.hp,B.cl,B.nS,Ff a life,Zs,λt4 G4 s4 g4=>⟨a.ds,_,rfl,DPut.t (s4 _ _ gs) (iC g4) (rY ds.len (rY hL Zd)),?_⟩⟩;have kt:∀b xs,G4 b=some (.tup xs)->(aH G4 a.ds (.dT (bB sk (pk q) (.ref t3)))) b=some (.tup xs):=λb xs e=>by rw[aE (aQ e (s4 _ _ gs) nofun)];exact e
  have kt':∀b xs,G3 b=some (.tup xs)->(aH G4 a.ds (.dT (bB sk (pk q) (.ref t3)))) b=some (.tup xs):=λb xs e=>kt _ _ (s4 _ _ e)
  have e2:∀r,r≠q->(m.set q (some (.kept n w' d z))) r=(m.set q none) r:=λr hr=>by rw[KM.set_ne hr,KM.set_ne hr]
  refine Q0 _ (h3.new (by rw[aE (aQ (s4 _ _ h3.hp) (s4 _ _ gs) nofun),s4 _ _ h3.hp,h3.hp]) (by rw[aE h3.ne];exact s4 _ _ gb) aA kt' (((db.skip (λe he=>?_) (λe he=>?_) e2).more).keep kt') (((ds.keep (λb xs e=>s4 _ _ e)).put (rfl:fS (.kept n w' d z)=some _) (s4 _ _ g3) KM.set_same e2).keep kt)) (λc o e n1 n2=>by rw[aE n2];exact s4 _ _ (s3 _ _ (fr _ _ (s1 _ _ e) n1 n2)))
  ·rw[KM.set_same]at he;cases he
  ·rw[KM.set_same]at he;cases he;rfl
def Kt{C:TD}(B:Vs K C)(D:MethAt K C "begin" "Keys.begin" fU QZA):cP P w K mg base 1 C "begin" QZA (Cj C):=by
 refine D.go kZ (λvs H Q E h=>?_) (λf cdv A outer s H vs Q E hr h=>?_)
 ·obtain⟨p,a,life,m,L,q,n,d,rfl,_⟩:=h;rfl
 ·obtain⟨p,a,life,m,L,q,n,d,rfl,ht,hL,hm,Q0⟩:=h;have c3:=cC hr;refine⟨_,(lv (re (i:=5) kZ.nd (pf (lc (jp 1) (lc (jp 2) li)))) (lv (pc (nh (R.dw c3) (jp 5) (pi (K:=K) (jp 0))) (mk wv) ph) (lv (um (R.ia c3 (pi (K:=K) (jp 0)) (jp 5) yn)) (mk (yb (pf (lc (jp 3) (lc (jp 4) li))) (yc (pi (K:=K) (jp 0)) (jp 5) (ye c3))))))),?_⟩;refine⟨Zs,λt G s1 gt=>?_⟩;dsimp only [aK];have sr:=ht.same s1;obtain⟨bk,gb,db⟩:=sr.hb;obtain⟨sk,gs,ds⟩:=sr.hs;have hB:∀e,m q=some e->fB e=none:=λe he=>by
   cases e with
   | busy n' d'=>exact IQ he (hm n' d')
   | kept=>rfl
  have EB:=DGet.t gb (iC gt);rw[db.no hB]at EB;refine⟨C,a.dx,_,.ref a.db,sr.hp,B.cl,B.nB,vU a life,none,EB,?_⟩;have nn:∀e,(m.set q none) q=some e->False:=λe he=>by rw[KM.set_same]at he;cases he
  have UA:∀r,r≠q->(m.set q none) r=m r:=λr hr=>KM.set_ne hr
  have step:∀HV G',G'=aH G a.ds (.dT HV)∨(G'=G/\HV=sk)->Dic G HV (m.set q none) fS L->∃_:True,KyAt C G' p a life (m.set q none) L/\G' a.ds=some (.dT HV)/\(∀c o,G c=some o->c≠a.ds->G' c=some o):=by
   intro HV G' hG d';rcases hG with rfl|⟨rfl,rfl⟩
   ·have kt:∀b xs,G b=some (.tup xs)->(aH G a.ds (.dT HV)) b=some (.tup xs):=λb xs e=>by rw[aE (aQ e gs nofun)];exact e
    exact⟨trivial,sr.new (by rw[aE (aQ sr.hp gs nofun)]) (by rw[aE sr.ne];exact gb) aA kt ((db.skip hB (λe he=>(nn e he).elim) UA).keep kt) (d'.keep kt),aA,λc o e hn=>by rw[aE hn];exact e⟩
   ·exact⟨trivial,sr.new rfl gb gs (λb xs e=>e) (db.skip hB (λe he=>(nn e he).elim) UA) d',gs,λc o e _=>e⟩
  have fin:∀HV G',KyAt C G' p a life (m.set q none) L->G' a.ds=some (.dT HV)->(∀c o,G c=some o->c≠a.ds->G' c=some o)->5<=5->∀t2 G2,Same G' G2->G2 t2=some (.tup [.int n,.ref d]) →
    ∃NG,DPut G2 a.db (.ref t) (.ref t2) (aH G2 a.db (.dT NG))/\Q .non (aH G2 a.db (.dT NG)):=by
   intro HV G' h' UB fr _ t2 G2 s2 g2;obtain⟨NG,WU,db'⟩:=h'.hb;have h2:=h'.same s2;have ER:=s2 _ _ (fr _ _ gt (aQ gt gs nofun));refine⟨_,DPut.t (s2 _ _ WU) (iC ER) (rY db'.len (rY hL Zd)),?_⟩;have kt:∀b xs,G2 b=some (.tup xs)->(aH G2 a.db (.dT (bB NG (pk q) (.ref t2)))) b=some (.tup xs):=λb xs e=>by rw[aE (aQ e (s2 _ _ WU) nofun)];exact e
   obtain⟨sk2,gs2,ds2⟩:=h2.hs;have e2:∀r,r≠q->(m.set q (some (.busy n d))) r=(m.set q none) r:=λr hr=>by rw[KM.set_ne hr,KM.set_ne hr]
   refine Q0 _ (h2.new (by rw[aE (aQ h2.hp (s2 _ _ WU) nofun)]) aA (by rw[aE h2.ne.symm];exact gs2) kt (((db'.keep (λb xs e=>s2 _ _ e)).put (rfl:fB (.busy n d)=some _) g2 KM.set_same e2).keep kt) (((ds2.skip (λe he=>(nn e he).elim) (λe he=>?_) e2).more).keep kt)) (λc o e n1 n2=>by rw[aE n1];exact s2 _ _ (fr _ _ (s1 _ _ e) n2));rw[KM.set_same]at he;cases he;rfl
  refine⟨C,a.dx,_,.ref a.ds,sr.hp,B.cl,B.nS,Ff a life,a.ds,rfl,.inr ⟨sk,.inl gs⟩,sk,pk q,t,gs,rfl,iC gt,λv hv=>?_,λhv=>?_⟩
  ·obtain⟨_,h',UB,fr⟩:=step _ _ (.inl rfl) (ds.drop (λe he=>(nn e he).elim) UA);refine⟨Zs,λt2 G2 s2 g2=>?_⟩;obtain⟨NG,dp,hq⟩:=fin _ _ h' UB fr Zd t2 G2 s2 g2;exact⟨C,a.dx,_,.ref a.db,s2 _ _ h'.hp,B.cl,B.nB,vU a life,a.db,_,rfl,dp,hq⟩
  ·have d':Dic G sk (m.set q none) fS L:=by
    have:=ds.drop (m':=m.set q none) (λe he=>(nn e he).elim) UA
    rwa [qG (jO hv)]at this
   obtain⟨_,h',UB,fr⟩:=step _ _ (.inr ⟨rfl,rfl⟩) d';refine⟨Zs,λt2 G2 s2 g2=>?_⟩;obtain⟨NG,dp,hq⟩:=fin _ _ h' UB fr Zd t2 G2 s2 g2;exact⟨C,a.dx,_,.ref a.db,s2 _ _ h'.hp,B.cl,B.nB,vU a life,a.db,_,rfl,dp,hq⟩
def hW:Sp:=λvs H Q _=>∃d b m,vs=[.ref d,.int m]/\Dk H d b/\0<m/\m<18446744073709551616/\∀r H',0<=r->r<m->Dk H' d b->Kp d b H H'->Q (.int r) H'
def Py(T:Txt K mg)(D:DefAt K mg "_law_deck" iZ BY):aJ P w K mg base 1 "_law_deck" BY (Iy K):=by
 refine D.go yB (λvs H Q E h=>?_) (λf cdv A outer s H vs Q E hr h=>?_)
 ·obtain⟨a,ns,rfl,_⟩:=h;rfl
 ·obtain⟨a,ns,rfl,hS,q⟩:=h;refine⟨_,(mk (mz (uo (lc (yo (R.fm (K:=K)) rfl T.b_list pR (lc (xx (R.dq (K:=K)) (jp 0) yf (tz lm)) li)) (lc (o0 rq lm (o0 yp (sj (R.iz (K:=K) rfl) rfl T.b_sum Va (lc (xx (R.dq (K:=K)) (jp 0) yf (tz lm)) li)) lm)) (lc lm li)))))),?_⟩;have hc:iB (ns.map V.int) none (some 63)=(ns.take 63).map V.int:=by rw[Os];exact congrArg _ (vI ns 63)
  refine⟨_,hS,λp1 PB=>⟨_,.inl (QZc aA),λb hb=>?_⟩⟩;have s2:Same H (aH (aH H p1 (.lst (iB (ns.map V.int) none (some 63)))) b (.lst (iB (ns.map V.int) none (some 63)))):=(aF PB).trans (aF hb);have g2:(aH (aH H p1 (.lst (iB (ns.map V.int) none (some 63)))) b (.lst (iB (ns.map V.int) none (some 63)))) b=some (.lst ((ns.take 63).map V.int)):=by rw[aA,hc]
  have hb0:H b=none:=(aF PB).free hb;show wV _ _ _ (aH (aH H p1 (.lst (iB (ns.map V.int) none (some 63)))) b (.lst (iB (ns.map V.int) none (some 63)))) _;generalize aH (aH H p1 (.lst (iB (ns.map V.int) none (some 63)))) b (.lst (iB (ns.map V.int) none (some 63)))=H2 at s2 g2;refine⟨_,s2.seq hS,λp2 nu=>⟨p2,ns.take 63,rfl,QZc (by rw[aA,hc]),by show(0:Int)<2147483629;decide,kW rfl,λd hd=>?_⟩⟩;have s4:Same H (aH H2 p2 (.lst (iB (ns.map V.int) none (some 63)))):=s2.trans (aF nu);have nbd:b≠d:=aD ((aF nu) _ _ g2) hd;refine q d b _ (s4.free hd) hb0 ⟨ns.take 63,_,_,aA,?_,?_⟩ (s4.trans (aF hd))
  ·rw[aE nbd];exact(aF nu) _ _ g2
  ·rw[mV];exact min_le_left _ _
def Ku(D:DefAt K mg "_law_draw" jA CA) :
  aJ P w K mg base 1 "_law_draw" CA hW:=by
 refine D.go fK (λvs H Q E h=>?_) (λf cdv A outer s H vs Q E hr h=>?_)
 ·obtain⟨d,b,m,rfl,_⟩:=h;rfl
 ·obtain⟨d,b,m,rfl,dk,hm,JG,q⟩:=h;have hu:=hr.units0;obtain⟨ns,s0,k0,h1,h2,h3⟩:=dk.ex;have WV:d≠b:=aQ h1 h2 (by
   intro z;injection z with z
   cases ns with
   | nil=>cases z
   | cons z1 zs=>injection z with z _;cases z)
  refine⟨_,(lv (yb (o0 rq (my (xz (K:=K)) (jp 0) lm) lm) (yc (jp 0) lm R.ja)) (lv (re (i:=2) fK.nd (my (xz (K:=K)) (jp 0) lm)) (lv (pc (nh (R.fo (K:=K) hu) (my (xz (K:=K)) (jp 0) lm) (uo li)) (lv (re (i:=2) fK.nd (yg (K:=K) PySem.F.plainAttrs_list PySem.F.slot_list_pop PySem.F.type_list_pop R.jb (my (xz (K:=K)) (jp 0) lm) (lc lm li))) (mk (pc (nh R.ge (jp 2) (o0 yh lm lm)) (lv (um (yg (K:=K) PySem.F.plainAttrs_list PySem.F.slot_list_insert PySem.F.type_list_insert R.ic (my (xz (K:=K)) (jp 0) lm) (lc lm (lc (o0 R.er (jp 2) (jp 1)) li)))) (mk (mz (o0 yp (jp 2) (jp 1))))) ph))) ph) (lv (re (i:=3) fK.nd (o0 yp (o0 rq (o0 rq (o0 R.ed (o0 yp (jp 2) lm) lm) (o0 R.ed lm (my (xz (K:=K)) (jp 0) lm))) lm) lm)) (lv (re (i:=3) fK.nd (o0 yp (o0 R.ed (jp 3) (jp 3)) lm)) (mk (mz (o0 yp (o0 R.er (o0 yp (o0 R.ed (jp 3) (o0 rq (jp 3) lm)) lm) lm) (jp 1))))))))),?_⟩;refine⟨_,QZc h1,_,rfl,d,_,2,2,rfl,rfl,h1,rfl,?_⟩;have g1:(aH H d (.lst [.ref b,.int s0,.int (k0+1)])) d=some (.lst [.ref b,.int s0,.int (k0+1)]):=aA;have g2:(aH H d (.lst [.ref b,.int s0,.int (k0+1)])) b=some (.lst (ns.map V.int)):=by rw[aE WV.symm];exact h2
  have kp1:Kp d b H (aH H d (.lst [.ref b,.int s0,.int (k0+1)])):=λc o e n1 n2=>by rw[aE n1];exact e
  show Gr _ _ _ _ (aH H d (.lst [.ref b,.int s0,.int (k0+1)]));generalize aH H d (.lst [.ref b,.int s0,.int (k0+1)])=H1 at g1 g2 kp1;refine⟨_,QZc g1,_,rfl,?_⟩;dsimp only [aK];refine Yr (t:=Gu _ _ _) (λσ' H'=>∃c:Int,σ'=[some (.ref d),some (.int m),some (.int c),none]/\(∃AE:List Int,H' d=some (.lst [.ref b,.int s0,.int (k0+1)])/\H' b=some (.lst (AE.map V.int))/\AE.length<=63)/\Kp d b H H') (λnx uw=>?_) ?_
  ·refine⟨_,QZc g1,_,rfl,kW rfl,λp hp=>⟨b,p,_,rfl,rfl,QZc (by rw[aE (aD g2 hp)];exact g2),QZc aA,?_⟩⟩;have e1:(aH H1 p (.lst [])) d=some (.lst [.ref b,.int s0,.int (k0+1)]):=by rw[aE (aD g1 hp)];exact g1
   have e2:(aH H1 p (.lst [])) b=some (.lst (ns.map V.int)):=by rw[aE (aD g2 hp)];exact g2
   have WW:Kp d b H (aH H1 p (.lst [])):=kp1.trans (.new hp);generalize aH H1 p (.lst [])=H2 at e1 e2 WW;cases ns with
   | nil=>
    exact uw _ _ ⟨_,rfl,⟨[],e1,e2,h3⟩,WW⟩
   | cons z ns=>
    have hl:ns.length+1<=63:=by simpa using h3
    refine⟨_,QZc e1,_,rfl,.inl ⟨rfl,_,QZc e2⟩,b,_,0,0,.int z,rfl,rfl,e2,Zd,Zd,by simp[seqIndex?],rfl,?_⟩;have f1:(aH H2 b (.lst ((List.map V.int (z::ns)).eraseIdx 0))) d=some (.lst [.ref b,.int s0,.int (k0+1)]):=by rw[aE WV];exact e1
    have f2:(aH H2 b (.lst ((List.map V.int (z::ns)).eraseIdx 0))) b=some (.lst (ns.map V.int)):=by rw[aA];rfl
    have WX:Kp d b H (aH H2 b (.lst ((List.map V.int (z::ns)).eraseIdx 0))):=λc o e n1 n2=>by rw[aE n2];exact WW c o e n1 n2
    dsimp only [aK];generalize aH H2 b (.lst ((List.map V.int (z::ns)).eraseIdx 0))=H3 at f1 f2 WX;refine⟨⟨Zd,Zd,Zd⟩,?_⟩;refine gV (λ_=>?_) (λ_=>?_)
    ·refine⟨_,QZc f1,_,rfl,.inl ⟨rfl,_,QZc f2⟩,⟨hm,JG⟩,b,_,0,_,rfl,rfl,f2,zero_le _,rY (m:=63) (by rw[bP];omega) Zd,hm,?_⟩;refine q _ _ (Int.emod_nonneg _ Zo) (Int.emod_lt_of_pos _ hm) ⟨z/m::ns,s0,k0+1,by rw[aE WV];exact f1,by rw[aA];rfl,by simpa using hl⟩ λc o e n1 n2=>by rw[aE n2];exact WX c o e n1 n2
    ·exact uw _ _ ⟨_,rfl,⟨ns,f1,f2,Zo⟩,WX⟩
  ·rintro σ' H' ⟨c,rfl,⟨AE,f1,f2,f3⟩,kp⟩;refine⟨by show(0:Int)<_;decide,.inr ⟨Zd,Zd⟩,_,QZc f1,_,rfl,.inl ⟨Zd,Zd⟩,by show(0:Int)<_;decide,?_⟩;generalize hx:(c%2147483629*16807+69621*(k0+1)+7919)%2147483629=x;have WY:0<=x:=by omega
   have hx1:x<2147483629:=by omega
   dsimp only [aK];refine⟨.inl ⟨Zo,Zo⟩,by show(0:Int)<_;decide,?_⟩;generalize hy:x*x%2147483587=y;have NF:0<=y:=by omega
   have OY:y<2147483587:=by omega
   dsimp only [aK];refine⟨.inl ⟨Zo,Zo⟩,by show(0:Int)<_;decide,⟨Zd,Zd⟩,hm,?_⟩;exact q _ _ (Int.emod_nonneg _ Zo) (Int.emod_lt_of_pos _ hm) ⟨AE,s0,k0+1,f1,f2,f3⟩ kp
def aAO{r:Int}(h0:0<=r)(h1:r<4):r=0∨r=1∨r=2∨r=3:=by omega
def six{r:Int}(h0:0<=r)(h1:r<6):r=0∨r=1∨r=2∨r=3∨r=4∨r=5:=by omega
structure WordsOf(L:List Nat)(g:Nat)(ws:List Str):Prop where
 nd:ws.Nodup
 of:∀z∈ws,1<=z.length/\z.length<=g/\∀c∈z.cps.toList,c∈L
def tY:Sp:=λvs H Q _=>∃(d b:TD)(L:List Nat)(g m:Nat),vs=[.ref d,.str (tx L),.int (g:Int),.int (m:Int)]/\Dk H d b/\1<=m/\m<=g/\g<=12/\L.Nodup/\m<=L.length/\L.length<=40 ∧
 ∀(l:TD)(ws:List Str)(H':Hp),WordsOf L g ws->ws.length=m->H' l=some (.lst (ws.map V.str))->l≠d->l≠b->Dk H' d b->Kp d b H H'->Q (.ref l) H'
def Kv{α:Type}(xs:List α){i j:Nat}(hi:i<=xs.length)(hj:j<=xs.length):iB xs (some (i:Int)) (some (j:Int))=(xs.drop i).take (j-i):=by
 unfold iB;rw[HT.sIx_nat,HT.sIx_nat,Nat.min_eq_left hi,Nat.min_eq_left hj]
def rD(L ts:List Nat)(a sz f k:Nat):List Nat:=ts.take a++[L.getD ((f+k)%L.length) 0]++(ts.drop (a+1)).take (sz-(a+1))
def Pz{L:List Nat}(hn:L.Nodup){i j:Nat}(hi:i<L.length)(hj:j<L.length)(h:L.getD i 0=L.getD j 0):i=j:=by
 rw[getD_eq_getElem?_getD,getD_eq_getElem?_getD,lD hi,lD hj]at h;have h':L[i]=L[j]:=h;have p:=List.pairwise_iff_getElem.mp hn;rcases lt_trichotomy i j with z|z|z
 ·exact IQ h' (p i j hi hj z)
 ·exact z
 ·exact IQ h'.symm (p j i hj hi z)
def Qa{f k k' n:Nat}(hk:k<n)(HQ:k'<n)(h:(f+k)%n=(f+k')%n):k=k':=by
 have h1:=Nat.mod_add_div (f+k) n;have h2:=Nat.mod_add_div (f+k') n;rw[h]at h1;generalize (f+k)/n=u at h1;generalize (f+k')/n=v at h2;rcases lt_trichotomy u v with z|z|z
 ·have:n*(u+1)<=n*v:=Nat.mul_le_mul_left n z;rw[Nat.mul_add,Nat.mul_one]at this;omega
 ·subst z;omega
 ·have:n*(v+1)<=n*u:=Nat.mul_le_mul_left n z;rw[Nat.mul_add,Nat.mul_one]at this;omega
def Kw{L ts:List Nat}(hn:L.Nodup){a sz f k k':Nat}(h:rD L ts a sz f k=rD L ts a sz f k')(hk:k<L.length)(HQ:k'<L.length):k=k':=by
 unfold rD at h;have h1:=List.append_inj_left' h rfl;have h2:=List.append_inj_right' h1 rfl;have h3:L.getD ((f+k)%L.length) 0=L.getD ((f+k')%L.length) 0:=by injection h2
 exact Qa hk HQ (Pz hn (mod_lt _ Zo) (mod_lt _ Zo) h3)
def Zf{L:List Nat}{i:Nat}(h:i<L.length):L.getD i 0∈L/\L[i]?=some (L.getD i 0):=by
 have e:L[i]?=some (L[i]):=lD h;have e2:L.getD i 0=L[i]:=by rw[getD_eq_getElem?_getD,e];rfl
 exact⟨e2▸getElem_mem _,e2▸e⟩
def Qb{L ts:List Nat}{g a sz f k:Nat}(h0:0<L.length)(hl:ts.length=g)(ht:∀c∈ts,c∈L)(ha:a<sz)(hs:sz<=g):1<=(rD L ts a sz f k).length/\(rD L ts a sz f k).length<=g/\∀c∈rD L ts a sz f k,c∈L:=by
 have e:(rD L ts a sz f k).length=sz:=by
  unfold rD;simp[hl];omega
 refine⟨Zo,Zo,λc hc=>?_⟩;unfold rD at hc;rcases Zma.mp hc with hc|hc
 ·rcases Zma.mp hc with hc|hc
  ·exact ht c (mem_of_mem_take hc)
  ·rw[Zms.mp hc];exact(Zf (mod_lt _ h0)).1
 ·exact ht c (List.mem_of_mem_drop (mem_of_mem_take hc))
def rE{n i:Nat}{x:V}(h:(jQ 0 n)[i]?=some x):x=.int (i:Int)/\i<n:=by
 unfold jQ at h;rw[iK]at h;cases hh:(List.range n)[i]? with
 | none=>rw[hh]at h;cases h
 | some y=>
  rw[hh]at h;obtain⟨h1,h2⟩:=Zgs.mp hh;rw[List.getElem_range]at h2;cases h;rw[<- h2];exact⟨Zs,by simpa using h1⟩
def gH(n:Nat):(jQ 0 n).length=n:=by simp[jQ]
def yC{L:List Nat}{g m:Nat}{F:Nat->List Nat}(hi:∀k k',k<m->k'<m->F k=F k'->k=k')(ho:∀k,k<m->1<=(F k).length/\(F k).length<=g/\∀c∈F k,c∈L):WordsOf L g ((List.range m).map λk=>tx (F k)):=by
 refine⟨?_,λz hz=>?_⟩
 ·show List.Pairwise (·≠·) _;rw[pairwise_map];refine List.Pairwise.imp_of_mem (λ{x y} hx hy j9 exy=>j9 ?_) List.nodup_range;exact hi _ _ (mem_range.mp hx) (mem_range.mp hy) (by simpa using congrArg (λz:Str=>z.cps.toList) exy)
 ·obtain⟨k,hk,rfl⟩:=Zmm.mp hz;have:=ho k (mem_range.mp hk);exact⟨by rw[dS];exact this.1,by rw[dS];exact this.2.1,λc hc=>this.2.2 c (by simpa using hc)⟩
def Fq(T:Txt K mg)(b8:aJ P w K mg base 1 "_law_draw" CA hW)(D:DefAt K mg "_law_unlike" cJ QZu) :
  aJ P w K mg base 2 "_law_unlike" QZu tY:=by
 refine D.go cN (λvs H Q E h=>?_) (λf cdv A outer s H vs Q E hr h=>?_)
 ·obtain⟨d,b,L,g,m,rfl,_⟩:=h;rfl
 ·obtain⟨d,b,L,g,m,rfl,dk,KW,IZ,hg,AB,hmL,dF',q⟩:=h;have b9:=hr;have lL:(tx L).length=L.length:=dS L;have PD:(tx L).length<=sizeLine:=lH Zo;have cL:(tx L).cps.toList=L:=by simp
  refine⟨_,(lv (re (i:=4) cN.nd (yg (K:=K) PySem.F.plainAttrs_str PySem.F.slot_str_join PySem.F.type_str_join (R.jc (K:=K)) ms (lc (xy rfl (js:=[none,some 0,some 1]) (N:=QZg) (CompScope.by (aB cJ) QZv rfl rfl Zk) (aP rfl) (R.cz rfl T.b_range (lc (jp 2) li)) (λC s₂ H₂ fp=>⟨(pr (i:=0) (show(QZg:List Str).Nodup by decide +kernel)),yd,(my R.iS (jp 2) (pj b8 b9 rfl (lc (jp 1) (lc (sj R.dm rfl T.b_len dU (lc (jp 2) li)) li))))⟩)) li))) (lv (pc (nh se (pj b8 b9 rfl (lc (jp 0) (lc lm li))) lm) (mk (mz (xy rfl (js:=[none,some 4]) (N:=["_law_k","_law_word"]) (CompScope.by (aB cJ) QZv rfl rfl Zk) (aP rfl) (R.cz rfl T.b_range (lc (jp 3) li)) (λC s₂ H₂ fp=>⟨(pr (i:=0) (show(["_law_k","_law_word"]:List Str).Nodup by decide +kernel)),yd,(xx R.sS (jp 1) yf (tz (o0 rq (jp 0) lm)))⟩)))) ph) (lv (re (i:=5) cN.nd (o0 rq lm (pj b8 b9 rfl (lc (jp 0) (lc (jp 2) li))))) (lv (re (i:=6) cN.nd (pj b8 b9 rfl (lc (jp 0) (lc (jp 5) li)))) (lv (re (i:=7) cN.nd (pj b8 b9 rfl (lc (jp 0) (lc (sj R.dm rfl T.b_len dU (lc (jp 1) li)) li)))) (lv (re (i:=8) cN.nd (R.il (lc (xx R.sS (jp 4) yf (tz (jp 6))) (lc (xx R.sS (jp 4) (tz (o0 rq (jp 6) lm)) (tz (jp 5))) li)))) (mk (mz (xy rfl (js:=[none,some 1,some 7,some 8]) (N:=QZf) (CompScope.by (aB cJ) QZv rfl rfl Zk) (aP rfl) (R.cz rfl T.b_range (lc (jp 3) li)) (λC s₂ H₂ fp=>⟨(pr (i:=0) (show(QZf:List Str).Nodup by decide +kernel)),yd,(o0 R.fi (o0 R.fi (my (ng (K:=K)) (jp 3) lm) (my R.iS (jp 1) (o0 yp (o0 rq (jp 2) (jp 0)) (sj R.dm rfl T.b_len dU (lc (jp 1) li))))) (my (ng (K:=K)) (jp 3) lm))⟩)))))))))),?_⟩;refine Yr (t:=Gy _ _) (λσ' H'=>∃ts:List Nat,σ'=[some (.ref d),some (.str (tx L)),some (.int (g:Int)),some (.int m),some (.str (tx ts)),none,none,none,none]/\ts.length=g/\(∀c∈ts,c∈L)/\Dk H' d b/\Kp d b H H') (λnx uw=>?_) ?_
  ·refine⟨rfl,g,rfl,Zo,Zo,?_⟩;refine bJ (gJ 0 (g:Int).toNat) (by rw[gH];omega) (λi ys H'=>Dk H' d b/\Kp d b H H'/\∃ts:List Nat,ys=ts.map (λc=>V.str (tx [c]))/\ts.length=i/\∀c∈ts,c∈L) (λi ys H' ⟨_,_,ts,e,e2,_⟩=>⟨trivial,by rw[e,bP,e2];exact bZ _⟩) ⟨dk,.refl,[],rfl,rfl,(λ_ h=>nomatch h)⟩ (?_) (?_)
   ·rintro i x ys H' hx ⟨Di,WZ,ts,e,e2,e3⟩;refine⟨PD,d,b,_,rfl,Di,Zo,Zo,λr2 CN r20 r21 Dj kpj=>⟨PD,?_⟩⟩;obtain⟨c,hc,hm⟩:=lX (xs:=(tx L).cps.toList) r20 (by rw[cL];omega);rw[cL]at hm;refine⟨c,hc,Dj,WZ.trans kpj,ts++[c],by rw[e,jM];rfl,by rw[wM,e2];rfl,λc' HH=>?_⟩;rcases Zma.mp HH with h|h
    ·exact e3 c' h
    ·rw[Zms.mp h];exact hm
   ·rintro ys H' ⟨Di,WZ,ts,e,e2,e3⟩;intro p hp;have KY:ts.length=g:=by rw[e2,gH];omega
    refine⟨_,p,ts.map (λc=>tx [c]),rfl,rfl,QZc (by rw[aA,e,map_map];rfl),?_,?_⟩
    ·rw[xI,bP,Ja,dS];simp;omega
    ·refine uw _ _ ⟨ts,?_,KY,e3,Di.new hp,WZ.trans (.new hp)⟩;rw[Ja,zW];rfl
  ·rintro σ' H1 ⟨ts,rfl,KY,PF,D1,k1⟩;have hcl:(tx ts).cps.toList=ts:=by simp
   have em:((m:Int)).toNat=m:=by omega
   refine⟨d,b,3,rfl,D1,Zd,Zd,λr H2 r0 r1 D2 k2=>?_⟩;refine gV (λ_=>?_) (λ_=>?_)
   ·refine⟨m,rfl,Zo,Zo,?_⟩;refine bJ (gJ 0 (m:Int).toNat) (by rw[gH];omega) (λi ys H'=>ys=((List.range i).map λk=>tx (ts.take (k+1))).map V.str/\H'=H2) (λi ys H' ⟨e,_⟩=>⟨trivial,by rw[e];simp⟩) ⟨rfl,rfl⟩ (?_) (?_)
    ·rintro i x ys H' hx ⟨e,e2⟩;subst e2;obtain⟨rfl,hi⟩:=rE hx;refine⟨lH (by rw[dS];omega),?_,rfl⟩;rw[hcl,show((i:Nat):Int)+1=((i+1:Nat):Int) by omega,vI,e,range_succ,jM,jM];rfl
    ·rintro ys H' ⟨e,e2⟩;subst e2;intro p hp;rw[gH,em]at e;have hd:=D2.ne hp;refine q p ((List.range m).map λk=>tx (ts.take (k+1))) _ (yC (λk k' hk HQ e=>?_) (λk hk=>?_)) Zs (by rw[aA,e]) hd.1 hd.2 (D2.new hp) ((k1.trans k2).trans (.new hp))
     ·have:=congrArg length e;rw[mV,mV,KY]at this;omega
     ·exact⟨by rw[mV,KY];omega,by rw[mV,KY];omega,λc hc=>PF c (mem_of_mem_take hc)⟩
   ·refine⟨d,b,g,rfl,D2,Zo,Zo,λr5 H3 s0 s1 D3 k3=>?_⟩;dsimp only [aK];refine⟨d,b,1+r5,rfl,D3,Zo,Zo,λra H4 a0 a1 D4 k4=>?_⟩;dsimp only [aK];refine⟨PD,d,b,_,rfl,D4,Zo,Zo,λrf H5 f0 f1 D5 k5=>?_⟩;rw[lL]at f1;dsimp only [aK];obtain⟨a,rfl⟩:∃a:Nat,ra=a:=⟨ra.toNat,Zo⟩;obtain⟨z5,rfl⟩:∃z:Nat,r5=z:=⟨r5.toNat,Zo⟩;obtain⟨fz,rfl⟩:∃z:Nat,rf=z:=⟨rf.toNat,Zo⟩;refine⟨lH (by rw[dS];omega),lH (by rw[dS];omega),kW rfl,λtp htp=>?_⟩;have g5:(aH H5 tp (.tup [.str (tx (iB (tx ts).cps.toList none (some (a:Int)))),.str (tx (iB (tx ts).cps.toList (some ((a:Int)+1)) (some (1+(z5:Int)))))])) tp=some (.tup [.str (tx (ts.take a)),.str (tx ((ts.drop (a+1)).take (z5+1-(a+1))))]):=by
     rw[aA,hcl,vI,show(a:Int)+1=((a+1:Nat):Int) by omega,show 1+(z5:Int)=((z5+1:Nat):Int) by omega,Kv ts Zo Zo]
    have k6:Kp d b H (aH H5 tp (.tup [.str (tx (iB (tx ts).cps.toList none (some (a:Int)))),.str (tx (iB (tx ts).cps.toList (some ((a:Int)+1)) (some (1+(z5:Int)))))])):=((((k1.trans k2).trans k3).trans k4).trans k5).trans (.new htp);have D6:=D5.new (o:=.tup [.str (tx (iB (tx ts).cps.toList none (some (a:Int)))),.str (tx (iB (tx ts).cps.toList (some ((a:Int)+1)) (some (1+(z5:Int)))))]) htp;dsimp only [aK];generalize aH H5 tp (.tup [.str (tx (iB (tx ts).cps.toList none (some (a:Int)))),.str (tx (iB (tx ts).cps.toList (some ((a:Int)+1)) (some (1+(z5:Int)))))])=H6 at g5 k6 D6;refine⟨m,rfl,Zo,Zo,?_⟩;refine bJ (gJ 0 (m:Int).toNat) (by rw[gH];omega) (λi ys H'=>ys=((List.range i).map λk=>tx (rD L ts a (z5+1) fz k)).map V.str/\H'=H6) (λi ys H' ⟨e,_⟩=>⟨trivial,by rw[e];simp⟩) ⟨rfl,rfl⟩ (?_) (?_)
    ·rintro i x ys H' hx ⟨e,e2⟩;subst e2;obtain⟨rfl,hi⟩:=rE hx;have h0:0<L.length:=by omega
     have hL:=Zf (L:=L) (mod_lt (fz+i) h0);have t1:(tx (ts.take a)).length<=12:=by rw[dS,mV];omega
     have t2:(tx ((ts.drop (a+1)).take (z5+1-(a+1)))).length<=12:=by rw[dS,mV,length_drop];omega
     refine⟨_,QZd g5,_,rfl,PD,by rw[lL];omega,PD,L.getD ((fz+i)%L.length) 0,?_,lH (by have:=dS [L.getD ((fz+i)%L.length) 0];simp only [wN,length_nil]at this;omega),_,QZd g5,_,rfl,lH ?_,?_,rfl⟩
     ·rw[lL,cL,show((fz:Int)+(i:Int))%(L.length:Int)=(((fz+i)%L.length:Nat):Int) by rw[Int.natCast_emod,Int.natCast_add]];exact fQ hL.2
     ·rw[zS,dS,wM,mV];simp only [wN,length_nil];omega
     ·rw[e,range_succ,jM,jM,zS,zS];rfl
    ·rintro ys H' ⟨e,e2⟩;subst e2;intro p hp;rw[gH,em]at e;have hd:=D6.ne hp;refine q p ((List.range m).map λk=>tx (rD L ts a (z5+1) fz k)) _ (yC (λk k' hk HQ e=>?_) (λk hk=>?_)) Zs (by rw[aA,e]) hd.1 hd.2 (D6.new hp) (k6.trans (.new hp))
     ·exact Kw AB e Zo Zo
     ·exact Qb Zo KY PF Zo Zo
def aT{n:Nat}(h:Nat.ble n 1000=true):n<=1000:=T0 h
def Fs:An->Str|.is1 _=>"is"|.is2 _ _=>"is"|.short _=>"short"|.full _=>"full"|.no _=>"no"|.ok=>"ok"
def wC{C:TD}(B:Ph K C)(D:MethAt K C "amount" "Book.amount" eU DR):cP P w K mg base 1 C "amount" DR (iQ C):=by
 refine D.go rB (λvs H Q E h=>?_) (λf cdv A outer s H vs Q E hr h=>?_)
 ·obtain⟨p,n,prs,rfl,_⟩:=h;rfl
 ·obtain⟨p,n,prs,rfl,bk,q⟩:=h;have c3:=cC hr;obtain⟨dx,d,h1,h2⟩:=bk.ex;refine⟨_,(mk (mz (R.cv c3 (pi (K:=K) (jp 0)) (jp 1) lm))),?_⟩;refine⟨C,dx,_,.ref d,h1,B.cl,B.nA,fH _,d,rfl,.inl ⟨_,.inl h2⟩,_,DGet.k (k:=Sum.inr n) h2,?_⟩;rw[vQ];exact q
def aZ{α:Type}{xs:List α}{i:Nat}{x:α}(h:xs[i]?=some x):xs.take (i+1)=xs.take i++[x]:=by
 rw[List.take_succ,h];rfl
def Aj{C:TD}(T:Txt K mg)(B:Ph K C)(D:MethAt K C "rows" "Book.rows" fJ EQ):cP P w K mg base 1 C "rows" EQ (qW C):=by
 refine D.go vY (λvs H Q E h=>?_) (λf cdv A outer s H vs Q E hr h=>?_)
 ·obtain⟨p,prs,rfl,_⟩:=h;rfl
 ·obtain⟨p,prs,rfl,bk,hz,q⟩:=h;have c3:=cC hr;obtain⟨dx,d,h1,h2⟩:=bk.ex;refine⟨_,(mk (mz (xy rfl (js:=[none,some 0]) (N:=["name","self"]) (CompScope.by (aB fJ) EQ rfl rfl Zk) (aP rfl) (uk (K:=K) (sj (R.ga rfl) rfl T.b_sorted eI (lc (pi (K:=K) (jp 0)) li))) (λC s₂ H₂ fp=>⟨(pr (i:=0) (show(["name","self"]:List Str).Nodup by decide +kernel)),(zr (nh ym (rm c3 (pi (K:=K) (jp 1)) (jp 0)) lm)),(R.il (lc (jp 0) (lc (rm c3 (pi (K:=K) (jp 1)) (jp 0)) li)))⟩)))),?_⟩;refine⟨C,dx,_,.ref d,h1,B.cl,B.nA,fH _,prs.map (·.1),_,.inl h2,qU prs,by rw[bP];exact hz,λl hl=>⟨l,rfl,⟨_,QZc aA⟩,?_⟩⟩;have s1:Same H (aH H l (.lst ((mY (prs.map (·.1))).map V.str))):=aF hl;have g1:(aH H l (.lst ((mY (prs.map (·.1))).map V.str))) l=some (.lst ((mY (prs.map (·.1))).map V.str)):=aA;generalize aH H l (.lst ((mY (prs.map (·.1))).map V.str))=H1 at s1 g1;have hlen:(mY (prs.map (·.1))).length<64:=by rw[lY,bP];exact hz
  refine bJ (cA K l ((mY (prs.map (·.1))).map V.str)) (by rw[bP];omega) (λi ys H'=>∃zs:List Z,ys=bT zs/\Same H1 H'/\ZAt H' zs/\zs.length<=i/\zs.map (·.2)=(((mY (prs.map (·.1))).take i).filter λn=>decide (0<bM prs n)).map λn=>(n,bM prs n))
   (λi ys H' ⟨zs,e,s',_,EI,_⟩=>⟨QZc (s' _ _ g1),by rw[e];unfold bT;rw[bP];exact EI⟩) ⟨[],rfl,Same.refl _,(λ_ h=>nomatch h),bZ _,rfl⟩ (λi x ys H' hx ⟨zs,e,s',EC,HC,UC⟩=>?_) (λys H' ⟨zs,e,s',EC,HC,UC⟩=>?_)
  ·rw[iK]at hx;cases hn:(mY (prs.map (·.1)))[i]? with
   | none=>rw[hn]at hx;cases hx
   | some n=>
    rw[hn]at hx;cases hx;have T2:n∈prs.map (·.1):=(dC _).mem_iff.mp (kS hn);obtain⟨a,ha⟩:=lI T2;have ea:bM prs n=a:=by unfold bM;rw[ha];rfl
    have gd:∀CN,Same H1 CN->DGet CN d (.str n) (some (.int a)):=λCN JY=>by
     have:=DGet.k (k:=Sum.inr n) (JY  _ _ (s1 _ _ h2));rw[mG,ha]at this;exact this
    have Z8:=s' _ _ (s1 _ _ h1);refine⟨C,dx,_,.ref d,Z8,B.cl,B.nA,fH _,d,_,rfl,gd H' s',?_⟩;refine gV (λhb=>?_) (λhb=>?_)
    ·have X9:0<a:=by simpa using hb
     refine⟨C,dx,_,.ref d,Z8,B.cl,B.nA,fH _,d,_,rfl,gd H' s',kW rfl,λt ht=>⟨zs++[(t,n,a)],by rw[e];unfold bT;rw[jM];rfl,s'.trans (aF ht),?_,by rw[wM];simpa using HC,?_⟩⟩
     ·intro z XD;rcases Zma.mp XD with m|m
      ·exact(EC.same (aF ht)) z m
      ·rw[Zms.mp m];exact aA
     ·rw[jM,UC,aZ hn,filter_append,jM];congr 1;rw[filter_cons,NE (by rw[ea];exact UV X9)];rw[<- ea];rfl
    ·have X9:¬ 0<a:=by simpa using hb
     refine⟨zs,e,s',EC,Zo,?_⟩;rw[UC,aZ hn,filter_append,filter_cons,IS (by rw[ea];simpa using X9)];simp
  ·intro l2 nr;subst e;refine q l2 zs _ (s1.trans (s'.trans (aF nr))) ?_ aA (EC.same (aF nr)) ?_
   ·exact s1.free (s'.free nr)
   ·rw[UC,bP,take_length];rfl
def cZ(f:Str->Nat)(z:Str)(v:Nat):Str->Nat:=λy=>if y=z then v else f y
def aI(f:Str->Nat):Dd->Option An
 | .add a n=>if 1000000000000<f a+n then some (.full (f a)) else some (.is1 (f a+n))
 | .take a n=>if f a<n then some (.short (f a)) else some (.is1 (f a-n))
 | .move a b n=>if f a<n then some (.short (f a)) else if 1000000000000<f b+n then some (.full (f b)) else some (.is2 (f a-n) (f b+n))
 | .send _ a n=>if f a<n then some (.short (f a)) else none
 | .fetch _ a n=>if 1000000000000<f a+n then some (.full (f a)) else none
 | .pass _ _ _ _=>none
def eP(f:Str->Nat):Dd->List An
 | .send h a n=>[.no h,.is1 (f a-n)]
 | .fetch h a n=>[.no h,.is1 (f a+n)]
 | .pass h g _ _=>[.no h,.no g,.ok]
 | _=>[]
def after(f:Str->Nat):Dd->An->(Str->Nat)
 | .add a n,.is1 _=>cZ f a (f a+n)
 | .take a n,.is1 _=>cZ f a (f a-n)
 | .move a b n,.is2 _ _=>cZ (cZ f a (f a-n)) b (f b+n)
 | .send _ a n,.is1 _=>cZ f a (f a-n)
 | .fetch _ a n,.is1 _=>cZ f a (f a+n)
 | _,_=>f
def rF(f:Str->Nat)(x:Dd)(q:Bool)(y:An):Prop:=(q=false/\aI f x=some y)∨(q=true/\aI f x=none/\y∈eP f x)
def Kx{f:Str->Nat}(hf:∀z,f z<=1000000000000){x:Dd}(hx:x.Ok){q:Bool}{y:An}(h:rF f x q y)(hq:q=true->x.far=true):An.Of x y/\(x.far=true->(q=true↔y.early=false)):=by
 rcases h with⟨rfl,h⟩|⟨rfl,h1,h2⟩
 ·cases x with
  | add a n=>
   simp only [aI]at h;have:=hf a;split at h<;>cases h
   ·exact⟨⟨Zo,Zo⟩,λz=>nomatch z⟩
   ·exact⟨⟨Zo,Zo⟩,λz=>nomatch z⟩
  | take a n=>
   simp only [aI]at h;have:=hf a;split at h<;>cases h
   ·exact⟨by show f a<n;omega,λz=>nomatch z⟩
   ·exact⟨by show f a-n+n<=1000000000000;omega,λz=>nomatch z⟩
  | move a b n=>
   simp only [aI]at h;have:=hf a;have:=hf b;split at h
   ·cases h;exact⟨by show f a<n;omega,λz=>nomatch z⟩
   ·split at h<;>cases h
    ·exact⟨⟨Zo,Zo⟩,λz=>nomatch z⟩
    ·exact⟨⟨Zo,Zo,Zo⟩,λz=>nomatch z⟩
  | send g a n=>
   simp only [aI]at h;split at h<;>cases h;exact⟨by show f a<n;omega,λ_=>⟨nofun,nofun⟩⟩
  | fetch g a n=>
   simp only [aI]at h;have:=hf a;split at h<;>cases h;exact⟨⟨Zo,Zo⟩,λ_=>⟨nofun,nofun⟩⟩
  | pass g k a n=>cases h
 ·cases x with
  | add a n=>cases hq rfl
  | take a n=>cases hq rfl
  | move a b n=>cases hq rfl
  | send g a n=>
   have:=hf a;simp only [aI]at h1;simp only [eP,mem_cons,FM,or_false]at h2;have hn:n<=f a:=by
    by_cases hh:f a<n
    ·rw[NE hh]at h1;cases h1
    ·omega
   rcases h2 with rfl|rfl
   ·exact⟨rfl,λ_=>⟨λ_=>rfl,λ_=>rfl⟩⟩
   ·exact⟨by show f a-n+n<=1000000000000;omega,λ_=>⟨λ_=>rfl,λ_=>rfl⟩⟩
  | fetch g a n=>
   simp only [aI]at h1;simp only [eP,mem_cons,FM,or_false]at h2;have hn:¬ 1000000000000<f a+n:=by
    intro hh;rw[NE hh]at h1;cases h1
   rcases h2 with rfl|rfl
   ·exact⟨rfl,λ_=>⟨λ_=>rfl,λ_=>rfl⟩⟩
   ·exact⟨⟨Zo,Zo⟩,λ_=>⟨λ_=>rfl,λ_=>rfl⟩⟩
  | pass g k a n=>
   simp only [eP,mem_cons,FM,or_false]at h2;rcases h2 with rfl|rfl|rfl
   ·exact⟨.inl rfl,λ_=>⟨λ_=>rfl,λ_=>rfl⟩⟩
   ·exact⟨.inr rfl,λ_=>⟨λ_=>rfl,λ_=>rfl⟩⟩
   ·exact⟨trivial,λ_=>⟨λ_=>rfl,λ_=>rfl⟩⟩
def kL{f:Str->Nat}{z:Str}{v:Nat}(hf:∀z,f z<=1000000000000)(hv:v<=1000000000000):∀y,cZ f z v y<=1000000000000:=λy=>by
 unfold cZ;split
 ·exact hv
 ·exact hf y
def Ky{f:Str->Nat}(hf:∀z,f z<=1000000000000){x:Dd}{q:Bool}{y:An}(h:rF f x q y):∀z,after f x y z<=1000000000000:=by
 rcases h with⟨rfl,h⟩|⟨rfl,h1,h2⟩
 ·cases x with
  | add a n=>
   simp only [aI]at h;split at h<;>cases h
   ·exact hf
   ·exact kL hf Zo
  | take a n=>
   simp only [aI]at h;have:=hf a;split at h<;>cases h
   ·exact hf
   ·exact kL hf Zo
  | move a b n=>
   simp only [aI]at h;have:=hf a;split at h
   ·cases h;exact hf
   ·split at h<;>cases h
    ·exact hf
    ·exact kL (kL hf Zo) Zo
  | send g a n=>
   simp only [aI]at h;split at h<;>cases h;exact hf
  | fetch g a n=>
   simp only [aI]at h;split at h<;>cases h;exact hf
  | pass g k a n=>cases h
 ·cases x with
  | add a n=>cases h2
  | take a n=>cases h2
  | move a b n=>cases h2
  | send g a n=>
   have:=hf a;simp only [eP,mem_cons,FM,or_false]at h2;rcases h2 with rfl|rfl
   ·exact hf
   ·exact kL hf Zo
  | fetch g a n=>
   simp only [aI]at h1;simp only [eP,mem_cons,FM,or_false]at h2;have hn:¬ 1000000000000<f a+n:=by
    intro hh;rw[NE hh]at h1;cases h1
   rcases h2 with rfl|rfl
   ·exact hf
   ·exact kL hf Zo
  | pass g k a n=>
   simp only [eP,mem_cons,FM,or_false]at h2;rcases h2 with rfl|rfl|rfl<;>exact hf
def zA:Dd->An->List (Str×Int)
 | .add a n,.is1 _=>[(a,(n:Int))]
 | .take a n,.is1 _=>[(a,-(n:Int))]
 | .move a b n,.is2 _ _=>[(a,-(n:Int)),(b,(n:Int))]
 | .send _ a n,.is1 _=>[(a,-(n:Int))]
 | .fetch _ a n,.is1 _=>[(a,(n:Int))]
 | _,_=>[]
def Zh(y:An):nV y.vs 0=some (.str (Fs y)):=by cases y<;>rfl
def Zi{y:An}(h:Fs y="is"):(∃m,y=.is1 m)∨∃l m,y=.is2 l m:=by
 cases y with
 | is1 m=>exact .inl ⟨m,rfl⟩
 | is2 l m=>exact .inr ⟨l,m,rfl⟩
 | short m=>exact IQ (show("short":Str)="is" from h) Zk
 | full m=>exact IQ (show("full":Str)="is" from h) Zk
 | no m=>exact IQ (show("no":Str)="is" from h) Zk
 | ok=>exact IQ (show("ok":Str)="is" from h) Zk
def eQ(f:Str->Nat)(c:Str×Int):Str->Nat:=cZ f c.1 ((f c.1:Int)+c.2).toNat
def Kz(f:Str->Nat)(cs:List (Str×Int)):Str->Nat:=cs.foldl eQ f
def La:(Str->Nat)->List (Str×Int)->Prop
 | _,[]=>True
 | f,c::cs=>0<=(f c.1:Int)+c.2/\La (eQ f c) cs
def yD{f:Str->Nat}{x:Dd}{q:Bool}{y:An}(hx:x.Ok)(h:rF f x q y):Kz f (zA x y)=after f x y/\La f (zA x y):=by
 rcases h with⟨rfl,h⟩|⟨rfl,h1,h2⟩
 ·cases x with
  | add a n=>
   simp only [aI]at h;split at h<;>cases h
   ·exact⟨rfl,trivial⟩
   ·refine⟨?_,by show(0:Int)<=_+_;omega,trivial⟩;show cZ f a ((f a:Int)+(n:Int)).toNat=cZ f a (f a+n);rw[show((f a:Int)+(n:Int)).toNat=f a+n by omega]
  | take a n=>
   simp only [aI]at h;split at h<;>cases h
   ·exact⟨rfl,trivial⟩
   ·refine⟨?_,by show(0:Int)<=(f a:Int)+-(n:Int);omega,trivial⟩;show cZ f a ((f a:Int)+-(n:Int)).toNat=cZ f a (f a-n);rw[show((f a:Int)+-(n:Int)).toNat=f a-n by omega]
  | move a b n=>
   have KJ:b≠a:=λz=>hx.2.2.1 z.symm
   simp only [aI]at h;split at h
   ·cases h;exact⟨rfl,trivial⟩
   ·split at h<;>cases h
    ·exact⟨rfl,trivial⟩
    ·have eb:eQ f (a,-(n:Int)) b=f b:=by unfold eQ cZ;exact IS KJ
     refine⟨?_,by show(0:Int)<=(f a:Int)+-(n:Int);omega,?_,trivial⟩
     ·show eQ (eQ f (a,-(n:Int))) (b,(n:Int))=cZ (cZ f a (f a-n)) b (f b+n);have e1:eQ f (a,-(n:Int))=cZ f a (f a-n):=by
       unfold eQ;rw[show((f a:Int)+-(n:Int)).toNat=f a-n by omega]
      unfold eQ at eb ⊢;dsimp only at eb ⊢;rw[eb,show((f b:Int)+(n:Int)).toNat=f b+n by omega];unfold eQ at e1;rw[e1]
     ·show(0:Int)<=(eQ f (a,-(n:Int)) b:Int)+(n:Int);omega
  | send g a n=>
   simp only [aI]at h;split at h<;>cases h;exact⟨rfl,trivial⟩
  | fetch g a n=>
   simp only [aI]at h;split at h<;>cases h;exact⟨rfl,trivial⟩
  | pass g k a n=>cases h
 ·cases x with
  | add a n=>cases h2
  | take a n=>cases h2
  | move a b n=>cases h2
  | send g a n=>
   simp only [aI]at h1;simp only [eP,mem_cons,FM,or_false]at h2;have hn:¬ f a<n:=by
    intro hh;rw[NE hh]at h1;cases h1
   rcases h2 with rfl|rfl
   ·exact⟨rfl,trivial⟩
   ·refine⟨?_,by show(0:Int)<=(f a:Int)+-(n:Int);omega,trivial⟩;show cZ f a ((f a:Int)+-(n:Int)).toNat=cZ f a (f a-n);rw[show((f a:Int)+-(n:Int)).toNat=f a-n by omega]
  | fetch g a n=>
   simp only [eP,mem_cons,FM,or_false]at h2;rcases h2 with rfl|rfl
   ·exact⟨rfl,trivial⟩
   ·refine⟨?_,by show(0:Int)<=(f a:Int)+(n:Int);omega,trivial⟩;show cZ f a ((f a:Int)+(n:Int)).toNat=cZ f a (f a+n);rw[show((f a:Int)+(n:Int)).toNat=f a+n by omega]
  | pass g k a n=>
   simp only [eP,mem_cons,FM,or_false]at h2;rcases h2 with rfl|rfl|rfl<;>exact⟨rfl,trivial⟩
def bO:Dd->List (Str×Int)
 | .add a n=>[(a,(n:Int))]
 | .take a n=>[(a,-(n:Int))]
 | .move a b n=>[(a,-(n:Int)),(b,(n:Int))]
 | .send _ a n=>[(a,-(n:Int))]
 | .fetch _ a n=>[(a,(n:Int))]
 | .pass _ _ _ _=>[]
def Lb{x:Dd}{y:An}(hy:An.Of x y)(h:Fs y="is"):zA x y=bO x:=by
 rcases Zi h with⟨m,rfl⟩|⟨l,m,rfl⟩<;>cases x<;>first|rfl|exact hy.elim
def Vx{x:Dd}{y:An}(h:Fs y≠"is"):zA x y=[]:=by cases x<;>cases y<;>first|rfl|exact IQ rfl h
def Cn:Sp:=λvs H Q _=>∃(t:TD)(x:Dd),vs=[.ref t]/\H t=some (.tup x.vs)/\∀(tp:TD)(zs:List Z)(H':Hp),Same H H'->H' tp=some (.tup (bT zs))->ZAt H' zs->zs.map (·.2)=bO x->Q (.ref tp) H'
def pN(T:Txt K mg)(D:DefAt K mg "done_changes" cT DU):aJ P w K mg base 1 "done_changes" DU Cn:=by
 refine D.go jH (λvs H Q E h=>?_) (λf cdv A outer s H vs Q E hr h=>?_)
 ·obtain⟨t,x,rfl,_⟩:=h;rfl
 ·obtain⟨p,x,rfl,hp,q⟩:=h;refine⟨_,(lv (pc (nh se (my (ng (K:=K)) (jp 0) lm) ms) (mk (mz (pf li))) ph) (lv (pc (nh se (my (ng (K:=K)) (jp 0) lm) ms) (mk (mz (pf (lc (pf (lc (my (ng (K:=K)) (jp 0) lm) (lc (sh (my (ng (K:=K)) (jp 0) (sh lm))) li))) (lc (pf (lc (my (ng (K:=K)) (jp 0) lm) (lc (my (ng (K:=K)) (jp 0) (sh lm)) li))) li))))) ph) (lv (pc (nh (R.cw (K:=K)) (my (ng (K:=K)) (jp 0) lm) (pf (lc ms (lc ms li)))) (mk (mz (pf (lc (pf (lc (my (ng (K:=K)) (jp 0) (sh lm)) (lc (sh (my (ng (K:=K)) (jp 0) (sh lm))) li))) li)))) ph) (mk (mz (pf (lc (pf (lc (my (ng (K:=K)) (jp 0) (sh lm)) (lc (my (ng (K:=K)) (jp 0) (sh lm)) li))) li))))))),?_⟩;have z1:∀ {H':Hp}{a:TD}{x:Str}{i:Int},H' a=some (.tup [.str x,.int i])->ZAt H' [(a,x,i)]:=λh z hz=>by
   rw[Zms.mp hz];exact h
  cases x with
  | add a n=>
   refine⟨_,QZd hp,_,rfl,_,QZd hp,_,rfl,_,QZd hp,_,rfl,aT rfl,λp1 H1 s1 g1=>⟨p1,_,rfl,.inr (QZd g1),rfl,rfl,?_⟩⟩;exact⟨_,QZd (s1 _ _ hp),_,rfl,_,QZd (s1 _ _ hp),_,rfl,aT rfl,λp2 H2 s2 g2=>⟨aT rfl,λp3 H3 s3 g3=>q p3 [(p2,a,(n:Int))] H3 ((s1.trans s2).trans s3) g3 (z1 (s3 _ _ g2)) rfl⟩⟩
  | take a n=>
   refine⟨_,QZd hp,_,rfl,_,QZd hp,_,rfl,_,QZd hp,_,rfl,aT rfl,λp1 H1 s1 g1=>⟨p1,_,rfl,.inr (QZd g1),rfl,rfl,?_⟩⟩;exact⟨_,QZd (s1 _ _ hp),_,rfl,_,QZd (s1 _ _ hp),_,rfl,aT rfl,λp2 H2 s2 g2=>⟨aT rfl,λp3 H3 s3 g3=>q p3 [(p2,a,-(n:Int))] H3 ((s1.trans s2).trans s3) g3 (z1 (s3 _ _ g2)) rfl⟩⟩
  | send h a n=>
   refine⟨_,QZd hp,_,rfl,_,QZd hp,_,rfl,_,QZd hp,_,rfl,aT rfl,λp1 H1 s1 g1=>⟨p1,_,rfl,.inr (QZd g1),rfl,rfl,?_⟩⟩;exact⟨_,QZd (s1 _ _ hp),_,rfl,_,QZd (s1 _ _ hp),_,rfl,aT rfl,λp2 H2 s2 g2=>⟨aT rfl,λp3 H3 s3 g3=>q p3 [(p2,a,-(n:Int))] H3 ((s1.trans s2).trans s3) g3 (z1 (s3 _ _ g2)) rfl⟩⟩
  | fetch h a n=>
   refine⟨_,QZd hp,_,rfl,_,QZd hp,_,rfl,_,QZd hp,_,rfl,aT rfl,λp1 H1 s1 g1=>⟨p1,_,rfl,.inr (QZd g1),rfl,rfl,?_⟩⟩;exact⟨_,QZd (s1 _ _ hp),_,rfl,_,QZd (s1 _ _ hp),_,rfl,aT rfl,λp2 H2 s2 g2=>⟨aT rfl,λp3 H3 s3 g3=>q p3 [(p2,a,(n:Int))] H3 ((s1.trans s2).trans s3) g3 (z1 (s3 _ _ g2)) rfl⟩⟩
  | move a b n=>
   refine⟨_,QZd hp,_,rfl,_,QZd hp,_,rfl,_,QZd hp,_,rfl,_,QZd hp,_,rfl,aT rfl,λp2 H2 s2 g2=>⟨_,QZd (s2 _ _ hp),_,rfl,_,QZd (s2 _ _ hp),_,rfl,aT rfl,λp3 H3 s3 g3=>⟨aT rfl,λp4 H4 s4 g4=>?_⟩⟩⟩;refine q p4 [(p2,a,-(n:Int)),(p3,b,(n:Int))] H4 ((s2.trans s3).trans s4) g4 (λz hz=>?_) rfl;rcases mem_cons.mp hz with rfl|hz
   ·exact s4 _ _ (s3 _ _ g2)
   ·rw[Zms.mp hz];exact s4 _ _ g3
  | pass h g a n=>
   refine⟨_,QZd hp,_,rfl,?_⟩;exact⟨aT rfl,λp1 H1 s1 g1=>q p1 [] H1 s1 g1 (λ_ h=>nomatch h) rfl⟩
def Lc:Sp:=λvs H Q _=>∃(t c:TD)(x:Dd)(y:An),vs=[.ref t,.ref c]/\H t=some (.tup x.vs)/\H c=some (.tup y.vs)/\An.Of x y/\∀(tp:TD)(zs:List Z)(H':Hp),Same H H'->H' tp=some (.tup (bT zs))->ZAt H' zs->zs.map (·.2)=zA x y->Q (.ref tp) H'
def rX(T:Txt K mg)(f9:aJ P w K mg base 1 "done_changes" DU Cn)(D:DefAt K mg "changes_of" fT QZW):aJ P w K mg base 2 "changes_of" QZW Lc:=by
 refine D.go rQ (λvs H Q E h=>?_) (λf cdv A outer s H vs Q E hr h=>?_)
 ·obtain⟨t,c,x,y,rfl,_⟩:=h;rfl
 ·obtain⟨t,c,x,y,rfl,gt,gc,hy,q⟩:=h;have d5:=hr;refine⟨_,(lv (pc (nh R.ne (my (ng (K:=K)) (jp 1) lm) ms) (mk (mz (pf li))) ph) (mk (mz (pj f9 d5 rfl (lc (jp 0) li))))),?_⟩;refine⟨_,QZd gc,_,Zh y,?_⟩;show if (!decide (Fs y="is"))=true then _ else _
  by_cases hw:Fs y="is"
  ·refine fR (by rw[UV hw];rfl) ?_;exact⟨t,x,rfl,gt,λtp zs H' s' g z e=>q tp zs H' s' g z (by rw[e,Lb hy hw])⟩
  ·refine lW (by rw[UF hw];rfl) ?_;exact⟨aT rfl,λp1 H1 s1 g1=>q p1 [] H1 s1 g1 (λ_ h=>nomatch h) (by rw[Vx hw];rfl)⟩
def Ld{C:TD}(T:Txt K mg)(B:Ph K C)(D:ClsAt K mg "Book" C "Book.__init__" bX QZZ [[],[.non]]):∀d∈([[],[.non]]:List (List V)),wO P w K mg base 1 "Book" C QZZ d (vT C):=by
 refine D.go oJ (λvs H Q E h=>?_) (λf cdv A outer s H vs Q E hr h=>?_)
 ·obtain⟨p,dx,r,prs,rfl,_⟩:=h;rfl
 ·obtain⟨p,dx,r,prs,rfl,hp,hR,nd,hz,q⟩:=h;refine⟨_,(lv (sf (K:=K) (jp 0) AA) (mk (pc (nh R.dt (jp 1) yn) (mk (sf (K:=K) (jp 0) (yo (R.eh (K:=K) rfl) rfl T.b_dict Bs (lc (jp 1) li)))) ph))),?_⟩;intro d1 CO;have np:=aD hp CO;refine⟨C,dx,[],(by rw[aE np];exact hp),B.cl,B.nA,(by show 0<1000;decide),?_⟩;have g1:(aH (aH H d1 (.dK [])) p (.ins C dx [("amounts",.ref d1)])) p=some (.ins C dx [("amounts",.ref d1)]):=aA;have g2:(aH (aH H d1 (.dK [])) p (.ins C dx [("amounts",.ref d1)])) d1=some (.dK []):=by rw[aE np.symm];exact aA
  have k1:∀b o,H b=some o->b≠p->(aH (aH H d1 (.dK [])) p (.ins C dx [("amounts",.ref d1)])) b=some o:=λb o e hb=>by rw[aE hb,aE (aD e CO)];exact e
  dsimp only;rw[aAG];generalize aH (aH H d1 (.dK [])) p (.ins C dx [("amounts",.ref d1)])=H1 at g1 g2 k1;rcases hR with⟨rfl,rfl⟩|⟨l,zs,rfl,hl,EC,rfl⟩
  ·exact q H1 d1 CO g1 g2 k1
  ·have nl:l≠p:=aQ hl hp nofun;have XF:ZAt H1 zs:=λz hz=>k1 _ _ (EC z hz) (aQ (EC z hz) hp nofun)
   refine⟨wz zs,by rw[Vp];exact QZc (k1 _ _ hl nl),Za XF,by unfold wz;rw[bP];simpa using hz,λd hd=>?_⟩;have TY:H d=none:=by
    cases e:H d with
    | none=>rfl
    | some o=>
     by_cases z:d=p
     ·rw[z,g1]at hd;cases hd
     ·rw[k1 d o e z]at hd;cases hd
   rw[Vq,Ey nd];refine⟨C,dx,_,(by rw[aE (aD g1 hd)];exact g1),B.cl,B.nA,(by show 1<1000;decide),?_⟩;refine q _ d TY (by rw[aA,aAH]) (by rw[aE (aD g1 hd).symm];exact aA) λb o e hb=>?_;rw[aE hb,aE (aD (k1 b o e hb) hd)];exact k1 b o e hb
def dQ(prs:List (Str×Int))(n:Str)(v:Int):List (Str×Int):=if n∈prs.map (·.1) then Jw prs n v else prs++[(n,v)]
def jL:List (Str×Int)->List (Str×Int)->List (Str×Int)
 | prs,[]=>prs
 | prs,q::r=>jL (dQ prs q.1 (bM prs q.1+q.2)) r
def tZ:∀(cs prs:List (Str×Int))(q:Str×Int),jL prs (cs++[q])=dQ (jL prs cs) q.1 (bM (jL prs cs) q.1+q.2)
 | [],_,_=>rfl
 | p::r,prs,q=>tZ r _ q
def rG{prs:List (Str×Int)}{n:Str}{v:Int}:bB (fM prs) (Sum.inr n) (.int v)=fM (dQ prs n v):=by
 unfold dQ;by_cases h:n∈prs.map (·.1)
 ·rw[NE h];exact Pj h
 ·rw[IS h];have hv:aV (fM prs) (Sum.inr n)=none:=by
   cases e:aV (fM prs) (Sum.inr n) with
   | none=>rfl
   | some x=>
    have:=Bk e;rw[qU]at this;obtain⟨m,hm,e2⟩:=Zmm.mp this;cases e2;exact IQ hm h
  rw[gM _ hv];unfold fM;rw[jM];rfl
def kM{prs:List (Str×Int)}{n:Str}{v:Int}:(dQ prs n v).map (·.1)=if n∈prs.map (·.1) then prs.map (·.1) else prs.map (·.1)++[n]:=by
 unfold dQ;by_cases h:n∈prs.map (·.1)
 ·rw[NE h,NE h];exact Fa _ _ _
 ·rw[IS h,IS h,jM];rfl
def Co{prs:List (Str×Int)}{n:Str}{v:Int}(h:(prs.map (·.1)).Nodup):((dQ prs n v).map (·.1)).Nodup:=by
 rw[kM];split
 ·exact h
 ·rename_i hn;exact vE h hn
def pT:∀(cs prs:List (Str×Int)),(prs.map (·.1)).Nodup->((jL prs cs).map (·.1)).Nodup
 | [],_,h=>h
 | _::r,_,h=>pT r _ (Co h)
def Le(prs:List (Str×Int))(q:Str×Int):Prop:=0<=bM prs q.1+q.2/\bM prs q.1+q.2<=1000000000000
def Cp{H:Hp}{zs:List Z}{i:Nat}{x:V}(hz:ZAt H zs)(hx:(bT zs)[i]?=some x):∃z,zs[i]?=some z/\x=.ref z.1/\H z.1=some (.tup [.str z.2.1,.int z.2.2]):=by
 unfold bT at hx;rw[iK]at hx;obtain⟨z,hn,rfl⟩:=Option.map_eq_some_iff.mp hx;exact⟨z,hn,rfl,hz z (kS hn)⟩
def yE:∀(cs prs:List (Str×Int)),(jL prs cs).length<=prs.length+cs.length
 | [],prs=>bZ _
 | q::r,prs=>by
  have h:=yE r (dQ prs q.1 (bM prs q.1+q.2));have h2:(dQ prs q.1 (bM prs q.1+q.2)).length<=prs.length+1:=by
   have:=congrArg length (kM (prs:=prs) (n:=q.1) (v:=bM prs q.1+q.2));rw[bP]at this;rw[this];split<;>simp
  show(jL (dQ prs q.1 (bM prs q.1+q.2)) r).length<=_;rw[wN];omega
def oP(C:TD):Sp:=λvs H Q E=>∃(p dx d t:TD)(prs:List (Str×Int))(zs:List Z),vs=[.ref p,.ref t]/\H p=some (.ins C dx [("amounts",.ref d)])/\H d=some (.dK (fM prs))/\(prs.map (·.1)).Nodup/\H t=some (.tup (bT zs))/\ZAt H zs/\prs.length+zs.length<=100 ∧
 (∀q∈zs.map (·.2),Le prs q)/\∀H',H' d=some (.dK (fM (jL prs (zs.map (·.2)))))->(∀b o,H b=some o->b≠d->H' b=some o)->Q .non H'
def Ak{C:TD}(T:Txt K mg)(B:Ph K C)(e9:cP P w K mg base 1 C "amount" DR (iQ C))(D:MethAt K C "change" "Book.change" eX QZK):cP P w K mg base 2 C "change" QZK (oP C):=by
 refine D.go cU (λvs H Q E h=>?_) (λf cdv A outer s H vs Q E hr h=>?_)
 ·obtain⟨p,dx,d,t,prs,zs,rfl,_⟩:=h;rfl
 ·obtain⟨p,dx,d,t,prs,zs,rfl,hp,hd,nd,ht,hz,hl,hg,Q0⟩:=h;have c7:=hr;have c3:=cC hr;have hlz:(bT zs).length=zs.length:=by unfold bT;rw[bP]
  refine⟨_,(lv (ya PassesOwn.never rfl (R.cu (K:=K) (jp 1)) (zv (K:=K) (n:=2) rfl (ui (pr (i:=2) cU.nd) (ui (pr (i:=3) cU.nd) zw))) (mk (pc (ww (R.ij R.le R.le lm (o0 rq (uh e9 c7 (jp 0) (lc (jp 2) li)) (jp 3)) (R.gI rfl T.g_MOST))) (mk wv) ph))) (mk (ya PassesOwn.never rfl (R.cu (K:=K) (jp 1)) (zv (K:=K) (n:=2) rfl (ui (pr (i:=2) cU.nd) (ui (pr (i:=3) cU.nd) zw))) (mk (yb (o0 rq (uh e9 c7 (jp 0) (lc (jp 2) li)) (jp 3)) (yc (pi (K:=K) (jp 0)) (jp 2) (ye c3))))))),?_⟩;refine tV (λσ' H'=>H'=H/\∃o2 o3,σ'=[some (.ref p),some (.ref t),o2,o3]) (λnx uw=>?_) ?_
  ·refine⟨t,rfl,⟨_,QZd ht⟩,dI (iO K t (bT zs)) (λi σ H'=>H'=H/\∃o2 o3,σ=[some (.ref p),some (.ref t),o2,o3]) (λi σ H' ⟨e,_⟩=>by rw[e];exact QZd ht) ⟨rfl,_,_,rfl⟩ ?_ (λσ H' h=>uw σ H' h)⟩;rintro i x σ H' hx ⟨rfl,o2,o3,rfl⟩;obtain⟨z,hn,rfl,gz⟩:=Cp hz hx;have hgz:=hg z.2 (mem_map_of_mem (kS hn));refine⟨z.1,_,rfl,QZd gz,rfl,_,_,rfl,_,_,rfl,rfl,dx,_,hp,vR _ Zk,p,z.2.1,prs,rfl,⟨⟨dx,d,hp,hd⟩,nd⟩,?_⟩;refine lW (UV hgz.1) ?_;show if (!decide (bM prs z.2.1+z.2.2<=1000000000000))=true then _ else _
   refine fR (by rw[UV hgz.2];rfl) ?_;exact⟨rfl,_,_,rfl⟩
  ·rintro σ H' ⟨rfl,o2,o3,rfl⟩;have ntd:t≠d:=aQ ht hd nofun;refine⟨t,rfl,⟨_,QZd ht⟩,dI (iO K t (bT zs)) (λi σ CN=>CN d=some (.dK (fM (jL prs ((zs.map (·.2)).take i))))/\(∀b o,H' b=some o->b≠d->CN b=some o)/\∃o2 o3,σ=[some (.ref p),some (.ref t),o2,o3]) (λi σ CN ⟨_,k,_⟩=>QZd (k _ _ ht ntd)) ⟨hd,λb o e _=>e,_,_,rfl⟩ ?_ ?_⟩
   ·rintro i x σ CN hx ⟨g,k,o2,o3,rfl⟩;obtain⟨z,hn,rfl,gz⟩:=Cp (λz m=>k _ _ (hz z m) (aQ (hz z m) hd nofun)) hx;have hni:(zs.map (·.2))[i]?=some z.2:=by rw[iK,hn];rfl
    have yw:=k _ _ hp (aQ hp hd nofun);have nd':=pT ((zs.map (·.2)).take i) prs nd;have hle:=yE ((zs.map (·.2)).take i) prs;have dM':((zs.map (·.2)).take i).length<=zs.length:=by rw[mV,bP];exact Nat.min_le_right _ _
    refine⟨z.1,_,rfl,QZd gz,rfl,_,_,rfl,_,_,rfl,rfl,dx,_,yw,vR _ Zk,p,z.2.1,jL prs ((zs.map (·.2)).take i),rfl,⟨⟨dx,d,yw,g⟩,nd'⟩,?_⟩;refine⟨C,dx,_,.ref d,yw,B.cl,B.nA,fH _,d,_,rfl,DPut.k (k:=Sum.inr z.2.1) g ?_,?_,λb o e hb=>?_,_,_,rfl⟩
    ·unfold fM;rw[bP];exact rY (m:=1000) Zo Zd
    ·rw[aA,rG,aZ hni,tZ]
    ·rw[aE hb];exact k b o e hb
   ·rintro σ CN ⟨g,k,o2,o3,rfl⟩;refine Q0 _ ?_ k;rw[g,hlz,Mm (by rw[bP];exact bZ _)]
def jY(prs:List (Str×Int))(n m:Str)(v:Int):bM (dQ prs n v) m=if m=n then v else bM prs m:=by
 have h1:=vQ (dQ prs n v) m;rw[<- rG,xB]at h1;by_cases e:m=n
 ·rw[NE (by rw[e])]at h1;rw[NE e];injection h1 with h1
  exact h1.symm
 ·rw[IS (λc=>e (by injection c)),vQ]at h1;rw[IS e];injection h1 with h1
  exact h1.symm
def yF:∀(cs:List (Str×Int))(prs:List (Str×Int))(g:Str->Nat),La g cs->(∀z,bM prs z=(g z:Int))->∀z,bM (jL prs cs) z=(Kz g cs z:Int)
 | [],prs,g,_,h=>h
 | c::cs,prs,g,hG,h=>by
  refine yF cs (dQ prs c.1 (bM prs c.1+c.2)) (eQ g c) hG.2 (λz=>?_);rw[jY,h];unfold eQ cZ;by_cases e:z=c.1
  ·rw[NE e,NE e,Int.toNat_of_nonneg hG.1]
  ·rw[IS e,IS e];exact h z
def Lf{f:Str->Nat}(hf:∀z,f z<=1000000000000){x:Dd}{q:Bool}{y:An}(hx:x.Ok)(h:rF f x q y):∀c∈zA x y,0<=(f c.1:Int)+c.2/\(f c.1:Int)+c.2<=1000000000000:=by
 have hn:=hx.n;rcases h with⟨rfl,h⟩|⟨rfl,h1,h2⟩
 ·cases x with
  | add a n=>
   have:=hf a;simp only [aI]at h;split at h<;>cases h
   ·exact λc hc=>nomatch hc
   ·intro c hc;rw[Zms.mp hc];exact⟨by show(0:Int)<=(f a:Int)+(n:Int);omega,by show(f a:Int)+(n:Int)<=_;omega⟩
  | take a n=>
   have:=hf a;simp only [aI]at h;split at h<;>cases h
   ·exact λc hc=>nomatch hc
   ·intro c hc;rw[Zms.mp hc];exact⟨by show(0:Int)<=(f a:Int)+-(n:Int);omega,by show(f a:Int)+-(n:Int)<=_;omega⟩
  | move a b n=>
   have:=hf a;have:=hf b;simp only [aI]at h;split at h
   ·cases h;exact λc hc=>nomatch hc
   ·split at h<;>cases h
    ·exact λc hc=>nomatch hc
    ·intro c hc;rcases mem_cons.mp hc with rfl|hc
     ·exact⟨by show(0:Int)<=(f a:Int)+-(n:Int);omega,by show(f a:Int)+-(n:Int)<=_;omega⟩
     ·rw[Zms.mp hc];exact⟨by show(0:Int)<=(f b:Int)+(n:Int);omega,by show(f b:Int)+(n:Int)<=_;omega⟩
  | send g a n=>
   simp only [aI]at h;split at h<;>cases h;exact λc hc=>nomatch hc
  | fetch g a n=>
   simp only [aI]at h;split at h<;>cases h;exact λc hc=>nomatch hc
  | pass g k a n=>cases h
 ·cases x with
  | add a n=>cases h2
  | take a n=>cases h2
  | move a b n=>cases h2
  | send g a n=>
   have:=hf a;simp only [aI]at h1;simp only [eP,mem_cons,FM,or_false]at h2;have hh:¬ f a<n:=λhh=>by rw[NE hh]at h1;cases h1
   rcases h2 with rfl|rfl
   ·exact λc hc=>nomatch hc
   ·intro c hc;rw[Zms.mp hc];exact⟨by show(0:Int)<=(f a:Int)+-(n:Int);omega,by show(f a:Int)+-(n:Int)<=_;omega⟩
  | fetch g a n=>
   have:=hf a;simp only [aI]at h1;simp only [eP,mem_cons,FM,or_false]at h2;have hh:¬ 1000000000000<f a+n:=λhh=>by rw[NE hh]at h1;cases h1
   rcases h2 with rfl|rfl
   ·exact λc hc=>nomatch hc
   ·intro c hc;rw[Zms.mp hc];exact⟨by show(0:Int)<=(f a:Int)+(n:Int);omega,by show(f a:Int)+(n:Int)<=_;omega⟩
  | pass g k a n=>
   simp only [eP,mem_cons,FM,or_false]at h2;rcases h2 with rfl|rfl|rfl<;>exact λc hc=>nomatch hc
def uA:Dd->List (Str×List V)
 | .send h a n=>[(h,[.str "add",.str a,.int (n:Int)])]
 | .fetch h a n=>[(h,[.str "take",.str a,.int (n:Int)])]
 | .pass h g a n=>[(h,[.str "take",.str a,.int (n:Int)]),(g,[.str "add",.str a,.int (n:Int)])]
 | _=>[]
def Al(T:Txt K mg)(D:DefAt K mg "done_changes" cT DU):aJ P w K mg base 1 "done_changes" DU oG:=by
 refine D.go jH (λvs H Q E h=>?_) (λf cdv A outer s H vs Q E hr h=>?_)
 ·obtain⟨p,wd,xs,cs,as,rfl,_⟩:=h;rfl
 ·obtain⟨p,wd,xs,cs,as,rfl,hp,⟨one,other,nm,n,hd⟩,q⟩:=h;refine⟨_,(lv (pc (nh se (my (ng (K:=K)) (jp 0) lm) ms) (mk (mz (pf li))) ph) (lv (pc (nh se (my (ng (K:=K)) (jp 0) lm) ms) (mk (mz (pf (lc (pf (lc (my (ng (K:=K)) (jp 0) lm) (lc (sh (my (ng (K:=K)) (jp 0) (sh lm))) li))) (lc (pf (lc (my (ng (K:=K)) (jp 0) lm) (lc (my (ng (K:=K)) (jp 0) (sh lm)) li))) li))))) ph) (lv (pc (nh (R.cw (K:=K)) (my (ng (K:=K)) (jp 0) lm) (pf (lc ms (lc ms li)))) (mk (mz (pf (lc (pf (lc (my (ng (K:=K)) (jp 0) (sh lm)) (lc (sh (my (ng (K:=K)) (jp 0) (sh lm))) li))) li)))) ph) (mk (mz (pf (lc (pf (lc (my (ng (K:=K)) (jp 0) (sh lm)) (lc (my (ng (K:=K)) (jp 0) (sh lm)) li))) li))))))),?_⟩;have z1:∀ {H':Hp}{a:TD}{x:Str}{i:Int},H' a=some (.tup [.str x,.int i])->ZAt H' [(a,x,i)]:=λh z hz=>by
   rw[Zms.mp hz];exact h
  have two:∀(nm:Str)(i:Int),H p=some (.tup xs)->nV xs (-2)=some (.str nm)->nV xs (-1)=some (.int i)->True:=λ_ _ _ _ _=>trivial
  cases hd with
  | add=>
   refine⟨_,QZd hp,_,rfl,?_⟩;refine⟨_,QZd hp,_,rfl,?_⟩;refine⟨_,QZd hp,_,rfl,Zs,λp1 H1 s1 g1=>⟨p1,_,rfl,.inr (QZd g1),rfl,rfl,?_⟩⟩;refine⟨_,QZd (s1 _ _ hp),_,rfl,_,QZd (s1 _ _ hp),_,rfl,Zs,λp2 H2 s2 g2=>⟨Zs,λp3 H3 s3 g3=>q p3 [(p2,nm,n)] H3 ((s1.trans s2).trans s3) g3 (z1 (s3 _ _ g2)) rfl⟩⟩
  | take=>
   refine⟨_,QZd hp,_,rfl,?_⟩;refine⟨_,QZd hp,_,rfl,?_⟩;refine⟨_,QZd hp,_,rfl,Zs,λp1 H1 s1 g1=>⟨p1,_,rfl,.inr (QZd g1),rfl,rfl,?_⟩⟩;refine⟨_,QZd (s1 _ _ hp),_,rfl,_,QZd (s1 _ _ hp),_,rfl,Zs,λp2 H2 s2 g2=>⟨Zs,λp3 H3 s3 g3=>q p3 [(p2,nm,-n)] H3 ((s1.trans s2).trans s3) g3 (z1 (s3 _ _ g2)) rfl⟩⟩
  | move=>
   refine⟨_,QZd hp,_,rfl,?_⟩;refine⟨_,QZd hp,_,rfl,?_⟩;refine⟨_,QZd hp,_,rfl,_,QZd hp,_,rfl,Zs,λp2 H2 s2 g2=>⟨_,QZd (s2 _ _ hp),_,rfl,_,QZd (s2 _ _ hp),_,rfl,Zs,λp3 H3 s3 g3=>⟨Zs,λp4 H4 s4 g4=>?_⟩⟩⟩;refine q p4 [(p2,one,-n),(p3,other,n)] H4 ((s2.trans s3).trans s4) g4 (λz hz=>?_) rfl;rcases mem_cons.mp hz with rfl|hz
   ·exact s4 _ _ (s3 _ _ g2)
   ·rw[Zms.mp hz];exact s4 _ _ g3
  | send=>
   refine⟨_,QZd hp,_,rfl,?_⟩;refine⟨_,QZd hp,_,rfl,?_⟩;refine⟨_,QZd hp,_,rfl,Zs,λp1 H1 s1 g1=>⟨p1,_,rfl,.inr (QZd g1),rfl,rfl,?_⟩⟩;refine⟨_,QZd (s1 _ _ hp),_,rfl,_,QZd (s1 _ _ hp),_,rfl,Zs,λp2 H2 s2 g2=>⟨Zs,λp3 H3 s3 g3=>q p3 [(p2,nm,-n)] H3 ((s1.trans s2).trans s3) g3 (z1 (s3 _ _ g2)) rfl⟩⟩
  | fetch=>
   refine⟨_,QZd hp,_,rfl,?_⟩;refine⟨_,QZd hp,_,rfl,?_⟩;refine⟨_,QZd hp,_,rfl,Zs,λp1 H1 s1 g1=>⟨p1,_,rfl,.inr (QZd g1),rfl,rfl,?_⟩⟩;refine⟨_,QZd (s1 _ _ hp),_,rfl,_,QZd (s1 _ _ hp),_,rfl,Zs,λp2 H2 s2 g2=>⟨Zs,λp3 H3 s3 g3=>q p3 [(p2,nm,n)] H3 ((s1.trans s2).trans s3) g3 (z1 (s3 _ _ g2)) rfl⟩⟩
  | pass=>
   refine⟨_,QZd hp,_,rfl,?_⟩;exact⟨Zd,λp1 H1 s1 g1=>q p1 [] H1 s1 g1 (λ_ h=>nomatch h) rfl⟩
def yG{H:Hp}{zs:List Z}(h:ZAt H zs){i:Nat}{x:V}(hx:(bT zs)[i]?=some x):∃z,zs[i]?=some z/\x=.ref z.1/\H z.1=some (.tup [.str z.2.1,.int z.2.2]):=by
 unfold bT at hx;rw[iK]at hx;cases hn:zs[i]? with
 | none=>rw[hn]at hx;cases hx
 | some z=>
  rw[hn]at hx;cases hx;exact⟨z,rfl,rfl,h z (kS hn)⟩
def rH{C:TD}(T:Txt K mg)(B:Ph K C)(f9:aJ P w K mg base 1 "done_changes" DU oG)(e9:cP P w K mg base 1 C "amount" DR (iQ C))(D:DefAt K mg "done_answer" dD CC):aJ P w K mg base 2 "done_answer" CC (tP C):=by
 refine D.go rA (λvs H Q E h=>?_) (λf cdv A outer s H vs Q E hr h=>?_)
 ·obtain⟨b,p,wd,xs,cs,as,prs,rfl,_⟩:=h;rfl
 ·obtain⟨b,p,wd,xs,cs,as,prs,rfl,bk,hp,hd,q⟩:=h;have d5:=hr;have c7:=hr;refine⟨_,(mk (mz (yo (R.im (K:=K)) rfl T.b_tuple qM (lc (o0 R.cx (uo (lc ms li)) (xy rfl (js:=[none,none,some 0]) (N:=QZk) (CompScope.by (aB dD) CC rfl rfl Zk) (Ig (qK rfl (qK rfl En))) (R.cu (K:=K) (pj f9 d5 rfl (lc (jp 1) li))) (λC s₂ H₂ fp=>⟨(zv (K:=K) (n:=2) rfl (ui (pr (i:=0) (show(QZk:List Str).Nodup by decide +kernel)) (ui (pr (i:=1) (show(QZk:List Str).Nodup by decide +kernel)) zw))),yd,(o0 rq (uh e9 c7 (jp 2) (lc (jp 0) li)) (jp 1))⟩))) li)))),?_⟩;refine⟨kW rfl,λl0 h0=>⟨p,wd,xs,cs,as,rfl,aF h0 _ _ hp,hd,λt zs H1 s1 g1 hz hm=>⟨t,rfl,⟨_,QZd g1⟩,?_⟩⟩⟩;have s01:Same H H1:=(aF h0).trans s1;have PH:=bk.same s01;have hlen:zs.length<=2:=by
   obtain⟨one,other,nm,n,hd⟩:=hd;have:=congrArg length hm;rw[bP]at this;rw[this];cases hd<;>simp
  refine bJ (iO K t (bT zs)) (by unfold bT;rw[bP];omega) (λi ys H'=>H'=H1/\ys=((zs.map (·.2)).take i).map λq=>V.int (bM prs q.1+q.2)) (λi ys H' ⟨e,e2⟩=>⟨by rw[e];exact QZd g1,by rw[e2,bP,mV];exact min_le_left _ _⟩) ⟨rfl,rfl⟩ (?_) (?_)
  ·rintro i x ys H' hx ⟨e,e2⟩;subst e;obtain⟨z,hn,rfl,gz⟩:=yG hz hx;obtain⟨dx,d,h1,h2⟩:=id PH.ex;refine⟨z.1,_,rfl,QZd gz,rfl,_,_,rfl,_,_,rfl,rfl,dx,_,h1,vR _ Zk,b,z.2.1,prs,rfl,PH,rfl,?_⟩;rw[aZ (x:=z.2) (by rw[iK,hn];rfl),jM,e2];rfl
  ·rintro ys H' ⟨e,e2⟩;subst e;intro l1 h1;have e3:ys=cs.map λq=>V.int (bM prs q.1+q.2):=by
    rw[e2,hm];have:(bT zs).length=cs.length:=by rw[<- hm];unfold bT;rw[bP,bP]
    rw[this,take_length]
   have gl0:H' l0=some (.lst [.str "is"]):=s1 _ _ aA;refine⟨[.str "is"],ys,aF h1 _ _ gl0,aA,lH (by rw[e3,bP,<- hm,bP];simp;omega),λl2 h2=>⟨_,QZc aA,λt2 UD=>?_⟩⟩;refine q t2 _ (((s01.trans (aF h1)).trans (aF h2)).trans (aF UD)) ?_;rw[aA,e3];rfl
def Ft{C:TD}(T:Txt K mg)(B:Ph K C)(f9:aJ P w K mg base 1 "done_changes" DU oG)(Z9:aJ P w K mg base 1 "asks_of" DU Ac)(e9:cP P w K mg base 1 C "amount" DR (iQ C))(sv:aJ P w K mg base 2 "done_answer" CC (tP C))(D:DefAt K mg "early" pS CC):aJ P w K mg base 3 "early" CC (Cc C):=by
 refine D.go mL (λvs H Q E h=>?_) (λf cdv A outer s H vs Q E hr h=>?_)
 ·obtain⟨b,p,wd,xs,cs,as,prs,rfl,_⟩:=h;rfl
 ·obtain⟨b,p,wd,xs,cs,as,prs,rfl,bk,hp,hd,q⟩:=h;have d5:Room 1 _:=hr.mono Zd;have U8:Room 1 _:=hr.mono Zd;have c7:Room 1 _:=hr.mono Zd;have qe:=hr;refine⟨_,(lv (ya PassesOwn.never rfl (R.cu (K:=K) (pj f9 d5 rfl (lc (jp 1) li))) (zv (K:=K) (n:=2) rfl (ui (pr (i:=2) mL.nd) (ui (pr (i:=3) mL.nd) zw))) (lv (re (i:=4) mL.nd (uh e9 c7 (jp 0) (lc (jp 2) li))) (lv (pc (u8 (zx (nh R.lt (jp 3) lm) (zy (nh R.lt (o0 rq (jp 4) (jp 3)) lm)))) (mk (mz (pf (lc ms (lc (jp 4) li))))) ph) (mk (pc (u8 (zx (nh ym (jp 3) lm) (zy (nh ym (o0 rq (jp 4) (jp 3)) (R.gI rfl T.g_MOST))))) (mk (mz (pf (lc ms (lc (jp 4) li))))) ph))))) (lv (pc (nh ym (sj (zu (K:=K)) rfl T.b_len dU (lc (pj Z9 U8 rfl (lc (jp 1) li)) li)) lm) (mk (mz yn)) ph) (mk (mz (pj sv qe rfl (lc (jp 0) (lc (jp 1) li))))))),?_⟩;refine⟨p,wd,xs,cs,as,rfl,hp,hd,λt zs H1 s1 g1 hz hm=>⟨t,rfl,⟨_,QZd g1⟩,?_⟩⟩;have PH:=bk.same s1;have PB:=s1 _ _ hp;refine dI (iO K t (bT zs)) (λi σ H'=>Same H1 H'/\(∃o2 o3 o4:Option V,σ=[some (.ref b),some (.ref p),o2,o3,o4])/\iR (bM prs) (mH (bM prs) cs as) cs=iR (bM prs) (mH (bM prs) cs as) (cs.drop i)) (λi σ H' ⟨s',_⟩=>QZd (s' _ _ g1)) ⟨Same.refl _,⟨_,_,_,rfl⟩,rfl⟩ ?_ ?_
  ·rintro i x σ H2 hx ⟨s2,⟨o2,o3,o4,rfl⟩,he⟩;obtain⟨z,hn,rfl,gz⟩:=yG (λz m=>s2 _ _ (hz z m)) hx;have bk2:=PH.same s2;obtain⟨dx,d,h1,h2⟩:=id bk2.ex;have MZ:cs.drop i=z.2::cs.drop (i+1):=by
    have:cs[i]?=some z.2:=by rw[<- hm,iK,hn];rfl
    obtain⟨hi,e⟩:=Zgs.mp this;rw[List.drop_eq_getElem_cons hi,e]
   rw[MZ,xS]at he;refine⟨z.1,_,rfl,QZd gz,rfl,_,_,rfl,_,_,rfl,rfl,dx,_,h1,vR _ Zk,b,z.2.1,prs,rfl,bk2,?_⟩;dsimp only [aK];have fin:∀u:TV,iR (bM prs) (mH (bM prs) cs as) cs=u->∀v H',Same H2 H'->RepT H' 1 u v->Q v H':=λu e v H' s' r=>q v H' ((s1.trans s2).trans s') (by rw[e];exact r)
   refine Yq (t:=Mp _ _) (λv H'=>v=decide (z.2.2<0/\bM prs z.2.1+z.2.2<0)/\H'=H2) (λk hk=>?_) ?_
   ·refine gV (λh=>?_) (λh=>?_)
    ·exact hk _ _ ⟨by rw[Bool.decide_and,h];rfl,rfl⟩
    ·exact hk _ _ ⟨by rw[Bool.decide_and,h];rfl,rfl⟩
   rintro v H' ⟨rfl,rfl⟩;refine gV (λh=>?_) (λh=>?_)
   ·rw[NE (WF h)]at he;exact⟨Zs,λt2 H3 s3 g3=>fin _ he _ H3 s3 ⟨t2,_,rfl,g3,.cons .s (.cons .i .nil)⟩⟩
   rw[IS (U4 h)]at he;dsimp only [cK];refine Yq (t:=Mp _ _) (λv CN=>v=decide (0<z.2.2/\1000000000000<bM prs z.2.1+z.2.2)/\CN=H') (λk hk=>?_) ?_
   ·refine gV (λh=>?_) (λh=>?_)
    ·exact hk _ _ ⟨by rw[Bool.decide_and,h];rfl,rfl⟩
    ·exact hk _ _ ⟨by rw[Bool.decide_and,h];rfl,rfl⟩
   rintro v CN ⟨rfl,rfl⟩;refine gV (λh=>?_) (λh=>?_)
   ·rw[NE (WF h)]at he;exact⟨Zs,λt2 H3 s3 g3=>fin _ he _ H3 s3 ⟨t2,_,rfl,g3,.cons .s (.cons .i .nil)⟩⟩
   rw[IS (U4 h)]at he;exact⟨s2,⟨_,_,_,rfl⟩,he⟩
  ·rintro σ H2 ⟨s2,⟨o2,o3,o4,rfl⟩,he⟩;have el:(bT zs).length=cs.length:=by rw[<- hm];unfold bT;rw[bP,bP]
   rw[el,drop_length]at he;have HW:iR (bM prs) (mH (bM prs) cs as) cs=mH (bM prs) cs as:=he;refine⟨p,wd,xs,cs,as,rfl,s2 _ _ PB,hd,λt2 us H3 s3 g3 ha=>⟨us,.inr (QZd g3),?_⟩⟩;have EA:us.length=as.length:=ha.length.symm;refine gV (λh=>?_) (λh=>?_)
   ·have h':0<us.length:=by have:=WF h;omega
    refine q _ H3 ((s1.trans s2).trans s3) ?_;rw[HW];unfold mH;rw[IS (λe=>by rw[EA,e]at h';exact IQ h' (lt_irrefl _))];exact RepT.scal rfl
   ·have h':¬ 0<us.length:=by have:=U4 h;omega
    have e0:as=[]:=List.length_eq_zero_iff.mp Zo;refine⟨b,p,wd,xs,cs,as,prs,rfl,PH.same (s2.trans s3),s3 _ _ (s2 _ _ PB),hd,λt4 H4 s4 g4=>?_⟩;refine q _ H4 (((s1.trans s2).trans s3).trans s4) ?_;rw[HW];unfold mH;rw[NE e0];exact⟨t4,_,rfl,g4,Cd (Vr _ _)⟩
def Lg(x:Dd):Zb x.wd x.vs (bO x) (uA x):=by
 cases x with
 | add a n=>exact⟨a,a,a,_,.add⟩
 | take a n=>exact⟨a,a,a,_,.take⟩
 | move a b n=>exact⟨a,b,a,_,.move⟩
 | send g a n=>exact⟨g,a,a,_,.send⟩
 | fetch g a n=>exact⟨g,a,a,_,.fetch⟩
 | pass g g' a n=>exact⟨g,g',a,_,.pass⟩
def Am{prs:List (Str×Int)}{f:Str->Nat}(am:∀z,bM prs z=(f z:Int)){x:Dd}(hx:x.Ok) :
  iR (bM prs) (mH (bM prs) (bO x) (uA x)) (bO x)=(match aI f x with|some y=>RX.tvs y.vs|none=>.sc .non):=by
 have hn:=hx.n
 cases x with
 | add a n=>
  have hn:1<=n/\n<=1000000000000:=hn;show(if (n:Int)<0/\bM prs a+(n:Int)<0 then _ else if 0<(n:Int)/\1000000000000<bM prs a+(n:Int) then TV.tp [tS "full",tI (bM prs a)] else TV.tp [tS "is",tI (bM prs a+(n:Int))])=(match (if 1000000000000<f a+n then some (An.full (f a)) else some (.is1 (f a+n))) with|some y=>RX.tvs y.vs|none=>.sc .non);rw[IS Zo,am];by_cases h:1000000000000<f a+n
  ·rw[NE h,NE Zo];rfl
  ·rw[IS h,IS Zo];rfl
 | take a n=>
  have hn:1<=n/\n<=1000000000000:=hn;show(if -(n:Int)<0/\bM prs a+-(n:Int)<0 then TV.tp [tS "short",tI (bM prs a)] else if 0 < -(n:Int)/\1000000000000<bM prs a+-(n:Int) then _ else TV.tp [tS "is",tI (bM prs a+-(n:Int))])=(match (if f a<n then some (An.short (f a)) else some (.is1 (f a-n))) with|some y=>RX.tvs y.vs|none=>.sc .non);rw[am];by_cases h:f a<n
  ·rw[NE h,NE Zo];rfl
  ·rw[IS h,IS Zo,IS Zo,show(f a:Int)+-(n:Int)=((f a-n:Nat):Int) by omega];rfl
 | move a b n=>
  have hn:1<=n/\n<=1000000000000:=hn;show(if -(n:Int)<0/\bM prs a+-(n:Int)<0 then TV.tp [tS "short",tI (bM prs a)] else if 0 < -(n:Int)/\1000000000000<bM prs a+-(n:Int) then TV.tp [tS "full",tI (bM prs a)] else if (n:Int)<0/\bM prs b+(n:Int)<0 then TV.tp [tS "short",tI (bM prs b)] else if 0<(n:Int)/\1000000000000<bM prs b+(n:Int) then TV.tp [tS "full",tI (bM prs b)] else TV.tp [tS "is",tI (bM prs a+-(n:Int)),tI (bM prs b+(n:Int))])=(match (if f a<n then some (An.short (f a)) else if 1000000000000<f b+n then some (.full (f b)) else some (.is2 (f a-n) (f b+n))) with|some y=>RX.tvs y.vs|none=>.sc .non);rw[am,am];by_cases h:f a<n
  ·rw[NE h,NE Zo];rfl
  ·rw[IS h,IS Zo,IS Zo,IS Zo];by_cases h2:1000000000000<f b+n
   ·rw[NE h2,NE Zo];rfl
   ·rw[IS h2,IS Zo,show(f a:Int)+-(n:Int)=((f a-n:Nat):Int) by omega];rfl
 | send g a n=>
  have hn:1<=n/\n<=1000000000000:=hn;show(if -(n:Int)<0/\bM prs a+-(n:Int)<0 then TV.tp [tS "short",tI (bM prs a)] else if 0 < -(n:Int)/\1000000000000<bM prs a+-(n:Int) then _ else TV.sc .non)=(match (if f a<n then some (An.short (f a)) else none) with|some y=>RX.tvs y.vs|none=>.sc .non);rw[am];by_cases h:f a<n
  ·rw[NE h,NE Zo];rfl
  ·rw[IS h,IS Zo,IS Zo]
 | fetch g a n=>
  have hn:1<=n/\n<=1000000000000:=hn;show(if (n:Int)<0/\bM prs a+(n:Int)<0 then _ else if 0<(n:Int)/\1000000000000<bM prs a+(n:Int) then TV.tp [tS "full",tI (bM prs a)] else TV.sc .non)=(match (if 1000000000000<f a+n then some (An.full (f a)) else none) with|some y=>RX.tvs y.vs|none=>.sc .non);rw[IS Zo,am];by_cases h:1000000000000<f a+n
  ·rw[NE h,NE Zo];rfl
  ·rw[IS h,IS Zo]
 | pass g g' a n=>rfl
abbrev sS(z:Str):TV:=.sc (.str z)
abbrev sI(n:Int):TV:=.sc (.int n)
inductive yH(one other nm:Str)(n:Int):List V->TV->TV->Prop
 | add:yH one other nm n [.str "add",.str nm,.int n] (.tp [sS nm]) (.tp [])
 | take:yH one other nm n [.str "take",.str nm,.int n] (.tp [sS nm]) (.tp [])
 | move:yH one other nm n [.str "move",.str one,.str other,.int n] (.tp ((mY [one,other]).map sS)) (.tp [])
 | send:yH one other nm n [.str "send",.str one,.str nm,.int n] (.tp [sS nm]) (.tp [.tp [sS one,.tp [sS "add",sS nm,sI n]]])
 | fetch:yH one other nm n [.str "fetch",.str one,.str nm,.int n] (.tp [sS nm]) (.tp [.tp [sS one,.tp [sS "take",sS nm,sI n]]])
 | pass:yH one other nm n [.str "pass",.str one,.str other,.str nm,.int n] (.tp []) (.tp [.tp [sS one,.tp [sS "take",sS nm,sI n]],.tp [sS other,.tp [sS "add",sS nm,sI n]]])
def uB:Sp:=λvs H Q _=>∃p xs tN tA one other nm n,vs=[.ref p]/\H p=some (.tup xs)/\yH one other nm n xs tN tA/\∀v H',Same H H'->RepT H' 1 tN v->Q v H'
def Cq{H:Hp}{n:Nat}:∀ss:List Str,Paired (RepT H n) (ss.map sS) (ss.map V.str)
 | []=>.nil
 | z::r=>.cons .s (Cq r)
def yI(T:Txt K mg)(D:DefAt K mg "names_of" iW DU):aJ P w K mg base 1 "names_of" DU uB:=by
 refine D.go xY (λvs H Q E h=>?_) (λf cdv A outer s H vs Q E hr h=>?_)
 ·obtain⟨p,xs,tN,tA,one,other,nm,n,rfl,_⟩:=h;rfl
 ·obtain⟨p,xs,tN,tA,one,other,nm,n,rfl,hp,hd,q⟩:=h;refine⟨_,(lv (pc (nh se (my (ng (K:=K)) (jp 0) lm) ms) (mk (mz (pf li))) ph) (lv (pc (nh se (my (ng (K:=K)) (jp 0) lm) ms) (mk (mz (yo (R.im (K:=K)) rfl T.b_tuple qM (lc (sj (R.fu (K:=K)) rfl T.b_sorted eI (lc (xx zt (jp 0) (tz lm) (tz lm)) li)) li)))) ph) (mk (mz (pf (lc (my (ng (K:=K)) (jp 0) (sh lm)) li)))))),?_⟩
  cases hd with
  | add=>
   refine⟨_,QZd hp,_,rfl,?_⟩;refine⟨_,QZd hp,_,rfl,?_⟩;exact⟨_,QZd hp,_,rfl,Zs,λp1 H1 s1 g1=>q _ H1 s1 ⟨p1,_,rfl,g1,.cons .s .nil⟩⟩
  | take=>
   refine⟨_,QZd hp,_,rfl,?_⟩;refine⟨_,QZd hp,_,rfl,?_⟩;exact⟨_,QZd hp,_,rfl,Zs,λp1 H1 s1 g1=>q _ H1 s1 ⟨p1,_,rfl,g1,.cons .s .nil⟩⟩
  | move=>
   refine⟨_,QZd hp,_,rfl,?_⟩;refine⟨_,QZd hp,_,rfl,?_⟩;refine⟨_,hp,λp1 H1 s1 g1=>⟨[one,other],.inr (QZd g1),Zs,λl hl=>⟨_,QZc aA,λl2 nr=>?_⟩⟩⟩;exact q _ _ ((s1.trans (aF hl)).trans (aF nr)) ⟨l2,_,rfl,aA,Cq _⟩
  | send=>
   refine⟨_,QZd hp,_,rfl,?_⟩;refine⟨_,QZd hp,_,rfl,?_⟩;exact⟨_,QZd hp,_,rfl,Zs,λp1 H1 s1 g1=>q _ H1 s1 ⟨p1,_,rfl,g1,.cons .s .nil⟩⟩
  | fetch=>
   refine⟨_,QZd hp,_,rfl,?_⟩;refine⟨_,QZd hp,_,rfl,?_⟩;exact⟨_,QZd hp,_,rfl,Zs,λp1 H1 s1 g1=>q _ H1 s1 ⟨p1,_,rfl,g1,.cons .s .nil⟩⟩
  | pass=>
   refine⟨_,QZd hp,_,rfl,?_⟩;exact⟨Zd,λp1 H1 s1 g1=>q _ H1 s1 ⟨p1,_,rfl,g1,.nil⟩⟩
def yJ{α:Type}{N:List α}(hN:N.Nodup){i j:Nat}{x:α}(a:N[i]?=some x)(b:N[j]?=some x):i=j:=by
 obtain⟨hi,ei⟩:=Zgs.mp a;obtain⟨hj,ej⟩:=Zgs.mp b;have h:=List.pairwise_iff_getElem.mp hN;rcases lt_trichotomy i j with z|z|z
 ·exact IQ (ei.trans ej.symm) (h i j hi hj z)
 ·exact z
 ·exact IQ (ej.trans ei.symm) (h j i hj hi z)
def uC{α:Type}:∀ {L:List α}{i:Nat}{a:α},L.Nodup->a∉L->(L.set i a).Nodup
 | [],_,_,_,_=>by simp
 | x::r,0,a,h,ha=>by
  rw[List.set_cons_zero];exact nodup_cons.mpr ⟨λm=>ha (fL _ m),(nodup_cons.mp h).2⟩
 | x::r,i+1,a,h,ha=>by
  rw[List.set_cons_succ];have h':=nodup_cons.mp h;refine nodup_cons.mpr ⟨λm=>?_,uC h'.2 λm=>ha (fL _ m)⟩;rcases List.mem_or_eq_of_mem_set m with z|z
  ·exact h'.1 z
  ·exact ha (by rw[<- z];exact mZ)
def Own(H:Hp)(L:List (TD×HO)):Prop:=(L.map (·.1)).Nodup/\∀q∈L,H q.1=some q.2
def Own.get{H:Hp}{L:List (TD×HO)}(h:Own H L)(i:Nat){a:TD}{o:HO}(e:L[i]?=some (a,o)):H a=some o:=h.2 _ (kS e)
def Own.same{H H':Hp}{L:List (TD×HO)}(s:Same H H')(h:Own H L):Own H' L:=⟨h.1,λq hq=>s _ _ (h.2 q hq)⟩
def Own.keys{H:Hp}{L:List (TD×HO)}(h:Own H L){b:TD}(hb:H b=none):b∉L.map (·.1):=λm=>by
 obtain⟨q,hq,e⟩:=Zmm.mp m;rw[<- e,h.2 q hq]at hb;cases hb
def Own.k1{H H':Hp}{L:List (TD×HO)}{p:TD}(h:Own H L)(hp:p∉L.map (·.1))(k:K1 p H H'):Own H' L:=⟨h.1,λq hq=>k _ _ (h.2 q hq) λe=>hp (by rw[<- e];exact mem_map_of_mem hq)⟩
def Own.set{H:Hp}{L:List (TD×HO)}(h:Own H L)(i:Nat){a:TD}{o:HO}(e:L[i]?=some (a,o))(o':HO):Own (aH H a o') (L.set i (a,o')):=by
 obtain⟨hi,ei⟩:=Zgs.mp e;refine⟨?_,λq hq=>?_⟩
 ·have:(L.set i (a,o')).map (·.1)=L.map (·.1):=by
   rw[map_set];apply List.ext_getElem Zs;intro j h1 h2;rw[List.getElem_set];split
   ·rename_i z;subst z;simp[ei]
   ·rfl
  rw[this];exact h.1
 ·obtain⟨j,hj,ej⟩:=mem_iff_getElem.mp hq;rw[List.getElem_set]at ej;split at ej
  ·rw[<- ej];exact aA
  ·rename_i j9;rw[List.length_set]at hj;have px:L[j]∈L:=getElem_mem hj;have:q.1≠a:=λz=>by
    have n:=yJ h.1 (i:=i) (j:=j) (x:=a) (by rw[iK,e];rfl) (by rw[iK,lD hj,ej,<- z];rfl);exact j9 n
   rw[aE this,<- ej];exact h.2 _ px
def Own.swap{H:Hp}{L:List (TD×HO)}(h:Own H L)(i:Nat){b:TD}{o:HO}(hb:b∉L.map (·.1))(g:H b=some o):Own H (L.set i (b,o)):=by
 refine⟨?_,λq hq=>?_⟩
 ·rw[map_set];exact uC h.1 hb
 ·rcases List.mem_or_eq_of_mem_set hq with m|m
  ·exact h.2 q m
  ·rw[m];exact g
def cG{H:Hp}{a:TD}{o o':HO}(g:H a=some o)(ho:∀xs,o≠.tup xs):TK H (aH H a o'):=λc xs e=>by
 rw[aE (λz=>by rw[z,g]at e;exact ho xs (Option.some.inj e))];exact e
def TK.of{H H':Hp}(s:Same H H'):TK H H':=λc xs e=>s _ _ e
def Own.ne{H:Hp}{L:List (TD×HO)}(h:Own H L){i j:Nat}{a b:TD}{o o':HO}(ei:L[i]?=some (a,o))(ej:L[j]?=some (b,o'))(ON:i≠j):a≠b:=λe=>
 ON (yJ h.1 (x:=a) (by rw[iK,ei];rfl) (by rw[iK,ej,e];rfl))
def Own.at{H H':Hp}{L:List (TD×HO)}(h:Own H L)(i:Nat){a:TD}{o o':HO}(e:L[i]?=some (a,o))(g:H' a=some o')(k:∀b u,H b=some u->b≠a->H' b=some u):Own H' (L.set i (a,o')):=by
 have h1:=h.set i e o';refine⟨h1.1,λq hq=>?_⟩;by_cases z:q.1=a
 ·have:=h1.2 q hq;rw[z,aA]at this;rw[z,g];exact this
 ·have:=h1.2 q hq;rw[aE z]at this;exact k _ _ this z
def Own.sub{H:Hp}{L L':List (TD×HO)}(h:Own H L)(s:L'.Sublist L):Own H L':=⟨h.1.sublist (s.map _),λq hq=>h.2 q (s.subset hq)⟩
def Own.snoc{H:Hp}{L:List (TD×HO)}(h:Own H L){a:TD}{o:HO}(ha:a∉L.map (·.1))(g:H a=some o):Own H (L++[(a,o)]):=by
 refine⟨?_,λq hq=>(Zma.mp hq).elim (h.2 q) λz=>by rw[Zms.mp z];exact g⟩;rw[jM];exact nodup_append.mpr ⟨h.1,Zs,λx hx y hy e=>ha ((show y=a by simpa using hy)▸e▸hx)⟩
structure CK where
 (D M R J B Ks:TD)
structure Rn where
 (p dx:TD)
 (n:Nat)
 (q:Str×Str)
 (d:TD)
 (x:Dd)
 (st:Str)
 (pl un:Int)
def Rn.fs(r:Rn):List (Str×V):=[("number",.int r.n),("asker",.str r.q.1),("key",.str r.q.2),("deed",.ref r.d),("stage",.str r.st),("place",.int r.pl),("undos",.int r.un)]
structure DA where
 (dr dx hd j jx jl me mx bk bx bd ks rn:TD)
 (kf:KF)
structure DS where
 (name:Str)
 (life turn:Int)
 (next:Nat)
 (hs:List (bC×V))
 (prs:List (Str×Int))
 (m:KM)
 (L:Nat)
 (runs:List Rn)
 (rows:List V)
 (safe:Int)
def jf(lw:TD)(n:Int):List (Str×V):=[("written",.ref lw),("safe_count",.int n)]
def df(a:DA)(s:DS):List (Str×V):=[("name",.str s.name),("life",.int s.life),("houses",.ref a.hd),("journal",.ref a.j),("memory",.ref a.me)]
def mf(a:DA)(turn:Int)(next:Int):List (Str×V):=[("turn",.int turn),("book",.ref a.bk),("standing",.ref a.ks),("runs",.ref a.rn),("next_number",.int next)]
def aY(rs:List Rn):List (bC×V):=rs.map λr=>(Sum.inl (r.n:Int),.ref r.p)
def pO(c:CK)(r:Rn):TD×HO:=(r.p,.ins c.R r.dx r.fs)
def DA.fix(a:DA):List Addr:=[a.dr,a.hd,a.j,a.jl,a.me,a.bk,a.bd,a.ks,a.kf.db,a.kf.ds,a.rn]
def DA.objs(c:CK)(a:DA)(s:DS)(bs ss:List (List bC×V)):List (TD×HO):=
  [(a.dr,.ins c.D a.dx (df a s)),(a.hd,.dK s.hs),(a.j,.ins c.J a.jx (jf a.jl s.safe)),(a.jl,.lst s.rows),(a.me,.ins c.M a.mx (mf a s.turn s.next)),(a.bk,.ins c.B a.bx [("amounts",.ref a.bd)]),(a.bd,.dK (fM s.prs)),
   (a.ks,.ins c.Ks a.kf.dx (Cg a.kf s.life)),(a.kf.db,.dT bs),(a.kf.ds,.dT ss),(a.rn,.dK (aY s.runs))]
def DA.all(c:CK)(a:DA)(s:DS)(bs ss:List (List bC×V)):List (TD×HO):=a.objs c s bs ss++s.runs.map (pO c)
structure DAt(c:CK)(H:Hp)(a:DA)(s:DS):Prop where
 own:∃bs ss,Own H (a.all c s bs ss)/\Dic H bs s.m fB s.L/\Dic H ss s.m fS s.L
 nd:(s.prs.map (·.1)).Nodup
 up:s.runs.Pairwise λr r'=>r.n<r'.n
 dd:∀r∈s.runs,H r.d=some (.tup r.x.vs)
def iI(c:CK)(a:DA)(s:DS)(bs ss:List (List bC×V)):(a.all c s bs ss).map (·.1)=a.fix++s.runs.map (·.p):=by
 unfold DA.all;rw[jM,map_map];rfl
def Cr{c:CK}{a:DA}{s:DS}{bs ss:List (List bC×V)}:∀q∈a.all c s bs ss,∀xs,q.2≠.tup xs:=by
 intro q hq xs;rcases Zma.mp hq with m|m
 ·simp only [DA.objs,mem_cons,FM,or_false]at m;rcases m with rfl|rfl|rfl|rfl|rfl|rfl|rfl|rfl|rfl|rfl|rfl<;>exact λz=>nomatch z
 ·obtain⟨r,_,rfl⟩:=Zmm.mp m;exact λz=>nomatch z
structure Mv(a:DA)(s s':DS)(H H':Hp):Prop where
 fr:∀c o,H c=some o->c∉a.fix++s.runs.map (·.p)->H' c=some o
 nw:∀r∈s'.runs,r.p∈s.runs.map (·.p)∨H r.p=none
 gr:∀c,H' c=none->H c=none
def Same.gr{H H':Hp}(k:Same H H')(c:TD)(e:H' c=none):H c=none:=by
 cases z:H c with
 | none=>rfl
 | some o=>rw[k _ _ z]at e;cases e
def Mv.same{a:DA}{s:DS}{H H':Hp}(k:Same H H'):Mv a s s H H':=⟨λc o e _=>k c o e,λr hr=>.inl (mem_map_of_mem hr),λc e=>Same.gr k c e⟩
def Mv.trans{a:DA}{s s1 s2:DS}{H H1 H2:Hp}(x:Mv a s s1 H H1)(y:Mv a s1 s2 H1 H2):Mv a s s2 H H2:=by
 refine⟨λc o e hc=>y.fr c o (x.fr c o e hc) λm=>?_,λr hr=>?_,λc e=>x.gr c (y.gr c e)⟩
 ·rcases Zma.mp m with m|m
  ·exact hc (IN _ m)
  ·obtain⟨r,hr,rfl⟩:=Zmm.mp m;rcases x.nw r hr with z|z
   ·exact hc (GS _ z)
   ·rw[z]at e;cases e
 ·rcases y.nw r hr with z|z
  ·obtain⟨r',S7,e⟩:=Zmm.mp z;rw[<- e];exact x.nw r' S7
  ·exact .inr (x.gr _ z)
section
variable {c:CK}{H H':Hp}{a:DA}{s s':DS}
def DAt.out(h:DAt c H a s){b:TD}{o:HO}(hb:H b=some o)(ht:∃xs,o=.tup xs):b∉a.fix++s.runs.map (·.p):=by
 obtain⟨bs,ss,ho,_,_⟩:=h.own;obtain⟨xs,rfl⟩:=ht;intro m;rw[<- iI c a s bs ss]at m;obtain⟨q,hq,rfl⟩:=Zmm.mp m;have:=ho.2 q hq;rw[hb]at this;exact Cr q hq xs (Option.some.inj this).symm
def DAt.fresh(h:DAt c H a s){b:TD}(hb:H b=none):b∉a.fix++s.runs.map (·.p):=by
 obtain⟨bs,ss,ho,_,_⟩:=h.own;have:=ho.keys hb
 rwa [iI]at this
def Mv.tk(m:Mv a s s' H H')(h:DAt c H a s):TK H H':=λb xs e=>m.fr _ _ e (h.out e ⟨xs,rfl⟩)
def DAt.keep(h:DAt c H a s)(k:∀b o,H b=some o->b∈a.fix++s.runs.map (·.p)->H' b=some o)(t:TK H H'):DAt c H' a s:=by
 obtain⟨bs,ss,ho,d1,d2⟩:=h.own;refine⟨⟨bs,ss,⟨ho.1,λq hq=>k _ _ (ho.2 q hq) ?_⟩,d1.keep t,d2.keep t⟩,h.nd,h.up,λr hr=>t _ _ (h.dd r hr)⟩;rw[<- iI c a s bs ss];exact mem_map_of_mem hq
def DAt.same(h:DAt c H a s)(k:Same H H'):DAt c H' a s:=h.keep (λb o e _=>k b o e) (TK.of k)
def DAt.put(h:DAt c H a s)(i:Nat){p:TD}{o o':HO}(s':DS)(e:∀bs ss,(a.all c s bs ss)[i]?=some (p,o))(e':∀bs ss,(a.all c s bs ss).set i (p,o')=a.all c s' bs ss)(g:H' p=some o')(k:∀b u,H b=some u->b≠p->H' b=some u)(hm:s'.m=s.m)(hL:s'.L=s.L)(hn:(s'.prs.map (·.1)).Nodup)(hr:s'.runs=s.runs) :
  DAt c H' a s'/\Mv a s s' H H':=by
 obtain⟨bs,ss,ho,d1,d2⟩:=h.own;have hp:p∈a.fix++s.runs.map (·.p):=by
  rw[<- iI c a s bs ss];exact mem_map_of_mem (kS (e bs ss))
 have t:TK H H':=λb xs z=>k _ _ z λw=>Cr (p,o) (kS (e bs ss)) xs (Option.some.inj ((ho.2 _ (kS (e bs ss))).symm.trans (w▸z)))
 have T1:=ho.at i (e bs ss) g k;rw[e' bs ss]at T1;refine⟨⟨⟨bs,ss,T1,?_,?_⟩,hn,by rw[hr];exact h.up,by rw[hr];exact λr m=>t _ _ (h.dd r m)⟩,⟨λb u z hb=>k b u z λw=>hb (w▸hp),λr m=>.inl (by rw[hr]at m;exact mem_map_of_mem m),λb z=>?_⟩⟩
 ·rw[hm,hL];exact d1.keep t
 ·rw[hm,hL];exact d2.keep t
 ·cases w:H b with
  | none=>rfl
  | some u=>
   by_cases q:b=p
   ·rw[q,g]at z;cases z
   ·rw[k b u w q]at z;cases z
def DAt.dr(h:DAt c H a s):H a.dr=some (.ins c.D a.dx (df a s)):=let ⟨_,_,ho,_⟩:=h.own;ho.get 0 rfl
def DAt.hd(h:DAt c H a s):H a.hd=some (.dK s.hs):=let ⟨_,_,ho,_⟩:=h.own;ho.get 1 rfl
def DAt.j(h:DAt c H a s):H a.j=some (.ins c.J a.jx (jf a.jl s.safe)):=let ⟨_,_,ho,_⟩:=h.own;ho.get 2 rfl
def DAt.jl(h:DAt c H a s):H a.jl=some (.lst s.rows):=let ⟨_,_,ho,_⟩:=h.own;ho.get 3 rfl
def DAt.me(h:DAt c H a s):H a.me=some (.ins c.M a.mx (mf a s.turn s.next)):=let ⟨_,_,ho,_⟩:=h.own;ho.get 4 rfl
def DAt.bk(h:DAt c H a s):H a.bk=some (.ins c.B a.bx [("amounts",.ref a.bd)]):=let ⟨_,_,ho,_⟩:=h.own;ho.get 5 rfl
def DAt.bd(h:DAt c H a s):H a.bd=some (.dK (fM s.prs)):=let ⟨_,_,ho,_⟩:=h.own;ho.get 6 rfl
def DAt.ks(h:DAt c H a s):H a.ks=some (.ins c.Ks a.kf.dx (Cg a.kf s.life)):=let ⟨_,_,ho,_⟩:=h.own;ho.get 7 rfl
def DAt.rn(h:DAt c H a s):H a.rn=some (.dK (aY s.runs)):=let ⟨_,_,ho,_⟩:=h.own;ho.get 10 rfl
def DAt.run(h:DAt c H a s){r:Rn}(hr:r∈s.runs):H r.p=some (.ins c.R r.dx r.fs):=let ⟨_,_,ho,_⟩:=h.own;ho.2 (pO c r) (GS _ (mem_map_of_mem hr))
def DAt.book(h:DAt c H a s):BookAt c.B H a.bk s.prs:=⟨⟨_,_,h.bk,h.bd⟩,h.nd⟩
def DAt.ky(h:DAt c H a s):KyAt c.Ks H a.ks a.kf s.life s.m s.L:=by
 obtain⟨bs,ss,ho,d1,d2⟩:=h.own;exact⟨ho.get 7 rfl,⟨bs,ho.get 8 rfl,d1⟩,⟨ss,ho.get 9 rfl,d2⟩,ho.ne (i:=8) (j:=9) rfl rfl Zd⟩
def DAt.keys(h:DAt c H a s){m':KM}{L':Nat}(k:KyAt c.Ks H' a.ks a.kf s.life m' L')(fr:FrK H H' a.kf):DAt c H' a {s with m:=m',L:=L' }/\Mv a s {s with m:=m',L:=L' } H H':=by
 obtain⟨bs,ss,ho,d1,d2⟩:=h.own;obtain⟨b1,g1,e1⟩:=k.hb;obtain⟨b2,g2,e2⟩:=k.hs;have gb:=ho.get 8 rfl;have gs:=ho.get 9 rfl;have t:TK H H':=λb xs z=>fr _ _ z (aQ z gb λw=>nomatch w) (aQ z gs λw=>nomatch w)
 have kp:∀q∈a.all c s bs ss,(∀kv,q.2≠.dT kv)->H' q.1=some q.2:=λq hq hn=>fr _ _ (ho.2 q hq) (aQ (ho.2 q hq) gb (hn _)) (aQ (ho.2 q hq) gs (hn _))
 have XH:Own H' (a.all c {s with m:=m',L:=L' } b1 b2):=by
  refine⟨by rw[iI];have:=ho.1;rwa [iI]at this,λq hq=>?_⟩;rcases Zma.mp hq with m|m
  ·simp only [DA.objs,mem_cons,FM,or_false]at m;have z:∀(i:Nat)(q:TD×HO),(a.all c s bs ss)[i]?=some q->(∀kv,q.2≠.dT kv)->H' q.1=some q.2:=λi q e hn=>kp q (kS e) hn
   rcases m with rfl|rfl|rfl|rfl|rfl|rfl|rfl|rfl|rfl|rfl|rfl
   ·exact z 0 _ rfl λ_ w=>nomatch w
   ·exact z 1 _ rfl λ_ w=>nomatch w
   ·exact z 2 _ rfl λ_ w=>nomatch w
   ·exact z 3 _ rfl λ_ w=>nomatch w
   ·exact z 4 _ rfl λ_ w=>nomatch w
   ·exact z 5 _ rfl λ_ w=>nomatch w
   ·exact z 6 _ rfl λ_ w=>nomatch w
   ·exact z 7 _ rfl λ_ w=>nomatch w
   ·exact g1
   ·exact g2
   ·exact z 10 _ rfl λ_ w=>nomatch w
  ·obtain⟨r,hr,rfl⟩:=Zmm.mp m;exact kp (pO c r) (GS _ (mem_map_of_mem hr)) λ_ w=>nomatch w
 refine⟨⟨⟨b1,b2,XH,e1,e2⟩,h.nd,h.up,λr hr=>t _ _ (h.dd r hr)⟩,⟨λb o z hb=>fr b o z ?_ ?_,λr hr=>.inl (mem_map_of_mem hr),λb z=>?_⟩⟩
 ·exact λw=>hb (by rw[w];simp[DA.fix])
 ·exact λw=>hb (by rw[w];simp[DA.fix])
 ·cases w:H b with
  | none=>rfl
  | some u=>
   by_cases q1:b=a.kf.db
   ·rw[q1,g1]at z;cases z
   ·by_cases q2:b=a.kf.ds
    ·rw[q2,g2]at z;cases z
    ·rw[fr b u w q1 q2]at z;cases z
def DAt.rput{pre post:List Rn}{r r':Rn}(h:DAt c H a s)(hs:s.runs=pre++r::post)(h1:r'.p=r.p)(h3:r'.n=r.n)(h5:r'.d=r.d)(h6:r'.x=r.x) :
  DAt c (aH H r.p (.ins c.R r'.dx r'.fs)) a {s with runs:=pre++r'::post }/\Mv a s {s with runs:=pre++r'::post } H (aH H r.p (.ins c.R r'.dx r'.fs)):=by
 obtain⟨bs,ss,ho,d1,d2⟩:=h.own;have hr:r∈s.runs:=by rw[hs];simp
 have gr:=h.run hr;have t:TK H (aH H r.p (.ins c.R r'.dx r'.fs)):=cG gr λ_ z=>nomatch z
 have el:(a.objs c s bs ss++pre.map (pO c)).length=11+pre.length:=by simp[DA.objs];omega
 have eA:a.all c s bs ss=(a.objs c s bs ss++pre.map (pO c))++pO c r::post.map (pO c):=by
  unfold DA.all;rw[hs,jM,map_cons,append_assoc]
 have eK:aY (pre++r'::post)=aY s.runs:=by rw[hs];unfold aY;simp[h1,h3]
 have eO:a.objs c {s with runs:=pre++r'::post } bs ss=a.objs c s bs ss:=by unfold DA.objs df;dsimp only;rw[eK]
 have e0:(a.all c s bs ss)[11+pre.length]?=some (r.p,.ins c.R r.dx r.fs):=by
  rw[eA,List.getElem?_append_right Zo,el,Nat.sub_self];rfl
 have T1:=ho.set _ e0 (.ins c.R r'.dx r'.fs);have e1:(a.all c s bs ss).set (11+pre.length) (r.p,.ins c.R r'.dx r'.fs)=a.all c {s with runs:=pre++r'::post } bs ss:=by
  rw[eA,List.set_append_right _ _ Zo,el,Nat.sub_self,List.set_cons_zero];unfold DA.all;rw[eO];show _=a.objs c s bs ss++List.map (pO c) (pre++r'::post);rw[jM,map_cons,append_assoc];have:pO c r'=(r.p,.ins c.R r'.dx r'.fs):=by unfold pO;rw[h1]
  rw[this]
 rw[e1]at T1;refine⟨⟨⟨bs,ss,T1,d1.keep t,d2.keep t⟩,h.nd,?_,λq hq=>?_⟩,⟨λb o z hb=>?_,λq hq=>.inl ?_,λb z=>?_⟩⟩
 ·have:=h.up;rw[hs]at this;have e:(pre++r'::post).map (·.n)=(pre++r::post).map (·.n):=by simp[h3]
  have:=(pairwise_map (f:=λ(r:Rn)=>r.n) (R:=λ(x y:Nat)=>x<y)).mpr this;rw[<- e]at this;exact pairwise_map.mp this
 ·rcases Zma.mp hq with m|m
  ·exact t _ _ (h.dd q (by rw[hs];exact IN _ m))
  ·rcases mem_cons.mp m with rfl|m
   ·rw[h5,h6];exact t _ _ (h.dd r hr)
   ·exact t _ _ (h.dd q (by rw[hs];simp[m]))
 ·rw[aE λw=>hb (by rw[w];exact GS _ (mem_map_of_mem hr))];exact z
 ·rw[hs];rcases Zma.mp hq with m|m
  ·exact mem_map_of_mem (IN _ m)
  ·rcases mem_cons.mp m with rfl|m
   ·rw[h1];exact mem_map_of_mem Zs
   ·exact mem_map_of_mem (by simp[m])
 ·cases w:H b with
  | none=>rfl
  | some u=>
   by_cases q:b=r.p
   ·rw[q,aA]at z;cases z
   ·rw[aE q,w]at z;cases z
end
def iJ{js:List (Option Nat)}{g:TG}{tt:TT}{te:TE}{σ:St}{H:Hp}{a:TD}{Q:List V->Hp->Prop}(e:SqL K H a [])(h:Q [] H):oX js g tt te σ (Te K a) H Q:=
 bJ (cA K a []) Zs (λi ys H'=>H'=H/\ys=[]) (λi ys H' ⟨e1,e2⟩=>⟨by rw[e1];exact e,by rw[e2];simp⟩) ⟨rfl,rfl⟩ (λi x ys H' hx _=>by simp at hx) (λys H' ⟨e1,e2⟩=>by subst e1;subst e2;exact h)
def uD{js:List (Option Nat)}{g:TG}{tt:TT}{te:TE}{σ:St}{H:Hp}{a:TD}{o:Obj}{Q:List V->Hp->Prop}(e:H a=some (.frz o (.dK [])))(h:Q [] H):oX js g tt te σ (Itd a o []) H Q:=
 bJ (Pc a o []) Zs (λi ys H'=>H'=H/\ys=[]) (λi ys H' ⟨e1,e2⟩=>⟨by rw[e1];exact e,by rw[e2];simp⟩) ⟨rfl,rfl⟩ (λi x ys H' hx _=>by simp at hx) (λys H' ⟨e1,e2⟩=>by subst e1;subst e2;exact h)
def pU{g:TG}{tb:TS}{D:hZ}{σ:St}{H:Hp}{a:TD}(e:SqL K H a [])(h:D.nx σ H) :
  ∃W:Nat->Nat->St->Hp->Prop,(∃m,W 0 m σ H)/\∀i m σ H,W i m σ H →
   ((Te K a).stop i H/\D.nx σ H)∨((Te K a).go i H/\∃N:St->Hp->Prop,(∀ σ' H',N σ' H'->∃m',m'<m/\W (i+1) m' σ' H')/\∀x H',(Te K a).yld i H x H'->g x σ H' λσ2 H2=>tb {D with nx:=N,ct:=N,bk:=D.nx } σ2 H2):=
 dI (cA K a []) (λi σ' H'=>H'=H/\σ'=σ) (λi σ' H' ⟨e1,_⟩=>by rw[e1];exact e) ⟨rfl,rfl⟩ (λi x σ' H' hx _=>by simp at hx) (λσ' H' ⟨e1,e2⟩=>by subst e1;subst e2;exact h)
def rJ{H:Hp}{d x:TD}{o:Obj}{kvs:List (bC×V)}{u:HO}(g:H d=some (.dK kvs))(h:(aH H d (.frz o (.dK kvs))) x=none):Same H (aH (aH (aH H d (.frz o (.dK kvs))) x u) d (.dK kvs)):=λc v e=>by
 by_cases z:c=d
 ·rw[z,aA,<- g,<- z,e]
 ·have n:c≠x:=λw=>by rw[<- w,aE z,e]at h;cases h
  rw[aE z,aE n,aE z];exact e
def Ru:Sp:=λvs H Q _=>∃(ra:TD)(w:Str),vs=[.ref ra,.str w]/\H ra=some (.lst [])/\∀d,H d=none->Q (.ref d) (aH H d (.dK []))
def Vy(D:DefAt K mg "by_numbers" fW QZy):aJ P w K mg base 1 "by_numbers" QZy Ru:=by
 refine D.go iD (λvs H Q E h=>?_) (λf cdv A outer s H vs Q E hr h=>?_)
 ·obtain⟨ra,w,rfl,_⟩:=h;rfl
 ·obtain⟨ra,w,rfl,g,q⟩:=h;have c3:=cC hr;refine⟨_,(lv (re (i:=2) iD.nd AA) (lv (ya PassesOwn.never rfl (uk (K:=K) (jp 0)) (pr (i:=3) iD.nd) (mk (pc (nh se (my (ng (K:=K)) (jp 3) lm) (jp 1)) (mk (yb (jp 3) (yc (jp 2) (my (ng (K:=K)) (jp 3) lm) (ye c3)))) ph))) (mk (mz (jp 2))))),?_⟩;intro d hd;dsimp only [aK];have g':=aF (o:=.dK []) hd _ _ g;exact⟨ra,rfl,⟨_,QZc g'⟩,pU (QZc g') (q d hd)⟩
def Cs(C:TD):Sp:=λvs H Q _=>∃ra:TD,vs=[.ref ra]/\H ra=some (.lst [])/\∀(b bx bd:TD)(H':Hp),H b=none->H bd=none->H' b=some (.ins C bx [("amounts",.ref bd)])->H' bd=some (.dK [])->Same H H'->Q (.ref b) H'
def Vz{C:TD}(AM:wO P w K mg base 1 "Book" C QZZ [] (vT C))(D:DefAt K mg "first_book" dY CB):aJ P w K mg base 3 "first_book" CB (Cs C):=by
 refine D.go rR (λvs H Q E h=>?_) (λf cdv A outer s H vs Q E hr h=>?_)
 ·obtain⟨ra,rfl,_⟩:=h;rfl
 ·obtain⟨ra,rfl,g,q⟩:=h;have ux:=hr;refine⟨_,(mk (mz (R.da AM ux rfl (lc (xy rfl (js:=[none]) (N:=BZ) (CompScope.by (aB dY) CB rfl rfl Zk) (aP rfl) (uk (K:=K) (jp 0)) (λC s₂ H₂ fp=>⟨(pr (i:=0) (show(BZ:List Str).Nodup by decide +kernel)),(zr (nh se (my (ng (K:=K)) (jp 0) lm) ms)),(xx zt (jp 0) (tz lm) yf)⟩)) li)))),?_⟩;refine⟨ra,rfl,⟨_,QZc g⟩,iJ (QZc g) λl hl=>?_⟩;intro b bx hb KZ j9;have s1:=aF (o:=.lst []) hl;refine⟨b,bx,_,[],rfl,aA,.inr ⟨l,[],rfl,?_,(λ_ h=>nomatch h),rfl⟩,nodup_nil,Zs,λH' d hd g1 g2 k=>⟨rfl,?_⟩⟩
  ·rw[aE (aD aA hb),aE (aD aA KZ)];exact aA
  ·have s2:Same (aH H l (.lst [])) H':=λc o e=>k _ _ (by rw[aE (aD e hb),aE (aD e KZ)];exact e) (aD e hb)
   refine q b bx d H' (s1.free hb) ?_ g1 g2 (s1.trans s2)
   cases e:H d with
   | none=>rfl
   | some o=>have e':=s1 _ _ e;rw[aE (aD e' hb),aE (aD e' KZ),e']at hd;cases hd
def Wa{C:TD}(uy:aJ P w K mg base 3 "first_book" CB (Cs C))(K9:aJ P w K mg base 2 "changes_of" QZW Lc)(E8:cP P w K mg base 2 C "change" QZK (oP C))(D:DefAt K mg "risen_book" fX BX) :
  aJ P w K mg base 4 "risen_book" BX (λvs H Q E=>∃ra v,vs=[ra,v]/\Cs C [ra] H Q E):=by
 refine D.go iE (λvs H Q E h=>?_) (λf cdv A outer s H vs Q E hr h=>?_)
 ·obtain⟨ra,v,rfl,_⟩:=h;rfl
 ·obtain⟨_,v,rfl,ra,e,g,q⟩:=h;cases e;have sx:=hr;have E9:Room 2 _:=hr.mono Zd;have B4:Room 2 _:=hr.mono Zd;have c3:=cC hr;refine⟨_,(lv (re (i:=2) iE.nd (pj uy sx rfl (lc (jp 0) li))) (lv (ya PassesOwn.never rfl (uk (K:=K) (jp 0)) (pr (i:=3) iE.nd) (mk (pc (nh se (my (ng (K:=K)) (jp 3) lm) ms) (mk (um (uh E8 B4 (jp 2) (lc (pj K9 E9 rfl (lc (my (ng (K:=K)) (rm c3 (jp 1) (my (ng (K:=K)) (jp 3) lm)) lm) (lc (my (ng (K:=K)) (jp 3) lm) li))) li)))) ph))) (mk (mz (jp 2))))),?_⟩;refine⟨ra,rfl,g,λb bx bd H' h1 h2 g1 g2 s1=>?_⟩;dsimp only [aK];exact⟨ra,rfl,⟨_,QZc (s1 _ _ g)⟩,pU (QZc (s1 _ _ g)) (q b bx bd H' h1 h2 g1 g2 s1)⟩
def Rv:Sp:=λvs H Q _=>∃(ra:TD)(v:V),vs=[.ref ra,v]/\H ra=some (.lst [])/\∀l H',Same H H'->H' l=some (.lst [])->Q (.ref l) H'
def Wb(D:DefAt K mg "risen_kept" cW BX):aJ P w K mg base 1 "risen_kept" BX Rv:=by
 refine D.go lA (λvs H Q E h=>?_) (λf cdv A outer s H vs Q E hr h=>?_)
 ·obtain⟨ra,v,rfl,_⟩:=h;rfl
 ·obtain⟨ra,v,rfl,g,q⟩:=h;have c3:=cC hr;refine⟨_,(lv (R.de (i:=2) lA.nd rfl (Or.inl rfl) rfl (js:=[none]) (N:=BZ) (CompScope.by (aB cW) QZl rfl rfl Zk) (aP rfl) (uk (K:=K) (jp 0)) (λC s₂ H₂ fp=>⟨(pr (i:=0) (show(BZ:List Str).Nodup by decide +kernel)),(zr (nh se (my (ng (K:=K)) (jp 0) lm) ms)),(xx zt (jp 0) (tz lm) yf)⟩) rfl) (mk (mz (o0 R.cx (jp 2) (xy rfl (js:=[none,some 1]) (N:=["row","came"]) (CompScope.by (aB cW) QZl rfl rfl Zk) (aP rfl) (uk (K:=K) (jp 0)) (λC s₂ H₂ fp=>⟨(pr (i:=0) (show(["row","came"]:List Str).Nodup by decide +kernel)),(zr (nh se (my (ng (K:=K)) (jp 0) lm) ms)),(o0 R.dz (o0 R.dz (xx zt (jp 0) (tz lm) (tz lm)) (xx zt (rm c3 (jp 1) (my (ng (K:=K)) (jp 0) lm)) (tz lm) yf)) (xx zt (jp 0) (tz lm) yf))⟩)))))),?_⟩;refine⟨ra,rfl,⟨_,QZc g⟩,iJ (QZc g) λl hl=>?_⟩;dsimp only [aK];have s1:=aF (o:=.lst []) hl;refine⟨ra,rfl,⟨_,QZc (s1 _ _ g)⟩,iJ (QZc (s1 _ _ g)) λl2 nr=>?_⟩;have s2:=aF (o:=.lst []) nr;exact⟨[],[],s2 _ _ aA,aA,kW rfl,λl3 LB=>q l3 _ ((s1.trans s2).trans (aF LB)) aA⟩
def Lh:Sp:=λvs H Q _=>∃ra:TD,vs=[.ref ra]/\H ra=some (.lst [])/\∀t b l o H',Same H H'->H' t=some (.tup [.ref b,.ref l,.ref o,.int 1,.int 0])->H' b=some (.lst [])->H' l=some (.lst [])->H' o=some (.lst [])->Q (.ref t) H'
def Qc{C:TD}(T:Txt K mg)(L8:aJ P w K mg base 1 "by_numbers" QZy Ru)(uz:aJ P w K mg base 4 "risen_book" BX (λvs H Q E=>∃ra v,vs=[ra,v]/\Cs C [ra] H Q E))(va:aJ P w K mg base 1 "risen_kept" BX Rv)(P6:cP P w K mg base 1 C "rows" EQ (qW C))(D:DefAt K mg "risen" fV CB) :
  aJ P w K mg base 5 "risen" CB Lh:=by
 refine D.go jV (λvs H Q E h=>?_) (λf cdv A outer s H vs Q E hr h=>?_)
 ·obtain⟨ra,rfl,_⟩:=h;rfl
 ·obtain⟨ra,rfl,g,q⟩:=h;have c3:=cC hr;have F0:Room 1 _:=hr.mono Zd;have sy:Room 4 _:=hr;have M0:Room 1 _:=hr.mono Zd;have tf:Room 1 _:=hr.mono Zd;refine⟨_,(lv (re (i:=1) jV.nd (pj L8 F0 rfl (lc (jp 0) (lc ms li)))) (lv (re (i:=2) jV.nd (pj L8 F0 rfl (lc (jp 0) (lc ms li)))) (lv (re (i:=3) jV.nd (pj L8 F0 rfl (lc (jp 0) (lc ms li)))) (lv (R.io (R.de (i:=4) jV.nd rfl (Or.inl rfl) rfl (js:=[none,some 1,some 2,some 3]) (N:=["number","done","asked","came"]) (CompScope.by (aB fV) QZU rfl rfl Zk) (aP rfl) (R.wD (jp 3)) (λC s₂ H₂ fp=>⟨(pr (i:=0) (show(["number","done","asked","came"]:List Str).Nodup by decide +kernel)),(zr (u8 (zx (nh (R.fg c3) (jp 0) (jp 2)) (zy (nh (R.dy c3) (jp 0) (jp 1)))))),(rm c3 (jp 3) (jp 0))⟩) rfl)) (mk (mz (pf (lc (ut P6 M0 (pj uz sy rfl (lc (jp 0) (lc (jp 3) li)))) (lc (pj va tf rfl (lc (jp 0) (lc (jp 3) li))) (lc (xy rfl (js:=[none]) (N:=BZ) (CompScope.by (aB fV) QZU rfl rfl Zk) (aP rfl) (uk (K:=K) (jp 4)) (λC s₂ H₂ fp=>⟨(pr (i:=0) (show(BZ:List Str).Nodup by decide +kernel)),yd,(o0 R.dz (xx zt (jp 0) (tz lm) (tz lm)) (xx zt (jp 0) (tz lm) yf))⟩)) (lc (sj (R.ff (K:=K) rfl) rfl T.b_max vH (lc (o0 R.cx (o0 R.cx (uo (lc lm li)) (xy rfl (js:=[none]) (N:=BZ) (CompScope.by (aB fV) QZU rfl rfl Zk) (aP rfl) (uk (K:=K) (jp 0)) (λC s₂ H₂ fp=>⟨(pr (i:=0) (show(BZ:List Str).Nodup by decide +kernel)),(zr (nh se (my (ng (K:=K)) (jp 0) lm) ms)),(my (ng (K:=K)) (jp 0) lm)⟩))) (R.jd (xy rfl (js:=[none]) (N:=["number"]) (CompScope.by (aB fV) QZU rfl rfl Zk) (aP rfl) (R.wD (jp 3)) (λC s₂ H₂ fp=>⟨(pr (i:=0) (show(["number"]:List Str).Nodup by decide +kernel)),yd,(o0 rq (jp 0) lm)⟩)))) li)) (lc (sj (R.ff (K:=K) rfl) rfl T.b_max vH (lc (o0 R.cx (uo (lc lm li)) (xy rfl (js:=[none]) (N:=BZ) (CompScope.by (aB fV) QZU rfl rfl Zk) (aP rfl) (uk (K:=K) (jp 0)) (λC s₂ H₂ fp=>⟨(pr (i:=0) (show(BZ:List Str).Nodup by decide +kernel)),(zr (nh (R.cw (K:=K)) (my (ng (K:=K)) (jp 0) lm) (pf (lc ms (lc ms (lc ms li)))))),(my (ng (K:=K)) (jp 0) lm)⟩))) li)) li)))))))))))),?_⟩;refine⟨ra,"done",rfl,g,λd1 h1=>?_⟩;dsimp only [aK];have s1:=aF (o:=.dK []) h1;generalize aH H d1 (.dK [])=H1 at s1 ⊢;refine⟨ra,"asked",rfl,s1 _ _ g,λd2 h2=>?_⟩;dsimp only [aK];have s2:=s1.trans (aF (o:=.dK []) h2);generalize aH H1 d2 (.dK [])=H2 at s2 ⊢;refine⟨ra,"came",rfl,s2 _ _ g,λd3 h3=>?_⟩;dsimp only [aK];have s3:=s2.trans (aF (o:=.dK []) h3);have g3:(aH H2 d3 (.dK [])) d3=some (.dK []):=aA;generalize aH H2 d3 (.dK [])=H3 at s3 g3 ⊢;refine tV (λσ' H'=>∃sl:TD,σ'=[some (.ref ra),some (.ref d1),some (.ref d2),some (.ref d3),some (.ref sl)]/\H' sl=some (.lst [])/\Same H3 H') (λnx uw=>?_) ?_
  ·refine⟨_,g3,λo=>uD aA λsl hsl=>?_⟩;have PJ:d3≠sl:=aD aA hsl;exact⟨d3,[],o,⟨_,g3⟩,by rw[aE PJ];exact aA,uw _ _ ⟨sl,rfl,by rw[aE PJ.symm];exact aA,rJ g3 hsl⟩⟩
  ·rintro σ' H4 ⟨sl,rfl,gsl,s4⟩;have sA:=s3.trans s4;refine⟨.ref ra,.ref d3,rfl,ra,rfl,sA _ _ g,λb bx bd H5 hb HD gb gd s5=>?_⟩;refine⟨bx,_,gb,by kernel_rfl,b,[],rfl,⟨⟨bx,bd,gb,gd⟩,nodup_nil⟩,Zd,λbl zs H6 s6 fbl gbl hz ez=>?_⟩;have ez':zs=[]:=by
    have e0:mY (([]:List (Str×Int)).map (·.1))=[]:=List.length_eq_zero_iff.mp (by rw[lY];rfl);unfold gP at ez;rw[e0]at ez;exact List.map_eq_nil_iff.mp ez
   subst ez';have sB:=(sA.trans s5).trans s6;refine⟨ra,.ref d3,rfl,sB _ _ g,λkl H7 s7 XJ=>?_⟩;have sC:=sB.trans s7;have gs7:=s7 _ _ (s6 _ _ (s5 _ _ gsl));refine⟨sl,rfl,⟨_,QZc gs7⟩,iJ (QZc gs7) λol LC=>?_⟩;have sD:=sC.trans (aF (o:=.lst []) LC);have PK:=aF (o:=.lst []) LC _ _ (s7 _ _ gbl);have PL:=aF (o:=.lst []) LC _ _ XJ;have PM:(aH H7 ol (.lst [])) ol=some (.lst []):=aA;have gd8:=aF (o:=.lst []) LC _ _ (s7 _ _ (s6 _ _ (s5 _ _ (s4 _ _ g3))));generalize aH H7 ol (.lst [])=H8 at sD PK PL PM gd8 ⊢;refine⟨kW rfl,λx1 hx1=>?_⟩;have sE:=aF (o:=.lst [.int 1]) hx1;have gx1:(aH H8 x1 (.lst [.int 1])) x1=some (.lst [.int 1]):=aA;generalize aH H8 x1 (.lst [.int 1])=H9 at sE gx1 ⊢;refine⟨ra,rfl,⟨_,QZc (sE _ _ (sD _ _ g))⟩,iJ (QZc (sE _ _ (sD _ _ g))) λx2 hx2=>?_⟩;have sF:=sE.trans (aF (o:=.lst []) hx2);refine⟨_,_,aF hx2 _ _ gx1,aA,kW rfl,λx3 PN=>?_⟩;have gx3:(aH (aH H9 x2 (.lst [])) x3 (.lst ([.int 1]++[]))) x3=some (.lst ([.int 1]++[])):=aA;have sG:=sF.trans (aF (o:=.lst ([.int 1]++[])) PN);generalize aH (aH H9 x2 (.lst [])) x3 (.lst ([.int 1]++[]))=NH at sG gx3 ⊢;have zb:=sG _ _ gd8;refine⟨_,zb,λo=>uD aA λx4 hx4=>?_⟩;have PJ:d3≠x4:=aD aA hx4;refine⟨d3,[],o,⟨_,zb⟩,by rw[aE PJ];exact aA,?_⟩;have sH:=rJ (u:=.lst []) zb hx4;have gx4:(aH (aH (aH NH d3 (.frz o (.dK []))) x4 (.lst [])) d3 (.dK [])) x4=some (.lst []):=by rw[aE PJ.symm];exact aA
   generalize aH (aH (aH NH d3 (.frz o (.dK []))) x4 (.lst [])) d3 (.dK [])=H11 at sH gx4 ⊢;refine⟨_,_,sH _ _ gx3,gx4,kW rfl,λx5 hx5=>⟨x5,[1],rfl,QZc aA,Zd,λM hM _=>?_⟩⟩;have eM:M=1:=by simpa using hM
   subst eM;have sI:=(sG.trans sH).trans (aF (o:=.lst ([.int 1]++[]++[])) hx5);generalize aH H11 x5 (.lst ([.int 1]++[]++[]))=H12 at sI ⊢;refine⟨kW rfl,λy1 OY=>?_⟩;have sJ:=sI.trans (aF (o:=.lst [.int 0]) OY);have gy1:(aH H12 y1 (.lst [.int 0])) y1=some (.lst [.int 0]):=aA;generalize aH H12 y1 (.lst [.int 0])=H13 at sJ gy1 ⊢;have PQ:=sJ _ _ (sD _ _ g);refine⟨ra,rfl,⟨_,QZc PQ⟩,iJ (QZc PQ) λy2 hy2=>?_⟩;refine⟨_,_,aF hy2 _ _ gy1,aA,kW rfl,λy3 hy3=>⟨y3,[0],rfl,QZc aA,Zd,λM hM _=>?_⟩⟩;have eM:M=0:=by simpa using hM
   subst eM;have sK:=(sJ.trans (aF (o:=.lst []) hy2)).trans (aF (o:=.lst ([.int 0]++[])) hy3);refine⟨aT rfl,λt H' sL gt=>q t bl kl ol H' ((sD.trans sK).trans sL) gt (sL _ _ (sK _ _ PK)) (sL _ _ (sK _ _ PL)) (sL _ _ (sK _ _ PM))⟩
structure JT(K:W.Frag)(C:TD):Prop where
 cl:Cls K C
 nW:NoAttr K C "written"
 nS:NoAttr K C "safe_count"
def uE:Sp:=λvs H Q _=>vs=[.str ("":Str)]/\∀l H',H l=none->H' l=some (.lst [])->Same H H'->Q (.ref l) H'
def yK(T:Txt K mg)(D:DefAt K mg "rows_of" kK ["text"]):aJ P w K mg base 1 "rows_of" ["text"] uE:=by
 refine D.go jD (λvs H Q E h=>?_) (λf cdv A outer s H vs Q E hr h=>?_)
 ·obtain⟨rfl,_⟩:=h;rfl
 ·obtain⟨rfl,q⟩:=h;refine⟨_,(lv (re (i:=1) jD.nd (uo li)) (lv (ya PassesOwn.never rfl (R.gm (K:=K) rfl T.b_enumerate (xx (R.dq (K:=K)) (yg (K:=K) PySem.F.plainAttrs_str PySem.F.slot_str_split PySem.F.type_str_split R.ft (jp 0) (lc ms li)) yf (tz (sh lm)))) (zv (K:=K) (n:=2) rfl (ui (pr (i:=2) jD.nd) (ui (pr (i:=3) jD.nd) zw))) (mk wv)) (mk (mz (jp 1))))),?_⟩;refine⟨kW rfl,λl hl=>?_⟩;dsimp only [aK];have s1:=aF (o:=.lst []) hl;have g1:(aH H l (.lst [])) l=some (.lst []):=aA;generalize aH H l (.lst [])=H1 at s1 g1 ⊢;refine⟨rfl,Zk,Zk,λl2 h2=>?_⟩;have e2:(Txt.split ("":Str) ("\n":Str)).map V.str=[V.str ("":Str)]:=by kernel_rfl
  rw[e2];have s2:=s1.trans (aF (o:=.lst [V.str ("":Str)]) h2);have g2:=aF (o:=.lst [V.str ("":Str)]) h2 _ _ g1;have yr:(aH H1 l2 (.lst [V.str ("":Str)])) l2=some (.lst [V.str ("":Str)]):=aA;generalize aH H1 l2 (.lst [V.str ("":Str)])=H2 at s2 g2 yr ⊢;refine⟨_,QZc yr,λl3 h3=>?_⟩;rw[show iB [V.str ("":Str)] none (some (-1))=[] by kernel_rfl];have s3:=s2.trans (aF (o:=.lst []) h3);have g3:=aF (o:=.lst []) h3 _ _ g2;have CY:(aH H2 l3 (.lst [])) l3=some (.lst []):=aA;generalize aH H2 l3 (.lst [])=H3 at s3 g3 CY ⊢;refine⟨_,QZc CY,?_⟩;refine Jy (K:=K) (a:=l3) (xs:=[]) (tb:=λ_ _ _=>False) (λi σ H'=>H'=H3/\σ=[some (.str ("":Str)),some (.ref l),none,none]) (λi σ H' h=>by rw[h.1];exact QZc CY) ⟨rfl,rfl⟩ (λi x σ H' t hx=>by simp at hx) λσ H' h=>?_;rw[h.1,h.2];exact q l H3 hl g3 s3
def Rw(C:TD):Sp:=λvs H Q _=>∃p dx,vs=[.ref p,.str ("":Str)]/\H p=some (.ins C dx [])/\∀H' lw,H lw=none->H' p=some (.ins C dx (jf lw 0))->H' lw=some (.lst [])->(∀c o,H c=some o->c≠p->H' c=some o)->Q .non H'
def Fu{C:TD}(T:Txt K mg)(B:JT K C)(CZ:aJ P w K mg base 1 "rows_of" ["text"] uE)(D:ClsAt K mg "Journal" C "Journal.__init__" bF QZT [[],[.str ("":Str)]]):∀d∈([[],[.str ("":Str)]]:List (List V)),wO P w K mg base 2 "Journal" C QZT d (Rw C):=by
 refine D.go kR (λvs H Q E h=>?_) (λf cdv A outer s H vs Q E hr h=>?_)
 ·obtain⟨p,dx,rfl,_⟩:=h;rfl
 ·obtain⟨p,dx,rfl,hp,q⟩:=h;have AN:=hr;refine⟨_,(lv (sf (K:=K) (jp 0) (pj CZ AN rfl (lc (jp 1) li))) (mk (sf (K:=K) (jp 0) (sj (zu (K:=K)) rfl T.b_len dU (lc (pi (K:=K) (jp 0)) li))))),?_⟩;refine⟨rfl,λl H1 hl g1 s1=>?_⟩;have npl:p≠l:=aD hp hl;refine⟨C,dx,[],s1 _ _ hp,B.cl,B.nW,(by show 0<1000;decide),?_⟩;dsimp only;rw[show bK "written" (.ref l) []=([("written",.ref l)]:List (Str×V)) from rfl];have g2:(aH H1 p (.ins C dx [("written",.ref l)])) p=some (.ins C dx [("written",.ref l)]):=aA;have yr:(aH H1 p (.ins C dx [("written",.ref l)])) l=some (.lst []):=by rw[aE npl.symm];exact g1
  have k2:∀c o,H1 c=some o->c≠p->(aH H1 p (.ins C dx [("written",.ref l)])) c=some o:=λc o e hc=>by rw[aE hc];exact e
  generalize aH H1 p (.ins C dx [("written",.ref l)])=H2 at g2 yr k2 ⊢;refine⟨C,dx,_,.ref l,g2,B.cl,B.nW,by kernel_rfl,_,.inl (QZc yr),?_⟩;refine⟨C,dx,_,g2,B.cl,B.nS,(by show 1<1000;decide),?_⟩;refine q _ l hl (by rw[aA];congr 1) (by rw[aE npl.symm];exact yr) λc o e hc=>?_;rw[aE hc];exact k2 _ _ (s1 _ _ e) hc
def mO(C:TD):Sp:=λvs H Q _=>∃(x lw dx:TD)(n:Int)(us:List V)(v:V),vs=[.ref x,v]/\H x=some (.ins C dx (jf lw n))/\H lw=some (.lst us)/\us.length<=1000/\Q .non (aH H lw (.lst (us++[v])))
def yL(C:TD):Sp:=λvs H Q _=>∃(x lw dx:TD)(n:Int)(us:List V),vs=[.ref x]/\H x=some (.ins C dx (jf lw n))/\H lw=some (.lst us)/\Q .non (aH H x (.ins C dx (jf lw us.length)))
def wE(C:TD):Sp:=λvs H Q _=>∃(x lw dx:TD)(n:Int)(us:List V),vs=[.ref x]/\H x=some (.ins C dx (jf lw n))/\H lw=some (.lst us)/\∀l,H l=none->Q (.ref l) (aH H l (.lst us))
def Ct(C:TD):Sp:=λvs H Q _=>∃(x lw dx:TD)(n:Int),vs=[.ref x]/\H x=some (.ins C dx (jf lw n))/\Q (.int n) H
def Fv{C:TD}(B:JT K C)(D:MethAt K C "write" "Journal.write" dJ QZY):cP P w K mg base 1 C "write" QZY (mO C):=by
 refine D.go oK (λvs H Q E h=>?_) (λf cdv A outer s H vs Q E hr h=>?_)
 ·obtain⟨x,lw,dx,n,us,v,rfl,_⟩:=h;rfl
 ·obtain⟨x,lw,dx,n,us,v,rfl,hx,hl,hn,q⟩:=h;refine⟨_,(mk (um (yg (K:=K) PySem.F.plainAttrs_list PySem.F.slot_list_append PySem.F.type_list_append R.dh (pi (K:=K) (jp 0)) (lc (jp 1) li)))),?_⟩;exact⟨C,dx,_,.ref lw,hx,B.cl,B.nW,by kernel_rfl,.inl ⟨rfl,_,QZc hl⟩,lw,us,v,rfl,rfl,hl,rY hn Zd,q⟩
def Fw{C:TD}(T:Txt K mg)(B:JT K C)(D:MethAt K C "force" "Journal.force" dL EQ):cP P w K mg base 1 C "force" EQ (yL C):=by
 refine D.go oM (λvs H Q E h=>?_) (λf cdv A outer s H vs Q E hr h=>?_)
 ·obtain⟨x,lw,dx,n,us,rfl,_⟩:=h;rfl
 ·obtain⟨x,lw,dx,n,us,rfl,hx,hl,q⟩:=h;refine⟨_,(mk (sf (K:=K) (jp 0) (sj (zu (K:=K)) rfl T.b_len dU (lc (pi (K:=K) (jp 0)) li)))),?_⟩;refine⟨C,dx,_,.ref lw,hx,B.cl,B.nW,by kernel_rfl,_,.inl (QZc hl),?_⟩;refine⟨C,dx,_,hx,B.cl,B.nS,(by show 2<1000;decide),?_⟩;dsimp only;rw[show bK "safe_count" (.int us.length) (jf lw n)=jf lw us.length by kernel_rfl];exact q
def Li{C:TD}(T:Txt K mg)(B:JT K C)(D:MethAt K C "rows" "Journal.rows" dZ EQ):cP P w K mg base 1 C "rows" EQ (wE C):=by
 refine D.go pJ (λvs H Q E h=>?_) (λf cdv A outer s H vs Q E hr h=>?_)
 ·obtain⟨x,lw,dx,n,us,rfl,_⟩:=h;rfl
 ·obtain⟨x,lw,dx,n,us,rfl,hx,hl,q⟩:=h;refine⟨_,(mk (mz (yo (R.fm (K:=K)) rfl T.b_list pR (lc (pi (K:=K) (jp 0)) li)))),?_⟩;exact⟨C,dx,_,.ref lw,hx,B.cl,B.nW,by kernel_rfl,_,.inl (QZc hl),q⟩
def Lj{C:TD}(B:JT K C)(D:MethAt K C "safe" "Journal.safe" eB EQ):cP P w K mg base 1 C "safe" EQ (Ct C):=by
 refine D.go pK (λvs H Q E h=>?_) (λf cdv A outer s H vs Q E hr h=>?_)
 ·obtain⟨x,lw,dx,n,rfl,_⟩:=h;rfl
 ·obtain⟨x,lw,dx,n,rfl,hx,q⟩:=h;refine⟨_,(mk (mz (pi (K:=K) (jp 0)))),?_⟩;exact⟨C,dx,_,.int n,hx,B.cl,B.nS,by kernel_rfl,q⟩
structure Qd(K:W.Frag)(C:TD):Prop where
 cl:Cls K C
 nN:NoAttr K C "number"
 nA:NoAttr K C "asker"
 nK:NoAttr K C "key"
 nD:NoAttr K C "deed"
 nS:NoAttr K C "stage"
 nP:NoAttr K C "place"
 nU:NoAttr K C "undos"
structure Gm(K:W.Frag)(C:TD):Prop where
 cl:Cls K C
 nT:NoAttr K C "turn"
 nB:NoAttr K C "book"
 nS:NoAttr K C "standing"
 nR:NoAttr K C "runs"
 nN:NoAttr K C "next_number"
def Lk(C:TD):Sp:=λvs H Q _=>∃r:Rn,vs=[.ref r.p,.int r.n,.str r.q.1,.str r.q.2,.ref r.d,.str r.st]/\r.pl=0/\r.un=0/\H r.p=some (.ins C r.dx [])/\Q .non (aH H r.p (.ins C r.dx r.fs))
def Qe{C:TD}(B:Qd K C)(D:ClsAt K mg "Run" C "Run.__init__" cD DQ [[]]):∀d∈([[]]:List (List V)),wO P w K mg base 1 "Run" C DQ d (Lk C):=by
 refine D.go pL (λvs H Q E h=>?_) (λf cdv A outer s H vs Q E hr h=>?_)
 ·obtain⟨r,rfl,_⟩:=h;rfl
 ·obtain⟨⟨p,dx,n,q,d,x,st,pl,un⟩,rfl,rfl,rfl,hp,q0⟩:=h;refine⟨_,(lv (sf (K:=K) (jp 0) (jp 1)) (lv (sf (K:=K) (jp 0) (jp 2)) (lv (sf (K:=K) (jp 0) (jp 3)) (lv (sf (K:=K) (jp 0) (jp 4)) (lv (sf (K:=K) (jp 0) (jp 5)) (lv (sf (K:=K) (jp 0) lm) (mk (sf (K:=K) (jp 0) lm)))))))),?_⟩;refine⟨C,dx,[],hp,B.cl,B.nN,(by show 0<1000;decide),?_⟩;dsimp only;rw[show bK "number" (.int n) []=([("number",.int n)]:List (Str×V)) by kernel_rfl];refine⟨C,dx,_,aA,B.cl,B.nA,(by show 1<1000;decide),?_⟩;dsimp only;rw[iM,show bK "asker" (.str q.1) ([("number",.int n)]:List (Str×V))=([("number",.int n),("asker",.str q.1)]:List (Str×V)) by kernel_rfl];refine⟨C,dx,_,aA,B.cl,B.nK,(by show 2<1000;decide),?_⟩;dsimp only;rw[iM,show bK "key" (.str q.2) ([("number",.int n),("asker",.str q.1)]:List (Str×V))=([("number",.int n),("asker",.str q.1),("key",.str q.2)]:List (Str×V)) by kernel_rfl];refine⟨C,dx,_,aA,B.cl,B.nD,(by show 3<1000;decide),?_⟩;dsimp only;rw[iM,show bK "deed" (.ref d) ([("number",.int n),("asker",.str q.1),("key",.str q.2)]:List (Str×V))=([("number",.int n),("asker",.str q.1),("key",.str q.2),("deed",.ref d)]:List (Str×V)) by kernel_rfl];refine⟨C,dx,_,aA,B.cl,B.nS,(by show 4<1000;decide),?_⟩;dsimp only;rw[iM,show bK "stage" (.str st) ([("number",.int n),("asker",.str q.1),("key",.str q.2),("deed",.ref d)]:List (Str×V))=([("number",.int n),("asker",.str q.1),("key",.str q.2),("deed",.ref d),("stage",.str st)]:List (Str×V)) by kernel_rfl];refine⟨C,dx,_,aA,B.cl,B.nP,(by show 5<1000;decide),?_⟩;dsimp only;rw[iM,show bK "place" (.int 0) ([("number",.int n),("asker",.str q.1),("key",.str q.2),("deed",.ref d),("stage",.str st)]:List (Str×V))=([("number",.int n),("asker",.str q.1),("key",.str q.2),("deed",.ref d),("stage",.str st),("place",.int 0)]:List (Str×V)) by kernel_rfl];refine⟨C,dx,_,aA,B.cl,B.nU,(by show 6<1000;decide),?_⟩;dsimp only;rw[iM,show bK "undos" (.int 0) ([("number",.int n),("asker",.str q.1),("key",.str q.2),("deed",.ref d),("stage",.str st),("place",.int 0)]:List (Str×V))=([("number",.int n),("asker",.str q.1),("key",.str q.2),("deed",.ref d),("stage",.str st),("place",.int 0),("undos",.int 0)]:List (Str×V)) by kernel_rfl];exact q0
def Zj(r:Rn):List V:=[.int r.n,.str r.q.1,.str r.q.2,.ref r.d,.str r.st]
def Rx(C:TD):Sp:=λvs H Q _=>∃r:Rn,vs=[.ref r.p]/\H r.p=some (.ins C r.dx r.fs)/\∀t H',Same H H'->H' t=some (.tup (Zj r))->Q (.ref t) H'
def Wc{C:TD}(B:Qd K C)(D:MethAt K C "as_tuple" "Run.as_tuple" eC EQ):cP P w K mg base 1 C "as_tuple" EQ (Rx C):=by
 refine D.go pM (λvs H Q E h=>?_) (λf cdv A outer s H vs Q E hr h=>?_)
 ·obtain⟨r,rfl,_⟩:=h;rfl
 ·obtain⟨r,rfl,hp,q⟩:=h;refine⟨_,(mk (mz (pf (lc (pi (K:=K) (jp 0)) (lc (pi (K:=K) (jp 0)) (lc (pi (K:=K) (jp 0)) (lc (pi (K:=K) (jp 0)) (lc (pi (K:=K) (jp 0)) li)))))))),?_⟩;exact⟨C,_,_,.int r.n,hp,B.cl,B.nN,by kernel_rfl,C,_,_,.str r.q.1,hp,B.cl,B.nA,by kernel_rfl,C,_,_,.str r.q.2,hp,B.cl,B.nK,by kernel_rfl,C,_,_,.ref r.d,hp,B.cl,B.nD,by kernel_rfl,C,_,_,.str r.st,hp,B.cl,B.nS,by kernel_rfl,aT rfl,q⟩
def mP{rs:List Rn}(hu:rs.Pairwise λr r'=>r.n<r'.n){r:Rn}(hr:r∈rs):aV (aY rs) (Sum.inl (r.n:Int))=some (.ref r.p):=by
 induction rs with
 | nil=>cases hr
 | cons z zs ih=>
  obtain⟨h1,h2⟩:=pairwise_cons.mp hu;unfold aY;rw[map_cons];rcases mem_cons.mp hr with rfl|m
  ·exact bV rfl
  ·have r9:=h1 r m;rw[bR (λe=>by have e':(z.n:Int)=(r.n:Int):=Sum.inl.inj e;omega)];exact ih h2 m
def Fx{rs:List Rn}{n:Nat}(h:∀r∈rs,r.n<n):aV (aY rs) (Sum.inl (n:Int))=none:=by
 cases e:aV (aY rs) (Sum.inl (n:Int)) with
 | none=>rfl
 | some v=>
  have:=xU e;unfold aY at this;obtain⟨r,hr,e2⟩:=Zmm.mp this;have e3:(r.n:Int)=(n:Int):=Sum.inl.inj (congrArg Prod.fst e2);have:=h r hr;omega
def Fy{pre post:List Rn}{r:Rn}(hu:(pre++r::post).Pairwise λr r'=>r.n<r'.n):bI (aY (pre++r::post)) (Sum.inl (r.n:Int))=aY (pre++post):=by
 have h1:=pairwise_append.mp hu;have h2:=pairwise_cons.mp h1.2.1;unfold aY bI;rw[jM,map_cons,filter_append,filter_cons,IS Zs,jM]
 congr 1
 ·rw[filter_eq_self];intro kv PR;obtain⟨z,hz,rfl⟩:=Zmm.mp PR;have:=h1.2.2 z hz r mZ;exact UV λe=>by have e':(z.n:Int)=(r.n:Int):=Sum.inl.inj e;omega
 ·rw[filter_eq_self];intro kv PR;obtain⟨z,hz,rfl⟩:=Zmm.mp PR;have:=h2.1 z hz;exact UV λe=>by have e':(z.n:Int)=(r.n:Int):=Sum.inl.inj e;omega
def DAt.radd(h:DAt c H a s){r:Rn}(hp:H r.p=none)(hx:H r.dx=none)(j9:r.dx≠r.p)(hd:H r.d=some (.tup r.x.vs))(hu:∀r'∈s.runs,r'.n<r.n) :
  DAt c (aH (aH (aH H r.dx (.own r.p)) r.p (.ins c.R r.dx r.fs)) a.rn (.dK (aY (s.runs++[r])))) a {s with runs:=s.runs++[r] }/\Mv a s {s with runs:=s.runs++[r] } H (aH (aH (aH H r.dx (.own r.p)) r.p (.ins c.R r.dx r.fs)) a.rn (.dK (aY (s.runs++[r])))):=by
 have k1:Same H (aH (aH H r.dx (.own r.p)) r.p (.ins c.R r.dx r.fs)):=λb o e=>by rw[aE (aD e hp),aE (aD e hx)];exact e
 have g1:(aH (aH H r.dx (.own r.p)) r.p (.ins c.R r.dx r.fs)) r.p=some (.ins c.R r.dx r.fs):=aA;generalize aH (aH H r.dx (.own r.p)) r.p (.ins c.R r.dx r.fs)=H1 at k1 g1 ⊢;obtain⟨bs,ss,ho,d1,d2⟩:=h.own;have NI:=ho.get 10 rfl;have npr:r.p≠a.rn:=(aD NI hp).symm;have t:TK H (aH H1 a.rn (.dK (aY (s.runs++[r])))):=λb xs e=>by rw[aE (aQ e NI λz=>nomatch z)];exact k1 _ _ e
 have PU:=(ho.same k1).set 10 rfl (.dK (aY (s.runs++[r])));have hk:r.p∉((a.all c s bs ss).set 10 (a.rn,.dK (aY (s.runs++[r])))).map (·.1):=by
  rw[map_set];intro m;rcases List.mem_or_eq_of_mem_set m with z|z
  ·exact ho.keys hp z
  ·exact npr z
 have DY:=PU.snoc hk (o:=.ins c.R r.dx r.fs) (by rw[aE npr];exact g1);have e:(a.all c s bs ss).set 10 (a.rn,.dK (aY (s.runs++[r])))++[(r.p,.ins c.R r.dx r.fs)]=a.all c {s with runs:=s.runs++[r] } bs ss:=by
  unfold DA.all;show _=a.objs c {s with runs:=s.runs++[r] } bs ss++(s.runs++[r]).map (pO c);rw[jM,<- append_assoc];rfl
 rw[e]at DY;refine⟨⟨⟨bs,ss,DY,d1.keep t,d2.keep t⟩,h.nd,?_,λq hq=>?_⟩,⟨λb o z hb=>?_,λq hq=>?_,λb z=>?_⟩⟩
 ·exact pairwise_append.mpr ⟨h.up,Zs,λx hx y hy=>by rw[Zms.mp hy];exact hu x hx⟩
 ·rcases Zma.mp hq with m|m
  ·exact t _ _ (h.dd q m)
  ·rw[Zms.mp m];exact t _ _ hd
 ·rw[aE λw=>hb (by rw[w];simp[DA.fix])];exact k1 _ _ z
 ·rcases Zma.mp hq with m|m
  ·exact .inl (mem_map_of_mem m)
  ·rw[Zms.mp m];exact .inr hp
 ·by_cases q:b=a.rn
  ·rw[q,aA]at z;cases z
  ·rw[aE q]at z;exact Same.gr k1 b z
def DAt.rdrop{pre post:List Rn}{r:Rn}(h:DAt c H a s)(hs:s.runs=pre++r::post):DAt c (aH H a.rn (.dK (aY (pre++post)))) a {s with runs:=pre++post }/\Mv a s {s with runs:=pre++post } H (aH H a.rn (.dK (aY (pre++post)))):=by
 obtain⟨bs,ss,ho,d1,d2⟩:=h.own;have NI:=ho.get 10 rfl;have t:TK H (aH H a.rn (.dK (aY (pre++post)))):=cG NI λ_ z=>nomatch z
 have PU:=ho.set 10 rfl (.dK (aY (pre++post)));have sub:(pre++post).Sublist s.runs:=by rw[hs];exact List.Sublist.append_left (List.sublist_cons_self _ _) _
 have e:(a.all c s bs ss).set 10 (a.rn,.dK (aY (pre++post)))=a.objs c {s with runs:=pre++post } bs ss++s.runs.map (pO c):=rfl;rw[e]at PU;have DY:Own _ (a.all c {s with runs:=pre++post } bs ss):=PU.sub (List.Sublist.append_left (sub.map _) _);refine⟨⟨⟨bs,ss,DY,d1.keep t,d2.keep t⟩,h.nd,h.up.sublist sub,λq hq=>t _ _ (h.dd q (sub.subset hq))⟩,⟨λb o z hb=>?_,λq hq=>.inl (mem_map_of_mem (sub.subset hq)),λb z=>?_⟩⟩
 ·rw[aE λw=>hb (by rw[w];simp[DA.fix])];exact z
 ·by_cases q:b=a.rn
  ·rw[q,aA]at z;cases z
  ·rw[aE q]at z;exact z
def mQ(p dx:TD)(n:Nat)(q:Str×Str)(d:TD)(x:Dd)(st:Str):Rn:=⟨p,dx,n,q,d,x,st,0,0⟩
def Ry(c:CK):Sp:=λvs H Q _=>∃(a:DA)(s:DS)(n:Nat)(q:Str×Str)(d:TD)(x:Dd)(st:Str),vs=[.ref a.me,.int n,.str q.1,.str q.2,.ref d,.str st]/\DAt c H a s/\s.L<=500/\(∀n' d',s.m q≠some (.busy n' d'))/\H d=some (.tup x.vs)/\(∀r∈s.runs,r.n<n)/\s.runs.length<=500 ∧
 ∀p dx H',DAt c H' a {s with m:=s.m.set q (some (.busy n d)),L:=s.L+1,runs:=s.runs++[mQ p dx n q d x st] }->Mv a s {s with m:=s.m.set q (some (.busy n d)),L:=s.L+1,runs:=s.runs++[mQ p dx n q d x st] } H H'->Q .non H'
def Wd{c:CK}(BM:Gm K c.M)(vb:cP P w K mg base 1 c.Ks "begin" QZA (Cj c.Ks))(PV:wO P w K mg base 1 "Run" c.R DQ [] (Lk c.R))(D:MethAt K c.M "put" "Memory.put" fY DQ) :
  cP P w K mg base 3 c.M "put" DQ (Ry c):=by
 refine D.go rS (λvs H Q E h=>?_) (λf cdv A outer s H vs Q E hr h=>?_)
 ·obtain⟨a,s,n,q,d,x,st,rfl,_⟩:=h;rfl
 ·obtain⟨a,s,n,q,d,x,st,rfl,h,hL,hm,hd,hu,hl,q0⟩:=h;have c3:=cC hr;have tj:Room 1 _:=hr.mono Zd;have LD:=hr;refine⟨_,(lv (um (uh vb tj (pi (K:=K) (jp 0)) (lc (jp 2) (lc (jp 3) (lc (jp 1) (lc (jp 4) li)))))) (mk (yb (R.da PV LD rfl (lc (jp 1) (lc (jp 2) (lc (jp 3) (lc (jp 4) (lc (jp 5) li)))))) (yc (pi (K:=K) (jp 0)) (jp 1) (ye c3))))),?_⟩;refine⟨c.M,_,_,.ref a.ks,h.me,BM.cl,BM.nS,by kernel_rfl,a.kf.dx,_,h.ks,xV _ _ Zk Zk Zk,a.ks,a.kf,s.life,s.m,s.L,q,n,d,rfl,h.ky,hL,hm,λH1 k1 f1=>?_⟩;obtain⟨h1,v1⟩:=h.keys k1 f1;dsimp only [aK];intro p dx hp LF j9;refine⟨mQ p dx n q d x st,rfl,rfl,rfl,aA,rfl,?_⟩;obtain⟨h2,v2⟩:=h1.radd (r:=mQ p dx n q d x st) hp LF j9 (v1.tk h _ _ hd) hu;show Ta _ _ _ _ _ (aH (aH (aH H1 dx (.own p)) p (.ins c.R dx [])) p (.ins c.R dx (mQ p dx n q d x st).fs)) _;rw[iM];have gme:(aH (aH H1 dx (.own p)) p (.ins c.R dx (mQ p dx n q d x st).fs)) a.me=some (.ins c.M a.mx (mf a s.turn s.next)):=by rw[aE (aD h1.me hp),aE (aD h1.me LF)];exact h1.me
  have NI:(aH (aH H1 dx (.own p)) p (.ins c.R dx (mQ p dx n q d x st).fs)) a.rn=some (.dK (aY s.runs)):=by rw[aE (aD h1.rn hp),aE (aD h1.rn LF)];exact h1.rn
  refine⟨c.M,_,_,.ref a.rn,gme,BM.cl,BM.nR,by kernel_rfl,a.rn,_,rfl,DPut.k (k:=Sum.inl (n:Int)) NI (by unfold aY;rw[bP];exact rY hl Zd),?_⟩;rw[gM _ (Fx hu)];have e:aY s.runs++[(Sum.inl (n:Int),V.ref p)]=aY (s.runs++[mQ p dx n q d x st]):=by unfold aY;rw[jM];rfl
  rw[e];exact q0 p dx _ h2 (v1.trans v2)
def yM(c:CK):Sp:=λvs H Q _=>∃(a:DA)(s:DS)(q:Str×Str)(d:TD)(x:Dd),vs=[.ref a.me,.str q.1,.str q.2,.ref d]/\DAt c H a s/\s.L<=500/\(∀n' d',s.m q≠some (.busy n' d'))/\H d=some (.tup x.vs)/\(∀r∈s.runs,r.n<s.next)/\s.runs.length<=500 ∧
 ∀p dx H',DAt c H' a {s with m:=s.m.set q (some (.busy s.next d)),L:=s.L+1,runs:=s.runs++[mQ p dx s.next q d x "new"],next:=s.next+1 }->Mv a s {s with m:=s.m.set q (some (.busy s.next d)),L:=s.L+1,runs:=s.runs++[mQ p dx s.next q d x "new"],next:=s.next+1 } H H'->Q (.int s.next) H'
def Fz{c:CK}(BM:Gm K c.M)(vc:cP P w K mg base 3 c.M "put" DQ (Ry c))(D:MethAt K c.M "begin" "Memory.begin" eE QZx):cP P w K mg base 4 c.M "begin" QZx (yM c):=by
 refine D.go jI (λvs H Q E h=>?_) (λf cdv A outer s H vs Q E hr h=>?_)
 ·obtain⟨a,s,q,d,x,rfl,_⟩:=h;rfl
 ·obtain⟨a,s,q,d,x,rfl,h,hL,hm,hd,hu,hl,q0⟩:=h;have tm:=hr;refine⟨_,(lv (re (i:=4) jI.nd (pi (K:=K) (jp 0))) (lv (sf (K:=K) (jp 0) (o0 rq (jp 4) lm)) (lv (um (uh vc tm (jp 0) (lc (jp 4) (lc (jp 1) (lc (jp 2) (lc (jp 3) (lc ms li))))))) (mk (mz (jp 4)))))),?_⟩;refine⟨c.M,_,_,.int s.next,h.me,BM.cl,BM.nN,by kernel_rfl,?_⟩;dsimp only [aK];refine⟨c.M,a.mx,_,h.me,BM.cl,BM.nN,(by show 5<1000;decide),?_⟩;dsimp only;rw[show bK "next_number" (.int (s.next+1)) (mf a s.turn s.next)=mf a s.turn ((s.next+1:Nat):Int) by kernel_rfl];obtain⟨h1,v1⟩:=h.put (H':=aH H a.me (.ins c.M a.mx (mf a s.turn ((s.next+1:Nat):Int)))) 4 {s with next:=s.next+1 } (λ_ _=>rfl) (λ_ _=>rfl) aA (λb u e hb=>by rw[aE hb];exact e) rfl rfl h.nd rfl;generalize aH H a.me (.ins c.M a.mx (mf a s.turn ((s.next+1:Nat):Int)))=H1 at h1 v1 ⊢;refine⟨a.mx,_,h1.me,by kernel_rfl,a,_,s.next,q,d,x,"new",rfl,h1,hL,hm,v1.tk h _ _ hd,hu,hl,λp dx H2 h2 v2=>?_⟩;exact q0 p dx H2 h2 (v1.trans v2)
def fO:Dd->List Str
 | .add a _=>[a]
 | .take a _=>[a]
 | .move a b _=>mY [a,b]
 | .send _ a _=>[a]
 | .fetch _ a _=>[a]
 | .pass _ _ _ _=>[]
def Cu(x:Dd):∃tA one other nm n,yH one other nm n x.vs (.tp ((fO x).map sS)) tA:=by
 cases x with
 | add a n=>exact⟨_,a,a,a,_,.add⟩
 | take a n=>exact⟨_,a,a,a,_,.take⟩
 | move a b n=>exact⟨_,a,b,a,_,.move⟩
 | send g a n=>exact⟨_,g,a,a,_,.send⟩
 | fetch g a n=>exact⟨_,g,a,a,_,.fetch⟩
 | pass g g' a n=>exact⟨_,g,g',a,_,.pass⟩
def yN{H:Hp}{ss:List Str}{v:V}(h:RepT H 1 (.tp (ss.map sS)) v):∃z,v=.ref z/\H z=some (.tup (ss.map V.str)):=by
 obtain⟨z,xs,rfl,g,p⟩:=h;refine⟨z,rfl,?_⟩;have:∀ {ss:List Str}{xs:List V},Paired (RepT H 0) (ss.map sS) xs->xs=ss.map V.str:=by
  intro ss;induction ss with
  | nil=>intro xs h;cases h;rfl
  | cons t ts ih=>
   intro xs h;cases h with
   | cons h1 h2=>rw[ih h2,h1.1];rfl
 rw[g,this p]
def gT(x y:Dd):Bool:=(fO x).any λz=>decide (z∈fO y)
def bQ(r r':Rn):Bool:=!decide (r'.st="new")&&gT r.x r'.x
def yO(z:Str)(ss:List Str):lO (.str z) (ss.map V.str)=decide (z∈ss):=by
 induction ss with
 | nil=>rfl
 | cons s ss ih=>
  have e:lO (.str z) ((s::ss).map V.str)=(decide (s=z)||lO (.str z) (ss.map V.str)):=by
   unfold lO;rw[map_cons,any_cons];congr 1
  rw[e,ih,<- Bool.decide_or];congr 1;rw[mem_cons];exact propext ⟨λh=>h.imp Eq.symm id,λh=>h.imp Eq.symm id⟩
def Ga(x:Dd):(fO x).length<=2:=by
 cases x<;>simp[fO,lY]
def Ll(C:TD):Sp:=λvs H Q _=>∃(r r':Rn),vs=[.ref r.p,.ref r'.p]/\H r.p=some (.ins C r.dx r.fs)/\H r'.p=some (.ins C r'.dx r'.fs)/\H r.d=some (.tup r.x.vs)/\H r'.d=some (.tup r'.x.vs)/\∀H',Same H H'->Q (.bl (bQ r r')) H'
def Qg{C:TD}(T:Txt K mg)(B:Qd K C)(qf:aJ P w K mg base 1 "names_of" DU uB)(D:MethAt K C "is_held_up_by" "Run.is_held_up_by" bS QZS):cP P w K mg base 2 C "is_held_up_by" QZS (Ll C):=by
 refine D.go jW (λvs H Q E h=>?_) (λf cdv A outer s H vs Q E hr h=>?_)
 ·obtain⟨r,r',rfl,_⟩:=h;rfl
 ·obtain⟨r,r',rfl,hp,yw,hd,CF,q⟩:=h;have nj:=hr;refine⟨_,(lv (pc (nh se (pi (K:=K) (jp 1)) ms) (mk (mz uj)) ph) (mk (mz (sj (R.je (K:=K) rfl) rfl T.b_any Uz (lc (xy rfl (js:=[none,some 1]) (N:=["name","other"]) (CompScope.by (aB bS) QZS rfl rfl Zk) (aP rfl) (R.cu (K:=K) (pj qf nj rfl (lc (pi (K:=K) (jp 0)) li))) (λC s₂ H₂ fp=>⟨(pr (i:=0) (show(["name","other"]:List Str).Nodup by decide +kernel)),yd,(yk (R.cw (K:=K)) (jp 0) (pj qf nj rfl (lc (pi (K:=K) (jp 1)) li)))⟩)) li))))),?_⟩;refine⟨C,_,_,.str r'.st,yw,B.cl,B.nS,by kernel_rfl,?_⟩;show if decide (r'.st="new")=true then _ else _
  refine gV (λhb=>?_) (λhb=>?_)
  ·have h:=q H (Same.refl H);unfold bQ at h;rw[hb]at h;exact h
  ·obtain⟨tA,one,other,nm,n,hr1⟩:=Cu r.x;obtain⟨tA',dW',XN,nm',n',UE⟩:=Cu r'.x;refine⟨C,_,_,.ref r.d,hp,B.cl,B.nD,by kernel_rfl,r.d,_,_,_,_,_,_,_,rfl,hd,hr1,λv H1 s1 hv=>?_⟩;obtain⟨t,rfl,gt⟩:=yN hv;have hl:=Ga r.x;refine⟨t,rfl,⟨_,QZd gt⟩,?_⟩;refine bJ (iO K t ((fO r.x).map V.str)) (by rw[bP];omega) (λj ys H'=>ys=((fO r.x).take j).map (λz=>V.bl (decide (z∈fO r'.x)))/\Same H1 H') (λj ys H' ⟨e,s'⟩=>⟨QZd (s' _ _ gt),by rw[e,bP,mV];omega⟩) ⟨rfl,Same.refl _⟩ (?_) (?_)
   ·rintro j y ys H' hy ⟨e,s'⟩;rw[iK]at hy;obtain⟨z,hz,rfl⟩:=Option.map_eq_some_iff.mp hy;have k':=s1.trans s';dsimp only [aK];refine⟨C,_,_,.ref r'.d,k' _ _ yw,B.cl,B.nD,by kernel_rfl,r'.d,_,_,_,_,_,_,_,rfl,k' _ _ CF,UE,λv2 H2 s2 hv2=>?_⟩;obtain⟨t2,rfl,ER⟩:=yN hv2;refine⟨t2,_,rfl,.inr (QZd ER),rfl,by simp[dA],?_,s'.trans s2⟩;rw[aZ hz,jM,e];show _++[V.bl (lO (.str z) ((fO r'.x).map V.str))]=_;rw[yO];rfl
   ·rintro ys H' ⟨e,s'⟩;rw[bP,take_length]at e;intro l ES;refine⟨l,(fO r.x).map λz=>decide (z∈fO r'.x),rfl,QZc (by rw[aA,e,map_map];rfl),?_⟩;have h:=q _ ((s1.trans s').trans (aF (o:=.lst ys) ES));unfold bQ gT at h;rw[hb,Bool.not_false,Bool.true_and]at h;rw[List.any_map];exact h
def jZ:∀ {xs ys:List Int},xs.Pairwise (·<=·)->ys.Pairwise (·<=·)->xs.Perm ys->xs=ys
 | [],ys,_,_,p=>(nil_perm.mp p).symm
 | x::xs,[],_,_,p=>IQ (perm_nil.mp p) Zs
 | x::xs,y::ys,h1,h2,p=>by
  have a1:=pairwise_cons.mp h1;have a2:=pairwise_cons.mp h2;have e:x=y:=by
   have hx:x∈y::ys:=p.mem_iff.mp mZ;have hy:y∈x::xs:=p.mem_iff.mpr mZ;rcases mem_cons.mp hx with z|z
   ·exact z
   ·rcases mem_cons.mp hy with z'|z'
    ·exact z'.symm
    ·have:=a2.1 _ z;have:=a1.1 _ z';omega
  subst e;rw[jZ a1.2 a2.2 ((List.perm_cons x).mp p)]
def eR(s:DS)(r:Rn):List Rn:=s.runs.filter λr'=>bQ r r'
def Lm(c:CK):Sp:=λvs H Q _=>∃(a:DA)(s:DS)(pre post:List Rn)(r:Rn),vs=[.ref a.me,.ref r.p]/\DAt c H a s/\s.runs=pre++r::post/\s.runs.length<64 ∧
 (∀r' rest,eR s r=r'::rest->∀t H',Same H H'->H' t=some (.tup [.str "waits",.int r'.n])->Q (.ref t) H') ∧
 (eR s r=[]->∀t H',DAt c H' a {s with runs:=pre++{r with st:="held" }::post }->Mv a s {s with runs:=pre++{r with st:="held" }::post } H H'->H' t=some (.tup [.str "holds"])->Q (.ref t) H')
def Qh{c:CK}(T:Txt K mg)(BM:Gm K c.M)(BR:Qd K c.R)(T3:cP P w K mg base 2 c.R "is_held_up_by" QZS (Ll c.R))(D:MethAt K c.M "hold" "Memory.hold" dE BW):cP P w K mg base 3 c.M "hold" BW (Lm c):=by
 refine D.go jX (λvs H Q E h=>?_) (λf cdv A outer s H vs Q E hr h=>?_)
 ·obtain⟨a,s,pre,post,r,rfl,_⟩:=h;rfl
 ·obtain⟨a,s,pre,post,r,rfl,h,hs,hl,qw,q0⟩:=h;have c3:=cC hr;have P7:=hr;have j8:r∈s.runs:=by rw[hs];simp
  refine⟨_,(lv (R.de (i:=2) jX.nd rfl (Or.inl rfl) rfl (js:=[none,some 0,some 1]) (N:=["other","self","run"]) (CompScope.by (aB dE) ["self","run","holders"] rfl rfl Zk) (aP rfl) (uk (K:=K) (sj (R.dj rfl) rfl T.b_sorted eI (lc (pi (K:=K) (jp 0)) li))) (λC s₂ H₂ fp=>⟨(pr (i:=0) (show(["other","self","run"]:List Str).Nodup by decide +kernel)),(zr (v6 (uh T3 P7 (jp 2) (lc (rm c3 (pi (K:=K) (jp 1)) (jp 0)) li)))),(jp 0)⟩) rfl) (lv (pc (nh ym (sj (zu (K:=K)) rfl T.b_len dU (lc (jp 2) li)) lm) (mk (mz (pf (lc ms (lc (my (xz (K:=K)) (jp 2) lm) li))))) ph) (lv (sf (K:=K) (jp 1) ms) (mk (mz (pf (lc ms li))))))),?_⟩;refine⟨c.M,_,_,.ref a.rn,h.me,BM.cl,BM.nR,by kernel_rfl,s.runs.map λr=>(r.n:Int),_,.inl h.rn,by unfold aY;rw[map_map,map_map];rfl,by rw[bP];exact hl,λl ns ES hp LG=>⟨l,rfl,⟨_,QZc aA⟩,?_⟩⟩;have LH:ns=s.runs.map λr=>(r.n:Int):=jZ LG (pairwise_map.mpr (h.up.imp λz=>by omega)) hp
  subst LH;have k1:=aF (o:=.lst ((s.runs.map λr=>(r.n:Int)).map V.int)) ES;have gl:(aH H l (.lst ((s.runs.map λr=>(r.n:Int)).map V.int))) l=some (.lst ((s.runs.map λr=>(r.n:Int)).map V.int)):=aA;generalize aH H l (.lst ((s.runs.map λr=>(r.n:Int)).map V.int))=H1 at k1 gl ⊢;have eL:((s.runs.map λr=>(r.n:Int)).map V.int).length=s.runs.length:=by rw[bP,bP]
  have h1:=h.same k1;refine bJ (cA K l ((s.runs.map λr=>(r.n:Int)).map V.int)) (by rw[eL];omega) (λi ys H'=>Same H1 H'/\ys=((s.runs.take i).filter λr'=>bQ r r').map λr'=>V.int (r'.n:Int)) (λi ys H' ⟨e1,e2⟩=>⟨QZc (e1 _ _ gl),by rw[e2,bP];exact eS (length_filter_le _ _) (by rw[mV];omega)⟩) ⟨Same.refl _,rfl⟩ (?_) (?_)
  ·rintro i x ys H' hx ⟨e1,e2⟩;rw[map_map,iK]at hx;obtain⟨r',S7,rfl⟩:=Option.map_eq_some_iff.mp hx;have hm:=kS S7;have h2:=h1.same e1;dsimp only [aK];have dg:=DGet.k (k:=Sum.inl (r'.n:Int)) h2.rn;rw[mP h.up hm]at dg;refine⟨r.dx,_,h2.run j8,by kernel_rfl,c.M,_,_,.ref a.rn,h2.me,BM.cl,BM.nR,by kernel_rfl,a.rn,.ref r'.p,rfl,dg,r,r',rfl,h2.run j8,h2.run hm,h2.dd r j8,h2.dd r' hm,λH3 s3=>?_⟩;rw[aZ S7,filter_append,jM,e2];show if bQ r r'=true then _ else _
   refine gV (λhb=>?_) (λhb=>?_)
   ·exact⟨e1.trans s3,by rw[filter_cons,NE hb];rfl⟩
   ·exact⟨e1.trans s3,by rw[filter_cons,IS (by rw[hb];exact WP)];simp⟩
  ·rintro ys H' ⟨e1,e2⟩;rw[eL,take_length]at e2;intro l2 nr;dsimp only [aK];have k2:=(k1.trans e1).trans (aF (o:=.lst ys) nr);have yr:(aH H' l2 (.lst ys)) l2=some (.lst ys):=aA;generalize aH H' l2 (.lst ys)=H2 at k2 yr ⊢;have h2:=h.same k2;refine⟨_,.inl (QZc yr),?_⟩
   cases hh:eR s r with
   | nil=>
    have ey:ys=[]:=by rw[e2];show(eR s r).map _=_;rw[hh];rfl
    subst ey;refine⟨c.R,r.dx,_,h2.run j8,BR.cl,BR.nS,(by show 7<1000;decide),?_⟩;dsimp only;rw[show bK "stage" (.str "held") r.fs={r with st:="held" }.fs by kernel_rfl];obtain⟨h3,v3⟩:=h2.rput (r':={r with st:="held" }) hs rfl rfl rfl rfl;exact⟨aT rfl,λt H3 k3 gt=>q0 hh t H3 (h3.same k3) (((Mv.same k2).trans v3).trans (.same k3)) gt⟩
   | cons r' rest=>
    have ey:ys=.int (r'.n:Int)::rest.map λr'=>V.int (r'.n:Int):=by rw[e2];show(eR s r).map _=_;rw[hh];rfl
    subst ey;show if decide (0<((V.int (r'.n:Int)::rest.map λr'=>V.int (r'.n:Int)).length:Int))=true then _ else _
    refine lW (by rw[UV];simp) ?_;exact⟨_,QZc yr,.int (r'.n:Int),fQ (show(V.int (r'.n:Int)::_)[0]?=some _ from rfl),aT rfl,λt H3 k3 gt=>qw r' rest hh t H3 (k2.trans k3) gt⟩
def Ln(c:CK):Sp:=λvs H Q _=>∃(a:DA)(s:DS)(pre post:List Rn)(r:Rn)(w:Int)(z:TD)(y:An),vs=[.ref a.me,.int r.n,.int w,.ref z]/\DAt c H a s/\s.runs=pre++r::post/\H z=some (.tup y.vs)/\An.Of r.x y/\(∀q∈zA r.x y,Le s.prs q)/\s.prs.length<=90/\s.L<=500/\s.m r.q=some (.busy r.n r.d) ∧
 ∀t H',DAt c H' a {s with runs:=pre++post,prs:=jL s.prs (zA r.x y),m:=s.m.set r.q (some (.kept r.n w r.d z)),L:=s.L+1 }->Mv a s {s with runs:=pre++post,prs:=jL s.prs (zA r.x y),m:=s.m.set r.q (some (.kept r.n w r.d z)),L:=s.L+1 } H H'->H' t=some (.tup [.int r.n,.str r.q.1,.str r.q.2,.ref z])->Q (.ref t) H'
def Qi{c:CK}(BM:Gm K c.M)(BR:Qd K c.R)(BB:Ph K c.B)(K9:aJ P w K mg base 2 "changes_of" QZW Lc)(E8:cP P w K mg base 2 c.B "change" QZK (oP c.B))(tq:cP P w K mg base 2 c.Ks "settle" QZz (xW c.Ks))(D:MethAt K c.M "end" "Memory.end" fZ QZw) :
  cP P w K mg base 3 c.M "end" QZw (Ln c):=by
 refine D.go lB (λvs H Q E h=>?_) (λf cdv A outer s H vs Q E hr h=>?_)
 ·obtain⟨a,s,pre,post,r,w',z,y,rfl,_⟩:=h;rfl
 ·obtain⟨a,s,pre,post,r,w',z,y,rfl,h,hs,hz,PX,hg,PY,hL,hm,q0⟩:=h;have E9:=hr;have B4:=hr;have qg:=hr;have j8:r∈s.runs:=by rw[hs];simp
  refine⟨_,(lv (re (i:=4) lB.nd (R.fh (pi (K:=K) (jp 0)) (jp 1))) (lv (um (uh E8 B4 (pi (K:=K) (jp 0)) (lc (pj K9 E9 rfl (lc (pi (K:=K) (jp 4)) (lc (jp 3) li))) li))) (lv (um (uh tq qg (pi (K:=K) (jp 0)) (lc (pi (K:=K) (jp 4)) (lc (pi (K:=K) (jp 4)) (lc (jp 2) (lc (jp 3) li)))))) (mk (mz (pf (lc (jp 1) (lc (pi (K:=K) (jp 4)) (lc (pi (K:=K) (jp 4)) (lc (jp 3) li)))))))))),?_⟩;refine⟨c.M,_,_,.ref a.rn,h.me,BM.cl,BM.nR,by kernel_rfl,a.rn,rfl,.inl ⟨_,.inl h.rn⟩,_,Sum.inl (r.n:Int),.ref r.p,h.rn,rfl,mP h.up j8,?_⟩;rw[hs,Fy (by rw[<- hs];exact h.up)];obtain⟨h1,v1⟩:=h.rdrop hs;have nrp:r.p≠a.rn:=aQ (h.run j8) h.rn λz=>nomatch z
  have UG:(aH H a.rn (.dK (aY (pre++post)))) r.p=some (.ins c.R r.dx r.fs):=by rw[aE nrp];exact h.run j8
  have OX:=v1.tk h _ _ hz;have CO:=v1.tk h _ _ (h.dd r j8);generalize aH H a.rn (.dK (aY (pre++post)))=H1 at h1 v1 UG OX CO ⊢;dsimp only [aK];refine⟨c.M,_,_,.ref a.bk,h1.me,BM.cl,BM.nB,by kernel_rfl,a.bx,_,h1.bk,by kernel_rfl,c.R,_,_,.ref r.d,UG,BR.cl,BR.nD,by kernel_rfl,r.d,z,r.x,y,rfl,CO,OX,PX,λtp zs H2 s2 gtp EC JH=>?_⟩;have h2:=h1.same s2;have HC:zs.length<=2:=by
   have:=congrArg length JH;rw[bP]at this;rw[this];cases r.x<;>cases y<;>simp[zA]
  refine⟨a.bk,a.bx,a.bd,tp,s.prs,zs,rfl,h2.bk,h2.bd,h.nd,gtp,EC,Zo,by rw[JH];exact hg,λH3 g3 k3=>?_⟩;rw[JH]at g3;obtain⟨h3,v3⟩:=h2.put (H':=H3) 6 {s with runs:=pre++post,prs:=jL s.prs (zA r.x y) } (λ_ _=>rfl) (λ_ _=>rfl) g3 k3 rfl rfl (pT _ _ h.nd) rfl;have PZ:=k3 _ _ (s2 _ _ UG) (aQ (s2 _ _ UG) h2.bd λz=>nomatch z);refine⟨c.M,_,_,.ref a.ks,h3.me,BM.cl,BM.nS,by kernel_rfl,a.kf.dx,_,h3.ks,xV _ _ Zk Zk Zk,c.R,_,_,.str r.q.1,PZ,BR.cl,BR.nA,by kernel_rfl,c.R,_,_,.str r.q.2,PZ,BR.cl,BR.nK,by kernel_rfl,a.ks,a.kf,s.life,s.m,s.L,r.q,r.n,r.d,w',z,rfl,h3.ky,hL,hm,λH4 k4 f4=>?_⟩;obtain⟨h4,v4⟩:=h3.keys k4 f4;have UH:H4 r.p=some (.ins c.R r.dx r.fs):=by
   have e:=h3.ky;obtain⟨b1,e1,_⟩:=e.hb;obtain⟨b2,e2,_⟩:=e.hs;exact f4 _ _ PZ (aQ PZ e1 λz=>nomatch z) (aQ PZ e2 λz=>nomatch z)
  refine⟨c.R,_,_,.str r.q.1,UH,BR.cl,BR.nA,by kernel_rfl,c.R,_,_,.str r.q.2,UH,BR.cl,BR.nK,by kernel_rfl,aT rfl,λt H5 s5 gt=>q0 t H5 (h4.same s5) ((((v1.trans (.same s2)).trans v3).trans v4).trans (.same s5)) gt⟩
def Own.rev{H:Hp}{L:List (TD×HO)}(h:Own H L):Own H L.reverse:=⟨by rw[List.map_reverse];exact List.pairwise_reverse.mpr (h.1.imp λz=>Ne.symm z),λq hq=>h.2 q (List.mem_reverse.mp hq)⟩
structure Gw(p:TD)(H0:Hp)(L:List (TD×HO))(H:Hp):Prop where
 own:Own H L
 fr:∀c o,H0 c=some o->c≠p->H c=some o
 nw:∀q∈L,q.1=p∨H0 q.1=none
 hp:∃o,H p=some o
section
variable {p:TD}{H0 H H':Hp}{L:List (TD×HO)}
def Gw.free(g:Gw p H0 L H){b:TD}(hb:H b=none):H0 b=none:=by
 obtain⟨o,e⟩:=g.hp
 cases z:H0 b with
 | none=>rfl
 | some u=>rw[g.fr b u z (λw=>by rw[w,e]at hb;cases hb)]at hb;cases hb
def Gw.same(g:Gw p H0 L H)(k:Same H H'):Gw p H0 L H':=⟨g.own.same k,λc o e n=>k _ _ (g.fr c o e n),g.nw,let ⟨o,e⟩:=g.hp;⟨o,k _ _ e⟩⟩
def Gw.set(g:Gw p H0 L H)(i:Nat){o:HO}(e:L[i]?=some (p,o))(o':HO):Gw p H0 (L.set i (p,o')) (aH H p o'):=
 ⟨g.own.set i e o',λc u z n=>by rw[aE n];exact g.fr c u z n,λq hq=>(List.mem_or_eq_of_mem_set hq).elim (g.nw q) λz=>.inl (by rw[z]),⟨o',aA⟩⟩
def Gw.add(g:Gw p H0 L H)(M:List (TD×HO))(k:Same H H')(hn:(M.map (·.1)).Nodup)(hM:∀q∈M,H q.1=none/\H' q.1=some q.2):Gw p H0 (M++L) H':=by
 have g':=g.same k;refine⟨⟨?_,λq hq=>(Zma.mp hq).elim (λm=>(hM q m).2) (g'.own.2 q)⟩,g'.fr,λq hq=>(Zma.mp hq).elim (λm=>.inr (g.free (hM q m).1)) (g.nw q),g'.hp⟩;rw[jM];refine nodup_append.mpr ⟨hn,g.own.1,λx hx y hy e=>?_⟩;obtain⟨q,hq,rfl⟩:=Zmm.mp hx;exact g.own.keys (hM q hq).1 (by rw[e];exact hy)
def Gw.add1(g:Gw p H0 L H){b:TD}(o:HO)(hb:H b=none):Gw p H0 ((b,o)::L) (aH H b o):=g.add [(b,o)] (aF hb) Zs (λq hq=>by rw[Zms.mp hq];exact⟨hb,aA⟩)
end
def Rz(c:CK):Sp:=λvs H Q _=>∃(p dx:TD)(life:Int)(t b l o:TD),vs=[.ref p,.int life,.int 0,.ref t]/\H p=some (.ins c.M dx [])/\H t=some (.tup [.ref b,.ref l,.ref o,.int 1,.int 0])/\H b=some (.lst [])/\H l=some (.lst [])/\H o=some (.lst []) ∧
 ∀(bk bx bd ks rn:TD)(kf:KF)(bs ss:List (List bC×V))(H':Hp),Gw p H [(rn,.dK []),(kf.ds,.dT ss),(kf.db,.dT bs),(ks,.ins c.Ks kf.dx (Cg kf life)),(bd,.dK (fM [])),(bk,.ins c.B bx [("amounts",.ref bd)]),(p,.ins c.M dx [("turn",.int 0),("book",.ref bk),("standing",.ref ks),("runs",.ref rn),("next_number",.int 1)])] H' →
  Dic H' bs (λ_=>none) fB 0->Dic H' ss (λ_=>none) fS 0->Q .non H'
def We{c:CK}(BM:Gm K c.M)(AM:wO P w K mg base 1 "Book" c.B QZZ [] (vT c.B))(LJ:wO P w K mg base 1 "Keys" c.Ks QZV [] (Ch c.Ks))(D:ClsAt K mg "Memory" c.M "Memory.__init__" bN QZJ [[]]) :
  ∀d∈([[]]:List (List V)),wO P w K mg base 3 "Memory" c.M QZJ d (Rz c):=by
 refine D.go aL (λvs H Q E h=>?_) (λf cdv A outer s H vs Q E hr h=>?_)
 ·obtain⟨p,dx,life,t,b,l,o,rfl,_⟩:=h;rfl
 ·obtain⟨p,dx,life,t,b,l,o,rfl,hp,ht,hb,hl,ho,q⟩:=h;have ux:=hr;have HX:=hr;refine⟨_,(lv (sf (K:=K) (jp 0) (jp 2)) (lv (sf (K:=K) (jp 0) (R.da AM ux rfl (lc (my (ng (K:=K)) (jp 3) lm) li))) (lv (sf (K:=K) (jp 0) (R.da LJ HX rfl (lc (jp 1) li))) (lv (sf (K:=K) (jp 0) AA) (lv (sf (K:=K) (jp 0) (my (ng (K:=K)) (jp 3) lm)) (lv (ya PassesOwn.never rfl (uk (K:=K) (my (ng (K:=K)) (jp 3) lm)) (zv (K:=K) (n:=6) rfl (ui (pr (i:=4) aL.nd) (ui (pr (i:=5) aL.nd) (ui (pr (i:=6) aL.nd) (ui (pr (i:=7) aL.nd) (ui (pr (i:=8) aL.nd) (ui (pr (i:=9) aL.nd) zw))))))) (lv wv (mk wv))) (mk (ya PassesOwn.never rfl (uk (K:=K) (my (ng (K:=K)) (jp 3) lm)) (zv (K:=K) (n:=4) rfl (ui (pr (i:=4) aL.nd) (ui (pr (i:=6) aL.nd) (ui (pr (i:=7) aL.nd) (ui (pr (i:=8) aL.nd) zw))))) (mk wv))))))))),?_⟩;have g0:Gw p H [(p,.ins c.M dx [])] H:=⟨⟨Zs,λq hq=>by rw[Zms.mp hq];exact hp⟩,λ_ _ e _=>e,λq hq=>.inl (by rw[Zms.mp hq]),⟨_,hp⟩⟩;have UI:t≠p:=aQ ht hp λz=>nomatch z
  have nbp:b≠p:=aQ hb hp λz=>nomatch z
  have XQ:l≠p:=aQ hl hp λz=>nomatch z
  have nop:o≠p:=aQ ho hp λz=>nomatch z
  refine⟨c.M,dx,[],hp,BM.cl,BM.nT,(by show 0<1000;decide),?_⟩;dsimp only;rw[show bK "turn" (.int 0) []=([("turn",.int 0)]:List (Str×V)) by kernel_rfl];have g1:=g0.set 0 rfl (.ins c.M dx [("turn",.int 0)]);generalize aH H p (.ins c.M dx [("turn",.int 0)])=H1 at g1 ⊢;refine⟨_,QZd (g1.fr _ _ ht UI),_,rfl,λbk bx HY KZ j9=>?_⟩;have nb:H1 b=some (.lst []):=g1.fr _ _ hb nbp;refine⟨bk,bx,_,[],rfl,aA,.inr ⟨b,[],rfl,by rw[aE (aD nb HY),aE (aD nb KZ)];exact nb,(λ_ h=>nomatch h),rfl⟩,nodup_nil,Zs,λH2 bd HD gbk gbd k2=>⟨rfl,?_⟩⟩;have s2:Same H1 H2:=λc o e=>k2 _ _ (by rw[aE (aD e HY),aE (aD e KZ)];exact e) (aD e HY)
  have XR:H1 bd=none:=by
   cases e:H1 bd with
   | none=>rfl
   | some u=>rw[aE (aD e HY),aE (aD e KZ),e]at HD;cases HD
  have nbk:bd≠bk:=aQ gbd gbk λz=>nomatch z
  have g2:=g1.add [(bd,.dK (fM [])),(bk,.ins c.B bx [("amounts",.ref bd)])] s2 (by simp [nbk]) (λq hq=>by
   simp only [mem_cons,FM,or_false]at hq;rcases hq with rfl|rfl
   ·exact⟨XR,gbd⟩
   ·exact⟨HY,gbk⟩)
  refine⟨c.M,dx,_,g2.own.get 2 rfl,BM.cl,BM.nB,(by show 1<1000;decide),?_⟩;dsimp only;rw[show bK "book" (.ref bk) ([("turn",.int 0)]:List (Str×V))=([("turn",.int 0),("book",.ref bk)]:List (Str×V)) by kernel_rfl];have g3:=g2.set 2 rfl (.ins c.M dx [("turn",.int 0),("book",.ref bk)]);generalize aH H2 p (.ins c.M dx [("turn",.int 0),("book",.ref bk)])=H3 at g3 ⊢;intro ks kx KN hkx hnk;refine⟨ks,kx,life,rfl,aA,λH4 kf fdb fds ky k4=>⟨rfl,?_⟩⟩;have s4:Same H3 H4:=λc o e=>k4 _ _ (by rw[aE (aD e KN),aE (aD e hkx)];exact e) (aD e KN)
  have IV:∀d,(aH (aH H3 kx (.own ks)) ks (.ins c.Ks kx [])) d=none->H3 d=none:=λd hd=>by
   cases e:H3 d with
   | none=>rfl
   | some u=>rw[aE (aD e KN),aE (aD e hkx),e]at hd;cases hd
  obtain⟨bs,gdb,db⟩:=ky.hb;obtain⟨ss,gds,ds⟩:=ky.hs;have n1:kf.ds≠kf.db:=ky.ne.symm;have n2:kf.ds≠ks:=aQ gds ky.hp λz=>nomatch z
  have n3:kf.db≠ks:=aQ gdb ky.hp λz=>nomatch z
  have g4:=g3.add [(kf.ds,.dT ss),(kf.db,.dT bs),(ks,.ins c.Ks kf.dx (Cg kf life))] s4 (by simp [n1,n2,n3]) (λq hq=>by
   simp only [mem_cons,FM,or_false]at hq;rcases hq with rfl|rfl|rfl
   ·exact⟨IV _ fds,gds⟩
   ·exact⟨IV _ fdb,gdb⟩
   ·exact⟨KN,ky.hp⟩)
  refine⟨c.M,dx,_,g4.own.get 5 rfl,BM.cl,BM.nS,(by show 2<1000;decide),?_⟩;dsimp only;rw[show bK "standing" (.ref ks) ([("turn",.int 0),("book",.ref bk)]:List (Str×V))=([("turn",.int 0),("book",.ref bk),("standing",.ref ks)]:List (Str×V)) by kernel_rfl];have g5:=g4.set 5 rfl (.ins c.M dx [("turn",.int 0),("book",.ref bk),("standing",.ref ks)]);have t5:TK H4 (aH H4 p (.ins c.M dx [("turn",.int 0),("book",.ref bk),("standing",.ref ks)])):=cG (g4.own.get 5 rfl) λ_ z=>nomatch z
  generalize aH H4 p (.ins c.M dx [("turn",.int 0),("book",.ref bk),("standing",.ref ks)])=H5 at g5 t5 ⊢;intro rn QA;have g6:=g5.add1 (.dK []) QA;have t6:=t5.trans (TK.of (aF (o:=.dK []) QA));generalize aH H5 rn (.dK [])=H6 at g6 t6 ⊢;refine⟨c.M,dx,_,g6.own.get 6 rfl,BM.cl,BM.nR,(by show 3<1000;decide),?_⟩;dsimp only;rw[show bK "runs" (.ref rn) ([("turn",.int 0),("book",.ref bk),("standing",.ref ks)]:List (Str×V))=([("turn",.int 0),("book",.ref bk),("standing",.ref ks),("runs",.ref rn)]:List (Str×V)) by kernel_rfl];have g7:=g6.set 6 rfl (.ins c.M dx [("turn",.int 0),("book",.ref bk),("standing",.ref ks),("runs",.ref rn)]);have t7:=t6.trans (cG (g6.own.get 6 rfl) (o':=.ins c.M dx [("turn",.int 0),("book",.ref bk),("standing",.ref ks),("runs",.ref rn)]) λ_ z=>nomatch z);generalize aH H6 p (.ins c.M dx [("turn",.int 0),("book",.ref bk),("standing",.ref ks),("runs",.ref rn)])=H7 at g7 t7 ⊢;refine⟨_,QZd (g7.fr _ _ ht UI),_,rfl,?_⟩;refine⟨c.M,dx,_,g7.own.get 6 rfl,BM.cl,BM.nN,(by show 4<1000;decide),?_⟩;dsimp only;rw[show bK "next_number" (.int 1) ([("turn",.int 0),("book",.ref bk),("standing",.ref ks),("runs",.ref rn)]:List (Str×V))=([("turn",.int 0),("book",.ref bk),("standing",.ref ks),("runs",.ref rn),("next_number",.int 1)]:List (Str×V)) by kernel_rfl];have g8:=g7.set 6 rfl (.ins c.M dx [("turn",.int 0),("book",.ref bk),("standing",.ref ks),("runs",.ref rn),("next_number",.int 1)]);have t8:=t7.trans (cG (g7.own.get 6 rfl) (o':=.ins c.M dx [("turn",.int 0),("book",.ref bk),("standing",.ref ks),("runs",.ref rn),("next_number",.int 1)]) λ_ z=>nomatch z);generalize aH H7 p (.ins c.M dx [("turn",.int 0),("book",.ref bk),("standing",.ref ks),("runs",.ref rn),("next_number",.int 1)])=H8 at g8 t8 ⊢;have UJ:=g8.fr _ _ hl XQ;have go8:=g8.fr _ _ ho nop;refine⟨_,QZd (g8.fr _ _ ht UI),_,rfl,l,rfl,⟨_,QZc UJ⟩,?_⟩;refine pU (tb:=λ_ _ _=>False) (QZc UJ) ?_;refine⟨_,QZd (g8.fr _ _ ht UI),_,rfl,o,rfl,⟨_,QZc go8⟩,?_⟩;exact pU (tb:=λ_ _ _=>False) (QZc go8) (q bk bx bd ks rn kf bs ss H8 g8 (db.keep t8) (ds.keep t8))
def Lo{z a:Str}{n:Int}(hz:z="add"∨z="take")(ha:isNm a)(h1:1<=n)(h2:n<=1000000000000):kX [.str z,.str a,.int n]=true:=(DeedIs.one z a n hz ha h1 h2).ok
def Lp{z a b:Str}{n:Int}(hz:z="send"∨z="fetch")(ha:isNm a)(hb:isNm b)(h1:1<=n)(h2:n<=1000000000000):kX [.str z,.str a,.str b,.int n]=true:=by
 show(fG (.str z) [.str a,.str b]&&xM 1 1000000000000 (.int n))=true;have e:fG (.str z) [.str a,.str b]=true:=by
  rcases hz with rfl|rfl
  all_goals
   show(true&&(tK (.str a)&&(tK (.str b)&&true))&&(true||_))=true;rw[gO ha,gO hb];rfl
 rw[e];show(decide (1<=n)&&decide (n<=1000000000000))=true;rw[UV h1,UV h2];rfl
def Qj{x:Dd}(h:x.Ok):kX x.vs=true:=by
 cases x with
 | add a n=>exact Lo (.inl rfl) h.1 (by have:=h.2.1;omega) (by have:=h.2.2;omega)
 | take a n=>exact Lo (.inr rfl) h.1 (by have:=h.2.1;omega) (by have:=h.2.2;omega)
 | move a b n=>exact(DeedIs.two "move" a b n (.inl rfl) h.1 h.2.1 h.2.2.1 (by have:=h.2.2.2.1;omega) (by have:=h.2.2.2.2;omega)).ok
 | send g a n=>exact Lp (.inl rfl) h.1 h.2.1 (by have:=h.2.2.1;omega) (by have:=h.2.2.2;omega)
 | fetch g a n=>exact Lp (.inr rfl) h.1 h.2.1 (by have:=h.2.2.1;omega) (by have:=h.2.2.2;omega)
 | pass g g' a n=>exact(DeedIs.three g g' a n h.1 h.2.1 h.2.2.1 h.2.2.2.1 (by have:=h.2.2.2.2.1;omega) (by have:=h.2.2.2.2.2;omega)).ok
def Zl{z:Str}(h:isKy z):eJ (.str z) (LET++Rj) 12=true:=by
 rw[gN,UV (by have:=h.1;omega),UV (by have:=h.2.1;omega),all_eq_true.mpr λc hc=>UV (show c∈LET++Rj from h.2.2 c hc)];rfl
def cV{H:Hp}{z:Str}(h:z.length<=1000):Pt H (.str z):=⟨.str,trivial,λy e=>by cases e;exact h⟩
def oQ{H:Hp}{n:Int}:Pt H (.int n):=⟨.int,trivial,λy e=>nomatch e⟩
def Zm{H:Hp}{d:TD}{x:Dd}(h:x.Ok)(g:H d=some (.tup x.vs)):Th H (.ref d):=by
 refine⟨⟨.tup,⟨_,g⟩,λy e=>nomatch e⟩,λa xs e g' y hy=>?_⟩;cases e;rw[g]at g';cases g';obtain⟨w1,w2,w3,w4,w5,w6⟩:=Jh;cases x<;>simp only [Dd.vs,mem_cons,FM,or_false]at hy
 case add=>rcases hy with rfl|rfl|rfl<;>first|exact oQ|exact cV w1|exact cV h.1.len
 case take=>rcases hy with rfl|rfl|rfl<;>first|exact oQ|exact cV w2|exact cV h.1.len
 case move=>rcases hy with rfl|rfl|rfl|rfl<;>first|exact oQ|exact cV w3|exact cV h.1.len|exact cV h.2.1.len
 case send=>rcases hy with rfl|rfl|rfl|rfl<;>first|exact oQ|exact cV w4|exact cV h.1.len|exact cV h.2.1.len
 case fetch=>rcases hy with rfl|rfl|rfl|rfl<;>first|exact oQ|exact cV w5|exact cV h.1.len|exact cV h.2.1.len
 case pass=>rcases hy with rfl|rfl|rfl|rfl|rfl<;>first|exact oQ|exact cV w6|exact cV h.1.len|exact cV h.2.1.len|exact cV h.2.2.1.len
structure Qk(K:W.Frag)(C:TD):Prop where
 cl:Cls K C
 nN:NoAttr K C "name"
 nL:NoAttr K C "life"
 nH:NoAttr K C "houses"
 nJ:NoAttr K C "journal"
 nM:NoAttr K C "memory"
def ds0(name:Str)(life:Int)(hs:List (bC×V)):DS:=⟨name,life,0,1,hs,[],λ_=>none,0,[],[],0⟩
def Cv(c:CK):Sp:=λvs H Q _=>∃(p dx l:TD)(name:Str)(life:Int)(zs:List W),vs=[.ref p,.str name,.int life,.ref l]/\H p=some (.ins c.D dx [])/\isNm name/\name.length<=5/\H l=some (.lst (zs.map λz=>V.ref z.1))/\WAt H zs/\zs.length<=6 ∧
 ∀(a:DA)(H':Hp),a.dr=p->DAt c H' a (ds0 name life (cS [] (zs.map (·.2))))->(∀b∈a.fix,b=p∨H b=none)->(∀b o,H b=some o->b≠p->H' b=some o)->Q .non H'
def Lq{c:CK}(T:Txt K mg)(BD:Qk K c.D)(J8:aJ P w K mg base 2 "is_name" DT (oA LET 8))(AO:wO P w K mg base 2 "Journal" c.J QZT [.str ("":Str)] (Rw c.J))(HZ:aJ P w K mg base 5 "risen" CB Lh)(ET:wO P w K mg base 3 "Memory" c.M QZJ [] (Rz c))(D:ClsAt K mg "Door" c.D "Door.__init__" bY QZR [[]]):∀d∈([[]]:List (List V)),wO P w K mg base 6 "Door" c.D QZR d (Cv c):=by
 refine D.go oN (λvs H Q E h=>?_) (λf cdv A outer s H vs Q E hr h=>?_)
 ·obtain⟨p,dx,l,name,life,zs,rfl,_⟩:=h;rfl
 ·obtain⟨p,dx,l,name,life,zs,rfl,hp,zc,hn5,hl,EC,HC,q⟩:=h;have B3:Room 2 _:=hr.mono Zd;have AQ:Room 3 _:=hr.mono Zd;have EU:Room 5 _:=hr;have DB:Room 4 _:=hr.mono Zd;refine⟨_,(lv (pc (u8 (yi (ww (v6 (pj J8 B3 rfl (lc (jp 1) li)))) (yj (nh ym (sj R.dm rfl T.b_len dU (lc (jp 1) li)) (R.gI rfl T.g_LONGEST_DOOR_NAME))))) (mk wv) ph) (lv (sf (K:=K) (jp 0) (jp 1)) (lv (sf (K:=K) (jp 0) (jp 2)) (lv (sf (K:=K) (jp 0) (yo (R.eh (K:=K) rfl) rfl T.b_dict Bs (lc (jp 3) li))) (lv (sf (K:=K) (jp 0) (R.ip AO AQ rfl)) (mk (sf (K:=K) (jp 0) (R.da ET DB rfl (lc (jp 2) (lc lm (lc (pj HZ EU rfl (lc (uo li) li)) li))))))))))),?_⟩;refine⟨.str name,.str,rfl,trivial,λz e=>by cases e;exact zc.len,λH1 s1=>?_⟩;rw[show eJ (.str name) LET 8=true from gO zc];refine⟨lH zc.len,?_⟩;refine fR (by rw[UF];omega) ?_;have g0:Gw p H [(p,.ins c.D dx [])] H1:=⟨⟨Zs,λq hq=>by rw[Zms.mp hq];exact s1 _ _ hp⟩,λ_ _ e _=>s1 _ _ e,λq hq=>.inl (by rw[Zms.mp hq]),⟨_,s1 _ _ hp⟩⟩;dsimp only [cK];refine⟨c.D,dx,_,s1 _ _ hp,BD.cl,BD.nN,(by show 0<1000;decide),?_⟩;dsimp only;rw[show bK "name" (.str name) []=([("name",.str name)]:List (Str×V)) by kernel_rfl];have g1:=g0.set 0 rfl (.ins c.D dx [("name",.str name)]);generalize aH H1 p (.ins c.D dx [("name",.str name)])=H2 at g1 ⊢;refine⟨c.D,dx,_,g1.own.get 0 rfl,BD.cl,BD.nL,(by show 1<1000;decide),?_⟩;dsimp only;rw[show bK "life" (.int life) ([("name",.str name)]:List (Str×V))=([("name",.str name),("life",.int life)]:List (Str×V)) by kernel_rfl];have g2:=g1.set 0 rfl (.ins c.D dx [("name",.str name),("life",.int life)]);generalize aH H2 p (.ins c.D dx [("name",.str name),("life",.int life)])=H3 at g2 ⊢;have XQ:l≠p:=aQ hl hp λz=>nomatch z
  refine⟨zs,QZc (g2.fr _ _ hl XQ),λz hz=>g2.fr _ _ (EC z hz) (aQ (EC z hz) hp λz=>nomatch z),Zo,λhd hhd=>?_⟩;have g3:=g2.add1 (.dK (cS [] (zs.map (·.2)))) hhd;generalize aH H3 hd (.dK (cS [] (zs.map (·.2))))=H4 at g3 ⊢;refine⟨c.D,dx,_,g3.own.get 1 rfl,BD.cl,BD.nH,(by show 2<1000;decide),?_⟩;dsimp only;rw[show bK "houses" (.ref hd) ([("name",.str name),("life",.int life)]:List (Str×V))=([("name",.str name),("life",.int life),("houses",.ref hd)]:List (Str×V)) by kernel_rfl];have g4:=g3.set 1 rfl (.ins c.D dx [("name",.str name),("life",.int life),("houses",.ref hd)]);generalize aH H4 p (.ins c.D dx [("name",.str name),("life",.int life),("houses",.ref hd)])=H5 at g4 ⊢;intro j jx hj hjx hjn;refine⟨j,jx,rfl,aA,λH6 jl WO gj gjl k6=>⟨rfl,?_⟩⟩;have s6:Same H5 H6:=λc o e=>k6 _ _ (by rw[aE (aD e hj),aE (aD e hjx)];exact e) (aD e hj)
  have XU:H5 jl=none:=by
   cases e:H5 jl with
   | none=>rfl
   | some u=>rw[aE (aD e hj),aE (aD e hjx),e]at WO;cases WO
  have njl:jl≠j:=aQ gjl gj λz=>nomatch z
  have g5:=g4.add [(jl,.lst []),(j,.ins c.J jx (jf jl 0))] s6 (by simp [njl]) (λq hq=>by
   simp only [mem_cons,FM,or_false]at hq;rcases hq with rfl|rfl
   ·exact⟨XU,gjl⟩
   ·exact⟨hj,gj⟩)
  refine⟨c.D,dx,_,g5.own.get 3 rfl,BD.cl,BD.nJ,(by show 3<1000;decide),?_⟩;dsimp only;rw[show bK "journal" (.ref j) ([("name",.str name),("life",.int life),("houses",.ref hd)]:List (Str×V))=([("name",.str name),("life",.int life),("houses",.ref hd),("journal",.ref j)]:List (Str×V)) by kernel_rfl];have g6:=g5.set 3 rfl (.ins c.D dx [("name",.str name),("life",.int life),("houses",.ref hd),("journal",.ref j)]);generalize aH H6 p (.ins c.D dx [("name",.str name),("life",.int life),("houses",.ref hd),("journal",.ref j)])=H7 at g6 ⊢;refine⟨kW rfl,λe he=>?_⟩;have g7:=g6.same (aF (o:=.lst []) he);refine⟨e,rfl,aA,λt b kl ol H8 s8 gt gb XJ gol=>?_⟩;have g8:=g7.same s8;intro me mx XX TX hmn;have nn:∀ {b u},H8 b=some u->(aH (aH H8 mx (.own me)) me (.ins c.M mx [])) b=some u:=λe=>by rw[aE (aD e XX),aE (aD e TX)];exact e
  refine⟨me,mx,life,t,b,kl,ol,rfl,aA,nn gt,nn gb,nn XJ,nn gol,λbk bx bd ks rn kf bs ss H9 G db ds=>⟨rfl,?_⟩⟩;have s9:Same H8 H9:=λb u e=>G.fr _ _ (nn e) (aD e XX)
  have fr8:∀b,(aH (aH H8 mx (.own me)) me (.ins c.M mx [])) b=none->H8 b=none:=λb e=>by
   cases z:H8 b with
   | none=>rfl
   | some u=>rw[nn z]at e;cases e
  have g9:=g8.add _ s9 G.own.1 λq hq=>⟨(G.nw q hq).elim (λe=>by rw[e];exact XX) (fr8 _),G.own.2 q hq⟩
  refine⟨c.D,dx,_,g9.own.get 10 rfl,BD.cl,BD.nM,(by show 4<1000;decide),?_⟩;dsimp only;rw[show bK "memory" (.ref me) ([("name",.str name),("life",.int life),("houses",.ref hd),("journal",.ref j)]:List (Str×V))=([("name",.str name),("life",.int life),("houses",.ref hd),("journal",.ref j),("memory",.ref me)]:List (Str×V)) by kernel_rfl];have UK:TK H9 (aH H9 p (.ins c.D dx [("name",.str name),("life",.int life),("houses",.ref hd),("journal",.ref j),("memory",.ref me)])):=cG (g9.own.get 10 rfl) λ_ z=>nomatch z
  have zb:=g9.set 10 rfl (.ins c.D dx [("name",.str name),("life",.int life),("houses",.ref hd),("journal",.ref j),("memory",.ref me)]);generalize aH H9 p (.ins c.D dx [("name",.str name),("life",.int life),("houses",.ref hd),("journal",.ref j),("memory",.ref me)])=NH at UK zb ⊢;refine q ⟨p,dx,hd,j,jx,jl,me,mx,bk,bx,bd,ks,rn,kf⟩ NH rfl ⟨⟨bs,ss,zb.own.rev,db.keep UK,ds.keep UK⟩,nodup_nil,List.Pairwise.nil,λr hr=>nomatch hr⟩ (λb hb=>?_) zb.fr;simp only [DA.fix,mem_cons,FM,or_false]at hb;rcases hb with rfl|rfl|rfl|rfl|rfl|rfl|rfl|rfl|rfl|rfl|rfl
  ·exact .inl rfl
  ·exact zb.nw _ (kS (i:=9) rfl)
  ·exact zb.nw _ (kS (i:=8) rfl)
  ·exact zb.nw _ (kS (i:=7) rfl)
  ·exact zb.nw _ (kS (i:=6) rfl)
  ·exact zb.nw _ (kS (i:=5) rfl)
  ·exact zb.nw _ (kS (i:=4) rfl)
  ·exact zb.nw _ (kS (i:=3) rfl)
  ·exact zb.nw _ (kS (i:=2) rfl)
  ·exact zb.nw _ (kS (i:=1) rfl)
  ·exact zb.nw _ (kS (i:=0) rfl)
def kN(c:CK):Sp:=λvs H Q _=>∃(a:DA)(s:DS),vs=[.ref a.dr]/\DAt c H a s/\Q (.ref a.me) H
def Lr{c:CK}(BD:Qk K c.D)(D:MethAt K c.D "known" "Door.known" gB EQ):cP P w K mg base 1 c.D "known" EQ (kN c):=by
 refine D.go rT (λvs H Q E h=>?_) (λf cdv A outer s H vs Q E hr h=>?_)
 ·obtain⟨a,s,rfl,_⟩:=h;rfl
 ·obtain⟨a,s,rfl,h,q⟩:=h;refine⟨_,(lv (pc (nh R.jg (pi (K:=K) (jp 0)) yn) (mk wv) ph) (mk (mz (pi (K:=K) (jp 0))))),?_⟩;exact⟨c.D,_,_,.ref a.me,h.dr,BD.cl,BD.nM,by kernel_rfl,c.D,_,_,.ref a.me,h.dr,BD.cl,BD.nM,by kernel_rfl,q⟩
def Zp(H:Hp)(r:Rn)(v:V):Prop:=∃t,v=.ref t/\H t=some (.tup (Zj r))
def wF(c:CK):Sp:=λvs H Q _=>∃(a:DA)(s:DS),vs=[.ref a.dr]/\DAt c H a s/\s.runs.length<64/\∀l us H',H l=none->Same H H'->H' l=some (.lst us)->Paired (Zp H') s.runs us->Q (.ref l) H'
def Ls{c:CK}(T:Txt K mg)(BM:Gm K c.M)(c4:cP P w K mg base 1 c.D "known" EQ (kN c))(qh:cP P w K mg base 1 c.R "as_tuple" EQ (Rx c.R))(D:MethAt K c.D "under" "Door.under" eF EQ):cP P w K mg base 2 c.D "under" EQ (wF c):=by
 refine D.go lC (λvs H Q E h=>?_) (λf cdv A outer s H vs Q E hr h=>?_)
 ·obtain⟨a,s,rfl,_⟩:=h;rfl
 ·obtain⟨a,s,rfl,h,hl,q⟩:=h;have c3:=cC hr;have c2:=hr;have ny:=hr;refine⟨_,(lv (re (i:=1) lC.nd (pi (K:=K) (ut c4 c2 (jp 0)))) (mk (mz (xy rfl (js:=[none,some 1]) (N:=["number","runs"]) (CompScope.by (aB eF) ["self","runs"] rfl rfl Zk) (aP rfl) (uk (K:=K) (sj (R.dj rfl) rfl T.b_sorted eI (lc (jp 1) li))) (λC s₂ H₂ fp=>⟨(pr (i:=0) (show(["number","runs"]:List Str).Nodup by decide +kernel)),yd,(ut qh ny (rm c3 (jp 1) (jp 0)))⟩))))),?_⟩;refine⟨_,_,h.dr,by kernel_rfl,a,s,rfl,h,c.M,_,_,.ref a.rn,h.me,BM.cl,BM.nR,by kernel_rfl,?_⟩;dsimp only [aK];refine⟨s.runs.map λr=>(r.n:Int),_,.inl h.rn,by unfold aY;rw[map_map,map_map];rfl,by rw[bP];exact hl,λl ns ES hp LG=>⟨l,rfl,⟨_,QZc aA⟩,?_⟩⟩;have LH:ns=s.runs.map λr=>(r.n:Int):=jZ LG (pairwise_map.mpr (h.up.imp λz=>by omega)) hp
  subst LH;have k1:=aF (o:=.lst ((s.runs.map λr=>(r.n:Int)).map V.int)) ES;have gl:(aH H l (.lst ((s.runs.map λr=>(r.n:Int)).map V.int))) l=some (.lst ((s.runs.map λr=>(r.n:Int)).map V.int)):=aA;generalize aH H l (.lst ((s.runs.map λr=>(r.n:Int)).map V.int))=H1 at k1 gl ⊢;have h1:=h.same k1;have eL:((s.runs.map λr=>(r.n:Int)).map V.int).length=s.runs.length:=by rw[bP,bP]
  refine bJ (cA K l ((s.runs.map λr=>(r.n:Int)).map V.int)) (by rw[eL];omega) (λi ys H'=>Same H1 H'/\ys.length<=i/\Paired (Zp H') (s.runs.take i) ys) (λi ys H' ⟨e1,e2,_⟩=>⟨QZc (e1 _ _ gl),e2⟩) ⟨Same.refl _,bZ _,.nil⟩ (?_) (?_)
  ·rintro i x ys H' hx ⟨e1,e2,e3⟩;rw[map_map,iK]at hx;obtain⟨r,S7,rfl⟩:=Option.map_eq_some_iff.mp hx;have hm:=kS S7;have h2:=h1.same e1;dsimp only [aK];have dg:=DGet.k (k:=Sum.inl (r.n:Int)) h2.rn;rw[mP h.up hm]at dg;refine⟨a.rn,.ref r.p,rfl,dg,r.dx,_,h2.run hm,by kernel_rfl,r,rfl,h2.run hm,λt H3 s3 gt=>⟨e1.trans s3,by rw[wM];simpa using e2,?_⟩⟩;rw[aZ S7];exact Paired.snoc (Paired.map' (λ_ _ ⟨t,e,g⟩=>⟨t,e,s3 _ _ g⟩) e3) ⟨t,rfl,gt⟩
  ·rintro ys H' ⟨e1,e2,e3⟩;rw[eL,take_length]at e3;intro l2 nr;have s3:=aF (o:=.lst ys) nr;exact q l2 ys _ (k1.free (e1.free nr)) ((k1.trans e1).trans s3) aA (Paired.map' (λ_ _ ⟨t,e,g⟩=>⟨t,e,s3 _ _ g⟩) e3)
def pC(life turn:Int):Option KE->Bool
 | none=>true
 | some (.busy _ _)=>false
 | some (.kept _ w _ _)=>!decide (w+life>turn)
def Gb{life turn:Int}{o:Option KE}(h:pC life turn o=true):Kg life turn o=[.str "free"]:=by
 match o,h with
 | none,_=>rfl
 | some (.kept n w d z),h=>
  have h':¬ w+life>turn:=by simpa [pC]using h
  show(if w+life>turn then _ else _)=_;rw[IS h']
def Lu{x y:Dd}:∀(j:Nat)(u v:V),x.vs[j]?=some u->y.vs[j]?=some v->dA u=true/\dA v=true:=λj u v h1 h2=>
 have z:∀(d:Dd)(u:V),u∈d.vs->dA u=true:=λd u hu=>by
  cases d<;>simp only [Dd.vs,mem_cons,FM,or_false]at hu<;>rcases hu with rfl|rfl|rfl|rfl|rfl<;>rfl
 ⟨z _ _ (kS h1),z _ _ (kS h2)⟩
def Sa(same:Bool):KE->List V
 | .busy n _=>if same=true then [.str "busy",.int n] else [.str "other"]
 | .kept _ _ _ z=>if same=true then [.str "kept",.ref z] else [.str "other"]
def keV:KE->List V
 | .busy n d=>[.str "busy",.int n,.ref d]
 | .kept n _ d z=>[.str "kept",.int n,.ref d,.ref z]
def KE.dd:KE->Addr
 | .busy _ d=>d
 | .kept _ _ d _=>d
def Cw:Sp:=λvs H Q _=>∃(sn d:TD)(e:KE)(x0 x:Dd),vs=[.ref sn,.ref d]/\H sn=some (.tup (keV e))/\H (KE.dd e)=some (.tup x0.vs)/\H d=some (.tup x.vs)/\∀t H',Same H H'->H' t=some (.tup (Sa (jT x0.vs x.vs) e))->Q (.ref t) H'
def Lv(D:DefAt K mg "told_again" gC QZH):aJ P w K mg base 1 "told_again" QZH Cw:=by
 refine D.go rV (λvs H Q E h=>?_) (λf cdv A outer s H vs Q E hr h=>?_)
 ·obtain⟨sn,d,e,x0,x,rfl,_⟩:=h;rfl
 ·obtain⟨sn,d,e,x0,x,rfl,gs,g0,gd,q⟩:=h;have J9:=hr.units;refine⟨_,(lv (pc (nh (R.du J9) (my (ng (K:=K)) (jp 0) lm) (jp 1)) (mk (mz (pf (lc ms li)))) ph) (lv (pc (nh se (my (ng (K:=K)) (jp 0) lm) ms) (mk (mz (pf (lc ms (lc (my (ng (K:=K)) (jp 0) lm) li))))) ph) (mk (mz (pf (lc ms (lc (my (ng (K:=K)) (jp 0) lm) li))))))),?_⟩
  cases e with
  | busy n d0=>
   refine⟨_,QZd gs,_,rfl,_,_,g0,gd,Lu,?_⟩;show if (!jT x0.vs x.vs)=true then _ else _
   cases he:jT x0.vs x.vs with
   | false=>
    rw[he]at q;exact⟨aT rfl,λt H' s' g=>q t H' s' g⟩
   | true=>
    rw[he]at q;exact⟨_,QZd gs,_,rfl,_,QZd gs,_,rfl,aT rfl,λt H' s' g=>q t H' s' g⟩
  | kept n w' d0 z=>
   refine⟨_,QZd gs,_,rfl,_,_,g0,gd,Lu,?_⟩;show if (!jT x0.vs x.vs)=true then _ else _
   cases he:jT x0.vs x.vs with
   | false=>
    rw[he]at q;exact⟨aT rfl,λt H' s' g=>q t H' s' g⟩
   | true=>
    rw[he]at q;exact⟨_,QZd gs,_,rfl,_,QZd gs,_,rfl,aT rfl,λt H' s' g=>q t H' s' g⟩
def Lw{life turn:Int}{o:Option KE}(h:pC life turn o=false):∃e,o=some e/\Kg life turn o=keV e:=by
 match o,h with
 | some (.busy n d),_=>exact⟨_,rfl,rfl⟩
 | some (.kept n w d z),h=>
  have h':w+life>turn:=by simpa [pC]using h
  refine⟨_,rfl,?_⟩;show(if w+life>turn then _ else _)=_;rw[NE h'];rfl
structure HoT(K:W.Frag)(C:TD):Prop where
 cl:Cls K C
 nA:NoAttr K C "amounts"
 nC:NoAttr K C "closed_names"
 nE:NoAttr K C "entries"
def uF(C:TD):Sp:=λvs H Q _=>∃p dx:TD,vs=[.ref p,.non,.non]/\H p=some (.ins C dx [])/\∀H',(∀b o,H b=some o->b≠p->H' b=some o)->(∃o,H' p=some o)->Q .non H'
def Ao{C:TD}(B:HoT K C)(D:ClsAt K mg "House" C "House.__init__" bU QZG [[.non,.non]]):∀d∈([[.non,.non]]:List (List V)),wO P w K mg base 1 "House" C QZG d (uF C):=by
 refine D.go mN (λvs H Q E h=>?_) (λf cdv A outer s H vs Q E hr h=>?_)
 ·obtain⟨p,dx,rfl,_⟩:=h;rfl
 ·obtain⟨p,dx,rfl,hp,q⟩:=h;refine⟨_,(lv (sf (K:=K) (jp 0) AA) (lv (sf (K:=K) (jp 0) AA) (lv (sf (K:=K) (jp 0) AA) (lv (pc (nh R.dt (jp 1) yn) (mk wv) ph) (mk (pc (nh R.dt (jp 2) yn) (mk wv) ph)))))),?_⟩;have step:∀(H:Hp)(fs:List (Str×V))(d:TD)(o:HO)(SW:List (Str×V)),H p=some (.ins C dx fs)->H d=none->(aH H d o) p=some (.ins C dx fs)/\(∀b u,H b=some u->b≠p->(aH (aH H d o) p (.ins C dx SW)) b=some u):=λH fs d o SW g hd=>
   ⟨by rw[aE (aD g hd)];exact g,λb u e hb=>by rw[aE hb,aE (aD e hd)];exact e⟩
  intro d1 h1;obtain⟨g1,k1⟩:=step H [] d1 (.dK []) ([("amounts",.ref d1)]:List (Str×V)) hp h1;refine⟨C,dx,_,g1,B.cl,B.nA,(by show 0<1000;decide),?_⟩;dsimp only;rw[show bK "amounts" (.ref d1) []=([("amounts",.ref d1)]:List (Str×V)) by kernel_rfl];have e1:(aH (aH H d1 (.dK [])) p (.ins C dx [("amounts",.ref d1)])) p=some (.ins C dx [("amounts",.ref d1)]):=aA;generalize aH (aH H d1 (.dK [])) p (.ins C dx [("amounts",.ref d1)])=H1 at k1 e1 ⊢;intro d2 h2;obtain⟨g2,k2⟩:=step H1 _ d2 (.dK []) ([("amounts",.ref d1),("closed_names",.ref d2)]:List (Str×V)) e1 h2;refine⟨C,dx,_,g2,B.cl,B.nC,(by show 1<1000;decide),?_⟩;dsimp only;rw[show bK "closed_names" (.ref d2) ([("amounts",.ref d1)]:List (Str×V))=([("amounts",.ref d1),("closed_names",.ref d2)]:List (Str×V)) by kernel_rfl];have e2:(aH (aH H1 d2 (.dK [])) p (.ins C dx [("amounts",.ref d1),("closed_names",.ref d2)])) p=some (.ins C dx [("amounts",.ref d1),("closed_names",.ref d2)]):=aA;generalize aH (aH H1 d2 (.dK [])) p (.ins C dx [("amounts",.ref d1),("closed_names",.ref d2)])=H2 at k2 e2 ⊢;intro d3 h3;obtain⟨g3,k3⟩:=step H2 _ d3 (.dK []) ([("amounts",.ref d1),("closed_names",.ref d2),("entries",.ref d3)]:List (Str×V)) e2 h3;refine⟨C,dx,_,g3,B.cl,B.nE,(by show 2<1000;decide),?_⟩;dsimp only;rw[show bK "entries" (.ref d3) ([("amounts",.ref d1),("closed_names",.ref d2)]:List (Str×V))=([("amounts",.ref d1),("closed_names",.ref d2),("entries",.ref d3)]:List (Str×V)) by kernel_rfl];exact q _ (λb o e hb=>k3 _ _ (k2 _ _ (k1 _ _ e hb) hb) hb) ⟨_,aA⟩
def uG(c:CK):Sp:=λvs H Q _=>∃(a:DA)(s:DS)(z:Str)(v:V),vs=[.ref a.dr,.str z]/\DAt c H a s/\aV s.hs (Sum.inr z)=some v/\Q v H
def Ap{c:CK}(BD:Qk K c.D)(D:MethAt K c.D "house_of" "Door.house_of" dM DR):cP P w K mg base 1 c.D "house_of" DR (uG c):=by
 refine D.go oO (λvs H Q E h=>?_) (λf cdv A outer s H vs Q E hr h=>?_)
 ·obtain⟨a,s,z,v,rfl,_⟩:=h;rfl
 ·obtain⟨a,s,z,v,rfl,h,hv,q⟩:=h;have c3:=cC hr;refine⟨_,(lv (pc (nh (R.dy c3) (jp 1) (pi (K:=K) (jp 0))) (mk wv) ph) (mk (mz (rm c3 (pi (K:=K) (jp 0)) (jp 1))))),?_⟩;have dg:=DGet.k (k:=Sum.inr z) h.hd;rw[hv]at dg;exact⟨c.D,_,_,.ref a.hd,h.dr,BD.cl,BD.nH,by kernel_rfl,_,dg,c.D,_,_,.ref a.hd,h.dr,BD.cl,BD.nH,by kernel_rfl,a.hd,v,rfl,dg,q⟩
def lN(s:DS)(turn:Int)(q:Str×Str)(d:TD)(x:Dd)(p dx ra:TD):DS:={s with turn:=turn,m:=s.m.set q (some (.busy s.next d)),L:=s.L+1,runs:=s.runs++[mQ p dx s.next q d x "new"],next:=s.next+1,rows:=s.rows++[.ref ra] }
def wG(c:CK):Sp:=λvs H Q E=>∃(a:DA)(s:DS)(turn:Int)(q:Str×Str)(d:TD)(x x0:Dd),vs=[.ref a.dr,.int turn,.str q.1,.str q.2,.ref d]/\DAt c H a s/\isNm q.1/\isKy q.2/\x.Ok/\(∀p∈uA x,∃v,aV s.hs (Sum.inr p.1)=some v)/\H d=some (.tup x.vs)/\s.L<=500/\(∀r∈s.runs,r.n<s.next)/\s.runs.length<=500/\s.rows.length<=1000/\s.turn<=turn/\(∀e,s.m q=some e->H (KE.dd e)=some (.tup x0.vs)) ∧
 (∀e,s.m q=some e->pC s.life turn (s.m q)=false->∀t H',DAt c H' a {s with turn:=turn }->Mv a s {s with turn:=turn } H H'->H' t=some (.tup (Sa (jT x0.vs x.vs) e))->Q (.ref t) H') ∧
 (pC s.life turn (s.m q)=true->∀t p dx ra H',DAt c H' a (lN s turn q d x p dx ra)->Mv a s (lN s turn q d x p dx ra) H H'->H' ra=some (.tup [.str "came",.int s.next,.int turn,.str q.1,.str q.2,.ref d])->H' t=some (.tup [.str "begun",.int s.next])->Q (.ref t) H')
def Lx{c:CK}(T:Txt K mg)(BD:Qk K c.D)(BM:Gm K c.M)(c4:cP P w K mg base 1 c.D "known" EQ (kN c))(J8:aJ P w K mg base 2 "is_name" DT (oA LET 8))(EV:aJ P w K mg base 2 "is_key" DT (oA (LET++Rj) 12))(DC:aJ P w K mg base 4 "is_deed" DT xN)(Z9:aJ P w K mg base 1 "asks_of" DU Ac)(oe:cP P w K mg base 1 c.D "house_of" DR (uG c))(zd:cP P w K mg base 3 c.Ks "look" QZB (Kh c.Ks))(vd:aJ P w K mg base 1 "told_again" QZH Cw)(qi:cP P w K mg base 4 c.M "begin" QZx (yM c))(d6:cP P w K mg base 1 c.J "write" QZY (mO c.J))(D:MethAt K c.D "come" "Door.come" gY QZI):cP P w K mg base 5 c.D "come" QZI (wG c):=by
 refine D.go cY (λvs H Q E h=>?_) (λf cdv A outer s H vs Q E hr h=>?_)
 ·obtain⟨a,s,turn,q,d,x,x0,rfl,_⟩:=h;rfl
 ·obtain⟨a,s,turn,q,d,x,x0,rfl,h,hq1,hq2,hx,hho,hd,hL,QA,NJ,EW,hle,hkd,QT,QB⟩:=h;have c2:Room 1 _:=hr.mono Zd;have B3:Room 2 _:=hr.mono Zd;have DD:Room 2 _:=hr.mono Zd;have AR:Room 4 _:=hr;have U8:Room 1 _:=hr.mono Zd;have jk:Room 1 _:=hr.mono Zd;have ve:Room 3 _:=hr.mono Zd;have ua:Room 1 _:=hr.mono Zd;have og:Room 4 _:=hr;have c8:Room 1 _:=hr.mono Zd;refine⟨_,(lv (re (i:=5) cY.nd (ut c4 c2 (jp 0))) (lv (pc (u8 (yi (ww (v6 (pj J8 B3 rfl (lc (jp 2) li)))) (yj (ww (v6 (pj EV DD rfl (lc (jp 3) li))))))) (mk wv) ph) (lv (pc (ww (v6 (pj DC AR rfl (lc (jp 4) li)))) (mk wv) ph) (lv (ya PassesOwn.never rfl (R.cu (K:=K) (pj Z9 U8 rfl (lc (jp 4) li))) (zv (K:=K) (n:=2) rfl (ui (pr (i:=6) cY.nd) (ui (pr (i:=7) cY.nd) zw))) (mk (um (uh oe jk (jp 0) (lc (jp 6) li))))) (lv (pc (nh R.lt (jp 1) (pi (K:=K) (jp 5))) (mk wv) ph) (lv (sf (K:=K) (jp 5) (jp 1)) (lv (re (i:=8) cY.nd (uh zd ve (pi (K:=K) (jp 5)) (lc (jp 2) (lc (jp 3) (lc (jp 1) li))))) (lv (pc (nh R.ne (my (ng (K:=K)) (jp 8) lm) ms) (mk (mz (pj vd ua rfl (lc (jp 8) (lc (jp 4) li))))) ph) (lv (re (i:=9) cY.nd (uh qi og (jp 5) (lc (jp 2) (lc (jp 3) (lc (jp 4) li))))) (lv (um (uh d6 c8 (pi (K:=K) (jp 0)) (lc (pf (lc ms (lc (jp 9) (lc (jp 1) (lc (jp 2) (lc (jp 3) (lc (jp 4) li))))))) li))) (mk (mz (pf (lc ms (lc (jp 9) li))))))))))))))),?_⟩;refine⟨_,_,h.dr,by kernel_rfl,a,s,rfl,h,?_⟩;dsimp only [aK];refine⟨.str q.1,.str,rfl,trivial,λz e=>by cases e;exact hq1.len,λH1 s1=>?_⟩;rw[show eJ (.str q.1) LET 8=true from gO hq1];refine⟨.str q.2,.str,rfl,trivial,λz e=>by cases e;exact hq2.len,λH2 s2=>?_⟩;rw[Zl hq2];have k2:=s1.trans s2;refine⟨.ref d,rfl,Zm hx (k2 _ _ hd),λb xs e g=>?_,λH3 s3=>?_⟩
  ·cases e;rw[k2 _ _ hd]at g;cases g;cases x<;>exact aT rfl
  have k3:=k2.trans s3;rw[show qO H2 (.ref d)=true by unfold qO;simp only [k2 _ _ hd];exact Qj hx];refine⟨d,x.wd,x.vs,bO x,uA x,rfl,k3 _ _ hd,Lg x,λta us H4 s4 gta UL=>?_⟩;have k4:=k3.trans s4;have h4:=h.same k4;refine⟨ta,rfl,⟨_,QZd gta⟩,dI (iO K ta us) (λi σ H'=>H'=H4/\∃o6 o7,σ=[some (.ref a.dr),some (.int turn),some (.str q.1),some (.str q.2),some (.ref d),some (.ref a.me),o6,o7,none,none]) (λi σ H' e=>by rw[e.1];exact QZd gta) ⟨rfl,_,_,rfl⟩ ?_ λσ H' e=>?_⟩
  ·rintro i v σ H' hv ⟨rfl,o6,o7,rfl⟩;obtain⟨hi,ei⟩:=Zgs.mp hv;obtain⟨GY,b,dd,e,gb,gd⟩:=Paired.get' (j:=i) UL hi;rw[ei]at e;subst e;obtain⟨IW,KS⟩:=hho _ (getElem_mem GY);refine⟨b,_,rfl,QZd gb,rfl,_,_,rfl,_,_,rfl,rfl,?_⟩;dsimp only [aK];exact⟨_,_,h4.dr,by kernel_rfl,a,s,_,IW,rfl,h4,KS,rfl,_,_,rfl⟩
  obtain⟨rfl,o6,o7,rfl⟩:=e;refine⟨c.M,_,_,.int s.turn,h4.me,BM.cl,BM.nT,by kernel_rfl,?_⟩;show if decide (turn<s.turn)=true then _ else _
  refine fR (UF Zo) ?_;dsimp only [cK];refine⟨c.M,a.mx,_,h4.me,BM.cl,BM.nT,(by show 5<1000;decide),?_⟩;dsimp only;rw[show bK "turn" (.int turn) (mf a s.turn s.next)=mf a turn s.next by kernel_rfl];obtain⟨h5,v5⟩:=h4.put (H':=aH H' a.me (.ins c.M a.mx (mf a turn s.next))) 4 {s with turn:=turn } (λ_ _=>rfl) (λ_ _=>rfl) aA (λb u e hb=>by rw[aE hb];exact e) rfl rfl h.nd rfl;have w5:=(Mv.same (a:=a) (s:=s) k4).trans v5;generalize aH H' a.me (.ins c.M a.mx (mf a turn s.next))=H5 at h5 v5 w5 ⊢;refine⟨c.M,_,_,.ref a.ks,h5.me,BM.cl,BM.nS,by kernel_rfl,a.kf.dx,_,h5.ks,xV _ _ Zk Zk Zk,a.ks,a.kf,s.life,s.m,s.L,q,turn,rfl,h5.ky,λsn H6 s6 QC=>?_⟩;dsimp only [aK];have h6:=h5.same s6;have w6:=w5.trans (.same s6);have hd6:=w6.tk h _ _ hd
  cases HE:pC s.life turn (s.m q) with
  | false=>
   obtain⟨e,he,hlk⟩:=Lw HE;rw[hlk]at QC;have h0:=w6.tk h _ _ (hkd e he);have z:∃v0 vr,keV e=.str v0::vr/\v0≠"free":=by
    cases e with
    | busy n d0=>exact⟨_,_,rfl,Zk⟩
    | kept n w0 d0 z0=>exact⟨_,_,rfl,Zk⟩
   obtain⟨v0,vr',HF,j9⟩:=z;refine⟨_,QZd QC,.str v0,by rw[HF];exact fQ (show(V.str v0::vr')[0]?=some _ from rfl),?_⟩;show if (!decide (v0="free"))=true then _ else _
   refine lW (by rw[UF j9];rfl) ?_;exact⟨sn,d,e,x0,x,rfl,QC,h0,hd6,λt H7 s7 gt=>QT e he HE t H7 (h6.same s7) (w6.trans (.same s7)) gt⟩
  | true=>
   rw[Gb HE]at QC;refine⟨_,QZd QC,_,rfl,?_⟩;dsimp only [cK];have hnb:∀n' d',s.m q≠some (.busy n' d'):=λn' d' e=>by rw[e]at HE;cases HE
   refine⟨_,_,h6.me,by kernel_rfl,a,_,q,d,x,rfl,h6,hL,hnb,hd6,QA,NJ,λp dx H7 h7 v7=>?_⟩;dsimp only [aK];have w7:=w6.trans v7;refine⟨c.D,_,_,.ref a.j,h7.dr,BD.cl,BD.nJ,by kernel_rfl,_,_,h7.j,by kernel_rfl,aT rfl,λra H8 s8 ze=>?_⟩;have h8:=h7.same s8;refine⟨a.j,a.jl,a.jx,s.safe,s.rows,.ref ra,rfl,h8.j,h8.jl,EW,?_⟩;obtain⟨h9,v9⟩:=h8.put (H':=aH H8 a.jl (.lst (s.rows++[.ref ra]))) 3 (lN s turn q d x p dx ra) (λ_ _=>rfl) (λ_ _=>rfl) aA (λb u e hb=>by rw[aE hb];exact e) rfl rfl h.nd rfl;have g9:=v9.tk h8 _ _ ze;have w9:=(w7.trans (.same s8)).trans v9;generalize aH H8 a.jl (.lst (s.rows++[.ref ra]))=H9 at h9 g9 w9 ⊢;exact⟨aT rfl,λt NH EX gt=>QB HE t p dx ra NH (h9.same EX) (w9.trans (.same EX)) (EX _ _ g9) gt⟩
def dH(s:DS)(pre post:List Rn)(r:Rn)(st:Str):DS:={s with runs:=pre++{r with st:=st }::post }
def Cy(c:CK):Sp:=λvs H Q _=>∃(a:DA)(s:DS)(pre post:List Rn)(r:Rn)(z:TD),vs=[.ref a.dr,.ref r.p,.ref z]/\DAt c H a s/\s.runs=pre++r::post/\s.rows.length<=1000 ∧
 ∀t ra H',DAt c H' a {dH s pre post r "written" with rows:=s.rows++[.ref ra] }->Mv a s {dH s pre post r "written" with rows:=s.rows++[.ref ra] } H H'->H' ra=some (.tup [.str "done",.int r.n,.int s.turn,.ref z])->H' t=some (.tup [.str "writes",.str "done"])->Q (.ref t) H'
def Ly{c:CK}(BD:Qk K c.D)(BM:Gm K c.M)(BR:Qd K c.R)(d6:cP P w K mg base 1 c.J "write" QZY (mO c.J))(D:MethAt K c.D "write_done" "Door.write_done" cO QZP):cP P w K mg base 2 c.D "write_done" QZP (Cy c):=by
 refine D.go lK (λvs H Q E h=>?_) (λf cdv A outer s H vs Q E hr h=>?_)
 ·obtain⟨a,s,pre,post,r,z,rfl,_⟩:=h;rfl
 ·obtain⟨a,s,pre,post,r,z,rfl,h,hs,EW,q⟩:=h;have c8:=hr;have j8:r∈s.runs:=by rw[hs];simp
  refine⟨_,(lv (um (uh d6 c8 (pi (K:=K) (jp 0)) (lc (pf (lc ms (lc (pi (K:=K) (jp 1)) (lc (pi (K:=K) (pi (K:=K) (jp 0))) (lc (jp 2) li))))) li))) (lv (sf (K:=K) (jp 1) ms) (mk (mz (pf (lc ms (lc ms li))))))),?_⟩;refine⟨c.D,_,_,.ref a.j,h.dr,BD.cl,BD.nJ,by kernel_rfl,_,_,h.j,by kernel_rfl,c.R,_,_,.int r.n,h.run j8,BR.cl,BR.nN,by kernel_rfl,c.D,_,_,.ref a.me,h.dr,BD.cl,BD.nM,by kernel_rfl,c.M,_,_,.int s.turn,h.me,BM.cl,BM.nT,by kernel_rfl,aT rfl,λra H1 s1 ze=>?_⟩;have h1:=h.same s1;refine⟨a.j,a.jl,a.jx,s.safe,s.rows,.ref ra,rfl,h1.j,h1.jl,EW,?_⟩;obtain⟨h2,v2⟩:=h1.put (H':=aH H1 a.jl (.lst (s.rows++[.ref ra]))) 3 {s with rows:=s.rows++[.ref ra] } (λ_ _=>rfl) (λ_ _=>rfl) aA (λb u e hb=>by rw[aE hb];exact e) rfl rfl h.nd rfl;have g2:=v2.tk h1 _ _ ze;generalize aH H1 a.jl (.lst (s.rows++[.ref ra]))=H2 at h2 v2 g2 ⊢;dsimp only;refine⟨c.R,r.dx,_,h2.run j8,BR.cl,BR.nS,(by show 7<1000;decide),?_⟩;dsimp only;rw[show bK "stage" (.str "written") r.fs={r with st:="written" }.fs by kernel_rfl];obtain⟨h3,v3⟩:=h2.rput (r':={r with st:="written" }) hs rfl rfl rfl rfl;have g3:=v3.tk h2 _ _ g2;exact⟨aT rfl,λt H4 s4 gt=>q t ra H4 (h3.same s4) ((((Mv.same s1).trans v2).trans v3).trans (.same s4)) (s4 _ _ g3) gt⟩
def Wf{H:Hp}{y:An}{v:V}(h:RepT H 1 (RX.tvs y.vs) v):∃z,v=.ref z/\H z=some (.tup y.vs):=by
 obtain⟨z,xs,rfl,g,p⟩:=h;refine⟨z,rfl,?_⟩;have:∀ {ts:List V}{xs:List V},Paired (RepT H 0) (ts.map TV.sc) xs->xs=ts:=by
  intro ts;induction ts with
  | nil=>intro xs h;cases h;rfl
  | cons t ts ih=>
   intro xs h;cases h with
   | cons h1 h2=>rw[ih h2,h1.1]
 rw[g,this p]
def yP(c:CK):Sp:=λvs H Q _=>∃(a:DA)(s:DS)(pre post:List Rn)(r:Rn)(f:Str->Nat),vs=[.ref a.dr,.ref r.p]/\DAt c H a s/\s.runs=pre++r::post/\r.x.Ok/\(∀z,bM s.prs z=(f z:Int))/\s.rows.length<=1000 ∧
 (∀y,aI f r.x=some y->∀t ra z H',DAt c H' a {dH s pre post r "written" with rows:=s.rows++[.ref ra] }->Mv a s {dH s pre post r "written" with rows:=s.rows++[.ref ra] } H H'->H' ra=some (.tup [.str "done",.int r.n,.int s.turn,.ref z])->H' z=some (.tup y.vs)->H' t=some (.tup [.str "writes",.str "done"])->Q (.ref t) H') ∧
 (aI f r.x=none->∀t ra H',DAt c H' a {dH s pre post r "asked" with rows:=s.rows++[.ref ra] }->Mv a s {dH s pre post r "asked" with rows:=s.rows++[.ref ra] } H H'->H' ra=some (.tup [.str "asked",.int r.n])->H' t=some (.tup [.str "writes",.str "asked"])->Q (.ref t) H')
def Gc{c:CK}(BD:Qk K c.D)(BM:Gm K c.M)(BR:Qd K c.R)(IA:aJ P w K mg base 3 "early" CC (Cc c.B))(Y0:cP P w K mg base 2 c.D "write_done" QZP (Cy c))(d6:cP P w K mg base 1 c.J "write" QZY (mO c.J))(D:MethAt K c.D "write_first" "Door.write_first" cI BW):cP P w K mg base 4 c.D "write_first" BW (yP c):=by
 refine D.go fP (λvs H Q E h=>?_) (λf cdv A outer s H vs Q E hr h=>?_)
 ·obtain⟨a,s,pre,post,r,f,rfl,_⟩:=h;rfl
 ·obtain⟨a,s,pre,post,r,f,rfl,h,hs,hx,hf,EW,qd,qa⟩:=h;have EY:=hr;have U9:Room 2 _:=hr.mono Zd;have c8:Room 1 _:=hr.mono Zd;have j8:r∈s.runs:=by rw[hs];simp
  refine⟨_,(lv (re (i:=2) fP.nd (pj IA EY rfl (lc (pi (K:=K) (pi (K:=K) (jp 0))) (lc (pi (K:=K) (jp 1)) li)))) (lv (pc (nh R.dt (jp 2) yn) (mk (mz (uh Y0 U9 (jp 0) (lc (jp 1) (lc (jp 2) li))))) ph) (lv (um (uh d6 c8 (pi (K:=K) (jp 0)) (lc (pf (lc ms (lc (pi (K:=K) (jp 1)) li))) li))) (lv (sf (K:=K) (jp 1) ms) (mk (mz (pf (lc ms (lc ms li))))))))),?_⟩;refine⟨c.D,_,_,.ref a.me,h.dr,BD.cl,BD.nM,by kernel_rfl,c.M,_,_,.ref a.bk,h.me,BM.cl,BM.nB,by kernel_rfl,c.R,_,_,.ref r.d,h.run j8,BR.cl,BR.nD,by kernel_rfl,a.bk,r.d,r.x.wd,r.x.vs,bO r.x,uA r.x,s.prs,rfl,h.book,h.dd r j8,Lg r.x,λv H1 s1 hv=>?_⟩;rw[Am hf hx]at hv;have h1:=h.same s1;dsimp only [aK];cases hy:aI f r.x with
  | some y=>
   rw[hy]at hv;obtain⟨z,rfl,gz⟩:=Wf hv;exact⟨_,_,h1.dr,by kernel_rfl,a,s,pre,post,r,z,rfl,h1,hs,EW,λt ra H2 h2 v2 ze gt=>qd y hy t ra z H2 h2 ((Mv.same s1).trans v2) ze (v2.tk h1 _ _ gz) gt⟩
  | none=>
   rw[hy]at hv;obtain rfl:v=.non:=hv.1;refine⟨c.D,_,_,.ref a.j,h1.dr,BD.cl,BD.nJ,by kernel_rfl,_,_,h1.j,by kernel_rfl,c.R,_,_,.int r.n,h1.run j8,BR.cl,BR.nN,by kernel_rfl,aT rfl,λra H2 s2 ze=>?_⟩;have h2:=h1.same s2;refine⟨a.j,a.jl,a.jx,s.safe,s.rows,.ref ra,rfl,h2.j,h2.jl,EW,?_⟩;obtain⟨h3,v3⟩:=h2.put (H':=aH H2 a.jl (.lst (s.rows++[.ref ra]))) 3 {s with rows:=s.rows++[.ref ra] } (λ_ _=>rfl) (λ_ _=>rfl) aA (λb u e hb=>by rw[aE hb];exact e) rfl rfl h.nd rfl;have g3:=v3.tk h2 _ _ ze;generalize aH H2 a.jl (.lst (s.rows++[.ref ra]))=H3 at h3 v3 g3 ⊢;dsimp only;refine⟨c.R,r.dx,_,h3.run j8,BR.cl,BR.nS,(by show 7<1000;decide),?_⟩;dsimp only;rw[show bK "stage" (.str "asked") r.fs={r with st:="asked" }.fs by kernel_rfl];obtain⟨h4,v4⟩:=h3.rput (r':={r with st:="asked" }) hs rfl rfl rfl rfl;have g4:=v4.tk h3 _ _ g3;exact⟨aT rfl,λt H5 s5 gt=>qa hy t ra H5 (h4.same s5) ((((Mv.same (s1.trans s2)).trans v3).trans v4).trans (.same s5)) (s5 _ _ g4) gt⟩
def Aq(c:CK):Sp:=λvs H Q _=>∃(a:DA)(s:DS)(pre post:List Rn)(r:Rn)(way:Str),vs=[.ref a.dr,.int r.n,.str way]/\(way="through"∨way="lost")/\DAt c H a s/\s.runs=pre++r::post/\s.runs.length<64 ∧
  ((r.st="new"/\(∀r' rest,eR s r=r'::rest->∀t H',Same H H'->H' t=some (.tup [.str "waits",.int r'.n])->Q (.ref t) H')/\(eR s r=[]->∀t H',DAt c H' a (dH s pre post r "held")->Mv a s (dH s pre post r "held") H H'->H' t=some (.tup [.str "holds"])->Q (.ref t) H'))∨
   (r.st="held"/\r.x.Ok/\s.rows.length<=1000/\∃f:Str->Nat,(∀z,bM s.prs z=(f z:Int)) ∧
     (∀y,aI f r.x=some y->∀t ra z H',DAt c H' a {dH s pre post r "written" with rows:=s.rows++[.ref ra] }->Mv a s {dH s pre post r "written" with rows:=s.rows++[.ref ra] } H H'->H' ra=some (.tup [.str "done",.int r.n,.int s.turn,.ref z])->H' z=some (.tup y.vs)->H' t=some (.tup [.str "writes",.str "done"])->Q (.ref t) H') ∧
     (aI f r.x=none->∀t ra H',DAt c H' a {dH s pre post r "asked" with rows:=s.rows++[.ref ra] }->Mv a s {dH s pre post r "asked" with rows:=s.rows++[.ref ra] } H H'->H' ra=some (.tup [.str "asked",.int r.n])->H' t=some (.tup [.str "writes",.str "asked"])->Q (.ref t) H'))∨
   (r.st="written"/\∀t H',Same H H'->H' t=some (.tup [.str "unsafe"])->Q (.ref t) H'))
def Ql{c:CK}(U:Top w.params K mg)(BM:Gm K c.M)(BR:Qd K c.R)(c4:cP P w K mg base 1 c.D "known" EQ (kN c))(ub:cP P w K mg base 3 c.M "hold" BW (Lm c))(V0:cP P w K mg base 4 c.D "write_first" BW (yP c))(D:MethAtD K c.D "work" "Door.work" dO QZQ [[],[.str ("through":Str)]]) :
  ∀d∈([[],[.str ("through":Str)]]:List (List V)),Fj P w K mg base 5 c.D "work" QZQ d (Aq c):=by
 refine D.go jE (λvs H Q E h=>?_) (λf cdv A outer s H vs Q E hr h=>?_)
 ·obtain⟨a,s,pre,post,r,way,rfl,_⟩:=h;rfl
 ·obtain⟨a,s,pre,post,r,way,rfl,QD,h,hs,hl,hc⟩:=h;have c3:=cC hr;obtain⟨aW,LK,tW⟩:=U.g_WAYS;have c2:Room 1 _:=hr.mono Zd;have qj:Room 3 _:=hr.mono Zd;have T4:Room 4 _:=hr;have j8:r∈s.runs:=by rw[hs];simp
  refine⟨_,(lv (re (i:=3) jE.nd (ut c4 c2 (jp 0))) (lv (pc (nh (R.dy c3) (jp 1) (pi (K:=K) (jp 3))) (mk wv) ph) (lv (pc (nh (R.fj (K:=K)) (jp 2) (R.gR rfl LK)) (mk wv) ph) (lv (re (i:=4) jE.nd (rm c3 (pi (K:=K) (jp 3)) (jp 1))) (lv (pc (nh se (pi (K:=K) (jp 4)) ms) (mk (mz (uh ub qj (jp 3) (lc (jp 4) li)))) ph) (lv (pc (nh se (pi (K:=K) (jp 4)) ms) (mk (mz (uh V0 T4 (jp 0) (lc (jp 4) li)))) ph) (lv (pc (nh se (pi (K:=K) (jp 4)) ms) (mk wv) ph) (lv (pc (nh se (pi (K:=K) (jp 4)) ms) (mk wv) ph) (lv (pc (nh se (pi (K:=K) (jp 4)) ms) (mk wv) ph) (mk (mz (pf (lc ms li))))))))))))),?_⟩;refine⟨_,_,h.dr,by kernel_rfl,a,s,rfl,h,?_⟩;dsimp only [aK];have dg:=DGet.k (k:=Sum.inl (r.n:Int)) h.rn;rw[mP h.up j8]at dg;refine⟨c.M,_,_,.ref a.rn,h.me,BM.cl,BM.nR,by kernel_rfl,_,dg,?_⟩;dsimp only [cK];refine⟨aW,_,rfl,.inr (tW _),by rcases QD with rfl|rfl<;>kernel_rfl,by kernel_rfl,?_⟩;have eW:lO (.str way) [V.str "through",V.str "lost",V.str "unheard"]=true:=by rcases QD with rfl|rfl<;>kernel_rfl
  rw[eW];refine⟨c.M,_,_,.ref a.rn,h.me,BM.cl,BM.nR,by kernel_rfl,a.rn,.ref r.p,rfl,dg,?_⟩;dsimp only [aK];rcases hc with⟨e,qw,q⟩|⟨e,hx,EW,f,hf,qd,qa⟩|⟨e,q⟩
  ·refine⟨c.R,_,_,.str r.st,h.run j8,BR.cl,BR.nS,by kernel_rfl,?_⟩;rw[e];exact⟨_,_,h.me,by kernel_rfl,a,s,pre,post,r,rfl,h,hs,hl,qw,q⟩
  ·refine⟨c.R,_,_,.str r.st,h.run j8,BR.cl,BR.nS,by kernel_rfl,?_⟩;rw[e];refine⟨c.R,_,_,.str r.st,h.run j8,BR.cl,BR.nS,by kernel_rfl,?_⟩;rw[e];exact⟨_,_,h.dr,by kernel_rfl,a,s,pre,post,r,f,rfl,h,hs,hx,hf,EW,qd,qa⟩
  ·refine⟨c.R,_,_,.str r.st,h.run j8,BR.cl,BR.nS,by kernel_rfl,?_⟩;rw[e];refine⟨c.R,_,_,.str r.st,h.run j8,BR.cl,BR.nS,by kernel_rfl,?_⟩;rw[e];refine⟨c.R,_,_,.str r.st,h.run j8,BR.cl,BR.nS,by kernel_rfl,?_⟩;rw[e];refine⟨c.R,_,_,.str r.st,h.run j8,BR.cl,BR.nS,by kernel_rfl,?_⟩;rw[e];refine⟨c.R,_,_,.str r.st,h.run j8,BR.cl,BR.nS,by kernel_rfl,?_⟩;rw[e];exact⟨aT rfl,λt H' s' g=>q t H' s' g⟩
def DAt.outside(h:DAt c H a s){b:TD}{o:HO}(hb:b∉a.fix++s.runs.map (·.p))(g:H b=some o)(ho:∀xs,o≠.tup xs)(o':HO):DAt c (aH H b o') a s:=
 h.keep (λd u e hd=>by rw[aE (λ(z:d=b)=>hb (z▸hd))];exact e) (cG g ho)
def Mv.out(m:Mv a s s' H H'){b:TD}(hb:H b=none)(o':HO):Mv a s s' H (aH H' b o'):=
 ⟨λd u e hd=>by rw[aE (aD e hb)];exact m.fr d u e hd,m.nw,λd e=>by
  by_cases z:d=b
  ·rw[z];exact hb
  ·rw[aE z]at e;exact m.gr d e⟩
def Mv.stay(m:Mv a s s' H H'){b:TD}{o:HO}(hb:b∉a.fix++s.runs.map (·.p))(g:H b=some o):b∉a.fix++s'.runs.map (·.p):=λz=>by
 rcases Zma.mp z with z|z
 ·exact hb (IN _ z)
 ·obtain⟨r,hr,e⟩:=Zmm.mp z;rcases m.nw r hr with w|w
  ·exact hb (GS _ (e▸w))
  ·rw[e,g]at w;cases w
inductive hZ(H:Hp):DS->List V->DS->List (Rn×TD)->Prop
 | nil {s:DS}:hZ H s [] s []
 | skip {s s':DS}{t:TD}{wd:Str}{xs:List V}{vs:List V}{ts:List (Rn×TD)}:H t=some (.tup (.str wd::xs))->wd≠"done"->hZ H s vs s' ts->hZ H s (.ref t::vs) s' ts
 | done {s s':DS}{t z:TD}{pre post:List Rn}{r:Rn}{w:Int}{y:An}{vs:List V}{ts:List (Rn×TD)}:H t=some (.tup [.str "done",.int r.n,.int w,.ref z])->s.runs=pre++r::post->H z=some (.tup y.vs)->An.Of r.x y->(∀q∈zA r.x y,Le s.prs q)->s.prs.length<=90->s.L<=500->s.m r.q=some (.busy r.n r.d) →
   hZ H {s with runs:=pre++post,prs:=jL s.prs (zA r.x y),m:=s.m.set r.q (some (.kept r.n w r.d z)),L:=s.L+1 } vs s' ts->hZ H s (.ref t::vs) s' ((r,z)::ts)
def Ar(H:Hp)(q:Rn×TD)(v:V):Prop:=∃t,v=.ref t/\H t=some (.tup [.int q.1.n,.str q.1.q.1,.str q.1.q.2,.ref q.2])
def Cz(c:CK):Sp:=λvs H Q _=>∃(a:DA)(s s':DS)(old news:List V)(ts:List (Rn×TD)),vs=[.ref a.dr]/\DAt c H a s/\s.rows=old++news/\s.safe=(old.length:Int)/\s.rows.length<=1000/\hZ H {s with safe:=s.rows.length } news s' ts/\ts.length<=500 ∧
 ∀l us H',DAt c H' a s'->Mv a s s' H H'->H l=none->H' l=some (.lst us)->Paired (Ar H') ts us->l∉a.fix++s'.runs.map (·.p)->Q (.ref l) H'
def Lz{c:CK}(BD:Qk K c.D)(c4:cP P w K mg base 1 c.D "known" EQ (kN c))(qk:cP P w K mg base 1 c.J "safe" EQ (Ct c.J))(oh:cP P w K mg base 1 c.J "force" EQ (yL c.J))(B5:cP P w K mg base 1 c.J "rows" EQ (wE c.J))(vf:cP P w K mg base 3 c.M "end" QZw (Ln c))(D:MethAt K c.D "force" "Door.force" gA EQ):cP P w K mg base 4 c.D "force" EQ (Cz c):=by
 refine D.go dF (λvs H Q E h=>?_) (λf cdv A outer s H vs Q E hr h=>?_)
 ·obtain⟨a,s,s',old,news,ts,rfl,_⟩:=h;rfl
 ·obtain⟨a,s,s',old,news,ts,rfl,h,Y1,CP,EW,hE,KY,q⟩:=h;have c2:Room 1 _:=hr.mono Zd;have oi:Room 1 _:=hr.mono Zd;have jm:Room 1 _:=hr.mono Zd;have y6:Room 1 _:=hr.mono Zd;have uc:Room 3 _:=hr;refine⟨_,(lv (re (i:=1) dF.nd (ut c4 c2 (jp 0))) (lv (re (i:=2) dF.nd (ut qk oi (pi (K:=K) (jp 0)))) (lv (um (ut oh jm (pi (K:=K) (jp 0)))) (lv (re (i:=3) dF.nd (uo li)) (lv (ya PassesOwn.never rfl (uk (K:=K) (xx (R.dq (K:=K)) (ut B5 y6 (pi (K:=K) (jp 0))) (tz (jp 2)) yf)) (pr (i:=4) dF.nd) (mk (pc (nh se (my (ng (K:=K)) (jp 4) lm) ms) (mk (um (yg (K:=K) PySem.F.plainAttrs_list PySem.F.slot_list_append PySem.F.type_list_append R.dh (jp 3) (lc (uh vf uc (jp 1) (lc (my (ng (K:=K)) (jp 4) lm) (lc (my (ng (K:=K)) (jp 4) lm) (lc (my (ng (K:=K)) (jp 4) lm) li)))) li)))) ph))) (mk (mz (jp 3)))))))),?_⟩;refine⟨_,_,h.dr,by kernel_rfl,a,s,rfl,h,?_⟩;dsimp only [aK];refine⟨c.D,_,_,.ref a.j,h.dr,BD.cl,BD.nJ,by kernel_rfl,_,_,h.j,by kernel_rfl,a.j,a.jl,a.jx,s.safe,rfl,h.j,?_⟩;dsimp only [aK];refine⟨c.D,_,_,.ref a.j,h.dr,BD.cl,BD.nJ,by kernel_rfl,_,_,h.j,by kernel_rfl,a.j,a.jl,a.jx,s.safe,s.rows,rfl,h.j,h.jl,?_⟩;obtain⟨h1,v1⟩:=h.put (H':=aH H a.j (.ins c.J a.jx (jf a.jl s.rows.length))) 2 {s with safe:=s.rows.length } (λ_ _=>rfl) (λ_ _=>rfl) aA (λb u e hb=>by rw[aE hb];exact e) rfl rfl h.nd rfl;generalize aH H a.j (.ins c.J a.jx (jf a.jl s.rows.length))=H1 at h1 v1 ⊢;refine⟨kW rfl,λlt r9=>?_⟩;dsimp only [aK];have s2:=aF (o:=.lst []) r9;have QE:(aH H1 lt (.lst [])) lt=some (.lst []):=aA;generalize aH H1 lt (.lst [])=H2 at s2 QE ⊢;have h2:=h1.same s2;refine⟨c.D,_,_,.ref a.j,h2.dr,BD.cl,BD.nJ,by kernel_rfl,_,_,h2.j,by kernel_rfl,a.j,a.jl,a.jx,_,s.rows,rfl,h2.j,h2.jl,λlr QF=>?_⟩;have s3:=aF (o:=.lst s.rows) QF;have glr:(aH H2 lr (.lst s.rows)) lr=some (.lst s.rows):=aA;generalize aH H2 lr (.lst s.rows)=H3 at s3 glr ⊢;refine⟨_,QZc glr,λls XY=>?_⟩;have XZ:iB s.rows (some s.safe) none=news:=by
   rw[CP,xH,Y1,List.drop_left]
  rw[XZ];have s4:=aF (o:=.lst news) XY;have YA:(aH H3 ls (.lst news)) ls=some (.lst news):=aA;have k4:=(s2.trans s3).trans s4;have QG:H1 ls=none:=s2.free (s3.free XY);have nlt:lt≠ls:=aD (s3 _ _ QE) XY;generalize aH H3 ls (.lst news)=H4 at s4 YA k4 ⊢;have h4:=h1.same k4;have w4:=v1.trans (.same k4);have YB:=s4 _ _ (s3 _ _ QE);have YC:lt∉a.fix++s.runs.map (·.p):=h1.fresh r9;have ols:ls∉a.fix++s.runs.map (·.p):=h1.fresh QG;have QH:H lt=none:=v1.gr _ r9;have er':H ls=none:=v1.gr _ QG;refine⟨ls,rfl,⟨_,QZc YA⟩,dI (cA K ls news) (λi σ H'=>∃(o:Option V)(si:DS)(t1 t2:List (Rn × Addr))(us:List V),σ=[some (.ref a.dr),some (.ref a.me),some (.int s.safe),some (.ref lt),o]/\H' ls=some (.lst news)/\H' lt=some (.lst us)/\t1++t2=ts/\Paired (Ar H') t1 us/\hZ H si (news.drop i) s' t2/\DAt c H' a si/\Mv a s si H H'/\lt∉a.fix++si.runs.map (·.p)/\ls∉a.fix++si.runs.map (·.p))
   (λi σ H' ⟨_,_,_,_,_,_,e,_⟩=>QZc e) ⟨_,_,[],ts,[],rfl,YA,YB,rfl,.nil,hE,h4,w4,YC,ols⟩ ?_ ?_⟩
  ·rintro i x σ H' hx ⟨o,si,t1,t2,us,rfl,gl,gt,ht,pu,QI,hi,wi,QJ,LL⟩;obtain⟨hil,ex⟩:=Zgs.mp hx;rw[List.drop_eq_getElem_cons hil,ex]at QI;dsimp only [aK];cases QI with
   | @skip _ _ t wd xs _ _ gx j9 YD=>
    have NK:=wi.tk h _ _ gx;refine⟨_,QZd NK,.str wd,fQ (show(V.str wd::xs)[0]?=some _ from rfl),?_⟩;show if decide (wd="done")=true then _ else _
    refine fR (UF j9) ?_;exact⟨_,si,t1,t2,us,rfl,gl,gt,ht,pu,YD,hi,wi,QJ,LL⟩
   | @done _ _ t z pre post r w' y _ ts' gx hs hz PX hg PY hL hm YD=>
    have NK:=wi.tk h _ _ gx;have ul:us.length<=500:=by
     rw[<- pu.length];have:=congrArg length ht;rw[wM]at this;omega
    refine⟨_,QZd NK,_,rfl,?_⟩;refine⟨.inl ⟨rfl,_,QZc gt⟩,_,_,hi.me,by kernel_rfl,_,QZd NK,_,rfl,_,QZd NK,_,rfl,_,QZd NK,_,rfl,a,si,pre,post,r,w',z,y,rfl,hi,hs,wi.tk h _ _ hz,PX,hg,PY,hL,hm,λtt H5 h5 v5 gtt=>?_⟩;have QK:=v5.fr _ _ gt QJ;have UM:=v5.fr _ _ gl LL;have QL:=v5.stay QJ gt;have YE:=v5.stay LL gl;refine⟨lt,us,.ref tt,rfl,rfl,QK,rY ul Zd,?_⟩;have kt:TK H5 (aH H5 lt (.lst (us++[.ref tt]))):=cG QK λ_ z=>nomatch z
    refine⟨_,_,t1++[(r,z)],ts',us++[.ref tt],rfl,by rw[aE nlt.symm];exact UM,aA,by rw[<- ht,append_assoc];rfl,Paired.snoc (Paired.map' (λ_ _ ⟨t,e,g⟩=>⟨t,e,kt _ _ (v5.tk hi _ _ g)⟩) pu) ⟨tt,rfl,kt _ _ gtt⟩,YD,h5.outside QL QK (λ_ z=>nomatch z) _,(wi.trans v5).out QH _,QL,YE⟩
  ·rintro σ H' ⟨o,si,t1,t2,us,rfl,gl,gt,ht,pu,QI,hi,wi,QJ,LL⟩;rw[drop_length]at QI;cases QI;rw[append_nil]at ht;subst ht;exact q lt us H' hi wi QH gt pu QJ
def Zq{r:Int}(h:0<=r):∃z:Nat,r=z:=⟨r.toNat,Zo⟩
def Wg:("abcdefghijklmnopqrstuvwxyz":Str)=tx LET:=by rw[Jb ("abcdefghijklmnopqrstuvwxyz":Str),zY]
def aAR:LET.Nodup:=by decide
def WordsOf.nm{ws:List Str}(h:WordsOf LET 8 ws):∀z∈ws,isNm z:=λz hz=>h.of z hz
def yQ:Sp:=λvs H Q _=>∃d b,vs=[.ref d]/\Dk H d b/\∀(n:Nat) H',1<=n->n<=1000000000000->Dk H' d b->Kp d b H H'->Q (.int (n:Int)) H'
def Gd(T:Txt K mg)(b8:aJ P w K mg base 1 "_law_draw" CA hW)(D:DefAt K mg "_law_amount" gD QZF):aJ P w K mg base 2 "_law_amount" QZF yQ:=by
 refine D.go rW (λvs H Q E h=>?_) (λf cdv A outer s H vs Q E hr h=>?_)
 ·obtain⟨d,b,rfl,_⟩:=h;rfl
 ·obtain⟨d,b,rfl,dk,q⟩:=h;have b9:=hr;refine⟨_,(mk (mz (my (xz (K:=K)) (uo (lc (o0 rq lm (pj b8 b9 rfl (lc (jp 0) (lc lm li)))) (lc (o0 rq lm (pj b8 b9 rfl (lc (jp 0) (lc lm li)))) (lc (o0 AC (o0 yh lm lm) (pj b8 b9 rfl (lc (jp 0) (lc lm li)))) (lc (o0 rq lm (pj b8 b9 rfl (lc (jp 0) (lc (o0 yh lm lm) li)))) li))))) (pj b8 b9 rfl (lc (jp 0) (lc lm li)))))),?_⟩;refine⟨d,b,9,rfl,dk,Zd,Zd,λr1 H1 a0 a1 D1 k1=>⟨d,b,99,rfl,D1,Zd,Zd,λr2 H2 b0 b1 D2 k2=>⟨⟨Zd,Zd,Zd⟩,d,b,3,rfl,D2,Zd,Zd,λr3 H3 c0 c1 D3 k3=>⟨⟨Zd,Zd,Zd⟩,d,b,_,rfl,D3,Zd,Zd,λr4 H4 d0 d1 D4 k4=>⟨kW rfl,λp hp=>⟨d,b,4,rfl,D4.new hp,Zd,Zd,λr5 H5 e0 e1 D5 k5=>?_⟩⟩⟩⟩⟩⟩;have JI:=D4.ne hp;have gp:=k5 p _ aA JI.1 JI.2;have kk:=((((k1.trans k2).trans k3).trans k4).trans (.new hp)).trans k5;have d1':r4<1000000000000:=d1;have fin:∀m:Int,1<=m->m<=1000000000000->Q (.int m) H5:=λm h1 h2=>by
   have:=q m.toNat H5 Zo Zo D5 kk
   rwa [Int.toNat_of_nonneg Zo]at this
  rcases aAO e0 e1 with rfl|rfl|rfl|rfl
  ·exact⟨_,QZc gp,_,rfl,fin _ Zo Zo⟩
  ·exact⟨_,QZc gp,_,rfl,fin _ Zo Zo⟩
  ·exact⟨_,QZc gp,_,rfl,fin (10^(12:Int).toNat-r3) (by show(1:Int)<=1000000000000-r3;omega) (by show(1000000000000:Int)-r3<=_;omega)⟩
  ·exact⟨_,QZc gp,_,rfl,fin _ Zo Zo⟩
def Ma(zs:List Str):Prop:=zs.Nodup/\(∀z∈zs,isNm z)/\2<=zs.length/\zs.length<=20
def hX{d b:TD}{H H':Hp}(s:Same H H'):Kp d b H H':=λc o e _ _=>s c o e
def Sb{H H':Hp}{d b:TD}(D:Dk H d b)(k:Kp d b H H'):TK H H':=by
 obtain⟨ns0,s0,k0,gd,gb,_⟩:=D.ex;exact λt xs e=>k _ _ e (aQ e gd λz=>nomatch z) (aQ e gb λz=>nomatch z)
structure Far(zs hs:List Str)(x:Dd):Prop where
 ok:x.Ok
 nm:∀q∈bO x,q.1∈zs
 ho:∀p∈uA x,p.1∈hs
def Db:Sp:=λvs H Q _=>∃(d b:TD)(m:Nat),vs=[.ref d,.int (m:Int)]/\Dk H d b/\m<=1000000000000/\∀(n:Nat) H',1<=n->Dk H' d b->Kp d b H H'->Q (.int (n:Int)) H'
def Mb(T:Txt K mg)(b8:aJ P w K mg base 1 "_law_draw" CA hW)(zf:aJ P w K mg base 2 "_law_amount" QZF yQ)(D:DefAt K mg "_law_bound" hI QZE):aJ P w K mg base 3 "_law_bound" QZE Db:=by
 refine D.go wA (λvs H Q E h=>?_) (λf cdv A outer s H vs Q E hr h=>?_)
 ·obtain⟨d,b,m,rfl,_⟩:=h;rfl
 ·obtain⟨d,b,m,rfl,dk,hm,q⟩:=h;have b9:Room 1 _:=hr.mono Zd;have zg:=hr;refine⟨_,(mk (mz (my (xz (K:=K)) (uo (lc (pj zf zg rfl (lc (jp 0) li)) (lc (sj (R.iq rfl) rfl T.b_max vH (lc lm (lc (jp 1) li))) (lc (o0 rq (jp 1) lm) (lc (sj (R.iq rfl) rfl T.b_max vH (lc lm (lc (o0 AC (o0 yh lm lm) (jp 1)) li))) (lc (o0 AC (o0 rq (o0 yh lm lm) lm) (jp 1)) (lc (pj zf zg rfl (lc (jp 0) li)) li))))))) (pj b8 b9 rfl (lc (jp 0) (lc lm li)))))),?_⟩;refine⟨d,b,rfl,dk,λn1 H1 a0 a1 D1 k1=>⟨⟨Zd,Zd,Zd⟩,⟨Zd,Zd,Zd⟩,d,b,rfl,D1,λn2 H2 b0 b1 D2 k2=>⟨kW rfl,λp hp=>⟨d,b,6,rfl,D2.new hp,Zd,Zd,λr5 H5 e0 e1 D5 k5=>?_⟩⟩⟩⟩;have JI:=D2.ne hp;have gp:=k5 p _ aA JI.1 JI.2;have kk:=((k1.trans k2).trans (.new hp)).trans k5;have fin:∀v:Int,1<=v->Q (.int v) H5:=λv h1=>by
   have:=q v.toNat H5 Zo D5 kk
   rwa [Int.toNat_of_nonneg Zo]at this
  rcases six e0 e1 with rfl|rfl|rfl|rfl|rfl|rfl
  ·exact⟨_,QZc gp,_,rfl,fin _ Zo⟩
  ·exact⟨_,QZc gp,_,rfl,fin (if (m:Int)>1 then (m:Int) else 1) (by split<;>omega)⟩
  ·exact⟨_,QZc gp,_,rfl,fin _ Zo⟩
  ·exact⟨_,QZc gp,_,rfl,fin (if (10:Int)^(12:Int).toNat-(m:Int)>1 then (10:Int)^(12:Int).toNat-(m:Int) else 1) (by split<;>omega)⟩
  ·exact⟨_,QZc gp,_,rfl,fin ((10:Int)^(12:Int).toNat+1-(m:Int)) (by show(1:Int)<=1000000000000+1-m;omega)⟩
  ·exact⟨_,QZc gp,_,rfl,fin _ Zo⟩
def mU{prs:List (Str×Int)}{H:Hp}{k:TD}{f:Str->Nat}(h:H k=some (.dK (fM prs)))(hf:∀z,bM prs z=(f z:Int))(m:Str):∃o,DGet H k (.str m) o/\o.getD (.int 0)=.int (f m:Int):=by
 have dg:=DGet.k (k:=Sum.inr m) h;rw[mG]at dg;refine⟨_,dg,?_⟩;rw[<- hf];unfold bM;cases e:prs.lookup m<;>rfl
def yR:Sp:=λvs H Q _=>∃(d b l bk:TD)(zs:List Str)(g:Str)(prs:List (Str×Int))(f:Str->Nat),vs=[.ref d,.ref l,.str g,.ref bk]/\Dk H d b/\H l=some (.lst (zs.map V.str))/\l≠d/\l≠b/\Ma zs/\isNm g/\H bk=some (.dK (fM prs))/\(∀z,bM prs z=(f z:Int))/\(∀z,f z<=1000000000000)/\∀(t:TD)(x:Dd) H',Far zs [g] x->(∀u v z n,x≠.pass u v z n)->H' t=some (.tup x.vs)->Dk H' d b->Kp d b H H'->Q (.ref t) H'
def Ge(T:Txt K mg)(b8:aJ P w K mg base 1 "_law_draw" CA hW)(IB:aJ P w K mg base 3 "_law_bound" QZE Db)(D:DefAt K mg "_law_deed" jB QZt):aJ P w K mg base 4 "_law_deed" QZt yR:=by
 refine D.go dP (λvs H Q E h=>?_) (λf cdv A outer s H vs Q E hr h=>?_)
 ·obtain⟨d,b,l,bk,zs,g,prs,f,rfl,_⟩:=h;rfl
 ·obtain⟨d,b,l,bk,zs,g,prs,f,rfl,dk,gl,nd,nb,hz,hg,gb,hf,zh,q⟩:=h;have c3:=cC hr;have b9:Room 1 _:=hr.mono Zd;have IC:=hr;obtain⟨AB,zc,h2,h20⟩:=hz;have el:(zs.map V.str).length=zs.length:=bP ..;obtain⟨ns,s0,k0,gd0,gb0,_⟩:=dk.ex;have YF:bk≠d:=aQ gb gd0 λz=>nomatch z
  have YG:bk≠b:=aQ gb gb0 λz=>nomatch z
  refine⟨_,(lv (re (i:=4) dP.nd (my (xz (K:=K)) (jp 1) (pj b8 b9 rfl (lc (jp 0) (lc (sj (zu (K:=K)) rfl T.b_len dU (lc (jp 1) li)) li))))) (lv (re (i:=5) dP.nd (my (xz (K:=K)) (jp 1) (o0 yp (o0 rq (o0 rq (yg (K:=K) PySem.F.plainAttrs_list PySem.F.slot_list_index PySem.F.type_list_index R.gk (jp 1) (lc (jp 4) li)) lm) (pj b8 b9 rfl (lc (jp 0) (lc (o0 AC (sj (zu (K:=K)) rfl T.b_len dU (lc (jp 1) li)) lm) li)))) (sj (zu (K:=K)) rfl T.b_len dU (lc (jp 1) li))))) (lv (re (i:=6) dP.nd (sj (R.gh rfl) rfl T.b_min Vb (lc (o0 yh lm lm) (lc (pj IB IC rfl (lc (jp 0) (lc (R.cv c3 (jp 3) (my (xz (K:=K)) (uo (lc (jp 4) (lc (jp 5) li))) (pj b8 b9 rfl (lc (jp 0) (lc lm li)))) lm) li))) li)))) (lv (re (i:=7) dP.nd (R.cv c3 (jp 3) (jp 4) lm)) (lv (re (i:=8) dP.nd (pj b8 b9 rfl (lc (jp 0) (lc lm li)))) (lv (pc (u8 (zx (nh se (jp 8) lm) (zy (nh R.lt (jp 7) (o0 yh lm lm))))) (mk (mz (pf (lc ms (lc (jp 2) (lc (jp 4) (lc (o0 rq (o0 rq (jp 7) lm) (pj b8 b9 rfl (lc (jp 0) (lc (o0 AC (o0 yh lm lm) (jp 7)) li)))) li))))))) ph) (lv (pc (u8 (zx (nh se (jp 8) lm) (zy (nh ym (jp 7) lm)))) (mk (mz (pf (lc ms (lc (jp 2) (lc (jp 4) (lc (o0 AC (o0 yh lm lm) (pj b8 b9 rfl (lc (jp 0) (lc (jp 7) li)))) li))))))) ph) (lv (pc (nh se (jp 8) lm) (mk (mz (pf (lc ms (lc (jp 4) (lc (jp 5) (lc (jp 6) li))))))) ph) (mk (mz (pf (lc (my (xz (K:=K)) (uo (lc ms (lc ms li))) (o0 yp (jp 8) lm)) (lc (jp 4) (lc (jp 6) li)))))))))))))),?_⟩;refine⟨_,.inl (QZc gl),d,b,_,rfl,dk,by rw[el];omega,by rw[el];omega,λr1 H1 a0 a1 D1 k1=>?_⟩;rw[el]at a1;obtain⟨i,rfl⟩:=Int.eq_ofNat_of_zero_le a0;have hi:i<zs.length:=by omega
  have ai:nV (zs.map V.str) (i:Int)=some (.str zs[i]):=fQ (by rw[iK,lD hi];rfl);have EZ:=k1 _ _ gl nd nb;refine⟨_,QZc EZ,_,ai,?_⟩;dsimp only [aK];refine⟨.inl ⟨rfl,_,QZc EZ⟩,zs,EZ,getElem_mem hi,λj hj=>?_⟩;have hji:j=i:=yJ AB hj (lD hi);subst hji;refine⟨_,.inl (QZc EZ),d,b,_,rfl,D1,by rw[el];omega,by rw[el];omega,λr2 H2 b0 b1 D2 k2=>?_⟩;rw[el]at b1;have yr:=k2 _ _ EZ nd nb;refine⟨_,.inl (QZc yr),by rw[el];omega,?_⟩;rw[el];have ho0:0<=(((j:Int)+1+r2)%(zs.length:Int)):=Int.emod_nonneg _ Zo;have PU:(((j:Int)+1+r2)%(zs.length:Int))<zs.length:=Int.emod_lt_of_pos _ Zo;have hon:(((j:Int)+1+r2)%(zs.length:Int))≠(j:Int):=by
   by_cases r9:(j:Int)+1+r2<zs.length
   ·rw[Int.emod_eq_of_lt Zo r9];omega
   ·have:((j:Int)+1+r2)%(zs.length:Int)=(j:Int)+1+r2-zs.length:=by
     rw[<- Int.sub_emod_right,Int.emod_eq_of_lt Zo Zo]
    rw[this];omega
  obtain⟨o,ho⟩:=Int.eq_ofNat_of_zero_le ho0;have hoe:((j:Int)+1+r2)%(zs.length:Int)=((o:Nat):Int):=ho;dsimp only;rw[hoe];have T1:o<zs.length:=by omega
  have hio:j≠o:=by omega
  have ao:nV (zs.map V.str) (o:Int)=some (.str zs[o]):=fQ (by rw[iK,lD T1];rfl);have mi:=getElem_mem hi;have mo:=getElem_mem T1;have nio:zs[j]≠zs[o]:=λe=>hio (yJ AB (by rw[lD hi]) (by rw[lD T1,e]))
  refine⟨_,QZc yr,_,ao,?_⟩;dsimp only [aK];have one:∀(g:Int)(q:Str×Int),q∈[(zs[j],g)]->q.1∈zs:=λg q hq=>by rw[Zms.mp hq];exact mi
  have k02:=k1.trans k2;have gb2:=k02 _ _ gb YF YG;refine⟨⟨Zd,Zd,Zd⟩,?_⟩;refine⟨bk,rfl,.inl ⟨_,.inl gb2⟩,kW rfl,λp hp=>⟨d,b,2,rfl,D2.new hp,Zd,Zd,λr3 H3 c0 c1 D3 k3=>?_⟩⟩;have JI:=D2.ne hp;have gp:=k3 p _ aA JI.1 JI.2;have k03:=(k02.trans (.new hp)).trans k3;have gb3:=k03 _ _ gb YF YG;obtain⟨w',hw'⟩:∃w':Str,nV [V.str zs[j],V.str zs[o]] r3=some (.str w'):=by
   have:r3=0∨r3=1:=by omega
   rcases this with rfl|rfl
   ·exact⟨_,rfl⟩
   ·exact⟨_,rfl⟩
  obtain⟨o1,jn,ud⟩:=mU gb3 hf w';refine⟨_,QZc gp,_,hw',o1,jn,?_⟩;rw[ud];refine⟨d,b,f w',rfl,D3,zh w',λn H4 n1 D4 k4=>?_⟩;dsimp only [aK];have k04:=k03.trans k4;have gb4:=k04 _ _ gb YF YG;obtain⟨o2,YH,YI⟩:=mU gb4 hf zs[j];refine⟨bk,rfl,.inl ⟨_,.inl gb4⟩,o2,YH,?_⟩;rw[YI];dsimp only [aK];refine⟨d,b,6,rfl,D4,Zd,Zd,λr5 H5 e0 e1 D5 k5=>?_⟩;dsimp only [aK];have JJ:=k04.trans k5;obtain⟨m,KW,JG,hm⟩:∃m:Nat,1<=m/\m<=1000000000000/\(if (n:Int)<(10:Int)^(12:Int).toNat then (n:Int) else (10:Int)^(12:Int).toNat)=(m:Int):=by
   show ∃m:Nat,1<=m/\m<=1000000000000/\(if (n:Int)<1000000000000 then (n:Int) else 1000000000000)=(m:Int);by_cases hn:(n:Int)<1000000000000
   ·exact⟨n,n1,Zo,by rw[NE hn]⟩
   ·exact⟨1000000000000,Zd,Zd,by rw[IS hn];rfl⟩
  rw[hm];have hfz:=zh zs[j];rcases six e0 e1 with rfl|rfl|rfl|rfl|rfl|rfl
  ·-- 0
   refine⟨kW rfl,λp2 nu=>⟨Zd,_,QZc aA,_,rfl,aT rfl,λt G s6 gt=>?_⟩⟩;have s7:=(aF (o:=.lst [.str "add",.str "take"]) nu).trans s6;exact q t (.add zs[j] m) G ⟨⟨zc _ mi,KW,JG⟩,one _,λp hp=>nomatch hp⟩ (λ_ _ _ _ e=>nomatch e) gt (D5.same s7) (JJ.trans (hX s7))
  ·-- 1
   refine⟨kW rfl,λp2 nu=>⟨Zd,_,QZc aA,_,rfl,aT rfl,λt G s6 gt=>?_⟩⟩;have s7:=(aF (o:=.lst [.str "add",.str "take"]) nu).trans s6;exact q t (.take zs[j] m) G ⟨⟨zc _ mi,KW,JG⟩,one _,λp hp=>nomatch hp⟩ (λ_ _ _ _ e=>nomatch e) gt (D5.same s7) (JJ.trans (hX s7))
  ·-- 2
   refine⟨aT rfl,λt G s6 gt=>?_⟩;refine q t (.move zs[j] zs[o] m) G ⟨⟨zc _ mi,zc _ mo,nio,KW,JG⟩,λq hq=>?_,λp hp=>nomatch hp⟩ (λ_ _ _ _ e=>nomatch e) gt (D5.same s6) (JJ.trans (hX s6));simp only [bO,mem_cons,FM,or_false]at hq;rcases hq with rfl|rfl
   ·exact mi
   ·exact mo
  ·-- 3
   refine fN (λv G=>G=H5/\v=decide ((f zs[j]:Int)<1000000000000)) (λk hk=>⟨⟨Zd,Zd,Zd⟩,hk _ _ ⟨rfl,congrArg (λz=>decide ((f zs[j]:Int)<z)) (show(10:Int)^(12:Int).toNat=1000000000000 from rfl)⟩⟩) (λG hG=>?_) (λG hG=>?_)
   ·obtain⟨rfl,hb⟩:=hG;have X9:(f zs[j]:Int)<1000000000000:=WF hb.symm;refine⟨⟨Zd,Zd,Zd⟩,d,b,((1000000000000-f zs[j]:Nat):Int),?_,D5,Zo,Zo,λr6 H6 g0 g1 D6 k6=>?_⟩
    ·rw[show((1000000000000-f zs[j]:Nat):Int)=1000000000000-(f zs[j]:Int) by omega];rfl
    refine⟨aT rfl,λt G s6 gt=>?_⟩;have e6:(f zs[j]:Int)+1+r6=((f zs[j]+1+r6.toNat:Nat):Int):=by omega
    have gt':G t=some (.tup [.str "send",.str g,.str zs[j],.int ((f zs[j]+1+r6.toNat:Nat):Int)]):=by rw[<- e6];exact gt
    exact q t (.send g zs[j] (f zs[j]+1+r6.toNat)) G ⟨⟨hg,zc _ mi,Zo,Zo⟩,one _,λp hp=>by rw[Zms.mp hp];simp⟩ (λ_ _ _ _ e=>nomatch e) gt' (D6.same s6) ((JJ.trans k6).trans (hX s6))
   ·obtain⟨rfl,hb⟩:=hG;dsimp only [cK];refine⟨kW rfl,λp2 nu=>⟨Zd,_,QZc aA,_,rfl,aT rfl,λt G s6 gt=>?_⟩⟩;have s7:=(aF (o:=.lst [.str "add",.str "take"]) nu).trans s6;exact q t (.take zs[j] m) G ⟨⟨zc _ mi,KW,JG⟩,one _,λp hp=>nomatch hp⟩ (λ_ _ _ _ e=>nomatch e) gt (D5.same s7) (JJ.trans (hX s7))
  ·-- 4
   show if decide ((0:Int)<(f zs[j]:Int))=true then _ else _
   refine gV (λhb=>?_) (λhb=>?_)
   ·have X9:(0:Int)<(f zs[j]:Int):=WF hb;refine⟨⟨Zd,Zd,Zd⟩,d,b,(f zs[j]:Int),rfl,D5,Zo,Zo,λr6 H6 g0 g1 D6 k6=>?_⟩;refine⟨aT rfl,λt G s6 gt=>?_⟩;have e6:(10:Int)^(12:Int).toNat-r6=((1000000000000-r6.toNat:Nat):Int):=by show(1000000000000:Int)-r6=_;omega
    have gt':G t=some (.tup [.str "fetch",.str g,.str zs[j],.int ((1000000000000-r6.toNat:Nat):Int)]):=by rw[<- e6];exact gt
    exact q t (.fetch g zs[j] (1000000000000-r6.toNat)) G ⟨⟨hg,zc _ mi,Zo,Zo⟩,one _,λp hp=>by rw[Zms.mp hp];simp⟩ (λ_ _ _ _ e=>nomatch e) gt' (D6.same s6) ((JJ.trans k6).trans (hX s6))
   ·dsimp only [cK];refine⟨kW rfl,λp2 nu=>⟨Zd,_,QZc aA,_,rfl,aT rfl,λt G s6 gt=>?_⟩⟩;have s7:=(aF (o:=.lst [.str "add",.str "take"]) nu).trans s6;exact q t (.add zs[j] m) G ⟨⟨zc _ mi,KW,JG⟩,one _,λp hp=>nomatch hp⟩ (λ_ _ _ _ e=>nomatch e) gt (D5.same s7) (JJ.trans (hX s7))
  ·-- 5
   refine⟨kW rfl,λp2 nu=>⟨Zd,_,QZc aA,_,rfl,aT rfl,λt G s6 gt=>?_⟩⟩;have s7:=(aF (o:=.lst [.str "add",.str "take"]) nu).trans s6;exact q t (.take zs[j] m) G ⟨⟨zc _ mi,KW,JG⟩,one _,λp hp=>nomatch hp⟩ (λ_ _ _ _ e=>nomatch e) gt (D5.same s7) (JJ.trans (hX s7))
def rK:Sp:=λvs H Q _=>∃(bk t:TD)(prs:List (Str×Int))(f:Str->Nat)(x:Dd)(y:An),vs=[.ref bk,.ref t]/\H bk=some (.dK (fM prs))/\(∀z,bM prs z=(f z:Int))/\H t=some (.tup x.vs)/\aI f x=some y/\∀t' H',Same H H'->H' t'=some (.tup y.vs)->Q (.ref t') H'
def yS(T:Txt K mg)(D:DefAt K mg "_law_answer" gE BV):aJ P w K mg base 1 "_law_answer" BV rK:=by
 refine D.go eZ (λvs H Q E h=>?_) (λf cdv A outer s H vs Q E hr h=>?_)
 ·obtain⟨bk,t,prs,f,x,y,rfl,_⟩:=h;rfl
 ·obtain⟨bk,t,prs,f,x,y,rfl,gb,hf,gt,hy,q⟩:=h;have c3:=cC hr;refine⟨_,(lv (re (i:=2) eZ.nd (R.cv c3 (jp 0) (my (ng (K:=K)) (jp 1) (sh lm)) lm)) (lv (pc (nh (R.cw (K:=K)) (my (ng (K:=K)) (jp 1) lm) (pf (lc ms (lc ms li)))) (lv (pc (nh ym (o0 rq (jp 2) (my (ng (K:=K)) (jp 1) (sh lm))) (o0 yh lm lm)) (mk (mz (pf (lc ms (lc (jp 2) li))))) ph) (mk (mz (pf (lc ms (lc (o0 rq (jp 2) (my (ng (K:=K)) (jp 1) (sh lm))) li)))))) ph) (lv (pc (nh se (my (ng (K:=K)) (jp 1) lm) ms) (lv (re (i:=2) eZ.nd (R.cv c3 (jp 0) (my (ng (K:=K)) (jp 1) lm) lm)) (lv (re (i:=3) eZ.nd (R.cv c3 (jp 0) (my (ng (K:=K)) (jp 1) lm) lm)) (lv (pc (nh R.lt (jp 2) (my (ng (K:=K)) (jp 1) lm)) (mk (mz (pf (lc ms (lc (jp 2) li))))) ph) (lv (pc (nh ym (o0 rq (jp 3) (my (ng (K:=K)) (jp 1) lm)) (o0 yh lm lm)) (mk (mz (pf (lc ms (lc (jp 3) li))))) ph) (mk (mz (pf (lc ms (lc (o0 AC (jp 2) (my (ng (K:=K)) (jp 1) lm)) (lc (o0 rq (jp 3) (my (ng (K:=K)) (jp 1) lm)) li)))))))))) ph) (lv (pc (nh R.lt (jp 2) (my (ng (K:=K)) (jp 1) (sh lm))) (mk (mz (pf (lc ms (lc (jp 2) li))))) ph) (mk (mz (pf (lc ms (lc (o0 AC (jp 2) (my (ng (K:=K)) (jp 1) (sh lm))) li))))))))),?_⟩;have QM:(10:Int)^(12:Int).toNat=1000000000000:=rfl
  cases x with
  | add a n=>
   obtain⟨o1,jn,ud⟩:=mU gb hf a;refine⟨bk,rfl,.inl ⟨_,.inl gb⟩,_,QZd gt,_,rfl,o1,jn,?_⟩;rw[ud];dsimp only [aK];refine⟨_,QZd gt,_,rfl,aT rfl,λt1 H1 s1 g1=>⟨t1,_,rfl,.inr (QZd g1),by kernel_rfl,by kernel_rfl,?_⟩⟩;rw[show lO (.str "add") [.str "add",.str "fetch"]=true by kernel_rfl];have vg:=s1 _ _ gt;dsimp only [mB];refine lW rfl ?_;refine fN (λv G=>G=H1/\v=decide ((1000000000000:Int)<(f a:Int)+(n:Int))) (λk hk=>⟨_,QZd vg,_,rfl,⟨Zd,Zd,Zd⟩,hk _ _ ⟨rfl,congrArg (λz=>decide (z<(f a:Int)+(n:Int))) QM⟩⟩) (λG hG=>?_) (λG hG=>?_)
   ·obtain⟨rfl,hb⟩:=hG;have X9:=WF hb.symm;rw[show aI f (.add a n)=some (.full (f a)) from NE Zo]at hy;cases hy;exact⟨aT rfl,λt' G s' g=>q t' G (s1.trans s') g⟩
   ·obtain⟨rfl,hb⟩:=hG;have X9:=U4 hb.symm;rw[show aI f (.add a n)=some (.is1 (f a+n)) from IS Zo]at hy;cases hy;dsimp only [cK];exact⟨_,QZd vg,_,rfl,aT rfl,λt' G s' g=>q t' G (s1.trans s') g⟩
  | take a n=>
   obtain⟨o1,jn,ud⟩:=mU gb hf a;refine⟨bk,rfl,.inl ⟨_,.inl gb⟩,_,QZd gt,_,rfl,o1,jn,?_⟩;rw[ud];dsimp only [aK];refine⟨_,QZd gt,_,rfl,aT rfl,λt1 H1 s1 g1=>⟨t1,_,rfl,.inr (QZd g1),by kernel_rfl,by kernel_rfl,?_⟩⟩;rw[show lO (.str "take") [.str "add",.str "fetch"]=false by kernel_rfl];have vg:=s1 _ _ gt;dsimp only [cK];refine⟨_,QZd vg,_,rfl,?_⟩;dsimp only [tC,oZ,mB];refine fR (by kernel_rfl) ?_;dsimp only [cK];refine fN (λv G=>G=H1/\v=decide ((f a:Int)<(n:Int))) (λk hk=>⟨_,QZd vg,_,rfl,hk _ _ ⟨rfl,rfl⟩⟩) (λG hG=>?_) (λG hG=>?_)
   ·obtain⟨rfl,hb⟩:=hG;have X9:=WF hb.symm;rw[show aI f (.take a n)=some (.short (f a)) from NE Zo]at hy;cases hy;exact⟨aT rfl,λt' G s' g=>q t' G (s1.trans s') g⟩
   ·obtain⟨rfl,hb⟩:=hG;have X9:=U4 hb.symm;rw[show aI f (.take a n)=some (.is1 (f a-n)) from IS Zo]at hy;cases hy;dsimp only [cK];refine⟨_,QZd vg,_,rfl,aT rfl,λt' G s' g=>q t' G (s1.trans s') ?_⟩;show G t'=some (.tup [.str "is",.int ((f a-n:Nat):Int)]);rw[show((f a-n:Nat):Int)=(f a:Int)-(n:Int) by omega];exact g
  | move a b n=>
   obtain⟨o1,jn,ud⟩:=mU gb hf b;refine⟨bk,rfl,.inl ⟨_,.inl gb⟩,_,QZd gt,_,rfl,o1,jn,?_⟩;rw[ud];dsimp only [aK];refine⟨_,QZd gt,_,rfl,aT rfl,λt1 H1 s1 g1=>⟨t1,_,rfl,.inr (QZd g1),by kernel_rfl,by kernel_rfl,?_⟩⟩;rw[show lO (.str "move") [.str "add",.str "fetch"]=false by kernel_rfl];have vg:=s1 _ _ gt;refine⟨_,QZd vg,_,rfl,?_⟩;have UN:=s1 _ _ gb;obtain⟨o2,YH,YI⟩:=mU UN hf a;refine⟨bk,rfl,.inl ⟨_,.inl UN⟩,_,QZd vg,_,rfl,o2,YH,?_⟩;rw[YI];dsimp only [aK];obtain⟨o3,dg3,eo3⟩:=mU UN hf b;refine⟨bk,rfl,.inl ⟨_,.inl UN⟩,_,QZd vg,_,rfl,o3,dg3,?_⟩;rw[eo3];dsimp only [aK];refine fN (λv G=>G=H1/\v=decide ((f a:Int)<(n:Int))) (λk hk=>⟨_,QZd vg,_,rfl,hk _ _ ⟨rfl,rfl⟩⟩) (λG hG=>?_) (λG hG=>?_)
   ·obtain⟨rfl,hb⟩:=hG;have X9:=WF hb.symm;rw[show aI f (.move a b n)=some (.short (f a)) from NE Zo]at hy;cases hy;exact⟨aT rfl,λt' G s' g=>q t' G (s1.trans s') g⟩
   obtain⟨rfl,hb⟩:=hG;have X9:=U4 hb.symm;dsimp only [cK];refine fN (λv G'=>G'=G/\v=decide ((1000000000000:Int)<(f b:Int)+(n:Int))) (λk hk=>⟨_,QZd vg,_,rfl,⟨Zd,Zd,Zd⟩,hk _ _ ⟨rfl,congrArg (λz=>decide (z<(f b:Int)+(n:Int))) QM⟩⟩) (λG2 hG=>?_) (λG2 hG=>?_)
   ·obtain⟨rfl,YJ⟩:=hG;have YK:=WF YJ.symm;have e:aI f (.move a b n)=some (.full (f b)):=by
     show(if f a<n then _ else if 1000000000000<f b+n then _ else _)=_;rw[IS Zo,NE Zo]
    rw[e]at hy;cases hy;exact⟨aT rfl,λt' G s' g=>q t' G (s1.trans s') g⟩
   ·obtain⟨rfl,YJ⟩:=hG;have YK:=U4 YJ.symm;have e:aI f (.move a b n)=some (.is2 (f a-n) (f b+n)):=by
     show(if f a<n then _ else if 1000000000000<f b+n then _ else _)=_;rw[IS Zo,IS Zo]
    rw[e]at hy;cases hy;dsimp only [cK];refine⟨_,QZd vg,_,rfl,_,QZd vg,_,rfl,aT rfl,λt' G s' g=>q t' G (s1.trans s') ?_⟩;show G t'=some (.tup [.str "is",.int ((f a-n:Nat):Int),.int ((f b+n:Nat):Int)]);rw[show((f a-n:Nat):Int)=(f a:Int)-(n:Int) by omega];exact g
  | send g a n=>
   obtain⟨o1,jn,ud⟩:=mU gb hf a;refine⟨bk,rfl,.inl ⟨_,.inl gb⟩,_,QZd gt,_,rfl,o1,jn,?_⟩;rw[ud];dsimp only [aK];refine⟨_,QZd gt,_,rfl,aT rfl,λt1 H1 s1 g1=>⟨t1,_,rfl,.inr (QZd g1),by kernel_rfl,by kernel_rfl,?_⟩⟩;rw[show lO (.str "send") [.str "add",.str "fetch"]=false by kernel_rfl];have vg:=s1 _ _ gt;dsimp only [cK];refine⟨_,QZd vg,_,rfl,?_⟩;dsimp only [tC,oZ,mB];refine fR (by kernel_rfl) ?_;dsimp only [cK];refine fN (λv G=>G=H1/\v=decide ((f a:Int)<(n:Int))) (λk hk=>⟨_,QZd vg,_,rfl,hk _ _ ⟨rfl,rfl⟩⟩) (λG hG=>?_) (λG hG=>?_)
   ·obtain⟨rfl,hb⟩:=hG;have X9:=WF hb.symm;rw[show aI f (.send g a n)=some (.short (f a)) from NE Zo]at hy;cases hy;exact⟨aT rfl,λt' G s' g=>q t' G (s1.trans s') g⟩
   ·obtain⟨rfl,hb⟩:=hG;have X9:=U4 hb.symm;rw[show aI f (.send g a n)=none from IS Zo]at hy;cases hy
  | fetch g a n=>
   obtain⟨o1,jn,ud⟩:=mU gb hf a;refine⟨bk,rfl,.inl ⟨_,.inl gb⟩,_,QZd gt,_,rfl,o1,jn,?_⟩;rw[ud];dsimp only [aK];refine⟨_,QZd gt,_,rfl,aT rfl,λt1 H1 s1 g1=>⟨t1,_,rfl,.inr (QZd g1),by kernel_rfl,by kernel_rfl,?_⟩⟩;rw[show lO (.str "fetch") [.str "add",.str "fetch"]=true by kernel_rfl];have vg:=s1 _ _ gt;dsimp only [mB];refine lW rfl ?_;refine fN (λv G=>G=H1/\v=decide ((1000000000000:Int)<(f a:Int)+(n:Int))) (λk hk=>⟨_,QZd vg,_,rfl,⟨Zd,Zd,Zd⟩,hk _ _ ⟨rfl,congrArg (λz=>decide (z<(f a:Int)+(n:Int))) QM⟩⟩) (λG hG=>?_) (λG hG=>?_)
   ·obtain⟨rfl,hb⟩:=hG;have X9:=WF hb.symm;rw[show aI f (.fetch g a n)=some (.full (f a)) from NE Zo]at hy;cases hy;exact⟨aT rfl,λt' G s' g=>q t' G (s1.trans s') g⟩
   ·obtain⟨rfl,hb⟩:=hG;have X9:=U4 hb.symm;rw[show aI f (.fetch g a n)=none from IS Zo]at hy;cases hy
  | pass g g' a n=>cases hy
def kA{f:Str->Nat}{x:Dd}{y:An}(h:aI f x=some y):(∃m,y=.full m)∨(∃m,y=.short m)∨(∃a n v,x=.add a n/\y=.is1 v)∨(∃a n v,x=.take a n/\y=.is1 v)∨∃a b n v u,x=.move a b n/\y=.is2 v u:=by
 cases x with
 | add a n=>
  simp only [aI]at h;split at h<;>cases h
  ·exact .inl ⟨_,rfl⟩
  ·exact .inr (.inr (.inl ⟨_,_,_,rfl,rfl⟩))
 | take a n=>
  simp only [aI]at h;split at h<;>cases h
  ·exact .inr (.inl ⟨_,rfl⟩)
  ·exact .inr (.inr (.inr (.inl ⟨_,_,_,rfl,rfl⟩)))
 | move a b n=>
  simp only [aI]at h;split at h
  ·cases h;exact .inr (.inl ⟨_,rfl⟩)
  ·split at h<;>cases h
   ·exact .inl ⟨_,rfl⟩
   ·exact .inr (.inr (.inr (.inr ⟨_,_,_,_,_,rfl,rfl⟩)))
 | send g a n=>
  simp only [aI]at h;split at h<;>cases h;exact .inr (.inl ⟨_,rfl⟩)
 | fetch g a n=>
  simp only [aI]at h;split at h<;>cases h;exact .inl ⟨_,rfl⟩
 | pass g g' a n=>cases h
def oR:Dd->An->List (Str×Int)
 | .add a _,.is1 v=>[(a,v)]
 | .take a _,.is1 v=>[(a,v)]
 | .move a b _,.is2 v u=>[(a,v),(b,u)]
 | _,_=>[]
def pE:Sp:=λvs H Q _=>∃(bk t z:TD)(prs:List (Str×Int))(f:Str->Nat)(x:Dd)(y:An),vs=[.ref bk,.ref t,.ref z]/\H bk=some (.dK (fM prs))/\(prs.map (·.1)).Nodup/\prs.length<=90/\H t=some (.tup x.vs)/\H z=some (.tup y.vs)/\aI f x=some y ∧
 ∀H',H' bk=some (.dK (fM ((oR x y).foldl (λp q=>dQ p q.1 q.2) prs)))->K1 bk H H'->Q .non H'
def wH(T:Txt K mg)(D:DefAt K mg "_law_changed" eY QZD):aJ P w K mg base 1 "_law_changed" QZD pE:=by
 refine D.go rC (λvs H Q E h=>?_) (λf cdv A outer s H vs Q E hr h=>?_)
 ·obtain⟨bk,t,z,prs,f,x,y,rfl,_⟩:=h;rfl
 ·obtain⟨bk,t,z,prs,f,x,y,rfl,gb,AB,hl,gt,gz,hy,q⟩:=h;have c3:=cC hr;refine⟨_,(mk (pc (u8 (zx (nh se (my (ng (K:=K)) (jp 2) lm) ms) (zy (nh se (my (ng (K:=K)) (jp 1) lm) ms)))) (lv (yb (my (ng (K:=K)) (jp 2) lm) (yc (jp 0) (my (ng (K:=K)) (jp 1) lm) (ye c3))) (mk (yb (my (ng (K:=K)) (jp 2) lm) (yc (jp 0) (my (ng (K:=K)) (jp 1) lm) (ye c3))))) (mk (pc (nh se (my (ng (K:=K)) (jp 2) lm) ms) (mk (yb (my (ng (K:=K)) (jp 2) lm) (yc (jp 0) (my (ng (K:=K)) (jp 1) lm) (ye c3)))) ph)))),?_⟩;have put:∀ {G:Hp}{p:List (Str×Int)}{n:Str}{v:Int},G bk=some (.dK (fM p))->p.length<=91->DPut G bk (.str n) (.int v) (aH G bk (.dK (fM (dQ p n v)))):=λ{G p n v} g hp=>by
   have:=DPut.k (k:=Sum.inr n) (v:=.int v) g (rY (m:=1000) (by unfold fM;rw[bP];omega) Zd)
   rwa [rG]at this
  have sl:∀(p:List (Str×Int))(n:Str)(v:Int),(dQ p n v).length<=p.length+1:=λp n v=>by
   have:=congrArg length (kM (prs:=p) (n:=n) (v:=v));rw[bP]at this;rw[this];split<;>simp
  rcases kA hy with⟨m,rfl⟩|⟨m,rfl⟩|⟨a,n,v,rfl,rfl⟩|⟨a,n,v,rfl,rfl⟩|⟨a,b,n,v,u,rfl,rfl⟩
  ·-- full
   have e0:(oR x (.full m)).foldl (λp q=>dQ p q.1 q.2) prs=prs:=by cases x<;>rfl
   refine jG (λv G=>G=H/\v=false) (λk hk=>⟨_,QZd gz,_,rfl,?_⟩) (λG hG=>nomatch hG.2) (λG hG=>?_)
   ·dsimp only [tC,oZ,mB];exact fR (by kernel_rfl) (hk _ _ ⟨rfl,rfl⟩)
   ·obtain⟨rfl,_⟩:=hG;refine jG (λv G'=>G'=G/\v=false) (λk hk=>⟨_,QZd gz,_,rfl,?_⟩) (λG hG=>nomatch hG.2) (λG hG=>?_)
    ·dsimp only [tC,oZ,mB];exact hk _ _ ⟨rfl,by kernel_rfl⟩
    ·obtain⟨rfl,_⟩:=hG;exact q _ (by rw[e0];exact gb) λb u e _=>e
  ·-- short
   have e0:(oR x (.short m)).foldl (λp q=>dQ p q.1 q.2) prs=prs:=by cases x<;>rfl
   refine jG (λv G=>G=H/\v=false) (λk hk=>⟨_,QZd gz,_,rfl,?_⟩) (λG hG=>nomatch hG.2) (λG hG=>?_)
   ·dsimp only [tC,oZ,mB];exact fR (by kernel_rfl) (hk _ _ ⟨rfl,rfl⟩)
   ·obtain⟨rfl,_⟩:=hG;refine jG (λv G'=>G'=G/\v=false) (λk hk=>⟨_,QZd gz,_,rfl,?_⟩) (λG hG=>nomatch hG.2) (λG hG=>?_)
    ·dsimp only [tC,oZ,mB];exact hk _ _ ⟨rfl,by kernel_rfl⟩
    ·obtain⟨rfl,_⟩:=hG;exact q _ (by rw[e0];exact gb) λb u e _=>e
  ·-- add
   refine jG (λv G=>G=H/\v=false) (λk hk=>⟨_,QZd gz,_,rfl,?_⟩) (λG hG=>nomatch hG.2) (λG hG=>?_)
   ·dsimp only [tC,oZ,mB];refine lW (by kernel_rfl) ⟨_,QZd gt,_,rfl,?_⟩;dsimp only [tC,oZ,mB];exact hk _ _ ⟨rfl,by kernel_rfl⟩
   ·obtain⟨rfl,_⟩:=hG;refine jG (λv G'=>G'=G/\v=true) (λk hk=>⟨_,QZd gz,_,rfl,?_⟩) (λG hG=>?_) (λG hG=>nomatch hG.2)
    ·dsimp only [tC,oZ,mB];exact hk _ _ ⟨rfl,by kernel_rfl⟩
    ·obtain⟨rfl,_⟩:=hG;exact⟨_,QZd gz,_,rfl,_,QZd gt,_,rfl,bk,_,rfl,put gb Zo,q _ aA λb u e hb=>by rw[aE hb];exact e⟩
  ·-- take
   refine jG (λv G=>G=H/\v=false) (λk hk=>⟨_,QZd gz,_,rfl,?_⟩) (λG hG=>nomatch hG.2) (λG hG=>?_)
   ·dsimp only [tC,oZ,mB];refine lW (by kernel_rfl) ⟨_,QZd gt,_,rfl,?_⟩;dsimp only [tC,oZ,mB];exact hk _ _ ⟨rfl,by kernel_rfl⟩
   ·obtain⟨rfl,_⟩:=hG;refine jG (λv G'=>G'=G/\v=true) (λk hk=>⟨_,QZd gz,_,rfl,?_⟩) (λG hG=>?_) (λG hG=>nomatch hG.2)
    ·dsimp only [tC,oZ,mB];exact hk _ _ ⟨rfl,by kernel_rfl⟩
    ·obtain⟨rfl,_⟩:=hG;exact⟨_,QZd gz,_,rfl,_,QZd gt,_,rfl,bk,_,rfl,put gb Zo,q _ aA λb u e hb=>by rw[aE hb];exact e⟩
  ·-- move
   refine jG (λv G=>G=H/\v=true) (λk hk=>⟨_,QZd gz,_,rfl,?_⟩) (λG hG=>?_) (λG hG=>nomatch hG.2)
   ·dsimp only [tC,oZ,mB];refine lW (by kernel_rfl) ⟨_,QZd gt,_,rfl,?_⟩;dsimp only [tC,oZ,mB];exact hk _ _ ⟨rfl,by kernel_rfl⟩
   ·obtain⟨rfl,_⟩:=hG;have g1:(aH G bk (.dK (fM (dQ prs a v)))) bk=some (.dK (fM (dQ prs a v))):=aA;have nt:t≠bk:=aQ gt gb λz=>nomatch z
    have nz:z≠bk:=aQ gz gb λz=>nomatch z
    refine⟨_,QZd gz,_,rfl,_,QZd gt,_,rfl,bk,_,rfl,put gb Zo,?_⟩;dsimp only;refine⟨_,QZd (by rw[aE nz];exact gz),_,rfl,_,QZd (by rw[aE nt];exact gt),_,rfl,bk,_,rfl,put g1 (by have:=sl prs a v;omega),?_⟩;exact q _ aA λb u e hb=>by rw[aE hb,aE hb];exact e
def wI:Dd->List Str
 | .add a _=>[a]
 | .take a _=>[a]
 | .move a b _=>[a,b]
 | .send _ a _=>[a]
 | .fetch _ a _=>[a]
 | .pass _ _ _ _=>[]
def wJ(x:Dd)(z:Str):z∈wI x↔z∈fO x:=by
 cases x with
 | move a b n=>exact(dC [a,b]).mem_iff.symm
 | _=>exact Iff.rfl
def Wh(x:Dd):(wI x).length<=2:=by cases x<;>simp[wI]
def gK(x y:Dd):gT x y=true↔∃z,z∈wI x/\z∈wI y:=by
 unfold gT;rw[any_eq_true];constructor
 ·rintro⟨z,h1,h2⟩;exact⟨z,(wJ x z).mpr h1,(wJ y z).mpr (WF h2)⟩
 ·rintro⟨z,h1,h2⟩;exact⟨z,(wJ x z).mp h1,UV ((wJ y z).mp h2)⟩
def uH:Sp:=λvs H Q _=>∃(t:TD)(x:Dd),vs=[.ref t]/\H t=some (.tup x.vs)/\(∀g g' a n,x≠.pass g g' a n)/\∀l H',Same H H'->H' l=some (.lst ((wI x).map V.str))->Q (.ref l) H'
def As(T:Txt K mg)(D:DefAt K mg "_law_names" hJ QZC):aJ P w K mg base 1 "_law_names" QZC uH:=by
 refine D.go wB (λvs H Q E h=>?_) (λf cdv A outer s H vs Q E hr h=>?_)
 ·obtain⟨t,x,rfl,_⟩:=h;rfl
 ·obtain⟨t,x,rfl,g,DE,q⟩:=h;refine⟨_,(lv (pc (nh (R.cw (K:=K)) (my (ng (K:=K)) (jp 0) lm) (pf (lc ms (lc ms li)))) (mk (mz (uo (lc (my (ng (K:=K)) (jp 0) lm) li)))) ph) (mk (mz (yo (R.fm (K:=K)) rfl T.b_list pR (lc (xx zt (jp 0) (tz lm) (tz (sh lm))) li))))),?_⟩
  cases x with
  | move a b n=>
   refine⟨_,QZd g,_,rfl,aT rfl,λt1 H1 s1 g1=>⟨t1,_,rfl,.inr (QZd g1),by kernel_rfl,by kernel_rfl,?_⟩⟩;rw[show lO (.str "move") [.str "send",.str "fetch"]=false by kernel_rfl];dsimp only [mB];refine fR rfl ?_;dsimp only [cK];exact⟨_,s1 _ _ g,λp H2 s2 g2=>⟨_,.inr (QZd g2),λl hl=>q l _ ((s1.trans s2).trans (aF hl)) aA⟩⟩
  | add a n=>
   refine⟨_,QZd g,_,rfl,aT rfl,λt1 H1 s1 g1=>⟨t1,_,rfl,.inr (QZd g1),by kernel_rfl,by kernel_rfl,?_⟩⟩;rw[show lO (.str "add") [.str "send",.str "fetch"]=false by kernel_rfl];dsimp only [mB];refine fR rfl ?_;dsimp only [cK];exact⟨_,s1 _ _ g,λp H2 s2 g2=>⟨_,.inr (QZd g2),λl hl=>q l _ ((s1.trans s2).trans (aF hl)) aA⟩⟩
  | take a n=>
   refine⟨_,QZd g,_,rfl,aT rfl,λt1 H1 s1 g1=>⟨t1,_,rfl,.inr (QZd g1),by kernel_rfl,by kernel_rfl,?_⟩⟩;rw[show lO (.str "take") [.str "send",.str "fetch"]=false by kernel_rfl];dsimp only [mB];refine fR rfl ?_;dsimp only [cK];exact⟨_,s1 _ _ g,λp H2 s2 g2=>⟨_,.inr (QZd g2),λl hl=>q l _ ((s1.trans s2).trans (aF hl)) aA⟩⟩
  | send g0 a n=>
   refine⟨_,QZd g,_,rfl,aT rfl,λt1 H1 s1 g1=>⟨t1,_,rfl,.inr (QZd g1),by kernel_rfl,by kernel_rfl,?_⟩⟩;rw[show lO (.str "send") [.str "send",.str "fetch"]=true by kernel_rfl];dsimp only [mB];refine lW rfl ?_;exact⟨_,QZd (s1 _ _ g),_,rfl,kW rfl,λp hp=>q p _ (s1.trans (aF hp)) aA⟩
  | fetch g0 a n=>
   refine⟨_,QZd g,_,rfl,aT rfl,λt1 H1 s1 g1=>⟨t1,_,rfl,.inr (QZd g1),by kernel_rfl,by kernel_rfl,?_⟩⟩;rw[show lO (.str "fetch") [.str "send",.str "fetch"]=true by kernel_rfl];dsimp only [mB];refine lW rfl ?_;exact⟨_,QZd (s1 _ _ g),_,rfl,kW rfl,λp hp=>q p _ (s1.trans (aF hp)) aA⟩
  | pass a b c n=>exact IQ rfl (DE _ _ _ _)
def uI:Sp:=λvs H Q _=>∃(bk t:TD)(prs:List (Str×Int))(f:Str->Nat)(x:Dd),vs=[.ref bk,.ref t]/\H bk=some (.dK (fM prs))/\(∀z,bM prs z=(f z:Int))/\H t=some (.tup x.vs)/\(∀g g' a n,x≠.pass g g' a n)/\Q (.bl (aI f x).isSome) H
inductive TbV(f:Str->Nat)(H:Hp)(r:Rn):V->Prop
 | new:r.st="new"->TbV f H r (.str "new")
 | done {z:TD}{y:An}:r.st="written"->H z=some (.tup y.vs)->aI f r.x=some y->TbV f H r (.ref z)
def TbV.tk{f:Str->Nat}{H H':Hp}{r:Rn}{v:V}(k:TK H H'):TbV f H r v->TbV f H' r v
 | .new e=>.new e
 | .done e g hy=>.done e (k _ _ g) hy
def TbAt(f:Str->Nat)(H:Hp)(r:Rn)(kv:bC×V):Prop:=kv.1=Sum.inl (r.n:Int)/\∃t v,kv.2=.ref t/\H t=some (.tup [.ref r.d,v])/\TbV f H r v
def TbAt.tk{f:Str->Nat}{H H':Hp}{r:Rn}{kv:bC×V}(h:TbAt f H r kv)(k:TK H H'):TbAt f H' r kv:=let ⟨e,t,v,e2,g,hv⟩:=h;⟨e,t,v,e2,k _ _ g,hv.tk k⟩
def Dc{f:Str->Nat}{H:Hp}{rs:List Rn}{kvs:List (bC×V)}(h:Paired (TbAt f H) rs kvs):kvs.map (·.1)=(rs.map λr=>(r.n:Int)).map Sum.inl:=by
 induction h with
 | nil=>rfl
 | cons h t ih=>rw[map_cons,ih,h.1];rfl
def oS{f:Str->Nat}{H:Hp}{rs:List Rn}{kvs:List (bC×V)}(h:Paired (TbAt f H) rs kvs)(hu:rs.Pairwise λr r'=>r.n<r'.n){r:Rn}(hr:r∈rs):∃t v,aV kvs (Sum.inl (r.n:Int))=some (.ref t)/\H t=some (.tup [.ref r.d,v])/\TbV f H r v:=by
 induction h with
 | nil=>cases hr
 | @cons r0 kv rs kvs h t ih=>
  obtain⟨h1,h2⟩:=pairwise_cons.mp hu;rcases mem_cons.mp hr with rfl|m
  ·obtain⟨e,t0,v,e2,g,hv⟩:=h;exact⟨t0,v,by rw[bV e,e2],g,hv⟩
  ·have r9:=h1 r m;rw[bR (λe=>by rw[h.1]at e;have e':(r0.n:Int)=(r.n:Int):=Sum.inl.inj e;omega)];exact ih h2 m
def Wi{f:Str->Nat}{H:Hp}{pre post:List Rn}{r r':Rn}{kvs:List (bC×V)}{t:TD}(h:Paired (TbAt f H) (pre++r::post) kvs)(hu:(pre++r::post).Pairwise λr r'=>r.n<r'.n)(hn:r'.n=r.n){v:V}(g:H t=some (.tup [.ref r'.d,v]))(hvv:TbV f H r' v):Paired (TbAt f H) (pre++r'::post) (bB kvs (Sum.inl (r.n:Int)) (.ref t)):=by
 obtain⟨t0,v0,hv,_⟩:=oS h hu (r:=r) Zs;unfold bB;rw[NE (by rw[cM,hv];rfl)];clear hv;induction pre generalizing kvs with
 | nil=>
  cases h with
  | cons h1 h2=>
   have hu':=(pairwise_cons.mp hu).1;rw[map_cons,NE h1.1];refine .cons ⟨by rw[h1.1,hn],t,v,rfl,g,hvv⟩ ?_;have:∀ {rs:List Rn}{kvs:List (bC×V)},Paired (TbAt f H) rs kvs->(∀a∈rs,r.n<a.n)->Paired (TbAt f H) rs (kvs.map λkv=>if kv.1=Sum.inl (r.n:Int) then (kv.1,V.ref t) else kv):=by
    intro rs kvs p;induction p with
    | nil=>intro _;exact .nil
    | @cons a kv rs kvs h t ih=>
     intro hl;rw[map_cons,IS (λe=>by rw[h.1]at e;have e':(a.n:Int)=(r.n:Int):=Sum.inl.inj e;have:=hl a Zs;omega)];exact .cons h (ih λb hb=>hl b (fL _ hb))
   exact this h2 hu'
 | cons a pre ih=>
  cases h with
  | cons h1 h2=>
   obtain⟨u1,u2⟩:=pairwise_cons.mp hu;rw[map_cons,IS (λe=>by rw[h1.1]at e;have e':(a.n:Int)=(r.n:Int):=Sum.inl.inj e;have:=u1 r Zs;omega)];exact .cons h1 (ih h2 u2)
def Qm{f:Str->Nat}{H:Hp}{rs:List Rn}{kvs:List (bC×V)}(h:Paired (TbAt f H) rs kvs)(n:Nat):Paired (TbAt f H) (rs.filter λr=>decide (r.n≠n)) (bI kvs (Sum.inl (n:Int))):=by
 induction h with
 | nil=>exact .nil
 | @cons r kv rs kvs h t ih=>
  by_cases e:r.n=n
  ·rw[tD (by rw[h.1,e]),filter_cons,IS (by simp[e])];exact ih
  ·rw[nX (by rw[h.1];intro z;have:=Sum.inl.inj z;omega),filter_cons,NE (by simp[e])];exact .cons h ih
def At{rs:List Rn}(hu:rs.Pairwise λr r'=>r.n<r'.n){r r':Rn}(h:r∈rs)(h':r'∈rs)(e:r.n=r'.n):r=r':=by
 obtain⟨i,hi,rfl⟩:=mem_iff_getElem.mp h;obtain⟨j,hj,rfl⟩:=mem_iff_getElem.mp h';have p:=List.pairwise_iff_getElem.mp hu;rcases lt_trichotomy i j with z|z|z
 ·have:=p i j hi hj z;omega
 ·subst z;rfl
 ·have:=p j i hj hi z;omega
def hdV(rs:List Rn):V:=match rs with|[]=>.non|r::_=>.int (r.n:Int)
def Au(T:Txt K mg)(D:DefAt K mg "_law_is_early" eG BV):aJ P w K mg base 1 "_law_is_early" BV uI:=by
 refine D.go jJ (λvs H Q E h=>?_) (λf' cdv A outer s H vs Q E hr h=>?_)
 ·obtain⟨bk,t,prs,f,x,rfl,_⟩:=h;rfl
 ·obtain⟨bk,t,prs,f,x,rfl,gb,hf,gt,DE,q⟩:=h;have c3:=cC hr;refine⟨_,(lv (re (i:=2) jJ.nd (R.cv c3 (jp 0) (my (ng (K:=K)) (jp 1) (sh lm)) lm)) (mk (mz (R.jh (R.or (R.fk (yk se (my (ng (K:=K)) (jp 1) lm) ms) (R.dn (yk R.ge (jp 2) (my (ng (K:=K)) (jp 1) lm)))) (R.dn (R.fk (yk se (my (ng (K:=K)) (jp 1) lm) ms) (R.dn (yk R.le (o0 rq (jp 2) (my (ng (K:=K)) (jp 1) lm)) (o0 yh lm lm)))))))))),?_⟩;have QM:(10:Int)^(12:Int).toNat=1000000000000:=rfl
  cases x with
  | add a n=>
   obtain⟨o1,jn,ud⟩:=mU gb hf a;refine⟨bk,rfl,.inl ⟨_,.inl gb⟩,_,QZd gt,_,rfl,o1,jn,?_⟩;rw[ud];dsimp only [aK];refine⟨_,QZd gt,_,rfl,?_⟩;dsimp only [tC,oZ,mB];refine fR (by kernel_rfl) ?_;refine fR rfl ?_;refine⟨_,QZd gt,_,rfl,?_⟩;dsimp only [tC,oZ,mB];refine fR (by kernel_rfl) ?_;rw[show(aI f (.add a n)).isSome=true by simp only [aI];split<;>first|rfl|(split<;>rfl)]at q;exact q
  | take a n=>
   obtain⟨o1,jn,ud⟩:=mU gb hf a;refine⟨bk,rfl,.inl ⟨_,.inl gb⟩,_,QZd gt,_,rfl,o1,jn,?_⟩;rw[ud];dsimp only [aK];refine⟨_,QZd gt,_,rfl,?_⟩;dsimp only [tC,oZ,mB];refine fR (by kernel_rfl) ?_;refine fR rfl ?_;refine⟨_,QZd gt,_,rfl,?_⟩;dsimp only [tC,oZ,mB];refine fR (by kernel_rfl) ?_;rw[show(aI f (.take a n)).isSome=true by simp only [aI];split<;>first|rfl|(split<;>rfl)]at q;exact q
  | move a b n=>
   obtain⟨o1,jn,ud⟩:=mU gb hf b;refine⟨bk,rfl,.inl ⟨_,.inl gb⟩,_,QZd gt,_,rfl,o1,jn,?_⟩;rw[ud];dsimp only [aK];refine⟨_,QZd gt,_,rfl,?_⟩;dsimp only [tC,oZ,mB];refine fR (by kernel_rfl) ?_;refine fR rfl ?_;refine⟨_,QZd gt,_,rfl,?_⟩;dsimp only [tC,oZ,mB];refine fR (by kernel_rfl) ?_;rw[show(aI f (.move a b n)).isSome=true by simp only [aI];split<;>first|rfl|(split<;>rfl)]at q;exact q
  | send g a n=>
   obtain⟨o1,jn,ud⟩:=mU gb hf a;refine⟨bk,rfl,.inl ⟨_,.inl gb⟩,_,QZd gt,_,rfl,o1,jn,?_⟩;rw[ud];dsimp only [aK];refine⟨_,QZd gt,_,rfl,?_⟩;dsimp only [tC,oZ,mB];refine lW (by kernel_rfl) ?_;refine⟨_,QZd gt,_,rfl,?_⟩;show if decide ((n:Int)<=(f a:Int))=true then _ else _
   refine gV (λhb=>?_) (λhb=>?_)
   ·have X9:=WF hb;rw[show(aI f (.send g a n)).isSome=false by simp only [aI];rw[IS Zo];rfl]at q;exact q
   ·have X9:=U4 hb;rw[show(aI f (.send g a n)).isSome=true by simp only [aI];rw[NE Zo];rfl]at q;refine⟨_,QZd gt,_,rfl,?_⟩;dsimp only [tC,oZ,mB];exact fR (by kernel_rfl) q
  | fetch g a n=>
   obtain⟨o1,jn,ud⟩:=mU gb hf a;refine⟨bk,rfl,.inl ⟨_,.inl gb⟩,_,QZd gt,_,rfl,o1,jn,?_⟩;rw[ud];dsimp only [aK];refine⟨_,QZd gt,_,rfl,?_⟩;dsimp only [tC,oZ,mB];refine fR (by kernel_rfl) ?_;refine fR rfl ?_;refine⟨_,QZd gt,_,rfl,?_⟩;dsimp only [tC,oZ,mB];refine lW (by kernel_rfl) ?_;refine⟨_,QZd gt,_,rfl,⟨Zd,Zd,Zd⟩,?_⟩;have e:(aI f (.fetch g a n)).isSome=!decide ((f a:Int)+(n:Int)<=(10:Int)^(12:Int).toNat):=by
    rw[QM];simp only [aI];by_cases h:1000000000000<f a+n
    ·rw[NE h,UF Zo];rfl
    ·rw[IS h,UV Zo];rfl
   rw[e]at q;exact q
  | pass a b c n=>exact IQ rfl (DE _ _ _ _)
def yT:Sp:=λvs H Q _=>∃(f:Str->Nat)(tb:TD)(rs:List Rn)(kvs:List (bC×V))(r:Rn),vs=[.ref tb,.int r.n]/\H tb=some (.dK kvs)/\Paired (TbAt f H) rs kvs/\rs.Pairwise (λr r'=>r.n<r'.n)/\(∀r∈rs,H r.d=some (.tup r.x.vs))/\r∈rs/\(∀r∈rs,∀g g' a n,r.x≠.pass g g' a n)/\rs.length<64/\∀v H',(r.st="new"->v=hdV (rs.filter λr'=>bQ r r'))->Same H H'->Q v H'
def Gf(T:Txt K mg)(CQ:aJ P w K mg base 1 "_law_names" QZC uH)(D:DefAt K mg "_law_held" gQ QZs):aJ P w K mg base 2 "_law_held" QZs yT:=by
 refine D.go pB (λvs H Q E h=>?_) (λf' cdv A outer s H vs Q E hr h=>?_)
 ·obtain⟨f,tb,rs,kvs,r,rfl,_⟩:=h;rfl
 ·obtain⟨f,tb,rs,kvs,r,rfl,LM,tab,ql,AD,j8,DE,hl,q⟩:=h;have c3:=cC hr;have hu:=hr.units0;have J9:=hr.units;have CS:=hr;obtain⟨t0,v0,HF,g0,_⟩:=oS tab ql j8;have JK:r.st="new"->rs.filter (λr'=>decide (r'.n≠r.n)&&bQ r r')=rs.filter (λr'=>bQ r r'):=λAF=>List.filter_congr λr' h'=>by
   by_cases e:r'.n=r.n
   ·have:r'=r:=At ql h' j8 e;subst this;unfold bQ;rw[UV AF];simp
   ·rw[UV e];rfl
  refine⟨_,(lv (ya PassesOwn.never rfl (uk (K:=K) (sj (R.dj rfl) rfl T.b_sorted eI (lc (jp 0) li))) (pr (i:=2) pB.nd) (mk (pc (u8 (zx (nh R.ne (jp 2) (jp 1)) (zy (nh (R.ig J9) (my (ng (K:=K)) (rm c3 (jp 0) (jp 2)) lm) ms)))) (mk (pc (nh (R.fo (K:=K) hu) (xy rfl (js:=[none,some 0,some 2]) (N:=QZe) (CompScope.by (aB gQ) QZj rfl rfl Zk) (aP rfl) (uk (K:=K) (pj CQ CS rfl (lc (my (ng (K:=K)) (rm c3 (jp 0) (jp 1)) lm) li))) (λC s₂ H₂ fp=>⟨(pr (i:=0) (show(QZe:List Str).Nodup by decide +kernel)),(zr (nh (R.cw (K:=K)) (jp 0) (pj CQ CS rfl (lc (my (ng (K:=K)) (rm c3 (jp 1) (jp 2)) lm) li)))),(jp 0)⟩)) (uo li)) (mk (mz (jp 2))) ph)) ph))) (mk (mz yn))),?_⟩;refine⟨rs.map λr=>(r.n:Int),_,.inl LM,Dc tab,by rw[bP];exact hl,λl ns ES hp LG=>⟨l,rfl,⟨_,QZc aA⟩,?_⟩⟩;have LH:ns=rs.map λr=>(r.n:Int):=jZ LG (pairwise_map.mpr (ql.imp λz=>by omega)) hp
  subst LH;have k1:=aF (o:=.lst ((rs.map λr=>(r.n:Int)).map V.int)) ES;have gl:(aH H l (.lst ((rs.map λr=>(r.n:Int)).map V.int))) l=some (.lst ((rs.map λr=>(r.n:Int)).map V.int)):=aA;generalize aH H l (.lst ((rs.map λr=>(r.n:Int)).map V.int))=H1 at k1 gl ⊢;have eL:((rs.map λr=>(r.n:Int)).map V.int).length=rs.length:=by rw[bP,bP]
  refine dI (cA K l ((rs.map λr=>(r.n:Int)).map V.int)) (λi σ H'=>Same H1 H'/\(∃o,σ=[some (.ref tb),some (.int r.n),o])/\(rs.take i).filter (λr'=>decide (r'.n≠r.n)&&bQ r r')=[]) (λi σ H' e=>QZc (e.1 _ _ gl)) ⟨Same.refl _,⟨_,rfl⟩,rfl⟩ ?_ ?_
  ·rintro i x σ H' hx ⟨s1,⟨o,rfl⟩,AG⟩;rw[map_map,iK]at hx;obtain⟨r',S7,rfl⟩:=Option.map_eq_some_iff.mp hx;have hm:=kS S7;have k':=k1.trans s1;have QN:=k' _ _ LM;obtain⟨t1,v1,hv1,g1,tv1⟩:=oS tab ql hm;have jn:=DGet.k (k:=Sum.inl (r'.n:Int)) QN;rw[hv1]at jn;have skip:∀H2,Same H' H2->(decide (r'.n≠r.n)&&bQ r r')=false->Same H1 H2/\(∃o,([some (.ref tb),some (.int r.n),some (.int (r'.n:Int))]:St)=[some (.ref tb),some (.int r.n),o])/\(rs.take (i+1)).filter (λr'=>decide (r'.n≠r.n)&&bQ r r')=[]:=λH2 s2 hb=>by
    refine⟨s1.trans s2,⟨_,rfl⟩,?_⟩;rw[aZ S7,filter_append,AG,filter_cons,IS (by rw[hb];exact WP)];rfl
   dsimp only [aK];refine jG (λv H2=>H2=H'/\v=decide (r'.n≠r.n/\r'.st≠"new")) (λk hk=>?_) (λH2 e=>?_) (λH2 e=>?_)
   ·show if (!decide ((r'.n:Int)=(r.n:Int)))=true then _ else _
    refine gV (λh1=>?_) (λh1=>?_)
    ·have j9:r'.n≠r.n:=λe=>(show ¬ (r'.n:Int)=(r.n:Int) by simpa using h1) (by rw[e])
     refine⟨tb,.ref t1,rfl,jn,_,QZd (k' _ _ g1),_,rfl,?_⟩
     cases tv1 with
     | new e=>
      refine .inl ⟨_,rfl,hk _ _ ⟨rfl,?_⟩⟩;rw[UF (p:=r'.n≠r.n/\r'.st≠"new") λz=>z.2 e];exact by kernel_rfl
     | done e gz hy=>
      refine .inr ⟨_,_,rfl,k' _ _ gz,hk _ _ ⟨rfl,?_⟩⟩;rw[UV (p:=r'.n≠r.n/\r'.st≠"new") ⟨j9,by rw[e];decide +kernel⟩]
    ·have heq:r'.n=r.n:=Int.ofNat.inj (show(r'.n:Int)=(r.n:Int) by simpa using h1);refine hk _ _ ⟨rfl,?_⟩;rw[UF (λz=>z.1 heq)]
   ·obtain⟨rfl,e⟩:=e;obtain⟨j9,hsn⟩:=WF e.symm;have nr:=Wh r.x;have QO:=DGet.k (k:=Sum.inl (r.n:Int)) QN;rw[HF]at QO;refine⟨tb,.ref t0,rfl,QO,_,QZd (k' _ _ g0),_,rfl,r.d,r.x,rfl,k' _ _ (AD r j8),DE r j8,λl1 H3 s3 EZ=>⟨l1,rfl,⟨_,QZc EZ⟩,?_⟩⟩;refine bJ (cA K l1 ((wI r.x).map V.str)) (by rw[bP];omega) (λj ys H4=>Same H3 H4/\ys=(((wI r.x).take j).filter λz=>decide (z∈wI r'.x)).map V.str) (λj ys H4 ⟨e1,e2⟩=>⟨QZc (e1 _ _ EZ),by rw[e2,bP];exact eS (length_filter_le _ _) (by rw[mV];omega)⟩) ⟨Same.refl _,rfl⟩ (?_) (?_)
    ·rintro j y ys H4 hy ⟨e1,e2⟩;rw[iK]at hy;obtain⟨z,hz,rfl⟩:=Option.map_eq_some_iff.mp hy;have k4:=(k'.trans s3).trans e1;have dg0:=DGet.k (k:=Sum.inl (r'.n:Int)) (k4 _ _ LM);rw[hv1]at dg0;dsimp only [aK];refine⟨tb,.ref t1,rfl,dg0,_,QZd (k4 _ _ g1),_,rfl,r'.d,r'.x,rfl,k4 _ _ (AD r' hm),DE r' hm,λl2 H5 s5 yr=>⟨l2,_,rfl,.inl (QZc yr),rfl,by simp[dA],?_⟩⟩;show if lO (.str z) ((wI r'.x).map V.str)=true then _ else _
     rw[yO,aZ hz,filter_append,jM,e2];refine gV (λhb=>?_) (λhb=>?_)
     ·exact⟨e1.trans s5,by rw[filter_cons,NE hb];rfl⟩
     ·exact⟨e1.trans s5,by rw[filter_cons,IS (by rw[hb];exact WP)];simp⟩
    ·rintro ys H4 ⟨e1,e2⟩;rw[bP,take_length]at e2;intro l3 LB;have s5:=aF (o:=.lst ys) LB;have CY:(aH H4 l3 (.lst ys)) l3=some (.lst ys):=aA;generalize aH H4 l3 (.lst ys)=H5 at s5 CY ⊢;refine⟨kW rfl,λl4 YL=>⟨l3,l4,ys,rfl,rfl,QZc (aF YL _ _ CY),QZc aA,?_⟩⟩;have k6:=((s3.trans e1).trans s5).trans (aF (o:=.lst []) YL);have hh:(decide (r'.n≠r.n)&&bQ r r')=gT r.x r'.x:=by unfold bQ;rw[UF hsn,UV j9];rfl
     cases hy:(wI r.x).filter (λz=>decide (z∈wI r'.x)) with
     | nil=>
      rw[hy]at e2;subst e2;have ht:gT r.x r'.x=false:=by
       cases h:gT r.x r'.x with
       | false=>rfl
       | true=>
        obtain⟨z,z1,z2⟩:=(gK _ _).mp h;have:z∈(wI r.x).filter (λz=>decide (z∈wI r'.x)):=mem_filter.mpr ⟨z1,UV z2⟩;rw[hy]at this;cases this
      exact skip _ k6 (hh.trans ht)
     | cons z zs=>
      rw[hy]at e2;subst e2;have hz:z∈(wI r.x).filter (λz=>decide (z∈wI r'.x)):=by rw[hy];simp
      obtain⟨z1,z2⟩:=mem_filter.mp hz;have ht:gT r.x r'.x=true:=(gK _ _).mpr ⟨z,z1,WF z2⟩;have h:=λv hv=>q v _ hv (k'.trans k6)
      have hi:i<rs.length:=(Zgs.mp S7).1;have ef:rs.filter (λr'=>decide (r'.n≠r.n)&&bQ r r')=r'::(rs.drop (i+1)).filter (λr'=>decide (r'.n≠r.n)&&bQ r r'):=by
       conv=>lhs;rw[<- List.take_append_drop (i+1) rs,aZ S7]
       rw[filter_append,filter_append,AG,filter_cons,NE (hh.trans ht)];rfl
      refine h (.int (r'.n:Int)) λAF=>?_;rw[<- JK AF,ef];rfl
   ·obtain⟨rfl,e⟩:=e;have hb:(decide (r'.n≠r.n)&&bQ r r')=false:=by
     unfold bQ;by_cases hs:r'.st="new"
     ·rw[UV hs];simp
     ·have hn:r'.n=r.n:=Decidable.byContradiction λz=>U4 e.symm ⟨z,hs⟩
      rw[UF (λz=>z hn)];rfl
    exact skip _ (Same.refl _) hb
  ·rintro σ H' ⟨s1,⟨o,rfl⟩,AG⟩;rw[eL,take_length]at AG;refine q .non H' (λAF=>?_) (k1.trans s1);rw[<- JK AF,AG];rfl
def De(c:CK):Sp:=λvs H Q _=>∃(a:DA)(s:DS),vs=[.ref a.dr]/\DAt c H a s/\∀l H',H l=none->Same H H'->H' l=some (.lst s.rows)->Q (.ref l) H'
def Mc{c:CK}(BD:Qk K c.D)(B5:cP P w K mg base 1 c.J "rows" EQ (wE c.J))(D:MethAt K c.D "rows" "Door.rows" gZ EQ):cP P w K mg base 2 c.D "rows" EQ (De c):=by
 refine D.go vZ (λvs H Q E h=>?_) (λf cdv A outer s H vs Q E hr h=>?_)
 ·obtain⟨a,s,rfl,_⟩:=h;rfl
 ·obtain⟨a,s,rfl,h,q⟩:=h;have y6:=hr;refine⟨_,(mk (mz (ut B5 y6 (pi (K:=K) (jp 0))))),?_⟩;exact⟨c.D,_,_,.ref a.j,h.dr,BD.cl,BD.nJ,by kernel_rfl,_,_,h.j,by kernel_rfl,a.j,a.jl,a.jx,s.safe,s.rows,rfl,h.j,h.jl,λl hl=>q l _ hl (aF hl) aA⟩
def wK(c:CK):Sp:=λvs H Q _=>∃(a:DA)(s:DS),vs=[.ref a.dr]/\DAt c H a s/\s.prs.length<64/\∀l (zs:List Z) H',H l=none->Same H H'->H' l=some (.lst (bT zs))->ZAt H' zs->zs.map (·.2)=gP s.prs->Q (.ref l) H'
def Md{c:CK}(BM:Gm K c.M)(BB:Ph K c.B)(c4:cP P w K mg base 1 c.D "known" EQ (kN c))(P6:cP P w K mg base 1 c.B "rows" EQ (qW c.B))(D:MethAt K c.D "book_rows" "Door.book_rows" cX EQ):cP P w K mg base 2 c.D "book_rows" EQ (wK c):=by
 refine D.go mM (λvs H Q E h=>?_) (λf cdv A outer s H vs Q E hr h=>?_)
 ·obtain⟨a,s,rfl,_⟩:=h;rfl
 ·obtain⟨a,s,rfl,h,hl,q⟩:=h;have c2:=hr;have M0:=hr;refine⟨_,(mk (mz (ut P6 M0 (pi (K:=K) (ut c4 c2 (jp 0)))))),?_⟩;refine⟨_,_,h.dr,by kernel_rfl,a,s,rfl,h,c.M,_,_,.ref a.bk,h.me,BM.cl,BM.nB,by kernel_rfl,_,_,h.bk,by kernel_rfl,a.bk,s.prs,rfl,h.book,hl,λl zs H' s' EI g hz e=>q l zs H' EI s' g hz e⟩
def Df{prs:List (Str×Int)}{n:Str}{v:Int}{zn:List Str}(h:∀m∈prs.map (·.1),m∈zn)(hn:n∈zn):∀m∈(dQ prs n v).map (·.1),m∈zn:=by
 rw[kM];split
 ·exact h
 ·intro m hm;rcases Zma.mp hm with hm|hm
  ·exact h m hm
  ·cases Zms.mp hm;exact hn
def Dg{zn:List Str}:∀(cs prs:List (Str×Int)),(∀m∈prs.map (·.1),m∈zn)->(∀q∈cs,q.1∈zn)->∀m∈(jL prs cs).map (·.1),m∈zn
 | [],_,h,_=>h
 | q::r,_,h,hc=>Dg r _ (Df h (hc q mZ)) λp hp=>hc p (fL _ hp)
def Dh{xs:List Str}:∀ {ys:List Str},xs.Nodup->(∀x∈xs,x∈ys)->xs.length<=ys.length:=by
 induction xs with
 | nil=>exact λ_ _=>zero_le _
 | cons x r ih=>
  intro ys hn h;obtain⟨h1,h2⟩:=nodup_cons.mp hn;have hx:=h x mZ;have:=ih (ys:=ys.erase x) h2 λy hy=>(List.mem_erase_of_ne (λe=>h1 (by rw[<- e];exact hy))).mpr (h y (fL _ hy))
  rw[List.length_erase_of_mem hx]at this;have hp:0<ys.length:=List.length_pos_of_mem hx;rw[wN];omega
inductive NewsOk(H:Hp)(f:Str->Nat):List V->List Rn->Prop
 | nil:NewsOk H f [] []
 | skip {t:TD}{wd:Str}{xs vs:List V}{ws:List Rn}:H t=some (.tup (.str wd::xs))->wd≠"done"->NewsOk H f vs ws->NewsOk H f (.ref t::vs) ws
 | done {t z:TD}{r:Rn}{w:Int}{y:An}{vs:List V}{ws:List Rn}:0<=w->H t=some (.tup [.str "done",.int r.n,.int w,.ref z])->H z=some (.tup y.vs)->aI f r.x=some y->NewsOk H f vs ws->NewsOk H f (.ref t::vs) (r::ws)
def NewsOk.tk{H H':Hp}{f:Str->Nat}{vs:List V}{ws:List Rn}(h:NewsOk H f vs ws)(k:TK H H'):NewsOk H' f vs ws:=by
 induction h with
 | nil=>exact .nil
 | skip g j9 _ ih=>exact .skip (k _ _ g) j9 ih
 | done hw g gz hy _ ih=>exact .done hw (k _ _ g) (k _ _ gz) hy ih
def NewsOk.app{H:Hp}{f:Str->Nat}{vs CL:List V}{ws ws':List Rn}(h:NewsOk H f vs ws)(h':NewsOk H f CL ws'):NewsOk H f (vs++CL) (ws++ws'):=by
 induction h with
 | nil=>exact h'
 | skip g j9 _ ih=>exact .skip g j9 ih
 | done hw g gz hy _ ih=>exact .done hw g gz hy ih
def rL{f g:Str->Nat}{x:Dd}(h:∀q∈bO x,f q.1=g q.1):aI f x=aI g x:=by
 cases x with
 | add a n=>have:=h (a,(n:Int)) (by simp[bO]);simp only [aI];simp only at this;rw[this]
 | take a n=>have:=h (a,-(n:Int)) (by simp[bO]);simp only [aI];simp only at this;rw[this]
 | move a b n=>
  have h1:=h (a,-(n:Int)) (by simp[bO]);have h2:=h (b,(n:Int)) (by simp[bO]);simp only at h1 h2;simp only [aI];rw[h1,h2]
 | send g0 a n=>have:=h (a,-(n:Int)) (by simp[bO]);simp only [aI];simp only at this;rw[this]
 | fetch g0 a n=>have:=h (a,(n:Int)) (by simp[bO]);simp only [aI];simp only at this;rw[this]
 | pass g0 g1 a n=>rfl
def uJ{f:Str->Nat}{x:Dd}{y:An}{z:Str}(h:∀q∈bO x,q.1≠z):after f x y z=f z:=by
 have o:∀ {a:Str}{g:Str->Nat}{v:Nat},a≠z->cZ g a v z=g z:=λj9=>by unfold cZ;rw[IS λe=>j9 e.symm]
 cases x with
 | add a n=>cases y<;>first|rfl|exact o (h (a,(n:Int)) (by simp[bO]))
 | take a n=>cases y<;>first|rfl|exact o (h (a,-(n:Int)) (by simp[bO]))
 | move a b n=>
  cases y with
  | is2 l m=>
   show cZ (cZ f a _) b _ z=f z;rw[o (h (b,(n:Int)) (by simp[bO])),o (h (a,-(n:Int)) (by simp[bO]))]
  | _=>rfl
 | send g a n=>cases y<;>first|rfl|exact o (h (a,-(n:Int)) (by simp[bO]))
 | fetch g a n=>cases y<;>first|rfl|exact o (h (a,(n:Int)) (by simp[bO]))
 | pass g g' a n=>cases y<;>rfl
def pV{x:Dd}{q:Str×Int}(h:q∈bO x):q.1∈wI x:=by
 cases x<;>simp only [bO,mem_cons,FM,or_false]at h
 case move a b n=>rcases h with rfl|rfl<;>simp[wI]
 all_goals (subst h;simp[wI])
def Wj{x:Dd}{y:An}{q:Str×Int}(h:q∈zA x y):q∈bO x:=by
 cases x<;>cases y<;>first|exact h|exact nomatch h
def oT(f fc:Str->Nat)(ws:List Rn):Str->Nat:=ws.foldl (λg r=>match aI f r.x with|some y=>after g r.x y|none=>g) fc
structure Sc(H:Hp)(f fc:Str->Nat)(zs:List Str)(s s':DS)(ws:List Rn):Prop where
 runs:s'.runs=s.runs.filter λr=>decide (r.n∉ws.map (·.n))
 life:s'.life=s.life
 turn:s'.turn=s.turn
 next:s'.next=s.next
 hs:s'.hs=s.hs
 rows:s'.rows=s.rows
 safe:s'.safe=s.safe
 L:s'.L+s'.runs.length=s.L+s.runs.length
 m:∀q,(∀r∈ws,r.q≠q)->s'.m q=s.m q
 mo:∀q e,s'.m q=some e->(∃r∈ws,r.q=q)∨s.m q=some e
 pl:∀z∈s'.prs.map (·.1),z∈zs
 bk:∀z,bM s'.prs z=(oT f fc ws z:Int)
 b12:∀z,oT f fc ws z<=1000000000000
 kp:∀r∈ws,∃(w:Int)(z:TD)(y:An),0<=w/\s'.m r.q=some (.kept r.n w r.d z)/\H z=some (.tup y.vs)/\aI f r.x=some y
def Qn{H:Hp}{f:Str->Nat}{zs:List Str}(hz:zs.length<=20){news:List V}{ws:List Rn}(h:NewsOk H f news ws):∀(s:DS)(fc:Str->Nat),(ws.map (·.n)).Nodup->(∀r∈ws,r∈s.runs)->(s.runs.Pairwise λr r'=>r.n<r'.n)->(s.prs.map (·.1)).Nodup->(∀z∈s.prs.map (·.1),z∈zs)->s.L+ws.length<=500->(∀r∈ws,s.m r.q=some (.busy r.n r.d)/\r.x.Ok/\∀q∈bO r.x,q.1∈zs) →
  (∀r∈ws,∀r'∈ws,r.n≠r'.n->gT r.x r'.x=false)->(∀z,bM s.prs z=(fc z:Int))->(∀z,fc z<=1000000000000)->(∀r∈ws,∀q∈bO r.x,fc q.1=f q.1)->∃s' ts,hZ H s news s' ts/\ts.map (·.1)=ws/\(∀q∈ts,∃y:An,H q.2=some (.tup y.vs)/\aI f q.1.x=some y)/\Sc H f fc zs s s' ws:=by
 induction h with
 | nil=>
  intro s fc _ _ _ _ X8 _ _ _ hf zh _;exact⟨s,[],.nil,rfl,(λq hq=>nomatch hq),⟨(filter_eq_self.mpr λa _=>UV (λm=>nomatch m)).symm,rfl,rfl,rfl,rfl,rfl,rfl,rfl,λ_ _=>rfl,λ_ _ h=>.inr h,X8,hf,zh,λr hr=>nomatch hr⟩⟩
 | skip g j9 _ ih=>
  intro s fc h1 h2 h3 h4 h5 h6 h7 h8 h9 TN YM;obtain⟨s',ts,e1,e2,e4,e3⟩:=ih s fc h1 h2 h3 h4 h5 h6 h7 h8 h9 TN YM;exact⟨s',ts,.skip g j9 e1,e2,e4,e3⟩
 | @done t z r w y vs ws hw0 g gz hy _ ih=>
  intro s fc AB LN hup KU X8 hL YN htc hf zh QP;rw[map_cons]at AB;obtain⟨UO,IY⟩:=nodup_cons.mp AB;have j8:=LN r Zs;obtain⟨hm,hx,hxz⟩:=YN r Zs;obtain⟨pre,post,hs⟩:=append_of_mem j8;have hR:rF fc r.x false y:=.inl ⟨rfl,by rw[rL (g:=f) (QP r Zs)];exact hy⟩;have PX:=(Kx zh hx hR nofun).1;have hap:=yD hx hR;have YO:s.prs.length<=90:=by
   have:=Dh KU X8;rw[bP]at this;omega
  have r9:∀r'∈ws,r'.n≠r.n:=λr' h' e=>UO (by rw[<- e];exact mem_map_of_mem h')
  have hq:∀r'∈ws,r'.q≠r.q:=λr' h' e=>by
   have z1:=(YN r' (fL _ h')).1;rw[e,hm]at z1;have z2:r.n=r'.n:=by injection z1 with z1;injection z1 with z1;omega
   exact r9 r' h' z2.symm
  have QQ:=hup;rw[hs]at QQ;have sub:(pre++post).Sublist s.runs:=by rw[hs];exact List.Sublist.append_left (List.sublist_cons_self _ _) _
  have QR:pre++post=s.runs.filter λr'=>decide (r'.n≠r.n):=by
   have p1:=pairwise_append.mp QQ;have p2:=pairwise_cons.mp p1.2.1;rw[hs,filter_append,filter_cons,IS Zs]
   congr 1
   ·exact(filter_eq_self.mpr λa ha=>UV (by have:=p1.2.2 a ha r Zs;omega)).symm
   ·exact(filter_eq_self.mpr λa ha=>UV (by have:=p2.1 a ha;omega)).symm
  obtain⟨s',ts,e1,e2,e4,e3⟩:=ih {s with runs:=pre++post,prs:=jL s.prs (zA r.x y),m:=s.m.set r.q (some (.kept r.n w r.d z)),L:=s.L+1 } (after fc r.x y) IY (λr' h'=>by
    show r'∈pre++post;rw[QR];exact mem_filter.mpr ⟨LN r' (fL _ h'),UV (r9 r' h')⟩) (hup.sublist sub) (pT _ _ KU) (Dg _ _ X8 λq hq=>hxz q (Wj hq)) (by show s.L+1+ws.length<=500;rw[wN]at hL;omega) (λr' h'=>by
    obtain⟨z1,z2,z3⟩:=YN r' (fL _ h');exact⟨by show(s.m.set r.q _) r'.q=_;rw[KM.set_ne (hq r' h')];exact z1,z2,z3⟩) (λr1 h1 r2 h2=>htc r1 (fL _ h1) r2 (fL _ h2)) (λu=>by
    show bM (jL s.prs (zA r.x y)) u=_;rw[yF _ _ fc hap.2 hf,hap.1]) (Ky zh hR) (λr' h' q px=>by
    rw[uJ λq0 h0 e0=>?_]
    ·exact QP r' (fL _ h') q px
    ·have ht:=htc r Zs r' (fL _ h') (r9 r' h').symm;rw[(gK r.x r'.x).mpr ⟨q.1,by rw[<- e0];exact pV h0,pV px⟩]at ht;cases ht)
  refine⟨s',(r,z)::ts,.done g hs gz PX (λq px=>?_) YO (by rw[wN]at hL;omega) hm e1,by rw[map_cons,e2],λp hp=>(mem_cons.mp hp).elim (λz=>by rw[z];exact⟨y,gz,hy⟩) (e4 p),?_⟩
  ·have:=Lf zh hx hR q px;show 0<=bM s.prs q.1+q.2/\bM s.prs q.1+q.2<=1000000000000;rw[hf];exact this
  ·refine⟨?_,e3.life,e3.turn,e3.next,e3.hs,e3.rows,e3.safe,?_,λq px=>?_,λq e he=>?_,e3.pl,?_,?_,λr' h'=>?_⟩
   ·rw[e3.runs];show(pre++post).filter _=_;rw[QR,List.filter_filter];congr 1
    funext a
    rw[<- Bool.decide_and,map_cons];congr 1;rw[mem_cons,not_or];exact propext ⟨λh=>⟨h.2,h.1⟩,λh=>⟨h.2,h.1⟩⟩
   ·rw[e3.L];show s.L+1+(pre++post).length=_;rw[hs];simp;omega
   ·rw[e3.m q λr' h'=>px r' (fL _ h')];show(s.m.set r.q _) q=_;rw[KM.set_ne λe=>px r Zs e.symm]
   ·rcases e3.mo q e he with⟨r',h',e'⟩|HW
    ·exact .inl ⟨r',fL _ h',e'⟩
    ·by_cases zq:q=r.q
     ·exact .inl ⟨r,Zs,zq.symm⟩
     ·have he2:(s.m.set r.q _) q=some e:=HW;rw[KM.set_ne zq]at he2;exact .inr he2
   ·intro u;rw[e3.bk];unfold oT;rw[foldl_cons,hy]
   ·intro u;have:=e3.b12 u;unfold oT at this ⊢;rw[foldl_cons,hy];exact this
   ·rcases mem_cons.mp h' with rfl|h'
    ·refine⟨w,z,y,hw0,?_,gz,hy⟩;rw[e3.m r'.q λr2 h2=>hq r2 h2];exact KM.set_same
    ·exact e3.kp r' h'
structure LA where
 (sd bk tb lr lw ln:TD)
 (wl:List V)
def LA.fix(p:LA):List Addr:=[p.sd,p.bk,p.tb,p.lr,p.lw,p.ln]
structure LS where
 (turn:Int)
 (prs:List (Str×Int))
 (tkv:List (bC×V))
 (rws:List V)
 (ws:List Nat)
def LA.kv(p:LA)(turn num:Int):List (bC×V):=[(Sum.inr "book",.ref p.bk),(Sum.inr "table",.ref p.tb),(Sum.inr "rows",.ref p.lr),(Sum.inr "written",.ref p.lw),(Sum.inr "turn",.int turn),(Sum.inr "number",.int num)]
def LA.objs(p:LA)(l:LS)(num:Int):List (TD×HO):=[(p.sd,.dK (p.kv l.turn num)),(p.bk,.dK (fM l.prs)),(p.tb,.dK l.tkv),(p.lr,.lst l.rws),(p.lw,.lst (l.ws.map λ(n:Nat)=>V.int (n:Int))),(p.ln,.lst p.wl)]
structure LI(c:CK)(H:Hp)(f:Str->Nat)(d b:TD)(p:LA)(zs:List Str)(g:Str)(a:DA)(s:DS)(l:LS)(rx:List TV)(wr:List Rn)(N:Nat):Prop where
 dk:Dk H d b
 ow:Own H (p.objs l ((s.next:Int)-1))
 od:d∉p.fix/\b∉p.fix
 h:DAt c H a s
 out:∀q∈d::b::p.fix,q∉a.fix++s.runs.map (·.p)
 tab:Paired (TbAt f H) s.runs l.tkv
 r1:Paired (RepT H 2) rx s.rows
 r2:Paired (RepT H 2) rx l.rws
 am:∀z,bM s.prs z=(f z:Int)
 al:∀z,bM l.prs z=(f z:Int)
 f12:∀z,f z<=1000000000000
 nd:(l.prs.map (·.1)).Nodup
 pl:∀z∈s.prs.map (·.1),z∈zs
 pl':∀z∈l.prs.map (·.1),z∈zs
 zn:zs.length<=20
 nx:1<=s.next/\s.next<=N+1
 hL:s.L+s.runs.length+2<=2*s.next
 hr:s.runs.length<s.next
 ho:s.rows.length+(s.runs.filter λ(r:Rn)=>decide (r.st=("new":Str))).length+2<=2*s.next
 hn:∀r∈s.runs,r.n<s.next/\1<=r.n
 tu:0<=s.turn/\s.turn<=l.turn/\l.turn<=1000
 lf:s.life=1000000000000
 all:∀r∈s.runs,s.m r.q=some (.busy r.n r.d)/\r.q=(("bo":Str),cH r.n)/\Far zs [g] r.x/\(∀u v z n,r.x≠.pass u v z n)/\(r.st="new"∨r.st="written")
 mo:∀q e,s.m q=some e->∃n,n<s.next/\q.2=cH n
 ex:∀r∈s.runs,∀r'∈s.runs,r.n≠r'.n->r.st≠"new"->r'.st≠"new"->gT r.x r'.x=false
 hv:∃v,aV s.hs (Sum.inr g)=some v
 rw:∃old news,s.rows=old++news/\s.safe=(old.length:Int)/\NewsOk H f news wr
 wn:wr.map (·.n)=l.ws
 wd:(wr.map (·.n)).Nodup
 wm:∀r,r∈wr↔r∈s.runs/\r.st="written"
section
variable {c:CK}{H H':Hp}{f:Str->Nat}{d b:TD}{p:LA}{zs:List Str}{g:Str}{a:DA}{s s':DS}{l l':LS}{rx:List TV}{wr:List Rn}{N:Nat}
def LI.move(L:LI c H f d b p zs g a s l rx wr N)(k:TK H H')(dk:Dk H' d b)(ow:Own H' (p.objs l ((s.next:Int)-1)))(h:DAt c H' a s):LI c H' f d b p zs g a s l rx wr N:=
 {L with dk:=dk,ow:=ow,h:=h,tab:=Paired.map' (λ_ _ x=>x.tk k) L.tab,r1:=Paired.map' (λ_ _ x=>x.tk k) L.r1,r2:=Paired.map' (λ_ _ x=>x.tk k) L.r2,rw:=let ⟨o,n,h1,h2,h3⟩:=L.rw;⟨o,n,h1,h2,h3.tk k⟩ }
def LI.same(L:LI c H f d b p zs g a s l rx wr N)(k:Same H H'):LI c H' f d b p zs g a s l rx wr N:=L.move (TK.of k) (L.dk.same k) (L.ow.same k) (L.h.same k)
def LI.draw(L:LI c H f d b p zs g a s l rx wr N)(D:Dk H' d b)(k:Kp d b H H'):LI c H' f d b p zs g a s l rx wr N:=
 L.move (Sb L.dk k) D ⟨L.ow.1,λq hq=>k _ _ (L.ow.2 q hq) (λz=>L.od.1 (by rw[<- z];exact mem_map_of_mem (f:=(·.1)) hq)) λz=>L.od.2 (by rw[<- z];exact mem_map_of_mem (f:=(·.1)) hq)⟩ (L.h.keep (λq o e hp=>k _ _ e (λz=>L.out d Zs (z▸hp)) λz=>L.out b Zs (z▸hp)) (Sb L.dk k))
def LI.left(L:LI c H f d b p zs g a s l rx wr N)(m:Mv a s s' H H'):Dk H' d b/\Own H' (p.objs l ((s.next:Int)-1))/\∀q∈d::b::p.fix,q∉a.fix++s'.runs.map (·.p):=by
 obtain⟨ns,s0,k0,h1,h2,h3⟩:=L.dk.ex;have o:∀q∈p.objs l ((s.next:Int)-1),q.1∈d::b::p.fix:=λq hq=>fL _ (fL _ (mem_map_of_mem (f:=(·.1)) hq))
 refine⟨⟨ns,s0,k0,m.fr _ _ h1 (L.out d Zs),m.fr _ _ h2 (L.out b Zs),h3⟩,⟨L.ow.1,λq hq=>m.fr _ _ (L.ow.2 q hq) (L.out _ (o q hq))⟩,λq hq=>?_⟩;have gq:∃o,H q=some o:=by
  rcases mem_cons.mp hq with rfl|hq
  ·exact⟨_,h1⟩
  ·rcases mem_cons.mp hq with rfl|hq
   ·exact⟨_,h2⟩
   ·obtain⟨r,hr,rfl⟩:=Zmm.mp (show q∈(p.objs l ((s.next:Int)-1)).map (·.1) from hq);exact⟨_,L.ow.2 r hr⟩
 obtain⟨o,gq⟩:=gq;exact m.stay (L.out q hq) gq
def LI.gs(L:LI c H f d b p zs g a s l rx wr N):H p.sd=some (.dK (p.kv l.turn ((s.next:Int)-1))):=L.ow.get 0 rfl
def LI.gb(L:LI c H f d b p zs g a s l rx wr N):H p.bk=some (.dK (fM l.prs)):=L.ow.get 1 rfl
def LI.gt(L:LI c H f d b p zs g a s l rx wr N):H p.tb=some (.dK l.tkv):=L.ow.get 2 rfl
def LI.gr(L:LI c H f d b p zs g a s l rx wr N):H p.lr=some (.lst l.rws):=L.ow.get 3 rfl
def LI.gn(L:LI c H f d b p zs g a s l rx wr N):H p.ln=some (.lst p.wl):=L.ow.get 5 rfl
def LI.gw(L:LI c H f d b p zs g a s l rx wr N):H p.lw=some (.lst (l.ws.map λ(n:Nat)=>V.int (n:Int))):=L.ow.get 4 rfl
end
def anT(y:An):TV:=.tp (y.vs.map TV.sc)
def pW{H:Hp}{z:TD}{y:An}(g:H z=some (.tup y.vs)):RepT H 1 (anT y) (.ref z):=by
 refine⟨z,y.vs,rfl,g,?_⟩;cases y
 case is2=>exact .cons (.scal rfl) (.cons (.scal rfl) (.cons (.scal rfl) .nil))
 case ok=>exact .cons (.scal rfl) .nil
 all_goals exact .cons (.scal rfl) (.cons (.scal rfl) .nil)
def Me(n:Nat)(w:Int)(y:An):TV:=.tp [.sc (.str "done"),.sc (.int (n:Int)),.sc (.int w),anT y]
def uK{H:Hp}{t z:TD}{n:Nat}{w:Int}{y:An}(g:H t=some (.tup [.str "done",.int (n:Int),.int w,.ref z]))(gz:H z=some (.tup y.vs)):RepT H 2 (Me n w y) (.ref t):=
 ⟨t,_,rfl,g,.cons (.scal rfl) (.cons (.scal rfl) (.cons (.scal rfl) (.cons (pW gz) .nil)))⟩
def Paired.snoc1{α β:Type}{R:α->β->Prop}{xs:List α}{ys:List β}(h:Paired R xs ys){x:α}{y:β}(r:R x y):Paired R (xs++[x]) (ys++[y]):=by
 induction h with
 | nil=>exact .cons r .nil
 | cons h _ ih=>exact .cons h ih
def LS.wrote(l:LS)(n:Nat)(t td:TD):LS:={l with tkv:=bB l.tkv (Sum.inl (n:Int)) (.ref t),rws:=l.rws++[.ref td],ws:=l.ws++[n] }
section
variable {c:CK}{H H2 G:Hp}{f:Str->Nat}{d b:TD}{p:LA}{zs:List Str}{g:Str}{a:DA}{s:DS}{l:LS}{rx:List TV}{wr:List Rn}{N:Nat}
def LI.wrote(L:LI c H f d b p zs g a s l rx wr N){pre post:List Rn}{r:Rn}(AS:s.runs=pre++r::post)(AF:r.st="new")(P2:∀r'∈s.runs,bQ r r'=false)(ht:s.turn=l.turn){y:An}(hy:aI f r.x=some y){ra z z2 t td:TD}(m:Mv a s {dH s pre post r "written" with rows:=s.rows++[.ref ra] } H H2)(ze:H2 ra=some (.tup [.str "done",.int r.n,.int s.turn,.ref z]))(gz:H2 z=some (.tup y.vs))(k:TK H2 G)(QS:Dk G d b)(dG:DAt c G a {dH s pre post r "written" with rows:=s.rows++[.ref ra] })(UP:G z2=some (.tup y.vs))(gt:G t=some (.tup [.ref r.d,.ref z2]))(ED:G td=some (.tup [.str "done",.int r.n,.int l.turn,.ref z2]))(ow:Own G (p.objs (l.wrote r.n t td) ((s.next:Int)-1))) :
  LI c G f d b p zs g a {dH s pre post r "written" with rows:=s.rows++[.ref ra] } (l.wrote r.n t td) (rx++[Me r.n l.turn y]) (wr++[{r with st:="written" }]) N:=by
 have kk:=(m.tk L.h).trans k;have j8:r∈s.runs:=by rw[AS];simp
 have ql:=L.h.up;have T2:∀r'∈pre++{r with st:="written" }::post,r'={r with st:="written" }∨(r'∈s.runs/\r'.n≠r.n):=λr' h'=>by
  have JL:=ql;rw[AS]at JL;have p1:=pairwise_append.mp JL;have p2:=pairwise_cons.mp p1.2.1;rcases Zma.mp h' with z|z
  ·exact .inr ⟨by rw[AS];exact IN _ z,by have:=p1.2.2 r' z r Zs;omega⟩
  ·rcases mem_cons.mp z with z|z
   ·exact .inl z
   ·exact .inr ⟨by rw[AS];simp[z],by have:=p2.1 r' z;omega⟩
 have QU:∀r'∈s.runs,r'.n≠r.n->r'∈pre++{r with st:="written" }::post:=λr' h' j9=>by
  rw[AS]at h';rcases Zma.mp h' with z|z
  ·exact IN _ z
  ·rcases mem_cons.mp z with z|z
   ·exact IQ (by rw[z]) j9
   ·simp[z]
 have LN:{r with st:="written" }∈pre++{r with st:="written" }::post:=by simp
 have QV:(pre++{r with st:=("written":Str) }::post).length=s.runs.length:=by rw[AS];simp
 have wne:("written":Str)≠"new":=by decide +kernel
 have FC:∀r'∈s.runs,r'.n≠r.n->r'.st≠"new"->gT r.x r'.x=false:=λr' h' j9 hn=>by
  have:=P2 r' h';unfold bQ at this;rw[UF hn]at this;simpa using this
 have YQ:∀x y:Dd,gT x y=false->gT y x=false:=λx y h=>by
  cases e:gT y x with
  | false=>rfl
  | true=>
   obtain⟨z,z1,z2⟩:=(gK _ _).mp e;rw[(gK x y).mpr ⟨z,z2,z1⟩]at h;cases h
 have hwr:∀r'∈wr,r'.n≠r.n:=λr' h' e=>by
  obtain⟨z1,z2⟩:=(L.wm r').mp h';rw[At L.h.up z1 j8 e,AF]at z2;exact wne z2.symm
 obtain⟨e1,e2,e3⟩:=L.left m;refine {dk:=QS,ow:=ow,od:=L.od,h:=dG,out:=e3,tab:=?_,r1:=?_,r2:=?_,am:=L.am,al:=L.al,f12:=L.f12,nd:=L.nd,pl:=L.pl,pl':=L.pl',zn:=L.zn,nx:=L.nx,hL:=?_,hr:=?_,ho:=?_,hn:=?_,tu:=L.tu,lf:=L.lf,all:=?_,mo:=L.mo,ex:=?_,hv:=L.hv,rw:=?_,wn:=?_,wd:=?_,wm:=?_ }
 ·have QW:=Paired.map' (λ_ _ x=>TbAt.tk x kk) L.tab;rw[AS]at QW ql;exact Wi QW ql rfl gt (.done rfl UP hy)
 ·refine Paired.snoc1 (Paired.map' (λ_ _ x=>x.tk kk) L.r1) ?_;rw[<- ht];exact uK (k _ _ ze) (k _ _ gz)
 ·exact Paired.snoc1 (Paired.map' (λ_ _ x=>x.tk kk) L.r2) (uK ED UP)
 ·show s.L+(pre++{r with st:="written" }::post).length+2<=2*s.next;rw[QV];exact L.hL
 ·show(pre++{r with st:="written" }::post).length<s.next;rw[QV];exact L.hr
 ·have h1:=L.ho;rw[AS]at h1;show(s.rows++[V.ref ra]).length+((pre++{r with st:=("written":Str) }::post).filter λ(r:Rn)=>decide (r.st=("new":Str))).length+2<=2*s.next;rw[filter_append,filter_cons,NE (by rw[AF];rfl)]at h1;rw[filter_append,filter_cons,IS (by show ¬ decide (("written":Str)="new")=true;decide +kernel)];simp only [wM,wN,length_nil]at h1 ⊢;omega
 ·intro r' h';rcases T2 r' h' with rfl|⟨z,_⟩
  ·exact L.hn r j8
  ·exact L.hn r' z
 ·intro r' h';rcases T2 r' h' with rfl|⟨z,_⟩
  ·obtain⟨z1,z2,z3,z4,_⟩:=L.all r j8;exact⟨z1,z2,z3,z4,.inr rfl⟩
  ·exact L.all r' z
 ·intro r1 h1 r2 h2 j9 n1 n2;rcases T2 r1 h1 with rfl|⟨z1,w1⟩
  ·rcases T2 r2 h2 with rfl|⟨z2,w2⟩
   ·exact IQ rfl j9
   ·exact FC r2 z2 w2 n2
  ·rcases T2 r2 h2 with rfl|⟨z2,w2⟩
   ·exact YQ _ _ (FC r1 z1 w1 n1)
   ·exact L.ex r1 z1 r2 z2 j9 n1 n2
 ·obtain⟨old,news,h3,h4,h5⟩:=L.rw;exact⟨old,news++[.ref ra],by show s.rows++[.ref ra]=_;rw[h3,append_assoc],h4,(h5.tk kk).app (.done (r:={r with st:="written" }) L.tu.1 (k _ _ ze) (k _ _ gz) hy .nil)⟩
 ·show(wr++[{r with st:=("written":Str) }]).map (λ(r:Rn)=>r.n)=l.ws++[r.n];rw[jM,L.wn];rfl
 ·rw[jM];refine nodup_append.mpr ⟨L.wd,Zs,λx hx y hy e=>?_⟩;obtain⟨r',h',rfl⟩:=Zmm.mp hx;have yt:y=r.n:=by simpa using hy
  exact hwr r' h' (e.trans yt)
 ·intro r';show r'∈wr++[{r with st:="written" }]↔r'∈pre++{r with st:="written" }::post/\r'.st="written";rw[Zma,L.wm,Zms];constructor
  ·rintro(⟨z1,z2⟩|rfl)
   ·exact⟨QU r' z1 λe=>by rw[At L.h.up z1 j8 e,AF]at z2;exact wne z2.symm,z2⟩
   ·exact⟨LN,rfl⟩
  ·rintro⟨z1,z2⟩;rcases T2 r' z1 with e|⟨z,_⟩
   ·exact .inr e
   ·exact .inl ⟨z,z2⟩
end
def yU(c:CK):Sp:=λvs H Q _=>∃(f:Str->Nat)(d b:TD)(p:LA)(zs:List Str)(g:Str)(a:DA)(s:DS)(l:LS)(rx:List TV)(wr:List Rn)(N:Nat)(r:Rn)(ld:TD),vs=[.ref a.dr,.ref p.tb,.int r.n,.ref ld,.int l.turn,.ref p.bk]/\LI c H f d b p zs g a s l rx wr N/\r∈s.runs/\N<=60/\s.turn=l.turn/\H ld=some (.lst [])/\ld∉d::b::p.fix/\ld∉a.fix++s.runs.map (·.p) ∧
 (∀G,LI c G f d b p zs g a s l rx wr N->G ld=some (.lst [])->Q (.bl true) G) ∧
 (∀G t td z2 s' y DF,Dk G d b->Own G (p.objs {l with tkv:=bB l.tkv (Sum.inl (r.n:Int)) (.ref t) } ((s.next:Int) - 1))->G ld=some (.lst [.ref td])->G td=some (.tup [.str "done",.int r.n,.int l.turn,.ref z2])->s'.next=s.next->s'.turn=s.turn->ld∉a.fix++s'.runs.map (·.p) →
  (∀G2,Dk G2 d b->Own G2 (p.objs (l.wrote r.n t td) ((s.next:Int) - 1))->(∀q o,G q=some o->q≠p.lr->q≠p.lw->q≠ld->G2 q=some o)->LI c G2 f d b p zs g a s' (l.wrote r.n t td) (rx++[Me r.n l.turn y]) DF N)->Q (.bl true) G)
def Wr{z w:Str}:qZ [.str z] [.str w]:=λj u v h1 h2=>by
 match j,h1,h2 with
 | 0,h1,h2=>cases h1;cases h2;exact⟨rfl,rfl⟩
def fl2{z w:Str}{x y:V}(fx:dA x=true)(fy:dA y=true):qZ [.str z,x] [.str w,y]:=λj u v h1 h2=>by
 match j,h1,h2 with
 | 0,h1,h2=>cases h1;cases h2;exact⟨rfl,rfl⟩
 | 1,h1,h2=>cases h1;cases h2;exact⟨fx,fy⟩
def Gg{c:CK}(T:Txt K mg)(vi:Fj P w K mg base 5 c.D "work" QZQ [] (Aq c))(i0:Fj P w K mg base 5 c.D "work" QZQ [.str ("through":Str)] (Aq c))(LO:aJ P w K mg base 2 "_law_held" QZs yT)(AU:aJ P w K mg base 1 "_law_is_early" BV uI)(FD:aJ P w K mg base 1 "_law_answer" BV rK)(D:DefAt K mg "_law_worked" gF QZr):aJ P w K mg base 6 "_law_worked" QZr (yU c):=by
 refine D.go fA (λvs H Q E h=>?_) (λf' cdv A outer s0 H vs Q E hr h=>?_)
 ·obtain⟨f,d,b,p,zs,g,a,s,l,rx,wr,N,r,ld,rfl,_⟩:=h;rfl
 ·obtain⟨f,d,b,p,zs,g,a,s,l,rx,wr,N,r,ld,rfl,L,j8,hN,YR,NL,zi,FE,q1,q2⟩:=h;have c3:=cC hr;have J9:=hr.units;have B1:=hr;have LP:Room 2 _:=hr.mono Zd;have AV:Room 1 _:=hr.mono Zd;have FF:Room 1 _:=hr.mono Zd;obtain⟨pre,post,AS⟩:=append_of_mem j8;obtain⟨t0,v0,HF,g0,QX⟩:=oS L.tab L.h.up j8;have dg:=DGet.k (k:=Sum.inl (r.n:Int)) L.gt;rw[HF]at dg;have qm:s.runs.length<64:=by have:=L.hr;have:=L.nx.2;omega
  have EW:s.rows.length<=1000:=by have:=L.ho;have:=L.nx.2;omega
  have DE:=λr hr=>(L.all r hr).2.2.2.1
  obtain⟨hmb,hq,zj,YS,eR'⟩:=L.all r j8;refine⟨_,(lv (re (i:=6) fA.nd (my (ng (K:=K)) (rm c3 (jp 1) (jp 2)) lm)) (lv (re (i:=7) fA.nd (pj LO LP rfl (lc (jp 1) (lc (jp 2) li)))) (lv (pc (nh (R.ie J9) (my (ng (K:=K)) (rm c3 (jp 1) (jp 2)) lm) ms) (lv (pc (ww (v6 (pj AU AV rfl (lc (jp 5) (lc (jp 6) li))))) (mk (mz uj)) ph) (lv (pc (nh R.dt (jp 7) yn) (mk (mz (yk (R.eo J9) (R.dl i0 B1 (jp 0) (lc (jp 2) li)) (pf (lc ms (lc (jp 7) li)))))) ph) (lv (pc (u8 (yi (nh (R.du J9) (R.dl i0 B1 (jp 0) (lc (jp 2) li)) (pf (lc ms li))) (yj (nh (R.du J9) (R.dl vi B1 (jp 0) (lc (jp 2) (lc ms li))) (pf (lc ms (lc ms li))))))) (mk (mz uj)) ph) (lv (re (i:=8) fA.nd (pj FD FF rfl (lc (jp 5) (lc (jp 6) li)))) (lv (yb (pf (lc (jp 6) (lc (jp 8) li))) (yc (jp 1) (jp 2) (ye c3))) (mk (um (yg (K:=K) PySem.F.plainAttrs_list PySem.F.slot_list_append PySem.F.type_list_append R.dh (jp 3) (lc (pf (lc ms (lc (jp 2) (lc (jp 4) (lc (jp 8) li))))) li))))))))) ph) (mk (mz (yk (R.eo J9) (R.dl i0 B1 (jp 0) (lc (jp 2) li)) (pf (lc ms li)))))))),?_⟩;refine⟨p.tb,.ref t0,rfl,dg,_,QZd g0,_,rfl,?_⟩;dsimp only [aK];refine⟨f,p.tb,s.runs,l.tkv,r,rfl,L.gt,L.tab,L.h.up,L.h.dd,j8,DE,qm,λv H1 hv s1=>?_⟩;dsimp only [aK];have L1:=L.same s1;have LQ:=s1 _ _ NL;have jn:=DGet.k (k:=Sum.inl (r.n:Int)) L1.gt;rw[HF]at jn;refine⟨p.tb,.ref t0,rfl,jn,_,QZd (s1 _ _ g0),_,rfl,?_⟩
  cases QX with
  | done NM gz hy=>
   refine .inr ⟨_,_,rfl,s1 _ _ gz,?_⟩;refine⟨_,_,L1.h.dr,by kernel_rfl,a,s,pre,post,r,_,rfl,.inl rfl,L1.h,AS,qm,.inr (.inr ⟨NM,λt G s2 gt=>?_⟩)⟩;refine⟨aT rfl,λt2 G3 s3 ER=>⟨_,_,s3 _ _ gt,ER,Wr,?_⟩⟩;have:=q1 G3 ((L1.same s2).same s3) ((s2.trans s3) _ _ LQ);rw[<- eN (Wr (z:="unsafe") (w:="unsafe"))]at this;exact this
  | new NM=>
   refine .inl ⟨_,rfl,?_⟩;dsimp only [mB];refine lW (by kernel_rfl) ?_;refine⟨p.bk,r.d,l.prs,f,r.x,rfl,L1.gb,L1.al,L1.h.dd r j8,YS,?_⟩
   cases hy:aI f r.x with
   | none=>exact q1 H1 L1 LQ
   | some y=>
   have IW:=hv NM
   cases EK:s.runs.filter (λr'=>bQ r r') with
   | cons r' rest=>
    rw[EK]at IW;subst IW;refine⟨_,_,L1.h.dr,by kernel_rfl,a,s,pre,post,r,_,rfl,.inl rfl,L1.h,AS,qm,.inl ⟨NM,λr2 QY hh t G s2 gt=>?_,λhh=>IQ (EK.symm.trans hh) Zs⟩⟩;have e2:r2=r':=(List.cons.inj (hh.symm.trans EK)).1;subst e2;refine⟨aT rfl,λt2 G3 s3 ER=>⟨_,_,s3 _ _ gt,ER,fl2 rfl rfl,?_⟩⟩;have:=q1 G3 ((L1.same s2).same s3) ((s2.trans s3) _ _ LQ);rw[<- eN (fl2 (z:="waits") (w:="waits") (x:=.int (r2.n:Int)) (y:=.int (r2.n:Int)) rfl rfl)]at this;exact this
   | nil=>
   rw[EK]at IW;subst IW;refine⟨_,_,L1.h.dr,by kernel_rfl,a,s,pre,post,r,_,rfl,.inl rfl,L1.h,AS,qm,.inl ⟨NM,λr2 QY hh=>IQ (EK.symm.trans hh) Zs,λhh t G h2 v2 gt=>?_⟩⟩;refine⟨aT rfl,λt2 G2 s2 ER=>⟨_,_,s2 _ _ gt,ER,Wr,?_⟩⟩;rw[eN (Wr (z:="holds") (w:="holds"))];have sq:=h2.same s2;have QZ:(dH s pre post r "held").runs.length<64:=by show(pre++{r with st:=("held":Str) }::post).length<64;rw[AS]at qm;simpa using qm
   refine⟨_,_,sq.dr,by kernel_rfl,a,_,pre,post,{r with st:="held" },_,rfl,.inr rfl,sq,rfl,QZ,.inr (.inl ⟨rfl,zj.ok,EW,f,L.am,λy' yt t3 ra z G3 h3 v3 ze gz YT=>?_,λhn=>IQ (hy.symm.trans hn) Zs⟩)⟩;have ey:y'=y:=Option.some.inj (yt.symm.trans hy);subst ey;refine⟨aT rfl,λt4 G4 s4 gt4=>⟨_,_,s4 _ _ YT,gt4,fl2 rfl rfl,?_⟩⟩;rw[eN (fl2 (z:="writes") (w:="writes") (x:=.str "done") (y:=.str "done") rfl rfl)];have m3:Mv a s {dH s pre post r "written" with rows:=s.rows++[.ref ra] } H G3:=((Mv.same s1).trans (v2.trans (.same s2))).trans v3;obtain⟨k3a,k3b,YU⟩:=L.left m3;have L4:=L1.h.dd r j8;have gd4:G4 r.d=some (.tup r.x.vs):=s4 _ _ (m3.tk L.h _ _ (L.h.dd r j8));have CT:=k3b.same s4;refine⟨p.bk,r.d,l.prs,f,r.x,y',rfl,CT.get 1 rfl,L.al,gd4,hy,λz2 G5 s5 UP=>?_⟩;dsimp only [aK];have NN:=CT.same s5;refine⟨aT rfl,λt5 G6 s6 QK=>?_⟩;have NO:=NN.same s6;have LR:G6 p.tb=some (.dK l.tkv):=NO.get 2 rfl;refine⟨p.tb,_,rfl,DPut.k (k:=Sum.inl (r.n:Int)) LR (rY (m:=1000) (by rw[<- L.tab.length];omega) Zd),?_⟩;have FG:Own (aH G6 p.tb (.dK (bB l.tkv (Sum.inl (r.n:Int)) (.ref t5)))) (p.objs {l with tkv:=bB l.tkv (Sum.inl (r.n:Int)) (.ref t5) } ((s.next:Int)-1)):=NO.set 2 rfl _;have YV:=(s4.trans s5).trans s6;have YW:G3 ld=some (.lst []):=m3.fr _ _ NL FE;have ldn:ld≠p.tb:=λe=>zi (by rw[e];simp[LA.fix])
   have tk6:TK G3 (aH G6 p.tb (.dK (bB l.tkv (Sum.inl (r.n:Int)) (.ref t5)))):=(TK.of YV).trans (cG LR λ_ z=>nomatch z);have ID:(aH G6 p.tb (.dK (bB l.tkv (Sum.inl (r.n:Int)) (.ref t5)))) ld=some (.lst []):=by rw[aE ldn];exact YV _ _ YW
   have kp7:∀q o,G6 q=some o->q≠p.tb->(aH G6 p.tb (.dK (bB l.tkv (Sum.inl (r.n:Int)) (.ref t5)))) q=some o:=λq o e hq=>by rw[aE hq];exact e
   have LU:TK G6 (aH G6 p.tb (.dK (bB l.tkv (Sum.inl (r.n:Int)) (.ref t5)))):=cG LR λ_ z=>nomatch z
   generalize aH G6 p.tb (.dK (bB l.tkv (Sum.inl (r.n:Int)) (.ref t5)))=G7 at FG tk6 ID kp7 LU ⊢;refine⟨.inl ⟨rfl,_,QZc ID⟩,aT rfl,λtd G8 s8 ED=>⟨ld,[],.ref td,rfl,rfl,s8 _ _ ID,Zd,?_⟩⟩;have YX:ld∉a.fix++({dH s pre post r "written" with rows:=s.rows++[.ref ra] }:DS).runs.map (·.p):=m3.stay FE NL;have LV:∀q o,G3 q=some o->q≠p.tb->q≠ld->(aH G8 ld (.lst ([]++[.ref td]))) q=some o:=λq o e n1 n2=>by rw[aE n2];exact s8 _ _ (kp7 _ _ (YV _ _ e) n1)
   have LW:TK G8 (aH G8 ld (.lst ([]++[.ref td]))):=cG (s8 _ _ ID) λ_ z=>nomatch z
   have RA:(aH G8 ld (.lst ([]++[.ref td]))) ld=some (.lst [.ref td]):=aA;have JM:Own (aH G8 ld (.lst ([]++[.ref td]))) (p.objs {l with tkv:=bB l.tkv (Sum.inl (r.n:Int)) (.ref t5) } ((s.next:Int)-1)):=(FG.same s8).k1 (λm=>zi (fL _ (fL _ m))) λq u e n=>by rw[aE n];exact e
   generalize aH G8 ld (.lst ([]++[.ref td]))=G9 at LV LW RA JM ⊢;have RB:TK G3 G9:=(tk6.trans (TK.of s8)).trans LW;have RC:p.tb∈d::b::p.fix:=by simp[LA.fix]
   have h9:DAt c G9 a {dH s pre post r "written" with rows:=s.rows++[.ref ra] }:=DAt.keep (H:=G3) h3 (λq o e hq=>LV q o e (λz=>YU _ RC (z▸hq)) λz=>YX (z▸hq)) RB;have dk9:Dk G9 d b:=by
    obtain⟨ns,s0,k0,e1,e2,e3⟩:=k3a.ex;exact⟨ns,s0,k0,LV _ _ e1 (λz=>L.od.1 (by rw[z];simp[LA.fix])) (λz=>zi (by rw[<- z];simp)),LV _ _ e2 (λz=>L.od.2 (by rw[z];simp[LA.fix])) (λz=>zi (by rw[<- z];simp)),e3⟩
   have RD:({dH s pre post r "written" with rows:=s.rows++[.ref ra] }:DS).runs.length<64:=by show(pre++{r with st:=("written":Str) }::post).length<64;rw[AS]at qm;simpa using qm
   refine⟨_,_,h9.dr,by kernel_rfl,a,_,pre,post,{r with st:="written" },_,rfl,.inl rfl,h9,rfl,RD,.inr (.inr ⟨rfl,λUK JN EX YY=>?_⟩)⟩;refine⟨aT rfl,λt11 AW s11 YZ=>⟨_,_,s11 _ _ YY,YZ,Wr,?_⟩⟩;have DG:=EX.trans s11;have DH:=JM.same DG;have JO:=DG _ _ RA;have YM:=h9.same DG;have RE:TK G3 AW:=RB.trans (TK.of DG);have CU:TK G8 AW:=LW.trans (TK.of DG);have P2:∀r'∈s.runs,bQ r r'=false:=λr' h'=>by
    cases e:bQ r r' with
    | false=>rfl
    | true=>
     have:r'∈s.runs.filter (λr'=>bQ r r'):=mem_filter.mpr ⟨h',e⟩;rw[EK]at this;cases this
   have key:=q2 AW t5 td z2 {dH s pre post r "written" with rows:=s.rows++[.ref ra] } y' (wr++[{r with st:="written" }]) (dk9.same DG) DH JO (CU _ _ ED) rfl rfl YX (λRF LX IE k12=>by
    have zk:TK AW RF:=λq xs e=>k12 q _ e (aQ e (DH.get 3 rfl) λz=>nomatch z) (aQ e (DH.get 4 rfl) λz=>nomatch z) (aQ e JO λz=>nomatch z)
    have RG:p.lr∈d::b::p.fix:=by simp[LA.fix]
    have Zg:p.lw∈d::b::p.fix:=by simp[LA.fix]
    refine L.wrote AS NM P2 YR hy m3 ze gz (RE.trans zk) LX (YM.keep (λq o e hq=>k12 q o e (λz=>YU _ RG (z▸hq)) (λz=>YU _ Zg (z▸hq)) λz=>YX (z▸hq)) zk) ?_ ?_ (zk _ _ (CU _ _ ED)) IE
    ·exact zk _ _ (CU _ _ (s8 _ _ (LU _ _ (s6 _ _ UP))))
    ·exact zk _ _ (CU _ _ (s8 _ _ (LU _ _ QK))))
   rw[<- eN (Wr (z:="unsafe") (w:="unsafe"))]at key;exact key
def Dl{f:Str->Nat}{H:Hp}{rs:List Rn}{kvs:List (bC×V)}(h:Paired (TbAt f H) rs kvs){n:Nat}{v:V}(hv:aV kvs (Sum.inl (n:Int))=some v):∃r∈rs,r.n=n:=by
 induction h with
 | nil=>cases hv
 | @cons r kv rs kvs h t ih=>
  by_cases e:r.n=n
  ·exact⟨r,Zs,e⟩
  ·rw[bR (by rw[h.1];intro z;have:=Sum.inl.inj z;omega)]at hv;obtain⟨r',h1,h2⟩:=ih hv;exact⟨r',fL _ h1,h2⟩
def Av:∀ {xs ys:List Rn},(xs.map (·.n)).Nodup->(∀x∈xs,x∈ys)->xs.length<=ys.length
 | [],_,_,_=>zero_le _
 | x::xs,ys,hn,h=>by
  rw[map_cons]at hn;obtain⟨h1,h2⟩:=nodup_cons.mp hn;obtain⟨a,b,e⟩:=append_of_mem (h x mZ);have:=Av (ys:=a++b) h2 λy hy=>by
   have hm:=h y (fL _ hy);rw[e]at hm;rcases Zma.mp hm with z|z
   ·exact IN _ z
   ·rcases mem_cons.mp z with z|z
    ·exact IQ (by rw[<- z];exact mem_map_of_mem hy) h1
    ·exact GS _ z
  rw[e];simp only [wM,wN]at this ⊢;omega
def Mf(c:CK):Sp:=λvs H Q _=>∃(f:Str->Nat)(d b:TD)(p:LA)(zs:List Str)(g:Str)(a:DA)(s:DS)(l:LS)(rx:List TV)(wr:List Rn)(N:Nat),vs=[.ref d,.ref a.dr,.ref p.sd]/\LI c H f d b p zs g a s l rx wr N/\N<=60/\s.turn=l.turn/\2<=s.next ∧
 ∀s' l' AX DF G,LI c G f d b p zs g a s' l' AX DF N->s'.next=s.next->s'.turn=s.turn->l'.turn=l.turn->Q (.bl true) G
def Qo{c:CK}(T:Txt K mg)(b8:aJ P w K mg base 1 "_law_draw" CA hW)(FH:aJ P w K mg base 6 "_law_worked" QZr (yU c))(D:DefAt K mg "_law_all_worked" cF QZm):aJ P w K mg base 7 "_law_all_worked" QZm (Mf c):=by
 refine D.go cB (λvs H Q E h=>?_) (λf' cdv A outer s0 H vs Q E hr h=>?_)
 ·obtain⟨f,d,b,p,zs,g,a,s,l,rx,wr,N,rfl,_⟩:=h;rfl
 ·obtain⟨f,d,b,p,zs,g,a,s,l,rx,wr,N,rfl,L,hN,YR,IY,q⟩:=h;have c3:=cC hr;have b9:Room 1 _:=hr.mono Zd;have FI:=hr;have x9:∀ {G:Hp}{l:LS}{n:Int} (k:Str) (v:V),G p.sd=some (.dK (p.kv l.turn n))->aV (p.kv l.turn n) (Sum.inr k)=some v->DGet G p.sd (.str k) (some v):=λ{G l n} k v g0 e=>by
   have:=DGet.k (k:=Sum.inr k) g0;rw[e]at this;exact this
  refine⟨_,(lv (re (i:=3) cB.nd (pj b8 b9 rfl (lc (jp 0) (lc (rm c3 (jp 2) ms) li)))) (lv (ya PassesOwn.never rfl (R.cz rfl T.b_range (lc (rm c3 (jp 2) ms) li)) (pr (i:=4) cB.nd) (lv (re (i:=5) cB.nd (o0 rq lm (o0 yp (o0 rq (jp 3) (jp 4)) (rm c3 (jp 2) ms)))) (mk (pc (nh (R.fg c3) (jp 5) (rm c3 (jp 2) ms)) (lv (re (i:=6) cB.nd (uo li)) (lv (pc (ww (v6 (pj FH FI rfl (lc (jp 1) (lc (rm c3 (jp 2) ms) (lc (jp 5) (lc (jp 6) (lc (rm c3 (jp 2) ms) (lc (rm c3 (jp 2) ms) li))))))))) (mk (mz uj)) ph) (lv (um (yg (K:=K) PySem.F.plainAttrs_list PySem.F.slot_list_extend PySem.F.type_list_extend R.fe (rm c3 (jp 2) ms) (lc (jp 6) li))) (mk (um (yg (K:=K) PySem.F.plainAttrs_list PySem.F.slot_list_extend PySem.F.type_list_extend R.fe (rm c3 (jp 2) ms) (lc (xy rfl (js:=[none]) (N:=["_law_row"]) (CompScope.by (aB cF) QZh rfl rfl Zk) (aP rfl) (uk (K:=K) (jp 6)) (λC s₂ H₂ fp=>⟨(pr (i:=0) (show(["_law_row"]:List Str).Nodup by decide +kernel)),yd,(my (ng (K:=K)) (jp 0) lm)⟩)) li))))))) ph)))) (mk (mz uj)))),?_⟩;refine⟨p.sd,_,rfl,x9 "number" (.int ((s.next:Int)-1)) L.gs (by kernel_rfl),d,b,_,rfl,L.dk,Zo,by have:=L.nx.2;omega,λr1 H1 a0 a1 D1 k1=>?_⟩;dsimp only [aK];have L1:=L.draw D1 k1;have uw:=L.nx.2;refine⟨p.sd,_,rfl,x9 "number" (.int ((s.next:Int)-1)) L1.gs (by kernel_rfl),_,rfl,Zo,Zo,?_⟩;refine dI (gJ 0 ((s.next:Int)-1).toNat) (λi σ G=>(∃o4 o5 o6,σ=[some (.ref d),some (.ref a.dr),some (.ref p.sd),some (.int r1),o4,o5,o6])/\∃s' l' AX DF,LI c G f d b p zs g a s' l' AX DF N/\s'.next=s.next/\s'.turn=s.turn/\l'.turn=l.turn) (λ_ _ _ _=>trivial)
   ⟨⟨_,_,_,rfl⟩,s,l,rx,wr,L1,rfl,rfl,rfl⟩ ?_ (λσ G ⟨_,s',l',AX,DF,L',e1,e2,e3⟩=>q s' l' AX DF G L' e1 e2 e3)
  rintro i x σ G hx ⟨⟨o4,o5,o6,rfl⟩,s1,l1,RH,UQ,L2,e1,e2,e3⟩;obtain⟨rfl,hi⟩:=rE hx;dsimp only [aK];have UO:(s1.next:Int)=(s.next:Int):=by rw[e1]
  refine⟨p.sd,_,rfl,x9 "number" (.int ((s1.next:Int)-1)) L2.gs (by kernel_rfl),Zo,?_⟩;dsimp only [aK];have hm0:0<=(r1+(i:Int))%((s1.next:Int)-1):=Int.emod_nonneg _ Zo;obtain⟨k0,hk0⟩:=Zq hm0;rw[hk0];obtain⟨k,hk⟩:∃k:Nat,1+(k0:Int)=(k:Int):=⟨1+k0,rfl⟩;dsimp only [zV,mI];rw[hk];have dgT:=DGet.k (k:=Sum.inl (k:Int)) L2.gt;refine⟨p.sd,_,rfl,x9 "table" (.ref p.tb) L2.gs (by kernel_rfl),_,dgT,?_⟩
  cases PR:aV l1.tkv (Sum.inl (k:Int)) with
  | none=>exact⟨⟨_,_,_,rfl⟩,s1,l1,RH,UQ,L2,e1,e2,e3⟩
  | some v=>
  obtain⟨r,j8,rfl⟩:=Dl L2.tab PR;refine⟨kW rfl,λld CW=>?_⟩;have s3:=aF (o:=.lst []) CW;have NL:(aH G ld (.lst [])) ld=some (.lst []):=aA;have L3:=L2.same s3;have FE:=L2.h.fresh CW;have zi:ld∉d::b::p.fix:=λm=>by
   obtain⟨ns,s0,k0,h1,h2,h3⟩:=L2.dk.ex;rcases mem_cons.mp m with z|m
   ·rw[z,h1]at CW;cases CW
   ·rcases mem_cons.mp m with z|m
    ·rw[z,h2]at CW;cases CW
    ·exact L2.ow.keys CW m
  generalize aH G ld (.lst [])=G3 at s3 NL L3 ⊢;dsimp only [aK];refine fN (λv G4=>v=false/\∃(us:List V)(ns:List Nat)(l4:LS),Dk G4 d b/\Own G4 (p.objs l4 ((s1.next:Int) - 1))/\G4 ld=some (.lst us)/\l4.rws.length+us.length<=1000/\l4.ws.length+ns.length<=1000/\us.length=ns.length/\us.length<=1/\(∀(j:Nat)(u:V),us[j]?=some u->∃(td:TD)(wd:V)(n:Nat)(xs:List V),u=.ref td/\G4 td=some (.tup (wd::.int (n:Int)::xs))/\ns[j]?=some n) ∧
   ∀G2,Dk G2 d b->Own G2 (p.objs {l4 with rws:=l4.rws++us,ws:=l4.ws++ns } ((s1.next:Int) - 1))->(∀q o,G4 q=some o->q≠p.lr->q≠p.lw->q≠ld->G2 q=some o)->∃s' l' AX DF,LI c G2 f d b p zs g a s' l' AX DF N/\s'.next=s.next/\s'.turn=s.turn/\l'.turn=l.turn) (λk hk=>?_) (λG4 h=>nomatch h.1) (λG4 h=>?_)
  ·have NJ:l1.rws.length<=999:=by have:=L2.ho;have:=L2.nx.2;rw[<- L2.r2.length,L2.r1.length];omega
   have NA:l1.ws.length<=999:=by
    have h1:UQ.length<=s1.runs.length:=Av L2.wd λr hr=>((L2.wm r).mp hr).1
    have:=L2.hr;have:=L2.nx.2;rw[<- L2.wn,bP];omega
   refine⟨p.sd,_,rfl,x9 "table" (.ref p.tb) L3.gs (by kernel_rfl),p.sd,_,rfl,x9 "turn" (.int l1.turn) L3.gs (by kernel_rfl),p.sd,_,rfl,x9 "book" (.ref p.bk) L3.gs (by kernel_rfl),f,d,b,p,zs,g,a,s1,l1,RH,UQ,N,r,ld,rfl,L3,j8,hN,by rw[e2,e3,YR],NL,zi,FE,λG4 L4 g4=>?_,λG4 t td z2 s' y DF RI CT g4 ED en et ho K4=>?_⟩
   ·refine hk _ _ ⟨rfl,[],[],l1,L4.dk,L4.ow,g4,by simp;omega,by simp;omega,rfl,Zs,(λj u hu=>nomatch hu),λG2 Zn UR k2=>⟨s1,l1,RH,UQ,?_,e1,e2,e3⟩⟩;have tk2:TK G4 G2:=λq xs e=>k2 q _ e (aQ e L4.gr λz=>nomatch z) (aQ e L4.gw λz=>nomatch z) (aQ e g4 λz=>nomatch z)
    have RG:p.lr∈d::b::p.fix:=by simp[LA.fix]
    have Zg:p.lw∈d::b::p.fix:=by simp[LA.fix]
    rw[append_nil,append_nil]at UR;exact L4.move tk2 Zn UR (L4.h.keep (λq o e hq=>k2 q o e (λz=>L4.out _ RG (z▸hq)) (λz=>L4.out _ Zg (z▸hq)) λz=>FE (z▸hq)) tk2)
   ·exact hk _ _ ⟨rfl,[.ref td],[r.n],{l1 with tkv:=bB l1.tkv (Sum.inl (r.n:Int)) (.ref t) },RI,CT,g4,by simp;omega,by simp;omega,rfl,Zs,λj u hu=>(by
     match j,hu with
     | 0,hu=>cases hu;exact⟨td,_,r.n,_,rfl,ED,rfl⟩),λG2 Zn UR k2=>⟨s',_,_,DF,K4 G2 Zn UR k2,en.trans e1,et.trans e2,e3⟩⟩
  ·obtain⟨_,us,ns,l4,RI,CT,g4,KR,nr,LB,YL,hus,KK⟩:=h;dsimp only [cK];have nlr:ld≠p.lr:=λe=>zi (by rw[e];simp[LA.fix])
   have nlw:ld≠p.lw:=λe=>zi (by rw[e];simp[LA.fix])
   have US:d≠p.lr/\b≠p.lr/\d≠p.lw/\b≠p.lw:=⟨λe=>L2.od.1 (by rw[e];simp[LA.fix]),λe=>L2.od.2 (by rw[e];simp[LA.fix]),λe=>L2.od.1 (by rw[e];simp[LA.fix]),λe=>L2.od.2 (by rw[e];simp[LA.fix])⟩;refine⟨p.sd,_,rfl,x9 (l:=l4) "rows" (.ref p.lr) (CT.get 0 rfl) (by kernel_rfl),.inl ⟨rfl,_,QZc (CT.get 3 rfl)⟩,p.lr,ld,_,us,rfl,rfl,CT.get 3 rfl,g4,eS KR Zd,?_⟩;dsimp only;have NN:Own (aH G4 p.lr (.lst (l4.rws++us))) (p.objs {l4 with rws:=l4.rws++us } ((s1.next:Int)-1)):=CT.set 3 rfl _;have g5:(aH G4 p.lr (.lst (l4.rws++us))) ld=some (.lst us):=by rw[aE nlr];exact g4
   have k5:∀q o,G4 q=some o->q≠p.lr->(aH G4 p.lr (.lst (l4.rws++us))) q=some o:=λq o e h=>by rw[aE h];exact e
   have tk5:TK G4 (aH G4 p.lr (.lst (l4.rws++us))):=cG (CT.get 3 rfl) λ_ z=>nomatch z
   generalize aH G4 p.lr (.lst (l4.rws++us))=G5 at NN g5 k5 tk5 ⊢;refine⟨p.sd,_,rfl,x9 (l:=l4) "written" (.ref p.lw) (NN.get 0 rfl) (by kernel_rfl),.inl ⟨rfl,_,QZc (NN.get 4 rfl)⟩,ld,rfl,⟨_,QZc g5⟩,?_⟩;refine bJ (cA K ld us) Zo (λj ys G6=>G6=G5/\ys=(ns.take j).map λ(n:Nat)=>V.int (n:Int)) (λj ys G6 ⟨e1,e2⟩=>⟨by rw[e1];exact QZc g5,by rw[e2,bP,mV];omega⟩) ⟨rfl,rfl⟩ (?_) (?_)
   ·rintro j u ys G6 hu ⟨z1,z2⟩;subst z1;obtain⟨td,wd,n,xs,rfl,ED,hn⟩:=hus j u hu;dsimp only [aK];refine⟨_,QZd (tk5 _ _ ED),.int (n:Int),fQ (show(wd::V.int (n:Int)::xs)[1]?=some _ from rfl),rfl,?_⟩;rw[aZ hn,jM,z2];rfl
   ·rintro ys G6 ⟨z1,z2⟩;subst z1;rw[LB,take_length]at z2;intro l3 ZA;have s7:=aF (o:=.lst ys) ZA;have g7:(aH G6 l3 (.lst ys)) l3=some (.lst ys):=aA;generalize aH G6 l3 (.lst ys)=G7 at s7 g7 ⊢;have FG:=NN.same s7;refine⟨p.lw,l3,_,ys,rfl,rfl,FG.get 4 rfl,g7,?_,?_⟩
    ·rw[z2,bP,bP];exact eS nr Zd
    ·have NP:Own (aH G7 p.lw (.lst ((l4.ws.map λ(n:Nat)=>V.int (n:Int))++ys))) (p.objs {l4 with rws:=l4.rws++us,ws:=l4.ws++ns } ((s1.next:Int)-1)):=by
      have:=FG.set 4 rfl (.lst ((l4.ws.map λ(n:Nat)=>V.int (n:Int))++ys));rw[z2,<- jM]at this ⊢;exact this
     have k8:∀q o,G4 q=some o->q≠p.lr->q≠p.lw->(aH G7 p.lw (.lst ((l4.ws.map λ(n:Nat)=>V.int (n:Int))++ys))) q=some o:=λq o e h1 h2=>by rw[aE h2];exact s7 _ _ (k5 _ _ e h1)
     refine⟨⟨_,_,_,rfl⟩,KK _ ?_ NP λq o e h1 h2 _=>k8 q o e h1 h2⟩;obtain⟨n0,s0,k0',e1',UT,e3'⟩:=RI.ex;exact⟨n0,s0,k0',k8 _ _ e1' US.1 US.2.2.1,k8 _ _ UT US.2.1 US.2.2.2,e3'⟩
def Mg(n:Nat)(al:List Nat):lO (.int (n:Int)) (al.map λ(n:Nat)=>V.int (n:Int))=decide (n∈al):=by
 induction al with
 | nil=>rfl
 | cons a al ih=>
  have e:lO (.int (n:Int)) ((a::al).map λ(n:Nat)=>V.int (n:Int))=(decide ((a:Int)=(n:Int))||lO (.int (n:Int)) (al.map λ(n:Nat)=>V.int (n:Int))):=by
   unfold lO;rw[map_cons,any_cons];congr 1
  rw[e,ih,<- Bool.decide_or];congr 1;rw[mem_cons];exact propext ⟨λh=>h.imp (λz=>by omega) id,λh=>h.imp (λz=>by omega) id⟩
def yV{m n:Nat}(h:cH m=cH n):m=n:=by rw[<- xK m,h,xK]
def Dm{m:Nat}(h:m<100):isKy (cH m):=by
 refine⟨Jc m,eS (Ov (k:=1) h) Zd,λc hc=>GS _ ((Ou c).mpr ?_)⟩;have:=xJ m c hc;exact this
def ddT(x:Dd):TV:=.tp (x.vs.map TV.sc)
def Qp{H:Hp}{z:TD}{x:Dd}(g:H z=some (.tup x.vs)):RepT H 1 (ddT x) (.ref z):=by
 refine⟨z,x.vs,rfl,g,?_⟩;cases x
 case pass=>exact .cons (.scal rfl) (.cons (.scal rfl) (.cons (.scal rfl) (.cons (.scal rfl) (.cons (.scal rfl) .nil))))
 case add=>exact .cons (.scal rfl) (.cons (.scal rfl) (.cons (.scal rfl) .nil))
 case take=>exact .cons (.scal rfl) (.cons (.scal rfl) (.cons (.scal rfl) .nil))
 all_goals exact .cons (.scal rfl) (.cons (.scal rfl) (.cons (.scal rfl) (.cons (.scal rfl) .nil)))
def Mh(n:Nat)(w:Int)(x:Dd):TV:=.tp [.sc (.str "came"),.sc (.int (n:Int)),.sc (.int w),.sc (.str "bo"),.sc (.str (cH n)),ddT x]
def uL{H:Hp}{t z:TD}{n:Nat}{w:Int}{x:Dd}(g:H t=some (.tup [.str "came",.int (n:Int),.int w,.str "bo",.str (cH n),.ref z]))(gz:H z=some (.tup x.vs)):RepT H 2 (Mh n w x) (.ref t):=
 ⟨t,_,rfl,g,.cons (.scal rfl) (.cons (.scal rfl) (.cons (.scal rfl) (.cons (.scal rfl) (.cons (.scal rfl) (.cons (Qp gz) .nil)))))⟩
def LS.came(l:LS)(n:Nat)(t td:TD):LS:={l with tkv:=bB l.tkv (Sum.inl (n:Int)) (.ref t),rws:=l.rws++[.ref td] }
section
variable {c:CK}{H H2 G:Hp}{f:Str->Nat}{d b:TD}{p:LA}{zs:List Str}{g:Str}{a:DA}{s:DS}{l:LS}{rx:List TV}{wr:List Rn}{N:Nat}
def LI.begun(L:LI c H f d b p zs g a s l rx wr N){dd:TD}{x:Dd}{p0 dx ra t td:TD}(hx:Far zs [g] x)(DE:∀u v z n,x≠.pass u v z n)(UU:H dd=some (.tup x.vs))(m:Mv a s (lN s l.turn ("bo",cH s.next) dd x p0 dx ra) H H2)(ze:H2 ra=some (.tup [.str "came",.int s.next,.int l.turn,.str "bo",.str (cH s.next),.ref dd]))(P2:s.m ("bo",cH s.next)=none)(k:TK H2 G)(QS:Dk G d b)(dG:DAt c G a (lN s l.turn ("bo",cH s.next) dd x p0 dx ra))(gt:G t=some (.tup [.ref dd,.str "new"]))(ED:G td=some (.tup [.str "came",.int s.next,.int l.turn,.str "bo",.str (cH s.next),.ref dd]))(ow:Own G (p.objs (l.came s.next t td) ((s.next:Int)))) :
  LI c G f d b p zs g a (lN s l.turn ("bo",cH s.next) dd x p0 dx ra) (l.came s.next t td) (rx++[Mh s.next l.turn x]) wr (N+1):=by
 have kk:=(m.tk L.h).trans k;have RJ:=kk _ _ UU;have hb:∀r∈s.runs,r.q≠(("bo":Str),cH s.next):=λr hr e=>by
  have:=(L.all r hr).1;rw[e,P2]at this;cases this
 obtain⟨e1,e2,e3⟩:=L.left m;refine {dk:=QS,ow:=?_,od:=L.od,h:=dG,out:=e3,tab:=?_,r1:=?_,r2:=?_,am:=L.am,al:=L.al,f12:=L.f12,nd:=L.nd,pl:=L.pl,pl':=L.pl',zn:=L.zn,nx:=?_,hL:=?_,hr:=?_,ho:=?_,hn:=?_,tu:=?_,lf:=L.lf,all:=?_,mo:=?_,ex:=?_,hv:=L.hv,rw:=?_,wn:=L.wn,wd:=L.wd,wm:=?_ }
 ·show Own G (p.objs (l.came s.next t td) (((s.next+1:Nat):Int)-1));rw[show(((s.next+1:Nat):Int)-1)=(s.next:Int) by omega];exact ow
 ·have e0:aV l.tkv (Sum.inl (s.next:Int))=none:=by
   cases e:aV l.tkv (Sum.inl (s.next:Int)) with
   | none=>rfl
   | some v=>
    obtain⟨r,hr,e2⟩:=Dl L.tab e;have:=(L.hn r hr).1;omega
  show Paired (TbAt f G) (s.runs++[mQ p0 dx s.next ("bo",cH s.next) dd x "new"]) (bB l.tkv (Sum.inl (s.next:Int)) (.ref t));rw[gM _ e0];exact Paired.snoc1 (Paired.map' (λ_ _ x=>TbAt.tk x kk) L.tab) ⟨rfl,t,_,rfl,gt,.new rfl⟩
 ·exact Paired.snoc1 (Paired.map' (λ_ _ x=>x.tk kk) L.r1) (uL (k _ _ ze) RJ)
 ·exact Paired.snoc1 (Paired.map' (λ_ _ x=>x.tk kk) L.r2) (uL ED RJ)
 ·have:=L.nx;exact⟨by show 1<=s.next+1;omega,by show s.next+1<=N+1+1;omega⟩
 ·have:=L.hL;show s.L+1+(s.runs++[_]).length+2<=2*(s.next+1);simp;omega
 ·have:=L.hr;show(s.runs++[_]).length<s.next+1;simp;omega
 ·have h1:=L.ho;show(s.rows++[V.ref ra]).length+((s.runs++[mQ p0 dx s.next ("bo",cH s.next) dd x "new"]).filter λ(r:Rn)=>decide (r.st=("new":Str))).length+2<=2*(s.next+1);rw[filter_append];have:([mQ p0 dx s.next ("bo",cH s.next) dd x "new"].filter λ(r:Rn)=>decide (r.st=("new":Str))).length<=1:=eS (length_filter_le _ _) Zs;simp only [wM,wN,length_nil]at h1 this ⊢;omega
 ·intro r hr;show r.n<s.next+1/\1<=r.n;rcases Zma.mp hr with z|z
  ·have:=L.hn r z;exact⟨Zo,this.2⟩
  ·rw[Zms.mp z];exact⟨by show s.next<s.next+1;omega,L.nx.1⟩
 ·exact⟨Int.le_trans L.tu.1 L.tu.2.1,Int.le_refl _,L.tu.2.2⟩
 ·intro r hr;rcases Zma.mp hr with z|z
  ·obtain⟨z1,z2,z3⟩:=L.all r z;exact⟨by show(s.m.set _ _) r.q=_;rw[KM.set_ne (hb r z)];exact z1,z2,z3⟩
  ·rw[Zms.mp z];exact⟨by show(s.m.set (("bo":Str),cH s.next) _) (("bo":Str),cH s.next)=_;rw[KM.set_same];rfl,rfl,hx,DE,.inl rfl⟩
 ·intro q e he;by_cases zq:q=(("bo":Str),cH s.next)
  ·exact⟨s.next,by show s.next<s.next+1;omega,by rw[zq]⟩
  ·have HW:(s.m.set (("bo":Str),cH s.next) _) q=some e:=he;rw[KM.set_ne zq]at HW;obtain⟨n,h1,h2⟩:=L.mo q e HW;exact⟨n,by show n<s.next+1;omega,h2⟩
 ·intro r hr r' S7 j9 n1 n2;rcases Zma.mp hr with z|z
  ·rcases Zma.mp S7 with z'|z'
   ·exact L.ex r z r' z' j9 n1 n2
   ·rw[Zms.mp z']at n2;exact IQ rfl n2
  ·rw[Zms.mp z]at n1;exact IQ rfl n1
 ·obtain⟨old,news,h3,h4,h5⟩:=L.rw;refine⟨old,news++[.ref ra],by show s.rows++[_]=_;rw[h3,append_assoc],h4,?_⟩;have:=(h5.tk kk).app (.skip (k _ _ ze) Zk .nil)
  rwa [append_nil]at this
 ·intro r;constructor
  ·intro h;obtain⟨z1,z2⟩:=(L.wm r).mp h;exact⟨IN _ z1,z2⟩
  ·rintro⟨z1,z2⟩;rcases Zma.mp z1 with z|z
   ·exact(L.wm r).mpr ⟨z,z2⟩
   ·rw[Zms.mp z]at z2;exact IQ z2 (by show ¬ ("new":Str)="written";decide +kernel)
end
def Sd:isNm "bo":=by
 refine⟨Zk,Zk,Zk⟩
def uM(c:CK):Sp:=λvs H Q _=>∃(f:Str->Nat)(d b:TD)(p:LA)(zs:List Str)(g:Str)(a:DA)(s:DS)(l:LS)(rx:List TV)(wr:List Rn)(N:Nat)(ln:TD),vs=[.ref d,.ref a.dr,.ref p.sd,.ref ln,.str g]/\LI c H f d b p zs g a s l rx wr N/\N+6<=60/\H ln=some (.lst (zs.map V.str))/\ln∉d::b::p.fix/\ln∉a.fix++s.runs.map (·.p)/\Ma zs/\isNm g ∧
 ∀s' l' AX G,LI c G f d b p zs g a s' l' AX wr (N+6)->s'.turn=l'.turn->2<=s'.next->l'.turn=l.turn->Q (.bl true) G
def LI.less{c:CK}{H:Hp}{f:Str->Nat}{d b:TD}{p:LA}{zs:List Str}{g:Str}{a:DA}{s:DS}{l:LS}{rx:List TV}{wr:List Rn}{N M:Nat}(L:LI c H f d b p zs g a s l rx wr N)(h:N<=M):LI c H f d b p zs g a s l rx wr M:={L with nx:=⟨L.nx.1,by have:=L.nx.2;omega⟩ }
def Aw{c:CK}(T:Txt K mg)(b8:aJ P w K mg base 1 "_law_draw" CA hW)(LY:aJ P w K mg base 4 "_law_deed" QZt yR)(P8:cP P w K mg base 5 c.D "come" QZI (wG c))(D:DefAt K mg "_law_begun" hU QZn):aJ P w K mg base 6 "_law_begun" QZn (uM c):=by
 refine D.go gG (λvs H Q E h=>?_) (λf' cdv A outer s0 H vs Q E hr h=>?_)
 ·obtain⟨f,d,b,p,zs,g,a,s,l,rx,wr,N,ln,rfl,_⟩:=h;rfl
 ·obtain⟨f,d,b,p,zs,g,a,s,l,rx,wr,N,ln,rfl,L,hN,gln,LZ,ZC,JH,hg,q⟩:=h;have c3:=cC hr;have J9:=hr.units;have b9:Room 1 _:=hr.mono Zd;have MB:Room 4 _:=hr.mono Zd;have M3:=hr;have x9:∀ {G:Hp}{l:LS}{n:Int} (k:Str) (v:V),G p.sd=some (.dK (p.kv l.turn n))->aV (p.kv l.turn n) (Sum.inr k)=some v->DGet G p.sd (.str k) (some v):=λ{G l n} k v g0 e=>by
   have:=DGet.k (k:=Sum.inr k) g0;rw[e]at this;exact this
  have NQ:ln≠d/\ln≠b:=⟨λe=>LZ (by rw[e];simp),λe=>LZ (by rw[e];simp)⟩;refine⟨_,(lv (ya PassesOwn.never rfl (R.cz rfl T.b_range (lc (o0 rq lm (pj b8 b9 rfl (lc (jp 0) (lc lm li)))) li)) (pr (i:=5) gG.nd) (lv (re (i:=6) gG.nd (pj LY MB rfl (lc (jp 0) (lc (jp 3) (lc (jp 4) (lc (rm c3 (jp 2) ms) li)))))) (lv (re (i:=7) gG.nd (o0 rq (rm c3 (jp 2) ms) lm)) (lv (pc (nh (R.cr J9) (uh P8 M3 (jp 1) (lc (rm c3 (jp 2) ms) (lc ms (lc (yo R.eg rfl T.b_str nZ (lc (jp 7) li)) (lc (jp 6) li))))) (pf (lc ms (lc (jp 7) li)))) (mk (mz uj)) ph) (lv (yb (jp 7) (yc (jp 2) ms (ye c3))) (lv (yb (pf (lc (jp 6) (lc ms li))) (yc (rm c3 (jp 2) ms) (jp 7) (ye c3))) (mk (um (yg (K:=K) PySem.F.plainAttrs_list PySem.F.slot_list_append PySem.F.type_list_append R.dh (rm c3 (jp 2) ms) (lc (pf (lc ms (lc (jp 7) (lc (rm c3 (jp 2) ms) (lc ms (lc (yo R.eg rfl T.b_str nZ (lc (jp 7) li)) (lc (jp 6) li))))))) li)))))))))) (mk (mz uj))),?_⟩;refine⟨d,b,6,rfl,L.dk,Zd,Zd,λr1 H1 a0 a1 D1 k1=>⟨_,rfl,Zo,Zo,?_⟩⟩;have L1:=L.draw D1 k1;have ZD:=k1 _ _ gln NQ.1 NQ.2;refine dI (gJ 0 (1+r1).toNat) (λi σ G=>(∃o5 o6 o7,σ=[some (.ref d),some (.ref a.dr),some (.ref p.sd),some (.ref ln),some (.str g),o5,o6,o7])/\∃s' l' AX,LI c G f d b p zs g a s' l' AX wr (N+i)/\l'.turn=l.turn/\(1<=i->s'.turn=l'.turn/\2<=s'.next)/\G ln=some (.lst (zs.map V.str))/\ln∉a.fix++s'.runs.map (·.p)) (λ_ _ _ _=>trivial)
   ⟨⟨_,_,_,rfl⟩,s,l,rx,L1,rfl,(λh=>IQ h Zd),ZD,ZC⟩ ?_ (λσ G ⟨_,s',l',AX,L',e1,e2,_⟩=>q s' l' AX G (L'.less (by rw[gH];omega)) (e2 (by rw[gH];omega)).1 (e2 (by rw[gH];omega)).2 e1)
  rintro i x σ G hx ⟨⟨o5,o6,o7,rfl⟩,s1,l1,RH,L2,e1,e2,yr,LL⟩;obtain⟨rfl,hi⟩:=rE hx;dsimp only [aK];have hi5:i<=5:=by omega
  refine⟨p.sd,_,rfl,x9 "book" (.ref p.bk) L2.gs (by kernel_rfl),d,b,ln,p.bk,zs,g,l1.prs,f,rfl,L2.dk,yr,NQ.1,NQ.2,JH,hg,L2.gb,L2.al,L2.f12,λdd x G3 PN DE UU D3 k3=>?_⟩;dsimp only [aK];have L3:=L2.draw D3 k3;have CY:=k3 _ _ yr NQ.1 NQ.2;have fg':=L3.nx;have eb:(s1.next:Int)-1+1=(s1.next:Int):=by omega
  refine tV (λσ' G'=>σ'=([some (.ref d),some (.ref a.dr),some (.ref p.sd),some (.ref ln),some (.str g),some (.int (i:Int)),some (.ref dd),some (.int (s1.next:Int))]:St)/\G'=G3) (λnx uw=>⟨p.sd,_,rfl,x9 "number" (.int ((s1.next:Int)-1)) L3.gs (by kernel_rfl),uw _ _ ⟨congrArg (λz:Int=>([some (.ref d),some (.ref a.dr),some (.ref p.sd),some (.ref ln),some (.str g),some (.int (i:Int)),some (.ref dd),some (.int z)]:St)) eb,rfl⟩⟩) ?_;rintro _ G4 ⟨rfl,rfl⟩;have HD:0<=(s1.next:Int)/\(s1.next:Int)<10^40:=⟨Zo,Zo⟩;have ZE:s1.m (("bo":Str),cH s1.next)=none:=by
   cases e:s1.m (("bo":Str),cH s1.next) with
   | none=>rfl
   | some v=>
    obtain⟨n,h1,h2⟩:=L3.mo _ _ e;have:=yV h2;omega
  have hL:=L3.hL;have NJ:=L3.hr;have LC:=L3.ho;obtain⟨vh,RK⟩:=L3.hv;refine⟨_,_,L3.h.dr,by kernel_rfl,p.sd,_,rfl,x9 "turn" (.int l1.turn) L3.gs (by kernel_rfl),HD,a,s1,l1.turn,(("bo":Str),cH s1.next),dd,x,x,rfl,L3.h,Sd,Dm Zo,PN.ok,λq hq=>⟨vh,by rw[Zms.mp (PN.ho q hq)];exact RK⟩,UU,Zo,λr hr=>(L3.hn r hr).1,Zo,Zo,L3.tu.2.1,λe he=>IQ (ZE.symm.trans he) Zs,λe he=>IQ (ZE.symm.trans he) Zs,λ_ t p6 dx6 ra6 G5 h5 v5 ze gt=>?_⟩;refine⟨aT rfl,λt2 G6 s6 ER=>?_⟩;have rp:∀u,G6 u=some (.tup [.str "begun",.int s1.next])->Ji G6 1 (.tp [.sc (.str "begun"),.sc (.int s1.next)]) (.ref u):=λu g=>⟨u,_,rfl,g,.cons ⟨rfl,rfl⟩ (.cons ⟨rfl,rfl⟩ .nil)⟩
  refine⟨1,_,Zd,rp t (s6 _ _ gt),rp t2 ER,?_⟩;obtain⟨f1,f2,f3⟩:=L3.left v5;have NO:=f2.same s6;have JP:∀q∈p.fix,q∈d::b::p.fix:=λq hq=>fL _ (fL _ hq)
  have IF:p.sd∈p.fix:=by simp[LA.fix]
  have RC:p.tb∈p.fix:=by simp[LA.fix]
  have RG:p.lr∈p.fix:=by simp[LA.fix]
  refine⟨p.sd,_,rfl,DPut.k (k:=Sum.inr "number") (NO.get 0 rfl) (by show 6<_;decide),?_⟩;dsimp only;have ek:bB (p.kv l1.turn ((s1.next:Int)-1)) (Sum.inr "number") (.int (s1.next:Int))=p.kv l1.turn (s1.next:Int):=by kernel_rfl
  rw[ek];have FG:Own (aH G6 p.sd (.dK (p.kv l1.turn (s1.next:Int)))) (p.objs l1 (s1.next:Int)):=NO.set 0 rfl _;have kk7:∀q o,G5 q=some o->q≠p.sd->(aH G6 p.sd (.dK (p.kv l1.turn (s1.next:Int)))) q=some o:=λq o e h=>by rw[aE h];exact s6 _ _ e
  have tk7:TK G5 (aH G6 p.sd (.dK (p.kv l1.turn (s1.next:Int)))):=(TK.of s6).trans (cG (NO.get 0 rfl) λ_ z=>nomatch z);generalize aH G6 p.sd (.dK (p.kv l1.turn (s1.next:Int)))=G7 at FG kk7 tk7 ⊢;refine⟨aT rfl,λt3 G8 s8 YT=>?_⟩;have NP:=FG.same s8;refine⟨p.sd,_,rfl,x9 "table" (.ref p.tb) (NP.get 0 rfl) (by kernel_rfl),p.tb,_,rfl,DPut.k (k:=Sum.inl (s1.next:Int)) (NP.get 2 rfl) (rY (m:=1000) (by rw[<- L3.tab.length];omega) Zd),?_⟩;dsimp only;have JM:Own (aH G8 p.tb (.dK (bB l1.tkv (Sum.inl (s1.next:Int)) (.ref t3)))) (p.objs {l1 with tkv:=bB l1.tkv (Sum.inl (s1.next:Int)) (.ref t3) } (s1.next:Int)):=NP.set 2 rfl _;have LV:∀q o,G8 q=some o->q≠p.tb->(aH G8 p.tb (.dK (bB l1.tkv (Sum.inl (s1.next:Int)) (.ref t3)))) q=some o:=λq o e h=>by rw[aE h];exact e
  have tk9:TK G8 (aH G8 p.tb (.dK (bB l1.tkv (Sum.inl (s1.next:Int)) (.ref t3)))):=cG (NP.get 2 rfl) λ_ z=>nomatch z
  generalize aH G8 p.tb (.dK (bB l1.tkv (Sum.inl (s1.next:Int)) (.ref t3)))=G9 at JM LV tk9 ⊢;refine⟨p.sd,_,rfl,x9 (l:=l1) "rows" (.ref p.lr) (JM.get 0 rfl) (by kernel_rfl),.inl ⟨rfl,_,QZc (JM.get 3 rfl)⟩,p.sd,_,rfl,x9 (l:=l1) "turn" (.int l1.turn) (JM.get 0 rfl) (by kernel_rfl),HD,aT rfl,λtd JN EX ED=>?_⟩;have MC:=JM.same EX;refine⟨p.lr,_,.ref td,rfl,rfl,MC.get 3 rfl,rY (m:=1000) (by rw[<- L3.r2.length,L3.r1.length];omega) Zd,?_⟩;dsimp only;have DH:Own (aH JN p.lr (.lst (l1.rws++[.ref td]))) (p.objs (l1.came s1.next t3 td) (s1.next:Int)):=MC.set 3 rfl _;have FJ:∀q o,G5 q=some o->q∉p.fix->(aH JN p.lr (.lst (l1.rws++[.ref td]))) q=some o:=λq o e h=>by rw[aE λz=>h (by rw[z];exact RG)];exact EX _ _ (LV _ _ (s8 _ _ (kk7 _ _ e λz=>h (by rw[z];exact IF))) λz=>h (by rw[z];exact RC))
  have MD:TK JN (aH JN p.lr (.lst (l1.rws++[.ref td]))):=cG (MC.get 3 rfl) λ_ z=>nomatch z
  generalize aH JN p.lr (.lst (l1.rws++[.ref td]))=AW at DH FJ MD ⊢;have tkA:TK G8 AW:=(tk9.trans (TK.of EX)).trans MD;have NR:TK G5 AW:=(tk7.trans (TK.of s8)).trans tkA;have ZF:Dk AW d b:=by
   obtain⟨n0,s0,k0,h1,h2,h3⟩:=f1.ex;exact⟨n0,s0,k0,FJ _ _ h1 L3.od.1,FJ _ _ h2 L3.od.2,h3⟩
  have ZG:ln∉p.fix:=λm=>LZ (JP _ m)
  have ol5:=v5.stay LL CY;refine⟨⟨_,_,_,rfl⟩,lN s1 l1.turn ("bo",cH s1.next) dd x p6 dx6 ra6,l1.came s1.next t3 td,RH++[Mh s1.next l1.turn x],?_,e1,λ_=>⟨rfl,by show 2<=s1.next+1;omega⟩,FJ _ _ (v5.fr _ _ CY LL) ZG,ol5⟩;exact L3.begun PN DE UU v5 ze ZE NR ZF (h5.keep (λq o e hq=>FJ q o e λm=>f3 _ (JP _ m) hq) NR) (tkA _ _ YT) (MD _ _ ED) DH
def pX{f:Str->Nat}{a z:Str}{v:Nat}(h:z≠a):cZ f a v z=f z:=by unfold cZ;rw[IS h]
def kO{f:Str->Nat}{a:Str}{v:Nat}:cZ f a v a=v:=by unfold cZ;rw[NE rfl]
def Gh{f fc:Str->Nat}{x:Dd}{y:An}(hx:x.Ok)(hy:aI f x=some y)(QP:∀q∈bO x,fc q.1=f q.1){prs:List (Str×Int)}(hp:∀z,bM prs z=(fc z:Int)):∀z,bM ((oR x y).foldl (λp q=>dQ p q.1 q.2) prs) z=(after fc x y z:Int):=by
 have yt:aI fc x=some y:=(rL QP).trans hy;clear hy QP;intro z;rcases kA yt with⟨m,rfl⟩|⟨m,rfl⟩|⟨a,n,v,rfl,rfl⟩|⟨a,n,v,rfl,rfl⟩|⟨a,b,n,v,u,rfl,rfl⟩
 ·have:oR x (.full m)=[]:=by cases x<;>rfl
  rw[this];have:after fc x (.full m)=fc:=by cases x<;>rfl
  rw[this];exact hp z
 ·have:oR x (.short m)=[]:=by cases x<;>rfl
  rw[this];have:after fc x (.short m)=fc:=by cases x<;>rfl
  rw[this];exact hp z
 ·have hv:v=fc a+n:=by
   simp only [aI]at yt;split at yt<;>cases yt;rfl
  show bM (dQ prs a (v:Int)) z=((cZ fc a (fc a+n)) z:Int);rw[jY];by_cases e:z=a
  ·rw[NE e,e,kO,hv]
  ·rw[IS e,pX e,hp]
 ·have hv:v=fc a-n:=by
   simp only [aI]at yt;split at yt<;>cases yt;rfl
  show bM (dQ prs a (v:Int)) z=((cZ fc a (fc a-n)) z:Int);rw[jY];by_cases e:z=a
  ·rw[NE e,e,kO,hv]
  ·rw[IS e,pX e,hp]
 ·have hv:v=fc a-n/\u=fc b+n:=by
   simp only [aI]at yt;split at yt
   ·cases yt
   ·split at yt<;>cases yt;exact⟨rfl,rfl⟩
  show bM (dQ (dQ prs a (v:Int)) b (u:Int)) z=((cZ (cZ fc a (fc a-n)) b (fc b+n)) z:Int);rw[jY,jY];by_cases e:z=b
  ·rw[NE e,e,kO,hv.2]
  ·rw[IS e,pX e];by_cases e':z=a
   ·rw[NE e',e',kO,hv.1]
   ·rw[IS e',pX e',hp]
def Gi{f fc:Str->Nat}{ws:List Rn}{r:Rn}{y:An}(hy:aI f r.x=some y):oT f fc (ws++[r])=after (oT f fc ws) r.x y:=by
 unfold oT;rw[List.foldl_append,foldl_cons,List.foldl_nil,hy]
def yW{f:Str->Nat}{x:Dd}:∀ {ws:List Rn}{fc:Str->Nat},(∀r∈ws,gT r.x x=false)->∀q∈bO x,oT f fc ws q.1=fc q.1
 | [],_,_,_,_=>rfl
 | r::ws,fc,h,q,hq=>by
  have ih:=yW (f:=f) (ws:=ws) (fc:=match aI f r.x with|some y=>after fc r.x y|none=>fc) (λr' h'=>h r' (fL _ h')) q hq;show oT f (match aI f r.x with|some y=>after fc r.x y|none=>fc) ws q.1=fc q.1;rw[ih];cases aI f r.x with
  | none=>rfl
  | some y=>
   refine uJ λq0 h0 e=>?_;have:=h r mZ;rw[(gK r.x x).mpr ⟨q.1,by rw[<- e];exact pV h0,pV hq⟩]at this;cases this
def yX{n:Str}:∀ {prs:List (Str×Int)},n∉prs.map (·.1)->bM prs n=0
 | [],_=>rfl
 | q::r,h=>by
  have j9:n≠q.1:=λe=>h (by rw[e];simp)
  have ih:=yX (n:=n) (prs:=r) λm=>h (fL _ m)
  unfold bM at ih ⊢;rw[lookup_cons,show(n==q.1)=false by simpa using j9];exact ih
def Mi{prs ME:List (Str×Int)}(hp:(prs.map (·.1)).Nodup)(hq:(ME.map (·.1)).Nodup)(h:∀z,bM prs z=bM ME z):gP prs=gP ME:=by
 have LN:∀ {prs:List (Str×Int)} (n:Str),0<bM prs n->n∈prs.map (·.1):=λ{prs} n hn=>Decidable.byContradiction λAG=>by
  rw[yX AG]at hn;exact IQ hn Zd
 have e:((mY (prs.map (·.1))).filter λn=>decide (0<bM prs n))=(mY (ME.map (·.1))).filter λn=>decide (0<bM ME n):=by
  have n1:((mY (prs.map (·.1))).filter λn=>decide (0<bM prs n)).Nodup:=((dC _).nodup_iff.mpr hp).filter _;have n2:((mY (ME.map (·.1))).filter λn=>decide (0<bM ME n)).Nodup:=((dC _).nodup_iff.mpr hq).filter _;refine gW _ _ ((List.perm_ext_iff_of_nodup n1 n2).mpr λn=>?_) ((iP _).filter _) ((iP _).filter _);rw[mem_filter,mem_filter,(dC _).mem_iff,(dC _).mem_iff];constructor
  ·rintro⟨_,h2⟩;have h3:=WF h2;rw[h]at h3;exact⟨LN n h3,UV h3⟩
  ·rintro⟨_,h2⟩;have h3:=WF h2;rw[<- h]at h3;exact⟨LN n h3,UV h3⟩
 unfold gP;rw[e];exact map_congr_left λn _=>by rw[h]
def Qq{f f':Str->Nat}{H:Hp}{rs:List Rn}{kvs:List (bC×V)}(h:Paired (TbAt f H) rs kvs)(hn:∀r∈rs,r.st≠"written"):Paired (TbAt f' H) rs kvs:=by
 induction h with
 | nil=>exact .nil
 | @cons r kv rs kvs h t ih=>
  refine .cons ?_ (ih λr' h'=>hn r' (fL _ h'));obtain⟨e,t,v,e2,g,hv⟩:=h;refine⟨e,t,v,e2,g,?_⟩
  cases hv with
  | new e=>exact .new e
  | done e _ _=>exact IQ e (hn r mZ)
section
variable {c:CK}{H G:Hp}{f:Str->Nat}{d b:TD}{p p':LA}{zs:List Str}{g:Str}{a:DA}{s s':DS}{l l':LS}{rx:List TV}{wr:List Rn}{N:Nat}
def LI.ended(L:LI c H f d b p zs g a s l rx wr N){H0:Hp}(hE:Sc H0 f f zs {s with safe:=(s.rows.length:Int) } s' wr){tn:Int}(HG:0<=tn/\tn<=l.turn)(k:TK H G)(QS:Dk G d b)(ow:Own G (p'.objs l' ((s.next:Int)-1)))(od:d∉p'.fix/\b∉p'.fix)(dG:DAt c G a {s' with turn:=tn })(out:∀q∈d::b::p'.fix,q∉a.fix++s'.runs.map (·.p))(tab:Paired (TbAt f G) s'.runs l'.tkv)(al:∀z,bM l'.prs z=(oT f f wr z:Int))(nd:(l'.prs.map (·.1)).Nodup)(pl:∀z∈l'.prs.map (·.1),z∈zs)(e1:l'.rws=l.rws)(e2:l'.ws=[])(e3:l'.turn=l.turn) :
  LI c G (oT f f wr) d b p' zs g a {s' with turn:=tn } l' rx [] N:=by
 have T2:∀r∈s'.runs,r∈s.runs/\r.n∉wr.map (·.n):=λr hr=>by
  rw[hE.runs]at hr;obtain⟨h1,h2⟩:=mem_filter.mp hr;exact⟨h1,WF h2⟩
 have UX:∀r∈s'.runs,r.st≠"written":=λr hr e=>(T2 r hr).2 (mem_map_of_mem ((L.wm r).mpr ⟨(T2 r hr).1,e⟩))
 have hlen:s'.runs.length<=s.runs.length:=by rw[hE.runs];exact length_filter_le _ _
 have Y1:s'.rows=s.rows:=hE.rows;have qo:s'.next=s.next:=hE.next;have hnr:∀r∈s'.runs,∀r'∈wr,r'.q≠r.q:=λr hr r' S7 e=>by
  obtain⟨z1,z2⟩:=T2 r hr;have w1:=(L.all r z1).2.1;have w2:=(L.all r' ((L.wm r').mp S7).1).2.1;rw[w1,w2]at e;have:r'.n=r.n:=yV (congrArg Prod.snd e);exact z2 (by rw[<- this];exact mem_map_of_mem S7)
 refine {dk:=QS,ow:=?_,od:=od,h:=dG,out:=out,tab:=Qq tab UX,r1:=?_,r2:=?_,am:=hE.bk,al:=al,f12:=hE.b12,nd:=nd,pl:=hE.pl,pl':=pl,zn:=L.zn,nx:=?_,hL:=?_,hr:=?_,ho:=?_,hn:=?_,tu:=?_,lf:=?_,all:=?_,mo:=?_,ex:=?_,hv:=?_,rw:=?_,wn:=?_,wd:=by simp,wm:=?_ }
 ·show Own G (p'.objs l' ((s'.next:Int)-1));rw[qo];exact ow
 ·show Paired _ rx s'.rows;rw[Y1];exact Paired.map' (λ_ _ x=>x.tk k) L.r1
 ·rw[e1];exact Paired.map' (λ_ _ x=>x.tk k) L.r2
 ·show 1<=s'.next/\s'.next<=N+1;rw[qo];exact L.nx
 ·show s'.L+s'.runs.length+2<=2*s'.next;have h1:s'.L+s'.runs.length=s.L+s.runs.length:=hE.L;rw[qo,h1];exact L.hL
 ·show s'.runs.length<s'.next;rw[qo];have:=L.hr;omega
 ·show s'.rows.length+(s'.runs.filter λ(r:Rn)=>decide (r.st=("new":Str))).length+2<=2*s'.next;rw[qo,Y1];have h1:=L.ho;have h2:(s'.runs.filter λ(r:Rn)=>decide (r.st=("new":Str))).length<=(s.runs.filter λ(r:Rn)=>decide (r.st=("new":Str))).length:=by
   rw[hE.runs];exact(List.Sublist.filter _ filter_sublist).length_le
  omega
 ·intro r hr;show r.n<s'.next/\1<=r.n;rw[qo];exact L.hn r (T2 r hr).1
 ·exact⟨HG.1,by rw[e3];exact HG.2,by rw[e3];exact L.tu.2.2⟩
 ·show s'.life=_;rw[hE.life];exact L.lf
 ·intro r hr;obtain⟨z1,z2⟩:=T2 r hr;obtain⟨w1,w2⟩:=L.all r z1;refine⟨?_,w2⟩;show s'.m r.q=_;rw[hE.m r.q (hnr r hr)];exact w1
 ·intro q e he;show ∃n,n<s'.next/\q.2=cH n;rw[qo];rcases hE.mo q e he with⟨r,hr,rfl⟩|HW
  ·have z:=(L.wm r).mp hr;exact⟨r.n,(L.hn r z.1).1,by rw[(L.all r z.1).2.1]⟩
  ·exact L.mo q e HW
 ·intro r hr r' S7;exact L.ex r (T2 r hr).1 r' (T2 r' S7).1
 ·show ∃v,aV s'.hs (Sum.inr g)=some v;rw[hE.hs];exact L.hv
 ·refine⟨s.rows,[],by show s'.rows=_;rw[Y1,append_nil],by show s'.safe=_;exact hE.safe,.nil⟩
 ·rw[e2];rfl
 ·intro r;exact⟨λh=>(nomatch h),λh=>IQ h.2 (UX r h.1)⟩
end
def yY(c:CK):Sp:=λvs H Q _=>∃(f:Str->Nat)(d b:TD)(p:LA)(zs:List Str)(g:Str)(a:DA)(s:DS)(l:LS)(rx:List TV)(wr:List Rn)(N:Nat),vs=[.ref a.dr,.ref p.tb,.ref p.lw,.int l.turn,.ref p.bk]/\LI c H f d b p zs g a s l rx wr N/\N<=60 ∧
 ∀G f' s' AY AZ,G p.sd=some (.dK (p.kv l.turn ((s.next:Int)-1)))->(∀lw,G lw=none->LI c (aH (aH G lw (.lst [])) p.sd (.dK (({p with lw:=lw }:LA).kv l.turn ((s.next:Int)-1)))) f' d b {p with lw:=lw } zs g a s' {l with prs:=AY,tkv:=AZ,ws:=[] } rx [] N)->Q (.bl true) G
def yOf(f:Str->Nat)(r:Rn):An:=(aI f r.x).getD .ok
def uN(f:Str->Nat)(r:Rn):TV:=.tp [.sc (.int (r.n:Int)),.sc (.str "bo"),.sc (.str (cH r.n)),anT (yOf f r)]
def uO{H:Hp}{f:Str->Nat}{t z:TD}{r:Rn}{y:An}(g:H t=some (.tup [.int (r.n:Int),.str "bo",.str (cH r.n),.ref z]))(gz:H z=some (.tup y.vs))(hy:aI f r.x=some y):RepT H 2 (uN f r) (.ref t):=by
 refine⟨t,_,rfl,g,.cons (.scal rfl) (.cons (.scal rfl) (.cons (.scal rfl) (.cons ?_ .nil)))⟩;have:yOf f r=y:=by unfold yOf;rw[hy];rfl
 rw[this];exact pW gz
def Gj{c:CK}(T:Txt K mg)(Y2:cP P w K mg base 4 c.D "force" EQ (Cz c))(M4:cP P w K mg base 2 c.D "under" EQ (wF c))(P8:cP P w K mg base 5 c.D "come" QZI (wG c))(DI:aJ P w K mg base 1 "_law_changed" QZD pE)(D:DefAt K mg "_law_told_right" bG QZp):aJ P w K mg base 6 "_law_told_right" QZp (yY c):=by
 refine D.go bE (λvs H Q E h=>?_) (λf' cdv A outer s0 H vs Q E hr h=>?_)
 ·obtain⟨f,d,b,p,zs,g,a,s,l,rx,wr,N,rfl,_⟩:=h;rfl
 ·obtain⟨f,d,b,p,zs,g,a,s,l,rx,wr,N,rfl,L,hN,q⟩:=h;have c3:=cC hr;have J9:=hr.units;have hu:=hr.units0;have U6:Room 4 _:=hr.mono Zd;have F1:Room 2 _:=hr.mono Zd;have M3:Room 5 _:=hr;have DJ:Room 1 _:=hr.mono Zd;obtain⟨old,news,RL,hsf,UX⟩:=L.rw;have NA:wr.length<=s.runs.length:=Av L.wd λr hr=>((L.wm r).mp hr).1
  have uw:=L.nx.2;have NJ:=L.hr;have hLl:=L.hL;have LC:=L.ho;have UY:∀r∈wr,r.st≠"new":=λr hr e=>by
   have:=((L.wm r).mp hr).2;rw[e]at this;exact IQ this Zk
  obtain⟨s1,ts,hEn,MF,ZH,hE⟩:=Qn L.zn UX {s with safe:=(s.rows.length:Int) } f L.wd (λr hr=>((L.wm r).mp hr).1) L.h.up L.h.nd L.pl (by show s.L+wr.length<=500;omega)
   (λr hr=>⟨(L.all r ((L.wm r).mp hr).1).1,(L.all r ((L.wm r).mp hr).1).2.2.1.ok,(L.all r ((L.wm r).mp hr).1).2.2.1.nm⟩) (λr hr r' S7 j9=>L.ex r ((L.wm r).mp hr).1 r' ((L.wm r').mp S7).1 j9 (UY r hr) (UY r' S7)) L.am L.f12 (λ_ _ _ _=>rfl)
  refine⟨_,(lv (re (i:=5) bE.nd (ut Y2 U6 (jp 0))) (lv (R.de (i:=6) bE.nd rfl (Or.inl rfl) rfl (js:=[none,some 1]) (N:=["_law_number","_law_table"]) (CompScope.by (aB bG) QZq rfl rfl Zk) (aP rfl) (uk (K:=K) (jp 2)) (λC s₂ H₂ fp=>⟨(pr (i:=0) (show(["_law_number","_law_table"]:List Str).Nodup by decide +kernel)),yd,(pf (lc (jp 0) (lc ms (lc (yo R.eg rfl T.b_str nZ (lc (jp 0) li)) (lc (my (ng (K:=K)) (rm c3 (jp 1) (jp 0)) lm) li)))))⟩) rfl) (lv (pc (u8 (yi (ww (v6 (R.cy .lst (jp 5) rfl T.b_isinstance rfl T.b_list pR))) (yj (nh (R.cr J9) (jp 5) (jp 6))))) (mk (mz uj)) ph) (lv (um (yg (K:=K) PySem.F.plainAttrs_list PySem.F.slot_list_append PySem.F.type_list_append R.dh (jp 5) (lc yn li))) (lv (R.de (i:=7) bE.nd rfl (Or.inl rfl) rfl (js:=[none,some 2]) (N:=["_law_number","_law_written"]) (CompScope.by (aB bG) QZq rfl rfl Zk) (aP rfl) (uk (K:=K) (sj (R.dj rfl) rfl T.b_sorted eI (lc (jp 1) li))) (λC s₂ H₂ fp=>⟨(pr (i:=0) (show(["_law_number","_law_written"]:List Str).Nodup by decide +kernel)),(zr (nh (R.fj (K:=K)) (jp 0) (jp 1))),(jp 0)⟩) rfl) (lv (pc (u8 (yi (nh (R.fo (K:=K) hu) (ut Y2 U6 (jp 0)) (uo li)) (yj (nh (R.cr J9) (xy rfl (js:=[none]) (N:=["_law_row"]) (CompScope.by (aB bG) QZq rfl rfl Zk) (aP rfl) (uk (K:=K) (ut M4 F1 (jp 0))) (λC s₂ H₂ fp=>⟨(pr (i:=0) (show(["_law_row"]:List Str).Nodup by decide +kernel)),yd,(my (ng (K:=K)) (jp 0) lm)⟩)) (jp 7))))) (mk (mz uj)) ph) (lv (ya PassesOwn.never rfl (uk (K:=K) (jp 2)) (pr (i:=8) bE.nd) (lv (yb (R.fh (jp 1) (jp 8)) (zv (K:=K) (n:=2) rfl (ui (pr (i:=9) bE.nd) (ui (pr (i:=10) bE.nd) zw)))) (lv (um (pj DI DJ rfl (lc (jp 4) (lc (jp 9) (lc (jp 10) li))))) (mk (pc (nh (R.cr J9) (uh P8 M3 (jp 0) (lc (jp 3) (lc ms (lc (yo R.eg rfl T.b_str nZ (lc (jp 8) li)) (lc (jp 9) li))))) (pf (lc ms (lc (jp 10) li)))) (mk (mz uj)) ph))))) (mk (mz uj))))))))),?_⟩;have htl:ts.length=wr.length:=by rw[<- MF,bP]
  refine⟨_,_,L.h.dr,by kernel_rfl,a,s,s1,old,news,ts,rfl,L.h,RL,hsf,Zo,hEn,Zo,λlt us G h1 m1 r9 QE UL YC=>?_⟩;dsimp only [aK];obtain⟨k1a,UZ,FK⟩:=L.left m1;have ZI:=m1.tk L.h;have RM:=Paired.map' (λ_ _ x=>TbAt.tk x ZI) L.tab;have ZJ:G p.tb=some (.dK l.tkv):=UZ.get 2 rfl;have RN:G p.lw=some (.lst (l.ws.map λ(n:Nat)=>V.int (n:Int))):=UZ.get 4 rfl;refine⟨p.lw,rfl,⟨_,QZc RN⟩,?_⟩;have RO:(l.ws.map λ(n:Nat)=>V.int (n:Int))=wr.map λr=>V.int (r.n:Int):=by rw[<- L.wn,map_map];rfl
  refine bJ (cA K p.lw (l.ws.map λ(n:Nat)=>V.int (n:Int))) (by rw[RO,bP];omega) (λj ys G2=>Same G G2/\Paired (λr v=>RepT G2 2 (uN f r) v) (wr.take j) ys) (λj ys G2 ⟨e1,e2⟩=>⟨QZc (e1 _ _ RN),by rw[<- e2.length,mV];omega⟩) ⟨Same.refl _,.nil⟩ (?_) (?_)
  ·rintro j x ys G2 hx ⟨e1,e2⟩;rw[RO,iK]at hx;obtain⟨r,S7,rfl⟩:=Option.map_eq_some_iff.mp hx;have j8:=(L.wm r).mp (kS S7);obtain⟨t0,v0,HF,g0,QX⟩:=oS RM L.h.up j8.1;dsimp only [aK];have dg:=DGet.k (k:=Sum.inl (r.n:Int)) (e1 _ _ ZJ);rw[HF]at dg;cases QX with
   | new e=>exact IQ (e.symm.trans j8.2) Zk
   | done _ gz hy=>
    have HD:0<=(r.n:Int)/\(r.n:Int)<10^40:=⟨Zo,by have:=(L.hn r j8.1).1;omega⟩;refine⟨HD,p.tb,.ref t0,rfl,dg,_,QZd (e1 _ _ g0),_,rfl,aT rfl,λt G3 s3 gt=>⟨e1.trans s3,?_⟩⟩;rw[aZ S7];exact Paired.snoc1 (Paired.map' (λ_ _ x=>x.tk (TK.of s3)) e2) (uO gt (s3 _ _ (e1 _ _ gz)) hy)
  ·rintro ys G2 ⟨e1,e2⟩;rw[RO,bP,take_length]at e2;intro RP RQ;have aux:∀ {ts:List (Rn×TD)}{us:List V},Paired (Ar G) ts us->(∀q∈ts,(∃y:An,G q.2=some (.tup y.vs)/\aI f q.1.x=some y)/\q.1.q=(("bo":Str),cH q.1.n))->Paired (λr v=>RepT G 2 (uN f r) v) (ts.map (·.1)) us:=by
    intro ts us h;induction h with
    | nil=>intro _;exact .nil
    | cons h t ih=>
     intro hm;refine .cons ?_ (ih λq hq=>hm q (fL _ hq));obtain⟨t0,rfl,gt⟩:=h;obtain⟨⟨y,gy,hy⟩,hq⟩:=hm _ mZ;rw[hq]at gt;exact uO gt gy hy
   have told:=aux UL λq hq=>by
    obtain⟨y,g1,g2⟩:=ZH q hq;refine⟨⟨y,ZI _ _ g1,g2⟩,?_⟩;have:q.1∈wr:=by rw[<- MF];exact mem_map_of_mem hq
    exact(L.all q.1 ((L.wm q.1).mp this).1).2.1
   rw[MF]at told;have RS:∀ {H:Hp}{ws:List Rn}{vs:List V},Paired (λr v=>RepT H 2 (uN f r) v) ws vs->Paired (Ji H 2) (ws.map (uN f)) vs:=by
    intro H ws vs h;induction h with
    | nil=>exact .nil
    | cons h t ih=>exact .cons h.rep ih
   have s3:=e1.trans (aF (o:=.lst ys) RQ);have UT:=Paired.map' (λ_ _ x=>RepT.tk (TK.of (aF (o:=.lst ys) RQ)) x) e2;have gdu:(aH G2 RP (.lst ys)) RP=some (.lst ys):=aA;generalize aH G2 RP (.lst ys)=G3 at s3 UT gdu ⊢;dsimp only;have FL:=s3 _ _ QE;have ZK:us.length<=60:=by rw[<- UL.length];omega
   refine⟨.lst,.inl ⟨_,FL⟩,3,.ls (wr.map (uN f)),Zd,⟨lt,us,rfl,FL,RS (Paired.map' (λ_ _ x=>RepT.tk (TK.of s3) x) told)⟩,⟨RP,ys,rfl,gdu,RS UT⟩,?_⟩;refine⟨.inl ⟨rfl,_,QZc FL⟩,lt,us,.non,rfl,rfl,FL,rY ZK Zd,?_⟩;dsimp only;have nlf:lt∉p.fix:=L.ow.keys r9;have nld:d≠lt/\b≠lt:=by
    obtain⟨n0,s0,k0,x1,x2,x3⟩:=L.dk.ex;refine⟨λe=>?_,λe=>?_⟩
    ·rw[e,r9]at x1;cases x1
    ·rw[e,r9]at x2;cases x2
   have k4:∀q o,G q=some o->q≠lt->(aH G3 lt (.lst (us++[.non]))) q=some o:=λq o e h=>by rw[aE h];exact s3 _ _ e
   have VA:TK G (aH G3 lt (.lst (us++[.non]))):=(TK.of s3).trans (cG FL λ_ z=>nomatch z);have UH:∀q,(aH G3 lt (.lst (us++[.non]))) q=none->G q=none:=λq e=>by
    cases h:G q with
    | none=>rfl
    | some o=>
     by_cases z:q=lt
     ·rw[z,aA]at e;cases e
     ·rw[k4 _ _ h z]at e;cases e
   generalize aH G3 lt (.lst (us++[.non]))=G4 at k4 VA UH ⊢;have CT:Own G4 (p.objs l ((s.next:Int)-1)):=⟨UZ.1,λq hq=>k4 _ _ (UZ.2 q hq) λz=>nlf (by rw[<- z];exact mem_map_of_mem (f:=(·.1)) hq)⟩;have RI:Dk G4 d b:=by
    obtain⟨n0,s0,k0,x1,x2,x3⟩:=k1a.ex;exact⟨n0,s0,k0,k4 _ _ x1 nld.1,k4 _ _ x2 nld.2,x3⟩
   have h4:DAt c G4 a s1:=h1.keep (λq o e hq=>k4 q o e λz=>YC (z▸hq)) VA;have ZL:=Paired.map' (λ_ _ x=>TbAt.tk x VA) RM;have ql:=L.h.up;have qm:s.runs.length<64:=by omega
   refine⟨s.runs.map λr=>(r.n:Int),_,.inl (CT.get 2 rfl),Dc ZL,by rw[bP];exact qm,λl5 ns ES hp LG=>⟨l5,rfl,⟨_,QZc aA⟩,?_⟩⟩;have LH:ns=s.runs.map λr=>(r.n:Int):=jZ LG (pairwise_map.mpr (ql.imp λz=>by omega)) hp
   subst LH;have s5:=aF (o:=.lst ((s.runs.map λr=>(r.n:Int)).map V.int)) ES;have UM:(aH G4 l5 (.lst ((s.runs.map λr=>(r.n:Int)).map V.int))) l5=some (.lst ((s.runs.map λr=>(r.n:Int)).map V.int)):=aA;generalize aH G4 l5 (.lst ((s.runs.map λr=>(r.n:Int)).map V.int))=G5 at s5 UM ⊢;have eL:((s.runs.map λr=>(r.n:Int)).map V.int).length=s.runs.length:=by rw[bP,bP]
   refine bJ (cA K l5 ((s.runs.map λr=>(r.n:Int)).map V.int)) (by rw[eL];omega) (λj ys G6=>G6=G5/\ys=((s.runs.take j).filter λ(r:Rn)=>decide (r.n∉wr.map (·.n))).map λ(r:Rn)=>V.int (r.n:Int)) (λj ys G6 ⟨z1,z2⟩=>⟨by rw[z1];exact QZc UM,by rw[z2,bP];exact eS (length_filter_le _ _) (by rw[mV];omega)⟩) ⟨rfl,rfl⟩ (?_) (?_)
   ·rintro j x NS G6 hx ⟨z1,z2⟩;subst z1;rw[map_map,iK]at hx;obtain⟨r,S7,rfl⟩:=Option.map_eq_some_iff.mp hx;dsimp only [aK];refine⟨p.lw,_,rfl,.inl (QZc (s5 _ _ (CT.get 4 rfl))),rfl,by simp[dA],?_⟩;show if (!lO (.int (r.n:Int)) (l.ws.map λ(n:Nat)=>V.int (n:Int)))=true then _ else _
    rw[Mg,<- L.wn,aZ S7,filter_append,jM,z2];refine gV (λhb=>?_) (λhb=>?_)
    ·refine⟨rfl,?_⟩;rw[filter_cons,NE (by simpa using hb)];rfl
    ·refine⟨rfl,?_⟩;rw[filter_cons,IS (by simpa using hb)];simp
   ·rintro NS G6 ⟨z1,z2⟩;subst z1;rw[eL,take_length]at z2;have CV:s1.runs=s.runs.filter λr=>decide (r.n∉wr.map (·.n)):=hE.runs
    rw[<- CV]at z2;intro l6 hl6;have s6:=s5.trans (aF (o:=.lst NS) hl6);have ZM:(aH G6 l6 (.lst NS)) l6=some (.lst NS):=aA;generalize aH G6 l6 (.lst NS)=G7 at s6 ZM ⊢;dsimp only;have h7:=h4.same s6;have Y1:s1.rows=s.rows:=hE.rows;have CP:s1.safe=(s1.rows.length:Int):=by rw[Y1];exact hE.safe
    have es1:({s1 with safe:=(s1.rows.length:Int) }:DS)=s1:=by rw[<- CP]
    have KR:s1.runs.length<64:=by rw[CV];exact rY (length_filter_le _ _) qm
    refine⟨_,_,h7.dr,by kernel_rfl,a,s1,{s1 with safe:=(s1.rows.length:Int) },s1.rows,[],[],rfl,h7,(append_nil _).symm,CP,by rw[Y1];omega,.nil,Zs,λl8 us8 G8 h8 m8 hl8 UJ p8 ol8=>?_⟩;rw[es1]at h8 m8;cases p8;refine⟨kW rfl,λl9 hl9=>⟨l8,l9,[],rfl,rfl,QZc (aF hl9 _ _ UJ),QZc aA,?_⟩⟩;have s9:=aF (o:=.lst []) hl9;have h9:=h8.same s9;generalize aH G8 l9 (.lst [])=G9 at s9 h9 ⊢;refine⟨_,_,h9.dr,by kernel_rfl,a,s1,rfl,h9,KR,λl10 RT JN fq' EX MG ZN=>⟨l10,rfl,⟨_,QZc MG⟩,?_⟩⟩;have ZO:RT.length=s1.runs.length:=ZN.length.symm;refine bJ (cA K l10 RT) Zo (λj ys AW=>AW=JN/\ys=(s1.runs.take j).map λ(r:Rn)=>V.int (r.n:Int)) (λj ys AW ⟨z1,z2⟩=>⟨by rw[z1];exact QZc MG,by rw[z2,bP,mV];omega⟩) ⟨rfl,rfl⟩ (?_) (?_)
    ·rintro j x DK AW hx ⟨z1,z3⟩;subst z1;obtain⟨hj,ej⟩:=Zgs.mp hx;obtain⟨hj',t0,e0,g0⟩:=Paired.get' (j:=j) ZN hj;rw[ej]at e0;subst e0;have S7:s1.runs[j]?=some s1.runs[j]:=lD hj';dsimp only [aK];refine⟨_,QZd g0,_,rfl,rfl,?_⟩;rw[aZ S7,jM,z3];rfl
    ·rintro DK AW ⟨z1,z3⟩;subst z1;rw[ZO,take_length]at z3;intro VB ZP;have s12:=aF (o:=.lst DK) ZP;have MH:(aH AW VB (.lst DK)) VB=some (.lst DK):=aA;generalize aH AW VB (.lst DK)=RF at s12 MH ⊢;have DL:=(s9.trans EX).trans s12;have ZQ:l6∉a.fix++s1.runs.map (·.p):=(h4.same s5).fresh hl6;have RU:=DL _ _ (m8.fr _ _ ZM ZQ);have MI:∀(G:Hp)(rs:List Rn),Paired (Ji G 0) (rs.map λr=>TV.sc (.int (r.n:Int))) (rs.map λ(r:Rn)=>V.int (r.n:Int)):=λG rs=>by
      induction rs with
      | nil=>exact .nil
      | cons r rs ih=>exact .cons ⟨rfl,rfl⟩ ih
     refine⟨1,.ls (s1.runs.map λr=>TV.sc (.int (r.n:Int))),Zd,⟨VB,DK,rfl,MH,by rw[z3];exact MI _ _⟩,⟨l6,NS,rfl,RU,by rw[z2];exact MI _ _⟩,?_⟩;have FG:=CT.same s6;have JP:∀q∈p.fix,q∈d::b::p.fix:=λq hq=>fL _ (fL _ hq)
     have IE:Own RF (p.objs l ((s.next:Int)-1)):=Own.same DL ⟨FG.1,λq hq=>m8.fr _ _ (FG.2 q hq) (FK _ (JP _ (mem_map_of_mem (f:=(·.1)) hq)))⟩;have LX:Dk RF d b:=by
      obtain⟨n0,s0,k0,x1,x2,x3⟩:=(RI.same s6).ex;exact⟨n0,s0,k0,DL _ _ (m8.fr _ _ x1 (FK d Zs)),DL _ _ (m8.fr _ _ x2 (FK b Zs)),x3⟩
     have h12:=h8.same DL;have zk:TK H RF:=(((ZI.trans VA).trans (TK.of s6)).trans (m8.tk h7)).trans (TK.of DL);clear ZN MG MH RU ZM z2 z3 MI;refine⟨p.lw,rfl,⟨_,QZc (IE.get 4 rfl)⟩,?_⟩;refine dI (cA K p.lw (l.ws.map λ(n:Nat)=>V.int (n:Int))) (λi σ G=>(∃o8 o9 ZR,σ=[some (.ref a.dr),some (.ref p.tb),some (.ref p.lw),some (.int l.turn),some (.ref p.bk),some (.ref lt),some (.ref RP),some (.ref l6),o8,o9,ZR])/\∃(prs:List (Str×Int))(tkv:List (bC×V))(tn:Int),Own G (p.objs {l with prs:=prs,tkv:=tkv } ((s.next:Int)-1))/\Dk G d b/\DAt c G a {s1 with turn:=tn }/\(0<=tn/\tn<=l.turn)/\(∀z,bM prs z=(oT f f (wr.take i) z:Int))/\(prs.map (·.1)).Nodup/\(∀z∈prs.map (·.1),z∈zs)/\Paired (TbAt f G) (s.runs.filter λr=>decide (r.n∉(wr.take i).map (·.n))) tkv/\TK H G)
      (λi σ G ⟨_,prs,tkv,tn,ow,_⟩=>QZc (ow.get 4 rfl)) ⟨⟨_,_,_,rfl⟩,l.prs,l.tkv,s1.turn,IE,LX,h12,⟨by rw[hE.turn];exact L.tu.1,by rw[hE.turn];exact L.tu.2.1⟩,L.al,L.nd,L.pl',?_,zk⟩ ?_ ?_
     ·have ef:(s.runs.filter λ(r:Rn)=>decide (r.n∉(wr.take 0).map (·.n)))=s.runs:=filter_eq_self.mpr λa _=>UV Zs
      rw[ef];exact Paired.map' (λ_ _ x=>TbAt.tk x zk) L.tab
     ·rintro i x σ zl hx ⟨⟨o8,o9,ZR,rfl⟩,prs,tkv,tn,ow,dk,hd,HG,VC,AB,X8,DM,htk⟩;rw[RO,iK]at hx;obtain⟨r,S7,rfl⟩:=Option.map_eq_some_iff.mp hx;dsimp only [aK];have RL:=kS S7;obtain⟨j8,ZS⟩:=(L.wm r).mp RL;obtain⟨hmb,hqr,zj,DE,_⟩:=L.all r j8;have RV:r.n∉(wr.take i).map (·.n):=λm=>by
       obtain⟨r',h',e'⟩:=Zmm.mp m;obtain⟨j,hj,ej⟩:=mem_iff_getElem.mp h';rw[mV]at hj;rw[List.getElem_take]at ej;have:=yJ L.wd (i:=i) (j:=j) (x:=r.n) (by rw[iK,S7];rfl) (by rw[iK,lD Zo,ej,<- e'];rfl);omega
      have hrf:r∈s.runs.filter λ(r:Rn)=>decide (r.n∉(wr.take i).map (·.n)):=mem_filter.mpr ⟨j8,UV RV⟩
      obtain⟨t0,v0,HF,g0,QX⟩:=oS DM (ql.sublist filter_sublist) hrf;have LM:zl p.tb=some (.dK tkv):=ow.get 2 rfl
      cases QX with
      | new e=>exact IQ (e.symm.trans ZS) Zk
      | @done z y _ gz hy=>
      refine⟨p.tb,rfl,.inl ⟨_,.inl LM⟩,_,Sum.inl (r.n:Int),.ref t0,LM,rfl,HF,?_⟩;have VD:Own (aH zl p.tb (.dK (bI tkv (Sum.inl (r.n:Int))))) (p.objs {l with prs:=prs,tkv:=bI tkv (Sum.inl (r.n:Int)) } ((s.next:Int)-1)):=ow.set 2 rfl _;have kP:∀q o,zl q=some o->q≠p.tb->(aH zl p.tb (.dK (bI tkv (Sum.inl (r.n:Int))))) q=some o:=λq o e h=>by rw[aE h];exact e
      have RW:TK zl (aH zl p.tb (.dK (bI tkv (Sum.inl (r.n:Int))))):=cG LM λ_ z=>nomatch z
      generalize aH zl p.tb (.dK (bI tkv (Sum.inl (r.n:Int))))=G14 at VD kP RW ⊢;refine⟨t0,_,rfl,QZd (RW _ _ g0),rfl,_,_,rfl,_,_,rfl,rfl,?_⟩;dsimp only [aK];have RY:G14 r.d=some (.tup r.x.vs):=RW _ _ (htk _ _ (L.h.dd r j8));have RZ:prs.length<=90:=by
       have:=Dh AB X8;rw[bP]at this;have:=L.zn;omega
      refine⟨p.bk,r.d,z,prs,f,r.x,y,rfl,VD.get 1 rfl,AB,RZ,RY,RW _ _ gz,hy,λNT ZT ZU=>?_⟩;have SA:TK G14 NT:=λq xs e=>ZU _ _ e (aQ e (VD.get 1 rfl) λz=>nomatch z)
      have FN:TK zl NT:=RW.trans SA;have mbk:p.bk∈p.fix:=by simp[LA.fix]
      have RC:p.tb∈p.fix:=by simp[LA.fix]
      have SD:=VD.at 1 rfl ZT ZU;have MJ:∀q o,zl q=some o->q∉p.fix->NT q=some o:=λq o e h=>ZU _ _ (kP _ _ e λz=>h (by rw[z];exact RC)) λz=>h (by rw[z];exact mbk)
      have MK:DAt c NT a {s1 with turn:=tn }:=hd.keep (λq o e hq=>MJ q o e λm=>FK _ (JP _ m) hq) FN;have ZV:Dk NT d b:=by
       obtain⟨n0,s0,k0,x1,x2,x3⟩:=dk.ex;exact⟨n0,s0,k0,MJ _ _ x1 L.od.1,MJ _ _ x2 L.od.2,x3⟩
      obtain⟨w',z',y',hw0,hkp,gz',yt⟩:=hE.kp r RL;have ey:y'=y:=Option.some.inj (yt.symm.trans hy);subst ey;have ZW:({s1 with turn:=tn }:DS).m (("bo":Str),cH r.n)=some (.kept r.n w' r.d z'):=by
       show s1.m (("bo":Str),cH r.n)=_;rw[<- hqr];exact hkp
      have HD:0<=(r.n:Int)/\(r.n:Int)<10^40:=⟨Zo,by have:=(L.hn r j8).1;omega⟩;have ES:s1.life=1000000000000:=hE.life.trans L.lf;have hnf:pC s1.life l.turn (some (.kept r.n w' r.d z'))=false:=by
       show(!decide (w'+s1.life>l.turn))=false;rw[ES,UV (by have:=L.tu.2.2;omega)];rfl
      have SE:=SA _ _ RY;obtain⟨vh,RK⟩:=L.hv;have hL1:s1.L+s1.runs.length=s.L+s.runs.length:=hE.L;have UO:s1.next=s.next:=hE.next;refine⟨_,_,MK.dr,by kernel_rfl,HD,a,{s1 with turn:=tn },l.turn,(("bo":Str),cH r.n),r.d,r.x,r.x,rfl,MK,Sd,Dm (by have:=(L.hn r j8).1;omega),zj.ok,λq hq=>⟨vh,by rw[Zms.mp (zj.ho q hq)];show aV s1.hs _=_;rw[hE.hs];exact RK⟩,SE,by show s1.L<=500;omega,λr' UE=>by
        show r'.n<s1.next;rw[UO];have:r'∈s.runs:=by rw[CV]at UE;exact(mem_filter.mp UE).1
        exact(L.hn r' this).1,by show s1.runs.length<=500;omega,by show s1.rows.length<=1000;rw[Y1];omega,HG.2,λe he=>?_,λe he HE t16 G16 h16 VE SF=>?_,λHE=>?_⟩
      ·rw[ZW]at he;cases he;exact SE
      ·rw[ZW]at he;cases he;rw[eN Lu]at SF;have SG:G16 t16=some (.tup [.str "kept",.ref z']):=SF;have ML:TK NT G16:=VE.tk MK;refine⟨aT rfl,λt17 ZX NU ZY=>?_⟩;have vj:TK zl ZX:=(FN.trans ML).trans (TK.of NU);refine⟨2,.tp [.sc (.str "kept"),anT y'],Zd,⟨t16,_,rfl,NU _ _ SG,.cons ⟨rfl,rfl⟩ (.cons (pW (vj _ _ (htk _ _ gz'))).rep .nil)⟩,⟨t17,_,rfl,ZY,.cons ⟨rfl,rfl⟩ (.cons (pW (vj _ _ gz)).rep .nil)⟩,?_⟩;have SH:∀q∈oR r.x y',q.1∈zs:=λq hq=>by
        rcases kA hy with⟨m,rfl⟩|⟨m,rfl⟩|⟨a0,n0,v,ex,rfl⟩|⟨a0,n0,v,ex,rfl⟩|⟨a0,b0,n0,v,u,ex,rfl⟩
        ·have:oR r.x (.full m)=[]:=by cases r.x<;>rfl
         rw[this]at hq;cases hq
        ·have:oR r.x (.short m)=[]:=by cases r.x<;>rfl
         rw[this]at hq;cases hq
        ·have hn:=zj.nm;rw[ex]at hq hn;rw[Zms.mp hq];exact hn (a0,(n0:Int)) (by simp[bO])
        ·have hn:=zj.nm;rw[ex]at hq hn;rw[Zms.mp hq];exact hn (a0,-(n0:Int)) (by simp[bO])
        ·have hn:=zj.nm;rw[ex]at hq hn;simp only [oR,mem_cons,FM,or_false]at hq;rcases hq with rfl|rfl
         ·exact hn (a0,-(n0:Int)) (by simp[bO])
         ·exact hn (b0,(n0:Int)) (by simp[bO])
       have fold:∀(cs prs:List (Str×Int)),(prs.map (·.1)).Nodup->(∀z∈prs.map (·.1),z∈zs)->(∀q∈cs,q.1∈zs)->((cs.foldl (λp q=>dQ p q.1 q.2) prs).map (·.1)).Nodup/\∀z∈(cs.foldl (λp q=>dQ p q.1 q.2) prs).map (·.1),z∈zs:=λcs=>by
        induction cs with
        | nil=>exact λprs h1 h2 _=>⟨h1,h2⟩
        | cons q cs ih=>exact λprs h1 h2 h3=>ih _ (Co h1) (Df h2 (h3 q mZ)) λq' h'=>h3 q' (fL _ h')
       obtain⟨f1,f2⟩:=fold (oR r.x y') prs AB X8 SH;have ZZ:Own ZX (p.objs {l with prs:=(oR r.x y').foldl (λp q=>dQ p q.1 q.2) prs,tkv:=bI tkv (Sum.inl (r.n:Int)) } ((s.next:Int)-1)):=Own.same NU ⟨SD.1,λq hq=>VE.fr _ _ (SD.2 q hq) (FK _ (JP _ (mem_map_of_mem (f:=(·.1)) hq)))⟩;have aa':Dk ZX d b:=by
        obtain⟨n0,s0,k0,x1,x2,x3⟩:=ZV.ex;exact⟨n0,s0,k0,NU _ _ (VE.fr _ _ x1 (FK d Zs)),NU _ _ (VE.fr _ _ x2 (FK b Zs)),x3⟩
       refine⟨⟨_,_,_,rfl⟩,(oR r.x y').foldl (λp q=>dQ p q.1 q.2) prs,bI tkv (Sum.inl (r.n:Int)),l.turn,ZZ,aa',h16.same NU,⟨Int.le_trans HG.1 HG.2,Int.le_refl _⟩,?_,f1,f2,?_,htk.trans vj⟩
       ·rw[aZ S7,Gi hy];refine Gh zj.ok hy (yW λr2 h2=>?_) VC;have h2w:=mem_of_mem_take h2;have h2m:=(L.wm r2).mp h2w;exact L.ex r2 h2m.1 r j8 (λe=>RV (by rw[<- e];exact mem_map_of_mem h2)) (UY r2 h2w) (UY r RL)
       ·have td:=Paired.map' (λ_ _ x=>TbAt.tk x vj) (Qm DM r.n);rw[List.filter_filter]at td;have ef:(λ(a:Rn)=>decide (a.n≠r.n)&&decide (a.n∉(wr.take i).map (·.n)))=λ(a:Rn)=>decide (a.n∉(wr.take (i+1)).map (·.n)):=by
         funext a0
         rw[<- Bool.decide_and,aZ S7,jM];congr 1;rw[Zma,not_or];exact propext ⟨λh=>⟨h.2,by simpa using h.1⟩,λh=>⟨by simpa using h.2,h.1⟩⟩
        rw[ef]at td;exact td
      ·rw[ZW,hnf]at HE;cases HE
     ·rintro σ zl ⟨⟨o8,o9,ZR,rfl⟩,prs,tkv,tn,ow,dk,hd,HG,VC,AB,X8,DM,htk⟩;rw[RO,bP,take_length]at VC DM;rw[<- CV]at DM;refine q zl (oT f f wr) {s1 with turn:=tn } prs tkv (ow.get 0 rfl) λlw EE=>?_
      have sw:=aF (o:=.lst []) EE;have nlw:=ow.keys EE;have ndl:d≠lw/\b≠lw:=by
       obtain⟨n0,s0,k0,x1,x2,x3⟩:=dk.ex;refine⟨λe=>?_,λe=>?_⟩
       ·rw[e,EE]at x1;cases x1
       ·rw[e,EE]at x2;cases x2
      have owA:=(ow.same sw).swap 4 (b:=lw) (o:=.lst []) nlw aA;have owB:=owA.set 0 rfl (.dK (({p with lw:=lw }:LA).kv l.turn ((s.next:Int)-1)));have gsd:(aH zl lw (.lst [])) p.sd=some (.dK (p.kv l.turn ((s.next:Int)-1))):=sw _ _ (ow.get 0 rfl);have NR:TK zl (aH (aH zl lw (.lst [])) p.sd (.dK (({p with lw:=lw }:LA).kv l.turn ((s.next:Int)-1)))):=(TK.of sw).trans (cG gsd λ_ z=>nomatch z);have IF:p.sd∈p.fix:=by simp[LA.fix]
      have kB:∀q o,zl q=some o->q≠p.sd->(aH (aH zl lw (.lst [])) p.sd (.dK (({p with lw:=lw }:LA).kv l.turn ((s.next:Int)-1)))) q=some o:=λq o e h=>by rw[aE h];exact sw _ _ e
      have fx:∀q∈({p with lw:=lw }:LA).fix,q∈p.fix∨q=lw:=λq hq=>by
       simp only [LA.fix,mem_cons,FM,or_false]at hq ⊢;rcases hq with h|h|h|h|h|h<;>simp[h]
      have olw:=hd.fresh EE;refine L.ended hE HG (htk.trans NR) ?_ owB ⟨λm=>?_,λm=>?_⟩ (hd.keep (λq o e hq=>kB q o e λz=>FK _ (JP _ IF) (z▸hq)) NR) (λq hq=>?_) (Paired.map' (λ_ _ x=>TbAt.tk x NR) DM) VC AB X8 rfl rfl rfl
      ·obtain⟨n0,s0,k0,x1,x2,x3⟩:=dk.ex;exact⟨n0,s0,k0,kB _ _ x1 (λz=>L.od.1 (by rw[z];exact IF)),kB _ _ x2 (λz=>L.od.2 (by rw[z];exact IF)),x3⟩
      ·rcases fx _ m with z|z
       ·exact L.od.1 z
       ·exact ndl.1 z
      ·rcases fx _ m with z|z
       ·exact L.od.2 z
       ·exact ndl.2 z
      ·rcases mem_cons.mp hq with z|hq
       ·rw[z];exact FK d Zs
       ·rcases mem_cons.mp hq with z|hq
        ·rw[z];exact FK b Zs
        ·rcases fx _ hq with z|z
         ·exact FK _ (JP _ z)
         ·rw[z];exact olw
def Zr{H:Hp}{l:TD}{zs:List Z}(g:H l=some (.lst (bT zs)))(hz:ZAt H zs):Ji H 2 (.ls ((zs.map (·.2)).map λq=>.tp [.sc (.str q.1),.sc (.int q.2)])) (.ref l):=by
 refine⟨l,_,rfl,g,?_⟩;clear g;induction zs with
 | nil=>exact .nil
 | cons z r ih=>exact .cons ⟨z.1,_,rfl,hz z mZ,.cons ⟨rfl,rfl⟩ (.cons ⟨rfl,rfl⟩ .nil)⟩ (ih λz XD=>hz z (fL _ XD))
def yZ(c:CK):Sp:=λvs H Q _=>∃(f:Str->Nat)(d b:TD)(p:LA)(zs:List Str)(g:Str)(a:DA)(s:DS)(l:LS)(rx:List TV)(wr:List Rn)(N:Nat),vs=[.ref a.dr,.ref p.bk]/\LI c H f d b p zs g a s l rx wr N/\∀G,Same H G->Q (.bl true) G
def Gk{c:CK}(T:Txt K mg)(t9:cP P w K mg base 2 c.D "book_rows" EQ (wK c))(D:DefAt K mg "_law_book_right" cE QZo):aJ P w K mg base 3 "_law_book_right" QZo (yZ c):=by
 refine D.go hV (λvs H Q E h=>?_) (λf cdv A outer s H vs Q E hr h=>?_)
 ·obtain⟨f,d,b,p,zs,g,a,s,l,rx,wr,N,rfl,_⟩:=h;rfl
 ·obtain⟨f,d,b,p,zs,g,a,s,l,rx,wr,N,rfl,L,q⟩:=h;have J9:=hr.units;have l7:Room 2 _:=hr;have len:∀ {prs:List (Str×Int)},(prs.map (·.1)).Nodup->(∀z∈prs.map (·.1),z∈zs)->prs.length<64:=λ{prs} hn hs=>by
   have h1:(prs.map (·.1)).length<=zs.length:=Dh hn hs;have h2:=L.zn;rw[bP]at h1;omega
  have ll:=len L.nd L.pl';have ls:=len L.h.nd L.pl;have gb:=L.gb;refine⟨_,(lv (R.io (R.de (i:=2) hV.nd rfl (Or.inl rfl) rfl (js:=[none]) (N:=["_law_pair"]) (CompScope.by (aB cE) QZi rfl rfl Zk) (aP rfl) (R.ii (jp 1)) (λC s₂ H₂ fp=>⟨(pr (i:=0) (show(["_law_pair"]:List Str).Nodup by decide +kernel)),(zr (nh ym (my (ng (K:=K)) (jp 0) lm) lm)),(jp 0)⟩) rfl)) (mk (mz (yk (R.fq J9) (ut t9 l7 (jp 0)) (sj (R.fw (K:=K)) rfl T.b_sorted eI (lc (jp 2) li)))))),?_⟩;refine⟨fM l.prs,gb,λo=>?_⟩;have hdl:(fM l.prs).length=l.prs.length:=by unfold fM;rw[bP]
  refine Kn Zo (λi ys G=>Same (aH H p.bk (.frz o (.dK (fM l.prs)))) G/\∃ws:List Z,ys=bT ws/\ZAt G ws/\ws.map (·.2)=(l.prs.take i).filter λq=>decide (0<q.2)) (λi ys G ⟨e,ws,e1,_,e3⟩=>⟨e _ _ aA,?_⟩) ⟨λ_ _ e=>e,[],rfl,(λz hz=>nomatch hz),rfl⟩ (?_) (?_)
  ·rw[e1,show(bT ws).length=(ws.map (·.2)).length by unfold bT;rw[bP,bP],e3];exact eS (length_filter_le _ _) (by rw[mV];exact min_le_left _ _)
  ·rintro i k y ys G t hk ⟨e,ws,e1,e2,e3⟩ ht;unfold fM at hk;rw[iK]at hk;cases hn:l.prs[i]? with
   | none=>rw[hn]at hk;cases hk
   | some z=>
    rw[hn]at hk;cases hk;refine⟨_,QZd aA,_,rfl,?_⟩;have sm:=e.trans (aF (o:=.tup [.str z.1,.int z.2]) ht);have zm:=e2.same (aF (o:=.tup [.str z.1,.int z.2]) ht);refine gV (λhb=>?_) (λhb=>?_)
    ·refine⟨sm,ws++[(t,z.1,z.2)],by rw[e1];unfold bT;rw[jM];rfl,λx hx=>?_,?_⟩
     ·rcases Zma.mp hx with hx|hx
      ·exact zm x hx
      ·obtain rfl:x=(t,z.1,z.2):=by simpa using hx
       exact aA
     ·rw[aZ hn,filter_append,filter_cons,NE hb,jM,e3];rfl
    ·refine⟨sm,ws,e1,zm,?_⟩;rw[aZ hn,filter_append,filter_cons,IS (by rw[hb];exact WP),e3];simp
  ·rintro ys G ⟨e,ws,e1,e2,e3⟩;rw[hdl,take_length]at e3;subst e1;intro pl X8;have gf:G p.bk=some (.frz o (.dK (fM l.prs))):=e _ _ aA;have j9:p.bk≠pl:=λz=>by rw[z,X8]at gf;cases gf
   refine⟨p.bk,fM l.prs,o,⟨_,gb⟩,by rw[aE j9];exact gf,?_⟩;have gl:(aH (aH G pl (.lst (bT ws))) p.bk (.dK (fM l.prs))) pl=some (.lst (bT ws)):=by rw[aE j9.symm];exact aA
   have sm:Same H (aH (aH G pl (.lst (bT ws))) p.bk (.dK (fM l.prs))):=λx u eu=>by
    by_cases hx:x=p.bk
    ·subst hx;rw[aA];rw[gb]at eu;exact eu
    ·rw[aE hx];have:=e x u (by rw[aE hx];exact eu);rw[aE (λz=>by rw[z,X8]at this;cases this)];exact this
   have zm:ZAt (aH (aH G pl (.lst (bT ws))) p.bk (.dK (fM l.prs))) ws:=λz hz=>by
    have:=e2 z hz;rw[aE (aQ this gf λz=>nomatch z),aE (λz'=>by rw[z',X8]at this;cases this)];exact this
   generalize aH (aH G pl (.lst (bT ws))) p.bk (.dK (fM l.prs))=G1 at gl sm zm;refine⟨_,_,(L.h.same sm).dr,by kernel_rfl,a,s,rfl,L.h.same sm,ls,λl2 zs2 G2 nr s2 g2 z2 e4=>?_⟩;have NA:ws.length<=l.prs.length:=by
    rw[show ws.length=(ws.map (·.2)).length by rw[bP],e3];exact length_filter_le _ _
   have zc:(ws.map (·.2.1)).Nodup:=by
    rw[show ws.map (·.2.1)=(ws.map (·.2)).map (·.1) by rw[map_map];rfl,e3];exact List.Pairwise.sublist (List.Sublist.map _ filter_sublist) L.nd
   refine⟨ws,QZc (s2 _ _ gl),zm.same s2,zc,Zo,λl3 zs3 LB hpm hpw=>?_⟩;have e5:zs3.map (·.2)=gP l.prs:=Pg L.nd (by rw[<- e3];exact hpm.map _) (by rw[pairwise_map];exact hpw);have s3:=aF (o:=.lst (bT zs3)) LB;refine⟨2,_,Zd,Zr (s3 _ _ g2) (z2.same s3),?_,q _ ((sm.trans s2).trans s3)⟩;rw[e4,Mi L.h.nd L.nd λz=>by rw[L.am,L.al],<- e5];exact Zr aA (λz hz=>s3 _ _ (zm.same s2 z (hpm.mem_iff.mp hz)))
def Do(K:W.Frag):Sp:=λvs H Q _=>∃(a:TD)(ns:List Int),vs=[.ref a]/\SqL K H a (ns.map V.int)/\ns.length<=63/\∀H',Q (.bl true) H'
def Mj(p:LA)(t n:Int):cS [] (p.kv t n)=p.kv t n:=
 kG _ [] (show([Sum.inr "book",Sum.inr "table",Sum.inr "rows",Sum.inr "written",Sum.inr "turn",Sum.inr "number"]:List bC).Nodup by decide +kernel) λ_ _=>rfl
def Qr{H:Hp}{sd bk tb lr lw ln:TD}{wl:List V}(gn:H ln=some (.lst wl))(h1:H sd=none)(h2:(aH H sd (.dK [])) bk=none)(h3:(aH (aH H sd (.dK [])) bk (.dK [])) tb=none)(h4:(aH (aH (aH H sd (.dK [])) bk (.dK [])) tb (.dK [])) lr=none)(h5:(aH (aH (aH (aH H sd (.dK [])) bk (.dK [])) tb (.dK [])) lr (.lst [])) lw=none) :
  ∃G,G=aH (aH (aH (aH (aH (aH H sd (.dK [])) bk (.dK [])) tb (.dK [])) lr (.lst [])) lw (.lst [])) sd (.dK ((⟨sd,bk,tb,lr,lw,ln,wl⟩:LA).kv 0 0))/\Same H G/\Own G ((⟨sd,bk,tb,lr,lw,ln,wl⟩:LA).objs ⟨0,[],[],[],[]⟩ 0)/\∀q∈[sd,bk,tb,lr,lw],H q=none:=by
 have o5:Own (aH (aH (aH (aH (aH H sd (.dK [])) bk (.dK [])) tb (.dK [])) lr (.lst [])) lw (.lst [])) [(sd,.dK []),(bk,.dK []),(tb,.dK []),(lr,.lst []),(lw,.lst []),(ln,.lst wl)]:=by
  have n1:=aF (o:=.dK []) h1;have n2:=aF (o:=.dK []) h2;have n3:=aF (o:=.dK []) h3;have n4:=aF (o:=.lst []) h4;have n5:=aF (o:=.lst []) h5;have d1:(aH H sd (.dK [])) sd=some (.dK []):=aA;have d2:(aH (aH H sd (.dK [])) bk (.dK [])) bk=some (.dK []):=aA;have d3:(aH (aH (aH H sd (.dK [])) bk (.dK [])) tb (.dK [])) tb=some (.dK []):=aA;have d4:(aH (aH (aH (aH H sd (.dK [])) bk (.dK [])) tb (.dK [])) lr (.lst [])) lr=some (.lst []):=aA;refine⟨?_,λq hq=>?_⟩
  ·show[sd,bk,tb,lr,lw,ln].Nodup;have v1:sd≠ln:=(aD gn h1).symm;have v2:bk≠ln:=(aD (n1 _ _ gn) h2).symm;have v3:tb≠ln:=(aD (n2 _ _ (n1 _ _ gn)) h3).symm;have v4:lr≠ln:=(aD (n3 _ _ (n2 _ _ (n1 _ _ gn))) h4).symm;have v5:lw≠ln:=(aD (n4 _ _ (n3 _ _ (n2 _ _ (n1 _ _ gn)))) h5).symm;have u12:sd≠bk:=aD d1 h2;have u13:sd≠tb:=aD (n2 _ _ d1) h3;have u14:sd≠lr:=aD (n3 _ _ (n2 _ _ d1)) h4;have u15:sd≠lw:=aD (n4 _ _ (n3 _ _ (n2 _ _ d1))) h5;have u23:bk≠tb:=aD d2 h3;have u24:bk≠lr:=aD (n3 _ _ d2) h4;have u25:bk≠lw:=aD (n4 _ _ (n3 _ _ d2)) h5;have u34:tb≠lr:=aD d3 h4;have u35:tb≠lw:=aD (n4 _ _ d3) h5;have u45:lr≠lw:=aD d4 h5;simp[u12,u13,u14,u15,u23,u24,u25,u34,u35,u45,v1,v2,v3,v4,v5]
  ·simp only [mem_cons,FM,or_false]at hq;rcases hq with rfl|rfl|rfl|rfl|rfl|rfl
   ·exact n5 _ _ (n4 _ _ (n3 _ _ (n2 _ _ d1)))
   ·exact n5 _ _ (n4 _ _ (n3 _ _ d2))
   ·exact n5 _ _ (n4 _ _ d3)
   ·exact n5 _ _ d4
   ·exact aA
   ·exact n5 _ _ (n4 _ _ (n3 _ _ (n2 _ _ (n1 _ _ gn))))
 have s5:Same H (aH (aH (aH (aH (aH H sd (.dK [])) bk (.dK [])) tb (.dK [])) lr (.lst [])) lw (.lst [])):=(((aF h1).trans (aF h2)).trans (aF h3)).trans ((aF h4).trans (aF h5));refine⟨_,rfl,λq o e=>?_,o5.set 0 rfl _,?_⟩
 ·rw[aE (aD e h1)];exact s5 _ _ e
 ·intro q hq;simp only [mem_cons,FM,or_false]at hq;rcases hq with rfl|rfl|rfl|rfl|rfl
  ·exact h1
  ·exact Same.gr (aF h1) _ h2
  ·exact Same.gr ((aF h1).trans (aF h2)) _ h3
  ·exact Same.gr (((aF h1).trans (aF h2)).trans (aF h3)) _ h4
  ·exact Same.gr ((((aF h1).trans (aF h2)).trans (aF h3)).trans (aF h4)) _ h5
def LI.side{c:CK}{G:Hp}{f:Str->Nat}{d b:TD}{p:LA}{zs:List Str}{g:Str}{a:DA}{s:DS}{l:LS}{rx:List TV}{wr:List Rn}{N:Nat}(L:LI c G f d b p zs g a s l rx wr N){q:TD}{us SI:List V}(gq:G q=some (.lst us))(h1:q∉d::b::p.fix)(h2:q∉a.fix++s.runs.map (·.p)):LI c (aH G q (.lst SI)) f d b p zs g a s l rx wr N:=by
 have tk:TK G (aH G q (.lst SI)):=cG gq λ_ z=>nomatch z
 have k:∀x o,G x=some o->x≠q->(aH G q (.lst SI)) x=some o:=λx o e h=>by rw[aE h];exact e
 refine L.move tk ?_ ⟨L.ow.1,λx hx=>k _ _ (L.ow.2 x hx) λz=>h1 ?_⟩ (L.h.keep (λx o e hx=>k _ _ e λz=>h2 (z▸hx)) tk)
 ·obtain⟨ns,s0,k0,x1,x2,x3⟩:=L.dk.ex;exact⟨ns,s0,k0,k _ _ x1 (λz=>h1 (by rw[<- z];simp)),k _ _ x2 (λz=>h1 (by rw[<- z];simp)),x3⟩
 ·rw[<- z];exact fL _ (fL _ (mem_map_of_mem (f:=(·.1)) hx))
def LI.new{c:CK}{G:Hp}{f:Str->Nat}{d b:TD}{p:LA}{zs:List Str}{g:Str}{a:DA}{s:DS}{l:LS}{rx:List TV}{wr:List Rn}{N:Nat}(L:LI c G f d b p zs g a s l rx wr N){q:TD}(gq:G q=none):q∉d::b::p.fix/\q∉a.fix++s.runs.map (·.p):=by
 refine⟨λm=>?_,L.h.fresh gq⟩;obtain⟨ns,s0,k0,x1,x2,x3⟩:=L.dk.ex;rcases mem_cons.mp m with rfl|m
 ·rw[gq]at x1;cases x1
 ·rcases mem_cons.mp m with rfl|m
  ·rw[gq]at x2;cases x2
  ·exact L.ow.keys gq m
def Wk{c:CK}{CH:TD}(T:Txt K mg)(MM:aJ P w K mg base 1 "_law_deck" BY (Iy K))(b8:aJ P w K mg base 1 "_law_draw" CA hW)(FO:aJ P w K mg base 2 "_law_unlike" QZu tY)(MN:wO P w K mg base 6 "Door" c.D QZR [] (Cv c))(FP:wO P w K mg base 1 "House" CH QZG [.non,.non] (uF CH))(IG:aJ P w K mg base 6 "_law_begun" QZn (uM c))(vk:aJ P w K mg base 7 "_law_all_worked" QZm (Mf c))(P9:cP P w K mg base 2 c.D "rows" EQ (De c))(t9:cP P w K mg base 2 c.D "book_rows" EQ (wK c))(M4:cP P w K mg base 2 c.D "under" EQ (wF c))(vm:aJ P w K mg base 6 "_law_told_right" QZp (yY c))(Y3:aJ P w K mg base 3 "_law_book_right" QZo (yZ c)){f:TD}{fd:FuncData}(F:Fun K "law" "law" mK f fd):jK P w K mg base sY 8 f fd BY (Do K):=by
 refine F.go lM (λvs H Q E h=>?_) (λcdv A outer s H vs Q E hr h=>?_)
 ·obtain⟨a,ns,rfl,_⟩:=h;rfl
 ·obtain⟨sa,ns,rfl,hS,hlen,Q0⟩:=h;have hu:=hr.units0;have c3:=cC hr;have J9:=hr.units;have MO:Room 1 _:=hr.mono Zd;have b9:Room 1 _:=hr.mono Zd;have FQ:Room 2 _:=hr.mono Zd;have IH:Room 7 _:=hr;have FR:Room 2 _:=hr.mono Zd;have II:Room 6 _:=hr.mono Zd;have vn:Room 7 _:=hr;have M5:Room 2 _:=hr.mono Zd;have l7:Room 2 _:=hr.mono Zd;have F1:Room 2 _:=hr.mono Zd;have vp:Room 6 _:=hr.mono Zd;have Y4:Room 3 _:=hr.mono Zd;refine⟨_,(lv (re (i:=1) lM.nd (pj MM MO rfl (lc (jp 0) li))) (lv (re (i:=2) lM.nd (pj FO FQ rfl (lc (jp 1) (lc ms (lc lm (lc (o0 rq lm (pj b8 b9 rfl (lc (jp 1) (lc lm li)))) li)))))) (lv (re (i:=3) lM.nd (R.da MN IH rfl (lc (xx R.sS (my (xz (K:=K)) (jp 2) lm) yf (tz lm)) (lc (o0 yh lm lm) (lc (uo (lc (pf (lc (my (xz (K:=K)) (jp 2) lm) (lc (R.ip FP FR rfl) li))) li)) li))))) (lv (re (i:=4) lM.nd (R.ji (R.di ms AA (R.di ms AA (R.di ms (uo li) (R.di ms (uo li) (R.di ms lm (R.di ms lm R.jj)))))))) (lv (ya PassesOwn.never rfl (R.cz rfl T.b_range (lc (o0 rq lm (pj b8 b9 rfl (lc (jp 1) (lc lm li)))) li)) (pr (i:=5) lM.nd) (lv (yb (o0 rq (rm c3 (jp 4) ms) (pj b8 b9 rfl (lc (jp 1) (lc lm li)))) (yc (jp 4) ms (ye c3))) (lv (pc (u8 (yi (ww (v6 (pj IG II rfl (lc (jp 1) (lc (jp 3) (lc (jp 4) (lc (xx (R.dq (K:=K)) (jp 2) (tz lm) yf) (lc (my (xz (K:=K)) (jp 2) lm) li)))))))) (yj (ww (v6 (pj vk vn rfl (lc (jp 1) (lc (jp 3) (lc (jp 4) li))))))))) (mk (mz uj)) ph) (lv (pc (u8 (yi (nh (R.cr J9) (ut P9 M5 (jp 3)) (rm c3 (jp 4) ms)) (yj (ww (v6 (pj Y3 Y4 rfl (lc (jp 3) (lc (rm c3 (jp 4) ms) li)))))))) (mk (mz uj)) ph) (lv (ya PassesOwn.never rfl (uk (K:=K) (uo (lc (ut P9 M5 (jp 3)) (lc (ut t9 l7 (jp 3)) (lc (ut M4 F1 (jp 3)) li))))) (pr (i:=6) lM.nd) (mk (um (yg (K:=K) PySem.F.plainAttrs_list PySem.F.slot_list_append PySem.F.type_list_append R.dh (jp 6) (lc yn li))))) (lv (pc (nh (R.cr J9) (ut P9 M5 (jp 3)) (rm c3 (jp 4) ms)) (mk (mz uj)) ph) (lv (pc (nh ym (pj b8 b9 rfl (lc (jp 1) (lc lm li))) lm) (lv (pc (ww (v6 (pj vm vp rfl (lc (jp 3) (lc (rm c3 (jp 4) ms) (lc (rm c3 (jp 4) ms) (lc (rm c3 (jp 4) ms) (lc (rm c3 (jp 4) ms) li)))))))) (mk (mz uj)) ph) (mk (yb (uo li) (yc (jp 4) ms (ye c3))))) ph) (mk (pc (ww (v6 (pj Y3 Y4 rfl (lc (jp 3) (lc (rm c3 (jp 4) ms) li))))) (mk (mz uj)) ph))))))))) (mk (mz uj))))))),?_⟩;refine⟨sa,ns,rfl,hS,λd b H1 TY hb0 D1 s1=>?_⟩;dsimp only [aK];refine⟨d,b,5,rfl,D1,Zd,Zd,λr1 H2 a0 a1 D2 k2=>?_⟩;obtain⟨r1,rfl⟩:=Zq a0;refine⟨d,b,LET,8,3+r1,by rw[<- Wg,show((3+r1:Nat):Int)=3+(r1:Int) by omega];rfl,D2,Zo,Zo,Zd,aAR,by show 3+r1<=26;omega,Zd,λln ws H3 wz HC gn nn nn' D3 k3=>?_⟩;dsimp only [aK];obtain⟨g,zs,rfl⟩:∃g zs,ws=g::zs:=by
   cases ws with
   | nil=>exact IQ HC (by simp;omega)
   | cons g zs=>exact⟨g,zs,rfl⟩
  have at0:∀(zs:List Str),nV ((g::zs).map V.str) 0=some (.str g):=λzs=>fQ (show(V.str g::zs.map V.str)[0]?=some _ from rfl)
  have JH:Ma zs:=⟨(nodup_cons.mp wz.nd).2,λz hz=>wz.nm z (fL _ hz),by simp at HC;omega,by simp at HC;omega⟩;have hg:isNm g:=wz.nm g mZ;refine⟨_,QZc gn,_,at0 zs,?_⟩;have SJ:iB g.cps.toList none (some (5:Int))=g.cps.toList.take 5:=vI g.cps.toList 5;obtain⟨nm,enm,zc,hn5⟩:∃nm:Str,nm=tx (iB g.cps.toList none (some (5:Int)))/\isNm nm/\nm.length<=5:=by
   refine⟨_,rfl,?_,?_⟩
   ·rw[SJ];refine⟨?_,?_,λx hx=>?_⟩
    ·rw[dS,mV];have h0:g.cps.toList.length=g.length:=by simp[Str.length]
     have:=hg.1;omega
    ·rw[dS,mV];omega
    ·simp only [List.toList_toArray]at hx;exact hg.2.2 x (mem_of_mem_take hx)
   ·rw[SJ,dS,mV];omega
  refine⟨by have:=hg.2.1;exact eS this Zd,?_⟩;rw[<- enm];refine⟨⟨Zd,Zd,Zd⟩,?_⟩;refine⟨_,QZc gn,_,at0 zs,?_⟩;intro hx LF WY ad' j9;refine⟨hx,LF,rfl,aA,λG1 f1 f2=>⟨rfl,?_⟩⟩;have sG:Same H3 G1:=λp o e=>f1 _ _ (by rw[aE (aD e WY),aE (aD e ad')];exact e) (aD e WY)
  refine⟨aT rfl,λt G2 s2 gt=>?_⟩;refine⟨kW rfl,λlh hlh=>?_⟩;have s6:=(sG.trans s2).trans (aF (o:=.lst [V.ref t]) hlh);have glh:(aH G2 lh (.lst [V.ref t])) lh=some (.lst [V.ref t]):=aA;have gt6:=aF (o:=.lst [V.ref t]) hlh _ _ gt;generalize aH G2 lh (.lst [V.ref t])=H6 at s6 glh gt6 ⊢;intro p dx hp LF j9;have VF:∀ {q u},H6 q=some u->(aH (aH H6 dx (.own p)) p (.ins c.D dx [])) q=some u:=λe=>by rw[aE (aD e hp),aE (aD e LF)];exact e
  refine⟨p,dx,lh,nm,_,[(t,Sum.inr g,.ref hx)],rfl,aA,zc,hn5,VF glh,?_,Zs,λa H7 hdr h7 hfx k7=>⟨rfl,?_⟩⟩
  ·intro z hz;obtain rfl:z=(t,Sum.inr g,.ref hx):=by simpa using hz
   exact VF gt6
  have s7:Same H6 H7:=λq u e=>k7 _ _ (VF e) (aD e hp)
  obtain⟨life,JQ⟩:∃life:Int,life=10^(12:Int).toNat:=⟨_,rfl⟩;have hlv:life=1000000000000:=by rw[JQ];rfl
  rw[<- JQ]at h7;obtain⟨SK,ekv⟩:∃SK,SK=cS [] ([(t,Sum.inr g,V.ref hx)].map (·.2)):=⟨_,rfl⟩;have RK:∃v,aV SK (Sum.inr g)=some v:=⟨.ref hx,by
   rw[ekv,kG _ _ Zs λ_ _=>rfl];simp [aV]⟩
  rw[<- ekv]at h7;have IJ:∀q u,H6 q=some u->q∉a.fix++(ds0 nm life SK).runs.map (·.p):=λq u e m=>by
   have m':q∈a.fix:=by
    rcases Zma.mp m with z|z
    ·exact z
    ·exact nomatch z
   rcases hfx q m' with z|z
   ·rw[z]at e;rw[e]at hp;cases hp
   ·rw[VF e]at z;cases z
  subst hdr;dsimp only [aK];intro sd hsd;intro bk HY tb htb;refine⟨kW rfl,λlr QF=>⟨kW rfl,λlw EE=>?_⟩⟩;obtain⟨wl,ewl⟩:∃wl,wl=(g::zs).map V.str:=⟨_,rfl⟩;have gn7:H7 ln=some (.lst wl):=by rw[ewl];exact s7 _ _ (s6 _ _ gn)
  obtain⟨H8,e8,s8,o8,f8⟩:=Qr gn7 hsd HY htb QF EE;refine⟨aF EE _ _ (aF QF _ _ (aF htb _ _ (aF HY _ _ aA))),(⟨sd,bk,tb,lr,lw,ln,wl⟩:LA).kv 0 0,rfl,by show 6<=15;decide,?_⟩;rw[Mj];dsimp only [aK];rw[show(⟨sd,bk,tb,lr,lw,ln,wl⟩:LA).kv 0 0=_ from rfl]at e8 ⊢;rw[<- e8];have s38:=(s6.trans s7).trans s8;have D8:=D3.same s38;obtain⟨ns0,sm0,k0,gd,gb,_⟩:=id D3.ex;have nf:∀q u,H6 q=some u->q≠ln->q∉(⟨sd,bk,tb,lr,lw,ln,wl⟩:LA).fix:=λq u e hq m=>by
   have m':q∈[sd,bk,tb,lr,lw]:=by
    simp only [LA.fix,mem_cons,FM,or_false]at m ⊢;rcases m with h|h|h|h|h|h<;>simp[h]
    exact IQ h hq
   have:=f8 q m';rw[s7 _ _ e]at this;cases this
  have L0:LI c H8 (λ_=>0) d b ⟨sd,bk,tb,lr,lw,ln,wl⟩ zs g a (ds0 nm life SK) ⟨0,[],[],[],[]⟩ [] [] 0:=by
   refine {dk:=D8,ow:=o8,od:=⟨nf d _ (s6 _ _ gd) (Ne.symm nn),nf b _ (s6 _ _ gb) (Ne.symm nn')⟩,h:=h7.same s8,out:=λq hq=>?_,tab:=.nil,r1:=.nil,r2:=.nil,am:=λ_=>rfl,al:=λ_=>rfl,f12:=λ_=>zero_le _,nd:=nodup_nil,pl:=(λ_ h=>nomatch h),pl':=(λ_ h=>nomatch h),zn:=by have:=JH.2.2;omega,nx:=⟨bZ _,bZ _⟩,hL:=by show 0+0+2<=2*1;decide,hr:=by show 0<1;decide,ho:=by show 0+0+2<=2*1;decide,hn:=(λ_ h=>nomatch h),tu:=⟨Int.le_refl _,Int.le_refl _,by show(0:Int)<=1000;decide⟩,lf:=hlv,all:=(λ_ h=>nomatch h),mo:=(λ_ _ h=>nomatch h),ex:=(λ_ h=>nomatch h),hv:=RK,rw:=⟨[],[],rfl,rfl,?_⟩,wn:=rfl,wd:=nodup_nil,wm:=λr=>⟨λh=>(nomatch h),λh=>nomatch h.1⟩ }
   ·rcases mem_cons.mp hq with rfl|hq
    ·exact IJ _ _ (s6 _ _ gd)
    ·rcases mem_cons.mp hq with rfl|hq
     ·exact IJ _ _ (s6 _ _ gb)
     ·by_cases hl:q=ln
      ·rw[hl];exact IJ _ _ (s6 _ _ gn)
      ·refine h7.fresh (f8 q ?_);simp only [LA.fix,mem_cons,FM,or_false]at hq ⊢;rcases hq with h|h|h|h|h|h<;>simp[h]
       exact IQ h hl
   ·exact .nil
  have x9:∀ {G:Hp}{p:LA}{t n:Int} (k:Str) (v:V),G p.sd=some (.dK (p.kv t n))->aV (p.kv t n) (Sum.inr k)=some v->DGet G p.sd (.str k) (some v):=λ{G p t n} k v g0 e=>by
   have:=DGet.k (k:=Sum.inr k) g0;rw[e]at this;exact this
  clear e8 f8 nf o8 EE QF htb HY hsd h7 IJ hfx k7;refine⟨d,b,7,rfl,D8,Zd,Zd,λr2 H9 b0 b1 D9 k9=>⟨_,rfl,Zo,Zo,?_⟩⟩;have L9:=L0.draw D9 k9;refine dI (gJ 0 (2+r2).toNat) (λi σ G=>(∃o5 o6,σ=[some (.ref sa),some (.ref d),some (.ref ln),some (.ref a.dr),some (.ref sd),o5,o6])/\∃f p s l rx wr,LI c G f d b p zs g a s l rx wr (6*i)/\l.turn<=2*(i:Int)/\p.sd=sd/\p.ln=ln/\p.wl=(g::zs).map V.str) (λ_ _ _ _=>trivial)
   ⟨⟨_,_,rfl⟩,_,_,_,_,_,_,L9,Int.le_refl _,rfl,rfl,ewl⟩ ?_ (λσ G _=>Q0 G)
  rintro i x σ G hx ⟨⟨o5,o6,rfl⟩,f,p,s,l,rx,wr,L,HG,esd,eln,epw⟩;obtain⟨rfl,hi⟩:=rE hx;have hi8:i<=7:=by omega
  subst esd eln;dsimp only [aK];obtain⟨σ0,eσ⟩:∃ σ0:St,σ0=[some (.ref sa),some (.ref d),some (.ref p.ln),some (.ref a.dr),some (.ref p.sd),some (.int (i:Int)),o6]:=⟨_,rfl⟩;refine tV (λσ' G'=>σ'=σ0/\∃l',LI c G' f d b p zs g a s l' rx wr (6*i)/\l'.turn<=2*((i:Int)+1)) (λnx uw=>?_) ?_
  ·refine⟨p.sd,_,rfl,x9 "turn" (.int l.turn) L.gs (by kernel_rfl),d,b,3,rfl,L.dk,Zd,Zd,λr3 G1 c0 c1 D1 k1=>?_⟩;have L1:=L.draw D1 k1;refine⟨p.sd,_,rfl,DPut.k (k:=Sum.inr "turn") L1.gs (by show 6<_;decide),uw _ _ ⟨eσ.symm,?_⟩⟩;have ek:bB (p.kv l.turn ((s.next:Int)-1)) (Sum.inr "turn") (.int (l.turn+r3))=p.kv (l.turn+r3) ((s.next:Int)-1):=by kernel_rfl
   rw[ek];have tk:TK G1 (aH G1 p.sd (.dK (p.kv (l.turn+r3) ((s.next:Int)-1)))):=cG L1.gs λ_ z=>nomatch z
   have k:∀q o,G1 q=some o->q≠p.sd->(aH G1 p.sd (.dK (p.kv (l.turn+r3) ((s.next:Int)-1)))) q=some o:=λq o e h=>by rw[aE h];exact e
   have IF:p.sd∈p.fix:=by simp[LA.fix]
   have ag':p.sd∈d::b::p.fix:=fL _ (fL _ IF);have ow:Own (aH G1 p.sd (.dK (p.kv (l.turn+r3) ((s.next:Int)-1)))) (p.objs {l with turn:=l.turn+r3 } ((s.next:Int)-1)):=L1.ow.set 0 rfl _;have hG:DAt c (aH G1 p.sd (.dK (p.kv (l.turn+r3) ((s.next:Int)-1)))) a s:=L1.h.keep (λq o e hq=>k _ _ e λz=>L1.out _ ag' (z▸hq)) tk;have dG:Dk (aH G1 p.sd (.dK (p.kv (l.turn+r3) ((s.next:Int)-1)))) d b:=by
    obtain⟨n0,s0,k0,x1,x2,x3⟩:=L1.dk.ex;exact⟨n0,s0,k0,k _ _ x1 (λz=>L1.od.1 (by rw[z];exact IF)),k _ _ x2 (λz=>L1.od.2 (by rw[z];exact IF)),x3⟩
   have ltu:=L1.tu;refine⟨{l with turn:=l.turn+r3 },{L1 with dk:=dG,ow:=ow,h:=hG,tab:=Paired.map' (λ_ _ x=>TbAt.tk x tk) L1.tab,r1:=Paired.map' (λ_ _ x=>RepT.tk tk x) L1.r1,r2:=Paired.map' (λ_ _ x=>RepT.tk tk x) L1.r2,rw:=let ⟨o,n,h1,h2,h3⟩:=L1.rw;⟨o,n,h1,h2,h3.tk tk⟩,tu:=⟨ltu.1,by show s.turn<=l.turn+r3;omega,by show l.turn+r3<=1000;omega⟩ },by show l.turn+r3<=_;omega⟩
  rintro _ G1 ⟨rfl,l1,L1,sr⟩;clear L HG;subst eσ;refine fN (λv G'=>v=false/\∃s' l' AX DF,LI c G' f d b p zs g a s' l' AX DF (6*(i+1))/\l'.turn<=2*((i:Int)+1)) (λk hk=>?_) (λ_ h=>nomatch h.1) ?_
  ·have EZ:G1 p.ln=some (.lst ((g::zs).map V.str)):=by rw[<- epw];exact L1.gn
   refine⟨_,QZc EZ,λpn KU=>?_⟩;have hcz:iB ((g::zs).map V.str) (some (1:Int)) none=zs.map V.str:=xH ((g::zs).map V.str) 1;rw[hcz];have sn:=aF (o:=.lst (zs.map V.str)) KU;refine⟨_,QZc (sn _ _ EZ),_,at0 zs,?_⟩;have ne:=L1.new KU;refine⟨f,d,b,p,zs,g,a,s,l1,rx,wr,6*i,pn,rfl,L1.same sn,Zo,aA,ne.1,ne.2,JH,hg,λs2 l2 FT G2 L2 h1 h2 h3=>?_⟩;exact⟨f,d,b,p,zs,g,a,s2,l2,FT,wr,6*i+6,rfl,L2,Zo,h1,h2,λs3 l3 rx3 wr3 G3 L3 h4 h5 h6=>hk _ _ ⟨rfl,s3,l3,rx3,wr3,L3,Zo⟩⟩
  rintro G2 ⟨_,s2,l2,FT,SM,L2,UD⟩;clear L1 sr;dsimp only [cK];refine fN (λv G'=>v=false/\Same G2 G') (λk hk=>?_) (λ_ h=>nomatch h.1) ?_
  ·refine⟨_,_,L2.h.dr,by kernel_rfl,a,s2,rfl,L2.h,λl3 G3 _ s3 CY=>?_⟩;have L3:=L2.same s3;refine⟨p.sd,_,rfl,x9 "rows" (.ref p.lr) L3.gs (by kernel_rfl),3,.ls FT,Zd,⟨l3,_,rfl,CY,Paired.map' (λ_ _ x=>x.rep) L3.r1⟩,⟨p.lr,_,rfl,L3.gr,Paired.map' (λ_ _ x=>x.rep) L3.r2⟩,?_⟩;refine⟨p.sd,_,rfl,x9 "book" (.ref p.bk) L3.gs (by kernel_rfl),f,d,b,p,zs,g,a,s2,l2,FT,SM,_,rfl,L3,λG4 s4=>hk _ _ ⟨rfl,s3.trans s4⟩⟩
  rintro G3 ⟨_,s3⟩;dsimp only [cK];have L3:=L2.same s3;clear L2;have len:∀ {prs:List (Str×Int)},(prs.map (·.1)).Nodup->(∀z∈prs.map (·.1),z∈zs)->prs.length<64:=λ{prs} hn hs=>by
   have h1:(prs.map (·.1)).length<=zs.length:=Dh hn hs;have h2:=L3.zn;rw[bP]at h1;omega
  refine tV (λσ' G'=>(∃o6,σ'=[some (.ref sa),some (.ref d),some (.ref p.ln),some (.ref a.dr),some (.ref p.sd),some (.int (i:Int)),o6])/\LI c G' f d b p zs g a s2 l2 FT SM (6*(i+1))) (λnx uw=>?_) ?_
  ·have QA:=L3.hr;have gg':=L3.nx;have LC:=L3.ho;refine⟨_,_,L3.h.dr,by kernel_rfl,a,s2,rfl,L3.h,λa1 G4 hf4 s4 g4=>?_⟩;have L4:=L3.same s4;refine⟨_,_,L4.h.dr,by kernel_rfl,a,s2,rfl,L4.h,len L4.h.nd L4.pl,λa2 zs2 G5 hf5 s5 g5 _ ez=>?_⟩;have L5:=L4.same s5;refine⟨_,_,L5.h.dr,by kernel_rfl,a,s2,rfl,L5.h,Zo,λa3 us G6 hf6 JR g6 pu=>?_⟩;have L6:=L5.same JR;refine⟨kW rfl,λlq SN=>?_⟩;have n1:=L3.new hf4;have n2:=L4.new hf5;have n3:=L5.new hf6;have n4:=L6.new SN;have s7:=aF (o:=.lst [V.ref a1,V.ref a2,V.ref a3]) SN;have L7:=L6.same s7;have gq:(aH G6 lq (.lst [V.ref a1,V.ref a2,V.ref a3])) lq=some (.lst [V.ref a1,V.ref a2,V.ref a3]):=aA;have ZK:us.length<=900:=by rw[<- pu.length];omega
   have HC:zs2.length<=900:=by
    have e1:zs2.length=(gP s2.prs).length:=by rw[<- ez,bP]
    have e2:(gP s2.prs).length<=s2.prs.length:=by
     unfold gP;rw[bP];refine eS (length_filter_le _ _) ?_;rw[(dC _).length_eq,bP];exact bZ _
    have e3:=len L4.h.nd L4.pl;omega
   have NJ:s2.rows.length<=900:=by omega
   have SO:∀q∈[a1,a2,a3],∃us,(aH G6 lq (.lst [V.ref a1,V.ref a2,V.ref a3])) q=some (.lst us)/\us.length<=900+0:=by
    intro q hq;simp only [mem_cons,FM,or_false]at hq;rcases hq with rfl|rfl|rfl
    ·exact⟨_,s7 _ _ (JR _ _ (s5 _ _ g4)),NJ⟩
    ·exact⟨_,s7 _ _ (JR _ _ g5),by unfold bT;rw[bP];exact HC⟩
    ·exact⟨_,s7 _ _ g6,ZK⟩
   have ah':∀q∈[a1,a2,a3],q∉d::b::p.fix/\q∉a.fix++s2.runs.map (·.p)/\q≠lq:=by
    intro q hq;simp only [mem_cons,FM,or_false]at hq;rcases hq with rfl|rfl|rfl
    ·exact⟨n1.1,n1.2,aD (JR _ _ (s5 _ _ g4)) SN⟩
    ·exact⟨n2.1,n2.2,aD (JR _ _ g5) SN⟩
    ·exact⟨n3.1,n3.2,aD g6 SN⟩
   generalize aH G6 lq (.lst [V.ref a1,V.ref a2,V.ref a3])=G7 at s7 L7 gq SO;refine⟨lq,rfl,⟨_,QZc gq⟩,?_⟩;refine dI (cA K lq [V.ref a1,V.ref a2,V.ref a3]) (λj σ' G'=>(∃o6,σ'=[some (.ref sa),some (.ref d),some (.ref p.ln),some (.ref a.dr),some (.ref p.sd),some (.int (i:Int)),o6])/\LI c G' f d b p zs g a s2 l2 FT SM (6*(i+1))/\G' lq=some (.lst [V.ref a1,V.ref a2,V.ref a3])/\∀q∈[a1,a2,a3],∃us,G' q=some (.lst us)/\us.length<=900+j) (λj σ' G' h=>QZc h.2.2.1) ⟨⟨_,rfl⟩,L7,gq,SO⟩ ?_ (λσ' G' h=>uw _ _ ⟨h.1,h.2.1⟩);rintro j x σ' G' hx ⟨⟨o6,rfl⟩,L',gq',SQ⟩;obtain⟨q,hq,rfl⟩:∃q∈[a1,a2,a3],x=V.ref q:=by
    have:=kS hx;simp only [mem_cons,FM,or_false]at this;rcases this with rfl|rfl|rfl
    ·exact⟨a1,Zs,rfl⟩
    ·exact⟨a2,Zs,rfl⟩
    ·exact⟨a3,Zs,rfl⟩
   have hj:j<3:=(Zgs.mp hx).1;obtain⟨SI,gu,hu'⟩:=SQ q hq;obtain⟨q1,q2,q3⟩:=ah' q hq;dsimp only [aK];refine⟨.inl ⟨rfl,_,QZc gu⟩,q,SI,.non,rfl,rfl,gu,rY (m:=1000) Zo Zd,⟨_,rfl⟩,L'.side gu q1 q2,by rw[aE (Ne.symm q3)];exact gq',λr hr=>?_⟩;by_cases e:r=q
   ·subst e;exact⟨_,aA,by rw[wM];simp;omega⟩
   ·obtain⟨vs,h1,h2⟩:=SQ r hr;exact⟨vs,by rw[aE e];exact h1,Zo⟩
  rintro _ G4 ⟨⟨o7,rfl⟩,L4⟩;clear L3 s3;refine fN (λv G'=>v=false/\Same G4 G') (λk hk=>?_) (λ_ h=>nomatch h.1) ?_
  ·refine⟨_,_,L4.h.dr,by kernel_rfl,a,s2,rfl,L4.h,λl3 G3 _ s3 CY=>?_⟩;have L3:=L4.same s3;refine⟨p.sd,_,rfl,x9 "rows" (.ref p.lr) L3.gs (by kernel_rfl),3,.ls FT,Zd,⟨l3,_,rfl,CY,Paired.map' (λ_ _ x=>x.rep) L3.r1⟩,⟨p.lr,_,rfl,L3.gr,Paired.map' (λ_ _ x=>x.rep) L3.r2⟩,hk _ _ ⟨rfl,s3⟩⟩
  rintro G5 ⟨_,s5⟩;dsimp only [cK];have L5:=L4.same s5;clear L4;refine tV (λσ' G'=>σ'=[some (.ref sa),some (.ref d),some (.ref p.ln),some (.ref a.dr),some (.ref p.sd),some (.int (i:Int)),o7]/\∃f p' s l rx wr,LI c G' f d b p' zs g a s l rx wr (6*(i+1))/\l.turn<=2*((i:Int)+1)/\p'.sd=p.sd/\p'.ln=p.ln/\p'.wl=(g::zs).map V.str) (λnx uw=>?_) ?_
  ·refine jG (λ_ G'=>LI c G' f d b p zs g a s2 l2 FT SM (6*(i+1))) (λk hk=>⟨d,b,4,rfl,L5.dk,Zd,Zd,λr3 G6 c0 c1 D6 k6=>hk _ _ (L5.draw D6 k6)⟩) (λG6 L6=>?_) (λG6 L6=>uw _ _ ⟨rfl,_,_,_,_,_,_,L6,UD,rfl,rfl,epw⟩);refine fN (λv G=>v=false/\∃f' s' AY AZ,G p.sd=some (.dK (p.kv l2.turn ((s2.next:Int)-1)))/\(∀lw,G lw=none->LI c (aH (aH G lw (.lst [])) p.sd (.dK (({p with lw:=lw }:LA).kv l2.turn ((s2.next:Int)-1)))) f' d b {p with lw:=lw } zs g a s' {l2 with prs:=AY,tkv:=AZ,ws:=[] } FT [] (6*(i+1)))) (λk hk=>?_) (λ_ h=>nomatch h.1) ?_
   ·exact⟨p.sd,_,rfl,x9 "table" (.ref p.tb) L6.gs (by kernel_rfl),p.sd,_,rfl,x9 "written" (.ref p.lw) L6.gs (by kernel_rfl),p.sd,_,rfl,x9 "turn" (.int l2.turn) L6.gs (by kernel_rfl),p.sd,_,rfl,x9 "book" (.ref p.bk) L6.gs (by kernel_rfl),f,d,b,p,zs,g,a,s2,l2,FT,SM,_,rfl,L6,Zo,λG7 f' s' AY AZ h1 h2=>hk _ _ ⟨rfl,f',s',AY,AZ,h1,h2⟩⟩
   rintro G7 ⟨_,f',s',AY,AZ,h1,h2⟩;dsimp only [cK];refine⟨kW rfl,λlw EE=>?_⟩;refine⟨p.sd,_,rfl,DPut.k (k:=Sum.inr "written") (aF EE _ _ h1) (by show 6<_;decide),uw _ _ ⟨rfl,f',{p with lw:=lw },s',{l2 with prs:=AY,tkv:=AZ,ws:=[] },FT,[],?_,?_,rfl,rfl,epw⟩⟩
   ·have ek:bB (p.kv l2.turn ((s2.next:Int)-1)) (Sum.inr "written") (.ref lw)=({p with lw:=lw }:LA).kv l2.turn ((s2.next:Int)-1):=by kernel_rfl
    rw[ek];exact h2 lw EE
   ·exact UD
  rintro _ G6 ⟨rfl,f6,p6,JR,l6,rx6,wr6,L6,ht6,e1,e2,e3⟩;refine jG (λv G'=>v=false/\Same G6 G') (λk hk=>?_) (λ_ h=>nomatch h.1) (λG7 ⟨_,s7⟩=>⟨⟨_,_,rfl⟩,f6,p6,JR,l6,rx6,wr6,L6.same s7,Zo,e1,e2,e3⟩);rw[<- e1];exact⟨p6.sd,_,rfl,x9 "book" (.ref p6.bk) L6.gs (by kernel_rfl),f6,d,b,p6,zs,g,a,JR,l6,rx6,wr6,_,rfl,L6,λG4 s4=>hk _ _ ⟨rfl,s4⟩⟩
end
structure FA(K:W.Frag)(x:Str)(st:Stmt):Prop where
 ex:∃(f:TD)(od an:Option TD)(sl:Array (Option S6))(oc kV dc pm cd ct:S6),W.nsIn K mainGlobals x=some (some (.ref f))/\K.lookup f=some ⟨oc,od,.func (W.fnOf x x (bD st) (aS st) (aB st) .none kV dc pm an cd ct),sl⟩/\W.codeIn K cd x=true/\W.keepIn K (.ref f)=true
def FA.of{K:W.Frag}{x:Str}{st:Stmt}{f:TD}{od an:Option TD}{sl:Array (Option S6)}{oc kV dc pm cd ct:S6}(a:W.nsIn K mainGlobals x=some (some (.ref f)))(l:K.lookup f=some ⟨oc,od,.func (W.fnOf x x (bD st) (aS st) (aB st) .none kV dc pm an cd ct),sl⟩)(c:W.codeIn K cd x=true)(k:W.keepIn K (.ref f)=true):FA K x st:=⟨f,od,an,sl,oc,kV,dc,pm,cd,ct,a,l,c,k⟩
def QAL:Nat->(List S6->Prop)->Prop
 |0,P=>P []
 |n+1,P=>∀a,QAL n λr=>P (a::r)
def qAL{P:List S6->Prop}:∀us{n},us.length=n->QAL n P->P us
 |[],_,rfl,h=>h
 |a::r,_,rfl,h=>qAL (P:=λr=>P (a::r)) r rfl (h a)
def qAl{P:List S6->Prop}{n}(h:QAL n P):∀us,us.length=n->P us:=λus hl=>qAL us hl h
def FA.at{K:W.Frag}{x:Str}{st:Stmt}{ps:List Str}{h:Heap}{mg:X7}(F:FA K x st)(X:K.In h)(G:h.Ns mainGlobals mg)(hb:∀(kV doc pm:S6)(an:Option TD)(cdv ct:S6)(us:List S6),us.length=ps.length->bindArgs (W.fnOf x x (bD st) (aS st) (aB st) .none kV doc pm an cdv ct) ⟨us,[]⟩=pure (ps.zip us):=by intro _ _ _ _ _ _;refine qAl ?_;(iterate 9 try intro _);rfl):DefAt K mg x st ps:=by
 obtain⟨f,od,an,sl,oc,kV,dc,pm,cd,ct,a,l,c,k⟩:=F.ex;exact Vf X G a l c k hb
structure MA(K:W.Frag)(C:TD)(m qual:Str)(st:Stmt):Prop where
 ex:∃(f:TD)(od an:Option TD)(sl:Array (Option S6))(oc kV dc pm cd ct:S6),W.findIn K (.ref C) m=some (some (.ref f))/\W.isFn K (.ref f)=true/\K.lookup f=some ⟨oc,od,.func (W.fnOf m qual (bD st) (aS st) (aB st) .none kV dc pm an cd ct),sl⟩/\W.codeIn K cd qual=true/\W.keepIn K (.ref f)=true
def MA.of{K:W.Frag}{C:TD}{m qual:Str}{st:Stmt}{f:TD}{od an:Option TD}{sl:Array (Option S6)}{oc kV dc pm cd ct:S6}(a:W.findIn K (.ref C) m=some (some (.ref f)))(i:W.isFn K (.ref f)=true)(l:K.lookup f=some ⟨oc,od,.func (W.fnOf m qual (bD st) (aS st) (aB st) .none kV dc pm an cd ct),sl⟩)(c:W.codeIn K cd qual=true)(k:W.keepIn K (.ref f)=true):MA K C m qual st:=⟨f,od,an,sl,oc,kV,dc,pm,cd,ct,a,i,l,c,k⟩
def MA.at{K:W.Frag}{C:TD}{m qual:Str}{st:Stmt}{ps:List Str}(F:MA K C m qual st)(cl:Cls K C)(hb:∀(kV doc pm:S6)(an:Option TD)(cdv ct:S6)(us:List S6),us.length=ps.length->bindArgs (W.fnOf m qual (bD st) (aS st) (aB st) .none kV doc pm an cdv ct) ⟨us,[]⟩=pure (ps.zip us):=by intro _ _ _ _ _ _;refine qAl ?_;(iterate 9 try intro _);rfl):MethAt K C m qual st ps:=by
 obtain⟨f,od,an,sl,oc,kV,dc,pm,cd,ct,a,i,l,c,k⟩:=F.ex;exact⟨cl,_,_,qF l c k,⟨a,i,k⟩,(qF (st:=st) l c k).binds hb⟩
def Wl{l:W.OpenLaw}{w:World}{K:W.Frag}{h:Heap}{mg:X7}{fa FU:TD}(X:K.In h)(G:h.Ns mainGlobals mg)(hfa:mg "law"=some (.ref fa)){MP FV:Option TD}{MQ:Array (Option S6)}{MR FW FX FY BA FZ:S6}(jo:FA K "is_name" kH)(qp:FA K "is_key" mJ)(V1:FA K "is_whole" iV)(M6:FA K "is_made_of" dW)(jq:FA K "is_deed" kI)(Q1:FA K "fits_word" fI)(V2:FA K "names_of" iW)(jr:FA K "asks_of" kJ)(B6:FA K "done_changes" cT)(vq:FA K "early" pS)(F2:FA K "done_answer" dD)(M7:FA K "changes_of" fT)(V3:FA K "is_alive" iY)(vt:FA K "risen" fV)(M8:FA K "by_numbers" fW)(M9:FA K "first_book" dY)(N1:FA K "risen_book" fX)(N2:FA K "risen_kept" cW)(ju:FA K "rows_of" kK)(N3:FA K "told_again" gC)(V4:FA K "_law_deck" iZ)(V5:FA K "_law_draw" jA)(N4:FA K "_law_unlike" cJ)(N5:FA K "_law_amount" gD)(Q2:FA K "_law_bound" hI)(V6:FA K "_law_deed" jB)(N6:FA K "_law_answer" gE)(F3:FA K "_law_changed" eY)(Q3:FA K "_law_names" hJ)(V7:FA K "_law_held" gQ)(B7:FA K "_law_is_early" eG)(N7:FA K "_law_worked" gF)(u0:FA K "_law_told_right" bG)(u3:FA K "_law_book_right" cE)(Q4:FA K "_law_begun" hU)(u4:FA K "_law_all_worked" cF)(GA:W.nsIn K mainGlobals "law"=some (some (.ref FU)))(GB:K.lookup FU=some ⟨MR,MP,.func (W.fnOf "law" "law" (bD mK) (aS mK) (aB mK) .none FW FX FY FV BA FZ),MQ⟩)(GC:W.codeIn K BA "law"=true)(GD:W.keepIn K (.ref FU)=true){a8:TD}(vv:W.nsIn K mainGlobals "Keys"=some (some (.ref a8)))(vw:W.plainGet K a8 Str.empty=true)(vx:W.hasDictIn K a8=true)(vy:W.plainOver K a8=true)(vz:W.findIn K (.ref a8) "__setattr__"=some (some (.builtin "object.__setattr__")))(wa:W.makesIn K a8=true)(wb:W.keepIn K (.ref a8)=true)(Q5:W.findIn K (.ref a8) "life"=some none)(m5:W.findIn K (.ref a8) "begun_ones"=some none)(i8:W.findIn K (.ref a8) "settled_ones"=some none){d7:TD}{jv jw:Option TD}{jy:Array (Option S6)}{jz ka kc kd K0 ke:S6}(y7:W.findIn K (.ref a8) "__init__"=some (some (.ref d7)))(y8:W.isFn K (.ref d7)=true)(y9:K.lookup d7=some ⟨jz,jv,.func (W.fnOf "__init__" "Keys.__init__" (bD bW) (aS bW) (aB bW) .none ka kc kd jw K0 ke),jy⟩)(z6:W.codeIn K K0 "Keys.__init__"=true)(O8:W.keepIn K (.ref d7)=true)(Q6:MA K a8 "look" "Keys.look" gX)(N8:MA K a8 "begin" "Keys.begin" fU)(F4:MA K a8 "settle" "Keys.settle" eT)(V8:MA K a8 "end" "Keys.end" iX)(B8:MA K a8 "is_kept" "Keys.is_kept" dX){a9:TD}(wc:W.nsIn K mainGlobals "Book"=some (some (.ref a9)))(we:W.plainGet K a9 Str.empty=true)(wg:W.hasDictIn K a9=true)(wj:W.plainOver K a9=true)(wk:W.findIn K (.ref a9) "__setattr__"=some (some (.builtin "object.__setattr__")))(wo:W.makesIn K a9=true)(wq:W.keepIn K (.ref a9)=true)(B9:W.findIn K (.ref a9) "amounts"=some none){d8:TD}{kh ki:Option TD}{kj:Array (Option S6)}{km kn ko kq K2 kr:S6}{wt:TD}(z7:W.findIn K (.ref a9) "__init__"=some (some (.ref d8)))(z8:W.isFn K (.ref d8)=true)(z9:K.lookup d8=some ⟨km,kh,.func (W.fnOf "__init__" "Book.__init__" (bD bX) (aS bX) (aB bX) (.ref wt) kn ko kq ki K2 kr),kj⟩)(A0:W.codeIn K K2 "Book.__init__"=true)(O9:W.keepIn K (.ref d8)=true)(F5:MA K a9 "amount" "Book.amount" eU)(Q7:MA K a9 "rows" "Book.rows" fJ)(F6:MA K a9 "change" "Book.change" eX){IK:Option TD}{ur:List S6}{IL:Nat}{GF:Array (Option S6)}(pq:K.lookup wt=some ⟨.type "tuple",IK,.seq (toArray ur) IL,GF⟩)(wu:ur=[.none]){a5:TD}(V9:W.nsIn K mainGlobals "Journal"=some (some (.ref a5)))(W0:W.plainGet K a5 Str.empty=true)(W2:W.hasDictIn K a5=true)(W3:W.plainOver K a5=true)(W4:W.findIn K (.ref a5) "__setattr__"=some (some (.builtin "object.__setattr__")))(W5:W.makesIn K a5=true)(W6:W.keepIn K (.ref a5)=true)(m6:W.findIn K (.ref a5) "written"=some none)(i3:W.findIn K (.ref a5) "safe_count"=some none){c5:TD}{T5 T6:Option TD}{T7:Array (Option S6)}{T8 T9 U0 U1 B0 U2:S6}{S8:TD}(j3:W.findIn K (.ref a5) "__init__"=some (some (.ref c5)))(j4:W.isFn K (.ref c5)=true)(j5:K.lookup c5=some ⟨T8,T5,.func (W.fnOf "__init__" "Journal.__init__" (bD bF) (aS bF) (aB bF) (.ref S8) T9 U0 U1 T6 B0 U2),T7⟩)(j6:W.codeIn K B0 "Journal.__init__"=true)(C0:W.keepIn K (.ref c5)=true)(A1:MA K a5 "write" "Journal.write" dJ)(A2:MA K a5 "force" "Journal.force" dL)(C1:MA K a5 "rows" "Journal.rows" dZ)(C2:MA K a5 "safe" "Journal.safe" eB){nk:Tok}{BC:Option TD}{Y5:List S6}{BE:Nat}{zo:Array (Option S6)}(N9:K.lookup S8=some ⟨.type "tuple",BC,.seq (toArray Y5) BE,zo⟩)(W7:Y5=[.str ("") nk]){b7:TD}(BF:W.nsIn K mainGlobals "Run"=some (some (.ref b7)))(BG:W.plainGet K b7 Str.empty=true)(BH:W.hasDictIn K b7=true)(BI:W.plainOver K b7=true)(BJ:W.findIn K (.ref b7) "__setattr__"=some (some (.builtin "object.__setattr__")))(BK:W.makesIn K b7=true)(BL:W.keepIn K (.ref b7)=true)(O0:W.findIn K (.ref b7) "number"=some none)(Q8:W.findIn K (.ref b7) "asker"=some none)(ku:W.findIn K (.ref b7) "key"=some none)(W8:W.findIn K (.ref b7) "deed"=some none)(Q9:W.findIn K (.ref b7) "stage"=some none)(R0:W.findIn K (.ref b7) "place"=some none)(R1:W.findIn K (.ref b7) "undos"=some none){i4:TD}{oj om:Option TD}{oq:Array (Option S6)}{ot ou ox oy P0 oz:S6}(C3:W.findIn K (.ref b7) "__init__"=some (some (.ref i4)))(C4:W.isFn K (.ref i4)=true)(C5:K.lookup i4=some ⟨ot,oj,.func (W.fnOf "__init__" "Run.__init__" (bD cD) (aS cD) (aB cD) .none ou ox oy om P0 oz),oq⟩)(C6:W.codeIn K P0 "Run.__init__"=true)(R3:W.keepIn K (.ref i4)=true)(C7:MA K b7 "as_tuple" "Run.as_tuple" eC)(i9:MA K b7 "is_held_up_by" "Run.is_held_up_by" bS){a6:TD}(kz:W.nsIn K mainGlobals "Memory"=some (some (.ref a6)))(lb:W.plainGet K a6 Str.empty=true)(lg:W.hasDictIn K a6=true)(lj:W.plainOver K a6=true)(lp:W.findIn K (.ref a6) "__setattr__"=some (some (.builtin "object.__setattr__")))(lx:W.makesIn K a6=true)(ly:W.keepIn K (.ref a6)=true)(F7:W.findIn K (.ref a6) "turn"=some none)(F8:W.findIn K (.ref a6) "book"=some none)(m7:W.findIn K (.ref a6) "standing"=some none)(F9:W.findIn K (.ref a6) "runs"=some none)(i5:W.findIn K (.ref a6) "next_number"=some none){c6:TD}{W9 X0:Option TD}{X1:Array (Option S6)}{X2 X3 X4 X5 C8 X6:S6}(m9:W.findIn K (.ref a6) "__init__"=some (some (.ref c6)))(n6:W.isFn K (.ref c6)=true)(n8:K.lookup c6=some ⟨X2,W9,.func (W.fnOf "__init__" "Memory.__init__" (bD bN) (aS bN) (aB bN) .none X3 X4 X5 X0 C8 X6),X1⟩)(n9:W.codeIn K C8 "Memory.__init__"=true)(E4:W.keepIn K (.ref c6)=true)(O1:MA K a6 "put" "Memory.put" fY)(C9:MA K a6 "begin" "Memory.begin" eE)(G0:MA K a6 "hold" "Memory.hold" dE)(O2:MA K a6 "end" "Memory.end" fZ){a7:TD}(wx:W.nsIn K mainGlobals "Door"=some (some (.ref a7)))(wy:W.plainGet K a7 Str.empty=true)(xa:W.hasDictIn K a7=true)(xb:W.plainOver K a7=true)(xc:W.findIn K (.ref a7) "__setattr__"=some (some (.builtin "object.__setattr__")))(xf:W.makesIn K a7=true)(xg:W.keepIn K (.ref a7)=true)(R4:W.findIn K (.ref a7) "name"=some none)(R5:W.findIn K (.ref a7) "life"=some none)(J0:W.findIn K (.ref a7) "houses"=some none)(D0:W.findIn K (.ref a7) "journal"=some none)(J1:W.findIn K (.ref a7) "memory"=some none){d9:TD}{lz md:Option TD}{mh:Array (Option S6)}{mj mm mn mq K3 mr:S6}(A3:W.findIn K (.ref a7) "__init__"=some (some (.ref d9)))(A4:W.isFn K (.ref d9)=true)(A5:K.lookup d9=some ⟨mj,lz,.func (W.fnOf "__init__" "Door.__init__" (bD bY) (aS bY) (aB bY) .none mm mn mq md K3 mr),mh⟩)(A6:W.codeIn K K3 "Door.__init__"=true)(P1:W.keepIn K (.ref d9)=true)(R6:MA K a7 "come" "Door.come" gY){y4:TD}{xh xi:Option TD}{xj:Array (Option S6)}{xk xl xm xn Y6 xo:S6}{E5:TD}(R7:W.findIn K (.ref a7) "work"=some (some (.ref y4)))(R8:W.isFn K (.ref y4)=true)(R9:K.lookup y4=some ⟨xk,xh,.func (W.fnOf "work" "Door.work" (bD dO) (aS dO) (aB dO) (.ref E5) xl xm xn xi Y6 xo),xj⟩)(i0:W.codeIn K Y6 "Door.work"=true)(S0:W.keepIn K (.ref y4)=true){U7:Tok}{xp:Option TD}{S1:List S6}{xq:Nat}{ue:Array (Option S6)}(B2:K.lookup E5=some ⟨.type "tuple",xp,.seq (toArray S1) xq,ue⟩)(O3:S1=[.str ("through") U7])(j7:MA K a7 "write_first" "Door.write_first" cI)(p7:MA K a7 "write_done" "Door.write_done" cO)(O4:MA K a7 "force" "Door.force" gA)(S2:MA K a7 "rows" "Door.rows" gZ)(u5:MA K a7 "book_rows" "Door.book_rows" cX)(O5:MA K a7 "under" "Door.under" eF)(A7:MA K a7 "house_of" "Door.house_of" dM)(O6:MA K a7 "known" "Door.known" gB){f7:TD}(qq:W.nsIn K mainGlobals "House"=some (some (.ref f7)))(qr:W.plainGet K f7 Str.empty=true)(qt:W.hasDictIn K f7=true)(qu:W.plainOver K f7=true)(qv:W.findIn K (.ref f7) "__setattr__"=some (some (.builtin "object.__setattr__")))(qx:W.makesIn K f7=true)(qy:W.keepIn K (.ref f7)=true)(A8:W.findIn K (.ref f7) "amounts"=some none)(i6:W.findIn K (.ref f7) "closed_names"=some none)(A9:W.findIn K (.ref f7) "entries"=some none){c9:TD}{Y7 Y8:Option TD}{Y9:Array (Option S6)}{Z0 Z1 Z2 Z3 E6 Z4:S6}{xr:TD}(u6:W.findIn K (.ref f7) "__init__"=some (some (.ref c9)))(u7:W.isFn K (.ref c9)=true)(u9:K.lookup c9=some ⟨Z0,Y7,.func (W.fnOf "__init__" "House.__init__" (bD bU) (aS bU) (aB bU) (.ref xr) Z1 Z2 Z3 Y8 E6 Z4),Y9⟩)(v8:W.codeIn K E6 "House.__init__"=true)(K5:W.keepIn K (.ref c9)=true){GG:Option TD}{qz:List S6}{GH:Nat}{DN:Array (Option S6)}(rb:K.lookup xr=some ⟨.type "tuple",GG,.seq (toArray qz) GH,DN⟩)(rg:qz=[.none,.none])(GI:W.nsIn K mainGlobals "any"=some none)(O7:W.nsIn K mainGlobals "isinstance"=some none)(GJ:W.nsIn K mainGlobals "int"=some none)(BN:W.nsIn K mainGlobals "bool"=some none)(GK:W.nsIn K mainGlobals "str"=some none)(GL:W.nsIn K mainGlobals "len"=some none)(GN:W.nsIn K mainGlobals "all"=some none)(xt:W.nsIn K mainGlobals "tuple"=some none)(BO:W.nsIn K mainGlobals "dict"=some none)(rh:W.nsIn K mainGlobals "sorted"=some none)(GO:W.nsIn K mainGlobals "max"=some none)(BP:W.nsIn K mainGlobals "list"=some none)(S3:W.nsIn K mainGlobals "enumerate"=some none)(GP:W.nsIn K mainGlobals "sum"=some none)(xu:W.nsIn K mainGlobals "range"=some none)(GQ:W.nsIn K mainGlobals "min"=some none){DO:Tok}(mv:W.nsIn K mainGlobals "LETTERS"=some (some (.str ("abcdefghijklmnopqrstuvwxyz") DO))){DP:Tok}(mw:W.nsIn K mainGlobals "FIGURES"=some (some (.str ("0123456789") DP))){rj:Tok}(D7:W.nsIn K mainGlobals "LONGEST_NAME"=some (some (.int (8) rj))){uf:Tok}(J2:W.nsIn K mainGlobals "LONGEST_KEY"=some (some (.int (12) uf))){MS:Tok}(BQ:W.nsIn K mainGlobals "MOST"=some (some (.int (1000000000000) MS))){U3:Tok}(j0:W.nsIn K mainGlobals "LONGEST_DOOR_NAME"=some (some (.int (5) U3))){J3:TD}{S4:List DictEntry}{ug:Nat}(J4:W.nsIn K mainGlobals "NAME_COUNTS"=some (some (.ref J3)))(J5:K.lookup J3=some ⟨.type "dict",none,.dict (toArray S4) ug,#[]⟩)(J6:Tab w.params S4 (WS))(J7:(J3==sysModules)=false){S5:TD}{K6:List S6}{pb:Option TD}{rl:Nat}{pd:Array (Option S6)}(E1:W.nsIn K mainGlobals "UNLIKE_WORDS"=some (some (.ref S5)))(E2:K.lookup S5=some ⟨.type "tuple",pb,.seq (toArray K6) rl,pd⟩)(p9:Vals (UW) K6){GR:TD}{zp:List S6}{IM:Option TD}{MT:Nat}{IP:Array (Option S6)}(BS:W.nsIn K mainGlobals "WAYS"=some (some (.ref GR)))(BU:K.lookup GR=some ⟨.type "tuple",IM,.seq (toArray zp) MT,IP⟩)(xw:Vals ([V.str "through",V.str "lost",V.str "unheard"]) zp)
  : ∃fd:FuncData,(∀(s:PP)(v:S6),BindsTo s fd ⟨[v],[]⟩ [("_law_script",v)])/\∀base:Heap,K.In base->base.Ns mainGlobals mg->jK l.prog w K mg base sY 8 fa fd BY (Do K):=by
 have e:=hfa.symm.trans (W.mg_of X G GA);cases e;have T:Txt K mg:=⟨W.mg_none_of X G GI,W.mg_none_of X G O7,W.mg_none_of X G GJ,W.mg_none_of X G BN,W.mg_none_of X G GK,W.mg_none_of X G GL,W.mg_none_of X G GN,W.mg_none_of X G xt,W.mg_none_of X G BO,W.mg_none_of X G rh,W.mg_none_of X G GO,W.mg_none_of X G BP,W.mg_none_of X G S3,W.mg_none_of X G GP,W.mg_none_of X G xu,W.mg_none_of X G GQ,⟨_,W.mg_of X G mv⟩,⟨_,W.mg_of X G mw⟩,⟨_,W.mg_of X G D7⟩,⟨_,W.mg_of X G J2⟩,⟨_,W.mg_of X G BQ⟩,⟨_,W.mg_of X G j0⟩⟩;have U:Top w.params K mg:=⟨⟨_,W.mg_of X G J4,⟨_,_,J5,J6,J7⟩⟩,⟨_,W.mg_of X G E1,λ_=>.inr ⟨_,_,_,E2,rfl,rfl,by rw[dR,<- p9.length];decide,p9⟩⟩,⟨_,W.mg_of X G BS,λ_=>.inr ⟨_,_,_,BU,rfl,rfl,by rw[dR,<- xw.length];decide,xw⟩⟩⟩;have S9:Cls K a8:=⟨vw,vx,vy,vz⟩;have MU:ClsAt K mg "Keys" a8 "Keys.__init__" bW QZV [[]]:=⟨d7,_,_,W.mg_of X G vv,⟨_,_,_,_,_,_,_,_,_,rfl,y9,z6⟩,⟨wa,y7,y8,wb⟩,by
  intro d hd;obtain rfl:=Zms.mp hd;exact⟨[],λs us KI hl=>by replace hl:us.length=2:=(by simpa using hl);revert us;refine qAl ?_;intro _ _;exact BindsTo.of_eq rfl,.nil⟩⟩
 have pv:Cls K a9:=⟨we,wg,wj,wk⟩;subst wu;have MV:ClsAt K mg "Book" a9 "Book.__init__" bX QZZ [[],[.non]]:=⟨d8,_,_,W.mg_of X G wc,⟨_,_,_,_,_,_,_,_,_,rfl,z9,A0⟩,⟨wo,z7,z8,wq⟩,by
  intro d hd;rcases mem_cons.mp hd with rfl|hd
  ·exact⟨[],λs us KI hl=>by replace hl:us.length=2:=(by simpa using hl);revert us;refine qAl ?_;intro _ _;exact BindsTo.of_defaults (T:=wt) rfl (KI _ _ pq) rfl rfl rfl,.nil⟩
  obtain rfl:=Zms.mp hd
  ·exact⟨[.none],λs us KI hl=>by replace hl:us.length=1:=(by simpa using hl);revert us;refine qAl ?_;intro _;exact BindsTo.of_defaults (T:=wt) rfl (KI _ _ pq) rfl rfl rfl,(.cons rfl .nil)⟩⟩
 have E3:Cls K a5:=⟨W0,W2,W3,W4⟩;subst W7;have DV:ClsAt K mg "Journal" a5 "Journal.__init__" bF QZT [[],[.str ("":Str)]]:=⟨c5,_,_,W.mg_of X G V9,⟨_,_,_,_,_,_,_,_,_,rfl,j5,j6⟩,⟨W5,j3,j4,W6⟩,by
  intro d hd;rcases mem_cons.mp hd with rfl|hd
  ·exact⟨[],λs us KI hl=>by replace hl:us.length=2:=(by simpa using hl);revert us;refine qAl ?_;intro _ _;exact BindsTo.of_defaults (T:=S8) rfl (KI _ _ N9) rfl rfl rfl,.nil⟩
  obtain rfl:=Zms.mp hd
  ·exact⟨[.str ("":Str) nk],λs us KI hl=>by replace hl:us.length=1:=(by simpa using hl);revert us;refine qAl ?_;intro _;exact BindsTo.of_defaults (T:=S8) rfl (KI _ _ N9) rfl rfl rfl,(.cons ⟨_,rfl⟩ .nil)⟩⟩
 have CD:Cls K b7:=⟨BG,BH,BI,BJ⟩;have SR:ClsAt K mg "Run" b7 "Run.__init__" cD DQ [[]]:=⟨i4,_,_,W.mg_of X G BF,⟨_,_,_,_,_,_,_,_,_,rfl,C5,C6⟩,⟨BK,C3,C4,BL⟩,by
  intro d hd;obtain rfl:=Zms.mp hd;exact⟨[],λs us KI hl=>by replace hl:us.length=6:=(by simpa using hl);revert us;refine qAl ?_;intro _ _ _ _ _ _;exact BindsTo.of_eq rfl,.nil⟩⟩
 have K7:Cls K a6:=⟨lb,lg,lj,lp⟩;have GU:ClsAt K mg "Memory" a6 "Memory.__init__" bN QZJ [[]]:=⟨c6,_,_,W.mg_of X G kz,⟨_,_,_,_,_,_,_,_,_,rfl,n8,n9⟩,⟨lx,m9,n6,ly⟩,by
  intro d hd;obtain rfl:=Zms.mp hd;exact⟨[],λs us KI hl=>by replace hl:us.length=4:=(by simpa using hl);revert us;refine qAl ?_;intro _ _ _ _;exact BindsTo.of_eq rfl,.nil⟩⟩
 have q9:Cls K a7:=⟨wy,xa,xb,xc⟩;subst O3;have zz:MethAtD K a7 "work" "Door.work" dO QZQ [[],[.str ("through":Str)]]:=⟨q9,y4,_,_,⟨_,_,_,_,_,_,_,_,_,rfl,R9,i0⟩,⟨R7,R8,S0⟩,by
  intro d hd;rcases mem_cons.mp hd with rfl|hd
  ·exact⟨[],λs us KI hl=>by replace hl:us.length=3:=(by simpa using hl);revert us;refine qAl ?_;intro _ _ _;exact BindsTo.of_defaults (T:=E5) rfl (KI _ _ B2) rfl rfl rfl,.nil⟩
  obtain rfl:=Zms.mp hd
  ·exact⟨[.str ("through":Str) U7],λs us KI hl=>by replace hl:us.length=2:=(by simpa using hl);revert us;refine qAl ?_;intro _ _;exact BindsTo.of_defaults (T:=E5) rfl (KI _ _ B2) rfl rfl rfl,(.cons ⟨_,rfl⟩ .nil)⟩⟩
 have MW:ClsAt K mg "Door" a7 "Door.__init__" bY QZR [[]]:=⟨d9,_,_,W.mg_of X G wx,⟨_,_,_,_,_,_,_,_,_,rfl,A5,A6⟩,⟨xf,A3,A4,xg⟩,by
  intro d hd;obtain rfl:=Zms.mp hd;exact⟨[],λs us KI hl=>by replace hl:us.length=4:=(by simpa using hl);revert us;refine qAl ?_;intro _ _ _ _;exact BindsTo.of_eq rfl,.nil⟩⟩
 have GV:Cls K f7:=⟨qr,qt,qu,qv⟩;subst rg;have IT:ClsAt K mg "House" f7 "House.__init__" bU QZG [[.non,.non]]:=⟨c9,_,_,W.mg_of X G qq,⟨_,_,_,_,_,_,_,_,_,rfl,u9,v8⟩,⟨qx,u6,u7,qy⟩,by
  intro d hd;obtain rfl:=Zms.mp hd
  ·exact⟨[.none,.none],λs us KI hl=>by replace hl:us.length=1:=(by simpa using hl);revert us;refine qAl ?_;intro _;exact BindsTo.of_defaults (T:=xr) rfl (KI _ _ rb) rfl rfl rfl,(.cons rfl (.cons rfl .nil))⟩⟩
 refine⟨W.fnOf "law" "law" (bD mK) (aS mK) (aB mK) .none FW FX FY FV BA FZ,λs v=>.of_eq rfl,λbase _ _=>?_⟩;have SS:=qF (st:=mK) GB GC GD;have BD:Qk K a7:=⟨q9,R4,R5,J0,D0,J1⟩;have BM:Gm K a6:=⟨K7,F7,F8,m7,F9,i5⟩;have BR:Qd K b7:=⟨CD,O0,Q8,ku,W8,Q9,R0,R1⟩;have JB:JT K a5:=⟨E3,m6,i3⟩;have BB:Ph K a9:=⟨pv,B9⟩;have KT:Vs K a8:=⟨S9,Q5,m5,i8⟩;have HB:HoT K f7:=⟨GV,A8,i6,A9⟩;have JS:=Ps (P:=l.prog) (w:=w) (mg:=mg) (base:=base) T (M6.at X G);have GW:=Ah T JS (jo.at X G);have ai':=Fn T JS (qp.at X G);have cwh:=Ko (P:=l.prog) (w:=w) (mg:=mg) (base:=base) T (V1.at X G);have aj':=Pu T U GW (Q1.at X G);have SU:=Ai T aj' cwh (jq.at X G);have JU:=Pw (P:=l.prog) (w:=w) (mg:=mg) (base:=base) T (jr.at X G);have cdc:=Al (P:=l.prog) (w:=w) (mg:=mg) (base:=base) T (B6.at X G);have cdd:=pN (P:=l.prog) (w:=w) (mg:=mg) (base:=base) T (B6.at X G);have cam:=wC (P:=l.prog) (w:=w) (mg:=mg) (base:=base) BB (F5.at pv);have cbr:=Aj (P:=l.prog) (w:=w) (mg:=mg) (base:=base) T BB (Q7.at pv);have cbc:=Ak T BB cam (F6.at pv);have cda:=rH T BB cdc cam (F2.at X G);have cea:=Ft T BB cdc JU cam cda (vq.at X G);have cco:=rX T cdd (M7.at X G);have cbi:=Ld (P:=l.prog) (w:=w) (mg:=mg) (base:=base) T BB MV;have cal:=Kr (P:=l.prog) (w:=w) (mg:=mg) (base:=base) (V3.at X G);have cik:=Fo KT cal (B8.at S9);have clo:=Px KT cik (Q6.at S9);have cen:=Vw (P:=l.prog) (w:=w) (mg:=mg) (base:=base) KT (V8.at S9);have cse:=Fp KT cen (F4.at S9);have cbe:=Kt (P:=l.prog) (w:=w) (mg:=mg) (base:=base) KT (N8.at S9);have cki:=Kq (P:=l.prog) (w:=w) (mg:=mg) (base:=base) KT MU;have cby:=Vy (P:=l.prog) (w:=w) (mg:=mg) (base:=base) (M8.at X G);have cfb:=Vz (cbi [] Zs) (M9.at X G);have crb:=Wa cfb cco cbc (N1.at X G);have crk:=Wb (P:=l.prog) (w:=w) (mg:=mg) (base:=base) (N2.at X G);have cri:=Qc T cby crb crk cbr (vt.at X G);have cro:=yK (P:=l.prog) (w:=w) (mg:=mg) (base:=base) T (ju.at X G);have cji:=Fu T JB cro DV;have cjw:=Fv (P:=l.prog) (w:=w) (mg:=mg) (base:=base) JB (A1.at E3);have cjf:=Fw (P:=l.prog) (w:=w) (mg:=mg) (base:=base) T JB (A2.at E3);have cjr:=Li (P:=l.prog) (w:=w) (mg:=mg) (base:=base) T JB (C1.at E3);have cjs:=Lj (P:=l.prog) (w:=w) (mg:=mg) (base:=base) JB (C2.at E3);have am':=Qe (P:=l.prog) (w:=w) (mg:=mg) (base:=base) BR SR;have cas:=Wc (P:=l.prog) (w:=w) (mg:=mg) (base:=base) BR (C7.at CD);have cno:=yI (P:=l.prog) (w:=w) (mg:=mg) (base:=base) T (V2.at X G);have che:=Qg T BR cno (i9.at CD);have cpu:=Wd (c:=⟨a7,a6,b7,a5,a9,a8⟩) BM cbe (am' [] Zs) (O1.at K7);have cmb:=Fz (c:=⟨a7,a6,b7,a5,a9,a8⟩) BM cpu (C9.at K7);have chd:=Qh (c:=⟨a7,a6,b7,a5,a9,a8⟩) T BM BR che (G0.at K7);have cme:=Qi (c:=⟨a7,a6,b7,a5,a9,a8⟩) BM BR BB cco cbc cse (O2.at K7);have cmi:=We (c:=⟨a7,a6,b7,a5,a9,a8⟩) BM (cbi [] Zs) (cki [] Zs) GU;have cdi:=Lq (c:=⟨a7,a6,b7,a5,a9,a8⟩) T BD GW (cji [.str ("":Str)] Zs) cri (cmi [] Zs) MW;have SV:=Lr (P:=l.prog) (w:=w) (mg:=mg) (base:=base) (c:=⟨a7,a6,b7,a5,a9,a8⟩) BD (O6.at q9);have cun:=Ls (c:=⟨a7,a6,b7,a5,a9,a8⟩) T BM SV cas (O5.at q9);have cho:=Ao (P:=l.prog) (w:=w) (mg:=mg) (base:=base) HB IT;have chf:=Ap (P:=l.prog) (w:=w) (mg:=mg) (base:=base) (c:=⟨a7,a6,b7,a5,a9,a8⟩) BD (A7.at q9);have cag:=Lv (P:=l.prog) (w:=w) (mg:=mg) (base:=base) (N3.at X G);have ccm:=Lx (c:=⟨a7,a6,b7,a5,a9,a8⟩) T BD BM SV GW ai' SU JU chf clo cag cmb cjw (R6.at q9);have cwd:=Ly (c:=⟨a7,a6,b7,a5,a9,a8⟩) BD BM BR cjw (p7.at q9);have cwf:=Gc (c:=⟨a7,a6,b7,a5,a9,a8⟩) BD BM BR cea cwd cjw (j7.at q9);have cwk:=Ql (c:=⟨a7,a6,b7,a5,a9,a8⟩) U BM BR SV chd cwf zz;have cfo:=Lz (c:=⟨a7,a6,b7,a5,a9,a8⟩) BD SV cjs cjf cjr cme (O4.at q9);have cdk:=Py (P:=l.prog) (w:=w) (mg:=mg) (base:=base) T (V4.at X G);have MX:=Ku (P:=l.prog) (w:=w) (mg:=mg) (base:=base) (V5.at X G);have cul:=Fq T MX (N4.at X G);have an':=Gd T MX (N5.at X G);have ao':=Mb T MX an' (Q2.at X G);have ap':=Ge T MX ao' (V6.at X G);have aq':=yS (P:=l.prog) (w:=w) (mg:=mg) (base:=base) T (N6.at X G);have ar':=wH (P:=l.prog) (w:=w) (mg:=mg) (base:=base) T (F3.at X G);have as':=As (P:=l.prog) (w:=w) (mg:=mg) (base:=base) T (Q3.at X G);have au':=Au (P:=l.prog) (w:=w) (mg:=mg) (base:=base) T (B7.at X G);have av':=Gf T as' (V7.at X G);have cdw:=Mc (c:=⟨a7,a6,b7,a5,a9,a8⟩) BD cjr (S2.at q9);have cbw:=Md (c:=⟨a7,a6,b7,a5,a9,a8⟩) BM BB SV cbr (u5.at q9);have aw':=Gg (c:=⟨a7,a6,b7,a5,a9,a8⟩) T (cwk [] Zs) (cwk [.str ("through":Str)] Zs) av' au' aq' (N7.at X G);have ax':=Qo (c:=⟨a7,a6,b7,a5,a9,a8⟩) T MX aw' (u4.at X G);have ay':=Aw (c:=⟨a7,a6,b7,a5,a9,a8⟩) T MX ap' ccm (Q4.at X G);have az':=Gj (c:=⟨a7,a6,b7,a5,a9,a8⟩) T cfo cun ccm ar' (u0.at X G);have aA':=Gk (c:=⟨a7,a6,b7,a5,a9,a8⟩) T cbw (u3.at X G);exact Wk (c:=⟨a7,a6,b7,a5,a9,a8⟩) T cdk MX cul (cdi [] Zs) (cho [.non,.non] Zs) ay' ax' cdw cbw cun az' aA' SS
def aAU{l:W.OpenLaw}{q:Program}{loose:List Str}{XP:(Str->Option S6)->Heap->Prop}{YP:World->Heap->Prop}{d:DefRec}{K:Params->W.Frag}(hn:l.most=some 63)(OE:d.params.defaults=[])(hY:∀(w:World)(h:Heap),YP w h->(K w.params).In h)(F:∀(w:World)(mg:X7)(fa:TD)(h:Heap),(K w.params).In h->h.Ns mainGlobals mg->mg d.name=some (.ref fa) →
   ∃fd:FuncData,(∀(s:PP)(u:S6),BindsTo s fd ⟨[u],[]⟩ [("_law_script",u)])/\∀base:Heap,(K w.params).In base->base.Ns mainGlobals mg->jK l.prog w (K w.params) mg base sY 8 fa fd BY (Do (K w.params))) :
  W.WalkO q loose XP YP l.row.toRowW d [] (λf vs=>PySem.call f vs):=
 L2.Bj (n:=63) (k:=8) (x:="_law_script") (CX:=λ_=>sY) (sp:=λw=>Do (K w.params)) hn Zd OE ⟨rfl,Zd,Zd⟩ hY F (λ_ _ a ns hl _ hS=>⟨a,ns,rfl,hS,hl,λ_=>rfl⟩) λ_ _ _ _ _ z=>z
end KL
namespace PySem.W.Fast
def tw10017509849457999418:=0
def tw10027407950415681283:=0
def tw10060256959386788491:=0
def tw1010284173615902320:=0
def tw1013588017707522446:=0
def tw10172990509358948886:=0
def tw10286275555492296161:=0
def tw10292566584446704034:=0
def tw10321787424424765417:=0
def tw10401439291846494012:=0
def tw10452358560885079212:=0
def tw10557064733662443328:=0
def tw10618626568042269870:=0
def tw10664118217881476484:=0
def tw10672179107385003015:=0
def tw10692321698258473722:=0
def tw10700911637852593152:=0
def tw10711371184743772505:=0
def tw10741816900284014197:=0
def tw10804787576635484461:=0
def tw10854059701456988433:=0
def tw10892835499123027274:=0
def tw10893878621713031594:=0
def tw10934945679120827213:=0
def tw10942447841826885611:=0
def tw10950072130908567737:=0
def tw11017425728699106925:=0
def tw1104030764066727531:=0
def tw11243137421569277907:=0
def tw11272516513541626814:=0
def tw11277667642812478667:=0
def tw11339552950455752224:=0
def tw1142207750561045296:=0
def tw11497062039161995438:=0
def tw11525745453883233521:=0
def tw11571629087967285550:=0
def tw11572690416036574013:=0
def tw11602324099364179955:=0
def tw11661959606192238089:=0
def tw11680466068028684637:=0
def tw11681387499259280967:=0
def tw11727912813601390570:=0
def tw11738872592121549212:=0
def tw11826065759906176192:=0
def tw11863251461664398738:=0
def tw11871584727946021299:=0
def tw11917344338092349150:=0
def tw1195017405348383624:=0
def tw12032306549953278769:=0
def tw12090326177161052798:=0
def tw12213333478240658193:=0
def tw12244242539492851502:=0
def tw12497656960640012190:=0
def tw12586065636768708500:=0
def tw12813826203790260469:=0
def tw12827463198337122124:=0
def tw12827530496697649608:=0
def tw12880459091841465946:=0
def tw12941979727685008111:=0
def tw13022746628416439154:=0
def tw13190533696978928515:=0
def tw13192158844441949969:=0
def tw132777001599027495:=0
def tw13292916532334394113:=0
def tw13310655490651151302:=0
def tw13451591657563845965:=0
def tw13478404144943085957:=0
def tw13491079485672874074:=0
def tw13581987094995189613:=0
def tw13630660423415269435:=0
def tw13713513016300297560:=0
def tw13900604061206509815:=0
def tw13904030698594095202:=0
def tw13966618487026139034:=0
def tw13982192161598765315:=0
def tw14005788065033375362:=0
def tw14014208113960204625:=0
def tw14056813290488650213:=0
def tw1406120167054931907:=0
def tw14072233214823000374:=0
def tw14098878821475266511:=0
def tw14113164129327734945:=0
def tw14175105928813574993:=0
def tw14227911997607361698:=0
def tw1434837128915849409:=0
def tw14357210706840373916:=0
def tw14357506282330327085:=0
def tw14416958021021985395:=0
def tw14494659828461801127:=0
def tw14501970017779522332:=0
def tw1467276328076177497:=0
def tw14705069352354384079:=0
def tw14705196649420422427:=0
def tw14729472807821035359:=0
def tw14742103713231688168:=0
def tw14774290984925363882:=0
def tw14917175823569478236:=0
def tw14975607541868687601:=0
def tw15025963659737044794:=0
def tw15032508423738300968:=0
def tw1503987233413084072:=0
def tw15040382581999371171:=0
def tw15056619986278452681:=0
def tw15057425214856776680:=0
def tw15146367507994123185:=0
def tw15237726392916123728:=0
def tw15252453359678072513:=0
def tw1529347882353412609:=0
def tw15306295817839916082:=0
def tw1537398436244458395:=0
def tw15426235786849303372:=0
def tw15429904504130963807:=0
def tw1557661421158414255:=0
def tw15628480070223848306:=0
def tw15660789956799769767:=0
def tw15706966091997592299:=0
def tw15736190118156887176:=0
def tw15757266080169183962:=0
def tw15810700746303771279:=0
def tw15821399557135655850:=0
def tw1586339546263837634:=0
def tw15928891028318020543:=0
def tw16007205610556999535:=0
def tw16101658900377756975:=0
def tw16116378545549549641:=0
def tw16206066843718676760:=0
def tw16222633442824096875:=0
def tw16228335940734016899:=0
def tw1634817843995465875:=0
def tw16424487397712274224:=0
def tw16462446322301085047:=0
def tw16514584716365194255:=0
def tw16534936901932984831:=0
def tw16603950039472082923:=0
def tw1667200745867601576:=0
def tw1668428539074197790:=0
def tw16691447489990071083:=0
def tw16741987147272855952:=0
def tw16788820600639646779:=0
def tw16868878299597537454:=0
def tw16942680859730987706:=0
def tw16974374802366452607:=0
def tw17052943202552593455:=0
def tw1706718567428279582:=0
def tw17074551413136131648:=0
def tw17143875856312587555:=0
def tw1715996045388454155:=0
def tw17206502304172386748:=0
def tw17209283467189098126:=0
def tw17243923377899449138:=0
def tw17302355315669263862:=0
def tw17361686161584146104:=0
def tw17363335334855645975:=0
def tw17402719614301116916:=0
def tw17423751488983666380:=0
def tw17614613548539034492:=0
def tw17647004138495190301:=0
def tw1766203840244597296:=0
def tw17667042040205694968:=0
def tw17669102832997564276:=0
def tw17672507625325348247:=0
def tw17741853271658592683:=0
def tw17811850048728586460:=0
def tw1783914979789554820:=0
def tw17851584242462296643:=0
def tw1786828639415470554:=0
def tw17893631051797883444:=0
def tw17939348402627926044:=0
def tw17950406546248016880:=0
def tw18009513940736644244:=0
def tw18051974811539756079:=0
def tw18063197333492038536:=0
def tw18079856663987234066:=0
def tw18133481145651989798:=0
def tw18270837221850247405:=0
def tw18274130663162002213:=0
def tw18294401724670698154:=0
def tw18364698775832515155:=0
def tw18396978831267418597:=0
def tw1973076282628541905:=0
def tw198005375083196434:=0
def tw1980472023328453618:=0
def tw212503322878023946:=0
def tw2174073035008690295:=0
def tw2193367825817503088:=0
def tw2322935010033573391:=0
def tw2332463924082639567:=0
def tw2373316243140447327:=0
def tw2375629953431663249:=0
def tw2423263747850900127:=0
def tw2441997327354140535:=0
def tw2450155217234541417:=0
def tw2464030060706250089:=0
def tw2468246535686728602:=0
def tw247585853224728034:=0
def tw2609662740653282822:=0
def tw2883279790059918173:=0
def tw2907969098434176402:=0
def tw2917107858200076494:=0
def tw3028980647770107055:=0
def tw3070879500550712652:=0
def tw334317096643097709:=0
def tw3571764858609954446:=0
def tw3635154790059295808:=0
def tw3821504367038498610:=0
def tw3904438418794954753:=0
def tw3945621047227199331:=0
def tw3960816582321009879:=0
def tw4020007036025979580:=0
def tw4204825885651535077:=0
def tw4258345373711249341:=0
def tw432626588696402665:=0
def tw4327653135832253907:=0
def tw4424547661175372208:=0
def tw4473028707103054368:=0
def tw4519485810981651528:=0
def tw4537982078825518513:=0
def tw4557421791428345352:=0
def tw4558971868140450897:=0
def tw458406177500583524:=0
def tw4584393051509831599:=0
def tw4761732190967610562:=0
def tw4860754101144854653:=0
def tw4898134097570603437:=0
def tw493220046005118512:=0
def tw4938877553154795031:=0
def tw4986117822637275059:=0
def tw4994654496125029817:=0
def tw5038111924186027745:=0
def tw5048029234024225148:=0
def tw5059785569812445027:=0
def tw5110879574709921847:=0
def tw5179652094588524428:=0
def tw5183434342756848821:=0
def tw5291455564829903900:=0
def tw532529078380105880:=0
def tw5340024057930434898:=0
def tw5368108738360834394:=0
def tw5380723483863298428:=0
def tw5569314823274727796:=0
def tw5582317154163959591:=0
def tw5643936221922415981:=0
def tw5656610992928241301:=0
def tw5680539030109891116:=0
def tw5691870325598102758:=0
def tw569962549426101895:=0
def tw574366706140080344:=0
def tw5780769808176942691:=0
def tw5823506445145059298:=0
def tw5864248230066186251:=0
def tw5892180040335117848:=0
def tw5977971533388961041:=0
def tw6006750562691219800:=0
def tw6035704039363099021:=0
def tw6149241825619421989:=0
def tw6192740717277026209:=0
def tw6232615471038006424:=0
def tw6260844041896848769:=0
def tw6283610470543924633:=0
def tw6467429250757263661:=0
def tw6533666561210937150:=0
def tw6607508023289407216:=0
def tw6739281081075452802:=0
def tw6859173911116648628:=0
def tw6881333768818964535:=0
def tw6984424157109879330:=0
def tw7013570273908586564:=0
def tw7040147198533479038:=0
def tw707187700622297158:=0
def tw7128152227848991794:=0
def tw7232732691749654865:=0
def tw739732235404052406:=0
def tw7405966059342477129:=0
def tw7408874157902027942:=0
def tw7530883888809990320:=0
def tw7542807300219243697:=0
def tw7687680540938730141:=0
def tw7720337010211502346:=0
def tw7771506790836090412:=0
def tw7802476194108888549:=0
def tw7903374666385340576:=0
def tw8039661808875998847:=0
def tw8069733283879881335:=0
def tw8102046572505408605:=0
def tw8130620322291971959:=0
def tw8141324996679018556:=0
def tw8150756898621017684:=0
def tw8186073062148859013:=0
def tw8295692128540393517:=0
def tw8328294057042264570:=0
def tw8335266117818280267:=0
def tw8445197218718936562:=0
def tw8490130794571823459:=0
def tw8534953575743442077:=0
def tw8582558264128246348:=0
def tw8737847341195905806:=0
def tw8768602059674833516:=0
def tw8776100993492257528:=0
def tw8834364065441797468:=0
def tw8895780146710552111:=0
def tw8914283676074996594:=0
def tw8952297299971821087:=0
def tw8978446519501557980:=0
def tw9070396144043426509:=0
def tw9148455276074227889:=0
def tw9175718817219562121:=0
def tw9234984481865614018:=0
def tw9279917967215279415:=0
def tw9357160095682083099:=0
def tw9379748092849746281:=0
def tw9393888685480337254:=0
def tw9579318238167518019:=0
def tw9606828041692648419:=0
def tw9608371052631616684:=0
def tw9622677569027643138:=0
def tw9718681877595011518:=0
def tw9722953063814888670:=0
def tw9817131637986189628:=0
def tw9855313510661194489:=0
def tw9862490205902118495:=0
def tw9907892402019020813:=0
def tw9986316215198449813:=0
def tw1808883473403126617:=0
def tw9997763108086203529:=0
def tw15094834334535295985:=0
def tw16308773612092008402:=0
def tw7181594486865542186:=0
def tw17739058789286623118:=0
def tw12622683035432875954:=0
def tw14752437301852006586:=0
def tw8962121373201420846:=0
def tw7259062640916969916:=0
def tw14631447496949150994:=0
def tw8381912997505094382:=0
def tw4721593693282158603:=0
def tw8088924720409137141:=0
def tw17357986128790153619:=0
def tw1873453923251026563:=0
def tw4210405796087074577:=0
def tw5418034707405248770:=0
def tw15158639680269917693:=0
def tw6325697589689510101:=0
def tw6416853503455105396:=0
def tw18132165166381890655:=0
def tw8276312196497685491:=0
def tw11142773326138095777:=0
def tw17604386194741788584:=0
def tw13278328896475089992:=0
def tw13756693117669668909:=0
def tw9028628930964274155:=0
def tw8129188435970205997:=0
def tw3193583287811289621:=0
def tw10305477650952993672:=0
def tw11634605578706759660:=0
def tw10261992293670598065:=0
def tw1482507253270500261:=0
def tw8392875211172087072:=0
def tw6702035499944864626:=0
def tw3250084204933105619:=0
def tw16388052048663051062:=0
def tw2140370754695785365:=0
def tw1723036708372535230:=0
def tw16423187060331992597:=0
def tw10879701806404554221:=0
def tw4468511141989849356:=0
def tw6865884205003553490:=0
def tw4163945915598320164:=0
def tw404315193066545921:=0
def tw15157775526521055368:=0
def tw12634195669982438040:=0
def tw2772048182338052687:=0
def tw1485973605043002778:=0
def tw6142811180167248576:=0
def tw4342129459021188435:=0
def tw16452584127666756221:=0
def tw4915137748562068183:=0
def tw12675537903550404378:=0
def tw1757969920635475645:=0
def tw5742059419505361564:=0
def tw15618710339898762655:=0
def tw7814001334225514140:=0
def tw5401331013960611675:=0
def tw18129752566357400985:=0
def tw15635783767818889596:=0
def tw14676988772946167096:=0
def tw2340791759437696488:=0
def tw8063729609465420377:=0
def tw340195977374666083:=0
def tw1638773141717738605:=0
def tw16266898877564692582:=0
def tw14645484353951566557:=0
def tw15003189084592966007:=0
def tw17475513124029999014:=0
def tw16094480965486203446:=0
def tw3517779738549475340:=0
def tw1387182423651065014:=0
def tw7751774803993556756:=0
def tw3973662341901416344:=0
def tw16645528095802994024:=0
def tw7276751942840440162:=0
def tw6415176624230064627:=0
def tw9688931778096419282:=0
def tw9289941883015697212:=0
def tw17199778174026232892:=0
def tw14911746694307634882:=0
def tw13834883513369543157:=0
def tw1080796584527270636:=0
def tw10376766658426110204:=0
def tw8798147513248967633:=0
def tw4198339461631716762:=0
def tw10732442561574702231:=0
def tw17255453525525657601:=0
def tw15517359205957082257:=0
def tw15412736237434781516:=0
def tw29116477378128902:=0
def tw15403993269920051658:=0
def tw6359310906746945000:=0
def tw18099651599772783058:=0
def tw1131445870754514610:=0
def tw9296241113594393361:=0
def tw5630760378941453667:=0
def tw14513060800736346074:=0
def tw10869093197383769695:=0
def tw13099024871533151498:=0
def tw8959224757732035530:=0
def tw3000795064978900023:=0
def tw15740129503395264562:=0
def tw360482893439950106:=0
def tw4171531414488961027:=0
def tw6008280724444983037:=0
def tw4170264048964286328:=0
def tw17452864090696474076:=0
def tw129221407489612782:=0
def tw12556800146043851057:=0
def tw2176551660802808002:=0
def tw5598872013071196390:=0
def tw14666609710735623369:=0
def tw643946163125041402:=0
def tw6280990907681379781:=0
def tw2397616970532853343:=0
def tw18154942590887976016:=0
def tw3818809378461929677:=0
def tw14882141697279631157:=0
def tw14531192179796193325:=0
def tw1297590708233944333:=0
def tw10179102024522272791:=0
def tw970009251591707337:=0
def tw9596512431796550670:=0
def tw8028457299873787766:=0
def tw14684192083563193834:=0
def tw13615365506484766123:=0
def tw11775743307702559621:=0
def tw18424455265278678490:=0
def tw8135935748624101256:=0
def tw7035907519360721034:=0
def tw6076780901337662368:=0
def tw5542098908590028164:=0
def tw18306880873672481588:=0
def tw12923438610723030632:=0
def tw11631360075204025439:=0
def tw11457955305985385865:=0
def tw3525081132049820809:=0
def tw16588791109965539368:=0
def tw12118961860501667696:=0
def tw17122175006660684427:=0
def tw17581360024559039088:=0
def tw4114989866099907058:=0
def tw9892149491228705312:=0
def tw1092336976096489740:=0
def tw13387686574611841781:=0
def tw5661710367822357039:=0
def tw2728360957687903302:=0
def tw2198511734164031750:=0
def tw8504235843989188804:=0
def tw1248356552786637425:=0
def tw11441563192218976926:=0
def tw3645443576350084084:=0
def tw14280335572796372405:=0
def tw11713554207912379220:=0
def tw15329014350251942898:=0
def tw12948408580246679357:=0
def tw6526812071528046067:=0
def tw12765810144158084423:=0
def tw8770797981150812763:=0
def tw3017091981563853549:=0
def tw12560235386976433890:=0
def tw1932263451412388764:=0
def tw10531633675471868653:=0
def tw13956862240537021298:=0
def tw6514936511680063280:=0
def tw3429223951588139947:=0
def tw4453270760133795890:=0
def tw4393448117970184193:=0
def tw10636948816939345806:=0
def tw17775356199769264464:=0
def tw8969075435436290478:=0
def tw619205536213908790:=0
def tw4688612670960607330:=0
def tw4621041436456273465:=0
def tw17715864240242921193:=0
def tw7073131667984475685:=0
def tw15096781040049033879:=0
def tw2523162494052919040:=0
def tw9705815511633099425:=0
def tw537009799157355830:=0
def tw3960228438097616245:=0
def tw1763441457758640563:=0
def tw13448148424098732975:=0
def tw8710940103297025347:=0
def tw15735701623605828194:=0
def tw11350314954330846281:=0
def tw7671248846691962760:=0
def tw6836666275323701384:=0
def tw6627145682072698769:=0
def tw4648368533770657284:=0
def tw13689132490458543981:=0
def tw6856316487496308046:=0
def tw4870951677885328776:=0
def tw3185616868634132557:=0
def tw5370274965822292881:=0
def tw15934845424601034539:=0
def tw15427063320032407236:=0
def tw13262228069680536587:=0
def tw2801449195138252583:=0
def tw2647789647500003711:=0
def tw2406929786465266141:=0
def tw15678240577511872857:=0
def tw10733938226320350103:=0
def tw10181724954189834078:=0
def tw7352572208068746965:=0
def tw15277407555482461558:=0
def tw11925534876140198063:=0
def tw5366539993979662397:=0
def tw11246937328512933205:=0
def tw972979949708731978:=0
def tw9098673219801320544:=0
def tw3692223010264607477:=0
def tw16799981300977963952:=0
def tw7843113665984797665:=0
def tw17796227016899692000:=0
def tw16611633027307822786:=0
def tw16162876002770465762:=0
def tw15590199929337216291:=0
def tw6023312122536060077:=0
def tw5208531766996417139:=0
def tw16570687138060466374:=0
def tw15477935470409844166:=0
def tw13296909449378897523:=0
def tw12387955170071684070:=0
def tw11408863587417532434:=0
def tw13312577277610362894:=0
def tw9971718457641413465:=0
def tw1131874792614360572:=0
def tw9291120277820085922:=0
def tw14352427309567456835:=0
def tw7910962800869594716:=0
def tw13439027021725499163:=0
def tw8733140869680097713:=0
def tw9690917980169691037:=0
def tw9486977953797043771:=0
def tw9352941198525370887:=0
def tw7647631536406788084:=0
def tw7621225814403544671:=0
def tw5482460881753032503:=0
def tw4853651293654466951:=0
def tw4629651803736449544:=0
def tw14963327089392929783:=0
def tw13056627357779079284:=0
def tw12560272946641690811:=0
def tw6673671263647828480:=0
def tw4971133734410949264:=0
def tw13646552664882474625:=0
def tw11502361423285533223:=0
def tw5656844301986523630:=0
def tw6099088432971678024:=0
def tw17526805892818626458:=0
def tw14270242734811025747:=0
def tw8500635181930048966:=0
def tw16999930750021057029:=0
def tw13639081444417985537:=0
def tw10778218368763490003:=0
def tw17546704486312417779:=0
def tw12954213382220477647:=0
def tw9968932486499645189:=0
def tw8047016555966007754:=0
def tw5807485123326603029:=0
def tw3158103072942454188:=0
def tw2396387568299936712:=0
def tw13318297475588890240:=0
def tw9365621565200111403:=0
def tw7731250668579953060:=0
def tw4496124527252550766:=0
def tw2739221794590856399:=0
def tw15967823347018377217:=0
def tw15948100751948549996:=0
def tw13612091032220918045:=0
def tw11817790678063325007:=0
def tw1880389600225962404:=0
def tw18305718479813462525:=0
def tw1583563559422317166:=0
def tw7853287871939081095:=0
def tw7070867889536428824:=0
def tw6746829135545111507:=0
def tw5820220329330200974:=0
def tw486736397957883522:=0
def tw16296298840371143863:=0
def tw16199943598622248328:=0
def tw5612867935144044787:=0
def tw4340714825160347787:=0
def tw2229365978910594236:=0
def tw17529710463464252182:=0
def tw4698353163971232206:=0
def tw15962380893525446316:=0
def tw9022152441696114120:=0
def tw7751150402352622970:=0
def tw1890484132606731036:=0
def tw11877980240888998089:=0
def tw11330418364512731601:=0
def tw2117267390129461572:=0
def tw17777322487902768500:=0
def tw10399185517716721212:=0
def tw5307477184129594725:=0
def tw3160894412850761806:=0
def tw17963342173295677377:=0
def tw17389770687515373330:=0
def tw13556226862885859165:=0
def tw12580749354830442324:=0
def tw11881479410996785096:=0
def tw6854539645342482952:=0
def tw7050447009395389109:=0
def tw2988210470962409781:=0
def tw17847584197206823282:=0
def tw12973183681750641598:=0
def tw12539444844077989570:=0
def tw10623753122399437636:=0
def tw6808970611319313771:=0
def tw5607492502927403419:=0
def tw507590719254220160:=0
def tw471653614855967834:=0
def tw4260397205353177376:=0
def tw1884789082690658485:=0
def tw18349171438769184389:=0
def tw17236618968998166862:=0
def tw16802007812620282963:=0
def tw13924950839409610895:=0
def tw12294399002446892698:=0
def tw11428716550129256194:=0
def tw1116488140683512873:=0
def tw10792693759508121932:=0
def tw10262565498856216356:=0
def tw6192737668838008445:=0
def tw12135802897517641212:=0
def tw14716630662333676533:=0
def tw15548687611907677217:=0
def tw412278536170996071:=0
def tw3962328627796775699:=0
def tw3082855689100273458:=0
def tw18426275040748852246:=0
def tw4418168422017193444:=0
def tw347604596709856659:=0
def tw11398835457864264279:=0
def tw8051349758227724848:=0
def tw15657305167354684852:=0
def tw13613568688079448953:=0
def tw9677744520998081068:=0
def tw5154239735790644409:=0
def tw1820053377551460613:=0
def tw15031495745063068005:=0
def tw13445751926583731774:=0
def tw11300482325839822550:=0
def tw7458404731814248197:=0
def tw6326205428897846965:=0
def tw5068050839350099548:=0
def tw4435530604555632997:=0
def tw4278588368549844653:=0
def tw386583195612275712:=0
def tw2628952502181398797:=0
def tw18280146590703993596:=0
def tw17921353636146176252:=0
def tw17912588748069598974:=0
def tw17316869957926459511:=0
def tw16322645719643331085:=0
def tw15528083777470833802:=0
def tw12099456697433475085:=0
def tw10575850934991233204:=0
def tw5420962981727891155:=0
def tw215747606861163684:=0
def tw11466222378155394722:=0
def tw6476957885291040641:=0
def tw13316756845149532144:=0
def tw9781676058346709471:=0
def tw7593486656842146916:=0
def tw15808386822424695604:=0
def tw13180959850070662902:=0
def tw10100571169283536971:=0
def tw5143136532079137203:=0
def tw11901801481605144988:=0
def tw11382485703169037105:=0
def tw8033165965934127745:=0
def tw17418572414659000597:=0
def tw5743227962901542423:=0
def tw410823318515798321:=0
def tw9822313364999879783:=0
def tw672199708669016093:=0
def tw645688871196697192:=0
def tw4691365531964679343:=0
def tw1357112942362767454:=0
def tw7417371680301258226:=0
def tw7271166564896023923:=0
def tw11185570436582023038:=0
def tw9130928105070696814:=0
def tw9881436893547609004:=0
def tw9801690259292743590:=0
def tw8986217846514696007:=0
def tw7542583855433218653:=0
def tw7453791203074694975:=0
def tw5756711860550355988:=0
def tw5585302539192861041:=0
def tw4595467543261277941:=0
def tw2490992048009653571:=0
def tw2422704900268292832:=0
def tw18053354947242954461:=0
def tw16793631695500709882:=0
def tw16726684417200870635:=0
def tw16224314209834853359:=0
def tw1606220501286836460:=0
def tw15961963053406639544:=0
def tw1584427201220877101:=0
def tw15534061023762308694:=0
def tw15210448783338008972:=0
def tw14572492589730322755:=0
def tw14307271630089483299:=0
def tw14134527322002662920:=0
def tw1386798106617624604:=0
def tw13698038410841314806:=0
def tw13455354600989549091:=0
def tw11589540881488016485:=0
def tw11582244520272559979:=0
def tw10888832114409786423:=0
def tw13378498494768303793:=0
def tw9982556258128234782:=0
def tw924900418598507718:=0
def tw9124828624643781934:=0
def tw9118574884673813227:=0
def tw8948265611965168316:=0
def tw7374323771505778785:=0
def tw6906488477793589509:=0
def tw6571995362964494644:=0
def tw630813941208282093:=0
def tw606094937163584482:=0
def tw5825897456273966185:=0
def tw4501454133805717597:=0
def tw4492121609222540244:=0
def tw3662815926190853543:=0
def tw17609618984277839857:=0
def tw16422653487597780061:=0
def tw15990401759495781224:=0
def tw13917914000506731160:=0
def tw13377095140611624878:=0
def tw12046649967429794470:=0
def tw10443561076192211041:=0
def tw922658967955913157:=0
def tw7217657499975530375:=0
def tw7108217048096685667:=0
def tw4641619223376309608:=0
def tw18227125276115009474:=0
def tw17825609122024156290:=0
def tw1436040974482327046:=0
def tw1430095015659519022:=0
def tw13656836887017505923:=0
def tw13191427870721300709:=0
def tw11218453956244583769:=0
def tw11087006812882574433:=0
def tw3272935830116653925:=0
def tw11179983886245116261:=0
def tw14946625637480278940:=0
def tw3210158025700119219:=0
def tw23068997642266128:=0
def tw18368645147295022654:=0
def tw11726399744242535295:=0
def tw5744906301758298939:=0
def tw16832347485579500268:=0
def tw14167587154664753182:=0
def tw10270600504804750153:=0
def tw5798363095285734433:=0
def tw18206730701234758191:=0
def tw7764655958454329741:=0
def tw7208599427805125730:=0
def tw709902258663695456:=0
def tw6647262606330069796:=0
def tw6245769381273503730:=0
def tw5986327020517559396:=0
def tw4345779612999774802:=0
def tw421688602749183943:=0
def tw3166594696230638437:=0
def tw16763465172251268217:=0
def tw1509108342269943310:=0
def tw14297323439366968321:=0
def tw1396332859715058600:=0
def tw12752792342779154134:=0
def tw12653572368509608687:=0
def tw11791884233367287598:=0
def tw1978878127796159056:=0
def tw7253274895260359726:=0
def tw14611241196972382223:=0
def tw10077753999088658522:=0
def tw8056618149464305460:=0
def tw6232595954958985195:=0
def tw5127079789709310701:=0
def tw4745328637996153376:=0
def tw2789659257189254873:=0
def tw2497574739027937051:=0
def tw236545028821383416:=0
def tw2074406246463272322:=0
def tw17706230030350324970:=0
def tw17694363775881279783:=0
def tw17694103565325277136:=0
def tw17055362850084046641:=0
def tw16808414258936515541:=0
def tw16130870884431615218:=0
def tw15984549506296596006:=0
def tw15821817780261643248:=0
def tw14772281620351433985:=0
def tw14640213206679310194:=0
def tw14559654446049478097:=0
def tw14326751698628285950:=0
def tw14301482294330733646:=0
def tw14090152868865073529:=0
def tw13463167617843854892:=0
def tw11061675373624313794:=0
def tw10969237978767158180:=0
def tw10211322279975511330:=0
def tw9913661041044608048:=0
def tw9742637285242757158:=0
def tw9728860824564037106:=0
def tw9585948898257158508:=0
def tw9540507057797854235:=0
def tw9494167064612315381:=0
def tw9464227650624726481:=0
def tw9437468932660890128:=0
def tw9409559975319080861:=0
def tw9344969563073006902:=0
def tw9232432751198118051:=0
def tw9072182835474498292:=0
def tw9068294786291464320:=0
def tw8893642491772193253:=0
def tw8892532678400348945:=0
def tw8697720545602153377:=0
def tw8631637448905648717:=0
def tw8587811296243863847:=0
def tw8585345002830225332:=0
def tw8573967699168999024:=0
def tw8547242736490273433:=0
def tw8532301498965613895:=0
def tw8493445550908974200:=0
def tw8467038453156984386:=0
def tw8420139100358944575:=0
def tw8370982884311936595:=0
def tw834936356341830944:=0
def tw8336012483364929010:=0
def tw8266236017022384570:=0
def tw8210434917819725293:=0
def tw8173463299096642289:=0
def tw8105567878153584899:=0
def tw8076357333272541151:=0
def tw8001227169652412008:=0
def tw79660517197795794:=0
def tw7908116802498143914:=0
def tw7674659382601763036:=0
def tw7544609848521119322:=0
def tw7458605420627650460:=0
def tw7449477115105662194:=0
def tw7443445502481171511:=0
def tw7394329908282210107:=0
def tw7389788514622185306:=0
def tw7369938244799477519:=0
def tw7318935655737405708:=0
def tw7316519816629928289:=0
def tw7266986731631941780:=0
def tw7262533967402318331:=0
def tw7227077062530273593:=0
def tw7208460949907190511:=0
def tw716192556232461829:=0
def tw7154921207912205506:=0
def tw6958815320614990785:=0
def tw6945481244130430744:=0
def tw6882860753445582162:=0
def tw6699658340988542162:=0
def tw6659095748233299375:=0
def tw6621885965689806748:=0
def tw6616361035992451939:=0
def tw6511222140708815450:=0
def tw646203938107258820:=0
def tw6398712550016616738:=0
def tw6326499779435811442:=0
def tw5956277715836202258:=0
def tw5889378218177653160:=0
def tw5838237059954549834:=0
def tw5733952179337304469:=0
def tw5635810717567431867:=0
def tw5586062266386759790:=0
def tw5431968467675410860:=0
def tw5351618359501346389:=0
def tw5181978164127064294:=0
def tw5167102229414719910:=0
def tw5158175228077492663:=0
def tw5126872389335522466:=0
def tw5125285579448625661:=0
def tw5091528188075107761:=0
def tw5070998699009478256:=0
def tw5033925546603041097:=0
def tw5020517333550676903:=0
def tw5020125374538282678:=0
def tw4988622707665006192:=0
def tw4982486865662147478:=0
def tw4955614306786953335:=0
def tw4919756239221131019:=0
def tw482224287695374142:=0
def tw4785592904822395226:=0
def tw47773608035583738:=0
def tw4746757438279643707:=0
def tw4719911480792675484:=0
def tw4683864762135773942:=0
def tw4653808895113888291:=0
def tw4600792379282265933:=0
def tw4597675916298012001:=0
def tw4541088426697129697:=0
def tw4508285311955569509:=0
def tw4453736984639940643:=0
def tw4452277375745425273:=0
def tw4410198641177318286:=0
def tw433498957429270630:=0
def tw4329055596530830826:=0
def tw4207311597842293652:=0
def tw4180188289124973975:=0
def tw4013017369517077657:=0
def tw3951204562988690589:=0
def tw3891366347318886589:=0
def tw3858659530992000139:=0
def tw3760984346650234435:=0
def tw369886121011262046:=0
def tw3653806542344273443:=0
def tw3643276962527609013:=0
def tw3561845315832825054:=0
def tw3553740502242859929:=0
def tw352763462886201614:=0
def tw3482699842012602943:=0
def tw348027946689357884:=0
def tw3478365603814374439:=0
def tw3453241929264048225:=0
def tw3411263631119147955:=0
def tw3410922191180167445:=0
def tw3397134599432866484:=0
def tw3396354063552517163:=0
def tw3387468855086699046:=0
def tw3363740776812652871:=0
def tw3259748457824467202:=0
def tw3184599225220733508:=0
def tw3105083770475940739:=0
def tw3100332080485159087:=0
def tw3046921396627528918:=0
def tw301715689084062882:=0
def tw2981713978783706746:=0
def tw2967891390063479522:=0
def tw2959795028222502402:=0
def tw2936297342286788267:=0
def tw2801478798473473612:=0
def tw2780874388768672720:=0
def tw2746388950266799498:=0
def tw2702568114993265584:=0
def tw2688441423392497386:=0
def tw2622652429239297345:=0
def tw2559287577140818429:=0
def tw2539011412460676016:=0
def tw2500346303385520094:=0
def tw2466486089366317698:=0
def tw2288133491041623877:=0
def tw2279249318635837136:=0
def tw2242121992602985956:=0
def tw2179725631702260286:=0
def tw2162849728702678892:=0
def tw2041050927758789212:=0
def tw194559311830895157:=0
def tw1894577624464247908:=0
def tw1888820592293945916:=0
def tw18428551763715199414:=0
def tw18311035656827252569:=0
def tw18286639834203383002:=0
def tw18229166318105428949:=0
def tw18182917933394360414:=0
def tw17964214303560930679:=0
def tw17939774032507690935:=0
def tw17869802396128245990:=0
def tw17692095990989900461:=0
def tw17662458763632046388:=0
def tw17631573948054214950:=0
def tw17625829222496658619:=0
def tw17574273373859074372:=0
def tw17514528214611374511:=0
def tw17395106789668785641:=0
def tw17326775060431737578:=0
def tw17324712074050809440:=0
def tw17264377537234040580:=0
def tw17221683643599866996:=0
def tw17144438913609094769:=0
def tw16969773316755289543:=0
def tw16866286207838153499:=0
def tw16759919004645072529:=0
def tw16715366162478789735:=0
def tw16709081176427173288:=0
def tw16622559091620748570:=0
def tw16597499993654255269:=0
def tw16577766940915009994:=0
def tw16547737708427381963:=0
def tw16400069258602966140:=0
def tw16334026781683158476:=0
def tw16266093632335273299:=0
def tw16190716921959233797:=0
def tw16156605087996108756:=0
def tw16142422003677268269:=0
def tw16097599567359516910:=0
def tw16085272828014447776:=0
def tw16056187534559878725:=0
def tw1604426482949694992:=0
def tw16017512176419993760:=0
def tw15999945932969372953:=0
def tw15995467233036333032:=0
def tw15941286334861736331:=0
def tw15927243656086262038:=0
def tw15892470276394319072:=0
def tw15793795627728441212:=0
def tw15775886432679388125:=0
def tw15740438016838324508:=0
def tw15611419597017340618:=0
def tw1548485518541744378:=0
def tw15428714703704958794:=0
def tw15347831901116203131:=0
def tw15337120867703974348:=0
def tw15297074133865719292:=0
def tw15137733956328197551:=0
def tw1513465863588835202:=0
def tw15116635539706219435:=0
def tw15062885293367480840:=0
def tw14958595372711267356:=0
def tw14947496420877040627:=0
def tw14915549437619066721:=0
def tw14900229747775771633:=0
def tw1476958410749018565:=0
def tw1476849306828662165:=0
def tw14747157929990326285:=0
def tw14729299602736914155:=0
def tw14701648778152565945:=0
def tw14662123090773627135:=0
def tw1461620193931942422:=0
def tw14546842243407134876:=0
def tw14533698433217874811:=0
def tw14504380069838455738:=0
def tw1446685807735093437:=0
def tw14216106119126415251:=0
def tw14214402853304624433:=0
def tw14042656122893755754:=0
def tw14034944930641182267:=0
def tw1402166465321111050:=0
def tw14010266752015476427:=0
def tw13957885735771321697:=0
def tw13773859575868355498:=0
def tw13727044618696637932:=0
def tw13722418820421930766:=0
def tw13719413467327981831:=0
def tw13516250001754578128:=0
def tw13450742182034342316:=0
def tw13448162958458748488:=0
def tw13440846611282403069:=0
def tw13350148691169926466:=0
def tw13329501680193351440:=0
def tw13264308790869907443:=0
def tw13254178913139222417:=0
def tw13238621847090875860:=0
def tw13117256988612793884:=0
def tw13116965316219435242:=0
def tw13104000662745398923:=0
def tw13092526404899845527:=0
def tw13021670477543298136:=0
def tw1300863206164967213:=0
def tw1300222217536824633:=0
def tw12998265440009382966:=0
def tw1296159333520301005:=0
def tw12885906906117099708:=0
def tw12837236138242562183:=0
def tw12679419533735482801:=0
def tw12521673751543143179:=0
def tw12504758094979029820:=0
def tw12426692853704135720:=0
def tw1236287799483345091:=0
def tw12331532922256420526:=0
def tw1231084127844564965:=0
def tw12252713874069944948:=0
def tw12218377161287149973:=0
def tw12183680745510728143:=0
def tw12179238150124607774:=0
def tw12060884864092367762:=0
def tw12027107968206489511:=0
def tw12008002420193547652:=0
def tw12001894117525339087:=0
def tw11954211838788365779:=0
def tw11922129056196676605:=0
def tw11896883691359937084:=0
def tw1189177560297067348:=0
def tw11851451420738547021:=0
def tw11844435669462768858:=0
def tw1179865398671776231:=0
def tw11787892930615476375:=0
def tw11756593580833258246:=0
def tw11634786309655463014:=0
def tw11583735523994193019:=0
def tw11551463951018123639:=0
def tw11460775328231917555:=0
def tw114595597540152498:=0
def tw11372839113616034536:=0
def tw11358128540580817219:=0
def tw11170792131789448007:=0
def tw110715033935280068:=0
def tw10971235670082856445:=0
def tw10970059567126407907:=0
def tw10951390367363030475:=0
def tw1073319467545631565:=0
def tw10644442707452120589:=0
def tw10604017289252277664:=0
def tw1057374925067155452:=0
def tw10572654979369591892:=0
def tw10542628951531386409:=0
def tw10483020636946220164:=0
def tw10476346981736371833:=0
def tw10450337892439858012:=0
def tw10406763111829327991:=0
def tw10350082109308698378:=0
def tw10348101438541651509:=0
def tw10283696256930339476:=0
def tw10224165285055086680:=0
def tw10080363285959085672:=0
def tw10061476771196067909:=0
def tw10038632146228792606:=0
def tw12915556438613697914:=0
end PySem.W.Fast
open PySem PySem.W PyProof.Rows
set_option maxRecDepth 100000 in
set_option maxHeartbeats 0 in
theorem PySem.Challenge.cw_oncedoor_k63_written_forced_told_holds : PySem.Challenge.rw_oncedoor_k63_written_forced_told.Holds := by
 w_on;o_law;k_head;(case hw=>w_witness2)
 k_fill
 refine KL.aAU (l:=PySem.Challenge.rw_oncedoor_k63_written_forced_told) rfl rfl (λw h Y=>W.kIn_of Y) ?F
 case F=>
  intro w mg fa h KX G IZ;refine' KL.Wl KX G IZ ?jo ?qp ?V1 ?M6 ?jq ?Q1 ?V2 ?jr ?B6 ?vq ?F2 ?M7 ?V3 ?vt ?M8 ?M9 ?N1 ?N2 ?ju ?N3 ?V4 ?V5 ?N4 ?N5 ?Q2 ?V6 ?N6 ?F3 ?Q3 ?V7 ?B7 ?N7 ?u0 ?u3 ?Q4 ?u4 ?GA ?GB ?GC ?GD ?vv ?vw ?vx ?vy ?vz ?wa ?wb ?Q5 ?m5 ?i8 ?y7 ?y8 ?y9 ?z6 ?O8 ?Q6 ?N8 ?F4 ?V8 ?B8 ?wc ?we ?wg ?wj ?wk ?wo ?wq ?B9 ?z7 ?z8 ?z9 ?A0 ?O9 ?F5 ?Q7 ?F6 ?pq ?wu ?V9 ?W0 ?W2 ?W3 ?W4 ?W5 ?W6 ?m6 ?i3 ?j3 ?j4 ?j5 ?j6 ?C0 ?A1 ?A2 ?C1 ?C2 ?N9 ?W7 ?BF ?BG ?BH ?BI ?BJ ?BK ?BL ?O0 ?Q8 ?ku ?W8 ?Q9 ?R0 ?R1 ?C3 ?C4 ?C5 ?C6 ?R3 ?C7 ?i9 ?kz ?lb ?lg ?lj ?lp ?lx ?ly ?F7 ?F8 ?m7 ?F9 ?i5 ?m9 ?n6 ?n8 ?n9 ?E4 ?O1 ?C9 ?G0 ?O2 ?wx ?wy ?xa ?xb ?xc ?xf ?xg ?R4 ?R5 ?J0 ?D0 ?J1 ?A3 ?A4 ?A5 ?A6 ?P1 ?R6 ?R7 ?R8 ?R9 ?i0 ?S0 ?B2 ?O3 ?j7 ?p7 ?O4 ?S2 ?u5 ?O5 ?A7 ?O6 ?qq ?qr ?qt ?qu ?qv ?qx ?qy ?A8 ?i6 ?A9 ?u6 ?u7 ?u9 ?v8 ?K5 ?rb ?rg ?GI ?O7 ?GJ ?BN ?GK ?GL ?GN ?xt ?BO ?rh ?GO ?BP ?S3 ?GP ?xu ?GQ ?mv ?mw ?D7 ?J2 ?BQ ?j0 ?J4 ?J5 ?J6 ?J7 ?E1 ?E2 ?p9 ?BS ?BU ?xw
  case jo|qp|V1|M6|jq|Q1|V2|jr|B6|vq|F2|M7|V3|vt|M8|M9|N1|N2|ju|N3|V4|V5|N4|N5|Q2|V6|N6|F3|Q3|V7|B7|N7|u0|u3|Q4|u4=>refine' KL.FA.of ?a ?l ?c ?k;(case a=>k_is);(case l=>k_is);(case c=>k_is);case k=>k_is
  case GA|GB|GC|GD|vv|vw|vx|vy|vz|wa|wb|Q5|m5|i8|y7|y8|y9|z6|O8=>k_is
  case Q6|N8|F4|V8|B8=>refine' KL.MA.of ?a ?i ?l ?c ?k;(case a=>k_is);(case i=>k_is);(case l=>k_is);(case c=>k_is);case k=>k_is
  case wc|we|wg|wj|wk|wo|wq|B9|z7|z8|z9|A0|O9=>k_is
  case F5|Q7|F6=>refine' KL.MA.of ?a ?i ?l ?c ?k;(case a=>k_is);(case i=>k_is);(case l=>k_is);(case c=>k_is);case k=>k_is
  case pq=>k_is
  case wu=>exact rfl
  case V9|W0|W2|W3|W4|W5|W6|m6|i3|j3|j4|j5|j6|C0=>k_is
  case A1|A2|C1|C2=>refine' KL.MA.of ?a ?i ?l ?c ?k;(case a=>k_is);(case i=>k_is);(case l=>k_is);(case c=>k_is);case k=>k_is
  case N9=>k_is
  case W7=>exact rfl
  case BF|BG|BH|BI|BJ|BK|BL|O0|Q8|ku|W8|Q9|R0|R1|C3|C4|C5|C6|R3=>k_is
  case C7|i9=>refine' KL.MA.of ?a ?i ?l ?c ?k;(case a=>k_is);(case i=>k_is);(case l=>k_is);(case c=>k_is);case k=>k_is
  case kz|lb|lg|lj|lp|lx|ly|F7|F8|m7|F9|i5|m9|n6|n8|n9|E4=>k_is
  case O1|C9|G0|O2=>refine' KL.MA.of ?a ?i ?l ?c ?k;(case a=>k_is);(case i=>k_is);(case l=>k_is);(case c=>k_is);case k=>k_is
  case wx|wy|xa|xb|xc|xf|xg|R4|R5|J0|D0|J1|A3|A4|A5|A6|P1=>k_is
  case R6=>refine' KL.MA.of ?a ?i ?l ?c ?k;(case a=>k_is);(case i=>k_is);(case l=>k_is);(case c=>k_is);case k=>k_is
  case R7|R8|R9|i0|S0|B2=>k_is
  case O3=>exact rfl
  case j7|p7|O4|S2|u5|O5|A7|O6=>refine' KL.MA.of ?a ?i ?l ?c ?k;(case a=>k_is);(case i=>k_is);(case l=>k_is);(case c=>k_is);case k=>k_is
  case qq|qr|qt|qu|qv|qx|qy|A8|i6|A9|u6|u7|u9|v8|K5|rb=>k_is
  case rg=>exact rfl
  case GI|O7|GJ|BN|GK|GL|GN|xt|BO|rh|GO|BP|S3|GP|xu|GQ|mv|mw|D7|J2|BQ|j0|J4|J5=>k_is
  case J6=>repeat (first | exact True.intro | refine And.intro ⟨_,rfl⟩ (And.intro rfl (And.intro ⟨_,rfl⟩ ?_)))
  case J7=>decide
  case E1|E2=>k_is
  case p9=>repeat (first | exact .nil | refine .cons ⟨_,rfl⟩ ?_)
  case BS|BU=>k_is
  case xw=>repeat (first | exact .nil | refine .cons ⟨_,rfl⟩ ?_)
