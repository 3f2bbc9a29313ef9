import PyProof.Rows.All
import Wide.All
import OpenK.AllK
import Wide.FinOn
import Lean
import PyProof.EqAt
import PyProof.EqKinds
import PyProof.TupleCall
import KE.KSortTup
import KE.KDictSum
import KE.KDictOf
import PyProof.AttrMissHeap
import OpenK.KRaise
import KE.KIsAll
import KE.KEqDict
import KE.KTryMore
import KE.RegKIsAll
import KE.RegKTryMore
import PyProof.NsDelKeeps
import PyProof.ExcArgs
import PyProof.FitsReplace
import PyProof.Rows.StrJoin2
import PySem.Challenge.RW_oncedoor_k73_houses_unlike
set_option Elab.async false
set_option linter.all false
set_option maxRecDepth 100000
set_option maxHeartbeats 4000000
abbrev Z9:=List (PySem.Addr×PySem.Obj)
abbrev Z8:=PySem.Value->PySem.Shared->Prop
abbrev Z7:=PySem.Str->Option PySem.Value
def ZZ:=@PySem.wpAny_bind
def ZY:=@PySem.wpAny_pure
def ZX:=@Bool.false_ne_true
def ZW:=@of_decide_eq_true
def ZV:=@of_decide_eq_false
def ZU:=@decide_eq_true
def ZT:=@decide_eq_false
def ZS:=@PySem.Heap.get?_push_size
abbrev ZR:=PySem.Addr
abbrev ZQ:=PySem.Value
abbrev ZP:=PySem.Shared
def ZO:=@if_pos
def ZN:=@if_neg
def ZM:=@absurd
def ZL:=@Nat.le_of_ble_eq_true
def ZK:=@List.mem_append_left
def ZJ:=@List.mem_append_right
def ZI:=@Nat.lt_of_lt_of_le
def ZH:=@List.not_mem_nil
def ZG:=@List.filterMap_append
def ZF:=@List.filterMap_cons
def ZE:=@List.flatMap_cons
abbrev ZD:List PySem.Str:=["thing"]
abbrev ZC:List PySem.Str:=["_law_deck_here","_law_many"]
abbrev ZB:List PySem.Str:=["self","name"]
abbrev ZA:List PySem.Str:=["self"]
abbrev Zn:List PySem.Str:=["deed"]
abbrev X0:List PySem.Str:=["_law_script"]
abbrev XV:List PySem.Str:=["self","deed"]
abbrev W9:List PySem.Str:=["thing","signs","longest"]
abbrev W8:List PySem.Str:=["word","names"]
abbrev W7:List PySem.Str:=["self","key","deed"]
abbrev W6:List PySem.Str:=["_law_deck_here","_law_menus_here"]
abbrev W5:List PySem.Str:=["_law_deed_here"]
abbrev W4:List PySem.Str:=["_law_called","_law_house"]
abbrev W3:List PySem.Str:=["thing","least","most"]
abbrev W1:List PySem.Str:=["name","number","place"]
abbrev WP:List PySem.Str:=["self","rows","closed"]
abbrev WF:List PySem.Str:=["_law_deck_here","_law_signs","_law_longest","_law_many"]
abbrev U6:List PySem.Str:=["_law_deck_here","_law_names","_law_houses"]
abbrev U5:List PySem.Str:=["_law_deed_here","_law_asked"]
abbrev QZZ:List PySem.Str:=["_law_deck_here","_law_deed_here","_law_word_here"]
abbrev QZY:List PySem.Str:=["_law_deck_here","_law_rows","_law_menus_here","_law_many","_law_shut","_law_under","_law_number","_law_turn","_law_k","_law_way","_law_deed_here","_law_one","_law_words_here","_law_answer_here"]
abbrev QZX:List PySem.Str:=["_law_state","_law_word_here","_law_name","_law_amount"]
abbrev QZW:List PySem.Str:=["rows","word"]
abbrev QZV:List PySem.Str:=["name","rows","houses"]
abbrev QZU:List PySem.Str:=["asks","place","is_asked","done"]
abbrev QZT:List PySem.Str:=["self","key"]
abbrev QZS:List PySem.Str:=["_law_deck_here","_law_signs","_law_longest","_law_many","_law_word_here","_law_size","_law_at","_law_first","_law_ends"]
abbrev QZR:List PySem.Str:=["_law_deck_here"]
abbrev QZQ:List PySem.Str:=["_law_deck_here","_law_rows","_law_menus_here","_law_many"]
abbrev QZP:List PySem.Str:=["_law_deed_here","_law_place","_law_answers"]
abbrev QZO:List PySem.Str:=["_law_state","_law_deed_here","_law_yes"]
abbrev QZN:List PySem.Str:=["_law_state","_law_key","_law_deed_here","_law_word_here"]
abbrev QZM:List PySem.Str:=["_law_deck_here","_law_want_here"]
abbrev QZL:List PySem.Str:=["_law_deck_here","_law_name","_law_wants_here","_law_states","_law_names"]
abbrev QZK:List PySem.Str:=["_law_name","_law_wants_here","_law_states"]
abbrev QZJ:List PySem.Str:=["_law_name","_law_rows","_law_houses"]
abbrev QZI:List PySem.Str:=["self","rows","closed","name"]
abbrev QZH:List PySem.Str:=["_law_name","_law_rows","_law_houses","_law_kept","_law_found","_law_number"]
abbrev QZG:List PySem.Str:=["_law_script","_law_deck_here","_law_menus_here","_law_name","_law_turn","_law_rows","_law_states","_law_wants_here","_law_houses","_law_house","_law_there","_law_due_here"]
abbrev QZF:List PySem.Str:=["_law_house","_law_there"]
abbrev QZE:List PySem.Str:=["asks","place","is_asked","done","answer","refused"]
abbrev QZD:List PySem.Str:=["_law_deed_here","_law_asked","_law_words_here","_law_some"]
abbrev QZC:List PySem.Str:=["_law_deed_here","_law_place","_law_answers","_law_answer_here","_law_refused"]
abbrev QZB:List PySem.Str:=["_law_rows","_law_found","_law_row","_law_answers","_law_places_here","_law_place","_law_want_here"]
abbrev QZA:List PySem.Str:=["_law_k","_law_deck_here","_law_signs"]
abbrev QZz:List PySem.Str:=["_law_k","_law_signs","_law_first","_law_ends"]
open List (mem_filter mem_range filterMap_cons mem_cons mem_append_left getElem?_set_self getElem?_set_ne mem_filterMap mem_append_right map_cons append_nil nodup_cons of_mem_zip replicate length getElem?_append_left length_drop map_nil length_set all_cons any_cons find?_cons length_nil filter_cons length_filter_le nodup_nil lookup_cons drop_zero all_eq_true getElem_mem map_map toArray mem_of_mem_take pairwise_cons le_trans getD_eq_getElem?_getD getElem_toArray map_congr_left all_eq_false eraseIdx_cons_succ pairwise_iff_getElem getElem_of_mem not_mem_nil all_map getElem_map getElem_set map_set mem_map_of_mem take_length filter_append filterMap_append append_assoc flatMap_append flatMap_cons flatMap_nil countP_cons getElem?_of_mem getElem?_zip_eq_some mem_flatMap getElem?_inj)
open Nat (lt_of_lt_of_le lt_irrefl ne_of_lt le_of_lt ne_of_gt le_of_eq lt_succ_self zero_le le_succ lt_trans le_of_ble_eq_true toDigits mod_lt not_lt_zero le_succ_of_le lt_trichotomy zero_add lt_or_ge)
def Zk{p:Prop}(h:p:=by decide +kernel):p:=h
def Zo{p:Prop}(h:p:=by omega):p:=h
def Zs{p:Prop}(h:p:=by simp):p:=h
def Zd{p:Prop}(h:p:=by decide):p:=h
def bF:=@List.length_map
def iE:=@PySem.Heap.get?_push_of_some
def Zgs:=@List.getElem?_eq_some_iff
def cD:=@List.getElem?_eq_getElem
def nD:=@List.mem_cons_of_mem
def Zmm:=@List.mem_map
def gO:=@List.map_append
def kJ:=@List.length_append
def fB:=@List.getElem?_map
def hZ:=@Nat.le_trans
def fP:=@List.mem_cons_self
def cZ:=@List.size_toArray
def vK:=@List.length_take
def nT:=@List.take_of_length_le
def Zma:=@List.mem_append
def Zms:=@List.mem_singleton
def vG:=@List.length_cons
def jQ:=@Nat.lt_of_le_of_lt
def bQ:=@Nat.le_refl
def dB:=@List.mem_of_getElem?
namespace L2
open PySem PySem.Spec PyProof.Rows
abbrev aX:=Sum Int Str
def iA:aX->ZQ->Bool
 | .inl k,v=>Value.isInt k v
 | .inr x,v=>Value.isStrOf x v
def Ud(w:World):aX->Int
 | .inl k=>hashInt k
 | .inr x=>hashStr w x
def bC:∀ {k:aX}{v:ZQ},iA k v=true->(∃i t,k=Sum.inl i/\v=Value.int i t)∨(∃x t,k=Sum.inr x/\v=Value.str x t)
 | .inl i,v,h=>by
  obtain⟨t,e⟩:=Value.isInt_shape (k:=i) (v:=v) h;exact .inl ⟨i,t,rfl,e⟩
 | .inr x,v,h=>by
  obtain⟨t,e⟩:=Value.isStrOf_shape (x:=x) (v:=v) h;exact .inr ⟨x,t,rfl,e⟩
def zR(i:Int)(t:Tok):iA (.inl i) (.int i t)=true:=by simp[iA,Value.isInt]
def zS(x:Str)(t:Tok):iA (.inr x) (.str x t)=true:=by simp[iA,Value.isStrOf]
def Oj(a b:Int):decide ((Sum.inl a:aX)=Sum.inl b)=(a==b):=by
 by_cases e:a=b
 ·subst e;simp
 ·have h:¬ (Sum.inl a:aX)=Sum.inl b:=λq=>e (Sum.inl.inj q)
  rw[ZT h];exact(beq_eq_false_iff_ne.mpr e).symm
def Ol(a b:Str):decide ((Sum.inr a:aX)=Sum.inr b)=decide (a=b):=by
 by_cases e:a=b
 ·subst e;simp
 ·have h:¬ (Sum.inr a:aX)=Sum.inr b:=λq=>e (Sum.inr.inj q)
  rw[ZT h,ZT e]
def Om(a:Int)(b:Str):decide ((Sum.inl a:aX)=Sum.inr b)=false:=ZT (λq=>nomatch q)
def On(a:Str)(b:Int):decide ((Sum.inr a:aX)=Sum.inl b)=false:=ZT (λq=>nomatch q)
def aM(prog:Program)(w:World):PySem.KeyKind prog w aX where
 is:=iA
 hash:=Ud w
 inj:=λv a b g f=>by
  rcases bC g with⟨i,t,rfl,rfl⟩|⟨x,t,rfl,rfl⟩
  ·rcases bC f with⟨j,u,rfl,e⟩|⟨y,u,rfl,e⟩
   ·injection e with c _;rw[c]
   ·exact nomatch e
  ·rcases bC f with⟨j,u,rfl,e⟩|⟨y,u,rfl,e⟩
   ·exact nomatch e
   ·injection e with c _;rw[c]
 byValue:=λk v h=>by
  rcases bC h with⟨i,t,rfl,rfl⟩|⟨x,t,rfl,rfl⟩<;>rfl
 pyHash:=λd h=>by
  rcases bC d with⟨i,t,rfl,rfl⟩|⟨x,t,rfl,rfl⟩
  ·exact wpAny_pyHash_int h
  ·exact wpAny_pyHash_str h
 eqBool:=λl d h=>by
  rcases bC l with⟨i,t,rfl,rfl⟩|⟨x,t,rfl,rfl⟩
  ·rcases bC d with⟨j,u,rfl,rfl⟩|⟨y,u,rfl,rfl⟩
   ·rw[Oj]at h;exact wpAny_eqBool_int h
   ·rw[Om]at h;exact SeqAt.EqAt.int_str i t y u _ _ _ _ h
  ·rcases bC d with⟨j,u,rfl,rfl⟩|⟨y,u,rfl,rfl⟩
   ·rw[On]at h;exact SeqAt.EqAt.str_int x t j u _ _ _ _ h
   ·rw[Ol]at h;exact wpAny_eqBool_str h
 «strs»:=λk x t v h=>by
  rcases bC h with⟨i,u,rfl,e⟩|⟨y,u,rfl,e⟩
  ·exact nomatch e
  ·injection e with c _
   subst c;cases v<;>rfl
def tK(prog:Program)(w:World)(i:Int)(t:Tok):(aM prog w).is (.inl i) (.int i t)=true:=zR i t
def tL(prog:Program)(w:World)(x:Str)(t:Tok):(aM prog w).is (.inr x) (.str x t)=true:=zS x t
inductive V where
 | non|bl (b:Bool)|int (i:Int)|str (x:Str)|byt (b:Array UInt8)|flt (b:UInt64)|ref (a:ZR)|ty (n:String)
 deriving DecidableEq
def RelV:V->ZQ->Prop
 | .non,u=>u=Value.none
 | .bl b,u=>u=Value.bool b
 | .int i,u=>∃t,u=Value.int i t
 | .str x,u=>∃t,u=Value.str x t
 | .byt b,u=>∃t,u=Value.bytes b t
 | .flt b,u=>∃t,u=Value.float b t
 | .ref a,u=>u=Value.ref a
 | .ty n,u=>u=Value.type n
abbrev Vals:List V->List ZQ->Prop:=Paired RelV
def Vals.length{xs:List V}{us:List ZQ}(r:Vals xs us):xs.length=us.length:=Paired.length r
theorem Vals.get:∀ {xs:List V}{us:List ZQ}{i:Nat}{x:V},Vals xs us->xs[i]?=some x->∃u,us[i]?=some u/\RelV x u
 | _,_,_,_,.nil,e=>by simp at e
 | _,_,0,_,.cons r _,e=>by simp at e;subst e;exact⟨_,rfl,r⟩
 | _,_,i+1,x,.cons _ t,e=>by
  obtain⟨u,a,b⟩:=Vals.get (i:=i) (x:=x) t (by simpa using e);exact⟨u,by simpa using a,b⟩
def Vals.set{x:V}{u:ZQ}(r:RelV x u):∀ {xs:List V}{us:List ZQ} (i:Nat),Vals xs us->Vals (xs.set i x) (us.set i u)
 | _,_,_,.nil=>.nil
 | _,_,0,.cons _ t=>.cons r t
 | _,_,i+1,.cons q t=>.cons q (Vals.set r i t)
def Vals.append:∀ {xs ys:List V}{us ws:List ZQ},Vals xs us->Vals ys ws->Vals (xs++ys) (us++ws)
 | _,_,_,_,.nil,s=>s
 | _,_,_,_,.cons r t,s=>.cons r (Vals.append t s)
def Vals.take:∀ {xs:List V}{us:List ZQ} (n:Nat),Vals xs us->Vals (xs.take n) (us.take n)
 | _,_,0,_=>.nil
 | _,_,_+1,.nil=>.nil
 | _,_,n+1,.cons r t=>.cons r (Vals.take n t)
def Vals.drop:∀ {xs:List V}{us:List ZQ} (n:Nat),Vals xs us->Vals (xs.drop n) (us.drop n)
 | _,_,0,r=>r
 | _,_,_+1,.nil=>.nil
 | _,_,n+1,.cons _ t=>Vals.drop n t
def RelO:Option V->Option ZQ->Prop
 | some v,some u=>RelV v u
 | none,none=>True
 | _,_=>False
def KV{a:Type}:List (a×V)->List (a×ZQ)->Prop:=Paired λ(p:a×V) (q:a×ZQ)=>p.1=q.1/\RelV p.2 q.2
def kV:aX->V
 | .inl i=>.int i
 | .inr x=>.str x
inductive HO where
 /-- a list -/
 | lst (xs:List V)
 /-- a tuple (never changes) -/
 | tup (xs:List V)
 /-- a dict whose keys are ints and texts;one whose keys are tuples of ints and texts (the empty one is both) -/
 | dK (kvs:List (aX×V))|dT (kvs:List (List aX×V))
 /-- a set of ints: its members,its size -/
 | set (S:Int->Bool) (n:Nat)
 /-- an instance of the class at C,its dict at dx,its attributes -/
 | ins (C dx:ZR) (fs:List (Str×V))
 /-- the dict of the instance at x -/
 | own (x:ZR)
 /-- the dict of an exception -/
 | xd (fs:List (Str×V))
 /-- a bound method,f of x -/
 | met (f x:ZR)
 /-- a range object lo,lo+1,.. below hi -/
 | rng (lo hi:Int)
 /-- a thing that is known to the object (the script;a dict while a loop walks it): read,never written while it is so -/
 | frz (o:Obj) (u:HO)
 /-- a code object's table -/
 | tbl (ps:Array Value)
 /-- any other thing,by what is true of its one object (a def of one's own: SetO a S n:=HO.ext λh=>..) -/
 | ext (φ:Heap->Prop)
abbrev Hp:=Addr->Option HO
def aK(H:Hp)(a:ZR)(o:HO):Hp:=λb=>if b=a then some o else H b
def aA{H:Hp}{a:ZR}{o:HO}:aK H a o a=some o:=by unfold aK;rw[ZO rfl]
def aF{H:Hp}{a b:ZR}{o:HO}(h:b≠a):aK H a o b=H b:=by unfold aK;rw[ZN h]
def bK{H:Hp}{a b:ZR}{o u:HO}(h:H a=some o)(h':H b=some u)(d:o≠u):a≠b:=by
 intro e;subst e;rw[h]at h';exact d (Option.some.inj h')
def aD{H:Hp}{a b:ZR}{o:HO}(h:H a=some o)(h':H b=none):a≠b:=by
 intro e;subst e;rw[h]at h';cases h'
section
variable (P:Program) (w:World)
def ObjOk(H:Hp)(h:Heap)(a:ZR):HO->Prop
 | .lst b=>b.length<=sizeLine/\∃(d:List ZQ)(n:Nat),Vals b d/\h.get? a=some {cls:=.type "list",data:=.seq d.toArray n }
 | .tup b=>b.length<=sizeLine/\∃d:List ZQ,Vals b d/\IsTup h a d.toArray
 | .dK e=>e.length<=sizeLine/\(a==sysModules)=false/\∃vs,KV e vs/\h.DictOf (aM P w) a vs
 | .dT e=>e.length<=sizeLine/\(a==sysModules)=false/\∃b:List (List aX×ZR×ZQ),
   Paired (λ(p:List aX×V) (q:List aX×ZR×ZQ)=>p.1=q.1/\H q.2.1=some (.tup (p.1.map kV))/\RelV p.2 q.2.2) e b ∧
   ∃o j m,h.get? a=some o/\o.ExactDict/\o.data=.dict j m/\j.toList=b.map (entryOfKey (tupleKind (aM P w)))/\(b.map (·.1)).Nodup
 | .set S n=>h.SetOf (intKind P w) a S n
 | .ins C g fs=>H g=some (.own a)/\fs.length<=1000/\g≠a/\h.get? a=some (W.instObj C g) ∧
   ∃c,h.Ns1 g c/\(∀f,RelO (fs.lookup f) (c f))/\PySem.Within c (fs.map (·.1))
 | .own _=>∃o,h.get? a=some o
 | .xd fs=>∃c,h.Ns1 a c/\∀f,RelO (fs.lookup f) (c f)
 | .rng lo r=>∃t u v,h.get? a=some {cls:=.type "range",data:=.fields #[.int lo t,.int r u,.int 1 v] }
 | .frz o u=>h.get? a=some o/\ObjOk H h a u
 | .tbl ps=>h.get? a=some {cls:=.none,data:=.fields ps }
 | .met f x=>h.get? a=some (W.methodObj (.ref f) (.ref x))
 | .ext i=>i h/\(∃o,h.get? a=some o)/\∀k l:Heap,i k->(∀o,k.get? a=some o->l.get? a=some o)->i l
def HOk(H:Hp)(h:Heap):Prop:=∀a o,H a=some o->ObjOk P w H h a o
end
section
variable {P:Program}{w:World}{H H':Hp}{h h':Heap}{a:ZR}{o:HO}
def ObjOk.lt(x:ObjOk P w H h a o):a<h.objs.size:=by
 cases o with
 | lst c=>obtain⟨_,_,_,_,e⟩:=x;exact Heap.lt_size e
 | tup c=>obtain⟨_,_,_,p⟩:=x;exact p.lt
 | dK b=>obtain⟨_,_,_,_,o,_,_,e,_⟩:=x;exact Heap.lt_size e
 | dT b=>obtain⟨_,_,_,_,o,_,_,e,_⟩:=x;exact Heap.lt_size e
 | set S n=>obtain⟨o,_,_,_,e,_⟩:=x;exact Heap.lt_size e
 | ins C d fs=>obtain⟨_,_,_,e,_⟩:=x;exact Heap.lt_size e
 | own y=>obtain⟨_,e⟩:=x;exact Heap.lt_size e
 | xd fs=>obtain⟨_,⟨_,_,_,e,_⟩,_⟩:=x;exact Heap.lt_size e
 | rng lo g=>obtain⟨_,_,_,e⟩:=x;exact Heap.lt_size e
 | frz i u=>obtain⟨e,_⟩:=x;exact Heap.lt_size e
 | tbl ps=>exact Heap.lt_size (show h.get? a=some _ from x)
 | met f y=>exact Heap.lt_size (show h.get? a=some _ from x)
 | ext j=>obtain⟨_,⟨_,e⟩,_⟩:=x;exact Heap.lt_size e
def Paired.mapP{e g:Type}{F G:e->g->Prop}:∀ {c:List e}{d:List g},Paired F c d->(∀a b,F a b->G a b)->Paired G c d
 | _,_,.nil,_=>.nil
 | _,_,.cons r t,f=>.cons (f _ _ r) (Paired.mapP t f)
def ObjOk.stay(x:ObjOk P w H h a o)(k:∀b u,(b=a∨H b=some (.own a))->h.get? b=some u->h'.get? b=some u)(B:∀b,H b=some (.own a)->H' b=some (.own a))(D:∀b xs,H b=some (.tup xs)->H' b=some (.tup xs)):ObjOk P w H' h' a o:=by
 induction o with
 | lst xs=>obtain⟨z,l,n,r,e⟩:=x;exact⟨z,l,n,r,k _ _ (.inl rfl) e⟩
 | tup xs=>obtain⟨z,l,r,g,e,c⟩:=x;exact⟨z,l,r,g,k _ _ (.inl rfl) e,c⟩
 | dK A=>obtain⟨z,y,vs,r,g,i,j,e,c⟩:=x;exact⟨z,y,vs,r,g,i,j,k _ _ (.inl rfl) e,c⟩
 | dT A=>
  obtain⟨z,y,xs,r,g,i,j,e,c⟩:=x;exact⟨z,y,xs,Paired.mapP r λp q z=>⟨z.1,D _ _ z.2.1,z.2.2⟩,g,i,j,k _ _ (.inl rfl) e,c⟩
 | set S n=>obtain⟨g,i,j,t,e,c⟩:=x;exact⟨g,i,j,t,k _ _ (.inl rfl) e,c⟩
 | ins C G fs=>
  obtain⟨d,z,ne,e,m,⟨s,i,j,E,c⟩,r⟩:=x;exact⟨B _ d,z,ne,k _ _ (.inl rfl) e,m,⟨s,i,j,k _ _ (.inr d) E,c⟩,r⟩
 | own y=>obtain⟨g,e⟩:=x;exact⟨g,k _ _ (.inl rfl) e⟩
 | xd fs=>obtain⟨m,⟨s,i,j,e,c⟩,r⟩:=x;exact⟨m,⟨s,i,j,k _ _ (.inl rfl) e,c⟩,r⟩
 | rng lo I=>obtain⟨t,u,v,e⟩:=x;exact⟨t,u,v,k _ _ (.inl rfl) e⟩
 | frz g u F=>obtain⟨e,q⟩:=x;exact⟨k _ _ (.inl rfl) e,F q⟩
 | tbl ps=>
  have e:h.get? a=some {cls:=.none,data:=.fields ps }:=x;show h'.get? a=some {cls:=.none,data:=.fields ps };exact k a _ (.inl rfl) e
 | met f y=>
  have e:h.get? a=some (W.methodObj (.ref f) (.ref y)):=x;show h'.get? a=some (W.methodObj (.ref f) (.ref y));exact k a _ (.inl rfl) e
 | ext J=>obtain⟨p,⟨o,e⟩,st⟩:=x;exact⟨st _ _ p λo q=>k _ _ (.inl rfl) q,⟨o,k _ _ (.inl rfl) e⟩,st⟩
def HOk.lt(x:HOk P w H h)(e:H a=some o):a<h.objs.size:=(x a o e).lt
def HOk.fresh(x:HOk P w H h)(e:h.objs.size<=a):H a=none:=by
 cases q:H a with
 | none=>rfl
 | some u=>exact ZM (ZI (x.lt q) e) (lt_irrefl _)
def HOk.kept(x:HOk P w H h)(k:∀b u,h.get? b=some u->h'.get? b=some u):HOk P w H h':=λa o e=>
 (x a o e).stay (λb u _ q=>k b u q) (λ_ q=>q) λ_ _ q=>q
def HOk.laid(x:HOk P w H h)(k:∀b u,h.get? b=some u->h'.get? b=some u)(g:h.objs.size<=a)(new:ObjOk P w (aK H a o) h' a o):HOk P w (aK H a o) h':=λb u e=>by
 have d:=x.fresh g;by_cases f:b=a
 ·subst f;rw[aA]at e;cases e;exact new
 ·rw[aF f]at e;exact(x b u e).stay (λc v _ q=>k c v q) (λc q=>by rw[aF (aD q d)];exact q) λc i q=>by rw[aF (aD q d)];exact q
end
def Rd(H:Hp)(a:ZR)(u:HO):Prop:=H a=some u∨∃o,H a=some (.frz o u)
def Rd.of{H:Hp}{a:ZR}{u:HO}(h:H a=some u):Rd H a u:=.inl h
def Rd.ok{P:Program}{w:World}{H:Hp}{h:Heap}{a:ZR}{u:HO}(r:Rd H a u)(x:HOk P w H h):ObjOk P w H h a u:=by
 rcases r with r|⟨o,r⟩
 ·exact x a u r
 ·obtain⟨_,q⟩:=x a _ r;exact q
def Ue:Option HO->Prop
 | some (.lst _)=>True
 | some (.dK _)=>True
 | some (.dT _)=>True
 | some (.set _ _)=>True
 | some (.ins _ _ _)=>True
 | some (.ext _)=>True
 | _=>False
section
variable {P:Program}{w:World}{H:Hp}{h h':Heap}{x e:ZR}{o':HO}
def HOk.write(ok:HOk P w H h)(a:Ue (H x))(i:e=x∨H e=some (.own x))(k:∀b u,b≠e->h.get? b=some u->h'.get? b=some u)(m:∃u,h'.get? e=some u)(new:ObjOk P w (aK H x o') h' x o'):HOk P w (aK H x o') h':=λb u q=>by
 have j:∀c y,H c=some (.own y)->c≠x:=λc y r z=>by subst z;rw[r]at a;exact a
 have n:∀c d,H c=some (.tup d)->c≠x:=λc d r z=>by subst z;rw[r]at a;exact a
 by_cases f:b=x
 ·subst f;rw[aA]at q;cases q;exact new
 ·rw[aF f]at q;by_cases g:b=e
  ·have l:H b=some (.own x):=by
    rcases i with z|z
    ·exact ZM (g.trans z) f
    ·rw[g];exact z
   rw[q]at l;cases l;obtain⟨v,o⟩:=m;exact⟨v,by rw[g];exact o⟩
  ·refine(ok b u q).stay (λc v hc r=>k c v ?_ r) (λc r=>by rw[aF (j c b r)];exact r) λc d r=>by rw[aF (n c d r)];exact r
   rcases hc with rfl|hc
   ·exact g
   ·rintro rfl;rcases i with z|z
    ·exact j c b hc z
    ·rw[hc]at z;cases z;exact f rfl
end
structure Un(fs ex:List ZR)(H H':Hp)(h h':Heap):Prop where
 keep:∀b o,h.get? b=some o->H b=none->b∉fs->b∉ex->h'.get? b=some o
 slot:∀b o,h.get? b=some o->H b=none->b∈fs->b∉ex->∃sl,h'.get? b=some {o with slots:=sl }
 free:∀b o,h.get? b=some o->H b=none->b∉ex->H' b=none
 there:∀b o,h.get? b=some o->b∉ex->∃o',h'.get? b=some o'
 tups:∀b xs,H b=some (.tup xs)->H' b=some (.tup xs)
 frzs:∀b o u,H b=some (.frz o u)->H' b=some (.frz o u)
 tbls:∀b ps,H b=some (.tbl ps)->∃more,H' b=some (.tbl (ps++more))
section
variable {fs GC ex WY:List ZR}{H H1 H2:Hp}{h h1 h2 h':Heap}{a x e:ZR}{o:HO}
def Un.any(u:Un fs ex H H1 h h1){b:ZR}{c:Obj}(q:h.get? b=some c)(n:H b=none)(d:b∉ex):∃sl,h1.get? b=some {c with slots:=sl }:=by
 by_cases f:b∈fs
 ·exact u.slot b c q n f d
 ·exact⟨c.slots,u.keep b c q n f d⟩
def Un.kept(k:∀b u,h.get? b=some u->h'.get? b=some u):Un fs ex H H h h':=
 ⟨λb c q _ _ _=>k b c q,λb c q _ _ _=>⟨c.slots,k b c q⟩,λ_ _ _ n _=>n,λb c q _=>⟨c,k b c q⟩,λ_ _ q=>q,λ_ _ _ q=>q,λ_ ps q=>⟨#[],by rw[q];simp⟩⟩
def Un.refl:Un fs ex H H h h:=Un.kept λ_ _ q=>q
def Un.laid(k:∀b u,h.get? b=some u->h'.get? b=some u)(d:h.objs.size<=a)(c:H a=none):Un fs ex H (aK H a o) h h' where
 keep:=λb u q _ _ _=>k b u q
 slot:=λb u q _ _ _=>⟨u.slots,k b u q⟩
 free:=λb u q n _=>by rw[aF (ne_of_lt (ZI (Heap.lt_size q) d))];exact n
 there:=λb u q _=>⟨u,k b u q⟩
 tups:=λb f q=>by rw[aF (aD q c)];exact q
 frzs:=λb u f q=>by rw[aF (aD q c)];exact q
 tbls:=λb ps q=>⟨#[],by rw[aF (aD q c),q];simp⟩
def Un.write(c:Ue (H x))(j:e=x∨H e=some (.own x))(k:∀b u,b≠e->h.get? b=some u->h'.get? b=some u)(l:∃u,h'.get? e=some u):Un fs ex H (aK H x o) h h':=by
 have f:∀b,H b=none->b≠x:=λb n z=>by subst z;rw[n]at c;exact c
 have g:∀b,H b=none->b≠e:=λb n z=>by
  subst z;rcases j with r|r
  ·exact f b n r
  ·rw[n]at r;cases r
 have d:∀b u,H b=some u->¬ Ue (some u)->b≠x:=λb u q nm z=>by subst z;rw[q]at c;exact nm c
 refine⟨λb u q n _ _=>k b u (g b n) q,λb u q n _ _=>⟨u.slots,k b u (g b n) q⟩,λb u q n _=>by rw[aF (f b n)];exact n,λb u q _=>?_,
  λb m q=>by rw[aF (d b _ q λz=>z)];exact q,λb u m q=>by rw[aF (d b _ q λz=>z)];exact q,λb ps q=>⟨#[],by rw[aF (d b _ q λz=>z),q];simp⟩⟩
 by_cases i:b=e
 ·subst i;exact l
 ·exact⟨u,k b u i q⟩
end
def Xk(h:Heap)(H:Hp):List Addr:=(List.range h.objs.size).filter λa=>(H a).isSome
def rE(h:Heap)(H:Hp):Heap:=W.hideAll h (Xk h H)
def zT(h:Heap)(H:Hp):(rE h H).objs.size=h.objs.size:=W.hideAll_size _ _
def Cd{h:Heap}{H:Hp}{b:ZR}{o:Obj}(e:h.get? b=some o)(n:H b=none):(rE h H).get? b=some o:=
 W.hideAll_get _ e λa=>by
  have q:(H b).isSome=true:=(mem_filter.mp a).2;rw[n]at q;simp at q
def Io{h:Heap}{H:Hp}{b:ZR}{o:Obj}(e:(rE h H).get? b=some o):h.get? b=some o/\H b=none:=by
 have a:h.get? b=some o:=W.of_hideAll (Xk h H) e;refine⟨a,?_⟩
 cases q:H b with
 | none=>rfl
 | some x=>
  have c:b∈Xk h H:=mem_filter.mpr ⟨mem_range.mpr (Heap.lt_size a),by simp[q]⟩;have z:(rE h H).get? b=none:=W.hideAll_none (Xk h H) c;rw[z]at e;cases e
structure Mod(K:W.Frag)(mg:Z7)(base:Heap):Prop where
 kin:K.In base
 glob:base.Ns mainGlobals mg
 blt:∃mb,base.Ns builtinsNs mb/\∀x:Str,x≠"__name__"->mb x=bootBuiltins x
 nolimit:base.NoLimit
structure Cx where
 prog:Program
 w:World
 K:W.Frag
 mg:Str->Option Value
 base:Heap
 A:Around
 N:List Str
 s₀:Shared
 H₀:Hp
 env:Env
 outer:List Env
 stack:List Env
 ex:List Addr
 fn:Str->Bool
 calm:Bool
 pn:List (ZR×Obj)
 xe:ZQ->ZP->Prop
def Ce(l:List Env):List Addr:=l.filterMap (·.frame)
abbrev Cx.fs(X:Cx):List Addr:=Ce X.outer
def Oo(sc:Scope)(x:Str):Prop:=sc.names.lookup x=some .local∨sc.names.lookup x=some .cell∨sc.names.lookup x=some .free
def Nb(sc:Scope)(x:Str):Prop:=sc.names.lookup x=some .local∨sc.names.lookup x=some .cell
def Xz(env:Env)(h:Heap)(m:Z7)(x:Str)(u:ZQ):Prop:=
 (env.kindOf x=some .local/\m x=some u)∨((env.kindOf x=some .cell∨env.kindOf x=some .free)/\∃c,env.cells.lookup x=some c/\h.IsCell c (some u))
structure Cx.Ok(X:Cx):Prop where
 mod:Mod X.K X.mg X.base
 kind:X.env.scope.kind=.function
 glob:X.env.globals=mainGlobals
 blt:X.env.builtins=builtinsNs
 above:X.s₀.heap.objs.size<=X.env.locals
 inj:∀x y c,X.env.cells.lookup x=some c->X.env.cells.lookup y=some c->x=y
 has:∀x,(X.env.kindOf x=some .cell∨X.env.kindOf x=some .free)->∃c,X.env.cells.lookup x=some c
 cab:∀x c,X.fn x=true->X.env.cells.lookup x=some c->X.s₀.heap.objs.size<=c
 hd:X.calm=true->X.A.handled=none
 frames:X.A.frames=some X.stack
 stk:X.stack=X.outer∨(X.stack=X.env::X.outer/\X.env.frame=some X.env.locals)
 exf:∀b∈X.ex,b≠X.env.locals/\∀x c,X.env.cells.lookup x=some c->c≠b
 bs:∀b o,X.base.get? b=some o->X.s₀.heap.get? b=some o/\X.H₀ b=none
 bsz:X.base.objs.size<=X.s₀.heap.objs.size
 noex:∀b o,X.base.get? b=some o->b∉X.ex
 exfs:∀b∈X.ex,b∉X.fs
 funs:X.s₀.heap.FunFrames X.base X.outer
 frf:∀b∈X.fs,X.H₀ b=none
structure Inv(X:Cx)(pins:Z9)(σ:List (Option V))(H:Hp)(s:ZP):Prop where
 ok:X.Ok
 os:s.os=X.s₀.os
 bare:AllBare s.gens
 base:Un X.fs X.ex X.H₀ H X.s₀.heap s.heap
 loc:∃m,s.heap.Ns X.env.locals m/\∀(i:Nat)(x:Str)(v:V),X.N[i]?=some x->σ[i]?=some (some v)->Oo X.env.scope x->∃u,RelV v u/\Xz X.env s.heap m x u
 cell:∀x c,X.env.cells.lookup x=some c->∃v,s.heap.IsCell c v
 free:H X.env.locals=none
 freeC:∀x c,X.env.cells.lookup x=some c->H c=none
 pin:∀p∈X.pn++pins,s.heap.get? p.1=some p.2/\H p.1=none/\p.1≠X.env.locals/\p.1∉X.fs/\∀v,p.2.data≠.cell v
 hok:HOk X.prog X.w H s.heap
 len:σ.length=X.N.length
section
variable {X:Cx}{pins:Z9}{σ:List (Option V)}{H H':Hp}{s:ZP}{h':Heap}
def Cx.Ok.nofr(ok:X.Ok){b:ZR}{o:Obj}(e:X.base.get? b=some o):b∉X.fs:=λa=>by
 have:=(ok.funs.mem a).1;rw[e]at this;cases this
def Inv.bs(I:Inv X pins σ H s):∀b o,X.base.get? b=some o->s.heap.get? b=some o/\H b=none:=λb o e=>
 ⟨I.base.keep b o (I.ok.bs b o e).1 (I.ok.bs b o e).2 (I.ok.nofr e) (I.ok.noex b o e),I.base.free b o (I.ok.bs b o e).1 (I.ok.bs b o e).2 (I.ok.noex b o e)⟩
def Inv.bk(I:Inv X pins σ H s):∀b o,X.base.get? b=some o->s.heap.get? b=some o:=λb o e=>(I.bs b o e).1
def Inv.mod(I:Inv X pins σ H s):Mod X.K X.mg X.base:=I.ok.mod
def Inv.kIn(I:Inv X pins σ H s):X.K.In s.heap:=I.ok.mod.kin.keeps I.bk
def Inv.fr(I:Inv X pins σ H s):∃m,Fr X.base X.env.locals s.heap m:=
 let ⟨m,a,_⟩:=I.loc
 ⟨m,a,I.bk,hZ I.ok.bsz I.ok.above⟩
def Inv.lt(I:Inv X pins σ H s):X.env.locals<s.heap.objs.size:=let ⟨_,a,_⟩:=I.loc;a.lt
def Inv.sz(I:Inv X pins σ H s):X.s₀.heap.objs.size<=s.heap.objs.size:=hZ I.ok.above (le_of_lt I.lt)
def Inv.nofs(I:Inv X pins σ H s){a:ZR}(h:s.heap.objs.size<=a):a∉X.fs:=λb=>by
 obtain⟨_,o,c,_⟩:=I.ok.funs.mem b;exact ZM (ZI (Heap.lt_size c) (hZ I.sz h)) (lt_irrefl _)
def Inv.cne(I:Inv X pins σ H s):∀x c,X.env.cells.lookup x=some c->c≠X.env.locals:=λx c e z=>by
 obtain⟨v,o,a,b⟩:=I.cell x c e;obtain⟨m,⟨g,h,i,d,f,_⟩,_⟩:=I.loc;rw[z,d]at a;cases a;rw[f]at b;cases b
def Inv.funs(I:Inv X pins σ H s):s.heap.FunFrames X.base X.outer:=by
 have all:∀(l:List Env),(∀b∈Ce l,b∈X.fs)->X.s₀.heap.FunFrames X.base l->s.heap.FunFrames X.base l:=by
  intro l;induction l with
  | nil=>intro _ _;trivial
  | cons p r g=>
   intro f h;obtain⟨i,⟨L,o,a,j,k,m⟩,n⟩:=h;have c:L∈X.fs:=f L (by unfold Ce;rw[ZF,a];exact fP);obtain⟨sl,e⟩:=I.base.slot L o k (I.ok.frf L c) c λz=>I.ok.exfs L z c
   exact⟨i,⟨L,_,a,j,e,m⟩,g (λb d=>f b (by unfold Ce;rw[ZF,a];exact nD _ d)) n⟩
 exact all X.outer (λ_ d=>d) I.ok.funs
def Inv.stack(I:Inv X pins σ H s):s.heap.FunFrames X.base X.stack:=by
 rcases I.ok.stk with e|⟨e,a⟩
 ·rw[e];exact I.funs
 ·rw[e];obtain⟨m,b,_⟩:=I.loc;refine .cons (by rw[I.ok.kind];decide) a b ?_ I.funs;exact Heap.get?_none_of_le (hZ I.ok.bsz I.ok.above)
def Inv.stkSub(I:Inv X pins σ H s):∀b∈Ce X.stack,b∈X.env.locals::X.fs:=λb a=>by
 rcases I.ok.stk with e|⟨e,c⟩
 ·rw[e]at a;exact nD _ a
 ·rw[e]at a;unfold Ce at a;rw[ZF,c]at a;exact a
def Inv.stkFree(I:Inv X pins σ H s):∀b∈Ce X.stack,H b=none:=λb a=>by
 rcases mem_cons.mp (I.stkSub b a) with e|a
 ·rw[e];exact I.free
 ·obtain⟨_,o,c,_⟩:=I.ok.funs.mem a;exact I.base.free b o c (I.ok.frf b a) λz=>I.ok.exfs b z a
def Inv.step{g':Array GenState}{t':Nat}{d':Drawn}{ch:List ZR}(I:Inv X pins σ H s)(j:∀b∈ch,(b∈X.ex∨X.s₀.heap.objs.size<=b)/\b≠X.env.locals/\(∀x c,X.env.cells.lookup x=some c->c≠b)/\∀p∈X.pn++pins,p.1≠b)(keep:∀b o,b≠X.env.locals->b∉X.fs->b∉ch->s.heap.get? b=some o->H b=none->h'.get? b=some o)(slot:∀b o,b≠X.env.locals->b∈X.fs->b∉ch->s.heap.get? b=some o->H b=none->∃sl,h'.get? b=some {o with slots:=sl })(free:∀b o,b∉ch->s.heap.get? b=some o->H b=none->H' b=none)(J:∀b o,b∉ch->s.heap.get? b=some o->∃t,h'.get? b=some t)(K:∀b xs,H b=some (.tup xs)->H' b=some (.tup xs))(L:∀b o u,H b=some (.frz o u)->H' b=some (.frz o u))(M:∀b ps,H b=some (.tbl ps)->∃more,H' b=some (.tbl (ps++more)))(O:∀m,s.heap.Ns X.env.locals m->h'.Ns X.env.locals m)(N:HOk X.prog X.w H' h')(P:AllBare g') :
  Inv X pins σ H' {s with heap:=h',gens:=g',drawn:=d',toks:=t' }:=by
 have D:∀b o,X.s₀.heap.get? b=some o->b≠X.env.locals:=λb o e=>ne_of_lt (ZI (Heap.lt_size e) I.ok.above)
 have A:∀b o,X.s₀.heap.get? b=some o->b∉X.ex->b∉ch:=λb o e a g=>by
  rcases(j b g).1 with z|z
  ·exact a z
  ·exact ZM (ZI (Heap.lt_size e) z) (lt_irrefl _)
 have C:∀x c,X.env.cells.lookup x=some c->∀v,s.heap.IsCell c v->h'.IsCell c v:=λx c e v ⟨o,h,B⟩=>by
  have w:c∉ch:=λz=>(j c z).2.2.1 x c e rfl
  by_cases E:c∈X.fs
  ·obtain⟨sl,q⟩:=slot c o (I.cne x c e) E w h (I.freeC x c e);exact⟨_,q,B⟩
  ·exact⟨o,keep c o (I.cne x c e) E w h (I.freeC x c e),B⟩
 refine⟨I.ok,I.os,P,⟨λb o e n g a=>?_,λb o e n g a=>?_,λb o e n a=>?_,λb o e a=>?_,λb xs e=>K b xs (I.base.tups b xs e),λb o xs e=>L b o xs (I.base.frzs b o xs e),λb ps e=>?_⟩,?_,λx c e=>?_,?_,λx c e=>?_,λp F=>?_,N,I.len⟩
 ·exact keep b o (D b o e) g (A b o e a) (I.base.keep b o e n g a) (I.base.free b o e n a)
 ·obtain⟨sl,f⟩:=I.base.slot b o e n g a;obtain⟨Q,y⟩:=slot b _ (D b o e) g (A b o e a) f (I.base.free b o e n a);exact⟨Q,y⟩
 ·obtain⟨t,f⟩:=I.base.there b o e a;exact free b t (A b o e a) f (I.base.free b o e n a)
 ·obtain⟨t,f⟩:=I.base.there b o e a;exact J b t (A b o e a) f
 ·obtain⟨R,f⟩:=I.base.tbls b ps e;obtain⟨m2,y⟩:=M b _ f;exact⟨R++m2,by rw[y,Array.append_assoc]⟩
 ·obtain⟨m,S,T⟩:=I.loc;refine⟨m,O m S,λi x v f y U=>?_⟩;obtain⟨u,r,l⟩:=T i x v f y U;refine⟨u,r,?_⟩;rcases l with l|⟨k,c,e,z⟩
  ·exact .inl l
  ·exact .inr ⟨k,c,e,C x c e _ z⟩
 ·obtain⟨v,z⟩:=I.cell x c e;exact⟨v,C x c e v z⟩
 ·obtain⟨m,⟨o,_,_,h,_⟩,_⟩:=I.loc;exact free _ o (λz=>(j _ z).2.1 rfl) h I.free
 ·obtain⟨v,o,h,B⟩:=I.cell x c e;exact free c o (λz=>(j c z).2.2.1 x c e rfl) h (I.freeC x c e)
 ·obtain⟨e,n,ne,G,d⟩:=I.pin p F;have w:p.1∉ch:=λz=>(j p.1 z).2.2.2 p F rfl
  exact⟨keep p.1 p.2 ne G w e n,free p.1 p.2 w e n,ne,G,d⟩
def Inv.un{t':Nat}(I:Inv X pins σ H s)(u:Un X.fs [] H H' s.heap h')(f:HOk X.prog X.w H' h'):Inv X pins σ H' {s with heap:=h',toks:=t' }:=by
 obtain⟨m,⟨o,l,p,c,r⟩,_⟩:=id I.loc;obtain⟨sl,g⟩:=u.any c I.free Zs;exact I.step (g':=s.gens) (d':=s.drawn) (ch:=[]) (λ_ z=>nomatch z) (λb o _ a _ e n=>u.keep b o e n a Zs) (λb o _ a _ e n=>u.slot b o e n a Zs) (λb o _ e n=>u.free b o e n Zs) (λb o _ e=>u.there b o e Zs) u.tups u.frzs u.tbls (λq h=>by
  obtain⟨t,i,j,d,k⟩:=h;rw[c]at d;cases d;exact⟨_,i,j,g,k⟩) f I.bare
def Inv.call{g':Array GenState}{t':Nat}{d':Drawn}{ch:List ZR}(I:Inv X pins σ H s)(u:Un (Ce X.stack) ch H H' s.heap h')(i:HOk X.prog X.w H' h')(j:AllBare g')(f:∀b∈ch,(b∈X.ex∨X.s₀.heap.objs.size<=b)/\b≠X.env.locals/\(∀x c,X.env.cells.lookup x=some c->c≠b)/\∀p∈X.pn++pins,p.1≠b) :
  Inv X pins σ H' {s with heap:=h',gens:=g',drawn:=d',toks:=t' }:=by
 obtain⟨m,⟨o,w,y,g,r⟩,_⟩:=id I.loc;obtain⟨sl,d⟩:=u.any g I.free λz=>(f _ z).2.1 rfl
 exact I.step (ch:=ch) f (λb o d k a e n=>u.keep b o e n (λz=>(mem_cons.mp (I.stkSub b z)).elim d k) a) (λb o _ _ a e n=>u.any e n a) (λb o a e n=>u.free b o e n a) (λb o a e=>u.there b o e a) u.tups u.frzs u.tbls (λA l=>by
  obtain⟨B,q,t,h,v⟩:=l;rw[g]at h;cases h;exact⟨_,q,t,d,v⟩) i j
def Inv.turned{t':Nat}{it:ZR}(I:Inv X pins σ H s)(k:∀b o,b≠it->s.heap.get? b=some o->h'.get? b=some o)(g:H it=none)(d:it≠X.env.locals)(h:it∈X.ex∨X.s₀.heap.objs.size<=it)(i:∀x c,X.env.cells.lookup x=some c->c≠it)(j:∀p∈X.pn++pins,p.1≠it):Inv X pins σ H {s with heap:=h',toks:=t' }:=by
 have f:∀b u,H b=some u->b≠it:=λb u e z=>by rw[z,g]at e;cases e
 refine I.step (g':=s.gens) (d':=s.drawn) (ch:=[it]) (λb l=>?_) (λb o _ _ a e _=>k b o (λz=>a (by simp[z])) e) (λb o _ _ a e _=>⟨o.slots,k b o (λz=>a (by simp[z])) e⟩) (λ_ _ _ _ n=>n)
  (λb o a e=>⟨o,k b o (λz=>a (by simp[z])) e⟩) (λ_ _ e=>e) (λ_ _ _ e=>e) (λb ps e=>⟨#[],by rw[e];simp⟩) (λm t=>?_) (λb u e=>?_) I.bare
 ·have e:b=it:=by simpa using l
  subst e;exact⟨h,d,i,j⟩
 ·obtain⟨o,w,y,A,r⟩:=t;exact⟨o,w,y,k _ o (Ne.symm d) A,r⟩
 ·refine(I.hok b u e).stay (λc v a q=>k c v ?_ q) (λ_ q=>q) λ_ _ q=>q;rcases a with z|z
  ·rw[z];exact f b u e
  ·exact f c _ z
def Inv.tok(I:Inv X pins σ H s)(t:Nat):Inv X pins σ H {s with toks:=t }:=I.un (h':=s.heap) (t':=t) Un.refl I.hok
def Inv.kept{t':Nat}(I:Inv X pins σ H s)(k:∀b u,s.heap.get? b=some u->h'.get? b=some u):Inv X pins σ H {s with heap:=h',toks:=t' }:=I.un (Un.kept k) (I.hok.kept k)
def Inv.laid{a:ZR}{o:HO}{t':Nat}(I:Inv X pins σ H s)(k:∀b u,s.heap.get? b=some u->h'.get? b=some u)(c:s.heap.objs.size<=a)(new:ObjOk X.prog X.w (aK H a o) h' a o) :
  Inv X pins σ (aK H a o) {s with heap:=h',toks:=t' }:=I.un (Un.laid k c (I.hok.fresh c)) (I.hok.laid k c new)
def Inv.write{x e:ZR}{o:HO}{t':Nat}(I:Inv X pins σ H s)(a:Ue (H x))(c:e=x∨H e=some (.own x))(k:∀b u,b≠e->s.heap.get? b=some u->h'.get? b=some u)(d:∃u,h'.get? e=some u)(new:ObjOk X.prog X.w (aK H x o) h' x o):Inv X pins σ (aK H x o) {s with heap:=h',toks:=t' }:=I.un (Un.write a c k d) (I.hok.write a c k d new)
def Inv.weak{a:List (Option V)}(I:Inv X pins σ H s)(b:a.length=σ.length)(w:∀(i:Nat) v,a[i]?=some (some v)->σ[i]?=some (some v)):Inv X pins a H s:=
 ⟨I.ok,I.os,I.bare,I.base,let ⟨m,c,d⟩:=I.loc;⟨m,c,λi x v e f g=>d i x v e (w i v f) g⟩,I.cell,I.free,I.freeC,I.pin,I.hok,b.trans I.len⟩
def Inv.pins_of{a:Z9}(I:Inv X pins σ H s)(h:∀p∈a,s.heap.get? p.1=some p.2/\H p.1=none/\p.1≠X.env.locals/\p.1∉X.fs/\∀v,p.2.data≠.cell v):Inv X a σ H s:=
 ⟨I.ok,I.os,I.bare,I.base,I.loc,I.cell,I.free,I.freeC,λp b=>(Zma.mp b).elim (λz=>I.pin p (ZK _ z)) (h p),I.hok,I.len⟩
def tM{N:List Str}(c:N.Nodup){i j:Nat}{x:Str}(a:N[i]?=some x)(b:N[j]?=some x):i=j:=by
 obtain⟨f,d⟩:=Zgs.mp a;obtain⟨g,e⟩:=Zgs.mp b;exact(List.getElem_inj c).mp (d.trans e.symm)
def qB{a1:Model}{A:Around}{E:Z8}{i:Nat}{x:Str}{v:V}{u:ZQ}{Q:Unit->ZP->Prop}(I:Inv X pins σ H s)(T:X.N.Nodup)(B:X.N[i]?=some x)(h:Nb X.env.scope x)(r:RelV v u)(a0:∀F,Inv X pins (σ.set i (some v)) H F->(∃a,Heap.SameBut a s.heap F.heap/\(a=X.env.locals∨X.env.cells.lookup x=some a))->Q () F)(hf:X.fn x=true∨X.env.scope.names.lookup x=some .local:=by first|exact .inl rfl|exact .inr rfl|assumption):wpAny a1 A (storeName X.env x u) Q E s:=by
 obtain⟨a2,G,U⟩:=id I.loc;have GD:(X.env.scope.kind == .class||(X.env.scope.kind == .module&&X.env.locals != X.env.globals))=false:=by rw[I.ok.kind];rfl
 have W:i<σ.length:=by rw[I.len];exact(Zgs.mp B).1
 have cne:=I.cne;have S:∀ {a:ZR}{h':Heap},(∃o,s.heap.get? a=some o/\H a=none)->Heap.SameBut a s.heap h'->HOk X.prog X.w H h':=λ{a h'} ha f b ob e=>by
  obtain⟨_,_,Y⟩:=ha;refine(I.hok b ob e).stay (λc C hc q=>(f.2 c ?_).trans q) (λ_ q=>q) λ_ _ q=>q;rintro rfl;rcases hc with rfl|hc
  ·rw[Y]at e;cases e
  ·rw[Y]at hc;cases hc
 rcases h with m|m
 ·refine wpAny_storeName_local m G (λh' PN f=>?_) GD;obtain⟨oL,_,_,PQ,_⟩:=id G;refine a0 _ ⟨I.ok,I.os,I.bare,⟨λb o e n t h=>?_,λb o e n t h=>?_,I.base.free,λb o e h=>?_,I.base.tups,I.base.frzs,I.base.tbls⟩,⟨_,PN,λj y J g l K=>?_⟩,λy c e=>?_,I.free,I.freeC,λp L=>?_,S ⟨oL,PQ,I.free⟩ f,by simpa using I.len⟩ ⟨_,f,.inl rfl⟩
  ·exact(f.2 b (ne_of_lt (ZI (Heap.lt_size e) I.ok.above))).trans (I.base.keep b o e n t h)
  ·obtain⟨sl,g⟩:=I.base.slot b o e n t h;exact⟨sl,(f.2 b (ne_of_lt (ZI (Heap.lt_size e) I.ok.above))).trans g⟩
  ·obtain⟨M,g⟩:=I.base.there b o e h;exact⟨M,(f.2 b (ne_of_lt (ZI (Heap.lt_size e) I.ok.above))).trans g⟩
  ·by_cases w:j=i
   ·subst w;rw[B]at g;cases g;rw[getElem?_set_self W]at l;cases l;exact⟨u,r,.inl ⟨m,Zs⟩⟩
   ·rw[getElem?_set_ne (Ne.symm w)]at l;obtain⟨N,O,q⟩:=U j y J g l K;refine⟨N,O,?_⟩;rcases q with⟨k,e⟩|⟨k,c,e,z⟩
    ·refine .inl ⟨k,?_⟩;have:y≠x:=λe=>w (tM T g (e▸B))
     simp[this,e]
    ·exact .inr ⟨k,c,e,z.sameBut f (cne y c e)⟩
  ·obtain⟨C,z⟩:=I.cell y c e;exact⟨C,z.sameBut f (cne y c e)⟩
  ·obtain⟨e,n,ne,P,d⟩:=I.pin p L;exact⟨(f.2 p.1 ne).trans e,n,ne,P,d⟩
 ·have R:X.fn x=true:=by
   rcases hf with z|z
   ·exact z
   ·rw[z]at m;cases m
  obtain⟨c,hc⟩:=I.ok.has x (.inl m);obtain⟨C,z⟩:=I.cell x c hc;refine wpAny_storeName_cell I.ok.kind m hc z (λh' Z f=>?_);obtain⟨oc,EC,GG⟩:=id z;refine a0 {s with heap:=h' } ⟨I.ok,I.os,I.bare,⟨λb o e n t h=>?_,λb o e n t h=>?_,I.base.free,λb o e h=>?_,I.base.tups,I.base.frzs,I.base.tbls⟩,⟨a2,G.sameBut f (Ne.symm (cne x c hc)),λj y J g l K=>?_⟩,λy D e=>?_,I.free,I.freeC,λp L=>?_,S ⟨oc,EC,I.freeC x c hc⟩ f,by simpa using I.len⟩ ⟨c,f,.inr hc⟩
  ·exact(f.2 b (ne_of_lt (ZI (Heap.lt_size e) (I.ok.cab x c R hc)))).trans (I.base.keep b o e n t h)
  ·obtain⟨sl,g⟩:=I.base.slot b o e n t h;exact⟨sl,(f.2 b (ne_of_lt (ZI (Heap.lt_size e) (I.ok.cab x c R hc)))).trans g⟩
  ·obtain⟨M,g⟩:=I.base.there b o e h;exact⟨M,(f.2 b (ne_of_lt (ZI (Heap.lt_size e) (I.ok.cab x c R hc)))).trans g⟩
  ·by_cases w:j=i
   ·subst w;rw[B]at g;cases g;rw[getElem?_set_self W]at l;cases l;exact⟨u,r,.inr ⟨.inl m,c,hc,Z⟩⟩
   ·rw[getElem?_set_ne (Ne.symm w)]at l;obtain⟨N,O,q⟩:=U j y J g l K;refine⟨N,O,?_⟩;rcases q with q|⟨k,D,e,z'⟩
    ·exact .inl q
    ·refine .inr ⟨k,D,e,z'.sameBut f ?_⟩;rintro rfl;exact w (tM T g (I.ok.inj _ _ _ e hc▸B))
  ·by_cases LF:D=c
   ·subst LF;exact⟨_,Z⟩
   ·obtain⟨w2,z2⟩:=I.cell y D e;exact⟨w2,z2.sameBut f LF⟩
  ·obtain⟨e,n,ne,P,d⟩:=I.pin p L;refine⟨(f.2 p.1 ?_).trans e,n,ne,P,d⟩;intro q;rw[q,EC]at e;have q':oc=p.2:=Option.some.inj e;exact d C (by rw[<- q'];exact GG)
def tO{M:Model}{A:Around}{E:Z8}{i:Nat}{x:Str}{v:V}{u:ZQ}{Q:Unit->ZP->Prop}(I:Inv X pins σ H s)(b:X.N.Nodup)(c:X.N[i]?=some x)(d:Nb X.env.scope x)(r:RelV v u)(h:∀a,Inv X pins (σ.set i (some v)) H a->Q () a)(e:X.fn x=true∨X.env.scope.names.lookup x=some .local:=by first|exact .inl rfl|exact .inr rfl|assumption):wpAny M A (storeName X.env x u) Q E s:=
 qB I b c d r (λa f _=>h a f) e
def Inv.call'{a:ZP}{ch:List ZR}(I:Inv X pins σ H s)(f:a.os=s.os)(u:Un (Ce X.stack) ch H H' s.heap a.heap)(d:HOk X.prog X.w H' a.heap)(g:AllBare a.gens)(h:∀b∈ch,(b∈X.ex∨X.s₀.heap.objs.size<=b)/\b≠X.env.locals/\(∀x c,X.env.cells.lookup x=some c->c≠b)/\∀p∈X.pn++pins,p.1≠b):Inv X pins σ H' a:=by
 obtain⟨h',g',d',t',i⟩:=a;have e:i=s.os:=f;subst e;exact I.call (g':=g') (t':=t') (d':=d') u d g h
end
abbrev XK:=Value->Option ZR->Hp->Prop
abbrev St:=List (Option V)
abbrev VK:=V->Hp->Prop
abbrev TE:=St->Hp->VK->Prop
abbrev TT:=St->Hp->(Bool->Hp->Prop)->Prop
abbrev TA:=St->Hp->(List V->Hp->Prop)->Prop
structure lQ where
 nx:St->Hp->Prop
 rt:VK
 bk:St->Hp->Prop:=λ_ _=>False
 ct:St->Hp->Prop:=λ_ _=>False
abbrev TS:=lQ->St->Hp->Prop
def EP(X:Cx)(b:Z9)(d:St)(Q:VK)(u:ZQ)(c:ZP):Prop:=∃v a,Inv X b d a c/\RelV v u/\Q v a
def TP(X:Cx)(c:Z9)(e:St)(Q:Bool->Hp->Prop)(b:Bool)(d:ZP):Prop:=∃a,Inv X c e a d/\Q b a
def AP(X:Cx)(b:Z9)(d:St)(Q:List V->Hp->Prop)(us:List ZQ)(c:ZP):Prop:=∃vs a,Inv X b d a c/\Vals vs us/\Q vs a
def SP(X:Cx)(c:Z9)(D:lQ)(f:Flow)(d:ZP):Prop:=
 match f with
 | .next=>∃ b a,Inv X c b a d/\D.nx b a
 | .brk=>∃ b a,Inv X c b a d/\D.bk b a
 | .cont=>∃ b a,Inv X c b a d/\D.ct b a
 | .ret u=>∃v b a,Inv X c b a d/\RelV v u/\D.rt v a
def PE(X:Cx)(e:Expr)(t:TE):Prop:=
 ∀(b:Z9)(s:ZP)(a:St)(H:Hp)(Q:VK),Inv X b a H s->t a H Q->wpAny (model X.prog X.w) X.A (eval e X.env) (EP X b a Q) X.xe s
def PT(X:Cx)(e:Expr)(t:TT):Prop:=
 ∀(b:Z9)(s:ZP)(a:St)(H:Hp)(Q:Bool->Hp->Prop),Inv X b a H s->t a H Q->wpAny (model X.prog X.w) X.A (isTrue e X.env (eval e X.env)) (TP X b a Q) X.xe s
def PW(X:Cx)(e:Expr)(t:TT):Prop:=
 ∀(whole:Sem Value)(b:Z9)(s:ZP)(a:St)(H:Hp)(Q:Bool->Hp->Prop),Inv X b a H s->t a H Q->wpAny (model X.prog X.w) X.A (isTrue e X.env whole) (TP X b a Q) X.xe s
def PW.pt{X:Cx}{e:Expr}{t:TT}(h:PW X e t):PT X e t:=h _
def PA(X:Cx)(d:List Expr)(t:TA):Prop:=
 ∀(c:Pos)(b:Z9)(s:ZP)(a:St)(H:Hp)(Q:List V->Hp->Prop),Inv X b a H s->t a H Q->wpAny (model X.prog X.w) X.A (spliced (backTo c (starEach d X.env))) (AP X b a Q) X.xe s
def PS(X:Cx)(st:Stmt)(t:TS):Prop:=
 ∀(a:Z9)(s:ZP)(b:St)(H:Hp)(D:lQ),Inv X a b H s->t D b H->wpAny (model X.prog X.w) X.A (exec st X.env) (SP X a D) X.xe s
def PSs(X:Cx)(st:List Stmt)(t:TS):Prop:=
 ∀(a:Z9)(s:ZP)(b:St)(H:Hp)(D:lQ),Inv X a b H s->t D b H->wpAny (model X.prog X.w) X.A (execs st X.env) (SP X a D) X.xe s
def bP{c:Type}{t:Sem c}{Q b:c->ZP->Prop}{M:Model}{A:Around}{E:Z8}{s:ZP}(h:wpAny M A t Q E s)(d:∀a s,Q a s->b a s):wpAny M A t b E s:=wpAny_mono h d λ_ _ x=>x
section
variable {X:Cx}
def bin{a b:Expr}{j k:TE}(o:PE X a j)(p:PE X b k){e:Z9}{s:ZP}{d:St}{H:Hp}{R:V->V->Hp->Prop}(I:Inv X e d H s)(h:j d H λx i=>k d i λy c=>R x y c){l:Type}{Q:l->ZP->Prop}{f:ZQ->ZQ->Sem l}(q:∀v u g x y c,Inv X e d c g->RelV x v->RelV y u->R x y c->wpAny (model X.prog X.w) X.A (f v u) Q X.xe g) :
  wpAny (model X.prog X.w) X.A (eval a X.env) (λv m=>wpAny (model X.prog X.w) X.A (eval b X.env) (λu n=>wpAny (model X.prog X.w) X.A (f v u) Q X.xe n) X.xe m) X.xe s:=by
 refine bP (o e s d H _ I h) ?_;rintro v r ⟨x,i,t,w,z⟩;refine bP (p e r d i _ t z) ?_;rintro u g ⟨y,c,A,B,C⟩;exact q v u g x y c A w B C
def Op(i:Nat):TE:=λa H Q=>∃v,a[i]?=some (some v)/\Q v H
def tC(v:V):TE:=λ_ H Q=>Q v H
def Oq{i:Nat}{x:Str}{pos:Pos}(j:X.N[i]?=some x)(k:Oo X.env.scope x)(b:(x==("__debug__":Str))=false:=by decide)(n:(x==("__classdict__":Str))=false:=by decide):PE X (.Name x pos) (Op i):=by
 intro g s t H Q I h;obtain⟨v,e,h⟩:=h;obtain⟨m,o,p⟩:=I.loc;obtain⟨u,r,l⟩:=p i x v j e k;have fin:EP X g t Q u s:=⟨v,H,I,r,h⟩;rcases l with⟨a,q⟩|⟨a,c,d,f⟩
 ·exact wpAny_Name (wpAny_loadName_local I.ok.kind a o q fin) b
 ·rcases a with a|a
  ·exact wpAny_Name (wpAny_loadName_cell I.ok.kind a d f fin) b
  ·exact wpAny_Name (wpAny_loadName_free I.ok.kind a d f fin n) b
def Os{i j pos}:PE X (.Constant (.int i) j pos) (tC (.int i)):=λ_ _ _ H _ I h=>wpAny_Constant_int ⟨.int i,H,I.tok _,⟨_,rfl⟩,h⟩
def Uf{b j pos}:PE X (.Constant (.bool b) j pos) (tC (.bl b)):=λ_ _ _ H _ I h=>Constant_bool ⟨.bl b,H,I,rfl,h⟩
def Ot{j pos}:PE X (.Constant .none j pos) (tC .non):=λ_ _ _ H _ I h=>Constant_none ⟨.non,H,I,rfl,h⟩
def Ou{x j pos}:PE X (.Constant (.str x) j pos) (tC (.str x)):=λ_ _ _ H _ I h=>Calls.Constant_str ⟨.str x,H,I.tok _,⟨_,rfl⟩,h⟩
def Gl(X:Cx)(x:Str):Prop:=X.env.kindOf x=some .globalImplicit
def rF{E:Z8}{a:Z9}{s:ZP}{e:St}{H:Hp}{x:Str}{u:ZQ}{pos:Pos}{Q:Z8}(I:Inv X a e H s)(b:Gl X x)(c:X.mg x=some u)(h:Q u s)(d:(x==("__debug__":Str))=false:=by decide):wpAny (model X.prog X.w) X.A (eval (.Name x pos) X.env) Q E s:=
 Calls.Name_function_global I.ok.kind b (Calls.loadGlobal_global (by rw[I.ok.glob];exact I.mod.glob.keeps I.bk) c h) d
def nU{E:Z8}{a:Z9}{s:ZP}{j:St}{H:Hp}{x:Str}{u:ZQ}{pos:Pos}{Q:Z8}(I:Inv X a j H s)(b:Gl X x)(c:X.mg x=none)(d:bootBuiltins x=some u)(h:Q u s)(e:x≠"__name__":=by decide)(f:(x==("__debug__":Str))=false:=by decide):wpAny (model X.prog X.w) X.A (eval (.Name x pos) X.env) Q E s:=by
 obtain⟨k,g,i⟩:=I.mod.blt;exact Calls.Name_function_global I.ok.kind b (Calls.loadGlobal_builtin (by rw[I.ok.glob];exact I.mod.glob.keeps I.bk) c (by rw[I.ok.blt];exact g.keeps I.bk) ((i x e).trans d) h) f
def rG{x:Str}{v:V}{u:ZQ}{pos:Pos}(a:Gl X x)(b:X.mg x=some u)(r:RelV v u)(c:(x==("__debug__":Str))=false:=by decide):PE X (.Name x pos) (tC v):=
 λ_ _ _ H _ I h=>rF I a b ⟨v,H,I,r,h⟩ c
def Ip{x:Str}{v:V}{u:ZQ}{pos:Pos}(a:Gl X x)(b:X.mg x=none)(c:bootBuiltins x=some u)(r:RelV v u)(d:x≠"__name__":=by decide)(e:(x==("__debug__":Str))=false:=by decide):PE X (.Name x pos) (tC v):=
 λ_ _ _ H _ I h=>nU I a b c ⟨v,H,I,r,h⟩ d e
variable {a b:Expr}{ta tb:TE}{pos:Pos}
def PC(X:Cx)(op:CmpOp)(a b:Expr)(t:TE):Prop:=
 ∀(d:Z9)(s:ZP)(c:St)(H:Hp)(Q:VK),Inv X d c H s->t c H Q →
  wpAny (model X.prog X.w) X.A (eval a X.env) (λv e=>wpAny (model X.prog X.w) X.A (eval b X.env) (λu f=>wpAny (model X.prog X.w) X.A (compareOp op v u) (EP X d c Q) X.xe f) X.xe e) X.xe s
def tB(t:TE):TT:=λe H Q=>t e H λx d=>∃c,x=.bl c/\Q c d
def Ya{op:CmpOp}{t:TE}(h:PC X op a b t)(e:behindInMarks op b=false:=by first|exact o _ Zd Zd|rfl):PT X (.Compare a [op] [b] pos) (tB t):=by
 intro f s n H Q I g;refine wpAny_isTrue_Compare1 (bP (h f s n H _ I g) λv p e=>bP e λu r i=>bP i ?_) e;rintro c w ⟨x,j,k,l,m⟩;obtain⟨d,rfl,q⟩:=m;cases l;exact wpAny_truthy_bool ⟨j,k,q⟩
def Ov{e:Expr}{t:TE}(h:PE X e t)(f:∀whole,isTrue e X.env whole=(do let v←whole;standAt e.pos;holding [v] (truthy v)):=by intro _;rfl):PT X e (tB t):=by
 intro c s m H Q I g;refine isTrue_plain (bP (h c s m H _ I g) ?_) (f _);rintro v n ⟨x,i,j,k,l⟩;obtain⟨d,rfl,q⟩:=l;cases k;exact wpAny_truthy_bool ⟨i,j,q⟩
variable {tA uo:TT}{rest:List Expr}
def Ug(t u:TT):TT:=λe H Q=>t e H λc d=>if c=true then u e d Q else Q false d
def Zr(t u:TT):TT:=λe H Q=>t e H λc d=>if c=true then Q true d else u e d Q
def Uh(t:TT):TT:=λe H Q=>t e H λc d=>Q (!c) d
def Iq(f:PT X a tA):PW X (.BoolOp .And [a] pos) tA:=by
 intro i d s g H Q I h;refine isTrue_and (bP (f d s g H Q I h) λc j e=>?_)
 cases c with
 | true=>exact isTrue_and_nil e
 | false=>exact e
def Ow(f:PT X a tA):PW X (.BoolOp .Or [a] pos) tA:=by
 intro i d s g H Q I h;refine isTrue_or (bP (f d s g H Q I h) λc j e=>?_)
 cases c with
 | false=>exact isTrue_or_nil e
 | true=>exact e
def Ox(j:PT X a tA)(k:PW X (.BoolOp .And (b::rest) pos) uo):PW X (.BoolOp .And (a::b::rest) pos) (Ug tA uo):=by
 intro l d s i H Q I h;refine isTrue_and (bP (j d s i H _ I h) ?_);rintro c m ⟨e,f,g⟩
 cases c with
 | true=>exact k l d m i e Q f g
 | false=>exact⟨e,f,g⟩
def Ui(j:PT X a tA)(k:PW X (.BoolOp .Or (b::rest) pos) uo):PW X (.BoolOp .Or (a::b::rest) pos) (Zr tA uo):=by
 intro l d s i H Q I h;refine isTrue_or (bP (j d s i H _ I h) ?_);rintro c m ⟨e,f,g⟩
 cases c with
 | true=>exact⟨e,f,g⟩
 | false=>exact k l d m i e Q f g
def Oy(e:PT X a tA):PT X (.UnaryOp .Not a pos) (Uh tA):=by
 intro d s g H Q I h;exact isTrue_not (e d s g H (λc f=>Q (!c) f) I h)
def Cf(ta tb:TE):TE:=λe H Q=>ta e H λx d=>∃c,x=.bl c/\if c=true then tb e d Q else Q (.bl false) d
def Oz(ta tb:TE):TE:=λe H Q=>ta e H λx d=>∃c,x=.bl c/\if c=true then Q (.bl true) d else tb e d Q
def Pa{op}{t:TE}(h:PE X a t):PE X (.BoolOp op [a] pos) t:=λc s e H Q I d=>BoolOp_one (h c s e H Q I d)
def Pb(j:PE X a ta)(k:PE X (.BoolOp .And (b::rest) pos) tb):PE X (.BoolOp .And (a::b::rest) pos) (Cf ta tb):=by
 intro e s i H Q I h;refine BoolOp_and (bP (j e s i H _ I h) ?_);rintro v l ⟨x,f,g,m,d⟩;obtain⟨c,rfl,d⟩:=d;cases m;refine wpAny_truthy_bool ?_
 cases c with
 | true=>exact k e l i f Q g d
 | false=>exact⟨.bl false,f,g,rfl,d⟩
def Uj(j:PE X a ta)(k:PE X (.BoolOp .Or (b::rest) pos) tb):PE X (.BoolOp .Or (a::b::rest) pos) (Oz ta tb):=by
 intro e s i H Q I h;refine BoolOp_or (bP (j e s i H _ I h) ?_);rintro v l ⟨x,f,g,m,d⟩;obtain⟨c,rfl,d⟩:=d;cases m;refine wpAny_truthy_bool ?_
 cases c with
 | false=>exact k e l i f Q g d
 | true=>exact⟨.bl true,f,g,rfl,d⟩
def Zt(t:TT)(ta tb:TE):TE:=λd H Q=>t d H λc e=>if c=true then ta d e Q else tb d e Q
def Cg{c:Expr}(l:PT X c tA)(m:PE X a ta)(n:PE X b tb):PE X (.IfExp c a b pos) (Zt tA ta tb):=by
 intro e s f H Q I h;refine wpAny_IfExp (bP (l e s f H _ I h) ?_);rintro d g ⟨i,j,k⟩
 cases d with
 | true=>exact m e g f i Q j k
 | false=>exact n e g f i Q j k
end
def SqL(K:W.Frag)(H:Hp)(a:ZR)(xs:List V):Prop:=
 Rd H a (.lst xs)∨
  ∃(o:Obj)(b:Array Value)(n:Nat),K.lookup a=some o/\o.cls=.type "list"/\o.dict=none/\o.data=.seq b n/\b.size<=sizeLine/\Vals xs b.toList
def SqT(K:W.Frag)(H:Hp)(a:ZR)(xs:List V):Prop:=
 Rd H a (.tup xs)∨
  ∃(o:Obj)(b:Array Value)(n:Nat),K.lookup a=some o/\o.cls=.type "tuple"/\o.data=.seq b n/\b.size<=sizeLine/\Vals xs b.toList
def Yb:ZQ->Option V
 | .none=>some .non
 | .bool b=>some (.bl b)
 | .int i _=>some (.int i)
 | .str x _=>some (.str x)
 | .bytes b _=>some (.byt b)
 | .float b _=>some (.flt b)
 | .ref a=>some (.ref a)
 | .type n=>some (.ty n)
 | _=>none
def RelV.abs{x:V}{u:ZQ}(r:RelV x u):Yb u=some x:=by
 cases x with
 | non=>cases r;rfl
 | bl _=>cases r;rfl
 | int _=>obtain⟨t,rfl⟩:=r;rfl
 | str _=>obtain⟨t,rfl⟩:=r;rfl
 | byt _=>obtain⟨t,rfl⟩:=r;rfl
 | flt _=>obtain⟨t,rfl⟩:=r;rfl
 | ref _=>cases r;rfl
 | ty _=>cases r;rfl
def RelV.inj{x y:V}{u:ZQ}(r:RelV x u)(q:RelV y u):x=y:=Option.some.inj (r.abs.symm.trans q.abs)
theorem Vals.inj:∀ {xs ys:List V}{us:List ZQ},Vals xs us->Vals ys us->xs=ys
 | _,_,_,.nil,.nil=>rfl
 | _,_,_,.cons r t,.cons a b=>by rw[r.inj a,Vals.inj t b]
section
variable {X:Cx}{pins:Z9}{σ:St}{H:Hp}{s:ZP}{a:ZR}{xs ys:List V}
def SqL.of{K:W.Frag}(h:H a=some (.lst xs)):SqL K H a xs:=.inl (.inl h)
def QZx:=@SqL.of
def SqT.of{K:W.Frag}(h:H a=some (.tup xs)):SqT K H a xs:=.inl (.inl h)
def QZy:=@SqT.of
def Inv.list(I:Inv X pins σ H s)(h:SqL X.K H a xs):∃its:List ZQ,Vals xs its/\PlainL s.heap a its.toArray/\xs.length<=sizeLine:=by
 rcases h with h|⟨o,its,n,b,c,d,f,g,r⟩
 ·obtain⟨z,its,n,r,e⟩:=h.ok I.hok;exact⟨its,r,⟨_,n,e,rfl,rfl,rfl⟩,z⟩
 ·refine⟨its.toList,r,⟨o,n,I.kIn a o b,c,d,by simpa using f⟩,?_⟩;have e:=r.length;simp only [Array.length_toList]at e;omega
def Inv.tuple(I:Inv X pins σ H s)(h:SqT X.K H a xs):∃its:List ZQ,Vals xs its/\IsTup s.heap a its.toArray/\xs.length<=sizeLine:=by
 rcases h with h|⟨o,its,n,b,c,d,f,r⟩
 ·obtain⟨z,its,r,p⟩:=h.ok I.hok;exact⟨its,r,p,z⟩
 ·refine⟨its.toList,r,⟨o,I.kIn a o b,c,n,by simpa using d⟩,?_⟩;have e:=r.length;simp only [Array.length_toList]at e;omega
def Inv.list_inj(I:Inv X pins σ H s)(h:SqL X.K H a xs)(h':SqL X.K H a ys):xs=ys:=by
 obtain⟨g,r,⟨o,n,e,_,_,d⟩,_⟩:=I.list h;obtain⟨f,i,⟨k,l,b,_,_,c⟩,_⟩:=I.list h';rw[e]at b;cases b;rw[d]at c;injection c with j _
 have:g=f:=by simpa using congrArg Array.toList j
 subst this;exact r.inj i
def Inv.tuple_inj(I:Inv X pins σ H s)(h:SqT X.K H a xs)(h':SqT X.K H a ys):xs=ys:=by
 obtain⟨g,r,⟨o,e,_,n,d⟩,_⟩:=I.tuple h;obtain⟨f,i,⟨k,b,_,l,c⟩,_⟩:=I.tuple h';rw[e]at b;cases b;rw[d]at c;injection c with j _
 have:g=f:=by simpa using congrArg Array.toList j
 subst this;exact r.inj i
end
abbrev Cx.wish(X:Cx)(E:Z8):Cx:={X with xe:=E }
abbrev Cx.nox(X:Cx):Cx:=X.wish λ_ _=>False
def Cx.Ok.wish{X:Cx}(ok:X.Ok)(E:Z8):(X.wish E).Ok:=
 ⟨ok.mod,ok.kind,ok.glob,ok.blt,ok.above,ok.inj,ok.has,ok.cab,ok.hd,ok.frames,ok.stk,ok.exf,ok.bs,ok.bsz,ok.noex,ok.exfs,ok.funs,ok.frf⟩
def Cx.Ok.unwish{X:Cx}{E:Z8}(ok:(X.wish E).Ok):X.Ok:=
 ⟨ok.mod,ok.kind,ok.glob,ok.blt,ok.above,ok.inj,ok.has,ok.cab,ok.hd,ok.frames,ok.stk,ok.exf,ok.bs,ok.bsz,ok.noex,ok.exfs,ok.funs,ok.frf⟩
section
variable {X:Cx}{pins:Z9}{σ:St}{H:Hp}{s:ZP}{E:Z8}
def Inv.wish(I:Inv X pins σ H s)(E:Z8):Inv (X.wish E) pins σ H s:=⟨I.ok.wish E,I.os,I.bare,I.base,I.loc,I.cell,I.free,I.freeC,I.pin,I.hok,I.len⟩
def Inv.unwish(I:Inv (X.wish E) pins σ H s):Inv X pins σ H s:=⟨I.ok.unwish,I.os,I.bare,I.base,I.loc,I.cell,I.free,I.freeC,I.pin,I.hok,I.len⟩
def SP.unwish{D:lQ}{f:Flow}{c:ZP}(h:SP (X.wish E) pins D f c):SP X pins D f c:=by
 cases f with
 | next=>obtain⟨a,b,I,q⟩:=h;exact⟨a,b,I.unwish,q⟩
 | brk=>obtain⟨a,b,I,q⟩:=h;exact⟨a,b,I.unwish,q⟩
 | cont=>obtain⟨a,b,I,q⟩:=h;exact⟨a,b,I.unwish,q⟩
 | ret u=>obtain⟨v,a,b,I,r,q⟩:=h;exact⟨v,a,b,I.unwish,r,q⟩
def PSs.nox{st:List Stmt}{t:TS}(h:PSs X.nox st t):PSs X st t:=λpins s σ H D I a=>
 wpAny_mono (h pins s σ H D (I.wish _) a) (λ_ _ q=>q.unwish) λ_ _ z=>False.elim z
end
section
variable {X:Cx}{st:Stmt}{rest:List Stmt}{t u:TS}{e:Expr}{te:TE}{pos:Pos}
def iH:TS:=λD a H=>D.nx a H
def vL(t u:TS):TS:=λD a H=>t {D with nx:=u D } a H
def Ir:PSs X [] iH:=λ_ _ a H _ I h=>wpAny_execs_nil ⟨a,H,I,h⟩
def Ch(c:PS X st t)(d:PSs X rest u):PSs X (st::rest) (vL t u):=by
 intro a s k H D I h;refine wpAny_execs_cons (bP (c a s k H {D with nx:=u D } I h) λf g q=>?_)
 cases f with
 | next=>
  obtain⟨b,i,j,q⟩:=q;exact d a g b i D j q
 | ret v=>exact q
 | brk=>exact q
 | cont=>exact q
def Iu(b:PS X st t):PSs X [st] t:=by
 intro a s c H D I h;refine wpAny_execs_cons (bP (b a s c H D I h) λf d q=>?_)
 cases f with
 | next=>exact wpAny_execs_nil q
 | ret v=>exact q
 | brk=>exact q
 | cont=>exact q
def Inv.quiet{a:Z9}{b:St}{H:Hp}{s:ZP}(I:Inv X a b H s):interactive X.env=false:=by simp[interactive,I.ok.kind]
def Nc(te:TE):TS:=λD a H=>te a H λ_ b=>D.nx a b
def Iv(c:PE X e te)(d:swapsWith e none pos.line X.env=pure false:=by rfl):PS X (.Expr e pos) (Nc te):=by
 intro b s a H D I h;exact wpAny_Expr_any (bP (c b s a H _ I h) λv j ⟨x,f,g,k,i⟩=>⟨a,f,g,i⟩) I.quiet d
def Uk(te:TE):TS:=λD a H=>te a H D.rt
def Pd(c:PE X e te):PS X (.Return (some e) pos) (Uk te):=by
 intro b s a H D I h;exact wpAny_Return_some (bP (c b s a H _ I h) λv j ⟨x,d,f,g,i⟩=>⟨x,a,d,f,g,i⟩)
def Nd:TS:=λD _ H=>D.rt .non H
def Iw:PS X (.Return none pos) Nd:=λ_ _ a H _ I h=>wpAny_Return_none ⟨.non,a,H,I,rfl,h⟩
def zU(c:TT)(t u:TS):TS:=λD a H=>c a H λb d=>if b=true then t D a d else u D a d
def Ul{c:Expr}{a b:List Stmt}{i:TT}(n:PT X c i)(o:PSs X a t)(p:PSs X b u):PS X (.If c a b pos) (zU i t u):=by
 intro f s g H D I h;refine wpAny_If (bP (n f s g H _ I h) ?_);rintro d j ⟨k,l,m⟩
 cases d with
 | true=>exact o f j g k D l m
 | false=>exact p f j g k D l m
end
abbrev TG:=V->St->Hp->(St->Hp->Prop)->Prop
abbrev xT:=List V->St->Hp->(St->Hp->Prop)->Prop
def PG(X:Cx)(e:Expr)(t:TG):Prop:=
 ∀(a:Z9)(s:ZP)(d:St)(H:Hp)(v:V)(u:ZQ)(Q:St->Hp->Prop),Inv X a d H s->RelV v u->t v d H Q →
  wpAny (model X.prog X.w) X.A (assign e X.env u) (λ_ f=>∃ b c,Inv X a b c f/\Q b c) X.xe s
def Um(X:Cx)(f:List Expr)(t:xT):Prop:=
 ∀(a:Z9)(s:ZP)(e:St)(H:Hp)(vs:List V)(c:List ZQ)(Q:St->Hp->Prop),Inv X a e H s->Vals vs c->t vs e H Q →
  wpAny (model X.prog X.w) X.A (assignInOrder ((assignEach f X.env).map (·.2)) c) (λ_ g=>∃ b d,Inv X a b d g/\Q b d) X.xe s
abbrev zV:=V->V->V->Hp->(Hp->Prop)->Prop
def Ix(X:Cx)(t:zV):Prop:=
 ∀(a:Z9)(s:ZP)(e:St)(H:Hp)(o i v:V)(b c u:ZQ)(Q:Hp->Prop),Inv X a e H s->RelV o b->RelV i c->RelV v u->t o i v H Q →
  wpAny (model X.prog X.w) X.A (setItem b c u) (λ_ f=>∃d,Inv X a e d f/\Q d) X.xe s
section
variable {X:Cx}{pos:Pos}
def aL(i:Nat):TG:=λv a H Q=>Q (a.set i (some v)) H
def Iy{i:Nat}{x:Str}(a:X.N.Nodup)(b:X.N[i]?=some x)(c:Nb X.env.scope x)(d:X.fn x=true∨X.env.scope.names.lookup x=some .local:=by first|exact .inl rfl|exact .inr rfl|assumption):PG X (.Name x pos) (aL i):=by
 intro f s j H v u Q I r h;exact wpAny_assign_Name (tO I a b c r (λg e=>⟨_,H,e,h⟩) d)
def Iz:xT:=λvs a H Q=>vs=[]/\Q a H
def tP(t:TG)(u:xT):xT:=λvs c H Q=>∃v r,vs=v::r/\t v c H λa b=>u r a b Q
def Ja:Um X [] Iz:=by
 intro b s a H vs c Q I r h;obtain⟨e,h⟩:=h;subst e;cases r;exact assignInOrder_nil ⟨a,H,I,h⟩
def Ci{e:Expr}{a:List Expr}{t:TG}{u:xT}(d:PG X e t)(f:Um X a u)(g:(assignEach (e::a) X.env).map (·.2)=assign e X.env::(assignEach a X.env).map (·.2):=by rfl):Um X (e::a) (tP t u):=by
 intro b s o H vs p Q I r h;obtain⟨v,vr,i,h⟩:=h;subst i;cases r with
 | cons r j=>
  rw[g];refine assignInOrder_cons (bP (d b s o H _ _ _ I r h) ?_);rintro _ k ⟨c,l,m,n⟩;exact f b k c l _ _ Q m j n
def Cj(K:W.Frag)(n:Nat)(t:xT):TG:=λv c H Q=>∃a b,v=.ref a/\SqT K H a b/\b.length=n/\t b c H Q
def Pe{c:List Expr}{k:Nat}{t:xT}{n:Nat}(j:X.calm=true)(h:Um X c t)(l:(assignEach c X.env).length=n:=by rfl)(m:(assignEach c X.env).findIdx? (·.1)=none:=by rfl):PG X (.Tuple c k pos) (Cj X.K n t):=by
 intro f s i H v u Q I r d;obtain⟨a,p,q,w,x,d⟩:=d;subst q;cases r;obtain⟨C,g,y,D⟩:=I.tuple w;refine assign_Tuple_tuple (I.ok.hd j) y (by simp[l,<- x,g.length]) m λz A=>?_;have B:Inv X f i H {s with heap:=z }:=I.kept (t':=s.toks) λb o e=>A b o (ne_of_lt (Heap.lt_size e)) e
 exact h f _ i H p _ Q B (by simpa using g) d
def Uo(b c:TE)(t:zV):TG:=λv a H Q=>b a H λo d=>c a d λi e=>t o i v e λf=>Q a f
def Pf{o i:Expr}{e f:TE}{t:zV}(g:PE X o e)(j:PE X i f)(k:Ix X t)(l:∀v,assign (.Subscript o i pos) X.env v=(do
   let a←holding [v] (eval o X.env)
   let b←holding [v,a] (eval i X.env)
   standAt pos
   holding [v,a,b] (setItem a b v)
   release [v,a,b] []):=by intro _;rfl):PG X (.Subscript o i pos) (Uo e f t):=by
 intro d s c H v u Q I r h;rw[l];refine ZZ (wpAny_holding (bP (g d s c H _ I h) ?_));rintro a m ⟨x,n,p,q,w⟩;refine ZZ (wpAny_holding (bP (j d m c n _ p w) ?_));rintro b z ⟨y,A,B,C,D⟩;refine ZZ (wpAny_standAt (ZZ (wpAny_holding (bP (k d z c A x y v a b u _ B q C r D) ?_))));rintro _ J ⟨E,F,G⟩;exact wpAny_release ⟨c,E,F,G⟩
def Ck(b:TE)(g:TG):TS:=λD a H=>b a H λx c=>g x a c D.nx
def Pg{a e:Expr}{c:TE}{g:TG}(f:PE X e c)(i:PG X a g)(j:swapsWithSole [a] e pos.line X.env=pure false:=by rfl)(k:swappedStores [a] e X.env=pure none:=by rfl)(l:(assignEach [a] X.env).map (·.2)=[assign a X.env]:=by rfl):PS X (.Assign [a] e pos) (Ck c g):=by
 intro b s d H D I h;refine wpAny_Assign_stores (bP (f b s d H _ I h) ?_) j k;rintro v m ⟨x,n,o,p,r⟩;rw[l];exact bP (i b m d n x v _ o p r) λ_ t q=>q
def Ph{i:Nat}{x:Str}{e:Expr}{b:TE}{a:Pos}(d:X.N.Nodup)(f:X.N[i]?=some x)(g:Nb X.env.scope x)(j:PE X e b)(k:swapsWith e (some (.Name x a)) pos.line X.env=pure false:=by rfl)(l:X.fn x=true∨X.env.scope.names.lookup x=some .local:=by first|exact .inl rfl|exact .inr rfl|assumption) :
  PS X (.Assign [.Name x a] e pos) (Ck b (aL i)):=by
 intro c s r H D I h;refine wpAny_Assign_Name (bP (j c s r H _ I h) ?_) k;rintro v t ⟨y,m,n,o,p⟩;exact tO n d f g o (λu q=>⟨_,m,q,p⟩) l
end
section
variable {X:Cx}{pos:Pos}
def Cl(c:TT)(h:TS):TS:=λD a H=>∃W:Nat->St->Hp->Prop,(∃m,W m a H)/\∀m a H,W m a H →
 c a H λb e=>if b=true then ∃N:St->Hp->Prop,(∀ d f,N d f->∃g,g<m/\W g d f)/\h {D with nx:=N,ct:=N,bk:=D.nx } a e else D.nx a e
def Cm{c:Expr}{q:List Stmt}{t:TT}{u:TS}(w:PassesOwn (model X.prog X.w) X.A X.env X.xe)(C:PT X c t)(E:PSs X q u):PS X (.While c q [] pos) (Cl t u):=by
 intro j s P H D I h;obtain⟨W,⟨F,G⟩,turn⟩:=h;refine wpAny_While (codeAny_whileLoop (λn J=>∃ r x,Inv X j r x J/\W n r x) ?_ F ⟨P,H,I,G⟩);rintro n K ⟨e,y,L,M⟩;refine wpAny_passesOwn w (bP (C j K e y _ L (turn n e y M)) ?_);rintro b O ⟨z,A,g⟩
 cases b with
 | true=>
  obtain⟨N,B,g⟩:=g;rw[ZO rfl];refine wpAny_passesOwn w (bP (E j O e z _ A g) λf Q i=>?_)
  cases f with
  | next=>
   obtain⟨a,d,k,l⟩:=i;obtain⟨m,o,p⟩:=B a d l;exact⟨m,o,a,d,k,p⟩
  | cont=>
   obtain⟨a,d,k,l⟩:=i;obtain⟨m,o,p⟩:=B a d l;exact⟨m,o,a,d,k,p⟩
  | brk=>exact i
  | ret v=>exact i
 | false=>
  rw[ZN ZX];exact wpAny_execs_nil ⟨e,z,A,g⟩
end
structure It where
 go:Nat->Hp->Prop
 yld:Nat->Hp->V->Hp->Prop
 stop:Nat->Hp->Prop
def lR(X:Cx)(a:Z9)(H:Hp)(b:ZR):Prop:=
 H b=none/\b≠X.env.locals/\b∉X.fs/\(b∈X.ex∨X.s₀.heap.objs.size<=b)/\(∀x c,X.env.cells.lookup x=some c->c≠b)/\∀p∈X.pn++a,p.1≠b
def Inv.fpOk{X:Cx}{d:Z9}{i:St}{H f:Hp}{s:ZP}{b:ZR}(I:Inv X d i H s)(a:s.heap.objs.size<=b)(g:f b=none):lR X d f b:=by
 refine⟨g,ne_of_gt (ZI I.lt a),I.nofs a,.inr (hZ I.sz a),λx c e z=>?_,λp h z=>?_⟩
 ·obtain⟨v,q⟩:=I.cell x c e;exact ZM (ZI q.lt (by rw[z];exact a)) (lt_irrefl _)
 ·exact ZM (ZI (Heap.lt_size (I.pin p h).1) (by rw[z];exact a)) (lt_irrefl _)
structure rH(P:Program)(w:World)(K:W.Frag)(tg:Expr)(J:It)(fp:List ZR)(it:ZR)(tn:Nat->Heap->Prop):Prop where
 mem:it∈fp
 obj:∀i h,tn i h->∀b∈fp,∃o,h.get? b=some o/\∀v,o.data≠.cell v
 keep:∀i h h',tn i h->(∀b∈fp,∀o,h.get? b=some o->h'.get? b=some o)->tn i h'
 item:∀(X:Cx),X.prog=P->X.w=w->X.K=K->X.calm=true->∀(i:Nat)(pins:Z9)(s:ZP)(σ:St)(H:Hp)(E:Z8),Inv X pins σ H s->(∀b∈fp,lR X pins H b)->tn i s.heap->J.go i H →
  wpAny (model P w) X.A (pyNext (.ref it)) (λr s1=>∃u,r=some u ∧
   wpAny (model P w) X.A (letOwnedTupleGo tg (.ref it) u) (λ_ s2=>∃x H',Inv X pins σ H' s2/\RelV x u/\J.yld i H x H'/\tn (i+1) s2.heap/\∀b∈fp,H' b=none) E s1) E s
 done:∀(X:Cx),X.prog=P->X.w=w->X.K=K->X.calm=true->∀(i:Nat)(pins:Z9)(s:ZP)(σ:St)(H:Hp)(E:Z8),Inv X pins σ H s->(∀b∈fp,lR X pins H b)->tn i s.heap->J.stop i H →
  wpAny (model P w) X.A (pyNext (.ref it)) (λr s1=>r=none/\Inv X pins σ H s1) E s
 self:∀(A:Around)(i:Nat)(s:ZP)(Q:Z8)(E:Z8),tn i s.heap->Q (.ref it) s->wpAny (model P w) A (pyIter (.ref it)) Q E s
abbrev TI:=St->Hp->(It->Hp->Prop)->Prop
def Zu(X:Cx)(c:Z9)(i:St)(g:Expr)(R:It->Hp->Prop)(h:ZQ)(d:ZP):Prop:=
 ∃(it:ZR)(e:List ZR)(f:Nat->Heap->Prop)(J:It)(a:Hp),h=.ref it/\Inv X c i a d/\rH X.prog X.w X.K g J e it f/\f 0 d.heap/\(∀b∈e,lR X c a b)/\R J a
def PI(X:Cx)(c iter:Expr)(d:TI):Prop:=
 ∀(b:Z9)(s:ZP)(a:St)(H:Hp)(R:It->Hp->Prop),Inv X b a H s->d a H R →
  wpAny (model X.prog X.w) X.A (eval iter X.env) (λv e=>wpAny (model X.prog X.w) X.A (pyIter v) (Zu X b a c R) X.xe e) X.xe s
def qC{M:Model}{A:Around}{E:Z8}{s:ZP}{b:Expr}{it:ZR}{u:ZQ}{o:Obj}{n:String}{vs:Array Value}{Q:Unit->ZP->Prop}(c:s.heap.get? it=some o)(d:o.cls=.type n)(e:o.data=.fields vs)(f:["enumerate","zip","dict_itemiterator","dict_reverseitemiterator","odict_iterator","itertools.zip_longest","itertools.pairwise"].contains n=false)(a:Q () s):wpAny M A (letOwnedTupleGo b (.ref it) u) Q E s:=by
  unfold letOwnedTupleGo;cases b<;>first
    | exact ZY a
    | (cases u <;> first
        | exact ZY a
        | (refine ZZ (wpAny_load c ?_)
           rw[d,e];show wpAny M A (if (["enumerate","zip","dict_itemiterator","dict_reverseitemiterator","odict_iterator","itertools.zip_longest","itertools.pairwise"].contains n&&vs[0]? == some (rawInt _))=true then _ else _) Q E s;rw[ZN (by intro h;rw[f,Bool.false_and]at h;cases h)];exact ZY a))
def Up(K:W.Frag)(a:ZR):It:=
 ⟨λi H=>∃b x,SqL K H a b/\b[i]?=some x,λi H x c=>c=H/\∀b,SqL K H a b->b[i]?=some x,λi H=>∃b,SqL K H a b/\b.length<=i⟩
def Yc(K:W.Frag)(a:ZR):It:=
 ⟨λi H=>∃b x,SqT K H a b/\b[i]?=some x,λi H x c=>c=H/\∀b,SqT K H a b->b[i]?=some x,λi H=>∃b,SqT K H a b/\b.length<=i⟩
def Xl(lo:Int)(n:Nat):It:=⟨λi _=>i<n,λi H x a=>a=H/\x=.int (lo+i),λi _=>n<=i⟩
def zW{P:Program}{w:World}{K:W.Frag}{N:Expr}(a it:ZR):rH P w K N (Up K a) [it] it (λi h=>h.IsListIter it a i) where
 mem:=by simp
 obj:=λi h st b f=>by
  have e:b=it:=by simpa using f
  subst e;obtain⟨o,e,c,d⟩:=st;exact⟨o,e,λv z=>by rw[d]at z;cases z⟩
 keep:=λi h g st k=>st.at λo e=>k it Zs o e
 item:=by
  intro X m n q G i F s L H E I j st r;subst m n q;obtain⟨O,x,l,t⟩:=r;obtain⟨M,y,p,Q⟩:=I.list l;obtain⟨u,R,S⟩:=y.get t;obtain⟨A,f1,f2,B,C,D⟩:=j it Zs;refine wpAny_pyNext_list_item st p.isList (x:=u) (by simpa using R) λg J T=>?_;have U:Inv X F L H {s with heap:=g }:=I.turned (t':=s.toks) (λb o f e=>(T.2 b f).trans e) A f1 B C D;obtain⟨o,e,c,d⟩:=id J;exact⟨u,rfl,qC (s:={s with heap:=g }) e c d Zd ⟨x,H,U,S,⟨rfl,λZ V=>by rw[I.list_inj V l];exact t⟩,J,λb f=>(j b f).1⟩⟩
 done:=by
  intro X m n q G i F s L H E I j st r;subst m n q;obtain⟨O,l,t⟩:=r;obtain⟨M,y,p,Q⟩:=I.list l;obtain⟨A,f1,f2,B,C,D⟩:=j it Zs;have hl:=y.length;exact wpAny_pyNext_list_end (I.ok.hd G) st p.isList (by simp;omega) λg Y=>⟨rfl,I.turned (t':=s.toks) (λb o f e=>Y b o f e) A f1 B C D⟩
 self:=λ_ _ _ _ _ st h=>wpAny_pyIter_listiter st h
def vM{P:Program}{w:World}{K:W.Frag}{N:Expr}(a it:ZR):rH P w K N (Yc K a) [it] it (λi h=>h.IsTupleIter it a i) where
 mem:=by simp
 obj:=λi h st b f=>by
  have e:b=it:=by simpa using f
  subst e;obtain⟨o,e,c,d⟩:=st;exact⟨o,e,λv z=>by rw[d]at z;cases z⟩
 keep:=λi h g st k=>st.at λo e=>k it Zs o e
 item:=by
  intro X n q r J i G s M H E I j st t;subst n q r;obtain⟨O,x,l,y⟩:=t;obtain⟨m,A,p,Q⟩:=I.tuple l;obtain⟨u,R,S⟩:=A.get y;obtain⟨B,f1,f2,C,D,F⟩:=j it Zs;refine wpAny_pyNext_tuple_item st (show s.heap.IsTuple a m.toArray from p) (x:=u) (by simpa using R) λg L T=>?_;have U:Inv X G M H {s with heap:=g }:=I.turned (t':=s.toks) (λb o f e=>(T.2 b f).trans e) B f1 C D F;obtain⟨o,e,c,d⟩:=id L;exact⟨u,rfl,qC (s:={s with heap:=g }) e c d Zd ⟨x,H,U,S,⟨rfl,λZ V=>by rw[I.tuple_inj V l];exact y⟩,L,λb f=>(j b f).1⟩⟩
 done:=by
  intro X n q r J i G s M H E I j st t;subst n q r;obtain⟨O,l,y⟩:=t;obtain⟨m,A,p,Q⟩:=I.tuple l;obtain⟨B,f1,f2,C,D,F⟩:=j it Zs;have hl:=A.length;exact wpAny_pyNext_tuple_end (I.ok.hd J) st (show s.heap.IsTuple a m.toArray from p) (by simp;omega) λg Y=>⟨rfl,I.turned (t':=s.toks) (λb o f e=>Y b o f e) B f1 C D F⟩
 self:=λ_ _ _ _ _ st h=>wpAny_pyIter_tupleiter st h
def vN{P:Program}{w:World}{K:W.Frag}{B:Expr}(it:ZR)(lo:Int)(n:Nat):rH P w K B (Xl lo n) [it] it (λi h=>IsRangeIter h it (lo+(i:Nat)*1) ((n:Int)-(i:Nat)) 1) where
 mem:=by simp
 obj:=λi h st b a=>by
  have e:b=it:=by simpa using a
  subst e;exact⟨_,st,λv z=>by
   have C:Data.fields _=Data.cell v:=z;cases C⟩
 keep:=λi h c st k=>k it Zs _ st
 item:=by
  intro X f g j l i x s A H E I d st m;subst f g j;obtain⟨p,f1,f2,q,r,u⟩:=d it Zs;have W:=Walks.range (prog:=X.prog) (w:=X.w) (I.ok.hd l) it lo 1 n;refine W.item i s _ _ m st λv c tk D y F=>?_;obtain⟨t,rfl⟩:=D;have G:Inv X x A H {s with heap:=c,toks:=tk }:=I.turned (λb o a e=>F b o (by simpa using a) e) p f1 q r u;refine⟨_,rfl,qC (s:={s with heap:=c,toks:=tk }) (n:="range_iterator") y rfl rfl Zd ⟨.int (lo+i),H,G,⟨t,?_⟩,⟨rfl,rfl⟩,y,λb a=>(d b a).1⟩⟩;rw[Int.mul_one]
 done:=by
  intro X f g j l i x s A H E I d st m;subst f g j;obtain⟨p,f1,f2,q,r,u⟩:=d it Zs;exact wpAny_pyNext_range_end (I.ok.hd l) st (by have:n<=i:=m;omega) λc J=>⟨rfl,I.turned (t':=s.toks) (λb o a e=>J b o a e) p f1 q r u⟩
 self:=λ_ _ _ _ _ st h=>wpAny_pyIter_rangeiter st h
section
variable {X:Cx}{tg:Expr}
def Cn(K:W.Frag)(c:TE):TI:=λe H R=>c e H λx b=>∃a,x=.ref a/\(∃d,SqL K b a d)/\R (Up K a) b
def Pi(K:W.Frag)(c:TE):TI:=λe H R=>c e H λx b=>∃a,x=.ref a/\(∃d,SqT K b a d)/\R (Yc K a) b
def Jb{l:Expr}{f:TE}(i:PE X l f):PI X tg l (Cn X.K f):=by
 intro g s t H R I h;refine bP (i g s t H _ I h) ?_;rintro v c ⟨x,j,d,k,m⟩
 obtain⟨a,e,⟨w,n⟩,q⟩:=m;subst e;cases k;obtain⟨u,y,p,z⟩:=d.list n;refine wpAny_pyIter_list p.isList ?_;refine⟨c.heap.objs.size,[c.heap.objs.size],_,_,j,rfl,d.kept (t':=c.toks) λb o e=>iE _ e,zW a _,⟨_,ZS _ rfl,rfl,rfl⟩,λb r=>?_,q⟩;have e:b=c.heap.objs.size:=by simpa using r
 subst e;exact d.fpOk (bQ _) (d.hok.fresh (bQ _))
def Pj{l:Expr}{f:TE}(j:PE X l f):PI X tg l (Pi X.K f):=by
 intro g s u H R I h;refine bP (j g s u H _ I h) ?_;rintro v c ⟨x,k,d,m,n⟩
 obtain⟨a,e,⟨w,r⟩,q⟩:=n;subst e;cases m;obtain⟨i,y,p,z⟩:=d.tuple r;refine wpAny_pyIter_tuple (show c.heap.IsTuple a i.toArray from p) ?_;refine⟨c.heap.objs.size,[c.heap.objs.size],_,_,k,rfl,d.kept (t':=c.toks) λb o e=>iE _ e,vM a _,⟨_,ZS _ rfl,rfl,rfl⟩,λb t=>?_,q⟩;have e:b=c.heap.objs.size:=by simpa using t
 subst e;exact d.fpOk (bQ _) (d.hok.fresh (bQ _))
def Co{c:Z9}{f:St}{H:Hp}{s:ZP}{R:It->Hp->Prop}{E:Z8}{lo a:Int}{t u v:Tok}{tk:Nat}(I:Inv X c f H s)(g:-(2^62)<=lo)(h:lo<2^62)(i:-(2^62)<=a)(j:a<2^62)(q:R (Xl lo (a-lo).toNat) H):wpAny (model X.prog X.w) X.A (pyIter (.ref s.heap.objs.size)) (Zu X c f tg R) E {s with heap:=s.heap.push {cls:=.type "range",data:=.fields #[.int lo t,.int a u,.int 1 v] },toks:=tk }:=by
 refine wpAny_pyIter_range (IsRange.new ..) (small_one g h i j) ?_;have d:Inv X c f H {s with heap:=s.heap.push {cls:=.type "range",data:=.fields #[.int lo t,.int a u,.int 1 v] },toks:=tk }:=I.kept λb o e=>iE _ e
 refine⟨(s.heap.push {cls:=.type "range",data:=.fields #[.int lo t,.int a u,.int 1 v] }).objs.size,[(s.heap.push {cls:=.type "range",data:=.fields #[.int lo t,.int a u,.int 1 v] }).objs.size],_,_,H,rfl,
  d.kept (t':=tk) λb o e=>iE _ e,vN _ lo (a - lo).toNat,?_,λb k=>?_,q⟩
 ·have l:lo+((0:Nat):Int)*1=lo:=by simp
  have m:(((a-lo).toNat:Nat):Int)-((0:Nat):Int)=Builtin.Range.rangeSize lo a 1:=by rw[rangeSize_one];split<;>omega
  show IsRangeIter _ _ (lo+((0:Nat):Int)*1) ((((a-lo).toNat:Nat):Int)-((0:Nat):Int)) 1;rw[l,m];exact ZS _ rfl
 ·have e:b=(s.heap.push {cls:=.type "range",data:=.fields #[.int lo t,.int a u,.int 1 v] }).objs.size:=by simpa using k
  subst e;exact d.fpOk (bQ _) (d.hok.fresh (bQ _))
def Nf(a:TA):TI:=λc H R=>a c H λvs b=>∃j:Int,vs=[.int j]/\-(2^62)<=j/\j<2^62/\R (Xl 0 j.toNat) b
def zX{a:Expr}{c:TA}{p pos:Pos}(f:Gl X "range")(g:X.mg "range"=none)(i:PA X [a] c)(k:starEach [a] X.env=[(false,eval a X.env)]:=by rfl):PI X tg (.Call (.Name "range" p) [a] [] pos) (Nf c):=by
 intro d s u H R I h;refine Call_ (nU I f g boot_range (PyProof.Rows.callWith_type1 (bP (i pos d s u H _ I h) ?_) k rfl));rintro v w ⟨vs,x,l,m,b⟩;obtain⟨j,e,b,n,q⟩:=b;subst e;cases m with
 | cons r o=>
  cases o;obtain⟨t,rfl⟩:=r;exact call_range_1 (Co l Zo Zo b n (by simpa using q))
def Uq(f:TI)(g:TG)(h:TS):TS:=λD a H=>f a H λJ j=>∃W:Nat->Nat->St->Hp->Prop,(∃m,W 0 m a j)/\∀i m a H,W i m a H →
 (J.stop i H/\D.nx a H)∨(J.go i H/\∃N:St->Hp->Prop,(∀ c b,N c b->∃d,d<m/\W (i+1) d c b)/\∀x b,J.yld i H x b->g x a b λe k=>h {D with nx:=N,ct:=N,bk:=D.nx } e k)
def nV(fp:List ZR)(h:Heap):List (ZR×Obj):=fp.filterMap λb=>(h.get? b).map λo=>(b,o)
def gP{fp:List ZR}{h:Heap}{b:ZR}{o:Obj}(a:b∈fp)(e:h.get? b=some o):(b,o)∈nV fp h:=mem_filterMap.mpr ⟨b,a,by rw[e];rfl⟩
def zY{fp:List ZR}{h:Heap}{p:ZR×Obj}(a:p∈nV fp h):p.1∈fp/\h.get? p.1=some p.2:=by
 obtain⟨b,c,e⟩:=mem_filterMap.mp a
 cases q:h.get? b with
 | none=>rw[q]at e;cases e
 | some o=>
  rw[q]at e;have d:(b,o)=p:=Option.some.inj e;subst d;exact⟨c,q⟩
def Inv.pinned{a:Z9}{g:St}{H:Hp}{s:ZP}{fp:List ZR}(I:Inv X a g H s)(h:∀b∈fp,lR X a H b)(i:∀b∈fp,∃o,s.heap.get? b=some o/\∀v,o.data≠.cell v):Inv X (a++nV fp s.heap) g H s:=
 I.pins_of λp j=>(Zma.mp j).elim (λz=>I.pin p (ZJ _ z)) λz=>by
  obtain⟨c,e⟩:=zY z;obtain⟨k,f1,f2,_⟩:=h p.1 c;obtain⟨o,f,d⟩:=i p.1 c;rw[e]at f;cases f;exact⟨e,k,f1,f2,d⟩
def Inv.unpinned{a pl:Z9}{b:St}{H:Hp}{s:ZP}(I:Inv X (a++pl) b H s):Inv X a b H s:=I.pins_of λp c=>I.pin p (ZJ _ (ZK _ c))
def Pk{iter:Expr}{A:List Stmt}{B:TI}{g:TG}{C:TS}{pos:Pos}(q:PassesOwn (model X.prog X.w) X.A X.env X.xe)(D:X.calm=true)(O:PI X tg iter B)(P:PG X tg g)(c:PSs X A C)(Q:∀x,foldedSetIterable iter X.env x=pure x:=by intro _;rfl):PS X (.For tg iter A [] pos) (Uq B g C):=by
 intro k a0 M a1 a8 a2 a3;refine wpAny_For (bP (O k a0 M a1 _ a2 a3) λv s1 R=>bP R λED s2 S=>?_) Q;obtain⟨it,r,E,a9,U,e,V,T,Y,f2,W,⟨Z,w0⟩,turn⟩:=S;subst e;have u:∀ {h:Hp},(∀b∈r,h b=none)->∀b∈r,lR X k h b:=λhn b c=>⟨hn b c,(f2 b c).2⟩
 refine codeAny_forLoop_any (λn F=>∃i l h,Inv X k l h F/\E i F.heap/\(∀b∈r,h b=none)/\W i n l h) ?_ Z ⟨0,M,U,V,Y,λb c=>(f2 b c).1,w0⟩;rintro n G ⟨i,p,t,H,I,J,w3⟩;rcases turn i n p t w3 with⟨stop,qn⟩|⟨go,a4,hN,step⟩
 ·refine wpAny_passesOwn q (bP (T.done X rfl rfl rfl D i k G p t X.xe H (u J) I stop) ?_);rintro a5 s4 ⟨w,I4⟩;subst w;exact wpAny_execs_nil ⟨p,t,I4,qn⟩
 ·refine wpAny_passesOwn q (bP (T.item X rfl rfl rfl D i k G p t X.xe H (u J) I go) ?_);rintro a5 s4 ⟨a6,w,h4⟩;subst w;refine wpAny_passesOwn q (bP h4 ?_);rintro _ K ⟨x,L,I5,r5,y5,y,GH⟩;have GI:=I5.pinned (u GH) (T.obj _ _ y);refine wpAny_passesOwn q (bP (P _ K p L x a6 _ GI r5 (step x L y5)) ?_);rintro _ s6 ⟨N,H6,I6,q6⟩;refine wpAny_passesOwn q (bP (c _ s6 N H6 _ I6 q6) λa7 z j=>?_);have again:∀ {a:St}{d:Hp},Inv X (k++nV r K.heap) a d z->a4 a d->∃m,m<n/\∃i l h,Inv X k l h z/\E i z.heap/\(∀b∈r,h b=none)/\W i m l h:=λ{a d} f s=>by
   obtain⟨m',hm,w7⟩:=hN a d s;refine⟨m',hm,i+1,a,d,f.unpinned,T.keep _ _ _ y λb c o e=>(f.pin (b,o) (ZJ _ (ZJ _ (gP c e)))).1,λb c=>?_,w7⟩;obtain⟨o,e,b0⟩:=T.obj _ _ y b c;exact(f.pin (b,o) (ZJ _ (ZJ _ (gP c e)))).2.1
  cases a7 with
  | next=>obtain⟨a,d,f,s⟩:=j;exact again f s
  | cont=>obtain⟨a,d,f,s⟩:=j;exact again f s
  | brk=>obtain⟨a,d,f,j⟩:=j;exact⟨a,d,f.unpinned,j⟩
  | ret v=>obtain⟨x7,a,d,f,r7,j⟩:=j;exact⟨x7,a,d,f.unpinned,r7,j⟩
end
abbrev R2:=V->V->Hp->VK->Prop
def OpR(X:Cx)(f:ZQ->ZQ->Sem Value)(r:R2):Prop:=
 ∀(a:Z9)(s:ZP)(b:St)(H:Hp)(x y:V)(v u:ZQ)(Q:VK),Inv X a b H s->RelV x v->RelV y u->r x y H Q →
  wpAny (model X.prog X.w) X.A (f v u) (EP X a b Q) X.xe s
def UnR(X:Cx)(f:ZQ->Sem Value)(r:V->Hp->VK->Prop):Prop:=
 ∀(a:Z9)(s:ZP)(b:St)(H:Hp)(x:V)(v:ZQ)(Q:VK),Inv X a b H s->RelV x v->r x H Q →
  wpAny (model X.prog X.w) X.A (f v) (EP X a b Q) X.xe s
def CallR(X:Cx)(f:ZQ)(r:List V->Hp->VK->Prop):Prop:=
 ∀(a:Z9)(s:ZP)(d:St)(H:Hp)(b:List V)(c:List ZQ)(Q:VK),Inv X a d H s->Vals b c->r b H Q →
  wpAny (model X.prog X.w) X.A (call f c) (EP X a d Q) X.xe s
def zZ(r:R2)(b c:TE):TE:=λa H Q=>b a H λx d=>c a d λy e=>r x y e Q
def Yd(r:V->Hp->VK->Prop)(a:TE):TE:=λc H Q=>a c H λx b=>r x b Q
def rI(C:Int->Int->Prop)(g:Int->Int->V):R2:=λx y H Q=>∃i j,x=.int i/\y=.int j/\C i j/\Q (g i j) H
def Jc(g:Int->Int->V):R2:=λx y H Q=>∃i j,x=.int i/\y=.int j/\Q (g i j) H
def rU(g:Int->V):V->Hp->VK->Prop:=λx H Q=>∃i,x=.int i/\Q (g i) H
section
variable {X:Cx}{a b c:Expr}{ta tb tc:TE}{pos:Pos}
def Pl(m:PE X a ta)(n:PE X b tb){g:Z9}{s:ZP}{e:St}{H:Hp}{R:V->V->Hp->Prop}(I:Inv X g e H s)(h:ta e H λx j=>tb e j λy d=>R x y d){Q:Z8}{f:ZQ->ZQ->Sem Value}(o:∀v u i x y d,Inv X g e d i->RelV x v->RelV y u->R x y d->wpAny (model X.prog X.w) X.A (f v u) Q X.xe i) :
  wpAny (model X.prog X.w) X.A (eval a X.env) (λv k=>wpAny (model X.prog X.w) X.A (eval b X.env) (λu l=>wpAny (model X.prog X.w) X.A (f v u) Q X.xe l) X.xe k) X.xe s:=by
 refine bP (m g s e H _ I h) ?_;rintro v p ⟨x,j,q,r,t⟩;refine bP (n g p e j _ q t) ?_;rintro u i ⟨y,d,w,z,A⟩;exact o v u i x y d w r z A
def Ur{op:Operator}{r:R2}(e:OpR X (binaryOp op) r)(f:PE X a ta)(g:PE X b tb):PE X (.BinOp a op b pos) (zZ r ta tb):=by
 intro d s n H Q I h;exact wpAny_BinOp (Pl f g I h λv u i x y j k l m q=>e d i n j x y v u Q k l m q)
def Us{op:UnaryOp}{r:V->Hp->VK->Prop}(f:UnR X (unaryOp op) r)(g:PE X a ta):PE X (.UnaryOp op a pos) (Yd r ta):=by
 intro d s e H Q I h;exact UnaryOp_ (bP (g d s e H _ I h) λv i ⟨x,j,k,l,m⟩=>f d i e j x v Q k l m)
def Xm{f:ZQ->ZQ->Sem Value}{C:Int->Int->Prop}{g:Int->Int->Int}(rule:∀(i j:Int)(t u:Tok)(s:ZP)(Q:Z8)(E:Z8),C i j->Q (.int (g i j) s.toks) {s with toks:=s.toks+1 }->wpAny (model X.prog X.w) X.A (f (.int i t) (.int j u)) Q E s) :
  OpR X f (rI C λi j=>.int (g i j)):=by
 intro m s n H x y v u Q I d e h;obtain⟨i,j,rfl,rfl,k,q⟩:=h;obtain⟨t,rfl⟩:=d;obtain⟨l,rfl⟩:=e;exact rule i j t l s _ _ k ⟨.int (g i j),H,I.tok _,⟨_,rfl⟩,q⟩
def Ut{f:ZQ->ZQ->Sem Value}{g:Int->Int->Int}(rule:∀(i j:Int)(t u:Tok)(s:ZP)(Q:Z8)(E:Z8),Q (.int (g i j) s.toks) {s with toks:=s.toks+1 }->wpAny (model X.prog X.w) X.A (f (.int i t) (.int j u)) Q E s) :
  OpR X f (Jc λi j=>.int (g i j)):=by
 intro l s m H x y v u Q I d e h;obtain⟨i,j,rfl,rfl,q⟩:=h;obtain⟨t,rfl⟩:=d;obtain⟨k,rfl⟩:=e;exact rule i j t k s _ _ ⟨.int (g i j),H,I.tok _,⟨_,rfl⟩,q⟩
def Jd{f:ZQ->ZQ->Sem Value}{g:Int->Int->Bool}(rule:∀(i j:Int)(t u:Tok)(s:ZP)(Q:Z8)(E:Z8),Q (.bool (g i j)) s->wpAny (model X.prog X.w) X.A (f (.int i t) (.int j u)) Q E s) :
  OpR X f (Jc λi j=>.bl (g i j)):=by
 intro l s m H x y v u Q I d e h;obtain⟨i,j,rfl,rfl,q⟩:=h;obtain⟨t,rfl⟩:=d;obtain⟨k,rfl⟩:=e;exact rule i j t k s _ _ ⟨.bl (g i j),H,I,rfl,q⟩
def Pn(i j:Int):Prop:=0<=j/\j<=1000000/\i.natAbs<2^64
def CMul(i j:Int):Prop:=(-(2^64)<i/\i<2^64)∨(-(2^64)<j/\j<2^64)
def CMul.ok{i j:Int}(h:CMul i j):IntMulOk i j:=by
 rcases h with⟨d,e⟩|⟨d,e⟩
 ·exact .of_left (intBits_le_64 d e)
 ·exact .of_right (intBits_le_64 d e)
def Po:OpR X (binaryOp .Add) (Jc λi j=>.int (i+j)):=Ut λ_ _ _ _ _ _ _ q=>add_int q
def Pp:OpR X (binaryOp .Sub) (Jc λi j=>.int (i-j)):=Ut λ_ _ _ _ _ _ _ q=>sub_int q
def Pq:OpR X (binaryOp .Mult) (rI CMul λi j=>.int (i*j)):=Xm λ_ _ _ _ _ _ _ d q=>mul_int q d.ok
def Pr:OpR X (binaryOp .Mod) (rI (λ_ j=>0<j) λi j=>.int (i%j)):=Xm λi j _ _ _ _ _ d q=>by
 have e:(0:Int)<j:=d;exact mod_int' Zo (by rw[Int.fmod_eq_emod_of_nonneg i Zo];exact q)
def Ps:OpR X (binaryOp .Pow) (rI Pn λi j=>.int (i^j.toNat)):=Xm λ_ _ _ _ _ _ _ d q=>pow_int_small d.1 d.2.1 d.2.2 q
def unI{f:ZQ->Sem Value}{g:Int->Int}(rule:∀(i:Int)(t:Tok)(s:ZP)(Q:Z8)(E:Z8),Q (.int (g i) s.toks) {s with toks:=s.toks+1 }->wpAny (model X.prog X.w) X.A (f (.int i t)) Q E s) :
  UnR X f (rU λi=>.int (g i)):=by
 intro e s j H x v Q I d h;obtain⟨i,rfl,q⟩:=h;obtain⟨t,rfl⟩:=d;exact rule i t s _ _ ⟨.int (g i),H,I.tok _,⟨_,rfl⟩,q⟩
def Pu:UnR X (unaryOp .USub) (rU λi=>.int (-i)):=unI λ_ _ _ _ _ q=>neg_int q
end
def scal:V->V->Bool
 | .non,.non=>true|.non,.int _=>true|.int _,.non=>true|.non,.bl _=>true|.bl _,.non=>true|.non,.str _=>true|.str _,.non=>true
 | .int _,.int _=>true|.bl _,.bl _=>true|.str _,.str _=>true|.byt _,.byt _=>true
 | .int _,.str _=>true|.str _,.int _=>true|.bl _,.str _=>true|.str _,.bl _=>true
 | _,_=>false
def Zv:R2:=λx y H Q=>scal x y=true/\Q (.bl (decide (x=y))) H
def Zw:R2:=λx y H Q=>scal x y=true/\Q (.bl (!decide (x=y))) H
def xU{i j:Int}:decide (V.int i=V.int j)=(i==j):=by
 rw[Bool.eq_iff_iff];simp
def Cp{i j:Bool}:decide (V.bl i=V.bl j)=(i==j):=by
 rw[Bool.eq_iff_iff];simp
def xV{i j:Str}:decide (V.str i=V.str j)=(i==j):=by
 rw[Bool.eq_iff_iff];simp
def xW{i j:Array UInt8}:decide (V.byt i=V.byt j)=(i.toList==j.toList):=by
 rw[Bool.eq_iff_iff];cases i;cases j;simp
section
variable {X:Cx}{a b c:Expr}{ta tb tc:TE}{pos:Pos}
def bA{d:Z9}{g:St}{H:Hp}{s:ZP}{Q:VK}{k f:Bool}(I:Inv X d g H s)(q:Q (.bl k) H)(e:k=f):EP X d g Q (.bool f) s:=by
 subst e;exact⟨.bl k,H,I,rfl,q⟩
def Ng:OpR X (compareOp .Eq) Zv:=by
 intro k s l H x y v u Q I g d h;obtain⟨f,q⟩:=h
 cases x with
 | non=>
  cases g
  cases y with
  | non=>cases d;exact PySem.EqNone.eq_none_none (bA I q Zs)
  | bl j=>cases d;exact PySem.EqNone.eq_none_bool (bA I q Zs)
  | int j=>obtain⟨e,rfl⟩:=d;exact PySem.EqNone.eq_none_int (bA I q Zs)
  | str j=>obtain⟨e,rfl⟩:=d;exact PySem.EqNone.eq_none_str (bA I q Zs)
  | _=>exact ZM (show false=true from f) ZX
 | bl i=>
  cases g
  cases y with
  | non=>cases d;exact PySem.EqNone.eq_bool_none (bA I q Zs)
  | bl j=>cases d;exact eq_bool (bA I q Cp)
  | str j=>obtain⟨e,rfl⟩:=d;exact PySem.EqMixed.eq_bool_str (bA I q Zs)
  | _=>exact ZM (show false=true from f) ZX
 | int i=>
  obtain⟨t,rfl⟩:=g
  cases y with
  | non=>cases d;exact PySem.EqNone.eq_int_none (bA I q Zs)
  | int j=>obtain⟨e,rfl⟩:=d;exact eq_int (bA I q xU)
  | str j=>obtain⟨e,rfl⟩:=d;exact PySem.EqMixed.eq_int_str (bA I q Zs)
  | _=>exact ZM (show false=true from f) ZX
 | str i=>
  obtain⟨t,rfl⟩:=g
  cases y with
  | non=>cases d;exact PySem.EqNone.eq_str_none (bA I q Zs)
  | bl j=>cases d;exact PySem.EqMixed.eq_str_bool (bA I q Zs)
  | int j=>obtain⟨e,rfl⟩:=d;exact PySem.EqMixed.eq_str_int (bA I q Zs)
  | str j=>obtain⟨e,rfl⟩:=d;exact eq_str (bA I q xV)
  | _=>exact ZM (show false=true from f) ZX
 | byt i=>
  obtain⟨t,rfl⟩:=g
  cases y with
  | byt j=>obtain⟨e,rfl⟩:=d;exact W.eq_bytes (bA I q xW)
  | _=>exact ZM (show false=true from f) ZX
 | _=>cases y<;>exact ZM (show false=true from f) ZX
def Nh:OpR X (compareOp .NotEq) Zw:=by
 intro k s l H x y v u Q I g d h;obtain⟨f,q⟩:=h
 cases x with
 | non=>
  cases g
  cases y with
  | non=>cases d;exact PySem.EqNone.ne_none_none (bA I q Zs)
  | bl j=>cases d;exact PySem.EqNone.ne_none_bool (bA I q Zs)
  | int j=>obtain⟨e,rfl⟩:=d;exact PySem.EqNone.ne_none_int (bA I q Zs)
  | str j=>obtain⟨e,rfl⟩:=d;exact PySem.EqNone.ne_none_str (bA I q Zs)
  | _=>exact ZM (show false=true from f) ZX
 | bl i=>
  cases g
  cases y with
  | non=>cases d;exact PySem.EqNone.ne_bool_none (bA I q Zs)
  | bl j=>cases d;exact ne_bool (bA I q (congrArg not Cp))
  | str j=>obtain⟨e,rfl⟩:=d;exact PySem.EqMixed.ne_bool_str (bA I q Zs)
  | _=>exact ZM (show false=true from f) ZX
 | int i=>
  obtain⟨t,rfl⟩:=g
  cases y with
  | non=>cases d;exact PySem.EqNone.ne_int_none (bA I q Zs)
  | int j=>obtain⟨e,rfl⟩:=d;exact ne_int (bA I q (congrArg not xU))
  | str j=>obtain⟨e,rfl⟩:=d;exact PySem.EqMixed.ne_int_str (bA I q Zs)
  | _=>exact ZM (show false=true from f) ZX
 | str i=>
  obtain⟨t,rfl⟩:=g
  cases y with
  | non=>cases d;exact PySem.EqNone.ne_str_none (bA I q Zs)
  | bl j=>cases d;exact PySem.EqMixed.ne_str_bool (bA I q Zs)
  | int j=>obtain⟨e,rfl⟩:=d;exact PySem.EqMixed.ne_str_int (bA I q Zs)
  | str j=>obtain⟨e,rfl⟩:=d;exact ne_str (bA I q (congrArg not xV))
  | _=>exact ZM (show false=true from f) ZX
 | byt i=>
  obtain⟨t,rfl⟩:=g
  cases y with
  | byt j=>obtain⟨e,rfl⟩:=d;exact W.ne_bytes (bA I q (congrArg not xW))
  | _=>exact ZM (show false=true from f) ZX
 | _=>cases y<;>exact ZM (show false=true from f) ZX
def Uu:OpR X (compareOp .Lt) (Jc λi j=>.bl (decide (i<j))):=Jd λ_ _ _ _ _ _ _ q=>lt_int q
def Uv:OpR X (compareOp .LtE) (Jc λi j=>.bl (decide (i<=j))):=Jd λ_ _ _ _ _ _ _ q=>le_int q
def Uw:OpR X (compareOp .Gt) (Jc λi j=>.bl (decide (j<i))):=Jd λ_ _ _ _ _ _ _ q=>gt_int q
def Ux:OpR X (compareOp .GtE) (Jc λi j=>.bl (decide (j<=i))):=Jd λ_ _ _ _ _ _ _ q=>ge_int q
def Aa:OpR X (compareOp .In) (λx y H Q=>∃i j,x=.str i/\y=.str j/\Q (.bl (!(Builtin.Str.occurrences j i 0 j.length 1).isEmpty)) H):=by
 intro f s k H x y v u Q I d e h;obtain⟨i,j,rfl,rfl,q⟩:=h;obtain⟨t,rfl⟩:=d;obtain⟨g,rfl⟩:=e;exact in_str (bA I q rfl)
def Pw:OpR X (compareOp .Is) (λx y H Q=>y=.non/\Q (.bl (decide (x=.non))) H):=by
 intro f s g H x y v u Q I d e h;obtain⟨rfl,q⟩:=h;cases e;refine is_none_gen (bA I q ?_);cases x<;>first
  | (cases d;rfl)
  | (obtain⟨t,rfl⟩:=d;rfl)
def Je:OpR X (compareOp .IsNot) (λx y H Q=>y=.non/\Q (.bl (!decide (x=.non))) H):=by
 intro f s g H x y v u Q I d e h;obtain⟨rfl,q⟩:=h;cases e;refine isnot_none_gen (bA I q ?_);cases x<;>first
  | (cases d;rfl)
  | (obtain⟨t,rfl⟩:=d;rfl)
def rJ(b:Expr){op:CmpOp}(h:op≠.In:=by decide)(d:op≠.NotIn:=by decide):behindInMarks op b=false:=by
 have e:(op==CmpOp.In)=false:=by cases op<;>first|rfl|exact ZM rfl h
 have f:(op==CmpOp.NotIn)=false:=by cases op<;>first|rfl|exact ZM rfl d
 cases b<;>simp[behindInMarks,e,f]
def Jf{op:CmpOp}{r:R2}(e:OpR X (compareOp op) r)(f:PE X a ta)(g:PE X b tb)(i:behindInMarks op b=false):PE X (.Compare a [op] [b] pos) (zZ r ta tb):=by
 intro d s o H Q I h;exact wpAny_Compare1 (Pl f g I h λv u j x y k l m n q=>e d j o k x y v u Q l m n q) i
def xX(t:TE):TT:=λe H Q=>t e H λx d=>∃k,x=.bl k/\Q k d
def Jg{op:CmpOp}{r:R2}(g:OpR X (compareOp op) r)(i:PE X a ta)(j:PE X b tb)(l:behindInMarks op b=false):PT X (.Compare a [op] [b] pos) (xX (zZ r ta tb)):=by
 intro d s f H Q I h;refine wpAny_isTrue_Compare1 (bP (i d s f H _ I h) λv m ⟨x,n,o,p,q⟩=>bP (j d m f n _ o q) λu t ⟨y,w,A,B,C⟩=>
  bP (g d t f w x y v u _ A p B C) λc J ⟨z,D,E,F,k,e,G⟩=>?_) l
 subst e;cases F;exact wpAny_truthy_bool ⟨D,E,G⟩
def rK(r f:R2)(ta tb tc:TE):TE:=λd H Q=>ta d H λx g=>tb d g λy h=>r x y h λz e=>∃k,z=.bl k ∧
 (if k=true then tc d e λi j=>f y i j Q else Q (.bl false) e)
def Cq{op i:CmpOp}{r j:R2}(p:OpR X (compareOp op) r)(q:OpR X (compareOp i) j)(t:PE X a ta)(w:PE X b tb)(A:PE X c tc)(B:lastMarks [op,i] [b,c]=false:=by with_unfolding_all rfl):PE X (.Compare a [op,i] [b,c] pos) (rK r j ta tb tc):=by
 intro f s g H Q I h;refine Compare_chain (bP (t f s g H _ I h) λv C ⟨x,D,E,F,G⟩=>chain_link (bP (w f C g D _ E G) λu J ⟨y,K,L,l,M⟩=>
  bP (p f J g K x y v u _ L F l M) λd N ⟨z,m,n,O,k,e,o⟩=>?_)) B
 subst e;cases O;refine wpAny_truthy_bool ?_
 cases k with
 | false=>exact ite_ff ⟨.bl false,m,n,rfl,o⟩
 | true=>exact ite_tt (chain_last (bP (A f N g m _ n o) λP R ⟨S,T,U,V,W⟩=>q f R g T y S u P Q U l V W))
def Cr{op f:CmpOp}{r g:R2}(n:OpR X (compareOp op) r)(o:OpR X (compareOp f) g)(p:PE X a ta)(q:PE X b tb)(t:PE X c tc)(w:lastMarks [op,f] [b,c]=false:=by with_unfolding_all rfl):PT X (.Compare a [op,f] [b,c] pos) (xX (rK r g ta tb tc)):=by
 intro d s e H a2 I h;refine isTrue_chain (bP (p d s e H _ I h) λv x ⟨a0,z,A,B,C⟩=>test_link (bP (q d x e z _ A C) λu D ⟨y,E,F,i,G⟩=>
  bP (n d D e E a0 y v u _ F B i G) λa3 J ⟨a4,j,l,K,k,a1,m⟩=>?_)) w
 subst a1;cases K;refine wpAny_truthy_bool ?_
 cases k with
 | false=>
  obtain⟨k',L,M⟩:=m;cases L;exact ite_ff ⟨j,l,M⟩
 | true=>
  refine ite_tt (test_last (bP (t d J e j _ l m) λN O ⟨P,Q,R,S,T⟩=>bP (o d O e Q y P u N _ R i S T) ?_));rintro d' s5 ⟨z2,U,V,W,k2,Y,Z⟩;subst Y;cases W;exact wpAny_truthy_bool ⟨U,V,Z⟩
def lS:(sizeLine:Nat)<2^63:=by rw[sizeLine_eq];decide
def vO:OpR X (binaryOp .Add) (λx y H Q=>∃i j,x=.str i/\y=.str j/\i.length+j.length<=sizeLine/\Q (.str (i++j)) H):=by
 intro k s l H x y v u Q I d e h;obtain⟨i,j,rfl,rfl,f,q⟩:=h;obtain⟨t,rfl⟩:=d;obtain⟨g,rfl⟩:=e;exact add_str (λg tk=>⟨.str (i++j),H,I.tok _,⟨_,rfl⟩,q⟩) f
def iB{x:V}{us:List ZQ}(r:Vals [x] us):∃u,us=[u]/\RelV x u:=by
 cases r with
 | cons d e=>cases e;exact⟨_,rfl,d⟩
def Uy{x y:V}{us:List ZQ}(r:Vals [x,y] us):∃u d,us=[u,d]/\RelV x u/\RelV y d:=by
 cases r with
 | cons e f=>
  cases f with
  | cons g h=>cases h;exact⟨_,_,rfl,e,g⟩
def Ab(e:X.calm=true):CallR X (.builtin "min") (λxs H Q=>∃i j,xs=[.int i,.int j]/\Q (.int (if j<i then j else i)) H):=by
 intro f s o H xs g Q I r h;obtain⟨i,j,rfl,q⟩:=h;obtain⟨u,l,rfl,⟨t,rfl⟩,⟨m,rfl⟩⟩:=Uy r;refine min_two_ints (I.ok.hd e) λn tk k=>⟨_,H,I.kept k,?_,q⟩;by_cases d:j<i
 ·rw[ZO d,ZO d];exact⟨_,rfl⟩
 ·rw[ZN d,ZN d];exact⟨_,rfl⟩
def Ac:CallR X (.type "int") (λxs H Q=>(∃i,xs=[.int i]/\Q (.int i) H)∨∃k,xs=[.bl k]/\Q (.int (if k then 1 else 0)) H):=by
 intro e s g H xs f Q I r h;rcases h with⟨i,rfl,q⟩|⟨k,rfl,q⟩
 ·obtain⟨u,rfl,t,rfl⟩:=iB r;exact call_int_int ⟨.int i,H,I,⟨_,rfl⟩,q⟩
 ·obtain⟨u,rfl,d⟩:=iB r;cases d;exact call_int_bool ⟨.int (if k then 1 else 0),H,I.tok _,⟨_,rfl⟩,q⟩
def rL:CallR X (.type "str") (λxs H Q=>∃i,xs=[.int i]/\i.natAbs.log2<1920/\Q (.str (toString i)) H):=by
 intro e s g H xs f Q I r h;obtain⟨i,rfl,d,q⟩:=h;obtain⟨u,rfl,t,rfl⟩:=iB r;exact PySem.P.str_of_int d ⟨.str _,H,I.tok _,⟨_,rfl⟩,q⟩
end
structure ObjM(h:Heap)(x dx C:ZR)(mA:Z7):Prop where
 obj:h.get? x=some (W.instObj C dx)
 ns:h.Ns1 dx mA
 ne:dx≠x
def Ad{h:Heap}{b:ZR}{c:Z7}(n:h.Ns1 b c):∃d,h.get? b=some d/\∀name,W.lookIn name d=some (c name):=by
 obtain⟨o,f,r,g,i,j,_,k⟩:=n;refine⟨o,g,λname=>?_⟩;have e:=k name;unfold nsFind findBy at e;rw[<- Array.find?_toList]at e;unfold W.lookIn;rw[i];dsimp only;split
 ·rename_i y q;rw[q]at e;exact congrArg some e
 ·rename_i q;rw[q]at e;have a:f.toList.any (·.refKey)=false:=by
   rw[List.any_eq_false];intro y l;obtain⟨z,t,m⟩:=j y (Array.mem_toList_iff.mp l);simp[DictEntry.refKey,m]
  have p:¬ f.toList.any (·.refKey)=true:=by rw[a];exact ZX
  rw[ZN p];exact congrArg some e
def ObjM.look{h:Heap}{x b C:ZR}{c:Z7}(I:ObjM h x b C c):∃a,W.InstAt h x (W.instObj C b) C (some a)/\∀name,W.lookIn name a=some (c name):=
 let ⟨a,d,e⟩:=Ad I.ns
 ⟨a,⟨I.obj,rfl,rfl,d⟩,e⟩
section
variable {prog:Program}{w:World}{A:Around}{E:Z8}{s:ZP}{K:W.Frag}{x dx C f:ZR}{mA:Z7}{name:Str}{v:ZQ}
def Jh{a:Bool}{Q:Z8}(X:K.In s.heap)(I:ObjM s.heap x dx C mA)(b:W.plainGet K C name=true)(c:W.hasDictIn K C=true)(d:W.findIn K (.ref C) name=some none)(e:mA name=some v)(g:W.handedIn v=true)(h:Q v {s with toks:=s.toks+1 }) :
  wpAny (model prog w) A (getAttr (.ref x) name a) Q E s:=by
 obtain⟨j,J,i⟩:=I.look;exact W.get_value X J (W.plainGet_of b).1 (W.findObj_own c d rfl (by rw[i,e])) g h
def Cs{pl:Sem Bool}{Q:ZQ×List ZQ->ZP->Prop}(X:K.In s.heap)(I:ObjM s.heap x dx C mA)(a:W.plainGet K C name=true)(b:W.findIn K (.ref C) name=some (some (.ref f)))(c:W.isFn K (.ref f)=true)(d:mA name=none)(h:Q (.ref f,[.ref x]) s) :
  wpAny (model prog w) A (getMethod (.ref x) name pl) Q E s:=by
 obtain⟨e,J,g⟩:=I.look;exact W.method_fn X J (W.plainGet_of a).1 (W.plainGet_of a).2 b (beq_iff_eq.mp c) (by show(W.lookIn name e).map (·.isSome)=some false;rw[g,d];rfl) h
def Ji{c:List Str}{Q:Unit->ZP->Prop}(X:K.In s.heap)(I:ObjM s.heap x dx C mA)(g:W.findIn K (.ref C) "__setattr__"=some (some (.builtin "object.__setattr__")))(i:W.plainOver K C=true)(j:W.takerIn K C name=some none)(k:W.hasDictIn K C=true)(l:PySem.Within mA c)(hsz:c.length<=sizeLine)(h:∀h',ObjM h' x dx C (λy=>if y=name then some v else mA y)->Heap.SameBut dx s.heap h'->Q () {s with heap:=h',toks:=s.toks+2 }) :
  wpAny (model prog w) A (setAttr (.ref x) name v) Q E s:=by
 obtain⟨u,J,z⟩:=I.look;refine W.set_plain X J g (W.osa_open (s:={s with toks:=s.toks+1 }) (r:=none) X J i j λb=>?_);obtain⟨B,m,n⟩:=W.any_some k;have o:s.heap.get? x=some ⟨.ref C,some dx,.plain,#[]⟩:=I.obj;refine ZZ (ZY (ZZ (ZZ (wpAny_loadPart o (ZZ (W.Looks.here (s:={s with toks:=s.toks+1 }) (W.looks_clsIn X m) ?_))))));rw[n];refine ZY (a:=some dx) (ZZ (ZY (ZZ ?_)));refine wpAny_nsSet1 (s:={s with toks:=s.toks+1 }) I.ns λh' d e=>?_;obtain⟨D,F,G,p,q,t⟩:=d.count (PySem.Within.cons name v l);refine ZZ (wpAny_lookBehind p (by rw[q];exact pastItsLine_dict (hZ t (by rw[vG];omega))) ?_);exact ZY (h _ ⟨(e.2 _ (Ne.symm I.ne)).trans I.obj,d,I.ne⟩ e)
def Ct{R:Result->ZP->Prop}{vs:List ZQ}{a:List (Str × Value)}(X:K.In s.heap)(c:W.makesIn K C=true)(e:W.findIn K (.ref C) "__init__"=some (some (.ref f)))(i:W.typeIn K (.ref f)=some (.type "function"))(h:codeAny (model prog w) (A.under (.builtin "type.__call__" ⟨.ref C::vs,a⟩)) (.call (.ref f) ⟨.ref (s.heap.objs.size+1)::vs,a⟩) (W.InitBack (s.heap.objs.size+1) R)
   {s with heap:=(s.heap.push W.emptyDict).push (W.instObj C s.heap.objs.size) }) :
  codeAny (model prog w) A (.call (.ref C) ⟨vs,a⟩) R s:=by
 obtain⟨j,g,d,t,os⟩:=s;exact W.make_core (W.makes_of X c) (W.looks_findIn X e) (λb=>W.bind_fn X b i) (.inl rfl) h
end
def eS(f:Str)(v:V):List (Str×V)->List (Str×V)
 | []=>[(f,v)]
 | (g,x)::r=>if g=f then (g,v)::r else (g,x)::eS f v r
theorem mM(f g:Str)(v:V):∀fs:List (Str×V),(eS f v fs).lookup g=if g=f then some v else fs.lookup g
 | []=>by
  show List.lookup g [(f,v)]=_;by_cases h:g=f
  ·have a:(g==f)=true:=beq_iff_eq.mpr h;simp only [List.lookup,a,ZO h]
  ·have a:(g==f)=false:=beq_eq_false_iff_ne.mpr h;simp only [List.lookup,a,ZN h]
 | (k,x)::r=>by
  have c:=mM f g v r;rw[show eS f v ((k,x)::r)=(if k=f then (k,v)::r else (k,x)::eS f v r) from rfl];by_cases b:k=f
  ·rw[ZO b];by_cases h:g=k
   ·have a:(g==k)=true:=beq_iff_eq.mpr h;simp only [List.lookup,a,ZO (h.trans b)]
   ·have a:(g==k)=false:=beq_eq_false_iff_ne.mpr h;simp only [List.lookup,a,ZN (λe:g=f=>h (e.trans b.symm))]
  ·rw[ZN b];by_cases h:g=k
   ·have a:(g==k)=true:=beq_iff_eq.mpr h;simp only [List.lookup,a,ZN (λe:g=f=>b (h.symm.trans e))]
   ·have a:(g==k)=false:=beq_eq_false_iff_ne.mpr h;simp only [List.lookup,a];exact c
def lT(f:Str)(v:V):∀fs:List (Str×V),f∈(eS f v fs).map (·.1)/\∀g,g∈fs.map (·.1)->g∈(eS f v fs).map (·.1)
 | []=>⟨by simp[eS],λg h=>by simp at h⟩
 | (k,x)::r=>by
  obtain⟨b,c⟩:=lT f v r;rw[show eS f v ((k,x)::r)=(if k=f then (k,v)::r else (k,x)::eS f v r) from rfl];by_cases a:k=f
  ·rw[ZO a];subst a;exact⟨Zs,λg h=>by simpa using h⟩
  ·rw[ZN a];refine⟨?_,λg h=>?_⟩
   ·rw[map_cons];exact nD _ b
   ·rw[map_cons]at h ⊢;rcases mem_cons.mp h with e|e
    ·exact mem_cons.mpr (.inl e)
    ·exact nD _ (c g e)
theorem mN(f:Str)(v:V):∀fs:List (Str×V),(eS f v fs).length<=fs.length+1
 | []=>by simp[eS]
 | (k,x)::r=>by
  have b:=mN f v r;rw[show eS f v ((k,x)::r)=(if k=f then (k,v)::r else (k,x)::eS f v r) from rfl];by_cases a:k=f
  ·rw[ZO a,vG,vG];omega
  ·rw[ZN a,vG,vG];omega
def RelO.some_of{v:V}{o:Option ZQ}(r:RelO (some v) o):∃u,o=some u/\RelV v u:=by
 cases o with
 | none=>exact(show False from r).elim
 | some u=>exact⟨u,rfl,r⟩
def RelO.none_of{o:Option ZQ}(r:RelO none o):o=none:=by
 cases o with
 | none=>rfl
 | some u=>exact(show False from r).elim
def Ae{v:V}{u:ZQ}(r:RelV v u):W.handedIn u=true:=by
 cases v with
 | non=>cases(show u=Value.none from r);rfl
 | bl b=>cases(show u=Value.bool b from r);rfl
 | int i=>obtain⟨t,e⟩:=(show ∃t,u=Value.int i t from r);cases e;rfl
 | str x=>obtain⟨t,e⟩:=(show ∃t,u=Value.str x t from r);cases e;rfl
 | byt b=>obtain⟨t,e⟩:=(show ∃t,u=Value.bytes b t from r);cases e;rfl
 | flt b=>obtain⟨t,e⟩:=(show ∃t,u=Value.float b t from r);cases e;rfl
 | ref a=>cases(show u=Value.ref a from r);rfl
 | ty n=>cases(show u=Value.type n from r);rfl
section
variable {P:Program}{w:World}{H H':Hp}{h h':Heap}{a C dx:ZR}{fs GC:List (Str×V)}
def nM(c:HOk P w H h)(e:H a=some (.ins C dx fs)):∃b,ObjM h a dx C b/\(∀f,RelO (fs.lookup f) (b f))/\PySem.Within b (fs.map (·.1))/\fs.length<=1000/\H dx=some (.own a):=by
 obtain⟨d,z,ne,g,b,n,r,q⟩:=(show ObjOk P w H h a (.ins C dx fs) from c a _ e);exact⟨b,⟨g,n,ne⟩,r,q,z,d⟩
end
structure Cls(K:W.Frag)(C:ZR):Prop where
 pg:W.plainGet K C Str.empty=true
 hd:W.hasDictIn K C=true
 po:W.plainOver K C=true
 sa:W.findIn K (.ref C) "__setattr__"=some (some (.builtin "object.__setattr__"))
def Cls.get{K:W.Frag}{C:ZR}(c:Cls K C)(f:Str):W.plainGet K C f=true:=c.pg
def NoAttr(K:W.Frag)(C:ZR)(f:Str):Prop:=W.findIn K (.ref C) f=some none
def NoAttr.taker{K:W.Frag}{C:ZR}{f:Str}(n:NoAttr K C f):W.takerIn K C f=some none:=by
 unfold W.takerIn;rw[show W.findIn K (.ref C) f=some none from n];rfl
structure Px(K:W.Frag)(C:ZR)(m:Str)(f:ZR):Prop where
 at_:W.findIn K (.ref C) m=some (some (.ref f))
 fn:W.isFn K (.ref f)=true
 kp:W.keepIn K (.ref f)=true
section
variable {X:Cx}{pins:Z9}{σ:St}{H:Hp}{s:ZP}{a C dx:ZR}{fs:List (Str×V)}{f:Str}{v:V}{A:Around}{E:Z8}
def vP{b:Bool}{Q:Z8}(I:Inv X pins σ H s)(e:H a=some (.ins C dx fs))(c:Cls X.K C)(n:NoAttr X.K C f)(l:fs.lookup f=some v)(h:∀u d,Inv X pins σ H d->RelV v u->Q u d):wpAny (model X.prog X.w) A (getAttr (.ref a) f b) Q E s:=by
 obtain⟨i,O,r,_,_,_⟩:=nM I.hok e;obtain⟨u,j,g⟩:=RelO.some_of (v:=v) (o:=i f) (by rw[<- l];exact r f);exact Jh I.kIn O (c.get f) c.hd n j (Ae g) (h u _ (I.tok _) g)
def nW{m:Str}{g:ZR}{pl:Sem Bool}{Q:ZQ×List ZQ->ZP->Prop}(I:Inv X pins σ H s)(e:H a=some (.ins C dx fs))(c:Cls X.K C)(k:Px X.K C m g)(l:fs.lookup m=none)(h:Q (.ref g,[.ref a]) s):wpAny (model X.prog X.w) A (getMethod (.ref a) m pl) Q E s:=by
 obtain⟨b,O,r,_,_,_⟩:=nM I.hok e;have d:b m=none:=RelO.none_of (by rw[<- l];exact r m);exact Cs I.kIn O (c.get m) k.at_ k.fn d h
def vQ{y:V}{u:ZQ}{Q:Unit->ZP->Prop}(I:Inv X pins σ H s)(e:H a=some (.ins C dx fs))(c:Cls X.K C)(n:NoAttr X.K C f)(J:fs.length<1000)(m:RelV y u)(h:∀i,Inv X pins σ (aK H a (.ins C dx (eS f y fs))) i->Q () i):wpAny (model X.prog X.w) A (setAttr (.ref a) f u) Q E s:=by
 obtain⟨j,O,r,k,_,l⟩:=nM I.hok e;have p:(fs.map (·.1)).length<=sizeLine:=by rw[bF,sizeLine_eq];omega
 refine Ji I.kIn O c.sa c.po n.taker c.hd k p λt d w=>h _ ?_;have B:∃o,t.get? dx=some o:=let ⟨o,_,_,D,_⟩:=d.ns;⟨o,D⟩;refine I.write (x:=a) (e:=dx) (by rw[e];exact True.intro) (.inr l) (λb q F z=>(w.2 b F).trans z) B ?_;refine⟨by rw[aF O.ne];exact l,?_,O.ne,d.obj,_,d.ns,λg=>?_,λg G=>?_⟩
 ·have:=mN f y fs;omega
 ·show RelO ((eS f y fs).lookup g) (if g=f then some u else j g);rw[mM];by_cases q:g=f
  ·rw[ZO q,ZO q];exact m
  ·rw[ZN q,ZN q];exact r g
 ·by_cases q:g=f
  ·rw[q];exact(lT f y fs).1
  ·refine(lT f y fs).2 g (k g λz=>G ?_);show(if g=f then some u else j g)=none;rw[ZN q];exact z
def Inv.made(I:Inv X pins σ H s):Inv X pins σ (aK (aK H s.heap.objs.size (.own (s.heap.objs.size+1))) (s.heap.objs.size+1) (.ins C s.heap.objs.size []))
  {s with heap:=(s.heap.push W.emptyDict).push (W.instObj C s.heap.objs.size) }:=by
 have c:(s.heap.push W.emptyDict).get? s.heap.objs.size=some W.emptyDict:=ZS s.heap rfl;have d:((s.heap.push W.emptyDict).push (W.instObj C s.heap.objs.size)).get? (s.heap.objs.size+1)=some (W.instObj C s.heap.objs.size):=by
  have:=ZS (s.heap.push W.emptyDict) (o:=W.instObj C s.heap.objs.size) rfl
  rwa [Heap.size_push]at this
 have g:(s.heap.push W.emptyDict).Ns s.heap.objs.size (λ_=>none):=⟨W.emptyDict,#[],_,c,rfl,(λe h=>ZM h Zs),λ_=>rfl⟩;have i:=I.laid (a:=s.heap.objs.size) (o:=.own (s.heap.objs.size+1)) (h':=s.heap.push W.emptyDict) (t':=s.toks) (λb u q=>iE _ q) (bQ _) ⟨_,c⟩;refine i.laid (a:=s.heap.objs.size+1) (o:=.ins C s.heap.objs.size []) (t':=s.toks) (λb u q=>iE _ q) (le_of_eq (Heap.size_push _ _)) ?_;have ne:s.heap.objs.size≠s.heap.objs.size+1:=ne_of_lt (lt_succ_self _);refine⟨by rw[aF ne,aA],zero_le _,ne,d,λ_=>none,(Heap.Ns1.of_empty g).at λo q=>iE _ q,λ_=>True.intro,λy j=>ZM rfl j⟩
def Jj{prog:Program}{w:World}{env:Env}{e:Expr}{f:Str}{pos:Pos}{s:ZP}{Q:Z8}(c:attributeBase e f env (eval e env)=eval e env)(h:wpAny (model prog w) A (eval e env) (λo b=>wpAny (model prog w) A (getAttr o f true) Q E b) E s):wpAny (model prog w) A (eval (.Attribute e f pos) env) Q E s:=
 Attribute_any_ h (by rw[arm_eval_Attribute,c])
end
section
variable {X:Cx}{pins:Z9}{σ:St}{H:Hp}{s:ZP}{A:Around}{E:Z8}{Q:Z8}{c:ZQ}{b:Bool}
inductive kM(K:W.Frag)(H:Hp):V->ZQ->Prop where
 | non:kM K H .non (.type "NoneType")
 | bl (x:Bool):kM K H (.bl x) (.type "bool")
 | int (i:Int):kM K H (.int i) (.type "int")
 | str (x:Str):kM K H (.str x) (.type "str")
 | flt (x:UInt64):kM K H (.flt x) (.type "float")
 | lst {a:ZR}{xs:List V} (e:H a=some (.lst xs)):kM K H (.ref a) (.type "list")
 | frz {a:ZR}{o:Obj}{xs:List V} (e:H a=some (.frz o (.lst xs))):kM K H (.ref a) (.type "list")
 | tup {a:ZR}{xs:List V} (e:H a=some (.tup xs)):kM K H (.ref a) (.type "tuple")
 | dK {a:ZR}{kvs:List (aX×V)} (e:H a=some (.dK kvs)):kM K H (.ref a) (.type "dict")
 | dT {a:ZR}{kvs:List (List aX×V)} (e:H a=some (.dT kvs)):kM K H (.ref a) (.type "dict")
 | ins {a C dx:ZR}{fs:List (Str×V)} (e:H a=some (.ins C dx fs)) (cl:Cls K C) (ha:W.findIn K (.ref C) "__class__"=some (some (.builtin "object.__class__")))
   (hn:W.specialIn K (.builtin "object.__class__") "__get__"=some (some (.builtin "getset_descriptor.__get__"))) (htk:W.takesIn K (.builtin "object.__class__")=some true)
   (hm:W.mroIn K C (.type "object")=some true):kM K H (.ref a) (.ref C)
def Af{x:V}{u t:ZQ}(I:Inv X pins σ H s)(d:RelV x u)(ty:kM X.K H x t)(e:W.kitOne X.K t c=some b)(h:∀tk,Q (.bool b) {s with toks:=tk }) :
  wpAny (model X.prog X.w) A (call (.builtin "isinstance") [u,c]) Q E s:=by
 cases ty with
 | non=>cases(show u=Value.none from d);exact W.kia_one W.kitx_none I.kIn True.intro e nofun h
 | bl y=>cases(show u=Value.bool y from d);exact W.kia_one W.kitx_bool I.kIn True.intro e nofun h
 | int i=>obtain⟨t,q⟩:=(show ∃t,u=Value.int i t from d);cases q;exact W.kia_one W.kitx_int I.kIn True.intro e nofun h
 | str y=>obtain⟨t,q⟩:=(show ∃t,u=Value.str y t from d);cases q;exact W.kia_one W.kitx_str I.kIn True.intro e nofun h
 | flt y=>obtain⟨t,q⟩:=(show ∃t,u=Value.float y t from d);cases q;exact W.kia_one W.kitx_float I.kIn True.intro e nofun h
 | @lst a j f=>
  cases(show u=Value.ref a from d);obtain⟨_,_,n,_,g⟩:=(show ObjOk X.prog X.w H s.heap a (.lst j) from I.hok a _ f);exact W.kia_one W.kitx_list I.kIn ⟨_,g,rfl⟩ e nofun h
 | @frz a v j f=>
  cases(show u=Value.ref a from d);obtain⟨_,_,_,n,_,g⟩:=(show ObjOk X.prog X.w H s.heap a (.frz v (.lst j)) from I.hok a _ f);exact W.kia_one W.kitx_list I.kIn ⟨_,g,rfl⟩ e nofun h
 | @tup a j f=>
  cases(show u=Value.ref a from d);obtain⟨_,_,_,p⟩:=(show ObjOk X.prog X.w H s.heap a (.tup j) from I.hok a _ f);obtain⟨o,g,k,_⟩:=p;exact W.kia_one W.kitx_tuple I.kIn ⟨o,g,k⟩ e nofun h
 | @dK a l f=>
  cases(show u=Value.ref a from d);obtain⟨_,_,vs,_,p⟩:=(show ObjOk X.prog X.w H s.heap a (.dK l) from I.hok a _ f);obtain⟨o,w,z,g,k,_⟩:=p;exact W.kia_one W.kitx_dict I.kIn ⟨o,g,k.1⟩ e nofun h
 | @dT a l f=>
  cases(show u=Value.ref a from d);obtain⟨_,_,j,_,o,w,z,g,k,_⟩:=(show ObjOk X.prog X.w H s.heap a (.dT l) from I.hok a _ f);exact W.kia_one W.kitx_dict I.kIn ⟨o,g,k.1⟩ e nofun h
 | @ins a C G fs f m B D r F=>
  cases(show u=Value.ref a from d);obtain⟨K,O,_⟩:=nM I.hok f;obtain⟨L,J,_⟩:=O.look;exact W.kia_one (W.kitx_own (m.get _) m.hd B D r F) I.kIn J e nofun h
end
structure Room(k:Nat)(A:Around):Prop where
 hd:A.handled=none
 dp:A.depth+3*k+5<recursionLimit
 un:A.units+16*k+200<cLine
def Room.mono{j k:Nat}{A:Around}(r:Room k A)(h:j<=k):Room j A:=⟨r.hd,by have:=r.dp;omega,by have:=r.un;omega⟩
def Room.deeper{k:Nat}{A:Around}(r:Room (k+1) A)(env:Env):Room k (A.deeper env):=
 ⟨r.hd,by have:=r.dp;show A.depth+1+3*k+5<_;omega,by have:=r.un;show A.units+3+16*k+200<_;omega⟩
def vR{A:Around}{C:ZR}{us:List ZQ}{a:List (Str×ZQ)}:(A.under (.builtin "type.__call__" ⟨.ref C::us,a⟩)).depth=A.depth+1:=by
 first|rfl|simp[Around.under,Code.weight,Code.isCreation,Code.isGuard,Code.isCaller,Code.frames,Code.isFrame,guardIds]
def vS{A:Around}{C:ZR}{us:List ZQ}{a:List (Str×ZQ)}:(A.under (.builtin "type.__call__" ⟨.ref C::us,a⟩)).units=A.units+1:=by
 first|rfl|simp[Around.under,Code.cUnits,Code.frames,Code.isFrame]
def Room.make{k:Nat}{A:Around}(r:Room (k+1) A)(C:ZR)(us:List ZQ)(a:List (Str×ZQ)):Room k (A.under (.builtin "type.__call__" ⟨.ref C::us,a⟩)):=
 ⟨r.hd,by have:=r.dp;rw[vR];omega,by have:=r.un;rw[vS];omega⟩
def Room.depth{k:Nat}{A:Around}(r:Room k A):A.depth<recursionLimit:=by have:=r.dp;omega
def Room.units{k:Nat}{A:Around}(r:Room k A):A.units+64<cLine:=by have:=r.un;omega
def Room.units0{k:Nat}{A:Around}(r:Room k A):A.units<cLine:=by have:=r.un;omega
def jR:TA:=λ_ H Q=>Q [] H
def fF(b:TE)(c:TA):TA:=λa H Q=>b a H λx d=>c a d λe f=>Q (x::e) f
section
variable {X:Cx}{e:Expr}{es:List Expr}{te:TE}{t:TA}{pos:Pos}
def vT:PA X [] jR:=λ_ _ _ _ H Q I h=>Calls.spliced_nil ⟨[],H,I,.nil,h⟩
def rM(c:PE X e te)(d:PA X es t)(f:starEach (e::es) X.env=(false,eval e X.env)::starEach es X.env:=by rfl):PA X (e::es) (fF te t):=by
 intro pos a s b H Q I h;rw[f];show wpAny _ _ (spliced ((false,eval e X.env)::backTo pos (starEach es X.env))) _ _ s;refine Calls.spliced_cons (bP (c a s b H _ I h) ?_);rintro u g ⟨x,i,j,k,l⟩;exact bP (d pos a g b i _ j l) λr v ⟨m,n,o,p,q⟩=>⟨x::m,n,o,.cons k p,q⟩
def Uz(t:TA):TE:=λc H Q=>t c H λa b=>a.length<=sizeLine/\∀p,b p=none->Q (.ref p) (aK b p (.tup a))
def Py(t:TA):TE:=λc H Q=>t c H λa b=>a.length<=sizeLine/\∀p,b p=none->Q (.ref p) (aK b p (.lst a))
def Pz{g}(h:PA X es t):PE X (.Tuple es g pos) (Uz t):=by
 intro f s m H Q I i;refine wpAny_Tuple_spliced (bP (h pos f s m H _ I i) λj a ⟨k,c,d,r,z,q⟩=>⟨by rw[<- r.length];exact z,?_⟩);have l:c a.heap.objs.size=none:=d.hok.fresh (bQ _);refine⟨.ref a.heap.objs.size,aK c a.heap.objs.size (.tup k),d.laid (t':=a.toks) (λb u e=>iE _ e) (bQ _) ?_,rfl,q _ l⟩;exact⟨z,j,r,⟨_,ZS _ rfl,rfl,_,rfl⟩⟩
def Qa(h:PA X es t):PE X (.List es pos) (Py t):=by
 intro f s l H Q I g;refine wpAny_List_spliced (bP (h pos f s l H _ I g) λi a ⟨j,c,d,r,z,q⟩=>⟨by rw[<- r.length];exact z,?_⟩);have k:c a.heap.objs.size=none:=d.hok.fresh (bQ _);refine⟨.ref a.heap.objs.size,aK c a.heap.objs.size (.lst j),d.laid (t':=a.toks) (λb u e=>iE _ e) (bQ _) ?_,rfl,q _ k⟩;exact⟨z,i,0,r,ZS _ rfl⟩
end
abbrev Sp:=List V->Hp->VK->XK->Prop
abbrev Il:=List Env->Hp->ZP->XK->ZQ->ZP->Prop
structure Env0(P:Program)(w:World)(K:W.Frag)(mg:Z7)(base:Heap)(A:Around)(outer:List Env)(s:ZP)(H:Hp):Prop where
 frames:A.frames=some outer
 mod:Mod K mg base
 bs:∀b o,base.get? b=some o->s.heap.get? b=some o/\H b=none
 bsz:base.objs.size<=s.heap.objs.size
 funs:s.heap.FunFrames base outer
 frf:∀b∈Ce outer,H b=none
 hok:HOk P w H s.heap
 bare:AllBare s.gens
def CE(outer:List Env)(P:Program)(w:World)(H:Hp)(s:ZP)(Q:VK)(u:ZQ)(a:ZP):Prop:=
 ∃v b,a.os=s.os/\AllBare a.gens/\Un (Ce outer) [] H b s.heap a.heap/\HOk P w b a.heap/\RelV v u/\Q v b
def CR(CX:Il)(outer:List Env)(P:Program)(w:World)(H:Hp)(s:ZP)(Q:VK)(E:XK)(r:Result)(a:ZP):Prop:=
 match r with
 | .ok (.ret u)=>CE outer P w H s Q u a
 | .ok _=>False
 | .error e=>CX outer H s E e a
structure iI(P:Program)(w:World)(K:W.Frag)(mg:Z7)(base:Heap)(CX:Il)(k:Nat)(f:ZR)(fd:FuncData)(ps:List Str)(sp:Sp):Prop where
 len:∀vs H Q E,sp vs H Q E->vs.length=ps.length
 run:∀(A:Around)(outer:List Env)(s:ZP)(H:Hp)(args:Args)(us:List ZQ)(vs:List V)(Q:VK)(E:XK),Room k A->Env0 P w K mg base A outer s H->BindsTo s fd args (ps.zip us)->Vals vs us->sp vs H Q E →
  codeAny (model P w) A (.call (.ref f) args) (CR CX outer P w H s Q E) s
def Env0.make{P:Program}{w:World}{K:W.Frag}{mg:Z7}{base:Heap}{A:Around}{outer:List Env}{s:ZP}{H:Hp}(e:Env0 P w K mg base A outer s H)(C:ZR)(us:List ZQ)(a:List (Str×ZQ)) :
  Env0 P w K mg base (A.under (.builtin "type.__call__" ⟨.ref C::us,a⟩)) outer s H:=⟨by first|exact e.frames|(simpa [Around.under,Code.envs,Code.isFrame,pushEnvs]using e.frames),e.mod,e.bs,e.bsz,e.funs,e.frf,e.hok,e.bare⟩
section
variable {X:Cx}{pins:Z9}{σ:St}{H:Hp}{s s':ZP}
def Inv.env0(I:Inv X pins σ H s):Env0 X.prog X.w X.K X.mg X.base X.A X.stack s H:=
 ⟨I.ok.frames,I.ok.mod,I.bs,hZ I.ok.bsz I.sz,I.stack,I.stkFree,I.hok,I.bare⟩
def Inv.after{Q:VK}{u:ZQ}(I:Inv X pins σ H s)(h:CE X.stack X.prog X.w H s Q u s'):EP X pins σ Q u s':=by
 obtain⟨v,e,os,a,un,c,r,q⟩:=h;obtain⟨f,g,d,t,i⟩:=s';obtain rfl:i=s.os:=os;exact⟨v,e,I.call (h':=f) (g':=g) (d':=d) (t':=t) (ch:=[]) un c a (λb z=>ZM z Zs),r,q⟩
end
def Va(sp:Sp)(dvs:List V)(E:XK)(t:TA):TE:=λb H Q=>t b H λvs a=>sp (vs++dvs) a Q E
def Cu(C:ZR)(sp:Sp)(dvs:List V)(E:XK)(t:TA):TE:=λd H Q=>t d H λvs b=>∀x a,b x=none->b a=none->a≠x →
 sp (.ref x::(vs++dvs)) (aK (aK b a (.own x)) x (.ins C a [])) (λv c=>v=.non/\Q (.ref x) c) E
def Binds(K:W.Frag)(b:FuncData)(ps:List Str)(ds:List ZQ):Prop:=
 ∀(s:ZP)(a:List ZQ),K.In s.heap->(a++ds).length=ps.length->BindsTo s b ⟨a,[]⟩ (ps.zip (a++ds))
def Binds.all{K:W.Frag}{a:FuncData}{ps:List Str}(h:∀us:List ZQ,us.length=ps.length->bindArgs a ⟨us,[]⟩=pure (ps.zip us)):Binds K a ps []:=λs us _ b=>by
 rw[append_nil]at b ⊢;exact .of_eq (h us b)
def nX(CX:Il)(X:Cx)(E:XK):Prop:=∀(b:Z9)(c:St)(H:Hp)(s:ZP)(e:ZQ)(a:ZP),Inv X b c H s->CX X.stack H s E e a->X.xe e a
section
variable {X:Cx}{CX:Il}{k:Nat}{f C:ZR}{fd:FuncData}{ps:List Str}{sp:Sp}{dvs:List V}{ds:List ZQ}{E:XK}{x m:Str}{p pos apos:Pos}{e o:Expr}{es:List Expr}{ta:TE}{t:TA}
def vU{b:Z9}{c:St}{H:Hp}{s:ZP}{Q:VK}{us:List ZQ}{vs:List V}(F:iI X.prog X.w X.K X.mg X.base CX k f fd ps sp)(g:Room k X.A)(i:Binds X.K fd ps ds)(j:Vals dvs ds)(l:nX CX X E)(I:Inv X b c H s)(r:Vals vs us)(h:sp (vs++dvs) H Q E):wpAny (model X.prog X.w) X.A (call (.ref f) us) (EP X b c Q) X.xe s:=by
 have d:Vals (vs++dvs) (us++ds):=r.append j;have n:(us++ds).length=ps.length:=by rw[<- d.length];exact F.len _ _ _ _ h
 refine wpAny_call (codeAny_mono (F.run X.A X.stack s H ⟨us,[]⟩ (us++ds) (vs++dvs) Q E g I.env0 (i s us I.kIn n) d h) λr q a=>?_)
 cases r with
 | error e=>exact l b c H s e q I a
 | ok v=>
  cases v with
  | ret u=>exact I.after a
  | next=>exact False.elim a
  | brk=>exact False.elim a
  | cont=>exact False.elim a
def Jk(F:iI X.prog X.w X.K X.mg X.base CX k f fd ps sp)(c:Room k X.A)(d:Gl X x)(g:X.mg x=some (.ref f))(i:W.keepIn X.K (.ref f)=true)(j:Binds X.K fd ps ds)(l:Vals dvs ds)(n:nX CX X E)(u:PA X (e::es) t)(v:(x==("__debug__":Str))=false:=by decide)(w:starEach (e::es) X.env=(false,eval e X.env)::starEach es X.env:=by rfl)(y:(backTo pos (starEach es X.env)).any (·.1)=false:=by rfl) :
  PE X (.Call (.Name x p) (e::es) [] pos) (Va sp dvs E t):=by
 intro b s z H Q I h;refine wpAny_Call_Name_kw (rF I d g ?_ v);refine W.callWith_K (h₀:=X.base) I.ok.mod.kin i (bP (u pos b s z H _ I h) λA B ⟨vs,D,a,r,q⟩=>⟨a.kIn,?_⟩) w y;exact vU F c j l n a r q
structure Mk(K:W.Frag)(C f:ZR):Prop where
 makes:W.makesIn K C=true
 init:W.findIn K (.ref C) "__init__"=some (some (.ref f))
 fn:W.isFn K (.ref f)=true
 kp:W.keepIn K (.ref C)=true
def Cv{d:Z9}{g:St}{H:Hp}{s:ZP}{Q:VK}{us:List ZQ}{vs:List V}(M:Mk X.K C f)(F:iI X.prog X.w X.K X.mg X.base CX k f fd ps sp)(l:Room (k+1) X.A)(n:Binds X.K fd ps ds)(q:Vals dvs ds)(w:nX CX X E)(I:Inv X d g H s)(r:Vals vs us)(h:∀x b,H x=none->H b=none->b≠x->sp (.ref x::(vs++dvs)) (aK (aK H b (.own x)) x (.ins C b [])) (λv y=>v=.non/\Q (.ref x) y) E) :
  wpAny (model X.prog X.w) X.A (call (.ref C) us) (EP X d g Q) X.xe s:=by
 have i:=h (s.heap.objs.size+1) s.heap.objs.size (I.hok.fresh (le_succ _)) (I.hok.fresh (bQ _)) (ne_of_lt (lt_succ_self _));have c:=Inv.made (C:=C) I;have j:Vals (V.ref (s.heap.objs.size+1)::(vs++dvs)) (Value.ref (s.heap.objs.size+1)::(us++ds)):=.cons rfl (r.append q);have z:(Value.ref (s.heap.objs.size+1)::us++ds).length=ps.length:=by
  have e:=j.length;rw[F.len _ _ _ _ i]at e;exact e.symm
 refine wpAny_call (Ct (f:=f) I.kIn M.makes M.init (beq_iff_eq.mp M.fn) (codeAny_mono (F.run _ X.stack _ _ ⟨Value.ref (s.heap.objs.size+1)::us,[]⟩ (Value.ref (s.heap.objs.size+1)::(us++ds)) _ _ E (l.make C us [])
  (c.env0.make C us []) (n _ (Value.ref (s.heap.objs.size+1)::us) c.kIn z) j i) λr A a=>?_))
 cases r with
 | error e=>exact w d g _ _ e A c a
 | ok B=>
  cases B with
  | ret u=>
   obtain⟨v,D,G,J,K,L⟩:=c.after a;subst K;exact⟨J,⟨V.ref (s.heap.objs.size+1),D,G,rfl,L⟩⟩
  | next=>exact False.elim a
  | brk=>exact False.elim a
  | cont=>exact False.elim a
def Cw(M:Mk X.K C f)(F:iI X.prog X.w X.K X.mg X.base CX k f fd ps sp)(a:Room (k+1) X.A)(b:Gl X x)(c:X.mg x=some (.ref C))(d:Binds X.K fd ps ds)(g:Vals dvs ds)(i:nX CX X E)(j:(x==("__debug__":Str))=false:=by decide):PE X (.Call (.Name x p) [] [] pos) (Cu C sp dvs E jR):=by
 intro l s n H Q I h;refine wpAny_Call_Name_kw (rF I b c ?_ j);exact W.callWith_K0 I.kIn M.kp (Cv (us:=[]) M F a d g i I .nil h)
end
structure aJ(N P:List Str)(sc:Scope):Prop where
 kind:sc.kind=.function
 co:sc.isCoroutine=false
 gen:sc.isGenerator=false
 nd:N.Nodup
 pre:N.take P.length=P
 par:∀x∈P,sc.names.lookup x=some .local∨sc.names.lookup x=some .cell
 nofree:∀y∈sc.names,y.2≠.free
theorem qD{kindOf:Str->Option NameKind}{x:Str}:∀ {binds:List (Str×ZQ)}{m:Z7},(∀v,(x,v)∉binds)->bindL kindOf binds m x=m x
 | [],_,_=>rfl
 | (n,v)::r,m,h=>by
  unfold bindL;rw[qD λw a=>h w (nD _ a)];split
  ·have:x≠n:=by rintro rfl;exact h v fP
   simp[this]
  ·rfl
theorem qE{kindOf:Str->Option NameKind}{x:Str}:∀ {binds:List (Str×ZQ)}{m:Z7},(∀v,(x,v)∉binds)->bindC kindOf binds m x=m x
 | [],_,_=>rfl
 | (n,v)::r,m,h=>by
  unfold bindC;rw[qE λw a=>h w (nD _ a)];split
  ·rfl
  ·have:x≠n:=by rintro rfl;exact h v fP
   simp[this]
theorem qF{kindOf:Str->Option NameKind}{x:Str}{v:ZQ}:∀ {P:List Str}{vs:List ZQ}{i:Nat}{m:Z7},P.Nodup->P[i]?=some x->vs[i]?=some v->kindOf x=some .local →
  bindL kindOf (P.zip vs) m x=some v
 | [],_,_,_,_,h,_,_=>by simp at h
 | _::_,[],_,_,_,_,h,_=>by simp at h
 | p::P,w::vs,0,m,c,a,b,d=>by
  simp at a b;subst a;subst b;show bindL kindOf ((p,w)::P.zip vs) m p=_;unfold bindL;rw[qD λv e=>(nodup_cons.mp c).1 (of_mem_zip e).1,ZO d];simp
 | p::P,w::vs,i+1,m,c,a,b,d=>by
  show bindL kindOf ((p,w)::P.zip vs) m x=_;unfold bindL;exact qF (i:=i) (nodup_cons.mp c).2 (by simpa using a) (by simpa using b) d
theorem qG{kindOf:Str->Option NameKind}{x:Str}{v:ZQ}:∀ {P:List Str}{vs:List ZQ}{i:Nat}{m:Z7},P.Nodup->P[i]?=some x->vs[i]?=some v->kindOf x≠some .local →
  bindC kindOf (P.zip vs) m x=some v
 | [],_,_,_,_,h,_,_=>by simp at h
 | _::_,[],_,_,_,_,h,_=>by simp at h
 | p::P,w::vs,0,m,c,a,b,d=>by
  simp at a b;subst a;subst b;show bindC kindOf ((p,w)::P.zip vs) m p=_;unfold bindC;rw[qE λv e=>(nodup_cons.mp c).1 (of_mem_zip e).1,ZN d];simp
 | p::P,w::vs,i+1,m,c,a,b,d=>by
  show bindC kindOf ((p,w)::P.zip vs) m x=_;unfold bindC;exact qG (i:=i) (nodup_cons.mp c).2 (by simpa using a) (by simpa using b) d
def start(N:List Str)(vs:List V):St:=vs.map some++replicate (N.length-vs.length) none
def iJ(CX:Il)(P:Program)(w:World)(K:W.Frag)(mg:Z7)(base:Heap)(N:List Str)(b:Str)(a:Scope)(f:ZR)(c:ZQ)(A:Around)(outer:List Env)(s:ZP)(H:Hp)(E:XK):Cx where
 prog:=P
 w:=w
 K:=K
 mg:=mg
 base:=base
 A:=A.deeper (envOfC b a s.heap.objs.size f c)
 N:=N
 s₀:=s
 H₀:=H
 env:=envOfC b a s.heap.objs.size f c
 outer:=outer
 stack:=envOfC b a s.heap.objs.size f c::outer
 ex:=[]
 calm:=true
 fn:=λ_=>true
 pn:=[]
 xe:=λe g=>wpAny (model P w) (A.deeper (envOfC b a s.heap.objs.size f c)) (leaving (envOfC b a s.heap.objs.size f c) e) (λ_ d=>CX outer H s E e d) (λh d=>CX outer H s E h d) g
def tQ{sc:Scope}{n:Nat}{x:Str}(h:sc.names.lookup x=some .cell):∃c,(cellsFrom n sc.names []).lookup x=some c:=by
 have q:=W.cellsFrom_some sc.names n [] (.inl h);exact Option.isSome_iff_exists.mp q
def Ag{CX:Il}{P:Program}{w:World}{K:W.Frag}{mg:Z7}{base:Heap}{N ps:List Str}{o:Str}{j:Scope}{f:ZR}{t:ZQ}{A:Around}{outer:List Env}{s F:ZP}{H:Hp}{E:XK}{us:List ZQ}{vs:List V}(S:aJ N ps j)(L:A.handled=none)(g:Env0 P w K mg base A outer s H)(Q:vs.length=ps.length)(r:Vals vs us)(x:InCallC s s.heap.objs.size (bindL (envOfC o j s.heap.objs.size f t).kindOf (ps.zip us) λ_=>none) (cellsFrom (s.heap.objs.size+1) j.names []) (bindC (envOfC o j s.heap.objs.size f t).kindOf (ps.zip us) λ_=>none) F) :
  Inv (iJ CX P w K mg base N o j f t A outer s H E) [] (start N vs) H F:=by
 have R:ps.length<=N.length:=by have:=congrArg length S.pre;rw[vK]at this;omega
 obtain⟨B,tk,rfl,G⟩:=x.done;have D:∀b:ZR,b∉(iJ CX P w K mg base N o j f t A outer s H E).ex:=λb z=>ZM (show b∈([]:List ZR) from z) Zs
 refine⟨⟨g.mod,S.kind,rfl,rfl,bQ _,λy z c B d=>?_,λy l=>?_,λy c _ h=>?_,λ_=>L,Around.frames_deeper g.frames,.inr ⟨rfl,rfl⟩,λb z=>ZM z (D b),g.bs,g.bsz,λb _ _=>D b,λb z=>ZM z (D b),g.funs,g.frf⟩,
  rfl,g.bare,Un.kept G,⟨_,x.toInCall.ns,λi y v B d T=>?_⟩,λy c h=>⟨_,x.cell y c h⟩,g.hok.fresh (bQ _),λy c h=>?_,λp m=>ZM (show p∈([]:List (Addr × Obj)) from m) Zs,g.hok.kept G,?_⟩
 ·exact name_of_addr x.apart (PySem.mem_of_lookup B) (PySem.mem_of_lookup d)
 ·have l:j.names.lookup y=some .cell∨j.names.lookup y=some .free:=l;rcases l with l|l
  ·exact tQ l
  ·exact ZM rfl (S.nofree _ (PySem.mem_of_lookup l))
 ·exact le_of_lt (x.above y c (PySem.mem_of_lookup h))
 ·have C:i<vs.length:=by
   unfold start at d;by_cases C:i<vs.length
   ·exact C
   ·rw[List.getElem?_append_right (by simpa using C)]at d;rw[List.getElem?_replicate]at d;split at d<;>cases d
  have M:vs[i]?=some v:=by
   unfold start at d;rw[getElem?_append_left (by simpa using C),fB]at d
   cases e:vs[i]? with
   | none=>rw[e]at d;cases d
   | some a=>rw[e]at d;cases d;rfl
  obtain⟨u,I,O⟩:=r.get M;have m:ps[i]?=some y:=by
   rw[<- S.pre,List.getElem?_take_of_lt Zo];exact B
  have J:ps.Nodup:=by rw[<- S.pre];exact S.nd.sublist (List.take_sublist _ _)
  refine⟨u,O,?_⟩;rcases S.par y (dB m) with k|k
  ·exact .inl ⟨k,qF J m I k⟩
  ·obtain⟨c,e⟩:=tQ (n:=s.heap.objs.size+1) k;refine .inr ⟨.inl k,c,e,?_⟩;have q:=x.cell y c e;rw[qG J m I (by show j.names.lookup y≠_;rw[k];decide)]at q;exact q
 ·exact g.hok.fresh (le_of_lt (x.above y c (PySem.mem_of_lookup h)))
 ·unfold start;show _=N.length;rw[kJ,bF,List.length_replicate];omega
def Ni{CX:Il}{P:Program}{w:World}{K:W.Frag}{mg:Z7}{base:Heap}{k:Nat}{f:ZR}{name d:Str}{z:Arguments}{l:List Stmt}{a:Scope}{C kV B D g F T:ZQ}{G U:Option ZR}{O:Array (Option ZQ)}{N ps:List Str}{sp:Sp}(lk:K.lookup f=some ⟨T,U,.func (W.fnOf name d z l a C kV B D G g F),O⟩)(X:W.codeIn K g d=true)(S:aJ N ps a)(len:∀vs H Q E,sp vs H Q E->vs.length=ps.length)(Y:∀(A:Around)(outer:List Env)(s:ZP)(H:Hp)(vs:List V)(Q:VK)(E:XK),Room k (A.deeper (envOfC d a s.heap.objs.size f g))->sp vs H Q E →
   ∃t,PSs (iJ CX P w K mg base N d a f g A outer s H E) l t/\t {nx:=λ_ c=>Q .non c,rt:=Q } (start N vs) H) :
  iI P w K mg base CX (k+1) f (W.fnOf name d z l a C kV B D G g F) ps sp:=by
 refine⟨len,λA outer s H args Z vs Q E m i hb a0 I=>?_⟩;have hl:=len _ _ _ _ I;have L:K.In s.heap:=i.mod.kin.keeps λb o e=>(i.bs b o e).1
 have R:s.heap.NoLimit:=i.mod.nolimit.keeps λb o e=>(i.bs b o e).1
 have BC:∀y∈ps.zip Z,a.names.lookup y.1=some .local∨(a.names.lookup y.1=some .cell/\((cellsFrom (s.heap.objs.size+1) a.names []).lookup y.1).isSome=true):=λ⟨n,v⟩ hy=>by
  rcases S.par n (of_mem_zip hy).1 with q|q
  ·exact .inl q
  ·exact .inr ⟨q,W.cellsFrom_some _ _ _ (.inl q)⟩
 refine codeAny_call_function m.depth (L _ _ lk) rfl S.co S.gen rfl (W.codeRec_of L X) (hb _ _ _ _ ?_);refine wpAny_newFunctionEnv_cells S.kind BC λenv he M x=>?_;subst he;refine⟨R.keeps x.toInCall.keep,codeAny_func ?_⟩;obtain⟨t,ht,hq⟩:=Y A outer s H vs Q E (m.deeper _) I;have a1:Inv (iJ CX P w K mg base N d a f g A outer s H E) [] (start N vs) H M:=Ag S m.hd i hl a0 x;refine wpAny_mono (ht [] M (start N vs) H _ a1 hq) (λfl p h=>?_) λe p h=>h;have fin:∀ {j:St}{c:Hp}{v:V}{u:ZQ},Inv (iJ CX P w K mg base N d a f g A outer s H E) [] j c p->RelV v u->Q v c->CE outer P w H s Q u p:=
  λ{j c v u} J r q=>⟨v,c,J.os,J.bare,J.base,J.hok,r,q⟩
 cases fl with
 | ret u=>
  obtain⟨v,j,c,J,r,q⟩:=h;exact fin J r q
 | next=>
  obtain⟨j,c,J,q⟩:=h;exact fin (v:=V.non) (u:=Value.none) J rfl q
 | brk=>
  obtain⟨_,_,_,q⟩:=h;exact False.elim q
 | cont=>
  obtain⟨_,_,_,q⟩:=h;exact False.elim q
section
variable {X:Cx}{x:Str}{p pos:Pos}{e:Expr}{es:List Expr}{t:TA}{id T:String}{r:List V->Hp->VK->Prop}
def Tt(r:List V->Hp->VK->Prop)(t:TA):TE:=λb H Q=>t b H λvs a=>r vs a Q
def tR(c:CallR X (.builtin id) r)(d:Gl X x)(f:X.mg x=none)(g:bootBuiltins x=some (.builtin id))(i:PA X (e::es) t)(j:x≠"__name__":=by decide)(k:(x==("__debug__":Str))=false:=by decide)(l:starEach (e::es) X.env=(false,eval e X.env)::starEach es X.env:=by rfl)(m:(backTo pos (starEach es X.env)).any (·.1)=false:=by rfl):PE X (.Call (.Name x p) (e::es) [] pos) (Tt r t):=by
 intro a s b H Q I h;refine wpAny_Call_Name_kw (nU I d f g ?_ j k);exact PyProof.Rows.callWith_builtin1 (bP (i pos a s b H _ I h) λn o ⟨vs,q,u,v,w⟩=>c a o b q vs n Q u v w) l m
def Ah(c:CallR X (.type T) r)(d:Gl X x)(f:X.mg x=none)(g:bootBuiltins x=some (.type T))(i:PA X (e::es) t)(j:x≠"__name__":=by decide)(k:(x==("__debug__":Str))=false:=by decide)(l:starEach (e::es) X.env=(false,eval e X.env)::starEach es X.env:=by rfl)(m:(backTo pos (starEach es X.env)).any (·.1)=false:=by rfl):PE X (.Call (.Name x p) (e::es) [] pos) (Tt r t):=by
 intro a s b H Q I h;refine wpAny_Call_Name_kw (nU I d f g ?_ j k);exact PyProof.Rows.callWith_type1 (bP (i pos a s b H _ I h) λn o ⟨vs,q,u,v,w⟩=>c a o b q vs n Q u v w) l m
end
end L2
namespace HT
open PySem PyProof.Rows
section
variable {prog:Program}{w:World}{A:Around}{E:Z8}{s:ZP}
def cat_tup{t b:ZR}{vs ws:List ZQ}{Q:Z8}(p:IsTup s.heap t vs.toArray)(q:IsTup s.heap b ws.toArray)(g:vs≠[])(r:ws=[]->Q (.ref t) s)(u:ws≠[]->Q (.ref s.heap.objs.size) {s with heap:=s.heap.push {cls:=.type "tuple",data:=.seq (vs++ws).toArray } })(hsz:vs.length+ws.length<=sizeLine):wpAny (model prog w) A (binaryOp .Add (.ref t) (.ref b)) Q E s:=by
 obtain⟨⟨cls,h,data,sl⟩,a,i,n,j⟩:=id p;obtain⟨⟨v,k,data2,l⟩,c,m,o,f⟩:=id q;simp only at i j m f;subst i j m f;have e:vs.toArray++ws.toArray=(vs++ws).toArray:=by simp
 by_cases d:ws=[]
 ·exact concat_meets ⟨_,a,rfl⟩ ⟨_,c,rfl⟩ noFill_tuple_add seq_tuple_add PySem.F.slot_tuple_add PySem.F.entry_tuple_add (PySem.F.args_tuple_add_2 _ _)
   (tuple_addW1 t b vs.toArray ws.toArray n o h k sl l (by simpa using g) (by simp[d])) ⟨a,c,r d⟩
 ·refine concat_meets ⟨_,a,rfl⟩ ⟨_,c,rfl⟩ noFill_tuple_add seq_tuple_add PySem.F.slot_tuple_add PySem.F.entry_tuple_add (PySem.F.args_tuple_add_2 _ _)
   (tuple_addW2 t b vs.toArray ws.toArray n o h k sl l (by simpa using g) (by simpa using d) (by rw[cZ,cZ];exact hsz)) ⟨a,c,?_⟩
  rw[e];exact u d
def sIx(n d:Nat):Option Int->Nat
 | none=>d
 | some v=>if v<0 then (v+(n:Int)).toNat else min v.toNat n
def sIx_none(n d:Nat):sIx n d none=d:=rfl
def sIx_nat(n d k:Nat):sIx n d (some (k:Int))=min k n:=by
 show(if (k:Int)<0 then ((k:Int)+(n:Int)).toNat else min (k:Int).toNat n)=min k n;rw[ZN Zo,Int.toNat_natCast]
def Qb(n d:Nat)(b:d<=n)(o:Option Int):sIx n d o<=n:=by
 cases o with
 | none=>exact b
 | some v=>
  show(if v<0 then (v+(n:Int)).toNat else min v.toNat n)<=n;by_cases a:v<0
  ·rw[ZO a];omega
  ·rw[ZN a];exact Nat.min_le_right _ _
def xY(v:Int)(n d:Nat):(if v<0 then max (v+(n:Int)) 0 else min v (n:Int))=((sIx n d (some v):Nat):Int):=by
 show(if v<0 then max (v+(n:Int)) 0 else min v (n:Int))=(((if v<0 then (v+(n:Int)).toNat else min v.toNat n):Nat):Int);by_cases a:v<0
 ·simp only [ZO a];omega
 ·simp only [ZN a];omega
def vV(lo a:Option Int)(n:Nat):Builtin.Slice.sliceAdjust lo a 1 (n:Int)=(((sIx n 0 lo:Nat):Int),((sIx n n a:Nat):Int)):=by
 have b:¬ ((1:Int)<0):=by omega
 unfold Builtin.Slice.sliceAdjust;simp only [b,if_false];refine Prod.ext ?_ ?_
 ·cases lo with
  | none=>rfl
  | some v=>exact xY v n 0
 ·cases a with
  | none=>rfl
  | some v=>exact xY v n n
def vW(i j:Nat):Builtin.Slice.slicePlaces (i:Int) (j:Int) 1=j-i:=by
 unfold Builtin.Slice.slicePlaces;have a:(1:Int)>0:=by omega
 simp only [a,if_true,Int.ediv_one];split<;>omega
def nY{v:ZQ}{o:Option Int}{Q:Option Int->ZP->Prop}(p:IsPart v o)(h:Q o s):wpAny (model prog w) A (Builtin.Slice.slicePartIndex v) Q E s:=by
 cases p with
 | none=>exact slicePart_none h
 | int i t=>exact slicePart_int h
def sliceApplied_gen{sl:ZR}{b c:ZQ}{lo a:Option Int}{n:Nat}{Q:Int×Int×Nat->ZP->Prop}(f:s.heap.IsSliceOf sl b c .none)(pl:IsPart b lo)(g:IsPart c a)(h:Q (((sIx n 0 lo:Nat):Int),1,sIx n n a-sIx n 0 lo) s):wpAny (model prog w) A (Builtin.Slice.sliceApplied (.ref sl) (pure (n:Int))) Q E s:=by
 obtain⟨os,d,i,e⟩:=id f;unfold Builtin.Slice.sliceApplied Builtin.Slice.sliceFields;refine ZZ (ZZ (wpAny_field d e (x:=b) rfl (ZZ (wpAny_field d e (x:=c) rfl (ZZ (wpAny_field d e (x:=.none) rfl (ZY ?_)))))));refine ZZ (slicePart_none ?_);show wpAny _ _ (if ((1:Int)==0)=true then _ else _) _ _ s;rw[ZN Zd];refine ZZ (nY pl (ZZ (nY g (ZZ (ZY ?_)))));show wpAny _ _ (match Builtin.Slice.sliceAdjust lo a 1 (n:Int) with|(lo,a)=>pure (lo,(1:Int),Builtin.Slice.slicePlaces lo a 1)) _ _ s;rw[vV lo a n];show wpAny _ _ (pure (((sIx n 0 lo:Nat):Int),(1:Int),Builtin.Slice.slicePlaces ((sIx n 0 lo:Nat):Int) ((sIx n n a:Nat):Int) 1)) _ _ s;rw[vW];exact ZY h
def Cy(xs:Array Value)(i k:Nat):((List.range k).filterMap λ(m:Nat)=>xs[((i:Int)+(m:Int)*1).toNat]?).toArray=((xs.toList.drop i).take k).toArray:=by
 have e:(λ(m:Nat)=>xs[((i:Int)+(m:Int)*1).toNat]?)=λm=>xs[i+m]?:=by
  funext m
  have:((i:Int)+(m:Int)*1).toNat=i+m:=by omega
  rw[this]
 rw[e];have:=pick_run xs i k;rw[List.filterMap_map]at this;have a:((λx=>xs[x]?)∘λx=>i+x)=λm=>xs[i+m]?:=rfl
 rw[a]at this;rw[this]
def getItem_tuple_cut{t sl:ZR}{a:Array Value}{e f:ZQ}{lo b:Option Int}{Q:Z8}(c:IsTup s.heap t a)(g:s.heap.IsSliceOf sl e f .none)(pl:IsPart e lo)(i:IsPart f b)(j:¬ (sIx a.size 0 lo=0/\sIx a.size a.size b=a.size))(h:Q (.ref s.heap.objs.size) {s with heap:=s.heap.push {cls:=.type "tuple",data:=.seq ((a.toList.drop (sIx a.size 0 lo)).take (sIx a.size a.size b-sIx a.size 0 lo)).toArray } })(hsz:a.size<=sizeLine):wpAny (model prog w) A (getItem (.ref t) (.ref sl)) Q E s:=by
 have d:sizeOk (.seq ((a.toList.drop (sIx a.size 0 lo)).take (sIx a.size a.size b-sIx a.size 0 lo)).toArray):=by
  show((a.toList.drop (sIx a.size 0 lo)).take (sIx a.size a.size b-sIx a.size 0 lo)).toArray.size<=sizeLine;rw[cZ,vK,length_drop,Array.length_toList];omega
 have p:sIx a.size a.size b<=a.size:=Qb _ _ (bQ _) b;obtain⟨os,k,l,r⟩:=id g;have n:s.TypeIs (.ref sl) "slice":=⟨os,k,l⟩;unfold getItem;try with_reducible refine wpAny_holding ?_
 first|refine ZZ (ZY ?_)|skip
 refine ZZ (wpAny_sequenceKey c.typeIs Zd ?_);refine ZZ (wpAny_callSpecial?_slot (name:=Str.ofString "__getitem__") c.typeIs PyProof.Rows.slot_tuple_getitem
  (wpAny_call_entry PyProof.Rows.slot_tuple_getitem c.typeIs entry_tuple_getitem ?_ (args_tuple_getitem _ _)))
 show wpAny _ _ (Builtin.Tuple.tupleItemsOf (.ref t)>>=_) _ _ s;refine ZZ (tupleItemsOf_ c ?_);refine ZZ (wpAny_typeOf n ?_);rw[ZO Zd];refine ZZ (sliceApplied_gen g pl i ?_);have o:¬ ((((sIx a.size 0 lo:Nat):Int)==0&&(1:Int)==1&&(sIx a.size a.size b-sIx a.size 0 lo)==a.size)=true):=by
  intro q;rw[Bool.and_eq_true,Bool.and_eq_true]at q;have u:((sIx a.size 0 lo:Nat):Int)=0:=eq_of_beq q.1.1;have v:sIx a.size a.size b-sIx a.size 0 lo=a.size:=eq_of_beq q.2;exact j ⟨Zo,Zo⟩
 show wpAny _ _ (if (((sIx a.size 0 lo:Nat):Int)==0&&(1:Int)==1&&(sIx a.size a.size b-sIx a.size 0 lo)==a.size)=true then _ else _) _ _ s;rw[ZN o,Cy];first
  | exact ZZ (m:=Builtin.Tuple.tupleExact _) (wpAny_newObj_type (ZY ⟨_,rfl,ZY h⟩) d)
  | exact ZZ (m:=Builtin.Tuple.tupleExact _) (wpAny_newObj_type (ZZ (ZY (ZY ⟨_,rfl,ZY h⟩))) d)
  | exact ZZ (ZZ (m:=Builtin.Tuple.tupleExact _) (wpAny_newObj_type (ZY (ZY ⟨_,rfl,ZY h⟩)) d))
  | exact ZZ (ZZ (m:=Builtin.Tuple.tupleExact _) (wpAny_newObj_type (ZY ⟨_,rfl,ZY h⟩) d))
end
end HT
namespace L2
open PySem PySem.Spec PyProof.Rows
abbrev TO:=St->Hp->(Option Int->Hp->Prop)->Prop
def PO(X:Cx)(e:Option Expr)(t:TO):Prop:=
 ∀(b:Z9)(s:ZP)(a:St)(H:Hp)(Q:Option Int->Hp->Prop),Inv X b a H s->t a H Q →
  wpAny (model X.prog X.w) X.A (evalPart e X.env) (λu d=>∃o c,Inv X b a c d/\IsPart u o/\Q o c) X.xe s
def xZ:TO:=λ_ H Q=>Q none H
def Cz(t:TE):TO:=λb H Q=>t b H λx a=>∃i,x=.int i/\Q (some i) a
def nZ{a:List Int}:∀ {us:List ZQ},Vals (a.map V.int) us->IntsAre us a:=by
 induction a with
 | nil=>intro us r;rw[map_nil]at r;cases r;exact .nil
 | cons n a b=>
  intro us r;rw[map_cons]at r;cases r with
  | cons c d=>
   obtain⟨t,e⟩:=c;subst e;exact .cons n t (b d)
section
variable {X:Cx}{e:Expr}{te:TE}{lo hi:Option Expr}{tl th:TO}{pos p2:Pos}
def Jl:PO X none xZ:=by
 intro a s b H Q I h;rw[evalPart_none];exact ZY ⟨none,H,I,.none,h⟩
def Jm(h:PE X e te):PO X (some e) (Cz te):=by
 intro a s j H Q I b;rw[evalPart_some];refine bP (h a s j H _ I b) ?_;rintro u k ⟨x,c,d,f,g⟩
 obtain⟨i,rfl,q⟩:=g;obtain⟨t,rfl⟩:=f;exact⟨some i,c,d,.int i t,q⟩
def SlR(X:Cx)(r:V->Option Int->Option Int->Hp->VK->Prop):Prop:=
 ∀(a:Z9)(s:ZP)(d:St)(H:Hp)(x:V)(v b c:ZQ)(lo hi:Option Int)(sl:ZR)(Q:VK),Inv X a d H s->RelV x v->s.heap.IsSliceOf sl b c .none->IsPart b lo->IsPart c hi->r x lo hi H Q →
  ∃T id,typeLookup (.type T) "__getitem__"=pure (some (.builtin id))/\s.TypeIs v T/\wpAny (model X.prog X.w) X.A (getItem v (.ref sl)) (EP X a d Q) X.xe s
def Zx(r:V->Option Int->Option Int->Hp->VK->Prop)(te:TE)(tl th:TO):TE:=λa H Q=>te a H λx b=>tl a b λl c=>th a c λu d=>r x l u d Q
def Dc{r:V->Option Int->Option Int->Hp->VK->Prop}(j:SlR X r)(k:PE X e te)(m:PO X lo tl)(n:PO X hi th):PE X (.Subscript e (.Slice lo hi none p2) pos) (Zx r te tl th):=by
 intro c s d H Q I h;refine Subscript_ (bP (k c s d H _ I h) ?_);rintro v o ⟨x,p,t,w,y⟩;refine wpAny_Slice (bP (m c o d p _ t y) λf z ⟨l,A,B,C,D⟩=>bP (n c z d A _ B D) ?_);rintro g a ⟨u,i,E,F,G⟩;rw[evalPart_none];refine ZY ?_;have J:Inv X c d i {a with heap:=a.heap.push {cls:=.type "slice",data:=.fields #[f,g,.none] } }:=E.kept (t':=a.toks) λb N q=>iE _ q
 obtain⟨T,id,K,L,M⟩:=j c {a with heap:=a.heap.push {cls:=.type "slice",data:=.fields #[f,g,.none] } } d i x v f g l u a.heap.objs.size Q J w (Heap.IsSliceOf.new ..) C F G;show wpAny (model X.prog X.w) X.A (subscriptTail e (.Slice lo hi none p2) v (.ref a.heap.objs.size)) (EP X c d Q) X.xe {a with heap:=a.heap.push {cls:=.type "slice",data:=.fields #[f,g,.none] } };exact tail_any (ops:=[.ref a.heap.objs.size,v]) L K M (by with_unfolding_all rfl)
def Ai(xs:List V)(lo hi:Option Int):List V:=(xs.drop (HT.sIx xs.length 0 lo)).take (HT.sIx xs.length xs.length hi-HT.sIx xs.length 0 lo)
def mO(xs:List V)(lo hi:Option Int):(Ai xs lo hi).length<=xs.length:=by
 unfold Ai;rw[vK,length_drop];omega
def Ye(K:W.Frag):V->Option Int->Option Int->Hp->VK->Prop:=λx lo hi H Q=>∃a b,x=.ref a/\SqT K H a b ∧
 ¬ (HT.sIx b.length 0 lo=0/\HT.sIx b.length b.length hi=b.length)/\∀p,H p=none->Q (.ref p) (aK H p (.tup (Ai b lo hi)))
def Qc:SlR X (Ye X.K):=by
 intro t s z H x v u w lo hi sl Q I j k l m h;obtain⟨a,c,rfl,n,p,q⟩:=h;cases j;obtain⟨i,r,f,g⟩:=I.tuple n;have d:i.toArray.size=c.length:=by rw[cZ];exact r.length.symm
 refine⟨"tuple",_,PyProof.Rows.slot_tuple_getitem.lookup,f.typeIs,?_⟩;refine HT.getItem_tuple_cut f k l m (by rw[d];exact p) ?_ (by rw[d];exact g);rw[d];refine⟨.ref s.heap.objs.size,_,I.laid (t':=s.toks) (o:=.tup (Ai c lo hi)) (λb y q=>iE _ q) (bQ _) ?_,rfl,q _ (I.hok.fresh (bQ _))⟩;exact⟨hZ (mO c lo hi) g,_,(r.drop (HT.sIx c.length 0 lo)).take (HT.sIx c.length c.length hi-HT.sIx c.length 0 lo),IsTup.new _ _⟩
def Vb(K:W.Frag):R2:=λx y H Q=>∃a b d c,x=.ref a/\y=.ref b/\SqT K H a d/\SqT K H b c/\d≠[]/\d.length+c.length<=sizeLine ∧
 (c=[]->Q (.ref a) H)/\(c≠[]->∀p,H p=none->Q (.ref p) (aK H p (.tup (d++c))))
def Vals.nil_iff{xs:List V}{us:List ZQ}(r:Vals xs us):us=[]↔xs=[]:=by
 cases r with
 | nil=>simp
 | cons _ _=>simp
def Jn:OpR X (binaryOp .Add) (Vb X.K):=by
 intro A s E H x y v u Q I g i h;obtain⟨a,b,j,k,rfl,rfl,l,m,n,f,p,r⟩:=h;cases g;cases i;obtain⟨B,d,t,_⟩:=I.tuple l;obtain⟨C,c,p2,_⟩:=I.tuple m;refine HT.cat_tup t p2 (λz=>n (d.nil_iff.mp z)) (λz=>⟨.ref a,H,I,rfl,p (c.nil_iff.mp z)⟩) (λz=>?_) (by rw[<- d.length,<- c.length];exact f);refine⟨.ref s.heap.objs.size,_,I.laid (t':=s.toks) (o:=.tup (j++k)) (λb D q=>iE _ q) (bQ _) ?_,rfl,r (λw=>z (c.nil_iff.mpr w)) _ (I.hok.fresh (bQ _))⟩;exact⟨by rw[kJ];exact f,_,d.append c,IsTup.new _ _⟩
end
def Nj(n:Nat)(i:Int):Option Nat:=if 0<=i then (if i<n then some i.toNat else none) else if -(n:Int)<=i then some (i+n).toNat else none
def gC{a:Type}(xs:List a)(i:Int):Option a:=(Nj xs.length i).bind λj=>xs[j]?
def yA{n:Nat}{i:Int}{j:Nat}(h:Nj n i=some j):seqIndex? i n=some j/\j<n/\-(n:Int)<=i/\i<n:=by
 unfold Nj at h;by_cases b:0<=i
 ·rw[ZO b]at h;by_cases a:i<n
  ·rw[ZO a]at h;have e:i.toNat=j:=Option.some.inj h;exact⟨by rw[seqIndex_of b a,e],Zo,Zo,a⟩
  ·rw[ZN a]at h;cases h
 ·rw[ZN b]at h;by_cases a:-(n:Int)<=i
  ·rw[ZO a]at h;have e:(i+n).toNat=j:=Option.some.inj h;exact⟨by rw[seqIndex_neg Zo a,e],Zo,a,Zo⟩
  ·rw[ZN a]at h;cases h
def rN{a:Type}{xs:List a}{i:Int}{v:a}(h:gC xs i=some v):∃j,seqIndex? i xs.length=some j/\xs[j]?=some v/\j<xs.length/\-(xs.length:Int)<=i/\i<xs.length:=by
 unfold gC at h;cases e:Nj xs.length i with
 | none=>rw[e]at h;cases h
 | some j=>
  rw[e]at h;obtain⟨b,c,d,f⟩:=yA e;exact⟨j,b,h,c,d,f⟩
def cV{a:Type}{xs:List a}{j:Nat}{v:a}(h:xs[j]?=some v):gC xs (j:Int)=some v:=by
 have b:j<xs.length:=(Zgs.mp h).1;have e:Nj xs.length (j:Int)=some j:=by
  unfold Nj;rw[ZO Zo,ZO Zo];simp
 unfold gC;rw[e];exact h
def rO(b:Expr):Prop:=∀o i,subscripted b false o i=operate [o,i] (getItem o i)
def IxR(X:Cx)(r:R2):Prop:=
 ∀(c slice:Expr)(a:Z9)(s:ZP)(b:St)(H:Hp)(x y:V)(v u:ZQ)(Q:VK),Inv X a b H s->RelV x v->RelV y u->r x y H Q →
  subscripted slice false v u=operate [v,u] (getItem v u)->wpAny (model X.prog X.w) X.A (subscriptTail c slice v u) (EP X a b Q) X.xe s
def Tu(X:Cx)(id:String)(r:V->List V->Hp->VK->Prop):Prop:=
 ∀(a:Z9)(s:ZP)(d:St)(H:Hp)(x:V)(b:List V)(v:ZQ)(c:List ZQ)(Q:VK),Inv X a d H s->RelV x v->Vals b c->r x b H Q →
  wpAny (model X.prog X.w) X.A (call (.builtin id) (v::c)) (EP X a d Q) X.xe s
section
variable {X:Cx}{a b:Expr}{ta tb:TE}{pos:Pos}
def Vc{r:R2}(d:IxR X r)(e:PE X a ta)(f:PE X b tb)(g:rO b):PE X (.Subscript a b pos) (zZ r ta tb):=by
 intro c s n H Q I h;exact Subscript_ (Pl e f I h λv u i x y j k l m q=>d a b c i n j x y v u Q k l m q (g _ _))
def Yf(K:W.Frag):R2:=λx y H Q=>∃p c i v,x=.ref p/\y=.int i/\SqL K H p c/\gC c i=some v/\Q v H
def Yg(K:W.Frag):R2:=λx y H Q=>∃p c i v,x=.ref p/\y=.int i/\SqT K H p c/\gC c i=some v/\Q v H
def Yh:R2:=λx y H Q=>∃z i c,x=.str z/\y=.int i/\z.length<=sizeLine/\gC z.cps.toList i=some c/\Q (.str ⟨#[c]⟩) H
def Jo:IxR X (Yf X.K):=by
 intro L slice f s m H x y v u Q I o A h g;obtain⟨p,M,i,z,rfl,rfl,B,C,q⟩:=h;cases o;obtain⟨t,rfl⟩:=A;obtain⟨n,r,d,N⟩:=I.list B;obtain⟨j,c,D,O,E,F⟩:=rN C;obtain⟨w,k,G⟩:=r.get D;have J:=r.length;have P:=lS;have fin:EP X f m Q w s:=⟨z,H,I,G,q⟩;by_cases l:0<=i
 ·have e:i.toNat=j:=by
   rw[seqIndex_of l F]at c;exact Option.some.inj c
  exact item_listR d.isList l Zo (by rw[e];simpa using k) fin g
 ·have e:(i+(n.toArray.size:Int)).toNat=j:=by
   rw[seqIndex_neg Zo E]at c;rw[cZ,<- J];exact Option.some.inj c
  exact subscriptTail_builtinR (x:=w) d.isList.typeIs slot_list_getitem.lookup
   (wpAny_getItem_list_neg (Q:=λr K=>r=w/\EP X f m Q r K) d.isList Zo (by rw[cZ]<;>omega) Zo (by rw[e];simpa using k) ⟨rfl,fin⟩) g
def Qd:IxR X (Yg X.K):=by
 intro E slice c s e H x y v u Q I f g h k;obtain⟨p,G,i,z,rfl,rfl,l,m,q⟩:=h;cases f;obtain⟨t,rfl⟩:=g;obtain⟨F,r,d,J⟩:=I.tuple l;obtain⟨j,n,o,K,L,M⟩:=rN m;obtain⟨w,A,B⟩:=r.get o;have C:=r.length;have N:=lS;have fin:EP X c e Q w s:=⟨z,H,I,B,q⟩;exact subscriptTail_builtinR (x:=w) d.typeIs slot_tuple_getitem.lookup
  (getItem_tuple (j:=j) (Q:=λr D=>r=w/\EP X c e Q r D) d Zo Zo (by rw[cZ,<- C];exact n) (by simpa using A) ⟨rfl,fin⟩) k
def Qe:IxR X Yh:=by
 intro w slice A s F H x y v u Q I e f h g;obtain⟨z,i,c,rfl,rfl,B,k,q⟩:=h;obtain⟨t,rfl⟩:=e;obtain⟨C,rfl⟩:=f;obtain⟨j,d,l,D,m,n⟩:=rN k;have o:z.cps.toList.length=z.length:=by simp[Str.length]
 rw[o]at d m n;have E:=lS;exact tail_any (typeIs_str s z t) slot_str_getitem.lookup (getItem_str (c:=c) (by
  have p:decide (i < -(2 ^ 63:Int))=false:=ZT Zo;have r:decide (i ≥ 2 ^ 63)=false:=ZT Zo;rw[p,r,Bool.or_false]) (by rw[d];simpa using l) ⟨.str ⟨#[c]⟩,H,I.tok _,⟨_,rfl⟩,q⟩) g
def vX(its:List ZQ)(n j:Nat)(u:ZQ):Obj.mapSeq (·.setIfInBounds j u) {cls:=.type "list",data:=.seq its.toArray n }={cls:=.type "list",data:=.seq (its.set j u).toArray n }:=by
 simp[Obj.mapSeq]
def Inv.lst{c:Z9}{d:St}{H:Hp}{s:ZP}{p:ZR}{xs:List V}(I:Inv X c d H s)(h:H p=some (.lst xs)) :
  ∃(its:List ZQ)(n:Nat),Vals xs its/\s.heap.get? p=some {cls:=.type "list",data:=.seq its.toArray n }/\xs.length<=sizeLine:=by
 obtain⟨z,its,n,r,e⟩:=I.hok p _ h;exact⟨its,n,r,e,z⟩
def Inv.lstUpd{d:Z9}{i:St}{H:Hp}{s:ZP}{p:ZR}{xs ys:List V}{its its':List ZQ}{n c:Nat}{f:Obj->Obj}(I:Inv X d i H s)(h:H p=some (.lst xs))(j:s.heap.get? p=some {cls:=.type "list",data:=.seq its.toArray n })(g:f {cls:=.type "list",data:=.seq its.toArray n }={cls:=.type "list",data:=.seq its'.toArray c })(r:Vals ys its')(hz:ys.length<=sizeLine)(t:Nat) :
  Inv X d i (aK H p (.lst ys)) {s with heap:=s.heap.update p f,toks:=t }:=by
 have e:(s.heap.update p f).get? p=some {cls:=.type "list",data:=.seq its'.toArray c }:=by
  rw[Heap.get?_update_self f j (by rw[g]<;>rfl),g]
 refine I.write (x:=p) (e:=p) (by rw[h];trivial) (.inl rfl) (λb u k q=>(Heap.get?_update_other _ _ (Ne.symm k)).trans q) ⟨_,e⟩ ?_;exact⟨hz,its',c,r,e⟩
def Nk:V->V->V->Hp->(Hp->Prop)->Prop:=λo i v H Q=>∃p c k j,o=.ref p/\i=.int k/\H p=some (.lst c)/\Nj c.length k=some j/\Q (aK H p (.lst (c.set j v)))
def Dg:Ix X Nk:=by
 intro z s G H o i v J K u Q I A B C h;obtain⟨p,D,k,j,rfl,rfl,l,E,q⟩:=h;cases A;obtain⟨t,rfl⟩:=B;obtain⟨g,n,r,d,F⟩:=I.lst l;obtain⟨c,L,m,w⟩:=yA E;have e:=r.length;have M:=lS;have x:Inv X z G (aK H p (.lst (D.set j v))) {s with heap:=s.heap.update p (Obj.mapSeq (·.setIfInBounds j u)) }:=
  I.lstUpd l d (vX g n j u) (r.set C j) (by rw[length_set];exact F) s.toks
 by_cases y:0<=k
 ·have f:k.toNat=j:=by
   rw[seqIndex_of y w]at c;exact Option.some.inj c
  exact W.ki_setAt d y Zo (by rw[cZ,<- e];exact w) (by rw[f];exact⟨_,x,q⟩)
 ·have f:(k+(g.toArray.size:Int)).toNat=j:=by
   rw[seqIndex_neg Zo m]at c;rw[cZ,<- e];exact Option.some.inj c
  exact W.ki_setBack d Zo (by rw[cZ,<- e];exact m) Zo (by rw[f];exact⟨_,x,q⟩)
def rP(lo c:Option Int)(n:Nat):(sliceBounds lo c none n).1=((HT.sIx n 0 lo:Nat):Int)/\(sliceBounds lo c none n).2.1=((HT.sIx n n c:Nat):Int)/\(sliceBounds lo c none n).2.2=1:=by
 refine⟨?_,?_,rfl⟩
 ·cases lo with
  | none=>simp[sliceBounds,HT.sIx]
  | some i=>
   simp only [sliceBounds,HT.sIx,Option.getD_none,show(1:Int)>0 by decide,if_true];by_cases h:i<0
   ·simp only [h,if_true]<;>omega
   ·simp only [h,if_false]<;>omega
 ·cases c with
  | none=>simp[sliceBounds,HT.sIx]
  | some i=>
   simp only [sliceBounds,HT.sIx,Option.getD_none,show(1:Int)>0 by decide,if_true];by_cases h:i<0
   ·simp only [h,if_true]<;>omega
   ·simp only [h,if_false]<;>omega
def pP(its:List ZQ)(lo c:Option Int):slicePick its.toArray lo c none=((its.drop (HT.sIx its.length 0 lo)).take (HT.sIx its.length its.length c-HT.sIx its.length 0 lo)).toArray:=by
 obtain⟨d,e,f⟩:=rP lo c its.toArray.size;unfold slicePick;rw[d,e,f];simp only [sliceRange_one,pick_run,cZ]<;>rfl
def Yi(K:W.Frag):V->Option Int->Option Int->Hp->VK->Prop:=λx lo d H Q=>∃a c,x=.ref a/\SqL K H a c/\∀p,H p=none->Q (.ref p) (aK H p (.lst (Ai c lo d)))
def Jp:SlR X (Yi X.K):=by
 intro n s y H x v t u lo d sl Q I g i j k h;obtain⟨a,c,rfl,l,q⟩:=h;cases g;obtain⟨p,r,e,m⟩:=I.list l;have f:=r.length;refine⟨"list",_,slot_list_getitem.lookup,e.isList.typeIs,?_⟩;refine wpAny_getItem_list_slice e.isList i j k .none Zs ?_ (by rw[cZ]<;>omega);rw[pP,<- f];refine⟨.ref s.heap.objs.size,_,I.laid (t':=s.toks) (o:=.lst (Ai c lo d)) (λb w q=>iE _ q) (bQ _) ?_,rfl,q _ (I.hok.fresh (bQ _))⟩;exact⟨hZ (mO c lo d) m,_,0,(r.drop (HT.sIx c.length 0 lo)).take (HT.sIx c.length c.length d-HT.sIx c.length 0 lo),ZS _ rfl⟩
def cI:V->Bool
 | .non=>true
 | .bl _=>true
 | .int _=>true
 | .str _=>true
 | _=>false
def nF:V->V->Bool
 | .non,.non=>true
 | .bl a,.bl b=>a==b
 | .bl a,.int b=>(if a then 1 else 0)==b
 | .int a,.bl b=>a==(if b then 1 else 0)
 | .int a,.int b=>a==b
 | .str a,.str b=>a==b
 | _,_=>false
def jU{A:Around}{s:ZP}{y x:V}{u v:ZQ}(e:RelV y u)(c:RelV x v)(g:cI y=true)(f:cI x=true):SeqAt.EqAt A s u v (nF y x):=by
 cases y with
 | non=>
  cases e
  cases x with
  | non=>cases c;exact SeqAt.EqAt.same _
  | bl b=>cases c;exact SeqAt.EqAt.none_bool b
  | int b=>obtain⟨t,rfl⟩:=c;exact SeqAt.EqAt.none_int b t
  | str b=>obtain⟨t,rfl⟩:=c;exact SeqAt.EqAt.none_str b t
  | _=>exact ZM (show false=true from f) ZX
 | bl a=>
  cases e
  cases x with
  | non=>cases c;exact SeqAt.EqAt.bool_none a
  | bl b=>cases c;exact SeqAt.EqAt.bool_bool a b
  | int b=>obtain⟨t,rfl⟩:=c;exact SeqAt.EqAt.bool_int a b t
  | str b=>obtain⟨t,rfl⟩:=c;exact SeqAt.EqAt.bool_str a b t
  | _=>exact ZM (show false=true from f) ZX
 | int a=>
  obtain⟨d,rfl⟩:=e
  cases x with
  | non=>cases c;exact SeqAt.EqAt.int_none a d
  | bl b=>cases c;exact SeqAt.EqAt.int_bool a d b
  | int b=>obtain⟨t,rfl⟩:=c;exact SeqAt.EqAt.int_int a d b t
  | str b=>obtain⟨t,rfl⟩:=c;exact SeqAt.EqAt.int_str a d b t
  | _=>exact ZM (show false=true from f) ZX
 | str a=>
  obtain⟨d,rfl⟩:=e
  cases x with
  | non=>cases c;exact SeqAt.EqAt.str_none a d
  | bl b=>cases c;exact SeqAt.EqAt.str_bool a d b
  | int b=>obtain⟨t,rfl⟩:=c;exact SeqAt.EqAt.str_int a d b t
  | str b=>obtain⟨t,rfl⟩:=c;exact SeqAt.EqAt.str_str a d b t
  | _=>exact ZM (show false=true from f) ZX
 | _=>exact ZM (show false=true from g) ZX
def tS(x:V)(u:ZQ):Bool:=match u with
 | .none=>nF .non x
 | .bool b=>nF (.bl b) x
 | .int i _=>nF (.int i) x
 | .str z _=>nF (.str z) x
 | _=>false
def vY{x y:V}{u:ZQ}(r:RelV y u)(f:cI y=true):tS x u=nF y x:=by
 cases y with
 | non=>cases r;rfl
 | bl b=>cases r;rfl
 | int i=>obtain⟨t,rfl⟩:=r;rfl
 | str z=>obtain⟨t,rfl⟩:=r;rfl
 | _=>exact ZM (show false=true from f) ZX
theorem kN{x:V}:∀ {xs:List V}{us:List ZQ},Vals xs us->xs.all cI=true->us.any (tS x)=xs.any λy=>nF y x
 | _,_,.nil,_=>rfl
 | y::xs,u::us,.cons r t,f=>by
  rw[all_cons,Bool.and_eq_true]at f;rw[any_cons,any_cons,vY r f.1,kN t f.2]
theorem gE{A:Around}{s:ZP}{x:V}{v:ZQ}(d:RelV x v)(e:cI x=true):∀ {xs:List V}{us:List ZQ},Vals xs us->xs.all cI=true->∀u∈us,SeqAt.EqAt A s u v (tS x u)
 | _,_,.nil,_=>λu c=>by cases c
 | y::xs,u::us,.cons r t,f=>λg c=>by
  rw[all_cons,Bool.and_eq_true]at f;rcases mem_cons.mp c with rfl|c
  ·rw[vY r f.1];exact jU r d f.1 e
  ·exact gE d e t f.2 g c
def kK(x:V)(xs:List V):Bool:=xs.any λy=>nF y x
def Tv(K:W.Frag)(d:Bool):R2:=λx y H Q=>∃p c,y=.ref p/\(SqL K H p c∨SqT K H p c)/\cI x=true/\c.all cI=true/\Q (.bl (if d then !kK x c else kK x c)) H
def Aj:OpR X (compareOp .In) (Tv X.K false):=by
 intro l s n H x y v u Q I g j h;obtain⟨p,m,rfl,d,i,fs,q⟩:=h;cases j;rcases d with d|d
 ·obtain⟨c,r,e,k⟩:=I.list d;refine SeqAt.in_listAt (tS x) e.isList (λw f=>gE g i r fs w (by simpa using f)) ⟨.bl _,H,I,rfl,?_⟩;rw[show c.toArray.any (tS x)=c.any (tS x) by simp,kN r fs];exact q
 ·obtain⟨c,r,e,k⟩:=I.tuple d;refine SeqAt.in_tupleAt (tS x) e (λw f=>gE g i r fs w (by simpa using f)) ⟨.bl _,H,I,rfl,?_⟩;rw[show c.toArray.any (tS x)=c.any (tS x) by simp,kN r fs];exact q
def rQ:OpR X (compareOp .NotIn) (Tv X.K true):=by
 intro l s n H x y v u Q I g j h;obtain⟨p,m,rfl,d,i,fs,q⟩:=h;cases j;rcases d with d|d
 ·obtain⟨c,r,e,k⟩:=I.list d;refine SeqAt.notIn_listAt (tS x) e.isList (λw f=>gE g i r fs w (by simpa using f)) ⟨.bl _,H,I,rfl,?_⟩;rw[show c.toArray.any (tS x)=c.any (tS x) by simp,kN r fs];exact q
 ·obtain⟨c,r,e,k⟩:=I.tuple d;refine SeqAt.notIn_tupleAt (tS x) e (λw f=>gE g i r fs w (by simpa using f)) ⟨.bl _,H,I,rfl,?_⟩;rw[show c.toArray.any (tS x)=c.any (tS x) by simp,kN r fs];exact q
def rR:CallR X (.builtin "len") (λxs H Q=>∃p ys,xs=[.ref p]/\(SqL X.K H p ys∨SqT X.K H p ys)/\Q (.int ys.length) H):=by
 intro k s n H xs l Q I r h;obtain⟨p,ys,rfl,c,q⟩:=h;obtain⟨u,rfl,i⟩:=iB r;cases i;have m:=lS;rcases c with c|c
 ·obtain⟨g,e,f,j⟩:=I.list c;have d:=e.length;exact Calls.call_len_list f.isList (by simp only [cZ]<;>omega) ⟨.int ys.length,H,I.tok _,⟨s.toks+1,by rw[cZ,d]⟩,q⟩
 ·obtain⟨g,e,f,j⟩:=I.tuple c;have d:=e.length;exact len_tuple f (by simp only [cZ]<;>omega) ⟨.int ys.length,H,I.tok _,⟨s.toks+1,by rw[cZ,d]⟩,q⟩
def rS:CallR X (.builtin "len") (λxs H Q=>∃z,xs=[.str z]/\z.length<=sizeLine/\Q (.int z.length) H):=by
 intro c s g H xs d Q I r h;obtain⟨z,rfl,e,q⟩:=h;obtain⟨u,rfl,t,rfl⟩:=iB r;have f:=lS;exact len_str Zo ⟨.int z.length,H,I.tok _,⟨_,rfl⟩,q⟩
def rT:CallR X (.type "list") (λxs H Q=>∃p ys,xs=[.ref p]/\(SqL X.K H p ys∨SqT X.K H p ys)/\∀l,H l=none->Q (.ref l) (aK H l (.lst ys))):=by
 intro y s B H xs C Q I r h;obtain⟨p,ys,rfl,i,q⟩:=h;obtain⟨u,rfl,A⟩:=iB r;cases A;have fin:∀(d:List ZQ),Vals ys d->ys.length<=sizeLine->∀(c:Heap)(f:Nat),(∀b x,s.heap.get? b=some x->c.get? b=some x) →
   c.get? s.heap.objs.size=some {cls:=.type "list",dict:=none,data:=.seq d.toArray f,slots:=#[] }->EP X y B Q (.ref s.heap.objs.size) {s with heap:=c }:=λd g j c f k e=>
  ⟨.ref s.heap.objs.size,_,I.laid (t':=s.toks) k (bQ _) (show ObjOk X.prog X.w _ c _ (.lst ys) from⟨j,d,f,g,e⟩),rfl,q _ (I.hok.fresh (bQ _))⟩
 rcases i with i|i
 ·obtain⟨d,g,m,j⟩:=I.list i;have z:=g.length;obtain⟨o,t,v,n,w⟩:=m.isList;exact call_list_seq p (.inl rfl) t v w (λc f k e=>fin d g j c f k e) (by simp only [cZ]<;>omega)
 ·obtain⟨d,g,m,j⟩:=I.tuple i;have z:=g.length;obtain⟨o,t,v,n,w⟩:=m;exact call_list_seq p (.inr rfl) t v w (λc f k e=>fin d g j c f k e) (by simp only [cZ]<;>omega)
def Zy(K:W.Frag)(T:String)(x:V)(H:Hp):Prop:=match x with
 | .str _=>T="str"
 | .int _=>T="int"
 | .ref p=>(T="list"/\∃d,SqL K H p d)∨(T="tuple"/\∃o,K.lookup p=some o/\o.cls=.type "tuple"/\o.dict=none)∨
   (T="dict"/\((∃c,H p=some (.dK c))∨∃c,H p=some (.dT c)))∨(T="set"/\∃S n,H p=some (.set S n))
 | _=>False
def Qg{l:Z9}{w:St}{H:Hp}{s:ZP}{T:String}{x:V}{v:ZQ}(I:Inv X l w H s)(r:RelV x v)(ty:Zy X.K T x H) :
  s.TypeIs v T/\∀a,v=.ref a->∃j,s.heap.get? a=some j/\j.dict=none:=by
 cases x with
 | str z=>
  obtain⟨t,rfl⟩:=r;cases(show T="str" from ty);exact⟨typeIs_str s z t,λ_ e=>nomatch e⟩
 | int i=>
  obtain⟨t,rfl⟩:=r;cases(show T="int" from ty);exact⟨typeIs_int s i t,λ_ e=>nomatch e⟩
 | ref p=>
  cases r;rcases ty with⟨rfl,A,q⟩|⟨rfl,o,d,u,g⟩|⟨rfl,d⟩|⟨rfl,S,n,d⟩
  ·obtain⟨y,_,k,_⟩:=I.list q;refine⟨k.isList.typeIs,λa e=>?_⟩;cases e;obtain⟨o,n,e,c,g,_⟩:=k;exact⟨o,e,g⟩
  ·refine⟨⟨o,I.kIn p o d,u⟩,λa e=>?_⟩;cases e;exact⟨o,I.kIn _ o d,g⟩
  ·have z:∃o,s.heap.get? p=some o/\o.ExactDict:=by
    rcases d with⟨m,d⟩|⟨m,d⟩
    ·obtain⟨_,_,_,_,o,_,_,e,f,_⟩:=I.hok p _ d;exact⟨o,e,f⟩
    ·obtain⟨_,_,_,_,o,_,_,e,f,_⟩:=I.hok p _ d;exact⟨o,e,f⟩
   obtain⟨o,e,f⟩:=z;refine⟨⟨o,e,f.1⟩,λa h=>?_⟩;cases h;exact⟨o,e,f.2.1⟩
  ·obtain⟨o,_,_,_,e,f,_⟩:=I.hok p _ d;refine⟨⟨o,e,f.1⟩,λa h=>?_⟩;cases h;exact⟨o,e,f.2.1⟩
 | _=>exact False.elim ty
def Xn(K:W.Frag)(T:String)(r:V->List V->Hp->VK->Prop)(e:TE)(t:TA):TE:=λd H Q=>e d H λx c=>Zy K T x c/\t d c λf g=>r x f g Q
variable {o e:Expr}{es:List Expr}{to:TE}{t:TA}{name:Str}{apos cpos:Pos}{T id:String}{r:V->List V->Hp->VK->Prop}
def Vd(j:PlainAttrs T)(slot:Slot T name id)(k:typeOf (.builtin id)=pure (.type "method_descriptor"))(l:Tu X id r)(m:PE X o to)(n:PA X (e::es) t)(p:attributeBase o name X.env (eval o X.env)=eval o X.env:=by rfl)(q:((backTo cpos (starEach (e::es) X.env)).all (λx=>!x.1)&&(backToKw cpos (keywordEach [] X.env)).all (λx=>x.1.isSome)
   && decide ((e::es).length+([]:List Keyword).length+(if ([]:List Keyword).isEmpty then 0 else 1)<30))=true:=by rfl)(u:(apos.endLine == cpos.line)=true:=by rfl)(w:starEach (e::es) X.env=(false,eval e X.env)::starEach es X.env:=by rfl)(y:(backTo cpos (starEach es X.env)).any (·.1)=false:=by rfl) :
  PE X (.Call (.Attribute o name apos) (e::es) [] cpos) (Xn X.K T r to t):=by
 intro c s d H Q I h;refine wpAny_Call_method_late p q u rfl (bP (m c s d H _ I h) ?_);rintro v z ⟨x,A,f,g,ty,B⟩;obtain⟨C,D⟩:=Qg f g ty;refine⟨T,id,j,slot,k,C,D,?_⟩;have i:=n cpos c z d A _ f B;rw[w]at i ⊢;refine Calls.callWith_builtin (by show(false||(backTo cpos (starEach es X.env)).any (·.1))=false;rw[y]<;>rfl) (Calls.evalArgs_plain ?_);exact bP i λE F ⟨vs,G,J,K,L⟩=>l c F d G x vs v E Q J g K L
/- O.append(e),list.index P a R tuple .. N Tu M of 06m -/
end
def Ve(X:Cx)(id:String)(r:V->List V->Hp->VK->Prop):Prop:=
 ∀(a:Z9)(s:ZP)(d:St)(H:Hp)(x:V)(b:List V)(v:ZQ)(c:List ZQ)(Q:VK),Inv X a d H s->RelV x v->Vals b c->r x b H Q →
  wpAny (model X.prog X.w) X.A (call (.builtin id) (v::c)) (EP X a d Q) X.xe s
def Vals.one:∀ {x:V}{us:List ZQ},Vals [x] us->∃u,us=[u]/\RelV x u
 | _,_,.cons r .nil=>⟨_,rfl,r⟩
def Vals.two{x y:V}{us:List ZQ}(h:Vals [x,y] us):∃u v,us=[u,v] ∧ RelV x u ∧ RelV y v:=by
 cases h with|cons r t=>cases t with|cons q t=>cases t;exact⟨_,_,rfl,r,q⟩
def Vals.eraseIdx:∀ {xs:List V}{us:List ZQ} (i:Nat),Vals xs us->Vals (xs.eraseIdx i) (us.eraseIdx i)
 | _,_,_,.nil=>.nil
 | _,_,0,.cons _ t=>t
 | _,_,i+1,.cons r t=>.cons r (Vals.eraseIdx i t)
theorem lU{a:Type}:∀(l:List a)(i:Nat),(l.eraseIdx i).length<=l.length
 | [],_=>bQ _
 | _::_,0=>le_succ _
 | _::r,i+1=>Nat.succ_le_succ (lU r i)
section
variable {X:Cx}{pins:Z9}{σ:St}{H:Hp}{s:ZP}{l b:ZR}{xs ys zs:List V}
def Inv.lset{its its':List ZQ}{n:Nat}{f:Array Value->Array Value}{t':Nat}(I:Inv X pins σ H s)(a:H l=some (.lst xs))(e:s.heap.get? l=some {cls:=.type "list",data:=.seq its.toArray n })(c:f its.toArray=its'.toArray)(d:Vals ys its')(hz:ys.length<=sizeLine) :
  Inv X pins σ (aK H l (.lst ys)) {s with heap:=s.heap.update l (Obj.mapSeq f),toks:=t' }:=by
 have q:=PySem.IsL.update e f;rw[c]at q;refine I.write (x:=l) (e:=l) (by rw[a];exact trivial) (.inl rfl) (λi u g h=>(Heap.get?_update_other s.heap (Obj.mapSeq f) (Ne.symm g)).trans h) ⟨_,q⟩ ?_;exact⟨hz,its',_,d,q⟩
def Inv.lnew{its:List ZQ}{t':Nat}(I:Inv X pins σ H s)(a:Vals ys its)(hz:ys.length<=sizeLine) :
  Inv X pins σ (aK H s.heap.objs.size (.lst ys)) {s with heap:=s.heap.push {cls:=.type "list",data:=.seq its.toArray },toks:=t' }:=
 I.laid (λ_ _ q=>iE _ q) (bQ _) ⟨hz,its,0,a,ZS _ rfl⟩
def Inv.fresh(I:Inv X pins σ H s):H s.heap.objs.size=none:=I.hok.fresh (bQ _)
def Inv.lstM(I:Inv X pins σ H s)(a:H l=some (.lst xs)):xs.length<=sizeLine/\∃(its:List ZQ)(n:Nat),Vals xs its/\xs.length=its.length/\s.heap.get? l=some {cls:=.type "list",data:=.seq its.toArray n }:=by
 obtain⟨z,its,n,r,e⟩:=I.hok l _ a;exact⟨z,its,n,r,r.length,e⟩
def Dh{n:Nat}(h:n<=sizeLine):Builtin.List.listTooLong n=false:=by
 unfold Builtin.List.listTooLong;exact ZT Zo
end
section
variable {X:Cx}
def yB:V->List V->Hp->VK->Prop:=λx vs H Q=>∃l a y,x=.ref l/\vs=[y]/\H l=some (.lst a)/\a.length<sizeLine/\Q .non (aK H l (.lst (a++[y])))
def Ak:Ve X "list.append" yB:=by
 intro g s o H x vs v i Q I c d h;obtain⟨l,j,y,rfl,rfl,b,k,q⟩:=h;cases c;obtain⟨u,rfl,f⟩:=d.one;obtain⟨z,a,n,r,m,e⟩:=I.lstM b;refine call_meets F.slot_list_append ⟨_,e,rfl⟩ F.entry_list_append (F.args_list_append_2 _ _) (PySem.list_append l a.toArray n u (by rw[cZ];omega)) ⟨e,?_⟩;refine⟨.non,_,I.lset (its':=a++[u]) b e Zs (r.append (.cons f .nil)) ?_,rfl,q⟩;rw[kJ,List.length_singleton];omega
def Jq:V->List V->Hp->VK->Prop:=λx vs H Q=>∃l b a c,x=.ref l/\vs=[.ref b]/\H l=some (.lst a)/\H b=some (.lst c)/\a.length+c.length<=sizeLine/\Q .non (aK H l (.lst (a++c)))
def Tw:Ve X "list.extend" Jq:=by
 intro w s J H x vs v y Q I g i h;obtain⟨l,b,A,B,rfl,rfl,d,j,C,q⟩:=h;cases g;obtain⟨u,rfl,k⟩:=i.one;cases k;obtain⟨z,a,n,r,D,e⟩:=I.lstM d;obtain⟨E,c,m,o,G,p⟩:=I.lstM j;have f:a.toArray.size+c.toArray.size<=sizeLine:=by rw[cZ,cZ];omega
 have t:¬ (!a.toArray.isEmpty&&Builtin.List.listTooLong (a.toArray.size+c.toArray.size))=true:=by
  rw[Dh f,Bool.and_false];exact ZX
 refine call_meets F.slot_list_extend ⟨_,e,rfl⟩ F.entry_list_extend (F.args_list_extend_2 _ _)
  (AutoSeq1.list_extend_list_list_0 l a.toArray n b c.toArray m t (by rw[cZ];omega) Zo) ⟨e,p,?_⟩
 refine⟨.non,_,I.lset (its':=a++c) d e Zs (r.append o) ?_,rfl,q⟩;rw[kJ];omega
def Dl:V->List V->Hp->VK->Prop:=λx vs H Q=>∃l a i k y,x=.ref l/\vs=[.int i]/\H l=some (.lst a)/\-(2^63)<=i/\i<2^63/\seqIndex? i a.length=some k/\a[k]?=some y/\Q y (aK H l (.lst (a.eraseIdx k)))
def Dm:Ve X "list.pop" Dl:=by
 intro D s G H x vs v E Q I c d h;obtain⟨l,f,i,k,y,rfl,rfl,b,g,j,m,o,q⟩:=h;cases c;obtain⟨u,rfl,p⟩:=d.one;obtain⟨t,rfl⟩:=p;obtain⟨z,a,n,r,A,e⟩:=I.lstM b;obtain⟨w,B,C⟩:=r.get o;refine call_meets F.slot_list_pop ⟨_,e,rfl⟩ F.entry_list_pop (F.args_list_pop_2 _ _)
  (MeetsSeq.list_pop_at l a.toArray n i t k w (fitsIndex_both g j) (by rw[cZ,<- A];exact m) (by rw[<- Array.getElem?_toList];exact B) (by rw[cZ];omega)) ⟨e,?_⟩
 refine⟨y,_,I.lset (its':=a.eraseIdx k) b e ?_ (r.eraseIdx k) ?_,C,q⟩
 ·show a.toArray.eraseIdxIfInBounds k=(a.eraseIdx k).toArray;rw[List.eraseIdxIfInBounds_toArray]
 ·have:=lU f k;omega
def Yj:R2:=λx y H Q=>∃l b a c,x=.ref l/\y=.ref b/\H l=some (.lst a)/\H b=some (.lst c)/\a.length+c.length<=sizeLine/\∀p,H p=none->Q (.ref p) (aK H p (.lst (a++c)))
def Qh:OpR X (binaryOp .Add) Yj:=by
 intro o s E H x y v u Q I d f h;obtain⟨l,b,p,t,rfl,rfl,g,i,w,q⟩:=h;cases d;cases f;obtain⟨z,a,n,r,A,e⟩:=I.lstM g;obtain⟨B,c,C,j,D,k⟩:=I.lstM i;refine PySem.P.add_list e k ?_ (by rw[cZ,cZ];omega);have m:a.toArray++c.toArray=(a++c).toArray:=by simp
 rw[m];exact⟨.ref _,_,I.lnew (t':=s.toks) (r.append j) (by rw[kJ];omega),rfl,q _ I.fresh⟩
end
section
variable {κ:Type} [DecidableEq κ]
def aT(kvs:List (κ×V))(k:κ):Option V:=(kvs.find? λa=>decide (a.1=k)).map (·.2)
def bT(kvs:List (κ×V))(k:κ)(v:V):List (κ×V):=
 if (kvs.any λa=>decide (a.1=k))=true then kvs.map (λa=>if a.1=k then (a.1,v) else a) else kvs++[(k,v)]
def fS(kvs:List (κ×V))(k:κ):List (κ×V):=kvs.filter λa=>decide (a.1≠k)
def bL{p:κ×V}{r:List (κ×V)}{k:κ}(e:p.1=k):aT (p::r) k=some p.2:=by simp[aT,find?_cons,e]
def bG{p:κ×V}{r:List (κ×V)}{k:κ}(e:¬ p.1=k):aT (p::r) k=aT r k:=by simp[aT,find?_cons,e]
theorem fG(k:κ):∀kvs:List (κ×V),(kvs.any λa=>decide (a.1=k))=(aT kvs k).isSome
 | []=>rfl
 | p::r=>by
  rw[any_cons];by_cases e:p.1=k
  ·simp only [bL e,ZU e,Bool.true_or,Option.isSome_some]
  ·rw[bG e,ZT e,Bool.false_or];exact fG k r
theorem tT(k j:κ)(y:V):∀kvs:List (κ×V),aT (kvs.map λa=>if a.1=k then (a.1,y) else a) j=(aT kvs j).map λx=>if j=k then y else x
 | []=>rfl
 | p::r=>by
  have b:=tT k j y r;rw[map_cons];by_cases h:p.1=k
  ·rw[ZO h];by_cases e:p.1=j
   ·rw[bL (p:=(p.1,y)) e,bL e,Option.map_some,ZO (e.symm.trans h)]
   ·rw[bG (p:=(p.1,y)) e,bG e,b]
  ·rw[ZN h];by_cases e:p.1=j
   ·rw[bL (p:=p) e,bL e,Option.map_some,ZN (λz=>h (e.trans z))]
   ·rw[bG (p:=p) e,bG e,b]
theorem qH(k j:κ)(y:V):∀kvs:List (κ×V),aT kvs k=none->aT (kvs++[(k,y)]) j=if j=k then some y else aT kvs j
 | [],_=>by
  by_cases e:k=j
  ·rw[ZO e.symm];exact bL (p:=(k,y)) e
  ·rw[ZN (λz=>e z.symm)];exact bG (p:=(k,y)) e
 | p::r,a=>by
  rw[List.cons_append];have b:¬ p.1=k:=λz=>by rw[bL z]at a;cases a
  rw[bG b]at a;have c:=qH k j y r a;by_cases e:p.1=j
  ·rw[bL e,bL e,ZN (λz=>b (e.trans z))]
  ·rw[bG e,bG e,c]
def eE(kvs:List (κ×V))(k j:κ)(y:V):aT (bT kvs k y) j=if j=k then some y else aT kvs j:=by
 unfold bT;by_cases a:(kvs.any λb=>decide (b.1=k))=true
 ·rw[ZO a,tT];rw[fG]at a;by_cases e:j=k
  ·obtain⟨x,c⟩:=Option.isSome_iff_exists.mp a;rw[ZO e,e,c,Option.map_some,ZO rfl]
  ·rw[ZN e];cases aT kvs j with
   | none=>rfl
   | some x=>rw[Option.map_some,ZN e]
 ·rw[ZN a];refine qH k j y kvs ?_;rw[fG]at a;cases q:aT kvs k with
  | none=>rfl
  | some x=>rw[q]at a;exact(a rfl).elim
def cC(kvs:List (κ×V))(k:κ)(v:V):(bT kvs k v).length<=kvs.length+1:=by
 unfold bT;split
 ·rw[bF];omega
 ·rw[kJ,vG,length_nil];omega
def oA{kvs:List (κ×V)}{k:κ}(v:V)(h:aT kvs k=none):bT kvs k v=kvs++[(k,v)]:=by
 unfold bT;rw[fG,h];exact ZN Zd
def RelO.isSome_eq{o:Option V}{u:Option ZQ}(r:RelO o u):o.isSome=u.isSome:=by
 cases o with
 | none=>cases u with
  | none=>rfl
  | some _=>exact(show False from r).elim
 | some _=>cases u with
  | none=>exact(show False from r).elim
  | some _=>rfl
def RelO.getD{o:Option V}{u:Option ZQ}{d:V}{d':ZQ}(r:RelO o u)(a:RelV d d'):RelV (o.getD d) (u.getD d'):=by
 cases o with
 | none=>cases u with
  | none=>exact a
  | some _=>exact(show False from r).elim
 | some _=>cases u with
  | none=>exact(show False from r).elim
  | some _=>exact r
def KV.val{kvs:List (κ×V)}{vs:List (κ×ZQ)}(r:KV kvs vs)(k:κ):RelO (aT kvs k) (valueAt vs k):=by
 unfold KV at r;induction r with
 | nil=>exact True.intro
 | @cons p q ps a h t f=>
  obtain⟨d,g⟩:=h;by_cases e:p.1=k
  ·have c:q.1=k:=d.symm.trans e;have b:valueAt (q::a) k=some q.2:=by simp[valueAt,find?_cons,c]
   rw[bL e,b];exact g
  ·have c:¬ q.1=k:=λz=>e (d.trans z)
   have b:valueAt (q::a) k=valueAt a k:=by simp[valueAt,find?_cons,c]
   rw[bG e,b];exact f
def KV.any{kvs:List (κ×V)}{vs:List (κ×ZQ)}(r:KV kvs vs)(k:κ):(kvs.any λa=>decide (a.1=k))=vs.any λa=>decide (a.1=k):=by
 unfold KV at r;induction r with
 | nil=>rfl
 | cons h t b=>rw[any_cons,any_cons,b,h.1]
def KV.repl{kvs:List (κ×V)}{vs:List (κ×ZQ)}(r:KV kvs vs)(k:κ){y:V}{u:ZQ}(c:RelV y u) :
  KV (kvs.map λa=>if a.1=k then (a.1,y) else a) (vs.map λa=>if a.1=k then (a.1,u) else a):=by
 unfold KV at r ⊢
 induction r with
 | nil=>exact .nil
 | @cons p q ps g h t d=>
  rw[map_cons,map_cons];refine .cons ?_ d;obtain⟨b,f⟩:=h;by_cases e:p.1=k
  ·rw[ZO e,ZO (b.symm.trans e)];exact⟨b,c⟩
  ·rw[ZN e,ZN (λz=>e (b.trans z))];exact⟨b,f⟩
def KV.put{kvs:List (κ×V)}{vs:List (κ×ZQ)}(r:KV kvs vs)(k:κ){y:V}{u:ZQ}(a:RelV y u):KV (bT kvs k y) (stored vs k u):=by
 unfold bT stored;rw[r.any k];by_cases e:(vs.any λb=>decide (b.1=k))=true
 ·rw[ZO e,ZO e];exact r.repl k a
 ·rw[ZN e,ZN e];exact Paired.snoc r ⟨rfl,a⟩
def KV.drop{kvs:List (κ×V)}{vs:List (κ×ZQ)}(r:KV kvs vs)(k:κ):KV (fS kvs k) (without vs k):=by
 unfold KV at r ⊢;unfold fS without;induction r with
 | nil=>exact .nil
 | @cons p q ps i h t d=>
  obtain⟨c,f⟩:=h;rw[filter_cons,filter_cons];by_cases e:p.1=k
  ·have a:¬ decide (p.1≠k)=true:=by simp[e]
   have b:¬ decide (q.1≠k)=true:=by simp[c.symm.trans e]
   rw[ZN a,ZN b];exact d
  ·have g:¬ q.1=k:=λz=>e (c.trans z)
   have a:decide (p.1≠k)=true:=by simp[e]
   have b:decide (q.1≠k)=true:=by simp[g]
   rw[ZO a,ZO b];exact .cons ⟨c,f⟩ d
def KV.keys{kvs:List (κ×V)}{vs:List (κ×ZQ)}(r:KV kvs vs):kvs.map (·.1)=vs.map (·.1):=by
 unfold KV at r;induction r with
 | nil=>rfl
 | cons h t a=>rw[map_cons,map_cons,a,h.1]
def KV.length{kvs:List (κ×V)}{vs:List (κ×ZQ)}(r:KV kvs vs):kvs.length=vs.length:=Paired.length r
def oC(kvs:List (κ×V))(k:κ):(fS kvs k).length<=kvs.length:=length_filter_le _ _
end
def iC{P:Program}{w:World}{k:aX}{u:ZQ}(r:RelV (kV k) u):(aM P w).is k u=true:=by
 cases k with
 | inl i=>obtain⟨t,e⟩:=(show ∃t,u=Value.int i t from r);subst e;exact tK P w i t
 | inr x=>obtain⟨t,e⟩:=(show ∃t,u=Value.str x t from r);subst e;exact tL P w x t
def qI{P:Program}{w:World}:∀ {a:List aX}{us:List ZQ},Vals (a.map kV) us->ItemsAre (aM P w) a us
 | [],_,r=>by rw[map_nil]at r;cases r;exact .nil
 | k::a,_,r=>by
  rw[map_cons]at r;cases r with
  | cons h t=>exact .cons (iC h) (qI t)
abbrev KT(H:Hp):List (List aX×V)->List (List aX×ZR×ZQ)->Prop:=Paired λp q=>p.1=q.1/\H q.2.1=some (.tup (p.1.map kV))/\RelV p.2 q.2.2
def KT.val{H:Hp}{kvs:List (List aX×V)}{xs:List (List aX×ZR×ZQ)}(r:KT H kvs xs)(k:List aX):RelO (aT kvs k) ((atKey xs k).map (·.2)):=by
 induction r with
 | nil=>exact True.intro
 | @cons p q ps a h t f=>
  obtain⟨d,_,g⟩:=h;by_cases e:p.1=k
  ·have c:q.1=k:=d.symm.trans e;have b:atKey (q::a) k=some q.2:=by simp[atKey,find?_cons,c]
   rw[bL e,b];exact g
  ·have c:¬ q.1=k:=λz=>e (d.trans z)
   have b:atKey (q::a) k=atKey a k:=by simp[atKey,find?_cons,c]
   rw[bG e,b];exact f
def KT.repl{H:Hp}{kvs:List (List aX×V)}{xs:List (List aX×ZR×ZQ)}(r:KT H kvs xs)(k:List aX){y:V}{u:ZQ}(d:RelV y u) :
  KT H (kvs.map λb=>if b.1=k then (b.1,y) else b) (xs.map (putAt k u)):=by
 induction r with
 | nil=>exact .nil
 | @cons p q ps i h t f=>
  rw[map_cons,map_cons];refine .cons ?_ f;obtain⟨a,c,g⟩:=h;unfold putAt;by_cases e:p.1=k
  ·rw[ZO e,ZO (a.symm.trans e)];exact⟨a,c,d⟩
  ·rw[ZN e,ZN (λz=>e (a.trans z))];exact⟨a,c,g⟩
def KT.put{H:Hp}{kvs:List (List aX×V)}{xs:List (List aX×ZR×ZQ)}(r:KT H kvs xs)(k:List aX){b:ZR}{y:V}{u:ZQ}(c:H b=some (.tup (k.map kV)))(a:RelV y u) :
  KT H (bT kvs k y) (storedH xs k b u):=by
 have e:(kvs.any λd=>decide (d.1=k))=(atKey xs k).isSome:=by
  rw[fG,(r.val k).isSome_eq,Option.isSome_map]
 unfold bT storedH;rw[e];by_cases q:(atKey xs k).isSome=true
 ·rw[ZO q,ZO q];exact r.repl k a
 ·rw[ZN q,ZN q];exact Paired.snoc r ⟨rfl,c,a⟩
def KT.keeps{H a:Hp}{kvs:List (List aX×V)}{xs:List (List aX×ZR×ZQ)}(r:KT H kvs xs)(c:∀b ys,H b=some (.tup ys)->a b=some (.tup ys)):KT a kvs xs:=
 Paired.mapP r λ_ _ z=>⟨z.1,c _ _ z.2.1,z.2.2⟩
section
variable {P:Program}{w:World}{H:Hp}{h:Heap}{a:ZR}
def Nl{u:HO}(ok:HOk P w H h)(e:Rd H a u):ObjOk P w H h a u:=e.ok ok
def kO{kvs:List (aX×V)}(ok:HOk P w H h)(e:Rd H a (.dK kvs)):kvs.length<=sizeLine/\(a==sysModules)=false/\∃vs,KV kvs vs/\h.DictOf (aM P w) a vs:=
 show ObjOk P w H h a (.dK kvs) from Nl ok e
def oE{kvs:List (aX×V)}(ok:HOk P w H h)(e:H a=some (.dK kvs)):kvs.length<=sizeLine/\(a==sysModules)=false/\∃vs,KV kvs vs/\h.DictOf (aM P w) a vs:=kO ok (.inl e)
def jV{b:List aX}(ok:HOk P w H h)(e:H a=some (.tup (b.map kV))):(tupleKind (aM P w)).is h b a:=by
 obtain⟨_,c,r,o,d,f,n,g⟩:=(show ObjOk P w H h a (.tup (b.map kV)) from ok a _ e);exact⟨o,c.toArray,n,d,f,g,by simpa using qI r⟩
def mP{kvs:List (List aX×V)}(ok:HOk P w H h)(e:Rd H a (.dT kvs)):kvs.length<=sizeLine/\(a==sysModules)=false ∧
  ∃xs,KT H kvs xs/\h.DictOfH (tupleKind (aM P w)) a xs:=by
 obtain⟨z,y,xs,r,o,d,f,g,i,j,k,n⟩:=(show ObjOk P w H h a (.dT kvs) from Nl ok e);refine⟨z,y,xs,r,o,d,f,g,i,j,k,λx b=>?_,n⟩;have all:∀ {l:List (List aX×V)}{m:List (List aX×ZR×ZQ)},KT H l m->∀x∈m,(tupleKind (aM P w)).is h x.1 x.2.1:=by
  intro l m q;induction q with
  | nil=>intro x b;exact nomatch b
  | @cons p q ps u c t s=>
   intro x b;rcases mem_cons.mp b with e|b
   ·subst e;exact jV ok (by rw[<- c.1];exact c.2.1)
   ·exact s x b
 exact all r x b
def Vf{kvs:List (List aX×V)}(ok:HOk P w H h)(e:H a=some (.dT kvs)):kvs.length<=sizeLine/\(a==sysModules)=false ∧
  ∃xs,KT H kvs xs/\h.DictOfH (tupleKind (aM P w)) a xs:=mP ok (.inl e)
end
def DGet(H:Hp)(a:ZR)(y:V)(r:Option V):Prop:=
 (∃c k,Rd H a (.dK c)/\y=kV k/\r=aT c k)∨∃c k b,Rd H a (.dT c)/\y=.ref b/\H b=some (.tup (k.map kV))/\r=aT c k
def DPut(H:Hp)(a:ZR)(y v:V)(d:Hp):Prop:=
 (∃c k,H a=some (.dK c)/\y=kV k/\c.length<sizeLine/\d=aK H a (.dK (bT c k v)))∨
 ∃c k b,H a=some (.dT c)/\y=.ref b/\H b=some (.tup (k.map kV))/\c.length<sizeLine/\d=aK H a (.dT (bT c k v))
def DGet.k{H:Hp}{a:ZR}{kvs:List (aX×V)}{k:aX}(e:H a=some (.dK kvs)):DGet H a (kV k) (aT kvs k):=.inl ⟨kvs,k,.inl e,rfl,rfl⟩
def DGet.t{H:Hp}{a b:ZR}{kvs:List (List aX×V)}{k:List aX}(e:H a=some (.dT kvs))(c:H b=some (.tup (k.map kV))):DGet H a (.ref b) (aT kvs k):=.inr ⟨kvs,k,b,.inl e,rfl,c,rfl⟩
def DPut.k{H:Hp}{a:ZR}{kvs:List (aX×V)}{k:aX}{v:V}(e:H a=some (.dK kvs))(b:kvs.length<sizeLine):DPut H a (kV k) v (aK H a (.dK (bT kvs k v))):=.inl ⟨kvs,k,e,rfl,b,rfl⟩
def DPut.t{H:Hp}{a b:ZR}{kvs:List (List aX×V)}{k:List aX}{v:V}(e:H a=some (.dT kvs))(c:H b=some (.tup (k.map kV)))(d:kvs.length<sizeLine) :
  DPut H a (.ref b) v (aK H a (.dT (bT kvs k v))):=.inr ⟨kvs,k,b,e,rfl,c,d,rfl⟩
section
variable {X:Cx}{pins:Z9}{σ:St}{H:Hp}{s:ZP}{a:ZR}{y v:V}{u r:ZQ}{o:Option V}{A:Around}{E:Z8}
def Inv.big(I:Inv X pins σ H s):sysModules<s.heap.objs.size:=by
 have h:mainGlobals<s.heap.objs.size:=(I.mod.glob.keeps I.bk).lt;exact lt_trans Zd h
def Al{Q:Z8}(w:A.units+1<cLine)(I:Inv X pins σ H s)(g:DGet H a y (some v))(n:RelV y u)(h:∀c q,Inv X pins σ H q->RelV v c->Q c q) :
  wpAny (model X.prog X.w) A (getItem (.ref a) u) Q E s:=by
 rcases g with⟨t,k,e,f,l⟩|⟨t,k,b,e,f,x,l⟩
 ·subst f;obtain⟨z,B,vs,d,i⟩:=kO I.hok e;obtain⟨c,j,m⟩:=RelO.some_of (v:=v) (o:=valueAt vs k) (by rw[l];exact d.val k);exact wpAny_getItem_of (iC n) i.mapOf j (h c _ (I.tok _) m)
 ·subst f;cases(show u=Value.ref b from n);obtain⟨z,B,C,d,i⟩:=mP I.hok e;obtain⟨c,j,m⟩:=RelO.some_of (v:=v) (o:=(atKey C k).map (·.2)) (by rw[l];exact d.val k);obtain⟨p,D,F⟩:=Option.map_eq_some_iff.mp j;refine wpAny_getItem_heap (tupleKind_room_in1 w) (jV I.hok x) i D ?_;rw[F];exact h c _ (I.tok _) m
def Vg{Q:Z8}(p:A.units+1<cLine)(I:Inv X pins σ H s)(g:DGet H a y o)(j:RelV y u)(h:∀m,Inv X pins σ H m->Q (.bool o.isSome) m) :
  wpAny (model X.prog X.w) A (compareOp .In u (.ref a)) Q E s:=by
 rcases g with⟨n,k,e,d,l⟩|⟨n,k,b,e,d,t,l⟩
 ·subst d;obtain⟨z,f,vs,c,i⟩:=kO I.hok e;refine wpAny_in_of (iC j) f i.mapOf ?_;rw[<- (c.val k).isSome_eq,<- l];exact h _ (I.tok _)
 ·subst d;cases(show u=Value.ref b from j);obtain⟨z,f,w,c,i⟩:=mP I.hok e;refine wpAny_in_heap (tupleKind_room_in1 p) (jV I.hok t) f i ?_;have q:=(c.val k).isSome_eq;rw[Option.isSome_map]at q;rw[<- q,<- l];exact h _ (I.tok _)
def yC{Q:Z8}(p:A.units+1<cLine)(I:Inv X pins σ H s)(g:DGet H a y o)(j:RelV y u)(h:∀m,Inv X pins σ H m->Q (.bool (!o.isSome)) m) :
  wpAny (model X.prog X.w) A (compareOp .NotIn u (.ref a)) Q E s:=by
 rcases g with⟨n,k,e,d,l⟩|⟨n,k,b,e,d,t,l⟩
 ·subst d;obtain⟨z,f,vs,c,i⟩:=kO I.hok e;refine wpAny_notIn_of (iC j) f i.mapOf ?_;rw[<- (c.val k).isSome_eq,<- l];exact h _ (I.tok _)
 ·subst d;cases(show u=Value.ref b from j);obtain⟨z,f,w,c,i⟩:=mP I.hok e;refine wpAny_notIn_heap (tupleKind_room_in1 p) (jV I.hok t) f i ?_;have q:=(c.val k).isSome_eq;rw[Option.isSome_map]at q;rw[<- q,<- l];exact h _ (I.tok _)
def kP{h':Heap}{t':Nat}{c:HO}(I:Inv X pins σ H s)(d:Ue (H a))(f:Heap.SameBut a s.heap h')(g:∃q,h'.get? a=some q)(new:ObjOk X.prog X.w (aK H a c) h' a c) :
  Inv X pins σ (aK H a c) {s with heap:=h',toks:=t' }:=
 I.write (x:=a) (e:=a) d (.inl rfl) (λb q h z=>(f.2 b h).trans z) g new
def rV{P:Program}{w:World}{c:Hp}{h':Heap}{kvs:List (aX×V)}{vs:List (aX×ZQ)}(z:kvs.length<=sizeLine)(d:(a==sysModules)=false)(b:KV kvs vs)(e:h'.DictOf (aM P w) a vs) :
  ObjOk P w c h' a (.dK kvs):=⟨z,d,vs,b,e⟩
def Am{C:Hp}{Q:Unit->ZP->Prop}(M:A.units+1<cLine)(I:Inv X pins σ H s)(g:DPut H a y v C)(D:RelV y u)(F:RelV v r)(h:∀G,Inv X pins σ C G->Q () G) :
  wpAny (model X.prog X.w) A (setItem (.ref a) u r) Q E s:=by
 rcases g with⟨d,k,e,m,l,n⟩|⟨d,k,b,e,m,J,l,n⟩
 ·subst m n;obtain⟨z,p,vs,f,t⟩:=oE I.hok e;have w:vs.length<=sizeLine:=by rw[<- f.length];exact z
  have x:(bT d k v).length<=sizeLine:=by have:=cC d k v;omega
  refine wpAny_setItem_pairs (hsz:=w) (iC D) t λK i B=>h _ ?_;have N:∃q,K.get? a=some q:=let ⟨q,_,_,j,_⟩:=i;⟨q,j⟩;exact kP I (by rw[e];exact True.intro) B N (rV x p (f.put k F) i)
 ·subst m n;cases(show u=Value.ref b from D);obtain⟨z,p,O,f,t⟩:=Vf I.hok e;have w:O.length<=sizeLine:=by rw[<- Paired.length f];exact z
  have x:(bT d k v).length<=sizeLine:=by have:=cC d k v;omega
  refine wpAny_setItem_heap (hsz:=w) (tupleKind_room_in1 M) (jV I.hok J) t λK i B=>h _ ?_;obtain⟨q,P,R,j,S,T,U,_,V⟩:=i;refine kP I (by rw[e];exact True.intro) B ⟨q,j⟩ ⟨x,p,_,(f.put k J F).keeps λc W L=>?_,q,P,R,j,S,T,U,V⟩;rw[aF (bK L e nofun)];exact L
end
section
variable {X:Cx}{pins:Z9}{σ:St}{H:Hp}{s:ZP}{a:ZR}{kvs:List (aX×V)}{k:aX}{u:ZQ}{A:Around}{E:Z8}
def Tx{Q:Unit->ZP->Prop}(I:Inv X pins σ H s)(e:H a=some (.dK kvs))(g:RelV (kV k) u)(l:(aT kvs k).isSome=true)(h:∀d,Inv X pins σ (aK H a (.dK (fS kvs k))) d->Q () d) :
  wpAny (model X.prog X.w) A (delItem (.ref a) u) Q E s:=by
 obtain⟨z,i,vs,b,c⟩:=oE I.hok e;refine wpAny_delItem_slot c.typeIs Zd PySem.F.slot_dict_delitem
  (call_meetsIn PySem.F.slot_dict_delitem c.typeIs PySem.F.entry_dict_delitem (PySem.F.args_dict_delitem_2 _ _) (meets_dict_delitem_pairs (aM X.prog X.w) a (iC g)) ⟨vs,c,by rw[<- b.length];exact z,by rw[<- (b.val k).isSome_eq];exact l,λj f m=>h _ ?_⟩)
 have n:∃q,j.get? a=some q:=let ⟨q,_,_,o,_⟩:=f;⟨q,o⟩;exact kP I (by rw[e];exact True.intro) m n (rV (hZ (oC kvs k) z) i (b.drop k) f)
def Vh{v:V}{more:List ZQ}{Q:Z8}(I:Inv X pins σ H s)(e:H a=some (.dK kvs))(d:RelV (kV k) u)(l:aT kvs k=some v)(f:more=[]∨∃x,more=[x])(h:∀b g,Inv X pins σ (aK H a (.dK (fS kvs k))) g->RelV v b->Q b g):wpAny (model X.prog X.w) A (call (.builtin "dict.pop") (.ref a::u::more)) Q E s:=by
 obtain⟨z,n,vs,c,j⟩:=oE I.hok e;obtain⟨b,p,r⟩:=RelO.some_of (v:=v) (o:=valueAt vs k) (by rw[<- l];exact c.val k);have w:(keyPart u).isSome=true:=by
  cases k with
  | inl i=>obtain⟨t,q⟩:=(show ∃t,u=Value.int i t from d);subst q;rfl
  | inr x=>obtain⟨t,q⟩:=(show ∃t,u=Value.str x t from d);subst q;rfl
 have y:argsOk "dict.pop" ⟨.ref a::u::more,[]⟩:=by
  rcases f with q|⟨x,q⟩
  ·subst q;exact PySem.F.args_dict_pop_2 _ _
  ·subst q;exact PySem.F.args_dict_pop_3 _ _ _
 refine call_meetsIn PySem.F.slot_dict_pop j.typeIs PySem.F.entry_dict_pop y (meets_dict_pop_there (aM X.prog X.w) a (iC d) more f w)
  ⟨vs,b,j,by rw[<- c.length];exact z,p,λB m C=>h b _ ?_ r⟩
 have D:∃q,B.get? a=some q:=let ⟨q,_,_,F,_⟩:=m;⟨q,F⟩;exact kP I (by rw[e];exact True.intro) C D (rV (hZ (oC kvs k) z) n (c.drop k) m)
def Qi{r:ZQ}{Q:Z8}(I:Inv X pins σ H s)(e:H a=some (.dK kvs))(b:RelV (kV k) u)(l:aT kvs k=none)(h:∀c,Inv X pins σ H c->Q r c) :
  wpAny (model X.prog X.w) A (call (.builtin "dict.pop") [.ref a,u,r]) Q E s:=by
 obtain⟨z,g,vs,f,d⟩:=oE I.hok e;have j:valueAt vs k=none:=RelO.none_of (by rw[<- l];exact f.val k);have m:(keyPart u).isSome=true:=by
  cases k with
  | inl i=>obtain⟨t,q⟩:=(show ∃t,u=Value.int i t from b);subst q;rfl
  | inr x=>obtain⟨t,q⟩:=(show ∃t,u=Value.str x t from b);subst q;rfl
 exact call_meetsIn PySem.F.slot_dict_pop d.typeIs PySem.F.entry_dict_pop (PySem.F.args_dict_pop_3 _ _ _) (meets_dict_pop_default (aM X.prog X.w) a (iC b) g m r) ⟨vs,d,j,h _ (I.tok _)⟩
end
def Qj(i:Expr):Prop:=∀a b,subscripted i false a b=operate [a,b] (getItem a b)
def Jr{prog:Program}{w:World}{A:Around}{E:Z8}{s:ZP}{env:Env}{b slice:Expr}{pos:Pos}{T id:String}{Q:Z8}(k:typeLookup (.type T) "__getitem__"=pure (some (.builtin id)))(l:Qj slice)(h:wpAny (model prog w) A (eval b env) (λo d=>wpAny (model prog w) A (eval slice env) (λi a=>a.TypeIs o T/\wpAny (model prog w) A (getItem o i) Q E a) E d) E s) :
  wpAny (model prog w) A (eval (.Subscript b slice pos) env) Q E s:=by
 refine Subscript_ (wpAny_mono h (λo d g=>wpAny_mono g (λi a c=>?_) λ_ _ x=>x) λ_ _ x=>x);obtain⟨f,c⟩:=c;unfold subscriptTail;refine ZZ ?_;rw[getitemInPython_of_ne f.not_modules];refine ZZ (wpAny_specialOf f k ?_);have fin:wpAny (model prog w) A (subscripted slice false o i) (λr e=>wpAny (model prog w) A (letTemporaryGo b o r>>=λ_=>pure r) Q E e) E a:=by
  rw[l o i];exact wpAny_operating (wpAny_mono c (λr e j=>ZZ (wpAny_letTemporaryGo (ZY j))) λ_ _ x=>x)
 first
  | exact ZY (ZZ fin)
  | exact ZZ (ZY (ZZ fin))
  | exact ZZ fin
def tV{X:Cx}{d:Z9}{h:St}{H:Hp}{s:ZP}{a:ZR}{y:V}{o:Option V}(I:Inv X d h H s)(g:DGet H a y o):s.TypeIs (.ref a) "dict":=by
 rcases g with⟨f,k,e,_,_⟩|⟨f,k,b,e,_,_,_⟩
 ·obtain⟨_,_,vs,_,c⟩:=kO I.hok e;exact c.typeIs
 ·obtain⟨_,_,i,_,c⟩:=mP I.hok e;exact c.typeIs
def Nm(d ty:TE):TE:=λc H Q=>d c H λx e=>ty c e λy b=>∃a v,x=.ref a/\DGet b a y (some v)/\Q v b
section
variable {X:Cx}{o i e value:Expr}{pos pos' xx:Pos}{td ty tv:TE}
def Js(f:X.A.units+1<cLine)(j:PE X o td)(k:PE X i ty)(l:Qj i):PE X (.Subscript o i pos) (Nm td ty):=by
 intro b s d H Q I h;refine Jr PySem.F.slot_dict_getitem.lookup l (bP (j b s d H _ I h) λu m ⟨x,n,p,q,r⟩=>bP (k b m d n _ p r) ?_);rintro D E ⟨y,t,c,w,a,v,z,g,A⟩;subst z;obtain rfl:u=Value.ref a:=q;exact⟨tV c g,Al f c g w λF G B C=>⟨v,t,B,C,A⟩⟩
end
def tX{P:Program}{w:World}{H:Hp}(h:Heap)(a:sysModules<h.objs.size):ObjOk P w H (h.push {cls:=.type "dict",data:=.dict #[] }) h.objs.size (.dK []):=
 ⟨zero_le _,beq_eq_false_iff_ne.mpr (Ne.symm (ne_of_lt a)),[],.nil,Heap.DictOf.new h⟩
def Dn{P:Program}{w:World}{H:Hp}(h:Heap)(a:sysModules<h.objs.size):ObjOk P w H (h.push {cls:=.type "dict",data:=.dict #[] }) h.objs.size (.dT []):=
 ⟨zero_le _,beq_eq_false_iff_ne.mpr (Ne.symm (ne_of_lt a)),[],.nil,_,#[],0,ZS _ rfl,⟨rfl,rfl,rfl⟩,rfl,rfl,nodup_nil⟩
def rW:TE:=λ_ H Q=>∀p,H p=none->Q (.ref p) (aK H p (.dK []))
def Do:TE:=λ_ H Q=>∀p,H p=none->Q (.ref p) (aK H p (.dT []))
section
variable {X:Cx}{pos:Pos}
def Dp:PE X (.Dict [] [] pos) rW:=λb s c H Q I h=>
 wpAny_Dict_empty ⟨.ref s.heap.objs.size,_,I.laid (a:=s.heap.objs.size) (o:=.dK []) (t':=s.toks) (λ_ _ q=>iE _ q) (bQ _) (tX s.heap I.big),rfl,h _ (I.hok.fresh (bQ _))⟩
def Dq:PE X (.Dict [] [] pos) Do:=λb s c H Q I h=>
 wpAny_Dict_empty ⟨.ref s.heap.objs.size,_,I.laid (a:=s.heap.objs.size) (o:=.dT []) (t':=s.toks) (λ_ _ q=>iE _ q) (bQ _) (Dn s.heap I.big),rfl,h _ (I.hok.fresh (bQ _))⟩
end
def vZ:List (TE×TE)->St->Hp->(List (V×V)->Hp->Prop)->Prop
 | [],_,H,Q=>Q [] H
 | (tk,tv)::r,a,H,Q=>tk a H λx b=>tv a b λy c=>vZ r a c λps d=>Q ((x,y)::ps) d
abbrev VV:List (V×V)->List (ZQ×ZQ)->Prop:=Paired λp q=>RelV p.1 q.1/\RelV p.2 q.2
def Vi(X:Cx)(pos:Pos)(keys:List (Option Expr))(d:List Expr)(e:List (TE×TE)):Prop:=
 ∀(b:Z9)(s:ZP)(a:St)(H:Hp)(Q:List (V×V)->Hp->Prop),Inv X b a H s->vZ e a H Q →
  wpAny (model X.prog X.w) X.A (evalPairs (pairTrees keys d X.env pos)) (λvs f=>∃ps c,Inv X b a c f/\VV ps vs/\Q ps c) X.xe s
def Jt{X:Cx}{pos:Pos}:Vi X pos [] [] []:=λa s b H Q I h=>pairTrees_nil_walk ⟨[],H,I,.nil,h⟩
def Dr{X:Cx}{pos:Pos}{k v:Expr}{d:List (Option Expr)}{vs:List Expr}{tk tv:TE}{c:List (TE×TE)}(f:PE X k tk)(g:PE X v tv)(i:Vi X pos d vs c) :
  Vi X pos (some k::d) (v::vs) ((tk,tv)::c):=λa s b H Q I h=>
 pairTrees_cons_walk (bP (f a s b H _ I h) λu j ⟨x,l,m,n,o⟩=>bP (g a j b l _ m o) λC p ⟨y,q,r,t,w⟩=>
  bP (i a p b q _ r w) λD E ⟨ps,z,A,e,B⟩=>⟨(x,y)::ps,z,A,.cons ⟨n,t⟩ e,B⟩)
def aP(kvs more:List (aX×V)):List (aX×V):=more.foldl (λb a=>bT b a.1 a.2) kvs
def KV.merge:∀ {more:List (aX×V)}{a:List (aX×ZQ)}{kvs:List (aX×V)}{vs:List (aX×ZQ)},KV more a->KV kvs vs->KV (aP kvs more) (merged vs a):=by
 intro more a kvs vs r;unfold KV at r;induction r generalizing kvs vs with
 | nil=>intro q;exact q
 | @cons p q ps d h t b=>
  intro c;have e:KV (bT kvs p.1 p.2) (stored vs q.1 q.2):=by
   have:=c.put p.1 h.2;rw[<- h.1];exact this
  exact b e
theorem dU:∀(more kvs:List (aX×V)),(aP kvs more).length<=kvs.length+more.length
 | [],kvs=>by show kvs.length<=kvs.length+0;omega
 | p::r,kvs=>by
  have a:=dU r (bT kvs p.1 p.2);have b:=cC kvs p.1 p.2;show(aP (bT kvs p.1 p.2) r).length<=_;rw[vG];omega
theorem oF{P:Program}{w:World}:∀ {kvs:List (aX×V)}{ws:List (ZQ×ZQ)},VV (kvs.map λe=>(kV e.1,e.2)) ws->∃d,Carries (aM P w) ws d/\KV kvs d
 | [],_,r=>by rw[map_nil]at r;cases r;exact⟨[],True.intro,.nil⟩
 | p::kvs,_,r=>by
  rw[map_cons]at r;cases r with
  | @cons a b g bs h t=>
   obtain⟨d,c,q⟩:=oF (P:=P) (w:=w) t;obtain⟨i,f⟩:=b;exact⟨(p.1,f)::d,⟨iC h.1,rfl,c⟩,.cons ⟨rfl,h.2⟩ q⟩
def Nn(d:List (TE×TE)):TE:=λe H Q=>∀p,H p=none->vZ d e (aK H p (.dK [])) λps b=>b p=some (.dK [])/\∃a:List (aX×V),ps=a.map (λc=>(kV c.1,c.2))/\a.length<=15/\Q (.ref p) (aK b p (.dK (aP [] a)))
def Ju{X:Cx}{pos:Pos}{keys:List (Option Expr)}{b:List Expr}{d:List (TE×TE)}(h:Vi X pos keys b d)(l:keys.all (·.isSome)=true)(m:keys.length=b.length)(n:keys≠[])(p:keys.length<=15):PE X (.Dict keys b pos) (Nn d):=by
 intro j s K H Q I q;have r:=I.hok.fresh (bQ s.heap.objs.size);have t:=I.laid (a:=s.heap.objs.size) (o:=.dK []) (h':=s.heap.push {cls:=.type "dict",data:=.dict #[] }) (t':=s.toks) (λ_ _ q=>iE _ q) (bQ _) (tX s.heap I.big);refine wpAny_Dict_walk (knd:=aM X.prog X.w) l m n p (bP (h j _ K _ _ t (q _ r)) ?_);rintro L M ⟨ps,N,g,k,e,f,u,lk,v⟩;subst u;obtain⟨x,c,y⟩:=oF (P:=X.prog) (w:=X.w) k;obtain⟨z,A,O,B,C⟩:=oE g.hok e;cases B;refine⟨x,c,C,λh' i D=>⟨.ref s.heap.objs.size,_,?_,rfl,v⟩⟩;have E:(aP [] f).length<=sizeLine:=by
  have F:=dU f [];rw[length_nil]at F;rw[sizeLine_eq];omega
 have G:∃q,h'.get? s.heap.objs.size=some q:=let ⟨q,_,_,J,_⟩:=i;⟨q,J⟩;exact kP g (by rw[e];exact True.intro) D G (rV E A (y.merge .nil) i)
structure M1(X:Cx)(o:Expr)(m:Str)(apos:Pos)(e:Expr)(cpos:Pos):Prop where
 base:attributeBase o m X.env (eval o X.env)=eval o X.env
 few:((backTo cpos (starEach [e] X.env)).all (λx=>!x.1)&&(backToKw cpos (keywordEach [] X.env)).all (λx=>x.1.isSome)
  && decide (([e]:List Expr).length+([]:List Keyword).length+(if ([]:List Keyword).isEmpty then 0 else 1)<30))=true
 line:(apos.endLine==cpos.line)=true
 trees:backTo cpos (starEach [e] X.env)=[(false,eval e X.env)]
structure M2(X:Cx)(o:Expr)(m:Str)(apos:Pos)(e f:Expr)(cpos:Pos):Prop where
 base:attributeBase o m X.env (eval o X.env)=eval o X.env
 few:((backTo cpos (starEach [e,f] X.env)).all (λx=>!x.1)&&(backToKw cpos (keywordEach [] X.env)).all (λx=>x.1.isSome)
  && decide (([e,f]:List Expr).length+([]:List Keyword).length+(if ([]:List Keyword).isEmpty then 0 else 1)<30))=true
 line:(apos.endLine==cpos.line)=true
 trees:backTo cpos (starEach [e,f] X.env)=[(false,eval e X.env),(false,eval f X.env)]
def Xo(H:Hp)(a:ZR):Prop:=(∃b,Rd H a (.dK b))∨∃b,Rd H a (.dT b)
def wA{X:Cx}{j:Z9}{l:St}{H:Hp}{s:ZP}{a:ZR}(I:Inv X j l H s)(d:Xo H a) :
  s.TypeIs (.ref a) "dict"/\(∀b,Value.ref a=.ref b->∃c,s.heap.get? b=some c/\c.dict=none)/\(a==sysModules)=false:=by
 rcases d with⟨k,e⟩|⟨k,e⟩
 ·obtain⟨_,g,vs,_,f⟩:=kO I.hok e;refine⟨f.typeIs,λb q=>?_,g⟩;cases q;obtain⟨c,_,_,h,i,_⟩:=f;exact⟨c,h,i.2.1⟩
 ·obtain⟨_,g,m,_,f⟩:=mP I.hok e;refine⟨f.typeIs,λb q=>?_,g⟩;cases q;obtain⟨c,_,_,h,i,_⟩:=f;exact⟨c,h,i.2.1⟩
section
variable {X:Cx}{pins:Z9}{σ:St}{H:Hp}{s:ZP}{a:ZR}{y d:V}{u r:ZQ}{o:Option V}{A:Around}{E:Z8}
def Qk{Q:Z8}(t:A.units+1<cLine)(I:Inv X pins σ H s)(g:DGet H a y o)(m:RelV y u)(h:∀n p,Inv X pins σ H p->RelV (o.getD .non) n->Q n p) :
  wpAny (model X.prog X.w) A (call (.builtin "dict.get") [.ref a,u]) Q E s:=by
 rcases g with⟨q,k,e,i,l⟩|⟨q,k,b,e,i,v,l⟩
 ·subst i;obtain⟨z,j,vs,f,c⟩:=kO I.hok e;refine call_meetsIn PySem.F.slot_dict_get c.typeIs PySem.F.entry_dict_get (PySem.F.args_dict_get_2 _ _) (meets_dict_get (aM X.prog X.w) a (iC m) j) ⟨_,c.mapOf,h _ _ (I.tok _) ?_⟩;rw[l];exact(f.val k).getD rfl
 ·subst i;cases(show u=Value.ref b from m);obtain⟨z,j,w,f,c⟩:=mP I.hok e;refine call_meetsIn PySem.F.slot_dict_get c.typeIs PySem.F.entry_dict_get (PySem.F.args_dict_get_2 _ _) (meetsH_dict_get (tupleKind (aM X.prog X.w)) a b j) ⟨tupleKind_room_in1 t,k,w,jV I.hok v,c,h _ _ (I.tok _) ?_⟩;rw[l];exact(f.val k).getD rfl
def Ql{Q:Z8}(v:A.units+1<cLine)(I:Inv X pins σ H s)(g:DGet H a y o)(m:RelV y u)(n:RelV d r)(h:∀p q,Inv X pins σ H q->RelV (o.getD d) p->Q p q) :
  wpAny (model X.prog X.w) A (call (.builtin "dict.get") [.ref a,u,r]) Q E s:=by
 rcases g with⟨t,k,e,i,l⟩|⟨t,k,b,e,i,w,l⟩
 ·subst i;obtain⟨z,j,vs,f,c⟩:=kO I.hok e;refine call_meetsIn PySem.F.slot_dict_get c.typeIs PySem.F.entry_dict_get (PySem.F.args_dict_get_3 _ _ _) (meets_dict_get_default (aM X.prog X.w) a (iC m) j r) ⟨_,c.mapOf,h _ _ (I.tok _) ?_⟩;rw[l];exact(f.val k).getD n
 ·subst i;cases(show u=Value.ref b from m);obtain⟨z,j,x,f,c⟩:=mP I.hok e;refine call_meetsIn PySem.F.slot_dict_get c.typeIs PySem.F.entry_dict_get (PySem.F.args_dict_get_3 _ _ _) (meetsH_dict_get_default (tupleKind (aM X.prog X.w)) a b j r) ⟨tupleKind_room_in1 v,k,x,jV I.hok w,c,h _ _ (I.tok _) ?_⟩;rw[l];exact(f.val k).getD n
end
def Ds(e ty:TE):TE:=λd H Q=>e d H λx b=>∃a,x=.ref a/\Xo b a/\ty d b λy c=>∃o,DGet c a y o/\Q (o.getD .non) c
def Dt(e ty tx:TE):TE:=λb H Q=>e b H λx c=>∃a,x=.ref a/\Xo c a/\ty b c λy f=>tx b f λz d=>∃o,DGet d a y o/\Q (o.getD z) d
def Du(f ty tx:TE):TE:=λd H Q=>f d H λx e=>∃a,x=.ref a/\Xo e a/\ty d e λy g=>tx d g λz c=>∃b k,c a=some (.dK b)/\y=kV k ∧
 (∀v,aT b k=some v->Q v (aK c a (.dK (fS b k))))/\(aT b k=none->Q z c)
section
variable {X:Cx}{o e f:Expr}{apos cpos:Pos}{td ty tx:TE}
def Dv(j:X.A.units+1<cLine)(k:PE X o td)(l:PE X e ty)(m:M1 X o "get" apos e cpos):PE X (.Call (.Attribute o "get" apos) [e] [] cpos) (Ds td ty):=by
 intro b s i H Q I h;refine wpAny_Call_method m.base m.few m.line PySem.F.plainAttrs_dict PySem.F.slot_dict_get PySem.F.type_dict_get (bP (k b s i H _ I h) ?_);rintro u n ⟨x,p,c,q,a,r,d,t⟩;subst r;obtain rfl:u=Value.ref a:=q;obtain⟨v,w,_⟩:=wA c d;refine⟨v,w,?_⟩;rw[m.trees];refine Calls.callWith_builtin rfl (Calls.evalArgs_plain (Calls.spliced_cons (bP (l b n i p _ c t) λF G ⟨y,z,A,B,J,g,C⟩=>Calls.spliced_nil ?_)));exact Qk j A g B λK L D E=>⟨_,z,D,E,C⟩
def Dw(j:X.A.units+1<cLine)(k:PE X o td)(l:PE X e ty)(n:PE X f tx)(m:M2 X o "get" apos e f cpos):PE X (.Call (.Attribute o "get" apos) [e,f] [] cpos) (Dt td ty tx):=by
 intro b s c H Q I h;refine wpAny_Call_method m.base m.few m.line PySem.F.plainAttrs_dict PySem.F.slot_dict_get PySem.F.type_dict_get (bP (k b s c H _ I h) ?_);rintro u p ⟨x,q,i,r,a,t,d,v⟩;subst t;obtain rfl:u=Value.ref a:=r;obtain⟨w,A,_⟩:=wA i d;refine⟨w,A,?_⟩;rw[m.trees];refine Calls.callWith_builtin rfl (Calls.evalArgs_plain (Calls.spliced_cons (bP (l b p c q _ i v) λO B ⟨y,C,D,E,F⟩=>
  Calls.spliced_cons (bP (n b B c C _ D F) λP R ⟨z,G,J,K,S,g,L⟩=>Calls.spliced_nil ?_))))
 exact Ql j J g E K λT U M N=>⟨_,G,M,N,L⟩
def Dx(r:PE X o td)(t:PE X e ty)(w:PE X f tx)(m:M2 X o "pop" apos e f cpos):PE X (.Call (.Attribute o "pop" apos) [e,f] [] cpos) (Du td ty tx):=by
 intro b s g H Q I h;refine wpAny_Call_method m.base m.few m.line PySem.F.plainAttrs_dict PySem.F.slot_dict_pop PySem.F.type_dict_pop (bP (r b s g H _ I h) ?_);rintro u A ⟨x,B,i,C,a,D,d,E⟩;subst D;obtain rfl:u=Value.ref a:=C;obtain⟨F,G,_⟩:=wA i d;refine⟨F,G,?_⟩;rw[m.trees];refine Calls.callWith_builtin rfl (Calls.evalArgs_plain (Calls.spliced_cons (bP (t b A g B _ i E) λW J ⟨y,K,L,j,M⟩=>
  Calls.spliced_cons (bP (w b J g K _ L M) λN Y ⟨z,O,n,P,q,k,p,R,S,T⟩=>Calls.spliced_nil ?_))))
 subst R;cases l:aT q k with
 | some v=>exact Vh n p j l (.inr ⟨N,rfl⟩) λZ U c V=>⟨v,_,c,V,S v l⟩
 | none=>exact Qi n p j l λU c=>⟨z,O,c,P,T l⟩
end
end L2
namespace LH
open PySem PySem.W PySem.Calls PyProof.Rows
def nG{P:Params}{h:Heap}:∀(c:List Int)(vs:List ZQ),WellAll P h vs (c.map WData.int)->IntsAre vs c:=by
 intro c;induction c with
 | nil=>
  intro vs w;rw[map_nil]at w;cases w;exact .nil
 | cons n c d=>
  intro vs w;rw[map_cons]at w;cases w with
  | cons a b=>
   cases a;exact .cons _ _ (d _ b)
def Ao{l:OpenLaw}{n:Nat}(k:l.most=some n){P:Params}{h:Heap}{args:List WData}{f:List ZQ}(g:l.row.toRowW.claim.pre args=true)(m:WellAll P h f args) :
  ∃a vs b,f=[Value.ref a]/\args=[WData.list (b.map WData.int)]/\h.get? a=some {cls:=.type "list",data:=.seq vs.toArray }/\IntsAre vs b/\b.length<=n:=by
 have o:WShape.hasAll [] args [.list .int]=true:=(pre_splitW g).1;have i:l.pre.holds [] {args:=args }=true:=(pre_splitW g).2;obtain⟨d,r,rfl,p,s⟩:=hasAllW_cons o;obtain rfl:=hasAllW_nil s;obtain⟨z,rfl,t⟩:=hasW_list p;obtain⟨b,rfl⟩:=items_int t;have j:b.length<=n:=by
  unfold OpenLaw.pre at i;have c:(WTm.not (.lt (.lit (.int (n:Int))) (.len (.arg 0)))).holds [] {args:=[.list (b.map .int)] }=true:=by
   have c:=(holds_andW i).1;rw[k]at c;exact c
  have e:=condW_of c (w_not (w_lt w_lit (w_len_list (w_arg rfl))));rw[bF]at e;refine Nat.le_of_not_lt λq=>?_
  have u:(n:Int)<((b.length:Nat):Int):=by omega
  first
   | (rw[ZU u]at e;exact ZM e Zd)
   | (simp at e;omega)
 cases m with
 | cons v w=>
  cases w
  cases v with
  | list x y=>exact⟨_,_,b,rfl,rfl,x,nG b _ y,j⟩
def Ap(l:OpenLaw)(args:List WData):l.row.toRowW.claim.post args (.bool true) args=true:=
 postW_of (r:=l.row.toRowW) (X:=(true==true))
  (show WShape.has [] (.bool true) .bool=true by first|rfl|decide|simp[WShape.has,WShape.arms,WShape.armsAll])
  (show(WTm.eq .res (.lit (.bool true))).value [] {args:=args,res:=some (.bool true),after:=args }=some (.bool (true==true)) from w_eq_bool (w_res rfl) w_lit) rfl
def attach_call{l:OpenLaw}{n:Nat}{q:Program}{m:List Str}{p:(Str->Option ZQ)->Heap->Prop}{s:World->Heap->Prop}{d:DefRec}(x:l.most=some n)(y:d.params.defaults=[])(call:∀(w:World)(h b:ZP)(mg j:Z7)(fa:ZR)(o:Obj)(k c i:ZQ)(a:ZR)(vs:List ZQ)(e:List Int),
   Ground q m [] p w h mg j b.heap->s w b.heap →
   b.heap.get? fa=some o->o.data=.func (docDef d.name d.params d.body d.scope k c i)->b.heap.CodeRec c d.name->mg d.name=some (.ref fa) →
   b.heap.get? a=some {cls:=.type "list",data:=.seq vs.toArray }->IntsAre vs e->e.length<=n->b.gens=#[] →
   codeAny (model l.prog w) callerA (.call (.ref fa) ⟨[.ref a],[]⟩) (λr g=>r=.ok (.ret (.bool true))/\OldK b.heap g.heap/\g.os=b.os/\AllBare g.gens) b) :
  WalkO q m p s l.row.toRowW d [] (λf vs=>PySem.call f vs):=by
 intro w h b mg j G Y fa o k c i z kV A B C t D E O P Q F R S H T;obtain rfl:z=.none:=Dflts.none t y;obtain rfl:kV=.none:=Dflts.noKw t;obtain⟨a,vs,e,rfl,rfl,I,u,v⟩:=Ao x F H;refine enter_call (codeAny_mono (call w h b mg j fa o k c i a vs e G Y A (fd_plain B) C D I u v E) λr g J=>?_);obtain⟨rfl,K,L,M⟩:=J;exact⟨.inl ⟨.bool true,.bool true,[],rfl,λ_=>rfl,.bool true,Ap l _,λ_=>⟨List.Pairwise.nil,λ_ N=>(nomatch N)⟩⟩,K,L,M⟩
end LH
namespace L2
open PySem PySem.Spec PyProof.Rows
def qJ:∀ {vs:List ZQ}{a:List Int},IntsAre vs a->Vals (a.map V.int) vs
 | _,_,.nil=>.nil
 | _,_,.cons n t h=>.cons ⟨t,rfl⟩ (qJ h)
def Qm(H:Hp):Prop:=∀b,H b=none∨∃o a,H b=some (.frz o (.lst a))
def Dy{P:Program}{w:World}{K:W.Frag}{mg A:Z7}{CX:Il}{k:Nat}{fa a:ZR}{G:FuncData}{x:Str}{sp:Sp}{c:ZP}{vs:List ZQ}{i:List Int}(I:K.In c.heap)(J:c.heap.Ns mainGlobals mg)(f:c.heap.Ns builtinsNs A)(X:∀x:Str,x≠"__name__"->A x=bootBuiltins x)(Y:c.heap.NoLimit)(Z:c.gens=#[])(t:c.heap.get? a=some {cls:=.type "list",data:=.seq vs.toArray })(L:IntsAre vs i)(M:i.length<=sizeLine)(hr:Room k callerA)(F:∀base:Heap,K.In base->base.Ns mainGlobals mg->iI P w K mg base CX k fa G [x] sp)(BH:∀(s:ZP)(u:ZQ),BindsTo s G ⟨[u],[]⟩ [(x,u)])(ua:∀H:Hp,Qm H->SqL K H a (i.map V.int)->sp [.ref a] H (λv _=>v=.bl true) λ_ _ _=>False)(GS:∀H e g,CX [] H c (λ_ _ _=>False) e g->False) :
  codeAny (model P w) callerA (.call (.ref fa) ⟨[.ref a],[]⟩) (λr g=>r=.ok (.ret (.bool true))/\OldK c.heap g.heap/\g.os=c.os/\AllBare g.gens) c:=by
 have N:=qJ L;have GU:=L.length;have D:∀H:Hp,Qm H->SqL K H a (i.map V.int)->HOk P w H c.heap->(∀b,H b≠none->b=a)->(H a≠none->K.lookup a=none) →
   codeAny (model P w) callerA (.call (.ref fa) ⟨[.ref a],[]⟩) (λr g=>r=.ok (.ret (.bool true))/\OldK c.heap g.heap/\g.os=c.os/\AllBare g.gens) c:=by
  intro H O hS E Q hK;have R:∀ {b:ZR}{o:Obj},c.heap.get? b=some o->H b=none->(rE c.heap H).get? b=some o:=λe n=>Cd e n
  have BB:∀ {b:ZR}{o:Obj}{j:Array DictEntry}{l:Nat},c.heap.get? b=some o->o.data=.dict j l->H b=none:=λ{b o j l} e d=>by
   cases q:H b with
   | none=>rfl
   | some u=>
    have B:b=a:=Q b (by rw[q];simp);subst B;rw[t]at e;cases e;have d':Data.seq vs.toArray _=Data.dict j l:=d;cases d'
  have y:∀ {b:ZR}{m:Z7},c.heap.Ns b m->(rE c.heap H).Ns b m:=λ{b m} ⟨o,j,l,e,d,r⟩=>⟨o,j,l,R e (BB e d),d,r⟩
  have S:K.In (rE c.heap H):=λb o e=>R (I b o e) (by
   cases q:H b with
   | none=>rfl
   | some u=>
    have B:b=a:=Q b (by rw[q];simp);subst B;rw[hK (by rw[q];simp)]at e;cases e)
  have hM:Mod K mg (rE c.heap H):=⟨S,y J,⟨A,y f,X⟩,let ⟨mc,h1,h2⟩:=Y;⟨mc,y h1,h2⟩⟩;have e0:Env0 P w K mg (rE c.heap H) callerA [] c H:=⟨rfl,hM,λb o e=>Io e,le_of_eq (zT _ _),trivial,λb f=>ZM (show b∈([]:List ZR) from f) Zs,E,.of_eq Z⟩;refine codeAny_mono ((F _ S (y J)).run callerA [] c H ⟨[.ref a],[]⟩ [.ref a] [.ref a] _ _ hr e0 (BH c (.ref a)) (.cons rfl .nil) (ua H O hS)) λr g h=>?_
  cases r with
  | error e=>exact(GS H e g h).elim
  | ok fl=>
   cases fl with
   | next=>exact False.elim h
   | brk=>exact False.elim h
   | cont=>exact False.elim h
   | ret u=>
    obtain⟨v,H',os,U,un,GV,r',q⟩:=h;have q':v=.bl true:=q;subst q';obtain rfl:u=Value.bool true:=r';refine⟨rfl,OldK.of_keep λb o e=>?_,os,U⟩
    cases q:H b with
    | none=>exact un.keep b o e q (by intro z;exact ZM (show b∈([]:List ZR) from z) Zs) Zs
    | some u=>
     rcases O b with z|⟨ob,xs,z⟩
     ·rw[q]at z;cases z
     ·have z2:=un.frzs b ob _ z;obtain⟨T,_⟩:=E b _ z;obtain⟨e2,_⟩:=GV b _ z2;rw[e]at T;cases T;exact e2
 cases C:K.lookup a with
 | some o=>
  have e:=I a o C;rw[t]at e;cases e;refine D (λ_=>none) (λ_=>.inl rfl) (.inr ⟨_,vs.toArray,_,C,rfl,rfl,rfl,by rw[cZ,GU];exact M,by simpa using N⟩) (λb u z=>by have p:(none:Option HO)=some u:=z;cases p) (λb z=>ZM rfl z) λz=>ZM rfl z
 | none=>
  refine D (λb=>if b=a then some (.frz {cls:=.type "list",data:=.seq vs.toArray } (.lst (i.map V.int))) else none) (λb=>?_) (.inl (.inr ⟨{cls:=.type "list",data:=.seq vs.toArray },ZO rfl⟩)) (λb u z=>?_) (λb z=>?_) λ_=>C
  ·by_cases f:b=a
   ·exact .inr ⟨_,_,ZO f⟩
   ·exact .inl (ZN f)
  ·by_cases f:b=a
   ·have p:=(ZO f).symm.trans z;cases p;subst f;exact⟨t,by rw[bF];exact M,vs,_,N,t⟩
   ·have p:=(ZN f).symm.trans z;cases p
  ·by_cases f:b=a
   ·exact f
   ·exact ZM (ZN f) z
def yD{l:W.OpenLaw}{n k:Nat}{q:Program}{o:List Str}{t:(Str->Option ZQ)->Heap->Prop}{j:World->Heap->Prop}{d:DefRec}{K:Params->W.Frag}{CX:World->Il}{sp:World->Sp}{x:Str}(y:l.most=some n)(z:n<=sizeLine)(A:d.params.defaults=[])(B:Room k callerA)(C:∀(w:World)(h:Heap),j w h->(K w.params).In h)(F:∀(w:World)(mg:Z7)(fa:ZR)(h:Heap),(K w.params).In h->h.Ns mainGlobals mg->mg d.name=some (.ref fa) →
   ∃c:FuncData,(∀(s:ZP)(u:ZQ),BindsTo s c ⟨[u],[]⟩ [(x,u)]) ∧
    ∀base:Heap,(K w.params).In base->base.Ns mainGlobals mg->iI l.prog w (K w.params) mg base (CX w) k fa c [x] (sp w))(D:∀(w:World)(H:Hp)(a:ZR)(b:List Int),b.length<=n->Qm H->SqL (K w.params) H a (b.map V.int)->sp w [.ref a] H (λv _=>v=.bl true) λ_ _ _=>False)(E:∀(w:World)(H:Hp)(s:ZP)(e:ZQ)(g:ZP),CX w [] H s (λ_ _ _=>False) e g->False) :
  W.WalkO q o t j l.row.toRowW d [] (λf vs=>PySem.call f vs):=by
 refine LH.attach_call y A λw Q r mg S fa a0 T U R a vs b G Y X Z S1 I J p i L=>?_;have m:=C w _ Y;obtain⟨c,M,N⟩:=F w mg fa _ m G.T.g I;exact Dy m G.T.g G.T.b G.T.builtins G.T.nolimit L J p (hZ i z) B N M (λH O P=>D w H a b i O P) λH e g=>E w H r e g
end L2
/- XJ QA EI (shape;XN,My.* are LJ):
   My.Adr: a structure of the addresses that QB LK names (classes,zy);My.Txt K t: a structure (Prop) of the equations over K;
   My.txt_mk:{K} {implicit addresses ..} (e1:nsIn K mainGlobals "law"=some (some (.ref f))) (e2:K.lookup f=some ⟨oc,od,.func (fnOf "law" "law" params body scope dV kV doc pm an cdv ct),sl⟩) (e3:codeIn K cdv "law"=true) ..:∃t,My.Txt K t
set_option maxRecDepth 100000 in
set_option maxHeartbeats 0 in
def PySem.Challenge.cw_LID_holds : PySem.Challenge.rw_LID.Holds := by
 w_on;o_law;k_head;(case hw=>w_witness2)
 k_fill
 refine L2.yD (l:=PySem.Challenge.rw_LID) (n:=63) (k:=40) (x:="script") (CX:=λw=>..) (sp:=λ_=>My.sp_law) rfl Zd rfl ⟨rfl,Zd,Zd⟩ (λw h Y=>W.kIn_of Y) ?F ?S ?C
 case F=>
  intro w mg fa h KX G wb;have T:∃t,My.Txt (L2.KOf KX) t:=by
   dsimp only [L2.KOf]                          -- K QC LL as «<heap const> w.params» for k_is
   refine' My.txt_mk ?e1 ?e2 ?e3 ..
   (case e1=>W.k_is)                    -- in the order: a name->its address->its object->its parts
   (case e2=>W.k_is)
   ..
  obtain⟨t,T⟩:=T;have e0:=wb.symm.trans (W.mg_of KX G T.law);cases e0                                       -- fa is the LM own address;exact⟨_,λs u=>.of_eq rfl,λbase kb nb=>My.law_fn T kb nb⟩     -- if «.of_eq rfl» comes XQ early: refine' ⟨_,?b,λbase kb nb=>My.law_fn T kb nb⟩;exact λs u=>.of_eq rfl
 case S=>exact λw H a ns hl hO hS=>..
 case C=>exact ..
(the tactic k_is has no namespace: write k_is) -/
namespace L2
open PySem PySem.Spec PyProof.Rows
def dW(s:Stmt)(j:Nat):Stmt:=match s with
 | .ClassDef _ _ _ a _ _ _ _ _ _ _=>a.getD j (.Pass ⟨0,0,0,0⟩)
 | _=>.Pass ⟨0,0,0,0⟩
def cA(s:Stmt):Arguments:=match s with
 | .FunctionDef _ a _ _ _ _ _ _ _ _=>a
 | _=>{posonlyargs:=[],args:=[],vararg:=none,kwonlyargs:=[],kw_defaults:=[],kwarg:=none,defaults:=[] }
def aY(s:Stmt):List Stmt:=match s with
 | .FunctionDef _ _ b _ _ _ _ _ _ _=>b
 | _=>[]
def aB(s:Stmt):Scope:=match s with
 | .FunctionDef _ _ _ _ _ _ sc _ _ _=>sc
 | _=>{kind:=.function,names:=[],isGenerator:=false,isCoroutine:=false }
abbrev nN:Il:=λ_ _ _ _ _ _=>False
abbrev E0:XK:=λ_ _ _=>False
def yE{X:Cx}:nX nN X E0:=λ_ _ _ _ _ _ _ h=>h.elim
structure Fun(K:W.Frag)(x qual:Str)(st:Stmt)(f:ZR)(fd:FuncData):Prop where
 ex:∃(oc:ZQ)(od:Option ZR)(kV doc pm:ZQ)(an:Option ZR)(cdv ct:ZQ)(osl:Array (Option ZQ)),
  fd=W.fnOf x qual (cA st) (aY st) (aB st) .none kV doc pm an cdv ct/\K.lookup f=some ⟨oc,od,.func fd,osl⟩/\W.codeIn K cdv qual=true
 kp:W.keepIn K (.ref f)=true
section
variable {P:Program}{w:World}{K:W.Frag}{mg:Z7}{base:Heap}
def Fun.ok{x b:Str}{st:Stmt}{f:ZR}{c:FuncData}{N ps:List Str}{k:Nat}{sp:Sp}(F:Fun K x b st f c)(S:aJ N ps (aB st))(len:∀vs H Q E,sp vs H Q E->vs.length=ps.length)(d:∀(a:ZQ)(A:Around)(outer:List Env)(s:ZP)(H:Hp)(vs:List V)(Q:VK)(E:XK),Room k (A.deeper (envOfC b (aB st) s.heap.objs.size f a))->sp vs H Q E →
   ∃t,PSs (iJ nN P w K mg base N b (aB st) f a A outer s H E).nox (aY st) t/\t {nx:=λ_ e=>Q .non e,rt:=Q } (start N vs) H):iI P w K mg base nN (k+1) f c ps sp:=by
 obtain⟨n,o,kV,l,p,r,a,u,m,rfl,lk,g⟩:=F.ex;refine Ni lk g S len λA outer s H vs Q E i j=>?_;obtain⟨t,h,q⟩:=d a A outer s H vs Q E i j;exact⟨t,h.nox,q⟩
def Fun.binds{x g:Str}{st:Stmt}{f:ZR}{i:FuncData}{ps:List Str}(F:Fun K x g st f i)(h:∀(kV a c:ZQ)(d:Option ZR)(b e:ZQ)(us:List ZQ),us.length=ps.length->bindArgs (W.fnOf x g (cA st) (aY st) (aB st) .none kV a c d b e) ⟨us,[]⟩=pure (ps.zip us)):Binds K i ps []:=by
 obtain⟨k,l,kV,a,c,d,b,e,j,rfl,lk,m⟩:=F.ex;exact .all (h kV a c d b e)
def oG{x a:Str}{st:Stmt}{f:ZR}{j:ZQ}{m e:Option ZR}{i:Array (Option ZQ)}{kV d g b h:ZQ}(l:K.lookup f=some ⟨j,m,.func (W.fnOf x a (cA st) (aY st) (aB st) .none kV d g e b h),i⟩)(c:W.codeIn K b a=true)(k:W.keepIn K (.ref f)=true):Fun K x a st f (W.fnOf x a (cA st) (aY st) (aB st) .none kV d g e b h):=⟨⟨j,m,kV,d,g,e,b,h,i,rfl,l,c⟩,k⟩
end
def dQ{A:Around}{k:Nat}(a:Room k A):A.units+1<cLine:=jQ (Nat.add_le_add_left (by decide:1<=64) _) a.units
def Same(H a:Hp):Prop:=∀b o,H b=some o->a b=some o
def Same.refl(H:Hp):Same H H:=λ_ _ h=>h
def Same.trans{H d e:Hp}(a:Same H d)(b:Same d e):Same H e:=λc o h=>b c o (a c o h)
def Same.free{H a:Hp}(e:Same H a){l:ZR}(h:a l=Option.none):H l=Option.none:=by
 cases q:H l with
 | none=>rfl
 | some o=>
  rw[e l o q]at h;cases h
def Same.seq{K:W.Frag}{H b:Hp}{a:ZR}{xs:List V}(e:Same H b)(h:SqL K H a xs):SqL K b a xs:=by
 rcases h with(h|⟨o,h⟩)|h
 ·exact .inl (.inl (e _ _ h))
 ·exact .inl (.inr ⟨o,e _ _ h⟩)
 ·exact .inr h
section
variable {κ:Type} [DecidableEq κ]
def kQ:∀ {l:List κ}{k:κ},l.Nodup->¬ k∈l->(l++[k]).Nodup
 | [],k,_,_=>by simp
 | a::r,k,h,b=>by
  obtain⟨c,d⟩:=nodup_cons.mp h;show(a::(r++[k])).Nodup;refine nodup_cons.mpr ⟨λm=>?_,kQ d λm=>b (mem_cons.mpr (Or.inr m))⟩;rcases Zma.mp m with q|q
  ·exact c q
  ·exact b (mem_cons.mpr (Or.inl (Zms.mp q).symm))
def Aq{p:κ×V}{r:List (κ×V)}{k:κ}(e:p.1=k):fS (p::r) k=fS r k:=by
 unfold fS;rw[filter_cons,ZN (by simp[e])]
def Ar{p:κ×V}{r:List (κ×V)}{k:κ}(e:¬ p.1=k):fS (p::r) k=p::fS r k:=by
 unfold fS;rw[filter_cons,ZO (by simp[e])]
end
def iK(env:Env):List (Str×NameKind)->List (Str×ZR)->List (Str×ZR)
 | [],a=>a
 | (n,k)::r,a=>iK env r (if k=.free then (match env.cells.lookup n with|some c=>(n,c)::a|none=>a) else a)
theorem jW{env:Env}:∀(names:List (Str×NameKind))(a:List (Str×ZR)),(∀x∈names,x.2=.free->∃c,env.cells.lookup x.1=some c) →
  (forIn names a λ(x:Str × NameKind) (r:List (Str × Addr))=>(do
   if x.2 == .free then do
    let c←cellOf env x.1
    pure (ForInStep.yield ((x.1,c)::r))
   else pure (ForInStep.yield r):Sem _))=pure (iK env names a)
 | [],a,_=>rfl
 | (n,k)::r,a,h=>by
  rw[List.forIn_cons];by_cases b:k=.free
  ·subst b;obtain⟨c,f⟩:=h (n,.free) fP rfl;have e:env.cells.lookup n=some c:=f;have g:cellOf env n=pure c:=by unfold cellOf;rw[e]
   simp only [beq_self_eq_true,if_true,g,pure_bind];rw[jW r ((n,c)::a) λx d=>h x (nD _ d)];simp[iK,e]
  ·have i:(k==NameKind.free)=false:=by simpa using b
   simp only [i,Bool.false_eq_true,if_false,pure_bind];rw[jW r a λx d=>h x (nD _ d)];simp[iK,b]
def oH{a:Scope}{env:Env}(h:∀x∈a.names,x.2=.free->∃c,env.cells.lookup x.1=some c):closureFor a env=pure (iK env a.names []):=by
 have e:=jW a.names [] h;unfold closureFor;exact(congrArg (λz=>z>>=λ(r:List (Str×ZR))=>(pure r:Sem _)) e).trans (pure_bind _ _)
theorem tY{env:Env}:∀(names:List (Str×NameKind))(b:List (Str×ZR)),(∀y d,(y,d)∈b->env.cells.lookup y=some d)->∀y d,(y,d)∈iK env names b->env.cells.lookup y=some d
 | [],_,h=>h
 | (n,k)::r,b,h=>by
  unfold iK;refine tY r _ λy d a=>?_
  split at a
  ·split at a
   ·rename_i c f;rcases mem_cons.mp a with e|e
    ·cases e;exact f
    ·exact h y d e
   ·exact h y d a
  ·exact h y d a
def yF{env:Env}:∀(names:List (Str×NameKind))(a:List (Str×ZR))(y:Str)(d:ZR),(y,d)∈iK env names a->(y,.free)∈names∨(y,d)∈a
 | [],_,_,_,h=>.inr h
 | (n,k)::r,a,y,d,h=>by
  unfold iK at h;rcases yF r _ y d h with e|hm
  ·exact .inl (nD _ e)
  ·split at hm
   ·rename_i b;split at hm
    ·rcases mem_cons.mp hm with e|e
     ·cases e;subst b;exact .inl fP
     ·exact .inr e
    ·exact .inr hm
   ·exact .inr hm
theorem Dz{env:Env}:∀(names:List (Str×NameKind))(a:List (Str×ZR))(y:Str),((∃d,(y,d)∈a)∨(y,.free)∈names)->(∀x∈names,x.2=.free->∃c,env.cells.lookup x.1=some c)->∃d,(y,d)∈iK env names a
 | [],_,_,h,_=>by
  rcases h with h|h
  ·exact h
  ·cases h
 | (n,k)::r,a,y,h,f=>by
  unfold iK;refine Dz r _ y ?_ λx g=>f x (nD _ g)
  rcases h with⟨d,b⟩|h
  ·refine .inl ⟨d,?_⟩;split
   ·split
    ·exact nD _ b
    ·exact b
   ·exact b
  ·rcases mem_cons.mp h with e|e
   ·have i:y=n:=congrArg Prod.fst e;have j:NameKind.free=k:=congrArg Prod.snd e;subst i j;obtain⟨c,l⟩:=f (y,.free) fP rfl;have m:env.cells.lookup y=some c:=l;refine .inl ⟨c,?_⟩;rw[ZO rfl,m];exact fP
   ·exact .inr e
theorem oI{a:Type}:∀ {l:List (Str×a)}{y:Str}{d:a},(y,d)∈l->∃d',l.lookup y=some d'/\(y,d')∈l
 | (n,c)::r,y,d,h=>by
  by_cases e:y=n
  ·subst e;exact⟨c,by simp[lookup_cons],fP⟩
  ·rcases mem_cons.mp h with q|q
   ·cases q;exact ZM rfl e
   ·obtain⟨d',b,f⟩:=oI q;have g:(y==n)=false:=by simpa using e
    exact⟨d',by rw[lookup_cons,g];exact b,nD _ f⟩
def dA{env:Env}{names:List (Str×NameKind)}{y:Str}{c:ZR}(h:(iK env names []).lookup y=some c):env.cells.lookup y=some c/\(y,.free)∈names:=by
 have a:=PySem.mem_of_lookup h;refine⟨tY names [] (λ_ _ z=>nomatch z) y c a,?_⟩;rcases yF names [] y c a with e|e
 ·exact e
 ·cases e
def yG{env:Env}{names:List (Str×NameKind)}{y:Str}(h:(y,.free)∈names)(b:∀x∈names,x.2=.free->∃c,env.cells.lookup x.1=some c):∃c,(iK env names []).lookup y=some c/\env.cells.lookup y=some c:=by
 obtain⟨d,e⟩:=Dz names [] y (.inr h) b;obtain⟨c,a,_⟩:=oI e;exact⟨c,a,(dA a).1⟩
def rX{a:Scope}{env:Env}(d:∀y∈a.names,y.2≠.cell){x:Str}(h:(relabel a env).names.lookup x=some .cell∨(relabel a env).names.lookup x=some .free):(x,.free)∈a.names:=by
 have go:∀ {k:NameKind},k=.cell∨k=.free->(relabel a env).names.lookup x=some k->(x,.free)∈a.names:=λ{k} f h=>by
  have c:=PySem.mem_of_lookup h;unfold relabel at c;obtain⟨⟨n,j⟩,b,e⟩:=Zmm.mp c;dsimp only at e;split at e
  ·rename_i g;cases e;have:j=.free:=by
    have:=(Bool.and_eq_true_iff.mp (Bool.and_eq_true_iff.mp g).1).1;simpa using this
   subst this;exact b
  ·cases e;rcases f with q|q
   ·exact ZM q (d _ b)
   ·subst q;exact b
 rcases h with h|h
 ·exact go (.inl rfl) h
 ·exact go (.inr rfl) h
theorem kR{env:Env}:∀ {names:List (Str×NameKind)}{x:Str},names.lookup x=some .free →
  (names.map λ(n,k)=>if (k==NameKind.free&&env.scope.kind == .function&&env.kindOf n==some .cell) then (n,NameKind.cell) else (n,k)).lookup x=some .cell∨
  (names.map λ(n,k)=>if (k==NameKind.free&&env.scope.kind == .function&&env.kindOf n==some .cell) then (n,NameKind.cell) else (n,k)).lookup x=some .free
 | [],_,h=>by simp at h
 | (n,k)::r,x,h=>by
  have b:=@kR env r x;rw[map_cons];dsimp only;cases a:x==n with
  | true=>
   simp only [lookup_cons,a]at h;cases h;split
   ·left;simp[lookup_cons,a]
   ·right;simp[lookup_cons,a]
  | false=>
   simp only [lookup_cons,a]at h;split
   ·simp only [lookup_cons,a];exact b h
   ·simp only [lookup_cons,a];exact b h
def lO(X:Cx)(a:Scope)(C:ZR)(N:List Str)(b:ZP)(c:Hp)(fp:List ZR):Cx where
 prog:=X.prog
 w:=X.w
 K:=X.K
 mg:=X.mg
 base:=X.base
 A:=X.A
 N:=N
 s₀:=b
 H₀:=c
 env:=compEnvC a (iK X.env a.names []) C X.env
 outer:=X.stack
 stack:=X.stack
 ex:=fp
 fn:=λ_=>false
 calm:=X.calm
 pn:=[]
 xe:=λ_ _=>False
def vH(js:List (Option Nat))(a:St):St:=js.map λo=>match o with|some j=>(a[j]?).getD none|none=>none
structure CompScope(X:Cx)(scope:Scope)(N:List Str)(js:List (Option Nat)):Prop where
 kind:scope.kind=.function
 nocell:∀y∈scope.names,y.2≠.cell
 loc:∀y∈scope.names,y.2=.local->scope.names.lookup y.1=some .local
 len:js.length=N.length
 cap:∀(i j:Nat),js[i]?=some (some j)->∃x,N[i]?=some x/\X.N[j]?=some x/\scope.names.lookup x=some .free
 out:∀y∈scope.names,y.2=.free->X.env.kindOf y.1=some .cell∨X.env.kindOf y.1=some .free
def wB(js:List (Option Nat))(g:TG):Prop:=∀x a H Q,g x a H Q->g x a H λb c=>Q b c/\b.length=a.length/\∀(i j:Nat),js[i]?=some (some j)->b[i]?=a[i]?
def yH(js:List (Option Nat))(g:xT):Prop:=∀c a H Q,g c a H Q->g c a H λb d=>Q b d/\b.length=a.length/\∀(i j:Nat),js[i]?=some (some j)->b[i]?=a[i]?
def bM{js:List (Option Nat)}{k:Nat}(h:js[k]?=some none):wB js (aL k):=λx a H Q q=>by
 refine⟨q,Zs,λi j e=>?_⟩;have:k≠i:=λz=>by subst z;rw[h]at e;cases e
 rw[getElem?_set_ne this]
def iZ{js:List (Option Nat)}:yH js Iz:=λa b H Q q=>⟨q.1,q.2,rfl,λ_ _ _=>rfl⟩
def cQ{js:List (Option Nat)}{k:Nat}{u:xT}(h:js[k]?=some none)(m:yH js u):yH js (tP (aL k) u):=λs f H Q q=>by
 obtain⟨v,r,e,q⟩:=q;refine⟨v,r,e,?_⟩;obtain⟨_,n⟩:=bM h v f H (λ_ _=>True) trivial;have o:=m r _ _ _ q;have p:(λd g=>Q d g/\d.length=(f.set k (some v)).length/\∀(i j:Nat),js[i]?=some (some j)->d[i]?=(f.set k (some v))[i]?)=(λd (g:Hp)=>Q d g/\d.length=f.length/\∀(i j:Nat),js[i]?=some (some j)->d[i]?=f[i]?):=by
  funext d g
  have l:∀(i j:Nat),js[i]?=some (some j)->(f.set k (some v))[i]?=f[i]?:=n.2;apply propext;constructor
  ·rintro⟨a,b,c⟩;exact⟨a,by simpa using b,λi j e=>(c i j e).trans (l i j e)⟩
  ·rintro⟨a,b,c⟩;exact⟨a,by simpa using b,λi j e=>(c i j e).trans (l i j e).symm⟩
 show u r (f.set k (some v)) H _;rw[<- p];exact o
def kS{K:W.Frag}{n:Nat}{js:List (Option Nat)}{t:xT}(h:yH js t):wB js (Cj K n t):=λx f H Q q=>by
 obtain⟨a,b,e,c,d,q⟩:=q;exact⟨a,b,e,c,d,h b f H Q q⟩
section
variable {X:Cx}{pins:Z9}{σ:St}{H H':Hp}{s:ZP}
def Un.more{fs e:List ZR}{H H':Hp}{h h':Heap}{D:ZR}{o:HO}(u:Un fs e H H' h h')(f:h.get? D=none)(a:H D=none):Un fs e H (aK H' D o) h h' where
 keep:=u.keep
 slot:=u.slot
 free:=λb c q n g=>by
  have:b≠D:=λz=>by rw[z,f]at q;cases q
  rw[aF this];exact u.free b c q n g
 there:=u.there
 tups:=λb d q=>by rw[aF (aD q a)];exact u.tups b d q
 frzs:=λb c d q=>by rw[aF (aD q a)];exact u.frzs b c d q
 tbls:=λb ps q=>by rw[aF (aD q a)];exact u.tbls b ps q
def HOk.more{P:Program}{w:World}{h:Heap}{D:ZR}{o:HO}(k:HOk P w H h)(a:H D=none)(new:ObjOk P w (aK H D o) h D o):HOk P w (aK H D o) h:=λb u e=>by
 by_cases d:b=D
 ·subst d;rw[aA]at e;cases e;exact new
 ·rw[aF d]at e;exact(k b u e).stay (λ_ _ _ q=>q) (λc q=>by rw[aF (aD q a)];exact q) λc f q=>by rw[aF (aD q a)];exact q
def CompScope.ok{f:Scope}{N:List Str}{js:List (Option Nat)}{C:ZR}{fp:List ZR}(S:CompScope X f N js)(I:Inv X pins σ H s)(i:s.heap.objs.size<=C)(d:∀b∈fp,lR X pins H b)(j:∀b∈fp,b<s.heap.objs.size) :
  (lO X f C N s H fp).Ok where
 mod:=I.ok.mod
 kind:=S.kind
 glob:=I.ok.glob
 blt:=I.ok.blt
 above:=i
 inj:=λx y c g k=>I.ok.inj x y c (dA g).1 (dA k).1
 has:=λx l=>by
  have h:(x,.free)∈f.names:=rX S.nocell l;obtain⟨c,g,_⟩:=yG (env:=X.env) h λy m n=>I.ok.has y.1 (S.out y m n)
  exact⟨c,g⟩
 cab:=λx c z=>nomatch z
 hd:=I.ok.hd
 frames:=I.ok.frames
 stk:=.inl rfl
 exf:=λb a=>⟨ne_of_lt (ZI (j b a) i),λx c e=>(d b a).2.2.2.2.1 x c (dA e).1⟩
 bs:=I.bs
 bsz:=hZ I.ok.bsz I.sz
 noex:=λb o e a=>by
  rcases(d b a).2.2.2.1 with z|z
  ·exact I.ok.noex b o e z
  ·exact ZM (ZI (Heap.lt_size e) (hZ I.ok.bsz z)) (lt_irrefl _)
 exfs:=λb a h=>by
  rcases mem_cons.mp (I.stkSub b h) with z|z
  ·exact(d b a).2.1 z
  ·exact(d b a).2.2.1 z
 funs:=I.stack
 frf:=I.stkFree
def CompScope.start{r:Scope}{N:List Str}{js:List (Option Nat)}{C D:ZR}{fp:List ZR}{l:Obj}{h:Heap}{m:Z7}{tk:Nat}(S:CompScope X r N js)(I:Inv X pins σ H s)(B:s.heap.objs.size<=C)(t:s.heap.objs.size<=D)(M:D≠C)(O:∀b∈fp,lR X pins H b)(P:∀b∈fp,b<s.heap.objs.size)(k:∀b o,s.heap.get? b=some o->h.get? b=some o)(Q:h.Ns C m)(R:h.get? D=some l)(T:∀v,l.data≠.cell v) :
  Inv (lO X r C N s H fp) [(D,l)] (vH js σ) H {s with heap:=h,toks:=tk } where
 ok:=S.ok I B O P
 os:=rfl
 bare:=I.bare
 base:=Un.kept k
 loc:=by
  refine⟨m,Q,λi x v u a h3=>?_⟩;have u:N[i]?=some x:=u;unfold vH at a;rw[fB]at a;cases e:js[i]? with
  | none=>rw[e]at a;cases a
  | some o=>
   rw[e]at a;cases o with
   | none=>cases a
   | some j=>
    have n:(σ[j]?).getD none=some v:=Option.some.inj a;have L:σ[j]?=some (some v):=by
     cases q:σ[j]? with
     | none=>rw[q]at n;cases n
     | some z=>rw[q]at n;exact congrArg some n
    obtain⟨y,E,U,F⟩:=S.cap i j e;rw[u]at E;cases E;have G:(x,.free)∈r.names:=PySem.mem_of_lookup F;have J:=S.out (x,.free) G rfl;obtain⟨mX,_,V⟩:=I.loc;have W:Oo X.env.scope x:=by
     rcases J with z|z
     ·exact .inr (.inl z)
     ·exact .inr (.inr z)
    obtain⟨a0,a1,a2⟩:=V j x v U L W;refine⟨a0,a1,.inr ?_⟩;rcases a2 with⟨d,_⟩|⟨d,c,Y,Z⟩
    ·rcases J with z|z
     ·have f:X.env.kindOf x=some .cell:=z;rw[d]at f;cases f
     ·have f:X.env.kindOf x=some .free:=z;rw[d]at f;cases f
    ·obtain⟨c',m8,K⟩:=yG (env:=X.env) G λy hy d=>I.ok.has y.1 (S.out y hy d)
     rw[Y]at K;cases K;refine⟨kR F,c,m8,?_⟩;obtain⟨g,w,A⟩:=Z;exact⟨g,k c g w,A⟩
 cell:=λx c e=>by
  obtain⟨v,g,w,A⟩:=I.cell x c (dA e).1;exact⟨v,g,k c g w,A⟩
 free:=I.hok.fresh B
 freeC:=λx c e=>I.freeC x c (dA e).1
 pin:=λp hp=>by
  have e:p=(D,l):=by
   rcases Zma.mp hp with z|z
   ·exact ZM (show p∈([]:List (ZR×Obj)) from z) Zs
   ·simpa using z
  subst e;refine⟨R,I.hok.fresh t,M,λhm=>?_,T⟩;rcases mem_cons.mp (I.stkSub D hm) with z|z
  ·have z:D=X.env.locals:=z;have:=I.lt;rw[<- z]at this;exact ZM (ZI this t) (lt_irrefl _)
  ·exact I.nofs t z
 hok:=I.hok.kept k
 len:=by
  unfold vH;rw[bF];exact S.len
end
def Ty(X:Cx)(d:List Expr)(t:TT):Prop:=
 ∀(b:Z9)(s:ZP)(a:St)(H:Hp)(Q:Bool->Hp->Prop)(E:Z8),Inv X b a H s->t a H Q →
  wpAny (model X.prog X.w) X.A (forIn d true λc r=>if r=true then do let ok←isTrue c X.env (eval c X.env);pure (ForInStep.yield ok) else pure (ForInStep.yield r)) (TP X b a Q) E s
def yI:TT:=λ_ H Q=>Q true H
def Jv{X:Cx}:Ty X [] yI:=λa s b H Q E I h=>wpAny_tests_nil ⟨H,I,h⟩
def Jw{X:Cx}{c:Expr}{t:TT}(h:PT X c t)(b:X.xe=λ_ _=>False:=by rfl):Ty X [c] t:=λa s d H Q E I q=>
 wpAny_tests_one (wpAny_mono (h a s d H Q I q) (λ_ _ z=>z) λe f z=>by rw[b]at z;exact z.elim)
def oJ(js:List (Option Nat))(g:TG)(j:TT)(k:TE)(p:St)(J:It)(l:Hp)(Q:List V->Hp->Prop):Prop:=
 ∃W:Nat->Nat->List V->Hp->Prop,(∃m,W 0 m [] l)/\∀i m a H,W i m a H →
  (J.stop i H/\Q a H)∨
  (J.go i H/\a.length<sizeLine/\∃N:List V->Hp->Prop,(∀e c,N e c->∃f,f<m/\W (i+1) f e c) ∧
   ∀x c,J.yld i H x c->g x (vH js p) c λd n=>j d n λb h=>if b=true then k d h λy o=>N (a++[y]) o else N a h)
def No(c:TI)(js:List (Option Nat))(g:TG)(d:TT)(e:TE):TE:=λb H Q=>c b H λJ f=>
 oJ js g d e b J f λh a=>∀p,a p=none->Q (.ref p) (aK a p (.lst h))
def Np(i:Nat)(c:TI)(js:List (Option Nat))(g:TG)(d:TT)(e:TE):TS:=λD a H=>c a H λJ f=>
 oJ js g d e a J f λh b=>∀p,b p=none->D.nx (a.set i (some (.ref p))) (aK b p (.lst h))
section
variable {X:Cx}{tg iter elt:Expr}{ifs:List Expr}{scope:Scope}{N:List Str}{js:List (Option Nat)}{wi:TI}{g:TG}{tt:TT}{te:TE}{pos:Pos}
def oK{Q:Z9}{j:St}{d:Hp}{a:ZP}{it:ZR}{fp:List ZR}{R:Nat->Heap->Prop}{J:It}{Qf:List V->Hp->Prop}{RR:ZQ->ZR->Result->ZP->Prop}{E:Z8}(hc:X.calm=true)(S:CompScope X scope N js)(go:wB js g)(c:∀(C:ZR)(s₂:ZP)(H₂:Hp)(fp:List ZR),PG (lO X scope C N s₂ H₂ fp) tg g/\Ty (lO X scope C N s₂ H₂ fp) ifs tt/\PE (lO X scope C N s₂ H₂ fp) elt te)(M:Inv X Q j d a)(T:rH X.prog X.w X.K tg J fp it R)(B3:R 0 a.heap)(f2:∀b∈fp,lR X Q d b)(hw:oJ js g tt te j J d Qf)(QF:∀(C D:ZR)(ys:List V)(r:Hp)(w:ZP)(m:Z7),a.heap.objs.size<=C->a.heap.objs.size<=D->D≠C->Inv X Q j (aK r D (.lst ys)) w->r C=none->r D=none->w.heap.Ns C m->Qf ys r->RR (.ref D) C (.ok .next) w) :
  wpAny (model X.prog X.w) X.A (newList []) (λacc L=>wpAny (model X.prog X.w) X.A (newFunctionEnv scope X.env.globals (iK X.env scope.names []) [] X.env.qual none .none (some X.env)) (λBJ s₄=>
   codeAny (model X.prog X.w) X.A (.compStart (.ListComp elt [⟨tg,iter,ifs,0⟩] scope pos) 0 (.ref it) acc {BJ with scope:=relabel scope X.env }) (RR acc BJ.locals) s₄) E L) E a:=by
 obtain⟨W,⟨m0,w0⟩,turn⟩:=hw;refine wpAny_newObj_type (wpAny_newFunctionEnv S.nocell (by intro y hy;simp at hy) (λh₁ U Y=>?_) S.kind);dsimp only at U Y ⊢;generalize GW:a.heap.push {cls:=.type "list",dict:=none,data:=.seq ([]:List ZQ).toArray }=Z at U Y ⊢;have hC:Z.objs.size=a.heap.objs.size+1:=by rw[<- GW,Heap.size_push]
 have O:a.heap.objs.size≠Z.objs.size:=by rw[hC];exact ne_of_lt (lt_succ_self _)
 have yb:a.heap.objs.size<=Z.objs.size:=by rw[hC];exact le_succ _
 have old:∀b o,a.heap.get? b=some o->h₁.get? b=some o:=λb o e=>Y.extBut b o (by rw[hC];exact ne_of_lt (Nat.lt_succ_of_lt (Heap.lt_size e))) (iE _ (GW▸iE _ e))
 have pz:h₁.get? a.heap.objs.size=some {cls:=.type "list",data:=.seq ([]:List ZQ).toArray 0 }:=Y.extBut _ _ O (iE _ (GW▸ZS _ rfl));have ux:∀b∈fp,b<a.heap.objs.size:=λb c=>by
  obtain⟨o,e,_⟩:=T.obj _ _ B3 b c;exact Heap.lt_size e
 generalize LN:a.heap.objs.size=D at O yb pz ⊢;generalize XR:Z.objs.size=C at O yb U ⊢;have EJ:a.heap.objs.size<=C:=by rw[LN];exact yb
 have A:a.heap.objs.size<=D:=le_of_eq LN;obtain⟨pg,pt,pe⟩:=c C a d fp;have I0:=S.start (D:=D) (fp:=fp) (tk:=a.toks+([]:List (Str×ZQ)).length) M EJ A O f2 ux old U pz (λv z=>nomatch z);have GX:∀ {K:Hp}{s:Z9},(∀b∈fp,K b=none)->(∀p∈s,p.1∉fp)->∀b∈fp,lR (lO X scope C N a d fp) s K b:=λhn t b c=>
  ⟨hn b c,ne_of_lt (ZI (ux b c) EJ),(S.ok M EJ f2 ux).exfs b c,.inl c,λx a0 e=>(f2 b c).2.2.2.2.1 x a0 (dA e).1,λp P z=>by
   rcases Zma.mp P with q|q
   ·exact ZM (show p∈([]:List (ZR×Obj)) from q) Zs
   ·exact t p q (z ▸ c)⟩
 have LO:D∉fp:=λz=>ZM (ZI (ux D z) A) (lt_irrefl _)
 have one:∀ {ob:Obj},∀p∈[(D,ob)],p.1∉fp:=λp t=>by
  have e:=Zms.mp t;subst e;exact LO
 have loop:∀L:ZP,L={a with heap:=h₁,toks:=a.toks+([]:List (Str×ZQ)).length } →
   codeAny (model X.prog X.w) X.A (.compLoop (.ListComp elt [⟨tg,iter,ifs,0⟩] scope pos) 0 (.ref it) (.ref D) (compEnvC scope (iK X.env scope.names []) C X.env)) (RR (.ref D) C) L:=by
  rintro L rfl;refine codeAny_loop rfl (λn s'=>∃(i:Nat)(ys:List V)(K:Hp)(f:List ZQ)(k:Nat),Inv (lO X scope C N a d fp) [(D,{cls:=.type "list",data:=.seq f.toArray k })] (vH js j) K s'/\Vals ys f/\ys.length<=sizeLine/\R i s'.heap/\(∀b∈fp,K b=none)/\W i n ys K) ?_ m0 ?_
  ·rintro n w ⟨i,ys,r,f,k,I3,rv,hz,pf,wa,w3⟩;show wpAny _ X.A ((compTurn (.ListComp elt [⟨tg,iter,ifs,0⟩] scope pos) 0 (.ref it) (.ref D) (compEnvC scope (iK X.env scope.names []) C X.env)).onRaise (λx=>do noteFrame x _;theTreesLotGoes x)) _ _ w;refine wpAny_noted (wpAny_noRaise ?_);rw[compTurn_list];rcases turn i n ys r w3 with⟨stop,qn⟩|⟨GY,B2,Nx,hN,step⟩
   ·refine ZZ (wpAny_standAt (ZZ (bP (T.done (lO X scope C N a d fp) rfl rfl rfl hc i _ w (vH js j) r (λ_ _=>False) I3 (GX wa one) pf stop) ?_)));rintro a2 s4 ⟨hr,B⟩;subst hr;refine ZY ?_;have h:=B.pin (D,{cls:=.type "list",data:=.seq f.toArray k }) (by simp[lO]);obtain⟨mC,QG,_⟩:=id B.loc;have IX:Inv X Q j (aK r D (.lst ys)) s4:=by
     refine M.call' (ch:=fp) B.os (Un.more B.base (Heap.get?_none_of_le A) (M.hok.fresh A)) (HOk.more B.hok h.2.1 ⟨hz,f,k,rv,h.1⟩) B.bare λb c=>?_;obtain⟨_,f1,_,f3,f4,f5⟩:=f2 b c;exact⟨f3,f1,f4,f5⟩
    exact QF C D ys r s4 mC EJ A O IX B.free h.2.1 QG qn
   ·refine ZZ (wpAny_standAt (ZZ (bP (T.item (lO X scope C N a d fp) rfl rfl rfl hc i _ w (vH js j) r (λ_ _=>False) I3 (GX wa one) pf GY) ?_)));rintro a2 s4 ⟨a3,hr,h4⟩;subst hr;refine ZZ (bP h4 ?_);rintro _ s5 ⟨x,H5,I5,r5,y5,X1,GH⟩;have GI:=I5.pinned (GX GH one) (T.obj _ _ X1);refine ZZ (bP (pg _ s5 (vH js j) H5 x a3 _ GI r5 (go _ _ _ _ (step x H5 y5))) ?_);rintro _ s6 ⟨σ6,H6,I6,⟨q6,l6,e6⟩⟩;have weak:∀ {s:Z9}{l:Hp}{u:ZP},Inv (lO X scope C N a d fp) s σ6 l u->Inv (lO X scope C N a d fp) s (vH js j) l u:=λ{s l u} G=>by
     refine G.weak l6.symm λa1 v H=>?_
     cases e:js[a1]? with
     | none=>unfold vH at H;rw[fB,e]at H;cases H
     | some o=>
      cases o with
      | none=>unfold vH at H;rw[fB,e]at H;cases H
      | some j'=>rw[e6 a1 j' e];exact H
    have wc:∀ {l:Hp}{u:ZP}{s:Z9},Inv (lO X scope C N a d fp) (s++nV fp s5.heap) (vH js j) l u->R (i+1) u.heap/\∀b∈fp,l b=none:=λ{l u s} G=>by
     refine⟨T.keep _ _ _ X1 λb c o e=>(G.pin (b,o) (ZJ _ (ZJ _ (gP c e)))).1,λb c=>?_⟩;obtain⟨o,e,a4⟩:=T.obj _ _ X1 b c;exact(G.pin (b,o) (ZJ _ (ZJ _ (gP c e)))).2.1
    refine ZZ (bP (pt _ s6 σ6 H6 _ _ I6 q6) ?_);rintro ok u ⟨l,G,q7⟩
    cases ok with
    | false=>
     rw[ZN ZX]at q7;refine ZY ⟨rfl,?_⟩;obtain⟨m',P,w7⟩:=hN ys l q7;have LP:=weak G;obtain⟨k1,k2⟩:=wc LP;exact⟨m',P,i+1,ys,l,f,k,LP.unpinned,rv,hz,k1,k2,w7⟩
    | true=>
     rw[ZO rfl]at q7;show wpAny _ _ ((eval elt _>>=λx=>call (.builtin "list.append") [.ref D,x]>>=λ_=>pure ())>>=λ_=>again _) _ _ _;refine ZZ (ZZ (bP (pe _ u σ6 l _ G q7) ?_));rintro y I ⟨yv,H8,I8,r8,q8⟩;obtain⟨m',P,w8⟩:=hN (ys++[yv]) H8 q8;have GZ:=weak I8;obtain⟨k1,k2⟩:=wc GZ;have h:=GZ.pin (D,{cls:=.type "list",data:=.seq f.toArray k }) (by simp[lO]);have ph:=rv.length;refine ZZ (call_meets F.slot_list_append ⟨_,h.1,rfl⟩ F.entry_list_append (F.args_list_append_2 _ _) (PySem.list_append D f.toArray k y (by rw[cZ];omega)) ⟨h.1,?_⟩);refine ZY (ZY ⟨rfl,m',P,i+1,ys++[yv],H8,f++[y],?_⟩);have q:=PySem.IsL.update h.1 (λz=>z.push y);have eA:f.toArray.push y=(f++[y]).toArray:=by simp
     rw[eA]at q;have I9:Inv (lO X scope C N a d fp) [] (vH js j) H8 I:=GZ.pins_of λp t=>ZM t Zs
     have we:∀b o,b≠D->I.heap.get? b=some o->(I.heap.update D (Obj.mapSeq λz=>z.push y)).get? b=some o:=λb o c hu=>(Heap.get?_update_other I.heap _ (Ne.symm c)).trans hu
     have QH:Inv (lO X scope C N a d fp) [] (vH js j) H8 {I with heap:=I.heap.update D (Obj.mapSeq λz=>z.push y),toks:=I.toks }:=I9.turned we h.2.1 h.2.2.1 (.inr A)
      (λx a0 e z=>by
       obtain⟨v,oc,q1,q2⟩:=M.cell x a0 (dA e).1;rw[z]at q1;exact ZM (ZI (Heap.lt_size q1) A) (lt_irrefl _))
      (λp t=>by
       rcases Zma.mp t with q|q
       ·exact ZM (show p∈([]:List (ZR×Obj)) from q) Zs
       ·exact ZM q Zs)
     refine⟨(if ((f++[y]).toArray).size==f.toArray.size then k else k+1),QH.pins_of λp t=>?_,rv.append (.cons r8 .nil),?_,?_,k2,w8⟩
     ·have e:=Zms.mp t;subst e;exact⟨q,h.2.1,h.2.2.1,h.2.2.2.1,λv z=>nomatch z⟩
     ·rw[kJ,List.length_singleton];omega
     ·exact T.keep _ _ _ k1 λb c o e=>we b o (λz=>LO (z▸c)) e
  ·exact⟨0,[],d,[],0,I0,.nil,zero_le _,T.keep _ _ _ B3 λb _ o e=>old b o e,λb c=>(f2 b c).1,w0⟩
 exact codeAny_compStart_list (loop _ rfl) (T.self _ 0 _ _ _ (T.keep _ _ _ B3 λb _ o e=>old b o e) (loop _ rfl))
def Jx(r:X.calm=true)(S:CompScope X scope N js)(go:wB js g)(t:PI X tg iter wi)(j:∀(C:ZR)(f:ZP)(i:Hp)(fp:List ZR),PG (lO X scope C N f i fp) tg g/\Ty (lO X scope C N f i fp) ifs tt/\PE (lO X scope C N f i fp) elt te)(u:∀x,foldedSetIterable iter X.env x=pure x:=by intro _;rfl):PE X (.ListComp elt [⟨tg,iter,ifs,0⟩] scope pos) (No wi js g tt te):=by
 intro k s n H Q I h;rw[eval_ListComp];refine wpAny_comprehension_free (use:=none) rfl u (oH λy w A=>I.ok.has y.1 (S.out y w A)) S.kind S.loc (bP (t k s n H _ I h) λv Y B=>bP B λZ s2 E=>?_);obtain⟨it,fp,tn,a0,H2,e,a,T,F,f2,G⟩:=E;subst e;refine oK (RR:=λo C=>compPost (model X.prog X.w) X.A X.xe none (EP X k n Q) o C) r S go j a T F f2 G ?_;intro C D J K L m d hD M O P R U q;refine⟨m,U,λh' V=>?_⟩;refine⟨.ref D,aK K D (.lst J),O.turned (it:=C) (t':=L.toks) (λb a1 j e=>(V.2 b j).trans e) (by rw[aF (Ne.symm M)];exact P) ?_ (.inr (hZ a.sz d)) ?_ ?_,rfl,q D R⟩
 ·exact ne_of_gt (ZI a.lt d)
 ·intro x c e z;obtain⟨v,oc,l,q2⟩:=a.cell x c e;rw[z]at l;exact ZM (ZI (Heap.lt_size l) d) (lt_irrefl _)
 ·intro p W z;have:=Heap.lt_size (a.pin p W).1;rw[z]at this;exact ZM (ZI this d) (lt_irrefl _)
def Jy{i:Nat}{y:Str}{b o:Pos}(t:X.N.Nodup)(m:X.N[i]?=some y)(u:Nb X.env.scope y)(w:X.calm=true)(S:CompScope X scope N js)(go:wB js g)(A:PI X tg iter wi)(n:∀(C:ZR)(j:ZP)(k:Hp)(fp:List ZR),PG (lO X scope C N j k fp) tg g/\Ty (lO X scope C N j k fp) ifs tt/\PE (lO X scope C N j k fp) elt te)(B:swapsWith (.ListComp elt [⟨tg,iter,ifs,0⟩] scope pos) (some (.Name y b)) o.line X.env=pure true)(E:∀x,foldedSetIterable iter X.env x=pure x:=by intro _;rfl)(F:X.fn y=true∨X.env.scope.names.lookup y=some .local:=by first|exact .inl rfl|exact .inr rfl|assumption) :
  PS X (.Assign [.Name y b] (.ListComp elt [⟨tg,iter,ifs,0⟩] scope pos) o) (Np i wi js g tt te):=by
 intro l s σ a0 D I a1;rw[exec_Assign_Name_used _ _ _ _ B];refine ZZ (wpAny_standAt (ZZ ?_));show wpAny _ X.A (do let _ ← comprehension (.ListComp elt [⟨tg,iter,ifs,0⟩] scope pos) scope X.env _ (newList []) false (eval iter X.env) (some (assign (.Name y b) X.env))) _ _ s;refine ZZ (bP (wpAny_comprehension_free (use:=some (assign (.Name y b) X.env)) (Q:=λ_ f=>SP X l D .next f) rfl E (oH λy m G=>I.ok.has y.1 (S.out y m G)) S.kind S.loc
  (bP (A l s σ a0 _ I a1) λv s1 H=>bP H λED s2 J=>?_)) λ_ f K=>ZY (ZY K))
 obtain⟨it,fp,tn,a7,H2,e,d,a2,L,f2,M⟩:=J;subst e;refine oK (RR:=λr C=>compPost (model X.prog X.w) X.A X.xe (some (assign (.Name y b) X.env)) (λ_ f=>SP X l D .next f) r C) w S go n d a2 L f2 M ?_;intro C Da ys H3 s3 a3 h hD O P R T U a4;have cne:∀x c,X.env.cells.lookup x=some c->c≠C:=λx c e z=>by
  obtain⟨v,oc,p,q2⟩:=d.cell x c e;rw[z]at p;exact ZM (ZI (Heap.lt_size p) h) (lt_irrefl _)
 have q:C≠X.env.locals:=ne_of_gt (ZI d.lt h);show wpAny _ X.A (assign (.Name y b) X.env (.ref Da)) _ _ _;refine wpAny_assign_Name (qB (v:=.ref Da) P t m u rfl (λV W Y=>?_) F);obtain⟨a,Z,ha⟩:=Y;have aC:C≠a:=by
  rcases ha with z|z
  ·rw[z];exact q
  ·exact Ne.symm (cne y a z)
 refine⟨a3,U.sameBut Z aC,λh' HA=>?_⟩;refine⟨_,_,W.turned (it:=C) (t':=V.toks) (λa5 a8 n e=>(HA.2 a5 n).trans e) (by rw[aF (Ne.symm O)];exact R) q (.inr (hZ d.sz h)) cne ?_,a4 Da T⟩;intro a6 hp z;have:=Heap.lt_size (d.pin a6 hp).1;rw[z]at this;exact ZM (ZI this h) (lt_irrefl _)
end
def Xp(x:Str):It:=⟨λi _=>i<x.cps.size,λi H v a=>a=H/\∃c,x.cps[i]?=some c/\v=.str ⟨#[c]⟩,λi _=>x.cps.size<=i⟩
def wC{P:Program}{w:World}{K:W.Frag}{G:Expr}(it:ZR)(x:Str)(t:Tok):rH P w K G (Xp x) [it] it (λi h=>h.IsStrIter it "str_ascii_iterator" x t i) where
 mem:=by simp
 obj:=λi h st b a=>by
  have e:b=it:=by simpa using a
  subst e;obtain⟨o,e,c,d⟩:=st;exact⟨o,e,λv z=>by rw[d]at z;cases z⟩
 keep:=λi h f st k=>let ⟨o,J,r⟩:=st;⟨o,k it Zs o J,r⟩
 item:=by
  intro X l m n C i B s F H E I g st p;subst l m n;obtain⟨q,f1,f2,u,y,A⟩:=g it Zs;have j:i<x.cps.size:=p;refine wpAny_pyNext_ascii_item st (c:=x.cps[i]) (by simp[j]) λf D L=>?_;have M:Inv X B F H {s with heap:=f,toks:=s.toks+1 }:=I.turned (λb o a e=>(L.2 b a).trans e) q f1 u y A;obtain⟨o,e,c,d⟩:=id D;exact⟨_,rfl,qC (s:={s with heap:=f,toks:=s.toks+1 }) e c d Zd ⟨.str ⟨#[x.cps[i]]⟩,H,M,⟨_,rfl⟩,⟨rfl,_,by simp[j],rfl⟩,D,λb a=>(g b a).1⟩⟩
 done:=by
  intro X l m n C i B s F H E I g st p;subst l m n;obtain⟨q,f1,f2,u,y,A⟩:=g it Zs;have j:x.cps.size<=i:=p;exact wpAny_pyNext_ascii_end (I.ok.hd C) st (by simp[j]) λf N=>⟨rfl,I.turned (t':=s.toks) (λb o a e=>N b o a e) q f1 u y A⟩
 self:=λ_ _ _ _ _ st h=>wpAny_pyIter_striter_ascii st h
def As{P:Program}{w:World}{K:W.Frag}{G:Expr}(it:ZR)(x:Str)(t:Tok):rH P w K G (Xp x) [it] it (λi h=>h.IsStrIter it "str_iterator" x t i) where
 mem:=by simp
 obj:=λi h st b a=>by
  have e:b=it:=by simpa using a
  subst e;obtain⟨o,e,c,d⟩:=st;exact⟨o,e,λv z=>by rw[d]at z;cases z⟩
 keep:=λi h f st k=>let ⟨o,J,r⟩:=st;⟨o,k it Zs o J,r⟩
 item:=by
  intro X l m n C i B s F H E I g st p;subst l m n;obtain⟨q,f1,f2,u,y,A⟩:=g it Zs;have j:i<x.cps.size:=p;refine wpAny_pyNext_wide_item st (c:=x.cps[i]) (by simp[j]) λf D L=>?_;have M:Inv X B F H {s with heap:=f,toks:=s.toks+1 }:=I.turned (λb o a e=>(L.2 b a).trans e) q f1 u y A;obtain⟨o,e,c,d⟩:=id D;exact⟨_,rfl,qC (s:={s with heap:=f,toks:=s.toks+1 }) e c d Zd ⟨.str ⟨#[x.cps[i]]⟩,H,M,⟨_,rfl⟩,⟨rfl,_,by simp[j],rfl⟩,D,λb a=>(g b a).1⟩⟩
 done:=by
  intro X l m n C i B s F H E I g st p;subst l m n;obtain⟨q,f1,f2,u,y,A⟩:=g it Zs;have j:x.cps.size<=i:=p;exact wpAny_pyNext_wide_end (I.ok.hd C) st (by simp[j]) λf N=>⟨rfl,I.turned (t':=s.toks) (λb o a e=>N b o a e) q f1 u y A⟩
 self:=λ_ _ _ _ _ st h=>wpAny_pyIter_striter_wide st h
section
variable {X:Cx}{tg:Expr}
def Vj(a:TE):TI:=λc H R=>a c H λx b=>∃z,x=.str z/\R (Xp z) b
def Qn{l:Expr}{g:TE}(k:PE X l g):PI X tg l (Vj g):=by
 intro f s r H R I h;refine bP (k f s r H _ I h) ?_;rintro v a ⟨x,d,c,m,n⟩
 obtain⟨z,rfl,q⟩:=n;obtain⟨t,rfl⟩:=m;have i:∀b∈[a.heap.objs.size],lR X f d b:=λb p=>by
  have e:b=a.heap.objs.size:=by simpa using p
  subst e;exact c.fpOk (bQ _) (c.hok.fresh (bQ _))
 cases j:z.cps.all (·<128)
 ·refine wpAny_pyIter_wide j ?_;exact⟨a.heap.objs.size,[a.heap.objs.size],_,_,d,rfl,c.kept (t':=a.toks) λb o e=>iE _ e,As _ z t,⟨_,ZS _ rfl,rfl,rfl⟩,i,q⟩
 ·refine wpAny_pyIter_ascii j ?_;exact⟨a.heap.objs.size,[a.heap.objs.size],_,_,d,rfl,c.kept (t':=a.toks) λb o e=>iE _ e,wC _ z t,⟨_,ZS _ rfl,rfl,rfl⟩,i,q⟩
end
abbrev tx(l:List Nat):Str:=⟨l.toArray⟩
def wE(x:Str):tx x.cps.toList=x:=by cases x;simp
def bD(l:List Nat):(tx l).length=l.length:=by simp[Str.length]
def cX(a b:List Nat):tx a++tx b=tx (a++b):=by
 show Str.append (tx a) (tx b)=_;unfold Str.append;simp
def Jz(x y:Str):(x++y).cps.toList=x.cps.toList++y.cps.toList:=by
 show(Str.append x y).cps.toList=_;unfold Str.append;simp
def iG{a:Type}(xs:List a)(lo b:Option Int):List a:=(xs.drop (HT.sIx xs.length 0 lo)).take (HT.sIx xs.length xs.length b-HT.sIx xs.length 0 lo)
def yJ(n d:Nat)(v:Option Int):(match v with|none=>(d:Int)|some i=>max 0 (min (if i<0 then i+(n:Int) else i) (n:Int)))=((HT.sIx n d v:Nat):Int):=by
 cases v with
 | none=>rfl
 | some i=>
  show max 0 (min (if i<0 then i+(n:Int) else i) (n:Int))=(((if i<0 then (i+(n:Int)).toNat else min i.toNat n):Nat):Int);by_cases h:i<0
  ·rw[ZO h,ZO h];omega
  ·rw[ZN h,ZN h];omega
def Ea(lo a:Option Int)(n:Nat):Builtin.Str.strSliceIndices lo a 1 n=(List.range (HT.sIx n n a-HT.sIx n 0 lo)).map (HT.sIx n 0 lo+·):=by
 rw[<- sliceRange_one,<- yJ n 0 lo,<- yJ n n a];unfold Builtin.Str.strSliceIndices;simp only [show(1:Int)>0 by decide,if_true];cases lo<;>cases a<;>rfl
def Ka(n d:Nat)(a:d<=n)(v:Option Int):HT.sIx n d v<=n:=by
 cases v with
 | none=>exact a
 | some i=>
  show(if i<0 then (i+(n:Int)).toNat else min i.toNat n)<=n;split<;>omega
def Au(x:Str)(lo a:Option Int):(Txt.slice x lo a).cps.toList=iG x.cps.toList lo a:=by
 have c:x.cps.toList.length=x.length:=by simp[Str.length]
 unfold Txt.slice iG;rw[c,Ea];have d:=pick_run x.cps (HT.sIx x.length 0 lo) (HT.sIx x.length x.length a-HT.sIx x.length 0 lo);split
 ·rename_i h;have f:(HT.sIx x.length x.length a-HT.sIx x.length 0 lo)=x.length:=by simpa using h
  have g:=Ka x.length x.length (bQ _) a;have b:HT.sIx x.length 0 lo=0∨x.length=0:=by omega
  rw[f];rcases b with b|b
  ·rw[b,drop_zero,nT (by rw[c];exact bQ _)]
  ·have e:x.cps.toList=[]:=List.eq_nil_of_length_eq_zero (by rw[c];exact b);rw[e];simp
 ·simpa using d
def Eb(x:Str)(lo a:Option Int):Txt.slice x lo a=tx (iG x.cps.toList lo a):=by
 rw[<- Au,wE]
section
variable {X:Cx}
def Yk:V->Option Int->Option Int->Hp->VK->Prop:=λx lo a H Q=>∃z,x=.str z/\z.length<=sizeLine/\Q (.str (tx (iG z.cps.toList lo a))) H
def wF{h:Heap}{sl:ZR}{b c:ZQ}{lo d:Option Int}(a:h.IsSliceOf sl b c .none)(pl:IsPart b lo)(e:IsPart c d):∃l u:Option (Int×Tok),h.IsSlice sl l u none/\l.map (·.1)=lo/\u.map (·.1)=d:=by
 cases pl with
 | none=>
  cases e with
  | none=>exact⟨none,none,a,rfl,rfl⟩
  | int j t=>exact⟨none,some (j,t),a,rfl,rfl⟩
 | int i t=>
  cases e with
  | none=>exact⟨some (i,t),none,a,rfl,rfl⟩
  | int j u=>exact⟨some (i,t),some (j,u),a,rfl,rfl⟩
def Qo:SlR X Yk:=by
 intro c s o H x v p r lo b sl Q I d e f g h;obtain⟨z,rfl,i,q⟩:=h;obtain⟨t,rfl⟩:=d;obtain⟨l,u,j,m,n⟩:=wF e f g;refine⟨"str",_,F.slot_str_getitem.lookup,typeIs_str _ _ _,wpAny_getItem_str_slice j rfl ?_⟩;have fin:∀a k,EP X c o Q (.str (Txt.slice z lo b) a) {s with toks:=k }:=λa k=>⟨.str (tx (iG z.cps.toList lo b)),H,I.tok _,⟨a,by rw[Eb]⟩,q⟩
 subst m n;exact post_val_or_str ⟨hZ (Txt.slice_le z _ _) i,λa k=>fin a k⟩
def wG{a:List Str}:∀ {us:List ZQ},Vals (a.map V.str) us->StrsAre us a:=by
 induction a with
 | nil=>intro us r;rw[map_nil]at r;cases r;exact .nil
 | cons n a b=>
  intro us r;rw[map_cons]at r;cases r with
  | cons c d=>
   obtain⟨t,e⟩:=c;subst e;exact .cons n t (b d)
def Ec(K:W.Frag):V->List V->Hp->VK->Prop:=λx vs H Q=>∃b p a,x=.str b/\vs=[.ref p]/\SqL K H p (a.map V.str)/\(a.map (·.length)).sum+a.length*b.length<=16777216/\Q (.str (Txt.join b a)) H
def Kb:Tu X "str.join" (Ec X.K):=by
 intro g s o H x vs v l Q I a b h;obtain⟨i,p,m,rfl,rfl,c,d,q⟩:=h;obtain⟨t,rfl⟩:=a;obtain⟨u,rfl,e⟩:=b.one;cases e;obtain⟨j,r,f,_⟩:=I.list c;exact join_list f.isList (by simpa using wG r) d λn k=>⟨.str _,H,I.tok _,⟨_,rfl⟩,q⟩
def Yl(K:W.Frag):List V->Hp->VK->Prop:=λvs H Q=>∃x T t b,vs=[x,.ty T]/\kM K H x t/\W.kitOne K t (.type T)=some b/\Q (.bl b) H
def Ed:CallR X (.builtin "isinstance") (Yl X.K):=by
 intro j s l H k a Q I r h;obtain⟨x,T,t,b,rfl,ty,e,q⟩:=h;obtain⟨u,c,rfl,d,f⟩:∃u c,a=[u,c]/\RelV x u/\RelV (.ty T) c:=by
  cases r with
  | cons p q=>
   cases q with
   | cons g i=>
    cases i;exact⟨_,_,rfl,p,g⟩
 cases(show c=Value.type T from f);exact Af I d ty e λtk=>⟨.bl b,H,I.tok _,rfl,q⟩
def tZ{a:List Bool}:∀ {us:List ZQ},Vals (a.map V.bl) us->PyProof.Rows.LSm.BoolsAre us a:=by
 induction a with
 | nil=>intro us r;rw[map_nil]at r;cases r;exact .nil
 | cons n a b=>
  intro us r;rw[map_cons]at r;cases r with
  | cons c d=>
   have e:=c;cases(show _=Value.bool n from e);exact .cons n (b d)
def Qp(K:W.Frag):List V->Hp->VK->Prop:=λvs H Q=>∃(p:ZR)(bs:List Bool),vs=[.ref p]/\SqL K H p (bs.map V.bl)/\Q (.bl (bs.all id)) H
def Qq(K:W.Frag):List V->Hp->VK->Prop:=λvs H Q=>∃(p:ZR)(a:List Int),vs=[.ref p]/\SqL K H p (a.map V.int)/\Q (.int (List.sum a)) H
def Ee(g:X.calm=true):CallR X (.builtin "all") (Qp X.K):=by
 intro w s F H x y Q I r h;obtain⟨p,bs,rfl,j,q⟩:=h;obtain⟨u,rfl,k⟩:=iB r;cases k;obtain⟨a,l,m,z⟩:=I.list j;have c:=m.isList;have d:=tZ l;have n:p<s.heap.objs.size:=by obtain⟨_,e,_⟩:=c;exact Heap.lt_size e
 refine call_all_walk (wpAny_pyIter_list c ?_);refine⟨s.heap.objs.size,[s.heap.objs.size,p],[s.heap.objs.size],a.toArray.size,_,_,λi=>(bs[i]?).getD true,rfl,Walks.list (A:=X.A.in1) (I.ok.hd g) _ p (ne_of_lt n) a.toArray,
  ⟨⟨_,ZS _ rfl,rfl,rfl⟩,c.push _⟩,λi v B C D o f=>?_,λE tk t=>?_⟩
 ·obtain⟨b,e,rfl⟩:=d.get i v (by simpa using o);simp only [e,Option.getD_some]at f;exact wpAny_truthy_bool f
 ·have e:((List.range a.toArray.size).all λi=>(bs[i]?).getD true)=bs.all id:=by
   rw[cZ,d.length];exact PyProof.Rows.LSm.range_all bs
  rw[e];exact⟨.bl _,H,I.kept (PyProof.Rows.LSm.kept_iter t),rfl,q⟩
def Ef(f:X.calm=true):CallR X (.builtin "sum") (Qq X.K):=by
 intro t s z H a v Q I r h;obtain⟨p,b,rfl,g,q⟩:=h;obtain⟨u,rfl,i⟩:=iB r;cases i;obtain⟨e,j,k,w⟩:=I.list g;have c:=nZ j;obtain⟨a,d⟩:=c.allInts.items;have l:s.heap.IsList p (intItems a):=d▸k.isList;refine sum_intListG (I.ok.hd f) l λx tk y m=>?_;have n:b=a.toList.map (·.1):=by
  rw[<- nums_intItems,<- d];exact(show numsOf e.toArray.toList=b from c.numsOf).symm
 have o:preSum (numAt a) a.size=b.sum:=by
  rw[preSum_eq,nT Zs,n]
 rw[o];exact⟨.int _,H,I.kept m,⟨_,rfl⟩,q⟩
end
section
variable {X:Cx}
def lV(K:W.Frag)(d:Bool):R2:=λx y H Q=>∃(a b:ZR)(c:List V),x=.ref a/\y=.ref b/\SqL K H a c/\SqL K H b []/\Q (.bl (if d then !c.isEmpty else c.isEmpty)) H
def jA{us:List ZQ}(r:Vals [] us):us=[]:=by cases r;rfl
def Eg(c:X.A.units<cLine):OpR X (compareOp .Eq) (lV X.K false):=by
 intro w s D H x y v u Q I i k h;obtain⟨a,b,l,rfl,rfl,m,n,q⟩:=h;cases i;cases k;obtain⟨A,d,f,_⟩:=I.list m;obtain⟨B,o,g,_⟩:=I.list n;have p:=jA o;subst p;have r:=d.length
 cases l with
 | nil=>
  have t:=jA d;subst t;exact SeqAt.eq_listAt (e:=λ_=>true) f.isList g.isList rfl c (λj h=>ZM h Zs) ⟨.bl true,H,I,rfl,q⟩
 | cons z C=>
  exact SeqAt.eq_list_lengthsAt f.isList g.isList (by simp only [cZ,<- r];simp) c ⟨.bl false,H,I,rfl,q⟩
def Eh(c:X.A.units<cLine):OpR X (compareOp .NotEq) (lV X.K true):=by
 intro w s D H x y v u Q I i k h;obtain⟨a,b,l,rfl,rfl,m,n,q⟩:=h;cases i;cases k;obtain⟨A,d,f,_⟩:=I.list m;obtain⟨B,o,g,_⟩:=I.list n;have p:=jA o;subst p;have r:=d.length
 cases l with
 | nil=>
  have t:=jA d;subst t;exact SeqAt.RcNeAt.lists (e:=λ_=>true) f.isList g.isList rfl c (λj h=>ZM h Zs) _ _ _ _ ⟨.bl false,H,I,rfl,q⟩
 | cons z C=>
  exact SeqAt.RcNeAt.lists_lengths f.isList g.isList (by simp only [cZ,<- r];simp) c _ _ _ _ ⟨.bl true,H,I,rfl,q⟩
end
def mB(x:V)(k:Bool->Prop):Prop:=match x with|.bl b=>k b|_=>False
def mI(x:V)(k:Int->Prop):Prop:=match x with|.int b=>k b|_=>False
def mS(x:V)(k:Str->Prop):Prop:=match x with|.str b=>k b|_=>False
def mR(x:V)(k:ZR->Prop):Prop:=match x with|.ref b=>k b|_=>False
def oM(x:V)(k:Bool->Prop):mB x k=∃b,x=.bl b/\k b:=by
 cases x<;>simp[mB]
def kT(x:V)(k:Int->Prop):mI x k=∃b,x=.int b/\k b:=by
 cases x<;>simp[mI]
def mQ(x:V)(k:Str->Prop):mS x k=∃b,x=.str b/\k b:=by
 cases x<;>simp[mS]
def cO(x:V)(k:ZR->Prop):mR x k=∃b,x=.ref b/\k b:=by
 cases x<;>simp[mR]
def fH{n:Nat}(h:Nat.ble n 1000=true):n<=sizeLine:=hZ (ZL h) Zd
def eO{n:Nat}(h:n<=1000):n<=sizeLine:=hZ h Zd
section
variable {X:Cx}{a b c e:Expr}{ta tb tc te:TE}{pos:Pos}
def vr(i:Nat):TE:=λd H Q=>match d[i]? with|some (some v)=>Q v H|_=>False
def Vk(i:Nat):vr i=Op i:=by
 funext d H Q
 unfold vr Op;apply propext
 cases d[i]? with
 | none=>simp
 | some o=>cases o<;>simp
def xv(i:Nat){x:Str}{pos:Pos}(d:X.N[i]?=some x:=by rfl)(f:Oo X.env.scope x:=by first|exact Or.inl rfl|exact Or.inr (Or.inl rfl)|exact Or.inr (Or.inr rfl))(g:(x==("__debug__":Str))=false:=by decide)(h:(x==("__classdict__":Str))=false:=by decide):PE X (.Name x pos) (vr i):=by
 rw[Vk];exact Oq d f g h
def OpR.imp{f:ZQ->ZQ->Sem Value}{r d:R2}(h:OpR X f r)(i:∀x y H Q,d x y H Q->r x y H Q):OpR X f d:=λg s l H x y v u Q I j k q=>h g s l H x y v u Q I j k (i x y H Q q)
def UnR.imp{f:ZQ->Sem Value}{r d:V->Hp->VK->Prop}(h:UnR X f r)(i:∀x H Q,d x H Q->r x H Q):UnR X f d:=λg s k H x v Q I j q=>h g s k H x v Q I j (i x H Q q)
def CallR.imp{f:ZQ}{r d:List V->Hp->VK->Prop}(h:CallR X f r)(i:∀xs H Q,d xs H Q->r xs H Q):CallR X f d:=λg s l H xs j Q I k q=>h g s l H xs j Q I k (i xs H Q q)
def IxR.imp{r d:R2}(h:IxR X r)(i:∀x y H Q,d x y H Q->r x y H Q):IxR X d:=λf slice g s l H x y v u Q I j k q=>h f slice g s l H x y v u Q I j k (i x y H Q q)
def SlR.imp{r d:V->Option Int->Option Int->Hp->VK->Prop}(h:SlR X r)(i:∀x l u H Q,d x l u H Q->r x l u H Q):SlR X d:=λg s t H x v j k lo f sl Q I m n o p q=>h g s t H x v j k lo f sl Q I m n o p (i x lo f H Q q)
def m2(C:Int->Int->Prop)(g:Int->Int->V):R2:=λx y H Q=>mI x λi=>mI y λj=>C i j/\Q (g i j) H
def wH(g:Int->Int->V):R2:=λx y H Q=>mI x λi=>mI y λj=>Q (g i j) H
def jB{g:Int->Int->V}(x y:V)(H:Hp)(Q:VK)(h:wH g x y H Q):Jc g x y H Q:=by
 unfold wH at h;rw[kT]at h;obtain⟨i,rfl,h⟩:=h;rw[kT]at h;obtain⟨j,rfl,h⟩:=h;exact⟨i,j,rfl,rfl,h⟩
def rY{C:Int->Int->Prop}{g:Int->Int->V}(x y:V)(H:Hp)(Q:VK)(h:m2 C g x y H Q):rI C g x y H Q:=by
 unfold m2 at h;rw[kT]at h;obtain⟨i,rfl,h⟩:=h;rw[kT]at h;obtain⟨j,rfl,d,h⟩:=h;exact⟨i,j,rfl,rfl,d,h⟩
def Vl:OpR X (binaryOp .Add) (wH λi j=>.int (i+j)):=Po.imp jB
def Vm:OpR X (binaryOp .Sub) (wH λi j=>.int (i-j)):=Pp.imp jB
def Vn:OpR X (binaryOp .Mult) (m2 CMul λi j=>.int (i*j)):=Pq.imp rY
def Vo:OpR X (binaryOp .Mod) (m2 (λ_ j=>0<j) λi j=>.int (i%j)):=Pr.imp rY
def Vp:OpR X (binaryOp .Pow) (m2 Pn λi j=>.int (i^j.toNat)):=Ps.imp rY
def Ym:OpR X (compareOp .Lt) (wH λi j=>.bl (decide (i<j))):=Uu.imp jB
def Yn:OpR X (compareOp .LtE) (wH λi j=>.bl (decide (i<=j))):=Uv.imp jB
def Yo:OpR X (compareOp .Gt) (wH λi j=>.bl (decide (j<i))):=Uw.imp jB
def Yp:OpR X (compareOp .GtE) (wH λi j=>.bl (decide (j<=i))):=Ux.imp jB
def Ei:R2:=λx y H Q=>mS x λi=>mS y λj=>i.length+j.length<=sizeLine/\Q (.str (i++j)) H
def Qr:OpR X (binaryOp .Add) Ei:=vO.imp λx y H Q h=>by
 unfold Ei at h;rw[mQ]at h;obtain⟨i,rfl,h⟩:=h;rw[mQ]at h;obtain⟨j,rfl,d,h⟩:=h;exact⟨i,j,rfl,rfl,d,h⟩
def Zz:R2:=λx y H Q=>match x,y with
 | .int i,.int j=>Q (.bl (decide (i=j))) H
 | .str i,.str j=>Q (.bl (decide (i=j))) H
 | .bl i,.bl j=>Q (.bl (decide (i=j))) H
 | .non,.non=>Q (.bl true) H
 | .int _,.non=>Q (.bl false) H|.non,.int _=>Q (.bl false) H
 | .str _,.non=>Q (.bl false) H|.non,.str _=>Q (.bl false) H
 | .bl _,.non=>Q (.bl false) H|.non,.bl _=>Q (.bl false) H
 | .int _,.str _=>Q (.bl false) H|.str _,.int _=>Q (.bl false) H
 | .bl _,.str _=>Q (.bl false) H|.str _,.bl _=>Q (.bl false) H
 | _,_=>False
def mNe:R2:=λx y H Q=>match x,y with
 | .int i,.int j=>Q (.bl (!decide (i=j))) H
 | .str i,.str j=>Q (.bl (!decide (i=j))) H
 | .bl i,.bl j=>Q (.bl (!decide (i=j))) H
 | .non,.non=>Q (.bl false) H
 | .int _,.non=>Q (.bl true) H|.non,.int _=>Q (.bl true) H
 | .str _,.non=>Q (.bl true) H|.non,.str _=>Q (.bl true) H
 | .bl _,.non=>Q (.bl true) H|.non,.bl _=>Q (.bl true) H
 | .int _,.str _=>Q (.bl true) H|.str _,.int _=>Q (.bl true) H
 | .bl _,.str _=>Q (.bl true) H|.str _,.bl _=>Q (.bl true) H
 | _,_=>False
def Yq:OpR X (compareOp .Eq) Zz:=Ng.imp λx y H Q h=>by
 unfold Zv;cases x<;>cases y<;>first|exact h.elim|exact⟨rfl,h⟩|(refine⟨rfl,?_⟩;have h:Q (.bl _) H:=h;simpa using h)
def Yr:OpR X (compareOp .NotEq) mNe:=Nh.imp λx y H Q h=>by
 unfold Zw;cases x<;>cases y<;>first|exact h.elim|exact⟨rfl,h⟩|(refine⟨rfl,?_⟩;have h:Q (.bl _) H:=h;simpa using h)
def Qs(d:Bool):R2:=λx y H Q=>mS x λi=>mS y λj=>∃c,i=tx [c]/\Q (.bl (if d then !decide (c∈j.cps.toList) else decide (c∈j.cps.toList))) H
def Vq:OpR X (compareOp .In) (Qs false):=Aa.imp λx y H Q h=>by
 unfold Qs at h;rw[mQ]at h;obtain⟨i,rfl,h⟩:=h;rw[mQ]at h;obtain⟨j,rfl,c,rfl,h⟩:=h;refine⟨_,j,rfl,rfl,?_⟩;have e:=StrLaws.found_one j c;have d:(!(Builtin.Str.occurrences j (tx [c]) 0 j.length 1).isEmpty)=decide (c∈j.cps.toList):=e;rw[d];exact h
def Vr:OpR X (compareOp .Is) (λx y H Q=>match y with|.non=>Q (.bl (decide (x=.non))) H|_=>False):=Pw.imp λx y H Q h=>by
 cases y<;>first|exact⟨rfl,h⟩|exact h.elim
def Qt:OpR X (compareOp .IsNot) (λx y H Q=>match y with|.non=>Q (.bl (!decide (x=.non))) H|_=>False):=Je.imp λx y H Q h=>by
 cases y<;>first|exact⟨rfl,h⟩|exact h.elim
def mT(t:TE):TT:=λf H Q=>t f H λx d=>mB x λk=>Q k d
def Nq(t:TE):mT t=xX t:=by
 funext f H Q
 unfold mT xX;congr 1
 funext x d
 exact oM x _
def Qu(t:TE):mT t=tB t:=by
 funext f H Q
 unfold mT tB;congr 1
 funext x d
 exact oM x _
def Vs{op:CmpOp}{r:R2}(d:OpR X (compareOp op) r)(f:PE X a ta)(g:PE X b tb)(h:behindInMarks op b=false:=by first|exact rJ _|rfl):PT X (.Compare a [op] [b] pos) (mT (zZ r ta tb)):=by
 rw[Nq];exact Jg d f g h
def Vt{op:CmpOp}{r:R2}(d:OpR X (compareOp op) r)(f:PE X a ta)(g:PE X b tb)(h:behindInMarks op b=false:=by first|exact rJ _|rfl):PE X (.Compare a [op] [b] pos) (zZ r ta tb):=Jf d f g h
def lW(r g:R2)(ta tb tc:TE):TE:=λd H Q=>ta d H λx h=>tb d h λy i=>r x y i λz f=>mB z λk=>(if k=true then tc d f λj l=>g y j l Q else Q (.bl false) f)
def qK(r d:R2)(ta tb tc:TE):lW r d ta tb tc=rK r d ta tb tc:=by
 funext i H Q
 unfold lW rK;congr 1
 funext x f
 congr 1
 funext y g
 congr 1
 funext z h
 exact oM z _
def Kc{op d:CmpOp}{r f:R2}(g:OpR X (compareOp op) r)(h:OpR X (compareOp d) f)(i:PE X a ta)(j:PE X b tb)(k:PE X c tc)(l:lastMarks [op,d] [b,c]=false:=by with_unfolding_all rfl):PE X (.Compare a [op,d] [b,c] pos) (lW r f ta tb tc):=by
 rw[qK];exact Cq g h i j k l
def Ke{op d:CmpOp}{r f:R2}(g:OpR X (compareOp op) r)(h:OpR X (compareOp d) f)(i:PE X a ta)(j:PE X b tb)(k:PE X c tc)(l:lastMarks [op,d] [b,c]=false:=by with_unfolding_all rfl):PT X (.Compare a [op,d] [b,c] pos) (mT (lW r f ta tb tc)):=by
 rw[Nq,qK];exact Cr g h i j k l
def Vu{t:TE}(h:PE X e t)(d:∀whole,isTrue e X.env whole=(do let v←whole;standAt e.pos;holding [v] (truthy v)):=by intro _;rfl):PT X e (mT t):=by
 rw[Qu];exact Ov h d
def yK(ta tb:TE):TE:=λf H Q=>ta f H λx d=>mB x λc=>if c=true then tb f d Q else Q (.bl false) d
def Kf(ta tb:TE):TE:=λf H Q=>ta f H λx d=>mB x λc=>if c=true then Q (.bl true) d else tb f d Q
def Vv{rest:List Expr}(d:PE X a ta)(f:PE X (.BoolOp .And (b::rest) pos) tb):PE X (.BoolOp .And (a::b::rest) pos) (yK ta tb):=by
 have:yK ta tb=Cf ta tb:=by
  funext h H Q;unfold yK Cf;congr 1;funext x g;exact oM x _
 rw[this];exact Pb d f
def Ys{rest:List Expr}(d:PE X a ta)(f:PE X (.BoolOp .Or (b::rest) pos) tb):PE X (.BoolOp .Or (a::b::rest) pos) (Kf ta tb):=by
 have:Kf ta tb=Oz ta tb:=by
  funext h H Q;unfold Kf Oz;congr 1;funext x g;exact oM x _
 rw[this];exact Uj d f
def Vw(d:PE X a ta):PE X (.UnaryOp .USub a pos) (Yd (λx H Q=>mI x λi=>Q (.int (-i)) H) ta):=Us (Pu.imp λx H Q h=>by
 rw[kT]at h;obtain⟨i,rfl,h⟩:=h;exact⟨i,rfl,h⟩) d
def Av(K:W.Frag):R2:=λx y H Q=>mR x λp=>mI y λi=>∃d,SqL K H p d/\∃v,gC d i=some v/\Q v H
def Ej(K:W.Frag):R2:=λx y H Q=>mR x λp=>mI y λi=>∃d,SqT K H p d/\∃v,gC d i=some v/\Q v H
def Qv:R2:=λx y H Q=>mS x λz=>mI y λi=>z.length<=sizeLine/\∃c,gC z.cps.toList i=some c/\Q (.str (tx [c])) H
def Qw:IxR X (Av X.K):=Jo.imp λx y H Q h=>by
 unfold Av at h;rw[cO]at h;obtain⟨p,rfl,h⟩:=h;rw[kT]at h;obtain⟨i,rfl,d,f,v,g,h⟩:=h;exact⟨p,d,i,v,rfl,rfl,f,g,h⟩
def Vx:IxR X (Ej X.K):=Qd.imp λx y H Q h=>by
 unfold Ej at h;rw[cO]at h;obtain⟨p,rfl,h⟩:=h;rw[kT]at h;obtain⟨i,rfl,d,f,v,g,h⟩:=h;exact⟨p,d,i,v,rfl,rfl,f,g,h⟩
def Vy:IxR X Qv:=Qe.imp λx y H Q h=>by
 unfold Qv at h;rw[mQ]at h;obtain⟨z,rfl,h⟩:=h;rw[kT]at h;obtain⟨i,rfl,d,c,f,h⟩:=h;exact⟨z,i,c,rfl,rfl,d,f,h⟩
def Yt{r:R2}(d:IxR X r)(f:PE X a ta)(g:PE X b tb)(h:rO b:=by exact λ_ _=>rfl):PE X (.Subscript a b pos) (zZ r ta tb):=Vc d f g h
def yL(t:TE):TO:=λf H Q=>t f H λx d=>mI x λi=>Q (some i) d
def Qx(h:PE X e te):PO X (some e) (yL te):=by
 have:yL te=Cz te:=by
  funext f H Q;unfold yL Cz;congr 1;funext x d;exact kT x _
 rw[this];exact Jm h
def Qy:V->Option Int->Option Int->Hp->VK->Prop:=λx lo d H Q=>mS x λz=>z.length<=sizeLine/\Q (.str (tx (iG z.cps.toList lo d))) H
def Vz:SlR X Qy:=Qo.imp λx l u H Q h=>by
 unfold Qy at h;rw[mQ]at h;obtain⟨z,rfl,d,h⟩:=h;exact⟨z,rfl,d,h⟩
def Kg(K:W.Frag):V->Option Int->Option Int->Hp->VK->Prop:=λx lo f H Q=>mR x λa=>∃d,SqL K H a d/\∀p,H p=none->Q (.ref p) (aK H p (.lst (iG d lo f)))
def Qz:SlR X (Kg X.K):=Jp.imp λx l u H Q h=>by
 unfold Kg at h;rw[cO]at h;obtain⟨a,rfl,d,f,h⟩:=h;exact⟨a,d,rfl,f,h⟩
def Ra:CallR X (.builtin "len") (λvs H Q=>match vs with|[.str z]=>z.length<=sizeLine/\Q (.int z.length) H|_=>False):=rS.imp λvs H Q h=>by
 split at h
 ·rename_i z;exact⟨z,rfl,h.1,h.2⟩
 ·exact h.elim
def Rb:CallR X (.builtin "len") (λvs H Q=>match vs with|[.ref p]=>∃ys,(SqL X.K H p ys∨SqT X.K H p ys)/\Q (.int ys.length) H|_=>False):=rR.imp λvs H Q h=>by
 split at h
 ·rename_i p;obtain⟨ys,d,h⟩:=h;exact⟨p,ys,rfl,d,h⟩
 ·exact h.elim
def Wa:CallR X (.type "int") (λvs H Q=>match vs with|[.bl k]=>Q (.int (if k then 1 else 0)) H|_=>False):=Ac.imp λvs H Q h=>by
 split at h
 ·rename_i k;exact .inr ⟨k,rfl,h⟩
 ·exact h.elim
end
inductive Kd where|non|bl|int|str|lst|tup|dct
def Kh:Kd->String|.non=>"NoneType"|.bl=>"bool"|.int=>"int"|.str=>"str"|.lst=>"list"|.tup=>"tuple"|.dct=>"dict"
def Kof(H:Hp):V->Kd->Prop
 | .non,.non=>True|.bl _,.bl=>True|.int _,.int=>True|.str _,.str=>True
 | .ref a,.lst=>(∃b,H a=some (.lst b))∨∃o b,H a=some (.frz o (.lst b))
 | .ref a,.tup=>∃b,H a=some (.tup b)
 | .ref a,.dct=>∃c,H a=some (.dK c)
 | _,_=>False
def Wb:Kd->Kd->Bool|.non,.non=>true|.bl,.bl=>true|.int,.int=>true|.int,.bl=>true|.str,.str=>true|.lst,.lst=>true|.tup,.tup=>true|.dct,.dct=>true|_,_=>false
def Wc(K:W.Frag)(a k:Kd):W.kitOne K (.type (Kh k)) (.type (Kh a))=some (Wb a k):=by
 cases a<;>cases k<;>first|rfl|kernel_rfl
def Yu{K:W.Frag}{H:Hp}{x:V}{k:Kd}(h:Kof H x k):kM K H x (.type (Kh k)):=by
  cases x<;>cases k<;>first
    | exact h.elim
    | exact .non
    | exact .bl _
    | exact .int _
    | exact .str _
    | (obtain⟨a,e⟩:=h;exact .tup e)
    | (obtain⟨a,e⟩:=h;exact .dK e)
    | (rcases h with⟨a,e⟩ | ⟨o,a,e⟩
       . exact .lst e
       . exact .frz e)
def Rc(a:Kd):List V->Hp->VK->Prop:=λvs H Q=>match vs with
 | [x,y]=>y=.ty (Kh a)/\∃k,Kof H x k/\Q (.bl (Wb a k)) H
 | _=>False
section
variable {X:Cx}
def Wd(a:Kd):CallR X (.builtin "isinstance") (Rc a):=Ed.imp λvs H Q h=>by
 unfold Rc at h;split at h
 ·rename_i x y;obtain⟨rfl,k,b,h⟩:=h;exact⟨x,_,_,_,rfl,Yu b,Wc X.K a k,h⟩
 ·exact h.elim
variable {e:Expr}{te:TE}{p p2 pos:Pos}{T:Str}
def Re(b:Kd)(te:TE):TE:=λc H Q=>te c H λx a=>∃k,Kof a x k/\Q (.bl (Wb b k)) a
def We(a:Kd)(g:PE X e te)(i:Gl X "isinstance")(j:X.mg "isinstance"=none)(l:Gl X T)(m:X.mg T=none)(n:bootBuiltins T=some (.type (Kh a)))(c:starEach [e,.Name T p2] X.env=(false,eval e X.env)::starEach [.Name T p2] X.env:=by rfl)(o:starEach [.Name T p2] X.env=(false,eval (.Name T p2) X.env)::starEach [] X.env:=by rfl)(r:T≠"__name__":=by decide)(t:(T==("__debug__":Str))=false:=by decide)(u:(backTo pos (starEach [.Name T p2] X.env)).any (·.1)=false:=by rfl) :
  PE X (.Call (.Name "isinstance" p) [e,.Name T p2] [] pos) (Re a te):=by
 have h:=tR (X:=X) (x:="isinstance") (p:=p) (pos:=pos) (Wd a) i j PyProof.Rows.boot_isinstance (rM g (rM (Ip (v:=.ty (Kh a)) (pos:=p2) l m n rfl r t) vT o) c) Zd Zd c u;intro f s d H Q I q;exact h f s d H Q I (by
  show te d H _;have:(λ(x:V) (b:Hp)=>Rc a [x,.ty (Kh a)] b Q)=(λx b=>∃k,Kof b x k/\Q (.bl (Wb a k)) b):=by
   funext x b
   apply propext;constructor
   ·rintro⟨_,z⟩;exact z
   ·intro z;exact⟨rfl,z⟩
  exact this ▸ q)
end
structure aI(P:Program)(w:World)(K:W.Frag)(mg:Z7)(base:Heap)(n:Nat)(x:Str)(ps:List Str)(sp:Sp):Prop where
 ex:∃(f:ZR)(fd:FuncData),iI P w K mg base nN n f fd ps sp/\mg x=some (.ref f)/\W.keepIn K (.ref f)=true/\Binds K fd ps []
section
variable {X:Cx}{n:Nat}{x:Str}{ps:List Str}{sp:Sp}{p pos:Pos}{e:Expr}{es:List Expr}{t:TA}
def Yv(sp:Sp)(t:TA):TE:=λb H Q=>t b H λvs a=>sp vs a Q E0
def Yw(c:aI X.prog X.w X.K X.mg X.base n x ps sp)(g:Room n X.A)(i:Gl X x)(j:PA X (e::es) t)(k:(x==("__debug__":Str))=false:=by decide)(l:starEach (e::es) X.env=(false,eval e X.env)::starEach es X.env:=by rfl)(m:(backTo pos (starEach es X.env)).any (·.1)=false:=by rfl):PE X (.Call (.Name x p) (e::es) [] pos) (Yv sp t):=by
 obtain⟨f,v,F,o,r,u⟩:=c.ex;have h:=Jk (X:=X) (p:=p) (pos:=pos) (E:=E0) F g i o r u (dvs:=[]) .nil yE j k l m;intro d s b H Q I q;exact h d s b H Q I (by
  show t b H _;have:(λ(vs:List V) (a:Hp)=>sp (vs++[]) a Q E0)=(λvs a=>sp vs a Q E0):=by
   funext vs a;rw[append_nil]
  rw[this];exact q)
end
structure DefAt(K:W.Frag)(mg:Z7)(x:Str)(st:Stmt)(ps:List Str):Prop where
 ex:∃(f:ZR)(fd:FuncData),Fun K x x st f fd/\mg x=some (.ref f)/\Binds K fd ps []
def DefAt.ok{P:Program}{w:World}{K:W.Frag}{mg:Z7}{base:Heap}{x:Str}{st:Stmt}{N ps:List Str}{k:Nat}{sp:Sp}(D:DefAt K mg x st ps)(S:aJ N ps (aB st))(len:∀vs H Q E,sp vs H Q E->vs.length=ps.length)(b:∀(f:ZR)(a:ZQ)(A:Around)(outer:List Env)(s:ZP)(H:Hp)(vs:List V)(Q:VK)(E:XK),Room k (A.deeper (envOfC x (aB st) s.heap.objs.size f a))->sp vs H Q E →
   ∃t,PSs (iJ nN P w K mg base N x (aB st) f a A outer s H E).nox (aY st) t/\t {nx:=λ_ c=>Q .non c,rt:=Q } (start N vs) H):aI P w K mg base (k+1) x ps sp:=by
 obtain⟨f,d,F,e,g⟩:=D.ex;exact⟨f,d,F.ok S len (b f),e,F.kp,g⟩
def Ek(a:Scope)(b:List Str)(scope:Scope)(N:List Str)(js:List (Option Nat)):Bool:=
 (scope.kind == .function)&&scope.names.all (λy=>y.2 != .cell)&&scope.names.all (λy=>y.2 != .local||scope.names.lookup y.1==some .local)&&(js.length==N.length)&&
 (List.range js.length).all (λi=>match js[i]? with|some (some j)=>(match N[i]? with|some x=>b[j]? == some x&&scope.names.lookup x==some .free|none=>false)|_=>true)&&
 scope.names.all (λy=>y.2 != .free||a.names.lookup y.1==some .cell||a.names.lookup y.1==some .free)
def CompScope.by{X:Cx}{d:Scope}{N:List Str}{js:List (Option Nat)}(a:Scope)(f:List Str)(g:X.env.scope=a)(h:X.N=f)(ok:Ek a f d N js=true):CompScope X d N js:=by
 unfold Ek at ok;simp only [Bool.and_eq_true]at ok;obtain⟨⟨⟨⟨⟨k,l⟩,m⟩,n⟩,o⟩,p⟩:=ok;refine⟨by simpa using k,λy b=>?_,λy b c=>?_,by simpa using n,λi j e=>?_,λy b c=>?_⟩
 ·have:=all_eq_true.mp l y b;simpa using this
 ·have:=all_eq_true.mp m y b;rw[c]at this;simpa using this
 ·have r:i<js.length:=(Zgs.mp e).1;have:=all_eq_true.mp o i (mem_range.mpr r);rw[e]at this;cases q:N[i]? with
  | none=>simp[q]at this
  | some x=>
   simp only [q,Bool.and_eq_true,beq_iff_eq]at this;exact⟨x,rfl,by rw[h];exact this.1,this.2⟩
 ·have:=all_eq_true.mp p y b;rw[c]at this;have z:(a.names.lookup y.1==some .cell)=true∨(a.names.lookup y.1==some .free)=true:=by simpa using this
  have s:X.env.kindOf y.1=a.names.lookup y.1:=by rw[<- g];rfl
  rw[s];rcases z with z|z
  ·exact .inl (by simpa using z)
  ·exact .inr (by simpa using z)
def aR:Expr->Bool|.Starred _ _=>false|_=>true
def bU{e:Expr}{a:List Expr}{env:Env}(h:aR e=true):starEach (e::a) env=(false,eval e env)::starEach a env:=by
 cases e<;>first|rfl|cases h
def gG{a:List Expr}{env:Env}{pos:Pos}(h:a.all aR=true):(backTo pos (starEach a env)).any (·.1)=false:=by
 induction a with
 | nil=>rfl
 | cons e a b=>
  rw[all_cons,Bool.and_eq_true]at h;rw[bU h.1];have:=b h.2;show(false||(backTo pos (starEach a env)).any (·.1))=false;rw[this];rfl
section
variable {X:Cx}{e o:Expr}{es:List Expr}{te to:TE}{t:TA}{x:Str}{p pos apos cpos:Pos}{id T:String}{r:List V->Hp->VK->Prop}
def El(a:PE X e te)(b:PA X es t)(h:aR e=true:=by rfl):PA X (e::es) (fF te t):=rM a b (bU h)
def Ki(a:CallR X (.builtin id) r)(b:Gl X x)(c:X.mg x=none)(d:bootBuiltins x=some (.builtin id))(f:PA X (e::es) t)(g:x≠"__name__":=by decide)(h:(x==("__debug__":Str))=false:=by decide)(i:aR e=true:=by rfl)(j:es.all aR=true:=by rfl):PE X (.Call (.Name x p) (e::es) [] pos) (Tt r t):=tR a b c d f g h (bU i) (gG j)
def Em(a:CallR X (.type T) r)(b:Gl X x)(c:X.mg x=none)(d:bootBuiltins x=some (.type T))(f:PA X (e::es) t)(g:x≠"__name__":=by decide)(h:(x==("__debug__":Str))=false:=by decide)(i:aR e=true:=by rfl)(j:es.all aR=true:=by rfl):PE X (.Call (.Name x p) (e::es) [] pos) (Tt r t):=Ah a b c d f g h (bU i) (gG j)
def Wf{n:Nat}{ps:List Str}{sp:Sp}(c:aI X.prog X.w X.K X.mg X.base n x ps sp)(a:Room n X.A)(b:Gl X x)(d:PA X (e::es) t)(f:(x==("__debug__":Str))=false:=by decide)(g:aR e=true:=by rfl)(h:es.all aR=true:=by rfl):PE X (.Call (.Name x p) (e::es) [] pos) (Yv sp t):=Yw c a b d f (bU g) (gG h)
def En{es:List Expr}{env:Env}{cpos:Pos}(h:es.all aR=true):(backTo cpos (starEach es env)).all (λx=>!x.1)=true:=by
 induction es with
 | nil=>rfl
 | cons e es a=>
  rw[all_cons,Bool.and_eq_true]at h;rw[bU h.1];show(!false&&(backTo cpos (starEach es env)).all (λx=>!x.1))=true;rw[a h.2];rfl
def Yx{name:Str}{r:V->List V->Hp->VK->Prop}(c:PlainAttrs T)(slot:Slot T name id)(d:typeOf (.builtin id)=pure (.type "method_descriptor"))(f:Tu X id r)(g:PE X o to)(h:PA X (e::es) t)(i:attributeBase o name X.env (eval o X.env)=eval o X.env:=by rfl)(j:(apos.endLine==cpos.line)=true:=by rfl)(a:aR e=true:=by rfl)(b:es.all aR=true:=by rfl)(k:es.length+1<30:=by decide) :
  PE X (.Call (.Attribute o name apos) (e::es) [] cpos) (Xn X.K T r to t):=by
 refine Vd c slot d f g h i ?_ j (bU a) (gG b);rw[En (by rw[all_cons,a,b];rfl)];show(true&&true&&decide (es.length+1+0+0<30))=true;simp;omega
def Rf{b:Pos}{T:Str}(a:Kd)(c:PE X e te)(d:Gl X "isinstance")(f:X.mg "isinstance"=none)(g:Gl X T)(h:X.mg T=none)(i:bootBuiltins T=some (.type (Kh a)))(j:T≠"__name__":=by decide)(k:(T==("__debug__":Str))=false:=by decide)(l:aR e=true:=by rfl):PE X (.Call (.Name "isinstance" p) [e,.Name T b] [] pos) (Re a te):=
 We a c d f g h i (bU l) (bU rfl) j k (gG rfl)
end
def cE:bootBuiltins "len"=some (.builtin "len"):=by decide +kernel
def Eo:bootBuiltins "all"=some (.builtin "all"):=by decide +kernel
def Rg:bootBuiltins "sum"=some (.builtin "sum"):=by decide +kernel
def qL:bootBuiltins "sorted"=some (.builtin "sorted"):=by decide +kernel
def Rh:bootBuiltins "max"=some (.builtin "max"):=by decide +kernel
def wI:bootBuiltins "min"=some (.builtin "min"):=by decide +kernel
def yM:bootBuiltins "list"=some (.type "list"):=by decide +kernel
def lX:bootBuiltins "str"=some (.type "str"):=by decide +kernel
def jX:bootBuiltins "int"=some (.type "int"):=by decide +kernel
def yN:bootBuiltins "bool"=some (.type "bool"):=by decide +kernel
def uA:bootBuiltins "tuple"=some (.type "tuple"):=by decide +kernel
def yO:bootBuiltins "dict"=some (.type "dict"):=by decide +kernel
structure Dk(H:Hp)(d b:ZR):Prop where
 ex:∃(ns:List Int)(s k:Int),H d=some (.lst [.ref b,.int s,.int k])/\H b=some (.lst (ns.map V.int))/\ns.length<=63
def Kp(d b:ZR)(H a:Hp):Prop:=∀c o,H c=some o->c≠d->c≠b->a c=some o
def Kp.refl{d b:ZR}{H:Hp}:Kp d b H H:=λ_ _ e _ _=>e
def Kp.trans{d b:ZR}{H a f:Hp}(x:Kp d b H a)(y:Kp d b a f):Kp d b H f:=λc o e g h=>y c o (x c o e g h) g h
def Kp.new{d b p:ZR}{H:Hp}{o:HO}(h:H p=none):Kp d b H (aK H p o):=λc u e _ _=>by rw[aF (aD e h)];exact e
def Dk.new{d b p:ZR}{H:Hp}{o:HO}(x:Dk H d b)(h:H p=none):Dk (aK H p o) d b:=by
 obtain⟨e,s,k,a,c,f⟩:=x.ex;exact⟨e,s,k,by rw[aF (aD a h)];exact a,by rw[aF (aD c h)];exact c,f⟩
def Ep(K:W.Frag):Sp:=λvs H Q _=>∃(a:ZR)(e:List Int),vs=[.ref a]/\SqL K H a (e.map V.int)/\∀d b c,H d=none->H b=none->Dk c d b->Same H c->Q (.ref d) c
end L2
namespace L2
def Yy{c:Bool}{A B:Prop}(h:c=true)(k:A):if c=true then A else B:=by rw[ZO h];exact k
def Yz{c:Bool}{A B:Prop}(h:c=false)(k:B):if c=true then A else B:=by rw[ZN (by rw[h];exact ZX)];exact k
def cP{c:Bool}{A B:Prop}(a:c=true->A)(b:c=false->B):if c=true then A else B:=by
 cases h:c with
 | true=>rw[ZO rfl];exact a h
 | false=>rw[ZN ZX];exact b h
open PySem PySem.Spec PyProof.Rows
structure uB(J:It)(xs:List V)(A:Hp->Prop):Prop where
 go:∀i H,i<xs.length->A H->J.go i H
 yld:∀i H x H',i<xs.length->A H->J.yld i H x H'->H'=H/\xs[i]?=some x
 stop:∀H,A H->J.stop xs.length H
def qM(x:Str):List V:=x.cps.toList.map λc=>V.str (tx [c])
def Kj(x:Str):uB (Xp x) (qM x) (λ_=>True):=by
 have a:(qM x).length=x.cps.size:=by simp[qM]
 refine⟨λi H b _=>by rw[a]at b;exact b,λi H v g _ _ ⟨e,c,d,f⟩=>⟨e,?_⟩,λH _=>by rw[a];exact bQ _⟩;subst f;unfold qM;rw[fB,Array.getElem?_toList,d];rfl
def iM(lo:Int)(n:Nat):List V:=(List.range n).map λ(i:Nat)=>V.int (lo+(i:Int))
def fE(lo:Int)(n:Nat):uB (Xl lo n) (iM lo n) (λ_=>True):=by
 have b:(iM lo n).length=n:=by simp[iM]
 refine⟨λi H a _=>by rw[b]at a;exact a,λi H v d a _ ⟨e,c⟩=>⟨e,?_⟩,λH _=>by rw[b];exact bQ _⟩;subst c;rw[b]at a;unfold iM;rw[fB,List.getElem?_range a];rfl
def bI(K:W.Frag)(a:ZR)(xs:List V):uB (Up K a) xs (λH=>SqL K H a xs):=
 ⟨λi H b h=>⟨xs,xs[i],h,by simp[b]⟩,λi H x c _ h ⟨e,y⟩=>⟨e,y xs h⟩,λH h=>⟨xs,h,bQ _⟩⟩
def kU(K:W.Frag)(a:ZR)(xs:List V):uB (Yc K a) xs (λH=>SqT K H a xs):=
 ⟨λi H b h=>⟨xs,xs[i],h,by simp[b]⟩,λi H x c _ h ⟨e,y⟩=>⟨e,y xs h⟩,λH h=>⟨xs,h,bQ _⟩⟩
def bO{J:It}{xs:List V}{A:Hp->Prop}{js:List (Option Nat)}{g:TG}{h:TT}{j:TE}{l:St}{H:Hp}{Q:List V->Hp->Prop}(S:uB J xs A)(hz:xs.length<=100000)(Pv:Nat->List V->Hp->Prop)(n:∀i ys H,Pv i ys H->A H/\ys.length<=i)(o:Pv 0 [] H)(q:∀i x ys H,xs[i]?=some x->Pv i ys H->g x (vH js l) H λf r=>h f r λb k=>if b=true then j f k λy s=>Pv (i+1) (ys++[y]) s else Pv (i+1) ys k)(t:∀ys H,Pv xs.length ys H->Q ys H):oJ js g h j l J H Q:=by
 refine⟨λi m ys H=>m=xs.length-i/\i<=xs.length/\Pv i ys H,⟨xs.length,Zs,zero_le _,o⟩,?_⟩;rintro i m ys H ⟨rfl,w,p⟩;obtain⟨a,z⟩:=n i ys H p;by_cases c:i<xs.length
 ·refine .inr ⟨S.go i H c a,jQ (m:=100000) Zo Zd,Pv (i+1),λB d u=>⟨xs.length-(i+1),Zo,rfl,c,u⟩,λx d y=>?_⟩;obtain⟨rfl,v⟩:=S.yld i H x d c a y;exact q i x ys d v p
 ·have e:i=xs.length:=by omega
  subst e;exact .inl ⟨S.stop H a,t ys H p⟩
def Aw{J:It}{xs:List V}{A:Hp->Prop}{js:List (Option Nat)}{g:TG}{l:TT}{m:TE}{o:St}{H:Hp}{Q:List V->Hp->Prop}(S:uB J xs A)(hz:xs.length<=100000)(p:V->Bool)(f:V->V)(q:A H)(r:∀(x:V)(ys:List V)(N:List V->Hp->Prop),x∈xs->(p x=true->N (ys++[f x]) H)->(p x=false->N ys H)->g x (vH js o) H λj s=>l j s λb d=>if b=true then m j d λy t=>N (ys++[y]) t else N ys d)(u:Q ((xs.filter p).map f) H):oJ js g l m o J H Q:=by
 refine bO S hz (λi ys a=>ys=((xs.take i).filter p).map f/\a=H) (λi ys a ⟨e,c⟩=>⟨by rw[c];exact q,?_⟩) ⟨Zs,rfl⟩ (?_) (?_)
 ·rw[e,bF];exact hZ (length_filter_le _ _) (by rw[vK];exact Nat.min_le_left _ _)
 ·rintro i x ys a n ⟨e,c⟩;subst c;have k:(xs.take (i+1)).filter p=(xs.take i).filter p++(if p x=true then [x] else []):=take_succ_filter p xs i x n;refine r x ys (λv d=>v=((xs.take (i+1)).filter p).map f/\d=a) (dB n) (λh=>⟨?_,rfl⟩) (λh=>⟨?_,rfl⟩)
  ·rw[k,ZO h,gO,e];rfl
  ·rw[k,ZN (by rw[h];exact ZX),append_nil,e]
 ·rintro ys a ⟨e,c⟩;subst c;rw[e,nT (bQ _)];exact u
def cF{J:It}{xs:List V}{A:Hp->Prop}{g:TG}{k:TS}{D:lQ}{a:St}{H:Hp}(S:uB J xs A)(Pv:Nat->St->Hp->Prop)(n:∀i a H,Pv i a H->A H)(o:Pv 0 a H)(q:∀(i:Nat)(x:V) a H,xs[i]?=some x->Pv i a H->g x a H λc f=>k {D with nx:=Pv (i+1),ct:=Pv (i+1),bk:=D.nx } c f)(r:∀ a H,Pv xs.length a H->D.nx a H) :
  ∃W:Nat->Nat->St->Hp->Prop,(∃m,W 0 m a H)/\∀i m a H,W i m a H →
   (J.stop i H/\D.nx a H)∨(J.go i H/\∃N:St->Hp->Prop,(∀ d b,N d b->∃l,l<m/\W (i+1) l d b)/\∀x b,J.yld i H x b->g x a b λc f=>k {D with nx:=N,ct:=N,bk:=D.nx } c f):=by
 refine⟨λi m a H=>m=xs.length-i/\i<=xs.length/\Pv i a H,⟨xs.length,Zs,zero_le _,o⟩,?_⟩;rintro i m a H ⟨rfl,u,p⟩;have h:=n i a H p;by_cases j:i<xs.length
 ·refine .inr ⟨S.go i H j h,Pv (i+1),λd b s=>⟨xs.length-(i+1),Zo,rfl,j,s⟩,λx b y=>?_⟩;obtain⟨rfl,t⟩:=S.yld i H x b j h y;exact q i x a b t p
 ·have e:i=xs.length:=by omega
  subst e;exact .inl ⟨S.stop H h,r a H p⟩
end L2
namespace L2
open PySem
def aH{H:Hp}{p:ZR}{o:HO}(h:H p=none):Same H (aK H p o):=λb u q=>by rw[aF (aD q h)];exact q
def wJ{a:Type}(xs:List a)(k:Nat):iG xs none (some (k:Int))=xs.take k:=by
 unfold iG;rw[HT.sIx_none,HT.sIx_nat,drop_zero,Nat.sub_zero,<- List.take_take,nT (bQ _)]
def Kk{b c:Type}(f:b->c)(xs:List b)(lo a:Option Int):iG (xs.map f) lo a=(iG xs lo a).map f:=by
 unfold iG;rw[bF,<- List.map_drop,<- List.map_take]
open PySem PySem.Spec PyProof.Rows
def bH{H:Hp}{p q:ZR}{o u:HO}(h:H p=some o)(a:H q=none):aK H q u p=some o:=by rw[aF (aD h a)];exact h
def kW{c:Type}{xs:List c}{i:Int}(b:0<=i)(d:i<xs.length):∃v,gC xs i=some v/\v∈xs:=by
 obtain⟨j,rfl⟩:=Int.eq_ofNat_of_zero_le b;have a:j<xs.length:=by omega
 exact⟨xs[j],cV (by simp[a]),getElem_mem a⟩
theorem yP(g:Array Nat):∀(ps:List Str)(a:Array Nat),(ps.foldl (λa p=>a++g++p.cps) a).toList=a.toList++(ps.map λp=>g.toList++p.cps.toList).flatten
 | [],a=>by simp
 | p::ps,a=>by
  rw[List.foldl_cons,yP g ps];simp
def Er(ps:List Str):(Txt.join (tx []) ps).cps.toList=(ps.map λp=>p.cps.toList).flatten:=by
 unfold Txt.join Builtin.Str.glued;rw[yP];cases ps with
 | nil=>simp[Str.empty]
 | cons p ps=>simp
def Kl(ps:List Str):Txt.join (tx []) ps=tx (ps.map λp=>p.cps.toList).flatten:=by rw[<- Er,wE]
def wK(a:List Nat):Txt.join (tx []) (a.map λc=>tx [c])=tx a:=by
 rw[Kl,map_map];congr 1
 congr 1
 induction a with
 | nil=>rfl
 | cons c r b=>rw[map_cons,List.flatten_cons,b];rfl
def Es:("":Str)=tx []:=by decide +kernel
end L2
namespace L2
open PySem
def Dk.ne{H:Hp}{d b p:ZR}(x:Dk H d b)(h:H p=none):p≠d/\p≠b:=by
 obtain⟨e,s,k,a,c,f⟩:=x.ex;exact⟨(aD a h).symm,(aD c h).symm⟩
def oN(x:Str):x=tx x.cps.toList:=(wE x).symm
end L2
namespace L2
open PySem
theorem uC:∀a:List Nat,((a.map λc=>tx [c]).map (·.length)).sum=a.length
 | []=>rfl
 | c::a=>by
  rw[map_cons,map_cons,List.sum_cons,uC a,vG];show 1+a.length=_;omega
end L2
namespace L2
open PySem
def Ri{t:TS}{D:lQ}{c:St}{H:Hp}(R:St->Hp->Prop)(h:∀nx:St->Hp->Prop,(∀ a b,R a b->nx a b)->t {D with nx:=nx } c H)(d:∀ a b,R a b->D.nx a b):t D c H:=h D.nx d
def Kof.same{H b:Hp}{x:V}{k:Kd}(s:Same H b)(h:Kof H x k):Kof b x k:=by
  cases x<;>cases k<;>first
    | exact h
    | (obtain⟨a,e⟩:=h;exact⟨a,s _ _ e⟩)
    | (rcases h with⟨a,e⟩ | ⟨o,a,e⟩
       . exact .inl ⟨a,s _ _ e⟩
       . exact .inr ⟨o,a,s _ _ e⟩)
def Dk.same{H a:Hp}{d b:ZR}(s:Same H a)(h:Dk H d b):Dk a d b:=by
 obtain⟨c,e,k,f,g,i⟩:=h.ex;exact⟨c,e,k,s _ _ f,s _ _ g,i⟩
open PySem PySem.Spec PyProof.Rows
structure XE(X:Cx)(e:Expr)(t:TE):Prop where
 h:PE X e t
structure XT(X:Cx)(e:Expr)(t:TT):Prop where
 h:PT X e t
structure XW(X:Cx)(e:Expr)(t:TT):Prop where
 h:PW X e t
structure XA(X:Cx)(es:List Expr)(t:TA):Prop where
 h:PA X es t
structure XS(X:Cx)(st:Stmt)(t:TS):Prop where
 h:PS X st t
structure XB(X:Cx)(st:List Stmt)(t:TS):Prop where
 h:PSs X st t
structure XI(X:Cx)(tg iter:Expr)(t:TI):Prop where
 h:PI X tg iter t
structure XG(X:Cx)(e:Expr)(t:TG):Prop where
 h:PG X e t
structure Wg(X:Cx)(es:List Expr)(t:xT):Prop where
 h:Um X es t
structure XO(X:Cx)(e:Option Expr)(t:TO):Prop where
 h:PO X e t
structure Xq(X:Cx)(cs:List Expr)(t:TT):Prop where
 h:Ty X cs t
structure Rj(X:Cx)(t:zV):Prop where
 h:Ix X t
structure gA(X:Cx)(f:ZQ->ZQ->Sem Value)(r:R2):Prop where
 h:OpR X f r
structure Rk(X:Cx)(r:R2):Prop where
 h:IxR X r
structure Wh(X:Cx)(r:V->Option Int->Option Int->Hp->VK->Prop):Prop where
 h:SlR X r
structure XC(X:Cx)(f:ZQ)(r:List V->Hp->VK->Prop):Prop where
 h:CallR X f r
structure XM(X:Cx)(id:String)(r:V->List V->Hp->VK->Prop):Prop where
 h:Tu X id r
namespace R
section
variable {X:Cx}{a b c e o i:Expr}{es rest:List Expr}{ta tb tc te to ti:TE}{tA uo:TT}{t u:TA}{pos p p2 apos cpos pos':Pos}{x:Str}{n:Nat}{r r':R2}
def v(i:Nat){x:Str}{pos:Pos}(d:X.N[i]?=some x:=by rfl)(f:Oo X.env.scope x:=by first|exact Or.inl rfl|exact Or.inr (Or.inl rfl)|exact Or.inr (Or.inr rfl))(g:(x==("__debug__":Str))=false:=by decide)(h:(x==("__classdict__":Str))=false:=by decide):XE X (.Name x pos) (vr i):=⟨xv i d f g h⟩
def int{i j pos}:XE X (.Constant (.int i) j pos) (tC (.int i)):=⟨Os⟩
def bl{b j pos}:XE X (.Constant (.bool b) j pos) (tC (.bl b)):=⟨Uf⟩
def bp{j pos}:XE X (.Constant .none j pos) (tC .non):=⟨Ot⟩
def ah{x j pos}:XE X (.Constant (.str x) j pos) (tC (.str x)):=⟨Ou⟩
def gS{z:Str}(f:Gl X x)(d:∃t,X.mg x=some (.str z t))(g:(x==("__debug__":Str))=false:=by decide):XE X (.Name x pos) (tC (.str z)):=by
 obtain⟨t,d⟩:=d;exact⟨rG f d ⟨t,rfl⟩ g⟩
def gI{z:Int}(f:Gl X x)(d:∃t,X.mg x=some (.int z t))(g:(x==("__debug__":Str))=false:=by decide):XE X (.Name x pos) (tC (.int z)):=by
 obtain⟨t,d⟩:=d;exact⟨rG f d ⟨t,rfl⟩ g⟩
def gR{a:ZR}(d:Gl X x)(f:X.mg x=some (.ref a))(g:(x==("__debug__":Str))=false:=by decide):XE X (.Name x pos) (tC (.ref a)):=⟨rG d f rfl g⟩
def op{op:Operator}(d:gA X (binaryOp op) r)(f:XE X a ta)(g:XE X b tb):XE X (.BinOp a op b pos) (zZ r ta tb):=⟨Ur d.h f.h g.h⟩
def ax:gA X (binaryOp .Add) (wH λi j=>.int (i+j)):=⟨Vl⟩
def db:gA X (binaryOp .Sub) (wH λi j=>.int (i-j)):=⟨Vm⟩
def dw:gA X (binaryOp .Mult) (m2 CMul λi j=>.int (i*j)):=⟨Vn⟩
def cp:gA X (binaryOp .Mod) (m2 (λ_ j=>0<j) λi j=>.int (i%j)):=⟨Vo⟩
def cq:gA X (binaryOp .Pow) (m2 Pn λi j=>.int (i^j.toNat)):=⟨Vp⟩
def cj:gA X (binaryOp .Add) Ei:=⟨Qr⟩
def lt:gA X (compareOp .Lt) (wH λi j=>.bl (decide (i<j))):=⟨Ym⟩
def le:gA X (compareOp .LtE) (wH λi j=>.bl (decide (i<=j))):=⟨Yn⟩
def gt:gA X (compareOp .Gt) (wH λi j=>.bl (decide (j<i))):=⟨Yo⟩
def ge:gA X (compareOp .GtE) (wH λi j=>.bl (decide (j<=i))):=⟨Yp⟩
def eq:gA X (compareOp .Eq) Zz:=⟨Yq⟩
def ne:gA X (compareOp .NotEq) mNe:=⟨Yr⟩
def jr:gA X (compareOp .In) (Qs false):=⟨Vq⟩
def inQ:gA X (compareOp .In) (Tv X.K false):=⟨Aj⟩
def notInQ:gA X (compareOp .NotIn) (Tv X.K true):=⟨rQ⟩
def gi:gA X (compareOp .Is) (λx y H Q=>match y with|.non=>Q (.bl (decide (x=.non))) H|_=>False):=⟨Vr⟩
def jn:gA X (compareOp .IsNot) (λx y H Q=>match y with|.non=>Q (.bl (!decide (x=.non))) H|_=>False):=⟨Qt⟩
def eqNil(d:X.A.units<cLine):gA X (compareOp .Eq) (lV X.K false):=⟨Eg d⟩
def neNil(d:X.A.units<cLine):gA X (compareOp .NotEq) (lV X.K true):=⟨Eh d⟩
def be{op:CmpOp}(d:gA X (compareOp op) r)(f:XE X a ta)(g:XE X b tb)(h:behindInMarks op b=false:=by first|exact rJ _|rfl):XE X (.Compare a [op] [b] pos) (zZ r ta tb):=⟨Vt d.h f.h g.h h⟩
def aq{op:CmpOp}(d:gA X (compareOp op) r)(f:XE X a ta)(g:XE X b tb)(h:behindInMarks op b=false:=by first|exact rJ _|rfl):XT X (.Compare a [op] [b] pos) (mT (zZ r ta tb)):=⟨Vs d.h f.h g.h h⟩
def jt{op d:CmpOp}(f:gA X (compareOp op) r)(g:gA X (compareOp d) r')(h:XE X a ta)(j:XE X b tb)(k:XE X c tc)(l:lastMarks [op,d] [b,c]=false:=by with_unfolding_all rfl):XE X (.Compare a [op,d] [b,c] pos) (lW r r' ta tb tc):=⟨Kc f.h g.h h.h j.h k.h l⟩
def jq{op d:CmpOp}(f:gA X (compareOp op) r)(g:gA X (compareOp d) r')(h:XE X a ta)(j:XE X b tb)(k:XE X c tc)(l:lastMarks [op,d] [b,c]=false:=by with_unfolding_all rfl):XT X (.Compare a [op,d] [b,c] pos) (mT (lW r r' ta tb tc)):=⟨Ke f.h g.h h.h j.h k.h l⟩
def bh(d:XE X a ta):XE X (.UnaryOp .USub a pos) (Yd (λx H Q=>mI x λi=>Q (.int (-i)) H) ta):=⟨Vw d.h⟩
def bc{t:TE}(h:XE X e t)(d:∀whole,isTrue e X.env whole=(do let v←whole;standAt e.pos;holding [v] (truthy v)):=by intro _;rfl):XT X e (mT t):=⟨Vu h.h d⟩
def bn(d:XT X a tA):XT X (.UnaryOp .Not a pos) (Uh tA):=⟨Oy d.h⟩
def dl(d:XT X a tA):XW X (.BoolOp .And [a] pos) tA:=⟨Iq d.h⟩
def cz(d:XT X a tA):XW X (.BoolOp .Or [a] pos) tA:=⟨Ow d.h⟩
def cv(d:XT X a tA)(f:XW X (.BoolOp .And (b::rest) pos) uo):XW X (.BoolOp .And (a::b::rest) pos) (Ug tA uo):=⟨Ox d.h f.h⟩
def cx(d:XT X a tA)(f:XW X (.BoolOp .Or (b::rest) pos) uo):XW X (.BoolOp .Or (a::b::rest) pos) (Zr tA uo):=⟨Ui d.h f.h⟩
def tw(h:XW X e tA):XT X e tA:=⟨h.h.pt⟩
def fo{op}(h:XE X a ta):XE X (.BoolOp op [a] pos) ta:=⟨Pa h.h⟩
def je(d:XE X a ta)(f:XE X (.BoolOp .And (b::rest) pos) tb):XE X (.BoolOp .And (a::b::rest) pos) (yK ta tb):=⟨Vv d.h f.h⟩
def or(d:XE X a ta)(f:XE X (.BoolOp .Or (b::rest) pos) tb):XE X (.BoolOp .Or (a::b::rest) pos) (Kf ta tb):=⟨Ys d.h f.h⟩
def kh(d:XT X c tA)(f:XE X a ta)(g:XE X b tb):XE X (.IfExp c a b pos) (Zt tA ta tb):=⟨Cg d.h f.h g.h⟩
def ix(d:Rk X r)(f:XE X a ta)(g:XE X b tb)(h:rO b:=by exact λ_ _=>rfl):XE X (.Subscript a b pos) (zZ r ta tb):=⟨Yt d.h f.h g.h h⟩
def iL:Rk X (Av X.K):=⟨Qw⟩
def iT:Rk X (Ej X.K):=⟨Vx⟩
def iS:Rk X Qv:=⟨Vy⟩
def pn:XO X none xZ:=⟨Jl⟩
def ps(h:XE X e te):XO X (some e) (yL te):=⟨Qx h.h⟩
def sl{r:V->Option Int->Option Int->Hp->VK->Prop}{lo d:Option Expr}{f g:TO}(h:Wh X r)(j:XE X e te)(k:XO X lo f)(l:XO X d g):XE X (.Subscript e (.Slice lo d none p2) pos) (Zx r te f g):=⟨Dc h.h j.h k.h l.h⟩
def sS:Wh X Qy:=⟨Vz⟩
def sL:Wh X (Kg X.K):=⟨Qz⟩
def ad:XA X [] jR:=⟨vT⟩
def ab(d:XE X e te)(f:XA X es t)(h:aR e=true:=by rfl):XA X (e::es) (fF te t):=⟨El d.h f.h h⟩
def ie{d}(h:XA X es t):XE X (.Tuple es d pos) (Uz t):=⟨Pz h.h⟩
def aw(h:XA X es t):XE X (.List es pos) (Py t):=⟨Qa h.h⟩
def az{id:String}{r:List V->Hp->VK->Prop}(d:XC X (.builtin id) r)(f:Gl X x)(g:X.mg x=none)(h:bootBuiltins x=some (.builtin id))(j:XA X (e::es) t)(k:x≠"__name__":=by decide)(l:(x==("__debug__":Str))=false:=by decide)(m:aR e=true:=by rfl)(q:es.all aR=true:=by rfl):XE X (.Call (.Name x p) (e::es) [] pos) (Tt r t):=⟨Ki d.h f g h j.h k l m q⟩
def bw{T:String}{r:List V->Hp->VK->Prop}(d:XC X (.type T) r)(f:Gl X x)(g:X.mg x=none)(h:bootBuiltins x=some (.type T))(j:XA X (e::es) t)(k:x≠"__name__":=by decide)(l:(x==("__debug__":Str))=false:=by decide)(m:aR e=true:=by rfl)(q:es.all aR=true:=by rfl):XE X (.Call (.Name x p) (e::es) [] pos) (Tt r t):=⟨Em d.h f g h j.h k l m q⟩
def fm:XC X (.builtin "len") (λvs H Q=>match vs with|[.str z]=>z.length<=sizeLine/\Q (.int z.length) H|_=>False):=⟨Ra⟩
def lenL:XC X (.builtin "len") (λvs H Q=>match vs with|[.ref p]=>∃ys,(SqL X.K H p ys∨SqT X.K H p ys)/\Q (.int ys.length) H|_=>False):=⟨Rb⟩
def dz:XC X (.type "int") (λvs H Q=>match vs with|[.bl k]=>Q (.int (if k then 1 else 0)) H|_=>False):=⟨Wa⟩
def all(d:X.calm=true):XC X (.builtin "all") (Qp X.K):=⟨Ee d⟩
def sum(d:X.calm=true):XC X (.builtin "sum") (Qq X.K):=⟨Ef d⟩
def fn{n d:Nat}{ps:List Str}{sp:Sp}(c:aI X.prog X.w X.K X.mg X.base n x ps sp)(f:Room d X.A)(g:Gl X x)(h:XA X (e::es) t)(j:(x==("__debug__":Str))=false:=by decide)(k:aR e=true:=by rfl)(l:es.all aR=true:=by rfl)(m:n<=d:=by decide):XE X (.Call (.Name x p) (e::es) [] pos) (Yv sp t):=⟨Wf c (f.mono m) g h.h j k l⟩
def bm{T id:String}{name:Str}{r:V->List V->Hp->VK->Prop}(d:PlainAttrs T)(slot:Slot T name id)(f:typeOf (.builtin id)=pure (.type "method_descriptor"))(g:XM X id r)(h:XE X o to)(j:XA X (e::es) t)(k:attributeBase o name X.env (eval o X.env)=eval o X.env:=by rfl)(l:(apos.endLine==cpos.line)=true:=by rfl)(m:aR e=true:=by rfl)(q:es.all aR=true:=by rfl)(s:es.length+1<30:=by decide) :
  XE X (.Call (.Attribute o name apos) (e::es) [] cpos) (Xn X.K T r to t):=⟨Yx d slot f g.h h.h j.h k l m q s⟩
def dj:XM X "list.append" yB:=⟨Ak⟩
def jx:XM X "list.pop" Dl:=⟨Dm⟩
def join:XM X "str.join" (Ec X.K):=⟨Kb⟩
def dh{T:Str}(d:Kd)(f:XE X e te)(g:Gl X "isinstance")(h:X.mg "isinstance"=none)(j:Gl X T)(k:X.mg T=none)(l:bootBuiltins T=some (.type (Kh d)))(m:T≠"__name__":=by decide)(q:(T==("__debug__":Str))=false:=by decide)(s:aR e=true:=by rfl):XE X (.Call (.Name "isinstance" p) [e,.Name T p2] [] pos) (Re d te):=⟨Rf d f.h g h j k l m q s⟩
def dr:XE X (.Dict [] [] pos) (rW):=⟨Dp⟩
variable {tg:Expr}
def wL(d:XE X e te):XI X tg e (Cn X.K te):=⟨Jb d.h⟩
def wT(d:XE X e te):XI X tg e (Pi X.K te):=⟨Pj d.h⟩
def wS(d:XE X e te):XI X tg e (Vj te):=⟨Qn d.h⟩
def dm(d:Gl X "range")(f:X.mg "range"=none)(g:XA X [a] t)(h:aR a=true:=by rfl):XI X tg (.Call (.Name "range" p) [a] [] pos) (Nf t):=⟨zX d f g.h (bU h)⟩
def gn{i:Nat}(d:X.N.Nodup)(f:X.N[i]?=some x:=by rfl)(g:Nb X.env.scope x:=by first|exact Or.inl rfl|exact Or.inr rfl)(h:X.fn x=true∨X.env.scope.names.lookup x=some .local:=by first|exact .inl rfl|exact .inr rfl|assumption):XG X (.Name x pos) (aL i):=⟨Iy d f g h⟩
def cg:Wg X [] Iz:=⟨Ja⟩
def ay{d:TG}{f:xT}(g:XG X e d)(h:Wg X es f)(j:(assignEach (e::es) X.env).map (·.2)=assign e X.env::(assignEach es X.env).map (·.2):=by rfl):Wg X (e::es) (tP d f):=⟨Ci g.h h.h j⟩
def gt'{k:Nat}{d:xT}(f:X.calm=true)(h:Wg X es d)(g:(assignEach es X.env).length=n:=by rfl)(j:(assignEach es X.env).findIdx? (·.1)=none:=by rfl):XG X (.Tuple es k pos) (Cj X.K n d):=⟨Pe f h.h g j⟩
def ic:Rj X Nk:=⟨Dg⟩
def bi{g:zV}(h:XE X o to)(j:XE X i ti)(k:Rj X g)(l:∀v,assign (.Subscript o i pos) X.env v=(do
   let d←holding [v] (eval o X.env)
   let f←holding [v,d] (eval i X.env)
   standAt pos
   holding [v,d,f] (setItem d f v)
   release [v,d,f] []):=by intro _;rfl):XG X (.Subscript o i pos) (Uo to ti g):=⟨Pf h.h j.h k.h l⟩
end
section
variable {X:Cx}{c e tg iter elt:Expr}{ifs:List Expr}{te:TE}{tc tt:TT}{g:TG}{wi:TI}{st:Stmt}{ss sa sb:List Stmt}{t u:TS}{pos pos' qd py:Pos}{x y:Str}{scope:Scope}{N:List Str}{js:List (Option Nat)}
def ci:Xq X [] yI:=⟨Jv⟩
def dy(h:XT X c tt)(a:X.xe=λ_ _=>False:=by rfl):Xq X [c] tt:=⟨Jw h.h a⟩
def bv(h:X.calm=true)(S:CompScope X scope N js)(go:wB js g)(i:XI X tg iter wi)(j:∀(C:ZR)(d:ZP)(f:Hp)(fp:List ZR),XG (lO X scope C N d f fp) tg g/\Xq (lO X scope C N d f fp) ifs tt/\XE (lO X scope C N d f fp) elt te)(k:∀x,foldedSetIterable iter X.env x=pure x:=by intro _;rfl):XE X (.ListComp elt [⟨tg,iter,ifs,0⟩] scope pos) (No wi js g tt te):=
 ⟨Jx h S go i.h (λC d f fp=>let ⟨a,b,c⟩:=j C d f fp;⟨a.h,b.h,c.h⟩) k⟩
def ig{i:Nat}(h:X.N.Nodup)(j:X.N[i]?=some y)(k:Nb X.env.scope y)(l:X.calm=true)(S:CompScope X scope N js)(go:wB js g)(m:XI X tg iter wi)(n:∀(C:ZR)(d:ZP)(f:Hp)(fp:List ZR),XG (lO X scope C N d f fp) tg g/\Xq (lO X scope C N d f fp) ifs tt/\XE (lO X scope C N d f fp) elt te)(o:swapsWith (.ListComp elt [⟨tg,iter,ifs,0⟩] scope pos) (some (.Name y py)) qd.line X.env=pure true)(p:∀x,foldedSetIterable iter X.env x=pure x:=by intro _;rfl)(q:X.fn y=true∨X.env.scope.names.lookup y=some .local:=by first|exact .inl rfl|exact .inr rfl|assumption) :
  XS X (.Assign [.Name y py] (.ListComp elt [⟨tg,iter,ifs,0⟩] scope pos) qd) (Np i wi js g tt te):=
 ⟨Jy h j k l S go m.h (λC d f fp=>let ⟨a,b,c⟩:=n C d f fp;⟨a.h,b.h,c.h⟩) o p q⟩
def av:XB X [] iH:=⟨Ir⟩
def ai(a:XS X st t):XB X [st] t:=⟨Iu a.h⟩
def ag(a:XS X st t)(b:XB X ss u):XB X (st::ss) (vL t u):=⟨Ch a.h b.h⟩
def ar(a:XE X e te):XS X (.Return (some e) pos) (Uk te):=⟨Pd a.h⟩
def kg:XS X (.Return none pos) Nd:=⟨Iw⟩
def ba(a:XE X e te)(b:swapsWith e none pos.line X.env=pure false:=by rfl):XS X (.Expr e pos) (Nc te):=⟨Iv a.h b⟩
def au(a:XT X c tc)(b:XB X sa t)(d:XB X sb u):XS X (.If c sa sb pos) (zU tc t u):=⟨Ul a.h b.h d.h⟩
def ap{i:Nat}(a:X.N.Nodup)(b:XE X e te)(d:X.N[i]?=some x:=by rfl)(f:Nb X.env.scope x:=by first|exact Or.inl rfl|exact Or.inr rfl)(h:swapsWith e (some (.Name x pos')) pos.line X.env=pure false:=by rfl)(j:X.fn x=true∨X.env.scope.names.lookup x=some .local:=by first|exact .inl rfl|exact .inr rfl|assumption):XS X (.Assign [.Name x pos'] e pos) (Ck te (aL i)):=⟨Ph a d f b.h h j⟩
def bg(a:XE X e te)(b:XG X tg g)(d:swapsWithSole [tg] e pos.line X.env=pure false:=by rfl)(f:swappedStores [tg] e X.env=pure none:=by rfl)(h:(assignEach [tg] X.env).map (·.2)=[assign tg X.env]:=by rfl) :
  XS X (.Assign [tg] e pos) (Ck te g):=⟨Pg a.h b.h d f h⟩
def bo(a:PassesOwn (model X.prog X.w) X.A X.env X.xe)(b:X.calm=true)(d:XI X tg iter wi)(f:XG X tg g)(h:XB X ss t)(i:∀x,foldedSetIterable iter X.env x=pure x:=by intro _;rfl):XS X (.For tg iter ss [] pos) (Uq wi g t):=⟨Pk a b d.h f.h h.h i⟩
def fq(a:PassesOwn (model X.prog X.w) X.A X.env X.xe)(b:XT X c tc)(d:XB X ss t):XS X (.While c ss [] pos) (Cl tc t):=⟨Cm a b.h d.h⟩
end
end R
def DefAt.go{P:Program}{w:World}{K:W.Frag}{mg:Z7}{base:Heap}{x:Str}{st:Stmt}{N ps:List Str}{k:Nat}{sp:Sp}(D:DefAt K mg x st ps)(S:aJ N ps (aB st))(len:∀vs H Q E,sp vs H Q E->vs.length=ps.length)(b:∀(f:ZR)(a:ZQ)(A:Around)(outer:List Env)(s:ZP)(H:Hp)(vs:List V)(Q:VK)(E:XK),Room k (A.deeper (envOfC x (aB st) s.heap.objs.size f a))->sp vs H Q E →
   ∃t,XB (iJ nN P w K mg base N x (aB st) f a A outer s H E).nox (aY st) t/\t {nx:=λ_ c=>Q .non c,rt:=Q } (start N vs) H):aI P w K mg base (k+1) x ps sp:=
 D.ok S len λf a A outer s H vs Q E d h=>let ⟨t,e,g⟩:=b f a A outer s H vs Q E d h;⟨t,e.h,g⟩
def DefAt.gg{P:Program}{w:World}{K:W.Frag}{mg:Z7}{base:Heap}{x:Str}{st:Stmt}{N ps:List Str}{k:Nat}{sp:Sp}(D:DefAt K mg x st ps)(S:aJ N ps (aB st))(b:∀(f:ZR)(a:ZQ)(A:Around)(outer:List Env)(s:ZP)(H:Hp)(vs:List V)(Q:VK)(E:XK),Room k (A.deeper (envOfC x (aB st) s.heap.objs.size f a))->sp vs H Q E →
   ∃t,XB (iJ nN P w K mg base N x (aB st) f a A outer s H E).nox (aY st) t/\t {nx:=λ_ c=>Q .non c,rt:=Q } (start N vs) H)(len:∀vs H Q E,sp vs H Q E->vs.length=ps.length:=by intro vs H Q E h;repeat (first | (obtain⟨rfl,_⟩:=h;rfl) | obtain⟨_,h⟩:=h)):aI P w K mg base (k+1) x ps sp:=
 D.ok S len λf a A outer s H vs Q E d h=>let ⟨t,e,g⟩:=b f a A outer s H vs Q E d h;⟨t,e.h,g⟩
def Fun.go{P:Program}{w:World}{K:W.Frag}{mg:Z7}{base:Heap}{x b:Str}{st:Stmt}{f:ZR}{c:FuncData}{N ps:List Str}{k:Nat}{sp:Sp}(F:Fun K x b st f c)(S:aJ N ps (aB st))(len:∀vs H Q E,sp vs H Q E->vs.length=ps.length)(d:∀(a:ZQ)(A:Around)(outer:List Env)(s:ZP)(H:Hp)(vs:List V)(Q:VK)(E:XK),Room k (A.deeper (envOfC b (aB st) s.heap.objs.size f a))->sp vs H Q E →
   ∃t,XB (iJ nN P w K mg base N b (aB st) f a A outer s H E).nox (aY st) t/\t {nx:=λ_ e=>Q .non e,rt:=Q } (start N vs) H):iI P w K mg base nN (k+1) f c ps sp:=
 F.ok S len λa A outer s H vs Q E g h=>let ⟨t,i,j⟩:=d a A outer s H vs Q E g h;⟨t,i.h,j⟩
def Fun.gg{P:Program}{w:World}{K:W.Frag}{mg:Z7}{base:Heap}{x b:Str}{st:Stmt}{f:ZR}{c:FuncData}{N ps:List Str}{k:Nat}{sp:Sp}(F:Fun K x b st f c)(S:aJ N ps (aB st))(d:∀(a:ZQ)(A:Around)(outer:List Env)(s:ZP)(H:Hp)(vs:List V)(Q:VK)(E:XK),Room k (A.deeper (envOfC b (aB st) s.heap.objs.size f a))->sp vs H Q E →
   ∃t,XB (iJ nN P w K mg base N b (aB st) f a A outer s H E).nox (aY st) t/\t {nx:=λ_ e=>Q .non e,rt:=Q } (start N vs) H)(len:∀vs H Q E,sp vs H Q E->vs.length=ps.length:=by intro vs H Q E h;repeat (first | (obtain⟨rfl,_⟩:=h;rfl) | obtain⟨_,h⟩:=h)):iI P w K mg base nN (k+1) f c ps sp:=
 F.ok S len λa A outer s H vs Q E g h=>let ⟨t,i,j⟩:=d a A outer s H vs Q E g h;⟨t,i.h,j⟩
def Rl{K:W.Frag}{h:Heap}{mg:Z7}{x:Str}{st:Stmt}{ps:List Str}{f:ZR}{m b:Option ZR}{sl:Array (Option ZQ)}{n kV o d g e:ZQ}(X:K.In h)(G:h.Ns mainGlobals mg)(a:W.nsIn K mainGlobals x=some (some (.ref f)))(l:K.lookup f=some ⟨n,m,.func (W.fnOf x x (cA st) (aY st) (aB st) .none kV o d b g e),sl⟩)(c:W.codeIn K g x=true)(k:W.keepIn K (.ref f)=true)(p:∀(kV i d:ZQ)(b:Option ZR)(j e:ZQ)(us:List ZQ),us.length=ps.length->bindArgs (W.fnOf x x (cA st) (aY st) (aB st) .none kV i d b j e) ⟨us,[]⟩=pure (ps.zip us)):DefAt K mg x st ps:=
 ⟨f,_,oG l c k,W.mg_of X G a,(oG (st:=st) l c k).binds p⟩
namespace R
section
variable {X:Cx}{K:W.Frag}{a b c e o i tg:Expr}{es rest:List Expr}{te to:TE}{t:TA}{pos p p2 apos cpos:Pos}{x:Str}{n:Nat}
def kiL(d:X.K=K:=by rfl):Rk X (Av K):=d▸iL
def kiT(d:X.K=K:=by rfl):Rk X (Ej K):=d▸iT
def it(K:W.Frag)(i:Nat){x:Str}{p p2 pos:Pos}{c:Int}{j}(d:X.K=K:=by rfl)(f:X.N[i]?=some x:=by rfl)(g:Oo X.env.scope x:=by first|exact Or.inl rfl|exact Or.inr (Or.inl rfl)|exact Or.inr (Or.inr rfl))(h:(x==("__debug__":Str))=false:=by decide)(k:(x==("__classdict__":Str))=false:=by decide):XE X (.Subscript (.Name x p) (.Constant (.int c) j p2) pos) (zZ (Ej K) (vr i) (tC (.int c))):=ix (kiT d) (v i f g h k) int
def il(K:W.Frag)(i:Nat){x:Str}{p p2 pos:Pos}{c:Int}{j}(d:X.K=K:=by rfl)(f:X.N[i]?=some x:=by rfl)(g:Oo X.env.scope x:=by first|exact Or.inl rfl|exact Or.inr (Or.inl rfl)|exact Or.inr (Or.inr rfl))(h:(x==("__debug__":Str))=false:=by decide)(k:(x==("__classdict__":Str))=false:=by decide):XE X (.Subscript (.Name x p) (.Constant (.int c) j p2) pos) (zZ (Av K) (vr i) (tC (.int c))):=ix (kiL d) (v i f g h k) int
def jg(d:X.K=K:=by rfl):Wh X (Kg K):=d▸sL
def di(d:X.K=K:=by rfl):gA X (compareOp .In) (Tv K false):=d▸inQ
def gx(d:X.K=K:=by rfl):gA X (compareOp .NotIn) (Tv K true):=d▸notInQ
def jm(d:X.A.units<cLine)(f:X.K=K:=by rfl):gA X (compareOp .Eq) (lV K false):=f▸eqNil d
def jh(d:X.A.units<cLine)(f:X.K=K:=by rfl):gA X (compareOp .NotEq) (lV K true):=f▸neNil d
def br(d:X.K=K:=by rfl):XC X (.builtin "len") (λvs H Q=>match vs with|[.ref p]=>∃ys,(SqL K H p ys∨SqT K H p ys)/\Q (.int ys.length) H|_=>False):=d▸lenL
def jd(d:X.calm=true)(f:X.K=K:=by rfl):XC X (.builtin "all") (Qp K):=f▸all d
def jw(d:X.calm=true)(f:X.K=K:=by rfl):XC X (.builtin "sum") (Qq K):=f▸sum d
def jy(d:X.K=K:=by rfl):XM X "str.join" (Ec K):=d▸join
def bt{T id:String}{name:Str}{r:V->List V->Hp->VK->Prop}(d:PlainAttrs T)(slot:Slot T name id)(f:typeOf (.builtin id)=pure (.type "method_descriptor"))(g:XM X id r)(h:XE X o to)(j:XA X (e::es) t)(k:X.K=K:=by rfl)(l:attributeBase o name X.env (eval o X.env)=eval o X.env:=by rfl)(m:(apos.endLine==cpos.line)=true:=by rfl)(q:aR e=true:=by rfl)(s:es.all aR=true:=by rfl)(u:es.length+1<30:=by decide) :
  XE X (.Call (.Attribute o name apos) (e::es) [] cpos) (Xn K T r to t):=k▸bm d slot f g h j l m q s u
def bf(d:XE X e te)(f:X.K=K:=by rfl):XI X tg e (Cn K te):=f▸wL d
def du(d:XE X e te)(f:X.K=K:=by rfl):XI X tg e (Pi K te):=f▸wT d
def cf{k:Nat}{d:xT}(f:X.calm=true)(h:Wg X es d)(g:X.K=K:=by rfl)(j:(assignEach es X.env).length=n:=by rfl)(l:(assignEach es X.env).findIdx? (·.1)=none:=by rfl):XG X (.Tuple es k pos) (Cj K n d):=g▸gt' f h j l
end
end R
section
variable {X:Cx}
def wM:List V->Hp->VK->Prop:=λvs H Q=>match vs with
 | [.int i]=>(0<=i/\i<10^40)/\Q (.str (Str.ofString (toString i))) H
 | [.str z]=>Q (.str z) H
 | _=>False
def Wi:CallR X (.type "str") wM:=by
 intro a s d H f b Q I r h;unfold wM at h;split at h
 ·rename_i i;refine rL a s d H [.int i] b Q I r ⟨i,rfl,?_,h.2⟩;have c:i.natAbs<2^1920:=by
   have e:(10:Nat)^40<=2^1920:=by decide +kernel
   have g:i.natAbs<10^40:=by
    have:=h.1;omega
   omega
  rcases Nat.eq_zero_or_pos i.natAbs with z|z
  ·rw[z];decide
  ·exact(Nat.log2_lt Zo).mpr c
 ·rename_i z;obtain⟨u,rfl,t,rfl⟩:=iB r;exact PySem.P.str_of_str ⟨.str z,H,I,⟨t,rfl⟩,h⟩
 ·exact h.elim
def aAb:List V->Hp->VK->Prop:=λvs H Q=>match vs with
 | [.str z]=>NumText.AllDigits z.cps.toList/\z.cps.toList≠[]/\z.length<=640/\Q (.int (NumText.digitsVal z.cps.toList:Nat)) H
 | _=>False
end
namespace R
variable {X:Cx}
def fu:XC X (.type "str") wM:=⟨Wi⟩
end R
def LET:List Nat:=[97,98,99,100,101,102,103,104,105,106,107,108,109,110,111,112,113,114,115,116,117,118,119,120,121,122]
def Wj:List Nat:=[48,49,50,51,52,53,54,55,56,57]
def rZ:(("abcdefghijklmnopqrstuvwxyz":Str)).cps.toList=LET:=by decide +kernel
def Et:(("0123456789":Str)).cps.toList=Wj:=by decide +kernel
def eP(x:V)(a:List Nat)(n:Int):Bool:=match x with|.str z=>decide (1<=(z.length:Int))&&decide ((z.length:Int)<=n)&&z.cps.toList.all (λc=>decide (c∈a))|_=>false
def gQ(z:Str)(a:List Nat)(n:Int):eP (.str z) a n=(decide (1<=(z.length:Int))&&decide ((z.length:Int)<=n)&&z.cps.toList.all (λc=>decide (c∈a))):=rfl
def wN:Sp:=λvs H Q _=>∃x a n k,vs=[x,.str a,.int n]/\Kof H x k/\(∀z,x=.str z->z.length<=1000)/\∀b,Same H b->Q (.bl (eP x a.cps.toList n)) b
def sA(b:List Nat)(n:Int):Sp:=λvs H Q _=>∃x k,vs=[x]/\Kof H x k/\(∀z,x=.str z->z.length<=1000)/\∀a,Same H a->Q (.bl (eP x b n)) a
theorem yQ:∀(k m:Nat),m<10^(k+1)->(toDigits 10 m).length<=k+1
 | 0,m,h=>by rw[Nat.toDigits_of_lt_base (by simpa using h)];exact bQ _
 | k+1,m,h=>by
  by_cases b:m<10
  ·rw[Nat.toDigits_of_lt_base b];simp
  ·have a:m%10<10:=mod_lt m Zd;have t:toDigits 10 (m/10)++toDigits 10 (m%10)=toDigits 10 (10*(m/10)+m%10):=Nat.toDigits_append_toDigits Zd Zo a;rw[Nat.div_add_mod]at t;rw[<- t,kJ,Nat.toDigits_of_lt_base a];have:=yQ k (m/10) (by rw[Nat.pow_succ]at h;omega);simp;omega
def bZ(m:Nat):Str:=Str.ofString (toString ((m:Nat):Int))
def oO(m:Nat):(bZ m).cps.toList=(toDigits 10 m).map Char.toNat:=W.KIN.signs_num m
def eF(m:Nat):NumText.AllDigits (bZ m).cps.toList:=by
 intro c a;rw[oO]at a;obtain⟨d,b,e⟩:=Zmm.mp a;have r:=PyProof.Rows.digit_range (Nat.isDigit_of_mem_toDigits Zd Zd b);rw[<- e];exact r
def uD(m:Nat):NumText.digitsVal (bZ m).cps.toList=m:=by rw[oO,W.KIN.val_back]
def Eu(m:Nat):(bZ m).length=(toDigits 10 m).length:=by
 have:(bZ m).cps.toList.length=(bZ m).length:=by simp[Str.length]
 rw[<- this,oO,bF]
def Km{m k:Nat}(h:m<10^(k+1)):(bZ m).length<=k+1:=by rw[Eu];exact yQ k m h
def cR(z:Str):Prop:=1<=z.length/\z.length<=8/\∀c∈z.cps.toList,c∈LET
section
variable {prog:Program}{w:World}{A:Around}{E:Z8}{s:ZP}
def Ax{t:ZR}{a:Array Value}{Q:Bool->ZP->Prop}(b:IsTup s.heap t a)(h:Q true s):wpAny (model prog w) A (Builtin.Tuple.tupleIsExact (.ref t)) Q E s:=by
 unfold Builtin.Tuple.tupleIsExact;refine ZZ (wpAny_typeOf b.typeIs ?_);exact ZY h
def jS{t sl:ZR}{a:Array Value}{d e:ZQ}{lo c:Option Int}{Q:Z8}(b:IsTup s.heap t a)(f:s.heap.IsSliceOf sl d e .none)(pl:IsPart d lo)(i:IsPart e c)(g:HT.sIx a.size 0 lo=0/\HT.sIx a.size a.size c=a.size)(h:Q (.ref t) s):wpAny (model prog w) A (getItem (.ref t) (.ref sl)) Q E s:=by
 obtain⟨os,j,k,n⟩:=id f;have l:s.TypeIs (.ref sl) "slice":=⟨os,j,k⟩;unfold getItem;try with_reducible refine wpAny_holding ?_
 first|refine ZZ (ZY ?_)|skip
 refine ZZ (wpAny_sequenceKey b.typeIs Zd ?_);refine ZZ (wpAny_callSpecial?_slot (name:=Str.ofString "__getitem__") b.typeIs PyProof.Rows.slot_tuple_getitem
  (wpAny_call_entry PyProof.Rows.slot_tuple_getitem b.typeIs entry_tuple_getitem ?_ (args_tuple_getitem _ _)))
 show wpAny _ _ (Builtin.Tuple.tupleItemsOf (.ref t)>>=_) _ _ s;refine ZZ (tupleItemsOf_ b ?_);refine ZZ (wpAny_typeOf l ?_);rw[ZO Zd];refine ZZ (HT.sliceApplied_gen f pl i ?_);have m:(((HT.sIx a.size 0 lo:Nat):Int)==0&&(1:Int)==1&&(HT.sIx a.size a.size c-HT.sIx a.size 0 lo)==a.size)=true:=by
  rw[g.1,g.2];simp
 show wpAny _ _ (if (((HT.sIx a.size 0 lo:Nat):Int)==0&&(1:Int)==1&&(HT.sIx a.size a.size c-HT.sIx a.size 0 lo)==a.size)=true then _ else _) _ _ s;rw[ZO m];refine ZZ (Ax b ?_);rw[ZO rfl];exact ZZ (wpAny_rule (ZY ⟨_,rfl,ZY h⟩))
def Ev{t b:ZR}{ws:List ZQ}{Q:Z8}(h:IsTup s.heap t ([]:List ZQ).toArray)(i:IsTup s.heap b ws.toArray)(j:Q (.ref b) s):wpAny (model prog w) A (binaryOp .Add (.ref t) (.ref b)) Q E s:=by
 obtain⟨⟨cls,k,p,sl⟩,c,d,n,e⟩:=id h;obtain⟨⟨q,l,data2,m⟩,f,g,o,a⟩:=id i;simp only at d e g a;subst d e g a;exact concat_meets ⟨_,c,rfl⟩ ⟨_,f,rfl⟩ noFill_tuple_add seq_tuple_add PySem.F.slot_tuple_add PySem.F.entry_tuple_add (PySem.F.args_tuple_add_2 _ _)
   (tuple_addW0 t b _ ws.toArray n o k l sl m Zs) ⟨c,f,j⟩
end
section
variable {X:Cx}{e o e1 e2:Expr}{te:TE}{pos p2 p3:Pos}
def Rm:V->Option Int->Option Int->Hp->VK->Prop:=λx lo d H Q=>mR x λa=>∃c,H a=some (.tup c)/\∀p b,Same H b->b p=some (.tup (iG c lo d))->Q (.ref p) b
def Wk:SlR X Rm:=by
 intro m s z H x v u w lo f sl Q I g i j k h;unfold Rm at h;rw[cO]at h;obtain⟨a,rfl,b,d,q⟩:=h;by_cases c:HT.sIx b.length 0 lo=0/\HT.sIx b.length b.length f=b.length
 ·cases g;obtain⟨t,r,l,A⟩:=I.tuple (QZy d);have n:t.toArray.size=b.length:=by rw[cZ];exact r.length.symm
  refine⟨"tuple",_,PyProof.Rows.slot_tuple_getitem.lookup,l.typeIs,?_⟩;refine jS l i j k (by rw[n];exact c) ⟨.ref a,H,I,rfl,q a H (Same.refl H) ?_⟩;rw[d];unfold iG;rw[c.1,c.2,drop_zero,Nat.sub_zero,nT (bQ _)]
 ·exact Qc m s z H (.ref a) v u w lo f sl Q I g i j k ⟨a,b,rfl,QZy d,c,λp y=>q p _ (aH y) aA⟩
def Ew:R2:=λx y H Q=>mR x λa=>mR y λb=>∃c d,H a=some (.tup c)/\H b=some (.tup d)/\c.length+d.length<=1000/\∀p f,Same H f->f p=some (.tup (c++d))->Q (.ref p) f
def Rn:OpR X (binaryOp .Add) Ew:=by
 intro k s z H x y v u Q I f g h;unfold Ew at h;rw[cO]at h;obtain⟨a,rfl,h⟩:=h;rw[cO]at h;obtain⟨b,rfl,i,l,c,d,m,q⟩:=h;by_cases j:i=[]
 ·subst j;cases f;cases g;obtain⟨A,n,r,_⟩:=I.tuple (QZy c);obtain⟨B,C,p2,_⟩:=I.tuple (QZy d);cases n;exact Ev r p2 ⟨.ref b,H,I,rfl,q b H (Same.refl H) (by rw[d];rfl)⟩
 ·exact Jn k s z H _ _ v u Q I f g ⟨a,b,i,l,rfl,rfl,QZy c,QZy d,j,hZ m Zd,(λt=>q a H (Same.refl H) (by rw[c,t,append_nil])),λ_ p w=>q p _ (aH w) aA⟩
end
def Tab(P:Params):List DictEntry->List (Str×Int)->Prop
 | [],[]=>True
 | e::r,(x,i)::q=>(∃t,e.key=.str x t)/\e.hash=PyData.keyHash P x/\(∃t,e.val=.int i t)/\Tab P r q
 | _,_=>False
def Tab.keys{P:Params}:∀ {a:List DictEntry}{ws:List (Str×Int)},Tab P a ws->W.KeysLit P a
 | [],[],_=>trivial
 | e::r,(x,i)::q,h=>⟨let ⟨t,b⟩:=h.1;⟨x,t,b,h.2.1⟩,Tab.keys h.2.2.2⟩
 | [],_::_,h=>h.elim
 | _::_,[],h=>h.elim
theorem Tab.find{P:Params}(z:Str):∀ {a:List DictEntry}{ws:List (Str×Int)},Tab P a ws->(match ws.lookup z with|some i=>∃t,(a.find? λe=>Value.isStrOf z e.key).map (·.val)=some (.int i t)|none=>(a.find? λe=>Value.isStrOf z e.key).map (·.val)=none)
 | [],[],_=>rfl
 | [],_::_,h=>h.elim
 | _::_,[],h=>h.elim
 | e::r,(x,i)::q,h=>by
  obtain⟨⟨t,b⟩,k,⟨c,d⟩,f⟩:=h;have g:=Tab.find z f;rw[lookup_cons,find?_cons];have j:Value.isStrOf z e.key=(z==x):=by
   rw[b];show(x==z)=(z==x);exact Bool.beq_comm
  rw[j];cases l:z==x with
  | true=>exact⟨c,by rw[<- d];rfl⟩
  | false=>exact g
structure KTab(K:W.Frag)(P:Params)(a:ZR)(ws:List (Str×Int)):Prop where
 ex:∃es n,K.lookup a=some ⟨.type "dict",none,.dict (toArray es) n,#[]⟩/\Tab P es ws/\(a==sysModules)=false
def KTab.map{K:W.Frag}{prog:Program}{w:World}{a:ZR}{ws:List (Str×Int)}{h:Heap}(T:KTab K w.params a ws)(X:K.In h) :
  ∃f:Str->Option ZQ,h.MapOf (strKind prog w) a f/\(a==sysModules)=false/\∀z,(match ws.lookup z with|some i=>∃t,f z=some (.int i t)|none=>f z=none):=by
 obtain⟨d,n,c,b,lo⟩:=T.ex;refine⟨_,W.mapOf_K (prog:=prog) X c b.keys,lo,λz=>?_⟩;have:=b.find z;unfold findBy;rw[List.find?_toArray];exact this
section
variable {X:Cx}
def Ro(K:W.Frag)(P:Params)(c:Bool):R2:=λx y H Q=>mS x λz=>mR y λa=>∃b,KTab K P a b/\Q (.bl (if c then !(b.lookup z).isSome else (b.lookup z).isSome)) H
def Ay{f:Option ZQ}{o:Option Int}(h:match o with|some i=>∃t,f=some (.int i t)|none=>f=none):f.isSome=o.isSome:=by
 cases o with
 | none=>rw[h];rfl
 | some i=>obtain⟨t,h⟩:=h;rw[h];rfl
def Ey:OpR X (compareOp .NotIn) (Ro X.K X.w.params true):=by
 intro i s j H x y v u Q I b c h;unfold Ro at h;rw[mQ]at h;obtain⟨z,rfl,h⟩:=h;rw[cO]at h;obtain⟨a,rfl,d,T,h⟩:=h;obtain⟨t,rfl⟩:=b;cases c;obtain⟨f,e,lo,g⟩:=T.map (prog:=X.prog) I.kIn;exact wpAny_notIn_of (strKind_is X.prog X.w z t) lo e ⟨.bl (!(d.lookup z).isSome),H,I.tok _,by rw[Ay (g z)];rfl,h⟩
def Rp(K:W.Frag)(P:Params):R2:=λx y H Q=>mR x λa=>mS y λz=>∃b i,KTab K P a b/\b.lookup z=some i/\Q (.int i) H
def i_K:IxR X (Rp X.K X.w.params):=by
 intro m slice n s p H x y v u Q I d e h g;unfold Rp at h;rw[cO]at h;obtain⟨a,rfl,h⟩:=h;rw[mQ]at h;obtain⟨z,rfl,o,i,T,j,h⟩:=h;obtain⟨t,rfl⟩:=e;cases d;obtain⟨f,c,lo,k⟩:=T.map (prog:=X.prog) I.kIn;have b:=k z;rw[j]at b;obtain⟨l,b⟩:=b;exact tail_any c.typeIs slot_dict_getitem.lookup (wpAny_getItem_of (strKind_is X.prog X.w z t) c b ⟨.int i,H,I.tok _,⟨l,rfl⟩,h⟩) g
end
structure Xr(X:Cx)(pos:Pos)(keys:List (Option Expr))(values:List Expr)(trs:List (TE×TE)):Prop where
 h:Vi X pos keys values trs
namespace R
section
variable {X:Cx}{K:W.Frag}{P:Params}{e e1 k v o f:Expr}{te t1 tk tv td ty LU:TE}{pos p2 apos cpos:Pos}{ks:List (Option Expr)}{vs:List Expr}{trs:List (TE×TE)}
def sT:Wh X Rm:=⟨Wk⟩
def jl:gA X (binaryOp .Add) Ew:=⟨Rn⟩
def ju(a:X.K=K:=by rfl)(b:X.w.params=P:=by rfl):gA X (compareOp .NotIn) (Ro K P true):=a▸b▸⟨Ey⟩
def jv(a:X.K=K:=by rfl)(b:X.w.params=P:=by rfl):Rk X (Rp K P):=a▸b▸⟨i_K⟩
def jf(a:X.K=K:=by rfl):XC X (.type "list") (λvs H Q=>match vs with | [.ref p]=>∃ys,(SqL K H p ys∨SqT K H p ys)/\∀l,H l=none->Q (.ref l) (aK H l (.lst ys)) | _=>False):=a ▸ ⟨rT.imp λvs H Q h=>by
 split at h
 ·rename_i p;obtain⟨ys,b,h⟩:=h;exact⟨p,ys,rfl,b,h⟩
 ·exact h.elim⟩
def jj:Xr X pos [] [] []:=⟨Jt⟩
def dq(a:XE X k tk)(b:XE X v tv)(c:Xr X pos ks vs trs):Xr X pos (some k::ks) (v::vs) ((tk,tv)::trs):=⟨Dr a.h b.h c.h⟩
def ji(h:Xr X pos ks vs trs)(a:ks.all (·.isSome)=true:=by rfl)(b:ks.length=vs.length:=by rfl)(c:ks≠[]:=by simp)(d:ks.length<=15:=by decide):XE X (.Dict ks vs pos) (Nn trs):=⟨Ju h.h a b c d⟩
def df(a:X.A.units+1<cLine)(b:XE X o td)(c:XE X e ty)(d:XE X f LU)(g:attributeBase o "get" X.env (eval o X.env)=eval o X.env:=by rfl)(h:(apos.endLine == cpos.line)=true:=by rfl)(i:((backTo cpos (starEach [e,f] X.env)).all (λx=>!x.1)&&(backToKw cpos (keywordEach [] X.env)).all (λx=>x.1.isSome)
  && decide (([e,f]:List Expr).length+([]:List Keyword).length+(if ([]:List Keyword).isEmpty then 0 else 1)<30))=true:=by rfl)(j:backTo cpos (starEach [e,f] X.env)=[(false,eval e X.env),(false,eval f X.env)]:=by rfl):XE X (.Call (.Attribute o "get" apos) [e,f] [] cpos) (Dt td ty LU):=⟨Dw a b.h c.h d.h ⟨g,i,h,j⟩⟩
end
end R
def WS:List (Str×Int):=[("add",1),("take",1),("move",2),("send",2),("fetch",2),("pass",3)]
def UW:List V:=[.str "move",.str "pass"]
def tJ(x:V):Bool:=eP x LET 8
def wO(lo a:Int)(x:V):Bool:=match x with|.int n=>decide (lo<=n)&&decide (n<=a)|_=>false
def fI(x:V)(a:List V):Bool:=match x with
 | .str z=>(match WS.lookup z with
  | some i=>decide ((a.length:Int)=i)&&a.all tJ&&(!kK (.str z) UW||!decide (gC a 0=gC a 1))
  | none=>false)
 | _=>false
def sB(xs:List V):List V:=iG xs (some 1) (some (-1))
def mU(xs:List V):Bool:=decide (3<=xs.length)&&fI ((gC xs 0).getD .non) (sB xs)&&wO 1 1000000000000 ((gC xs (-1)).getD .non)
def Pt(H:Hp)(x:V):Prop:=∃k,Kof H x k/\∀z,x=.str z->z.length<=1000
def Pt.same{H a:Hp}{x:V}(s:Same H a)(h:Pt H x):Pt a x:=let ⟨k,b,c⟩:=h;⟨k,b.same s,c⟩
def oP(H:Hp)(x:V):Bool:=match x with|.ref a=>(match H a with|some (.tup b)=>mU b|_=>false)|_=>false
def Th(H:Hp)(x:V):Prop:=Pt H x/\∀a b,x=.ref a->H a=some (.tup b)->∀y∈b,Pt H y
def yR:Sp:=λvs H Q _=>∃x lo a,vs=[x,.int lo,.int a]/\Pt H x/\∀b,Same H b->Q (.bl (wO lo a x)) b
def Ez:Sp:=λvs H Q _=>∃x a b,vs=[x,.ref a]/\Pt H x/\H a=some (.tup b)/\b.length<=1000/\(∀y∈b,Pt H y)/\∀c,Same H c->Q (.bl (fI x b)) c
def uE:Sp:=λvs H Q _=>∃x,vs=[x]/\Th H x/\(∀a b,x=.ref a->H a=some (.tup b)->b.length<=1000)/\∀c,Same H c->Q (.bl (oP H x)) c
def Wl{z:Str}{i:Int}(h:WS.lookup z=some i)(u:kK (.str z) UW=true):2<=i:=by
 have e:z="move"∨z="pass":=by
  unfold kK UW at u;simp only [any_cons,List.any_nil,Bool.or_false,Bool.or_eq_true,nF,beq_iff_eq,decide_eq_true_iff]at u;rcases u with u|u
  ·exact .inl u.symm
  ·exact .inr u.symm
 rcases e with rfl|rfl
 ·have:WS.lookup ("move":Str)=some 2:=by decide +kernel
  rw[this]at h;injection h with h;omega
 ·have:WS.lookup ("pass":Str)=some 3:=by decide +kernel
  rw[this]at h;injection h with h;omega
def yS{xs:List V}(h:3<=xs.length):sB xs=(xs.drop 1).take (xs.length-2):=by
 unfold sB iG HT.sIx;simp only [Int.reduceNeg,Int.reduceLT,if_true,if_false];have a:min (Int.toNat 1) xs.length=1:=by
  show min 1 xs.length=1;omega
 have b:((-1:Int)+(xs.length:Int)).toNat=xs.length-1:=by omega
 rw[b];show((xs.drop (min (Int.toNat 1) xs.length)).take (xs.length-1-min (Int.toNat 1) xs.length))=_;rw[a];congr 1
def Kn{xs:List V}(h:3<=xs.length):(sB xs).length=xs.length-2:=by
 rw[yS h,vK,length_drop];omega
def Ko{xs:List V}{y:V}(h:3<=xs.length)(m:y∈sB xs):y∈xs:=by
 rw[yS h]at m;exact List.mem_of_mem_drop (mem_of_mem_take m)
def Wm:R2:=λx y H Q=>mR x λl=>mR y λb=>∃a c,H l=some (.lst a)/\H b=some (.lst c)/\a.length+c.length<=sizeLine/\∀p,H p=none->Q (.ref p) (aK H p (.lst (a++c)))
def R.gk{X:Cx}:gA X (binaryOp .Add) Wm:=⟨Qh.imp λx y H Q h=>by
 unfold Wm at h;rw[cO]at h;obtain⟨a,rfl,h⟩:=h;rw[cO]at h;obtain⟨b,rfl,c,d,h⟩:=h;exact⟨a,b,c,d,rfl,rfl,h⟩⟩
inductive DeedIs:List V->Prop
 | one (z a:Str) (n:Int):(z="add"∨z="take")->cR a->1<=n->n<=1000000000000->DeedIs [.str z,.str a,.int n]
 | two (z a b:Str) (n:Int):(z="move"∨z="send"∨z="fetch")->cR a->cR b->a≠b->1<=n->n<=1000000000000->DeedIs [.str z,.str a,.str b,.int n]
 | three (a b c:Str) (n:Int):cR a->cR b->cR c->a≠b->1<=n->n<=1000000000000->DeedIs [.str "pass",.str a,.str b,.str c,.int n]
def iN{z:Str}(h:cR z):tJ (.str z)=true:=by
 unfold tJ;rw[gQ,ZU (by have:=h.1;omega),ZU (by have:=h.2.1;omega),all_eq_true.mpr λc a=>ZU (h.2.2 c a)];rfl
def DeedIs.ok{xs:List V}(h:DeedIs xs):mU xs=true:=by
 cases h with
 | one z a n i d f g=>
  show(fI (.str z) [.str a]&&wO 1 1000000000000 (.int n))=true;have e:fI (.str z) [.str a]=true:=by
   rcases i with rfl|rfl
   ·show(true&&(tJ (.str a)&&true)&&_)=true;rw[iN d];rfl
   ·show(true&&(tJ (.str a)&&true)&&_)=true;rw[iN d];rfl
  rw[e];show(decide (1<=n)&&decide (n<=1000000000000))=true;rw[ZU f,ZU g];rfl
 | two z a b n i d j k f g=>
  show(fI (.str z) [.str a,.str b]&&wO 1 1000000000000 (.int n))=true;have ne:decide (some (V.str a)=some (V.str b))=false:=ZT λe=>k (by injection e with e;injection e)
  have e:fI (.str z) [.str a,.str b]=true:=by
   rcases i with rfl|rfl|rfl
   all_goals
    show(true&&(tJ (.str a)&&(tJ (.str b)&&true))&&(_||!decide (some (V.str a)=some (V.str b))))=true;rw[iN d,iN j,ne,Bool.not_false,Bool.or_true];rfl
  rw[e];show(decide (1<=n)&&decide (n<=1000000000000))=true;rw[ZU f,ZU g];rfl
 | three a b c n d j l k f g=>
  show(fI (.str "pass") [.str a,.str b,.str c]&&wO 1 1000000000000 (.int n))=true;have ne:decide (some (V.str a)=some (V.str b))=false:=ZT λe=>k (by injection e with e;injection e)
  have e:fI (.str "pass") [.str a,.str b,.str c]=true:=by
   show(true&&(tJ (.str a)&&(tJ (.str b)&&(tJ (.str c)&&true)))&&(_||!decide (some (V.str a)=some (V.str b))))=true;rw[iN d,iN j,iN l,ne,Bool.not_false,Bool.or_true];rfl
  rw[e];show(decide (1<=n)&&decide (n<=1000000000000))=true;rw[ZU f,ZU g];rfl
def Dk.tup_ne{H:Hp}{d b p:ZR}{xs:List V}(D:Dk H d b)(h:H p=some (.tup xs)):p≠d/\p≠b:=by
 obtain⟨f,s,k,a,c,g⟩:=D.ex;exact⟨λe=>(by rw[e,a]at h;cases h),λe=>(by rw[e,c]at h;cases h)⟩
inductive TV where
 | sc (v:V)
 | tp (xs:List TV)
 | ls (xs:List TV)
def jY:V->Bool|.non=>true|.bl _=>true|.int _=>true|.str _=>true|_=>false
def Rep(H:Hp):Nat->TV->V->Prop
 | 0,.sc v,x=>x=v/\jY v=true
 | _+1,.sc v,x=>x=v/\jY v=true
 | n+1,.tp c,x=>∃a b,x=.ref a/\H a=some (.tup b)/\Paired (Rep H n) c b
 | n+1,.ls c,x=>∃a b,x=.ref a/\H a=some (.lst b)/\Paired (Rep H n) c b
 | 0,_,_=>False
def Paired.map'{c d:Type}{R S:c->d->Prop}(f:∀a b,R a b->S a b){xs:List c}{ys:List d}(h:Paired R xs ys):Paired S xs ys:=by
 induction h with
 | nil=>exact .nil
 | cons h t e=>exact .cons (f _ _ h) e
theorem Rep.same{H c:Hp}(s:Same H c):∀ {n:Nat}{t:TV}{x:V},Rep H n t x->Rep c n t x
 | 0,.sc v,x,h=>h
 | n+1,.sc v,x,h=>h
 | n+1,.tp d,x,⟨a,b,e,g,p⟩=>⟨a,b,e,s _ _ g,Paired.map' (λ_ _=>Rep.same s) p⟩
 | n+1,.ls d,x,⟨a,b,e,g,p⟩=>⟨a,b,e,s _ _ g,Paired.map' (λ_ _=>Rep.same s) p⟩
def Rep.scal{H:Hp}{n:Nat}{v:V}(h:jY v=true):Rep H n (.sc v) v:=by
 cases n<;>exact⟨rfl,h⟩
def Paired.get'{a b:Type}{R:a->b->Prop}:∀ {xs:List a}{ys:List b}{j:Nat},Paired R xs ys->∀(h:j<ys.length),∃h':j<xs.length,R xs[j] ys[j]
 | _,_,0,.cons h t,_=>⟨Nat.succ_pos _,h⟩
 | _,_,j+1,.cons h t,c=>let ⟨h',r⟩:=Paired.get' (j:=j) t (by simpa using c);⟨by simpa using h',by simpa using r⟩
section
variable {X:Cx}{pins:Z9}{s:ZP}{σ:St}{H:Hp}
def Kq(B:Around):B.in1.units=B.units+1:=rfl
def iO(n:Nat):(List.range n).all (λ_=>true)=true:=all_eq_true.mpr λ_ _=>rfl
def Fc(I:Inv X pins σ H s):∀(n:Nat){t:TV}{x y:V}{v u:ZQ}{A:Around},Rep H n t x->Rep H n t y->RelV x v->RelV y u->A.units+n<cLine->SeqAt.EqAt A s v u true:=by
 have sc:∀ {v:V}{x y:V}{B C:ZQ}{A:Around},(x=v/\jY v=true)->(y=v/\jY v=true)->RelV x B->RelV y C->SeqAt.EqAt A s B C true:=by
  rintro v x y B C A ⟨rfl,S⟩ ⟨rfl,_⟩ f g
  cases y with
  | non=>cases f;cases g;exact SeqAt.EqAt.same _
  | bl i=>cases f;cases g;exact SeqAt.EqAt.same _
  | int i=>
   obtain⟨D,rfl⟩:=f;obtain⟨E,rfl⟩:=g;have:=SeqAt.EqAt.int_int (A:=A) (s:=s) i D i E
   rwa [beq_self_eq_true]at this
  | str i=>
   obtain⟨D,rfl⟩:=f;obtain⟨E,rfl⟩:=g;have:=SeqAt.EqAt.str_str (A:=A) (s:=s) i D i E
   rwa [beq_self_eq_true]at this
  | _=>cases S
 intro n;induction n with
 | zero=>
  intro t x y v u A c d f g T;cases t with
  | sc z=>exact sc c d f g
  | _=>exact c.elim
 | succ n R=>
  intro t x y v u A c d f g T;cases t with
  | sc z=>exact sc c d f g
  | tp l=>
   obtain⟨a,U,rfl,g1,m⟩:=c;obtain⟨b,W,rfl,g2,o⟩:=d;cases f;cases g;by_cases p:a=b
   ·subst p;exact SeqAt.EqAt.same _
   ·obtain⟨h,q,F,_⟩:=I.tuple (QZy g1);obtain⟨r,w,G,_⟩:=I.tuple (QZy g2);have J:h.length=l.length:=by rw[<- q.length,m.length]
    have K:r.length=l.length:=by rw[<- w.length,o.length]
    have k:=SeqAt.RcAt.tuples (A:=A) (s:=s) (e:=λ_=>true) F G Zo (λj c d=>by
     rw[cZ]at c d;obtain⟨L,M⟩:=Paired.get' (j:=j) q c;obtain⟨N,O⟩:=Paired.get' (j:=j) w d;obtain⟨Y,P⟩:=Paired.get' (j:=j) m L;obtain⟨Z,Q⟩:=Paired.get' (j:=j) o N;simpa using R P Q M O (by rw[Kq];omega))
    have e:((List.range (min h.toArray.size r.toArray.size)).all (λ_=>true)&&h.toArray.size==r.toArray.size)=true:=by
     rw[iO,cZ,cZ,J,K,beq_self_eq_true];rfl
    rw[e]at k;exact SeqAt.EqAt.of_refs p k
  | ls l=>
   obtain⟨a,U,rfl,g1,m⟩:=c;obtain⟨b,W,rfl,g2,o⟩:=d;cases f;cases g;by_cases p:a=b
   ·subst p;exact SeqAt.EqAt.same _
   ·obtain⟨h,q,F,_⟩:=I.list (QZx g1);obtain⟨r,w,G,_⟩:=I.list (QZx g2);have J:h.length=l.length:=by rw[<- q.length,m.length]
    have K:r.length=l.length:=by rw[<- w.length,o.length]
    have k:=SeqAt.RcAt.lists (A:=A) (s:=s) (e:=λ_=>true) F.isList G.isList (by rw[cZ,cZ,J,K]) Zo (λj c d=>by
     rw[cZ]at c d;obtain⟨L,M⟩:=Paired.get' (j:=j) q c;obtain⟨N,O⟩:=Paired.get' (j:=j) w d;obtain⟨Y,P⟩:=Paired.get' (j:=j) m L;obtain⟨Z,Q⟩:=Paired.get' (j:=j) o N;simpa using R P Q M O (by rw[Kq];omega))
    rw[iO]at k;exact SeqAt.EqAt.of_refs p k
end
section
variable {X:Cx}
def Wn(a:Bool):R2:=λx y H Q=>∃n t,n<=50/\Rep H n t x/\Rep H n t y/\Q (.bl (!a)) H
def Kr(k:Bool){h:Z9}{s:ZP}{C:St}{H:Hp}{x y:V}{v u:ZQ}{Q:VK}{op:CmpOp}(g:op=if k then .NotEq else .Eq)(hu:X.A.units+64<cLine)(I:Inv X h C H s)(D:RelV x v)(E:RelV y u)(a0:Wn k x y H Q) :
  wpAny (model X.prog X.w) X.A (compareOp op v u) (EP X h C Q) X.xe s:=by
 obtain⟨n,t,hn,a,c,q⟩:=a0;have sc:∀z,t=.sc z->wpAny (model X.prog X.w) X.A (compareOp op v u) (EP X h C Q) X.xe s:=by
  rintro z rfl;have R:x=z/\jY z=true:=by cases n<;>exact a
  have S:y=z/\jY z=true:=by cases n<;>exact c
  obtain⟨rfl,T⟩:=R;obtain⟨rfl,_⟩:=S;have P:L2.scal y y=true:=by cases y<;>first|rfl|cases T
  cases k with
  | true=>
   subst g;exact Nh h s C H y y v u Q I D E ⟨P,by simpa using q⟩
  | false=>
   subst g;exact Ng h s C H y y v u Q I D E ⟨P,by simpa using q⟩
 cases n with
 | zero=>
  cases t with
  | sc z=>exact sc z rfl
  | _=>exact a.elim
 | succ n=>
  cases t with
  | sc z=>exact sc z rfl
  | tp l=>
   obtain⟨a1,U,rfl,g1,m⟩:=a;obtain⟨a2,W,rfl,g2,o⟩:=c;cases D;cases E;obtain⟨d,p,r,_⟩:=I.tuple (QZy g1);obtain⟨f,w,B,_⟩:=I.tuple (QZy g2);have F:d.length=l.length:=by rw[<- p.length,m.length]
   have G:f.length=l.length:=by rw[<- w.length,o.length]
   have i:∀j (a:j<d.toArray.size) (c:j<f.toArray.size),SeqAt.EqAt X.A.in1 s d.toArray[j] f.toArray[j] true:=λj a c=>by
    rw[cZ]at a c;obtain⟨J,K⟩:=Paired.get' (j:=j) p a;obtain⟨L,M⟩:=Paired.get' (j:=j) w c;obtain⟨Y,N⟩:=Paired.get' (j:=j) m J;obtain⟨Z,O⟩:=Paired.get' (j:=j) o L;simpa using Fc I n N O K M (by rw[Kq];omega)
   have e:((List.range (min d.toArray.size f.toArray.size)).all (λ_=>true)&&d.toArray.size==f.toArray.size)=true:=by
    rw[iO,cZ,cZ,F,G,beq_self_eq_true];rfl
   cases k with
   | true=>
    subst g;have b:=SeqAt.RcNeAt.tuples (A:=X.A) (s:=s) (e:=λ_=>true) r B Zo i;rw[e]at b;exact b _ _ _ _ ⟨.bl false,H,I,rfl,q⟩
   | false=>
    subst g;have b:=SeqAt.RcAt.tuples (A:=X.A) (s:=s) (e:=λ_=>true) r B Zo i;rw[e]at b;exact b _ _ _ _ ⟨.bl true,H,I,rfl,q⟩
  | ls l=>
   obtain⟨a1,U,rfl,g1,m⟩:=a;obtain⟨a2,W,rfl,g2,o⟩:=c;cases D;cases E;obtain⟨d,p,r,_⟩:=I.list (QZx g1);obtain⟨f,w,B,_⟩:=I.list (QZx g2);have F:d.length=l.length:=by rw[<- p.length,m.length]
   have G:f.length=l.length:=by rw[<- w.length,o.length]
   have i:∀j (a:j<d.toArray.size) (c:j<f.toArray.size),SeqAt.EqAt X.A.in1 s d.toArray[j] f.toArray[j] true:=λj a c=>by
    rw[cZ]at a c;obtain⟨J,K⟩:=Paired.get' (j:=j) p a;obtain⟨L,M⟩:=Paired.get' (j:=j) w c;obtain⟨Y,N⟩:=Paired.get' (j:=j) m J;obtain⟨Z,O⟩:=Paired.get' (j:=j) o L;simpa using Fc I n N O K M (by rw[Kq];omega)
   cases k with
   | true=>
    subst g;have b:=SeqAt.RcNeAt.lists (A:=X.A) (s:=s) (e:=λ_=>true) r.isList B.isList (by rw[cZ,cZ,F,G]) Zo i;rw[iO]at b;exact b _ _ _ _ ⟨.bl false,H,I,rfl,q⟩
   | false=>
    subst g;have b:=SeqAt.RcAt.lists (A:=X.A) (s:=s) (e:=λ_=>true) r.isList B.isList (by rw[cZ,cZ,F,G]) Zo i;rw[iO]at b;exact b _ _ _ _ ⟨.bl true,H,I,rfl,q⟩
def R.fg(a:X.A.units+64<cLine):gA X (compareOp .NotEq) (Wn true):=⟨λd s e H x y v u Q I b c h=>Kr true rfl a I b c h⟩
def R.fh{st:Stmt}:XS X st (λ_ _ _=>False):=⟨λa s b H D I h=>h.elim⟩
end
def Rq(a b:Str):ltCps b.cps.toList a.cps.toList=false↔a.cps.toList<=b.cps.toList:=by
 rw[ltCps_eq,decide_eq_false_iff_not];exact Iff.rfl
def Fd{a b:Str}(h:a.cps.toList=b.cps.toList):a=b:=by rw[oN a,oN b,h]
theorem gH:∀(l:List Str)(p:Str),risingS p l=true->(p::l).Pairwise (λa b=>a.cps.toList<=b.cps.toList)
 | [],p,_=>List.pairwise_singleton _ _
 | x::r,p,h=>by
  unfold risingS at h;rw[Bool.and_eq_true]at h;obtain⟨f,g⟩:=h;have d:=gH r x g;have e:p.cps.toList<=x.cps.toList:=(Rq p x).mp (by simpa using f);refine pairwise_cons.mpr ⟨λy c=>?_,d⟩;rcases mem_cons.mp c with rfl|c
  ·exact e
  ·exact le_trans e ((pairwise_cons.mp d).1 y c)
def lY:∀(l:List Str),sortedS l=true->l.Pairwise (λa b=>a.cps.toList<=b.cps.toList)
 | [],_=>List.Pairwise.nil
 | x::r,h=>gH r x h
theorem mV:∀(l m:List Str),l.Perm m->l.Pairwise (λa b=>a.cps.toList<=b.cps.toList)->m.Pairwise (λa b=>a.cps.toList<=b.cps.toList)->l=m
 | [],m,c,_,_=>(List.nil_perm.mp c).symm
 | a::l,[],c,_,_=>(List.perm_nil.mp c)
 | a::l,b::m,c,d,f=>by
  obtain⟨g,i⟩:=pairwise_cons.mp d;obtain⟨j,k⟩:=pairwise_cons.mp f;have e:a=b:=by
   have n:a∈b::m:=c.mem_iff.mp fP;have o:b∈a::l:=c.mem_iff.mpr fP;rcases mem_cons.mp n with h|h
   ·exact h
   ·rcases mem_cons.mp o with h'|h'
    ·exact h'.symm
    ·exact Fd (List.le_antisymm (g b h') (j a h))
  subst e;rw[mV l m (List.Perm.cons_inv c) i k]
def mW(c:List Str):List Str:=c.mergeSort (λa b=>decide (a.cps.toList<=b.cps.toList))
def fJ(a:List Str):(mW a).Perm a:=List.mergeSort_perm _ _
def wP(d:List Str):(mW d).Pairwise (λa b=>a.cps.toList<=b.cps.toList):=by
 have:=List.pairwise_mergeSort (le:=λ(a b:Str)=>decide (a.cps.toList<=b.cps.toList)) (λa b c e f=>ZU (le_trans (ZW e) (ZW f))) (λa b=>by
  rcases List.le_total a.cps.toList b.cps.toList with h|h
  ·simp[h]
  ·simp [h]) d
 exact this.imp λh=>ZW h
def Rr{a b:List Str}(c:b.Perm a)(d:sortedS b=true):b=mW a:=
 mV _ _ (c.trans (fJ a).symm) (lY _ d) (wP a)
def nO(a:List Str):(mW a).length=a.length:=(fJ a).length_eq
def qN:∀ {vs:List ZQ}{a:List Str},StrsAre vs a->Vals (a.map V.str) vs
 | _,_,.nil=>.nil
 | _,_,.cons x t h=>.cons ⟨t,rfl⟩ (qN h)
def TK(H c:Hp):Prop:=∀a b,H a=some (.tup b)->c a=some (.tup b)
def Same.tk{H b:Hp}(s:Same H b):TK H b:=λa c h=>s _ _ h
def Kp.tk{H c:Hp}{d b:ZR}(D:Dk H d b)(k:Kp d b H c):TK H c:=λa e h=>k _ _ h (D.tup_ne h).1 (D.tup_ne h).2
def lZ{H:Hp}{l:ZR}{xs ys:List V}(g:H l=some (.lst xs)):TK H (aK H l (.lst ys)):=λa b h=>by
 have:a≠l:=λe=>by rw[e,g]at h;cases h
 rw[aF this];exact h
section
variable {X:Cx}{es:List Expr}{t:TA}{pos:Pos}
def yT(t:TA):TE:=λd H Q=>t d H λb c=>b.length<=1000/\∀p a,Same c a->a p=some (.tup b)->Q (.ref p) a
def Ks{g}(h:PA X es t):PE X (.Tuple es g pos) (yT t):=by
 intro f s m H Q I i;refine wpAny_Tuple_spliced (bP (h pos f s m H _ I i) λj a ⟨k,c,d,r,z,q⟩=>⟨by rw[<- r.length];exact eO z,?_⟩);have l:c a.heap.objs.size=none:=d.hok.fresh (bQ _);refine⟨.ref a.heap.objs.size,aK c a.heap.objs.size (.tup k),d.laid (t':=a.toks) (λb u e=>iE _ e) (bQ _) ?_,rfl,q _ _ (aH l) aA⟩;exact⟨eO z,j,r,⟨_,ZS _ rfl,rfl,_,rfl⟩⟩
def R.ao{a}(h:XA X es t):XE X (.Tuple es a pos) (yT t):=⟨Ks h.h⟩
end
abbrev Z:=Addr×Str×Int
def zle(x y:Z):Prop:=x.2.1.cps.toList<=y.2.1.cps.toList
def ZAt(H:Hp)(a:List Z):Prop:=∀z∈a,H z.1=some (.tup [.str z.2.1,.int z.2.2])
def ZAt.same{H a:Hp}{b:List Z}(h:ZAt H b)(s:Same H a):ZAt a b:=λz c=>s _ _ (h z c)
def iF(a:List Z):List V:=a.map λz=>V.ref z.1
section
variable {X:Cx}{pins:Z9}{σ:St}{H:Hp}{s:ZP}
theorem jC:∀ {xs:List V}{vs:List ZQ} (i:Nat),Vals xs vs->i<xs.length->∀x,xs[i]?=some x->RelV x (vs.getD i Value.none)
 | x::xs,v::vs,0,.cons r b,_,y,a=>by
  cases a;exact r
 | x::xs,v::vs,i+1,.cons r b,c,y,a=>by
  have:=jC i b (by simpa using c) y (by simpa using a);simpa using this
def Wo(K:W.Frag):List V->Hp->VK->Prop:=λvs H Q=>match vs with
 | [.ref a]=>∃b:List Z,SqL K H a (iF b)/\ZAt H b/\(b.map (·.2.1)).Nodup/\b.length<64/\∀l c,H l=none->c.Perm b->c.Pairwise zle->Q (.ref l) (aK H l (.lst (iF c)))
 | _=>False
end
theorem oQ:∀ {a:List Str}{vs:List ZQ},vs.length=a.length->(∀(i:Nat)(v:ZQ),vs[i]?=some v->∃x t,a[i]?=some x/\v=Value.str x t)->StrsAre vs a
 | [],[],_,_=>.nil
 | k::a,v::vs,b,h=>by
  obtain⟨x,t,c,rfl⟩:=h 0 v rfl;cases c;exact .cons k t (oQ (by simpa using b) λi v d=>by simpa using h (i+1) v (by simpa using d))
section
variable {prog:Program}{w:World}{A:Around}{E:Z8}{s:ZP}
def uF{d:ZR}{c:List Str}{kvs:List (aX×ZQ)}{Q:Z8}(D:A.handled=none)(lo:(d==sysModules)=false)(F:s.heap.DictOf (aM prog w) d kvs)(n:kvs.map (·.1)=c.map Sum.inr)(o:c.length<64)(h:∀(a h':Heap)(tk:Nat)(out:Array Value)(e:Nat),(∀b f,s.heap.get? b=some f->a.get? b=some f)->(∀b f,a.get? b=some f->h'.get? b=some f)->h'.get? a.objs.size=some (seqObj "list" out e)->StrsAre out.toList (mW c)->Q (.ref a.objs.size) {s with heap:=h',toks:=tk }) :
  wpAny (model prog w) A (call (.builtin "sorted") [.ref d]) Q E s:=by
 have p:kvs.length=c.length:=by simpa using congrArg length n
 obtain⟨X,G⟩:=F.dictAt;apply Calls.call_function_entry kind_sorted plain_sorted entry_sorted (args_sorted1 _);unfold Builtin.«sorted»;apply ZZ (m:=checkCount "sorted" 1 1 _);apply ZY;apply ZZ;refine W.kdu_collect (W.kdl_dict lo) D G (by rw[p];exact hZ (le_of_lt o) Zd) λa tk l H q=>?_;have g:StrsAre l.toList c:=oQ (by rw[Array.length_toList,q.1,p]) λi v I=>by
  obtain⟨k,x,J,K⟩:=q.2 i v (by simpa using I);have j:(kvs.map (·.1))[i]?=some k:=by rw[fB,J];rfl
  rw[n,fB]at j;cases r:c[i]? with
  | none=>rw[r]at j;cases j
  | some y=>
   rw[r]at j;cases j;rcases bC (show iA (Sum.inr y) v=true from K) with⟨_,_,e,_⟩|⟨z,t,e,L⟩
   ·cases e
   ·cases e;exact⟨_,t,rfl,L⟩
 generalize l.toList=vs at g;have u:vs.length<64:=by rw[g.length];exact o
 apply ZZ;apply wpAny_newList
 ·have g2:(a.push (seqObj "list" vs.toArray 0)).get? a.objs.size=some (seqObj "list" vs.toArray 0):=ZS _ rfl;apply ZZ;apply wpAny_holding;refine wpAny_call_entry slot_list_sort ⟨_,g2,rfl⟩ entry_list_sort (list_sort_treeK (s:={s with heap:=a.push (seqObj "list" vs.toArray 0),toks:=tk }) strKind_oneLt g2 g.keysOf (λU V rest e=>keyKind_strs (by rw[<- e];exact g)) u λM N O=>⟨_,rfl,ZY ⟨_,rfl,?_⟩⟩) (args_list_sort _);obtain⟨Y,P,R,S⟩:=sorted_out_str g N O;obtain⟨e,T⟩:=sortedHeap_at (out:=(arrOf M).map (·.2)) g2;refine h a _ _ _ e H (λb f B=>?_) T (Rr R S▸P);have C:=Heap.lt_size B;rw[sortedHeap_old (ne_of_lt C) (by rw[size_push'];exact Nat.lt_succ_of_lt C)];exact iE _ B
 ·exact hZ (le_of_lt u) Zd
end
section
variable {X:Cx}
def oS:List V->Hp->VK->Prop:=λvs H Q=>match vs with
 | [.ref a]=>∃(b:List Str)(c:List (aX×V)),Rd H a (.dK c)/\c.map (·.1)=b.map Sum.inr/\b.length<64/\∀l,H l=none->Q (.ref l) (aK H l (.lst ((mW b).map V.str)))
 | _=>False
def Az(g:X.calm=true):CallR X (.builtin "sorted") oS:=by
 intro y s D H A B Q I r h;unfold oS at h;split at h
 ·rename_i a;obtain⟨i,z,j,l,b,q⟩:=h;obtain⟨u,rfl,m⟩:=iB r;cases m;obtain⟨_,n,vs,d,p⟩:=kO I.hok j;refine uF (I.ok.hd g) n p (by rw[<- d.keys];exact l) b λt C tk f e v k w x=>?_;have c:=I.kept (t':=s.toks) v;refine⟨.ref t.objs.size,_,c.laid (t':=tk) (o:=.lst ((mW i).map V.str)) k (bQ _) ⟨?_,f.toList,e,qN x,w⟩,rfl,q _ (c.hok.fresh (bQ _))⟩;rw[bF,nO];exact hZ (le_of_lt b) Zd
 ·exact h.elim
def R.gm(a:X.calm=true):XC X (.builtin "sorted") oS:=⟨Az a⟩
end
def sC:typeLookup (.type "list") "keys"=pure none:=am_miss_of_fast (by kernel_rfl)
def jD:plainId "dict.update.loop"=true:=by decide +kernel
def qO:entryFor table "dict.update.loop"=some Builtin.«dict.update.loop»:=entryFor_of_tree (by kernel_rfl)
section
variable {prog:Program}{w:World}{A:Around}{E:Z8}{s:ZP}
def Kt{a:ZR}{o:Obj}{xs:Array Value}{k:Nat}{Q:Option ZQ->ZP->Prop}(f:s.heap.get? a=some o)(i:o.cls=.type "list")(j:o.data=.seq xs k)(l:o.dict=none)(r:A.handled=none)(h:∀h' tk,(∀b m,s.heap.get? b=some m->h'.get? b=some m)->Q none {s with heap:=h',toks:=tk }):wpAny (model prog w) A (getAttr? (.ref a) "keys") Q E s:=by
 obtain⟨c,dct,v,sl⟩:=o;simp only at i j l;subst i j l;obtain⟨t,g,d,tk,os⟩:=s;have n:∀p,(⟨t,g,d,p,os⟩:ZP).TypeIs (.ref a) "list":=λ_=>⟨_,f,rfl⟩
 have f1:=sub_AttributeError;have x:=F.slot_list_getattribute.lookup;have y:=F.slot_list_getattribute.bind (.ref a);have z:=am_list_getattr_none;have u:=sC;unfold getAttr? getAttrBy? getAttrBy
 repeat (any_goals (first|assumption|exact n _|((with_reducible show wpAny _ _ (call (Value.builtin "list.__getattribute__") _ _) _ _ _);refine call_meets F.slot_list_getattribute (n _) am_entry_list_getattribute (F.args_list_getattribute_2 _ _) (meets_getattribute_miss_list a xs k sl "keys" _ u Zk) ⟨f,r,λh' p e q=>?_⟩)|wp_step))
 obtain⟨B,C,D⟩:=q.there;show wpAny _ _ (getattributeRaised _ _ _ _ _ _ _) _ _ _;unfold getattributeRaised;repeat (any_goals (first|assumption|wp_step))
 exact h _ _ q.keeps
def Nr(h:Heap)(v:ZQ)(q:aX×V):Prop:=∃a u x,v=Value.ref a/\IsTup h a #[u,x]/\RelV (kV q.1) u/\RelV q.2 x
def Ff(W:A.handled=none){I l d:ZR}{its:List ZQ}{qs:List (aX×V)}{R:Result->ZP->Prop}{res:ZQ}(X:I≠l)(B:I≠d)(Y:l≠d) :
  ∀(k i:Nat)(s:ZP)(kvs:List (aX×V))(vs:List (aX×ZQ))(z:Int),its.length-i=k->i<=its.length->qs.length=its.length->s.heap.IsListIter I l i->s.heap.IsList l its.toArray->(∀(j:Nat)(v:ZQ)(q:aX×V),its[j]?=some v->qs[j]?=some q->Nr s.heap v q) →
  (∀(j:Nat)(v:ZQ)(a:ZR),its[j]?=some v->v=Value.ref a->a≠I/\a≠d)->s.heap.DictOf (aM prog w) d vs->KV kvs vs->kvs.length+k<=1000 →
  (∀h' tk g,(∀b c,b≠I->b≠d->s.heap.get? b=some c->h'.get? b=some c)->h'.DictOf (aM prog w) d g->KV (aP kvs (qs.drop i)) g->R (.ok (.ret res)) {s with heap:=h',toks:=tk }) →
  codeAny (model prog w) A (.builtin "dict.update.loop" ⟨[.ref d,.ref I,.int z 0,res],[]⟩) R s:=by
 intro k;induction k with
 | zero=>
  intro i s kvs vs z Z hi h y m C p D f hz F;obtain rfl:i=its.length:=by omega
  refine codeAny_builtin qO ?_;rw[Around.under_plainId jD _];show wpAny _ A.in1 (pyNext (.ref I)>>=_) _ _ s;apply ZZ;refine wpAny_pyNext_list_end W y m Zs λh' M=>?_;show wpAny _ A.in1 (Builtin.Dict.addKeywords d []>>=_) _ _ _;apply ZZ;apply ZY;apply ZY;refine F h' s.toks vs (λb c hb _ e=>M b c hb e) (D.extBut M B.symm) ?_;rw[<- h,List.drop_length];exact f
 | succ k ih=>
  intro i s kvs vs z Z hi h y m C p D f hz F;have N:i<its.length:=by omega
  obtain⟨v,G⟩:∃v,its[i]?=some v:=⟨its[i],by simp[N]⟩;obtain⟨q,H⟩:∃q,qs[i]?=some q:=⟨qs[i],by simp[h,N]⟩;obtain⟨a,u,x,rfl,⟨c,we,EC,n,HG⟩,ru,rx⟩:=C i v q G H;obtain⟨na,nd⟩:=p i _ a G rfl;refine codeAny_builtin qO ?_;rw[Around.under_plainId jD _];show wpAny _ A.in1 (pyNext (.ref I)>>=_) _ _ s;apply ZZ;refine wpAny_pyNext_list_item y m (x:=.ref a) (by simpa using G) λh' X9 J=>?_;have O:h'.get? a=some c:=(J.2 a na).trans we;have xn:h'.DictOf (aM prog w) d vs:=D.extBut J.extBut B.symm;apply ZZ;apply wpAny_holding;apply ZZ;apply wpAny_tryCatch;unfold Builtin.Dict.pairItems;apply ZZ;refine wpAny_typeOf (T:="tuple") ⟨c,O,EC⟩ ?_;rw[ZO Zd];apply ZZ;refine wpAny_seqItems O HG ?_;apply ZY;show wpAny _ _ (holding [u,x] (dictSet d u x)) _ _ _;apply wpAny_holding;have EL:vs.length<=sizeLine:=by rw[<- f.length];exact eO Zo
  refine wpAny_dictSet_pairs (s:={s with heap:=h' }) (iC ru) xn (λh2 U P=>?_) EL;apply ZY;refine⟨plainId_quiet jD _,?_⟩;have XU:=cC kvs q.1 q.2;have K:∀b o,b≠I->b≠d->s.heap.get? b=some o->h2.get? b=some o:=λb o r t e=>(P.2 b t).trans ((J.2 b r).trans e)
  refine ih (i+1) _ (bT kvs q.1 q.2) (stored vs q.1 x) _ Zo Zo h ?_ ?_ ?_ p U (f.put q.1 rx) Zo λh3 tk g k3 X2 HH=>?_
  ·exact X9.at λo e=>(P.2 I B).trans e
  ·obtain⟨o,e,a0⟩:=m;exact⟨o,K l o X.symm Y e,a0⟩
  ·intro j v q' Q P7;obtain⟨L,u',x',rfl,⟨S,P4,r'⟩,rr⟩:=C j v q' Q P7;obtain⟨n1,n2⟩:=p j _ L Q rfl;exact⟨L,u',x',rfl,⟨S,K L S n1 n2 P4,r'⟩,rr⟩
  ·refine F h3 tk g (λb o r t e=>k3 b o r t (K b o r t e)) X2 ?_;have e1:qs.drop i=q::qs.drop (i+1):=by
    rw[List.drop_eq_getElem_cons Zo]
    congr 1
    have:qs[i]?=some qs[i]:=cD Zo;rw[this]at H;exact Option.some.inj H
   rw[e1];exact HH
def uG(G:A.handled=none){l:ZR}{o:Obj}{n:Nat}{its:List ZQ}{qs:List (aX×V)}{Q:Z8}(H:s.heap.get? l=some o)(f:o.cls=.type "list")(m:o.data=.seq its.toArray n)(S:o.dict=none)(I:qs.length=its.length)(J:∀(j:Nat)(v:ZQ)(q:aX×V),its[j]?=some v->qs[j]?=some q->Nr s.heap v q)(hz:its.length<=1000)(a0:∀h' tk g,(∀b c,s.heap.get? b=some c->h'.get? b=some c)->h'.DictOf (aM prog w) s.heap.objs.size g->KV (aP [] qs) g->Q (.ref s.heap.objs.size) {s with heap:=h',toks:=tk }) :
  wpAny (model prog w) A (call (.type "dict") [.ref l]) Q E s:=by
 refine callType_codes (Q₁:=λobj C=>obj=.ref s.heap.objs.size/\C={s with heap:=s.heap.push {cls:=.type "dict",data:=.dict #[] } }) F.kt_called_dict (F.kt_typeCall_dict_1 _) F.entry_dict_init (kt_code_dict_new _ ⟨rfl,rfl⟩) ?_;rintro obj C ⟨rfl,rfl⟩;have p:(s.heap.push {cls:=.type "dict",data:=.dict #[] }).DictOf (aM prog w) s.heap.objs.size []:=Heap.DictOf.new s.heap;have t:(s.heap.push {cls:=.type "dict",data:=.dict #[] }).get? l=some o:=iE _ H;refine⟨p.typeIs,F.args_dict_init_2 _ _,?_⟩;unfold Builtin.«dict.__init__»;apply ZZ;unfold Builtin.Dict.selfAndRest;apply ZZ;refine wpAny_notOrdered_dict p.typeIs ?_;show wpAny _ _ (pure (s.heap.objs.size,[Value.ref l])) _ _ _;apply ZY;show wpAny _ _ (Builtin.Dict.updateFrom "dict.__init__" s.heap.objs.size (.ref l) [] .none) _ _ _;unfold Builtin.Dict.updateFrom;apply ZZ;refine wpAny_typeOf (T:="list") ⟨o,t,f⟩ ?_;rw[ZO Zd];apply ZZ;refine Kt t f m S G λd tk h=>?_;rw[ZO (show(none:Option ZQ).isNone=true from rfl)];apply ZZ;apply wpAny_rule;have K:d.get? l=some o:=h _ _ t;have U:d.IsList l its.toArray:=⟨o,K,f,n,m⟩;have D:d.DictOf (aM prog w) s.heap.objs.size []:=by
  obtain⟨L,M,N,y,r⟩:=p;exact⟨L,M,N,h _ _ y,r⟩
 have i:s.heap.objs.size<d.objs.size:=by
  obtain⟨L,M,N,y,r⟩:=D;exact Heap.lt_size y
 have O:l<s.heap.objs.size:=Heap.lt_size H;apply ZZ;refine wpAny_pyIter_list (s:={s with heap:=d,toks:=tk }) U ?_;apply ZY;refine⟨plainId_quiet jD _,?_⟩;refine Ff (A:=A.in1) (s:={s with heap:=d.push {cls:=.type "list_iterator",data:=.fields #[.ref l,.int 0 0] },toks:=tk }) (its:=its) (qs:=qs) (l:=l) G (ne_of_gt (lt_trans O i)) (ne_of_gt i) (ne_of_lt O) its.length 0 [] [] 0 rfl (zero_le _) I ⟨_,ZS _ rfl,rfl,rfl⟩ ?_ ?_ ?_ (D.push _) .nil (by simpa using hz) ?_
 ·exact⟨o,iE _ K,f,n,m⟩
 ·intro j v q k z;obtain⟨a,u,x,rfl,⟨c,B,r⟩,P⟩:=J j v q k z;exact⟨a,u,x,rfl,⟨c,iE _ (h _ _ (iE _ B)),r⟩,P⟩
 ·intro j v a k e;obtain⟨q,z⟩:∃q,qs[j]?=some q:=by
   have:j<its.length:=(Zgs.mp k).1;exact⟨qs[j],by simp[I,this]⟩
  obtain⟨a',u,x,R,⟨c,B,r⟩,P⟩:=J j v q k z;rw[e]at R;cases R;have:=Heap.lt_size B;exact⟨ne_of_lt (lt_trans this i),ne_of_lt this⟩
 ·intro h' W g X Y Z;refine⟨rfl,a0 h' W g (λb c e=>?_) Y Z⟩;have:=Heap.lt_size e;exact X b c (ne_of_lt (lt_trans this i)) (ne_of_lt this) (iE _ (h _ _ (iE _ e)))
end
section
variable {X:Cx}
abbrev W:=Addr×aX×V
def Za(H:Hp)(a:List W):Prop:=∀z∈a,H z.1=some (.tup [kV z.2.1,z.2.2])
def sD(K:W.Frag):List V->Hp->VK->Prop:=λvs H Q=>match vs with
 | [.ref a]=>∃b:List W,SqL K H a (b.map λz=>V.ref z.1)/\Za H b/\b.length<=1000/\∀d,H d=none->Q (.ref d) (aK H d (.dK (aP [] (b.map (·.2)))))
 | _=>False
def Fg(m:X.calm=true):CallR X (.type "dict") (sD X.K):=by
 intro P s Z H R S Q I r h;unfold sD at h;split at h
 ·rename_i a0;obtain⟨a,p,t,T,q⟩:=h;obtain⟨a3,rfl,u⟩:=iB r;cases u;obtain⟨d,g,w,_⟩:=I.list p;obtain⟨o,n,x,y,A,f⟩:=w;have B:a.length=d.length:=by
   have:=g.length;rw[bF]at this;exact this
  refine uG (I.ok.hd m) x y f A (qs:=a.map (·.2)) (by rw[bF];exact B) (λj v U C b=>?_) Zo λW tk D k f l=>?_
  ·rw[fB]at b;cases c:a[j]? with
   | none=>rw[c]at b;cases b
   | some z=>
    rw[c]at b;cases b;have e:=t z (dB c);obtain⟨_,Y,E,it⟩:=(show ObjOk X.prog X.w H s.heap z.1 (.tup [kV z.2.1,z.2.2]) from I.hok _ _ e);have F:j<a.length:=(Zgs.mp c).1;have i:RelV (V.ref z.1) (d.getD j Value.none):=jC j g (by rw[bF];exact F) _ (by rw[fB,c];rfl);have G:d.getD j Value.none=v:=by rw[getD_eq_getElem?_getD,C];rfl
    rw[G]at i;cases i
    cases E with
    | cons J K=>
     cases K with
     | cons L M=>
      cases M;exact⟨z.1,_,_,rfl,it,J,L⟩
  ·have N:H s.heap.objs.size=none:=I.hok.fresh (bQ _);refine⟨.ref s.heap.objs.size,_,I.laid (t':=tk) (o:=.dK (aP [] (a.map (·.2)))) k (bQ _) ⟨?_,?_,D,l,f⟩,rfl,q _ N⟩
   ·have:=dU (a.map (·.2)) [];rw[bF]at this;exact eO (by simp at this;omega)
   ·have O:=I.big;exact beq_eq_false_iff_ne.mpr (ne_of_gt O)
 ·exact h.elim
def R.gs{K:W.Frag}(a:X.calm=true)(b:X.K=K:=by rfl):XC X (.type "dict") (sD K):=b▸⟨Fg a⟩
end
def Zb(a:ZR)(o:Obj)(kvs:List (aX×V)):It:=
 ⟨λi H=>H a=some (.frz o (.dK kvs))/\i<kvs.length,λi H x b=>b=H/\(kvs.map λq=>kV q.1)[i]?=some x,λi H=>H a=some (.frz o (.dK kvs))/\kvs.length<=i⟩
def Ku(a:ZR)(o:Obj)(kvs:List (aX×V)):uB (Zb a o kvs) (kvs.map λq=>kV q.1) (λH=>H a=some (.frz o (.dK kvs))):=
 ⟨λi H b e=>⟨e,by rwa [bF]at b⟩,λi H x c _ _ y=>y,λH e=>⟨e,by rw[bF];exact bQ _⟩⟩
section
variable {X:Cx}{pins:Z9}{σ:St}{H:Hp}{s:ZP}{a:ZR}{o:Obj}{kvs:List (aX×V)}
def wQ{P:Program}{w:World}{h:Heap}(ok:HOk P w H h)(e:H a=some (.frz o (.dK kvs))):h.get? a=some o/\(a==sysModules)=false/\∃vs b,KV kvs vs/\(∃c,o.data=.dict c b)/\h.DictAt (aM P w) a vs b:=by
 obtain⟨d,z,j,vs,i,k⟩:=(show ObjOk P w H h a (.frz o (.dK kvs)) from ok a _ e);obtain⟨b,f⟩:=k.dictAt;obtain⟨m,c,g,n,l,p⟩:=id f;rw[d]at g;cases g;exact⟨d,j,vs,b,i,⟨c,l⟩,f⟩
def Fi{P:Program}{w:World}{K:W.Frag}{T:Expr}(a it:ZR){n:Nat}(O:∃x,o.data=.dict x n):rH P w K T (Zb a o kvs) [it] it (λi h=>h.IsKeyIter it a i kvs.length n) where
 mem:=by simp
 obj:=λi h st b f=>by
  obtain rfl:b=it:=by simpa using f
  obtain⟨g,e,c,d⟩:=st;exact⟨g,e,λv z=>by rw[d]at z;cases z⟩
 keep:=λi h p st k=>st.at λg e=>k it Zs g e
 item:=by
  intro X y A B Q i pins s σ H a0 I q st C;subst y A B;obtain⟨D,U⟩:=C;obtain⟨V,lo,vs,E,m,⟨Y,j⟩,F⟩:=wQ I.hok D;obtain⟨x,G⟩:=O;obtain rfl:E=n:=by
   rw[G]at j;cases j;rfl
  have r:=m.length;obtain⟨⟨k,a2⟩,R⟩:∃a1,vs[i]?=some a1:=⟨vs[i],cD Zo⟩;have l:(kvs.map (·.1))[i]?=some k:=by rw[m.keys,fB,R];rfl
  obtain⟨J,f1,f2,L,M,N⟩:=q it Zs;rw[r]at st;refine wpAny_pyNext_dict_item st F R λu p Z S sb=>?_
  have I1:Inv X pins σ H {s with heap:=p }:=I.turned (t':=s.toks) (λb g f e=>(sb.2 b f).trans e) J f1 L M N;obtain⟨g,e,c,d⟩:=id S;have rk:RelV (kV k) u:=by
   rcases bC (show iA k u=true from Z) with⟨a3,t,rfl,rfl⟩|⟨z,t,rfl,rfl⟩
   ·exact⟨t,rfl⟩
   ·exact⟨t,rfl⟩
  refine⟨u,rfl,qC (s:={s with heap:=p }) e c d Zd ⟨kV k,H,I1,rk,⟨rfl,?_⟩,by rw[r];exact S,λb f=>(q b f).1⟩⟩;rw[fB]at l ⊢;cases z:kvs[i]? with
  | none=>rw[z]at l;cases l
  | some a4=>rw[z]at l;cases l;rfl
 done:=by
  intro X y A B Q i pins s σ H a0 I q st C;subst y A B;obtain⟨D,U⟩:=C;obtain⟨V,lo,vs,E,m,⟨Y,j⟩,F⟩:=wQ I.hok D;obtain⟨x,G⟩:=O;obtain rfl:E=n:=by
   rw[G]at j;cases j;rfl
  have r:=m.length;rw[r]at st;obtain⟨J,f1,f2,L,M,N⟩:=q it Zs;exact wpAny_pyNext_dict_end (I.ok.hd Q) st F (List.getElem?_eq_none Zo) λp eb=>⟨rfl,I.turned (t':=s.toks) (λb g f e=>eb b g f e) J f1 L M N⟩
 self:=λ_ _ _ _ _ st h=>wpAny_pyIter_keyiter st h
def Inv.freeze(I:Inv X pins σ H s)(e:H a=some (.dK kvs)):∃c,s.heap.get? a=some c/\Inv X pins σ (aK H a (.frz c (.dK kvs))) s:=by
 obtain⟨z,h,vs,f,d⟩:=oE I.hok e;obtain⟨c,i,j,g,r⟩:=id d;refine⟨c,g,?_⟩;have:=I.write (t':=s.toks) (h':=s.heap) (x:=a) (e:=a) (o:=.frz c (.dK kvs)) (by rw[e];exact True.intro) (.inl rfl) (λb u _ q=>q) ⟨c,g⟩ ⟨g,z,h,vs,f,d⟩;exact this
def Wp(c:TE):TI:=λσ H R=>c σ H λx b=>mR x λa=>∃kvs,b a=some (.dK kvs)/\∀o,R (Zb a o kvs) (aK b a (.frz o (.dK kvs)))
def Rs{m l:Expr}{i:TE}(n:PE X l i):PI X m l (Wp i):=by
 intro pins s σ H R I h;refine bP (n pins s σ H _ I h) ?_;rintro v c ⟨x,p,r,t,f⟩
 (try dsimp only at f);rw[cO]at f;obtain⟨a,rfl,kvs,e,q⟩:=f;cases t;obtain⟨j,g,d⟩:=r.freeze e;obtain⟨A,lo,vs,B,k,u,w⟩:=wQ d.hok (aA (a:=a));have y:(aK p a (.frz j (.dK kvs))) c.heap.objs.size=none:=d.hok.fresh (bQ _);refine wpAny_pyIter_dict lo w ?_;refine⟨c.heap.objs.size,[c.heap.objs.size],_,_,_,rfl,d.kept (t':=c.toks) λb o e=>iE _ e,Fi a _ u,⟨_,ZS _ rfl,rfl,?_⟩,λb z=>?_,q j⟩
 ·rw[k.length];rfl
 ·obtain rfl:b=c.heap.objs.size:=by simpa using z
  exact d.fpOk (bQ _) y
end
def Wq(K:W.Frag)(c:TE)(f:Str):TE:=λe H Q=>c e H λx b=>mR x λa=>∃C d fs v,b a=some (.ins C d fs)/\Cls K C/\NoAttr K C f/\fs.lookup f=some v/\Q v b
def Nt(K:W.Frag)(e tv:TE)(f:Str):TS:=λD b H=>tv b H λy g=>e b g λx c=>mR x λa=>∃C d fs,c a=some (.ins C d fs)/\Cls K C/\NoAttr K C f/\fs.length<1000/\D.nx b (aK c a (.ins C d (eS f y fs)))
section
variable {X:Cx}{e o value:Expr}{f:Str}{pos pos':Pos}{te ta tv:TE}{K:W.Frag}
def Kv(g:PE X e te)(i:attributeBase e f X.env (eval e X.env)=eval e X.env):PE X (.Attribute e f pos) (Wq X.K te f):=by
 intro d s w H Q I h;refine Jj i (bP (g d s w H _ I h) ?_);rintro u y ⟨x,j,k,m,b⟩;(try dsimp only at b);rw[cO]at b;obtain⟨a,rfl,C,z,fs,v,p,c,n,l,q⟩:=b;obtain rfl:u=Value.ref a:=m;exact vP k p c n l λA B r t=>⟨v,j,r,t,q⟩
def Kw(i:PE X o ta)(j:PE X value tv)(k:swapsWith value (some (.Attribute o f pos')) pos.line X.env=pure false):PS X (.Assign [.Attribute o f pos'] value pos) (Nt X.K ta tv f):=by
 intro g s d H D I h;refine plainObj_wpAny_Assign_Attribute (bP (j g s d H _ I h) λu m ⟨y,p,r,t,q⟩=>bP (i g m d p _ r q) ?_) k;rintro v F ⟨x,G,w,z,b⟩;(try dsimp only at b);rw[cO]at b;obtain⟨a,rfl,C,J,fs,A,c,n,l,B⟩:=b;obtain rfl:v=Value.ref a:=z;exact vQ w A c n l t λL E=>⟨d,_,E,B⟩
end
structure kL(P:Program)(w:World)(K:W.Frag)(mg:Z7)(base:Heap)(n:Nat)(C:ZR)(m:Str)(ps:List Str)(sp:Sp):Prop where
 ex:∃f fd,Cls K C/\Px K C m f/\iI P w K mg base nN n f fd ps sp/\Binds K fd ps []
structure Xs(P:Program)(w:World)(K:W.Frag)(mg:Z7)(base:Heap)(n:Nat)(x:Str)(C:ZR)(ps:List Str)(dvs:List V)(sp:Sp):Prop where
 ex:∃f fd ds,mg x=some (.ref C)/\Mk K C f/\iI P w K mg base nN n f fd ps sp/\Binds K fd ps ds/\Vals dvs ds
def qP(C:ZR)(m:Str)(sp:Sp)(d:TE)(t:TA):TE:=λc H Q=>d c H λx b=>mR x λa=>∃e fs,b a=some (.ins C e fs)/\fs.lookup m=none/\t c b λvs f=>sp (.ref a::vs) f Q E0
section
variable {X:Cx}{e o:Expr}{es:List Expr}{m x:Str}{p pos apos:Pos}{ta:TE}{t:TA}{C:ZR}{n:Nat}{ps:List Str}{sp:Sp}{dvs:List V}
def Fj{pl:Sem Bool}(w:PE X o ta)(c:kL X.prog X.w X.K X.mg X.base n C m ps sp)(y:Room n X.A)(z:PA X (e::es) t)(A:aR e=true)(B:(backTo pos (starEach es X.env)).any (·.1)=false)(D:eval (.Call (.Attribute o m apos) (e::es) [] pos) X.env=(do
   let g←eval o X.env
   standAt apos.atName
   let (f,first)←holding [g] (getMethod g m pl)
   callWith pos f first (backTo pos (starEach (e::es) X.env)) (backToKw pos (keywordEach [] X.env)))) :
  PE X (.Call (.Attribute o m apos) (e::es) [] pos) (qP C m sp ta t):=by
 obtain⟨f,O,E,i,F,G⟩:=c.ex;intro d s v H Q I h;refine W.methodCall_KW (pl:=pl) (bP (w d s v H _ I h) ?_) D;rintro u J ⟨x,K,j,L,b⟩;(try dsimp only at b);rw[cO]at b;obtain⟨a,rfl,P,fs,M,l,q⟩:=b;obtain rfl:u=Value.ref a:=L;refine nW j M E i l ?_;refine W.callWith_K (first:=[.ref a]) (h₀:=X.base) I.ok.mod.kin i.kp (bP (z pos d J v K _ j q) λus R ⟨vs,S,k,r,N⟩=>⟨k.kIn,?_⟩) (bU A) B;exact vU (us:=.ref a::us) (vs:=.ref a::vs) (dvs:=[]) (ds:=[]) F y G .nil yE k (.cons rfl r) (by rw[append_nil];exact N)
def Ba{pl:Sem Bool}(k:PE X o ta)(c:kL X.prog X.w X.K X.mg X.base n C m ps sp)(r:Room n X.A)(v:eval (.Call (.Attribute o m apos) [] [] pos) X.env=(do
   let g←eval o X.env
   standAt apos.atName
   let (f,first)←holding [g] (getMethod g m pl)
   callWith pos f first (backTo pos (starEach [] X.env)) (backToKw pos (keywordEach [] X.env)))) :
  PE X (.Call (.Attribute o m apos) [] [] pos) (qP C m sp ta jR):=by
 obtain⟨f,D,w,i,F,y⟩:=c.ex;intro j s B H Q I h;refine W.methodCall_KW (pl:=pl) (bP (k j s B H _ I h) ?_) v;rintro u E ⟨x,G,b,z,d⟩;(try dsimp only at d);rw[cO]at d;obtain⟨a,rfl,J,fs,A,l,q⟩:=d;obtain rfl:u=Value.ref a:=z;refine nW b A w i l ?_;exact W.callWith_K0 (first:=[.ref a]) b.kIn i.kp (vU (us:=[.ref a]) (vs:=[.ref a]) (dvs:=[]) (ds:=[]) F r y .nil yE b (.cons rfl .nil) (by rw[append_nil];exact q))
end
structure FunD(K:W.Frag)(x qual:Str)(st:Stmt)(dv:ZQ)(f:ZR)(fd:FuncData):Prop where
 ex:∃(oc:ZQ)(od:Option ZR)(kV doc pm:ZQ)(an:Option ZR)(cdv ct:ZQ)(osl:Array (Option ZQ)),
  fd=W.fnOf x qual (cA st) (aY st) (aB st) dv kV doc pm an cdv ct/\K.lookup f=some ⟨oc,od,.func fd,osl⟩/\W.codeIn K cdv qual=true
section
variable {P:Program}{w:World}{K:W.Frag}{mg:Z7}{base:Heap}{x qual:Str}{st:Stmt}{dv:ZQ}{f C:ZR}{fd:FuncData}{N ps:List Str}{k:Nat}{sp:Sp}
def FunD.go(F:FunD K x qual st dv f fd)(S:aJ N ps (aB st))(len:∀vs H Q E,sp vs H Q E->vs.length=ps.length)(b:∀(a:ZQ)(A:Around)(outer:List Env)(s:ZP)(H:Hp)(vs:List V)(Q:VK)(E:XK),Room k (A.deeper (envOfC qual (aB st) s.heap.objs.size f a))->sp vs H Q E →
   ∃t,XB (iJ nN P w K mg base N qual (aB st) f a A outer s H E).nox (aY st) t/\t {nx:=λ_ c=>Q .non c,rt:=Q } (start N vs) H):iI P w K mg base nN (k+1) f fd ps sp:=by
 obtain⟨l,m,kV,i,n,o,a,p,j,rfl,lk,d⟩:=F.ex;refine Ni lk d S len λA outer s H vs Q E e g=>?_;obtain⟨t,h,q⟩:=b a A outer s H vs Q E e g;exact⟨t,h.h.nox,q⟩
structure MethAt(K:W.Frag)(C:ZR)(m qual:Str)(st:Stmt)(ps:List Str):Prop where
 cl:Cls K C
 ex:∃f fd,Fun K m qual st f fd/\Px K C m f/\Binds K fd ps []
def MethAt.gg{m:Str}(D:MethAt K C m qual st ps)(S:aJ N ps (aB st))(b:∀(f:ZR)(a:ZQ)(A:Around)(outer:List Env)(s:ZP)(H:Hp)(vs:List V)(Q:VK)(E:XK),Room k (A.deeper (envOfC qual (aB st) s.heap.objs.size f a))->sp vs H Q E →
   ∃t,XB (iJ nN P w K mg base N qual (aB st) f a A outer s H E).nox (aY st) t/\t {nx:=λ_ c=>Q .non c,rt:=Q } (start N vs) H)(len:∀vs H Q E,sp vs H Q E->vs.length=ps.length:=by intro vs H Q E h;repeat (first | (obtain⟨rfl,_⟩:=h;rfl) | obtain⟨_,h⟩:=h)):kL P w K mg base (k+1) C m ps sp:=by
 obtain⟨f,fd,F,d,e⟩:=D.ex;exact⟨f,fd,D.cl,d,F.go S len (b f),e⟩
structure ClsAt(K:W.Frag)(mg:Z7)(x:Str)(C:ZR)(qual:Str)(st:Stmt)(ps:List Str)(dvs:List (List V)):Prop where
 ex:∃f fd dv,mg x=some (.ref C)/\FunD K "__init__" qual st dv f fd/\Mk K C f/\∀d∈dvs,∃ds,Binds K fd ps ds/\Vals d ds
def ClsAt.go{dvs:List (List V)}(D:ClsAt K mg x C qual st ps dvs)(S:aJ N ps (aB st))(len:∀vs H Q E,sp vs H Q E->vs.length=ps.length)(c:∀(f:ZR)(a:ZQ)(A:Around)(outer:List Env)(s:ZP)(H:Hp)(vs:List V)(Q:VK)(E:XK),Room k (A.deeper (envOfC qual (aB st) s.heap.objs.size f a))->sp vs H Q E →
   ∃t,XB (iJ nN P w K mg base N qual (aB st) f a A outer s H E).nox (aY st) t/\t {nx:=λ_ g=>Q .non g,rt:=Q } (start N vs) H):∀d∈dvs,Xs P w K mg base (k+1) x C ps d sp:=by
 intro d h;obtain⟨f,fd,dv,e,F,M,i⟩:=D.ex;obtain⟨j,b,v⟩:=i d h;exact⟨f,fd,j,e,M,F.go S len (c f),b,v⟩
end
namespace R
section
variable {X:Cx}{e o i value:Expr}{es:List Expr}{m x f:Str}{p pos pos' apos:Pos}{te ta tv td ty:TE}{t:TA}{C:ZR}{n:Nat}{ps:List Str}{sp:Sp}{dvs:List V}{K:W.Frag}{tg:Expr}
def wD(a:XE X e te):XI X tg e (Wp te):=⟨Rs a.h⟩
def bj(a:XE X e te)(b:X.K=K:=by rfl)(c:attributeBase e f X.env (eval e X.env)=eval e X.env:=by rfl):XE X (.Attribute e f pos) (Wq K te f):=b▸⟨Kv a.h c⟩
def ft(a:XE X o ta)(b:XE X value tv)(c:X.K=K:=by rfl)(d:swapsWith value (some (.Attribute o f pos')) pos.line X.env=pure false:=by rfl):XS X (.Assign [.Attribute o f pos'] value pos) (Nt K ta tv f):=c▸⟨Kw a.h b.h d⟩
def bz(a:X.A.units+1<cLine)(b:XE X o td)(c:XE X i ty)(d:Qj i:=by exact λ_ _=>rfl):XE X (.Subscript o i pos) (Nm td ty):=⟨Js a b.h c.h d⟩
def bu{pl:Sem Bool}{a:Nat}(c:kL X.prog X.w X.K X.mg X.base n C m ps sp)(d:Room a X.A)(g:XE X o ta)(h:XA X (e::es) t)(j:aR e=true:=by rfl)(k:es.all aR=true:=by rfl)(l:eval (.Call (.Attribute o m apos) (e::es) [] pos) X.env=(do
   let b←eval o X.env
   standAt apos.atName
   let (f,first)←holding [b] (getMethod b m pl)
   callWith pos f first (backTo pos (starEach (e::es) X.env)) (backToKw pos (keywordEach [] X.env))):=by rfl)(q:n<=a:=by decide):XE X (.Call (.Attribute o m apos) (e::es) [] pos) (qP C m sp ta t):=⟨Fj g.h c (d.mono q) h.h j (gG k) l⟩
def eh{pl:Sem Bool}{a:Nat}(c:kL X.prog X.w X.K X.mg X.base n C m ps sp)(d:Room a X.A)(g:XE X o ta)(h:eval (.Call (.Attribute o m apos) [] [] pos) X.env=(do
   let b←eval o X.env
   standAt apos.atName
   let (f,first)←holding [b] (getMethod b m pl)
   callWith pos f first (backTo pos (starEach [] X.env)) (backToKw pos (keywordEach [] X.env))):=by rfl)(j:n<=a:=by decide):XE X (.Call (.Attribute o m apos) [] [] pos) (qP C m sp ta jR):=⟨Ba g.h c (d.mono j) h⟩
def ki{a:Nat}(c:Xs X.prog X.w X.K X.mg X.base n x C ps dvs sp)(b:Room a X.A)(d:Gl X x)(g:(x==("__debug__":Str))=false:=by decide)(h:n+1<=a:=by decide) :
  XE X (.Call (.Name x p) [] [] pos) (Cu C sp dvs E0 jR):=by
 obtain⟨f,q,r,j,M,F,k,l⟩:=c.ex;exact⟨Cw M F (b.mono h) d j k l yE g⟩
end
end R
def iP(a:List (Str×Int)):List (aX×V):=a.map λq=>(Sum.inr q.1,V.int q.2)
def bE(a:List (Str×Int))(n:Str):Int:=(a.lookup n).getD 0
def uH(a:List (Str×Int)):(iP a).map (·.1)=(a.map (·.1)).map Sum.inr:=by
 unfold iP;rw[map_map,map_map];rfl
theorem kX(n:Str):∀(a:List (Str×Int)),aT (iP a) (Sum.inr n)=(a.lookup n).map V.int
 | []=>rfl
 | q::r=>by
  unfold iP;rw[map_cons,lookup_cons];by_cases h:n=q.1
  ·subst h;rw[bL rfl];simp
  ·have b:(n==q.1)=false:=beq_eq_false_iff_ne.mpr h;rw[bG (by intro z;exact h (Sum.inr.inj z).symm),b];exact kX n r
def kY(a:List (Str×Int))(n:Str):(aT (iP a) (Sum.inr n)).getD (V.int 0)=V.int (bE a n):=by
 rw[kX];unfold bE;cases a.lookup n<;>rfl
theorem jE:∀(more kvs:List (aX×V)),(more.map (·.1)).Nodup->(∀k∈more.map (·.1),aT kvs k=none)->aP kvs more=kvs++more
 | [],kvs,_,_=>(append_nil _).symm
 | p::r,kvs,b,h=>by
  obtain⟨c,d⟩:=nodup_cons.mp b;show aP (bT kvs p.1 p.2) r=_;have e:aT kvs p.1=none:=h p.1 Zs;rw[jE r _ d λk a=>?_,oA _ e]
  ·simp
  ·rw[eE,ZN (λ(z:k=p.1)=>c (by dsimp only;rw[<- z];exact a))];exact h k (nD _ a)
def qQ:∀ {l:List Str},l.Nodup->(l.map (Sum.inr:Str->aX)).Nodup
 | [],_=>nodup_nil
 | a::l,h=>by
  obtain⟨c,d⟩:=nodup_cons.mp h;refine nodup_cons.mpr ⟨λz=>?_,qQ d⟩;obtain⟨b,f,e⟩:=Zmm.mp z;cases e;exact c f
def Bb{a:List (Str×Int)}(h:(a.map (·.1)).Nodup):aP [] (iP a)=iP a:=by
 rw[jE _ _ (by rw[uH];exact qQ h) λ_ _=>rfl];rfl
theorem gT{n:Str}:∀ {b:List (Str×Int)},n∈b.map (·.1)->∃a,b.lookup n=some a
 | q::r,h=>by
  rw[lookup_cons];by_cases e:n=q.1
  ·subst e;exact⟨q.2,Zs⟩
  ·have c:(n==q.1)=false:=beq_eq_false_iff_ne.mpr e;rw[c];rcases mem_cons.mp h with z|z
   ·exact ZM z e
   ·exact gT z
def Rt(H:Hp)(r:V)(b:List (Str×Int)):Prop:=(r=.non/\b=[])∨∃l a,r=.ref l/\H l=some (.lst (iF a))/\ZAt H a/\a.map (·.2)=b
def wz(a:List Z):List W:=a.map λz=>(z.1,Sum.inr z.2.1,V.int z.2.2)
def Ru(a:List Z):((wz a).map λz=>V.ref z.1)=iF a:=by
 unfold wz iF;rw[map_map];rfl
def Wr{H:Hp}{a:List Z}(h:ZAt H a):Za H (wz a):=λz b=>by
 obtain⟨y,c,rfl⟩:=Zmm.mp b;exact h y c
def Rv(a:List Z):(wz a).map (·.2)=iP (a.map (·.2)):=by
 unfold wz iP;rw[map_map,map_map];rfl
def Zc(y:V):eS "amounts" y []=[(("amounts":Str),y)]:=rfl
def Fk(qs:List (Str×Int)):TV:=.ls (qs.map λq=>.tp [.sc (.str q.1),.sc (.int q.2)])
def Fl{H:Hp}{l:ZR}{a:List Z}(b:H l=some (.lst (iF a)))(c:ZAt H a):Rep H 2 (Fk (a.map (·.2))) (.ref l):=by
 refine⟨l,_,rfl,b,?_⟩;clear b;unfold iF;induction a with
 | nil=>exact .nil
 | cons z a d=>
  refine .cons ⟨z.1,_,rfl,c z fP,?_⟩ (d λy e=>c y (nD _ e));exact .cons (Rep.scal rfl) (.cons (Rep.scal rfl) .nil)
section
variable {X:Cx}
def R.fj(a:X.calm=true):XC X (.builtin "min") (λvs H Q=>match vs with | [.int i,.int j]=>Q (.int (if j<i then j else i)) H | _=>False):=⟨(Ab a).imp λvs H Q h=>by
 split at h
 ·exact⟨_,_,rfl,h⟩
 ·exact h.elim⟩
end
inductive DW(one other nm:Str)(n:Int):Str->List V->List (Str×Int)->List (Str×List V)->Prop
 | add:DW one other nm n "add" [.str "add",.str nm,.int n] [(nm,n)] []
 | take:DW one other nm n "take" [.str "take",.str nm,.int n] [(nm,-n)] []
 | move:DW one other nm n "move" [.str "move",.str one,.str other,.int n] [(one,-n),(other,n)] []
 | send:DW one other nm n "send" [.str "send",.str one,.str nm,.int n] [(nm,-n)] [(one,[.str "add",.str nm,.int n])]
 | fetch:DW one other nm n "fetch" [.str "fetch",.str one,.str nm,.int n] [(nm,n)] [(one,[.str "take",.str nm,.int n])]
 | pass:DW one other nm n "pass" [.str "pass",.str one,.str other,.str nm,.int n] [] [(one,[.str "take",.str nm,.int n]),(other,[.str "add",.str nm,.int n])]
structure Xt(wd:Str)(xs:List V)(cs:List (Str×Int))(as:List (Str×List V)):Prop where
 ex:∃one other nm n,DW one other nm n wd xs cs as
def AskAt(H:Hp)(q:Str×List V)(v:V):Prop:=∃a d,v=.ref a/\H a=some (.tup [.str q.1,.ref d])/\H d=some (.tup q.2)
def AskAt.same{H b:Hp}{q:Str×List V}{v:V}(s:Same H b)(h:AskAt H q v):AskAt b q v:=by
 obtain⟨a,d,e,c,f⟩:=h;exact⟨a,d,e,s _ _ c,s _ _ f⟩
def mD:Sp:=λvs H Q _=>∃p wd c d e,vs=[.ref p]/\H p=some (.tup c)/\Xt wd c d e/\∀t b a,Same H a->a t=some (.tup (iF b))->ZAt a b->b.map (·.2)=d->Q (.ref t) a
def Fm:Sp:=λvs H Q _=>∃p wd b e c,vs=[.ref p]/\H p=some (.tup b)/\Xt wd b e c/\∀t d a,Same H a->a t=some (.tup d)->Paired (AskAt a) c d->Q (.ref t) a
def Rw:Bool->String|true=>"list_iterator"|false=>"tuple_iterator"
def ItAt(k:Bool)(h:Heap)(it a:ZR)(i:Nat):Prop:=∃o,h.get? it=some o/\o.cls=.type (Rw k)/\o.data=.fields #[.ref a,.int i 0]
def yU(k:Bool)(h:Heap)(a:ZR)(vs:Array Value):Prop:=match k with|true=>h.IsList a vs|false=>h.IsTuple a vs
def ItAt.by{k:Bool}{h h':Heap}{it a:ZR}{i:Nat}(x:ItAt k h it a i)(g:∀o,h.get? it=some o->h'.get? it=some o):ItAt k h' it a i:=let ⟨o,e,r⟩:=x;⟨o,g o e,r⟩
section
variable {prog:Program}{w:World}{A:Around}{E:Z8}{s:ZP}
def Kx{k:Bool}{it a:ZR}{i:Nat}{vs:Array Value}{x:ZQ}{Q:Z8}(d:ItAt k s.heap it a i)(e:yU k s.heap a vs)(f:vs[i]?=some x)(q:∀h',ItAt k h' it a (i+1)->Heap.SameBut it s.heap h'->Q x {s with heap:=h' }):wpAny (model prog w) A (Builtin.SmallTypes.nextOf (.ref it)) Q E s:=by
 cases k with
 | true=>exact wpAny_nextOf_list_item (show s.heap.IsListIter it a i from d) (show s.heap.IsList a vs from e) f q
 | false=>
  have g:s.heap.IsTupleIter it a i:=d;obtain⟨o,c,h,b⟩:=d;obtain⟨m,j,_,n,l⟩:=e;unfold Builtin.SmallTypes.nextOf;refine ZZ (wpAny_callSpecial?_slot (name:=Str.ofString "__next__") g.typeIs F.slot_tuple_iterator_next (wpAny_call_entry F.slot_tuple_iterator_next g.typeIs F.entry_tuple_iterator_next ?_ (F.args_tuple_iterator_next_1 _)));show wpAny (model prog w) _ (field (.ref it) 0>>=_) _ _ s;refine ZZ (wpAny_field c b (x:=.ref a) rfl ?_);show wpAny (model prog w) _ (if (Value.ref a==Value.none)=true then _ else _) _ _ s;rw[ZN (show ¬ ((Value.ref a==Value.none)=true) from ZX)];show wpAny (model prog w) _ (field (.ref it) 1>>=_) _ _ s;refine ZZ (wpAny_field (x:=.int i 0) c b rfl ?_);show wpAny (model prog w) _ (seqItems? (.ref a)>>=_) _ _ s;refine ZZ (wpAny_seqItems (j) l ?_);simp only [f,Int.toNat_natCast];refine ZZ (wpAny_setField c b Zs (ZY ⟨x,rfl,ZY (q _ ?_ (Heap.SameBut.update ..))⟩));exact⟨_,Heap.get?_update_self _ c (Obj.isFreed_of_fields (Obj.data_mapFields b _)),(Obj.cls_mapFields ..).trans h,by rw[Obj.data_mapFields b];simp[rawInt]⟩
def Rx{k:Bool}{it a:ZR}{i:Nat}{vs:Array Value}{Q:Z8}(c:A.handled=none)(b:ItAt k s.heap it a i)(g:yU k s.heap a vs)(h:vs[i]?=none)(j:∀h' e,Heap.ExtBut it s.heap h'->(∃o,h'.get? e=some o/\o.cls=.type "StopIteration")->E (.ref e) {s with heap:=h' }):wpAny (model prog w) A (Builtin.SmallTypes.nextOf (.ref it)) Q E s:=by
 cases k with
 | true=>exact wpAny_nextOf_list_end c (show s.heap.IsListIter it a i from b) (show s.heap.IsList a vs from g) h j
 | false=>
  have l:s.heap.IsTupleIter it a i:=b;obtain⟨o,d,q,f⟩:=b;obtain⟨r,n,_,t,p⟩:=g;unfold Builtin.SmallTypes.nextOf;refine ZZ (wpAny_callSpecial?_slot (name:=Str.ofString "__next__") l.typeIs F.slot_tuple_iterator_next (wpAny_call_entry F.slot_tuple_iterator_next l.typeIs F.entry_tuple_iterator_next ?_ (F.args_tuple_iterator_next_1 _)));show wpAny (model prog w) _ (field (.ref it) 0>>=_) _ _ s;refine ZZ (wpAny_field d f (x:=.ref a) rfl ?_);show wpAny (model prog w) _ (if (Value.ref a==Value.none)=true then _ else _) _ _ s;rw[ZN (show ¬ ((Value.ref a==Value.none)=true) from ZX)];show wpAny (model prog w) _ (field (.ref it) 1>>=_) _ _ s;refine ZZ (wpAny_field (x:=.int i 0) d f rfl ?_);show wpAny (model prog w) _ (seqItems? (.ref a)>>=_) _ _ s;refine ZZ (wpAny_seqItems (n) p ?_);simp only [h,Int.toNat_natCast];refine ZZ (wpAny_rule (ZZ (wpAny_setField (d) f Zs ?_)));show wpAny (model prog w) _ (newExc (.type "StopIteration") []>>=_) _ _ _;refine ZZ ?_;simp only [newTuple,newExc];refine ZZ (wpAny_newObj_type ?_ (by size_fits));refine ZZ (m:=firstArgMember _ _) (wpAny_of_eq (a:=Value.none) (by first|rfl|(simp only [firstArgMember];rfl)) ?_);refine wpAny_newObj_type ?_ (by size_fits);simp only [raiseNew];refine ZZ (wpAny_handled ?_)
  first|rw[show A.in1.handled=none from(c)]|rw[c]
  refine ZZ (ZY (wpAny_throw ?_));exact j _ _ (((Heap.SameBut.update ..).extBut.push _).push _) ⟨_,ZS _ rfl,rfl⟩
end
section
variable {X:Cx}{pins:Z9}{σ:List (Option V)}{H:Hp}{s:ZP}{h':Heap}
def Inv.turnLaid{t':Nat}{ch:List ZR}{a:ZR}{o:HO}(I:Inv X pins σ H s)(g:∀b∈ch,lR X pins H b)(k:∀b u,b∉ch->s.heap.get? b=some u->h'.get? b=some u)(i:s.heap.objs.size<=a)(new:ObjOk X.prog X.w (aK H a o) h' a o) :
  Inv X pins σ (aK H a o) {s with heap:=h',toks:=t' }:=by
 have h:=I.hok.fresh i;have j:∀b u,H b=some u->b∉ch:=λb u e z=>by rw[(g b z).1]at e;cases e
 refine I.step (g':=s.gens) (d':=s.drawn) (ch:=ch) (λb d=>⟨(g b d).2.2.2.1,(g b d).2.1,(g b d).2.2.2.2.1,(g b d).2.2.2.2.2⟩) (λb u _ _ f e _=>k b u f e) (λb u _ _ f e _=>⟨u.slots,k b u f e⟩)
  (λb u _ e n=>by rw[aF (ne_of_lt (ZI (Heap.lt_size e) i))];exact n) (λb u f e=>⟨u,k b u f e⟩) (λb l e=>by rw[aF (aD e h)];exact e) (λb v u e=>by rw[aF (aD e h)];exact e)
  (λb ps e=>⟨#[],by rw[aF (aD e h),e];simp⟩) (λm p=>?_) (λb u e=>?_) I.bare
 ·obtain⟨u,t,w,x,r⟩:=p;exact⟨u,t,w,k _ u (λz=>(g _ z).2.1 rfl) x,r⟩
 ·by_cases d:b=a
  ·subst d;rw[aA]at e;cases e;exact new
  ·rw[aF d]at e;refine(I.hok b u e).stay (λc v f q=>k c v ?_ q) (λc q=>by rw[aF (aD q h)];exact q) λc l q=>by rw[aF (aD q h)];exact q
   rcases f with z|z
   ·rw[z];exact j b u e
   ·exact j c _ z
def Inv.turnL{t':Nat}{ch:List ZR}(I:Inv X pins σ H s)(d:∀b∈ch,lR X pins H b)(k:∀b u,b∉ch->s.heap.get? b=some u->h'.get? b=some u):Inv X pins σ H {s with heap:=h',toks:=t' }:=by
 have g:∀b u,H b=some u->b∉ch:=λb u e z=>by rw[(d b z).1]at e;cases e
 refine I.step (g':=s.gens) (d':=s.drawn) (ch:=ch) (λb f=>⟨(d b f).2.2.2.1,(d b f).2.1,(d b f).2.2.2.2.1,(d b f).2.2.2.2.2⟩) (λb u _ _ a e _=>k b u a e) (λb u _ _ a e _=>⟨u.slots,k b u a e⟩)
  (λ_ _ _ _ n=>n) (λb u a e=>⟨u,k b u a e⟩) (λ_ _ e=>e) (λ_ _ _ e=>e) (λb ps e=>⟨#[],by rw[e];simp⟩) (λm h=>?_) (λb u e=>?_) I.bare
 ·obtain⟨u,i,j,l,r⟩:=h;exact⟨u,i,j,k _ u (λz=>(d _ z).2.1 rfl) l,r⟩
 ·refine(I.hok b u e).stay (λc v a q=>k c v ?_ q) (λ_ q=>q) λ_ _ q=>q;rcases a with z|z
  ·rw[z];exact g b u e
  ·exact g c _ z
end
section
variable {X:Cx}
def qR(A:Around):A.in1.units=A.units+1:=rfl
def cJ(xs ys:List V):Bool:=(List.range (min xs.length ys.length)).all (λj=>nF (xs.getD j .non) (ys.getD j .non))&&xs.length==ys.length
def Ry(e:Bool):R2:=λx y H Q=>mR x λa=>mR y λb=>∃c d,H a=some (.tup c)/\H b=some (.tup d)/\(∀(j:Nat)(u v:V),c[j]?=some u->d[j]?=some v->cI u=true/\cI v=true)/\Q (.bl (if e then !cJ c d else cJ c d)) H
def Fn(k:Bool)(N:X.A.units+64<cLine):OpR X (compareOp (if k then .NotEq else .Eq)) (Ry k):=by
 intro M s O H x y v u Q I B C h;unfold Ry at h;rw[cO]at h;obtain⟨a,rfl,h⟩:=h;rw[cO]at h;obtain⟨b,rfl,c,d,g1,g2,D,q⟩:=h;cases B;cases C;obtain⟨f,o,p,_⟩:=I.tuple (QZy g1);obtain⟨i,r,t,_⟩:=I.tuple (QZy g2);have E:f.length=c.length:=o.length.symm;have F:i.length=d.length:=r.length.symm;have n:∀j (l:j<f.toArray.size) (m:j<i.toArray.size),SeqAt.EqAt X.A.in1 s f.toArray[j] i.toArray[j] (nF (c.getD j .non) (d.getD j .non)):=λj l m=>by
  rw[cZ]at l m;obtain⟨w,G⟩:=Paired.get' (j:=j) o l;obtain⟨z,J⟩:=Paired.get' (j:=j) r m;obtain⟨f1,f2⟩:=D j c[j] d[j] (cD w) (cD z);have K:c.getD j .non=c[j]:=by simp[List.getD,w]
  have L:d.getD j .non=d[j]:=by simp[List.getD,z]
  rw[K,L];simpa using jU G J f1 f2
 have e:((List.range (min f.toArray.size i.toArray.size)).all (λj=>nF (c.getD j .non) (d.getD j .non))&&f.toArray.size==i.toArray.size)=cJ c d:=by
  rw[cZ,cZ,E,F];rfl
 cases k with
 | true=>
  have g:=SeqAt.RcNeAt.tuples (A:=X.A) (s:=s) p t Zo n;rw[e]at g;exact g _ _ _ _ ⟨.bl _,H,I,rfl,q⟩
 | false=>
  have g:=SeqAt.RcAt.tuples (A:=X.A) (s:=s) p t Zo n;rw[e]at g;exact g _ _ _ _ ⟨.bl _,H,I,rfl,q⟩
def R.ii(a:X.A.units+64<cLine):gA X (compareOp .NotEq) (Ry true):=⟨Fn true a⟩
end
def Xu:Option aX->ZQ->Bool
 | none,.none=>true
 | none,_=>false
 | some k,v=>iA k v
def cM:∀ {k:Option aX}{v:ZQ},Xu k v=true->(k=none/\v=.none)∨∃j,k=some j/\iA j v=true
 | none,v,h=>by cases v<;>first|exact .inl ⟨rfl,rfl⟩|exact ZM (show false=true from h) ZX
 | some j,v,h=>.inr ⟨j,rfl,h⟩
def oT{j:aX}:iA j .none=false:=by cases j<;>rfl
def uI:Int:=4238894112
section
variable {prog:Program}{w:World}{A:Around}{E:Z8}{s:ZP}
def Bc{Q:Int->ZP->Prop}(h:Q uI {s with toks:=s.toks+1 }):wpAny (model prog w) A (PySem.pyHash .none) Q E s:=by
 have a:s.TypeIs Value.none "NoneType":=rfl;unfold PySem.pyHash;refine ZZ ?_;rw[cRoomFor,ZN (show ¬ ([Value.none].any Value.onHeap=true) from ZX)];refine ZY ?_;refine ZZ (wpAny_specialOf a PySem.F.slot_NoneType_hash.lookup ?_);show wpAny (model prog w) A (if (some (Value.builtin "NoneType.__hash__")==some Value.none)=true then _ else _) Q E s;rw[ZN (show ¬ ((some (Value.builtin "NoneType.__hash__")==some Value.none)=true) from ZX)];refine ZZ (wpAny_specialOf a PySem.F.slot_NoneType_hash.lookup ?_);show wpAny (model prog w) A (callSpecialIfBoundUnlessNone? Value.none "__hash__" _>>=_) Q E s;refine ZZ (wpAny_callSpecialIfBoundUnlessNone?_slot a PySem.F.slot_NoneType_hash (wpAny_call_entry PySem.F.slot_NoneType_hash a PySem.F.entry_NoneType_hash (show wpAny (model prog w) _ (do ret (← mkInt uI)) _ _ s from wpAny_ret_mkInt ?_) (PySem.F.args_NoneType_hash_1 _)));show wpAny (model prog w) A (if (decide (-(2:Int)^63<=uI)&&decide (uI<2^63))=true then _ else _) Q E _;rw[ZO Zd];exact ZY h
end
def Fo(prog:Program)(w:World):PySem.KeyKind prog w (Option aX) where
 is:=Xu
 hash:=λk=>match k with|none=>uI|some j=>Ud w j
 inj:=λv a b m l=>by
  rcases cM m with⟨rfl,rfl⟩|⟨i,rfl,c⟩
  ·rcases cM l with⟨rfl,_⟩|⟨j,rfl,d⟩
   ·rfl
   ·rw[oT]at d;cases d
  ·rcases cM l with⟨rfl,rfl⟩|⟨j,rfl,d⟩
   ·rw[oT]at c;cases c
   ·rw[(aM prog w).inj v i j c d]
 byValue:=λk v h=>by
  rcases cM h with⟨rfl,rfl⟩|⟨i,rfl,c⟩
  ·rfl
  ·exact(aM prog w).byValue i v c
 pyHash:=λ{A E s k v Q} g h=>by
  rcases cM g with⟨rfl,rfl⟩|⟨i,rfl,c⟩
  ·exact Bc h
  ·exact(aM prog w).pyHash c h
 eqBool:=λ{A E s a b u v Q} o g h=>by
  rcases cM o with⟨rfl,rfl⟩|⟨i,rfl,c⟩
  ·rcases cM g with⟨rfl,rfl⟩|⟨j,rfl,d⟩
   ·exact SeqAt.EqAt.same _ _ _ _ _ (by simpa using h)
   ·have f:Q false s:=by simpa using h
    rcases bC d with⟨n,t,rfl,rfl⟩|⟨x,t,rfl,rfl⟩
    ·exact SeqAt.EqAt.none_int n t _ _ _ _ f
    ·exact SeqAt.EqAt.none_str x t _ _ _ _ f
  ·rcases cM g with⟨rfl,rfl⟩|⟨j,rfl,d⟩
   ·have f:Q false s:=by simpa using h
    rcases bC c with⟨n,t,rfl,rfl⟩|⟨x,t,rfl,rfl⟩
    ·exact SeqAt.EqAt.int_none n t _ _ _ _ f
    ·exact SeqAt.EqAt.str_none x t _ _ _ _ f
   ·refine(aM prog w).eqBool c d ?_;have e:decide (some i=some j)=decide (i=j):=by simp
    rw[<- e];exact h
 «strs»:=λk x t v h=>by
  rcases cM h with⟨rfl,e⟩|⟨i,rfl,c⟩
  ·cases e
  ·exact(aM prog w).strs i x t v c
def Fp{prog:Program}{w:World}{h:Heap}{a:ZR}{f:aX->Option ZQ}(m:h.MapOf (aM prog w) a f):∃g:Option aX->Option ZQ,h.MapOf (Fo prog w) a g/\g none=none:=by
 obtain⟨o,c,p,q,r,s,j,t⟩:=m;refine⟨_,⟨o,c,p,q,r,s,λe d=>?_,λk=>rfl⟩,?_⟩
 ·obtain⟨k,b,l⟩:=j e d;exact⟨some k,b,l⟩
 ·show findBy Xu c none=none;unfold findBy;have:c.find? (λe=>Xu none e.key)=none:=by
   rw[Array.find?_eq_none];intro e d z;obtain⟨k,b,l⟩:=j e d;rcases cM z with⟨_,i⟩|⟨_,i,_⟩
   ·rw[i]at b;have n:iA k .none=true:=b;rw[oT]at n;cases n
   ·cases i
  rw[this];rfl
section
variable {X:Cx}
def Rz(c:Bool):R2:=λx y H Q=>mR y λa=>match x with
 | .non=>(∃b,H a=some (.dK b))/\Q (.bl c) H
 | .str z=>∃b,H a=some (.dK b)/\Q (.bl (if c then !(aT b (Sum.inr z)).isSome else (aT b (Sum.inr z)).isSome)) H
 | _=>False
def Sb(b:Bool)(f:X.A.units+1<cLine):OpR X (compareOp (if b then .NotIn else .In)) (Rz b):=by
 intro r s w H x y v u Q I c n h;unfold Rz at h;rw[cO]at h;obtain⟨a,rfl,h⟩:=h;cases n
 cases x with
 | non=>
  obtain⟨⟨m,e⟩,q⟩:=h;cases c;obtain⟨z,i,vs,t,o⟩:=oE I.hok e;obtain⟨g,j,l⟩:=Fp o.mapOf;cases b
  ·refine wpAny_in_of (knd:=Fo X.prog X.w) (k:=none) rfl i j ⟨.bl _,H,I.tok _,rfl,?_⟩;rw[l];exact q
  ·refine wpAny_notIn_of (knd:=Fo X.prog X.w) (k:=none) rfl i j ⟨.bl _,H,I.tok _,rfl,?_⟩;rw[l];exact q
 | str z=>
  obtain⟨m,e,q⟩:=h;cases b
  ·exact Vg f I (DGet.k (k:=Sum.inr z) e) c λp d=>⟨.bl _,H,d,rfl,q⟩
  ·exact yC f I (DGet.k (k:=Sum.inr z) e) c λp d=>⟨.bl _,H,d,rfl,q⟩
 | _=>exact h.elim
def R.gu(a:X.A.units+1<cLine):gA X (compareOp .NotIn) (Rz true):=⟨Sb true a⟩
end
def Pc(H:Hp)(y:V):Prop:=(cI y=true/\∀z,y=.str z->z.length<=1000)∨(∃a b,y=.ref a/\(H a=some (.lst b)∨H a=some (.tup b)))∨∃a c,y=.ref a/\H a=some (.dK c)
def Pc.kd{H:Hp}{y:V}(h:Pc H y):∃k,Kof H y k:=by
 rcases h with⟨h,_⟩|⟨a,b,rfl,h|h⟩|⟨a,c,rfl,h⟩
 ·cases y with
  | non=>exact⟨.non,trivial⟩
  | bl _=>exact⟨.bl,trivial⟩
  | int _=>exact⟨.int,trivial⟩
  | str _=>exact⟨.str,trivial⟩
  | _=>exact ZM (show false=true from h) ZX
 ·exact⟨.lst,.inl ⟨b,h⟩⟩
 ·exact⟨.tup,⟨b,h⟩⟩
 ·exact⟨.dct,⟨c,h⟩⟩
def Pc.pt{H:Hp}{y:V}(h:Pc H y):Pt H y:=by
 obtain⟨k,a⟩:=h.kd;refine⟨k,a,λz e=>?_⟩;subst e;rcases h with⟨_,h⟩|⟨_,_,e,_⟩|⟨_,_,e,_⟩
 ·exact h z rfl
 ·cases e
 ·cases e
def Pc.int{H:Hp}{n:Int}:Pc H (.int n):=.inl ⟨rfl,λ_ e=>nomatch e⟩
def Pc.str{H:Hp}{z:Str}(h:z.length<=1000):Pc H (.str z):=.inl ⟨rfl,λ_ e=>by injection e with e;rw[<- e];exact h⟩
def Pc.tup{H:Hp}{a:ZR}{ys:List V}(h:H a=some (.tup ys)):Pc H (.ref a):=.inr (.inl ⟨a,ys,rfl,.inr h⟩)
section
variable {X:Cx}{o:Expr}{to:TE}{p pos apos cpos:Pos}
def Nu:zV:=λo i v H Q=>∃a b,o=.ref a/\DPut H a i v b/\Q b
def Fq(b:X.A.units+1<cLine):Ix X Nu:=by
 intro k s r H o i v l m u Q I c d e h;obtain⟨a,f,rfl,g,q⟩:=h;cases c;exact Am b I g d e λn j=>⟨f,j,q⟩
def R.bq(a:X.A.units+1<cLine):Rj X Nu:=⟨Fq a⟩
def Ze:List V->Hp->VK->Prop:=λvs H Q=>match vs with
 | [.ref a]=>∃b,H a=some (.dK b)/\∀p,H p=none->Q (.ref p) (aK H p (.dK b))
 | _=>False
def sE:V->List V->Hp->VK->Prop:=λx vs H Q=>match x,vs with
 | .ref l,[.str z]=>∃a:List Str,H l=some (.lst (a.map V.str))/\z∈a/\∀j:Nat,a[j]?=some z->Q (.int j) H
 | _,_=>False
theorem uJ{z:Str}:∀ {a:List Str},z∈a->∃j:Nat,a[j]?=some z/\∀m,m<j->a[m]?≠some z
 | [],h=>nomatch h
 | y::r,h=>by
  by_cases e:y=z
  ·subst e;exact⟨0,rfl,λm b=>ZM b (not_lt_zero _)⟩
  ·rcases mem_cons.mp h with c|h
   ·exact ZM c.symm e
   ·obtain⟨j,d,b⟩:=uJ h;refine⟨j+1,by simpa using d,λm f=>?_⟩
    cases m with
    | zero=>simp;exact e
    | succ m=>simpa using b m Zo
def Bd:Tu X "list.index" sE:=by
 intro K s N H x vs v L Q I w d h;unfold sE at h;split at h
 ·rename_i l z;obtain⟨b,A,B,q⟩:=h;cases w;obtain⟨u,rfl,f,rfl⟩:=d.one;obtain⟨a,n,r,i,t⟩:=I.lst A;obtain⟨j,g,C⟩:=uJ B;have D:=r.length;rw[bF]at D;have M:j<b.length:=(Zgs.mp g).1;have E:(b.map V.str).all cI=true:=by simp[cI]
  have k:∀(m:Nat)(e:m<a.length),tS (.str z) a[m]=decide (b[m]?=some z):=λm e=>by
   have c:m<b.length:=by omega
   have d:RelV (V.str b[m]) (a.getD m Value.none):=jC m r (by rw[bF];exact c) _ (by rw[fB,cD c];rfl);have F:a.getD m Value.none=a[m]:=by rw[getD_eq_getElem?_getD,cD e];rfl
   rw[F]at d;rw[vY d rfl,cD c];show decide (b[m]=z)=_;simp
  refine call_meets PySem.F.slot_list_index ⟨_,i,rfl⟩ PySem.F.entry_list_index (PySem.F.args_list_index_2 _ _)
   (SeqAt.list_indexAt l a.toArray n none #[] (.str z f) (tS (.str z)) j (by simp;omega) (by rw[sizeLine_eq,bF]at t;omega) ?_ ?_) ⟨i,λy G=>gE (x:=.str z) (show RelV (V.str z) (Value.str z f) from⟨f,rfl⟩) rfl r E y (by simpa using G),⟨.int j,H,I.tok _,⟨_,rfl⟩,q j g⟩⟩
  ·have:=k j Zo;simp only [getElem_toArray];rw[this];exact ZU g
  ·intro m e J;have c:m<a.length:=by simpa using e
   have:=k m c;simp only [getElem_toArray];rw[this];exact ZT (C m J)
 ·exact h.elim
def R.fk:XM X "list.index" sE:=⟨Bd⟩
end
def oU(a:List (Str×Int))(n:Str)(v:Int):List (Str×Int):=a.map λq=>if q.1=n then (q.1,v) else q
def qS(a:List (Str×Int))(n:Str)(v:Int):(oU a n v).map (·.1)=a.map (·.1):=by
 unfold oU;rw[map_map];refine map_congr_left λq _=>?_
 show(if q.1=n then (q.1,v) else q).1=q.1;split<;>rfl
theorem mY(n:Str)(v:Int):∀(a:List (Str×Int))(m:Str),(oU a n v).lookup m=if m=n then (a.lookup m).map (λ_=>v) else a.lookup m
 | [],m=>by unfold oU;simp
 | q::r,m=>by
  have b:=mY n v r m;unfold oU at b ⊢;rw[map_cons,lookup_cons,lookup_cons,b];have c:(if q.1=n then (q.1,v) else q).1=q.1:=by split<;>rfl
  rw[c];by_cases h:m=q.1
  ·subst h;simp only [beq_self_eq_true];by_cases e:q.1=n
   ·rw[ZO e,ZO e];rfl
   ·rw[ZN e,ZN e]
  ·have d:(m==q.1)=false:=beq_eq_false_iff_ne.mpr h;simp only [d]
def Ft{b:List (Str×Int)}{n:Str}{v:Int}(h:n∈b.map (·.1))(m:Str):bE (oU b n v) m=if m=n then v else bE b m:=by
 unfold bE;rw[mY];by_cases e:m=n
 ·subst e;obtain⟨a,c⟩:=gT h;rw[ZO rfl,ZO rfl,c];rfl
 ·rw[ZN e,ZN e]
def Ky{b:List (Str×Int)}{n:Str}{v:Int}(h:n∈b.map (·.1)):bT (iP b) (Sum.inr n) (.int v)=iP (oU b n v):=by
 unfold bT;rw[ZO (by rw[fG,kX];obtain⟨a,c⟩:=gT h;rw[c];rfl)];unfold iP oU;rw[map_map,map_map];refine map_congr_left λq _=>?_
 show(if (Sum.inr q.1:aX)=Sum.inr n then (Sum.inr q.1,V.int v) else ((Sum.inr q.1:aX),V.int q.2))=((Sum.inr (if q.1=n then (q.1,v) else q).1:aX),V.int (if q.1=n then (q.1,v) else q).2);by_cases e:q.1=n
 ·rw[ZO (by rw[e]),ZO e]
 ·rw[ZN (λz=>e (Sum.inr.inj z)),ZN e]
section
variable {X:Cx}
def Fu(i j:Int):Prop:=0<j/\j<2^64
def Kz:OpR X (binaryOp .FloorDiv) (m2 Fu λi j=>.int (i / j)):=(Xm (C:=Fu) (g:=λi j=>i / j) λi j _ _ s Q E a q=>by
 have b:i.fdiv j=i/j:=Int.fdiv_eq_ediv_of_nonneg _ (by have:=a.1;omega);refine floordiv_int (by have:=a.1;omega) (by rw[b];exact q) (.inl (PyProof.noPylong_of_log2 ?_));have c:j.natAbs<2^64:=by have:=a.1;have:=a.2;omega
 exact ZI (Nat.log2_lt (by have:=a.1;omega) |>.mpr c) Zd).imp rY
def R.gv:gA X (binaryOp .FloorDiv) (m2 Fu λi j=>.int (i/j)):=⟨Kz⟩
end
def K1(p:ZR)(H a:Hp):Prop:=∀c o,H c=some o->c≠p->a c=some o
def mE(l:List Nat):(tx l).cps.toList=l:=by simp
def KLET:List Nat:=LET++Wj
def mF(z:Str):Prop:=1<=z.length/\z.length<=12/\∀c∈z.cps.toList,c∈KLET
section
variable {X:Cx}{o e f e1:Expr}{td te ty tx:TE}{p2 pos apos cpos:Pos}
def R.ij(a:XE X o td)(b:XE X e ty)(c:XE X f tx)(d:attributeBase o "pop" X.env (eval o X.env)=eval o X.env:=by rfl)(g:(apos.endLine == cpos.line)=true:=by rfl)(h:((backTo cpos (starEach [e,f] X.env)).all (λx=>!x.1)&&(backToKw cpos (keywordEach [] X.env)).all (λx=>x.1.isSome)
  && decide (([e,f]:List Expr).length+([]:List Keyword).length+(if ([]:List Keyword).isEmpty then 0 else 1)<30))=true:=by rfl)(i:backTo cpos (starEach [e,f] X.env)=[(false,eval e X.env),(false,eval f X.env)]:=by rfl):XE X (.Call (.Attribute o "pop" apos) [e,f] [] cpos) (Du td ty tx):=⟨Dx a.h b.h c.h ⟨d,h,g,i⟩⟩
end
def bS(a:List (Str×Int))(n:Str)(v:Int):List (Str×Int):=if n∈a.map (·.1) then oU a n v else a++[(n,v)]
theorem jZ{n:Str}:∀ {a:List (Str×Int)},¬ n∈a.map (·.1)->a.lookup n=none
 | [],_=>rfl
 | q::r,h=>by
  rw[lookup_cons];have b:(n==q.1)=false:=beq_eq_false_iff_ne.mpr λe=>h (by rw[e];exact fP)
  rw[b];exact jZ λm=>h (nD _ m)
def kZ{a:List (Str×Int)}{n:Str}{v:Int}:bT (iP a) (Sum.inr n) (.int v)=iP (bS a n v):=by
 unfold bS;by_cases h:n∈a.map (·.1)
 ·rw[ZO h,Ky h]
 ·rw[ZN h,oA _ (by rw[kX,jZ h];rfl)];unfold iP;rw[gO];rfl
def bV(b:List (Str×Int))(n:Str)(v:Int)(m:Str):bE (bS b n v) m=if m=n then v else bE b m:=by
 unfold bS;by_cases h:n∈b.map (·.1)
 ·rw[ZO h,Ft h]
 ·rw[ZN h];unfold bE;rw[List.lookup_append];by_cases e:m=n
  ·subst e;rw[jZ h,ZO rfl];simp
  ·rw[ZN e];have c:(m==n)=false:=beq_eq_false_iff_ne.mpr e
   cases d:b.lookup m with
   | some a=>simp
   | none=>simp[lookup_cons,c]
def sG{a:List (Str×Int)}{n:Str}{v:Int}(b:(a.map (·.1)).Nodup):((bS a n v).map (·.1)).Nodup:=by
 unfold bS;by_cases h:n∈a.map (·.1)
 ·rw[ZO h,qS];exact b
 ·rw[ZN h,gO];exact kQ b h
def uK(a:List (Str×Int))(n:Str)(v:Int):(bS a n v).length<=a.length+1:=by
 unfold bS;split
 ·unfold oU;rw[bF];omega
 ·rw[kJ];simp
structure HF where
 dx:Addr
 da:Addr
 dc:Addr
 de:Addr
def Lk(a:HF):List (Str×V):=[("amounts",.ref a.da),("closed_names",.ref a.dc),("entries",.ref a.de)]
structure yV(K:W.Frag)(C:ZR):Prop where
 cl:Cls K C
 nA:NoAttr K C "amounts"
 nC:NoAttr K C "closed_names"
 nE:NoAttr K C "entries"
inductive HD(nm:Str)(n:Int):Str->List V->Int->Prop
 | add:HD nm n "add" [.str "add",.str nm,.int n] n
 | take:HD nm n "take" [.str "take",.str nm,.int n] (-n)
def lP(a:List (Str×Int))(b:Str->Bool)(wd nm:Str)(n:Int):Bool:=if wd="take" then decide (n<=bE a nm) else !b nm&&decide (bE a nm+n<=1000000000000)
def yn(b:Bool):Str:=if b then "yes" else "no"
def Ll(a:List (Str×Int))(b:Bool)(nm:Str)(c:Int):List (Str×Int):=if b then bS a nm (bE a nm+c) else a
def Sc(H:Hp)(c:V)(a:List Str):Prop:=(c=.non/\a=[])∨∃l,c=.ref l/\H l=some (.lst (a.map V.str))
def Be(a:HF):(Lk a).lookup ("amounts":Str)=some (.ref a.da):=by unfold Lk;rw[lookup_cons];simp
def Sd(a:HF):(Lk a).lookup ("closed_names":Str)=some (.ref a.dc):=by
 unfold Lk;rw[lookup_cons,(by decide +kernel:(("closed_names":Str)==("amounts":Str))=false)];show List.lookup ("closed_names":Str) [(("closed_names":Str),V.ref a.dc),(("entries":Str),V.ref a.de)]=_;rw[lookup_cons];simp
def pQ(a:HF):(Lk a).lookup ("entries":Str)=some (.ref a.de):=by
 unfold Lk;rw[lookup_cons,(by decide +kernel:(("entries":Str)==("amounts":Str))=false)];show List.lookup ("entries":Str) [(("closed_names":Str),V.ref a.dc),(("entries":Str),V.ref a.de)]=_;rw[lookup_cons,(by decide +kernel:(("entries":Str)==("closed_names":Str))=false)];show List.lookup ("entries":Str) [(("entries":Str),V.ref a.de)]=_;rw[lookup_cons];simp
def dR{m:Str}(a:HF)(b:(m==("amounts":Str))=false)(c:(m==("closed_names":Str))=false)(d:(m==("entries":Str))=false):(Lk a).lookup m=none:=by
 unfold Lk;rw[lookup_cons,b];show List.lookup m [(("closed_names":Str),V.ref a.dc),(("entries":Str),V.ref a.de)]=none;rw[lookup_cons,c];show List.lookup m [(("entries":Str),V.ref a.de)]=none;rw[lookup_cons,d];rfl
def wR(kvs:List (aX×V))(k j:aX):aT (fS kvs k) j=if j=k then none else aT kvs j:=by
 induction kvs with
 | nil=>unfold fS aT;simp
 | cons p r a=>
  by_cases e:p.1=k
  ·rw[Aq e,a];by_cases h:j=k
   ·rw[ZO h,ZO h]
   ·rw[ZN h,ZN h,bG (λz=>h (z.symm.trans e))]
  ·rw[Ar e];by_cases h:j=k
   ·rw[ZO h,bG (λz=>e (z.trans h)),a,ZO h]
   ·rw[ZN h];by_cases z:p.1=j
    ·rw[bL z,bL z]
    ·rw[bG z,bG z,a,ZN h]
section
variable {X:Cx}{e o:Expr}{es:List Expr}{m x:Str}{p pos apos:Pos}{ta:TE}{t:TA}{C:ZR}{n:Nat}{ps:List Str}{sp:Sp}{Ex:St->ZQ->Option ZR->Hp->Prop}
namespace R
def jo{a ty:TE}(b:X.A.units+1<cLine)(c:XE X o a)(d:XE X e ty)(f:attributeBase o "get" X.env (eval o X.env)=eval o X.env:=by rfl)(g:(apos.endLine == pos.line)=true:=by rfl)(h:((backTo pos (starEach [e] X.env)).all (λx=>!x.1)&&(backToKw pos (keywordEach [] X.env)).all (λx=>x.1.isSome)
  && decide (([e]:List Expr).length+([]:List Keyword).length+(if ([]:List Keyword).isEmpty then 0 else 1)<30))=true:=by rfl)(i:backTo pos (starEach [e] X.env)=[(false,eval e X.env)]:=by rfl):XE X (.Call (.Attribute o "get" apos) [e] [] pos) (Ds a ty):=⟨Dv b c.h d.h ⟨f,h,g,i⟩⟩
end R
end
section
variable {X:Cx}{o e f:Expr}{apos cpos:Pos}{td ty tx:TE}
def R.ik{pos:Pos}:XE X (.Dict [] [] pos) Do:=⟨Dq⟩
end
section
variable {X:Cx}
def sI{a:Type}(xs:List a)(k:Nat)(x:a):List a:=xs.take k++[x]++xs.drop k
def yW:V->List V->Hp->VK->Prop:=λx vs H Q=>∃(l:ZR)(a:List V)(k:Nat)(y:V),x=.ref l/\vs=[.int (k:Int),y]/\H l=some (.lst a)/\k<=a.length/\a.length<1000/\Q .non (aK H l (.lst (sI a k y)))
def Fv{k:Nat}(h:k<1000):¬ (!Builtin.List.listFitsIndex (k:Int))=true:=by
 have a:-(2^63)<=(k:Int):=by omega
 have b:(k:Int)<2^63:=by omega
 rw[fitsIndex_both a b];exact ZX
def qT:∀ {xs:List V}{its:List ZQ} (k:Nat),Vals xs its->Vals (xs.take k) (its.take k)
 | _,_,0,_=>by simp;exact .nil
 | _,_,k+1,.nil=>by simp;exact .nil
 | _,_,k+1,.cons h t=>by rw[List.take_succ_cons,List.take_succ_cons];exact .cons h (qT k t)
def qU:∀ {xs:List V}{its:List ZQ} (k:Nat),Vals xs its->Vals (xs.drop k) (its.drop k)
 | _,_,0,h=>by simpa using h
 | _,_,k+1,.nil=>by simp;exact .nil
 | _,_,k+1,.cons h t=>by rw[List.drop_succ_cons,List.drop_succ_cons];exact qU k t
def Se{s:ZP}{A:Around}{E:Z8}{prog:Program}{w:World}{l:ZR}{its:List ZQ}{n:Nat}{k:Int}{t:Tok}{a:ZQ}{Q:Z8}(e:s.heap.get? l=some {cls:=.type "list",data:=.seq its.toArray n })(f1:¬ (!Builtin.List.listFitsIndex k)=true)(f2:its.toArray.size<=sizeLine)(q:Q .none {s with heap:=s.heap.update l (Obj.mapSeq λxs=>have k:=if k<0 then (k+(xs.size:Int)).toNat else min k.toNat xs.size;(xs.extract 0 k).push a++xs.extract k),toks:=s.toks }) :
  wpAny (model prog w) A (call (.builtin "list.insert") [.ref l,.int k t,a]) Q E s:=by
 have M:=AutoSeq1.list_insert_list_int_val_1 l its.toArray n k t a f1 f2;exact call_meets PySem.F.slot_list_insert ⟨_,e,rfl⟩ PySem.F.entry_list_insert (PySem.F.args_list_insert_3 _ _ _) M ⟨e,q⟩
def Bf:Ve X "list.insert" yW:=by
 intro D s G H x vs v E Q I j m h;obtain⟨l,a,k,y,rfl,rfl,c,o,p,q⟩:=h;cases j;obtain⟨F,d,rfl,u,w⟩:=m.two;obtain⟨t,rfl⟩:=u;obtain⟨z,b,n,r,f,e⟩:=I.lstM c;have g:(sI a k y).length=a.length+1:=by unfold sI;simp;omega
 have A:Vals (sI a k y) (sI b k d):=by
  unfold sI;exact((qT k r).append (.cons w .nil)).append (qU k r)
 have i:(sI a k y).length<=sizeLine:=eO (by rw[g];omega);refine Se e (Fv (jQ o p)) (by rw[cZ,<- f];exact z) ?_;refine⟨.non,_,I.lset (its':=sI b k d) c e ?_ A i,rfl,q⟩;have B:¬ ((k:Int)<0):=by omega
 have C:min (k:Int).toNat b.toArray.size=k:=by rw[cZ,<- f];simp;omega
 simp only [B,if_false,C];unfold sI;simp;exact nT Zs
def R.io:XM X "list.insert" yW:=⟨Bf⟩
end
section
open PySem.MeetsSeq PySem.SeqAt
def pR(l:ZR)(a:Array Value)(n:Nat)(x:ZQ)(e:ZQ->Bool)(j:Nat)(q:j<a.size)(u:e a[j]=true)(k:Nat)(r:a.size<=sizeLine) :
  ∀i:Nat,j-i=k->i<=j->(∀m (t:m<a.size),i<=m->m<j->e a[m]=false)->Meets (Builtin.«list.remove.loop» ⟨[.ref l,x,rawInt i],[]⟩)
   (λA R s=>s.heap.get? l=some {cls:=.type "list",dict:=none,data:=.seq a n,slots:=#[] }/\(∀y,y∈a->EqAt A.in1 s y x (e y))/\R (.ok (.ret .none)) {s with heap:=s.heap.update l (Obj.mapSeq λxs=>xs.eraseIdxIfInBounds j) }):=by
 induction k with
 | zero=>
  intro i v z o c w A R s h;obtain⟨B,g,d,tk,os⟩:=s;obtain⟨b,f,h⟩:=h;obtain rfl:i=j:=by omega
  wp_walk using AutoSeq1.wpAny_loadPart' b
  rw[show a[((i:Nat):Int).toNat]?=some a[i] by simp[q]];refine ZZ (f _ (Array.getElem_mem q) c w _ _ ?_);rw[u];have C:(a.eraseIdxIfInBounds i).size<=sizeLine+1:=hZ (size_erased a _) (le_succ_of_le r)
  wp_walk using (wpAny_updateSeq b rfl (hz:=r) (_hz':=C)),AutoSeq1.wpAny_loadPart' b
  simpa using h
 | succ k D=>
  intro i v z o c w A R s h;obtain⟨B,g,d,tk,os⟩:=s;obtain⟨b,f,h⟩:=h;have p:i<a.size:=by omega
  wp_walk using AutoSeq1.wpAny_loadPart' b
  have E:((i:Int)+1)=((i+1:Nat):Int):=by push_cast;rfl
  rw[show a[((i:Nat):Int).toNat]?=some a[i] by simp[p]];refine ZZ (f _ (Array.getElem_mem p) c w _ _ ?_);rw[o i p (bQ _) Zo]
  wp_walk
  rw[E];exact⟨plainId_quiet plain_remove_loop _,codeAny_builtin entry_remove_loop (by
   rw[Around.under_plainId plain_remove_loop _];exact D (i+1) Zo Zo (λm t G F=>o m t Zo F) c w A R _ ⟨b,f,h⟩)⟩
def pS(l:ZR)(a:Array Value)(n:Nat)(x:ZQ)(e:ZQ->Bool)(j:Nat)(k:j<a.size)(i:e a[j]=true)(o:∀m (b:m<a.size),m<j->e a[m]=false)(p:a.size<=sizeLine) :
  Meets (Builtin.«list.remove» ⟨[.ref l,x],[]⟩)
   (λA R s=>s.heap.get? l=some {cls:=.type "list",dict:=none,data:=.seq a n,slots:=#[] }/\(∀y,y∈a->EqAt A.in1 s y x (e y))/\R (.ok (.ret .none)) {s with heap:=s.heap.update l (Obj.mapSeq λxs=>xs.eraseIdxIfInBounds j) }):=by
 intro f w A R s h;obtain⟨t,g,d,tk,os⟩:=s;obtain⟨c,q,h⟩:=h
 wp_walk using AutoSeq1.wpAny_loadPart' c
 exact⟨plainId_quiet plain_remove_loop _,codeAny_builtin entry_remove_loop (by
  rw[Around.under_plainId plain_remove_loop _];exact pR l a n x e j k i _ p 0 rfl (zero_le _) (λm b _ r=>o m b r) f w A R _ ⟨c,q,h⟩)⟩
end
def EQ(H:Hp)(u v:V):Prop:=(cI u=true/\cI v=true)∨∃b a ps c,u=.ref b/\v=.ref a/\H b=some (.tup ps)/\H a=some (.tup c)/\∀(j:Nat)(x y:V),ps[j]?=some x->c[j]?=some y->cI x=true/\cI y=true
section
variable {X:Cx}{pins:Z9}{σ:St}{H:Hp}{s:ZP}
def EQ.at{A:Around}{x y:V}{u v:ZQ}(o:A.units<cLine)(I:Inv X pins σ H s)(g:RelV x u)(i:RelV y v)(h:EQ H x y):∃b,SeqAt.EqAt A s u v b:=by
 rcases h with⟨f1,f2⟩|⟨b,p,ps,a,rfl,rfl,g1,g2,q⟩
 ·exact⟨_,jU g i f1 f2⟩
 ·cases g;cases i;by_cases e:b=p
  ·subst e;exact⟨true,SeqAt.EqAt.same _⟩
  ·obtain⟨f,r,t,_⟩:=I.tuple (QZy g1);obtain⟨k,w,z,_⟩:=I.tuple (QZy g2);have n:∀j (c:j<f.toArray.size) (d:j<k.toArray.size),SeqAt.EqAt A.in1 s f.toArray[j] k.toArray[j] (nF (ps.getD j .non) (a.getD j .non)):=λj c d=>by
    rw[cZ]at c d;obtain⟨l,B⟩:=Paired.get' (j:=j) r c;obtain⟨m,C⟩:=Paired.get' (j:=j) w d;obtain⟨f1,f2⟩:=q j ps[j] a[j] (cD l) (cD m);have D:ps.getD j .non=ps[j]:=by simp[List.getD,l]
    have E:a.getD j .non=a[j]:=by simp[List.getD,m]
    rw[D,E];simpa using jU B C f1 f2
   exact⟨_,.of_refs e (SeqAt.RcAt.tuples t z o n)⟩
def uL{A:Around}{c a:ZR}{n m:Int}{xs ys:List V}(w:A.units+1<cLine)(I:Inv X pins σ H s)(x:c≠a)(g1:H c=some (.lst (.int n::xs)))(g2:H a=some (.lst (.int m::ys)))(y:n≠m)(M:xs.length=ys.length)(h:∀(j:Nat)(u v:V),xs[j]?=some u->ys[j]?=some v->EQ H u v):SeqAt.EqAt A s (.ref c) (.ref a) false:=by
 obtain⟨d,l,z,_⟩:=I.list (QZx g1);obtain⟨f,o,B,_⟩:=I.list (QZx g2);have C:d.length=xs.length+1:=l.length.symm;have N:f.length=ys.length+1:=o.length.symm;have D:d.toArray.size=f.toArray.size:=by rw[cZ,cZ];omega
 have t:∀j:Nat,∃b,(j=0->b=false)/\∀(i:j<d.toArray.size)(k:j<f.toArray.size),SeqAt.EqAt A.in1 s d.toArray[j] f.toArray[j] b:=λj=>by
  by_cases i:j<d.length
  ·have k:j<f.length:=by omega
   obtain⟨E,p⟩:=Paired.get' (j:=j) l i;obtain⟨F,q⟩:=Paired.get' (j:=j) o k
   cases j with
   | zero=>
    have g:=jU (A:=A.in1) (s:=s) p q rfl rfl;rw[show nF ((V.int n::xs)[0]) ((V.int m::ys)[0])=false from ZT y]at g;exact⟨false,λ_=>rfl,λ_ _=>by simpa using g⟩
   | succ j=>
    have G:RelV (xs[j]'(by simpa using E)) d[j+1]:=p;have J:RelV (ys[j]'(by simpa using F)) f[j+1]:=q;obtain⟨b,K⟩:=EQ.at (A:=A.in1) (by show A.units+1<cLine;exact w) I G J (h j _ _ (cD _) (cD _));exact⟨b,λe=>ZM e Zo,λ_ _=>by simpa using K⟩
  ·exact⟨false,λ_=>rfl,λh _=>ZM (by simpa using h) i⟩
 obtain⟨e,r⟩:=Classical.axiomOfChoice t;have g:=SeqAt.EqAt.of_refs x (SeqAt.RcAt.lists (A:=A) (s:=s) (e:=e) z.isList B.isList D Zo (λj i k=>(r j).2 i k));have L:(List.range d.toArray.size).all e=false:=by
  rw[cZ,C];rw[all_eq_false];exact⟨0,mem_range.mpr Zo,by rw[(r 0).1 rfl];decide⟩
 rw[L]at g;exact g
end
def iQ:V->List V->Hp->VK->Prop:=λx vs H Q=>match x,vs with
 | .ref l,[.ref a]=>∃(b:List ZR)(j:Nat),H l=some (.lst (b.map V.ref))/\b[j]?=some a/\b.Nodup ∧
  (∀c∈b,c≠a->∃n m d e,H c=some (.lst (.int n::d))/\H a=some (.lst (.int m::e))/\n≠m/\d.length=e.length/\∀(j:Nat)(u v:V),d[j]?=some u->e[j]?=some v->EQ H u v) ∧
  Q .non (aK H l (.lst ((b.eraseIdx j).map V.ref)))
 | _,_=>False
theorem oV:∀(a:List ZR)(j:Nat),(a.eraseIdx j).map V.ref=(a.map V.ref).eraseIdx j
 | [],j=>by simp
 | s::r,0=>by simp
 | s::r,j+1=>by
  rw[eraseIdx_cons_succ,map_cons,map_cons,eraseIdx_cons_succ,oV r j]
def wU{X:Cx}(P:X.A.units+64<cLine):Ve X "list.remove" iQ:=by
 intro O s Y H x vs v R Q I B i h;unfold iQ at h;split at h
 ·rename_i l a;obtain⟨b,j,t,p,C,ne,q⟩:=h;cases B;obtain⟨u,rfl,D⟩:=i.one;cases D;obtain⟨E,c,n,r,F,e⟩:=I.lstM t;rw[bF]at F;have G:j<b.length:=(Zgs.mp p).1;have o:∀(m:Nat)(f:m<c.length),∃d:m<b.length,c[m]=Value.ref b[m]:=λm f=>by
   have d:m<b.length:=by omega
   have i:RelV (V.ref b[m]) (c.getD m Value.none):=jC m r (by rw[bF];exact d) _ (by rw[fB,cD d];rfl);have J:c.getD m Value.none=c[m]:=by rw[getD_eq_getElem?_getD,cD f];rfl
   rw[J]at i;exact⟨d,i⟩
  refine call_meets PySem.F.slot_list_remove ⟨_,e,rfl⟩ PySem.F.entry_list_remove (PySem.F.args_list_remove_2 _ _)
   (pS l c.toArray n (.ref a) (λy=>y==Value.ref a) j (by simp;omega) ?_ ?_ (by rw[cZ];rw[bF]at E;omega)) ⟨e,?_,?_⟩
  ·obtain⟨d,g⟩:=o j Zo;simp only [getElem_toArray];rw[g,(Zgs.mp p).2];exact beq_self_eq_true _
  ·intro m f K;have L:m<c.length:=by simpa using f
   obtain⟨d,g⟩:=o m L;simp only [getElem_toArray];rw[g];refine beq_eq_false_iff_ne.mpr λh=>?_
   injection h with h
   exact(pairwise_iff_getElem.mp C) m j d G K (h.trans (Zgs.mp p).2.symm)
  ·intro y M;obtain⟨m,f,rfl⟩:=getElem_of_mem (show y∈c by simpa using M);obtain⟨d,g⟩:=o m f;rw[g];by_cases k:b[m]=a
   ·rw[k,beq_self_eq_true];exact SeqAt.EqAt.same _
   ·obtain⟨S,T,U,W,g1,g2,N,z,A⟩:=ne b[m] (getElem_mem d) k;rw[show(Value.ref b[m]==Value.ref a)=false from beq_eq_false_iff_ne.mpr λh=>k (by injection h)];exact uL (by show X.A.units+1+1<cLine;omega) I k g1 g2 N z A
  ·have w:(b.eraseIdx j).map V.ref=(b.map V.ref).eraseIdx j:=oV b j;refine⟨.non,_,I.lset (its':=c.eraseIdx j) t e ?_ (w▸r.eraseIdx j) ?_,rfl,q⟩
   ·show c.toArray.eraseIdxIfInBounds j=(c.eraseIdx j).toArray;rw[List.eraseIdxIfInBounds_toArray]
   ·rw[w];have:=lU (b.map V.ref) j;omega
 ·exact h.elim
def R.ip{X:Cx}(a:X.A.units+64<cLine):XM X "list.remove" iQ:=⟨wU a⟩
section
variable {X:Cx}
def Nv(K:W.Frag):List V->Hp->VK->Prop:=λvs H Q=>∃(p:ZR)(b:List Int),vs=[.ref p]/\SqL K H p (b.map V.int)/\0<b.length/\∀M:Int,M∈b->(∀a∈b,a<=M)->Q (.int M) H
def Bg(x:X.calm=true):CallR X (.builtin "max") (Nv X.K):=by
 intro F s N H b J Q I r h;obtain⟨p,c,rfl,y,K,q⟩:=h;obtain⟨u,rfl,z⟩:=iB r;cases z;obtain⟨o,A,B,L⟩:=I.list y;have e:=nZ A;obtain⟨b,f⟩:=e.allInts.items;have C:s.heap.IsList p (intItems b):=f▸B.isList;have g:c=b.toList.map (·.1):=by
  rw[<- nums_intItems,<- f];exact(show numsOf o.toArray.toList=c from e.numsOf).symm
 have G:c.length=b.size:=by rw[g];simp
 refine max_intList (I.ok.hd x) C Zo λv M tk l D=>?_;obtain⟨w,m⟩:=argBest_gt (numAt b) (b.size-1);generalize argBest (λi j=>decide (numAt b i>numAt b j)) (b.size-1)=k at l w m;obtain⟨t,rfl⟩:=intItems_at l;have d:∀j,j<c.length->numAt b j=c.getD j 0:=λj _=>by rw[numAt_eq,g]
 refine⟨.int _,H,I.kept D,⟨_,rfl⟩,q _ ?_ ?_⟩
 ·rw[d k Zo,getD_eq_getElem?_getD,cD Zo];exact getElem_mem _
 ·intro a E;obtain⟨j,n,rfl⟩:=getElem_of_mem E;have:=m j Zo;rw[d j n,getD_eq_getElem?_getD,cD n]at this;exact this
def R.iq{K:W.Frag}(a:X.calm=true)(b:X.K=K:=by rfl):XC X (.builtin "max") (Nv K):=b▸⟨Bg a⟩
end
inductive Dd where
 | add (a:Str) (n:Nat)
 | take (a:Str) (n:Nat)
 | move (a b:Str) (n:Nat)
 | send (h a:Str) (n:Nat)
 | fetch (h a:Str) (n:Nat)
 | pass (h g a:Str) (n:Nat)
namespace Dd
def vs:Dd->List V
 | .add a n=>[.str "add",.str a,.int (n:Int)]
 | .take a n=>[.str "take",.str a,.int (n:Int)]
 | .move a b n=>[.str "move",.str a,.str b,.int (n:Int)]
 | .send h a n=>[.str "send",.str h,.str a,.int (n:Int)]
 | .fetch h a n=>[.str "fetch",.str h,.str a,.int (n:Int)]
 | .pass h g a n=>[.str "pass",.str h,.str g,.str a,.int (n:Int)]
def n:Dd->Nat
 | .add _ n=>n|.take _ n=>n|.move _ _ n=>n|.send _ _ n=>n|.fetch _ _ n=>n|.pass _ _ _ n=>n
def far:Dd->Bool
 | .send _ _ _=>true|.fetch _ _ _=>true|.pass _ _ _ _=>true|_=>false
def Ok:Dd->Prop
 | .add a n=>cR a/\1<=n/\n<=1000000000000
 | .take a n=>cR a/\1<=n/\n<=1000000000000
 | .move a b n=>cR a/\cR b/\a≠b/\1<=n/\n<=1000000000000
 | .send h a n=>cR h/\cR a/\1<=n/\n<=1000000000000
 | .fetch h a n=>cR h/\cR a/\1<=n/\n<=1000000000000
 | .pass h g a n=>cR h/\cR g/\cR a/\h≠g/\1<=n/\n<=1000000000000
def Ok.n{d:Dd}(h:d.Ok):1<=d.n/\d.n<=1000000000000:=by
 cases d<;>simp only [Ok]at h<;>simp only [Dd.n]<;>omega
def wd:Dd->Str
 | .add _ _=>"add"|.take _ _=>"take"|.move _ _ _=>"move"|.send _ _ _=>"send"|.fetch _ _ _=>"fetch"|.pass _ _ _ _=>"pass"
end Dd
inductive An where
 | is1 (m:Nat)
 | is2 (l m:Nat)
 | short (m:Nat)
 | full (m:Nat)
 | no (h:Str)
 | ok
namespace An
def vs:An->List V
 | .is1 m=>[.str "is",.int (m:Int)]
 | .is2 l m=>[.str "is",.int (l:Int),.int (m:Int)]
 | .short m=>[.str "short",.int (m:Int)]
 | .full m=>[.str "full",.int (m:Int)]
 | .no h=>[.str "no",.str h]
 | .ok=>[.str "ok"]
def early:An->Bool|.short _=>true|.full _=>true|_=>false
def Of:Dd->An->Prop
 | .add _ n,.is1 m=>n<=m/\m<=1000000000000
 | .add _ n,.full m=>1000000000000<m+n/\m<=1000000000000
 | .take _ n,.is1 m=>m+n<=1000000000000
 | .take _ n,.short m=>m<n
 | .move _ _ n,.is2 l m=>l+n<=1000000000000/\n<=m/\m<=1000000000000
 | .move _ _ n,.short m=>m<n
 | .move _ _ n,.full m=>1000000000000<m+n/\m<=1000000000000
 | .send _ _ n,.is1 m=>m+n<=1000000000000
 | .send _ _ n,.short m=>m<n
 | .send h _ _,.no g=>g=h
 | .fetch _ _ n,.is1 m=>n<=m/\m<=1000000000000
 | .fetch _ _ n,.full m=>1000000000000<m+n/\m<=1000000000000
 | .fetch h _ _,.no g=>g=h
 | .pass h g _ _,.no k=>k=h∨k=g
 | .pass _ _ _ _,.ok=>True
 | _,_=>False
end An
inductive RX where
 | next (n t:Nat)
 | has (z:Str) (m:Nat)
 | kept (n t:Nat) (p k:Str) (d:Dd) (y:An)
 | came (n t:Nat) (p k:Str) (d:Dd)
 | asked (n:Nat)
 | done (n t:Nat) (y:An)
namespace RX
def At(H:Hp)(a:ZR):RX->Prop
 | .next n t=>H a=some (.tup [.str "next",.int (n:Int),.int (t:Int)])
 | .has z m=>H a=some (.tup [.str "has",.str z,.int (m:Int)])
 | .kept n t p k d y=>∃b c,H a=some (.tup [.str "kept",.int (n:Int),.int (t:Int),.str p,.str k,.ref b,.ref c])/\H b=some (.tup d.vs)/\H c=some (.tup y.vs)
 | .came n t p k d=>∃b,H a=some (.tup [.str "came",.int (n:Int),.int (t:Int),.str p,.str k,.ref b])/\H b=some (.tup d.vs)
 | .asked n=>H a=some (.tup [.str "asked",.int (n:Int)])
 | .done n t y=>∃c,H a=some (.tup [.str "done",.int (n:Int),.int (t:Int),.ref c])/\H c=some (.tup y.vs)
def At.tk{H g:Hp}{a:ZR}{r:RX}(s:TK H g)(h:r.At H a):r.At g a:=by
 cases r with
 | next n t=>exact s _ _ h
 | has z m=>exact s _ _ h
 | kept n t p k d y=>obtain⟨b,c,e,f,i⟩:=h;exact⟨b,c,s _ _ e,s _ _ f,s _ _ i⟩
 | came n t p k d=>obtain⟨b,e,f⟩:=h;exact⟨b,s _ _ e,s _ _ f⟩
 | asked n=>exact s _ _ h
 | done n t y=>obtain⟨b,e,f⟩:=h;exact⟨b,s _ _ e,s _ _ f⟩
def Ws:List V->TV:=λa=>.tp (a.map TV.sc)
def tv:RX->TV
 | .next n t=>.tp [.sc (.str "next"),.sc (.int (n:Int)),.sc (.int (t:Int))]
 | .has z m=>.tp [.sc (.str "has"),.sc (.str z),.sc (.int (m:Int))]
 | .kept n t p k d y=>.tp [.sc (.str "kept"),.sc (.int (n:Int)),.sc (.int (t:Int)),.sc (.str p),.sc (.str k),Ws d.vs,Ws y.vs]
 | .came n t p k d=>.tp [.sc (.str "came"),.sc (.int (n:Int)),.sc (.int (t:Int)),.sc (.str p),.sc (.str k),Ws d.vs]
 | .asked n=>.tp [.sc (.str "asked"),.sc (.int (n:Int))]
 | .done n t y=>.tp [.sc (.str "done"),.sc (.int (n:Int)),.sc (.int (t:Int)),Ws y.vs]
def lA{H:Hp}{b:ZR}{xs:List V}(g:H b=some (.tup xs))(d:∀x∈xs,jY x=true):Rep H 1 (Ws xs) (.ref b):=by
 refine⟨b,xs,rfl,g,?_⟩
 induction xs with
 | nil=>exact .nil
 | cons x xs e=>
  clear g;refine .cons ⟨rfl,d x fP⟩ ?_;have:∀(a:List V),(∀y∈a,jY y=true)->Paired (Rep H 0) (a.map TV.sc) a:=λa h=>by
   induction a with
   | nil=>exact .nil
   | cons y a e=>exact .cons ⟨rfl,h y fP⟩ (e λz c=>h z (nD _ c))
  exact this xs λz c=>d z (nD _ c)
def Nw(d:Dd):∀x∈d.vs,jY x=true:=by
 intro x a;cases d<;>simp only [Dd.vs,mem_cons,ZH,or_false]at a<;>rcases a with rfl|rfl|rfl|rfl|rfl<;>rfl
def Ny(y:An):∀x∈y.vs,jY x=true:=by
 intro x a;cases y<;>simp only [An.vs,mem_cons,ZH,or_false]at a<;>rcases a with rfl|rfl|rfl|rfl|rfl<;>rfl
def At.rep{H:Hp}{a:ZR}{r:RX}(h:r.At H a):Rep H 2 r.tv (.ref a):=by
 cases r with
 | next n t=>exact⟨a,_,rfl,h,.cons ⟨rfl,rfl⟩ (.cons ⟨rfl,rfl⟩ (.cons ⟨rfl,rfl⟩ .nil))⟩
 | has z m=>exact⟨a,_,rfl,h,.cons ⟨rfl,rfl⟩ (.cons ⟨rfl,rfl⟩ (.cons ⟨rfl,rfl⟩ .nil))⟩
 | kept n t p k d y=>
  obtain⟨b,c,e,f,g⟩:=h;exact⟨a,_,rfl,e,.cons ⟨rfl,rfl⟩ (.cons ⟨rfl,rfl⟩ (.cons ⟨rfl,rfl⟩ (.cons ⟨rfl,rfl⟩ (.cons ⟨rfl,rfl⟩ (.cons (lA f (Nw d)) (.cons (lA g (Ny y)) .nil))))))⟩
 | came n t p k d=>
  obtain⟨b,e,f⟩:=h;exact⟨a,_,rfl,e,.cons ⟨rfl,rfl⟩ (.cons ⟨rfl,rfl⟩ (.cons ⟨rfl,rfl⟩ (.cons ⟨rfl,rfl⟩ (.cons ⟨rfl,rfl⟩ (.cons (lA f (Nw d)) .nil)))))⟩
 | asked n=>exact⟨a,_,rfl,h,.cons ⟨rfl,rfl⟩ (.cons ⟨rfl,rfl⟩ .nil)⟩
 | done n t y=>
  obtain⟨b,e,f⟩:=h;exact⟨a,_,rfl,e,.cons ⟨rfl,rfl⟩ (.cons ⟨rfl,rfl⟩ (.cons ⟨rfl,rfl⟩ (.cons (lA f (Ny y)) .nil)))⟩
def rank:RX->Nat|.next _ _=>0|.has _ _=>1|.kept _ _ _ _ _ _=>2|_=>3
def turn:RX->Nat|.next _ t=>t|.came _ t _ _ _=>t|.done _ t _=>t|_=>0
def Zf(a:List RX):RX->Prop
 | .next _ _=>a=[]
 | .has z _=>(∀q∈a,rank q<=1)/\(∃n t,.next n t∈a)/\∀j m,.has j m∈a->j.cps.toList<z.cps.toList
 | .kept n t _ _ d y=>(∀q∈a,rank q<=2)/\(∃l h,.next l h∈a/\n<l/\t<=h)/\(∀b c e f g i,.kept b c e f g i∈a->b<n)/\An.Of d y
 | .came n t _ _ _=>(∀b c e f g,.came b c e f g∈a->b<n)/\(∀c e f g i,.kept n c e f g i∉a)/\∀q∈a,turn q<=t
 | .asked n=>(∃t p k d,.came n t p k d∈a/\d.far=true)/\.asked n∉a/\∀t y,.done n t y∉a
 | .done n t y=>(∀q∈a,turn q<=t)/\(∀t y,.done n t y∉a)/\∃h p k d,.came n h p k d∈a/\An.Of d y/\(d.far=true->(.asked n∈a↔y.early=false))
inductive Whole:List RX->Prop
 | nil:Whole []
 | snoc {rs:List RX}{r:RX}:Whole rs->Zf rs r->Whole (rs++[r])
def Ok:RX->Prop
 | .next n t=>1<=n/\n<=1000000/\t<=1000000000000
 | .has z m=>cR z/\1<=m/\m<=1000000000000
 | .kept n t p k d y=>1<=n/\n<=999999/\t<=1000000000000/\cR p/\mF k/\d.Ok/\An.Of d y
 | .came n t p k d=>1<=n/\n<=999999/\t<=1000000000000/\cR p/\mF k/\d.Ok
 | .asked n=>1<=n/\n<=999999
 | .done n t _=>1<=n/\n<=999999/\t<=1000000000000
end RX
structure RxsAt(H:Hp)(ra:ZR)(rs:List RX)(as:List ZR):Prop where
 lst:H ra=some (.lst (as.map V.ref))
 each:Paired (λr a=>RX.At H a r) rs as
def RxsAt.len{H:Hp}{c:ZR}{a:List RX}{b:List ZR}(h:RxsAt H c a b):a.length=b.length:=h.each.length
def RxsAt.keep{H a:Hp}{b:ZR}{d:List RX}{c:List ZR}(h:RxsAt H b d c)(s:TK H a)(e:a b=some (.lst (c.map V.ref))):RxsAt a b d c:=⟨e,Paired.map' (λ_ _ x=>x.tk s) h.each⟩
def RxsAt.same{H a:Hp}{b:ZR}{c:List RX}{d:List ZR}(h:RxsAt H b c d)(s:Same H a):RxsAt a b c d:=h.keep s.tk (s _ _ h.lst)
def RxsAt.snoc{H b:Hp}{c:ZR}{f:List RX}{d:List ZR}{r:RX}{a:ZR}(h:RxsAt H c f d)(s:TK H b)(g:r.At b a)(e:b c=some (.lst (d.map V.ref++[.ref a]))):RxsAt b c (f++[r]) (d++[a]):=
 ⟨by rw[e,gO];rfl,Paired.snoc (Paired.map' (λ_ _ x=>x.tk s) h.each) g⟩
def RxsAt.get{H:Hp}{g:ZR}{c:List RX}{b:List ZR}(h:RxsAt H g c b){i:Nat}{v:V}(e:(b.map V.ref)[i]?=some v):∃(a:ZR)(r:RX),v=.ref a/\b[i]?=some a/\c[i]?=some r/\r.At H a:=by
 rw[fB]at e;cases d:b[i]? with
 | none=>rw[d]at e;cases e
 | some a=>
  rw[d]at e;cases e;obtain⟨k,l⟩:=Zgs.mp d;obtain⟨m,f⟩:=Paired.get' (j:=i) h.each k;rw[l]at f;exact⟨a,c[i],rfl,rfl,cD m,f⟩
def RxsAt.rep{H:Hp}{d:ZR}{b:List RX}{c:List ZR}(h:RxsAt H d b c):Rep H 3 (.ls (b.map RX.tv)) (.ref d):=by
 refine⟨d,_,rfl,h.lst,?_⟩;have:∀ {b:List RX}{c:List ZR},Paired (λr a=>RX.At H a r) b c->Paired (Rep H 2) (b.map RX.tv) (c.map V.ref):=by
  intro b c p;induction p with
  | nil=>exact .nil
  | cons h t e=>exact .cons h.rep e
 exact this h.each
def Lm(l:List Stmt)(i:Nat):Stmt:=l.getD i (.Pass ⟨0,0,0,0⟩)
def stT:Stmt->List Stmt|.If _ a _ _=>a|_=>[]
def stE:Stmt->List Stmt|.If _ _ b _=>b|_=>[]
def stB:Stmt->List Stmt|.For _ _ a _ _=>a|.While _ a _ _=>a|_=>[]
def aQ{t u:TS}{D:lQ}{c:St}{H:Hp}(R:St->Hp->Prop)(h:∀nx:St->Hp->Prop,(∀ a b,R a b->nx a b)->t {D with nx:=nx } c H)(d:∀ a b,R a b->u D a b):vL t u D c H:=h (u D) d
def oW{c:TT}{t u:TS}{D:lQ}{d:St}{H:Hp}(R:Bool->Hp->Prop)(h:∀k:Bool->Hp->Prop,(∀v a,R v a->k v a)->c d H k)(f:∀a,R true a->t D d a)(g:∀a,R false a->u D d a):zU c t u D d H:=
 h (λb e=>if b=true then t D d e else u D d e) λv a r=>match v,r with|true,r=>f a r|false,r=>g a r
def kA{c:TT}{t u x:TS}{D:lQ}{d:St}{H:Hp}(R:Bool->Hp->Prop)(h:∀k:Bool->Hp->Prop,(∀v a,R v a->k v a)->c d H k)(f:∀a,R true a->t {D with nx:=x D } d a)(g:∀a,R false a->u {D with nx:=x D } d a):vL (zU c t u) x D d H:=
 h (λb e=>if b=true then t {D with nx:=x D } d e else u {D with nx:=x D } d e) λv a r=>match v,r with|true,r=>f a r|false,r=>g a r
section
variable {X:Cx}
def Sf(b:Bool):R2:=λx y H Q=>mR y λa=>∃o,DGet H a x o/\Q (.bl (if b then !o.isSome else o.isSome)) H
def Sg(b:Bool)(d:X.A.units+1<cLine):OpR X (compareOp (if b then .NotIn else .In)) (Sf b):=by
 intro j s k H x y v u Q I e f h;unfold Sf at h;rw[cO]at h;obtain⟨a,rfl,o,g,q⟩:=h;cases f;cases b
 ·exact Vg d I g e λi c=>⟨.bl _,H,c,rfl,q⟩
 ·exact yC d I g e λi c=>⟨.bl _,H,c,rfl,q⟩
def R.ir(a:X.A.units+1<cLine):gA X (compareOp .In) (Sf false):=⟨Sg false a⟩
end
def dC(xs ys:List V):Prop:=∀(j:Nat)(u v:V),xs[j]?=some u->ys[j]?=some v->cI u=true/\cI v=true
def kB{xs:List V}(h:dC xs xs):cJ xs xs=true:=by
 unfold cJ;rw[Bool.and_eq_true_iff];refine⟨all_eq_true.mpr λj a=>?_,Zs⟩;have a:j<xs.length:=by simpa using a
 have e:xs.getD j .non=xs[j]:=by simp[List.getD,a]
 rw[e];have:=(h j xs[j] xs[j] (cD a) (cD a)).1;generalize xs[j]=v at this;cases v<;>first|exact ZM (show false=true from this) ZX|simp[nF]
section
variable {X:Cx}
def uM{p:Z9}{s:ZP}{G:St}{H:Hp}{a b:ZR}{xs ys:List V}(I:Inv X p G H s)(J:X.A.units+64<cLine)(g1:H a=some (.tup xs))(g2:H b=some (.tup ys))(k:dC xs ys):SeqAt.EqAt X.A.in1 s (.ref a) (.ref b) (cJ xs ys):=by
 by_cases e:a=b
 ·subst e;rw[g1]at g2;cases g2;rw[kB k];exact SeqAt.EqAt.same _
 ·obtain⟨c,l,t,_⟩:=I.tuple (QZy g1);obtain⟨d,m,u,_⟩:=I.tuple (QZy g2);have v:c.length=xs.length:=l.length.symm;have x:d.length=ys.length:=m.length.symm;have q:∀j (f:j<c.toArray.size) (g:j<d.toArray.size),SeqAt.EqAt X.A.in1.in1 s c.toArray[j] d.toArray[j] (nF (xs.getD j .non) (ys.getD j .non)):=λj f g=>by
   rw[cZ]at f g;obtain⟨n,y⟩:=Paired.get' (j:=j) l f;obtain⟨o,B⟩:=Paired.get' (j:=j) m g;obtain⟨f1,f2⟩:=k j xs[j] ys[j] (cD n) (cD o);have C:xs.getD j .non=xs[j]:=by simp[List.getD,n]
   have D:ys.getD j .non=ys[j]:=by simp[List.getD,o]
   rw[C,D];simpa using jU y B f1 f2
  have e:((List.range (min c.toArray.size d.toArray.size)).all (λj=>nF (xs.getD j .non) (ys.getD j .non))&&c.toArray.size==d.toArray.size)=cJ xs ys:=by
   rw[cZ,cZ,v,x];rfl
  have i:=SeqAt.RcAt.tuples (A:=X.A.in1) (s:=s) t u (by rw[qR];omega) q;rw[e]at i;intro r w E Q h;unfold eqBool;refine wpAny_holding ?_;refine wpAny_ite_split (λF=>ZM (eq_of_beq F) (λz=>by cases z;contradiction)) (λ_=>?_);exact ZZ (i r w E _ (wpAny_truthy_bool h))
def Bh(xs:List V)(a:List (ZR×List V)):Bool:=a.any λz=>cJ z.2 xs
def Sh(d:Bool):R2:=λx y H Q=>mR x λa=>mR y λp=>∃(b:List V)(c:List (ZR×List V)),H a=some (.tup b)/\H p=some (.lst (c.map λz=>V.ref z.1))/\(∀z∈c,H z.1=some (.tup z.2)/\dC z.2 b)/\Q (.bl (if d then !Bh b c else Bh b c)) H
def Wu(H:Hp)(xs:List V)(v:ZQ):Bool:=match v with|.ref b=>(match H b with|some (.tup a)=>cJ a xs|_=>false)|_=>false
def Fx{H:Hp}{xs ys:List V}{b:ZR}(g:H b=some (.tup ys)):Wu H xs (.ref b)=cJ ys xs:=by unfold Wu;dsimp only;rw[g]
def wV{a:List (ZR×List V)}:∀ {us:List ZQ},Vals (a.map λz=>V.ref z.1) us->us=a.map λz=>Value.ref z.1:=by
 induction a with
 | nil=>intro us r;cases r;rfl
 | cons z a b=>intro us r;cases r with|cons r t=>rw[b t];cases r;rfl
def Si(f:Bool)(n:X.A.units+64<cLine):OpR X (compareOp (if f then .NotIn else .In)) (Sh f):=by
  intro C s D H x y v u Q I o t h;unfold Sh at h;rw[cO]at h;obtain⟨a,rfl,h⟩:=h;rw[cO]at h;obtain⟨p,rfl,d,b,g1,g2,c,q⟩:=h;cases o;cases t;obtain⟨g,r,j,_⟩:=I.list (QZx g2);have k:=wV r;have l:∀w,w∈g.toArray->SeqAt.EqAt X.A.in1 s w (.ref a) (Wu H d w):=λw e=>by
    have e:w∈g:=by simpa using e
    rw[k]at e;obtain⟨z,i,rfl⟩:=Zmm.mp e;rw[Fx (c z i).1];exact uM I n (c z i).1 g1 (c z i).2
  have m:g.toArray.any (Wu H d)=Bh d b:=by
    rw[k];unfold Bh;rw[List.any_toArray,List.any_map];have:∀b:List (ZR×List V),(∀z∈b,H z.1=some (.tup z.2)/\dC z.2 d)->b.any (Wu H d∘λz=>Value.ref z.1)=b.any λz=>cJ z.2 d:=λb c=>by
     induction b with
     | nil=>rfl
     | cons z b A=>
      rw[any_cons,any_cons,A λy B=>c y (nD _ B)]
      congr 1
      exact Fx (c z fP).1
    exact this b c
  cases f
  . refine SeqAt.in_listAt _ j.isList l ⟨.bl _,H,I,rfl,?_⟩
    rw[m];exact q
  . refine SeqAt.notIn_listAt _ j.isList l ⟨.bl _,H,I,rfl,?_⟩
    rw[m];exact q
def R.iw(a:X.A.units+64<cLine):gA X (compareOp .In) (Sh false):=⟨Si false a⟩
end
def Tz:Option (ZR×List V)->V|none=>.non|some q=>.ref q.1
def vI(o:Option (ZR×List V))(ys:List V):Bool:=match o with|none=>false|some q=>cJ q.2 ys
def Ln(H:Hp)(o:Option (ZR×List V))(ys:List V):Prop:=∀q,o=some q->H q.1=some (.tup q.2)/\dC q.2 ys
section
variable {X:Cx}
def Lo(c:Bool):R2:=λx y H Q=>mR y λb=>∃(o:Option (ZR×List V))(a:List V),x=Tz o/\Ln H o a/\H b=some (.tup a)/\Q (.bl (if c then !vI o a else vI o a)) H
def Fy(a:Bool)(g:X.A.units+64<cLine):OpR X (compareOp (if a then .NotEq else .Eq)) (Lo a):=by
 intro f s k H x y v u Q I c d h;unfold Lo at h;rw[cO]at h;obtain⟨b,rfl,o,m,rfl,i,g2,q⟩:=h
 cases o with
 | some z=>
  obtain⟨g1,j⟩:=i z rfl;refine Fn a g f s k H _ _ v u Q I c d ?_;exact⟨_,_,g1,g2,j,q⟩
 | none=>
  cases c;cases d;obtain⟨l,n,e,_⟩:=I.tuple (QZy g2)
  cases a with
  | true=>exact SeqAt.RcNeAt.none_tuple (A:=X.A) (s:=s) e Zo _ _ _ _ ⟨.bl _,H,I,rfl,q⟩
  | false=>exact SeqAt.RcAt.none_tuple (A:=X.A) (s:=s) e Zo _ _ _ _ ⟨.bl _,H,I,rfl,q⟩
def R.iy(a:X.A.units+64<cLine):gA X (compareOp .Eq) (Lo false):=⟨Fy false a⟩
def R.iz(a:X.A.units+64<cLine):gA X (compareOp .NotEq) (Lo true):=⟨Fy true a⟩
abbrev Xv:=Option (ZR×Option (ZR×List V)×Str)
def Fz:Xv->V|none=>.non|some q=>.ref q.1
def Lp(o:Xv)(ys:List V)(w:Str):Bool:=match o with|none=>false|some q=>vI q.2.1 ys&&decide (q.2.2=w)
def Sj:R2:=λx y H Q=>mR y λb=>∃(o:Xv)(c:ZR)(a:List V)(w:Str),x=Fz o/\(∀q,o=some q->H q.1=some (.tup [Tz q.2.1,.str q.2.2])/\Ln H q.2.1 a)/\H b=some (.tup [.ref c,.str w])/\H c=some (.tup a)/\Q (.bl (Lp o a w)) H
def Sk(C:X.A.units+64<cLine):OpR X (compareOp .Eq) Sj:=by
 intro P s U H x y v u Q I l m h;unfold Sj at h;rw[cO]at h;obtain⟨b,rfl,o,c,d,w,rfl,D,g2,n,q⟩:=h
 cases o with
 | none=>
  cases l;cases m;obtain⟨t,g,k,_⟩:=I.tuple (QZy g2);exact SeqAt.RcAt.none_tuple (A:=X.A) (s:=s) k Zo _ _ _ _ ⟨.bl _,H,I,rfl,q⟩
 | some z=>
  obtain⟨a,o,f⟩:=z;obtain⟨g1,E⟩:=D _ rfl;cases l;cases m;obtain⟨t,g,k,_⟩:=I.tuple (QZy g1);obtain⟨R,i,F,_⟩:=I.tuple (QZy g2)
  cases g with
  | cons p g=>cases g with
  | cons G g=>cases g with
  | nil=>cases i with
  | cons J i=>cases i with
  | cons K i=>cases i with
  | nil=>
  have B:=SeqAt.RcAt.tuples (A:=X.A) (s:=s) (e:=λj=>if j=0 then vI o d else decide (f=w)) k F Zo (λj L M=>?_)
  ·have e:((List.range (min 2 2)).all (λj=>if j=0 then vI o d else decide (f=w))&&2==2)=Lp (some (a,o,f)) d w:=by
    show((List.range 2).all _&&true)=(vI o d&&decide (f=w));simp[List.range,List.range.loop]
   have r:=B;rw[show((List.range (min (toArray [_,_]).size (toArray [_,_]).size)).all (λj=>if j=0 then vI o d else decide (f=w))&&(toArray [_,_]).size==(toArray [_,_]).size)=Lp (some (a,o,f)) d w from e]at r;exact r _ _ _ _ ⟨.bl _,H,I,rfl,q⟩
  ·match j,L,M with
   | 0,_,_=>
    show SeqAt.EqAt X.A.in1 s _ _ (vI o d);cases J
    cases o with
    | none=>
     cases p;obtain⟨S,T,N,_⟩:=I.tuple (QZy n);exact SeqAt.EqAt.none_tuple N (by rw[qR];omega)
    | some z=>
     cases p;obtain⟨g3,O⟩:=E z rfl;exact uM I C g3 n O
   | 1,_,_=>
    show SeqAt.EqAt X.A.in1 s _ _ (decide (f=w));have:=jU (A:=X.A.in1) (s:=s) G K rfl rfl;exact this
def Ga:R2:=λx y H Q=>mB x λp=>mB y λq=>Q (.int (b2i p+b2i q)) H
def Lq:OpR X (binaryOp .Add) Ga:=by
 intro c s d H x y v u Q I a b h;unfold Ga at h;rw[oM]at h;obtain⟨p,rfl,h⟩:=h;rw[oM]at h;obtain⟨q,rfl,h⟩:=h;cases a;cases b;exact add_bool ⟨.int (b2i p+b2i q),H,I.tok _,⟨_,rfl⟩,h⟩
def R.ja:gA X (binaryOp .Add) Ga:=⟨Lq⟩
def R.jb(a:X.A.units+64<cLine):gA X (compareOp .Eq) Sj:=⟨Sk a⟩
end
def nH(l:ZR)(e:Array Value)(n:Nat)(dct:Option ZR)(sl:Array (Option ZQ)) :
  Meets (Builtin.«enumerate.__new__» ⟨[.type "enumerate",.ref l],[]⟩) (λ_ R s=>s.heap.get? l=some {cls:=.type "tuple",dict:=dct,data:=.seq e n,slots:=sl } ∧
   R (.ok (.ret (.ref (s.heap.push {cls:=.type "tuple_iterator",data:=.fields #[.ref l,.int 0 0] }).objs.size)))
    {s with heap:=(s.heap.push {cls:=.type "tuple_iterator",data:=.fields #[.ref l,.int 0 0] }).push {cls:=.type "enumerate",data:=.fields #[.none,.bool false,.ref s.heap.objs.size,rawInt 0,.none,.none] } }):=
 .of_wp λi w A R s h=>by
  obtain⟨f,g,d,tk,os⟩:=s;obtain⟨a,h⟩:=h;have j:=sub_enumerate;have b:Heap.IsTuple (Shared.heap ⟨f,g,d,tk,os⟩) l e:=⟨_,a,rfl,n,rfl⟩
  wp_walk using AutoSeq1.wpAny_loadPart' a
  refine wpAny_stack_any λst=>ZY ?_;split
  ·rename_i c _ _ _ _ _;cases(c==Value.type "enumerate")
   ·wp_walk using AutoSeq1.wpAny_loadPart' a,wpAny_pyIter_tuple b
    exact⟨_,rfl,h⟩
   ·wp_walk using AutoSeq1.wpAny_loadPart' a,wpAny_pyIter_tuple b
    exact⟨_,rfl,h⟩
  ·wp_walk using AutoSeq1.wpAny_loadPart' a,wpAny_pyIter_tuple b
   exact⟨_,rfl,h⟩
section
variable {prog:Program}{w:World}{A:Around}{E:Z8}{s:ZP}
def Lr{J:Heap->Prop}{e it:ZR}{i:Nat}{x j:ZQ}{Q:Z8}(q:IsEnum s.heap e it i j)(S:it≠e)(r:∀h h',J h->Heap.ExtBut e h h'->J h')(T:∀h o,J h->J (h.push o))(U:∀(V:Around)(W:Z8)(H:Z8),(∀c,J c->Heap.SameBut it s.heap c->H x {s with heap:=c })->wpAny (model prog w) V (Builtin.SmallTypes.nextOf (.ref it)) H W s)(a0:∀h',IsEnumOut h' e it ((i:Int)+1) x s.heap.objs.size->J h'->h'.get? s.heap.objs.size=some {cls:=.type "tuple",data:=.seq #[.int i s.toks,x] }->h'.objs.size=s.heap.objs.size+1 →
   (∀b o,b≠e->b≠it->s.heap.get? b=some o->h'.get? b=some o)->Q (.ref s.heap.objs.size) {s with heap:=h',toks:=s.toks+1 }) :
  wpAny (model prog w) A (Builtin.«enumerate.__next__» ⟨[.ref e],[]⟩) (λfin X=>∃v,fin=.done (.ret v)/\Q v X) E s:=by
 obtain⟨f,g,d,tk,os⟩:=s;have lt:e<f.objs.size:=Heap.lt_size q;show wpAny _ _ (field (.ref e) 2>>=_) _ _ _;refine ZZ (wpAny_field q rfl (x:=.ref it) rfl (ZZ (U _ _ _ λc Y Z=>?_)));have u:Heap.SameBut it f c:=Z;have y:IsEnum c e it i j:=(u.2 e S.symm).trans q;show wpAny _ _ (field (.ref e) 3>>=_) _ _ ⟨c,g,d,tk,os⟩;refine ZZ (wpAny_field y rfl (x:=rawInt i) rfl ?_);show wpAny _ _ (field (.ref e) 4>>=_) _ _ ⟨c,g,d,tk,os⟩;refine ZZ (wpAny_field y rfl (x:=.none) rfl ?_);show wpAny _ _ (mkInt i>>=_) _ _ ⟨c,g,d,tk,os⟩;refine ZZ (wpAny_mkInt ?_);show wpAny _ _ (setField (.ref e) 3 (rawInt ((i:Int)+1))>>=λ_=>setField (.ref e) 4 .none>>=_) _ _ ⟨c,g,d,tk+1,os⟩;refine ZZ (wpAny_setField_rec y Zs λz (e2:IsEnum z e it ((i:Int)+1) j) (B:Heap.SameBut e c z)=>ZZ (wpAny_setField_rec e2 Zs λa (e3:IsEnum a e it ((i:Int)+1) j) (C:Heap.SameBut e z a)=>?_));show wpAny _ _ (newTuple [.int i tk,x]>>=λt=>Builtin.SmallTypes.ownedTupleIsFree (.ref e)>>=_) _ _ ⟨a,g,d,tk+1,os⟩;refine ZZ (wpAny_newTuple ?_);have D:a.objs.size=f.objs.size:=by rw[C.1,B.1,u.1]
 have k3:∀b o,b≠e->b≠it->f.get? b=some o->a.get? b=some o:=λb o n m h=>C.extBut b o n (B.extBut b o n (u.extBut b o m h))
 have I:=T a {cls:=.type "tuple",data:=.seq #[.int i tk,x] } (r _ _ (r _ _ Y B.extBut) C.extBut);have k:IsEnum (a.push {cls:=.type "tuple",data:=.seq #[.int i tk,x] }) e it ((i:Int)+1) j:=iE _ e3;have K:(a.push {cls:=.type "tuple",data:=.seq #[.int i tk,x] }).get? f.objs.size=some {cls:=.type "tuple",data:=.seq #[.int i tk,x] }:=by rw[<- D];exact ZS _ rfl
 have L:(a.push {cls:=.type "tuple",data:=.seq #[.int i tk,x] }).objs.size=f.objs.size+1:=by rw[Heap.size_push,D]
 have M:∀b o,b≠e->b≠it->f.get? b=some o->(a.push {cls:=.type "tuple",data:=.seq #[.int i tk,x] }).get? b=some o:=λb o n m h=>iE _ (k3 b o n m h)
 rw[D];show wpAny _ _ (Builtin.SmallTypes.ownedTupleIsFree (.ref e)>>=_) _ _ ⟨a.push {cls:=.type "tuple",data:=.seq #[.int i tk,x] },g,d,tk+1,os⟩;generalize a.push {cls:=.type "tuple",data:=.seq #[.int i tk,x] }=N at I k K L M;unfold Builtin.SmallTypes.ownedTupleIsFree;refine ZZ (ZZ (wpAny_field k rfl (x:=.none) rfl (ZY ?_)));simp only [if_true];refine ZZ (wpAny_rule (ZZ (wpAny_field k rfl (x:=j) rfl (ZZ (wpAny_setField_rec k Zs λl (e5:IsEnum l e it ((i:Int)+1) x) (O:Heap.SameBut e N l)=>?_)))));show wpAny _ _ (Builtin.SmallTypes.ownedTupleHandOut (.ref e) (.ref f.objs.size)>>=_) _ _ ⟨l,g,d,tk+1,os⟩;unfold Builtin.SmallTypes.ownedTupleHandOut;refine ZZ (ZZ (wpAny_setField_rec e5 Zs λF (e6:IsEnumOut F e it ((i:Int)+1) x f.objs.size) (P:Heap.SameBut e l F)=>wpAny_setField_rec e6 Zs λp (e7:IsEnumOut p e it ((i:Int)+1) x f.objs.size) (R:Heap.SameBut e F p)=>?_));have G:∀b o,b≠e->N.get? b=some o->p.get? b=some o:=λb o n h=>R.extBut b o n (P.extBut b o n (O.extBut b o n h))
 exact ZZ (wpAny_letGo (ZY ⟨_,rfl,a0 p e7 (r _ _ I G) (G _ _ (ne_of_gt lt) K) (by rw[R.1,P.1,O.1,L]) λb o n m h=>G b o n (M b o n m h)⟩))
def lB{e it l:ZR}{i:Nat}{f:Array Value}{x q:ZQ}{Q:Option ZQ->ZP->Prop}(m:IsEnum s.heap e it i q)(r:ItAt false s.heap it l i)(t:s.heap.IsTuple l f)(u:f[i]?=some x)(n:e≠it)(v:∀h',IsEnumOut h' e it ((i:Int)+1) x s.heap.objs.size->ItAt false h' it l (i+1)->h'.get? s.heap.objs.size=some {cls:=.type "tuple",data:=.seq #[.int i s.toks,x] }->h'.objs.size=s.heap.objs.size+1 →
   (∀b o,b≠e->b≠it->s.heap.get? b=some o->h'.get? b=some o)->Q (some (.ref s.heap.objs.size)) {s with heap:=h',toks:=s.toks+1 }):wpAny (model prog w) A (pyNext (.ref e)) Q E s:=by
 have p:s.TypeIs (.ref e) "enumerate":=⟨_,m,rfl⟩;unfold pyNext;refine ZZ (wpAny_attempt (wpAny_callSpecial?_slot (name:=Str.ofString "__next__") p F.slot_enumerate_next (wpAny_call_entry F.slot_enumerate_next p F.entry_enumerate_next ?_ (F.args_enumerate_next_1 _))));exact Lr (J:=λh=>ItAt false h it l (i+1)) m n.symm (λh h' j c=>j.by λo g=>c _ _ n.symm g) (λh o j=>j.by λo g=>iE _ g) (λy z B h=>Kx r (show yU false _ l f from t) u h) λh' a b c d k=>ZY (v h' a b c d k)
def mG{e it l:ZR}{i:Nat}{a:Array Value}{g:ZQ}{Q:Option ZQ->ZP->Prop}(j:A.handled=none)(d:IsEnum s.heap e it i g)(h:ItAt false s.heap it l i)(k:s.heap.IsTuple l a)(m:a[i]?=none)(n:∀h',Heap.ExtBut it s.heap h'->Q none {s with heap:=h' }):wpAny (model prog w) A (pyNext (.ref e)) Q E s:=by
 have f:s.TypeIs (.ref e) "enumerate":=⟨_,d,rfl⟩;unfold pyNext;refine ZZ (wpAny_attempt (wpAny_callSpecial?_slot (name:=Str.ofString "__next__") f F.slot_enumerate_next (wpAny_call_entry F.slot_enumerate_next f F.entry_enumerate_next ?_ (F.args_enumerate_next_1 _))));show wpAny _ _ (field (.ref e) 2>>=_) _ _ _;refine ZZ (wpAny_field d rfl (x:=.ref it) rfl (ZZ (Rx j h (show yU false _ l a from k) m ?_)));rintro h' x c ⟨o,p,q⟩;exact ZZ (wpAny_isInstance (T:="StopIteration") (b:=true) ⟨o,p,q⟩ isSubtype_stop (ZY (n _ c)))
def pT{l:ZR}{a:Array Value}{Q:Z8}(i:s.heap.IsTuple l a)(h:∀h',IsEnum h' (s.heap.objs.size+1) s.heap.objs.size 0 .none->ItAt false h' s.heap.objs.size l 0->h'.objs.size=s.heap.objs.size+2 →
   (∀b o,s.heap.get? b=some o->h'.get? b=some o)->Q (.ref (s.heap.objs.size+1)) {s with heap:=h' }) :
  wpAny (model prog w) A (call (.type "enumerate") [.ref l]) Q E s:=by
 obtain⟨⟨c,dct,j,sl⟩,k,d,n,e⟩:=i;replace d:c=.type "tuple":=d;replace e:j=.seq a n:=e;subst d e;refine callType_new F.called_enumerate Zd (F.typeCall_enumerate_1 _) (F.newCall_enumerate_1 _) (λobj=>F.args_object_init_2 obj _) F.entry_enumerate_new
  (nH l a n dct sl) ⟨k,?_⟩
 have f:(s.heap.push {cls:=.type "tuple_iterator",data:=.fields #[.ref l,.int 0 0] }).objs.size=s.heap.objs.size+1:=Heap.size_push ..;show _/\_;rw[f];have g:IsEnum ((s.heap.push {cls:=.type "tuple_iterator",data:=.fields #[.ref l,.int 0 0] }).push
   {cls:=.type "enumerate",data:=.fields #[.none,.bool false,.ref s.heap.objs.size,rawInt 0,.none,.none] }) (s.heap.objs.size+1) s.heap.objs.size 0 .none:=by
  have:=ZS (s.heap.push {cls:=.type "tuple_iterator",data:=.fields #[.ref l,.int 0 0] })
   (o:={cls:=.type "enumerate",data:=.fields #[.none,.bool false,.ref s.heap.objs.size,rawInt 0,.none,.none] }) rfl
  rw[f]at this;exact this
 refine⟨⟨_,g,rfl⟩,h _ g ⟨_,iE _ (ZS _ rfl),rfl,rfl⟩ (by rw[Heap.size_push,f]) λb o x=>iE _ (iE _ x)⟩
end
def Bi(K:W.Frag)(a:ZR):It:=
  ⟨λi H=>∃b x,SqT K H a b/\b[i]?=some x,
   λi H v c=>∃t x,H t=none/\v=.ref t/\c=aK H t (.tup [.int i,x])/\∀b,SqT K H a b->b[i]?=some x,
   λi H=>∃b,SqT K H a b/\b.length<=i⟩
structure Zh(h:Heap)(e it a:ZR)(i:Nat):Prop where
 e:∃old,IsEnum h e it i old
 i:ItAt false h it a i
def wW{P:Program}{w:World}{K:W.Frag}{Q:List Expr}{n:Nat}{pos:Pos}{e it a:ZR}(G:e≠it)(XZ:a≠e)(YA:a≠it) :
  rH P w K (.Tuple Q n pos) (Bi K a) [e,it] e (λi h=>Zh h e it a i) where
 mem:=by simp
 obj:=λi h st b c=>by
  obtain⟨f,d⟩:=st.e;obtain⟨j,k,_,R⟩:=st.i;simp only [mem_cons,ZH,or_false]at c;rcases c with rfl|rfl
  ·exact⟨_,d,λv q=>by have S:Data.fields _=Data.cell v:=q;cases S⟩
  ·exact⟨_,k,λv q=>by rw[R]at q;cases q⟩
 keep:=λi h h' st g=>by
  obtain⟨f,d⟩:=st.e;obtain⟨j,k,a0⟩:=st.i;exact⟨⟨f,g e Zs _ d⟩,⟨j,g it Zs _ k,a0⟩⟩
 item:=by
  intro X r t y J i N s σ H a1 I m st z;subst r t y;obtain⟨T,x,o,L⟩:=z;obtain⟨O,A,p,_⟩:=I.tuple o;obtain⟨u,U,V⟩:=A.get L;obtain⟨f,d⟩:=st.e;refine lB d st.i p (by simpa using U) G λY k Z t1 z1 B=>?_;refine⟨_,rfl,?_⟩;refine wpAny_letOwnedTupleGo_enum k λh2 e2 C=>?_;have F:e<s.heap.objs.size:=Heap.lt_size d;have t2:h2.get? s.heap.objs.size=some {cls:=.type "tuple",data:=.seq #[.int i s.toks,u] }:=C.extBut _ _ (ne_of_gt F) t1;refine⟨.ref s.heap.objs.size,aK H s.heap.objs.size (.tup [.int i,x]),I.turnLaid (t':=s.toks+1) m (λb a2 c D=>?_) (bQ _) ⟨by show 2<=sizeLine;decide,[.int i s.toks,u],.cons ⟨_,rfl⟩ (.cons V .nil),⟨_,t2,rfl,_,rfl⟩⟩,rfl,?_,?_,λb c=>?_⟩
  ·have l:b≠e/\b≠it:=by simpa using c
   exact C.extBut _ _ l.1 (B b a2 l.1 l.2 D)
  ·exact⟨s.heap.objs.size,x,I.hok.fresh (bQ _),rfl,rfl,λzs hz=>by rw[I.tuple_inj hz o];exact L⟩
  ·obtain⟨j,E,M⟩:=Z;exact⟨⟨_,by simpa using e2⟩,⟨j,C.extBut _ _ G.symm E,M⟩⟩
  ·have B2:b<s.heap.objs.size:=by
    obtain⟨j,E,M⟩:=st.i;simp only [mem_cons,ZH,or_false]at c;rcases c with rfl|rfl
    ·exact F
    ·exact Heap.lt_size E
   rw[aF (ne_of_lt B2)];exact(m b c).1
 done:=by
  intro X r t y J i N s σ H a1 I m st z;subst r t y;obtain⟨T,o,hl⟩:=z;obtain⟨O,A,p,_⟩:=I.tuple o;obtain⟨f,d⟩:=st.e;have l1:=A.length;refine mG (I.ok.hd J) d st.i p (by simp;omega) λY B=>?_;refine⟨rfl,I.turnL (t':=s.toks) m λb u c D=>?_⟩;have l:b≠e/\b≠it:=by simpa using c
  exact B b u l.2 D
 self:=λ_ _ _ _ _ st h=>by
  obtain⟨f,d⟩:=st.e;exact wpAny_pyIter_enum d h
section
variable {X:Cx}{a b:Expr}{ta tb:TE}{p pos xx:Pos}{es:List Expr}{n:Nat}
def Gb(K:W.Frag)(ta:TE):TI:=λe H R=>ta e H λx c=>mR x λa=>∃d,SqT K c a d/\R (Bi K a) c
def Gc(B:Gl X "enumerate")(C:X.mg "enumerate"=none)(D:PE X a ta)(i:aR a=true):PI X (.Tuple es n xx) (.Call (.Name "enumerate" p) [a] [] pos) (Gb X.K ta):=by
 intro g s A H R I h;have E:starEach [a] X.env=[(false,eval a X.env)]:=by rw[bU i];rfl
 have F:PA X [a] (fF ta jR):=El D vT i;refine Call_ (nU I B C boot_enumerate (PyProof.Rows.callWith_type1 (bP (F pos g s A H (λvs j=>match vs with|[x]=>(mR x λe=>∃l,SqT X.K j e l/\R (Bi X.K e) j)|_=>False) I ?_) ?_) (by rw[E];rfl) rfl))
 ·exact h
 ·rintro P c ⟨vs,m,f,G,d⟩;(try dsimp only at d);split at d
  rotate_left
  ·exact d.elim
  rename_i x;rw[cO]at d;obtain⟨e,rfl,l,J,q⟩:=d
  cases G with
  | cons r K=>
   cases K;cases r;obtain⟨O,Q,t,_⟩:=f.tuple J;refine pT t λu v L S k=>?_;have M:Inv X g A m {c with heap:=u }:=f.kept (t':=c.toks) k;have w:e<c.heap.objs.size:=by
    obtain⟨o,N,_⟩:=t;exact Heap.lt_size N
   refine wpAny_pyIter_enum (s:={c with heap:=u }) v ?_;refine⟨c.heap.objs.size+1,_,_,_,m,rfl,M,wW (ne_of_gt (lt_succ_self _)) (ne_of_lt (Nat.lt_succ_of_lt w)) (ne_of_lt w),⟨⟨_,v⟩,L⟩,λb y=>?_,q⟩;have z:c.heap.objs.size<=b:=by
    simp only [mem_cons,ZH,or_false]at y;rcases y with rfl|rfl
    ·exact Nat.le_add_right _ 1
    ·exact bQ _
   exact f.fpOk z (f.hok.fresh z)
def R.jc{K:W.Frag}(c:Gl X "enumerate")(d:X.mg "enumerate"=none)(e:XE X a ta)(f:X.K=K:=by rfl)(g:aR a=true:=by rfl):XI X (.Tuple es n xx) (.Call (.Name "enumerate" p) [a] [] pos) (Gb K ta):=
 f▸⟨Gc c d e.h g⟩
end
def Bj{K:W.Frag}{a:ZR}{xs:List V}{g:TG}{j:TS}{D:lQ}{b:St}{H:Hp}(Pv:Nat->St->Hp->Prop)(o:∀i b H,Pv i b H->SqT K H a xs)(q:Pv 0 b H)(r:∀(i:Nat)(x:V) b H t,xs[i]?=some x->Pv i b H->H t=none->g (.ref t) b (aK H t (.tup [.int i,x])) λd f=>j {D with nx:=Pv (i+1),ct:=Pv (i+1),bk:=D.nx } d f)(s:∀ b H,Pv xs.length b H->D.nx b H) :
  ∃W:Nat->Nat->St->Hp->Prop,(∃m,W 0 m b H)/\∀i m b H,W i m b H →
   ((Bi K a).stop i H/\D.nx b H)∨((Bi K a).go i H/\∃N:St->Hp->Prop,(∀ e c,N e c->∃k,k<m/\W (i+1) k e c)/\∀x c,(Bi K a).yld i H x c->g x b c λd f=>j {D with nx:=N,ct:=N,bk:=D.nx } d f):=by
 refine⟨λi m b H=>m=xs.length-i/\i<=xs.length/\Pv i b H,⟨_,rfl,zero_le _,q⟩,?_⟩;rintro i m b H ⟨rfl,y,p⟩;have h:=o i b H p;by_cases l:i<xs.length
 ·refine .inr ⟨⟨xs,xs[i],h,cD l⟩,Pv (i+1),λe c n=>⟨xs.length-(i+1),Zo,rfl,l,n⟩,?_⟩;rintro v c ⟨t,x,u,rfl,rfl,w⟩;exact r i x b H t (w xs h) p u
 ·have:i=xs.length:=by omega
  subst this;exact .inl ⟨⟨xs,h,bQ _⟩,s b H p⟩
end L2
namespace KL
open PySem L2
def kj:=@R.ab
def kl:=@R.v
def km:=@R.ad
def ko:=@R.ag
def kt:=@R.int
def ku:=@R.ah
def kz:=@R.ai
def lf:=@R.op
def li:=@R.it
def lv:=@R.fn
def mo:=@R.ao
def ms:=@R.ap
def nw:=@R.aq
def om:=@R.ar
def oq:=@R.au
def ot:=@R.av
def ou:=@R.ix
def oy:=@R.gn
def o0:=@R.il
def pi:=@R.eq
def re:=@R.aw
def sn:=@R.ax
def tj:=@R.ay
def tm:=@R.kiL
def ut:=@R.az
def u8:=@R.ba
def v0:=@R.kiT
def wn:=@R.bc
def wp:=@R.be
def wr:=@R.bf
def ww:=@R.bg
def xz:=@R.tw
def zn:=@R.bh
def AC:=@R.bi
def AT:=@R.bj
def FM:=@R.bn
def FS:=@R.bo
def G8:=@R.bp
def IN:=@R.br
def J6:=@R.bt
def NE:=@R.bu
def O2:=@R.bv
def O3:=@R.bq
def O4:=@R.bw
def O5:=@R.bz
def O6:=@R.cf
def PP:=@R.cg
def Q5:=@R.ci
def Q6:=@R.cj
def Q7:=@R.cp
def TD:=@R.bl
def TW:=@R.cq
def T0:=@R.cv
def T8:=@R.cx
def T9:=@R.cz
def UF:=@R.ne
def UV:=@R.db
def U0:=@R.df
def U1:=@R.dh
def U2:=@R.ps
def U3:=@R.di
def U4:=@R.dj
def fQ(i:Nat):Stmt:=PySem.Challenge.pw_oncedoor_k73_houses_unlike.main.body.getD i (.Pass ⟨0,0,0,0⟩)
abbrev jF:Stmt:=fQ 11
abbrev lC:Stmt:=fQ 12
abbrev gU:Stmt:=fQ 13
abbrev dD:Stmt:=fQ 14
abbrev jG:Stmt:=fQ 18
abbrev eI:Stmt:=fQ 19
abbrev jH:Stmt:=fQ 20
abbrev dE:Stmt:=fQ 21
abbrev lD:Stmt:=fQ 24
abbrev eT:Stmt:=fQ 26
abbrev dF:Stmt:=fQ 28
abbrev eU:Stmt:=fQ 29
abbrev eJ:Stmt:=fQ 30
abbrev aZ:Stmt:=dW (fQ 33) 0
abbrev fT:Stmt:=dW (fQ 33) 1
abbrev cT:Stmt:=dW (fQ 33) 2
abbrev dG:Stmt:=dW (fQ 33) 3
abbrev eX:Stmt:=dW (fQ 33) 4
abbrev dX:Stmt:=dW (fQ 33) 5
abbrev dH:Stmt:=dW (fQ 33) 6
abbrev dI:Stmt:=dW (fQ 33) 7
abbrev dJ:Stmt:=dW (fQ 33) 8
abbrev dL:Stmt:=dW (fQ 33) 9
abbrev fU:Stmt:=fQ 34
abbrev gV:Stmt:=fQ 36
abbrev gW:Stmt:=fQ 37
abbrev cG:Stmt:=fQ 38
abbrev jI:Stmt:=fQ 39
abbrev gX:Stmt:=fQ 40
abbrev eK:Stmt:=fQ 41
abbrev eY:Stmt:=fQ 42
abbrev fV:Stmt:=fQ 43
abbrev gY:Stmt:=fQ 44
abbrev bN:Stmt:=fQ 45
abbrev eZ:Stmt:=fQ 46
abbrev fK:Stmt:=fQ 47
abbrev eL:Stmt:=fQ 48
abbrev fW:Stmt:=fQ 49
abbrev dY:Stmt:=fQ 50
abbrev dZ:Stmt:=fQ 51
abbrev gZ:Stmt:=fQ 52
abbrev cW:Stmt:=fQ 53
abbrev jJ:Stmt:=fQ 54
abbrev dS:Stmt:=fQ 55
abbrev iR:Stmt:=fQ 56
def fR{N P:List Str}{sc:Scope}(a:sc.kind=.function:=by rfl)(b:sc.isCoroutine=false:=by rfl)(c:sc.isGenerator=false:=by rfl)(d:N.Nodup:=by decide +kernel)(e:N.take P.length=P:=by rfl)(f:∀x∈P,sc.names.lookup x=some .local∨sc.names.lookup x=some .cell:=by decide +kernel)(g:∀y∈sc.names,y.2≠.free:=by decide +kernel):aJ N P sc:=⟨a,b,c,d,e,f,g⟩
def wX:aJ ZD ZD (aB jF):=fR
def Bk:aJ ZD ZD (aB lC):=fR
def uN:aJ W3 W3 (aB gU):=fR
def pU:aJ W9 W9 (aB dD):=fR
def wY:aJ ZD ZD (aB jG):=fR
def sJ:aJ W8 W8 (aB eI):=fR
def kC:aJ ["deed","add","take"] Zn (aB jH):=fR
def nJ:aJ Zn Zn (aB dE):=fR
def Bl:aJ W1 W1 (aB lD):=fR
def gB:aJ ["rows","word","told","row"] QZW (aB eT):=fR
def aV:aJ ["name","rows","houses","entries","asked","done","came","number","asks","place","ask","due","entry"] QZV (aB dF):=fR
def bX:aJ ["houses","told","name","house","key","deed","word"] ["houses"] (aB eU):=fR
def hG:aJ QZE QZU (aB eJ):=fR
def fX:aJ QZI WP (aB aZ):=fR
def lE:aJ ["self","key","deed","entry"] W7 (aB fT):=fR
def dM:aJ ["self","deed","name","by"] XV (aB cT):=fR
def iD:aJ ["self","deed","name"] XV (aB dG):=fR
def eB:aJ ["self","key","entry","name","by"] QZT (aB eX):=fR
def oX:aJ ZB ZB (aB dX):=fR
def nK:aJ ZB ZB (aB dH):=fR
def nL:aJ ZB ZB (aB dI):=fR
def pV:aJ ZA ZA (aB dJ):=fR
def pW:aJ ZA ZA (aB dL):=fR
def sK:aJ ZD ZD (aB fU):=fR
def uO:aJ X0 X0 (aB gV):=fR
def eN:aJ ["_law_deck_here","_law_many","_law_cell","_law_number"] ZC (aB gW):=fR
def cN:aJ QZS WF (aB cG):=fR
def wZ:aJ ZC ZC (aB jI):=fR
def bR:aJ ["_law_deck_here","_law_names","_law_houses","_law_amount","_law_at","_law_name","_law_other","_law_spot_here","_law_house","_law_there","_law_some"] U6 (aB gX):=fR
def hI:aJ QZD U5 (aB eK):=fR
def eC:aJ ["_law_deck_here","_law_deed_here","_law_word_here","_law_amount","_law_low","_law_high"] QZZ (aB eY):=fR
def hJ:aJ ["_law_deck_here","_law_letters","_law_menus_here"] QZR (aB fV):=fR
def uP:aJ W6 W6 (aB gY):=fR
def bB:aJ QZY QZQ (aB bN):=fR
def pX:aJ W5 W5 (aB eZ):=fR
def iU:aJ QZC QZP (aB fK):=fR
def bW:aJ QZB ["_law_rows"] (aB eL):=fR
def sM:aJ QZX QZX (aB fW):=fR
def dN:aJ ["_law_state","_law_deed_here","_law_yes","_law_word_here","_law_name","_law_amount"] QZO (aB dY):=fR
def fL:aJ ["_law_state","_law_key","_law_deed_here","_law_word_here","_law_house","_law_yes"] QZN (aB dZ):=fR
def fY:aJ ["_law_deck_here","_law_want_here","_law_word_here"] QZM (aB gZ):=fR
def aO:aJ ["_law_deck_here","_law_name","_law_wants_here","_law_states","_law_names","_law_number","_law_place","_law_house","_law_there","_law_want_here","_law_word_here","_law_deed_here","_law_way"] QZL (aB cW):=fR
def bY:aJ ["_law_name","_law_wants_here","_law_states","_law_number","_law_place","_law_house","_law_there","_law_want_here","_law_found","_law_good"] QZK (aB jJ):=fR
def fZ:aJ QZH QZJ (aB dS):=fR
def eQ:aJ QZG X0 (aB iR):=fR
structure Txt(K:W.Frag)(mg:Z7):Prop where
 b_isinstance:mg "isinstance"=none
 b_int:mg "int"=none
 b_bool:mg "bool"=none
 b_all:mg "all"=none
 b_str:mg "str"=none
 b_len:mg "len"=none
 b_tuple:mg "tuple"=none
 b_dict:mg "dict"=none
 b_sorted:mg "sorted"=none
 b_sum:mg "sum"=none
 b_list:mg "list"=none
 b_range:mg "range"=none
 b_min:mg "min"=none
 b_max:mg "max"=none
 b_enumerate:mg "enumerate"=none
 g_LETTERS:∃t,mg "LETTERS"=some (.str ("abcdefghijklmnopqrstuvwxyz") t)
 g_FIGURES:∃t,mg "FIGURES"=some (.str ("0123456789") t)
 g_LONGEST_NAME:∃t,mg "LONGEST_NAME"=some (.int (8) t)
 g_LONGEST_KEY:∃t,mg "LONGEST_KEY"=some (.int (12) t)
 g_MOST:∃t,mg "MOST"=some (.int (1000000000000) t)
structure Xw(Pm:Params)(K:W.Frag)(mg:Z7):Prop where
 g_NAME_COUNTS:∃a,mg "NAME_COUNTS"=some (.ref a)/\KTab K Pm a (WS)
 g_UNLIKE_WORDS:∃a,mg "UNLIKE_WORDS"=some (.ref a)/\∀H,SqT K H a (UW)
 g_HOUSE_WORDS:∃a,mg "HOUSE_WORDS"=some (.ref a)/\∀H,SqT K H a ([V.str "add",.str "take"])
 g_ENDS:∃a,mg "ENDS"=some (.ref a)/\∀H,SqT K H a ([V.str ("a":Str),V.str ("b":Str)])
section
variable {P:Program}{w:World}{K:W.Frag}{mg:Z7}{base:Heap}
def uQ{H:Hp}{b:List Z}(h:ZAt H b){i:Nat}{x:V}(a:(iF b)[i]?=some x):∃z,b[i]?=some z/\x=.ref z.1/\H z.1=some (.tup [.str z.2.1,.int z.2.2]):=by
 unfold iF at a;rw[fB]at a;cases c:b[i]? with
 | none=>rw[c]at a;cases a
 | some z=>
  rw[c]at a;cases a;exact⟨z,rfl,rfl,h z (dB c)⟩
def Ls(T:Txt K mg)(D:DefAt K mg "is_made_of" dD W9):aI P w K mg base 1 "is_made_of" W9 wN:=by
 refine D.gg pU (λf J A F s H vs Q E L h=>?_)
 ·obtain⟨x,a,n,k,rfl,b,r,q⟩:=h;refine⟨_,(ko (oq (xz (T8 (FM (wn (U1 .str (kl 0) rfl T.b_isinstance rfl T.b_str lX))) (T9 (FM (R.jq R.le R.le kt (ut R.fm rfl T.b_len cE (kj (kl 0) km)) (kl 2)))))) (kz (om TD)) ot) (kz (om (ut (R.jd (K:=K) rfl) rfl T.b_all Eo (kj (O2 rfl (js:=[none,some 1]) (N:=["sign","signs"]) (CompScope.by (aB dD) W9 rfl rfl Zk) (bM rfl) (R.wS (kl 0)) (λC G I M=>⟨(oy (i:=0) (show(["sign","signs"]:List Str).Nodup by decide +kernel)),Q5,(wp R.jr (kl 0) (kl 1))⟩)) km))))),?_⟩;have no:Wb .str k=false->eP x a.cps.toList n=false:=λe=>by
   cases x<;>first|rfl|(cases k<;>first|exact b.elim|cases e)
  refine⟨k,b,?_⟩
  cases x with
  | str z=>
   cases k<;>first|exact b.elim|skip
   have m:=r z rfl;refine⟨eO m,?_⟩;refine cP (λd=>?_) (λd=>?_)
   ·refine cP (λg=>?_) (λg=>?_)
    ·have e:eP (.str z) a.cps.toList n=false:=by
      rw[gQ];have j:decide ((z.length:Int)<=n)=false:=by simpa using g
      rw[j];simp
     have h:=q H (Same.refl H);rw[e]at h;exact h
    ·refine⟨z,rfl,Aw (Kj z) (by simp[qM,Str.length]at m ⊢;omega) (λ_=>true) (λv=>match v with|.str y=>.bl (decide (y.cps.toList.headD 0∈a.cps.toList))|_=>.non) trivial (λv O N t u S=>?_) ?_⟩
     ·obtain⟨c,U,rfl⟩:=Zmm.mp t;exact⟨c,rfl,u rfl⟩
     ·intro p B;refine⟨p,z.cps.toList.map (λc=>decide (c∈a.cps.toList)),rfl,QZx (by rw[aA,List.filter_eq_self.mpr (λ_ _=>rfl)];unfold qM;rw[map_map,map_map];rfl),?_⟩;have e:eP (.str z) a.cps.toList n=List.all (z.cps.toList.map (λc=>decide (c∈a.cps.toList))) id:=by
       rw[gQ];have j:decide ((z.length:Int)<=n)=true:=by simpa using g
       have l:decide (1<=(z.length:Int))=true:=d;rw[j,l,all_map];simp[Function.comp_def]
      rw[<- e];exact q _ (λc o e=>by rw[aF (aD e B)];exact e)
   ·have e:eP (.str z) a.cps.toList n=false:=by
     rw[gQ];have l:decide (1<=(z.length:Int))=false:=d;rw[l];simp
    have h:=q H (Same.refl H);rw[e]at h;exact h
  | _=>
   cases k<;>first|exact b.elim|exact q H (Same.refl H)
def xA(T:Txt K mg)(a:aI P w K mg base 1 "is_made_of" W9 wN)(D:DefAt K mg "is_name" jF ZD):aI P w K mg base 2 "is_name" ZD (sA LET 8):=by
 refine D.gg wX (λf j A i s H vs Q E b h=>?_)
 ·obtain⟨x,k,rfl,c,d,q⟩:=h;refine⟨_,(kz (om (lv a b rfl (kj (kl 0) (kj (R.gS rfl T.g_LETTERS) (kj (R.gI rfl T.g_LONGEST_NAME) km)))))),?_⟩;refine⟨x,_,8,k,rfl,c,d,λe g=>?_⟩;rw[rZ];exact q e g
def Bm(T:Txt K mg)(a:aI P w K mg base 1 "is_made_of" W9 wN)(D:DefAt K mg "is_key" lC ZD):aI P w K mg base 2 "is_key" ZD (sA (LET++Wj) 12):=by
 refine D.gg Bk (λf j A i s H vs Q E b h=>?_)
 ·obtain⟨x,k,rfl,c,d,q⟩:=h;refine⟨_,(kz (om (lv a b rfl (kj (kl 0) (kj (lf Q6 (R.gS rfl T.g_LETTERS) (R.gS rfl T.g_FIGURES)) (kj (R.gI rfl T.g_LONGEST_KEY) km)))))),?_⟩;refine⟨Zk,x,_,12,k,rfl,c,d,λe g=>?_⟩;rw[Jz,rZ,Et];exact q e g
def Gd(T:Txt K mg)(D:DefAt K mg "is_whole" gU W3):aI P w K mg base 1 "is_whole" W3 yR:=by
 refine D.gg uN (λf i A g s H vs Q E j h=>?_)
 ·obtain⟨x,lo,d,rfl,⟨k,a,l⟩,q⟩:=h;refine⟨_,(ko (oq (xz (T8 (FM (wn (U1 .int (kl 0) rfl T.b_isinstance rfl T.b_int jX))) (T9 (wn (U1 .bl (kl 0) rfl T.b_isinstance rfl T.b_bool yN))))) (kz (om TD)) ot) (kz (om (R.jt R.le R.le (kl 1) (kl 0) (kl 2))))),?_⟩;have h:=q H (Same.refl H);refine⟨k,a,?_⟩
  cases x with
  | int n=>
   cases k<;>first|exact a.elim|skip
   refine⟨.int,trivial,?_⟩;show if decide (lo<=n)=true then _ else _
   have e:wO lo d (.int n)=(decide (lo<=n)&&decide (n<=d)):=rfl;refine cP (λc=>?_) (λc=>?_)
   ·rw[e,c,Bool.true_and]at h;exact h
   ·rw[e,c,Bool.false_and]at h;exact h
  | bl b=>
   cases k<;>first|exact a.elim|skip
   exact⟨.bl,trivial,h⟩
  | _=>cases k<;>first|exact a.elim|exact h
def Lu(T:Txt K mg)(U:Xw w.params K mg)(Q:aI P w K mg base 2 "is_name" ZD (sA LET 8))(D:DefAt K mg "fits_word" eI W8):aI P w K mg base 3 "fits_word" W8 Ez:=by
 refine D.gg sJ (λa1 cdv a2 outer a3 H vs a4 a5 S h=>?_)
 ·obtain⟨a0,a,b,rfl,⟨k,t,hz⟩,g,ya,W,q⟩:=h;obtain⟨aN,C,E⟩:=U.g_NAME_COUNTS;obtain⟨X,Y,Z⟩:=U.g_UNLIKE_WORDS;refine⟨_,(ko (oq (xz (T8 (FM (wn (U1 .str (kl 0) rfl T.b_isinstance rfl T.b_str lX))) (T9 (nw (R.ju (K:=K) (P:=w.params)) (kl 0) (R.gR rfl C))))) (kz (om TD)) ot) (ko (oq (xz (T8 (nw UF (ut (IN (K:=K)) rfl T.b_len cE (kj (kl 1) km)) (ou (R.jv (K:=K) (P:=w.params)) (R.gR rfl C) (kl 0))) (T9 (FM (wn (ut (R.jd (K:=K) rfl) rfl T.b_all Eo (kj (O2 rfl (js:=[none]) (N:=["name"]) (CompScope.by (aB eI) W8 rfl rfl Zk) (bM rfl) (R.du (K:=K) (kl 1)) (λa6 s₂ H₂ fp=>⟨(oy (i:=0) (show(["name"]:List Str).Nodup by decide +kernel)),Q5,(lv Q S rfl (kj (kl 0) km))⟩)) km))))))) (kz (om TD)) ot) (kz (om (R.or (wp (R.gx (K:=K)) (kl 0) (R.gR rfl Y)) (R.fo (wp UF (li K 1) (li K 1)))))))),?_⟩;have h:=q H (Same.refl H);refine⟨k,t,?_⟩
  cases a0 with
  | str z=>
   cases k<;>first|exact t.elim|skip
   refine⟨WS,E,?_⟩;show if (!(WS.lookup z).isSome)=true then _ else _
   cases e:WS.lookup z with
   | none=>
    have l:fI (.str z) b=false:=by unfold fI;simp only [e]
    rw[l]at h;exact h
   | some i=>
    have l:fI (.str z) b=(decide ((b.length:Int)=i)&&b.all tJ&&(!kK (.str z) UW||!decide (gC b 0=gC b 1))):=by unfold fI;simp only [e]
    refine⟨b,.inr (QZy g),WS,i,E,e,?_⟩;refine cP (λu=>?_) (λu=>?_)
    ·have m:decide ((b.length:Int)=i)=false:=by simpa using u
     rw[l,m]at h;exact h
    ·have m:decide ((b.length:Int)=i)=true:=by simpa using u
     refine⟨a,rfl,⟨_,QZy g⟩,?_⟩;refine bO (kU K a b) Zo (λj n o=>n=(b.take j).map (λy=>V.bl (tJ y))/\Same H o) (λj n o ⟨d,f⟩=>⟨QZy (f _ _ g),by rw[d,bF,vK];omega⟩) ⟨rfl,Same.refl H⟩ (?_) (?_)
     ·rintro j y n o F ⟨d,f⟩;obtain⟨ky,X3,QS⟩:=(W y (dB F)).same f;refine⟨y,ky,rfl,X3,QS,λG9 BA=>⟨?_,f.trans BA⟩⟩;rw[List.take_add_one,F,gO,d];rfl
     ·rintro n o ⟨d,f⟩;intro p ES;rw[nT (bQ _)]at d;have v:Same H (aK o p (.lst n)):=f.trans (aH ES);refine⟨p,b.map tJ,rfl,QZx (by rw[aA,d,map_map];rfl),?_⟩;have e4:List.all (b.map tJ) id=b.all tJ:=by rw[all_map];rfl
      have c:=q _ v;dsimp only;rw[e4];cases s:b.all tJ with
      | false=>
       rw[l,m,s]at c;exact c
      | true=>
       rw[l,m,s]at c;refine⟨X,UW,rfl,.inr (Z _),rfl,rfl,?_⟩;show if (!kK (.str z) UW)=true then _ else _
       cases x:kK (.str z) UW with
       | false=>
        rw[x]at c;exact c
       | true=>
        rw[x]at c;have i2:=Wl e x;have hl:(b.length:Int)=i:=ZW m;obtain⟨A,G,m0⟩:=kW (xs:=b) (i:=0) Zd Zo;obtain⟨B,I,m1⟩:=kW (xs:=b) (i:=1) Zd Zo;have J:=all_eq_true.mp s A m0;have L:=all_eq_true.mp s B m1;refine⟨b,QZy (v _ _ g),A,G,b,QZy (v _ _ g),B,I,?_⟩;rw[G,I]at c;cases A<;>first|(unfold tJ eP at J;exact ZM J ZX)|skip
        cases B<;>first|(unfold tJ eP at L;exact ZM L ZX)|skip
        rename_i M O;have e7:decide (some (V.str M)=some (V.str O))=decide (M=O):=by
         rw[decide_eq_decide];constructor
         ·intro r;injection r with r;injection r
         ·intro r;rw[r]
        rw[e7]at c;exact c
  | _=>cases k<;>first|exact t.elim|exact h
def xB(T:Txt K mg)(V3:aI P w K mg base 3 "fits_word" W8 Ez)(Y0:aI P w K mg base 1 "is_whole" W3 yR)(D:DefAt K mg "is_deed" jG ZD):aI P w K mg base 4 "is_deed" ZD uE:=by
 refine D.gg wY (λf cdv A outer s H vs Q E hr h=>?_)
 ·obtain⟨x,rfl,⟨⟨k,hk,hz⟩,hp⟩,hlen,q⟩:=h;refine⟨_,(ko (oq (xz (T8 (FM (wn (U1 .tup (kl 0) rfl T.b_isinstance rfl T.b_tuple uA))) (T9 (nw R.lt (ut (IN (K:=K)) rfl T.b_len cE (kj (kl 0) km)) kt)))) (kz (om TD)) ot) (kz (om (R.je (lv V3 hr rfl (kj (li K 0) (kj (R.sl R.sT (kl 0) (U2 kt) (U2 (zn kt))) km))) (R.fo (lv Y0 hr rfl (kj (ou (v0 (K:=K)) (kl 0) (zn kt)) (kj kt (kj (R.gI rfl T.g_MOST) km))))))))),?_⟩;have h:=q H (Same.refl H);refine⟨k,hk,?_⟩
  cases x with
  | ref a=>
   cases k<;>first|exact hk.elim|skip
   case tup=>
    obtain⟨xs,hx⟩:=hk;have AB:=hp a xs rfl hx;have HQ:=hlen a xs rfl hx;have eV:oP H (.ref a)=mU xs:=by unfold oP;simp only [hx]
    refine⟨xs,.inr (QZy hx),?_⟩;refine cP (λh1=>?_) (λh1=>?_)
    ·have m8:((xs.length:Int)<3):=ZW h1;have e1:mU xs=false:=by
      unfold mU;rw[ZT Zo];rfl
     rw[eV,e1]at h;exact h
    ·have m8:¬ ((xs.length:Int)<3):=ZV h1;have h3:3<=xs.length:=by omega
     obtain⟨y0,AE,m0⟩:=kW (xs:=xs) (i:=0) Zd Zo;refine⟨xs,QZy hx,y0,AE,xs,hx,λp H1 s1 g1=>?_⟩;refine⟨y0,p,_,rfl,(AB y0 m0).same s1,g1,?_,λy hy=>(AB y (Ko h3 hy)).same s1,λH2 s2=>?_⟩
     ·have:=Kn h3;unfold sB at this;omega
     have e2:mU xs=(fI y0 (sB xs)&&wO 1 1000000000000 ((gC xs (-1)).getD .non)):=by
      unfold mU;rw[ZU h3,AE];rfl
     have hs:=s1.trans s2;have h5:=q H2 hs;show if fI y0 (sB xs)=true then _ else _
     cases e3:fI y0 (sB xs) with
     | false=>
      rw[eV,e2,e3]at h5;exact h5
     | true=>
      rw[eV,e2,e3]at h5;obtain⟨yl,MC,ml⟩:∃v,gC xs (-1)=some v/\v∈xs:=by
       have hj:xs.length-1<xs.length:=by omega
       refine⟨xs[xs.length-1],?_,getElem_mem hj⟩;unfold gC Nj;rw[ZN Zd,ZO Zo];have:((-1:Int)+(xs.length:Int)).toNat=xs.length-1:=by omega
       simp[this,hj]
      refine⟨xs,QZy (hs _ _ hx),yl,MC,?_⟩;refine⟨yl,1,1000000000000,rfl,(AB yl ml).same hs,λH3 s3=>?_⟩;have h6:=q H3 (hs.trans s3);rw[eV,e2,e3,MC]at h6;exact h6
   all_goals
    have e1:oP H (.ref a)=false:=by
     unfold oP;first
      | (rcases hk with⟨xs,e⟩|⟨o,xs,e⟩<;>simp only [e])
      | (obtain⟨kvs,e⟩:=hk;simp only [e])
    rw[e1]at h;exact h
  | _=>cases k<;>first|exact hk.elim|exact h
def xC(T:Txt K mg)(D:DefAt K mg "done_changes" dE Zn):aI P w K mg base 1 "done_changes" Zn mD:=by
 refine D.gg nJ (λf J A I s H vs Q E L h=>?_)
 ·obtain⟨p,wd,u,M,N,rfl,b,⟨one,other,nm,n,B⟩,q⟩:=h;refine⟨_,(ko (oq (nw pi (li K 0) ku) (kz (om (mo km))) ot) (ko (oq (nw pi (li K 0) ku) (kz (om (mo (kj (mo (kj (li K 0) (kj (zn (ou (v0 (K:=K)) (kl 0) (zn kt))) km))) (kj (mo (kj (li K 0) (kj (ou (v0 (K:=K)) (kl 0) (zn kt)) km))) km))))) ot) (ko (oq (nw (U3 (K:=K)) (li K 0) (mo (kj ku (kj ku km)))) (kz (om (mo (kj (mo (kj (ou (v0 (K:=K)) (kl 0) (zn kt)) (kj (zn (ou (v0 (K:=K)) (kl 0) (zn kt))) km))) km)))) ot) (kz (om (mo (kj (mo (kj (ou (v0 (K:=K)) (kl 0) (zn kt)) (kj (ou (v0 (K:=K)) (kl 0) (zn kt)) km))) km))))))),?_⟩;have r:∀ {y:Hp}{a:ZR}{x:Str}{i:Int},y a=some (.tup [.str x,.int i])->ZAt y [(a,x,i)]:=λh z m=>by
   rw[Zms.mp m];exact h
  have two:∀(nm:Str)(i:Int),H p=some (.tup u)->gC u (-2)=some (.str nm)->gC u (-1)=some (.int i)->True:=λ_ _ _ _ _=>trivial
  cases B with
  | add=>
   refine⟨_,QZy b,_,rfl,?_⟩;refine⟨_,QZy b,_,rfl,?_⟩;refine⟨_,QZy b,_,rfl,Zs,λg o c g1=>⟨g,_,rfl,.inr (QZy g1),rfl,rfl,?_⟩⟩;refine⟨_,QZy (c _ _ b),_,rfl,_,QZy (c _ _ b),_,rfl,Zs,λj t e g2=>⟨Zs,λk l d g3=>q k [(j,nm,n)] l ((c.trans e).trans d) g3 (r (d _ _ g2)) rfl⟩⟩
  | take=>
   refine⟨_,QZy b,_,rfl,?_⟩;refine⟨_,QZy b,_,rfl,?_⟩;refine⟨_,QZy b,_,rfl,Zs,λg o c g1=>⟨g,_,rfl,.inr (QZy g1),rfl,rfl,?_⟩⟩;refine⟨_,QZy (c _ _ b),_,rfl,_,QZy (c _ _ b),_,rfl,Zs,λj t e g2=>⟨Zs,λk l d g3=>q k [(j,nm,-n)] l ((c.trans e).trans d) g3 (r (d _ _ g2)) rfl⟩⟩
  | move=>
   refine⟨_,QZy b,_,rfl,?_⟩;refine⟨_,QZy b,_,rfl,?_⟩;refine⟨_,QZy b,_,rfl,_,QZy b,_,rfl,Zs,λj t e g2=>⟨_,QZy (e _ _ b),_,rfl,_,QZy (e _ _ b),_,rfl,Zs,λk l d g3=>⟨Zs,λC F v G=>?_⟩⟩⟩;refine q C [(j,one,-n),(k,other,n)] F ((e.trans d).trans v) G (λz m=>?_) rfl;rcases mem_cons.mp m with rfl|m
   ·exact v _ _ (d _ _ g2)
   ·rw[Zms.mp m];exact v _ _ g3
  | send=>
   refine⟨_,QZy b,_,rfl,?_⟩;refine⟨_,QZy b,_,rfl,?_⟩;refine⟨_,QZy b,_,rfl,Zs,λg o c g1=>⟨g,_,rfl,.inr (QZy g1),rfl,rfl,?_⟩⟩;refine⟨_,QZy (c _ _ b),_,rfl,_,QZy (c _ _ b),_,rfl,Zs,λj t e g2=>⟨Zs,λk l d g3=>q k [(j,nm,-n)] l ((c.trans e).trans d) g3 (r (d _ _ g2)) rfl⟩⟩
  | fetch=>
   refine⟨_,QZy b,_,rfl,?_⟩;refine⟨_,QZy b,_,rfl,?_⟩;refine⟨_,QZy b,_,rfl,Zs,λg o c g1=>⟨g,_,rfl,.inr (QZy g1),rfl,rfl,?_⟩⟩;refine⟨_,QZy (c _ _ b),_,rfl,_,QZy (c _ _ b),_,rfl,Zs,λj t e g2=>⟨Zs,λk l d g3=>q k [(j,nm,n)] l ((c.trans e).trans d) g3 (r (d _ _ g2)) rfl⟩⟩
  | pass=>
   refine⟨_,QZy b,_,rfl,?_⟩;exact⟨Zd,λg o c g1=>q g [] o c g1 (λ_ h=>nomatch h) rfl⟩
def Lv(T:Txt K mg)(D:DefAt K mg "asks_of" jH Zn):aI P w K mg base 1 "asks_of" Zn Fm:=by
 refine D.gg kC (λf cdv A outer s H vs Q E hr h=>?_)
 ·obtain⟨p,wd,xs,cs,as,rfl,hp,⟨one,other,nm,n,hd⟩,q⟩:=h;refine⟨_,(ko (ms (i:=1) kC.nd (mo (kj ku (kj (ou (v0 (K:=K)) (kl 0) (zn kt)) (kj (ou (v0 (K:=K)) (kl 0) (zn kt)) km))))) (ko (ms (i:=2) kC.nd (mo (kj ku (kj (ou (v0 (K:=K)) (kl 0) (zn kt)) (kj (ou (v0 (K:=K)) (kl 0) (zn kt)) km))))) (ko (oq (nw pi (li K 0) ku) (kz (om (mo (kj (mo (kj (li K 0) (kj (kl 1) km))) km)))) ot) (ko (oq (nw pi (li K 0) ku) (kz (om (mo (kj (mo (kj (li K 0) (kj (kl 2) km))) km)))) ot) (ko (oq (nw pi (li K 0) ku) (kz (om (mo (kj (mo (kj (li K 0) (kj (kl 2) km))) (kj (mo (kj (li K 0) (kj (kl 1) km))) km))))) ot) (kz (om (mo km)))))))),?_⟩;cases hd
  all_goals
   refine⟨_,QZy hp,_,rfl,_,QZy hp,_,rfl,Zs,λp1 H1 s1 g1=>⟨_,QZy (s1 _ _ hp),_,rfl,_,QZy (s1 _ _ hp),_,rfl,Zs,λp2 H2 s2 g2=>?_⟩⟩;have O8:=(s1.trans s2) _ _ hp;refine⟨_,QZy O8,_,rfl,?_⟩
  case send=>exact⟨_,QZy O8,_,rfl,Zs,λp3 H3 s3 g3=>⟨Zs,λp4 H4 s4 g4=>q p4 _ H4 (((s1.trans s2).trans s3).trans s4) g4 (.cons ⟨p3,p1,rfl,s4 _ _ g3,s4 _ _ (s3 _ _ (s2 _ _ g1))⟩ .nil)⟩⟩
  all_goals refine⟨_,QZy O8,_,rfl,?_⟩
  case fetch=>exact⟨_,QZy O8,_,rfl,Zs,λp3 H3 s3 g3=>⟨Zs,λp4 H4 s4 g4=>q p4 _ H4 (((s1.trans s2).trans s3).trans s4) g4 (.cons ⟨p3,p2,rfl,s4 _ _ g3,s4 _ _ (s3 _ _ g2)⟩ .nil)⟩⟩
  all_goals refine⟨_,QZy O8,_,rfl,?_⟩
  case pass=>
   refine⟨_,QZy O8,_,rfl,Zs,λp3 H3 s3 g3=>⟨_,QZy (s3 _ _ O8),_,rfl,Zs,λp4 H4 s4 g4=>⟨Zs,λp5 H5 s5 g5=>?_⟩⟩⟩;exact q p5 _ H5 ((((s1.trans s2).trans s3).trans s4).trans s5) g5 (.cons ⟨p3,p2,rfl,s5 _ _ (s4 _ _ g3),s5 _ _ (s4 _ _ (s3 _ _ g2))⟩ (.cons ⟨p4,p1,rfl,s5 _ _ g4,s5 _ _ (s4 _ _ (s3 _ _ (s2 _ _ g1)))⟩ .nil))
  all_goals exact⟨Zd,λp3 H3 s3 g3=>q p3 [] H3 ((s1.trans s2).trans s3) g3 .nil⟩
def cB:Sp:=λvs H Q _=>∃d b m,vs=[.ref d,.int m]/\Dk H d b/\0<m/\m<18446744073709551616/\∀r a,0<=r->r<m->Dk a d b->Kp d b H a->Q (.int r) a
def Lw(T:Txt K mg)(D:DefAt K mg "_law_deck" gV X0):aI P w K mg base 1 "_law_deck" X0 (Ep K):=by
 refine D.gg uO (λf x A v s H vs Q E y h=>?_)
 ·obtain⟨a,c,rfl,k,q⟩:=h;refine⟨_,(kz (om (re (kj (O4 (R.jf (K:=K)) rfl T.b_list yM (kj (R.sl (R.jg (K:=K)) (kl 0) R.pn (U2 kt)) km)) (kj (lf sn kt (lf Q7 (ut (R.jw (K:=K) rfl) rfl T.b_sum Rg (kj (R.sl (R.jg (K:=K)) (kl 0) R.pn (U2 kt)) km)) kt)) (kj kt km)))))),?_⟩;have l:iG (c.map V.int) none (some 63)=(c.take 63).map V.int:=by rw[Kk];exact congrArg _ (wJ c 63)
  refine⟨_,k,λe m=>⟨_,.inl (QZx aA),λb n=>?_⟩⟩;have g:Same H (aK (aK H e (.lst (iG (c.map V.int) none (some 63)))) b (.lst (iG (c.map V.int) none (some 63)))):=(aH m).trans (aH n);have g2:(aK (aK H e (.lst (iG (c.map V.int) none (some 63)))) b (.lst (iG (c.map V.int) none (some 63)))) b=some (.lst ((c.take 63).map V.int)):=by rw[aA,l]
  have r:H b=none:=(aH m).free n;show fF _ _ _ (aK (aK H e (.lst (iG (c.map V.int) none (some 63)))) b (.lst (iG (c.map V.int) none (some 63)))) _;generalize aK (aK H e (.lst (iG (c.map V.int) none (some 63)))) b (.lst (iG (c.map V.int) none (some 63)))=t at g g2;refine⟨_,g.seq k,λo i=>⟨o,c.take 63,rfl,QZx (by rw[aA,l]),by show(0:Int)<2147483629;decide,fH rfl,λd j=>?_⟩⟩;have p:Same H (aK t o (.lst (iG (c.map V.int) none (some 63)))):=g.trans (aH i);have u:b≠d:=aD ((aH i) _ _ g2) j;refine q d b _ (p.free j) r ⟨c.take 63,_,_,aA,?_,?_⟩ (p.trans (aH j))
  ·rw[aF u];exact(aH i) _ _ g2
  ·rw[vK];exact Nat.min_le_left _ _
def Ge(D:DefAt K mg "_law_draw" gW ZC) :
  aI P w K mg base 1 "_law_draw" ZC cB:=by
 refine D.gg eN (λa0 Z a1 Y a2 H vs a3 a4 O h=>?_)
 ·obtain⟨d,b,m,rfl,Q,k,S,q⟩:=h;have T:=O.units0;obtain⟨a,g,f,C,J,L⟩:=Q.ex;have E:d≠b:=bK C J (by
   intro z;injection z with z
   cases a with
   | nil=>cases z
   | cons z1 zs=>injection z with z _;cases z)
  refine⟨_,(ko (ww (lf sn (o0 K 0) kt) (AC (kl 0) kt R.ic)) (ko (ms (i:=2) eN.nd (o0 K 0)) (ko (oq (nw (R.jh (K:=K) T) (o0 K 0) (re km)) (ko (ms (i:=2) eN.nd (J6 (K:=K) PySem.F.plainAttrs_list PySem.F.slot_list_pop PySem.F.type_list_pop R.jx (o0 K 0) (kj kt km))) (kz (oq (nw R.ge (kl 2) (lf TW kt kt)) (ko (u8 (J6 (K:=K) PySem.F.plainAttrs_list PySem.F.slot_list_insert PySem.F.type_list_insert R.io (o0 K 0) (kj kt (kj (lf R.gv (kl 2) (kl 1)) km)))) (kz (om (lf Q7 (kl 2) (kl 1))))) ot))) ot) (ko (ms (i:=3) eN.nd (lf Q7 (lf sn (lf sn (lf R.dw (lf Q7 (kl 2) kt) kt) (lf R.dw kt (o0 K 0))) kt) kt)) (ko (ms (i:=3) eN.nd (lf Q7 (lf R.dw (kl 3) (kl 3)) kt)) (kz (om (lf Q7 (lf R.gv (lf Q7 (lf R.dw (kl 3) (lf sn (kl 3) kt)) kt) kt) (kl 1))))))))),?_⟩;refine⟨_,QZx C,_,rfl,d,_,2,2,rfl,rfl,C,rfl,?_⟩;have g1:(aK H d (.lst [.ref b,.int g,.int (f+1)])) d=some (.lst [.ref b,.int g,.int (f+1)]):=aA;have g2:(aK H d (.lst [.ref b,.int g,.int (f+1)])) b=some (.lst (a.map V.int)):=by rw[aF E.symm];exact J
  have M:Kp d b H (aK H d (.lst [.ref b,.int g,.int (f+1)])):=λc o e l j=>by rw[aF l];exact e
  show vL _ _ _ _ (aK H d (.lst [.ref b,.int g,.int (f+1)]));generalize aK H d (.lst [.ref b,.int g,.int (f+1)])=n at g1 g2 M;refine⟨_,QZx g1,_,rfl,?_⟩;dsimp only [aL];refine Ri (t:=zU _ _ _) (λI r=>∃c:Int,I=[some (.ref d),some (.int m),some (.int c),none]/\(∃s:List Int,r d=some (.lst [.ref b,.int g,.int (f+1)])/\r b=some (.lst (s.map V.int))/\s.length<=63)/\Kp d b H r) (λnx N=>?_) ?_
  ·refine⟨_,QZx g1,_,rfl,fH rfl,λp u=>⟨b,p,_,rfl,rfl,QZx (by rw[aF (aD g2 u)];exact g2),QZx aA,?_⟩⟩;have v:(aK n p (.lst [])) d=some (.lst [.ref b,.int g,.int (f+1)]):=by rw[aF (aD g1 u)];exact g1
   have A:(aK n p (.lst [])) b=some (.lst (a.map V.int)):=by rw[aF (aD g2 u)];exact g2
   have F:Kp d b H (aK n p (.lst [])):=M.trans (.new u);generalize aK n p (.lst [])=B at v A F;cases a with
   | nil=>
    exact N _ _ ⟨_,rfl,⟨[],v,A,L⟩,F⟩
   | cons z a=>
    have U:a.length+1<=63:=by simpa using L
    refine⟨_,QZx v,_,rfl,.inl ⟨rfl,_,QZx A⟩,b,_,0,0,.int z,rfl,rfl,A,Zd,Zd,by simp[seqIndex?],rfl,?_⟩;have f1:(aK B b (.lst ((List.map V.int (z::a)).eraseIdx 0))) d=some (.lst [.ref b,.int g,.int (f+1)]):=by rw[aF E];exact v
    have f2:(aK B b (.lst ((List.map V.int (z::a)).eraseIdx 0))) b=some (.lst (a.map V.int)):=by rw[aA];rfl
    have G:Kp d b H (aK B b (.lst ((List.map V.int (z::a)).eraseIdx 0))):=λc o e l j=>by rw[aF j];exact F c o e l j
    dsimp only [aL];generalize aK B b (.lst ((List.map V.int (z::a)).eraseIdx 0))=H3 at f1 f2 G;refine⟨⟨Zd,Zd,Zd⟩,?_⟩;refine cP (λ_=>?_) (λ_=>?_)
    ·refine⟨_,QZx f1,_,rfl,.inl ⟨rfl,_,QZx f2⟩,⟨k,S⟩,b,_,0,_,rfl,rfl,f2,zero_le _,jQ (m:=63) (by rw[bF];omega) Zd,k,?_⟩;refine q _ _ (Int.emod_nonneg _ Zo) (Int.emod_lt_of_pos _ k) ⟨z/m::a,g,f+1,by rw[aF E];exact f1,by rw[aA];rfl,by simpa using U⟩ λc o e l j=>by rw[aF j];exact G c o e l j
    ·exact N _ _ ⟨_,rfl,⟨a,f1,f2,Zo⟩,G⟩
  ·rintro I r ⟨c,rfl,⟨s,f1,f2,W⟩,X⟩;refine⟨by show(0:Int)<_;decide,.inr ⟨Zd,Zd⟩,_,QZx f1,_,rfl,.inl ⟨Zd,Zd⟩,by show(0:Int)<_;decide,?_⟩;generalize hx:(c%2147483629*16807+69621*(f+1)+7919)%2147483629=x;have uz:0<=x:=by omega
   have EV:x<2147483629:=by omega
   refine⟨.inl ⟨Zo,Zo⟩,by show(0:Int)<_;decide,?_⟩;generalize hy:x*x%2147483587=y;have AE:0<=y:=by omega
   have HN:y<2147483587:=by omega
   refine⟨.inl ⟨Zo,Zo⟩,by show(0:Int)<_;decide,⟨Zd,Zd⟩,k,?_⟩;exact q _ _ (Int.emod_nonneg _ Zo) (Int.emod_lt_of_pos _ k) ⟨s,g,f+1,f1,f2,W⟩ X
def Sl{r:Int}(a:0<=r)(b:r<4):r=0∨r=1∨r=2∨r=3:=by omega
def six{r:Int}(a:0<=r)(b:r<6):r=0∨r=1∨r=2∨r=3∨r=4∨r=5:=by omega
def Sm(T:Txt K mg)(g:aI P w K mg base 1 "_law_draw" ZC cB)(D:DefAt K mg "_law_end" jI ZC) :
  aI P w K mg base 2 "_law_end" ZC cB:=by
 refine D.gg wZ (λf J A I s H vs Q E i h=>?_)
 ·obtain⟨d,b,m,rfl,t,k,l,q⟩:=h;refine⟨_,(kz (om (ou (tm (K:=K)) (re (kj kt (kj (lf UV (kl 1) kt) (kj (lv g i rfl (kj (kl 0) (kj (kl 1) km))) (kj (lv g i rfl (kj (kl 0) (kj (kl 1) km))) km))))) (lv g i rfl (kj (kl 0) (kj kt km)))))),?_⟩;refine⟨d,b,m,rfl,t,k,l,λL M u v x y=>⟨d,b,m,rfl,x,k,l,λN O z B n C=>⟨fH rfl,λp j=>⟨d,b,4,rfl,n.new j,Zd,Zd,λR S F G a o=>?_⟩⟩⟩⟩;have r:=n.ne j;have c:=o p _ aA r.1 r.2;have e:=((y.trans C).trans (.new j)).trans o;rcases Sl F G with rfl|rfl|rfl|rfl
  ·exact⟨_,QZx c,_,rfl,q _ _ Zo Zo a e⟩
  ·exact⟨_,QZx c,_,rfl,q _ _ Zo Zo a e⟩
  ·exact⟨_,QZx c,_,rfl,q _ _ u v a e⟩
  ·exact⟨_,QZx c,_,rfl,q _ _ z B a e⟩
structure WordsOf(L:List Nat)(g:Nat)(ws:List Str):Prop where
 nd:ws.Nodup
 of:∀z∈ws,1<=z.length/\z.length<=g/\∀c∈z.cps.toList,c∈L
def mH:Sp:=λvs H Q _=>∃(d b:ZR)(L:List Nat)(g m:Nat),vs=[.ref d,.str (tx L),.int (g:Int),.int (m:Int)]/\Dk H d b/\1<=m/\m<=g/\g<=12/\L.Nodup/\m<=L.length/\L.length<=40 ∧
 ∀(l:ZR)(c:List Str)(a:Hp),WordsOf L g c->c.length=m->a l=some (.lst (c.map V.str))->l≠d->l≠b->Dk a d b->Kp d b H a->Q (.ref l) a
def Gf{c:Type}(xs:List c){i j:Nat}(a:i<=xs.length)(b:j<=xs.length):iG xs (some (i:Int)) (some (j:Int))=(xs.drop i).take (j-i):=by
 unfold iG;rw[HT.sIx_nat,HT.sIx_nat,Nat.min_eq_left a,Nat.min_eq_left b]
def oY(L b:List Nat)(a sz f k:Nat):List Nat:=b.take a++[L.getD ((f+k)%L.length) 0]++(b.drop (a+1)).take (sz-(a+1))
def Lx{L:List Nat}(d:L.Nodup){i j:Nat}(a:i<L.length)(b:j<L.length)(h:L.getD i 0=L.getD j 0):i=j:=by
 rw[getD_eq_getElem?_getD,getD_eq_getElem?_getD,cD a,cD b]at h;have c:L[i]=L[j]:=h;have p:=pairwise_iff_getElem.mp d;rcases lt_trichotomy i j with z|z|z
 ·exact ZM c (p i j a b z)
 ·exact z
 ·exact ZM c.symm (p j i b a z)
def Ly{f k a n:Nat}(d:k<n)(e:a<n)(h:(f+k)%n=(f+a)%n):k=a:=by
 have b:=Nat.mod_add_div (f+k) n;have c:=Nat.mod_add_div (f+a) n;rw[h]at b;generalize (f+k)/n=u at b;generalize (f+a)/n=v at c;rcases lt_trichotomy u v with z|z|z
 ·have:n*(u+1)<=n*v:=Nat.mul_le_mul_left n z;rw[Nat.mul_add,Nat.mul_one]at this;omega
 ·subst z;omega
 ·have:n*(v+1)<=n*u:=Nat.mul_le_mul_left n z;rw[Nat.mul_add,Nat.mul_one]at this;omega
def Gg{L c:List Nat}(d:L.Nodup){a sz f k b:Nat}(h:oY L c a sz f k=oY L c a sz f b)(e:k<L.length)(g:b<L.length):k=b:=by
 unfold oY at h;have i:=List.append_inj_left' h rfl;have j:=List.append_inj_right' i rfl;have l:L.getD ((f+k)%L.length) 0=L.getD ((f+b)%L.length) 0:=by injection j
 exact Ly e g (Lx d (mod_lt _ Zo) (mod_lt _ Zo) l)
def Wv{L:List Nat}{i:Nat}(h:i<L.length):L.getD i 0∈L/\L[i]?=some (L.getD i 0):=by
 have e:L[i]?=some (L[i]):=cD h;have a:L.getD i 0=L[i]:=by rw[getD_eq_getElem?_getD,e];rfl
 exact⟨a▸getElem_mem _,a▸e⟩
def Ma{L b:List Nat}{g a sz f k:Nat}(h:0<L.length)(i:b.length=g)(d:∀c∈b,c∈L)(j:a<sz)(l:sz<=g):1<=(oY L b a sz f k).length/\(oY L b a sz f k).length<=g/\∀c∈oY L b a sz f k,c∈L:=by
 have e:(oY L b a sz f k).length=sz:=by
  unfold oY;simp[i];omega
 refine⟨Zo,Zo,λc hc=>?_⟩;unfold oY at hc;rcases Zma.mp hc with hc|hc
 ·rcases Zma.mp hc with hc|hc
  ·exact d c (mem_of_mem_take hc)
  ·rw[Zms.mp hc];exact(Wv (mod_lt _ h)).1
 ·exact d c (List.mem_of_mem_drop (mem_of_mem_take hc))
def oZ{n i:Nat}{x:V}(h:(iM 0 n)[i]?=some x):x=.int (i:Int)/\i<n:=by
 unfold iM at h;rw[fB]at h;cases a:(List.range n)[i]? with
 | none=>rw[a]at h;cases h
 | some y=>
  rw[a]at h;obtain⟨c,b⟩:=Zgs.mp a;rw[List.getElem_range]at b;cases h;rw[<- b];exact⟨Zs,by simpa using c⟩
def fA(n:Nat):(iM 0 n).length=n:=by simp[iM]
def uR{L:List Nat}{g m:Nat}{F:Nat->List Nat}(b:∀k a,k<m->a<m->F k=F a->k=a)(d:∀k,k<m->1<=(F k).length/\(F k).length<=g/\∀c∈F k,c∈L):WordsOf L g ((List.range m).map λk=>tx (F k)):=by
 refine⟨?_,λz e=>?_⟩
 ·show List.Pairwise (·≠·) _;rw[List.pairwise_map];refine List.Pairwise.imp_of_mem (λ{x y} f h i j=>i ?_) List.nodup_range;exact b _ _ (mem_range.mp f) (mem_range.mp h) (by simpa using congrArg (λz:Str=>z.cps.toList) j)
 ·obtain⟨k,l,rfl⟩:=Zmm.mp e;have:=d k (mem_range.mp l);exact⟨by rw[bD];exact this.1,by rw[bD];exact this.2.1,λc n=>this.2.2 c (by simpa using n)⟩
def Bn(T:Txt K mg)(v:aI P w K mg base 1 "_law_draw" ZC cB)(D:DefAt K mg "_law_unlike" cG WF) :
  aI P w K mg base 2 "_law_unlike" WF mH:=by
 refine D.gg cN (λa5 cdv a6 outer a8 H vs b0 b1 x h=>?_)
 ·obtain⟨d,b,L,g,m,rfl,dk,ME,wb,hg,J1,YB,QV,a2⟩:=h;have C:(tx L).length=L.length:=bD L;have y:(tx L).length<=sizeLine:=eO Zo;have E:(tx L).cps.toList=L:=by simp
  refine⟨_,(ko (ms (i:=4) cN.nd (J6 (K:=K) PySem.F.plainAttrs_str PySem.F.slot_str_join PySem.F.type_str_join (R.jy (K:=K)) ku (kj (O2 rfl (js:=[none,some 0,some 1]) (N:=QZA) (CompScope.by (aB cG) QZS rfl rfl Zk) (bM rfl) (R.dm rfl T.b_range (kj (kl 2) km)) (λa3 X Y fp=>⟨(oy (i:=0) (show(QZA:List Str).Nodup by decide +kernel)),Q5,(ou R.iS (kl 2) (lv v x rfl (kj (kl 1) (kj (ut R.fm rfl T.b_len cE (kj (kl 2) km)) km))))⟩)) km))) (ko (oq (nw pi (lv v x rfl (kj (kl 0) (kj kt km))) kt) (kz (om (O2 rfl (js:=[none,some 4]) (N:=["_law_k","_law_word_here"]) (CompScope.by (aB cG) QZS rfl rfl Zk) (bM rfl) (R.dm rfl T.b_range (kj (kl 3) km)) (λa3 X Y fp=>⟨(oy (i:=0) (show(["_law_k","_law_word_here"]:List Str).Nodup by decide +kernel)),Q5,(R.sl R.sS (kl 1) R.pn (U2 (lf sn (kl 0) kt)))⟩)))) ot) (ko (ms (i:=5) cN.nd (lf sn kt (lv v x rfl (kj (kl 0) (kj (kl 2) km))))) (ko (ms (i:=6) cN.nd (lv v x rfl (kj (kl 0) (kj (kl 5) km)))) (ko (ms (i:=7) cN.nd (lv v x rfl (kj (kl 0) (kj (ut R.fm rfl T.b_len cE (kj (kl 1) km)) km)))) (ko (ms (i:=8) cN.nd (R.ie (kj (R.sl R.sS (kl 4) R.pn (U2 (kl 6))) (kj (R.sl R.sS (kl 4) (U2 (lf sn (kl 6) kt)) (U2 (kl 5))) km)))) (kz (om (O2 rfl (js:=[none,some 1,some 7,some 8]) (N:=QZz) (CompScope.by (aB cG) QZS rfl rfl Zk) (bM rfl) (R.dm rfl T.b_range (kj (kl 3) km)) (λa3 X Y fp=>⟨(oy (i:=0) (show(QZz:List Str).Nodup by decide +kernel)),Q5,(lf Q6 (lf Q6 (li K 3) (ou R.iS (kl 1) (lf Q7 (lf sn (kl 2) (kl 0)) (ut R.fm rfl T.b_len cE (kj (kl 1) km))))) (li K 3))⟩)))))))))),?_⟩;refine Ri (t:=Ck _ _) (λZ j=>∃f:List Nat,Z=[some (.ref d),some (.str (tx L)),some (.int (g:Int)),some (.int m),some (.str (tx f)),none,none,none,none]/\f.length=g/\(∀c∈f,c∈L)/\Dk j d b/\Kp d b H j) (λnx a9=>?_) ?_
  ·refine⟨rfl,g,rfl,Zo,Zo,?_⟩;refine bO (fE 0 (g:Int).toNat) (by rw[fA];omega) (λi l j=>Dk j d b/\Kp d b H j/\∃f:List Nat,l=f.map (λc=>V.str (tx [c]))/\f.length=i/\∀c∈f,c∈L) (λi l j ⟨_,_,f,e,n,_⟩=>⟨trivial,by rw[e,bF,n];exact bQ _⟩) ⟨dk,.refl,[],rfl,rfl,(λ_ h=>nomatch h)⟩ (?_) (?_)
   ·rintro i a4 l j B ⟨F,G,f,e,n,I⟩;refine⟨y,d,b,_,rfl,F,Zo,Zo,λr2 G9 QW YC Dj QX=>⟨y,?_⟩⟩;obtain⟨c,J,hm⟩:=kW (xs:=(tx L).cps.toList) QW (by rw[E];omega);rw[E]at hm;refine⟨c,J,Dj,G.trans QX,f++[c],by rw[e,gO];rfl,by rw[kJ,n];rfl,λc' U7=>?_⟩;rcases Zma.mp U7 with h|h
    ·exact I c' h
    ·rw[Zms.mp h];exact hm
   ·rintro l j ⟨F,G,f,e,n,I⟩;intro p q;have u:f.length=g:=by rw[n,fA];omega
    refine⟨_,p,f.map (λc=>tx [c]),rfl,rfl,QZx (by rw[aA,e,map_map];rfl),?_,?_⟩
    ·rw[uC,bF,Es,bD];simp;omega
    ·refine a9 _ _ ⟨f,?_,u,I,F.new q,G.trans (.new q)⟩;rw[Es,wK];rfl
  ·rintro Z H1 ⟨f,rfl,u,BU,D1,k1⟩;have BV:(tx f).cps.toList=f:=by simp
   have em:((m:Int)).toNat=m:=by omega
   refine⟨d,b,3,rfl,D1,Zd,Zd,λb2 H2 r0 r1 M k2=>?_⟩;refine cP (λ_=>?_) (λ_=>?_)
   ·refine⟨m,rfl,Zo,Zo,?_⟩;refine bO (fE 0 (m:Int).toNat) (by rw[fA];omega) (λi l j=>l=((List.range i).map λk=>tx (f.take (k+1))).map V.str/\j=H2) (λi l j ⟨e,_⟩=>⟨trivial,by rw[e];simp⟩) ⟨rfl,rfl⟩ (?_) (?_)
    ·rintro i a4 l j B ⟨e,n⟩;subst n;obtain⟨rfl,hi⟩:=oZ B;refine⟨eO (by rw[bD];omega),?_,rfl⟩;rw[BV,show((i:Nat):Int)+1=((i+1:Nat):Int) by omega,wJ,e,List.range_succ,gO,gO];rfl
    ·rintro l j ⟨e,n⟩;subst n;intro p q;rw[fA,em]at e;have A:=M.ne q;refine a2 p ((List.range m).map λk=>tx (f.take (k+1))) _ (uR (λk k' O V0 e=>?_) (λk O=>?_)) Zs (by rw[aA,e]) A.1 A.2 (M.new q) ((k1.trans k2).trans (.new q))
     ·have:=congrArg length e;rw[vK,vK,u]at this;omega
     ·exact⟨by rw[vK,u];omega,by rw[vK,u];omega,λc J=>BU c (mem_of_mem_take J)⟩
   ·refine⟨d,b,g,rfl,M,Zo,Zo,λQ H3 s0 s1 D3 k3=>?_⟩;refine⟨d,b,1+Q,rfl,D3,Zo,Zo,λra H4 a0 a1 D4 k4=>?_⟩;refine⟨y,d,b,_,rfl,D4,Zo,Zo,λrf S f0 f1 D5 k5=>?_⟩;rw[C]at f1;dsimp only [aL];obtain⟨a,rfl⟩:∃a:Nat,ra=a:=⟨ra.toNat,Zo⟩;obtain⟨r,rfl⟩:∃z:Nat,Q=z:=⟨Q.toNat,Zo⟩;obtain⟨s,rfl⟩:∃z:Nat,rf=z:=⟨rf.toNat,Zo⟩;refine⟨eO (by rw[bD];omega),eO (by rw[bD];omega),fH rfl,λtp MF=>?_⟩;have U:(aK S tp (.tup [.str (tx (iG (tx f).cps.toList none (some (a:Int)))),.str (tx (iG (tx f).cps.toList (some ((a:Int)+1)) (some (1+(r:Int)))))])) tp=some (.tup [.str (tx (f.take a)),.str (tx ((f.drop (a+1)).take (r+1-(a+1))))]):=by
     rw[aA,BV,wJ,show(a:Int)+1=((a+1:Nat):Int) by omega,show 1+(r:Int)=((r+1:Nat):Int) by omega,Gf f Zo Zo]
    have k6:Kp d b H (aK S tp (.tup [.str (tx (iG (tx f).cps.toList none (some (a:Int)))),.str (tx (iG (tx f).cps.toList (some ((a:Int)+1)) (some (1+(r:Int)))))])):=((((k1.trans k2).trans k3).trans k4).trans k5).trans (.new MF);have W:=D5.new (o:=.tup [.str (tx (iG (tx f).cps.toList none (some (a:Int)))),.str (tx (iG (tx f).cps.toList (some ((a:Int)+1)) (some (1+(r:Int)))))]) MF;dsimp only [aL];generalize aK S tp (.tup [.str (tx (iG (tx f).cps.toList none (some (a:Int)))),.str (tx (iG (tx f).cps.toList (some ((a:Int)+1)) (some (1+(r:Int)))))])=H6 at U k6 W;refine⟨m,rfl,Zo,Zo,?_⟩;refine bO (fE 0 (m:Int).toNat) (by rw[fA];omega) (λi l j=>l=((List.range i).map λk=>tx (oY L f a (r+1) s k)).map V.str/\j=H6) (λi l j ⟨e,_⟩=>⟨trivial,by rw[e];simp⟩) ⟨rfl,rfl⟩ (?_) (?_)
    ·rintro i a4 l j B ⟨e,n⟩;subst n;obtain⟨rfl,hi⟩:=oZ B;have h0:0<L.length:=by omega
     have hL:=Wv (L:=L) (mod_lt (s+i) h0);have t1:(tx (f.take a)).length<=12:=by rw[bD,vK];omega
     have t2:(tx ((f.drop (a+1)).take (r+1-(a+1)))).length<=12:=by rw[bD,vK,length_drop];omega
     refine⟨_,QZy U,_,rfl,y,by rw[C];omega,y,L.getD ((s+i)%L.length) 0,?_,eO (by have:=bD [L.getD ((s+i)%L.length) 0];simp only [vG,length_nil]at this;omega),_,QZy U,_,rfl,eO ?_,?_,rfl⟩
     ·rw[C,E,show((s:Int)+(i:Int))%(L.length:Int)=(((s+i)%L.length:Nat):Int) by rw[Int.natCast_emod,Int.natCast_add]];exact cV hL.2
     ·rw[cX,bD,kJ,vK];simp only [vG,length_nil];omega
     ·rw[e,List.range_succ,gO,gO,cX,cX];rfl
    ·rintro l j ⟨e,n⟩;subst n;intro p q;rw[fA,em]at e;have A:=W.ne q;refine a2 p ((List.range m).map λk=>tx (oY L f a (r+1) s k)) _ (uR (λk k' O V0 e=>?_) (λk O=>?_)) Zs (by rw[aA,e]) A.1 A.2 (W.new q) (k6.trans (.new q))
     ·exact Gg J1 e Zo Zo
     ·exact Ma Zo u BU Zo Zo
def aS{n:Nat}(h:Nat.ble n 1000=true):n<=1000:=ZL h
structure Fw(d b:ZR)(H H':Hp):Prop where
 d0:Dk H d b
 dk:Dk H' d b
 kp:Kp d b H H'
def Kp.same'{d b:ZR}{H a:Hp}(s:Same H a):Kp d b H a:=λc o e _ _=>s c o e
def Fw.refl{d b:ZR}{H:Hp}(D:Dk H d b):Fw d b H H:=⟨D,D,.refl⟩
def Fw.same{d b:ZR}{H a c:Hp}(f:Fw d b H a)(s:Same a c):Fw d b H c:=⟨f.d0,f.dk.same s,f.kp.trans (Kp.same' s)⟩
def Fw.new{d b p:ZR}{H a:Hp}{o:HO}(f:Fw d b H a)(h:a p=none):Fw d b H (aK a p o):=⟨f.d0,f.dk.new h,f.kp.trans (.new h)⟩
def Fw.draw{d b:ZR}{H c a:Hp}(f:Fw d b H c)(D:Dk a d b)(k:Kp d b c a):Fw d b H a:=⟨f.d0,D,f.kp.trans k⟩
def Fw.trans{d b:ZR}{H a c:Hp}(f:Fw d b H a)(g:Fw d b a c):Fw d b H c:=⟨f.d0,g.dk,f.kp.trans g.kp⟩
def Fw.tk{d b:ZR}{H a:Hp}(f:Fw d b H a):TK H a:=Kp.tk f.d0 f.kp
def Fw.tup{d b a:ZR}{H c:Hp}{xs:List V}(f:Fw d b H c)(g:H a=some (.tup xs)):c a=some (.tup xs):=f.tk _ _ g
def Fw.get{d b a:ZR}{H c:Hp}{o:HO}(f:Fw d b H c)(g:H a=some o)(e:a≠d)(h:a≠b):c a=some o:=f.kp _ _ g e h
def lF{ws:List Str}{r:Int}(b:0<=r)(c:r<ws.length):∃(i:Nat)(d:i<ws.length),r=i/\gC (ws.map V.str) r=some (.str ws[i]):=by
 obtain⟨j,rfl⟩:=Int.eq_ofNat_of_zero_le b;have a:j<ws.length:=by omega
 exact⟨j,a,rfl,cV (by rw[fB,cD a];rfl)⟩
def yX{n i r:Nat}(a:i<n)(b:r+1<n):(i+1+r)%n<n/\(i+1+r)%n≠i:=by
 refine⟨mod_lt _ Zo,λe=>?_⟩;by_cases h:i+1+r<n
 ·rw[Nat.mod_eq_of_lt h]at e;omega
 ·rw[Nat.mod_eq_sub_mod Zo,Nat.mod_eq_of_lt Zo]at e;omega
def Gh{ws:List Str}(h:ws.Nodup){i j:Nat}(a:i<ws.length)(b:j<ws.length)(c:i≠j):ws[i]≠ws[j]:=by
 have p:=pairwise_iff_getElem.mp h;rcases Nat.lt_or_gt_of_ne c with z|z
 ·exact p i j a b z
 ·exact λe=>p j i b a z e.symm
structure Menu(ws:List Str):Prop where
 of:WordsOf LET 8 ws
 two:2<=ws.length
 six:ws.length<=6
def Menu.nm{ws:List Str}(h:Menu ws){i:Nat}(a:i<ws.length):cR ws[i]:=h.of.of _ (getElem_mem a)
def Xx(ws us:List Str):Dd->Prop
 | .add a _=>a∈ws|.take a _=>a∈ws|.move a b _=>a∈ws/\b∈ws|.send h a _=>h∈us/\a∈ws|.fetch h a _=>h∈us/\a∈ws|.pass h g a _=>h∈us/\g∈us/\a∈ws
def sN:Sp:=λvs H Q _=>∃(d b a c:ZR)(e f:List Str),vs=[.ref d,.ref a,.ref c]/\Dk H d b/\H a=some (.lst (e.map V.str))/\H c=some (.lst (f.map V.str))/\(a≠d/\a≠b/\c≠d/\c≠b)/\Menu e/\Menu f ∧
 ∀(t:ZR)(x:Dd)(g:Hp),x.Ok->Xx e f x->g t=some (.tup x.vs)->Fw d b H g->Q (.ref t) g
def Mb(T:Txt K mg)(v:aI P w K mg base 1 "_law_draw" ZC cB)(R7:aI P w K mg base 2 "_law_end" ZC cB)(D:DefAt K mg "_law_deed" gX U6):aI P w K mg base 3 "_law_deed" U6 sN:=by
 refine D.gg bR (λa6 cdv a8 outer b2 a4 vs b3 b4 t a5=>?_)
 ·obtain⟨d,b,la,lb,a,c,rfl,dk,ga,N,⟨n1,n2,O,Q⟩,F,G,q⟩:=a5;have w2:=F.two;have w6:=F.six;have u2:=G.two;have u6:=G.six;refine⟨_,(ko (ms (i:=3) bR.nd (ou (tm (K:=K)) (re (kj (lf sn kt (lv v t rfl (kj (kl 0) (kj kt km)))) (kj (lf sn kt (lv R7 t rfl (kj (kl 0) (kj (lf TW kt kt) km)))) km))) (lv v t rfl (kj (kl 0) (kj kt km))))) (ko (ms (i:=4) bR.nd (lv v t rfl (kj (kl 0) (kj (ut (IN (K:=K)) rfl T.b_len cE (kj (kl 1) km)) km)))) (ko (ms (i:=5) bR.nd (ou (tm (K:=K)) (kl 1) (kl 4))) (ko (ms (i:=6) bR.nd (ou (tm (K:=K)) (kl 1) (lf Q7 (lf sn (lf sn (kl 4) kt) (lv v t rfl (kj (kl 0) (kj (lf UV (ut (IN (K:=K)) rfl T.b_len cE (kj (kl 1) km)) kt) km)))) (ut (IN (K:=K)) rfl T.b_len cE (kj (kl 1) km))))) (ko (ms (i:=7) bR.nd (lv v t rfl (kj (kl 0) (kj (ut (IN (K:=K)) rfl T.b_len cE (kj (kl 2) km)) km)))) (ko (ms (i:=8) bR.nd (ou (tm (K:=K)) (kl 2) (kl 7))) (ko (ms (i:=9) bR.nd (ou (tm (K:=K)) (kl 2) (lf Q7 (lf sn (lf sn (kl 7) kt) (lv v t rfl (kj (kl 0) (kj (lf UV (ut (IN (K:=K)) rfl T.b_len cE (kj (kl 2) km)) kt) km)))) (ut (IN (K:=K)) rfl T.b_len cE (kj (kl 2) km))))) (ko (ms (i:=10) bR.nd (re (kj (mo (kj ku (kj (kl 5) (kj (kl 3) km)))) (kj (mo (kj ku (kj (kl 5) (kj (kl 3) km)))) (kj (mo (kj ku (kj (kl 5) (kj (kl 6) (kj (kl 3) km))))) km))))) (ko (ms (i:=10) bR.nd (lf R.gk (kl 10) (re (kj (mo (kj ku (kj (kl 8) (kj (kl 5) (kj (kl 3) km))))) (kj (mo (kj ku (kj (kl 8) (kj (kl 5) (kj (kl 3) km))))) (kj (mo (kj ku (kj (kl 8) (kj (kl 9) (kj (kl 5) (kj (kl 3) km)))))) km)))))) (kz (om (ou (tm (K:=K)) (kl 10) (lv v t rfl (kj (kl 0) (kj kt km))))))))))))))),?_⟩;refine aQ (λσ' H'=>∃n:Nat,σ'=[some (.ref d),some (.ref la),some (.ref lb),some (.int (n:Int)),none,none,none,none,none,none,none]/\1<=n/\n<=1000000000000/\Fw d b a4 H') (λnx a9=>?_) ?_
  ·refine⟨d,b,9,rfl,dk,Zd,Zd,λr1 H1 a0 a1 D1 k1=>⟨⟨Zd,Zd,Zd⟩,d,b,_,rfl,D1,Zd,Zd,λr2 H2 b0 S H k2=>⟨fH rfl,λp I=>⟨d,b,2,rfl,H.new I,Zd,Zd,λe H3 c0 c1 D3 U=>?_⟩⟩⟩⟩;have qf:=H.ne I;have J:=U p _ aA qf.1 qf.2;have m:=((((Fw.refl dk).draw D1 k1).draw H k2).new I).draw D3 U;have YD:r2<1000000000000:=S;rcases(by omega:e=0∨e=1) with rfl|rfl
   ·refine⟨_,QZx J,_,rfl,a9 _ _ ⟨(1+r1).toNat,?_,Zo,Zo,m⟩⟩;rw[Int.toNat_of_nonneg Zo];rfl
   ·refine⟨_,QZx J,_,rfl,a9 _ _ ⟨(1+r2).toNat,?_,Zo,Zo,m⟩⟩;rw[Int.toNat_of_nonneg Zo];rfl
  ·rintro σ' H1 ⟨n,rfl,z,A,f1⟩;have HW:=f1.get ga n1 n2;have MG:=f1.get N O Q;refine⟨_,.inl (QZx HW),d,b,_,rfl,f1.dk,by rw[bF];omega,by rw[bF];omega,λr2 H2 b0 S H k2=>?_⟩;rw[bF]at S;have f2:=f1.draw H k2;have MH:=f2.get ga n1 n2;obtain⟨i,W,rfl,ei⟩:=lF b0 S;refine⟨_,QZx MH,_,ei,?_⟩;refine⟨_,.inl (QZx MH),d,b,_,rfl,f2.dk,by rw[bF];omega,by rw[bF];omega,λe H3 c0 c1 D3 U=>?_⟩;rw[bF]at c1;have X:=f2.draw D3 U;have wt:=X.get ga n1 n2;obtain⟨e,rfl⟩:∃a2:Nat,e=a2:=⟨e.toNat,Zo⟩;obtain⟨Y,MI⟩:=yX (r:=e) W Zo;have ej:((i:Int)+1+(e:Int))%((a.map V.str).length:Int)=(((i+1+e)%a.length:Nat):Int):=by
    rw[bF,Int.natCast_emod];rfl
   refine⟨_,.inl (QZx wt),by rw[bF];omega,_,QZx wt,V.str a[(i+1+e)%a.length],?_,?_⟩
   ·rw[ej];exact cV (by rw[fB,cD Y];rfl)
   have i9:=Gh F.of.nd W Y (λa3=>MI a3.symm);have x:=F.nm W;have y:a[i]∈a:=getElem_mem W;have ib:a[(i+1+e)%a.length]∈a:=getElem_mem Y;have MJ:=F.nm Y;generalize a[(i+1+e)%a.length]=zb at i9 MJ ib;generalize a[i]=B at i9 x y;dsimp only [aL];have QY:=X.get N O Q;refine⟨_,.inl (QZx QY),d,b,_,rfl,X.dk,by rw[bF];omega,by rw[bF];omega,λr4 H4 d0 d1 D4 k4=>?_⟩;rw[bF]at d1;have f4:=X.draw D4 k4;have MK:=f4.get N O Q;obtain⟨u,Z,rfl,eu⟩:=lF d0 d1;refine⟨_,QZx MK,_,eu,?_⟩;refine⟨_,.inl (QZx MK),d,b,_,rfl,f4.dk,by rw[bF];omega,by rw[bF];omega,λs H5 e0 e1 D5 k5=>?_⟩;rw[bF]at e1;have f5:=f4.draw D5 k5;have EW:=f5.get N O Q;obtain⟨s,rfl⟩:∃a2:Nat,s=a2:=⟨s.toNat,Zo⟩;obtain⟨hv,QZ⟩:=yX (r:=s) Z Zo;have ev:((u:Int)+1+(s:Int))%((c.map V.str).length:Int)=(((u+1+s)%c.length:Nat):Int):=by
    rw[bF,Int.natCast_emod];rfl
   refine⟨_,.inl (QZx EW),by rw[bF];omega,_,QZx EW,V.str c[(u+1+s)%c.length],?_,?_⟩
   ·rw[ev];exact cV (by rw[fB,cD hv];rfl)
   have yg:=Gh G.of.nd Z hv (λa3=>QZ a3.symm);have EX:=G.nm Z;have iu:c[u]∈c:=getElem_mem Z;have iv:c[(u+1+s)%c.length]∈c:=getElem_mem hv;have ML:=G.nm hv;generalize c[(u+1+s)%c.length]=zv at yg ML iv;generalize c[u]=zu at yg EX iu;refine⟨aS rfl,λf H6 s6 g6=>⟨aS rfl,λg H7 s7 g7=>⟨aS rfl,λh H8 s8 g8=>⟨fH rfl,λp I=>?_⟩⟩⟩⟩;have RA:Same H5 H8:=(s6.trans s7).trans s8;have f8:=f5.same RA;have h1:=s8 _ _ (s7 _ _ g6);have h2:=s8 _ _ g7;have J:(aK H8 p (.lst [.ref f,.ref g,.ref h])) p=some (.lst [.ref f,.ref g,.ref h]):=aA;have sp:=aH (o:=.lst [.ref f,.ref g,.ref h]) I;dsimp only [aL];generalize aK H8 p (.lst [.ref f,.ref g,.ref h])=H9 at J sp;refine⟨aS rfl,λj Ha sa g4=>⟨aS rfl,λk Hb sb g5=>⟨aS rfl,λl Hc sc g9=>⟨fH rfl,λp2 O8=>?_⟩⟩⟩⟩;have RB:Same H9 Hc:=(sa.trans sb).trans sc;have MM:(aK Hc p2 (.lst [.ref j,.ref k,.ref l])) p2=some (.lst [.ref j,.ref k,.ref l]):=aA;have L:=aH (o:=.lst [.ref j,.ref k,.ref l]) O8;generalize aK Hc p2 (.lst [.ref j,.ref k,.ref l])=Hd at MM L;have HX:=RB.trans L;refine⟨_,_,HX _ _ J,MM,fH rfl,λp3 M=>?_⟩;have fd:=f8.same (sp.trans HX);have BX:=fd.dk.ne M;have EY:Same H8 (aK Hd p3 (.lst ([.ref f,.ref g,.ref h]++[.ref j,.ref k,.ref l]))):=(sp.trans HX).trans (aH M);have wu:(aK Hd p3 (.lst ([.ref f,.ref g,.ref h]++[.ref j,.ref k,.ref l]))) p3=some (.lst [.ref f,.ref g,.ref h,.ref j,.ref k,.ref l]):=aA;have MN:=(L.trans (aH M (o:=.lst ([.ref f,.ref g,.ref h]++[.ref j,.ref k,.ref l])))) _ _ (sc _ _ (sb _ _ g4));have MO:=(L.trans (aH M (o:=.lst ([.ref f,.ref g,.ref h]++[.ref j,.ref k,.ref l])))) _ _ (sc _ _ g5);have MP:=(L.trans (aH M (o:=.lst ([.ref f,.ref g,.ref h]++[.ref j,.ref k,.ref l])))) _ _ g9;have f9:=f8.same EY;have m8:=EY _ _ h1;have B4:=EY _ _ h2;have BY:=EY _ _ g8;dsimp only [aL];generalize aK Hd p3 (.lst ([.ref f,.ref g,.ref h]++[.ref j,.ref k,.ref l]))=He at wu MN MO MP f9 m8 B4 BY;refine⟨d,b,6,rfl,f9.dk,Zd,Zd,λr6 Hf i0 i1 Df kf=>?_⟩;have m:=f9.draw Df kf;have C:=Fw.draw (.refl f9.dk) Df kf;have E:=kf _ _ wu BX.1 BX.2;rcases six i0 i1 with rfl|rfl|rfl|rfl|rfl|rfl
   ·exact⟨_,QZx E,_,rfl,q _ (.add B n) _ ⟨x,z,A⟩ y (C.tup m8) m⟩
   ·exact⟨_,QZx E,_,rfl,q _ (.take B n) _ ⟨x,z,A⟩ y (C.tup B4) m⟩
   ·exact⟨_,QZx E,_,rfl,q _ (.move B zb n) _ ⟨x,MJ,i9,z,A⟩ ⟨y,ib⟩ (C.tup BY) m⟩
   ·exact⟨_,QZx E,_,rfl,q _ (.send zu B n) _ ⟨EX,x,z,A⟩ ⟨iu,y⟩ (C.tup MN) m⟩
   ·exact⟨_,QZx E,_,rfl,q _ (.fetch zu B n) _ ⟨EX,x,z,A⟩ ⟨iu,y⟩ (C.tup MO) m⟩
   ·exact⟨_,QZx E,_,rfl,q _ (.pass zu zv B n) _ ⟨EX,ML,x,yg,z,A⟩ ⟨iu,iv,y⟩ (C.tup MP) m⟩
def vJ:Dd->Bool->List Str
 | .add _ _,_=>["is","full"]
 | .take _ _,_=>["is","short"]
 | .move _ _ _,_=>["is","short","full"]
 | .send _ _ _,true=>["is","no"]|.send _ _ _,false=>["short"]
 | .fetch _ _ _,true=>["is","no"]|.fetch _ _ _,false=>["full"]
 | .pass _ _ _ _,true=>["ok","no"]|.pass _ _ _ _,false=>[]
def pA:Sp:=λvs H Q _=>∃(t:ZR)(x:Dd)(q:Bool),vs=[.ref t,.bl q]/\H t=some (.tup x.vs)/\∀l a,H l=none->a l=some (.lst ((vJ x q).map V.str))->Same H a->Q (.ref l) a
def kv6(a b c d e f:V):List (aX×V):=bT (bT (aP [] [(Sum.inr ("add":Str),a),(Sum.inr ("take":Str),b),(Sum.inr ("move":Str),c),(Sum.inr ("pass":Str),d)]) (Sum.inr ("send":Str)) e) (Sum.inr ("fetch":Str)) f
def Sn(a b c d e f:V)(x:Dd):aT (kv6 a b c d e f) (Sum.inr x.wd)=some (match x with|.add _ _=>a|.take _ _=>b|.move _ _ _=>c|.pass _ _ _ _=>d|.send _ _ _=>e|.fetch _ _ _=>f):=by
 cases x<;>rfl
def Gi(x:Dd):gC x.vs 0=some (.str x.wd):=by cases x<;>rfl
def So(x:Dd):kK (.str x.wd) [.str "add",.str "take",.str "move"]=!x.far:=by cases x<;>rfl
def iV:Dd->List Str
 | .add _ _=>["is","full"]|.take _ _=>["is","short"]|.move _ _ _=>["is","short","full"]|.send _ _ _=>["is","short","no"]|.fetch _ _ _=>["is","full","no"]|.pass _ _ _ _=>["ok","no"]
def uS(x:Dd)(h:x.far=false)(q:Bool):vJ x q=iV x:=by cases x<;>first|rfl|cases h
def sO(x:Dd)(h:x.far=true)(q:Bool):vJ x q=(iV x).filter λz=>(kK (.str z) [.str "short",.str "full"]) != q:=by cases x<;>cases q<;>first|rfl|cases h
def Gj(x:Dd):(iV x).length<=3:=by cases x<;>exact ZL rfl
def cH{H:Hp}{p:ZR}{kvs:List (aX×V)}(e:H p=some (.dK kvs))(b:List (aX×V)){c:ZR}{o:HO}(a:H c=some o)(ne:∀z,o≠.dK z):(aK H p (.dK b)) c=some o:=by
 rw[aF (λz=>by rw[z,e]at a;cases a;exact ne _ rfl)];exact a
def jK{H a:Hp}{p:ZR}{o:HO}(b:H p=none)(s:Same H a):Same H (aK a p o):=λc u e=>by
 rw[aF (aD e b)];exact s _ _ e
def Gk(T:Txt K mg)(D:DefAt K mg "_law_words" eK U5):aI P w K mg base 1 "_law_words" U5 pA:=by
 refine D.gg hI (λa4 cdv a5 outer a6 H vs a7 a8 hr a0=>?_)
 ·obtain⟨t,x,y,rfl,gt,a3⟩:=a0;have d6:=dQ hr;refine⟨_,(ko (ms (i:=2) hI.nd (R.ji (R.dq ku (re (kj ku (kj ku km))) (R.dq ku (re (kj ku (kj ku km))) (R.dq ku (re (kj ku (kj ku (kj ku km)))) (R.dq ku (re (kj ku (kj ku km))) R.jj)))))) (ko (ww (re (kj ku (kj ku (kj ku km)))) (AC (kl 2) ku (O3 d6))) (ko (ww (re (kj ku (kj ku (kj ku km)))) (AC (kl 2) ku (O3 d6))) (ko (ms (i:=3) hI.nd (O5 d6 (kl 2) (li K 0))) (ko (oq (nw (U3 (K:=K)) (li K 0) (mo (kj ku (kj ku (kj ku km))))) (kz (om (kl 3))) ot) (kz (om (O2 rfl (js:=[none,some 1]) (N:=["_law_word_here","_law_asked"]) (CompScope.by (aB eK) QZD rfl rfl Zk) (bM rfl) (wr (K:=K) (kl 3)) (λa9 s₂ H₂ fp=>⟨(oy (i:=0) (show(["_law_word_here","_law_asked"]:List Str).Nodup by decide +kernel)),(R.dy (nw UF (wp (U3 (K:=K)) (kl 0) (mo (kj ku (kj ku km)))) (kl 1))),(kl 0)⟩))))))))),?_⟩;refine λp hp=>?_;have g0:(aK H p (.dK [])) p=some (.dK []):=aA;have F:=aH (o:=.dK []) hp;generalize aK H p (.dK [])=H0 at g0 F;refine⟨fH rfl,λh BR=>⟨fH rfl,λj O8=>⟨fH rfl,λl pj=>⟨fH rfl,λq J=>?_⟩⟩⟩⟩;have L:=aH (o:=.lst [.str "is",.str "full"]) BR;have a:(aK H0 h (.lst [.str "is",.str "full"])) h=_:=aA;have f1:H h=none:=F.free BR;generalize aK H0 h (.lst [.str "is",.str "full"])=H1 at L a O8 pj J ⊢;have M:=aH (o:=.lst [.str "is",.str "short"]) O8;have b:(aK H1 j (.lst [.str "is",.str "short"])) j=_:=aA;have f2:H j=none:=(F.trans L).free O8;generalize aK H1 j (.lst [.str "is",.str "short"])=H2 at M b pj J ⊢;have O:=aH (o:=.lst [.str "is",.str "short",.str "full"]) pj;have c:(aK H2 l (.lst [.str "is",.str "short",.str "full"])) l=_:=aA;have f3:H l=none:=((F.trans L).trans M).free pj;generalize aK H2 l (.lst [.str "is",.str "short",.str "full"])=H3 at O c J ⊢;have Q:=aH (o:=.lst [.str "ok",.str "no"]) J;have d:(aK H3 q (.lst [.str "ok",.str "no"])) q=_:=aA;have f4:H q=none:=(((F.trans L).trans M).trans O).free J;generalize aK H3 q (.lst [.str "ok",.str "no"])=G at Q d ⊢;have MQ:Same H0 G:=((L.trans M).trans O).trans Q;have S:=MQ _ _ g0;refine⟨S,[(Sum.inr ("add":Str),.ref h),(Sum.inr ("take":Str),.ref j),(Sum.inr ("move":Str),.ref l),(Sum.inr ("pass":Str),.ref q)],rfl,ZL rfl,?_⟩;have S4:Same H G:=F.trans MQ;replace a:=Q _ _ (O _ _ (M _ _ a));replace b:=Q _ _ (O _ _ b);replace c:=Q _ _ c;show vL _ _ _ [some (.ref t),some (.bl y),some (.ref p),none] (aK G p (.dK (aP [] [(Sum.inr ("add":Str),.ref h),(Sum.inr ("take":Str),.ref j),(Sum.inr ("move":Str),.ref l),(Sum.inr ("pass":Str),.ref q)])));generalize hk:aP [] [(Sum.inr ("add":Str),V.ref h),(Sum.inr ("take":Str),.ref j),(Sum.inr ("move":Str),.ref l),(Sum.inr ("pass":Str),.ref q)]=r;have l4:r.length=4:=by rw[<- hk];rfl
  have S5:Same H (aK G p (.dK r)):=jK hp S4;have g5:(aK G p (.dK r)) p=_:=aA;replace a:=cH S r a (λ_ z=>nomatch z);replace b:=cH S r b (λ_ z=>nomatch z);replace c:=cH S r c (λ_ z=>nomatch z);replace d:=cH S r d (λ_ z=>nomatch z);generalize aK G p (.dK r)=H5 at a b c d S5 g5 ⊢;refine⟨fH rfl,λA HY=>⟨p,_,rfl,DPut.k (k:=Sum.inr ("send":Str)) (bH g5 HY) (jQ (m:=100) Zo Zd),?_⟩⟩;have f5:H A=none:=S5.free HY;have B:=aH (o:=.lst [.str "is",.str "short",.str "no"]) HY;have u:(aK H5 A (.lst [.str "is",.str "short",.str "no"])) A=_:=aA;have I:=B _ _ g5;generalize aK H5 A (.lst [.str "is",.str "short",.str "no"])=H6 at B u I ⊢;generalize MR:bT r (Sum.inr ("send":Str)) (V.ref A)=g;have l5:g.length<=5:=by rw[<- MR];exact hZ (cC _ _ _) Zo
  have S7:Same H (aK H6 p (.dK g)):=jK hp (S5.trans B);have g7:(aK H6 p (.dK g)) p=_:=aA;replace a:=cH I g (B _ _ a) (λ_ z=>nomatch z);replace b:=cH I g (B _ _ b) (λ_ z=>nomatch z);replace c:=cH I g (B _ _ c) (λ_ z=>nomatch z);replace d:=cH I g (B _ _ d) (λ_ z=>nomatch z);replace u:=cH I g u (λ_ z=>nomatch z);generalize aK H6 p (.dK g)=H7 at a b c d u S7 g7 ⊢;refine⟨fH rfl,λC HZ=>⟨p,_,rfl,DPut.k (k:=Sum.inr ("fetch":Str)) (bH g7 HZ) (jQ (m:=100) Zo Zd),?_⟩⟩;have f6:H C=none:=S7.free HZ;have v:=aH (o:=.lst [.str "is",.str "full",.str "no"]) HZ;have U:(aK H7 C (.lst [.str "is",.str "full",.str "no"])) C=_:=aA;have E:=v _ _ g7;generalize aK H7 C (.lst [.str "is",.str "full",.str "no"])=H8 at v U E ⊢;generalize RC:bT g (Sum.inr ("fetch":Str)) (V.ref C)=f;have ek:f=kv6 (.ref h) (.ref j) (.ref l) (.ref q) (.ref A) (.ref C):=by rw[<- RC,<- MR,<- hk];rfl
  have S9:Same H (aK H8 p (.dK f)):=jK hp (S7.trans v);have g9:(aK H8 p (.dK f)) p=_:=aA;replace a:=cH E f (v _ _ a) (λ_ z=>nomatch z);replace b:=cH E f (v _ _ b) (λ_ z=>nomatch z);replace c:=cH E f (v _ _ c) (λ_ z=>nomatch z);replace d:=cH E f (v _ _ d) (λ_ z=>nomatch z);replace u:=cH E f (v _ _ u) (λ_ z=>nomatch z);replace U:=cH E f U (λ_ z=>nomatch z);generalize aK H8 p (.dK f)=H9 at a b c d u U S9 g9 ⊢;have key:∃s:ZR,aT f (Sum.inr x.wd)=some (.ref s)/\H s=none/\H9 s=some (.lst ((iV x).map V.str)):=by
   rw[ek,Sn];cases x with
   | add a1 n=>exact⟨h,rfl,f1,a⟩
   | take a1 n=>exact⟨j,rfl,f2,b⟩
   | move a1 a2 n=>exact⟨l,rfl,f3,c⟩
   | send a1 a2 n=>exact⟨A,rfl,f5,u⟩
   | fetch a1 a2 n=>exact⟨C,rfl,f6,U⟩
   | pass a1 a2 b0 n=>exact⟨q,rfl,f4,d⟩
  obtain⟨s,hv,fl,gl⟩:=key;have dg:DGet H9 p (.str x.wd) (some (.ref s)):=by rw[<- hv];exact DGet.k (k:=Sum.inr x.wd) g9
  have MS:=S9 _ _ gt;refine⟨_,QZy MS,_,Gi x,p,_,rfl,dg,?_⟩;refine⟨_,QZy MS,_,Gi x,aS rfl,λtq Ha sa ga=>⟨tq,_,rfl,.inr (QZy ga),rfl,rfl,?_⟩⟩;have Sa:Same H Ha:=S9.trans sa;show if kK (.str x.wd) [.str "add",.str "take",.str "move"]=true then _ else _
  rw[So];cases hf:x.far with
  | false=>
   refine Yy rfl ?_;refine a3 s Ha fl ?_ Sa;rw[uS x hf];exact sa _ _ gl
  | true=>
   refine Yz rfl ?_;have AG:=sa _ _ gl;refine⟨s,rfl,⟨_,QZx AG⟩,?_⟩;refine bO (bI K s ((iV x).map V.str)) (by have:=Gj x;rw[bF];omega) (λi ys W=>ys=(((iV x).take i).filter λz=>(kK (.str z) [.str "short",.str "full"]) != y).map V.str/\Same H W/\W s=some (.lst ((iV x).map V.str))) (λi ys W ⟨e,_,X⟩=>⟨QZx X,by rw[e,bF];exact hZ (length_filter_le _ _) (by rw[vK];omega)⟩) ⟨rfl,Sa,AG⟩ (?_) (?_)
   ·rintro i b1 ys W Y ⟨e,Z,X⟩;rw[fB]at Y;cases hz:(iV x)[i]? with
    | none=>rw[hz]at Y;cases Y
    | some z=>
     rw[hz]at Y;cases Y;have key:=take_succ_filter (λz=>(kK (.str z) [.str "short",.str "full"]) != y) (iV x) i z hz;refine⟨aS rfl,λtp Hb sb gb=>⟨tp,_,rfl,.inr (QZy gb),rfl,rfl,?_⟩⟩;show if (!decide (kK (.str z) [.str "short",.str "full"]=y))=true then _ else _
     have eb:(!decide (kK (.str z) [.str "short",.str "full"]=y))=(kK (.str z) [.str "short",.str "full"] != y):=by cases kK (.str z) [.str "short",.str "full"]<;>cases y<;>rfl
     rw[eb];refine cP (λa0=>⟨?_,Z.trans sb,sb _ _ X⟩) (λa0=>⟨?_,Z.trans sb,sb _ _ X⟩)
     ·rw[key,ZO a0,gO,e];rfl
     ·rw[key,ZN (by rw[a0];exact ZX),append_nil,e]
   ·rintro ys W ⟨e,Z,X⟩;intro pn ES;refine a3 pn _ (Z.free ES) ?_ (Z.trans (aH ES));rw[aA,e,bF,nT (bQ _),sO x hf]
def Sq:An->Str|.is1 _=>"is"|.is2 _ _=>"is"|.short _=>"short"|.full _=>"full"|.no _=>"no"|.ok=>"ok"
def xD:Sp:=λvs H Q _=>∃(d b t:ZR)(x:Dd)(z:Str),vs=[.ref d,.ref t,.str z]/\Dk H d b/\H t=some (.tup x.vs)/\x.Ok/\z∈iV x ∧
 ∀(c:ZR)(y:An)(a:Hp),An.Of x y->Sq y=z->a c=some (.tup y.vs)->Fw d b H a->Q (.ref c) a
def Zi(x:Dd):gC x.vs (-1)=some (.int (x.n:Int)):=by cases x<;>rfl
def hU{r:Int}(h:0<=r):∃z:Nat,r=z:=⟨r.toNat,Zo⟩
def Bo(T:Txt K mg)(Q:aI P w K mg base 1 "_law_draw" ZC cB)(L:aI P w K mg base 2 "_law_end" ZC cB)(D:DefAt K mg "_law_answer" eY QZZ):aI P w K mg base 3 "_law_answer" QZZ xD:=by
 refine D.gg eC (λa3 cdv a4 outer a5 a6 vs a8 a9 J h=>?_)
 ·obtain⟨d,b,t,x,a2,rfl,N,gt,S,s,q⟩:=h;have G:=S.n;refine⟨_,(ko (ms (i:=3) eC.nd (ou (v0 (K:=K)) (kl 1) (zn kt))) (ko (ms (i:=4) eC.nd (lv L J rfl (kj (kl 0) (kj (lf sn (lf UV (lf TW kt kt) (kl 3)) kt) km)))) (ko (ms (i:=5) eC.nd (lf sn (kl 3) (lv L J rfl (kj (kl 0) (kj (lf sn (lf UV (lf TW kt kt) (kl 3)) kt) km))))) (ko (oq (nw pi (kl 2) ku) (kz (om (mo (kj ku (kj (ou (v0 (K:=K)) (kl 1) (lf sn kt (lf R.dw (lv Q J rfl (kj (kl 0) (kj kt km))) (O4 R.dz rfl T.b_int jX (kj (wp pi (li K 1) ku) km))))) km))))) ot) (ko (oq (nw pi (kl 2) ku) (kz (om (mo (kj ku km)))) ot) (ko (oq (nw pi (kl 2) ku) (kz (om (mo (kj ku (kj (lv L J rfl (kj (kl 0) (kj (kl 3) km))) km))))) ot) (ko (oq (nw pi (kl 2) ku) (kz (om (mo (kj ku (kj (lf UV (lf TW kt kt) (lv L J rfl (kj (kl 0) (kj (kl 3) km)))) km))))) ot) (ko (oq (nw pi (li K 1) ku) (kz (om (mo (kj ku (kj (kl 4) (kj (kl 5) km)))))) ot) (kz (om (mo (kj ku (kj (ou (tm (K:=K)) (re (kj (kl 4) (kj (kl 5) km))) (O4 R.dz rfl T.b_int jX (kj (wp (U3 (K:=K)) (li K 1) (mo (kj ku (kj ku km)))) km))) km))))))))))))),?_⟩;refine⟨_,QZy gt,_,Zi x,?_⟩;refine⟨⟨Zd,Zd,Zd⟩,d,b,1000000000000-(x.n:Int)+1,rfl,N,Zo,Zo,λy H1 U H O W=>?_⟩;refine⟨⟨Zd,Zd,Zd⟩,d,b,1000000000000-(x.n:Int)+1,rfl,O,Zo,Zo,λo X Y I Z k2=>?_⟩;dsimp only [aL];have f2:=((Fw.refl N).draw O W).draw Z k2;obtain⟨y,rfl⟩:=hU U;obtain⟨o,rfl⟩:=hU Y;have z:=f2.tup gt;have e:=f2;dsimp only [wH,mI];show vL _ _ _ [some (.ref d),some (.ref t),some (.str a2),some (.int (x.n:Int)),some (.int (y:Int)),some (.int ((x.n:Int)+(o:Int)))] X
  cases x with
  | add a n=>
   simp only [Dd.n]at G H I;simp only [iV,mem_cons,ZH,or_false]at s;rcases s with rfl|rfl
   ·refine⟨_,QZy z,_,rfl,⟨fH rfl,λp u=>⟨_,QZy (bH z u),_,rfl,aS rfl,λC M v E=>⟨C,_,rfl,.inr (QZy E),rfl,rfl,⟨_,QZx (v _ _ aA),_,rfl,aS rfl,λF f j k=>?_⟩⟩⟩⟩⟩;refine q F (.is1 (n+o)) f ⟨Zo,Zo⟩ rfl ?_ (((e.new u).same v).same j);rw[k];show some (HO.tup [V.str "is",.int ((n:Int)+(o:Int))])=some (HO.tup [V.str "is",.int ((n+o:Nat):Int)]);rw[show((n+o:Nat):Int)=(n:Int)+(o:Int) by omega]
   ·refine⟨⟨Zd,Zd,Zd⟩,d,b,(n:Int),rfl,e.dk,Zo,Zo,λc A r B l m=>⟨aS rfl,λp f j k=>?_⟩⟩;obtain⟨c,rfl⟩:=hU r;refine q p (.full (1000000000000-c)) f ⟨Zo,Zo⟩ rfl ?_ ((e.draw l m).same j);rw[k];show some (HO.tup [V.str "full",.int ((1000000000000:Int)-(c:Int))])=some (HO.tup [V.str "full",.int ((1000000000000-c:Nat):Int)]);rw[show((1000000000000-c:Nat):Int)=(1000000000000:Int)-(c:Int) by omega]
  | take a n=>
   simp only [Dd.n]at G H I;simp only [iV,mem_cons,ZH,or_false]at s;rcases s with rfl|rfl
   ·refine⟨_,QZy z,_,rfl,⟨fH rfl,λp u=>⟨_,QZy (bH z u),_,rfl,aS rfl,λC M v E=>⟨C,_,rfl,.inr (QZy E),rfl,rfl,⟨_,QZx (v _ _ aA),_,rfl,aS rfl,λF f j k=>?_⟩⟩⟩⟩⟩;exact q F (.is1 y) f (by show y+n<=1000000000000;omega) rfl k (((e.new u).same v).same j)
   ·refine⟨d,b,(n:Int),rfl,e.dk,Zo,Zo,λc A r B l m=>⟨aS rfl,λp f j k=>?_⟩⟩;obtain⟨c,rfl⟩:=hU r;exact q p (.short c) f (by show c<n;omega) rfl k ((e.draw l m).same j)
  | move a b' n=>
   simp only [Dd.n]at G H I;simp only [iV,mem_cons,ZH,or_false]at s;rcases s with rfl|rfl|rfl
   ·refine⟨_,QZy z,_,rfl,aS rfl,λp f j k=>?_⟩;refine q p (.is2 y (n+o)) f ⟨Zo,Zo,Zo⟩ rfl ?_ (e.same j);rw[k];show some (HO.tup [V.str "is",.int (y:Int),.int ((n:Int)+(o:Int))])=some (HO.tup [V.str "is",.int (y:Int),.int ((n+o:Nat):Int)]);rw[show((n+o:Nat):Int)=(n:Int)+(o:Int) by omega]
   ·refine⟨d,b,(n:Int),rfl,e.dk,Zo,Zo,λc A r B l m=>⟨aS rfl,λp f j k=>?_⟩⟩;obtain⟨c,rfl⟩:=hU r;exact q p (.short c) f (by show c<n;omega) rfl k ((e.draw l m).same j)
   ·refine⟨⟨Zd,Zd,Zd⟩,d,b,(n:Int),rfl,e.dk,Zo,Zo,λc A r B l m=>⟨aS rfl,λp f j k=>?_⟩⟩;obtain⟨c,rfl⟩:=hU r;refine q p (.full (1000000000000-c)) f ⟨Zo,Zo⟩ rfl ?_ ((e.draw l m).same j);rw[k];show some (HO.tup [V.str "full",.int ((1000000000000:Int)-(c:Int))])=some (HO.tup [V.str "full",.int ((1000000000000-c:Nat):Int)]);rw[show((1000000000000-c:Nat):Int)=(1000000000000:Int)-(c:Int) by omega]
  | send h a n=>
   simp only [Dd.n]at G H I;simp only [iV,mem_cons,ZH,or_false]at s;rcases s with rfl|rfl|rfl
   ·refine⟨_,QZy z,_,rfl,⟨fH rfl,λp u=>⟨_,QZy (bH z u),_,rfl,aS rfl,λC M v E=>⟨C,_,rfl,.inr (QZy E),rfl,rfl,⟨_,QZx (v _ _ aA),_,rfl,aS rfl,λF f j k=>?_⟩⟩⟩⟩⟩;exact q F (.is1 y) f (by show y+n<=1000000000000;omega) rfl k (((e.new u).same v).same j)
   ·refine⟨d,b,(n:Int),rfl,e.dk,Zo,Zo,λc A r B l m=>⟨aS rfl,λp f j k=>?_⟩⟩;obtain⟨c,rfl⟩:=hU r;exact q p (.short c) f (by show c<n;omega) rfl k ((e.draw l m).same j)
   ·refine⟨d,b,2,rfl,e.dk,Zd,Zd,λc A r B l m=>⟨_,QZy ((e.draw l m).tup gt),_,rfl,.inl ⟨Zo,Zo⟩,_,QZy ((e.draw l m).tup gt),.str h,?_,aS rfl,λp f j k=>?_⟩⟩
    ·show gC _ (1+c*0)=_;rw[Int.mul_zero];rfl
    ·exact q p (.no h) f rfl rfl k ((e.draw l m).same j)
  | fetch h a n=>
   simp only [Dd.n]at G H I;simp only [iV,mem_cons,ZH,or_false]at s;rcases s with rfl|rfl|rfl
   ·refine⟨_,QZy z,_,rfl,⟨fH rfl,λp u=>⟨_,QZy (bH z u),_,rfl,aS rfl,λC M v E=>⟨C,_,rfl,.inr (QZy E),rfl,rfl,⟨_,QZx (v _ _ aA),_,rfl,aS rfl,λF f j k=>?_⟩⟩⟩⟩⟩;refine q F (.is1 (n+o)) f ⟨Zo,Zo⟩ rfl ?_ (((e.new u).same v).same j);rw[k];show some (HO.tup [V.str "is",.int ((n:Int)+(o:Int))])=some (HO.tup [V.str "is",.int ((n+o:Nat):Int)]);rw[show((n+o:Nat):Int)=(n:Int)+(o:Int) by omega]
   ·refine⟨⟨Zd,Zd,Zd⟩,d,b,(n:Int),rfl,e.dk,Zo,Zo,λc A r B l m=>⟨aS rfl,λp f j k=>?_⟩⟩;obtain⟨c,rfl⟩:=hU r;refine q p (.full (1000000000000-c)) f ⟨Zo,Zo⟩ rfl ?_ ((e.draw l m).same j);rw[k];show some (HO.tup [V.str "full",.int ((1000000000000:Int)-(c:Int))])=some (HO.tup [V.str "full",.int ((1000000000000-c:Nat):Int)]);rw[show((1000000000000-c:Nat):Int)=(1000000000000:Int)-(c:Int) by omega]
   ·refine⟨d,b,2,rfl,e.dk,Zd,Zd,λc A r B l m=>⟨_,QZy ((e.draw l m).tup gt),_,rfl,.inl ⟨Zo,Zo⟩,_,QZy ((e.draw l m).tup gt),.str h,?_,aS rfl,λp f j k=>?_⟩⟩
    ·show gC _ (1+c*0)=_;rw[Int.mul_zero];rfl
    ·exact q p (.no h) f rfl rfl k ((e.draw l m).same j)
  | pass h g a n=>
   simp only [Dd.n]at G H I;simp only [iV,mem_cons,ZH,or_false]at s;rcases s with rfl|rfl
   ·refine⟨aS rfl,λp f j k=>?_⟩;exact q p .ok f trivial rfl k (e.same j)
   ·refine⟨d,b,2,rfl,e.dk,Zd,Zd,λc A r B l m=>?_⟩;rcases(by omega:c=0∨c=1) with rfl|rfl
    ·refine⟨_,QZy ((e.draw l m).tup gt),_,rfl,.inl ⟨Zo,Zo⟩,_,QZy ((e.draw l m).tup gt),.str h,rfl,aS rfl,λp f j k=>?_⟩;exact q p (.no h) f (.inl rfl) rfl k ((e.draw l m).same j)
    ·refine⟨_,QZy ((e.draw l m).tup gt),_,rfl,.inl ⟨Zo,Zo⟩,_,QZy ((e.draw l m).tup gt),.str g,rfl,aS rfl,λp f j k=>?_⟩;exact q p (.no g) f (.inr rfl) rfl k ((e.draw l m).same j)
structure MenusAt(H:Hp)(lm:ZR)(M:List ZR):Prop where
 ex:∃(a0 a1 a2 a3:ZR)(ws us ps ks:List Str),M=[lm,a0,a1,a2,a3]/\H lm=some (.lst [.ref a0,.ref a1,.ref a2,.ref a3])/\H a0=some (.lst (ws.map V.str))/\H a1=some (.lst (us.map V.str))/\H a2=some (.lst (ps.map V.str))/\H a3=some (.lst (ks.map V.str)) ∧
  Menu ws/\Menu us/\(1<=ps.length/\ps.length<=6/\∀z∈ps,cR z)/\1<=ks.length/\ks.length<=6/\∀z∈ks,mF z
def MenusAt.keep{H a:Hp}{b:ZR}{M:List ZR}(h:MenusAt H b M)(k:∀c∈M,∀o,H c=some o->a c=some o):MenusAt a b M:=by
 obtain⟨d,e,f,g,i,j,ps,l,rfl,m,n,p,q,s,r⟩:=h.ex;exact⟨d,e,f,g,i,j,ps,l,rfl,k _ Zs _ m,k _ Zs _ n,k _ Zs _ p,k _ Zs _ q,k _ Zs _ s,r⟩
def Fw.menus{d b:ZR}{H a:Hp}{g:ZR}{M:List ZR}(f:Fw d b H a)(j:d∉M)(k:b∉M)(h:MenusAt H g M):MenusAt a g M:=h.keep λc i o e=>f.get e (λz=>j (z▸i)) (λz=>k (z▸i))
def Fw.put{d b a:ZR}{H g:Hp}{o:HO}(f:Fw d b H g)(h:H a=none):Fw d b H (aK g a o):=by
 have i:=f.d0.ne h;refine⟨f.d0,?_,λc u e j l=>?_⟩
 ·obtain⟨m,s,k,n,p,q⟩:=f.dk.ex;exact⟨m,s,k,by rw[aF (λz=>i.1 z.symm)];exact n,by rw[aF (λz=>i.2 z.symm)];exact p,q⟩
 ·rw[aF (aD e h)];exact f.kp _ _ e j l
def sP:Sp:=λvs H Q _=>∃(d b c:ZR)(M:List ZR),vs=[.ref d,.ref c]/\Dk H d b/\MenusAt H c M/\d∉M/\b∉M/\∀(t:ZR)(p k:Str)(a:Hp),cR p->mF k->a t=some (.tup [.str p,.str k])->Fw d b H a->Q (.ref t) a
def Mc(T:Txt K mg)(l:aI P w K mg base 1 "_law_draw" ZC cB)(D:DefAt K mg "_law_spot" gY W6):aI P w K mg base 2 "_law_spot" W6 sP:=by
 refine D.gg uP (λa4 Y a5 X a6 H vs a8 a9 m h=>?_)
 ·obtain⟨d,b,g,b0,rfl,n,x,y,A,q⟩:=h;obtain⟨p,r,k,a,Z,us,ps,B,rfl,i,h1,h2,s,u,mw,mu,⟨p1,p6,pn⟩,k1,k6,C⟩:=x.ex;have j:∀c∈[g,p,r,k,a],c≠d/\c≠b:=λc f=>⟨λz=>y (z▸f),λz=>A (z▸f)⟩
  refine⟨_,(kz (om (mo (kj (ou (tm (K:=K)) (o0 K 1) (lv l m rfl (kj (kl 0) (kj (ut (IN (K:=K)) rfl T.b_len cE (kj (o0 K 1) km)) km)))) (kj (ou (tm (K:=K)) (o0 K 1) (lv l m rfl (kj (kl 0) (kj (ut (IN (K:=K)) rfl T.b_len cE (kj (o0 K 1) km)) km)))) km))))),?_⟩;refine⟨_,QZx i,_,rfl,_,QZx i,_,rfl,_,.inl (QZx s),d,b,(ps.length:Int),by rw[bF],n,Zo,Zo,λr1 E F G v I=>?_⟩;have f1:=(Fw.refl n).draw v I;have ge:∀c∈[g,p,r,k,a],∀o,H c=some o->E c=some o:=λc f o e=>f1.get e (j c f).1 (j c f).2
  obtain⟨b1,J,rfl,L⟩:=lF F G;refine⟨_,QZx (ge k Zs _ s),_,L,?_⟩;refine⟨_,QZx (ge g Zs _ i),_,rfl,_,QZx (ge g Zs _ i),_,rfl,_,.inl (QZx (ge a Zs _ u)),d,b,(B.length:Int),by rw[bF],v,Zo,Zo,λr2 H2 M N O Q=>?_⟩;have f2:=f1.draw O Q;obtain⟨b2,R,rfl,S⟩:=lF M N;refine⟨_,QZx (f2.get u (j a Zs).1 (j a Zs).2),_,S,aS rfl,λt U V W=>?_⟩;exact q t _ _ U (pn _ (getElem_mem J)) (C _ (getElem_mem R)) W (f2.same V)
def Fw.free{d b a:ZR}{H c:Hp}(f:Fw d b H c)(h:c a=none):H a=none:=by
 have g:=f.dk.ne h
 cases e:H a with
 | none=>rfl
 | some o=>rw[f.kp _ _ e g.1 g.2]at h;cases h
structure Gm(rs:List RX):Prop where
 wh:RX.Whole rs
 ok:∀r∈rs,r.Ok
 rk:∀r∈rs,r.rank<=2
 len:rs.length=0
 nx:∀n t,.next n t∈rs->n<=900006/\t<500000000000
def aG{a:Type}{xs:List a}{x y:a}(h:y∈xs++[x]):y∈xs∨y=x:=by
 rcases Zma.mp h with h|h
 ·exact .inl h
 ·exact .inr (Zms.mp h)
def sQ:("abcdefghijklmnopqrstuvwxyz":Str)=tx LET:=by rw[oN ("abcdefghijklmnopqrstuvwxyz":Str),rZ]
def Md:("abcdefghijklmnopqrstuvwxyz":Str)++("0123456789":Str)=tx KLET:=by rw[oN ("abcdefghijklmnopqrstuvwxyz":Str),rZ,oN ("0123456789":Str),Et,cX];rfl
def jL{H:Hp}{a l:ZR}{ws:List Str}{xs:List ZR}(b:H a=some (.lst (ws.map V.str)))(c:1<=ws.length)(d:H l=some (.lst (xs.map V.ref))):a≠l:=by
 intro e;rw[e,d]at b;cases ws with
 | nil=>cases c
 | cons w ws=>
  cases xs with
  | nil=>cases b
  | cons x xs=>cases b
def Me:LET.Nodup:=by decide
def Ww:KLET.Nodup:=by decide
def uT:Sp:=λvs H Q _=>∃(d b:ZR),vs=[.ref d]/\Dk H d b/\∀(c:ZR)(M:List ZR)(a:Hp),MenusAt a c M->d∉M->b∉M->Fw d b H a->Q (.ref c) a
def Wx{d a b c e f:ZR}(g:a≠d)(i:b≠d)(j:c≠d)(k:e≠d)(l:f≠d):d∉[a,b,c,e,f]:=by
 intro h;simp only [mem_cons,ZH,or_false]at h;rcases h with h|h|h|h|h
 ·exact g h.symm
 ·exact i h.symm
 ·exact j h.symm
 ·exact k h.symm
 ·exact l h.symm
def WordsOf.nm{ws:List Str}(h:WordsOf LET 8 ws):∀z∈ws,cR z:=λz a=>h.of z a
def WordsOf.ky{ws:List Str}(h:WordsOf KLET 12 ws):∀z∈ws,mF z:=λz a=>h.of z a
def Gn(T:Txt K mg)(y:aI P w K mg base 1 "_law_draw" ZC cB)(z:aI P w K mg base 2 "_law_unlike" WF mH)(D:DefAt K mg "_law_menus" fV QZR):aI P w K mg base 3 "_law_menus" QZR uT:=by
 refine D.gg hJ (λa6 cdv a8 outer a9 b0 vs b1 b2 k a4=>?_)
 ·obtain⟨d,b,rfl,S,a5⟩:=a4;refine⟨_,(ko (ms (i:=1) hJ.nd ku) (ko (ms (i:=2) hJ.nd (re (kj (lv z k rfl (kj (kl 0) (kj (kl 1) (kj kt (kj (lf sn kt (lv y k rfl (kj (kl 0) (kj kt km)))) km))))) km))) (ko (u8 (J6 (K:=K) PySem.F.plainAttrs_list PySem.F.slot_list_append PySem.F.type_list_append U4 (kl 2) (kj (lv z k rfl (kj (kl 0) (kj (kl 1) (kj kt (kj (lf sn kt (lv y k rfl (kj (kl 0) (kj kt km)))) km))))) km))) (ko (u8 (J6 (K:=K) PySem.F.plainAttrs_list PySem.F.slot_list_append PySem.F.type_list_append U4 (kl 2) (kj (lv z k rfl (kj (kl 0) (kj (kl 1) (kj kt (kj (lf sn kt (lv y k rfl (kj (kl 0) (kj kt km)))) km))))) km))) (ko (u8 (J6 (K:=K) PySem.F.plainAttrs_list PySem.F.slot_list_append PySem.F.type_list_append U4 (kl 2) (kj (lv z k rfl (kj (kl 0) (kj (lf Q6 (kl 1) ku) (kj kt (kj (lf sn kt (lv y k rfl (kj (kl 0) (kj kt km)))) km))))) km))) (kz (om (kl 2)))))))),?_⟩;refine⟨d,b,5,rfl,S,Zd,Zd,λr H1 n I U e1=>?_⟩;obtain⟨r,rfl⟩:=hU n;refine⟨d,b,LET,8,2+r,by rw[<- sQ,show((2+r:Nat):Int)=2+(r:Int) by omega];rfl,U,Zo,Zo,Zd,Me,by show 2+r<=26;omega,Zd,λa W X hw lw g A B Y e2=>⟨fH rfl,λc p=>?_⟩⟩;have f2:=((Fw.refl S).draw U e1).draw Y e2;have l:=Y.ne p;have C:=f2.new (o:=.lst [.ref a]) p;have f:(aK X c (.lst [.ref a])) c=some (.lst ([a].map V.ref)):=aA;replace g:=bH (u:=.lst [.ref a]) g p;dsimp only [aL];generalize aK X c (.lst [.ref a])=H3 at C f g;refine⟨.inl ⟨rfl,_,QZx f⟩,d,b,5,rfl,C.dk,Zd,Zd,λs H4 n I J Z=>?_⟩;obtain⟨s,rfl⟩:=hU n;refine⟨d,b,LET,8,2+s,by rw[<- sQ,show((2+s:Nat):Int)=2+(s:Int) by omega];rfl,J,Zo,Zo,Zd,Me,by show 2+s<=26;omega,Zd,λe us E hu lu g1 L M D5 e5=>?_⟩;have f5:=(C.draw J Z).draw D5 e5;have F5:=((Fw.refl C.dk).draw J Z).draw D5 e5;replace f:=F5.get f l.1 l.2;replace g:=F5.get g A B;have N:=jL g Zo f;have O:=jL g1 Zo f;refine⟨c,_,_,rfl,rfl,f,jQ (m:=100) (ZL rfl) Zd,?_⟩;have F:=f5.put (f2.free p) (o:=.lst ([a].map V.ref++[.ref e]));replace f:(aK E c (.lst ([a].map V.ref++[.ref e]))) c=some (.lst ([a,e].map V.ref)):=aA;replace g:(aK E c (.lst ([a].map V.ref++[.ref e]))) a=_:=(aF N).trans g;replace g1:(aK E c (.lst ([a].map V.ref++[.ref e]))) e=_:=(aF O).trans g1;generalize aK E c (.lst ([a].map V.ref++[.ref e]))=H6 at F f g g1;refine⟨.inl ⟨rfl,_,QZx f⟩,d,b,6,rfl,F.dk,Zd,Zd,λt H7 n I Q e7=>?_⟩;obtain⟨t,rfl⟩:=hU n;refine⟨d,b,LET,8,1+t,by rw[<- sQ,show((1+t:Nat):Int)=1+(t:Int) by omega];rfl,Q,Zo,Zo,Zd,Me,by show 1+t<=26;omega,Zd,λh ps v hp lp g2 n2 m2 D8 e8=>?_⟩;have f8:=(F.draw Q e7).draw D8 e8;have R:=((Fw.refl F.dk).draw Q e7).draw D8 e8;replace f:=R.get f l.1 l.2;replace g:=R.get g A B;replace g1:=R.get g1 L M;have MT:=jL g2 Zo f;refine⟨c,_,_,rfl,rfl,f,jQ (m:=100) (ZL rfl) Zd,?_⟩;have G:=f8.put (f2.free p) (o:=.lst ([a,e].map V.ref++[.ref h]));replace f:(aK v c (.lst ([a,e].map V.ref++[.ref h]))) c=some (.lst ([a,e,h].map V.ref)):=aA;replace g:(aK v c (.lst ([a,e].map V.ref++[.ref h]))) a=_:=(aF N).trans g;replace g1:(aK v c (.lst ([a,e].map V.ref++[.ref h]))) e=_:=(aF O).trans g1;replace g2:(aK v c (.lst ([a,e].map V.ref++[.ref h]))) h=_:=(aF MT).trans g2;generalize aK v c (.lst ([a,e].map V.ref++[.ref h]))=H9 at G f g g1 g2;refine⟨.inl ⟨rfl,_,QZx f⟩,eO Zk,d,b,6,rfl,G.dk,Zd,Zd,λx Ha n I Da ea=>?_⟩;obtain⟨x,rfl⟩:=hU n;refine⟨d,b,KLET,12,1+x,by rw[<- Md,show((1+x:Nat):Int)=1+(x:Int) by omega];rfl,Da,Zo,Zo,Zd,Ww,by show 1+x<=36;omega,Zd,λj ks q hk lk g3 n3 m3 Db eb=>?_⟩;have fb:=(G.draw Da ea).draw Db eb;have H:=((Fw.refl G.dk).draw Da ea).draw Db eb;replace f:=H.get f l.1 l.2;replace g:=H.get g A B;replace g1:=H.get g1 L M;replace g2:=H.get g2 n2 m2;have RD:=jL g3 Zo f;refine⟨c,_,_,rfl,rfl,f,jQ (m:=100) (ZL rfl) Zd,?_⟩;have fc:=fb.put (f2.free p) (o:=.lst ([a,e,h].map V.ref++[.ref j]));replace f:(aK q c (.lst ([a,e,h].map V.ref++[.ref j]))) c=some (.lst ([a,e,h,j].map V.ref)):=aA;replace g:(aK q c (.lst ([a,e,h].map V.ref++[.ref j]))) a=_:=(aF N).trans g;replace g1:(aK q c (.lst ([a,e,h].map V.ref++[.ref j]))) e=_:=(aF O).trans g1;replace g2:(aK q c (.lst ([a,e,h].map V.ref++[.ref j]))) h=_:=(aF MT).trans g2;replace g3:(aK q c (.lst ([a,e,h].map V.ref++[.ref j]))) j=_:=(aF RD).trans g3;generalize aK q c (.lst ([a,e,h].map V.ref++[.ref j]))=Hc at fc f g g1 g2 g3;have mw:Menu W:=⟨hw,Zo,Zo⟩;have mu:Menu us:=⟨hu,Zo,Zo⟩;have hM:MenusAt Hc c [c,a,e,h,j]:=⟨a,e,h,j,W,us,ps,ks,rfl,f,g,g1,g2,g3,mw,mu,⟨Zo,Zo,hp.nm⟩,Zo,Zo,hk.ky⟩;have od:=Wx l.1 A L n2 n3;have ob:=Wx l.2 B M m2 m3;exact a5 c _ Hc hM od ob fc
def Go(H:Hp)(e:ZR)(n:Nat)(t:ZR)(x:Dd)(q:Bool):Prop:=H e=some (.lst [.int (n:Int),.ref t,.bl q])/\H t=some (.tup x.vs)
def Mf(x:Dd):kK (.str x.wd) [.str "send",.str "fetch",.str "pass"]=x.far:=by cases x<;>rfl
def gJ:RX->Str|.next _ _=>"next"|.has _ _=>"has"|.kept _ _ _ _ _ _=>"kept"|.came _ _ _ _ _=>"came"|.asked _=>"asked"|.done _ _ _=>"done"
def Sr:RX->V|.next n _=>.int (n:Int)|.has z _=>.str z|.kept n _ _ _ _ _=>.int (n:Int)|.came n _ _ _ _=>.int (n:Int)|.asked n=>.int (n:Int)|.done n _ _=>.int (n:Int)
def Wy:RX->V|.next _ t=>.int (t:Int)|.has _ m=>.int (m:Int)|.kept _ t _ _ _ _=>.int (t:Int)|.came _ t _ _ _=>.int (t:Int)|.asked _=>.non|.done _ t _=>.int (t:Int)
def uU{H:Hp}{a:ZR}{r:RX}(h:r.At H a):∃xs,H a=some (.tup xs)/\gC xs 0=some (.str (gJ r))/\gC xs 1=some (Sr r)/\(Wy r≠.non->gC xs 2=some (Wy r)):=by
 cases r with
 | next n t=>exact⟨_,h,rfl,rfl,λ_=>rfl⟩
 | has z m=>exact⟨_,h,rfl,rfl,λ_=>rfl⟩
 | kept n t p k d y=>obtain⟨b,c,e,f,g⟩:=h;exact⟨_,e,rfl,rfl,λ_=>rfl⟩
 | came n t p k d=>obtain⟨b,e,f⟩:=h;exact⟨_,e,rfl,rfl,λ_=>rfl⟩
 | asked n=>exact⟨_,h,rfl,rfl,λz=>ZM rfl z⟩
 | done n t y=>obtain⟨b,e,f⟩:=h;exact⟨_,e,rfl,rfl,λ_=>rfl⟩
structure Un where
 n:Nat
 x:Dd
 q:Bool
 e:Addr
 t:Addr
def Gp{us:List Un}(h:(us.map (·.n)).Nodup){i j:Nat}{u v:Un}(f:us[i]?=some u)(g:us[j]?=some v)(k:i≠j):u.n≠v.n:=by
 intro e;obtain⟨a,b⟩:=Zgs.mp f;obtain⟨c,d⟩:=Zgs.mp g;have p:=pairwise_iff_getElem.mp h;rcases Nat.lt_or_gt_of_ne k with z|z
 ·have:=p i j (by simpa using a) (by simpa using c) z;simp only [getElem_map,b,d]at this;exact this e
 ·have:=p j i (by simpa using c) (by simpa using a) z;simp only [getElem_map,b,d]at this;exact this e.symm
def lG{b:Type}{us:List b}{j:Nat}{u v:b}(h:v∈us.set j u):v=u∨∃i,i≠j/\us[i]?=some v:=by
 obtain⟨i,a,e⟩:=getElem_of_mem h;rw[getElem_set]at e;split at e
 ·exact .inl e.symm
 ·rename_i c;rw[length_set]at a;exact .inr ⟨i,λz=>c z.symm,by rw[cD a,e]⟩
def yY(x:Dd):∀v∈x.vs,cI v=true:=by
 intro v a;cases x<;>simp only [Dd.vs,mem_cons,ZH,or_false]at a<;>rcases a with rfl|rfl|rfl|rfl|rfl<;>rfl
def Dk.put'{c:Hp}{d b:ZR}{o:HO}{a:ZR}(D:Dk c d b)(e:a≠d)(f:a≠b):Dk (aK c a o) d b:=by
 obtain⟨g,s,k,h,i,j⟩:=D.ex;exact⟨g,s,k,by rw[aF e.symm];exact h,by rw[aF f.symm];exact i,j⟩
def Ss{us:List Un}(h:(us.map (·.e)).Nodup){i j:Nat}{u v:Un}(f:us[i]?=some u)(g:us[j]?=some v)(k:i≠j):u.e≠v.e:=by
 intro e;obtain⟨a,b⟩:=Zgs.mp f;obtain⟨c,d⟩:=Zgs.mp g;have p:=pairwise_iff_getElem.mp h;rcases Nat.lt_or_gt_of_ne k with z|z
 ·have:=p i j (by simpa using a) (by simpa using c) z;simp only [getElem_map,b,d]at this;exact this e
 ·have:=p j i (by simpa using c) (by simpa using a) z;simp only [getElem_map,b,d]at this;exact this e.symm
def Mg{r:RX}(h:gJ r="next"):∃n t,r=.next n t:=by
 cases r with
 | next n t=>exact⟨n,t,rfl⟩
 | has z m=>exact ZM (show("has":Str)="next" from h) Zk
 | kept n t p k x y=>exact ZM (show("kept":Str)="next" from h) Zk
 | came n t p k x=>exact ZM (show("came":Str)="next" from h) Zk
 | asked n=>exact ZM (show("asked":Str)="next" from h) Zk
 | done n t y=>exact ZM (show("done":Str)="next" from h) Zk
def Mh{r:RX}(h:gJ r="kept"):∃n t p k x y,r=.kept n t p k x y:=by
 cases r with
 | kept n t p k x y=>exact⟨n,t,p,k,x,y,rfl⟩
 | has z m=>exact ZM (show("has":Str)="kept" from h) Zk
 | next n t=>exact ZM (show("next":Str)="kept" from h) Zk
 | came n t p k x=>exact ZM (show("came":Str)="kept" from h) Zk
 | asked n=>exact ZM (show("asked":Str)="kept" from h) Zk
 | done n t y=>exact ZM (show("done":Str)="kept" from h) Zk
def nP{r:RX}(h:gJ r="came"):∃n t p k x,r=.came n t p k x:=by
 cases r with
 | came n t p k x=>exact⟨n,t,p,k,x,rfl⟩
 | has z m=>exact ZM (show("has":Str)="came" from h) Zk
 | next n t=>exact ZM (show("next":Str)="came" from h) Zk
 | kept n t p k x y=>exact ZM (show("kept":Str)="came" from h) Zk
 | asked n=>exact ZM (show("asked":Str)="came" from h) Zk
 | done n t y=>exact ZM (show("done":Str)="came" from h) Zk
def yZ{r:RX}(h:gJ r="done"):∃n t y,r=.done n t y:=by
 cases r with
 | done n t y=>exact⟨n,t,y,rfl⟩
 | has z m=>exact ZM (show("has":Str)="done" from h) Zk
 | next n t=>exact ZM (show("next":Str)="done" from h) Zk
 | kept n t p k x y=>exact ZM (show("kept":Str)="done" from h) Zk
 | asked n=>exact ZM (show("asked":Str)="done" from h) Zk
 | came n t p k x=>exact ZM (show("came":Str)="done" from h) Zk
def bJ{a:Type}{xs:List a}{i:Nat}{x:a}(h:xs[i]?=some x):xs.take (i+1)=xs.take i++[x]:=by rw[List.take_add_one,h];rfl
def mJ{c:List RX}(h:RX.Whole c){n t t':Nat}{p k d e:Str}{x f:Dd}(h1:.came n t p k x∈c)(a:.came n t' d e f∈c):RX.came n t p k x=.came n t' d e f:=by
 induction h with
 | nil=>cases h1
 | snoc i b g=>
  rcases aG h1 with h1|h1
  ·rcases aG a with a|a
   ·exact g h1 a
   ·rw[<- a]at b;exact ZM (b.1 _ _ _ _ _ h1) (lt_irrefl _)
  ·rcases aG a with a|a
   ·rw[<- h1]at b;exact ZM (b.1 _ _ _ _ _ a) (lt_irrefl _)
   ·rw[h1,a]
structure BdP(rs:List RX)(sh:List Nat)(num turn:Nat)(us:List Un):Prop where
 wh:RX.Whole rs
 ok:∀r∈rs,r.Ok
 cnum:∀n t p k x,.came n t p k x∈rs->n<=num
 knum:∀n t p k x y,.kept n t p k x y∈rs->n∈sh
 trn:∀q∈rs,q.turn<=turn
 und:∀u∈us,u.x.Ok/\(∃t p k,.came u.n t p k u.x∈rs)/\(∀t y,.done u.n t y∉rs)/\(u.q=true↔.asked u.n∈rs)/\(u.q=true->u.x.far=true)
 nd:(us.map (·.n)).Nodup
 asn:∀n,.asked n∈rs->∃t p k x,.came n t p k x∈rs
 dnn:∀n t y,.done n t y∈rs->∃t p k x,.came n t p k x∈rs
def BdP.turn'{a:List RX}{b:List Nat}{num turn turn':Nat}{us:List Un}(h:BdP a b num turn us)(c:turn<=turn'):BdP a b num turn' us:=
 ⟨h.wh,h.ok,h.cnum,h.knum,λq d=>hZ (h.trn q d) c,h.und,h.nd,h.asn,h.dnn⟩
def BdP.came{i:List RX}{l:List Nat}{num turn n:Nat}{us:List Un}(h:BdP i l num turn us)(G:num<n)(H:n∉l)(I:n<=999999)(J:turn<=1000000000000){p k:Str}{x:Dd}{e t:ZR}(L:cR p)(M:mF k)(B:x.Ok) :
  BdP (i++[.came n turn p k x]) l n turn (us++[⟨n,x,false,e,t⟩]):=by
 have N:.asked n∉i:=λm=>by obtain⟨t,p,k,x,m⟩:=h.asn n m;have:=h.cnum _ _ _ _ _ m;omega
 have O:∀t y,.done n t y∉i:=λt y m=>by obtain⟨t,p,k,x,m⟩:=h.dnn n t y m;have:=h.cnum _ _ _ _ _ m;omega
 refine⟨h.wh.snoc ⟨λd f o s Q m=>jQ (h.cnum _ _ _ _ _ m) G,λf o s Q j m=>ZM (h.knum _ _ _ _ _ _ m) H,h.trn⟩,λr c=>?_,λd f o s R c=>?_,λd f o s R j c=>?_,λq v=>?_,λu g=>?_,?_,λd c=>?_,λd f j c=>?_⟩
 ·rcases aG c with c|rfl
  ·exact h.ok r c
  ·exact⟨Zo,I,J,L,M,B⟩
 ·rcases aG c with c|c
  ·have:=h.cnum _ _ _ _ _ c;omega
  ·cases c;exact bQ _
 ·rcases aG c with c|c
  ·exact h.knum _ _ _ _ _ _ c
  ·cases c
 ·rcases aG v with v|rfl
  ·exact h.trn q v
  ·exact bQ _
 ·rcases aG g with g|rfl
  ·obtain⟨S,⟨C,D,E,A⟩,T,F,U⟩:=h.und u g;refine⟨S,⟨C,D,E,ZK _ A⟩,λf j m=>?_,⟨λz=>ZK _ (F.mp z),λm=>?_⟩,U⟩
   ·rcases aG m with m|m
    ·exact T _ _ m
    ·cases m
   ·rcases aG m with m|m
    ·exact F.mpr m
    ·cases m
  ·refine⟨B,⟨turn,p,k,ZJ _ fP⟩,λf j m=>?_,⟨nofun,λm=>?_⟩,nofun⟩
   ·rcases aG m with m|m
    ·exact O _ _ m
    ·cases m
   ·rcases aG m with m|m
    ·exact ZM m N
    ·cases m
 ·rw[gO];refine List.nodup_append.mpr ⟨h.nd,Zs,λa V b W=>?_⟩;obtain⟨u,g,rfl⟩:=Zmm.mp V;obtain⟨_,⟨C,D,E,A⟩,_⟩:=h.und u g;have:=h.cnum _ _ _ _ _ A;have X:b=n:=by simpa using W
  omega
 ·rcases aG c with c|c
  ·obtain⟨t,p,k,x,m⟩:=h.asn d c;exact⟨t,p,k,x,ZK _ m⟩
  ·cases c
 ·rcases aG c with c|c
  ·obtain⟨t,p,k,x,m⟩:=h.dnn d _ _ c;exact⟨t,p,k,x,ZK _ m⟩
  ·cases c
def BdP.mark{f:List RX}{y:List Nat}{num turn j:Nat}{us:List Un}{u:Un}(h:BdP f y num turn us)(g:us[j]?=some u)(b:u.q=false)(A:u.x.far=true) :
  BdP (f++[.asked u.n]) y num turn (us.set j {u with q:=true }):=by
 have G:=dB g;obtain⟨g1,⟨l,n,o,g2⟩,g3,H,W⟩:=h.und u G;have no:.asked u.n∉f:=λm=>by rw[H.mpr m]at b;cases b
 have B:=h.ok _ g2;refine⟨h.wh.snoc ⟨⟨l,n,o,u.x,g2,A⟩,no,g3⟩,λr a=>?_,λc d I J L a=>?_,λc d I J L s a=>?_,λq b=>?_,λv M=>?_,?_,λc a=>?_,λc d s a=>?_⟩
 ·rcases aG a with a|rfl
  ·exact h.ok r a
  ·exact⟨B.1,B.2.1⟩
 ·rcases aG a with a|a
  ·exact h.cnum _ _ _ _ _ a
  ·cases a
 ·rcases aG a with a|a
  ·exact h.knum _ _ _ _ _ _ a
  ·cases a
 ·rcases aG b with b|rfl
  ·exact h.trn q b
  ·exact zero_le _
 ·rcases lG M with rfl|⟨i,N,C⟩
  ·refine⟨g1,⟨l,n,o,ZK _ g2⟩,λd s m=>?_,⟨λ_=>ZJ _ fP,λ_=>rfl⟩,λ_=>A⟩;rcases aG m with m|m
   ·exact g3 _ _ m
   ·cases m
  ·obtain⟨D,⟨O,Q,R,E⟩,S,F,T⟩:=h.und v (dB C);have U:=Gp h.nd C g N;refine⟨D,⟨O,Q,R,ZK _ E⟩,λd s m=>?_,⟨λz=>ZK _ (F.mp z),λm=>?_⟩,T⟩
   ·rcases aG m with m|m
    ·exact S _ _ m
    ·cases m
   ·rcases aG m with m|m
    ·exact F.mpr m
    ·injection m with m;exact ZM m U
 ·have e:(us.set j {u with q:=true }).map (·.n)=us.map (·.n):=by
   obtain⟨X,V⟩:=Zgs.mp g;rw[map_set];apply List.ext_getElem Zs;intro i D E;rw[getElem_set];split
   ·rename_i z;subst z;simp[V]
   ·rfl
  rw[e];exact h.nd
 ·rcases aG a with a|a
  ·obtain⟨t,p,k,x,m⟩:=h.asn c a;exact⟨t,p,k,x,ZK _ m⟩
  ·cases a;exact⟨l,n,o,u.x,ZK _ g2⟩
 ·rcases aG a with a|a
  ·obtain⟨t,p,k,x,m⟩:=h.dnn c _ _ a;exact⟨t,p,k,x,ZK _ m⟩
  ·cases a
def BdP.done{e:List RX}{f:List Nat}{num turn j:Nat}{us:List Un}{u:Un}{y:An}(h:BdP e f num turn us)(g:us[j]?=some u)(F:turn<=1000000000000)(G:An.Of u.x y)(l:u.x.far=true->(u.q=true↔y.early=false)) :
  BdP (e++[.done u.n turn y]) f num turn (us.eraseIdx j):=by
 have H:=dB g;obtain⟨g1,⟨n,o,s,g2⟩,g3,A,X⟩:=h.und u H;have B:=h.ok _ g2;refine⟨h.wh.snoc ⟨h.trn,g3,n,o,s,u.x,g2,G,λz=>⟨λm=>(l z).mp (A.mpr m),λm=>A.mp ((l z).mpr m)⟩⟩,λr a=>?_,λb c I J L a=>?_,λb c I J L C a=>?_,λq d=>?_,λv M=>?_,?_,λb a=>?_,λb c C a=>?_⟩
 ·rcases aG a with a|rfl
  ·exact h.ok r a
  ·exact⟨B.1,B.2.1,F⟩
 ·rcases aG a with a|a
  ·exact h.cnum _ _ _ _ _ a
  ·cases a
 ·rcases aG a with a|a
  ·exact h.knum _ _ _ _ _ _ a
  ·cases a
 ·rcases aG d with d|rfl
  ·exact h.trn q d
  ·exact bQ _
 ·obtain⟨i,N,D⟩:=List.mem_eraseIdx_iff_getElem?.mp M;obtain⟨O,⟨Q,R,S,T⟩,U,E,V⟩:=h.und v (dB D);have W:=Gp h.nd D g N;refine⟨O,⟨Q,R,S,ZK _ T⟩,λc C m=>?_,⟨λz=>ZK _ (E.mp z),λm=>?_⟩,V⟩
  ·rcases aG m with m|m
   ·exact U _ _ m
   ·injection m with m;exact ZM m W
  ·rcases aG m with m|m
   ·exact E.mpr m
   ·cases m
 ·exact h.nd.sublist ((List.eraseIdx_sublist us j).map _)
 ·rcases aG a with a|a
  ·obtain⟨t,p,k,x,m⟩:=h.asn b a;exact⟨t,p,k,x,ZK _ m⟩
  ·cases a
 ·rcases aG a with a|a
  ·obtain⟨t,p,k,x,m⟩:=h.dnn b _ _ a;exact⟨t,p,k,x,ZK _ m⟩
  ·cases a;exact⟨n,o,s,u.x,ZK _ g2⟩
def BdP.start{a:List RX}{c:List Nat}{num turn:Nat}(h:Gm a)(d:∀n t p k x y,.kept n t p k x y∈a->n∈c)(f:∀n t,.next n t∈a->t<=turn):BdP a c num turn []:=by
 have no:∀r∈a,r.rank=3->False:=λr g e=>by have:=h.rk r g;omega
 refine⟨h.wh,h.ok,λn t p k x m=>(no _ m rfl).elim,d,λq b=>?_,(λu i=>nomatch i),nodup_nil,λn m=>(no _ m rfl).elim,λn t y m=>(no _ m rfl).elim⟩
 cases q with
 | next n t=>exact f _ _ b
 | has z m=>exact zero_le _
 | kept n t p k x y=>exact zero_le _
 | came n t p k x=>exact(no _ b rfl).elim
 | asked n=>exact(no _ b rfl).elim
 | done n t y=>exact(no _ b rfl).elim
def nI(a:List Nat):List V:=a.map λn:Nat=>V.int (n:Int)
structure BdH(H:Hp)(d b ra bk ul:ZR)(H':Hp)(rs:List RX)(as:List ZR)(sh:List Nat)(us:List Un):Prop where
 d0:Dk H d b
 r0:∃xs,H ra=some (.lst xs)
 fbk:H bk=none
 ful:H ul=none
 fes:∀u∈us,H u.e=none
 nra:ra≠d/\ra≠b
 nbu:bk≠ul
 nue:∀u∈us,u.e≠ul/\u.e≠bk
 nde:(us.map (·.e)).Nodup
 dk:Dk H' d b
 rows:RxsAt H' ra rs as
 book:H' bk=some (.lst (nI sh))
 und:H' ul=some (.lst ((us.map (·.e)).map V.ref))
 ent:∀u∈us,Go H' u.e u.n u.t u.x u.q
 fr:∀c o,H c=some o->c≠d->c≠b->c≠ra->H' c=some o
section
variable {H H' G9:Hp}{d b ra bk ul:ZR}{rs:List RX}{as:List ZR}{sh:List Nat}{us:List Un}
def BdH.ra_ne(h:BdH H d b ra bk ul H' rs as sh us):ra≠bk/\ra≠ul/\∀u∈us,ra≠u.e:=by
 obtain⟨e,a⟩:=h.r0;exact⟨aD a h.fbk,aD a h.ful,λu c=>aD a (h.fes u c)⟩
def BdH.ne_d(h:BdH H d b ra bk ul H' rs as sh us){c:ZR}(a:H c=none):c≠d/\c≠b:=h.d0.ne a
def BdH.fw(h:BdH H d b ra bk ul H' rs as sh us)(F:Fw d b H' G9):BdH H d b ra bk ul G9 rs as sh us:=by
 have f:=h.ne_d h.fbk;have g:=h.ne_d h.ful;refine⟨h.d0,h.r0,h.fbk,h.ful,h.fes,h.nra,h.nbu,h.nue,h.nde,F.dk,h.rows.keep F.tk (F.get h.rows.lst h.nra.1 h.nra.2),F.get h.book f.1 f.2,F.get h.und g.1 g.2,λu a=>?_,λc o e i j k=>F.get (h.fr c o e i j k) i j⟩;have ne:=h.ne_d (h.fes u a);exact⟨F.get (h.ent u a).1 ne.1 ne.2,F.tup (h.ent u a).2⟩
def BdH.row(h:BdH H d b ra bk ul H' rs as sh us){r:RX}{a:ZR}(i:r.At H' a):BdH H d b ra bk ul (aK H' ra (.lst (as.map V.ref++[.ref a]))) (rs++[r]) (as++[a]) sh us:=by
 obtain⟨j,k,l⟩:=h.ra_ne;have tk:TK H' (aK H' ra (.lst (as.map V.ref++[.ref a]))):=lZ h.rows.lst;refine⟨h.d0,h.r0,h.fbk,h.ful,h.fes,h.nra,h.nbu,h.nue,h.nde,Dk.put' h.dk h.nra.1 h.nra.2,h.rows.snoc tk (i.tk tk) aA,by rw[aF j.symm];exact h.book,by rw[aF k.symm];exact h.und,λu f=>⟨by rw[aF (l u f).symm];exact(h.ent u f).1,tk _ _ (h.ent u f).2⟩,λc o e m m2 g=>by rw[aF g];exact h.fr c o e m m2 g⟩
def BdH.push(h:BdH H d b ra bk ul H' rs as sh us){n:Nat}{x:Dd}{q:Bool}{e t:ZR}(g:Go H' e n t x q)(l:H e=none)(i:e≠ul)(m:e≠bk)(p:∀u∈us,u.e≠e) :
  BdH H d b ra bk ul (aK H' ul (.lst ((us.map (·.e)).map V.ref++[.ref e]))) rs as sh (us++[⟨n,x,q,e,t⟩]):=by
 obtain⟨A,r,B⟩:=h.ra_ne;have j:=h.ne_d h.ful;have tk:TK H' (aK H' ul (.lst ((us.map (·.e)).map V.ref++[.ref e]))):=lZ h.und;refine⟨h.d0,h.r0,h.fbk,h.ful,λu f=>?_,h.nra,h.nbu,λu f=>?_,?_,Dk.put' h.dk j.1 j.2,h.rows.keep tk (by rw[aF r];exact h.rows.lst),by rw[aF h.nbu];exact h.book,by rw[aA,gO,gO];rfl,λu f=>?_,λc o k s m2 v=>by rw[aF (aD k h.ful)];exact h.fr c o k s m2 v⟩
 ·rcases aG f with f|rfl
  ·exact h.fes u f
  ·exact l
 ·rcases aG f with f|rfl
  ·exact h.nue u f
  ·exact⟨i,m⟩
 ·rw[gO];refine List.nodup_append.mpr ⟨h.nde,Zs,λa y c z=>?_⟩;obtain⟨u,f,rfl⟩:=Zmm.mp y;have:c=e:=by simpa using z
  rw[this];exact p u f
 ·rcases aG f with f|rfl
  ·exact⟨by rw[aF (h.nue u f).1];exact(h.ent u f).1,tk _ _ (h.ent u f).2⟩
  ·exact⟨by rw[aF i];exact g.1,tk _ _ g.2⟩
def BdH.mark(h:BdH H d b ra bk ul H' rs as sh us){j:Nat}{u:Un}(g:us[j]?=some u) :
  BdH H d b ra bk ul (aK H' u.e (.lst [.int (u.n:Int),.ref u.t,.bl true])) rs as sh (us.set j {u with q:=true }):=by
 obtain⟨x,y,p⟩:=h.ra_ne;have a:=dB g;have ne:=h.ne_d (h.fes u a);have tk:TK H' (aK H' u.e (.lst [.int (u.n:Int),.ref u.t,.bl true])):=lZ (h.ent u a).1;have l:(us.set j {u with q:=true }).map (·.e)=us.map (·.e):=by
  obtain⟨A,r⟩:=Zgs.mp g;rw[map_set];apply List.ext_getElem Zs;intro i B C;rw[getElem_set];split
  ·rename_i z;subst z;simp[r]
  ·rfl
 refine⟨h.d0,h.r0,h.fbk,h.ful,λv f=>?_,h.nra,h.nbu,λv f=>?_,by rw[l];exact h.nde,Dk.put' h.dk ne.1 ne.2,h.rows.keep tk (by rw[aF (p u a)];exact h.rows.lst),by rw[aF (h.nue u a).2.symm];exact h.book,by rw[aF (h.nue u a).1.symm,l];exact h.und,λv f=>?_,λc o m s m2 t=>by rw[aF (aD m (h.fes u a))];exact h.fr c o m s m2 t⟩
 ·rcases lG f with rfl|⟨i,k,e⟩
  ·exact h.fes u a
  ·exact h.fes v (dB e)
 ·rcases lG f with rfl|⟨i,k,e⟩
  ·exact h.nue u a
  ·exact h.nue v (dB e)
 ·rcases lG f with rfl|⟨i,k,e⟩
  ·exact⟨aA,tk _ _ (h.ent u a).2⟩
  ·have n:=dB e;exact⟨by rw[aF (Ss h.nde e g k)];exact(h.ent v n).1,tk _ _ (h.ent v n).2⟩
def BdH.drop(h:BdH H d b ra bk ul H' rs as sh us)(j:Nat):BdH H d b ra bk ul (aK H' ul (.lst (((us.map (·.e)).eraseIdx j).map V.ref))) rs as sh (us.eraseIdx j):=by
 obtain⟨n,g,p⟩:=h.ra_ne;have e:=h.ne_d h.ful;have tk:TK H' (aK H' ul (.lst (((us.map (·.e)).eraseIdx j).map V.ref))):=lZ h.und;have sub:∀u∈us.eraseIdx j,u∈us:=λu a=>List.mem_of_mem_eraseIdx a
 have i:(us.eraseIdx j).map (·.e)=(us.map (·.e)).eraseIdx j:=by
  have:∀(us:List Un)(j:Nat),(us.eraseIdx j).map (·.e)=(us.map (·.e)).eraseIdx j:=by
   intro us;induction us with
   | nil=>intro j;simp
   | cons u us k=>
    intro j;cases j with
    | zero=>simp
    | succ j=>rw[eraseIdx_cons_succ,map_cons,map_cons,eraseIdx_cons_succ,k]
  exact this us j
 refine⟨h.d0,h.r0,h.fbk,h.ful,λu a=>h.fes u (sub u a),h.nra,h.nbu,λu a=>h.nue u (sub u a),h.nde.sublist ((List.eraseIdx_sublist us j).map _),Dk.put' h.dk e.1 e.2,h.rows.keep tk (by rw[aF g];exact h.rows.lst),by rw[aF h.nbu];exact h.book,by rw[aA,i],λu a=>⟨by rw[aF (h.nue u (sub u a)).1];exact(h.ent u (sub u a)).1,tk _ _ (h.ent u (sub u a)).2⟩,λc o f l m2 m=>by rw[aF (aD f h.ful)];exact h.fr c o f l m2 m⟩
def BdH.rem(h:BdH H d b ra bk ul H' rs as sh us)(m:(us.map (·.n)).Nodup){j:Nat}{u:Un}(f:us[j]?=some u){Q:VK}(q:Q .non (aK H' ul (.lst (((us.map (·.e)).eraseIdx j).map V.ref)))):iQ (.ref ul) [.ref u.e] H' Q:=by
 have l:=dB f;refine⟨us.map (·.e),j,h.und,by rw[fB,f];rfl,h.nde,λc n o=>?_,q⟩;obtain⟨v,k,rfl⟩:=Zmm.mp n;obtain⟨i,p,r⟩:=getElem_of_mem k;have g:us[i]?=some v:=by rw[cD p,r]
 have s:i≠j:=λz=>o (by rw[z]at g;rw[f]at g;cases g;rfl)
 refine⟨(v.n:Int),(u.n:Int),[.ref v.t,.bl v.q],[.ref u.t,.bl u.q],(h.ent v k).1,(h.ent u l).1,?_,rfl,λi B C a e=>?_⟩
 ·have:=Gp m g f s;omega
 ·match i,a,e with
  | 0,a,e=>
   cases a;cases e;exact .inr ⟨v.t,u.t,_,_,rfl,rfl,(h.ent v k).2,(h.ent u l).2,λj x y t A=>⟨yY v.x x (dB t),yY u.x y (dB A)⟩⟩
  | 1,a,e=>cases a;cases e;exact .inl ⟨rfl,rfl⟩
  | i+2,a,e=>cases a
end
def Mi(a:List Nat):(nI a).all cI=true:=by unfold nI;rw[all_eq_true];intro v b;obtain⟨n,_,rfl⟩:=Zmm.mp b;rfl
theorem Gq(n:Nat):∀b:List Nat,kK (.int (n:Int)) (nI b)=decide (n∈b)
 | []=>rfl
 | a::r=>by
  have c:kK (.int (n:Int)) (nI (a::r))=(nF (.int (a:Int)) (.int (n:Int))||kK (.int (n:Int)) (nI r)):=rfl;have e:nF (.int (a:Int)) (.int (n:Int))=decide (a=n):=by
   show((a:Int)==(n:Int))=_;by_cases h:a=n
   ·subst h;simp
   ·rw[ZT h];exact beq_eq_false_iff_ne.mpr Zo
  rw[c,e,Gq n r];by_cases h:a=n
  ·subst h;simp
  ·have d:n≠a:=λz=>h z.symm
   simp[h,d]
def Cc(a:List Nat)(m:Nat):Nat:=(a.filter λx=>decide (m<=x)).length
def lH(a:Nat)(r:List Nat)(m:Nat):Cc (a::r) m=Cc r m+(if m<=a then 1 else 0):=by
 unfold Cc;rw[filter_cons];by_cases h:m<=a
 ·rw[ZO (ZU h),ZO h];rfl
 ·rw[ZN (by simpa using h),ZN h];rfl
def Su(m:Nat):∀a,Cc a m<=a.length:=λa=>length_filter_le _ _
theorem uV(m:Nat):∀b,Cc b (m+1)<=Cc b m
 | []=>bQ _
 | a::r=>by
  have:=uV m r;rw[lH,lH];split<;>split<;>omega
def Gr{m:Nat}:∀ {b:List Nat},m∈b->Cc b (m+1)<Cc b m
 | a::r,h=>by
  rw[lH,lH];have d:=uV m r;by_cases e:a=m
  ·subst e;rw[ZN Zo,ZO (bQ _)];omega
  ·have c:m∈r:=by
    rcases mem_cons.mp h with z|z
    ·exact ZM z.symm e
    ·exact z
   have:=Gr c;split<;>split<;>omega
def BdH.men{H f:Hp}{d b g bk j i:ZR}{k:List RX}{l:List ZR}{m:List Nat}{us:List Un}{M:List ZR}(h:BdH H d b g bk j f k l m us)(n:MenusAt H i M)(p:d∉M)(q:b∉M)(r:g∉M):MenusAt f i M:=
 n.keep λc a o e=>h.fr c o e (λz=>p (z▸a)) (λz=>q (z▸a)) (λz=>r (z▸a))
def Gs(y:An):kK (.str (Sq y)) [.str "short",.str "full"]=y.early:=by cases y<;>rfl
def Mj{x:Dd}{q:Bool}{z:Str}(h:z∈vJ x q):z∈iV x:=by
 cases a:x.far with
 | false=>rw[uS x a]at h;exact h
 | true=>rw[sO x a]at h;exact(mem_filter.mp h).1
def Bp{x:Dd}{q:Bool}{y:An}(h:Sq y∈vJ x q)(a:x.far=true):q=true↔y.early=false:=by
 rw[sO x a]at h;have:=(mem_filter.mp h).2;rw[Gs]at this;revert this;cases q<;>cases y.early<;>decide
def tB(i:Nat):Nat:=500000000000+1000000000*i
def zA(i:Nat):tB (i+1)=tB i+1000000000:=by unfold tB;rw[Nat.mul_succ,Nat.add_assoc]
def Nz{i:Nat}(h:i<=30):tB i<=600000000000:=hZ (Nat.add_le_add_left (Nat.mul_le_mul_left _ h) _) (ZL rfl)
def Sv(H:Hp)(e:ZR)(x:Dd):Prop:=∃(a b f g:ZR)(c d:List Str),H e=some (.lst [.ref a,.ref b,.ref f,.ref g])/\H a=some (.lst (c.map V.str))/\H b=some (.lst (d.map V.str))/\Xx c d x
def CIn(H:Hp)(a:ZR)(b:List RX):Prop:=∀n t p k x,.came n t p k x∈b->Sv H a x
def CIn.snoc{H:Hp}{a:ZR}{b:List RX}{r:RX}(h:CIn H a b)(c:∀n t p k x,r=.came n t p k x->Sv H a x):CIn H a (b++[r]):=λn t p k x hm=>by
 rcases aG hm with hm|hm
 ·exact h n t p k x hm
 ·exact c n t p k x hm.symm
def Sw(H:Hp)(d b f g bk h:ZR)(j:List Nat)(k i:Nat)(l:St)(m:Hp):Prop:=∃(a:List RX)(n:List ZR)(e:List Un)(c turn:Nat)(o p q r s t:Option V),l=[some (.ref d),some (.ref f),some (.ref g),some (.int (k:Int)),some (.ref bk),some (.ref h),some (.int (c:Int)),some (.int (turn:Int)),o,p,q,r,s,t]/\BdH H d b f bk h m a n j e/\BdP a j c turn e/\a.length<=i/\c<=900006+22*i/\turn<=tB i/\e.length<=i/\CIn H g a
def Ml(T:Txt K mg)(a7:aI P w K mg base 1 "_law_draw" ZC cB)(Y2:aI P w K mg base 3 "_law_deed" U6 sN)(Y3:aI P w K mg base 2 "_law_spot" W6 sP){fa:ZR}{cdv:ZQ}{A:Around}{outer:List Env}{s:ZP}{H0:Hp}{E:XK}(B:Room 3 (A.deeper (PyProof.Rows.envOfC "_law_body" (aB bN) s.heap.objs.size fa cdv))) :
  ∃t,XB (iJ nN P w K mg base QZY "_law_body" (aB bN) fa cdv A outer s H0 E).nox (stT (Lm (stB (Lm (aY bN) 4)) 2)) t ∧
  ∀(D:lQ)(H H9:Hp)(d b f h bk j:ZR)(M:List ZR)(g:List Nat)(v i y num turn turn':Nat)(x:List RX)(C:List ZR)(us:List Un)(F G I J:Option V),MenusAt H h M->d∉M->b∉M->f∉M->i<30->g.length<=13->BdH H d b f bk j H9 x C g us->BdP x g num turn' us->x.length<=i->num<=900006+22*i->turn<=tB i->us.length<=i->CIn H h x->turn<=turn'->turn'<=turn+1000000000->(∀ l n,Sw H d b f h bk j g v (i+1) l n->D.nx l n) →
   t D [some (.ref d),some (.ref f),some (.ref h),some (.int (v:Int)),some (.ref bk),some (.ref j),some (.int (num:Int)),some (.int (turn':Int)),some (.int (i:Int)),some (.int (y:Int)),F,G,I,J] H9:=by
 have hu:=B.units0;have z9:=B.units;refine⟨_,(ko (ms (i:=6) bB.nd (lf sn (lf sn (kl 6) kt) (ou (tm (K:=K)) (re (kj kt (kj kt (kj (lv a7 B rfl (kj (kl 0) (kj kt km))) km)))) (lv a7 B rfl (kj (kl 0) (kj kt km)))))) (ko (R.fq PassesOwn.never (nw (U3 (K:=K)) (kl 6) (kl 4)) (kz (ms (i:=6) bB.nd (lf sn (kl 6) kt)))) (ko (ms (i:=10) bB.nd (lv Y2 B rfl (kj (kl 0) (kj (o0 K 2) (kj (o0 K 2) km))))) (ko (u8 (J6 (K:=K) PySem.F.plainAttrs_list PySem.F.slot_list_append PySem.F.type_list_append U4 (kl 1) (kj (lf R.jl (lf R.jl (mo (kj ku (kj (kl 6) (kj (kl 7) km)))) (lv Y3 B rfl (kj (kl 0) (kj (kl 2) km)))) (mo (kj (kl 10) km))) km))) (kz (u8 (J6 (K:=K) PySem.F.plainAttrs_list PySem.F.slot_list_append PySem.F.type_list_append U4 (kl 5) (kj (re (kj (kl 6) (kj (kl 10) (kj TD km)))) km)))))))),?_⟩;intro D H H9 d b f h bk j M g v i y num turn turn' x C us F G I J hM W X oR hi GP L9 P8 l1 l2 l3 l5 me t1 t2 CC;have b3:turn'<=tB (i+1):=by have:=zA i;omega
 have b4:turn'<=1000000000000:=by have:=Nz (i:=i) Zo;omega
 refine aQ (λl n=>∃(m:Nat),l=[some (.ref d),some (.ref f),some (.ref h),some (.int (v:Int)),some (.ref bk),some (.ref j),some (.int (m:Int)),some (.int (turn':Int)),some (.int (i:Int)),some (.int (y:Int)),F,G,I,J]/\num<m/\m<=num+9/\BdH H d b f bk j n x C g us) (λvc S=>?_) ?_
 ·refine⟨d,b,9,rfl,L9.dk,Zd,Zd,λr8 H8 x0 x1 D8 k8=>⟨fH rfl,λa6 hp=>⟨d,b,3,rfl,D8.new hp,Zd,Zd,λr9 Ha y0 y1 D9 k9=>?_⟩⟩⟩;obtain⟨r8,rfl⟩:=hU x0;have qf:=D8.ne hp;have gp:=k9 a6 _ aA qf.1 qf.2;have u:=L9.fw ((((Fw.refl L9.dk).draw D8 k8).new hp).draw D9 k9);rcases(by omega:r9=0∨r9=1∨r9=2) with rfl|rfl|rfl
  ·exact⟨_,QZx gp,_,rfl,S _ _ ⟨num+1,rfl,Zo,Zo,u⟩⟩
  ·exact⟨_,QZx gp,_,rfl,S _ _ ⟨num+1,rfl,Zo,Zo,u⟩⟩
  ·exact⟨_,QZx gp,_,rfl,S _ _ ⟨num+1+r8,rfl,Zo,Zo,u⟩⟩
 rintro l Hz ⟨m0,rfl,z1,z2,Lz⟩;refine aQ (λl n=>∃(m:Nat),l=[some (.ref d),some (.ref f),some (.ref h),some (.int (v:Int)),some (.ref bk),some (.ref j),some (.int (m:Int)),some (.int (turn':Int)),some (.int (i:Int)),some (.int (y:Int)),F,G,I,J]/\num<m/\m<=num+22/\m∉g/\BdH H d b f bk j n x C g us) (λvc S=>?_) ?_
 ·refine⟨λk l n=>∃(m:Nat),l=[some (.ref d),some (.ref f),some (.ref h),some (.int (v:Int)),some (.ref bk),some (.ref j),some (.int (m:Int)),some (.int (turn':Int)),some (.int (i:Int)),some (.int (y:Int)),F,G,I,J]/\k=Cc g m/\num<m/\m+Cc g m<=num+22/\n=Hz,⟨Cc g m0,m0,rfl,rfl,z1,by have:=Su m0 g;omega,rfl⟩,?_⟩;rintro k l n ⟨m,rfl,rfl,q1,q2,rfl⟩;refine⟨bk,_,rfl,.inl (QZx Lz.book),rfl,Mi _,?_⟩;show if kK (.int (m:Int)) (nI g)=true then _ else _
  rw[Gq];refine cP (λa4=>?_) (λa4=>S _ _ ⟨m,rfl,q1,Zo,ZV a4,Lz⟩);have B2:=Gr (ZW a4);refine⟨λσ'' G9=>σ''=[some (.ref d),some (.ref f),some (.ref h),some (.int (v:Int)),some (.ref bk),some (.ref j),some (.int ((m+1:Nat):Int)),some (.int (turn':Int)),some (.int (i:Int)),some (.int (y:Int)),F,G,I,J]/\G9=n,λσ'' G9 ⟨Y,Z⟩=>⟨Cc g (m+1),B2,m+1,Y,rfl,Zo,Zo,Z⟩,?_⟩;exact⟨rfl,rfl⟩
 rintro l Ha ⟨m,rfl,m1,m2,RH,u⟩;have YE:=u.men hM W X oR;obtain⟨L,N,a2,a3,ws,IC,ps,ks,eM,e0,Y,Z,_,_,mw,mu,_⟩:=hM.ex;have O:∀c∈M,c≠d/\c≠b:=λc Q=>⟨(λz=>W (z▸Q)),(λz=>X (z▸Q))⟩
 have ke:∀c∈M,∀o,H c=some o->Ha c=some o:=λc Q o e=>u.fr c o e (O c Q).1 (O c Q).2 (λz=>oR (z▸Q))
 have i0:L∈M:=by rw[eM];simp
 have i1:N∈M:=by rw[eM];simp
 have h0:=ke h (by rw[eM];simp) _ e0;have h1:=ke L i0 _ Y;have h2:=ke N i1 _ Z;refine⟨_,QZx h0,_,rfl,_,QZx h0,_,rfl,d,b,L,N,ws,IC,rfl,u.dk,h1,h2,⟨(O L i0).1,(O L i0).2,(O N i1).1,(O N i1).2⟩,mw,mu,λU x' Hc AD RI MU fc=>?_⟩;have vd:Sv H h x':=⟨L,N,a2,a3,ws,IC,e0,Y,Z,RI⟩;have Lc:=u.fw fc;refine⟨.inl ⟨rfl,_,QZx Lc.rows.lst⟩,aS rfl,λq1 Hd sd gd=>?_⟩;have Ld:=Lc.fw ((Fw.refl Lc.dk).same sd);refine⟨d,b,h,M,rfl,Ld.dk,Ld.men hM W X oR,W,X,λq2 pp kk He RJ J8 ge fe=>?_⟩;refine⟨_,_,fe.tup gd,ge,ZL rfl,λq3 Hf sf gf=>⟨aS rfl,λq4 Hg sg gg=>⟨_,_,sg _ _ gf,gg,ZL rfl,λq5 Hh RK gh=>?_⟩⟩⟩;have Fh:=(((fe.same sf).same sg).same RK);have Lh:=Ld.fw Fh;have lr:=Lh.rows.len;refine⟨f,_,_,rfl,rfl,Lh.rows.lst,by rw[bF];exact jQ (m:=1000) Zo Zd,?_⟩;have p:=Lh.row (r:=.came m turn' pp kk x') (a:=q5) ⟨U,gh,Fh.tup (sd _ _ MU)⟩;have MV:(aK Hh f (.lst (C.map V.ref++[.ref q5]))) U=some (.tup x'.vs):=lZ Lh.rows.lst _ _ (Fh.tup (sd _ _ MU));generalize aK Hh f (.lst (C.map V.ref++[.ref q5]))=Hi at p MV;refine⟨.inl ⟨rfl,_,QZx p.und⟩,fH rfl,λe q=>?_⟩;have Lj:=p.fw ((Fw.refl p.dk).new (o:=.lst [.int (m:Int),.ref U,.bl false]) q);have ID:Go (aK Hi e (.lst [.int (m:Int),.ref U,.bl false])) e m U x' false:=⟨aA,bH MV q⟩;have RL:e≠j:=(aD p.und q).symm;have RM:e≠bk:=(aD p.book q).symm;have RN:∀a5∈us,a5.e≠e:=λa5 hu=>aD (p.ent a5 hu).1 q
 have RO:H e=none:=by
  cases hh:H e with
  | none=>rfl
  | some o=>
   have MW:=p.dk.ne q;have:e≠f:=(aD p.rows.lst q).symm;rw[p.fr e o hh MW.1 MW.2 this]at q;cases q
 refine⟨j,_,_,rfl,rfl,Lj.und,by rw[bF,bF];exact jQ (m:=1000) Zo Zd,?_⟩;exact CC _ _ ⟨_,_,_,m,turn',_,_,_,_,_,_,rfl,Lj.push ID RO RL RM RN,P8.came m1 RH Zo b4 RJ J8 AD,by simp;omega,Zo,b3,by simp;omega,me.snoc λ_ _ _ _ _ e=>by cases e;exact vd⟩
def Mm(T:Txt K mg)(a7:aI P w K mg base 1 "_law_draw" ZC cB)(S6:aI P w K mg base 1 "_law_words" U5 pA)(K9:aI P w K mg base 3 "_law_answer" QZZ xD){fa:ZR}{cdv:ZQ}{A:Around}{outer:List Env}{s:ZP}{H0:Hp}{E:XK}(y:Room 3 (A.deeper (PyProof.Rows.envOfC "_law_body" (aB bN) s.heap.objs.size fa cdv))) :
  ∃t,XB (iJ nN P w K mg base QZY "_law_body" (aB bN) fa cdv A outer s H0 E).nox (stE (Lm (stB (Lm (aY bN) 4)) 2)) t ∧
  ∀(D:lQ)(H U:Hp)(d b c B bk o:ZR)(M:List ZR)(p:List Nat)(S i way num turn turn':Nat)(h:List RX)(q:List ZR)(us:List Un)(w4 y9 B6 S0:Option V),MenusAt H B M->d∉M->b∉M->c∉M->i<30->p.length<=13->BdH H d b c bk o U h q p us->BdP h p num turn' us->h.length<=i->num<=900006+22*i->turn<=tB i->us.length<=i->CIn H B h->turn<=turn'->turn'<=turn+1000000000->us≠[]->(∀ σ' l,Sw H d b c B bk o p S (i+1) σ' l->D.nx σ' l) →
   t D [some (.ref d),some (.ref c),some (.ref B),some (.int (S:Int)),some (.ref bk),some (.ref o),some (.int (num:Int)),some (.int (turn':Int)),some (.int (i:Int)),some (.int (way:Int)),w4,y9,B6,S0] U:=by
 have hu:=y.units0;have z9:=y.units;refine⟨_,(ko (ms (i:=11) bB.nd (ou (tm (K:=K)) (kl 5) (lv a7 y rfl (kj (kl 0) (kj (ut (IN (K:=K)) rfl T.b_len cE (kj (kl 5) km)) km))))) (ko (ms (i:=12) bB.nd (lv S6 y rfl (kj (o0 K 11) (kj (o0 K 11) km)))) (kz (oq (xz (T0 (nw pi (kl 9) kt) (T0 (FM (wn (o0 K 11))) (R.dl (nw (U3 (K:=K)) (ou (v0 (K:=K)) (o0 K 11) kt) (mo (kj ku (kj ku (kj ku km))))))))) (ko (u8 (J6 (K:=K) PySem.F.plainAttrs_list PySem.F.slot_list_append PySem.F.type_list_append U4 (kl 1) (kj (mo (kj ku (kj (o0 K 11) km))) km))) (kz (ww TD (AC (kl 11) kt R.ic)))) (kz (oq (nw (R.jh (K:=K) hu) (kl 12) (re km)) (ko (ms (i:=13) bB.nd (lv K9 y rfl (kj (kl 0) (kj (o0 K 11) (kj (ou (tm (K:=K)) (kl 12) (lv a7 y rfl (kj (kl 0) (kj (ut (IN (K:=K)) rfl T.b_len cE (kj (kl 12) km)) km)))) km))))) (ko (u8 (J6 (K:=K) PySem.F.plainAttrs_list PySem.F.slot_list_append PySem.F.type_list_append U4 (kl 1) (kj (mo (kj ku (kj (o0 K 11) (kj (kl 7) (kj (kl 13) km))))) km))) (kz (u8 (J6 (K:=K) PySem.F.plainAttrs_list PySem.F.slot_list_remove PySem.F.type_list_remove (R.ip z9) (kl 5) (kj (kl 11) km)))))) ot)))))),?_⟩;intro D H U d b c B bk o M p S i way num turn turn' h q us w4 y9 B6 S0 hM oD oB oR hi GP J C l1 l2 l3 l5 W t1 t2 i9 X;have Y:turn'<=tB (i+1):=by have:=zA i;omega
 have b4:turn'<=1000000000000:=by have:=Nz (i:=i) Zo;omega
 have RP:0<us.length:=by cases us with|nil=>exact ZM rfl i9|cons _ _=>exact Nat.succ_pos _
 refine⟨_,.inl (QZx J.und),d,b,(us.length:Int),by rw[bF,bF],J.dk,Zo,Zo,λr Ha Z r1 Da ka=>?_⟩;have n:=J.fw ((Fw.refl J.dk).draw Da ka);obtain⟨j,rfl⟩:=hU Z;have hj:j<us.length:=by omega
 obtain⟨u,z⟩:∃u,us[j]?=some u:=⟨us[j],cD hj⟩;have f:=dB z;obtain⟨g1,⟨tc,pc,kc,g2⟩,g3,g4,g5⟩:=C.und u f;refine⟨_,QZx n.und,.ref u.e,cV (by rw[fB,fB,z];rfl),?_⟩;refine⟨_,QZx (n.ent u f).1,_,rfl,_,QZx (n.ent u f).1,_,rfl,u.t,u.x,u.q,rfl,(n.ent u f).2,λL Hb AJ AK sb=>?_⟩;have AL:=n.dk.ne AJ;have YF:L≠c:=(aD n.rows.lst AJ).symm;have F:=n.fw ((Fw.refl n.dk).same sb);dsimp only [aL];refine oW (λa0 l=>BdH H d b c bk o l h q p us/\l L=some (.lst ((vJ u.x u.q).map V.str))/\(a0=true->u.q=false/\u.x.far=true)) (λk G=>?_) ?_ ?_
 ·have en:=(F.ent u f);refine cP (λ_=>?_) (λ_=>G _ _ ⟨F,AK,nofun⟩);refine⟨_,QZx en.1,_,rfl,?_⟩;show if (!u.q)=true then _ else _
  refine cP (λhq=>?_) (λ_=>G _ _ ⟨F,AK,nofun⟩);refine⟨_,QZx en.1,_,rfl,_,QZy en.2,_,Gi u.x,aS rfl,λtq Hc sc gc=>⟨tq,_,rfl,.inr (QZy gc),rfl,rfl,?_⟩⟩;refine G _ _ ⟨F.fw ((Fw.refl F.dk).same sc),sc _ _ AK,λa1=>⟨by simpa using hq,?_⟩⟩;rw[<- Mf];exact a1
 ·rintro Hc ⟨v,IE,hc⟩;obtain⟨hq,hf⟩:=hc rfl;refine⟨.inl ⟨rfl,_,QZx v.rows.lst⟩,_,QZx (v.ent u f).1,_,rfl,aS rfl,λI Hd sd gd=>?_⟩;have g:=v.fw ((Fw.refl v.dk).same sd);have lr:=g.rows.len;refine⟨c,_,_,rfl,rfl,g.rows.lst,by rw[bF];exact jQ (m:=1000) Zo Zd,?_⟩;have x:=g.row (r:=.asked u.n) (a:=I) gd;generalize aK Hd c (.lst (q.map V.ref++[.ref I]))=He at x;refine⟨u.e,_,2,2,rfl,rfl,(x.ent u f).1,rfl,?_⟩;exact X _ _ ⟨_,_,_,num,turn',_,_,_,_,_,_,rfl,x.mark z,C.mark z hq hf,by simp;omega,Zo,Y,by rw[length_set];omega,W.snoc λ_ _ _ _ _ e=>nomatch e⟩
 ·rintro Hc ⟨v,IE,hc⟩;refine oW (λa0 l=>BdH H d b c bk o l h q p us/\l L=some (.lst ((vJ u.x u.q).map V.str))/\(a0=true->vJ u.x u.q≠[])) (λk G=>?_) ?_ ?_
  ·refine⟨fH rfl,λa2 hp=>⟨L,a2,_,rfl,rfl,QZx (bH IE hp),QZx aA,?_⟩⟩;refine G _ _ ⟨v.fw ((Fw.refl v.dk).new hp),bH IE hp,λe a1=>?_⟩;rw[a1]at e;cases e
  ·rintro Hd ⟨g,MX,hw⟩;have IF:=hw rfl;have YG:0<(vJ u.x u.q).length:=List.length_pos_iff.mpr IF;have YH:(vJ u.x u.q).length<=9:=by cases u.x<;>cases u.q<;>exact ZL rfl
   refine⟨_,QZx (g.ent u f).1,_,rfl,_,.inl (QZx MX),d,b,((vJ u.x u.q).length:Int),by rw[bF],g.dk,Zo,Zo,λr He Z r1 De ke=>?_⟩;obtain⟨N,rfl⟩:=hU Z;have Fe:=(Fw.refl g.dk).draw De ke;have x:=g.fw Fe;have MY:N<(vJ u.x u.q).length:=by omega
   have J9:(vJ u.x u.q)[N]∈vJ u.x u.q:=getElem_mem MY;refine⟨_,QZx (Fe.get MX AL.1 AL.2),.str (vJ u.x u.q)[N],cV (by rw[fB,cD MY];rfl),d,b,u.t,u.x,(vJ u.x u.q)[N],rfl,x.dk,(x.ent u f).2,g1,Mj J9,λcc a3 Hf yh RQ RS ff=>?_⟩;have O:=x.fw ff;rw[<- RQ]at J9;refine⟨.inl ⟨rfl,_,QZx O.rows.lst⟩,_,QZx (O.ent u f).1,_,rfl,aS rfl,λI Hg sg gg=>?_⟩;have Lg:=O.fw ((Fw.refl O.dk).same sg);have lr:=Lg.rows.len;have RT:=sg _ _ RS;refine⟨c,_,_,rfl,rfl,Lg.rows.lst,by rw[bF];exact jQ (m:=1000) Zo Zd,?_⟩;have Q:=Lg.row (r:=.done u.n turn' a3) (a:=I) ⟨cc,gg,RT⟩;generalize aK Hg c (.lst (q.map V.ref++[.ref I]))=Hh at Q;refine⟨.inl ⟨rfl,_,QZx Q.und⟩,?_⟩;dsimp only [fF,jR,vr];show iQ (.ref o) [.ref u.e] Hh _;refine Q.rem C.nd z ?_;exact X _ _ ⟨_,_,_,num,turn',_,_,_,_,_,_,rfl,Q.drop j,C.done z b4 yh (Bp J9),by simp;omega,Zo,Y,by have:=List.length_eraseIdx_le us j;omega,W.snoc λ_ _ _ _ _ e=>nomatch e⟩
  ·rintro Hd ⟨g,_,_⟩;exact X _ _ ⟨h,q,us,num,turn',_,_,_,_,_,_,rfl,g,C,Zo,Zo,Y,Zo,W⟩
def zB:Sp:=λvs H Q _=>∃(d b a g:ZR)(M:List ZR)(i:List RX)(j:List ZR)(h:Nat),vs=[.ref d,.ref a,.ref g,.int (h:Int)]/\Dk H d b/\RxsAt H a i j/\Gm i/\MenusAt H g M/\d∉M/\b∉M/\a∉M/\a≠d/\a≠b/\h<=30 ∧
 ∀(e:List RX)(k:List ZR)(f:Hp),RxsAt f a e k->RX.Whole e->(∀r∈e,r.Ok)->e.length<=30->CIn H g e->Dk f d b->(∀c o,H c=some o->c≠d->c≠b->c≠a->f c=some o)->Q (.ref a) f
def Mn(T:Txt K mg)(X:aI P w K mg base 1 "_law_draw" ZC cB)(Y2:aI P w K mg base 3 "_law_deed" U6 sN)(Y3:aI P w K mg base 2 "_law_spot" W6 sP)(S6:aI P w K mg base 1 "_law_words" U5 pA)(K9:aI P w K mg base 3 "_law_answer" QZZ xD)(D:DefAt K mg "_law_body" bN QZQ):aI P w K mg base 4 "_law_body" QZQ zB:=by
 refine D.gg bB (λa4 cdv b3 outer b4 H vs b5 E B h=>?_)
 ·obtain⟨d,b,g,C,a5,Y,EZ,r,rfl,dk,F,FC,hM,oD,oB,oR,yi,yj,MZ,a6⟩:=h;have hu:=B.units0;have z9:=B.units;have l0:=FC.len;have NA:=F.len;obtain⟨YI,h1,p1⟩:=Ml (P:=P) (w:=w) (base:=base) T X Y2 Y3 (fa:=a4) (outer:=outer) (H0:=H) (E:=E) B;obtain⟨YJ,h2,p2⟩:=Mm (P:=P) (w:=w) (base:=base) T X S6 K9 (fa:=a4) (outer:=outer) (H0:=H) (E:=E) B;refine⟨_,(ko (R.ig (i:=4) bB.nd rfl (Or.inl rfl) rfl (js:=[none]) (N:=["_law_row"]) (CompScope.by (aB bN) QZY rfl rfl Zk) (bM rfl) (wr (K:=K) (kl 1)) (λa8 s₂ H₂ fp=>⟨(oy (i:=0) (show(["_law_row"]:List Str).Nodup by decide +kernel)),(R.dy (nw pi (li K 0) ku)),(li K 0)⟩) rfl) (ko (ms (i:=5) bB.nd (re km)) (ko (ms (i:=6) bB.nd (lv X B rfl (kj (kl 0) (kj (ou (tm (K:=K)) (re (kj kt (kj kt km))) (lv X B rfl (kj (kl 0) (kj kt km)))) km)))) (ko (ms (i:=7) bB.nd (ut (R.iq (K:=K) rfl) rfl T.b_max Rh (kj (lf R.gk (O2 rfl (js:=[none]) (N:=["_law_row"]) (CompScope.by (aB bN) QZY rfl rfl Zk) (bM rfl) (wr (K:=K) (kl 1)) (λa8 s₂ H₂ fp=>⟨(oy (i:=0) (show(["_law_row"]:List Str).Nodup by decide +kernel)),(R.dy (nw pi (li K 0) ku)),(li K 0)⟩)) (re (kj kt km))) km))) (ko (FS PassesOwn.never rfl (R.dm rfl T.b_range (kj (kl 3) km)) (oy (i:=8) bB.nd) (ko (ms (i:=9) bB.nd (lv X B rfl (kj (kl 0) (kj kt km)))) (ko (ms (i:=7) bB.nd (lf sn (kl 7) (ou (tm (K:=K)) (re (kj kt (kj kt (kj kt (kj (lv X B rfl (kj (kl 0) (kj (lf TW kt kt) km))) km))))) (lv X B rfl (kj (kl 0) (kj kt km)))))) (kz (oq (xz (T8 (nw R.lt (kl 9) kt) (T9 (nw (R.jm (K:=K) hu) (kl 5) (re km)))))
   h1
   h2))))) (kz (om (kl 1)))))))),?_⟩
  refine aQ (λf a=>∃(bk:ZR)(s:List Nat),f=[some (.ref d),some (.ref g),some (.ref C),some (.int (r:Int)),some (.ref bk),none,none,none,none,none,none,none,none,none]/\H bk=none/\a bk=some (.lst (nI s))/\s.length<=13/\(∀n t p k x a3,.kept n t p k x a3∈Y->n∈s)/\Same H a) (λnx M=>?_) ?_
  ·refine⟨g,rfl,⟨_,QZx F.lst⟩,?_⟩;refine bO (bI K g (EZ.map V.ref)) (by rw[bF];omega) (λi G a=>a=H/\∃c:List Nat,G=nI c/\c.length<=i/\∀n t p k x a3,.kept n t p k x a3∈Y.take i->n∈c) (λi G a ⟨y,c,e,I,_⟩=>⟨by rw[y];exact QZx F.lst,by rw[e];unfold nI;rw[bF];exact I⟩) ⟨rfl,[],rfl,bQ _,(λ_ _ _ _ _ _ h=>nomatch h)⟩ (?_) (?_)
   ·rintro i x G a hx ⟨y,c,e,I,m⟩;subst y;obtain⟨b1,a0,rfl,ha,pk,wx⟩:=F.get hx;obtain⟨xs,a2,J,x1,x2⟩:=uU wx;have wy:=bJ pk;refine⟨_,QZy a2,_,J,?_⟩;show if decide (gJ a0="kept")=true then _ else _
    refine cP (λh=>?_) (λh=>?_)
    ·obtain⟨n,t,p,k,x,a3,rfl⟩:=Mh (ZW h);refine⟨_,QZy a2,_,x1,rfl,c++[n],by rw[e];unfold nI;rw[gO];rfl,by simp;omega,λn' t' p' k' x' y' hm=>?_⟩;rw[wy]at hm;rcases aG hm with hm|hm
     ·exact ZK _ (m _ _ _ _ _ _ hm)
     ·cases hm;exact ZJ _ fP
    ·refine⟨rfl,c,e,Zo,λn' t' p' k' x' y' hm=>?_⟩;rw[wy]at hm;rcases aG hm with hm|hm
     ·exact m _ _ _ _ _ _ hm
     ·subst hm;exact ZM rfl (ZV h)
   ·rintro G a ⟨y,c,e,I,m⟩;subst y;intro p l;rw[bF]at I m;rw[<- NA,nT (bQ _)]at m;exact M _ _ ⟨p,c,rfl,l,by rw[aA,e],Zo,m,aH l⟩
  rintro f H1 ⟨bk,s,rfl,fbk,CF,NB,Y4,s1⟩;have f1:=(Fw.refl dk).same s1;refine⟨fH rfl,λj FD=>?_⟩;have ful:=s1.free FD;have nbu:bk≠j:=aD CF FD;have f2:=f1.new (o:=.lst []) FD;have NC:(aK H1 j (.lst [])) j=some (.lst []):=aA;replace CF:=bH (u:=.lst []) CF FD;dsimp only [aL];generalize aK H1 j (.lst [])=H2 at f2 NC CF;refine aQ (λf a=>∃(num:Nat),f=[some (.ref d),some (.ref g),some (.ref C),some (.int (r:Int)),some (.ref bk),some (.ref j),some (.int (num:Int)),none,none,none,none,none,none,none]/\num<=900006/\Fw d b H2 a) (λnx M=>?_) ?_
  ·refine⟨fH rfl,λp l=>⟨d,b,2,rfl,f2.dk.new l,Zd,Zd,λa0 H3 r0 r1 D3 k3=>?_⟩⟩;have pd:=f2.dk.ne l;have F3:=((Fw.refl f2.dk).new (o:=.lst [.int 4,.int 900000]) l).draw D3 k3;have Z:=k3 p _ aA pd.1 pd.2;rcases(by omega:a0=0∨a0=1) with rfl|rfl
   ·refine⟨_,QZx Z,_,rfl,d,b,4,rfl,F3.dk,Zd,Zd,λr4 H4 J x1 D4 k4=>?_⟩;obtain⟨n,rfl⟩:=hU J;exact M _ _ ⟨n,rfl,Zo,F3.draw D4 k4⟩
   ·refine⟨_,QZx Z,_,rfl,d,b,900000,rfl,F3.dk,Zd,Zd,λr4 H4 J x1 D4 k4=>?_⟩;obtain⟨n,rfl⟩:=hU J;exact M _ _ ⟨n,rfl,Zo,F3.draw D4 k4⟩
  rintro f H4 ⟨num,rfl,RV,F4⟩;have f4:=f2.trans F4;have R4:=F.keep f4.tk (f4.get F.lst yi yj);refine aQ (λf a=>∃(turn:Nat),f=[some (.ref d),some (.ref g),some (.ref C),some (.int (r:Int)),some (.ref bk),some (.ref j),some (.int (num:Int)),some (.int (turn:Int)),none,none,none,none,none,none]/\turn<500000000000/\(∀n t,.next n t∈Y->t<=turn)/\Fw d b H2 a) (λnx M=>?_) ?_
  ·refine⟨g,rfl,⟨_,QZx R4.lst⟩,?_⟩;refine bO (bI K g (EZ.map V.ref)) (by rw[bF];omega) (λi G a=>a=H4/\∃c:List Nat,G=c.map (λn:Nat=>V.int (n:Int))/\c.length<=i/\(∀n∈c,n<500000000000)/\∀n t,.next n t∈Y.take i->t∈c) (λi G a ⟨y,c,e,I,_⟩=>⟨by rw[y];exact QZx R4.lst,by rw[e,bF];exact I⟩) ⟨rfl,[],rfl,bQ _,(λ_ h=>nomatch h),(λ_ _ h=>nomatch h)⟩ (?_) (?_)
   ·rintro i x G a hx ⟨y,c,e,I,P0,m⟩;subst y;obtain⟨b1,a0,rfl,ha,pk,wx⟩:=R4.get hx;obtain⟨xs,a2,J,x1,x2⟩:=uU wx;have wy:=bJ pk;have RW:a0∈Y:=dB pk;refine⟨_,QZy a2,_,J,?_⟩;show if decide (gJ a0="next")=true then _ else _
    refine cP (λh=>?_) (λh=>?_)
    ·obtain⟨n,t,rfl⟩:=Mg (ZW h);refine⟨_,QZy a2,_,x2 nofun,rfl,c++[t],by rw[e,gO];rfl,by simp;omega,λa1 hm=>?_,λn' t' hm=>?_⟩
     ·rcases aG hm with hm|rfl
      ·exact P0 a1 hm
      ·exact(FC.nx _ _ RW).2
     ·rw[wy]at hm;rcases aG hm with hm|hm
      ·exact ZK _ (m _ _ hm)
      ·cases hm;exact ZJ _ fP
    ·refine⟨rfl,c,e,Zo,P0,λn' t' hm=>?_⟩;rw[wy]at hm;rcases aG hm with hm|hm
     ·exact m _ _ hm
     ·subst hm;exact ZM rfl (ZV h)
   ·rintro G a ⟨y,c,e,I,P0,m⟩;subst y;intro p l;rw[bF]at I m;rw[<- NA,nT (bQ _)]at m;refine⟨fH rfl,λp2 O8=>⟨_,_,bH aA O8,aA,by rw[e,bF];exact eO (by simp;omega),λp3 pj=>?_⟩⟩;refine⟨p3,(c.map (λn:Nat=>(n:Int)))++[0],rfl,QZx (by rw[aA,e,gO,map_map];rfl),Zs,λmx ER X8=>?_⟩;have nn:∃a1:Nat,mx=a1/\a1<500000000000:=by
     rcases Zma.mp ER with h|h
     ·obtain⟨n,hn,rfl⟩:=Zmm.mp h;exact⟨n,rfl,P0 n hn⟩
     ·rw[Zms.mp h];exact⟨0,rfl,Zo⟩
    obtain⟨a1,rfl,hm⟩:=nn;refine M _ _ ⟨a1,rfl,hm,λn t hh=>?_,((F4.new l).new O8).new pj⟩;have:=X8 (t:Int) (ZK _ (mem_map_of_mem (m _ _ hh)));omega
  rintro f H5 ⟨turn,rfl,ND,RY,F5⟩;have f5:=f2.trans F5;have R5:=F.keep f5.tk (f5.get F.lst yi yj);have ET:=dk.ne fbk;have NF:=dk.ne ful;have L5:BdH H d b g bk j H5 Y EZ s []:=⟨dk,⟨_,F.lst⟩,fbk,ful,(λ_ h=>nomatch h),⟨yi,yj⟩,nbu,(λ_ h=>nomatch h),nodup_nil,f5.dk,R5,F5.get CF ET.1 ET.2,F5.get NC NF.1 NF.2,(λ_ h=>nomatch h),λb6 o e n1 n2 _=>f5.get e n1 n2⟩;have P5:=BdP.start (num:=num) (turn:=turn) FC Y4 RY;have b0:turn<=tB 0:=by show turn<=500000000000+1000000000*0;rw[Nat.mul_zero];omega
  refine aQ (λf a=>∃(q:List RX)(A:List ZR)(z:List Un)(num turn:Nat)(o8 o9 O Q S U:Option V),f=[some (.ref d),some (.ref g),some (.ref C),some (.int (r:Int)),some (.ref bk),some (.ref j),some (.int (num:Int)),some (.int (turn:Int)),o8,o9,O,Q,S,U]/\BdH H d b g bk j a q A s z/\BdP q s num turn z/\q.length<=30/\CIn H C q) (λnx M=>?_) ?_
  ·refine⟨(r:Int),rfl,Zo,Zo,?_⟩;have em:(r:Int).toNat=r:=by omega
   refine cF (fE 0 (r:Int).toNat) (Sw H d b g C bk j s r) (λ_ _ _ _=>trivial)
    ⟨Y,EZ,[],num,turn,_,_,_,_,_,_,rfl,L5,P5,Zo,Zo,b0,bQ _,λn t p k x hm=>ZM (FC.rk _ hm) (by show ¬ (3<=2);decide)⟩ ?_ ?_
   ·rintro i x f H6 hx ⟨q,A,z,num,turn,o8,o9,O,Q,S,U,rfl,L,P6,l1,l2,l3,l5,me⟩;obtain⟨rfl,hi⟩:=oZ hx;rw[em]at hi;refine⟨d,b,4,rfl,L.dk,Zd,Zd,λway H7 w0 w1 D7 k7=>?_⟩;obtain⟨way,rfl⟩:=hU w0;have L7:=L.fw ((Fw.refl L.dk).draw D7 k7);dsimp only [aL];refine aQ (λf a=>∃(turn':Nat),f=[some (.ref d),some (.ref g),some (.ref C),some (.int (r:Int)),some (.ref bk),some (.ref j),some (.int (num:Int)),some (.int (turn':Int)),some (.int (i:Int)),some (.int (way:Int)),O,Q,S,U]/\turn<=turn'/\turn'<=turn+1000000000/\BdH H d b g bk j a q A s z) (λvc j0=>?_) ?_
    ·refine⟨⟨Zd,Zd,Zd⟩,d,b,1000000000,rfl,L7.dk,Zd,Zd,λr8 H8 J x1 D8 k8=>⟨fH rfl,λp l=>⟨d,b,4,rfl,D8.new l,Zd,Zd,λr9 H9 y0 y1 D9 k9=>?_⟩⟩⟩;obtain⟨r8,rfl⟩:=hU J;have qf:=D8.ne l;have Z:=k9 p _ aA qf.1 qf.2;have W:=L7.fw ((((Fw.refl L7.dk).draw D8 k8).new l).draw D9 k9);rcases Sl y0 y1 with rfl|rfl|rfl|rfl
     ·refine⟨_,QZx Z,_,rfl,j0 _ _ ⟨turn,?_,Zo,Zo,W⟩⟩;rw[show(turn:Int)=(turn:Int)+0 by omega];rfl
     ·refine⟨_,QZx Z,_,rfl,j0 _ _ ⟨turn,?_,Zo,Zo,W⟩⟩;rw[show(turn:Int)=(turn:Int)+0 by omega];rfl
     ·exact⟨_,QZx Z,_,rfl,j0 _ _ ⟨turn+1,rfl,Zo,Zo,W⟩⟩
     ·exact⟨_,QZx Z,_,rfl,j0 _ _ ⟨turn+r8,rfl,Zo,Zo,W⟩⟩
    ·rintro f H8 ⟨turn',rfl,t1,t2,L8⟩;have P8:=P6.turn' t1;refine oW (λv a=>BdH H d b g bk j a q A s z/\(v=false->z≠[])) (λk hk=>?_) ?_ ?_
     ·refine cP (λ_=>hk _ _ ⟨L8,nofun⟩) (λ_=>?_);refine⟨fH rfl,λp l=>⟨j,p,_,rfl,rfl,QZx (bH L8.und l),QZx aA,?_⟩⟩;refine hk _ _ ⟨L8.fw ((Fw.refl L8.dk).new l),λe b2=>?_⟩;subst b2;cases e
     ·rintro H9 ⟨W,hv⟩;exact p1 _ H H9 d b g C bk j a5 s r i way num turn turn' q A z O Q S U hM oD oB oR Zo NB W P8 l1 l2 l3 l5 me t1 t2 (λ_ _ h=>h)
     ·rintro H9 ⟨W,hv⟩;exact p2 _ H H9 d b g C bk j a5 s r i way num turn turn' q A z O Q S U hM oD oB oR Zo NB W P8 l1 l2 l3 l5 me t1 t2 (hv rfl) (λ_ _ h=>h)
   ·rintro f H6 ⟨q,A,z,num,turn,o8,o9,O,Q,S,U,rfl,L,P6,l1,l2,l3,l5,me⟩;rw[fA]at l1;exact M _ _ ⟨q,A,z,num,turn,o8,o9,O,Q,S,U,rfl,L,P6,Zo,me⟩
  rintro f H6 ⟨q,A,z,num,turn,o8,o9,O,Q,S,U,rfl,L,P6,l1,me⟩;exact a6 q A H6 L.rows P6.wh P6.ok l1 me L.dk L.fr
structure EN where
 key:Str
 ent:Addr
 dd:Option (ZR×List V)
 word:Str
def Im:Option (ZR×List V)->V
 | none=>.non
 | some q=>.ref q.1
def fM(en:List EN):List (aX×V):=en.map λz=>(Sum.inr z.key,V.ref z.ent)
def EAt(H:Hp)(en:List EN):Prop:=∀z∈en,H z.ent=some (.tup [Im z.dd,.str z.word])/\∀d a,z.dd=some (d,a)->H d=some (.tup a)
def EAt.keep{H a:Hp}{en:List EN}(h:EAt H en)(k:∀b xs,H b=some (.tup xs)->a b=some (.tup xs)):EAt a en:=λz c=>⟨k _ _ (h z c).1,λd xs e=>k _ _ ((h z c).2 d xs e)⟩
structure HAt(C:ZR)(H:Hp)(p:ZR)(a:HF)(am:List (Str×Int))(cl:Str->Bool)(en:List EN)(L:Nat):Prop where
 hp:H p=some (.ins C a.dx (Lk a))
 ha:H a.da=some (.dK (iP am))
 hc:∃kvs,H a.dc=some (.dK kvs)/\kvs.length<=L/\∀n:Str,(aT kvs (Sum.inr n)).isSome=cl n
 he:H a.de=some (.dK (fM en))
 ents:EAt H en
 nda:(am.map (·.1)).Nodup
 nde:(en.map (·.key)).Nodup
 la:am.length<=L
 le:en.length<=L
 ac:a.da≠a.dc
 ae:a.da≠a.de
 ce:a.dc≠a.de
def HAt.same{C:ZR}{H c:Hp}{p:ZR}{a:HF}{d:List (Str×Int)}{f:Str->Bool}{en:List EN}{L:Nat}(h:HAt C H p a d f en L)(s:Same H c):HAt C c p a d f en L:=by
 obtain⟨i,g,r⟩:=h.hc;exact⟨s _ _ h.hp,s _ _ h.ha,⟨i,s _ _ g,r⟩,s _ _ h.he,h.ents.keep (λb j e=>s _ _ e),h.nda,h.nde,h.la,h.le,h.ac,h.ae,h.ce⟩
def jM(C:ZR):Sp:=λvs H Q _=>∃p a b c d L n,vs=[.ref p,.str n]/\HAt C H p a b c d L/\Q (.int (bE b n)) H
def Oa(C:ZR):Sp:=λvs H Q _=>∃p d a c e g L nm n wd f b,vs=[.ref p,.ref d]/\HAt C H p a c e g L/\H d=some (.tup f)/\HD nm n wd f b/\Q (.bl (lP c e wd nm n)) H
def Ob(C:ZR):Sp:=λvs H Q _=>∃p d a e f h L nm n wd i b,vs=[.ref p,.ref d]/\HAt C H p a e f h L/\L<=500/\H d=some (.tup i)/\HD nm n wd i b ∧
 ∀g,HAt C g p a (Ll e (lP e f wd nm n) nm b) f h (L+1)->(∀c o,H c=some o->c≠a.da->g c=some o)->Q (.str (yn (lP e f wd nm n))) g
def jN(C:ZR)(g:Bool):Sp:=λvs H Q _=>∃p a d e f L n,vs=[.ref p,.str n]/\HAt C H p a d e f L/\L<=500/\∀b,HAt C b p a d (λm=>if m=n then g else e m) f (L+1)->(∀c o,H c=some o->c≠a.dc->b c=some o)->Q .non b
def nQ(C:ZR):Sp:=λvs H Q _=>∃(p g:ZR)(r c:V)(d:List (Str×Int))(e:List Str),vs=[.ref p,r,c]/\H p=some (.ins C g [])/\Rt H r d/\(d.map (·.1)).Nodup/\d.length<=100/\Sc H c e/\e.length<=100 ∧
 ∀f a,H a.da=none->H a.dc=none->H a.de=none->HAt C f p a d (λn=>decide (n∈e)) [] (100+e.length)->(∀b o,H b=some o->b≠p->f b=some o)->Q .non f
theorem jO{ky:Str}:∀ {en:List EN},(aT (fM en) (Sum.inr ky)).isSome=decide (ky∈en.map (·.key))
 | []=>rfl
 | z::r=>by
  unfold fM;rw[map_cons];by_cases e:z.key=ky
  ·rw[bL (by rw[e])];simp[e]
  ·rw[bG (λh=>e (Sum.inr.inj h))];have:=jO (ky:=ky) (en:=r);unfold fM at this;rw[this];have:(ky=z.key)=False:=by simp;exact λh=>e h.symm
   simp[this]
theorem pB{z:EN}:∀ {en:List EN},(en.map (·.key)).Nodup->z∈en->aT (fM en) (Sum.inr z.key)=some (.ref z.ent)
 | y::r,a,h=>by
  obtain⟨b,c⟩:=nodup_cons.mp a;unfold fM;rw[map_cons];rcases mem_cons.mp h with rfl|h
  ·rw[bL rfl]
  ·rw[bG (λe=>b (by show y.key∈_;rw[Sum.inr.inj e];exact Zmm.mpr ⟨z,h,rfl⟩))];exact pB c h
def lI{en:List EN}{z:EN}(h:¬ z.key∈en.map (·.key)):bT (fM en) (Sum.inr z.key) (.ref z.ent)=fM (en++[z]):=by
 have a:aT (fM en) (Sum.inr z.key)=none:=by
  have:=jO (ky:=z.key) (en:=en);rw[ZT h]at this;cases e:aT (fM en) (Sum.inr z.key) with
  | none=>rfl
  | some _=>rw[e]at this;cases this
 rw[oA _ a];unfold fM;rw[gO];rfl
def kD(en:List EN)(ky:Str)(z':EN):List EN:=en.map λz=>if z.key=ky then z' else z
def Bq{en:List EN}{ky:Str}{z':EN}(h:z'.key=ky):(kD en ky z').map (·.key)=en.map (·.key):=by
 unfold kD;rw[map_map];refine map_congr_left λz _=>?_
 show(if z.key=ky then z' else z).key=z.key;split
 ·rename_i e;rw[h,e]
 ·rfl
def pC{en:List EN}{ky:Str}{z':EN}(a:z'.key=ky)(h:ky∈en.map (·.key)):bT (fM en) (Sum.inr ky) (.ref z'.ent)=fM (kD en ky z'):=by
 have b:(aT (fM en) (Sum.inr ky)).isSome=true:=by rw[jO,ZU h]
 unfold bT;rw[ZO (by rw[fG];exact b)];unfold fM kD;rw[map_map,map_map];refine map_congr_left λq _=>?_
 show(if (Sum.inr q.key:aX)=Sum.inr ky then (Sum.inr q.key,V.ref z'.ent) else ((Sum.inr q.key:aX),V.ref q.ent))=((Sum.inr (if q.key=ky then z' else q).key:aX),V.ref (if q.key=ky then z' else q).ent);by_cases e:q.key=ky
 ·rw[ZO (by rw[e]),ZO e,a,e]
 ·rw[ZN (λz=>e (Sum.inr.inj z)),ZN e]
def uW{C:ZR}(B:yV K C)(D:MethAt K C "amount" "House.amount" dI ZB):kL P w K mg base 1 C "amount" ZB (jM C):=by
 refine D.gg nL (λf g A e s H vs Q E c h=>?_)
 ·obtain⟨p,a,i,j,l,L,n,rfl,b,q⟩:=h;have d:=dQ c;refine⟨_,(kz (om (U0 d (AT (K:=K) (kl 0)) (kl 1) kt))),?_⟩;refine⟨C,a.dx,_,.ref a.da,b.hp,B.cl,B.nA,Be a,a.da,rfl,.inl ⟨_,.inl b.ha⟩,_,DGet.k (k:=Sum.inr n) b.ha,?_⟩;rw[kY];exact q
def Sx{C:ZR}(T:Txt K mg)(B:yV K C)(o:kL P w K mg base 1 C "amount" ZB (jM C))(D:MethAt K C "can_do" "House.can_do" dG XV):kL P w K mg base 2 C "can_do" XV (Oa C):=by
 refine D.gg iD (λf z A y s H vs Q E j h=>?_)
 ·obtain⟨p,d,a,k,l,r,L,nm,n,wd,F,b,rfl,c,e,t,q⟩:=h;have u:=dQ j;refine⟨_,(ko (ms (i:=2) iD.nd (li K 1)) (ko (oq (nw pi (li K 1) ku) (kz (om (wp R.ge (NE o j (kl 0) (kj (kl 2) km)) (li K 1)))) ot) (kz (om (R.je (wp (R.gu u) (kl 2) (AT (K:=K) (kl 0))) (R.fo (wp R.le (lf sn (NE o j (kl 0) (kj (kl 2) km)) (li K 1)) (R.gI rfl T.g_MOST)))))))),?_⟩;obtain⟨m,v,_,x⟩:=c.hc
  cases t with
  | take=>
   refine⟨_,QZy e,_,rfl,_,QZy e,_,rfl,a.dx,_,c.hp,dR a Zk Zk Zk,p,a,k,l,r,L,nm,rfl,c,_,QZy e,_,rfl,?_⟩;exact q
  | add=>
   refine⟨_,QZy e,_,rfl,_,QZy e,_,rfl,C,a.dx,_,.ref a.dc,c.hp,B.cl,B.nC,Sd a,m,v,?_⟩;have g:Q (.bl (!l nm&&decide (bE k nm+n<=1000000000000))) H:=q;show if (!(aT m (Sum.inr nm)).isSome)=true then _ else _
   rw[x nm];refine cP (λh=>?_) (λh=>?_)
   ·rw[h,Bool.true_and]at g;exact⟨a.dx,_,c.hp,dR a Zk Zk Zk,p,a,k,l,r,L,nm,rfl,c,_,QZy e,_,rfl,g⟩
   ·rw[h,Bool.false_and]at g;exact g
def HD.dwx{nm wd:Str}{n b:Int}{xs:List V}(h:HD nm n wd xs b):Xt wd xs [(nm,b)] []:=by
 cases h with
 | add=>exact⟨nm,nm,nm,n,.add⟩
 | take=>exact⟨nm,nm,nm,n,.take⟩
def HAt.more{C:ZR}{H:Hp}{p:ZR}{a:HF}{c:List (Str×Int)}{d:Str->Bool}{en:List EN}{L e:Nat}(h:HAt C H p a c d en L)(b:L<=e):HAt C H p a c d en e:=by
 obtain⟨f,g,l,r⟩:=h.hc;exact⟨h.hp,h.ha,⟨f,g,hZ l b,r⟩,h.he,h.ents,h.nda,h.nde,hZ h.la b,hZ h.le b,h.ac,h.ae,h.ce⟩
def HAt.put{C:ZR}{H:Hp}{p:ZR}{a:HF}{c:List (Str×Int)}{d:Str->Bool}{en:List EN}{L:Nat}(h:HAt C H p a c d en L)(n:Str)(v:Int):HAt C (aK H a.da (.dK (iP (bS c n v)))) p a (bS c n v) d en (L+1):=by
 obtain⟨f,g,l,r⟩:=h.hc;have k:∀b o,H b=some o->b≠a.da->(aK H a.da (.dK (iP (bS c n v)))) b=some o:=λb o e i=>by rw[aF i];exact e
 refine⟨k _ _ h.hp (bK h.hp h.ha nofun),aA,⟨f,k _ _ g h.ac.symm,le_succ_of_le l,r⟩,k _ _ h.he h.ae.symm,h.ents.keep (λb j e=>k _ _ e (bK e h.ha nofun)),sG h.nda,h.nde,?_,le_succ_of_le h.le,h.ac,h.ae,h.ce⟩;have:=uK c n v;have:=h.la;omega
def Sy{C:ZR}(T:Txt K mg)(B:yV K C)(Q:kL P w K mg base 2 C "can_do" XV (Oa C))(S:kL P w K mg base 1 C "amount" ZB (jM C))(U:aI P w K mg base 1 "done_changes" Zn mD)(D:MethAt K C "try_deed" "House.try_deed" cT XV):kL P w K mg base 3 C "try_deed" XV (Ob C):=by
 refine D.gg dM (λa1 cdv a2 outer a3 H vs a0 a4 s h=>?_)
 ·obtain⟨p,d,a,f,l,v,L,nm,n,wd,F,b,rfl,r,W,G,I,q⟩:=h;have X:=dQ s;refine⟨_,(ko (oq (FM (wn (NE Q s (kl 0) (kj (kl 1) km)))) (kz (om ku)) ot) (ko (FS PassesOwn.never rfl (R.du (K:=K) (lv U s rfl (kj (kl 1) km))) (O6 (K:=K) (n:=2) rfl (tj (oy (i:=2) dM.nd) (tj (oy (i:=3) dM.nd) PP))) (kz (ww (lf sn (NE S s (kl 0) (kj (kl 2) km)) (kl 3)) (AC (AT (K:=K) (kl 0)) (kl 2) (O3 X))))) (kz (om ku)))),?_⟩;refine⟨a.dx,_,r.hp,dR a Zk Zk Zk,p,d,a,f,l,v,L,nm,n,wd,F,b,rfl,r,G,I,?_⟩;show if (!lP f l wd nm n)=true then _ else _
  refine cP (λh=>?_) (λh=>?_)
  ·have x:lP f l wd nm n=false:=by simpa using h
   rw[x]at q;exact q H (HAt.more r (le_succ _)) λc o e _=>e
  have x:lP f l wd nm n=true:=by simpa using h
  rw[x]at q;have q:∀g,HAt C g p a (bS f nm (bE f nm+b)) l v (L+1)->(∀c o,H c=some o->c≠a.da->g c=some o)->a0 (.str "yes") g:=q;refine⟨d,wd,F,_,_,rfl,G,(HD.dwx I),λt Y J M g1 Z y=>⟨t,rfl,⟨_,QZy g1⟩,?_⟩⟩
  match Y,y with
  | [(N,j,z)],y=>
  have e1:j=nm/\z=b:=by
   have:=y;simp at this;exact this
  obtain⟨rfl,rfl⟩:=e1;have m:=r.same M;refine cF (kU K t (iF [(N,j,z)])) (λi u g=>(∃A E:Option V,u=[some (.ref p),some (.ref d),A,E])/\g=if i=0 then J else aK J a.da (.dK (iP (bS f j (bE f j+z))))) (?_) ⟨⟨_,_,rfl⟩,rfl⟩ ?_ ?_
  ·rintro i u g ⟨_,e⟩;rw[e];split
   ·exact QZy g1
   ·exact QZy (by rw[aF (bK g1 m.ha nofun)];exact g1)
  ·rintro i a5 u g O ⟨⟨A,E,rfl⟩,e⟩;have hi:i=0:=by
    have:=(Zgs.mp O).1;unfold iF at this;simp at this;exact this
   subst hi;rw[ZO rfl]at e;subst e;obtain⟨a6,hn,rfl,gz⟩:=uQ Z O;cases hn;refine⟨N,_,rfl,QZy gz,rfl,_,_,rfl,_,_,rfl,rfl,a.dx,_,m.hp,dR a Zk Zk Zk,p,a,f,l,v,L,j,rfl,m,C,a.dx,_,.ref a.da,m.hp,B.cl,B.nA,Be a,a.da,_,rfl,DPut.k (k:=Sum.inr j) m.ha ?_,⟨_,_,rfl⟩,?_⟩
   ·unfold iP;rw[bF];exact jQ r.la (jQ W Zd)
   ·rw[ZN Zd,kZ]
  ·rintro u g ⟨⟨A,E,rfl⟩,e⟩;rw[ZN (by show ¬ 1=0;decide)]at e;subst e;refine q _ (HAt.put m j _) λc o e hc=>?_
   rw[aF hc];exact M _ _ e
def HAt.cls{C:ZR}{H:Hp}{p:ZR}{a:HF}{c:List (Str×Int)}{f d:Str->Bool}{en:List EN}{L:Nat}{kvs:List (aX×V)}(h:HAt C H p a c f en L)(i:kvs.length<=L+1)(j:∀n:Str,(aT kvs (Sum.inr n)).isSome=d n):HAt C (aK H a.dc (.dK kvs)) p a c d en (L+1):=by
 obtain⟨q,g,l,r⟩:=h.hc;have k:∀b o,H b=some o->b≠a.dc->(aK H a.dc (.dK kvs)) b=some o:=λb o e m=>by rw[aF m];exact e
 exact⟨k _ _ h.hp (bK h.hp g nofun),k _ _ h.ha h.ac,⟨kvs,aA,i,j⟩,k _ _ h.he h.ce.symm,h.ents.keep (λb s e=>k _ _ e (bK e g nofun)),h.nda,h.nde,le_succ_of_le h.la,le_succ_of_le h.le,h.ac,h.ae,h.ce⟩
def Gu{C:ZR}(T:Txt K mg)(B:yV K C)(D:MethAt K C "close" "House.close" dX ZB):kL P w K mg base 1 C "close" ZB (jN C true):=by
 refine D.gg oX (λf v A u s H vs Q E d h=>?_)
 ·obtain⟨p,a,y,F,G,L,n,rfl,b,i,q⟩:=h;have j:=dQ d;refine⟨_,(kz (ww TD (AC (AT (K:=K) (kl 0)) (kl 1) (O3 j)))),?_⟩;obtain⟨x,g,l,r⟩:=b.hc;refine⟨C,a.dx,_,.ref a.dc,b.hp,B.cl,B.nC,Sd a,a.dc,_,rfl,DPut.k (k:=Sum.inr n) g (jQ l (jQ i Zd)),?_⟩;refine q _ (HAt.cls b (hZ (cC _ _ _) (Nat.succ_le_succ l)) λm=>?_) λc o e t=>by rw[aF t];exact e
  rw[eE];by_cases e:m=n
  ·rw[ZO (by rw[e]),ZO e];rfl
  ·rw[ZN (λz=>e (Sum.inr.inj z)),ZN e];exact r m
def Br{C:ZR}(T:Txt K mg)(B:yV K C)(D:MethAt K C "reopen" "House.reopen" dH ZB):kL P w K mg base 1 C "reopen" ZB (jN C false):=by
 refine D.gg nK (λf u A t s H vs Q E x h=>?_)
 ·obtain⟨p,a,y,d,F,L,n,rfl,b,G,q⟩:=h;refine⟨_,(kz (u8 (R.ij (AT (K:=K) (kl 0)) (kl 1) G8))),?_⟩;obtain⟨j,g,l,r⟩:=b.hc;refine⟨C,a.dx,_,.ref a.dc,b.hp,B.cl,B.nC,Sd a,a.dc,rfl,.inl ⟨_,.inl g⟩,j,Sum.inr n,g,rfl,λv i=>?_,λi=>?_⟩
  ·refine q _ (HAt.cls b (hZ (oC _ _) (le_succ_of_le l)) λm=>?_) λc o e k=>by rw[aF k];exact e
   rw[wR];by_cases e:m=n
   ·rw[ZO (by rw[e]),ZO e];rfl
   ·rw[ZN (λz=>e (Sum.inr.inj z)),ZN e];exact r m
  ·refine q _ ?_ λc o e _=>e;have:(λm=>if m=n then false else d m)=d:=by
    funext m
    by_cases e:m=n
    ·rw[ZO e,e,<- r n,i];rfl
    ·rw[ZN e]
   rw[this];exact HAt.more b (le_succ _)
def sR:Sp:=λvs H Q _=>∃ky:Str,vs=[.str ky]/\mF ky/\∀a,Same H a->Q .non a
def sU(T:Txt K mg)(b:aI P w K mg base 2 "is_key" ZD (sA (LET++Wj) 12))(D:DefAt K mg "check_key" fU ZD):aI P w K mg base 3 "check_key" ZD sR:=by
 refine D.gg sK (λf l A k s H vs Q E d h=>?_)
 ·obtain⟨ky,rfl,a,q⟩:=h;refine⟨_,(kz (oq (FM (wn (lv b d rfl (kj (kl 0) km)))) (kz R.fh) ot)),?_⟩;refine⟨.str ky,.str,rfl,trivial,λz e=>by injection e with e;rw[<- e];have:=a.2.1;omega,λg i=>?_⟩;have e:eP (.str ky) (LET++Wj) 12=true:=by
   unfold eP;have m:=a.1;have n:=a.2.1;simp only [Bool.and_eq_true,decide_eq_true_eq,all_eq_true];exact⟨⟨Zo,Zo⟩,λc j=>a.2.2 c j⟩
  rw[e];exact q g i
def HD.deed{nm wd:Str}{n b:Int}{xs:List V}(h:HD nm n wd xs b)(a:cR nm)(c:1<=n)(d:n<=1000000000000):mU xs=true/\xs.length=3/\(∀H,∀y∈xs,Pt H y):=by
 have i:=iN a;have f:nm.length<=1000:=by have:=a.2.1;omega
 have pt:∀(H:Hp)(wd:Str),wd.length<=1000->∀y∈([.str wd,.str nm,.int n]:List V),Pt H y:=λH wd g y e=>by
  simp only [mem_cons,ZH,or_false]at e;rcases e with rfl|rfl|rfl
  ·exact(Pc.str g).pt
  ·exact(Pc.str f).pt
  ·exact Pc.int.pt
 cases h with
 | add=>exact⟨(DeedIs.one _ nm n (.inl rfl) a c d).ok,rfl,λH=>pt H _ Zk⟩
 | take=>exact⟨(DeedIs.one _ nm n (.inr rfl) a c d).ok,rfl,λH=>pt H _ Zk⟩
theorem Od{H:Hp}{n:Nat}:∀ {xs:List V},(∀y∈xs,jY y=true)->Paired (Rep H n) (xs.map TV.sc) xs
 | [],_=>.nil
 | y::r,h=>.cons (Rep.scal (h y fP)) (Od λz m=>h z (nD _ m))
def HDX(xs:List V):Prop:=∃nm n wd b,HD nm n wd xs b
def Zj(a b d f:Str)(c g:Int):cJ [.str a,.str b,.int c] [.str d,.str f,.int g]=decide (([.str a,.str b,.int c]:List V)=[.str d,.str f,.int g]):=by
 have e:cJ [.str a,.str b,.int c] [.str d,.str f,.int g]=(decide (a=d)&&(decide (b=f)&&decide (c=g))):=by
  show((nF (.str a) (.str d)&&(nF (.str b) (.str f)&&(nF (.int c) (.int g)&&true)))&&true)=_;rw[Bool.and_true,Bool.and_true];rfl
 rw[e];by_cases h:a=d<;>by_cases i:b=f<;>by_cases j:c=g<;>simp[h,i,j]
def HDX.shape{xs:List V}(h:HDX xs):∃a b c,xs=[.str a,.str b,.int c]:=by
 obtain⟨nm,n,wd,b,h⟩:=h;cases h<;>exact⟨_,_,_,rfl⟩
def HDX.eqT{xs ys:List V}(d:HDX xs)(e:HDX ys):cJ xs ys=decide (xs=ys):=by
 obtain⟨a,b,c,rfl⟩:=d.shape;obtain⟨f,g,h,rfl⟩:=e.shape;exact Zj _ _ _ _ _ _
def HDX.flat{xs:List V}(h:HDX xs):∀ {j:Nat}{u:V},xs[j]?=some u->cI u=true:=by
 obtain⟨a,b,c,rfl⟩:=h.shape;intro j u e;have:=dB e;simp only [mem_cons,ZH,or_false]at this;rcases this with rfl|rfl|rfl<;>rfl
def Said(z:EN):Prop:=(∀q,z.dd=some q->HDX q.2)/\(z.word="undone"∨((z.word="yes"∨z.word="no")/\∃d a,z.dd=some (d,a)/\HDX a))
def Said.of{k:Str}{e t:ZR}{xs:List V}{wd:Str}(h:HDX xs)(a:wd="yes"∨wd="no"):Said ⟨k,e,some (t,xs),wd⟩:=⟨λ_ e=>by cases e;exact h,.inr ⟨a,t,xs,rfl,h⟩⟩
def uX(C:ZR):Sp:=λvs H Q _=>∃p d a f g h L nm n wd i b ky,vs=[.ref p,.str ky,.ref d]/\HAt C H p a f g h L/\L<=500/\H d=some (.tup i)/\HD nm n wd i b/\cR nm/\1<=n/\n<=1000000000000/\mF ky/\¬ ky∈h.map (·.key) ∧
 ∀j e,HAt C j p a (Ll f (lP f g wd nm n) nm b) g (h++[⟨ky,e,some (d,i),yn (lP f g wd nm n)⟩]) (L+1)->(∀c o,H c=some o->c≠a.da->c≠a.de->j c=some o)->Q (.str (yn (lP f g wd nm n))) j
def Sz{C:ZR}(T:Txt K mg)(a3:Xw w.params K mg)(B:yV K C)(A0:aI P w K mg base 3 "check_key" ZD sR)(my:aI P w K mg base 4 "is_deed" ZD uE)(F6:kL P w K mg base 3 C "try_deed" XV (Ob C))(D:MethAt K C "ask" "House.ask" fT W7):kL P w K mg base 5 C "ask" W7 (uX C):=by
 refine D.gg lE (λa4 cdv a5 outer a6 a7 vs a8 a9 q h=>?_)
 ·obtain⟨a0,d,a,f,j,m,a1,nm,n,wd,l,a2,ky,rfl,A,M,hd,r,z8,SD,V4,X3,G,qn⟩:=h;have H:=dQ q;have z9:=q.units;obtain⟨aW,P9,tW⟩:=a3.g_HOUSE_WORDS;refine⟨_,(ko (u8 (lv A0 q rfl (kj (kl 1) km))) (ko (oq (xz (T8 (FM (wn (lv my q rfl (kj (kl 2) km)))) (T9 (nw (R.gx (K:=K)) (li K 2) (R.gR rfl P9))))) (kz R.fh) ot) (ko (oq (nw (R.gu H) (kl 1) (AT (K:=K) (kl 0))) (kz (ww (mo (kj (kl 2) (kj (NE F6 q (kl 0) (kj (kl 2) km)) km))) (AC (AT (K:=K) (kl 0)) (kl 1) (O3 H)))) ot) (ko (ms (i:=3) lE.nd (O5 H (AT (K:=K) (kl 0)) (kl 1))) (ko (oq (xz (T0 (nw UF (li K 3) ku) (R.dl (nw (R.ii z9) (li K 3) (kl 2))))) (kz R.fh) ot) (kz (om (li K 3)))))))),?_⟩;obtain⟨SE,YK,SF⟩:=HD.deed r z8 SD V4;refine⟨ky,rfl,X3,λN O=>?_⟩;have s:=O _ _ hd;refine⟨.ref d,rfl,⟨(Pc.tup s).pt,λa' Q e g=>by cases e;rw[s]at g;cases g;exact SF N⟩,λa' Q e g=>by cases e;rw[s]at g;cases g;omega,λH2 S=>?_⟩;have ev:oP N (.ref d)=true:=by
   unfold oP;dsimp only;rw[s];exact SE
  rw[ev];have U:=O.trans S;have y:=S _ _ s;have t:=A.same U;have hw:gC l 0=some (.str wd):=by cases r<;>rfl
  refine⟨_,QZy y,_,hw,aW,_,rfl,.inr (tW H2),rfl,rfl,?_⟩;have vd:kK (.str wd) [V.str "add",.str "take"]=true:=by cases r<;>rfl
  dsimp only;rw[vd,ZO rfl];refine⟨C,a.dx,_,.ref a.de,t.hp,B.cl,B.nE,pQ a,_,t.he,?_⟩;rw[jO];rw[ZT G];refine⟨a.dx,_,t.hp,dR a Zk Zk Zk,a0,d,a,f,j,m,a1,nm,n,wd,l,a2,rfl,t,M,y,r,λH3 ve W=>⟨Zs,λe I E X=>?_⟩⟩;have b:=ve.same E;refine⟨C,a.dx,_,.ref a.de,b.hp,B.cl,B.nE,pQ a,a.de,_,rfl,DPut.k (k:=Sum.inr ky) b.he ?_,?_⟩
  ·unfold fM;rw[bF];exact jQ A.le (jQ M Zd)
  rw[show bT (fM m) (Sum.inr ky) (.ref e)=fM (m++[⟨ky,e,some (d,l),yn (lP f j wd nm n)⟩]) from lI (z:=⟨ky,e,some (d,l),yn (lP f j wd nm n)⟩) G];generalize Y:aK I a.de (.dK (fM (m++[⟨ky,e,some (d,l),yn (lP f j wd nm n)⟩])))=p;have u:∀c o,I c=some o->c≠a.de->p c=some o:=λc o e hc=>by rw[<- Y,aF hc];exact e
  have Z:p a.de=some (.dK (fM (m++[⟨ky,e,some (d,l),yn (lP f j wd nm n)⟩]))):=by rw[<- Y];exact aA
  have x:∀ {c:ZR}{ys:List V},I c=some (.tup ys)->p c=some (.tup ys):=λe=>u _ _ e (bK e b.he nofun)
  have X2:H3 d=some (.tup l):=W _ _ y (bK y t.ha nofun);have J:HAt C p a0 a (Ll f (lP f j wd nm n) nm a2) j (m++[⟨ky,e,some (d,l),yn (lP f j wd nm n)⟩]) (a1+1):=by
   obtain⟨kvs,gc,lc,rc⟩:=b.hc;refine⟨u _ _ b.hp (bK b.hp b.he nofun),u _ _ b.ha b.ae,⟨kvs,u _ _ gc b.ce,lc,rc⟩,Z,λz hz=>?_,b.nda,?_,b.la,?_,b.ac,b.ae,b.ce⟩
   ·rcases Zma.mp hz with h|h
    ·exact(b.ents.keep (λ_ _ e=>x e)) z h
    ·rw[Zms.mp h];exact⟨x X,λd' Q e=>by cases e;exact x (E _ _ X2)⟩
   ·rw[gO];exact kQ A.nde G
   ·have:=A.le;rw[kJ];simp;omega
  have SG:DGet p a.de (.str ky) (some (.ref e)):=by
   have:=DGet.k (k:=Sum.inr ky) Z;rw[pB (z:=⟨ky,e,some (d,l),yn (lP f j wd nm n)⟩) J.nde (ZJ _ fP)]at this;exact this
  have L:=x X;have AM:=x (E _ _ X2);refine⟨C,a.dx,_,.ref a.de,J.hp,B.cl,B.nE,pQ a,a.de,_,rfl,SG,?_⟩;dsimp only [aL];have II:yn (lP f j wd nm n)≠"undone":=by
   cases lP f j wd nm n<;>decide
  refine⟨_,QZy L,_,rfl,?_⟩;show if (!decide (yn (lP f j wd nm n)="undone"))=true then _ else _
  rw[ZT II,ZO (show(!false)=true from rfl)];have F:HDX l:=⟨_,_,_,_,r⟩;refine⟨_,QZy L,_,rfl,_,_,AM,AM,(λb0 b1 v hu hv=>⟨F.flat hu,F.flat hv⟩),?_⟩;show if (!cJ l l)=true then _ else _
  rw[F.eqT F,ZU rfl,ZN Zd];refine⟨_,QZy L,_,rfl,qn p e J λc o e' h1 h2=>?_⟩;exact u _ _ (E _ _ (W _ _ (U _ _ e') h1)) h2
def Gv(C:ZR):Sp:=λvs H Q _=>∃p a h i g L ky,vs=[.ref p,.str ky]/\HAt C H p a h i g L/\L<=500/\mF ky/\(∀z∈g,Said z) ∧
 (¬ ky∈g.map (·.key)->∀f e,HAt C f p a h i (g++[⟨ky,e,none,"undone"⟩]) (L+1)->(∀c o,H c=some o->c≠a.da->c≠a.de->f c=some o)->Q .non f) ∧
 (∀z∈g,z.key=ky->z.word≠"yes"->∀f e,HAt C f p a h i (kD g ky ⟨ky,e,z.dd,"undone"⟩) (L+1)->(∀c o,H c=some o->c≠a.da->c≠a.de->f c=some o)->Q .non f) ∧
 (∀z∈g,z.key=ky->z.word="yes"->∀d j nm n wd b,z.dd=some (d,j)->HD nm n wd j b->∀f e,HAt C f p a (bS h nm (bE h nm-b)) i (kD g ky ⟨ky,e,z.dd,"undone"⟩) (L+1)->(∀c o,H c=some o->c≠a.da->c≠a.de->f c=some o)->Q .non f)
def HAt.ent{C:ZR}{H:Hp}{p:ZR}{a:HF}{d:List (Str×Int)}{f:Str->Bool}{en c:List EN}{L:Nat}(h:HAt C H p a d f en L)(j:EAt H c)(l:(c.map (·.key)).Nodup)(m:c.length<=L):HAt C (aK H a.de (.dK (fM c))) p a d f c L:=by
 obtain⟨i,g,r⟩:=h.hc;have k:∀b o,H b=some o->b≠a.de->(aK H a.de (.dK (fM c))) b=some o:=λb o e n=>by rw[aF n];exact e
 exact⟨k _ _ h.hp (bK h.hp h.he nofun),k _ _ h.ha h.ae,⟨i,k _ _ g h.ce,r⟩,aA,j.keep (λb q e=>k _ _ e (bK e h.he nofun)),h.nda,l,h.la,m,h.ac,h.ae,h.ce⟩
def Mo{C:ZR}(T:Txt K mg)(B:yV K C)(A0:aI P w K mg base 3 "check_key" ZD sR)(b6:kL P w K mg base 1 C "amount" ZB (jM C))(j7:aI P w K mg base 1 "done_changes" Zn mD)(D:MethAt K C "undo" "House.undo" eX QZT):kL P w K mg base 4 C "undo" QZT (Gv C):=by
 refine D.gg eB (λa5 cdv a6 outer a7 a0 vs a2 a8 O h=>?_)
 ·obtain⟨p,a,j,Y,en,L,ky,rfl,u,hL,X3,NI,qa,qb,qc⟩:=h;have Z:=dQ O;refine⟨_,(ko (u8 (lv A0 O rfl (kj (kl 1) km))) (ko (ms (i:=2) eB.nd (U0 Z (AT (K:=K) (kl 0)) (kl 1) (mo (kj G8 (kj ku km))))) (ko (oq (nw pi (li K 2) ku) (kz (FS PassesOwn.never rfl (R.du (K:=K) (lv j7 O rfl (kj (li K 2) km))) (O6 (K:=K) (n:=2) rfl (tj (oy (i:=3) eB.nd) (tj (oy (i:=4) eB.nd) PP))) (kz (ww (lf UV (NE b6 O (kl 0) (kj (kl 3) km)) (kl 4)) (AC (AT (K:=K) (kl 0)) (kl 3) (O3 Z)))))) ot) (kz (ww (mo (kj (li K 2) (kj ku km))) (AC (AT (K:=K) (kl 0)) (kl 1) (O3 Z))))))),?_⟩;refine⟨ky,rfl,X3,λH1 s1=>?_⟩;have Q:=u.same s1;refine⟨C,a.dx,_,.ref a.de,Q.hp,B.cl,B.nE,pQ a,a.de,rfl,.inl ⟨_,.inl Q.he⟩,Zs,λt0 H2 s2 g2=>⟨_,DGet.k (k:=Sum.inr ky) (s2 _ _ Q.he),?_⟩⟩;have G:=Q.same s2;have IJ:=s1.trans s2;dsimp only [aL];have put:∀(A:List EN)(X:List (Str×Int))(l:Hp)(e:ZR)(o:Option (ZR×List V)),HAt C l p a X Y en (L+1)->(∀c o,a0 c=some o->c≠a.da->l c=some o)->(∀d v,o=some (d,v)->l d=some (.tup v)) →
    l e=some (.tup [Im o,.str "undone"])->(∀z∈A,z∈en∨z=⟨ky,e,o,"undone"⟩)->(A.map (·.key)).Nodup->A.length<=L+1->bT (fM en) (Sum.inr ky) (.ref e)=fM A →
    (∀f,HAt C f p a X Y A (L+1)->(∀c o,a0 c=some o->c≠a.da->c≠a.de->f c=some o)->a2 .non f)->a2 .non (aK l a.de (.dK (bT (fM en) (Sum.inr ky) (.ref e)))):=λA X l e o h3 k3 ho ge H hn hl ep a3=>by
   rw[ep];refine a3 _ (HAt.ent h3 (λz r=>?_) hn hl) λc o' g h1 h2=>by rw[aF h2];exact k3 _ _ g h1
   rcases H z r with h|rfl
   ·exact h3.ents z h
   ·exact⟨ge,ho⟩
  have sz:(fM en).length<sizeLine:=by
   unfold fM;rw[bF];exact jQ u.le (jQ hL Zd)
  by_cases x:ky∈en.map (·.key)
  ·obtain⟨z,r,rfl⟩:=Zmm.mp x;rw[pB G.nde r];obtain⟨ge,gd⟩:=G.ents z r;have CG:∀(e:ZR),∀a1∈kD en z.key ⟨z.key,e,z.dd,"undone"⟩,a1∈en∨a1=⟨z.key,e,z.dd,"undone"⟩:=λe a1 hy=>by
    unfold kD at hy;obtain⟨y',V5,rfl⟩:=Zmm.mp hy;split
    ·exact .inr rfl
    ·exact .inl V5
   have J1:∀e:ZR,((kD en z.key ⟨z.key,e,z.dd,"undone"⟩).map (·.key)).Nodup:=λe=>by rw[Bq (z':=⟨z.key,e,z.dd,"undone"⟩) rfl];exact u.nde
   have ph:∀e:ZR,(kD en z.key ⟨z.key,e,z.dd,"undone"⟩).length<=L+1:=λe=>by unfold kD;rw[bF];exact le_succ_of_le u.le
   refine⟨_,QZy ge,_,rfl,?_⟩;show if decide (z.word="yes")=true then _ else _
   refine cP (λhb=>?_) (λhb=>?_)
   ·have S:z.word="yes":=ZW hb;obtain⟨E,F,ed,nm,n,wd,a4,hD⟩:∃E F,z.dd=some (E,F)/\HDX F:=by
     rcases(NI z r).2 with h|⟨_,h⟩
     ·rw[S]at h;exact ZM h Zd
     ·exact h
    have SH:=gd E F ed;have ID:H2 z.ent=some (.tup [.ref E,.str z.word]):=by rw[ge,ed];rfl
    refine⟨_,QZy ID,_,rfl,E,wd,F,_,_,rfl,SH,HD.dwx hD,λt zs l U g3 J0 H=>⟨t,rfl,⟨_,QZy g3⟩,?_⟩⟩
    match zs,H with
    | [(ta,b,s)],H=>
    have e1:b=nm/\s=a4:=by
     have:=H;simp at this;exact this
    obtain⟨rfl,rfl⟩:=e1;have y:=G.same U;refine cF (kU K t (iF [(ta,b,s)])) (λi W f=>(∃o3 o4:Option V,W=[some (.ref p),some (.str z.key),some (.ref z.ent),o3,o4])/\f=if i=0 then l else aK l a.da (.dK (iP (bS j b (bE j b-s))))) (?_) ⟨⟨_,_,rfl⟩,rfl⟩ ?_ ?_
    ·rintro i W f ⟨_,e⟩;rw[e];split
     ·exact QZy g3
     ·exact QZy (by rw[aF (bK g3 y.ha nofun)];exact g3)
    ·rintro i a9 W f hx ⟨⟨o2,o3,rfl⟩,e⟩;have hi:i=0:=by
      have:=(Zgs.mp hx).1;unfold iF at this;simp at this;exact this
     subst hi;rw[ZO rfl]at e;subst e;obtain⟨z',hn,rfl,gz⟩:=uQ J0 hx;cases hn;refine⟨ta,_,rfl,QZy gz,rfl,_,_,rfl,_,_,rfl,rfl,a.dx,_,y.hp,dR a Zk Zk Zk,p,a,j,Y,en,L,b,rfl,y,C,a.dx,_,.ref a.da,y.hp,B.cl,B.nA,Be a,a.da,_,rfl,DPut.k (k:=Sum.inr b) y.ha ?_,⟨_,_,rfl⟩,?_⟩
     ·unfold iP;rw[bF];exact jQ u.la (jQ hL Zd)
     ·rw[ZN Zd,kZ]
    ·rintro W f ⟨⟨o2,o3,rfl⟩,e⟩;rw[ZN (by show ¬ 1=0;decide)]at e;subst e;have S8:=HAt.put y b (bE j b-s);have k4:∀c o,a0 c=some o->c≠a.da->(aK l a.da (.dK (iP (bS j b (bE j b-s))))) c=some o:=λc o e h=>by rw[aF h];exact U _ _ (IJ _ _ e)
     have vf:∀ {c:ZR}{ys:List V},H2 c=some (.tup ys)->(aK l a.da (.dK (iP (bS j b (bE j b-s))))) c=some (.tup ys):=λe=>by rw[aF (bK (U _ _ e) y.ha nofun)];exact U _ _ e
     generalize aK l a.da (.dK (iP (bS j b (bE j b-s))))=H4 at S8 k4 vf ⊢;refine⟨_,QZy (vf ge),_,rfl,Zs,λe I q J=>?_⟩;have m:=S8.same q;refine⟨C,a.dx,_,.ref a.de,m.hp,B.cl,B.nE,pQ a,a.de,_,rfl,DPut.k (k:=Sum.inr z.key) m.he sz,?_⟩;exact put (kD en z.key ⟨z.key,e,z.dd,"undone"⟩) _ I e z.dd m (λc o g h=>q _ _ (k4 _ _ g h)) (λd v g=>q _ _ (vf (gd d v g))) J (CG e) (J1 e) (ph e) (pC (z':=⟨z.key,e,z.dd,"undone"⟩) rfl x) λf M N=>qc z r rfl S E F b n wd s ed hD f e M N
   ·have S:z.word≠"yes":=ZV hb;refine⟨_,QZy ge,_,rfl,Zs,λe I q J=>?_⟩;have m:=G.same q;refine⟨C,a.dx,_,.ref a.de,m.hp,B.cl,B.nE,pQ a,a.de,_,rfl,DPut.k (k:=Sum.inr z.key) m.he sz,?_⟩;exact put (kD en z.key ⟨z.key,e,z.dd,"undone"⟩) j I e z.dd (HAt.more m (le_succ _)) (λc o g _=>q _ _ (IJ _ _ g)) (λd v g=>q _ _ (gd d v g)) J (CG e) (J1 e) (ph e) (pC (z':=⟨z.key,e,z.dd,"undone"⟩) rfl x) λf M N=>qb z r rfl S f e M N
  ·have SI:aT (fM en) (Sum.inr ky)=none:=by
    have:=jO (ky:=ky) (en:=en);rw[ZT x]at this;cases e:aT (fM en) (Sum.inr ky) with
    | none=>rfl
    | some _=>rw[e]at this;cases this
   rw[SI];refine⟨_,QZy g2,_,rfl,?_⟩;refine⟨_,QZy g2,_,rfl,Zs,λe I q J=>?_⟩;have m:=G.same q;refine⟨C,a.dx,_,.ref a.de,m.hp,B.cl,B.nE,pQ a,a.de,_,rfl,DPut.k (k:=Sum.inr ky) m.he sz,?_⟩;exact put (en++[⟨ky,e,none,"undone"⟩]) j I e none (HAt.more m (le_succ _)) (λc o g _=>q _ _ (IJ _ _ g)) (λd v g=>nomatch g) J (λz r=>by rcases Zma.mp r with h|h;exact .inl h;exact .inr (Zms.mp h)) (by rw[gO];exact kQ u.nde x) (by rw[kJ];have:=u.le;simp;omega) (lI (z:=⟨ky,e,none,"undone"⟩) x) λf M N=>qa x f e M N
def pf2(x y:V):eS "closed_names" y [(("amounts":Str),x)]=[(("amounts":Str),x),("closed_names",y)]:=by
 unfold eS;rw[ZN Zk];rfl
def pf3(x y z:V):eS "entries" z [(("amounts":Str),x),("closed_names",y)]=[(("amounts":Str),x),("closed_names",y),("entries",z)]:=by
 unfold eS;rw[ZN Zk];unfold eS;rw[ZN Zk];rfl
def pf4(x y z v:V):eS "amounts" v [(("amounts":Str),x),("closed_names",y),("entries",z)]=[(("amounts":Str),v),("closed_names",y),("entries",z)]:=by
 unfold eS;rw[ZO rfl]
def pY{C:ZR}(T:Txt K mg)(B:yV K C)(c8:kL P w K mg base 1 C "close" ZB (jN C true))(f:ZR)(cdv:ZQ)(A:Around)(outer:List Env)(s:ZP)(H:Hp)(vs:List V)(Q:VK)(E:XK)(hr:Room 1 (A.deeper (PyProof.Rows.envOfC "House.__init__" (aB aZ) s.heap.objs.size f cdv)))(h:nQ C vs H Q E) :
  ∃t,XB (iJ nN P w K mg base QZI "House.__init__" (aB aZ) f cdv A outer s H E).nox (aY aZ) t/\t {nx:=λ_ r=>Q .non r,rt:=Q } (start QZI vs) H:=by
  obtain⟨p,d,a0,a5,b8,x,rfl,G,hR,NJ,J7,hC,BV,a4⟩:=h;refine⟨_,(ko (R.ft (K:=K) (kl 0) R.dr) (ko (R.ft (K:=K) (kl 0) R.dr) (ko (R.ft (K:=K) (kl 0) R.dr) (ko (oq (nw R.jn (kl 1) G8) (kz (R.ft (K:=K) (kl 0) (O4 (R.gs (K:=K) rfl) rfl T.b_dict yO (kj (kl 1) km)))) ot) (kz (oq (nw R.jn (kl 2) G8) (kz (FS PassesOwn.never rfl (wr (K:=K) (kl 2)) (oy (i:=3) fX.nd) (kz (u8 (NE c8 hr (kl 0) (kj (kl 3) km)))))) ot)))))),?_⟩;intro c mz;have W:=aD G mz;refine⟨C,d,[],(by rw[aF W];exact G),B.cl,B.nA,(by show 0<1000;decide),?_⟩;have g1:(aK (aK H c (.dK [])) p (.ins C d [("amounts",.ref c)])) p=some (.ins C d [("amounts",.ref c)]):=aA;have a1:(aK (aK H c (.dK [])) p (.ins C d [("amounts",.ref c)])) c=some (.dK []):=by rw[aF W.symm];exact aA
  have X:∀b o,H b=some o->b≠p->(aK (aK H c (.dK [])) p (.ins C d [("amounts",.ref c)])) b=some o:=λb o e j=>by rw[aF j,aF (aD e mz)];exact e
  dsimp only;rw[Zc];generalize aK (aK H c (.dK [])) p (.ins C d [("amounts",.ref c)])=I at g1 a1 X;intro g F;have J:=aD g1 F;refine⟨C,d,_,(by rw[aF J];exact g1),B.cl,B.nC,(by show 1<1000;decide),?_⟩;dsimp only;rw[pf2];have g2:(aK (aK I g (.dK [])) p (.ins C d [("amounts",.ref c),("closed_names",.ref g)])) p=some (.ins C d [("amounts",.ref c),("closed_names",.ref g)]):=aA;have c2:(aK (aK I g (.dK [])) p (.ins C d [("amounts",.ref c),("closed_names",.ref g)])) g=some (.dK []):=by rw[aF J.symm];exact aA
  have Y:∀b o,I b=some o->b≠p->(aK (aK I g (.dK [])) p (.ins C d [("amounts",.ref c),("closed_names",.ref g)])) b=some o:=λb o e j=>by rw[aF j,aF (aD e F)];exact e
  have a2:=Y _ _ a1 W.symm;have xa:c≠g:=aD a1 F;generalize aK (aK I g (.dK [])) p (.ins C d [("amounts",.ref c),("closed_names",.ref g)])=L at g2 c2 Y a2;intro q y;have M:=aD g2 y;refine⟨C,d,_,(by rw[aF M];exact g2),B.cl,B.nE,(by show 2<1000;decide),?_⟩;dsimp only;rw[pf3];have g3:(aK (aK L q (.dK [])) p (.ins C d [("amounts",.ref c),("closed_names",.ref g),("entries",.ref q)])) p=some (.ins C d [("amounts",.ref c),("closed_names",.ref g),("entries",.ref q)]):=aA;have Z:(aK (aK L q (.dK [])) p (.ins C d [("amounts",.ref c),("closed_names",.ref g),("entries",.ref q)])) q=some (.dK []):=by rw[aF M.symm];exact aA
  have k3:∀b o,L b=some o->b≠p->(aK (aK L q (.dK [])) p (.ins C d [("amounts",.ref c),("closed_names",.ref g),("entries",.ref q)])) b=some o:=λb o e j=>by rw[aF j,aF (aD e y)];exact e
  have a3:=k3 _ _ a2 W.symm;have c3:=k3 _ _ c2 J.symm;have ud:c≠q:=aD a2 y;have NK:g≠q:=aD c2 y;generalize aK (aK L q (.dK [])) p (.ins C d [("amounts",.ref c),("closed_names",.ref g),("entries",.ref q)])=H3 at g3 Z k3 a3 c3;have N:∀b o,H b=some o->b≠p->H3 b=some o:=λb o e j=>k3 _ _ (Y _ _ (X _ _ e j) j) j
  have NL:H g=none:=by
   cases e:H g with
   | none=>rfl
   | some o=>rw[X _ _ e J.symm]at F;cases F
  have wa:H q=none:=by
   cases e:H q with
   | none=>rfl
   | some o=>rw[Y _ _ (X _ _ e M.symm) M.symm]at y;cases y
  refine Ri (t:=zU _ _ _) (λσ' r=>σ'=[some (.ref p),some a0,some a5,none]/\∃a:HF,HAt C r p a b8 (λ_=>false) [] 100/\H a.da=none/\H a.dc=none/\H a.de=none/\∀b o,H b=some o->b≠p->r b=some o) (λnx a9=>?_) ?_
  ·rcases hR with⟨rfl,rfl⟩|⟨l,zs,rfl,u,yk,rfl⟩
   ·exact a9 _ _ ⟨rfl,⟨d,c,g,q⟩,⟨g3,a3,⟨[],c3,Zd,λn=>rfl⟩,Z,(λ_ h=>nomatch h),nodup_nil,nodup_nil,Zd,Zd,xa,ud,NK⟩,mz,NL,wa,N⟩
   ·have nl:l≠p:=bK u G nofun;have IK:ZAt H3 zs:=λz hz=>N _ _ (yk z hz) (bK (yk z hz) G nofun)
    refine⟨wz zs,by rw[Ru];exact QZx (N _ _ u nl),Wr IK,by unfold wz;rw[bF];rw[bF]at J7;omega,λO D=>?_⟩;rw[Rv,Bb NJ];have IL:=aD g3 D;refine⟨C,d,_,(by rw[aF IL];exact g3),B.cl,B.nA,(by show 3<1000;decide),?_⟩;rw[pf4];have SJ:H O=none:=by
     cases e:H O with
     | none=>rfl
     | some o=>rw[N _ _ e IL.symm]at D;cases D
    have v:∀b o,H3 b=some o->b≠p->(aK (aK H3 O (.dK (iP (zs.map (·.2))))) p (.ins C d [("amounts",.ref O),("closed_names",.ref g),("entries",.ref q)])) b=some o:=λb o e j=>by rw[aF j,aF (aD e D)];exact e
    exact a9 _ _ ⟨rfl,⟨d,O,g,q⟩,⟨aA,by rw[aF IL.symm];exact aA,⟨[],v _ _ c3 J.symm,Zd,λn=>rfl⟩,v _ _ Z M.symm,(λ_ h=>nomatch h),NJ,nodup_nil,J7,Zd,(aD c3 D).symm,(aD Z D).symm,NK⟩,SJ,NL,wa,λb o e j=>v _ _ (N _ _ e j) j⟩
  rintro σ' H4 ⟨rfl,a,ht,f1,f2,f3,v⟩;rcases hC with⟨rfl,rfl⟩|⟨l,rfl,u⟩
  ·exact a4 H4 a f1 f2 f3 ht v
  have nl:l≠p:=bK u G nofun;have SK:l≠a.dc:=λz=>by rw[z,f2]at u;cases u
  have NM:=v _ _ u nl;refine⟨l,rfl,⟨_,QZx NM⟩,?_⟩;refine cF (bI K l (x.map V.str)) (λi σ r=>(∃o3:Option V,σ=[some (.ref p),some a0,some (.ref l),o3])/\HAt C r p a b8 (λn=>decide (n∈x.take i)) [] (100+i)/\∀b o,H4 b=some o->b≠a.dc->r b=some o) (λi σ r ⟨_,_,k⟩=>QZx (k _ _ NM SK)) ⟨⟨_,rfl⟩,by simpa using ht,λb o e _=>e⟩ ?_ ?_
  ·rintro i a6 σ r S ⟨⟨o3,rfl⟩,U,k'⟩;rw[fB]at S;cases hn:x[i]? with
   | none=>rw[hn]at S;cases S
   | some nm=>
    rw[hn]at S;cases S;have hi:i<x.length:=(Zgs.mp hn).1;refine⟨a.dx,_,U.hp,dR a Zk Zk Zk,p,a,b8,_,[],100+i,nm,rfl,U,Zo,λG9 CK SM=>⟨⟨_,rfl⟩,?_,λb o e j=>SM _ _ (k' _ _ e j) j⟩⟩;have:(λm=>if m=nm then true else decide (m∈x.take i))=λm=>decide (m∈x.take (i+1)):=by
     funext m
     rw[List.take_succ,hn];by_cases e:m=nm
     ·rw[ZO e,e];simp
     ·rw[ZN e];simp[e]
    rw[this]at CK;exact CK
  ·rintro σ r ⟨⟨o3,rfl⟩,U,k'⟩;rw[bF,take_length]at U;refine a4 r a f1 f2 f3 U λb o e j=>k' _ _ (v _ _ e j) λz=>?_
   rw[z,f2]at e;cases e
def Gw{C:ZR}(T:Txt K mg)(B:yV K C)(e:kL P w K mg base 1 C "close" ZB (jN C true))(D:ClsAt K mg "House" C "House.__init__" aZ WP [[.non,.non]]):∀d∈([[.non,.non]]:List (List V)),Xs P w K mg base 2 "House" C WP d (nQ C):=
 D.go fX (λvs H Q E h=>by obtain⟨p,i,r,c,j,k,rfl,_⟩:=h;rfl) λf b A a s H vs Q E g h=>pY T B e f b A a s H vs Q E g h
def xE(a:List Str)(g:Str->Int):List (Str×Int):=((mW a).filter λn=>decide (g n≠0)).map λn=>(n,g n)
def sV(C:ZR):Sp:=λvs H Q _=>∃p a b e f L,vs=[.ref p]/\HAt C H p a b e f L/\b.length<64/\∀l d c,Same H c->H l=none->c l=some (.lst (iF d))->ZAt c d->d.map (·.2)=xE (b.map (·.1)) (bE b)->Q (.ref l) c
def kE{a:Type}{xs:List a}{i:Nat}{x:a}(h:xs[i]?=some x):xs.take (i+1)=xs.take i++[x]:=by
 rw[List.take_succ,h];rfl
def Gx{b:List (Str×Int)}{H:Hp}{k:ZR}{m:Str}(h:H k=some (.dK (iP b)))(d:m∈b.map (·.1)):DGet H k (.str m) (some (.int (bE b m))):=by
 obtain⟨a,c⟩:=gT d;have:=DGet.k (k:=Sum.inr m) h;rw[kX,c]at this;have e:bE b m=a:=by unfold bE;rw[c];rfl
 rw[e];exact this
def Gy{C:ZR}(T:Txt K mg)(B:yV K C)(D:MethAt K C "rows" "House.rows" dJ ZA):kL P w K mg base 1 C "rows" ZA (sV C):=by
 refine D.gg pV (λa0 cdv a1 U a2 H vs a3 a4 I h=>?_)
 ·obtain⟨a5,a,b,cl,en,a6,rfl,s,y,q⟩:=h;have A:=dQ I;refine⟨_,(kz (om (O2 rfl (js:=[none,some 0]) (N:=["name","self"]) (CompScope.by (aB dJ) ZA rfl rfl Zk) (bM rfl) (wr (K:=K) (ut (R.gm rfl) rfl T.b_sorted qL (kj (AT (K:=K) (kl 0)) km))) (λC W X fp=>⟨(oy (i:=0) (show(["name","self"]:List Str).Nodup by decide +kernel)),(R.dy (nw UF (O5 A (AT (K:=K) (kl 1)) (kl 0)) kt)),(R.ie (kj (kl 0) (kj (O5 A (AT (K:=K) (kl 1)) (kl 0)) km)))⟩)))),?_⟩;refine⟨C,a.dx,_,.ref a.da,s.hp,B.cl,B.nA,Be a,b.map (·.1),_,.inl s.ha,uH b,by rw[bF];exact y,λl J=>⟨l,rfl,⟨_,QZx aA⟩,?_⟩⟩;have k:Same H (aK H l (.lst ((mW (b.map (·.1))).map V.str))):=aH J;have g1:(aK H l (.lst ((mW (b.map (·.1))).map V.str))) l=some (.lst ((mW (b.map (·.1))).map V.str)):=aA;generalize aK H l (.lst ((mW (b.map (·.1))).map V.str))=L at k g1;have Y:(mW (b.map (·.1))).length<64:=by rw[nO,bF];exact y
  refine bO (bI K l ((mW (b.map (·.1))).map V.str)) (by rw[bF];omega) (λi o f=>∃c:List Z,o=iF c/\Same L f/\ZAt f c/\c.length<=i/\c.map (·.2)=(((mW (b.map (·.1))).take i).filter λn=>decide (bE b n≠0)).map λn=>(n,bE b n))
   (λi o f ⟨c,e,d,_,M,_⟩=>⟨QZx (d _ _ g1),by rw[e];unfold iF;rw[bF];exact M⟩) ⟨[],rfl,Same.refl _,(λ_ h=>nomatch h),bQ _,rfl⟩ (λi a7 o f g ⟨c,e,d,p,E,r⟩=>?_) (λo f ⟨c,e,d,p,E,r⟩=>?_)
  ·rw[fB]at g;cases j:(mW (b.map (·.1)))[i]? with
   | none=>rw[j]at g;cases g
   | some n=>
    rw[j]at g;cases g;have O:n∈b.map (·.1):=(fJ _).mem_iff.mp (dB j);have u:=s.same (k.trans d);have F:=Gx u.ha O;refine⟨C,a.dx,_,.ref a.da,u.hp,B.cl,B.nA,Be a,a.da,_,rfl,F,?_⟩;show if (!decide (bE b n=0))=true then _ else _
    refine cP (λv=>?_) (λv=>?_)
    ·refine⟨C,a.dx,_,.ref a.da,u.hp,B.cl,B.nA,Be a,a.da,_,rfl,F,fH rfl,λt G=>⟨c++[(t,n,bE b n)],by rw[e];unfold iF;rw[gO];rfl,d.trans (aH G),?_,by rw[kJ];simpa using E,?_⟩⟩
     ·intro z Q;rcases Zma.mp Q with m|m
      ·exact(p.same (aH G)) z m
      ·rw[Zms.mp m];exact aA
     ·rw[gO,r,kE j,filter_append,gO];congr 1;rw[filter_cons,ZO (by simpa using v)];rfl
    ·refine⟨c,e,d,p,Zo,?_⟩;rw[r,kE j,filter_append,filter_cons,ZN (by simpa using v)];simp
  ·intro S x;subst e;refine q S c _ (k.trans (d.trans (aH x))) ?_ aA (p.same (aH x)) ?_
   ·exact k.free (d.free x)
   ·rw[r,bF,take_length];rfl
def dT:Option (ZR×List V)->TV
 | none=>.sc .non
 | some q=>.tp (q.2.map .sc)
def Ta{H:Hp}{z:EN}(h:∀d xs,z.dd=some (d,xs)->H d=some (.tup xs))(a:∀d xs,z.dd=some (d,xs)->∀y∈xs,jY y=true):Rep H 1 (dT z.dd) (Im z.dd):=by
 cases e:z.dd with
 | none=>exact Rep.scal rfl
 | some q=>exact⟨q.1,q.2,rfl,h q.1 q.2 e,Od (a q.1 q.2 e)⟩
def eR(en:List EN):List EN:=(mW (en.map (·.key))).filterMap λk=>en.find? (λz=>decide (z.key=k))
def Mp(H:Hp)(z:EN)(a:ZR):Prop:=H a=some (.tup [.str z.key,Im z.dd,.str z.word])
def nR(C:ZR):Sp:=λvs H Q _=>∃p a e f c L,vs=[.ref p]/\HAt C H p a e f c L/\c.length<64/\∀l d b,Same H b->H l=none->b l=some (.lst (d.map V.ref))->Paired (Mp b) (eR c) d->Q (.ref l) b
theorem lJ{z:EN}:∀ {en:List EN},(en.map (·.key)).Nodup->z∈en->en.find? (λy=>decide (y.key=z.key))=some z
 | y::r,a,h=>by
  obtain⟨b,c⟩:=nodup_cons.mp a;rw[find?_cons];rcases mem_cons.mp h with rfl|h
  ·simp
  ·have:¬ y.key=z.key:=λe=>b (by show y.key∈_;rw[e];exact Zmm.mpr ⟨z,h,rfl⟩)
   rw[ZT this];exact lJ c h
def Gz{a b:Type}{R:a->b->Prop}{xs:List a}{ys:List b}{x:a}{y:b}(h:Paired R xs ys)(r:R x y):Paired R (xs++[x]) (ys++[y]):=by
 induction h with
 | nil=>exact .cons r .nil
 | cons h t c=>exact .cons h c
def Hj(en:List EN):(fM en).map (·.1)=(en.map (·.key)).map Sum.inr:=by
 unfold fM;rw[map_map,map_map];rfl
def Hk{C:ZR}(T:Txt K mg)(B:yV K C)(D:MethAt K C "kept" "House.kept" dL ZA):kL P w K mg base 1 C "kept" ZA (nR C):=by
 refine D.gg pW (λf W A O a0 H vs a1 a2 I h=>?_)
 ·obtain⟨a3,a,X,Y,b,a4,rfl,j,y,q⟩:=h;have E:=dQ I;refine⟨_,(kz (om (O2 rfl (js:=[none,some 0]) (N:=["key","self"]) (CompScope.by (aB dL) ZA rfl rfl Zk) (bM rfl) (wr (K:=K) (ut (R.gm rfl) rfl T.b_sorted qL (kj (AT (K:=K) (kl 0)) km))) (λC Q S Z=>⟨(oy (i:=0) (show(["key","self"]:List Str).Nodup by decide +kernel)),Q5,(R.ie (kj (kl 0) (kj (ou (v0 (K:=K)) (O5 E (AT (K:=K) (kl 1)) (kl 0)) kt) (kj (ou (v0 (K:=K)) (O5 E (AT (K:=K) (kl 1)) (kl 0)) kt) km))))⟩)))),?_⟩;refine⟨C,a.dx,_,.ref a.de,j.hp,B.cl,B.nE,pQ a,b.map (·.key),_,.inl j.he,Hj b,by rw[bF];exact y,λl J=>⟨l,rfl,⟨_,QZx aA⟩,?_⟩⟩;have n:Same H (aK H l (.lst ((mW (b.map (·.key))).map V.str))):=aH J;have g1:(aK H l (.lst ((mW (b.map (·.key))).map V.str))) l=some (.lst ((mW (b.map (·.key))).map V.str)):=aA;generalize aK H l (.lst ((mW (b.map (·.key))).map V.str))=L at n g1;have U:(mW (b.map (·.key))).length<64:=by rw[nO,bF];exact y
  refine bO (bI K l ((mW (b.map (·.key))).map V.str)) (by rw[bF];omega) (λi o g=>Same L g/\∃c:List ZR,o=c.map V.ref/\c.length<=i/\Paired (Mp g) (((mW (b.map (·.key))).take i).filterMap λk=>b.find? (λz=>decide (z.key=k))) c)
   (λi o g ⟨d,c,e,u,_⟩=>⟨QZx (d _ _ g1),by rw[e,bF];exact u⟩) ⟨Same.refl _,[],rfl,bQ _,.nil⟩ (λi a5 o g m ⟨d,c,e,u,p⟩=>?_) (λo g ⟨d,c,e,u,p⟩=>?_)
  ·rw[fB]at m;cases r:(mW (b.map (·.key)))[i]? with
   | none=>rw[r]at m;cases m
   | some ky=>
    rw[r]at m;cases m;obtain⟨z,v,rfl⟩:=Zmm.mp ((fJ _).mem_iff.mp (dB r));have s:=j.same (n.trans d);have F:DGet g a.de (.str z.key) (some (.ref z.ent)):=by
     have:=DGet.k (k:=Sum.inr z.key) s.he;rw[pB j.nde v]at this;exact this
    have ge:=(s.ents z v).1;refine⟨C,a.dx,_,.ref a.de,s.hp,B.cl,B.nE,pQ a,a.de,_,rfl,F,_,QZy ge,_,rfl,C,a.dx,_,.ref a.de,s.hp,B.cl,B.nE,pQ a,a.de,_,rfl,F,_,QZy ge,_,rfl,fH rfl,λt G=>⟨d.trans (aH G),c++[t],by rw[e,gO];rfl,by simp;omega,?_⟩⟩;rw[kE r,ZG,ZF,lJ j.nde v];exact Gz (Paired.map' (λ_ _ h=>aH G _ _ h) p) aA
  ·intro M x;rw[bF,take_length]at p;exact q M c _ (n.trans (d.trans (aH x))) (n.free (d.free x)) (by rw[aA,e]) (Paired.map' (λ_ _ h=>aH x _ _ h) p)
def mK{en:List EN}(b:(en.map (·.key)).Nodup){z:EN}:z∈eR en↔z∈en:=by
 unfold eR;rw[mem_filterMap];constructor
 ·rintro⟨k,_,e⟩;exact List.mem_of_find?_eq_some e
 ·intro a;exact⟨z.key,(fJ _).mem_iff.mpr (mem_map_of_mem a),lJ b a⟩
def gD(z:List Nat)(m p:Nat):List Nat:=z++(bZ m).cps.toList++[97+p]
def zC:Sp:=λvs H Q _=>∃(z:List Nat)(m p:Nat),vs=[.str (tx z),.int m,.int p]/\z.length<=10/\m<=999999/\p<2/\Q (.str (tx (gD z m p))) H
def kG(m:Nat):bZ m=tx (bZ m).cps.toList:=oN _
def mL{m:Nat}(h:m<=999999):(bZ m).cps.toList.length<=6:=by
 have:=Km (m:=m) (k:=5) Zo;have e:(bZ m).cps.toList.length=(bZ m).length:=by simp[Str.length]
 omega
def Tb(T:Txt K mg)(U:Xw w.params K mg)(D:DefAt K mg "key_of" lD W1):aI P w K mg base 1 "key_of" W1 zC:=by
 refine D.gg Bl (λf l A k s H vs Q E n h=>?_)
 ·obtain⟨z,m,p,rfl,o,e,r,q⟩:=h;obtain⟨t,g,a⟩:=U.g_ENDS;refine⟨_,(kz (om (lf Q6 (lf Q6 (kl 0) (O4 R.fu rfl T.b_str lX (kj (kl 1) km))) (ou (v0 (K:=K)) (R.gR rfl g) (kl 2))))),?_⟩;have u:=mL e;have i:(bZ m).length=(bZ m).cps.toList.length:=by simp[Str.length]
  refine⟨⟨Zo,Int.lt_of_le_of_lt (by omega:(m:Int)<=999999) Zd⟩,eO (by show(tx z).length+(bZ m).length<=1000;rw[bD,i];omega),?_⟩;have b:∀x:Str,x=tx [97+p]->Q (.str (tx z++bZ m++x)) H:=λx j=>by
   rw[j,kG m,cX,cX];exact q
  have v:(tx z++bZ m).length<=16:=by rw[kG m,cX,bD,kJ];omega
  have c:("a":Str)=tx [97]:=by decide +kernel
  have d:("b":Str)=tx [98]:=by decide +kernel
  rcases(by omega:p=0∨p=1) with rfl|rfl
  ·refine⟨_,a H,.str ("a":Str),rfl,eO (by show(tx z++bZ m).length+("a":Str).length<=1000;rw[c];have:=bD [97];simp only [vG,length_nil]at this;omega),b _ c⟩
  ·refine⟨_,a H,.str ("b":Str),rfl,eO (by show(tx z++bZ m).length+("b":Str).length<=1000;rw[d];have:=bD [98];simp only [vG,length_nil]at this;omega),b _ d⟩
def gK:RX->aX|.next n _=>Sum.inl (n:Int)|.has z _=>Sum.inr z|.kept n _ _ _ _ _=>Sum.inl (n:Int)|.came n _ _ _ _=>Sum.inl (n:Int)|.asked n=>Sum.inl (n:Int)|.done n _ _=>Sum.inl (n:Int)
def Tc(r:RX):Sr r=kV (gK r):=by cases r<;>rfl
def hV(wd:Str)(r:RX)(a:ZR):List (aX×V):=if gJ r=wd then [(gK r,.ref a)] else []
def cS(wd:Str)(b:List RX)(c:List ZR):Nat->List (aX×V)
 | 0=>[]
 | i+1=>cS wd b c i++(match b[i]?,c[i]? with|some r,some a=>hV wd r a|_,_=>[])
def gL{wd:Str}{b:List RX}{c:List ZR}{i:Nat}{r:RX}{a:ZR}(d:b[i]?=some r)(e:c[i]?=some a):cS wd b c (i+1)=cS wd b c i++hV wd r a:=by
 simp only [cS,d,e]
theorem uY(wd:Str)(a:List RX)(b:List ZR):∀i,(cS wd a b i).length<=i
 | 0=>bQ _
 | i+1=>by
  have:=uY wd a b i;unfold cS;rw[kJ];split
  ·unfold hV;split<;>simp<;>omega
  ·simp;omega
theorem lK{wd:Str}{c:List RX}{d:List ZR}{k:aX}{v:V}:∀ {i:Nat},(k,v)∈cS wd c d i->∃j r a,j<i/\c[j]?=some r/\d[j]?=some a/\gJ r=wd/\k=gK r/\v=.ref a
 | 0,h=>nomatch h
 | i+1,h=>by
  unfold cS at h;rcases Zma.mp h with h|h
  ·obtain⟨j,r,a,e,b⟩:=lK h;exact⟨j,r,a,Zo,b⟩
  ·split at h
   ·rename_i r a f g;unfold hV at h;split at h
    ·rename_i l;have:=Zms.mp h;injection this with e b
     exact⟨i,r,a,lt_succ_self _,f,g,l,e,b⟩
    ·cases h
   ·cases h
theorem uZ{wd:Str}{b:List RX}{c:List ZR}{j:Nat}{r:RX}{a:ZR}(d:b[j]?=some r)(f:c[j]?=some a)(g:gJ r=wd):∀ {i:Nat},j<i->(gK r,V.ref a)∈cS wd b c i
 | 0,h=>nomatch h
 | i+1,h=>by
  by_cases e:j=i
  ·subst e;rw[gL d f];refine ZJ _ ?_;unfold hV;rw[ZO g];exact fP
  ·unfold cS;exact ZK _ (uZ d f g Zo)
def xF(kvs l:List (aX×V))(k:aX)(v:V):aP kvs (l++[(k,v)])=bT (aP kvs l) k v:=by unfold aP;rw[List.foldl_append];rfl
theorem hX{k:aX}{v:V}:∀ {l kvs:List (aX×V)},aT (aP kvs l) k=some v->(k,v)∈l∨aT kvs k=some v
 | [],kvs,h=>.inr h
 | (a,b)::l,kvs,h=>by
  have c:aT (aP (bT kvs a b) l) k=some v:=h;rcases hX c with h1|h1
  ·exact .inl (nD _ h1)
  ·rw[eE]at h1;by_cases e:k=a
   ·rw[ZO e]at h1;injection h1 with h1
    rw[<- h1,e];exact .inl fP
   ·rw[ZN e]at h1;exact .inr h1
theorem vA{k:aX}:∀ {l kvs:List (aX×V)},(k∈l.map (·.1)∨∃v,aT kvs k=some v)->∃v,aT (aP kvs l) k=some v
 | [],kvs,h=>by
  rcases h with h|h
  ·cases h
  ·exact h
 | (a,b)::l,kvs,h=>by
  refine vA (l:=l) (kvs:=bT kvs a b) ?_;rcases h with h|⟨v,h⟩
  ·rcases mem_cons.mp h with h|h
   ·right
    rw[eE,ZO h];exact⟨_,rfl⟩
   ·exact .inl h
  ·right
   rw[eE];split
   ·exact⟨_,rfl⟩
   ·exact⟨v,h⟩
def pE{wd:Str}{b:List RX}{c:List ZR}(x:b.length=c.length){r:RX}(h:r∈b)(i:gJ r=wd):∃(j:Nat)(d:RX)(a:ZR),aT (aP [] (cS wd b c b.length)) (gK r)=some (.ref a)/\b[j]?=some d/\c[j]?=some a/\gJ d=wd/\gK r=gK d:=by
 obtain⟨j,g,m⟩:=getElem_of_mem h;have n:b[j]?=some r:=by rw[cD g,m]
 have o:c[j]?=some c[j]:=cD Zo;have p:=uZ n o i g;obtain⟨v,e⟩:=vA (kvs:=[]) (k:=gK r) (l:=cS wd b c b.length) (.inl (mem_map_of_mem p));rcases hX e with f|f
 ·obtain⟨q,d,s,_,g1,g2,g3,t,u⟩:=lK f;rw[u]at e;exact⟨q,d,s,e,g1,g2,g3,t⟩
 ·cases f
def zD:Sp:=λvs H Q _=>∃(c:ZR)(wd:Str)(a:List RX)(d:List ZR),vs=[.ref c,.str wd]/\RxsAt H c a d/\a.length<=100/\∀(p:ZR)(b:Hp),H p=none->b p=some (.dK (aP [] (cS wd a d a.length)))->Same H b->Q (.ref p) b
def pZ(D:DefAt K mg "by_numbers" eT QZW):aI P w K mg base 1 "by_numbers" QZW zD:=by
 refine D.gg gB (λf O A N s H vs Q E y h=>?_)
 ·obtain⟨l,wd,e,j,rfl,n,S,q⟩:=h;have z:=dQ y;have le:=n.len;refine⟨_,(ko (ms (i:=2) gB.nd R.dr) (ko (FS PassesOwn.never rfl (wr (K:=K) (kl 0)) (oy (i:=3) gB.nd) (kz (oq (nw pi (li K 3) (kl 1)) (kz (ww (kl 3) (AC (kl 2) (li K 3) (O3 z)))) ot))) (kz (om (kl 2))))),?_⟩;refine λp o=>?_;have T:p≠l:=(aD n.lst o).symm;dsimp only [aL];refine aQ (λb k=>∃c,b=[some (.ref l),some (.str wd),some (.ref p),c]/\k p=some (.dK (aP [] (cS wd e j e.length)))/\Same H k) (λU B=>?_) ?_
  ·refine⟨l,rfl,⟨_,QZx (bH n.lst o)⟩,cF (bI K l (j.map V.ref)) (λi b k=>∃c,b=[some (.ref l),some (.str wd),some (.ref p),c]/\k p=some (.dK (aP [] (cS wd e j i)))/\Same H k) (λi b k ⟨_,_,_,C⟩=>QZx (C _ _ n.lst))
    ⟨_,rfl,aA,aH o⟩ ?_ ?_⟩
   ·rintro i x b t F ⟨c,rfl,g1,d⟩;obtain⟨a,r,rfl,u,v,G⟩:=(n.same d).get F;obtain⟨W,g,I,J,X⟩:=uU G;have Y:=(Zgs.mp u).1;have Z:=uY wd e j i;have L:=dU (cS wd e j i) [];refine⟨_,QZy g,_,I,?_⟩;show if decide (gJ r=wd)=true then _ else _
    refine cP (λh=>?_) (λh=>?_)
    ·have M:DPut t p (Sr r) (.ref a) (aK t p (.dK (bT (aP [] (cS wd e j i)) (gK r) (.ref a)))):=by
      rw[Tc];exact DPut.k g1 (jQ (m:=1000) (by simp at L;omega) Zd)
     refine⟨_,QZy g,_,J,p,_,rfl,M,?_⟩
     ·refine⟨_,rfl,?_,jK o d⟩;rw[aA,gL v u];unfold hV;rw[ZO (ZW h),xF]
    ·refine⟨_,rfl,?_,d⟩;rw[gL v u];unfold hV;rw[ZN (ZV h),append_nil];exact g1
   ·rintro b t ⟨c,rfl,g1,d⟩;rw[bF,<- le]at g1;exact B _ _ ⟨c,rfl,g1,d⟩
  ·rintro b t ⟨c,rfl,g1,d⟩;exact q p t o g1 d
structure Wt where
 n:Nat
 i:Nat
 h:Str
 d:Dd
 w:Str
def cU:Dd->List (Str×Dd)
 | .send h a m=>[(h,.add a m)]|.fetch h a m=>[(h,.take a m)]|.pass h g a m=>[(h,.take a m),(g,.add a m)]|_=>[]
def lM(x:Dd):(cU x).length<=2:=by cases x<;>exact ZL rfl
def Zl(H:Hp)(q:Str×Dd)(a:ZR):Prop:=∃t,H a=some (.tup [.str q.1,.ref t])/\H t=some (.tup q.2.vs)
def pF:Sp:=λvs H Q _=>∃(t:ZR)(x:Dd),vs=[.ref t]/\H t=some (.tup x.vs)/\∀(l:ZR)(b:List ZR)(a:Hp),H l=none->a l=some (.lst (b.map V.ref))->Paired (Zl a) (cU x) b->Same H a->Q (.ref l) a
def Bs(T:Txt K mg)(D:DefAt K mg "_law_places" eZ W5):aI P w K mg base 1 "_law_places" W5 pF:=by
 refine D.gg pX (λf G A F s H vs Q E I h=>?_)
 ·obtain⟨t,x,rfl,gt,q⟩:=h;refine⟨_,(ko (oq (nw pi (li K 0) ku) (kz (om (re (kj (mo (kj (li K 0) (kj (mo (kj ku (kj (li K 0) (kj (li K 0) km)))) km))) km)))) ot) (ko (oq (nw pi (li K 0) ku) (kz (om (re (kj (mo (kj (li K 0) (kj (mo (kj ku (kj (li K 0) (kj (li K 0) km)))) km))) km)))) ot) (ko (oq (nw pi (li K 0) ku) (kz (om (re (kj (mo (kj (li K 0) (kj (mo (kj ku (kj (li K 0) (kj (li K 0) km)))) km))) (kj (mo (kj (li K 0) (kj (mo (kj ku (kj (li K 0) (kj (li K 0) km)))) km))) km))))) ot) (kz (om (re km)))))),?_⟩
  cases x with
  | send h a m=>
   refine⟨_,QZy gt,_,rfl,_,QZy gt,_,rfl,_,QZy gt,_,rfl,_,QZy gt,_,rfl,aS rfl,λj r i g1=>⟨aS rfl,λe u d g2=>⟨fH rfl,λl c=>?_⟩⟩⟩;have k:=(i.trans d).trans (aH (o:=.lst [.ref e]) c);exact q l [e] _ ((i.trans d).free c) aA (.cons ⟨j,bH g2 c,bH (d _ _ g1) c⟩ .nil) k
  | fetch h a m=>
   refine⟨_,QZy gt,_,rfl,_,QZy gt,_,rfl,_,QZy gt,_,rfl,_,QZy gt,_,rfl,_,QZy gt,_,rfl,aS rfl,λj r i g1=>⟨aS rfl,λe u d g2=>⟨fH rfl,λl c=>?_⟩⟩⟩;have k:=(i.trans d).trans (aH (o:=.lst [.ref e]) c);exact q l [e] _ ((i.trans d).free c) aA (.cons ⟨j,bH g2 c,bH (d _ _ g1) c⟩ .nil) k
  | pass h g a m=>
   refine⟨_,QZy gt,_,rfl,_,QZy gt,_,rfl,_,QZy gt,_,rfl,_,QZy gt,_,rfl,_,QZy gt,_,rfl,_,QZy gt,_,rfl,aS rfl,λj r i g1=>⟨aS rfl,λe u d g2=>?_⟩⟩;have n:=i.trans d;refine⟨_,QZy (n _ _ gt),_,rfl,_,QZy (n _ _ gt),_,rfl,_,QZy (n _ _ gt),_,rfl,aS rfl,λz J k g3=>⟨aS rfl,λv L y B=>⟨fH rfl,λl c=>?_⟩⟩⟩;have p:=k.trans y;have C:=(n.trans p).trans (aH (o:=.lst [.ref e,.ref v]) c);exact q l [e,v] _ ((n.trans p).free c) aA (.cons ⟨j,bH (p _ _ g2) c,bH (p _ _ (d _ _ g1)) c⟩ (.cons ⟨z,bH B c,bH (y _ _ g3) c⟩ .nil)) C
  | add a m=>
   refine⟨_,QZy gt,_,rfl,_,QZy gt,_,rfl,_,QZy gt,_,rfl,fH rfl,λl c=>?_⟩;exact q l [] _ c aA .nil (aH c)
  | take a m=>
   refine⟨_,QZy gt,_,rfl,_,QZy gt,_,rfl,_,QZy gt,_,rfl,fH rfl,λl c=>?_⟩;exact q l [] _ c aA .nil (aH c)
  | move a b m=>
   refine⟨_,QZy gt,_,rfl,_,QZy gt,_,rfl,_,QZy gt,_,rfl,fH rfl,λl c=>?_⟩;exact q l [] _ c aA .nil (aH c)
def iW(g:Str):List Str->Nat|[]=>0|z::r=>if z=g then 0 else iW g r+1
theorem sW{g:Str}:∀ {a:List Str}{j:Nat},a.Nodup->a[j]?=some g->iW g a=j
 | [],_,_,h=>by cases h
 | z::r,0,_,h=>by cases h;exact ZO rfl
 | z::r,j+1,c,h=>by
  obtain⟨d,f⟩:=nodup_cons.mp c;have b:r[j]?=some g:=h;show(if z=g then 0 else iW g r+1)=j+1;rw[ZN (λe=>d (by rw[e];exact dB b)),sW f b]
def mZ(x:Dd)(i:Nat):Option An->Str
 | none=>"any"
 | some (.short _)=>"none"
 | some (.full _)=>"none"
 | some (.no g)=>if i<iW g ((cU x).map (·.1)) then "undone" else if i=iW g ((cU x).map (·.1)) then "no" else "none"
 | some _=>"yes"
def Hl:Sp:=λvs H Q _=>∃(t c:ZR)(x:Dd)(i:Nat)(a:List An)(bs:List ZR),vs=[.ref t,.int (i:Int),.ref c]/\H t=some (.tup x.vs)/\H c=some (.lst (bs.map V.ref))/\Paired (λy b=>H b=some (.tup (An.vs y))) a bs/\(∀y∈a,An.Of x y)/\x.far=true/\x.Ok ∧
 ∀d,Same H d->Q (.str (mZ x i a.head?)) d
def Mq(T:Txt K mg)(L1:aI P w K mg base 1 "_law_places" W5 pF)(D:DefAt K mg "_law_want" fK QZP):aI P w K mg base 2 "_law_want" QZP Hl:=by
 refine D.gg iU (λa4 cdv a5 outer a6 a0 vs a1 a7 O h=>?_)
 ·obtain⟨t,Q,x,i,ys,bs,rfl,gt,G,S,yh,Y7,hok,a2⟩:=h;have hu:=O.units0;refine⟨_,(ko (oq (nw (R.jm (K:=K) hu) (kl 2) (re km)) (kz (om ku)) ot) (ko (ms (i:=3) iU.nd (o0 K 2)) (ko (oq (nw (U3 (K:=K)) (li K 3) (mo (kj ku (kj ku km)))) (kz (om ku)) ot) (ko (oq (nw UF (li K 3) ku) (kz (om ku)) ot) (ko (ms (i:=4) iU.nd (J6 (K:=K) PySem.F.plainAttrs_list PySem.F.slot_list_index PySem.F.type_list_index R.fk (O2 rfl (js:=[none,none]) (N:=QZF) (CompScope.by (aB fK) QZC rfl rfl Zk) (kS (cQ rfl (cQ rfl iZ))) (wr (K:=K) (lv L1 O rfl (kj (kl 0) km))) (λa8 s₂ H₂ fp=>⟨(O6 (K:=K) (n:=2) rfl (tj (oy (i:=0) (show(QZF:List Str).Nodup by decide +kernel)) (tj (oy (i:=1) (show(QZF:List Str).Nodup by decide +kernel)) PP))),Q5,(kl 0)⟩)) (kj (li K 3) km))) (kz (om (ou (tm (K:=K)) (re (kj ku (kj ku (kj ku km)))) (lf R.ja (wp R.ge (kl 1) (kl 4)) (wp R.gt (kl 1) (kl 4))))))))))),?_⟩
  cases S with
  | nil=>
   refine kA (λv b=>v=true/\Same a0 b) (λU A=>⟨fH rfl,λp d=>⟨Q,p,_,rfl,rfl,QZx (bH G d),QZx aA,A _ _ ⟨rfl,aH d⟩⟩⟩) ?_ ?_
   ·rintro f ⟨_,q⟩;exact a2 f q
   ·rintro f ⟨z,_⟩;cases z
  | @cons y a3 ys bs gy S=>
   refine kA (λv b=>v=false/\Same a0 b) (λU A=>⟨fH rfl,λp d=>⟨Q,p,_,rfl,rfl,QZx (bH G d),QZx aA,A _ _ ⟨rfl,aH d⟩⟩⟩) ?_ ?_
   ·rintro f ⟨z,_⟩;cases z
   rintro f ⟨_,q⟩;dsimp only [iH];have H:=yh y fP;have B:∀b,Same f b->a1 (.str (mZ x i (some y))) b:=λb I=>a2 b (q.trans I)
   have W:=q _ _ gy;refine⟨_,QZx (q _ _ G),.ref a3,cV (j:=0) rfl,?_⟩;dsimp only [aL];obtain⟨u,FF,d6⟩:∃u,gC y.vs 0=some (.str u)/\kK (.str u) [.str "short",.str "full"]=y.early:=by cases y<;>exact⟨_,rfl,rfl⟩
   refine kA (λv b=>v=y.early/\Same f b) (λU A=>?_) ?_ ?_
   ·refine⟨_,QZy W,_,FF,aS rfl,λtq r c g2=>⟨tq,_,rfl,.inr (QZy g2),rfl,rfl,?_⟩⟩;exact A _ _ ⟨d6,c⟩
   ·rintro r ⟨e,c⟩;cases y<;>first|exact B r c|cases e
   rintro r ⟨e,c⟩;dsimp only [iH];have C:=c _ _ W
   cases y with
   | short m=>cases e
   | full m=>cases e
   | is1 m=>exact⟨_,QZy C,_,rfl,B r c⟩
   | is2 l m=>exact⟨_,QZy C,_,rfl,B r c⟩
   | ok=>exact⟨_,QZy C,_,rfl,B r c⟩
   | no g=>
    refine⟨_,QZy C,_,rfl,?_⟩;have R9:=c _ _ (q _ _ gt);refine⟨t,x,rfl,R9,λl X H3 fl Y Z s3=>⟨l,rfl,⟨_,QZx Y⟩,?_⟩⟩;have lp:=lM x;have J7:=Z.length;refine bO (bI K l (X.map V.ref)) (by rw[bF,<- J7];omega) (λj F b=>b=H3/\F=(((cU x).map (·.1)).take j).map V.str) (λj F b ⟨k,e⟩=>⟨by rw[k];exact QZx Y,by rw[e,bF];exact List.length_take_le _ _⟩) ⟨rfl,rfl⟩ (?_) (?_)
    ·rintro j v F b E ⟨k,e⟩;subst k;rw[fB]at E;cases J:X[j]? with
     | none=>rw[J]at E;cases E
     | some a=>
      rw[J]at E;cases E;obtain⟨X4,ea⟩:=Zgs.mp J;obtain⟨R3,tt,h1,h2⟩:=Paired.get' (j:=j) Z X4;rw[ea]at h1;refine⟨a,_,rfl,QZy h1,rfl,_,_,rfl,_,_,rfl,rfl,rfl,?_⟩;have ez:((cU x).map (·.1))[j]?=some (cU x)[j].1:=by rw[fB,cD R3];rfl
      rw[bJ ez,e,gO];rfl
    ·rintro F b ⟨k,e⟩;intro p d;subst k;rw[bF,<- J7,nT Zs]at e;subst e;have L:(aK b p (.lst (((cU x).map (·.1)).map V.str))) p=some (.lst (((cU x).map (·.1)).map V.str)):=aA;have M:=aH (o:=.lst (((cU x).map (·.1)).map V.str)) d;generalize aK b p (.lst (((cU x).map (·.1)).map V.str))=H4 at L M;have Y6:g∈(cU x).map (·.1)/\((cU x).map (·.1)).Nodup:=by
      cases x with
      | send h a m=>rw[show g=h from H];exact⟨fP,by simp[cU]⟩
      | fetch h a m=>rw[show g=h from H];exact⟨fP,by simp[cU]⟩
      | pass h g' a m=>
       have i9:h≠g':=hok.2.2.2.1;rcases(show g=h∨g=g' from H) with rfl|rfl<;>exact⟨by simp[cU],by simp[cU,i9]⟩
      | _=>cases Y7
     refine⟨.inl ⟨rfl,_,QZx L⟩,_,QZy (M _ _ (s3 _ _ C)),_,rfl,_,L,Y6.1,λj hj=>?_⟩;have ej:=sW Y6.2 hj;have sw:=(c.trans s3).trans M;dsimp only [aL];have q3:∀b,Same f b->a1 (.str (if i<j then ("undone":Str) else if i=j then ("no":Str) else ("none":Str))) b:=λb I=>by
      have:=B b I;have k:mZ x i (some (.no g))=if i<iW g ((cU x).map (·.1)) then ("undone":Str) else if i=iW g ((cU x).map (·.1)) then ("no":Str) else ("none":Str):=rfl
      rw[k,ej]at this;exact this
     refine⟨fH rfl,λl5 SN=>?_⟩;have s5:=sw.trans (aH (o:=.lst [.str "undone",.str "no",.str "none"]) SN);show Av K (.ref l5) (.int (PyProof.Rows.b2i (decide ((j:Int)<=(i:Int)))+PyProof.Rows.b2i (decide ((j:Int)<(i:Int))))) _ _;have s:=q3 _ s5;rcases lt_trichotomy i j with h|h|h
     ·rw[ZO h]at s;rw[ZT Zo,ZT Zo];exact⟨_,QZx aA,_,rfl,s⟩
     ·rw[ZN Zo,ZO h]at s;rw[ZU Zo,ZT Zo];exact⟨_,QZx aA,_,rfl,s⟩
     ·rw[ZN Zo,ZN Zo]at s;rw[ZU Zo,ZU Zo];exact⟨_,QZx aA,_,rfl,s⟩
def Bt{b:List RX}(h:RX.Whole b){n t:Nat}{y:An}(h1:.done n t y∈b):∃a p k x,RX.came n a p k x∈b/\An.Of x y:=by
 induction h with
 | nil=>cases h1
 | snoc g e f=>
  rcases aG h1 with h1|h1
  ·obtain⟨a,p,k,x,c,d⟩:=f h1;exact⟨a,p,k,x,ZK _ c,d⟩
  ·rw[<- h1]at e;obtain⟨_,_,a,p,k,x,c,d,_⟩:=e;exact⟨a,p,k,x,ZK _ c,d⟩
def iX(a:List RX):List Nat:=a.filterMap λr=>match r with|.came n _ _ _ _=>some n|_=>none
def Mr{H:Hp}{o:ZR}{c:List RX}{e:List ZR}(q:RX.Whole c)(RR:RxsAt H o c e){n t:Nat}{p k:Str}{x:Dd}(f:.came n t p k x∈c):∃(a b:ZR)(t':Nat),aT (aP [] (cS "came" c e c.length)) (Sum.inl (n:Int))=some (.ref a)/\H a=some (.tup [.str "came",.int (n:Int),.int (t':Int),.str p,.str k,.ref b])/\H b=some (.tup x.vs):=by
 obtain⟨j,J,g,r,h,s,u,y⟩:=pE RR.len f (wd:="came") rfl;obtain⟨l,t',L,M,N,rfl⟩:=nP u;have z:n=l:=by
  have:(Sum.inl (n:Int):aX)=Sum.inl (l:Int):=y;injection this with this
  omega
 subst z;have A:=mJ q f (dB h);injection A with _ _ B C D
 subst B;subst C;subst D;obtain⟨O,Q,d,R,m,E⟩:=RR.get (i:=j) (v:=.ref g) (by rw[fB,s];rfl);injection d with d
 subst d;rw[h]at m;injection m with d
 subst d;obtain⟨F,G,I⟩:=E;exact⟨g,F,t',r,G,I⟩
def sX(wd:Str)(a:List RX)(k:aX):Bool:=a.any λr=>decide (gJ r=wd)&&decide (gK r=k)
def Bu{wd:Str}{b:List RX}{d:List ZR}(g:b.length=d.length)(k:aX):(aT (aP [] (cS wd b d b.length)) k).isSome=sX wd b k:=by
 cases h:sX wd b k with
 | true=>
  obtain⟨r,i,e⟩:=List.any_eq_true.mp h;rw[Bool.and_eq_true]at e;obtain⟨j,m,a,c,_⟩:=pE g i (ZW e.1);rw[ZW e.2]at c;rw[c];rfl
 | false=>
  cases c:aT (aP [] (cS wd b d b.length)) k with
  | none=>rfl
  | some v=>
   exfalso;rcases hX c with f|f
   ·obtain⟨j,r,a,_,g1,g2,g3,l,n⟩:=lK f;have:=List.any_eq_false.mp h r (dB g1);rw[ZU g3,ZU l.symm]at this;exact this rfl
   ·cases f
def Bv{c:List RX}(h:RX.Whole c):(iX c).Pairwise (·<·):=by
 induction h with
 | nil=>exact .nil
 | @snoc c r m f d=>
  have e:iX (c++[r])=iX c++iX [r]:=by unfold iX;rw[ZG]
  rw[e];cases r with
  | came n t p k x=>
   refine List.pairwise_append.mpr ⟨d,List.pairwise_singleton _ _,λa g b i=>?_⟩;have j:b=n:=Zms.mp i;subst j;obtain⟨r,l,e⟩:=mem_filterMap.mp g;cases r<;>cases e;exact f.1 _ _ _ _ _ l
  | _=>simpa [iX]using d
theorem qV{b:List RX}{c:List ZR}(f:b.length=c.length):∀i,i<=b.length->(cS "came" b c i).map (·.1)=(iX (b.take i)).map λn:Nat=>(Sum.inl (n:Int):aX)
 | 0,_=>rfl
 | i+1,j=>by
  obtain⟨r,d⟩:∃r,b[i]?=some r:=⟨b[i],cD Zo⟩;obtain⟨a,g⟩:∃a,c[i]?=some a:=⟨c[i],cD Zo⟩;have e:iX (b.take i++[r])=iX (b.take i)++iX [r]:=by unfold iX;rw[ZG]
  rw[gL d g,bJ d,e,gO,gO,qV f i Zo]
  congr 1
  unfold hV;by_cases h:gJ r="came"
  ·rw[ZO h];obtain⟨n,t,p,k,x,rfl⟩:=nP h;rfl
  ·rw[ZN h];cases r<;>first|rfl|exact ZM rfl h
def xG{c:List RX}{d:List ZR}(f:RX.Whole c)(g:c.length=d.length):aP [] (cS "came" c d c.length)=cS "came" c d c.length:=by
 rw[jE _ _ ?_ (λ_ _=>rfl)]
 ·rfl
 ·rw[qV g _ (bQ _),nT (bQ _)];show List.Pairwise (·≠·) _;rw[List.pairwise_map];exact(Bv f).imp λ{a b} h e=>by
   have:(Sum.inl (a:Int):aX)=Sum.inl (b:Int):=e;injection this with this
   omega
def Hm{r:RX}(h:gJ r="asked"):∃n,r=.asked n:=by
 cases r with
 | asked n=>exact⟨n,rfl⟩
 | has z m=>exact ZM (show("has":Str)="asked" from h) Zk
 | next n t=>exact ZM (show("next":Str)="asked" from h) Zk
 | kept n t p k x y=>exact ZM (show("kept":Str)="asked" from h) Zk
 | came n t p k x=>exact ZM (show("came":Str)="asked" from h) Zk
 | done n t y=>exact ZM (show("done":Str)="asked" from h) Zk
def vB(n:Nat):RX->Option An|.done m _ y=>if m=n then some y else none|_=>none
def kH(a:List RX)(n:Nat):List An:=a.filterMap (vB n)
def gM(a:List RX)(n:Nat)(x:Dd)(i:Nat):Str:=if sX "asked" a (Sum.inl (n:Int))=true then mZ x i (kH a n).head? else "none"
def pG(a:List RX)(n:Nat)(x:Dd):Nat->List (Str×Dd)->List Wt
 | _,[]=>[]
 | i,q::l=>⟨n,i,q.1,q.2,gM a n x i⟩::pG a n x (i+1) l
def gN(a:List RX):RX->List Wt|.came n _ _ _ x=>pG a n x 0 (cU x)|_=>[]
def cY(a:List RX):List Wt:=a.flatMap (gN a)
def WtAt(H:Hp)(w:Wt)(a:ZR):Prop:=∃t,H a=some (.tup [.int (w.n:Int),.int (w.i:Int),.str w.h,.ref t,.str w.w])/\H t=some (.tup w.d.vs)
def WtAt.tk{H b:Hp}(s:TK H b){q:Wt}{a:ZR}(h:WtAt H q a):WtAt b q a:=by obtain⟨t,c,d⟩:=h;exact⟨t,s _ _ c,s _ _ d⟩
theorem sY(a:List RX)(n:Nat)(x:Dd):∀(l:List (Str×Dd))(i j:Nat)(q:Str×Dd),l[j]?=some q->(pG a n x i l)[j]?=some ⟨n,i+j,q.1,q.2,gM a n x (i+j)⟩
 | [],_,_,_,h=>by cases h
 | z::l,i,0,q,h=>by cases h;rfl
 | z::l,i,j+1,q,h=>by
  have:=sY a n x l (i+1) j q h;rw[show i+1+j=i+(j+1) by omega]at this;exact this
theorem lN(a:List RX)(n:Nat)(x:Dd):∀(l:List (Str×Dd))(i:Nat),(pG a n x i l).length=l.length
 | [],_=>rfl
 | _::l,i=>congrArg (·+1) (lN a n x l (i+1))
def zE:Sp:=λvs H Q _=>∃(c:ZR)(a:List RX)(d:List ZR),vs=[.ref c]/\RxsAt H c a d/\a.length<=30/\RX.Whole a/\(∀r∈a,r.Ok)/\∀(l:ZR)(bs:List ZR)(b:Hp),H l=none->b l=some (.lst (bs.map V.ref))->Paired (WtAt b) (cY a) bs->Same H b->Q (.ref l) b
def zF{a:List RX}(h:RX.Whole a){n t b:Nat}{p k:Str}{x:Dd}{y:An}(c:.came n b p k x∈a)(d:.done n t y∈a):An.Of x y:=by
 obtain⟨i,j,l,m,f,g⟩:=Bt h d;have:=mJ h c f;injection this with _ _ _ _ e
 rw[e];exact g
def Hn{u v:V}{xs ys:List V}(h:nF u v=false):cJ (u::xs) (v::ys)=false:=by
 unfold cJ;rw[Bool.and_eq_false_iff];left;rw[all_eq_false];exact⟨0,Zs,by simpa using h⟩
def Zm{u v a b:V}{xs ys:List V}(h:nF u v=false):cJ (a::u::xs) (b::v::ys)=false:=by
 unfold cJ;rw[Bool.and_eq_false_iff];left;rw[all_eq_false];exact⟨1,Zs,by simpa using h⟩
def Bw{H:Hp}{r:RX}{a:ZR}(h:r.At H a)(n:Nat):∃xs,H a=some (.tup xs)/\dC xs [.str "asked",.int (n:Int)]/\cJ xs [.str "asked",.int (n:Int)]=(decide (gJ r="asked")&&decide (gK r=Sum.inl (n:Int))):=by
 have f:∀(u v:V)(z:List V),cI u=true->cI v=true->dC (u::v::z) [.str "asked",.int (n:Int)]:=λu v z g o j p q l i=>by
  match j,l,i with
  | 0,l,i=>cases l;cases i;exact⟨g,rfl⟩
  | 1,l,i=>cases l;cases i;exact⟨o,rfl⟩
  | j+2,l,i=>cases i
 cases r with
 | next m t=>exact⟨_,h,f _ _ _ rfl rfl,Hn Zk⟩
 | has z m=>exact⟨_,h,f _ _ _ rfl rfl,Hn Zk⟩
 | kept m t p k d y=>obtain⟨b,c,g,_⟩:=h;exact⟨_,g,f _ _ _ rfl rfl,Hn Zk⟩
 | came m t p k d=>obtain⟨b,g,_⟩:=h;exact⟨_,g,f _ _ _ rfl rfl,Hn Zk⟩
 | done m t y=>obtain⟨b,g,_⟩:=h;exact⟨_,g,f _ _ _ rfl rfl,Hn Zk⟩
 | asked m=>
  refine⟨_,h,f _ _ _ rfl rfl,?_⟩;show cJ [.str "asked",.int (m:Int)] [.str "asked",.int (n:Int)]=(true&&decide ((Sum.inl (m:Int):aX)=Sum.inl (n:Int)));by_cases e:m=n
  ·subst e;rw[kB (f _ _ _ rfl rfl)];simp
  ·rw[Zm (show nF (.int (m:Int)) (.int (n:Int))=false from beq_eq_false_iff_ne.mpr Zo),ZT (λz=>e (by injection z with z;omega))];rfl
def xH{c:List RX}{H:Hp}{d:List ZR}(k:Paired (λr a=>RX.At H a r) c d)(n:Nat):∃b:List (ZR×List V),b.map (·.1)=d/\(∀z∈b,H z.1=some (.tup z.2)/\dC z.2 [.str "asked",.int (n:Int)])/\Bh [.str "asked",.int (n:Int)] b=sX "asked" c (Sum.inl (n:Int)):=by
 induction k with
 | nil=>exact⟨[],rfl,(λ_ h=>nomatch h),rfl⟩
 | @cons r a c d h t l=>
  obtain⟨b,m,o,p⟩:=l;obtain⟨j,g,f,e⟩:=Bw h n;refine⟨(a,j)::b,by rw[map_cons,m],λq i=>?_,?_⟩
  ·rcases mem_cons.mp i with rfl|i
   ·exact⟨g,f⟩
   ·exact o q i
  ·show(cJ j _||Bh _ b)=(_||_);rw[p,e];rfl
def Ho(T:Txt K mg)(L1:aI P w K mg base 1 "_law_places" W5 pF)(yq:aI P w K mg base 2 "_law_want" QZP Hl)(D:DefAt K mg "_law_wants" eL ["_law_rows"]):aI P w K mg base 3 "_law_wants" ["_law_rows"] zE:=by
 refine D.gg bW (λa8 cdv b0 outer b1 a0 vs b2 b3 hr h=>?_)
 ·obtain⟨r,d,as,rfl,W,hl,hw,hok,a5⟩:=h;have z9:=hr.units;have le:=W.len;refine⟨_,(ko (ms (i:=1) bW.nd (re km)) (ko (FS PassesOwn.never rfl (wr (K:=K) (kl 0)) (oy (i:=2) bW.nd) (kz (oq (nw pi (li K 2) ku) (ko (R.ig (i:=3) bW.nd rfl (Or.inl rfl) rfl (js:=[none,some 2]) (N:=["_law_one","_law_row"]) (CompScope.by (aB eL) QZB rfl rfl Zk) (bM rfl) (wr (K:=K) (kl 0)) (λb4 s₂ H₂ fp=>⟨(oy (i:=0) (show(["_law_one","_law_row"]:List Str).Nodup by decide +kernel)),(R.dy (xz (T0 (nw pi (li K 0) ku) (R.dl (nw pi (li K 0) (li K 1)))))),(li K 0)⟩) rfl) (ko (ms (i:=4) bW.nd (lv L1 hr rfl (kj (li K 2) km))) (kz (FS PassesOwn.never rfl (R.dm rfl T.b_range (kj (ut (IN (K:=K)) rfl T.b_len cE (kj (kl 4) km)) km)) (oy (i:=5) bW.nd) (ko (ms (i:=6) bW.nd ku) (ko (oq (nw (R.iw z9) (mo (kj ku (kj (li K 2) km))) (kl 0)) (kz (ms (i:=6) bW.nd (lv yq hr rfl (kj (li K 2) (kj (kl 5) (kj (kl 3) km)))))) ot) (kz (u8 (J6 (K:=K) PySem.F.plainAttrs_list PySem.F.slot_list_append PySem.F.type_list_append U4 (kl 1) (kj (mo (kj (li K 2) (kj (kl 5) (kj (ou (v0 (K:=K)) (ou (tm (K:=K)) (kl 4) (kl 5)) kt) (kj (ou (v0 (K:=K)) (ou (tm (K:=K)) (kl 4) (kl 5)) kt) (kj (kl 6) km)))))) km)))))))))) ot))) (kz (om (kl 1))))),?_⟩;refine⟨fH rfl,λf ux=>?_⟩;have s1:=aH (o:=.lst []) ux;have g1:(aK a0 f (.lst [])) f=some (.lst []):=aA;dsimp only [aL];generalize aK a0 f (.lst [])=H1 at s1 g1;refine aQ (λp b=>∃(L M E u z:Option V)(bs:List ZR),p=[some (.ref r),some (.ref f),L,M,E,u,z]/\b f=some (.lst (bs.map V.ref))/\Paired (WtAt b) (cY d) bs/\Same a0 b) (λnx a9=>?_) ?_
  ·refine⟨r,rfl,⟨_,QZx (s1 _ _ W.lst)⟩,cF (bI K r (as.map V.ref)) (λi p b=>∃(L M E u z:Option V)(bs:List ZR),p=[some (.ref r),some (.ref f),L,M,E,u,z]/\b f=some (.lst (bs.map V.ref))/\Paired (WtAt b) ((d.take i).flatMap (gN d)) bs/\bs.length<=2*i/\Same a0 b) (λi p b ⟨_,_,_,_,_,_,_,_,_,_,s'⟩=>QZx (s' _ _ W.lst))
    ⟨_,_,_,_,_,[],rfl,g1,.nil,bQ _,s1⟩ ?_ ?_⟩
   ·rintro i v p O hv ⟨L,M,E,u,z,bs,rfl,A,F,lb,G⟩;have R2:=W.same G;obtain⟨a,a1,rfl,ha,pk,wx⟩:=R2.get hv;obtain⟨xs,a2,x0,x1,x2⟩:=uU wx;have YL:i<d.length:=(Zgs.mp pk).1;have wy:=bJ pk;refine⟨_,QZy a2,_,x0,?_⟩;show if decide (gJ a1="came")=true then _ else _
    refine cP (λh=>?_) (λh=>?_)
    ·obtain⟨n,t,a6,k,x,rfl⟩:=nP (ZW h);obtain⟨a3,gr,gb⟩:=wx;have yr:x.Ok:=(hok _ (dB pk)).2.2.2.2.2;have hm:=dB pk;refine aQ (λp b=>∃(s:ZR)(g:List ZR),p=[some (.ref r),some (.ref f),some (.ref a),some (.ref s),E,u,z]/\s≠f/\b s=some (.lst (g.map V.ref))/\Paired (λy c=>b c=some (.tup (An.vs y))) (kH d n) g/\Same O b) (λvc Q=>?_) ?_
     ·refine⟨r,rfl,⟨_,QZx R2.lst⟩,?_⟩;refine bO (bI K r (as.map V.ref)) (by rw[bF];omega) (λj ys b=>b=O/\∃g:List ZR,ys=g.map V.ref/\g.length<=j/\Paired (λy c=>O c=some (.tup (An.vs y))) ((d.take j).filterMap (vB n)) g) (λj ys b ⟨X,g,e,l',_⟩=>⟨by rw[X];exact QZx R2.lst,by rw[e,bF];exact l'⟩) ⟨rfl,[],rfl,bQ _,.nil⟩ (?_) (?_)
      ·rintro j v ys b U8 ⟨X,g,e,l',H⟩;subst X;obtain⟨a',Y,rfl,IQ,IS,CN⟩:=R2.get U8;obtain⟨z6,g',y0,y1,y2⟩:=uU CN;have CO:=bJ IS;have no:vB n Y=none->b=b/\∃g:List ZR,ys=g.map V.ref/\g.length<=j+1/\Paired (λy c=>b c=some (.tup (An.vs y))) ((d.take (j+1)).filterMap (vB n)) g:=λhn=>⟨rfl,g,e,Zo,by rw[CO,ZG,ZF,hn];simpa using H⟩
       refine⟨_,QZy g',_,y0,?_⟩;show if decide (gJ Y="done")=true then _ else _
       refine cP (λh'=>?_) (λh'=>?_)
       ·obtain⟨m,t',y,rfl⟩:=yZ (ZW h');obtain⟨cy,NQ,gy⟩:=CN;refine⟨_,QZy NQ,_,rfl,_,QZy gr,_,rfl,?_⟩;show if decide ((m:Int)=(n:Int))=true then _ else _
        refine cP (λZ=>?_) (λZ=>no ?_)
        ·have yt:m=n:=by have:=ZW Z;omega
         refine⟨_,QZy NQ,_,rfl,rfl,g++[cy],by rw[e,gO];rfl,by simp;omega,?_⟩;rw[CO,ZG,ZF,show vB n (.done m t' y)=some y from ZO yt];exact Gz H gy
        ·exact ZN (λa4=>ZV Z Zo)
       ·refine no ?_
        cases Y with
        | done m t' y=>exact ZM rfl (ZV h')
        | _=>rfl
      ·rintro ys b ⟨X,g,e,l',H⟩;intro s IT;subst X;rw[bF,<- le,nT (bQ _)]at H;exact Q _ _ ⟨s,g,rfl,(aD A IT).symm,by rw[aA,e],Paired.map' (λ_ _ h=>bH h IT) H,aH IT⟩
     rintro _ H3 ⟨s,g,rfl,SR,AG,H,s3⟩;refine⟨_,QZy (s3 _ _ gr),_,rfl,a3,x,rfl,s3 _ _ gb,λl ps H4 IU NR pl s4=>?_⟩;have B:=s3.trans s4;have IV:l≠f:=(aD (s3 _ _ A) IU).symm;have lp:=lM x;have J7:=pl.length;refine⟨_,.inl (QZx NR),((cU x).length:Int),by rw[bF,<- J7],Zo,Zo,?_⟩;refine cF (fE 0 ((cU x).length:Int).toNat) (λj p b=>∃(u z:Option V)(C:List ZR),p=[some (.ref r),some (.ref f),some (.ref a),some (.ref s),some (.ref l),u,z]/\b f=some (.lst (C.map V.ref))/\Paired (WtAt b) ((d.take i).flatMap (gN d)++(pG d n x 0 (cU x)).take j) C/\C.length<=2*i+j/\K1 f H4 b) (λ_ _ _ _=>trivial)
      ⟨_,_,bs,rfl,B _ _ A,by rw[List.take_zero,append_nil];exact Paired.map' (λ_ _ h=>h.tk B.tk) F,Zo,λ_ _ e _=>e⟩ ?_ ?_
     ·rintro j v p I SU ⟨IW,IY,C,rfl,FG,FH,NS,J⟩;obtain⟨rfl,hj⟩:=oZ SU;have C8:j<(cU x).length:=by omega
      have Y7:x.far=true:=by
       cases x with
       | send h a m=>rfl
       | fetch h a m=>rfl
       | pass h a2 a m=>rfl
       | _=>exact ZM C8 (not_lt_zero _)
      have S:TK H4 I:=λc xs e=>J _ _ e (bK e (B _ _ A) λa4=>nomatch a4)
      have IZ:=S _ _ (B _ _ gr);have EW:=S _ _ (B _ _ gb);have nra:r≠f:=aD W.lst ux;have R5:RxsAt I r d as:=(R2.same B).keep S (J _ _ (B _ _ R2.lst) nra);dsimp only [aL];refine aQ (λp b=>p=[some (.ref r),some (.ref f),some (.ref a),some (.ref s),some (.ref l),some (.int (j:Int)),some (.str "none")]/\b=I) (λvc Q=>Q _ _ ⟨rfl,rfl⟩) ?_;rintro _ a7 ⟨rfl,eG⟩;obtain rfl:I=a7:=eG.symm;refine aQ (λp b=>p=[some (.ref r),some (.ref f),some (.ref a),some (.ref s),some (.ref l),some (.int (j:Int)),some (.str (gM d n x j))]/\Same I b) (λvc Q=>?_) ?_
      ·refine oW (λv b=>v=sX "asked" d (Sum.inl (n:Int))/\Same I b) (λkk J8=>?_) ?_ ?_
       ·refine⟨_,QZy IZ,_,rfl,aS rfl,λtq H6 q g6=>?_⟩;obtain⟨zs,z1,z2,z3⟩:=xH (R5.same q).each n;refine⟨_,zs,g6,?_,z2,?_⟩
        ·rw[(R5.same q).lst,<- z1,map_map];rfl
        ·exact J8 _ _ ⟨z3,q⟩
       ·rintro H6 ⟨e6,q⟩;have JA:=q _ _ (J _ _ (s4 _ _ AG) SR);refine⟨_,QZy (q _ _ IZ),_,rfl,a3,s,x,j,kH d n,g,rfl,q _ _ EW,JA,Paired.map' (λ_ _ h=>q _ _ (S _ _ (s4 _ _ h))) H,λy hy=>?_,Y7,yr,λH7 s7=>?_⟩
        ·obtain⟨Y,JB,U⟩:=mem_filterMap.mp hy
         cases Y with
         | done m t' y'=>
          have U:(if m=n then some y' else none)=some y:=U;split at U
          ·rename_i yt;cases U;subst yt;exact zF hw hm JB
          ·cases U
         | _=>cases U
        ·refine Q _ _ ⟨?_,q.trans s7⟩;rw[show gM d n x j=mZ x j (kH d n).head? from ZO e6.symm];rfl
       ·rintro H6 ⟨e6,q⟩;refine Q _ _ ⟨?_,q⟩;rw[show gM d n x j="none" from ZN (by rw[<- e6];exact ZX)]
      rintro _ H6 ⟨rfl,q⟩;have NT:=q _ _ (J _ _ NR IV);have CP:j<ps.length:=by omega
      obtain⟨R3,tt,h1,Z⟩:=Paired.get' (j:=j) pl CP;have m8:=q _ _ (S _ _ h1);have CQ:gC (ps.map V.ref) (j:Int)=some (.ref ps[j]):=cV (by rw[fB,cD CP];rfl);refine⟨.inl ⟨rfl,_,QZx (q _ _ FG)⟩,_,QZy (q _ _ IZ),_,rfl,_,QZx NT,_,CQ,_,QZy m8,_,rfl,_,QZx NT,_,CQ,_,QZy m8,_,rfl,aS rfl,λw7 H7 s7 g7=>?_⟩;have FI:=q.trans s7;have NU:=FI _ _ FG;refine⟨f,_,_,rfl,rfl,NU,by rw[bF];exact jQ (m:=1000) Zo Zd,?_⟩;have JC:=lZ (ys:=C.map V.ref++[.ref w7]) NU;refine⟨_,_,C++[w7],rfl,by rw[aA,gO];rfl,?_,by simp;omega,λc o e n=>by rw[aF n];exact FI _ _ (J _ _ e n)⟩;have SV:(cU x)[j]?=some (cU x)[j]:=cD R3;have ew:=sY d n x (cU x) 0 j _ SV;rw[zero_add]at ew;rw[bJ ew,<- append_assoc];refine Gz (Paired.map' (λ_ _ h=>(h.tk FI.tk).tk JC) FH) ⟨tt,JC _ _ g7,JC _ _ (FI _ _ (S _ _ Z))⟩
     ·rintro p I ⟨IW,IY,C,rfl,FG,FH,NS,J⟩;rw[fA,show((cU x).length:Int).toNat=(cU x).length by omega,nT (l:=pG d n x 0 (cU x)) (by rw[lN];exact bQ _)]at FH;rw[fA]at NS;refine⟨_,_,_,_,_,C,rfl,FG,?_,Zo,λc o e=>J _ _ (B _ _ (G _ _ e)) (aD e ux)⟩;rw[wy,flatMap_append,ZE,flatMap_nil,append_nil];exact FH
    ·have ew:gN d a1=[]:=by
      cases a1 with
      | came n t a6 k x=>exact ZM rfl (ZV h)
      | _=>rfl
     refine⟨_,_,_,_,_,bs,rfl,A,?_,Zo,G⟩;rw[wy,flatMap_append,ZE,ew];simpa using F
   ·rintro p O ⟨L,M,E,u,z,bs,rfl,A,F,lb,G⟩;rw[bF,<- le,nT (bQ _)]at F;exact a9 _ _ ⟨_,_,_,_,_,bs,rfl,A,F,G⟩
  rintro p O ⟨L,M,E,u,z,bs,rfl,A,F,G⟩;exact a5 f bs O ux A F G
structure SA where
 s:Addr
 p:Addr
 a:HF
 d1:Addr
 d3:Addr
def SA.all(z:SA):List Addr:=[z.s,z.p,z.a.da,z.a.dc,z.a.de,z.d1,z.d3]
structure SS where
 am:List (Str×Int)
 en:List EN
 am1:List (Str×Int)
 k:Nat
 kv:List EN
structure StAt(C:ZR)(H:Hp)(z:SA)(x:SS)(L:Nat):Prop where
 lst:H z.s=some (.lst [.ref z.p,.ref z.d1,.int (x.k:Int),.ref z.d3])
 hs:HAt C H z.p z.a x.am (λ_=>false) x.en L
 h1:H z.d1=some (.dK (iP x.am1))
 h3:H z.d3=some (.dK (fM x.kv))
 e3:EAt H x.kv
 nd:z.all.Nodup
 l1:x.am1.length<=100
 l3:x.kv.length<=100
def Fs(z:SA)(H a:Hp):Prop:=∀c o,H c=some o->c∉z.all->a c=some o
def Fs.refl{z:SA}{H:Hp}:Fs z H H:=λ_ _ e _=>e
def Fs.trans{z:SA}{H a b:Hp}(f:Fs z H a)(g:Fs z a b):Fs z H b:=λc o e n=>g _ _ (f _ _ e n) n
def Fs.same{z:SA}{H a b:Hp}(f:Fs z H a)(g:Same a b):Fs z H b:=λc o e n=>g _ _ (f _ _ e n)
def StAt.no{C:ZR}{H:Hp}{z:SA}{x:SS}{L:Nat}(h:StAt C H z x L){c:ZR}(a:c∈z.all):∃o,H c=some o/\∀xs,o≠.tup xs:=by
 obtain⟨d,b,_⟩:=h.hs.hc;simp only [SA.all,mem_cons,ZH,or_false]at a;rcases a with rfl|rfl|rfl|rfl|rfl|rfl|rfl
 ·exact⟨_,h.lst,λ_ z=>nomatch z⟩
 ·exact⟨_,h.hs.hp,λ_ z=>nomatch z⟩
 ·exact⟨_,h.hs.ha,λ_ z=>nomatch z⟩
 ·exact⟨_,b,λ_ z=>nomatch z⟩
 ·exact⟨_,h.hs.he,λ_ z=>nomatch z⟩
 ·exact⟨_,h.h1,λ_ z=>nomatch z⟩
 ·exact⟨_,h.h3,λ_ z=>nomatch z⟩
def StAt.tk{C:ZR}{H a:Hp}{z:SA}{x:SS}{L:Nat}(h:StAt C H z x L)(f:Fs z H a):TK H a:=λc g e=>f _ _ e λd=>by
 obtain⟨o,b,n⟩:=h.no d;rw[e]at b;cases b;exact n _ rfl
def StAt.nn{C:ZR}{H:Hp}{z:SA}{x:SS}{L:Nat}(h:StAt C H z x L):z.s≠z.p/\z.s≠z.a.da/\z.s≠z.a.dc/\z.s≠z.a.de/\z.s≠z.d1/\z.s≠z.d3/\z.d1≠z.a.da/\z.d1≠z.a.dc/\z.d1≠z.a.de/\z.d3≠z.a.da/\z.d3≠z.a.dc/\z.d3≠z.a.de/\z.d1≠z.d3/\z.p≠z.d1/\z.p≠z.d3:=by
 have:=h.nd;simp only [SA.all,nodup_cons,mem_cons,ZH,or_false,not_or]at this;obtain⟨⟨a,b,c,d,e,f⟩,⟨_,_,_,g,i⟩,⟨_,_,j,k⟩,⟨_,l,m⟩,⟨n,o⟩,f1,_⟩:=this;exact⟨a,b,c,d,e,f,λz=>j z.symm,λz=>l z.symm,λz=>n z.symm,λz=>k z.symm,λz=>m z.symm,λz=>o z.symm,f1,g,i⟩
def StAt.same{C:ZR}{H a:Hp}{z:SA}{x:SS}{L:Nat}(h:StAt C H z x L)(s:Same H a):StAt C a z x L:=
 ⟨s _ _ h.lst,h.hs.same s,s _ _ h.h1,s _ _ h.h3,h.e3.keep (λ_ _ e=>s _ _ e),h.nd,h.l1,h.l3⟩
def StAt.more{C:ZR}{H:Hp}{z:SA}{x:SS}{L a:Nat}(h:StAt C H z x L)(b:L<=a):StAt C H z x a:=⟨h.lst,HAt.more h.hs b,h.h1,h.h3,h.e3,h.nd,h.l1,h.l3⟩
def StAt.other{C:ZR}{H a:Hp}{z z':SA}{x g:SS}{L i:Nat}(h:StAt C H z x L)(h':StAt C H z' g i)(f:Fs z' H a)(d:∀c∈z.all,c∉z'.all):StAt C a z x L:=by
 have tk:=h'.tk f;have k:∀c∈z.all,∀o,H c=some o->a c=some o:=λc j o e=>f _ _ e (d c j)
 obtain⟨b,l,m⟩:=h.hs.hc;refine⟨k _ (by simp[SA.all]) _ h.lst,⟨k _ (by simp[SA.all]) _ h.hs.hp,k _ (by simp[SA.all]) _ h.hs.ha,⟨b,k _ (by simp[SA.all]) _ l,m⟩,k _ (by simp[SA.all]) _ h.hs.he,h.hs.ents.keep tk,h.hs.nda,h.hs.nde,h.hs.la,h.hs.le,h.hs.ac,h.hs.ae,h.hs.ce⟩,k _ (by simp[SA.all]) _ h.h1,k _ (by simp[SA.all]) _ h.h3,h.e3.keep tk,h.nd,h.l1,h.l3⟩
def StAt.house{C:ZR}{H a:Hp}{z:SA}{x:SS}{L b:Nat}{am':List (Str×Int)}{d:List EN}(h:StAt C H z x L)(f:HAt C a z.p z.a am' (λ_=>false) d b)(k:∀c o,H c=some o->c≠z.a.da->c≠z.a.de->c≠z.a.dc->a c=some o):StAt C a z {x with am:=am',en:=d } b/\Fs z H a:=by
 obtain⟨t,g,i,j,u,v,l,m,p,q,r,s,y,A,B⟩:=h.nn;have fs:Fs z H a:=λc o e n=>k c o e (λz=>n (by rw[z];simp[SA.all])) (λz=>n (by rw[z];simp[SA.all])) (λz=>n (by rw[z];simp[SA.all]))
 exact⟨⟨k _ _ h.lst g j i,f,k _ _ h.h1 l p m,k _ _ h.h3 q s r,h.e3.keep (h.tk fs),h.nd,h.l1,h.l3⟩,fs⟩
def HAt.own{C:ZR}{H:Hp}{p c:ZR}{a:HF}{d:List (Str×Int)}{f:Str->Bool}{en:List EN}{L:Nat}{o g:HO}(h:HAt C H p a d f en L)(j:H c=some o)(l:∀xs,o≠.tup xs)(m:c≠p)(q:c≠a.da)(r:c≠a.dc)(s:c≠a.de):HAt C (aK H c g) p a d f en L:=by
 have k:∀b u,H b=some u->b≠c->(aK H c g) b=some u:=λb u e n=>by rw[aF n];exact e
 obtain⟨i,t,v⟩:=h.hc;exact⟨k _ _ h.hp m.symm,k _ _ h.ha q.symm,⟨i,k _ _ t r.symm,v⟩,k _ _ h.he s.symm,h.ents.keep (λb xs e=>k _ _ e (λz=>by rw[z,j]at e;cases e;exact l _ rfl)),h.nda,h.nde,h.la,h.le,h.ac,h.ae,h.ce⟩
def StAt.cnt{C:ZR}{H:Hp}{z:SA}{x:SS}{L:Nat}(h:StAt C H z x L)(k:Nat):StAt C (aK H z.s (.lst [.ref z.p,.ref z.d1,.int (k:Int),.ref z.d3])) z {x with k:=k } L/\Fs z H (aK H z.s (.lst [.ref z.p,.ref z.d1,.int (k:Int),.ref z.d3])):=by
 obtain⟨a,b,d,f,g,i,j,l,m,p,r,s,t,u,v⟩:=h.nn;have fs:Fs z H (aK H z.s (.lst [.ref z.p,.ref z.d1,.int (k:Int),.ref z.d3])):=λc o e n=>by rw[aF (λq=>n (by rw[q];simp[SA.all]))];exact e
 exact⟨⟨aA,h.hs.own h.lst (λ_ z=>nomatch z) a b d f,by rw[aF g.symm];exact h.h1,by rw[aF i.symm];exact h.h3,h.e3.keep (h.tk fs),h.nd,h.l1,h.l3⟩,fs⟩
def StAt.put1{C:ZR}{H:Hp}{z:SA}{x:SS}{L:Nat}(h:StAt C H z x L)(n:Str)(v:Int)(a:x.am1.length<100):StAt C (aK H z.d1 (.dK (iP (bS x.am1 n v)))) z {x with am1:=bS x.am1 n v } L/\Fs z H (aK H z.d1 (.dK (iP (bS x.am1 n v)))):=by
 obtain⟨k,l,p,r,b,s,d,f,g,t,u,y,i,j,A⟩:=h.nn;have fs:Fs z H (aK H z.d1 (.dK (iP (bS x.am1 n v)))):=λc o e m=>by rw[aF (λq=>m (by rw[q];simp[SA.all]))];exact e
 have:=uK x.am1 n v;exact⟨⟨by rw[aF b];exact h.lst,h.hs.own h.h1 (λ_ z=>nomatch z) j.symm d f g,aA,by rw[aF i.symm];exact h.h3,h.e3.keep (h.tk fs),h.nd,hZ this a,h.l3⟩,fs⟩
def StAt.put3{C:ZR}{H:Hp}{z:SA}{x:SS}{L:Nat}{kv':List EN}(h:StAt C H z x L)(a:EAt H kv')(b:kv'.length<=100):StAt C (aK H z.d3 (.dK (fM kv'))) z {x with kv:=kv' } L/\Fs z H (aK H z.d3 (.dK (fM kv'))):=by
 obtain⟨l,n,p,r,s,d,t,u,v,f,g,i,j,y,k⟩:=h.nn;have fs:Fs z H (aK H z.d3 (.dK (fM kv'))):=λc o e m=>by rw[aF (λq=>m (by rw[q];simp[SA.all]))];exact e
 exact⟨⟨by rw[aF d];exact h.lst,h.hs.own h.h3 (λ_ z=>nomatch z) k.symm f g i,by rw[aF j];exact h.h1,aA,a.keep (h.tk fs),h.nd,h.l1,b⟩,fs⟩
def qA(j:Nat):List Nat:=48::(bZ j).cps.toList
def Hq{c:Nat}(a:48<=c)(b:c<=57):c∈KLET:=by
 rcases(by omega:c=48∨c=49∨c=50∨c=51∨c=52∨c=53∨c=54∨c=55∨c=56∨c=57) with rfl|rfl|rfl|rfl|rfl|rfl|rfl|rfl|rfl|rfl<;>decide
def Hr{c:Nat}(h:c∈LET):c∈KLET:=by
 have:∀c∈LET,c∈KLET:=by decide
 exact this c h
def Wz{j:Nat}(h:j<=999999):mF (tx (qA j)):=by
 have a:=mL h;have b:(qA j).length=(bZ j).cps.toList.length+1:=rfl;refine⟨by rw[bD];omega,by rw[bD];omega,λc hc=>?_⟩;rw[mE]at hc;rcases mem_cons.mp hc with rfl|hc
 ·decide
 ·exact Hq (eF j c hc).1 (eF j c hc).2
def Xa{nm:List Nat}{n i:Nat}(b:nm.length<=5)(a:∀c∈nm,c∈LET)(h:n<=999999)(d:i<2):mF (tx (gD nm n i)):=by
 have e:=mL h;have f:(gD nm n i).length=nm.length+(bZ n).cps.toList.length+1:=by simp only [gD,kJ,vG,length_nil]
 refine⟨by rw[bD];omega,by rw[bD];omega,λc hc=>?_⟩;rw[mE]at hc;rcases Zma.mp hc with hc|hc
 ·rcases Zma.mp hc with hc|hc
  ·exact Hr (a c hc)
  ·exact Hq (eF n c hc).1 (eF n c hc).2
 ·rw[Zms.mp hc];rcases(by omega:i=0∨i=1) with rfl|rfl<;>decide
def sZ(C:ZR):Sp:=λvs H Q _=>∃(z:SA)(x:SS)(L:Nat)(wd nm:Str)(n:Nat)(b:Int)(c:List V),vs=[.ref z.s,.str wd,.str nm,.int (n:Int)]/\StAt C H z x L/\L<=490/\HD nm (n:Int) wd c b/\cR nm/\1<=n/\n<=1000000000000/\x.k<=98/\tx (qA (x.k+1))∉x.en.map (·.key)/\lP x.am (λ_=>false) wd nm (n:Int)=true/\x.am1.length<=98 ∧
 ∀a y,StAt C a z {x with am:=bS x.am nm (bE x.am nm+b),en:=x.en++[y],am1:=bS x.am1 nm (bE x.am1 nm+b),k:=x.k+1 } (L+1)->y.key=tx (qA (x.k+1))->Said y->Fs z H a->Q .non a
def Hs{C:ZR}(T:Txt K mg)(a4:yV K C)(v:kL P w K mg base 5 C "ask" W7 (uX C))(D:DefAt K mg "_law_spare" fW QZX):aI P w K mg base 6 "_law_spare" QZX (sZ C):=by
  refine D.gg sM (λa5 cdv a6 outer a7 H vs a8 b0 l a0=>?_)
  . obtain⟨z,x,L,wd,nm,n,b,h,rfl,st,hL,c,y,V4,O7,hk,A,B,E,a1⟩:=a0
    have p:=dQ l;refine⟨_,(ko (ww (lf sn (o0 K 0) kt) (AC (kl 0) kt R.ic)) (ko (u8 (NE v l (o0 K 0) (kj (lf Q6 ku (O4 R.fu rfl T.b_str lX (kj (o0 K 0) km))) (kj (mo (kj (kl 1) (kj (kl 2) (kj (kl 3) km)))) km)))) (kz (ww (lf sn (U0 p (o0 K 0) (kl 2) kt) (ou (tm (K:=K)) (re (kj (kl 3) (kj (zn (kl 3)) km))) (O4 R.dz rfl T.b_int jX (kj (wp pi (kl 1) ku) km)))) (AC (o0 K 0) (kl 2) (O3 p)))))),?_⟩;obtain⟨n1,n2,n3,n4,n5,n6,n7,n8,n9,AO,AQ,xa,ud,CS,CT⟩:=st.nn;refine⟨_,QZx st.lst,_,rfl,z.s,_,2,2,rfl,rfl,st.lst,rfl,?_⟩;obtain⟨a,f1⟩:=st.cnt (x.k+1);have F:aK H z.s (.lst ([V.ref z.p,.ref z.d1,.int (x.k:Int),.ref z.d3].set 2 (.int ((x.k:Int)+1))))=aK H z.s (.lst [.ref z.p,.ref z.d1,.int ((x.k+1:Nat):Int),.ref z.d3]):=rfl;dsimp only;rw[F];generalize aK H z.s (.lst [.ref z.p,.ref z.d1,.int ((x.k+1:Nat):Int),.ref z.d3])=H1 at a f1;have NV:(bZ (x.k+1)).cps.toList.length<=6:=mL Zo;have G:("0":Str)=tx [48]:=by decide +kernel
    have I:("0":Str)++bZ (x.k+1)=tx (qA (x.k+1)):=by rw[G,kG (x.k+1),cX];rfl
    have J:=Wz (j:=x.k+1) Zo;refine aQ (λu q=>∃(d e:ZR),u=[some (.ref z.s),some (.str wd),some (.str nm),some (.int (n:Int))]/\StAt C q z {x with am:=bS x.am nm (bE x.am nm+b),en:=x.en++[⟨tx (qA (x.k+1)),e,some (d,h),"yes"⟩],k:=x.k+1 } (L+1)/\Fs z H q) (λnx M=>?_) ?_
    . refine⟨_,QZx a.lst,_,rfl,z.a.dx,_,a.hs.hp,dR z.a Zk Zk Zk,_,QZx a.lst,_,rfl,⟨Zo,Int.lt_of_le_of_lt (by omega:((x.k+1:Nat):Int)<=999999) Zd⟩,?_,?_⟩
      . show("0":Str).length+(bZ (x.k+1)).length<=sizeLine
        have:(bZ (x.k+1)).length=(bZ (x.k+1)).cps.toList.length:=by simp[Str.length]
        have l1:("0":Str).length=1:=by decide +kernel
        exact eO (by rw[this];omega)
      . show fF _ _ _ _ _
        refine⟨aS rfl,λd N r g2=>?_⟩;have O:N d=some (.tup h):=by rw[g2];cases c<;>rfl
        have s:=a.same r;refine⟨z.p,d,z.a,x.am,_,x.en,L,nm,(n:Int),wd,h,b,tx (qA (x.k+1)),?_,s.hs,Zo,O,c,y,Zo,Zo,J,A,λH3 e t Q=>?_⟩
        . rw[<- I];rfl
        . rw[B]at t;obtain⟨S,U⟩:=s.house t (λa2 o W X m2 _=>Q a2 o W X m2)
          exact M _ _ ⟨d,e,rfl,S,((f1.same r).trans U)⟩
    rintro _ Y ⟨d,e,rfl,f,Z⟩;have hb:gC [V.int (n:Int),.int (-(n:Int))] (if decide (wd="take")=true then 1 else 0)=some (.int b):=by cases c<;>rfl
    refine⟨_,QZx f.lst,_,rfl,z.d1,rfl,.inl ⟨_,.inl f.h1⟩,_,DGet.k (k:=Sum.inr nm) f.h1,?_⟩;rw[kY];refine⟨fH rfl,λa3 hl=>⟨_,QZx aA,_,hb,?_⟩⟩;have i:=aH (o:=.lst [.int (n:Int),.int (-(n:Int))]) hl;have g:=f.same i;generalize aK Y a3 (.lst [.int (n:Int),.int (-(n:Int))])=H5 at i g;refine⟨_,QZx g.lst,_,rfl,z.d1,_,rfl,DPut.k (k:=Sum.inr nm) g.h1 (by unfold iP;rw[bF];exact jQ (m:=1000) (by have:x.am1.length<=98:=E;show x.am1.length<=1000;omega) Zd),?_⟩;rw[kZ];obtain⟨ql,f6⟩:=g.put1 nm (bE x.am1 nm+b) (by show x.am1.length<100;omega);exact a1 _ _ ql rfl (.of ⟨nm,_,wd,b,c⟩ (.inl rfl)) ((Z.same i).trans f6)
def qW(y y':EN):Prop:=y.key=y'.key/\y.dd.map (·.2)=y'.dd.map (·.2)/\y.word=y'.word
structure StOk(ws:List Str)(nm:List Nat)(x:SS):Prop where
 sub:∀q∈x.am,q.1∈ws
 eq1:∀n,bE x.am1 n=bE x.am n
 ge:∀n,0<=bE x.am n
 le:∀n,bE x.am n<=1000000000000
 nd1:(x.am1.map (·.1)).Nodup
 sub1:∀q∈x.am1,q.1∈ws
 nd3:(x.kv.map (·.key)).Nodup
 said:∀y∈x.en,Said y
 spk:∀y∈x.en,∀j,x.k<j->y.key≠tx (qA j)
 frn:∀y∈x.en,(∀n i,y.key≠tx (gD nm n i))∨∃y'∈x.kv,qW y y'
 back:∀y'∈x.kv,(∃n i,n<=999999/\i<2/\y'.key=tx (gD nm n i))/\∃y∈x.en,qW y y'
 kin:∀y∈x.en,(∃j,y.key=tx (qA (j+1)))∨∃n i,y.key=tx (gD nm n i)
structure kI(nm:List Nat):Prop where
 pos:1<=nm.length
 five:nm.length<=5
 lets:∀c∈nm,c∈LET
def iY{a b:List Nat}(h:tx a=tx b):a=b:=by rw[<- mE a,<- mE b,h]
def tD{a b:Nat}(h:(bZ a).cps.toList=(bZ b).cps.toList):a=b:=by rw[<- uD a,<- uD b,h]
def Td{a b:Nat}(h:tx (qA a)=tx (qA b)):a=b:=by
 have:=iY h;injection this with _ c
 exact tD c
def xI{nm:List Nat}(a:kI nm)(j n i:Nat):tx (qA j)≠tx (gD nm n i):=λh=>by
 have:=iY h
 match nm,a with
 | [],a=>exact ZM a.pos Zs
 | c::nm,a=>
  injection this with b _
  have:=a.lets c fP;rw[<- b]at this;exact ZM this Zd
def Ht{a:List (Str×Int)}{n:Str}{v:Int}{q:Str×Int}(h:q∈bS a n v):q.1∈a.map (·.1)∨q.1=n:=by
 have:∀l:List (Str×Int),q∈oU l n v->q.1∈l.map (·.1):=λl=>by
  intro h;have:=mem_map_of_mem (f:=(·.1)) h
  rwa [qS]at this
 unfold bS at h;split at h
 ·exact .inl (this a h)
 ·rcases Zma.mp h with h|h
  ·exact .inl (mem_map_of_mem h)
  ·rw[Zms.mp h];exact .inr rfl
def fN{ws:List Str}{a:List (Str×Int)}{n:Str}{v:Int}(b:∀q∈a,q.1∈ws)(c:n∈ws):∀q∈bS a n v,q.1∈ws:=λq d=>by
 rcases Ht d with h|h
 ·obtain⟨f,g,e⟩:=Zmm.mp h;rw[<- e];exact b f g
 ·rw[h];exact c
def Xb{xs:List Str}:∀ {ys:List Str},xs.Nodup->(∀x∈xs,x∈ys)->xs.length<=ys.length:=by
 induction xs with
 | nil=>exact λ_ _=>zero_le _
 | cons x r c=>
  intro ys d h;obtain⟨f,g⟩:=nodup_cons.mp d;have a:=h x fP;have:=c (ys:=ys.erase x) g λy b=>(List.mem_erase_of_ne (λe=>f (by rw[<- e];exact b))).mpr (h y (nD _ b))
  rw[List.length_erase_of_mem a]at this;have i:0<ys.length:=List.length_pos_of_mem a;rw[vG];omega
def nS{ws:List Str}{a:List (Str×Int)}(b:(a.map (·.1)).Nodup)(c:∀q∈a,q.1∈ws)(f:ws.length<=6):a.length<=6:=by
 have:=Xb (xs:=a.map (·.1)) (ys:=ws) b (λz d=>by obtain⟨q,e,rfl⟩:=Zmm.mp d;exact c q e);rw[bF]at this;omega
def StOk.pay{ws:List Str}{nm:List Nat}{x:SS}(h:StOk ws nm x)(o:kI nm){wd z:Str}{n:Nat}{b:Int}{xs:List V}{y:EN}(p:HD z (n:Int) wd xs b)(hz:z∈ws)(c:lP x.am (λ_=>false) wd z (n:Int)=true)(d:y.key=tx (qA (x.k+1)))(r:Said y) :
  StOk ws nm {x with am:=bS x.am z (bE x.am z+b),en:=x.en++[y],am1:=bS x.am1 z (bE x.am1 z+b),k:=x.k+1 }:=by
 have f:0<=bE x.am z+b/\bE x.am z+b<=1000000000000:=by
  have g:=h.ge z;have i:=h.le z
  cases p with
  | add=>
   have c:(!false&&decide (bE x.am z+(n:Int)<=1000000000000))=true:=c;have:=ZW (by simpa using c:decide (bE x.am z+(n:Int)<=1000000000000)=true);omega
  | take=>
   have c:decide ((n:Int)<=bE x.am z)=true:=c;have:=ZW c;omega
 refine⟨fN h.sub hz,λm=>?_,λm=>?_,λm=>?_,sG h.nd1,fN h.sub1 hz,h.nd3,λq a=>?_,λq a j l=>?_,λq a=>?_,λq a=>?_,λq a=>?_⟩
 ·show bE (bS x.am1 z _) m=bE (bS x.am z _) m;rw[bV,bV,h.eq1,h.eq1]
 ·show 0<=bE (bS x.am z _) m;rw[bV];split
  ·exact f.1
  ·exact h.ge m
 ·show bE (bS x.am z _) m<=_;rw[bV];split
  ·exact f.2
  ·exact h.le m
 ·rcases aG a with a|rfl
  ·exact h.said q a
  ·exact r
 ·have l:x.k+1<j:=l;rcases aG a with a|rfl
  ·exact h.spk q a j Zo
  ·rw[d];exact λe=>by have:=Td e;omega
 ·rcases aG a with a|rfl
  ·exact h.frn q a
  ·exact .inl λu v=>by rw[d];exact xI o _ _ _
 ·obtain⟨g,s,t,i⟩:=h.back q a;exact⟨g,s,ZK _ t,i⟩
 ·rcases aG a with a|rfl
  ·exact h.kin q a
  ·exact .inl ⟨x.k,d⟩
def zG{a:List (Str×Int)}{z:Str}{n:Int}(h:bE a z+n<=1000000000000):lP a (λ_=>false) "add" z n=true:=by
 show(!false&&decide (bE a z+n<=1000000000000))=true;rw[ZU h];rfl
def pH{a:List (Str×Int)}{z:Str}{n:Int}(h:n<=bE a z):lP a (λ_=>false) "take" z n=true:=ZU h
def vC{a:List (Str×Int)}{z:Str}(h:bE a z≠0):aT (iP a) (Sum.inr z)=some (.int (bE a z)):=by
 have:=kY a z
 cases e:aT (iP a) (Sum.inr z) with
 | none=>rw[e]at this;injection this with this;exact ZM this.symm h
 | some v=>rw[e]at this;rw[<- this];rfl
structure xJ(C:ZR)(ws:List Str)(nm:List Nat)(z:SA)(x:SS)(L:Nat)(H H':Hp)(x':SS):Prop where
 at_:StAt C H' z x' (L+1)
 ok:StOk ws nm x'
 kv:x'.kv=x.kv
 k:x'.k<=x.k+1
 len:x'.en.length<=x.en.length+1
 keys:∀ky:Str,ky∉x.en.map (·.key)->(∀j,ky≠tx (qA j))->ky∉x'.en.map (·.key)
 fs:Fs z H H'
def qX(C:ZR)(ws:List Str)(nm:List Nat):Sp:=λvs H Q _=>∃(z:SA)(x:SS)(L:Nat)(wd a:Str)(n:Nat)(b:Int)(e:List V)(t:ZR)(d:Bool),vs=[.ref z.s,.ref t,.bl d]/\StAt C H z x L/\L<=480/\StOk ws nm x/\kI nm/\ws.length<=6/\H t=some (.tup e)/\HD a (n:Int) wd e b/\a∈ws/\cR a/\1<=n/\n<=1000000000000/\x.k<=90 ∧
 ∀f c,xJ C ws nm z x L H f c->(wd="take"->if d=true then (n:Int)<=bE c.am a else bE c.am a<(n:Int))->(wd="add"->d=true->bE c.am a+(n:Int)<=1000000000000)->Q .non f
def xK{C:ZR}{ws:List Str}{nm:List Nat}(T:Txt K mg)(U:aI P w K mg base 6 "_law_spare" QZX (sZ C))(D:DefAt K mg "_law_brought" dY QZO):aI P w K mg base 7 "_law_brought" QZO (qX C ws nm):=by
 refine D.gg dN (λa1 cdv a2 outer a3 H vs a4 a5 O h=>?_)
 ·obtain⟨z,x,L,wd,a,n,a6,xs,t,yes,rfl,st,hL,ok,z8,nh,gt,hD,V1,B8,V4,O7,hk,q⟩:=h;have y:=dQ O;refine⟨_,(ko (ww (kl 1) (O6 (K:=K) (n:=3) rfl (tj (oy (i:=3) dN.nd) (tj (oy (i:=4) dN.nd) (tj (oy (i:=5) dN.nd) PP))))) (ko (R.fq PassesOwn.never (xz (T0 (nw pi (kl 3) ku) (T0 (wn (kl 2)) (R.dl (nw R.lt (U0 y (o0 K 0) (kl 4) kt) (kl 5)))))) (kz (u8 (lv U O rfl (kj (kl 0) (kj ku (kj (kl 4) (kj (ut (R.fj rfl) rfl T.b_min wI (kj (lf TW kt kt) (kj (lf UV (kl 5) (U0 y (o0 K 0) (kl 4) kt)) km))) km)))))))) (ko (R.fq PassesOwn.never (xz (T0 (nw pi (kl 3) ku) (T0 (FM (wn (kl 2))) (R.dl (nw R.ge (U0 y (o0 K 0) (kl 4) kt) (kl 5)))))) (kz (u8 (lv U O rfl (kj (kl 0) (kj ku (kj (kl 4) (kj (ut (R.fj rfl) rfl T.b_min wI (kj (lf TW kt kt) (kj (lf sn (lf UV (O5 y (o0 K 0) (kl 4)) (kl 5)) kt) km))) km)))))))) (kz (R.fq PassesOwn.never (xz (T0 (nw pi (kl 3) ku) (T0 (wn (kl 2)) (R.dl (nw R.gt (lf sn (U0 y (o0 K 0) (kl 4) kt) (kl 5)) (lf TW kt kt)))))) (kz (u8 (lv U O rfl (kj (kl 0) (kj ku (kj (kl 4) (kj (ut (R.fj rfl) rfl T.b_min wI (kj (lf TW kt kt) (kj (O5 y (o0 K 0) (kl 4)) km))) km)))))))))))),?_⟩;have E:(10:Int)^(12:Int).toNat=1000000000000:=by decide
  have wk:x.am1.length<=6:=nS ok.nd1 ok.sub1 nh;have SX:tx (qA (x.k+1))∉x.en.map (·.key):=λhm=>by
   obtain⟨a0,hy,e⟩:=Zmm.mp hm;exact ok.spk a0 hy (x.k+1) Zo e
  have hx:xs=[.str wd,.str a,.int (n:Int)]:=by cases hD<;>rfl
  subst hx;refine⟨t,_,rfl,QZy gt,rfl,_,_,rfl,_,_,rfl,_,_,rfl,rfl,?_⟩;dsimp only [aL];have Q:xJ C ws nm z x L H H x:=⟨st.more Zo,ok,rfl,Zo,Zo,λ_ h _=>h,Fs.refl⟩;have W:∀(F:Str)(m:Nat)(S:Int)(X:List V)(Y:V->Hp->Prop),HD a (m:Int) F X S->1<=m->m<=1000000000000->lP x.am (λ_=>false) F a (m:Int)=true->(∀v b c,xJ C ws nm z x L H b c->bE c.am a=bE x.am a+S->Y v b)->sZ C [.ref z.s,.str F,.str a,.int (m:Int)] H Y E0:=λF m S X Y AR m1 m2 hc hq=>
   ⟨z,x,L,F,a,m,S,X,rfl,st,Zo,AR,B8,m1,m2,Zo,SX,hc,Zo,λb a0 K0 ky sy GC=>hq _ b _ ⟨K0,ok.pay z8 AR V1 hc ky sy,rfl,bQ _,Zs,λk h1 h2 h3=>by
    obtain⟨q',Z,e⟩:=Zmm.mp h3;rcases aG Z with Z|rfl
    ·exact h1 (Zmm.mpr ⟨q',Z,e⟩)
    ·exact h2 (x.k+1) (by rw[<- e,ky]),GC⟩ (by show bE (bS x.am a _) a=_;rw[bV,ZO rfl])⟩
  have ge:=ok.ge a;have le:=ok.le a;have A:∀ {b:Hp}{c:SS}{L':Nat},StAt C b z c L'->StOk ws nm c->∃o,DGet b z.d1 (.str a) o/\o.getD (.int 0)=.int (bE c.am a):=λh h'=>⟨_,DGet.k (k:=Sum.inr a) h.h1,by rw[kY,h'.eq1]⟩
  cases hD with
  | take=>
   cases yes with
   | true=>
    refine aQ (λd b=>d=[some (.ref z.s),some (.ref t),some (.bl true),some (.str "take"),some (.str a),some (.int (n:Int))]/\∃c,xJ C ws nm z x L H b c/\(n:Int)<=bE c.am a) (λu g=>?_) ?_
    ·refine⟨λk d b=>d=[some (.ref z.s),some (.ref t),some (.bl true),some (.str "take"),some (.str a),some (.int (n:Int))]/\((k=1/\b=H)∨(k=0/\∃c,xJ C ws nm z x L H b c/\(n:Int)<=bE c.am a)),⟨1,rfl,.inl ⟨rfl,rfl⟩⟩,?_⟩;rintro k d b ⟨rfl,⟨rfl,rfl⟩|⟨rfl,c,f,p⟩⟩
     ·obtain⟨o,g1,g2⟩:=A st ok;refine⟨_,QZx st.lst,_,rfl,z.d1,rfl,.inl ⟨_,.inl st.h1⟩,o,g1,?_⟩;rw[g2];show if decide (bE x.am a<(n:Int))=true then _ else _
      refine cP (λh=>?_) (λh=>g _ _ ⟨rfl,x,Q,by have:=ZV h;omega⟩);have B2:=ZW h;refine⟨λr j=>r=[some (.ref z.s),some (.ref t),some (.bl true),some (.str "take"),some (.str a),some (.int (n:Int))]/\∃c,xJ C ws nm z x L b j c/\(n:Int)<=bE c.am a,λr j ⟨I,J⟩=>⟨0,Zo,I,.inr ⟨rfl,J⟩⟩,?_⟩;refine⟨⟨Zd,Zd,Zd⟩,_,QZx st.lst,_,rfl,z.d1,rfl,.inl ⟨_,.inl st.h1⟩,o,g1,?_⟩;rw[g2];dsimp only;rw[E];obtain⟨m,em⟩:∃m:Nat,(m:Int)=(n:Int)-bE x.am a:=⟨((n:Int)-bE x.am a).toNat,Zo⟩;have M:(if (n:Int)-bE x.am a<1000000000000 then (n:Int)-bE x.am a else 1000000000000)=(m:Int):=by split<;>omega
      have s:=W "add" m _ _ (λ_ j=>([some (.ref z.s),some (.ref t),some (.bl true),some (.str "take"),some (.str a),some (.int (n:Int))]:St)=[some (.ref z.s),some (.ref t),some (.bl true),some (.str "take"),some (.str a),some (.int (n:Int))]/\∃c,xJ C ws nm z x L b j c/\(n:Int)<=bE c.am a) .add Zo Zo (zG Zo) λv j c f N=>⟨rfl,c,f,by rw[N];omega⟩
      rw[<- M]at s;exact s
     ·obtain⟨o,g1,g2⟩:=A f.at_ f.ok;refine⟨_,QZx f.at_.lst,_,rfl,z.d1,rfl,.inl ⟨_,.inl f.at_.h1⟩,o,g1,?_⟩;rw[g2];show if decide (bE c.am a<(n:Int))=true then _ else _
      rw[ZT Zo,ZN ZX];exact g _ _ ⟨rfl,c,f,p⟩
    rintro _ B ⟨rfl,c,f,p⟩;refine aQ (λd b=>d=[some (.ref z.s),some (.ref t),some (.bl true),some (.str "take"),some (.str a),some (.int (n:Int))]/\b=B) (λu g=>⟨λk d b=>d=[some (.ref z.s),some (.ref t),some (.bl true),some (.str "take"),some (.str a),some (.int (n:Int))]/\b=B,⟨0,rfl,rfl⟩,λk d b h=>by obtain⟨rfl,rfl⟩:=h;exact g _ _ ⟨rfl,rfl⟩⟩) ?_;rintro _ G ⟨rfl,l⟩;obtain rfl:B=G:=l.symm;refine⟨λk d b=>d=[some (.ref z.s),some (.ref t),some (.bl true),some (.str "take"),some (.str a),some (.int (n:Int))]/\b=B,⟨0,rfl,rfl⟩,λk d b h=>?_⟩;obtain⟨rfl,rfl⟩:=h;exact q b c f (λ_=>p) (λh=>ZM h Zk)
   | false=>
    refine aQ (λd b=>d=[some (.ref z.s),some (.ref t),some (.bl false),some (.str "take"),some (.str a),some (.int (n:Int))]/\b=H) (λu g=>⟨λk d b=>d=[some (.ref z.s),some (.ref t),some (.bl false),some (.str "take"),some (.str a),some (.int (n:Int))]/\b=H,⟨0,rfl,rfl⟩,λk d b h=>by obtain⟨rfl,rfl⟩:=h;exact g _ _ ⟨rfl,rfl⟩⟩) ?_;rintro _ G ⟨rfl,l⟩;obtain rfl:H=G:=l.symm;refine aQ (λd b=>d=[some (.ref z.s),some (.ref t),some (.bl false),some (.str "take"),some (.str a),some (.int (n:Int))]/\∃c,xJ C ws nm z x L H b c/\bE c.am a<(n:Int)) (λu g=>?_) ?_
    ·refine⟨λk d b=>d=[some (.ref z.s),some (.ref t),some (.bl false),some (.str "take"),some (.str a),some (.int (n:Int))]/\((k=1/\b=H)∨(k=0/\∃c,xJ C ws nm z x L H b c/\bE c.am a<(n:Int))),⟨1,rfl,.inl ⟨rfl,rfl⟩⟩,?_⟩;rintro k d b ⟨rfl,⟨rfl,rfl⟩|⟨rfl,c,f,p⟩⟩
     ·obtain⟨o,g1,g2⟩:=A st ok;refine⟨_,QZx st.lst,_,rfl,z.d1,rfl,.inl ⟨_,.inl st.h1⟩,o,g1,?_⟩;rw[g2];show if decide ((n:Int)<=bE x.am a)=true then _ else _
      refine cP (λh=>?_) (λh=>g _ _ ⟨rfl,x,Q,by have:=ZV h;omega⟩);have B2:=ZW h;refine⟨λr j=>r=[some (.ref z.s),some (.ref t),some (.bl false),some (.str "take"),some (.str a),some (.int (n:Int))]/\∃c,xJ C ws nm z x L b j c/\bE c.am a<(n:Int),λr j ⟨I,J⟩=>⟨0,Zo,I,.inr ⟨rfl,J⟩⟩,?_⟩;have wm:DGet b z.d1 (.str a) (some (.int (bE x.am a))):=by
       have:=DGet.k (k:=Sum.inr a) st.h1;rw[vC (by rw[ok.eq1];omega),ok.eq1]at this;exact this
      refine⟨⟨Zd,Zd,Zd⟩,_,QZx st.lst,_,rfl,z.d1,_,rfl,wm,?_⟩;dsimp only;rw[E];obtain⟨m,em⟩:∃m:Nat,(m:Int)=bE x.am a-(n:Int)+1:=⟨(bE x.am a-(n:Int)+1).toNat,Zo⟩;have M:(if bE x.am a-(n:Int)+1<1000000000000 then bE x.am a-(n:Int)+1 else 1000000000000)=(m:Int):=by split<;>omega
      have s:=W "take" m _ _ (λ_ j=>([some (.ref z.s),some (.ref t),some (.bl false),some (.str "take"),some (.str a),some (.int (n:Int))]:St)=[some (.ref z.s),some (.ref t),some (.bl false),some (.str "take"),some (.str a),some (.int (n:Int))]/\∃c,xJ C ws nm z x L b j c/\bE c.am a<(n:Int)) .take Zo Zo (pH Zo) λv j c f N=>⟨rfl,c,f,by rw[N];omega⟩
      rw[<- M]at s;exact s
     ·obtain⟨o,g1,g2⟩:=A f.at_ f.ok;refine⟨_,QZx f.at_.lst,_,rfl,z.d1,rfl,.inl ⟨_,.inl f.at_.h1⟩,o,g1,?_⟩;rw[g2];show if decide ((n:Int)<=bE c.am a)=true then _ else _
      rw[ZT Zo,ZN ZX];exact g _ _ ⟨rfl,c,f,p⟩
    rintro _ B ⟨rfl,c,f,p⟩;refine⟨λk d b=>d=[some (.ref z.s),some (.ref t),some (.bl false),some (.str "take"),some (.str a),some (.int (n:Int))]/\b=B,⟨0,rfl,rfl⟩,λk d b h=>?_⟩;obtain⟨rfl,rfl⟩:=h;exact q b c f (λ_=>p) (λh=>ZM h Zk)
  | add=>
   cases yes with
   | true=>
    refine aQ (λd b=>d=[some (.ref z.s),some (.ref t),some (.bl true),some (.str "add"),some (.str a),some (.int (n:Int))]/\b=H) (λu g=>⟨λk d b=>d=[some (.ref z.s),some (.ref t),some (.bl true),some (.str "add"),some (.str a),some (.int (n:Int))]/\b=H,⟨0,rfl,rfl⟩,λk d b h=>by obtain⟨rfl,rfl⟩:=h;exact g _ _ ⟨rfl,rfl⟩⟩) ?_;rintro _ G ⟨rfl,l⟩;obtain rfl:H=G:=l.symm;refine aQ (λd b=>d=[some (.ref z.s),some (.ref t),some (.bl true),some (.str "add"),some (.str a),some (.int (n:Int))]/\b=H) (λu g=>⟨λk d b=>d=[some (.ref z.s),some (.ref t),some (.bl true),some (.str "add"),some (.str a),some (.int (n:Int))]/\b=H,⟨0,rfl,rfl⟩,λk d b h=>by obtain⟨rfl,rfl⟩:=h;exact g _ _ ⟨rfl,rfl⟩⟩) ?_;rintro _ G ⟨rfl,l⟩;obtain rfl:H=G:=l.symm;refine⟨λk d b=>d=[some (.ref z.s),some (.ref t),some (.bl true),some (.str "add"),some (.str a),some (.int (n:Int))]/\((k=1/\b=H)∨(k=0/\∃c,xJ C ws nm z x L H b c/\bE c.am a+(n:Int)<=1000000000000)),⟨1,rfl,.inl ⟨rfl,rfl⟩⟩,?_⟩;rintro k d b ⟨rfl,⟨rfl,rfl⟩|⟨rfl,c,f,p⟩⟩
    ·obtain⟨o,g1,g2⟩:=A st ok;refine⟨_,QZx st.lst,_,rfl,z.d1,rfl,.inl ⟨_,.inl st.h1⟩,o,g1,?_⟩;rw[g2];refine⟨⟨Zd,Zd,Zd⟩,?_⟩;dsimp only;rw[E];show if decide (1000000000000<bE x.am a+(n:Int))=true then _ else _
     refine cP (λh=>?_) (λh=>q b x Q (λh=>ZM h Zk) (λ_ _=>by have:=ZV h;omega));have B2:=ZW h;refine⟨λr j=>r=[some (.ref z.s),some (.ref t),some (.bl true),some (.str "add"),some (.str a),some (.int (n:Int))]/\∃c,xJ C ws nm z x L b j c/\bE c.am a+(n:Int)<=1000000000000,λr j ⟨I,J⟩=>⟨0,Zo,I,.inr ⟨rfl,J⟩⟩,?_⟩;have wm:DGet b z.d1 (.str a) (some (.int (bE x.am a))):=by
      have:=DGet.k (k:=Sum.inr a) st.h1;rw[vC (by rw[ok.eq1];omega),ok.eq1]at this;exact this
     refine⟨⟨Zd,Zd,Zd⟩,_,QZx st.lst,_,rfl,z.d1,_,rfl,wm,?_⟩;dsimp only;rw[E];obtain⟨m,em⟩:∃m:Nat,(m:Int)=bE x.am a:=⟨(bE x.am a).toNat,Zo⟩;have M:(if bE x.am a<1000000000000 then bE x.am a else 1000000000000)=(m:Int):=by split<;>omega
     have s:=W "take" m _ _ (λ_ j=>([some (.ref z.s),some (.ref t),some (.bl true),some (.str "add"),some (.str a),some (.int (n:Int))]:St)=[some (.ref z.s),some (.ref t),some (.bl true),some (.str "add"),some (.str a),some (.int (n:Int))]/\∃c,xJ C ws nm z x L b j c/\bE c.am a+(n:Int)<=1000000000000) .take Zo Zo (pH Zo) λv j c f N=>⟨rfl,c,f,by rw[N];omega⟩
     rw[<- M]at s;exact s
    ·obtain⟨o,g1,g2⟩:=A f.at_ f.ok;refine⟨_,QZx f.at_.lst,_,rfl,z.d1,rfl,.inl ⟨_,.inl f.at_.h1⟩,o,g1,?_⟩;rw[g2];refine⟨⟨Zd,Zd,Zd⟩,?_⟩;dsimp only;rw[E];show if decide (1000000000000<bE c.am a+(n:Int))=true then _ else _
     rw[ZT Zo,ZN ZX];exact q b c f (λh=>ZM h Zk) (λ_ _=>p)
   | false=>
    refine aQ (λd b=>d=[some (.ref z.s),some (.ref t),some (.bl false),some (.str "add"),some (.str a),some (.int (n:Int))]/\b=H) (λu g=>⟨λk d b=>d=[some (.ref z.s),some (.ref t),some (.bl false),some (.str "add"),some (.str a),some (.int (n:Int))]/\b=H,⟨0,rfl,rfl⟩,λk d b h=>by obtain⟨rfl,rfl⟩:=h;exact g _ _ ⟨rfl,rfl⟩⟩) ?_;rintro _ G ⟨rfl,l⟩;obtain rfl:H=G:=l.symm;refine aQ (λd b=>d=[some (.ref z.s),some (.ref t),some (.bl false),some (.str "add"),some (.str a),some (.int (n:Int))]/\b=H) (λu g=>⟨λk d b=>d=[some (.ref z.s),some (.ref t),some (.bl false),some (.str "add"),some (.str a),some (.int (n:Int))]/\b=H,⟨0,rfl,rfl⟩,λk d b h=>by obtain⟨rfl,rfl⟩:=h;exact g _ _ ⟨rfl,rfl⟩⟩) ?_;rintro _ G ⟨rfl,l⟩;obtain rfl:H=G:=l.symm;refine⟨λk d b=>d=[some (.ref z.s),some (.ref t),some (.bl false),some (.str "add"),some (.str a),some (.int (n:Int))]/\b=H,⟨0,rfl,rfl⟩,λk d b h=>?_⟩;obtain⟨rfl,rfl⟩:=h;exact q b x Q (λh=>ZM h Zk) (λ_ h=>ZM h ZX)
def tF:List Str:=["none","yes","no","undone","ahead"]
def pI(b kv':List EN)(ky:Str)(xs:List V)(a:Str):Prop:=
 if a="none" then kv'=b else ∃y,kv'=b++[y]/\y.key=ky/\y.dd.map (·.2)=(if a="ahead" then none else some xs)/\y.word=(if a="ahead" then ("undone":Str) else a)
structure DoneIs(C:ZR)(ws:List Str)(nm:List Nat)(z:SA)(x:SS)(L:Nat)(H H':Hp)(x':SS)(ky:Str)(xs:List V)(word:Str):Prop where
 at_:StAt C H' z x' (L+6)
 ok:StOk ws nm x'
 k:x'.k<=x.k+1
 len:x'.en.length<=x.en.length+2
 keys:∀q:Str,q≠ky->q∉x.en.map (·.key)->(∀j,q≠tx (qA j))->q∉x'.en.map (·.key)
 kv:pI x.kv x'.kv ky xs word
 fs:Fs z H H'
def DoneIs.same{C:ZR}{ws:List Str}{nm:List Nat}{z:SA}{x b:SS}{L:Nat}{H c d:Hp}{ky:Str}{xs:List V}{a:Str}(h:DoneIs C ws nm z x L H c b ky xs a)(s:Same c d):DoneIs C ws nm z x L H d b ky xs a:=⟨h.at_.same s,h.ok,h.k,h.len,h.keys,h.kv,h.fs.same s⟩
def vD(C:ZR)(ws:List Str)(nm:List Nat):Sp:=λvs H Q _=>∃(z:SA)(x:SS)(L:Nat)(wd c:Str)(n:Nat)(b:Int)(d:List V)(t:ZR)(a:Str)(m i:Nat),vs=[.ref z.s,.str (tx (gD nm m i)),.ref t,.str a]/\m<=999999/\i<2/\StAt C H z x L/\L<=470/\StOk ws nm x/\kI nm/\ws.length<=6/\H t=some (.tup d)/\HD c (n:Int) wd d b/\c∈ws/\cR c/\1<=n/\n<=1000000000000/\x.k<=90/\x.kv.length<=90/\tx (gD nm m i)∉x.en.map (·.key)/\a∈tF ∧
 ∀e f,DoneIs C ws nm z x L H e f (tx (gD nm m i)) d a->Q .non e
def Hu{ws:List Str}{nm:List Nat}{x:SS}(ok:StOk ws nm x){ky:Str}(h:ky∉x.en.map (·.key)):ky∉x.kv.map (·.key):=λa=>by
 obtain⟨b,c,e⟩:=Zmm.mp a;obtain⟨_,y,d,f,_⟩:=ok.back b c;exact h (Zmm.mpr ⟨y,d,by rw[f,e]⟩)
def StOk.add{ws:List Str}{nm:List Nat}{x:SS}(h:StOk ws nm x)(l:kI nm){m i:Nat}(o:m<=999999)(p:i<2){y y':EN}{am' am1':List (Str×Int)}(b:y.key=tx (gD nm m i))(r:Said y)(c:qW y y')(s:tx (gD nm m i)∉x.en.map (·.key))(t:∀q∈am',q.1∈ws)(u:∀q∈am1',q.1∈ws)(v:∀n,bE am1' n=bE am' n)(g1:∀n,0<=bE am' n/\bE am' n<=1000000000000)(z:(am1'.map (·.1)).Nodup) :
  StOk ws nm {x with am:=am',en:=x.en++[y],am1:=am1',kv:=x.kv++[y'] }:=by
 refine⟨t,v,λn=>(g1 n).1,λn=>(g1 n).2,z,u,?_,λq a=>?_,λq a j A=>?_,λq a=>?_,λq a=>?_,λq a=>?_⟩
 ·show((x.kv++[y']).map (·.key)).Nodup;rw[gO];refine kQ h.nd3 (λB=>Hu h s ?_);rw[<- b,c.1];exact B
 ·rcases aG a with a|rfl
  ·exact h.said q a
  ·exact r
 ·rcases aG a with a|rfl
  ·exact h.spk q a j A
  ·rw[b];exact λe=>xI l j m i e.symm
 ·rcases aG a with a|rfl
  ·rcases h.frn q a with d|⟨f,g,k⟩
   ·exact .inl d
   ·exact .inr ⟨f,ZK _ g,k⟩
  ·exact .inr ⟨y',ZJ _ fP,c⟩
 ·rcases aG a with a|rfl
  ·obtain⟨d,f,g,k⟩:=h.back q a;exact⟨d,f,ZK _ g,k⟩
  ·exact⟨⟨m,i,o,p,by rw[<- c.1,b]⟩,y,ZJ _ fP,c⟩
 ·rcases aG a with a|rfl
  ·exact h.kin q a
  ·exact .inr ⟨m,i,b⟩
def qY{en:List EN}{y:EN}{q:Str}(h:q∉en.map (·.key))(a:q≠y.key):q∉(en++[y]).map (·.key):=λhm=>by
 rw[gO]at hm;rcases Zma.mp hm with hm|hm
 ·exact h hm
 ·exact a (Zms.mp hm)
def qZ{en:List EN}{ky:Str}{y y':EN}(h:ky∉en.map (·.key))(a:y.key=ky):kD (en++[y]) ky y'=en++[y']:=by
 unfold kD;rw[gO,map_cons,map_nil,ZO a];congr 1
 conv=>rhs;rw[<- List.map_id en]
 exact map_congr_left λq b=>ZN λe=>h (by rw[<- e];exact mem_map_of_mem b)
def xL{C:ZR}{ws:List Str}{nm:List Nat}(T:Txt K mg)(a5:yV K C)(d5:kL P w K mg base 5 C "ask" W7 (uX C))(D0:kL P w K mg base 4 C "undo" QZT (Gv C))(c8:kL P w K mg base 1 C "close" ZB (jN C true))(L3:kL P w K mg base 1 C "reopen" ZB (jN C false))(nj:aI P w K mg base 7 "_law_brought" QZO (qX C ws nm))(D:DefAt K mg "_law_done_at" dZ QZN):aI P w K mg base 8 "_law_done_at" QZN (vD C ws nm):=by
 refine D.gg fL (λf cdv a6 outer a7 a0 vs a8 b0 hr h=>?_)
 ·obtain⟨z,x,L,wd,j,n,b,l,t,r,m,i,rfl,hm,hi,st,hL,ok,U,nh,gt,W,V1,B8,V4,O7,hk,CU,C9,qo,a1⟩:=h;have d6:=dQ hr;refine⟨_,(ko (ms (i:=4) fL.nd (o0 K 0)) (ko (oq (nw pi (kl 3) ku) (ko (u8 (NE D0 hr (kl 4) (kj (kl 1) km))) (kz (ww (mo (kj G8 (kj ku km))) (AC (o0 K 0) (kl 1) (O3 d6))))) ot) (ko (oq (nw (U3 (K:=K)) (kl 3) (mo (kj ku (kj ku km)))) (kz R.kg) ot) (ko (ms (i:=5) fL.nd (wp UF (kl 3) ku)) (ko (u8 (lv nj hr rfl (kj (kl 0) (kj (kl 2) (kj (kl 5) km))))) (ko (oq (xz (T0 (nw pi (li K 2) ku) (R.dl (FM (wn (kl 5)))))) (kz (u8 (NE c8 hr (kl 4) (kj (li K 2) km)))) ot) (ko (u8 (NE d5 hr (kl 4) (kj (kl 1) (kj (kl 2) km)))) (ko (u8 (NE L3 hr (kl 4) (kj (li K 2) km))) (ko (ww (mo (kj (kl 2) (kj (ou (tm (K:=K)) (re (kj ku (kj ku km))) (O4 R.dz rfl T.b_int jX (kj (kl 5) km))) km))) (AC (o0 K 0) (kl 1) (O3 d6))) (ko (oq (nw pi (kl 3) ku) (ko (u8 (NE D0 hr (kl 4) (kj (kl 1) km))) (kz (ww (mo (kj (kl 2) (kj ku km))) (AC (o0 K 0) (kl 1) (O3 d6))))) ot) (kz (oq (nw pi (kl 3) ku) (kz (ww (lf sn (U0 d6 (o0 K 0) (li K 2) kt) (ou (tm (K:=K)) (re (kj (li K 2) (kj (zn (li K 2)) km))) (O4 R.dz rfl T.b_int jX (kj (wp pi (li K 2) ku) km)))) (AC (o0 K 0) (li K 2) (O3 d6)))) ot)))))))))))),?_⟩;have X3:=Xa U.five U.lets hm hi;generalize ue:tx (gD nm m i)=ky at C9 a1 X3;refine⟨_,QZx st.lst,_,rfl,?_⟩;dsimp only [aL];have CV:=Hu ok C9;have qo:r="none"∨r="yes"∨r="no"∨r="undone"∨r="ahead":=by simpa [tF]using qo
  by_cases ha:r="ahead"
  ·subst ha;refine aQ (λu q=>∃o5,u=[some (.ref z.s),some (.str ky),some (.ref t),some (.str "ahead"),some (.ref z.p),o5]/\∃F,DoneIs C ws nm z x L a0 q F ky l "ahead") (λM s=>?_) ?_
   ·refine⟨z.a.dx,_,st.hs.hp,dR z.a Zk Zk Zk,z.p,z.a,x.am,_,x.en,L,ky,rfl,st.hs,Zo,X3,ok.said,λ_ H e zx k2=>?_,λy g e1=>ZM (Zmm.mpr ⟨y,g,e1⟩) C9,λy g e1=>ZM (Zmm.mpr ⟨y,g,e1⟩) C9⟩;obtain⟨E,f2⟩:=st.house zx (λc o e X m2 _=>k2 c o e X m2);refine⟨aS rfl,λt3 H3 s3 g3=>?_⟩;have pf:=E.same s3;refine⟨_,QZx pf.lst,_,rfl,z.d3,_,rfl,DPut.k (k:=Sum.inr ky) pf.h3 (by unfold fM;rw[bF];exact jQ (m:=1000) (by show x.kv.length<=1000;omega) Zd),?_⟩;have ep:bT (fM x.kv) (Sum.inr ky) (.ref t3)=fM (x.kv++[⟨ky,t3,none,"undone"⟩]):=lI (z:=⟨ky,t3,none,"undone"⟩) CV;obtain⟨vg,f4⟩:=pf.put3 (kv':=x.kv++[⟨ky,t3,none,"undone"⟩]) (λy g=>by
     rcases aG g with g|rfl
     ·exact pf.e3 y g
     ·exact⟨g3,λ_ _ e=>nomatch e⟩) (by rw[kJ];simp;omega)
    rw[<- ep]at vg f4;have SY:=ok.add U hm hi (y:=⟨ky,e,none,"undone"⟩) (y':=⟨ky,t3,none,"undone"⟩) (am':=x.am) (am1':=x.am1) ue.symm ⟨(λ_ e=>nomatch e),.inl rfl⟩ ⟨rfl,rfl,rfl⟩ (by rw[ue];exact C9) ok.sub ok.sub1 ok.eq1 (λn=>⟨ok.ge n,ok.le n⟩) ok.nd1;exact s _ _ ⟨_,rfl,_,vg.more Zo,SY,le_succ _,by show(x.en++[_]).length<=_;simp,λq' h1 Y h3=>qY Y h1,⟨_,rfl,rfl,rfl,rfl⟩,((f2.same s3).trans f4)⟩
   rintro _ H1 ⟨o5,rfl,F,dn⟩;refine⟨aS rfl,λtq H s2 g2=>⟨tq,_,rfl,.inr (QZy g2),rfl,rfl,?_⟩⟩;exact a1 H F (dn.same s2)
  have TB:decide (r="ahead")=false:=ZT ha;by_cases hn:r="none"
  ·subst hn;refine aQ (λu q=>∃o5,u=[some (.ref z.s),some (.str ky),some (.ref t),some (.str "none"),some (.ref z.p),o5]/\q=a0) (λM s=>s _ _ ⟨_,rfl,rfl⟩) ?_;rintro _ G ⟨o5,rfl,O⟩;obtain rfl:a0=G:=O.symm;refine⟨aS rfl,λtq H s2 g2=>⟨tq,_,rfl,.inr (QZy g2),rfl,rfl,?_⟩⟩;exact a1 H x ⟨(st.same s2).more Zo,ok,Zo,Zo,λ_ _ h _=>h,by unfold pI;rw[ZO rfl],Fs.refl.same s2⟩
  have NX:r="yes"∨r="no"∨r="undone":=by
   rcases qo with h|h|h|h|h
   ·exact ZM h hn
   ·exact .inl h
   ·exact .inr (.inl h)
   ·exact .inr (.inr h)
   ·exact ZM h ha
  obtain⟨p,mm⟩:∃p:Bool,p=!decide (r="no"):=⟨_,rfl⟩;refine aQ (λu q=>u=[some (.ref z.s),some (.str ky),some (.ref t),some (.str r),some (.ref z.p),none]/\q=a0) (λM s=>?_) ?_
  ·show if decide (r="ahead")=true then _ else _
   rw[TB,ZN ZX];exact s _ _ ⟨rfl,rfl⟩
  rintro _ G ⟨rfl,O⟩;obtain rfl:a0=G:=O.symm;refine kA (λv q=>v=false/\Same a0 q) (λkk J8=>?_) ?_ ?_
  ·refine⟨aS rfl,λtq H s2 g2=>⟨tq,_,rfl,.inr (QZy g2),rfl,rfl,?_⟩⟩;refine J8 _ _ ⟨?_,s2⟩;show kK (.str r) [.str "none",.str "ahead"]=false;rcases NX with rfl|rfl|rfl<;>decide +kernel
  ·rintro _ ⟨e,_⟩;cases e
  rintro H1 ⟨_,s1⟩;dsimp only [iH];refine aQ (λu q=>u=[some (.ref z.s),some (.str ky),some (.ref t),some (.str r),some (.ref z.p),some (.bl p)]/\q=H1) (λM s=>s _ _ ⟨by rw[mm];rfl,rfl⟩) ?_;rintro _ G ⟨rfl,O⟩;obtain rfl:H1=G:=O.symm;have xg:=st.same s1;refine aQ (λu q=>u=[some (.ref z.s),some (.str ky),some (.ref t),some (.str r),some (.ref z.p),some (.bl p)]/\∃F,xJ C ws nm z x L H1 q F/\(wd="take"->if p=true then (n:Int)<=bE F.am j else bE F.am j<(n:Int))/\(wd="add"->p=true->bE F.am j+(n:Int)<=1000000000000)) (λM s=>?_) ?_
  ·exact⟨z,x,L,wd,j,n,b,l,t,p,rfl,xg,Zo,ok,U,nh,s1 _ _ gt,W,V1,B8,V4,O7,hk,λH F d h1 Y=>s _ _ ⟨rfl,F,d,h1,Y⟩⟩
  rintro _ H ⟨rfl,a,d,hT,hA⟩;have Z:=xg.tk d.fs _ _ (s1 _ _ gt);have V6:ky∉a.en.map (·.key):=d.keys ky C9 (λa3=>by rw[<- ue];exact λe=>xI U a3 m i e.symm);have E:=d.at_;have hx:l=[.str wd,.str j,.int (n:Int)]:=by cases W<;>rfl
  refine aQ (λu q=>u=[some (.ref z.s),some (.str ky),some (.ref t),some (.str r),some (.ref z.p),some (.bl p)]/\∃cl:Str->Bool,HAt C q z.p z.a a.am cl a.en (L+2)/\(∀c o,H c=some o->c≠z.a.da->c≠z.a.de->c≠z.a.dc->q c=some o)/\(∀A,A≠j->cl A=false)/\lP a.am cl wd j (n:Int)=p) (λM s=>?_) ?_
  ·cases W with
   | take=>
    refine⟨_,QZy Z,_,rfl,?_⟩;refine s _ _ ⟨rfl,_,HAt.more E.hs Zo,λ_ _ e _ _ _=>e,λ_ _=>rfl,?_⟩;have h:=hT rfl
    cases p with
    | true=>exact pH h
    | false=>exact ZT (by have:bE a.am j<(n:Int):=h;omega)
   | add=>
    cases p with
    | true=>
     refine⟨_,QZy Z,_,rfl,?_⟩;exact s _ _ ⟨rfl,_,HAt.more E.hs Zo,λ_ _ e _ _ _=>e,λ_ _=>rfl,zG (hA rfl rfl)⟩
    | false=>
     refine⟨_,QZy Z,_,rfl,z.a.dx,_,E.hs.hp,dR z.a Zk Zk Zk,_,QZy Z,_,rfl,z.p,z.a,a.am,_,a.en,L+1,j,rfl,E.hs,Zo,λH3 h3 k3=>?_⟩;refine s _ _ ⟨rfl,_,h3,λc o e _ _ m3=>k3 c o e m3,λA O9=>ZN O9,?_⟩;show(!(if j=j then true else false)&&_)=false;rw[ZO rfl];rfl
  rintro _ H3 ⟨rfl,cl,h3,k3,BV,yu⟩;have TC:TK H H3:=λc ys e=>k3 c _ e (bK e E.hs.ha λz=>nomatch z) (bK e E.hs.he λz=>nomatch z) (by obtain⟨kvs,gc,_⟩:=E.hs.hc;exact bK e gc λz=>nomatch z)
  have wu:=TC _ _ Z;refine aQ (λu q=>u=[some (.ref z.s),some (.str ky),some (.ref t),some (.str r),some (.ref z.p),some (.bl p)]/\∃e,HAt C q z.p z.a (Ll a.am p j b) cl (a.en++[⟨ky,e,some (t,l),yn p⟩]) (L+3)/\(∀c o,H c=some o->c≠z.a.da->c≠z.a.de->c≠z.a.dc->q c=some o)) (λM s=>?_) ?_
  ·refine⟨z.a.dx,_,h3.hp,dR z.a Zk Zk Zk,z.p,t,z.a,a.am,cl,a.en,L+2,j,(n:Int),wd,l,b,ky,rfl,h3,Zo,wu,W,B8,Zo,Zo,X3,V6,λH4 e h4 k4=>?_⟩;rw[yu]at h4;exact s _ _ ⟨rfl,e,h4,λc o e' X m2 m3=>k4 c o (k3 c o e' X m2 m3) X m2⟩
  rintro _ H4 ⟨rfl,e,h4,k4⟩;have TF:TK H H4:=λc ys e=>k4 c _ e (bK e E.hs.ha λz=>nomatch z) (bK e E.hs.he λz=>nomatch z) (by obtain⟨kvs,gc,_⟩:=E.hs.hc;exact bK e gc λz=>nomatch z)
  have vf:=TF _ _ Z;have EV:gC l 1=some (.str j):=by rw[hx];rfl
  refine aQ (λu q=>u=[some (.ref z.s),some (.str ky),some (.ref t),some (.str r),some (.ref z.p),some (.bl p)]/\StAt C q z {a with am:=Ll a.am p j b,en:=a.en++[⟨ky,e,some (t,l),yn p⟩] } (L+4)/\Fs z H q) (λM s=>?_) ?_
  ·refine⟨z.a.dx,_,h4.hp,dR z.a Zk Zk Zk,_,QZy vf,_,EV,z.p,z.a,_,cl,_,L+3,j,rfl,h4,Zo,λH5 h5 k5=>?_⟩;have ec:(λA=>if A=j then false else cl A)=λ_=>false:=by
    funext A
    split
    ·rfl
    ·rename_i O9;exact BV A O9
   rw[ec]at h5;obtain⟨X1,f5⟩:=E.house h5 (λc o e' X m2 m3=>k5 c o (k4 c o e' X m2 m3) m3);exact s _ _ ⟨rfl,X1,f5⟩
  rintro _ H5 ⟨rfl,X1,f5⟩;have CW:ky∉a.kv.map (·.key):=by rw[d.kv];exact CV
  have JE:=E.tk f5 _ _ Z;have YM:a.kv.length<=90:=by rw[d.kv];exact CU
  refine aQ (λu q=>u=[some (.ref z.s),some (.str ky),some (.ref t),some (.str r),some (.ref z.p),some (.bl p)]/\∃I,StAt C q z {a with am:=Ll a.am p j b,en:=a.en++[⟨ky,e,some (t,l),yn p⟩],kv:=a.kv++[⟨ky,I,some (t,l),yn p⟩] } (L+4)/\Fs z H q) (λM s=>?_) ?_
  ·refine⟨fH rfl,λa2 hl=>⟨_,QZx aA,.str (yn p),by cases p <;> rfl,aS rfl,λI H7 s7 g7=>?_⟩⟩;have s6:=(aH (o:=.lst [.str "no",.str "yes"]) hl).trans s7;have N:=X1.same s6;refine⟨_,QZx N.lst,_,rfl,z.d3,_,rfl,DPut.k (k:=Sum.inr ky) N.h3 (by unfold fM;rw[bF];exact jQ (m:=1000) (by show a.kv.length<=1000;omega) Zd),?_⟩;have ep:bT (fM a.kv) (Sum.inr ky) (.ref I)=fM (a.kv++[⟨ky,I,some (t,l),yn p⟩]):=lI (z:=⟨ky,I,some (t,l),yn p⟩) CW;obtain⟨Q,f8⟩:=N.put3 (kv':=a.kv++[⟨ky,I,some (t,l),yn p⟩]) (λy g=>by
    rcases aG g with g|rfl
    ·exact N.e3 y g
    ·exact⟨g7,λa4 ys e=>by cases e;exact s6 _ _ JE⟩) (by rw[kJ];simp;omega)
   rw[<- ep]at Q f8;exact s _ _ ⟨rfl,I,Q,(f5.same s6).trans f8⟩
  rintro _ H6 ⟨rfl,I,S,f6⟩;have vi:=E.tk f6 _ _ Z;have FK:HDX l:=⟨_,_,_,_,W⟩;have JF:Fs z a0 H6:=((Fs.refl.same s1).trans d.fs).trans f6;have qr:∀ {y:EN},y.key=ky->∀q':Str,q'≠ky->q'∉x.en.map (·.key)->(∀a3,q'≠tx (qA a3))->q'∉(a.en++[y]).map (·.key):=λg q' h1 Y h3=>qY (d.keys q' Y h3) (by rw[g];exact h1)
  have yw:∀ {y:EN},(a.en++[y]).length<=x.en.length+2:=λ{y}=>by have:=d.len;rw[kJ];simp;omega
  have yx:∀(t':ZR),r≠"none"->r≠"ahead"->pI x.kv (a.kv++[⟨ky,t',some (t,l),r⟩]) ky l r:=λt' h1 Y=>by
   unfold pI;rw[ZN h1,ZN Y,ZN Y,d.kv];exact⟨_,rfl,rfl,rfl,rfl⟩
  have qt:tx (gD nm m i)∉a.en.map (·.key):=by rw[ue];exact V6
  have bounds:p=true->0<=bE a.am j+b/\bE a.am j+b<=1000000000000:=λg=>by
   have g1:=d.ok.ge j;have g2:=d.ok.le j
   cases W with
   | take=>have:=hT rfl;rw[ZO g]at this;omega
   | add=>have:=hA rfl g;omega
  rcases NX with rfl|rfl|rfl
  ·have ey:p=true:=by rw[mm];decide +kernel
   subst ey;refine aQ (λu q=>u=[some (.ref z.s),some (.str ky),some (.ref t),some (.str "yes"),some (.ref z.p),some (.bl true)]/\q=H6) (λM s=>s _ _ ⟨rfl,rfl⟩) ?_;rintro _ G ⟨rfl,O⟩;obtain rfl:H6=G:=O.symm;have hb:gC [V.int (n:Int),.int (-(n:Int))] (if decide (wd="take")=true then 1 else 0)=some (.int b):=by cases W<;>rfl
   have uz:gC l 0=some (.str wd):=by rw[hx];rfl
   have NY:gC l 2=some (.int (n:Int)):=by rw[hx];rfl
   refine⟨_,QZx S.lst,_,rfl,z.d1,rfl,.inl ⟨_,.inl S.h1⟩,_,QZy vi,_,EV,_,DGet.k (k:=Sum.inr j) S.h1,?_⟩;rw[kY];refine⟨_,QZy vi,_,NY,_,QZy vi,_,NY,fH rfl,λa2 hl=>?_⟩;have s7:=aH (o:=.lst [.int (n:Int),.int (-(n:Int))]) hl;have gl:(aK H6 a2 (.lst [.int (n:Int),.int (-(n:Int))])) a2=some (.lst [.int (n:Int),.int (-(n:Int))]):=aA;have N:=S.same s7;generalize aK H6 a2 (.lst [.int (n:Int),.int (-(n:Int))])=H7 at s7 gl N;have NZ:=s7 _ _ vi;refine⟨_,QZy NZ,_,uz,_,QZx gl,_,hb,_,QZx N.lst,_,rfl,_,QZy NZ,_,EV,z.d1,_,rfl,DPut.k (k:=Sum.inr j) N.h1 (by unfold iP;rw[bF];exact jQ (m:=1000) (by have:=nS d.ok.nd1 d.ok.sub1 nh;show a.am1.length<=1000;omega) Zd),?_⟩;rw[kZ];obtain⟨Q,f8⟩:=N.put1 j (bE a.am1 j+b) (by have:=nS d.ok.nd1 d.ok.sub1 nh;show a.am1.length<100;omega);have FL:=bounds rfl;have JG:=d.ok.add U hm hi (y:=⟨ky,e,some (t,l),"yes"⟩) (y':=⟨ky,I,some (t,l),"yes"⟩) (am':=bS a.am j (bE a.am j+b)) (am1':=bS a.am1 j (bE a.am1 j+b)) ue.symm (.of FK (.inl rfl)) ⟨rfl,rfl,rfl⟩ qt (fN d.ok.sub V1) (fN d.ok.sub1 V1) (λA=>by rw[bV,bV,d.ok.eq1,d.ok.eq1]) (λA=>by
    rw[bV];split
    ·exact FL
    ·exact⟨d.ok.ge A,d.ok.le A⟩) (sG d.ok.nd1)
   exact a1 _ _ ⟨Q.more Zo,JG,d.k,yw,qr rfl,yx I Zk Zk,(JF.same s7).trans f8⟩
  ·have ey:p=false:=by rw[mm];decide +kernel
   subst ey;refine aQ (λu q=>u=[some (.ref z.s),some (.str ky),some (.ref t),some (.str "no"),some (.ref z.p),some (.bl false)]/\q=H6) (λM s=>s _ _ ⟨rfl,rfl⟩) ?_;rintro _ G ⟨rfl,O⟩;obtain rfl:H6=G:=O.symm;have JG:=d.ok.add U hm hi (y:=⟨ky,e,some (t,l),"no"⟩) (y':=⟨ky,I,some (t,l),"no"⟩) (am':=a.am) (am1':=a.am1) ue.symm (.of FK (.inr rfl)) ⟨rfl,rfl,rfl⟩ qt d.ok.sub d.ok.sub1 d.ok.eq1 (λA=>⟨d.ok.ge A,d.ok.le A⟩) d.ok.nd1;exact a1 _ _ ⟨S.more Zo,JG,d.k,yw,qr rfl,yx I Zk Zk,JF⟩
  ·have ey:p=true:=by rw[mm];decide +kernel
   subst ey;have FL:=bounds rfl;have vd:(⟨ky,e,some (t,l),"yes"⟩:EN)∈a.en++[⟨ky,e,some (t,l),yn true⟩]:=ZJ _ fP;refine aQ (λu q=>u=[some (.ref z.s),some (.str ky),some (.ref t),some (.str "undone"),some (.ref z.p),some (.bl true)]/\∃F,DoneIs C ws nm z x L a0 q F ky l "undone") (λM s=>?_) ?_
   ·refine⟨z.a.dx,_,S.hs.hp,dR z.a Zk Zk Zk,z.p,z.a,_,_,_,L+4,ky,rfl,S.hs,Zo,X3,λy g=>?_,λh=>ZM (mem_map_of_mem (f:=(·.key)) vd) h,λy g e1 e2=>?_,λy g e1 _ a4 ys B n' ni J e3 AR H7 e7 h7 k7=>?_⟩
    ·rcases aG g with g|rfl
     ·exact d.ok.said y g
     ·exact .of FK (.inl rfl)
    ·exfalso;rcases aG g with g|rfl
     ·exact V6 (Zmm.mpr ⟨y,g,e1⟩)
     ·exact e2 rfl
    ·have ey:y=⟨ky,e,some (t,l),"yes"⟩:=by
      rcases aG g with g|rfl
      ·exact ZM (Zmm.mpr ⟨y,g,e1⟩) V6
      ·rfl
     subst ey;cases e3;have e4:B=j/\J=b:=by
      cases W<;>cases AR<;>exact⟨rfl,rfl⟩
     obtain⟨rfl,rfl⟩:=e4;rw[qZ V6 rfl]at h7;obtain⟨N,f7⟩:=S.house h7 (λc o e X m2 _=>k7 c o e X m2);refine⟨aS rfl,λt8 H8 s8 g8=>?_⟩;have Q:=N.same s8;refine⟨_,QZx Q.lst,_,rfl,z.d3,_,rfl,DPut.k (k:=Sum.inr ky) Q.h3 (by unfold fM;rw[bF];exact jQ (m:=1000) (by show(a.kv++[_]).length<=1000;simp;omega) Zd),?_⟩;have ep:bT (fM (a.kv++[⟨ky,I,some (t,l),yn true⟩])) (Sum.inr ky) (.ref t8)=fM (a.kv++[⟨ky,t8,some (t,l),"undone"⟩]):=by
      rw[pC (z':=⟨ky,t8,some (t,l),"undone"⟩) rfl (by rw[gO];exact ZJ _ fP),qZ CW rfl]
     obtain⟨OA,f9⟩:=Q.put3 (kv':=a.kv++[⟨ky,t8,some (t,l),"undone"⟩]) (λy g=>by
      rcases aG g with g|rfl
      ·exact Q.e3 y (ZK _ g)
      ·exact⟨g8,λa4 ys e=>by cases e;exact s8 _ _ (S.tk f7 _ _ vi)⟩) (by rw[kJ];simp;omega)
     rw[<- ep]at OA f9;have TH:=d.ok.add U hm hi (y:=⟨ky,e7,some (t,l),"undone"⟩) (y':=⟨ky,t8,some (t,l),"undone"⟩) (am':=bS (Ll a.am true B J) B (bE (Ll a.am true B J) B - J)) (am1':=a.am1) ue.symm ⟨λ_ e=>by cases e;exact FK,.inl rfl⟩ ⟨rfl,rfl,rfl⟩ qt (fN (fN d.ok.sub V1) V1) d.ok.sub1 (λA=>by
      show bE a.am1 A=bE (bS (bS a.am B (bE a.am B+J)) B (bE (bS a.am B (bE a.am B+J)) B-J)) A;rw[bV,bV,bV,ZO rfl,d.ok.eq1];split
      ·rename_i h;rw[h];omega
      ·rfl) (λA=>by
      show 0<=bE (bS (bS a.am B (bE a.am B+J)) B (bE (bS a.am B (bE a.am B+J)) B-J)) A/\bE (bS (bS a.am B (bE a.am B+J)) B (bE (bS a.am B (bE a.am B+J)) B-J)) A<=1000000000000;have g1:=d.ok.ge A;have g2:=d.ok.le A;rw[bV,bV,bV,ZO rfl];split
      ·rename_i h;rw[h]at g1 g2;omega
      ·exact⟨g1,g2⟩) d.ok.nd1
     exact s _ _ ⟨rfl,_,OA.more Zo,TH,d.k,yw,qr rfl,yx t8 Zk Zk,((JF.trans f7).same s8).trans f9⟩
   rintro _ H7 ⟨rfl,F,dn⟩;exact a1 H7 F dn
def Hv:List Str:=["none","any","yes","no","undone"]
def Hw(x:Dd)(i:Nat)(o:Option An):mZ x i o∈Hv:=by
 cases o with
 | none=>simp[mZ,Hv]
 | some y=>
  cases y with
  | no g=>
   show(if i<iW g ((cU x).map (·.1)) then ("undone":Str) else if i=iW g ((cU x).map (·.1)) then ("no":Str) else ("none":Str))∈Hv;split
   ·simp[Hv]
   ·split<;>simp[Hv]
  | _=>simp[mZ,Hv]
def Hx(a:List RX)(n:Nat)(x:Dd)(i:Nat):gM a n x i∈Hv:=by
 unfold gM;split
 ·exact Hw x i _
 ·simp[Hv]
def Hy:Sp:=λvs H Q _=>∃(d b:ZR)(w:Str),vs=[.ref d,.str w]/\Dk H d b/\w∈Hv/\∀(u:Str)(a:Hp),u∈tF->Fw d b H a->Q (.str u) a
def Ms(T:Txt K mg)(t:aI P w K mg base 1 "_law_draw" ZC cB)(D:DefAt K mg "_law_word" gZ QZM):aI P w K mg base 2 "_law_word" QZM Hy:=by
 refine D.gg fY (λf W A V s H vs a0 a1 v h=>?_)
 ·obtain⟨d,b,w,rfl,p,x,q⟩:=h;refine⟨_,(ko (ms (i:=2) fY.nd (kl 1)) (ko (oq (nw pi (kl 1) ku) (kz (ms (i:=2) fY.nd (ou (tm (K:=K)) (re (kj ku (kj ku (kj ku (kj ku km))))) (lv t v rfl (kj (kl 0) (kj kt km)))))) ot) (ko (oq (nw pi (lv t v rfl (kj (kl 0) (kj kt km))) kt) (kz (ms (i:=2) fY.nd (ou (tm (K:=K)) (re (kj ku (kj ku (kj ku (kj ku (kj ku km)))))) (lv t v rfl (kj (kl 0) (kj kt km)))))) ot) (kz (om (kl 2)))))),?_⟩;refine aQ (λg j=>g=[some (.ref d),some (.str w),some (.str w)]/\j=H) (λy a=>a _ _ ⟨rfl,rfl⟩) ?_;rintro _ G ⟨rfl,I⟩;obtain rfl:H=G:=I.symm;refine aQ (λg j=>∃u∈tF,g=[some (.ref d),some (.str w),some (.str u)]/\Fw d b H j) (λy a=>?_) ?_
  ·show if decide (w="any")=true then _ else _
   refine cP (λh=>?_) (λh=>?_)
   ·refine⟨fH rfl,λl e=>⟨d,b,4,rfl,p.new e,Zd,Zd,λr J z B L C=>?_⟩⟩;have k:=p.ne e;have c:=C l _ aA k.1 k.2;have f1:=((Fw.refl p).new (o:=.lst [.str "none",.str "yes",.str "no",.str "undone"]) e).draw L C;rcases Sl z B with rfl|rfl|rfl|rfl
    ·exact⟨_,QZx c,_,rfl,a _ _ ⟨"none",by simp[tF],rfl,f1⟩⟩
    ·exact⟨_,QZx c,_,rfl,a _ _ ⟨"yes",by simp[tF],rfl,f1⟩⟩
    ·exact⟨_,QZx c,_,rfl,a _ _ ⟨"no",by simp[tF],rfl,f1⟩⟩
    ·exact⟨_,QZx c,_,rfl,a _ _ ⟨"undone",by simp[tF],rfl,f1⟩⟩
   ·refine a _ _ ⟨w,?_,rfl,Fw.refl p⟩;have M:=ZV h;simp only [Hv,mem_cons,ZH,or_false]at x;rcases x with rfl|rfl|rfl|rfl|rfl
    ·simp[tF]
    ·exact ZM rfl M
    ·simp[tF]
    ·simp[tF]
    ·simp[tF]
  rintro _ J ⟨u,N,rfl,f1⟩;refine aQ (λg j=>∃u∈tF,g=[some (.ref d),some (.str w),some (.str u)]/\Fw d b H j) (λy a=>?_) ?_
  ·refine⟨d,b,8,rfl,f1.dk,Zd,Zd,λr E z B O Q=>?_⟩;have f2:=f1.draw O Q;show if decide (r=5)=true then _ else _
   refine cP (λh=>?_) (λh=>a _ _ ⟨u,N,rfl,f2⟩);refine⟨fH rfl,λl e=>⟨d,b,5,rfl,f2.dk.new e,Zd,Zd,λm X Y Z R F=>?_⟩⟩;have k:=f2.dk.ne e;have c:=F l _ aA k.1 k.2;have n:=(f2.new (o:=.lst [.str "none",.str "yes",.str "no",.str "undone",.str "ahead"]) e).draw R F;rcases(by omega:m=0∨m=1∨m=2∨m=3∨m=4) with rfl|rfl|rfl|rfl|rfl
   ·exact⟨_,QZx c,_,rfl,a _ _ ⟨"none",by simp[tF],rfl,n⟩⟩
   ·exact⟨_,QZx c,_,rfl,a _ _ ⟨"yes",by simp[tF],rfl,n⟩⟩
   ·exact⟨_,QZx c,_,rfl,a _ _ ⟨"no",by simp[tF],rfl,n⟩⟩
   ·exact⟨_,QZx c,_,rfl,a _ _ ⟨"undone",by simp[tF],rfl,n⟩⟩
   ·exact⟨_,QZx c,_,rfl,a _ _ ⟨"ahead",by simp[tF],rfl,n⟩⟩
  rintro _ E ⟨S,U,rfl,f2⟩;exact q S E U f2
def zH(nm:List Nat)(w:Wt):Str:=tx (gD nm w.n w.i)
abbrev Oc:=Option (Option (List V)×Str)
def Ua(y:EN):Option (List V)×Str:=(y.dd.map (·.2),y.word)
structure KvIs(nm:List Nat)(W:List Wt)(os:List Oc)(u:Str)(kv:List EN):Prop where
 from_:∀y∈kv,∃(k:Nat)(w:Wt),W[k]?=some w/\w.h=u/\y.key=zH nm w/\os[k]?=some (some (Ua y))
 to_:∀(k:Nat)(w:Wt) o,W[k]?=some w->w.h=u->os[k]?=some (some o)->∃y∈kv,y.key=zH nm w/\Ua y=o
def fO(W:List Wt)(i:Nat)(u:Str):Nat:=(W.take i).countP λw=>decide (w.h=u)
structure AllSt(C:ZR)(ws:List Str)(nm:List Nat)(W:List Wt)(H:Hp)(sd:ZR)(us:List Str)(zs:List SA)(xs:List SS)(i:Nat)(os:List Oc):Prop where
 dict:H sd=some (.dK ((us.zip zs).map λq=>((Sum.inr q.1:aX),V.ref q.2.s)))
 lz:zs.length=us.length
 lx:xs.length=us.length
 lo:os.length=i
 at_:∀(j:Nat) u z x,us[j]?=some u->zs[j]?=some z->xs[j]?=some x->StAt C H z x (100+6*fO W i u)
 ok:∀x∈xs,StOk ws nm x
 dis:∀(j k:Nat) z z',zs[j]?=some z->zs[k]?=some z'->j≠k->∀c∈z.all,c∉z'.all
 nsd:∀z∈zs,sd∉z.all
 bnd:∀(j:Nat) u x,us[j]?=some u->xs[j]?=some x->x.k<=fO W i u/\x.kv.length<=fO W i u/\x.en.length<=2*fO W i u
 kv:∀(j:Nat) u x,us[j]?=some u->xs[j]?=some x->KvIs nm W os u x.kv
def cK{a:Type}{xs:List a}{x y:a}{i:Nat}(h:(xs++[x])[i]?=some y):(i<xs.length/\xs[i]?=some y)∨(i=xs.length/\y=x):=by
 rcases lt_or_ge i xs.length with z|z
 ·rw[getElem?_append_left z]at h;exact .inl ⟨z,h⟩
 ·rw[List.getElem?_append_right z]at h;have b:=(Zgs.mp h).1;have:i=xs.length:=by simp at b;omega
  subst this;rw[Nat.sub_self]at h;cases h;exact .inr ⟨rfl,rfl⟩
def xM{nm:List Nat}{n c i b:Nat}(h:tx (gD nm n i)=tx (gD nm c b)):n=c/\i=b:=by
 have h:=iY h;unfold gD at h;rw[append_assoc,append_assoc]at h;have h:=List.append_cancel_left h;have a:=congrArg List.getLast? h;rw[List.getLast?_append,List.getLast?_append]at a;have a:some (97+i)=some (97+b):=a;injection a with a
 have d:=congrArg List.dropLast h;rw[List.dropLast_concat,List.dropLast_concat]at d;exact⟨tD d,Zo⟩
def jP{W:List Wt}{i:Nat}{w:Wt}(h:W[i]?=some w)(u:Str):fO W (i+1) u=fO W i u+if w.h=u then 1 else 0:=by
 unfold fO;rw[bJ h,List.countP_append,countP_cons,List.countP_nil];by_cases e:w.h=u<;>simp[e]
def vE(W:List Wt):Prop:=∀(k b:Nat)(w a:Wt),W[k]?=some w->W[b]?=some a->w.n=a.n->w.i=a.i->k=b
def AllSt.new{C:ZR}{ws:List Str}{nm:List Nat}{W:List Wt}{H:Hp}{f:ZR}{us:List Str}{g:List SA}{xs:List SS}{i:Nat}{os:List Oc}(h:AllSt C ws nm W H f us g xs i os)(l:vE W){w:Wt}(m:W[i]?=some w){j:Nat}{x:SS}(n:us[j]?=some w.h)(c:xs[j]?=some x):zH nm w∉x.en.map (·.key):=λo=>by
 obtain⟨y,p,e⟩:=Zmm.mp o;rcases(h.ok x (dB c)).frn y p with b|⟨d,q,b⟩
 ·exact b _ _ e
 ·obtain⟨k,a,r,_,s,t⟩:=(h.kv j _ x n c).from_ d q;have z:k<i:=by rw[<- h.lo];exact(Zgs.mp t).1
  obtain⟨u,v⟩:=xM (show tx (gD nm a.n a.i)=tx (gD nm w.n w.i) from by rw[<- show d.key=tx (gD nm a.n a.i) from s,<- b.1];exact e);have:=l _ _ _ _ r m u v;omega
def Ub(a:Str)(xs:List V):Oc:=if a="none" then none else some (if a="ahead" then none else some xs,if a="ahead" then ("undone":Str) else a)
def KvIs.far{nm:List Nat}{W:List Wt}{os:List Oc}{u:Str}{e:List EN}(h:KvIs nm W os u e){w:Wt}(i:W[os.length]?=some w)(j:w.h≠u)(o:Oc):KvIs nm W (os++[o]) u e:=by
 refine⟨λy l=>?_,λk d m a c b=>?_⟩
 ·obtain⟨k,d,a,c,b,f⟩:=h.from_ y l;exact⟨k,d,a,c,b,by rw[getElem?_append_left (Zgs.mp f).1];exact f⟩
 ·rcases cK b with⟨g,b⟩|⟨g,_⟩
  ·exact h.to_ k d m a c b
  ·rw[g,i]at a;cases a;exact ZM c j
def KvIs.near{nm:List Nat}{W:List Wt}{os:List Oc}{l kv':List EN}{w:Wt}(h:KvIs nm W os w.h l)(o:W[os.length]?=some w){xs:List V}{e:Str}(c:pI l kv' (zH nm w) xs e):KvIs nm W (os++[Ub e xs]) w.h kv':=by
 have n:∀y∈l,∃(k:Nat)(b:Wt),W[k]?=some b/\b.h=w.h/\y.key=zH nm b/\(os++[Ub e xs])[k]?=some (some (Ua y)):=λy s=>by
  obtain⟨k,b,d,f,a,i⟩:=h.from_ y s;exact⟨k,b,d,f,a,by rw[getElem?_append_left (Zgs.mp i).1];exact i⟩
 unfold pI at c;by_cases j:e="none"
 ·rw[ZO j]at c;subst c;refine⟨n,λk b m d f a=>?_⟩;rcases cK a with⟨_,a⟩|⟨_,a⟩
  ·exact h.to_ k b m d f a
  ·unfold Ub at a;rw[ZO j]at a;cases a
 ·rw[ZN j]at c;obtain⟨y,rfl,p,t,u⟩:=c;have r:Ub e xs=some (Ua y):=by unfold Ub Ua;rw[ZN j,t,u]
  refine⟨λq g=>?_,λk b m d f a=>?_⟩
  ·rcases aG g with g|rfl
   ·exact n q g
   ·exact⟨os.length,w,o,rfl,p,by rw[List.getElem?_append_right (bQ _),Nat.sub_self,r];rfl⟩
  ·rcases cK a with⟨_,a⟩|⟨c,a⟩
   ·obtain⟨q,g,i⟩:=h.to_ k b m d f a;exact⟨q,ZK _ g,i⟩
   ·rw[c,o]at d;cases d;rw[r]at a;exact⟨y,ZJ _ fP,p,by injection a with a;exact a.symm⟩
def AllSt.step{C:ZR}{ws:List Str}{nm:List Nat}{W:List Wt}{H r:Hp}{s:ZR}{us:List Str}{p:List SA}{xs:List SS}{i:Nat}{os:List Oc}(h:AllSt C ws nm W H s us p xs i os)(D:us.Nodup){w:Wt}(l:W[i]?=some w){j:Nat}{z:SA}{x m:SS}(k:us[j]?=some w.h)(hz:p[j]?=some z)(n:xs[j]?=some x){vs:List V}{q:Str}(g:DoneIs C ws nm z x (100+6*fO W i w.h) H r m (zH nm w) vs q):AllSt C ws nm W r s us p (xs.set j m) (i+1) (os++[Ub q vs]):=by
 have E:j<xs.length:=(Zgs.mp n).1;have t:W[os.length]?=some w:=by rw[h.lo];exact l
 have other:∀ {a:Nat}{f:Str},a≠j->us[a]?=some f->w.h≠f:=λ{a f} d b e=>by
  subst e;have u:=(Zgs.mp k);have v:=(Zgs.mp b);exact Gh D v.1 u.1 d (by rw[v.2,u.2])
 have same:∀ {a:Nat}{y:SS},(xs.set j m)[a]?=some y->(a=j/\y=m)∨(a≠j/\xs[a]?=some y):=λ{a y} e=>by
  by_cases d:a=j
  ·subst d;rw[getElem?_set_self E]at e;cases e;exact .inl ⟨rfl,rfl⟩
  ·rw[getElem?_set_ne (λz=>d z.symm)]at e;exact .inr ⟨d,e⟩
 have F:=h.at_ j _ z x k hz n;have I:=h.bnd j _ x k n;have A:fO W (i+1) w.h=fO W i w.h+1:=by rw[jP l,ZO rfl]
 refine⟨g.fs _ _ h.dict (h.nsd z (dB hz)),h.lz,by rw[length_set];exact h.lx,by rw[kJ,h.lo];rfl,λa f B y b o c=>?_,λy c=>?_,h.dis,h.nsd,λa f y b c=>?_,λa f y b c=>?_⟩
 ·rcases same c with⟨rfl,rfl⟩|⟨d,c⟩
  ·rw[k]at b;cases b;rw[hz]at o;cases o;rw[A,show 100+6*(fO W i w.h+1)=100+6*fO W i w.h+6 by omega];exact g.at_
  ·rw[jP l,ZN (other d b)];exact(h.at_ a f B y b o c).other F g.fs (h.dis a j B z o hz d)
 ·obtain⟨a,G⟩:=getElem?_of_mem c;rcases same G with⟨rfl,rfl⟩|⟨d,c⟩
  ·exact g.ok
  ·exact h.ok y (dB c)
 ·rcases same c with⟨rfl,rfl⟩|⟨d,c⟩
  ·rw[k]at b;cases b;rw[A];refine⟨by have:=g.k;omega,?_,by have:=g.len;omega⟩;have:=g.kv;unfold pI at this;split at this
   ·rw[this];omega
   ·obtain⟨J,e,_⟩:=this;rw[e,kJ];simp;omega
  ·rw[jP l,ZN (other d b)];exact h.bnd a f y b c
 ·rcases same c with⟨rfl,rfl⟩|⟨d,c⟩
  ·rw[k]at b;cases b;exact(h.kv a _ x k n).near t g.kv
  ·exact(h.kv a f y b c).far t (other d b) _
def Dk.dict{H:Hp}{d b a:ZR}{kvs:List (aX×V)}(D:Dk H d b)(g:H a=some (.dK kvs)):a≠d/\a≠b:=by
 obtain⟨h,s,k,c,f,i⟩:=D.ex;exact⟨(λe=>by rw[e,c]at g;cases g),(λe=>by rw[e,f]at g;cases g)⟩
def Fw.dict{d b a:ZR}{H c:Hp}{kvs:List (aX×V)}(f:Fw d b H c)(g:H a=some (.dK kvs)):c a=some (.dK kvs):=f.get g (Dk.dict f.d0 g).1 (Dk.dict f.d0 g).2
def Dk.tup{H:Hp}{d b a:ZR}{ys:List V}(D:Dk H d b)(g:H a=some (.tup ys)):a≠d/\a≠b:=by
 obtain⟨h,s,k,c,f,i⟩:=D.ex;exact⟨(λe=>by rw[e,c]at g;cases g),(λe=>by rw[e,f]at g;cases g)⟩
def Dk.fs{d b:ZR}{H a:Hp}{z:SA}(D:Dk H d b)(f:Fs z H a)(c:d∉z.all)(e:b∉z.all):Dk a d b:=by
 obtain⟨g,s,k,h,i,j⟩:=D.ex;exact⟨g,s,k,f _ _ h c,f _ _ i e,j⟩
def StAt.fw{C d b:ZR}{H a:Hp}{z:SA}{x:SS}{L:Nat}(h:StAt C H z x L)(f:Fw d b H a)(j:d∉z.all)(l:b∉z.all):StAt C a z x L:=by
 have k:∀c∈z.all,∀o,H c=some o->a c=some o:=λc g o e=>f.get e (λq=>j (q▸g)) (λq=>l (q▸g))
 obtain⟨i,m,n⟩:=h.hs.hc;exact⟨k _ (by simp[SA.all]) _ h.lst,⟨k _ (by simp[SA.all]) _ h.hs.hp,k _ (by simp[SA.all]) _ h.hs.ha,⟨i,k _ (by simp[SA.all]) _ m,n⟩,k _ (by simp[SA.all]) _ h.hs.he,h.hs.ents.keep f.tk,h.hs.nda,h.hs.nde,h.hs.la,h.hs.le,h.hs.ac,h.hs.ae,h.hs.ce⟩,k _ (by simp[SA.all]) _ h.h1,k _ (by simp[SA.all]) _ h.h3,h.e3.keep f.tk,h.nd,h.l1,h.l3⟩
section
variable {C:ZR}{ws:List Str}{nm:List Nat}{W:List Wt}{H H':Hp}{sd:ZR}{us:List Str}{zs:List SA}{xs:List SS}{i:Nat}{os:List Oc}
def AllSt.map{H H':Hp}(h:AllSt C ws nm W H sd us zs xs i os)(b:H' sd=H sd)(c:∀z∈zs,∀x L,StAt C H z x L->StAt C H' z x L):AllSt C ws nm W H' sd us zs xs i os:=
 ⟨by rw[b];exact h.dict,h.lz,h.lx,h.lo,λj u z x d a e=>c z (dB a) x _ (h.at_ j u z x d a e),h.ok,h.dis,h.nsd,h.bnd,h.kv⟩
def AllSt.same{H H':Hp}(h:AllSt C ws nm W H sd us zs xs i os)(s:Same H H'):AllSt C ws nm W H' sd us zs xs i os:=h.map (by rw[h.dict];exact s _ _ h.dict) λz _ x L st=>st.same s
def AllSt.fw{d b:ZR}{H H':Hp}(h:AllSt C ws nm W H sd us zs xs i os)(f:Fw d b H H')(hz:∀z∈zs,d∉z.all/\b∉z.all):AllSt C ws nm W H' sd us zs xs i os:=
 h.map (by rw[h.dict];exact f.dict h.dict) λz a x L st=>st.fw f (hz z a).1 (hz z a).2
def AllSt.obj(h:AllSt C ws nm W H sd us zs xs i os){z:SA}(hz:z∈zs){c:ZR}(b:c∈z.all):∃o,H c=some o/\∀ys,o≠.tup ys:=by
 obtain⟨j,a⟩:=getElem?_of_mem hz;have d:=(Zgs.mp a).1;have e:=h.lz;have f:=h.lx;exact(h.at_ j us[j] z xs[j] (cD Zo) a (cD Zo)).no b
end
def Fa(d b:ZR)(a:List SA)(H e:Hp):Prop:=∀c o,H c=some o->c≠d->c≠b->(∀z∈a,c∉z.all)->e c=some o
def Fa.trans{d b:ZR}{a:List SA}{H h i:Hp}(f:Fa d b a H h)(g:Fa d b a h i):Fa d b a H i:=λc o e j k l=>g c o (f c o e j k l) j k l
def Fa.of_fw{d b:ZR}{g:List SA}{H a:Hp}(f:Fw d b H a):Fa d b g H a:=λc o e h i _=>f.get e h i
def Fa.of_fs{d b:ZR}{a:List SA}{z:SA}(hz:z∈a){H g:Hp}(f:Fs z H g):Fa d b a H g:=λc o e _ _ h=>f c o e (h z hz)
structure xN(ws:List Str)(vs:List V):Prop where
 ex:∃(a wd:Str)(n:Nat)(b:Int),HD a (n:Int) wd vs b/\a∈ws/\cR a/\1<=n/\n<=1000000000000
structure Bx(ws us:List Str)(w:Wt):Prop where
 n:w.n<=999999
 i:w.i<2
 h:w.h∈us
 d:xN ws w.d.vs
 w:w.w∈Hv
def Mt(C:ZR)(ws:List Str)(nm:List Nat):Sp:=λvs H Q _=>∃(d b a h c:ZR)(W:List Wt)(bs:List ZR)(e:List Str)(f:List SA)(i:List SS),vs=[.ref d,.str (tx nm),.ref a,.ref h,.ref c]/\Dk H d b/\kI nm/\H a=some (.lst (bs.map V.ref))/\Paired (WtAt H) W bs/\AllSt C ws nm W H h e f i 0 []/\e.Nodup/\H c=some (.lst (ws.map V.str))/\Menu ws/\vE W/\(∀w∈W,Bx ws e w)/\(∀u,fO W W.length u<=30)/\(∀z∈f,d∉z.all/\b∉z.all/\a∉z.all/\c∉z.all)/\(a≠d/\a≠b/\c≠d/\c≠b)/\W.length<=100 ∧
 ∀j os g,AllSt C ws nm W g h e f j W.length os->Dk g d b->Fa d b f H g->Q .non g
def xO{us:List Str}{a:List SA}(c:us.Nodup){j:Nat}{u:Str}{z:SA}(b:us[j]?=some u)(hz:a[j]?=some z):aT ((us.zip a).map λq=>((Sum.inr q.1:aX),V.ref q.2.s)) (Sum.inr u)=some (.ref z.s):=by
 induction us generalizing a j with
 | nil=>cases b
 | cons v us d=>
  obtain⟨f,g⟩:=nodup_cons.mp c
  cases a with
  | nil=>cases hz
  | cons y a=>
   rw[List.zip_cons_cons,map_cons];cases j with
   | zero=>cases b;cases hz;exact bL rfl
   | succ j=>
    rw[bG (λe=>f (by rw[show v=u from Sum.inr.inj e];exact dB b))];exact d g b hz
def rA(W:List Wt)(u:Str){i j:Nat}(h:i<=j):fO W i u<=fO W j u:=by
 unfold fO;exact List.Sublist.countP_le (List.take_sublist_take_left h)
def Uc(d a b c t:ZR)(nm:List Nat)(w:Wt)(l:List (Option V)):St:=[some (.ref d),some (.str (tx nm)),some (.ref a),some (.ref b),some (.ref c),some (.int (w.n:Int)),some (.int (w.i:Int)),some (.str w.h),some (.ref t),some (.str w.w)]++l
def zI(C:ZR):Sp:=λvs H Q E=>∃a nm,Mt C a nm vs H Q E
def tG{C:ZR}(T:Txt K mg)(a7:aI P w K mg base 1 "_law_draw" ZC cB)(yy:aI P w K mg base 2 "_law_word" QZM Hy)(nk:∀ws nm,aI P w K mg base 8 "_law_done_at" QZN (vD C ws nm))(D:DefAt K mg "_law_asks_made" cW QZL):aI P w K mg base 9 "_law_asks_made" QZL (zI C):=by
 refine D.gg aO (λa8 cdv b0 outer b1 a3 vs b2 b3 hr h=>?_)
 ·obtain⟨ws,nm,d,b,q,m,y,W,bs,us,H,xs,rfl,dk,z8,gw,pw,al,P1,AG,mw,J1,X6,nq,uf,⟨n1,n2,n3,n4⟩,hW,a0⟩:=h;have d6:=dQ hr;have nv:=nk ws nm;refine⟨_,(kz (FS PassesOwn.never rfl (wr (K:=K) (kl 2)) (O6 (K:=K) (n:=5) rfl (tj (oy (i:=5) aO.nd) (tj (oy (i:=6) aO.nd) (tj (oy (i:=7) aO.nd) (tj (oy (i:=8) aO.nd) (tj (oy (i:=9) aO.nd) PP)))))) (ko (ms (i:=10) aO.nd (lv yy hr rfl (kj (kl 0) (kj (kl 9) km)))) (ko (ms (i:=11) aO.nd (kl 8)) (ko (ms (i:=12) aO.nd (lv a7 hr rfl (kj (kl 0) (kj kt km)))) (ko (oq (nw pi (kl 12) kt) (kz (ms (i:=11) aO.nd (mo (kj (li K 8) (kj (li K 8) (kj (lf sn kt (lf Q7 (li K 8) (lf TW kt kt))) km)))))) ot) (ko (oq (nw pi (kl 12) kt) (kz (ms (i:=11) aO.nd (mo (kj (li K 8) (kj (ou (tm (K:=K)) (kl 4) (lf Q7 (lf sn (J6 (K:=K) PySem.F.plainAttrs_list PySem.F.slot_list_index PySem.F.type_list_index R.fk (kl 4) (kj (li K 8) km)) kt) (ut (IN (K:=K)) rfl T.b_len cE (kj (kl 4) km)))) (kj (li K 8) km)))))) ot) (ko (oq (nw pi (kl 12) kt) (kz (ms (i:=11) aO.nd (mo (kj (O5 d6 (R.ji (R.dq ku ku (R.dq ku ku R.jj))) (li K 8)) (kj (li K 8) (kj (li K 8) km)))))) ot) (kz (u8 (lv nv hr rfl (kj (O5 d6 (kl 3) (kl 7)) (kj (lf Q6 (lf Q6 (kl 1) (O4 R.fu rfl T.b_str lX (kj (kl 5) km))) (ou R.iS ku (kl 6))) (kj (kl 11) (kj (kl 10) km))))))))))))))),?_⟩;have AS:=pw.length;refine⟨q,rfl,⟨_,QZx gw⟩,cF (bI K q (bs.map V.ref)) (λi c a=>∃(o5 o6 o7 o8 o9 w4 y9 N:Option V)(E:List SS)(os:List Oc),c=[some (.ref d),some (.str (tx nm)),some (.ref q),some (.ref m),some (.ref y),o5,o6,o7,o8,o9,w4,y9,N]/\AllSt C ws nm W a m us H E i os/\Dk a d b/\Fa d b H a3 a) (λi c a ⟨_,_,_,_,_,_,_,_,_,_,_,_,_,fa⟩=>QZx (fa _ _ gw n1 n2 λz A=>(uf z A).2.2.1))
   ⟨_,_,_,_,_,_,_,_,xs,[],rfl,al,dk,λ_ _ e _ _ _=>e⟩ ?_ ?_⟩
  ·rintro i v c s O ⟨o5,o6,o7,o8,o9,w4,y9,N,E,os,rfl,FN,FO,Q⟩;rw[fB]at O;cases hb:bs[i]? with
   | none=>rw[hb]at O;cases O
   | some a4=>
    rw[hb]at O;cases O;obtain⟨vb,ea⟩:=Zgs.mp hb;obtain⟨mv,t,ga,gt⟩:=Paired.get' (j:=i) pw vb;rw[ea]at ga;have vj:W[i]?=some W[i]:=cD mv;have x:=X6 _ (getElem_mem mv);generalize W[i]=w at ga gt vj x;have OB:TK a3 s:=λa2 ys e=>Q a2 _ e (Dk.tup dk e).1 (Dk.tup dk e).2 λz A hc=>by
     obtain⟨a5,e',no⟩:=al.obj A hc;rw[e]at e';cases e';exact no _ rfl
    have HW:=OB _ _ ga;have S:=OB _ _ gt;refine⟨a4,_,rfl,QZy HW,rfl,_,_,rfl,_,_,rfl,_,_,rfl,_,_,rfl,_,_,rfl,rfl,?_⟩;dsimp only [aL];have zb:∀z∈H,d∉z.all/\b∉z.all:=λz A=>⟨(uf z A).1,(uf z A).2.1⟩
    obtain⟨F,wd,n,bb,I,U,B8,V4,O7⟩:=x.d.ex;have TL:w.d.vs=[.str wd,.str F,.int (n:Int)]:=by generalize w.d.vs=a0 at I;cases I<;>rfl
    have mk:∀(J:Str)(l:Nat),J∈ws->cR J->1<=l->l<=1000000000000->xN ws [.str wd,.str J,.int (l:Int)]:=λJ l h1 h2 h3 h4=>by
     generalize w.d.vs=a0 at I;cases I with
     | add=>exact⟨J,_,l,_,.add,h1,h2,h3,h4⟩
     | take=>exact⟨J,_,l,_,.take,h1,h2,h3,h4⟩
    have JH:s y=some (.lst (ws.map V.str)):=Q _ _ AG n3 n4 λz A=>(uf z A).2.2.2
    rw[TL]at S;refine aQ (λc a=>∃u∈tF,c=Uc d q m y t nm w [some (.str u),y9,N]/\Fw d b s a) (λX f=>⟨d,b,w.w,rfl,FO,x.w,λu H2 hu f2=>f _ _ ⟨u,hu,rfl,f2⟩⟩) ?_;rintro _ H2 ⟨u,hu,rfl,f2⟩;refine aQ (λc a=>c=Uc d q m y t nm w [some (.str u),some (.ref t),N]/\a=H2) (λX f=>f _ _ ⟨rfl,rfl⟩) ?_;rintro _ a6 ⟨rfl,eG⟩;obtain rfl:H2=a6:=eG.symm;refine aQ (λc a=>∃r:Int,c=Uc d q m y t nm w [some (.str u),some (.ref t),some (.int r)]/\Fw d b s a) (λX f=>⟨d,b,24,rfl,f2.dk,Zd,Zd,λr H3 _ _ D3 k3=>f _ _ ⟨r,rfl,f2.draw D3 k3⟩⟩) ?_;rintro _ H3 ⟨r,rfl,f3⟩;have qm:(10:Int)^(12:Int).toNat=1000000000000:=by decide
    refine aQ (λc a=>∃g B,c=Uc d q m y t nm w [some (.str u),some (.ref g),some (.int r)]/\a g=some (.tup B)/\xN ws B/\Fw d b s a) (λX f=>?_) ?_
    ·show if decide (r=7)=true then _ else _
     refine cP (λh=>?_) (λh=>f _ _ ⟨t,_,rfl,f3.tup S,mk F n U B8 V4 O7,f3⟩);have wu:=f3.tup S;refine⟨_,QZy wu,_,rfl,_,QZy wu,_,rfl,_,QZy wu,_,rfl,⟨Zd,Zd,Zd⟩,?_⟩;dsimp only;rw[qm];refine⟨show(0:Int)<1000000000000 by decide,aS rfl,λg H4 s4 g4=>?_⟩;obtain⟨l,em⟩:∃l:Nat,(l:Int)=1+(n:Int)%1000000000000:=⟨(1+(n:Int)%1000000000000).toNat,Zo⟩;refine f _ _ ⟨g,[.str wd,.str F,.int (l:Int)],rfl,by rw[g4,em],mk F l U B8 Zo Zo,f3.same s4⟩
    rintro _ H4 ⟨t4,v4,rfl,g4,xb,f4⟩;refine aQ (λc a=>∃g B,c=Uc d q m y t nm w [some (.str u),some (.ref g),some (.int r)]/\a g=some (.tup B)/\xN ws B/\Fw d b s a) (λX f=>?_) ?_
    ·show if decide (r=8)=true then _ else _
     refine cP (λh=>?_) (λh=>f _ _ ⟨t4,v4,rfl,g4,xb,f4⟩);have vf:=f4.tup S;have vk:=f4.get JH n3 n4;have w2:=mw.two;refine⟨_,QZy vf,_,rfl,.inl ⟨rfl,_,QZx vk⟩,_,QZy vf,_,rfl,ws,vk,U,λj G=>?_⟩;have ej:((j:Int)+1)%((ws.map V.str).length:Int)=(((j+1)%ws.length:Nat):Int):=by
      rw[bF,Int.natCast_emod];rfl
     have CM:(j+1)%ws.length<ws.length:=mod_lt _ Zo;refine⟨_,.inl (QZx vk),by rw[bF];omega,_,QZx vk,V.str ws[(j+1)%ws.length],?_,_,QZy vf,_,rfl,aS rfl,λg Y s5 g5=>?_⟩
     ·rw[ej];exact cV (by rw[fB,cD CM];rfl)
     ·exact f _ _ ⟨g,_,rfl,g5,mk _ n (getElem_mem CM) (mw.nm CM) V4 O7,f4.same s5⟩
    rintro _ Y ⟨t5,v5,rfl,g5,TM,f5⟩;refine aQ (λc a=>∃g B,c=Uc d q m y t nm w [some (.str u),some (.ref g),some (.int r)]/\a g=some (.tup B)/\xN ws B/\Fw d b s a) (λX f=>?_) ?_
    ·show if decide (r=9)=true then _ else _
     refine cP (λh=>?_) (λh=>f _ _ ⟨t5,v5,rfl,g5,TM,f5⟩);have JE:=f5.tup S;obtain⟨L,CZ,JI⟩:∃L:Str,aT (aP [] [((Sum.inr ("add":Str):aX),V.str "take"),(Sum.inr ("take":Str),.str "add")]) (Sum.inr wd)=some (.str L)/\xN ws [.str L,.str F,.int (n:Int)]:=by
      generalize w.d.vs=a0 at I;cases I with
      | add=>exact⟨"take",Zk,F,_,n,_,.take,U,B8,V4,O7⟩
      | take=>exact⟨"add",Zk,F,_,n,_,.add,U,B8,V4,O7⟩
     refine λp hp=>⟨aA,[((Sum.inr ("add":Str):aX),V.str "take"),(Sum.inr ("take":Str),.str "add")],rfl,ZL rfl,?_⟩;have s6:Same Y (aK (aK Y p (.dK [])) p (.dK (aP [] [((Sum.inr ("add":Str):aX),V.str "take"),(Sum.inr ("take":Str),.str "add")]))):=λa2 a5 e=>by
      have hc:a2≠p:=aD e hp;rw[aF hc,aF hc];exact e
     have gp:(aK (aK Y p (.dK [])) p (.dK (aP [] [((Sum.inr ("add":Str):aX),V.str "take"),(Sum.inr ("take":Str),.str "add")]))) p=_:=aA;generalize aK (aK Y p (.dK [])) p (.dK (aP [] [((Sum.inr ("add":Str):aX),V.str "take"),(Sum.inr ("take":Str),.str "add")]))=H6 at s6 gp;have vi:=s6 _ _ JE;have TN:DGet H6 p (.str wd) (some (.str L)):=by
      have:=DGet.k (k:=Sum.inr wd) gp;rw[CZ]at this;exact this
     refine⟨_,QZy vi,_,rfl,p,_,rfl,TN,_,QZy vi,_,rfl,_,QZy vi,_,rfl,aS rfl,λg H7 s7 g7=>?_⟩;exact f _ _ ⟨g,_,rfl,g7,JI,(f5.same s6).same s7⟩
    rintro _ H6 ⟨t6,v6,rfl,g6,TQ,f6⟩;have o:=FN.fw f6 zb;obtain⟨j,G⟩:=getElem?_of_mem x.h;have C8:=(Zgs.mp G).1;have Z:H[j]?=some (H[j]'(by rw[o.lz];exact C8)):=cD _;have M:E[j]?=some (E[j]'(by rw[o.lx];exact C8)):=cD _;generalize H[j]'(by rw[o.lz];exact C8)=z at Z;generalize E[j]'(by rw[o.lx];exact C8)=a1 at M;have J9:=dB Z;have DA:DGet H6 m (.str w.h) (some (.ref z.s)):=by
     have:=DGet.k (k:=Sum.inr w.h) o.dict;rw[xO P1 G Z]at this;exact this
    obtain⟨J3,L,n',b',AR,JJ,DB,JK,JL⟩:=TQ.ex;have st:=o.at_ j _ z a1 G Z M;have bd:=o.bnd j _ a1 G M;have YN:fO W i w.h<=30:=hZ (rA W w.h Zo) (nq w.h);have YO:fO W i w.h<=29:=by
     have h1:=jP vj w.h;rw[ZO rfl]at h1;have h2:fO W (i+1) w.h<=30:=hZ (rA W w.h Zo) (nq w.h);omega
    have NV:=mL x.n;have five:=z8.five;have e1:(bZ w.n).length=(bZ w.n).cps.toList.length:=by simp[Str.length]
    refine⟨m,_,rfl,DA,⟨Zo,Int.lt_of_le_of_lt (by have:=x.n;omega:(w.n:Int)<=999999) Zd⟩,eO (by show(tx nm).length+(bZ w.n).length<=1000;rw[bD,e1];omega),?_⟩;have e0:("a":Str)=tx [97]:=by decide +kernel
    have e2:("b":Str)=tx [98]:=by decide +kernel
    have qe:gC ("ab":Str).cps.toList (w.i:Int)=some (97+w.i):=by
     have:=x.i;rcases(by omega:w.i=0∨w.i=1) with e|e<;>rw[e]<;>decide +kernel
    have key:tx nm++Str.ofString (toString (w.n:Int))++tx [97+w.i]=tx (gD nm w.n w.i):=by
     show tx nm++bZ w.n++tx [97+w.i]=_;rw[kG w.n,cX,cX];rfl
    have l2:("ab":Str).length=2:=by decide +kernel
    have l9:(tx nm++Str.ofString (toString (w.n:Int))).length<=11:=by
     show(tx nm++bZ w.n).length<=11;rw[kG w.n,cX,bD,kJ];omega
    refine⟨eO (by rw[l2];omega),97+w.i,qe,eO (by have:(tx [97+w.i]).length=1:=bD _;omega),?_⟩;refine⟨z,a1,100+6*fO W i w.h,L,J3,n',b',v6,t6,u,w.n,w.i,?_,x.n,x.i,st,Zo,o.ok a1 (dB M),z8,mw.six,g6,AR,JJ,DB,JK,JL,Zo,Zo,o.new J1 vj G M,hu,λH7 x' dn=>?_⟩
    ·rw[<- key]
    ·exact⟨_,_,_,_,_,_,_,_,_,_,rfl,o.step P1 vj G Z M dn,Dk.fs f6.dk dn.fs (zb z J9).1 (zb z J9).2,Q.trans ((Fa.of_fw f6).trans (Fa.of_fs J9 dn.fs))⟩
  ·rintro c s ⟨o5,o6,o7,o8,o9,w4,y9,N,E,os,rfl,FN,FO,Q⟩;rw[bF,<- AS]at FN;exact a0 E os s FN FO Q
structure Fin(C:ZR)(ws:List Str)(nm:List Nat)(W:List Wt)(H:Hp)(sd:ZR)(us:List Str)(zs:List SA)(xs:List SS)(os:List Oc)(e:Nat):Prop where
 dict:H sd=some (.dK ((us.zip zs).map λq=>((Sum.inr q.1:aX),V.ref q.2.s)))
 lz:zs.length=us.length
 lx:xs.length=us.length
 lo:os.length=W.length
 at_:∀(j:Nat) z x,zs[j]?=some z->xs[j]?=some x->StAt C H z x (340+e)
 nd3:∀x∈xs,(x.kv.map (·.key)).Nodup
 frn:∀x∈xs,∀y∈x.en,(∀n i,y.key≠tx (gD nm n i))∨∃y'∈x.kv,qW y y'
 back:∀x∈xs,∀y'∈x.kv,∃y∈x.en,qW y y'
 sub:∀x∈xs,∀q∈x.am,q.1∈ws
 said:∀x∈xs,∀y∈x.en,Said y
 len:∀x∈xs,x.en.length<=63
 kv:∀(j:Nat) u x,us[j]?=some u->xs[j]?=some x->KvIs nm W os u x.kv
 dis:∀(j k:Nat) z z',zs[j]?=some z->zs[k]?=some z'->j≠k->∀c∈z.all,c∉z'.all
 nsd:∀z∈zs,sd∉z.all
def AllSt.fin{C:ZR}{ws:List Str}{nm:List Nat}{W:List Wt}{H:Hp}{c:ZR}{us:List Str}{d:List SA}{xs:List SS}{os:List Oc}(h:AllSt C ws nm W H c us d xs W.length os)(e:∀u,fO W W.length u<=30):Fin C ws nm W H c us d xs os 60:=by
 have i:=h.lz;have k:=h.lx;refine⟨h.dict,h.lz,h.lx,h.lo,λj z x f a=>?_,λx a=>(h.ok x a).nd3,λx a=>(h.ok x a).frn,λx a y g=>((h.ok x a).back y g).2,λx a=>(h.ok x a).sub,λx a=>(h.ok x a).said,λx a=>?_,h.kv,h.dis,h.nsd⟩
 ·have b:=(Zgs.mp f).1;have:=e us[j];exact(h.at_ j us[j] z x (cD Zo) f a).more Zo
 ·obtain⟨j,b⟩:=getElem?_of_mem a;have l:=(Zgs.mp b).1;have:=e us[j];have:=(h.bnd j us[j] x (cD Zo) b).2.2;omega
def Fin.same{C:ZR}{ws:List Str}{nm:List Nat}{W:List Wt}{H a:Hp}{b:ZR}{us:List Str}{c:List SA}{xs:List SS}{os:List Oc}{e:Nat}(h:Fin C ws nm W H b us c xs os e)(s:Same H a):Fin C ws nm W a b us c xs os e:=
 ⟨s _ _ h.dict,h.lz,h.lx,h.lo,λj z x d f=>(h.at_ j z x d f).same s,h.nd3,h.frn,h.back,h.sub,h.said,h.len,h.kv,h.dis,h.nsd⟩
def xP(o:Option (List V))(ys:List V):Bool:=match o with|none=>false|some vs=>cJ vs ys
def xQ(o:Option (ZR×List V))(ys:List V):vI o ys=xP (o.map (·.2)) ys:=by cases o<;>rfl
def Oe(o:Oc)(vs:List V):Bool:=match o with|none=>true|some q=>xP q.1 vs
def dO(w:Wt)(o:Oc):Bool:=if w.w="none" then o.isNone else if w.w="any" then Oe o w.d.vs else (match o with|none=>false|some q=>xP q.1 w.d.vs&&decide (q.2=w.w))
def BadIs(W:List Wt)(os:List Oc):Option (Nat×Nat)->Prop
 | none=>∀(k:Nat) w o,W[k]?=some w->os[k]?=some o->dO w o=true
 | some q=>∃(k:Nat)(w:Wt)(o:Oc),W[k]?=some w/\os[k]?=some o/\dO w o=false/\q=(w.n,w.i)/\∀(a:Nat) b c,a<k->W[a]?=some b->os[a]?=some c->dO b c=true
def BadIs.uniq{W:List Wt}{os:List Oc}{a b:Option (Nat×Nat)}(h:BadIs W os a)(h':BadIs W os b):a=b:=by
 cases a with
 | none=>cases b with
  | none=>rfl
  | some q=>obtain⟨k,w,o,d,e,c,_⟩:=h';rw[h k w o d e]at c;cases c
 | some p=>cases b with
  | none=>obtain⟨k,w,o,d,e,c,_⟩:=h;rw[h' k w o d e]at c;cases c
  | some q=>
   obtain⟨k,w,o,d,e,c,j,l⟩:=h;obtain⟨g,m,n,f,r,i,s,t⟩:=h';rcases lt_trichotomy k g with z|z|z
   ·rw[t k w o z d e]at c;cases c
   ·subst z;rw[d]at f;cases f;rw[j,s]
   ·rw[l g m n z f r]at i;cases i
def nB(H:Hp):Option (Nat×Nat)->V->Prop
 | none,v=>v=.non
 | some q,v=>∃a,v=.ref a/\H a=some (.tup [.int (q.1:Int),.int (q.2:Int)])
def Fin.found{C:ZR}{ws:List Str}{nm:List Nat}{W:List Wt}{H:Hp}{t:ZR}{us:List Str}{l:List SA}{xs:List SS}{os:List Oc}{e:Nat}(h:Fin C ws nm W H t us l xs os e)(u:vE W){k j:Nat}{w:Wt}{x:SS}{z:SA}(m:W[k]?=some w)(A:us[j]?=some w.h)(f:xs[j]?=some x)(hz:l[j]?=some z){o:Oc}(n:os[k]?=some o) :
  ∃g:Xv,(aT (fM x.kv) (Sum.inr (zH nm w))).getD .non=Fz g/\(∀q,g=some q->H q.1=some (.tup [Tz q.2.1,.str q.2.2])/\∀p,q.2.1=some p->H p.1=some (.tup p.2))/\o=g.map λq=>(q.2.1.map (·.2),q.2.2):=by
 have r:=h.kv j _ x A f;have st:=h.at_ j z x hz f;have B:=h.nd3 x (dB f)
 cases o with
 | none=>
  refine⟨none,?_,(λ_ e=>nomatch e),rfl⟩;have:zH nm w∉x.kv.map (·.key):=λD=>by
   obtain⟨y,c,a⟩:=Zmm.mp D;obtain⟨J,d,i,_,E,s⟩:=r.from_ y c;obtain⟨F,G⟩:=xM (show tx (gD nm d.n d.i)=tx (gD nm w.n w.i) from by rw[<- show y.key=tx (gD nm d.n d.i) from E];exact a);have:=u _ _ _ _ i m F G;subst this;rw[n]at s;cases s
  have b:=jO (ky:=zH nm w) (en:=x.kv);rw[ZT this]at b;cases a:aT (fM x.kv) (Sum.inr (zH nm w)) with
  | none=>rfl
  | some v=>rw[a]at b;cases b
 | some q=>
  obtain⟨y,c,i,I⟩:=r.to_ k w q m rfl n;have b:=pB B c;rw[i]at b;obtain⟨g1,g2⟩:=st.e3 y c;refine⟨some (y.ent,y.dd,y.word),by rw[b];rfl,λp a=>?_,by rw[<- I];rfl⟩;cases a;refine⟨?_,λp a=>g2 p.1 p.2 a⟩;rw[g1];show some (HO.tup [Im y.dd,_])=some (HO.tup [Tz y.dd,_]);cases y.dd<;>rfl
def Te(C:ZR)(ws:List Str)(nm:List Nat):Sp:=λvs H Q _=>∃(c d:ZR)(W:List Wt)(bs:List ZR)(a:List Str)(g:List SA)(h:List SS)(os:List Oc)(e:Nat),vs=[.str (tx nm),.ref c,.ref d]/\kI nm/\H c=some (.lst (bs.map V.ref))/\Paired (WtAt H) W bs/\Fin C ws nm W H d a g h os e/\a.Nodup/\vE W/\(∀w∈W,Bx ws a w)/\(∀o∈os,∀q,o=some q->∀vs,q.1=some vs->HDX vs)/\W.length<=100 ∧
 ∀f v b,BadIs W os f->nB b f v->Same H b->Q v b
def Ia(C:ZR):Sp:=λvs H Q E=>∃a nm,Te C a nm vs H Q E
def Tf{C:ZR}(T:Txt K mg)(D:DefAt K mg "_law_due" jJ QZK):aI P w K mg base 1 "_law_due" QZK (Ia C):=by
 refine D.gg bY (λa5 cdv a6 outer a7 a0 vs a8 b0 hr h=>?_)
 ·obtain⟨ws,nm,y,A,W,bs,us,S,U,os,e,rfl,z8,gw,pw,m,P1,J1,X6,JM,hW,q⟩:=h;have d6:=dQ hr;have z9:=hr.units;refine⟨_,(ko (FS PassesOwn.never rfl (wr (K:=K) (kl 1)) (O6 (K:=K) (n:=5) rfl (tj (oy (i:=3) bY.nd) (tj (oy (i:=4) bY.nd) (tj (oy (i:=5) bY.nd) (tj (oy (i:=6) bY.nd) (tj (oy (i:=7) bY.nd) PP)))))) (ko (ms (i:=8) bY.nd (R.jo d6 (ou (tm (K:=K)) (O5 d6 (kl 2) (kl 5)) kt) (lf Q6 (lf Q6 (kl 0) (O4 R.fu rfl T.b_str lX (kj (kl 3) km))) (ou R.iS ku (kl 4))))) (ko (oq (nw pi (kl 7) ku) (kz (ms (i:=9) bY.nd (wp R.gi (kl 8) G8))) (kz (oq (nw pi (kl 7) ku) (kz (ms (i:=9) bY.nd (R.or (wp R.gi (kl 8) G8) (R.fo (wp (R.iy z9) (li K 8) (kl 6)))))) (kz (ms (i:=9) bY.nd (wp (R.jb z9) (kl 8) (mo (kj (kl 6) (kj (kl 7) km))))))))) (kz (oq (FM (wn (kl 9))) (kz (om (mo (kj (kl 3) (kj (kl 4) km))))) ot))))) (kz (om G8))),?_⟩;have AS:=pw.length;refine aQ (λa d=>BadIs W os none/\Same a0 d) (λnx f=>?_) ?_
  ·refine⟨y,rfl,⟨_,QZx gw⟩,cF (bI K y (bs.map V.ref)) (λi a d=>∃(X Y Z o6 o7 o8 I:Option V),a=[some (.str (tx nm)),some (.ref y),some (.ref A),X,Y,Z,o6,o7,o8,I]/\(∀(k:Nat) w o,k<i->W[k]?=some w->os[k]?=some o->dO w o=true)/\Same a0 d) (λi a d ⟨_,_,_,_,_,_,_,_,_,s'⟩=>QZx (s' _ _ gw))
    ⟨_,_,_,_,_,_,_,rfl,λk _ _ J=>ZM J (not_lt_zero _),λ_ _ e=>e⟩ ?_ ?_⟩
   ·rintro i v a b B ⟨X,Y,Z,o6,o7,o8,I,rfl,E,g⟩;rw[fB]at B;cases F:bs[i]? with
    | none=>rw[F]at B;cases B
    | some a2=>
     rw[F]at B;cases B;obtain⟨vb,ea⟩:=Zgs.mp F;obtain⟨L,t,ga,gt⟩:=Paired.get' (j:=i) pw vb;rw[ea]at ga;have M:W[i]?=some W[i]:=cD L;have u:=X6 _ (getElem_mem L);generalize W[i]=w at ga gt M u;have G:os[i]?=some (os[i]'(by rw[m.lo];exact L)):=cD _;generalize os[i]'(by rw[m.lo];exact L)=o at G;have JN:=m.same g;obtain⟨j,hj⟩:=getElem?_of_mem u.h;have N:=(Zgs.mp hj).1;have O:S[j]?=some (S[j]'(by rw[m.lz];exact N)):=cD _;have P2:U[j]?=some (U[j]'(by rw[m.lx];exact N)):=cD _;generalize S[j]'(by rw[m.lz];exact N)=z at O;generalize U[j]'(by rw[m.lx];exact N)=a1 at P2;have st:=JN.at_ j z a1 O P2;have DA:DGet b A (.str w.h) (some (.ref z.s)):=by
      have:=DGet.k (k:=Sum.inr w.h) JN.dict;rw[xO P1 hj O]at this;exact this
     obtain⟨c,e1,e2,H⟩:=JN.found J1 M hj P2 O G;refine⟨a2,_,rfl,QZy (g _ _ ga),rfl,_,_,rfl,_,_,rfl,_,_,rfl,_,_,rfl,_,_,rfl,rfl,?_⟩;dsimp only [aL];have NV:=mL u.n;have five:=z8.five;have e5:(bZ w.n).length=(bZ w.n).cps.toList.length:=by simp[Str.length]
     have qe:gC ("ab":Str).cps.toList (w.i:Int)=some (97+w.i):=by
      have:=u.i;rcases(by omega:w.i=0∨w.i=1) with e|e<;>rw[e]<;>decide +kernel
     have key:tx nm++Str.ofString (toString (w.n:Int))++tx [97+w.i]=tx (gD nm w.n w.i):=by
      show tx nm++bZ w.n++tx [97+w.i]=_;rw[kG w.n,cX,cX];rfl
     have l2:("ab":Str).length=2:=by decide +kernel
     have l9:(tx nm++Str.ofString (toString (w.n:Int))).length<=11:=by
      show(tx nm++bZ w.n).length<=11;rw[kG w.n,cX,bD,kJ];omega
     have xh:=g _ _ gt;have DD:HDX w.d.vs:=by obtain⟨na,wd,n,b1,hD,_⟩:=u.d.ex;exact⟨_,_,_,_,hD⟩
     have JO:∀q,c=some q->Ln b q.2.1 w.d.vs:=λq e p r=>⟨(e2 q e).2 p r,λj b2 v l s=>⟨(JM _ (dB G) _ (by rw[H,e];rfl) _ (by show Option.map _ q.2.1=_;rw[r];rfl)).flat l,DD.flat s⟩⟩
     refine aQ (λa d=>a=[some (.str (tx nm)),some (.ref y),some (.ref A),some (.int (w.n:Int)),some (.int (w.i:Int)),some (.str w.h),some (.ref t),some (.str w.w),some (Fz c),I]/\d=b) (λnx f=>?_) ?_
     ·refine⟨A,_,rfl,DA,_,QZx st.lst,_,rfl,z.d3,rfl,.inl ⟨_,Rd.of st.h3⟩,⟨Zo,Int.lt_of_le_of_lt (by have:=u.n;omega:(w.n:Int)<=999999) Zd⟩,eO (by show(tx nm).length+(bZ w.n).length<=1000;rw[bD,e5];omega),eO (by rw[l2];omega),97+w.i,qe,eO (by have:(tx [97+w.i]).length=1:=bD _;omega),?_⟩;have dg:DGet b z.d3 (.str (tx nm++Str.ofString (toString (w.n:Int))++tx [97+w.i])) (aT (fM a1.kv) (Sum.inr (zH nm w))):=by rw[key];exact DGet.k (k:=Sum.inr (zH nm w)) st.h3
      refine⟨_,dg,?_⟩;refine f _ _ ⟨?_,rfl⟩;rw[<- e1];rfl
     rintro _ a3 ⟨rfl,eG⟩;obtain rfl:b=a3:=eG.symm;refine aQ (λa d=>a=[some (.str (tx nm)),some (.ref y),some (.ref A),some (.int (w.n:Int)),some (.int (w.i:Int)),some (.str w.h),some (.ref t),some (.str w.w),some (Fz c),some (.bl (dO w o))]/\Same b d) (λnx f=>?_) ?_
     ·show if decide (w.w="none")=true then _ else if decide (w.w="any")=true then _ else _
      refine cP (λh=>?_) (λh=>cP (λh'=>?_) (λh'=>?_))
      ·refine f _ _ ⟨?_,λ_ _ e=>e⟩;have:dO w o=decide (Fz c=V.non):=by
        unfold dO;rw[ZO (ZW h),H]
        cases c with
        | none=>rfl
        | some q=>exact(ZT (λh=>nomatch h)).symm
       rw[this];rfl
      ·have Q:dO w o=Oe o w.d.vs:=by
        unfold dO;rw[ZN (ZV h),ZO (ZW h')]
       cases c with
       | none=>
        cases H;refine f _ _ ⟨?_,λ_ _ e=>e⟩;rw[Q];rfl
       | some q=>
        cases H;obtain⟨r,_⟩:=e2 q rfl;refine⟨_,QZy r,_,rfl,q.2.1,w.d.vs,rfl,JO q rfl,xh,?_⟩;refine f _ _ ⟨?_,λ_ _ e=>e⟩;rw[Q];show[_,_,_,_,_,_,_,_,_,some (V.bl (vI q.2.1 w.d.vs))]=[_,_,_,_,_,_,_,_,_,some (V.bl (xP (q.2.1.map (·.2)) w.d.vs))];rw[xQ]
      ·have Q:dO w o=Lp c w.d.vs w.w:=by
        unfold dO;rw[ZN (ZV h),ZN (ZV h'),H]
        cases c with
        | none=>rfl
        | some q=>show(xP (q.2.1.map (·.2)) _&&_)=(vI _ _&&_);rw[xQ]
       refine⟨aS rfl,λt' H2 x g2=>⟨c,t,w.d.vs,w.w,rfl,λq e=>⟨x _ _ (e2 q e).1,λp r=>⟨x _ _ (JO q e p r).1,(JO q e p r).2⟩⟩,g2,x _ _ xh,?_⟩⟩;refine f _ _ ⟨?_,x⟩;rw[Q];rfl
     rintro _ H2 ⟨rfl,x⟩;have Q0:Same a0 H2:=λa4 v e=>x _ _ (g _ _ e)
     show if (!dO w o)=true then _ else _
     refine cP (λh=>?_) (λh=>?_)
     ·refine⟨aS rfl,λt' H3 s3 g3=>?_⟩;exact q (some (w.n,w.i)) _ H3 ⟨i,w,o,M,G,by simpa using h,rfl,λk' w' o' J=>E k' w' o' J⟩ ⟨t',rfl,g3⟩ (λa4 v e=>s3 _ _ (Q0 _ _ e))
     ·refine⟨_,_,_,_,_,_,_,rfl,λk w' o' J l s=>?_,Q0⟩;rcases lt_or_ge k i with z|z
      ·exact E k w' o' z l s
      ·have:k=i:=by omega
       subst this;rw[M]at l;cases l;rw[G]at s;cases s;simpa using h
   ·rintro a b ⟨X,Y,Z,o6,o7,o8,I,rfl,E,g⟩;rw[bF,<- AS]at E;exact f _ _ ⟨λk w o l s=>E k w o (Zgs.mp l).1 l s,g⟩
  rintro a b ⟨F,g⟩;exact q none .non b F rfl g
structure HlAt(H:Hp)(hl:ZR)(us:List Str)(zs:List SA)(hs:List ZR):Prop where
 lst:H hl=some (.lst (hs.map V.ref))
 len:hs.length=us.length
 at_:∀(j:Nat) a u z,hs[j]?=some a->us[j]?=some u->zs[j]?=some z->H a=some (.tup [.str u,.ref z.p])
def HlAt.same{H b:Hp}{c:ZR}{us:List Str}{d:List SA}{e:List ZR}(h:HlAt H c us d e)(s:Same H b):HlAt b c us d e:=⟨s _ _ h.lst,h.len,λj a u z f g i=>s _ _ (h.at_ j a u z f g i)⟩
def rB(u k:Str):List aX:=[Sum.inr u,Sum.inr k]
def zJ{u k c d:Str}(h:rB u k=rB c d):u=c/\k=d:=by
 unfold rB at h;injection h with b a
 injection a with a _
 injection b with b
 injection a with a
 exact⟨b,a⟩
structure EnG(H:Hp)(L:List (Str×EN))(kvs:List (List aX×V)):Prop where
 to_:∀q∈L,∃e,aT kvs (rB q.1 q.2.key)=some (.ref e)/\H e=some (.tup [Im q.2.dd,.str q.2.word])
 from_:∀u k v,aT kvs (rB u k)=some v->∃q∈L,q.1=u/\q.2.key=k
 len:kvs.length<=L.length
def EnG.tk{H a:Hp}{L:List (Str×EN)}{kvs:List (List aX×V)}(h:EnG H L kvs)(tk:TK H a):EnG a L kvs:=⟨λq b=>by obtain⟨e,c,d⟩:=h.to_ q b;exact⟨e,c,tk _ _ d⟩,h.from_,h.len⟩
def EnG.put{H b:Hp}{L:List (Str×EN)}{kvs:List (List aX×V)}(h:EnG H L kvs)(tk:TK H b){u:Str}{y:EN}{e:ZR}(f:∀q∈L,¬ (q.1=u/\q.2.key=y.key))(g:b e=some (.tup [Im y.dd,.str y.word])):EnG b (L++[(u,y)]) (bT kvs (rB u y.key) (.ref e)):=by
 refine⟨λq a=>?_,λd k v c=>?_,?_⟩
 ·rcases aG a with a|rfl
  ·obtain⟨i,j,l⟩:=h.to_ q a;refine⟨i,?_,tk _ _ l⟩;rw[eE,ZN (λz=>f q a (zJ z)),j]
  ·exact⟨e,by rw[eE,ZO rfl],g⟩
 ·rw[eE]at c;by_cases z:rB d k=rB u y.key
  ·obtain⟨m,n⟩:=zJ z;exact⟨(u,y),ZJ _ fP,m.symm,n.symm⟩
  ·rw[ZN z]at c;obtain⟨q,a,o⟩:=h.from_ d k v c;exact⟨q,ZK _ a,o⟩
 ·have:=cC kvs (rB u y.key) (V.ref e);have:=h.len;rw[kJ];simp;omega
def pJ{en:List EN}(b:(en.map (·.key)).Nodup):(eR en).map (·.key)=mW (en.map (·.key)):=by
 have:∀l:List Str,(∀k∈l,k∈en.map (·.key))->(l.filterMap λk=>en.find? (λz=>decide (z.key=k))).map (·.key)=l:=λl=>by
  induction l with
  | nil=>exact λ_=>rfl
  | cons k l c=>
   intro h;obtain⟨z,d,rfl⟩:=Zmm.mp (h k fP);rw[ZF,lJ b d];show z.key::_=_;rw[c λk a=>h k (nD _ a)]
 exact this _ λk a=>(fJ _).mem_iff.mp a
def Ib{en:List EN}(a:(en.map (·.key)).Nodup):((eR en).map (·.key)).Nodup:=by
 rw[pJ a];exact(fJ _).nodup_iff.mpr a
def Ic(us:List Str)(xs:List SS)(i:Nat):List (Str×EN):=((us.zip xs).take i).flatMap λq=>(eR q.2.en).map λy=>(q.1,y)
structure EnIs(H:Hp)(us:List Str)(xs:List SS)(kvs:List (List aX×V)):Prop where
 to_:∀(j:Nat) u x y,us[j]?=some u->xs[j]?=some x->y∈x.en->∃e,aT kvs (rB u y.key)=some (.ref e)/\H e=some (.tup [Im y.dd,.str y.word])
 from_:∀u k v,aT kvs (rB u k)=some v->∃(j:Nat)(x:SS)(y:EN),us[j]?=some u/\xs[j]?=some x/\y∈x.en/\y.key=k
def EnIs.same{H a:Hp}{us:List Str}{xs:List SS}{kvs:List (List aX×V)}(h:EnIs H us xs kvs)(s:Same H a):EnIs a us xs kvs:=⟨λj u x y b c d=>by obtain⟨e,g1,g2⟩:=h.to_ j u x y b c d;exact⟨e,g1,s _ _ g2⟩,h.from_⟩
def EnG.is{H:Hp}{us:List Str}{xs:List SS}{kvs:List (List aX×V)}(h:EnG H (Ic us xs us.length) kvs)(t:xs.length=us.length)(d:∀x∈xs,(x.en.map (·.key)).Nodup):EnIs H us xs kvs:=by
 have e:(us.zip xs).take us.length=us.zip xs:=nT (by rw[List.length_zip];omega);refine⟨λj u x y c a f=>?_,λu k v g=>?_⟩
 ·have i:=dB a;have l:(us.zip xs)[j]?=some (u,x):=by rw[getElem?_zip_eq_some];exact⟨c,a⟩
  exact h.to_ (u,y) (by unfold Ic;rw[e];exact mem_flatMap.mpr ⟨(u,x),dB l,Zmm.mpr ⟨y,(mK (d x i)).mpr f,rfl⟩⟩)
 ·obtain⟨q,b,m,n⟩:=h.from_ u k v g;unfold Ic at b;rw[e]at b;obtain⟨p,o,b⟩:=mem_flatMap.mp b;obtain⟨y,r,rfl⟩:=Zmm.mp b;obtain⟨j,s⟩:=getElem?_of_mem o;obtain⟨c,a⟩:=getElem?_zip_eq_some.mp s;exact⟨j,p.2,y,by rw[c,<- m],a,(mK (d _ (dB a))).mp r,n⟩
def rC(C:ZR):Sp:=λvs H Q _=>∃(g:ZR)(a:List Str)(e:List SA)(h:List ZR)(b:List SS),vs=[.ref g]/\HlAt H g a e h/\e.length=a.length/\b.length=a.length/\a.Nodup/\a.length<=6/\(∀(j:Nat) z x,e[j]?=some z->b[j]?=some x->∃L,StAt C H z x L)/\(∀x∈b,x.en.length<64) ∧
 ∀d f c,H d=none->c d=some (.dT f)->EnIs c a b f->Same H c->Q (.ref d) c
def By{en:List EN}(a:(en.map (·.key)).Nodup):(eR en).length=en.length:=by
 have:=congrArg length (pJ a);rw[bF,nO,bF]at this;exact this
def xR{C:ZR}(T:Txt K mg)(j6:kL P w K mg base 1 C "kept" ZA (nR C))(D:DefAt K mg "entries_of" eU ["houses"]):aI P w K mg base 2 "entries_of" ["houses"] (rC C):=by
 refine D.gg bX (λa6 cdv a7 outer a8 a2 vs b0 b1 hr h=>?_)
 ·obtain⟨L,l,O,hs,o,rfl,Q,lz,lx,P1,uh,lg,md,q⟩:=h;have d6:=dQ hr;refine⟨_,(ko (ms (i:=1) bX.nd R.ik) (ko (FS PassesOwn.never rfl (wr (K:=K) (kl 0)) (O6 (K:=K) (n:=2) rfl (tj (oy (i:=2) bX.nd) (tj (oy (i:=3) bX.nd) PP))) (kz (FS PassesOwn.never rfl (wr (K:=K) (R.eh j6 hr (kl 3))) (O6 (K:=K) (n:=3) rfl (tj (oy (i:=4) bX.nd) (tj (oy (i:=5) bX.nd) (tj (oy (i:=6) bX.nd) PP)))) (kz (ww (mo (kj (kl 5) (kj (kl 6) km))) (AC (kl 1) (mo (kj (kl 2) (kj (kl 4) km))) (O3 d6))))))) (kz (om (kl 1))))),?_⟩;refine λd S=>?_;have ph:=Q.len;have J1:∀x∈o,(x.en.map (·.key)).Nodup:=λx hx=>by
   obtain⟨j,g⟩:=getElem?_of_mem hx;have C8:=(Zgs.mp g).1;obtain⟨_,h⟩:=lg j (O[j]'Zo) x (cD _) g;exact h.hs.nde
  dsimp only [aL];refine aQ (λf b=>∃(E F s t A:Option V)(a:List (List aX×V)),f=[some (.ref L),some (.ref d),E,F,s,t,A]/\b d=some (.dT a)/\EnG b (Ic l o l.length) a/\Same a2 b) (λnx a9=>?_) ?_
  ·refine⟨L,rfl,⟨_,QZx (bH Q.lst S)⟩,cF (bI K L (hs.map V.ref)) (λi f b=>∃(E F s t A:Option V)(a:List (List aX × V)),f=[some (.ref L),some (.ref d),E,F,s,t,A]/\b d=some (.dT a)/\EnG b (Ic l o i) a/\a.length<=64*i/\Same a2 b) (λi f b ⟨_,_,_,_,_,_,_,_,_,_,s'⟩=>QZx (s' _ _ Q.lst))
    ⟨_,_,_,_,_,[],rfl,aA,⟨(λ_ h=>nomatch h),(λ_ _ _ h=>nomatch h),bQ _⟩,bQ _,aH S⟩ ?_ ?_⟩
   ·rintro i v f H1 p ⟨E,F,s,t,A,a,rfl,G,H,lk,B⟩;rw[fB]at p;cases U:hs[i]? with
    | none=>rw[U]at p;cases p
    | some a3=>
     rw[U]at p;cases p;have hi:=(Zgs.mp U).1;have W:l[i]?=some (l[i]'Zo):=cD _;have ny:O[i]?=some (O[i]'Zo):=cD _;have X:o[i]?=some (o[i]'Zo):=cD _;generalize l[i]'Zo=u at W;generalize O[i]'Zo=z at ny;generalize o[i]'Zo=x at X;have ga:=B _ _ (Q.at_ i a3 u z U W ny);obtain⟨a4,st⟩:=lg i z x ny X;replace st:=st.same B;have Y:=dB X;refine⟨a3,_,rfl,QZy ga,rfl,_,_,rfl,_,_,rfl,rfl,?_⟩;refine⟨z.a.dx,_,st.hs.hp,dR z.a Zk Zk Zk,z.p,z.a,x.am,_,x.en,a4,rfl,st.hs,md x Y,λa1 bs H2 s2 fl gl pr=>⟨a1,rfl,⟨_,QZx gl⟩,?_⟩⟩;have OC:=s2 _ _ G;have TX:a1≠d:=(aD G fl).symm;have AS:=pr.length;have zi:(l.zip o)[i]?=some (u,x):=by rw[getElem?_zip_eq_some];exact⟨W,X⟩
     have DE:Ic l o (i+1)=Ic l o i++(eR x.en).map λy=>(u,y):=by unfold Ic;rw[bJ zi,flatMap_append,ZE,flatMap_nil,append_nil]
     have xi:=By (J1 x Y);have TY:=md x Y;have far:∀q∈Ic l o i,q.1≠u:=λq r e=>by
      unfold Ic at r;obtain⟨a5,hp,r⟩:=mem_flatMap.mp r;obtain⟨y,_,rfl⟩:=Zmm.mp r;obtain⟨j,g⟩:=getElem?_of_mem hp;rw[List.getElem?_take]at g;split at g
      ·rename_i MI;obtain⟨I,_⟩:=getElem?_zip_eq_some.mp g;have e':a5.1=u:=e;rw[e']at I;have C8:=(Zgs.mp I).1;have:=(getElem?_inj C8 P1).mp (I.trans W.symm);omega
      ·cases g
     refine cF (bI K a1 (bs.map V.ref)) (λm f b=>∃(s t A:Option V)(a:List (List aX×V)),f=[some (.ref L),some (.ref d),some (.str u),some (.ref z.p),s,t,A]/\b d=some (.dT a)/\EnG b (Ic l o i++((eR x.en).take m).map λy=>(u,y)) a/\a.length<=64*i+m/\(∀c a0,H2 c=some a0->c≠d->b c=some a0)) (λm f b ⟨_,_,_,_,_,_,_,_,k'⟩=>QZx (k' _ _ gl TX))
      ⟨_,_,_,a,rfl,OC,by rw[List.take_zero,map_nil,append_nil];exact H.tk s2.tk,Zo,λ_ _ e _=>e⟩ ?_ ?_
     ·rintro m v f H3 p ⟨TZ,IW,IY,M,rfl,JP,Z,OD,k3⟩;rw[fB]at p;cases hc:bs[m]? with
      | none=>rw[hc]at p;cases p
      | some c=>
       rw[hc]at p;cases p;obtain⟨ME,ec⟩:=Zgs.mp hc;obtain⟨wq,hy⟩:=Paired.get' (j:=m) pr ME;rw[ec]at hy;have AU:(eR x.en)[m]?=some (eR x.en)[m]:=cD wq;generalize (eR x.en)[m]=y at hy AU;have gy:H3 c=some (.tup [.str y.key,Im y.dd,.str y.word]):=k3 _ _ hy (bK hy OC nofun);refine⟨c,_,rfl,QZy gy,rfl,_,_,rfl,_,_,rfl,_,_,rfl,rfl,?_⟩;refine⟨aS rfl,λN H4 s4 g4=>⟨aS rfl,λt5 H5 J g5=>?_⟩⟩;have AM:=J _ _ (s4 _ _ JP);refine⟨d,_,rfl,DPut.t (k:=rB u y.key) AM g5 (jQ (m:=1000) Zo Zd),?_⟩;have xf:TK H3 (aK H5 d (.dT (bT M (rB u y.key) (.ref N)))):=λc' z6 e=>by
        rw[aF (bK (J _ _ (s4 _ _ e)) AM nofun)];exact J _ _ (s4 _ _ e)
       have ge:(aK H5 d (.dT (bT M (rB u y.key) (.ref N)))) N=some (.tup [Im y.dd,.str y.word]):=by
        rw[aF (bK (J _ _ g4) AM nofun)];exact J _ _ g4
       have UA:=Z.put xf (u:=u) (y:=y) (e:=N) (λq r=>?_) ge
       ·refine⟨_,_,_,_,rfl,aA,?_,?_,λc' a0 e n=>by rw[aF n];exact J _ _ (s4 _ _ (k3 _ _ e n))⟩
        ·rw[bJ AU,gO,<- append_assoc];exact UA
        ·have:=cC M (rB u y.key) (V.ref N);omega
       ·rintro⟨z1,z2⟩;rcases Zma.mp r with r|r
        ·exact far q r z1
        ·obtain⟨y',V5,rfl⟩:=Zmm.mp r;obtain⟨j,g⟩:=getElem?_of_mem V5;rw[List.getElem?_take]at g;split at g
         ·rename_i YQ;have I:((eR x.en).map (·.key))[j]?=some y.key:=by rw[fB,g];exact congrArg some z2
          have h2:((eR x.en).map (·.key))[m]?=some y.key:=by rw[fB,AU];rfl
          have:=(getElem?_inj (Zgs.mp I).1 (Ib (J1 x Y))).mp (I.trans h2.symm);omega
         ·cases g
     ·rintro f H3 ⟨TZ,IW,IY,M,rfl,JP,Z,OD,k3⟩;rw[bF,<- AS,nT (bQ _),<- DE]at Z;rw[bF,<- AS]at OD;refine⟨_,_,_,_,_,M,rfl,JP,Z,Zo,λc a0 e=>k3 _ _ (s2 _ _ (B _ _ e)) (aD e S)⟩
   ·rintro f H1 ⟨E,F,s,t,A,a,rfl,G,H,lk,B⟩;rw[bF,ph]at H;exact a9 _ _ ⟨_,_,_,_,_,a,rfl,G,H,B⟩
  rintro f H1 ⟨E,F,s,t,A,a,rfl,G,H,B⟩;exact q d a H1 S G (H.is lx J1) B
def Mu(x:Dd):List (Str×List V):=(cU x).map λq=>(q.1,q.2.vs)
def Tg(x:Dd):∃c,Xt x.wd x.vs c (Mu x):=by
 cases x with
 | add a m=>exact⟨_,"","",a,(m:Int),.add⟩
 | take a m=>exact⟨_,"","",a,(m:Int),.take⟩
 | move a b m=>exact⟨_,a,b,"",(m:Int),.move⟩
 | send h a m=>exact⟨_,h,"",a,(m:Int),.send⟩
 | fetch h a m=>exact⟨_,h,"",a,(m:Int),.fetch⟩
 | pass h g a m=>exact⟨_,h,g,a,(m:Int),.pass⟩
def Xc(asked:Bool)(x:Dd)(i:Nat)(o:Option An):List V:=
 if asked=false then [.non] else match o with
 | none=>[.non,.str "yes",.str "no",.str "undone"]
 | some (.no g)=>if i<iW g ((cU x).map (·.1)) then [.str "undone"] else if i=iW g ((cU x).map (·.1)) then [.str "no"] else [.non]
 | some _=>[.str "yes"]
def dnV:Option (ZR×An)->V|none=>.non|some q=>.ref q.1
def pK:Sp:=λvs H Q _=>∃(c:ZR)(x:Dd)(i:Nat)(asked:Bool)(o:Option (ZR×An))(d:List V),vs=[.ref c,.int (i:Int),.bl asked,dnV o]/\H c=some (.tup d)/\Paired (AskAt H) (Mu x) d/\(∀q,o=some q->∃(b:ZR)(e f:V),H q.1=some (.tup [.str "done",e,f,.ref b])/\H b=some (.tup q.2.vs)/\An.Of x q.2)/\x.far=true/\x.Ok ∧
 ∀t a,Same H a->a t=some (.tup (Xc asked x i (o.map (·.2))))->Q (.ref t) a
def tH(T:Txt K mg)(D:DefAt K mg "due_words" eJ QZU):aI P w K mg base 1 "due_words" QZU pK:=by
 refine D.gg hG (λa1 cdv a2 outer a3 H vs Q a4 hr h=>?_)
 ·obtain⟨I,x,i,asked,o,J,rfl,L,M,W,X,U,q⟩:=h;refine⟨_,(ko (oq (FM (wn (kl 2))) (kz (om (mo (kj G8 km)))) ot) (ko (oq (nw R.gi (kl 3) G8) (kz (om (mo (kj G8 (kj ku (kj ku (kj ku km))))))) ot) (ko (ms (i:=4) hG.nd (li K 3)) (ko (oq (nw UF (li K 4) ku) (kz (om (mo (kj ku km)))) ot) (ko (ms (i:=5) hG.nd (J6 (K:=K) PySem.F.plainAttrs_list PySem.F.slot_list_index PySem.F.type_list_index R.fk (O2 rfl (js:=[none,none]) (N:=["house","there"]) (CompScope.by (aB eJ) QZE rfl rfl Zk) (kS (cQ rfl (cQ rfl iZ))) (R.du (K:=K) (kl 0)) (λa5 s₂ H₂ fp=>⟨(O6 (K:=K) (n:=2) rfl (tj (oy (i:=0) (show(["house","there"]:List Str).Nodup by decide +kernel)) (tj (oy (i:=1) (show(["house","there"]:List Str).Nodup by decide +kernel)) PP))),Q5,(kl 0)⟩)) (kj (li K 4) km))) (ko (oq (nw R.lt (kl 1) (kl 5)) (kz (om (mo (kj ku km)))) ot) (kz (om (R.kh (nw pi (kl 1) (kl 5)) (mo (kj ku km)) (mo (kj G8 km))))))))))),?_⟩
  cases asked with
  | false=>exact⟨aS rfl,λt b c g1=>q t b c g1⟩
  | true=>
  cases o with
  | none=>exact⟨aS rfl,λt b c g1=>q t b c g1⟩
  | some z=>
  obtain⟨a6,v1,v2,Y,k,C⟩:=W z rfl;refine⟨_,QZy Y,_,rfl,?_⟩;dsimp only [aL];have s:(∀g,z.2≠.no g)->∀t d,Same H d->d t=some (.tup [.str "yes"])->Q (.ref t) d:=λZ t d s' A=>q t d s' (by
   rw[A];obtain⟨z1,z2⟩:=z;cases z2 <;> first | rfl | exact ZM rfl (Z _))
  obtain⟨z1,a0⟩:=z
  cases a0 with
  | short m=>exact⟨_,QZy k,_,rfl,aS rfl,λt b c g1=>s (λ_ e=>nomatch e) t b c g1⟩
  | full m=>exact⟨_,QZy k,_,rfl,aS rfl,λt b c g1=>s (λ_ e=>nomatch e) t b c g1⟩
  | is1 m=>exact⟨_,QZy k,_,rfl,aS rfl,λt b c g1=>s (λ_ e=>nomatch e) t b c g1⟩
  | is2 a7 m=>exact⟨_,QZy k,_,rfl,aS rfl,λt b c g1=>s (λ_ e=>nomatch e) t b c g1⟩
  | ok=>exact⟨_,QZy k,_,rfl,aS rfl,λt b c g1=>s (λ_ e=>nomatch e) t b c g1⟩
  | no g=>
   refine⟨_,QZy k,_,rfl,?_⟩;dsimp only [iH];have lp:=lM x;have J7:=M.length;have yz:(cU x).length=J.length:=by rw[<- J7];unfold Mu;rw[bF]
   have el:(Mu x).map (·.1)=(cU x).map (·.1):=by unfold Mu;rw[map_map];rfl
   refine⟨I,rfl,⟨_,QZy L⟩,bO (kU K I J) Zo (λj B d=>d=H/\B=(((cU x).map (·.1)).take j).map V.str) (λj B d ⟨u,e⟩=>⟨by rw[u];exact QZy L,by rw[e,bF];exact List.length_take_le _ _⟩) ⟨rfl,rfl⟩ (?_) (?_)⟩
   ·rintro j v B d hv ⟨u,e⟩;subst u;obtain⟨X4,ea⟩:=Zgs.mp hv;obtain⟨R3,a,dd,O,h1,h2⟩:=Paired.get' (j:=j) M X4;rw[ea]at O;subst O;refine⟨a,_,rfl,QZy h1,rfl,_,_,rfl,_,_,rfl,rfl,rfl,?_⟩;have ez:((cU x).map (·.1))[j]?=some (Mu x)[j].1:=by rw[<- el,fB,cD R3];rfl
    rw[bJ ez,e,gO];rfl
   ·rintro B d ⟨u,e⟩;intro p hp;subst u;rw[<- yz,nT Zs]at e;subst e;have E:(aK d p (.lst (((cU x).map (·.1)).map V.str))) p=some (.lst (((cU x).map (·.1)).map V.str)):=aA;have F:=aH (o:=.lst (((cU x).map (·.1)).map V.str)) hp;generalize aK d p (.lst (((cU x).map (·.1)).map V.str))=H4 at E F;have S:g∈(cU x).map (·.1)/\((cU x).map (·.1)).Nodup:=by
     cases x with
     | send h a m=>rw[show g=h from C];exact⟨fP,by simp[cU]⟩
     | fetch h a m=>rw[show g=h from C];exact⟨fP,by simp[cU]⟩
     | pass h A a m=>
      have i9:h≠A:=U.2.2.2.1;rcases(show g=h∨g=A from C) with rfl|rfl<;>exact⟨by simp[cU],by simp[cU,i9]⟩
     | _=>cases X
    refine⟨.inl ⟨rfl,_,QZx E⟩,_,QZy (F _ _ k),_,rfl,_,E,S.1,λj hj=>?_⟩;have ej:=sW S.2 hj;dsimp only [aL];have G:∀t f,Same H4 f->f t=some (.tup (if i<j then [V.str "undone"] else if i=j then [.str "no"] else [.non]))->Q (.ref t) f:=λt f l r=>q t f (F.trans l) (by
     rw[r];show _=some (HO.tup (if i<iW g ((cU x).map (·.1)) then [V.str "undone"] else if i=iW g ((cU x).map (·.1)) then [V.str "no"] else [V.non]));rw[ej])
    show if decide ((i:Int)<(j:Int))=true then _ else _
    refine cP (λh=>?_) (λh=>?_)
    ·have h:=ZW h;exact⟨aS rfl,λt f l r=>G t f l (by rw[r,ZO Zo])⟩
    ·have h:=ZV h;show if decide ((i:Int)=(j:Int))=true then _ else _
     refine cP (λy=>?_) (λy=>?_)
     ·have y:=ZW y;exact⟨aS rfl,λt f l r=>G t f l (by rw[r,ZN Zo,ZO Zo])⟩
     ·have y:=ZV y;exact⟨aS rfl,λt f l r=>G t f l (by rw[r,ZN Zo,ZN Zo])⟩
def Bz{c:List RX}(h:RX.Whole c){n t t':Nat}{y y':An}(h1:.done n t y∈c)(a:.done n t' y'∈c):y=y':=by
 induction h with
 | nil=>cases h1
 | snoc f b d=>
  rcases aG h1 with h1|h1
  ·rcases aG a with a|a
   ·exact d h1 a
   ·rw[<- a]at b;exact ZM h1 (b.2.1 _ _)
  ·rcases aG a with a|a
   ·rw[<- h1]at b;exact ZM a (b.2.1 _ _)
   ·rw[<- h1]at a;injection a with _ _ e;exact e.symm
def Ca{a:List RX}(h:RX.Whole a){n:Nat}(h1:.asked n∈a):∃t p k d,RX.came n t p k d∈a/\d.far=true:=by
 induction h with
 | nil=>cases h1
 | snoc g e f=>
  rcases aG h1 with h1|h1
  ·obtain⟨t,p,k,d,b,c⟩:=f h1;exact⟨t,p,k,d,ZK _ b,c⟩
  ·rw[<- h1]at e;obtain⟨⟨t,p,k,d,b,c⟩,_⟩:=e;exact⟨t,p,k,d,ZK _ b,c⟩
def Id{c:List RX}(h:RX.Whole c){n t:Nat}{y:An}(h1:.asked n∈c)(a:.done n t y∈c):y.early=false:=by
 induction h with
 | nil=>cases h1
 | snoc f b i=>
  rcases aG h1 with h1|h1
  ·rcases aG a with a|a
   ·exact i h1 a
   ·rw[<- a]at b;obtain⟨_,_,o,p,k,d,j,_,l⟩:=b;obtain⟨q,r,s,u,m,g⟩:=Ca f h1;have:=mJ f j m;injection this with _ _ _ _ e
    rw[<- e]at g;exact(l g).mp h1
  ·rcases aG a with a|a
   ·rw[<- h1]at b;exact ZM a (b.2.2 _ _)
   ·rw[<- h1]at a;cases a
def xS{a:List RX}{n:Nat}(h:sX "asked" a (Sum.inl (n:Int))=true):.asked n∈a:=by
 obtain⟨r,b,e⟩:=List.any_eq_true.mp h;rw[Bool.and_eq_true]at e;obtain⟨m,rfl⟩:=Hm (ZW e.1);have:(Sum.inl (m:Int):aX)=Sum.inl (n:Int):=ZW e.2;injection this with this
 have:m=n:=by omega
 rw[<- this];exact b
def tI{b:List RX}{n:Nat}{y:An}(h:y∈kH b n):∃t,.done n t y∈b:=by
 obtain⟨c,d,a⟩:=mem_filterMap.mp h
 cases c with
 | done m e f=>
  have a:(if m=n then some f else none)=some y:=a;split at a
  ·rename_i g;cases a;subst g;exact⟨e,d⟩
  ·cases a
 | _=>cases a
def Ie{a:List RX}(h:RX.Whole a){n t:Nat}{y:An}(b:.done n t y∈a):(kH a n).head?=some y:=by
 have c:y∈kH a n:=mem_filterMap.mpr ⟨_,b,ZO rfl⟩
 cases e:kH a n with
 | nil=>rw[e]at c;cases c
 | cons z l=>
  have d:z∈kH a n:=by rw[e];exact fP
  obtain⟨g,f⟩:=tI d;rw[Bz h b f];rfl
def Mv{H:Hp}{u:ZR}{c:List RX}{f:List ZR}(x:RX.Whole c)(RR:RxsAt H u c f)(n:Nat):∃o:Option (ZR×An),(aT (aP [] (cS "done" c f c.length)) (Sum.inl (n:Int))).getD .non=dnV o/\o.map (·.2)=(kH c n).head? ∧
  ∀q,o=some q->∃(b:ZR)(A B:V),H q.1=some (.tup [.str "done",A,B,.ref b])/\H b=some (.tup q.2.vs)/\∃t,.done n t q.2∈c:=by
 cases h:aT (aP [] (cS "done" c f c.length)) (Sum.inl (n:Int)) with
 | none=>
  refine⟨none,rfl,?_,λ_ e=>nomatch e⟩
  cases e:kH c n with
  | nil=>rfl
  | cons z l=>
   have C:z∈kH c n:=by rw[e];exact fP
   obtain⟨D,E⟩:=tI C;obtain⟨j,M,a,k,_⟩:=pE RR.len E (wd:="done") rfl;rw[show gK (.done n D z)=Sum.inl (n:Int) from rfl,h]at k;cases k
 | some v=>
  rcases hX h with g|g
  ·obtain⟨j,r,a,_,g1,g2,g3,F,rfl⟩:=lK g;obtain⟨m,t,y,rfl⟩:=yZ g3;have:(Sum.inl (n:Int):aX)=Sum.inl (m:Int):=F;injection this with this
   have G:n=m:=by omega
   subst G;have p:=dB g1;obtain⟨N,O,d,Q,s,I⟩:=RR.get (i:=j) (v:=.ref a) (by rw[fB,g2];rfl);injection d with d
   subst d;rw[g1]at s;injection s with d
   subst d;obtain⟨b,J,L⟩:=I;refine⟨some (a,y),rfl,(Ie x p).symm,λq e=>?_⟩;cases e;exact⟨b,_,_,J,L,t,p⟩
  ·cases g
def jT(w:Str):List V:=if w="none" then [.non] else if w="any" then [.non,.str "yes",.str "no",.str "undone"] else [.str w]
def Ig{a:List RX}(h:RX.Whole a)(n:Nat)(x:Dd)(i:Nat):Xc (sX "asked" a (Sum.inl (n:Int))) x i (kH a n).head?=jT (gM a n x i):=by
 unfold gM;cases d:sX "asked" a (Sum.inl (n:Int)) with
 | false=>rw[ZN ZX];exact(ZO rfl).trans (ZO rfl).symm
 | true=>
  rw[ZO rfl];cases e:(kH a n).head? with
  | none=>
   show _=jT "any";unfold jT;rw[ZN Zk,ZO rfl];rfl
  | some y=>
   have f:y∈kH a n:=List.mem_of_head? e;obtain⟨t,j⟩:=tI f;have c:=Id h (xS d) j;have b:jT "yes"=[.str "yes"]:=by unfold jT;rw[ZN Zk,ZN Zk]
   have no:jT "no"=[.str "no"]:=by unfold jT;rw[ZN Zk,ZN Zk]
   have un:jT "undone"=[.str "undone"]:=by unfold jT;rw[ZN Zk,ZN Zk]
   have nn:jT "none"=[.non]:=ZO rfl
   cases y with
   | short m=>cases c
   | full m=>cases c
   | is1 m=>exact b.symm
   | is2 l m=>exact b.symm
   | ok=>exact b.symm
   | no g=>
    show(if i<iW g ((cU x).map (·.1)) then [V.str "undone"] else if i=iW g ((cU x).map (·.1)) then [V.str "no"] else [V.non])=jT (if i<iW g ((cU x).map (·.1)) then ("undone":Str) else if i=iW g ((cU x).map (·.1)) then ("no":Str) else ("none":Str));split
    ·exact un.symm
    ·split
     ·exact no.symm
     ·exact nn.symm
def dP:RX->Bool|.came _ _ _ _ _=>true|_=>false
def Ih{c d:Type}{R:c->d->Prop}{xs a:List c}{ys b:List d}(h:Paired R xs ys)(h':Paired R a b):Paired R (xs++a) (ys++b):=by
 induction h with
 | nil=>exact h'
 | cons h t e=>exact .cons h e
theorem vF{b:List RX}{c:List ZR}(le:b.length=c.length):∀i,i<=b.length->Paired (λ(r:RX) (e:aX×V)=>dP r=true/\e.1=gK r/\r∈b) ((b.take i).filter dP) (cS "came" b c i)
 | 0,_=>.nil
 | i+1,g=>by
  obtain⟨r,d⟩:∃r,b[i]?=some r:=⟨b[i],cD Zo⟩;obtain⟨a,f⟩:∃a,c[i]?=some a:=⟨c[i],cD Zo⟩;rw[gL d f,bJ d,filter_append];refine Ih (vF le i Zo) ?_;unfold hV;by_cases h:gJ r="came"
  ·rw[ZO h];obtain⟨n,t,p,k,x,rfl⟩:=nP h;exact .cons ⟨rfl,rfl,dB d⟩ .nil
  ·rw[ZN h];have:dP r=false:=by cases r<;>first|rfl|exact ZM rfl h
   rw[filter_cons,this];exact .nil
theorem pL(b:List RX):∀a:List RX,a.flatMap (gN b)=(a.filter dP).flatMap (gN b)
 | []=>rfl
 | r::a=>by
  rw[ZE,pL b a,filter_cons];cases r<;>rfl
theorem zK{b c:Type}{f:b->List c}{r:b}{j:Nat}{w:c}(a:(f r)[j]?=some w):∀ {L:List b}{i:Nat},L[i]?=some r->(L.flatMap f)[((L.take i).flatMap f).length+j]?=some w
 | [],_,h=>by cases h
 | z::L,0,h=>by
  cases h;rw[ZE];show(f r++L.flatMap f)[0+j]?=some w;rw[zero_add,getElem?_append_left (Zgs.mp a).1,a]
 | z::L,i+1,h=>by
  have:=zK a (L:=L) (i:=i) h;rw[List.take_succ_cons,ZE,ZE,kJ,Nat.add_assoc,List.getElem?_append_right Zo,Nat.add_sub_cancel_left,this]
def Ii{a b:Type}{f:a->List b}{r:a}{L:List a}{i:Nat}(h:L[i]?=some r):((L.take (i+1)).flatMap f).length=((L.take i).flatMap f).length+(f r).length:=by
 rw[bJ h,flatMap_append,kJ,ZE,flatMap_nil,append_nil]
def Mw(a b:Str):kK (.str a) [.str b]=decide (a=b):=by
 show((b==a)||false)=_;rw[Bool.or_false];by_cases e:a=b
 ·subst e;simp
 ·rw[ZT e];exact beq_eq_false_iff_ne.mpr (λz=>e z.symm)
def Fin.entry{C:ZR}{ws:List Str}{nm:List Nat}{W:List Wt}{H:Hp}{u:ZR}{us:List Str}{z:List SA}{xs:List SS}{os:List Oc}{e:Nat}(h:Fin C ws nm W H u us z xs os e)(X:vE W)(Y:us.Nodup){kvs:List (List aX×V)}(en:EnIs H us xs kvs){k:Nat}{w:Wt}(M:W[k]?=some w)(N:Bx ws us w){o:Oc}(O:os[k]?=some o)(t:ZR)(gt:H t=some (.tup w.d.vs)) :
  ∃(E:Option ZR)(A:Option (ZR×List V))(B:V),aT kvs (rB w.h (zH nm w))=E.map V.ref/\(∀a,E=some a->H a=some (.tup [Tz A,B]))/\(E=none->A=some (t,w.d.vs)/\B=.non)/\Ln H A w.d.vs/\cI B=true/\dO w o=(vI A w.d.vs&&kK B (jT w.w)):=by
 obtain⟨j,r⟩:=getElem?_of_mem N.h;have s:=(Zgs.mp r).1;have g:xs[j]?=some (xs[j]'(by rw[h.lx];exact s)):=cD _;have Q:z[j]?=some (z[j]'(by rw[h.lz];exact s)):=cD _;generalize xs[j]'(by rw[h.lx];exact s)=x at g;generalize z[j]'(by rw[h.lz];exact s)=a0 at Q;have F:=dB g;have R:=h.kv j _ x r g;have st:=h.at_ j a0 x Q g;have G:HDX w.d.vs:=by obtain⟨na,wd,n,a2,Z,_⟩:=N.d.ex;exact⟨_,_,_,_,Z⟩
 cases I:aT kvs (rB w.h (zH nm w)) with
 | none=>
  have:o=none:=by
   cases o with
   | none=>rfl
   | some q=>
    obtain⟨b,J,i,_⟩:=R.to_ k w q M rfl O;obtain⟨y,m,f,_⟩:=h.back x F b J;obtain⟨e,p,_⟩:=en.to_ j _ x y r g m;rw[f,i,I]at p;cases p
  subst this;have S:dC w.d.vs w.d.vs:=λj a1 v i f=>⟨G.flat i,G.flat f⟩
  refine⟨none,some (t,w.d.vs),.non,rfl,(λ_ e=>nomatch e),λ_=>⟨rfl,rfl⟩,λq e=>by cases e;exact⟨gt,S⟩,rfl,?_⟩;show dO w none=(cJ w.d.vs w.d.vs&&_);rw[kB S,Bool.true_and];unfold dO jT;by_cases c:w.w="none"
  ·rw[ZO c,ZO c];rfl
  ·rw[ZN c,ZN c];by_cases d:w.w="any"
   ·rw[ZO d,ZO d];rfl
   ·rw[ZN d,ZN d];rfl
 | some v=>
  obtain⟨j',x',y,i,f,m,p⟩:=en.from_ _ _ _ I;have ej:=(getElem?_inj s Y).mp (r.trans i.symm);subst ej;rw[g]at f;cases f;obtain⟨e,T,h5⟩:=en.to_ j _ x y r g m;rw[p,I]at T;cases T;have u:=h.said x F y m;obtain⟨b,J,L⟩:∃b∈x.kv,qW y b:=by
   rcases h.frn x F y m with l|l
   ·exact ZM p (l w.n w.i)
   ·exact l
  obtain⟨k',D,g1,_,g3,U⟩:=R.from_ b J;have X3:tx (gD nm D.n D.i)=tx (gD nm w.n w.i):=by
   rw[<- show b.key=tx (gD nm D.n D.i) from g3,<- L.1];exact p
  obtain⟨q1,q2⟩:=xM X3;have:=X _ _ _ _ g1 M q1 q2;subst this;rw[O]at U;cases U;have eo:Ua b=(y.dd.map (·.2),y.word):=by
   show(b.dd.map (·.2),b.word)=_;rw[<- L.2.1,<- L.2.2]
  rw[eo];refine⟨some e,y.dd,.str y.word,rfl,λa ea=>?_,(λe=>nomatch e),λq e=>⟨(st.hs.ents y m).2 q.1 q.2 e,λj a1 v i f=>⟨(u.1 q e).flat i,G.flat f⟩⟩,rfl,?_⟩
  ·cases ea;rw[h5];cases y.dd<;>rfl
  ·rw[xQ];unfold dO jT;by_cases c:w.w="none"
   ·rw[ZO c,ZO c];show false=(_&&false);rw[Bool.and_false]
   ·rw[ZN c,ZN c];by_cases d:w.w="any"
    ·rw[ZO d,ZO d];show xP _ _=(xP _ _&&_);have:kK (.str y.word) [.non,.str "yes",.str "no",.str "undone"]=true:=by
      rcases u.2 with l|⟨l|l,_⟩<;>rw[l]<;>decide +kernel
     rw[this,Bool.and_true]
    ·rw[ZN d,ZN d,Mw]
def zL(C:ZR)(ws:List Str)(nm:List Nat):Sp:=λvs H Q _=>∃(d f i:ZR)(a:List RX)(j:List ZR)(b:List Str)(g:List SA)(k:List ZR)(l:List SS)(os:List Oc)(e:Nat),vs=[.str (tx nm),.ref d,.ref f]/\kI nm/\RxsAt H d a j/\a.length<=30/\RX.Whole a/\(∀r∈a,r.Ok)/\HlAt H f b g k/\Fin C ws nm (cY a) H i b g l os e/\e<164/\b.Nodup/\b.length<=6/\vE (cY a)/\(∀w∈cY a,Bx ws b w) ∧
 ∀h v c,BadIs (cY a) os h->nB c h v->Same H c->Q v c
def Ij{C:ZR}{ws:List Str}{nm:List Nat}(T:Txt K mg)(T2:aI P w K mg base 2 "entries_of" ["houses"] (rC C))(w5:aI P w K mg base 1 "by_numbers" QZW zD)(oe:aI P w K mg base 1 "asks_of" Zn Fm)(V7:aI P w K mg base 1 "due_words" QZU pK)(qu:aI P w K mg base 1 "key_of" W1 zC)(D:DefAt K mg "first_unlike" dF QZV):aI P w K mg base 3 "first_unlike" QZV (zL C ws nm):=by
 refine D.gg aV (λf cdv a5 outer a6 a2 vs a7 a8 p h=>?_)
 ·obtain⟨L,hl,sd,a,d,us,zs,hs,xs,os,e,rfl,z8,M,T3,N,hok,ha,G,he,P1,uh,J1,X6,q⟩:=h;have d6:=dQ p;have z9:=p.units;have le:=M.len;refine⟨_,(ko (ms (i:=3) aV.nd (lv T2 p rfl (kj (kl 2) km))) (ko (ms (i:=4) aV.nd (lv w5 p rfl (kj (kl 1) (kj ku km)))) (ko (ms (i:=5) aV.nd (lv w5 p rfl (kj (kl 1) (kj ku km)))) (ko (ms (i:=6) aV.nd (lv w5 p rfl (kj (kl 1) (kj ku km)))) (ko (FS PassesOwn.never rfl (R.wD (kl 6)) (oy (i:=7) aV.nd) (ko (ms (i:=8) aV.nd (lv oe p rfl (kj (ou (v0 (K:=K)) (O5 d6 (kl 6) (kl 7)) kt) km))) (kz (FS PassesOwn.never rfl (R.jc (K:=K) rfl T.b_enumerate (kl 8)) (O6 (K:=K) (n:=2) rfl (tj (oy (i:=9) aV.nd) (tj (oy (i:=10) aV.nd) PP))) (ko (ms (i:=11) aV.nd (lv V7 p rfl (kj (kl 8) (kj (kl 9) (kj (wp (R.ir d6) (kl 7) (kl 4)) (kj (R.jo d6 (kl 5) (kl 7)) km)))))) (ko (ms (i:=12) aV.nd (U0 d6 (kl 3) (mo (kj (li K 10) (kj (lv qu p rfl (kj (kl 0) (kj (kl 7) (kj (kl 9) km)))) km))) (mo (kj (li K 10) (kj G8 km))))) (kz (oq (xz (T8 (nw (R.iz z9) (li K 12) (li K 10)) (T9 (nw (R.gx (K:=K)) (li K 12) (kl 11))))) (kz (om (mo (kj (kl 7) (kj (kl 9) km))))) ot)))))))) (kz (om G8))))))),?_⟩;refine⟨hl,us,zs,hs,xs,rfl,ha,G.lz,G.lx,P1,uh,λj z x b g=>⟨_,G.at_ j z x b g⟩,λx hx=>jQ (G.len x hx) Zd,λed kvs H1 YR UB UC s1=>?_⟩;refine⟨L,"asked",a,d,rfl,M.same s1,Zo,λak H2 YS UD s2=>?_⟩;refine⟨L,"done",a,d,rfl,(M.same s1).same s2,Zo,λdn H3 YT UE s3=>?_⟩;refine⟨L,"came",a,d,rfl,((M.same s1).same s2).same s3,Zo,λs H4 UG gcd s4=>?_⟩;dsimp only [aL];refine aQ (λl u=>BadIs (cY a) os none/\Same a2 u) (λnx a9=>?_) ?_
  ·refine⟨_,gcd,λo=>?_⟩;have em:=xG N le;have np:=vF le a.length (bQ _);rw[nT (bQ _)]at np;have UH:(a.filter dP).length=(cS "came" a d a.length).length:=np.length;have gF:(aK H4 s (.frz o (.dK (aP [] (cS "came" a d a.length))))) s=some (.frz o (.dK (aP [] (cS "came" a d a.length)))):=aA;have kF:∀c v,H3 c=some v->(aK H4 s (.frz o (.dK (aP [] (cS "came" a d a.length))))) c=some v:=λc v e=>by
    rw[aF (aD e UG)];exact s4 _ _ e
   generalize aK H4 s (.frz o (.dK (aP [] (cS "came" a d a.length))))=HF at gF kF;have JR:Same H1 HF:=λc v e=>kF _ _ (s3 _ _ (s2 _ _ e))
   have sF:Same a2 HF:=λc v e=>JR _ _ (s1 _ _ e)
   have UI:=G.same sF;have UJ:=UC.same JR;have DF:=JR _ _ UB;have JS:=kF _ _ (s3 _ _ UD);have DG:=kF _ _ UE;have RF:=M.same sF;have eW:cY a=(a.filter dP).flatMap (gN a):=pL a a;refine cF (Ku s o (aP [] (cS "came" a d a.length))) (λi l u=>∃(o7 o8 O Q S U:Option V),l=[some (.str (tx nm)),some (.ref L),some (.ref hl),some (.ref ed),some (.ref ak),some (.ref dn),some (.ref s),o7,o8,O,Q,S,U]/\(∀(k:Nat) w o,k<(((a.filter dP).take i).flatMap (gN a)).length->(cY a)[k]?=some w->os[k]?=some o->dO w o=true)/\Same HF u) (λi l u ⟨_,_,_,_,_,_,_,_,s'⟩=>s' _ _ gF)
    ⟨_,_,_,_,_,_,rfl,λk _ _ B=>ZM B (not_lt_zero _),λ_ _ e=>e⟩ ?_ ?_
   ·rintro i v l H5 y ⟨o7,o8,O,Q,S,U,rfl,hg,A⟩;rw[fB,em]at y;cases CU:(cS "came" a d a.length)[i]? with
    | none=>rw[CU]at y;cases y
    | some kv=>
     rw[CU]at y;injection y with y
     subst y;obtain⟨hi,ei⟩:=Zgs.mp CU;obtain⟨zz,OE,uq,FQ⟩:=Paired.get' (j:=i) np hi;rw[ei]at uq;have JT:(a.filter dP)[i]?=some (a.filter dP)[i]:=cD zz;generalize (a.filter dP)[i]=r at OE uq FQ JT;cases r with
     | came n t a3 k x=>
      dsimp only;rw[uq];have R5:=RF.same A;obtain⟨ca,cb,ct,UK,UL,UM⟩:=Mr N R5 FQ;have yr:x.Ok:=(hok _ FQ).2.2.2.2.2;have UN:DGet H5 s (.int (n:Int)) (some (.ref ca)):=.inl ⟨_,Sum.inl (n:Int),.inr ⟨o,A _ _ gF⟩,rfl,UK.symm⟩;obtain⟨cs,JU⟩:=Tg x;refine⟨s,_,rfl,UN,_,QZy UL,_,rfl,cb,x.wd,x.vs,cs,Mu x,rfl,UM,JU,λta OF H6 s6 g6 pa=>?_⟩;dsimp only [aL];have J7:=pa.length;have yz:(cU x).length=OF.length:=by rw[<- J7];unfold Mu;rw[bF]
      have eq1:gN a (.came n t a3 k x)=pG a n x 0 (cU x):=rfl;refine⟨_,QZy g6,Bj (λj l u=>∃(O Q S U:Option V),l=[some (.str (tx nm)),some (.ref L),some (.ref hl),some (.ref ed),some (.ref ak),some (.ref dn),some (.ref s),some (.int (n:Int)),some (.ref ta),O,Q,S,U]/\(∀(k:Nat) w o,k<(((a.filter dP).take i).flatMap (gN a)).length+j->(cY a)[k]?=some w->os[k]?=some o->dO w o=true)/\Same H6 u) (λj l u ⟨_,_,_,_,_,_,s'⟩=>QZy (s' _ _ g6))
       ⟨_,_,_,_,rfl,hg,λ_ _ e=>e⟩ ?_ ?_⟩
      ·rintro j v l H7 t7 y ⟨DH,qv,JV,JW,rfl,FR,s7⟩ UO;obtain⟨X4,ea⟩:=Zgs.mp y;obtain⟨R3,aa,da,h0,b,g⟩:=Paired.get' (j:=j) pa X4;rw[ea]at h0;subst h0;have CP:j<(cU x).length:=by omega
       have UP:(Mu x)[j]=((cU x)[j].1,(cU x)[j].2.vs):=getElem_map (λq:Str×Dd=>(q.1,q.2.vs));rw[UP]at b g;have OG:(cU x)[j]?=some (cU x)[j]:=cD CP;have JX:=sY a n x (cU x) 0 j _ OG;rw[zero_add]at JX;generalize (cU x)[j]=m at b g OG JX;have H:=zK (f:=gN a) (r:=.came n t a3 k x) (j:=j) JX JT;rw[<- eW]at H;have UQ:=(Zgs.mp H).1;have Y7:x.far=true:=by
        cases x with
        | send h a0 a4=>rfl
        | fetch h a0 a4=>rfl
        | pass h b0 a0 a4=>rfl
        | _=>exact ZM CP (not_lt_zero _)
       obtain⟨ow,how⟩:∃ow,os[(((a.filter dP).take i).flatMap (gN a)).length+j]?=some ow:=⟨_,cD (by rw[G.lo];exact UQ)⟩;have L4:=X6 _ (dB H);have s8:=aH (o:=.tup [.int (j:Int),.ref aa]) UO;refine⟨t7,_,rfl,QZy aA,rfl,_,_,rfl,_,_,rfl,rfl,?_⟩;dsimp only [aL];generalize aK H7 t7 (.tup [.int (j:Int),.ref aa])=I at s8 ⊢;have xk:Same H6 I:=s7.trans s8;have W:Same HF I:=A.trans (s6.trans xk);have R8:=RF.same W;have UR:DGet I ak (.int (n:Int)) (aT (aP [] (cS "asked" a d a.length)) (Sum.inl (n:Int))):=DGet.k (k:=Sum.inl (n:Int)) (W _ _ JS);have US:DGet I dn (.int (n:Int)) (aT (aP [] (cS "done" a d a.length)) (Sum.inl (n:Int))):=DGet.k (k:=Sum.inl (n:Int)) (W _ _ DG);obtain⟨od,UT,UU,UX⟩:=Mv N R8 n;have JQ:∀q,od=some q->∃(a1:ZR)(v1 v2:V),I q.1=some (.tup [.str "done",v1,v2,.ref a1])/\I a1=some (.tup q.2.vs)/\An.Of x q.2:=λq e=>by
        obtain⟨a1,v1,v2,g1,g2,t',g3⟩:=UX q e;exact⟨a1,v1,v2,g1,g2,zF N FQ g3⟩
       refine⟨_,UR,dn,rfl,.inl ⟨_,Rd.of (W _ _ DG)⟩,_,US,ta,x,j,sX "asked" a (Sum.inl (n:Int)),od,OF,?_,xk _ _ g6,Paired.map' (λ_ _ h=>h.same xk) pa,JQ,Y7,yr,λtd H9 s9 g9=>?_⟩
       ·rw[UT,<- Bu le];rfl
       rw[UU,Ig N]at g9;dsimp only [aL];have OH:Same HF H9:=W.trans s9;have uj:Same H6 H9:=xk.trans s9;refine⟨ed,rfl,.inr ⟨_,Rd.of (OH _ _ DF)⟩,_,QZy (uj _ _ b),_,rfl,nm,n,j,rfl,by have:=z8.five;omega,L4.n,L4.i,aS rfl,λtk uk OI UY=>⟨_,QZy (OI _ _ (uj _ _ b)),_,rfl,aS rfl,λOJ E V8 UZ=>?_⟩⟩;have zc:Same H9 E:=OI.trans V8;have vm:Same HF E:=OH.trans zc;have vn:Same H6 E:=uj.trans zc;have OK:DGet E ed (.ref tk) (aT kvs (rB m.1 (tx (gD nm n j)))):=DGet.t (k:=rB m.1 (tx (gD nm n j))) (vm _ _ DF) (V8 _ _ UY);obtain⟨ev,J,wv,f1,f2,f3,f4,f5,X⟩:=(UI.same vm).entry J1 P1 (UJ.same vm) H L4 how da (vn _ _ g);have f1:aT kvs (rB m.1 (tx (gD nm n j)))=ev.map V.ref:=f1;rw[f1]at OK;obtain⟨e0,VA,OL⟩:∃e0,(ev.map V.ref).getD (.ref OJ)=.ref e0/\E e0=some (.tup [Tz J,wv]):=by
        cases ev with
        | none=>
         obtain⟨z1,z2⟩:=f3 rfl;subst z1;subst z2;exact⟨OJ,rfl,UZ⟩
        | some a0=>exact⟨a0,rfl,f2 a0 rfl⟩
       refine⟨_,OK,?_⟩;dsimp only [aL];rw[VA];generalize OM:dO ⟨n,j,m.1,m.2,gM a n x j⟩ ow=gw at X;have X:gw=(vI J m.2.vs&&kK wv (jT (gM a n x j))):=X;have sH:Same a2 E:=sF.trans vm;refine oW (λv u=>v=(!gw)/\Same E u) (λkk J8=>?_) ?_ ?_
       ·refine⟨_,QZy OL,_,rfl,_,QZy (vn _ _ b),_,rfl,J,m.2.vs,rfl,f4,vn _ _ g,?_⟩;show if (!vI J m.2.vs)=true then _ else _
        refine cP (λh=>?_) (λh=>?_)
        ·refine J8 _ _ ⟨?_,λ_ _ e=>e⟩;rw[X];have:vI J m.2.vs=false:=by simpa using h
         rw[this];rfl
        ·refine⟨_,QZy OL,_,rfl,td,_,rfl,.inr (QZy (zc _ _ g9)),f5,?_,?_⟩
         ·unfold jT;split
          ·rfl
          ·split<;>rfl
         ·refine J8 _ _ ⟨?_,λ_ _ e=>e⟩;rw[X];have:vI J m.2.vs=true:=by simpa using h
          rw[this,Bool.true_and];rfl
       ·rintro og ⟨qm,Q0⟩;refine⟨aS rfl,λt' JY V9 JZ=>?_⟩;exact q (some (n,j)) _ JY ⟨_,_,ow,H,how,by rw[OM];simpa using qm.symm,rfl,λF Y Z B=>FR F Y Z B⟩ ⟨t',rfl,JZ⟩ (sH.trans (Q0.trans V9))
       ·rintro og ⟨qm,Q0⟩;refine⟨_,_,_,_,rfl,λF Y Z B b g=>?_,vn.trans Q0⟩;rcases lt_or_ge F ((((a.filter dP).take i).flatMap (gN a)).length+j) with z|z
        ·exact FR F Y Z z b g
        ·have:F=(((a.filter dP).take i).flatMap (gN a)).length+j:=by omega
         subst this;rw[H]at b;cases b;rw[how]at g;cases g;rw[OM];simpa using qm.symm
      ·rintro l H7 ⟨DH,qv,JV,JW,rfl,FR,s7⟩;refine⟨_,_,_,_,_,_,rfl,λF Y Z B=>FR F Y Z ?_,A.trans (s6.trans s7)⟩;rw[Ii JT,eq1,lN,yz]at B;exact B
     | _=>cases OE
   ·rintro l H5 ⟨o7,o8,O,Q,S,U,rfl,hg,A⟩;rw[bF,em,<- UH,nT (bQ _),<- eW]at hg;exact a9 _ _ ⟨λk w o b g=>hg k w o (Zgs.mp b).1 b g,sF.trans A⟩
  rintro l H5 ⟨hb,A⟩;exact q none .non H5 hb rfl A
theorem Rep.up{H:Hp}:∀ {n:Nat}{t:TV}{x:V},Rep H n t x->Rep H (n+1) t x
 | 0,.sc v,x,h=>h
 | n+1,.sc v,x,h=>h
 | n+1,.tp c,x,⟨a,b,e,g,p⟩=>⟨a,b,e,g,Paired.map' (λ_ _=>Rep.up) p⟩
 | n+1,.ls c,x,⟨a,b,e,g,p⟩=>⟨a,b,e,g,Paired.map' (λ_ _=>Rep.up) p⟩
def Ti(z:EN):TV:=.tp [.sc (.str z.key),dT z.dd,.sc (.str z.word)]
def Zp(x:SS):TV:=.tp [Fk (xE (x.am.map (·.1)) (bE x.am)),.ls ((eR x.en).map Ti)]
def Tj{c d e:Type}{R:c->d->Prop}{S:e->d->Prop}{f:c->e}(h:∀a b,R a b->S (f a) b){xs:List c}{ys:List d}(p:Paired R xs ys):Paired S (xs.map f) ys:=by
 induction p with
 | nil=>exact .nil
 | cons r t g=>exact .cons (h _ _ r) g
def Mx{c d e:Type}{R:c->d->Prop}{S:c->e->Prop}{f:d->e}(h:∀a b,R a b->S a (f b)){xs:List c}{ys:List d}(p:Paired R xs ys):Paired S xs (ys.map f):=by
 induction p with
 | nil=>exact .nil
 | cons r t g=>exact .cons (h _ _ r) g
def Tk{c d:Type}{R S:c->d->Prop}{xs:List c}{ys:List d}(h:∀a b,a∈xs->R a b->S a b)(p:Paired R xs ys):Paired S xs ys:=by
 induction p with
 | nil=>exact .nil
 | cons r t e=>exact .cons (h _ _ fP r) (e λa b f=>h a b (nD _ f))
def Tl{H:Hp}{z:EN}{a:ZR}(h:Mp H z a)(b:∀d xs,z.dd=some (d,xs)->H d=some (.tup xs))(c:∀d xs,z.dd=some (d,xs)->∀y∈xs,jY y=true):Rep H 2 (Ti z) (.ref a):=
 ⟨a,_,rfl,h,.cons (Rep.scal rfl) (.cons (Ta b c) (.cons (Rep.scal rfl) .nil))⟩
def HDX.sc{xs:List V}(h:HDX xs):∀y∈xs,jY y=true:=by
 obtain⟨a,b,c,rfl⟩:=h.shape;intro y d;simp only [mem_cons,ZH,or_false]at d;rcases d with rfl|rfl|rfl<;>rfl
def Og(a:List RX)(xs:List SS):TV:=.tp [.ls (a.map RX.tv),.ls (xs.map Zp)]
def rD{C:ZR}{ws:List Str}{nm:List Nat}{W:List Wt}{H:Hp}{M r:ZR}{us:List Str}{g:List SA}{s:List ZR}{xs:List SS}{os:List Oc}{e:Nat}(d:Fin C ws nm W H M us g xs os e)(t:HlAt H r us g s)(he:e<164)(uh:us.length<=6)(N:ws.length<=6){σ:St}{R:List V->Hp->Prop}(a0:∀ys c,Paired (Rep c 4) (xs.map Zp) ys->Same H c->R ys c) :
  oJ [none,none] (Cj K 2 (tP (aL 0) (tP (aL 1) Iz))) yI (yT (fF (qP C "rows" (sV C) (vr 1) jR) (fF (qP C "kept" (nR C) (vr 1) jR) jR))) σ (Up K r) H R:=by
 have O:=t.len;have VB:=d.lz;have Q:=d.lx;refine bO (bI K r (s.map V.ref)) (by rw[bF];omega) (λi ys c=>Paired (Rep c 4) ((xs.take i).map Zp) ys/\ys.length<=i/\Same H c) (λi ys c ⟨_,n,T⟩=>⟨QZx (T _ _ t.lst),n⟩) ⟨.nil,bQ _,λ_ _ e=>e⟩ (?_) (?_)
 ·rintro i v ys E j ⟨o,n,k⟩;rw[fB]at j;cases p:s[i]? with
  | none=>rw[p]at j;cases j
  | some a=>
   rw[p]at j;cases j;have hi:=(Zgs.mp p).1;have F:us[i]?=some (us[i]'Zo):=cD _;have u:g[i]?=some (g[i]'Zo):=cD _;have q:xs[i]?=some (xs[i]'Zo):=cD _;generalize us[i]'Zo=a1 at F;generalize g[i]'Zo=z at u;generalize xs[i]'Zo=x at q;have U:=k _ _ (t.at_ i a a1 z p F u);have A:=dB q;have st:=(d.at_ i z x u q).same k;have FT:=nS st.hs.nda (d.sub x A) N;have NI:=d.len x A;refine⟨a,_,rfl,QZy U,rfl,_,_,rfl,_,_,rfl,rfl,?_⟩;refine⟨z.a.dx,_,st.hs.hp,dR z.a Zk Zk Zk,z.p,z.a,x.am,_,x.en,340+e,rfl,st.hs,Zo,λX z2 H2 G f2 g2 Y Z=>?_⟩;have B:=st.same G;refine⟨z.a.dx,_,B.hs.hp,dR z.a Zk Zk Zk,z.p,z.a,x.am,_,x.en,340+e,rfl,B.hs,Zo,λI bs H3 D f3 g3 VE=>⟨aS rfl,λt4 l m g4=>?_⟩⟩;have r2:Rep l 3 (Fk (xE (x.am.map (·.1)) (bE x.am))) (.ref X):=by
    have:=Rep.same (D.trans m) (Rep.up (Fl g2 Y));rw[Z]at this;exact this
   have vg:=B.same (D.trans m);have r3:Rep l 3 (.ls ((eR x.en).map Ti)) (.ref I):=by
    refine⟨I,_,rfl,m _ _ g3,Tj (R:=λy v=>Rep l 2 (Ti y) v) (f:=Ti) (λ_ _ x=>x) (Mx (R:=λy b=>Rep l 2 (Ti y) (.ref b)) (S:=λy v=>Rep l 2 (Ti y) v) (f:=V.ref) (λ_ _ x=>x) (Tk (R:=Mp H3) (λy b hy h=>?_) VE))⟩;have J:=(mK st.hs.nde).mp hy;exact Tl (m _ _ h) (vg.hs.ents y J).2 (λa2 ys e=>((d.said x A y J).1 (a2,ys) e).sc)
   have L:=(G.trans D).trans m;refine⟨?_,by rw[kJ];exact Nat.succ_le_succ n,k.trans L⟩;rw[bJ q,gO];exact Ih (Paired.map' (λ_ _ h=>h.same L) o) (.cons ⟨t4,_,rfl,g4,.cons r2 (.cons r3 .nil)⟩ .nil)
 ·rintro ys E ⟨o,n,k⟩;rw[bF,O,<- Q,nT (bQ _)]at o;exact a0 ys E o k
def Tm(C:ZR)(ws:List Str)(nm:List Nat):Sp:=λvs H Q _=>∃(d f i:ZR)(a:List RX)(j:List ZR)(b:List Str)(g:List SA)(k:List ZR)(l:List SS)(os:List Oc)(e:Nat),vs=[.str (tx nm),.ref d,.ref f]/\kI nm/\RxsAt H d a j/\a.length<=30/\RX.Whole a/\(∀r∈a,r.Ok)/\HlAt H f b g k/\Fin C ws nm (cY a) H i b g l os e/\e<164/\b.Nodup/\b.length<=6/\ws.length<=6/\vE (cY a)/\(∀w∈cY a,Bx ws b w) ∧
 ∀h v c,BadIs (cY a) os h->nB c h v->Same H c->Q v c
def zM(C:ZR):Sp:=λvs H Q E=>∃a nm,Tm C a nm vs H Q E
def Mz{C:ZR}(T:Txt K mg)(vo:∀ws nm,aI P w K mg base 3 "first_unlike" QZV (zL C ws nm))(Y:kL P w K mg base 1 C "rows" ZA (sV C))(Z:kL P w K mg base 1 C "kept" ZA (nR C))(D:DefAt K mg "_law_told" dS QZJ):aI P w K mg base 4 "_law_told" QZJ (zM C):=by
 refine D.gg fZ (λa4 cdv a5 outer a6 a0 vs a7 a8 q h=>?_)
 ·obtain⟨ws,nm,u,m,sd,I,x,us,zs,hs,M,os,e,rfl,z8,J,T3,mh,hok,r,y,O,P1,Q,nh,J1,X6,a1⟩:=h;have z9:=q.units;have M3:=vo ws nm;have ph:=r.len;have VB:=y.lz;have HQ:=y.lx;refine⟨_,(ko (ms (i:=3) fZ.nd (mo (kj (O4 (R.jf (K:=K)) rfl T.b_list yM (kj (kl 1) km)) (kj (O2 rfl (js:=[none,none]) (N:=W4) (CompScope.by (aB dS) QZH rfl rfl Zk) (kS (cQ rfl (cQ rfl iZ))) (wr (K:=K) (kl 2)) (λC s₂ H₂ fp=>⟨(O6 (K:=K) (n:=2) rfl (tj (oy (i:=0) (show(W4:List Str).Nodup by decide +kernel)) (tj (oy (i:=1) (show(W4:List Str).Nodup by decide +kernel)) PP))),Q5,(mo (kj (R.eh Y q (kl 1)) (kj (R.eh Z q (kl 1)) km)))⟩)) km)))) (ko (ms (i:=4) fZ.nd (lv M3 q rfl (kj (kl 0) (kj (kl 1) (kj (kl 2) km))))) (ko (oq (nw (R.fg z9) (mo (kj (kl 1) (kj (O2 rfl (js:=[none,none]) (N:=W4) (CompScope.by (aB dS) QZH rfl rfl Zk) (kS (cQ rfl (cQ rfl iZ))) (wr (K:=K) (kl 2)) (λC s₂ H₂ fp=>⟨(O6 (K:=K) (n:=2) rfl (tj (oy (i:=0) (show(W4:List Str).Nodup by decide +kernel)) (tj (oy (i:=1) (show(W4:List Str).Nodup by decide +kernel)) PP))),Q5,(mo (kj (R.eh Y q (kl 1)) (kj (R.eh Z q (kl 1)) km)))⟩)) km))) (kl 3)) (kz (om kt)) ot) (ko (oq (nw R.gi (kl 4) G8) (kz (om G8)) ot) (ko (oq (xz (T8 (FM (wn (U1 .tup (kl 4) rfl T.b_isinstance rfl T.b_tuple uA))) (T9 (nw UF (ut (IN (K:=K)) rfl T.b_len cE (kj (kl 4) km)) kt)))) (kz (om kt)) ot) (ko (FS PassesOwn.never rfl (R.du (K:=K) (kl 4)) (oy (i:=5) fZ.nd) (kz (oq (xz (T8 (wn (U1 .bl (kl 5) rfl T.b_isinstance rfl T.b_bool yN)) (T9 (FM (wn (U1 .int (kl 5) rfl T.b_isinstance rfl T.b_int jX)))))) (kz (om kt)) ot))) (kz (om (kl 4))))))))),?_⟩;refine aQ (λd b=>∃g:ZR,d=[some (.str (tx nm)),some (.ref u),some (.ref m),some (.ref g),none,none]/\Rep b 6 (Og I M) (.ref g)/\Same a0 b) (λnx A=>?_) ?_
  ·refine⟨_,.inl (QZx J.lst),λS ON=>⟨m,rfl,⟨_,QZx (bH r.lst ON)⟩,?_⟩⟩;have j:=aH (o:=.lst (x.map V.ref)) ON;have g1:(aK a0 S (.lst (x.map V.ref))) S=some (.lst (x.map V.ref)):=aA;refine rD (y.same j) (r.same j) O Q nh (λB U p2 L l3 VF=>⟨aS rfl,λg H4 s g4=>?_⟩);have k:=aH (o:=.lst B) VF;have t:=(L.trans k).trans s;have R4:RxsAt H4 S I x:=⟨t _ _ g1,Paired.map' (λ_ _ h=>h.tk (j.trans t).tk) J.each⟩;exact A _ _ ⟨g,rfl,⟨g,_,rfl,g4,.cons (Rep.up (Rep.up R4.rep)) (.cons ⟨l3,B,rfl,s _ _ aA,Paired.map' (λ_ _ h=>h.same (k.trans s)) p2⟩ .nil)⟩,j.trans t⟩
  rintro _ H1 ⟨g,rfl,rk,j⟩;refine⟨u,m,sd,I,x,us,zs,hs,M,os,e,rfl,z8,J.same j,T3,mh,hok,r.same j,y.same j,O,P1,Q,J1,X6,λbd v U hb f L=>?_⟩;have E:=j.trans L;dsimp only [aL];refine aQ (λd b=>d=[some (.str (tx nm)),some (.ref u),some (.ref m),some (.ref g),some v,none]/\Same U b) (λnx A=>?_) ?_
  ·refine oW (λa3 b=>a3=false/\Same U b) (λkk F=>?_) ?_ ?_
   ·refine⟨m,rfl,⟨_,QZx (E _ _ r.lst)⟩,rD (y.same E) (r.same E) O Q nh (λB c p3 k l4 IU=>⟨aS rfl,λkq H5 W g5=>?_⟩)⟩;have s:=aH (o:=.lst B) IU;have X:=(k.trans s).trans W;refine⟨6,Og I M,Zd,⟨kq,_,rfl,g5,.cons (Rep.up (Rep.up (J.same (E.trans X)).rep)) (.cons ⟨l4,B,rfl,W _ _ aA,Paired.map' (λ_ _ h=>h.same (s.trans W)) p3⟩ .nil)⟩,rk.same (L.trans X),?_⟩;exact F _ _ ⟨rfl,X⟩
   ·rintro c ⟨e3,_⟩;cases e3
   ·rintro c ⟨_,k⟩;exact A _ _ ⟨rfl,k⟩
  rintro _ c ⟨rfl,k⟩;have t:=E.trans k
  cases bd with
  | none=>
   cases(show v=.non from f);exact a1 none .non c hb rfl t
  | some z=>
   obtain⟨a,ev,ga⟩:=f;subst ev;have H:=k _ _ ga;refine kA (λv b=>v=false/\b=c) (λkk F=>F _ _ ⟨ZT (λh=>nomatch h),rfl⟩) (λb ⟨e,_⟩=>nomatch e) ?_;rintro G ⟨_,l⟩;obtain rfl:c=G:=l.symm;dsimp only [iH];refine kA (λv b=>v=false/\b=c) (λkk F=>⟨.tup,⟨_,H⟩,_,.inr (QZy H),F _ _ ⟨rfl,rfl⟩⟩) (λb ⟨e,_⟩=>nomatch e) ?_;rintro G ⟨_,l⟩;obtain rfl:c=G:=l.symm;dsimp only [iH];refine aQ (λd b=>∃p,d=[some (.str (tx nm)),some (.ref u),some (.ref m),some (.ref g),some (.ref a),p]/\b=c) (λnx A=>?_) ?_
   ·refine⟨a,rfl,⟨_,QZy H⟩,cF (kU K a [.int (z.1:Int),.int (z.2:Int)]) (λi d b=>∃p,d=[some (.str (tx nm)),some (.ref u),some (.ref m),some (.ref g),some (.ref a),p]/\b=c) (λi d b ⟨_,_,e⟩=>by rw[e];exact QZy H) ⟨_,rfl,rfl⟩ ?_ ?_⟩
    ·rintro i v d G f ⟨p,rfl,l⟩;obtain rfl:c=G:=l.symm;obtain⟨a2,rfl⟩:∃a2:Nat,v=.int (a2:Int):=by
      match i,f with
      | 0,f=>cases f;exact⟨_,rfl⟩
      | 1,f=>cases f;exact⟨_,rfl⟩
      | i+2,f=>cases f
     exact⟨.int,trivial,.int,trivial,_,rfl,rfl⟩
    ·rintro d G ⟨p,rfl,l⟩;exact A _ _ ⟨p,rfl,l⟩
   rintro _ G ⟨p,rfl,l⟩;obtain rfl:c=G:=l.symm;exact a1 (some z) (.ref a) c hb ⟨a,rfl,H⟩ t
def Xy(w a:Wt):Prop:=w.n<a.n∨(w.n=a.n/\w.i<a.i)
theorem pM{a:List RX}{n:Nat}{x:Dd}:∀ {l:List (Str×Dd)}{i:Nat}{w:Wt},w∈pG a n x i l->w.n=n/\i<=w.i/\w.i<i+l.length/\(w.h,w.d)∈l/\w.w=gM a n x w.i
 | [],_,_,h=>by cases h
 | q::l,i,w,h=>by
  rcases mem_cons.mp h with rfl|h
  ·exact⟨rfl,bQ _,Zs,fP,rfl⟩
  ·obtain⟨b,e,f,c,d⟩:=pM h;exact⟨b,Zo,by simp;omega,nD _ c,d⟩
def zN(a:List RX)(n:Nat)(x:Dd):∀(l:List (Str×Dd))(i:Nat),(pG a n x i l).Pairwise Xy
 | [],_=>.nil
 | q::l,i=>.cons (λw h=>by
   obtain⟨b,c,_⟩:=pM h;exact .inr ⟨b.symm,by show i<w.i;omega⟩) (zN a n x l (i+1))
def pN{a:List RX}{r:RX}{w:Wt}(h:w∈gN a r):∃n t p k x,r=.came n t p k x/\w.n=n/\w.i<2/\(w.h,w.d)∈cU x/\w.w=gM a n x w.i:=by
 cases r with
 | came n t p k x=>
  obtain⟨b,_,e,c,d⟩:=pM (show w∈pG a n x 0 (cU x) from h);have:=lM x;exact⟨n,t,p,k,x,rfl,b,Zo,c,d⟩
 | _=>cases h
def Tn(c:List RX){a:List RX}(h:RX.Whole a):(a.flatMap (gN c)).Pairwise Xy:=by
 induction h with
 | nil=>exact .nil
 | @snoc a r i d e=>
  rw[flatMap_append,ZE,flatMap_nil,append_nil];refine List.pairwise_append.mpr ⟨e,?_,λw b j f=>?_⟩
  ·cases r with
   | came n t p k x=>exact zN c n x (cU x) 0
   | _=>exact .nil
  ·obtain⟨l,g,b⟩:=mem_flatMap.mp b;obtain⟨n,t,p,k,x,rfl,m,_⟩:=pN b;obtain⟨o,q,s,u,v,rfl,y,_⟩:=pN f;have:=d.1 n t p k x g;exact .inl Zo
def To{a:List RX}(h:RX.Whole a):vE (cY a):=λk b w c g i j l=>by
 have d:=pairwise_iff_getElem.mp (Tn a h);obtain⟨e,g1⟩:=Zgs.mp g;obtain⟨f,g2⟩:=Zgs.mp i;rcases lt_trichotomy k b with z|z|z
 ·have:=d k b e f z;have:Xy w c:=by rw[<- g1,<- g2];exact this
  rcases this with h|h<;>omega
 ·exact z
 ·have:=d b k f e z;have:Xy c w:=by rw[<- g1,<- g2];exact this
  rcases this with h|h<;>omega
def Tp{i:List RX}{ws us:List Str}(s:∀r∈i,r.Ok)(u:∀n t p k x,.came n t p k x∈i->Xx ws us x):∀w∈cY i,Bx ws us w:=λw j=>by
 obtain⟨r,o,j⟩:=mem_flatMap.mp j;obtain⟨n,t,p,k,x,rfl,z,v,f,y⟩:=pN j;obtain⟨A,B,_,_,_,b⟩:=s _ o;have c:=u _ _ _ _ _ o;have l:w.h∈us/\xN ws w.d.vs:=by
  cases x with
  | send h a m=>
   have:=Zms.mp f;injection this with d e
   rw[d,e];exact⟨c.1,a,_,m,_,.add,c.2,b.2.1,b.2.2.1,b.2.2.2⟩
  | fetch h a m=>
   have:=Zms.mp f;injection this with d e
   rw[d,e];exact⟨c.1,a,_,m,_,.take,c.2,b.2.1,b.2.2.1,b.2.2.2⟩
  | pass h g a m=>
   rcases mem_cons.mp f with q|q
   ·injection q with d e
    rw[d,e];exact⟨c.1,a,_,m,_,.take,c.2.2,b.2.2.1,b.2.2.2.2.1,b.2.2.2.2.2⟩
   ·have:=Zms.mp q;injection this with d e
    rw[d,e];exact⟨c.2.1,a,_,m,_,.add,c.2.2,b.2.2.1,b.2.2.2.2.1,b.2.2.2.2.2⟩
  | _=>cases f
 exact⟨Zo,v,l.1,l.2,by rw[y];exact Hx _ _ _ _⟩
def Ik(a:List RX)(r:RX):(gN a r).length<=2:=by
 cases r with
 | came n t p k x=>show(pG a n x 0 (cU x)).length<=2;rw[lN];exact lM x
 | _=>exact zero_le _
theorem zO(b:List RX):∀a:List RX,(a.flatMap (gN b)).length<=2*a.length
 | []=>bQ _
 | r::a=>by
  have:=zO b a;have:=Ik b r;rw[ZE,kJ,vG];omega
theorem zP(e:List RX)(u:Str):∀d:List RX,(∀r∈d,r.Ok)->(d.flatMap (gN e)).countP (λw=>decide (w.h=u))<=d.length
 | [],_=>bQ _
 | r::d,h=>by
  have:=zP e u d λr f=>h r (nD _ f)
  have l:(gN e r).countP (λw=>decide (w.h=u))<=1:=by
   cases r with
   | came n t p k x=>
    have g:x.Ok:=(h _ fP).2.2.2.2.2
    cases x with
    | pass a b c m=>
     have i:a≠b:=g.2.2.2.1;show([_,_]:List Wt).countP _<=1;rw[countP_cons,countP_cons,List.countP_nil];by_cases z:a=u
     ·rw[ZN (by simpa using λj=>i (z.trans j.symm))];split<;>simp
     ·rw[ZN (c:=decide (a=u)=true) (by simpa using z)];split<;>simp
    | send a b m=>exact List.countP_le_length
    | fetch a b m=>exact List.countP_le_length
    | _=>exact zero_le _
   | _=>exact zero_le _
  rw[ZE,List.countP_append,vG];omega
def Tq{a:List RX}(b:∀r∈a,r.Ok)(c:a.length<=30)(u:Str):fO (cY a) (cY a).length u<=30:=by
 unfold fO;rw[nT (bQ _)];exact hZ (zP a u a b) c
def Xd:SS:=⟨[],[],[],0,[]⟩
structure MadeAt(C:ZR)(H H':Hp)(us:List Str)(zs:List SA)(ts:List ZR):Prop where
 lz:zs.length=us.length
 lt:ts.length=us.length
 tup:∀(j:Nat) t u z,ts[j]?=some t->us[j]?=some u->zs[j]?=some z->H' t=some (.tup [.str u,.ref z.s])
 at_:∀z∈zs,StAt C H' z Xd 100
 new:∀z∈zs,∀c∈z.all,H c=none
 dis:∀(j k:Nat) z z',zs[j]?=some z->zs[k]?=some z'->j≠k->∀c∈z.all,c∉z'.all
 same:Same H H'
def MadeAt.step{C:ZR}{H n m:Hp}{us:List Str}{p:List SA}{x:List ZR}{u:Str}{z:SA}{t:ZR}(h:MadeAt C H n us p x)(s:Same n m)(E:m t=some (.tup [.str u,.ref z.s]))(F:StAt C m z Xd 100)(y:∀c∈z.all,n c=none):MadeAt C H m (us++[u]) (p++[z]) (x++[t]):=by
 have v:∀b∈p,∀c∈b.all,c∉z.all:=λb d c f i=>by
  obtain⟨o,e,_⟩:=(h.at_ b d).no f;rw[y c i]at e;cases e
 have L:=h.lz;have M:=h.lt;refine⟨by simp[h.lz],by simp[h.lt],λj G I b q l A=>?_,λb d=>?_,λb d c f=>?_,λj k B D q l J c f i=>?_,h.same.trans s⟩
 ·rcases cK q with⟨g1,g⟩|⟨g1,g⟩
  ·rcases cK l with⟨_,a⟩|⟨g2,_⟩
   ·rcases cK A with⟨_,r⟩|⟨g3,_⟩
    ·exact s _ _ (h.tup j G I b g a r)
    ·omega
   ·omega
  ·rcases cK l with⟨g2,_⟩|⟨_,a⟩
   ·omega
   ·rcases cK A with⟨g3,_⟩|⟨_,r⟩
    ·omega
    ·rw[g,a,r];exact E
 ·rcases aG d with d|rfl
  ·exact(h.at_ b d).same s
  ·exact F
 ·rcases aG d with d|rfl
  ·exact h.new b d c f
  ·exact h.same.free (y c f)
 ·rcases cK q with⟨g1,g⟩|⟨g1,g⟩
  ·rcases cK l with⟨g2,a⟩|⟨g2,a⟩
   ·exact h.dis j k B D g a J c f i
   ·rw[a]at i;exact v B (dB g) c f i
  ·rcases cK l with⟨g2,a⟩|⟨g2,a⟩
   ·rw[g]at f;exact v D (dB a) c i f
   ·omega
def Cb{C:ZR}{H:Hp}{I:ZR}{us:List Str}(gl:H I=some (.lst (us.map V.str)))(h6:us.length<=6){σ:St}{R:List V->Hp->Prop}(a0:∀j g u,MadeAt C H u us j g->R (g.map V.ref) u) :
  oJ [none] (aL 0) yI (yT (fF (vr 0) (fF (Py (fF (Cu C (nQ C) [.non,.non] E0 jR) (fF rW (fF (tC (.int 0)) (fF rW jR))))) jR))) σ (Up K I) H R:=by
 refine bO (bI K I (us.map V.str)) (by rw[bF];omega) (λi B u=>∃j g,B=g.map V.ref/\MadeAt C H u (us.take i) j g) (λi B u ⟨j,g,e,m⟩=>⟨QZx (m.same _ _ gl),by rw[e,bF,m.lt];exact List.length_take_le _ _⟩)
  ⟨[],[],rfl,⟨rfl,rfl,(λ_ _ _ _ h=>nomatch h),(λ_ h=>nomatch h),(λ_ h=>nomatch h),(λ_ _ _ _ h=>nomatch h),λ_ _ e=>e⟩⟩ (λi v B k x ⟨j,g,e,m⟩=>?_) (λB k ⟨j,g,e,m⟩=>?_)
 ·rw[fB]at x;cases J:us[i]? with
  | none=>rw[J]at x;cases x
  | some a1=>
   rw[J]at x;cases x;intro p y L JU i9;have nn:∀ {c:ZR}{o:HO},k c=some o->(aK (aK k y (.own p)) p (.ins C y [])) c=some o:=λ{c o} e=>by
    rw[aF (aD e L),aF (aD e JU)];exact e
   have fr:∀ {c:ZR},(aK (aK k y (.own p)) p (.ins C y [])) c=none->k c=none:=λ{c} e=>by
    cases e':k c with
    | none=>rfl
    | some o=>rw[nn e']at e;cases e
   refine⟨p,y,.non,.non,[],[],rfl,aA,.inl ⟨rfl,rfl⟩,nodup_nil,Zd,.inl ⟨rfl,rfl⟩,Zd,λz a f1 f2 f3 b k2=>⟨rfl,?_⟩⟩;have D:Same k z:=λc o e=>k2 _ _ (nn e) (aD e L)
   have e0:(λn:Str=>decide (n∈([]:List Str)))=λ_=>false:=by funext n;simp
   rw[e0]at b;obtain⟨YU,U,_⟩:=b.hc;intro d M;have q:=aH (o:=.dK []) M;have g3:(aK z d (.dK [])) d=some (.dK []):=aA;dsimp only;generalize aK z d (.dK [])=W at q g3;intro f E;have r:=aH (o:=.dK []) E;have N:(aK W f (.dK [])) f=some (.dK []):=aA;dsimp only;generalize aK W f (.dK [])=X at r N;refine⟨fH rfl,λl A=>⟨aS rfl,λt H6 s g6=>?_⟩⟩;have F:=aH (o:=.lst [.ref p,.ref d,.int 0,.ref f]) A;have Y:(aK X l (.lst [.ref p,.ref d,.int 0,.ref f])) l=some (.lst [.ref p,.ref d,.int 0,.ref f]):=aA;generalize aK X l (.lst [.ref p,.ref d,.int 0,.ref f])=H5 at F Y s;have Z:Same z H5:=(q.trans r).trans F;have G:∀ {c o},z c=some o->c≠d/\c≠f/\c≠l:=λe=>⟨aD e M,aD (q _ _ e) E,aD (r _ _ (q _ _ e)) A⟩
   have O:=G b.hp;have Q:=G b.ha;have S:=G U;have T:=G b.he;have ud:d≠f:=aD g3 E;have VI:d≠l:=aD (r _ _ g3) A;have VJ:f≠l:=aD N A;have pa:p≠a.da:=bK b.hp b.ha nofun;have pc:p≠a.dc:=bK b.hp U nofun;have pe:p≠a.de:=bK b.hp b.he nofun;refine⟨j++[⟨l,p,a,d,f⟩],g++[t],by rw[e,gO];rfl,?_⟩;rw[bJ J];refine m.step (D.trans (Z.trans s)) g6 ⟨s _ _ Y,b.same (Z.trans s),s _ _ (F _ _ (r _ _ g3)),s _ _ (F _ _ N),(λ_ h=>nomatch h),?_,Zd,Zd⟩ (λc hc=>?_)
   ·simp only [SA.all,nodup_cons,mem_cons,ZH,or_false,not_or,not_false_eq_true,and_true,nodup_nil];exact⟨⟨O.2.2.symm,Q.2.2.symm,S.2.2.symm,T.2.2.symm,VI.symm,VJ.symm⟩,⟨pa,pc,pe,O.1,O.2.1⟩,⟨b.ac,b.ae,Q.1,Q.2.1⟩,⟨b.ce,S.1,S.2.1⟩,⟨T.1,T.2.1⟩,ud⟩
   ·simp only [SA.all,mem_cons,ZH,or_false]at hc;rcases hc with rfl|rfl|rfl|rfl|rfl|rfl|rfl
    ·exact D.free ((q.trans r).free A)
    ·exact L
    ·exact fr f1
    ·exact fr f2
    ·exact fr f3
    ·exact D.free M
    ·exact D.free (q.free E)
 ·rw[bF,nT (bQ _)]at m;rw[e];exact a0 j g k m
def MadeAt.dict{C:ZR}{H c:Hp}{us:List Str}{a:List SA}{b:List ZR}(m:MadeAt C H c us a b):∃ys:List W,ys.map (λz=>V.ref z.1)=b.map V.ref/\Za c ys/\ys.length=us.length/\ys.map (·.2)=(us.zip a).map λq=>((Sum.inr q.1:aX),V.ref q.2.s):=by
 have l:=m.lz;have n:=m.lt;refine⟨(b.zip (us.zip a)).map λq=>(q.1,(Sum.inr q.2.1:aX),V.ref q.2.2.s),?_,λy d=>?_,by simp;omega,?_⟩
 ·rw[map_map];have:((λz:W=>V.ref z.1)∘λq:ZR×Str×SA=>(q.1,(Sum.inr q.2.1:aX),V.ref q.2.2.s))=V.ref∘Prod.fst:=rfl;rw[this,<- map_map,List.map_fst_zip (by simp;omega)]
 ·obtain⟨q,e,rfl⟩:=Zmm.mp d;obtain⟨j,f⟩:=getElem?_of_mem e;obtain⟨g,h⟩:=getElem?_zip_eq_some.mp f;obtain⟨i,k⟩:=getElem?_zip_eq_some.mp h;exact m.tup j _ _ _ g i k
 ·rw[map_map];have:((λz:W=>z.2)∘λq:ZR×Str×SA=>(q.1,(Sum.inr q.2.1:aX),V.ref q.2.2.s))=(λq:Str×SA=>((Sum.inr q.1:aX),V.ref q.2.s))∘Prod.snd:=rfl;rw[this,<- map_map,List.map_snd_zip (by simp;omega)]
def MadeAt.merge{C:ZR}{H d:Hp}{us:List Str}{c:List SA}{f:List ZR}(m:MadeAt C H d us c f)(g:us.Nodup):aP [] ((us.zip c).map λq=>((Sum.inr q.1:aX),V.ref q.2.s))=(us.zip c).map λq=>((Sum.inr q.1:aX),V.ref q.2.s):=by
 rw[jE _ _ ?_ (λ_ _=>rfl)]
 ·rfl
 ·rw[map_map];have:((λx:aX×V=>x.1)∘λq:Str×SA=>((Sum.inr q.1:aX),V.ref q.2.s))=(Sum.inr:Str->aX)∘Prod.fst:=rfl;rw[this,<- map_map,List.map_fst_zip (by rw[m.lz];exact bQ _)];exact List.Pairwise.map _ (λa b h e=>h (by injection e)) g
def MadeAt.all{C:ZR}{H b c:Hp}{us:List Str}{d:List SA}{i:List ZR}(m:MadeAt C H b us d i){f:ZR}(k:b f=none)(s:Same b c)(g:c f=some (.dK ((us.zip d).map λq=>((Sum.inr q.1:aX),V.ref q.2.s))))(ws:List Str)(nm:List Nat)(W:List Wt):AllSt C ws nm W c f us d (replicate us.length Xd) 0 []:=by
 have a:∀x∈replicate us.length Xd,x=Xd:=λx a=>List.eq_of_mem_replicate a
 refine⟨g,m.lz,List.length_replicate,rfl,λj u z x _ l n=>?_,λx h=>?_,m.dis,λz p r=>?_,λj u x _ h=>?_,λj u x _ h=>?_⟩
 ·rw[a x (dB n)];exact((m.at_ z (dB l)).same s).more Zo
 ·rw[a x h];exact⟨(λ_ h=>nomatch h),λ_=>rfl,λ_=>Int.le_refl _,λ_=>(by decide:(0:Int)<=1000000000000),nodup_nil,(λ_ h=>nomatch h),nodup_nil,(λ_ h=>nomatch h),(λ_ h=>nomatch h),(λ_ h=>nomatch h),(λ_ h=>nomatch h),(λ_ h=>nomatch h)⟩
 ·obtain⟨o,e,_⟩:=(m.at_ z p).no r;rw[k]at e;cases e
 ·rw[a x (dB h)];exact⟨zero_le _,zero_le _,zero_le _⟩
 ·rw[a x (dB h)];exact⟨(λ_ h=>nomatch h),λ_ _ _ _ _ h=>nomatch h⟩
def Fin.ask{C:ZR}{ws:List Str}{nm:List Nat}{W:List Wt}{H p:Hp}{s:ZR}{us:List Str}{r:List SA}{xs:List SS}{os:List Oc}{e:Nat}(h:Fin C ws nm W H s us r xs os e){j:Nat}{z:SA}{x:SS}(hz:r[j]?=some z)(m:xs[j]?=some x){am':List (Str×Int)}{y:EN}(v:StAt C p z {x with am:=am',en:=x.en++[y] } (340+(e+1)))(fs:Fs z H p)(A:∀n i,y.key≠tx (gD nm n i))(B:Said y)(D:∀q∈am',q.1∈ws)(M:x.en.length<=62) :
  Fin C ws nm W p s us r (xs.set j {x with am:=am',en:=x.en++[y] }) os (e+1):=by
 have E:=dB hz;have o:=dB m;have g:∀ {P:SS->Prop},(∀x∈xs,P x)->P {x with am:=am',en:=x.en++[y] }->∀f∈xs.set j {x with am:=am',en:=x.en++[y] },P f:=λb a f F=>by
  rcases List.mem_or_eq_of_mem_set F with h|h
  ·exact b f h
  ·rw[h];exact a
 refine⟨fs _ _ h.dict (h.nsd z E),h.lz,by rw[length_set];exact h.lx,h.lo,λk t f b a=>?_,g h.nd3 (h.nd3 x o),g h.frn (λq d=>?_),g h.back (λq d=>?_),g h.sub D,g h.said (λq d=>?_),g h.len ?_,λk u f b a=>?_,h.dis,h.nsd⟩
 ·by_cases l:j=k
  ·subst l;rw[hz]at b;cases b;rw[getElem?_set_self (Zgs.mp m).1]at a;cases a;exact v
  ·rw[getElem?_set_ne l]at a;have:=(h.at_ k t f b a).other (h.at_ j z x hz m) fs (λc G=>h.dis k j t z b hz (λe=>l e.symm) c G);exact this.more Zo
 ·rcases aG d with d|rfl
  ·exact h.frn x o q d
  ·exact .inl A
 ·obtain⟨I,J,L⟩:=h.back x o q d;exact⟨I,ZK _ J,L⟩
 ·rcases aG d with d|rfl
  ·exact h.said x o q d
  ·exact B
 ·show(x.en++[y]).length<=63;simp;omega
 ·by_cases l:j=k
  ·subst l;rw[getElem?_set_self (Zgs.mp m).1]at a;cases a;exact h.kv j u x b m
  ·rw[getElem?_set_ne l]at a;exact h.kv k u f b a
def Fin.asked{C:ZR}{ws:List Str}{nm:List Nat}{W:List Wt}{H:Hp}{m:ZR}{us:List Str}{f:List SA}{xs:List SS}{os:List Oc}{e:Nat}(d:Fin C ws nm W H m us f xs os e)(J:e<=150){j:Nat}{z:SA}{x:SS}(hz:f[j]?=some z)(g:xs[j]?=some x){ky a:Str}{t:ZR}(s:mF ky)(u:∀n i,ky≠tx (gD nm n i))(A:ky∉x.en.map (·.key))(gt:H t=some (.tup [.str "add",.str a,.int 1]))(B:a∈ws)(D:cR a)(r:x.en.length<=62){Q:VK}{E:XK}(q:∀v b h,Fin C ws nm W b m us f (xs.set j h) os (e+1)->Fs z H b->h.en.length=x.en.length+1->(∀y∈h.en,y∈x.en∨y.key=ky)->Q v b):uX C [.ref z.p,.str ky,.ref t] H Q E:=by
 have st:=d.at_ j z x hz g;have p:=dB g;refine⟨z.p,t,z.a,x.am,_,x.en,340+e,a,1,"add",_,1,ky,rfl,st.hs,Zo,gt,.add,D,Zd,Zd,s,A,λb L F k=>?_⟩;obtain⟨G,fs⟩:=st.house F (λc o e I m2 _=>k c o e I m2);refine q _ b _ (d.ask hz g G fs u (Said.of ⟨_,_,_,_,.add⟩ ?_) ?_ r) fs Zs (λy l=>?_)
 ·cases lP x.am (λ_=>false) "add" a 1
  ·exact .inr rfl
  ·exact .inl rfl
 ·unfold Ll;split
  ·exact fN (d.sub x p) B
  ·exact d.sub x p
 ·rcases aG l with l|rfl
  ·exact .inl l
  ·exact .inr rfl
def Na(nm:List Nat):List Nat:=nm++[120,49,97]
def Xe{nm:List Nat}(h:kI nm):mF (tx (Na nm)):=by
 have:=h.five;have a:(Na nm).length=nm.length+3:=by simp[Na]
 refine⟨by rw[bD];omega,by rw[bD];omega,λc hc=>?_⟩;rw[mE]at hc;rcases Zma.mp hc with hc|hc
 ·exact Hr (h.lets c hc)
 ·simp only [mem_cons,ZH,or_false]at hc;rcases hc with rfl|rfl|rfl<;>decide
def Oh{nm:List Nat}(n i:Nat):tx (Na nm)≠tx (gD nm n i):=λh=>by
 have h:=iY h;unfold Na gD at h;rw[append_assoc]at h;have h:=List.append_cancel_left h
 cases e:(bZ n).cps.toList with
 | nil=>rw[e]at h;exact ZM (congrArg length h) Zs
 | cons c r=>
  rw[e]at h;injection h with a _
  have:=(eF n c (by rw[e];exact fP)).2;omega
def pO{nm:List Nat}(h:kI nm){r a:List Nat}(e:nm++r=48::a):False:=by
 match nm,h with
 | [],h=>exact ZM h.pos Zs
 | c::nm,h=>
  injection e with b _
  have:=h.lets c fP;rw[b]at this;exact ZM this Zd
def Xf{nm:List Nat}(h:kI nm)(j:Nat):tx (Na nm)≠tx (qA j):=λe=>pO h (iY e)
def Xg:("00":Str)=tx [48,48]:=by decide +kernel
def Oi{nm:List Nat}(h:kI nm)(n i:Nat):tx [48,48]≠tx (gD nm n i):=λe=>by
 have:=iY e;unfold gD at this;rw[append_assoc]at this;exact pO h this.symm
def Xh(j:Nat):tx [48,48]≠tx (qA (j+1)):=λe=>by
 have:=iY e;injection this with _ a
 have b:(bZ 0).cps.toList=[48]:=by decide +kernel
 have:=tD (b.trans a);omega
def Xi{nm:List Nat}(h:kI nm):tx [48,48]≠tx (Na nm):=λe=>pO h (iY e).symm
def Xj(nm:List Nat)(x:SS):Prop:=x.en.length<=61/\∀y∈x.en,(∃j,y.key=tx (qA (j+1)))∨(∃n i,y.key=tx (gD nm n i))∨y.key=tx (Na nm)
def zQ(K:W.Frag):Sp:=λvs H Q _=>∃(a:ZR)(b:List Int),vs=[.ref a]/\SqL K H a (b.map V.int)/\b.length<=63/\∀c,Q (.bl true) c
def Tr{C:ZR}(T:Txt K mg)(zd:aI P w K mg base 1 "_law_deck" X0 (Ep K))(vp:aI P w K mg base 3 "_law_menus" QZR uT)(u9:aI P w K mg base 2 "_law_unlike" WF mH)(a7:aI P w K mg base 1 "_law_draw" ZC cB)(ze:aI P w K mg base 4 "_law_body" QZQ zB)(qw:Xs P w K mg base 2 "House" C WP [.non,.non] (nQ C))(vq:aI P w K mg base 3 "_law_wants" ["_law_rows"] zE)(W0:aI P w K mg base 9 "_law_asks_made" QZL (zI C))(d5:kL P w K mg base 5 C "ask" W7 (uX C))(DJ:aI P w K mg base 1 "_law_due" QZK (Ia C))(qx:aI P w K mg base 4 "_law_told" QZJ (zM C)){f:ZR}{fd:FuncData}(F:Fun K "law" "law" iR f fd):iI P w K mg base nN 10 f fd X0 (zQ K):=by
 refine F.gg eQ (λcdv b9 outer c0 H vs c1 c2 A h=>?_)
 ·obtain⟨a5,ns,rfl,hS,hlen,q⟩:=h;have d6:=dQ A;have z9:=A.units;refine⟨_,(ko (ms (i:=1) eQ.nd (lv zd A rfl (kj (kl 0) km))) (ko (ms (i:=2) eQ.nd (lv vp A rfl (kj (kl 1) km))) (ko (ms (i:=3) eQ.nd (ou (tm (K:=K)) (lv u9 A rfl (kj (kl 1) (kj ku (kj kt (kj kt km))))) kt)) (ko (FS PassesOwn.never rfl (R.dm rfl T.b_range (kj kt km)) (oy (i:=4) eQ.nd) (ko (ms (i:=5) eQ.nd (lv ze A rfl (kj (kl 1) (kj (re km) (kj (kl 2) (kj (ou (tm (K:=K)) (re (kj (lv a7 A rfl (kj (kl 1) (kj kt km))) (kj (lv a7 A rfl (kj (kl 1) (kj kt km))) km))) (lv a7 A rfl (kj (kl 1) (kj kt km)))) km)))))) (ko (ms (i:=6) eQ.nd (O4 (R.gs (K:=K) rfl) rfl T.b_dict yO (kj (O2 rfl (js:=[none]) (N:=["_law_house"]) (CompScope.by (aB iR) QZG rfl rfl Zk) (bM rfl) (wr (K:=K) (o0 K 2)) (λC s₂ H₂ fp=>⟨(oy (i:=0) (show(["_law_house"]:List Str).Nodup by decide +kernel)),Q5,(mo (kj (kl 0) (kj (re (kj (R.ki qw A rfl) (kj R.dr (kj kt (kj R.dr km))))) km)))⟩)) km))) (ko (ms (i:=7) eQ.nd (lv vq A rfl (kj (kl 5) km))) (ko (u8 (lv W0 A rfl (kj (kl 1) (kj (kl 3) (kj (kl 7) (kj (kl 6) (kj (o0 K 2) km))))))) (ko (R.ig (i:=8) eQ.nd rfl (Or.inl rfl) rfl (js:=[none,some 6]) (N:=["_law_house","_law_states"]) (CompScope.by (aB iR) QZG rfl rfl Zk) (bM rfl) (wr (K:=K) (o0 K 2)) (λC s₂ H₂ fp=>⟨(oy (i:=0) (show(["_law_house","_law_states"]:List Str).Nodup by decide +kernel)),Q5,(mo (kj (kl 0) (kj (ou (tm (K:=K)) (O5 d6 (kl 1) (kl 0)) kt) km)))⟩) rfl) (ko (FS PassesOwn.never rfl (wr (K:=K) (kl 8)) (O6 (K:=K) (n:=2) rfl (tj (oy (i:=9) eQ.nd) (tj (oy (i:=10) eQ.nd) PP))) (kz (u8 (NE d5 A (kl 10) (kj (lf Q6 (kl 3) ku) (kj (mo (kj ku (kj (ou (tm (K:=K)) (o0 K 2) kt) (kj kt km)))) km)))))) (ko (ms (i:=11) eQ.nd (lv DJ A rfl (kj (kl 3) (kj (kl 7) (kj (kl 6) km))))) (ko (oq (nw (R.fg z9) (lv qx A rfl (kj (kl 3) (kj (kl 5) (kj (kl 8) km)))) (kl 11)) (kz (om TD)) ot) (ko (u8 (NE d5 A (ou (v0 (K:=K)) (o0 K 8) kt) (kj ku (kj (mo (kj ku (kj (ou (tm (K:=K)) (o0 K 2) kt) (kj kt km)))) km)))) (kz (oq (nw (R.fg z9) (lv qx A rfl (kj (kl 3) (kj (kl 5) (kj (kl 8) km)))) (kl 11)) (kz (om TD)) ot)))))))))))) (kz (om TD)))))),?_⟩;refine⟨a5,ns,rfl,hS,λd b H1 nd nb D1 s1=>?_⟩;refine⟨d,b,rfl,D1,λlm a6 H2 hM oD oB f2=>?_⟩;dsimp only [aL];refine aQ (λu a=>∃nm:List Nat,u=[some (.ref a5),some (.ref d),some (.ref lm),some (.str (tx nm)),none,none,none,none,none,none,none,none]/\kI nm/\Fw d b H2 a) (λnx a9=>?_) ?_
  ·refine⟨d,b,LET,5,1,by rw[<- sQ];rfl,f2.dk,Zd,Zd,Zd,Me,Zd,Zd,λb5 OO H3 wo wl g3 n1 n2 D3 k3=>?_⟩
   match OO,wl with
   | [z],_=>
   obtain⟨z1,z2,z3⟩:=wo.of z fP;refine⟨_,QZx g3,.str z,rfl,?_⟩;refine a9 _ _ ⟨z.cps.toList,by rw[<- oN z];rfl,⟨by rw[<- show z.length=z.cps.toList.length by simp[Str.length]];exact z1,by rw[<- show z.length=z.cps.toList.length by simp[Str.length]];exact z2,z3⟩,(Fw.refl f2.dk).draw D3 k3⟩
  rintro _ H3 ⟨nm,rfl,z8,F3⟩;refine aQ (λ_ _=>True) (λnx a9=>?_) ?_
  ·refine⟨2,rfl,Zd,Zd,cF (fE 0 (2:Int).toNat) (λi u a=>∃(o4 o5 o6 o7 o8 o9 w4 y9:Option V),u=[some (.ref a5),some (.ref d),some (.ref lm),some (.str (tx nm)),o4,o5,o6,o7,o8,o9,w4,y9]/\MenusAt a lm a6/\Dk a d b) (λ_ _ _ _=>trivial) ⟨_,_,_,_,_,_,_,_,rfl,F3.menus oD oB hM,F3.dk⟩ ?_ ?_⟩
   ·rintro i x u H5 hx ⟨o4,o5,o6,o7,o8,o9,w4,y9,rfl,FV,D5⟩;obtain⟨rfl,hi⟩:=oZ hx;dsimp only [aL];obtain⟨a0,a1,a2,a3,J,m,ps,ks,eM,h0,h1,h2,h3,h4,mw,mu,mr⟩:=FV.ex;have B:∀c∈a6,c≠d/\c≠b/\∃o,H5 c=some o:=λc g=>⟨λz=>oD (z ▸ g),λz=>oB (z ▸ g),by
     rw[eM]at g;simp only [mem_cons,ZH,or_false]at g;rcases g with rfl|rfl|rfl|rfl|rfl
     ·exact⟨_,h0⟩
     ·exact⟨_,h1⟩
     ·exact⟨_,h2⟩
     ·exact⟨_,h3⟩
     ·exact⟨_,h4⟩⟩
    have m0:=B lm (by rw[eM];simp);have m1:=B a0 (by rw[eM];simp);have m2:=B a1 (by rw[eM];simp);refine aQ (λu a=>∃(r:ZR)(p:List RX)(as:List ZR),u=[some (.ref a5),some (.ref d),some (.ref lm),some (.str (tx nm)),some (.int (i:Int)),some (.ref r),o6,o7,o8,o9,w4,y9]/\RxsAt a r p as/\RX.Whole p/\(∀b7∈p,b7.Ok)/\p.length<=30/\(∀n t b4 k x,.came n t b4 k x∈p->Xx J m x)/\Dk a d b/\Kp d b H5 a/\r≠d/\r≠b) (λvc j0=>?_) ?_
    ·refine⟨fH rfl,λr DK=>?_⟩;have nra:=D5.ne DK;have g6:(aK H5 r (.lst [])) r=some (.lst []):=aA;have s6:=aH (o:=.lst []) DK;have D6:=D5.new (o:=.lst []) DK;generalize aK H5 r (.lst [])=H6 at g6 s6 D6;refine⟨d,b,9,rfl,D6,Zd,Zd,λr1 H7 x0 x1 D7 k7=>⟨d,b,31,rfl,D7,Zd,Zd,λr2 H8 y0 y1 D8 k8=>⟨fH rfl,λb4 hp=>⟨d,b,2,rfl,D8.new hp,Zd,Zd,λr3 H9 z0 z1 D9 k9=>?_⟩⟩⟩⟩;have F9:=((((Fw.refl D6).draw D7 k7).draw D8 k8).new (o:=.lst [.int r1,.int r2]) hp).draw D9 k9;have np:=D8.ne hp;have gp:H9 b4=some (.lst [.int r1,.int r2]):=k9 _ _ aA np.1 np.2;obtain⟨r4,e4,l4⟩:∃r4:Nat,gC [V.int r1,V.int r2] r3=some (.int (r4:Int))/\r4<=30:=by
      rcases(by omega:r3=0∨r3=1) with rfl|rfl
      ·exact⟨r1.toNat,by show some (V.int r1)=_;rw[Int.toNat_of_nonneg x0],Zo⟩
      ·exact⟨r2.toNat,by show some (V.int r2)=_;rw[Int.toNat_of_nonneg y0],Zo⟩
     refine⟨_,QZx gp,_,e4,?_⟩;have fr:∀c o,H5 c=some o->c≠d->c≠b->H9 c=some o:=λc o e n1 n2=>F9.get (s6 _ _ e) n1 n2
     have VL:MenusAt H9 lm a6:=FV.keep λc g o e=>fr c o e (B c g).1 (B c g).2.1
     have oR:r∉a6:=λg=>by obtain⟨o,e⟩:=(B r g).2.2;rw[DK]at e;cases e
     refine⟨d,b,r,lm,a6,[],[],r4,rfl,F9.dk,⟨F9.get g6 nra.1 nra.2,.nil⟩,⟨.nil,(λ_ h=>nomatch h),(λ_ h=>nomatch h),rfl,(λ_ _ h=>nomatch h)⟩,VL,oD,oB,oR,nra.1,nra.2,l4,λp as uk VM mh hok T3 me um vt=>?_⟩;refine j0 _ _ ⟨r,p,as,rfl,VM,mh,hok,T3,λn t b4 k x hm=>?_,um,λc o e n1 n2=>vt _ _ (fr c o e n1 n2) n1 n2 (aD e DK),nra.1,nra.2⟩;obtain⟨b0,b1,b2,b3,OO,IC,g0,g1,g2,im⟩:=me n t b4 k x hm;rw[fr _ _ h0 m0.1 m0.2.1]at g0;cases g0;rw[fr _ _ h1 m1.1 m1.2.1]at g1;rw[fr _ _ h2 m2.1 m2.2.1]at g2;have inj:∀x y:Str,V.str x=V.str y->x=y:=λx y e=>by injection e
     injection g1 with g1;injection g1 with g1
     injection g2 with g2;injection g2 with g2
     rw[(List.map_inj_right inj).mp g1,(List.map_inj_right inj).mp g2];exact im
    rintro _ H6 ⟨r,p,as,rfl,R6,mh,hok,T3,vd,D6,k6,yi,yj⟩;have FW:=k6 _ _ h0 m0.1 m0.2.1;have FX:=k6 _ _ h1 m1.1 m1.2.1;have KA:=k6 _ _ h2 m2.1 m2.2.1;refine⟨_,QZx FW,_,rfl,a1,rfl,⟨_,QZx KA⟩,Cb KA mu.six (λl ts H7 a8 b5 fl=>?_)⟩;obtain⟨L,y1,y2,y3,y4⟩:=a8.dict;have uh:=mu.six;have P1:=mu.of.nd;refine⟨L,by rw[y1];exact QZx aA,λz D=>bH (y2 z D) fl,Zo,λE FU=>?_⟩;rw[y4,a8.merge P1];have s7:=aH (o:=.lst (ts.map V.ref)) fl;have KC:=s7.free FU;have s8:=s7.trans (aH (o:=.dK ((m.zip l).map λq=>((Sum.inr q.1:aX),V.ref q.2.s))) FU);have g8:(aK (aK H7 b5 (.lst (ts.map V.ref))) E (.dK ((m.zip l).map λq=>((Sum.inr q.1:aX),V.ref q.2.s)))) E=some (.dK ((m.zip l).map λq=>((Sum.inr q.1:aX),V.ref q.2.s))):=aA;dsimp only [aL];generalize aK (aK H7 b5 (.lst (ts.map V.ref))) E (.dK ((m.zip l).map λq=>((Sum.inr q.1:aX),V.ref q.2.s)))=H8 at s8 g8;have OP:=a8.all KC s8 g8 J nm (cY p);have xk:Same H6 H8:=a8.same.trans s8;refine⟨r,p,as,rfl,R6.same xk,T3,mh,hok,λwl bs H9 AJ AK OQ s9=>?_⟩;have uj:=xk.trans s9;have D9:=D6.same uj;obtain⟨YV,ds,dk,DL,DM,_⟩:=D6.ex;have M:∀ {c o},H6 c=some o->∀z∈l,c∉z.all:=λe z D g=>by rw[a8.new z D _ g]at e;cases e
    have AL:∀z∈l,wl∉z.all:=λz D g=>by
     obtain⟨o,e,_⟩:=(a8.at_ z D).no g;rw[s8 _ _ e]at AJ;cases AJ
    have hW:(cY p).length<=100:=by have:=zO p p;unfold cY;omega
    have AW:=(D6.same xk).ne AJ;have J1:=To mh;have X6:=Tp hok vd;have nq:=Tq hok T3;refine⟨_,QZx (uj _ _ FW),_,rfl,J,nm,d,b,wl,E,a0,cY p,bs,m,l,_,rfl,D9,z8,AK,OQ,OP.same s9,P1,uj _ _ FX,mw,J1,X6,nq,λz D=>⟨M DL z D,M DM z D,AL z D,M FX z D⟩,⟨AW.1,AW.2,m1.1,m1.2.1⟩,hW,λxs os uk U um zf=>?_⟩;have vt:∀c o,H6 c=some o->c≠d->c≠b->uk c=some o:=λc o e n1 n2=>zf _ _ (uj _ _ e) n1 n2 (M e)
    have Q1:=U.fin nq;have DN:=vt _ _ FW m0.1 m0.2.1;have KD:=vt _ _ FX m1.1 m1.2.1;have DO:=vt _ _ KA m2.1 m2.2.1;dsimp only;refine aQ (λu a=>∃(I:ZR)(s:List ZR),u=[some (.ref a5),some (.ref d),some (.ref lm),some (.str (tx nm)),some (.int (i:Int)),some (.ref r),some (.ref E),some (.ref wl),some (.ref I),o9,w4,y9]/\HlAt a I m l s/\Same uk a/\uk I=none) (λvc j0=>?_) ?_
    ·refine⟨_,QZx DN,_,rfl,a1,rfl,⟨_,QZx DO⟩,bO (bI K a1 (m.map V.str)) (by rw[bF];omega) (λk L a=>∃s:List ZR,L=s.map V.ref/\s.length=k/\(∀(j:Nat) a5 a4 z,s[j]?=some a5->m[j]?=some a4->l[j]?=some z->a a5=some (.tup [.str a4,.ref z.p]))/\Same uk a) (λk L a ⟨s,e,e2,_,s'⟩=>⟨QZx (s' _ _ DO),by rw[e,bF,e2];exact bQ _⟩) ⟨[],rfl,rfl,(λ_ _ _ _ h=>nomatch h),λ_ _ e=>e⟩ (?_) (?_)⟩
     ·rintro k v L a O ⟨s,e,e2,e3,s'⟩;rw[fB]at O;cases hu:m[k]? with
      | none=>rw[hu]at O;cases O
      | some a4=>
       rw[hu]at O;cases O;have xi:=(Zgs.mp hu).1;have OR:=Q1.same s';have FY:l[k]?=some (l[k]'(by rw[Q1.lz];exact xi)):=cD _;have OS:xs[k]?=some (xs[k]'(by rw[Q1.lx];exact xi)):=cD _;generalize l[k]'(by rw[Q1.lz];exact xi)=z at FY;generalize xs[k]'(by rw[Q1.lx];exact xi)=x at OS;have st:=OR.at_ k z x FY OS;have DA:DGet a E (.str a4) (some (.ref z.s)):=by
        have:=DGet.k (k:=Sum.inr a4) OR.dict;rw[xO P1 hu FY]at this;exact this
       refine⟨E,_,rfl,DA,_,QZx st.lst,_,rfl,aS rfl,λt YW OT VN=>⟨s++[t],by rw[e,gO];rfl,by simp[e2],λj a' u' z' W q2 X=>?_,s'.trans OT⟩⟩;rcases cK W with⟨_,W⟩|⟨q4,W⟩
       ·exact OT _ _ (e3 j a' u' z' W q2 X)
       ·rw[q4,e2]at q2 X;rw[hu]at q2;cases q2;rw[FY]at X;cases X;rw[W];exact VN
     ·rintro L a ⟨s,e,e2,e3,s'⟩;intro I KG;refine j0 _ _ ⟨I,s,rfl,⟨by rw[aA,e],by rw[e2,bF],λj a' u' z' W q2 X=>bH (e3 j a' u' z' W q2 X) KG⟩,s'.trans (aH KG),s'.free KG⟩
    rintro _ pq ⟨I,s,rfl,Y8,Q,DP⟩;have KH:=Q1.same Q;have ph:=Y8.len;have w2:=mw.two;have KJ:J[0]?=some (J[0]'Zo):=cD _;have B8:cR (J[0]'Zo):=mw.nm Zo;generalize J[0]'Zo=na at KJ B8;have V1:=dB KJ;have OU:gC (J.map V.str) 0=some (.str na):=cV (j:=0) (by rw[fB,KJ];rfl);have zo:∀ {c o},uk c=some o->(∀z∈l,c∉z.all)->∀z∈l,c∉z.all:=λ_ h=>h
    have VO:∀ {c},uk c=none->∀z∈l,c∉z.all:=λ{c} g z D U7=>by
     obtain⟨o,e,_⟩:=U.obj D U7;rw[g]at e;cases e
    have zg:∀x∈xs,x.en.length<=60/\∀y∈x.en,(∃j,y.key=tx (qA (j+1)))∨∃n i,y.key=tx (gD nm n i):=λx hx=>by
     obtain⟨j,hj⟩:=getElem?_of_mem hx;have C8:=(Zgs.mp hj).1;have VP:j<m.length:=by rw[<- U.lx];exact C8
     have:=(U.bnd j _ x (cD VP) hj).2.2;have:=nq m[j];exact⟨Zo,(U.ok x hx).kin⟩
    have VQ:∀ {z:SA}{H a:Hp}{x:SS}{b8:Nat},StAt C H z x b8->Fs z H a->TK H a:=λh f=>h.tk f
    have OV:=M FW;have OW:=M FX;have KN:=VO DP;have DQ:=Q _ _ DN;have DR:=Q _ _ KD;refine aQ (λu a=>∃(o9 w4:Option V)(G:List SS),u=[some (.ref a5),some (.ref d),some (.ref lm),some (.str (tx nm)),some (.int (i:Int)),some (.ref r),some (.ref E),some (.ref wl),some (.ref I),o9,w4,y9]/\Fin C J nm (cY p) a E m l G os (60+m.length)/\(∀x∈G,Xj nm x)/\Fa d b l pq a/\Dk a d b) (λvc j0=>?_) ?_
    ·refine⟨I,rfl,⟨_,QZx Y8.lst⟩,cF (bI K I (s.map V.ref)) (λk u a=>∃(o9 w4:Option V)(G:List SS),u=[some (.ref a5),some (.ref d),some (.ref lm),some (.str (tx nm)),some (.int (i:Int)),some (.ref r),some (.ref E),some (.ref wl),some (.ref I),o9,w4,y9]/\Fin C J nm (cY p) a E m l G os (60+k)/\(∀x∈G,Xj nm x)/\(∀j,k<=j->G[j]?=xs[j]?)/\Fa d b l pq a/\Dk a d b) (λk u a ⟨_,_,_,_,_,_,_,fa,_⟩=>QZx (fa _ _ Y8.lst (um.ne DP).1 (um.ne DP).2 KN))
      ⟨_,_,xs,rfl,KH,λx hx=>⟨le_succ_of_le (zg x hx).1,λy Y=>((zg x hx).2 y Y).imp_right .inl⟩,λ_ _=>rfl,λ_ _ e _ _ _=>e,um.same Q⟩ ?_ ?_⟩
     ·rintro k v u og O ⟨DH,qv,G,rfl,Z,kf,OX,S,DS⟩;rw[fB]at O;cases hb:s[k]? with
      | none=>rw[hb]at O;cases O
      | some IQ=>
       rw[hb]at O;cases O;have hk:=(Zgs.mp hb).1;have ui:m[k]?=some (m[k]'Zo):=cD _;have ny:l[k]?=some (l[k]'(by rw[Q1.lz];omega)):=cD _;have oa:xs[k]?=some (xs[k]'(by rw[Q1.lx];omega)):=cD _;generalize m[k]'Zo=a4 at ui;generalize l[k]'(by rw[Q1.lz];omega)=z at ny;generalize xs[k]'(by rw[Q1.lx];omega)=x at oa;have J9:=dB ny;have VR:=Y8.at_ k IQ a4 z hb ui ny;have tz:∀ {c:ZR}{L:List V},pq c=some (.tup L)->og c=some (.tup L):=λ{c L} e=>S _ _ e (λz'=>by subst z';obtain⟨_,_,_,OY,_,_⟩:=(um.same Q).ex;rw[e]at OY;cases OY) (λz'=>by subst z';obtain⟨_,_,_,_,OZ,_⟩:=(um.same Q).ex;rw[e]at OZ;cases OZ) (λz' J0 g=>by
        obtain⟨o,e',n⟩:=U.obj J0 g;rw[Q _ _ e']at e;cases e;exact n _ rfl)
       have KO:=tz VR;have DT:G[k]?=some x:=by rw[OX k (bQ _)];exact oa
       have st:=Z.at_ k z x ny DT;have kx:=zg x (dB oa);have VS:tx nm++("x1a":Str)=tx (Na nm):=by
        rw[show("x1a":Str)=tx [120,49,97] by decide +kernel,cX];rfl
       refine⟨IQ,_,rfl,QZy KO,rfl,_,_,rfl,_,_,rfl,rfl,?_⟩;refine⟨z.a.dx,_,st.hs.hp,dR z.a Zk Zk Zk,eO (by have:=z8.five;show(tx nm).length+("x1a":Str).length<=1000;rw[bD,show("x1a":Str).length=3 by decide +kernel];omega),_,QZx (S _ _ DQ m0.1 m0.2.1 OV),_,rfl,_,QZx (S _ _ DR m1.1 m1.2.1 OW),_,OU,aS rfl,λt JY V9 JZ=>?_⟩;dsimp only [jR];rw[VS];refine(Z.same V9).asked Zo ny DT (Xe z8) (λn i=>Oh n i) (λhm=>?_) JZ V1 B8 Zo (λv KP x' vv DU VT KQ=>?_)
       ·obtain⟨y,Y,ey⟩:=Zmm.mp hm;rcases kx.2 y Y with⟨j,e⟩|⟨n,i,e⟩
        ·exact Xf z8 _ (ey.symm.trans e)
        ·exact Oh n i (ey.symm.trans e)
       ·refine⟨_,_,_,rfl,vv,λx0 uz=>?_,λj hj=>?_,λc o e W q2 X=>DU _ _ (V9 _ _ (S _ _ e W q2 X)) (X z J9),Dk.fs (DS.same V9) DU (M DL z J9) (M DM z J9)⟩
        ·rcases List.mem_or_eq_of_mem_set uz with h|h
         ·exact kf x0 h
         ·rw[h];exact⟨Zo,λy Y=>by
           rcases KQ y Y with Y|Y
           ·exact(kx.2 y Y).imp_right .inl
           ·exact .inr (.inr Y)⟩
        ·rw[getElem?_set_ne Zo];exact OX j Zo
     ·rintro u og ⟨DH,qv,G,rfl,Z,kf,_,S,DS⟩;rw[bF,ph]at Z;exact j0 _ _ ⟨_,_,G,rfl,Z,kf,S,DS⟩
    rintro _ og ⟨DH,qv,G,rfl,Z,kf,S,DS⟩;have PB:∀c∈a6,∀o,H5 c=some o->og c=some o:=λc g o e=>S _ _ (Q _ _ (vt _ _ (k6 _ _ e (B c g).1 (B c g).2.1) (B c g).1 (B c g).2.1)) (B c g).1 (B c g).2.1 (M (k6 _ _ e (B c g).1 (B c g).2.1))
    have VU:MenusAt og lm a6:=FV.keep PB;have VW:=um.same Q;obtain⟨YX,YY,FO,VX,MG,YZ⟩:=VW.ex;have zh:TK pq og:=λc L e=>S _ _ e (bK e VX (λz=>nomatch z)) (bK e MG (λz=>nomatch z)) (λz D g=>by
     obtain⟨o,e',n⟩:=U.obj D g;rw[Q _ _ e']at e;cases e;exact n _ rfl)
    have VY:TK H6 uk:=λc L e=>vt _ _ e (bK e DL nofun) (bK e DM nofun)
    have PD:RxsAt og r p as:=(R6.keep VY (vt _ _ R6.lst yi yj)).keep (λc L e=>zh _ _ (Q _ _ e)) (S _ _ (Q _ _ (vt _ _ R6.lst yi yj)) yi yj (M R6.lst));have DV:HlAt og I m l s:=⟨S _ _ Y8.lst (um.ne DP).1 (um.ne DP).2 KN,Y8.len,λj a' a4 z W q2 X=>zh _ _ (Y8.at_ j a' a4 z W q2 X)⟩;have KR:og wl=some (.lst (bs.map V.ref)):=S _ _ (Q _ _ (zf _ _ AK AW.1 AW.2 AL)) AW.1 AW.2 AL;have VZ:TK H9 uk:=λc L e=>zf _ _ e (bK e (uj _ _ DL) (λz=>nomatch z)) (bK e (uj _ _ DM) (λz=>nomatch z)) (λz D g=>by
     obtain⟨o,e',n⟩:=(OP.same s9).obj D g;rw[e']at e;cases e;exact n _ rfl)
    have KS:Paired (WtAt og) (cY p) bs:=Paired.map' (λ_ _ h=>((h.tk VZ).tk Q.tk).tk zh) OQ;have JM:∀o∈os,∀q,o=some q->∀vs,q.1=some vs->HDX vs:=λo ho q e vs e2=>by
     obtain⟨k,hk⟩:=getElem?_of_mem ho;have xi:k<(cY p).length:=by rw[<- U.lo];exact(Zgs.mp hk).1
     have xj:(cY p)[k]?=some (cY p)[k]:=cD xi;obtain⟨j,hj⟩:=getElem?_of_mem (X6 _ (getElem_mem xi)).h;have C8:=(Zgs.mp hj).1;have P2:xs[j]?=some (xs[j]'(by rw[U.lx];exact C8)):=cD _;generalize xs[j]'(by rw[U.lx];exact C8)=x at P2;have M0:=dB P2;rw[e]at hk;obtain⟨y',V5,_,e3⟩:=(U.kv j _ x hj P2).to_ k _ q xj rfl hk;obtain⟨y,Y,es⟩:=((U.ok x M0).back y' V5).2;have e4:y.dd.map (·.2)=some vs:=by rw[es.2.1,<- e2,<- e3];rfl
     cases hd:y.dd with
     | none=>rw[hd]at e4;cases e4
     | some z=>
      rw[hd]at e4;have:=((U.ok x M0).said y Y).1 z hd;injection e4 with e4
      rw[<- e4];exact this
    have nh:=mw.six;refine⟨J,nm,wl,E,cY p,bs,m,l,G,os,60+m.length,rfl,z8,KR,KS,Z,P1,J1,X6,JM,hW,λbd v JY FL O V9=>?_⟩;dsimp only [aL];have xl:∀ {H:Hp}{v v':V}{DX:Option (Nat×Nat)},BadIs (cY p) os DX->nB H DX v'->nB H bd v->∃n t,n<=50/\Rep H n t v'/\Rep H n t v:=λ{H v v' DX} P0 h1 h2=>by
     have:=FL.uniq P0;subst this;cases bd with
     | none=>rw[show v'=.non from h1,show v=.non from h2];exact⟨0,.sc .non,Zd,⟨rfl,rfl⟩,⟨rfl,rfl⟩⟩
     | some z=>
      obtain⟨c,rfl,b6⟩:=h1;obtain⟨c',rfl,g'⟩:=h2;exact⟨1,.tp [.sc (.int (z.1:Int)),.sc (.int (z.2:Int))],Zd,⟨c,_,rfl,b6,.cons ⟨rfl,rfl⟩ (.cons ⟨rfl,rfl⟩ .nil)⟩,⟨c',_,rfl,g',.cons ⟨rfl,rfl⟩ (.cons ⟨rfl,rfl⟩ .nil)⟩⟩
    have FZ:∀ {H a:Hp}{v:V},TK H a->nB H bd v->nB a bd v:=λ{H a v} tk h=>by
     cases bd with
     | none=>exact h
     | some z=>obtain⟨c,e,b6⟩:=h;exact⟨c,e,tk _ _ b6⟩
    refine kA (λc a=>c=false/\Same og a/\nB a bd v) (λkk J8=>?_) ?_ ?_
    ·refine⟨J,nm,r,I,E,p,as,m,l,s,G,os,60+m.length,rfl,z8,PD.same V9,T3,mh,hok,DV.same V9,Z.same V9,Zo,P1,uh,nh,J1,X6,λDX v' KP P0 U8 mi=>?_⟩;obtain⟨n,t,e1,e2,e3⟩:=xl P0 U8 (FZ mi.tk O);exact⟨n,t,e1,e2,e3,J8 _ _ ⟨rfl,V9.trans mi,FZ mi.tk O⟩⟩
    ·rintro _ ⟨e,_⟩;cases e
    rintro KP ⟨_,mi,KU⟩;dsimp only [iH];have u2:=mu.two;have PF:=PD.same mi;have qy:=DV.same mi;have vv:=Z.same mi;have KW:s[0]?=some (s[0]'Zo):=cD _;have FF:m[0]?=some (m[0]'Zo):=cD _;have uf:l[0]?=some (l[0]'(by rw[Z.lz];omega)):=cD _;have uz:G[0]?=some (G[0]'(by rw[Z.lx];omega)):=cD _;generalize s[0]'Zo=hh at KW;generalize m[0]'Zo=a4 at FF;generalize l[0]'(by rw[Z.lz];omega)=z at uf;generalize G[0]'(by rw[Z.lx];omega)=x at uz;have J9:=dB uf;have DY:=vv.at_ 0 z x uf uz;have kx:=kf x (dB uz);have KY:=mi _ _ (S _ _ DQ m0.1 m0.2.1 OV);have KZ:=mi _ _ (S _ _ DR m1.1 m1.2.1 OW);refine aQ (λu a=>∃zj:List SS,u=[some (.ref a5),some (.ref d),some (.ref lm),some (.str (tx nm)),some (.int (i:Int)),some (.ref r),some (.ref E),some (.ref wl),some (.ref I),DH,qv,some v]/\Fin C J nm (cY p) a E m l zj os (60+m.length+1)/\Fs z KP a) (λvc j0=>?_) ?_
    ·refine⟨_,QZx qy.lst,.ref hh,cV (j:=0) (by rw[fB,KW];rfl),_,QZy (qy.at_ 0 hh a4 z KW FF uf),_,rfl,z.a.dx,_,DY.hs.hp,dR z.a Zk Zk Zk,_,QZx KY,_,rfl,_,QZx KZ,_,OU,aS rfl,λt Zg PH WA=>?_⟩;dsimp only [jR];rw[Xg];refine(vv.same PH).asked Zo uf uz ⟨by rw[bD];decide,by rw[bD];decide,by rw[mE];decide⟩ (λn i=>Oi z8 n i) (λhm=>?_) WA V1 B8 (by have:=kx.1;omega) (λv' GA x' zk Y9 _ _=>?_)
     ·obtain⟨y,Y,ey⟩:=Zmm.mp hm;rcases kx.2 y Y with⟨j,e⟩|⟨n,i,e⟩|e
      ·exact Xh j (ey.symm.trans e)
      ·exact Oi z8 n i (ey.symm.trans e)
      ·exact Xi z8 (ey.symm.trans e)
     ·exact j0 _ _ ⟨_,rfl,zk,λc o e n=>Y9 _ _ (PH _ _ e) n⟩
    rintro _ GA ⟨zj,rfl,zk,Y9⟩;have zl:=DY.tk Y9;have WB:RxsAt GA r p as:=PF.keep zl (Y9 _ _ PF.lst (M R6.lst z J9));have LA:HlAt GA I m l s:=⟨Y9 _ _ qy.lst (KN z J9),qy.len,λj a' a4 z' W q2 X=>zl _ _ (qy.at_ j a' a4 z' W q2 X)⟩;refine oW (λc a=>c=false/\Same GA a) (λkk J8=>?_) ?_ ?_
    ·refine⟨J,nm,r,I,E,p,as,m,l,s,zj,os,_,rfl,z8,WB,T3,mh,hok,LA,zk,Zo,P1,uh,nh,J1,X6,λDX v' WC P0 U8 DZ=>?_⟩;obtain⟨n,t,e1,e2,e3⟩:=xl P0 U8 (FZ DZ.tk (FZ zl KU));exact⟨n,t,e1,e2,e3,J8 _ _ ⟨rfl,DZ⟩⟩
    ·rintro _ ⟨e,_⟩;cases e
    ·rintro WC ⟨_,DZ⟩;refine⟨_,_,_,_,_,_,_,_,rfl,FV.keep λc g o e=>?_,(Dk.fs (DS.same mi) Y9 (M DL z J9) (M DM z J9)).same DZ⟩;exact DZ _ _ (Y9 _ _ (mi _ _ (PB c g o e)) (M (k6 _ _ e (B c g).1 (B c g).2.1) z J9))
   ·rintro u H5 _;exact a9 _ _ trivial
  rintro u H5 _;exact q H5
end
structure FA(K:W.Frag)(x:Str)(st:Stmt):Prop where
 ex:∃(f:ZR)(od an:Option ZR)(sl:Array (Option ZQ))(oc kV dc pm cd ct:ZQ),W.nsIn K mainGlobals x=some (some (.ref f))/\K.lookup f=some ⟨oc,od,.func (W.fnOf x x (cA st) (aY st) (aB st) .none kV dc pm an cd ct),sl⟩/\W.codeIn K cd x=true/\W.keepIn K (.ref f)=true
def FA.of{K:W.Frag}{x:Str}{st:Stmt}{f:ZR}{d e:Option ZR}{sl:Array (Option ZQ)}{g kV h i b j:ZQ}(a:W.nsIn K mainGlobals x=some (some (.ref f)))(l:K.lookup f=some ⟨g,d,.func (W.fnOf x x (cA st) (aY st) (aB st) .none kV h i e b j),sl⟩)(c:W.codeIn K b x=true)(k:W.keepIn K (.ref f)=true):FA K x st:=⟨f,d,e,sl,g,kV,h,i,b,j,a,l,c,k⟩
def QAL:Nat->(List ZQ->Prop)->Prop
 |0,P=>P []
 |n+1,P=>∀a,QAL n λr=>P (a::r)
def qAL{P:List ZQ->Prop}:∀us{n},us.length=n->QAL n P->P us
 |[],_,rfl,h=>h
 |a::r,_,rfl,h=>qAL (P:=λr=>P (a::r)) r rfl (h a)
def qAl{P:List ZQ->Prop}{n}(h:QAL n P):∀us,us.length=n->P us:=λus a=>qAL us a h
def FA.at{K:W.Frag}{x:Str}{st:Stmt}{ps:List Str}{h:Heap}{mg:Z7}(F:FA K x st)(X:K.In h)(G:h.Ns mainGlobals mg)(j:∀(kV g b:ZQ)(d:Option ZR)(i e:ZQ)(us:List ZQ),us.length=ps.length->bindArgs (W.fnOf x x (cA st) (aY st) (aB st) .none kV g b d i e) ⟨us,[]⟩=pure (ps.zip us):=by intro _ _ _ _ _ _;refine qAl ?_;(iterate 9 try intro _);rfl):DefAt K mg x st ps:=by
 obtain⟨f,m,d,sl,n,kV,o,b,p,e,a,l,c,k⟩:=F.ex;exact Rl X G a l c k j
structure MA(K:W.Frag)(C:ZR)(m qual:Str)(st:Stmt):Prop where
 ex:∃(f:ZR)(od an:Option ZR)(sl:Array (Option ZQ))(oc kV dc pm cd ct:ZQ),W.findIn K (.ref C) m=some (some (.ref f))/\W.isFn K (.ref f)=true/\K.lookup f=some ⟨oc,od,.func (W.fnOf m qual (cA st) (aY st) (aB st) .none kV dc pm an cd ct),sl⟩/\W.codeIn K cd qual=true/\W.keepIn K (.ref f)=true
def MA.of{K:W.Frag}{C:ZR}{m b:Str}{st:Stmt}{f:ZR}{e g:Option ZR}{sl:Array (Option ZQ)}{h kV j n d o:ZQ}(a:W.findIn K (.ref C) m=some (some (.ref f)))(i:W.isFn K (.ref f)=true)(l:K.lookup f=some ⟨h,e,.func (W.fnOf m b (cA st) (aY st) (aB st) .none kV j n g d o),sl⟩)(c:W.codeIn K d b=true)(k:W.keepIn K (.ref f)=true):MA K C m b st:=⟨f,e,g,sl,h,kV,j,n,d,o,a,i,l,c,k⟩
def MA.at{K:W.Frag}{C:ZR}{m b:Str}{st:Stmt}{ps:List Str}(F:MA K C m b st)(n:Cls K C)(o:∀(kV h d:ZQ)(e:Option ZR)(j g:ZQ)(us:List ZQ),us.length=ps.length->bindArgs (W.fnOf m b (cA st) (aY st) (aB st) .none kV h d e j g) ⟨us,[]⟩=pure (ps.zip us):=by intro _ _ _ _ _ _;refine qAl ?_;(iterate 9 try intro _);rfl):MethAt K C m b st ps:=by
 obtain⟨f,p,e,sl,q,kV,r,d,s,g,a,i,l,c,k⟩:=F.ex;exact⟨n,_,_,oG l c k,⟨a,i,k⟩,(oG (st:=st) l c k).binds o⟩
def Ts{l:W.OpenLaw}{w:World}{K:W.Frag}{h:Heap}{mg:Z7}{fa e:ZR}(X:K.In h)(G:h.Ns mainGlobals mg)(WD:mg "law"=some (.ref fa)){zm k:Option ZR}{zp:Array (Option ZQ)}{zq m n o f p:ZQ}(G1:FA K "is_name" jF)(M4:FA K "is_key" lC)(B9:FA K "is_whole" gU)(w9:FA K "is_made_of" dD)(G2:FA K "is_deed" jG)(A1:FA K "fits_word" eI)(G3:FA K "asks_of" jH)(j8:FA K "done_changes" dE)(M5:FA K "key_of" lD)(x3:FA K "by_numbers" eT)(j9:FA K "first_unlike" dF)(x4:FA K "entries_of" eU)(A2:FA K "due_words" eJ)(A3:FA K "check_key" fU)(C0:FA K "_law_deck" gV)(C1:FA K "_law_draw" gW)(x5:FA K "_law_unlike" cG)(G4:FA K "_law_end" jI)(C2:FA K "_law_deed" gX)(A4:FA K "_law_words" eK)(x6:FA K "_law_answer" eY)(A5:FA K "_law_menus" fV)(C3:FA K "_law_spot" gY)(C4:FA K "_law_body" bN)(x8:FA K "_law_places" eZ)(C5:FA K "_law_want" fK)(A6:FA K "_law_wants" eL)(A7:FA K "_law_spare" fW)(p7:FA K "_law_brought" dY)(p8:FA K "_law_done_at" dZ)(C6:FA K "_law_word" gZ)(j2:FA K "_law_asks_made" cW)(G5:FA K "_law_due" jJ)(C7:FA K "_law_told" dS)(rn:W.nsIn K mainGlobals "law"=some (some (.ref e)))(rp:K.lookup e=some ⟨zq,zm,.func (W.fnOf "law" "law" (cA iR) (aY iR) (aB iR) .none m n o k f p),zp⟩)(rq:W.codeIn K f "law"=true)(se:W.keepIn K (.ref e)=true){a:ZR}(M6:W.nsIn K mainGlobals "House"=some (some (.ref a)))(M7:W.plainGet K a Str.empty=true)(M8:W.hasDictIn K a=true)(M9:W.plainOver K a=true)(N1:W.findIn K (.ref a) "__setattr__"=some (some (.builtin "object.__setattr__")))(N2:W.makesIn K a=true)(N3:W.keepIn K (.ref a)=true)(j4:W.findIn K (.ref a) "amounts"=some none)(b9:W.findIn K (.ref a) "closed_names"=some none)(j5:W.findIn K (.ref a) "entries"=some none){d:ZR}{E3 E4:Option ZR}{E5:Array (Option ZQ)}{E6 E7 E8 E9 q F0:ZQ}{g:ZR}(d9:W.findIn K (.ref a) "__init__"=some (some (.ref d)))(e9:W.isFn K (.ref d)=true)(h8:K.lookup d=some ⟨E6,E3,.func (W.fnOf "__init__" "House.__init__" (cA aZ) (aY aZ) (aB aZ) (.ref g) E7 E8 E9 E4 q F0),E5⟩)(h9:W.codeIn K q "House.__init__"=true)(v7:W.keepIn K (.ref d)=true)(A8:MA K a "ask" "House.ask" fT)(i7:MA K a "try_deed" "House.try_deed" cT)(l7:MA K a "can_do" "House.can_do" dG)(x9:MA K a "undo" "House.undo" eX)(p9:MA K a "close" "House.close" dX)(l8:MA K a "reopen" "House.reopen" dH)(m4:MA K a "amount" "House.amount" dI)(y6:MA K a "rows" "House.rows" dJ)(y7:MA K a "kept" "House.kept" dL){si:Option ZR}{r:List ZQ}{sj:Nat}{oh:Array (Option ZQ)}(N5:K.lookup g=some ⟨.type "tuple",si,.seq (toArray r) sj,oh⟩)(N6:r=[.none,.none])(y8:W.nsIn K mainGlobals "isinstance"=some none)(sk:W.nsIn K mainGlobals "int"=some none)(Z1:W.nsIn K mainGlobals "bool"=some none)(sm:W.nsIn K mainGlobals "all"=some none)(sq:W.nsIn K mainGlobals "str"=some none)(sr:W.nsIn K mainGlobals "len"=some none)(T5:W.nsIn K mainGlobals "tuple"=some none)(Z2:W.nsIn K mainGlobals "dict"=some none)(N7:W.nsIn K mainGlobals "sorted"=some none)(su:W.nsIn K mainGlobals "sum"=some none)(Z3:W.nsIn K mainGlobals "list"=some none)(T6:W.nsIn K mainGlobals "range"=some none)(sv:W.nsIn K mainGlobals "min"=some none)(sx:W.nsIn K mainGlobals "max"=some none)(A9:W.nsIn K mainGlobals "enumerate"=some none){oi:Tok}(G6:W.nsIn K mainGlobals "LETTERS"=some (some (.str ("abcdefghijklmnopqrstuvwxyz") oi))){oj:Tok}(G7:W.nsIn K mainGlobals "FIGURES"=some (some (.str ("0123456789") oj))){N8:Tok}(m5:W.nsIn K mainGlobals "LONGEST_NAME"=some (some (.int (8) N8))){Q2:Tok}(q0:W.nsIn K mainGlobals "LONGEST_KEY"=some (some (.int (12) Q2))){zr:Tok}(Z4:W.nsIn K mainGlobals "MOST"=some (some (.int (1000000000000) zr))){i:ZR}{t:List DictEntry}{Q3:Nat}(t9:W.nsIn K mainGlobals "NAME_COUNTS"=some (some (.ref i)))(u0:K.lookup i=some ⟨.type "dict",none,.dict (toArray t) Q3,#[]⟩)(u3:Tab w.params t (WS))(u4:(i==sysModules)=false){u:ZR}{x:List ZQ}{J4:Option ZR}{N9:Nat}{J5:Array (Option ZQ)}(m6:W.nsIn K mainGlobals "UNLIKE_WORDS"=some (some (.ref u)))(m7:K.lookup u=some ⟨.type "tuple",J4,.seq (toArray x) N9,J5⟩)(y:Vals (UW) x){z:ZR}{A:List ZQ}{O0:Option ZR}{Q4:Nat}{O1:Array (Option ZQ)}(u5:W.nsIn K mainGlobals "HOUSE_WORDS"=some (some (.ref z)))(u7:K.lookup z=some ⟨.type "tuple",O0,.seq (toArray A) Q4,O1⟩)(B:Vals ([V.str "add",.str "take"]) A){D:ZR}{E:List ZQ}{vw:Option ZR}{zt:Nat}{vx:Array (Option ZQ)}(Z5:W.nsIn K mainGlobals "ENDS"=some (some (.ref D)))(Z6:K.lookup D=some ⟨.type "tuple",vw,.seq (toArray E) zt,vx⟩)(F:Vals ([V.str ("a":Str),V.str ("b":Str)]) E)
  : ∃H:FuncData,(∀(s:ZP)(v:ZQ),BindsTo s H ⟨[v],[]⟩ [("_law_script",v)])/\∀base:Heap,K.In base->base.Ns mainGlobals mg->iI l.prog w K mg base nN 10 fa H X0 (zQ K):=by
 have a0:=WD.symm.trans (W.mg_of X G rn);cases a0;have T:Txt K mg:=⟨W.mg_none_of X G y8,W.mg_none_of X G sk,W.mg_none_of X G Z1,W.mg_none_of X G sm,W.mg_none_of X G sq,W.mg_none_of X G sr,W.mg_none_of X G T5,W.mg_none_of X G Z2,W.mg_none_of X G N7,W.mg_none_of X G su,W.mg_none_of X G Z3,W.mg_none_of X G T6,W.mg_none_of X G sv,W.mg_none_of X G sx,W.mg_none_of X G A9,⟨_,W.mg_of X G G6⟩,⟨_,W.mg_of X G G7⟩,⟨_,W.mg_of X G m5⟩,⟨_,W.mg_of X G q0⟩,⟨_,W.mg_of X G Z4⟩⟩;have U:Xw w.params K mg:=⟨⟨_,W.mg_of X G t9,⟨_,_,u0,u3,u4⟩⟩,⟨_,W.mg_of X G m6,λ_=>.inr ⟨_,_,_,m7,rfl,rfl,by rw[cZ,<- y.length];decide,y⟩⟩,⟨_,W.mg_of X G u5,λ_=>.inr ⟨_,_,_,u7,rfl,rfl,by rw[cZ,<- B.length];decide,B⟩⟩,⟨_,W.mg_of X G Z5,λ_=>.inr ⟨_,_,_,Z6,rfl,rfl,by rw[cZ,<- F.length];decide,F⟩⟩⟩;have b:Cls K a:=⟨M7,M8,M9,N1⟩;subst N6;have vy:ClsAt K mg "House" a "House.__init__" aZ WP [[.non,.non]]:=⟨d,_,_,W.mg_of X G M6,⟨_,_,_,_,_,_,_,_,_,rfl,h8,h9⟩,⟨N2,d9,e9,N3⟩,by
  intro a1 hd;obtain rfl:=Zms.mp hd
  ·exact⟨[.none,.none],λs I KI J=>by replace J:I.length=1:=(by simpa using J);revert I;refine qAl ?_;intro _;exact BindsTo.of_defaults (T:=g) rfl (KI _ _ N5) rfl rfl rfl,(.cons rfl (.cons rfl .nil))⟩⟩
 refine⟨W.fnOf "law" "law" (cA iR) (aY iR) (aB iR) .none m n o k f p,λs v=>.of_eq rfl,λbase _ _=>?_⟩;have EA:=oG (st:=iR) rp rq se;have HT:yV K a:=⟨b,j4,b9,j5⟩;have L:=Ls (P:=l.prog) (w:=w) (base:=base) T (w9.at X G);have c4:=xA T L (G1.at X G);have ck:=Bm T L (M4.at X G);have c5:=Gd (P:=l.prog) (w:=w) (base:=base) T (B9.at X G);have c6:=Lu T U c4 (A1.at X G);have c7:=xB T c6 c5 (G2.at X G);have M:=xC (P:=l.prog) (w:=w) (base:=base) T (j8.at X G);have ca:=Lv (P:=l.prog) (w:=w) (base:=base) T (G3.at X G);have cd:=Lw (P:=l.prog) (w:=w) (base:=base) T (C0.at X G);have c:=Ge (P:=l.prog) (w:=w) (base:=base) (C1.at X G);have N:=Sm T c (G4.at X G);have O:=Bn T c (x5.at X G);have WE:=Mb T c N (C2.at X G);have cw:=Gk (P:=l.prog) (w:=w) (base:=base) T (A4.at X G);have cn:=Bo T c N (x6.at X G);have WG:=Mc T c (C3.at X G);have cm:=Gn T c O (A5.at X G);have cb:=Mn T c WE WG cw cn (C4.at X G);have j:=uW (P:=l.prog) (w:=w) (mg:=mg) (base:=base) HT (m4.at b);have lP:=Sx T HT j (l7.at b);have tr:=Sy T HT lP j M (i7.at b);have Q:=Gu (P:=l.prog) (w:=w) (base:=base) T HT (p9.at b);have WH:=Br (P:=l.prog) (w:=w) (base:=base) T HT (l8.at b);have R:=sU T ck (A3.at X G);have ask:=Sz T U HT R c7 tr (A8.at b);have Z:=Mo T HT R j M (x9.at b);have hi:=Gw T HT Q vy;have WI:=Gy (P:=l.prog) (w:=w) (base:=base) T HT (y6.at b);have S:=Hk (P:=l.prog) (w:=w) (base:=base) T HT (y7.at b);have WJ:=Tb (P:=l.prog) (w:=w) (base:=base) T U (M5.at X G);have WK:=pZ (P:=l.prog) (w:=w) (base:=base) (x3.at X G);have Y:=Bs (P:=l.prog) (w:=w) (base:=base) T (x8.at X G);have WL:=Mq T Y (C5.at X G);have WM:=Ho T Y WL (A6.at X G);have WN:=Hs T HT ask (A7.at X G);have WO:=λws nm=>xL (ws:=ws) (nm:=nm) T HT ask Z Q WH (xK T WN (p7.at X G)) (p8.at X G)
 have WQ:=Ms T c (C6.at X G);have WR:=tG T c WQ WO (j2.at X G);have WT:=Tf (P:=l.prog) (w:=w) (base:=base) (C:=a) T (G5.at X G);have WU:=xR T S (x4.at X G);have WV:=tH (P:=l.prog) (w:=w) (base:=base) T (A2.at X G);have WW:=λws nm=>Ij (ws:=ws) (nm:=nm) T WU WK ca WV WJ (j9.at X G)
 have WX:=Mz T WW WI S (C7.at X G);exact Tr T cd cm O c cb (hi [.non,.non] Zs) WM WR ask WT WX EA
def Zq{l:W.OpenLaw}{q:Program}{e:List Str}{g:(Str->Option ZQ)->Heap->Prop}{b:World->Heap->Prop}{d:DefRec}{K:Params->W.Frag}(i:l.most=some 63)(j:d.params.defaults=[])(m:∀(w:World)(h:Heap),b w h->(K w.params).In h)(F:∀(w:World)(mg:Z7)(fa:ZR)(h:Heap),(K w.params).In h->h.Ns mainGlobals mg->mg d.name=some (.ref fa) →
   ∃c:FuncData,(∀(s:ZP)(u:ZQ),BindsTo s c ⟨[u],[]⟩ [("_law_script",u)])/\∀base:Heap,(K w.params).In base->base.Ns mainGlobals mg->iI l.prog w (K w.params) mg base nN 10 fa c X0 (zQ (K w.params))) :
  W.WalkO q e g b l.row.toRowW d [] (λf vs=>PySem.call f vs):=
 L2.yD (n:=63) (k:=10) (x:="_law_script") (CX:=λ_=>nN) (sp:=λw=>zQ (K w.params)) i Zd j ⟨rfl,Zd,Zd⟩ m F (λ_ _ a o p _ r=>⟨a,o,rfl,r,p,λ_=>rfl⟩) λ_ _ _ _ _ z=>z
end KL
namespace PySem.W.Fast
def tw9428429893186493789:=0
def tw17929326420774641624:=0
def tw7622345156645926018:=0
def tw4526562061771710207:=0
def tw9983853360272325744:=0
def tw11431236532093534759:=0
def tw918842849752419860:=0
def tw11980074549951978673:=0
def tw9469423002916398298:=0
def tw16942769533572760454:=0
def tw5548376398291477429:=0
def tw10818147054337808915:=0
def tw7101470725177043799:=0
def tw14066106182819695335:=0
def tw14622389950997577529:=0
def tw8600596014638564499:=0
def tw110110547334844703:=0
def tw16308848694494210724:=0
def tw17348208036593267739:=0
def tw17934796577493439426:=0
def tw12237956385539701424:=0
def tw7135998850332081554:=0
def tw12817648550436798490:=0
def tw990770089669588752:=0
def tw2645594948857554004:=0
def tw496121713777821164:=0
def tw113232634245913167:=0
def tw6870270055696009103:=0
def tw9093234346613740685:=0
def tw9324089826341896339:=0
def tw16735908010122480998:=0
def tw18114716235886891490:=0
def tw4044778821569341143:=0
def tw14685822977397070182:=0
def tw12887381865802356952:=0
def tw8383211695425270067:=0
def tw10338561205875683786:=0
def tw3373131513303563042:=0
def tw5610565147908271290:=0
def tw7367483235248839854:=0
def tw10174428774091751829:=0
def tw14476595610846257295:=0
def tw9255753897563110506:=0
def tw9634910688327717857:=0
def tw3687588966594849095:=0
def tw1681683493011991898:=0
def tw11639992920757244598:=0
def tw2755876587129427379:=0
def tw9559744127388338906:=0
def tw10904595920428554591:=0
def tw4821865327227570980:=0
def tw17191833201352252914:=0
def tw7674050042989123217:=0
def tw13628948825135425680:=0
def tw16653743879138616834:=0
def tw6237107912907214674:=0
def tw655528592330752531:=0
def tw7764374491305867285:=0
def tw7679109691550164284:=0
def tw1594163104554261719:=0
def tw18080140426174293406:=0
def tw9585306023496503552:=0
def tw10711925612210733814:=0
def tw8008977740940993183:=0
def tw15248662934931770766:=0
def tw1094259011885228364:=0
def tw12019652236443102547:=0
def tw12131768042888525144:=0
def tw8089872694303093916:=0
def tw2435401201704655728:=0
def tw9126315837118242605:=0
def tw3654812688892162777:=0
def tw170505033933889702:=0
def tw7862192406899629722:=0
def tw9890642637653511173:=0
def tw13929415827404623060:=0
def tw17585896735987836455:=0
def tw12947184777022886143:=0
def tw4393014204513357886:=0
def tw17872642050111350317:=0
def tw10760727854473853234:=0
def tw4172942414003797546:=0
def tw12592443190388627325:=0
def tw11797326789605281498:=0
def tw11832836396354521302:=0
def tw6336204149520367599:=0
def tw15116787438276428582:=0
def tw16093598178421496019:=0
def tw10976163497956881842:=0
def tw7601327813047336780:=0
def tw14481182455751585939:=0
def tw10845617577750327119:=0
def tw12747501742189309656:=0
def tw12710322451000111078:=0
def tw6197728636297855929:=0
def tw564627697770901849:=0
def tw1790414813750465845:=0
def tw5864338227274538565:=0
def tw10757729490429132568:=0
def tw5539538067686815059:=0
def tw7515217127163199480:=0
def tw7957391353369700477:=0
def tw4371863205587354022:=0
def tw2400327020564177086:=0
def tw11536849850602671574:=0
def tw14040611014769175391:=0
def tw6658984632891661371:=0
def tw5381610883087499915:=0
def tw8195196236247911435:=0
def tw17148272338180450901:=0
def tw17532654073519984703:=0
def tw7854553065215956886:=0
def tw3773462274971280569:=0
def tw10943012411464326874:=0
def tw16048391089313349353:=0
def tw1296445462809372638:=0
def tw12666311628328755270:=0
def tw4691498240724665495:=0
def tw12642646058756202489:=0
def tw4167333567869716581:=0
def tw12888602432351332166:=0
def tw7019512841276607598:=0
def tw11336494945928932127:=0
def tw3028988162257913447:=0
def tw1318692912419035003:=0
def tw13549836503748480128:=0
def tw2631765600484514681:=0
def tw6407268767855281420:=0
def tw7515641477193676787:=0
def tw16524064383074282554:=0
def tw17528938041469352018:=0
def tw15217926623094064479:=0
def tw3372659095987634490:=0
def tw3171013692792618223:=0
def tw3234817463501490524:=0
def tw4950317480849512797:=0
def tw2375467554805557576:=0
def tw8200313117959317076:=0
def tw14121040721453466496:=0
def tw17037081119539347145:=0
def tw3241495960556520955:=0
def tw4280814278731438665:=0
def tw12691767524730393897:=0
def tw8598582006377007785:=0
def tw13344588837083594655:=0
def tw14091031761826084750:=0
def tw2602707894451922551:=0
def tw17812116116316793445:=0
def tw9920635300638992148:=0
def tw5863412200800179475:=0
def tw10906576423807534398:=0
def tw6428282531781024831:=0
def tw11983287429362116262:=0
def tw6861007984344853955:=0
def tw6511193459891054550:=0
def tw2220995251171481066:=0
def tw14619070668373894905:=0
def tw17636051734782742118:=0
def tw17148053484273550233:=0
def tw2076743884324981299:=0
def tw15389884508762263124:=0
def tw6591697840774303791:=0
def tw18379238438616054368:=0
def tw542529298153931021:=0
def tw2542314571910237010:=0
def tw13001456855558013427:=0
def tw12815695334271673897:=0
def tw2340579545664577699:=0
def tw13373512272497843769:=0
def tw7879113494063913684:=0
def tw4285237563753256022:=0
def tw5732412499149121006:=0
def tw15877958744846580187:=0
end PySem.W.Fast
open PySem PySem.W PyProof.Rows
set_option maxRecDepth 100000 in
set_option maxHeartbeats 0 in
theorem PySem.Challenge.cw_oncedoor_k73_houses_unlike_holds : PySem.Challenge.rw_oncedoor_k73_houses_unlike.Holds := by
 w_on;o_law;k_head;(case hw=>w_witness2)
 k_fill
 refine KL.Zq (l:=PySem.Challenge.rw_oncedoor_k73_houses_unlike) rfl rfl (λw h Y=>W.kIn_of Y) ?F
 case F=>
  intro w mg fa h KX G wb;refine' KL.Ts KX G wb ?G1 ?M4 ?B9 ?w9 ?G2 ?A1 ?G3 ?j8 ?M5 ?x3 ?j9 ?x4 ?A2 ?A3 ?C0 ?C1 ?x5 ?G4 ?C2 ?A4 ?x6 ?A5 ?C3 ?C4 ?x8 ?C5 ?A6 ?A7 ?p7 ?p8 ?C6 ?j2 ?G5 ?C7 ?rn ?rp ?rq ?se ?M6 ?M7 ?M8 ?M9 ?N1 ?N2 ?N3 ?j4 ?b9 ?j5 ?d9 ?e9 ?h8 ?h9 ?v7 ?A8 ?i7 ?l7 ?x9 ?p9 ?l8 ?m4 ?y6 ?y7 ?N5 ?N6 ?y8 ?sk ?Z1 ?sm ?sq ?sr ?T5 ?Z2 ?N7 ?su ?Z3 ?T6 ?sv ?sx ?A9 ?G6 ?G7 ?m5 ?q0 ?Z4 ?t9 ?u0 ?u3 ?u4 ?m6 ?m7 ?d8 ?u5 ?u7 ?i8 ?Z5 ?Z6 ?T7
  case G1|M4|B9|w9|G2|A1|G3|j8|M5|x3|j9|x4|A2|A3|C0|C1|x5|G4|C2|A4|x6|A5|C3|C4|x8|C5|A6|A7|p7|p8|C6|j2|G5|C7=>refine' KL.FA.of ?a ?l ?c ?k;(case a=>k_is);(case l=>k_is);(case c=>k_is);case k=>k_is
  case rn|rp|rq|se|M6|M7|M8|M9|N1|N2|N3|j4|b9|j5|d9|e9|h8|h9|v7=>k_is
  case A8|i7|l7|x9|p9|l8|m4|y6|y7=>refine' KL.MA.of ?a ?i ?l ?c ?k;(case a=>k_is);(case i=>k_is);(case l=>k_is);(case c=>k_is);case k=>k_is
  case N5=>k_is
  case N6=>exact rfl
  case y8|sk|Z1|sm|sq|sr|T5|Z2|N7|su|Z3|T6|sv|sx|A9|G6|G7|m5|q0|Z4|t9|u0=>k_is
  case u3=>repeat (first | exact True.intro | refine And.intro ⟨_,rfl⟩ (And.intro rfl (And.intro ⟨_,rfl⟩ ?_)))
  case u4=>decide
  case m6|m7=>k_is
  case d8=>repeat (first | exact .nil | refine .cons ⟨_,rfl⟩ ?_)
  case u5|u7=>k_is
  case i8=>repeat (first | exact .nil | refine .cons ⟨_,rfl⟩ ?_)
  case Z5|Z6=>k_is
  case T7=>repeat (first | exact .nil | refine .cons ⟨_,rfl⟩ ?_)
