import PyProof.Rows.All
import Wide.All
import OpenK.AllK
import Wide.FinOn
import Lean
import PyProof.EqAt
import PyProof.EqKinds
import PyProof.TupleCall
import KE.KSortTup
import KE.KDictSum
import KE.KDictOf
import PyProof.AttrMissHeap
import OpenK.KRaise
import KE.KIsAll
import KE.KEqDict
import KE.KTryMore
import KE.RegKIsAll
import KE.RegKTryMore
import PyProof.NsDelKeeps
import PyProof.ExcArgs
import PyProof.FitsReplace
import PyProof.Rows.StrJoin2
import PySem.Challenge.RW_oncedoor_k73_houses_unlike
set_option Elab.async false
set_option linter.all false
set_option maxRecDepth 100000
set_option maxHeartbeats 4000000
abbrev Z9:=List (PySem.Addr×PySem.Obj)
abbrev Z8:=PySem.Value->PySem.Shared->Prop
abbrev Z7:=PySem.Str->Option PySem.Value
def Z6:=@PySem.wpAny_bind
def Z5:=@PySem.wpAny_pure
def ZZ:=@Bool.false_ne_true
def ZY:=@of_decide_eq_true
def ZX:=@of_decide_eq_false
def ZW:=@decide_eq_true
def ZV:=@decide_eq_false
def ZU:=@PySem.Heap.get?_push_size
abbrev ZT:=PySem.Addr
abbrev ZS:=PySem.Value
abbrev ZR:=PySem.Shared
def ZQ:=@if_pos
def ZP:=@if_neg
def ZO:=@absurd
def ZN:=@Nat.le_of_ble_eq_true
def ZM:=@List.mem_append_left
def ZL:=@List.mem_append_right
def ZK:=@Nat.lt_of_lt_of_le
def ZJ:=@List.not_mem_nil
def ZI:=@List.filterMap_append
def ZH:=@List.filterMap_cons
def ZG:=@List.flatMap_cons
abbrev ZF:List PySem.Str:=["_law_deck_here","_law_many"]
abbrev ZE:List PySem.Str:=["self","name"]
abbrev ZD:List PySem.Str:=["self"]
abbrev ZC:List PySem.Str:=["_law_script"]
abbrev ZB:List PySem.Str:=["self","deed"]
abbrev ZA:List PySem.Str:=["_law_called","_law_house"]
abbrev Zz:List PySem.Str:=["self","key","deed"]
abbrev Zy:List PySem.Str:=["_law_deck_here","_law_signs","_law_longest","_law_many"]
abbrev Zx:List PySem.Str:=["_law_deck_here","_law_names","_law_houses"]
abbrev Zw:List PySem.Str:=["_law_deed_here","_law_asked"]
abbrev Zv:List PySem.Str:=["_law_deck_here","_law_deed_here","_law_word_here"]
abbrev Zu:List PySem.Str:=["_law_deck_here","_law_menus_here"]
abbrev Zt:List PySem.Str:=["_law_deck_here","_law_rows","_law_menus_here","_law_many","_law_shut","_law_under","_law_number","_law_turn","_law_k","_law_way","_law_deed_here","_law_one","_law_words_here","_law_answer_here"]
abbrev Zr:List PySem.Str:=["self","rows","closed"]
abbrev Zq:List PySem.Str:=["_law_deed_here"]
abbrev Zp:List PySem.Str:=["_law_deck_here","_law_signs","_law_longest","_law_many","_law_word_here","_law_size","_law_at","_law_first","_law_ends"]
abbrev Zn:List PySem.Str:=["_law_deck_here","_law_rows","_law_menus_here","_law_many"]
abbrev Zm:List PySem.Str:=["name","number","place"]
abbrev Zl:List PySem.Str:=["_law_deed_here","_law_place","_law_answers"]
abbrev Zj:List PySem.Str:=["_law_house","_law_there"]
abbrev Zi:List PySem.Str:=["_law_state","_law_word_here","_law_name","_law_amount"]
abbrev Zh:List PySem.Str:=["_law_state","_law_deed_here","_law_yes"]
abbrev Zg:List PySem.Str:=["_law_state","_law_key","_law_deed_here","_law_word_here"]
abbrev Zf:List PySem.Str:=["_law_deck_here","_law_want_here"]
abbrev Ze:List PySem.Str:=["_law_deck_here","_law_name","_law_wants_here","_law_states","_law_names"]
abbrev Zc:List PySem.Str:=["_law_name","_law_wants_here","_law_states"]
abbrev Zb:List PySem.Str:=["asks","place","is_asked","done"]
abbrev Za:List PySem.Str:=["name","rows","houses"]
abbrev YZ:List PySem.Str:=["_law_name","_law_rows","_law_houses"]
abbrev YY:List PySem.Str:=["_law_k","_law_deck_here","_law_signs"]
abbrev YX:List PySem.Str:=["_law_k","_law_signs","_law_first","_law_ends"]
abbrev YW:List PySem.Str:=["_law_name","_law_rows","_law_houses","_law_kept","_law_found","_law_number"]
abbrev YV:List PySem.Str:=["_law_script","_law_deck_here","_law_menus_here","_law_name","_law_turn","_law_rows","_law_states","_law_wants_here","_law_houses","_law_house","_law_there","_law_due_here"]
open List (mem_filter mem_range filterMap_cons mem_cons mem_append_left getElem?_set_self getElem?_set_ne mem_filterMap mem_append_right map_cons append_nil nodup_cons of_mem_zip replicate length getElem?_append_left map_nil length_set all_cons any_cons find?_cons length_nil filter_cons nodup_nil lookup_cons all_eq_true getElem_mem map_map toArray pairwise_cons le_trans getD_eq_getElem?_getD getElem_toArray map_congr_left all_eq_false eraseIdx_cons_succ pairwise_iff_getElem getElem_of_mem not_mem_nil getElem_map getElem_set map_set mem_map_of_mem take_length filter_append filterMap_append append_assoc flatMap_append flatMap_cons flatMap_nil countP_cons getElem?_of_mem getElem?_zip_eq_some mem_flatMap getElem?_inj)
open Nat (lt_of_lt_of_le lt_irrefl ne_of_lt le_of_lt ne_of_gt le_of_eq lt_succ_self zero_le le_succ lt_trans le_of_ble_eq_true toDigits mod_lt not_lt_zero le_succ_of_le lt_trichotomy zero_add lt_or_ge)
def Zk{p:Prop}(h:p:=by decide +kernel):p:=h
def Zo{p:Prop}(h:p:=by omega):p:=h
def Zs{p:Prop}(h:p:=by simp):p:=h
def Zd{p:Prop}(h:p:=by decide):p:=h
def bA:=@List.length_map
def fB:=@PySem.Heap.get?_push_of_some
def Zgs:=@List.getElem?_eq_some_iff
def bR:=@List.getElem?_eq_getElem
def jE:=@List.mem_cons_of_mem
def Zmm:=@List.mem_map
def eF:=@List.map_append
def gJ:=@List.length_append
def dH:=@List.getElem?_map
def eJ:=@Nat.le_trans
def dI:=@List.mem_cons_self
def cO:=@List.size_toArray
def wR:=@List.length_take
def lO:=@List.take_of_length_le
def Zma:=@List.mem_append
def Zms:=@List.mem_singleton
def qH:=@List.length_cons
def fQ:=@Nat.lt_of_le_of_lt
def bH:=@Nat.le_refl
def cP:=@List.mem_of_getElem?
namespace L2
open PySem PySem.Spec PyProof.Rows
abbrev aR:=Sum Int Str
def eC:aR->ZS->Bool
 | .inl k,v=>Value.isInt k v
 | .inr x,v=>Value.isStrOf x v
def Nt(w:World):aR->Int
 | .inl k=>hashInt k
 | .inr x=>hashStr w x
def aU:∀ {k:aR}{v:ZS},eC k v=true->(∃i t,k=Sum.inl i/\v=Value.int i t)∨(∃x t,k=Sum.inr x/\v=Value.str x t)
 | .inl i,v,h=>by
  obtain⟨t,e⟩:=Value.isInt_shape (k:=i) (v:=v) h;exact .inl ⟨i,t,rfl,e⟩
 | .inr x,v,h=>by
  obtain⟨t,e⟩:=Value.isStrOf_shape (x:=x) (v:=v) h;exact .inr ⟨x,t,rfl,e⟩
def uN(i:Int)(t:Tok):eC (.inl i) (.int i t)=true:=by simp[eC,Value.isInt]
def uO(x:Str)(t:Tok):eC (.inr x) (.str x t)=true:=by simp[eC,Value.isStrOf]
def Hs(a b:Int):decide ((Sum.inl a:aR)=Sum.inl b)=(a==b):=by
 by_cases e:a=b
 ·subst e;simp
 ·have h:¬ (Sum.inl a:aR)=Sum.inl b:=λq=>e (Sum.inl.inj q)
  rw[ZV h];exact(beq_eq_false_iff_ne.mpr e).symm
def Ht(a b:Str):decide ((Sum.inr a:aR)=Sum.inr b)=decide (a=b):=by
 by_cases e:a=b
 ·subst e;simp
 ·have h:¬ (Sum.inr a:aR)=Sum.inr b:=λq=>e (Sum.inr.inj q)
  rw[ZV h,ZV e]
def Hu(a:Int)(b:Str):decide ((Sum.inl a:aR)=Sum.inr b)=false:=ZV (λq=>nomatch q)
def Hv(a:Str)(b:Int):decide ((Sum.inr a:aR)=Sum.inl b)=false:=ZV (λq=>nomatch q)
def aL(prog:Program)(w:World):PySem.KeyKind prog w aR where
 is:=eC
 hash:=Nt w
 inj:=λv a b g f=>by
  rcases aU g with⟨i,t,rfl,rfl⟩|⟨x,t,rfl,rfl⟩
  ·rcases aU f with⟨j,u,rfl,e⟩|⟨y,u,rfl,e⟩
   ·injection e with c _;rw[c]
   ·exact nomatch e
  ·rcases aU f with⟨j,u,rfl,e⟩|⟨y,u,rfl,e⟩
   ·exact nomatch e
   ·injection e with c _;rw[c]
 byValue:=λk v h=>by
  rcases aU h with⟨i,t,rfl,rfl⟩|⟨x,t,rfl,rfl⟩<;>rfl
 pyHash:=λd h=>by
  rcases aU d with⟨i,t,rfl,rfl⟩|⟨x,t,rfl,rfl⟩
  ·exact wpAny_pyHash_int h
  ·exact wpAny_pyHash_str h
 eqBool:=λl d h=>by
  rcases aU l with⟨i,t,rfl,rfl⟩|⟨x,t,rfl,rfl⟩
  ·rcases aU d with⟨j,u,rfl,rfl⟩|⟨y,u,rfl,rfl⟩
   ·rw[Hs]at h;exact wpAny_eqBool_int h
   ·rw[Hu]at h;exact SeqAt.EqAt.int_str i t y u _ _ _ _ h
  ·rcases aU d with⟨j,u,rfl,rfl⟩|⟨y,u,rfl,rfl⟩
   ·rw[Hv]at h;exact SeqAt.EqAt.str_int x t j u _ _ _ _ h
   ·rw[Ht]at h;exact wpAny_eqBool_str h
 «strs»:=λk x t v h=>by
  rcases aU h with⟨i,u,rfl,e⟩|⟨y,u,rfl,e⟩
  ·exact nomatch e
  ·injection e with c _
   subst c;cases v<;>rfl
def oU(prog:Program)(w:World)(i:Int)(t:Tok):(aL prog w).is (.inl i) (.int i t)=true:=uN i t
def oV(prog:Program)(w:World)(x:Str)(t:Tok):(aL prog w).is (.inr x) (.str x t)=true:=uO x t
inductive V where
 | non|bl (b:Bool)|int (i:Int)|str (x:Str)|byt (b:Array UInt8)|flt (b:UInt64)|ref (a:ZT)|ty (n:String)
 deriving DecidableEq
def RelV:V->ZS->Prop
 | .non,u=>u=Value.none
 | .bl b,u=>u=Value.bool b
 | .int i,u=>∃t,u=Value.int i t
 | .str x,u=>∃t,u=Value.str x t
 | .byt b,u=>∃t,u=Value.bytes b t
 | .flt b,u=>∃t,u=Value.float b t
 | .ref a,u=>u=Value.ref a
 | .ty n,u=>u=Value.type n
abbrev Vals:List V->List ZS->Prop:=Paired RelV
def Vals.length{xs:List V}{us:List ZS}(r:Vals xs us):xs.length=us.length:=Paired.length r
theorem Vals.get:∀ {xs:List V}{us:List ZS}{i:Nat}{x:V},Vals xs us->xs[i]?=some x->∃u,us[i]?=some u/\RelV x u
 | _,_,_,_,.nil,e=>by simp at e
 | _,_,0,_,.cons r _,e=>by simp at e;subst e;exact⟨_,rfl,r⟩
 | _,_,i+1,x,.cons _ t,e=>by
  obtain⟨u,a,b⟩:=Vals.get (i:=i) (x:=x) t (by simpa using e);exact⟨u,by simpa using a,b⟩
def Vals.set{x:V}{u:ZS}(r:RelV x u):∀ {xs:List V}{us:List ZS} (i:Nat),Vals xs us->Vals (xs.set i x) (us.set i u)
 | _,_,_,.nil=>.nil
 | _,_,0,.cons _ t=>.cons r t
 | _,_,i+1,.cons q t=>.cons q (Vals.set r i t)
def Vals.append:∀ {xs ys:List V}{us ws:List ZS},Vals xs us->Vals ys ws->Vals (xs++ys) (us++ws)
 | _,_,_,_,.nil,s=>s
 | _,_,_,_,.cons r t,s=>.cons r (Vals.append t s)
def Vals.take:∀ {xs:List V}{us:List ZS} (n:Nat),Vals xs us->Vals (xs.take n) (us.take n)
 | _,_,0,_=>.nil
 | _,_,_+1,.nil=>.nil
 | _,_,n+1,.cons r t=>.cons r (Vals.take n t)
def Vals.drop:∀ {xs:List V}{us:List ZS} (n:Nat),Vals xs us->Vals (xs.drop n) (us.drop n)
 | _,_,0,r=>r
 | _,_,_+1,.nil=>.nil
 | _,_,n+1,.cons _ t=>Vals.drop n t
def RelO:Option V->Option ZS->Prop
 | some v,some u=>RelV v u
 | none,none=>True
 | _,_=>False
def KV{a:Type}:List (a×V)->List (a×ZS)->Prop:=Paired λ(p:a×V) (q:a×ZS)=>p.1=q.1/\RelV p.2 q.2
def kV:aR->V
 | .inl i=>.int i
 | .inr x=>.str x
inductive HO where
 /-- a list -/
 | lst (xs:List V)
 /-- a tuple (never changes) -/
 | tup (xs:List V)
 /-- a dict whose keys are ints and texts;one whose keys are tuples of ints and texts (the empty one is both) -/
 | dK (kvs:List (aR×V))|dT (kvs:List (List aR×V))
 /-- a set of ints: its members,its size -/
 | set (S:Int->Bool) (n:Nat)
 /-- an instance of the class at C,its dict at dx,its attributes -/
 | ins (C dx:ZT) (fs:List (Str×V))
 /-- the dict of the instance at x -/
 | own (x:ZT)
 /-- the dict of an exception -/
 | xd (fs:List (Str×V))
 /-- a bound method,f of x -/
 | met (f x:ZT)
 /-- a range object lo,lo+1,.. below hi -/
 | rng (lo hi:Int)
 /-- a thing that is known to the object (the script;a dict while a loop walks it): read,never written while it is so -/
 | frz (o:Obj) (u:HO)
 /-- a code object's table -/
 | tbl (ps:Array Value)
 /-- any other thing,by what is true of its one object (a def of one's own: SetO a S n:=HO.ext λh=>..) -/
 | ext (φ:Heap->Prop)
abbrev Hp:=Addr->Option HO
def aJ(H:Hp)(a:ZT)(o:HO):Hp:=λb=>if b=a then some o else H b
def aA{H:Hp}{a:ZT}{o:HO}:aJ H a o a=some o:=by unfold aJ;rw[ZQ rfl]
def aD{H:Hp}{a b:ZT}{o:HO}(h:b≠a):aJ H a o b=H b:=by unfold aJ;rw[ZP h]
def bD{H:Hp}{a b:ZT}{o u:HO}(h:H a=some o)(h':H b=some u)(d:o≠u):a≠b:=by
 intro e;subst e;rw[h]at h';exact d (Option.some.inj h')
def aB{H:Hp}{a b:ZT}{o:HO}(h:H a=some o)(h':H b=none):a≠b:=by
 intro e;subst e;rw[h]at h';cases h'
section
variable (P:Program) (w:World)
def ObjOk(H:Hp)(h:Heap)(a:ZT):HO->Prop
 | .lst b=>b.length<=sizeLine/\∃(d:List ZS)(n:Nat),Vals b d/\h.get? a=some {cls:=.type "list",data:=.seq d.toArray n }
 | .tup b=>b.length<=sizeLine/\∃d:List ZS,Vals b d/\IsTup h a d.toArray
 | .dK e=>e.length<=sizeLine/\(a==sysModules)=false/\∃vs,KV e vs/\h.DictOf (aL P w) a vs
 | .dT e=>e.length<=sizeLine/\(a==sysModules)=false/\∃b:List (List aR×ZT×ZS),
   Paired (λ(p:List aR×V) (q:List aR×ZT×ZS)=>p.1=q.1/\H q.2.1=some (.tup (p.1.map kV))/\RelV p.2 q.2.2) e b ∧
   ∃o j m,h.get? a=some o/\o.ExactDict/\o.data=.dict j m/\j.toList=b.map (entryOfKey (tupleKind (aL P w)))/\(b.map (·.1)).Nodup
 | .set S n=>h.SetOf (intKind P w) a S n
 | .ins C g fs=>H g=some (.own a)/\fs.length<=1000/\g≠a/\h.get? a=some (W.instObj C g) ∧
   ∃c,h.Ns1 g c/\(∀f,RelO (fs.lookup f) (c f))/\PySem.Within c (fs.map (·.1))
 | .own _=>∃o,h.get? a=some o
 | .xd fs=>∃c,h.Ns1 a c/\∀f,RelO (fs.lookup f) (c f)
 | .rng lo r=>∃t u v,h.get? a=some {cls:=.type "range",data:=.fields #[.int lo t,.int r u,.int 1 v] }
 | .frz o u=>h.get? a=some o/\ObjOk H h a u
 | .tbl ps=>h.get? a=some {cls:=.none,data:=.fields ps }
 | .met f x=>h.get? a=some (W.methodObj (.ref f) (.ref x))
 | .ext i=>i h/\(∃o,h.get? a=some o)/\∀k l:Heap,i k->(∀o,k.get? a=some o->l.get? a=some o)->i l
def HOk(H:Hp)(h:Heap):Prop:=∀a o,H a=some o->ObjOk P w H h a o
end
section
variable {P:Program}{w:World}{H H':Hp}{h h':Heap}{a:ZT}{o:HO}
def ObjOk.lt(x:ObjOk P w H h a o):a<h.objs.size:=by
 cases o with
 | lst c=>obtain⟨_,_,_,_,e⟩:=x;exact Heap.lt_size e
 | tup c=>obtain⟨_,_,_,p⟩:=x;exact p.lt
 | dK b=>obtain⟨_,_,_,_,o,_,_,e,_⟩:=x;exact Heap.lt_size e
 | dT b=>obtain⟨_,_,_,_,o,_,_,e,_⟩:=x;exact Heap.lt_size e
 | set S n=>obtain⟨o,_,_,_,e,_⟩:=x;exact Heap.lt_size e
 | ins C d fs=>obtain⟨_,_,_,e,_⟩:=x;exact Heap.lt_size e
 | own y=>obtain⟨_,e⟩:=x;exact Heap.lt_size e
 | xd fs=>obtain⟨_,⟨_,_,_,e,_⟩,_⟩:=x;exact Heap.lt_size e
 | rng lo g=>obtain⟨_,_,_,e⟩:=x;exact Heap.lt_size e
 | frz i u=>obtain⟨e,_⟩:=x;exact Heap.lt_size e
 | tbl ps=>exact Heap.lt_size (show h.get? a=some _ from x)
 | met f y=>exact Heap.lt_size (show h.get? a=some _ from x)
 | ext j=>obtain⟨_,⟨_,e⟩,_⟩:=x;exact Heap.lt_size e
def Paired.mapP{e g:Type}{F G:e->g->Prop}:∀ {c:List e}{d:List g},Paired F c d->(∀a b,F a b->G a b)->Paired G c d
 | _,_,.nil,_=>.nil
 | _,_,.cons r t,f=>.cons (f _ _ r) (Paired.mapP t f)
def ObjOk.stay(x:ObjOk P w H h a o)(k:∀b u,(b=a∨H b=some (.own a))->h.get? b=some u->h'.get? b=some u)(B:∀b,H b=some (.own a)->H' b=some (.own a))(D:∀b xs,H b=some (.tup xs)->H' b=some (.tup xs)):ObjOk P w H' h' a o:=by
 induction o with
 | lst xs=>obtain⟨z,l,n,r,e⟩:=x;exact⟨z,l,n,r,k _ _ (.inl rfl) e⟩
 | tup xs=>obtain⟨z,l,r,g,e,c⟩:=x;exact⟨z,l,r,g,k _ _ (.inl rfl) e,c⟩
 | dK A=>obtain⟨z,y,vs,r,g,i,j,e,c⟩:=x;exact⟨z,y,vs,r,g,i,j,k _ _ (.inl rfl) e,c⟩
 | dT A=>
  obtain⟨z,y,xs,r,g,i,j,e,c⟩:=x;exact⟨z,y,xs,Paired.mapP r λp q z=>⟨z.1,D _ _ z.2.1,z.2.2⟩,g,i,j,k _ _ (.inl rfl) e,c⟩
 | set S n=>obtain⟨g,i,j,t,e,c⟩:=x;exact⟨g,i,j,t,k _ _ (.inl rfl) e,c⟩
 | ins C G fs=>
  obtain⟨d,z,ne,e,m,⟨s,i,j,E,c⟩,r⟩:=x;exact⟨B _ d,z,ne,k _ _ (.inl rfl) e,m,⟨s,i,j,k _ _ (.inr d) E,c⟩,r⟩
 | own y=>obtain⟨g,e⟩:=x;exact⟨g,k _ _ (.inl rfl) e⟩
 | xd fs=>obtain⟨m,⟨s,i,j,e,c⟩,r⟩:=x;exact⟨m,⟨s,i,j,k _ _ (.inl rfl) e,c⟩,r⟩
 | rng lo I=>obtain⟨t,u,v,e⟩:=x;exact⟨t,u,v,k _ _ (.inl rfl) e⟩
 | frz g u F=>obtain⟨e,q⟩:=x;exact⟨k _ _ (.inl rfl) e,F q⟩
 | tbl ps=>
  have e:h.get? a=some {cls:=.none,data:=.fields ps }:=x;show h'.get? a=some {cls:=.none,data:=.fields ps };exact k a _ (.inl rfl) e
 | met f y=>
  have e:h.get? a=some (W.methodObj (.ref f) (.ref y)):=x;show h'.get? a=some (W.methodObj (.ref f) (.ref y));exact k a _ (.inl rfl) e
 | ext J=>obtain⟨p,⟨o,e⟩,st⟩:=x;exact⟨st _ _ p λo q=>k _ _ (.inl rfl) q,⟨o,k _ _ (.inl rfl) e⟩,st⟩
def HOk.lt(x:HOk P w H h)(e:H a=some o):a<h.objs.size:=(x a o e).lt
def HOk.fresh(x:HOk P w H h)(e:h.objs.size<=a):H a=none:=by
 cases q:H a with
 | none=>rfl
 | some u=>exact ZO (ZK (x.lt q) e) (lt_irrefl _)
def HOk.kept(x:HOk P w H h)(k:∀b u,h.get? b=some u->h'.get? b=some u):HOk P w H h':=λa o e=>
 (x a o e).stay (λb u _ q=>k b u q) (λ_ q=>q) λ_ _ q=>q
def HOk.laid(x:HOk P w H h)(k:∀b u,h.get? b=some u->h'.get? b=some u)(g:h.objs.size<=a)(new:ObjOk P w (aJ H a o) h' a o):HOk P w (aJ H a o) h':=λb u e=>by
 have d:=x.fresh g;by_cases f:b=a
 ·subst f;rw[aA]at e;cases e;exact new
 ·rw[aD f]at e;exact(x b u e).stay (λc v _ q=>k c v q) (λc q=>by rw[aD (aB q d)];exact q) λc i q=>by rw[aD (aB q d)];exact q
end
def Rd(H:Hp)(a:ZT)(u:HO):Prop:=H a=some u∨∃o,H a=some (.frz o u)
def Rd.of{H:Hp}{a:ZT}{u:HO}(h:H a=some u):Rd H a u:=.inl h
def Rd.ok{P:Program}{w:World}{H:Hp}{h:Heap}{a:ZT}{u:HO}(r:Rd H a u)(x:HOk P w H h):ObjOk P w H h a u:=by
 rcases r with r|⟨o,r⟩
 ·exact x a u r
 ·obtain⟨_,q⟩:=x a _ r;exact q
def Nu:Option HO->Prop
 | some (.lst _)=>True
 | some (.dK _)=>True
 | some (.dT _)=>True
 | some (.set _ _)=>True
 | some (.ins _ _ _)=>True
 | some (.ext _)=>True
 | _=>False
section
variable {P:Program}{w:World}{H:Hp}{h h':Heap}{x e:ZT}{o':HO}
def HOk.write(ok:HOk P w H h)(a:Nu (H x))(i:e=x∨H e=some (.own x))(k:∀b u,b≠e->h.get? b=some u->h'.get? b=some u)(m:∃u,h'.get? e=some u)(new:ObjOk P w (aJ H x o') h' x o'):HOk P w (aJ H x o') h':=λb u q=>by
 have j:∀c y,H c=some (.own y)->c≠x:=λc y r z=>by subst z;rw[r]at a;exact a
 have n:∀c d,H c=some (.tup d)->c≠x:=λc d r z=>by subst z;rw[r]at a;exact a
 by_cases f:b=x
 ·subst f;rw[aA]at q;cases q;exact new
 ·rw[aD f]at q;by_cases g:b=e
  ·have l:H b=some (.own x):=by
    rcases i with z|z
    ·exact ZO (g.trans z) f
    ·rw[g];exact z
   rw[q]at l;cases l;obtain⟨v,o⟩:=m;exact⟨v,by rw[g];exact o⟩
  ·refine(ok b u q).stay (λc v hc r=>k c v ?_ r) (λc r=>by rw[aD (j c b r)];exact r) λc d r=>by rw[aD (n c d r)];exact r
   rcases hc with rfl|hc
   ·exact g
   ·rintro rfl;rcases i with z|z
    ·exact j c b hc z
    ·rw[hc]at z;cases z;exact f rfl
end
structure Un(fs ex:List ZT)(H H':Hp)(h h':Heap):Prop where
 keep:∀b o,h.get? b=some o->H b=none->b∉fs->b∉ex->h'.get? b=some o
 slot:∀b o,h.get? b=some o->H b=none->b∈fs->b∉ex->∃sl,h'.get? b=some {o with slots:=sl }
 free:∀b o,h.get? b=some o->H b=none->b∉ex->H' b=none
 there:∀b o,h.get? b=some o->b∉ex->∃o',h'.get? b=some o'
 tups:∀b xs,H b=some (.tup xs)->H' b=some (.tup xs)
 frzs:∀b o u,H b=some (.frz o u)->H' b=some (.frz o u)
 tbls:∀b ps,H b=some (.tbl ps)->∃more,H' b=some (.tbl (ps++more))
section
variable {fs JE ex WY:List ZT}{H H1 H2:Hp}{h h1 h2 h':Heap}{a x e:ZT}{o:HO}
def Un.any(u:Un fs ex H H1 h h1){b:ZT}{c:Obj}(q:h.get? b=some c)(n:H b=none)(d:b∉ex):∃sl,h1.get? b=some {c with slots:=sl }:=by
 by_cases f:b∈fs
 ·exact u.slot b c q n f d
 ·exact⟨c.slots,u.keep b c q n f d⟩
def Un.kept(k:∀b u,h.get? b=some u->h'.get? b=some u):Un fs ex H H h h':=
 ⟨λb c q _ _ _=>k b c q,λb c q _ _ _=>⟨c.slots,k b c q⟩,λ_ _ _ n _=>n,λb c q _=>⟨c,k b c q⟩,λ_ _ q=>q,λ_ _ _ q=>q,λ_ ps q=>⟨#[],by rw[q];simp⟩⟩
def Un.refl:Un fs ex H H h h:=Un.kept λ_ _ q=>q
def Un.laid(k:∀b u,h.get? b=some u->h'.get? b=some u)(d:h.objs.size<=a)(c:H a=none):Un fs ex H (aJ H a o) h h' where
 keep:=λb u q _ _ _=>k b u q
 slot:=λb u q _ _ _=>⟨u.slots,k b u q⟩
 free:=λb u q n _=>by rw[aD (ne_of_lt (ZK (Heap.lt_size q) d))];exact n
 there:=λb u q _=>⟨u,k b u q⟩
 tups:=λb f q=>by rw[aD (aB q c)];exact q
 frzs:=λb u f q=>by rw[aD (aB q c)];exact q
 tbls:=λb ps q=>⟨#[],by rw[aD (aB q c),q];simp⟩
def Un.write(c:Nu (H x))(j:e=x∨H e=some (.own x))(k:∀b u,b≠e->h.get? b=some u->h'.get? b=some u)(l:∃u,h'.get? e=some u):Un fs ex H (aJ H x o) h h':=by
 have f:∀b,H b=none->b≠x:=λb n z=>by subst z;rw[n]at c;exact c
 have g:∀b,H b=none->b≠e:=λb n z=>by
  subst z;rcases j with r|r
  ·exact f b n r
  ·rw[n]at r;cases r
 have d:∀b u,H b=some u->¬ Nu (some u)->b≠x:=λb u q nm z=>by subst z;rw[q]at c;exact nm c
 refine⟨λb u q n _ _=>k b u (g b n) q,λb u q n _ _=>⟨u.slots,k b u (g b n) q⟩,λb u q n _=>by rw[aD (f b n)];exact n,λb u q _=>?_,
  λb m q=>by rw[aD (d b _ q λz=>z)];exact q,λb u m q=>by rw[aD (d b _ q λz=>z)];exact q,λb ps q=>⟨#[],by rw[aD (d b _ q λz=>z),q];simp⟩⟩
 by_cases i:b=e
 ·subst i;exact l
 ·exact⟨u,k b u i q⟩
end
def Rb(h:Heap)(H:Hp):List Addr:=(List.range h.objs.size).filter λa=>(H a).isSome
def nB(h:Heap)(H:Hp):Heap:=W.hideAll h (Rb h H)
def uP(h:Heap)(H:Hp):(nB h H).objs.size=h.objs.size:=W.hideAll_size _ _
def wS{h:Heap}{H:Hp}{b:ZT}{o:Obj}(e:h.get? b=some o)(n:H b=none):(nB h H).get? b=some o:=
 W.hideAll_get _ e λa=>by
  have q:(H b).isSome=true:=(mem_filter.mp a).2;rw[n]at q;simp at q
def By{h:Heap}{H:Hp}{b:ZT}{o:Obj}(e:(nB h H).get? b=some o):h.get? b=some o/\H b=none:=by
 have a:h.get? b=some o:=W.of_hideAll (Rb h H) e;refine⟨a,?_⟩
 cases q:H b with
 | none=>rfl
 | some x=>
  have c:b∈Rb h H:=mem_filter.mpr ⟨mem_range.mpr (Heap.lt_size a),by simp[q]⟩;have z:(nB h H).get? b=none:=W.hideAll_none (Rb h H) c;rw[z]at e;cases e
structure Mod(K:W.Frag)(mg:Z7)(base:Heap):Prop where
 kin:K.In base
 glob:base.Ns mainGlobals mg
 blt:∃mb,base.Ns builtinsNs mb/\∀x:Str,x≠"__name__"->mb x=bootBuiltins x
 nolimit:base.NoLimit
structure Cx where
 prog:Program
 w:World
 K:W.Frag
 mg:Str->Option Value
 base:Heap
 A:Around
 N:List Str
 s₀:Shared
 H₀:Hp
 env:Env
 outer:List Env
 stack:List Env
 ex:List Addr
 fn:Str->Bool
 calm:Bool
 pn:List (ZT×Obj)
 xe:ZS->ZR->Prop
def wU(l:List Env):List Addr:=l.filterMap (·.frame)
abbrev Cx.fs(X:Cx):List Addr:=wU X.outer
def Hw(sc:Scope)(x:Str):Prop:=sc.names.lookup x=some .local∨sc.names.lookup x=some .cell∨sc.names.lookup x=some .free
def Ge(sc:Scope)(x:Str):Prop:=sc.names.lookup x=some .local∨sc.names.lookup x=some .cell
def Rt(env:Env)(h:Heap)(m:Z7)(x:Str)(u:ZS):Prop:=
 (env.kindOf x=some .local/\m x=some u)∨((env.kindOf x=some .cell∨env.kindOf x=some .free)/\∃c,env.cells.lookup x=some c/\h.IsCell c (some u))
structure Cx.Ok(X:Cx):Prop where
 mod:Mod X.K X.mg X.base
 kind:X.env.scope.kind=.function
 glob:X.env.globals=mainGlobals
 blt:X.env.builtins=builtinsNs
 above:X.s₀.heap.objs.size<=X.env.locals
 inj:∀x y c,X.env.cells.lookup x=some c->X.env.cells.lookup y=some c->x=y
 has:∀x,(X.env.kindOf x=some .cell∨X.env.kindOf x=some .free)->∃c,X.env.cells.lookup x=some c
 cab:∀x c,X.fn x=true->X.env.cells.lookup x=some c->X.s₀.heap.objs.size<=c
 hd:X.calm=true->X.A.handled=none
 frames:X.A.frames=some X.stack
 stk:X.stack=X.outer∨(X.stack=X.env::X.outer/\X.env.frame=some X.env.locals)
 exf:∀b∈X.ex,b≠X.env.locals/\∀x c,X.env.cells.lookup x=some c->c≠b
 bs:∀b o,X.base.get? b=some o->X.s₀.heap.get? b=some o/\X.H₀ b=none
 bsz:X.base.objs.size<=X.s₀.heap.objs.size
 noex:∀b o,X.base.get? b=some o->b∉X.ex
 exfs:∀b∈X.ex,b∉X.fs
 funs:X.s₀.heap.FunFrames X.base X.outer
 frf:∀b∈X.fs,X.H₀ b=none
structure Inv(X:Cx)(pins:Z9)(σ:List (Option V))(H:Hp)(s:ZR):Prop where
 ok:X.Ok
 os:s.os=X.s₀.os
 bare:AllBare s.gens
 base:Un X.fs X.ex X.H₀ H X.s₀.heap s.heap
 loc:∃m,s.heap.Ns X.env.locals m/\∀(i:Nat)(x:Str)(v:V),X.N[i]?=some x->σ[i]?=some (some v)->Hw X.env.scope x->∃u,RelV v u/\Rt X.env s.heap m x u
 cell:∀x c,X.env.cells.lookup x=some c->∃v,s.heap.IsCell c v
 free:H X.env.locals=none
 freeC:∀x c,X.env.cells.lookup x=some c->H c=none
 pin:∀p∈X.pn++pins,s.heap.get? p.1=some p.2/\H p.1=none/\p.1≠X.env.locals/\p.1∉X.fs/\∀v,p.2.data≠.cell v
 hok:HOk X.prog X.w H s.heap
 len:σ.length=X.N.length
section
variable {X:Cx}{pins:Z9}{σ:List (Option V)}{H H':Hp}{s:ZR}{h':Heap}
def Cx.Ok.nofr(ok:X.Ok){b:ZT}{o:Obj}(e:X.base.get? b=some o):b∉X.fs:=λa=>by
 have:=(ok.funs.mem a).1;rw[e]at this;cases this
def Inv.bs(I:Inv X pins σ H s):∀b o,X.base.get? b=some o->s.heap.get? b=some o/\H b=none:=λb o e=>
 ⟨I.base.keep b o (I.ok.bs b o e).1 (I.ok.bs b o e).2 (I.ok.nofr e) (I.ok.noex b o e),I.base.free b o (I.ok.bs b o e).1 (I.ok.bs b o e).2 (I.ok.noex b o e)⟩
def Inv.bk(I:Inv X pins σ H s):∀b o,X.base.get? b=some o->s.heap.get? b=some o:=λb o e=>(I.bs b o e).1
def Inv.mod(I:Inv X pins σ H s):Mod X.K X.mg X.base:=I.ok.mod
def Inv.kIn(I:Inv X pins σ H s):X.K.In s.heap:=I.ok.mod.kin.keeps I.bk
def Inv.fr(I:Inv X pins σ H s):∃m,Fr X.base X.env.locals s.heap m:=
 let ⟨m,a,_⟩:=I.loc
 ⟨m,a,I.bk,eJ I.ok.bsz I.ok.above⟩
def Inv.lt(I:Inv X pins σ H s):X.env.locals<s.heap.objs.size:=let ⟨_,a,_⟩:=I.loc;a.lt
def Inv.sz(I:Inv X pins σ H s):X.s₀.heap.objs.size<=s.heap.objs.size:=eJ I.ok.above (le_of_lt I.lt)
def Inv.nofs(I:Inv X pins σ H s){a:ZT}(h:s.heap.objs.size<=a):a∉X.fs:=λb=>by
 obtain⟨_,o,c,_⟩:=I.ok.funs.mem b;exact ZO (ZK (Heap.lt_size c) (eJ I.sz h)) (lt_irrefl _)
def Inv.cne(I:Inv X pins σ H s):∀x c,X.env.cells.lookup x=some c->c≠X.env.locals:=λx c e z=>by
 obtain⟨v,o,a,b⟩:=I.cell x c e;obtain⟨m,⟨g,h,i,d,f,_⟩,_⟩:=I.loc;rw[z,d]at a;cases a;rw[f]at b;cases b
def Inv.funs(I:Inv X pins σ H s):s.heap.FunFrames X.base X.outer:=by
 have all:∀(l:List Env),(∀b∈wU l,b∈X.fs)->X.s₀.heap.FunFrames X.base l->s.heap.FunFrames X.base l:=by
  intro l;induction l with
  | nil=>intro _ _;trivial
  | cons p r g=>
   intro f h;obtain⟨i,⟨L,o,a,j,k,m⟩,n⟩:=h;have c:L∈X.fs:=f L (by unfold wU;rw[ZH,a];exact dI);obtain⟨sl,e⟩:=I.base.slot L o k (I.ok.frf L c) c λz=>I.ok.exfs L z c
   exact⟨i,⟨L,_,a,j,e,m⟩,g (λb d=>f b (by unfold wU;rw[ZH,a];exact jE _ d)) n⟩
 exact all X.outer (λ_ d=>d) I.ok.funs
def Inv.stack(I:Inv X pins σ H s):s.heap.FunFrames X.base X.stack:=by
 rcases I.ok.stk with e|⟨e,a⟩
 ·rw[e];exact I.funs
 ·rw[e];obtain⟨m,b,_⟩:=I.loc;refine .cons (by rw[I.ok.kind];decide) a b ?_ I.funs;exact Heap.get?_none_of_le (eJ I.ok.bsz I.ok.above)
def Inv.stkSub(I:Inv X pins σ H s):∀b∈wU X.stack,b∈X.env.locals::X.fs:=λb a=>by
 rcases I.ok.stk with e|⟨e,c⟩
 ·rw[e]at a;exact jE _ a
 ·rw[e]at a;unfold wU at a;rw[ZH,c]at a;exact a
def Inv.stkFree(I:Inv X pins σ H s):∀b∈wU X.stack,H b=none:=λb a=>by
 rcases mem_cons.mp (I.stkSub b a) with e|a
 ·rw[e];exact I.free
 ·obtain⟨_,o,c,_⟩:=I.ok.funs.mem a;exact I.base.free b o c (I.ok.frf b a) λz=>I.ok.exfs b z a
def Inv.step{g':Array GenState}{t':Nat}{d':Drawn}{ch:List ZT}(I:Inv X pins σ H s)(j:∀b∈ch,(b∈X.ex∨X.s₀.heap.objs.size<=b)/\b≠X.env.locals/\(∀x c,X.env.cells.lookup x=some c->c≠b)/\∀p∈X.pn++pins,p.1≠b)(keep:∀b o,b≠X.env.locals->b∉X.fs->b∉ch->s.heap.get? b=some o->H b=none->h'.get? b=some o)(slot:∀b o,b≠X.env.locals->b∈X.fs->b∉ch->s.heap.get? b=some o->H b=none->∃sl,h'.get? b=some {o with slots:=sl })(free:∀b o,b∉ch->s.heap.get? b=some o->H b=none->H' b=none)(J:∀b o,b∉ch->s.heap.get? b=some o->∃t,h'.get? b=some t)(K:∀b xs,H b=some (.tup xs)->H' b=some (.tup xs))(L:∀b o u,H b=some (.frz o u)->H' b=some (.frz o u))(M:∀b ps,H b=some (.tbl ps)->∃more,H' b=some (.tbl (ps++more)))(O:∀m,s.heap.Ns X.env.locals m->h'.Ns X.env.locals m)(N:HOk X.prog X.w H' h')(P:AllBare g') :
  Inv X pins σ H' {s with heap:=h',gens:=g',drawn:=d',toks:=t' }:=by
 have D:∀b o,X.s₀.heap.get? b=some o->b≠X.env.locals:=λb o e=>ne_of_lt (ZK (Heap.lt_size e) I.ok.above)
 have A:∀b o,X.s₀.heap.get? b=some o->b∉X.ex->b∉ch:=λb o e a g=>by
  rcases(j b g).1 with z|z
  ·exact a z
  ·exact ZO (ZK (Heap.lt_size e) z) (lt_irrefl _)
 have C:∀x c,X.env.cells.lookup x=some c->∀v,s.heap.IsCell c v->h'.IsCell c v:=λx c e v ⟨o,h,B⟩=>by
  have w:c∉ch:=λz=>(j c z).2.2.1 x c e rfl
  by_cases E:c∈X.fs
  ·obtain⟨sl,q⟩:=slot c o (I.cne x c e) E w h (I.freeC x c e);exact⟨_,q,B⟩
  ·exact⟨o,keep c o (I.cne x c e) E w h (I.freeC x c e),B⟩
 refine⟨I.ok,I.os,P,⟨λb o e n g a=>?_,λb o e n g a=>?_,λb o e n a=>?_,λb o e a=>?_,λb xs e=>K b xs (I.base.tups b xs e),λb o xs e=>L b o xs (I.base.frzs b o xs e),λb ps e=>?_⟩,?_,λx c e=>?_,?_,λx c e=>?_,λp F=>?_,N,I.len⟩
 ·exact keep b o (D b o e) g (A b o e a) (I.base.keep b o e n g a) (I.base.free b o e n a)
 ·obtain⟨sl,f⟩:=I.base.slot b o e n g a;obtain⟨Q,y⟩:=slot b _ (D b o e) g (A b o e a) f (I.base.free b o e n a);exact⟨Q,y⟩
 ·obtain⟨t,f⟩:=I.base.there b o e a;exact free b t (A b o e a) f (I.base.free b o e n a)
 ·obtain⟨t,f⟩:=I.base.there b o e a;exact J b t (A b o e a) f
 ·obtain⟨R,f⟩:=I.base.tbls b ps e;obtain⟨m2,y⟩:=M b _ f;exact⟨R++m2,by rw[y,Array.append_assoc]⟩
 ·obtain⟨m,S,T⟩:=I.loc;refine⟨m,O m S,λi x v f y U=>?_⟩;obtain⟨u,r,l⟩:=T i x v f y U;refine⟨u,r,?_⟩;rcases l with l|⟨k,c,e,z⟩
  ·exact .inl l
  ·exact .inr ⟨k,c,e,C x c e _ z⟩
 ·obtain⟨v,z⟩:=I.cell x c e;exact⟨v,C x c e v z⟩
 ·obtain⟨m,⟨o,_,_,h,_⟩,_⟩:=I.loc;exact free _ o (λz=>(j _ z).2.1 rfl) h I.free
 ·obtain⟨v,o,h,B⟩:=I.cell x c e;exact free c o (λz=>(j c z).2.2.1 x c e rfl) h (I.freeC x c e)
 ·obtain⟨e,n,ne,G,d⟩:=I.pin p F;have w:p.1∉ch:=λz=>(j p.1 z).2.2.2 p F rfl
  exact⟨keep p.1 p.2 ne G w e n,free p.1 p.2 w e n,ne,G,d⟩
def Inv.un{t':Nat}(I:Inv X pins σ H s)(u:Un X.fs [] H H' s.heap h')(f:HOk X.prog X.w H' h'):Inv X pins σ H' {s with heap:=h',toks:=t' }:=by
 obtain⟨m,⟨o,l,p,c,r⟩,_⟩:=id I.loc;obtain⟨sl,g⟩:=u.any c I.free Zs;exact I.step (g':=s.gens) (d':=s.drawn) (ch:=[]) (λ_ z=>nomatch z) (λb o _ a _ e n=>u.keep b o e n a Zs) (λb o _ a _ e n=>u.slot b o e n a Zs) (λb o _ e n=>u.free b o e n Zs) (λb o _ e=>u.there b o e Zs) u.tups u.frzs u.tbls (λq h=>by
  obtain⟨t,i,j,d,k⟩:=h;rw[c]at d;cases d;exact⟨_,i,j,g,k⟩) f I.bare
def Inv.call{g':Array GenState}{t':Nat}{d':Drawn}{ch:List ZT}(I:Inv X pins σ H s)(u:Un (wU X.stack) ch H H' s.heap h')(i:HOk X.prog X.w H' h')(j:AllBare g')(f:∀b∈ch,(b∈X.ex∨X.s₀.heap.objs.size<=b)/\b≠X.env.locals/\(∀x c,X.env.cells.lookup x=some c->c≠b)/\∀p∈X.pn++pins,p.1≠b) :
  Inv X pins σ H' {s with heap:=h',gens:=g',drawn:=d',toks:=t' }:=by
 obtain⟨m,⟨o,w,y,g,r⟩,_⟩:=id I.loc;obtain⟨sl,d⟩:=u.any g I.free λz=>(f _ z).2.1 rfl
 exact I.step (ch:=ch) f (λb o d k a e n=>u.keep b o e n (λz=>(mem_cons.mp (I.stkSub b z)).elim d k) a) (λb o _ _ a e n=>u.any e n a) (λb o a e n=>u.free b o e n a) (λb o a e=>u.there b o e a) u.tups u.frzs u.tbls (λA l=>by
  obtain⟨B,q,t,h,v⟩:=l;rw[g]at h;cases h;exact⟨_,q,t,d,v⟩) i j
def Inv.turned{t':Nat}{it:ZT}(I:Inv X pins σ H s)(k:∀b o,b≠it->s.heap.get? b=some o->h'.get? b=some o)(g:H it=none)(d:it≠X.env.locals)(h:it∈X.ex∨X.s₀.heap.objs.size<=it)(i:∀x c,X.env.cells.lookup x=some c->c≠it)(j:∀p∈X.pn++pins,p.1≠it):Inv X pins σ H {s with heap:=h',toks:=t' }:=by
 have f:∀b u,H b=some u->b≠it:=λb u e z=>by rw[z,g]at e;cases e
 refine I.step (g':=s.gens) (d':=s.drawn) (ch:=[it]) (λb l=>?_) (λb o _ _ a e _=>k b o (λz=>a (by simp[z])) e) (λb o _ _ a e _=>⟨o.slots,k b o (λz=>a (by simp[z])) e⟩) (λ_ _ _ _ n=>n)
  (λb o a e=>⟨o,k b o (λz=>a (by simp[z])) e⟩) (λ_ _ e=>e) (λ_ _ _ e=>e) (λb ps e=>⟨#[],by rw[e];simp⟩) (λm t=>?_) (λb u e=>?_) I.bare
 ·have e:b=it:=by simpa using l
  subst e;exact⟨h,d,i,j⟩
 ·obtain⟨o,w,y,A,r⟩:=t;exact⟨o,w,y,k _ o (Ne.symm d) A,r⟩
 ·refine(I.hok b u e).stay (λc v a q=>k c v ?_ q) (λ_ q=>q) λ_ _ q=>q;rcases a with z|z
  ·rw[z];exact f b u e
  ·exact f c _ z
def Inv.tok(I:Inv X pins σ H s)(t:Nat):Inv X pins σ H {s with toks:=t }:=I.un (h':=s.heap) (t':=t) Un.refl I.hok
def Inv.kept{t':Nat}(I:Inv X pins σ H s)(k:∀b u,s.heap.get? b=some u->h'.get? b=some u):Inv X pins σ H {s with heap:=h',toks:=t' }:=I.un (Un.kept k) (I.hok.kept k)
def Inv.laid{a:ZT}{o:HO}{t':Nat}(I:Inv X pins σ H s)(k:∀b u,s.heap.get? b=some u->h'.get? b=some u)(c:s.heap.objs.size<=a)(new:ObjOk X.prog X.w (aJ H a o) h' a o) :
  Inv X pins σ (aJ H a o) {s with heap:=h',toks:=t' }:=I.un (Un.laid k c (I.hok.fresh c)) (I.hok.laid k c new)
def Inv.write{x e:ZT}{o:HO}{t':Nat}(I:Inv X pins σ H s)(a:Nu (H x))(c:e=x∨H e=some (.own x))(k:∀b u,b≠e->s.heap.get? b=some u->h'.get? b=some u)(d:∃u,h'.get? e=some u)(new:ObjOk X.prog X.w (aJ H x o) h' x o):Inv X pins σ (aJ H x o) {s with heap:=h',toks:=t' }:=I.un (Un.write a c k d) (I.hok.write a c k d new)
def Inv.weak{a:List (Option V)}(I:Inv X pins σ H s)(b:a.length=σ.length)(w:∀(i:Nat) v,a[i]?=some (some v)->σ[i]?=some (some v)):Inv X pins a H s:=
 ⟨I.ok,I.os,I.bare,I.base,let ⟨m,c,d⟩:=I.loc;⟨m,c,λi x v e f g=>d i x v e (w i v f) g⟩,I.cell,I.free,I.freeC,I.pin,I.hok,b.trans I.len⟩
def Inv.pins_of{a:Z9}(I:Inv X pins σ H s)(h:∀p∈a,s.heap.get? p.1=some p.2/\H p.1=none/\p.1≠X.env.locals/\p.1∉X.fs/\∀v,p.2.data≠.cell v):Inv X a σ H s:=
 ⟨I.ok,I.os,I.bare,I.base,I.loc,I.cell,I.free,I.freeC,λp b=>(Zma.mp b).elim (λz=>I.pin p (ZM _ z)) (h p),I.hok,I.len⟩
def oW{N:List Str}(c:N.Nodup){i j:Nat}{x:Str}(a:N[i]?=some x)(b:N[j]?=some x):i=j:=by
 obtain⟨f,d⟩:=Zgs.mp a;obtain⟨g,e⟩:=Zgs.mp b;exact(List.getElem_inj c).mp (d.trans e.symm)
def lP{a1:Model}{A:Around}{E:Z8}{i:Nat}{x:Str}{v:V}{u:ZS}{Q:Unit->ZR->Prop}(I:Inv X pins σ H s)(T:X.N.Nodup)(B:X.N[i]?=some x)(h:Ge X.env.scope x)(r:RelV v u)(a0:∀F,Inv X pins (σ.set i (some v)) H F->(∃a,Heap.SameBut a s.heap F.heap/\(a=X.env.locals∨X.env.cells.lookup x=some a))->Q () F)(hf:X.fn x=true∨X.env.scope.names.lookup x=some .local:=by first|exact .inl rfl|exact .inr rfl|assumption):wpAny a1 A (storeName X.env x u) Q E s:=by
 obtain⟨a2,G,U⟩:=id I.loc;have JF:(X.env.scope.kind == .class||(X.env.scope.kind == .module&&X.env.locals != X.env.globals))=false:=by rw[I.ok.kind];rfl
 have W:i<σ.length:=by rw[I.len];exact(Zgs.mp B).1
 have cne:=I.cne;have S:∀ {a:ZT}{h':Heap},(∃o,s.heap.get? a=some o/\H a=none)->Heap.SameBut a s.heap h'->HOk X.prog X.w H h':=λ{a h'} ha f b ob e=>by
  obtain⟨_,_,Y⟩:=ha;refine(I.hok b ob e).stay (λc C hc q=>(f.2 c ?_).trans q) (λ_ q=>q) λ_ _ q=>q;rintro rfl;rcases hc with rfl|hc
  ·rw[Y]at e;cases e
  ·rw[Y]at hc;cases hc
 rcases h with m|m
 ·refine wpAny_storeName_local m G (λh' SO f=>?_) JF;obtain⟨oL,_,_,SQ,_⟩:=id G;refine a0 _ ⟨I.ok,I.os,I.bare,⟨λb o e n t h=>?_,λb o e n t h=>?_,I.base.free,λb o e h=>?_,I.base.tups,I.base.frzs,I.base.tbls⟩,⟨_,SO,λj y J g l K=>?_⟩,λy c e=>?_,I.free,I.freeC,λp L=>?_,S ⟨oL,SQ,I.free⟩ f,by simpa using I.len⟩ ⟨_,f,.inl rfl⟩
  ·exact(f.2 b (ne_of_lt (ZK (Heap.lt_size e) I.ok.above))).trans (I.base.keep b o e n t h)
  ·obtain⟨sl,g⟩:=I.base.slot b o e n t h;exact⟨sl,(f.2 b (ne_of_lt (ZK (Heap.lt_size e) I.ok.above))).trans g⟩
  ·obtain⟨M,g⟩:=I.base.there b o e h;exact⟨M,(f.2 b (ne_of_lt (ZK (Heap.lt_size e) I.ok.above))).trans g⟩
  ·by_cases w:j=i
   ·subst w;rw[B]at g;cases g;rw[getElem?_set_self W]at l;cases l;exact⟨u,r,.inl ⟨m,Zs⟩⟩
   ·rw[getElem?_set_ne (Ne.symm w)]at l;obtain⟨N,O,q⟩:=U j y J g l K;refine⟨N,O,?_⟩;rcases q with⟨k,e⟩|⟨k,c,e,z⟩
    ·refine .inl ⟨k,?_⟩;have:y≠x:=λe=>w (oW T g (e▸B))
     simp[this,e]
    ·exact .inr ⟨k,c,e,z.sameBut f (cne y c e)⟩
  ·obtain⟨C,z⟩:=I.cell y c e;exact⟨C,z.sameBut f (cne y c e)⟩
  ·obtain⟨e,n,ne,P,d⟩:=I.pin p L;exact⟨(f.2 p.1 ne).trans e,n,ne,P,d⟩
 ·have R:X.fn x=true:=by
   rcases hf with z|z
   ·exact z
   ·rw[z]at m;cases m
  obtain⟨c,hc⟩:=I.ok.has x (.inl m);obtain⟨C,z⟩:=I.cell x c hc;refine wpAny_storeName_cell I.ok.kind m hc z (λh' Z f=>?_);obtain⟨oc,HB,JH⟩:=id z;refine a0 {s with heap:=h' } ⟨I.ok,I.os,I.bare,⟨λb o e n t h=>?_,λb o e n t h=>?_,I.base.free,λb o e h=>?_,I.base.tups,I.base.frzs,I.base.tbls⟩,⟨a2,G.sameBut f (Ne.symm (cne x c hc)),λj y J g l K=>?_⟩,λy D e=>?_,I.free,I.freeC,λp L=>?_,S ⟨oc,HB,I.freeC x c hc⟩ f,by simpa using I.len⟩ ⟨c,f,.inr hc⟩
  ·exact(f.2 b (ne_of_lt (ZK (Heap.lt_size e) (I.ok.cab x c R hc)))).trans (I.base.keep b o e n t h)
  ·obtain⟨sl,g⟩:=I.base.slot b o e n t h;exact⟨sl,(f.2 b (ne_of_lt (ZK (Heap.lt_size e) (I.ok.cab x c R hc)))).trans g⟩
  ·obtain⟨M,g⟩:=I.base.there b o e h;exact⟨M,(f.2 b (ne_of_lt (ZK (Heap.lt_size e) (I.ok.cab x c R hc)))).trans g⟩
  ·by_cases w:j=i
   ·subst w;rw[B]at g;cases g;rw[getElem?_set_self W]at l;cases l;exact⟨u,r,.inr ⟨.inl m,c,hc,Z⟩⟩
   ·rw[getElem?_set_ne (Ne.symm w)]at l;obtain⟨N,O,q⟩:=U j y J g l K;refine⟨N,O,?_⟩;rcases q with q|⟨k,D,e,z'⟩
    ·exact .inl q
    ·refine .inr ⟨k,D,e,z'.sameBut f ?_⟩;rintro rfl;exact w (oW T g (I.ok.inj _ _ _ e hc▸B))
  ·by_cases NW:D=c
   ·subst NW;exact⟨_,Z⟩
   ·obtain⟨w2,z2⟩:=I.cell y D e;exact⟨w2,z2.sameBut f NW⟩
  ·obtain⟨e,n,ne,P,d⟩:=I.pin p L;refine⟨(f.2 p.1 ?_).trans e,n,ne,P,d⟩;intro q;rw[q,HB]at e;have q':oc=p.2:=Option.some.inj e;exact d C (by rw[<- q'];exact JH)
def oX{M:Model}{A:Around}{E:Z8}{i:Nat}{x:Str}{v:V}{u:ZS}{Q:Unit->ZR->Prop}(I:Inv X pins σ H s)(b:X.N.Nodup)(c:X.N[i]?=some x)(d:Ge X.env.scope x)(r:RelV v u)(h:∀a,Inv X pins (σ.set i (some v)) H a->Q () a)(e:X.fn x=true∨X.env.scope.names.lookup x=some .local:=by first|exact .inl rfl|exact .inr rfl|assumption):wpAny M A (storeName X.env x u) Q E s:=
 lP I b c d r (λa f _=>h a f) e
def Inv.call'{a:ZR}{ch:List ZT}(I:Inv X pins σ H s)(f:a.os=s.os)(u:Un (wU X.stack) ch H H' s.heap a.heap)(d:HOk X.prog X.w H' a.heap)(g:AllBare a.gens)(h:∀b∈ch,(b∈X.ex∨X.s₀.heap.objs.size<=b)/\b≠X.env.locals/\(∀x c,X.env.cells.lookup x=some c->c≠b)/\∀p∈X.pn++pins,p.1≠b):Inv X pins σ H' a:=by
 obtain⟨h',g',d',t',i⟩:=a;have e:i=s.os:=f;subst e;exact I.call (g':=g') (t':=t') (d':=d') u d g h
end
abbrev XK:=Value->Option ZT->Hp->Prop
abbrev St:=List (Option V)
abbrev VK:=V->Hp->Prop
abbrev TE:=St->Hp->VK->Prop
abbrev TT:=St->Hp->(Bool->Hp->Prop)->Prop
abbrev TA:=St->Hp->(List V->Hp->Prop)->Prop
structure iC where
 nx:St->Hp->Prop
 rt:VK
 bk:St->Hp->Prop:=λ_ _=>False
 ct:St->Hp->Prop:=λ_ _=>False
abbrev TS:=iC->St->Hp->Prop
def EP(X:Cx)(b:Z9)(d:St)(Q:VK)(u:ZS)(c:ZR):Prop:=∃v a,Inv X b d a c/\RelV v u/\Q v a
def TP(X:Cx)(c:Z9)(e:St)(Q:Bool->Hp->Prop)(b:Bool)(d:ZR):Prop:=∃a,Inv X c e a d/\Q b a
def AP(X:Cx)(b:Z9)(d:St)(Q:List V->Hp->Prop)(us:List ZS)(c:ZR):Prop:=∃vs a,Inv X b d a c/\Vals vs us/\Q vs a
def SP(X:Cx)(c:Z9)(D:iC)(f:Flow)(d:ZR):Prop:=
 match f with
 | .next=>∃ b a,Inv X c b a d/\D.nx b a
 | .brk=>∃ b a,Inv X c b a d/\D.bk b a
 | .cont=>∃ b a,Inv X c b a d/\D.ct b a
 | .ret u=>∃v b a,Inv X c b a d/\RelV v u/\D.rt v a
def PE(X:Cx)(e:Expr)(t:TE):Prop:=
 ∀(b:Z9)(s:ZR)(a:St)(H:Hp)(Q:VK),Inv X b a H s->t a H Q->wpAny (model X.prog X.w) X.A (eval e X.env) (EP X b a Q) X.xe s
def PT(X:Cx)(e:Expr)(t:TT):Prop:=
 ∀(b:Z9)(s:ZR)(a:St)(H:Hp)(Q:Bool->Hp->Prop),Inv X b a H s->t a H Q->wpAny (model X.prog X.w) X.A (isTrue e X.env (eval e X.env)) (TP X b a Q) X.xe s
def PW(X:Cx)(e:Expr)(t:TT):Prop:=
 ∀(whole:Sem Value)(b:Z9)(s:ZR)(a:St)(H:Hp)(Q:Bool->Hp->Prop),Inv X b a H s->t a H Q->wpAny (model X.prog X.w) X.A (isTrue e X.env whole) (TP X b a Q) X.xe s
def PW.pt{X:Cx}{e:Expr}{t:TT}(h:PW X e t):PT X e t:=h _
def PA(X:Cx)(d:List Expr)(t:TA):Prop:=
 ∀(c:Pos)(b:Z9)(s:ZR)(a:St)(H:Hp)(Q:List V->Hp->Prop),Inv X b a H s->t a H Q->wpAny (model X.prog X.w) X.A (spliced (backTo c (starEach d X.env))) (AP X b a Q) X.xe s
def PS(X:Cx)(st:Stmt)(t:TS):Prop:=
 ∀(a:Z9)(s:ZR)(b:St)(H:Hp)(D:iC),Inv X a b H s->t D b H->wpAny (model X.prog X.w) X.A (exec st X.env) (SP X a D) X.xe s
def PSs(X:Cx)(st:List Stmt)(t:TS):Prop:=
 ∀(a:Z9)(s:ZR)(b:St)(H:Hp)(D:iC),Inv X a b H s->t D b H->wpAny (model X.prog X.w) X.A (execs st X.env) (SP X a D) X.xe s
def bI{c:Type}{t:Sem c}{Q b:c->ZR->Prop}{M:Model}{A:Around}{E:Z8}{s:ZR}(h:wpAny M A t Q E s)(d:∀a s,Q a s->b a s):wpAny M A t b E s:=wpAny_mono h d λ_ _ x=>x
section
variable {X:Cx}
def Ui{a b:Expr}{j k:TE}(o:PE X a j)(p:PE X b k){e:Z9}{s:ZR}{d:St}{H:Hp}{R:V->V->Hp->Prop}(I:Inv X e d H s)(h:j d H λx i=>k d i λy c=>R x y c){l:Type}{Q:l->ZR->Prop}{f:ZS->ZS->Sem l}(q:∀v u g x y c,Inv X e d c g->RelV x v->RelV y u->R x y c->wpAny (model X.prog X.w) X.A (f v u) Q X.xe g) :
  wpAny (model X.prog X.w) X.A (eval a X.env) (λv m=>wpAny (model X.prog X.w) X.A (eval b X.env) (λu n=>wpAny (model X.prog X.w) X.A (f v u) Q X.xe n) X.xe m) X.xe s:=by
 refine bI (o e s d H _ I h) ?_;rintro v r ⟨x,i,t,w,z⟩;refine bI (p e r d i _ t z) ?_;rintro u g ⟨y,c,A,B,C⟩;exact q v u g x y c A w B C
def Hx(i:Nat):TE:=λa H Q=>∃v,a[i]?=some (some v)/\Q v H
def tC(v:V):TE:=λ_ H Q=>Q v H
def Hy{i:Nat}{x:Str}{pos:Pos}(j:X.N[i]?=some x)(k:Hw X.env.scope x)(b:(x==("__debug__":Str))=false:=by decide)(n:(x==("__classdict__":Str))=false:=by decide):PE X (.Name x pos) (Hx i):=by
 intro g s t H Q I h;obtain⟨v,e,h⟩:=h;obtain⟨m,o,p⟩:=I.loc;obtain⟨u,r,l⟩:=p i x v j e k;have fin:EP X g t Q u s:=⟨v,H,I,r,h⟩;rcases l with⟨a,q⟩|⟨a,c,d,f⟩
 ·exact wpAny_Name (wpAny_loadName_local I.ok.kind a o q fin) b
 ·rcases a with a|a
  ·exact wpAny_Name (wpAny_loadName_cell I.ok.kind a d f fin) b
  ·exact wpAny_Name (wpAny_loadName_free I.ok.kind a d f fin n) b
def Ia{i j pos}:PE X (.Constant (.int i) j pos) (tC (.int i)):=λ_ _ _ H _ I h=>wpAny_Constant_int ⟨.int i,H,I.tok _,⟨_,rfl⟩,h⟩
def Nv{b j pos}:PE X (.Constant (.bool b) j pos) (tC (.bl b)):=λ_ _ _ H _ I h=>Constant_bool ⟨.bl b,H,I,rfl,h⟩
def Ib{j pos}:PE X (.Constant .none j pos) (tC .non):=λ_ _ _ H _ I h=>Constant_none ⟨.non,H,I,rfl,h⟩
def Ic{x j pos}:PE X (.Constant (.str x) j pos) (tC (.str x)):=λ_ _ _ H _ I h=>Calls.Constant_str ⟨.str x,H,I.tok _,⟨_,rfl⟩,h⟩
def Gl(X:Cx)(x:Str):Prop:=X.env.kindOf x=some .globalImplicit
def nD{E:Z8}{a:Z9}{s:ZR}{e:St}{H:Hp}{x:Str}{u:ZS}{pos:Pos}{Q:Z8}(I:Inv X a e H s)(b:Gl X x)(c:X.mg x=some u)(h:Q u s)(d:(x==("__debug__":Str))=false:=by decide):wpAny (model X.prog X.w) X.A (eval (.Name x pos) X.env) Q E s:=
 Calls.Name_function_global I.ok.kind b (Calls.loadGlobal_global (by rw[I.ok.glob];exact I.mod.glob.keeps I.bk) c h) d
def jS{E:Z8}{a:Z9}{s:ZR}{j:St}{H:Hp}{x:Str}{u:ZS}{pos:Pos}{Q:Z8}(I:Inv X a j H s)(b:Gl X x)(c:X.mg x=none)(d:bootBuiltins x=some u)(h:Q u s)(e:x≠"__name__":=by decide)(f:(x==("__debug__":Str))=false:=by decide):wpAny (model X.prog X.w) X.A (eval (.Name x pos) X.env) Q E s:=by
 obtain⟨k,g,i⟩:=I.mod.blt;exact Calls.Name_function_global I.ok.kind b (Calls.loadGlobal_builtin (by rw[I.ok.glob];exact I.mod.glob.keeps I.bk) c (by rw[I.ok.blt];exact g.keeps I.bk) ((i x e).trans d) h) f
def sK{x:Str}{v:V}{u:ZS}{pos:Pos}(a:Gl X x)(b:X.mg x=some u)(r:RelV v u)(c:(x==("__debug__":Str))=false:=by decide):PE X (.Name x pos) (tC v):=
 λ_ _ _ H _ I h=>nD I a b ⟨v,H,I,r,h⟩ c
def Bz{x:Str}{v:V}{u:ZS}{pos:Pos}(a:Gl X x)(b:X.mg x=none)(c:bootBuiltins x=some u)(r:RelV v u)(d:x≠"__name__":=by decide)(e:(x==("__debug__":Str))=false:=by decide):PE X (.Name x pos) (tC v):=
 λ_ _ _ H _ I h=>jS I a b c ⟨v,H,I,r,h⟩ d e
variable {a b:Expr}{ta tb:TE}{pos:Pos}
def PC(X:Cx)(op:CmpOp)(a b:Expr)(t:TE):Prop:=
 ∀(d:Z9)(s:ZR)(c:St)(H:Hp)(Q:VK),Inv X d c H s->t c H Q →
  wpAny (model X.prog X.w) X.A (eval a X.env) (λv e=>wpAny (model X.prog X.w) X.A (eval b X.env) (λu f=>wpAny (model X.prog X.w) X.A (compareOp op v u) (EP X d c Q) X.xe f) X.xe e) X.xe s
def tB(t:TE):TT:=λe H Q=>t e H λx d=>∃c,x=.bl c/\Q c d
def Ru{op:CmpOp}{t:TE}(h:PC X op a b t)(e:behindInMarks op b=false:=by first|exact o _ Zd Zd|rfl):PT X (.Compare a [op] [b] pos) (tB t):=by
 intro f s n H Q I g;refine wpAny_isTrue_Compare1 (bI (h f s n H _ I g) λv p e=>bI e λu r i=>bI i ?_) e;rintro c w ⟨x,j,k,l,m⟩;obtain⟨d,rfl,q⟩:=m;cases l;exact wpAny_truthy_bool ⟨j,k,q⟩
def Id{e:Expr}{t:TE}(h:PE X e t)(f:∀whole,isTrue e X.env whole=(do let v←whole;standAt e.pos;holding [v] (truthy v)):=by intro _;rfl):PT X e (tB t):=by
 intro c s m H Q I g;refine isTrue_plain (bI (h c s m H _ I g) ?_) (f _);rintro v n ⟨x,i,j,k,l⟩;obtain⟨d,rfl,q⟩:=l;cases k;exact wpAny_truthy_bool ⟨i,j,q⟩
variable {tA xu:TT}{rest:List Expr}
def Nw(t u:TT):TT:=λe H Q=>t e H λc d=>if c=true then u e d Q else Q false d
def Tn(t u:TT):TT:=λe H Q=>t e H λc d=>if c=true then Q true d else u e d Q
def Ny(t:TT):TT:=λe H Q=>t e H λc d=>Q (!c) d
def Ca(f:PT X a tA):PW X (.BoolOp .And [a] pos) tA:=by
 intro i d s g H Q I h;refine isTrue_and (bI (f d s g H Q I h) λc j e=>?_)
 cases c with
 | true=>exact isTrue_and_nil e
 | false=>exact e
def Ie(f:PT X a tA):PW X (.BoolOp .Or [a] pos) tA:=by
 intro i d s g H Q I h;refine isTrue_or (bI (f d s g H Q I h) λc j e=>?_)
 cases c with
 | false=>exact isTrue_or_nil e
 | true=>exact e
def Ig(j:PT X a tA)(k:PW X (.BoolOp .And (b::rest) pos) xu):PW X (.BoolOp .And (a::b::rest) pos) (Nw tA xu):=by
 intro l d s i H Q I h;refine isTrue_and (bI (j d s i H _ I h) ?_);rintro c m ⟨e,f,g⟩
 cases c with
 | true=>exact k l d m i e Q f g
 | false=>exact⟨e,f,g⟩
def Nz(j:PT X a tA)(k:PW X (.BoolOp .Or (b::rest) pos) xu):PW X (.BoolOp .Or (a::b::rest) pos) (Tn tA xu):=by
 intro l d s i H Q I h;refine isTrue_or (bI (j d s i H _ I h) ?_);rintro c m ⟨e,f,g⟩
 cases c with
 | true=>exact⟨e,f,g⟩
 | false=>exact k l d m i e Q f g
def Ih(e:PT X a tA):PT X (.UnaryOp .Not a pos) (Ny tA):=by
 intro d s g H Q I h;exact isTrue_not (e d s g H (λc f=>Q (!c) f) I h)
def wV(ta tb:TE):TE:=λe H Q=>ta e H λx d=>∃c,x=.bl c/\if c=true then tb e d Q else Q (.bl false) d
def Ii(ta tb:TE):TE:=λe H Q=>ta e H λx d=>∃c,x=.bl c/\if c=true then Q (.bl true) d else tb e d Q
def Ij{op}{t:TE}(h:PE X a t):PE X (.BoolOp op [a] pos) t:=λc s e H Q I d=>BoolOp_one (h c s e H Q I d)
def Ik(j:PE X a ta)(k:PE X (.BoolOp .And (b::rest) pos) tb):PE X (.BoolOp .And (a::b::rest) pos) (wV ta tb):=by
 intro e s i H Q I h;refine BoolOp_and (bI (j e s i H _ I h) ?_);rintro v l ⟨x,f,g,m,d⟩;obtain⟨c,rfl,d⟩:=d;cases m;refine wpAny_truthy_bool ?_
 cases c with
 | true=>exact k e l i f Q g d
 | false=>exact⟨.bl false,f,g,rfl,d⟩
def Oa(j:PE X a ta)(k:PE X (.BoolOp .Or (b::rest) pos) tb):PE X (.BoolOp .Or (a::b::rest) pos) (Ii ta tb):=by
 intro e s i H Q I h;refine BoolOp_or (bI (j e s i H _ I h) ?_);rintro v l ⟨x,f,g,m,d⟩;obtain⟨c,rfl,d⟩:=d;cases m;refine wpAny_truthy_bool ?_
 cases c with
 | false=>exact k e l i f Q g d
 | true=>exact⟨.bl true,f,g,rfl,d⟩
def To(t:TT)(ta tb:TE):TE:=λd H Q=>t d H λc e=>if c=true then ta d e Q else tb d e Q
def wW{c:Expr}(l:PT X c tA)(m:PE X a ta)(n:PE X b tb):PE X (.IfExp c a b pos) (To tA ta tb):=by
 intro e s f H Q I h;refine wpAny_IfExp (bI (l e s f H _ I h) ?_);rintro d g ⟨i,j,k⟩
 cases d with
 | true=>exact m e g f i Q j k
 | false=>exact n e g f i Q j k
end
def SqL(K:W.Frag)(H:Hp)(a:ZT)(xs:List V):Prop:=
 Rd H a (.lst xs)∨
  ∃(o:Obj)(b:Array Value)(n:Nat),K.lookup a=some o/\o.cls=.type "list"/\o.dict=none/\o.data=.seq b n/\b.size<=sizeLine/\Vals xs b.toList
def SqT(K:W.Frag)(H:Hp)(a:ZT)(xs:List V):Prop:=
 Rd H a (.tup xs)∨
  ∃(o:Obj)(b:Array Value)(n:Nat),K.lookup a=some o/\o.cls=.type "tuple"/\o.data=.seq b n/\b.size<=sizeLine/\Vals xs b.toList
def Rv:ZS->Option V
 | .none=>some .non
 | .bool b=>some (.bl b)
 | .int i _=>some (.int i)
 | .str x _=>some (.str x)
 | .bytes b _=>some (.byt b)
 | .float b _=>some (.flt b)
 | .ref a=>some (.ref a)
 | .type n=>some (.ty n)
 | _=>none
def RelV.abs{x:V}{u:ZS}(r:RelV x u):Rv u=some x:=by
 cases x with
 | non=>cases r;rfl
 | bl _=>cases r;rfl
 | int _=>obtain⟨t,rfl⟩:=r;rfl
 | str _=>obtain⟨t,rfl⟩:=r;rfl
 | byt _=>obtain⟨t,rfl⟩:=r;rfl
 | flt _=>obtain⟨t,rfl⟩:=r;rfl
 | ref _=>cases r;rfl
 | ty _=>cases r;rfl
def RelV.inj{x y:V}{u:ZS}(r:RelV x u)(q:RelV y u):x=y:=Option.some.inj (r.abs.symm.trans q.abs)
theorem Vals.inj:∀ {xs ys:List V}{us:List ZS},Vals xs us->Vals ys us->xs=ys
 | _,_,_,.nil,.nil=>rfl
 | _,_,_,.cons r t,.cons a b=>by rw[r.inj a,Vals.inj t b]
section
variable {X:Cx}{pins:Z9}{σ:St}{H:Hp}{s:ZR}{a:ZT}{xs ys:List V}
def SqL.of{K:W.Frag}(h:H a=some (.lst xs)):SqL K H a xs:=.inl (.inl h)
def YT:=@SqL.of
def SqT.of{K:W.Frag}(h:H a=some (.tup xs)):SqT K H a xs:=.inl (.inl h)
def YU:=@SqT.of
def Inv.list(I:Inv X pins σ H s)(h:SqL X.K H a xs):∃its:List ZS,Vals xs its/\PlainL s.heap a its.toArray/\xs.length<=sizeLine:=by
 rcases h with h|⟨o,its,n,b,c,d,f,g,r⟩
 ·obtain⟨z,its,n,r,e⟩:=h.ok I.hok;exact⟨its,r,⟨_,n,e,rfl,rfl,rfl⟩,z⟩
 ·refine⟨its.toList,r,⟨o,n,I.kIn a o b,c,d,by simpa using f⟩,?_⟩;have e:=r.length;simp only [Array.length_toList]at e;omega
def Inv.tuple(I:Inv X pins σ H s)(h:SqT X.K H a xs):∃its:List ZS,Vals xs its/\IsTup s.heap a its.toArray/\xs.length<=sizeLine:=by
 rcases h with h|⟨o,its,n,b,c,d,f,r⟩
 ·obtain⟨z,its,r,p⟩:=h.ok I.hok;exact⟨its,r,p,z⟩
 ·refine⟨its.toList,r,⟨o,I.kIn a o b,c,n,by simpa using d⟩,?_⟩;have e:=r.length;simp only [Array.length_toList]at e;omega
def Inv.list_inj(I:Inv X pins σ H s)(h:SqL X.K H a xs)(h':SqL X.K H a ys):xs=ys:=by
 obtain⟨g,r,⟨o,n,e,_,_,d⟩,_⟩:=I.list h;obtain⟨f,i,⟨k,l,b,_,_,c⟩,_⟩:=I.list h';rw[e]at b;cases b;rw[d]at c;injection c with j _
 have:g=f:=by simpa using congrArg Array.toList j
 subst this;exact r.inj i
def Inv.tuple_inj(I:Inv X pins σ H s)(h:SqT X.K H a xs)(h':SqT X.K H a ys):xs=ys:=by
 obtain⟨g,r,⟨o,e,_,n,d⟩,_⟩:=I.tuple h;obtain⟨f,i,⟨k,b,_,l,c⟩,_⟩:=I.tuple h';rw[e]at b;cases b;rw[d]at c;injection c with j _
 have:g=f:=by simpa using congrArg Array.toList j
 subst this;exact r.inj i
end
abbrev Cx.wish(X:Cx)(E:Z8):Cx:={X with xe:=E }
abbrev Cx.nox(X:Cx):Cx:=X.wish λ_ _=>False
def Cx.Ok.wish{X:Cx}(ok:X.Ok)(E:Z8):(X.wish E).Ok:=
 ⟨ok.mod,ok.kind,ok.glob,ok.blt,ok.above,ok.inj,ok.has,ok.cab,ok.hd,ok.frames,ok.stk,ok.exf,ok.bs,ok.bsz,ok.noex,ok.exfs,ok.funs,ok.frf⟩
def Cx.Ok.unwish{X:Cx}{E:Z8}(ok:(X.wish E).Ok):X.Ok:=
 ⟨ok.mod,ok.kind,ok.glob,ok.blt,ok.above,ok.inj,ok.has,ok.cab,ok.hd,ok.frames,ok.stk,ok.exf,ok.bs,ok.bsz,ok.noex,ok.exfs,ok.funs,ok.frf⟩
section
variable {X:Cx}{pins:Z9}{σ:St}{H:Hp}{s:ZR}{E:Z8}
def Inv.wish(I:Inv X pins σ H s)(E:Z8):Inv (X.wish E) pins σ H s:=⟨I.ok.wish E,I.os,I.bare,I.base,I.loc,I.cell,I.free,I.freeC,I.pin,I.hok,I.len⟩
def Inv.unwish(I:Inv (X.wish E) pins σ H s):Inv X pins σ H s:=⟨I.ok.unwish,I.os,I.bare,I.base,I.loc,I.cell,I.free,I.freeC,I.pin,I.hok,I.len⟩
def SP.unwish{D:iC}{f:Flow}{c:ZR}(h:SP (X.wish E) pins D f c):SP X pins D f c:=by
 cases f with
 | next=>obtain⟨a,b,I,q⟩:=h;exact⟨a,b,I.unwish,q⟩
 | brk=>obtain⟨a,b,I,q⟩:=h;exact⟨a,b,I.unwish,q⟩
 | cont=>obtain⟨a,b,I,q⟩:=h;exact⟨a,b,I.unwish,q⟩
 | ret u=>obtain⟨v,a,b,I,r,q⟩:=h;exact⟨v,a,b,I.unwish,r,q⟩
def PSs.nox{st:List Stmt}{t:TS}(h:PSs X.nox st t):PSs X st t:=λpins s σ H D I a=>
 wpAny_mono (h pins s σ H D (I.wish _) a) (λ_ _ q=>q.unwish) λ_ _ z=>False.elim z
end
section
variable {X:Cx}{st:Stmt}{rest:List Stmt}{t u:TS}{e:Expr}{te:TE}{pos:Pos}
def eK:TS:=λD a H=>D.nx a H
def qK(t u:TS):TS:=λD a H=>t {D with nx:=u D } a H
def Cb:PSs X [] eK:=λ_ _ a H _ I h=>wpAny_execs_nil ⟨a,H,I,h⟩
def wX(c:PS X st t)(d:PSs X rest u):PSs X (st::rest) (qK t u):=by
 intro a s k H D I h;refine wpAny_execs_cons (bI (c a s k H {D with nx:=u D } I h) λf g q=>?_)
 cases f with
 | next=>
  obtain⟨b,i,j,q⟩:=q;exact d a g b i D j q
 | ret v=>exact q
 | brk=>exact q
 | cont=>exact q
def Cc(b:PS X st t):PSs X [st] t:=by
 intro a s c H D I h;refine wpAny_execs_cons (bI (b a s c H D I h) λf d q=>?_)
 cases f with
 | next=>exact wpAny_execs_nil q
 | ret v=>exact q
 | brk=>exact q
 | cont=>exact q
def Inv.quiet{a:Z9}{b:St}{H:Hp}{s:ZR}(I:Inv X a b H s):interactive X.env=false:=by simp[interactive,I.ok.kind]
def Gf(te:TE):TS:=λD a H=>te a H λ_ b=>D.nx a b
def Cd(c:PE X e te)(d:swapsWith e none pos.line X.env=pure false:=by rfl):PS X (.Expr e pos) (Gf te):=by
 intro b s a H D I h;exact wpAny_Expr_any (bI (c b s a H _ I h) λv j ⟨x,f,g,k,i⟩=>⟨a,f,g,i⟩) I.quiet d
def Ob(te:TE):TS:=λD a H=>te a H D.rt
def Il(c:PE X e te):PS X (.Return (some e) pos) (Ob te):=by
 intro b s a H D I h;exact wpAny_Return_some (bI (c b s a H _ I h) λv j ⟨x,d,f,g,i⟩=>⟨x,a,d,f,g,i⟩)
def Gg:TS:=λD _ H=>D.rt .non H
def Ce:PS X (.Return none pos) Gg:=λ_ _ a H _ I h=>wpAny_Return_none ⟨.non,a,H,I,rfl,h⟩
def uQ(c:TT)(t u:TS):TS:=λD a H=>c a H λb d=>if b=true then t D a d else u D a d
def Od{c:Expr}{a b:List Stmt}{i:TT}(n:PT X c i)(o:PSs X a t)(p:PSs X b u):PS X (.If c a b pos) (uQ i t u):=by
 intro f s g H D I h;refine wpAny_If (bI (n f s g H _ I h) ?_);rintro d j ⟨k,l,m⟩
 cases d with
 | true=>exact o f j g k D l m
 | false=>exact p f j g k D l m
end
abbrev TG:=V->St->Hp->(St->Hp->Prop)->Prop
abbrev sM:=List V->St->Hp->(St->Hp->Prop)->Prop
def PG(X:Cx)(e:Expr)(t:TG):Prop:=
 ∀(a:Z9)(s:ZR)(d:St)(H:Hp)(v:V)(u:ZS)(Q:St->Hp->Prop),Inv X a d H s->RelV v u->t v d H Q →
  wpAny (model X.prog X.w) X.A (assign e X.env u) (λ_ f=>∃ b c,Inv X a b c f/\Q b c) X.xe s
def Oe(X:Cx)(f:List Expr)(t:sM):Prop:=
 ∀(a:Z9)(s:ZR)(e:St)(H:Hp)(vs:List V)(c:List ZS)(Q:St->Hp->Prop),Inv X a e H s->Vals vs c->t vs e H Q →
  wpAny (model X.prog X.w) X.A (assignInOrder ((assignEach f X.env).map (·.2)) c) (λ_ g=>∃ b d,Inv X a b d g/\Q b d) X.xe s
abbrev uR:=V->V->V->Hp->(Hp->Prop)->Prop
def Cf(X:Cx)(t:uR):Prop:=
 ∀(a:Z9)(s:ZR)(e:St)(H:Hp)(o i v:V)(b c u:ZS)(Q:Hp->Prop),Inv X a e H s->RelV o b->RelV i c->RelV v u->t o i v H Q →
  wpAny (model X.prog X.w) X.A (setItem b c u) (λ_ f=>∃d,Inv X a e d f/\Q d) X.xe s
section
variable {X:Cx}{pos:Pos}
def aK(i:Nat):TG:=λv a H Q=>Q (a.set i (some v)) H
def Cg{i:Nat}{x:Str}(a:X.N.Nodup)(b:X.N[i]?=some x)(c:Ge X.env.scope x)(d:X.fn x=true∨X.env.scope.names.lookup x=some .local:=by first|exact .inl rfl|exact .inr rfl|assumption):PG X (.Name x pos) (aK i):=by
 intro f s j H v u Q I r h;exact wpAny_assign_Name (oX I a b c r (λg e=>⟨_,H,e,h⟩) d)
def Ch:sM:=λvs a H Q=>vs=[]/\Q a H
def oY(t:TG)(u:sM):sM:=λvs c H Q=>∃v r,vs=v::r/\t v c H λa b=>u r a b Q
def Ci:Oe X [] Ch:=by
 intro b s a H vs c Q I r h;obtain⟨e,h⟩:=h;subst e;cases r;exact assignInOrder_nil ⟨a,H,I,h⟩
def wY{e:Expr}{a:List Expr}{t:TG}{u:sM}(d:PG X e t)(f:Oe X a u)(g:(assignEach (e::a) X.env).map (·.2)=assign e X.env::(assignEach a X.env).map (·.2):=by rfl):Oe X (e::a) (oY t u):=by
 intro b s o H vs p Q I r h;obtain⟨v,vr,i,h⟩:=h;subst i;cases r with
 | cons r j=>
  rw[g];refine assignInOrder_cons (bI (d b s o H _ _ _ I r h) ?_);rintro _ k ⟨c,l,m,n⟩;exact f b k c l _ _ Q m j n
def wZ(K:W.Frag)(n:Nat)(t:sM):TG:=λv c H Q=>∃a b,v=.ref a/\SqT K H a b/\b.length=n/\t b c H Q
def Im{c:List Expr}{k:Nat}{t:sM}{n:Nat}(j:X.calm=true)(h:Oe X c t)(l:(assignEach c X.env).length=n:=by rfl)(m:(assignEach c X.env).findIdx? (·.1)=none:=by rfl):PG X (.Tuple c k pos) (wZ X.K n t):=by
 intro f s i H v u Q I r d;obtain⟨a,p,q,w,x,d⟩:=d;subst q;cases r;obtain⟨C,g,y,D⟩:=I.tuple w;refine assign_Tuple_tuple (I.ok.hd j) y (by simp[l,<- x,g.length]) m λz A=>?_;have B:Inv X f i H {s with heap:=z }:=I.kept (t':=s.toks) λb o e=>A b o (ne_of_lt (Heap.lt_size e)) e
 exact h f _ i H p _ Q B (by simpa using g) d
def Og(b c:TE)(t:uR):TG:=λv a H Q=>b a H λo d=>c a d λi e=>t o i v e λf=>Q a f
def Io{o i:Expr}{e f:TE}{t:uR}(g:PE X o e)(j:PE X i f)(k:Cf X t)(l:∀v,assign (.Subscript o i pos) X.env v=(do
   let a←holding [v] (eval o X.env)
   let b←holding [v,a] (eval i X.env)
   standAt pos
   holding [v,a,b] (setItem a b v)
   release [v,a,b] []):=by intro _;rfl):PG X (.Subscript o i pos) (Og e f t):=by
 intro d s c H v u Q I r h;rw[l];refine Z6 (wpAny_holding (bI (g d s c H _ I h) ?_));rintro a m ⟨x,n,p,q,w⟩;refine Z6 (wpAny_holding (bI (j d m c n _ p w) ?_));rintro b z ⟨y,A,B,C,D⟩;refine Z6 (wpAny_standAt (Z6 (wpAny_holding (bI (k d z c A x y v a b u _ B q C r D) ?_))));rintro _ J ⟨E,F,G⟩;exact wpAny_release ⟨c,E,F,G⟩
def xA(b:TE)(g:TG):TS:=λD a H=>b a H λx c=>g x a c D.nx
def Ip{a e:Expr}{c:TE}{g:TG}(f:PE X e c)(i:PG X a g)(j:swapsWithSole [a] e pos.line X.env=pure false:=by rfl)(k:swappedStores [a] e X.env=pure none:=by rfl)(l:(assignEach [a] X.env).map (·.2)=[assign a X.env]:=by rfl):PS X (.Assign [a] e pos) (xA c g):=by
 intro b s d H D I h;refine wpAny_Assign_stores (bI (f b s d H _ I h) ?_) j k;rintro v m ⟨x,n,o,p,r⟩;rw[l];exact bI (i b m d n x v _ o p r) λ_ t q=>q
def Iq{i:Nat}{x:Str}{e:Expr}{b:TE}{a:Pos}(d:X.N.Nodup)(f:X.N[i]?=some x)(g:Ge X.env.scope x)(j:PE X e b)(k:swapsWith e (some (.Name x a)) pos.line X.env=pure false:=by rfl)(l:X.fn x=true∨X.env.scope.names.lookup x=some .local:=by first|exact .inl rfl|exact .inr rfl|assumption) :
  PS X (.Assign [.Name x a] e pos) (xA b (aK i)):=by
 intro c s r H D I h;refine wpAny_Assign_Name (bI (j c s r H _ I h) ?_) k;rintro v t ⟨y,m,n,o,p⟩;exact oX n d f g o (λu q=>⟨_,m,q,p⟩) l
end
section
variable {X:Cx}{pos:Pos}
def xB(c:TT)(h:TS):TS:=λD a H=>∃W:Nat->St->Hp->Prop,(∃m,W m a H)/\∀m a H,W m a H →
 c a H λb e=>if b=true then ∃N:St->Hp->Prop,(∀ d f,N d f->∃g,g<m/\W g d f)/\h {D with nx:=N,ct:=N,bk:=D.nx } a e else D.nx a e
def xC{c:Expr}{q:List Stmt}{t:TT}{u:TS}(w:PassesOwn (model X.prog X.w) X.A X.env X.xe)(C:PT X c t)(E:PSs X q u):PS X (.While c q [] pos) (xB t u):=by
 intro j s P H D I h;obtain⟨W,⟨F,G⟩,turn⟩:=h;refine wpAny_While (codeAny_whileLoop (λn J=>∃ r x,Inv X j r x J/\W n r x) ?_ F ⟨P,H,I,G⟩);rintro n K ⟨e,y,L,M⟩;refine wpAny_passesOwn w (bI (C j K e y _ L (turn n e y M)) ?_);rintro b O ⟨z,A,g⟩
 cases b with
 | true=>
  obtain⟨N,B,g⟩:=g;rw[ZQ rfl];refine wpAny_passesOwn w (bI (E j O e z _ A g) λf Q i=>?_)
  cases f with
  | next=>
   obtain⟨a,d,k,l⟩:=i;obtain⟨m,o,p⟩:=B a d l;exact⟨m,o,a,d,k,p⟩
  | cont=>
   obtain⟨a,d,k,l⟩:=i;obtain⟨m,o,p⟩:=B a d l;exact⟨m,o,a,d,k,p⟩
  | brk=>exact i
  | ret v=>exact i
 | false=>
  rw[ZP ZZ];exact wpAny_execs_nil ⟨e,z,A,g⟩
end
structure It where
 go:Nat->Hp->Prop
 yld:Nat->Hp->V->Hp->Prop
 stop:Nat->Hp->Prop
def jF(X:Cx)(a:Z9)(H:Hp)(b:ZT):Prop:=
 H b=none/\b≠X.env.locals/\b∉X.fs/\(b∈X.ex∨X.s₀.heap.objs.size<=b)/\(∀x c,X.env.cells.lookup x=some c->c≠b)/\∀p∈X.pn++a,p.1≠b
def Inv.fpOk{X:Cx}{d:Z9}{i:St}{H f:Hp}{s:ZR}{b:ZT}(I:Inv X d i H s)(a:s.heap.objs.size<=b)(g:f b=none):jF X d f b:=by
 refine⟨g,ne_of_gt (ZK I.lt a),I.nofs a,.inr (eJ I.sz a),λx c e z=>?_,λp h z=>?_⟩
 ·obtain⟨v,q⟩:=I.cell x c e;exact ZO (ZK q.lt (by rw[z];exact a)) (lt_irrefl _)
 ·exact ZO (ZK (Heap.lt_size (I.pin p h).1) (by rw[z];exact a)) (lt_irrefl _)
structure qL(P:Program)(w:World)(K:W.Frag)(tg:Expr)(J:It)(fp:List ZT)(it:ZT)(tn:Nat->Heap->Prop):Prop where
 mem:it∈fp
 obj:∀i h,tn i h->∀b∈fp,∃o,h.get? b=some o/\∀v,o.data≠.cell v
 keep:∀i h h',tn i h->(∀b∈fp,∀o,h.get? b=some o->h'.get? b=some o)->tn i h'
 item:∀(X:Cx),X.prog=P->X.w=w->X.K=K->X.calm=true->∀(i:Nat)(pins:Z9)(s:ZR)(σ:St)(H:Hp)(E:Z8),Inv X pins σ H s->(∀b∈fp,jF X pins H b)->tn i s.heap->J.go i H →
  wpAny (model P w) X.A (pyNext (.ref it)) (λr s1=>∃u,r=some u ∧
   wpAny (model P w) X.A (letOwnedTupleGo tg (.ref it) u) (λ_ s2=>∃x H',Inv X pins σ H' s2/\RelV x u/\J.yld i H x H'/\tn (i+1) s2.heap/\∀b∈fp,H' b=none) E s1) E s
 done:∀(X:Cx),X.prog=P->X.w=w->X.K=K->X.calm=true->∀(i:Nat)(pins:Z9)(s:ZR)(σ:St)(H:Hp)(E:Z8),Inv X pins σ H s->(∀b∈fp,jF X pins H b)->tn i s.heap->J.stop i H →
  wpAny (model P w) X.A (pyNext (.ref it)) (λr s1=>r=none/\Inv X pins σ H s1) E s
 self:∀(A:Around)(i:Nat)(s:ZR)(Q:Z8)(E:Z8),tn i s.heap->Q (.ref it) s->wpAny (model P w) A (pyIter (.ref it)) Q E s
abbrev TI:=St->Hp->(It->Hp->Prop)->Prop
def Tp(X:Cx)(c:Z9)(i:St)(g:Expr)(R:It->Hp->Prop)(h:ZS)(d:ZR):Prop:=
 ∃(it:ZT)(e:List ZT)(f:Nat->Heap->Prop)(J:It)(a:Hp),h=.ref it/\Inv X c i a d/\qL X.prog X.w X.K g J e it f/\f 0 d.heap/\(∀b∈e,jF X c a b)/\R J a
def PI(X:Cx)(c iter:Expr)(d:TI):Prop:=
 ∀(b:Z9)(s:ZR)(a:St)(H:Hp)(R:It->Hp->Prop),Inv X b a H s->d a H R →
  wpAny (model X.prog X.w) X.A (eval iter X.env) (λv e=>wpAny (model X.prog X.w) X.A (pyIter v) (Tp X b a c R) X.xe e) X.xe s
def sN{M:Model}{A:Around}{E:Z8}{s:ZR}{b:Expr}{it:ZT}{u:ZS}{o:Obj}{n:String}{vs:Array Value}{Q:Unit->ZR->Prop}(c:s.heap.get? it=some o)(d:o.cls=.type n)(e:o.data=.fields vs)(f:["enumerate","zip","dict_itemiterator","dict_reverseitemiterator","odict_iterator","itertools.zip_longest","itertools.pairwise"].contains n=false)(a:Q () s):wpAny M A (letOwnedTupleGo b (.ref it) u) Q E s:=by
  unfold letOwnedTupleGo;cases b<;>first
    | exact Z5 a
    | (cases u <;> first
        | exact Z5 a
        | (refine Z6 (wpAny_load c ?_)
           rw[d,e];show wpAny M A (if (["enumerate","zip","dict_itemiterator","dict_reverseitemiterator","odict_iterator","itertools.zip_longest","itertools.pairwise"].contains n&&vs[0]? == some (rawInt _))=true then _ else _) Q E s;rw[ZP (by intro h;rw[f,Bool.false_and]at h;cases h)];exact Z5 a))
def Oh(K:W.Frag)(a:ZT):It:=
 ⟨λi H=>∃b x,SqL K H a b/\b[i]?=some x,λi H x c=>c=H/\∀b,SqL K H a b->b[i]?=some x,λi H=>∃b,SqL K H a b/\b.length<=i⟩
def Rw(K:W.Frag)(a:ZT):It:=
 ⟨λi H=>∃b x,SqT K H a b/\b[i]?=some x,λi H x c=>c=H/\∀b,SqT K H a b->b[i]?=some x,λi H=>∃b,SqT K H a b/\b.length<=i⟩
def Rc(lo:Int)(n:Nat):It:=⟨λi _=>i<n,λi H x a=>a=H/\x=.int (lo+i),λi _=>n<=i⟩
def uS{P:Program}{w:World}{K:W.Frag}{N:Expr}(a it:ZT):qL P w K N (Oh K a) [it] it (λi h=>h.IsListIter it a i) where
 mem:=by simp
 obj:=λi h st b f=>by
  have e:b=it:=by simpa using f
  subst e;obtain⟨o,e,c,d⟩:=st;exact⟨o,e,λv z=>by rw[d]at z;cases z⟩
 keep:=λi h g st k=>st.at λo e=>k it Zs o e
 item:=by
  intro X m n q G i F s L H E I j st r;subst m n q;obtain⟨O,x,l,t⟩:=r;obtain⟨M,y,p,Q⟩:=I.list l;obtain⟨u,R,S⟩:=y.get t;obtain⟨A,f1,f2,B,C,D⟩:=j it Zs;refine wpAny_pyNext_list_item st p.isList (x:=u) (by simpa using R) λg J T=>?_;have U:Inv X F L H {s with heap:=g }:=I.turned (t':=s.toks) (λb o f e=>(T.2 b f).trans e) A f1 B C D;obtain⟨o,e,c,d⟩:=id J;exact⟨u,rfl,sN (s:={s with heap:=g }) e c d Zd ⟨x,H,U,S,⟨rfl,λZ V=>by rw[I.list_inj V l];exact t⟩,J,λb f=>(j b f).1⟩⟩
 done:=by
  intro X m n q G i F s L H E I j st r;subst m n q;obtain⟨O,l,t⟩:=r;obtain⟨M,y,p,Q⟩:=I.list l;obtain⟨A,f1,f2,B,C,D⟩:=j it Zs;have hl:=y.length;exact wpAny_pyNext_list_end (I.ok.hd G) st p.isList (by simp;omega) λg Y=>⟨rfl,I.turned (t':=s.toks) (λb o f e=>Y b o f e) A f1 B C D⟩
 self:=λ_ _ _ _ _ st h=>wpAny_pyIter_listiter st h
def qM{P:Program}{w:World}{K:W.Frag}{N:Expr}(a it:ZT):qL P w K N (Rw K a) [it] it (λi h=>h.IsTupleIter it a i) where
 mem:=by simp
 obj:=λi h st b f=>by
  have e:b=it:=by simpa using f
  subst e;obtain⟨o,e,c,d⟩:=st;exact⟨o,e,λv z=>by rw[d]at z;cases z⟩
 keep:=λi h g st k=>st.at λo e=>k it Zs o e
 item:=by
  intro X n q r J i G s M H E I j st t;subst n q r;obtain⟨O,x,l,y⟩:=t;obtain⟨m,A,p,Q⟩:=I.tuple l;obtain⟨u,R,S⟩:=A.get y;obtain⟨B,f1,f2,C,D,F⟩:=j it Zs;refine wpAny_pyNext_tuple_item st (show s.heap.IsTuple a m.toArray from p) (x:=u) (by simpa using R) λg L T=>?_;have U:Inv X G M H {s with heap:=g }:=I.turned (t':=s.toks) (λb o f e=>(T.2 b f).trans e) B f1 C D F;obtain⟨o,e,c,d⟩:=id L;exact⟨u,rfl,sN (s:={s with heap:=g }) e c d Zd ⟨x,H,U,S,⟨rfl,λZ V=>by rw[I.tuple_inj V l];exact y⟩,L,λb f=>(j b f).1⟩⟩
 done:=by
  intro X n q r J i G s M H E I j st t;subst n q r;obtain⟨O,l,y⟩:=t;obtain⟨m,A,p,Q⟩:=I.tuple l;obtain⟨B,f1,f2,C,D,F⟩:=j it Zs;have hl:=A.length;exact wpAny_pyNext_tuple_end (I.ok.hd J) st (show s.heap.IsTuple a m.toArray from p) (by simp;omega) λg Y=>⟨rfl,I.turned (t':=s.toks) (λb o f e=>Y b o f e) B f1 C D F⟩
 self:=λ_ _ _ _ _ st h=>wpAny_pyIter_tupleiter st h
def qN{P:Program}{w:World}{K:W.Frag}{B:Expr}(it:ZT)(lo:Int)(n:Nat):qL P w K B (Rc lo n) [it] it (λi h=>IsRangeIter h it (lo+(i:Nat)*1) ((n:Int)-(i:Nat)) 1) where
 mem:=by simp
 obj:=λi h st b a=>by
  have e:b=it:=by simpa using a
  subst e;exact⟨_,st,λv z=>by
   have C:Data.fields _=Data.cell v:=z;cases C⟩
 keep:=λi h c st k=>k it Zs _ st
 item:=by
  intro X f g j l i x s A H E I d st m;subst f g j;obtain⟨p,f1,f2,q,r,u⟩:=d it Zs;have W:=Walks.range (prog:=X.prog) (w:=X.w) (I.ok.hd l) it lo 1 n;refine W.item i s _ _ m st λv c tk D y F=>?_;obtain⟨t,rfl⟩:=D;have G:Inv X x A H {s with heap:=c,toks:=tk }:=I.turned (λb o a e=>F b o (by simpa using a) e) p f1 q r u;refine⟨_,rfl,sN (s:={s with heap:=c,toks:=tk }) (n:="range_iterator") y rfl rfl Zd ⟨.int (lo+i),H,G,⟨t,?_⟩,⟨rfl,rfl⟩,y,λb a=>(d b a).1⟩⟩;rw[Int.mul_one]
 done:=by
  intro X f g j l i x s A H E I d st m;subst f g j;obtain⟨p,f1,f2,q,r,u⟩:=d it Zs;exact wpAny_pyNext_range_end (I.ok.hd l) st (by have:n<=i:=m;omega) λc J=>⟨rfl,I.turned (t':=s.toks) (λb o a e=>J b o a e) p f1 q r u⟩
 self:=λ_ _ _ _ _ st h=>wpAny_pyIter_rangeiter st h
section
variable {X:Cx}{tg:Expr}
def xD(K:W.Frag)(c:TE):TI:=λe H R=>c e H λx b=>∃a,x=.ref a/\(∃d,SqL K b a d)/\R (Oh K a) b
def Ir(K:W.Frag)(c:TE):TI:=λe H R=>c e H λx b=>∃a,x=.ref a/\(∃d,SqT K b a d)/\R (Rw K a) b
def Cj{l:Expr}{f:TE}(i:PE X l f):PI X tg l (xD X.K f):=by
 intro g s t H R I h;refine bI (i g s t H _ I h) ?_;rintro v c ⟨x,j,d,k,m⟩
 obtain⟨a,e,⟨w,n⟩,q⟩:=m;subst e;cases k;obtain⟨u,y,p,z⟩:=d.list n;refine wpAny_pyIter_list p.isList ?_;refine⟨c.heap.objs.size,[c.heap.objs.size],_,_,j,rfl,d.kept (t':=c.toks) λb o e=>fB _ e,uS a _,⟨_,ZU _ rfl,rfl,rfl⟩,λb r=>?_,q⟩;have e:b=c.heap.objs.size:=by simpa using r
 subst e;exact d.fpOk (bH _) (d.hok.fresh (bH _))
def Iu{l:Expr}{f:TE}(j:PE X l f):PI X tg l (Ir X.K f):=by
 intro g s u H R I h;refine bI (j g s u H _ I h) ?_;rintro v c ⟨x,k,d,m,n⟩
 obtain⟨a,e,⟨w,r⟩,q⟩:=n;subst e;cases m;obtain⟨i,y,p,z⟩:=d.tuple r;refine wpAny_pyIter_tuple (show c.heap.IsTuple a i.toArray from p) ?_;refine⟨c.heap.objs.size,[c.heap.objs.size],_,_,k,rfl,d.kept (t':=c.toks) λb o e=>fB _ e,qM a _,⟨_,ZU _ rfl,rfl,rfl⟩,λb t=>?_,q⟩;have e:b=c.heap.objs.size:=by simpa using t
 subst e;exact d.fpOk (bH _) (d.hok.fresh (bH _))
def xE{c:Z9}{f:St}{H:Hp}{s:ZR}{R:It->Hp->Prop}{E:Z8}{lo a:Int}{t u v:Tok}{tk:Nat}(I:Inv X c f H s)(g:-(2^62)<=lo)(h:lo<2^62)(i:-(2^62)<=a)(j:a<2^62)(q:R (Rc lo (a-lo).toNat) H):wpAny (model X.prog X.w) X.A (pyIter (.ref s.heap.objs.size)) (Tp X c f tg R) E {s with heap:=s.heap.push {cls:=.type "range",data:=.fields #[.int lo t,.int a u,.int 1 v] },toks:=tk }:=by
 refine wpAny_pyIter_range (IsRange.new ..) (small_one g h i j) ?_;have d:Inv X c f H {s with heap:=s.heap.push {cls:=.type "range",data:=.fields #[.int lo t,.int a u,.int 1 v] },toks:=tk }:=I.kept λb o e=>fB _ e
 refine⟨(s.heap.push {cls:=.type "range",data:=.fields #[.int lo t,.int a u,.int 1 v] }).objs.size,[(s.heap.push {cls:=.type "range",data:=.fields #[.int lo t,.int a u,.int 1 v] }).objs.size],_,_,H,rfl,
  d.kept (t':=tk) λb o e=>fB _ e,qN _ lo (a - lo).toNat,?_,λb k=>?_,q⟩
 ·have l:lo+((0:Nat):Int)*1=lo:=by simp
  have m:(((a-lo).toNat:Nat):Int)-((0:Nat):Int)=Builtin.Range.rangeSize lo a 1:=by rw[rangeSize_one];split<;>omega
  show IsRangeIter _ _ (lo+((0:Nat):Int)*1) ((((a-lo).toNat:Nat):Int)-((0:Nat):Int)) 1;rw[l,m];exact ZU _ rfl
 ·have e:b=(s.heap.push {cls:=.type "range",data:=.fields #[.int lo t,.int a u,.int 1 v] }).objs.size:=by simpa using k
  subst e;exact d.fpOk (bH _) (d.hok.fresh (bH _))
def Gh(a:TA):TI:=λc H R=>a c H λvs b=>∃j:Int,vs=[.int j]/\-(2^62)<=j/\j<2^62/\R (Rc 0 j.toNat) b
def uT{a:Expr}{c:TA}{p pos:Pos}(f:Gl X "range")(g:X.mg "range"=none)(i:PA X [a] c)(k:starEach [a] X.env=[(false,eval a X.env)]:=by rfl):PI X tg (.Call (.Name "range" p) [a] [] pos) (Gh c):=by
 intro d s u H R I h;refine Call_ (jS I f g boot_range (PyProof.Rows.callWith_type1 (bI (i pos d s u H _ I h) ?_) k rfl));rintro v w ⟨vs,x,l,m,b⟩;obtain⟨j,e,b,n,q⟩:=b;subst e;cases m with
 | cons r o=>
  cases o;obtain⟨t,rfl⟩:=r;exact call_range_1 (xE l Zo Zo b n (by simpa using q))
def Oi(f:TI)(g:TG)(h:TS):TS:=λD a H=>f a H λJ j=>∃W:Nat->Nat->St->Hp->Prop,(∃m,W 0 m a j)/\∀i m a H,W i m a H →
 (J.stop i H/\D.nx a H)∨(J.go i H/\∃N:St->Hp->Prop,(∀ c b,N c b->∃d,d<m/\W (i+1) d c b)/\∀x b,J.yld i H x b->g x a b λe k=>h {D with nx:=N,ct:=N,bk:=D.nx } e k)
def jT(fp:List ZT)(h:Heap):List (ZT×Obj):=fp.filterMap λb=>(h.get? b).map λo=>(b,o)
def dW{fp:List ZT}{h:Heap}{b:ZT}{o:Obj}(a:b∈fp)(e:h.get? b=some o):(b,o)∈jT fp h:=mem_filterMap.mpr ⟨b,a,by rw[e];rfl⟩
def uU{fp:List ZT}{h:Heap}{p:ZT×Obj}(a:p∈jT fp h):p.1∈fp/\h.get? p.1=some p.2:=by
 obtain⟨b,c,e⟩:=mem_filterMap.mp a
 cases q:h.get? b with
 | none=>rw[q]at e;cases e
 | some o=>
  rw[q]at e;have d:(b,o)=p:=Option.some.inj e;subst d;exact⟨c,q⟩
def Inv.pinned{a:Z9}{g:St}{H:Hp}{s:ZR}{fp:List ZT}(I:Inv X a g H s)(h:∀b∈fp,jF X a H b)(i:∀b∈fp,∃o,s.heap.get? b=some o/\∀v,o.data≠.cell v):Inv X (a++jT fp s.heap) g H s:=
 I.pins_of λp j=>(Zma.mp j).elim (λz=>I.pin p (ZL _ z)) λz=>by
  obtain⟨c,e⟩:=uU z;obtain⟨k,f1,f2,_⟩:=h p.1 c;obtain⟨o,f,d⟩:=i p.1 c;rw[e]at f;cases f;exact⟨e,k,f1,f2,d⟩
def Inv.unpinned{a pl:Z9}{b:St}{H:Hp}{s:ZR}(I:Inv X (a++pl) b H s):Inv X a b H s:=I.pins_of λp c=>I.pin p (ZL _ (ZM _ c))
def Iv{iter:Expr}{A:List Stmt}{B:TI}{g:TG}{C:TS}{pos:Pos}(q:PassesOwn (model X.prog X.w) X.A X.env X.xe)(D:X.calm=true)(O:PI X tg iter B)(P:PG X tg g)(c:PSs X A C)(Q:∀x,foldedSetIterable iter X.env x=pure x:=by intro _;rfl):PS X (.For tg iter A [] pos) (Oi B g C):=by
 intro k a0 M a1 a8 a2 a3;refine wpAny_For (bI (O k a0 M a1 _ a2 a3) λv s1 R=>bI R λHC s2 S=>?_) Q;obtain⟨it,r,E,a9,U,e,V,T,Y,f2,W,⟨Z,w0⟩,turn⟩:=S;subst e;have u:∀ {h:Hp},(∀b∈r,h b=none)->∀b∈r,jF X k h b:=λhn b c=>⟨hn b c,(f2 b c).2⟩
 refine codeAny_forLoop_any (λn F=>∃i l h,Inv X k l h F/\E i F.heap/\(∀b∈r,h b=none)/\W i n l h) ?_ Z ⟨0,M,U,V,Y,λb c=>(f2 b c).1,w0⟩;rintro n G ⟨i,p,t,H,I,J,w3⟩;rcases turn i n p t w3 with⟨stop,qn⟩|⟨go,a4,hN,step⟩
 ·refine wpAny_passesOwn q (bI (T.done X rfl rfl rfl D i k G p t X.xe H (u J) I stop) ?_);rintro a5 s4 ⟨w,I4⟩;subst w;exact wpAny_execs_nil ⟨p,t,I4,qn⟩
 ·refine wpAny_passesOwn q (bI (T.item X rfl rfl rfl D i k G p t X.xe H (u J) I go) ?_);rintro a5 s4 ⟨a6,w,h4⟩;subst w;refine wpAny_passesOwn q (bI h4 ?_);rintro _ K ⟨x,L,I5,r5,y5,y,JI⟩;have JJ:=I5.pinned (u JI) (T.obj _ _ y);refine wpAny_passesOwn q (bI (P _ K p L x a6 _ JJ r5 (step x L y5)) ?_);rintro _ s6 ⟨N,H6,I6,q6⟩;refine wpAny_passesOwn q (bI (c _ s6 N H6 _ I6 q6) λa7 z j=>?_);have again:∀ {a:St}{d:Hp},Inv X (k++jT r K.heap) a d z->a4 a d->∃m,m<n/\∃i l h,Inv X k l h z/\E i z.heap/\(∀b∈r,h b=none)/\W i m l h:=λ{a d} f s=>by
   obtain⟨m',hm,w7⟩:=hN a d s;refine⟨m',hm,i+1,a,d,f.unpinned,T.keep _ _ _ y λb c o e=>(f.pin (b,o) (ZL _ (ZL _ (dW c e)))).1,λb c=>?_,w7⟩;obtain⟨o,e,b0⟩:=T.obj _ _ y b c;exact(f.pin (b,o) (ZL _ (ZL _ (dW c e)))).2.1
  cases a7 with
  | next=>obtain⟨a,d,f,s⟩:=j;exact again f s
  | cont=>obtain⟨a,d,f,s⟩:=j;exact again f s
  | brk=>obtain⟨a,d,f,j⟩:=j;exact⟨a,d,f.unpinned,j⟩
  | ret v=>obtain⟨x7,a,d,f,r7,j⟩:=j;exact⟨x7,a,d,f.unpinned,r7,j⟩
end
abbrev R2:=V->V->Hp->VK->Prop
def OpR(X:Cx)(f:ZS->ZS->Sem Value)(r:R2):Prop:=
 ∀(a:Z9)(s:ZR)(b:St)(H:Hp)(x y:V)(v u:ZS)(Q:VK),Inv X a b H s->RelV x v->RelV y u->r x y H Q →
  wpAny (model X.prog X.w) X.A (f v u) (EP X a b Q) X.xe s
def UnR(X:Cx)(f:ZS->Sem Value)(r:V->Hp->VK->Prop):Prop:=
 ∀(a:Z9)(s:ZR)(b:St)(H:Hp)(x:V)(v:ZS)(Q:VK),Inv X a b H s->RelV x v->r x H Q →
  wpAny (model X.prog X.w) X.A (f v) (EP X a b Q) X.xe s
def CallR(X:Cx)(f:ZS)(r:List V->Hp->VK->Prop):Prop:=
 ∀(a:Z9)(s:ZR)(d:St)(H:Hp)(b:List V)(c:List ZS)(Q:VK),Inv X a d H s->Vals b c->r b H Q →
  wpAny (model X.prog X.w) X.A (call f c) (EP X a d Q) X.xe s
def uV(r:R2)(b c:TE):TE:=λa H Q=>b a H λx d=>c a d λy e=>r x y e Q
def Rx(r:V->Hp->VK->Prop)(a:TE):TE:=λc H Q=>a c H λx b=>r x b Q
def rI(C:Int->Int->Prop)(g:Int->Int->V):R2:=λx y H Q=>∃i j,x=.int i/\y=.int j/\C i j/\Q (g i j) H
def Ck(g:Int->Int->V):R2:=λx y H Q=>∃i j,x=.int i/\y=.int j/\Q (g i j) H
def rU(g:Int->V):V->Hp->VK->Prop:=λx H Q=>∃i,x=.int i/\Q (g i) H
section
variable {X:Cx}{a b c:Expr}{ta tb tc:TE}{pos:Pos}
def Iw(m:PE X a ta)(n:PE X b tb){g:Z9}{s:ZR}{e:St}{H:Hp}{R:V->V->Hp->Prop}(I:Inv X g e H s)(h:ta e H λx j=>tb e j λy d=>R x y d){Q:Z8}{f:ZS->ZS->Sem Value}(o:∀v u i x y d,Inv X g e d i->RelV x v->RelV y u->R x y d->wpAny (model X.prog X.w) X.A (f v u) Q X.xe i) :
  wpAny (model X.prog X.w) X.A (eval a X.env) (λv k=>wpAny (model X.prog X.w) X.A (eval b X.env) (λu l=>wpAny (model X.prog X.w) X.A (f v u) Q X.xe l) X.xe k) X.xe s:=by
 refine bI (m g s e H _ I h) ?_;rintro v p ⟨x,j,q,r,t⟩;refine bI (n g p e j _ q t) ?_;rintro u i ⟨y,d,w,z,A⟩;exact o v u i x y d w r z A
def Oj{op:Operator}{r:R2}(e:OpR X (binaryOp op) r)(f:PE X a ta)(g:PE X b tb):PE X (.BinOp a op b pos) (uV r ta tb):=by
 intro d s n H Q I h;exact wpAny_BinOp (Iw f g I h λv u i x y j k l m q=>e d i n j x y v u Q k l m q)
def Ol{op:UnaryOp}{r:V->Hp->VK->Prop}(f:UnR X (unaryOp op) r)(g:PE X a ta):PE X (.UnaryOp op a pos) (Rx r ta):=by
 intro d s e H Q I h;exact UnaryOp_ (bI (g d s e H _ I h) λv i ⟨x,j,k,l,m⟩=>f d i e j x v Q k l m)
def Re{f:ZS->ZS->Sem Value}{C:Int->Int->Prop}{g:Int->Int->Int}(rule:∀(i j:Int)(t u:Tok)(s:ZR)(Q:Z8)(E:Z8),C i j->Q (.int (g i j) s.toks) {s with toks:=s.toks+1 }->wpAny (model X.prog X.w) X.A (f (.int i t) (.int j u)) Q E s) :
  OpR X f (rI C λi j=>.int (g i j)):=by
 intro m s n H x y v u Q I d e h;obtain⟨i,j,rfl,rfl,k,q⟩:=h;obtain⟨t,rfl⟩:=d;obtain⟨l,rfl⟩:=e;exact rule i j t l s _ _ k ⟨.int (g i j),H,I.tok _,⟨_,rfl⟩,q⟩
def Om{f:ZS->ZS->Sem Value}{g:Int->Int->Int}(rule:∀(i j:Int)(t u:Tok)(s:ZR)(Q:Z8)(E:Z8),Q (.int (g i j) s.toks) {s with toks:=s.toks+1 }->wpAny (model X.prog X.w) X.A (f (.int i t) (.int j u)) Q E s) :
  OpR X f (Ck λi j=>.int (g i j)):=by
 intro l s m H x y v u Q I d e h;obtain⟨i,j,rfl,rfl,q⟩:=h;obtain⟨t,rfl⟩:=d;obtain⟨k,rfl⟩:=e;exact rule i j t k s _ _ ⟨.int (g i j),H,I.tok _,⟨_,rfl⟩,q⟩
def Cl{f:ZS->ZS->Sem Value}{g:Int->Int->Bool}(rule:∀(i j:Int)(t u:Tok)(s:ZR)(Q:Z8)(E:Z8),Q (.bool (g i j)) s->wpAny (model X.prog X.w) X.A (f (.int i t) (.int j u)) Q E s) :
  OpR X f (Ck λi j=>.bl (g i j)):=by
 intro l s m H x y v u Q I d e h;obtain⟨i,j,rfl,rfl,q⟩:=h;obtain⟨t,rfl⟩:=d;obtain⟨k,rfl⟩:=e;exact rule i j t k s _ _ ⟨.bl (g i j),H,I,rfl,q⟩
def Ix(i j:Int):Prop:=0<=j/\j<=1000000/\i.natAbs<2^64
def CMul(i j:Int):Prop:=(-(2^64)<i/\i<2^64)∨(-(2^64)<j/\j<2^64)
def CMul.ok{i j:Int}(h:CMul i j):IntMulOk i j:=by
 rcases h with⟨d,e⟩|⟨d,e⟩
 ·exact .of_left (intBits_le_64 d e)
 ·exact .of_right (intBits_le_64 d e)
def Iy:OpR X (binaryOp .Add) (Ck λi j=>.int (i+j)):=Om λ_ _ _ _ _ _ _ q=>add_int q
def Iz:OpR X (binaryOp .Sub) (Ck λi j=>.int (i-j)):=Om λ_ _ _ _ _ _ _ q=>sub_int q
def Ja:OpR X (binaryOp .Mult) (rI CMul λi j=>.int (i*j)):=Re λ_ _ _ _ _ _ _ d q=>mul_int q d.ok
def Jb:OpR X (binaryOp .Mod) (rI (λ_ j=>0<j) λi j=>.int (i%j)):=Re λi j _ _ _ _ _ d q=>by
 have e:(0:Int)<j:=d;exact mod_int' Zo (by rw[Int.fmod_eq_emod_of_nonneg i Zo];exact q)
def Jc:OpR X (binaryOp .Pow) (rI Ix λi j=>.int (i^j.toNat)):=Re λ_ _ _ _ _ _ _ d q=>pow_int_small d.1 d.2.1 d.2.2 q
def Ua{f:ZS->Sem Value}{g:Int->Int}(rule:∀(i:Int)(t:Tok)(s:ZR)(Q:Z8)(E:Z8),Q (.int (g i) s.toks) {s with toks:=s.toks+1 }->wpAny (model X.prog X.w) X.A (f (.int i t)) Q E s) :
  UnR X f (rU λi=>.int (g i)):=by
 intro e s j H x v Q I d h;obtain⟨i,rfl,q⟩:=h;obtain⟨t,rfl⟩:=d;exact rule i t s _ _ ⟨.int (g i),H,I.tok _,⟨_,rfl⟩,q⟩
def Jd:UnR X (unaryOp .USub) (rU λi=>.int (-i)):=Ua λ_ _ _ _ _ q=>neg_int q
end
def scal:V->V->Bool
 | .non,.non=>true|.non,.int _=>true|.int _,.non=>true|.non,.bl _=>true|.bl _,.non=>true|.non,.str _=>true|.str _,.non=>true
 | .int _,.int _=>true|.bl _,.bl _=>true|.str _,.str _=>true|.byt _,.byt _=>true
 | .int _,.str _=>true|.str _,.int _=>true|.bl _,.str _=>true|.str _,.bl _=>true
 | _,_=>false
def Tq:R2:=λx y H Q=>scal x y=true/\Q (.bl (decide (x=y))) H
def Tr:R2:=λx y H Q=>scal x y=true/\Q (.bl (!decide (x=y))) H
def sO{i j:Int}:decide (V.int i=V.int j)=(i==j):=by
 rw[Bool.eq_iff_iff];simp
def xF{i j:Bool}:decide (V.bl i=V.bl j)=(i==j):=by
 rw[Bool.eq_iff_iff];simp
def sP{i j:Str}:decide (V.str i=V.str j)=(i==j):=by
 rw[Bool.eq_iff_iff];simp
def sQ{i j:Array UInt8}:decide (V.byt i=V.byt j)=(i.toList==j.toList):=by
 rw[Bool.eq_iff_iff];cases i;cases j;simp
section
variable {X:Cx}{a b c:Expr}{ta tb tc:TE}{pos:Pos}
def aT{d:Z9}{g:St}{H:Hp}{s:ZR}{Q:VK}{k f:Bool}(I:Inv X d g H s)(q:Q (.bl k) H)(e:k=f):EP X d g Q (.bool f) s:=by
 subst e;exact⟨.bl k,H,I,rfl,q⟩
def Gi:OpR X (compareOp .Eq) Tq:=by
 intro k s l H x y v u Q I g d h;obtain⟨f,q⟩:=h
 cases x with
 | non=>
  cases g
  cases y with
  | non=>cases d;exact PySem.EqNone.eq_none_none (aT I q Zs)
  | bl j=>cases d;exact PySem.EqNone.eq_none_bool (aT I q Zs)
  | int j=>obtain⟨e,rfl⟩:=d;exact PySem.EqNone.eq_none_int (aT I q Zs)
  | str j=>obtain⟨e,rfl⟩:=d;exact PySem.EqNone.eq_none_str (aT I q Zs)
  | _=>exact ZO (show false=true from f) ZZ
 | bl i=>
  cases g
  cases y with
  | non=>cases d;exact PySem.EqNone.eq_bool_none (aT I q Zs)
  | bl j=>cases d;exact eq_bool (aT I q xF)
  | str j=>obtain⟨e,rfl⟩:=d;exact PySem.EqMixed.eq_bool_str (aT I q Zs)
  | _=>exact ZO (show false=true from f) ZZ
 | int i=>
  obtain⟨t,rfl⟩:=g
  cases y with
  | non=>cases d;exact PySem.EqNone.eq_int_none (aT I q Zs)
  | int j=>obtain⟨e,rfl⟩:=d;exact eq_int (aT I q sO)
  | str j=>obtain⟨e,rfl⟩:=d;exact PySem.EqMixed.eq_int_str (aT I q Zs)
  | _=>exact ZO (show false=true from f) ZZ
 | str i=>
  obtain⟨t,rfl⟩:=g
  cases y with
  | non=>cases d;exact PySem.EqNone.eq_str_none (aT I q Zs)
  | bl j=>cases d;exact PySem.EqMixed.eq_str_bool (aT I q Zs)
  | int j=>obtain⟨e,rfl⟩:=d;exact PySem.EqMixed.eq_str_int (aT I q Zs)
  | str j=>obtain⟨e,rfl⟩:=d;exact eq_str (aT I q sP)
  | _=>exact ZO (show false=true from f) ZZ
 | byt i=>
  obtain⟨t,rfl⟩:=g
  cases y with
  | byt j=>obtain⟨e,rfl⟩:=d;exact W.eq_bytes (aT I q sQ)
  | _=>exact ZO (show false=true from f) ZZ
 | _=>cases y<;>exact ZO (show false=true from f) ZZ
def Gj:OpR X (compareOp .NotEq) Tr:=by
 intro k s l H x y v u Q I g d h;obtain⟨f,q⟩:=h
 cases x with
 | non=>
  cases g
  cases y with
  | non=>cases d;exact PySem.EqNone.ne_none_none (aT I q Zs)
  | bl j=>cases d;exact PySem.EqNone.ne_none_bool (aT I q Zs)
  | int j=>obtain⟨e,rfl⟩:=d;exact PySem.EqNone.ne_none_int (aT I q Zs)
  | str j=>obtain⟨e,rfl⟩:=d;exact PySem.EqNone.ne_none_str (aT I q Zs)
  | _=>exact ZO (show false=true from f) ZZ
 | bl i=>
  cases g
  cases y with
  | non=>cases d;exact PySem.EqNone.ne_bool_none (aT I q Zs)
  | bl j=>cases d;exact ne_bool (aT I q (congrArg not xF))
  | str j=>obtain⟨e,rfl⟩:=d;exact PySem.EqMixed.ne_bool_str (aT I q Zs)
  | _=>exact ZO (show false=true from f) ZZ
 | int i=>
  obtain⟨t,rfl⟩:=g
  cases y with
  | non=>cases d;exact PySem.EqNone.ne_int_none (aT I q Zs)
  | int j=>obtain⟨e,rfl⟩:=d;exact ne_int (aT I q (congrArg not sO))
  | str j=>obtain⟨e,rfl⟩:=d;exact PySem.EqMixed.ne_int_str (aT I q Zs)
  | _=>exact ZO (show false=true from f) ZZ
 | str i=>
  obtain⟨t,rfl⟩:=g
  cases y with
  | non=>cases d;exact PySem.EqNone.ne_str_none (aT I q Zs)
  | bl j=>cases d;exact PySem.EqMixed.ne_str_bool (aT I q Zs)
  | int j=>obtain⟨e,rfl⟩:=d;exact PySem.EqMixed.ne_str_int (aT I q Zs)
  | str j=>obtain⟨e,rfl⟩:=d;exact ne_str (aT I q (congrArg not sP))
  | _=>exact ZO (show false=true from f) ZZ
 | byt i=>
  obtain⟨t,rfl⟩:=g
  cases y with
  | byt j=>obtain⟨e,rfl⟩:=d;exact W.ne_bytes (aT I q (congrArg not sQ))
  | _=>exact ZO (show false=true from f) ZZ
 | _=>cases y<;>exact ZO (show false=true from f) ZZ
def On:OpR X (compareOp .Lt) (Ck λi j=>.bl (decide (i<j))):=Cl λ_ _ _ _ _ _ _ q=>lt_int q
def Oo:OpR X (compareOp .LtE) (Ck λi j=>.bl (decide (i<=j))):=Cl λ_ _ _ _ _ _ _ q=>le_int q
def Op:OpR X (compareOp .Gt) (Ck λi j=>.bl (decide (j<i))):=Cl λ_ _ _ _ _ _ _ q=>gt_int q
def Oq:OpR X (compareOp .GtE) (Ck λi j=>.bl (decide (j<=i))):=Cl λ_ _ _ _ _ _ _ q=>ge_int q
def Je:OpR X (compareOp .Is) (λx y H Q=>y=.non/\Q (.bl (decide (x=.non))) H):=by
 intro f s g H x y v u Q I d e h;obtain⟨rfl,q⟩:=h;cases e;refine is_none_gen (aT I q ?_);cases x<;>first
  | (cases d;rfl)
  | (obtain⟨t,rfl⟩:=d;rfl)
def Cm:OpR X (compareOp .IsNot) (λx y H Q=>y=.non/\Q (.bl (!decide (x=.non))) H):=by
 intro f s g H x y v u Q I d e h;obtain⟨rfl,q⟩:=h;cases e;refine isnot_none_gen (aT I q ?_);cases x<;>first
  | (cases d;rfl)
  | (obtain⟨t,rfl⟩:=d;rfl)
def nF(b:Expr){op:CmpOp}(h:op≠.In:=by decide)(d:op≠.NotIn:=by decide):behindInMarks op b=false:=by
 have e:(op==CmpOp.In)=false:=by cases op<;>first|rfl|exact ZO rfl h
 have f:(op==CmpOp.NotIn)=false:=by cases op<;>first|rfl|exact ZO rfl d
 cases b<;>simp[behindInMarks,e,f]
def Cn{op:CmpOp}{r:R2}(e:OpR X (compareOp op) r)(f:PE X a ta)(g:PE X b tb)(i:behindInMarks op b=false):PE X (.Compare a [op] [b] pos) (uV r ta tb):=by
 intro d s o H Q I h;exact wpAny_Compare1 (Iw f g I h λv u j x y k l m n q=>e d j o k x y v u Q l m n q) i
def xG(t:TE):TT:=λe H Q=>t e H λx d=>∃k,x=.bl k/\Q k d
def Co{op:CmpOp}{r:R2}(g:OpR X (compareOp op) r)(i:PE X a ta)(j:PE X b tb)(l:behindInMarks op b=false):PT X (.Compare a [op] [b] pos) (xG (uV r ta tb)):=by
 intro d s f H Q I h;refine wpAny_isTrue_Compare1 (bI (i d s f H _ I h) λv m ⟨x,n,o,p,q⟩=>bI (j d m f n _ o q) λu t ⟨y,w,A,B,C⟩=>
  bI (g d t f w x y v u _ A p B C) λc J ⟨z,D,E,F,k,e,G⟩=>?_) l
 subst e;cases F;exact wpAny_truthy_bool ⟨D,E,G⟩
def iD:(sizeLine:Nat)<2^63:=by rw[sizeLine_eq];decide
def qO:OpR X (binaryOp .Add) (λx y H Q=>∃i j,x=.str i/\y=.str j/\i.length+j.length<=sizeLine/\Q (.str (i++j)) H):=by
 intro k s l H x y v u Q I d e h;obtain⟨i,j,rfl,rfl,f,q⟩:=h;obtain⟨t,rfl⟩:=d;obtain⟨g,rfl⟩:=e;exact add_str (λg tk=>⟨.str (i++j),H,I.tok _,⟨_,rfl⟩,q⟩) f
def eL{x:V}{us:List ZS}(r:Vals [x] us):∃u,us=[u]/\RelV x u:=by
 cases r with
 | cons d e=>cases e;exact⟨_,rfl,d⟩
def Os{x y:V}{us:List ZS}(r:Vals [x,y] us):∃u d,us=[u,d]/\RelV x u/\RelV y d:=by
 cases r with
 | cons e f=>
  cases f with
  | cons g h=>cases h;exact⟨_,_,rfl,e,g⟩
def uW(e:X.calm=true):CallR X (.builtin "min") (λxs H Q=>∃i j,xs=[.int i,.int j]/\Q (.int (if j<i then j else i)) H):=by
 intro f s o H xs g Q I r h;obtain⟨i,j,rfl,q⟩:=h;obtain⟨u,l,rfl,⟨t,rfl⟩,⟨m,rfl⟩⟩:=Os r;refine min_two_ints (I.ok.hd e) λn tk k=>⟨_,H,I.kept k,?_,q⟩;by_cases d:j<i
 ·rw[ZQ d,ZQ d];exact⟨_,rfl⟩
 ·rw[ZP d,ZP d];exact⟨_,rfl⟩
def uX:CallR X (.type "int") (λxs H Q=>(∃i,xs=[.int i]/\Q (.int i) H)∨∃k,xs=[.bl k]/\Q (.int (if k then 1 else 0)) H):=by
 intro e s g H xs f Q I r h;rcases h with⟨i,rfl,q⟩|⟨k,rfl,q⟩
 ·obtain⟨u,rfl,t,rfl⟩:=eL r;exact call_int_int ⟨.int i,H,I,⟨_,rfl⟩,q⟩
 ·obtain⟨u,rfl,d⟩:=eL r;cases d;exact call_int_bool ⟨.int (if k then 1 else 0),H,I.tok _,⟨_,rfl⟩,q⟩
def nG:CallR X (.type "str") (λxs H Q=>∃i,xs=[.int i]/\i.natAbs.log2<1920/\Q (.str (toString i)) H):=by
 intro e s g H xs f Q I r h;obtain⟨i,rfl,d,q⟩:=h;obtain⟨u,rfl,t,rfl⟩:=eL r;exact PySem.P.str_of_int d ⟨.str _,H,I.tok _,⟨_,rfl⟩,q⟩
end
structure ObjM(h:Heap)(x dx C:ZT)(mA:Z7):Prop where
 obj:h.get? x=some (W.instObj C dx)
 ns:h.Ns1 dx mA
 ne:dx≠x
def uY{h:Heap}{b:ZT}{c:Z7}(n:h.Ns1 b c):∃d,h.get? b=some d/\∀name,W.lookIn name d=some (c name):=by
 obtain⟨o,f,r,g,i,j,_,k⟩:=n;refine⟨o,g,λname=>?_⟩;have e:=k name;unfold nsFind findBy at e;rw[<- Array.find?_toList]at e;unfold W.lookIn;rw[i];dsimp only;split
 ·rename_i y q;rw[q]at e;exact congrArg some e
 ·rename_i q;rw[q]at e;have a:f.toList.any (·.refKey)=false:=by
   rw[List.any_eq_false];intro y l;obtain⟨z,t,m⟩:=j y (Array.mem_toList_iff.mp l);simp[DictEntry.refKey,m]
  have p:¬ f.toList.any (·.refKey)=true:=by rw[a];exact ZZ
  rw[ZP p];exact congrArg some e
def ObjM.look{h:Heap}{x b C:ZT}{c:Z7}(I:ObjM h x b C c):∃a,W.InstAt h x (W.instObj C b) C (some a)/\∀name,W.lookIn name a=some (c name):=
 let ⟨a,d,e⟩:=uY I.ns
 ⟨a,⟨I.obj,rfl,rfl,d⟩,e⟩
section
variable {prog:Program}{w:World}{A:Around}{E:Z8}{s:ZR}{K:W.Frag}{x dx C f:ZT}{mA:Z7}{name:Str}{v:ZS}
def Cp{a:Bool}{Q:Z8}(X:K.In s.heap)(I:ObjM s.heap x dx C mA)(b:W.plainGet K C name=true)(c:W.hasDictIn K C=true)(d:W.findIn K (.ref C) name=some none)(e:mA name=some v)(g:W.handedIn v=true)(h:Q v {s with toks:=s.toks+1 }) :
  wpAny (model prog w) A (getAttr (.ref x) name a) Q E s:=by
 obtain⟨j,J,i⟩:=I.look;exact W.get_value X J (W.plainGet_of b).1 (W.findObj_own c d rfl (by rw[i,e])) g h
def xH{pl:Sem Bool}{Q:ZS×List ZS->ZR->Prop}(X:K.In s.heap)(I:ObjM s.heap x dx C mA)(a:W.plainGet K C name=true)(b:W.findIn K (.ref C) name=some (some (.ref f)))(c:W.isFn K (.ref f)=true)(d:mA name=none)(h:Q (.ref f,[.ref x]) s) :
  wpAny (model prog w) A (getMethod (.ref x) name pl) Q E s:=by
 obtain⟨e,J,g⟩:=I.look;exact W.method_fn X J (W.plainGet_of a).1 (W.plainGet_of a).2 b (beq_iff_eq.mp c) (by show(W.lookIn name e).map (·.isSome)=some false;rw[g,d];rfl) h
def Cq{c:List Str}{Q:Unit->ZR->Prop}(X:K.In s.heap)(I:ObjM s.heap x dx C mA)(g:W.findIn K (.ref C) "__setattr__"=some (some (.builtin "object.__setattr__")))(i:W.plainOver K C=true)(j:W.takerIn K C name=some none)(k:W.hasDictIn K C=true)(l:PySem.Within mA c)(hsz:c.length<=sizeLine)(h:∀h',ObjM h' x dx C (λy=>if y=name then some v else mA y)->Heap.SameBut dx s.heap h'->Q () {s with heap:=h',toks:=s.toks+2 }) :
  wpAny (model prog w) A (setAttr (.ref x) name v) Q E s:=by
 obtain⟨u,J,z⟩:=I.look;refine W.set_plain X J g (W.osa_open (s:={s with toks:=s.toks+1 }) (r:=none) X J i j λb=>?_);obtain⟨B,m,n⟩:=W.any_some k;have o:s.heap.get? x=some ⟨.ref C,some dx,.plain,#[]⟩:=I.obj;refine Z6 (Z5 (Z6 (Z6 (wpAny_loadPart o (Z6 (W.Looks.here (s:={s with toks:=s.toks+1 }) (W.looks_clsIn X m) ?_))))));rw[n];refine Z5 (a:=some dx) (Z6 (Z5 (Z6 ?_)));refine wpAny_nsSet1 (s:={s with toks:=s.toks+1 }) I.ns λh' d e=>?_;obtain⟨D,F,G,p,q,t⟩:=d.count (PySem.Within.cons name v l);refine Z6 (wpAny_lookBehind p (by rw[q];exact pastItsLine_dict (eJ t (by rw[qH];omega))) ?_);exact Z5 (h _ ⟨(e.2 _ (Ne.symm I.ne)).trans I.obj,d,I.ne⟩ e)
def xI{R:Result->ZR->Prop}{vs:List ZS}{a:List (Str × Value)}(X:K.In s.heap)(c:W.makesIn K C=true)(e:W.findIn K (.ref C) "__init__"=some (some (.ref f)))(i:W.typeIn K (.ref f)=some (.type "function"))(h:codeAny (model prog w) (A.under (.builtin "type.__call__" ⟨.ref C::vs,a⟩)) (.call (.ref f) ⟨.ref (s.heap.objs.size+1)::vs,a⟩) (W.InitBack (s.heap.objs.size+1) R)
   {s with heap:=(s.heap.push W.emptyDict).push (W.instObj C s.heap.objs.size) }) :
  codeAny (model prog w) A (.call (.ref C) ⟨vs,a⟩) R s:=by
 obtain⟨j,g,d,t,os⟩:=s;exact W.make_core (W.makes_of X c) (W.looks_findIn X e) (λb=>W.bind_fn X b i) (.inl rfl) h
end
def cW(f:Str)(v:V):List (Str×V)->List (Str×V)
 | []=>[(f,v)]
 | (g,x)::r=>if g=f then (g,v)::r else (g,x)::cW f v r
theorem iV(f g:Str)(v:V):∀fs:List (Str×V),(cW f v fs).lookup g=if g=f then some v else fs.lookup g
 | []=>by
  show List.lookup g [(f,v)]=_;by_cases h:g=f
  ·have a:(g==f)=true:=beq_iff_eq.mpr h;simp only [List.lookup,a,ZQ h]
  ·have a:(g==f)=false:=beq_eq_false_iff_ne.mpr h;simp only [List.lookup,a,ZP h]
 | (k,x)::r=>by
  have c:=iV f g v r;rw[show cW f v ((k,x)::r)=(if k=f then (k,v)::r else (k,x)::cW f v r) from rfl];by_cases b:k=f
  ·rw[ZQ b];by_cases h:g=k
   ·have a:(g==k)=true:=beq_iff_eq.mpr h;simp only [List.lookup,a,ZQ (h.trans b)]
   ·have a:(g==k)=false:=beq_eq_false_iff_ne.mpr h;simp only [List.lookup,a,ZP (λe:g=f=>h (e.trans b.symm))]
  ·rw[ZP b];by_cases h:g=k
   ·have a:(g==k)=true:=beq_iff_eq.mpr h;simp only [List.lookup,a,ZP (λe:g=f=>b (h.symm.trans e))]
   ·have a:(g==k)=false:=beq_eq_false_iff_ne.mpr h;simp only [List.lookup,a];exact c
def iE(f:Str)(v:V):∀fs:List (Str×V),f∈(cW f v fs).map (·.1)/\∀g,g∈fs.map (·.1)->g∈(cW f v fs).map (·.1)
 | []=>⟨by simp[cW],λg h=>by simp at h⟩
 | (k,x)::r=>by
  obtain⟨b,c⟩:=iE f v r;rw[show cW f v ((k,x)::r)=(if k=f then (k,v)::r else (k,x)::cW f v r) from rfl];by_cases a:k=f
  ·rw[ZQ a];subst a;exact⟨Zs,λg h=>by simpa using h⟩
  ·rw[ZP a];refine⟨?_,λg h=>?_⟩
   ·rw[map_cons];exact jE _ b
   ·rw[map_cons]at h ⊢;rcases mem_cons.mp h with e|e
    ·exact mem_cons.mpr (.inl e)
    ·exact jE _ (c g e)
theorem iW(f:Str)(v:V):∀fs:List (Str×V),(cW f v fs).length<=fs.length+1
 | []=>by simp[cW]
 | (k,x)::r=>by
  have b:=iW f v r;rw[show cW f v ((k,x)::r)=(if k=f then (k,v)::r else (k,x)::cW f v r) from rfl];by_cases a:k=f
  ·rw[ZQ a,qH,qH];omega
  ·rw[ZP a,qH,qH];omega
def RelO.some_of{v:V}{o:Option ZS}(r:RelO (some v) o):∃u,o=some u/\RelV v u:=by
 cases o with
 | none=>exact(show False from r).elim
 | some u=>exact⟨u,rfl,r⟩
def RelO.none_of{o:Option ZS}(r:RelO none o):o=none:=by
 cases o with
 | none=>rfl
 | some u=>exact(show False from r).elim
def uZ{v:V}{u:ZS}(r:RelV v u):W.handedIn u=true:=by
 cases v with
 | non=>cases(show u=Value.none from r);rfl
 | bl b=>cases(show u=Value.bool b from r);rfl
 | int i=>obtain⟨t,e⟩:=(show ∃t,u=Value.int i t from r);cases e;rfl
 | str x=>obtain⟨t,e⟩:=(show ∃t,u=Value.str x t from r);cases e;rfl
 | byt b=>obtain⟨t,e⟩:=(show ∃t,u=Value.bytes b t from r);cases e;rfl
 | flt b=>obtain⟨t,e⟩:=(show ∃t,u=Value.float b t from r);cases e;rfl
 | ref a=>cases(show u=Value.ref a from r);rfl
 | ty n=>cases(show u=Value.type n from r);rfl
section
variable {P:Program}{w:World}{H H':Hp}{h h':Heap}{a C dx:ZT}{fs JE:List (Str×V)}
def jJ(c:HOk P w H h)(e:H a=some (.ins C dx fs)):∃b,ObjM h a dx C b/\(∀f,RelO (fs.lookup f) (b f))/\PySem.Within b (fs.map (·.1))/\fs.length<=1000/\H dx=some (.own a):=by
 obtain⟨d,z,ne,g,b,n,r,q⟩:=(show ObjOk P w H h a (.ins C dx fs) from c a _ e);exact⟨b,⟨g,n,ne⟩,r,q,z,d⟩
end
structure Cls(K:W.Frag)(C:ZT):Prop where
 pg:W.plainGet K C Str.empty=true
 hd:W.hasDictIn K C=true
 po:W.plainOver K C=true
 sa:W.findIn K (.ref C) "__setattr__"=some (some (.builtin "object.__setattr__"))
def Cls.get{K:W.Frag}{C:ZT}(c:Cls K C)(f:Str):W.plainGet K C f=true:=c.pg
def NoAttr(K:W.Frag)(C:ZT)(f:Str):Prop:=W.findIn K (.ref C) f=some none
def NoAttr.taker{K:W.Frag}{C:ZT}{f:Str}(n:NoAttr K C f):W.takerIn K C f=some none:=by
 unfold W.takerIn;rw[show W.findIn K (.ref C) f=some none from n];rfl
structure Jf(K:W.Frag)(C:ZT)(m:Str)(f:ZT):Prop where
 at_:W.findIn K (.ref C) m=some (some (.ref f))
 fn:W.isFn K (.ref f)=true
 kp:W.keepIn K (.ref f)=true
section
variable {X:Cx}{pins:Z9}{σ:St}{H:Hp}{s:ZR}{a C dx:ZT}{fs:List (Str×V)}{f:Str}{v:V}{A:Around}{E:Z8}
def qP{b:Bool}{Q:Z8}(I:Inv X pins σ H s)(e:H a=some (.ins C dx fs))(c:Cls X.K C)(n:NoAttr X.K C f)(l:fs.lookup f=some v)(h:∀u d,Inv X pins σ H d->RelV v u->Q u d):wpAny (model X.prog X.w) A (getAttr (.ref a) f b) Q E s:=by
 obtain⟨i,O,r,_,_,_⟩:=jJ I.hok e;obtain⟨u,j,g⟩:=RelO.some_of (v:=v) (o:=i f) (by rw[<- l];exact r f);exact Cp I.kIn O (c.get f) c.hd n j (uZ g) (h u _ (I.tok _) g)
def jU{m:Str}{g:ZT}{pl:Sem Bool}{Q:ZS×List ZS->ZR->Prop}(I:Inv X pins σ H s)(e:H a=some (.ins C dx fs))(c:Cls X.K C)(k:Jf X.K C m g)(l:fs.lookup m=none)(h:Q (.ref g,[.ref a]) s):wpAny (model X.prog X.w) A (getMethod (.ref a) m pl) Q E s:=by
 obtain⟨b,O,r,_,_,_⟩:=jJ I.hok e;have d:b m=none:=RelO.none_of (by rw[<- l];exact r m);exact xH I.kIn O (c.get m) k.at_ k.fn d h
def qQ{y:V}{u:ZS}{Q:Unit->ZR->Prop}(I:Inv X pins σ H s)(e:H a=some (.ins C dx fs))(c:Cls X.K C)(n:NoAttr X.K C f)(J:fs.length<1000)(m:RelV y u)(h:∀i,Inv X pins σ (aJ H a (.ins C dx (cW f y fs))) i->Q () i):wpAny (model X.prog X.w) A (setAttr (.ref a) f u) Q E s:=by
 obtain⟨j,O,r,k,_,l⟩:=jJ I.hok e;have p:(fs.map (·.1)).length<=sizeLine:=by rw[bA,sizeLine_eq];omega
 refine Cq I.kIn O c.sa c.po n.taker c.hd k p λt d w=>h _ ?_;have B:∃o,t.get? dx=some o:=let ⟨o,_,_,D,_⟩:=d.ns;⟨o,D⟩;refine I.write (x:=a) (e:=dx) (by rw[e];exact True.intro) (.inr l) (λb q F z=>(w.2 b F).trans z) B ?_;refine⟨by rw[aD O.ne];exact l,?_,O.ne,d.obj,_,d.ns,λg=>?_,λg G=>?_⟩
 ·have:=iW f y fs;omega
 ·show RelO ((cW f y fs).lookup g) (if g=f then some u else j g);rw[iV];by_cases q:g=f
  ·rw[ZQ q,ZQ q];exact m
  ·rw[ZP q,ZP q];exact r g
 ·by_cases q:g=f
  ·rw[q];exact(iE f y fs).1
  ·refine(iE f y fs).2 g (k g λz=>G ?_);show(if g=f then some u else j g)=none;rw[ZP q];exact z
def Inv.made(I:Inv X pins σ H s):Inv X pins σ (aJ (aJ H s.heap.objs.size (.own (s.heap.objs.size+1))) (s.heap.objs.size+1) (.ins C s.heap.objs.size []))
  {s with heap:=(s.heap.push W.emptyDict).push (W.instObj C s.heap.objs.size) }:=by
 have c:(s.heap.push W.emptyDict).get? s.heap.objs.size=some W.emptyDict:=ZU s.heap rfl;have d:((s.heap.push W.emptyDict).push (W.instObj C s.heap.objs.size)).get? (s.heap.objs.size+1)=some (W.instObj C s.heap.objs.size):=by
  have:=ZU (s.heap.push W.emptyDict) (o:=W.instObj C s.heap.objs.size) rfl
  rwa [Heap.size_push]at this
 have g:(s.heap.push W.emptyDict).Ns s.heap.objs.size (λ_=>none):=⟨W.emptyDict,#[],_,c,rfl,(λe h=>ZO h Zs),λ_=>rfl⟩;have i:=I.laid (a:=s.heap.objs.size) (o:=.own (s.heap.objs.size+1)) (h':=s.heap.push W.emptyDict) (t':=s.toks) (λb u q=>fB _ q) (bH _) ⟨_,c⟩;refine i.laid (a:=s.heap.objs.size+1) (o:=.ins C s.heap.objs.size []) (t':=s.toks) (λb u q=>fB _ q) (le_of_eq (Heap.size_push _ _)) ?_;have ne:s.heap.objs.size≠s.heap.objs.size+1:=ne_of_lt (lt_succ_self _);refine⟨by rw[aD ne,aA],zero_le _,ne,d,λ_=>none,(Heap.Ns1.of_empty g).at λo q=>fB _ q,λ_=>True.intro,λy j=>ZO rfl j⟩
def Cr{prog:Program}{w:World}{env:Env}{e:Expr}{f:Str}{pos:Pos}{s:ZR}{Q:Z8}(c:attributeBase e f env (eval e env)=eval e env)(h:wpAny (model prog w) A (eval e env) (λo b=>wpAny (model prog w) A (getAttr o f true) Q E b) E s):wpAny (model prog w) A (eval (.Attribute e f pos) env) Q E s:=
 Attribute_any_ h (by rw[arm_eval_Attribute,c])
end
section
variable {X:Cx}{pins:Z9}{σ:St}{H:Hp}{s:ZR}{A:Around}{E:Z8}{Q:Z8}{c:ZS}{b:Bool}
inductive gL(K:W.Frag)(H:Hp):V->ZS->Prop where
 | non:gL K H .non (.type "NoneType")
 | bl (x:Bool):gL K H (.bl x) (.type "bool")
 | int (i:Int):gL K H (.int i) (.type "int")
 | str (x:Str):gL K H (.str x) (.type "str")
 | flt (x:UInt64):gL K H (.flt x) (.type "float")
 | lst {a:ZT}{xs:List V} (e:H a=some (.lst xs)):gL K H (.ref a) (.type "list")
 | frz {a:ZT}{o:Obj}{xs:List V} (e:H a=some (.frz o (.lst xs))):gL K H (.ref a) (.type "list")
 | tup {a:ZT}{xs:List V} (e:H a=some (.tup xs)):gL K H (.ref a) (.type "tuple")
 | dK {a:ZT}{kvs:List (aR×V)} (e:H a=some (.dK kvs)):gL K H (.ref a) (.type "dict")
 | dT {a:ZT}{kvs:List (List aR×V)} (e:H a=some (.dT kvs)):gL K H (.ref a) (.type "dict")
 | ins {a C dx:ZT}{fs:List (Str×V)} (e:H a=some (.ins C dx fs)) (cl:Cls K C) (ha:W.findIn K (.ref C) "__class__"=some (some (.builtin "object.__class__")))
   (hn:W.specialIn K (.builtin "object.__class__") "__get__"=some (some (.builtin "getset_descriptor.__get__"))) (htk:W.takesIn K (.builtin "object.__class__")=some true)
   (hm:W.mroIn K C (.type "object")=some true):gL K H (.ref a) (.ref C)
def vA{x:V}{u t:ZS}(I:Inv X pins σ H s)(d:RelV x u)(ty:gL X.K H x t)(e:W.kitOne X.K t c=some b)(h:∀tk,Q (.bool b) {s with toks:=tk }) :
  wpAny (model X.prog X.w) A (call (.builtin "isinstance") [u,c]) Q E s:=by
 cases ty with
 | non=>cases(show u=Value.none from d);exact W.kia_one W.kitx_none I.kIn True.intro e nofun h
 | bl y=>cases(show u=Value.bool y from d);exact W.kia_one W.kitx_bool I.kIn True.intro e nofun h
 | int i=>obtain⟨t,q⟩:=(show ∃t,u=Value.int i t from d);cases q;exact W.kia_one W.kitx_int I.kIn True.intro e nofun h
 | str y=>obtain⟨t,q⟩:=(show ∃t,u=Value.str y t from d);cases q;exact W.kia_one W.kitx_str I.kIn True.intro e nofun h
 | flt y=>obtain⟨t,q⟩:=(show ∃t,u=Value.float y t from d);cases q;exact W.kia_one W.kitx_float I.kIn True.intro e nofun h
 | @lst a j f=>
  cases(show u=Value.ref a from d);obtain⟨_,_,n,_,g⟩:=(show ObjOk X.prog X.w H s.heap a (.lst j) from I.hok a _ f);exact W.kia_one W.kitx_list I.kIn ⟨_,g,rfl⟩ e nofun h
 | @frz a v j f=>
  cases(show u=Value.ref a from d);obtain⟨_,_,_,n,_,g⟩:=(show ObjOk X.prog X.w H s.heap a (.frz v (.lst j)) from I.hok a _ f);exact W.kia_one W.kitx_list I.kIn ⟨_,g,rfl⟩ e nofun h
 | @tup a j f=>
  cases(show u=Value.ref a from d);obtain⟨_,_,_,p⟩:=(show ObjOk X.prog X.w H s.heap a (.tup j) from I.hok a _ f);obtain⟨o,g,k,_⟩:=p;exact W.kia_one W.kitx_tuple I.kIn ⟨o,g,k⟩ e nofun h
 | @dK a l f=>
  cases(show u=Value.ref a from d);obtain⟨_,_,vs,_,p⟩:=(show ObjOk X.prog X.w H s.heap a (.dK l) from I.hok a _ f);obtain⟨o,w,z,g,k,_⟩:=p;exact W.kia_one W.kitx_dict I.kIn ⟨o,g,k.1⟩ e nofun h
 | @dT a l f=>
  cases(show u=Value.ref a from d);obtain⟨_,_,j,_,o,w,z,g,k,_⟩:=(show ObjOk X.prog X.w H s.heap a (.dT l) from I.hok a _ f);exact W.kia_one W.kitx_dict I.kIn ⟨o,g,k.1⟩ e nofun h
 | @ins a C G fs f m B D r F=>
  cases(show u=Value.ref a from d);obtain⟨K,O,_⟩:=jJ I.hok f;obtain⟨L,J,_⟩:=O.look;exact W.kia_one (W.kitx_own (m.get _) m.hd B D r F) I.kIn J e nofun h
end
structure Room(k:Nat)(A:Around):Prop where
 hd:A.handled=none
 dp:A.depth+3*k+5<recursionLimit
 un:A.units+16*k+200<cLine
def Room.mono{j k:Nat}{A:Around}(r:Room k A)(h:j<=k):Room j A:=⟨r.hd,by have:=r.dp;omega,by have:=r.un;omega⟩
def Room.deeper{k:Nat}{A:Around}(r:Room (k+1) A)(env:Env):Room k (A.deeper env):=
 ⟨r.hd,by have:=r.dp;show A.depth+1+3*k+5<_;omega,by have:=r.un;show A.units+3+16*k+200<_;omega⟩
def qR{A:Around}{C:ZT}{us:List ZS}{a:List (Str×ZS)}:(A.under (.builtin "type.__call__" ⟨.ref C::us,a⟩)).depth=A.depth+1:=by
 first|rfl|simp[Around.under,Code.weight,Code.isCreation,Code.isGuard,Code.isCaller,Code.frames,Code.isFrame,guardIds]
def qS{A:Around}{C:ZT}{us:List ZS}{a:List (Str×ZS)}:(A.under (.builtin "type.__call__" ⟨.ref C::us,a⟩)).units=A.units+1:=by
 first|rfl|simp[Around.under,Code.cUnits,Code.frames,Code.isFrame]
def Room.make{k:Nat}{A:Around}(r:Room (k+1) A)(C:ZT)(us:List ZS)(a:List (Str×ZS)):Room k (A.under (.builtin "type.__call__" ⟨.ref C::us,a⟩)):=
 ⟨r.hd,by have:=r.dp;rw[qR];omega,by have:=r.un;rw[qS];omega⟩
def Room.depth{k:Nat}{A:Around}(r:Room k A):A.depth<recursionLimit:=by have:=r.dp;omega
def Room.units{k:Nat}{A:Around}(r:Room k A):A.units+64<cLine:=by have:=r.un;omega
def Room.units0{k:Nat}{A:Around}(r:Room k A):A.units<cLine:=by have:=r.un;omega
def fR:TA:=λ_ H Q=>Q [] H
def dA(b:TE)(c:TA):TA:=λa H Q=>b a H λx d=>c a d λe f=>Q (x::e) f
section
variable {X:Cx}{e:Expr}{es:List Expr}{te:TE}{t:TA}{pos:Pos}
def qT:PA X [] fR:=λ_ _ _ _ H Q I h=>Calls.spliced_nil ⟨[],H,I,.nil,h⟩
def nH(c:PE X e te)(d:PA X es t)(f:starEach (e::es) X.env=(false,eval e X.env)::starEach es X.env:=by rfl):PA X (e::es) (dA te t):=by
 intro pos a s b H Q I h;rw[f];show wpAny _ _ (spliced ((false,eval e X.env)::backTo pos (starEach es X.env))) _ _ s;refine Calls.spliced_cons (bI (c a s b H _ I h) ?_);rintro u g ⟨x,i,j,k,l⟩;exact bI (d pos a g b i _ j l) λr v ⟨m,n,o,p,q⟩=>⟨x::m,n,o,.cons k p,q⟩
def Ot(t:TA):TE:=λc H Q=>t c H λa b=>a.length<=sizeLine/\∀p,b p=none->Q (.ref p) (aJ b p (.tup a))
def Jg(t:TA):TE:=λc H Q=>t c H λa b=>a.length<=sizeLine/\∀p,b p=none->Q (.ref p) (aJ b p (.lst a))
def Jh{g}(h:PA X es t):PE X (.Tuple es g pos) (Ot t):=by
 intro f s m H Q I i;refine wpAny_Tuple_spliced (bI (h pos f s m H _ I i) λj a ⟨k,c,d,r,z,q⟩=>⟨by rw[<- r.length];exact z,?_⟩);have l:c a.heap.objs.size=none:=d.hok.fresh (bH _);refine⟨.ref a.heap.objs.size,aJ c a.heap.objs.size (.tup k),d.laid (t':=a.toks) (λb u e=>fB _ e) (bH _) ?_,rfl,q _ l⟩;exact⟨z,j,r,⟨_,ZU _ rfl,rfl,_,rfl⟩⟩
def Ji(h:PA X es t):PE X (.List es pos) (Jg t):=by
 intro f s l H Q I g;refine wpAny_List_spliced (bI (h pos f s l H _ I g) λi a ⟨j,c,d,r,z,q⟩=>⟨by rw[<- r.length];exact z,?_⟩);have k:c a.heap.objs.size=none:=d.hok.fresh (bH _);refine⟨.ref a.heap.objs.size,aJ c a.heap.objs.size (.lst j),d.laid (t':=a.toks) (λb u e=>fB _ e) (bH _) ?_,rfl,q _ k⟩;exact⟨z,i,0,r,ZU _ rfl⟩
end
abbrev Sp:=List V->Hp->VK->XK->Prop
abbrev Bv:=List Env->Hp->ZR->XK->ZS->ZR->Prop
structure Env0(P:Program)(w:World)(K:W.Frag)(mg:Z7)(base:Heap)(A:Around)(outer:List Env)(s:ZR)(H:Hp):Prop where
 frames:A.frames=some outer
 mod:Mod K mg base
 bs:∀b o,base.get? b=some o->s.heap.get? b=some o/\H b=none
 bsz:base.objs.size<=s.heap.objs.size
 funs:s.heap.FunFrames base outer
 frf:∀b∈wU outer,H b=none
 hok:HOk P w H s.heap
 bare:AllBare s.gens
def CE(outer:List Env)(P:Program)(w:World)(H:Hp)(s:ZR)(Q:VK)(u:ZS)(a:ZR):Prop:=
 ∃v b,a.os=s.os/\AllBare a.gens/\Un (wU outer) [] H b s.heap a.heap/\HOk P w b a.heap/\RelV v u/\Q v b
def CR(CX:Bv)(outer:List Env)(P:Program)(w:World)(H:Hp)(s:ZR)(Q:VK)(E:XK)(r:Result)(a:ZR):Prop:=
 match r with
 | .ok (.ret u)=>CE outer P w H s Q u a
 | .ok _=>False
 | .error e=>CX outer H s E e a
structure eN(P:Program)(w:World)(K:W.Frag)(mg:Z7)(base:Heap)(CX:Bv)(k:Nat)(f:ZT)(fd:FuncData)(ps:List Str)(sp:Sp):Prop where
 len:∀vs H Q E,sp vs H Q E->vs.length=ps.length
 run:∀(A:Around)(outer:List Env)(s:ZR)(H:Hp)(args:Args)(us:List ZS)(vs:List V)(Q:VK)(E:XK),Room k A->Env0 P w K mg base A outer s H->BindsTo s fd args (ps.zip us)->Vals vs us->sp vs H Q E →
  codeAny (model P w) A (.call (.ref f) args) (CR CX outer P w H s Q E) s
def Env0.make{P:Program}{w:World}{K:W.Frag}{mg:Z7}{base:Heap}{A:Around}{outer:List Env}{s:ZR}{H:Hp}(e:Env0 P w K mg base A outer s H)(C:ZT)(us:List ZS)(a:List (Str×ZS)) :
  Env0 P w K mg base (A.under (.builtin "type.__call__" ⟨.ref C::us,a⟩)) outer s H:=⟨by first|exact e.frames|(simpa [Around.under,Code.envs,Code.isFrame,pushEnvs]using e.frames),e.mod,e.bs,e.bsz,e.funs,e.frf,e.hok,e.bare⟩
section
variable {X:Cx}{pins:Z9}{σ:St}{H:Hp}{s s':ZR}
def Inv.env0(I:Inv X pins σ H s):Env0 X.prog X.w X.K X.mg X.base X.A X.stack s H:=
 ⟨I.ok.frames,I.ok.mod,I.bs,eJ I.ok.bsz I.sz,I.stack,I.stkFree,I.hok,I.bare⟩
def Inv.after{Q:VK}{u:ZS}(I:Inv X pins σ H s)(h:CE X.stack X.prog X.w H s Q u s'):EP X pins σ Q u s':=by
 obtain⟨v,e,os,a,un,c,r,q⟩:=h;obtain⟨f,g,d,t,i⟩:=s';obtain rfl:i=s.os:=os;exact⟨v,e,I.call (h':=f) (g':=g) (d':=d) (t':=t) (ch:=[]) un c a (λb z=>ZO z Zs),r,q⟩
end
def Ou(sp:Sp)(dvs:List V)(E:XK)(t:TA):TE:=λb H Q=>t b H λvs a=>sp (vs++dvs) a Q E
def xJ(C:ZT)(sp:Sp)(dvs:List V)(E:XK)(t:TA):TE:=λd H Q=>t d H λvs b=>∀x a,b x=none->b a=none->a≠x →
 sp (.ref x::(vs++dvs)) (aJ (aJ b a (.own x)) x (.ins C a [])) (λv c=>v=.non/\Q (.ref x) c) E
def Binds(K:W.Frag)(b:FuncData)(ps:List Str)(ds:List ZS):Prop:=
 ∀(s:ZR)(a:List ZS),K.In s.heap->(a++ds).length=ps.length->BindsTo s b ⟨a,[]⟩ (ps.zip (a++ds))
def Binds.all{K:W.Frag}{a:FuncData}{ps:List Str}(h:∀us:List ZS,us.length=ps.length->bindArgs a ⟨us,[]⟩=pure (ps.zip us)):Binds K a ps []:=λs us _ b=>by
 rw[append_nil]at b ⊢;exact .of_eq (h us b)
def jV(CX:Bv)(X:Cx)(E:XK):Prop:=∀(b:Z9)(c:St)(H:Hp)(s:ZR)(e:ZS)(a:ZR),Inv X b c H s->CX X.stack H s E e a->X.xe e a
section
variable {X:Cx}{CX:Bv}{k:Nat}{f C:ZT}{fd:FuncData}{ps:List Str}{sp:Sp}{dvs:List V}{ds:List ZS}{E:XK}{x m:Str}{p pos apos:Pos}{e o:Expr}{es:List Expr}{ta:TE}{t:TA}
def qU{b:Z9}{c:St}{H:Hp}{s:ZR}{Q:VK}{us:List ZS}{vs:List V}(F:eN X.prog X.w X.K X.mg X.base CX k f fd ps sp)(g:Room k X.A)(i:Binds X.K fd ps ds)(j:Vals dvs ds)(l:jV CX X E)(I:Inv X b c H s)(r:Vals vs us)(h:sp (vs++dvs) H Q E):wpAny (model X.prog X.w) X.A (call (.ref f) us) (EP X b c Q) X.xe s:=by
 have d:Vals (vs++dvs) (us++ds):=r.append j;have n:(us++ds).length=ps.length:=by rw[<- d.length];exact F.len _ _ _ _ h
 refine wpAny_call (codeAny_mono (F.run X.A X.stack s H ⟨us,[]⟩ (us++ds) (vs++dvs) Q E g I.env0 (i s us I.kIn n) d h) λr q a=>?_)
 cases r with
 | error e=>exact l b c H s e q I a
 | ok v=>
  cases v with
  | ret u=>exact I.after a
  | next=>exact False.elim a
  | brk=>exact False.elim a
  | cont=>exact False.elim a
def Cs(F:eN X.prog X.w X.K X.mg X.base CX k f fd ps sp)(c:Room k X.A)(d:Gl X x)(g:X.mg x=some (.ref f))(i:W.keepIn X.K (.ref f)=true)(j:Binds X.K fd ps ds)(l:Vals dvs ds)(n:jV CX X E)(u:PA X (e::es) t)(v:(x==("__debug__":Str))=false:=by decide)(w:starEach (e::es) X.env=(false,eval e X.env)::starEach es X.env:=by rfl)(y:(backTo pos (starEach es X.env)).any (·.1)=false:=by rfl) :
  PE X (.Call (.Name x p) (e::es) [] pos) (Ou sp dvs E t):=by
 intro b s z H Q I h;refine wpAny_Call_Name_kw (nD I d g ?_ v);refine W.callWith_K (h₀:=X.base) I.ok.mod.kin i (bI (u pos b s z H _ I h) λA B ⟨vs,D,a,r,q⟩=>⟨a.kIn,?_⟩) w y;exact qU F c j l n a r q
structure Mk(K:W.Frag)(C f:ZT):Prop where
 makes:W.makesIn K C=true
 init:W.findIn K (.ref C) "__init__"=some (some (.ref f))
 fn:W.isFn K (.ref f)=true
 kp:W.keepIn K (.ref C)=true
def xK{d:Z9}{g:St}{H:Hp}{s:ZR}{Q:VK}{us:List ZS}{vs:List V}(M:Mk X.K C f)(F:eN X.prog X.w X.K X.mg X.base CX k f fd ps sp)(l:Room (k+1) X.A)(n:Binds X.K fd ps ds)(q:Vals dvs ds)(w:jV CX X E)(I:Inv X d g H s)(r:Vals vs us)(h:∀x b,H x=none->H b=none->b≠x->sp (.ref x::(vs++dvs)) (aJ (aJ H b (.own x)) x (.ins C b [])) (λv y=>v=.non/\Q (.ref x) y) E) :
  wpAny (model X.prog X.w) X.A (call (.ref C) us) (EP X d g Q) X.xe s:=by
 have i:=h (s.heap.objs.size+1) s.heap.objs.size (I.hok.fresh (le_succ _)) (I.hok.fresh (bH _)) (ne_of_lt (lt_succ_self _));have c:=Inv.made (C:=C) I;have j:Vals (V.ref (s.heap.objs.size+1)::(vs++dvs)) (Value.ref (s.heap.objs.size+1)::(us++ds)):=.cons rfl (r.append q);have z:(Value.ref (s.heap.objs.size+1)::us++ds).length=ps.length:=by
  have e:=j.length;rw[F.len _ _ _ _ i]at e;exact e.symm
 refine wpAny_call (xI (f:=f) I.kIn M.makes M.init (beq_iff_eq.mp M.fn) (codeAny_mono (F.run _ X.stack _ _ ⟨Value.ref (s.heap.objs.size+1)::us,[]⟩ (Value.ref (s.heap.objs.size+1)::(us++ds)) _ _ E (l.make C us [])
  (c.env0.make C us []) (n _ (Value.ref (s.heap.objs.size+1)::us) c.kIn z) j i) λr A a=>?_))
 cases r with
 | error e=>exact w d g _ _ e A c a
 | ok B=>
  cases B with
  | ret u=>
   obtain⟨v,D,G,J,K,L⟩:=c.after a;subst K;exact⟨J,⟨V.ref (s.heap.objs.size+1),D,G,rfl,L⟩⟩
  | next=>exact False.elim a
  | brk=>exact False.elim a
  | cont=>exact False.elim a
def xL(M:Mk X.K C f)(F:eN X.prog X.w X.K X.mg X.base CX k f fd ps sp)(a:Room (k+1) X.A)(b:Gl X x)(c:X.mg x=some (.ref C))(d:Binds X.K fd ps ds)(g:Vals dvs ds)(i:jV CX X E)(j:(x==("__debug__":Str))=false:=by decide):PE X (.Call (.Name x p) [] [] pos) (xJ C sp dvs E fR):=by
 intro l s n H Q I h;refine wpAny_Call_Name_kw (nD I b c ?_ j);exact W.callWith_K0 I.kIn M.kp (xK (us:=[]) M F a d g i I .nil h)
end
structure cJ(N P:List Str)(sc:Scope):Prop where
 kind:sc.kind=.function
 co:sc.isCoroutine=false
 gen:sc.isGenerator=false
 nd:N.Nodup
 pre:N.take P.length=P
 par:∀x∈P,sc.names.lookup x=some .local∨sc.names.lookup x=some .cell
 nofree:∀y∈sc.names,y.2≠.free
theorem lQ{kindOf:Str->Option NameKind}{x:Str}:∀ {binds:List (Str×ZS)}{m:Z7},(∀v,(x,v)∉binds)->bindL kindOf binds m x=m x
 | [],_,_=>rfl
 | (n,v)::r,m,h=>by
  unfold bindL;rw[lQ λw a=>h w (jE _ a)];split
  ·have:x≠n:=by rintro rfl;exact h v dI
   simp[this]
  ·rfl
theorem lR{kindOf:Str->Option NameKind}{x:Str}:∀ {binds:List (Str×ZS)}{m:Z7},(∀v,(x,v)∉binds)->bindC kindOf binds m x=m x
 | [],_,_=>rfl
 | (n,v)::r,m,h=>by
  unfold bindC;rw[lR λw a=>h w (jE _ a)];split
  ·rfl
  ·have:x≠n:=by rintro rfl;exact h v dI
   simp[this]
theorem lS{kindOf:Str->Option NameKind}{x:Str}{v:ZS}:∀ {P:List Str}{vs:List ZS}{i:Nat}{m:Z7},P.Nodup->P[i]?=some x->vs[i]?=some v->kindOf x=some .local →
  bindL kindOf (P.zip vs) m x=some v
 | [],_,_,_,_,h,_,_=>by simp at h
 | _::_,[],_,_,_,_,h,_=>by simp at h
 | p::P,w::vs,0,m,c,a,b,d=>by
  simp at a b;subst a;subst b;show bindL kindOf ((p,w)::P.zip vs) m p=_;unfold bindL;rw[lQ λv e=>(nodup_cons.mp c).1 (of_mem_zip e).1,ZQ d];simp
 | p::P,w::vs,i+1,m,c,a,b,d=>by
  show bindL kindOf ((p,w)::P.zip vs) m x=_;unfold bindL;exact lS (i:=i) (nodup_cons.mp c).2 (by simpa using a) (by simpa using b) d
theorem lT{kindOf:Str->Option NameKind}{x:Str}{v:ZS}:∀ {P:List Str}{vs:List ZS}{i:Nat}{m:Z7},P.Nodup->P[i]?=some x->vs[i]?=some v->kindOf x≠some .local →
  bindC kindOf (P.zip vs) m x=some v
 | [],_,_,_,_,h,_,_=>by simp at h
 | _::_,[],_,_,_,_,h,_=>by simp at h
 | p::P,w::vs,0,m,c,a,b,d=>by
  simp at a b;subst a;subst b;show bindC kindOf ((p,w)::P.zip vs) m p=_;unfold bindC;rw[lR λv e=>(nodup_cons.mp c).1 (of_mem_zip e).1,ZP d];simp
 | p::P,w::vs,i+1,m,c,a,b,d=>by
  show bindC kindOf ((p,w)::P.zip vs) m x=_;unfold bindC;exact lT (i:=i) (nodup_cons.mp c).2 (by simpa using a) (by simpa using b) d
def start(N:List Str)(vs:List V):St:=vs.map some++replicate (N.length-vs.length) none
def eO(CX:Bv)(P:Program)(w:World)(K:W.Frag)(mg:Z7)(base:Heap)(N:List Str)(b:Str)(a:Scope)(f:ZT)(c:ZS)(A:Around)(outer:List Env)(s:ZR)(H:Hp)(E:XK):Cx where
 prog:=P
 w:=w
 K:=K
 mg:=mg
 base:=base
 A:=A.deeper (envOfC b a s.heap.objs.size f c)
 N:=N
 s₀:=s
 H₀:=H
 env:=envOfC b a s.heap.objs.size f c
 outer:=outer
 stack:=envOfC b a s.heap.objs.size f c::outer
 ex:=[]
 calm:=true
 fn:=λ_=>true
 pn:=[]
 xe:=λe g=>wpAny (model P w) (A.deeper (envOfC b a s.heap.objs.size f c)) (leaving (envOfC b a s.heap.objs.size f c) e) (λ_ d=>CX outer H s E e d) (λh d=>CX outer H s E h d) g
def oZ{sc:Scope}{n:Nat}{x:Str}(h:sc.names.lookup x=some .cell):∃c,(cellsFrom n sc.names []).lookup x=some c:=by
 have q:=W.cellsFrom_some sc.names n [] (.inl h);exact Option.isSome_iff_exists.mp q
def vB{CX:Bv}{P:Program}{w:World}{K:W.Frag}{mg:Z7}{base:Heap}{N ps:List Str}{o:Str}{j:Scope}{f:ZT}{t:ZS}{A:Around}{outer:List Env}{s F:ZR}{H:Hp}{E:XK}{us:List ZS}{vs:List V}(S:cJ N ps j)(L:A.handled=none)(g:Env0 P w K mg base A outer s H)(Q:vs.length=ps.length)(r:Vals vs us)(x:InCallC s s.heap.objs.size (bindL (envOfC o j s.heap.objs.size f t).kindOf (ps.zip us) λ_=>none) (cellsFrom (s.heap.objs.size+1) j.names []) (bindC (envOfC o j s.heap.objs.size f t).kindOf (ps.zip us) λ_=>none) F) :
  Inv (eO CX P w K mg base N o j f t A outer s H E) [] (start N vs) H F:=by
 have R:ps.length<=N.length:=by have:=congrArg length S.pre;rw[wR]at this;omega
 obtain⟨B,tk,rfl,G⟩:=x.done;have D:∀b:ZT,b∉(eO CX P w K mg base N o j f t A outer s H E).ex:=λb z=>ZO (show b∈([]:List ZT) from z) Zs
 refine⟨⟨g.mod,S.kind,rfl,rfl,bH _,λy z c B d=>?_,λy l=>?_,λy c _ h=>?_,λ_=>L,Around.frames_deeper g.frames,.inr ⟨rfl,rfl⟩,λb z=>ZO z (D b),g.bs,g.bsz,λb _ _=>D b,λb z=>ZO z (D b),g.funs,g.frf⟩,
  rfl,g.bare,Un.kept G,⟨_,x.toInCall.ns,λi y v B d T=>?_⟩,λy c h=>⟨_,x.cell y c h⟩,g.hok.fresh (bH _),λy c h=>?_,λp m=>ZO (show p∈([]:List (Addr × Obj)) from m) Zs,g.hok.kept G,?_⟩
 ·exact name_of_addr x.apart (PySem.mem_of_lookup B) (PySem.mem_of_lookup d)
 ·have l:j.names.lookup y=some .cell∨j.names.lookup y=some .free:=l;rcases l with l|l
  ·exact oZ l
  ·exact ZO rfl (S.nofree _ (PySem.mem_of_lookup l))
 ·exact le_of_lt (x.above y c (PySem.mem_of_lookup h))
 ·have C:i<vs.length:=by
   unfold start at d;by_cases C:i<vs.length
   ·exact C
   ·rw[List.getElem?_append_right (by simpa using C)]at d;rw[List.getElem?_replicate]at d;split at d<;>cases d
  have M:vs[i]?=some v:=by
   unfold start at d;rw[getElem?_append_left (by simpa using C),dH]at d
   cases e:vs[i]? with
   | none=>rw[e]at d;cases d
   | some a=>rw[e]at d;cases d;rfl
  obtain⟨u,I,O⟩:=r.get M;have m:ps[i]?=some y:=by
   rw[<- S.pre,List.getElem?_take_of_lt Zo];exact B
  have J:ps.Nodup:=by rw[<- S.pre];exact S.nd.sublist (List.take_sublist _ _)
  refine⟨u,O,?_⟩;rcases S.par y (cP m) with k|k
  ·exact .inl ⟨k,lS J m I k⟩
  ·obtain⟨c,e⟩:=oZ (n:=s.heap.objs.size+1) k;refine .inr ⟨.inl k,c,e,?_⟩;have q:=x.cell y c e;rw[lT J m I (by show j.names.lookup y≠_;rw[k];decide)]at q;exact q
 ·exact g.hok.fresh (le_of_lt (x.above y c (PySem.mem_of_lookup h)))
 ·unfold start;show _=N.length;rw[gJ,bA,List.length_replicate];omega
def Gk{CX:Bv}{P:Program}{w:World}{K:W.Frag}{mg:Z7}{base:Heap}{k:Nat}{f:ZT}{name d:Str}{z:Arguments}{l:List Stmt}{a:Scope}{C kV B D g F T:ZS}{G U:Option ZT}{O:Array (Option ZS)}{N ps:List Str}{sp:Sp}(lk:K.lookup f=some ⟨T,U,.func (W.fnOf name d z l a C kV B D G g F),O⟩)(X:W.codeIn K g d=true)(S:cJ N ps a)(len:∀vs H Q E,sp vs H Q E->vs.length=ps.length)(Y:∀(A:Around)(outer:List Env)(s:ZR)(H:Hp)(vs:List V)(Q:VK)(E:XK),Room k (A.deeper (envOfC d a s.heap.objs.size f g))->sp vs H Q E →
   ∃t,PSs (eO CX P w K mg base N d a f g A outer s H E) l t/\t {nx:=λ_ c=>Q .non c,rt:=Q } (start N vs) H) :
  eN P w K mg base CX (k+1) f (W.fnOf name d z l a C kV B D G g F) ps sp:=by
 refine⟨len,λA outer s H args Z vs Q E m i hb a0 I=>?_⟩;have hl:=len _ _ _ _ I;have L:K.In s.heap:=i.mod.kin.keeps λb o e=>(i.bs b o e).1
 have R:s.heap.NoLimit:=i.mod.nolimit.keeps λb o e=>(i.bs b o e).1
 have DV:∀y∈ps.zip Z,a.names.lookup y.1=some .local∨(a.names.lookup y.1=some .cell/\((cellsFrom (s.heap.objs.size+1) a.names []).lookup y.1).isSome=true):=λ⟨n,v⟩ hy=>by
  rcases S.par n (of_mem_zip hy).1 with q|q
  ·exact .inl q
  ·exact .inr ⟨q,W.cellsFrom_some _ _ _ (.inl q)⟩
 refine codeAny_call_function m.depth (L _ _ lk) rfl S.co S.gen rfl (W.codeRec_of L X) (hb _ _ _ _ ?_);refine wpAny_newFunctionEnv_cells S.kind DV λenv he M x=>?_;subst he;refine⟨R.keeps x.toInCall.keep,codeAny_func ?_⟩;obtain⟨t,ht,hq⟩:=Y A outer s H vs Q E (m.deeper _) I;have a1:Inv (eO CX P w K mg base N d a f g A outer s H E) [] (start N vs) H M:=vB S m.hd i hl a0 x;refine wpAny_mono (ht [] M (start N vs) H _ a1 hq) (λfl p h=>?_) λe p h=>h;have fin:∀ {j:St}{c:Hp}{v:V}{u:ZS},Inv (eO CX P w K mg base N d a f g A outer s H E) [] j c p->RelV v u->Q v c->CE outer P w H s Q u p:=
  λ{j c v u} J r q=>⟨v,c,J.os,J.bare,J.base,J.hok,r,q⟩
 cases fl with
 | ret u=>
  obtain⟨v,j,c,J,r,q⟩:=h;exact fin J r q
 | next=>
  obtain⟨j,c,J,q⟩:=h;exact fin (v:=V.non) (u:=Value.none) J rfl q
 | brk=>
  obtain⟨_,_,_,q⟩:=h;exact False.elim q
 | cont=>
  obtain⟨_,_,_,q⟩:=h;exact False.elim q
section
variable {X:Cx}{x:Str}{p pos:Pos}{e:Expr}{es:List Expr}{t:TA}{id T:String}{r:List V->Hp->VK->Prop}
def Nh(r:List V->Hp->VK->Prop)(t:TA):TE:=λb H Q=>t b H λvs a=>r vs a Q
def pA(c:CallR X (.builtin id) r)(d:Gl X x)(f:X.mg x=none)(g:bootBuiltins x=some (.builtin id))(i:PA X (e::es) t)(j:x≠"__name__":=by decide)(k:(x==("__debug__":Str))=false:=by decide)(l:starEach (e::es) X.env=(false,eval e X.env)::starEach es X.env:=by rfl)(m:(backTo pos (starEach es X.env)).any (·.1)=false:=by rfl):PE X (.Call (.Name x p) (e::es) [] pos) (Nh r t):=by
 intro a s b H Q I h;refine wpAny_Call_Name_kw (jS I d f g ?_ j k);exact PyProof.Rows.callWith_builtin1 (bI (i pos a s b H _ I h) λn o ⟨vs,q,u,v,w⟩=>c a o b q vs n Q u v w) l m
def vC(c:CallR X (.type T) r)(d:Gl X x)(f:X.mg x=none)(g:bootBuiltins x=some (.type T))(i:PA X (e::es) t)(j:x≠"__name__":=by decide)(k:(x==("__debug__":Str))=false:=by decide)(l:starEach (e::es) X.env=(false,eval e X.env)::starEach es X.env:=by rfl)(m:(backTo pos (starEach es X.env)).any (·.1)=false:=by rfl):PE X (.Call (.Name x p) (e::es) [] pos) (Nh r t):=by
 intro a s b H Q I h;refine wpAny_Call_Name_kw (jS I d f g ?_ j k);exact PyProof.Rows.callWith_type1 (bI (i pos a s b H _ I h) λn o ⟨vs,q,u,v,w⟩=>c a o b q vs n Q u v w) l m
end
end L2
namespace HT
open PySem PyProof.Rows
section
variable {prog:Program}{w:World}{A:Around}{E:Z8}{s:ZR}
def cat_tup{t b:ZT}{vs ws:List ZS}{Q:Z8}(p:IsTup s.heap t vs.toArray)(q:IsTup s.heap b ws.toArray)(g:vs≠[])(r:ws=[]->Q (.ref t) s)(u:ws≠[]->Q (.ref s.heap.objs.size) {s with heap:=s.heap.push {cls:=.type "tuple",data:=.seq (vs++ws).toArray } })(hsz:vs.length+ws.length<=sizeLine):wpAny (model prog w) A (binaryOp .Add (.ref t) (.ref b)) Q E s:=by
 obtain⟨⟨cls,h,data,sl⟩,a,i,n,j⟩:=id p;obtain⟨⟨v,k,data2,l⟩,c,m,o,f⟩:=id q;simp only at i j m f;subst i j m f;have e:vs.toArray++ws.toArray=(vs++ws).toArray:=by simp
 by_cases d:ws=[]
 ·exact concat_meets ⟨_,a,rfl⟩ ⟨_,c,rfl⟩ noFill_tuple_add seq_tuple_add PySem.F.slot_tuple_add PySem.F.entry_tuple_add (PySem.F.args_tuple_add_2 _ _)
   (tuple_addW1 t b vs.toArray ws.toArray n o h k sl l (by simpa using g) (by simp[d])) ⟨a,c,r d⟩
 ·refine concat_meets ⟨_,a,rfl⟩ ⟨_,c,rfl⟩ noFill_tuple_add seq_tuple_add PySem.F.slot_tuple_add PySem.F.entry_tuple_add (PySem.F.args_tuple_add_2 _ _)
   (tuple_addW2 t b vs.toArray ws.toArray n o h k sl l (by simpa using g) (by simpa using d) (by rw[cO,cO];exact hsz)) ⟨a,c,?_⟩
  rw[e];exact u d
def sIx(n d:Nat):Option Int->Nat
 | none=>d
 | some v=>if v<0 then (v+(n:Int)).toNat else min v.toNat n
def sIx_none(n d:Nat):sIx n d none=d:=rfl
def sIx_nat(n d k:Nat):sIx n d (some (k:Int))=min k n:=by
 show(if (k:Int)<0 then ((k:Int)+(n:Int)).toNat else min (k:Int).toNat n)=min k n;rw[ZP Zo,Int.toNat_natCast]
end
end HT
namespace L2
open PySem PySem.Spec PyProof.Rows
abbrev TO:=St->Hp->(Option Int->Hp->Prop)->Prop
def PO(X:Cx)(e:Option Expr)(t:TO):Prop:=
 ∀(b:Z9)(s:ZR)(a:St)(H:Hp)(Q:Option Int->Hp->Prop),Inv X b a H s->t a H Q →
  wpAny (model X.prog X.w) X.A (evalPart e X.env) (λu d=>∃o c,Inv X b a c d/\IsPart u o/\Q o c) X.xe s
def sR:TO:=λ_ H Q=>Q none H
def xM(t:TE):TO:=λb H Q=>t b H λx a=>∃i,x=.int i/\Q (some i) a
def jW{a:List Int}:∀ {us:List ZS},Vals (a.map V.int) us->IntsAre us a:=by
 induction a with
 | nil=>intro us r;rw[map_nil]at r;cases r;exact .nil
 | cons n a b=>
  intro us r;rw[map_cons]at r;cases r with
  | cons c d=>
   obtain⟨t,e⟩:=c;subst e;exact .cons n t (b d)
section
variable {X:Cx}{e:Expr}{te:TE}{lo hi:Option Expr}{tl th:TO}{pos p2:Pos}
def Ct:PO X none sR:=by
 intro a s b H Q I h;rw[evalPart_none];exact Z5 ⟨none,H,I,.none,h⟩
def Cu(h:PE X e te):PO X (some e) (xM te):=by
 intro a s j H Q I b;rw[evalPart_some];refine bI (h a s j H _ I b) ?_;rintro u k ⟨x,c,d,f,g⟩
 obtain⟨i,rfl,q⟩:=g;obtain⟨t,rfl⟩:=f;exact⟨some i,c,d,.int i t,q⟩
def SlR(X:Cx)(r:V->Option Int->Option Int->Hp->VK->Prop):Prop:=
 ∀(a:Z9)(s:ZR)(d:St)(H:Hp)(x:V)(v b c:ZS)(lo hi:Option Int)(sl:ZT)(Q:VK),Inv X a d H s->RelV x v->s.heap.IsSliceOf sl b c .none->IsPart b lo->IsPart c hi->r x lo hi H Q →
  ∃T id,typeLookup (.type T) "__getitem__"=pure (some (.builtin id))/\s.TypeIs v T/\wpAny (model X.prog X.w) X.A (getItem v (.ref sl)) (EP X a d Q) X.xe s
def Ts(r:V->Option Int->Option Int->Hp->VK->Prop)(te:TE)(tl th:TO):TE:=λa H Q=>te a H λx b=>tl a b λl c=>th a c λu d=>r x l u d Q
def xN{r:V->Option Int->Option Int->Hp->VK->Prop}(j:SlR X r)(k:PE X e te)(m:PO X lo tl)(n:PO X hi th):PE X (.Subscript e (.Slice lo hi none p2) pos) (Ts r te tl th):=by
 intro c s d H Q I h;refine Subscript_ (bI (k c s d H _ I h) ?_);rintro v o ⟨x,p,t,w,y⟩;refine wpAny_Slice (bI (m c o d p _ t y) λf z ⟨l,A,B,C,D⟩=>bI (n c z d A _ B D) ?_);rintro g a ⟨u,i,E,F,G⟩;rw[evalPart_none];refine Z5 ?_;have J:Inv X c d i {a with heap:=a.heap.push {cls:=.type "slice",data:=.fields #[f,g,.none] } }:=E.kept (t':=a.toks) λb N q=>fB _ q
 obtain⟨T,id,K,L,M⟩:=j c {a with heap:=a.heap.push {cls:=.type "slice",data:=.fields #[f,g,.none] } } d i x v f g l u a.heap.objs.size Q J w (Heap.IsSliceOf.new ..) C F G;show wpAny (model X.prog X.w) X.A (subscriptTail e (.Slice lo hi none p2) v (.ref a.heap.objs.size)) (EP X c d Q) X.xe {a with heap:=a.heap.push {cls:=.type "slice",data:=.fields #[f,g,.none] } };exact tail_any (ops:=[.ref a.heap.objs.size,v]) L K M (by with_unfolding_all rfl)
def Cv(xs:List V)(lo hi:Option Int):List V:=(xs.drop (HT.sIx xs.length 0 lo)).take (HT.sIx xs.length xs.length hi-HT.sIx xs.length 0 lo)
def pB(xs:List V)(lo hi:Option Int):(Cv xs lo hi).length<=xs.length:=by
 unfold Cv;rw[wR,List.length_drop];omega
def Ov(K:W.Frag):R2:=λx y H Q=>∃a b d c,x=.ref a/\y=.ref b/\SqT K H a d/\SqT K H b c/\d≠[]/\d.length+c.length<=sizeLine ∧
 (c=[]->Q (.ref a) H)/\(c≠[]->∀p,H p=none->Q (.ref p) (aJ H p (.tup (d++c))))
def Vals.nil_iff{xs:List V}{us:List ZS}(r:Vals xs us):us=[]↔xs=[]:=by
 cases r with
 | nil=>simp
 | cons _ _=>simp
def Cw:OpR X (binaryOp .Add) (Ov X.K):=by
 intro A s E H x y v u Q I g i h;obtain⟨a,b,j,k,rfl,rfl,l,m,n,f,p,r⟩:=h;cases g;cases i;obtain⟨B,d,t,_⟩:=I.tuple l;obtain⟨C,c,p2,_⟩:=I.tuple m;refine HT.cat_tup t p2 (λz=>n (d.nil_iff.mp z)) (λz=>⟨.ref a,H,I,rfl,p (c.nil_iff.mp z)⟩) (λz=>?_) (by rw[<- d.length,<- c.length];exact f);refine⟨.ref s.heap.objs.size,_,I.laid (t':=s.toks) (o:=.tup (j++k)) (λb D q=>fB _ q) (bH _) ?_,rfl,r (λw=>z (c.nil_iff.mpr w)) _ (I.hok.fresh (bH _))⟩;exact⟨by rw[gJ];exact f,_,d.append c,IsTup.new _ _⟩
end
def Jj(n:Nat)(i:Int):Option Nat:=if 0<=i then (if i<n then some i.toNat else none) else if -(n:Int)<=i then some (i+n).toNat else none
def eP{a:Type}(xs:List a)(i:Int):Option a:=(Jj xs.length i).bind λj=>xs[j]?
def sT{n:Nat}{i:Int}{j:Nat}(h:Jj n i=some j):seqIndex? i n=some j/\j<n/\-(n:Int)<=i/\i<n:=by
 unfold Jj at h;by_cases b:0<=i
 ·rw[ZQ b]at h;by_cases a:i<n
  ·rw[ZQ a]at h;have e:i.toNat=j:=Option.some.inj h;exact⟨by rw[seqIndex_of b a,e],Zo,Zo,a⟩
  ·rw[ZP a]at h;cases h
 ·rw[ZP b]at h;by_cases a:-(n:Int)<=i
  ·rw[ZQ a]at h;have e:(i+n).toNat=j:=Option.some.inj h;exact⟨by rw[seqIndex_neg Zo a,e],Zo,a,Zo⟩
  ·rw[ZP a]at h;cases h
def nJ{a:Type}{xs:List a}{i:Int}{v:a}(h:eP xs i=some v):∃j,seqIndex? i xs.length=some j/\xs[j]?=some v/\j<xs.length/\-(xs.length:Int)<=i/\i<xs.length:=by
 unfold eP at h;cases e:Jj xs.length i with
 | none=>rw[e]at h;cases h
 | some j=>
  rw[e]at h;obtain⟨b,c,d,f⟩:=sT e;exact⟨j,b,h,c,d,f⟩
def cE{a:Type}{xs:List a}{j:Nat}{v:a}(h:xs[j]?=some v):eP xs (j:Int)=some v:=by
 have b:j<xs.length:=(Zgs.mp h).1;have e:Jj xs.length (j:Int)=some j:=by
  unfold Jj;rw[ZQ Zo,ZQ Zo];simp
 unfold eP;rw[e];exact h
def nK(b:Expr):Prop:=∀o i,subscripted b false o i=operate [o,i] (getItem o i)
def IxR(X:Cx)(r:R2):Prop:=
 ∀(c slice:Expr)(a:Z9)(s:ZR)(b:St)(H:Hp)(x y:V)(v u:ZS)(Q:VK),Inv X a b H s->RelV x v->RelV y u->r x y H Q →
  subscripted slice false v u=operate [v,u] (getItem v u)->wpAny (model X.prog X.w) X.A (subscriptTail c slice v u) (EP X a b Q) X.xe s
def Ni(X:Cx)(id:String)(r:V->List V->Hp->VK->Prop):Prop:=
 ∀(a:Z9)(s:ZR)(d:St)(H:Hp)(x:V)(b:List V)(v:ZS)(c:List ZS)(Q:VK),Inv X a d H s->RelV x v->Vals b c->r x b H Q →
  wpAny (model X.prog X.w) X.A (call (.builtin id) (v::c)) (EP X a d Q) X.xe s
section
variable {X:Cx}{a b:Expr}{ta tb:TE}{pos:Pos}
def Ow{r:R2}(d:IxR X r)(e:PE X a ta)(f:PE X b tb)(g:nK b):PE X (.Subscript a b pos) (uV r ta tb):=by
 intro c s n H Q I h;exact Subscript_ (Iw e f I h λv u i x y j k l m q=>d a b c i n j x y v u Q k l m q (g _ _))
def Ry(K:W.Frag):R2:=λx y H Q=>∃p c i v,x=.ref p/\y=.int i/\SqL K H p c/\eP c i=some v/\Q v H
def Rz(K:W.Frag):R2:=λx y H Q=>∃p c i v,x=.ref p/\y=.int i/\SqT K H p c/\eP c i=some v/\Q v H
def Sb:R2:=λx y H Q=>∃z i c,x=.str z/\y=.int i/\z.length<=sizeLine/\eP z.cps.toList i=some c/\Q (.str ⟨#[c]⟩) H
def Cy:IxR X (Ry X.K):=by
 intro L slice f s m H x y v u Q I o A h g;obtain⟨p,M,i,z,rfl,rfl,B,C,q⟩:=h;cases o;obtain⟨t,rfl⟩:=A;obtain⟨n,r,d,N⟩:=I.list B;obtain⟨j,c,D,O,E,F⟩:=nJ C;obtain⟨w,k,G⟩:=r.get D;have J:=r.length;have P:=iD;have fin:EP X f m Q w s:=⟨z,H,I,G,q⟩;by_cases l:0<=i
 ·have e:i.toNat=j:=by
   rw[seqIndex_of l F]at c;exact Option.some.inj c
  exact item_listR d.isList l Zo (by rw[e];simpa using k) fin g
 ·have e:(i+(n.toArray.size:Int)).toNat=j:=by
   rw[seqIndex_neg Zo E]at c;rw[cO,<- J];exact Option.some.inj c
  exact subscriptTail_builtinR (x:=w) d.isList.typeIs slot_list_getitem.lookup
   (wpAny_getItem_list_neg (Q:=λr K=>r=w/\EP X f m Q r K) d.isList Zo (by rw[cO]<;>omega) Zo (by rw[e];simpa using k) ⟨rfl,fin⟩) g
def Jk:IxR X (Rz X.K):=by
 intro E slice c s e H x y v u Q I f g h k;obtain⟨p,G,i,z,rfl,rfl,l,m,q⟩:=h;cases f;obtain⟨t,rfl⟩:=g;obtain⟨F,r,d,J⟩:=I.tuple l;obtain⟨j,n,o,K,L,M⟩:=nJ m;obtain⟨w,A,B⟩:=r.get o;have C:=r.length;have N:=iD;have fin:EP X c e Q w s:=⟨z,H,I,B,q⟩;exact subscriptTail_builtinR (x:=w) d.typeIs slot_tuple_getitem.lookup
  (getItem_tuple (j:=j) (Q:=λr D=>r=w/\EP X c e Q r D) d Zo Zo (by rw[cO,<- C];exact n) (by simpa using A) ⟨rfl,fin⟩) k
def Jl:IxR X Sb:=by
 intro w slice A s F H x y v u Q I e f h g;obtain⟨z,i,c,rfl,rfl,B,k,q⟩:=h;obtain⟨t,rfl⟩:=e;obtain⟨C,rfl⟩:=f;obtain⟨j,d,l,D,m,n⟩:=nJ k;have o:z.cps.toList.length=z.length:=by simp[Str.length]
 rw[o]at d m n;have E:=iD;exact tail_any (typeIs_str s z t) slot_str_getitem.lookup (getItem_str (c:=c) (by
  have p:decide (i < -(2 ^ 63:Int))=false:=ZV Zo;have r:decide (i ≥ 2 ^ 63)=false:=ZV Zo;rw[p,r,Bool.or_false]) (by rw[d];simpa using l) ⟨.str ⟨#[c]⟩,H,I.tok _,⟨_,rfl⟩,q⟩) g
def qV(its:List ZS)(n j:Nat)(u:ZS):Obj.mapSeq (·.setIfInBounds j u) {cls:=.type "list",data:=.seq its.toArray n }={cls:=.type "list",data:=.seq (its.set j u).toArray n }:=by
 simp[Obj.mapSeq]
def Inv.lst{c:Z9}{d:St}{H:Hp}{s:ZR}{p:ZT}{xs:List V}(I:Inv X c d H s)(h:H p=some (.lst xs)) :
  ∃(its:List ZS)(n:Nat),Vals xs its/\s.heap.get? p=some {cls:=.type "list",data:=.seq its.toArray n }/\xs.length<=sizeLine:=by
 obtain⟨z,its,n,r,e⟩:=I.hok p _ h;exact⟨its,n,r,e,z⟩
def Inv.lstUpd{d:Z9}{i:St}{H:Hp}{s:ZR}{p:ZT}{xs ys:List V}{its its':List ZS}{n c:Nat}{f:Obj->Obj}(I:Inv X d i H s)(h:H p=some (.lst xs))(j:s.heap.get? p=some {cls:=.type "list",data:=.seq its.toArray n })(g:f {cls:=.type "list",data:=.seq its.toArray n }={cls:=.type "list",data:=.seq its'.toArray c })(r:Vals ys its')(hz:ys.length<=sizeLine)(t:Nat) :
  Inv X d i (aJ H p (.lst ys)) {s with heap:=s.heap.update p f,toks:=t }:=by
 have e:(s.heap.update p f).get? p=some {cls:=.type "list",data:=.seq its'.toArray c }:=by
  rw[Heap.get?_update_self f j (by rw[g]<;>rfl),g]
 refine I.write (x:=p) (e:=p) (by rw[h];trivial) (.inl rfl) (λb u k q=>(Heap.get?_update_other _ _ (Ne.symm k)).trans q) ⟨_,e⟩ ?_;exact⟨hz,its',c,r,e⟩
def Gm:V->V->V->Hp->(Hp->Prop)->Prop:=λo i v H Q=>∃p c k j,o=.ref p/\i=.int k/\H p=some (.lst c)/\Jj c.length k=some j/\Q (aJ H p (.lst (c.set j v)))
def xO:Cf X Gm:=by
 intro z s G H o i v J K u Q I A B C h;obtain⟨p,D,k,j,rfl,rfl,l,E,q⟩:=h;cases A;obtain⟨t,rfl⟩:=B;obtain⟨g,n,r,d,F⟩:=I.lst l;obtain⟨c,L,m,w⟩:=sT E;have e:=r.length;have M:=iD;have x:Inv X z G (aJ H p (.lst (D.set j v))) {s with heap:=s.heap.update p (Obj.mapSeq (·.setIfInBounds j u)) }:=
  I.lstUpd l d (qV g n j u) (r.set C j) (by rw[length_set];exact F) s.toks
 by_cases y:0<=k
 ·have f:k.toNat=j:=by
   rw[seqIndex_of y w]at c;exact Option.some.inj c
  exact W.ki_setAt d y Zo (by rw[cO,<- e];exact w) (by rw[f];exact⟨_,x,q⟩)
 ·have f:(k+(g.toArray.size:Int)).toNat=j:=by
   rw[seqIndex_neg Zo m]at c;rw[cO,<- e];exact Option.some.inj c
  exact W.ki_setBack d Zo (by rw[cO,<- e];exact m) Zo (by rw[f];exact⟨_,x,q⟩)
def nL(lo c:Option Int)(n:Nat):(sliceBounds lo c none n).1=((HT.sIx n 0 lo:Nat):Int)/\(sliceBounds lo c none n).2.1=((HT.sIx n n c:Nat):Int)/\(sliceBounds lo c none n).2.2=1:=by
 refine⟨?_,?_,rfl⟩
 ·cases lo with
  | none=>simp[sliceBounds,HT.sIx]
  | some i=>
   simp only [sliceBounds,HT.sIx,Option.getD_none,show(1:Int)>0 by decide,if_true];by_cases h:i<0
   ·simp only [h,if_true]<;>omega
   ·simp only [h,if_false]<;>omega
 ·cases c with
  | none=>simp[sliceBounds,HT.sIx]
  | some i=>
   simp only [sliceBounds,HT.sIx,Option.getD_none,show(1:Int)>0 by decide,if_true];by_cases h:i<0
   ·simp only [h,if_true]<;>omega
   ·simp only [h,if_false]<;>omega
def lF(its:List ZS)(lo c:Option Int):slicePick its.toArray lo c none=((its.drop (HT.sIx its.length 0 lo)).take (HT.sIx its.length its.length c-HT.sIx its.length 0 lo)).toArray:=by
 obtain⟨d,e,f⟩:=nL lo c its.toArray.size;unfold slicePick;rw[d,e,f];simp only [sliceRange_one,pick_run,cO]<;>rfl
def Sc(K:W.Frag):V->Option Int->Option Int->Hp->VK->Prop:=λx lo d H Q=>∃a c,x=.ref a/\SqL K H a c/\∀p,H p=none->Q (.ref p) (aJ H p (.lst (Cv c lo d)))
def Cz:SlR X (Sc X.K):=by
 intro n s y H x v t u lo d sl Q I g i j k h;obtain⟨a,c,rfl,l,q⟩:=h;cases g;obtain⟨p,r,e,m⟩:=I.list l;have f:=r.length;refine⟨"list",_,slot_list_getitem.lookup,e.isList.typeIs,?_⟩;refine wpAny_getItem_list_slice e.isList i j k .none Zs ?_ (by rw[cO]<;>omega);rw[lF,<- f];refine⟨.ref s.heap.objs.size,_,I.laid (t':=s.toks) (o:=.lst (Cv c lo d)) (λb w q=>fB _ q) (bH _) ?_,rfl,q _ (I.hok.fresh (bH _))⟩;exact⟨eJ (pB c lo d) m,_,0,(r.drop (HT.sIx c.length 0 lo)).take (HT.sIx c.length c.length d-HT.sIx c.length 0 lo),ZU _ rfl⟩
def bU:V->Bool
 | .non=>true
 | .bl _=>true
 | .int _=>true
 | .str _=>true
 | _=>false
def jK:V->V->Bool
 | .non,.non=>true
 | .bl a,.bl b=>a==b
 | .bl a,.int b=>(if a then 1 else 0)==b
 | .int a,.bl b=>a==(if b then 1 else 0)
 | .int a,.int b=>a==b
 | .str a,.str b=>a==b
 | _,_=>false
def fV{A:Around}{s:ZR}{y x:V}{u v:ZS}(e:RelV y u)(c:RelV x v)(g:bU y=true)(f:bU x=true):SeqAt.EqAt A s u v (jK y x):=by
 cases y with
 | non=>
  cases e
  cases x with
  | non=>cases c;exact SeqAt.EqAt.same _
  | bl b=>cases c;exact SeqAt.EqAt.none_bool b
  | int b=>obtain⟨t,rfl⟩:=c;exact SeqAt.EqAt.none_int b t
  | str b=>obtain⟨t,rfl⟩:=c;exact SeqAt.EqAt.none_str b t
  | _=>exact ZO (show false=true from f) ZZ
 | bl a=>
  cases e
  cases x with
  | non=>cases c;exact SeqAt.EqAt.bool_none a
  | bl b=>cases c;exact SeqAt.EqAt.bool_bool a b
  | int b=>obtain⟨t,rfl⟩:=c;exact SeqAt.EqAt.bool_int a b t
  | str b=>obtain⟨t,rfl⟩:=c;exact SeqAt.EqAt.bool_str a b t
  | _=>exact ZO (show false=true from f) ZZ
 | int a=>
  obtain⟨d,rfl⟩:=e
  cases x with
  | non=>cases c;exact SeqAt.EqAt.int_none a d
  | bl b=>cases c;exact SeqAt.EqAt.int_bool a d b
  | int b=>obtain⟨t,rfl⟩:=c;exact SeqAt.EqAt.int_int a d b t
  | str b=>obtain⟨t,rfl⟩:=c;exact SeqAt.EqAt.int_str a d b t
  | _=>exact ZO (show false=true from f) ZZ
 | str a=>
  obtain⟨d,rfl⟩:=e
  cases x with
  | non=>cases c;exact SeqAt.EqAt.str_none a d
  | bl b=>cases c;exact SeqAt.EqAt.str_bool a d b
  | int b=>obtain⟨t,rfl⟩:=c;exact SeqAt.EqAt.str_int a d b t
  | str b=>obtain⟨t,rfl⟩:=c;exact SeqAt.EqAt.str_str a d b t
  | _=>exact ZO (show false=true from f) ZZ
 | _=>exact ZO (show false=true from g) ZZ
def pC(x:V)(u:ZS):Bool:=match u with
 | .none=>jK .non x
 | .bool b=>jK (.bl b) x
 | .int i _=>jK (.int i) x
 | .str z _=>jK (.str z) x
 | _=>false
def qW{x y:V}{u:ZS}(r:RelV y u)(f:bU y=true):pC x u=jK y x:=by
 cases y with
 | non=>cases r;rfl
 | bl b=>cases r;rfl
 | int i=>obtain⟨t,rfl⟩:=r;rfl
 | str z=>obtain⟨t,rfl⟩:=r;rfl
 | _=>exact ZO (show false=true from f) ZZ
theorem gM{x:V}:∀ {xs:List V}{us:List ZS},Vals xs us->xs.all bU=true->us.any (pC x)=xs.any λy=>jK y x
 | _,_,.nil,_=>rfl
 | y::xs,u::us,.cons r t,f=>by
  rw[all_cons,Bool.and_eq_true]at f;rw[any_cons,any_cons,qW r f.1,gM t f.2]
theorem dM{A:Around}{s:ZR}{x:V}{v:ZS}(d:RelV x v)(e:bU x=true):∀ {xs:List V}{us:List ZS},Vals xs us->xs.all bU=true->∀u∈us,SeqAt.EqAt A s u v (pC x u)
 | _,_,.nil,_=>λu c=>by cases c
 | y::xs,u::us,.cons r t,f=>λg c=>by
  rw[all_cons,Bool.and_eq_true]at f;rcases mem_cons.mp c with rfl|c
  ·rw[qW r f.1];exact fV r d f.1 e
  ·exact dM d e t f.2 g c
def jG(x:V)(xs:List V):Bool:=xs.any λy=>jK y x
def Nj(K:W.Frag)(d:Bool):R2:=λx y H Q=>∃p c,y=.ref p/\(SqL K H p c∨SqT K H p c)/\bU x=true/\c.all bU=true/\Q (.bl (if d then !jG x c else jG x c)) H
def vD:OpR X (compareOp .In) (Nj X.K false):=by
 intro l s n H x y v u Q I g j h;obtain⟨p,m,rfl,d,i,fs,q⟩:=h;cases j;rcases d with d|d
 ·obtain⟨c,r,e,k⟩:=I.list d;refine SeqAt.in_listAt (pC x) e.isList (λw f=>dM g i r fs w (by simpa using f)) ⟨.bl _,H,I,rfl,?_⟩;rw[show c.toArray.any (pC x)=c.any (pC x) by simp,gM r fs];exact q
 ·obtain⟨c,r,e,k⟩:=I.tuple d;refine SeqAt.in_tupleAt (pC x) e (λw f=>dM g i r fs w (by simpa using f)) ⟨.bl _,H,I,rfl,?_⟩;rw[show c.toArray.any (pC x)=c.any (pC x) by simp,gM r fs];exact q
def nM:OpR X (compareOp .NotIn) (Nj X.K true):=by
 intro l s n H x y v u Q I g j h;obtain⟨p,m,rfl,d,i,fs,q⟩:=h;cases j;rcases d with d|d
 ·obtain⟨c,r,e,k⟩:=I.list d;refine SeqAt.notIn_listAt (pC x) e.isList (λw f=>dM g i r fs w (by simpa using f)) ⟨.bl _,H,I,rfl,?_⟩;rw[show c.toArray.any (pC x)=c.any (pC x) by simp,gM r fs];exact q
 ·obtain⟨c,r,e,k⟩:=I.tuple d;refine SeqAt.notIn_tupleAt (pC x) e (λw f=>dM g i r fs w (by simpa using f)) ⟨.bl _,H,I,rfl,?_⟩;rw[show c.toArray.any (pC x)=c.any (pC x) by simp,gM r fs];exact q
def nN:CallR X (.builtin "len") (λxs H Q=>∃p ys,xs=[.ref p]/\(SqL X.K H p ys∨SqT X.K H p ys)/\Q (.int ys.length) H):=by
 intro k s n H xs l Q I r h;obtain⟨p,ys,rfl,c,q⟩:=h;obtain⟨u,rfl,i⟩:=eL r;cases i;have m:=iD;rcases c with c|c
 ·obtain⟨g,e,f,j⟩:=I.list c;have d:=e.length;exact Calls.call_len_list f.isList (by simp only [cO]<;>omega) ⟨.int ys.length,H,I.tok _,⟨s.toks+1,by rw[cO,d]⟩,q⟩
 ·obtain⟨g,e,f,j⟩:=I.tuple c;have d:=e.length;exact len_tuple f (by simp only [cO]<;>omega) ⟨.int ys.length,H,I.tok _,⟨s.toks+1,by rw[cO,d]⟩,q⟩
def nO:CallR X (.builtin "len") (λxs H Q=>∃z,xs=[.str z]/\z.length<=sizeLine/\Q (.int z.length) H):=by
 intro c s g H xs d Q I r h;obtain⟨z,rfl,e,q⟩:=h;obtain⟨u,rfl,t,rfl⟩:=eL r;have f:=iD;exact len_str Zo ⟨.int z.length,H,I.tok _,⟨_,rfl⟩,q⟩
def nP:CallR X (.type "list") (λxs H Q=>∃p ys,xs=[.ref p]/\(SqL X.K H p ys∨SqT X.K H p ys)/\∀l,H l=none->Q (.ref l) (aJ H l (.lst ys))):=by
 intro y s B H xs C Q I r h;obtain⟨p,ys,rfl,i,q⟩:=h;obtain⟨u,rfl,A⟩:=eL r;cases A;have fin:∀(d:List ZS),Vals ys d->ys.length<=sizeLine->∀(c:Heap)(f:Nat),(∀b x,s.heap.get? b=some x->c.get? b=some x) →
   c.get? s.heap.objs.size=some {cls:=.type "list",dict:=none,data:=.seq d.toArray f,slots:=#[] }->EP X y B Q (.ref s.heap.objs.size) {s with heap:=c }:=λd g j c f k e=>
  ⟨.ref s.heap.objs.size,_,I.laid (t':=s.toks) k (bH _) (show ObjOk X.prog X.w _ c _ (.lst ys) from⟨j,d,f,g,e⟩),rfl,q _ (I.hok.fresh (bH _))⟩
 rcases i with i|i
 ·obtain⟨d,g,m,j⟩:=I.list i;have z:=g.length;obtain⟨o,t,v,n,w⟩:=m.isList;exact call_list_seq p (.inl rfl) t v w (λc f k e=>fin d g j c f k e) (by simp only [cO]<;>omega)
 ·obtain⟨d,g,m,j⟩:=I.tuple i;have z:=g.length;obtain⟨o,t,v,n,w⟩:=m;exact call_list_seq p (.inr rfl) t v w (λc f k e=>fin d g j c f k e) (by simp only [cO]<;>omega)
def Tt(K:W.Frag)(T:String)(x:V)(H:Hp):Prop:=match x with
 | .str _=>T="str"
 | .int _=>T="int"
 | .ref p=>(T="list"/\∃d,SqL K H p d)∨(T="tuple"/\∃o,K.lookup p=some o/\o.cls=.type "tuple"/\o.dict=none)∨
   (T="dict"/\((∃c,H p=some (.dK c))∨∃c,H p=some (.dT c)))∨(T="set"/\∃S n,H p=some (.set S n))
 | _=>False
def Jm{l:Z9}{w:St}{H:Hp}{s:ZR}{T:String}{x:V}{v:ZS}(I:Inv X l w H s)(r:RelV x v)(ty:Tt X.K T x H) :
  s.TypeIs v T/\∀a,v=.ref a->∃j,s.heap.get? a=some j/\j.dict=none:=by
 cases x with
 | str z=>
  obtain⟨t,rfl⟩:=r;cases(show T="str" from ty);exact⟨typeIs_str s z t,λ_ e=>nomatch e⟩
 | int i=>
  obtain⟨t,rfl⟩:=r;cases(show T="int" from ty);exact⟨typeIs_int s i t,λ_ e=>nomatch e⟩
 | ref p=>
  cases r;rcases ty with⟨rfl,A,q⟩|⟨rfl,o,d,u,g⟩|⟨rfl,d⟩|⟨rfl,S,n,d⟩
  ·obtain⟨y,_,k,_⟩:=I.list q;refine⟨k.isList.typeIs,λa e=>?_⟩;cases e;obtain⟨o,n,e,c,g,_⟩:=k;exact⟨o,e,g⟩
  ·refine⟨⟨o,I.kIn p o d,u⟩,λa e=>?_⟩;cases e;exact⟨o,I.kIn _ o d,g⟩
  ·have z:∃o,s.heap.get? p=some o/\o.ExactDict:=by
    rcases d with⟨m,d⟩|⟨m,d⟩
    ·obtain⟨_,_,_,_,o,_,_,e,f,_⟩:=I.hok p _ d;exact⟨o,e,f⟩
    ·obtain⟨_,_,_,_,o,_,_,e,f,_⟩:=I.hok p _ d;exact⟨o,e,f⟩
   obtain⟨o,e,f⟩:=z;refine⟨⟨o,e,f.1⟩,λa h=>?_⟩;cases h;exact⟨o,e,f.2.1⟩
  ·obtain⟨o,_,_,_,e,f,_⟩:=I.hok p _ d;refine⟨⟨o,e,f.1⟩,λa h=>?_⟩;cases h;exact⟨o,e,f.2.1⟩
 | _=>exact False.elim ty
def Rf(K:W.Frag)(T:String)(r:V->List V->Hp->VK->Prop)(e:TE)(t:TA):TE:=λd H Q=>e d H λx c=>Tt K T x c/\t d c λf g=>r x f g Q
variable {o e:Expr}{es:List Expr}{to:TE}{t:TA}{name:Str}{apos cpos:Pos}{T id:String}{r:V->List V->Hp->VK->Prop}
def Ox(j:PlainAttrs T)(slot:Slot T name id)(k:typeOf (.builtin id)=pure (.type "method_descriptor"))(l:Ni X id r)(m:PE X o to)(n:PA X (e::es) t)(p:attributeBase o name X.env (eval o X.env)=eval o X.env:=by rfl)(q:((backTo cpos (starEach (e::es) X.env)).all (λx=>!x.1)&&(backToKw cpos (keywordEach [] X.env)).all (λx=>x.1.isSome)
   && decide ((e::es).length+([]:List Keyword).length+(if ([]:List Keyword).isEmpty then 0 else 1)<30))=true:=by rfl)(u:(apos.endLine == cpos.line)=true:=by rfl)(w:starEach (e::es) X.env=(false,eval e X.env)::starEach es X.env:=by rfl)(y:(backTo cpos (starEach es X.env)).any (·.1)=false:=by rfl) :
  PE X (.Call (.Attribute o name apos) (e::es) [] cpos) (Rf X.K T r to t):=by
 intro c s d H Q I h;refine wpAny_Call_method_late p q u rfl (bI (m c s d H _ I h) ?_);rintro v z ⟨x,A,f,g,ty,B⟩;obtain⟨C,D⟩:=Jm f g ty;refine⟨T,id,j,slot,k,C,D,?_⟩;have i:=n cpos c z d A _ f B;rw[w]at i ⊢;refine Calls.callWith_builtin (by show(false||(backTo cpos (starEach es X.env)).any (·.1))=false;rw[y]<;>rfl) (Calls.evalArgs_plain ?_);exact bI i λE F ⟨vs,G,J,K,L⟩=>l c F d G x vs v E Q J g K L
/- O.append(e),list.index P a R tuple .. N Ni M of 06m -/
end
def Oy(X:Cx)(id:String)(r:V->List V->Hp->VK->Prop):Prop:=
 ∀(a:Z9)(s:ZR)(d:St)(H:Hp)(x:V)(b:List V)(v:ZS)(c:List ZS)(Q:VK),Inv X a d H s->RelV x v->Vals b c->r x b H Q →
  wpAny (model X.prog X.w) X.A (call (.builtin id) (v::c)) (EP X a d Q) X.xe s
def Vals.one:∀ {x:V}{us:List ZS},Vals [x] us->∃u,us=[u]/\RelV x u
 | _,_,.cons r .nil=>⟨_,rfl,r⟩
def Vals.two{x y:V}{us:List ZS}(h:Vals [x,y] us):∃u v,us=[u,v] ∧ RelV x u ∧ RelV y v:=by
 cases h with|cons r t=>cases t with|cons q t=>cases t;exact⟨_,_,rfl,r,q⟩
def Vals.eraseIdx:∀ {xs:List V}{us:List ZS} (i:Nat),Vals xs us->Vals (xs.eraseIdx i) (us.eraseIdx i)
 | _,_,_,.nil=>.nil
 | _,_,0,.cons _ t=>t
 | _,_,i+1,.cons r t=>.cons r (Vals.eraseIdx i t)
theorem iF{a:Type}:∀(l:List a)(i:Nat),(l.eraseIdx i).length<=l.length
 | [],_=>bH _
 | _::_,0=>le_succ _
 | _::r,i+1=>Nat.succ_le_succ (iF r i)
section
variable {X:Cx}{pins:Z9}{σ:St}{H:Hp}{s:ZR}{l b:ZT}{xs ys zs:List V}
def Inv.lset{its its':List ZS}{n:Nat}{f:Array Value->Array Value}{t':Nat}(I:Inv X pins σ H s)(a:H l=some (.lst xs))(e:s.heap.get? l=some {cls:=.type "list",data:=.seq its.toArray n })(c:f its.toArray=its'.toArray)(d:Vals ys its')(hz:ys.length<=sizeLine) :
  Inv X pins σ (aJ H l (.lst ys)) {s with heap:=s.heap.update l (Obj.mapSeq f),toks:=t' }:=by
 have q:=PySem.IsL.update e f;rw[c]at q;refine I.write (x:=l) (e:=l) (by rw[a];exact trivial) (.inl rfl) (λi u g h=>(Heap.get?_update_other s.heap (Obj.mapSeq f) (Ne.symm g)).trans h) ⟨_,q⟩ ?_;exact⟨hz,its',_,d,q⟩
def Inv.lnew{its:List ZS}{t':Nat}(I:Inv X pins σ H s)(a:Vals ys its)(hz:ys.length<=sizeLine) :
  Inv X pins σ (aJ H s.heap.objs.size (.lst ys)) {s with heap:=s.heap.push {cls:=.type "list",data:=.seq its.toArray },toks:=t' }:=
 I.laid (λ_ _ q=>fB _ q) (bH _) ⟨hz,its,0,a,ZU _ rfl⟩
def Inv.fresh(I:Inv X pins σ H s):H s.heap.objs.size=none:=I.hok.fresh (bH _)
def Inv.lstM(I:Inv X pins σ H s)(a:H l=some (.lst xs)):xs.length<=sizeLine/\∃(its:List ZS)(n:Nat),Vals xs its/\xs.length=its.length/\s.heap.get? l=some {cls:=.type "list",data:=.seq its.toArray n }:=by
 obtain⟨z,its,n,r,e⟩:=I.hok l _ a;exact⟨z,its,n,r,r.length,e⟩
def xP{n:Nat}(h:n<=sizeLine):Builtin.List.listTooLong n=false:=by
 unfold Builtin.List.listTooLong;exact ZV Zo
end
section
variable {X:Cx}
def sU:V->List V->Hp->VK->Prop:=λx vs H Q=>∃l a y,x=.ref l/\vs=[y]/\H l=some (.lst a)/\a.length<sizeLine/\Q .non (aJ H l (.lst (a++[y])))
def vE:Oy X "list.append" sU:=by
 intro g s o H x vs v i Q I c d h;obtain⟨l,j,y,rfl,rfl,b,k,q⟩:=h;cases c;obtain⟨u,rfl,f⟩:=d.one;obtain⟨z,a,n,r,m,e⟩:=I.lstM b;refine call_meets F.slot_list_append ⟨_,e,rfl⟩ F.entry_list_append (F.args_list_append_2 _ _) (PySem.list_append l a.toArray n u (by rw[cO];omega)) ⟨e,?_⟩;refine⟨.non,_,I.lset (its':=a++[u]) b e Zs (r.append (.cons f .nil)) ?_,rfl,q⟩;rw[gJ,List.length_singleton];omega
def Dc:V->List V->Hp->VK->Prop:=λx vs H Q=>∃l b a c,x=.ref l/\vs=[.ref b]/\H l=some (.lst a)/\H b=some (.lst c)/\a.length+c.length<=sizeLine/\Q .non (aJ H l (.lst (a++c)))
def Nk:Oy X "list.extend" Dc:=by
 intro w s J H x vs v y Q I g i h;obtain⟨l,b,A,B,rfl,rfl,d,j,C,q⟩:=h;cases g;obtain⟨u,rfl,k⟩:=i.one;cases k;obtain⟨z,a,n,r,D,e⟩:=I.lstM d;obtain⟨E,c,m,o,G,p⟩:=I.lstM j;have f:a.toArray.size+c.toArray.size<=sizeLine:=by rw[cO,cO];omega
 have t:¬ (!a.toArray.isEmpty&&Builtin.List.listTooLong (a.toArray.size+c.toArray.size))=true:=by
  rw[xP f,Bool.and_false];exact ZZ
 refine call_meets F.slot_list_extend ⟨_,e,rfl⟩ F.entry_list_extend (F.args_list_extend_2 _ _)
  (AutoSeq1.list_extend_list_list_0 l a.toArray n b c.toArray m t (by rw[cO];omega) Zo) ⟨e,p,?_⟩
 refine⟨.non,_,I.lset (its':=a++c) d e Zs (r.append o) ?_,rfl,q⟩;rw[gJ];omega
def xQ:V->List V->Hp->VK->Prop:=λx vs H Q=>∃l a i k y,x=.ref l/\vs=[.int i]/\H l=some (.lst a)/\-(2^63)<=i/\i<2^63/\seqIndex? i a.length=some k/\a[k]?=some y/\Q y (aJ H l (.lst (a.eraseIdx k)))
def xR:Oy X "list.pop" xQ:=by
 intro D s G H x vs v E Q I c d h;obtain⟨l,f,i,k,y,rfl,rfl,b,g,j,m,o,q⟩:=h;cases c;obtain⟨u,rfl,p⟩:=d.one;obtain⟨t,rfl⟩:=p;obtain⟨z,a,n,r,A,e⟩:=I.lstM b;obtain⟨w,B,C⟩:=r.get o;refine call_meets F.slot_list_pop ⟨_,e,rfl⟩ F.entry_list_pop (F.args_list_pop_2 _ _)
  (MeetsSeq.list_pop_at l a.toArray n i t k w (fitsIndex_both g j) (by rw[cO,<- A];exact m) (by rw[<- Array.getElem?_toList];exact B) (by rw[cO];omega)) ⟨e,?_⟩
 refine⟨y,_,I.lset (its':=a.eraseIdx k) b e ?_ (r.eraseIdx k) ?_,C,q⟩
 ·show a.toArray.eraseIdxIfInBounds k=(a.eraseIdx k).toArray;rw[List.eraseIdxIfInBounds_toArray]
 ·have:=iF f k;omega
def Sd:R2:=λx y H Q=>∃l b a c,x=.ref l/\y=.ref b/\H l=some (.lst a)/\H b=some (.lst c)/\a.length+c.length<=sizeLine/\∀p,H p=none->Q (.ref p) (aJ H p (.lst (a++c)))
def Jn:OpR X (binaryOp .Add) Sd:=by
 intro o s E H x y v u Q I d f h;obtain⟨l,b,p,t,rfl,rfl,g,i,w,q⟩:=h;cases d;cases f;obtain⟨z,a,n,r,A,e⟩:=I.lstM g;obtain⟨B,c,C,j,D,k⟩:=I.lstM i;refine PySem.P.add_list e k ?_ (by rw[cO,cO];omega);have m:a.toArray++c.toArray=(a++c).toArray:=by simp
 rw[m];exact⟨.ref _,_,I.lnew (t':=s.toks) (r.append j) (by rw[gJ];omega),rfl,q _ I.fresh⟩
end
section
variable {κ:Type} [DecidableEq κ]
def aQ(kvs:List (κ×V))(k:κ):Option V:=(kvs.find? λa=>decide (a.1=k)).map (·.2)
def bG(kvs:List (κ×V))(k:κ)(v:V):List (κ×V):=
 if (kvs.any λa=>decide (a.1=k))=true then kvs.map (λa=>if a.1=k then (a.1,v) else a) else kvs++[(k,v)]
def dJ(kvs:List (κ×V))(k:κ):List (κ×V):=kvs.filter λa=>decide (a.1≠k)
def bE{p:κ×V}{r:List (κ×V)}{k:κ}(e:p.1=k):aQ (p::r) k=some p.2:=by simp[aQ,find?_cons,e]
def aY{p:κ×V}{r:List (κ×V)}{k:κ}(e:¬ p.1=k):aQ (p::r) k=aQ r k:=by simp[aQ,find?_cons,e]
theorem dB(k:κ):∀kvs:List (κ×V),(kvs.any λa=>decide (a.1=k))=(aQ kvs k).isSome
 | []=>rfl
 | p::r=>by
  rw[any_cons];by_cases e:p.1=k
  ·simp only [bE e,ZW e,Bool.true_or,Option.isSome_some]
  ·rw[aY e,ZV e,Bool.false_or];exact dB k r
theorem pE(k j:κ)(y:V):∀kvs:List (κ×V),aQ (kvs.map λa=>if a.1=k then (a.1,y) else a) j=(aQ kvs j).map λx=>if j=k then y else x
 | []=>rfl
 | p::r=>by
  have b:=pE k j y r;rw[map_cons];by_cases h:p.1=k
  ·rw[ZQ h];by_cases e:p.1=j
   ·rw[bE (p:=(p.1,y)) e,bE e,Option.map_some,ZQ (e.symm.trans h)]
   ·rw[aY (p:=(p.1,y)) e,aY e,b]
  ·rw[ZP h];by_cases e:p.1=j
   ·rw[bE (p:=p) e,bE e,Option.map_some,ZP (λz=>h (e.trans z))]
   ·rw[aY (p:=p) e,aY e,b]
theorem lU(k j:κ)(y:V):∀kvs:List (κ×V),aQ kvs k=none->aQ (kvs++[(k,y)]) j=if j=k then some y else aQ kvs j
 | [],_=>by
  by_cases e:k=j
  ·rw[ZQ e.symm];exact bE (p:=(k,y)) e
  ·rw[ZP (λz=>e z.symm)];exact aY (p:=(k,y)) e
 | p::r,a=>by
  rw[List.cons_append];have b:¬ p.1=k:=λz=>by rw[bE z]at a;cases a
  rw[aY b]at a;have c:=lU k j y r a;by_cases e:p.1=j
  ·rw[bE e,bE e,ZP (λz=>b (e.trans z))]
  ·rw[aY e,aY e,c]
def cT(kvs:List (κ×V))(k j:κ)(y:V):aQ (bG kvs k y) j=if j=k then some y else aQ kvs j:=by
 unfold bG;by_cases a:(kvs.any λb=>decide (b.1=k))=true
 ·rw[ZQ a,pE];rw[dB]at a;by_cases e:j=k
  ·obtain⟨x,c⟩:=Option.isSome_iff_exists.mp a;rw[ZQ e,e,c,Option.map_some,ZQ rfl]
  ·rw[ZP e];cases aQ kvs j with
   | none=>rfl
   | some x=>rw[Option.map_some,ZP e]
 ·rw[ZP a];refine lU k j y kvs ?_;rw[dB]at a;cases q:aQ kvs k with
  | none=>rfl
  | some x=>rw[q]at a;exact(a rfl).elim
def bQ(kvs:List (κ×V))(k:κ)(v:V):(bG kvs k v).length<=kvs.length+1:=by
 unfold bG;split
 ·rw[bA];omega
 ·rw[gJ,qH,length_nil];omega
def jX{kvs:List (κ×V)}{k:κ}(v:V)(h:aQ kvs k=none):bG kvs k v=kvs++[(k,v)]:=by
 unfold bG;rw[dB,h];exact ZP Zd
def RelO.isSome_eq{o:Option V}{u:Option ZS}(r:RelO o u):o.isSome=u.isSome:=by
 cases o with
 | none=>cases u with
  | none=>rfl
  | some _=>exact(show False from r).elim
 | some _=>cases u with
  | none=>exact(show False from r).elim
  | some _=>rfl
def RelO.getD{o:Option V}{u:Option ZS}{d:V}{d':ZS}(r:RelO o u)(a:RelV d d'):RelV (o.getD d) (u.getD d'):=by
 cases o with
 | none=>cases u with
  | none=>exact a
  | some _=>exact(show False from r).elim
 | some _=>cases u with
  | none=>exact(show False from r).elim
  | some _=>exact r
def KV.val{kvs:List (κ×V)}{vs:List (κ×ZS)}(r:KV kvs vs)(k:κ):RelO (aQ kvs k) (valueAt vs k):=by
 unfold KV at r;induction r with
 | nil=>exact True.intro
 | @cons p q ps a h t f=>
  obtain⟨d,g⟩:=h;by_cases e:p.1=k
  ·have c:q.1=k:=d.symm.trans e;have b:valueAt (q::a) k=some q.2:=by simp[valueAt,find?_cons,c]
   rw[bE e,b];exact g
  ·have c:¬ q.1=k:=λz=>e (d.trans z)
   have b:valueAt (q::a) k=valueAt a k:=by simp[valueAt,find?_cons,c]
   rw[aY e,b];exact f
def KV.any{kvs:List (κ×V)}{vs:List (κ×ZS)}(r:KV kvs vs)(k:κ):(kvs.any λa=>decide (a.1=k))=vs.any λa=>decide (a.1=k):=by
 unfold KV at r;induction r with
 | nil=>rfl
 | cons h t b=>rw[any_cons,any_cons,b,h.1]
def KV.repl{kvs:List (κ×V)}{vs:List (κ×ZS)}(r:KV kvs vs)(k:κ){y:V}{u:ZS}(c:RelV y u) :
  KV (kvs.map λa=>if a.1=k then (a.1,y) else a) (vs.map λa=>if a.1=k then (a.1,u) else a):=by
 unfold KV at r ⊢
 induction r with
 | nil=>exact .nil
 | @cons p q ps g h t d=>
  rw[map_cons,map_cons];refine .cons ?_ d;obtain⟨b,f⟩:=h;by_cases e:p.1=k
  ·rw[ZQ e,ZQ (b.symm.trans e)];exact⟨b,c⟩
  ·rw[ZP e,ZP (λz=>e (b.trans z))];exact⟨b,f⟩
def KV.put{kvs:List (κ×V)}{vs:List (κ×ZS)}(r:KV kvs vs)(k:κ){y:V}{u:ZS}(a:RelV y u):KV (bG kvs k y) (stored vs k u):=by
 unfold bG stored;rw[r.any k];by_cases e:(vs.any λb=>decide (b.1=k))=true
 ·rw[ZQ e,ZQ e];exact r.repl k a
 ·rw[ZP e,ZP e];exact Paired.snoc r ⟨rfl,a⟩
def KV.drop{kvs:List (κ×V)}{vs:List (κ×ZS)}(r:KV kvs vs)(k:κ):KV (dJ kvs k) (without vs k):=by
 unfold KV at r ⊢;unfold dJ without;induction r with
 | nil=>exact .nil
 | @cons p q ps i h t d=>
  obtain⟨c,f⟩:=h;rw[filter_cons,filter_cons];by_cases e:p.1=k
  ·have a:¬ decide (p.1≠k)=true:=by simp[e]
   have b:¬ decide (q.1≠k)=true:=by simp[c.symm.trans e]
   rw[ZP a,ZP b];exact d
  ·have g:¬ q.1=k:=λz=>e (c.trans z)
   have a:decide (p.1≠k)=true:=by simp[e]
   have b:decide (q.1≠k)=true:=by simp[g]
   rw[ZQ a,ZQ b];exact .cons ⟨c,f⟩ d
def KV.keys{kvs:List (κ×V)}{vs:List (κ×ZS)}(r:KV kvs vs):kvs.map (·.1)=vs.map (·.1):=by
 unfold KV at r;induction r with
 | nil=>rfl
 | cons h t a=>rw[map_cons,map_cons,a,h.1]
def KV.length{kvs:List (κ×V)}{vs:List (κ×ZS)}(r:KV kvs vs):kvs.length=vs.length:=Paired.length r
def jY(kvs:List (κ×V))(k:κ):(dJ kvs k).length<=kvs.length:=List.length_filter_le _ _
end
def eE{P:Program}{w:World}{k:aR}{u:ZS}(r:RelV (kV k) u):(aL P w).is k u=true:=by
 cases k with
 | inl i=>obtain⟨t,e⟩:=(show ∃t,u=Value.int i t from r);subst e;exact oU P w i t
 | inr x=>obtain⟨t,e⟩:=(show ∃t,u=Value.str x t from r);subst e;exact oV P w x t
def lV{P:Program}{w:World}:∀ {a:List aR}{us:List ZS},Vals (a.map kV) us->ItemsAre (aL P w) a us
 | [],_,r=>by rw[map_nil]at r;cases r;exact .nil
 | k::a,_,r=>by
  rw[map_cons]at r;cases r with
  | cons h t=>exact .cons (eE h) (lV t)
abbrev KT(H:Hp):List (List aR×V)->List (List aR×ZT×ZS)->Prop:=Paired λp q=>p.1=q.1/\H q.2.1=some (.tup (p.1.map kV))/\RelV p.2 q.2.2
def KT.val{H:Hp}{kvs:List (List aR×V)}{xs:List (List aR×ZT×ZS)}(r:KT H kvs xs)(k:List aR):RelO (aQ kvs k) ((atKey xs k).map (·.2)):=by
 induction r with
 | nil=>exact True.intro
 | @cons p q ps a h t f=>
  obtain⟨d,_,g⟩:=h;by_cases e:p.1=k
  ·have c:q.1=k:=d.symm.trans e;have b:atKey (q::a) k=some q.2:=by simp[atKey,find?_cons,c]
   rw[bE e,b];exact g
  ·have c:¬ q.1=k:=λz=>e (d.trans z)
   have b:atKey (q::a) k=atKey a k:=by simp[atKey,find?_cons,c]
   rw[aY e,b];exact f
def KT.repl{H:Hp}{kvs:List (List aR×V)}{xs:List (List aR×ZT×ZS)}(r:KT H kvs xs)(k:List aR){y:V}{u:ZS}(d:RelV y u) :
  KT H (kvs.map λb=>if b.1=k then (b.1,y) else b) (xs.map (putAt k u)):=by
 induction r with
 | nil=>exact .nil
 | @cons p q ps i h t f=>
  rw[map_cons,map_cons];refine .cons ?_ f;obtain⟨a,c,g⟩:=h;unfold putAt;by_cases e:p.1=k
  ·rw[ZQ e,ZQ (a.symm.trans e)];exact⟨a,c,d⟩
  ·rw[ZP e,ZP (λz=>e (a.trans z))];exact⟨a,c,g⟩
def KT.put{H:Hp}{kvs:List (List aR×V)}{xs:List (List aR×ZT×ZS)}(r:KT H kvs xs)(k:List aR){b:ZT}{y:V}{u:ZS}(c:H b=some (.tup (k.map kV)))(a:RelV y u) :
  KT H (bG kvs k y) (storedH xs k b u):=by
 have e:(kvs.any λd=>decide (d.1=k))=(atKey xs k).isSome:=by
  rw[dB,(r.val k).isSome_eq,Option.isSome_map]
 unfold bG storedH;rw[e];by_cases q:(atKey xs k).isSome=true
 ·rw[ZQ q,ZQ q];exact r.repl k a
 ·rw[ZP q,ZP q];exact Paired.snoc r ⟨rfl,c,a⟩
def KT.keeps{H a:Hp}{kvs:List (List aR×V)}{xs:List (List aR×ZT×ZS)}(r:KT H kvs xs)(c:∀b ys,H b=some (.tup ys)->a b=some (.tup ys)):KT a kvs xs:=
 Paired.mapP r λ_ _ z=>⟨z.1,c _ _ z.2.1,z.2.2⟩
section
variable {P:Program}{w:World}{H:Hp}{h:Heap}{a:ZT}
def Gn{u:HO}(ok:HOk P w H h)(e:Rd H a u):ObjOk P w H h a u:=e.ok ok
def gN{kvs:List (aR×V)}(ok:HOk P w H h)(e:Rd H a (.dK kvs)):kvs.length<=sizeLine/\(a==sysModules)=false/\∃vs,KV kvs vs/\h.DictOf (aL P w) a vs:=
 show ObjOk P w H h a (.dK kvs) from Gn ok e
def jZ{kvs:List (aR×V)}(ok:HOk P w H h)(e:H a=some (.dK kvs)):kvs.length<=sizeLine/\(a==sysModules)=false/\∃vs,KV kvs vs/\h.DictOf (aL P w) a vs:=gN ok (.inl e)
def fW{b:List aR}(ok:HOk P w H h)(e:H a=some (.tup (b.map kV))):(tupleKind (aL P w)).is h b a:=by
 obtain⟨_,c,r,o,d,f,n,g⟩:=(show ObjOk P w H h a (.tup (b.map kV)) from ok a _ e);exact⟨o,c.toArray,n,d,f,g,by simpa using lV r⟩
def iX{kvs:List (List aR×V)}(ok:HOk P w H h)(e:Rd H a (.dT kvs)):kvs.length<=sizeLine/\(a==sysModules)=false ∧
  ∃xs,KT H kvs xs/\h.DictOfH (tupleKind (aL P w)) a xs:=by
 obtain⟨z,y,xs,r,o,d,f,g,i,j,k,n⟩:=(show ObjOk P w H h a (.dT kvs) from Gn ok e);refine⟨z,y,xs,r,o,d,f,g,i,j,k,λx b=>?_,n⟩;have all:∀ {l:List (List aR×V)}{m:List (List aR×ZT×ZS)},KT H l m->∀x∈m,(tupleKind (aL P w)).is h x.1 x.2.1:=by
  intro l m q;induction q with
  | nil=>intro x b;exact nomatch b
  | @cons p q ps u c t s=>
   intro x b;rcases mem_cons.mp b with e|b
   ·subst e;exact fW ok (by rw[<- c.1];exact c.2.1)
   ·exact s x b
 exact all r x b
def Oz{kvs:List (List aR×V)}(ok:HOk P w H h)(e:H a=some (.dT kvs)):kvs.length<=sizeLine/\(a==sysModules)=false ∧
  ∃xs,KT H kvs xs/\h.DictOfH (tupleKind (aL P w)) a xs:=iX ok (.inl e)
end
def DGet(H:Hp)(a:ZT)(y:V)(r:Option V):Prop:=
 (∃c k,Rd H a (.dK c)/\y=kV k/\r=aQ c k)∨∃c k b,Rd H a (.dT c)/\y=.ref b/\H b=some (.tup (k.map kV))/\r=aQ c k
def DPut(H:Hp)(a:ZT)(y v:V)(d:Hp):Prop:=
 (∃c k,H a=some (.dK c)/\y=kV k/\c.length<sizeLine/\d=aJ H a (.dK (bG c k v)))∨
 ∃c k b,H a=some (.dT c)/\y=.ref b/\H b=some (.tup (k.map kV))/\c.length<sizeLine/\d=aJ H a (.dT (bG c k v))
def DGet.k{H:Hp}{a:ZT}{kvs:List (aR×V)}{k:aR}(e:H a=some (.dK kvs)):DGet H a (kV k) (aQ kvs k):=.inl ⟨kvs,k,.inl e,rfl,rfl⟩
def DGet.t{H:Hp}{a b:ZT}{kvs:List (List aR×V)}{k:List aR}(e:H a=some (.dT kvs))(c:H b=some (.tup (k.map kV))):DGet H a (.ref b) (aQ kvs k):=.inr ⟨kvs,k,b,.inl e,rfl,c,rfl⟩
def DPut.k{H:Hp}{a:ZT}{kvs:List (aR×V)}{k:aR}{v:V}(e:H a=some (.dK kvs))(b:kvs.length<sizeLine):DPut H a (kV k) v (aJ H a (.dK (bG kvs k v))):=.inl ⟨kvs,k,e,rfl,b,rfl⟩
def DPut.t{H:Hp}{a b:ZT}{kvs:List (List aR×V)}{k:List aR}{v:V}(e:H a=some (.dT kvs))(c:H b=some (.tup (k.map kV)))(d:kvs.length<sizeLine) :
  DPut H a (.ref b) v (aJ H a (.dT (bG kvs k v))):=.inr ⟨kvs,k,b,e,rfl,c,d,rfl⟩
section
variable {X:Cx}{pins:Z9}{σ:St}{H:Hp}{s:ZR}{a:ZT}{y v:V}{u r:ZS}{o:Option V}{A:Around}{E:Z8}
def Inv.big(I:Inv X pins σ H s):sysModules<s.heap.objs.size:=by
 have h:mainGlobals<s.heap.objs.size:=(I.mod.glob.keeps I.bk).lt;exact lt_trans Zd h
def vF{Q:Z8}(w:A.units+1<cLine)(I:Inv X pins σ H s)(g:DGet H a y (some v))(n:RelV y u)(h:∀c q,Inv X pins σ H q->RelV v c->Q c q) :
  wpAny (model X.prog X.w) A (getItem (.ref a) u) Q E s:=by
 rcases g with⟨t,k,e,f,l⟩|⟨t,k,b,e,f,x,l⟩
 ·subst f;obtain⟨z,B,vs,d,i⟩:=gN I.hok e;obtain⟨c,j,m⟩:=RelO.some_of (v:=v) (o:=valueAt vs k) (by rw[l];exact d.val k);exact wpAny_getItem_of (eE n) i.mapOf j (h c _ (I.tok _) m)
 ·subst f;cases(show u=Value.ref b from n);obtain⟨z,B,C,d,i⟩:=iX I.hok e;obtain⟨c,j,m⟩:=RelO.some_of (v:=v) (o:=(atKey C k).map (·.2)) (by rw[l];exact d.val k);obtain⟨p,D,F⟩:=Option.map_eq_some_iff.mp j;refine wpAny_getItem_heap (tupleKind_room_in1 w) (fW I.hok x) i D ?_;rw[F];exact h c _ (I.tok _) m
def Pa{Q:Z8}(p:A.units+1<cLine)(I:Inv X pins σ H s)(g:DGet H a y o)(j:RelV y u)(h:∀m,Inv X pins σ H m->Q (.bool o.isSome) m) :
  wpAny (model X.prog X.w) A (compareOp .In u (.ref a)) Q E s:=by
 rcases g with⟨n,k,e,d,l⟩|⟨n,k,b,e,d,t,l⟩
 ·subst d;obtain⟨z,f,vs,c,i⟩:=gN I.hok e;refine wpAny_in_of (eE j) f i.mapOf ?_;rw[<- (c.val k).isSome_eq,<- l];exact h _ (I.tok _)
 ·subst d;cases(show u=Value.ref b from j);obtain⟨z,f,w,c,i⟩:=iX I.hok e;refine wpAny_in_heap (tupleKind_room_in1 p) (fW I.hok t) f i ?_;have q:=(c.val k).isSome_eq;rw[Option.isSome_map]at q;rw[<- q,<- l];exact h _ (I.tok _)
def sV{Q:Z8}(p:A.units+1<cLine)(I:Inv X pins σ H s)(g:DGet H a y o)(j:RelV y u)(h:∀m,Inv X pins σ H m->Q (.bool (!o.isSome)) m) :
  wpAny (model X.prog X.w) A (compareOp .NotIn u (.ref a)) Q E s:=by
 rcases g with⟨n,k,e,d,l⟩|⟨n,k,b,e,d,t,l⟩
 ·subst d;obtain⟨z,f,vs,c,i⟩:=gN I.hok e;refine wpAny_notIn_of (eE j) f i.mapOf ?_;rw[<- (c.val k).isSome_eq,<- l];exact h _ (I.tok _)
 ·subst d;cases(show u=Value.ref b from j);obtain⟨z,f,w,c,i⟩:=iX I.hok e;refine wpAny_notIn_heap (tupleKind_room_in1 p) (fW I.hok t) f i ?_;have q:=(c.val k).isSome_eq;rw[Option.isSome_map]at q;rw[<- q,<- l];exact h _ (I.tok _)
def gO{h':Heap}{t':Nat}{c:HO}(I:Inv X pins σ H s)(d:Nu (H a))(f:Heap.SameBut a s.heap h')(g:∃q,h'.get? a=some q)(new:ObjOk X.prog X.w (aJ H a c) h' a c) :
  Inv X pins σ (aJ H a c) {s with heap:=h',toks:=t' }:=
 I.write (x:=a) (e:=a) d (.inl rfl) (λb q h z=>(f.2 b h).trans z) g new
def nQ{P:Program}{w:World}{c:Hp}{h':Heap}{kvs:List (aR×V)}{vs:List (aR×ZS)}(z:kvs.length<=sizeLine)(d:(a==sysModules)=false)(b:KV kvs vs)(e:h'.DictOf (aL P w) a vs) :
  ObjOk P w c h' a (.dK kvs):=⟨z,d,vs,b,e⟩
def vG{C:Hp}{Q:Unit->ZR->Prop}(M:A.units+1<cLine)(I:Inv X pins σ H s)(g:DPut H a y v C)(D:RelV y u)(F:RelV v r)(h:∀G,Inv X pins σ C G->Q () G) :
  wpAny (model X.prog X.w) A (setItem (.ref a) u r) Q E s:=by
 rcases g with⟨d,k,e,m,l,n⟩|⟨d,k,b,e,m,J,l,n⟩
 ·subst m n;obtain⟨z,p,vs,f,t⟩:=jZ I.hok e;have w:vs.length<=sizeLine:=by rw[<- f.length];exact z
  have x:(bG d k v).length<=sizeLine:=by have:=bQ d k v;omega
  refine wpAny_setItem_pairs (hsz:=w) (eE D) t λK i B=>h _ ?_;have N:∃q,K.get? a=some q:=let ⟨q,_,_,j,_⟩:=i;⟨q,j⟩;exact gO I (by rw[e];exact True.intro) B N (nQ x p (f.put k F) i)
 ·subst m n;cases(show u=Value.ref b from D);obtain⟨z,p,O,f,t⟩:=Oz I.hok e;have w:O.length<=sizeLine:=by rw[<- Paired.length f];exact z
  have x:(bG d k v).length<=sizeLine:=by have:=bQ d k v;omega
  refine wpAny_setItem_heap (hsz:=w) (tupleKind_room_in1 M) (fW I.hok J) t λK i B=>h _ ?_;obtain⟨q,P,R,j,S,T,U,_,V⟩:=i;refine gO I (by rw[e];exact True.intro) B ⟨q,j⟩ ⟨x,p,_,(f.put k J F).keeps λc W L=>?_,q,P,R,j,S,T,U,V⟩;rw[aD (bD L e nofun)];exact L
end
section
variable {X:Cx}{pins:Z9}{σ:St}{H:Hp}{s:ZR}{a:ZT}{kvs:List (aR×V)}{k:aR}{u:ZS}{A:Around}{E:Z8}
def Nl{Q:Unit->ZR->Prop}(I:Inv X pins σ H s)(e:H a=some (.dK kvs))(g:RelV (kV k) u)(l:(aQ kvs k).isSome=true)(h:∀d,Inv X pins σ (aJ H a (.dK (dJ kvs k))) d->Q () d) :
  wpAny (model X.prog X.w) A (delItem (.ref a) u) Q E s:=by
 obtain⟨z,i,vs,b,c⟩:=jZ I.hok e;refine wpAny_delItem_slot c.typeIs Zd PySem.F.slot_dict_delitem
  (call_meetsIn PySem.F.slot_dict_delitem c.typeIs PySem.F.entry_dict_delitem (PySem.F.args_dict_delitem_2 _ _) (meets_dict_delitem_pairs (aL X.prog X.w) a (eE g)) ⟨vs,c,by rw[<- b.length];exact z,by rw[<- (b.val k).isSome_eq];exact l,λj f m=>h _ ?_⟩)
 have n:∃q,j.get? a=some q:=let ⟨q,_,_,o,_⟩:=f;⟨q,o⟩;exact gO I (by rw[e];exact True.intro) m n (nQ (eJ (jY kvs k) z) i (b.drop k) f)
def Pb{v:V}{more:List ZS}{Q:Z8}(I:Inv X pins σ H s)(e:H a=some (.dK kvs))(d:RelV (kV k) u)(l:aQ kvs k=some v)(f:more=[]∨∃x,more=[x])(h:∀b g,Inv X pins σ (aJ H a (.dK (dJ kvs k))) g->RelV v b->Q b g):wpAny (model X.prog X.w) A (call (.builtin "dict.pop") (.ref a::u::more)) Q E s:=by
 obtain⟨z,n,vs,c,j⟩:=jZ I.hok e;obtain⟨b,p,r⟩:=RelO.some_of (v:=v) (o:=valueAt vs k) (by rw[<- l];exact c.val k);have w:(keyPart u).isSome=true:=by
  cases k with
  | inl i=>obtain⟨t,q⟩:=(show ∃t,u=Value.int i t from d);subst q;rfl
  | inr x=>obtain⟨t,q⟩:=(show ∃t,u=Value.str x t from d);subst q;rfl
 have y:argsOk "dict.pop" ⟨.ref a::u::more,[]⟩:=by
  rcases f with q|⟨x,q⟩
  ·subst q;exact PySem.F.args_dict_pop_2 _ _
  ·subst q;exact PySem.F.args_dict_pop_3 _ _ _
 refine call_meetsIn PySem.F.slot_dict_pop j.typeIs PySem.F.entry_dict_pop y (meets_dict_pop_there (aL X.prog X.w) a (eE d) more f w)
  ⟨vs,b,j,by rw[<- c.length];exact z,p,λB m C=>h b _ ?_ r⟩
 have D:∃q,B.get? a=some q:=let ⟨q,_,_,F,_⟩:=m;⟨q,F⟩;exact gO I (by rw[e];exact True.intro) C D (nQ (eJ (jY kvs k) z) n (c.drop k) m)
def Jo{r:ZS}{Q:Z8}(I:Inv X pins σ H s)(e:H a=some (.dK kvs))(b:RelV (kV k) u)(l:aQ kvs k=none)(h:∀c,Inv X pins σ H c->Q r c) :
  wpAny (model X.prog X.w) A (call (.builtin "dict.pop") [.ref a,u,r]) Q E s:=by
 obtain⟨z,g,vs,f,d⟩:=jZ I.hok e;have j:valueAt vs k=none:=RelO.none_of (by rw[<- l];exact f.val k);have m:(keyPart u).isSome=true:=by
  cases k with
  | inl i=>obtain⟨t,q⟩:=(show ∃t,u=Value.int i t from b);subst q;rfl
  | inr x=>obtain⟨t,q⟩:=(show ∃t,u=Value.str x t from b);subst q;rfl
 exact call_meetsIn PySem.F.slot_dict_pop d.typeIs PySem.F.entry_dict_pop (PySem.F.args_dict_pop_3 _ _ _) (meets_dict_pop_default (aL X.prog X.w) a (eE b) g m r) ⟨vs,d,j,h _ (I.tok _)⟩
end
def Jp(i:Expr):Prop:=∀a b,subscripted i false a b=operate [a,b] (getItem a b)
def Dg{prog:Program}{w:World}{A:Around}{E:Z8}{s:ZR}{env:Env}{b slice:Expr}{pos:Pos}{T id:String}{Q:Z8}(k:typeLookup (.type T) "__getitem__"=pure (some (.builtin id)))(l:Jp slice)(h:wpAny (model prog w) A (eval b env) (λo d=>wpAny (model prog w) A (eval slice env) (λi a=>a.TypeIs o T/\wpAny (model prog w) A (getItem o i) Q E a) E d) E s) :
  wpAny (model prog w) A (eval (.Subscript b slice pos) env) Q E s:=by
 refine Subscript_ (wpAny_mono h (λo d g=>wpAny_mono g (λi a c=>?_) λ_ _ x=>x) λ_ _ x=>x);obtain⟨f,c⟩:=c;unfold subscriptTail;refine Z6 ?_;rw[getitemInPython_of_ne f.not_modules];refine Z6 (wpAny_specialOf f k ?_);have fin:wpAny (model prog w) A (subscripted slice false o i) (λr e=>wpAny (model prog w) A (letTemporaryGo b o r>>=λ_=>pure r) Q E e) E a:=by
  rw[l o i];exact wpAny_operating (wpAny_mono c (λr e j=>Z6 (wpAny_letTemporaryGo (Z5 j))) λ_ _ x=>x)
 first
  | exact Z5 (Z6 fin)
  | exact Z6 (Z5 (Z6 fin))
  | exact Z6 fin
def pF{X:Cx}{d:Z9}{h:St}{H:Hp}{s:ZR}{a:ZT}{y:V}{o:Option V}(I:Inv X d h H s)(g:DGet H a y o):s.TypeIs (.ref a) "dict":=by
 rcases g with⟨f,k,e,_,_⟩|⟨f,k,b,e,_,_,_⟩
 ·obtain⟨_,_,vs,_,c⟩:=gN I.hok e;exact c.typeIs
 ·obtain⟨_,_,i,_,c⟩:=iX I.hok e;exact c.typeIs
def Go(d ty:TE):TE:=λc H Q=>d c H λx e=>ty c e λy b=>∃a v,x=.ref a/\DGet b a y (some v)/\Q v b
section
variable {X:Cx}{o i e value:Expr}{pos pos' AY:Pos}{td ty tv:TE}
def Dh(f:X.A.units+1<cLine)(j:PE X o td)(k:PE X i ty)(l:Jp i):PE X (.Subscript o i pos) (Go td ty):=by
 intro b s d H Q I h;refine Dg PySem.F.slot_dict_getitem.lookup l (bI (j b s d H _ I h) λu m ⟨x,n,p,q,r⟩=>bI (k b m d n _ p r) ?_);rintro D E ⟨y,t,c,w,a,v,z,g,A⟩;subst z;obtain rfl:u=Value.ref a:=q;exact⟨pF c g,vF f c g w λF G B C=>⟨v,t,B,C,A⟩⟩
end
def pG{P:Program}{w:World}{H:Hp}(h:Heap)(a:sysModules<h.objs.size):ObjOk P w H (h.push {cls:=.type "dict",data:=.dict #[] }) h.objs.size (.dK []):=
 ⟨zero_le _,beq_eq_false_iff_ne.mpr (Ne.symm (ne_of_lt a)),[],.nil,Heap.DictOf.new h⟩
def xS{P:Program}{w:World}{H:Hp}(h:Heap)(a:sysModules<h.objs.size):ObjOk P w H (h.push {cls:=.type "dict",data:=.dict #[] }) h.objs.size (.dT []):=
 ⟨zero_le _,beq_eq_false_iff_ne.mpr (Ne.symm (ne_of_lt a)),[],.nil,_,#[],0,ZU _ rfl,⟨rfl,rfl,rfl⟩,rfl,rfl,nodup_nil⟩
def nR:TE:=λ_ H Q=>∀p,H p=none->Q (.ref p) (aJ H p (.dK []))
def xT:TE:=λ_ H Q=>∀p,H p=none->Q (.ref p) (aJ H p (.dT []))
section
variable {X:Cx}{pos:Pos}
def xU:PE X (.Dict [] [] pos) nR:=λb s c H Q I h=>
 wpAny_Dict_empty ⟨.ref s.heap.objs.size,_,I.laid (a:=s.heap.objs.size) (o:=.dK []) (t':=s.toks) (λ_ _ q=>fB _ q) (bH _) (pG s.heap I.big),rfl,h _ (I.hok.fresh (bH _))⟩
def xV:PE X (.Dict [] [] pos) xT:=λb s c H Q I h=>
 wpAny_Dict_empty ⟨.ref s.heap.objs.size,_,I.laid (a:=s.heap.objs.size) (o:=.dT []) (t':=s.toks) (λ_ _ q=>fB _ q) (bH _) (xS s.heap I.big),rfl,h _ (I.hok.fresh (bH _))⟩
end
def qX:List (TE×TE)->St->Hp->(List (V×V)->Hp->Prop)->Prop
 | [],_,H,Q=>Q [] H
 | (tk,tv)::r,a,H,Q=>tk a H λx b=>tv a b λy c=>qX r a c λps d=>Q ((x,y)::ps) d
abbrev VV:List (V×V)->List (ZS×ZS)->Prop:=Paired λp q=>RelV p.1 q.1/\RelV p.2 q.2
def Pd(X:Cx)(pos:Pos)(keys:List (Option Expr))(d:List Expr)(e:List (TE×TE)):Prop:=
 ∀(b:Z9)(s:ZR)(a:St)(H:Hp)(Q:List (V×V)->Hp->Prop),Inv X b a H s->qX e a H Q →
  wpAny (model X.prog X.w) X.A (evalPairs (pairTrees keys d X.env pos)) (λvs f=>∃ps c,Inv X b a c f/\VV ps vs/\Q ps c) X.xe s
def Dl{X:Cx}{pos:Pos}:Pd X pos [] [] []:=λa s b H Q I h=>pairTrees_nil_walk ⟨[],H,I,.nil,h⟩
def xW{X:Cx}{pos:Pos}{k v:Expr}{d:List (Option Expr)}{vs:List Expr}{tk tv:TE}{c:List (TE×TE)}(f:PE X k tk)(g:PE X v tv)(i:Pd X pos d vs c) :
  Pd X pos (some k::d) (v::vs) ((tk,tv)::c):=λa s b H Q I h=>
 pairTrees_cons_walk (bI (f a s b H _ I h) λu j ⟨x,l,m,n,o⟩=>bI (g a j b l _ m o) λC p ⟨y,q,r,t,w⟩=>
  bI (i a p b q _ r w) λD E ⟨ps,z,A,e,B⟩=>⟨(x,y)::ps,z,A,.cons ⟨n,t⟩ e,B⟩)
def aM(kvs more:List (aR×V)):List (aR×V):=more.foldl (λb a=>bG b a.1 a.2) kvs
def KV.merge:∀ {more:List (aR×V)}{a:List (aR×ZS)}{kvs:List (aR×V)}{vs:List (aR×ZS)},KV more a->KV kvs vs->KV (aM kvs more) (merged vs a):=by
 intro more a kvs vs r;unfold KV at r;induction r generalizing kvs vs with
 | nil=>intro q;exact q
 | @cons p q ps d h t b=>
  intro c;have e:KV (bG kvs p.1 p.2) (stored vs q.1 q.2):=by
   have:=c.put p.1 h.2;rw[<- h.1];exact this
  exact b e
theorem cS:∀(more kvs:List (aR×V)),(aM kvs more).length<=kvs.length+more.length
 | [],kvs=>by show kvs.length<=kvs.length+0;omega
 | p::r,kvs=>by
  have a:=cS r (bG kvs p.1 p.2);have b:=bQ kvs p.1 p.2;show(aM (bG kvs p.1 p.2) r).length<=_;rw[qH];omega
theorem kA{P:Program}{w:World}:∀ {kvs:List (aR×V)}{ws:List (ZS×ZS)},VV (kvs.map λe=>(kV e.1,e.2)) ws->∃d,Carries (aL P w) ws d/\KV kvs d
 | [],_,r=>by rw[map_nil]at r;cases r;exact⟨[],True.intro,.nil⟩
 | p::kvs,_,r=>by
  rw[map_cons]at r;cases r with
  | @cons a b g bs h t=>
   obtain⟨d,c,q⟩:=kA (P:=P) (w:=w) t;obtain⟨i,f⟩:=b;exact⟨(p.1,f)::d,⟨eE h.1,rfl,c⟩,.cons ⟨rfl,h.2⟩ q⟩
def Gp(d:List (TE×TE)):TE:=λe H Q=>∀p,H p=none->qX d e (aJ H p (.dK [])) λps b=>b p=some (.dK [])/\∃a:List (aR×V),ps=a.map (λc=>(kV c.1,c.2))/\a.length<=15/\Q (.ref p) (aJ b p (.dK (aM [] a)))
def Dm{X:Cx}{pos:Pos}{keys:List (Option Expr)}{b:List Expr}{d:List (TE×TE)}(h:Pd X pos keys b d)(l:keys.all (·.isSome)=true)(m:keys.length=b.length)(n:keys≠[])(p:keys.length<=15):PE X (.Dict keys b pos) (Gp d):=by
 intro j s K H Q I q;have r:=I.hok.fresh (bH s.heap.objs.size);have t:=I.laid (a:=s.heap.objs.size) (o:=.dK []) (h':=s.heap.push {cls:=.type "dict",data:=.dict #[] }) (t':=s.toks) (λ_ _ q=>fB _ q) (bH _) (pG s.heap I.big);refine wpAny_Dict_walk (knd:=aL X.prog X.w) l m n p (bI (h j _ K _ _ t (q _ r)) ?_);rintro L M ⟨ps,N,g,k,e,f,u,lk,v⟩;subst u;obtain⟨x,c,y⟩:=kA (P:=X.prog) (w:=X.w) k;obtain⟨z,A,O,B,C⟩:=jZ g.hok e;cases B;refine⟨x,c,C,λh' i D=>⟨.ref s.heap.objs.size,_,?_,rfl,v⟩⟩;have E:(aM [] f).length<=sizeLine:=by
  have F:=cS f [];rw[length_nil]at F;rw[sizeLine_eq];omega
 have G:∃q,h'.get? s.heap.objs.size=some q:=let ⟨q,_,_,J,_⟩:=i;⟨q,J⟩;exact gO g (by rw[e];exact True.intro) D G (nQ E A (y.merge .nil) i)
structure M1(X:Cx)(o:Expr)(m:Str)(apos:Pos)(e:Expr)(cpos:Pos):Prop where
 base:attributeBase o m X.env (eval o X.env)=eval o X.env
 few:((backTo cpos (starEach [e] X.env)).all (λx=>!x.1)&&(backToKw cpos (keywordEach [] X.env)).all (λx=>x.1.isSome)
  && decide (([e]:List Expr).length+([]:List Keyword).length+(if ([]:List Keyword).isEmpty then 0 else 1)<30))=true
 line:(apos.endLine==cpos.line)=true
 trees:backTo cpos (starEach [e] X.env)=[(false,eval e X.env)]
structure M2(X:Cx)(o:Expr)(m:Str)(apos:Pos)(e f:Expr)(cpos:Pos):Prop where
 base:attributeBase o m X.env (eval o X.env)=eval o X.env
 few:((backTo cpos (starEach [e,f] X.env)).all (λx=>!x.1)&&(backToKw cpos (keywordEach [] X.env)).all (λx=>x.1.isSome)
  && decide (([e,f]:List Expr).length+([]:List Keyword).length+(if ([]:List Keyword).isEmpty then 0 else 1)<30))=true
 line:(apos.endLine==cpos.line)=true
 trees:backTo cpos (starEach [e,f] X.env)=[(false,eval e X.env),(false,eval f X.env)]
def Rg(H:Hp)(a:ZT):Prop:=(∃b,Rd H a (.dK b))∨∃b,Rd H a (.dT b)
def qY{X:Cx}{j:Z9}{l:St}{H:Hp}{s:ZR}{a:ZT}(I:Inv X j l H s)(d:Rg H a) :
  s.TypeIs (.ref a) "dict"/\(∀b,Value.ref a=.ref b->∃c,s.heap.get? b=some c/\c.dict=none)/\(a==sysModules)=false:=by
 rcases d with⟨k,e⟩|⟨k,e⟩
 ·obtain⟨_,g,vs,_,f⟩:=gN I.hok e;refine⟨f.typeIs,λb q=>?_,g⟩;cases q;obtain⟨c,_,_,h,i,_⟩:=f;exact⟨c,h,i.2.1⟩
 ·obtain⟨_,g,m,_,f⟩:=iX I.hok e;refine⟨f.typeIs,λb q=>?_,g⟩;cases q;obtain⟨c,_,_,h,i,_⟩:=f;exact⟨c,h,i.2.1⟩
section
variable {X:Cx}{pins:Z9}{σ:St}{H:Hp}{s:ZR}{a:ZT}{y d:V}{u r:ZS}{o:Option V}{A:Around}{E:Z8}
def Jq{Q:Z8}(t:A.units+1<cLine)(I:Inv X pins σ H s)(g:DGet H a y o)(m:RelV y u)(h:∀n p,Inv X pins σ H p->RelV (o.getD .non) n->Q n p) :
  wpAny (model X.prog X.w) A (call (.builtin "dict.get") [.ref a,u]) Q E s:=by
 rcases g with⟨q,k,e,i,l⟩|⟨q,k,b,e,i,v,l⟩
 ·subst i;obtain⟨z,j,vs,f,c⟩:=gN I.hok e;refine call_meetsIn PySem.F.slot_dict_get c.typeIs PySem.F.entry_dict_get (PySem.F.args_dict_get_2 _ _) (meets_dict_get (aL X.prog X.w) a (eE m) j) ⟨_,c.mapOf,h _ _ (I.tok _) ?_⟩;rw[l];exact(f.val k).getD rfl
 ·subst i;cases(show u=Value.ref b from m);obtain⟨z,j,w,f,c⟩:=iX I.hok e;refine call_meetsIn PySem.F.slot_dict_get c.typeIs PySem.F.entry_dict_get (PySem.F.args_dict_get_2 _ _) (meetsH_dict_get (tupleKind (aL X.prog X.w)) a b j) ⟨tupleKind_room_in1 t,k,w,fW I.hok v,c,h _ _ (I.tok _) ?_⟩;rw[l];exact(f.val k).getD rfl
def Jr{Q:Z8}(v:A.units+1<cLine)(I:Inv X pins σ H s)(g:DGet H a y o)(m:RelV y u)(n:RelV d r)(h:∀p q,Inv X pins σ H q->RelV (o.getD d) p->Q p q) :
  wpAny (model X.prog X.w) A (call (.builtin "dict.get") [.ref a,u,r]) Q E s:=by
 rcases g with⟨t,k,e,i,l⟩|⟨t,k,b,e,i,w,l⟩
 ·subst i;obtain⟨z,j,vs,f,c⟩:=gN I.hok e;refine call_meetsIn PySem.F.slot_dict_get c.typeIs PySem.F.entry_dict_get (PySem.F.args_dict_get_3 _ _ _) (meets_dict_get_default (aL X.prog X.w) a (eE m) j r) ⟨_,c.mapOf,h _ _ (I.tok _) ?_⟩;rw[l];exact(f.val k).getD n
 ·subst i;cases(show u=Value.ref b from m);obtain⟨z,j,x,f,c⟩:=iX I.hok e;refine call_meetsIn PySem.F.slot_dict_get c.typeIs PySem.F.entry_dict_get (PySem.F.args_dict_get_3 _ _ _) (meetsH_dict_get_default (tupleKind (aL X.prog X.w)) a b j r) ⟨tupleKind_room_in1 v,k,x,fW I.hok w,c,h _ _ (I.tok _) ?_⟩;rw[l];exact(f.val k).getD n
end
def xX(e ty:TE):TE:=λd H Q=>e d H λx b=>∃a,x=.ref a/\Rg b a/\ty d b λy c=>∃o,DGet c a y o/\Q (o.getD .non) c
def xY(e ty tx:TE):TE:=λb H Q=>e b H λx c=>∃a,x=.ref a/\Rg c a/\ty b c λy f=>tx b f λz d=>∃o,DGet d a y o/\Q (o.getD z) d
def xZ(f ty tx:TE):TE:=λd H Q=>f d H λx e=>∃a,x=.ref a/\Rg e a/\ty d e λy g=>tx d g λz c=>∃b k,c a=some (.dK b)/\y=kV k ∧
 (∀v,aQ b k=some v->Q v (aJ c a (.dK (dJ b k))))/\(aQ b k=none->Q z c)
section
variable {X:Cx}{o e f:Expr}{apos cpos:Pos}{td ty tx:TE}
def yA(j:X.A.units+1<cLine)(k:PE X o td)(l:PE X e ty)(m:M1 X o "get" apos e cpos):PE X (.Call (.Attribute o "get" apos) [e] [] cpos) (xX td ty):=by
 intro b s i H Q I h;refine wpAny_Call_method m.base m.few m.line PySem.F.plainAttrs_dict PySem.F.slot_dict_get PySem.F.type_dict_get (bI (k b s i H _ I h) ?_);rintro u n ⟨x,p,c,q,a,r,d,t⟩;subst r;obtain rfl:u=Value.ref a:=q;obtain⟨v,w,_⟩:=qY c d;refine⟨v,w,?_⟩;rw[m.trees];refine Calls.callWith_builtin rfl (Calls.evalArgs_plain (Calls.spliced_cons (bI (l b n i p _ c t) λF G ⟨y,z,A,B,J,g,C⟩=>Calls.spliced_nil ?_)));exact Jq j A g B λK L D E=>⟨_,z,D,E,C⟩
def yB(j:X.A.units+1<cLine)(k:PE X o td)(l:PE X e ty)(n:PE X f tx)(m:M2 X o "get" apos e f cpos):PE X (.Call (.Attribute o "get" apos) [e,f] [] cpos) (xY td ty tx):=by
 intro b s c H Q I h;refine wpAny_Call_method m.base m.few m.line PySem.F.plainAttrs_dict PySem.F.slot_dict_get PySem.F.type_dict_get (bI (k b s c H _ I h) ?_);rintro u p ⟨x,q,i,r,a,t,d,v⟩;subst t;obtain rfl:u=Value.ref a:=r;obtain⟨w,A,_⟩:=qY i d;refine⟨w,A,?_⟩;rw[m.trees];refine Calls.callWith_builtin rfl (Calls.evalArgs_plain (Calls.spliced_cons (bI (l b p c q _ i v) λO B ⟨y,C,D,E,F⟩=>
  Calls.spliced_cons (bI (n b B c C _ D F) λP R ⟨z,G,J,K,S,g,L⟩=>Calls.spliced_nil ?_))))
 exact Jr j J g E K λT U M N=>⟨_,G,M,N,L⟩
def yC(r:PE X o td)(t:PE X e ty)(w:PE X f tx)(m:M2 X o "pop" apos e f cpos):PE X (.Call (.Attribute o "pop" apos) [e,f] [] cpos) (xZ td ty tx):=by
 intro b s g H Q I h;refine wpAny_Call_method m.base m.few m.line PySem.F.plainAttrs_dict PySem.F.slot_dict_pop PySem.F.type_dict_pop (bI (r b s g H _ I h) ?_);rintro u A ⟨x,B,i,C,a,D,d,E⟩;subst D;obtain rfl:u=Value.ref a:=C;obtain⟨F,G,_⟩:=qY i d;refine⟨F,G,?_⟩;rw[m.trees];refine Calls.callWith_builtin rfl (Calls.evalArgs_plain (Calls.spliced_cons (bI (t b A g B _ i E) λW J ⟨y,K,L,j,M⟩=>
  Calls.spliced_cons (bI (w b J g K _ L M) λN Y ⟨z,O,n,P,q,k,p,R,S,T⟩=>Calls.spliced_nil ?_))))
 subst R;cases l:aQ q k with
 | some v=>exact Pb n p j l (.inr ⟨N,rfl⟩) λZ U c V=>⟨v,_,c,V,S v l⟩
 | none=>exact Jo n p j l λU c=>⟨z,O,c,P,T l⟩
end
end L2
namespace NY
open PySem PySem.W PySem.Calls PyProof.Rows
def jH{P:Params}{h:Heap}:∀(c:List Int)(vs:List ZS),WellAll P h vs (c.map WData.int)->IntsAre vs c:=by
 intro c;induction c with
 | nil=>
  intro vs w;rw[map_nil]at w;cases w;exact .nil
 | cons n c d=>
  intro vs w;rw[map_cons]at w;cases w with
  | cons a b=>
   cases a;exact .cons _ _ (d _ b)
def vH{l:OpenLaw}{n:Nat}(k:l.most=some n){P:Params}{h:Heap}{args:List WData}{f:List ZS}(g:l.row.toRowW.claim.pre args=true)(m:WellAll P h f args) :
  ∃a vs b,f=[Value.ref a]/\args=[WData.list (b.map WData.int)]/\h.get? a=some {cls:=.type "list",data:=.seq vs.toArray }/\IntsAre vs b/\b.length<=n:=by
 have o:WShape.hasAll [] args [.list .int]=true:=(pre_splitW g).1;have i:l.pre.holds [] {args:=args }=true:=(pre_splitW g).2;obtain⟨d,r,rfl,p,s⟩:=hasAllW_cons o;obtain rfl:=hasAllW_nil s;obtain⟨z,rfl,t⟩:=hasW_list p;obtain⟨b,rfl⟩:=items_int t;have j:b.length<=n:=by
  unfold OpenLaw.pre at i;have c:(WTm.not (.lt (.lit (.int (n:Int))) (.len (.arg 0)))).holds [] {args:=[.list (b.map .int)] }=true:=by
   have c:=(holds_andW i).1;rw[k]at c;exact c
  have e:=condW_of c (w_not (w_lt w_lit (w_len_list (w_arg rfl))));rw[bA]at e;refine Nat.le_of_not_lt λq=>?_
  have u:(n:Int)<((b.length:Nat):Int):=by omega
  first
   | (rw[ZW u]at e;exact ZO e Zd)
   | (simp at e;omega)
 cases m with
 | cons v w=>
  cases w
  cases v with
  | list x y=>exact⟨_,_,b,rfl,rfl,x,jH b _ y,j⟩
def vI(l:OpenLaw)(args:List WData):l.row.toRowW.claim.post args (.bool true) args=true:=
 postW_of (r:=l.row.toRowW) (X:=(true==true))
  (show WShape.has [] (.bool true) .bool=true by first|rfl|decide|simp[WShape.has,WShape.arms,WShape.armsAll])
  (show(WTm.eq .res (.lit (.bool true))).value [] {args:=args,res:=some (.bool true),after:=args }=some (.bool (true==true)) from w_eq_bool (w_res rfl) w_lit) rfl
def attach_call{l:OpenLaw}{n:Nat}{q:Program}{m:List Str}{p:(Str->Option ZS)->Heap->Prop}{s:World->Heap->Prop}{d:DefRec}(x:l.most=some n)(y:d.params.defaults=[])(call:∀(w:World)(h b:ZR)(mg j:Z7)(fa:ZT)(o:Obj)(k c i:ZS)(a:ZT)(vs:List ZS)(e:List Int),
   Ground q m [] p w h mg j b.heap->s w b.heap →
   b.heap.get? fa=some o->o.data=.func (docDef d.name d.params d.body d.scope k c i)->b.heap.CodeRec c d.name->mg d.name=some (.ref fa) →
   b.heap.get? a=some {cls:=.type "list",data:=.seq vs.toArray }->IntsAre vs e->e.length<=n->b.gens=#[] →
   codeAny (model l.prog w) callerA (.call (.ref fa) ⟨[.ref a],[]⟩) (λr g=>r=.ok (.ret (.bool true))/\OldK b.heap g.heap/\g.os=b.os/\AllBare g.gens) b) :
  WalkO q m p s l.row.toRowW d [] (λf vs=>PySem.call f vs):=by
 intro w h b mg j G Y fa o k c i z kV A B C t D E O P Q F R S H T;obtain rfl:z=.none:=Dflts.none t y;obtain rfl:kV=.none:=Dflts.noKw t;obtain⟨a,vs,e,rfl,rfl,I,u,v⟩:=vH x F H;refine enter_call (codeAny_mono (call w h b mg j fa o k c i a vs e G Y A (fd_plain B) C D I u v E) λr g J=>?_);obtain⟨rfl,K,L,M⟩:=J;exact⟨.inl ⟨.bool true,.bool true,[],rfl,λ_=>rfl,.bool true,vI l _,λ_=>⟨List.Pairwise.nil,λ_ N=>(nomatch N)⟩⟩,K,L,M⟩
end NY
namespace L2
open PySem PySem.Spec PyProof.Rows
def lW:∀ {vs:List ZS}{a:List Int},IntsAre vs a->Vals (a.map V.int) vs
 | _,_,.nil=>.nil
 | _,_,.cons n t h=>.cons ⟨t,rfl⟩ (lW h)
def Js(H:Hp):Prop:=∀b,H b=none∨∃o a,H b=some (.frz o (.lst a))
def yD{P:Program}{w:World}{K:W.Frag}{mg A:Z7}{CX:Bv}{k:Nat}{fa a:ZT}{G:FuncData}{x:Str}{sp:Sp}{c:ZR}{vs:List ZS}{i:List Int}(I:K.In c.heap)(J:c.heap.Ns mainGlobals mg)(f:c.heap.Ns builtinsNs A)(X:∀x:Str,x≠"__name__"->A x=bootBuiltins x)(Y:c.heap.NoLimit)(Z:c.gens=#[])(t:c.heap.get? a=some {cls:=.type "list",data:=.seq vs.toArray })(L:IntsAre vs i)(M:i.length<=sizeLine)(hr:Room k callerA)(F:∀base:Heap,K.In base->base.Ns mainGlobals mg->eN P w K mg base CX k fa G [x] sp)(EA:∀(s:ZR)(u:ZS),BindsTo s G ⟨[u],[]⟩ [(x,u)])(xb:∀H:Hp,Js H->SqL K H a (i.map V.int)->sp [.ref a] H (λv _=>v=.bl true) λ_ _ _=>False)(JS:∀H e g,CX [] H c (λ_ _ _=>False) e g->False) :
  codeAny (model P w) callerA (.call (.ref fa) ⟨[.ref a],[]⟩) (λr g=>r=.ok (.ret (.bool true))/\OldK c.heap g.heap/\g.os=c.os/\AllBare g.gens) c:=by
 have N:=lW L;have JT:=L.length;have D:∀H:Hp,Js H->SqL K H a (i.map V.int)->HOk P w H c.heap->(∀b,H b≠none->b=a)->(H a≠none->K.lookup a=none) →
   codeAny (model P w) callerA (.call (.ref fa) ⟨[.ref a],[]⟩) (λr g=>r=.ok (.ret (.bool true))/\OldK c.heap g.heap/\g.os=c.os/\AllBare g.gens) c:=by
  intro H O hS E Q hK;have R:∀ {b:ZT}{o:Obj},c.heap.get? b=some o->H b=none->(nB c.heap H).get? b=some o:=λe n=>wS e n
  have DU:∀ {b:ZT}{o:Obj}{j:Array DictEntry}{l:Nat},c.heap.get? b=some o->o.data=.dict j l->H b=none:=λ{b o j l} e d=>by
   cases q:H b with
   | none=>rfl
   | some u=>
    have B:b=a:=Q b (by rw[q];simp);subst B;rw[t]at e;cases e;have d':Data.seq vs.toArray _=Data.dict j l:=d;cases d'
  have y:∀ {b:ZT}{m:Z7},c.heap.Ns b m->(nB c.heap H).Ns b m:=λ{b m} ⟨o,j,l,e,d,r⟩=>⟨o,j,l,R e (DU e d),d,r⟩
  have S:K.In (nB c.heap H):=λb o e=>R (I b o e) (by
   cases q:H b with
   | none=>rfl
   | some u=>
    have B:b=a:=Q b (by rw[q];simp);subst B;rw[hK (by rw[q];simp)]at e;cases e)
  have hM:Mod K mg (nB c.heap H):=⟨S,y J,⟨A,y f,X⟩,let ⟨mc,h1,h2⟩:=Y;⟨mc,y h1,h2⟩⟩;have e0:Env0 P w K mg (nB c.heap H) callerA [] c H:=⟨rfl,hM,λb o e=>By e,le_of_eq (uP _ _),trivial,λb f=>ZO (show b∈([]:List ZT) from f) Zs,E,.of_eq Z⟩;refine codeAny_mono ((F _ S (y J)).run callerA [] c H ⟨[.ref a],[]⟩ [.ref a] [.ref a] _ _ hr e0 (EA c (.ref a)) (.cons rfl .nil) (xb H O hS)) λr g h=>?_
  cases r with
  | error e=>exact(JS H e g h).elim
  | ok fl=>
   cases fl with
   | next=>exact False.elim h
   | brk=>exact False.elim h
   | cont=>exact False.elim h
   | ret u=>
    obtain⟨v,H',os,U,un,JU,r',q⟩:=h;have q':v=.bl true:=q;subst q';obtain rfl:u=Value.bool true:=r';refine⟨rfl,OldK.of_keep λb o e=>?_,os,U⟩
    cases q:H b with
    | none=>exact un.keep b o e q (by intro z;exact ZO (show b∈([]:List ZT) from z) Zs) Zs
    | some u=>
     rcases O b with z|⟨ob,xs,z⟩
     ·rw[q]at z;cases z
     ·have z2:=un.frzs b ob _ z;obtain⟨T,_⟩:=E b _ z;obtain⟨e2,_⟩:=JU b _ z2;rw[e]at T;cases T;exact e2
 cases C:K.lookup a with
 | some o=>
  have e:=I a o C;rw[t]at e;cases e;refine D (λ_=>none) (λ_=>.inl rfl) (.inr ⟨_,vs.toArray,_,C,rfl,rfl,rfl,by rw[cO,JT];exact M,by simpa using N⟩) (λb u z=>by have p:(none:Option HO)=some u:=z;cases p) (λb z=>ZO rfl z) λz=>ZO rfl z
 | none=>
  refine D (λb=>if b=a then some (.frz {cls:=.type "list",data:=.seq vs.toArray } (.lst (i.map V.int))) else none) (λb=>?_) (.inl (.inr ⟨{cls:=.type "list",data:=.seq vs.toArray },ZQ rfl⟩)) (λb u z=>?_) (λb z=>?_) λ_=>C
  ·by_cases f:b=a
   ·exact .inr ⟨_,_,ZQ f⟩
   ·exact .inl (ZP f)
  ·by_cases f:b=a
   ·have p:=(ZQ f).symm.trans z;cases p;subst f;exact⟨t,by rw[bA];exact M,vs,_,N,t⟩
   ·have p:=(ZP f).symm.trans z;cases p
  ·by_cases f:b=a
   ·exact f
   ·exact ZO (ZP f) z
def sW{l:W.OpenLaw}{n k:Nat}{q:Program}{o:List Str}{t:(Str->Option ZS)->Heap->Prop}{j:World->Heap->Prop}{d:DefRec}{K:Params->W.Frag}{CX:World->Bv}{sp:World->Sp}{x:Str}(y:l.most=some n)(z:n<=sizeLine)(A:d.params.defaults=[])(B:Room k callerA)(C:∀(w:World)(h:Heap),j w h->(K w.params).In h)(F:∀(w:World)(mg:Z7)(fa:ZT)(h:Heap),(K w.params).In h->h.Ns mainGlobals mg->mg d.name=some (.ref fa) →
   ∃c:FuncData,(∀(s:ZR)(u:ZS),BindsTo s c ⟨[u],[]⟩ [(x,u)]) ∧
    ∀base:Heap,(K w.params).In base->base.Ns mainGlobals mg->eN l.prog w (K w.params) mg base (CX w) k fa c [x] (sp w))(D:∀(w:World)(H:Hp)(a:ZT)(b:List Int),b.length<=n->Js H->SqL (K w.params) H a (b.map V.int)->sp w [.ref a] H (λv _=>v=.bl true) λ_ _ _=>False)(E:∀(w:World)(H:Hp)(s:ZR)(e:ZS)(g:ZR),CX w [] H s (λ_ _ _=>False) e g->False) :
  W.WalkO q o t j l.row.toRowW d [] (λf vs=>PySem.call f vs):=by
 refine NY.attach_call y A λw Q r mg S fa a0 T U R a vs b G Y X Z Y1 I J p i L=>?_;have m:=C w _ Y;obtain⟨c,M,N⟩:=F w mg fa _ m G.T.g I;exact yD m G.T.g G.T.b G.T.builtins G.T.nolimit L J p (eJ i z) B N M (λH O P=>D w H a b i O P) λH e g=>E w H r e g
end L2
/- Xd TB HI (shape;Xe,My.* are OA):
   My.Adr: a structure of the addresses that TC OB names (classes,CU);My.Txt K t: a structure (Prop) of the equations over K;
   My.txt_mk:{K} {implicit addresses ..} (e1:nsIn K mainGlobals "law"=some (some (.ref f))) (e2:K.lookup f=some ⟨oc,od,.func (fnOf "law" "law" params body scope dV kV doc pm an cdv ct),sl⟩) (e3:codeIn K cdv "law"=true) ..:∃t,My.Txt K t
set_option maxRecDepth 100000 in
set_option maxHeartbeats 0 in
def PySem.Challenge.cw_LID_holds : PySem.Challenge.rw_LID.Holds := by
 w_on;o_law;k_head;(case hw=>w_witness2)
 k_fill
 refine L2.sW (l:=PySem.Challenge.rw_LID) (n:=63) (k:=40) (x:="script") (CX:=λw=>..) (sp:=λ_=>My.sp_law) rfl Zd rfl ⟨rfl,Zd,Zd⟩ (λw h Y=>W.kIn_of Y) ?F ?S ?C
 case F=>
  intro w mg fa h KX G zk;have T:∃t,My.Txt (L2.KOf KX) t:=by
   dsimp only [L2.KOf]                          -- K TF OC as «<heap const> w.params» for k_is
   refine' My.txt_mk ?e1 ?e2 ?e3 ..
   (case e1=>W.k_is)                    -- in the order: a name->its address->its object->its parts
   (case e2=>W.k_is)
   ..
  obtain⟨t,T⟩:=T;have e0:=zk.symm.trans (W.mg_of KX G T.law);cases e0                                       -- fa is the OD own address;exact⟨_,λs u=>.of_eq rfl,λbase kb nb=>My.law_fn T kb nb⟩     -- if «.of_eq rfl» comes Xf early: refine' ⟨_,?b,λbase kb nb=>My.law_fn T kb nb⟩;exact λs u=>.of_eq rfl
 case S=>exact λw H a ns hl hO hS=>..
 case C=>exact ..
(the tactic k_is has no namespace: write k_is) -/
namespace L2
open PySem PySem.Spec PyProof.Rows
def bO(s:Stmt):Arguments:=match s with
 | .FunctionDef _ a _ _ _ _ _ _ _ _=>a
 | _=>{posonlyargs:=[],args:=[],vararg:=none,kwonlyargs:=[],kw_defaults:=[],kwarg:=none,defaults:=[] }
def aS(s:Stmt):List Stmt:=match s with
 | .FunctionDef _ _ b _ _ _ _ _ _ _=>b
 | _=>[]
def aG(s:Stmt):Scope:=match s with
 | .FunctionDef _ _ _ _ _ _ sc _ _ _=>sc
 | _=>{kind:=.function,names:=[],isGenerator:=false,isCoroutine:=false }
abbrev jL:Bv:=λ_ _ _ _ _ _=>False
abbrev E0:XK:=λ_ _ _=>False
def sX{X:Cx}:jV jL X E0:=λ_ _ _ _ _ _ _ h=>h.elim
structure Fun(K:W.Frag)(x qual:Str)(st:Stmt)(f:ZT)(fd:FuncData):Prop where
 ex:∃(oc:ZS)(od:Option ZT)(kV doc pm:ZS)(an:Option ZT)(cdv ct:ZS)(osl:Array (Option ZS)),
  fd=W.fnOf x qual (bO st) (aS st) (aG st) .none kV doc pm an cdv ct/\K.lookup f=some ⟨oc,od,.func fd,osl⟩/\W.codeIn K cdv qual=true
 kp:W.keepIn K (.ref f)=true
section
variable {P:Program}{w:World}{K:W.Frag}{mg:Z7}{base:Heap}
def Fun.ok{x b:Str}{st:Stmt}{f:ZT}{c:FuncData}{N ps:List Str}{k:Nat}{sp:Sp}(F:Fun K x b st f c)(S:cJ N ps (aG st))(len:∀vs H Q E,sp vs H Q E->vs.length=ps.length)(d:∀(a:ZS)(A:Around)(outer:List Env)(s:ZR)(H:Hp)(vs:List V)(Q:VK)(E:XK),Room k (A.deeper (envOfC b (aG st) s.heap.objs.size f a))->sp vs H Q E →
   ∃t,PSs (eO jL P w K mg base N b (aG st) f a A outer s H E).nox (aS st) t/\t {nx:=λ_ e=>Q .non e,rt:=Q } (start N vs) H):eN P w K mg base jL (k+1) f c ps sp:=by
 obtain⟨n,o,kV,l,p,r,a,u,m,rfl,lk,g⟩:=F.ex;refine Gk lk g S len λA outer s H vs Q E i j=>?_;obtain⟨t,h,q⟩:=d a A outer s H vs Q E i j;exact⟨t,h.nox,q⟩
def Fun.binds{x g:Str}{st:Stmt}{f:ZT}{i:FuncData}{ps:List Str}(F:Fun K x g st f i)(h:∀(kV a c:ZS)(d:Option ZT)(b e:ZS)(us:List ZS),us.length=ps.length->bindArgs (W.fnOf x g (bO st) (aS st) (aG st) .none kV a c d b e) ⟨us,[]⟩=pure (ps.zip us)):Binds K i ps []:=by
 obtain⟨k,l,kV,a,c,d,b,e,j,rfl,lk,m⟩:=F.ex;exact .all (h kV a c d b e)
def kB{x a:Str}{st:Stmt}{f:ZT}{j:ZS}{m e:Option ZT}{i:Array (Option ZS)}{kV d g b h:ZS}(l:K.lookup f=some ⟨j,m,.func (W.fnOf x a (bO st) (aS st) (aG st) .none kV d g e b h),i⟩)(c:W.codeIn K b a=true)(k:W.keepIn K (.ref f)=true):Fun K x a st f (W.fnOf x a (bO st) (aS st) (aG st) .none kV d g e b h):=⟨⟨j,m,kV,d,g,e,b,h,i,rfl,l,c⟩,k⟩
end
def cQ{A:Around}{k:Nat}(a:Room k A):A.units+1<cLine:=fQ (Nat.add_le_add_left (by decide:1<=64) _) a.units
def Same(H a:Hp):Prop:=∀b o,H b=some o->a b=some o
def Same.refl(H:Hp):Same H H:=λ_ _ h=>h
def Same.trans{H d e:Hp}(a:Same H d)(b:Same d e):Same H e:=λc o h=>b c o (a c o h)
def Same.free{H a:Hp}(e:Same H a){l:ZT}(h:a l=Option.none):H l=Option.none:=by
 cases q:H l with
 | none=>rfl
 | some o=>
  rw[e l o q]at h;cases h
def Same.seq{K:W.Frag}{H b:Hp}{a:ZT}{xs:List V}(e:Same H b)(h:SqL K H a xs):SqL K b a xs:=by
 rcases h with(h|⟨o,h⟩)|h
 ·exact .inl (.inl (e _ _ h))
 ·exact .inl (.inr ⟨o,e _ _ h⟩)
 ·exact .inr h
section
variable {κ:Type} [DecidableEq κ]
def gP:∀ {l:List κ}{k:κ},l.Nodup->¬ k∈l->(l++[k]).Nodup
 | [],k,_,_=>by simp
 | a::r,k,h,b=>by
  obtain⟨c,d⟩:=nodup_cons.mp h;show(a::(r++[k])).Nodup;refine nodup_cons.mpr ⟨λm=>?_,gP d λm=>b (mem_cons.mpr (Or.inr m))⟩;rcases Zma.mp m with q|q
  ·exact c q
  ·exact b (mem_cons.mpr (Or.inl (Zms.mp q).symm))
def vJ{p:κ×V}{r:List (κ×V)}{k:κ}(e:p.1=k):dJ (p::r) k=dJ r k:=by
 unfold dJ;rw[filter_cons,ZP (by simp[e])]
def vK{p:κ×V}{r:List (κ×V)}{k:κ}(e:¬ p.1=k):dJ (p::r) k=p::dJ r k:=by
 unfold dJ;rw[filter_cons,ZQ (by simp[e])]
end
def eQ(env:Env):List (Str×NameKind)->List (Str×ZT)->List (Str×ZT)
 | [],a=>a
 | (n,k)::r,a=>eQ env r (if k=.free then (match env.cells.lookup n with|some c=>(n,c)::a|none=>a) else a)
theorem fX{env:Env}:∀(names:List (Str×NameKind))(a:List (Str×ZT)),(∀x∈names,x.2=.free->∃c,env.cells.lookup x.1=some c) →
  (forIn names a λ(x:Str × NameKind) (r:List (Str × Addr))=>(do
   if x.2 == .free then do
    let c←cellOf env x.1
    pure (ForInStep.yield ((x.1,c)::r))
   else pure (ForInStep.yield r):Sem _))=pure (eQ env names a)
 | [],a,_=>rfl
 | (n,k)::r,a,h=>by
  rw[List.forIn_cons];by_cases b:k=.free
  ·subst b;obtain⟨c,f⟩:=h (n,.free) dI rfl;have e:env.cells.lookup n=some c:=f;have g:cellOf env n=pure c:=by unfold cellOf;rw[e]
   simp only [beq_self_eq_true,if_true,g,pure_bind];rw[fX r ((n,c)::a) λx d=>h x (jE _ d)];simp[eQ,e]
  ·have i:(k==NameKind.free)=false:=by simpa using b
   simp only [i,Bool.false_eq_true,if_false,pure_bind];rw[fX r a λx d=>h x (jE _ d)];simp[eQ,b]
def kC{a:Scope}{env:Env}(h:∀x∈a.names,x.2=.free->∃c,env.cells.lookup x.1=some c):closureFor a env=pure (eQ env a.names []):=by
 have e:=fX a.names [] h;unfold closureFor;exact(congrArg (λz=>z>>=λ(r:List (Str×ZT))=>(pure r:Sem _)) e).trans (pure_bind _ _)
theorem pH{env:Env}:∀(names:List (Str×NameKind))(b:List (Str×ZT)),(∀y d,(y,d)∈b->env.cells.lookup y=some d)->∀y d,(y,d)∈eQ env names b->env.cells.lookup y=some d
 | [],_,h=>h
 | (n,k)::r,b,h=>by
  unfold eQ;refine pH r _ λy d a=>?_
  split at a
  ·split at a
   ·rename_i c f;rcases mem_cons.mp a with e|e
    ·cases e;exact f
    ·exact h y d e
   ·exact h y d a
  ·exact h y d a
def sY{env:Env}:∀(names:List (Str×NameKind))(a:List (Str×ZT))(y:Str)(d:ZT),(y,d)∈eQ env names a->(y,.free)∈names∨(y,d)∈a
 | [],_,_,_,h=>.inr h
 | (n,k)::r,a,y,d,h=>by
  unfold eQ at h;rcases sY r _ y d h with e|hm
  ·exact .inl (jE _ e)
  ·split at hm
   ·rename_i b;split at hm
    ·rcases mem_cons.mp hm with e|e
     ·cases e;subst b;exact .inl dI
     ·exact .inr e
    ·exact .inr hm
   ·exact .inr hm
theorem yE{env:Env}:∀(names:List (Str×NameKind))(a:List (Str×ZT))(y:Str),((∃d,(y,d)∈a)∨(y,.free)∈names)->(∀x∈names,x.2=.free->∃c,env.cells.lookup x.1=some c)->∃d,(y,d)∈eQ env names a
 | [],_,_,h,_=>by
  rcases h with h|h
  ·exact h
  ·cases h
 | (n,k)::r,a,y,h,f=>by
  unfold eQ;refine yE r _ y ?_ λx g=>f x (jE _ g)
  rcases h with⟨d,b⟩|h
  ·refine .inl ⟨d,?_⟩;split
   ·split
    ·exact jE _ b
    ·exact b
   ·exact b
  ·rcases mem_cons.mp h with e|e
   ·have i:y=n:=congrArg Prod.fst e;have j:NameKind.free=k:=congrArg Prod.snd e;subst i j;obtain⟨c,l⟩:=f (y,.free) dI rfl;have m:env.cells.lookup y=some c:=l;refine .inl ⟨c,?_⟩;rw[ZQ rfl,m];exact dI
   ·exact .inr e
theorem kD{a:Type}:∀ {l:List (Str×a)}{y:Str}{d:a},(y,d)∈l->∃d',l.lookup y=some d'/\(y,d')∈l
 | (n,c)::r,y,d,h=>by
  by_cases e:y=n
  ·subst e;exact⟨c,by simp[lookup_cons],dI⟩
  ·rcases mem_cons.mp h with q|q
   ·cases q;exact ZO rfl e
   ·obtain⟨d',b,f⟩:=kD q;have g:(y==n)=false:=by simpa using e
    exact⟨d',by rw[lookup_cons,g];exact b,jE _ f⟩
def cI{env:Env}{names:List (Str×NameKind)}{y:Str}{c:ZT}(h:(eQ env names []).lookup y=some c):env.cells.lookup y=some c/\(y,.free)∈names:=by
 have a:=PySem.mem_of_lookup h;refine⟨pH names [] (λ_ _ z=>nomatch z) y c a,?_⟩;rcases sY names [] y c a with e|e
 ·exact e
 ·cases e
def sZ{env:Env}{names:List (Str×NameKind)}{y:Str}(h:(y,.free)∈names)(b:∀x∈names,x.2=.free->∃c,env.cells.lookup x.1=some c):∃c,(eQ env names []).lookup y=some c/\env.cells.lookup y=some c:=by
 obtain⟨d,e⟩:=yE names [] y (.inr h) b;obtain⟨c,a,_⟩:=kD e;exact⟨c,a,(cI a).1⟩
def nS{a:Scope}{env:Env}(d:∀y∈a.names,y.2≠.cell){x:Str}(h:(relabel a env).names.lookup x=some .cell∨(relabel a env).names.lookup x=some .free):(x,.free)∈a.names:=by
 have go:∀ {k:NameKind},k=.cell∨k=.free->(relabel a env).names.lookup x=some k->(x,.free)∈a.names:=λ{k} f h=>by
  have c:=PySem.mem_of_lookup h;unfold relabel at c;obtain⟨⟨n,j⟩,b,e⟩:=Zmm.mp c;dsimp only at e;split at e
  ·rename_i g;cases e;have:j=.free:=by
    have:=(Bool.and_eq_true_iff.mp (Bool.and_eq_true_iff.mp g).1).1;simpa using this
   subst this;exact b
  ·cases e;rcases f with q|q
   ·exact ZO q (d _ b)
   ·subst q;exact b
 rcases h with h|h
 ·exact go (.inl rfl) h
 ·exact go (.inr rfl) h
theorem gQ{env:Env}:∀ {names:List (Str×NameKind)}{x:Str},names.lookup x=some .free →
  (names.map λ(n,k)=>if (k==NameKind.free&&env.scope.kind == .function&&env.kindOf n==some .cell) then (n,NameKind.cell) else (n,k)).lookup x=some .cell∨
  (names.map λ(n,k)=>if (k==NameKind.free&&env.scope.kind == .function&&env.kindOf n==some .cell) then (n,NameKind.cell) else (n,k)).lookup x=some .free
 | [],_,h=>by simp at h
 | (n,k)::r,x,h=>by
  have b:=@gQ env r x;rw[map_cons];dsimp only;cases a:x==n with
  | true=>
   simp only [lookup_cons,a]at h;cases h;split
   ·left;simp[lookup_cons,a]
   ·right;simp[lookup_cons,a]
  | false=>
   simp only [lookup_cons,a]at h;split
   ·simp only [lookup_cons,a];exact b h
   ·simp only [lookup_cons,a];exact b h
def iA(X:Cx)(a:Scope)(C:ZT)(N:List Str)(b:ZR)(c:Hp)(fp:List ZT):Cx where
 prog:=X.prog
 w:=X.w
 K:=X.K
 mg:=X.mg
 base:=X.base
 A:=X.A
 N:=N
 s₀:=b
 H₀:=c
 env:=compEnvC a (eQ X.env a.names []) C X.env
 outer:=X.stack
 stack:=X.stack
 ex:=fp
 fn:=λ_=>false
 calm:=X.calm
 pn:=[]
 xe:=λ_ _=>False
def qZ(js:List (Option Nat))(a:St):St:=js.map λo=>match o with|some j=>(a[j]?).getD none|none=>none
structure CompScope(X:Cx)(scope:Scope)(N:List Str)(js:List (Option Nat)):Prop where
 kind:scope.kind=.function
 nocell:∀y∈scope.names,y.2≠.cell
 loc:∀y∈scope.names,y.2=.local->scope.names.lookup y.1=some .local
 len:js.length=N.length
 cap:∀(i j:Nat),js[i]?=some (some j)->∃x,N[i]?=some x/\X.N[j]?=some x/\scope.names.lookup x=some .free
 out:∀y∈scope.names,y.2=.free->X.env.kindOf y.1=some .cell∨X.env.kindOf y.1=some .free
def rA(js:List (Option Nat))(g:TG):Prop:=∀x a H Q,g x a H Q->g x a H λb c=>Q b c/\b.length=a.length/\∀(i j:Nat),js[i]?=some (some j)->b[i]?=a[i]?
def tD(js:List (Option Nat))(g:sM):Prop:=∀c a H Q,g c a H Q->g c a H λb d=>Q b d/\b.length=a.length/\∀(i j:Nat),js[i]?=some (some j)->b[i]?=a[i]?
def bJ{js:List (Option Nat)}{k:Nat}(h:js[k]?=some none):rA js (aK k):=λx a H Q q=>by
 refine⟨q,Zs,λi j e=>?_⟩;have:k≠i:=λz=>by subst z;rw[h]at e;cases e
 rw[getElem?_set_ne this]
def fE{js:List (Option Nat)}:tD js Ch:=λa b H Q q=>⟨q.1,q.2,rfl,λ_ _ _=>rfl⟩
def bY{js:List (Option Nat)}{k:Nat}{u:sM}(h:js[k]?=some none)(m:tD js u):tD js (oY (aK k) u):=λs f H Q q=>by
 obtain⟨v,r,e,q⟩:=q;refine⟨v,r,e,?_⟩;obtain⟨_,n⟩:=bJ h v f H (λ_ _=>True) trivial;have o:=m r _ _ _ q;have p:(λd g=>Q d g/\d.length=(f.set k (some v)).length/\∀(i j:Nat),js[i]?=some (some j)->d[i]?=(f.set k (some v))[i]?)=(λd (g:Hp)=>Q d g/\d.length=f.length/\∀(i j:Nat),js[i]?=some (some j)->d[i]?=f[i]?):=by
  funext d g
  have l:∀(i j:Nat),js[i]?=some (some j)->(f.set k (some v))[i]?=f[i]?:=n.2;apply propext;constructor
  ·rintro⟨a,b,c⟩;exact⟨a,by simpa using b,λi j e=>(c i j e).trans (l i j e)⟩
  ·rintro⟨a,b,c⟩;exact⟨a,by simpa using b,λi j e=>(c i j e).trans (l i j e).symm⟩
 show u r (f.set k (some v)) H _;rw[<- p];exact o
def gS{K:W.Frag}{n:Nat}{js:List (Option Nat)}{t:sM}(h:tD js t):rA js (wZ K n t):=λx f H Q q=>by
 obtain⟨a,b,e,c,d,q⟩:=q;exact⟨a,b,e,c,d,h b f H Q q⟩
section
variable {X:Cx}{pins:Z9}{σ:St}{H H':Hp}{s:ZR}
def Un.more{fs e:List ZT}{H H':Hp}{h h':Heap}{D:ZT}{o:HO}(u:Un fs e H H' h h')(f:h.get? D=none)(a:H D=none):Un fs e H (aJ H' D o) h h' where
 keep:=u.keep
 slot:=u.slot
 free:=λb c q n g=>by
  have:b≠D:=λz=>by rw[z,f]at q;cases q
  rw[aD this];exact u.free b c q n g
 there:=u.there
 tups:=λb d q=>by rw[aD (aB q a)];exact u.tups b d q
 frzs:=λb c d q=>by rw[aD (aB q a)];exact u.frzs b c d q
 tbls:=λb ps q=>by rw[aD (aB q a)];exact u.tbls b ps q
def HOk.more{P:Program}{w:World}{h:Heap}{D:ZT}{o:HO}(k:HOk P w H h)(a:H D=none)(new:ObjOk P w (aJ H D o) h D o):HOk P w (aJ H D o) h:=λb u e=>by
 by_cases d:b=D
 ·subst d;rw[aA]at e;cases e;exact new
 ·rw[aD d]at e;exact(k b u e).stay (λ_ _ _ q=>q) (λc q=>by rw[aD (aB q a)];exact q) λc f q=>by rw[aD (aB q a)];exact q
def CompScope.ok{f:Scope}{N:List Str}{js:List (Option Nat)}{C:ZT}{fp:List ZT}(S:CompScope X f N js)(I:Inv X pins σ H s)(i:s.heap.objs.size<=C)(d:∀b∈fp,jF X pins H b)(j:∀b∈fp,b<s.heap.objs.size) :
  (iA X f C N s H fp).Ok where
 mod:=I.ok.mod
 kind:=S.kind
 glob:=I.ok.glob
 blt:=I.ok.blt
 above:=i
 inj:=λx y c g k=>I.ok.inj x y c (cI g).1 (cI k).1
 has:=λx l=>by
  have h:(x,.free)∈f.names:=nS S.nocell l;obtain⟨c,g,_⟩:=sZ (env:=X.env) h λy m n=>I.ok.has y.1 (S.out y m n)
  exact⟨c,g⟩
 cab:=λx c z=>nomatch z
 hd:=I.ok.hd
 frames:=I.ok.frames
 stk:=.inl rfl
 exf:=λb a=>⟨ne_of_lt (ZK (j b a) i),λx c e=>(d b a).2.2.2.2.1 x c (cI e).1⟩
 bs:=I.bs
 bsz:=eJ I.ok.bsz I.sz
 noex:=λb o e a=>by
  rcases(d b a).2.2.2.1 with z|z
  ·exact I.ok.noex b o e z
  ·exact ZO (ZK (Heap.lt_size e) (eJ I.ok.bsz z)) (lt_irrefl _)
 exfs:=λb a h=>by
  rcases mem_cons.mp (I.stkSub b h) with z|z
  ·exact(d b a).2.1 z
  ·exact(d b a).2.2.1 z
 funs:=I.stack
 frf:=I.stkFree
def CompScope.start{r:Scope}{N:List Str}{js:List (Option Nat)}{C D:ZT}{fp:List ZT}{l:Obj}{h:Heap}{m:Z7}{tk:Nat}(S:CompScope X r N js)(I:Inv X pins σ H s)(B:s.heap.objs.size<=C)(t:s.heap.objs.size<=D)(M:D≠C)(O:∀b∈fp,jF X pins H b)(P:∀b∈fp,b<s.heap.objs.size)(k:∀b o,s.heap.get? b=some o->h.get? b=some o)(Q:h.Ns C m)(R:h.get? D=some l)(T:∀v,l.data≠.cell v) :
  Inv (iA X r C N s H fp) [(D,l)] (qZ js σ) H {s with heap:=h,toks:=tk } where
 ok:=S.ok I B O P
 os:=rfl
 bare:=I.bare
 base:=Un.kept k
 loc:=by
  refine⟨m,Q,λi x v u a h3=>?_⟩;have u:N[i]?=some x:=u;unfold qZ at a;rw[dH]at a;cases e:js[i]? with
  | none=>rw[e]at a;cases a
  | some o=>
   rw[e]at a;cases o with
   | none=>cases a
   | some j=>
    have n:(σ[j]?).getD none=some v:=Option.some.inj a;have L:σ[j]?=some (some v):=by
     cases q:σ[j]? with
     | none=>rw[q]at n;cases n
     | some z=>rw[q]at n;exact congrArg some n
    obtain⟨y,E,U,F⟩:=S.cap i j e;rw[u]at E;cases E;have G:(x,.free)∈r.names:=PySem.mem_of_lookup F;have J:=S.out (x,.free) G rfl;obtain⟨mX,_,V⟩:=I.loc;have W:Hw X.env.scope x:=by
     rcases J with z|z
     ·exact .inr (.inl z)
     ·exact .inr (.inr z)
    obtain⟨a0,a1,a2⟩:=V j x v U L W;refine⟨a0,a1,.inr ?_⟩;rcases a2 with⟨d,_⟩|⟨d,c,Y,Z⟩
    ·rcases J with z|z
     ·have f:X.env.kindOf x=some .cell:=z;rw[d]at f;cases f
     ·have f:X.env.kindOf x=some .free:=z;rw[d]at f;cases f
    ·obtain⟨c',F6,K⟩:=sZ (env:=X.env) G λy hy d=>I.ok.has y.1 (S.out y hy d)
     rw[Y]at K;cases K;refine⟨gQ F,c,F6,?_⟩;obtain⟨g,w,A⟩:=Z;exact⟨g,k c g w,A⟩
 cell:=λx c e=>by
  obtain⟨v,g,w,A⟩:=I.cell x c (cI e).1;exact⟨v,g,k c g w,A⟩
 free:=I.hok.fresh B
 freeC:=λx c e=>I.freeC x c (cI e).1
 pin:=λp hp=>by
  have e:p=(D,l):=by
   rcases Zma.mp hp with z|z
   ·exact ZO (show p∈([]:List (ZT×Obj)) from z) Zs
   ·simpa using z
  subst e;refine⟨R,I.hok.fresh t,M,λhm=>?_,T⟩;rcases mem_cons.mp (I.stkSub D hm) with z|z
  ·have z:D=X.env.locals:=z;have:=I.lt;rw[<- z]at this;exact ZO (ZK this t) (lt_irrefl _)
  ·exact I.nofs t z
 hok:=I.hok.kept k
 len:=by
  unfold qZ;rw[bA];exact S.len
end
def Nm(X:Cx)(d:List Expr)(t:TT):Prop:=
 ∀(b:Z9)(s:ZR)(a:St)(H:Hp)(Q:Bool->Hp->Prop)(E:Z8),Inv X b a H s->t a H Q →
  wpAny (model X.prog X.w) X.A (forIn d true λc r=>if r=true then do let ok←isTrue c X.env (eval c X.env);pure (ForInStep.yield ok) else pure (ForInStep.yield r)) (TP X b a Q) E s
def tF:TT:=λ_ H Q=>Q true H
def Dn{X:Cx}:Nm X [] tF:=λa s b H Q E I h=>wpAny_tests_nil ⟨H,I,h⟩
def Do{X:Cx}{c:Expr}{t:TT}(h:PT X c t)(b:X.xe=λ_ _=>False:=by rfl):Nm X [c] t:=λa s d H Q E I q=>
 wpAny_tests_one (wpAny_mono (h a s d H Q I q) (λ_ _ z=>z) λe f z=>by rw[b]at z;exact z.elim)
def lX(js:List (Option Nat))(g:TG)(j:TT)(k:TE)(p:St)(J:It)(l:Hp)(Q:List V->Hp->Prop):Prop:=
 ∃W:Nat->Nat->List V->Hp->Prop,(∃m,W 0 m [] l)/\∀i m a H,W i m a H →
  (J.stop i H/\Q a H)∨
  (J.go i H/\a.length<sizeLine/\∃N:List V->Hp->Prop,(∀e c,N e c->∃f,f<m/\W (i+1) f e c) ∧
   ∀x c,J.yld i H x c->g x (qZ js p) c λd n=>j d n λb h=>if b=true then k d h λy o=>N (a++[y]) o else N a h)
def Gq(c:TI)(js:List (Option Nat))(g:TG)(d:TT)(e:TE):TE:=λb H Q=>c b H λJ f=>
 lX js g d e b J f λh a=>∀p,a p=none->Q (.ref p) (aJ a p (.lst h))
def Gr(i:Nat)(c:TI)(js:List (Option Nat))(g:TG)(d:TT)(e:TE):TS:=λD a H=>c a H λJ f=>
 lX js g d e a J f λh b=>∀p,b p=none->D.nx (a.set i (some (.ref p))) (aJ b p (.lst h))
section
variable {X:Cx}{tg iter elt:Expr}{ifs:List Expr}{scope:Scope}{N:List Str}{js:List (Option Nat)}{wi:TI}{g:TG}{tt:TT}{te:TE}{pos:Pos}
def kE{Q:Z9}{j:St}{d:Hp}{a:ZR}{it:ZT}{fp:List ZT}{R:Nat->Heap->Prop}{J:It}{Qf:List V->Hp->Prop}{RR:ZS->ZT->Result->ZR->Prop}{E:Z8}(hc:X.calm=true)(S:CompScope X scope N js)(go:rA js g)(c:∀(C:ZT)(s₂:ZR)(H₂:Hp)(fp:List ZT),PG (iA X scope C N s₂ H₂ fp) tg g/\Nm (iA X scope C N s₂ H₂ fp) ifs tt/\PE (iA X scope C N s₂ H₂ fp) elt te)(M:Inv X Q j d a)(T:qL X.prog X.w X.K tg J fp it R)(F7:R 0 a.heap)(f2:∀b∈fp,jF X Q d b)(hw:lX js g tt te j J d Qf)(TL:∀(C D:ZT)(ys:List V)(r:Hp)(w:ZR)(m:Z7),a.heap.objs.size<=C->a.heap.objs.size<=D->D≠C->Inv X Q j (aJ r D (.lst ys)) w->r C=none->r D=none->w.heap.Ns C m->Qf ys r->RR (.ref D) C (.ok .next) w) :
  wpAny (model X.prog X.w) X.A (newList []) (λacc L=>wpAny (model X.prog X.w) X.A (newFunctionEnv scope X.env.globals (eQ X.env scope.names []) [] X.env.qual none .none (some X.env)) (λEC s₄=>
   codeAny (model X.prog X.w) X.A (.compStart (.ListComp elt [⟨tg,iter,ifs,0⟩] scope pos) 0 (.ref it) acc {EC with scope:=relabel scope X.env }) (RR acc EC.locals) s₄) E L) E a:=by
 obtain⟨W,⟨m0,w0⟩,turn⟩:=hw;refine wpAny_newObj_type (wpAny_newFunctionEnv S.nocell (by intro y hy;simp at hy) (λh₁ U Y=>?_) S.kind);dsimp only at U Y ⊢;generalize JV:a.heap.push {cls:=.type "list",dict:=none,data:=.seq ([]:List ZS).toArray }=Z at U Y ⊢;have hC:Z.objs.size=a.heap.objs.size+1:=by rw[<- JV,Heap.size_push]
 have O:a.heap.objs.size≠Z.objs.size:=by rw[hC];exact ne_of_lt (lt_succ_self _)
 have BA:a.heap.objs.size<=Z.objs.size:=by rw[hC];exact le_succ _
 have old:∀b o,a.heap.get? b=some o->h₁.get? b=some o:=λb o e=>Y.extBut b o (by rw[hC];exact ne_of_lt (Nat.lt_succ_of_lt (Heap.lt_size e))) (fB _ (JV▸fB _ e))
 have uo:h₁.get? a.heap.objs.size=some {cls:=.type "list",data:=.seq ([]:List ZS).toArray 0 }:=Y.extBut _ _ O (fB _ (JV▸ZU _ rfl));have yb:∀b∈fp,b<a.heap.objs.size:=λb c=>by
  obtain⟨o,e,_⟩:=T.obj _ _ F7 b c;exact Heap.lt_size e
 generalize OE:a.heap.objs.size=D at O BA uo ⊢;generalize Xg:Z.objs.size=C at O BA U ⊢;have HJ:a.heap.objs.size<=C:=by rw[OE];exact BA
 have A:a.heap.objs.size<=D:=le_of_eq OE;obtain⟨pg,pt,pe⟩:=c C a d fp;have I0:=S.start (D:=D) (fp:=fp) (tk:=a.toks+([]:List (Str×ZS)).length) M HJ A O f2 yb old U uo (λv z=>nomatch z);have JW:∀ {K:Hp}{s:Z9},(∀b∈fp,K b=none)->(∀p∈s,p.1∉fp)->∀b∈fp,jF (iA X scope C N a d fp) s K b:=λhn t b c=>
  ⟨hn b c,ne_of_lt (ZK (yb b c) HJ),(S.ok M HJ f2 yb).exfs b c,.inl c,λx a0 e=>(f2 b c).2.2.2.2.1 x a0 (cI e).1,λp P z=>by
   rcases Zma.mp P with q|q
   ·exact ZO (show p∈([]:List (ZT×Obj)) from q) Zs
   ·exact t p q (z ▸ c)⟩
 have OF:D∉fp:=λz=>ZO (ZK (yb D z) A) (lt_irrefl _)
 have one:∀ {ob:Obj},∀p∈[(D,ob)],p.1∉fp:=λp t=>by
  have e:=Zms.mp t;subst e;exact OF
 have loop:∀L:ZR,L={a with heap:=h₁,toks:=a.toks+([]:List (Str×ZS)).length } →
   codeAny (model X.prog X.w) X.A (.compLoop (.ListComp elt [⟨tg,iter,ifs,0⟩] scope pos) 0 (.ref it) (.ref D) (compEnvC scope (eQ X.env scope.names []) C X.env)) (RR (.ref D) C) L:=by
  rintro L rfl;refine codeAny_loop rfl (λn s'=>∃(i:Nat)(ys:List V)(K:Hp)(f:List ZS)(k:Nat),Inv (iA X scope C N a d fp) [(D,{cls:=.type "list",data:=.seq f.toArray k })] (qZ js j) K s'/\Vals ys f/\ys.length<=sizeLine/\R i s'.heap/\(∀b∈fp,K b=none)/\W i n ys K) ?_ m0 ?_
  ·rintro n w ⟨i,ys,r,f,k,I3,rv,hz,ud,zj,w3⟩;show wpAny _ X.A ((compTurn (.ListComp elt [⟨tg,iter,ifs,0⟩] scope pos) 0 (.ref it) (.ref D) (compEnvC scope (eQ X.env scope.names []) C X.env)).onRaise (λx=>do noteFrame x _;theTreesLotGoes x)) _ _ w;refine wpAny_noted (wpAny_noRaise ?_);rw[compTurn_list];rcases turn i n ys r w3 with⟨stop,qn⟩|⟨JX,G0,Nx,hN,step⟩
   ·refine Z6 (wpAny_standAt (Z6 (bI (T.done (iA X scope C N a d fp) rfl rfl rfl hc i _ w (qZ js j) r (λ_ _=>False) I3 (JW zj one) ud stop) ?_)));rintro a2 s4 ⟨hr,B⟩;subst hr;refine Z5 ?_;have h:=B.pin (D,{cls:=.type "list",data:=.seq f.toArray k }) (by simp[iA]);obtain⟨mC,TM,_⟩:=id B.loc;have IX:Inv X Q j (aJ r D (.lst ys)) s4:=by
     refine M.call' (ch:=fp) B.os (Un.more B.base (Heap.get?_none_of_le A) (M.hok.fresh A)) (HOk.more B.hok h.2.1 ⟨hz,f,k,rv,h.1⟩) B.bare λb c=>?_;obtain⟨_,f1,_,f3,f4,f5⟩:=f2 b c;exact⟨f3,f1,f4,f5⟩
    exact TL C D ys r s4 mC HJ A O IX B.free h.2.1 TM qn
   ·refine Z6 (wpAny_standAt (Z6 (bI (T.item (iA X scope C N a d fp) rfl rfl rfl hc i _ w (qZ js j) r (λ_ _=>False) I3 (JW zj one) ud JX) ?_)));rintro a2 s4 ⟨a3,hr,h4⟩;subst hr;refine Z6 (bI h4 ?_);rintro _ s5 ⟨x,H5,I5,r5,y5,my,JI⟩;have JJ:=I5.pinned (JW JI one) (T.obj _ _ my);refine Z6 (bI (pg _ s5 (qZ js j) H5 x a3 _ JJ r5 (go _ _ _ _ (step x H5 y5))) ?_);rintro _ s6 ⟨σ6,H6,I6,⟨q6,l6,e6⟩⟩;have weak:∀ {s:Z9}{l:Hp}{u:ZR},Inv (iA X scope C N a d fp) s σ6 l u->Inv (iA X scope C N a d fp) s (qZ js j) l u:=λ{s l u} G=>by
     refine G.weak l6.symm λa1 v H=>?_
     cases e:js[a1]? with
     | none=>unfold qZ at H;rw[dH,e]at H;cases H
     | some o=>
      cases o with
      | none=>unfold qZ at H;rw[dH,e]at H;cases H
      | some j'=>rw[e6 a1 j' e];exact H
    have zl:∀ {l:Hp}{u:ZR}{s:Z9},Inv (iA X scope C N a d fp) (s++jT fp s5.heap) (qZ js j) l u->R (i+1) u.heap/\∀b∈fp,l b=none:=λ{l u s} G=>by
     refine⟨T.keep _ _ _ my λb c o e=>(G.pin (b,o) (ZL _ (ZL _ (dW c e)))).1,λb c=>?_⟩;obtain⟨o,e,a4⟩:=T.obj _ _ my b c;exact(G.pin (b,o) (ZL _ (ZL _ (dW c e)))).2.1
    refine Z6 (bI (pt _ s6 σ6 H6 _ _ I6 q6) ?_);rintro ok u ⟨l,G,q7⟩
    cases ok with
    | false=>
     rw[ZP ZZ]at q7;refine Z5 ⟨rfl,?_⟩;obtain⟨m',P,w7⟩:=hN ys l q7;have OG:=weak G;obtain⟨k1,k2⟩:=zl OG;exact⟨m',P,i+1,ys,l,f,k,OG.unpinned,rv,hz,k1,k2,w7⟩
    | true=>
     rw[ZQ rfl]at q7;show wpAny _ _ ((eval elt _>>=λx=>call (.builtin "list.append") [.ref D,x]>>=λ_=>pure ())>>=λ_=>again _) _ _ _;refine Z6 (Z6 (bI (pe _ u σ6 l _ G q7) ?_));rintro y I ⟨yv,H8,I8,r8,q8⟩;obtain⟨m',P,w8⟩:=hN (ys++[yv]) H8 q8;have JY:=weak I8;obtain⟨k1,k2⟩:=zl JY;have h:=JY.pin (D,{cls:=.type "list",data:=.seq f.toArray k }) (by simp[iA]);have ue:=rv.length;refine Z6 (call_meets F.slot_list_append ⟨_,h.1,rfl⟩ F.entry_list_append (F.args_list_append_2 _ _) (PySem.list_append D f.toArray k y (by rw[cO];omega)) ⟨h.1,?_⟩);refine Z5 (Z5 ⟨rfl,m',P,i+1,ys++[yv],H8,f++[y],?_⟩);have q:=PySem.IsL.update h.1 (λz=>z.push y);have eA:f.toArray.push y=(f++[y]).toArray:=by simp
     rw[eA]at q;have I9:Inv (iA X scope C N a d fp) [] (qZ js j) H8 I:=JY.pins_of λp t=>ZO t Zs
     have zm:∀b o,b≠D->I.heap.get? b=some o->(I.heap.update D (Obj.mapSeq λz=>z.push y)).get? b=some o:=λb o c hu=>(Heap.get?_update_other I.heap _ (Ne.symm c)).trans hu
     have TN:Inv (iA X scope C N a d fp) [] (qZ js j) H8 {I with heap:=I.heap.update D (Obj.mapSeq λz=>z.push y),toks:=I.toks }:=I9.turned zm h.2.1 h.2.2.1 (.inr A)
      (λx a0 e z=>by
       obtain⟨v,oc,q1,q2⟩:=M.cell x a0 (cI e).1;rw[z]at q1;exact ZO (ZK (Heap.lt_size q1) A) (lt_irrefl _))
      (λp t=>by
       rcases Zma.mp t with q|q
       ·exact ZO (show p∈([]:List (ZT×Obj)) from q) Zs
       ·exact ZO q Zs)
     refine⟨(if ((f++[y]).toArray).size==f.toArray.size then k else k+1),TN.pins_of λp t=>?_,rv.append (.cons r8 .nil),?_,?_,k2,w8⟩
     ·have e:=Zms.mp t;subst e;exact⟨q,h.2.1,h.2.2.1,h.2.2.2.1,λv z=>nomatch z⟩
     ·rw[gJ,List.length_singleton];omega
     ·exact T.keep _ _ _ k1 λb c o e=>zm b o (λz=>OF (z▸c)) e
  ·exact⟨0,[],d,[],0,I0,.nil,zero_le _,T.keep _ _ _ F7 λb _ o e=>old b o e,λb c=>(f2 b c).1,w0⟩
 exact codeAny_compStart_list (loop _ rfl) (T.self _ 0 _ _ _ (T.keep _ _ _ F7 λb _ o e=>old b o e) (loop _ rfl))
def Dp(r:X.calm=true)(S:CompScope X scope N js)(go:rA js g)(t:PI X tg iter wi)(j:∀(C:ZT)(f:ZR)(i:Hp)(fp:List ZT),PG (iA X scope C N f i fp) tg g/\Nm (iA X scope C N f i fp) ifs tt/\PE (iA X scope C N f i fp) elt te)(u:∀x,foldedSetIterable iter X.env x=pure x:=by intro _;rfl):PE X (.ListComp elt [⟨tg,iter,ifs,0⟩] scope pos) (Gq wi js g tt te):=by
 intro k s n H Q I h;rw[eval_ListComp];refine wpAny_comprehension_free (use:=none) rfl u (kC λy w A=>I.ok.has y.1 (S.out y w A)) S.kind S.loc (bI (t k s n H _ I h) λv Y B=>bI B λZ s2 E=>?_);obtain⟨it,fp,tn,a0,H2,e,a,T,F,f2,G⟩:=E;subst e;refine kE (RR:=λo C=>compPost (model X.prog X.w) X.A X.xe none (EP X k n Q) o C) r S go j a T F f2 G ?_;intro C D J K L m d hD M O P R U q;refine⟨m,U,λh' V=>?_⟩;refine⟨.ref D,aJ K D (.lst J),O.turned (it:=C) (t':=L.toks) (λb a1 j e=>(V.2 b j).trans e) (by rw[aD (Ne.symm M)];exact P) ?_ (.inr (eJ a.sz d)) ?_ ?_,rfl,q D R⟩
 ·exact ne_of_gt (ZK a.lt d)
 ·intro x c e z;obtain⟨v,oc,l,q2⟩:=a.cell x c e;rw[z]at l;exact ZO (ZK (Heap.lt_size l) d) (lt_irrefl _)
 ·intro p W z;have:=Heap.lt_size (a.pin p W).1;rw[z]at this;exact ZO (ZK this d) (lt_irrefl _)
def Dq{i:Nat}{y:Str}{b o:Pos}(t:X.N.Nodup)(m:X.N[i]?=some y)(u:Ge X.env.scope y)(w:X.calm=true)(S:CompScope X scope N js)(go:rA js g)(A:PI X tg iter wi)(n:∀(C:ZT)(j:ZR)(k:Hp)(fp:List ZT),PG (iA X scope C N j k fp) tg g/\Nm (iA X scope C N j k fp) ifs tt/\PE (iA X scope C N j k fp) elt te)(B:swapsWith (.ListComp elt [⟨tg,iter,ifs,0⟩] scope pos) (some (.Name y b)) o.line X.env=pure true)(E:∀x,foldedSetIterable iter X.env x=pure x:=by intro _;rfl)(F:X.fn y=true∨X.env.scope.names.lookup y=some .local:=by first|exact .inl rfl|exact .inr rfl|assumption) :
  PS X (.Assign [.Name y b] (.ListComp elt [⟨tg,iter,ifs,0⟩] scope pos) o) (Gr i wi js g tt te):=by
 intro l s σ a0 D I a1;rw[exec_Assign_Name_used _ _ _ _ B];refine Z6 (wpAny_standAt (Z6 ?_));show wpAny _ X.A (do let _ ← comprehension (.ListComp elt [⟨tg,iter,ifs,0⟩] scope pos) scope X.env _ (newList []) false (eval iter X.env) (some (assign (.Name y b) X.env))) _ _ s;refine Z6 (bI (wpAny_comprehension_free (use:=some (assign (.Name y b) X.env)) (Q:=λ_ f=>SP X l D .next f) rfl E (kC λy m G=>I.ok.has y.1 (S.out y m G)) S.kind S.loc
  (bI (A l s σ a0 _ I a1) λv s1 H=>bI H λHC s2 J=>?_)) λ_ f K=>Z5 (Z5 K))
 obtain⟨it,fp,tn,a7,H2,e,d,a2,L,f2,M⟩:=J;subst e;refine kE (RR:=λr C=>compPost (model X.prog X.w) X.A X.xe (some (assign (.Name y b) X.env)) (λ_ f=>SP X l D .next f) r C) w S go n d a2 L f2 M ?_;intro C Da ys H3 s3 a3 h hD O P R T U a4;have cne:∀x c,X.env.cells.lookup x=some c->c≠C:=λx c e z=>by
  obtain⟨v,oc,p,q2⟩:=d.cell x c e;rw[z]at p;exact ZO (ZK (Heap.lt_size p) h) (lt_irrefl _)
 have q:C≠X.env.locals:=ne_of_gt (ZK d.lt h);show wpAny _ X.A (assign (.Name y b) X.env (.ref Da)) _ _ _;refine wpAny_assign_Name (lP (v:=.ref Da) P t m u rfl (λV W Y=>?_) F);obtain⟨a,Z,ha⟩:=Y;have aC:C≠a:=by
  rcases ha with z|z
  ·rw[z];exact q
  ·exact Ne.symm (cne y a z)
 refine⟨a3,U.sameBut Z aC,λh' JZ=>?_⟩;refine⟨_,_,W.turned (it:=C) (t':=V.toks) (λa5 a8 n e=>(JZ.2 a5 n).trans e) (by rw[aD (Ne.symm O)];exact R) q (.inr (eJ d.sz h)) cne ?_,a4 Da T⟩;intro a6 hp z;have:=Heap.lt_size (d.pin a6 hp).1;rw[z]at this;exact ZO (ZK this h) (lt_irrefl _)
end
abbrev tx(l:List Nat):Str:=⟨l.toArray⟩
def rB(x:Str):tx x.cps.toList=x:=by cases x;simp
def aV(l:List Nat):(tx l).length=l.length:=by simp[Str.length]
def cF(a b:List Nat):tx a++tx b=tx (a++b):=by
 show Str.append (tx a) (tx b)=_;unfold Str.append;simp
def fS{a:Type}(xs:List a)(lo b:Option Int):List a:=(xs.drop (HT.sIx xs.length 0 lo)).take (HT.sIx xs.length xs.length b-HT.sIx xs.length 0 lo)
def tG(n d:Nat)(v:Option Int):(match v with|none=>(d:Int)|some i=>max 0 (min (if i<0 then i+(n:Int) else i) (n:Int)))=((HT.sIx n d v:Nat):Int):=by
 cases v with
 | none=>rfl
 | some i=>
  show max 0 (min (if i<0 then i+(n:Int) else i) (n:Int))=(((if i<0 then (i+(n:Int)).toNat else min i.toNat n):Nat):Int);by_cases h:i<0
  ·rw[ZQ h,ZQ h];omega
  ·rw[ZP h,ZP h];omega
def yF(lo a:Option Int)(n:Nat):Builtin.Str.strSliceIndices lo a 1 n=(List.range (HT.sIx n n a-HT.sIx n 0 lo)).map (HT.sIx n 0 lo+·):=by
 rw[<- sliceRange_one,<- tG n 0 lo,<- tG n n a];unfold Builtin.Str.strSliceIndices;simp only [show(1:Int)>0 by decide,if_true];cases lo<;>cases a<;>rfl
def Dr(n d:Nat)(a:d<=n)(v:Option Int):HT.sIx n d v<=n:=by
 cases v with
 | none=>exact a
 | some i=>
  show(if i<0 then (i+(n:Int)).toNat else min i.toNat n)<=n;split<;>omega
def vL(x:Str)(lo a:Option Int):(Txt.slice x lo a).cps.toList=fS x.cps.toList lo a:=by
 have c:x.cps.toList.length=x.length:=by simp[Str.length]
 unfold Txt.slice fS;rw[c,yF];have d:=pick_run x.cps (HT.sIx x.length 0 lo) (HT.sIx x.length x.length a-HT.sIx x.length 0 lo);split
 ·rename_i h;have f:(HT.sIx x.length x.length a-HT.sIx x.length 0 lo)=x.length:=by simpa using h
  have g:=Dr x.length x.length (bH _) a;have b:HT.sIx x.length 0 lo=0∨x.length=0:=by omega
  rw[f];rcases b with b|b
  ·rw[b,List.drop_zero,lO (by rw[c];exact bH _)]
  ·have e:x.cps.toList=[]:=List.eq_nil_of_length_eq_zero (by rw[c];exact b);rw[e];simp
 ·simpa using d
def yG(x:Str)(lo a:Option Int):Txt.slice x lo a=tx (fS x.cps.toList lo a):=by
 rw[<- vL,rB]
section
variable {X:Cx}
def Se:V->Option Int->Option Int->Hp->VK->Prop:=λx lo a H Q=>∃z,x=.str z/\z.length<=sizeLine/\Q (.str (tx (fS z.cps.toList lo a))) H
def rC{h:Heap}{sl:ZT}{b c:ZS}{lo d:Option Int}(a:h.IsSliceOf sl b c .none)(pl:IsPart b lo)(e:IsPart c d):∃l u:Option (Int×Tok),h.IsSlice sl l u none/\l.map (·.1)=lo/\u.map (·.1)=d:=by
 cases pl with
 | none=>
  cases e with
  | none=>exact⟨none,none,a,rfl,rfl⟩
  | int j t=>exact⟨none,some (j,t),a,rfl,rfl⟩
 | int i t=>
  cases e with
  | none=>exact⟨some (i,t),none,a,rfl,rfl⟩
  | int j u=>exact⟨some (i,t),some (j,u),a,rfl,rfl⟩
def Jt:SlR X Se:=by
 intro c s o H x v p r lo b sl Q I d e f g h;obtain⟨z,rfl,i,q⟩:=h;obtain⟨t,rfl⟩:=d;obtain⟨l,u,j,m,n⟩:=rC e f g;refine⟨"str",_,F.slot_str_getitem.lookup,typeIs_str _ _ _,wpAny_getItem_str_slice j rfl ?_⟩;have fin:∀a k,EP X c o Q (.str (Txt.slice z lo b) a) {s with toks:=k }:=λa k=>⟨.str (tx (fS z.cps.toList lo b)),H,I.tok _,⟨a,by rw[yG]⟩,q⟩
 subst m n;exact post_val_or_str ⟨eJ (Txt.slice_le z _ _) i,λa k=>fin a k⟩
def rD{a:List Str}:∀ {us:List ZS},Vals (a.map V.str) us->StrsAre us a:=by
 induction a with
 | nil=>intro us r;rw[map_nil]at r;cases r;exact .nil
 | cons n a b=>
  intro us r;rw[map_cons]at r;cases r with
  | cons c d=>
   obtain⟨t,e⟩:=c;subst e;exact .cons n t (b d)
def yH(K:W.Frag):V->List V->Hp->VK->Prop:=λx vs H Q=>∃b p a,x=.str b/\vs=[.ref p]/\SqL K H p (a.map V.str)/\(a.map (·.length)).sum+a.length*b.length<=16777216/\Q (.str (Txt.join b a)) H
def Ds:Ni X "str.join" (yH X.K):=by
 intro g s o H x vs v l Q I a b h;obtain⟨i,p,m,rfl,rfl,c,d,q⟩:=h;obtain⟨t,rfl⟩:=a;obtain⟨u,rfl,e⟩:=b.one;cases e;obtain⟨j,r,f,_⟩:=I.list c;exact join_list f.isList (by simpa using rD r) d λn k=>⟨.str _,H,I.tok _,⟨_,rfl⟩,q⟩
def Sf(K:W.Frag):List V->Hp->VK->Prop:=λvs H Q=>∃x T t b,vs=[x,.ty T]/\gL K H x t/\W.kitOne K t (.type T)=some b/\Q (.bl b) H
def yI:CallR X (.builtin "isinstance") (Sf X.K):=by
 intro j s l H k a Q I r h;obtain⟨x,T,t,b,rfl,ty,e,q⟩:=h;obtain⟨u,c,rfl,d,f⟩:∃u c,a=[u,c]/\RelV x u/\RelV (.ty T) c:=by
  cases r with
  | cons p q=>
   cases q with
   | cons g i=>
    cases i;exact⟨_,_,rfl,p,g⟩
 cases(show c=Value.type T from f);exact vA I d ty e λtk=>⟨.bl b,H,I.tok _,rfl,q⟩
def Ju(K:W.Frag):List V->Hp->VK->Prop:=λvs H Q=>∃(p:ZT)(a:List Int),vs=[.ref p]/\SqL K H p (a.map V.int)/\Q (.int (List.sum a)) H
def yJ(f:X.calm=true):CallR X (.builtin "sum") (Ju X.K):=by
 intro t s z H a v Q I r h;obtain⟨p,b,rfl,g,q⟩:=h;obtain⟨u,rfl,i⟩:=eL r;cases i;obtain⟨e,j,k,w⟩:=I.list g;have c:=jW j;obtain⟨a,d⟩:=c.allInts.items;have l:s.heap.IsList p (intItems a):=d▸k.isList;refine sum_intListG (I.ok.hd f) l λx tk y m=>?_;have n:b=a.toList.map (·.1):=by
  rw[<- nums_intItems,<- d];exact(show numsOf e.toArray.toList=b from c.numsOf).symm
 have o:preSum (numAt a) a.size=b.sum:=by
  rw[preSum_eq,lO Zs,n]
 rw[o];exact⟨.int _,H,I.kept m,⟨_,rfl⟩,q⟩
end
section
variable {X:Cx}
def iG(K:W.Frag)(d:Bool):R2:=λx y H Q=>∃(a b:ZT)(c:List V),x=.ref a/\y=.ref b/\SqL K H a c/\SqL K H b []/\Q (.bl (if d then !c.isEmpty else c.isEmpty)) H
def fF{us:List ZS}(r:Vals [] us):us=[]:=by cases r;rfl
def yK(c:X.A.units<cLine):OpR X (compareOp .Eq) (iG X.K false):=by
 intro w s D H x y v u Q I i k h;obtain⟨a,b,l,rfl,rfl,m,n,q⟩:=h;cases i;cases k;obtain⟨A,d,f,_⟩:=I.list m;obtain⟨B,o,g,_⟩:=I.list n;have p:=fF o;subst p;have r:=d.length
 cases l with
 | nil=>
  have t:=fF d;subst t;exact SeqAt.eq_listAt (e:=λ_=>true) f.isList g.isList rfl c (λj h=>ZO h Zs) ⟨.bl true,H,I,rfl,q⟩
 | cons z C=>
  exact SeqAt.eq_list_lengthsAt f.isList g.isList (by simp only [cO,<- r];simp) c ⟨.bl false,H,I,rfl,q⟩
def yL(c:X.A.units<cLine):OpR X (compareOp .NotEq) (iG X.K true):=by
 intro w s D H x y v u Q I i k h;obtain⟨a,b,l,rfl,rfl,m,n,q⟩:=h;cases i;cases k;obtain⟨A,d,f,_⟩:=I.list m;obtain⟨B,o,g,_⟩:=I.list n;have p:=fF o;subst p;have r:=d.length
 cases l with
 | nil=>
  have t:=fF d;subst t;exact SeqAt.RcNeAt.lists (e:=λ_=>true) f.isList g.isList rfl c (λj h=>ZO h Zs) _ _ _ _ ⟨.bl false,H,I,rfl,q⟩
 | cons z C=>
  exact SeqAt.RcNeAt.lists_lengths f.isList g.isList (by simp only [cO,<- r];simp) c _ _ _ _ ⟨.bl true,H,I,rfl,q⟩
end
def mB(x:V)(k:Bool->Prop):Prop:=match x with|.bl b=>k b|_=>False
def mI(x:V)(k:Int->Prop):Prop:=match x with|.int b=>k b|_=>False
def mS(x:V)(k:Str->Prop):Prop:=match x with|.str b=>k b|_=>False
def mR(x:V)(k:ZT->Prop):Prop:=match x with|.ref b=>k b|_=>False
def lY(x:V)(k:Bool->Prop):mB x k=∃b,x=.bl b/\k b:=by
 cases x<;>simp[mB]
def gT(x:V)(k:Int->Prop):mI x k=∃b,x=.int b/\k b:=by
 cases x<;>simp[mI]
def tH(x:V)(k:Str->Prop):mS x k=∃b,x=.str b/\k b:=by
 cases x<;>simp[mS]
def cD(x:V)(k:ZT->Prop):mR x k=∃b,x=.ref b/\k b:=by
 cases x<;>simp[mR]
def dC{n:Nat}(h:Nat.ble n 1000=true):n<=sizeLine:=eJ (ZN h) Zd
def cX{n:Nat}(h:n<=1000):n<=sizeLine:=eJ h Zd
section
variable {X:Cx}{a b c e:Expr}{ta tb tc te:TE}{pos:Pos}
def vr(i:Nat):TE:=λd H Q=>match d[i]? with|some (some v)=>Q v H|_=>False
def Pe(i:Nat):vr i=Hx i:=by
 funext d H Q
 unfold vr Hx;apply propext
 cases d[i]? with
 | none=>simp
 | some o=>cases o<;>simp
def xv(i:Nat){x:Str}{pos:Pos}(d:X.N[i]?=some x:=by rfl)(f:Hw X.env.scope x:=by first|exact Or.inl rfl|exact Or.inr (Or.inl rfl)|exact Or.inr (Or.inr rfl))(g:(x==("__debug__":Str))=false:=by decide)(h:(x==("__classdict__":Str))=false:=by decide):PE X (.Name x pos) (vr i):=by
 rw[Pe];exact Hy d f g h
def OpR.imp{f:ZS->ZS->Sem Value}{r d:R2}(h:OpR X f r)(i:∀x y H Q,d x y H Q->r x y H Q):OpR X f d:=λg s l H x y v u Q I j k q=>h g s l H x y v u Q I j k (i x y H Q q)
def UnR.imp{f:ZS->Sem Value}{r d:V->Hp->VK->Prop}(h:UnR X f r)(i:∀x H Q,d x H Q->r x H Q):UnR X f d:=λg s k H x v Q I j q=>h g s k H x v Q I j (i x H Q q)
def CallR.imp{f:ZS}{r d:List V->Hp->VK->Prop}(h:CallR X f r)(i:∀xs H Q,d xs H Q->r xs H Q):CallR X f d:=λg s l H xs j Q I k q=>h g s l H xs j Q I k (i xs H Q q)
def IxR.imp{r d:R2}(h:IxR X r)(i:∀x y H Q,d x y H Q->r x y H Q):IxR X d:=λf slice g s l H x y v u Q I j k q=>h f slice g s l H x y v u Q I j k (i x y H Q q)
def SlR.imp{r d:V->Option Int->Option Int->Hp->VK->Prop}(h:SlR X r)(i:∀x l u H Q,d x l u H Q->r x l u H Q):SlR X d:=λg s t H x v j k lo f sl Q I m n o p q=>h g s t H x v j k lo f sl Q I m n o p (i x lo f H Q q)
def m2(C:Int->Int->Prop)(g:Int->Int->V):R2:=λx y H Q=>mI x λi=>mI y λj=>C i j/\Q (g i j) H
def rE(g:Int->Int->V):R2:=λx y H Q=>mI x λi=>mI y λj=>Q (g i j) H
def fG{g:Int->Int->V}(x y:V)(H:Hp)(Q:VK)(h:rE g x y H Q):Ck g x y H Q:=by
 unfold rE at h;rw[gT]at h;obtain⟨i,rfl,h⟩:=h;rw[gT]at h;obtain⟨j,rfl,h⟩:=h;exact⟨i,j,rfl,rfl,h⟩
def nT{C:Int->Int->Prop}{g:Int->Int->V}(x y:V)(H:Hp)(Q:VK)(h:m2 C g x y H Q):rI C g x y H Q:=by
 unfold m2 at h;rw[gT]at h;obtain⟨i,rfl,h⟩:=h;rw[gT]at h;obtain⟨j,rfl,d,h⟩:=h;exact⟨i,j,rfl,rfl,d,h⟩
def Pf:OpR X (binaryOp .Add) (rE λi j=>.int (i+j)):=Iy.imp fG
def Pg:OpR X (binaryOp .Sub) (rE λi j=>.int (i-j)):=Iz.imp fG
def Ph:OpR X (binaryOp .Mult) (m2 CMul λi j=>.int (i*j)):=Ja.imp nT
def Pi:OpR X (binaryOp .Mod) (m2 (λ_ j=>0<j) λi j=>.int (i%j)):=Jb.imp nT
def Pj:OpR X (binaryOp .Pow) (m2 Ix λi j=>.int (i^j.toNat)):=Jc.imp nT
def Sg:OpR X (compareOp .Lt) (rE λi j=>.bl (decide (i<j))):=On.imp fG
def Sh:OpR X (compareOp .LtE) (rE λi j=>.bl (decide (i<=j))):=Oo.imp fG
def Si:OpR X (compareOp .Gt) (rE λi j=>.bl (decide (j<i))):=Op.imp fG
def Sj:OpR X (compareOp .GtE) (rE λi j=>.bl (decide (j<=i))):=Oq.imp fG
def yM:R2:=λx y H Q=>mS x λi=>mS y λj=>i.length+j.length<=sizeLine/\Q (.str (i++j)) H
def Jv:OpR X (binaryOp .Add) yM:=qO.imp λx y H Q h=>by
 unfold yM at h;rw[tH]at h;obtain⟨i,rfl,h⟩:=h;rw[tH]at h;obtain⟨j,rfl,d,h⟩:=h;exact⟨i,j,rfl,rfl,d,h⟩
def Tu:R2:=λx y H Q=>match x,y with
 | .int i,.int j=>Q (.bl (decide (i=j))) H
 | .str i,.str j=>Q (.bl (decide (i=j))) H
 | .bl i,.bl j=>Q (.bl (decide (i=j))) H
 | .non,.non=>Q (.bl true) H
 | .int _,.non=>Q (.bl false) H|.non,.int _=>Q (.bl false) H
 | .str _,.non=>Q (.bl false) H|.non,.str _=>Q (.bl false) H
 | .bl _,.non=>Q (.bl false) H|.non,.bl _=>Q (.bl false) H
 | .int _,.str _=>Q (.bl false) H|.str _,.int _=>Q (.bl false) H
 | .bl _,.str _=>Q (.bl false) H|.str _,.bl _=>Q (.bl false) H
 | _,_=>False
def Tv:R2:=λx y H Q=>match x,y with
 | .int i,.int j=>Q (.bl (!decide (i=j))) H
 | .str i,.str j=>Q (.bl (!decide (i=j))) H
 | .bl i,.bl j=>Q (.bl (!decide (i=j))) H
 | .non,.non=>Q (.bl false) H
 | .int _,.non=>Q (.bl true) H|.non,.int _=>Q (.bl true) H
 | .str _,.non=>Q (.bl true) H|.non,.str _=>Q (.bl true) H
 | .bl _,.non=>Q (.bl true) H|.non,.bl _=>Q (.bl true) H
 | .int _,.str _=>Q (.bl true) H|.str _,.int _=>Q (.bl true) H
 | .bl _,.str _=>Q (.bl true) H|.str _,.bl _=>Q (.bl true) H
 | _,_=>False
def Sk:OpR X (compareOp .Eq) Tu:=Gi.imp λx y H Q h=>by
 unfold Tq;cases x<;>cases y<;>first|exact h.elim|exact⟨rfl,h⟩|(refine⟨rfl,?_⟩;have h:Q (.bl _) H:=h;simpa using h)
def Sl:OpR X (compareOp .NotEq) Tv:=Gj.imp λx y H Q h=>by
 unfold Tr;cases x<;>cases y<;>first|exact h.elim|exact⟨rfl,h⟩|(refine⟨rfl,?_⟩;have h:Q (.bl _) H:=h;simpa using h)
def Pk:OpR X (compareOp .Is) (λx y H Q=>match y with|.non=>Q (.bl (decide (x=.non))) H|_=>False):=Je.imp λx y H Q h=>by
 cases y<;>first|exact⟨rfl,h⟩|exact h.elim
def Jw:OpR X (compareOp .IsNot) (λx y H Q=>match y with|.non=>Q (.bl (!decide (x=.non))) H|_=>False):=Cm.imp λx y H Q h=>by
 cases y<;>first|exact⟨rfl,h⟩|exact h.elim
def mT(t:TE):TT:=λf H Q=>t f H λx d=>mB x λk=>Q k d
def Pl(t:TE):mT t=xG t:=by
 funext f H Q
 unfold mT xG;congr 1
 funext x d
 exact lY x _
def Jx(t:TE):mT t=tB t:=by
 funext f H Q
 unfold mT tB;congr 1
 funext x d
 exact lY x _
def Pm{op:CmpOp}{r:R2}(d:OpR X (compareOp op) r)(f:PE X a ta)(g:PE X b tb)(h:behindInMarks op b=false:=by first|exact nF _|rfl):PT X (.Compare a [op] [b] pos) (mT (uV r ta tb)):=by
 rw[Pl];exact Co d f g h
def Pn{op:CmpOp}{r:R2}(d:OpR X (compareOp op) r)(f:PE X a ta)(g:PE X b tb)(h:behindInMarks op b=false:=by first|exact nF _|rfl):PE X (.Compare a [op] [b] pos) (uV r ta tb):=Cn d f g h
def Po{t:TE}(h:PE X e t)(d:∀whole,isTrue e X.env whole=(do let v←whole;standAt e.pos;holding [v] (truthy v)):=by intro _;rfl):PT X e (mT t):=by
 rw[Jx];exact Id h d
def tI(ta tb:TE):TE:=λf H Q=>ta f H λx d=>mB x λc=>if c=true then tb f d Q else Q (.bl false) d
def Dt(ta tb:TE):TE:=λf H Q=>ta f H λx d=>mB x λc=>if c=true then Q (.bl true) d else tb f d Q
def Pp{rest:List Expr}(d:PE X a ta)(f:PE X (.BoolOp .And (b::rest) pos) tb):PE X (.BoolOp .And (a::b::rest) pos) (tI ta tb):=by
 have:tI ta tb=wV ta tb:=by
  funext h H Q;unfold tI wV;congr 1;funext x g;exact lY x _
 rw[this];exact Ik d f
def Sm{rest:List Expr}(d:PE X a ta)(f:PE X (.BoolOp .Or (b::rest) pos) tb):PE X (.BoolOp .Or (a::b::rest) pos) (Dt ta tb):=by
 have:Dt ta tb=Ii ta tb:=by
  funext h H Q;unfold Dt Ii;congr 1;funext x g;exact lY x _
 rw[this];exact Oa d f
def Pq(d:PE X a ta):PE X (.UnaryOp .USub a pos) (Rx (λx H Q=>mI x λi=>Q (.int (-i)) H) ta):=Ol (Jd.imp λx H Q h=>by
 rw[gT]at h;obtain⟨i,rfl,h⟩:=h;exact⟨i,rfl,h⟩) d
def vM(K:W.Frag):R2:=λx y H Q=>mR x λp=>mI y λi=>∃d,SqL K H p d/\∃v,eP d i=some v/\Q v H
def yN(K:W.Frag):R2:=λx y H Q=>mR x λp=>mI y λi=>∃d,SqT K H p d/\∃v,eP d i=some v/\Q v H
def Jy:R2:=λx y H Q=>mS x λz=>mI y λi=>z.length<=sizeLine/\∃c,eP z.cps.toList i=some c/\Q (.str (tx [c])) H
def Jz:IxR X (vM X.K):=Cy.imp λx y H Q h=>by
 unfold vM at h;rw[cD]at h;obtain⟨p,rfl,h⟩:=h;rw[gT]at h;obtain⟨i,rfl,d,f,v,g,h⟩:=h;exact⟨p,d,i,v,rfl,rfl,f,g,h⟩
def Pr:IxR X (yN X.K):=Jk.imp λx y H Q h=>by
 unfold yN at h;rw[cD]at h;obtain⟨p,rfl,h⟩:=h;rw[gT]at h;obtain⟨i,rfl,d,f,v,g,h⟩:=h;exact⟨p,d,i,v,rfl,rfl,f,g,h⟩
def Ps:IxR X Jy:=Jl.imp λx y H Q h=>by
 unfold Jy at h;rw[tH]at h;obtain⟨z,rfl,h⟩:=h;rw[gT]at h;obtain⟨i,rfl,d,c,f,h⟩:=h;exact⟨z,i,c,rfl,rfl,d,f,h⟩
def Sn{r:R2}(d:IxR X r)(f:PE X a ta)(g:PE X b tb)(h:nK b:=by exact λ_ _=>rfl):PE X (.Subscript a b pos) (uV r ta tb):=Ow d f g h
def tJ(t:TE):TO:=λf H Q=>t f H λx d=>mI x λi=>Q (some i) d
def Ka(h:PE X e te):PO X (some e) (tJ te):=by
 have:tJ te=xM te:=by
  funext f H Q;unfold tJ xM;congr 1;funext x d;exact gT x _
 rw[this];exact Cu h
def Kb:V->Option Int->Option Int->Hp->VK->Prop:=λx lo d H Q=>mS x λz=>z.length<=sizeLine/\Q (.str (tx (fS z.cps.toList lo d))) H
def Pu:SlR X Kb:=Jt.imp λx l u H Q h=>by
 unfold Kb at h;rw[tH]at h;obtain⟨z,rfl,d,h⟩:=h;exact⟨z,rfl,d,h⟩
def Du(K:W.Frag):V->Option Int->Option Int->Hp->VK->Prop:=λx lo f H Q=>mR x λa=>∃d,SqL K H a d/\∀p,H p=none->Q (.ref p) (aJ H p (.lst (fS d lo f)))
def Kc:SlR X (Du X.K):=Cz.imp λx l u H Q h=>by
 unfold Du at h;rw[cD]at h;obtain⟨a,rfl,d,f,h⟩:=h;exact⟨a,d,rfl,f,h⟩
def Ke:CallR X (.builtin "len") (λvs H Q=>match vs with|[.str z]=>z.length<=sizeLine/\Q (.int z.length) H|_=>False):=nO.imp λvs H Q h=>by
 split at h
 ·rename_i z;exact⟨z,rfl,h.1,h.2⟩
 ·exact h.elim
def Kf:CallR X (.builtin "len") (λvs H Q=>match vs with|[.ref p]=>∃ys,(SqL X.K H p ys∨SqT X.K H p ys)/\Q (.int ys.length) H|_=>False):=nN.imp λvs H Q h=>by
 split at h
 ·rename_i p;obtain⟨ys,d,h⟩:=h;exact⟨p,ys,rfl,d,h⟩
 ·exact h.elim
def Pw:CallR X (.type "int") (λvs H Q=>match vs with|[.bl k]=>Q (.int (if k then 1 else 0)) H|_=>False):=uX.imp λvs H Q h=>by
 split at h
 ·rename_i k;exact .inr ⟨k,rfl,h⟩
 ·exact h.elim
end
inductive Kd where|non|bl|int|str|lst|tup|dct
def Dv:Kd->String|.non=>"NoneType"|.bl=>"bool"|.int=>"int"|.str=>"str"|.lst=>"list"|.tup=>"tuple"|.dct=>"dict"
def Gs(H:Hp):V->Kd->Prop
 | .non,.non=>True|.bl _,.bl=>True|.int _,.int=>True|.str _,.str=>True
 | .ref a,.lst=>(∃b,H a=some (.lst b))∨∃o b,H a=some (.frz o (.lst b))
 | .ref a,.tup=>∃b,H a=some (.tup b)
 | .ref a,.dct=>∃c,H a=some (.dK c)
 | _,_=>False
def Rh:Kd->Kd->Bool|.non,.non=>true|.bl,.bl=>true|.int,.int=>true|.int,.bl=>true|.str,.str=>true|.lst,.lst=>true|.tup,.tup=>true|.dct,.dct=>true|_,_=>false
def Px(K:W.Frag)(a k:Kd):W.kitOne K (.type (Dv k)) (.type (Dv a))=some (Rh a k):=by
 cases a<;>cases k<;>first|rfl|kernel_rfl
def So{K:W.Frag}{H:Hp}{x:V}{k:Kd}(h:Gs H x k):gL K H x (.type (Dv k)):=by
  cases x<;>cases k<;>first
    | exact h.elim
    | exact .non
    | exact .bl _
    | exact .int _
    | exact .str _
    | (obtain⟨a,e⟩:=h;exact .tup e)
    | (obtain⟨a,e⟩:=h;exact .dK e)
    | (rcases h with⟨a,e⟩ | ⟨o,a,e⟩
       . exact .lst e
       . exact .frz e)
def Kg(a:Kd):List V->Hp->VK->Prop:=λvs H Q=>match vs with
 | [x,y]=>y=.ty (Dv a)/\∃k,Gs H x k/\Q (.bl (Rh a k)) H
 | _=>False
section
variable {X:Cx}
def Py(a:Kd):CallR X (.builtin "isinstance") (Kg a):=yI.imp λvs H Q h=>by
 unfold Kg at h;split at h
 ·rename_i x y;obtain⟨rfl,k,b,h⟩:=h;exact⟨x,_,_,_,rfl,So b,Px X.K a k,h⟩
 ·exact h.elim
variable {e:Expr}{te:TE}{p p2 pos:Pos}{T:Str}
def Kh(b:Kd)(te:TE):TE:=λc H Q=>te c H λx a=>∃k,Gs a x k/\Q (.bl (Rh b k)) a
def Pz(a:Kd)(g:PE X e te)(i:Gl X "isinstance")(j:X.mg "isinstance"=none)(l:Gl X T)(m:X.mg T=none)(n:bootBuiltins T=some (.type (Dv a)))(c:starEach [e,.Name T p2] X.env=(false,eval e X.env)::starEach [.Name T p2] X.env:=by rfl)(o:starEach [.Name T p2] X.env=(false,eval (.Name T p2) X.env)::starEach [] X.env:=by rfl)(r:T≠"__name__":=by decide)(t:(T==("__debug__":Str))=false:=by decide)(u:(backTo pos (starEach [.Name T p2] X.env)).any (·.1)=false:=by rfl) :
  PE X (.Call (.Name "isinstance" p) [e,.Name T p2] [] pos) (Kh a te):=by
 have h:=pA (X:=X) (x:="isinstance") (p:=p) (pos:=pos) (Py a) i j PyProof.Rows.boot_isinstance (nH g (nH (Bz (v:=.ty (Dv a)) (pos:=p2) l m n rfl r t) qT o) c) Zd Zd c u;intro f s d H Q I q;exact h f s d H Q I (by
  show te d H _;have:(λ(x:V) (b:Hp)=>Kg a [x,.ty (Dv a)] b Q)=(λx b=>∃k,Gs b x k/\Q (.bl (Rh a k)) b):=by
   funext x b
   apply propext;constructor
   ·rintro⟨_,z⟩;exact z
   ·intro z;exact⟨rfl,z⟩
  exact this ▸ q)
end
structure aI(P:Program)(w:World)(K:W.Frag)(mg:Z7)(base:Heap)(n:Nat)(x:Str)(ps:List Str)(sp:Sp):Prop where
 ex:∃(f:ZT)(fd:FuncData),eN P w K mg base jL n f fd ps sp/\mg x=some (.ref f)/\W.keepIn K (.ref f)=true/\Binds K fd ps []
section
variable {X:Cx}{n:Nat}{x:Str}{ps:List Str}{sp:Sp}{p pos:Pos}{e:Expr}{es:List Expr}{t:TA}
def Sq(sp:Sp)(t:TA):TE:=λb H Q=>t b H λvs a=>sp vs a Q E0
def Sr(c:aI X.prog X.w X.K X.mg X.base n x ps sp)(g:Room n X.A)(i:Gl X x)(j:PA X (e::es) t)(k:(x==("__debug__":Str))=false:=by decide)(l:starEach (e::es) X.env=(false,eval e X.env)::starEach es X.env:=by rfl)(m:(backTo pos (starEach es X.env)).any (·.1)=false:=by rfl):PE X (.Call (.Name x p) (e::es) [] pos) (Sq sp t):=by
 obtain⟨f,v,F,o,r,u⟩:=c.ex;have h:=Cs (X:=X) (p:=p) (pos:=pos) (E:=E0) F g i o r u (dvs:=[]) .nil sX j k l m;intro d s b H Q I q;exact h d s b H Q I (by
  show t b H _;have:(λ(vs:List V) (a:Hp)=>sp (vs++[]) a Q E0)=(λvs a=>sp vs a Q E0):=by
   funext vs a;rw[append_nil]
  rw[this];exact q)
end
structure DefAt(K:W.Frag)(mg:Z7)(x:Str)(st:Stmt)(ps:List Str):Prop where
 ex:∃(f:ZT)(fd:FuncData),Fun K x x st f fd/\mg x=some (.ref f)/\Binds K fd ps []
def DefAt.ok{P:Program}{w:World}{K:W.Frag}{mg:Z7}{base:Heap}{x:Str}{st:Stmt}{N ps:List Str}{k:Nat}{sp:Sp}(D:DefAt K mg x st ps)(S:cJ N ps (aG st))(len:∀vs H Q E,sp vs H Q E->vs.length=ps.length)(b:∀(f:ZT)(a:ZS)(A:Around)(outer:List Env)(s:ZR)(H:Hp)(vs:List V)(Q:VK)(E:XK),Room k (A.deeper (envOfC x (aG st) s.heap.objs.size f a))->sp vs H Q E →
   ∃t,PSs (eO jL P w K mg base N x (aG st) f a A outer s H E).nox (aS st) t/\t {nx:=λ_ c=>Q .non c,rt:=Q } (start N vs) H):aI P w K mg base (k+1) x ps sp:=by
 obtain⟨f,d,F,e,g⟩:=D.ex;exact⟨f,d,F.ok S len (b f),e,F.kp,g⟩
def yO(a:Scope)(b:List Str)(scope:Scope)(N:List Str)(js:List (Option Nat)):Bool:=
 (scope.kind == .function)&&scope.names.all (λy=>y.2 != .cell)&&scope.names.all (λy=>y.2 != .local||scope.names.lookup y.1==some .local)&&(js.length==N.length)&&
 (List.range js.length).all (λi=>match js[i]? with|some (some j)=>(match N[i]? with|some x=>b[j]? == some x&&scope.names.lookup x==some .free|none=>false)|_=>true)&&
 scope.names.all (λy=>y.2 != .free||a.names.lookup y.1==some .cell||a.names.lookup y.1==some .free)
def CompScope.by{X:Cx}{d:Scope}{N:List Str}{js:List (Option Nat)}(a:Scope)(f:List Str)(g:X.env.scope=a)(h:X.N=f)(ok:yO a f d N js=true):CompScope X d N js:=by
 unfold yO at ok;simp only [Bool.and_eq_true]at ok;obtain⟨⟨⟨⟨⟨k,l⟩,m⟩,n⟩,o⟩,p⟩:=ok;refine⟨by simpa using k,λy b=>?_,λy b c=>?_,by simpa using n,λi j e=>?_,λy b c=>?_⟩
 ·have:=all_eq_true.mp l y b;simpa using this
 ·have:=all_eq_true.mp m y b;rw[c]at this;simpa using this
 ·have r:i<js.length:=(Zgs.mp e).1;have:=all_eq_true.mp o i (mem_range.mpr r);rw[e]at this;cases q:N[i]? with
  | none=>simp[q]at this
  | some x=>
   simp only [q,Bool.and_eq_true,beq_iff_eq]at this;exact⟨x,rfl,by rw[h];exact this.1,this.2⟩
 ·have:=all_eq_true.mp p y b;rw[c]at this;have z:(a.names.lookup y.1==some .cell)=true∨(a.names.lookup y.1==some .free)=true:=by simpa using this
  have s:X.env.kindOf y.1=a.names.lookup y.1:=by rw[<- g];rfl
  rw[s];rcases z with z|z
  ·exact .inl (by simpa using z)
  ·exact .inr (by simpa using z)
def aO:Expr->Bool|.Starred _ _=>false|_=>true
def bK{e:Expr}{a:List Expr}{env:Env}(h:aO e=true):starEach (e::a) env=(false,eval e env)::starEach a env:=by
 cases e<;>first|rfl|cases h
def dN{a:List Expr}{env:Env}{pos:Pos}(h:a.all aO=true):(backTo pos (starEach a env)).any (·.1)=false:=by
 induction a with
 | nil=>rfl
 | cons e a b=>
  rw[all_cons,Bool.and_eq_true]at h;rw[bK h.1];have:=b h.2;show(false||(backTo pos (starEach a env)).any (·.1))=false;rw[this];rfl
section
variable {X:Cx}{e o:Expr}{es:List Expr}{te to:TE}{t:TA}{x:Str}{p pos apos cpos:Pos}{id T:String}{r:List V->Hp->VK->Prop}
def yP(a:PE X e te)(b:PA X es t)(h:aO e=true:=by rfl):PA X (e::es) (dA te t):=nH a b (bK h)
def Dw(a:CallR X (.builtin id) r)(b:Gl X x)(c:X.mg x=none)(d:bootBuiltins x=some (.builtin id))(f:PA X (e::es) t)(g:x≠"__name__":=by decide)(h:(x==("__debug__":Str))=false:=by decide)(i:aO e=true:=by rfl)(j:es.all aO=true:=by rfl):PE X (.Call (.Name x p) (e::es) [] pos) (Nh r t):=pA a b c d f g h (bK i) (dN j)
def yQ(a:CallR X (.type T) r)(b:Gl X x)(c:X.mg x=none)(d:bootBuiltins x=some (.type T))(f:PA X (e::es) t)(g:x≠"__name__":=by decide)(h:(x==("__debug__":Str))=false:=by decide)(i:aO e=true:=by rfl)(j:es.all aO=true:=by rfl):PE X (.Call (.Name x p) (e::es) [] pos) (Nh r t):=vC a b c d f g h (bK i) (dN j)
def Qa{n:Nat}{ps:List Str}{sp:Sp}(c:aI X.prog X.w X.K X.mg X.base n x ps sp)(a:Room n X.A)(b:Gl X x)(d:PA X (e::es) t)(f:(x==("__debug__":Str))=false:=by decide)(g:aO e=true:=by rfl)(h:es.all aO=true:=by rfl):PE X (.Call (.Name x p) (e::es) [] pos) (Sq sp t):=Sr c a b d f (bK g) (dN h)
def yR{es:List Expr}{env:Env}{cpos:Pos}(h:es.all aO=true):(backTo cpos (starEach es env)).all (λx=>!x.1)=true:=by
 induction es with
 | nil=>rfl
 | cons e es a=>
  rw[all_cons,Bool.and_eq_true]at h;rw[bK h.1];show(!false&&(backTo cpos (starEach es env)).all (λx=>!x.1))=true;rw[a h.2];rfl
def Ss{name:Str}{r:V->List V->Hp->VK->Prop}(c:PlainAttrs T)(slot:Slot T name id)(d:typeOf (.builtin id)=pure (.type "method_descriptor"))(f:Ni X id r)(g:PE X o to)(h:PA X (e::es) t)(i:attributeBase o name X.env (eval o X.env)=eval o X.env:=by rfl)(j:(apos.endLine==cpos.line)=true:=by rfl)(a:aO e=true:=by rfl)(b:es.all aO=true:=by rfl)(k:es.length+1<30:=by decide) :
  PE X (.Call (.Attribute o name apos) (e::es) [] cpos) (Rf X.K T r to t):=by
 refine Ox c slot d f g h i ?_ j (bK a) (dN b);rw[yR (by rw[all_cons,a,b];rfl)];show(true&&true&&decide (es.length+1+0+0<30))=true;simp;omega
def Ki{b:Pos}{T:Str}(a:Kd)(c:PE X e te)(d:Gl X "isinstance")(f:X.mg "isinstance"=none)(g:Gl X T)(h:X.mg T=none)(i:bootBuiltins T=some (.type (Dv a)))(j:T≠"__name__":=by decide)(k:(T==("__debug__":Str))=false:=by decide)(l:aO e=true:=by rfl):PE X (.Call (.Name "isinstance" p) [e,.Name T b] [] pos) (Kh a te):=
 Pz a c d f g h i (bK l) (bK rfl) j k (dN rfl)
end
def cC:bootBuiltins "len"=some (.builtin "len"):=by decide +kernel
def Kj:bootBuiltins "sum"=some (.builtin "sum"):=by decide +kernel
def lZ:bootBuiltins "sorted"=some (.builtin "sorted"):=by decide +kernel
def Kk:bootBuiltins "max"=some (.builtin "max"):=by decide +kernel
def rF:bootBuiltins "min"=some (.builtin "min"):=by decide +kernel
def tK:bootBuiltins "list"=some (.type "list"):=by decide +kernel
def nU:bootBuiltins "str"=some (.type "str"):=by decide +kernel
def iH:bootBuiltins "int"=some (.type "int"):=by decide +kernel
def Dx:bootBuiltins "bool"=some (.type "bool"):=by decide +kernel
def yS:bootBuiltins "tuple"=some (.type "tuple"):=by decide +kernel
def tL:bootBuiltins "dict"=some (.type "dict"):=by decide +kernel
structure Dk(H:Hp)(d b:ZT):Prop where
 ex:∃(ns:List Int)(s k:Int),H d=some (.lst [.ref b,.int s,.int k])/\H b=some (.lst (ns.map V.int))/\ns.length<=63
def Kp(d b:ZT)(H a:Hp):Prop:=∀c o,H c=some o->c≠d->c≠b->a c=some o
def Kp.refl{d b:ZT}{H:Hp}:Kp d b H H:=λ_ _ e _ _=>e
def Kp.trans{d b:ZT}{H a f:Hp}(x:Kp d b H a)(y:Kp d b a f):Kp d b H f:=λc o e g h=>y c o (x c o e g h) g h
def Kp.new{d b p:ZT}{H:Hp}{o:HO}(h:H p=none):Kp d b H (aJ H p o):=λc u e _ _=>by rw[aD (aB e h)];exact e
def Dk.new{d b p:ZT}{H:Hp}{o:HO}(x:Dk H d b)(h:H p=none):Dk (aJ H p o) d b:=by
 obtain⟨e,s,k,a,c,f⟩:=x.ex;exact⟨e,s,k,by rw[aD (aB a h)];exact a,by rw[aD (aB c h)];exact c,f⟩
def yT(K:W.Frag):Sp:=λvs H Q _=>∃(a:ZT)(e:List Int),vs=[.ref a]/\SqL K H a (e.map V.int)/\∀d b c,H d=none->H b=none->Dk c d b->Same H c->Q (.ref d) c
end L2
namespace L2
def Su{c:Bool}{A B:Prop}(h:c=true)(k:A):if c=true then A else B:=by rw[ZQ h];exact k
def Sv{c:Bool}{A B:Prop}(h:c=false)(k:B):if c=true then A else B:=by rw[ZP (by rw[h];exact ZZ)];exact k
def cG{c:Bool}{A B:Prop}(a:c=true->A)(b:c=false->B):if c=true then A else B:=by
 cases h:c with
 | true=>rw[ZQ rfl];exact a h
 | false=>rw[ZP ZZ];exact b h
open PySem PySem.Spec PyProof.Rows
structure vN(J:It)(xs:List V)(A:Hp->Prop):Prop where
 go:∀i H,i<xs.length->A H->J.go i H
 yld:∀i H x H',i<xs.length->A H->J.yld i H x H'->H'=H/\xs[i]?=some x
 stop:∀H,A H->J.stop xs.length H
def eR(lo:Int)(n:Nat):List V:=(List.range n).map λ(i:Nat)=>V.int (lo+(i:Int))
def cZ(lo:Int)(n:Nat):vN (Rc lo n) (eR lo n) (λ_=>True):=by
 have b:(eR lo n).length=n:=by simp[eR]
 refine⟨λi H a _=>by rw[b]at a;exact a,λi H v d a _ ⟨e,c⟩=>⟨e,?_⟩,λH _=>by rw[b];exact bH _⟩;subst c;rw[b]at a;unfold eR;rw[dH,List.getElem?_range a];rfl
def bB(K:W.Frag)(a:ZT)(xs:List V):vN (Oh K a) xs (λH=>SqL K H a xs):=
 ⟨λi H b h=>⟨xs,xs[i],h,by simp[b]⟩,λi H x c _ h ⟨e,y⟩=>⟨e,y xs h⟩,λH h=>⟨xs,h,bH _⟩⟩
def jM(K:W.Frag)(a:ZT)(xs:List V):vN (Rw K a) xs (λH=>SqT K H a xs):=
 ⟨λi H b h=>⟨xs,xs[i],h,by simp[b]⟩,λi H x c _ h ⟨e,y⟩=>⟨e,y xs h⟩,λH h=>⟨xs,h,bH _⟩⟩
def bL{J:It}{xs:List V}{A:Hp->Prop}{js:List (Option Nat)}{g:TG}{h:TT}{j:TE}{l:St}{H:Hp}{Q:List V->Hp->Prop}(S:vN J xs A)(hz:xs.length<=100000)(Pv:Nat->List V->Hp->Prop)(n:∀i ys H,Pv i ys H->A H/\ys.length<=i)(o:Pv 0 [] H)(q:∀i x ys H,xs[i]?=some x->Pv i ys H->g x (qZ js l) H λf r=>h f r λb k=>if b=true then j f k λy s=>Pv (i+1) (ys++[y]) s else Pv (i+1) ys k)(t:∀ys H,Pv xs.length ys H->Q ys H):lX js g h j l J H Q:=by
 refine⟨λi m ys H=>m=xs.length-i/\i<=xs.length/\Pv i ys H,⟨xs.length,Zs,zero_le _,o⟩,?_⟩;rintro i m ys H ⟨rfl,w,p⟩;obtain⟨a,z⟩:=n i ys H p;by_cases c:i<xs.length
 ·refine .inr ⟨S.go i H c a,fQ (m:=100000) Zo Zd,Pv (i+1),λB d u=>⟨xs.length-(i+1),Zo,rfl,c,u⟩,λx d y=>?_⟩;obtain⟨rfl,v⟩:=S.yld i H x d c a y;exact q i x ys d v p
 ·have e:i=xs.length:=by omega
  subst e;exact .inl ⟨S.stop H a,t ys H p⟩
def bS{J:It}{xs:List V}{A:Hp->Prop}{g:TG}{k:TS}{D:iC}{a:St}{H:Hp}(S:vN J xs A)(Pv:Nat->St->Hp->Prop)(n:∀i a H,Pv i a H->A H)(o:Pv 0 a H)(q:∀(i:Nat)(x:V) a H,xs[i]?=some x->Pv i a H->g x a H λc f=>k {D with nx:=Pv (i+1),ct:=Pv (i+1),bk:=D.nx } c f)(r:∀ a H,Pv xs.length a H->D.nx a H) :
  ∃W:Nat->Nat->St->Hp->Prop,(∃m,W 0 m a H)/\∀i m a H,W i m a H →
   (J.stop i H/\D.nx a H)∨(J.go i H/\∃N:St->Hp->Prop,(∀ d b,N d b->∃l,l<m/\W (i+1) l d b)/\∀x b,J.yld i H x b->g x a b λc f=>k {D with nx:=N,ct:=N,bk:=D.nx } c f):=by
 refine⟨λi m a H=>m=xs.length-i/\i<=xs.length/\Pv i a H,⟨xs.length,Zs,zero_le _,o⟩,?_⟩;rintro i m a H ⟨rfl,u,p⟩;have h:=n i a H p;by_cases j:i<xs.length
 ·refine .inr ⟨S.go i H j h,Pv (i+1),λd b s=>⟨xs.length-(i+1),Zo,rfl,j,s⟩,λx b y=>?_⟩;obtain⟨rfl,t⟩:=S.yld i H x b j h y;exact q i x a b t p
 ·have e:i=xs.length:=by omega
  subst e;exact .inl ⟨S.stop H h,r a H p⟩
end L2
namespace L2
open PySem
def aH{H:Hp}{p:ZT}{o:HO}(h:H p=none):Same H (aJ H p o):=λb u q=>by rw[aD (aB q h)];exact q
def rG{a:Type}(xs:List a)(k:Nat):fS xs none (some (k:Int))=xs.take k:=by
 unfold fS;rw[HT.sIx_none,HT.sIx_nat,List.drop_zero,Nat.sub_zero,<- List.take_take,lO (bH _)]
def Dy{b c:Type}(f:b->c)(xs:List b)(lo a:Option Int):fS (xs.map f) lo a=(fS xs lo a).map f:=by
 unfold fS;rw[bA,<- List.map_drop,<- List.map_take]
open PySem PySem.Spec PyProof.Rows
def aZ{H:Hp}{p q:ZT}{o u:HO}(h:H p=some o)(a:H q=none):aJ H q u p=some o:=by rw[aD (aB h a)];exact h
def yU{c:Type}{xs:List c}{i:Int}(b:0<=i)(d:i<xs.length):∃v,eP xs i=some v/\v∈xs:=by
 obtain⟨j,rfl⟩:=Int.eq_ofNat_of_zero_le b;have a:j<xs.length:=by omega
 exact⟨xs[j],cE (by simp[a]),getElem_mem a⟩
theorem tM(g:Array Nat):∀(ps:List Str)(a:Array Nat),(ps.foldl (λa p=>a++g++p.cps) a).toList=a.toList++(ps.map λp=>g.toList++p.cps.toList).flatten
 | [],a=>by simp
 | p::ps,a=>by
  rw[List.foldl_cons,tM g ps];simp
def yV(ps:List Str):(Txt.join (tx []) ps).cps.toList=(ps.map λp=>p.cps.toList).flatten:=by
 unfold Txt.join Builtin.Str.glued;rw[tM];cases ps with
 | nil=>simp[Str.empty]
 | cons p ps=>simp
def Dz(ps:List Str):Txt.join (tx []) ps=tx (ps.map λp=>p.cps.toList).flatten:=by rw[<- yV,rB]
def rH(a:List Nat):Txt.join (tx []) (a.map λc=>tx [c])=tx a:=by
 rw[Dz,map_map];congr 1
 congr 1
 induction a with
 | nil=>rfl
 | cons c r b=>rw[map_cons,List.flatten_cons,b];rfl
def yW:("":Str)=tx []:=by decide +kernel
end L2
namespace L2
open PySem
def Dk.ne{H:Hp}{d b p:ZT}(x:Dk H d b)(h:H p=none):p≠d/\p≠b:=by
 obtain⟨e,s,k,a,c,f⟩:=x.ex;exact⟨(aB a h).symm,(aB c h).symm⟩
def kG(x:Str):x=tx x.cps.toList:=(rB x).symm
end L2
namespace L2
open PySem
theorem pI:∀a:List Nat,((a.map λc=>tx [c]).map (·.length)).sum=a.length
 | []=>rfl
 | c::a=>by
  rw[map_cons,map_cons,List.sum_cons,pI a,qH];show 1+a.length=_;omega
end L2
namespace L2
open PySem
def Kl{t:TS}{D:iC}{c:St}{H:Hp}(R:St->Hp->Prop)(h:∀nx:St->Hp->Prop,(∀ a b,R a b->nx a b)->t {D with nx:=nx } c H)(d:∀ a b,R a b->D.nx a b):t D c H:=h D.nx d
def Dk.same{H a:Hp}{d b:ZT}(s:Same H a)(h:Dk H d b):Dk a d b:=by
 obtain⟨c,e,k,f,g,i⟩:=h.ex;exact⟨c,e,k,s _ _ f,s _ _ g,i⟩
open PySem PySem.Spec PyProof.Rows
structure XE(X:Cx)(e:Expr)(t:TE):Prop where
 h:PE X e t
structure XT(X:Cx)(e:Expr)(t:TT):Prop where
 h:PT X e t
structure XW(X:Cx)(e:Expr)(t:TT):Prop where
 h:PW X e t
structure XA(X:Cx)(es:List Expr)(t:TA):Prop where
 h:PA X es t
structure XS(X:Cx)(st:Stmt)(t:TS):Prop where
 h:PS X st t
structure XB(X:Cx)(st:List Stmt)(t:TS):Prop where
 h:PSs X st t
structure XI(X:Cx)(tg iter:Expr)(t:TI):Prop where
 h:PI X tg iter t
structure XG(X:Cx)(e:Expr)(t:TG):Prop where
 h:PG X e t
structure Qb(X:Cx)(es:List Expr)(t:sM):Prop where
 h:Oe X es t
structure XO(X:Cx)(e:Option Expr)(t:TO):Prop where
 h:PO X e t
structure Ri(X:Cx)(cs:List Expr)(t:TT):Prop where
 h:Nm X cs t
structure Km(X:Cx)(t:uR):Prop where
 h:Cf X t
structure eI(X:Cx)(f:ZS->ZS->Sem Value)(r:R2):Prop where
 h:OpR X f r
structure Nn(X:Cx)(r:R2):Prop where
 h:IxR X r
structure Rj(X:Cx)(r:V->Option Int->Option Int->Hp->VK->Prop):Prop where
 h:SlR X r
structure XC(X:Cx)(f:ZS)(r:List V->Hp->VK->Prop):Prop where
 h:CallR X f r
structure XM(X:Cx)(id:String)(r:V->List V->Hp->VK->Prop):Prop where
 h:Ni X id r
namespace R
section
variable {X:Cx}{a b c e o i:Expr}{es rest:List Expr}{ta tb tc te to ti:TE}{tA xu:TT}{t u:TA}{pos p p2 apos cpos pos':Pos}{x:Str}{n:Nat}{r r':R2}
def v(i:Nat){x:Str}{pos:Pos}(d:X.N[i]?=some x:=by rfl)(f:Hw X.env.scope x:=by first|exact Or.inl rfl|exact Or.inr (Or.inl rfl)|exact Or.inr (Or.inr rfl))(g:(x==("__debug__":Str))=false:=by decide)(h:(x==("__classdict__":Str))=false:=by decide):XE X (.Name x pos) (vr i):=⟨xv i d f g h⟩
def int{i j pos}:XE X (.Constant (.int i) j pos) (tC (.int i)):=⟨Ia⟩
def bl{b j pos}:XE X (.Constant (.bool b) j pos) (tC (.bl b)):=⟨Nv⟩
def bj{j pos}:XE X (.Constant .none j pos) (tC .non):=⟨Ib⟩
def ah{x j pos}:XE X (.Constant (.str x) j pos) (tC (.str x)):=⟨Ic⟩
def gI{z:Int}(f:Gl X x)(d:∃t,X.mg x=some (.int z t))(g:(x==("__debug__":Str))=false:=by decide):XE X (.Name x pos) (tC (.int z)):=by
 obtain⟨t,d⟩:=d;exact⟨sK f d ⟨t,rfl⟩ g⟩
def gR{a:ZT}(d:Gl X x)(f:X.mg x=some (.ref a))(g:(x==("__debug__":Str))=false:=by decide):XE X (.Name x pos) (tC (.ref a)):=⟨sK d f rfl g⟩
def op{op:Operator}(d:eI X (binaryOp op) r)(f:XE X a ta)(g:XE X b tb):XE X (.BinOp a op b pos) (uV r ta tb):=⟨Oj d.h f.h g.h⟩
def ax:eI X (binaryOp .Add) (rE λi j=>.int (i+j)):=⟨Pf⟩
def cv:eI X (binaryOp .Sub) (rE λi j=>.int (i-j)):=⟨Pg⟩
def dl:eI X (binaryOp .Mult) (m2 CMul λi j=>.int (i*j)):=⟨Ph⟩
def bz:eI X (binaryOp .Mod) (m2 (λ_ j=>0<j) λi j=>.int (i%j)):=⟨Pi⟩
def cg:eI X (binaryOp .Pow) (m2 Ix λi j=>.int (i^j.toNat)):=⟨Pj⟩
def ci:eI X (binaryOp .Add) yM:=⟨Jv⟩
def lt:eI X (compareOp .Lt) (rE λi j=>.bl (decide (i<j))):=⟨Sg⟩
def le:eI X (compareOp .LtE) (rE λi j=>.bl (decide (i<=j))):=⟨Sh⟩
def gt:eI X (compareOp .Gt) (rE λi j=>.bl (decide (j<i))):=⟨Si⟩
def ge:eI X (compareOp .GtE) (rE λi j=>.bl (decide (j<=i))):=⟨Sj⟩
def eq:eI X (compareOp .Eq) Tu:=⟨Sk⟩
def ne:eI X (compareOp .NotEq) Tv:=⟨Sl⟩
def inQ:eI X (compareOp .In) (Nj X.K false):=⟨vD⟩
def notInQ:eI X (compareOp .NotIn) (Nj X.K true):=⟨nM⟩
def fo:eI X (compareOp .Is) (λx y H Q=>match y with|.non=>Q (.bl (decide (x=.non))) H|_=>False):=⟨Pk⟩
def jl:eI X (compareOp .IsNot) (λx y H Q=>match y with|.non=>Q (.bl (!decide (x=.non))) H|_=>False):=⟨Jw⟩
def eqNil(d:X.A.units<cLine):eI X (compareOp .Eq) (iG X.K false):=⟨yK d⟩
def neNil(d:X.A.units<cLine):eI X (compareOp .NotEq) (iG X.K true):=⟨yL d⟩
def bh{op:CmpOp}(d:eI X (compareOp op) r)(f:XE X a ta)(g:XE X b tb)(h:behindInMarks op b=false:=by first|exact nF _|rfl):XE X (.Compare a [op] [b] pos) (uV r ta tb):=⟨Pn d.h f.h g.h h⟩
def ap{op:CmpOp}(d:eI X (compareOp op) r)(f:XE X a ta)(g:XE X b tb)(h:behindInMarks op b=false:=by first|exact nF _|rfl):XT X (.Compare a [op] [b] pos) (mT (uV r ta tb)):=⟨Pm d.h f.h g.h h⟩
def gv(d:XE X a ta):XE X (.UnaryOp .USub a pos) (Rx (λx H Q=>mI x λi=>Q (.int (-i)) H) ta):=⟨Pq d.h⟩
def bu{t:TE}(h:XE X e t)(d:∀whole,isTrue e X.env whole=(do let v←whole;standAt e.pos;holding [v] (truthy v)):=by intro _;rfl):XT X e (mT t):=⟨Po h.h d⟩
def cq(d:XT X a tA):XT X (.UnaryOp .Not a pos) (Ny tA):=⟨Ih d.h⟩
def df(d:XT X a tA):XW X (.BoolOp .And [a] pos) tA:=⟨Ca d.h⟩
def du(d:XT X a tA):XW X (.BoolOp .Or [a] pos) tA:=⟨Ie d.h⟩
def cj(d:XT X a tA)(f:XW X (.BoolOp .And (b::rest) pos) xu):XW X (.BoolOp .And (a::b::rest) pos) (Nw tA xu):=⟨Ig d.h f.h⟩
def dr(d:XT X a tA)(f:XW X (.BoolOp .Or (b::rest) pos) xu):XW X (.BoolOp .Or (a::b::rest) pos) (Tn tA xu):=⟨Nz d.h f.h⟩
def tw(h:XW X e tA):XT X e tA:=⟨h.h.pt⟩
def ji{op}(h:XE X a ta):XE X (.BoolOp op [a] pos) ta:=⟨Ij h.h⟩
def jr(d:XE X a ta)(f:XE X (.BoolOp .And (b::rest) pos) tb):XE X (.BoolOp .And (a::b::rest) pos) (tI ta tb):=⟨Pp d.h f.h⟩
def or(d:XE X a ta)(f:XE X (.BoolOp .Or (b::rest) pos) tb):XE X (.BoolOp .Or (a::b::rest) pos) (Dt ta tb):=⟨Sm d.h f.h⟩
def ju(d:XT X c tA)(f:XE X a ta)(g:XE X b tb):XE X (.IfExp c a b pos) (To tA ta tb):=⟨wW d.h f.h g.h⟩
def ix(d:Nn X r)(f:XE X a ta)(g:XE X b tb)(h:nK b:=by exact λ_ _=>rfl):XE X (.Subscript a b pos) (uV r ta tb):=⟨Sn d.h f.h g.h h⟩
def iL:Nn X (vM X.K):=⟨Jz⟩
def iT:Nn X (yN X.K):=⟨Pr⟩
def iS:Nn X Jy:=⟨Ps⟩
def pn:XO X none sR:=⟨Ct⟩
def ps(h:XE X e te):XO X (some e) (tJ te):=⟨Ka h.h⟩
def sl{r:V->Option Int->Option Int->Hp->VK->Prop}{lo d:Option Expr}{f g:TO}(h:Rj X r)(j:XE X e te)(k:XO X lo f)(l:XO X d g):XE X (.Subscript e (.Slice lo d none p2) pos) (Ts r te f g):=⟨xN h.h j.h k.h l.h⟩
def sS:Rj X Kb:=⟨Pu⟩
def sL:Rj X (Du X.K):=⟨Kc⟩
def ad:XA X [] fR:=⟨qT⟩
def ab(d:XE X e te)(f:XA X es t)(h:aO e=true:=by rfl):XA X (e::es) (dA te t):=⟨yP d.h f.h h⟩
def gu{d}(h:XA X es t):XE X (.Tuple es d pos) (Ot t):=⟨Jh h.h⟩
def aw(h:XA X es t):XE X (.List es pos) (Jg t):=⟨Ji h.h⟩
def ba{id:String}{r:List V->Hp->VK->Prop}(d:XC X (.builtin id) r)(f:Gl X x)(g:X.mg x=none)(h:bootBuiltins x=some (.builtin id))(j:XA X (e::es) t)(k:x≠"__name__":=by decide)(l:(x==("__debug__":Str))=false:=by decide)(m:aO e=true:=by rfl)(q:es.all aO=true:=by rfl):XE X (.Call (.Name x p) (e::es) [] pos) (Nh r t):=⟨Dw d.h f g h j.h k l m q⟩
def bq{T:String}{r:List V->Hp->VK->Prop}(d:XC X (.type T) r)(f:Gl X x)(g:X.mg x=none)(h:bootBuiltins x=some (.type T))(j:XA X (e::es) t)(k:x≠"__name__":=by decide)(l:(x==("__debug__":Str))=false:=by decide)(m:aO e=true:=by rfl)(q:es.all aO=true:=by rfl):XE X (.Call (.Name x p) (e::es) [] pos) (Nh r t):=⟨yQ d.h f g h j.h k l m q⟩
def gs:XC X (.builtin "len") (λvs H Q=>match vs with|[.str z]=>z.length<=sizeLine/\Q (.int z.length) H|_=>False):=⟨Ke⟩
def lenL:XC X (.builtin "len") (λvs H Q=>match vs with|[.ref p]=>∃ys,(SqL X.K H p ys∨SqT X.K H p ys)/\Q (.int ys.length) H|_=>False):=⟨Kf⟩
def dq:XC X (.type "int") (λvs H Q=>match vs with|[.bl k]=>Q (.int (if k then 1 else 0)) H|_=>False):=⟨Pw⟩
def sum(d:X.calm=true):XC X (.builtin "sum") (Ju X.K):=⟨yJ d⟩
def fn{n d:Nat}{ps:List Str}{sp:Sp}(c:aI X.prog X.w X.K X.mg X.base n x ps sp)(f:Room d X.A)(g:Gl X x)(h:XA X (e::es) t)(j:(x==("__debug__":Str))=false:=by decide)(k:aO e=true:=by rfl)(l:es.all aO=true:=by rfl)(m:n<=d:=by decide):XE X (.Call (.Name x p) (e::es) [] pos) (Sq sp t):=⟨Qa c (f.mono m) g h.h j k l⟩
def bm{T id:String}{name:Str}{r:V->List V->Hp->VK->Prop}(d:PlainAttrs T)(slot:Slot T name id)(f:typeOf (.builtin id)=pure (.type "method_descriptor"))(g:XM X id r)(h:XE X o to)(j:XA X (e::es) t)(k:attributeBase o name X.env (eval o X.env)=eval o X.env:=by rfl)(l:(apos.endLine==cpos.line)=true:=by rfl)(m:aO e=true:=by rfl)(q:es.all aO=true:=by rfl)(s:es.length+1<30:=by decide) :
  XE X (.Call (.Attribute o name apos) (e::es) [] cpos) (Rf X.K T r to t):=⟨Ss d slot f g.h h.h j.h k l m q s⟩
def cz:XM X "list.append" sU:=⟨vE⟩
def jo:XM X "list.pop" xQ:=⟨xR⟩
def join:XM X "str.join" (yH X.K):=⟨Ds⟩
def ic{T:Str}(d:Kd)(f:XE X e te)(g:Gl X "isinstance")(h:X.mg "isinstance"=none)(j:Gl X T)(k:X.mg T=none)(l:bootBuiltins T=some (.type (Dv d)))(m:T≠"__name__":=by decide)(q:(T==("__debug__":Str))=false:=by decide)(s:aO e=true:=by rfl):XE X (.Call (.Name "isinstance" p) [e,.Name T p2] [] pos) (Kh d te):=⟨Ki d f.h g h j k l m q s⟩
def dj:XE X (.Dict [] [] pos) (nR):=⟨xU⟩
variable {tg:Expr}
def wL(d:XE X e te):XI X tg e (xD X.K te):=⟨Cj d.h⟩
def wT(d:XE X e te):XI X tg e (Ir X.K te):=⟨Iu d.h⟩
def dh(d:Gl X "range")(f:X.mg "range"=none)(g:XA X [a] t)(h:aO a=true:=by rfl):XI X tg (.Call (.Name "range" p) [a] [] pos) (Gh t):=⟨uT d f g.h (bK h)⟩
def gn{i:Nat}(d:X.N.Nodup)(f:X.N[i]?=some x:=by rfl)(g:Ge X.env.scope x:=by first|exact Or.inl rfl|exact Or.inr rfl)(h:X.fn x=true∨X.env.scope.names.lookup x=some .local:=by first|exact .inl rfl|exact .inr rfl|assumption):XG X (.Name x pos) (aK i):=⟨Cg d f g h⟩
def bw:Qb X [] Ch:=⟨Ci⟩
def ay{d:TG}{f:sM}(g:XG X e d)(h:Qb X es f)(j:(assignEach (e::es) X.env).map (·.2)=assign e X.env::(assignEach es X.env).map (·.2):=by rfl):Qb X (e::es) (oY d f):=⟨wY g.h h.h j⟩
def gt'{k:Nat}{d:sM}(f:X.calm=true)(h:Qb X es d)(g:(assignEach es X.env).length=n:=by rfl)(j:(assignEach es X.env).findIdx? (·.1)=none:=by rfl):XG X (.Tuple es k pos) (wZ X.K n d):=⟨Im f h.h g j⟩
def gm:Km X Gm:=⟨xO⟩
def bf{g:uR}(h:XE X o to)(j:XE X i ti)(k:Km X g)(l:∀v,assign (.Subscript o i pos) X.env v=(do
   let d←holding [v] (eval o X.env)
   let f←holding [v,d] (eval i X.env)
   standAt pos
   holding [v,d,f] (setItem d f v)
   release [v,d,f] []):=by intro _;rfl):XG X (.Subscript o i pos) (Og to ti g):=⟨Io h.h j.h k.h l⟩
end
section
variable {X:Cx}{c e tg iter elt:Expr}{ifs:List Expr}{te:TE}{tc tt:TT}{g:TG}{wi:TI}{st:Stmt}{ss sa sb:List Stmt}{t u:TS}{pos pos' uq py:Pos}{x y:Str}{scope:Scope}{N:List Str}{js:List (Option Nat)}
def cp:Ri X [] tF:=⟨Dn⟩
def dm(h:XT X c tt)(a:X.xe=λ_ _=>False:=by rfl):Ri X [c] tt:=⟨Do h.h a⟩
def cf(h:X.calm=true)(S:CompScope X scope N js)(go:rA js g)(i:XI X tg iter wi)(j:∀(C:ZT)(d:ZR)(f:Hp)(fp:List ZT),XG (iA X scope C N d f fp) tg g/\Ri (iA X scope C N d f fp) ifs tt/\XE (iA X scope C N d f fp) elt te)(k:∀x,foldedSetIterable iter X.env x=pure x:=by intro _;rfl):XE X (.ListComp elt [⟨tg,iter,ifs,0⟩] scope pos) (Gq wi js g tt te):=
 ⟨Dp h S go i.h (λC d f fp=>let ⟨a,b,c⟩:=j C d f fp;⟨a.h,b.h,c.h⟩) k⟩
def gx{i:Nat}(h:X.N.Nodup)(j:X.N[i]?=some y)(k:Ge X.env.scope y)(l:X.calm=true)(S:CompScope X scope N js)(go:rA js g)(m:XI X tg iter wi)(n:∀(C:ZT)(d:ZR)(f:Hp)(fp:List ZT),XG (iA X scope C N d f fp) tg g/\Ri (iA X scope C N d f fp) ifs tt/\XE (iA X scope C N d f fp) elt te)(o:swapsWith (.ListComp elt [⟨tg,iter,ifs,0⟩] scope pos) (some (.Name y py)) uq.line X.env=pure true)(p:∀x,foldedSetIterable iter X.env x=pure x:=by intro _;rfl)(q:X.fn y=true∨X.env.scope.names.lookup y=some .local:=by first|exact .inl rfl|exact .inr rfl|assumption) :
  XS X (.Assign [.Name y py] (.ListComp elt [⟨tg,iter,ifs,0⟩] scope pos) uq) (Gr i wi js g tt te):=
 ⟨Dq h j k l S go m.h (λC d f fp=>let ⟨a,b,c⟩:=n C d f fp;⟨a.h,b.h,c.h⟩) o p q⟩
def av:XB X [] eK:=⟨Cb⟩
def ai(a:XS X st t):XB X [st] t:=⟨Cc a.h⟩
def ag(a:XS X st t)(b:XB X ss u):XB X (st::ss) (qK t u):=⟨wX a.h b.h⟩
def ar(a:XE X e te):XS X (.Return (some e) pos) (Ob te):=⟨Il a.h⟩
def jt:XS X (.Return none pos) Gg:=⟨Ce⟩
def az(a:XE X e te)(b:swapsWith e none pos.line X.env=pure false:=by rfl):XS X (.Expr e pos) (Gf te):=⟨Cd a.h b⟩
def au(a:XT X c tc)(b:XB X sa t)(d:XB X sb u):XS X (.If c sa sb pos) (uQ tc t u):=⟨Od a.h b.h d.h⟩
def ao{i:Nat}(a:X.N.Nodup)(b:XE X e te)(d:X.N[i]?=some x:=by rfl)(f:Ge X.env.scope x:=by first|exact Or.inl rfl|exact Or.inr rfl)(h:swapsWith e (some (.Name x pos')) pos.line X.env=pure false:=by rfl)(j:X.fn x=true∨X.env.scope.names.lookup x=some .local:=by first|exact .inl rfl|exact .inr rfl|assumption):XS X (.Assign [.Name x pos'] e pos) (xA te (aK i)):=⟨Iq a d f b.h h j⟩
def be(a:XE X e te)(b:XG X tg g)(d:swapsWithSole [tg] e pos.line X.env=pure false:=by rfl)(f:swappedStores [tg] e X.env=pure none:=by rfl)(h:(assignEach [tg] X.env).map (·.2)=[assign tg X.env]:=by rfl) :
  XS X (.Assign [tg] e pos) (xA te g):=⟨Ip a.h b.h d f h⟩
def bi(a:PassesOwn (model X.prog X.w) X.A X.env X.xe)(b:X.calm=true)(d:XI X tg iter wi)(f:XG X tg g)(h:XB X ss t)(i:∀x,foldedSetIterable iter X.env x=pure x:=by intro _;rfl):XS X (.For tg iter ss [] pos) (Oi wi g t):=⟨Iv a b d.h f.h h.h i⟩
def fh(a:PassesOwn (model X.prog X.w) X.A X.env X.xe)(b:XT X c tc)(d:XB X ss t):XS X (.While c ss [] pos) (xB tc t):=⟨xC a b.h d.h⟩
end
end R
def DefAt.go{P:Program}{w:World}{K:W.Frag}{mg:Z7}{base:Heap}{x:Str}{st:Stmt}{N ps:List Str}{k:Nat}{sp:Sp}(D:DefAt K mg x st ps)(S:cJ N ps (aG st))(len:∀vs H Q E,sp vs H Q E->vs.length=ps.length)(b:∀(f:ZT)(a:ZS)(A:Around)(outer:List Env)(s:ZR)(H:Hp)(vs:List V)(Q:VK)(E:XK),Room k (A.deeper (envOfC x (aG st) s.heap.objs.size f a))->sp vs H Q E →
   ∃t,XB (eO jL P w K mg base N x (aG st) f a A outer s H E).nox (aS st) t/\t {nx:=λ_ c=>Q .non c,rt:=Q } (start N vs) H):aI P w K mg base (k+1) x ps sp:=
 D.ok S len λf a A outer s H vs Q E d h=>let ⟨t,e,g⟩:=b f a A outer s H vs Q E d h;⟨t,e.h,g⟩
def DefAt.gg{P:Program}{w:World}{K:W.Frag}{mg:Z7}{base:Heap}{x:Str}{st:Stmt}{N ps:List Str}{k:Nat}{sp:Sp}(D:DefAt K mg x st ps)(S:cJ N ps (aG st))(b:∀(f:ZT)(a:ZS)(A:Around)(outer:List Env)(s:ZR)(H:Hp)(vs:List V)(Q:VK)(E:XK),Room k (A.deeper (envOfC x (aG st) s.heap.objs.size f a))->sp vs H Q E →
   ∃t,XB (eO jL P w K mg base N x (aG st) f a A outer s H E).nox (aS st) t/\t {nx:=λ_ c=>Q .non c,rt:=Q } (start N vs) H)(len:∀vs H Q E,sp vs H Q E->vs.length=ps.length:=by intro vs H Q E h;repeat (first | (obtain⟨rfl,_⟩:=h;rfl) | obtain⟨_,h⟩:=h)):aI P w K mg base (k+1) x ps sp:=
 D.ok S len λf a A outer s H vs Q E d h=>let ⟨t,e,g⟩:=b f a A outer s H vs Q E d h;⟨t,e.h,g⟩
def Fun.go{P:Program}{w:World}{K:W.Frag}{mg:Z7}{base:Heap}{x b:Str}{st:Stmt}{f:ZT}{c:FuncData}{N ps:List Str}{k:Nat}{sp:Sp}(F:Fun K x b st f c)(S:cJ N ps (aG st))(len:∀vs H Q E,sp vs H Q E->vs.length=ps.length)(d:∀(a:ZS)(A:Around)(outer:List Env)(s:ZR)(H:Hp)(vs:List V)(Q:VK)(E:XK),Room k (A.deeper (envOfC b (aG st) s.heap.objs.size f a))->sp vs H Q E →
   ∃t,XB (eO jL P w K mg base N b (aG st) f a A outer s H E).nox (aS st) t/\t {nx:=λ_ e=>Q .non e,rt:=Q } (start N vs) H):eN P w K mg base jL (k+1) f c ps sp:=
 F.ok S len λa A outer s H vs Q E g h=>let ⟨t,i,j⟩:=d a A outer s H vs Q E g h;⟨t,i.h,j⟩
def Fun.gg{P:Program}{w:World}{K:W.Frag}{mg:Z7}{base:Heap}{x b:Str}{st:Stmt}{f:ZT}{c:FuncData}{N ps:List Str}{k:Nat}{sp:Sp}(F:Fun K x b st f c)(S:cJ N ps (aG st))(d:∀(a:ZS)(A:Around)(outer:List Env)(s:ZR)(H:Hp)(vs:List V)(Q:VK)(E:XK),Room k (A.deeper (envOfC b (aG st) s.heap.objs.size f a))->sp vs H Q E →
   ∃t,XB (eO jL P w K mg base N b (aG st) f a A outer s H E).nox (aS st) t/\t {nx:=λ_ e=>Q .non e,rt:=Q } (start N vs) H)(len:∀vs H Q E,sp vs H Q E->vs.length=ps.length:=by intro vs H Q E h;repeat (first | (obtain⟨rfl,_⟩:=h;rfl) | obtain⟨_,h⟩:=h)):eN P w K mg base jL (k+1) f c ps sp:=
 F.ok S len λa A outer s H vs Q E g h=>let ⟨t,i,j⟩:=d a A outer s H vs Q E g h;⟨t,i.h,j⟩
def Kn{K:W.Frag}{h:Heap}{mg:Z7}{x:Str}{st:Stmt}{ps:List Str}{f:ZT}{m b:Option ZT}{sl:Array (Option ZS)}{n kV o d g e:ZS}(X:K.In h)(G:h.Ns mainGlobals mg)(a:W.nsIn K mainGlobals x=some (some (.ref f)))(l:K.lookup f=some ⟨n,m,.func (W.fnOf x x (bO st) (aS st) (aG st) .none kV o d b g e),sl⟩)(c:W.codeIn K g x=true)(k:W.keepIn K (.ref f)=true)(p:∀(kV i d:ZS)(b:Option ZT)(j e:ZS)(us:List ZS),us.length=ps.length->bindArgs (W.fnOf x x (bO st) (aS st) (aG st) .none kV i d b j e) ⟨us,[]⟩=pure (ps.zip us)):DefAt K mg x st ps:=
 ⟨f,_,kB l c k,W.mg_of X G a,(kB (st:=st) l c k).binds p⟩
namespace R
section
variable {X:Cx}{K:W.Frag}{a b c e o i tg:Expr}{es rest:List Expr}{te to:TE}{t:TA}{pos p p2 apos cpos:Pos}{x:Str}{n:Nat}
def kiL(d:X.K=K:=by rfl):Nn X (vM K):=d▸iL
def kiT(d:X.K=K:=by rfl):Nn X (yN K):=d▸iT
def it(K:W.Frag)(i:Nat){x:Str}{p p2 pos:Pos}{c:Int}{j}(d:X.K=K:=by rfl)(f:X.N[i]?=some x:=by rfl)(g:Hw X.env.scope x:=by first|exact Or.inl rfl|exact Or.inr (Or.inl rfl)|exact Or.inr (Or.inr rfl))(h:(x==("__debug__":Str))=false:=by decide)(k:(x==("__classdict__":Str))=false:=by decide):XE X (.Subscript (.Name x p) (.Constant (.int c) j p2) pos) (uV (yN K) (vr i) (tC (.int c))):=ix (kiT d) (v i f g h k) int
def il(K:W.Frag)(i:Nat){x:Str}{p p2 pos:Pos}{c:Int}{j}(d:X.K=K:=by rfl)(f:X.N[i]?=some x:=by rfl)(g:Hw X.env.scope x:=by first|exact Or.inl rfl|exact Or.inr (Or.inl rfl)|exact Or.inr (Or.inr rfl))(h:(x==("__debug__":Str))=false:=by decide)(k:(x==("__classdict__":Str))=false:=by decide):XE X (.Subscript (.Name x p) (.Constant (.int c) j p2) pos) (uV (vM K) (vr i) (tC (.int c))):=ix (kiL d) (v i f g h k) int
def jc(d:X.K=K:=by rfl):Rj X (Du K):=d▸sL
def db(d:X.K=K:=by rfl):eI X (compareOp .In) (Nj K false):=d▸inQ
def jj(d:X.K=K:=by rfl):eI X (compareOp .NotIn) (Nj K true):=d▸notInQ
def jh(d:X.A.units<cLine)(f:X.K=K:=by rfl):eI X (compareOp .Eq) (iG K false):=f▸eqNil d
def jd(d:X.A.units<cLine)(f:X.K=K:=by rfl):eI X (compareOp .NotEq) (iG K true):=f▸neNil d
def br(d:X.K=K:=by rfl):XC X (.builtin "len") (λvs H Q=>match vs with|[.ref p]=>∃ys,(SqL K H p ys∨SqT K H p ys)/\Q (.int ys.length) H|_=>False):=d▸lenL
def jn(d:X.calm=true)(f:X.K=K:=by rfl):XC X (.builtin "sum") (Ju K):=f▸sum d
def jq(d:X.K=K:=by rfl):XM X "str.join" (yH K):=d▸join
def bo{T id:String}{name:Str}{r:V->List V->Hp->VK->Prop}(d:PlainAttrs T)(slot:Slot T name id)(f:typeOf (.builtin id)=pure (.type "method_descriptor"))(g:XM X id r)(h:XE X o to)(j:XA X (e::es) t)(k:X.K=K:=by rfl)(l:attributeBase o name X.env (eval o X.env)=eval o X.env:=by rfl)(m:(apos.endLine==cpos.line)=true:=by rfl)(q:aO e=true:=by rfl)(s:es.all aO=true:=by rfl)(u:es.length+1<30:=by decide) :
  XE X (.Call (.Attribute o name apos) (e::es) [] cpos) (Rf K T r to t):=k▸bm d slot f g h j l m q s u
def bc(d:XE X e te)(f:X.K=K:=by rfl):XI X tg e (xD K te):=f▸wL d
def fj(d:XE X e te)(f:X.K=K:=by rfl):XI X tg e (Ir K te):=f▸wT d
def bv{k:Nat}{d:sM}(f:X.calm=true)(h:Qb X es d)(g:X.K=K:=by rfl)(j:(assignEach es X.env).length=n:=by rfl)(l:(assignEach es X.env).findIdx? (·.1)=none:=by rfl):XG X (.Tuple es k pos) (wZ K n d):=g▸gt' f h j l
end
end R
section
variable {X:Cx}
def rJ:List V->Hp->VK->Prop:=λvs H Q=>match vs with
 | [.int i]=>(0<=i/\i<10^40)/\Q (.str (Str.ofString (toString i))) H
 | [.str z]=>Q (.str z) H
 | _=>False
def Qc:CallR X (.type "str") rJ:=by
 intro a s d H f b Q I r h;unfold rJ at h;split at h
 ·rename_i i;refine nG a s d H [.int i] b Q I r ⟨i,rfl,?_,h.2⟩;have c:i.natAbs<2^1920:=by
   have e:(10:Nat)^40<=2^1920:=by decide +kernel
   have g:i.natAbs<10^40:=by
    have:=h.1;omega
   omega
  rcases Nat.eq_zero_or_pos i.natAbs with z|z
  ·rw[z];decide
  ·exact(Nat.log2_lt Zo).mpr c
 ·rename_i z;obtain⟨u,rfl,t,rfl⟩:=eL r;exact PySem.P.str_of_str ⟨.str z,H,I,⟨t,rfl⟩,h⟩
 ·exact h.elim
def Tw:List V->Hp->VK->Prop:=λvs H Q=>match vs with
 | [.str z]=>NumText.AllDigits z.cps.toList/\z.cps.toList≠[]/\z.length<=640/\Q (.int (NumText.digitsVal z.cps.toList:Nat)) H
 | _=>False
end
namespace R
variable {X:Cx}
def fm:XC X (.type "str") rJ:=⟨Qc⟩
end R
def LET:List Nat:=[97,98,99,100,101,102,103,104,105,106,107,108,109,110,111,112,113,114,115,116,117,118,119,120,121,122]
def Rk:List Nat:=[48,49,50,51,52,53,54,55,56,57]
def yX:(("abcdefghijklmnopqrstuvwxyz":Str)).cps.toList=LET:=by decide +kernel
def Ko:(("0123456789":Str)).cps.toList=Rk:=by decide +kernel
def iI(x:V)(a:List Nat)(n:Int):Bool:=match x with|.str z=>decide (1<=(z.length:Int))&&decide ((z.length:Int)<=n)&&z.cps.toList.all (λc=>decide (c∈a))|_=>false
def rK(z:Str)(a:List Nat)(n:Int):iI (.str z) a n=(decide (1<=(z.length:Int))&&decide ((z.length:Int)<=n)&&z.cps.toList.all (λc=>decide (c∈a))):=rfl
def Sw:Sp:=λvs H Q _=>∃x a n k,vs=[x,.str a,.int n]/\Gs H x k/\(∀z,x=.str z->z.length<=1000)/\∀b,Same H b->Q (.bl (iI x a.cps.toList n)) b
def Kq(b:List Nat)(n:Int):Sp:=λvs H Q _=>∃x k,vs=[x]/\Gs H x k/\(∀z,x=.str z->z.length<=1000)/\∀a,Same H a->Q (.bl (iI x b n)) a
theorem tN:∀(k m:Nat),m<10^(k+1)->(toDigits 10 m).length<=k+1
 | 0,m,h=>by rw[Nat.toDigits_of_lt_base (by simpa using h)];exact bH _
 | k+1,m,h=>by
  by_cases b:m<10
  ·rw[Nat.toDigits_of_lt_base b];simp
  ·have a:m%10<10:=mod_lt m Zd;have t:toDigits 10 (m/10)++toDigits 10 (m%10)=toDigits 10 (10*(m/10)+m%10):=Nat.toDigits_append_toDigits Zd Zo a;rw[Nat.div_add_mod]at t;rw[<- t,gJ,Nat.toDigits_of_lt_base a];have:=tN k (m/10) (by rw[Nat.pow_succ]at h;omega);simp;omega
def bN(m:Nat):Str:=Str.ofString (toString ((m:Nat):Int))
def kH(m:Nat):(bN m).cps.toList=(toDigits 10 m).map Char.toNat:=W.KIN.signs_num m
def cU(m:Nat):NumText.AllDigits (bN m).cps.toList:=by
 intro c a;rw[kH]at a;obtain⟨d,b,e⟩:=Zmm.mp a;have r:=PyProof.Rows.digit_range (Nat.isDigit_of_mem_toDigits Zd Zd b);rw[<- e];exact r
def pJ(m:Nat):NumText.digitsVal (bN m).cps.toList=m:=by rw[kH,W.KIN.val_back]
def yY(m:Nat):(bN m).length=(toDigits 10 m).length:=by
 have:(bN m).cps.toList.length=(bN m).length:=by simp[Str.length]
 rw[<- this,kH,bA]
def Ea{m k:Nat}(h:m<10^(k+1)):(bN m).length<=k+1:=by rw[yY];exact tN k m h
def bZ(z:Str):Prop:=1<=z.length/\z.length<=8/\∀c∈z.cps.toList,c∈LET
section
variable {prog:Program}{w:World}{A:Around}{E:Z8}{s:ZR}
def yZ{t b:ZT}{ws:List ZS}{Q:Z8}(h:IsTup s.heap t ([]:List ZS).toArray)(i:IsTup s.heap b ws.toArray)(j:Q (.ref b) s):wpAny (model prog w) A (binaryOp .Add (.ref t) (.ref b)) Q E s:=by
 obtain⟨⟨cls,k,p,sl⟩,c,d,n,e⟩:=id h;obtain⟨⟨q,l,data2,m⟩,f,g,o,a⟩:=id i;simp only at d e g a;subst d e g a;exact concat_meets ⟨_,c,rfl⟩ ⟨_,f,rfl⟩ noFill_tuple_add seq_tuple_add PySem.F.slot_tuple_add PySem.F.entry_tuple_add (PySem.F.args_tuple_add_2 _ _)
   (tuple_addW0 t b _ ws.toArray n o k l sl m Zs) ⟨c,f,j⟩
end
section
variable {X:Cx}{e o e1 e2:Expr}{te:TE}{pos p2 p3:Pos}
def zA:R2:=λx y H Q=>mR x λa=>mR y λb=>∃c d,H a=some (.tup c)/\H b=some (.tup d)/\c.length+d.length<=1000/\∀p f,Same H f->f p=some (.tup (c++d))->Q (.ref p) f
def Kr:OpR X (binaryOp .Add) zA:=by
 intro k s z H x y v u Q I f g h;unfold zA at h;rw[cD]at h;obtain⟨a,rfl,h⟩:=h;rw[cD]at h;obtain⟨b,rfl,i,l,c,d,m,q⟩:=h;by_cases j:i=[]
 ·subst j;cases f;cases g;obtain⟨A,n,r,_⟩:=I.tuple (YU c);obtain⟨B,C,p2,_⟩:=I.tuple (YU d);cases n;exact yZ r p2 ⟨.ref b,H,I,rfl,q b H (Same.refl H) (by rw[d];rfl)⟩
 ·exact Cw k s z H _ _ v u Q I f g ⟨a,b,i,l,rfl,rfl,YU c,YU d,j,eJ m Zd,(λt=>q a H (Same.refl H) (by rw[c,t,append_nil])),λ_ p w=>q p _ (aH w) aA⟩
end
def Sx(P:Params):List DictEntry->List (Str×Int)->Prop
 | [],[]=>True
 | e::r,(x,i)::q=>(∃t,e.key=.str x t)/\e.hash=PyData.keyHash P x/\(∃t,e.val=.int i t)/\Sx P r q
 | _,_=>False
structure Ub(K:W.Frag)(P:Params)(a:ZT)(ws:List (Str×Int)):Prop where
 ex:∃es n,K.lookup a=some ⟨.type "dict",none,.dict (toArray es) n,#[]⟩/\Sx P es ws/\(a==sysModules)=false
structure Rl(X:Cx)(pos:Pos)(keys:List (Option Expr))(values:List Expr)(trs:List (TE×TE)):Prop where
 h:Pd X pos keys values trs
namespace R
section
variable {X:Cx}{K:W.Frag}{P:Params}{e e1 k v o f:Expr}{te t1 tk tv td ty OK:TE}{pos p2 apos cpos:Pos}{ks:List (Option Expr)}{vs:List Expr}{trs:List (TE×TE)}
def jg:eI X (binaryOp .Add) zA:=⟨Kr⟩
def jb(a:X.K=K:=by rfl):XC X (.type "list") (λvs H Q=>match vs with | [.ref p]=>∃ys,(SqL K H p ys∨SqT K H p ys)/\∀l,H l=none->Q (.ref l) (aJ H l (.lst ys)) | _=>False):=a ▸ ⟨nP.imp λvs H Q h=>by
 split at h
 ·rename_i p;obtain⟨ys,b,h⟩:=h;exact⟨p,ys,rfl,b,h⟩
 ·exact h.elim⟩
def jf:Rl X pos [] [] []:=⟨Dl⟩
def di(a:XE X k tk)(b:XE X v tv)(c:Rl X pos ks vs trs):Rl X pos (some k::ks) (v::vs) ((tk,tv)::trs):=⟨xW a.h b.h c.h⟩
def je(h:Rl X pos ks vs trs)(a:ks.all (·.isSome)=true:=by rfl)(b:ks.length=vs.length:=by rfl)(c:ks≠[]:=by simp)(d:ks.length<=15:=by decide):XE X (.Dict ks vs pos) (Gp trs):=⟨Dm h.h a b c d⟩
def cx(a:X.A.units+1<cLine)(b:XE X o td)(c:XE X e ty)(d:XE X f OK)(g:attributeBase o "get" X.env (eval o X.env)=eval o X.env:=by rfl)(h:(apos.endLine == cpos.line)=true:=by rfl)(i:((backTo cpos (starEach [e,f] X.env)).all (λx=>!x.1)&&(backToKw cpos (keywordEach [] X.env)).all (λx=>x.1.isSome)
  && decide (([e,f]:List Expr).length+([]:List Keyword).length+(if ([]:List Keyword).isEmpty then 0 else 1)<30))=true:=by rfl)(j:backTo cpos (starEach [e,f] X.env)=[(false,eval e X.env),(false,eval f X.env)]:=by rfl):XE X (.Call (.Attribute o "get" apos) [e,f] [] cpos) (xY td ty OK):=⟨yB a b.h c.h d.h ⟨g,i,h,j⟩⟩
end
end R
def WS:List (Str×Int):=[("add",1),("take",1),("move",2),("send",2),("fetch",2),("pass",3)]
def UW:List V:=[.str "move",.str "pass"]
def Bw(x:V):Bool:=iI x LET 8
def zB(lo a:Int)(x:V):Bool:=match x with|.int n=>decide (lo<=n)&&decide (n<=a)|_=>false
def iY(x:V)(a:List V):Bool:=match x with
 | .str z=>(match WS.lookup z with
  | some i=>decide ((a.length:Int)=i)&&a.all Bw&&(!jG (.str z) UW||!decide (eP a 0=eP a 1))
  | none=>false)
 | _=>false
def Sy(xs:List V):List V:=fS xs (some 1) (some (-1))
def zC(xs:List V):Bool:=decide (3<=xs.length)&&iY ((eP xs 0).getD .non) (Sy xs)&&zB 1 1000000000000 ((eP xs (-1)).getD .non)
def Pt(H:Hp)(x:V):Prop:=∃k,Gs H x k/\∀z,x=.str z->z.length<=1000
def zD(H:Hp)(x:V):Bool:=match x with|.ref a=>(match H a with|some (.tup b)=>zC b|_=>false)|_=>false
def Th(H:Hp)(x:V):Prop:=Pt H x/\∀a b,x=.ref a->H a=some (.tup b)->∀y∈b,Pt H y
def Rm:Sp:=λvs H Q _=>∃x lo a,vs=[x,.int lo,.int a]/\Pt H x/\∀b,Same H b->Q (.bl (zB lo a x)) b
def Sz:Sp:=λvs H Q _=>∃x a b,vs=[x,.ref a]/\Pt H x/\H a=some (.tup b)/\b.length<=1000/\(∀y∈b,Pt H y)/\∀c,Same H c->Q (.bl (iY x b)) c
def zE:Sp:=λvs H Q _=>∃x,vs=[x]/\Th H x/\(∀a b,x=.ref a->H a=some (.tup b)->b.length<=1000)/\∀c,Same H c->Q (.bl (zD H x)) c
def Qd:R2:=λx y H Q=>mR x λl=>mR y λb=>∃a c,H l=some (.lst a)/\H b=some (.lst c)/\a.length+c.length<=sizeLine/\∀p,H p=none->Q (.ref p) (aJ H p (.lst (a++c)))
def R.fq{X:Cx}:eI X (binaryOp .Add) Qd:=⟨Jn.imp λx y H Q h=>by
 unfold Qd at h;rw[cD]at h;obtain⟨a,rfl,h⟩:=h;rw[cD]at h;obtain⟨b,rfl,c,d,h⟩:=h;exact⟨a,b,c,d,rfl,rfl,h⟩⟩
inductive DeedIs:List V->Prop
 | one (z a:Str) (n:Int):(z="add"∨z="take")->bZ a->1<=n->n<=1000000000000->DeedIs [.str z,.str a,.int n]
 | two (z a b:Str) (n:Int):(z="move"∨z="send"∨z="fetch")->bZ a->bZ b->a≠b->1<=n->n<=1000000000000->DeedIs [.str z,.str a,.str b,.int n]
 | three (a b c:Str) (n:Int):bZ a->bZ b->bZ c->a≠b->1<=n->n<=1000000000000->DeedIs [.str "pass",.str a,.str b,.str c,.int n]
def eS{z:Str}(h:bZ z):Bw (.str z)=true:=by
 unfold Bw;rw[rK,ZW (by have:=h.1;omega),ZW (by have:=h.2.1;omega),all_eq_true.mpr λc a=>ZW (h.2.2 c a)];rfl
def DeedIs.ok{xs:List V}(h:DeedIs xs):zC xs=true:=by
 cases h with
 | one z a n i d f g=>
  show(iY (.str z) [.str a]&&zB 1 1000000000000 (.int n))=true;have e:iY (.str z) [.str a]=true:=by
   rcases i with rfl|rfl
   ·show(true&&(Bw (.str a)&&true)&&_)=true;rw[eS d];rfl
   ·show(true&&(Bw (.str a)&&true)&&_)=true;rw[eS d];rfl
  rw[e];show(decide (1<=n)&&decide (n<=1000000000000))=true;rw[ZW f,ZW g];rfl
 | two z a b n i d j k f g=>
  show(iY (.str z) [.str a,.str b]&&zB 1 1000000000000 (.int n))=true;have ne:decide (some (V.str a)=some (V.str b))=false:=ZV λe=>k (by injection e with e;injection e)
  have e:iY (.str z) [.str a,.str b]=true:=by
   rcases i with rfl|rfl|rfl
   all_goals
    show(true&&(Bw (.str a)&&(Bw (.str b)&&true))&&(_||!decide (some (V.str a)=some (V.str b))))=true;rw[eS d,eS j,ne,Bool.not_false,Bool.or_true];rfl
  rw[e];show(decide (1<=n)&&decide (n<=1000000000000))=true;rw[ZW f,ZW g];rfl
 | three a b c n d j l k f g=>
  show(iY (.str "pass") [.str a,.str b,.str c]&&zB 1 1000000000000 (.int n))=true;have ne:decide (some (V.str a)=some (V.str b))=false:=ZV λe=>k (by injection e with e;injection e)
  have e:iY (.str "pass") [.str a,.str b,.str c]=true:=by
   show(true&&(Bw (.str a)&&(Bw (.str b)&&(Bw (.str c)&&true)))&&(_||!decide (some (V.str a)=some (V.str b))))=true;rw[eS d,eS j,eS l,ne,Bool.not_false,Bool.or_true];rfl
  rw[e];show(decide (1<=n)&&decide (n<=1000000000000))=true;rw[ZW f,ZW g];rfl
def Dk.tup_ne{H:Hp}{d b p:ZT}{xs:List V}(D:Dk H d b)(h:H p=some (.tup xs)):p≠d/\p≠b:=by
 obtain⟨f,s,k,a,c,g⟩:=D.ex;exact⟨λe=>(by rw[e,a]at h;cases h),λe=>(by rw[e,c]at h;cases h)⟩
inductive TV where
 | sc (v:V)
 | tp (xs:List TV)
 | ls (xs:List TV)
def fY:V->Bool|.non=>true|.bl _=>true|.int _=>true|.str _=>true|_=>false
def Rep(H:Hp):Nat->TV->V->Prop
 | 0,.sc v,x=>x=v/\fY v=true
 | _+1,.sc v,x=>x=v/\fY v=true
 | n+1,.tp c,x=>∃a b,x=.ref a/\H a=some (.tup b)/\Paired (Rep H n) c b
 | n+1,.ls c,x=>∃a b,x=.ref a/\H a=some (.lst b)/\Paired (Rep H n) c b
 | 0,_,_=>False
def Paired.map'{c d:Type}{R S:c->d->Prop}(f:∀a b,R a b->S a b){xs:List c}{ys:List d}(h:Paired R xs ys):Paired S xs ys:=by
 induction h with
 | nil=>exact .nil
 | cons h t e=>exact .cons (f _ _ h) e
theorem Rep.same{H c:Hp}(s:Same H c):∀ {n:Nat}{t:TV}{x:V},Rep H n t x->Rep c n t x
 | 0,.sc v,x,h=>h
 | n+1,.sc v,x,h=>h
 | n+1,.tp d,x,⟨a,b,e,g,p⟩=>⟨a,b,e,s _ _ g,Paired.map' (λ_ _=>Rep.same s) p⟩
 | n+1,.ls d,x,⟨a,b,e,g,p⟩=>⟨a,b,e,s _ _ g,Paired.map' (λ_ _=>Rep.same s) p⟩
def Rep.scal{H:Hp}{n:Nat}{v:V}(h:fY v=true):Rep H n (.sc v) v:=by
 cases n<;>exact⟨rfl,h⟩
def Paired.get'{a b:Type}{R:a->b->Prop}:∀ {xs:List a}{ys:List b}{j:Nat},Paired R xs ys->∀(h:j<ys.length),∃h':j<xs.length,R xs[j] ys[j]
 | _,_,0,.cons h t,_=>⟨Nat.succ_pos _,h⟩
 | _,_,j+1,.cons h t,c=>let ⟨h',r⟩:=Paired.get' (j:=j) t (by simpa using c);⟨by simpa using h',by simpa using r⟩
section
variable {X:Cx}{pins:Z9}{s:ZR}{σ:St}{H:Hp}
def Eb(B:Around):B.in1.units=B.units+1:=rfl
def eT(n:Nat):(List.range n).all (λ_=>true)=true:=all_eq_true.mpr λ_ _=>rfl
def zF(I:Inv X pins σ H s):∀(n:Nat){t:TV}{x y:V}{v u:ZS}{A:Around},Rep H n t x->Rep H n t y->RelV x v->RelV y u->A.units+n<cLine->SeqAt.EqAt A s v u true:=by
 have sc:∀ {v:V}{x y:V}{B C:ZS}{A:Around},(x=v/\fY v=true)->(y=v/\fY v=true)->RelV x B->RelV y C->SeqAt.EqAt A s B C true:=by
  rintro v x y B C A ⟨rfl,S⟩ ⟨rfl,_⟩ f g
  cases y with
  | non=>cases f;cases g;exact SeqAt.EqAt.same _
  | bl i=>cases f;cases g;exact SeqAt.EqAt.same _
  | int i=>
   obtain⟨D,rfl⟩:=f;obtain⟨E,rfl⟩:=g;have:=SeqAt.EqAt.int_int (A:=A) (s:=s) i D i E
   rwa [beq_self_eq_true]at this
  | str i=>
   obtain⟨D,rfl⟩:=f;obtain⟨E,rfl⟩:=g;have:=SeqAt.EqAt.str_str (A:=A) (s:=s) i D i E
   rwa [beq_self_eq_true]at this
  | _=>cases S
 intro n;induction n with
 | zero=>
  intro t x y v u A c d f g T;cases t with
  | sc z=>exact sc c d f g
  | _=>exact c.elim
 | succ n R=>
  intro t x y v u A c d f g T;cases t with
  | sc z=>exact sc c d f g
  | tp l=>
   obtain⟨a,U,rfl,g1,m⟩:=c;obtain⟨b,W,rfl,g2,o⟩:=d;cases f;cases g;by_cases p:a=b
   ·subst p;exact SeqAt.EqAt.same _
   ·obtain⟨h,q,F,_⟩:=I.tuple (YU g1);obtain⟨r,w,G,_⟩:=I.tuple (YU g2);have J:h.length=l.length:=by rw[<- q.length,m.length]
    have K:r.length=l.length:=by rw[<- w.length,o.length]
    have k:=SeqAt.RcAt.tuples (A:=A) (s:=s) (e:=λ_=>true) F G Zo (λj c d=>by
     rw[cO]at c d;obtain⟨L,M⟩:=Paired.get' (j:=j) q c;obtain⟨N,O⟩:=Paired.get' (j:=j) w d;obtain⟨Y,P⟩:=Paired.get' (j:=j) m L;obtain⟨Z,Q⟩:=Paired.get' (j:=j) o N;simpa using R P Q M O (by rw[Eb];omega))
    have e:((List.range (min h.toArray.size r.toArray.size)).all (λ_=>true)&&h.toArray.size==r.toArray.size)=true:=by
     rw[eT,cO,cO,J,K,beq_self_eq_true];rfl
    rw[e]at k;exact SeqAt.EqAt.of_refs p k
  | ls l=>
   obtain⟨a,U,rfl,g1,m⟩:=c;obtain⟨b,W,rfl,g2,o⟩:=d;cases f;cases g;by_cases p:a=b
   ·subst p;exact SeqAt.EqAt.same _
   ·obtain⟨h,q,F,_⟩:=I.list (YT g1);obtain⟨r,w,G,_⟩:=I.list (YT g2);have J:h.length=l.length:=by rw[<- q.length,m.length]
    have K:r.length=l.length:=by rw[<- w.length,o.length]
    have k:=SeqAt.RcAt.lists (A:=A) (s:=s) (e:=λ_=>true) F.isList G.isList (by rw[cO,cO,J,K]) Zo (λj c d=>by
     rw[cO]at c d;obtain⟨L,M⟩:=Paired.get' (j:=j) q c;obtain⟨N,O⟩:=Paired.get' (j:=j) w d;obtain⟨Y,P⟩:=Paired.get' (j:=j) m L;obtain⟨Z,Q⟩:=Paired.get' (j:=j) o N;simpa using R P Q M O (by rw[Eb];omega))
    rw[eT]at k;exact SeqAt.EqAt.of_refs p k
end
section
variable {X:Cx}
def Qe(a:Bool):R2:=λx y H Q=>∃n t,n<=50/\Rep H n t x/\Rep H n t y/\Q (.bl (!a)) H
def Ec(k:Bool){h:Z9}{s:ZR}{C:St}{H:Hp}{x y:V}{v u:ZS}{Q:VK}{op:CmpOp}(g:op=if k then .NotEq else .Eq)(hu:X.A.units+64<cLine)(I:Inv X h C H s)(D:RelV x v)(E:RelV y u)(a0:Qe k x y H Q) :
  wpAny (model X.prog X.w) X.A (compareOp op v u) (EP X h C Q) X.xe s:=by
 obtain⟨n,t,hn,a,c,q⟩:=a0;have sc:∀z,t=.sc z->wpAny (model X.prog X.w) X.A (compareOp op v u) (EP X h C Q) X.xe s:=by
  rintro z rfl;have R:x=z/\fY z=true:=by cases n<;>exact a
  have S:y=z/\fY z=true:=by cases n<;>exact c
  obtain⟨rfl,T⟩:=R;obtain⟨rfl,_⟩:=S;have P:L2.scal y y=true:=by cases y<;>first|rfl|cases T
  cases k with
  | true=>
   subst g;exact Gj h s C H y y v u Q I D E ⟨P,by simpa using q⟩
  | false=>
   subst g;exact Gi h s C H y y v u Q I D E ⟨P,by simpa using q⟩
 cases n with
 | zero=>
  cases t with
  | sc z=>exact sc z rfl
  | _=>exact a.elim
 | succ n=>
  cases t with
  | sc z=>exact sc z rfl
  | tp l=>
   obtain⟨a1,U,rfl,g1,m⟩:=a;obtain⟨a2,W,rfl,g2,o⟩:=c;cases D;cases E;obtain⟨d,p,r,_⟩:=I.tuple (YU g1);obtain⟨f,w,B,_⟩:=I.tuple (YU g2);have F:d.length=l.length:=by rw[<- p.length,m.length]
   have G:f.length=l.length:=by rw[<- w.length,o.length]
   have i:∀j (a:j<d.toArray.size) (c:j<f.toArray.size),SeqAt.EqAt X.A.in1 s d.toArray[j] f.toArray[j] true:=λj a c=>by
    rw[cO]at a c;obtain⟨J,K⟩:=Paired.get' (j:=j) p a;obtain⟨L,M⟩:=Paired.get' (j:=j) w c;obtain⟨Y,N⟩:=Paired.get' (j:=j) m J;obtain⟨Z,O⟩:=Paired.get' (j:=j) o L;simpa using zF I n N O K M (by rw[Eb];omega)
   have e:((List.range (min d.toArray.size f.toArray.size)).all (λ_=>true)&&d.toArray.size==f.toArray.size)=true:=by
    rw[eT,cO,cO,F,G,beq_self_eq_true];rfl
   cases k with
   | true=>
    subst g;have b:=SeqAt.RcNeAt.tuples (A:=X.A) (s:=s) (e:=λ_=>true) r B Zo i;rw[e]at b;exact b _ _ _ _ ⟨.bl false,H,I,rfl,q⟩
   | false=>
    subst g;have b:=SeqAt.RcAt.tuples (A:=X.A) (s:=s) (e:=λ_=>true) r B Zo i;rw[e]at b;exact b _ _ _ _ ⟨.bl true,H,I,rfl,q⟩
  | ls l=>
   obtain⟨a1,U,rfl,g1,m⟩:=a;obtain⟨a2,W,rfl,g2,o⟩:=c;cases D;cases E;obtain⟨d,p,r,_⟩:=I.list (YT g1);obtain⟨f,w,B,_⟩:=I.list (YT g2);have F:d.length=l.length:=by rw[<- p.length,m.length]
   have G:f.length=l.length:=by rw[<- w.length,o.length]
   have i:∀j (a:j<d.toArray.size) (c:j<f.toArray.size),SeqAt.EqAt X.A.in1 s d.toArray[j] f.toArray[j] true:=λj a c=>by
    rw[cO]at a c;obtain⟨J,K⟩:=Paired.get' (j:=j) p a;obtain⟨L,M⟩:=Paired.get' (j:=j) w c;obtain⟨Y,N⟩:=Paired.get' (j:=j) m J;obtain⟨Z,O⟩:=Paired.get' (j:=j) o L;simpa using zF I n N O K M (by rw[Eb];omega)
   cases k with
   | true=>
    subst g;have b:=SeqAt.RcNeAt.lists (A:=X.A) (s:=s) (e:=λ_=>true) r.isList B.isList (by rw[cO,cO,F,G]) Zo i;rw[eT]at b;exact b _ _ _ _ ⟨.bl false,H,I,rfl,q⟩
   | false=>
    subst g;have b:=SeqAt.RcAt.lists (A:=X.A) (s:=s) (e:=λ_=>true) r.isList B.isList (by rw[cO,cO,F,G]) Zo i;rw[eT]at b;exact b _ _ _ _ ⟨.bl true,H,I,rfl,q⟩
def R.dy(a:X.A.units+64<cLine):eI X (compareOp .NotEq) (Qe true):=⟨λd s e H x y v u Q I b c h=>Ec true rfl a I b c h⟩
def R.dz{st:Stmt}:XS X st (λ_ _ _=>False):=⟨λa s b H D I h=>h.elim⟩
end
def Ks(a b:Str):ltCps b.cps.toList a.cps.toList=false↔a.cps.toList<=b.cps.toList:=by
 rw[ltCps_eq,decide_eq_false_iff_not];exact Iff.rfl
def zG{a b:Str}(h:a.cps.toList=b.cps.toList):a=b:=by rw[kG a,kG b,h]
theorem dO:∀(l:List Str)(p:Str),risingS p l=true->(p::l).Pairwise (λa b=>a.cps.toList<=b.cps.toList)
 | [],p,_=>List.pairwise_singleton _ _
 | x::r,p,h=>by
  unfold risingS at h;rw[Bool.and_eq_true]at h;obtain⟨f,g⟩:=h;have d:=dO r x g;have e:p.cps.toList<=x.cps.toList:=(Ks p x).mp (by simpa using f);refine pairwise_cons.mpr ⟨λy c=>?_,d⟩;rcases mem_cons.mp c with rfl|c
  ·exact e
  ·exact le_trans e ((pairwise_cons.mp d).1 y c)
def iJ:∀(l:List Str),sortedS l=true->l.Pairwise (λa b=>a.cps.toList<=b.cps.toList)
 | [],_=>List.Pairwise.nil
 | x::r,h=>dO r x h
theorem iZ:∀(l m:List Str),l.Perm m->l.Pairwise (λa b=>a.cps.toList<=b.cps.toList)->m.Pairwise (λa b=>a.cps.toList<=b.cps.toList)->l=m
 | [],m,c,_,_=>(List.nil_perm.mp c).symm
 | a::l,[],c,_,_=>(List.perm_nil.mp c)
 | a::l,b::m,c,d,f=>by
  obtain⟨g,i⟩:=pairwise_cons.mp d;obtain⟨j,k⟩:=pairwise_cons.mp f;have e:a=b:=by
   have n:a∈b::m:=c.mem_iff.mp dI;have o:b∈a::l:=c.mem_iff.mpr dI;rcases mem_cons.mp n with h|h
   ·exact h
   ·rcases mem_cons.mp o with h'|h'
    ·exact h'.symm
    ·exact zG (List.le_antisymm (g b h') (j a h))
  subst e;rw[iZ l m (List.Perm.cons_inv c) i k]
def jA(c:List Str):List Str:=c.mergeSort (λa b=>decide (a.cps.toList<=b.cps.toList))
def dD(a:List Str):(jA a).Perm a:=List.mergeSort_perm _ _
def rL(d:List Str):(jA d).Pairwise (λa b=>a.cps.toList<=b.cps.toList):=by
 have:=List.pairwise_mergeSort (le:=λ(a b:Str)=>decide (a.cps.toList<=b.cps.toList)) (λa b c e f=>ZW (le_trans (ZY e) (ZY f))) (λa b=>by
  rcases List.le_total a.cps.toList b.cps.toList with h|h
  ·simp[h]
  ·simp [h]) d
 exact this.imp λh=>ZY h
def Kt{a b:List Str}(c:b.Perm a)(d:sortedS b=true):b=jA a:=
 iZ _ _ (c.trans (dD a).symm) (iJ _ d) (rL a)
def jN(a:List Str):(jA a).length=a.length:=(dD a).length_eq
def mD:∀ {vs:List ZS}{a:List Str},StrsAre vs a->Vals (a.map V.str) vs
 | _,_,.nil=>.nil
 | _,_,.cons x t h=>.cons ⟨t,rfl⟩ (mD h)
def TK(H c:Hp):Prop:=∀a b,H a=some (.tup b)->c a=some (.tup b)
def Same.tk{H b:Hp}(s:Same H b):TK H b:=λa c h=>s _ _ h
def Kp.tk{H c:Hp}{d b:ZT}(D:Dk H d b)(k:Kp d b H c):TK H c:=λa e h=>k _ _ h (D.tup_ne h).1 (D.tup_ne h).2
def iK{H:Hp}{l:ZT}{xs ys:List V}(g:H l=some (.lst xs)):TK H (aJ H l (.lst ys)):=λa b h=>by
 have:a≠l:=λe=>by rw[e,g]at h;cases h
 rw[aD this];exact h
section
variable {X:Cx}{es:List Expr}{t:TA}{pos:Pos}
def tO(t:TA):TE:=λd H Q=>t d H λb c=>b.length<=1000/\∀p a,Same c a->a p=some (.tup b)->Q (.ref p) a
def Ed{g}(h:PA X es t):PE X (.Tuple es g pos) (tO t):=by
 intro f s m H Q I i;refine wpAny_Tuple_spliced (bI (h pos f s m H _ I i) λj a ⟨k,c,d,r,z,q⟩=>⟨by rw[<- r.length];exact cX z,?_⟩);have l:c a.heap.objs.size=none:=d.hok.fresh (bH _);refine⟨.ref a.heap.objs.size,aJ c a.heap.objs.size (.tup k),d.laid (t':=a.toks) (λb u e=>fB _ e) (bH _) ?_,rfl,q _ _ (aH l) aA⟩;exact⟨cX z,j,r,⟨_,ZU _ rfl,rfl,_,rfl⟩⟩
def R.aq{a}(h:XA X es t):XE X (.Tuple es a pos) (tO t):=⟨Ed h.h⟩
end
abbrev Z:=Addr×Str×Int
def Uc(x y:Z):Prop:=x.2.1.cps.toList<=y.2.1.cps.toList
def ZAt(H:Hp)(a:List Z):Prop:=∀z∈a,H z.1=some (.tup [.str z.2.1,.int z.2.2])
def ZAt.same{H a:Hp}{b:List Z}(h:ZAt H b)(s:Same H a):ZAt a b:=λz c=>s _ _ (h z c)
def fT(a:List Z):List V:=a.map λz=>V.ref z.1
section
variable {X:Cx}{pins:Z9}{σ:St}{H:Hp}{s:ZR}
theorem fH:∀ {xs:List V}{vs:List ZS} (i:Nat),Vals xs vs->i<xs.length->∀x,xs[i]?=some x->RelV x (vs.getD i Value.none)
 | x::xs,v::vs,0,.cons r b,_,y,a=>by
  cases a;exact r
 | x::xs,v::vs,i+1,.cons r b,c,y,a=>by
  have:=fH i b (by simpa using c) y (by simpa using a);simpa using this
def Qg(K:W.Frag):List V->Hp->VK->Prop:=λvs H Q=>match vs with
 | [.ref a]=>∃b:List Z,SqL K H a (fT b)/\ZAt H b/\(b.map (·.2.1)).Nodup/\b.length<64/\∀l c,H l=none->c.Perm b->c.Pairwise Uc->Q (.ref l) (aJ H l (.lst (fT c)))
 | _=>False
end
theorem kI:∀ {a:List Str}{vs:List ZS},vs.length=a.length->(∀(i:Nat)(v:ZS),vs[i]?=some v->∃x t,a[i]?=some x/\v=Value.str x t)->StrsAre vs a
 | [],[],_,_=>.nil
 | k::a,v::vs,b,h=>by
  obtain⟨x,t,c,rfl⟩:=h 0 v rfl;cases c;exact .cons k t (kI (by simpa using b) λi v d=>by simpa using h (i+1) v (by simpa using d))
section
variable {prog:Program}{w:World}{A:Around}{E:Z8}{s:ZR}
def pK{d:ZT}{c:List Str}{kvs:List (aR×ZS)}{Q:Z8}(D:A.handled=none)(lo:(d==sysModules)=false)(F:s.heap.DictOf (aL prog w) d kvs)(n:kvs.map (·.1)=c.map Sum.inr)(o:c.length<64)(h:∀(a h':Heap)(tk:Nat)(out:Array Value)(e:Nat),(∀b f,s.heap.get? b=some f->a.get? b=some f)->(∀b f,a.get? b=some f->h'.get? b=some f)->h'.get? a.objs.size=some (seqObj "list" out e)->StrsAre out.toList (jA c)->Q (.ref a.objs.size) {s with heap:=h',toks:=tk }) :
  wpAny (model prog w) A (call (.builtin "sorted") [.ref d]) Q E s:=by
 have p:kvs.length=c.length:=by simpa using congrArg length n
 obtain⟨X,G⟩:=F.dictAt;apply Calls.call_function_entry kind_sorted plain_sorted entry_sorted (args_sorted1 _);unfold Builtin.«sorted»;apply Z6 (m:=checkCount "sorted" 1 1 _);apply Z5;apply Z6;refine W.kdu_collect (W.kdl_dict lo) D G (by rw[p];exact eJ (le_of_lt o) Zd) λa tk l H q=>?_;have g:StrsAre l.toList c:=kI (by rw[Array.length_toList,q.1,p]) λi v I=>by
  obtain⟨k,x,J,K⟩:=q.2 i v (by simpa using I);have j:(kvs.map (·.1))[i]?=some k:=by rw[dH,J];rfl
  rw[n,dH]at j;cases r:c[i]? with
  | none=>rw[r]at j;cases j
  | some y=>
   rw[r]at j;cases j;rcases aU (show eC (Sum.inr y) v=true from K) with⟨_,_,e,_⟩|⟨z,t,e,L⟩
   ·cases e
   ·cases e;exact⟨_,t,rfl,L⟩
 generalize l.toList=vs at g;have u:vs.length<64:=by rw[g.length];exact o
 apply Z6;apply wpAny_newList
 ·have g2:(a.push (seqObj "list" vs.toArray 0)).get? a.objs.size=some (seqObj "list" vs.toArray 0):=ZU _ rfl;apply Z6;apply wpAny_holding;refine wpAny_call_entry slot_list_sort ⟨_,g2,rfl⟩ entry_list_sort (list_sort_treeK (s:={s with heap:=a.push (seqObj "list" vs.toArray 0),toks:=tk }) strKind_oneLt g2 g.keysOf (λU V rest e=>keyKind_strs (by rw[<- e];exact g)) u λM N O=>⟨_,rfl,Z5 ⟨_,rfl,?_⟩⟩) (args_list_sort _);obtain⟨Y,P,R,S⟩:=sorted_out_str g N O;obtain⟨e,T⟩:=sortedHeap_at (out:=(arrOf M).map (·.2)) g2;refine h a _ _ _ e H (λb f B=>?_) T (Kt R S▸P);have C:=Heap.lt_size B;rw[sortedHeap_old (ne_of_lt C) (by rw[size_push'];exact Nat.lt_succ_of_lt C)];exact fB _ B
 ·exact eJ (le_of_lt u) Zd
end
section
variable {X:Cx}
def kJ:List V->Hp->VK->Prop:=λvs H Q=>match vs with
 | [.ref a]=>∃(b:List Str)(c:List (aR×V)),Rd H a (.dK c)/\c.map (·.1)=b.map Sum.inr/\b.length<64/\∀l,H l=none->Q (.ref l) (aJ H l (.lst ((jA b).map V.str)))
 | _=>False
def vO(g:X.calm=true):CallR X (.builtin "sorted") kJ:=by
 intro y s D H A B Q I r h;unfold kJ at h;split at h
 ·rename_i a;obtain⟨i,z,j,l,b,q⟩:=h;obtain⟨u,rfl,m⟩:=eL r;cases m;obtain⟨_,n,vs,d,p⟩:=gN I.hok j;refine pK (I.ok.hd g) n p (by rw[<- d.keys];exact l) b λt C tk f e v k w x=>?_;have c:=I.kept (t':=s.toks) v;refine⟨.ref t.objs.size,_,c.laid (t':=tk) (o:=.lst ((jA i).map V.str)) k (bH _) ⟨?_,f.toList,e,mD x,w⟩,rfl,q _ (c.hok.fresh (bH _))⟩;rw[bA,jN];exact eJ (le_of_lt b) Zd
 ·exact h.elim
def R.ft(a:X.calm=true):XC X (.builtin "sorted") kJ:=⟨vO a⟩
end
def nV:typeLookup (.type "list") "keys"=pure none:=am_miss_of_fast (by kernel_rfl)
def fI:plainId "dict.update.loop"=true:=by decide +kernel
def mE:entryFor table "dict.update.loop"=some Builtin.«dict.update.loop»:=entryFor_of_tree (by kernel_rfl)
section
variable {prog:Program}{w:World}{A:Around}{E:Z8}{s:ZR}
def Ee{a:ZT}{o:Obj}{xs:Array Value}{k:Nat}{Q:Option ZS->ZR->Prop}(f:s.heap.get? a=some o)(i:o.cls=.type "list")(j:o.data=.seq xs k)(l:o.dict=none)(r:A.handled=none)(h:∀h' tk,(∀b m,s.heap.get? b=some m->h'.get? b=some m)->Q none {s with heap:=h',toks:=tk }):wpAny (model prog w) A (getAttr? (.ref a) "keys") Q E s:=by
 obtain⟨c,dct,v,sl⟩:=o;simp only at i j l;subst i j l;obtain⟨t,g,d,tk,os⟩:=s;have n:∀p,(⟨t,g,d,p,os⟩:ZR).TypeIs (.ref a) "list":=λ_=>⟨_,f,rfl⟩
 have f1:=sub_AttributeError;have x:=F.slot_list_getattribute.lookup;have y:=F.slot_list_getattribute.bind (.ref a);have z:=am_list_getattr_none;have u:=nV;unfold getAttr? getAttrBy? getAttrBy
 repeat (any_goals (first|assumption|exact n _|((with_reducible show wpAny _ _ (call (Value.builtin "list.__getattribute__") _ _) _ _ _);refine call_meets F.slot_list_getattribute (n _) am_entry_list_getattribute (F.args_list_getattribute_2 _ _) (meets_getattribute_miss_list a xs k sl "keys" _ u Zk) ⟨f,r,λh' p e q=>?_⟩)|wp_step))
 obtain⟨B,C,D⟩:=q.there;show wpAny _ _ (getattributeRaised _ _ _ _ _ _ _) _ _ _;unfold getattributeRaised;repeat (any_goals (first|assumption|wp_step))
 exact h _ _ q.keeps
def Gu(h:Heap)(v:ZS)(q:aR×V):Prop:=∃a u x,v=Value.ref a/\IsTup h a #[u,x]/\RelV (kV q.1) u/\RelV q.2 x
def zH(W:A.handled=none){I l d:ZT}{its:List ZS}{qs:List (aR×V)}{R:Result->ZR->Prop}{res:ZS}(X:I≠l)(B:I≠d)(Y:l≠d) :
  ∀(k i:Nat)(s:ZR)(kvs:List (aR×V))(vs:List (aR×ZS))(z:Int),its.length-i=k->i<=its.length->qs.length=its.length->s.heap.IsListIter I l i->s.heap.IsList l its.toArray->(∀(j:Nat)(v:ZS)(q:aR×V),its[j]?=some v->qs[j]?=some q->Gu s.heap v q) →
  (∀(j:Nat)(v:ZS)(a:ZT),its[j]?=some v->v=Value.ref a->a≠I/\a≠d)->s.heap.DictOf (aL prog w) d vs->KV kvs vs->kvs.length+k<=1000 →
  (∀h' tk g,(∀b c,b≠I->b≠d->s.heap.get? b=some c->h'.get? b=some c)->h'.DictOf (aL prog w) d g->KV (aM kvs (qs.drop i)) g->R (.ok (.ret res)) {s with heap:=h',toks:=tk }) →
  codeAny (model prog w) A (.builtin "dict.update.loop" ⟨[.ref d,.ref I,.int z 0,res],[]⟩) R s:=by
 intro k;induction k with
 | zero=>
  intro i s kvs vs z Z hi h y m C p D f hz F;obtain rfl:i=its.length:=by omega
  refine codeAny_builtin mE ?_;rw[Around.under_plainId fI _];show wpAny _ A.in1 (pyNext (.ref I)>>=_) _ _ s;apply Z6;refine wpAny_pyNext_list_end W y m Zs λh' M=>?_;show wpAny _ A.in1 (Builtin.Dict.addKeywords d []>>=_) _ _ _;apply Z6;apply Z5;apply Z5;refine F h' s.toks vs (λb c hb _ e=>M b c hb e) (D.extBut M B.symm) ?_;rw[<- h,List.drop_length];exact f
 | succ k ih=>
  intro i s kvs vs z Z hi h y m C p D f hz F;have N:i<its.length:=by omega
  obtain⟨v,G⟩:∃v,its[i]?=some v:=⟨its[i],by simp[N]⟩;obtain⟨q,H⟩:∃q,qs[i]?=some q:=⟨qs[i],by simp[h,N]⟩;obtain⟨a,u,x,rfl,⟨c,zm,HB,n,KG⟩,ru,rx⟩:=C i v q G H;obtain⟨na,nd⟩:=p i _ a G rfl;refine codeAny_builtin mE ?_;rw[Around.under_plainId fI _];show wpAny _ A.in1 (pyNext (.ref I)>>=_) _ _ s;apply Z6;refine wpAny_pyNext_list_item y m (x:=.ref a) (by simpa using G) λh' nv J=>?_;have O:h'.get? a=some c:=(J.2 a na).trans zm;have AQ:h'.DictOf (aL prog w) d vs:=D.extBut J.extBut B.symm;apply Z6;apply wpAny_holding;apply Z6;apply wpAny_tryCatch;unfold Builtin.Dict.pairItems;apply Z6;refine wpAny_typeOf (T:="tuple") ⟨c,O,HB⟩ ?_;rw[ZQ Zd];apply Z6;refine wpAny_seqItems O KG ?_;apply Z5;show wpAny _ _ (holding [u,x] (dictSet d u x)) _ _ _;apply wpAny_holding;have HL:vs.length<=sizeLine:=by rw[<- f.length];exact cX Zo
  refine wpAny_dictSet_pairs (s:={s with heap:=h' }) (eE ru) AQ (λh2 U P=>?_) HL;apply Z5;refine⟨plainId_quiet fI _,?_⟩;have Xh:=bQ kvs q.1 q.2;have K:∀b o,b≠I->b≠d->s.heap.get? b=some o->h2.get? b=some o:=λb o r t e=>(P.2 b t).trans ((J.2 b r).trans e)
  refine ih (i+1) _ (bG kvs q.1 q.2) (stored vs q.1 x) _ Zo Zo h ?_ ?_ ?_ p U (f.put q.1 rx) Zo λh3 tk g k3 ng KH=>?_
  ·exact nv.at λo e=>(P.2 I B).trans e
  ·obtain⟨o,e,a0⟩:=m;exact⟨o,K l o X.symm Y e,a0⟩
  ·intro j v q' Q W2;obtain⟨L,u',x',rfl,⟨S,xt,r'⟩,rr⟩:=C j v q' Q W2;obtain⟨n1,n2⟩:=p j _ L Q rfl;exact⟨L,u',x',rfl,⟨S,K L S n1 n2 xt,r'⟩,rr⟩
  ·refine F h3 tk g (λb o r t e=>k3 b o r t (K b o r t e)) ng ?_;have e1:qs.drop i=q::qs.drop (i+1):=by
    rw[List.drop_eq_getElem_cons Zo]
    congr 1
    have:qs[i]?=some qs[i]:=bR Zo;rw[this]at H;exact Option.some.inj H
   rw[e1];exact KH
def pL(G:A.handled=none){l:ZT}{o:Obj}{n:Nat}{its:List ZS}{qs:List (aR×V)}{Q:Z8}(H:s.heap.get? l=some o)(f:o.cls=.type "list")(m:o.data=.seq its.toArray n)(S:o.dict=none)(I:qs.length=its.length)(J:∀(j:Nat)(v:ZS)(q:aR×V),its[j]?=some v->qs[j]?=some q->Gu s.heap v q)(hz:its.length<=1000)(a0:∀h' tk g,(∀b c,s.heap.get? b=some c->h'.get? b=some c)->h'.DictOf (aL prog w) s.heap.objs.size g->KV (aM [] qs) g->Q (.ref s.heap.objs.size) {s with heap:=h',toks:=tk }) :
  wpAny (model prog w) A (call (.type "dict") [.ref l]) Q E s:=by
 refine callType_codes (Q₁:=λobj C=>obj=.ref s.heap.objs.size/\C={s with heap:=s.heap.push {cls:=.type "dict",data:=.dict #[] } }) F.kt_called_dict (F.kt_typeCall_dict_1 _) F.entry_dict_init (kt_code_dict_new _ ⟨rfl,rfl⟩) ?_;rintro obj C ⟨rfl,rfl⟩;have p:(s.heap.push {cls:=.type "dict",data:=.dict #[] }).DictOf (aL prog w) s.heap.objs.size []:=Heap.DictOf.new s.heap;have t:(s.heap.push {cls:=.type "dict",data:=.dict #[] }).get? l=some o:=fB _ H;refine⟨p.typeIs,F.args_dict_init_2 _ _,?_⟩;unfold Builtin.«dict.__init__»;apply Z6;unfold Builtin.Dict.selfAndRest;apply Z6;refine wpAny_notOrdered_dict p.typeIs ?_;show wpAny _ _ (pure (s.heap.objs.size,[Value.ref l])) _ _ _;apply Z5;show wpAny _ _ (Builtin.Dict.updateFrom "dict.__init__" s.heap.objs.size (.ref l) [] .none) _ _ _;unfold Builtin.Dict.updateFrom;apply Z6;refine wpAny_typeOf (T:="list") ⟨o,t,f⟩ ?_;rw[ZQ Zd];apply Z6;refine Ee t f m S G λd tk h=>?_;rw[ZQ (show(none:Option ZS).isNone=true from rfl)];apply Z6;apply wpAny_rule;have K:d.get? l=some o:=h _ _ t;have U:d.IsList l its.toArray:=⟨o,K,f,n,m⟩;have D:d.DictOf (aL prog w) s.heap.objs.size []:=by
  obtain⟨L,M,N,y,r⟩:=p;exact⟨L,M,N,h _ _ y,r⟩
 have i:s.heap.objs.size<d.objs.size:=by
  obtain⟨L,M,N,y,r⟩:=D;exact Heap.lt_size y
 have O:l<s.heap.objs.size:=Heap.lt_size H;apply Z6;refine wpAny_pyIter_list (s:={s with heap:=d,toks:=tk }) U ?_;apply Z5;refine⟨plainId_quiet fI _,?_⟩;refine zH (A:=A.in1) (s:={s with heap:=d.push {cls:=.type "list_iterator",data:=.fields #[.ref l,.int 0 0] },toks:=tk }) (its:=its) (qs:=qs) (l:=l) G (ne_of_gt (lt_trans O i)) (ne_of_gt i) (ne_of_lt O) its.length 0 [] [] 0 rfl (zero_le _) I ⟨_,ZU _ rfl,rfl,rfl⟩ ?_ ?_ ?_ (D.push _) .nil (by simpa using hz) ?_
 ·exact⟨o,fB _ K,f,n,m⟩
 ·intro j v q k z;obtain⟨a,u,x,rfl,⟨c,B,r⟩,P⟩:=J j v q k z;exact⟨a,u,x,rfl,⟨c,fB _ (h _ _ (fB _ B)),r⟩,P⟩
 ·intro j v a k e;obtain⟨q,z⟩:∃q,qs[j]?=some q:=by
   have:j<its.length:=(Zgs.mp k).1;exact⟨qs[j],by simp[I,this]⟩
  obtain⟨a',u,x,R,⟨c,B,r⟩,P⟩:=J j v q k z;rw[e]at R;cases R;have:=Heap.lt_size B;exact⟨ne_of_lt (lt_trans this i),ne_of_lt this⟩
 ·intro h' W g X Y Z;refine⟨rfl,a0 h' W g (λb c e=>?_) Y Z⟩;have:=Heap.lt_size e;exact X b c (ne_of_lt (lt_trans this i)) (ne_of_lt this) (fB _ (h _ _ (fB _ e)))
end
section
variable {X:Cx}
abbrev W:=Addr×aR×V
def Ta(H:Hp)(a:List W):Prop:=∀z∈a,H z.1=some (.tup [kV z.2.1,z.2.2])
def nW(K:W.Frag):List V->Hp->VK->Prop:=λvs H Q=>match vs with
 | [.ref a]=>∃b:List W,SqL K H a (b.map λz=>V.ref z.1)/\Ta H b/\b.length<=1000/\∀d,H d=none->Q (.ref d) (aJ H d (.dK (aM [] (b.map (·.2)))))
 | _=>False
def zI(m:X.calm=true):CallR X (.type "dict") (nW X.K):=by
 intro P s Z H R S Q I r h;unfold nW at h;split at h
 ·rename_i a0;obtain⟨a,p,t,T,q⟩:=h;obtain⟨a3,rfl,u⟩:=eL r;cases u;obtain⟨d,g,w,_⟩:=I.list p;obtain⟨o,n,x,y,A,f⟩:=w;have B:a.length=d.length:=by
   have:=g.length;rw[bA]at this;exact this
  refine pL (I.ok.hd m) x y f A (qs:=a.map (·.2)) (by rw[bA];exact B) (λj v U C b=>?_) Zo λW tk D k f l=>?_
  ·rw[dH]at b;cases c:a[j]? with
   | none=>rw[c]at b;cases b
   | some z=>
    rw[c]at b;cases b;have e:=t z (cP c);obtain⟨_,Y,E,it⟩:=(show ObjOk X.prog X.w H s.heap z.1 (.tup [kV z.2.1,z.2.2]) from I.hok _ _ e);have F:j<a.length:=(Zgs.mp c).1;have i:RelV (V.ref z.1) (d.getD j Value.none):=fH j g (by rw[bA];exact F) _ (by rw[dH,c];rfl);have G:d.getD j Value.none=v:=by rw[getD_eq_getElem?_getD,C];rfl
    rw[G]at i;cases i
    cases E with
    | cons J K=>
     cases K with
     | cons L M=>
      cases M;exact⟨z.1,_,_,rfl,it,J,L⟩
  ·have N:H s.heap.objs.size=none:=I.hok.fresh (bH _);refine⟨.ref s.heap.objs.size,_,I.laid (t':=tk) (o:=.dK (aM [] (a.map (·.2)))) k (bH _) ⟨?_,?_,D,l,f⟩,rfl,q _ N⟩
   ·have:=cS (a.map (·.2)) [];rw[bA]at this;exact cX (by simp at this;omega)
   ·have O:=I.big;exact beq_eq_false_iff_ne.mpr (ne_of_gt O)
 ·exact h.elim
def R.fu{K:W.Frag}(a:X.calm=true)(b:X.K=K:=by rfl):XC X (.type "dict") (nW K):=b▸⟨zI a⟩
end
def Tb(a:ZT)(o:Obj)(kvs:List (aR×V)):It:=
 ⟨λi H=>H a=some (.frz o (.dK kvs))/\i<kvs.length,λi H x b=>b=H/\(kvs.map λq=>kV q.1)[i]?=some x,λi H=>H a=some (.frz o (.dK kvs))/\kvs.length<=i⟩
def Ef(a:ZT)(o:Obj)(kvs:List (aR×V)):vN (Tb a o kvs) (kvs.map λq=>kV q.1) (λH=>H a=some (.frz o (.dK kvs))):=
 ⟨λi H b e=>⟨e,by rwa [bA]at b⟩,λi H x c _ _ y=>y,λH e=>⟨e,by rw[bA];exact bH _⟩⟩
section
variable {X:Cx}{pins:Z9}{σ:St}{H:Hp}{s:ZR}{a:ZT}{o:Obj}{kvs:List (aR×V)}
def rM{P:Program}{w:World}{h:Heap}(ok:HOk P w H h)(e:H a=some (.frz o (.dK kvs))):h.get? a=some o/\(a==sysModules)=false/\∃vs b,KV kvs vs/\(∃c,o.data=.dict c b)/\h.DictAt (aL P w) a vs b:=by
 obtain⟨d,z,j,vs,i,k⟩:=(show ObjOk P w H h a (.frz o (.dK kvs)) from ok a _ e);obtain⟨b,f⟩:=k.dictAt;obtain⟨m,c,g,n,l,p⟩:=id f;rw[d]at g;cases g;exact⟨d,j,vs,b,i,⟨c,l⟩,f⟩
def zJ{P:Program}{w:World}{K:W.Frag}{T:Expr}(a it:ZT){n:Nat}(O:∃x,o.data=.dict x n):qL P w K T (Tb a o kvs) [it] it (λi h=>h.IsKeyIter it a i kvs.length n) where
 mem:=by simp
 obj:=λi h st b f=>by
  obtain rfl:b=it:=by simpa using f
  obtain⟨g,e,c,d⟩:=st;exact⟨g,e,λv z=>by rw[d]at z;cases z⟩
 keep:=λi h p st k=>st.at λg e=>k it Zs g e
 item:=by
  intro X y A B Q i pins s σ H a0 I q st C;subst y A B;obtain⟨D,U⟩:=C;obtain⟨V,lo,vs,E,m,⟨Y,j⟩,F⟩:=rM I.hok D;obtain⟨x,G⟩:=O;obtain rfl:E=n:=by
   rw[G]at j;cases j;rfl
  have r:=m.length;obtain⟨⟨k,a2⟩,R⟩:∃a1,vs[i]?=some a1:=⟨vs[i],bR Zo⟩;have l:(kvs.map (·.1))[i]?=some k:=by rw[m.keys,dH,R];rfl
  obtain⟨J,f1,f2,L,M,N⟩:=q it Zs;rw[r]at st;refine wpAny_pyNext_dict_item st F R λu p Z S sb=>?_
  have I1:Inv X pins σ H {s with heap:=p }:=I.turned (t':=s.toks) (λb g f e=>(sb.2 b f).trans e) J f1 L M N;obtain⟨g,e,c,d⟩:=id S;have rk:RelV (kV k) u:=by
   rcases aU (show eC k u=true from Z) with⟨a3,t,rfl,rfl⟩|⟨z,t,rfl,rfl⟩
   ·exact⟨t,rfl⟩
   ·exact⟨t,rfl⟩
  refine⟨u,rfl,sN (s:={s with heap:=p }) e c d Zd ⟨kV k,H,I1,rk,⟨rfl,?_⟩,by rw[r];exact S,λb f=>(q b f).1⟩⟩;rw[dH]at l ⊢;cases z:kvs[i]? with
  | none=>rw[z]at l;cases l
  | some a4=>rw[z]at l;cases l;rfl
 done:=by
  intro X y A B Q i pins s σ H a0 I q st C;subst y A B;obtain⟨D,U⟩:=C;obtain⟨V,lo,vs,E,m,⟨Y,j⟩,F⟩:=rM I.hok D;obtain⟨x,G⟩:=O;obtain rfl:E=n:=by
   rw[G]at j;cases j;rfl
  have r:=m.length;rw[r]at st;obtain⟨J,f1,f2,L,M,N⟩:=q it Zs;exact wpAny_pyNext_dict_end (I.ok.hd Q) st F (List.getElem?_eq_none Zo) λp eb=>⟨rfl,I.turned (t':=s.toks) (λb g f e=>eb b g f e) J f1 L M N⟩
 self:=λ_ _ _ _ _ st h=>wpAny_pyIter_keyiter st h
def Inv.freeze(I:Inv X pins σ H s)(e:H a=some (.dK kvs)):∃c,s.heap.get? a=some c/\Inv X pins σ (aJ H a (.frz c (.dK kvs))) s:=by
 obtain⟨z,h,vs,f,d⟩:=jZ I.hok e;obtain⟨c,i,j,g,r⟩:=id d;refine⟨c,g,?_⟩;have:=I.write (t':=s.toks) (h':=s.heap) (x:=a) (e:=a) (o:=.frz c (.dK kvs)) (by rw[e];exact True.intro) (.inl rfl) (λb u _ q=>q) ⟨c,g⟩ ⟨g,z,h,vs,f,d⟩;exact this
def Qh(c:TE):TI:=λσ H R=>c σ H λx b=>mR x λa=>∃kvs,b a=some (.dK kvs)/\∀o,R (Tb a o kvs) (aJ b a (.frz o (.dK kvs)))
def Ku{m l:Expr}{i:TE}(n:PE X l i):PI X m l (Qh i):=by
 intro pins s σ H R I h;refine bI (n pins s σ H _ I h) ?_;rintro v c ⟨x,p,r,t,f⟩
 (try dsimp only at f);rw[cD]at f;obtain⟨a,rfl,kvs,e,q⟩:=f;cases t;obtain⟨j,g,d⟩:=r.freeze e;obtain⟨A,lo,vs,B,k,u,w⟩:=rM d.hok (aA (a:=a));have y:(aJ p a (.frz j (.dK kvs))) c.heap.objs.size=none:=d.hok.fresh (bH _);refine wpAny_pyIter_dict lo w ?_;refine⟨c.heap.objs.size,[c.heap.objs.size],_,_,_,rfl,d.kept (t':=c.toks) λb o e=>fB _ e,zJ a _ u,⟨_,ZU _ rfl,rfl,?_⟩,λb z=>?_,q j⟩
 ·rw[k.length];rfl
 ·obtain rfl:b=c.heap.objs.size:=by simpa using z
  exact d.fpOk (bH _) y
end
def Qi(K:W.Frag)(c:TE)(f:Str):TE:=λe H Q=>c e H λx b=>mR x λa=>∃C d fs v,b a=some (.ins C d fs)/\Cls K C/\NoAttr K C f/\fs.lookup f=some v/\Q v b
def Gv(K:W.Frag)(e tv:TE)(f:Str):TS:=λD b H=>tv b H λy g=>e b g λx c=>mR x λa=>∃C d fs,c a=some (.ins C d fs)/\Cls K C/\NoAttr K C f/\fs.length<1000/\D.nx b (aJ c a (.ins C d (cW f y fs)))
section
variable {X:Cx}{e o value:Expr}{f:Str}{pos pos':Pos}{te ta tv:TE}{K:W.Frag}
def Eg(g:PE X e te)(i:attributeBase e f X.env (eval e X.env)=eval e X.env):PE X (.Attribute e f pos) (Qi X.K te f):=by
 intro d s w H Q I h;refine Cr i (bI (g d s w H _ I h) ?_);rintro u y ⟨x,j,k,m,b⟩;(try dsimp only at b);rw[cD]at b;obtain⟨a,rfl,C,z,fs,v,p,c,n,l,q⟩:=b;obtain rfl:u=Value.ref a:=m;exact qP k p c n l λA B r t=>⟨v,j,r,t,q⟩
def Eh(i:PE X o ta)(j:PE X value tv)(k:swapsWith value (some (.Attribute o f pos')) pos.line X.env=pure false):PS X (.Assign [.Attribute o f pos'] value pos) (Gv X.K ta tv f):=by
 intro g s d H D I h;refine plainObj_wpAny_Assign_Attribute (bI (j g s d H _ I h) λu m ⟨y,p,r,t,q⟩=>bI (i g m d p _ r q) ?_) k;rintro v F ⟨x,G,w,z,b⟩;(try dsimp only at b);rw[cD]at b;obtain⟨a,rfl,C,J,fs,A,c,n,l,B⟩:=b;obtain rfl:v=Value.ref a:=z;exact qQ w A c n l t λL E=>⟨d,_,E,B⟩
end
structure gK(P:Program)(w:World)(K:W.Frag)(mg:Z7)(base:Heap)(n:Nat)(C:ZT)(m:Str)(ps:List Str)(sp:Sp):Prop where
 ex:∃f fd,Cls K C/\Jf K C m f/\eN P w K mg base jL n f fd ps sp/\Binds K fd ps []
structure Rn(P:Program)(w:World)(K:W.Frag)(mg:Z7)(base:Heap)(n:Nat)(x:Str)(C:ZT)(ps:List Str)(dvs:List V)(sp:Sp):Prop where
 ex:∃f fd ds,mg x=some (.ref C)/\Mk K C f/\eN P w K mg base jL n f fd ps sp/\Binds K fd ps ds/\Vals dvs ds
def mF(C:ZT)(m:Str)(sp:Sp)(d:TE)(t:TA):TE:=λc H Q=>d c H λx b=>mR x λa=>∃e fs,b a=some (.ins C e fs)/\fs.lookup m=none/\t c b λvs f=>sp (.ref a::vs) f Q E0
section
variable {X:Cx}{e o:Expr}{es:List Expr}{m x:Str}{p pos apos:Pos}{ta:TE}{t:TA}{C:ZT}{n:Nat}{ps:List Str}{sp:Sp}{dvs:List V}
def zK{pl:Sem Bool}(w:PE X o ta)(c:gK X.prog X.w X.K X.mg X.base n C m ps sp)(y:Room n X.A)(z:PA X (e::es) t)(A:aO e=true)(B:(backTo pos (starEach es X.env)).any (·.1)=false)(D:eval (.Call (.Attribute o m apos) (e::es) [] pos) X.env=(do
   let g←eval o X.env
   standAt apos.atName
   let (f,first)←holding [g] (getMethod g m pl)
   callWith pos f first (backTo pos (starEach (e::es) X.env)) (backToKw pos (keywordEach [] X.env)))) :
  PE X (.Call (.Attribute o m apos) (e::es) [] pos) (mF C m sp ta t):=by
 obtain⟨f,O,E,i,F,G⟩:=c.ex;intro d s v H Q I h;refine W.methodCall_KW (pl:=pl) (bI (w d s v H _ I h) ?_) D;rintro u J ⟨x,K,j,L,b⟩;(try dsimp only at b);rw[cD]at b;obtain⟨a,rfl,P,fs,M,l,q⟩:=b;obtain rfl:u=Value.ref a:=L;refine jU j M E i l ?_;refine W.callWith_K (first:=[.ref a]) (h₀:=X.base) I.ok.mod.kin i.kp (bI (z pos d J v K _ j q) λus R ⟨vs,S,k,r,N⟩=>⟨k.kIn,?_⟩) (bK A) B;exact qU (us:=.ref a::us) (vs:=.ref a::vs) (dvs:=[]) (ds:=[]) F y G .nil sX k (.cons rfl r) (by rw[append_nil];exact N)
def vP{pl:Sem Bool}(k:PE X o ta)(c:gK X.prog X.w X.K X.mg X.base n C m ps sp)(r:Room n X.A)(v:eval (.Call (.Attribute o m apos) [] [] pos) X.env=(do
   let g←eval o X.env
   standAt apos.atName
   let (f,first)←holding [g] (getMethod g m pl)
   callWith pos f first (backTo pos (starEach [] X.env)) (backToKw pos (keywordEach [] X.env)))) :
  PE X (.Call (.Attribute o m apos) [] [] pos) (mF C m sp ta fR):=by
 obtain⟨f,D,w,i,F,y⟩:=c.ex;intro j s B H Q I h;refine W.methodCall_KW (pl:=pl) (bI (k j s B H _ I h) ?_) v;rintro u E ⟨x,G,b,z,d⟩;(try dsimp only at d);rw[cD]at d;obtain⟨a,rfl,J,fs,A,l,q⟩:=d;obtain rfl:u=Value.ref a:=z;refine jU b A w i l ?_;exact W.callWith_K0 (first:=[.ref a]) b.kIn i.kp (qU (us:=[.ref a]) (vs:=[.ref a]) (dvs:=[]) (ds:=[]) F r y .nil sX b (.cons rfl .nil) (by rw[append_nil];exact q))
end
structure FunD(K:W.Frag)(x qual:Str)(st:Stmt)(dv:ZS)(f:ZT)(fd:FuncData):Prop where
 ex:∃(oc:ZS)(od:Option ZT)(kV doc pm:ZS)(an:Option ZT)(cdv ct:ZS)(osl:Array (Option ZS)),
  fd=W.fnOf x qual (bO st) (aS st) (aG st) dv kV doc pm an cdv ct/\K.lookup f=some ⟨oc,od,.func fd,osl⟩/\W.codeIn K cdv qual=true
section
variable {P:Program}{w:World}{K:W.Frag}{mg:Z7}{base:Heap}{x qual:Str}{st:Stmt}{dv:ZS}{f C:ZT}{fd:FuncData}{N ps:List Str}{k:Nat}{sp:Sp}
def FunD.go(F:FunD K x qual st dv f fd)(S:cJ N ps (aG st))(len:∀vs H Q E,sp vs H Q E->vs.length=ps.length)(b:∀(a:ZS)(A:Around)(outer:List Env)(s:ZR)(H:Hp)(vs:List V)(Q:VK)(E:XK),Room k (A.deeper (envOfC qual (aG st) s.heap.objs.size f a))->sp vs H Q E →
   ∃t,XB (eO jL P w K mg base N qual (aG st) f a A outer s H E).nox (aS st) t/\t {nx:=λ_ c=>Q .non c,rt:=Q } (start N vs) H):eN P w K mg base jL (k+1) f fd ps sp:=by
 obtain⟨l,m,kV,i,n,o,a,p,j,rfl,lk,d⟩:=F.ex;refine Gk lk d S len λA outer s H vs Q E e g=>?_;obtain⟨t,h,q⟩:=b a A outer s H vs Q E e g;exact⟨t,h.h.nox,q⟩
structure MethAt(K:W.Frag)(C:ZT)(m qual:Str)(st:Stmt)(ps:List Str):Prop where
 cl:Cls K C
 ex:∃f fd,Fun K m qual st f fd/\Jf K C m f/\Binds K fd ps []
def MethAt.gg{m:Str}(D:MethAt K C m qual st ps)(S:cJ N ps (aG st))(b:∀(f:ZT)(a:ZS)(A:Around)(outer:List Env)(s:ZR)(H:Hp)(vs:List V)(Q:VK)(E:XK),Room k (A.deeper (envOfC qual (aG st) s.heap.objs.size f a))->sp vs H Q E →
   ∃t,XB (eO jL P w K mg base N qual (aG st) f a A outer s H E).nox (aS st) t/\t {nx:=λ_ c=>Q .non c,rt:=Q } (start N vs) H)(len:∀vs H Q E,sp vs H Q E->vs.length=ps.length:=by intro vs H Q E h;repeat (first | (obtain⟨rfl,_⟩:=h;rfl) | obtain⟨_,h⟩:=h)):gK P w K mg base (k+1) C m ps sp:=by
 obtain⟨f,fd,F,d,e⟩:=D.ex;exact⟨f,fd,D.cl,d,F.go S len (b f),e⟩
structure ClsAt(K:W.Frag)(mg:Z7)(x:Str)(C:ZT)(qual:Str)(st:Stmt)(ps:List Str)(dvs:List (List V)):Prop where
 ex:∃f fd dv,mg x=some (.ref C)/\FunD K "__init__" qual st dv f fd/\Mk K C f/\∀d∈dvs,∃ds,Binds K fd ps ds/\Vals d ds
def ClsAt.go{dvs:List (List V)}(D:ClsAt K mg x C qual st ps dvs)(S:cJ N ps (aG st))(len:∀vs H Q E,sp vs H Q E->vs.length=ps.length)(c:∀(f:ZT)(a:ZS)(A:Around)(outer:List Env)(s:ZR)(H:Hp)(vs:List V)(Q:VK)(E:XK),Room k (A.deeper (envOfC qual (aG st) s.heap.objs.size f a))->sp vs H Q E →
   ∃t,XB (eO jL P w K mg base N qual (aG st) f a A outer s H E).nox (aS st) t/\t {nx:=λ_ g=>Q .non g,rt:=Q } (start N vs) H):∀d∈dvs,Rn P w K mg base (k+1) x C ps d sp:=by
 intro d h;obtain⟨f,fd,dv,e,F,M,i⟩:=D.ex;obtain⟨j,b,v⟩:=i d h;exact⟨f,fd,j,e,M,F.go S len (c f),b,v⟩
end
namespace R
section
variable {X:Cx}{e o i value:Expr}{es:List Expr}{m x f:Str}{p pos pos' apos:Pos}{te ta tv td ty:TE}{t:TA}{C:ZT}{n:Nat}{ps:List Str}{sp:Sp}{dvs:List V}{K:W.Frag}{tg:Expr}
def wD(a:XE X e te):XI X tg e (Qh te):=⟨Ku a.h⟩
def bg(a:XE X e te)(b:X.K=K:=by rfl)(c:attributeBase e f X.env (eval e X.env)=eval e X.env:=by rfl):XE X (.Attribute e f pos) (Qi K te f):=b▸⟨Eg a.h c⟩
def fk(a:XE X o ta)(b:XE X value tv)(c:X.K=K:=by rfl)(d:swapsWith value (some (.Attribute o f pos')) pos.line X.env=pure false:=by rfl):XS X (.Assign [.Attribute o f pos'] value pos) (Gv K ta tv f):=c▸⟨Eh a.h b.h d⟩
def bt(a:X.A.units+1<cLine)(b:XE X o td)(c:XE X i ty)(d:Jp i:=by exact λ_ _=>rfl):XE X (.Subscript o i pos) (Go td ty):=⟨Dh a b.h c.h d⟩
def bp{pl:Sem Bool}{a:Nat}(c:gK X.prog X.w X.K X.mg X.base n C m ps sp)(d:Room a X.A)(g:XE X o ta)(h:XA X (e::es) t)(j:aO e=true:=by rfl)(k:es.all aO=true:=by rfl)(l:eval (.Call (.Attribute o m apos) (e::es) [] pos) X.env=(do
   let b←eval o X.env
   standAt apos.atName
   let (f,first)←holding [b] (getMethod b m pl)
   callWith pos f first (backTo pos (starEach (e::es) X.env)) (backToKw pos (keywordEach [] X.env))):=by rfl)(q:n<=a:=by decide):XE X (.Call (.Attribute o m apos) (e::es) [] pos) (mF C m sp ta t):=⟨zK g.h c (d.mono q) h.h j (dN k) l⟩
def dw{pl:Sem Bool}{a:Nat}(c:gK X.prog X.w X.K X.mg X.base n C m ps sp)(d:Room a X.A)(g:XE X o ta)(h:eval (.Call (.Attribute o m apos) [] [] pos) X.env=(do
   let b←eval o X.env
   standAt apos.atName
   let (f,first)←holding [b] (getMethod b m pl)
   callWith pos f first (backTo pos (starEach [] X.env)) (backToKw pos (keywordEach [] X.env))):=by rfl)(j:n<=a:=by decide):XE X (.Call (.Attribute o m apos) [] [] pos) (mF C m sp ta fR):=⟨vP g.h c (d.mono j) h⟩
def jv{a:Nat}(c:Rn X.prog X.w X.K X.mg X.base n x C ps dvs sp)(b:Room a X.A)(d:Gl X x)(g:(x==("__debug__":Str))=false:=by decide)(h:n+1<=a:=by decide) :
  XE X (.Call (.Name x p) [] [] pos) (xJ C sp dvs E0 fR):=by
 obtain⟨f,q,r,j,M,F,k,l⟩:=c.ex;exact⟨xL M F (b.mono h) d j k l sX g⟩
end
end R
def eU(a:List (Str×Int)):List (aR×V):=a.map λq=>(Sum.inr q.1,V.int q.2)
def aX(a:List (Str×Int))(n:Str):Int:=(a.lookup n).getD 0
def pM(a:List (Str×Int)):(eU a).map (·.1)=(a.map (·.1)).map Sum.inr:=by
 unfold eU;rw[map_map,map_map];rfl
theorem gU(n:Str):∀(a:List (Str×Int)),aQ (eU a) (Sum.inr n)=(a.lookup n).map V.int
 | []=>rfl
 | q::r=>by
  unfold eU;rw[map_cons,lookup_cons];by_cases h:n=q.1
  ·subst h;rw[bE rfl];simp
  ·have b:(n==q.1)=false:=beq_eq_false_iff_ne.mpr h;rw[aY (by intro z;exact h (Sum.inr.inj z).symm),b];exact gU n r
def gV(a:List (Str×Int))(n:Str):(aQ (eU a) (Sum.inr n)).getD (V.int 0)=V.int (aX a n):=by
 rw[gU];unfold aX;cases a.lookup n<;>rfl
theorem fJ:∀(more kvs:List (aR×V)),(more.map (·.1)).Nodup->(∀k∈more.map (·.1),aQ kvs k=none)->aM kvs more=kvs++more
 | [],kvs,_,_=>(append_nil _).symm
 | p::r,kvs,b,h=>by
  obtain⟨c,d⟩:=nodup_cons.mp b;show aM (bG kvs p.1 p.2) r=_;have e:aQ kvs p.1=none:=h p.1 Zs;rw[fJ r _ d λk a=>?_,jX _ e]
  ·simp
  ·rw[cT,ZP (λ(z:k=p.1)=>c (by dsimp only;rw[<- z];exact a))];exact h k (jE _ a)
def mG:∀ {l:List Str},l.Nodup->(l.map (Sum.inr:Str->aR)).Nodup
 | [],_=>nodup_nil
 | a::l,h=>by
  obtain⟨c,d⟩:=nodup_cons.mp h;refine nodup_cons.mpr ⟨λz=>?_,mG d⟩;obtain⟨b,f,e⟩:=Zmm.mp z;cases e;exact c f
def vQ{a:List (Str×Int)}(h:(a.map (·.1)).Nodup):aM [] (eU a)=eU a:=by
 rw[fJ _ _ (by rw[pM];exact mG h) λ_ _=>rfl];rfl
theorem dX{n:Str}:∀ {b:List (Str×Int)},n∈b.map (·.1)->∃a,b.lookup n=some a
 | q::r,h=>by
  rw[lookup_cons];by_cases e:n=q.1
  ·subst e;exact⟨q.2,Zs⟩
  ·have c:(n==q.1)=false:=beq_eq_false_iff_ne.mpr e;rw[c];rcases mem_cons.mp h with z|z
   ·exact ZO z e
   ·exact dX z
def Kv(H:Hp)(r:V)(b:List (Str×Int)):Prop:=(r=.non/\b=[])∨∃l a,r=.ref l/\H l=some (.lst (fT a))/\ZAt H a/\a.map (·.2)=b
def wz(a:List Z):List W:=a.map λz=>(z.1,Sum.inr z.2.1,V.int z.2.2)
def Kw(a:List Z):((wz a).map λz=>V.ref z.1)=fT a:=by
 unfold wz fT;rw[map_map];rfl
def Qj{H:Hp}{a:List Z}(h:ZAt H a):Ta H (wz a):=λz b=>by
 obtain⟨y,c,rfl⟩:=Zmm.mp b;exact h y c
def Kx(a:List Z):(wz a).map (·.2)=eU (a.map (·.2)):=by
 unfold wz eU;rw[map_map,map_map];rfl
def Tc(y:V):cW "amounts" y []=[(("amounts":Str),y)]:=rfl
def zL(qs:List (Str×Int)):TV:=.ls (qs.map λq=>.tp [.sc (.str q.1),.sc (.int q.2)])
def zM{H:Hp}{l:ZT}{a:List Z}(b:H l=some (.lst (fT a)))(c:ZAt H a):Rep H 2 (zL (a.map (·.2))) (.ref l):=by
 refine⟨l,_,rfl,b,?_⟩;clear b;unfold fT;induction a with
 | nil=>exact .nil
 | cons z a d=>
  refine .cons ⟨z.1,_,rfl,c z dI,?_⟩ (d λy e=>c y (jE _ e));exact .cons (Rep.scal rfl) (.cons (Rep.scal rfl) .nil)
section
variable {X:Cx}
def R.eh(a:X.calm=true):XC X (.builtin "min") (λvs H Q=>match vs with | [.int i,.int j]=>Q (.int (if j<i then j else i)) H | _=>False):=⟨(uW a).imp λvs H Q h=>by
 split at h
 ·exact⟨_,_,rfl,h⟩
 ·exact h.elim⟩
end
inductive DW(one other nm:Str)(n:Int):Str->List V->List (Str×Int)->List (Str×List V)->Prop
 | add:DW one other nm n "add" [.str "add",.str nm,.int n] [(nm,n)] []
 | take:DW one other nm n "take" [.str "take",.str nm,.int n] [(nm,-n)] []
 | move:DW one other nm n "move" [.str "move",.str one,.str other,.int n] [(one,-n),(other,n)] []
 | send:DW one other nm n "send" [.str "send",.str one,.str nm,.int n] [(nm,-n)] [(one,[.str "add",.str nm,.int n])]
 | fetch:DW one other nm n "fetch" [.str "fetch",.str one,.str nm,.int n] [(nm,n)] [(one,[.str "take",.str nm,.int n])]
 | pass:DW one other nm n "pass" [.str "pass",.str one,.str other,.str nm,.int n] [] [(one,[.str "take",.str nm,.int n]),(other,[.str "add",.str nm,.int n])]
structure Ro(wd:Str)(xs:List V)(cs:List (Str×Int))(as:List (Str×List V)):Prop where
 ex:∃one other nm n,DW one other nm n wd xs cs as
def AskAt(H:Hp)(q:Str×List V)(v:V):Prop:=∃a d,v=.ref a/\H a=some (.tup [.str q.1,.ref d])/\H d=some (.tup q.2)
def AskAt.same{H b:Hp}{q:Str×List V}{v:V}(s:Same H b)(h:AskAt H q v):AskAt b q v:=by
 obtain⟨a,d,e,c,f⟩:=h;exact⟨a,d,e,s _ _ c,s _ _ f⟩
def mH:Sp:=λvs H Q _=>∃p wd c d e,vs=[.ref p]/\H p=some (.tup c)/\Ro wd c d e/\∀t b a,Same H a->a t=some (.tup (fT b))->ZAt a b->b.map (·.2)=d->Q (.ref t) a
def Ky:Sp:=λvs H Q _=>∃p wd b e c,vs=[.ref p]/\H p=some (.tup b)/\Ro wd b e c/\∀t d a,Same H a->a t=some (.tup d)->Paired (AskAt a) c d->Q (.ref t) a
def Kz:Bool->String|true=>"list_iterator"|false=>"tuple_iterator"
def ItAt(k:Bool)(h:Heap)(it a:ZT)(i:Nat):Prop:=∃o,h.get? it=some o/\o.cls=.type (Kz k)/\o.data=.fields #[.ref a,.int i 0]
def tP(k:Bool)(h:Heap)(a:ZT)(vs:Array Value):Prop:=match k with|true=>h.IsList a vs|false=>h.IsTuple a vs
def ItAt.by{k:Bool}{h h':Heap}{it a:ZT}{i:Nat}(x:ItAt k h it a i)(g:∀o,h.get? it=some o->h'.get? it=some o):ItAt k h' it a i:=let ⟨o,e,r⟩:=x;⟨o,g o e,r⟩
section
variable {prog:Program}{w:World}{A:Around}{E:Z8}{s:ZR}
def Ei{k:Bool}{it a:ZT}{i:Nat}{vs:Array Value}{x:ZS}{Q:Z8}(d:ItAt k s.heap it a i)(e:tP k s.heap a vs)(f:vs[i]?=some x)(q:∀h',ItAt k h' it a (i+1)->Heap.SameBut it s.heap h'->Q x {s with heap:=h' }):wpAny (model prog w) A (Builtin.SmallTypes.nextOf (.ref it)) Q E s:=by
 cases k with
 | true=>exact wpAny_nextOf_list_item (show s.heap.IsListIter it a i from d) (show s.heap.IsList a vs from e) f q
 | false=>
  have g:s.heap.IsTupleIter it a i:=d;obtain⟨o,c,h,b⟩:=d;obtain⟨m,j,_,n,l⟩:=e;unfold Builtin.SmallTypes.nextOf;refine Z6 (wpAny_callSpecial?_slot (name:=Str.ofString "__next__") g.typeIs F.slot_tuple_iterator_next (wpAny_call_entry F.slot_tuple_iterator_next g.typeIs F.entry_tuple_iterator_next ?_ (F.args_tuple_iterator_next_1 _)));show wpAny (model prog w) _ (field (.ref it) 0>>=_) _ _ s;refine Z6 (wpAny_field c b (x:=.ref a) rfl ?_);show wpAny (model prog w) _ (if (Value.ref a==Value.none)=true then _ else _) _ _ s;rw[ZP (show ¬ ((Value.ref a==Value.none)=true) from ZZ)];show wpAny (model prog w) _ (field (.ref it) 1>>=_) _ _ s;refine Z6 (wpAny_field (x:=.int i 0) c b rfl ?_);show wpAny (model prog w) _ (seqItems? (.ref a)>>=_) _ _ s;refine Z6 (wpAny_seqItems (j) l ?_);simp only [f,Int.toNat_natCast];refine Z6 (wpAny_setField c b Zs (Z5 ⟨x,rfl,Z5 (q _ ?_ (Heap.SameBut.update ..))⟩));exact⟨_,Heap.get?_update_self _ c (Obj.isFreed_of_fields (Obj.data_mapFields b _)),(Obj.cls_mapFields ..).trans h,by rw[Obj.data_mapFields b];simp[rawInt]⟩
def Lk{k:Bool}{it a:ZT}{i:Nat}{vs:Array Value}{Q:Z8}(c:A.handled=none)(b:ItAt k s.heap it a i)(g:tP k s.heap a vs)(h:vs[i]?=none)(j:∀h' e,Heap.ExtBut it s.heap h'->(∃o,h'.get? e=some o/\o.cls=.type "StopIteration")->E (.ref e) {s with heap:=h' }):wpAny (model prog w) A (Builtin.SmallTypes.nextOf (.ref it)) Q E s:=by
 cases k with
 | true=>exact wpAny_nextOf_list_end c (show s.heap.IsListIter it a i from b) (show s.heap.IsList a vs from g) h j
 | false=>
  have l:s.heap.IsTupleIter it a i:=b;obtain⟨o,d,q,f⟩:=b;obtain⟨r,n,_,t,p⟩:=g;unfold Builtin.SmallTypes.nextOf;refine Z6 (wpAny_callSpecial?_slot (name:=Str.ofString "__next__") l.typeIs F.slot_tuple_iterator_next (wpAny_call_entry F.slot_tuple_iterator_next l.typeIs F.entry_tuple_iterator_next ?_ (F.args_tuple_iterator_next_1 _)));show wpAny (model prog w) _ (field (.ref it) 0>>=_) _ _ s;refine Z6 (wpAny_field d f (x:=.ref a) rfl ?_);show wpAny (model prog w) _ (if (Value.ref a==Value.none)=true then _ else _) _ _ s;rw[ZP (show ¬ ((Value.ref a==Value.none)=true) from ZZ)];show wpAny (model prog w) _ (field (.ref it) 1>>=_) _ _ s;refine Z6 (wpAny_field (x:=.int i 0) d f rfl ?_);show wpAny (model prog w) _ (seqItems? (.ref a)>>=_) _ _ s;refine Z6 (wpAny_seqItems (n) p ?_);simp only [h,Int.toNat_natCast];refine Z6 (wpAny_rule (Z6 (wpAny_setField (d) f Zs ?_)));show wpAny (model prog w) _ (newExc (.type "StopIteration") []>>=_) _ _ _;refine Z6 ?_;simp only [newTuple,newExc];refine Z6 (wpAny_newObj_type ?_ (by size_fits));refine Z6 (m:=firstArgMember _ _) (wpAny_of_eq (a:=Value.none) (by first|rfl|(simp only [firstArgMember];rfl)) ?_);refine wpAny_newObj_type ?_ (by size_fits);simp only [raiseNew];refine Z6 (wpAny_handled ?_)
  first|rw[show A.in1.handled=none from(c)]|rw[c]
  refine Z6 (Z5 (wpAny_throw ?_));exact j _ _ (((Heap.SameBut.update ..).extBut.push _).push _) ⟨_,ZU _ rfl,rfl⟩
end
section
variable {X:Cx}{pins:Z9}{σ:List (Option V)}{H:Hp}{s:ZR}{h':Heap}
def Inv.turnLaid{t':Nat}{ch:List ZT}{a:ZT}{o:HO}(I:Inv X pins σ H s)(g:∀b∈ch,jF X pins H b)(k:∀b u,b∉ch->s.heap.get? b=some u->h'.get? b=some u)(i:s.heap.objs.size<=a)(new:ObjOk X.prog X.w (aJ H a o) h' a o) :
  Inv X pins σ (aJ H a o) {s with heap:=h',toks:=t' }:=by
 have h:=I.hok.fresh i;have j:∀b u,H b=some u->b∉ch:=λb u e z=>by rw[(g b z).1]at e;cases e
 refine I.step (g':=s.gens) (d':=s.drawn) (ch:=ch) (λb d=>⟨(g b d).2.2.2.1,(g b d).2.1,(g b d).2.2.2.2.1,(g b d).2.2.2.2.2⟩) (λb u _ _ f e _=>k b u f e) (λb u _ _ f e _=>⟨u.slots,k b u f e⟩)
  (λb u _ e n=>by rw[aD (ne_of_lt (ZK (Heap.lt_size e) i))];exact n) (λb u f e=>⟨u,k b u f e⟩) (λb l e=>by rw[aD (aB e h)];exact e) (λb v u e=>by rw[aD (aB e h)];exact e)
  (λb ps e=>⟨#[],by rw[aD (aB e h),e];simp⟩) (λm p=>?_) (λb u e=>?_) I.bare
 ·obtain⟨u,t,w,x,r⟩:=p;exact⟨u,t,w,k _ u (λz=>(g _ z).2.1 rfl) x,r⟩
 ·by_cases d:b=a
  ·subst d;rw[aA]at e;cases e;exact new
  ·rw[aD d]at e;refine(I.hok b u e).stay (λc v f q=>k c v ?_ q) (λc q=>by rw[aD (aB q h)];exact q) λc l q=>by rw[aD (aB q h)];exact q
   rcases f with z|z
   ·rw[z];exact j b u e
   ·exact j c _ z
def Inv.turnL{t':Nat}{ch:List ZT}(I:Inv X pins σ H s)(d:∀b∈ch,jF X pins H b)(k:∀b u,b∉ch->s.heap.get? b=some u->h'.get? b=some u):Inv X pins σ H {s with heap:=h',toks:=t' }:=by
 have g:∀b u,H b=some u->b∉ch:=λb u e z=>by rw[(d b z).1]at e;cases e
 refine I.step (g':=s.gens) (d':=s.drawn) (ch:=ch) (λb f=>⟨(d b f).2.2.2.1,(d b f).2.1,(d b f).2.2.2.2.1,(d b f).2.2.2.2.2⟩) (λb u _ _ a e _=>k b u a e) (λb u _ _ a e _=>⟨u.slots,k b u a e⟩)
  (λ_ _ _ _ n=>n) (λb u a e=>⟨u,k b u a e⟩) (λ_ _ e=>e) (λ_ _ _ e=>e) (λb ps e=>⟨#[],by rw[e];simp⟩) (λm h=>?_) (λb u e=>?_) I.bare
 ·obtain⟨u,i,j,l,r⟩:=h;exact⟨u,i,j,k _ u (λz=>(d _ z).2.1 rfl) l,r⟩
 ·refine(I.hok b u e).stay (λc v a q=>k c v ?_ q) (λ_ q=>q) λ_ _ q=>q;rcases a with z|z
  ·rw[z];exact g b u e
  ·exact g c _ z
end
section
variable {X:Cx}
def mJ(A:Around):A.in1.units=A.units+1:=rfl
def bV(xs ys:List V):Bool:=(List.range (min xs.length ys.length)).all (λj=>jK (xs.getD j .non) (ys.getD j .non))&&xs.length==ys.length
def Ll(e:Bool):R2:=λx y H Q=>mR x λa=>mR y λb=>∃c d,H a=some (.tup c)/\H b=some (.tup d)/\(∀(j:Nat)(u v:V),c[j]?=some u->d[j]?=some v->bU u=true/\bU v=true)/\Q (.bl (if e then !bV c d else bV c d)) H
def zN(k:Bool)(N:X.A.units+64<cLine):OpR X (compareOp (if k then .NotEq else .Eq)) (Ll k):=by
 intro M s O H x y v u Q I B C h;unfold Ll at h;rw[cD]at h;obtain⟨a,rfl,h⟩:=h;rw[cD]at h;obtain⟨b,rfl,c,d,g1,g2,D,q⟩:=h;cases B;cases C;obtain⟨f,o,p,_⟩:=I.tuple (YU g1);obtain⟨i,r,t,_⟩:=I.tuple (YU g2);have E:f.length=c.length:=o.length.symm;have F:i.length=d.length:=r.length.symm;have n:∀j (l:j<f.toArray.size) (m:j<i.toArray.size),SeqAt.EqAt X.A.in1 s f.toArray[j] i.toArray[j] (jK (c.getD j .non) (d.getD j .non)):=λj l m=>by
  rw[cO]at l m;obtain⟨w,G⟩:=Paired.get' (j:=j) o l;obtain⟨z,J⟩:=Paired.get' (j:=j) r m;obtain⟨f1,f2⟩:=D j c[j] d[j] (bR w) (bR z);have K:c.getD j .non=c[j]:=by simp[List.getD,w]
  have L:d.getD j .non=d[j]:=by simp[List.getD,z]
  rw[K,L];simpa using fV G J f1 f2
 have e:((List.range (min f.toArray.size i.toArray.size)).all (λj=>jK (c.getD j .non) (d.getD j .non))&&f.toArray.size==i.toArray.size)=bV c d:=by
  rw[cO,cO,E,F];rfl
 cases k with
 | true=>
  have g:=SeqAt.RcNeAt.tuples (A:=X.A) (s:=s) p t Zo n;rw[e]at g;exact g _ _ _ _ ⟨.bl _,H,I,rfl,q⟩
 | false=>
  have g:=SeqAt.RcAt.tuples (A:=X.A) (s:=s) p t Zo n;rw[e]at g;exact g _ _ _ _ ⟨.bl _,H,I,rfl,q⟩
def R.ie(a:X.A.units+64<cLine):eI X (compareOp .NotEq) (Ll true):=⟨zN true a⟩
end
def Rp:Option aR->ZS->Bool
 | none,.none=>true
 | none,_=>false
 | some k,v=>eC k v
def bX:∀ {k:Option aR}{v:ZS},Rp k v=true->(k=none/\v=.none)∨∃j,k=some j/\eC j v=true
 | none,v,h=>by cases v<;>first|exact .inl ⟨rfl,rfl⟩|exact ZO (show false=true from h) ZZ
 | some j,v,h=>.inr ⟨j,rfl,h⟩
def kK{j:aR}:eC j .none=false:=by cases j<;>rfl
def pN:Int:=4238894112
section
variable {prog:Program}{w:World}{A:Around}{E:Z8}{s:ZR}
def vR{Q:Int->ZR->Prop}(h:Q pN {s with toks:=s.toks+1 }):wpAny (model prog w) A (PySem.pyHash .none) Q E s:=by
 have a:s.TypeIs Value.none "NoneType":=rfl;unfold PySem.pyHash;refine Z6 ?_;rw[cRoomFor,ZP (show ¬ ([Value.none].any Value.onHeap=true) from ZZ)];refine Z5 ?_;refine Z6 (wpAny_specialOf a PySem.F.slot_NoneType_hash.lookup ?_);show wpAny (model prog w) A (if (some (Value.builtin "NoneType.__hash__")==some Value.none)=true then _ else _) Q E s;rw[ZP (show ¬ ((some (Value.builtin "NoneType.__hash__")==some Value.none)=true) from ZZ)];refine Z6 (wpAny_specialOf a PySem.F.slot_NoneType_hash.lookup ?_);show wpAny (model prog w) A (callSpecialIfBoundUnlessNone? Value.none "__hash__" _>>=_) Q E s;refine Z6 (wpAny_callSpecialIfBoundUnlessNone?_slot a PySem.F.slot_NoneType_hash (wpAny_call_entry PySem.F.slot_NoneType_hash a PySem.F.entry_NoneType_hash (show wpAny (model prog w) _ (do ret (← mkInt pN)) _ _ s from wpAny_ret_mkInt ?_) (PySem.F.args_NoneType_hash_1 _)));show wpAny (model prog w) A (if (decide (-(2:Int)^63<=pN)&&decide (pN<2^63))=true then _ else _) Q E _;rw[ZQ Zd];exact Z5 h
end
def zO(prog:Program)(w:World):PySem.KeyKind prog w (Option aR) where
 is:=Rp
 hash:=λk=>match k with|none=>pN|some j=>Nt w j
 inj:=λv a b m l=>by
  rcases bX m with⟨rfl,rfl⟩|⟨i,rfl,c⟩
  ·rcases bX l with⟨rfl,_⟩|⟨j,rfl,d⟩
   ·rfl
   ·rw[kK]at d;cases d
  ·rcases bX l with⟨rfl,rfl⟩|⟨j,rfl,d⟩
   ·rw[kK]at c;cases c
   ·rw[(aL prog w).inj v i j c d]
 byValue:=λk v h=>by
  rcases bX h with⟨rfl,rfl⟩|⟨i,rfl,c⟩
  ·rfl
  ·exact(aL prog w).byValue i v c
 pyHash:=λ{A E s k v Q} g h=>by
  rcases bX g with⟨rfl,rfl⟩|⟨i,rfl,c⟩
  ·exact vR h
  ·exact(aL prog w).pyHash c h
 eqBool:=λ{A E s a b u v Q} o g h=>by
  rcases bX o with⟨rfl,rfl⟩|⟨i,rfl,c⟩
  ·rcases bX g with⟨rfl,rfl⟩|⟨j,rfl,d⟩
   ·exact SeqAt.EqAt.same _ _ _ _ _ (by simpa using h)
   ·have f:Q false s:=by simpa using h
    rcases aU d with⟨n,t,rfl,rfl⟩|⟨x,t,rfl,rfl⟩
    ·exact SeqAt.EqAt.none_int n t _ _ _ _ f
    ·exact SeqAt.EqAt.none_str x t _ _ _ _ f
  ·rcases bX g with⟨rfl,rfl⟩|⟨j,rfl,d⟩
   ·have f:Q false s:=by simpa using h
    rcases aU c with⟨n,t,rfl,rfl⟩|⟨x,t,rfl,rfl⟩
    ·exact SeqAt.EqAt.int_none n t _ _ _ _ f
    ·exact SeqAt.EqAt.str_none x t _ _ _ _ f
   ·refine(aL prog w).eqBool c d ?_;have e:decide (some i=some j)=decide (i=j):=by simp
    rw[<- e];exact h
 «strs»:=λk x t v h=>by
  rcases bX h with⟨rfl,e⟩|⟨i,rfl,c⟩
  ·cases e
  ·exact(aL prog w).strs i x t v c
def zP{prog:Program}{w:World}{h:Heap}{a:ZT}{f:aR->Option ZS}(m:h.MapOf (aL prog w) a f):∃g:Option aR->Option ZS,h.MapOf (zO prog w) a g/\g none=none:=by
 obtain⟨o,c,p,q,r,s,j,t⟩:=m;refine⟨_,⟨o,c,p,q,r,s,λe d=>?_,λk=>rfl⟩,?_⟩
 ·obtain⟨k,b,l⟩:=j e d;exact⟨some k,b,l⟩
 ·show findBy Rp c none=none;unfold findBy;have:c.find? (λe=>Rp none e.key)=none:=by
   rw[Array.find?_eq_none];intro e d z;obtain⟨k,b,l⟩:=j e d;rcases bX z with⟨_,i⟩|⟨_,i,_⟩
   ·rw[i]at b;have n:eC k .none=true:=b;rw[kK]at n;cases n
   ·cases i
  rw[this];rfl
section
variable {X:Cx}
def Lm(c:Bool):R2:=λx y H Q=>mR y λa=>match x with
 | .non=>(∃b,H a=some (.dK b))/\Q (.bl c) H
 | .str z=>∃b,H a=some (.dK b)/\Q (.bl (if c then !(aQ b (Sum.inr z)).isSome else (aQ b (Sum.inr z)).isSome)) H
 | _=>False
def Ln(b:Bool)(f:X.A.units+1<cLine):OpR X (compareOp (if b then .NotIn else .In)) (Lm b):=by
 intro r s w H x y v u Q I c n h;unfold Lm at h;rw[cD]at h;obtain⟨a,rfl,h⟩:=h;cases n
 cases x with
 | non=>
  obtain⟨⟨m,e⟩,q⟩:=h;cases c;obtain⟨z,i,vs,t,o⟩:=jZ I.hok e;obtain⟨g,j,l⟩:=zP o.mapOf;cases b
  ·refine wpAny_in_of (knd:=zO X.prog X.w) (k:=none) rfl i j ⟨.bl _,H,I.tok _,rfl,?_⟩;rw[l];exact q
  ·refine wpAny_notIn_of (knd:=zO X.prog X.w) (k:=none) rfl i j ⟨.bl _,H,I.tok _,rfl,?_⟩;rw[l];exact q
 | str z=>
  obtain⟨m,e,q⟩:=h;cases b
  ·exact Pa f I (DGet.k (k:=Sum.inr z) e) c λp d=>⟨.bl _,H,d,rfl,q⟩
  ·exact sV f I (DGet.k (k:=Sum.inr z) e) c λp d=>⟨.bl _,H,d,rfl,q⟩
 | _=>exact h.elim
def R.gi(a:X.A.units+1<cLine):eI X (compareOp .NotIn) (Lm true):=⟨Ln true a⟩
end
def Pc(H:Hp)(y:V):Prop:=(bU y=true/\∀z,y=.str z->z.length<=1000)∨(∃a b,y=.ref a/\(H a=some (.lst b)∨H a=some (.tup b)))∨∃a c,y=.ref a/\H a=some (.dK c)
def Pc.kd{H:Hp}{y:V}(h:Pc H y):∃k,Gs H y k:=by
 rcases h with⟨h,_⟩|⟨a,b,rfl,h|h⟩|⟨a,c,rfl,h⟩
 ·cases y with
  | non=>exact⟨.non,trivial⟩
  | bl _=>exact⟨.bl,trivial⟩
  | int _=>exact⟨.int,trivial⟩
  | str _=>exact⟨.str,trivial⟩
  | _=>exact ZO (show false=true from h) ZZ
 ·exact⟨.lst,.inl ⟨b,h⟩⟩
 ·exact⟨.tup,⟨b,h⟩⟩
 ·exact⟨.dct,⟨c,h⟩⟩
def Pc.pt{H:Hp}{y:V}(h:Pc H y):Pt H y:=by
 obtain⟨k,a⟩:=h.kd;refine⟨k,a,λz e=>?_⟩;subst e;rcases h with⟨_,h⟩|⟨_,_,e,_⟩|⟨_,_,e,_⟩
 ·exact h z rfl
 ·cases e
 ·cases e
def Pc.int{H:Hp}{n:Int}:Pc H (.int n):=.inl ⟨rfl,λ_ e=>nomatch e⟩
def Pc.str{H:Hp}{z:Str}(h:z.length<=1000):Pc H (.str z):=.inl ⟨rfl,λ_ e=>by injection e with e;rw[<- e];exact h⟩
def Pc.tup{H:Hp}{a:ZT}{ys:List V}(h:H a=some (.tup ys)):Pc H (.ref a):=.inr (.inl ⟨a,ys,rfl,.inr h⟩)
section
variable {X:Cx}{o:Expr}{to:TE}{p pos apos cpos:Pos}
def Gw:uR:=λo i v H Q=>∃a b,o=.ref a/\DPut H a i v b/\Q b
def zQ(b:X.A.units+1<cLine):Cf X Gw:=by
 intro k s r H o i v l m u Q I c d e h;obtain⟨a,f,rfl,g,q⟩:=h;cases c;exact vG b I g d e λn j=>⟨f,j,q⟩
def R.bn(a:X.A.units+1<cLine):Km X Gw:=⟨zQ a⟩
def Td:List V->Hp->VK->Prop:=λvs H Q=>match vs with
 | [.ref a]=>∃b,H a=some (.dK b)/\∀p,H p=none->Q (.ref p) (aJ H p (.dK b))
 | _=>False
def nX:V->List V->Hp->VK->Prop:=λx vs H Q=>match x,vs with
 | .ref l,[.str z]=>∃a:List Str,H l=some (.lst (a.map V.str))/\z∈a/\∀j:Nat,a[j]?=some z->Q (.int j) H
 | _,_=>False
theorem pO{z:Str}:∀ {a:List Str},z∈a->∃j:Nat,a[j]?=some z/\∀m,m<j->a[m]?≠some z
 | [],h=>nomatch h
 | y::r,h=>by
  by_cases e:y=z
  ·subst e;exact⟨0,rfl,λm b=>ZO b (not_lt_zero _)⟩
  ·rcases mem_cons.mp h with c|h
   ·exact ZO c.symm e
   ·obtain⟨j,d,b⟩:=pO h;refine⟨j+1,by simpa using d,λm f=>?_⟩
    cases m with
    | zero=>simp;exact e
    | succ m=>simpa using b m Zo
def vS:Ni X "list.index" nX:=by
 intro K s N H x vs v L Q I w d h;unfold nX at h;split at h
 ·rename_i l z;obtain⟨b,A,B,q⟩:=h;cases w;obtain⟨u,rfl,f,rfl⟩:=d.one;obtain⟨a,n,r,i,t⟩:=I.lst A;obtain⟨j,g,C⟩:=pO B;have D:=r.length;rw[bA]at D;have M:j<b.length:=(Zgs.mp g).1;have E:(b.map V.str).all bU=true:=by simp[bU]
  have k:∀(m:Nat)(e:m<a.length),pC (.str z) a[m]=decide (b[m]?=some z):=λm e=>by
   have c:m<b.length:=by omega
   have d:RelV (V.str b[m]) (a.getD m Value.none):=fH m r (by rw[bA];exact c) _ (by rw[dH,bR c];rfl);have F:a.getD m Value.none=a[m]:=by rw[getD_eq_getElem?_getD,bR e];rfl
   rw[F]at d;rw[qW d rfl,bR c];show decide (b[m]=z)=_;simp
  refine call_meets PySem.F.slot_list_index ⟨_,i,rfl⟩ PySem.F.entry_list_index (PySem.F.args_list_index_2 _ _)
   (SeqAt.list_indexAt l a.toArray n none #[] (.str z f) (pC (.str z)) j (by simp;omega) (by rw[sizeLine_eq,bA]at t;omega) ?_ ?_) ⟨i,λy G=>dM (x:=.str z) (show RelV (V.str z) (Value.str z f) from⟨f,rfl⟩) rfl r E y (by simpa using G),⟨.int j,H,I.tok _,⟨_,rfl⟩,q j g⟩⟩
  ·have:=k j Zo;simp only [getElem_toArray];rw[this];exact ZW g
  ·intro m e J;have c:m<a.length:=by simpa using e
   have:=k m c;simp only [getElem_toArray];rw[this];exact ZV (C m J)
 ·exact h.elim
def R.fg:XM X "list.index" nX:=⟨vS⟩
end
def kL(a:List (Str×Int))(n:Str)(v:Int):List (Str×Int):=a.map λq=>if q.1=n then (q.1,v) else q
def mK(a:List (Str×Int))(n:Str)(v:Int):(kL a n v).map (·.1)=a.map (·.1):=by
 unfold kL;rw[map_map];refine map_congr_left λq _=>?_
 show(if q.1=n then (q.1,v) else q).1=q.1;split<;>rfl
theorem jB(n:Str)(v:Int):∀(a:List (Str×Int))(m:Str),(kL a n v).lookup m=if m=n then (a.lookup m).map (λ_=>v) else a.lookup m
 | [],m=>by unfold kL;simp
 | q::r,m=>by
  have b:=jB n v r m;unfold kL at b ⊢;rw[map_cons,lookup_cons,lookup_cons,b];have c:(if q.1=n then (q.1,v) else q).1=q.1:=by split<;>rfl
  rw[c];by_cases h:m=q.1
  ·subst h;simp only [beq_self_eq_true];by_cases e:q.1=n
   ·rw[ZQ e,ZQ e];rfl
   ·rw[ZP e,ZP e]
  ·have d:(m==q.1)=false:=beq_eq_false_iff_ne.mpr h;simp only [d]
def zR{b:List (Str×Int)}{n:Str}{v:Int}(h:n∈b.map (·.1))(m:Str):aX (kL b n v) m=if m=n then v else aX b m:=by
 unfold aX;rw[jB];by_cases e:m=n
 ·subst e;obtain⟨a,c⟩:=dX h;rw[ZQ rfl,ZQ rfl,c];rfl
 ·rw[ZP e,ZP e]
def Ej{b:List (Str×Int)}{n:Str}{v:Int}(h:n∈b.map (·.1)):bG (eU b) (Sum.inr n) (.int v)=eU (kL b n v):=by
 unfold bG;rw[ZQ (by rw[dB,gU];obtain⟨a,c⟩:=dX h;rw[c];rfl)];unfold eU kL;rw[map_map,map_map];refine map_congr_left λq _=>?_
 show(if (Sum.inr q.1:aR)=Sum.inr n then (Sum.inr q.1,V.int v) else ((Sum.inr q.1:aR),V.int q.2))=((Sum.inr (if q.1=n then (q.1,v) else q).1:aR),V.int (if q.1=n then (q.1,v) else q).2);by_cases e:q.1=n
 ·rw[ZQ (by rw[e]),ZQ e]
 ·rw[ZP (λz=>e (Sum.inr.inj z)),ZP e]
section
variable {X:Cx}
def zS(i j:Int):Prop:=0<j/\j<2^64
def Ek:OpR X (binaryOp .FloorDiv) (m2 zS λi j=>.int (i / j)):=(Re (C:=zS) (g:=λi j=>i / j) λi j _ _ s Q E a q=>by
 have b:i.fdiv j=i/j:=Int.fdiv_eq_ediv_of_nonneg _ (by have:=a.1;omega);refine floordiv_int (by have:=a.1;omega) (by rw[b];exact q) (.inl (PyProof.noPylong_of_log2 ?_));have c:j.natAbs<2^64:=by have:=a.1;have:=a.2;omega
 exact ZK (Nat.log2_lt (by have:=a.1;omega) |>.mpr c) Zd).imp nT
def R.gk:eI X (binaryOp .FloorDiv) (m2 zS λi j=>.int (i/j)):=⟨Ek⟩
end
def K1(p:ZT)(H a:Hp):Prop:=∀c o,H c=some o->c≠p->a c=some o
def iM(l:List Nat):(tx l).cps.toList=l:=by simp
def KLET:List Nat:=LET++Rk
def iN(z:Str):Prop:=1<=z.length/\z.length<=12/\∀c∈z.cps.toList,c∈KLET
section
variable {X:Cx}{o e f e1:Expr}{td te ty tx:TE}{p2 pos apos cpos:Pos}
def R.ig(a:XE X o td)(b:XE X e ty)(c:XE X f tx)(d:attributeBase o "pop" X.env (eval o X.env)=eval o X.env:=by rfl)(g:(apos.endLine == cpos.line)=true:=by rfl)(h:((backTo cpos (starEach [e,f] X.env)).all (λx=>!x.1)&&(backToKw cpos (keywordEach [] X.env)).all (λx=>x.1.isSome)
  && decide (([e,f]:List Expr).length+([]:List Keyword).length+(if ([]:List Keyword).isEmpty then 0 else 1)<30))=true:=by rfl)(i:backTo cpos (starEach [e,f] X.env)=[(false,eval e X.env),(false,eval f X.env)]:=by rfl):XE X (.Call (.Attribute o "pop" apos) [e,f] [] cpos) (xZ td ty tx):=⟨yC a.h b.h c.h ⟨d,h,g,i⟩⟩
end
def bF(a:List (Str×Int))(n:Str)(v:Int):List (Str×Int):=if n∈a.map (·.1) then kL a n v else a++[(n,v)]
theorem fZ{n:Str}:∀ {a:List (Str×Int)},¬ n∈a.map (·.1)->a.lookup n=none
 | [],_=>rfl
 | q::r,h=>by
  rw[lookup_cons];have b:(n==q.1)=false:=beq_eq_false_iff_ne.mpr λe=>h (by rw[e];exact dI)
  rw[b];exact fZ λm=>h (jE _ m)
def gW{a:List (Str×Int)}{n:Str}{v:Int}:bG (eU a) (Sum.inr n) (.int v)=eU (bF a n v):=by
 unfold bF;by_cases h:n∈a.map (·.1)
 ·rw[ZQ h,Ej h]
 ·rw[ZP h,jX _ (by rw[gU,fZ h];rfl)];unfold eU;rw[eF];rfl
def bM(b:List (Str×Int))(n:Str)(v:Int)(m:Str):aX (bF b n v) m=if m=n then v else aX b m:=by
 unfold bF;by_cases h:n∈b.map (·.1)
 ·rw[ZQ h,zR h]
 ·rw[ZP h];unfold aX;rw[List.lookup_append];by_cases e:m=n
  ·subst e;rw[fZ h,ZQ rfl];simp
  ·rw[ZP e];have c:(m==n)=false:=beq_eq_false_iff_ne.mpr e
   cases d:b.lookup m with
   | some a=>simp
   | none=>simp[lookup_cons,c]
def nY{a:List (Str×Int)}{n:Str}{v:Int}(b:(a.map (·.1)).Nodup):((bF a n v).map (·.1)).Nodup:=by
 unfold bF;by_cases h:n∈a.map (·.1)
 ·rw[ZQ h,mK];exact b
 ·rw[ZP h,eF];exact gP b h
def pP(a:List (Str×Int))(n:Str)(v:Int):(bF a n v).length<=a.length+1:=by
 unfold bF;split
 ·unfold kL;rw[bA];omega
 ·rw[gJ];simp
structure HF where
 dx:Addr
 da:Addr
 dc:Addr
 de:Addr
def El(a:HF):List (Str×V):=[("amounts",.ref a.da),("closed_names",.ref a.dc),("entries",.ref a.de)]
structure tQ(K:W.Frag)(C:ZT):Prop where
 cl:Cls K C
 nA:NoAttr K C "amounts"
 nC:NoAttr K C "closed_names"
 nE:NoAttr K C "entries"
inductive HD(nm:Str)(n:Int):Str->List V->Int->Prop
 | add:HD nm n "add" [.str "add",.str nm,.int n] n
 | take:HD nm n "take" [.str "take",.str nm,.int n] (-n)
def iB(a:List (Str×Int))(b:Str->Bool)(wd nm:Str)(n:Int):Bool:=if wd="take" then decide (n<=aX a nm) else !b nm&&decide (aX a nm+n<=1000000000000)
def yn(b:Bool):Str:=if b then "yes" else "no"
def Em(a:List (Str×Int))(b:Bool)(nm:Str)(c:Int):List (Str×Int):=if b then bF a nm (aX a nm+c) else a
def Lo(H:Hp)(c:V)(a:List Str):Prop:=(c=.non/\a=[])∨∃l,c=.ref l/\H l=some (.lst (a.map V.str))
def vT(a:HF):(El a).lookup ("amounts":Str)=some (.ref a.da):=by unfold El;rw[lookup_cons];simp
def Lp(a:HF):(El a).lookup ("closed_names":Str)=some (.ref a.dc):=by
 unfold El;rw[lookup_cons,(by decide +kernel:(("closed_names":Str)==("amounts":Str))=false)];show List.lookup ("closed_names":Str) [(("closed_names":Str),V.ref a.dc),(("entries":Str),V.ref a.de)]=_;rw[lookup_cons];simp
def lG(a:HF):(El a).lookup ("entries":Str)=some (.ref a.de):=by
 unfold El;rw[lookup_cons,(by decide +kernel:(("entries":Str)==("amounts":Str))=false)];show List.lookup ("entries":Str) [(("closed_names":Str),V.ref a.dc),(("entries":Str),V.ref a.de)]=_;rw[lookup_cons,(by decide +kernel:(("entries":Str)==("closed_names":Str))=false)];show List.lookup ("entries":Str) [(("entries":Str),V.ref a.de)]=_;rw[lookup_cons];simp
def cR{m:Str}(a:HF)(b:(m==("amounts":Str))=false)(c:(m==("closed_names":Str))=false)(d:(m==("entries":Str))=false):(El a).lookup m=none:=by
 unfold El;rw[lookup_cons,b];show List.lookup m [(("closed_names":Str),V.ref a.dc),(("entries":Str),V.ref a.de)]=none;rw[lookup_cons,c];show List.lookup m [(("entries":Str),V.ref a.de)]=none;rw[lookup_cons,d];rfl
def rN(kvs:List (aR×V))(k j:aR):aQ (dJ kvs k) j=if j=k then none else aQ kvs j:=by
 induction kvs with
 | nil=>unfold dJ aQ;simp
 | cons p r a=>
  by_cases e:p.1=k
  ·rw[vJ e,a];by_cases h:j=k
   ·rw[ZQ h,ZQ h]
   ·rw[ZP h,ZP h,aY (λz=>h (z.symm.trans e))]
  ·rw[vK e];by_cases h:j=k
   ·rw[ZQ h,aY (λz=>e (z.trans h)),a,ZQ h]
   ·rw[ZP h];by_cases z:p.1=j
    ·rw[bE z,bE z]
    ·rw[aY z,aY z,a,ZP h]
section
variable {X:Cx}{e o:Expr}{es:List Expr}{m x:Str}{p pos apos:Pos}{ta:TE}{t:TA}{C:ZT}{n:Nat}{ps:List Str}{sp:Sp}{Ex:St->ZS->Option ZT->Hp->Prop}
namespace R
def jm{a ty:TE}(b:X.A.units+1<cLine)(c:XE X o a)(d:XE X e ty)(f:attributeBase o "get" X.env (eval o X.env)=eval o X.env:=by rfl)(g:(apos.endLine == pos.line)=true:=by rfl)(h:((backTo pos (starEach [e] X.env)).all (λx=>!x.1)&&(backToKw pos (keywordEach [] X.env)).all (λx=>x.1.isSome)
  && decide (([e]:List Expr).length+([]:List Keyword).length+(if ([]:List Keyword).isEmpty then 0 else 1)<30))=true:=by rfl)(i:backTo pos (starEach [e] X.env)=[(false,eval e X.env)]:=by rfl):XE X (.Call (.Attribute o "get" apos) [e] [] pos) (xX a ty):=⟨yA b c.h d.h ⟨f,h,g,i⟩⟩
end R
end
section
variable {X:Cx}{o e f:Expr}{apos cpos:Pos}{td ty tx:TE}
def R.ii{pos:Pos}:XE X (.Dict [] [] pos) xT:=⟨xV⟩
end
section
variable {X:Cx}
def nZ{a:Type}(xs:List a)(k:Nat)(x:a):List a:=xs.take k++[x]++xs.drop k
def tR:V->List V->Hp->VK->Prop:=λx vs H Q=>∃(l:ZT)(a:List V)(k:Nat)(y:V),x=.ref l/\vs=[.int (k:Int),y]/\H l=some (.lst a)/\k<=a.length/\a.length<1000/\Q .non (aJ H l (.lst (nZ a k y)))
def zT{k:Nat}(h:k<1000):¬ (!Builtin.List.listFitsIndex (k:Int))=true:=by
 have a:-(2^63)<=(k:Int):=by omega
 have b:(k:Int)<2^63:=by omega
 rw[fitsIndex_both a b];exact ZZ
def mL:∀ {xs:List V}{its:List ZS} (k:Nat),Vals xs its->Vals (xs.take k) (its.take k)
 | _,_,0,_=>by simp;exact .nil
 | _,_,k+1,.nil=>by simp;exact .nil
 | _,_,k+1,.cons h t=>by rw[List.take_succ_cons,List.take_succ_cons];exact .cons h (mL k t)
def mM:∀ {xs:List V}{its:List ZS} (k:Nat),Vals xs its->Vals (xs.drop k) (its.drop k)
 | _,_,0,h=>by simpa using h
 | _,_,k+1,.nil=>by simp;exact .nil
 | _,_,k+1,.cons h t=>by rw[List.drop_succ_cons,List.drop_succ_cons];exact mM k t
def Lq{s:ZR}{A:Around}{E:Z8}{prog:Program}{w:World}{l:ZT}{its:List ZS}{n:Nat}{k:Int}{t:Tok}{a:ZS}{Q:Z8}(e:s.heap.get? l=some {cls:=.type "list",data:=.seq its.toArray n })(f1:¬ (!Builtin.List.listFitsIndex k)=true)(f2:its.toArray.size<=sizeLine)(q:Q .none {s with heap:=s.heap.update l (Obj.mapSeq λxs=>have k:=if k<0 then (k+(xs.size:Int)).toNat else min k.toNat xs.size;(xs.extract 0 k).push a++xs.extract k),toks:=s.toks }) :
  wpAny (model prog w) A (call (.builtin "list.insert") [.ref l,.int k t,a]) Q E s:=by
 have M:=AutoSeq1.list_insert_list_int_val_1 l its.toArray n k t a f1 f2;exact call_meets PySem.F.slot_list_insert ⟨_,e,rfl⟩ PySem.F.entry_list_insert (PySem.F.args_list_insert_3 _ _ _) M ⟨e,q⟩
def vU:Oy X "list.insert" tR:=by
 intro D s G H x vs v E Q I j m h;obtain⟨l,a,k,y,rfl,rfl,c,o,p,q⟩:=h;cases j;obtain⟨F,d,rfl,u,w⟩:=m.two;obtain⟨t,rfl⟩:=u;obtain⟨z,b,n,r,f,e⟩:=I.lstM c;have g:(nZ a k y).length=a.length+1:=by unfold nZ;simp;omega
 have A:Vals (nZ a k y) (nZ b k d):=by
  unfold nZ;exact((mL k r).append (.cons w .nil)).append (mM k r)
 have i:(nZ a k y).length<=sizeLine:=cX (by rw[g];omega);refine Lq e (zT (fQ o p)) (by rw[cO,<- f];exact z) ?_;refine⟨.non,_,I.lset (its':=nZ b k d) c e ?_ A i,rfl,q⟩;have B:¬ ((k:Int)<0):=by omega
 have C:min (k:Int).toNat b.toArray.size=k:=by rw[cO,<- f];simp;omega
 simp only [B,if_false,C];unfold nZ;simp;exact lO Zs
def R.ij:XM X "list.insert" tR:=⟨vU⟩
end
section
open PySem.MeetsSeq PySem.SeqAt
def lH(l:ZT)(a:Array Value)(n:Nat)(x:ZS)(e:ZS->Bool)(j:Nat)(q:j<a.size)(u:e a[j]=true)(k:Nat)(r:a.size<=sizeLine) :
  ∀i:Nat,j-i=k->i<=j->(∀m (t:m<a.size),i<=m->m<j->e a[m]=false)->Meets (Builtin.«list.remove.loop» ⟨[.ref l,x,rawInt i],[]⟩)
   (λA R s=>s.heap.get? l=some {cls:=.type "list",dict:=none,data:=.seq a n,slots:=#[] }/\(∀y,y∈a->EqAt A.in1 s y x (e y))/\R (.ok (.ret .none)) {s with heap:=s.heap.update l (Obj.mapSeq λxs=>xs.eraseIdxIfInBounds j) }):=by
 induction k with
 | zero=>
  intro i v z o c w A R s h;obtain⟨B,g,d,tk,os⟩:=s;obtain⟨b,f,h⟩:=h;obtain rfl:i=j:=by omega
  wp_walk using AutoSeq1.wpAny_loadPart' b
  rw[show a[((i:Nat):Int).toNat]?=some a[i] by simp[q]];refine Z6 (f _ (Array.getElem_mem q) c w _ _ ?_);rw[u];have C:(a.eraseIdxIfInBounds i).size<=sizeLine+1:=eJ (size_erased a _) (le_succ_of_le r)
  wp_walk using (wpAny_updateSeq b rfl (hz:=r) (_hz':=C)),AutoSeq1.wpAny_loadPart' b
  simpa using h
 | succ k D=>
  intro i v z o c w A R s h;obtain⟨B,g,d,tk,os⟩:=s;obtain⟨b,f,h⟩:=h;have p:i<a.size:=by omega
  wp_walk using AutoSeq1.wpAny_loadPart' b
  have E:((i:Int)+1)=((i+1:Nat):Int):=by push_cast;rfl
  rw[show a[((i:Nat):Int).toNat]?=some a[i] by simp[p]];refine Z6 (f _ (Array.getElem_mem p) c w _ _ ?_);rw[o i p (bH _) Zo]
  wp_walk
  rw[E];exact⟨plainId_quiet plain_remove_loop _,codeAny_builtin entry_remove_loop (by
   rw[Around.under_plainId plain_remove_loop _];exact D (i+1) Zo Zo (λm t G F=>o m t Zo F) c w A R _ ⟨b,f,h⟩)⟩
def lI(l:ZT)(a:Array Value)(n:Nat)(x:ZS)(e:ZS->Bool)(j:Nat)(k:j<a.size)(i:e a[j]=true)(o:∀m (b:m<a.size),m<j->e a[m]=false)(p:a.size<=sizeLine) :
  Meets (Builtin.«list.remove» ⟨[.ref l,x],[]⟩)
   (λA R s=>s.heap.get? l=some {cls:=.type "list",dict:=none,data:=.seq a n,slots:=#[] }/\(∀y,y∈a->EqAt A.in1 s y x (e y))/\R (.ok (.ret .none)) {s with heap:=s.heap.update l (Obj.mapSeq λxs=>xs.eraseIdxIfInBounds j) }):=by
 intro f w A R s h;obtain⟨t,g,d,tk,os⟩:=s;obtain⟨c,q,h⟩:=h
 wp_walk using AutoSeq1.wpAny_loadPart' c
 exact⟨plainId_quiet plain_remove_loop _,codeAny_builtin entry_remove_loop (by
  rw[Around.under_plainId plain_remove_loop _];exact lH l a n x e j k i _ p 0 rfl (zero_le _) (λm b _ r=>o m b r) f w A R _ ⟨c,q,h⟩)⟩
end
def EQ(H:Hp)(u v:V):Prop:=(bU u=true/\bU v=true)∨∃b a ps c,u=.ref b/\v=.ref a/\H b=some (.tup ps)/\H a=some (.tup c)/\∀(j:Nat)(x y:V),ps[j]?=some x->c[j]?=some y->bU x=true/\bU y=true
section
variable {X:Cx}{pins:Z9}{σ:St}{H:Hp}{s:ZR}
def EQ.at{A:Around}{x y:V}{u v:ZS}(o:A.units<cLine)(I:Inv X pins σ H s)(g:RelV x u)(i:RelV y v)(h:EQ H x y):∃b,SeqAt.EqAt A s u v b:=by
 rcases h with⟨f1,f2⟩|⟨b,p,ps,a,rfl,rfl,g1,g2,q⟩
 ·exact⟨_,fV g i f1 f2⟩
 ·cases g;cases i;by_cases e:b=p
  ·subst e;exact⟨true,SeqAt.EqAt.same _⟩
  ·obtain⟨f,r,t,_⟩:=I.tuple (YU g1);obtain⟨k,w,z,_⟩:=I.tuple (YU g2);have n:∀j (c:j<f.toArray.size) (d:j<k.toArray.size),SeqAt.EqAt A.in1 s f.toArray[j] k.toArray[j] (jK (ps.getD j .non) (a.getD j .non)):=λj c d=>by
    rw[cO]at c d;obtain⟨l,B⟩:=Paired.get' (j:=j) r c;obtain⟨m,C⟩:=Paired.get' (j:=j) w d;obtain⟨f1,f2⟩:=q j ps[j] a[j] (bR l) (bR m);have D:ps.getD j .non=ps[j]:=by simp[List.getD,l]
    have E:a.getD j .non=a[j]:=by simp[List.getD,m]
    rw[D,E];simpa using fV B C f1 f2
   exact⟨_,.of_refs e (SeqAt.RcAt.tuples t z o n)⟩
def pQ{A:Around}{c a:ZT}{n m:Int}{xs ys:List V}(w:A.units+1<cLine)(I:Inv X pins σ H s)(x:c≠a)(g1:H c=some (.lst (.int n::xs)))(g2:H a=some (.lst (.int m::ys)))(y:n≠m)(M:xs.length=ys.length)(h:∀(j:Nat)(u v:V),xs[j]?=some u->ys[j]?=some v->EQ H u v):SeqAt.EqAt A s (.ref c) (.ref a) false:=by
 obtain⟨d,l,z,_⟩:=I.list (YT g1);obtain⟨f,o,B,_⟩:=I.list (YT g2);have C:d.length=xs.length+1:=l.length.symm;have N:f.length=ys.length+1:=o.length.symm;have D:d.toArray.size=f.toArray.size:=by rw[cO,cO];omega
 have t:∀j:Nat,∃b,(j=0->b=false)/\∀(i:j<d.toArray.size)(k:j<f.toArray.size),SeqAt.EqAt A.in1 s d.toArray[j] f.toArray[j] b:=λj=>by
  by_cases i:j<d.length
  ·have k:j<f.length:=by omega
   obtain⟨E,p⟩:=Paired.get' (j:=j) l i;obtain⟨F,q⟩:=Paired.get' (j:=j) o k
   cases j with
   | zero=>
    have g:=fV (A:=A.in1) (s:=s) p q rfl rfl;rw[show jK ((V.int n::xs)[0]) ((V.int m::ys)[0])=false from ZV y]at g;exact⟨false,λ_=>rfl,λ_ _=>by simpa using g⟩
   | succ j=>
    have G:RelV (xs[j]'(by simpa using E)) d[j+1]:=p;have J:RelV (ys[j]'(by simpa using F)) f[j+1]:=q;obtain⟨b,K⟩:=EQ.at (A:=A.in1) (by show A.units+1<cLine;exact w) I G J (h j _ _ (bR _) (bR _));exact⟨b,λe=>ZO e Zo,λ_ _=>by simpa using K⟩
  ·exact⟨false,λ_=>rfl,λh _=>ZO (by simpa using h) i⟩
 obtain⟨e,r⟩:=Classical.axiomOfChoice t;have g:=SeqAt.EqAt.of_refs x (SeqAt.RcAt.lists (A:=A) (s:=s) (e:=e) z.isList B.isList D Zo (λj i k=>(r j).2 i k));have L:(List.range d.toArray.size).all e=false:=by
  rw[cO,C];rw[all_eq_false];exact⟨0,mem_range.mpr Zo,by rw[(r 0).1 rfl];decide⟩
 rw[L]at g;exact g
end
def eV:V->List V->Hp->VK->Prop:=λx vs H Q=>match x,vs with
 | .ref l,[.ref a]=>∃(b:List ZT)(j:Nat),H l=some (.lst (b.map V.ref))/\b[j]?=some a/\b.Nodup ∧
  (∀c∈b,c≠a->∃n m d e,H c=some (.lst (.int n::d))/\H a=some (.lst (.int m::e))/\n≠m/\d.length=e.length/\∀(j:Nat)(u v:V),d[j]?=some u->e[j]?=some v->EQ H u v) ∧
  Q .non (aJ H l (.lst ((b.eraseIdx j).map V.ref)))
 | _,_=>False
theorem kM:∀(a:List ZT)(j:Nat),(a.eraseIdx j).map V.ref=(a.map V.ref).eraseIdx j
 | [],j=>by simp
 | s::r,0=>by simp
 | s::r,j+1=>by
  rw[eraseIdx_cons_succ,map_cons,map_cons,eraseIdx_cons_succ,kM r j]
def rO{X:Cx}(P:X.A.units+64<cLine):Oy X "list.remove" eV:=by
 intro O s Y H x vs v R Q I B i h;unfold eV at h;split at h
 ·rename_i l a;obtain⟨b,j,t,p,C,ne,q⟩:=h;cases B;obtain⟨u,rfl,D⟩:=i.one;cases D;obtain⟨E,c,n,r,F,e⟩:=I.lstM t;rw[bA]at F;have G:j<b.length:=(Zgs.mp p).1;have o:∀(m:Nat)(f:m<c.length),∃d:m<b.length,c[m]=Value.ref b[m]:=λm f=>by
   have d:m<b.length:=by omega
   have i:RelV (V.ref b[m]) (c.getD m Value.none):=fH m r (by rw[bA];exact d) _ (by rw[dH,bR d];rfl);have J:c.getD m Value.none=c[m]:=by rw[getD_eq_getElem?_getD,bR f];rfl
   rw[J]at i;exact⟨d,i⟩
  refine call_meets PySem.F.slot_list_remove ⟨_,e,rfl⟩ PySem.F.entry_list_remove (PySem.F.args_list_remove_2 _ _)
   (lI l c.toArray n (.ref a) (λy=>y==Value.ref a) j (by simp;omega) ?_ ?_ (by rw[cO];rw[bA]at E;omega)) ⟨e,?_,?_⟩
  ·obtain⟨d,g⟩:=o j Zo;simp only [getElem_toArray];rw[g,(Zgs.mp p).2];exact beq_self_eq_true _
  ·intro m f K;have L:m<c.length:=by simpa using f
   obtain⟨d,g⟩:=o m L;simp only [getElem_toArray];rw[g];refine beq_eq_false_iff_ne.mpr λh=>?_
   injection h with h
   exact(pairwise_iff_getElem.mp C) m j d G K (h.trans (Zgs.mp p).2.symm)
  ·intro y M;obtain⟨m,f,rfl⟩:=getElem_of_mem (show y∈c by simpa using M);obtain⟨d,g⟩:=o m f;rw[g];by_cases k:b[m]=a
   ·rw[k,beq_self_eq_true];exact SeqAt.EqAt.same _
   ·obtain⟨S,T,U,W,g1,g2,N,z,A⟩:=ne b[m] (getElem_mem d) k;rw[show(Value.ref b[m]==Value.ref a)=false from beq_eq_false_iff_ne.mpr λh=>k (by injection h)];exact pQ (by show X.A.units+1+1<cLine;omega) I k g1 g2 N z A
  ·have w:(b.eraseIdx j).map V.ref=(b.map V.ref).eraseIdx j:=kM b j;refine⟨.non,_,I.lset (its':=c.eraseIdx j) t e ?_ (w▸r.eraseIdx j) ?_,rfl,q⟩
   ·show c.toArray.eraseIdxIfInBounds j=(c.eraseIdx j).toArray;rw[List.eraseIdxIfInBounds_toArray]
   ·rw[w];have:=iF (b.map V.ref) j;omega
 ·exact h.elim
def R.ik{X:Cx}(a:X.A.units+64<cLine):XM X "list.remove" eV:=⟨rO a⟩
section
variable {X:Cx}
def Gx(K:W.Frag):List V->Hp->VK->Prop:=λvs H Q=>∃(p:ZT)(b:List Int),vs=[.ref p]/\SqL K H p (b.map V.int)/\0<b.length/\∀M:Int,M∈b->(∀a∈b,a<=M)->Q (.int M) H
def vV(x:X.calm=true):CallR X (.builtin "max") (Gx X.K):=by
 intro F s N H b J Q I r h;obtain⟨p,c,rfl,y,K,q⟩:=h;obtain⟨u,rfl,z⟩:=eL r;cases z;obtain⟨o,A,B,L⟩:=I.list y;have e:=jW A;obtain⟨b,f⟩:=e.allInts.items;have C:s.heap.IsList p (intItems b):=f▸B.isList;have g:c=b.toList.map (·.1):=by
  rw[<- nums_intItems,<- f];exact(show numsOf o.toArray.toList=c from e.numsOf).symm
 have G:c.length=b.size:=by rw[g];simp
 refine max_intList (I.ok.hd x) C Zo λv M tk l D=>?_;obtain⟨w,m⟩:=argBest_gt (numAt b) (b.size-1);generalize argBest (λi j=>decide (numAt b i>numAt b j)) (b.size-1)=k at l w m;obtain⟨t,rfl⟩:=intItems_at l;have d:∀j,j<c.length->numAt b j=c.getD j 0:=λj _=>by rw[numAt_eq,g]
 refine⟨.int _,H,I.kept D,⟨_,rfl⟩,q _ ?_ ?_⟩
 ·rw[d k Zo,getD_eq_getElem?_getD,bR Zo];exact getElem_mem _
 ·intro a E;obtain⟨j,n,rfl⟩:=getElem_of_mem E;have:=m j Zo;rw[d j n,getD_eq_getElem?_getD,bR n]at this;exact this
def R.io{K:W.Frag}(a:X.calm=true)(b:X.K=K:=by rfl):XC X (.builtin "max") (Gx K):=b▸⟨vV a⟩
end
inductive Dd where
 | add (a:Str) (n:Nat)
 | take (a:Str) (n:Nat)
 | move (a b:Str) (n:Nat)
 | send (h a:Str) (n:Nat)
 | fetch (h a:Str) (n:Nat)
 | pass (h g a:Str) (n:Nat)
namespace Dd
def vs:Dd->List V
 | .add a n=>[.str "add",.str a,.int (n:Int)]
 | .take a n=>[.str "take",.str a,.int (n:Int)]
 | .move a b n=>[.str "move",.str a,.str b,.int (n:Int)]
 | .send h a n=>[.str "send",.str h,.str a,.int (n:Int)]
 | .fetch h a n=>[.str "fetch",.str h,.str a,.int (n:Int)]
 | .pass h g a n=>[.str "pass",.str h,.str g,.str a,.int (n:Int)]
def n:Dd->Nat
 | .add _ n=>n|.take _ n=>n|.move _ _ n=>n|.send _ _ n=>n|.fetch _ _ n=>n|.pass _ _ _ n=>n
def far:Dd->Bool
 | .send _ _ _=>true|.fetch _ _ _=>true|.pass _ _ _ _=>true|_=>false
def Ok:Dd->Prop
 | .add a n=>bZ a/\1<=n/\n<=1000000000000
 | .take a n=>bZ a/\1<=n/\n<=1000000000000
 | .move a b n=>bZ a/\bZ b/\a≠b/\1<=n/\n<=1000000000000
 | .send h a n=>bZ h/\bZ a/\1<=n/\n<=1000000000000
 | .fetch h a n=>bZ h/\bZ a/\1<=n/\n<=1000000000000
 | .pass h g a n=>bZ h/\bZ g/\bZ a/\h≠g/\1<=n/\n<=1000000000000
def Ok.n{d:Dd}(h:d.Ok):1<=d.n/\d.n<=1000000000000:=by
 cases d<;>simp only [Ok]at h<;>simp only [Dd.n]<;>omega
def wd:Dd->Str
 | .add _ _=>"add"|.take _ _=>"take"|.move _ _ _=>"move"|.send _ _ _=>"send"|.fetch _ _ _=>"fetch"|.pass _ _ _ _=>"pass"
end Dd
inductive An where
 | is1 (m:Nat)
 | is2 (l m:Nat)
 | short (m:Nat)
 | full (m:Nat)
 | no (h:Str)
 | ok
namespace An
def vs:An->List V
 | .is1 m=>[.str "is",.int (m:Int)]
 | .is2 l m=>[.str "is",.int (l:Int),.int (m:Int)]
 | .short m=>[.str "short",.int (m:Int)]
 | .full m=>[.str "full",.int (m:Int)]
 | .no h=>[.str "no",.str h]
 | .ok=>[.str "ok"]
def early:An->Bool|.short _=>true|.full _=>true|_=>false
def Of:Dd->An->Prop
 | .add _ n,.is1 m=>n<=m/\m<=1000000000000
 | .add _ n,.full m=>1000000000000<m+n/\m<=1000000000000
 | .take _ n,.is1 m=>m+n<=1000000000000
 | .take _ n,.short m=>m<n
 | .move _ _ n,.is2 l m=>l+n<=1000000000000/\n<=m/\m<=1000000000000
 | .move _ _ n,.short m=>m<n
 | .move _ _ n,.full m=>1000000000000<m+n/\m<=1000000000000
 | .send _ _ n,.is1 m=>m+n<=1000000000000
 | .send _ _ n,.short m=>m<n
 | .send h _ _,.no g=>g=h
 | .fetch _ _ n,.is1 m=>n<=m/\m<=1000000000000
 | .fetch _ _ n,.full m=>1000000000000<m+n/\m<=1000000000000
 | .fetch h _ _,.no g=>g=h
 | .pass h g _ _,.no k=>k=h∨k=g
 | .pass _ _ _ _,.ok=>True
 | _,_=>False
end An
inductive RX where
 | next (n t:Nat)
 | has (z:Str) (m:Nat)
 | kept (n t:Nat) (p k:Str) (d:Dd) (y:An)
 | came (n t:Nat) (p k:Str) (d:Dd)
 | asked (n:Nat)
 | done (n t:Nat) (y:An)
namespace RX
def At(H:Hp)(a:ZT):RX->Prop
 | .next n t=>H a=some (.tup [.str "next",.int (n:Int),.int (t:Int)])
 | .has z m=>H a=some (.tup [.str "has",.str z,.int (m:Int)])
 | .kept n t p k d y=>∃b c,H a=some (.tup [.str "kept",.int (n:Int),.int (t:Int),.str p,.str k,.ref b,.ref c])/\H b=some (.tup d.vs)/\H c=some (.tup y.vs)
 | .came n t p k d=>∃b,H a=some (.tup [.str "came",.int (n:Int),.int (t:Int),.str p,.str k,.ref b])/\H b=some (.tup d.vs)
 | .asked n=>H a=some (.tup [.str "asked",.int (n:Int)])
 | .done n t y=>∃c,H a=some (.tup [.str "done",.int (n:Int),.int (t:Int),.ref c])/\H c=some (.tup y.vs)
def At.tk{H g:Hp}{a:ZT}{r:RX}(s:TK H g)(h:r.At H a):r.At g a:=by
 cases r with
 | next n t=>exact s _ _ h
 | has z m=>exact s _ _ h
 | kept n t p k d y=>obtain⟨b,c,e,f,i⟩:=h;exact⟨b,c,s _ _ e,s _ _ f,s _ _ i⟩
 | came n t p k d=>obtain⟨b,e,f⟩:=h;exact⟨b,s _ _ e,s _ _ f⟩
 | asked n=>exact s _ _ h
 | done n t y=>obtain⟨b,e,f⟩:=h;exact⟨b,s _ _ e,s _ _ f⟩
def Qk:List V->TV:=λa=>.tp (a.map TV.sc)
def tv:RX->TV
 | .next n t=>.tp [.sc (.str "next"),.sc (.int (n:Int)),.sc (.int (t:Int))]
 | .has z m=>.tp [.sc (.str "has"),.sc (.str z),.sc (.int (m:Int))]
 | .kept n t p k d y=>.tp [.sc (.str "kept"),.sc (.int (n:Int)),.sc (.int (t:Int)),.sc (.str p),.sc (.str k),Qk d.vs,Qk y.vs]
 | .came n t p k d=>.tp [.sc (.str "came"),.sc (.int (n:Int)),.sc (.int (t:Int)),.sc (.str p),.sc (.str k),Qk d.vs]
 | .asked n=>.tp [.sc (.str "asked"),.sc (.int (n:Int))]
 | .done n t y=>.tp [.sc (.str "done"),.sc (.int (n:Int)),.sc (.int (t:Int)),Qk y.vs]
def gX{H:Hp}{b:ZT}{xs:List V}(g:H b=some (.tup xs))(d:∀x∈xs,fY x=true):Rep H 1 (Qk xs) (.ref b):=by
 refine⟨b,xs,rfl,g,?_⟩
 induction xs with
 | nil=>exact .nil
 | cons x xs e=>
  clear g;refine .cons ⟨rfl,d x dI⟩ ?_;have:∀(a:List V),(∀y∈a,fY y=true)->Paired (Rep H 0) (a.map TV.sc) a:=λa h=>by
   induction a with
   | nil=>exact .nil
   | cons y a e=>exact .cons ⟨rfl,h y dI⟩ (e λz c=>h z (jE _ c))
  exact this xs λz c=>d z (jE _ c)
def Gy(d:Dd):∀x∈d.vs,fY x=true:=by
 intro x a;cases d<;>simp only [Dd.vs,mem_cons,ZJ,or_false]at a<;>rcases a with rfl|rfl|rfl|rfl|rfl<;>rfl
def Gz(y:An):∀x∈y.vs,fY x=true:=by
 intro x a;cases y<;>simp only [An.vs,mem_cons,ZJ,or_false]at a<;>rcases a with rfl|rfl|rfl|rfl|rfl<;>rfl
def At.rep{H:Hp}{a:ZT}{r:RX}(h:r.At H a):Rep H 2 r.tv (.ref a):=by
 cases r with
 | next n t=>exact⟨a,_,rfl,h,.cons ⟨rfl,rfl⟩ (.cons ⟨rfl,rfl⟩ (.cons ⟨rfl,rfl⟩ .nil))⟩
 | has z m=>exact⟨a,_,rfl,h,.cons ⟨rfl,rfl⟩ (.cons ⟨rfl,rfl⟩ (.cons ⟨rfl,rfl⟩ .nil))⟩
 | kept n t p k d y=>
  obtain⟨b,c,e,f,g⟩:=h;exact⟨a,_,rfl,e,.cons ⟨rfl,rfl⟩ (.cons ⟨rfl,rfl⟩ (.cons ⟨rfl,rfl⟩ (.cons ⟨rfl,rfl⟩ (.cons ⟨rfl,rfl⟩ (.cons (gX f (Gy d)) (.cons (gX g (Gz y)) .nil))))))⟩
 | came n t p k d=>
  obtain⟨b,e,f⟩:=h;exact⟨a,_,rfl,e,.cons ⟨rfl,rfl⟩ (.cons ⟨rfl,rfl⟩ (.cons ⟨rfl,rfl⟩ (.cons ⟨rfl,rfl⟩ (.cons ⟨rfl,rfl⟩ (.cons (gX f (Gy d)) .nil)))))⟩
 | asked n=>exact⟨a,_,rfl,h,.cons ⟨rfl,rfl⟩ (.cons ⟨rfl,rfl⟩ .nil)⟩
 | done n t y=>
  obtain⟨b,e,f⟩:=h;exact⟨a,_,rfl,e,.cons ⟨rfl,rfl⟩ (.cons ⟨rfl,rfl⟩ (.cons ⟨rfl,rfl⟩ (.cons (gX f (Gz y)) .nil)))⟩
def rank:RX->Nat|.next _ _=>0|.has _ _=>1|.kept _ _ _ _ _ _=>2|_=>3
def turn:RX->Nat|.next _ t=>t|.came _ t _ _ _=>t|.done _ t _=>t|_=>0
def Te(a:List RX):RX->Prop
 | .next _ _=>a=[]
 | .has z _=>(∀q∈a,rank q<=1)/\(∃n t,.next n t∈a)/\∀j m,.has j m∈a->j.cps.toList<z.cps.toList
 | .kept n t _ _ d y=>(∀q∈a,rank q<=2)/\(∃l h,.next l h∈a/\n<l/\t<=h)/\(∀b c e f g i,.kept b c e f g i∈a->b<n)/\An.Of d y
 | .came n t _ _ _=>(∀b c e f g,.came b c e f g∈a->b<n)/\(∀c e f g i,.kept n c e f g i∉a)/\∀q∈a,turn q<=t
 | .asked n=>(∃t p k d,.came n t p k d∈a/\d.far=true)/\.asked n∉a/\∀t y,.done n t y∉a
 | .done n t y=>(∀q∈a,turn q<=t)/\(∀t y,.done n t y∉a)/\∃h p k d,.came n h p k d∈a/\An.Of d y/\(d.far=true->(.asked n∈a↔y.early=false))
inductive Whole:List RX->Prop
 | nil:Whole []
 | snoc {rs:List RX}{r:RX}:Whole rs->Te rs r->Whole (rs++[r])
def Ok:RX->Prop
 | .next n t=>1<=n/\n<=1000000/\t<=1000000000000
 | .has z m=>bZ z/\1<=m/\m<=1000000000000
 | .kept n t p k d y=>1<=n/\n<=999999/\t<=1000000000000/\bZ p/\iN k/\d.Ok/\An.Of d y
 | .came n t p k d=>1<=n/\n<=999999/\t<=1000000000000/\bZ p/\iN k/\d.Ok
 | .asked n=>1<=n/\n<=999999
 | .done n t _=>1<=n/\n<=999999/\t<=1000000000000
end RX
structure RxsAt(H:Hp)(ra:ZT)(rs:List RX)(as:List ZT):Prop where
 lst:H ra=some (.lst (as.map V.ref))
 each:Paired (λr a=>RX.At H a r) rs as
def RxsAt.len{H:Hp}{c:ZT}{a:List RX}{b:List ZT}(h:RxsAt H c a b):a.length=b.length:=h.each.length
def RxsAt.keep{H a:Hp}{b:ZT}{d:List RX}{c:List ZT}(h:RxsAt H b d c)(s:TK H a)(e:a b=some (.lst (c.map V.ref))):RxsAt a b d c:=⟨e,Paired.map' (λ_ _ x=>x.tk s) h.each⟩
def RxsAt.same{H a:Hp}{b:ZT}{c:List RX}{d:List ZT}(h:RxsAt H b c d)(s:Same H a):RxsAt a b c d:=h.keep s.tk (s _ _ h.lst)
def RxsAt.snoc{H b:Hp}{c:ZT}{f:List RX}{d:List ZT}{r:RX}{a:ZT}(h:RxsAt H c f d)(s:TK H b)(g:r.At b a)(e:b c=some (.lst (d.map V.ref++[.ref a]))):RxsAt b c (f++[r]) (d++[a]):=
 ⟨by rw[e,eF];rfl,Paired.snoc (Paired.map' (λ_ _ x=>x.tk s) h.each) g⟩
def RxsAt.get{H:Hp}{g:ZT}{c:List RX}{b:List ZT}(h:RxsAt H g c b){i:Nat}{v:V}(e:(b.map V.ref)[i]?=some v):∃(a:ZT)(r:RX),v=.ref a/\b[i]?=some a/\c[i]?=some r/\r.At H a:=by
 rw[dH]at e;cases d:b[i]? with
 | none=>rw[d]at e;cases e
 | some a=>
  rw[d]at e;cases e;obtain⟨k,l⟩:=Zgs.mp d;obtain⟨m,f⟩:=Paired.get' (j:=i) h.each k;rw[l]at f;exact⟨a,c[i],rfl,rfl,bR m,f⟩
def RxsAt.rep{H:Hp}{d:ZT}{b:List RX}{c:List ZT}(h:RxsAt H d b c):Rep H 3 (.ls (b.map RX.tv)) (.ref d):=by
 refine⟨d,_,rfl,h.lst,?_⟩;have:∀ {b:List RX}{c:List ZT},Paired (λr a=>RX.At H a r) b c->Paired (Rep H 2) (b.map RX.tv) (c.map V.ref):=by
  intro b c p;induction p with
  | nil=>exact .nil
  | cons h t e=>exact .cons h.rep e
 exact this h.each
def En(l:List Stmt)(i:Nat):Stmt:=l.getD i (.Pass ⟨0,0,0,0⟩)
def Ud:Stmt->List Stmt|.If _ a _ _=>a|_=>[]
def Ue:Stmt->List Stmt|.If _ _ b _=>b|_=>[]
def Tx:Stmt->List Stmt|.For _ _ a _ _=>a|.While _ a _ _=>a|_=>[]
def aN{t u:TS}{D:iC}{c:St}{H:Hp}(R:St->Hp->Prop)(h:∀nx:St->Hp->Prop,(∀ a b,R a b->nx a b)->t {D with nx:=nx } c H)(d:∀ a b,R a b->u D a b):qK t u D c H:=h (u D) d
def kN{c:TT}{t u:TS}{D:iC}{d:St}{H:Hp}(R:Bool->Hp->Prop)(h:∀k:Bool->Hp->Prop,(∀v a,R v a->k v a)->c d H k)(f:∀a,R true a->t D d a)(g:∀a,R false a->u D d a):uQ c t u D d H:=
 h (λb e=>if b=true then t D d e else u D d e) λv a r=>match v,r with|true,r=>f a r|false,r=>g a r
def gA{c:TT}{t u x:TS}{D:iC}{d:St}{H:Hp}(R:Bool->Hp->Prop)(h:∀k:Bool->Hp->Prop,(∀v a,R v a->k v a)->c d H k)(f:∀a,R true a->t {D with nx:=x D } d a)(g:∀a,R false a->u {D with nx:=x D } d a):qK (uQ c t u) x D d H:=
 h (λb e=>if b=true then t {D with nx:=x D } d e else u {D with nx:=x D } d e) λv a r=>match v,r with|true,r=>f a r|false,r=>g a r
section
variable {X:Cx}
def Lr(b:Bool):R2:=λx y H Q=>mR y λa=>∃o,DGet H a x o/\Q (.bl (if b then !o.isSome else o.isSome)) H
def Ls(b:Bool)(d:X.A.units+1<cLine):OpR X (compareOp (if b then .NotIn else .In)) (Lr b):=by
 intro j s k H x y v u Q I e f h;unfold Lr at h;rw[cD]at h;obtain⟨a,rfl,o,g,q⟩:=h;cases f;cases b
 ·exact Pa d I g e λi c=>⟨.bl _,H,c,rfl,q⟩
 ·exact sV d I g e λi c=>⟨.bl _,H,c,rfl,q⟩
def R.ip(a:X.A.units+1<cLine):eI X (compareOp .In) (Lr false):=⟨Ls false a⟩
end
def cK(xs ys:List V):Prop:=∀(j:Nat)(u v:V),xs[j]?=some u->ys[j]?=some v->bU u=true/\bU v=true
def gB{xs:List V}(h:cK xs xs):bV xs xs=true:=by
 unfold bV;rw[Bool.and_eq_true_iff];refine⟨all_eq_true.mpr λj a=>?_,Zs⟩;have a:j<xs.length:=by simpa using a
 have e:xs.getD j .non=xs[j]:=by simp[List.getD,a]
 rw[e];have:=(h j xs[j] xs[j] (bR a) (bR a)).1;generalize xs[j]=v at this;cases v<;>first|exact ZO (show false=true from this) ZZ|simp[jK]
section
variable {X:Cx}
def pR{p:Z9}{s:ZR}{G:St}{H:Hp}{a b:ZT}{xs ys:List V}(I:Inv X p G H s)(J:X.A.units+64<cLine)(g1:H a=some (.tup xs))(g2:H b=some (.tup ys))(k:cK xs ys):SeqAt.EqAt X.A.in1 s (.ref a) (.ref b) (bV xs ys):=by
 by_cases e:a=b
 ·subst e;rw[g1]at g2;cases g2;rw[gB k];exact SeqAt.EqAt.same _
 ·obtain⟨c,l,t,_⟩:=I.tuple (YU g1);obtain⟨d,m,u,_⟩:=I.tuple (YU g2);have v:c.length=xs.length:=l.length.symm;have x:d.length=ys.length:=m.length.symm;have q:∀j (f:j<c.toArray.size) (g:j<d.toArray.size),SeqAt.EqAt X.A.in1.in1 s c.toArray[j] d.toArray[j] (jK (xs.getD j .non) (ys.getD j .non)):=λj f g=>by
   rw[cO]at f g;obtain⟨n,y⟩:=Paired.get' (j:=j) l f;obtain⟨o,B⟩:=Paired.get' (j:=j) m g;obtain⟨f1,f2⟩:=k j xs[j] ys[j] (bR n) (bR o);have C:xs.getD j .non=xs[j]:=by simp[List.getD,n]
   have D:ys.getD j .non=ys[j]:=by simp[List.getD,o]
   rw[C,D];simpa using fV y B f1 f2
  have e:((List.range (min c.toArray.size d.toArray.size)).all (λj=>jK (xs.getD j .non) (ys.getD j .non))&&c.toArray.size==d.toArray.size)=bV xs ys:=by
   rw[cO,cO,v,x];rfl
  have i:=SeqAt.RcAt.tuples (A:=X.A.in1) (s:=s) t u (by rw[mJ];omega) q;rw[e]at i;intro r w E Q h;unfold eqBool;refine wpAny_holding ?_;refine wpAny_ite_split (λF=>ZO (eq_of_beq F) (λz=>by cases z;contradiction)) (λ_=>?_);exact Z6 (i r w E _ (wpAny_truthy_bool h))
def vW(xs:List V)(a:List (ZT×List V)):Bool:=a.any λz=>bV z.2 xs
def Lu(d:Bool):R2:=λx y H Q=>mR x λa=>mR y λp=>∃(b:List V)(c:List (ZT×List V)),H a=some (.tup b)/\H p=some (.lst (c.map λz=>V.ref z.1))/\(∀z∈c,H z.1=some (.tup z.2)/\cK z.2 b)/\Q (.bl (if d then !vW b c else vW b c)) H
def Ql(H:Hp)(xs:List V)(v:ZS):Bool:=match v with|.ref b=>(match H b with|some (.tup a)=>bV a xs|_=>false)|_=>false
def zU{H:Hp}{xs ys:List V}{b:ZT}(g:H b=some (.tup ys)):Ql H xs (.ref b)=bV ys xs:=by unfold Ql;dsimp only;rw[g]
def rP{a:List (ZT×List V)}:∀ {us:List ZS},Vals (a.map λz=>V.ref z.1) us->us=a.map λz=>Value.ref z.1:=by
 induction a with
 | nil=>intro us r;cases r;rfl
 | cons z a b=>intro us r;cases r with|cons r t=>rw[b t];cases r;rfl
def Lv(f:Bool)(n:X.A.units+64<cLine):OpR X (compareOp (if f then .NotIn else .In)) (Lu f):=by
  intro C s D H x y v u Q I o t h;unfold Lu at h;rw[cD]at h;obtain⟨a,rfl,h⟩:=h;rw[cD]at h;obtain⟨p,rfl,d,b,g1,g2,c,q⟩:=h;cases o;cases t;obtain⟨g,r,j,_⟩:=I.list (YT g2);have k:=rP r;have l:∀w,w∈g.toArray->SeqAt.EqAt X.A.in1 s w (.ref a) (Ql H d w):=λw e=>by
    have e:w∈g:=by simpa using e
    rw[k]at e;obtain⟨z,i,rfl⟩:=Zmm.mp e;rw[zU (c z i).1];exact pR I n (c z i).1 g1 (c z i).2
  have m:g.toArray.any (Ql H d)=vW d b:=by
    rw[k];unfold vW;rw[List.any_toArray,List.any_map];have:∀b:List (ZT×List V),(∀z∈b,H z.1=some (.tup z.2)/\cK z.2 d)->b.any (Ql H d∘λz=>Value.ref z.1)=b.any λz=>bV z.2 d:=λb c=>by
     induction b with
     | nil=>rfl
     | cons z b A=>
      rw[any_cons,any_cons,A λy B=>c y (jE _ B)]
      congr 1
      exact zU (c z dI).1
    exact this b c
  cases f
  . refine SeqAt.in_listAt _ j.isList l ⟨.bl _,H,I,rfl,?_⟩
    rw[m];exact q
  . refine SeqAt.notIn_listAt _ j.isList l ⟨.bl _,H,I,rfl,?_⟩
    rw[m];exact q
def R.iq(a:X.A.units+64<cLine):eI X (compareOp .In) (Lu false):=⟨Lv false a⟩
end
def No:Option (ZT×List V)->V|none=>.non|some q=>.ref q.1
def qI(o:Option (ZT×List V))(ys:List V):Bool:=match o with|none=>false|some q=>bV q.2 ys
def Eo(H:Hp)(o:Option (ZT×List V))(ys:List V):Prop:=∀q,o=some q->H q.1=some (.tup q.2)/\cK q.2 ys
section
variable {X:Cx}
def Ep(c:Bool):R2:=λx y H Q=>mR y λb=>∃(o:Option (ZT×List V))(a:List V),x=No o/\Eo H o a/\H b=some (.tup a)/\Q (.bl (if c then !qI o a else qI o a)) H
def zV(a:Bool)(g:X.A.units+64<cLine):OpR X (compareOp (if a then .NotEq else .Eq)) (Ep a):=by
 intro f s k H x y v u Q I c d h;unfold Ep at h;rw[cD]at h;obtain⟨b,rfl,o,m,rfl,i,g2,q⟩:=h
 cases o with
 | some z=>
  obtain⟨g1,j⟩:=i z rfl;refine zN a g f s k H _ _ v u Q I c d ?_;exact⟨_,_,g1,g2,j,q⟩
 | none=>
  cases c;cases d;obtain⟨l,n,e,_⟩:=I.tuple (YU g2)
  cases a with
  | true=>exact SeqAt.RcNeAt.none_tuple (A:=X.A) (s:=s) e Zo _ _ _ _ ⟨.bl _,H,I,rfl,q⟩
  | false=>exact SeqAt.RcAt.none_tuple (A:=X.A) (s:=s) e Zo _ _ _ _ ⟨.bl _,H,I,rfl,q⟩
def R.ir(a:X.A.units+64<cLine):eI X (compareOp .Eq) (Ep false):=⟨zV false a⟩
def R.iw(a:X.A.units+64<cLine):eI X (compareOp .NotEq) (Ep true):=⟨zV true a⟩
abbrev Rq:=Option (ZT×Option (ZT×List V)×Str)
def zW:Rq->V|none=>.non|some q=>.ref q.1
def Er(o:Rq)(ys:List V)(w:Str):Bool:=match o with|none=>false|some q=>qI q.2.1 ys&&decide (q.2.2=w)
def Lw:R2:=λx y H Q=>mR y λb=>∃(o:Rq)(c:ZT)(a:List V)(w:Str),x=zW o/\(∀q,o=some q->H q.1=some (.tup [No q.2.1,.str q.2.2])/\Eo H q.2.1 a)/\H b=some (.tup [.ref c,.str w])/\H c=some (.tup a)/\Q (.bl (Er o a w)) H
def Lx(C:X.A.units+64<cLine):OpR X (compareOp .Eq) Lw:=by
 intro P s U H x y v u Q I l m h;unfold Lw at h;rw[cD]at h;obtain⟨b,rfl,o,c,d,w,rfl,D,g2,n,q⟩:=h
 cases o with
 | none=>
  cases l;cases m;obtain⟨t,g,k,_⟩:=I.tuple (YU g2);exact SeqAt.RcAt.none_tuple (A:=X.A) (s:=s) k Zo _ _ _ _ ⟨.bl _,H,I,rfl,q⟩
 | some z=>
  obtain⟨a,o,f⟩:=z;obtain⟨g1,E⟩:=D _ rfl;cases l;cases m;obtain⟨t,g,k,_⟩:=I.tuple (YU g1);obtain⟨R,i,F,_⟩:=I.tuple (YU g2)
  cases g with
  | cons p g=>cases g with
  | cons G g=>cases g with
  | nil=>cases i with
  | cons J i=>cases i with
  | cons K i=>cases i with
  | nil=>
  have B:=SeqAt.RcAt.tuples (A:=X.A) (s:=s) (e:=λj=>if j=0 then qI o d else decide (f=w)) k F Zo (λj L M=>?_)
  ·have e:((List.range (min 2 2)).all (λj=>if j=0 then qI o d else decide (f=w))&&2==2)=Er (some (a,o,f)) d w:=by
    show((List.range 2).all _&&true)=(qI o d&&decide (f=w));simp[List.range,List.range.loop]
   have r:=B;rw[show((List.range (min (toArray [_,_]).size (toArray [_,_]).size)).all (λj=>if j=0 then qI o d else decide (f=w))&&(toArray [_,_]).size==(toArray [_,_]).size)=Er (some (a,o,f)) d w from e]at r;exact r _ _ _ _ ⟨.bl _,H,I,rfl,q⟩
  ·match j,L,M with
   | 0,_,_=>
    show SeqAt.EqAt X.A.in1 s _ _ (qI o d);cases J
    cases o with
    | none=>
     cases p;obtain⟨S,T,N,_⟩:=I.tuple (YU n);exact SeqAt.EqAt.none_tuple N (by rw[mJ];omega)
    | some z=>
     cases p;obtain⟨g3,O⟩:=E z rfl;exact pR I C g3 n O
   | 1,_,_=>
    show SeqAt.EqAt X.A.in1 s _ _ (decide (f=w));have:=fV (A:=X.A.in1) (s:=s) G K rfl rfl;exact this
def zX:R2:=λx y H Q=>mB x λp=>mB y λq=>Q (.int (b2i p+b2i q)) H
def Es:OpR X (binaryOp .Add) zX:=by
 intro c s d H x y v u Q I a b h;unfold zX at h;rw[lY]at h;obtain⟨p,rfl,h⟩:=h;rw[lY]at h;obtain⟨q,rfl,h⟩:=h;cases a;cases b;exact add_bool ⟨.int (b2i p+b2i q),H,I.tok _,⟨_,rfl⟩,h⟩
def R.iy:eI X (binaryOp .Add) zX:=⟨Es⟩
def R.iz(a:X.A.units+64<cLine):eI X (compareOp .Eq) Lw:=⟨Lx a⟩
end
open AutoSeq1 (wpAny_loadPart')
def jI(l:ZT)(e:Array Value)(n:Nat)(dct:Option ZT)(sl:Array (Option ZS)) :
  Meets (Builtin.«enumerate.__new__» ⟨[.type "enumerate",.ref l],[]⟩) (λ_ R s=>s.heap.get? l=some {cls:=.type "tuple",dict:=dct,data:=.seq e n,slots:=sl } ∧
   R (.ok (.ret (.ref (s.heap.push {cls:=.type "tuple_iterator",data:=.fields #[.ref l,.int 0 0] }).objs.size)))
    {s with heap:=(s.heap.push {cls:=.type "tuple_iterator",data:=.fields #[.ref l,.int 0 0] }).push {cls:=.type "enumerate",data:=.fields #[.none,.bool false,.ref s.heap.objs.size,rawInt 0,.none,.none] } }):=
 .of_wp λi w A R s h=>by
  obtain⟨f,g,d,tk,os⟩:=s;obtain⟨a,h⟩:=h;have j:=sub_enumerate;have b:Heap.IsTuple (Shared.heap ⟨f,g,d,tk,os⟩) l e:=⟨_,a,rfl,n,rfl⟩
  wp_walk using wpAny_loadPart' a
  refine wpAny_stack_any λst=>Z5 ?_;split
  ·rename_i c _ _ _ _ _;cases(c==Value.type "enumerate")
   ·wp_walk using wpAny_loadPart' a,wpAny_pyIter_tuple b
    exact⟨_,rfl,h⟩
   ·wp_walk using wpAny_loadPart' a,wpAny_pyIter_tuple b
    exact⟨_,rfl,h⟩
  ·wp_walk using wpAny_loadPart' a,wpAny_pyIter_tuple b
   exact⟨_,rfl,h⟩
section
variable {prog:Program}{w:World}{A:Around}{E:Z8}{s:ZR}
def Et{J:Heap->Prop}{e it:ZT}{i:Nat}{x j:ZS}{Q:Z8}(q:IsEnum s.heap e it i j)(S:it≠e)(r:∀h h',J h->Heap.ExtBut e h h'->J h')(T:∀h o,J h->J (h.push o))(U:∀(V:Around)(W:Z8)(H:Z8),(∀c,J c->Heap.SameBut it s.heap c->H x {s with heap:=c })->wpAny (model prog w) V (Builtin.SmallTypes.nextOf (.ref it)) H W s)(a0:∀h',IsEnumOut h' e it ((i:Int)+1) x s.heap.objs.size->J h'->h'.get? s.heap.objs.size=some {cls:=.type "tuple",data:=.seq #[.int i s.toks,x] }->h'.objs.size=s.heap.objs.size+1 →
   (∀b o,b≠e->b≠it->s.heap.get? b=some o->h'.get? b=some o)->Q (.ref s.heap.objs.size) {s with heap:=h',toks:=s.toks+1 }) :
  wpAny (model prog w) A (Builtin.«enumerate.__next__» ⟨[.ref e],[]⟩) (λfin X=>∃v,fin=.done (.ret v)/\Q v X) E s:=by
 obtain⟨f,g,d,tk,os⟩:=s;have lt:e<f.objs.size:=Heap.lt_size q;show wpAny _ _ (field (.ref e) 2>>=_) _ _ _;refine Z6 (wpAny_field q rfl (x:=.ref it) rfl (Z6 (U _ _ _ λc Y Z=>?_)));have u:Heap.SameBut it f c:=Z;have y:IsEnum c e it i j:=(u.2 e S.symm).trans q;show wpAny _ _ (field (.ref e) 3>>=_) _ _ ⟨c,g,d,tk,os⟩;refine Z6 (wpAny_field y rfl (x:=rawInt i) rfl ?_);show wpAny _ _ (field (.ref e) 4>>=_) _ _ ⟨c,g,d,tk,os⟩;refine Z6 (wpAny_field y rfl (x:=.none) rfl ?_);show wpAny _ _ (mkInt i>>=_) _ _ ⟨c,g,d,tk,os⟩;refine Z6 (wpAny_mkInt ?_);show wpAny _ _ (setField (.ref e) 3 (rawInt ((i:Int)+1))>>=λ_=>setField (.ref e) 4 .none>>=_) _ _ ⟨c,g,d,tk+1,os⟩;refine Z6 (wpAny_setField_rec y Zs λz (e2:IsEnum z e it ((i:Int)+1) j) (B:Heap.SameBut e c z)=>Z6 (wpAny_setField_rec e2 Zs λa (e3:IsEnum a e it ((i:Int)+1) j) (C:Heap.SameBut e z a)=>?_));show wpAny _ _ (newTuple [.int i tk,x]>>=λt=>Builtin.SmallTypes.ownedTupleIsFree (.ref e)>>=_) _ _ ⟨a,g,d,tk+1,os⟩;refine Z6 (wpAny_newTuple ?_);have D:a.objs.size=f.objs.size:=by rw[C.1,B.1,u.1]
 have k3:∀b o,b≠e->b≠it->f.get? b=some o->a.get? b=some o:=λb o n m h=>C.extBut b o n (B.extBut b o n (u.extBut b o m h))
 have I:=T a {cls:=.type "tuple",data:=.seq #[.int i tk,x] } (r _ _ (r _ _ Y B.extBut) C.extBut);have k:IsEnum (a.push {cls:=.type "tuple",data:=.seq #[.int i tk,x] }) e it ((i:Int)+1) j:=fB _ e3;have K:(a.push {cls:=.type "tuple",data:=.seq #[.int i tk,x] }).get? f.objs.size=some {cls:=.type "tuple",data:=.seq #[.int i tk,x] }:=by rw[<- D];exact ZU _ rfl
 have L:(a.push {cls:=.type "tuple",data:=.seq #[.int i tk,x] }).objs.size=f.objs.size+1:=by rw[Heap.size_push,D]
 have M:∀b o,b≠e->b≠it->f.get? b=some o->(a.push {cls:=.type "tuple",data:=.seq #[.int i tk,x] }).get? b=some o:=λb o n m h=>fB _ (k3 b o n m h)
 rw[D];show wpAny _ _ (Builtin.SmallTypes.ownedTupleIsFree (.ref e)>>=_) _ _ ⟨a.push {cls:=.type "tuple",data:=.seq #[.int i tk,x] },g,d,tk+1,os⟩;generalize a.push {cls:=.type "tuple",data:=.seq #[.int i tk,x] }=N at I k K L M;unfold Builtin.SmallTypes.ownedTupleIsFree;refine Z6 (Z6 (wpAny_field k rfl (x:=.none) rfl (Z5 ?_)));simp only [if_true];refine Z6 (wpAny_rule (Z6 (wpAny_field k rfl (x:=j) rfl (Z6 (wpAny_setField_rec k Zs λl (e5:IsEnum l e it ((i:Int)+1) x) (O:Heap.SameBut e N l)=>?_)))));show wpAny _ _ (Builtin.SmallTypes.ownedTupleHandOut (.ref e) (.ref f.objs.size)>>=_) _ _ ⟨l,g,d,tk+1,os⟩;unfold Builtin.SmallTypes.ownedTupleHandOut;refine Z6 (Z6 (wpAny_setField_rec e5 Zs λF (e6:IsEnumOut F e it ((i:Int)+1) x f.objs.size) (P:Heap.SameBut e l F)=>wpAny_setField_rec e6 Zs λp (e7:IsEnumOut p e it ((i:Int)+1) x f.objs.size) (R:Heap.SameBut e F p)=>?_));have G:∀b o,b≠e->N.get? b=some o->p.get? b=some o:=λb o n h=>R.extBut b o n (P.extBut b o n (O.extBut b o n h))
 exact Z6 (wpAny_letGo (Z5 ⟨_,rfl,a0 p e7 (r _ _ I G) (G _ _ (ne_of_gt lt) K) (by rw[R.1,P.1,O.1,L]) λb o n m h=>G b o n (M b o n m h)⟩))
def gY{e it l:ZT}{i:Nat}{f:Array Value}{x q:ZS}{Q:Option ZS->ZR->Prop}(m:IsEnum s.heap e it i q)(r:ItAt false s.heap it l i)(t:s.heap.IsTuple l f)(u:f[i]?=some x)(n:e≠it)(v:∀h',IsEnumOut h' e it ((i:Int)+1) x s.heap.objs.size->ItAt false h' it l (i+1)->h'.get? s.heap.objs.size=some {cls:=.type "tuple",data:=.seq #[.int i s.toks,x] }->h'.objs.size=s.heap.objs.size+1 →
   (∀b o,b≠e->b≠it->s.heap.get? b=some o->h'.get? b=some o)->Q (some (.ref s.heap.objs.size)) {s with heap:=h',toks:=s.toks+1 }):wpAny (model prog w) A (pyNext (.ref e)) Q E s:=by
 have p:s.TypeIs (.ref e) "enumerate":=⟨_,m,rfl⟩;unfold pyNext;refine Z6 (wpAny_attempt (wpAny_callSpecial?_slot (name:=Str.ofString "__next__") p F.slot_enumerate_next (wpAny_call_entry F.slot_enumerate_next p F.entry_enumerate_next ?_ (F.args_enumerate_next_1 _))));exact Et (J:=λh=>ItAt false h it l (i+1)) m n.symm (λh h' j c=>j.by λo g=>c _ _ n.symm g) (λh o j=>j.by λo g=>fB _ g) (λy z B h=>Ei r (show tP false _ l f from t) u h) λh' a b c d k=>Z5 (v h' a b c d k)
def iO{e it l:ZT}{i:Nat}{a:Array Value}{g:ZS}{Q:Option ZS->ZR->Prop}(j:A.handled=none)(d:IsEnum s.heap e it i g)(h:ItAt false s.heap it l i)(k:s.heap.IsTuple l a)(m:a[i]?=none)(n:∀h',Heap.ExtBut it s.heap h'->Q none {s with heap:=h' }):wpAny (model prog w) A (pyNext (.ref e)) Q E s:=by
 have f:s.TypeIs (.ref e) "enumerate":=⟨_,d,rfl⟩;unfold pyNext;refine Z6 (wpAny_attempt (wpAny_callSpecial?_slot (name:=Str.ofString "__next__") f F.slot_enumerate_next (wpAny_call_entry F.slot_enumerate_next f F.entry_enumerate_next ?_ (F.args_enumerate_next_1 _))));show wpAny _ _ (field (.ref e) 2>>=_) _ _ _;refine Z6 (wpAny_field d rfl (x:=.ref it) rfl (Z6 (Lk j h (show tP false _ l a from k) m ?_)));rintro h' x c ⟨o,p,q⟩;exact Z6 (wpAny_isInstance (T:="StopIteration") (b:=true) ⟨o,p,q⟩ isSubtype_stop (Z5 (n _ c)))
def lJ{l:ZT}{a:Array Value}{Q:Z8}(i:s.heap.IsTuple l a)(h:∀h',IsEnum h' (s.heap.objs.size+1) s.heap.objs.size 0 .none->ItAt false h' s.heap.objs.size l 0->h'.objs.size=s.heap.objs.size+2 →
   (∀b o,s.heap.get? b=some o->h'.get? b=some o)->Q (.ref (s.heap.objs.size+1)) {s with heap:=h' }) :
  wpAny (model prog w) A (call (.type "enumerate") [.ref l]) Q E s:=by
 obtain⟨⟨c,dct,j,sl⟩,k,d,n,e⟩:=i;replace d:c=.type "tuple":=d;replace e:j=.seq a n:=e;subst d e;refine callType_new F.called_enumerate Zd (F.typeCall_enumerate_1 _) (F.newCall_enumerate_1 _) (λobj=>F.args_object_init_2 obj _) F.entry_enumerate_new
  (jI l a n dct sl) ⟨k,?_⟩
 have f:(s.heap.push {cls:=.type "tuple_iterator",data:=.fields #[.ref l,.int 0 0] }).objs.size=s.heap.objs.size+1:=Heap.size_push ..;show _/\_;rw[f];have g:IsEnum ((s.heap.push {cls:=.type "tuple_iterator",data:=.fields #[.ref l,.int 0 0] }).push
   {cls:=.type "enumerate",data:=.fields #[.none,.bool false,.ref s.heap.objs.size,rawInt 0,.none,.none] }) (s.heap.objs.size+1) s.heap.objs.size 0 .none:=by
  have:=ZU (s.heap.push {cls:=.type "tuple_iterator",data:=.fields #[.ref l,.int 0 0] })
   (o:={cls:=.type "enumerate",data:=.fields #[.none,.bool false,.ref s.heap.objs.size,rawInt 0,.none,.none] }) rfl
  rw[f]at this;exact this
 refine⟨⟨_,g,rfl⟩,h _ g ⟨_,fB _ (ZU _ rfl),rfl,rfl⟩ (by rw[Heap.size_push,f]) λb o x=>fB _ (fB _ x)⟩
end
def vX(K:W.Frag)(a:ZT):It:=
  ⟨λi H=>∃b x,SqT K H a b/\b[i]?=some x,
   λi H v c=>∃t x,H t=none/\v=.ref t/\c=aJ H t (.tup [.int i,x])/\∀b,SqT K H a b->b[i]?=some x,
   λi H=>∃b,SqT K H a b/\b.length<=i⟩
structure Tf(h:Heap)(e it a:ZT)(i:Nat):Prop where
 e:∃old,IsEnum h e it i old
 i:ItAt false h it a i
def rQ{P:Program}{w:World}{K:W.Frag}{Q:List Expr}{n:Nat}{pos:Pos}{e it a:ZT}(G:e≠it)(Xk:a≠e)(Xl:a≠it) :
  qL P w K (.Tuple Q n pos) (vX K a) [e,it] e (λi h=>Tf h e it a i) where
 mem:=by simp
 obj:=λi h st b c=>by
  obtain⟨f,d⟩:=st.e;obtain⟨j,k,_,R⟩:=st.i;simp only [mem_cons,ZJ,or_false]at c;rcases c with rfl|rfl
  ·exact⟨_,d,λv q=>by have S:Data.fields _=Data.cell v:=q;cases S⟩
  ·exact⟨_,k,λv q=>by rw[R]at q;cases q⟩
 keep:=λi h h' st g=>by
  obtain⟨f,d⟩:=st.e;obtain⟨j,k,a0⟩:=st.i;exact⟨⟨f,g e Zs _ d⟩,⟨j,g it Zs _ k,a0⟩⟩
 item:=by
  intro X r t y J i N s σ H a1 I m st z;subst r t y;obtain⟨T,x,o,L⟩:=z;obtain⟨O,A,p,_⟩:=I.tuple o;obtain⟨u,U,V⟩:=A.get L;obtain⟨f,d⟩:=st.e;refine gY d st.i p (by simpa using U) G λY k Z t1 z1 B=>?_;refine⟨_,rfl,?_⟩;refine wpAny_letOwnedTupleGo_enum k λh2 e2 C=>?_;have F:e<s.heap.objs.size:=Heap.lt_size d;have t2:h2.get? s.heap.objs.size=some {cls:=.type "tuple",data:=.seq #[.int i s.toks,u] }:=C.extBut _ _ (ne_of_gt F) t1;refine⟨.ref s.heap.objs.size,aJ H s.heap.objs.size (.tup [.int i,x]),I.turnLaid (t':=s.toks+1) m (λb a2 c D=>?_) (bH _) ⟨by show 2<=sizeLine;decide,[.int i s.toks,u],.cons ⟨_,rfl⟩ (.cons V .nil),⟨_,t2,rfl,_,rfl⟩⟩,rfl,?_,?_,λb c=>?_⟩
  ·have l:b≠e/\b≠it:=by simpa using c
   exact C.extBut _ _ l.1 (B b a2 l.1 l.2 D)
  ·exact⟨s.heap.objs.size,x,I.hok.fresh (bH _),rfl,rfl,λzs hz=>by rw[I.tuple_inj hz o];exact L⟩
  ·obtain⟨j,E,M⟩:=Z;exact⟨⟨_,by simpa using e2⟩,⟨j,C.extBut _ _ G.symm E,M⟩⟩
  ·have G0:b<s.heap.objs.size:=by
    obtain⟨j,E,M⟩:=st.i;simp only [mem_cons,ZJ,or_false]at c;rcases c with rfl|rfl
    ·exact F
    ·exact Heap.lt_size E
   rw[aD (ne_of_lt G0)];exact(m b c).1
 done:=by
  intro X r t y J i N s σ H a1 I m st z;subst r t y;obtain⟨T,o,hl⟩:=z;obtain⟨O,A,p,_⟩:=I.tuple o;obtain⟨f,d⟩:=st.e;have l1:=A.length;refine iO (I.ok.hd J) d st.i p (by simp;omega) λY B=>?_;refine⟨rfl,I.turnL (t':=s.toks) m λb u c D=>?_⟩;have l:b≠e/\b≠it:=by simpa using c
  exact B b u l.2 D
 self:=λ_ _ _ _ _ st h=>by
  obtain⟨f,d⟩:=st.e;exact wpAny_pyIter_enum d h
section
variable {X:Cx}{a b:Expr}{ta tb:TE}{p pos AY:Pos}{es:List Expr}{n:Nat}
def zY(K:W.Frag)(ta:TE):TI:=λe H R=>ta e H λx c=>mR x λa=>∃d,SqT K c a d/\R (vX K a) c
def zZ(B:Gl X "enumerate")(C:X.mg "enumerate"=none)(D:PE X a ta)(i:aO a=true):PI X (.Tuple es n AY) (.Call (.Name "enumerate" p) [a] [] pos) (zY X.K ta):=by
 intro g s A H R I h;have E:starEach [a] X.env=[(false,eval a X.env)]:=by rw[bK i];rfl
 have F:PA X [a] (dA ta fR):=yP D qT i;refine Call_ (jS I B C boot_enumerate (PyProof.Rows.callWith_type1 (bI (F pos g s A H (λvs j=>match vs with|[x]=>(mR x λe=>∃l,SqT X.K j e l/\R (vX X.K e) j)|_=>False) I ?_) ?_) (by rw[E];rfl) rfl))
 ·exact h
 ·rintro P c ⟨vs,m,f,G,d⟩;(try dsimp only at d);split at d
  rotate_left
  ·exact d.elim
  rename_i x;rw[cD]at d;obtain⟨e,rfl,l,J,q⟩:=d
  cases G with
  | cons r K=>
   cases K;cases r;obtain⟨O,Q,t,_⟩:=f.tuple J;refine lJ t λu v L S k=>?_;have M:Inv X g A m {c with heap:=u }:=f.kept (t':=c.toks) k;have w:e<c.heap.objs.size:=by
    obtain⟨o,N,_⟩:=t;exact Heap.lt_size N
   refine wpAny_pyIter_enum (s:={c with heap:=u }) v ?_;refine⟨c.heap.objs.size+1,_,_,_,m,rfl,M,rQ (ne_of_gt (lt_succ_self _)) (ne_of_lt (Nat.lt_succ_of_lt w)) (ne_of_lt w),⟨⟨_,v⟩,L⟩,λb y=>?_,q⟩;have z:c.heap.objs.size<=b:=by
    simp only [mem_cons,ZJ,or_false]at y;rcases y with rfl|rfl
    ·exact Nat.le_add_right _ 1
    ·exact bH _
   exact f.fpOk z (f.hok.fresh z)
def R.ja{K:W.Frag}(c:Gl X "enumerate")(d:X.mg "enumerate"=none)(e:XE X a ta)(f:X.K=K:=by rfl)(g:aO a=true:=by rfl):XI X (.Tuple es n AY) (.Call (.Name "enumerate" p) [a] [] pos) (zY K ta):=
 f▸⟨zZ c d e.h g⟩
end
def vY{K:W.Frag}{a:ZT}{xs:List V}{g:TG}{j:TS}{D:iC}{b:St}{H:Hp}(Pv:Nat->St->Hp->Prop)(o:∀i b H,Pv i b H->SqT K H a xs)(q:Pv 0 b H)(r:∀(i:Nat)(x:V) b H t,xs[i]?=some x->Pv i b H->H t=none->g (.ref t) b (aJ H t (.tup [.int i,x])) λd f=>j {D with nx:=Pv (i+1),ct:=Pv (i+1),bk:=D.nx } d f)(s:∀ b H,Pv xs.length b H->D.nx b H) :
  ∃W:Nat->Nat->St->Hp->Prop,(∃m,W 0 m b H)/\∀i m b H,W i m b H →
   ((vX K a).stop i H/\D.nx b H)∨((vX K a).go i H/\∃N:St->Hp->Prop,(∀ e c,N e c->∃k,k<m/\W (i+1) k e c)/\∀x c,(vX K a).yld i H x c->g x b c λd f=>j {D with nx:=N,ct:=N,bk:=D.nx } d f):=by
 refine⟨λi m b H=>m=xs.length-i/\i<=xs.length/\Pv i b H,⟨_,rfl,zero_le _,q⟩,?_⟩;rintro i m b H ⟨rfl,y,p⟩;have h:=o i b H p;by_cases l:i<xs.length
 ·refine .inr ⟨⟨xs,xs[i],h,bR l⟩,Pv (i+1),λe c n=>⟨xs.length-(i+1),Zo,rfl,l,n⟩,?_⟩;rintro v c ⟨t,x,u,rfl,rfl,w⟩;exact r i x b H t (w xs h) p u
 ·have:i=xs.length:=by omega
  subst this;exact .inl ⟨⟨xs,h,bH _⟩,s b H p⟩
end L2
namespace KL
open PySem L2
def jw:=@R.ab
def jx:=@R.v
def jy:=@R.ad
def kg:=@R.ag
def kt:=@R.int
def lf:=@R.ah
def li:=@R.ai
def lv:=@R.op
def mh:=@R.fn
def mi:=@R.ao
def mj:=@R.it
def ml:=@R.ap
def mm:=@R.aq
def mn:=@R.ar
def mo:=@R.au
def mq:=@R.gn
def ms:=@R.av
def mv:=@R.ix
def nw:=@R.il
def o0:=@R.aw
def pi:=@R.ax
def pq:=@R.eq
def pv:=@R.ay
def px:=@R.kiL
def pz:=@R.az
def qd:=@R.ba
def qe:=@R.bc
def qf:=@R.be
def qg:=@R.bf
def qh:=@R.bg
def re:=@R.bh
def sn:=@R.bi
def tj:=@R.bj
def tm:=@R.bo
def tu:=@R.bp
def ua:=@R.bn
def ub:=@R.bq
def ut:=@R.br
def u8:=@R.bt
def v0:=@R.bu
def wn:=@R.bv
def wp:=@R.bw
def wr:=@R.bz
def ww:=@R.cf
def wx:=@R.tw
def wy:=@R.cg
def xz:=@R.ci
def zn:=@R.cj
def AC:=@R.cp
def AT:=@R.kiT
def FM:=@R.cq
def FS:=@R.cv
def IN:=@R.cx
def NE:=@R.cz
section
variable {P:Program}{w:World}{K:W.Frag}{mg:Z7}{base:Heap}
def bP:Sp:=λvs H Q _=>∃d b m,vs=[.ref d,.int m]/\Dk H d b/\0<m/\m<18446744073709551616/\∀r a,0<=r->r<m->Dk a d b->Kp d b H a->Q (.int r) a
def Eu(T:Txt K mg)(D:DefAt K mg "_law_deck" y ZC):aI P w K mg base 1 "_law_deck" ZC (yT K):=by
 refine D.gg z (λf x A v s H vs Q E B h=>?_)
 ·obtain⟨a,c,rfl,k,q⟩:=h;refine⟨_,(li (mn (o0 (jw (ub (R.jb (K:=K)) rfl T.b_list tK (jw (R.sl (R.jc (K:=K)) (jx 0) R.pn (R.ps kt)) jy)) (jw (lv pi kt (lv wr (qd (R.jn (K:=K) rfl) rfl T.b_sum Kj (jw (R.sl (R.jc (K:=K)) (jx 0) R.pn (R.ps kt)) jy)) kt)) (jw kt jy)))))),?_⟩;have l:fS (c.map V.int) none (some 63)=(c.take 63).map V.int:=by rw[Dy];exact congrArg _ (rG c 63)
  refine⟨_,k,λe m=>⟨_,.inl (YT aA),λb n=>?_⟩⟩;have g:Same H (aJ (aJ H e (.lst (fS (c.map V.int) none (some 63)))) b (.lst (fS (c.map V.int) none (some 63)))):=(aH m).trans (aH n);have g2:(aJ (aJ H e (.lst (fS (c.map V.int) none (some 63)))) b (.lst (fS (c.map V.int) none (some 63)))) b=some (.lst ((c.take 63).map V.int)):=by rw[aA,l]
  have r:H b=none:=(aH m).free n;show dA _ _ _ (aJ (aJ H e (.lst (fS (c.map V.int) none (some 63)))) b (.lst (fS (c.map V.int) none (some 63)))) _;generalize aJ (aJ H e (.lst (fS (c.map V.int) none (some 63)))) b (.lst (fS (c.map V.int) none (some 63)))=t at g g2;refine⟨_,g.seq k,λo i=>⟨o,c.take 63,rfl,YT (by rw[aA,l]),by show(0:Int)<2147483629;decide,dC rfl,λd j=>?_⟩⟩;have p:Same H (aJ t o (.lst (fS (c.map V.int) none (some 63)))):=g.trans (aH i);have u:b≠d:=aB ((aH i) _ _ g2) j;refine q d b _ (p.free j) r ⟨c.take 63,_,_,aA,?_,?_⟩ (p.trans (aH j))
  ·rw[aD u];exact(aH i) _ _ g2
  ·rw[wR];exact Nat.min_le_left _ _
def Aa(D:DefAt K mg "_law_draw" Q9 ZF) :
  aI P w K mg base 1 "_law_draw" ZF bP:=by
 refine D.gg n (λa0 cdv a1 Z a2 H vs a3 a4 Q h=>?_)
 ·obtain⟨d,b,m,rfl,S,k,T,q⟩:=h;have U:=Q.units0;obtain⟨a,g,f,E,L,M⟩:=S.ex;have F:d≠b:=bD E L (by
   intro z;injection z with z
   cases a with
   | nil=>cases z
   | cons z1 zs=>injection z with z _;cases z)
  refine⟨_,(kg (qf (lv pi (nw K 0) kt) (qg (jx 0) kt R.gm)) (kg (mi (i:=2) n.nd (nw K 0)) (kg (mo (ml (R.jd (K:=K) U) (nw K 0) (o0 jy)) (kg (mi (i:=2) n.nd (tm (K:=K) PySem.F.plainAttrs_list PySem.F.slot_list_pop PySem.F.type_list_pop R.jo (nw K 0) (jw kt jy))) (li (mo (ml R.ge (jx 2) (lv wy kt kt)) (kg (pz (tm (K:=K) PySem.F.plainAttrs_list PySem.F.slot_list_insert PySem.F.type_list_insert R.ij (nw K 0) (jw kt (jw (lv R.gk (jx 2) (jx 1)) jy)))) (li (mn (lv wr (jx 2) (jx 1))))) ms))) ms) (kg (mi (i:=3) n.nd (lv wr (lv pi (lv pi (lv R.dl (lv wr (jx 2) kt) kt) (lv R.dl kt (nw K 0))) kt) kt)) (kg (mi (i:=3) n.nd (lv wr (lv R.dl (jx 3) (jx 3)) kt)) (li (mn (lv wr (lv R.gk (lv wr (lv R.dl (jx 3) (lv pi (jx 3) kt)) kt) kt) (jx 1))))))))),?_⟩;refine⟨_,YT E,_,rfl,d,_,2,2,rfl,rfl,E,rfl,?_⟩;have g1:(aJ H d (.lst [.ref b,.int g,.int (f+1)])) d=some (.lst [.ref b,.int g,.int (f+1)]):=aA;have g2:(aJ H d (.lst [.ref b,.int g,.int (f+1)])) b=some (.lst (a.map V.int)):=by rw[aD F.symm];exact L
  have N:Kp d b H (aJ H d (.lst [.ref b,.int g,.int (f+1)])):=λc o e l j=>by rw[aD l];exact e
  show qK _ _ _ _ (aJ H d (.lst [.ref b,.int g,.int (f+1)]));generalize aJ H d (.lst [.ref b,.int g,.int (f+1)])=r at g1 g2 N;refine⟨_,YT g1,_,rfl,?_⟩;dsimp only [aK];refine Kl (t:=uQ _ _ _) (λJ s=>∃c:Int,J=[some (.ref d),some (.int m),some (.int c),none]/\(∃u:List Int,s d=some (.lst [.ref b,.int g,.int (f+1)])/\s b=some (.lst (u.map V.int))/\u.length<=63)/\Kp d b H s) (λnx O=>?_) ?_
  ·refine⟨_,YT g1,_,rfl,dC rfl,λp v=>⟨b,p,_,rfl,rfl,YT (by rw[aD (aB g2 v)];exact g2),YT aA,?_⟩⟩;have A:(aJ r p (.lst [])) d=some (.lst [.ref b,.int g,.int (f+1)]):=by rw[aD (aB g1 v)];exact g1
   have B:(aJ r p (.lst [])) b=some (.lst (a.map V.int)):=by rw[aD (aB g2 v)];exact g2
   have G:Kp d b H (aJ r p (.lst [])):=N.trans (.new v);generalize aJ r p (.lst [])=C at A B G;cases a with
   | nil=>
    exact O _ _ ⟨_,rfl,⟨[],A,B,M⟩,G⟩
   | cons z a=>
    have W:a.length+1<=63:=by simpa using M
    refine⟨_,YT A,_,rfl,.inl ⟨rfl,_,YT B⟩,b,_,0,0,.int z,rfl,rfl,B,Zd,Zd,by simp[seqIndex?],rfl,?_⟩;have f1:(aJ C b (.lst ((List.map V.int (z::a)).eraseIdx 0))) d=some (.lst [.ref b,.int g,.int (f+1)]):=by rw[aD F];exact A
    have f2:(aJ C b (.lst ((List.map V.int (z::a)).eraseIdx 0))) b=some (.lst (a.map V.int)):=by rw[aA];rfl
    have I:Kp d b H (aJ C b (.lst ((List.map V.int (z::a)).eraseIdx 0))):=λc o e l j=>by rw[aD j];exact G c o e l j
    dsimp only [aK];generalize aJ C b (.lst ((List.map V.int (z::a)).eraseIdx 0))=H3 at f1 f2 I;refine⟨⟨Zd,Zd,Zd⟩,?_⟩;refine cG (λ_=>?_) (λ_=>?_)
    ·refine⟨_,YT f1,_,rfl,.inl ⟨rfl,_,YT f2⟩,⟨k,T⟩,b,_,0,_,rfl,rfl,f2,zero_le _,fQ (m:=63) (by rw[bA];omega) Zd,k,?_⟩;refine q _ _ (Int.emod_nonneg _ Zo) (Int.emod_lt_of_pos _ k) ⟨z/m::a,g,f+1,by rw[aD F];exact f1,by rw[aA];rfl,by simpa using W⟩ λc o e l j=>by rw[aD j];exact I c o e l j
    ·exact O _ _ ⟨_,rfl,⟨a,f1,f2,Zo⟩,I⟩
  ·rintro J s ⟨c,rfl,⟨u,f1,f2,X⟩,Y⟩;refine⟨by show(0:Int)<_;decide,.inr ⟨Zd,Zd⟩,_,YT f1,_,rfl,.inl ⟨Zd,Zd⟩,by show(0:Int)<_;decide,?_⟩;generalize hx:(c%2147483629*16807+69621*(f+1)+7919)%2147483629=x;have yd:0<=x:=by omega
   have HU:x<2147483629:=by omega
   refine⟨.inl ⟨Zo,Zo⟩,by show(0:Int)<_;decide,?_⟩;generalize hy:x*x%2147483587=y;have Xm:0<=y:=by omega
   have Xn:y<2147483587:=by omega
   refine⟨.inl ⟨Zo,Zo⟩,by show(0:Int)<_;decide,⟨Zd,Zd⟩,k,?_⟩;exact q _ _ (Int.emod_nonneg _ Zo) (Int.emod_lt_of_pos _ k) ⟨u,g,f+1,f1,f2,X⟩ Y
def Ly{r:Int}(a:0<=r)(b:r<4):r=0∨r=1∨r=2∨r=3:=by omega
def six{r:Int}(a:0<=r)(b:r<6):r=0∨r=1∨r=2∨r=3∨r=4∨r=5:=by omega
def Ma(T:Txt K mg)(g:aI P w K mg base 1 "_law_draw" ZF bP)(D:DefAt K mg "_law_end" L ZF) :
  aI P w K mg base 2 "_law_end" ZF bP:=by
 refine D.gg M (λf J A I s H vs Q E i h=>?_)
 ·obtain⟨d,b,m,rfl,t,k,l,q⟩:=h;refine⟨_,(li (mn (mv (px (K:=K)) (o0 (jw kt (jw (lv FS (jx 1) kt) (jw (mh g i rfl (jw (jx 0) (jw (jx 1) jy))) (jw (mh g i rfl (jw (jx 0) (jw (jx 1) jy))) jy))))) (mh g i rfl (jw (jx 0) (jw kt jy)))))),?_⟩;refine⟨d,b,m,rfl,t,k,l,λN O u v x y=>⟨d,b,m,rfl,x,k,l,λR S z B n C=>⟨dC rfl,λp j=>⟨d,b,4,rfl,n.new j,Zd,Zd,λU V F G a o=>?_⟩⟩⟩⟩;have r:=n.ne j;have c:=o p _ aA r.1 r.2;have e:=((y.trans C).trans (.new j)).trans o;rcases Ly F G with rfl|rfl|rfl|rfl
  ·exact⟨_,YT c,_,rfl,q _ _ Zo Zo a e⟩
  ·exact⟨_,YT c,_,rfl,q _ _ Zo Zo a e⟩
  ·exact⟨_,YT c,_,rfl,q _ _ u v a e⟩
  ·exact⟨_,YT c,_,rfl,q _ _ z B a e⟩
structure WordsOf(L:List Nat)(g:Nat)(ws:List Str):Prop where
 nd:ws.Nodup
 of:∀z∈ws,1<=z.length/\z.length<=g/\∀c∈z.cps.toList,c∈L
def iP:Sp:=λvs H Q _=>∃(d b:ZT)(L:List Nat)(g m:Nat),vs=[.ref d,.str (tx L),.int (g:Int),.int (m:Int)]/\Dk H d b/\1<=m/\m<=g/\g<=12/\L.Nodup/\m<=L.length/\L.length<=40 ∧
 ∀(l:ZT)(c:List Str)(a:Hp),WordsOf L g c->c.length=m->a l=some (.lst (c.map V.str))->l≠d->l≠b->Dk a d b->Kp d b H a->Q (.ref l) a
def Ab{c:Type}(xs:List c){i j:Nat}(a:i<=xs.length)(b:j<=xs.length):fS xs (some (i:Int)) (some (j:Int))=(xs.drop i).take (j-i):=by
 unfold fS;rw[HT.sIx_nat,HT.sIx_nat,Nat.min_eq_left a,Nat.min_eq_left b]
def kO(L b:List Nat)(a sz f k:Nat):List Nat:=b.take a++[L.getD ((f+k)%L.length) 0]++(b.drop (a+1)).take (sz-(a+1))
def Ev{L:List Nat}(d:L.Nodup){i j:Nat}(a:i<L.length)(b:j<L.length)(h:L.getD i 0=L.getD j 0):i=j:=by
 rw[getD_eq_getElem?_getD,getD_eq_getElem?_getD,bR a,bR b]at h;have c:L[i]=L[j]:=h;have p:=pairwise_iff_getElem.mp d;rcases lt_trichotomy i j with z|z|z
 ·exact ZO c (p i j a b z)
 ·exact z
 ·exact ZO c.symm (p j i b a z)
def Ew{f k a n:Nat}(d:k<n)(e:a<n)(h:(f+k)%n=(f+a)%n):k=a:=by
 have b:=Nat.mod_add_div (f+k) n;have c:=Nat.mod_add_div (f+a) n;rw[h]at b;generalize (f+k)/n=u at b;generalize (f+a)/n=v at c;rcases lt_trichotomy u v with z|z|z
 ·have:n*(u+1)<=n*v:=Nat.mul_le_mul_left n z;rw[Nat.mul_add,Nat.mul_one]at this;omega
 ·subst z;omega
 ·have:n*(v+1)<=n*u:=Nat.mul_le_mul_left n z;rw[Nat.mul_add,Nat.mul_one]at this;omega
def Ac{L c:List Nat}(d:L.Nodup){a sz f k b:Nat}(h:kO L c a sz f k=kO L c a sz f b)(e:k<L.length)(g:b<L.length):k=b:=by
 unfold kO at h;have i:=List.append_inj_left' h rfl;have j:=List.append_inj_right' i rfl;have l:L.getD ((f+k)%L.length) 0=L.getD ((f+b)%L.length) 0:=by injection j
 exact Ew e g (Ev d (mod_lt _ Zo) (mod_lt _ Zo) l)
def Qm{L:List Nat}{i:Nat}(h:i<L.length):L.getD i 0∈L/\L[i]?=some (L.getD i 0):=by
 have e:L[i]?=some (L[i]):=bR h;have a:L.getD i 0=L[i]:=by rw[getD_eq_getElem?_getD,e];rfl
 exact⟨a▸getElem_mem _,a▸e⟩
def Ey{L b:List Nat}{g a sz f k:Nat}(h:0<L.length)(i:b.length=g)(d:∀c∈b,c∈L)(j:a<sz)(l:sz<=g):1<=(kO L b a sz f k).length/\(kO L b a sz f k).length<=g/\∀c∈kO L b a sz f k,c∈L:=by
 have e:(kO L b a sz f k).length=sz:=by
  unfold kO;simp[i];omega
 refine⟨Zo,Zo,λc hc=>?_⟩;unfold kO at hc;rcases Zma.mp hc with hc|hc
 ·rcases Zma.mp hc with hc|hc
  ·exact d c (List.mem_of_mem_take hc)
  ·rw[Zms.mp hc];exact(Qm (mod_lt _ h)).1
 ·exact d c (List.mem_of_mem_drop (List.mem_of_mem_take hc))
def kP{n i:Nat}{x:V}(h:(eR 0 n)[i]?=some x):x=.int (i:Int)/\i<n:=by
 unfold eR at h;rw[dH]at h;cases a:(List.range n)[i]? with
 | none=>rw[a]at h;cases h
 | some y=>
  rw[a]at h;obtain⟨c,b⟩:=Zgs.mp a;rw[List.getElem_range]at b;cases h;rw[<- b];exact⟨Zs,by simpa using c⟩
def cY(n:Nat):(eR 0 n).length=n:=by simp[eR]
def pS{L:List Nat}{g m:Nat}{F:Nat->List Nat}(b:∀k a,k<m->a<m->F k=F a->k=a)(d:∀k,k<m->1<=(F k).length/\(F k).length<=g/\∀c∈F k,c∈L):WordsOf L g ((List.range m).map λk=>tx (F k)):=by
 refine⟨?_,λz e=>?_⟩
 ·show List.Pairwise (·≠·) _;rw[List.pairwise_map];refine List.Pairwise.imp_of_mem (λ{x y} f h i j=>i ?_) List.nodup_range;exact b _ _ (mem_range.mp f) (mem_range.mp h) (by simpa using congrArg (λz:Str=>z.cps.toList) j)
 ·obtain⟨k,l,rfl⟩:=Zmm.mp e;have:=d k (mem_range.mp l);exact⟨by rw[aV];exact this.1,by rw[aV];exact this.2.1,λc n=>this.2.2 c (by simpa using n)⟩
def vZ(T:Txt K mg)(v:aI P w K mg base 1 "_law_draw" ZF bP)(D:DefAt K mg "_law_unlike" E Zy) :
  aI P w K mg base 2 "_law_unlike" Zy iP:=by
 refine D.gg x (λa5 cdv a6 outer a8 H vs a9 b0 y h=>?_)
 ·obtain⟨d,b,L,g,m,rfl,dk,OS,zk,hg,P0,Xo,Uq,a2⟩:=h;have F:(tx L).length=L.length:=aV L;have A:(tx L).length<=sizeLine:=cX Zo;have G:(tx L).cps.toList=L:=by simp
  refine⟨_,(kg (mi (i:=4) x.nd (tm (K:=K) PySem.F.plainAttrs_str PySem.F.slot_str_join PySem.F.type_str_join (R.jq (K:=K)) lf (jw (ww rfl (js:=[none,some 0,some 1]) (N:=YY) (CompScope.by (aG E) Zp rfl rfl Zk) (bJ rfl) (R.dh rfl T.b_range (jw (jx 2) jy)) (λa3 Z H₂ fp=>⟨(mq (i:=0) (show(YY:List Str).Nodup by decide +kernel)),AC,(mv R.iS (jx 2) (mh v y rfl (jw (jx 1) (jw (qd R.gs rfl T.b_len cC (jw (jx 2) jy)) jy))))⟩)) jy))) (kg (mo (ml pq (mh v y rfl (jw (jx 0) (jw kt jy))) kt) (li (mn (ww rfl (js:=[none,some 4]) (N:=["_law_k","_law_word_here"]) (CompScope.by (aG E) Zp rfl rfl Zk) (bJ rfl) (R.dh rfl T.b_range (jw (jx 3) jy)) (λa3 Z H₂ fp=>⟨(mq (i:=0) (show(["_law_k","_law_word_here"]:List Str).Nodup by decide +kernel)),AC,(R.sl R.sS (jx 1) R.pn (R.ps (lv pi (jx 0) kt)))⟩)))) ms) (kg (mi (i:=5) x.nd (lv pi kt (mh v y rfl (jw (jx 0) (jw (jx 2) jy))))) (kg (mi (i:=6) x.nd (mh v y rfl (jw (jx 0) (jw (jx 5) jy)))) (kg (mi (i:=7) x.nd (mh v y rfl (jw (jx 0) (jw (qd R.gs rfl T.b_len cC (jw (jx 1) jy)) jy)))) (kg (mi (i:=8) x.nd (R.gu (jw (R.sl R.sS (jx 4) R.pn (R.ps (jx 6))) (jw (R.sl R.sS (jx 4) (R.ps (lv pi (jx 6) kt)) (R.ps (jx 5))) jy)))) (li (mn (ww rfl (js:=[none,some 1,some 7,some 8]) (N:=YX) (CompScope.by (aG E) Zp rfl rfl Zk) (bJ rfl) (R.dh rfl T.b_range (jw (jx 3) jy)) (λa3 Z H₂ fp=>⟨(mq (i:=0) (show(YX:List Str).Nodup by decide +kernel)),AC,(lv xz (lv xz (mj K 3) (mv R.iS (jx 1) (lv wr (lv pi (jx 2) (jx 0)) (qd R.gs rfl T.b_len cC (jw (jx 1) jy))))) (mj K 3))⟩)))))))))),?_⟩;refine Kl (t:=xA _ _) (λσ' j=>∃f:List Nat,σ'=[some (.ref d),some (.str (tx L)),some (.int (g:Int)),some (.int m),some (.str (tx f)),none,none,none,none]/\f.length=g/\(∀c∈f,c∈L)/\Dk j d b/\Kp d b H j) (λnx b7=>?_) ?_
  ·refine⟨rfl,g,rfl,Zo,Zo,?_⟩;refine bL (cZ 0 (g:Int).toNat) (by rw[cY];omega) (λi l j=>Dk j d b/\Kp d b H j/\∃f:List Nat,l=f.map (λc=>V.str (tx [c]))/\f.length=i/\∀c∈f,c∈L) (λi l j ⟨_,_,f,e,n,_⟩=>⟨trivial,by rw[e,bA,n];exact bH _⟩) ⟨dk,.refl,[],rfl,rfl,(λ_ h=>nomatch h)⟩ (?_) (?_)
   ·rintro i a4 l j C ⟨I,J,f,e,n,M⟩;refine⟨A,d,b,_,rfl,I,Zo,Zo,λr2 P1 Ur Xp Dj Us=>⟨A,?_⟩⟩;obtain⟨c,O,hm⟩:=yU (xs:=(tx L).cps.toList) Ur (by rw[G];omega);rw[G]at hm;refine⟨c,O,Dj,J.trans Us,f++[c],by rw[e,eF];rfl,by rw[gJ,n];rfl,λc' kh=>?_⟩;rcases Zma.mp kh with h|h
    ·exact M c' h
    ·rw[Zms.mp h];exact hm
   ·rintro l j ⟨I,J,f,e,n,M⟩;intro p q;have u:f.length=g:=by rw[n,cY];omega
    refine⟨_,p,f.map (λc=>tx [c]),rfl,rfl,YT (by rw[aA,e,map_map];rfl),?_,?_⟩
    ·rw[pI,bA,yW,aV];simp;omega
    ·refine b7 _ _ ⟨f,?_,u,M,I.new q,J.trans (.new q)⟩;rw[yW,rH];rfl
  ·rintro σ' H1 ⟨f,rfl,u,EM,D1,k1⟩;have EO:(tx f).cps.toList=f:=by simp
   have em:((m:Int)).toNat=m:=by omega
   refine⟨d,b,3,rfl,D1,Zd,Zd,λb1 H2 r0 r1 Q k2=>?_⟩;refine cG (λ_=>?_) (λ_=>?_)
   ·refine⟨m,rfl,Zo,Zo,?_⟩;refine bL (cZ 0 (m:Int).toNat) (by rw[cY];omega) (λi l j=>l=((List.range i).map λk=>tx (f.take (k+1))).map V.str/\j=H2) (λi l j ⟨e,_⟩=>⟨trivial,by rw[e];simp⟩) ⟨rfl,rfl⟩ (?_) (?_)
    ·rintro i a4 l j C ⟨e,n⟩;subst n;obtain⟨rfl,hi⟩:=kP C;refine⟨cX (by rw[aV];omega),?_,rfl⟩;rw[EO,show((i:Nat):Int)+1=((i+1:Nat):Int) by omega,rG,e,List.range_succ,eF,eF];rfl
    ·rintro l j ⟨e,n⟩;subst n;intro p q;rw[cY,em]at e;have B:=Q.ne q;refine a2 p ((List.range m).map λk=>tx (f.take (k+1))) _ (pS (λk k' S kj e=>?_) (λk S=>?_)) Zs (by rw[aA,e]) B.1 B.2 (Q.new q) ((k1.trans k2).trans (.new q))
     ·have:=congrArg length e;rw[wR,wR,u]at this;omega
     ·exact⟨by rw[wR,u];omega,by rw[wR,u];omega,λc O=>EM c (List.mem_of_mem_take O)⟩
   ·refine⟨d,b,g,rfl,Q,Zo,Zo,λU H3 s0 s1 D3 k3=>?_⟩;refine⟨d,b,1+U,rfl,D3,Zo,Zo,λra H4 a0 a1 D4 k4=>?_⟩;refine⟨A,d,b,_,rfl,D4,Zo,Zo,λrf W f0 f1 D5 k5=>?_⟩;rw[F]at f1;dsimp only [aK];obtain⟨a,rfl⟩:∃a:Nat,ra=a:=⟨ra.toNat,Zo⟩;obtain⟨r,rfl⟩:∃z:Nat,U=z:=⟨U.toNat,Zo⟩;obtain⟨s,rfl⟩:∃z:Nat,rf=z:=⟨rf.toNat,Zo⟩;refine⟨cX (by rw[aV];omega),cX (by rw[aV];omega),dC rfl,λtp OT=>?_⟩;have X:(aJ W tp (.tup [.str (tx (fS (tx f).cps.toList none (some (a:Int)))),.str (tx (fS (tx f).cps.toList (some ((a:Int)+1)) (some (1+(r:Int)))))])) tp=some (.tup [.str (tx (f.take a)),.str (tx ((f.drop (a+1)).take (r+1-(a+1))))]):=by
     rw[aA,EO,rG,show(a:Int)+1=((a+1:Nat):Int) by omega,show 1+(r:Int)=((r+1:Nat):Int) by omega,Ab f Zo Zo]
    have k6:Kp d b H (aJ W tp (.tup [.str (tx (fS (tx f).cps.toList none (some (a:Int)))),.str (tx (fS (tx f).cps.toList (some ((a:Int)+1)) (some (1+(r:Int)))))])):=((((k1.trans k2).trans k3).trans k4).trans k5).trans (.new OT);have Y:=D5.new (o:=.tup [.str (tx (fS (tx f).cps.toList none (some (a:Int)))),.str (tx (fS (tx f).cps.toList (some ((a:Int)+1)) (some (1+(r:Int)))))]) OT;dsimp only [aK];generalize aJ W tp (.tup [.str (tx (fS (tx f).cps.toList none (some (a:Int)))),.str (tx (fS (tx f).cps.toList (some ((a:Int)+1)) (some (1+(r:Int)))))])=H6 at X k6 Y;refine⟨m,rfl,Zo,Zo,?_⟩;refine bL (cZ 0 (m:Int).toNat) (by rw[cY];omega) (λi l j=>l=((List.range i).map λk=>tx (kO L f a (r+1) s k)).map V.str/\j=H6) (λi l j ⟨e,_⟩=>⟨trivial,by rw[e];simp⟩) ⟨rfl,rfl⟩ (?_) (?_)
    ·rintro i a4 l j C ⟨e,n⟩;subst n;obtain⟨rfl,hi⟩:=kP C;have h0:0<L.length:=by omega
     have hL:=Qm (L:=L) (mod_lt (s+i) h0);have t1:(tx (f.take a)).length<=12:=by rw[aV,wR];omega
     have t2:(tx ((f.drop (a+1)).take (r+1-(a+1)))).length<=12:=by rw[aV,wR,List.length_drop];omega
     refine⟨_,YU X,_,rfl,A,by rw[F];omega,A,L.getD ((s+i)%L.length) 0,?_,cX (by have:=aV [L.getD ((s+i)%L.length) 0];simp only [qH,length_nil]at this;omega),_,YU X,_,rfl,cX ?_,?_,rfl⟩
     ·rw[F,G,show((s:Int)+(i:Int))%(L.length:Int)=(((s+i)%L.length:Nat):Int) by rw[Int.natCast_emod,Int.natCast_add]];exact cE hL.2
     ·rw[cF,aV,gJ,wR];simp only [qH,length_nil];omega
     ·rw[e,List.range_succ,eF,eF,cF,cF];rfl
    ·rintro l j ⟨e,n⟩;subst n;intro p q;rw[cY,em]at e;have B:=Y.ne q;refine a2 p ((List.range m).map λk=>tx (kO L f a (r+1) s k)) _ (pS (λk k' S kj e=>?_) (λk S=>?_)) Zs (by rw[aA,e]) B.1 B.2 (Y.new q) (k6.trans (.new q))
     ·exact Ac P0 e Zo Zo
     ·exact Ey Zo u EM Zo Zo
def aP{n:Nat}(h:Nat.ble n 1000=true):n<=1000:=ZN h
structure Fw(d b:ZT)(H H':Hp):Prop where
 d0:Dk H d b
 dk:Dk H' d b
 kp:Kp d b H H'
def Kp.same'{d b:ZT}{H a:Hp}(s:Same H a):Kp d b H a:=λc o e _ _=>s c o e
def Fw.refl{d b:ZT}{H:Hp}(D:Dk H d b):Fw d b H H:=⟨D,D,.refl⟩
def Fw.same{d b:ZT}{H a c:Hp}(f:Fw d b H a)(s:Same a c):Fw d b H c:=⟨f.d0,f.dk.same s,f.kp.trans (Kp.same' s)⟩
def Fw.new{d b p:ZT}{H a:Hp}{o:HO}(f:Fw d b H a)(h:a p=none):Fw d b H (aJ a p o):=⟨f.d0,f.dk.new h,f.kp.trans (.new h)⟩
def Fw.draw{d b:ZT}{H c a:Hp}(f:Fw d b H c)(D:Dk a d b)(k:Kp d b c a):Fw d b H a:=⟨f.d0,D,f.kp.trans k⟩
def Fw.trans{d b:ZT}{H a c:Hp}(f:Fw d b H a)(g:Fw d b a c):Fw d b H c:=⟨f.d0,g.dk,f.kp.trans g.kp⟩
def Fw.tk{d b:ZT}{H a:Hp}(f:Fw d b H a):TK H a:=Kp.tk f.d0 f.kp
def Fw.tup{d b a:ZT}{H c:Hp}{xs:List V}(f:Fw d b H c)(g:H a=some (.tup xs)):c a=some (.tup xs):=f.tk _ _ g
def Fw.get{d b a:ZT}{H c:Hp}{o:HO}(f:Fw d b H c)(g:H a=some o)(e:a≠d)(h:a≠b):c a=some o:=f.kp _ _ g e h
def gZ{ws:List Str}{r:Int}(b:0<=r)(c:r<ws.length):∃(i:Nat)(d:i<ws.length),r=i/\eP (ws.map V.str) r=some (.str ws[i]):=by
 obtain⟨j,rfl⟩:=Int.eq_ofNat_of_zero_le b;have a:j<ws.length:=by omega
 exact⟨j,a,rfl,cE (by rw[dH,bR a];rfl)⟩
def tS{n i r:Nat}(a:i<n)(b:r+1<n):(i+1+r)%n<n/\(i+1+r)%n≠i:=by
 refine⟨mod_lt _ Zo,λe=>?_⟩;by_cases h:i+1+r<n
 ·rw[Nat.mod_eq_of_lt h]at e;omega
 ·rw[Nat.mod_eq_sub_mod Zo,Nat.mod_eq_of_lt Zo]at e;omega
def Ad{ws:List Str}(h:ws.Nodup){i j:Nat}(a:i<ws.length)(b:j<ws.length)(c:i≠j):ws[i]≠ws[j]:=by
 have p:=pairwise_iff_getElem.mp h;rcases Nat.lt_or_gt_of_ne c with z|z
 ·exact p i j a b z
 ·exact λe=>p j i b a z e.symm
structure Menu(ws:List Str):Prop where
 of:WordsOf LET 8 ws
 two:2<=ws.length
 six:ws.length<=6
def Menu.nm{ws:List Str}(h:Menu ws){i:Nat}(a:i<ws.length):bZ ws[i]:=h.of.of _ (getElem_mem a)
def Rr(ws us:List Str):Dd->Prop
 | .add a _=>a∈ws|.take a _=>a∈ws|.move a b _=>a∈ws/\b∈ws|.send h a _=>h∈us/\a∈ws|.fetch h a _=>h∈us/\a∈ws|.pass h g a _=>h∈us/\g∈us/\a∈ws
def oA:Sp:=λvs H Q _=>∃(d b a c:ZT)(e f:List Str),vs=[.ref d,.ref a,.ref c]/\Dk H d b/\H a=some (.lst (e.map V.str))/\H c=some (.lst (f.map V.str))/\(a≠d/\a≠b/\c≠d/\c≠b)/\Menu e/\Menu f ∧
 ∀(t:ZT)(x:Dd)(g:Hp),x.Ok->Rr e f x->g t=some (.tup x.vs)->Fw d b H g->Q (.ref t) g
def Ez(T:Txt K mg)(x:aI P w K mg base 1 "_law_draw" ZF bP)(X7:aI P w K mg base 2 "_law_end" ZF bP)(D:DefAt K mg "_law_deed" R1 Zx):aI P w K mg base 3 "_law_deed" Zx oA:=by
 refine D.gg m (λa6 cdv a8 outer a9 a4 vs b2 b3 v a5=>?_)
 ·obtain⟨d,b,la,lb,a,c,rfl,dk,ga,O,⟨n1,n2,Q,S⟩,G,H,q⟩:=a5;have w2:=G.two;have w6:=G.six;have u2:=H.two;have u6:=H.six;refine⟨_,(kg (mi (i:=3) m.nd (mv (px (K:=K)) (o0 (jw (lv pi kt (mh x v rfl (jw (jx 0) (jw kt jy)))) (jw (lv pi kt (mh X7 v rfl (jw (jx 0) (jw (lv wy kt kt) jy)))) jy))) (mh x v rfl (jw (jx 0) (jw kt jy))))) (kg (mi (i:=4) m.nd (mh x v rfl (jw (jx 0) (jw (qd (ut (K:=K)) rfl T.b_len cC (jw (jx 1) jy)) jy)))) (kg (mi (i:=5) m.nd (mv (px (K:=K)) (jx 1) (jx 4))) (kg (mi (i:=6) m.nd (mv (px (K:=K)) (jx 1) (lv wr (lv pi (lv pi (jx 4) kt) (mh x v rfl (jw (jx 0) (jw (lv FS (qd (ut (K:=K)) rfl T.b_len cC (jw (jx 1) jy)) kt) jy)))) (qd (ut (K:=K)) rfl T.b_len cC (jw (jx 1) jy))))) (kg (mi (i:=7) m.nd (mh x v rfl (jw (jx 0) (jw (qd (ut (K:=K)) rfl T.b_len cC (jw (jx 2) jy)) jy)))) (kg (mi (i:=8) m.nd (mv (px (K:=K)) (jx 2) (jx 7))) (kg (mi (i:=9) m.nd (mv (px (K:=K)) (jx 2) (lv wr (lv pi (lv pi (jx 7) kt) (mh x v rfl (jw (jx 0) (jw (lv FS (qd (ut (K:=K)) rfl T.b_len cC (jw (jx 2) jy)) kt) jy)))) (qd (ut (K:=K)) rfl T.b_len cC (jw (jx 2) jy))))) (kg (mi (i:=10) m.nd (o0 (jw (mm (jw lf (jw (jx 5) (jw (jx 3) jy)))) (jw (mm (jw lf (jw (jx 5) (jw (jx 3) jy)))) (jw (mm (jw lf (jw (jx 5) (jw (jx 6) (jw (jx 3) jy))))) jy))))) (kg (mi (i:=10) m.nd (lv R.fq (jx 10) (o0 (jw (mm (jw lf (jw (jx 8) (jw (jx 5) (jw (jx 3) jy))))) (jw (mm (jw lf (jw (jx 8) (jw (jx 5) (jw (jx 3) jy))))) (jw (mm (jw lf (jw (jx 8) (jw (jx 9) (jw (jx 5) (jw (jx 3) jy)))))) jy)))))) (li (mn (mv (px (K:=K)) (jx 10) (mh x v rfl (jw (jx 0) (jw kt jy))))))))))))))),?_⟩;refine aN (λσ' H'=>∃n:Nat,σ'=[some (.ref d),some (.ref la),some (.ref lb),some (.int (n:Int)),none,none,none,none,none,none,none]/\1<=n/\n<=1000000000000/\Fw d b a4 H') (λnx b7=>?_) ?_
  ·refine⟨d,b,9,rfl,dk,Zd,Zd,λr1 H1 a0 a1 D1 k1=>⟨⟨Zd,Zd,Zd⟩,d,b,_,rfl,D1,Zd,Zd,λr2 H2 b0 U I k2=>⟨dC rfl,λp J=>⟨d,b,2,rfl,I.new J,Zd,Zd,λe H3 c0 c1 D3 W=>?_⟩⟩⟩⟩;have uu:=I.ne J;have L:=W p _ aA uu.1 uu.2;have s:=((((Fw.refl dk).draw D1 k1).draw I k2).new J).draw D3 W;have Xq:r2<1000000000000:=U;rcases(by omega:e=0∨e=1) with rfl|rfl
   ·refine⟨_,YT L,_,rfl,b7 _ _ ⟨(1+r1).toNat,?_,Zo,Zo,s⟩⟩;rw[Int.toNat_of_nonneg Zo];rfl
   ·refine⟨_,YT L,_,rfl,b7 _ _ ⟨(1+r2).toNat,?_,Zo,Zo,s⟩⟩;rw[Int.toNat_of_nonneg Zo];rfl
  ·rintro σ' H1 ⟨n,rfl,A,B,f1⟩;have KY:=f1.get ga n1 n2;have OU:=f1.get O Q S;refine⟨_,.inl (YT KY),d,b,_,rfl,f1.dk,by rw[bA];omega,by rw[bA];omega,λr2 H2 b0 U I k2=>?_⟩;rw[bA]at U;have f2:=f1.draw I k2;have OV:=f2.get ga n1 n2;obtain⟨i,X,rfl,ei⟩:=gZ b0 U;refine⟨_,YT OV,_,ei,?_⟩;refine⟨_,.inl (YT OV),d,b,_,rfl,f2.dk,by rw[bA];omega,by rw[bA];omega,λe H3 c0 c1 D3 W=>?_⟩;rw[bA]at c1;have Y:=f2.draw D3 W;have zy:=Y.get ga n1 n2;obtain⟨e,rfl⟩:∃a2:Nat,e=a2:=⟨e.toNat,Zo⟩;obtain⟨Z,OW⟩:=tS (r:=e) X Zo;have ej:((i:Int)+1+(e:Int))%((a.map V.str).length:Int)=(((i+1+e)%a.length:Nat):Int):=by
    rw[bA,Int.natCast_emod];rfl
   refine⟨_,.inl (YT zy),by rw[bA];omega,_,YT zy,V.str a[(i+1+e)%a.length],?_,?_⟩
   ·rw[ej];exact cE (by rw[dH,bR Z];rfl)
   have m4:=Ad G.of.nd X Z (λa3=>OW a3.symm);have y:=G.nm X;have z:a[i]∈a:=getElem_mem X;have ib:a[(i+1+e)%a.length]∈a:=getElem_mem Z;have OX:=G.nm Z;generalize a[(i+1+e)%a.length]=zb at m4 OX ib;generalize a[i]=C at m4 y z;dsimp only [aK];have Ut:=Y.get O Q S;refine⟨_,.inl (YT Ut),d,b,_,rfl,Y.dk,by rw[bA];omega,by rw[bA];omega,λr4 H4 d0 d1 D4 k4=>?_⟩;rw[bA]at d1;have f4:=Y.draw D4 k4;have OY:=f4.get O Q S;obtain⟨u,R3,rfl,eu⟩:=gZ d0 d1;refine⟨_,YT OY,_,eu,?_⟩;refine⟨_,.inl (YT OY),d,b,_,rfl,f4.dk,by rw[bA];omega,by rw[bA];omega,λt H5 e0 e1 D5 k5=>?_⟩;rw[bA]at e1;have f5:=f4.draw D5 k5;have HV:=f5.get O Q S;obtain⟨t,rfl⟩:∃a2:Nat,t=a2:=⟨t.toNat,Zo⟩;obtain⟨hv,Uu⟩:=tS (r:=t) R3 Zo;have ev:((u:Int)+1+(t:Int))%((c.map V.str).length:Int)=(((u+1+t)%c.length:Nat):Int):=by
    rw[bA,Int.natCast_emod];rfl
   refine⟨_,.inl (YT HV),by rw[bA];omega,_,YT HV,V.str c[(u+1+t)%c.length],?_,?_⟩
   ·rw[ev];exact cE (by rw[dH,bR hv];rfl)
   have BH:=Ad H.of.nd R3 hv (λa3=>Uu a3.symm);have HW:=H.nm R3;have iu:c[u]∈c:=getElem_mem R3;have iv:c[(u+1+t)%c.length]∈c:=getElem_mem hv;have OZ:=H.nm hv;generalize c[(u+1+t)%c.length]=zv at BH OZ iv;generalize c[u]=zu at BH HW iu;refine⟨aP rfl,λf H6 s6 g6=>⟨aP rfl,λg H7 s7 g7=>⟨aP rfl,λh H8 s8 g8=>⟨dC rfl,λp J=>?_⟩⟩⟩⟩;have Uv:Same H5 H8:=(s6.trans s7).trans s8;have f8:=f5.same Uv;have h1:=s8 _ _ (s7 _ _ g6);have h2:=s8 _ _ g7;have L:(aJ H8 p (.lst [.ref f,.ref g,.ref h])) p=some (.lst [.ref f,.ref g,.ref h]):=aA;have sp:=aH (o:=.lst [.ref f,.ref g,.ref h]) J;dsimp only [aK];generalize aJ H8 p (.lst [.ref f,.ref g,.ref h])=H9 at L sp;refine⟨aP rfl,λj Ha sa g4=>⟨aP rfl,λk Hb sb g5=>⟨aP rfl,λl Hc sc g9=>⟨dC rfl,λp2 ql=>?_⟩⟩⟩⟩;have Uw:Same H9 Hc:=(sa.trans sb).trans sc;have PB:(aJ Hc p2 (.lst [.ref j,.ref k,.ref l])) p2=some (.lst [.ref j,.ref k,.ref l]):=aA;have M:=aH (o:=.lst [.ref j,.ref k,.ref l]) ql;generalize aJ Hc p2 (.lst [.ref j,.ref k,.ref l])=Hd at PB M;have KZ:=Uw.trans M;refine⟨_,_,KZ _ _ L,PB,dC rfl,λp3 N=>?_⟩;have fd:=f8.same (sp.trans KZ);have ES:=fd.dk.ne N;have HX:Same H8 (aJ Hd p3 (.lst ([.ref f,.ref g,.ref h]++[.ref j,.ref k,.ref l]))):=(sp.trans KZ).trans (aH N);have zz:(aJ Hd p3 (.lst ([.ref f,.ref g,.ref h]++[.ref j,.ref k,.ref l]))) p3=some (.lst [.ref f,.ref g,.ref h,.ref j,.ref k,.ref l]):=aA;have PD:=(M.trans (aH N (o:=.lst ([.ref f,.ref g,.ref h]++[.ref j,.ref k,.ref l])))) _ _ (sc _ _ (sb _ _ g4));have PF:=(M.trans (aH N (o:=.lst ([.ref f,.ref g,.ref h]++[.ref j,.ref k,.ref l])))) _ _ (sc _ _ g5);have PH:=(M.trans (aH N (o:=.lst ([.ref f,.ref g,.ref h]++[.ref j,.ref k,.ref l])))) _ _ g9;have f9:=f8.same HX;have F6:=HX _ _ h1;have N1:=HX _ _ h2;have ET:=HX _ _ g8;dsimp only [aK];generalize aJ Hd p3 (.lst ([.ref f,.ref g,.ref h]++[.ref j,.ref k,.ref l]))=He at zz PD PF PH f9 F6 N1 ET;refine⟨d,b,6,rfl,f9.dk,Zd,Zd,λr6 Hf i0 i1 Df kf=>?_⟩;have s:=f9.draw Df kf;have E:=Fw.draw (.refl f9.dk) Df kf;have F:=kf _ _ zz ES.1 ES.2;rcases six i0 i1 with rfl|rfl|rfl|rfl|rfl|rfl
   ·exact⟨_,YT F,_,rfl,q _ (.add C n) _ ⟨y,A,B⟩ z (E.tup F6) s⟩
   ·exact⟨_,YT F,_,rfl,q _ (.take C n) _ ⟨y,A,B⟩ z (E.tup N1) s⟩
   ·exact⟨_,YT F,_,rfl,q _ (.move C zb n) _ ⟨y,OX,m4,A,B⟩ ⟨z,ib⟩ (E.tup ET) s⟩
   ·exact⟨_,YT F,_,rfl,q _ (.send zu C n) _ ⟨HW,y,A,B⟩ ⟨iu,z⟩ (E.tup PD) s⟩
   ·exact⟨_,YT F,_,rfl,q _ (.fetch zu C n) _ ⟨HW,y,A,B⟩ ⟨iu,z⟩ (E.tup PF) s⟩
   ·exact⟨_,YT F,_,rfl,q _ (.pass zu zv C n) _ ⟨HW,OZ,y,BH,A,B⟩ ⟨iu,iv,z⟩ (E.tup PH) s⟩
def qJ:Dd->Bool->List Str
 | .add _ _,_=>["is","full"]
 | .take _ _,_=>["is","short"]
 | .move _ _ _,_=>["is","short","full"]
 | .send _ _ _,true=>["is","no"]|.send _ _ _,false=>["short"]
 | .fetch _ _ _,true=>["is","no"]|.fetch _ _ _,false=>["full"]
 | .pass _ _ _ _,true=>["ok","no"]|.pass _ _ _ _,false=>[]
def kQ:Sp:=λvs H Q _=>∃(t:ZT)(x:Dd)(q:Bool),vs=[.ref t,.bl q]/\H t=some (.tup x.vs)/\∀l a,H l=none->a l=some (.lst ((qJ x q).map V.str))->Same H a->Q (.ref l) a
def Ty(a b c d e f:V):List (aR×V):=bG (bG (aM [] [(Sum.inr ("add":Str),a),(Sum.inr ("take":Str),b),(Sum.inr ("move":Str),c),(Sum.inr ("pass":Str),d)]) (Sum.inr ("send":Str)) e) (Sum.inr ("fetch":Str)) f
def Mb(a b c d e f:V)(x:Dd):aQ (Ty a b c d e f) (Sum.inr x.wd)=some (match x with|.add _ _=>a|.take _ _=>b|.move _ _ _=>c|.pass _ _ _ _=>d|.send _ _ _=>e|.fetch _ _ _=>f):=by
 cases x<;>rfl
def Ae(x:Dd):eP x.vs 0=some (.str x.wd):=by cases x<;>rfl
def Mc(x:Dd):jG (.str x.wd) [.str "add",.str "take",.str "move"]=!x.far:=by cases x<;>rfl
def eX:Dd->List Str
 | .add _ _=>["is","full"]|.take _ _=>["is","short"]|.move _ _ _=>["is","short","full"]|.send _ _ _=>["is","short","no"]|.fetch _ _ _=>["is","full","no"]|.pass _ _ _ _=>["ok","no"]
def pT(x:Dd)(h:x.far=false)(q:Bool):qJ x q=eX x:=by cases x<;>first|rfl|cases h
def oC(x:Dd)(h:x.far=true)(q:Bool):qJ x q=(eX x).filter λz=>(jG (.str z) [.str "short",.str "full"]) != q:=by cases x<;>cases q<;>first|rfl|cases h
def Af(x:Dd):(eX x).length<=3:=by cases x<;>exact ZN rfl
def bT{H:Hp}{p:ZT}{kvs:List (aR×V)}(e:H p=some (.dK kvs))(b:List (aR×V)){c:ZT}{o:HO}(a:H c=some o)(ne:∀z,o≠.dK z):(aJ H p (.dK b)) c=some o:=by
 rw[aD (λz=>by rw[z,e]at a;cases a;exact ne _ rfl)];exact a
def fK{H a:Hp}{p:ZT}{o:HO}(b:H p=none)(s:Same H a):Same H (aJ a p o):=λc u e=>by
 rw[aD (aB e b)];exact s _ _ e
def Ag(T:Txt K mg)(D:DefAt K mg "_law_words" B9 Zw):aI P w K mg base 1 "_law_words" Zw kQ:=by
 refine D.gg K0 (λa4 cdv a5 outer a6 H vs a7 a8 hr a0=>?_)
 ·obtain⟨t,x,y,rfl,gt,a3⟩:=a0;have j0:=cQ hr;refine⟨_,(kg (mi (i:=2) K0.nd (R.je (R.di lf (o0 (jw lf (jw lf jy))) (R.di lf (o0 (jw lf (jw lf jy))) (R.di lf (o0 (jw lf (jw lf (jw lf jy)))) (R.di lf (o0 (jw lf (jw lf jy))) R.jf)))))) (kg (qf (o0 (jw lf (jw lf (jw lf jy)))) (qg (jx 2) lf (ua j0))) (kg (qf (o0 (jw lf (jw lf (jw lf jy)))) (qg (jx 2) lf (ua j0))) (kg (mi (i:=3) K0.nd (u8 j0 (jx 2) (mj K 0))) (kg (mo (ml (R.db (K:=K)) (mj K 0) (mm (jw lf (jw lf (jw lf jy))))) (li (mn (jx 3))) ms) (li (mn (ww rfl (js:=[none,some 1]) (N:=["_law_word_here","_law_asked"]) (CompScope.by (aG B9) ["_law_deed_here","_law_asked","_law_words_here","_law_some"] rfl rfl Zk) (bJ rfl) (qe (K:=K) (jx 3)) (λa9 s₂ H₂ fp=>⟨(mq (i:=0) (show(["_law_word_here","_law_asked"]:List Str).Nodup by decide +kernel)),(R.dm (ml R.ne (re (R.db (K:=K)) (jx 0) (mm (jw lf (jw lf jy)))) (jx 1))),(jx 0)⟩))))))))),?_⟩;refine λp hp=>?_;have g0:(aJ H p (.dK [])) p=some (.dK []):=aA;have F:=aH (o:=.dK []) hp;generalize aJ H p (.dK [])=H0 at g0 F;refine⟨dC rfl,λh EK=>⟨dC rfl,λj ql=>⟨dC rfl,λl uf=>⟨dC rfl,λq J=>?_⟩⟩⟩⟩;have L:=aH (o:=.lst [.str "is",.str "full"]) EK;have a:(aJ H0 h (.lst [.str "is",.str "full"])) h=_:=aA;have f1:H h=none:=F.free EK;generalize aJ H0 h (.lst [.str "is",.str "full"])=H1 at L a ql uf J ⊢;have M:=aH (o:=.lst [.str "is",.str "short"]) ql;have b:(aJ H1 j (.lst [.str "is",.str "short"])) j=_:=aA;have f2:H j=none:=(F.trans L).free ql;generalize aJ H1 j (.lst [.str "is",.str "short"])=H2 at M b uf J ⊢;have O:=aH (o:=.lst [.str "is",.str "short",.str "full"]) uf;have c:(aJ H2 l (.lst [.str "is",.str "short",.str "full"])) l=_:=aA;have f3:H l=none:=((F.trans L).trans M).free uf;generalize aJ H2 l (.lst [.str "is",.str "short",.str "full"])=H3 at O c J ⊢;have Q:=aH (o:=.lst [.str "ok",.str "no"]) J;have d:(aJ H3 q (.lst [.str "ok",.str "no"])) q=_:=aA;have f4:H q=none:=(((F.trans L).trans M).trans O).free J;generalize aJ H3 q (.lst [.str "ok",.str "no"])=G at Q d ⊢;have PJ:Same H0 G:=((L.trans M).trans O).trans Q;have S:=PJ _ _ g0;refine⟨S,[(Sum.inr ("add":Str),.ref h),(Sum.inr ("take":Str),.ref j),(Sum.inr ("move":Str),.ref l),(Sum.inr ("pass":Str),.ref q)],rfl,ZN rfl,?_⟩;have S4:Same H G:=F.trans PJ;replace a:=Q _ _ (O _ _ (M _ _ a));replace b:=Q _ _ (O _ _ b);replace c:=Q _ _ c;show qK _ _ _ [some (.ref t),some (.bl y),some (.ref p),none] (aJ G p (.dK (aM [] [(Sum.inr ("add":Str),.ref h),(Sum.inr ("take":Str),.ref j),(Sum.inr ("move":Str),.ref l),(Sum.inr ("pass":Str),.ref q)])));generalize hk:aM [] [(Sum.inr ("add":Str),V.ref h),(Sum.inr ("take":Str),.ref j),(Sum.inr ("move":Str),.ref l),(Sum.inr ("pass":Str),.ref q)]=r;have l4:r.length=4:=by rw[<- hk];rfl
  have S5:Same H (aJ G p (.dK r)):=fK hp S4;have g5:(aJ G p (.dK r)) p=_:=aA;replace a:=bT S r a (λ_ z=>nomatch z);replace b:=bT S r b (λ_ z=>nomatch z);replace c:=bT S r c (λ_ z=>nomatch z);replace d:=bT S r d (λ_ z=>nomatch z);generalize aJ G p (.dK r)=H5 at a b c d S5 g5 ⊢;refine⟨dC rfl,λA LA=>⟨p,_,rfl,DPut.k (k:=Sum.inr ("send":Str)) (aZ g5 LA) (fQ (m:=100) Zo Zd),?_⟩⟩;have f5:H A=none:=S5.free LA;have B:=aH (o:=.lst [.str "is",.str "short",.str "no"]) LA;have u:(aJ H5 A (.lst [.str "is",.str "short",.str "no"])) A=_:=aA;have I:=B _ _ g5;generalize aJ H5 A (.lst [.str "is",.str "short",.str "no"])=H6 at B u I ⊢;generalize PK:bG r (Sum.inr ("send":Str)) (V.ref A)=g;have l5:g.length<=5:=by rw[<- PK];exact eJ (bQ _ _ _) Zo
  have S7:Same H (aJ H6 p (.dK g)):=fK hp (S5.trans B);have g7:(aJ H6 p (.dK g)) p=_:=aA;replace a:=bT I g (B _ _ a) (λ_ z=>nomatch z);replace b:=bT I g (B _ _ b) (λ_ z=>nomatch z);replace c:=bT I g (B _ _ c) (λ_ z=>nomatch z);replace d:=bT I g (B _ _ d) (λ_ z=>nomatch z);replace u:=bT I g u (λ_ z=>nomatch z);generalize aJ H6 p (.dK g)=H7 at a b c d u S7 g7 ⊢;refine⟨dC rfl,λC LB=>⟨p,_,rfl,DPut.k (k:=Sum.inr ("fetch":Str)) (aZ g7 LB) (fQ (m:=100) Zo Zd),?_⟩⟩;have f6:H C=none:=S7.free LB;have v:=aH (o:=.lst [.str "is",.str "full",.str "no"]) LB;have U:(aJ H7 C (.lst [.str "is",.str "full",.str "no"])) C=_:=aA;have E:=v _ _ g7;generalize aJ H7 C (.lst [.str "is",.str "full",.str "no"])=H8 at v U E ⊢;generalize Ux:bG g (Sum.inr ("fetch":Str)) (V.ref C)=f;have ek:f=Ty (.ref h) (.ref j) (.ref l) (.ref q) (.ref A) (.ref C):=by rw[<- Ux,<- PK,<- hk];rfl
  have S9:Same H (aJ H8 p (.dK f)):=fK hp (S7.trans v);have g9:(aJ H8 p (.dK f)) p=_:=aA;replace a:=bT E f (v _ _ a) (λ_ z=>nomatch z);replace b:=bT E f (v _ _ b) (λ_ z=>nomatch z);replace c:=bT E f (v _ _ c) (λ_ z=>nomatch z);replace d:=bT E f (v _ _ d) (λ_ z=>nomatch z);replace u:=bT E f (v _ _ u) (λ_ z=>nomatch z);replace U:=bT E f U (λ_ z=>nomatch z);generalize aJ H8 p (.dK f)=H9 at a b c d u U S9 g9 ⊢;have key:∃s:ZT,aQ f (Sum.inr x.wd)=some (.ref s)/\H s=none/\H9 s=some (.lst ((eX x).map V.str)):=by
   rw[ek,Mb];cases x with
   | add a1 n=>exact⟨h,rfl,f1,a⟩
   | take a1 n=>exact⟨j,rfl,f2,b⟩
   | move a1 a2 n=>exact⟨l,rfl,f3,c⟩
   | send a1 a2 n=>exact⟨A,rfl,f5,u⟩
   | fetch a1 a2 n=>exact⟨C,rfl,f6,U⟩
   | pass a1 a2 b0 n=>exact⟨q,rfl,f4,d⟩
  obtain⟨s,hv,fl,gl⟩:=key;have dg:DGet H9 p (.str x.wd) (some (.ref s)):=by rw[<- hv];exact DGet.k (k:=Sum.inr x.wd) g9
  have PL:=S9 _ _ gt;refine⟨_,YU PL,_,Ae x,p,_,rfl,dg,?_⟩;refine⟨_,YU PL,_,Ae x,aP rfl,λtq Ha sa ga=>⟨tq,_,rfl,.inr (YU ga),rfl,rfl,?_⟩⟩;have Sa:Same H Ha:=S9.trans sa;show if jG (.str x.wd) [.str "add",.str "take",.str "move"]=true then _ else _
  rw[Mc];cases hf:x.far with
  | false=>
   refine Su rfl ?_;refine a3 s Ha fl ?_ Sa;rw[pT x hf];exact sa _ _ gl
  | true=>
   refine Sv rfl ?_;have DA:=sa _ _ gl;refine⟨s,rfl,⟨_,YT DA⟩,?_⟩;refine bL (bB K s ((eX x).map V.str)) (by have:=Af x;rw[bA];omega) (λi ys W=>ys=(((eX x).take i).filter λz=>(jG (.str z) [.str "short",.str "full"]) != y).map V.str/\Same H W/\W s=some (.lst ((eX x).map V.str))) (λi ys W ⟨e,_,X⟩=>⟨YT X,by rw[e,bA];exact eJ (List.length_filter_le _ _) (by rw[wR];omega)⟩) ⟨rfl,Sa,DA⟩ (?_) (?_)
   ·rintro i b1 ys W Y ⟨e,Z,X⟩;rw[dH]at Y;cases hz:(eX x)[i]? with
    | none=>rw[hz]at Y;cases Y
    | some z=>
     rw[hz]at Y;cases Y;have key:=take_succ_filter (λz=>(jG (.str z) [.str "short",.str "full"]) != y) (eX x) i z hz;refine⟨aP rfl,λtp Hb sb gb=>⟨tp,_,rfl,.inr (YU gb),rfl,rfl,?_⟩⟩;show if (!decide (jG (.str z) [.str "short",.str "full"]=y))=true then _ else _
     have eb:(!decide (jG (.str z) [.str "short",.str "full"]=y))=(jG (.str z) [.str "short",.str "full"] != y):=by cases jG (.str z) [.str "short",.str "full"]<;>cases y<;>rfl
     rw[eb];refine cG (λa0=>⟨?_,Z.trans sb,sb _ _ X⟩) (λa0=>⟨?_,Z.trans sb,sb _ _ X⟩)
     ·rw[key,ZQ a0,eF,e];rfl
     ·rw[key,ZP (by rw[a0];exact ZZ),append_nil,e]
   ·rintro ys W ⟨e,Z,X⟩;intro pn PM;refine a3 pn _ (Z.free PM) ?_ (Z.trans (aH PM));rw[aA,e,bA,lO (bH _),oC x hf]
def Md:An->Str|.is1 _=>"is"|.is2 _ _=>"is"|.short _=>"short"|.full _=>"full"|.no _=>"no"|.ok=>"ok"
def rR:Sp:=λvs H Q _=>∃(d b t:ZT)(x:Dd)(z:Str),vs=[.ref d,.ref t,.str z]/\Dk H d b/\H t=some (.tup x.vs)/\x.Ok/\z∈eX x ∧
 ∀(c:ZT)(y:An)(a:Hp),An.Of x y->Md y=z->a c=some (.tup y.vs)->Fw d b H a->Q (.ref c) a
def Tg(x:Dd):eP x.vs (-1)=some (.int (x.n:Int)):=by cases x<;>rfl
def dY{r:Int}(h:0<=r):∃z:Nat,r=z:=⟨r.toNat,Zo⟩
def wA(T:Txt K mg)(S:aI P w K mg base 1 "_law_draw" ZF bP)(L:aI P w K mg base 2 "_law_end" ZF bP)(D:DefAt K mg "_law_answer" K2 Zv):aI P w K mg base 3 "_law_answer" Zv rR:=by
 refine D.gg M (λa3 cdv a4 outer a5 a6 vs a8 a9 J h=>?_)
 ·obtain⟨d,b,t,x,a2,rfl,O,gt,U,s,q⟩:=h;have G:=U.n;refine⟨_,(kg (mi (i:=3) M.nd (mv (AT (K:=K)) (jx 1) (R.gv kt))) (kg (mi (i:=4) M.nd (mh L J rfl (jw (jx 0) (jw (lv pi (lv FS (lv wy kt kt) (jx 3)) kt) jy)))) (kg (mi (i:=5) M.nd (lv pi (jx 3) (mh L J rfl (jw (jx 0) (jw (lv pi (lv FS (lv wy kt kt) (jx 3)) kt) jy))))) (kg (mo (ml pq (jx 2) lf) (li (mn (mm (jw lf (jw (mv (AT (K:=K)) (jx 1) (lv pi kt (lv R.dl (mh S J rfl (jw (jx 0) (jw kt jy))) (ub R.dq rfl T.b_int iH (jw (re pq (mj K 1) lf) jy))))) jy))))) ms) (kg (mo (ml pq (jx 2) lf) (li (mn (mm (jw lf jy)))) ms) (kg (mo (ml pq (jx 2) lf) (li (mn (mm (jw lf (jw (mh L J rfl (jw (jx 0) (jw (jx 3) jy))) jy))))) ms) (kg (mo (ml pq (jx 2) lf) (li (mn (mm (jw lf (jw (lv FS (lv wy kt kt) (mh L J rfl (jw (jx 0) (jw (jx 3) jy)))) jy))))) ms) (kg (mo (ml pq (mj K 1) lf) (li (mn (mm (jw lf (jw (jx 4) (jw (jx 5) jy)))))) ms) (li (mn (mm (jw lf (jw (mv (px (K:=K)) (o0 (jw (jx 4) (jw (jx 5) jy))) (ub R.dq rfl T.b_int iH (jw (re (R.db (K:=K)) (mj K 1) (mm (jw lf (jw lf jy)))) jy))) jy))))))))))))),?_⟩;refine⟨_,YU gt,_,Tg x,?_⟩;refine⟨⟨Zd,Zd,Zd⟩,d,b,1000000000000-(x.n:Int)+1,rfl,O,Zo,Zo,λy H1 W H Q X=>?_⟩;refine⟨⟨Zd,Zd,Zd⟩,d,b,1000000000000-(x.n:Int)+1,rfl,Q,Zo,Zo,λo Y Z I D2 k2=>?_⟩;dsimp only [aK];have f2:=((Fw.refl O).draw Q X).draw D2 k2;obtain⟨y,rfl⟩:=dY W;obtain⟨o,rfl⟩:=dY Z;have z:=f2.tup gt;have e:=f2;dsimp only [rE,mI];show qK _ _ _ [some (.ref d),some (.ref t),some (.str a2),some (.int (x.n:Int)),some (.int (y:Int)),some (.int ((x.n:Int)+(o:Int)))] Y
  cases x with
  | add a n=>
   simp only [Dd.n]at G H I;simp only [eX,mem_cons,ZJ,or_false]at s;rcases s with rfl|rfl
   ·refine⟨_,YU z,_,rfl,⟨dC rfl,λp u=>⟨_,YU (aZ z u),_,rfl,aP rfl,λC N v E=>⟨C,_,rfl,.inr (YU E),rfl,rfl,⟨_,YT (v _ _ aA),_,rfl,aP rfl,λF f j k=>?_⟩⟩⟩⟩⟩;refine q F (.is1 (n+o)) f ⟨Zo,Zo⟩ rfl ?_ (((e.new u).same v).same j);rw[k];show some (HO.tup [V.str "is",.int ((n:Int)+(o:Int))])=some (HO.tup [V.str "is",.int ((n+o:Nat):Int)]);rw[show((n+o:Nat):Int)=(n:Int)+(o:Int) by omega]
   ·refine⟨⟨Zd,Zd,Zd⟩,d,b,(n:Int),rfl,e.dk,Zo,Zo,λc A r B l m=>⟨aP rfl,λp f j k=>?_⟩⟩;obtain⟨c,rfl⟩:=dY r;refine q p (.full (1000000000000-c)) f ⟨Zo,Zo⟩ rfl ?_ ((e.draw l m).same j);rw[k];show some (HO.tup [V.str "full",.int ((1000000000000:Int)-(c:Int))])=some (HO.tup [V.str "full",.int ((1000000000000-c:Nat):Int)]);rw[show((1000000000000-c:Nat):Int)=(1000000000000:Int)-(c:Int) by omega]
  | take a n=>
   simp only [Dd.n]at G H I;simp only [eX,mem_cons,ZJ,or_false]at s;rcases s with rfl|rfl
   ·refine⟨_,YU z,_,rfl,⟨dC rfl,λp u=>⟨_,YU (aZ z u),_,rfl,aP rfl,λC N v E=>⟨C,_,rfl,.inr (YU E),rfl,rfl,⟨_,YT (v _ _ aA),_,rfl,aP rfl,λF f j k=>?_⟩⟩⟩⟩⟩;exact q F (.is1 y) f (by show y+n<=1000000000000;omega) rfl k (((e.new u).same v).same j)
   ·refine⟨d,b,(n:Int),rfl,e.dk,Zo,Zo,λc A r B l m=>⟨aP rfl,λp f j k=>?_⟩⟩;obtain⟨c,rfl⟩:=dY r;exact q p (.short c) f (by show c<n;omega) rfl k ((e.draw l m).same j)
  | move a b' n=>
   simp only [Dd.n]at G H I;simp only [eX,mem_cons,ZJ,or_false]at s;rcases s with rfl|rfl|rfl
   ·refine⟨_,YU z,_,rfl,aP rfl,λp f j k=>?_⟩;refine q p (.is2 y (n+o)) f ⟨Zo,Zo,Zo⟩ rfl ?_ (e.same j);rw[k];show some (HO.tup [V.str "is",.int (y:Int),.int ((n:Int)+(o:Int))])=some (HO.tup [V.str "is",.int (y:Int),.int ((n+o:Nat):Int)]);rw[show((n+o:Nat):Int)=(n:Int)+(o:Int) by omega]
   ·refine⟨d,b,(n:Int),rfl,e.dk,Zo,Zo,λc A r B l m=>⟨aP rfl,λp f j k=>?_⟩⟩;obtain⟨c,rfl⟩:=dY r;exact q p (.short c) f (by show c<n;omega) rfl k ((e.draw l m).same j)
   ·refine⟨⟨Zd,Zd,Zd⟩,d,b,(n:Int),rfl,e.dk,Zo,Zo,λc A r B l m=>⟨aP rfl,λp f j k=>?_⟩⟩;obtain⟨c,rfl⟩:=dY r;refine q p (.full (1000000000000-c)) f ⟨Zo,Zo⟩ rfl ?_ ((e.draw l m).same j);rw[k];show some (HO.tup [V.str "full",.int ((1000000000000:Int)-(c:Int))])=some (HO.tup [V.str "full",.int ((1000000000000-c:Nat):Int)]);rw[show((1000000000000-c:Nat):Int)=(1000000000000:Int)-(c:Int) by omega]
  | send h a n=>
   simp only [Dd.n]at G H I;simp only [eX,mem_cons,ZJ,or_false]at s;rcases s with rfl|rfl|rfl
   ·refine⟨_,YU z,_,rfl,⟨dC rfl,λp u=>⟨_,YU (aZ z u),_,rfl,aP rfl,λC N v E=>⟨C,_,rfl,.inr (YU E),rfl,rfl,⟨_,YT (v _ _ aA),_,rfl,aP rfl,λF f j k=>?_⟩⟩⟩⟩⟩;exact q F (.is1 y) f (by show y+n<=1000000000000;omega) rfl k (((e.new u).same v).same j)
   ·refine⟨d,b,(n:Int),rfl,e.dk,Zo,Zo,λc A r B l m=>⟨aP rfl,λp f j k=>?_⟩⟩;obtain⟨c,rfl⟩:=dY r;exact q p (.short c) f (by show c<n;omega) rfl k ((e.draw l m).same j)
   ·refine⟨d,b,2,rfl,e.dk,Zd,Zd,λc A r B l m=>⟨_,YU ((e.draw l m).tup gt),_,rfl,.inl ⟨Zo,Zo⟩,_,YU ((e.draw l m).tup gt),.str h,?_,aP rfl,λp f j k=>?_⟩⟩
    ·show eP _ (1+c*0)=_;rw[Int.mul_zero];rfl
    ·exact q p (.no h) f rfl rfl k ((e.draw l m).same j)
  | fetch h a n=>
   simp only [Dd.n]at G H I;simp only [eX,mem_cons,ZJ,or_false]at s;rcases s with rfl|rfl|rfl
   ·refine⟨_,YU z,_,rfl,⟨dC rfl,λp u=>⟨_,YU (aZ z u),_,rfl,aP rfl,λC N v E=>⟨C,_,rfl,.inr (YU E),rfl,rfl,⟨_,YT (v _ _ aA),_,rfl,aP rfl,λF f j k=>?_⟩⟩⟩⟩⟩;refine q F (.is1 (n+o)) f ⟨Zo,Zo⟩ rfl ?_ (((e.new u).same v).same j);rw[k];show some (HO.tup [V.str "is",.int ((n:Int)+(o:Int))])=some (HO.tup [V.str "is",.int ((n+o:Nat):Int)]);rw[show((n+o:Nat):Int)=(n:Int)+(o:Int) by omega]
   ·refine⟨⟨Zd,Zd,Zd⟩,d,b,(n:Int),rfl,e.dk,Zo,Zo,λc A r B l m=>⟨aP rfl,λp f j k=>?_⟩⟩;obtain⟨c,rfl⟩:=dY r;refine q p (.full (1000000000000-c)) f ⟨Zo,Zo⟩ rfl ?_ ((e.draw l m).same j);rw[k];show some (HO.tup [V.str "full",.int ((1000000000000:Int)-(c:Int))])=some (HO.tup [V.str "full",.int ((1000000000000-c:Nat):Int)]);rw[show((1000000000000-c:Nat):Int)=(1000000000000:Int)-(c:Int) by omega]
   ·refine⟨d,b,2,rfl,e.dk,Zd,Zd,λc A r B l m=>⟨_,YU ((e.draw l m).tup gt),_,rfl,.inl ⟨Zo,Zo⟩,_,YU ((e.draw l m).tup gt),.str h,?_,aP rfl,λp f j k=>?_⟩⟩
    ·show eP _ (1+c*0)=_;rw[Int.mul_zero];rfl
    ·exact q p (.no h) f rfl rfl k ((e.draw l m).same j)
  | pass h g a n=>
   simp only [Dd.n]at G H I;simp only [eX,mem_cons,ZJ,or_false]at s;rcases s with rfl|rfl
   ·refine⟨aP rfl,λp f j k=>?_⟩;exact q p .ok f trivial rfl k (e.same j)
   ·refine⟨d,b,2,rfl,e.dk,Zd,Zd,λc A r B l m=>?_⟩;rcases(by omega:c=0∨c=1) with rfl|rfl
    ·refine⟨_,YU ((e.draw l m).tup gt),_,rfl,.inl ⟨Zo,Zo⟩,_,YU ((e.draw l m).tup gt),.str h,rfl,aP rfl,λp f j k=>?_⟩;exact q p (.no h) f (.inl rfl) rfl k ((e.draw l m).same j)
    ·refine⟨_,YU ((e.draw l m).tup gt),_,rfl,.inl ⟨Zo,Zo⟩,_,YU ((e.draw l m).tup gt),.str g,rfl,aP rfl,λp f j k=>?_⟩;exact q p (.no g) f (.inr rfl) rfl k ((e.draw l m).same j)
structure MenusAt(H:Hp)(lm:ZT)(M:List ZT):Prop where
 ex:∃(a0 a1 a2 a3:ZT)(ws us ps ks:List Str),M=[lm,a0,a1,a2,a3]/\H lm=some (.lst [.ref a0,.ref a1,.ref a2,.ref a3])/\H a0=some (.lst (ws.map V.str))/\H a1=some (.lst (us.map V.str))/\H a2=some (.lst (ps.map V.str))/\H a3=some (.lst (ks.map V.str)) ∧
  Menu ws/\Menu us/\(1<=ps.length/\ps.length<=6/\∀z∈ps,bZ z)/\1<=ks.length/\ks.length<=6/\∀z∈ks,iN z
def MenusAt.keep{H a:Hp}{b:ZT}{M:List ZT}(h:MenusAt H b M)(k:∀c∈M,∀o,H c=some o->a c=some o):MenusAt a b M:=by
 obtain⟨d,e,f,g,i,j,ps,l,rfl,m,n,p,q,s,r⟩:=h.ex;exact⟨d,e,f,g,i,j,ps,l,rfl,k _ Zs _ m,k _ Zs _ n,k _ Zs _ p,k _ Zs _ q,k _ Zs _ s,r⟩
def Fw.menus{d b:ZT}{H a:Hp}{g:ZT}{M:List ZT}(f:Fw d b H a)(j:d∉M)(k:b∉M)(h:MenusAt H g M):MenusAt a g M:=h.keep λc i o e=>f.get e (λz=>j (z▸i)) (λz=>k (z▸i))
def Fw.put{d b a:ZT}{H g:Hp}{o:HO}(f:Fw d b H g)(h:H a=none):Fw d b H (aJ g a o):=by
 have i:=f.d0.ne h;refine⟨f.d0,?_,λc u e j l=>?_⟩
 ·obtain⟨m,s,k,n,p,q⟩:=f.dk.ex;exact⟨m,s,k,by rw[aD (λz=>i.1 z.symm)];exact n,by rw[aD (λz=>i.2 z.symm)];exact p,q⟩
 ·rw[aD (aB e h)];exact f.kp _ _ e j l
def oE:Sp:=λvs H Q _=>∃(d b c:ZT)(M:List ZT),vs=[.ref d,.ref c]/\Dk H d b/\MenusAt H c M/\d∉M/\b∉M/\∀(t:ZT)(p k:Str)(a:Hp),bZ p->iN k->a t=some (.tup [.str p,.str k])->Fw d b H a->Q (.ref t) a
def Fc(T:Txt K mg)(l:aI P w K mg base 1 "_law_draw" ZF bP)(D:DefAt K mg "_law_spot" Z Zu):aI P w K mg base 2 "_law_spot" Zu oE:=by
 refine D.gg AA (λa4 Y a5 X a6 H vs a8 a9 m h=>?_)
 ·obtain⟨d,b,g,b0,rfl,n,x,y,A,q⟩:=h;obtain⟨p,r,k,a,ws,us,ps,B,rfl,i,h1,h2,s,u,mw,mu,⟨p1,p6,pn⟩,k1,k6,C⟩:=x.ex;have j:∀c∈[g,p,r,k,a],c≠d/\c≠b:=λc f=>⟨λz=>y (z▸f),λz=>A (z▸f)⟩
  refine⟨_,(li (mn (mm (jw (mv (px (K:=K)) (nw K 1) (mh l m rfl (jw (jx 0) (jw (qd (ut (K:=K)) rfl T.b_len cC (jw (nw K 1) jy)) jy)))) (jw (mv (px (K:=K)) (nw K 1) (mh l m rfl (jw (jx 0) (jw (qd (ut (K:=K)) rfl T.b_len cC (jw (nw K 1) jy)) jy)))) jy))))),?_⟩;refine⟨_,YT i,_,rfl,_,YT i,_,rfl,_,.inl (YT s),d,b,(ps.length:Int),by rw[bA],n,Zo,Zo,λr1 E F G v I=>?_⟩;have f1:=(Fw.refl n).draw v I;have ge:∀c∈[g,p,r,k,a],∀o,H c=some o->E c=some o:=λc f o e=>f1.get e (j c f).1 (j c f).2
  obtain⟨b1,J,rfl,L⟩:=gZ F G;refine⟨_,YT (ge k Zs _ s),_,L,?_⟩;refine⟨_,YT (ge g Zs _ i),_,rfl,_,YT (ge g Zs _ i),_,rfl,_,.inl (YT (ge a Zs _ u)),d,b,(B.length:Int),by rw[bA],v,Zo,Zo,λr2 H2 M N O Q=>?_⟩;have f2:=f1.draw O Q;obtain⟨b2,R,rfl,S⟩:=gZ M N;refine⟨_,YT (f2.get u (j a Zs).1 (j a Zs).2),_,S,aP rfl,λt U V W=>?_⟩;exact q t _ _ U (pn _ (getElem_mem J)) (C _ (getElem_mem R)) W (f2.same V)
def Fw.free{d b a:ZT}{H c:Hp}(f:Fw d b H c)(h:c a=none):H a=none:=by
 have g:=f.dk.ne h
 cases e:H a with
 | none=>rfl
 | some o=>rw[f.kp _ _ e g.1 g.2]at h;cases h
structure Ah(rs:List RX):Prop where
 wh:RX.Whole rs
 ok:∀r∈rs,r.Ok
 rk:∀r∈rs,r.rank<=2
 len:rs.length=0
 nx:∀n t,.next n t∈rs->n<=900006/\t<500000000000
def aF{a:Type}{xs:List a}{x y:a}(h:y∈xs++[x]):y∈xs∨y=x:=by
 rcases Zma.mp h with h|h
 ·exact .inl h
 ·exact .inr (Zms.mp h)
def oF:("abcdefghijklmnopqrstuvwxyz":Str)=tx LET:=by rw[kG ("abcdefghijklmnopqrstuvwxyz":Str),yX]
def Fd:("abcdefghijklmnopqrstuvwxyz":Str)++("0123456789":Str)=tx KLET:=by rw[kG ("abcdefghijklmnopqrstuvwxyz":Str),yX,kG ("0123456789":Str),Ko,cF];rfl
def fL{H:Hp}{a l:ZT}{ws:List Str}{xs:List ZT}(b:H a=some (.lst (ws.map V.str)))(c:1<=ws.length)(d:H l=some (.lst (xs.map V.ref))):a≠l:=by
 intro e;rw[e,d]at b;cases ws with
 | nil=>cases c
 | cons w ws=>
  cases xs with
  | nil=>cases b
  | cons x xs=>cases b
def Ff:LET.Nodup:=by decide
def Qn:KLET.Nodup:=by decide
def pU:Sp:=λvs H Q _=>∃(d b:ZT),vs=[.ref d]/\Dk H d b/\∀(c:ZT)(M:List ZT)(a:Hp),MenusAt a c M->d∉M->b∉M->Fw d b H a->Q (.ref c) a
def Qo{d a b c e f:ZT}(g:a≠d)(i:b≠d)(j:c≠d)(k:e≠d)(l:f≠d):d∉[a,b,c,e,f]:=by
 intro h;simp only [mem_cons,ZJ,or_false]at h;rcases h with h|h|h|h|h
 ·exact g h.symm
 ·exact i h.symm
 ·exact j h.symm
 ·exact k h.symm
 ·exact l h.symm
def WordsOf.nm{ws:List Str}(h:WordsOf LET 8 ws):∀z∈ws,bZ z:=λz a=>h.of z a
def WordsOf.ky{ws:List Str}(h:WordsOf KLET 12 ws):∀z∈ws,iN z:=λz a=>h.of z a
def Ai(T:Txt K mg)(y:aI P w K mg base 1 "_law_draw" ZF bP)(z:aI P w K mg base 2 "_law_unlike" Zy iP)(D:DefAt K mg "_law_menus" O4 ["_law_deck_here"]):aI P w K mg base 3 "_law_menus" ["_law_deck_here"] pU:=by
 refine D.gg S (λa6 cdv a8 outer a9 b0 vs b1 b2 k a4=>?_)
 ·obtain⟨d,b,rfl,U,a5⟩:=a4;refine⟨_,(kg (mi (i:=1) S.nd lf) (kg (mi (i:=2) S.nd (o0 (jw (mh z k rfl (jw (jx 0) (jw (jx 1) (jw kt (jw (lv pi kt (mh y k rfl (jw (jx 0) (jw kt jy)))) jy))))) jy))) (kg (pz (tm (K:=K) PySem.F.plainAttrs_list PySem.F.slot_list_append PySem.F.type_list_append NE (jx 2) (jw (mh z k rfl (jw (jx 0) (jw (jx 1) (jw kt (jw (lv pi kt (mh y k rfl (jw (jx 0) (jw kt jy)))) jy))))) jy))) (kg (pz (tm (K:=K) PySem.F.plainAttrs_list PySem.F.slot_list_append PySem.F.type_list_append NE (jx 2) (jw (mh z k rfl (jw (jx 0) (jw (jx 1) (jw kt (jw (lv pi kt (mh y k rfl (jw (jx 0) (jw kt jy)))) jy))))) jy))) (kg (pz (tm (K:=K) PySem.F.plainAttrs_list PySem.F.slot_list_append PySem.F.type_list_append NE (jx 2) (jw (mh z k rfl (jw (jx 0) (jw (lv xz (jx 1) lf) (jw kt (jw (lv pi kt (mh y k rfl (jw (jx 0) (jw kt jy)))) jy))))) jy))) (li (mn (jx 2)))))))),?_⟩;refine⟨d,b,5,rfl,U,Zd,Zd,λr H1 n I W e1=>?_⟩;obtain⟨r,rfl⟩:=dY n;refine⟨d,b,LET,8,2+r,by rw[<- oF,show((2+r:Nat):Int)=2+(r:Int) by omega];rfl,W,Zo,Zo,Zd,Ff,by show 2+r<=26;omega,Zd,λa X Y hw lw g A B Z e2=>⟨dC rfl,λc p=>?_⟩⟩;have f2:=((Fw.refl U).draw W e1).draw Z e2;have l:=Z.ne p;have C:=f2.new (o:=.lst [.ref a]) p;have f:(aJ Y c (.lst [.ref a])) c=some (.lst ([a].map V.ref)):=aA;replace g:=aZ (u:=.lst [.ref a]) g p;dsimp only [aK];generalize aJ Y c (.lst [.ref a])=H3 at C f g;refine⟨.inl ⟨rfl,_,YT f⟩,d,b,5,rfl,C.dk,Zd,Zd,λs H4 n I J e4=>?_⟩;obtain⟨s,rfl⟩:=dY n;refine⟨d,b,LET,8,2+s,by rw[<- oF,show((2+s:Nat):Int)=2+(s:Int) by omega];rfl,J,Zo,Zo,Zd,Ff,by show 2+s<=26;omega,Zd,λe us E hu lu g1 L M D5 e5=>?_⟩;have f5:=(C.draw J e4).draw D5 e5;have F5:=((Fw.refl C.dk).draw J e4).draw D5 e5;replace f:=F5.get f l.1 l.2;replace g:=F5.get g A B;have N:=fL g Zo f;have O:=fL g1 Zo f;refine⟨c,_,_,rfl,rfl,f,fQ (m:=100) (ZN rfl) Zd,?_⟩;have F:=f5.put (f2.free p) (o:=.lst ([a].map V.ref++[.ref e]));replace f:(aJ E c (.lst ([a].map V.ref++[.ref e]))) c=some (.lst ([a,e].map V.ref)):=aA;replace g:(aJ E c (.lst ([a].map V.ref++[.ref e]))) a=_:=(aD N).trans g;replace g1:(aJ E c (.lst ([a].map V.ref++[.ref e]))) e=_:=(aD O).trans g1;generalize aJ E c (.lst ([a].map V.ref++[.ref e]))=H6 at F f g g1;refine⟨.inl ⟨rfl,_,YT f⟩,d,b,6,rfl,F.dk,Zd,Zd,λt H7 n I Q e7=>?_⟩;obtain⟨t,rfl⟩:=dY n;refine⟨d,b,LET,8,1+t,by rw[<- oF,show((1+t:Nat):Int)=1+(t:Int) by omega];rfl,Q,Zo,Zo,Zd,Ff,by show 1+t<=26;omega,Zd,λh ps v hp lp g2 n2 m2 D8 e8=>?_⟩;have f8:=(F.draw Q e7).draw D8 e8;have R:=((Fw.refl F.dk).draw Q e7).draw D8 e8;replace f:=R.get f l.1 l.2;replace g:=R.get g A B;replace g1:=R.get g1 L M;have PN:=fL g2 Zo f;refine⟨c,_,_,rfl,rfl,f,fQ (m:=100) (ZN rfl) Zd,?_⟩;have G:=f8.put (f2.free p) (o:=.lst ([a,e].map V.ref++[.ref h]));replace f:(aJ v c (.lst ([a,e].map V.ref++[.ref h]))) c=some (.lst ([a,e,h].map V.ref)):=aA;replace g:(aJ v c (.lst ([a,e].map V.ref++[.ref h]))) a=_:=(aD N).trans g;replace g1:(aJ v c (.lst ([a,e].map V.ref++[.ref h]))) e=_:=(aD O).trans g1;replace g2:(aJ v c (.lst ([a,e].map V.ref++[.ref h]))) h=_:=(aD PN).trans g2;generalize aJ v c (.lst ([a,e].map V.ref++[.ref h]))=H9 at G f g g1 g2;refine⟨.inl ⟨rfl,_,YT f⟩,cX Zk,d,b,6,rfl,G.dk,Zd,Zd,λx Ha n I Da ea=>?_⟩;obtain⟨x,rfl⟩:=dY n;refine⟨d,b,KLET,12,1+x,by rw[<- Fd,show((1+x:Nat):Int)=1+(x:Int) by omega];rfl,Da,Zo,Zo,Zd,Qn,by show 1+x<=36;omega,Zd,λj ks q hk lk g3 n3 m3 Db eb=>?_⟩;have fb:=(G.draw Da ea).draw Db eb;have H:=((Fw.refl G.dk).draw Da ea).draw Db eb;replace f:=H.get f l.1 l.2;replace g:=H.get g A B;replace g1:=H.get g1 L M;replace g2:=H.get g2 n2 m2;have Uy:=fL g3 Zo f;refine⟨c,_,_,rfl,rfl,f,fQ (m:=100) (ZN rfl) Zd,?_⟩;have fc:=fb.put (f2.free p) (o:=.lst ([a,e,h].map V.ref++[.ref j]));replace f:(aJ q c (.lst ([a,e,h].map V.ref++[.ref j]))) c=some (.lst ([a,e,h,j].map V.ref)):=aA;replace g:(aJ q c (.lst ([a,e,h].map V.ref++[.ref j]))) a=_:=(aD N).trans g;replace g1:(aJ q c (.lst ([a,e,h].map V.ref++[.ref j]))) e=_:=(aD O).trans g1;replace g2:(aJ q c (.lst ([a,e,h].map V.ref++[.ref j]))) h=_:=(aD PN).trans g2;replace g3:(aJ q c (.lst ([a,e,h].map V.ref++[.ref j]))) j=_:=(aD Uy).trans g3;generalize aJ q c (.lst ([a,e,h].map V.ref++[.ref j]))=Hc at fc f g g1 g2 g3;have mw:Menu X:=⟨hw,Zo,Zo⟩;have mu:Menu us:=⟨hu,Zo,Zo⟩;have hM:MenusAt Hc c [c,a,e,h,j]:=⟨a,e,h,j,X,us,ps,ks,rfl,f,g,g1,g2,g3,mw,mu,⟨Zo,Zo,hp.nm⟩,Zo,Zo,hk.ky⟩;have od:=Qo l.1 A L n2 n3;have ob:=Qo l.2 B M m2 m3;exact a5 c _ Hc hM od ob fc
def Aj(H:Hp)(e:ZT)(n:Nat)(t:ZT)(x:Dd)(q:Bool):Prop:=H e=some (.lst [.int (n:Int),.ref t,.bl q])/\H t=some (.tup x.vs)
def Fg(x:Dd):jG (.str x.wd) [.str "send",.str "fetch",.str "pass"]=x.far:=by cases x<;>rfl
def dP:RX->Str|.next _ _=>"next"|.has _ _=>"has"|.kept _ _ _ _ _ _=>"kept"|.came _ _ _ _ _=>"came"|.asked _=>"asked"|.done _ _ _=>"done"
def Me:RX->V|.next n _=>.int (n:Int)|.has z _=>.str z|.kept n _ _ _ _ _=>.int (n:Int)|.came n _ _ _ _=>.int (n:Int)|.asked n=>.int (n:Int)|.done n _ _=>.int (n:Int)
def Qp:RX->V|.next _ t=>.int (t:Int)|.has _ m=>.int (m:Int)|.kept _ t _ _ _ _=>.int (t:Int)|.came _ t _ _ _=>.int (t:Int)|.asked _=>.non|.done _ t _=>.int (t:Int)
def pV{H:Hp}{a:ZT}{r:RX}(h:r.At H a):∃xs,H a=some (.tup xs)/\eP xs 0=some (.str (dP r))/\eP xs 1=some (Me r)/\(Qp r≠.non->eP xs 2=some (Qp r)):=by
 cases r with
 | next n t=>exact⟨_,h,rfl,rfl,λ_=>rfl⟩
 | has z m=>exact⟨_,h,rfl,rfl,λ_=>rfl⟩
 | kept n t p k d y=>obtain⟨b,c,e,f,g⟩:=h;exact⟨_,e,rfl,rfl,λ_=>rfl⟩
 | came n t p k d=>obtain⟨b,e,f⟩:=h;exact⟨_,e,rfl,rfl,λ_=>rfl⟩
 | asked n=>exact⟨_,h,rfl,rfl,λz=>ZO rfl z⟩
 | done n t y=>obtain⟨b,e,f⟩:=h;exact⟨_,e,rfl,rfl,λ_=>rfl⟩
structure Un where
 n:Nat
 x:Dd
 q:Bool
 e:Addr
 t:Addr
def Ak{us:List Un}(h:(us.map (·.n)).Nodup){i j:Nat}{u v:Un}(f:us[i]?=some u)(g:us[j]?=some v)(k:i≠j):u.n≠v.n:=by
 intro e;obtain⟨a,b⟩:=Zgs.mp f;obtain⟨c,d⟩:=Zgs.mp g;have p:=pairwise_iff_getElem.mp h;rcases Nat.lt_or_gt_of_ne k with z|z
 ·have:=p i j (by simpa using a) (by simpa using c) z;simp only [getElem_map,b,d]at this;exact this e
 ·have:=p j i (by simpa using c) (by simpa using a) z;simp only [getElem_map,b,d]at this;exact this e.symm
def hG{b:Type}{us:List b}{j:Nat}{u v:b}(h:v∈us.set j u):v=u∨∃i,i≠j/\us[i]?=some v:=by
 obtain⟨i,a,e⟩:=getElem_of_mem h;rw[getElem_set]at e;split at e
 ·exact .inl e.symm
 ·rename_i c;rw[length_set]at a;exact .inr ⟨i,λz=>c z.symm,by rw[bR a,e]⟩
def tT(x:Dd):∀v∈x.vs,bU v=true:=by
 intro v a;cases x<;>simp only [Dd.vs,mem_cons,ZJ,or_false]at a<;>rcases a with rfl|rfl|rfl|rfl|rfl<;>rfl
def Dk.put'{c:Hp}{d b:ZT}{o:HO}{a:ZT}(D:Dk c d b)(e:a≠d)(f:a≠b):Dk (aJ c a o) d b:=by
 obtain⟨g,s,k,h,i,j⟩:=D.ex;exact⟨g,s,k,by rw[aD e.symm];exact h,by rw[aD f.symm];exact i,j⟩
def Mf{us:List Un}(h:(us.map (·.e)).Nodup){i j:Nat}{u v:Un}(f:us[i]?=some u)(g:us[j]?=some v)(k:i≠j):u.e≠v.e:=by
 intro e;obtain⟨a,b⟩:=Zgs.mp f;obtain⟨c,d⟩:=Zgs.mp g;have p:=pairwise_iff_getElem.mp h;rcases Nat.lt_or_gt_of_ne k with z|z
 ·have:=p i j (by simpa using a) (by simpa using c) z;simp only [getElem_map,b,d]at this;exact this e
 ·have:=p j i (by simpa using c) (by simpa using a) z;simp only [getElem_map,b,d]at this;exact this e.symm
def Fi{r:RX}(h:dP r="next"):∃n t,r=.next n t:=by
 cases r with
 | next n t=>exact⟨n,t,rfl⟩
 | has z m=>exact ZO (show("has":Str)="next" from h) Zk
 | kept n t p k x y=>exact ZO (show("kept":Str)="next" from h) Zk
 | came n t p k x=>exact ZO (show("came":Str)="next" from h) Zk
 | asked n=>exact ZO (show("asked":Str)="next" from h) Zk
 | done n t y=>exact ZO (show("done":Str)="next" from h) Zk
def Fj{r:RX}(h:dP r="kept"):∃n t p k x y,r=.kept n t p k x y:=by
 cases r with
 | kept n t p k x y=>exact⟨n,t,p,k,x,y,rfl⟩
 | has z m=>exact ZO (show("has":Str)="kept" from h) Zk
 | next n t=>exact ZO (show("next":Str)="kept" from h) Zk
 | came n t p k x=>exact ZO (show("came":Str)="kept" from h) Zk
 | asked n=>exact ZO (show("asked":Str)="kept" from h) Zk
 | done n t y=>exact ZO (show("done":Str)="kept" from h) Zk
def jO{r:RX}(h:dP r="came"):∃n t p k x,r=.came n t p k x:=by
 cases r with
 | came n t p k x=>exact⟨n,t,p,k,x,rfl⟩
 | has z m=>exact ZO (show("has":Str)="came" from h) Zk
 | next n t=>exact ZO (show("next":Str)="came" from h) Zk
 | kept n t p k x y=>exact ZO (show("kept":Str)="came" from h) Zk
 | asked n=>exact ZO (show("asked":Str)="came" from h) Zk
 | done n t y=>exact ZO (show("done":Str)="came" from h) Zk
def tU{r:RX}(h:dP r="done"):∃n t y,r=.done n t y:=by
 cases r with
 | done n t y=>exact⟨n,t,y,rfl⟩
 | has z m=>exact ZO (show("has":Str)="done" from h) Zk
 | next n t=>exact ZO (show("next":Str)="done" from h) Zk
 | kept n t p k x y=>exact ZO (show("kept":Str)="done" from h) Zk
 | asked n=>exact ZO (show("asked":Str)="done" from h) Zk
 | came n t p k x=>exact ZO (show("came":Str)="done" from h) Zk
def bC{a:Type}{xs:List a}{i:Nat}{x:a}(h:xs[i]?=some x):xs.take (i+1)=xs.take i++[x]:=by rw[List.take_add_one,h];rfl
def iQ{c:List RX}(h:RX.Whole c){n t t':Nat}{p k d e:Str}{x f:Dd}(h1:.came n t p k x∈c)(a:.came n t' d e f∈c):RX.came n t p k x=.came n t' d e f:=by
 induction h with
 | nil=>cases h1
 | snoc i b g=>
  rcases aF h1 with h1|h1
  ·rcases aF a with a|a
   ·exact g h1 a
   ·rw[<- a]at b;exact ZO (b.1 _ _ _ _ _ h1) (lt_irrefl _)
  ·rcases aF a with a|a
   ·rw[<- h1]at b;exact ZO (b.1 _ _ _ _ _ a) (lt_irrefl _)
   ·rw[h1,a]
structure BdP(rs:List RX)(sh:List Nat)(num turn:Nat)(us:List Un):Prop where
 wh:RX.Whole rs
 ok:∀r∈rs,r.Ok
 cnum:∀n t p k x,.came n t p k x∈rs->n<=num
 knum:∀n t p k x y,.kept n t p k x y∈rs->n∈sh
 trn:∀q∈rs,q.turn<=turn
 und:∀u∈us,u.x.Ok/\(∃t p k,.came u.n t p k u.x∈rs)/\(∀t y,.done u.n t y∉rs)/\(u.q=true↔.asked u.n∈rs)/\(u.q=true->u.x.far=true)
 nd:(us.map (·.n)).Nodup
 asn:∀n,.asked n∈rs->∃t p k x,.came n t p k x∈rs
 dnn:∀n t y,.done n t y∈rs->∃t p k x,.came n t p k x∈rs
def BdP.turn'{a:List RX}{b:List Nat}{num turn turn':Nat}{us:List Un}(h:BdP a b num turn us)(c:turn<=turn'):BdP a b num turn' us:=
 ⟨h.wh,h.ok,h.cnum,h.knum,λq d=>eJ (h.trn q d) c,h.und,h.nd,h.asn,h.dnn⟩
def BdP.came{i:List RX}{l:List Nat}{num turn n:Nat}{us:List Un}(h:BdP i l num turn us)(G:num<n)(H:n∉l)(I:n<=999999)(J:turn<=1000000000000){p k:Str}{x:Dd}{e t:ZT}(L:bZ p)(M:iN k)(B:x.Ok) :
  BdP (i++[.came n turn p k x]) l n turn (us++[⟨n,x,false,e,t⟩]):=by
 have N:.asked n∉i:=λm=>by obtain⟨t,p,k,x,m⟩:=h.asn n m;have:=h.cnum _ _ _ _ _ m;omega
 have O:∀t y,.done n t y∉i:=λt y m=>by obtain⟨t,p,k,x,m⟩:=h.dnn n t y m;have:=h.cnum _ _ _ _ _ m;omega
 refine⟨h.wh.snoc ⟨λd f o s Q m=>fQ (h.cnum _ _ _ _ _ m) G,λf o s Q j m=>ZO (h.knum _ _ _ _ _ _ m) H,h.trn⟩,λr c=>?_,λd f o s R c=>?_,λd f o s R j c=>?_,λq v=>?_,λu g=>?_,?_,λd c=>?_,λd f j c=>?_⟩
 ·rcases aF c with c|rfl
  ·exact h.ok r c
  ·exact⟨Zo,I,J,L,M,B⟩
 ·rcases aF c with c|c
  ·have:=h.cnum _ _ _ _ _ c;omega
  ·cases c;exact bH _
 ·rcases aF c with c|c
  ·exact h.knum _ _ _ _ _ _ c
  ·cases c
 ·rcases aF v with v|rfl
  ·exact h.trn q v
  ·exact bH _
 ·rcases aF g with g|rfl
  ·obtain⟨S,⟨C,D,E,A⟩,T,F,U⟩:=h.und u g;refine⟨S,⟨C,D,E,ZM _ A⟩,λf j m=>?_,⟨λz=>ZM _ (F.mp z),λm=>?_⟩,U⟩
   ·rcases aF m with m|m
    ·exact T _ _ m
    ·cases m
   ·rcases aF m with m|m
    ·exact F.mpr m
    ·cases m
  ·refine⟨B,⟨turn,p,k,ZL _ dI⟩,λf j m=>?_,⟨nofun,λm=>?_⟩,nofun⟩
   ·rcases aF m with m|m
    ·exact O _ _ m
    ·cases m
   ·rcases aF m with m|m
    ·exact ZO m N
    ·cases m
 ·rw[eF];refine List.nodup_append.mpr ⟨h.nd,Zs,λa V b W=>?_⟩;obtain⟨u,g,rfl⟩:=Zmm.mp V;obtain⟨_,⟨C,D,E,A⟩,_⟩:=h.und u g;have:=h.cnum _ _ _ _ _ A;have X:b=n:=by simpa using W
  omega
 ·rcases aF c with c|c
  ·obtain⟨t,p,k,x,m⟩:=h.asn d c;exact⟨t,p,k,x,ZM _ m⟩
  ·cases c
 ·rcases aF c with c|c
  ·obtain⟨t,p,k,x,m⟩:=h.dnn d _ _ c;exact⟨t,p,k,x,ZM _ m⟩
  ·cases c
def BdP.mark{f:List RX}{y:List Nat}{num turn j:Nat}{us:List Un}{u:Un}(h:BdP f y num turn us)(g:us[j]?=some u)(b:u.q=false)(A:u.x.far=true) :
  BdP (f++[.asked u.n]) y num turn (us.set j {u with q:=true }):=by
 have G:=cP g;obtain⟨g1,⟨l,n,o,g2⟩,g3,H,W⟩:=h.und u G;have no:.asked u.n∉f:=λm=>by rw[H.mpr m]at b;cases b
 have B:=h.ok _ g2;refine⟨h.wh.snoc ⟨⟨l,n,o,u.x,g2,A⟩,no,g3⟩,λr a=>?_,λc d I J L a=>?_,λc d I J L s a=>?_,λq b=>?_,λv M=>?_,?_,λc a=>?_,λc d s a=>?_⟩
 ·rcases aF a with a|rfl
  ·exact h.ok r a
  ·exact⟨B.1,B.2.1⟩
 ·rcases aF a with a|a
  ·exact h.cnum _ _ _ _ _ a
  ·cases a
 ·rcases aF a with a|a
  ·exact h.knum _ _ _ _ _ _ a
  ·cases a
 ·rcases aF b with b|rfl
  ·exact h.trn q b
  ·exact zero_le _
 ·rcases hG M with rfl|⟨i,N,C⟩
  ·refine⟨g1,⟨l,n,o,ZM _ g2⟩,λd s m=>?_,⟨λ_=>ZL _ dI,λ_=>rfl⟩,λ_=>A⟩;rcases aF m with m|m
   ·exact g3 _ _ m
   ·cases m
  ·obtain⟨D,⟨O,Q,R,E⟩,S,F,T⟩:=h.und v (cP C);have U:=Ak h.nd C g N;refine⟨D,⟨O,Q,R,ZM _ E⟩,λd s m=>?_,⟨λz=>ZM _ (F.mp z),λm=>?_⟩,T⟩
   ·rcases aF m with m|m
    ·exact S _ _ m
    ·cases m
   ·rcases aF m with m|m
    ·exact F.mpr m
    ·injection m with m;exact ZO m U
 ·have e:(us.set j {u with q:=true }).map (·.n)=us.map (·.n):=by
   obtain⟨X,V⟩:=Zgs.mp g;rw[map_set];apply List.ext_getElem Zs;intro i D E;rw[getElem_set];split
   ·rename_i z;subst z;simp[V]
   ·rfl
  rw[e];exact h.nd
 ·rcases aF a with a|a
  ·obtain⟨t,p,k,x,m⟩:=h.asn c a;exact⟨t,p,k,x,ZM _ m⟩
  ·cases a;exact⟨l,n,o,u.x,ZM _ g2⟩
 ·rcases aF a with a|a
  ·obtain⟨t,p,k,x,m⟩:=h.dnn c _ _ a;exact⟨t,p,k,x,ZM _ m⟩
  ·cases a
def BdP.done{e:List RX}{f:List Nat}{num turn j:Nat}{us:List Un}{u:Un}{y:An}(h:BdP e f num turn us)(g:us[j]?=some u)(F:turn<=1000000000000)(G:An.Of u.x y)(l:u.x.far=true->(u.q=true↔y.early=false)) :
  BdP (e++[.done u.n turn y]) f num turn (us.eraseIdx j):=by
 have H:=cP g;obtain⟨g1,⟨n,o,s,g2⟩,g3,A,X⟩:=h.und u H;have B:=h.ok _ g2;refine⟨h.wh.snoc ⟨h.trn,g3,n,o,s,u.x,g2,G,λz=>⟨λm=>(l z).mp (A.mpr m),λm=>A.mp ((l z).mpr m)⟩⟩,λr a=>?_,λb c I J L a=>?_,λb c I J L C a=>?_,λq d=>?_,λv M=>?_,?_,λb a=>?_,λb c C a=>?_⟩
 ·rcases aF a with a|rfl
  ·exact h.ok r a
  ·exact⟨B.1,B.2.1,F⟩
 ·rcases aF a with a|a
  ·exact h.cnum _ _ _ _ _ a
  ·cases a
 ·rcases aF a with a|a
  ·exact h.knum _ _ _ _ _ _ a
  ·cases a
 ·rcases aF d with d|rfl
  ·exact h.trn q d
  ·exact bH _
 ·obtain⟨i,N,D⟩:=List.mem_eraseIdx_iff_getElem?.mp M;obtain⟨O,⟨Q,R,S,T⟩,U,E,V⟩:=h.und v (cP D);have W:=Ak h.nd D g N;refine⟨O,⟨Q,R,S,ZM _ T⟩,λc C m=>?_,⟨λz=>ZM _ (E.mp z),λm=>?_⟩,V⟩
  ·rcases aF m with m|m
   ·exact U _ _ m
   ·injection m with m;exact ZO m W
  ·rcases aF m with m|m
   ·exact E.mpr m
   ·cases m
 ·exact h.nd.sublist ((List.eraseIdx_sublist us j).map _)
 ·rcases aF a with a|a
  ·obtain⟨t,p,k,x,m⟩:=h.asn b a;exact⟨t,p,k,x,ZM _ m⟩
  ·cases a
 ·rcases aF a with a|a
  ·obtain⟨t,p,k,x,m⟩:=h.dnn b _ _ a;exact⟨t,p,k,x,ZM _ m⟩
  ·cases a;exact⟨n,o,s,u.x,ZM _ g2⟩
def BdP.start{a:List RX}{c:List Nat}{num turn:Nat}(h:Ah a)(d:∀n t p k x y,.kept n t p k x y∈a->n∈c)(f:∀n t,.next n t∈a->t<=turn):BdP a c num turn []:=by
 have no:∀r∈a,r.rank=3->False:=λr g e=>by have:=h.rk r g;omega
 refine⟨h.wh,h.ok,λn t p k x m=>(no _ m rfl).elim,d,λq b=>?_,(λu i=>nomatch i),nodup_nil,λn m=>(no _ m rfl).elim,λn t y m=>(no _ m rfl).elim⟩
 cases q with
 | next n t=>exact f _ _ b
 | has z m=>exact zero_le _
 | kept n t p k x y=>exact zero_le _
 | came n t p k x=>exact(no _ b rfl).elim
 | asked n=>exact(no _ b rfl).elim
 | done n t y=>exact(no _ b rfl).elim
def nI(a:List Nat):List V:=a.map λn:Nat=>V.int (n:Int)
structure BdH(H:Hp)(d b ra bk ul:ZT)(H':Hp)(rs:List RX)(as:List ZT)(sh:List Nat)(us:List Un):Prop where
 d0:Dk H d b
 r0:∃xs,H ra=some (.lst xs)
 fbk:H bk=none
 ful:H ul=none
 fes:∀u∈us,H u.e=none
 nra:ra≠d/\ra≠b
 nbu:bk≠ul
 nue:∀u∈us,u.e≠ul/\u.e≠bk
 nde:(us.map (·.e)).Nodup
 dk:Dk H' d b
 rows:RxsAt H' ra rs as
 book:H' bk=some (.lst (nI sh))
 und:H' ul=some (.lst ((us.map (·.e)).map V.ref))
 ent:∀u∈us,Aj H' u.e u.n u.t u.x u.q
 fr:∀c o,H c=some o->c≠d->c≠b->c≠ra->H' c=some o
section
variable {H H' P1:Hp}{d b ra bk ul:ZT}{rs:List RX}{as:List ZT}{sh:List Nat}{us:List Un}
def BdH.ra_ne(h:BdH H d b ra bk ul H' rs as sh us):ra≠bk/\ra≠ul/\∀u∈us,ra≠u.e:=by
 obtain⟨e,a⟩:=h.r0;exact⟨aB a h.fbk,aB a h.ful,λu c=>aB a (h.fes u c)⟩
def BdH.ne_d(h:BdH H d b ra bk ul H' rs as sh us){c:ZT}(a:H c=none):c≠d/\c≠b:=h.d0.ne a
def BdH.fw(h:BdH H d b ra bk ul H' rs as sh us)(F:Fw d b H' P1):BdH H d b ra bk ul P1 rs as sh us:=by
 have f:=h.ne_d h.fbk;have g:=h.ne_d h.ful;refine⟨h.d0,h.r0,h.fbk,h.ful,h.fes,h.nra,h.nbu,h.nue,h.nde,F.dk,h.rows.keep F.tk (F.get h.rows.lst h.nra.1 h.nra.2),F.get h.book f.1 f.2,F.get h.und g.1 g.2,λu a=>?_,λc o e i j k=>F.get (h.fr c o e i j k) i j⟩;have ne:=h.ne_d (h.fes u a);exact⟨F.get (h.ent u a).1 ne.1 ne.2,F.tup (h.ent u a).2⟩
def BdH.row(h:BdH H d b ra bk ul H' rs as sh us){r:RX}{a:ZT}(i:r.At H' a):BdH H d b ra bk ul (aJ H' ra (.lst (as.map V.ref++[.ref a]))) (rs++[r]) (as++[a]) sh us:=by
 obtain⟨j,k,l⟩:=h.ra_ne;have tk:TK H' (aJ H' ra (.lst (as.map V.ref++[.ref a]))):=iK h.rows.lst;refine⟨h.d0,h.r0,h.fbk,h.ful,h.fes,h.nra,h.nbu,h.nue,h.nde,Dk.put' h.dk h.nra.1 h.nra.2,h.rows.snoc tk (i.tk tk) aA,by rw[aD j.symm];exact h.book,by rw[aD k.symm];exact h.und,λu f=>⟨by rw[aD (l u f).symm];exact(h.ent u f).1,tk _ _ (h.ent u f).2⟩,λc o e m m2 g=>by rw[aD g];exact h.fr c o e m m2 g⟩
def BdH.push(h:BdH H d b ra bk ul H' rs as sh us){n:Nat}{x:Dd}{q:Bool}{e t:ZT}(g:Aj H' e n t x q)(l:H e=none)(i:e≠ul)(m:e≠bk)(p:∀u∈us,u.e≠e) :
  BdH H d b ra bk ul (aJ H' ul (.lst ((us.map (·.e)).map V.ref++[.ref e]))) rs as sh (us++[⟨n,x,q,e,t⟩]):=by
 obtain⟨A,r,B⟩:=h.ra_ne;have j:=h.ne_d h.ful;have tk:TK H' (aJ H' ul (.lst ((us.map (·.e)).map V.ref++[.ref e]))):=iK h.und;refine⟨h.d0,h.r0,h.fbk,h.ful,λu f=>?_,h.nra,h.nbu,λu f=>?_,?_,Dk.put' h.dk j.1 j.2,h.rows.keep tk (by rw[aD r];exact h.rows.lst),by rw[aD h.nbu];exact h.book,by rw[aA,eF,eF];rfl,λu f=>?_,λc o k s m2 v=>by rw[aD (aB k h.ful)];exact h.fr c o k s m2 v⟩
 ·rcases aF f with f|rfl
  ·exact h.fes u f
  ·exact l
 ·rcases aF f with f|rfl
  ·exact h.nue u f
  ·exact⟨i,m⟩
 ·rw[eF];refine List.nodup_append.mpr ⟨h.nde,Zs,λa y c z=>?_⟩;obtain⟨u,f,rfl⟩:=Zmm.mp y;have:c=e:=by simpa using z
  rw[this];exact p u f
 ·rcases aF f with f|rfl
  ·exact⟨by rw[aD (h.nue u f).1];exact(h.ent u f).1,tk _ _ (h.ent u f).2⟩
  ·exact⟨by rw[aD i];exact g.1,tk _ _ g.2⟩
def BdH.mark(h:BdH H d b ra bk ul H' rs as sh us){j:Nat}{u:Un}(g:us[j]?=some u) :
  BdH H d b ra bk ul (aJ H' u.e (.lst [.int (u.n:Int),.ref u.t,.bl true])) rs as sh (us.set j {u with q:=true }):=by
 obtain⟨x,y,p⟩:=h.ra_ne;have a:=cP g;have ne:=h.ne_d (h.fes u a);have tk:TK H' (aJ H' u.e (.lst [.int (u.n:Int),.ref u.t,.bl true])):=iK (h.ent u a).1;have l:(us.set j {u with q:=true }).map (·.e)=us.map (·.e):=by
  obtain⟨A,r⟩:=Zgs.mp g;rw[map_set];apply List.ext_getElem Zs;intro i B C;rw[getElem_set];split
  ·rename_i z;subst z;simp[r]
  ·rfl
 refine⟨h.d0,h.r0,h.fbk,h.ful,λv f=>?_,h.nra,h.nbu,λv f=>?_,by rw[l];exact h.nde,Dk.put' h.dk ne.1 ne.2,h.rows.keep tk (by rw[aD (p u a)];exact h.rows.lst),by rw[aD (h.nue u a).2.symm];exact h.book,by rw[aD (h.nue u a).1.symm,l];exact h.und,λv f=>?_,λc o m s m2 t=>by rw[aD (aB m (h.fes u a))];exact h.fr c o m s m2 t⟩
 ·rcases hG f with rfl|⟨i,k,e⟩
  ·exact h.fes u a
  ·exact h.fes v (cP e)
 ·rcases hG f with rfl|⟨i,k,e⟩
  ·exact h.nue u a
  ·exact h.nue v (cP e)
 ·rcases hG f with rfl|⟨i,k,e⟩
  ·exact⟨aA,tk _ _ (h.ent u a).2⟩
  ·have n:=cP e;exact⟨by rw[aD (Mf h.nde e g k)];exact(h.ent v n).1,tk _ _ (h.ent v n).2⟩
def BdH.drop(h:BdH H d b ra bk ul H' rs as sh us)(j:Nat):BdH H d b ra bk ul (aJ H' ul (.lst (((us.map (·.e)).eraseIdx j).map V.ref))) rs as sh (us.eraseIdx j):=by
 obtain⟨n,g,p⟩:=h.ra_ne;have e:=h.ne_d h.ful;have tk:TK H' (aJ H' ul (.lst (((us.map (·.e)).eraseIdx j).map V.ref))):=iK h.und;have sub:∀u∈us.eraseIdx j,u∈us:=λu a=>List.mem_of_mem_eraseIdx a
 have i:(us.eraseIdx j).map (·.e)=(us.map (·.e)).eraseIdx j:=by
  have:∀(us:List Un)(j:Nat),(us.eraseIdx j).map (·.e)=(us.map (·.e)).eraseIdx j:=by
   intro us;induction us with
   | nil=>intro j;simp
   | cons u us k=>
    intro j;cases j with
    | zero=>simp
    | succ j=>rw[eraseIdx_cons_succ,map_cons,map_cons,eraseIdx_cons_succ,k]
  exact this us j
 refine⟨h.d0,h.r0,h.fbk,h.ful,λu a=>h.fes u (sub u a),h.nra,h.nbu,λu a=>h.nue u (sub u a),h.nde.sublist ((List.eraseIdx_sublist us j).map _),Dk.put' h.dk e.1 e.2,h.rows.keep tk (by rw[aD g];exact h.rows.lst),by rw[aD h.nbu];exact h.book,by rw[aA,i],λu a=>⟨by rw[aD (h.nue u (sub u a)).1];exact(h.ent u (sub u a)).1,tk _ _ (h.ent u (sub u a)).2⟩,λc o f l m2 m=>by rw[aD (aB f h.ful)];exact h.fr c o f l m2 m⟩
def BdH.rem(h:BdH H d b ra bk ul H' rs as sh us)(m:(us.map (·.n)).Nodup){j:Nat}{u:Un}(f:us[j]?=some u){Q:VK}(q:Q .non (aJ H' ul (.lst (((us.map (·.e)).eraseIdx j).map V.ref)))):eV (.ref ul) [.ref u.e] H' Q:=by
 have l:=cP f;refine⟨us.map (·.e),j,h.und,by rw[dH,f];rfl,h.nde,λc n o=>?_,q⟩;obtain⟨v,k,rfl⟩:=Zmm.mp n;obtain⟨i,p,r⟩:=getElem_of_mem k;have g:us[i]?=some v:=by rw[bR p,r]
 have s:i≠j:=λz=>o (by rw[z]at g;rw[f]at g;cases g;rfl)
 refine⟨(v.n:Int),(u.n:Int),[.ref v.t,.bl v.q],[.ref u.t,.bl u.q],(h.ent v k).1,(h.ent u l).1,?_,rfl,λi B C a e=>?_⟩
 ·have:=Ak m g f s;omega
 ·match i,a,e with
  | 0,a,e=>
   cases a;cases e;exact .inr ⟨v.t,u.t,_,_,rfl,rfl,(h.ent v k).2,(h.ent u l).2,λj x y t A=>⟨tT v.x x (cP t),tT u.x y (cP A)⟩⟩
  | 1,a,e=>cases a;cases e;exact .inl ⟨rfl,rfl⟩
  | i+2,a,e=>cases a
end
def Fk(a:List Nat):(nI a).all bU=true:=by unfold nI;rw[all_eq_true];intro v b;obtain⟨n,_,rfl⟩:=Zmm.mp b;rfl
theorem Al(n:Nat):∀b:List Nat,jG (.int (n:Int)) (nI b)=decide (n∈b)
 | []=>rfl
 | a::r=>by
  have c:jG (.int (n:Int)) (nI (a::r))=(jK (.int (a:Int)) (.int (n:Int))||jG (.int (n:Int)) (nI r)):=rfl;have e:jK (.int (a:Int)) (.int (n:Int))=decide (a=n):=by
   show((a:Int)==(n:Int))=_;by_cases h:a=n
   ·subst h;simp
   ·rw[ZV h];exact beq_eq_false_iff_ne.mpr Zo
  rw[c,e,Al n r];by_cases h:a=n
  ·subst h;simp
  ·have d:n≠a:=λz=>h z.symm
   simp[h,d]
def wQ(a:List Nat)(m:Nat):Nat:=(a.filter λx=>decide (m<=x)).length
def hI(a:Nat)(r:List Nat)(m:Nat):wQ (a::r) m=wQ r m+(if m<=a then 1 else 0):=by
 unfold wQ;rw[filter_cons];by_cases h:m<=a
 ·rw[ZQ (ZW h),ZQ h];rfl
 ·rw[ZP (by simpa using h),ZP h];rfl
def Mg(m:Nat):∀a,wQ a m<=a.length:=λa=>List.length_filter_le _ _
theorem pW(m:Nat):∀b,wQ b (m+1)<=wQ b m
 | []=>bH _
 | a::r=>by
  have:=pW m r;rw[hI,hI];split<;>split<;>omega
def Am{m:Nat}:∀ {b:List Nat},m∈b->wQ b (m+1)<wQ b m
 | a::r,h=>by
  rw[hI,hI];have d:=pW m r;by_cases e:a=m
  ·subst e;rw[ZP Zo,ZQ (bH _)];omega
  ·have c:m∈r:=by
    rcases mem_cons.mp h with z|z
    ·exact ZO z.symm e
    ·exact z
   have:=Am c;split<;>split<;>omega
def BdH.men{H f:Hp}{d b g bk j i:ZT}{k:List RX}{l:List ZT}{m:List Nat}{us:List Un}{M:List ZT}(h:BdH H d b g bk j f k l m us)(n:MenusAt H i M)(p:d∉M)(q:b∉M)(r:g∉M):MenusAt f i M:=
 n.keep λc a o e=>h.fr c o e (λz=>p (z▸a)) (λz=>q (z▸a)) (λz=>r (z▸a))
def Ao(y:An):jG (.str (Md y)) [.str "short",.str "full"]=y.early:=by cases y<;>rfl
def Fl{x:Dd}{q:Bool}{z:Str}(h:z∈qJ x q):z∈eX x:=by
 cases a:x.far with
 | false=>rw[pT x a]at h;exact h
 | true=>rw[oC x a]at h;exact(mem_filter.mp h).1
def wB{x:Dd}{q:Bool}{y:An}(h:Md y∈qJ x q)(a:x.far=true):q=true↔y.early=false:=by
 rw[oC x a]at h;have:=(mem_filter.mp h).2;rw[Ao]at this;revert this;cases q<;>cases y.early<;>decide
def tB(i:Nat):Nat:=500000000000+1000000000*i
def tV(i:Nat):tB (i+1)=tB i+1000000000:=by unfold tB;rw[Nat.mul_succ,Nat.add_assoc]
def Hj{i:Nat}(h:i<=30):tB i<=600000000000:=eJ (Nat.add_le_add_left (Nat.mul_le_mul_left _ h) _) (ZN rfl)
def Mh(H:Hp)(e:ZT)(x:Dd):Prop:=∃(a b f g:ZT)(c d:List Str),H e=some (.lst [.ref a,.ref b,.ref f,.ref g])/\H a=some (.lst (c.map V.str))/\H b=some (.lst (d.map V.str))/\Rr c d x
def CIn(H:Hp)(a:ZT)(b:List RX):Prop:=∀n t p k x,.came n t p k x∈b->Mh H a x
def CIn.snoc{H:Hp}{a:ZT}{b:List RX}{r:RX}(h:CIn H a b)(c:∀n t p k x,r=.came n t p k x->Mh H a x):CIn H a (b++[r]):=λn t p k x hm=>by
 rcases aF hm with hm|hm
 ·exact h n t p k x hm
 ·exact c n t p k x hm.symm
def Mi(H:Hp)(d b f g bk h:ZT)(j:List Nat)(k i:Nat)(l:St)(m:Hp):Prop:=∃(a:List RX)(n:List ZT)(e:List Un)(c turn:Nat)(o p q r s t:Option V),l=[some (.ref d),some (.ref f),some (.ref g),some (.int (k:Int)),some (.ref bk),some (.ref h),some (.int (c:Int)),some (.int (turn:Int)),o,p,q,r,s,t]/\BdH H d b f bk h m a n j e/\BdP a j c turn e/\a.length<=i/\c<=900006+22*i/\turn<=tB i/\e.length<=i/\CIn H g a
def Fm(T:Txt K mg)(a7:aI P w K mg base 1 "_law_draw" ZF bP)(oa:aI P w K mg base 3 "_law_deed" Zx oA)(oe:aI P w K mg base 2 "_law_spot" Zu oE){fa:ZT}{cdv:ZS}{A:Around}{outer:List Env}{s:ZR}{H0:Hp}{E:XK}(B:Room 3 (A.deeper (PyProof.Rows.envOfC "_law_body" (aG c9) s.heap.objs.size fa cdv))) :
  ∃t,XB (eO jL P w K mg base Zt "_law_body" (aG c9) fa cdv A outer s H0 E).nox (Ud (En (Tx (En (aS c9) 4)) 2)) t ∧
  ∀(D:iC)(H H9:Hp)(d b f h bk j:ZT)(M:List ZT)(g:List Nat)(v i y num turn turn':Nat)(x:List RX)(C:List ZT)(us:List Un)(F G I J:Option V),MenusAt H h M->d∉M->b∉M->f∉M->i<30->g.length<=13->BdH H d b f bk j H9 x C g us->BdP x g num turn' us->x.length<=i->num<=900006+22*i->turn<=tB i->us.length<=i->CIn H h x->turn<=turn'->turn'<=turn+1000000000->(∀ l n,Mi H d b f h bk j g v (i+1) l n->D.nx l n) →
   t D [some (.ref d),some (.ref f),some (.ref h),some (.int (v:Int)),some (.ref bk),some (.ref j),some (.int (num:Int)),some (.int (turn':Int)),some (.int (i:Int)),some (.int (y:Int)),F,G,I,J] H9:=by
 have hu:=B.units0;have C0:=B.units;refine⟨_,(kg (mi (i:=6) b6.nd (lv pi (lv pi (jx 6) kt) (mv (px (K:=K)) (o0 (jw kt (jw kt (jw (mh a7 B rfl (jw (jx 0) (jw kt jy))) jy)))) (mh a7 B rfl (jw (jx 0) (jw kt jy)))))) (kg (R.fh PassesOwn.never (ml (R.db (K:=K)) (jx 6) (jx 4)) (li (mi (i:=6) b6.nd (lv pi (jx 6) kt)))) (kg (mi (i:=10) b6.nd (mh oa B rfl (jw (jx 0) (jw (nw K 2) (jw (nw K 2) jy))))) (kg (pz (tm (K:=K) PySem.F.plainAttrs_list PySem.F.slot_list_append PySem.F.type_list_append NE (jx 1) (jw (lv R.jg (lv R.jg (mm (jw lf (jw (jx 6) (jw (jx 7) jy)))) (mh oe B rfl (jw (jx 0) (jw (jx 2) jy)))) (mm (jw (jx 10) jy))) jy))) (li (pz (tm (K:=K) PySem.F.plainAttrs_list PySem.F.slot_list_append PySem.F.type_list_append NE (jx 5) (jw (o0 (jw (jx 6) (jw (jx 10) (jw R.bl jy)))) jy)))))))),?_⟩;intro D H H9 d b f h bk j M g v i y num turn turn' x C us F G I J hM W X oR hi JP L9 P8 l1 l2 l3 l5 qr t1 t2 EX;have b3:turn'<=tB (i+1):=by have:=tV i;omega
 have b4:turn'<=1000000000000:=by have:=Hj (i:=i) Zo;omega
 refine aN (λl n=>∃(m:Nat),l=[some (.ref d),some (.ref f),some (.ref h),some (.int (v:Int)),some (.ref bk),some (.ref j),some (.int (m:Int)),some (.int (turn':Int)),some (.int (i:Int)),some (.int (y:Int)),F,G,I,J]/\num<m/\m<=num+9/\BdH H d b f bk j n x C g us) (λyg S=>?_) ?_
 ·refine⟨d,b,9,rfl,L9.dk,Zd,Zd,λr8 H8 x0 x1 D8 k8=>⟨dC rfl,λa6 hp=>⟨d,b,3,rfl,D8.new hp,Zd,Zd,λr9 Ha y0 y1 D9 k9=>?_⟩⟩⟩;obtain⟨r8,rfl⟩:=dY x0;have uu:=D8.ne hp;have gp:=k9 a6 _ aA uu.1 uu.2;have u:=L9.fw ((((Fw.refl L9.dk).draw D8 k8).new hp).draw D9 k9);rcases(by omega:r9=0∨r9=1∨r9=2) with rfl|rfl|rfl
  ·exact⟨_,YT gp,_,rfl,S _ _ ⟨num+1,rfl,Zo,Zo,u⟩⟩
  ·exact⟨_,YT gp,_,rfl,S _ _ ⟨num+1,rfl,Zo,Zo,u⟩⟩
  ·exact⟨_,YT gp,_,rfl,S _ _ ⟨num+1+r8,rfl,Zo,Zo,u⟩⟩
 rintro l Hz ⟨m0,rfl,z1,z2,Lz⟩;refine aN (λl n=>∃(m:Nat),l=[some (.ref d),some (.ref f),some (.ref h),some (.int (v:Int)),some (.ref bk),some (.ref j),some (.int (m:Int)),some (.int (turn':Int)),some (.int (i:Int)),some (.int (y:Int)),F,G,I,J]/\num<m/\m<=num+22/\m∉g/\BdH H d b f bk j n x C g us) (λyg S=>?_) ?_
 ·refine⟨λk l n=>∃(m:Nat),l=[some (.ref d),some (.ref f),some (.ref h),some (.int (v:Int)),some (.ref bk),some (.ref j),some (.int (m:Int)),some (.int (turn':Int)),some (.int (i:Int)),some (.int (y:Int)),F,G,I,J]/\k=wQ g m/\num<m/\m+wQ g m<=num+22/\n=Hz,⟨wQ g m0,m0,rfl,rfl,z1,by have:=Mg m0 g;omega,rfl⟩,?_⟩;rintro k l n ⟨m,rfl,rfl,q1,q2,rfl⟩;refine⟨bk,_,rfl,.inl (YT Lz.book),rfl,Fk _,?_⟩;show if jG (.int (m:Int)) (nI g)=true then _ else _
  rw[Al];refine cG (λa4=>?_) (λa4=>S _ _ ⟨m,rfl,q1,Zo,ZX a4,Lz⟩);have G0:=Am (ZY a4);refine⟨λσ'' P1=>σ''=[some (.ref d),some (.ref f),some (.ref h),some (.int (v:Int)),some (.ref bk),some (.ref j),some (.int ((m+1:Nat):Int)),some (.int (turn':Int)),some (.int (i:Int)),some (.int (y:Int)),F,G,I,J]/\P1=n,λσ'' P1 ⟨Y,Z⟩=>⟨wQ g (m+1),G0,m+1,Y,rfl,Zo,Zo,Z⟩,?_⟩;exact⟨rfl,rfl⟩
 rintro l Ha ⟨m,rfl,m1,m2,UB,u⟩;have Xr:=u.men hM W X oR;obtain⟨L,N,a2,a3,ws,LF,ps,ks,eM,e0,Y,Z,_,_,mw,mu,_⟩:=hM.ex;have O:∀c∈M,c≠d/\c≠b:=λc Q=>⟨(λz=>W (z▸Q)),(λz=>X (z▸Q))⟩
 have ke:∀c∈M,∀o,H c=some o->Ha c=some o:=λc Q o e=>u.fr c o e (O c Q).1 (O c Q).2 (λz=>oR (z▸Q))
 have i0:L∈M:=by rw[eM];simp
 have i1:N∈M:=by rw[eM];simp
 have h0:=ke h (by rw[eM];simp) _ e0;have h1:=ke L i0 _ Y;have h2:=ke N i1 _ Z;refine⟨_,YT h0,_,rfl,_,YT h0,_,rfl,d,b,L,N,ws,LF,rfl,u.dk,h1,h2,⟨(O L i0).1,(O L i0).2,(O N i1).1,(O N i1).2⟩,mw,mu,λU x' Hc CY UC PQ fc=>?_⟩;have yh:Mh H h x':=⟨L,N,a2,a3,ws,LF,e0,Y,Z,UC⟩;have Lc:=u.fw fc;refine⟨.inl ⟨rfl,_,YT Lc.rows.lst⟩,aP rfl,λq1 Hd sd gd=>?_⟩;have Ld:=Lc.fw ((Fw.refl Lc.dk).same sd);refine⟨d,b,h,M,rfl,Ld.dk,Ld.men hM W X oR,W,X,λq2 pp kk He UD Q3 ge fe=>?_⟩;refine⟨_,_,fe.tup gd,ge,ZN rfl,λq3 Hf sf gf=>⟨aP rfl,λq4 Hg sg gg=>⟨_,_,sg _ _ gf,gg,ZN rfl,λq5 Hh UE gh=>?_⟩⟩⟩;have Fh:=(((fe.same sf).same sg).same UE);have Lh:=Ld.fw Fh;have lr:=Lh.rows.len;refine⟨f,_,_,rfl,rfl,Lh.rows.lst,by rw[bA];exact fQ (m:=1000) Zo Zd,?_⟩;have p:=Lh.row (r:=.came m turn' pp kk x') (a:=q5) ⟨U,gh,Fh.tup (sd _ _ PQ)⟩;have PR:(aJ Hh f (.lst (C.map V.ref++[.ref q5]))) U=some (.tup x'.vs):=iK Lh.rows.lst _ _ (Fh.tup (sd _ _ PQ));generalize aJ Hh f (.lst (C.map V.ref++[.ref q5]))=Hi at p PR;refine⟨.inl ⟨rfl,_,YT p.und⟩,dC rfl,λe q=>?_⟩;have Lj:=p.fw ((Fw.refl p.dk).new (o:=.lst [.int (m:Int),.ref U,.bl false]) q);have LG:Aj (aJ Hi e (.lst [.int (m:Int),.ref U,.bl false])) e m U x' false:=⟨aA,aZ PR q⟩;have UG:e≠j:=(aB p.und q).symm;have UH:e≠bk:=(aB p.book q).symm;have UI:∀a5∈us,a5.e≠e:=λa5 hu=>aB (p.ent a5 hu).1 q
 have UJ:H e=none:=by
  cases hh:H e with
  | none=>rfl
  | some o=>
   have PU:=p.dk.ne q;have:e≠f:=(aB p.rows.lst q).symm;rw[p.fr e o hh PU.1 PU.2 this]at q;cases q
 refine⟨j,_,_,rfl,rfl,Lj.und,by rw[bA,bA];exact fQ (m:=1000) Zo Zd,?_⟩;exact EX _ _ ⟨_,_,_,m,turn',_,_,_,_,_,_,rfl,Lj.push LG UJ UG UH UI,P8.came m1 UB Zo b4 UD Q3 CY,by simp;omega,Zo,b3,by simp;omega,qr.snoc λ_ _ _ _ _ e=>by cases e;exact yh⟩
def Fn(T:Txt K mg)(a7:aI P w K mg base 1 "_law_draw" ZF bP)(Y4:aI P w K mg base 1 "_law_words" Zw kQ)(S0:aI P w K mg base 3 "_law_answer" Zv rR){fa:ZT}{cdv:ZS}{A:Around}{outer:List Env}{s:ZR}{H0:Hp}{E:XK}(y:Room 3 (A.deeper (PyProof.Rows.envOfC "_law_body" (aG c9) s.heap.objs.size fa cdv))) :
  ∃t,XB (eO jL P w K mg base Zt "_law_body" (aG c9) fa cdv A outer s H0 E).nox (Ue (En (Tx (En (aS c9) 4)) 2)) t ∧
  ∀(D:iC)(H U:Hp)(d b c B bk o:ZT)(M:List ZT)(p:List Nat)(S i way num turn turn':Nat)(h:List RX)(q:List ZT)(us:List Un)(z9 B4 G1 X9:Option V),MenusAt H B M->d∉M->b∉M->c∉M->i<30->p.length<=13->BdH H d b c bk o U h q p us->BdP h p num turn' us->h.length<=i->num<=900006+22*i->turn<=tB i->us.length<=i->CIn H B h->turn<=turn'->turn'<=turn+1000000000->us≠[]->(∀ σ' l,Mi H d b c B bk o p S (i+1) σ' l->D.nx σ' l) →
   t D [some (.ref d),some (.ref c),some (.ref B),some (.int (S:Int)),some (.ref bk),some (.ref o),some (.int (num:Int)),some (.int (turn':Int)),some (.int (i:Int)),some (.int (way:Int)),z9,B4,G1,X9] U:=by
 have hu:=y.units0;have C0:=y.units;refine⟨_,(kg (mi (i:=11) b6.nd (mv (px (K:=K)) (jx 5) (mh a7 y rfl (jw (jx 0) (jw (qd (ut (K:=K)) rfl T.b_len cC (jw (jx 5) jy)) jy))))) (kg (mi (i:=12) b6.nd (mh Y4 y rfl (jw (nw K 11) (jw (nw K 11) jy)))) (li (mo (wx (zn (ml pq (jx 9) kt) (zn (FM (v0 (nw K 11))) (R.df (ml (R.db (K:=K)) (mv (AT (K:=K)) (nw K 11) kt) (mm (jw lf (jw lf (jw lf jy))))))))) (kg (pz (tm (K:=K) PySem.F.plainAttrs_list PySem.F.slot_list_append PySem.F.type_list_append NE (jx 1) (jw (mm (jw lf (jw (nw K 11) jy))) jy))) (li (qf R.bl (qg (jx 11) kt R.gm)))) (li (mo (ml (R.jd (K:=K) hu) (jx 12) (o0 jy)) (kg (mi (i:=13) b6.nd (mh S0 y rfl (jw (jx 0) (jw (nw K 11) (jw (mv (px (K:=K)) (jx 12) (mh a7 y rfl (jw (jx 0) (jw (qd (ut (K:=K)) rfl T.b_len cC (jw (jx 12) jy)) jy)))) jy))))) (kg (pz (tm (K:=K) PySem.F.plainAttrs_list PySem.F.slot_list_append PySem.F.type_list_append NE (jx 1) (jw (mm (jw lf (jw (nw K 11) (jw (jx 7) (jw (jx 13) jy))))) jy))) (li (pz (tm (K:=K) PySem.F.plainAttrs_list PySem.F.slot_list_remove PySem.F.type_list_remove (R.ik C0) (jx 5) (jw (jx 11) jy)))))) ms)))))),?_⟩;intro D H U d b c B bk o M p S i way num turn turn' h q us z9 B4 G1 X9 hM oD oB oR hi JP J C l1 l2 l3 l5 W t1 t2 m4 X;have Y:turn'<=tB (i+1):=by have:=tV i;omega
 have b4:turn'<=1000000000000:=by have:=Hj (i:=i) Zo;omega
 have UK:0<us.length:=by cases us with|nil=>exact ZO rfl m4|cons _ _=>exact Nat.succ_pos _
 refine⟨_,.inl (YT J.und),d,b,(us.length:Int),by rw[bA,bA],J.dk,Zo,Zo,λr Ha Z r1 Da ka=>?_⟩;have n:=J.fw ((Fw.refl J.dk).draw Da ka);obtain⟨j,rfl⟩:=dY Z;have hj:j<us.length:=by omega
 obtain⟨u,z⟩:∃u,us[j]?=some u:=⟨us[j],bR hj⟩;have f:=cP z;obtain⟨g1,⟨tc,pc,kc,g2⟩,g3,g4,g5⟩:=C.und u f;refine⟨_,YT n.und,.ref u.e,cE (by rw[dH,dH,z];rfl),?_⟩;refine⟨_,YT (n.ent u f).1,_,rfl,_,YT (n.ent u f).1,_,rfl,u.t,u.x,u.q,rfl,(n.ent u f).2,λL Hb DD DE sb=>?_⟩;have DF:=n.dk.ne DD;have Xs:L≠c:=(aB n.rows.lst DD).symm;have F:=n.fw ((Fw.refl n.dk).same sb);dsimp only [aK];refine kN (λa0 l=>BdH H d b c bk o l h q p us/\l L=some (.lst ((qJ u.x u.q).map V.str))/\(a0=true->u.q=false/\u.x.far=true)) (λk G=>?_) ?_ ?_
 ·have en:=(F.ent u f);refine cG (λ_=>?_) (λ_=>G _ _ ⟨F,DE,nofun⟩);refine⟨_,YT en.1,_,rfl,?_⟩;show if (!u.q)=true then _ else _
  refine cG (λhq=>?_) (λ_=>G _ _ ⟨F,DE,nofun⟩);refine⟨_,YT en.1,_,rfl,_,YU en.2,_,Ae u.x,aP rfl,λtq Hc sc gc=>⟨tq,_,rfl,.inr (YU gc),rfl,rfl,?_⟩⟩;refine G _ _ ⟨F.fw ((Fw.refl F.dk).same sc),sc _ _ DE,λa1=>⟨by simpa using hq,?_⟩⟩;rw[<- Fg];exact a1
 ·rintro Hc ⟨v,LH,hc⟩;obtain⟨hq,hf⟩:=hc rfl;refine⟨.inl ⟨rfl,_,YT v.rows.lst⟩,_,YT (v.ent u f).1,_,rfl,aP rfl,λI Hd sd gd=>?_⟩;have g:=v.fw ((Fw.refl v.dk).same sd);have lr:=g.rows.len;refine⟨c,_,_,rfl,rfl,g.rows.lst,by rw[bA];exact fQ (m:=1000) Zo Zd,?_⟩;have x:=g.row (r:=.asked u.n) (a:=I) gd;generalize aJ Hd c (.lst (q.map V.ref++[.ref I]))=He at x;refine⟨u.e,_,2,2,rfl,rfl,(x.ent u f).1,rfl,?_⟩;exact X _ _ ⟨_,_,_,num,turn',_,_,_,_,_,_,rfl,x.mark z,C.mark z hq hf,by simp;omega,Zo,Y,by rw[length_set];omega,W.snoc λ_ _ _ _ _ e=>nomatch e⟩
 ·rintro Hc ⟨v,LH,hc⟩;refine kN (λa0 l=>BdH H d b c bk o l h q p us/\l L=some (.lst ((qJ u.x u.q).map V.str))/\(a0=true->qJ u.x u.q≠[])) (λk G=>?_) ?_ ?_
  ·refine⟨dC rfl,λa2 hp=>⟨L,a2,_,rfl,rfl,YT (aZ LH hp),YT aA,?_⟩⟩;refine G _ _ ⟨v.fw ((Fw.refl v.dk).new hp),aZ LH hp,λe a1=>?_⟩;rw[a1]at e;cases e
  ·rintro Hd ⟨g,PV,hw⟩;have LI:=hw rfl;have Xt:0<(qJ u.x u.q).length:=List.length_pos_iff.mpr LI;have Xu:(qJ u.x u.q).length<=9:=by cases u.x<;>cases u.q<;>exact ZN rfl
   refine⟨_,YT (g.ent u f).1,_,rfl,_,.inl (YT PV),d,b,((qJ u.x u.q).length:Int),by rw[bA],g.dk,Zo,Zo,λr He Z r1 De ke=>?_⟩;obtain⟨N,rfl⟩:=dY Z;have Fe:=(Fw.refl g.dk).draw De ke;have x:=g.fw Fe;have PX:N<(qJ u.x u.q).length:=by omega
   have Q4:(qJ u.x u.q)[N]∈qJ u.x u.q:=getElem_mem PX;refine⟨_,YT (Fe.get PV DF.1 DF.2),.str (qJ u.x u.q)[N],cE (by rw[dH,bR PX];rfl),d,b,u.t,u.x,(qJ u.x u.q)[N],rfl,x.dk,(x.ent u f).2,g1,Fl Q4,λcc a3 Hf BI UL UM ff=>?_⟩;have O:=x.fw ff;rw[<- UL]at Q4;refine⟨.inl ⟨rfl,_,YT O.rows.lst⟩,_,YT (O.ent u f).1,_,rfl,aP rfl,λI Hg sg gg=>?_⟩;have Lg:=O.fw ((Fw.refl O.dk).same sg);have lr:=Lg.rows.len;have UN:=sg _ _ UM;refine⟨c,_,_,rfl,rfl,Lg.rows.lst,by rw[bA];exact fQ (m:=1000) Zo Zd,?_⟩;have Q:=Lg.row (r:=.done u.n turn' a3) (a:=I) ⟨cc,gg,UN⟩;generalize aJ Hg c (.lst (q.map V.ref++[.ref I]))=Hh at Q;refine⟨.inl ⟨rfl,_,YT Q.und⟩,?_⟩;dsimp only [dA,fR,vr];show eV (.ref o) [.ref u.e] Hh _;refine Q.rem C.nd z ?_;exact X _ _ ⟨_,_,_,num,turn',_,_,_,_,_,_,rfl,Q.drop j,C.done z b4 BI (wB Q4),by simp;omega,Zo,Y,by have:=List.length_eraseIdx_le us j;omega,W.snoc λ_ _ _ _ _ e=>nomatch e⟩
  ·rintro Hd ⟨g,_,_⟩;exact X _ _ ⟨h,q,us,num,turn',_,_,_,_,_,_,rfl,g,C,Zo,Zo,Y,Zo,W⟩
def tX:Sp:=λvs H Q _=>∃(d b a g:ZT)(M:List ZT)(i:List RX)(j:List ZT)(h:Nat),vs=[.ref d,.ref a,.ref g,.int (h:Int)]/\Dk H d b/\RxsAt H a i j/\Ah i/\MenusAt H g M/\d∉M/\b∉M/\a∉M/\a≠d/\a≠b/\h<=30 ∧
 ∀(e:List RX)(k:List ZT)(f:Hp),RxsAt f a e k->RX.Whole e->(∀r∈e,r.Ok)->e.length<=30->CIn H g e->Dk f d b->(∀c o,H c=some o->c≠d->c≠b->c≠a->f c=some o)->Q (.ref a) f
def Fo(T:Txt K mg)(X:aI P w K mg base 1 "_law_draw" ZF bP)(oa:aI P w K mg base 3 "_law_deed" Zx oA)(oe:aI P w K mg base 2 "_law_spot" Zu oE)(Y4:aI P w K mg base 1 "_law_words" Zw kQ)(S0:aI P w K mg base 3 "_law_answer" Zv rR)(D:DefAt K mg "_law_body" c9 Zn):aI P w K mg base 4 "_law_body" Zn tX:=by
 refine D.gg Y (λa4 cdv b2 outer b3 H vs b4 E B h=>?_)
 ·obtain⟨d,b,g,C,a5,Z,HY,r,rfl,dk,F,HZ,hM,oD,oB,oR,BJ,BK,PY,a6⟩:=h;have hu:=B.units0;have C0:=B.units;have l0:=HZ.len;have PZ:=F.len;obtain⟨Xv,h1,p1⟩:=Fm (P:=P) (w:=w) (base:=base) T X oa oe (fa:=a4) (outer:=outer) (H0:=H) (E:=E) B;obtain⟨Xw,h2,p2⟩:=Fn (P:=P) (w:=w) (base:=base) T X Y4 S0 (fa:=a4) (outer:=outer) (H0:=H) (E:=E) B;refine⟨_,(kg (R.gx (i:=4) Y.nd rfl (Or.inl rfl) rfl (js:=[none]) (N:=["_law_row"]) (CompScope.by (aG c9) Zt rfl rfl Zk) (bJ rfl) (qe (K:=K) (jx 1)) (λa8 s₂ H₂ fp=>⟨(mq (i:=0) (show(["_law_row"]:List Str).Nodup by decide +kernel)),(R.dm (ml pq (mj K 0) lf)),(mj K 0)⟩) rfl) (kg (mi (i:=5) Y.nd (o0 jy)) (kg (mi (i:=6) Y.nd (mh X B rfl (jw (jx 0) (jw (mv (px (K:=K)) (o0 (jw kt (jw kt jy))) (mh X B rfl (jw (jx 0) (jw kt jy)))) jy)))) (kg (mi (i:=7) Y.nd (qd (R.io (K:=K) rfl) rfl T.b_max Kk (jw (lv R.fq (ww rfl (js:=[none]) (N:=["_law_row"]) (CompScope.by (aG c9) Zt rfl rfl Zk) (bJ rfl) (qe (K:=K) (jx 1)) (λa8 s₂ H₂ fp=>⟨(mq (i:=0) (show(["_law_row"]:List Str).Nodup by decide +kernel)),(R.dm (ml pq (mj K 0) lf)),(mj K 0)⟩)) (o0 (jw kt jy))) jy))) (kg (sn PassesOwn.never rfl (R.dh rfl T.b_range (jw (jx 3) jy)) (mq (i:=8) Y.nd) (kg (mi (i:=9) Y.nd (mh X B rfl (jw (jx 0) (jw kt jy)))) (kg (mi (i:=7) Y.nd (lv pi (jx 7) (mv (px (K:=K)) (o0 (jw kt (jw kt (jw kt (jw (mh X B rfl (jw (jx 0) (jw (lv wy kt kt) jy))) jy))))) (mh X B rfl (jw (jx 0) (jw kt jy)))))) (li (mo (wx (R.dr (ml R.lt (jx 9) kt) (R.du (ml (R.jh (K:=K) hu) (jx 5) (o0 jy)))))
   h1
   h2))))) (li (mn (jx 1)))))))),?_⟩
  refine aN (λf a=>∃(bk:ZT)(s:List Nat),f=[some (.ref d),some (.ref g),some (.ref C),some (.int (r:Int)),some (.ref bk),none,none,none,none,none,none,none,none,none]/\H bk=none/\a bk=some (.lst (nI s))/\s.length<=13/\(∀n t p k x a3,.kept n t p k x a3∈Z->n∈s)/\Same H a) (λnx M=>?_) ?_
  ·refine⟨g,rfl,⟨_,YT F.lst⟩,?_⟩;refine bL (bB K g (HY.map V.ref)) (by rw[bA];omega) (λi G a=>a=H/\∃c:List Nat,G=nI c/\c.length<=i/\∀n t p k x a3,.kept n t p k x a3∈Z.take i->n∈c) (λi G a ⟨y,c,e,I,_⟩=>⟨by rw[y];exact YT F.lst,by rw[e];unfold nI;rw[bA];exact I⟩) ⟨rfl,[],rfl,bH _,(λ_ _ _ _ _ _ h=>nomatch h)⟩ (?_) (?_)
   ·rintro i x G a hx ⟨y,c,e,I,m⟩;subst y;obtain⟨a9,a0,rfl,ha,ug,AB⟩:=F.get hx;obtain⟨xs,a2,J,x1,x2⟩:=pV AB;have AD:=bC ug;refine⟨_,YU a2,_,J,?_⟩;show if decide (dP a0="kept")=true then _ else _
    refine cG (λh=>?_) (λh=>?_)
    ·obtain⟨n,t,p,k,x,a3,rfl⟩:=Fj (ZY h);refine⟨_,YU a2,_,x1,rfl,c++[n],by rw[e];unfold nI;rw[eF];rfl,by simp;omega,λn' t' p' k' x' y' hm=>?_⟩;rw[AD]at hm;rcases aF hm with hm|hm
     ·exact ZM _ (m _ _ _ _ _ _ hm)
     ·cases hm;exact ZL _ dI
    ·refine⟨rfl,c,e,Zo,λn' t' p' k' x' y' hm=>?_⟩;rw[AD]at hm;rcases aF hm with hm|hm
     ·exact m _ _ _ _ _ _ hm
     ·subst hm;exact ZO rfl (ZX h)
   ·rintro G a ⟨y,c,e,I,m⟩;subst y;intro p l;rw[bA]at I m;rw[<- PZ,lO (bH _)]at m;exact M _ _ ⟨p,c,rfl,l,by rw[aA,e],Zo,m,aH l⟩
  rintro f H1 ⟨bk,s,rfl,fbk,EZ,QA,og,s1⟩;have f1:=(Fw.refl dk).same s1;refine⟨dC rfl,λj IA=>?_⟩;have ful:=s1.free IA;have nbu:bk≠j:=aB EZ IA;have f2:=f1.new (o:=.lst []) IA;have QB:(aJ H1 j (.lst [])) j=some (.lst []):=aA;replace EZ:=aZ (u:=.lst []) EZ IA;dsimp only [aK];generalize aJ H1 j (.lst [])=H2 at f2 QB EZ;refine aN (λf a=>∃(num:Nat),f=[some (.ref d),some (.ref g),some (.ref C),some (.int (r:Int)),some (.ref bk),some (.ref j),some (.int (num:Int)),none,none,none,none,none,none,none]/\num<=900006/\Fw d b H2 a) (λnx M=>?_) ?_
  ·refine⟨dC rfl,λp l=>⟨d,b,2,rfl,f2.dk.new l,Zd,Zd,λa0 H3 r0 r1 D3 k3=>?_⟩⟩;have pd:=f2.dk.ne l;have F3:=((Fw.refl f2.dk).new (o:=.lst [.int 4,.int 900000]) l).draw D3 k3;have gp:=k3 p _ aA pd.1 pd.2;rcases(by omega:a0=0∨a0=1) with rfl|rfl
   ·refine⟨_,YT gp,_,rfl,d,b,4,rfl,F3.dk,Zd,Zd,λr4 H4 J x1 D4 k4=>?_⟩;obtain⟨n,rfl⟩:=dY J;exact M _ _ ⟨n,rfl,Zo,F3.draw D4 k4⟩
   ·refine⟨_,YT gp,_,rfl,d,b,900000,rfl,F3.dk,Zd,Zd,λr4 H4 J x1 D4 k4=>?_⟩;obtain⟨n,rfl⟩:=dY J;exact M _ _ ⟨n,rfl,Zo,F3.draw D4 k4⟩
  rintro f H4 ⟨num,rfl,UP,F4⟩;have f4:=f2.trans F4;have R4:=F.keep f4.tk (f4.get F.lst BJ BK);refine aN (λf a=>∃(turn:Nat),f=[some (.ref d),some (.ref g),some (.ref C),some (.int (r:Int)),some (.ref bk),some (.ref j),some (.int (num:Int)),some (.int (turn:Int)),none,none,none,none,none,none]/\turn<500000000000/\(∀n t,.next n t∈Z->t<=turn)/\Fw d b H2 a) (λnx M=>?_) ?_
  ·refine⟨g,rfl,⟨_,YT R4.lst⟩,?_⟩;refine bL (bB K g (HY.map V.ref)) (by rw[bA];omega) (λi G a=>a=H4/\∃c:List Nat,G=c.map (λn:Nat=>V.int (n:Int))/\c.length<=i/\(∀n∈c,n<500000000000)/\∀n t,.next n t∈Z.take i->t∈c) (λi G a ⟨y,c,e,I,_⟩=>⟨by rw[y];exact YT R4.lst,by rw[e,bA];exact I⟩) ⟨rfl,[],rfl,bH _,(λ_ h=>nomatch h),(λ_ _ h=>nomatch h)⟩ (?_) (?_)
   ·rintro i x G a hx ⟨y,c,e,I,V8,m⟩;subst y;obtain⟨a9,a0,rfl,ha,ug,AB⟩:=R4.get hx;obtain⟨xs,a2,J,x1,x2⟩:=pV AB;have AD:=bC ug;have UQ:a0∈Z:=cP ug;refine⟨_,YU a2,_,J,?_⟩;show if decide (dP a0="next")=true then _ else _
    refine cG (λh=>?_) (λh=>?_)
    ·obtain⟨n,t,rfl⟩:=Fi (ZY h);refine⟨_,YU a2,_,x2 nofun,rfl,c++[t],by rw[e,eF];rfl,by simp;omega,λa1 hm=>?_,λn' t' hm=>?_⟩
     ·rcases aF hm with hm|rfl
      ·exact V8 a1 hm
      ·exact(HZ.nx _ _ UQ).2
     ·rw[AD]at hm;rcases aF hm with hm|hm
      ·exact ZM _ (m _ _ hm)
      ·cases hm;exact ZL _ dI
    ·refine⟨rfl,c,e,Zo,V8,λn' t' hm=>?_⟩;rw[AD]at hm;rcases aF hm with hm|hm
     ·exact m _ _ hm
     ·subst hm;exact ZO rfl (ZX h)
   ·rintro G a ⟨y,c,e,I,V8,m⟩;subst y;intro p l;rw[bA]at I m;rw[<- PZ,lO (bH _)]at m;refine⟨dC rfl,λp2 ql=>⟨_,_,aZ aA ql,aA,by rw[e,bA];exact cX (by simp;omega),λp3 uf=>?_⟩⟩;refine⟨p3,(c.map (λn:Nat=>(n:Int)))++[0],rfl,YT (by rw[aA,e,eF,map_map];rfl),Zs,λmx HQ nq=>?_⟩;have nn:∃a1:Nat,mx=a1/\a1<500000000000:=by
     rcases Zma.mp HQ with h|h
     ·obtain⟨n,hn,rfl⟩:=Zmm.mp h;exact⟨n,rfl,V8 n hn⟩
     ·rw[Zms.mp h];exact⟨0,rfl,Zo⟩
    obtain⟨a1,rfl,hm⟩:=nn;refine M _ _ ⟨a1,rfl,hm,λn t hh=>?_,((F4.new l).new ql).new uf⟩;have:=nq (t:Int) (ZM _ (mem_map_of_mem (m _ _ hh)));omega
  rintro f H5 ⟨turn,rfl,QC,UR,F5⟩;have f5:=f2.trans F5;have R5:=F.keep f5.tk (f5.get F.lst BJ BK);have HR:=dk.ne fbk;have QD:=dk.ne ful;have L5:BdH H d b g bk j H5 Z HY s []:=⟨dk,⟨_,F.lst⟩,fbk,ful,(λ_ h=>nomatch h),⟨BJ,BK⟩,nbu,(λ_ h=>nomatch h),nodup_nil,f5.dk,R5,F5.get EZ HR.1 HR.2,F5.get QB QD.1 QD.2,(λ_ h=>nomatch h),λb5 o e n1 n2 _=>f5.get e n1 n2⟩;have P5:=BdP.start (num:=num) (turn:=turn) HZ og UR;have b0:turn<=tB 0:=by show turn<=500000000000+1000000000*0;rw[Nat.mul_zero];omega
  refine aN (λf a=>∃(q:List RX)(A:List ZT)(z:List Un)(num turn:Nat)(o8 o9 O Q S U:Option V),f=[some (.ref d),some (.ref g),some (.ref C),some (.int (r:Int)),some (.ref bk),some (.ref j),some (.int (num:Int)),some (.int (turn:Int)),o8,o9,O,Q,S,U]/\BdH H d b g bk j a q A s z/\BdP q s num turn z/\q.length<=30/\CIn H C q) (λnx M=>?_) ?_
  ·refine⟨(r:Int),rfl,Zo,Zo,?_⟩;have em:(r:Int).toNat=r:=by omega
   refine bS (cZ 0 (r:Int).toNat) (Mi H d b g C bk j s r) (λ_ _ _ _=>trivial)
    ⟨Z,HY,[],num,turn,_,_,_,_,_,_,rfl,L5,P5,Zo,Zo,b0,bH _,λn t p k x hm=>ZO (HZ.rk _ hm) (by show ¬ (3<=2);decide)⟩ ?_ ?_
   ·rintro i x f H6 hx ⟨q,A,z,num,turn,o8,o9,O,Q,S,U,rfl,L,P6,l1,l2,l3,l5,qr⟩;obtain⟨rfl,hi⟩:=kP hx;rw[em]at hi;refine⟨d,b,4,rfl,L.dk,Zd,Zd,λway H7 w0 w1 D7 k7=>?_⟩;obtain⟨way,rfl⟩:=dY w0;have L7:=L.fw ((Fw.refl L.dk).draw D7 k7);dsimp only [aK];refine aN (λf a=>∃(turn':Nat),f=[some (.ref d),some (.ref g),some (.ref C),some (.int (r:Int)),some (.ref bk),some (.ref j),some (.int (num:Int)),some (.int (turn':Int)),some (.int (i:Int)),some (.int (way:Int)),O,Q,S,U]/\turn<=turn'/\turn'<=turn+1000000000/\BdH H d b g bk j a q A s z) (λyg m5=>?_) ?_
    ·refine⟨⟨Zd,Zd,Zd⟩,d,b,1000000000,rfl,L7.dk,Zd,Zd,λr8 H8 J x1 D8 k8=>⟨dC rfl,λp l=>⟨d,b,4,rfl,D8.new l,Zd,Zd,λr9 H9 y0 y1 D9 k9=>?_⟩⟩⟩;obtain⟨r8,rfl⟩:=dY J;have uu:=D8.ne l;have gp:=k9 p _ aA uu.1 uu.2;have W:=L7.fw ((((Fw.refl L7.dk).draw D8 k8).new l).draw D9 k9);rcases Ly y0 y1 with rfl|rfl|rfl|rfl
     ·refine⟨_,YT gp,_,rfl,m5 _ _ ⟨turn,?_,Zo,Zo,W⟩⟩;rw[show(turn:Int)=(turn:Int)+0 by omega];rfl
     ·refine⟨_,YT gp,_,rfl,m5 _ _ ⟨turn,?_,Zo,Zo,W⟩⟩;rw[show(turn:Int)=(turn:Int)+0 by omega];rfl
     ·exact⟨_,YT gp,_,rfl,m5 _ _ ⟨turn+1,rfl,Zo,Zo,W⟩⟩
     ·exact⟨_,YT gp,_,rfl,m5 _ _ ⟨turn+r8,rfl,Zo,Zo,W⟩⟩
    ·rintro f H8 ⟨turn',rfl,t1,t2,L8⟩;have P8:=P6.turn' t1;refine kN (λv a=>BdH H d b g bk j a q A s z/\(v=false->z≠[])) (λk hk=>?_) ?_ ?_
     ·refine cG (λ_=>hk _ _ ⟨L8,nofun⟩) (λ_=>?_);refine⟨dC rfl,λp l=>⟨j,p,_,rfl,rfl,YT (aZ L8.und l),YT aA,?_⟩⟩;refine hk _ _ ⟨L8.fw ((Fw.refl L8.dk).new l),λe b1=>?_⟩;subst b1;cases e
     ·rintro H9 ⟨W,hv⟩;exact p1 _ H H9 d b g C bk j a5 s r i way num turn turn' q A z O Q S U hM oD oB oR Zo QA W P8 l1 l2 l3 l5 qr t1 t2 (λ_ _ h=>h)
     ·rintro H9 ⟨W,hv⟩;exact p2 _ H H9 d b g C bk j a5 s r i way num turn turn' q A z O Q S U hM oD oB oR Zo QA W P8 l1 l2 l3 l5 qr t1 t2 (hv rfl) (λ_ _ h=>h)
   ·rintro f H6 ⟨q,A,z,num,turn,o8,o9,O,Q,S,U,rfl,L,P6,l1,l2,l3,l5,qr⟩;rw[cY]at l1;exact M _ _ ⟨q,A,z,num,turn,o8,o9,O,Q,S,U,rfl,L,P6,Zo,qr⟩
  rintro f H6 ⟨q,A,z,num,turn,o8,o9,O,Q,S,U,rfl,L,P6,l1,qr⟩;exact a6 q A H6 L.rows P6.wh P6.ok l1 qr L.dk L.fr
structure EN where
 key:Str
 ent:Addr
 dd:Option (ZT×List V)
 word:Str
def Bx:Option (ZT×List V)->V
 | none=>.non
 | some q=>.ref q.1
def dE(en:List EN):List (aR×V):=en.map λz=>(Sum.inr z.key,V.ref z.ent)
def EAt(H:Hp)(en:List EN):Prop:=∀z∈en,H z.ent=some (.tup [Bx z.dd,.str z.word])/\∀d a,z.dd=some (d,a)->H d=some (.tup a)
def EAt.keep{H a:Hp}{en:List EN}(h:EAt H en)(k:∀b xs,H b=some (.tup xs)->a b=some (.tup xs)):EAt a en:=λz c=>⟨k _ _ (h z c).1,λd xs e=>k _ _ ((h z c).2 d xs e)⟩
structure HAt(C:ZT)(H:Hp)(p:ZT)(a:HF)(am:List (Str×Int))(cl:Str->Bool)(en:List EN)(L:Nat):Prop where
 hp:H p=some (.ins C a.dx (El a))
 ha:H a.da=some (.dK (eU am))
 hc:∃kvs,H a.dc=some (.dK kvs)/\kvs.length<=L/\∀n:Str,(aQ kvs (Sum.inr n)).isSome=cl n
 he:H a.de=some (.dK (dE en))
 ents:EAt H en
 nda:(am.map (·.1)).Nodup
 nde:(en.map (·.key)).Nodup
 la:am.length<=L
 le:en.length<=L
 ac:a.da≠a.dc
 ae:a.da≠a.de
 ce:a.dc≠a.de
def HAt.same{C:ZT}{H c:Hp}{p:ZT}{a:HF}{d:List (Str×Int)}{f:Str->Bool}{en:List EN}{L:Nat}(h:HAt C H p a d f en L)(s:Same H c):HAt C c p a d f en L:=by
 obtain⟨i,g,r⟩:=h.hc;exact⟨s _ _ h.hp,s _ _ h.ha,⟨i,s _ _ g,r⟩,s _ _ h.he,h.ents.keep (λb j e=>s _ _ e),h.nda,h.nde,h.la,h.le,h.ac,h.ae,h.ce⟩
def fM(C:ZT):Sp:=λvs H Q _=>∃p a b c d L n,vs=[.ref p,.str n]/\HAt C H p a b c d L/\Q (.int (aX b n)) H
def Hk(C:ZT):Sp:=λvs H Q _=>∃p d a c e g L nm n wd f b,vs=[.ref p,.ref d]/\HAt C H p a c e g L/\H d=some (.tup f)/\HD nm n wd f b/\Q (.bl (iB c e wd nm n)) H
def Hl(C:ZT):Sp:=λvs H Q _=>∃p d a e f h L nm n wd i b,vs=[.ref p,.ref d]/\HAt C H p a e f h L/\L<=500/\H d=some (.tup i)/\HD nm n wd i b ∧
 ∀g,HAt C g p a (Em e (iB e f wd nm n) nm b) f h (L+1)->(∀c o,H c=some o->c≠a.da->g c=some o)->Q (.str (yn (iB e f wd nm n))) g
def fN(C:ZT)(g:Bool):Sp:=λvs H Q _=>∃p a d e f L n,vs=[.ref p,.str n]/\HAt C H p a d e f L/\L<=500/\∀b,HAt C b p a d (λm=>if m=n then g else e m) f (L+1)->(∀c o,H c=some o->c≠a.dc->b c=some o)->Q .non b
def jP(C:ZT):Sp:=λvs H Q _=>∃(p g:ZT)(r c:V)(d:List (Str×Int))(e:List Str),vs=[.ref p,r,c]/\H p=some (.ins C g [])/\Kv H r d/\(d.map (·.1)).Nodup/\d.length<=100/\Lo H c e/\e.length<=100 ∧
 ∀f a,H a.da=none->H a.dc=none->H a.de=none->HAt C f p a d (λn=>decide (n∈e)) [] (100+e.length)->(∀b o,H b=some o->b≠p->f b=some o)->Q .non f
theorem fO{ky:Str}:∀ {en:List EN},(aQ (dE en) (Sum.inr ky)).isSome=decide (ky∈en.map (·.key))
 | []=>rfl
 | z::r=>by
  unfold dE;rw[map_cons];by_cases e:z.key=ky
  ·rw[bE (by rw[e])];simp[e]
  ·rw[aY (λh=>e (Sum.inr.inj h))];have:=fO (ky:=ky) (en:=r);unfold dE at this;rw[this];have:(ky=z.key)=False:=by simp;exact λh=>e h.symm
   simp[this]
theorem kR{z:EN}:∀ {en:List EN},(en.map (·.key)).Nodup->z∈en->aQ (dE en) (Sum.inr z.key)=some (.ref z.ent)
 | y::r,a,h=>by
  obtain⟨b,c⟩:=nodup_cons.mp a;unfold dE;rw[map_cons];rcases mem_cons.mp h with rfl|h
  ·rw[bE rfl]
  ·rw[aY (λe=>b (by show y.key∈_;rw[Sum.inr.inj e];exact Zmm.mpr ⟨z,h,rfl⟩))];exact kR c h
def hJ{en:List EN}{z:EN}(h:¬ z.key∈en.map (·.key)):bG (dE en) (Sum.inr z.key) (.ref z.ent)=dE (en++[z]):=by
 have a:aQ (dE en) (Sum.inr z.key)=none:=by
  have:=fO (ky:=z.key) (en:=en);rw[ZV h]at this;cases e:aQ (dE en) (Sum.inr z.key) with
  | none=>rfl
  | some _=>rw[e]at this;cases this
 rw[jX _ a];unfold dE;rw[eF];rfl
def gC(en:List EN)(ky:Str)(z':EN):List EN:=en.map λz=>if z.key=ky then z' else z
def wC{en:List EN}{ky:Str}{z':EN}(h:z'.key=ky):(gC en ky z').map (·.key)=en.map (·.key):=by
 unfold gC;rw[map_map];refine map_congr_left λz _=>?_
 show(if z.key=ky then z' else z).key=z.key;split
 ·rename_i e;rw[h,e]
 ·rfl
def kS{en:List EN}{ky:Str}{z':EN}(a:z'.key=ky)(h:ky∈en.map (·.key)):bG (dE en) (Sum.inr ky) (.ref z'.ent)=dE (gC en ky z'):=by
 have b:(aQ (dE en) (Sum.inr ky)).isSome=true:=by rw[fO,ZW h]
 unfold bG;rw[ZQ (by rw[dB];exact b)];unfold dE gC;rw[map_map,map_map];refine map_congr_left λq _=>?_
 show(if (Sum.inr q.key:aR)=Sum.inr ky then (Sum.inr q.key,V.ref z'.ent) else ((Sum.inr q.key:aR),V.ref q.ent))=((Sum.inr (if q.key=ky then z' else q).key:aR),V.ref (if q.key=ky then z' else q).ent);by_cases e:q.key=ky
 ·rw[ZQ (by rw[e]),ZQ e,a,e]
 ·rw[ZP (λz=>e (Sum.inr.inj z)),ZP e]
def pX{C:ZT}(B:tQ K C)(D:MethAt K C "amount" "House.amount" i ZE):gK P w K mg base 1 C "amount" ZE (fM C):=by
 refine D.gg j (λf g A e s H vs Q E c h=>?_)
 ·obtain⟨p,a,l,m,o,L,n,rfl,b,q⟩:=h;have d:=cQ c;refine⟨_,(li (mn (IN d (qh (K:=K) (jx 0)) (jx 1) kt))),?_⟩;refine⟨C,a.dx,_,.ref a.da,b.hp,B.cl,B.nA,vT a,a.da,rfl,.inl ⟨_,.inl b.ha⟩,_,DGet.k (k:=Sum.inr n) b.ha,?_⟩;rw[gV];exact q
def Mj{C:ZT}(T:Txt K mg)(B:tQ K C)(o:gK P w K mg base 1 C "amount" ZE (fM C))(D:MethAt K C "can_do" "House.can_do" G ZB):gK P w K mg base 2 C "can_do" ZB (Hk C):=by
 refine D.gg t (λf F A z s H vs Q E j h=>?_)
 ·obtain⟨p,d,a,k,l,r,L,nm,n,wd,I,b,rfl,c,e,u,q⟩:=h;have v:=cQ j;refine⟨_,(kg (mi (i:=2) t.nd (mj K 1)) (kg (mo (ml pq (mj K 1) lf) (li (mn (re R.ge (tu o j (jx 0) (jw (jx 2) jy)) (mj K 1)))) ms) (li (mn (R.jr (re (R.gi v) (jx 2) (qh (K:=K) (jx 0))) (R.ji (re R.le (lv pi (tu o j (jx 0) (jw (jx 2) jy)) (mj K 1)) (R.gI rfl T.g_MOST)))))))),?_⟩;obtain⟨m,x,_,y⟩:=c.hc
  cases u with
  | take=>
   refine⟨_,YU e,_,rfl,_,YU e,_,rfl,a.dx,_,c.hp,cR a Zk Zk Zk,p,a,k,l,r,L,nm,rfl,c,_,YU e,_,rfl,?_⟩;exact q
  | add=>
   refine⟨_,YU e,_,rfl,_,YU e,_,rfl,C,a.dx,_,.ref a.dc,c.hp,B.cl,B.nC,Lp a,m,x,?_⟩;have g:Q (.bl (!l nm&&decide (aX k nm+n<=1000000000000))) H:=q;show if (!(aQ m (Sum.inr nm)).isSome)=true then _ else _
   rw[y nm];refine cG (λh=>?_) (λh=>?_)
   ·rw[h,Bool.true_and]at g;exact⟨a.dx,_,c.hp,cR a Zk Zk Zk,p,a,k,l,r,L,nm,rfl,c,_,YU e,_,rfl,g⟩
   ·rw[h,Bool.false_and]at g;exact g
def HD.dwx{nm wd:Str}{n b:Int}{xs:List V}(h:HD nm n wd xs b):Ro wd xs [(nm,b)] []:=by
 cases h with
 | add=>exact⟨nm,nm,nm,n,.add⟩
 | take=>exact⟨nm,nm,nm,n,.take⟩
def HAt.more{C:ZT}{H:Hp}{p:ZT}{a:HF}{c:List (Str×Int)}{d:Str->Bool}{en:List EN}{L e:Nat}(h:HAt C H p a c d en L)(b:L<=e):HAt C H p a c d en e:=by
 obtain⟨f,g,l,r⟩:=h.hc;exact⟨h.hp,h.ha,⟨f,g,eJ l b,r⟩,h.he,h.ents,h.nda,h.nde,eJ h.la b,eJ h.le b,h.ac,h.ae,h.ce⟩
def HAt.put{C:ZT}{H:Hp}{p:ZT}{a:HF}{c:List (Str×Int)}{d:Str->Bool}{en:List EN}{L:Nat}(h:HAt C H p a c d en L)(n:Str)(v:Int):HAt C (aJ H a.da (.dK (eU (bF c n v)))) p a (bF c n v) d en (L+1):=by
 obtain⟨f,g,l,r⟩:=h.hc;have k:∀b o,H b=some o->b≠a.da->(aJ H a.da (.dK (eU (bF c n v)))) b=some o:=λb o e i=>by rw[aD i];exact e
 refine⟨k _ _ h.hp (bD h.hp h.ha nofun),aA,⟨f,k _ _ g h.ac.symm,le_succ_of_le l,r⟩,k _ _ h.he h.ae.symm,h.ents.keep (λb j e=>k _ _ e (bD e h.ha nofun)),nY h.nda,h.nde,?_,le_succ_of_le h.le,h.ac,h.ae,h.ce⟩;have:=pP c n v;have:=h.la;omega
def Ml{C:ZT}(T:Txt K mg)(B:tQ K C)(S:gK P w K mg base 2 C "can_do" ZB (Hk C))(U:gK P w K mg base 1 C "amount" ZE (fM C))(W:aI P w K mg base 1 "done_changes" ["deed"] mH)(D:MethAt K C "try_deed" "House.try_deed" z6 ZB):gK P w K mg base 3 C "try_deed" ZB (Hl C):=by
 refine D.gg F (λa1 cdv a2 outer a3 H vs a0 a4 s h=>?_)
 ·obtain⟨p,d,a,f,l,v,L,nm,n,wd,G,b,rfl,r,X,I,J,q⟩:=h;have Y:=cQ s;refine⟨_,(kg (mo (FM (v0 (tu S s (jx 0) (jw (jx 1) jy)))) (li (mn lf)) ms) (kg (sn PassesOwn.never rfl (R.fj (K:=K) (mh W s rfl (jw (jx 1) jy))) (wn (K:=K) (n:=2) rfl (pv (mq (i:=2) F.nd) (pv (mq (i:=3) F.nd) wp))) (li (qf (lv pi (tu U s (jx 0) (jw (jx 2) jy)) (jx 3)) (qg (qh (K:=K) (jx 0)) (jx 2) (ua Y))))) (li (mn lf)))),?_⟩;refine⟨a.dx,_,r.hp,cR a Zk Zk Zk,p,d,a,f,l,v,L,nm,n,wd,G,b,rfl,r,I,J,?_⟩;show if (!iB f l wd nm n)=true then _ else _
  refine cG (λh=>?_) (λh=>?_)
  ·have x:iB f l wd nm n=false:=by simpa using h
   rw[x]at q;exact q H (HAt.more r (le_succ _)) λc o e _=>e
  have x:iB f l wd nm n=true:=by simpa using h
  rw[x]at q;have q:∀g,HAt C g p a (bF f nm (aX f nm+b)) l v (L+1)->(∀c o,H c=some o->c≠a.da->g c=some o)->a0 (.str "yes") g:=q;refine⟨d,wd,G,_,_,rfl,I,(HD.dwx J),λt Z M N g1 hz y=>⟨t,rfl,⟨_,YU g1⟩,?_⟩⟩
  match Z,y with
  | [(O,j,z)],y=>
  have e1:j=nm/\z=b:=by
   have:=y;simp at this;exact this
  obtain⟨rfl,rfl⟩:=e1;have m:=r.same N;refine bS (jM K t (fT [(O,j,z)])) (λi u g=>(∃A E:Option V,u=[some (.ref p),some (.ref d),A,E])/\g=if i=0 then M else aJ M a.da (.dK (eU (bF f j (aX f j+z))))) (?_) ⟨⟨_,_,rfl⟩,rfl⟩ ?_ ?_
  ·rintro i u g ⟨_,e⟩;rw[e];split
   ·exact YU g1
   ·exact YU (by rw[aD (bD g1 m.ha nofun)];exact g1)
  ·rintro i a5 u g Q ⟨⟨A,E,rfl⟩,e⟩;have hi:i=0:=by
    have:=(Zgs.mp Q).1;unfold fT at this;simp at this;exact this
   subst hi;rw[ZQ rfl]at e;subst e;obtain⟨a6,hn,rfl,gz⟩:=uw hz Q;cases hn;refine⟨O,_,rfl,YU gz,rfl,_,_,rfl,_,_,rfl,rfl,a.dx,_,m.hp,cR a Zk Zk Zk,p,a,f,l,v,L,j,rfl,m,C,a.dx,_,.ref a.da,m.hp,B.cl,B.nA,vT a,a.da,_,rfl,DPut.k (k:=Sum.inr j) m.ha ?_,⟨_,_,rfl⟩,?_⟩
   ·unfold eU;rw[bA];exact fQ r.la (fQ X Zd)
   ·rw[ZP Zd,gW]
  ·rintro u g ⟨⟨A,E,rfl⟩,e⟩;rw[ZP (by show ¬ 1=0;decide)]at e;subst e;refine q _ (HAt.put m j _) λc o e hc=>?_
   rw[aD hc];exact N _ _ e
def HAt.cls{C:ZT}{H:Hp}{p:ZT}{a:HF}{c:List (Str×Int)}{f d:Str->Bool}{en:List EN}{L:Nat}{kvs:List (aR×V)}(h:HAt C H p a c f en L)(i:kvs.length<=L+1)(j:∀n:Str,(aQ kvs (Sum.inr n)).isSome=d n):HAt C (aJ H a.dc (.dK kvs)) p a c d en (L+1):=by
 obtain⟨q,g,l,r⟩:=h.hc;have k:∀b o,H b=some o->b≠a.dc->(aJ H a.dc (.dK kvs)) b=some o:=λb o e m=>by rw[aD m];exact e
 exact⟨k _ _ h.hp (bD h.hp g nofun),k _ _ h.ha h.ac,⟨kvs,aA,i,j⟩,k _ _ h.he h.ce.symm,h.ents.keep (λb s e=>k _ _ e (bD e g nofun)),h.nda,h.nde,le_succ_of_le h.la,le_succ_of_le h.le,h.ac,h.ae,h.ce⟩
def Ap{C:ZT}(T:Txt K mg)(B:tQ K C)(D:MethAt K C "close" "House.close" y ZE):gK P w K mg base 1 C "close" ZE (fN C true):=by
 refine D.gg F (λf v A u s H vs Q E d h=>?_)
 ·obtain⟨p,a,G,I,J,L,n,rfl,b,i,q⟩:=h;have j:=cQ d;refine⟨_,(li (qf R.bl (qg (qh (K:=K) (jx 0)) (jx 1) (ua j)))),?_⟩;obtain⟨x,g,l,r⟩:=b.hc;refine⟨C,a.dx,_,.ref a.dc,b.hp,B.cl,B.nC,Lp a,a.dc,_,rfl,DPut.k (k:=Sum.inr n) g (fQ l (fQ i Zd)),?_⟩;refine q _ (HAt.cls b (eJ (bQ _ _ _) (Nat.succ_le_succ l)) λm=>?_) λc o e t=>by rw[aD t];exact e
  rw[cT];by_cases e:m=n
  ·rw[ZQ (by rw[e]),ZQ e];rfl
  ·rw[ZP (λz=>e (Sum.inr.inj z)),ZP e];exact r m
def wE{C:ZT}(T:Txt K mg)(B:tQ K C)(D:MethAt K C "reopen" "House.reopen" x ZE):gK P w K mg base 1 C "reopen" ZE (fN C false):=by
 refine D.gg y (λf u A t s H vs Q E F h=>?_)
 ·obtain⟨p,a,G,d,I,L,n,rfl,b,J,q⟩:=h;refine⟨_,(li (pz (R.ig (qh (K:=K) (jx 0)) (jx 1) tj))),?_⟩;obtain⟨j,g,l,r⟩:=b.hc;refine⟨C,a.dx,_,.ref a.dc,b.hp,B.cl,B.nC,Lp a,a.dc,rfl,.inl ⟨_,.inl g⟩,j,Sum.inr n,g,rfl,λv i=>?_,λi=>?_⟩
  ·refine q _ (HAt.cls b (eJ (jY _ _) (le_succ_of_le l)) λm=>?_) λc o e k=>by rw[aD k];exact e
   rw[rN];by_cases e:m=n
   ·rw[ZQ (by rw[e]),ZQ e];rfl
   ·rw[ZP (λz=>e (Sum.inr.inj z)),ZP e];exact r m
  ·refine q _ ?_ λc o e _=>e;have:(λm=>if m=n then false else d m)=d:=by
    funext m
    by_cases e:m=n
    ·rw[ZQ e,e,<- r n,i];rfl
    ·rw[ZP e]
   rw[this];exact HAt.more b (le_succ _)
def oG:Sp:=λvs H Q _=>∃ky:Str,vs=[.str ky]/\iN ky/\∀a,Same H a->Q .non a
def oH(T:Txt K mg)(b:aI P w K mg base 2 "is_key" ["thing"] (Kq (LET++Rk) 12))(D:DefAt K mg "check_key" m ["thing"]):aI P w K mg base 3 "check_key" ["thing"] oG:=by
 refine D.gg n (λf l A k s H vs Q E d h=>?_)
 ·obtain⟨ky,rfl,a,q⟩:=h;refine⟨_,(li (mo (FM (v0 (mh b d rfl (jw (jx 0) jy)))) (li R.dz) ms)),?_⟩;refine⟨.str ky,.str,rfl,trivial,λz e=>by injection e with e;rw[<- e];have:=a.2.1;omega,λg i=>?_⟩;have e:iI (.str ky) (LET++Rk) 12=true:=by
   unfold iI;have o:=a.1;have p:=a.2.1;simp only [Bool.and_eq_true,decide_eq_true_eq,all_eq_true];exact⟨⟨Zo,Zo⟩,λc j=>a.2.2 c j⟩
  rw[e];exact q g i
def HD.deed{nm wd:Str}{n b:Int}{xs:List V}(h:HD nm n wd xs b)(a:bZ nm)(c:1<=n)(d:n<=1000000000000):zC xs=true/\xs.length=3/\(∀H,∀y∈xs,Pt H y):=by
 have i:=eS a;have f:nm.length<=1000:=by have:=a.2.1;omega
 have pt:∀(H:Hp)(wd:Str),wd.length<=1000->∀y∈([.str wd,.str nm,.int n]:List V),Pt H y:=λH wd g y e=>by
  simp only [mem_cons,ZJ,or_false]at e;rcases e with rfl|rfl|rfl
  ·exact(Pc.str g).pt
  ·exact(Pc.str f).pt
  ·exact Pc.int.pt
 cases h with
 | add=>exact⟨(DeedIs.one _ nm n (.inl rfl) a c d).ok,rfl,λH=>pt H _ Zk⟩
 | take=>exact⟨(DeedIs.one _ nm n (.inr rfl) a c d).ok,rfl,λH=>pt H _ Zk⟩
theorem Hm{H:Hp}{n:Nat}:∀ {xs:List V},(∀y∈xs,fY y=true)->Paired (Rep H n) (xs.map TV.sc) xs
 | [],_=>.nil
 | y::r,h=>.cons (Rep.scal (h y dI)) (Hm λz m=>h z (jE _ m))
def HDX(xs:List V):Prop:=∃nm n wd b,HD nm n wd xs b
def Ti(a b d f:Str)(c g:Int):bV [.str a,.str b,.int c] [.str d,.str f,.int g]=decide (([.str a,.str b,.int c]:List V)=[.str d,.str f,.int g]):=by
 have e:bV [.str a,.str b,.int c] [.str d,.str f,.int g]=(decide (a=d)&&(decide (b=f)&&decide (c=g))):=by
  show((jK (.str a) (.str d)&&(jK (.str b) (.str f)&&(jK (.int c) (.int g)&&true)))&&true)=_;rw[Bool.and_true,Bool.and_true];rfl
 rw[e];by_cases h:a=d<;>by_cases i:b=f<;>by_cases j:c=g<;>simp[h,i,j]
def HDX.shape{xs:List V}(h:HDX xs):∃a b c,xs=[.str a,.str b,.int c]:=by
 obtain⟨nm,n,wd,b,h⟩:=h;cases h<;>exact⟨_,_,_,rfl⟩
def HDX.eqT{xs ys:List V}(d:HDX xs)(e:HDX ys):bV xs ys=decide (xs=ys):=by
 obtain⟨a,b,c,rfl⟩:=d.shape;obtain⟨f,g,h,rfl⟩:=e.shape;exact Ti _ _ _ _ _ _
def HDX.flat{xs:List V}(h:HDX xs):∀ {j:Nat}{u:V},xs[j]?=some u->bU u=true:=by
 obtain⟨a,b,c,rfl⟩:=h.shape;intro j u e;have:=cP e;simp only [mem_cons,ZJ,or_false]at this;rcases this with rfl|rfl|rfl<;>rfl
def Said(z:EN):Prop:=(∀q,z.dd=some q->HDX q.2)/\(z.word="undone"∨((z.word="yes"∨z.word="no")/\∃d a,z.dd=some (d,a)/\HDX a))
def Said.of{k:Str}{e t:ZT}{xs:List V}{wd:Str}(h:HDX xs)(a:wd="yes"∨wd="no"):Said ⟨k,e,some (t,xs),wd⟩:=⟨λ_ e=>by cases e;exact h,.inr ⟨a,t,xs,rfl,h⟩⟩
def pY(C:ZT):Sp:=λvs H Q _=>∃p d a f g h L nm n wd i b ky,vs=[.ref p,.str ky,.ref d]/\HAt C H p a f g h L/\L<=500/\H d=some (.tup i)/\HD nm n wd i b/\bZ nm/\1<=n/\n<=1000000000000/\iN ky/\¬ ky∈h.map (·.key) ∧
 ∀j e,HAt C j p a (Em f (iB f g wd nm n) nm b) g (h++[⟨ky,e,some (d,i),yn (iB f g wd nm n)⟩]) (L+1)->(∀c o,H c=some o->c≠a.da->c≠a.de->j c=some o)->Q (.str (yn (iB f g wd nm n))) j
def Mm{C:ZT}(T:Txt K mg)(a3:Top w.params K mg)(B:tQ K C)(C4:aI P w K mg base 3 "check_key" ["thing"] oG)(rb:aI P w K mg base 4 "is_deed" ["thing"] zE)(N3:gK P w K mg base 3 C "try_deed" ZB (Hl C))(D:MethAt K C "ask" "House.ask" O6 Zz):gK P w K mg base 5 C "ask" Zz (pY C):=by
 refine D.gg Y5 (λa4 cdv a5 outer a6 a7 vs a8 a9 q h=>?_)
 ·obtain⟨a0,d,a,f,j,m,a1,nm,n,wd,l,a2,ky,rfl,A,M,hd,r,B8,UT,ku,qt,G,qn⟩:=h;have H:=cQ q;have C0:=q.units;obtain⟨aW,W3,tW⟩:=a3.g_HOUSE_WORDS;refine⟨_,(kg (pz (mh C4 q rfl (jw (jx 1) jy))) (kg (mo (wx (R.dr (FM (v0 (mh rb q rfl (jw (jx 2) jy)))) (R.du (ml (R.jj (K:=K)) (mj K 2) (R.gR rfl W3))))) (li R.dz) ms) (kg (mo (ml (R.gi H) (jx 1) (qh (K:=K) (jx 0))) (li (qf (mm (jw (jx 2) (jw (tu N3 q (jx 0) (jw (jx 2) jy)) jy))) (qg (qh (K:=K) (jx 0)) (jx 1) (ua H)))) ms) (kg (mi (i:=3) Y5.nd (u8 H (qh (K:=K) (jx 0)) (jx 1))) (kg (mo (wx (zn (ml R.ne (mj K 3) lf) (R.df (ml (R.ie C0) (mj K 3) (jx 2))))) (li R.dz) ms) (li (mn (mj K 3)))))))),?_⟩;obtain⟨UU,Xx,UX⟩:=HD.deed r B8 UT ku;refine⟨ky,rfl,qt,λN O=>?_⟩;have s:=O _ _ hd;refine⟨.ref d,rfl,⟨(Pc.tup s).pt,λa' Q e g=>by cases e;rw[s]at g;cases g;exact UX N⟩,λa' Q e g=>by cases e;rw[s]at g;cases g;omega,λH2 S=>?_⟩;have ev:zD N (.ref d)=true:=by
   unfold zD;dsimp only;rw[s];exact UU
  rw[ev];have U:=O.trans S;have y:=S _ _ s;have t:=A.same U;have hw:eP l 0=some (.str wd):=by cases r<;>rfl
  refine⟨_,YU y,_,hw,aW,_,rfl,.inr (tW H2),rfl,rfl,?_⟩;have yh:jG (.str wd) [V.str "add",.str "take"]=true:=by cases r<;>rfl
  dsimp only;rw[yh,ZQ rfl];refine⟨C,a.dx,_,.ref a.de,t.hp,B.cl,B.nE,lG a,_,t.he,?_⟩;rw[fO];rw[ZV G];refine⟨a.dx,_,t.hp,cR a Zk Zk Zk,a0,d,a,f,j,m,a1,nm,n,wd,l,a2,rfl,t,M,y,r,λH3 yj W=>⟨Zs,λe I E X=>?_⟩⟩;have b:=yj.same E;refine⟨C,a.dx,_,.ref a.de,b.hp,B.cl,B.nE,lG a,a.de,_,rfl,DPut.k (k:=Sum.inr ky) b.he ?_,?_⟩
  ·unfold dE;rw[bA];exact fQ A.le (fQ M Zd)
  rw[show bG (dE m) (Sum.inr ky) (.ref e)=dE (m++[⟨ky,e,some (d,l),yn (iB f j wd nm n)⟩]) from hJ (z:=⟨ky,e,some (d,l),yn (iB f j wd nm n)⟩) G];generalize Y:aJ I a.de (.dK (dE (m++[⟨ky,e,some (d,l),yn (iB f j wd nm n)⟩])))=p;have u:∀c o,I c=some o->c≠a.de->p c=some o:=λc o e hc=>by rw[<- Y,aD hc];exact e
  have Z:p a.de=some (.dK (dE (m++[⟨ky,e,some (d,l),yn (iB f j wd nm n)⟩]))):=by rw[<- Y];exact aA
  have x:∀ {c:ZT}{ys:List V},I c=some (.tup ys)->p c=some (.tup ys):=λe=>u _ _ e (bD e b.he nofun)
  have ng:H3 d=some (.tup l):=W _ _ y (bD y t.ha nofun);have J:HAt C p a0 a (Em f (iB f j wd nm n) nm a2) j (m++[⟨ky,e,some (d,l),yn (iB f j wd nm n)⟩]) (a1+1):=by
   obtain⟨kvs,gc,lc,rc⟩:=b.hc;refine⟨u _ _ b.hp (bD b.hp b.he nofun),u _ _ b.ha b.ae,⟨kvs,u _ _ gc b.ce,lc,rc⟩,Z,λz hz=>?_,b.nda,?_,b.la,?_,b.ac,b.ae,b.ce⟩
   ·rcases Zma.mp hz with h|h
    ·exact(b.ents.keep (λ_ _ e=>x e)) z h
    ·rw[Zms.mp h];exact⟨x X,λd' Q e=>by cases e;exact x (E _ _ ng)⟩
   ·rw[eF];exact gP A.nde G
   ·have:=A.le;rw[gJ];simp;omega
  have UY:DGet p a.de (.str ky) (some (.ref e)):=by
   have:=DGet.k (k:=Sum.inr ky) Z;rw[kR (z:=⟨ky,e,some (d,l),yn (iB f j wd nm n)⟩) J.nde (ZL _ dI)]at this;exact this
  have L:=x X;have DG:=x (E _ _ ng);refine⟨C,a.dx,_,.ref a.de,J.hp,B.cl,B.nE,lG a,a.de,_,rfl,UY,?_⟩;dsimp only [aK];have LL:yn (iB f j wd nm n)≠"undone":=by
   cases iB f j wd nm n<;>decide
  refine⟨_,YU L,_,rfl,?_⟩;show if (!decide (yn (iB f j wd nm n)="undone"))=true then _ else _
  rw[ZV LL,ZQ (show(!false)=true from rfl)];have F:HDX l:=⟨_,_,_,_,r⟩;refine⟨_,YU L,_,rfl,_,_,DG,DG,(λb0 b1 v hu hv=>⟨F.flat hu,F.flat hv⟩),?_⟩;show if (!bV l l)=true then _ else _
  rw[F.eqT F,ZW rfl,ZP Zd];refine⟨_,YU L,_,rfl,qn p e J λc o e' h1 h2=>?_⟩;exact u _ _ (E _ _ (W _ _ (U _ _ e') h1)) h2
def Aq(C:ZT):Sp:=λvs H Q _=>∃p a h i g L ky,vs=[.ref p,.str ky]/\HAt C H p a h i g L/\L<=500/\iN ky/\(∀z∈g,Said z) ∧
 (¬ ky∈g.map (·.key)->∀f e,HAt C f p a h i (g++[⟨ky,e,none,"undone"⟩]) (L+1)->(∀c o,H c=some o->c≠a.da->c≠a.de->f c=some o)->Q .non f) ∧
 (∀z∈g,z.key=ky->z.word≠"yes"->∀f e,HAt C f p a h i (gC g ky ⟨ky,e,z.dd,"undone"⟩) (L+1)->(∀c o,H c=some o->c≠a.da->c≠a.de->f c=some o)->Q .non f) ∧
 (∀z∈g,z.key=ky->z.word="yes"->∀d j nm n wd b,z.dd=some (d,j)->HD nm n wd j b->∀f e,HAt C f p a (bF h nm (aX h nm-b)) i (gC g ky ⟨ky,e,z.dd,"undone"⟩) (L+1)->(∀c o,H c=some o->c≠a.da->c≠a.de->f c=some o)->Q .non f)
def HAt.ent{C:ZT}{H:Hp}{p:ZT}{a:HF}{d:List (Str×Int)}{f:Str->Bool}{en c:List EN}{L:Nat}(h:HAt C H p a d f en L)(j:EAt H c)(l:(c.map (·.key)).Nodup)(m:c.length<=L):HAt C (aJ H a.de (.dK (dE c))) p a d f c L:=by
 obtain⟨i,g,r⟩:=h.hc;have k:∀b o,H b=some o->b≠a.de->(aJ H a.de (.dK (dE c))) b=some o:=λb o e n=>by rw[aD n];exact e
 exact⟨k _ _ h.hp (bD h.hp h.he nofun),k _ _ h.ha h.ae,⟨i,k _ _ g h.ce,r⟩,aA,j.keep (λb q e=>k _ _ e (bD e h.he nofun)),h.nda,l,h.la,m,h.ac,h.ae,h.ce⟩
def Fp{C:ZT}(T:Txt K mg)(B:tQ K C)(C4:aI P w K mg base 3 "check_key" ["thing"] oG)(d5:gK P w K mg base 1 C "amount" ZE (fM C))(p7:aI P w K mg base 1 "done_changes" ["deed"] mH)(D:MethAt K C "undo" "House.undo" K4 ["self","key"]):gK P w K mg base 4 C "undo" ["self","key"] (Aq C):=by
 refine D.gg Y (λa5 cdv a6 outer a7 a0 vs a2 a8 O h=>?_)
 ·obtain⟨p,a,j,Z,en,L,ky,rfl,u,hL,qt,QG,qa,qb,qc⟩:=h;have j0:=cQ O;refine⟨_,(kg (pz (mh C4 O rfl (jw (jx 1) jy))) (kg (mi (i:=2) Y.nd (IN j0 (qh (K:=K) (jx 0)) (jx 1) (mm (jw tj (jw lf jy))))) (kg (mo (ml pq (mj K 2) lf) (li (sn PassesOwn.never rfl (R.fj (K:=K) (mh p7 O rfl (jw (mj K 2) jy))) (wn (K:=K) (n:=2) rfl (pv (mq (i:=3) Y.nd) (pv (mq (i:=4) Y.nd) wp))) (li (qf (lv FS (tu d5 O (jx 0) (jw (jx 3) jy)) (jx 4)) (qg (qh (K:=K) (jx 0)) (jx 3) (ua j0)))))) ms) (li (qf (mm (jw (mj K 2) (jw lf jy))) (qg (qh (K:=K) (jx 0)) (jx 1) (ua j0))))))),?_⟩;refine⟨ky,rfl,qt,λH1 s1=>?_⟩;have Q:=u.same s1;refine⟨C,a.dx,_,.ref a.de,Q.hp,B.cl,B.nE,lG a,a.de,rfl,.inl ⟨_,.inl Q.he⟩,Zs,λt0 H2 s2 g2=>⟨_,DGet.k (k:=Sum.inr ky) (s2 _ _ Q.he),?_⟩⟩;have G:=Q.same s2;have LM:=s1.trans s2;dsimp only [aK];have put:∀(A:List EN)(X:List (Str×Int))(l:Hp)(e:ZT)(o:Option (ZT×List V)),HAt C l p a X Z en (L+1)->(∀c o,a0 c=some o->c≠a.da->l c=some o)->(∀d v,o=some (d,v)->l d=some (.tup v)) →
    l e=some (.tup [Bx o,.str "undone"])->(∀z∈A,z∈en∨z=⟨ky,e,o,"undone"⟩)->(A.map (·.key)).Nodup->A.length<=L+1->bG (dE en) (Sum.inr ky) (.ref e)=dE A →
    (∀f,HAt C f p a X Z A (L+1)->(∀c o,a0 c=some o->c≠a.da->c≠a.de->f c=some o)->a2 .non f)->a2 .non (aJ l a.de (.dK (bG (dE en) (Sum.inr ky) (.ref e)))):=λA X l e o h3 k3 ho ge H hn hl ep a3=>by
   rw[ep];refine a3 _ (HAt.ent h3 (λz r=>?_) hn hl) λc o' g h1 h2=>by rw[aD h2];exact k3 _ _ g h1
   rcases H z r with h|rfl
   ·exact h3.ents z h
   ·exact⟨ge,ho⟩
  have sz:(dE en).length<sizeLine:=by
   unfold dE;rw[bA];exact fQ u.le (fQ hL Zd)
  by_cases x:ky∈en.map (·.key)
  ·obtain⟨z,r,rfl⟩:=Zmm.mp x;rw[kR G.nde r];obtain⟨ge,gd⟩:=G.ents z r;have FC:∀(e:ZT),∀a1∈gC en z.key ⟨z.key,e,z.dd,"undone"⟩,a1∈en∨a1=⟨z.key,e,z.dd,"undone"⟩:=λe a1 hy=>by
    unfold gC at hy;obtain⟨y',kz,rfl⟩:=Zmm.mp hy;split
    ·exact .inr rfl
    ·exact .inl kz
   have P0:∀e:ZT,((gC en z.key ⟨z.key,e,z.dd,"undone"⟩).map (·.key)).Nodup:=λe=>by rw[wC (z':=⟨z.key,e,z.dd,"undone"⟩) rfl];exact u.nde
   have ue:∀e:ZT,(gC en z.key ⟨z.key,e,z.dd,"undone"⟩).length<=L+1:=λe=>by unfold gC;rw[bA];exact le_succ_of_le u.le
   refine⟨_,YU ge,_,rfl,?_⟩;show if decide (z.word="yes")=true then _ else _
   refine cG (λhb=>?_) (λhb=>?_)
   ·have S:z.word="yes":=ZY hb;obtain⟨E,F,ed,nm,n,wd,a4,hD⟩:∃E F,z.dd=some (E,F)/\HDX F:=by
     rcases(QG z r).2 with h|⟨_,h⟩
     ·rw[S]at h;exact ZO h Zd
     ·exact h
    have UZ:=gd E F ed;have LG:H2 z.ent=some (.tup [.ref E,.str z.word]):=by rw[ge,ed];rfl
    refine⟨_,YU LG,_,rfl,E,wd,F,_,_,rfl,UZ,HD.dwx hD,λt zs l U g3 O9 H=>⟨t,rfl,⟨_,YU g3⟩,?_⟩⟩
    match zs,H with
    | [(ta,b,s)],H=>
    have e1:b=nm/\s=a4:=by
     have:=H;simp at this;exact this
    obtain⟨rfl,rfl⟩:=e1;have y:=G.same U;refine bS (jM K t (fT [(ta,b,s)])) (λi W f=>(∃o3 o4:Option V,W=[some (.ref p),some (.str z.key),some (.ref z.ent),o3,o4])/\f=if i=0 then l else aJ l a.da (.dK (eU (bF j b (aX j b-s))))) (?_) ⟨⟨_,_,rfl⟩,rfl⟩ ?_ ?_
    ·rintro i W f ⟨_,e⟩;rw[e];split
     ·exact YU g3
     ·exact YU (by rw[aD (bD g3 y.ha nofun)];exact g3)
    ·rintro i a9 W f hx ⟨⟨o2,o3,rfl⟩,e⟩;have hi:i=0:=by
      have:=(Zgs.mp hx).1;unfold fT at this;simp at this;exact this
     subst hi;rw[ZQ rfl]at e;subst e;obtain⟨z',hn,rfl,gz⟩:=uw O9 hx;cases hn;refine⟨ta,_,rfl,YU gz,rfl,_,_,rfl,_,_,rfl,rfl,a.dx,_,y.hp,cR a Zk Zk Zk,p,a,j,Z,en,L,b,rfl,y,C,a.dx,_,.ref a.da,y.hp,B.cl,B.nA,vT a,a.da,_,rfl,DPut.k (k:=Sum.inr b) y.ha ?_,⟨_,_,rfl⟩,?_⟩
     ·unfold eU;rw[bA];exact fQ u.la (fQ hL Zd)
     ·rw[ZP Zd,gW]
    ·rintro W f ⟨⟨o2,o3,rfl⟩,e⟩;rw[ZP (by show ¬ 1=0;decide)]at e;subst e;have Y6:=HAt.put y b (aX j b-s);have k4:∀c o,a0 c=some o->c≠a.da->(aJ l a.da (.dK (eU (bF j b (aX j b-s))))) c=some o:=λc o e h=>by rw[aD h];exact U _ _ (LM _ _ e)
     have yk:∀ {c:ZT}{ys:List V},H2 c=some (.tup ys)->(aJ l a.da (.dK (eU (bF j b (aX j b-s))))) c=some (.tup ys):=λe=>by rw[aD (bD (U _ _ e) y.ha nofun)];exact U _ _ e
     generalize aJ l a.da (.dK (eU (bF j b (aX j b-s))))=H4 at Y6 k4 yk ⊢;refine⟨_,YU (yk ge),_,rfl,Zs,λe I q J=>?_⟩;have m:=Y6.same q;refine⟨C,a.dx,_,.ref a.de,m.hp,B.cl,B.nE,lG a,a.de,_,rfl,DPut.k (k:=Sum.inr z.key) m.he sz,?_⟩;exact put (gC en z.key ⟨z.key,e,z.dd,"undone"⟩) _ I e z.dd m (λc o g h=>q _ _ (k4 _ _ g h)) (λd v g=>q _ _ (yk (gd d v g))) J (FC e) (P0 e) (ue e) (kS (z':=⟨z.key,e,z.dd,"undone"⟩) rfl x) λf M N=>qc z r rfl S E F b n wd s ed hD f e M N
   ·have S:z.word≠"yes":=ZX hb;refine⟨_,YU ge,_,rfl,Zs,λe I q J=>?_⟩;have m:=G.same q;refine⟨C,a.dx,_,.ref a.de,m.hp,B.cl,B.nE,lG a,a.de,_,rfl,DPut.k (k:=Sum.inr z.key) m.he sz,?_⟩;exact put (gC en z.key ⟨z.key,e,z.dd,"undone"⟩) j I e z.dd (HAt.more m (le_succ _)) (λc o g _=>q _ _ (LM _ _ g)) (λd v g=>q _ _ (gd d v g)) J (FC e) (P0 e) (ue e) (kS (z':=⟨z.key,e,z.dd,"undone"⟩) rfl x) λf M N=>qb z r rfl S f e M N
  ·have Va:aQ (dE en) (Sum.inr ky)=none:=by
    have:=fO (ky:=ky) (en:=en);rw[ZV x]at this;cases e:aQ (dE en) (Sum.inr ky) with
    | none=>rfl
    | some _=>rw[e]at this;cases this
   rw[Va];refine⟨_,YU g2,_,rfl,?_⟩;refine⟨_,YU g2,_,rfl,Zs,λe I q J=>?_⟩;have m:=G.same q;refine⟨C,a.dx,_,.ref a.de,m.hp,B.cl,B.nE,lG a,a.de,_,rfl,DPut.k (k:=Sum.inr ky) m.he sz,?_⟩;exact put (en++[⟨ky,e,none,"undone"⟩]) j I e none (HAt.more m (le_succ _)) (λc o g _=>q _ _ (LM _ _ g)) (λd v g=>nomatch g) J (λz r=>by rcases Zma.mp r with h|h;exact .inl h;exact .inr (Zms.mp h)) (by rw[eF];exact gP u.nde x) (by rw[gJ];have:=u.le;simp;omega) (hJ (z:=⟨ky,e,none,"undone"⟩) x) λf M N=>qa x f e M N
def Uf(x y:V):cW "closed_names" y [(("amounts":Str),x)]=[(("amounts":Str),x),("closed_names",y)]:=by
 unfold cW;rw[ZP Zk];rfl
def Ug(x y z:V):cW "entries" z [(("amounts":Str),x),("closed_names",y)]=[(("amounts":Str),x),("closed_names",y),("entries",z)]:=by
 unfold cW;rw[ZP Zk];unfold cW;rw[ZP Zk];rfl
def Uh(x y z v:V):cW "amounts" v [(("amounts":Str),x),("closed_names",y),("entries",z)]=[(("amounts":Str),v),("closed_names",y),("entries",z)]:=by
 unfold cW;rw[ZQ rfl]
def lK{C:ZT}(T:Txt K mg)(B:tQ K C)(i7:gK P w K mg base 1 C "close" ZE (fN C true))(f:ZT)(cdv:ZS)(A:Around)(outer:List Env)(s:ZR)(H:Hp)(vs:List V)(Q:VK)(E:XK)(hr:Room 1 (A.deeper (PyProof.Rows.envOfC "House.__init__" (aG b8) s.heap.objs.size f cdv)))(h:jP C vs H Q E) :
  ∃t,XB (eO jL P w K mg base ["self","rows","closed","name"] "House.__init__" (aG b8) f cdv A outer s H E).nox (aS b8) t/\t {nx:=λ_ r=>Q .non r,rt:=Q } (start ["self","rows","closed","name"] vs) H:=by
  obtain⟨p,d,a0,a5,d9,x,rfl,G,hR,QH,Q2,hC,EO,a4⟩:=h;refine⟨_,(kg (R.fk (K:=K) (jx 0) R.dj) (kg (R.fk (K:=K) (jx 0) R.dj) (kg (R.fk (K:=K) (jx 0) R.dj) (kg (mo (ml R.jl (jx 1) tj) (li (R.fk (K:=K) (jx 0) (ub (R.fu (K:=K) rfl) rfl T.b_dict tL (jw (jx 1) jy)))) ms) (li (mo (ml R.jl (jx 2) tj) (li (sn PassesOwn.never rfl (qe (K:=K) (jx 2)) (mq (i:=3) K5.nd) (li (pz (tu i7 hr (jx 0) (jw (jx 3) jy)))))) ms)))))),?_⟩;intro c rg;have W:=aB G rg;refine⟨C,d,[],(by rw[aD W];exact G),B.cl,B.nA,(by show 0<1000;decide),?_⟩;have g1:(aJ (aJ H c (.dK [])) p (.ins C d [("amounts",.ref c)])) p=some (.ins C d [("amounts",.ref c)]):=aA;have a1:(aJ (aJ H c (.dK [])) p (.ins C d [("amounts",.ref c)])) c=some (.dK []):=by rw[aD W.symm];exact aA
  have X:∀b o,H b=some o->b≠p->(aJ (aJ H c (.dK [])) p (.ins C d [("amounts",.ref c)])) b=some o:=λb o e j=>by rw[aD j,aD (aB e rg)];exact e
  dsimp only;rw[Tc];generalize aJ (aJ H c (.dK [])) p (.ins C d [("amounts",.ref c)])=I at g1 a1 X;intro g F;have J:=aB g1 F;refine⟨C,d,_,(by rw[aD J];exact g1),B.cl,B.nC,(by show 1<1000;decide),?_⟩;dsimp only;rw[Uf];have g2:(aJ (aJ I g (.dK [])) p (.ins C d [("amounts",.ref c),("closed_names",.ref g)])) p=some (.ins C d [("amounts",.ref c),("closed_names",.ref g)]):=aA;have c2:(aJ (aJ I g (.dK [])) p (.ins C d [("amounts",.ref c),("closed_names",.ref g)])) g=some (.dK []):=by rw[aD J.symm];exact aA
  have Y:∀b o,I b=some o->b≠p->(aJ (aJ I g (.dK [])) p (.ins C d [("amounts",.ref c),("closed_names",.ref g)])) b=some o:=λb o e j=>by rw[aD j,aD (aB e F)];exact e
  have a2:=Y _ _ a1 W.symm;have AE:c≠g:=aB a1 F;generalize aJ (aJ I g (.dK [])) p (.ins C d [("amounts",.ref c),("closed_names",.ref g)])=L at g2 c2 Y a2;intro q y;have M:=aB g2 y;refine⟨C,d,_,(by rw[aD M];exact g2),B.cl,B.nE,(by show 2<1000;decide),?_⟩;dsimp only;rw[Ug];have g3:(aJ (aJ L q (.dK [])) p (.ins C d [("amounts",.ref c),("closed_names",.ref g),("entries",.ref q)])) p=some (.ins C d [("amounts",.ref c),("closed_names",.ref g),("entries",.ref q)]):=aA;have Z:(aJ (aJ L q (.dK [])) p (.ins C d [("amounts",.ref c),("closed_names",.ref g),("entries",.ref q)])) q=some (.dK []):=by rw[aD M.symm];exact aA
  have k3:∀b o,L b=some o->b≠p->(aJ (aJ L q (.dK [])) p (.ins C d [("amounts",.ref c),("closed_names",.ref g),("entries",.ref q)])) b=some o:=λb o e j=>by rw[aD j,aD (aB e y)];exact e
  have a3:=k3 _ _ a2 W.symm;have c3:=k3 _ _ c2 J.symm;have xg:c≠q:=aB a2 y;have QI:g≠q:=aB c2 y;generalize aJ (aJ L q (.dK [])) p (.ins C d [("amounts",.ref c),("closed_names",.ref g),("entries",.ref q)])=H3 at g3 Z k3 a3 c3;have N:∀b o,H b=some o->b≠p->H3 b=some o:=λb o e j=>k3 _ _ (Y _ _ (X _ _ e j) j) j
  have QJ:H g=none:=by
   cases e:H g with
   | none=>rfl
   | some o=>rw[X _ _ e J.symm]at F;cases F
  have zj:H q=none:=by
   cases e:H q with
   | none=>rfl
   | some o=>rw[Y _ _ (X _ _ e M.symm) M.symm]at y;cases y
  refine Kl (t:=uQ _ _ _) (λσ' r=>σ'=[some (.ref p),some a0,some a5,none]/\∃a:HF,HAt C r p a d9 (λ_=>false) [] 100/\H a.da=none/\H a.dc=none/\H a.de=none/\∀b o,H b=some o->b≠p->r b=some o) (λnx b7=>?_) ?_
  ·rcases hR with⟨rfl,rfl⟩|⟨l,zs,rfl,u,BL,rfl⟩
   ·exact b7 _ _ ⟨rfl,⟨d,c,g,q⟩,⟨g3,a3,⟨[],c3,Zd,λn=>rfl⟩,Z,(λ_ h=>nomatch h),nodup_nil,nodup_nil,Zd,Zd,AE,xg,QI⟩,rg,QJ,zj,N⟩
   ·have nl:l≠p:=bD u G nofun;have LN:ZAt H3 zs:=λz hz=>N _ _ (BL z hz) (bD (BL z hz) G nofun)
    refine⟨wz zs,by rw[Kw];exact YT (N _ _ u nl),Qj LN,by unfold wz;rw[bA];rw[bA]at Q2;omega,λO D=>?_⟩;rw[Kx,vQ QH];have LO:=aB g3 D;refine⟨C,d,_,(by rw[aD LO];exact g3),B.cl,B.nA,(by show 3<1000;decide),?_⟩;rw[Uh];have Vb:H O=none:=by
     cases e:H O with
     | none=>rfl
     | some o=>rw[N _ _ e LO.symm]at D;cases D
    have v:∀b o,H3 b=some o->b≠p->(aJ (aJ H3 O (.dK (eU (zs.map (·.2))))) p (.ins C d [("amounts",.ref O),("closed_names",.ref g),("entries",.ref q)])) b=some o:=λb o e j=>by rw[aD j,aD (aB e D)];exact e
    exact b7 _ _ ⟨rfl,⟨d,O,g,q⟩,⟨aA,by rw[aD LO.symm];exact aA,⟨[],v _ _ c3 J.symm,Zd,λn=>rfl⟩,v _ _ Z M.symm,(λ_ h=>nomatch h),QH,nodup_nil,Q2,Zd,(aB c3 D).symm,(aB Z D).symm,QI⟩,Vb,QJ,zj,λb o e j=>v _ _ (N _ _ e j) j⟩
  rintro σ' H4 ⟨rfl,a,ht,f1,f2,f3,v⟩;rcases hC with⟨rfl,rfl⟩|⟨l,rfl,u⟩
  ·exact a4 H4 a f1 f2 f3 ht v
  have nl:l≠p:=bD u G nofun;have Vc:l≠a.dc:=λz=>by rw[z,f2]at u;cases u
  have QK:=v _ _ u nl;refine⟨l,rfl,⟨_,YT QK⟩,?_⟩;refine bS (bB K l (x.map V.str)) (λi σ r=>(∃o3:Option V,σ=[some (.ref p),some a0,some (.ref l),o3])/\HAt C r p a d9 (λn=>decide (n∈x.take i)) [] (100+i)/\∀b o,H4 b=some o->b≠a.dc->r b=some o) (λi σ r ⟨_,_,k⟩=>YT (k _ _ QK Vc)) ⟨⟨_,rfl⟩,by simpa using ht,λb o e _=>e⟩ ?_ ?_
  ·rintro i a6 σ r S ⟨⟨o3,rfl⟩,U,k'⟩;rw[dH]at S;cases hn:x[i]? with
   | none=>rw[hn]at S;cases S
   | some nm=>
    rw[hn]at S;cases S;have hi:i<x.length:=(Zgs.mp hn).1;refine⟨a.dx,_,U.hp,cR a Zk Zk Zk,p,a,d9,_,[],100+i,nm,rfl,U,Zo,λP1 FG Vd=>⟨⟨_,rfl⟩,?_,λb o e j=>Vd _ _ (k' _ _ e j) j⟩⟩;have:(λm=>if m=nm then true else decide (m∈x.take i))=λm=>decide (m∈x.take (i+1)):=by
     funext m
     rw[List.take_succ,hn];by_cases e:m=nm
     ·rw[ZQ e,e];simp
     ·rw[ZP e];simp[e]
    rw[this]at FG;exact FG
  ·rintro σ r ⟨⟨o3,rfl⟩,U,k'⟩;rw[bA,take_length]at U;refine a4 r a f1 f2 f3 U λb o e j=>k' _ _ (v _ _ e j) λz=>?_
   rw[z,f2]at e;cases e
def Ar{C:ZT}(T:Txt K mg)(B:tQ K C)(e:gK P w K mg base 1 C "close" ZE (fN C true))(D:ClsAt K mg "House" C "House.__init__" i Zr [[.non,.non]]):∀d∈([[.non,.non]]:List (List V)),Rn P w K mg base 2 "House" C Zr d (jP C):=
 D.go j (λvs H Q E h=>by obtain⟨p,k,r,c,l,m,rfl,_⟩:=h;rfl) λf b A a s H vs Q E g h=>lK T B e f b A a s H vs Q E g h
def rS(a:List Str)(g:Str->Int):List (Str×Int):=((jA a).filter λn=>decide (g n≠0)).map λn=>(n,g n)
def oI(C:ZT):Sp:=λvs H Q _=>∃p a b e f L,vs=[.ref p]/\HAt C H p a b e f L/\b.length<64/\∀l d c,Same H c->H l=none->c l=some (.lst (fT d))->ZAt c d->d.map (·.2)=rS (b.map (·.1)) (aX b)->Q (.ref l) c
def gD{a:Type}{xs:List a}{i:Nat}{x:a}(h:xs[i]?=some x):xs.take (i+1)=xs.take i++[x]:=by
 rw[List.take_succ,h];rfl
def As{b:List (Str×Int)}{H:Hp}{k:ZT}{m:Str}(h:H k=some (.dK (eU b)))(d:m∈b.map (·.1)):DGet H k (.str m) (some (.int (aX b m))):=by
 obtain⟨a,c⟩:=dX d;have:=DGet.k (k:=Sum.inr m) h;rw[gU,c]at this;have e:aX b m=a:=by unfold aX;rw[c];rfl
 rw[e];exact this
def Au{C:ZT}(T:Txt K mg)(B:tQ K C)(D:MethAt K C "rows" "House.rows" I ZD):gK P w K mg base 1 C "rows" ZD (oI C):=by
 refine D.gg xh (λa0 cdv a1 W a2 H vs a3 a4 J h=>?_)
 ·obtain⟨a5,a,b,cl,en,a6,rfl,s,y,q⟩:=h;have A:=cQ J;refine⟨_,(li (mn (ww rfl (js:=[none,some 0]) (N:=["name","self"]) (CompScope.by (aG I) ZD rfl rfl Zk) (bJ rfl) (qe (K:=K) (qd (R.ft rfl) rfl T.b_sorted lZ (jw (qh (K:=K) (jx 0)) jy))) (λC X Y fp=>⟨(mq (i:=0) (show(["name","self"]:List Str).Nodup by decide +kernel)),(R.dm (ml R.ne (u8 A (qh (K:=K) (jx 1)) (jx 0)) kt)),(R.gu (jw (jx 0) (jw (u8 A (qh (K:=K) (jx 1)) (jx 0)) jy)))⟩)))),?_⟩;refine⟨C,a.dx,_,.ref a.da,s.hp,B.cl,B.nA,vT a,b.map (·.1),_,.inl s.ha,pM b,by rw[bA];exact y,λl L=>⟨l,rfl,⟨_,YT aA⟩,?_⟩⟩;have k:Same H (aJ H l (.lst ((jA (b.map (·.1))).map V.str))):=aH L;have g1:(aJ H l (.lst ((jA (b.map (·.1))).map V.str))) l=some (.lst ((jA (b.map (·.1))).map V.str)):=aA;generalize aJ H l (.lst ((jA (b.map (·.1))).map V.str))=M at k g1;have hlen:(jA (b.map (·.1))).length<64:=by rw[jN,bA];exact y
  refine bL (bB K l ((jA (b.map (·.1))).map V.str)) (by rw[bA];omega) (λi o f=>∃c:List Z,o=fT c/\Same M f/\ZAt f c/\c.length<=i/\c.map (·.2)=(((jA (b.map (·.1))).take i).filter λn=>decide (aX b n≠0)).map λn=>(n,aX b n))
   (λi o f ⟨c,e,d,_,O,_⟩=>⟨YT (d _ _ g1),by rw[e];unfold fT;rw[bA];exact O⟩) ⟨[],rfl,Same.refl _,(λ_ h=>nomatch h),bH _,rfl⟩ (λi a7 o f g ⟨c,e,d,p,E,r⟩=>?_) (λo f ⟨c,e,d,p,E,r⟩=>?_)
  ·rw[dH]at g;cases j:(jA (b.map (·.1)))[i]? with
   | none=>rw[j]at g;cases g
   | some n=>
    rw[j]at g;cases g;have Q:n∈b.map (·.1):=(dD _).mem_iff.mp (cP j);have u:=s.same (k.trans d);have F:=As u.ha Q;refine⟨C,a.dx,_,.ref a.da,u.hp,B.cl,B.nA,vT a,a.da,_,rfl,F,?_⟩;show if (!decide (aX b n=0))=true then _ else _
    refine cG (λv=>?_) (λv=>?_)
    ·refine⟨C,a.dx,_,.ref a.da,u.hp,B.cl,B.nA,vT a,a.da,_,rfl,F,dC rfl,λt G=>⟨c++[(t,n,aX b n)],by rw[e];unfold fT;rw[eF];rfl,d.trans (aH G),?_,by rw[gJ];simpa using E,?_⟩⟩
     ·intro z S;rcases Zma.mp S with m|m
      ·exact(p.same (aH G)) z m
      ·rw[Zms.mp m];exact aA
     ·rw[eF,r,gD j,filter_append,eF];congr 1;rw[filter_cons,ZQ (by simpa using v)];rfl
    ·refine⟨c,e,d,p,Zo,?_⟩;rw[r,gD j,filter_append,filter_cons,ZP (by simpa using v)];simp
  ·intro U x;subst e;refine q U c _ (k.trans (d.trans (aH x))) ?_ aA (p.same (aH x)) ?_
   ·exact k.free (d.free x)
   ·rw[r,bA,take_length];rfl
def dT:Option (ZT×List V)->TV
 | none=>.sc .non
 | some q=>.tp (q.2.map .sc)
def Mn{H:Hp}{z:EN}(h:∀d xs,z.dd=some (d,xs)->H d=some (.tup xs))(a:∀d xs,z.dd=some (d,xs)->∀y∈xs,fY y=true):Rep H 1 (dT z.dd) (Bx z.dd):=by
 cases e:z.dd with
 | none=>exact Rep.scal rfl
 | some q=>exact⟨q.1,q.2,rfl,h q.1 q.2 e,Hm (a q.1 q.2 e)⟩
def cV(en:List EN):List EN:=(jA (en.map (·.key))).filterMap λk=>en.find? (λz=>decide (z.key=k))
def Fq(H:Hp)(z:EN)(a:ZT):Prop:=H a=some (.tup [.str z.key,Bx z.dd,.str z.word])
def jQ(C:ZT):Sp:=λvs H Q _=>∃p a e f c L,vs=[.ref p]/\HAt C H p a e f c L/\c.length<64/\∀l d b,Same H b->H l=none->b l=some (.lst (d.map V.ref))->Paired (Fq b) (cV c) d->Q (.ref l) b
theorem hU{z:EN}:∀ {en:List EN},(en.map (·.key)).Nodup->z∈en->en.find? (λy=>decide (y.key=z.key))=some z
 | y::r,a,h=>by
  obtain⟨b,c⟩:=nodup_cons.mp a;rw[find?_cons];rcases mem_cons.mp h with rfl|h
  ·simp
  ·have:¬ y.key=z.key:=λe=>b (by show y.key∈_;rw[e];exact Zmm.mpr ⟨z,h,rfl⟩)
   rw[ZV this];exact hU c h
def Av{a b:Type}{R:a->b->Prop}{xs:List a}{ys:List b}{x:a}{y:b}(h:Paired R xs ys)(r:R x y):Paired R (xs++[x]) (ys++[y]):=by
 induction h with
 | nil=>exact .cons r .nil
 | cons h t c=>exact .cons h c
def Aw(en:List EN):(dE en).map (·.1)=(en.map (·.key)).map Sum.inr:=by
 unfold dE;rw[map_map,map_map];rfl
def Ax{C:ZT}(T:Txt K mg)(B:tQ K C)(D:MethAt K C "kept" "House.kept" F ZD):gK P w K mg base 1 C "kept" ZD (jQ C):=by
 refine D.gg W (λa0 U a1 M a2 H vs a3 a4 G h=>?_)
 ·obtain⟨a5,a,X,Y,b,a6,rfl,g,x,q⟩:=h;have y:=cQ G;refine⟨_,(li (mn (ww rfl (js:=[none,some 0]) (N:=["key","self"]) (CompScope.by (aG F) ZD rfl rfl Zk) (bJ rfl) (qe (K:=K) (qd (R.ft rfl) rfl T.b_sorted lZ (jw (qh (K:=K) (jx 0)) jy))) (λC O Q Z=>⟨(mq (i:=0) (show(["key","self"]:List Str).Nodup by decide +kernel)),AC,(R.gu (jw (jx 0) (jw (mv (AT (K:=K)) (u8 y (qh (K:=K) (jx 1)) (jx 0)) kt) (jw (mv (AT (K:=K)) (u8 y (qh (K:=K) (jx 1)) (jx 0)) kt) jy))))⟩)))),?_⟩;refine⟨C,a.dx,_,.ref a.de,g.hp,B.cl,B.nE,lG a,b.map (·.key),_,.inl g.he,Aw b,by rw[bA];exact x,λl I=>⟨l,rfl,⟨_,YT aA⟩,?_⟩⟩;have m:Same H (aJ H l (.lst ((jA (b.map (·.key))).map V.str))):=aH I;have g1:(aJ H l (.lst ((jA (b.map (·.key))).map V.str))) l=some (.lst ((jA (b.map (·.key))).map V.str)):=aA;generalize aJ H l (.lst ((jA (b.map (·.key))).map V.str))=J at m g1;have S:(jA (b.map (·.key))).length<64:=by rw[jN,bA];exact x
  refine bL (bB K l ((jA (b.map (·.key))).map V.str)) (by rw[bA];omega) (λi n f=>Same J f/\∃c:List ZT,n=c.map V.ref/\c.length<=i/\Paired (Fq f) (((jA (b.map (·.key))).take i).filterMap λk=>b.find? (λz=>decide (z.key=k))) c)
   (λi n f ⟨d,c,e,s,_⟩=>⟨YT (d _ _ g1),by rw[e,bA];exact s⟩) ⟨Same.refl _,[],rfl,bH _,.nil⟩ (λi a7 n f j ⟨d,c,e,s,o⟩=>?_) (λn f ⟨d,c,e,s,o⟩=>?_)
  ·rw[dH]at j;cases p:(jA (b.map (·.key)))[i]? with
   | none=>rw[p]at j;cases j
   | some ky=>
    rw[p]at j;cases j;obtain⟨z,u,rfl⟩:=Zmm.mp ((dD _).mem_iff.mp (cP p));have r:=g.same (m.trans d);have A:DGet f a.de (.str z.key) (some (.ref z.ent)):=by
     have:=DGet.k (k:=Sum.inr z.key) r.he;rw[kR g.nde u]at this;exact this
    have ge:=(r.ents z u).1;refine⟨C,a.dx,_,.ref a.de,r.hp,B.cl,B.nE,lG a,a.de,_,rfl,A,_,YU ge,_,rfl,C,a.dx,_,.ref a.de,r.hp,B.cl,B.nE,lG a,a.de,_,rfl,A,_,YU ge,_,rfl,dC rfl,λt E=>⟨d.trans (aH E),c++[t],by rw[e,eF];rfl,by simp;omega,?_⟩⟩;rw[gD p,ZI,ZH,hU g.nde u];exact Av (Paired.map' (λ_ _ h=>aH E _ _ h) o) aA
  ·intro L v;rw[bA,take_length]at o;exact q L c _ (m.trans (d.trans (aH v))) (m.free (d.free v)) (by rw[aA,e]) (Paired.map' (λ_ _ h=>aH v _ _ h) o)
def iR{en:List EN}(b:(en.map (·.key)).Nodup){z:EN}:z∈cV en↔z∈en:=by
 unfold cV;rw[mem_filterMap];constructor
 ·rintro⟨k,_,e⟩;exact List.mem_of_find?_eq_some e
 ·intro a;exact⟨z.key,(dD _).mem_iff.mpr (mem_map_of_mem a),hU b a⟩
def dL(z:List Nat)(m p:Nat):List Nat:=z++(bN m).cps.toList++[97+p]
def tY:Sp:=λvs H Q _=>∃(z:List Nat)(m p:Nat),vs=[.str (tx z),.int m,.int p]/\z.length<=10/\m<=999999/\p<2/\Q (.str (tx (dL z m p))) H
def gE(m:Nat):bN m=tx (bN m).cps.toList:=kG _
def iU{m:Nat}(h:m<=999999):(bN m).cps.toList.length<=6:=by
 have:=Ea (m:=m) (k:=5) Zo;have e:(bN m).cps.toList.length=(bN m).length:=by simp[Str.length]
 omega
def Mo(T:Txt K mg)(U:Top w.params K mg)(D:DefAt K mg "key_of" n Zm):aI P w K mg base 1 "key_of" Zm tY:=by
 refine D.gg o (λf l A k s H vs Q E r h=>?_)
 ·obtain⟨z,m,p,rfl,t,e,u,q⟩:=h;obtain⟨v,g,a⟩:=U.g_ENDS;refine⟨_,(li (mn (lv xz (lv xz (jx 0) (ub R.fm rfl T.b_str nU (jw (jx 1) jy))) (mv (AT (K:=K)) (R.gR rfl g) (jx 2))))),?_⟩;have y:=iU e;have i:(bN m).length=(bN m).cps.toList.length:=by simp[Str.length]
  refine⟨⟨Zo,Int.lt_of_le_of_lt (by omega:(m:Int)<=999999) Zd⟩,cX (by show(tx z).length+(bN m).length<=1000;rw[aV,i];omega),?_⟩;have b:∀x:Str,x=tx [97+p]->Q (.str (tx z++bN m++x)) H:=λx j=>by
   rw[j,gE m,cF,cF];exact q
  have B:(tx z++bN m).length<=16:=by rw[gE m,cF,aV,gJ];omega
  have c:("a":Str)=tx [97]:=by decide +kernel
  have d:("b":Str)=tx [98]:=by decide +kernel
  rcases(by omega:p=0∨p=1) with rfl|rfl
  ·refine⟨_,a H,.str ("a":Str),rfl,cX (by show(tx z++bN m).length+("a":Str).length<=1000;rw[c];have:=aV [97];simp only [qH,length_nil]at this;omega),b _ c⟩
  ·refine⟨_,a H,.str ("b":Str),rfl,cX (by show(tx z++bN m).length+("b":Str).length<=1000;rw[d];have:=aV [98];simp only [qH,length_nil]at this;omega),b _ d⟩
def dQ:RX->aR|.next n _=>Sum.inl (n:Int)|.has z _=>Sum.inr z|.kept n _ _ _ _ _=>Sum.inl (n:Int)|.came n _ _ _ _=>Sum.inl (n:Int)|.asked n=>Sum.inl (n:Int)|.done n _ _=>Sum.inl (n:Int)
def Mp(r:RX):Me r=kV (dQ r):=by cases r<;>rfl
def dZ(wd:Str)(r:RX)(a:ZT):List (aR×V):=if dP r=wd then [(dQ r,.ref a)] else []
def cA(wd:Str)(b:List RX)(c:List ZT):Nat->List (aR×V)
 | 0=>[]
 | i+1=>cA wd b c i++(match b[i]?,c[i]? with|some r,some a=>dZ wd r a|_,_=>[])
def dR{wd:Str}{b:List RX}{c:List ZT}{i:Nat}{r:RX}{a:ZT}(d:b[i]?=some r)(e:c[i]?=some a):cA wd b c (i+1)=cA wd b c i++dZ wd r a:=by
 simp only [cA,d,e]
theorem pZ(wd:Str)(a:List RX)(b:List ZT):∀i,(cA wd a b i).length<=i
 | 0=>bH _
 | i+1=>by
  have:=pZ wd a b i;unfold cA;rw[gJ];split
  ·unfold dZ;split<;>simp<;>omega
  ·simp;omega
theorem hV{wd:Str}{c:List RX}{d:List ZT}{k:aR}{v:V}:∀ {i:Nat},(k,v)∈cA wd c d i->∃j r a,j<i/\c[j]?=some r/\d[j]?=some a/\dP r=wd/\k=dQ r/\v=.ref a
 | 0,h=>nomatch h
 | i+1,h=>by
  unfold cA at h;rcases Zma.mp h with h|h
  ·obtain⟨j,r,a,e,b⟩:=hV h;exact⟨j,r,a,Zo,b⟩
  ·split at h
   ·rename_i r a f g;unfold dZ at h;split at h
    ·rename_i l;have:=Zms.mp h;injection this with e b
     exact⟨i,r,a,lt_succ_self _,f,g,l,e,b⟩
    ·cases h
   ·cases h
theorem qA{wd:Str}{b:List RX}{c:List ZT}{j:Nat}{r:RX}{a:ZT}(d:b[j]?=some r)(f:c[j]?=some a)(g:dP r=wd):∀ {i:Nat},j<i->(dQ r,V.ref a)∈cA wd b c i
 | 0,h=>nomatch h
 | i+1,h=>by
  by_cases e:j=i
  ·subst e;rw[dR d f];refine ZL _ ?_;unfold dZ;rw[ZQ g];exact dI
  ·unfold cA;exact ZM _ (qA d f g Zo)
def rT(kvs l:List (aR×V))(k:aR)(v:V):aM kvs (l++[(k,v)])=bG (aM kvs l) k v:=by unfold aM;rw[List.foldl_append];rfl
theorem eB{k:aR}{v:V}:∀ {l kvs:List (aR×V)},aQ (aM kvs l) k=some v->(k,v)∈l∨aQ kvs k=some v
 | [],kvs,h=>.inr h
 | (a,b)::l,kvs,h=>by
  have c:aQ (aM (bG kvs a b) l) k=some v:=h;rcases eB c with h1|h1
  ·exact .inl (jE _ h1)
  ·rw[cT]at h1;by_cases e:k=a
   ·rw[ZQ e]at h1;injection h1 with h1
    rw[<- h1,e];exact .inl dI
   ·rw[ZP e]at h1;exact .inr h1
theorem qB{k:aR}:∀ {l kvs:List (aR×V)},(k∈l.map (·.1)∨∃v,aQ kvs k=some v)->∃v,aQ (aM kvs l) k=some v
 | [],kvs,h=>by
  rcases h with h|h
  ·cases h
  ·exact h
 | (a,b)::l,kvs,h=>by
  refine qB (l:=l) (kvs:=bG kvs a b) ?_;rcases h with h|⟨v,h⟩
  ·rcases mem_cons.mp h with h|h
   ·right
    rw[cT,ZQ h];exact⟨_,rfl⟩
   ·exact .inl h
  ·right
   rw[cT];split
   ·exact⟨_,rfl⟩
   ·exact⟨v,h⟩
def kT{wd:Str}{b:List RX}{c:List ZT}(x:b.length=c.length){r:RX}(h:r∈b)(i:dP r=wd):∃(j:Nat)(d:RX)(a:ZT),aQ (aM [] (cA wd b c b.length)) (dQ r)=some (.ref a)/\b[j]?=some d/\c[j]?=some a/\dP d=wd/\dQ r=dQ d:=by
 obtain⟨j,g,m⟩:=getElem_of_mem h;have n:b[j]?=some r:=by rw[bR g,m]
 have o:c[j]?=some c[j]:=bR Zo;have p:=qA n o i g;obtain⟨v,e⟩:=qB (kvs:=[]) (k:=dQ r) (l:=cA wd b c b.length) (.inl (mem_map_of_mem p));rcases eB e with f|f
 ·obtain⟨q,d,s,_,g1,g2,g3,t,u⟩:=hV f;rw[u]at e;exact⟨q,d,s,e,g1,g2,g3,t⟩
 ·cases f
def tZ:Sp:=λvs H Q _=>∃(c:ZT)(wd:Str)(a:List RX)(d:List ZT),vs=[.ref c,.str wd]/\RxsAt H c a d/\a.length<=100/\∀(p:ZT)(b:Hp),H p=none->b p=some (.dK (aM [] (cA wd a d a.length)))->Same H b->Q (.ref p) b
def lM(D:DefAt K mg "by_numbers" O ["rows","word"]):aI P w K mg base 1 "by_numbers" ["rows","word"] tZ:=by
 refine D.gg v (λf N A M s H vs Q a0 y h=>?_)
 ·obtain⟨l,wd,e,j,rfl,n,S,q⟩:=h;have z:=cQ y;have le:=n.len;refine⟨_,(kg (mi (i:=2) v.nd R.dj) (kg (sn PassesOwn.never rfl (qe (K:=K) (jx 0)) (mq (i:=3) v.nd) (li (mo (ml pq (mj K 3) (jx 1)) (li (qf (jx 3) (qg (jx 2) (mj K 3) (ua z)))) ms))) (li (mn (jx 2))))),?_⟩;refine λp o=>?_;have T:p≠l:=(aB n.lst o).symm;dsimp only [aK];refine aN (λb k=>∃c,b=[some (.ref l),some (.str wd),some (.ref p),c]/\k p=some (.dK (aM [] (cA wd e j e.length)))/\Same H k) (λU B=>?_) ?_
  ·refine⟨l,rfl,⟨_,YT (aZ n.lst o)⟩,bS (bB K l (j.map V.ref)) (λi b k=>∃c,b=[some (.ref l),some (.str wd),some (.ref p),c]/\k p=some (.dK (aM [] (cA wd e j i)))/\Same H k) (λi b k ⟨_,_,_,C⟩=>YT (C _ _ n.lst))
    ⟨_,rfl,aA,aH o⟩ ?_ ?_⟩
   ·rintro i a1 b t E ⟨c,rfl,g1,d⟩;obtain⟨a,r,rfl,u,x,F⟩:=(n.same d).get E;obtain⟨W,g,G,I,X⟩:=pV F;have Y:=(Zgs.mp u).1;have Z:=pZ wd e j i;have J:=cS (cA wd e j i) [];refine⟨_,YU g,_,G,?_⟩;show if decide (dP r=wd)=true then _ else _
    refine cG (λh=>?_) (λh=>?_)
    ·have L:DPut t p (Me r) (.ref a) (aJ t p (.dK (bG (aM [] (cA wd e j i)) (dQ r) (.ref a)))):=by
      rw[Mp];exact DPut.k g1 (fQ (m:=1000) (by simp at J;omega) Zd)
     refine⟨_,YU g,_,I,p,_,rfl,L,?_⟩
     ·refine⟨_,rfl,?_,fK o d⟩;rw[aA,dR x u];unfold dZ;rw[ZQ (ZY h),rT]
    ·refine⟨_,rfl,?_,d⟩;rw[dR x u];unfold dZ;rw[ZP (ZX h),append_nil];exact g1
   ·rintro b t ⟨c,rfl,g1,d⟩;rw[bA,<- le]at g1;exact B _ _ ⟨c,rfl,g1,d⟩
  ·rintro b t ⟨c,rfl,g1,d⟩;exact q p t o g1 d
structure Wt where
 n:Nat
 i:Nat
 h:Str
 d:Dd
 w:Str
def cB:Dd->List (Str×Dd)
 | .send h a m=>[(h,.add a m)]|.fetch h a m=>[(h,.take a m)]|.pass h g a m=>[(h,.take a m),(g,.add a m)]|_=>[]
def hX(x:Dd):(cB x).length<=2:=by cases x<;>exact ZN rfl
def Tj(H:Hp)(q:Str×Dd)(a:ZT):Prop:=∃t,H a=some (.tup [.str q.1,.ref t])/\H t=some (.tup q.2.vs)
def kU:Sp:=λvs H Q _=>∃(t:ZT)(x:Dd),vs=[.ref t]/\H t=some (.tup x.vs)/\∀(l:ZT)(b:List ZT)(a:Hp),H l=none->a l=some (.lst (b.map V.ref))->Paired (Tj a) (cB x) b->Same H a->Q (.ref l) a
def wF(T:Txt K mg)(D:DefAt K mg "_law_places" I Zq):aI P w K mg base 1 "_law_places" Zq kU:=by
 refine D.gg J (λf G A F s H vs Q E L h=>?_)
 ·obtain⟨t,x,rfl,gt,q⟩:=h;refine⟨_,(kg (mo (ml pq (mj K 0) lf) (li (mn (o0 (jw (mm (jw (mj K 0) (jw (mm (jw lf (jw (mj K 0) (jw (mj K 0) jy)))) jy))) jy)))) ms) (kg (mo (ml pq (mj K 0) lf) (li (mn (o0 (jw (mm (jw (mj K 0) (jw (mm (jw lf (jw (mj K 0) (jw (mj K 0) jy)))) jy))) jy)))) ms) (kg (mo (ml pq (mj K 0) lf) (li (mn (o0 (jw (mm (jw (mj K 0) (jw (mm (jw lf (jw (mj K 0) (jw (mj K 0) jy)))) jy))) (jw (mm (jw (mj K 0) (jw (mm (jw lf (jw (mj K 0) (jw (mj K 0) jy)))) jy))) jy))))) ms) (li (mn (o0 jy)))))),?_⟩
  cases x with
  | send h a m=>
   refine⟨_,YU gt,_,rfl,_,YU gt,_,rfl,_,YU gt,_,rfl,_,YU gt,_,rfl,aP rfl,λj r i g1=>⟨aP rfl,λe u d g2=>⟨dC rfl,λl c=>?_⟩⟩⟩;have k:=(i.trans d).trans (aH (o:=.lst [.ref e]) c);exact q l [e] _ ((i.trans d).free c) aA (.cons ⟨j,aZ g2 c,aZ (d _ _ g1) c⟩ .nil) k
  | fetch h a m=>
   refine⟨_,YU gt,_,rfl,_,YU gt,_,rfl,_,YU gt,_,rfl,_,YU gt,_,rfl,_,YU gt,_,rfl,aP rfl,λj r i g1=>⟨aP rfl,λe u d g2=>⟨dC rfl,λl c=>?_⟩⟩⟩;have k:=(i.trans d).trans (aH (o:=.lst [.ref e]) c);exact q l [e] _ ((i.trans d).free c) aA (.cons ⟨j,aZ g2 c,aZ (d _ _ g1) c⟩ .nil) k
  | pass h g a m=>
   refine⟨_,YU gt,_,rfl,_,YU gt,_,rfl,_,YU gt,_,rfl,_,YU gt,_,rfl,_,YU gt,_,rfl,_,YU gt,_,rfl,aP rfl,λj r i g1=>⟨aP rfl,λe u d g2=>?_⟩⟩;have n:=i.trans d;refine⟨_,YU (n _ _ gt),_,rfl,_,YU (n _ _ gt),_,rfl,_,YU (n _ _ gt),_,rfl,aP rfl,λz M k g3=>⟨aP rfl,λv N y B=>⟨dC rfl,λl c=>?_⟩⟩⟩;have p:=k.trans y;have C:=(n.trans p).trans (aH (o:=.lst [.ref e,.ref v]) c);exact q l [e,v] _ ((n.trans p).free c) aA (.cons ⟨j,aZ (p _ _ g2) c,aZ (p _ _ (d _ _ g1)) c⟩ (.cons ⟨z,aZ B c,aZ (y _ _ g3) c⟩ .nil)) C
  | add a m=>
   refine⟨_,YU gt,_,rfl,_,YU gt,_,rfl,_,YU gt,_,rfl,dC rfl,λl c=>?_⟩;exact q l [] _ c aA .nil (aH c)
  | take a m=>
   refine⟨_,YU gt,_,rfl,_,YU gt,_,rfl,_,YU gt,_,rfl,dC rfl,λl c=>?_⟩;exact q l [] _ c aA .nil (aH c)
  | move a b m=>
   refine⟨_,YU gt,_,rfl,_,YU gt,_,rfl,_,YU gt,_,rfl,dC rfl,λl c=>?_⟩;exact q l [] _ c aA .nil (aH c)
def eY(g:Str):List Str->Nat|[]=>0|z::r=>if z=g then 0 else eY g r+1
theorem oJ{g:Str}:∀ {a:List Str}{j:Nat},a.Nodup->a[j]?=some g->eY g a=j
 | [],_,_,h=>by cases h
 | z::r,0,_,h=>by cases h;exact ZQ rfl
 | z::r,j+1,c,h=>by
  obtain⟨d,f⟩:=nodup_cons.mp c;have b:r[j]?=some g:=h;show(if z=g then 0 else eY g r+1)=j+1;rw[ZP (λe=>d (by rw[e];exact cP b)),oJ f b]
def jC(x:Dd)(i:Nat):Option An->Str
 | none=>"any"
 | some (.short _)=>"none"
 | some (.full _)=>"none"
 | some (.no g)=>if i<eY g ((cB x).map (·.1)) then "undone" else if i=eY g ((cB x).map (·.1)) then "no" else "none"
 | some _=>"yes"
def Ay:Sp:=λvs H Q _=>∃(t c:ZT)(x:Dd)(i:Nat)(a:List An)(bs:List ZT),vs=[.ref t,.int (i:Int),.ref c]/\H t=some (.tup x.vs)/\H c=some (.lst (bs.map V.ref))/\Paired (λy b=>H b=some (.tup (An.vs y))) a bs/\(∀y∈a,An.Of x y)/\x.far=true/\x.Ok ∧
 ∀d,Same H d->Q (.str (jC x i a.head?)) d
def Ft(T:Txt K mg)(S2:aI P w K mg base 1 "_law_places" Zq kU)(D:DefAt K mg "_law_want" G7 Zl):aI P w K mg base 2 "_law_want" Zl Ay:=by
 refine D.gg O (λa4 cdv a5 outer a6 a0 vs a1 a7 Q h=>?_)
 ·obtain⟨t,S,x,i,ys,bs,rfl,gt,G,U,BI,oj,hok,a2⟩:=h;have hu:=Q.units0;refine⟨_,(kg (mo (ml (R.jh (K:=K) hu) (jx 2) (o0 jy)) (li (mn lf)) ms) (kg (mi (i:=3) O.nd (nw K 2)) (kg (mo (ml (R.db (K:=K)) (mj K 3) (mm (jw lf (jw lf jy)))) (li (mn lf)) ms) (kg (mo (ml R.ne (mj K 3) lf) (li (mn lf)) ms) (kg (mi (i:=4) O.nd (tm (K:=K) PySem.F.plainAttrs_list PySem.F.slot_list_index PySem.F.type_list_index R.fg (ww rfl (js:=[none,none]) (N:=Zj) (CompScope.by (aG G7) ["_law_deed_here","_law_place","_law_answers","_law_answer_here","_law_refused"] rfl rfl Zk) (gS (bY rfl (bY rfl fE))) (qe (K:=K) (mh S2 Q rfl (jw (jx 0) jy))) (λa8 s₂ H₂ fp=>⟨(wn (K:=K) (n:=2) rfl (pv (mq (i:=0) (show(Zj:List Str).Nodup by decide +kernel)) (pv (mq (i:=1) (show(Zj:List Str).Nodup by decide +kernel)) wp))),AC,(jx 0)⟩)) (jw (mj K 3) jy))) (li (mn (mv (px (K:=K)) (o0 (jw lf (jw lf (jw lf jy)))) (lv R.iy (re R.ge (jx 1) (jx 4)) (re R.gt (jx 1) (jx 4))))))))))),?_⟩
  cases U with
  | nil=>
   refine gA (λv b=>v=true/\Same a0 b) (λW A=>⟨dC rfl,λp d=>⟨S,p,_,rfl,rfl,YT (aZ G d),YT aA,A _ _ ⟨rfl,aH d⟩⟩⟩) ?_ ?_
   ·rintro f ⟨_,q⟩;exact a2 f q
   ·rintro f ⟨z,_⟩;cases z
  | @cons y a3 ys bs gy U=>
   refine gA (λv b=>v=false/\Same a0 b) (λW A=>⟨dC rfl,λp d=>⟨S,p,_,rfl,rfl,YT (aZ G d),YT aA,A _ _ ⟨rfl,aH d⟩⟩⟩) ?_ ?_
   ·rintro f ⟨z,_⟩;cases z
   rintro f ⟨_,q⟩;dsimp only [eK];have H:=BI y dI;have B:∀b,Same f b->a1 (.str (jC x i (some y))) b:=λb I=>a2 b (q.trans I)
   have X:=q _ _ gy;refine⟨_,YT (q _ _ G),.ref a3,cE (j:=0) rfl,?_⟩;dsimp only [aK];obtain⟨u,IC,j0⟩:∃u,eP y.vs 0=some (.str u)/\jG (.str u) [.str "short",.str "full"]=y.early:=by cases y<;>exact⟨_,rfl,rfl⟩
   refine gA (λv b=>v=y.early/\Same f b) (λW A=>?_) ?_ ?_
   ·refine⟨_,YU X,_,IC,aP rfl,λtq r c g2=>⟨tq,_,rfl,.inr (YU g2),rfl,rfl,?_⟩⟩;exact A _ _ ⟨j0,c⟩
   ·rintro r ⟨e,c⟩;cases y<;>first|exact B r c|cases e
   rintro r ⟨e,c⟩;dsimp only [eK];have C:=c _ _ X
   cases y with
   | short m=>cases e
   | full m=>cases e
   | is1 m=>exact⟨_,YU C,_,rfl,B r c⟩
   | is2 l m=>exact⟨_,YU C,_,rfl,B r c⟩
   | ok=>exact⟨_,YU C,_,rfl,B r c⟩
   | no g=>
    refine⟨_,YU C,_,rfl,?_⟩;have X8:=c _ _ (q _ _ gt);refine⟨t,x,rfl,X8,λl Y H3 fl Z pl s3=>⟨l,rfl,⟨_,YT Z⟩,?_⟩⟩;have lp:=hX x;have Q2:=pl.length;refine bL (bB K l (Y.map V.ref)) (by rw[bA,<- Q2];omega) (λj F b=>b=H3/\F=(((cB x).map (·.1)).take j).map V.str) (λj F b ⟨k,e⟩=>⟨by rw[k];exact YT Z,by rw[e,bA];exact List.length_take_le _ _⟩) ⟨rfl,rfl⟩ (?_) (?_)
    ·rintro j v F b E ⟨k,e⟩;subst k;rw[dH]at E;cases J:Y[j]? with
     | none=>rw[J]at E;cases E
     | some a=>
      rw[J]at E;cases E;obtain⟨nh,ea⟩:=Zgs.mp J;obtain⟨X5,tt,h1,h2⟩:=Paired.get' (j:=j) pl nh;rw[ea]at h1;refine⟨a,_,rfl,YU h1,rfl,_,_,rfl,_,_,rfl,rfl,rfl,?_⟩;have ez:((cB x).map (·.1))[j]?=some (cB x)[j].1:=by rw[dH,bR X5];rfl
      rw[bC ez,e,eF];rfl
    ·rintro F b ⟨k,e⟩;intro p d;subst k;rw[bA,<- Q2,lO Zs]at e;subst e;have L:(aJ b p (.lst (((cB x).map (·.1)).map V.str))) p=some (.lst (((cB x).map (·.1)).map V.str)):=aA;have M:=aH (o:=.lst (((cB x).map (·.1)).map V.str)) d;generalize aJ b p (.lst (((cB x).map (·.1)).map V.str))=H4 at L M;have oi:g∈(cB x).map (·.1)/\((cB x).map (·.1)).Nodup:=by
      cases x with
      | send h a m=>rw[show g=h from H];exact⟨dI,by simp[cB]⟩
      | fetch h a m=>rw[show g=h from H];exact⟨dI,by simp[cB]⟩
      | pass h g' a m=>
       have m4:h≠g':=hok.2.2.2.1;rcases(show g=h∨g=g' from H) with rfl|rfl<;>exact⟨by simp[cB],by simp[cB,m4]⟩
      | _=>cases oj
     refine⟨.inl ⟨rfl,_,YT L⟩,_,YU (M _ _ (s3 _ _ C)),_,rfl,_,L,oi.1,λj hj=>?_⟩;have ej:=oJ oi.2 hj;have sw:=(c.trans s3).trans M;dsimp only [aK];have q3:∀b,Same f b->a1 (.str (if i<j then ("undone":Str) else if i=j then ("no":Str) else ("none":Str))) b:=λb I=>by
      have:=B b I;have k:jC x i (some (.no g))=if i<eY g ((cB x).map (·.1)) then ("undone":Str) else if i=eY g ((cB x).map (·.1)) then ("no":Str) else ("none":Str):=rfl
      rw[k,ej]at this;exact this
     refine⟨dC rfl,λl5 Ve=>?_⟩;have s5:=sw.trans (aH (o:=.lst [.str "undone",.str "no",.str "none"]) Ve);show vM K (.ref l5) (.int (PyProof.Rows.b2i (decide ((j:Int)<=(i:Int)))+PyProof.Rows.b2i (decide ((j:Int)<(i:Int))))) _ _;have s:=q3 _ s5;rcases lt_trichotomy i j with h|h|h
     ·rw[ZQ h]at s;rw[ZV Zo,ZV Zo];exact⟨_,YT aA,_,rfl,s⟩
     ·rw[ZP Zo,ZQ h]at s;rw[ZW Zo,ZV Zo];exact⟨_,YT aA,_,rfl,s⟩
     ·rw[ZP Zo,ZP Zo]at s;rw[ZW Zo,ZW Zo];exact⟨_,YT aA,_,rfl,s⟩
def wG{b:List RX}(h:RX.Whole b){n t:Nat}{y:An}(h1:.done n t y∈b):∃a p k x,RX.came n a p k x∈b/\An.Of x y:=by
 induction h with
 | nil=>cases h1
 | snoc g e f=>
  rcases aF h1 with h1|h1
  ·obtain⟨a,p,k,x,c,d⟩:=f h1;exact⟨a,p,k,x,ZM _ c,d⟩
  ·rw[<- h1]at e;obtain⟨_,_,a,p,k,x,c,d,_⟩:=e;exact⟨a,p,k,x,ZM _ c,d⟩
def eZ(a:List RX):List Nat:=a.filterMap λr=>match r with|.came n _ _ _ _=>some n|_=>none
def Fu{H:Hp}{o:ZT}{c:List RX}{e:List ZT}(q:RX.Whole c)(RR:RxsAt H o c e){n t:Nat}{p k:Str}{x:Dd}(f:.came n t p k x∈c):∃(a b:ZT)(t':Nat),aQ (aM [] (cA "came" c e c.length)) (Sum.inl (n:Int))=some (.ref a)/\H a=some (.tup [.str "came",.int (n:Int),.int (t':Int),.str p,.str k,.ref b])/\H b=some (.tup x.vs):=by
 obtain⟨j,J,g,r,h,s,u,y⟩:=kT RR.len f (wd:="came") rfl;obtain⟨l,t',L,M,N,rfl⟩:=jO u;have z:n=l:=by
  have:(Sum.inl (n:Int):aR)=Sum.inl (l:Int):=y;injection this with this
  omega
 subst z;have A:=iQ q f (cP h);injection A with _ _ B C D
 subst B;subst C;subst D;obtain⟨O,Q,d,R,m,E⟩:=RR.get (i:=j) (v:=.ref g) (by rw[dH,s];rfl);injection d with d
 subst d;rw[h]at m;injection m with d
 subst d;obtain⟨F,G,I⟩:=E;exact⟨g,F,t',r,G,I⟩
def oK(wd:Str)(a:List RX)(k:aR):Bool:=a.any λr=>decide (dP r=wd)&&decide (dQ r=k)
def wH{wd:Str}{b:List RX}{d:List ZT}(g:b.length=d.length)(k:aR):(aQ (aM [] (cA wd b d b.length)) k).isSome=oK wd b k:=by
 cases h:oK wd b k with
 | true=>
  obtain⟨r,i,e⟩:=List.any_eq_true.mp h;rw[Bool.and_eq_true]at e;obtain⟨j,m,a,c,_⟩:=kT g i (ZY e.1);rw[ZY e.2]at c;rw[c];rfl
 | false=>
  cases c:aQ (aM [] (cA wd b d b.length)) k with
  | none=>rfl
  | some v=>
   exfalso;rcases eB c with f|f
   ·obtain⟨j,r,a,_,g1,g2,g3,l,n⟩:=hV f;have:=List.any_eq_false.mp h r (cP g1);rw[ZW g3,ZW l.symm]at this;exact this rfl
   ·cases f
def wI{c:List RX}(h:RX.Whole c):(eZ c).Pairwise (·<·):=by
 induction h with
 | nil=>exact .nil
 | @snoc c r m f d=>
  have e:eZ (c++[r])=eZ c++eZ [r]:=by unfold eZ;rw[ZI]
  rw[e];cases r with
  | came n t p k x=>
   refine List.pairwise_append.mpr ⟨d,List.pairwise_singleton _ _,λa g b i=>?_⟩;have j:b=n:=Zms.mp i;subst j;obtain⟨r,l,e⟩:=mem_filterMap.mp g;cases r<;>cases e;exact f.1 _ _ _ _ _ l
  | _=>simpa [eZ]using d
theorem mN{b:List RX}{c:List ZT}(f:b.length=c.length):∀i,i<=b.length->(cA "came" b c i).map (·.1)=(eZ (b.take i)).map λn:Nat=>(Sum.inl (n:Int):aR)
 | 0,_=>rfl
 | i+1,j=>by
  obtain⟨r,d⟩:∃r,b[i]?=some r:=⟨b[i],bR Zo⟩;obtain⟨a,g⟩:∃a,c[i]?=some a:=⟨c[i],bR Zo⟩;have e:eZ (b.take i++[r])=eZ (b.take i)++eZ [r]:=by unfold eZ;rw[ZI]
  rw[dR d g,bC d,e,eF,eF,mN f i Zo]
  congr 1
  unfold dZ;by_cases h:dP r="came"
  ·rw[ZQ h];obtain⟨n,t,p,k,x,rfl⟩:=jO h;rfl
  ·rw[ZP h];cases r<;>first|rfl|exact ZO rfl h
def rV{c:List RX}{d:List ZT}(f:RX.Whole c)(g:c.length=d.length):aM [] (cA "came" c d c.length)=cA "came" c d c.length:=by
 rw[fJ _ _ ?_ (λ_ _=>rfl)]
 ·rfl
 ·rw[mN g _ (bH _),lO (bH _)];show List.Pairwise (·≠·) _;rw[List.pairwise_map];exact(wI f).imp λ{a b} h e=>by
   have:(Sum.inl (a:Int):aR)=Sum.inl (b:Int):=e;injection this with this
   omega
def Az{r:RX}(h:dP r="asked"):∃n,r=.asked n:=by
 cases r with
 | asked n=>exact⟨n,rfl⟩
 | has z m=>exact ZO (show("has":Str)="asked" from h) Zk
 | next n t=>exact ZO (show("next":Str)="asked" from h) Zk
 | kept n t p k x y=>exact ZO (show("kept":Str)="asked" from h) Zk
 | came n t p k x=>exact ZO (show("came":Str)="asked" from h) Zk
 | done n t y=>exact ZO (show("done":Str)="asked" from h) Zk
def qC(n:Nat):RX->Option An|.done m _ y=>if m=n then some y else none|_=>none
def gG(a:List RX)(n:Nat):List An:=a.filterMap (qC n)
def dS(a:List RX)(n:Nat)(x:Dd)(i:Nat):Str:=if oK "asked" a (Sum.inl (n:Int))=true then jC x i (gG a n).head? else "none"
def kW(a:List RX)(n:Nat)(x:Dd):Nat->List (Str×Dd)->List Wt
 | _,[]=>[]
 | i,q::l=>⟨n,i,q.1,q.2,dS a n x i⟩::kW a n x (i+1) l
def dU(a:List RX):RX->List Wt|.came n _ _ _ x=>kW a n x 0 (cB x)|_=>[]
def cH(a:List RX):List Wt:=a.flatMap (dU a)
def WtAt(H:Hp)(w:Wt)(a:ZT):Prop:=∃t,H a=some (.tup [.int (w.n:Int),.int (w.i:Int),.str w.h,.ref t,.str w.w])/\H t=some (.tup w.d.vs)
def WtAt.tk{H b:Hp}(s:TK H b){q:Wt}{a:ZT}(h:WtAt H q a):WtAt b q a:=by obtain⟨t,c,d⟩:=h;exact⟨t,s _ _ c,s _ _ d⟩
theorem oM(a:List RX)(n:Nat)(x:Dd):∀(l:List (Str×Dd))(i j:Nat)(q:Str×Dd),l[j]?=some q->(kW a n x i l)[j]?=some ⟨n,i+j,q.1,q.2,dS a n x (i+j)⟩
 | [],_,_,_,h=>by cases h
 | z::l,i,0,q,h=>by cases h;rfl
 | z::l,i,j+1,q,h=>by
  have:=oM a n x l (i+1) j q h;rw[show i+1+j=i+(j+1) by omega]at this;exact this
theorem hZ(a:List RX)(n:Nat)(x:Dd):∀(l:List (Str×Dd))(i:Nat),(kW a n x i l).length=l.length
 | [],_=>rfl
 | _::l,i=>congrArg (·+1) (hZ a n x l (i+1))
def uA:Sp:=λvs H Q _=>∃(c:ZT)(a:List RX)(d:List ZT),vs=[.ref c]/\RxsAt H c a d/\a.length<=30/\RX.Whole a/\(∀r∈a,r.Ok)/\∀(l:ZT)(bs:List ZT)(b:Hp),H l=none->b l=some (.lst (bs.map V.ref))->Paired (WtAt b) (cH a) bs->Same H b->Q (.ref l) b
def uB{a:List RX}(h:RX.Whole a){n t b:Nat}{p k:Str}{x:Dd}{y:An}(c:.came n b p k x∈a)(d:.done n t y∈a):An.Of x y:=by
 obtain⟨i,j,l,m,f,g⟩:=wG h d;have:=iQ h c f;injection this with _ _ _ _ e
 rw[e];exact g
def Ba{u v:V}{xs ys:List V}(h:jK u v=false):bV (u::xs) (v::ys)=false:=by
 unfold bV;rw[Bool.and_eq_false_iff];left;rw[all_eq_false];exact⟨0,Zs,by simpa using h⟩
def Tk{u v a b:V}{xs ys:List V}(h:jK u v=false):bV (a::u::xs) (b::v::ys)=false:=by
 unfold bV;rw[Bool.and_eq_false_iff];left;rw[all_eq_false];exact⟨1,Zs,by simpa using h⟩
def wJ{H:Hp}{r:RX}{a:ZT}(h:r.At H a)(n:Nat):∃xs,H a=some (.tup xs)/\cK xs [.str "asked",.int (n:Int)]/\bV xs [.str "asked",.int (n:Int)]=(decide (dP r="asked")&&decide (dQ r=Sum.inl (n:Int))):=by
 have f:∀(u v:V)(z:List V),bU u=true->bU v=true->cK (u::v::z) [.str "asked",.int (n:Int)]:=λu v z g o j p q l i=>by
  match j,l,i with
  | 0,l,i=>cases l;cases i;exact⟨g,rfl⟩
  | 1,l,i=>cases l;cases i;exact⟨o,rfl⟩
  | j+2,l,i=>cases i
 cases r with
 | next m t=>exact⟨_,h,f _ _ _ rfl rfl,Ba Zk⟩
 | has z m=>exact⟨_,h,f _ _ _ rfl rfl,Ba Zk⟩
 | kept m t p k d y=>obtain⟨b,c,g,_⟩:=h;exact⟨_,g,f _ _ _ rfl rfl,Ba Zk⟩
 | came m t p k d=>obtain⟨b,g,_⟩:=h;exact⟨_,g,f _ _ _ rfl rfl,Ba Zk⟩
 | done m t y=>obtain⟨b,g,_⟩:=h;exact⟨_,g,f _ _ _ rfl rfl,Ba Zk⟩
 | asked m=>
  refine⟨_,h,f _ _ _ rfl rfl,?_⟩;show bV [.str "asked",.int (m:Int)] [.str "asked",.int (n:Int)]=(true&&decide ((Sum.inl (m:Int):aR)=Sum.inl (n:Int)));by_cases e:m=n
  ·subst e;rw[gB (f _ _ _ rfl rfl)];simp
  ·rw[Tk (show jK (.int (m:Int)) (.int (n:Int))=false from beq_eq_false_iff_ne.mpr Zo),ZV (λz=>e (by injection z with z;omega))];rfl
def rW{c:List RX}{H:Hp}{d:List ZT}(k:Paired (λr a=>RX.At H a r) c d)(n:Nat):∃b:List (ZT×List V),b.map (·.1)=d/\(∀z∈b,H z.1=some (.tup z.2)/\cK z.2 [.str "asked",.int (n:Int)])/\vW [.str "asked",.int (n:Int)] b=oK "asked" c (Sum.inl (n:Int)):=by
 induction k with
 | nil=>exact⟨[],rfl,(λ_ h=>nomatch h),rfl⟩
 | @cons r a c d h t l=>
  obtain⟨b,m,o,p⟩:=l;obtain⟨j,g,f,e⟩:=wJ h n;refine⟨(a,j)::b,by rw[map_cons,m],λq i=>?_,?_⟩
  ·rcases mem_cons.mp i with rfl|i
   ·exact⟨g,f⟩
   ·exact o q i
  ·show(bV j _||vW _ b)=(_||_);rw[p,e];rfl
def Bb(T:Txt K mg)(S2:aI P w K mg base 1 "_law_places" Zq kU)(BP:aI P w K mg base 2 "_law_want" Zl Ay)(D:DefAt K mg "_law_wants" C5 ["_law_rows"]):aI P w K mg base 3 "_law_wants" ["_law_rows"] uA:=by
 refine D.gg E (λa8 cdv a9 outer b0 a0 vs b1 b2 hr h=>?_)
 ·obtain⟨r,d,as,rfl,X,hl,hw,hok,a5⟩:=h;have C0:=hr.units;have le:=X.len;refine⟨_,(kg (mi (i:=1) E.nd (o0 jy)) (kg (sn PassesOwn.never rfl (qe (K:=K) (jx 0)) (mq (i:=2) E.nd) (li (mo (ml pq (mj K 2) lf) (kg (R.gx (i:=3) E.nd rfl (Or.inl rfl) rfl (js:=[none,some 2]) (N:=["_law_one","_law_row"]) (CompScope.by (aG C5) ["_law_rows","_law_found","_law_row","_law_answers","_law_places_here","_law_place","_law_want_here"] rfl rfl Zk) (bJ rfl) (qe (K:=K) (jx 0)) (λb3 s₂ H₂ fp=>⟨(mq (i:=0) (show(["_law_one","_law_row"]:List Str).Nodup by decide +kernel)),(R.dm (wx (zn (ml pq (mj K 0) lf) (R.df (ml pq (mj K 0) (mj K 1)))))),(mj K 0)⟩) rfl) (kg (mi (i:=4) E.nd (mh S2 hr rfl (jw (mj K 2) jy))) (li (sn PassesOwn.never rfl (R.dh rfl T.b_range (jw (qd (ut (K:=K)) rfl T.b_len cC (jw (jx 4) jy)) jy)) (mq (i:=5) E.nd) (kg (mi (i:=6) E.nd lf) (kg (mo (ml (R.iq C0) (mm (jw lf (jw (mj K 2) jy))) (jx 0)) (li (mi (i:=6) E.nd (mh BP hr rfl (jw (mj K 2) (jw (jx 5) (jw (jx 3) jy)))))) ms) (li (pz (tm (K:=K) PySem.F.plainAttrs_list PySem.F.slot_list_append PySem.F.type_list_append NE (jx 1) (jw (mm (jw (mj K 2) (jw (jx 5) (jw (mv (AT (K:=K)) (mv (px (K:=K)) (jx 4) (jx 5)) kt) (jw (mv (AT (K:=K)) (mv (px (K:=K)) (jx 4) (jx 5)) kt) (jw (jx 6) jy)))))) jy)))))))))) ms))) (li (mn (jx 1))))),?_⟩;refine⟨dC rfl,λf yb=>?_⟩;have s1:=aH (o:=.lst []) yb;have g1:(aJ a0 f (.lst [])) f=some (.lst []):=aA;dsimp only [aK];generalize aJ a0 f (.lst [])=H1 at s1 g1;refine aN (λp b=>∃(M O F u z:Option V)(bs:List ZT),p=[some (.ref r),some (.ref f),M,O,F,u,z]/\b f=some (.lst (bs.map V.ref))/\Paired (WtAt b) (cH d) bs/\Same a0 b) (λnx b7=>?_) ?_
  ·refine⟨r,rfl,⟨_,YT (s1 _ _ X.lst)⟩,bS (bB K r (as.map V.ref)) (λi p b=>∃(M O F u z:Option V)(bs:List ZT),p=[some (.ref r),some (.ref f),M,O,F,u,z]/\b f=some (.lst (bs.map V.ref))/\Paired (WtAt b) ((d.take i).flatMap (dU d)) bs/\bs.length<=2*i/\Same a0 b) (λi p b ⟨_,_,_,_,_,_,_,_,_,_,s'⟩=>YT (s' _ _ X.lst))
    ⟨_,_,_,_,_,[],rfl,g1,.nil,bH _,s1⟩ ?_ ?_⟩
   ·rintro i v p Q hv ⟨M,O,F,u,z,bs,rfl,A,G,lb,H⟩;have R2:=X.same H;obtain⟨a,a1,rfl,ha,ug,AB⟩:=R2.get hv;obtain⟨xs,a2,x0,x1,x2⟩:=pV AB;have Xy:i<d.length:=(Zgs.mp ug).1;have AD:=bC ug;refine⟨_,YU a2,_,x0,?_⟩;show if decide (dP a1="came")=true then _ else _
    refine cG (λh=>?_) (λh=>?_)
    ·obtain⟨n,t,a6,k,x,rfl⟩:=jO (ZY h);obtain⟨a3,gr,gb⟩:=AB;have BQ:x.Ok:=(hok _ (cP ug)).2.2.2.2.2;have hm:=cP ug;refine aN (λp b=>∃(s:ZT)(g:List ZT),p=[some (.ref r),some (.ref f),some (.ref a),some (.ref s),F,u,z]/\s≠f/\b s=some (.lst (g.map V.ref))/\Paired (λy c=>b c=some (.tup (An.vs y))) (gG d n) g/\Same Q b) (λyg S=>?_) ?_
     ·refine⟨r,rfl,⟨_,YT R2.lst⟩,?_⟩;refine bL (bB K r (as.map V.ref)) (by rw[bA];omega) (λj ys b=>b=Q/\∃g:List ZT,ys=g.map V.ref/\g.length<=j/\Paired (λy c=>Q c=some (.tup (An.vs y))) ((d.take j).filterMap (qC n)) g) (λj ys b ⟨Y,g,e,l',_⟩=>⟨by rw[Y];exact YT R2.lst,by rw[e,bA];exact l'⟩) ⟨rfl,[],rfl,bH _,.nil⟩ (?_) (?_)
      ·rintro j v ys b ki ⟨Y,g,e,l',I⟩;subst Y;obtain⟨a',Z,rfl,LR,LS,FJ⟩:=R2.get ki;obtain⟨B5,g',y0,y1,y2⟩:=pV FJ;have FK:=bC LS;have no:qC n Z=none->b=b/\∃g:List ZT,ys=g.map V.ref/\g.length<=j+1/\Paired (λy c=>b c=some (.tup (An.vs y))) ((d.take (j+1)).filterMap (qC n)) g:=λhn=>⟨rfl,g,e,Zo,by rw[FK,ZI,ZH,hn];simpa using I⟩
       refine⟨_,YU g',_,y0,?_⟩;show if decide (dP Z="done")=true then _ else _
       refine cG (λh'=>?_) (λh'=>?_)
       ·obtain⟨m,t',y,rfl⟩:=tU (ZY h');obtain⟨cy,QO,gy⟩:=FJ;refine⟨_,YU QO,_,rfl,_,YU gr,_,rfl,?_⟩;show if decide ((m:Int)=(n:Int))=true then _ else _
        refine cG (λh2=>?_) (λh2=>no ?_)
        ·have BR:m=n:=by have:=ZY h2;omega
         refine⟨_,YU QO,_,rfl,rfl,g++[cy],by rw[e,eF];rfl,by simp;omega,?_⟩;rw[FK,ZI,ZH,show qC n (.done m t' y)=some y from ZQ BR];exact Av I gy
        ·exact ZP (λa4=>ZX h2 Zo)
       ·refine no ?_
        cases Z with
        | done m t' y=>exact ZO rfl (ZX h')
        | _=>rfl
      ·rintro ys b ⟨Y,g,e,l',I⟩;intro s LU;subst Y;rw[bA,<- le,lO (bH _)]at I;exact S _ _ ⟨s,g,rfl,(aB A LU).symm,by rw[aA,e],Paired.map' (λ_ _ h=>aZ h LU) I,aH LU⟩
     rintro _ H3 ⟨s,g,rfl,Vh,DA,I,s3⟩;refine⟨_,YU (s3 _ _ gr),_,rfl,a3,x,rfl,s3 _ _ gb,λl ps H4 LV QP pl s4=>?_⟩;have B:=s3.trans s4;have LW:l≠f:=(aB (s3 _ _ A) LV).symm;have lp:=hX x;have Q2:=pl.length;refine⟨_,.inl (YT QP),((cB x).length:Int),by rw[bA,<- Q2],Zo,Zo,?_⟩;refine bS (cZ 0 ((cB x).length:Int).toNat) (λj p b=>∃(u z:Option V)(C:List ZT),p=[some (.ref r),some (.ref f),some (.ref a),some (.ref s),some (.ref l),u,z]/\b f=some (.lst (C.map V.ref))/\Paired (WtAt b) ((d.take i).flatMap (dU d)++(kW d n x 0 (cB x)).take j) C/\C.length<=2*i+j/\K1 f H4 b) (λ_ _ _ _=>trivial)
      ⟨_,_,bs,rfl,B _ _ A,by rw[List.take_zero,append_nil];exact Paired.map' (λ_ _ h=>h.tk B.tk) G,Zo,λ_ _ e _=>e⟩ ?_ ?_
     ·rintro j v p J Vi ⟨LX,LY,C,rfl,ID,IE,QQ,L⟩;obtain⟨rfl,hj⟩:=kP Vi;have J8:j<(cB x).length:=by omega
      have oj:x.far=true:=by
       cases x with
       | send h a m=>rfl
       | fetch h a m=>rfl
       | pass h a2 a m=>rfl
       | _=>exact ZO J8 (not_lt_zero _)
      have U:TK H4 J:=λc xs e=>L _ _ e (bD e (B _ _ A) λa4=>nomatch a4)
      have LZ:=U _ _ (B _ _ gr);have HV:=U _ _ (B _ _ gb);have nra:r≠f:=aB X.lst yb;have R5:RxsAt J r d as:=(R2.same B).keep U (L _ _ (B _ _ R2.lst) nra);dsimp only [aK];refine aN (λp b=>p=[some (.ref r),some (.ref f),some (.ref a),some (.ref s),some (.ref l),some (.int (j:Int)),some (.str "none")]/\b=J) (λyg S=>S _ _ ⟨rfl,rfl⟩) ?_;rintro _ a7 ⟨rfl,eG⟩;obtain rfl:J=a7:=eG.symm;refine aN (λp b=>p=[some (.ref r),some (.ref f),some (.ref a),some (.ref s),some (.ref l),some (.int (j:Int)),some (.str (dS d n x j))]/\Same J b) (λyg S=>?_) ?_
      ·refine kN (λv b=>v=oK "asked" d (Sum.inl (n:Int))/\Same J b) (λkk Q3=>?_) ?_ ?_
       ·refine⟨_,YU LZ,_,rfl,aP rfl,λtq H6 q g6=>?_⟩;obtain⟨zs,z1,z2,z3⟩:=rW (R5.same q).each n;refine⟨_,zs,g6,?_,z2,?_⟩
        ·rw[(R5.same q).lst,<- z1,map_map];rfl
        ·exact Q3 _ _ ⟨z3,q⟩
       ·rintro H6 ⟨e6,q⟩;have MB:=q _ _ (L _ _ (s4 _ _ DA) Vh);refine⟨_,YU (q _ _ LZ),_,rfl,a3,s,x,j,gG d n,g,rfl,q _ _ HV,MB,Paired.map' (λ_ _ h=>q _ _ (U _ _ (s4 _ _ h))) I,λy hy=>?_,oj,BQ,λH7 s7=>?_⟩
        ·obtain⟨Z,MC,W⟩:=mem_filterMap.mp hy
         cases Z with
         | done m t' y'=>
          have W:(if m=n then some y' else none)=some y:=W;split at W
          ·rename_i BR;cases W;subst BR;exact uB hw hm MC
          ·cases W
         | _=>cases W
        ·refine S _ _ ⟨?_,q.trans s7⟩;rw[show dS d n x j=jC x j (gG d n).head? from ZQ e6.symm];rfl
       ·rintro H6 ⟨e6,q⟩;refine S _ _ ⟨?_,q⟩;rw[show dS d n x j="none" from ZP (by rw[<- e6];exact ZZ)]
      rintro _ H6 ⟨rfl,q⟩;have QR:=q _ _ (L _ _ QP LW);have FL:j<ps.length:=by omega
      obtain⟨X5,tt,h1,h2⟩:=Paired.get' (j:=j) pl FL;have F6:=q _ _ (U _ _ h1);have FN:eP (ps.map V.ref) (j:Int)=some (.ref ps[j]):=cE (by rw[dH,bR FL];rfl);refine⟨.inl ⟨rfl,_,YT (q _ _ ID)⟩,_,YU (q _ _ LZ),_,rfl,_,YT QR,_,FN,_,YU F6,_,rfl,_,YT QR,_,FN,_,YU F6,_,rfl,aP rfl,λw7 H7 s7 g7=>?_⟩;have IF:=q.trans s7;have QS:=IF _ _ ID;refine⟨f,_,_,rfl,rfl,QS,by rw[bA];exact fQ (m:=1000) Zo Zd,?_⟩;have MD:=iK (ys:=C.map V.ref++[.ref w7]) QS;refine⟨_,_,C++[w7],rfl,by rw[aA,eF];rfl,?_,by simp;omega,λc o e n=>by rw[aD n];exact IF _ _ (L _ _ e n)⟩;have Vj:(cB x)[j]?=some (cB x)[j]:=bR X5;have ew:=oM d n x (cB x) 0 j _ Vj;rw[zero_add]at ew;rw[bC ew,<- append_assoc];refine Av (Paired.map' (λ_ _ h=>(h.tk IF.tk).tk MD) IE) ⟨tt,MD _ _ g7,MD _ _ (IF _ _ (U _ _ h2))⟩
     ·rintro p J ⟨LX,LY,C,rfl,ID,IE,QQ,L⟩;rw[cY,show((cB x).length:Int).toNat=(cB x).length by omega,lO (l:=kW d n x 0 (cB x)) (by rw[hZ];exact bH _)]at IE;rw[cY]at QQ;refine⟨_,_,_,_,_,C,rfl,ID,?_,Zo,λc o e=>L _ _ (B _ _ (H _ _ e)) (aB e yb)⟩;rw[AD,flatMap_append,ZG,flatMap_nil,append_nil];exact IE
    ·have ew:dU d a1=[]:=by
      cases a1 with
      | came n t a6 k x=>exact ZO rfl (ZX h)
      | _=>rfl
     refine⟨_,_,_,_,_,bs,rfl,A,?_,Zo,H⟩;rw[AD,flatMap_append,ZG,ew];simpa using G
   ·rintro p Q ⟨M,O,F,u,z,bs,rfl,A,G,lb,H⟩;rw[bA,<- le,lO (bH _)]at G;exact b7 _ _ ⟨_,_,_,_,_,bs,rfl,A,G,H⟩
  rintro p Q ⟨M,O,F,u,z,bs,rfl,A,G,H⟩;exact a5 f bs Q yb A G H
structure SA where
 s:Addr
 p:Addr
 a:HF
 d1:Addr
 d3:Addr
def SA.all(z:SA):List Addr:=[z.s,z.p,z.a.da,z.a.dc,z.a.de,z.d1,z.d3]
structure SS where
 am:List (Str×Int)
 en:List EN
 am1:List (Str×Int)
 k:Nat
 kv:List EN
structure StAt(C:ZT)(H:Hp)(z:SA)(x:SS)(L:Nat):Prop where
 lst:H z.s=some (.lst [.ref z.p,.ref z.d1,.int (x.k:Int),.ref z.d3])
 hs:HAt C H z.p z.a x.am (λ_=>false) x.en L
 h1:H z.d1=some (.dK (eU x.am1))
 h3:H z.d3=some (.dK (dE x.kv))
 e3:EAt H x.kv
 nd:z.all.Nodup
 l1:x.am1.length<=100
 l3:x.kv.length<=100
def Fs(z:SA)(H a:Hp):Prop:=∀c o,H c=some o->c∉z.all->a c=some o
def Fs.refl{z:SA}{H:Hp}:Fs z H H:=λ_ _ e _=>e
def Fs.trans{z:SA}{H a b:Hp}(f:Fs z H a)(g:Fs z a b):Fs z H b:=λc o e n=>g _ _ (f _ _ e n) n
def Fs.same{z:SA}{H a b:Hp}(f:Fs z H a)(g:Same a b):Fs z H b:=λc o e n=>g _ _ (f _ _ e n)
def StAt.no{C:ZT}{H:Hp}{z:SA}{x:SS}{L:Nat}(h:StAt C H z x L){c:ZT}(a:c∈z.all):∃o,H c=some o/\∀xs,o≠.tup xs:=by
 obtain⟨d,b,_⟩:=h.hs.hc;simp only [SA.all,mem_cons,ZJ,or_false]at a;rcases a with rfl|rfl|rfl|rfl|rfl|rfl|rfl
 ·exact⟨_,h.lst,λ_ z=>nomatch z⟩
 ·exact⟨_,h.hs.hp,λ_ z=>nomatch z⟩
 ·exact⟨_,h.hs.ha,λ_ z=>nomatch z⟩
 ·exact⟨_,b,λ_ z=>nomatch z⟩
 ·exact⟨_,h.hs.he,λ_ z=>nomatch z⟩
 ·exact⟨_,h.h1,λ_ z=>nomatch z⟩
 ·exact⟨_,h.h3,λ_ z=>nomatch z⟩
def StAt.tk{C:ZT}{H a:Hp}{z:SA}{x:SS}{L:Nat}(h:StAt C H z x L)(f:Fs z H a):TK H a:=λc g e=>f _ _ e λd=>by
 obtain⟨o,b,n⟩:=h.no d;rw[e]at b;cases b;exact n _ rfl
def StAt.nn{C:ZT}{H:Hp}{z:SA}{x:SS}{L:Nat}(h:StAt C H z x L):z.s≠z.p/\z.s≠z.a.da/\z.s≠z.a.dc/\z.s≠z.a.de/\z.s≠z.d1/\z.s≠z.d3/\z.d1≠z.a.da/\z.d1≠z.a.dc/\z.d1≠z.a.de/\z.d3≠z.a.da/\z.d3≠z.a.dc/\z.d3≠z.a.de/\z.d1≠z.d3/\z.p≠z.d1/\z.p≠z.d3:=by
 have:=h.nd;simp only [SA.all,nodup_cons,mem_cons,ZJ,or_false,not_or]at this;obtain⟨⟨a,b,c,d,e,f⟩,⟨_,_,_,g,i⟩,⟨_,_,j,k⟩,⟨_,l,m⟩,⟨n,o⟩,f1,_⟩:=this;exact⟨a,b,c,d,e,f,λz=>j z.symm,λz=>l z.symm,λz=>n z.symm,λz=>k z.symm,λz=>m z.symm,λz=>o z.symm,f1,g,i⟩
def StAt.same{C:ZT}{H a:Hp}{z:SA}{x:SS}{L:Nat}(h:StAt C H z x L)(s:Same H a):StAt C a z x L:=
 ⟨s _ _ h.lst,h.hs.same s,s _ _ h.h1,s _ _ h.h3,h.e3.keep (λ_ _ e=>s _ _ e),h.nd,h.l1,h.l3⟩
def StAt.more{C:ZT}{H:Hp}{z:SA}{x:SS}{L a:Nat}(h:StAt C H z x L)(b:L<=a):StAt C H z x a:=⟨h.lst,HAt.more h.hs b,h.h1,h.h3,h.e3,h.nd,h.l1,h.l3⟩
def StAt.other{C:ZT}{H a:Hp}{z z':SA}{x g:SS}{L i:Nat}(h:StAt C H z x L)(h':StAt C H z' g i)(f:Fs z' H a)(d:∀c∈z.all,c∉z'.all):StAt C a z x L:=by
 have tk:=h'.tk f;have k:∀c∈z.all,∀o,H c=some o->a c=some o:=λc j o e=>f _ _ e (d c j)
 obtain⟨b,l,m⟩:=h.hs.hc;refine⟨k _ (by simp[SA.all]) _ h.lst,⟨k _ (by simp[SA.all]) _ h.hs.hp,k _ (by simp[SA.all]) _ h.hs.ha,⟨b,k _ (by simp[SA.all]) _ l,m⟩,k _ (by simp[SA.all]) _ h.hs.he,h.hs.ents.keep tk,h.hs.nda,h.hs.nde,h.hs.la,h.hs.le,h.hs.ac,h.hs.ae,h.hs.ce⟩,k _ (by simp[SA.all]) _ h.h1,k _ (by simp[SA.all]) _ h.h3,h.e3.keep tk,h.nd,h.l1,h.l3⟩
def StAt.house{C:ZT}{H a:Hp}{z:SA}{x:SS}{L b:Nat}{am':List (Str×Int)}{d:List EN}(h:StAt C H z x L)(f:HAt C a z.p z.a am' (λ_=>false) d b)(k:∀c o,H c=some o->c≠z.a.da->c≠z.a.de->c≠z.a.dc->a c=some o):StAt C a z {x with am:=am',en:=d } b/\Fs z H a:=by
 obtain⟨t,g,i,j,u,v,l,m,p,q,r,s,y,A,B⟩:=h.nn;have fs:Fs z H a:=λc o e n=>k c o e (λz=>n (by rw[z];simp[SA.all])) (λz=>n (by rw[z];simp[SA.all])) (λz=>n (by rw[z];simp[SA.all]))
 exact⟨⟨k _ _ h.lst g j i,f,k _ _ h.h1 l p m,k _ _ h.h3 q s r,h.e3.keep (h.tk fs),h.nd,h.l1,h.l3⟩,fs⟩
def HAt.own{C:ZT}{H:Hp}{p c:ZT}{a:HF}{d:List (Str×Int)}{f:Str->Bool}{en:List EN}{L:Nat}{o g:HO}(h:HAt C H p a d f en L)(j:H c=some o)(l:∀xs,o≠.tup xs)(m:c≠p)(q:c≠a.da)(r:c≠a.dc)(s:c≠a.de):HAt C (aJ H c g) p a d f en L:=by
 have k:∀b u,H b=some u->b≠c->(aJ H c g) b=some u:=λb u e n=>by rw[aD n];exact e
 obtain⟨i,t,v⟩:=h.hc;exact⟨k _ _ h.hp m.symm,k _ _ h.ha q.symm,⟨i,k _ _ t r.symm,v⟩,k _ _ h.he s.symm,h.ents.keep (λb xs e=>k _ _ e (λz=>by rw[z,j]at e;cases e;exact l _ rfl)),h.nda,h.nde,h.la,h.le,h.ac,h.ae,h.ce⟩
def StAt.cnt{C:ZT}{H:Hp}{z:SA}{x:SS}{L:Nat}(h:StAt C H z x L)(k:Nat):StAt C (aJ H z.s (.lst [.ref z.p,.ref z.d1,.int (k:Int),.ref z.d3])) z {x with k:=k } L/\Fs z H (aJ H z.s (.lst [.ref z.p,.ref z.d1,.int (k:Int),.ref z.d3])):=by
 obtain⟨a,b,d,f,g,i,j,l,m,p,r,s,t,u,v⟩:=h.nn;have fs:Fs z H (aJ H z.s (.lst [.ref z.p,.ref z.d1,.int (k:Int),.ref z.d3])):=λc o e n=>by rw[aD (λq=>n (by rw[q];simp[SA.all]))];exact e
 exact⟨⟨aA,h.hs.own h.lst (λ_ z=>nomatch z) a b d f,by rw[aD g.symm];exact h.h1,by rw[aD i.symm];exact h.h3,h.e3.keep (h.tk fs),h.nd,h.l1,h.l3⟩,fs⟩
def StAt.put1{C:ZT}{H:Hp}{z:SA}{x:SS}{L:Nat}(h:StAt C H z x L)(n:Str)(v:Int)(a:x.am1.length<100):StAt C (aJ H z.d1 (.dK (eU (bF x.am1 n v)))) z {x with am1:=bF x.am1 n v } L/\Fs z H (aJ H z.d1 (.dK (eU (bF x.am1 n v)))):=by
 obtain⟨k,l,p,r,b,s,d,f,g,t,u,y,i,j,A⟩:=h.nn;have fs:Fs z H (aJ H z.d1 (.dK (eU (bF x.am1 n v)))):=λc o e m=>by rw[aD (λq=>m (by rw[q];simp[SA.all]))];exact e
 have:=pP x.am1 n v;exact⟨⟨by rw[aD b];exact h.lst,h.hs.own h.h1 (λ_ z=>nomatch z) j.symm d f g,aA,by rw[aD i.symm];exact h.h3,h.e3.keep (h.tk fs),h.nd,eJ this a,h.l3⟩,fs⟩
def StAt.put3{C:ZT}{H:Hp}{z:SA}{x:SS}{L:Nat}{kv':List EN}(h:StAt C H z x L)(a:EAt H kv')(b:kv'.length<=100):StAt C (aJ H z.d3 (.dK (dE kv'))) z {x with kv:=kv' } L/\Fs z H (aJ H z.d3 (.dK (dE kv'))):=by
 obtain⟨l,n,p,r,s,d,t,u,v,f,g,i,j,y,k⟩:=h.nn;have fs:Fs z H (aJ H z.d3 (.dK (dE kv'))):=λc o e m=>by rw[aD (λq=>m (by rw[q];simp[SA.all]))];exact e
 exact⟨⟨by rw[aD d];exact h.lst,h.hs.own h.h3 (λ_ z=>nomatch z) k.symm f g i,by rw[aD j];exact h.h1,aA,a.keep (h.tk fs),h.nd,h.l1,b⟩,fs⟩
def lN(j:Nat):List Nat:=48::(bN j).cps.toList
def Bc{c:Nat}(a:48<=c)(b:c<=57):c∈KLET:=by
 rcases(by omega:c=48∨c=49∨c=50∨c=51∨c=52∨c=53∨c=54∨c=55∨c=56∨c=57) with rfl|rfl|rfl|rfl|rfl|rfl|rfl|rfl|rfl|rfl<;>decide
def Bd{c:Nat}(h:c∈LET):c∈KLET:=by
 have:∀c∈LET,c∈KLET:=by decide
 exact this c h
def Qq{j:Nat}(h:j<=999999):iN (tx (lN j)):=by
 have a:=iU h;have b:(lN j).length=(bN j).cps.toList.length+1:=rfl;refine⟨by rw[aV];omega,by rw[aV];omega,λc hc=>?_⟩;rw[iM]at hc;rcases mem_cons.mp hc with rfl|hc
 ·decide
 ·exact Bc (cU j c hc).1 (cU j c hc).2
def Qr{nm:List Nat}{n i:Nat}(b:nm.length<=5)(a:∀c∈nm,c∈LET)(h:n<=999999)(d:i<2):iN (tx (dL nm n i)):=by
 have e:=iU h;have f:(dL nm n i).length=nm.length+(bN n).cps.toList.length+1:=by simp only [dL,gJ,qH,length_nil]
 refine⟨by rw[aV];omega,by rw[aV];omega,λc hc=>?_⟩;rw[iM]at hc;rcases Zma.mp hc with hc|hc
 ·rcases Zma.mp hc with hc|hc
  ·exact Bd (a c hc)
  ·exact Bc (cU n c hc).1 (cU n c hc).2
 ·rw[Zms.mp hc];rcases(by omega:i=0∨i=1) with rfl|rfl<;>decide
def oN(C:ZT):Sp:=λvs H Q _=>∃(z:SA)(x:SS)(L:Nat)(wd nm:Str)(n:Nat)(b:Int)(c:List V),vs=[.ref z.s,.str wd,.str nm,.int (n:Int)]/\StAt C H z x L/\L<=490/\HD nm (n:Int) wd c b/\bZ nm/\1<=n/\n<=1000000000000/\x.k<=98/\tx (lN (x.k+1))∉x.en.map (·.key)/\iB x.am (λ_=>false) wd nm (n:Int)=true/\x.am1.length<=98 ∧
 ∀a y,StAt C a z {x with am:=bF x.am nm (aX x.am nm+b),en:=x.en++[y],am1:=bF x.am1 nm (aX x.am1 nm+b),k:=x.k+1 } (L+1)->y.key=tx (lN (x.k+1))->Said y->Fs z H a->Q .non a
def Be{C:ZT}(T:Txt K mg)(a4:tQ K C)(v:gK P w K mg base 5 C "ask" Zz (pY C))(D:DefAt K mg "_law_spare" O8 Zi):aI P w K mg base 6 "_law_spare" Zi (oN C):=by
  refine D.gg yl (λa5 cdv a6 outer a7 H vs a8 a9 l a0=>?_)
  . obtain⟨z,x,L,wd,nm,n,b,h,rfl,st,hL,c,y,ku,V6,hk,A,B,E,a1⟩:=a0
    have p:=cQ l;refine⟨_,(kg (qf (lv pi (nw K 0) kt) (qg (jx 0) kt R.gm)) (kg (pz (tu v l (nw K 0) (jw (lv xz lf (ub R.fm rfl T.b_str nU (jw (nw K 0) jy))) (jw (mm (jw (jx 1) (jw (jx 2) (jw (jx 3) jy)))) jy)))) (li (qf (lv pi (IN p (nw K 0) (jx 2) kt) (mv (px (K:=K)) (o0 (jw (jx 3) (jw (R.gv (jx 3)) jy))) (ub R.dq rfl T.b_int iH (jw (re pq (jx 1) lf) jy)))) (qg (nw K 0) (jx 2) (ua p)))))),?_⟩;obtain⟨n1,n2,n3,n4,n5,n6,n7,n8,n9,DJ,DK,AE,xg,FO,FP⟩:=st.nn;refine⟨_,YT st.lst,_,rfl,z.s,_,2,2,rfl,rfl,st.lst,rfl,?_⟩;obtain⟨a,f1⟩:=st.cnt (x.k+1);have F:aJ H z.s (.lst ([V.ref z.p,.ref z.d1,.int (x.k:Int),.ref z.d3].set 2 (.int ((x.k:Int)+1))))=aJ H z.s (.lst [.ref z.p,.ref z.d1,.int ((x.k+1:Nat):Int),.ref z.d3]):=rfl;dsimp only;rw[F];generalize aJ H z.s (.lst [.ref z.p,.ref z.d1,.int ((x.k+1:Nat):Int),.ref z.d3])=H1 at a f1;have QT:(bN (x.k+1)).cps.toList.length<=6:=iU Zo;have G:("0":Str)=tx [48]:=by decide +kernel
    have I:("0":Str)++bN (x.k+1)=tx (lN (x.k+1)):=by rw[G,gE (x.k+1),cF];rfl
    have J:=Qq (j:=x.k+1) Zo;refine aN (λu q=>∃(d e:ZT),u=[some (.ref z.s),some (.str wd),some (.str nm),some (.int (n:Int))]/\StAt C q z {x with am:=bF x.am nm (aX x.am nm+b),en:=x.en++[⟨tx (lN (x.k+1)),e,some (d,h),"yes"⟩],k:=x.k+1 } (L+1)/\Fs z H q) (λnx M=>?_) ?_
    . refine⟨_,YT a.lst,_,rfl,z.a.dx,_,a.hs.hp,cR z.a Zk Zk Zk,_,YT a.lst,_,rfl,⟨Zo,Int.lt_of_le_of_lt (by omega:((x.k+1:Nat):Int)<=999999) Zd⟩,?_,?_⟩
      . show("0":Str).length+(bN (x.k+1)).length<=sizeLine
        have:(bN (x.k+1)).length=(bN (x.k+1)).cps.toList.length:=by simp[Str.length]
        exact cX (by rw[this];have:("0":Str).length=1:=by decide +kernel
                       omega)
      . show dA _ _ _ _ _
        refine⟨aP rfl,λd N r g2=>?_⟩;have O:N d=some (.tup h):=by rw[g2];cases c<;>rfl
        have s:=a.same r;refine⟨z.p,d,z.a,x.am,_,x.en,L,nm,(n:Int),wd,h,b,tx (lN (x.k+1)),?_,s.hs,Zo,O,c,y,Zo,Zo,J,A,λH3 e t Q=>?_⟩
        . rw[<- I];rfl
        . rw[B]at t;obtain⟨S,U⟩:=s.house t (λa2 o W X m2 _=>Q a2 o W X m2)
          exact M _ _ ⟨d,e,rfl,S,((f1.same r).trans U)⟩
    rintro _ Y ⟨d,e,rfl,f,Z⟩;have hb:eP [V.int (n:Int),.int (-(n:Int))] (if decide (wd="take")=true then 1 else 0)=some (.int b):=by cases c<;>rfl
    refine⟨_,YT f.lst,_,rfl,z.d1,rfl,.inl ⟨_,.inl f.h1⟩,_,DGet.k (k:=Sum.inr nm) f.h1,?_⟩;rw[gV];refine⟨dC rfl,λa3 hl=>⟨_,YT aA,_,hb,?_⟩⟩;have i:=aH (o:=.lst [.int (n:Int),.int (-(n:Int))]) hl;have g:=f.same i;generalize aJ Y a3 (.lst [.int (n:Int),.int (-(n:Int))])=H5 at i g;refine⟨_,YT g.lst,_,rfl,z.d1,_,rfl,DPut.k (k:=Sum.inr nm) g.h1 (by unfold eU;rw[bA];exact fQ (m:=1000) (by have:x.am1.length<=98:=E;show x.am1.length<=1000;omega) Zd),?_⟩;rw[gW];obtain⟨vb,f6⟩:=g.put1 nm (aX x.am1 nm+b) (by show x.am1.length<100;omega);exact a1 _ _ vb rfl (.of ⟨nm,_,wd,b,c⟩ (.inl rfl)) ((Z.same i).trans f6)
def mO(y y':EN):Prop:=y.key=y'.key/\y.dd.map (·.2)=y'.dd.map (·.2)/\y.word=y'.word
structure StOk(ws:List Str)(nm:List Nat)(x:SS):Prop where
 sub:∀q∈x.am,q.1∈ws
 eq1:∀n,aX x.am1 n=aX x.am n
 ge:∀n,0<=aX x.am n
 le:∀n,aX x.am n<=1000000000000
 nd1:(x.am1.map (·.1)).Nodup
 sub1:∀q∈x.am1,q.1∈ws
 nd3:(x.kv.map (·.key)).Nodup
 said:∀y∈x.en,Said y
 spk:∀y∈x.en,∀j,x.k<j->y.key≠tx (lN j)
 frn:∀y∈x.en,(∀n i,y.key≠tx (dL nm n i))∨∃y'∈x.kv,mO y y'
 back:∀y'∈x.kv,(∃n i,n<=999999/\i<2/\y'.key=tx (dL nm n i))/\∃y∈x.en,mO y y'
 kin:∀y∈x.en,(∃j,y.key=tx (lN (j+1)))∨∃n i,y.key=tx (dL nm n i)
structure gH(nm:List Nat):Prop where
 pos:1<=nm.length
 five:nm.length<=5
 lets:∀c∈nm,c∈LET
def fA{a b:List Nat}(h:tx a=tx b):a=b:=by rw[<- iM a,<- iM b,h]
def oO{a b:Nat}(h:(bN a).cps.toList=(bN b).cps.toList):a=b:=by rw[<- pJ a,<- pJ b,h]
def Mq{a b:Nat}(h:tx (lN a)=tx (lN b)):a=b:=by
 have:=fA h;injection this with _ c
 exact oO c
def rX{nm:List Nat}(a:gH nm)(j n i:Nat):tx (lN j)≠tx (dL nm n i):=λh=>by
 have:=fA h
 match nm,a with
 | [],a=>exact ZO a.pos Zs
 | c::nm,a=>
  injection this with b _
  have:=a.lets c dI;rw[<- b]at this;exact ZO this Zd
def Bf{a:List (Str×Int)}{n:Str}{v:Int}{q:Str×Int}(h:q∈bF a n v):q.1∈a.map (·.1)∨q.1=n:=by
 have:∀l:List (Str×Int),q∈kL l n v->q.1∈l.map (·.1):=λl=>by
  intro h;have:=mem_map_of_mem (f:=(·.1)) h
  rwa [mK]at this
 unfold bF at h;split at h
 ·exact .inl (this a h)
 ·rcases Zma.mp h with h|h
  ·exact .inl (mem_map_of_mem h)
  ·rw[Zms.mp h];exact .inr rfl
def dF{ws:List Str}{a:List (Str×Int)}{n:Str}{v:Int}(b:∀q∈a,q.1∈ws)(c:n∈ws):∀q∈bF a n v,q.1∈ws:=λq d=>by
 rcases Bf d with h|h
 ·obtain⟨f,g,e⟩:=Zmm.mp h;rw[<- e];exact b f g
 ·rw[h];exact c
def Qs{xs:List Str}:∀ {ys:List Str},xs.Nodup->(∀x∈xs,x∈ys)->xs.length<=ys.length:=by
 induction xs with
 | nil=>exact λ_ _=>zero_le _
 | cons x r c=>
  intro ys d h;obtain⟨f,g⟩:=nodup_cons.mp d;have a:=h x dI;have:=c (ys:=ys.erase x) g λy b=>(List.mem_erase_of_ne (λe=>f (by rw[<- e];exact b))).mpr (h y (jE _ b))
  rw[List.length_erase_of_mem a]at this;have i:0<ys.length:=List.length_pos_of_mem a;rw[qH];omega
def jR{ws:List Str}{a:List (Str×Int)}(b:(a.map (·.1)).Nodup)(c:∀q∈a,q.1∈ws)(f:ws.length<=6):a.length<=6:=by
 have:=Qs (xs:=a.map (·.1)) (ys:=ws) b (λz d=>by obtain⟨q,e,rfl⟩:=Zmm.mp d;exact c q e);rw[bA]at this;omega
def StOk.pay{ws:List Str}{nm:List Nat}{x:SS}(h:StOk ws nm x)(o:gH nm){wd z:Str}{n:Nat}{b:Int}{xs:List V}{y:EN}(p:HD z (n:Int) wd xs b)(hz:z∈ws)(c:iB x.am (λ_=>false) wd z (n:Int)=true)(d:y.key=tx (lN (x.k+1)))(r:Said y) :
  StOk ws nm {x with am:=bF x.am z (aX x.am z+b),en:=x.en++[y],am1:=bF x.am1 z (aX x.am1 z+b),k:=x.k+1 }:=by
 have f:0<=aX x.am z+b/\aX x.am z+b<=1000000000000:=by
  have g:=h.ge z;have i:=h.le z
  cases p with
  | add=>
   have c:(!false&&decide (aX x.am z+(n:Int)<=1000000000000))=true:=c;have:=ZY (by simpa using c:decide (aX x.am z+(n:Int)<=1000000000000)=true);omega
  | take=>
   have c:decide ((n:Int)<=aX x.am z)=true:=c;have:=ZY c;omega
 refine⟨dF h.sub hz,λm=>?_,λm=>?_,λm=>?_,nY h.nd1,dF h.sub1 hz,h.nd3,λq a=>?_,λq a j l=>?_,λq a=>?_,λq a=>?_,λq a=>?_⟩
 ·show aX (bF x.am1 z _) m=aX (bF x.am z _) m;rw[bM,bM,h.eq1,h.eq1]
 ·show 0<=aX (bF x.am z _) m;rw[bM];split
  ·exact f.1
  ·exact h.ge m
 ·show aX (bF x.am z _) m<=_;rw[bM];split
  ·exact f.2
  ·exact h.le m
 ·rcases aF a with a|rfl
  ·exact h.said q a
  ·exact r
 ·have l:x.k+1<j:=l;rcases aF a with a|rfl
  ·exact h.spk q a j Zo
  ·rw[d];exact λe=>by have:=Mq e;omega
 ·rcases aF a with a|rfl
  ·exact h.frn q a
  ·exact .inl λu v=>by rw[d];exact rX o _ _ _
 ·obtain⟨g,s,t,i⟩:=h.back q a;exact⟨g,s,ZM _ t,i⟩
 ·rcases aF a with a|rfl
  ·exact h.kin q a
  ·exact .inl ⟨x.k,d⟩
def uC{a:List (Str×Int)}{z:Str}{n:Int}(h:aX a z+n<=1000000000000):iB a (λ_=>false) "add" z n=true:=by
 show(!false&&decide (aX a z+n<=1000000000000))=true;rw[ZW h];rfl
def kX{a:List (Str×Int)}{z:Str}{n:Int}(h:n<=aX a z):iB a (λ_=>false) "take" z n=true:=ZW h
def qD{a:List (Str×Int)}{z:Str}(h:aX a z≠0):aQ (eU a) (Sum.inr z)=some (.int (aX a z)):=by
 have:=gV a z
 cases e:aQ (eU a) (Sum.inr z) with
 | none=>rw[e]at this;injection this with this;exact ZO this.symm h
 | some v=>rw[e]at this;rw[<- this];rfl
structure rY(C:ZT)(ws:List Str)(nm:List Nat)(z:SA)(x:SS)(L:Nat)(H H':Hp)(x':SS):Prop where
 at_:StAt C H' z x' (L+1)
 ok:StOk ws nm x'
 kv:x'.kv=x.kv
 k:x'.k<=x.k+1
 len:x'.en.length<=x.en.length+1
 keys:∀ky:Str,ky∉x.en.map (·.key)->(∀j,ky≠tx (lN j))->ky∉x'.en.map (·.key)
 fs:Fs z H H'
def mP(C:ZT)(ws:List Str)(nm:List Nat):Sp:=λvs H Q _=>∃(z:SA)(x:SS)(L:Nat)(wd a:Str)(n:Nat)(b:Int)(e:List V)(t:ZT)(d:Bool),vs=[.ref z.s,.ref t,.bl d]/\StAt C H z x L/\L<=480/\StOk ws nm x/\gH nm/\ws.length<=6/\H t=some (.tup e)/\HD a (n:Int) wd e b/\a∈ws/\bZ a/\1<=n/\n<=1000000000000/\x.k<=90 ∧
 ∀f c,rY C ws nm z x L H f c->(wd="take"->if d=true then (n:Int)<=aX c.am a else aX c.am a<(n:Int))->(wd="add"->d=true->aX c.am a+(n:Int)<=1000000000000)->Q .non f
def rZ{C:ZT}{ws:List Str}{nm:List Nat}(T:Txt K mg)(U:aI P w K mg base 6 "_law_spare" Zi (oN C))(D:DefAt K mg "_law_brought" G4 Zh):aI P w K mg base 7 "_law_brought" Zh (mP C ws nm):=by
 refine D.gg W (λa1 cdv a2 outer a3 H vs a4 a5 O h=>?_)
 ·obtain⟨z,x,L,wd,a,n,a6,xs,t,yes,rfl,st,hL,ok,B8,rl,gt,hD,kl,G8,ku,V6,hk,q⟩:=h;have y:=cQ O;refine⟨_,(kg (qf (jx 1) (wn (K:=K) (n:=3) rfl (pv (mq (i:=3) W.nd) (pv (mq (i:=4) W.nd) (pv (mq (i:=5) W.nd) wp))))) (kg (R.fh PassesOwn.never (wx (zn (ml pq (jx 3) lf) (zn (v0 (jx 2)) (R.df (ml R.lt (IN y (nw K 0) (jx 4) kt) (jx 5)))))) (li (pz (mh U O rfl (jw (jx 0) (jw lf (jw (jx 4) (jw (qd (R.eh rfl) rfl T.b_min rF (jw (lv wy kt kt) (jw (lv FS (jx 5) (IN y (nw K 0) (jx 4) kt)) jy))) jy)))))))) (kg (R.fh PassesOwn.never (wx (zn (ml pq (jx 3) lf) (zn (FM (v0 (jx 2))) (R.df (ml R.ge (IN y (nw K 0) (jx 4) kt) (jx 5)))))) (li (pz (mh U O rfl (jw (jx 0) (jw lf (jw (jx 4) (jw (qd (R.eh rfl) rfl T.b_min rF (jw (lv wy kt kt) (jw (lv pi (lv FS (u8 y (nw K 0) (jx 4)) (jx 5)) kt) jy))) jy)))))))) (li (R.fh PassesOwn.never (wx (zn (ml pq (jx 3) lf) (zn (v0 (jx 2)) (R.df (ml R.gt (lv pi (IN y (nw K 0) (jx 4) kt) (jx 5)) (lv wy kt kt)))))) (li (pz (mh U O rfl (jw (jx 0) (jw lf (jw (jx 4) (jw (qd (R.eh rfl) rfl T.b_min rF (jw (lv wy kt kt) (jw (u8 y (nw K 0) (jx 4)) jy))) jy)))))))))))),?_⟩;have E:(10:Int)^(12:Int).toNat=1000000000000:=by decide
  have zr:x.am1.length<=6:=jR ok.nd1 ok.sub1 rl;have Vl:tx (lN (x.k+1))∉x.en.map (·.key):=λhm=>by
   obtain⟨a0,hy,e⟩:=Zmm.mp hm;exact ok.spk a0 hy (x.k+1) Zo e
  have hx:xs=[.str wd,.str a,.int (n:Int)]:=by cases hD<;>rfl
  subst hx;refine⟨t,_,rfl,YU gt,rfl,_,_,rfl,_,_,rfl,_,_,rfl,rfl,?_⟩;dsimp only [aK];have Q:rY C ws nm z x L H H x:=⟨st.more Zo,ok,rfl,Zo,Zo,λ_ h _=>h,Fs.refl⟩;have X:∀(F:Str)(m:Nat)(S:Int)(Y:List V)(Z:V->Hp->Prop),HD a (m:Int) F Y S->1<=m->m<=1000000000000->iB x.am (λ_=>false) F a (m:Int)=true->(∀v b c,rY C ws nm z x L H b c->aX c.am a=aX x.am a+S->Z v b)->oN C [.ref z.s,.str F,.str a,.int (m:Int)] H Z E0:=λF m S Y Z DL m1 m2 hc hq=>
   ⟨z,x,L,F,a,m,S,Y,rfl,st,Zo,DL,G8,m1,m2,Zo,Vl,hc,Zo,λb a0 ko ky sy JE=>hq _ b _ ⟨ko,ok.pay B8 DL kl hc ky sy,rfl,bH _,Zs,λk h1 h2 h3=>by
    obtain⟨q',W2,e⟩:=Zmm.mp h3;rcases aF W2 with W2|rfl
    ·exact h1 (Zmm.mpr ⟨q',W2,e⟩)
    ·exact h2 (x.k+1) (by rw[<- e,ky]),JE⟩ (by show aX (bF x.am a _) a=_;rw[bM,ZQ rfl])⟩
  have ge:=ok.ge a;have le:=ok.le a;have A:∀ {b:Hp}{c:SS}{L':Nat},StAt C b z c L'->StOk ws nm c->∃o,DGet b z.d1 (.str a) o/\o.getD (.int 0)=.int (aX c.am a):=λh h'=>⟨_,DGet.k (k:=Sum.inr a) h.h1,by rw[gV,h'.eq1]⟩
  cases hD with
  | take=>
   cases yes with
   | true=>
    refine aN (λd b=>d=[some (.ref z.s),some (.ref t),some (.bl true),some (.str "take"),some (.str a),some (.int (n:Int))]/\∃c,rY C ws nm z x L H b c/\(n:Int)<=aX c.am a) (λu g=>?_) ?_
    ·refine⟨λk d b=>d=[some (.ref z.s),some (.ref t),some (.bl true),some (.str "take"),some (.str a),some (.int (n:Int))]/\((k=1/\b=H)∨(k=0/\∃c,rY C ws nm z x L H b c/\(n:Int)<=aX c.am a)),⟨1,rfl,.inl ⟨rfl,rfl⟩⟩,?_⟩;rintro k d b ⟨rfl,⟨rfl,rfl⟩|⟨rfl,c,f,p⟩⟩
     ·obtain⟨o,g1,g2⟩:=A st ok;refine⟨_,YT st.lst,_,rfl,z.d1,rfl,.inl ⟨_,.inl st.h1⟩,o,g1,?_⟩;rw[g2];show if decide (aX x.am a<(n:Int))=true then _ else _
      refine cG (λh=>?_) (λh=>g _ _ ⟨rfl,x,Q,by have:=ZX h;omega⟩);have G0:=ZY h;refine⟨λr j=>r=[some (.ref z.s),some (.ref t),some (.bl true),some (.str "take"),some (.str a),some (.int (n:Int))]/\∃c,rY C ws nm z x L b j c/\(n:Int)<=aX c.am a,λr j ⟨I,J⟩=>⟨0,Zo,I,.inr ⟨rfl,J⟩⟩,?_⟩;refine⟨⟨Zd,Zd,Zd⟩,_,YT st.lst,_,rfl,z.d1,rfl,.inl ⟨_,.inl st.h1⟩,o,g1,?_⟩;rw[g2];dsimp only;rw[E];obtain⟨m,em⟩:∃m:Nat,(m:Int)=(n:Int)-aX x.am a:=⟨((n:Int)-aX x.am a).toNat,Zo⟩;have M:(if (n:Int)-aX x.am a<1000000000000 then (n:Int)-aX x.am a else 1000000000000)=(m:Int):=by split<;>omega
      have s:=X "add" m _ _ (λ_ j=>([some (.ref z.s),some (.ref t),some (.bl true),some (.str "take"),some (.str a),some (.int (n:Int))]:St)=[some (.ref z.s),some (.ref t),some (.bl true),some (.str "take"),some (.str a),some (.int (n:Int))]/\∃c,rY C ws nm z x L b j c/\(n:Int)<=aX c.am a) .add Zo Zo (uC Zo) λv j c f N=>⟨rfl,c,f,by rw[N];omega⟩
      rw[<- M]at s;exact s
     ·obtain⟨o,g1,g2⟩:=A f.at_ f.ok;refine⟨_,YT f.at_.lst,_,rfl,z.d1,rfl,.inl ⟨_,.inl f.at_.h1⟩,o,g1,?_⟩;rw[g2];show if decide (aX c.am a<(n:Int))=true then _ else _
      rw[ZV Zo,ZP ZZ];exact g _ _ ⟨rfl,c,f,p⟩
    rintro _ B ⟨rfl,c,f,p⟩;refine aN (λd b=>d=[some (.ref z.s),some (.ref t),some (.bl true),some (.str "take"),some (.str a),some (.int (n:Int))]/\b=B) (λu g=>⟨λk d b=>d=[some (.ref z.s),some (.ref t),some (.bl true),some (.str "take"),some (.str a),some (.int (n:Int))]/\b=B,⟨0,rfl,rfl⟩,λk d b h=>by obtain⟨rfl,rfl⟩:=h;exact g _ _ ⟨rfl,rfl⟩⟩) ?_;rintro _ G ⟨rfl,l⟩;obtain rfl:B=G:=l.symm;refine⟨λk d b=>d=[some (.ref z.s),some (.ref t),some (.bl true),some (.str "take"),some (.str a),some (.int (n:Int))]/\b=B,⟨0,rfl,rfl⟩,λk d b h=>?_⟩;obtain⟨rfl,rfl⟩:=h;exact q b c f (λ_=>p) (λh=>ZO h Zk)
   | false=>
    refine aN (λd b=>d=[some (.ref z.s),some (.ref t),some (.bl false),some (.str "take"),some (.str a),some (.int (n:Int))]/\b=H) (λu g=>⟨λk d b=>d=[some (.ref z.s),some (.ref t),some (.bl false),some (.str "take"),some (.str a),some (.int (n:Int))]/\b=H,⟨0,rfl,rfl⟩,λk d b h=>by obtain⟨rfl,rfl⟩:=h;exact g _ _ ⟨rfl,rfl⟩⟩) ?_;rintro _ G ⟨rfl,l⟩;obtain rfl:H=G:=l.symm;refine aN (λd b=>d=[some (.ref z.s),some (.ref t),some (.bl false),some (.str "take"),some (.str a),some (.int (n:Int))]/\∃c,rY C ws nm z x L H b c/\aX c.am a<(n:Int)) (λu g=>?_) ?_
    ·refine⟨λk d b=>d=[some (.ref z.s),some (.ref t),some (.bl false),some (.str "take"),some (.str a),some (.int (n:Int))]/\((k=1/\b=H)∨(k=0/\∃c,rY C ws nm z x L H b c/\aX c.am a<(n:Int))),⟨1,rfl,.inl ⟨rfl,rfl⟩⟩,?_⟩;rintro k d b ⟨rfl,⟨rfl,rfl⟩|⟨rfl,c,f,p⟩⟩
     ·obtain⟨o,g1,g2⟩:=A st ok;refine⟨_,YT st.lst,_,rfl,z.d1,rfl,.inl ⟨_,.inl st.h1⟩,o,g1,?_⟩;rw[g2];show if decide ((n:Int)<=aX x.am a)=true then _ else _
      refine cG (λh=>?_) (λh=>g _ _ ⟨rfl,x,Q,by have:=ZX h;omega⟩);have G0:=ZY h;refine⟨λr j=>r=[some (.ref z.s),some (.ref t),some (.bl false),some (.str "take"),some (.str a),some (.int (n:Int))]/\∃c,rY C ws nm z x L b j c/\aX c.am a<(n:Int),λr j ⟨I,J⟩=>⟨0,Zo,I,.inr ⟨rfl,J⟩⟩,?_⟩;have zt:DGet b z.d1 (.str a) (some (.int (aX x.am a))):=by
       have:=DGet.k (k:=Sum.inr a) st.h1;rw[qD (by rw[ok.eq1];omega),ok.eq1]at this;exact this
      refine⟨⟨Zd,Zd,Zd⟩,_,YT st.lst,_,rfl,z.d1,_,rfl,zt,?_⟩;dsimp only;rw[E];obtain⟨m,em⟩:∃m:Nat,(m:Int)=aX x.am a-(n:Int)+1:=⟨(aX x.am a-(n:Int)+1).toNat,Zo⟩;have M:(if aX x.am a-(n:Int)+1<1000000000000 then aX x.am a-(n:Int)+1 else 1000000000000)=(m:Int):=by split<;>omega
      have s:=X "take" m _ _ (λ_ j=>([some (.ref z.s),some (.ref t),some (.bl false),some (.str "take"),some (.str a),some (.int (n:Int))]:St)=[some (.ref z.s),some (.ref t),some (.bl false),some (.str "take"),some (.str a),some (.int (n:Int))]/\∃c,rY C ws nm z x L b j c/\aX c.am a<(n:Int)) .take Zo Zo (kX Zo) λv j c f N=>⟨rfl,c,f,by rw[N];omega⟩
      rw[<- M]at s;exact s
     ·obtain⟨o,g1,g2⟩:=A f.at_ f.ok;refine⟨_,YT f.at_.lst,_,rfl,z.d1,rfl,.inl ⟨_,.inl f.at_.h1⟩,o,g1,?_⟩;rw[g2];show if decide ((n:Int)<=aX c.am a)=true then _ else _
      rw[ZV Zo,ZP ZZ];exact g _ _ ⟨rfl,c,f,p⟩
    rintro _ B ⟨rfl,c,f,p⟩;refine⟨λk d b=>d=[some (.ref z.s),some (.ref t),some (.bl false),some (.str "take"),some (.str a),some (.int (n:Int))]/\b=B,⟨0,rfl,rfl⟩,λk d b h=>?_⟩;obtain⟨rfl,rfl⟩:=h;exact q b c f (λ_=>p) (λh=>ZO h Zk)
  | add=>
   cases yes with
   | true=>
    refine aN (λd b=>d=[some (.ref z.s),some (.ref t),some (.bl true),some (.str "add"),some (.str a),some (.int (n:Int))]/\b=H) (λu g=>⟨λk d b=>d=[some (.ref z.s),some (.ref t),some (.bl true),some (.str "add"),some (.str a),some (.int (n:Int))]/\b=H,⟨0,rfl,rfl⟩,λk d b h=>by obtain⟨rfl,rfl⟩:=h;exact g _ _ ⟨rfl,rfl⟩⟩) ?_;rintro _ G ⟨rfl,l⟩;obtain rfl:H=G:=l.symm;refine aN (λd b=>d=[some (.ref z.s),some (.ref t),some (.bl true),some (.str "add"),some (.str a),some (.int (n:Int))]/\b=H) (λu g=>⟨λk d b=>d=[some (.ref z.s),some (.ref t),some (.bl true),some (.str "add"),some (.str a),some (.int (n:Int))]/\b=H,⟨0,rfl,rfl⟩,λk d b h=>by obtain⟨rfl,rfl⟩:=h;exact g _ _ ⟨rfl,rfl⟩⟩) ?_;rintro _ G ⟨rfl,l⟩;obtain rfl:H=G:=l.symm;refine⟨λk d b=>d=[some (.ref z.s),some (.ref t),some (.bl true),some (.str "add"),some (.str a),some (.int (n:Int))]/\((k=1/\b=H)∨(k=0/\∃c,rY C ws nm z x L H b c/\aX c.am a+(n:Int)<=1000000000000)),⟨1,rfl,.inl ⟨rfl,rfl⟩⟩,?_⟩;rintro k d b ⟨rfl,⟨rfl,rfl⟩|⟨rfl,c,f,p⟩⟩
    ·obtain⟨o,g1,g2⟩:=A st ok;refine⟨_,YT st.lst,_,rfl,z.d1,rfl,.inl ⟨_,.inl st.h1⟩,o,g1,?_⟩;rw[g2];refine⟨⟨Zd,Zd,Zd⟩,?_⟩;dsimp only;rw[E];show if decide (1000000000000<aX x.am a+(n:Int))=true then _ else _
     refine cG (λh=>?_) (λh=>q b x Q (λh=>ZO h Zk) (λ_ _=>by have:=ZX h;omega));have G0:=ZY h;refine⟨λr j=>r=[some (.ref z.s),some (.ref t),some (.bl true),some (.str "add"),some (.str a),some (.int (n:Int))]/\∃c,rY C ws nm z x L b j c/\aX c.am a+(n:Int)<=1000000000000,λr j ⟨I,J⟩=>⟨0,Zo,I,.inr ⟨rfl,J⟩⟩,?_⟩;have zt:DGet b z.d1 (.str a) (some (.int (aX x.am a))):=by
      have:=DGet.k (k:=Sum.inr a) st.h1;rw[qD (by rw[ok.eq1];omega),ok.eq1]at this;exact this
     refine⟨⟨Zd,Zd,Zd⟩,_,YT st.lst,_,rfl,z.d1,_,rfl,zt,?_⟩;dsimp only;rw[E];obtain⟨m,em⟩:∃m:Nat,(m:Int)=aX x.am a:=⟨(aX x.am a).toNat,Zo⟩;have M:(if aX x.am a<1000000000000 then aX x.am a else 1000000000000)=(m:Int):=by split<;>omega
     have s:=X "take" m _ _ (λ_ j=>([some (.ref z.s),some (.ref t),some (.bl true),some (.str "add"),some (.str a),some (.int (n:Int))]:St)=[some (.ref z.s),some (.ref t),some (.bl true),some (.str "add"),some (.str a),some (.int (n:Int))]/\∃c,rY C ws nm z x L b j c/\aX c.am a+(n:Int)<=1000000000000) .take Zo Zo (kX Zo) λv j c f N=>⟨rfl,c,f,by rw[N];omega⟩
     rw[<- M]at s;exact s
    ·obtain⟨o,g1,g2⟩:=A f.at_ f.ok;refine⟨_,YT f.at_.lst,_,rfl,z.d1,rfl,.inl ⟨_,.inl f.at_.h1⟩,o,g1,?_⟩;rw[g2];refine⟨⟨Zd,Zd,Zd⟩,?_⟩;dsimp only;rw[E];show if decide (1000000000000<aX c.am a+(n:Int))=true then _ else _
     rw[ZV Zo,ZP ZZ];exact q b c f (λh=>ZO h Zk) (λ_ _=>p)
   | false=>
    refine aN (λd b=>d=[some (.ref z.s),some (.ref t),some (.bl false),some (.str "add"),some (.str a),some (.int (n:Int))]/\b=H) (λu g=>⟨λk d b=>d=[some (.ref z.s),some (.ref t),some (.bl false),some (.str "add"),some (.str a),some (.int (n:Int))]/\b=H,⟨0,rfl,rfl⟩,λk d b h=>by obtain⟨rfl,rfl⟩:=h;exact g _ _ ⟨rfl,rfl⟩⟩) ?_;rintro _ G ⟨rfl,l⟩;obtain rfl:H=G:=l.symm;refine aN (λd b=>d=[some (.ref z.s),some (.ref t),some (.bl false),some (.str "add"),some (.str a),some (.int (n:Int))]/\b=H) (λu g=>⟨λk d b=>d=[some (.ref z.s),some (.ref t),some (.bl false),some (.str "add"),some (.str a),some (.int (n:Int))]/\b=H,⟨0,rfl,rfl⟩,λk d b h=>by obtain⟨rfl,rfl⟩:=h;exact g _ _ ⟨rfl,rfl⟩⟩) ?_;rintro _ G ⟨rfl,l⟩;obtain rfl:H=G:=l.symm;refine⟨λk d b=>d=[some (.ref z.s),some (.ref t),some (.bl false),some (.str "add"),some (.str a),some (.int (n:Int))]/\b=H,⟨0,rfl,rfl⟩,λk d b h=>?_⟩;obtain⟨rfl,rfl⟩:=h;exact q b x Q (λh=>ZO h Zk) (λ_ h=>ZO h ZZ)
def oP:List Str:=["none","yes","no","undone","ahead"]
def kY(b kv':List EN)(ky:Str)(xs:List V)(a:Str):Prop:=
 if a="none" then kv'=b else ∃y,kv'=b++[y]/\y.key=ky/\y.dd.map (·.2)=(if a="ahead" then none else some xs)/\y.word=(if a="ahead" then ("undone":Str) else a)
structure DoneIs(C:ZT)(ws:List Str)(nm:List Nat)(z:SA)(x:SS)(L:Nat)(H H':Hp)(x':SS)(ky:Str)(xs:List V)(word:Str):Prop where
 at_:StAt C H' z x' (L+6)
 ok:StOk ws nm x'
 k:x'.k<=x.k+1
 len:x'.en.length<=x.en.length+2
 keys:∀q:Str,q≠ky->q∉x.en.map (·.key)->(∀j,q≠tx (lN j))->q∉x'.en.map (·.key)
 kv:kY x.kv x'.kv ky xs word
 fs:Fs z H H'
def DoneIs.same{C:ZT}{ws:List Str}{nm:List Nat}{z:SA}{x b:SS}{L:Nat}{H c d:Hp}{ky:Str}{xs:List V}{a:Str}(h:DoneIs C ws nm z x L H c b ky xs a)(s:Same c d):DoneIs C ws nm z x L H d b ky xs a:=⟨h.at_.same s,h.ok,h.k,h.len,h.keys,h.kv,h.fs.same s⟩
def qE(C:ZT)(ws:List Str)(nm:List Nat):Sp:=λvs H Q _=>∃(z:SA)(x:SS)(L:Nat)(wd c:Str)(n:Nat)(b:Int)(d:List V)(t:ZT)(a:Str)(m i:Nat),vs=[.ref z.s,.str (tx (dL nm m i)),.ref t,.str a]/\m<=999999/\i<2/\StAt C H z x L/\L<=470/\StOk ws nm x/\gH nm/\ws.length<=6/\H t=some (.tup d)/\HD c (n:Int) wd d b/\c∈ws/\bZ c/\1<=n/\n<=1000000000000/\x.k<=90/\x.kv.length<=90/\tx (dL nm m i)∉x.en.map (·.key)/\a∈oP ∧
 ∀e f,DoneIs C ws nm z x L H e f (tx (dL nm m i)) d a->Q .non e
def Bg{ws:List Str}{nm:List Nat}{x:SS}(ok:StOk ws nm x){ky:Str}(h:ky∉x.en.map (·.key)):ky∉x.kv.map (·.key):=λa=>by
 obtain⟨b,c,e⟩:=Zmm.mp a;obtain⟨_,y,d,f,_⟩:=ok.back b c;exact h (Zmm.mpr ⟨y,d,by rw[f,e]⟩)
def StOk.add{ws:List Str}{nm:List Nat}{x:SS}(h:StOk ws nm x)(l:gH nm){m i:Nat}(o:m<=999999)(p:i<2){y y':EN}{am' am1':List (Str×Int)}(b:y.key=tx (dL nm m i))(r:Said y)(c:mO y y')(s:tx (dL nm m i)∉x.en.map (·.key))(t:∀q∈am',q.1∈ws)(u:∀q∈am1',q.1∈ws)(v:∀n,aX am1' n=aX am' n)(g1:∀n,0<=aX am' n/\aX am' n<=1000000000000)(z:(am1'.map (·.1)).Nodup) :
  StOk ws nm {x with am:=am',en:=x.en++[y],am1:=am1',kv:=x.kv++[y'] }:=by
 refine⟨t,v,λn=>(g1 n).1,λn=>(g1 n).2,z,u,?_,λq a=>?_,λq a j A=>?_,λq a=>?_,λq a=>?_,λq a=>?_⟩
 ·show((x.kv++[y']).map (·.key)).Nodup;rw[eF];refine gP h.nd3 (λB=>Bg h s ?_);rw[<- b,c.1];exact B
 ·rcases aF a with a|rfl
  ·exact h.said q a
  ·exact r
 ·rcases aF a with a|rfl
  ·exact h.spk q a j A
  ·rw[b];exact λe=>rX l j m i e.symm
 ·rcases aF a with a|rfl
  ·rcases h.frn q a with d|⟨f,g,k⟩
   ·exact .inl d
   ·exact .inr ⟨f,ZM _ g,k⟩
  ·exact .inr ⟨y',ZL _ dI,c⟩
 ·rcases aF a with a|rfl
  ·obtain⟨d,f,g,k⟩:=h.back q a;exact⟨d,f,ZM _ g,k⟩
  ·exact⟨⟨m,i,o,p,by rw[<- c.1,b]⟩,y,ZL _ dI,c⟩
 ·rcases aF a with a|rfl
  ·exact h.kin q a
  ·exact .inr ⟨m,i,b⟩
def mQ{en:List EN}{y:EN}{q:Str}(h:q∉en.map (·.key))(a:q≠y.key):q∉(en++[y]).map (·.key):=λhm=>by
 rw[eF]at hm;rcases Zma.mp hm with hm|hm
 ·exact h hm
 ·exact a (Zms.mp hm)
def mU{en:List EN}{ky:Str}{y y':EN}(h:ky∉en.map (·.key))(a:y.key=ky):gC (en++[y]) ky y'=en++[y']:=by
 unfold gC;rw[eF,map_cons,map_nil,ZQ a];congr 1
 conv=>rhs;rw[<- List.map_id en]
 exact map_congr_left λq b=>ZP λe=>h (by rw[<- e];exact mem_map_of_mem b)
def sA{C:ZT}{ws:List Str}{nm:List Nat}(T:Txt K mg)(a5:tQ K C)(i9:gK P w K mg base 5 C "ask" Zz (pY C))(K8:gK P w K mg base 4 C "undo" ["self","key"] (Aq C))(i7:gK P w K mg base 1 C "close" ZE (fN C true))(S3:gK P w K mg base 1 C "reopen" ZE (fN C false))(rn:aI P w K mg base 7 "_law_brought" Zh (mP C ws nm))(D:DefAt K mg "_law_done_at" G5 Zg):aI P w K mg base 8 "_law_done_at" Zg (qE C ws nm):=by
 refine D.gg C6 (λf cdv a6 outer a7 a0 vs a8 a9 hr h=>?_)
 ·obtain⟨z,x,L,wd,j,n,b,l,t,r,m,i,rfl,hm,hi,st,hL,ok,U,rl,gt,W,kl,G8,ku,V6,hk,FQ,J9,vd,a1⟩:=h;have j0:=cQ hr;refine⟨_,(kg (mi (i:=4) C6.nd (nw K 0)) (kg (mo (ml pq (jx 3) lf) (kg (pz (tu K8 hr (jx 4) (jw (jx 1) jy))) (li (qf (mm (jw tj (jw lf jy))) (qg (nw K 0) (jx 1) (ua j0))))) ms) (kg (mo (ml (R.db (K:=K)) (jx 3) (mm (jw lf (jw lf jy)))) (li R.jt) ms) (kg (mi (i:=5) C6.nd (re R.ne (jx 3) lf)) (kg (pz (mh rn hr rfl (jw (jx 0) (jw (jx 2) (jw (jx 5) jy))))) (kg (mo (wx (zn (ml pq (mj K 2) lf) (R.df (FM (v0 (jx 5)))))) (li (pz (tu i7 hr (jx 4) (jw (mj K 2) jy)))) ms) (kg (pz (tu i9 hr (jx 4) (jw (jx 1) (jw (jx 2) jy)))) (kg (pz (tu S3 hr (jx 4) (jw (mj K 2) jy))) (kg (qf (mm (jw (jx 2) (jw (mv (px (K:=K)) (o0 (jw lf (jw lf jy))) (ub R.dq rfl T.b_int iH (jw (jx 5) jy))) jy))) (qg (nw K 0) (jx 1) (ua j0))) (kg (mo (ml pq (jx 3) lf) (kg (pz (tu K8 hr (jx 4) (jw (jx 1) jy))) (li (qf (mm (jw (jx 2) (jw lf jy))) (qg (nw K 0) (jx 1) (ua j0))))) ms) (li (mo (ml pq (jx 3) lf) (li (qf (lv pi (IN j0 (nw K 0) (mj K 2) kt) (mv (px (K:=K)) (o0 (jw (mj K 2) (jw (R.gv (mj K 2)) jy))) (ub R.dq rfl T.b_int iH (jw (re pq (mj K 2) lf) jy)))) (qg (nw K 0) (mj K 2) (ua j0)))) ms)))))))))))),?_⟩;have qt:=Qr U.five U.lets hm hi;generalize xk:tx (dL nm m i)=ky at J9 a1 qt;refine⟨_,YT st.lst,_,rfl,?_⟩;dsimp only [aK];have FR:=Bg ok J9;have vd:r="none"∨r="yes"∨r="no"∨r="undone"∨r="ahead":=by simpa [oP]using vd
  by_cases ha:r="ahead"
  ·subst ha;refine aN (λu q=>∃o5,u=[some (.ref z.s),some (.str ky),some (.ref t),some (.str "ahead"),some (.ref z.p),o5]/\∃F,DoneIs C ws nm z x L a0 q F ky l "ahead") (λM s=>?_) ?_
   ·refine⟨z.a.dx,_,st.hs.hp,cR z.a Zk Zk Zk,z.p,z.a,x.am,_,x.en,L,ky,rfl,st.hs,Zo,qt,ok.said,λ_ H e CS k2=>?_,λy g e1=>ZO (Zmm.mpr ⟨y,g,e1⟩) J9,λy g e1=>ZO (Zmm.mpr ⟨y,g,e1⟩) J9⟩;obtain⟨E,f2⟩:=st.house CS (λc o e X m2 _=>k2 c o e X m2);refine⟨aP rfl,λt3 H3 s3 g3=>?_⟩;have ud:=E.same s3;refine⟨_,YT ud.lst,_,rfl,z.d3,_,rfl,DPut.k (k:=Sum.inr ky) ud.h3 (by unfold dE;rw[bA];exact fQ (m:=1000) (by show x.kv.length<=1000;omega) Zd),?_⟩;have ep:bG (dE x.kv) (Sum.inr ky) (.ref t3)=dE (x.kv++[⟨ky,t3,none,"undone"⟩]):=hJ (z:=⟨ky,t3,none,"undone"⟩) FR;obtain⟨ym,f4⟩:=ud.put3 (kv':=x.kv++[⟨ky,t3,none,"undone"⟩]) (λy g=>by
     rcases aF g with g|rfl
     ·exact ud.e3 y g
     ·exact⟨g3,λ_ _ e=>nomatch e⟩) (by rw[gJ];simp;omega)
    rw[<- ep]at ym f4;have Vm:=ok.add U hm hi (y:=⟨ky,e,none,"undone"⟩) (y':=⟨ky,t3,none,"undone"⟩) (am':=x.am) (am1':=x.am1) xk.symm ⟨(λ_ e=>nomatch e),.inl rfl⟩ ⟨rfl,rfl,rfl⟩ (by rw[xk];exact J9) ok.sub ok.sub1 ok.eq1 (λn=>⟨ok.ge n,ok.le n⟩) ok.nd1;exact s _ _ ⟨_,rfl,_,ym.more Zo,Vm,le_succ _,by show(x.en++[_]).length<=_;simp,λq' h1 Y h3=>mQ Y h1,⟨_,rfl,rfl,rfl,rfl⟩,((f2.same s3).trans f4)⟩
   rintro _ H1 ⟨o5,rfl,F,dn⟩;refine⟨aP rfl,λtq H s2 g2=>⟨tq,_,rfl,.inr (YU g2),rfl,rfl,?_⟩⟩;exact a1 H F (dn.same s2)
  have Vn:decide (r="ahead")=false:=ZV ha;by_cases hn:r="none"
  ·subst hn;refine aN (λu q=>∃o5,u=[some (.ref z.s),some (.str ky),some (.ref t),some (.str "none"),some (.ref z.p),o5]/\q=a0) (λM s=>s _ _ ⟨_,rfl,rfl⟩) ?_;rintro _ G ⟨o5,rfl,O⟩;obtain rfl:a0=G:=O.symm;refine⟨aP rfl,λtq H s2 g2=>⟨tq,_,rfl,.inr (YU g2),rfl,rfl,?_⟩⟩;exact a1 H x ⟨(st.same s2).more Zo,ok,Zo,Zo,λ_ _ h _=>h,by unfold kY;rw[ZQ rfl],Fs.refl.same s2⟩
  have QV:r="yes"∨r="no"∨r="undone":=by
   rcases vd with h|h|h|h|h
   ·exact ZO h hn
   ·exact .inl h
   ·exact .inr (.inl h)
   ·exact .inr (.inr h)
   ·exact ZO h ha
  obtain⟨p,yo⟩:∃p:Bool,p=!decide (r="no"):=⟨_,rfl⟩;refine aN (λu q=>u=[some (.ref z.s),some (.str ky),some (.ref t),some (.str r),some (.ref z.p),none]/\q=a0) (λM s=>?_) ?_
  ·show if decide (r="ahead")=true then _ else _
   rw[Vn,ZP ZZ];exact s _ _ ⟨rfl,rfl⟩
  rintro _ G ⟨rfl,O⟩;obtain rfl:a0=G:=O.symm;refine gA (λv q=>v=false/\Same a0 q) (λkk Q3=>?_) ?_ ?_
  ·refine⟨aP rfl,λtq H s2 g2=>⟨tq,_,rfl,.inr (YU g2),rfl,rfl,?_⟩⟩;refine Q3 _ _ ⟨?_,s2⟩;show jG (.str r) [.str "none",.str "ahead"]=false;rcases QV with rfl|rfl|rfl<;>decide +kernel
  ·rintro _ ⟨e,_⟩;cases e
  rintro H1 ⟨_,s1⟩;dsimp only [eK];refine aN (λu q=>u=[some (.ref z.s),some (.str ky),some (.ref t),some (.str r),some (.ref z.p),some (.bl p)]/\q=H1) (λM s=>s _ _ ⟨by rw[yo];rfl,rfl⟩) ?_;rintro _ G ⟨rfl,O⟩;obtain rfl:H1=G:=O.symm;have AI:=st.same s1;refine aN (λu q=>u=[some (.ref z.s),some (.str ky),some (.ref t),some (.str r),some (.ref z.p),some (.bl p)]/\∃F,rY C ws nm z x L H1 q F/\(wd="take"->if p=true then (n:Int)<=aX F.am j else aX F.am j<(n:Int))/\(wd="add"->p=true->aX F.am j+(n:Int)<=1000000000000)) (λM s=>?_) ?_
  ·exact⟨z,x,L,wd,j,n,b,l,t,p,rfl,AI,Zo,ok,U,rl,s1 _ _ gt,W,kl,G8,ku,V6,hk,λH F d h1 Y=>s _ _ ⟨rfl,F,d,h1,Y⟩⟩
  rintro _ H ⟨rfl,a,d,hT,hA⟩;have Z:=AI.tk d.fs _ _ (s1 _ _ gt);have lj:ky∉a.en.map (·.key):=d.keys ky J9 (λa3=>by rw[<- xk];exact λe=>rX U a3 m i e.symm);have E:=d.at_;have hx:l=[.str wd,.str j,.int (n:Int)]:=by cases W<;>rfl
  refine aN (λu q=>u=[some (.ref z.s),some (.str ky),some (.ref t),some (.str r),some (.ref z.p),some (.bl p)]/\∃cl:Str->Bool,HAt C q z.p z.a a.am cl a.en (L+2)/\(∀c o,H c=some o->c≠z.a.da->c≠z.a.de->c≠z.a.dc->q c=some o)/\(∀A,A≠j->cl A=false)/\iB a.am cl wd j (n:Int)=p) (λM s=>?_) ?_
  ·cases W with
   | take=>
    refine⟨_,YU Z,_,rfl,?_⟩;refine s _ _ ⟨rfl,_,HAt.more E.hs Zo,λ_ _ e _ _ _=>e,λ_ _=>rfl,?_⟩;have h:=hT rfl
    cases p with
    | true=>exact kX h
    | false=>exact ZV (by have:aX a.am j<(n:Int):=h;omega)
   | add=>
    cases p with
    | true=>
     refine⟨_,YU Z,_,rfl,?_⟩;exact s _ _ ⟨rfl,_,HAt.more E.hs Zo,λ_ _ e _ _ _=>e,λ_ _=>rfl,uC (hA rfl rfl)⟩
    | false=>
     refine⟨_,YU Z,_,rfl,z.a.dx,_,E.hs.hp,cR z.a Zk Zk Zk,_,YU Z,_,rfl,z.p,z.a,a.am,_,a.en,L+1,j,rfl,E.hs,Zo,λH3 h3 k3=>?_⟩;refine s _ _ ⟨rfl,_,h3,λc o e _ _ m3=>k3 c o e m3,λA V7=>ZP V7,?_⟩;show(!(if j=j then true else false)&&_)=false;rw[ZQ rfl];rfl
  rintro _ H3 ⟨rfl,cl,h3,k3,EO,BS⟩;have Vo:TK H H3:=λc ys e=>k3 c _ e (bD e E.hs.ha λz=>nomatch z) (bD e E.hs.he λz=>nomatch z) (by obtain⟨kvs,gc,_⟩:=E.hs.hc;exact bD e gc λz=>nomatch z)
  have zz:=Vo _ _ Z;refine aN (λu q=>u=[some (.ref z.s),some (.str ky),some (.ref t),some (.str r),some (.ref z.p),some (.bl p)]/\∃e,HAt C q z.p z.a (Em a.am p j b) cl (a.en++[⟨ky,e,some (t,l),yn p⟩]) (L+3)/\(∀c o,H c=some o->c≠z.a.da->c≠z.a.de->c≠z.a.dc->q c=some o)) (λM s=>?_) ?_
  ·refine⟨z.a.dx,_,h3.hp,cR z.a Zk Zk Zk,z.p,t,z.a,a.am,cl,a.en,L+2,j,(n:Int),wd,l,b,ky,rfl,h3,Zo,zz,W,G8,Zo,Zo,qt,lj,λH4 e h4 k4=>?_⟩;rw[BS]at h4;exact s _ _ ⟨rfl,e,h4,λc o e' X m2 m3=>k4 c o (k3 c o e' X m2 m3) X m2⟩
  rintro _ H4 ⟨rfl,e,h4,k4⟩;have Vp:TK H H4:=λc ys e=>k4 c _ e (bD e E.hs.ha λz=>nomatch z) (bD e E.hs.he λz=>nomatch z) (by obtain⟨kvs,gc,_⟩:=E.hs.hc;exact bD e gc λz=>nomatch z)
  have yk:=Vp _ _ Z;have HU:eP l 1=some (.str j):=by rw[hx];rfl
  refine aN (λu q=>u=[some (.ref z.s),some (.str ky),some (.ref t),some (.str r),some (.ref z.p),some (.bl p)]/\StAt C q z {a with am:=Em a.am p j b,en:=a.en++[⟨ky,e,some (t,l),yn p⟩] } (L+4)/\Fs z H q) (λM s=>?_) ?_
  ·refine⟨z.a.dx,_,h4.hp,cR z.a Zk Zk Zk,_,YU yk,_,HU,z.p,z.a,_,cl,_,L+3,j,rfl,h4,Zo,λH5 h5 k5=>?_⟩;have ec:(λA=>if A=j then false else cl A)=λ_=>false:=by
    funext A
    split
    ·rfl
    ·rename_i V7;exact EO A V7
   rw[ec]at h5;obtain⟨my,f5⟩:=E.house h5 (λc o e' X m2 m3=>k5 c o (k4 c o e' X m2 m3) m3);exact s _ _ ⟨rfl,my,f5⟩
  rintro _ H5 ⟨rfl,my,f5⟩;have FT:ky∉a.kv.map (·.key):=by rw[d.kv];exact FR
  have MF:=E.tk f5 _ _ Z;have Xz:a.kv.length<=90:=by rw[d.kv];exact FQ
  refine aN (λu q=>u=[some (.ref z.s),some (.str ky),some (.ref t),some (.str r),some (.ref z.p),some (.bl p)]/\∃I,StAt C q z {a with am:=Em a.am p j b,en:=a.en++[⟨ky,e,some (t,l),yn p⟩],kv:=a.kv++[⟨ky,I,some (t,l),yn p⟩] } (L+4)/\Fs z H q) (λM s=>?_) ?_
  ·refine⟨dC rfl,λa2 hl=>⟨_,YT aA,.str (yn p),by cases p <;> rfl,aP rfl,λI H7 s7 g7=>?_⟩⟩;have s6:=(aH (o:=.lst [.str "no",.str "yes"]) hl).trans s7;have N:=my.same s6;refine⟨_,YT N.lst,_,rfl,z.d3,_,rfl,DPut.k (k:=Sum.inr ky) N.h3 (by unfold dE;rw[bA];exact fQ (m:=1000) (by show a.kv.length<=1000;omega) Zd),?_⟩;have ep:bG (dE a.kv) (Sum.inr ky) (.ref I)=dE (a.kv++[⟨ky,I,some (t,l),yn p⟩]):=hJ (z:=⟨ky,I,some (t,l),yn p⟩) FT;obtain⟨Q,f8⟩:=N.put3 (kv':=a.kv++[⟨ky,I,some (t,l),yn p⟩]) (λy g=>by
    rcases aF g with g|rfl
    ·exact N.e3 y g
    ·exact⟨g7,λa4 ys e=>by cases e;exact s6 _ _ MF⟩) (by rw[gJ];simp;omega)
   rw[<- ep]at Q f8;exact s _ _ ⟨rfl,I,Q,(f5.same s6).trans f8⟩
  rintro _ H6 ⟨rfl,I,S,f6⟩;have yq:=E.tk f6 _ _ Z;have IH:HDX l:=⟨_,_,_,_,W⟩;have MG:Fs z a0 H6:=((Fs.refl.same s1).trans d.fs).trans f6;have vf:∀ {y:EN},y.key=ky->∀q':Str,q'≠ky->q'∉x.en.map (·.key)->(∀a3,q'≠tx (lN a3))->q'∉(a.en++[y]).map (·.key):=λg q' h1 Y h3=>mQ (d.keys q' Y h3) (by rw[g];exact h1)
  have BU:∀ {y:EN},(a.en++[y]).length<=x.en.length+2:=λ{y}=>by have:=d.len;rw[gJ];simp;omega
  have BV:∀(t':ZT),r≠"none"->r≠"ahead"->kY x.kv (a.kv++[⟨ky,t',some (t,l),r⟩]) ky l r:=λt' h1 Y=>by
   unfold kY;rw[ZP h1,ZP Y,ZP Y,d.kv];exact⟨_,rfl,rfl,rfl,rfl⟩
  have vg:tx (dL nm m i)∉a.en.map (·.key):=by rw[xk];exact lj
  have bounds:p=true->0<=aX a.am j+b/\aX a.am j+b<=1000000000000:=λg=>by
   have g1:=d.ok.ge j;have g2:=d.ok.le j
   cases W with
   | take=>have:=hT rfl;rw[ZQ g]at this;omega
   | add=>have:=hA rfl g;omega
  rcases QV with rfl|rfl|rfl
  ·have ey:p=true:=by rw[yo];decide +kernel
   subst ey;refine aN (λu q=>u=[some (.ref z.s),some (.str ky),some (.ref t),some (.str "yes"),some (.ref z.p),some (.bl true)]/\q=H6) (λM s=>s _ _ ⟨rfl,rfl⟩) ?_;rintro _ G ⟨rfl,O⟩;obtain rfl:H6=G:=O.symm;have hb:eP [V.int (n:Int),.int (-(n:Int))] (if decide (wd="take")=true then 1 else 0)=some (.int b):=by cases W<;>rfl
   have yd:eP l 0=some (.str wd):=by rw[hx];rfl
   have QW:eP l 2=some (.int (n:Int)):=by rw[hx];rfl
   refine⟨_,YT S.lst,_,rfl,z.d1,rfl,.inl ⟨_,.inl S.h1⟩,_,YU yq,_,HU,_,DGet.k (k:=Sum.inr j) S.h1,?_⟩;rw[gV];refine⟨_,YU yq,_,QW,_,YU yq,_,QW,dC rfl,λa2 hl=>?_⟩;have s7:=aH (o:=.lst [.int (n:Int),.int (-(n:Int))]) hl;have gl:(aJ H6 a2 (.lst [.int (n:Int),.int (-(n:Int))])) a2=some (.lst [.int (n:Int),.int (-(n:Int))]):=aA;have N:=S.same s7;generalize aJ H6 a2 (.lst [.int (n:Int),.int (-(n:Int))])=H7 at s7 gl N;have QX:=s7 _ _ yq;refine⟨_,YU QX,_,yd,_,YT gl,_,hb,_,YT N.lst,_,rfl,_,YU QX,_,HU,z.d1,_,rfl,DPut.k (k:=Sum.inr j) N.h1 (by unfold eU;rw[bA];exact fQ (m:=1000) (by have:=jR d.ok.nd1 d.ok.sub1 rl;show a.am1.length<=1000;omega) Zd),?_⟩;rw[gW];obtain⟨Q,f8⟩:=N.put1 j (aX a.am1 j+b) (by have:=jR d.ok.nd1 d.ok.sub1 rl;show a.am1.length<100;omega);have II:=bounds rfl;have MH:=d.ok.add U hm hi (y:=⟨ky,e,some (t,l),"yes"⟩) (y':=⟨ky,I,some (t,l),"yes"⟩) (am':=bF a.am j (aX a.am j+b)) (am1':=bF a.am1 j (aX a.am1 j+b)) xk.symm (.of IH (.inl rfl)) ⟨rfl,rfl,rfl⟩ vg (dF d.ok.sub kl) (dF d.ok.sub1 kl) (λA=>by rw[bM,bM,d.ok.eq1,d.ok.eq1]) (λA=>by
    rw[bM];split
    ·exact II
    ·exact⟨d.ok.ge A,d.ok.le A⟩) (nY d.ok.nd1)
   exact a1 _ _ ⟨Q.more Zo,MH,d.k,BU,vf rfl,BV I Zk Zk,(MG.same s7).trans f8⟩
  ·have ey:p=false:=by rw[yo];decide +kernel
   subst ey;refine aN (λu q=>u=[some (.ref z.s),some (.str ky),some (.ref t),some (.str "no"),some (.ref z.p),some (.bl false)]/\q=H6) (λM s=>s _ _ ⟨rfl,rfl⟩) ?_;rintro _ G ⟨rfl,O⟩;obtain rfl:H6=G:=O.symm;have MH:=d.ok.add U hm hi (y:=⟨ky,e,some (t,l),"no"⟩) (y':=⟨ky,I,some (t,l),"no"⟩) (am':=a.am) (am1':=a.am1) xk.symm (.of IH (.inr rfl)) ⟨rfl,rfl,rfl⟩ vg d.ok.sub d.ok.sub1 d.ok.eq1 (λA=>⟨d.ok.ge A,d.ok.le A⟩) d.ok.nd1;exact a1 _ _ ⟨S.more Zo,MH,d.k,BU,vf rfl,BV I Zk Zk,MG⟩
  ·have ey:p=true:=by rw[yo];decide +kernel
   subst ey;have II:=bounds rfl;have yh:(⟨ky,e,some (t,l),"yes"⟩:EN)∈a.en++[⟨ky,e,some (t,l),yn true⟩]:=ZL _ dI;refine aN (λu q=>u=[some (.ref z.s),some (.str ky),some (.ref t),some (.str "undone"),some (.ref z.p),some (.bl true)]/\∃F,DoneIs C ws nm z x L a0 q F ky l "undone") (λM s=>?_) ?_
   ·refine⟨z.a.dx,_,S.hs.hp,cR z.a Zk Zk Zk,z.p,z.a,_,_,_,L+4,ky,rfl,S.hs,Zo,qt,λy g=>?_,λh=>ZO (mem_map_of_mem (f:=(·.key)) yh) h,λy g e1 e2=>?_,λy g e1 _ a4 ys B n' rm J e3 DL H7 e7 h7 k7=>?_⟩
    ·rcases aF g with g|rfl
     ·exact d.ok.said y g
     ·exact .of IH (.inl rfl)
    ·exfalso;rcases aF g with g|rfl
     ·exact lj (Zmm.mpr ⟨y,g,e1⟩)
     ·exact e2 rfl
    ·have ey:y=⟨ky,e,some (t,l),"yes"⟩:=by
      rcases aF g with g|rfl
      ·exact ZO (Zmm.mpr ⟨y,g,e1⟩) lj
      ·rfl
     subst ey;cases e3;have e4:B=j/\J=b:=by
      cases W<;>cases DL<;>exact⟨rfl,rfl⟩
     obtain⟨rfl,rfl⟩:=e4;rw[mU lj rfl]at h7;obtain⟨N,f7⟩:=S.house h7 (λc o e X m2 _=>k7 c o e X m2);refine⟨aP rfl,λt8 H8 s8 g8=>?_⟩;have Q:=N.same s8;refine⟨_,YT Q.lst,_,rfl,z.d3,_,rfl,DPut.k (k:=Sum.inr ky) Q.h3 (by unfold dE;rw[bA];exact fQ (m:=1000) (by show(a.kv++[_]).length<=1000;simp;omega) Zd),?_⟩;have ep:bG (dE (a.kv++[⟨ky,I,some (t,l),yn true⟩])) (Sum.inr ky) (.ref t8)=dE (a.kv++[⟨ky,t8,some (t,l),"undone"⟩]):=by
      rw[kS (z':=⟨ky,t8,some (t,l),"undone"⟩) rfl (by rw[eF];exact ZL _ dI),mU FT rfl]
     obtain⟨QY,f9⟩:=Q.put3 (kv':=a.kv++[⟨ky,t8,some (t,l),"undone"⟩]) (λy g=>by
      rcases aF g with g|rfl
      ·exact Q.e3 y (ZM _ g)
      ·exact⟨g8,λa4 ys e=>by cases e;exact s8 _ _ (S.tk f7 _ _ yq)⟩) (by rw[gJ];simp;omega)
     rw[<- ep]at QY f9;have Vq:=d.ok.add U hm hi (y:=⟨ky,e7,some (t,l),"undone"⟩) (y':=⟨ky,t8,some (t,l),"undone"⟩) (am':=bF (Em a.am true B J) B (aX (Em a.am true B J) B - J)) (am1':=a.am1) xk.symm ⟨λ_ e=>by cases e;exact IH,.inl rfl⟩ ⟨rfl,rfl,rfl⟩ vg (dF (dF d.ok.sub kl) kl) d.ok.sub1 (λA=>by
      show aX a.am1 A=aX (bF (bF a.am B (aX a.am B+J)) B (aX (bF a.am B (aX a.am B+J)) B-J)) A;rw[bM,bM,bM,ZQ rfl,d.ok.eq1];split
      ·rename_i h;rw[h];omega
      ·rfl) (λA=>by
      show 0<=aX (bF (bF a.am B (aX a.am B+J)) B (aX (bF a.am B (aX a.am B+J)) B-J)) A/\aX (bF (bF a.am B (aX a.am B+J)) B (aX (bF a.am B (aX a.am B+J)) B-J)) A<=1000000000000;have g1:=d.ok.ge A;have g2:=d.ok.le A;rw[bM,bM,bM,ZQ rfl];split
      ·rename_i h;rw[h]at g1 g2;omega
      ·exact⟨g1,g2⟩) d.ok.nd1
     exact s _ _ ⟨rfl,_,QY.more Zo,Vq,d.k,BU,vf rfl,BV t8 Zk Zk,((MG.trans f7).same s8).trans f9⟩
   rintro _ H7 ⟨rfl,F,dn⟩;exact a1 H7 F dn
def Bh:List Str:=["none","any","yes","no","undone"]
def Bi(x:Dd)(i:Nat)(o:Option An):jC x i o∈Bh:=by
 cases o with
 | none=>simp[jC,Bh]
 | some y=>
  cases y with
  | no g=>
   show(if i<eY g ((cB x).map (·.1)) then ("undone":Str) else if i=eY g ((cB x).map (·.1)) then ("no":Str) else ("none":Str))∈Bh;split
   ·simp[Bh]
   ·split<;>simp[Bh]
  | _=>simp[jC,Bh]
def Bj(a:List RX)(n:Nat)(x:Dd)(i:Nat):dS a n x i∈Bh:=by
 unfold dS;split
 ·exact Bi x i _
 ·simp[Bh]
def Bk:Sp:=λvs H Q _=>∃(d b:ZT)(w:Str),vs=[.ref d,.str w]/\Dk H d b/\w∈Bh/\∀(u:Str)(a:Hp),u∈oP->Fw d b H a->Q (.str u) a
def Fv(T:Txt K mg)(s:aI P w K mg base 1 "_law_draw" ZF bP)(D:DefAt K mg "_law_word" W Zf):aI P w K mg base 2 "_law_word" Zf Bk:=by
 refine D.gg t (λf V a0 U a1 H vs a2 a3 v h=>?_)
 ·obtain⟨d,b,w,rfl,p,x,q⟩:=h;refine⟨_,(kg (mi (i:=2) t.nd (jx 1)) (kg (mo (ml pq (jx 1) lf) (li (mi (i:=2) t.nd (mv (px (K:=K)) (o0 (jw lf (jw lf (jw lf (jw lf jy))))) (mh s v rfl (jw (jx 0) (jw kt jy)))))) ms) (kg (mo (ml pq (mh s v rfl (jw (jx 0) (jw kt jy))) kt) (li (mi (i:=2) t.nd (mv (px (K:=K)) (o0 (jw lf (jw lf (jw lf (jw lf (jw lf jy)))))) (mh s v rfl (jw (jx 0) (jw kt jy)))))) ms) (li (mn (jx 2)))))),?_⟩;refine aN (λg j=>g=[some (.ref d),some (.str w),some (.str w)]/\j=H) (λy a=>a _ _ ⟨rfl,rfl⟩) ?_;rintro _ G ⟨rfl,F⟩;obtain rfl:H=G:=F.symm;refine aN (λg j=>∃u∈oP,g=[some (.ref d),some (.str w),some (.str u)]/\Fw d b H j) (λy a=>?_) ?_
  ·show if decide (w="any")=true then _ else _
   refine cG (λh=>?_) (λh=>?_)
   ·refine⟨dC rfl,λl e=>⟨d,b,4,rfl,p.new e,Zd,Zd,λr I z A J B=>?_⟩⟩;have k:=p.ne e;have c:=B l _ aA k.1 k.2;have f1:=((Fw.refl p).new (o:=.lst [.str "none",.str "yes",.str "no",.str "undone"]) e).draw J B;rcases Ly z A with rfl|rfl|rfl|rfl
    ·exact⟨_,YT c,_,rfl,a _ _ ⟨"none",by simp[oP],rfl,f1⟩⟩
    ·exact⟨_,YT c,_,rfl,a _ _ ⟨"yes",by simp[oP],rfl,f1⟩⟩
    ·exact⟨_,YT c,_,rfl,a _ _ ⟨"no",by simp[oP],rfl,f1⟩⟩
    ·exact⟨_,YT c,_,rfl,a _ _ ⟨"undone",by simp[oP],rfl,f1⟩⟩
   ·refine a _ _ ⟨w,?_,rfl,Fw.refl p⟩;have L:=ZX h;simp only [Bh,mem_cons,ZJ,or_false]at x;rcases x with rfl|rfl|rfl|rfl|rfl
    ·simp[oP]
    ·exact ZO rfl L
    ·simp[oP]
    ·simp[oP]
    ·simp[oP]
  rintro _ I ⟨u,M,rfl,f1⟩;refine aN (λg j=>∃u∈oP,g=[some (.ref d),some (.str w),some (.str u)]/\Fw d b H j) (λy a=>?_) ?_
  ·refine⟨d,b,8,rfl,f1.dk,Zd,Zd,λr C z A N O=>?_⟩;have f2:=f1.draw N O;show if decide (r=5)=true then _ else _
   refine cG (λh=>?_) (λh=>a _ _ ⟨u,M,rfl,f2⟩);refine⟨dC rfl,λl e=>⟨d,b,5,rfl,f2.dk.new e,Zd,Zd,λm X Y Z Q E=>?_⟩⟩;have k:=f2.dk.ne e;have c:=E l _ aA k.1 k.2;have n:=(f2.new (o:=.lst [.str "none",.str "yes",.str "no",.str "undone",.str "ahead"]) e).draw Q E;rcases(by omega:m=0∨m=1∨m=2∨m=3∨m=4) with rfl|rfl|rfl|rfl|rfl
   ·exact⟨_,YT c,_,rfl,a _ _ ⟨"none",by simp[oP],rfl,n⟩⟩
   ·exact⟨_,YT c,_,rfl,a _ _ ⟨"yes",by simp[oP],rfl,n⟩⟩
   ·exact⟨_,YT c,_,rfl,a _ _ ⟨"no",by simp[oP],rfl,n⟩⟩
   ·exact⟨_,YT c,_,rfl,a _ _ ⟨"undone",by simp[oP],rfl,n⟩⟩
   ·exact⟨_,YT c,_,rfl,a _ _ ⟨"ahead",by simp[oP],rfl,n⟩⟩
  rintro _ C ⟨R,S,rfl,f2⟩;exact q R C S f2
def uD(nm:List Nat)(w:Wt):Str:=tx (dL nm w.n w.i)
abbrev Oc:=Option (Option (List V)×Str)
def Np(y:EN):Option (List V)×Str:=(y.dd.map (·.2),y.word)
structure KvIs(nm:List Nat)(W:List Wt)(os:List Oc)(u:Str)(kv:List EN):Prop where
 from_:∀y∈kv,∃(k:Nat)(w:Wt),W[k]?=some w/\w.h=u/\y.key=uD nm w/\os[k]?=some (some (Np y))
 to_:∀(k:Nat)(w:Wt) o,W[k]?=some w->w.h=u->os[k]?=some (some o)->∃y∈kv,y.key=uD nm w/\Np y=o
def dG(W:List Wt)(i:Nat)(u:Str):Nat:=(W.take i).countP λw=>decide (w.h=u)
structure AllSt(C:ZT)(ws:List Str)(nm:List Nat)(W:List Wt)(H:Hp)(sd:ZT)(us:List Str)(zs:List SA)(xs:List SS)(i:Nat)(os:List Oc):Prop where
 dict:H sd=some (.dK ((us.zip zs).map λq=>((Sum.inr q.1:aR),V.ref q.2.s)))
 lz:zs.length=us.length
 lx:xs.length=us.length
 lo:os.length=i
 at_:∀(j:Nat) u z x,us[j]?=some u->zs[j]?=some z->xs[j]?=some x->StAt C H z x (100+6*dG W i u)
 ok:∀x∈xs,StOk ws nm x
 dis:∀(j k:Nat) z z',zs[j]?=some z->zs[k]?=some z'->j≠k->∀c∈z.all,c∉z'.all
 nsd:∀z∈zs,sd∉z.all
 bnd:∀(j:Nat) u x,us[j]?=some u->xs[j]?=some x->x.k<=dG W i u/\x.kv.length<=dG W i u/\x.en.length<=2*dG W i u
 kv:∀(j:Nat) u x,us[j]?=some u->xs[j]?=some x->KvIs nm W os u x.kv
def bW{a:Type}{xs:List a}{x y:a}{i:Nat}(h:(xs++[x])[i]?=some y):(i<xs.length/\xs[i]?=some y)∨(i=xs.length/\y=x):=by
 rcases lt_or_ge i xs.length with z|z
 ·rw[getElem?_append_left z]at h;exact .inl ⟨z,h⟩
 ·rw[List.getElem?_append_right z]at h;have b:=(Zgs.mp h).1;have:i=xs.length:=by simp at b;omega
  subst this;rw[Nat.sub_self]at h;cases h;exact .inr ⟨rfl,rfl⟩
def sB{nm:List Nat}{n c i b:Nat}(h:tx (dL nm n i)=tx (dL nm c b)):n=c/\i=b:=by
 have h:=fA h;unfold dL at h;rw[append_assoc,append_assoc]at h;have h:=List.append_cancel_left h;have a:=congrArg List.getLast? h;rw[List.getLast?_append,List.getLast?_append]at a;have a:some (97+i)=some (97+b):=a;injection a with a
 have d:=congrArg List.dropLast h;rw[List.dropLast_concat,List.dropLast_concat]at d;exact⟨oO d,Zo⟩
def fP{W:List Wt}{i:Nat}{w:Wt}(h:W[i]?=some w)(u:Str):dG W (i+1) u=dG W i u+if w.h=u then 1 else 0:=by
 unfold dG;rw[bC h,List.countP_append,countP_cons,List.countP_nil];by_cases e:w.h=u<;>simp[e]
def qF(W:List Wt):Prop:=∀(k b:Nat)(w a:Wt),W[k]?=some w->W[b]?=some a->w.n=a.n->w.i=a.i->k=b
def AllSt.new{C:ZT}{ws:List Str}{nm:List Nat}{W:List Wt}{H:Hp}{f:ZT}{us:List Str}{g:List SA}{xs:List SS}{i:Nat}{os:List Oc}(h:AllSt C ws nm W H f us g xs i os)(l:qF W){w:Wt}(m:W[i]?=some w){j:Nat}{x:SS}(n:us[j]?=some w.h)(c:xs[j]?=some x):uD nm w∉x.en.map (·.key):=λo=>by
 obtain⟨y,p,e⟩:=Zmm.mp o;rcases(h.ok x (cP c)).frn y p with b|⟨d,q,b⟩
 ·exact b _ _ e
 ·obtain⟨k,a,r,_,s,t⟩:=(h.kv j _ x n c).from_ d q;have z:k<i:=by rw[<- h.lo];exact(Zgs.mp t).1
  obtain⟨u,v⟩:=sB (show tx (dL nm a.n a.i)=tx (dL nm w.n w.i) from by rw[<- show d.key=tx (dL nm a.n a.i) from s,<- b.1];exact e);have:=l _ _ _ _ r m u v;omega
def Nq(a:Str)(xs:List V):Oc:=if a="none" then none else some (if a="ahead" then none else some xs,if a="ahead" then ("undone":Str) else a)
def KvIs.far{nm:List Nat}{W:List Wt}{os:List Oc}{u:Str}{e:List EN}(h:KvIs nm W os u e){w:Wt}(i:W[os.length]?=some w)(j:w.h≠u)(o:Oc):KvIs nm W (os++[o]) u e:=by
 refine⟨λy l=>?_,λk d m a c b=>?_⟩
 ·obtain⟨k,d,a,c,b,f⟩:=h.from_ y l;exact⟨k,d,a,c,b,by rw[getElem?_append_left (Zgs.mp f).1];exact f⟩
 ·rcases bW b with⟨g,b⟩|⟨g,_⟩
  ·exact h.to_ k d m a c b
  ·rw[g,i]at a;cases a;exact ZO c j
def KvIs.near{nm:List Nat}{W:List Wt}{os:List Oc}{l kv':List EN}{w:Wt}(h:KvIs nm W os w.h l)(o:W[os.length]?=some w){xs:List V}{e:Str}(c:kY l kv' (uD nm w) xs e):KvIs nm W (os++[Nq e xs]) w.h kv':=by
 have n:∀y∈l,∃(k:Nat)(b:Wt),W[k]?=some b/\b.h=w.h/\y.key=uD nm b/\(os++[Nq e xs])[k]?=some (some (Np y)):=λy s=>by
  obtain⟨k,b,d,f,a,i⟩:=h.from_ y s;exact⟨k,b,d,f,a,by rw[getElem?_append_left (Zgs.mp i).1];exact i⟩
 unfold kY at c;by_cases j:e="none"
 ·rw[ZQ j]at c;subst c;refine⟨n,λk b m d f a=>?_⟩;rcases bW a with⟨_,a⟩|⟨_,a⟩
  ·exact h.to_ k b m d f a
  ·unfold Nq at a;rw[ZQ j]at a;cases a
 ·rw[ZP j]at c;obtain⟨y,rfl,p,t,u⟩:=c;have r:Nq e xs=some (Np y):=by unfold Nq Np;rw[ZP j,t,u]
  refine⟨λq g=>?_,λk b m d f a=>?_⟩
  ·rcases aF g with g|rfl
   ·exact n q g
   ·exact⟨os.length,w,o,rfl,p,by rw[List.getElem?_append_right (bH _),Nat.sub_self,r];rfl⟩
  ·rcases bW a with⟨_,a⟩|⟨c,a⟩
   ·obtain⟨q,g,i⟩:=h.to_ k b m d f a;exact⟨q,ZM _ g,i⟩
   ·rw[c,o]at d;cases d;rw[r]at a;exact⟨y,ZL _ dI,p,by injection a with a;exact a.symm⟩
def AllSt.step{C:ZT}{ws:List Str}{nm:List Nat}{W:List Wt}{H r:Hp}{s:ZT}{us:List Str}{p:List SA}{xs:List SS}{i:Nat}{os:List Oc}(h:AllSt C ws nm W H s us p xs i os)(D:us.Nodup){w:Wt}(l:W[i]?=some w){j:Nat}{z:SA}{x m:SS}(k:us[j]?=some w.h)(hz:p[j]?=some z)(n:xs[j]?=some x){vs:List V}{q:Str}(g:DoneIs C ws nm z x (100+6*dG W i w.h) H r m (uD nm w) vs q):AllSt C ws nm W r s us p (xs.set j m) (i+1) (os++[Nq q vs]):=by
 have E:j<xs.length:=(Zgs.mp n).1;have t:W[os.length]?=some w:=by rw[h.lo];exact l
 have other:∀ {a:Nat}{f:Str},a≠j->us[a]?=some f->w.h≠f:=λ{a f} d b e=>by
  subst e;have u:=(Zgs.mp k);have v:=(Zgs.mp b);exact Ad D v.1 u.1 d (by rw[v.2,u.2])
 have same:∀ {a:Nat}{y:SS},(xs.set j m)[a]?=some y->(a=j/\y=m)∨(a≠j/\xs[a]?=some y):=λ{a y} e=>by
  by_cases d:a=j
  ·subst d;rw[getElem?_set_self E]at e;cases e;exact .inl ⟨rfl,rfl⟩
  ·rw[getElem?_set_ne (λz=>d z.symm)]at e;exact .inr ⟨d,e⟩
 have F:=h.at_ j _ z x k hz n;have I:=h.bnd j _ x k n;have A:dG W (i+1) w.h=dG W i w.h+1:=by rw[fP l,ZQ rfl]
 refine⟨g.fs _ _ h.dict (h.nsd z (cP hz)),h.lz,by rw[length_set];exact h.lx,by rw[gJ,h.lo];rfl,λa f B y b o c=>?_,λy c=>?_,h.dis,h.nsd,λa f y b c=>?_,λa f y b c=>?_⟩
 ·rcases same c with⟨rfl,rfl⟩|⟨d,c⟩
  ·rw[k]at b;cases b;rw[hz]at o;cases o;rw[A,show 100+6*(dG W i w.h+1)=100+6*dG W i w.h+6 by omega];exact g.at_
  ·rw[fP l,ZP (other d b)];exact(h.at_ a f B y b o c).other F g.fs (h.dis a j B z o hz d)
 ·obtain⟨a,G⟩:=getElem?_of_mem c;rcases same G with⟨rfl,rfl⟩|⟨d,c⟩
  ·exact g.ok
  ·exact h.ok y (cP c)
 ·rcases same c with⟨rfl,rfl⟩|⟨d,c⟩
  ·rw[k]at b;cases b;rw[A];refine⟨by have:=g.k;omega,?_,by have:=g.len;omega⟩;have:=g.kv;unfold kY at this;split at this
   ·rw[this];omega
   ·obtain⟨J,e,_⟩:=this;rw[e,gJ];simp;omega
  ·rw[fP l,ZP (other d b)];exact h.bnd a f y b c
 ·rcases same c with⟨rfl,rfl⟩|⟨d,c⟩
  ·rw[k]at b;cases b;exact(h.kv a _ x k n).near t g.kv
  ·exact(h.kv a f y b c).far t (other d b) _
def Dk.dict{H:Hp}{d b a:ZT}{kvs:List (aR×V)}(D:Dk H d b)(g:H a=some (.dK kvs)):a≠d/\a≠b:=by
 obtain⟨h,s,k,c,f,i⟩:=D.ex;exact⟨(λe=>by rw[e,c]at g;cases g),(λe=>by rw[e,f]at g;cases g)⟩
def Fw.dict{d b a:ZT}{H c:Hp}{kvs:List (aR×V)}(f:Fw d b H c)(g:H a=some (.dK kvs)):c a=some (.dK kvs):=f.get g (Dk.dict f.d0 g).1 (Dk.dict f.d0 g).2
def Dk.tup{H:Hp}{d b a:ZT}{ys:List V}(D:Dk H d b)(g:H a=some (.tup ys)):a≠d/\a≠b:=by
 obtain⟨h,s,k,c,f,i⟩:=D.ex;exact⟨(λe=>by rw[e,c]at g;cases g),(λe=>by rw[e,f]at g;cases g)⟩
def Dk.fs{d b:ZT}{H a:Hp}{z:SA}(D:Dk H d b)(f:Fs z H a)(c:d∉z.all)(e:b∉z.all):Dk a d b:=by
 obtain⟨g,s,k,h,i,j⟩:=D.ex;exact⟨g,s,k,f _ _ h c,f _ _ i e,j⟩
def StAt.fw{C d b:ZT}{H a:Hp}{z:SA}{x:SS}{L:Nat}(h:StAt C H z x L)(f:Fw d b H a)(j:d∉z.all)(l:b∉z.all):StAt C a z x L:=by
 have k:∀c∈z.all,∀o,H c=some o->a c=some o:=λc g o e=>f.get e (λq=>j (q▸g)) (λq=>l (q▸g))
 obtain⟨i,m,n⟩:=h.hs.hc;exact⟨k _ (by simp[SA.all]) _ h.lst,⟨k _ (by simp[SA.all]) _ h.hs.hp,k _ (by simp[SA.all]) _ h.hs.ha,⟨i,k _ (by simp[SA.all]) _ m,n⟩,k _ (by simp[SA.all]) _ h.hs.he,h.hs.ents.keep f.tk,h.hs.nda,h.hs.nde,h.hs.la,h.hs.le,h.hs.ac,h.hs.ae,h.hs.ce⟩,k _ (by simp[SA.all]) _ h.h1,k _ (by simp[SA.all]) _ h.h3,h.e3.keep f.tk,h.nd,h.l1,h.l3⟩
section
variable {C:ZT}{ws:List Str}{nm:List Nat}{W:List Wt}{H H':Hp}{sd:ZT}{us:List Str}{zs:List SA}{xs:List SS}{i:Nat}{os:List Oc}
def AllSt.map{H H':Hp}(h:AllSt C ws nm W H sd us zs xs i os)(b:H' sd=H sd)(c:∀z∈zs,∀x L,StAt C H z x L->StAt C H' z x L):AllSt C ws nm W H' sd us zs xs i os:=
 ⟨by rw[b];exact h.dict,h.lz,h.lx,h.lo,λj u z x d a e=>c z (cP a) x _ (h.at_ j u z x d a e),h.ok,h.dis,h.nsd,h.bnd,h.kv⟩
def AllSt.same{H H':Hp}(h:AllSt C ws nm W H sd us zs xs i os)(s:Same H H'):AllSt C ws nm W H' sd us zs xs i os:=h.map (by rw[h.dict];exact s _ _ h.dict) λz _ x L st=>st.same s
def AllSt.fw{d b:ZT}{H H':Hp}(h:AllSt C ws nm W H sd us zs xs i os)(f:Fw d b H H')(hz:∀z∈zs,d∉z.all/\b∉z.all):AllSt C ws nm W H' sd us zs xs i os:=
 h.map (by rw[h.dict];exact f.dict h.dict) λz a x L st=>st.fw f (hz z a).1 (hz z a).2
def AllSt.obj(h:AllSt C ws nm W H sd us zs xs i os){z:SA}(hz:z∈zs){c:ZT}(b:c∈z.all):∃o,H c=some o/\∀ys,o≠.tup ys:=by
 obtain⟨j,a⟩:=getElem?_of_mem hz;have d:=(Zgs.mp a).1;have e:=h.lz;have f:=h.lx;exact(h.at_ j us[j] z xs[j] (bR Zo) a (bR Zo)).no b
end
def Fa(d b:ZT)(a:List SA)(H e:Hp):Prop:=∀c o,H c=some o->c≠d->c≠b->(∀z∈a,c∉z.all)->e c=some o
def Fa.trans{d b:ZT}{a:List SA}{H h i:Hp}(f:Fa d b a H h)(g:Fa d b a h i):Fa d b a H i:=λc o e j k l=>g c o (f c o e j k l) j k l
def Fa.of_fw{d b:ZT}{g:List SA}{H a:Hp}(f:Fw d b H a):Fa d b g H a:=λc o e h i _=>f.get e h i
def Fa.of_fs{d b:ZT}{a:List SA}{z:SA}(hz:z∈a){H g:Hp}(f:Fs z H g):Fa d b a H g:=λc o e _ _ h=>f c o e (h z hz)
structure sC(ws:List Str)(vs:List V):Prop where
 ex:∃(a wd:Str)(n:Nat)(b:Int),HD a (n:Int) wd vs b/\a∈ws/\bZ a/\1<=n/\n<=1000000000000
structure wK(ws us:List Str)(w:Wt):Prop where
 n:w.n<=999999
 i:w.i<2
 h:w.h∈us
 d:sC ws w.d.vs
 w:w.w∈Bh
def Fx(C:ZT)(ws:List Str)(nm:List Nat):Sp:=λvs H Q _=>∃(d b a h c:ZT)(W:List Wt)(bs:List ZT)(e:List Str)(f:List SA)(i:List SS),vs=[.ref d,.str (tx nm),.ref a,.ref h,.ref c]/\Dk H d b/\gH nm/\H a=some (.lst (bs.map V.ref))/\Paired (WtAt H) W bs/\AllSt C ws nm W H h e f i 0 []/\e.Nodup/\H c=some (.lst (ws.map V.str))/\Menu ws/\qF W/\(∀w∈W,wK ws e w)/\(∀u,dG W W.length u<=30)/\(∀z∈f,d∉z.all/\b∉z.all/\a∉z.all/\c∉z.all)/\(a≠d/\a≠b/\c≠d/\c≠b)/\W.length<=100 ∧
 ∀j os g,AllSt C ws nm W g h e f j W.length os->Dk g d b->Fa d b f H g->Q .non g
def sD{us:List Str}{a:List SA}(c:us.Nodup){j:Nat}{u:Str}{z:SA}(b:us[j]?=some u)(hz:a[j]?=some z):aQ ((us.zip a).map λq=>((Sum.inr q.1:aR),V.ref q.2.s)) (Sum.inr u)=some (.ref z.s):=by
 induction us generalizing a j with
 | nil=>cases b
 | cons v us d=>
  obtain⟨f,g⟩:=nodup_cons.mp c
  cases a with
  | nil=>cases hz
  | cons y a=>
   rw[List.zip_cons_cons,map_cons];cases j with
   | zero=>cases b;cases hz;exact bE rfl
   | succ j=>
    rw[aY (λe=>f (by rw[show v=u from Sum.inr.inj e];exact cP b))];exact d g b hz
def mV(W:List Wt)(u:Str){i j:Nat}(h:i<=j):dG W i u<=dG W j u:=by
 unfold dG;exact List.Sublist.countP_le (List.take_sublist_take_left h)
def Nr(d a b c t:ZT)(nm:List Nat)(w:Wt)(l:List (Option V)):St:=[some (.ref d),some (.str (tx nm)),some (.ref a),some (.ref b),some (.ref c),some (.int (w.n:Int)),some (.int (w.i:Int)),some (.str w.h),some (.ref t),some (.str w.w)]++l
def uE(C:ZT):Sp:=λvs H Q E=>∃a nm,Fx C a nm vs H Q E
def oQ{C:ZT}(T:Txt K mg)(a7:aI P w K mg base 1 "_law_draw" ZF bP)(BW:aI P w K mg base 2 "_law_word" Zf Bk)(rp:∀ws nm,aI P w K mg base 8 "_law_done_at" Zg (qE C ws nm))(D:DefAt K mg "_law_asks_made" B6 Ze):aI P w K mg base 9 "_law_asks_made" Ze (uE C):=by
 refine D.gg l (λa8 cdv b0 outer b1 a3 vs b2 b3 hr h=>?_)
 ·obtain⟨ws,nm,d,b,s,o,A,W,bs,us,I,xs,rfl,dk,B8,gw,pw,al,V9,DA,mw,P0,nj,rq,xl,⟨n1,n2,n3,n4⟩,hW,a0⟩:=h;have j0:=cQ hr;have se:=rp ws nm;refine⟨_,(li (sn PassesOwn.never rfl (qe (K:=K) (jx 2)) (wn (K:=K) (n:=5) rfl (pv (mq (i:=5) l.nd) (pv (mq (i:=6) l.nd) (pv (mq (i:=7) l.nd) (pv (mq (i:=8) l.nd) (pv (mq (i:=9) l.nd) wp)))))) (kg (mi (i:=10) l.nd (mh BW hr rfl (jw (jx 0) (jw (jx 9) jy)))) (kg (mi (i:=11) l.nd (jx 8)) (kg (mi (i:=12) l.nd (mh a7 hr rfl (jw (jx 0) (jw kt jy)))) (kg (mo (ml pq (jx 12) kt) (li (mi (i:=11) l.nd (mm (jw (mj K 8) (jw (mj K 8) (jw (lv pi kt (lv wr (mj K 8) (lv wy kt kt))) jy)))))) ms) (kg (mo (ml pq (jx 12) kt) (li (mi (i:=11) l.nd (mm (jw (mj K 8) (jw (mv (px (K:=K)) (jx 4) (lv wr (lv pi (tm (K:=K) PySem.F.plainAttrs_list PySem.F.slot_list_index PySem.F.type_list_index R.fg (jx 4) (jw (mj K 8) jy)) kt) (qd (ut (K:=K)) rfl T.b_len cC (jw (jx 4) jy)))) (jw (mj K 8) jy)))))) ms) (kg (mo (ml pq (jx 12) kt) (li (mi (i:=11) l.nd (mm (jw (u8 j0 (R.je (R.di lf lf (R.di lf lf R.jf))) (mj K 8)) (jw (mj K 8) (jw (mj K 8) jy)))))) ms) (li (pz (mh se hr rfl (jw (u8 j0 (jx 3) (jx 7)) (jw (lv xz (lv xz (jx 1) (ub R.fm rfl T.b_str nU (jw (jx 5) jy))) (mv R.iS lf (jx 6))) (jw (jx 11) (jw (jx 10) jy))))))))))))))),?_⟩;have DM:=pw.length;refine⟨s,rfl,⟨_,YT gw⟩,bS (bB K s (bs.map V.ref)) (λi c a=>∃(o5 o6 o7 o8 o9 z9 B4 O:Option V)(F:List SS)(os:List Oc),c=[some (.ref d),some (.str (tx nm)),some (.ref s),some (.ref o),some (.ref A),o5,o6,o7,o8,o9,z9,B4,O]/\AllSt C ws nm W a o us I F i os/\Dk a d b/\Fa d b I a3 a) (λi c a ⟨_,_,_,_,_,_,_,_,_,_,_,_,_,fa⟩=>YT (fa _ _ gw n1 n2 λz B=>(xl z B).2.2.1))
   ⟨_,_,_,_,_,_,_,_,xs,[],rfl,al,dk,λ_ _ e _ _ _=>e⟩ ?_ ?_⟩
  ·rintro i v c x Q ⟨o5,o6,o7,o8,o9,z9,B4,O,F,os,rfl,IJ,IK,S⟩;rw[dH]at Q;cases hb:bs[i]? with
   | none=>rw[hb]at Q;cases Q
   | some a4=>
    rw[hb]at Q;cases Q;obtain⟨yf,ea⟩:=Zgs.mp hb;obtain⟨qz,t,ga,gt⟩:=Paired.get' (j:=i) pw yf;rw[ea]at ga;have yr:W[i]?=some W[i]:=bR qz;have y:=nj _ (getElem_mem qz);generalize W[i]=w at ga gt yr y;have QZ:TK a3 x:=λa2 ys e=>S a2 _ e (Dk.tup dk e).1 (Dk.tup dk e).2 λz B hc=>by
     obtain⟨a5,e',no⟩:=al.obj B hc;rw[e]at e';cases e';exact no _ rfl
    have KY:=QZ _ _ ga;have U:=QZ _ _ gt;refine⟨a4,_,rfl,YU KY,rfl,_,_,rfl,_,_,rfl,_,_,rfl,_,_,rfl,_,_,rfl,rfl,?_⟩;dsimp only [aK];have zb:∀z∈I,d∉z.all/\b∉z.all:=λz B=>⟨(xl z B).1,(xl z B).2.1⟩
    obtain⟨G,wd,n,bb,J,X,G8,ku,V6⟩:=y.d.ex;have Vs:w.d.vs=[.str wd,.str G,.int (n:Int)]:=by generalize w.d.vs=a0 at J;cases J<;>rfl
    have mk:∀(L:Str)(m:Nat),L∈ws->bZ L->1<=m->m<=1000000000000->sC ws [.str wd,.str L,.int (m:Int)]:=λL m h1 h2 h3 h4=>by
     generalize w.d.vs=a0 at J;cases J with
     | add=>exact⟨L,_,m,_,.add,h1,h2,h3,h4⟩
     | take=>exact⟨L,_,m,_,.take,h1,h2,h3,h4⟩
    have MI:x A=some (.lst (ws.map V.str)):=S _ _ DA n3 n4 λz B=>(xl z B).2.2.2
    rw[Vs]at U;refine aN (λc a=>∃u∈oP,c=Nr d s o A t nm w [some (.str u),B4,O]/\Fw d b x a) (λY f=>⟨d,b,w.w,rfl,IK,y.w,λu H2 hu f2=>f _ _ ⟨u,hu,rfl,f2⟩⟩) ?_;rintro _ H2 ⟨u,hu,rfl,f2⟩;refine aN (λc a=>c=Nr d s o A t nm w [some (.str u),some (.ref t),O]/\a=H2) (λY f=>f _ _ ⟨rfl,rfl⟩) ?_;rintro _ a6 ⟨rfl,eG⟩;obtain rfl:H2=a6:=eG.symm;refine aN (λc a=>∃r:Int,c=Nr d s o A t nm w [some (.str u),some (.ref t),some (.int r)]/\Fw d b x a) (λY f=>⟨d,b,24,rfl,f2.dk,Zd,Zd,λr H3 _ _ D3 k3=>f _ _ ⟨r,rfl,f2.draw D3 k3⟩⟩) ?_;rintro _ H3 ⟨r,rfl,f3⟩;have vc:(10:Int)^(12:Int).toNat=1000000000000:=by decide
    refine aN (λc a=>∃g E,c=Nr d s o A t nm w [some (.str u),some (.ref g),some (.int r)]/\a g=some (.tup E)/\sC ws E/\Fw d b x a) (λY f=>?_) ?_
    ·show if decide (r=7)=true then _ else _
     refine cG (λh=>?_) (λh=>f _ _ ⟨t,_,rfl,f3.tup U,mk G n X G8 ku V6,f3⟩);have zz:=f3.tup U;refine⟨_,YU zz,_,rfl,_,YU zz,_,rfl,_,YU zz,_,rfl,⟨Zd,Zd,Zd⟩,?_⟩;dsimp only;rw[vc];refine⟨show(0:Int)<1000000000000 by decide,aP rfl,λg H4 s4 g4=>?_⟩;obtain⟨m,em⟩:∃m:Nat,(m:Int)=1+(n:Int)%1000000000000:=⟨(1+(n:Int)%1000000000000).toNat,Zo⟩;refine f _ _ ⟨g,[.str wd,.str G,.int (m:Int)],rfl,by rw[g4,em],mk G m X G8 Zo Zo,f3.same s4⟩
    rintro _ H4 ⟨t4,v4,rfl,g4,AF,f4⟩;refine aN (λc a=>∃g E,c=Nr d s o A t nm w [some (.str u),some (.ref g),some (.int r)]/\a g=some (.tup E)/\sC ws E/\Fw d b x a) (λY f=>?_) ?_
    ·show if decide (r=8)=true then _ else _
     refine cG (λh=>?_) (λh=>f _ _ ⟨t4,v4,rfl,g4,AF,f4⟩);have yk:=f4.tup U;have yt:=f4.get MI n3 n4;have w2:=mw.two;refine⟨_,YU yk,_,rfl,.inl ⟨rfl,_,YT yt⟩,_,YU yk,_,rfl,ws,yt,X,λj H=>?_⟩;have ej:((j:Int)+1)%((ws.map V.str).length:Int)=(((j+1)%ws.length:Nat):Int):=by
      rw[bA,Int.natCast_emod];rfl
     have FI:(j+1)%ws.length<ws.length:=mod_lt _ Zo;refine⟨_,.inl (YT yt),by rw[bA];omega,_,YT yt,V.str ws[(j+1)%ws.length],?_,_,YU yk,_,rfl,aP rfl,λg Z s5 g5=>?_⟩
     ·rw[ej];exact cE (by rw[dH,bR FI];rfl)
     ·exact f _ _ ⟨g,_,rfl,g5,mk _ n (getElem_mem FI) (mw.nm FI) ku V6,f4.same s5⟩
    rintro _ Z ⟨t5,v5,rfl,g5,Vt,f5⟩;refine aN (λc a=>∃g E,c=Nr d s o A t nm w [some (.str u),some (.ref g),some (.int r)]/\a g=some (.tup E)/\sC ws E/\Fw d b x a) (λY f=>?_) ?_
    ·show if decide (r=9)=true then _ else _
     refine cG (λh=>?_) (λh=>f _ _ ⟨t5,v5,rfl,g5,Vt,f5⟩);have MF:=f5.tup U;obtain⟨M,FV,MJ⟩:∃M:Str,aQ (aM [] [((Sum.inr ("add":Str):aR),V.str "take"),(Sum.inr ("take":Str),.str "add")]) (Sum.inr wd)=some (.str M)/\sC ws [.str M,.str G,.int (n:Int)]:=by
      generalize w.d.vs=a0 at J;cases J with
      | add=>exact⟨"take",Zk,G,_,n,_,.take,X,G8,ku,V6⟩
      | take=>exact⟨"add",Zk,G,_,n,_,.add,X,G8,ku,V6⟩
     refine λp hp=>⟨aA,[((Sum.inr ("add":Str):aR),V.str "take"),(Sum.inr ("take":Str),.str "add")],rfl,ZN rfl,?_⟩;have s6:Same Z (aJ (aJ Z p (.dK [])) p (.dK (aM [] [((Sum.inr ("add":Str):aR),V.str "take"),(Sum.inr ("take":Str),.str "add")]))):=λa2 a5 e=>by
      have hc:a2≠p:=aB e hp;rw[aD hc,aD hc];exact e
     have gp:(aJ (aJ Z p (.dK [])) p (.dK (aM [] [((Sum.inr ("add":Str):aR),V.str "take"),(Sum.inr ("take":Str),.str "add")]))) p=_:=aA;generalize aJ (aJ Z p (.dK [])) p (.dK (aM [] [((Sum.inr ("add":Str):aR),V.str "take"),(Sum.inr ("take":Str),.str "add")]))=H6 at s6 gp;have yq:=s6 _ _ MF;have Vu:DGet H6 p (.str wd) (some (.str M)):=by
      have:=DGet.k (k:=Sum.inr wd) gp;rw[FV]at this;exact this
     refine⟨_,YU yq,_,rfl,p,_,rfl,Vu,_,YU yq,_,rfl,_,YU yq,_,rfl,aP rfl,λg H7 s7 g7=>?_⟩;exact f _ _ ⟨g,_,rfl,g7,MJ,(f5.same s6).same s7⟩
    rintro _ H6 ⟨t6,v6,rfl,g6,Vv,f6⟩;have q:=IJ.fw f6 zb;obtain⟨j,H⟩:=getElem?_of_mem y.h;have J8:=(Zgs.mp H).1;have Y3:I[j]?=some (I[j]'(by rw[q.lz];exact J8)):=bR _;have N:F[j]?=some (F[j]'(by rw[q.lx];exact J8)):=bR _;generalize I[j]'(by rw[q.lz];exact J8)=z at Y3;generalize F[j]'(by rw[q.lx];exact J8)=a1 at N;have Q4:=cP Y3;have FW:DGet H6 o (.str w.h) (some (.ref z.s)):=by
     have:=DGet.k (k:=Sum.inr w.h) q.dict;rw[sD V9 H Y3]at this;exact this
    obtain⟨P7,M,n',b',DL,MK,FX,ML,MM⟩:=Vv.ex;have st:=q.at_ j _ z a1 H Y3 N;have bd:=q.bnd j _ a1 H N;have XD:dG W i w.h<=30:=eJ (mV W w.h Zo) (rq w.h);have XF:dG W i w.h<=29:=by
     have h1:=fP yr w.h;rw[ZQ rfl]at h1;have h2:dG W (i+1) w.h<=30:=eJ (mV W w.h Zo) (rq w.h);omega
    have QT:=iU y.n;have five:=B8.five;have e1:(bN w.n).length=(bN w.n).cps.toList.length:=by simp[Str.length]
    refine⟨o,_,rfl,FW,⟨Zo,Int.lt_of_le_of_lt (by have:=y.n;omega:(w.n:Int)<=999999) Zd⟩,cX (by show(tx nm).length+(bN w.n).length<=1000;rw[aV,e1];omega),?_⟩;have e0:("a":Str)=tx [97]:=by decide +kernel
    have e2:("b":Str)=tx [98]:=by decide +kernel
    have ur:eP ("ab":Str).cps.toList (w.i:Int)=some (97+w.i):=by
     have:=y.i;rcases(by omega:w.i=0∨w.i=1) with e|e<;>rw[e]<;>decide +kernel
    have key:tx nm++Str.ofString (toString (w.n:Int))++tx [97+w.i]=tx (dL nm w.n w.i):=by
     show tx nm++bN w.n++tx [97+w.i]=_;rw[gE w.n,cF,cF];rfl
    have l2:("ab":Str).length=2:=by decide +kernel
    have l9:(tx nm++Str.ofString (toString (w.n:Int))).length<=11:=by
     show(tx nm++bN w.n).length<=11;rw[gE w.n,cF,aV,gJ];omega
    refine⟨cX (by rw[l2];omega),97+w.i,ur,cX (by have:(tx [97+w.i]).length=1:=aV _;omega),?_⟩;refine⟨z,a1,100+6*dG W i w.h,M,P7,n',b',v6,t6,u,w.n,w.i,?_,y.n,y.i,st,Zo,q.ok a1 (cP N),B8,mw.six,g6,DL,MK,FX,ML,MM,Zo,Zo,q.new P0 yr H N,hu,λH7 x' dn=>?_⟩
    ·rw[<- key]
    ·exact⟨_,_,_,_,_,_,_,_,_,_,rfl,q.step V9 yr H Y3 N dn,Dk.fs f6.dk dn.fs (zb z Q4).1 (zb z Q4).2,S.trans ((Fa.of_fw f6).trans (Fa.of_fs Q4 dn.fs))⟩
  ·rintro c x ⟨o5,o6,o7,o8,o9,z9,B4,O,F,os,rfl,IJ,IK,S⟩;rw[bA,<- DM]at IJ;exact a0 F os x IJ IK S
structure Fin(C:ZT)(ws:List Str)(nm:List Nat)(W:List Wt)(H:Hp)(sd:ZT)(us:List Str)(zs:List SA)(xs:List SS)(os:List Oc)(e:Nat):Prop where
 dict:H sd=some (.dK ((us.zip zs).map λq=>((Sum.inr q.1:aR),V.ref q.2.s)))
 lz:zs.length=us.length
 lx:xs.length=us.length
 lo:os.length=W.length
 at_:∀(j:Nat) z x,zs[j]?=some z->xs[j]?=some x->StAt C H z x (340+e)
 nd3:∀x∈xs,(x.kv.map (·.key)).Nodup
 frn:∀x∈xs,∀y∈x.en,(∀n i,y.key≠tx (dL nm n i))∨∃y'∈x.kv,mO y y'
 back:∀x∈xs,∀y'∈x.kv,∃y∈x.en,mO y y'
 sub:∀x∈xs,∀q∈x.am,q.1∈ws
 said:∀x∈xs,∀y∈x.en,Said y
 len:∀x∈xs,x.en.length<=63
 kv:∀(j:Nat) u x,us[j]?=some u->xs[j]?=some x->KvIs nm W os u x.kv
 dis:∀(j k:Nat) z z',zs[j]?=some z->zs[k]?=some z'->j≠k->∀c∈z.all,c∉z'.all
 nsd:∀z∈zs,sd∉z.all
def AllSt.fin{C:ZT}{ws:List Str}{nm:List Nat}{W:List Wt}{H:Hp}{c:ZT}{us:List Str}{d:List SA}{xs:List SS}{os:List Oc}(h:AllSt C ws nm W H c us d xs W.length os)(e:∀u,dG W W.length u<=30):Fin C ws nm W H c us d xs os 60:=by
 have i:=h.lz;have k:=h.lx;refine⟨h.dict,h.lz,h.lx,h.lo,λj z x f a=>?_,λx a=>(h.ok x a).nd3,λx a=>(h.ok x a).frn,λx a y g=>((h.ok x a).back y g).2,λx a=>(h.ok x a).sub,λx a=>(h.ok x a).said,λx a=>?_,h.kv,h.dis,h.nsd⟩
 ·have b:=(Zgs.mp f).1;have:=e us[j];exact(h.at_ j us[j] z x (bR Zo) f a).more Zo
 ·obtain⟨j,b⟩:=getElem?_of_mem a;have l:=(Zgs.mp b).1;have:=e us[j];have:=(h.bnd j us[j] x (bR Zo) b).2.2;omega
def Fin.same{C:ZT}{ws:List Str}{nm:List Nat}{W:List Wt}{H a:Hp}{b:ZT}{us:List Str}{c:List SA}{xs:List SS}{os:List Oc}{e:Nat}(h:Fin C ws nm W H b us c xs os e)(s:Same H a):Fin C ws nm W a b us c xs os e:=
 ⟨s _ _ h.dict,h.lz,h.lx,h.lo,λj z x d f=>(h.at_ j z x d f).same s,h.nd3,h.frn,h.back,h.sub,h.said,h.len,h.kv,h.dis,h.nsd⟩
def sE(o:Option (List V))(ys:List V):Bool:=match o with|none=>false|some vs=>bV vs ys
def sG(o:Option (ZT×List V))(ys:List V):qI o ys=sE (o.map (·.2)) ys:=by cases o<;>rfl
def Hn(o:Oc)(vs:List V):Bool:=match o with|none=>true|some q=>sE q.1 vs
def cM(w:Wt)(o:Oc):Bool:=if w.w="none" then o.isNone else if w.w="any" then Hn o w.d.vs else (match o with|none=>false|some q=>sE q.1 w.d.vs&&decide (q.2=w.w))
def BadIs(W:List Wt)(os:List Oc):Option (Nat×Nat)->Prop
 | none=>∀(k:Nat) w o,W[k]?=some w->os[k]?=some o->cM w o=true
 | some q=>∃(k:Nat)(w:Wt)(o:Oc),W[k]?=some w/\os[k]?=some o/\cM w o=false/\q=(w.n,w.i)/\∀(a:Nat) b c,a<k->W[a]?=some b->os[a]?=some c->cM b c=true
def BadIs.uniq{W:List Wt}{os:List Oc}{a b:Option (Nat×Nat)}(h:BadIs W os a)(h':BadIs W os b):a=b:=by
 cases a with
 | none=>cases b with
  | none=>rfl
  | some q=>obtain⟨k,w,o,d,e,c,_⟩:=h';rw[h k w o d e]at c;cases c
 | some p=>cases b with
  | none=>obtain⟨k,w,o,d,e,c,_⟩:=h;rw[h' k w o d e]at c;cases c
  | some q=>
   obtain⟨k,w,o,d,e,c,j,l⟩:=h;obtain⟨g,m,n,f,r,i,s,t⟩:=h';rcases lt_trichotomy k g with z|z|z
   ·rw[t k w o z d e]at c;cases c
   ·subst z;rw[d]at f;cases f;rw[j,s]
   ·rw[l g m n z f r]at i;cases i
def jD(H:Hp):Option (Nat×Nat)->V->Prop
 | none,v=>v=.non
 | some q,v=>∃a,v=.ref a/\H a=some (.tup [.int (q.1:Int),.int (q.2:Int)])
def Fin.found{C:ZT}{ws:List Str}{nm:List Nat}{W:List Wt}{H:Hp}{t:ZT}{us:List Str}{l:List SA}{xs:List SS}{os:List Oc}{e:Nat}(h:Fin C ws nm W H t us l xs os e)(u:qF W){k j:Nat}{w:Wt}{x:SS}{z:SA}(m:W[k]?=some w)(A:us[j]?=some w.h)(f:xs[j]?=some x)(hz:l[j]?=some z){o:Oc}(n:os[k]?=some o) :
  ∃g:Rq,(aQ (dE x.kv) (Sum.inr (uD nm w))).getD .non=zW g/\(∀q,g=some q->H q.1=some (.tup [No q.2.1,.str q.2.2])/\∀p,q.2.1=some p->H p.1=some (.tup p.2))/\o=g.map λq=>(q.2.1.map (·.2),q.2.2):=by
 have r:=h.kv j _ x A f;have st:=h.at_ j z x hz f;have B:=h.nd3 x (cP f)
 cases o with
 | none=>
  refine⟨none,?_,(λ_ e=>nomatch e),rfl⟩;have:uD nm w∉x.kv.map (·.key):=λD=>by
   obtain⟨y,c,a⟩:=Zmm.mp D;obtain⟨J,d,i,_,E,s⟩:=r.from_ y c;obtain⟨F,G⟩:=sB (show tx (dL nm d.n d.i)=tx (dL nm w.n w.i) from by rw[<- show y.key=tx (dL nm d.n d.i) from E];exact a);have:=u _ _ _ _ i m F G;subst this;rw[n]at s;cases s
  have b:=fO (ky:=uD nm w) (en:=x.kv);rw[ZV this]at b;cases a:aQ (dE x.kv) (Sum.inr (uD nm w)) with
  | none=>rfl
  | some v=>rw[a]at b;cases b
 | some q=>
  obtain⟨y,c,i,I⟩:=r.to_ k w q m rfl n;have b:=kR B c;rw[i]at b;obtain⟨g1,g2⟩:=st.e3 y c;refine⟨some (y.ent,y.dd,y.word),by rw[b];rfl,λp a=>?_,by rw[<- I];rfl⟩;cases a;refine⟨?_,λp a=>g2 p.1 p.2 a⟩;rw[g1];show some (HO.tup [Bx y.dd,_])=some (HO.tup [No y.dd,_]);cases y.dd<;>rfl
def Mr(C:ZT)(ws:List Str)(nm:List Nat):Sp:=λvs H Q _=>∃(c d:ZT)(W:List Wt)(bs:List ZT)(a:List Str)(g:List SA)(h:List SS)(os:List Oc)(e:Nat),vs=[.str (tx nm),.ref c,.ref d]/\gH nm/\H c=some (.lst (bs.map V.ref))/\Paired (WtAt H) W bs/\Fin C ws nm W H d a g h os e/\a.Nodup/\qF W/\(∀w∈W,wK ws a w)/\(∀o∈os,∀q,o=some q->∀vs,q.1=some vs->HDX vs)/\W.length<=100 ∧
 ∀f v b,BadIs W os f->jD b f v->Same H b->Q v b
def Bl(C:ZT):Sp:=λvs H Q E=>∃a nm,Mr C a nm vs H Q E
def Ms{C:ZT}(T:Txt K mg)(D:DefAt K mg "_law_due" Y0 Zc):aI P w K mg base 1 "_law_due" Zc (Bl C):=by
 refine D.gg b (λa5 cdv a6 outer a7 a0 vs a8 a9 hr h=>?_)
 ·obtain⟨ws,nm,A,B,W,bs,us,U,X,os,e,rfl,B8,gw,pw,r,V9,P0,nj,MN,hW,q⟩:=h;have j0:=cQ hr;have C0:=hr.units;refine⟨_,(kg (sn PassesOwn.never rfl (qe (K:=K) (jx 1)) (wn (K:=K) (n:=5) rfl (pv (mq (i:=3) b.nd) (pv (mq (i:=4) b.nd) (pv (mq (i:=5) b.nd) (pv (mq (i:=6) b.nd) (pv (mq (i:=7) b.nd) wp)))))) (kg (mi (i:=8) b.nd (R.jm j0 (mv (px (K:=K)) (u8 j0 (jx 2) (jx 5)) kt) (lv xz (lv xz (jx 0) (ub R.fm rfl T.b_str nU (jw (jx 3) jy))) (mv R.iS lf (jx 4))))) (kg (mo (ml pq (jx 7) lf) (li (mi (i:=9) b.nd (re R.fo (jx 8) tj))) (li (mo (ml pq (jx 7) lf) (li (mi (i:=9) b.nd (R.or (re R.fo (jx 8) tj) (R.ji (re (R.ir C0) (mj K 8) (jx 6)))))) (li (mi (i:=9) b.nd (re (R.iz C0) (jx 8) (mm (jw (jx 6) (jw (jx 7) jy))))))))) (li (mo (FM (v0 (jx 9))) (li (mn (mm (jw (jx 3) (jw (jx 4) jy))))) ms))))) (li (mn tj))),?_⟩;have DM:=pw.length;refine aN (λa f=>BadIs W os none/\Same a0 f) (λnx g=>?_) ?_
  ·refine⟨A,rfl,⟨_,YT gw⟩,bS (bB K A (bs.map V.ref)) (λi a f=>∃(Y Z o5 o6 o7 o8 J:Option V),a=[some (.str (tx nm)),some (.ref A),some (.ref B),Y,Z,o5,o6,o7,o8,J]/\(∀(k:Nat) w o,k<i->W[k]?=some w->os[k]?=some o->cM w o=true)/\Same a0 f) (λi a f ⟨_,_,_,_,_,_,_,_,_,s'⟩=>YT (s' _ _ gw))
    ⟨_,_,_,_,_,_,_,rfl,λk _ _ L=>ZO L (not_lt_zero _),λ_ _ e=>e⟩ ?_ ?_⟩
   ·rintro i v a c E ⟨Y,Z,o5,o6,o7,o8,J,rfl,F,l⟩;rw[dH]at E;cases G:bs[i]? with
    | none=>rw[G]at E;cases E
    | some a2=>
     rw[G]at E;cases E;obtain⟨yf,ea⟩:=Zgs.mp G;obtain⟨M,t,ga,gt⟩:=Paired.get' (j:=i) pw yf;rw[ea]at ga;have N:W[i]?=some W[i]:=bR M;have x:=nj _ (getElem_mem M);generalize W[i]=w at ga gt N x;have H:os[i]?=some (os[i]'(by rw[r.lo];exact M)):=bR _;generalize os[i]'(by rw[r.lo];exact M)=o at H;have MO:=r.same l;obtain⟨j,hj⟩:=getElem?_of_mem x.h;have O:=(Zgs.mp hj).1;have Q:U[j]?=some (U[j]'(by rw[r.lz];exact O)):=bR _;have W0:X[j]?=some (X[j]'(by rw[r.lx];exact O)):=bR _;generalize U[j]'(by rw[r.lz];exact O)=z at Q;generalize X[j]'(by rw[r.lx];exact O)=a1 at W0;have st:=MO.at_ j z a1 Q W0;have FW:DGet c B (.str w.h) (some (.ref z.s)):=by
      have:=DGet.k (k:=Sum.inr w.h) MO.dict;rw[sD V9 hj Q]at this;exact this
     obtain⟨d,e1,e2,I⟩:=MO.found P0 N hj W0 Q H;refine⟨a2,_,rfl,YU (l _ _ ga),rfl,_,_,rfl,_,_,rfl,_,_,rfl,_,_,rfl,_,_,rfl,rfl,?_⟩;dsimp only [aK];have QT:=iU x.n;have five:=B8.five;have e5:(bN w.n).length=(bN w.n).cps.toList.length:=by simp[Str.length]
     have ur:eP ("ab":Str).cps.toList (w.i:Int)=some (97+w.i):=by
      have:=x.i;rcases(by omega:w.i=0∨w.i=1) with e|e<;>rw[e]<;>decide +kernel
     have key:tx nm++Str.ofString (toString (w.n:Int))++tx [97+w.i]=tx (dL nm w.n w.i):=by
      show tx nm++bN w.n++tx [97+w.i]=_;rw[gE w.n,cF,cF];rfl
     have l2:("ab":Str).length=2:=by decide +kernel
     have l9:(tx nm++Str.ofString (toString (w.n:Int))).length<=11:=by
      show(tx nm++bN w.n).length<=11;rw[gE w.n,cF,aV,gJ];omega
     have AJ:=l _ _ gt;have FZ:HDX w.d.vs:=by obtain⟨na,wd,n,b0,hD,_⟩:=x.d.ex;exact⟨_,_,_,_,hD⟩
     have MP:∀q,d=some q->Eo c q.2.1 w.d.vs:=λq e p s=>⟨(e2 q e).2 p s,λj b1 v m u=>⟨(MN _ (cP H) _ (by rw[I,e];rfl) _ (by show Option.map _ q.2.1=_;rw[s];rfl)).flat m,FZ.flat u⟩⟩
     refine aN (λa f=>a=[some (.str (tx nm)),some (.ref A),some (.ref B),some (.int (w.n:Int)),some (.int (w.i:Int)),some (.str w.h),some (.ref t),some (.str w.w),some (zW d),J]/\f=c) (λnx g=>?_) ?_
     ·refine⟨B,_,rfl,FW,_,YT st.lst,_,rfl,z.d3,rfl,.inl ⟨_,Rd.of st.h3⟩,⟨Zo,Int.lt_of_le_of_lt (by have:=x.n;omega:(w.n:Int)<=999999) Zd⟩,cX (by show(tx nm).length+(bN w.n).length<=1000;rw[aV,e5];omega),cX (by rw[l2];omega),97+w.i,ur,cX (by have:(tx [97+w.i]).length=1:=aV _;omega),?_⟩;have dg:DGet c z.d3 (.str (tx nm++Str.ofString (toString (w.n:Int))++tx [97+w.i])) (aQ (dE a1.kv) (Sum.inr (uD nm w))):=by rw[key];exact DGet.k (k:=Sum.inr (uD nm w)) st.h3
      refine⟨_,dg,?_⟩;refine g _ _ ⟨?_,rfl⟩;rw[<- e1];rfl
     rintro _ a3 ⟨rfl,eG⟩;obtain rfl:c=a3:=eG.symm;refine aN (λa f=>a=[some (.str (tx nm)),some (.ref A),some (.ref B),some (.int (w.n:Int)),some (.int (w.i:Int)),some (.str w.h),some (.ref t),some (.str w.w),some (zW d),some (.bl (cM w o))]/\Same c f) (λnx g=>?_) ?_
     ·show if decide (w.w="none")=true then _ else if decide (w.w="any")=true then _ else _
      refine cG (λh=>?_) (λh=>cG (λh'=>?_) (λh'=>?_))
      ·refine g _ _ ⟨?_,λ_ _ e=>e⟩;have:cM w o=decide (zW d=V.non):=by
        unfold cM;rw[ZQ (ZY h),I]
        cases d with
        | none=>rfl
        | some q=>exact(ZV (λh=>nomatch h)).symm
       rw[this];rfl
      ·have S:cM w o=Hn o w.d.vs:=by
        unfold cM;rw[ZP (ZX h),ZQ (ZY h')]
       cases d with
       | none=>
        cases I;refine g _ _ ⟨?_,λ_ _ e=>e⟩;rw[S];rfl
       | some q=>
        cases I;obtain⟨s,_⟩:=e2 q rfl;refine⟨_,YU s,_,rfl,q.2.1,w.d.vs,rfl,MP q rfl,AJ,?_⟩;refine g _ _ ⟨?_,λ_ _ e=>e⟩;rw[S];show[_,_,_,_,_,_,_,_,_,some (V.bl (qI q.2.1 w.d.vs))]=[_,_,_,_,_,_,_,_,_,some (V.bl (sE (q.2.1.map (·.2)) w.d.vs))];rw[sG]
      ·have S:cM w o=Er d w.d.vs w.w:=by
        unfold cM;rw[ZP (ZX h),ZP (ZX h'),I]
        cases d with
        | none=>rfl
        | some q=>show(sE (q.2.1.map (·.2)) _&&_)=(qI _ _&&_);rw[sG]
       refine⟨aP rfl,λt' H2 y g2=>⟨d,t,w.d.vs,w.w,rfl,λq e=>⟨y _ _ (e2 q e).1,λp s=>⟨y _ _ (MP q e p s).1,(MP q e p s).2⟩⟩,g2,y _ _ AJ,?_⟩⟩;refine g _ _ ⟨?_,y⟩;rw[S];rfl
     rintro _ H2 ⟨rfl,y⟩;have W4:Same a0 H2:=λa4 v e=>y _ _ (l _ _ e)
     show if (!cM w o)=true then _ else _
     refine cG (λh=>?_) (λh=>?_)
     ·refine⟨aP rfl,λt' H3 s3 g3=>?_⟩;exact q (some (w.n,w.i)) _ H3 ⟨i,w,o,N,H,by simpa using h,rfl,λk' w' o' L=>F k' w' o' L⟩ ⟨t',rfl,g3⟩ (λa4 v e=>s3 _ _ (W4 _ _ e))
     ·refine⟨_,_,_,_,_,_,_,rfl,λk w' o' L m u=>?_,W4⟩;rcases lt_or_ge k i with z|z
      ·exact F k w' o' z m u
      ·have:k=i:=by omega
       subst this;rw[N]at m;cases m;rw[H]at u;cases u;simpa using h
   ·rintro a c ⟨Y,Z,o5,o6,o7,o8,J,rfl,F,l⟩;rw[bA,<- DM]at F;exact g _ _ ⟨λk w o m u=>F k w o (Zgs.mp m).1 m u,l⟩
  rintro a c ⟨G,l⟩;exact q none .non c G rfl l
structure HlAt(H:Hp)(hl:ZT)(us:List Str)(zs:List SA)(hs:List ZT):Prop where
 lst:H hl=some (.lst (hs.map V.ref))
 len:hs.length=us.length
 at_:∀(j:Nat) a u z,hs[j]?=some a->us[j]?=some u->zs[j]?=some z->H a=some (.tup [.str u,.ref z.p])
def HlAt.same{H b:Hp}{c:ZT}{us:List Str}{d:List SA}{e:List ZT}(h:HlAt H c us d e)(s:Same H b):HlAt b c us d e:=⟨s _ _ h.lst,h.len,λj a u z f g i=>s _ _ (h.at_ j a u z f g i)⟩
def mW(u k:Str):List aR:=[Sum.inr u,Sum.inr k]
def uF{u k c d:Str}(h:mW u k=mW c d):u=c/\k=d:=by
 unfold mW at h;injection h with b a
 injection a with a _
 injection b with b
 injection a with a
 exact⟨b,a⟩
structure EnG(H:Hp)(L:List (Str×EN))(kvs:List (List aR×V)):Prop where
 to_:∀q∈L,∃e,aQ kvs (mW q.1 q.2.key)=some (.ref e)/\H e=some (.tup [Bx q.2.dd,.str q.2.word])
 from_:∀u k v,aQ kvs (mW u k)=some v->∃q∈L,q.1=u/\q.2.key=k
 len:kvs.length<=L.length
def EnG.tk{H a:Hp}{L:List (Str×EN)}{kvs:List (List aR×V)}(h:EnG H L kvs)(tk:TK H a):EnG a L kvs:=⟨λq b=>by obtain⟨e,c,d⟩:=h.to_ q b;exact⟨e,c,tk _ _ d⟩,h.from_,h.len⟩
def EnG.put{H b:Hp}{L:List (Str×EN)}{kvs:List (List aR×V)}(h:EnG H L kvs)(tk:TK H b){u:Str}{y:EN}{e:ZT}(f:∀q∈L,¬ (q.1=u/\q.2.key=y.key))(g:b e=some (.tup [Bx y.dd,.str y.word])):EnG b (L++[(u,y)]) (bG kvs (mW u y.key) (.ref e)):=by
 refine⟨λq a=>?_,λd k v c=>?_,?_⟩
 ·rcases aF a with a|rfl
  ·obtain⟨i,j,l⟩:=h.to_ q a;refine⟨i,?_,tk _ _ l⟩;rw[cT,ZP (λz=>f q a (uF z)),j]
  ·exact⟨e,by rw[cT,ZQ rfl],g⟩
 ·rw[cT]at c;by_cases z:mW d k=mW u y.key
  ·obtain⟨m,n⟩:=uF z;exact⟨(u,y),ZL _ dI,m.symm,n.symm⟩
  ·rw[ZP z]at c;obtain⟨q,a,o⟩:=h.from_ d k v c;exact⟨q,ZM _ a,o⟩
 ·have:=bQ kvs (mW u y.key) (V.ref e);have:=h.len;rw[gJ];simp;omega
def kZ{en:List EN}(b:(en.map (·.key)).Nodup):(cV en).map (·.key)=jA (en.map (·.key)):=by
 have:∀l:List Str,(∀k∈l,k∈en.map (·.key))->(l.filterMap λk=>en.find? (λz=>decide (z.key=k))).map (·.key)=l:=λl=>by
  induction l with
  | nil=>exact λ_=>rfl
  | cons k l c=>
   intro h;obtain⟨z,d,rfl⟩:=Zmm.mp (h k dI);rw[ZH,hU b d];show z.key::_=_;rw[c λk a=>h k (jE _ a)]
 exact this _ λk a=>(dD _).mem_iff.mp a
def Bm{en:List EN}(a:(en.map (·.key)).Nodup):((cV en).map (·.key)).Nodup:=by
 rw[kZ a];exact(dD _).nodup_iff.mpr a
def Bn(us:List Str)(xs:List SS)(i:Nat):List (Str×EN):=((us.zip xs).take i).flatMap λq=>(cV q.2.en).map λy=>(q.1,y)
structure EnIs(H:Hp)(us:List Str)(xs:List SS)(kvs:List (List aR×V)):Prop where
 to_:∀(j:Nat) u x y,us[j]?=some u->xs[j]?=some x->y∈x.en->∃e,aQ kvs (mW u y.key)=some (.ref e)/\H e=some (.tup [Bx y.dd,.str y.word])
 from_:∀u k v,aQ kvs (mW u k)=some v->∃(j:Nat)(x:SS)(y:EN),us[j]?=some u/\xs[j]?=some x/\y∈x.en/\y.key=k
def EnIs.same{H a:Hp}{us:List Str}{xs:List SS}{kvs:List (List aR×V)}(h:EnIs H us xs kvs)(s:Same H a):EnIs a us xs kvs:=⟨λj u x y b c d=>by obtain⟨e,g1,g2⟩:=h.to_ j u x y b c d;exact⟨e,g1,s _ _ g2⟩,h.from_⟩
def EnG.is{H:Hp}{us:List Str}{xs:List SS}{kvs:List (List aR×V)}(h:EnG H (Bn us xs us.length) kvs)(t:xs.length=us.length)(d:∀x∈xs,(x.en.map (·.key)).Nodup):EnIs H us xs kvs:=by
 have e:(us.zip xs).take us.length=us.zip xs:=lO (by rw[List.length_zip];omega);refine⟨λj u x y c a f=>?_,λu k v g=>?_⟩
 ·have i:=cP a;have l:(us.zip xs)[j]?=some (u,x):=by rw[getElem?_zip_eq_some];exact⟨c,a⟩
  exact h.to_ (u,y) (by unfold Bn;rw[e];exact mem_flatMap.mpr ⟨(u,x),cP l,Zmm.mpr ⟨y,(iR (d x i)).mpr f,rfl⟩⟩)
 ·obtain⟨q,b,m,n⟩:=h.from_ u k v g;unfold Bn at b;rw[e]at b;obtain⟨p,o,b⟩:=mem_flatMap.mp b;obtain⟨y,r,rfl⟩:=Zmm.mp b;obtain⟨j,s⟩:=getElem?_of_mem o;obtain⟨c,a⟩:=getElem?_zip_eq_some.mp s;exact⟨j,p.2,y,by rw[c,<- m],a,(iR (d _ (cP a))).mp r,n⟩
def mY(C:ZT):Sp:=λvs H Q _=>∃(g:ZT)(a:List Str)(e:List SA)(h:List ZT)(b:List SS),vs=[.ref g]/\HlAt H g a e h/\e.length=a.length/\b.length=a.length/\a.Nodup/\a.length<=6/\(∀(j:Nat) z x,e[j]?=some z->b[j]?=some x->∃L,StAt C H z x L)/\(∀x∈b,x.en.length<64) ∧
 ∀d f c,H d=none->c d=some (.dT f)->EnIs c a b f->Same H c->Q (.ref d) c
def wM{en:List EN}(a:(en.map (·.key)).Nodup):(cV en).length=en.length:=by
 have:=congrArg length (kZ a);rw[bA,jN,bA]at this;exact this
def sI{C:ZT}(T:Txt K mg)(m9:gK P w K mg base 1 C "kept" ZD (jQ C))(D:DefAt K mg "entries_of" K9 ["houses"]):aI P w K mg base 2 "entries_of" ["houses"] (mY C):=by
 refine D.gg E (λa6 cdv a7 outer a8 a2 vs a9 b0 hr h=>?_)
 ·obtain⟨M,l,Q,hs,o,rfl,S,lz,lx,V9,xn,qi,qp,q⟩:=h;have j0:=cQ hr;refine⟨_,(kg (mi (i:=1) E.nd R.ii) (kg (sn PassesOwn.never rfl (qe (K:=K) (jx 0)) (wn (K:=K) (n:=2) rfl (pv (mq (i:=2) E.nd) (pv (mq (i:=3) E.nd) wp))) (li (sn PassesOwn.never rfl (qe (K:=K) (R.dw m9 hr (jx 3))) (wn (K:=K) (n:=3) rfl (pv (mq (i:=4) E.nd) (pv (mq (i:=5) E.nd) (pv (mq (i:=6) E.nd) wp)))) (li (qf (mm (jw (jx 5) (jw (jx 6) jy))) (qg (jx 1) (mm (jw (jx 2) (jw (jx 4) jy))) (ua j0))))))) (li (mn (jx 1))))),?_⟩;refine λd U=>?_;have ue:=S.len;have P0:∀x∈o,(x.en.map (·.key)).Nodup:=λx hx=>by
   obtain⟨j,g⟩:=getElem?_of_mem hx;have J8:=(Zgs.mp g).1;obtain⟨_,h⟩:=qi j (Q[j]'Zo) x (bR _) g;exact h.hs.nde
  dsimp only [aK];refine aN (λf b=>∃(F G s t A:Option V)(a:List (List aR×V)),f=[some (.ref M),some (.ref d),F,G,s,t,A]/\b d=some (.dT a)/\EnG b (Bn l o l.length) a/\Same a2 b) (λnx b7=>?_) ?_
  ·refine⟨M,rfl,⟨_,YT (aZ S.lst U)⟩,bS (bB K M (hs.map V.ref)) (λi f b=>∃(F G s t A:Option V)(a:List (List aR × V)),f=[some (.ref M),some (.ref d),F,G,s,t,A]/\b d=some (.dT a)/\EnG b (Bn l o i) a/\a.length<=64*i/\Same a2 b) (λi f b ⟨_,_,_,_,_,_,_,_,_,_,s'⟩=>YT (s' _ _ S.lst))
    ⟨_,_,_,_,_,[],rfl,aA,⟨(λ_ h=>nomatch h),(λ_ _ _ h=>nomatch h),bH _⟩,bH _,aH U⟩ ?_ ?_⟩
   ·rintro i v f H1 p ⟨F,G,s,t,A,a,rfl,H,I,lk,B⟩;rw[dH]at p;cases W:hs[i]? with
    | none=>rw[W]at p;cases p
    | some a3=>
     rw[W]at p;cases p;have hi:=(Zgs.mp W).1;have X:l[i]?=some (l[i]'Zo):=bR _;have si:Q[i]?=some (Q[i]'Zo):=bR _;have Y:o[i]?=some (o[i]'Zo):=bR _;generalize l[i]'Zo=u at X;generalize Q[i]'Zo=z at si;generalize o[i]'Zo=x at Y;have ga:=B _ _ (S.at_ i a3 u z W X si);obtain⟨a4,st⟩:=qi i z x si Y;replace st:=st.same B;have Z:=cP Y;refine⟨a3,_,rfl,YU ga,rfl,_,_,rfl,_,_,rfl,rfl,?_⟩;refine⟨z.a.dx,_,st.hs.hp,cR z.a Zk Zk Zk,z.p,z.a,x.am,_,x.en,a4,rfl,st.hs,qp x Z,λa1 bs H2 s2 fl gl pr=>⟨a1,rfl,⟨_,YT gl⟩,?_⟩⟩;have RA:=s2 _ _ H;have Vy:a1≠d:=(aB H fl).symm;have DM:=pr.length;have zi:(l.zip o)[i]?=some (u,x):=by rw[getElem?_zip_eq_some];exact⟨X,Y⟩
     have GA:Bn l o (i+1)=Bn l o i++(cV x.en).map λy=>(u,y):=by unfold Bn;rw[bC zi,flatMap_append,ZG,flatMap_nil,append_nil]
     have AK:=wM (P0 x Z);have Vz:=qp x Z;have far:∀q∈Bn l o i,q.1≠u:=λq r e=>by
      unfold Bn at r;obtain⟨a5,hp,r⟩:=mem_flatMap.mp r;obtain⟨y,_,rfl⟩:=Zmm.mp r;obtain⟨j,g⟩:=getElem?_of_mem hp;rw[List.getElem?_take]at g;split at g
      ·rename_i OW;obtain⟨J,_⟩:=getElem?_zip_eq_some.mp g;have e':a5.1=u:=e;rw[e']at J;have J8:=(Zgs.mp J).1;have:=(getElem?_inj J8 V9).mp (J.trans X.symm);omega
      ·cases g
     refine bS (bB K a1 (bs.map V.ref)) (λm f b=>∃(s t A:Option V)(a:List (List aR×V)),f=[some (.ref M),some (.ref d),some (.str u),some (.ref z.p),s,t,A]/\b d=some (.dT a)/\EnG b (Bn l o i++((cV x.en).take m).map λy=>(u,y)) a/\a.length<=64*i+m/\(∀c a0,H2 c=some a0->c≠d->b c=some a0)) (λm f b ⟨_,_,_,_,_,_,_,_,k'⟩=>YT (k' _ _ gl Vy))
      ⟨_,_,_,a,rfl,RA,by rw[List.take_zero,map_nil,append_nil];exact I.tk s2.tk,Zo,λ_ _ e _=>e⟩ ?_ ?_
     ·rintro m v f H3 p ⟨VA,LX,LY,N,rfl,MQ,IL,RB,k3⟩;rw[dH]at p;cases hc:bs[m]? with
      | none=>rw[hc]at p;cases p
      | some c=>
       rw[hc]at p;cases p;obtain⟨OS,ec⟩:=Zgs.mp hc;obtain⟨zw,hy⟩:=Paired.get' (j:=m) pr OS;rw[ec]at hy;have DN:(cV x.en)[m]?=some (cV x.en)[m]:=bR zw;generalize (cV x.en)[m]=y at hy DN;have gy:H3 c=some (.tup [.str y.key,Bx y.dd,.str y.word]):=k3 _ _ hy (bD hy RA nofun);refine⟨c,_,rfl,YU gy,rfl,_,_,rfl,_,_,rfl,_,_,rfl,rfl,?_⟩;refine⟨aP rfl,λO H4 s4 g4=>⟨aP rfl,λt5 H5 L g5=>?_⟩⟩;have DG:=L _ _ (s4 _ _ MQ);refine⟨d,_,rfl,DPut.t (k:=mW u y.key) DG g5 (fQ (m:=1000) Zo Zd),?_⟩;have AH:TK H3 (aJ H5 d (.dT (bG N (mW u y.key) (.ref O)))):=λc' B5 e=>by
        rw[aD (bD (L _ _ (s4 _ _ e)) DG nofun)];exact L _ _ (s4 _ _ e)
       have ge:(aJ H5 d (.dT (bG N (mW u y.key) (.ref O)))) O=some (.tup [Bx y.dd,.str y.word]):=by
        rw[aD (bD (L _ _ g4) DG nofun)];exact L _ _ g4
       have VB:=IL.put AH (u:=u) (y:=y) (e:=O) (λq r=>?_) ge
       ·refine⟨_,_,_,_,rfl,aA,?_,?_,λc' a0 e n=>by rw[aD n];exact L _ _ (s4 _ _ (k3 _ _ e n))⟩
        ·rw[bC DN,eF,<- append_assoc];exact VB
        ·have:=bQ N (mW u y.key) (V.ref O);omega
       ·rintro⟨z1,z2⟩;rcases Zma.mp r with r|r
        ·exact far q r z1
        ·obtain⟨y',kz,rfl⟩:=Zmm.mp r;obtain⟨j,g⟩:=getElem?_of_mem kz;rw[List.getElem?_take]at g;split at g
         ·rename_i XH;have J:((cV x.en).map (·.key))[j]?=some y.key:=by rw[dH,g];exact congrArg some z2
          have h2:((cV x.en).map (·.key))[m]?=some y.key:=by rw[dH,DN];rfl
          have:=(getElem?_inj (Zgs.mp J).1 (Bm (P0 x Z))).mp (J.trans h2.symm);omega
         ·cases g
     ·rintro f H3 ⟨VA,LX,LY,N,rfl,MQ,IL,RB,k3⟩;rw[bA,<- DM,lO (bH _),<- GA]at IL;rw[bA,<- DM]at RB;refine⟨_,_,_,_,_,N,rfl,MQ,IL,Zo,λc a0 e=>k3 _ _ (s2 _ _ (B _ _ e)) (aB e U)⟩
   ·rintro f H1 ⟨F,G,s,t,A,a,rfl,H,I,lk,B⟩;rw[bA,ue]at I;exact b7 _ _ ⟨_,_,_,_,_,a,rfl,H,I,B⟩
  rintro f H1 ⟨F,G,s,t,A,a,rfl,H,I,B⟩;exact q d a H1 U H (I.is lx P0) B
def Fy(x:Dd):List (Str×List V):=(cB x).map λq=>(q.1,q.2.vs)
def Mt(x:Dd):∃c,Ro x.wd x.vs c (Fy x):=by
 cases x with
 | add a m=>exact⟨_,"","",a,(m:Int),.add⟩
 | take a m=>exact⟨_,"","",a,(m:Int),.take⟩
 | move a b m=>exact⟨_,a,b,"",(m:Int),.move⟩
 | send h a m=>exact⟨_,h,"",a,(m:Int),.send⟩
 | fetch h a m=>exact⟨_,h,"",a,(m:Int),.fetch⟩
 | pass h g a m=>exact⟨_,h,g,a,(m:Int),.pass⟩
def Qt(asked:Bool)(x:Dd)(i:Nat)(o:Option An):List V:=
 if asked=false then [.non] else match o with
 | none=>[.non,.str "yes",.str "no",.str "undone"]
 | some (.no g)=>if i<eY g ((cB x).map (·.1)) then [.str "undone"] else if i=eY g ((cB x).map (·.1)) then [.str "no"] else [.non]
 | some _=>[.str "yes"]
def Tz:Option (ZT×An)->V|none=>.non|some q=>.ref q.1
def lA:Sp:=λvs H Q _=>∃(c:ZT)(x:Dd)(i:Nat)(asked:Bool)(o:Option (ZT×An))(d:List V),vs=[.ref c,.int (i:Int),.bl asked,Tz o]/\H c=some (.tup d)/\Paired (AskAt H) (Fy x) d/\(∀q,o=some q->∃(b:ZT)(e f:V),H q.1=some (.tup [.str "done",e,f,.ref b])/\H b=some (.tup q.2.vs)/\An.Of x q.2)/\x.far=true/\x.Ok ∧
 ∀t a,Same H a->a t=some (.tup (Qt asked x i (o.map (·.2))))->Q (.ref t) a
def oS(T:Txt K mg)(D:DefAt K mg "due_words" X Zb):aI P w K mg base 1 "due_words" Zb lA:=by
 refine D.gg I (λa1 cdv a2 outer a3 H vs Q a4 hr h=>?_)
 ·obtain⟨J,x,i,asked,o,L,rfl,M,O,Y,Z,W,q⟩:=h;refine⟨_,(kg (mo (FM (v0 (jx 2))) (li (mn (mm (jw tj jy)))) ms) (kg (mo (ml R.fo (jx 3) tj) (li (mn (mm (jw tj (jw lf (jw lf (jw lf jy))))))) ms) (kg (mi (i:=4) I.nd (mj K 3)) (kg (mo (ml R.ne (mj K 4) lf) (li (mn (mm (jw lf jy)))) ms) (kg (mi (i:=5) I.nd (tm (K:=K) PySem.F.plainAttrs_list PySem.F.slot_list_index PySem.F.type_list_index R.fg (ww rfl (js:=[none,none]) (N:=["house","there"]) (CompScope.by (aG X) ["asks","place","is_asked","done","answer","refused"] rfl rfl Zk) (gS (bY rfl (bY rfl fE))) (R.fj (K:=K) (jx 0)) (λa5 s₂ H₂ fp=>⟨(wn (K:=K) (n:=2) rfl (pv (mq (i:=0) (show(["house","there"]:List Str).Nodup by decide +kernel)) (pv (mq (i:=1) (show(["house","there"]:List Str).Nodup by decide +kernel)) wp))),AC,(jx 0)⟩)) (jw (mj K 4) jy))) (kg (mo (ml R.lt (jx 1) (jx 5)) (li (mn (mm (jw lf jy)))) ms) (li (mn (R.ju (ml pq (jx 1) (jx 5)) (mm (jw lf jy)) (mm (jw tj jy))))))))))),?_⟩
  cases asked with
  | false=>exact⟨aP rfl,λt b c g1=>q t b c g1⟩
  | true=>
  cases o with
  | none=>exact⟨aP rfl,λt b c g1=>q t b c g1⟩
  | some z=>
  obtain⟨a6,v1,v2,gz,k,C⟩:=Y z rfl;refine⟨_,YU gz,_,rfl,?_⟩;dsimp only [aK];have s:(∀g,z.2≠.no g)->∀t d,Same H d->d t=some (.tup [.str "yes"])->Q (.ref t) d:=λhn t d s' A=>q t d s' (by
   rw[A];obtain⟨z1,z2⟩:=z;cases z2 <;> first | rfl | exact ZO rfl (hn _))
  obtain⟨z1,a0⟩:=z
  cases a0 with
  | short m=>exact⟨_,YU k,_,rfl,aP rfl,λt b c g1=>s (λ_ e=>nomatch e) t b c g1⟩
  | full m=>exact⟨_,YU k,_,rfl,aP rfl,λt b c g1=>s (λ_ e=>nomatch e) t b c g1⟩
  | is1 m=>exact⟨_,YU k,_,rfl,aP rfl,λt b c g1=>s (λ_ e=>nomatch e) t b c g1⟩
  | is2 a7 m=>exact⟨_,YU k,_,rfl,aP rfl,λt b c g1=>s (λ_ e=>nomatch e) t b c g1⟩
  | ok=>exact⟨_,YU k,_,rfl,aP rfl,λt b c g1=>s (λ_ e=>nomatch e) t b c g1⟩
  | no g=>
   refine⟨_,YU k,_,rfl,?_⟩;dsimp only [eK];have lp:=hX x;have Q2:=O.length;have BX:(cB x).length=L.length:=by rw[<- Q2];unfold Fy;rw[bA]
   have el:(Fy x).map (·.1)=(cB x).map (·.1):=by unfold Fy;rw[map_map];rfl
   refine⟨J,rfl,⟨_,YU M⟩,bL (jM K J L) Zo (λj B d=>d=H/\B=(((cB x).map (·.1)).take j).map V.str) (λj B d ⟨u,e⟩=>⟨by rw[u];exact YU M,by rw[e,bA];exact List.length_take_le _ _⟩) ⟨rfl,rfl⟩ (?_) (?_)⟩
   ·rintro j v B d hv ⟨u,e⟩;subst u;obtain⟨nh,ea⟩:=Zgs.mp hv;obtain⟨X5,a,dd,S,h1,h2⟩:=Paired.get' (j:=j) O nh;rw[ea]at S;subst S;refine⟨a,_,rfl,YU h1,rfl,_,_,rfl,_,_,rfl,rfl,rfl,?_⟩;have ez:((cB x).map (·.1))[j]?=some (Fy x)[j].1:=by rw[<- el,dH,bR X5];rfl
    rw[bC ez,e,eF];rfl
   ·rintro B d ⟨u,e⟩;intro p hp;subst u;rw[<- BX,lO Zs]at e;subst e;have E:(aJ d p (.lst (((cB x).map (·.1)).map V.str))) p=some (.lst (((cB x).map (·.1)).map V.str)):=aA;have F:=aH (o:=.lst (((cB x).map (·.1)).map V.str)) hp;generalize aJ d p (.lst (((cB x).map (·.1)).map V.str))=H4 at E F;have U:g∈(cB x).map (·.1)/\((cB x).map (·.1)).Nodup:=by
     cases x with
     | send h a m=>rw[show g=h from C];exact⟨dI,by simp[cB]⟩
     | fetch h a m=>rw[show g=h from C];exact⟨dI,by simp[cB]⟩
     | pass h A a m=>
      have m4:h≠A:=W.2.2.2.1;rcases(show g=h∨g=A from C) with rfl|rfl<;>exact⟨by simp[cB],by simp[cB,m4]⟩
     | _=>cases Z
    refine⟨.inl ⟨rfl,_,YT E⟩,_,YU (F _ _ k),_,rfl,_,E,U.1,λj hj=>?_⟩;have ej:=oJ U.2 hj;dsimp only [aK];have G:∀t f,Same H4 f->f t=some (.tup (if i<j then [V.str "undone"] else if i=j then [.str "no"] else [.non]))->Q (.ref t) f:=λt f l r=>q t f (F.trans l) (by
     rw[r];show _=some (HO.tup (if i<eY g ((cB x).map (·.1)) then [V.str "undone"] else if i=eY g ((cB x).map (·.1)) then [V.str "no"] else [V.non]));rw[ej])
    show if decide ((i:Int)<(j:Int))=true then _ else _
    refine cG (λh=>?_) (λh=>?_)
    ·have h:=ZY h;exact⟨aP rfl,λt f l r=>G t f l (by rw[r,ZQ Zo])⟩
    ·have h:=ZX h;show if decide ((i:Int)=(j:Int))=true then _ else _
     refine cG (λy=>?_) (λy=>?_)
     ·have y:=ZY y;exact⟨aP rfl,λt f l r=>G t f l (by rw[r,ZP Zo,ZQ Zo])⟩
     ·have y:=ZX y;exact⟨aP rfl,λt f l r=>G t f l (by rw[r,ZP Zo,ZP Zo])⟩
def wN{c:List RX}(h:RX.Whole c){n t t':Nat}{y y':An}(h1:.done n t y∈c)(a:.done n t' y'∈c):y=y':=by
 induction h with
 | nil=>cases h1
 | snoc f b d=>
  rcases aF h1 with h1|h1
  ·rcases aF a with a|a
   ·exact d h1 a
   ·rw[<- a]at b;exact ZO h1 (b.2.1 _ _)
  ·rcases aF a with a|a
   ·rw[<- h1]at b;exact ZO a (b.2.1 _ _)
   ·rw[<- h1]at a;injection a with _ _ e;exact e.symm
def wO{a:List RX}(h:RX.Whole a){n:Nat}(h1:.asked n∈a):∃t p k d,RX.came n t p k d∈a/\d.far=true:=by
 induction h with
 | nil=>cases h1
 | snoc g e f=>
  rcases aF h1 with h1|h1
  ·obtain⟨t,p,k,d,b,c⟩:=f h1;exact⟨t,p,k,d,ZM _ b,c⟩
  ·rw[<- h1]at e;obtain⟨⟨t,p,k,d,b,c⟩,_⟩:=e;exact⟨t,p,k,d,ZM _ b,c⟩
def Bo{c:List RX}(h:RX.Whole c){n t:Nat}{y:An}(h1:.asked n∈c)(a:.done n t y∈c):y.early=false:=by
 induction h with
 | nil=>cases h1
 | snoc f b i=>
  rcases aF h1 with h1|h1
  ·rcases aF a with a|a
   ·exact i h1 a
   ·rw[<- a]at b;obtain⟨_,_,o,p,k,d,j,_,l⟩:=b;obtain⟨q,r,s,u,m,g⟩:=wO f h1;have:=iQ f j m;injection this with _ _ _ _ e
    rw[<- e]at g;exact(l g).mp h1
  ·rcases aF a with a|a
   ·rw[<- h1]at b;exact ZO a (b.2.2 _ _)
   ·rw[<- h1]at a;cases a
def sJ{a:List RX}{n:Nat}(h:oK "asked" a (Sum.inl (n:Int))=true):.asked n∈a:=by
 obtain⟨r,b,e⟩:=List.any_eq_true.mp h;rw[Bool.and_eq_true]at e;obtain⟨m,rfl⟩:=Az (ZY e.1);have:(Sum.inl (m:Int):aR)=Sum.inl (n:Int):=ZY e.2;injection this with this
 have:m=n:=by omega
 rw[<- this];exact b
def oT{b:List RX}{n:Nat}{y:An}(h:y∈gG b n):∃t,.done n t y∈b:=by
 obtain⟨c,d,a⟩:=mem_filterMap.mp h
 cases c with
 | done m e f=>
  have a:(if m=n then some f else none)=some y:=a;split at a
  ·rename_i g;cases a;subst g;exact⟨e,d⟩
  ·cases a
 | _=>cases a
def Bp{a:List RX}(h:RX.Whole a){n t:Nat}{y:An}(b:.done n t y∈a):(gG a n).head?=some y:=by
 have c:y∈gG a n:=mem_filterMap.mpr ⟨_,b,ZQ rfl⟩
 cases e:gG a n with
 | nil=>rw[e]at c;cases c
 | cons z l=>
  have d:z∈gG a n:=by rw[e];exact dI
  obtain⟨g,f⟩:=oT d;rw[wN h b f];rfl
def Fz{H:Hp}{u:ZT}{c:List RX}{f:List ZT}(x:RX.Whole c)(RR:RxsAt H u c f)(n:Nat):∃o:Option (ZT×An),(aQ (aM [] (cA "done" c f c.length)) (Sum.inl (n:Int))).getD .non=Tz o/\o.map (·.2)=(gG c n).head? ∧
  ∀q,o=some q->∃(b:ZT)(A B:V),H q.1=some (.tup [.str "done",A,B,.ref b])/\H b=some (.tup q.2.vs)/\∃t,.done n t q.2∈c:=by
 cases h:aQ (aM [] (cA "done" c f c.length)) (Sum.inl (n:Int)) with
 | none=>
  refine⟨none,rfl,?_,λ_ e=>nomatch e⟩
  cases e:gG c n with
  | nil=>rfl
  | cons z l=>
   have C:z∈gG c n:=by rw[e];exact dI
   obtain⟨D,E⟩:=oT C;obtain⟨j,M,a,k,_⟩:=kT RR.len E (wd:="done") rfl;rw[show dQ (.done n D z)=Sum.inl (n:Int) from rfl,h]at k;cases k
 | some v=>
  rcases eB h with g|g
  ·obtain⟨j,r,a,_,g1,g2,g3,F,rfl⟩:=hV g;obtain⟨m,t,y,rfl⟩:=tU g3;have:(Sum.inl (n:Int):aR)=Sum.inl (m:Int):=F;injection this with this
   have G:n=m:=by omega
   subst G;have p:=cP g1;obtain⟨N,O,d,Q,s,I⟩:=RR.get (i:=j) (v:=.ref a) (by rw[dH,g2];rfl);injection d with d
   subst d;rw[g1]at s;injection s with d
   subst d;obtain⟨b,J,L⟩:=I;refine⟨some (a,y),rfl,(Bp x p).symm,λq e=>?_⟩;cases e;exact⟨b,_,_,J,L,t,p⟩
  ·cases g
def fU(w:Str):List V:=if w="none" then [.non] else if w="any" then [.non,.str "yes",.str "no",.str "undone"] else [.str w]
def Bq{a:List RX}(h:RX.Whole a)(n:Nat)(x:Dd)(i:Nat):Qt (oK "asked" a (Sum.inl (n:Int))) x i (gG a n).head?=fU (dS a n x i):=by
 unfold dS;cases d:oK "asked" a (Sum.inl (n:Int)) with
 | false=>rw[ZP ZZ];exact(ZQ rfl).trans (ZQ rfl).symm
 | true=>
  rw[ZQ rfl];cases e:(gG a n).head? with
  | none=>
   show _=fU "any";unfold fU;rw[ZP Zk,ZQ rfl];rfl
  | some y=>
   have f:y∈gG a n:=List.mem_of_head? e;obtain⟨t,j⟩:=oT f;have c:=Bo h (sJ d) j;have b:fU "yes"=[.str "yes"]:=by unfold fU;rw[ZP Zk,ZP Zk]
   have no:fU "no"=[.str "no"]:=by unfold fU;rw[ZP Zk,ZP Zk]
   have un:fU "undone"=[.str "undone"]:=by unfold fU;rw[ZP Zk,ZP Zk]
   have nn:fU "none"=[.non]:=ZQ rfl
   cases y with
   | short m=>cases c
   | full m=>cases c
   | is1 m=>exact b.symm
   | is2 l m=>exact b.symm
   | ok=>exact b.symm
   | no g=>
    show(if i<eY g ((cB x).map (·.1)) then [V.str "undone"] else if i=eY g ((cB x).map (·.1)) then [V.str "no"] else [V.non])=fU (if i<eY g ((cB x).map (·.1)) then ("undone":Str) else if i=eY g ((cB x).map (·.1)) then ("no":Str) else ("none":Str));split
    ·exact un.symm
    ·split
     ·exact no.symm
     ·exact nn.symm
def cN:RX->Bool|.came _ _ _ _ _=>true|_=>false
def Br{c d:Type}{R:c->d->Prop}{xs a:List c}{ys b:List d}(h:Paired R xs ys)(h':Paired R a b):Paired R (xs++a) (ys++b):=by
 induction h with
 | nil=>exact h'
 | cons h t e=>exact .cons h e
theorem qG{b:List RX}{c:List ZT}(le:b.length=c.length):∀i,i<=b.length->Paired (λ(r:RX) (e:aR×V)=>cN r=true/\e.1=dQ r/\r∈b) ((b.take i).filter cN) (cA "came" b c i)
 | 0,_=>.nil
 | i+1,g=>by
  obtain⟨r,d⟩:∃r,b[i]?=some r:=⟨b[i],bR Zo⟩;obtain⟨a,f⟩:∃a,c[i]?=some a:=⟨c[i],bR Zo⟩;rw[dR d f,bC d,filter_append];refine Br (qG le i Zo) ?_;unfold dZ;by_cases h:dP r="came"
  ·rw[ZQ h];obtain⟨n,t,p,k,x,rfl⟩:=jO h;exact .cons ⟨rfl,rfl,cP d⟩ .nil
  ·rw[ZP h];have:cN r=false:=by cases r<;>first|rfl|exact ZO rfl h
   rw[filter_cons,this];exact .nil
theorem lB(b:List RX):∀a:List RX,a.flatMap (dU b)=(a.filter cN).flatMap (dU b)
 | []=>rfl
 | r::a=>by
  rw[ZG,lB b a,filter_cons];cases r<;>rfl
theorem uG{b c:Type}{f:b->List c}{r:b}{j:Nat}{w:c}(a:(f r)[j]?=some w):∀ {L:List b}{i:Nat},L[i]?=some r->(L.flatMap f)[((L.take i).flatMap f).length+j]?=some w
 | [],_,h=>by cases h
 | z::L,0,h=>by
  cases h;rw[ZG];show(f r++L.flatMap f)[0+j]?=some w;rw[zero_add,getElem?_append_left (Zgs.mp a).1,a]
 | z::L,i+1,h=>by
  have:=uG a (L:=L) (i:=i) h;rw[List.take_succ_cons,ZG,ZG,gJ,Nat.add_assoc,List.getElem?_append_right Zo,Nat.add_sub_cancel_left,this]
def Bs{a b:Type}{f:a->List b}{r:a}{L:List a}{i:Nat}(h:L[i]?=some r):((L.take (i+1)).flatMap f).length=((L.take i).flatMap f).length+(f r).length:=by
 rw[bC h,flatMap_append,gJ,ZG,flatMap_nil,append_nil]
def Ga(a b:Str):jG (.str a) [.str b]=decide (a=b):=by
 show((b==a)||false)=_;rw[Bool.or_false];by_cases e:a=b
 ·subst e;simp
 ·rw[ZV e];exact beq_eq_false_iff_ne.mpr (λz=>e z.symm)
def Fin.entry{C:ZT}{ws:List Str}{nm:List Nat}{W:List Wt}{H:Hp}{u:ZT}{us:List Str}{z:List SA}{xs:List SS}{os:List Oc}{e:Nat}(h:Fin C ws nm W H u us z xs os e)(X:qF W)(Y:us.Nodup){kvs:List (List aR×V)}(en:EnIs H us xs kvs){k:Nat}{w:Wt}(M:W[k]?=some w)(N:wK ws us w){o:Oc}(O:os[k]?=some o)(t:ZT)(gt:H t=some (.tup w.d.vs)) :
  ∃(E:Option ZT)(A:Option (ZT×List V))(B:V),aQ kvs (mW w.h (uD nm w))=E.map V.ref/\(∀a,E=some a->H a=some (.tup [No A,B]))/\(E=none->A=some (t,w.d.vs)/\B=.non)/\Eo H A w.d.vs/\bU B=true/\cM w o=(qI A w.d.vs&&jG B (fU w.w)):=by
 obtain⟨j,r⟩:=getElem?_of_mem N.h;have s:=(Zgs.mp r).1;have g:xs[j]?=some (xs[j]'(by rw[h.lx];exact s)):=bR _;have Q:z[j]?=some (z[j]'(by rw[h.lz];exact s)):=bR _;generalize xs[j]'(by rw[h.lx];exact s)=x at g;generalize z[j]'(by rw[h.lz];exact s)=a0 at Q;have F:=cP g;have R:=h.kv j _ x r g;have st:=h.at_ j a0 x Q g;have G:HDX w.d.vs:=by obtain⟨na,wd,n,a2,Z,_⟩:=N.d.ex;exact⟨_,_,_,_,Z⟩
 cases I:aQ kvs (mW w.h (uD nm w)) with
 | none=>
  have:o=none:=by
   cases o with
   | none=>rfl
   | some q=>
    obtain⟨b,J,i,_⟩:=R.to_ k w q M rfl O;obtain⟨y,m,f,_⟩:=h.back x F b J;obtain⟨e,p,_⟩:=en.to_ j _ x y r g m;rw[f,i,I]at p;cases p
  subst this;have S:cK w.d.vs w.d.vs:=λj a1 v i f=>⟨G.flat i,G.flat f⟩
  refine⟨none,some (t,w.d.vs),.non,rfl,(λ_ e=>nomatch e),λ_=>⟨rfl,rfl⟩,λq e=>by cases e;exact⟨gt,S⟩,rfl,?_⟩;show cM w none=(bV w.d.vs w.d.vs&&_);rw[gB S,Bool.true_and];unfold cM fU;by_cases c:w.w="none"
  ·rw[ZQ c,ZQ c];rfl
  ·rw[ZP c,ZP c];by_cases d:w.w="any"
   ·rw[ZQ d,ZQ d];rfl
   ·rw[ZP d,ZP d];rfl
 | some v=>
  obtain⟨j',x',y,i,f,m,p⟩:=en.from_ _ _ _ I;have ej:=(getElem?_inj s Y).mp (r.trans i.symm);subst ej;rw[g]at f;cases f;obtain⟨e,T,h5⟩:=en.to_ j _ x y r g m;rw[p,I]at T;cases T;have u:=h.said x F y m;obtain⟨b,J,L⟩:∃b∈x.kv,mO y b:=by
   rcases h.frn x F y m with l|l
   ·exact ZO p (l w.n w.i)
   ·exact l
  obtain⟨k',D,g1,_,g3,U⟩:=R.from_ b J;have qt:tx (dL nm D.n D.i)=tx (dL nm w.n w.i):=by
   rw[<- show b.key=tx (dL nm D.n D.i) from g3,<- L.1];exact p
  obtain⟨q1,q2⟩:=sB qt;have:=X _ _ _ _ g1 M q1 q2;subst this;rw[O]at U;cases U;have eo:Np b=(y.dd.map (·.2),y.word):=by
   show(b.dd.map (·.2),b.word)=_;rw[<- L.2.1,<- L.2.2]
  rw[eo];refine⟨some e,y.dd,.str y.word,rfl,λa ea=>?_,(λe=>nomatch e),λq e=>⟨(st.hs.ents y m).2 q.1 q.2 e,λj a1 v i f=>⟨(u.1 q e).flat i,G.flat f⟩⟩,rfl,?_⟩
  ·cases ea;rw[h5];cases y.dd<;>rfl
  ·rw[sG];unfold cM fU;by_cases c:w.w="none"
   ·rw[ZQ c,ZQ c];show false=(_&&false);rw[Bool.and_false]
   ·rw[ZP c,ZP c];by_cases d:w.w="any"
    ·rw[ZQ d,ZQ d];show sE _ _=(sE _ _&&_);have:jG (.str y.word) [.non,.str "yes",.str "no",.str "undone"]=true:=by
      rcases u.2 with l|⟨l|l,_⟩<;>rw[l]<;>decide +kernel
     rw[this,Bool.and_true]
    ·rw[ZP d,ZP d,Ga]
def uH(C:ZT)(ws:List Str)(nm:List Nat):Sp:=λvs H Q _=>∃(d f i:ZT)(a:List RX)(j:List ZT)(b:List Str)(g:List SA)(k:List ZT)(l:List SS)(os:List Oc)(e:Nat),vs=[.str (tx nm),.ref d,.ref f]/\gH nm/\RxsAt H d a j/\a.length<=30/\RX.Whole a/\(∀r∈a,r.Ok)/\HlAt H f b g k/\Fin C ws nm (cH a) H i b g l os e/\e<164/\b.Nodup/\b.length<=6/\qF (cH a)/\(∀w∈cH a,wK ws b w) ∧
 ∀h v c,BadIs (cH a) os h->jD c h v->Same H c->Q v c
def Bt{C:ZT}{ws:List Str}{nm:List Nat}(T:Txt K mg)(Y8:aI P w K mg base 2 "entries_of" ["houses"] (mY C))(A2:aI P w K mg base 1 "by_numbers" ["rows","word"] tZ)(sk:aI P w K mg base 1 "asks_of" ["deed"] Ky)(ll:aI P w K mg base 1 "due_words" Zb lA)(vh:aI P w K mg base 1 "key_of" Zm tY)(D:DefAt K mg "first_unlike" C9 Za):aI P w K mg base 3 "first_unlike" Za (uH C ws nm):=by
 refine D.gg l (λf cdv a6 outer a7 a3 vs a8 a9 p h=>?_)
 ·obtain⟨L,hl,sd,a,c,us,zs,hs,xs,os,e,rfl,B8,M,Y9,N,hok,ha,G,he,V9,xn,P0,nj,q⟩:=h;have j0:=cQ p;have C0:=p.units;have le:=M.len;refine⟨_,(kg (mi (i:=3) l.nd (mh Y8 p rfl (jw (jx 2) jy))) (kg (mi (i:=4) l.nd (mh A2 p rfl (jw (jx 1) (jw lf jy)))) (kg (mi (i:=5) l.nd (mh A2 p rfl (jw (jx 1) (jw lf jy)))) (kg (mi (i:=6) l.nd (mh A2 p rfl (jw (jx 1) (jw lf jy)))) (kg (sn PassesOwn.never rfl (R.wD (jx 6)) (mq (i:=7) l.nd) (kg (mi (i:=8) l.nd (mh sk p rfl (jw (mv (AT (K:=K)) (u8 j0 (jx 6) (jx 7)) kt) jy))) (li (sn PassesOwn.never rfl (R.ja (K:=K) rfl T.b_enumerate (jx 8)) (wn (K:=K) (n:=2) rfl (pv (mq (i:=9) l.nd) (pv (mq (i:=10) l.nd) wp))) (kg (mi (i:=11) l.nd (mh ll p rfl (jw (jx 8) (jw (jx 9) (jw (re (R.ip j0) (jx 7) (jx 4)) (jw (R.jm j0 (jx 5) (jx 7)) jy)))))) (kg (mi (i:=12) l.nd (IN j0 (jx 3) (mm (jw (mj K 10) (jw (mh vh p rfl (jw (jx 0) (jw (jx 7) (jw (jx 9) jy)))) jy))) (mm (jw (mj K 10) (jw tj jy))))) (li (mo (wx (R.dr (ml (R.iw C0) (mj K 12) (mj K 10)) (R.du (ml (R.jj (K:=K)) (mj K 12) (jx 11))))) (li (mn (mm (jw (jx 7) (jw (jx 9) jy))))) ms)))))))) (li (mn tj))))))),?_⟩;refine⟨hl,us,zs,hs,xs,rfl,ha,G.lz,G.lx,V9,xn,λj z x b d=>⟨_,G.at_ j z x b d⟩,λx hx=>fQ (G.len x hx) Zd,λed kvs H1 XJ VC VD s1=>?_⟩;refine⟨L,"asked",a,c,rfl,M.same s1,Zo,λak H2 XN VE s2=>?_⟩;refine⟨L,"done",a,c,rfl,(M.same s1).same s2,Zo,λdn H3 XQ VF s3=>?_⟩;refine⟨L,"came",a,c,rfl,((M.same s1).same s2).same s3,Zo,λs H4 VG gcd s4=>?_⟩;dsimp only [aK];refine aN (λg u=>BadIs (cH a) os none/\Same a3 u) (λnx b7=>?_) ?_
  ·refine⟨_,gcd,λo=>?_⟩;have em:=rV N le;have np:=qG le a.length (bH _);rw[lO (bH _)]at np;have VH:(a.filter cN).length=(cA "came" a c a.length).length:=np.length;have gF:(aJ H4 s (.frz o (.dK (aM [] (cA "came" a c a.length))))) s=some (.frz o (.dK (aM [] (cA "came" a c a.length)))):=aA;have kF:∀a0 v,H3 a0=some v->(aJ H4 s (.frz o (.dK (aM [] (cA "came" a c a.length))))) a0=some v:=λa0 v e=>by
    rw[aD (aB e VG)];exact s4 _ _ e
   generalize aJ H4 s (.frz o (.dK (aM [] (cA "came" a c a.length))))=HF at gF kF;have MS:Same H1 HF:=λa0 v e=>kF _ _ (s3 _ _ (s2 _ _ e))
   have sF:Same a3 HF:=λa0 v e=>MS _ _ (s1 _ _ e)
   have VI:=G.same sF;have VJ:=VD.same MS;have GB:=MS _ _ VC;have MT:=kF _ _ (s3 _ _ VE);have GC:=kF _ _ VF;have RF:=M.same sF;have eW:cH a=(a.filter cN).flatMap (dU a):=lB a a;refine bS (Ef s o (aM [] (cA "came" a c a.length))) (λi g u=>∃(o7 o8 O Q S U:Option V),g=[some (.str (tx nm)),some (.ref L),some (.ref hl),some (.ref ed),some (.ref ak),some (.ref dn),some (.ref s),o7,o8,O,Q,S,U]/\(∀(k:Nat) w o,k<(((a.filter cN).take i).flatMap (dU a)).length->(cH a)[k]?=some w->os[k]?=some o->cM w o=true)/\Same HF u) (λi g u ⟨_,_,_,_,_,_,_,_,s'⟩=>s' _ _ gF)
    ⟨_,_,_,_,_,_,rfl,λk _ _ B=>ZO B (not_lt_zero _),λ_ _ e=>e⟩ ?_ ?_
   ·rintro i v g H5 y ⟨o7,o8,O,Q,S,U,rfl,hg,A⟩;rw[dH,em]at y;cases FQ:(cA "came" a c a.length)[i]? with
    | none=>rw[FQ]at y;cases y
    | some kv=>
     rw[FQ]at y;injection y with y
     subst y;obtain⟨hi,ei⟩:=Zgs.mp FQ;obtain⟨CV,RC,xw,IM⟩:=Paired.get' (j:=i) np hi;rw[ei]at xw;have MU:(a.filter cN)[i]?=some (a.filter cN)[i]:=bR CV;generalize (a.filter cN)[i]=r at RC xw IM MU;cases r with
     | came n t a4 k x=>
      dsimp only;rw[xw];have R5:=RF.same A;obtain⟨ca,cb,ct,VL,VM,VN⟩:=Fu N R5 IM;have BQ:x.Ok:=(hok _ IM).2.2.2.2.2;have VO:DGet H5 s (.int (n:Int)) (some (.ref ca)):=.inl ⟨_,Sum.inl (n:Int),.inr ⟨o,A _ _ gF⟩,rfl,VL.symm⟩;obtain⟨cs,MV⟩:=Mt x;refine⟨s,_,rfl,VO,_,YU VM,_,rfl,cb,x.wd,x.vs,cs,Fy x,rfl,VN,MV,λta RD H6 s6 g6 pa=>?_⟩;dsimp only [aK];have Q2:=pa.length;have BX:(cB x).length=RD.length:=by rw[<- Q2];unfold Fy;rw[bA]
      have eq1:dU a (.came n t a4 k x)=kW a n x 0 (cB x):=rfl;refine⟨_,YU g6,vY (λj g u=>∃(O Q S U:Option V),g=[some (.str (tx nm)),some (.ref L),some (.ref hl),some (.ref ed),some (.ref ak),some (.ref dn),some (.ref s),some (.int (n:Int)),some (.ref ta),O,Q,S,U]/\(∀(k:Nat) w o,k<(((a.filter cN).take i).flatMap (dU a)).length+j->(cH a)[k]?=some w->os[k]?=some o->cM w o=true)/\Same H6 u) (λj g u ⟨_,_,_,_,_,_,s'⟩=>YU (s' _ _ g6))
       ⟨_,_,_,_,rfl,hg,λ_ _ e=>e⟩ ?_ ?_⟩
      ·rintro j v g H7 t7 y ⟨GD,vi,MW,MX,rfl,IP,s7⟩ VP;obtain⟨nh,ea⟩:=Zgs.mp y;obtain⟨X5,aa,da,h0,b,d⟩:=Paired.get' (j:=j) pa nh;rw[ea]at h0;subst h0;have FL:j<(cB x).length:=by omega
       have VQ:(Fy x)[j]=((cB x)[j].1,(cB x)[j].2.vs):=getElem_map (λq:Str×Dd=>(q.1,q.2.vs));rw[VQ]at b d;have RE:(cB x)[j]?=some (cB x)[j]:=bR FL;have MY:=oM a n x (cB x) 0 j _ RE;rw[zero_add]at MY;generalize (cB x)[j]=m at b d RE MY;have H:=uG (f:=dU a) (r:=.came n t a4 k x) (j:=j) MY MU;rw[<- eW]at H;have VR:=(Zgs.mp H).1;have oj:x.far=true:=by
        cases x with
        | send h a1 a5=>rfl
        | fetch h a1 a5=>rfl
        | pass h b0 a1 a5=>rfl
        | _=>exact ZO FL (not_lt_zero _)
       obtain⟨ow,how⟩:∃ow,os[(((a.filter cN).take i).flatMap (dU a)).length+j]?=some ow:=⟨_,bR (by rw[G.lo];exact VR)⟩;have S8:=nj _ (cP H);have s8:=aH (o:=.tup [.int (j:Int),.ref aa]) VP;refine⟨t7,_,rfl,YU aA,rfl,_,_,rfl,_,_,rfl,rfl,?_⟩;dsimp only [aK];generalize aJ H7 t7 (.tup [.int (j:Int),.ref aa])=I at s8 ⊢;have AM:Same H6 I:=s7.trans s8;have W:Same HF I:=A.trans (s6.trans AM);have R8:=RF.same W;have VS:DGet I ak (.int (n:Int)) (aQ (aM [] (cA "asked" a c a.length)) (Sum.inl (n:Int))):=DGet.k (k:=Sum.inl (n:Int)) (W _ _ MT);have VT:DGet I dn (.int (n:Int)) (aQ (aM [] (cA "done" a c a.length)) (Sum.inl (n:Int))):=DGet.k (k:=Sum.inl (n:Int)) (W _ _ GC);obtain⟨od,VU,VW,VX⟩:=Fz N R8 n;have MR:∀q,od=some q->∃(a2:ZT)(v1 v2:V),I q.1=some (.tup [.str "done",v1,v2,.ref a2])/\I a2=some (.tup q.2.vs)/\An.Of x q.2:=λq e=>by
        obtain⟨a2,v1,v2,g1,g2,t',g3⟩:=VX q e;exact⟨a2,v1,v2,g1,g2,uB N IM g3⟩
       refine⟨_,VS,dn,rfl,.inl ⟨_,Rd.of (W _ _ GC)⟩,_,VT,ta,x,j,oK "asked" a (Sum.inl (n:Int)),od,RD,?_,AM _ _ g6,Paired.map' (λ_ _ h=>h.same AM) pa,MR,oj,BQ,λtd H9 s9 g9=>?_⟩
       ·rw[VU,<- wH le];rfl
       rw[VW,Bq N]at g9;dsimp only [aK];have RG:Same HF H9:=W.trans s9;have xp:Same H6 H9:=AM.trans s9;refine⟨ed,rfl,.inr ⟨_,Rd.of (RG _ _ GB)⟩,_,YU (xp _ _ b),_,rfl,nm,n,j,rfl,by have:=B8.five;omega,S8.n,S8.i,aP rfl,λtk xq RH VY=>⟨_,YU (RH _ _ (xp _ _ b)),_,rfl,aP rfl,λRI E lq VZ=>?_⟩⟩;have BY:Same H9 E:=RH.trans lq;have yu:Same HF E:=RG.trans BY;have yw:Same H6 E:=xp.trans BY;have RJ:DGet E ed (.ref tk) (aQ kvs (mW m.1 (tx (dL nm n j)))):=DGet.t (k:=mW m.1 (tx (dL nm n j))) (yu _ _ GB) (lq _ _ VY);obtain⟨ev,J,wv,f1,f2,f3,f4,f5,X⟩:=(VI.same yu).entry P0 V9 (VJ.same yu) H S8 how da (yw _ _ d);have f1:aQ kvs (mW m.1 (tx (dL nm n j)))=ev.map V.ref:=f1;rw[f1]at RJ;obtain⟨e0,Wa,RK⟩:∃e0,(ev.map V.ref).getD (.ref RI)=.ref e0/\E e0=some (.tup [No J,wv]):=by
        cases ev with
        | none=>
         obtain⟨z1,z2⟩:=f3 rfl;subst z1;subst z2;exact⟨RI,rfl,VZ⟩
        | some a1=>exact⟨a1,rfl,f2 a1 rfl⟩
       refine⟨_,RJ,?_⟩;dsimp only [aK];rw[Wa];generalize RL:cM ⟨n,j,m.1,m.2,dS a n x j⟩ ow=gw at X;have X:gw=(qI J m.2.vs&&jG wv (fU (dS a n x j))):=X;have sH:Same a3 E:=sF.trans yu;refine kN (λv u=>v=(!gw)/\Same E u) (λkk Q3=>?_) ?_ ?_
       ·refine⟨_,YU RK,_,rfl,_,YU (yw _ _ b),_,rfl,J,m.2.vs,rfl,f4,yw _ _ d,?_⟩;show if (!qI J m.2.vs)=true then _ else _
        refine cG (λh=>?_) (λh=>?_)
        ·refine Q3 _ _ ⟨?_,λ_ _ e=>e⟩;rw[X];have:qI J m.2.vs=false:=by simpa using h
         rw[this];rfl
        ·refine⟨_,YU RK,_,rfl,td,_,rfl,.inr (YU (BY _ _ g9)),f5,?_,?_⟩
         ·unfold fU;split
          ·rfl
          ·split<;>rfl
         ·refine Q3 _ _ ⟨?_,λ_ _ e=>e⟩;rw[X];have:qI J m.2.vs=true:=by simpa using h
          rw[this,Bool.true_and];rfl
       ·rintro sm ⟨vc,W4⟩;refine⟨aP rfl,λt' MZ ly NA=>?_⟩;exact q (some (n,j)) _ MZ ⟨_,_,ow,H,how,by rw[RL];simpa using vc.symm,rfl,λF Y Z B=>IP F Y Z B⟩ ⟨t',rfl,NA⟩ (sH.trans (W4.trans ly))
       ·rintro sm ⟨vc,W4⟩;refine⟨_,_,_,_,rfl,λF Y Z B b d=>?_,yw.trans W4⟩;rcases lt_or_ge F ((((a.filter cN).take i).flatMap (dU a)).length+j) with z|z
        ·exact IP F Y Z z b d
        ·have:F=(((a.filter cN).take i).flatMap (dU a)).length+j:=by omega
         subst this;rw[H]at b;cases b;rw[how]at d;cases d;rw[RL];simpa using vc.symm
      ·rintro g H7 ⟨GD,vi,MW,MX,rfl,IP,s7⟩;refine⟨_,_,_,_,_,_,rfl,λF Y Z B=>IP F Y Z ?_,A.trans (s6.trans s7)⟩;rw[Bs MU,eq1,hZ,BX]at B;exact B
     | _=>cases RC
   ·rintro g H5 ⟨o7,o8,O,Q,S,U,rfl,hg,A⟩;rw[bA,em,<- VH,lO (bH _),<- eW]at hg;exact b7 _ _ ⟨λk w o b d=>hg k w o (Zgs.mp b).1 b d,sF.trans A⟩
  rintro g H5 ⟨hb,A⟩;exact q none .non H5 hb rfl A
theorem Rep.up{H:Hp}:∀ {n:Nat}{t:TV}{x:V},Rep H n t x->Rep H (n+1) t x
 | 0,.sc v,x,h=>h
 | n+1,.sc v,x,h=>h
 | n+1,.tp c,x,⟨a,b,e,g,p⟩=>⟨a,b,e,g,Paired.map' (λ_ _=>Rep.up) p⟩
 | n+1,.ls c,x,⟨a,b,e,g,p⟩=>⟨a,b,e,g,Paired.map' (λ_ _=>Rep.up) p⟩
def Mu(z:EN):TV:=.tp [.sc (.str z.key),dT z.dd,.sc (.str z.word)]
def Tl(x:SS):TV:=.tp [zL (rS (x.am.map (·.1)) (aX x.am)),.ls ((cV x.en).map Mu)]
def Mv{c d e:Type}{R:c->d->Prop}{S:e->d->Prop}{f:c->e}(h:∀a b,R a b->S (f a) b){xs:List c}{ys:List d}(p:Paired R xs ys):Paired S (xs.map f) ys:=by
 induction p with
 | nil=>exact .nil
 | cons r t g=>exact .cons (h _ _ r) g
def Gb{c d e:Type}{R:c->d->Prop}{S:c->e->Prop}{f:d->e}(h:∀a b,R a b->S a (f b)){xs:List c}{ys:List d}(p:Paired R xs ys):Paired S xs (ys.map f):=by
 induction p with
 | nil=>exact .nil
 | cons r t g=>exact .cons (h _ _ r) g
def Mw{c d:Type}{R S:c->d->Prop}{xs:List c}{ys:List d}(h:∀a b,a∈xs->R a b->S a b)(p:Paired R xs ys):Paired S xs ys:=by
 induction p with
 | nil=>exact .nil
 | cons r t e=>exact .cons (h _ _ dI r) (e λa b f=>h a b (jE _ f))
def Mx{H:Hp}{z:EN}{a:ZT}(h:Fq H z a)(b:∀d xs,z.dd=some (d,xs)->H d=some (.tup xs))(c:∀d xs,z.dd=some (d,xs)->∀y∈xs,fY y=true):Rep H 2 (Mu z) (.ref a):=
 ⟨a,_,rfl,h,.cons (Rep.scal rfl) (.cons (Mn b c) (.cons (Rep.scal rfl) .nil))⟩
def HDX.sc{xs:List V}(h:HDX xs):∀y∈xs,fY y=true:=by
 obtain⟨a,b,c,rfl⟩:=h.shape;intro y d;simp only [mem_cons,ZJ,or_false]at d;rcases d with rfl|rfl|rfl<;>rfl
def Ho(a:List RX)(xs:List SS):TV:=.tp [.ls (a.map RX.tv),.ls (xs.map Tl)]
def mZ{C:ZT}{ws:List Str}{nm:List Nat}{W:List Wt}{H:Hp}{M r:ZT}{us:List Str}{g:List SA}{s:List ZT}{xs:List SS}{os:List Oc}{e:Nat}(d:Fin C ws nm W H M us g xs os e)(t:HlAt H r us g s)(he:e<164)(xn:us.length<=6)(N:ws.length<=6){σ:St}{R:List V->Hp->Prop}(a0:∀ys c,Paired (Rep c 4) (xs.map Tl) ys->Same H c->R ys c) :
  lX [none,none] (wZ K 2 (oY (aK 0) (oY (aK 1) Ch))) tF (tO (dA (mF C "rows" (oI C) (vr 1) fR) (dA (mF C "kept" (jQ C) (vr 1) fR) fR))) σ (Oh K r) H R:=by
 have O:=t.len;have Wb:=d.lz;have Q:=d.lx;refine bL (bB K r (s.map V.ref)) (by rw[bA];omega) (λi ys c=>Paired (Rep c 4) ((xs.take i).map Tl) ys/\ys.length<=i/\Same H c) (λi ys c ⟨_,n,T⟩=>⟨YT (T _ _ t.lst),n⟩) ⟨.nil,bH _,λ_ _ e=>e⟩ (?_) (?_)
 ·rintro i v ys E j ⟨o,n,k⟩;rw[dH]at j;cases p:s[i]? with
  | none=>rw[p]at j;cases j
  | some a=>
   rw[p]at j;cases j;have hi:=(Zgs.mp p).1;have F:us[i]?=some (us[i]'Zo):=bR _;have u:g[i]?=some (g[i]'Zo):=bR _;have q:xs[i]?=some (xs[i]'Zo):=bR _;generalize us[i]'Zo=a1 at F;generalize g[i]'Zo=z at u;generalize xs[i]'Zo=x at q;have U:=k _ _ (t.at_ i a a1 z p F u);have A:=cP q;have st:=(d.at_ i z x u q).same k;have IQ:=jR st.hs.nda (d.sub x A) N;have QG:=d.len x A;refine⟨a,_,rfl,YU U,rfl,_,_,rfl,_,_,rfl,rfl,?_⟩;refine⟨z.a.dx,_,st.hs.hp,cR z.a Zk Zk Zk,z.p,z.a,x.am,_,x.en,340+e,rfl,st.hs,Zo,λX z2 H2 G f2 g2 Y Z=>?_⟩;have B:=st.same G;refine⟨z.a.dx,_,B.hs.hp,cR z.a Zk Zk Zk,z.p,z.a,x.am,_,x.en,340+e,rfl,B.hs,Zo,λI bs H3 D f3 g3 We=>⟨aP rfl,λt4 l m g4=>?_⟩⟩;have r2:Rep l 3 (zL (rS (x.am.map (·.1)) (aX x.am))) (.ref X):=by
    have:=Rep.same (D.trans m) (Rep.up (zM g2 Y));rw[Z]at this;exact this
   have ym:=B.same (D.trans m);have r3:Rep l 3 (.ls ((cV x.en).map Mu)) (.ref I):=by
    refine⟨I,_,rfl,m _ _ g3,Mv (R:=λy v=>Rep l 2 (Mu y) v) (f:=Mu) (λ_ _ x=>x) (Gb (R:=λy b=>Rep l 2 (Mu y) (.ref b)) (S:=λy v=>Rep l 2 (Mu y) v) (f:=V.ref) (λ_ _ x=>x) (Mw (R:=Fq H3) (λy b hy h=>?_) We))⟩;have J:=(iR st.hs.nde).mp hy;exact Mx (m _ _ h) (ym.hs.ents y J).2 (λa2 ys e=>((d.said x A y J).1 (a2,ys) e).sc)
   have L:=(G.trans D).trans m;refine⟨?_,by rw[gJ];exact Nat.succ_le_succ n,k.trans L⟩;rw[bC q,eF];exact Br (Paired.map' (λ_ _ h=>h.same L) o) (.cons ⟨t4,_,rfl,g4,.cons r2 (.cons r3 .nil)⟩ .nil)
 ·rintro ys E ⟨o,n,k⟩;rw[bA,O,<- Q,lO (bH _)]at o;exact a0 ys E o k
def Mz(C:ZT)(ws:List Str)(nm:List Nat):Sp:=λvs H Q _=>∃(d f i:ZT)(a:List RX)(j:List ZT)(b:List Str)(g:List SA)(k:List ZT)(l:List SS)(os:List Oc)(e:Nat),vs=[.str (tx nm),.ref d,.ref f]/\gH nm/\RxsAt H d a j/\a.length<=30/\RX.Whole a/\(∀r∈a,r.Ok)/\HlAt H f b g k/\Fin C ws nm (cH a) H i b g l os e/\e<164/\b.Nodup/\b.length<=6/\ws.length<=6/\qF (cH a)/\(∀w∈cH a,wK ws b w) ∧
 ∀h v c,BadIs (cH a) os h->jD c h v->Same H c->Q v c
def uI(C:ZT):Sp:=λvs H Q E=>∃a nm,Mz C a nm vs H Q E
def Gc{C:ZT}(T:Txt K mg)(yx:∀ws nm,aI P w K mg base 3 "first_unlike" Za (uH C ws nm))(Z:gK P w K mg base 1 C "rows" ZD (oI C))(m9:gK P w K mg base 1 C "kept" ZD (jQ C))(D:DefAt K mg "_law_told" A3 YZ):aI P w K mg base 4 "_law_told" YZ (uI C):=by
 refine D.gg M (λa4 cdv a5 outer a6 a0 vs a7 a8 q h=>?_)
 ·obtain⟨ws,nm,u,m,sd,I,x,us,zs,hs,O,os,e,rfl,B8,J,Y9,qv,hok,r,y,Q,V9,S,rl,P0,nj,a1⟩:=h;have C0:=q.units;have T2:=yx ws nm;have ue:=r.len;have Wb:=y.lz;have RM:=y.lx;refine⟨_,(kg (mi (i:=3) M.nd (mm (jw (ub (R.jb (K:=K)) rfl T.b_list tK (jw (jx 1) jy)) (jw (ww rfl (js:=[none,none]) (N:=ZA) (CompScope.by (aG A3) YW rfl rfl Zk) (gS (bY rfl (bY rfl fE))) (qe (K:=K) (jx 2)) (λC s₂ H₂ fp=>⟨(wn (K:=K) (n:=2) rfl (pv (mq (i:=0) (show(ZA:List Str).Nodup by decide +kernel)) (pv (mq (i:=1) (show(ZA:List Str).Nodup by decide +kernel)) wp))),AC,(mm (jw (R.dw Z q (jx 1)) (jw (R.dw m9 q (jx 1)) jy)))⟩)) jy)))) (kg (mi (i:=4) M.nd (mh T2 q rfl (jw (jx 0) (jw (jx 1) (jw (jx 2) jy))))) (kg (mo (ml (R.dy C0) (mm (jw (jx 1) (jw (ww rfl (js:=[none,none]) (N:=ZA) (CompScope.by (aG A3) YW rfl rfl Zk) (gS (bY rfl (bY rfl fE))) (qe (K:=K) (jx 2)) (λC s₂ H₂ fp=>⟨(wn (K:=K) (n:=2) rfl (pv (mq (i:=0) (show(ZA:List Str).Nodup by decide +kernel)) (pv (mq (i:=1) (show(ZA:List Str).Nodup by decide +kernel)) wp))),AC,(mm (jw (R.dw Z q (jx 1)) (jw (R.dw m9 q (jx 1)) jy)))⟩)) jy))) (jx 3)) (li (mn kt)) ms) (kg (mo (ml R.fo (jx 4) tj) (li (mn tj)) ms) (kg (mo (wx (R.dr (FM (v0 (R.ic .tup (jx 4) rfl T.b_isinstance rfl T.b_tuple yS))) (R.du (ml R.ne (qd (ut (K:=K)) rfl T.b_len cC (jw (jx 4) jy)) kt)))) (li (mn kt)) ms) (kg (sn PassesOwn.never rfl (R.fj (K:=K) (jx 4)) (mq (i:=5) M.nd) (li (mo (wx (R.dr (v0 (R.ic .bl (jx 5) rfl T.b_isinstance rfl T.b_bool Dx)) (R.du (FM (v0 (R.ic .int (jx 5) rfl T.b_isinstance rfl T.b_int iH)))))) (li (mn kt)) ms))) (li (mn (jx 4))))))))),?_⟩;refine aN (λd b=>∃g:ZT,d=[some (.str (tx nm)),some (.ref u),some (.ref m),some (.ref g),none,none]/\Rep b 6 (Ho I O) (.ref g)/\Same a0 b) (λnx A=>?_) ?_
  ·refine⟨_,.inl (YT J.lst),λU RN=>⟨m,rfl,⟨_,YT (aZ r.lst RN)⟩,?_⟩⟩;have j:=aH (o:=.lst (x.map V.ref)) RN;have g1:(aJ a0 U (.lst (x.map V.ref))) U=some (.lst (x.map V.ref)):=aA;refine mZ (y.same j) (r.same j) Q S rl (λB W p2 L l3 Wf=>⟨aP rfl,λg H4 s g4=>?_⟩);have k:=aH (o:=.lst B) Wf;have t:=(L.trans k).trans s;have R4:RxsAt H4 U I x:=⟨t _ _ g1,Paired.map' (λ_ _ h=>h.tk (j.trans t).tk) J.each⟩;exact A _ _ ⟨g,rfl,⟨g,_,rfl,g4,.cons (Rep.up (Rep.up R4.rep)) (.cons ⟨l3,B,rfl,s _ _ aA,Paired.map' (λ_ _ h=>h.same (k.trans s)) p2⟩ .nil)⟩,j.trans t⟩
  rintro _ H1 ⟨g,rfl,rk,j⟩;refine⟨u,m,sd,I,x,us,zs,hs,O,os,e,rfl,B8,J.same j,Y9,qv,hok,r.same j,y.same j,Q,V9,S,P0,nj,λbd v W hb f L=>?_⟩;have E:=j.trans L;dsimp only [aK];refine aN (λd b=>d=[some (.str (tx nm)),some (.ref u),some (.ref m),some (.ref g),some v,none]/\Same W b) (λnx A=>?_) ?_
  ·refine kN (λa3 b=>a3=false/\Same W b) (λkk F=>?_) ?_ ?_
   ·refine⟨m,rfl,⟨_,YT (E _ _ r.lst)⟩,mZ (y.same E) (r.same E) Q S rl (λB c p3 k l4 LV=>⟨aP rfl,λkq H5 X g5=>?_⟩)⟩;have s:=aH (o:=.lst B) LV;have Y:=(k.trans s).trans X;refine⟨6,Ho I O,Zd,⟨kq,_,rfl,g5,.cons (Rep.up (Rep.up (J.same (E.trans Y)).rep)) (.cons ⟨l4,B,rfl,X _ _ aA,Paired.map' (λ_ _ h=>h.same (s.trans X)) p3⟩ .nil)⟩,rk.same (L.trans Y),?_⟩;exact F _ _ ⟨rfl,Y⟩
   ·rintro c ⟨e3,_⟩;cases e3
   ·rintro c ⟨_,k⟩;exact A _ _ ⟨rfl,k⟩
  rintro _ c ⟨rfl,k⟩;have t:=E.trans k
  cases bd with
  | none=>
   cases(show v=.non from f);exact a1 none .non c hb rfl t
  | some z=>
   obtain⟨a,ev,ga⟩:=f;subst ev;have H:=k _ _ ga;refine gA (λv b=>v=false/\b=c) (λkk F=>F _ _ ⟨ZV (λh=>nomatch h),rfl⟩) (λb ⟨e,_⟩=>nomatch e) ?_;rintro G ⟨_,l⟩;obtain rfl:c=G:=l.symm;dsimp only [eK];refine gA (λv b=>v=false/\b=c) (λkk F=>⟨.tup,⟨_,H⟩,_,.inr (YU H),F _ _ ⟨rfl,rfl⟩⟩) (λb ⟨e,_⟩=>nomatch e) ?_;rintro G ⟨_,l⟩;obtain rfl:c=G:=l.symm;dsimp only [eK];refine aN (λd b=>∃p,d=[some (.str (tx nm)),some (.ref u),some (.ref m),some (.ref g),some (.ref a),p]/\b=c) (λnx A=>?_) ?_
   ·refine⟨a,rfl,⟨_,YU H⟩,bS (jM K a [.int (z.1:Int),.int (z.2:Int)]) (λi d b=>∃p,d=[some (.str (tx nm)),some (.ref u),some (.ref m),some (.ref g),some (.ref a),p]/\b=c) (λi d b ⟨_,_,e⟩=>by rw[e];exact YU H) ⟨_,rfl,rfl⟩ ?_ ?_⟩
    ·rintro i v d G f ⟨p,rfl,l⟩;obtain rfl:c=G:=l.symm;obtain⟨a2,rfl⟩:∃a2:Nat,v=.int (a2:Int):=by
      match i,f with
      | 0,f=>cases f;exact⟨_,rfl⟩
      | 1,f=>cases f;exact⟨_,rfl⟩
      | i+2,f=>cases f
     exact⟨.int,trivial,.int,trivial,_,rfl,rfl⟩
    ·rintro d G ⟨p,rfl,l⟩;exact A _ _ ⟨p,rfl,l⟩
   rintro _ G ⟨p,rfl,l⟩;obtain rfl:c=G:=l.symm;exact a1 (some z) (.ref a) c hb ⟨a,rfl,H⟩ t
def Rs(w a:Wt):Prop:=w.n<a.n∨(w.n=a.n/\w.i<a.i)
theorem lC{a:List RX}{n:Nat}{x:Dd}:∀ {l:List (Str×Dd)}{i:Nat}{w:Wt},w∈kW a n x i l->w.n=n/\i<=w.i/\w.i<i+l.length/\(w.h,w.d)∈l/\w.w=dS a n x w.i
 | [],_,_,h=>by cases h
 | q::l,i,w,h=>by
  rcases mem_cons.mp h with rfl|h
  ·exact⟨rfl,bH _,Zs,dI,rfl⟩
  ·obtain⟨b,e,f,c,d⟩:=lC h;exact⟨b,Zo,by simp;omega,jE _ c,d⟩
def uJ(a:List RX)(n:Nat)(x:Dd):∀(l:List (Str×Dd))(i:Nat),(kW a n x i l).Pairwise Rs
 | [],_=>.nil
 | q::l,i=>.cons (λw h=>by
   obtain⟨b,c,_⟩:=lC h;exact .inr ⟨b.symm,by show i<w.i;omega⟩) (uJ a n x l (i+1))
def lD{a:List RX}{r:RX}{w:Wt}(h:w∈dU a r):∃n t p k x,r=.came n t p k x/\w.n=n/\w.i<2/\(w.h,w.d)∈cB x/\w.w=dS a n x w.i:=by
 cases r with
 | came n t p k x=>
  obtain⟨b,_,e,c,d⟩:=lC (show w∈kW a n x 0 (cB x) from h);have:=hX x;exact⟨n,t,p,k,x,rfl,b,Zo,c,d⟩
 | _=>cases h
def Na(c:List RX){a:List RX}(h:RX.Whole a):(a.flatMap (dU c)).Pairwise Rs:=by
 induction h with
 | nil=>exact .nil
 | @snoc a r i d e=>
  rw[flatMap_append,ZG,flatMap_nil,append_nil];refine List.pairwise_append.mpr ⟨e,?_,λw b j f=>?_⟩
  ·cases r with
   | came n t p k x=>exact uJ c n x (cB x) 0
   | _=>exact .nil
  ·obtain⟨l,g,b⟩:=mem_flatMap.mp b;obtain⟨n,t,p,k,x,rfl,m,_⟩:=lD b;obtain⟨o,q,s,u,v,rfl,y,_⟩:=lD f;have:=d.1 n t p k x g;exact .inl Zo
def Nb{a:List RX}(h:RX.Whole a):qF (cH a):=λk b w c g i j l=>by
 have d:=pairwise_iff_getElem.mp (Na a h);obtain⟨e,g1⟩:=Zgs.mp g;obtain⟨f,g2⟩:=Zgs.mp i;rcases lt_trichotomy k b with z|z|z
 ·have:=d k b e f z;have:Rs w c:=by rw[<- g1,<- g2];exact this
  rcases this with h|h<;>omega
 ·exact z
 ·have:=d b k f e z;have:Rs c w:=by rw[<- g1,<- g2];exact this
  rcases this with h|h<;>omega
def Nc{i:List RX}{ws us:List Str}(s:∀r∈i,r.Ok)(u:∀n t p k x,.came n t p k x∈i->Rr ws us x):∀w∈cH i,wK ws us w:=λw j=>by
 obtain⟨r,o,j⟩:=mem_flatMap.mp j;obtain⟨n,t,p,k,x,rfl,z,v,f,y⟩:=lD j;obtain⟨A,B,_,_,_,b⟩:=s _ o;have c:=u _ _ _ _ _ o;have l:w.h∈us/\sC ws w.d.vs:=by
  cases x with
  | send h a m=>
   have:=Zms.mp f;injection this with d e
   rw[d,e];exact⟨c.1,a,_,m,_,.add,c.2,b.2.1,b.2.2.1,b.2.2.2⟩
  | fetch h a m=>
   have:=Zms.mp f;injection this with d e
   rw[d,e];exact⟨c.1,a,_,m,_,.take,c.2,b.2.1,b.2.2.1,b.2.2.2⟩
  | pass h g a m=>
   rcases mem_cons.mp f with q|q
   ·injection q with d e
    rw[d,e];exact⟨c.1,a,_,m,_,.take,c.2.2,b.2.2.1,b.2.2.2.2.1,b.2.2.2.2.2⟩
   ·have:=Zms.mp q;injection this with d e
    rw[d,e];exact⟨c.2.1,a,_,m,_,.add,c.2.2,b.2.2.1,b.2.2.2.2.1,b.2.2.2.2.2⟩
  | _=>cases f
 exact⟨Zo,v,l.1,l.2,by rw[y];exact Bj _ _ _ _⟩
def Bu(a:List RX)(r:RX):(dU a r).length<=2:=by
 cases r with
 | came n t p k x=>show(kW a n x 0 (cB x)).length<=2;rw[hZ];exact hX x
 | _=>exact zero_le _
theorem uK(b:List RX):∀a:List RX,(a.flatMap (dU b)).length<=2*a.length
 | []=>bH _
 | r::a=>by
  have:=uK b a;have:=Bu b r;rw[ZG,gJ,qH];omega
theorem uL(e:List RX)(u:Str):∀d:List RX,(∀r∈d,r.Ok)->(d.flatMap (dU e)).countP (λw=>decide (w.h=u))<=d.length
 | [],_=>bH _
 | r::d,h=>by
  have:=uL e u d λr f=>h r (jE _ f)
  have l:(dU e r).countP (λw=>decide (w.h=u))<=1:=by
   cases r with
   | came n t p k x=>
    have g:x.Ok:=(h _ dI).2.2.2.2.2
    cases x with
    | pass a b c m=>
     have i:a≠b:=g.2.2.2.1;show([_,_]:List Wt).countP _<=1;rw[countP_cons,countP_cons,List.countP_nil];by_cases z:a=u
     ·rw[ZP (by simpa using λj=>i (z.trans j.symm))];split<;>simp
     ·rw[ZP (c:=decide (a=u)=true) (by simpa using z)];split<;>simp
    | send a b m=>exact List.countP_le_length
    | fetch a b m=>exact List.countP_le_length
    | _=>exact zero_le _
   | _=>exact zero_le _
  rw[ZG,List.countP_append,qH];omega
def Nd{a:List RX}(b:∀r∈a,r.Ok)(c:a.length<=30)(u:Str):dG (cH a) (cH a).length u<=30:=by
 unfold dG;rw[lO (bH _)];exact eJ (uL a u a b) c
def Qu:SS:=⟨[],[],[],0,[]⟩
structure MadeAt(C:ZT)(H H':Hp)(us:List Str)(zs:List SA)(ts:List ZT):Prop where
 lz:zs.length=us.length
 lt:ts.length=us.length
 tup:∀(j:Nat) t u z,ts[j]?=some t->us[j]?=some u->zs[j]?=some z->H' t=some (.tup [.str u,.ref z.s])
 at_:∀z∈zs,StAt C H' z Qu 100
 new:∀z∈zs,∀c∈z.all,H c=none
 dis:∀(j k:Nat) z z',zs[j]?=some z->zs[k]?=some z'->j≠k->∀c∈z.all,c∉z'.all
 same:Same H H'
def MadeAt.step{C:ZT}{H n m:Hp}{us:List Str}{p:List SA}{x:List ZT}{u:Str}{z:SA}{t:ZT}(h:MadeAt C H n us p x)(s:Same n m)(E:m t=some (.tup [.str u,.ref z.s]))(F:StAt C m z Qu 100)(y:∀c∈z.all,n c=none):MadeAt C H m (us++[u]) (p++[z]) (x++[t]):=by
 have v:∀b∈p,∀c∈b.all,c∉z.all:=λb d c f i=>by
  obtain⟨o,e,_⟩:=(h.at_ b d).no f;rw[y c i]at e;cases e
 have L:=h.lz;have M:=h.lt;refine⟨by simp[h.lz],by simp[h.lt],λj G I b q l A=>?_,λb d=>?_,λb d c f=>?_,λj k B D q l J c f i=>?_,h.same.trans s⟩
 ·rcases bW q with⟨g1,g⟩|⟨g1,g⟩
  ·rcases bW l with⟨_,a⟩|⟨g2,_⟩
   ·rcases bW A with⟨_,r⟩|⟨g3,_⟩
    ·exact s _ _ (h.tup j G I b g a r)
    ·omega
   ·omega
  ·rcases bW l with⟨g2,_⟩|⟨_,a⟩
   ·omega
   ·rcases bW A with⟨g3,_⟩|⟨_,r⟩
    ·omega
    ·rw[g,a,r];exact E
 ·rcases aF d with d|rfl
  ·exact(h.at_ b d).same s
  ·exact F
 ·rcases aF d with d|rfl
  ·exact h.new b d c f
  ·exact h.same.free (y c f)
 ·rcases bW q with⟨g1,g⟩|⟨g1,g⟩
  ·rcases bW l with⟨g2,a⟩|⟨g2,a⟩
   ·exact h.dis j k B D g a J c f i
   ·rw[a]at i;exact v B (cP g) c f i
  ·rcases bW l with⟨g2,a⟩|⟨g2,a⟩
   ·rw[g]at f;exact v D (cP a) c i f
   ·omega
def wP{C:ZT}{H:Hp}{I:ZT}{us:List Str}(gl:H I=some (.lst (us.map V.str)))(h6:us.length<=6){σ:St}{R:List V->Hp->Prop}(a0:∀j g u,MadeAt C H u us j g->R (g.map V.ref) u) :
  lX [none] (aK 0) tF (tO (dA (vr 0) (dA (Jg (dA (xJ C (jP C) [.non,.non] E0 fR) (dA nR (dA (tC (.int 0)) (dA nR fR))))) fR))) σ (Oh K I) H R:=by
 refine bL (bB K I (us.map V.str)) (by rw[bA];omega) (λi B u=>∃j g,B=g.map V.ref/\MadeAt C H u (us.take i) j g) (λi B u ⟨j,g,e,m⟩=>⟨YT (m.same _ _ gl),by rw[e,bA,m.lt];exact List.length_take_le _ _⟩)
  ⟨[],[],rfl,⟨rfl,rfl,(λ_ _ _ _ h=>nomatch h),(λ_ h=>nomatch h),(λ_ h=>nomatch h),(λ_ _ _ _ h=>nomatch h),λ_ _ e=>e⟩⟩ (λi v B k x ⟨j,g,e,m⟩=>?_) (λB k ⟨j,g,e,m⟩=>?_)
 ·rw[dH]at x;cases J:us[i]? with
  | none=>rw[J]at x;cases x
  | some a1=>
   rw[J]at x;cases x;intro p y L MV m4;have nn:∀ {c:ZT}{o:HO},k c=some o->(aJ (aJ k y (.own p)) p (.ins C y [])) c=some o:=λ{c o} e=>by
    rw[aD (aB e L),aD (aB e MV)];exact e
   have fr:∀ {c:ZT},(aJ (aJ k y (.own p)) p (.ins C y [])) c=none->k c=none:=λ{c} e=>by
    cases e':k c with
    | none=>rfl
    | some o=>rw[nn e']at e;cases e
   refine⟨p,y,.non,.non,[],[],rfl,aA,.inl ⟨rfl,rfl⟩,nodup_nil,Zd,.inl ⟨rfl,rfl⟩,Zd,λz a f1 f2 f3 b k2=>⟨rfl,?_⟩⟩;have D:Same k z:=λc o e=>k2 _ _ (nn e) (aB e L)
   have e0:(λn:Str=>decide (n∈([]:List Str)))=λ_=>false:=by funext n;simp
   rw[e0]at b;obtain⟨XR,U,_⟩:=b.hc;intro d M;have q:=aH (o:=.dK []) M;have g3:(aJ z d (.dK [])) d=some (.dK []):=aA;dsimp only;generalize aJ z d (.dK [])=W at q g3;intro f E;have r:=aH (o:=.dK []) E;have N:(aJ W f (.dK [])) f=some (.dK []):=aA;dsimp only;generalize aJ W f (.dK [])=X at r N;refine⟨dC rfl,λl A=>⟨aP rfl,λt H6 s g6=>?_⟩⟩;have F:=aH (o:=.lst [.ref p,.ref d,.int 0,.ref f]) A;have Y:(aJ X l (.lst [.ref p,.ref d,.int 0,.ref f])) l=some (.lst [.ref p,.ref d,.int 0,.ref f]):=aA;generalize aJ X l (.lst [.ref p,.ref d,.int 0,.ref f])=H5 at F Y s;have Z:Same z H5:=(q.trans r).trans F;have G:∀ {c o},z c=some o->c≠d/\c≠f/\c≠l:=λe=>⟨aB e M,aB (q _ _ e) E,aB (r _ _ (q _ _ e)) A⟩
   have O:=G b.hp;have Q:=G b.ha;have S:=G U;have T:=G b.he;have xg:d≠f:=aB g3 E;have Wi:d≠l:=aB (r _ _ g3) A;have Wj:f≠l:=aB N A;have pa:p≠a.da:=bD b.hp b.ha nofun;have pc:p≠a.dc:=bD b.hp U nofun;have pe:p≠a.de:=bD b.hp b.he nofun;refine⟨j++[⟨l,p,a,d,f⟩],g++[t],by rw[e,eF];rfl,?_⟩;rw[bC J];refine m.step (D.trans (Z.trans s)) g6 ⟨s _ _ Y,b.same (Z.trans s),s _ _ (F _ _ (r _ _ g3)),s _ _ (F _ _ N),(λ_ h=>nomatch h),?_,Zd,Zd⟩ (λc hc=>?_)
   ·simp only [SA.all,nodup_cons,mem_cons,ZJ,or_false,not_or,not_false_eq_true,and_true,nodup_nil];exact⟨⟨O.2.2.symm,Q.2.2.symm,S.2.2.symm,T.2.2.symm,Wi.symm,Wj.symm⟩,⟨pa,pc,pe,O.1,O.2.1⟩,⟨b.ac,b.ae,Q.1,Q.2.1⟩,⟨b.ce,S.1,S.2.1⟩,⟨T.1,T.2.1⟩,xg⟩
   ·simp only [SA.all,mem_cons,ZJ,or_false]at hc;rcases hc with rfl|rfl|rfl|rfl|rfl|rfl|rfl
    ·exact D.free ((q.trans r).free A)
    ·exact L
    ·exact fr f1
    ·exact fr f2
    ·exact fr f3
    ·exact D.free M
    ·exact D.free (q.free E)
 ·rw[bA,lO (bH _)]at m;rw[e];exact a0 j g k m
def MadeAt.dict{C:ZT}{H c:Hp}{us:List Str}{a:List SA}{b:List ZT}(m:MadeAt C H c us a b):∃ys:List W,ys.map (λz=>V.ref z.1)=b.map V.ref/\Ta c ys/\ys.length=us.length/\ys.map (·.2)=(us.zip a).map λq=>((Sum.inr q.1:aR),V.ref q.2.s):=by
 have l:=m.lz;have n:=m.lt;refine⟨(b.zip (us.zip a)).map λq=>(q.1,(Sum.inr q.2.1:aR),V.ref q.2.2.s),?_,λy d=>?_,by simp;omega,?_⟩
 ·rw[map_map];have:((λz:W=>V.ref z.1)∘λq:ZT×Str×SA=>(q.1,(Sum.inr q.2.1:aR),V.ref q.2.2.s))=V.ref∘Prod.fst:=rfl;rw[this,<- map_map,List.map_fst_zip (by simp;omega)]
 ·obtain⟨q,e,rfl⟩:=Zmm.mp d;obtain⟨j,f⟩:=getElem?_of_mem e;obtain⟨g,h⟩:=getElem?_zip_eq_some.mp f;obtain⟨i,k⟩:=getElem?_zip_eq_some.mp h;exact m.tup j _ _ _ g i k
 ·rw[map_map];have:((λz:W=>z.2)∘λq:ZT×Str×SA=>(q.1,(Sum.inr q.2.1:aR),V.ref q.2.2.s))=(λq:Str×SA=>((Sum.inr q.1:aR),V.ref q.2.s))∘Prod.snd:=rfl;rw[this,<- map_map,List.map_snd_zip (by simp;omega)]
def MadeAt.merge{C:ZT}{H d:Hp}{us:List Str}{c:List SA}{f:List ZT}(m:MadeAt C H d us c f)(g:us.Nodup):aM [] ((us.zip c).map λq=>((Sum.inr q.1:aR),V.ref q.2.s))=(us.zip c).map λq=>((Sum.inr q.1:aR),V.ref q.2.s):=by
 rw[fJ _ _ ?_ (λ_ _=>rfl)]
 ·rfl
 ·rw[map_map];have:((λx:aR×V=>x.1)∘λq:Str×SA=>((Sum.inr q.1:aR),V.ref q.2.s))=(Sum.inr:Str->aR)∘Prod.fst:=rfl;rw[this,<- map_map,List.map_fst_zip (by rw[m.lz];exact bH _)];exact List.Pairwise.map _ (λa b h e=>h (by injection e)) g
def MadeAt.all{C:ZT}{H b c:Hp}{us:List Str}{d:List SA}{i:List ZT}(m:MadeAt C H b us d i){f:ZT}(k:b f=none)(s:Same b c)(g:c f=some (.dK ((us.zip d).map λq=>((Sum.inr q.1:aR),V.ref q.2.s))))(ws:List Str)(nm:List Nat)(W:List Wt):AllSt C ws nm W c f us d (replicate us.length Qu) 0 []:=by
 have a:∀x∈replicate us.length Qu,x=Qu:=λx a=>List.eq_of_mem_replicate a
 refine⟨g,m.lz,List.length_replicate,rfl,λj u z x _ l n=>?_,λx h=>?_,m.dis,λz p r=>?_,λj u x _ h=>?_,λj u x _ h=>?_⟩
 ·rw[a x (cP n)];exact((m.at_ z (cP l)).same s).more Zo
 ·rw[a x h];exact⟨(λ_ h=>nomatch h),λ_=>rfl,λ_=>Int.le_refl _,λ_=>(by decide:(0:Int)<=1000000000000),nodup_nil,(λ_ h=>nomatch h),nodup_nil,(λ_ h=>nomatch h),(λ_ h=>nomatch h),(λ_ h=>nomatch h),(λ_ h=>nomatch h),(λ_ h=>nomatch h)⟩
 ·obtain⟨o,e,_⟩:=(m.at_ z p).no r;rw[k]at e;cases e
 ·rw[a x (cP h)];exact⟨zero_le _,zero_le _,zero_le _⟩
 ·rw[a x (cP h)];exact⟨(λ_ h=>nomatch h),λ_ _ _ _ _ h=>nomatch h⟩
def Fin.ask{C:ZT}{ws:List Str}{nm:List Nat}{W:List Wt}{H p:Hp}{s:ZT}{us:List Str}{r:List SA}{xs:List SS}{os:List Oc}{e:Nat}(h:Fin C ws nm W H s us r xs os e){j:Nat}{z:SA}{x:SS}(hz:r[j]?=some z)(m:xs[j]?=some x){am':List (Str×Int)}{y:EN}(v:StAt C p z {x with am:=am',en:=x.en++[y] } (340+(e+1)))(fs:Fs z H p)(A:∀n i,y.key≠tx (dL nm n i))(B:Said y)(D:∀q∈am',q.1∈ws)(M:x.en.length<=62) :
  Fin C ws nm W p s us r (xs.set j {x with am:=am',en:=x.en++[y] }) os (e+1):=by
 have E:=cP hz;have o:=cP m;have g:∀ {P:SS->Prop},(∀x∈xs,P x)->P {x with am:=am',en:=x.en++[y] }->∀f∈xs.set j {x with am:=am',en:=x.en++[y] },P f:=λb a f F=>by
  rcases List.mem_or_eq_of_mem_set F with h|h
  ·exact b f h
  ·rw[h];exact a
 refine⟨fs _ _ h.dict (h.nsd z E),h.lz,by rw[length_set];exact h.lx,h.lo,λk t f b a=>?_,g h.nd3 (h.nd3 x o),g h.frn (λq d=>?_),g h.back (λq d=>?_),g h.sub D,g h.said (λq d=>?_),g h.len ?_,λk u f b a=>?_,h.dis,h.nsd⟩
 ·by_cases l:j=k
  ·subst l;rw[hz]at b;cases b;rw[getElem?_set_self (Zgs.mp m).1]at a;cases a;exact v
  ·rw[getElem?_set_ne l]at a;have:=(h.at_ k t f b a).other (h.at_ j z x hz m) fs (λc G=>h.dis k j t z b hz (λe=>l e.symm) c G);exact this.more Zo
 ·rcases aF d with d|rfl
  ·exact h.frn x o q d
  ·exact .inl A
 ·obtain⟨I,J,L⟩:=h.back x o q d;exact⟨I,ZM _ J,L⟩
 ·rcases aF d with d|rfl
  ·exact h.said x o q d
  ·exact B
 ·show(x.en++[y]).length<=63;simp;omega
 ·by_cases l:j=k
  ·subst l;rw[getElem?_set_self (Zgs.mp m).1]at a;cases a;exact h.kv j u x b m
  ·rw[getElem?_set_ne l]at a;exact h.kv k u f b a
def Fin.asked{C:ZT}{ws:List Str}{nm:List Nat}{W:List Wt}{H:Hp}{m:ZT}{us:List Str}{f:List SA}{xs:List SS}{os:List Oc}{e:Nat}(d:Fin C ws nm W H m us f xs os e)(J:e<=150){j:Nat}{z:SA}{x:SS}(hz:f[j]?=some z)(g:xs[j]?=some x){ky a:Str}{t:ZT}(s:iN ky)(u:∀n i,ky≠tx (dL nm n i))(A:ky∉x.en.map (·.key))(gt:H t=some (.tup [.str "add",.str a,.int 1]))(B:a∈ws)(D:bZ a)(r:x.en.length<=62){Q:VK}{E:XK}(q:∀v b h,Fin C ws nm W b m us f (xs.set j h) os (e+1)->Fs z H b->h.en.length=x.en.length+1->(∀y∈h.en,y∈x.en∨y.key=ky)->Q v b):pY C [.ref z.p,.str ky,.ref t] H Q E:=by
 have st:=d.at_ j z x hz g;have p:=cP g;refine⟨z.p,t,z.a,x.am,_,x.en,340+e,a,1,"add",_,1,ky,rfl,st.hs,Zo,gt,.add,D,Zd,Zd,s,A,λb L F k=>?_⟩;obtain⟨G,fs⟩:=st.house F (λc o e I m2 _=>k c o e I m2);refine q _ b _ (d.ask hz g G fs u (Said.of ⟨_,_,_,_,.add⟩ ?_) ?_ r) fs Zs (λy l=>?_)
 ·cases iB x.am (λ_=>false) "add" a 1
  ·exact .inr rfl
  ·exact .inl rfl
 ·unfold Em;split
  ·exact dF (d.sub x p) B
  ·exact d.sub x p
 ·rcases aF l with l|rfl
  ·exact .inl l
  ·exact .inr rfl
def Gd(nm:List Nat):List Nat:=nm++[120,49,97]
def Qv{nm:List Nat}(h:gH nm):iN (tx (Gd nm)):=by
 have:=h.five;have a:(Gd nm).length=nm.length+3:=by simp[Gd]
 refine⟨by rw[aV];omega,by rw[aV];omega,λc hc=>?_⟩;rw[iM]at hc;rcases Zma.mp hc with hc|hc
 ·exact Bd (h.lets c hc)
 ·simp only [mem_cons,ZJ,or_false]at hc;rcases hc with rfl|rfl|rfl<;>decide
def Hq{nm:List Nat}(n i:Nat):tx (Gd nm)≠tx (dL nm n i):=λh=>by
 have h:=fA h;unfold Gd dL at h;rw[append_assoc]at h;have h:=List.append_cancel_left h
 cases e:(bN n).cps.toList with
 | nil=>rw[e]at h;exact ZO (congrArg length h) Zs
 | cons c r=>
  rw[e]at h;injection h with a _
  have:=(cU n c (by rw[e];exact dI)).2;omega
def lE{nm:List Nat}(h:gH nm){r a:List Nat}(e:nm++r=48::a):False:=by
 match nm,h with
 | [],h=>exact ZO h.pos Zs
 | c::nm,h=>
  injection e with b _
  have:=h.lets c dI;rw[b]at this;exact ZO this Zd
def Qw{nm:List Nat}(h:gH nm)(j:Nat):tx (Gd nm)≠tx (lN j):=λe=>lE h (fA e)
def Qx:("00":Str)=tx [48,48]:=by decide +kernel
def Hr{nm:List Nat}(h:gH nm)(n i:Nat):tx [48,48]≠tx (dL nm n i):=λe=>by
 have:=fA e;unfold dL at this;rw[append_assoc]at this;exact lE h this.symm
def Qy(j:Nat):tx [48,48]≠tx (lN (j+1)):=λe=>by
 have:=fA e;injection this with _ a
 have b:(bN 0).cps.toList=[48]:=by decide +kernel
 have:=oO (b.trans a);omega
def Qz{nm:List Nat}(h:gH nm):tx [48,48]≠tx (Gd nm):=λe=>lE h (fA e).symm
def Ra(nm:List Nat)(x:SS):Prop:=x.en.length<=61/\∀y∈x.en,(∃j,y.key=tx (lN (j+1)))∨(∃n i,y.key=tx (dL nm n i))∨y.key=tx (Gd nm)
def uM(K:W.Frag):Sp:=λvs H Q _=>∃(a:ZT)(b:List Int),vs=[.ref a]/\SqL K H a (b.map V.int)/\b.length<=63/\∀c,Q (.bl true) c
def Nf{C:ZT}(T:Txt K mg)(BZ:aI P w K mg base 1 "_law_deck" ZC (yT K))(yy:aI P w K mg base 3 "_law_menus" ["_law_deck_here"] pU)(y9:aI P w K mg base 2 "_law_unlike" Zy iP)(a7:aI P w K mg base 1 "_law_draw" ZF bP)(CA:aI P w K mg base 4 "_law_body" Zn tX)(vj:Rn P w K mg base 2 "House" C Zr [.non,.non] (jP C))(yz:aI P w K mg base 3 "_law_wants" ["_law_rows"] uA)(md:aI P w K mg base 9 "_law_asks_made" Ze (uE C))(i9:gK P w K mg base 5 C "ask" Zz (pY C))(GG:aI P w K mg base 1 "_law_due" Zc (Bl C))(vk:aI P w K mg base 4 "_law_told" YZ (uI C)){f:ZT}{fd:FuncData}(F:Fun K "law" "law" L3 f fd):eN P w K mg base jL 10 f fd ZC (uM K):=by
 refine F.gg p9 (λcdv b9 outer c0 H vs c1 c2 A h=>?_)
 ·obtain⟨a5,ns,rfl,hS,hlen,q⟩:=h;have j0:=cQ A;have C0:=A.units;refine⟨_,(kg (mi (i:=1) p9.nd (mh BZ A rfl (jw (jx 0) jy))) (kg (mi (i:=2) p9.nd (mh yy A rfl (jw (jx 1) jy))) (kg (mi (i:=3) p9.nd (mv (px (K:=K)) (mh y9 A rfl (jw (jx 1) (jw lf (jw kt (jw kt jy))))) kt)) (kg (sn PassesOwn.never rfl (R.dh rfl T.b_range (jw kt jy)) (mq (i:=4) p9.nd) (kg (mi (i:=5) p9.nd (mh CA A rfl (jw (jx 1) (jw (o0 jy) (jw (jx 2) (jw (mv (px (K:=K)) (o0 (jw (mh a7 A rfl (jw (jx 1) (jw kt jy))) (jw (mh a7 A rfl (jw (jx 1) (jw kt jy))) jy))) (mh a7 A rfl (jw (jx 1) (jw kt jy)))) jy)))))) (kg (mi (i:=6) p9.nd (ub (R.fu (K:=K) rfl) rfl T.b_dict tL (jw (ww rfl (js:=[none]) (N:=["_law_house"]) (CompScope.by (aG L3) YV rfl rfl Zk) (bJ rfl) (qe (K:=K) (nw K 2)) (λC s₂ H₂ fp=>⟨(mq (i:=0) (show(["_law_house"]:List Str).Nodup by decide +kernel)),AC,(mm (jw (jx 0) (jw (o0 (jw (R.jv vj A rfl) (jw R.dj (jw kt (jw R.dj jy))))) jy)))⟩)) jy))) (kg (mi (i:=7) p9.nd (mh yz A rfl (jw (jx 5) jy))) (kg (pz (mh md A rfl (jw (jx 1) (jw (jx 3) (jw (jx 7) (jw (jx 6) (jw (nw K 2) jy))))))) (kg (R.gx (i:=8) p9.nd rfl (Or.inl rfl) rfl (js:=[none,some 6]) (N:=["_law_house","_law_states"]) (CompScope.by (aG L3) YV rfl rfl Zk) (bJ rfl) (qe (K:=K) (nw K 2)) (λC s₂ H₂ fp=>⟨(mq (i:=0) (show(["_law_house","_law_states"]:List Str).Nodup by decide +kernel)),AC,(mm (jw (jx 0) (jw (mv (px (K:=K)) (u8 j0 (jx 1) (jx 0)) kt) jy)))⟩) rfl) (kg (sn PassesOwn.never rfl (qe (K:=K) (jx 8)) (wn (K:=K) (n:=2) rfl (pv (mq (i:=9) p9.nd) (pv (mq (i:=10) p9.nd) wp))) (li (pz (tu i9 A (jx 10) (jw (lv xz (jx 3) lf) (jw (mm (jw lf (jw (mv (px (K:=K)) (nw K 2) kt) (jw kt jy)))) jy)))))) (kg (mi (i:=11) p9.nd (mh GG A rfl (jw (jx 3) (jw (jx 7) (jw (jx 6) jy))))) (kg (mo (ml (R.dy C0) (mh vk A rfl (jw (jx 3) (jw (jx 5) (jw (jx 8) jy)))) (jx 11)) (li (mn R.bl)) ms) (kg (pz (tu i9 A (mv (AT (K:=K)) (nw K 8) kt) (jw lf (jw (mm (jw lf (jw (mv (px (K:=K)) (nw K 2) kt) (jw kt jy)))) jy)))) (li (mo (ml (R.dy C0) (mh vk A rfl (jw (jx 3) (jw (jx 5) (jw (jx 8) jy)))) (jx 11)) (li (mn R.bl)) ms)))))))))))) (li (mn R.bl)))))),?_⟩;refine⟨a5,ns,rfl,hS,λd b H1 nd nb D1 s1=>?_⟩;refine⟨d,b,rfl,D1,λlm a6 H2 hM oD oB f2=>?_⟩;dsimp only [aK];refine aN (λu a=>∃nm:List Nat,u=[some (.ref a5),some (.ref d),some (.ref lm),some (.str (tx nm)),none,none,none,none,none,none,none,none]/\gH nm/\Fw d b H2 a) (λnx b7=>?_) ?_
  ·refine⟨d,b,LET,5,1,by rw[<- oF];rfl,f2.dk,Zd,Zd,Zd,Ff,Zd,Zd,λb4 RO H3 wo wl g3 n1 n2 D3 k3=>?_⟩
   match RO,wl with
   | [z],_=>
   obtain⟨z1,z2,z3⟩:=wo.of z dI;refine⟨_,YT g3,.str z,rfl,?_⟩;refine b7 _ _ ⟨z.cps.toList,by rw[<- kG z];rfl,⟨by rw[<- show z.length=z.cps.toList.length by simp[Str.length]];exact z1,by rw[<- show z.length=z.cps.toList.length by simp[Str.length]];exact z2,z3⟩,(Fw.refl f2.dk).draw D3 k3⟩
  rintro _ H3 ⟨nm,rfl,B8,F3⟩;refine aN (λ_ _=>True) (λnx b7=>?_) ?_
  ·refine⟨2,rfl,Zd,Zd,bS (cZ 0 (2:Int).toNat) (λi u a=>∃(o4 o5 o6 o7 o8 o9 z9 B4:Option V),u=[some (.ref a5),some (.ref d),some (.ref lm),some (.str (tx nm)),o4,o5,o6,o7,o8,o9,z9,B4]/\MenusAt a lm a6/\Dk a d b) (λ_ _ _ _=>trivial) ⟨_,_,_,_,_,_,_,_,rfl,F3.menus oD oB hM,F3.dk⟩ ?_ ?_⟩
   ·rintro i x u H5 hx ⟨o4,o5,o6,o7,o8,o9,z9,B4,rfl,IT,D5⟩;obtain⟨rfl,hi⟩:=kP hx;dsimp only [aK];obtain⟨a0,a1,a2,a3,J,m,ps,ks,eM,h0,h1,h2,h3,h4,mw,mu,mr⟩:=IT.ex;have B:∀c∈a6,c≠d/\c≠b/\∃o,H5 c=some o:=λc g=>⟨λz=>oD (z ▸ g),λz=>oB (z ▸ g),by
     rw[eM]at g;simp only [mem_cons,ZJ,or_false]at g;rcases g with rfl|rfl|rfl|rfl|rfl
     ·exact⟨_,h0⟩
     ·exact⟨_,h1⟩
     ·exact⟨_,h2⟩
     ·exact⟨_,h3⟩
     ·exact⟨_,h4⟩⟩
    have m0:=B lm (by rw[eM];simp);have m1:=B a0 (by rw[eM];simp);have m2:=B a1 (by rw[eM];simp);refine aN (λu a=>∃(r:ZT)(p:List RX)(as:List ZT),u=[some (.ref a5),some (.ref d),some (.ref lm),some (.str (tx nm)),some (.int (i:Int)),some (.ref r),o6,o7,o8,o9,z9,B4]/\RxsAt a r p as/\RX.Whole p/\(∀b6∈p,b6.Ok)/\p.length<=30/\(∀n t a9 k x,.came n t a9 k x∈p->Rr J m x)/\Dk a d b/\Kp d b H5 a/\r≠d/\r≠b) (λyg m5=>?_) ?_
    ·refine⟨dC rfl,λr GH=>?_⟩;have nra:=D5.ne GH;have g6:(aJ H5 r (.lst [])) r=some (.lst []):=aA;have s6:=aH (o:=.lst []) GH;have D6:=D5.new (o:=.lst []) GH;generalize aJ H5 r (.lst [])=H6 at g6 s6 D6;refine⟨d,b,9,rfl,D6,Zd,Zd,λr1 H7 x0 x1 D7 k7=>⟨d,b,31,rfl,D7,Zd,Zd,λr2 H8 y0 y1 D8 k8=>⟨dC rfl,λa9 hp=>⟨d,b,2,rfl,D8.new hp,Zd,Zd,λr3 H9 z0 z1 D9 k9=>?_⟩⟩⟩⟩;have F9:=((((Fw.refl D6).draw D7 k7).draw D8 k8).new (o:=.lst [.int r1,.int r2]) hp).draw D9 k9;have np:=D8.ne hp;have gp:H9 a9=some (.lst [.int r1,.int r2]):=k9 _ _ aA np.1 np.2;obtain⟨r4,e4,l4⟩:∃r4:Nat,eP [V.int r1,V.int r2] r3=some (.int (r4:Int))/\r4<=30:=by
      rcases(by omega:r3=0∨r3=1) with rfl|rfl
      ·exact⟨r1.toNat,by show some (V.int r1)=_;rw[Int.toNat_of_nonneg x0],Zo⟩
      ·exact⟨r2.toNat,by show some (V.int r2)=_;rw[Int.toNat_of_nonneg y0],Zo⟩
     refine⟨_,YT gp,_,e4,?_⟩;have fr:∀c o,H5 c=some o->c≠d->c≠b->H9 c=some o:=λc o e n1 n2=>F9.get (s6 _ _ e) n1 n2
     have Wk:MenusAt H9 lm a6:=IT.keep λc g o e=>fr c o e (B c g).1 (B c g).2.1
     have oR:r∉a6:=λg=>by obtain⟨o,e⟩:=(B r g).2.2;rw[GH]at e;cases e
     refine⟨d,b,r,lm,a6,[],[],r4,rfl,F9.dk,⟨F9.get g6 nra.1 nra.2,.nil⟩,⟨.nil,(λ_ h=>nomatch h),(λ_ h=>nomatch h),rfl,(λ_ _ h=>nomatch h)⟩,Wk,oD,oB,oR,nra.1,nra.2,l4,λp as xq Wl qv hok Y9 qr xr zc=>?_⟩;refine m5 _ _ ⟨r,p,as,rfl,Wl,qv,hok,Y9,λn t a9 k x hm=>?_,xr,λc o e n1 n2=>zc _ _ (fr c o e n1 n2) n1 n2 (aB e GH),nra.1,nra.2⟩;obtain⟨b0,b1,b2,b3,RO,LF,g0,g1,g2,im⟩:=qr n t a9 k x hm;rw[fr _ _ h0 m0.1 m0.2.1]at g0;cases g0;rw[fr _ _ h1 m1.1 m1.2.1]at g1;rw[fr _ _ h2 m2.1 m2.2.1]at g2;have inj:∀x y:Str,V.str x=V.str y->x=y:=λx y e=>by injection e
     injection g1 with g1;injection g1 with g1
     injection g2 with g2;injection g2 with g2
     rw[(List.map_inj_right inj).mp g1,(List.map_inj_right inj).mp g2];exact im
    rintro _ H6 ⟨r,p,as,rfl,R6,qv,hok,Y9,yh,D6,k6,BJ,BK⟩;have IU:=k6 _ _ h0 m0.1 m0.2.1;have IV:=k6 _ _ h1 m1.1 m1.2.1;have NB:=k6 _ _ h2 m2.1 m2.2.1;refine⟨_,YT IU,_,rfl,a1,rfl,⟨_,YT NB⟩,wP NB mu.six (λl ts H7 a8 b4 fl=>?_)⟩;obtain⟨L,y1,y2,y3,y4⟩:=a8.dict;have xn:=mu.six;have V9:=mu.of.nd;refine⟨L,by rw[y1];exact YT aA,λz D=>aZ (y2 z D) fl,Zo,λE IS=>?_⟩;rw[y4,a8.merge V9];have s7:=aH (o:=.lst (ts.map V.ref)) fl;have NC:=s7.free IS;have s8:=s7.trans (aH (o:=.dK ((m.zip l).map λq=>((Sum.inr q.1:aR),V.ref q.2.s))) IS);have g8:(aJ (aJ H7 b4 (.lst (ts.map V.ref))) E (.dK ((m.zip l).map λq=>((Sum.inr q.1:aR),V.ref q.2.s)))) E=some (.dK ((m.zip l).map λq=>((Sum.inr q.1:aR),V.ref q.2.s))):=aA;dsimp only [aK];generalize aJ (aJ H7 b4 (.lst (ts.map V.ref))) E (.dK ((m.zip l).map λq=>((Sum.inr q.1:aR),V.ref q.2.s)))=H8 at s8 g8;have RP:=a8.all NC s8 g8 J nm (cH p);have AM:Same H6 H8:=a8.same.trans s8;refine⟨r,p,as,rfl,R6.same AM,Y9,qv,hok,λwl bs H9 DD DE RQ s9=>?_⟩;have xp:=AM.trans s9;have D9:=D6.same xp;obtain⟨XU,ds,dk,GI,GJ,_⟩:=D6.ex;have M:∀ {c o},H6 c=some o->∀z∈l,c∉z.all:=λe z D g=>by rw[a8.new z D _ g]at e;cases e
    have DF:∀z∈l,wl∉z.all:=λz D g=>by
     obtain⟨o,e,_⟩:=(a8.at_ z D).no g;rw[s8 _ _ e]at DD;cases DD
    have hW:(cH p).length<=100:=by have:=uK p p;unfold cH;omega
    have DP:=(D6.same AM).ne DD;have P0:=Nb qv;have nj:=Nc hok yh;have rq:=Nd hok Y9;refine⟨_,YT (xp _ _ IU),_,rfl,J,nm,d,b,wl,E,a0,cH p,bs,m,l,_,rfl,D9,B8,DE,RQ,RP.same s9,V9,xp _ _ IV,mw,P0,nj,rq,λz D=>⟨M GI z D,M GJ z D,DF z D,M IV z D⟩,⟨DP.1,DP.2,m1.1,m1.2.1⟩,hW,λxs os xq U xr CB=>?_⟩;have zc:∀c o,H6 c=some o->c≠d->c≠b->xq c=some o:=λc o e n1 n2=>CB _ _ (xp _ _ e) n1 n2 (M e)
    have W5:=U.fin rq;have GK:=zc _ _ IU m0.1 m0.2.1;have ND:=zc _ _ IV m1.1 m1.2.1;have GL:=zc _ _ NB m2.1 m2.2.1;dsimp only;refine aN (λu a=>∃(I:ZT)(s:List ZT),u=[some (.ref a5),some (.ref d),some (.ref lm),some (.str (tx nm)),some (.int (i:Int)),some (.ref r),some (.ref E),some (.ref wl),some (.ref I),o9,z9,B4]/\HlAt a I m l s/\Same xq a/\xq I=none) (λyg m5=>?_) ?_
    ·refine⟨_,YT GK,_,rfl,a1,rfl,⟨_,YT GL⟩,bL (bB K a1 (m.map V.str)) (by rw[bA];omega) (λk L a=>∃s:List ZT,L=s.map V.ref/\s.length=k/\(∀(j:Nat) a5 a4 z,s[j]?=some a5->m[j]?=some a4->l[j]?=some z->a a5=some (.tup [.str a4,.ref z.p]))/\Same xq a) (λk L a ⟨s,e,e2,_,s'⟩=>⟨YT (s' _ _ GL),by rw[e,bA,e2];exact bH _⟩) ⟨[],rfl,rfl,(λ_ _ _ _ h=>nomatch h),λ_ _ e=>e⟩ (?_) (?_)⟩
     ·rintro k v L a O ⟨s,e,e2,e3,s'⟩;rw[dH]at O;cases hu:m[k]? with
      | none=>rw[hu]at O;cases O
      | some a4=>
       rw[hu]at O;cases O;have AK:=(Zgs.mp hu).1;have RS:=W5.same s';have IW:l[k]?=some (l[k]'(by rw[W5.lz];exact AK)):=bR _;have RT:xs[k]?=some (xs[k]'(by rw[W5.lx];exact AK)):=bR _;generalize l[k]'(by rw[W5.lz];exact AK)=z at IW;generalize xs[k]'(by rw[W5.lx];exact AK)=x at RT;have st:=RS.at_ k z x IW RT;have FW:DGet a E (.str a4) (some (.ref z.s)):=by
        have:=DGet.k (k:=Sum.inr a4) RS.dict;rw[sD V9 hu IW]at this;exact this
       refine⟨E,_,rfl,FW,_,YT st.lst,_,rfl,aP rfl,λt XX RU Wm=>⟨s++[t],by rw[e,eF];rfl,by simp[e2],λj a' u' z' W q2 X=>?_,s'.trans RU⟩⟩;rcases bW W with⟨_,W⟩|⟨q4,W⟩
       ·exact RU _ _ (e3 j a' u' z' W q2 X)
       ·rw[q4,e2]at q2 X;rw[hu]at q2;cases q2;rw[IW]at X;cases X;rw[W];exact Wm
     ·rintro L a ⟨s,e,e2,e3,s'⟩;intro I NF;refine m5 _ _ ⟨I,s,rfl,⟨by rw[aA,e],by rw[e2,bA],λj a' u' z' W q2 X=>aZ (e3 j a' u' z' W q2 X) NF⟩,s'.trans (aH NF),s'.free NF⟩
    rintro _ uj ⟨I,s,rfl,om,Q,GN⟩;have NG:=W5.same Q;have ue:=om.len;have w2:=mw.two;have NH:J[0]?=some (J[0]'Zo):=bR _;have G8:bZ (J[0]'Zo):=mw.nm Zo;generalize J[0]'Zo=na at NH G8;have kl:=cP NH;have RV:eP (J.map V.str) 0=some (.str na):=cE (j:=0) (by rw[dH,NH];rfl);have zo:∀ {c o},xq c=some o->(∀z∈l,c∉z.all)->∀z∈l,c∉z.all:=λ_ h=>h
    have Wn:∀ {c},xq c=none->∀z∈l,c∉z.all:=λ{c} g z D kh=>by
     obtain⟨o,e,_⟩:=U.obj D kh;rw[g]at e;cases e
    have CC:∀x∈xs,x.en.length<=60/\∀y∈x.en,(∃j,y.key=tx (lN (j+1)))∨∃n i,y.key=tx (dL nm n i):=λx hx=>by
     obtain⟨j,hj⟩:=getElem?_of_mem hx;have J8:=(Zgs.mp hj).1;have Wo:j<m.length:=by rw[<- U.lx];exact J8
     have:=(U.bnd j _ x (bR Wo) hj).2.2;have:=rq m[j];exact⟨Zo,(U.ok x hx).kin⟩
    have Wq:∀ {z:SA}{H a:Hp}{x:SS}{b8:Nat},StAt C H z x b8->Fs z H a->TK H a:=λh f=>h.tk f
    have RW:=M IU;have RY:=M IV;have NI:=Wn GN;have GO:=Q _ _ GK;have GP:=Q _ _ ND;refine aN (λu a=>∃(o9 z9:Option V)(G:List SS),u=[some (.ref a5),some (.ref d),some (.ref lm),some (.str (tx nm)),some (.int (i:Int)),some (.ref r),some (.ref E),some (.ref wl),some (.ref I),o9,z9,B4]/\Fin C J nm (cH p) a E m l G os (60+m.length)/\(∀x∈G,Ra nm x)/\Fa d b l uj a/\Dk a d b) (λyg m5=>?_) ?_
    ·refine⟨I,rfl,⟨_,YT om.lst⟩,bS (bB K I (s.map V.ref)) (λk u a=>∃(o9 z9:Option V)(G:List SS),u=[some (.ref a5),some (.ref d),some (.ref lm),some (.str (tx nm)),some (.int (i:Int)),some (.ref r),some (.ref E),some (.ref wl),some (.ref I),o9,z9,B4]/\Fin C J nm (cH p) a E m l G os (60+k)/\(∀x∈G,Ra nm x)/\(∀j,k<=j->G[j]?=xs[j]?)/\Fa d b l uj a/\Dk a d b) (λk u a ⟨_,_,_,_,_,_,_,fa,_⟩=>YT (fa _ _ om.lst (xr.ne GN).1 (xr.ne GN).2 NI))
      ⟨_,_,xs,rfl,NG,λx hx=>⟨le_succ_of_le (CC x hx).1,λy Y=>((CC x hx).2 y Y).imp_right .inl⟩,λ_ _=>rfl,λ_ _ e _ _ _=>e,xr.same Q⟩ ?_ ?_⟩
     ·rintro k v u sm O ⟨GD,vi,G,rfl,Z,kf,RZ,S,GQ⟩;rw[dH]at O;cases hb:s[k]? with
      | none=>rw[hb]at O;cases O
      | some LR=>
       rw[hb]at O;cases O;have hk:=(Zgs.mp hb).1;have xo:m[k]?=some (m[k]'Zo):=bR _;have si:l[k]?=some (l[k]'(by rw[W5.lz];omega)):=bR _;have sj:xs[k]?=some (xs[k]'(by rw[W5.lx];omega)):=bR _;generalize m[k]'Zo=a4 at xo;generalize l[k]'(by rw[W5.lz];omega)=z at si;generalize xs[k]'(by rw[W5.lx];omega)=x at sj;have Q4:=cP si;have Wr:=om.at_ k LR a4 z hb xo si;have tz:∀ {c:ZT}{L:List V},uj c=some (.tup L)->sm c=some (.tup L):=λ{c L} e=>S _ _ e (λz'=>by subst z';obtain⟨_,_,_,SD,_,_⟩:=(xr.same Q).ex;rw[e]at SD;cases SD) (λz'=>by subst z';obtain⟨_,_,_,_,SE,_⟩:=(xr.same Q).ex;rw[e]at SE;cases SE) (λz' O9 g=>by
        obtain⟨o,e',n⟩:=U.obj O9 g;rw[Q _ _ e']at e;cases e;exact n _ rfl)
       have NJ:=tz Wr;have GR:G[k]?=some x:=by rw[RZ k (bH _)];exact sj
       have st:=Z.at_ k z x si GR;have kx:=CC x (cP sj);have Ws:tx nm++("x1a":Str)=tx (Gd nm):=by
        rw[show("x1a":Str)=tx [120,49,97] by decide +kernel,cF];rfl
       refine⟨LR,_,rfl,YU NJ,rfl,_,_,rfl,_,_,rfl,rfl,?_⟩;refine⟨z.a.dx,_,st.hs.hp,cR z.a Zk Zk Zk,cX (by have:=B8.five;show(tx nm).length+("x1a":Str).length<=1000;rw[aV,show("x1a":Str).length=3 by decide +kernel];omega),_,YT (S _ _ GO m0.1 m0.2.1 RW),_,rfl,_,YT (S _ _ GP m1.1 m1.2.1 RY),_,RV,aP rfl,λt MZ ly NA=>?_⟩;dsimp only [fR];rw[Ws];refine(Z.same ly).asked Zo si GR (Qv B8) (λn i=>Hq n i) (λhm=>?_) NA kl G8 Zo (λv NK x' zd GS Wu NL=>?_)
       ·obtain⟨y,Y,ey⟩:=Zmm.mp hm;rcases kx.2 y Y with⟨j,e⟩|⟨n,i,e⟩
        ·exact Qw B8 _ (ey.symm.trans e)
        ·exact Hq n i (ey.symm.trans e)
       ·refine⟨_,_,_,rfl,zd,λx0 yd=>?_,λj hj=>?_,λc o e W q2 X=>GS _ _ (ly _ _ (S _ _ e W q2 X)) (X z Q4),Dk.fs (GQ.same ly) GS (M GI z Q4) (M GJ z Q4)⟩
        ·rcases List.mem_or_eq_of_mem_set yd with h|h
         ·exact kf x0 h
         ·rw[h];exact⟨Zo,λy Y=>by
           rcases NL y Y with Y|Y
           ·exact(kx.2 y Y).imp_right .inl
           ·exact .inr (.inr Y)⟩
        ·rw[getElem?_set_ne Zo];exact RZ j Zo
     ·rintro u sm ⟨GD,vi,G,rfl,Z,kf,_,S,GQ⟩;rw[bA,ue]at Z;exact m5 _ _ ⟨_,_,G,rfl,Z,kf,S,GQ⟩
    rintro _ sm ⟨GD,vi,G,rfl,Z,kf,S,GQ⟩;have SF:∀c∈a6,∀o,H5 c=some o->sm c=some o:=λc g o e=>S _ _ (Q _ _ (zc _ _ (k6 _ _ e (B c g).1 (B c g).2.1) (B c g).1 (B c g).2.1)) (B c g).1 (B c g).2.1 (M (k6 _ _ e (B c g).1 (B c g).2.1))
    have Wv:MenusAt sm lm a6:=IT.keep SF;have Ww:=xr.same Q;obtain⟨XY,XZ,IK,Wx,OU,Ya⟩:=Ww.ex;have CD:TK uj sm:=λc L e=>S _ _ e (bD e Wx (λz=>nomatch z)) (bD e OU (λz=>nomatch z)) (λz D g=>by
     obtain⟨o,e',n⟩:=U.obj D g;rw[Q _ _ e']at e;cases e;exact n _ rfl)
    have Wy:TK H6 xq:=λc L e=>zc _ _ e (bD e GI nofun) (bD e GJ nofun)
    have SG:RxsAt sm r p as:=(R6.keep Wy (zc _ _ R6.lst BJ BK)).keep (λc L e=>CD _ _ (Q _ _ e)) (S _ _ (Q _ _ (zc _ _ R6.lst BJ BK)) BJ BK (M R6.lst));have GU:HlAt sm I m l s:=⟨S _ _ om.lst (xr.ne GN).1 (xr.ne GN).2 NI,om.len,λj a' a4 z W q2 X=>CD _ _ (om.at_ j a' a4 z W q2 X)⟩;have NM:sm wl=some (.lst (bs.map V.ref)):=S _ _ (Q _ _ (CB _ _ DE DP.1 DP.2 DF)) DP.1 DP.2 DF;have Wz:TK H9 xq:=λc L e=>CB _ _ e (bD e (xp _ _ GI) (λz=>nomatch z)) (bD e (xp _ _ GJ) (λz=>nomatch z)) (λz D g=>by
     obtain⟨o,e',n⟩:=(RP.same s9).obj D g;rw[e']at e;cases e;exact n _ rfl)
    have NN:Paired (WtAt sm) (cH p) bs:=Paired.map' (λ_ _ h=>((h.tk Wz).tk Q.tk).tk CD) RQ;have MN:∀o∈os,∀q,o=some q->∀vs,q.1=some vs->HDX vs:=λo ho q e vs e2=>by
     obtain⟨k,hk⟩:=getElem?_of_mem ho;have AK:k<(cH p).length:=by rw[<- U.lo];exact(Zgs.mp hk).1
     have AL:(cH p)[k]?=some (cH p)[k]:=bR AK;obtain⟨j,hj⟩:=getElem?_of_mem (nj _ (getElem_mem AK)).h;have J8:=(Zgs.mp hj).1;have W0:xs[j]?=some (xs[j]'(by rw[U.lx];exact J8)):=bR _;generalize xs[j]'(by rw[U.lx];exact J8)=x at W0;have T1:=cP W0;rw[e]at hk;obtain⟨y',kz,_,e3⟩:=(U.kv j _ x hj W0).to_ k _ q AL rfl hk;obtain⟨y,Y,es⟩:=((U.ok x T1).back y' kz).2;have e4:y.dd.map (·.2)=some vs:=by rw[es.2.1,<- e2,<- e3];rfl
     cases hd:y.dd with
     | none=>rw[hd]at e4;cases e4
     | some z=>
      rw[hd]at e4;have:=((U.ok x T1).said y Y).1 z hd;injection e4 with e4
      rw[<- e4];exact this
    have rl:=mw.six;refine⟨J,nm,wl,E,cH p,bs,m,l,G,os,60+m.length,rfl,B8,NM,NN,Z,V9,P0,nj,MN,hW,λbd v MZ II O ly=>?_⟩;dsimp only [aK];have AN:∀ {H:Hp}{v v':V}{GV:Option (Nat×Nat)},BadIs (cH p) os GV->jD H GV v'->jD H bd v->∃n t,n<=50/\Rep H n t v'/\Rep H n t v:=λ{H v v' GV} V8 h1 h2=>by
     have:=II.uniq V8;subst this;cases bd with
     | none=>rw[show v'=.non from h1,show v=.non from h2];exact⟨0,.sc .non,Zd,⟨rfl,rfl⟩,⟨rfl,rfl⟩⟩
     | some z=>
      obtain⟨c,rfl,b5⟩:=h1;obtain⟨c',rfl,g'⟩:=h2;exact⟨1,.tp [.sc (.int (z.1:Int)),.sc (.int (z.2:Int))],Zd,⟨c,_,rfl,b5,.cons ⟨rfl,rfl⟩ (.cons ⟨rfl,rfl⟩ .nil)⟩,⟨c',_,rfl,g',.cons ⟨rfl,rfl⟩ (.cons ⟨rfl,rfl⟩ .nil)⟩⟩
    have IY:∀ {H a:Hp}{v:V},TK H a->jD H bd v->jD a bd v:=λ{H a v} tk h=>by
     cases bd with
     | none=>exact h
     | some z=>obtain⟨c,e,b5⟩:=h;exact⟨c,e,tk _ _ b5⟩
    refine gA (λc a=>c=false/\Same sm a/\jD a bd v) (λkk Q3=>?_) ?_ ?_
    ·refine⟨J,nm,r,I,E,p,as,m,l,s,G,os,60+m.length,rfl,B8,SG.same ly,Y9,qv,hok,GU.same ly,Z.same ly,Zo,V9,xn,rl,P0,nj,λGV v' NK V8 ki qw=>?_⟩;obtain⟨n,t,e1,e2,e3⟩:=AN V8 ki (IY qw.tk O);exact⟨n,t,e1,e2,e3,Q3 _ _ ⟨rfl,ly.trans qw,IY qw.tk O⟩⟩
    ·rintro _ ⟨e,_⟩;cases e
    rintro NK ⟨_,qw,NO⟩;dsimp only [eK];have u2:=mu.two;have SH:=SG.same qw;have vm:=GU.same qw;have zd:=Z.same qw;have NP:s[0]?=some (s[0]'Zo):=bR _;have IC:m[0]?=some (m[0]'Zo):=bR _;have xl:l[0]?=some (l[0]'(by rw[Z.lz];omega)):=bR _;have yd:G[0]?=some (G[0]'(by rw[Z.lx];omega)):=bR _;generalize s[0]'Zo=hh at NP;generalize m[0]'Zo=a4 at IC;generalize l[0]'(by rw[Z.lz];omega)=z at xl;generalize G[0]'(by rw[Z.lx];omega)=x at yd;have Q4:=cP xl;have GW:=zd.at_ 0 z x xl yd;have kx:=kf x (cP yd);have NQ:=qw _ _ (S _ _ GO m0.1 m0.2.1 RW);have NR:=qw _ _ (S _ _ GP m1.1 m1.2.1 RY);refine aN (λu a=>∃CF:List SS,u=[some (.ref a5),some (.ref d),some (.ref lm),some (.str (tx nm)),some (.int (i:Int)),some (.ref r),some (.ref E),some (.ref wl),some (.ref I),GD,vi,some v]/\Fin C J nm (cH p) a E m l CF os (60+m.length+1)/\Fs z NK a) (λyg m5=>?_) ?_
    ·refine⟨_,YT vm.lst,.ref hh,cE (j:=0) (by rw[dH,NP];rfl),_,YU (vm.at_ 0 hh a4 z NP IC xl),_,rfl,z.a.dx,_,GW.hs.hp,cR z.a Zk Zk Zk,_,YT NQ,_,rfl,_,YT NR,_,RV,aP rfl,λt Yb SI WA=>?_⟩;dsimp only [fR];rw[Qx];refine(zd.same SI).asked Zo xl yd ⟨by rw[aV];decide,by rw[aV];decide,by rw[iM];decide⟩ (λn i=>Hr B8 n i) (λhm=>?_) WA kl G8 (by have:=kx.1;omega) (λv' IZ x' CG oq _ _=>?_)
     ·obtain⟨y,Y,ey⟩:=Zmm.mp hm;rcases kx.2 y Y with⟨j,e⟩|⟨n,i,e⟩|e
      ·exact Qy j (ey.symm.trans e)
      ·exact Hr B8 n i (ey.symm.trans e)
      ·exact Qz B8 (ey.symm.trans e)
     ·exact m5 _ _ ⟨_,rfl,CG,λc o e n=>oq _ _ (SI _ _ e) n⟩
    rintro _ IZ ⟨CF,rfl,CG,oq⟩;have CH:=GW.tk oq;have WB:RxsAt IZ r p as:=SH.keep CH (oq _ _ SH.lst (M R6.lst z Q4));have NS:HlAt IZ I m l s:=⟨oq _ _ vm.lst (NI z Q4),vm.len,λj a' a4 z' W q2 X=>CH _ _ (vm.at_ j a' a4 z' W q2 X)⟩;refine kN (λc a=>c=false/\Same IZ a) (λkk Q3=>?_) ?_ ?_
    ·refine⟨J,nm,r,I,E,p,as,m,l,s,CF,os,_,rfl,B8,WB,Y9,qv,hok,NS,CG,Zo,V9,xn,rl,P0,nj,λGV v' WC V8 ki GX=>?_⟩;obtain⟨n,t,e1,e2,e3⟩:=AN V8 ki (IY GX.tk (IY CH NO));exact⟨n,t,e1,e2,e3,Q3 _ _ ⟨rfl,GX⟩⟩
    ·rintro _ ⟨e,_⟩;cases e
    ·rintro WC ⟨_,GX⟩;refine⟨_,_,_,_,_,_,_,_,rfl,IT.keep λc g o e=>?_,(Dk.fs (GQ.same qw) oq (M GI z Q4) (M GJ z Q4)).same GX⟩;exact GX _ _ (oq _ _ (qw _ _ (SF c g o e)) (M (k6 _ _ e (B c g).1 (B c g).2.1) z Q4))
   ·rintro u H5 _;exact b7 _ _ trivial
  rintro u H5 _;exact q H5
end
structure FA(K:W.Frag)(x:Str)(st:Stmt):Prop where
 ex:∃(f:ZT)(od an:Option ZT)(sl:Array (Option ZS))(oc kV dc pm cd ct:ZS),W.nsIn K mainGlobals x=some (some (.ref f))/\K.lookup f=some ⟨oc,od,.func (W.fnOf x x (bO st) (aS st) (aG st) .none kV dc pm an cd ct),sl⟩/\W.codeIn K cd x=true/\W.keepIn K (.ref f)=true
def FA.of{K:W.Frag}{x:Str}{st:Stmt}{f:ZT}{d e:Option ZT}{sl:Array (Option ZS)}{g kV h i b j:ZS}(a:W.nsIn K mainGlobals x=some (some (.ref f)))(l:K.lookup f=some ⟨g,d,.func (W.fnOf x x (bO st) (aS st) (aG st) .none kV h i e b j),sl⟩)(c:W.codeIn K b x=true)(k:W.keepIn K (.ref f)=true):FA K x st:=⟨f,d,e,sl,g,kV,h,i,b,j,a,l,c,k⟩
def QAL:Nat->(List ZS->Prop)->Prop
 |0,P=>P []
 |n+1,P=>∀a,QAL n λr=>P (a::r)
def qAL{P:List ZS->Prop}:∀us{n},us.length=n->QAL n P->P us
 |[],_,rfl,h=>h
 |a::r,_,rfl,h=>qAL (P:=λr=>P (a::r)) r rfl (h a)
def qAl{P:List ZS->Prop}{n}(h:QAL n P):∀us,us.length=n->P us:=λus a=>qAL us a h
def FA.at{K:W.Frag}{x:Str}{st:Stmt}{ps:List Str}{h:Heap}{mg:Z7}(F:FA K x st)(X:K.In h)(G:h.Ns mainGlobals mg)(j:∀(kV g b:ZS)(d:Option ZT)(i e:ZS)(us:List ZS),us.length=ps.length->bindArgs (W.fnOf x x (bO st) (aS st) (aG st) .none kV g b d i e) ⟨us,[]⟩=pure (ps.zip us):=by intro _ _ _ _ _ _;refine qAl ?_;(iterate 9 try intro _);rfl):DefAt K mg x st ps:=by
 obtain⟨f,m,d,sl,n,kV,o,b,p,e,a,l,c,k⟩:=F.ex;exact Kn X G a l c k j
structure MA(K:W.Frag)(C:ZT)(m qual:Str)(st:Stmt):Prop where
 ex:∃(f:ZT)(od an:Option ZT)(sl:Array (Option ZS))(oc kV dc pm cd ct:ZS),W.findIn K (.ref C) m=some (some (.ref f))/\W.isFn K (.ref f)=true/\K.lookup f=some ⟨oc,od,.func (W.fnOf m qual (bO st) (aS st) (aG st) .none kV dc pm an cd ct),sl⟩/\W.codeIn K cd qual=true/\W.keepIn K (.ref f)=true
def MA.of{K:W.Frag}{C:ZT}{m b:Str}{st:Stmt}{f:ZT}{e g:Option ZT}{sl:Array (Option ZS)}{h kV j n d o:ZS}(a:W.findIn K (.ref C) m=some (some (.ref f)))(i:W.isFn K (.ref f)=true)(l:K.lookup f=some ⟨h,e,.func (W.fnOf m b (bO st) (aS st) (aG st) .none kV j n g d o),sl⟩)(c:W.codeIn K d b=true)(k:W.keepIn K (.ref f)=true):MA K C m b st:=⟨f,e,g,sl,h,kV,j,n,d,o,a,i,l,c,k⟩
def MA.at{K:W.Frag}{C:ZT}{m b:Str}{st:Stmt}{ps:List Str}(F:MA K C m b st)(n:Cls K C)(o:∀(kV h d:ZS)(e:Option ZT)(j g:ZS)(us:List ZS),us.length=ps.length->bindArgs (W.fnOf m b (bO st) (aS st) (aG st) .none kV h d e j g) ⟨us,[]⟩=pure (ps.zip us):=by intro _ _ _ _ _ _;refine qAl ?_;(iterate 9 try intro _);rfl):MethAt K C m b st ps:=by
 obtain⟨f,p,e,sl,q,kV,r,d,s,g,a,i,l,c,k⟩:=F.ex;exact⟨n,_,_,kB l c k,⟨a,i,k⟩,(kB (st:=st) l c k).binds o⟩
def Ng{l:W.OpenLaw}{w:World}{K:W.Frag}{a0:Heap}{mg:Z7}{fa f:ZT}(X:K.In a0)(G:a0.Ns mainGlobals mg)(WD:mg "law"=some (.ref fa)){CI m:Option ZT}{CJ:Array (Option ZS)}{CK n o p g q:ZS}(N6:FA K "is_name" sq)(T3:FA K "is_key" vw)(G9:FA K "is_whole" ou)(A4:FA K "is_made_of" Z0)(N7:FA K "is_deed" sr)(E1:FA K "fits_word" me)(N8:FA K "asks_of" su)(q0:FA K "done_changes" T4)(T5:FA K "key_of" lg)(A5:FA K "by_numbers" K6)(q9:FA K "first_unlike" C9)(A6:FA K "entries_of" K9)(E2:FA K "due_words" C8)(E3:FA K "check_key" O5)(J0:FA K "_law_deck" Q8)(J1:FA K "_law_draw" Q9)(A7:FA K "_law_unlike" j4)(N9:FA K "_law_end" X6)(J2:FA K "_law_deed" R1)(E4:FA K "_law_words" B9)(A8:FA K "_law_answer" K2)(E5:FA K "_law_menus" O4)(J3:FA K "_law_spot" R9)(J4:FA K "_law_body" c9)(A9:FA K "_law_places" K7)(J5:FA K "_law_want" G7)(E6:FA K "_law_wants" C5)(E7:FA K "_law_spare" O8)(w5:FA K "_law_brought" G4)(w9:FA K "_law_done_at" G5)(J6:FA K "_law_word" S6)(m6:FA K "_law_asks_made" B6)(O0:FA K "_law_due" Y0)(J7:FA K "_law_told" A3)(vx:W.nsIn K mainGlobals "law"=some (some (.ref f)))(vy:K.lookup f=some ⟨CK,CI,.func (W.fnOf "law" "law" (bO d) (aS d) (aG d) .none n o p m g q),CJ⟩)(vz:W.codeIn K g "law"=true)(wa:W.keepIn K (.ref f)=true){a:ZT}(T6:W.nsIn K mainGlobals "House"=some (some (.ref a)))(T7:W.plainGet K a Str.empty=true)(T8:W.hasDictIn K a=true)(T9:W.plainOver K a=true)(U0:W.findIn K (.ref a) "__setattr__"=some (some (.builtin "object.__setattr__")))(U1:W.makesIn K a=true)(U2:W.keepIn K (.ref a)=true)(m7:W.findIn K (.ref a) "amounts"=some none)(h8:W.findIn K (.ref a) "closed_names"=some none)(m8:W.findIn K (.ref a) "entries"=some none){e:ZT}{M0 M3:Option ZT}{M4:Array (Option ZS)}{M5 M6 M7 M8 r M9:ZS}{h:ZT}(j6:W.findIn K (.ref a) "__init__"=some (some (.ref e)))(j7:W.isFn K (.ref e)=true)(j8:K.lookup e=some ⟨M5,M0,.func (W.fnOf "__init__" "House.__init__" (bO i) (aS i) (aG i) (.ref h) M6 M7 M8 M3 r M9),M4⟩)(j9:W.codeIn K r "House.__init__"=true)(z7:W.keepIn K (.ref e)=true)(E8:MA K a "ask" "House.ask" O6)(l7:MA K a "try_deed" "House.try_deed" z6)(t9:MA K a "can_do" "House.can_do" C2)(B0:MA K a "undo" "House.undo" K4)(x3:MA K a "close" "House.close" G2)(u0:MA K a "reopen" "House.reopen" C3)(u3:MA K a "amount" "House.amount" C1)(B1:MA K a "rows" "House.rows" A0)(B2:MA K a "kept" "House.kept" A1){wb:Option ZT}{t:List ZS}{wc:Nat}{sv:Array (Option ZS)}(U4:K.lookup h=some ⟨.type "tuple",wb,.seq (toArray t) wc,sv⟩)(U5:t=[.none,.none])(B3:W.nsIn K mainGlobals "isinstance"=some none)(we:W.nsIn K mainGlobals "int"=some none)(oy:W.nsIn K mainGlobals "bool"=some none)(wg:W.nsIn K mainGlobals "all"=some none)(wj:W.nsIn K mainGlobals "str"=some none)(wk:W.nsIn K mainGlobals "len"=some none)(Z2:W.nsIn K mainGlobals "tuple"=some none)(oz:W.nsIn K mainGlobals "dict"=some none)(U6:W.nsIn K mainGlobals "sorted"=some none)(wm:W.nsIn K mainGlobals "sum"=some none)(pf:W.nsIn K mainGlobals "list"=some none)(Z3:W.nsIn K mainGlobals "range"=some none)(wq:W.nsIn K mainGlobals "min"=some none)(wt:W.nsIn K mainGlobals "max"=some none)(E9:W.nsIn K mainGlobals "enumerate"=some none){sx:Tok}(O1:W.nsIn K mainGlobals "LETTERS"=some (some (.str ("abcdefghijklmnopqrstuvwxyz") sx))){tf:Tok}(O2:W.nsIn K mainGlobals "FIGURES"=some (some (.str ("0123456789") tf))){U7:Tok}(u4:W.nsIn K mainGlobals "LONGEST_NAME"=some (some (.int (8) U7))){W6:Tok}(x4:W.nsIn K mainGlobals "LONGEST_KEY"=some (some (.int (12) W6))){CL:Tok}(ph:W.nsIn K mainGlobals "MOST"=some (some (.int (1000000000000) CL))){j:ZT}{u:List DictEntry}{W7:Nat}(x6:W.nsIn K mainGlobals "NAME_COUNTS"=some (some (.ref j)))(x8:K.lookup j=some ⟨.type "dict",none,.dict (toArray u) W7,#[]⟩)(x9:Sx w.params u (WS))(y6:(j==sysModules)=false){x:ZT}{y:List ZS}{P9:Option ZT}{U8:Nat}{Q0:Array (Option ZS)}(u5:W.nsIn K mainGlobals "UNLIKE_WORDS"=some (some (.ref x)))(u7:K.lookup x=some ⟨.type "tuple",P9,.seq (toArray y) U8,Q0⟩)(z:Vals (UW) y){A:ZT}{B:List ZS}{U9:Option ZT}{W8:Nat}{V0:Array (Option ZS)}(y7:W.nsIn K mainGlobals "HOUSE_WORDS"=some (some (.ref A)))(y8:K.lookup A=some ⟨.type "tuple",U9,.seq (toArray B) W8,V0⟩)(D:Vals ([V.str "add",.str "take"]) B){E:ZT}{F:List ZS}{ze:Option ZT}{CM:Nat}{zf:Array (Option ZS)}(pj:W.nsIn K mainGlobals "ENDS"=some (some (.ref E)))(pk:K.lookup E=some ⟨.type "tuple",ze,.seq (toArray F) CM,zf⟩)(H:Vals ([V.str ("a":Str),V.str ("b":Str)]) F)
  : ∃I:FuncData,(∀(s:ZR)(v:ZS),BindsTo s I ⟨[v],[]⟩ [("_law_script",v)])/\∀base:Heap,K.In base->base.Ns mainGlobals mg->eN l.prog w K mg base jL 10 fa I ZC (uM K):=by
 have a1:=WD.symm.trans (W.mg_of X G vx);cases a1;have T:Txt K mg:=⟨W.mg_none_of X G B3,W.mg_none_of X G we,W.mg_none_of X G oy,W.mg_none_of X G wg,W.mg_none_of X G wj,W.mg_none_of X G wk,W.mg_none_of X G Z2,W.mg_none_of X G oz,W.mg_none_of X G U6,W.mg_none_of X G wm,W.mg_none_of X G pf,W.mg_none_of X G Z3,W.mg_none_of X G wq,W.mg_none_of X G wt,W.mg_none_of X G E9,⟨_,W.mg_of X G O1⟩,⟨_,W.mg_of X G O2⟩,⟨_,W.mg_of X G u4⟩,⟨_,W.mg_of X G x4⟩,⟨_,W.mg_of X G ph⟩⟩;have U:Top w.params K mg:=⟨⟨_,W.mg_of X G x6,⟨_,_,x8,x9,y6⟩⟩,⟨_,W.mg_of X G u5,λ_=>.inr ⟨_,_,_,u7,rfl,rfl,by rw[cO,<- z.length];decide,z⟩⟩,⟨_,W.mg_of X G y7,λ_=>.inr ⟨_,_,_,y8,rfl,rfl,by rw[cO,<- D.length];decide,D⟩⟩,⟨_,W.mg_of X G pj,λ_=>.inr ⟨_,_,_,pk,rfl,rfl,by rw[cO,<- H.length];decide,H⟩⟩⟩;have b:Cls K a:=⟨T7,T8,T9,U0⟩;subst U5;have zg:ClsAt K mg "House" a "House.__init__" i Zr [[.non,.non]]:=⟨e,_,_,W.mg_of X G T6,⟨_,_,_,_,_,_,_,_,_,rfl,j8,j9⟩,⟨U1,j6,j7,U2⟩,by
  intro a2 hd;obtain rfl:=Zms.mp hd
  ·exact⟨[.none,.none],λs J KI L=>by replace L:J.length=1:=(by simpa using L);revert J;refine qAl ?_;intro _;exact BindsTo.of_defaults (T:=h) rfl (KI _ _ U4) rfl rfl rfl,(.cons rfl (.cons rfl .nil))⟩⟩
 refine⟨W.fnOf "law" "law" (bO d) (aS d) (aG d) .none n o p m g q,λs v=>.of_eq rfl,λbase _ _=>?_⟩;have GY:=kB (st:=d) vy vz wa;have HT:tQ K a:=⟨b,m7,h8,m8⟩;have M:=JA (P:=l.prog) (w:=w) (base:=base) T (A4.at X G);have c4:=CN T M (N6.at X G);have ck:=DQ T M (T3.at X G);have c5:=GZ (P:=l.prog) (w:=w) (base:=base) T (G9.at X G);have c6:=JB T U c4 (E1.at X G);have c7:=CO T c6 c5 (N7.at X G);have N:=CP (P:=l.prog) (w:=w) (base:=base) T (q0.at X G);have ca:=JC (P:=l.prog) (w:=w) (base:=base) T (N8.at X G);have cd:=Eu (P:=l.prog) (w:=w) (base:=base) T (J0.at X G);have c:=Aa (P:=l.prog) (w:=w) (base:=base) (J1.at X G);have O:=Ma T c (N9.at X G);have Q:=vZ T c (A7.at X G);have WE:=Ez T c O (J2.at X G);have cw:=Ag (P:=l.prog) (w:=w) (base:=base) T (E4.at X G);have cn:=wA T c O (A8.at X G);have WG:=Fc T c (J3.at X G);have cm:=Ai T c Q (E5.at X G);have cb:=Fo T c WE WG cw cn (J4.at X G);have k:=pX (P:=l.prog) (w:=w) (mg:=mg) (base:=base) HT (u3.at b);have iB:=Mj T HT k (t9.at b);have tr:=Ml T HT iB k N (l7.at b);have R:=Ap (P:=l.prog) (w:=w) (base:=base) T HT (x3.at b);have WH:=wE (P:=l.prog) (w:=w) (base:=base) T HT (u0.at b);have S:=oH T ck (E3.at X G);have ask:=Mm T U HT S c7 tr (E8.at b);have und:=Fp T HT S k N (B0.at b);have hi:=Ar T HT R zg;have WI:=Au (P:=l.prog) (w:=w) (base:=base) T HT (B1.at b);have Y:=Ax (P:=l.prog) (w:=w) (base:=base) T HT (B2.at b);have WJ:=Mo (P:=l.prog) (w:=w) (base:=base) T U (T5.at X G);have WK:=lM (P:=l.prog) (w:=w) (base:=base) (A5.at X G);have Z:=wF (P:=l.prog) (w:=w) (base:=base) T (A9.at X G);have WL:=Ft T Z (J5.at X G);have WM:=Bb T Z WL (E6.at X G);have WN:=Be T HT ask (E7.at X G);have WO:=λws nm=>sA (ws:=ws) (nm:=nm) T HT ask und R WH (rZ T WN (w5.at X G)) (w9.at X G)
 have WQ:=Fv T c (J6.at X G);have WR:=oQ T c WQ WO (m6.at X G);have WT:=Ms (P:=l.prog) (w:=w) (base:=base) (C:=a) T (O0.at X G);have WU:=sI T Y (A6.at X G);have WV:=oS (P:=l.prog) (w:=w) (base:=base) T (E2.at X G);have WW:=λws nm=>Bt (ws:=ws) (nm:=nm) T WU WK ca WV WJ (q9.at X G)
 have WX:=Gc T WW WI Y (J7.at X G);exact Nf T cd cm Q c cb (hi [.non,.non] Zs) WM WR ask WT WX GY
def Tm{l:W.OpenLaw}{q:Program}{e:List Str}{g:(Str->Option ZS)->Heap->Prop}{b:World->Heap->Prop}{d:DefRec}{K:Params->W.Frag}(i:l.most=some 63)(j:d.params.defaults=[])(m:∀(w:World)(h:Heap),b w h->(K w.params).In h)(F:∀(w:World)(mg:Z7)(fa:ZT)(h:Heap),(K w.params).In h->h.Ns mainGlobals mg->mg d.name=some (.ref fa) →
   ∃c:FuncData,(∀(s:ZR)(u:ZS),BindsTo s c ⟨[u],[]⟩ [("_law_script",u)])/\∀base:Heap,(K w.params).In base->base.Ns mainGlobals mg->eN l.prog w (K w.params) mg base jL 10 fa c ZC (uM (K w.params))) :
  W.WalkO q e g b l.row.toRowW d [] (λf vs=>PySem.call f vs):=
 L2.sW (n:=63) (k:=10) (x:="_law_script") (CX:=λ_=>jL) (sp:=λw=>uM (K w.params)) i Zd j ⟨rfl,Zd,Zd⟩ m F (λ_ _ a o p _ r=>⟨a,o,rfl,r,p,λ_=>rfl⟩) λ_ _ _ _ _ z=>z
end KL
namespace PySem.W.Fast
def tw9428429893186493789:=0
def tw17929326420774641624:=0
def tw7622345156645926018:=0
def tw4526562061771710207:=0
def tw9983853360272325744:=0
def tw11431236532093534759:=0
def tw918842849752419860:=0
def tw11980074549951978673:=0
def tw9469423002916398298:=0
def tw16942769533572760454:=0
def tw5548376398291477429:=0
def tw10818147054337808915:=0
def tw7101470725177043799:=0
def tw14066106182819695335:=0
def tw14622389950997577529:=0
def tw8600596014638564499:=0
def tw110110547334844703:=0
def tw16308848694494210724:=0
def tw17348208036593267739:=0
def tw17934796577493439426:=0
def tw12237956385539701424:=0
def tw7135998850332081554:=0
def tw12817648550436798490:=0
def tw990770089669588752:=0
def tw2645594948857554004:=0
def tw496121713777821164:=0
def tw113232634245913167:=0
def tw6870270055696009103:=0
def tw9093234346613740685:=0
def tw9324089826341896339:=0
def tw16735908010122480998:=0
def tw18114716235886891490:=0
def tw4044778821569341143:=0
def tw14685822977397070182:=0
def tw12887381865802356952:=0
def tw8383211695425270067:=0
def tw10338561205875683786:=0
def tw3373131513303563042:=0
def tw5610565147908271290:=0
def tw7367483235248839854:=0
def tw10174428774091751829:=0
def tw14476595610846257295:=0
def tw9255753897563110506:=0
def tw9634910688327717857:=0
def tw3687588966594849095:=0
def tw1681683493011991898:=0
def tw11639992920757244598:=0
def tw2755876587129427379:=0
def tw9559744127388338906:=0
def tw10904595920428554591:=0
def tw4821865327227570980:=0
def tw17191833201352252914:=0
def tw7674050042989123217:=0
def tw13628948825135425680:=0
def tw16653743879138616834:=0
def tw6237107912907214674:=0
def tw655528592330752531:=0
def tw7764374491305867285:=0
def tw7679109691550164284:=0
def tw1594163104554261719:=0
def tw18080140426174293406:=0
def tw9585306023496503552:=0
def tw10711925612210733814:=0
def tw8008977740940993183:=0
def tw15248662934931770766:=0
def tw1094259011885228364:=0
def tw12019652236443102547:=0
def tw12131768042888525144:=0
def tw8089872694303093916:=0
def tw2435401201704655728:=0
def tw9126315837118242605:=0
def tw3654812688892162777:=0
def tw170505033933889702:=0
def tw7862192406899629722:=0
def tw9890642637653511173:=0
def tw13929415827404623060:=0
def tw17585896735987836455:=0
def tw12947184777022886143:=0
def tw4393014204513357886:=0
def tw17872642050111350317:=0
def tw10760727854473853234:=0
def tw4172942414003797546:=0
def tw12592443190388627325:=0
def tw11797326789605281498:=0
def tw11832836396354521302:=0
def tw6336204149520367599:=0
def tw15116787438276428582:=0
def tw16093598178421496019:=0
def tw10976163497956881842:=0
def tw7601327813047336780:=0
def tw14481182455751585939:=0
def tw10845617577750327119:=0
def tw12747501742189309656:=0
def tw12710322451000111078:=0
def tw6197728636297855929:=0
def tw564627697770901849:=0
def tw1790414813750465845:=0
def tw5864338227274538565:=0
def tw10757729490429132568:=0
def tw5539538067686815059:=0
def tw7515217127163199480:=0
def tw7957391353369700477:=0
def tw4371863205587354022:=0
def tw2400327020564177086:=0
def tw11536849850602671574:=0
def tw14040611014769175391:=0
def tw6658984632891661371:=0
def tw5381610883087499915:=0
def tw8195196236247911435:=0
def tw17148272338180450901:=0
def tw17532654073519984703:=0
def tw7854553065215956886:=0
def tw3773462274971280569:=0
def tw10943012411464326874:=0
def tw16048391089313349353:=0
def tw1296445462809372638:=0
def tw12666311628328755270:=0
def tw4691498240724665495:=0
def tw12642646058756202489:=0
def tw4167333567869716581:=0
def tw12888602432351332166:=0
def tw7019512841276607598:=0
def tw11336494945928932127:=0
def tw3028988162257913447:=0
def tw1318692912419035003:=0
def tw13549836503748480128:=0
def tw2631765600484514681:=0
def tw6407268767855281420:=0
def tw7515641477193676787:=0
def tw16524064383074282554:=0
def tw17528938041469352018:=0
def tw15217926623094064479:=0
def tw3372659095987634490:=0
def tw3171013692792618223:=0
def tw3234817463501490524:=0
def tw4950317480849512797:=0
def tw2375467554805557576:=0
def tw8200313117959317076:=0
def tw14121040721453466496:=0
def tw17037081119539347145:=0
def tw3241495960556520955:=0
def tw4280814278731438665:=0
def tw12691767524730393897:=0
def tw8598582006377007785:=0
def tw13344588837083594655:=0
def tw14091031761826084750:=0
def tw2602707894451922551:=0
def tw17812116116316793445:=0
def tw9920635300638992148:=0
def tw5863412200800179475:=0
def tw10906576423807534398:=0
def tw6428282531781024831:=0
def tw11983287429362116262:=0
def tw6861007984344853955:=0
def tw6511193459891054550:=0
def tw2220995251171481066:=0
def tw14619070668373894905:=0
def tw17636051734782742118:=0
def tw17148053484273550233:=0
def tw2076743884324981299:=0
def tw15389884508762263124:=0
def tw6591697840774303791:=0
def tw18379238438616054368:=0
def tw542529298153931021:=0
def tw2542314571910237010:=0
def tw13001456855558013427:=0
def tw12815695334271673897:=0
def tw2340579545664577699:=0
def tw13373512272497843769:=0
def tw7879113494063913684:=0
def tw4285237563753256022:=0
def tw5732412499149121006:=0
def tw15877958744846580187:=0
end PySem.W.Fast
open PySem PySem.W PyProof.Rows
set_option maxRecDepth 100000 in
set_option maxHeartbeats 0 in
theorem PySem.Challenge.cw_oncedoor_k73_houses_unlike_holds : PySem.Challenge.rw_oncedoor_k73_houses_unlike.Holds := by
 w_on;o_law;k_head;(case hw=>w_witness2)
 k_fill
 refine KL.Tm (l:=PySem.Challenge.rw_oncedoor_k73_houses_unlike) rfl rfl (λw h Y=>W.kIn_of Y) ?F
 case F=>
  intro w mg fa h KX G zk;refine' KL.Ng KX G zk ?N6 ?T3 ?G9 ?A4 ?N7 ?E1 ?N8 ?q0 ?T5 ?A5 ?q9 ?A6 ?E2 ?E3 ?J0 ?J1 ?A7 ?N9 ?J2 ?E4 ?A8 ?E5 ?J3 ?J4 ?A9 ?J5 ?E6 ?E7 ?w5 ?w9 ?J6 ?m6 ?O0 ?J7 ?vx ?vy ?vz ?wa ?T6 ?T7 ?T8 ?T9 ?U0 ?U1 ?U2 ?m7 ?h8 ?m8 ?j6 ?j7 ?j8 ?j9 ?z7 ?E8 ?l7 ?t9 ?B0 ?x3 ?u0 ?u3 ?B1 ?B2 ?U4 ?U5 ?B3 ?we ?oy ?wg ?wj ?wk ?Z2 ?oz ?U6 ?wm ?pf ?Z3 ?wq ?wt ?E9 ?O1 ?O2 ?u4 ?x4 ?ph ?x6 ?x8 ?x9 ?y6 ?u5 ?u7 ?j5 ?y7 ?y8 ?l8 ?pj ?pk ?Z4
  case N6|T3|G9|A4|N7|E1|N8|q0|T5|A5|q9|A6|E2|E3|J0|J1|A7|N9|J2|E4|A8|E5|J3|J4|A9|J5|E6|E7|w5|w9|J6|m6|O0|J7=>refine' KL.FA.of ?a ?l ?c ?k;(case a=>k_is);(case l=>k_is);(case c=>k_is);case k=>k_is
  case vx|vy|vz|wa|T6|T7|T8|T9|U0|U1|U2|m7|h8|m8|j6|j7|j8|j9|z7=>k_is
  case E8|l7|t9|B0|x3|u0|u3|B1|B2=>refine' KL.MA.of ?a ?i ?l ?c ?k;(case a=>k_is);(case i=>k_is);(case l=>k_is);(case c=>k_is);case k=>k_is
  case U4=>k_is
  case U5=>exact rfl
  case B3|we|oy|wg|wj|wk|Z2|oz|U6|wm|pf|Z3|wq|wt|E9|O1|O2|u4|x4|ph|x6|x8=>k_is
  case x9=>repeat (first | exact True.intro | refine And.intro ⟨_,rfl⟩ (And.intro rfl (And.intro ⟨_,rfl⟩ ?_)))
  case y6=>decide
  case u5|u7=>k_is
  case j5=>repeat (first | exact .nil | refine .cons ⟨_,rfl⟩ ?_)
  case y7|y8=>k_is
  case l8=>repeat (first | exact .nil | refine .cons ⟨_,rfl⟩ ?_)
  case pj|pk=>k_is
  case Z4=>repeat (first | exact .nil | refine .cons ⟨_,rfl⟩ ?_)
