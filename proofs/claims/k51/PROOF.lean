import PyProof.Rows.All
import Wide.All
import OpenK.AllK
import Wide.FinOn
import Lean
import PyProof.EqAt
import PyProof.EqKinds
import PyProof.TupleCall
import KE.KSortTup
import KE.KDictSum
import KE.KDictOf
import PyProof.AttrMissHeap
import OpenK.KRaise
import KE.KIsAll
import KE.KTryMore
import KE.RegKIsAll
import KE.RegKTryMore
import PyProof.NsDelKeeps
import PyProof.ExcArgs
import PyProof.FitsReplace
import PyProof.Rows.StrJoin2
import PySem.Challenge.RW_oncedoor_k51_the_book_that_comes_up
set_option Elab.async false
set_option linter.all false
set_option maxRecDepth 100000
set_option maxHeartbeats 4000000
theorem Zk {p:Prop} (h:p:=by decide +kernel):p:=h
theorem Zo {p:Prop} (h:p:=by omega):p:=h
theorem Zs {p:Prop} (h:p:=by simp):p:=h
theorem Zd {p:Prop} (h:p:=by decide):p:=h
def aR:=@List.length_map
def hJ:=@PySem.Heap.get?_push_of_some
def Zgs:=@List.getElem?_eq_some_iff
def iJ:=@List.getElem?_eq_getElem
def mF:=@List.mem_cons_of_mem
def Zmm:=@List.mem_map
def dW:=@List.map_append
def pN:=@List.length_append
def fS:=@List.getElem?_map
def hU:=@Nat.le_trans
def iW:=@List.mem_cons_self
def dM:=@List.size_toArray
def vA:=@List.length_take
def jD:=@List.take_of_length_le
def Zma:=@List.mem_append
def Zms:=@List.mem_singleton
def sQ:=@List.length_cons
def kI:=@Nat.lt_of_le_of_lt
def bC:=@Nat.le_refl
def fT:=@List.mem_of_getElem?
namespace L2
open PySem PySem.Spec PyProof.Rows
abbrev bB:=Sum Int Str
def lK:bB->Value->Bool
 | .inl k,v=>Value.isInt k v
 | .inr x,v=>Value.isStrOf x v
def Th (w:World):bB->Int
 | .inl k=>hashInt k
 | .inr x=>hashStr w x
theorem bI:∀ {k:bB} {v:Value},lK k v=true->(∃i t,k=Sum.inl i/\v=Value.int i t)∨(∃x t,k=Sum.inr x/\v=Value.str x t)
 | .inl i,v,h=>by
  obtain⟨t,e⟩:=Value.isInt_shape (k:=i) (v:=v) h
  exact .inl ⟨i,t,rfl,e⟩
 | .inr x,v,h=>by
  obtain⟨t,e⟩:=Value.isStrOf_shape (x:=x) (v:=v) h
  exact .inr ⟨x,t,rfl,e⟩
theorem yI (i:Int) (t:Tok):lK (.inl i) (.int i t)=true:=by simp [lK,Value.isInt]
theorem yJ (x:Str) (t:Tok):lK (.inr x) (.str x t)=true:=by simp [lK,Value.isStrOf]
theorem Kk (a b:Int):decide ((Sum.inl a:bB)=Sum.inl b)=(a == b):=by
 by_cases e:a=b
 ·subst e;simp
 ·have h:¬ (Sum.inl a:bB)=Sum.inl b:=fun q=>e (Sum.inl.inj q)
  rw[decide_eq_false h];exact(beq_eq_false_iff_ne.mpr e).symm
theorem Kl (a b:Str):decide ((Sum.inr a:bB)=Sum.inr b)=decide (a=b):=by
 by_cases e:a=b
 ·subst e;simp
 ·have h:¬ (Sum.inr a:bB)=Sum.inr b:=fun q=>e (Sum.inr.inj q)
  rw[decide_eq_false h,decide_eq_false e]
theorem Km (a:Int) (b:Str):decide ((Sum.inl a:bB)=Sum.inr b)=false:=decide_eq_false (fun q=>nomatch q)
theorem Kn (a:Str) (b:Int):decide ((Sum.inr a:bB)=Sum.inl b)=false:=decide_eq_false (fun q=>nomatch q)
def aY (prog:Program) (w:World):PySem.KeyKind prog w bB where
 is:=lK
 hash:=Th w
 inj:=fun v a b ha hb=>by
  rcases bI ha with⟨i,t,rfl,rfl⟩ | ⟨x,t,rfl,rfl⟩
  ·rcases bI hb with⟨j,u,rfl,e⟩ | ⟨y,u,rfl,e⟩
   ·injection e with e1 _;rw[e1]
   ·exact nomatch e
  ·rcases bI hb with⟨j,u,rfl,e⟩ | ⟨y,u,rfl,e⟩
   ·exact nomatch e
   ·injection e with e1 _;rw[e1]
 byValue:=fun k v h=>by
  rcases bI h with⟨i,t,rfl,rfl⟩ | ⟨x,t,rfl,rfl⟩ <;> rfl
 pyHash:=fun hv h=>by
  rcases bI hv with⟨i,t,rfl,rfl⟩ | ⟨x,t,rfl,rfl⟩
  ·exact wpAny_pyHash_int h
  ·exact wpAny_pyHash_str h
 eqBool:=fun hu hv h=>by
  rcases bI hu with⟨i,t,rfl,rfl⟩ | ⟨x,t,rfl,rfl⟩
  ·rcases bI hv with⟨j,u,rfl,rfl⟩ | ⟨y,u,rfl,rfl⟩
   ·rw[Kk]at h;exact wpAny_eqBool_int h
   ·rw[Km]at h;exact SeqAt.EqAt.int_str i t y u _ _ _ _ h
  ·rcases bI hv with⟨j,u,rfl,rfl⟩ | ⟨y,u,rfl,rfl⟩
   ·rw[Kn]at h;exact SeqAt.EqAt.str_int x t j u _ _ _ _ h
   ·rw[Kl]at h;exact wpAny_eqBool_str h
 «strs»:=fun k x t v h=>by
  rcases bI h with⟨i,u,rfl,e⟩ | ⟨y,u,rfl,e⟩
  ·exact nomatch e
  ·injection e with e1 _
   subst e1;cases v <;> rfl
theorem sU (prog:Program) (w:World) (i:Int) (t:Tok):(aY prog w).is (.inl i) (.int i t)=true:=yI i t
theorem sV (prog:Program) (w:World) (x:Str) (t:Tok):(aY prog w).is (.inr x) (.str x t)=true:=yJ x t
end L2
namespace L2
open PySem PySem.Spec PyProof.Rows
inductive V where
 | non | bl (b:Bool) | int (i:Int) | str (x:Str) | byt (b:Array UInt8) | flt (b:UInt64) | ref (a:Addr) | ty (n:String)
 deriving DecidableEq
def RelV:V->Value->Prop
 | .non,u=>u=Value.none
 | .bl b,u=>u=Value.bool b
 | .int i,u=>∃t,u=Value.int i t
 | .str x,u=>∃t,u=Value.str x t
 | .byt b,u=>∃t,u=Value.bytes b t
 | .flt b,u=>∃t,u=Value.float b t
 | .ref a,u=>u=Value.ref a
 | .ty n,u=>u=Value.type n
abbrev Vals:List V->List Value->Prop:=Paired RelV
theorem Vals.length {xs:List V} {us:List Value} (r:Vals xs us):xs.length=us.length:=Paired.length r
theorem Vals.get:∀ {xs:List V} {us:List Value} {i:Nat} {x:V},Vals xs us->xs[i]?=some x->∃u,us[i]?=some u/\RelV x u
 | _,_,_,_,.nil,e=>by simp at e
 | _,_,0,_,.cons r _,e=>by simp at e;subst e;exact⟨_,rfl,r⟩
 | _,_,i+1,x,.cons _ t,e=>by
  obtain⟨u,h1,h2⟩:=Vals.get (i:=i) (x:=x) t (by simpa using e)
  exact⟨u,by simpa using h1,h2⟩
theorem Vals.set {x:V} {u:Value} (r:RelV x u):∀ {xs:List V} {us:List Value} (i:Nat),Vals xs us->Vals (xs.set i x) (us.set i u)
 | _,_,_,.nil=>.nil
 | _,_,0,.cons _ t=>.cons r t
 | _,_,i+1,.cons q t=>.cons q (Vals.set r i t)
theorem Vals.append:∀ {xs ys:List V} {us ws:List Value},Vals xs us->Vals ys ws->Vals (xs++ys) (us++ws)
 | _,_,_,_,.nil,s=>s
 | _,_,_,_,.cons r t,s=>.cons r (Vals.append t s)
theorem Vals.take:∀ {xs:List V} {us:List Value} (n:Nat),Vals xs us->Vals (xs.take n) (us.take n)
 | _,_,0,_=>.nil
 | _,_,_+1,.nil=>.nil
 | _,_,n+1,.cons r t=>.cons r (Vals.take n t)
theorem Vals.drop:∀ {xs:List V} {us:List Value} (n:Nat),Vals xs us->Vals (xs.drop n) (us.drop n)
 | _,_,0,r=>r
 | _,_,_+1,.nil=>.nil
 | _,_,n+1,.cons _ t=>Vals.drop n t
def RelO:Option V->Option Value->Prop
 | some v,some u=>RelV v u
 | none,none=>True
 | _,_=>False
def KV {κ:Type}:List (κ × V)->List (κ × Value)->Prop:=Paired fun(p:κ × V) (q:κ × Value)=>p.1=q.1/\RelV p.2 q.2
def kV:bB->V
 | .inl i=>.int i
 | .inr x=>.str x
inductive HO where
 /-- a list -/
 | lst (xs:List V)
 /-- a tuple (never changes) -/
 | tup (xs:List V)
 /-- a dict whose keys are ints and texts;one whose keys are tuples of ints and texts (the empty one is both) -/
 | dK (kvs:List (bB × V)) | dT (kvs:List (List bB × V))
 /-- a set of ints: its members,its size -/
 | set (S:Int->Bool) (n:Nat)
 /-- an instance of the class at C,its dict at dx,its attributes -/
 | ins (C dx:Addr) (fs:List (Str × V))
 /-- the dict of the instance at x -/
 | own (x:Addr)
 /-- the dict of an exception -/
 | xd (fs:List (Str × V))
 /-- a bound method,f of x -/
 | met (f x:Addr)
 /-- a range object lo,lo+1,.. below hi -/
 | rng (lo hi:Int)
 /-- a thing that is known to the object (the script;a dict while a loop walks it): read,never written while it is so -/
 | frz (o:Obj) (u:HO)
 /-- a code object's table -/
 | tbl (ps:Array Value)
 /-- any other thing,by what is true of its one object (a def of one's own: SetO a S n:=HO.ext fun h=>..) -/
 | ext (φ:Heap->Prop)
abbrev Hp:=Addr->Option HO
def aI (H:Hp) (a:Addr) (o:HO):Hp:=fun b=>if b=a then some o else H b
theorem aA {H:Hp} {a:Addr} {o:HO}:aI H a o a=some o:=by unfold aI;rw[if_pos rfl]
theorem aE {H:Hp} {a b:Addr} {o:HO} (h:b≠a):aI H a o b=H b:=by unfold aI;rw[if_neg h]
theorem fM {H:Hp} {a b:Addr} {o u:HO} (h:H a=some o) (h':H b=some u) (d:o≠u):a≠b:=by
 intro e;subst e;rw[h]at h';exact d (Option.some.inj h')
theorem aD {H:Hp} {a b:Addr} {o:HO} (h:H a=some o) (h':H b=none):a≠b:=by
 intro e;subst e;rw[h]at h';cases h'
section
variable (P:Program) (w:World)
def ObjOk (H:Hp) (h:Heap) (a:Addr):HO->Prop
 | .lst xs=>xs.length<=sizeLine/\∃(its:List Value) (n:Nat),Vals xs its/\h.get? a=some {cls:=.type "list",data:=.seq its.toArray n }
 | .tup xs=>xs.length<=sizeLine/\∃its:List Value,Vals xs its/\IsTup h a its.toArray
 | .dK kvs=>kvs.length<=sizeLine/\(a == sysModules)=false/\∃vs,KV kvs vs/\h.DictOf (aY P w) a vs
 | .dT kvs=>kvs.length<=sizeLine/\(a == sysModules)=false/\∃xs:List (List bB × Addr × Value),
   Paired (fun(p:List bB × V) (q:List bB × Addr × Value)=>p.1=q.1/\H q.2.1=some (.tup (p.1.map kV))/\RelV p.2 q.2.2) kvs xs ∧
   ∃o es ep,h.get? a=some o/\o.ExactDict/\o.data=.dict es ep/\es.toList=xs.map (entryOfKey (tupleKind (aY P w)))/\(xs.map (·.1)).Nodup
 | .set S n=>h.SetOf (intKind P w) a S n
 | .ins C dx fs=>H dx=some (.own a)/\fs.length<=1000/\dx≠a/\h.get? a=some (W.instObj C dx) ∧
   ∃mA,h.Ns1 dx mA/\(∀f,RelO (fs.lookup f) (mA f))/\PySem.Within mA (fs.map (·.1))
 | .own _=>∃o,h.get? a=some o
 | .xd fs=>∃mA,h.Ns1 a mA/\∀f,RelO (fs.lookup f) (mA f)
 | .rng lo hi=>∃t u v,h.get? a=some {cls:=.type "range",data:=.fields #[.int lo t,.int hi u,.int 1 v] }
 | .frz o u=>h.get? a=some o/\ObjOk H h a u
 | .tbl ps=>h.get? a=some {cls:=.none,data:=.fields ps }
 | .met f x=>h.get? a=some (W.methodObj (.ref f) (.ref x))
 | .ext φ=>φ h/\(∃o,h.get? a=some o)/\∀h1 h2:Heap,φ h1->(∀o,h1.get? a=some o->h2.get? a=some o)->φ h2
def HOk (H:Hp) (h:Heap):Prop:=∀a o,H a=some o->ObjOk P w H h a o
end
section
variable {P:Program} {w:World} {H H':Hp} {h h':Heap} {a:Addr} {o:HO}
theorem ObjOk.lt (x:ObjOk P w H h a o):a<h.objs.size:=by
 cases o with
 | lst xs=>obtain⟨_,_,_,_,e⟩:=x;exact Heap.lt_size e
 | tup xs=>obtain⟨_,_,_,p⟩:=x;exact p.lt
 | dK kvs=>obtain⟨_,_,_,_,o,_,_,e,_⟩:=x;exact Heap.lt_size e
 | dT kvs=>obtain⟨_,_,_,_,o,_,_,e,_⟩:=x;exact Heap.lt_size e
 | set S n=>obtain⟨o,_,_,_,e,_⟩:=x;exact Heap.lt_size e
 | ins C dx fs=>obtain⟨_,_,_,e,_⟩:=x;exact Heap.lt_size e
 | own y=>obtain⟨_,e⟩:=x;exact Heap.lt_size e
 | xd fs=>obtain⟨_,⟨_,_,_,e,_⟩,_⟩:=x;exact Heap.lt_size e
 | rng lo hi=>obtain⟨_,_,_,e⟩:=x;exact Heap.lt_size e
 | frz ob u=>obtain⟨e,_⟩:=x;exact Heap.lt_size e
 | tbl ps=>exact Heap.lt_size (show h.get? a=some _ from x)
 | met f y=>exact Heap.lt_size (show h.get? a=some _ from x)
 | ext φ=>obtain⟨_,⟨_,e⟩,_⟩:=x;exact Heap.lt_size e
theorem Paired.mapP {α β:Type} {F G:α->β->Prop}:∀ {l₁:List α} {l₂:List β},Paired F l₁ l₂->(∀a b,F a b->G a b)->Paired G l₁ l₂
 | _,_,.nil,_=>.nil
 | _,_,.cons r t,f=>.cons (f _ _ r) (Paired.mapP t f)
theorem ObjOk.stay (x:ObjOk P w H h a o) (k:∀b u,(b=a∨H b=some (.own a))->h.get? b=some u->h'.get? b=some u)
  (ho:∀b,H b=some (.own a)->H' b=some (.own a)) (ht:∀b xs,H b=some (.tup xs)->H' b=some (.tup xs)):ObjOk P w H' h' a o:=by
 induction o with
 | lst xs=>obtain⟨z,its,n,r,e⟩:=x;exact⟨z,its,n,r,k _ _ (.inl rfl) e⟩
 | tup xs=>obtain⟨z,its,r,ob,e,c⟩:=x;exact⟨z,its,r,ob,k _ _ (.inl rfl) e,c⟩
 | dK kvs=>obtain⟨z,y,vs,r,ob,es,ep,e,c⟩:=x;exact⟨z,y,vs,r,ob,es,ep,k _ _ (.inl rfl) e,c⟩
 | dT kvs=>
  obtain⟨z,y,xs,r,ob,es,ep,e,c⟩:=x
  exact⟨z,y,xs,Paired.mapP r fun p q z=>⟨z.1,ht _ _ z.2.1,z.2.2⟩,ob,es,ep,k _ _ (.inl rfl) e,c⟩
 | set S n=>obtain⟨ob,es,ep,t,e,c⟩:=x;exact⟨ob,es,ep,t,k _ _ (.inl rfl) e,c⟩
 | ins C dx fs=>
  obtain⟨d,z,ne,e,mA,⟨od,es,ep,e2,c⟩,r⟩:=x
  exact⟨ho _ d,z,ne,k _ _ (.inl rfl) e,mA,⟨od,es,ep,k _ _ (.inr d) e2,c⟩,r⟩
 | own y=>obtain⟨ob,e⟩:=x;exact⟨ob,k _ _ (.inl rfl) e⟩
 | xd fs=>obtain⟨mA,⟨od,es,ep,e,c⟩,r⟩:=x;exact⟨mA,⟨od,es,ep,k _ _ (.inl rfl) e,c⟩,r⟩
 | rng lo hi=>obtain⟨t,u,v,e⟩:=x;exact⟨t,u,v,k _ _ (.inl rfl) e⟩
 | frz ob u ih=>obtain⟨e,q⟩:=x;exact⟨k _ _ (.inl rfl) e,ih q⟩
 | tbl ps=>
  have e:h.get? a=some {cls:=.none,data:=.fields ps }:=x
  show h'.get? a=some {cls:=.none,data:=.fields ps }
  exact k a _ (.inl rfl) e
 | met f y=>
  have e:h.get? a=some (W.methodObj (.ref f) (.ref y)):=x
  show h'.get? a=some (W.methodObj (.ref f) (.ref y))
  exact k a _ (.inl rfl) e
 | ext φ=>obtain⟨p,⟨o,e⟩,st⟩:=x;exact⟨st _ _ p fun o q=>k _ _ (.inl rfl) q,⟨o,k _ _ (.inl rfl) e⟩,st⟩
theorem HOk.lt (x:HOk P w H h) (e:H a=some o):a<h.objs.size:=(x a o e).lt
theorem HOk.fresh (x:HOk P w H h) (e:h.objs.size<=a):H a=none:=by
 cases q:H a with
 | none=>rfl
 | some u=>exact absurd (Nat.lt_of_lt_of_le (x.lt q) e) (Nat.lt_irrefl _)
theorem HOk.kept (x:HOk P w H h) (k:∀b u,h.get? b=some u->h'.get? b=some u):HOk P w H h':=fun a o e=>
 (x a o e).stay (fun b u _ q=>k b u q) (fun _ q=>q) fun _ _ q=>q
theorem HOk.laid (x:HOk P w H h) (k:∀b u,h.get? b=some u->h'.get? b=some u) (hp:h.objs.size<=a) (new:ObjOk P w (aI H a o) h' a o):HOk P w (aI H a o) h':=fun b u e=>by
 have hn:=x.fresh hp
 by_cases hb:b=a
 ·subst hb;rw[aA]at e;cases e;exact new
 ·rw[aE hb]at e;exact(x b u e).stay (fun c v _ q=>k c v q) (fun c q=>by rw[aE (aD q hn)];exact q) fun c xs q=>by rw[aE (aD q hn)];exact q
end
def Rd (H:Hp) (a:Addr) (u:HO):Prop:=H a=some u∨∃o,H a=some (.frz o u)
theorem Rd.ok {P:Program} {w:World} {H:Hp} {h:Heap} {a:Addr} {u:HO} (r:Rd H a u) (x:HOk P w H h):ObjOk P w H h a u:=by
 rcases r with r | ⟨o,r⟩
 ·exact x a u r
 ·obtain⟨_,q⟩:=x a _ r
  exact q
def Pl:Option HO->Prop
 | some (.lst _)=>True
 | some (.dK _)=>True
 | some (.dT _)=>True
 | some (.set _ _)=>True
 | some (.ins _ _ _)=>True
 | some (.ext _)=>True
 | _=>False
section
variable {P:Program} {w:World} {H:Hp} {h h':Heap} {x e:Addr} {o':HO}
theorem HOk.write (ok:HOk P w H h) (mu:Pl (H x)) (he:e=x∨H e=some (.own x)) (k:∀b u,b≠e->h.get? b=some u->h'.get? b=some u) (heo:∃u,h'.get? e=some u)
  (new:ObjOk P w (aI H x o') h' x o'):HOk P w (aI H x o') h':=fun b u q=>by
 have nown:∀c y,H c=some (.own y)->c≠x:=fun c y r z=>by subst z;rw[r]at mu;exact mu
 have ntup:∀c xs,H c=some (.tup xs)->c≠x:=fun c xs r z=>by subst z;rw[r]at mu;exact mu
 by_cases hb:b=x
 ·subst hb;rw[aA]at q;cases q;exact new
 ·rw[aE hb]at q;by_cases hbe:b=e
  ·have q':H b=some (.own x):=by
    rcases he with z | z
    ·exact absurd (hbe.trans z) hb
    ·rw[hbe];exact z
   rw[q]at q';cases q'
   obtain⟨v,hv⟩:=heo
   exact⟨v,by rw[hbe];exact hv⟩
  ·refine(ok b u q).stay (fun c v hc r=>k c v ?_ r) (fun c r=>by rw[aE (nown c b r)];exact r) fun c xs r=>by rw[aE (ntup c xs r)];exact r
   rcases hc with rfl | hc
   ·exact hbe
   ·rintro rfl
    rcases he with z | z
    ·exact nown c b hc z
    ·rw[hc]at z;cases z;exact hb rfl
end
structure Un (fs ex:List Addr) (H H':Hp) (h h':Heap):Prop where
 keep:∀b o,h.get? b=some o->H b=none->b∉fs->b∉ex->h'.get? b=some o
 slot:∀b o,h.get? b=some o->H b=none->b∈fs->b∉ex->∃sl,h'.get? b=some {o with slots:=sl }
 free:∀b o,h.get? b=some o->H b=none->b∉ex->H' b=none
 there:∀b o,h.get? b=some o->b∉ex->∃o',h'.get? b=some o'
 tups:∀b xs,H b=some (.tup xs)->H' b=some (.tup xs)
 frzs:∀b o u,H b=some (.frz o u)->H' b=some (.frz o u)
 tbls:∀b ps,H b=some (.tbl ps)->∃more,H' b=some (.tbl (ps++more))
section
variable {fs fs' ex ex':List Addr} {H H1 H2:Hp} {h h1 h2 h':Heap} {a x e:Addr} {o:HO}
theorem Un.any (u:Un fs ex H H1 h h1) {b:Addr} {ob:Obj} (q:h.get? b=some ob) (n:H b=none) (hx:b∉ex):∃sl,h1.get? b=some {ob with slots:=sl }:=by
 by_cases hb:b∈fs
 ·exact u.slot b ob q n hb hx
 ·exact⟨ob.slots,u.keep b ob q n hb hx⟩
theorem Un.kept (k:∀b u,h.get? b=some u->h'.get? b=some u):Un fs ex H H h h':=
 ⟨fun b ob q _ _ _=>k b ob q,fun b ob q _ _ _=>⟨ob.slots,k b ob q⟩,fun _ _ _ n _=>n,fun b ob q _=>⟨ob,k b ob q⟩,fun _ _ q=>q,fun _ _ _ q=>q,fun _ ps q=>⟨#[],by rw[q];simp⟩⟩
theorem Un.refl:Un fs ex H H h h:=Un.kept fun _ _ q=>q
theorem Un.laid (k:∀b u,h.get? b=some u->h'.get? b=some u) (hp:h.objs.size<=a) (hn:H a=none):Un fs ex H (aI H a o) h h' where
 keep:=fun b u q _ _ _=>k b u q
 slot:=fun b u q _ _ _=>⟨u.slots,k b u q⟩
 free:=fun b u q n _=>by rw[aE (Nat.ne_of_lt (Nat.lt_of_lt_of_le (Heap.lt_size q) hp))];exact n
 there:=fun b u q _=>⟨u,k b u q⟩
 tups:=fun b xs q=>by rw[aE (aD q hn)];exact q
 frzs:=fun b u xs q=>by rw[aE (aD q hn)];exact q
 tbls:=fun b ps q=>⟨#[],by rw[aE (aD q hn),q];simp⟩
theorem Un.write (mu:Pl (H x)) (he:e=x∨H e=some (.own x)) (k:∀b u,b≠e->h.get? b=some u->h'.get? b=some u) (heo:∃u,h'.get? e=some u):Un fs ex H (aI H x o) h h':=by
 have hx:∀b,H b=none->b≠x:=fun b n z=>by subst z;rw[n]at mu;exact mu
 have hb:∀b,H b=none->b≠e:=fun b n z=>by
  subst z;rcases he with r | r
  ·exact hx b n r
  ·rw[n]at r;cases r
 have hm:∀b u,H b=some u->¬ Pl (some u)->b≠x:=fun b u q nm z=>by subst z;rw[q]at mu;exact nm mu
 refine⟨fun b u q n _ _=>k b u (hb b n) q,fun b u q n _ _=>⟨u.slots,k b u (hb b n) q⟩,fun b u q n _=>by rw[aE (hx b n)];exact n,fun b u q _=>?_,
  fun b xs q=>by rw[aE (hm b _ q fun z=>z)];exact q,fun b u xs q=>by rw[aE (hm b _ q fun z=>z)];exact q,fun b ps q=>⟨#[],by rw[aE (hm b _ q fun z=>z),q];simp⟩⟩
 by_cases hbe:b=e
 ·subst hbe;exact heo
 ·exact⟨u,k b u hbe q⟩
end
def Su (h:Heap) (H:Hp):List Addr:=(List.range h.objs.size).filter fun a=>(H a).isSome
def qV (h:Heap) (H:Hp):Heap:=W.hideAll h (Su h H)
theorem yK (h:Heap) (H:Hp):(qV h H).objs.size=h.objs.size:=W.hideAll_size _ _
theorem Ag {h:Heap} {H:Hp} {b:Addr} {o:Obj} (e:h.get? b=some o) (n:H b=none):(qV h H).get? b=some o:=
 W.hideAll_get _ e fun hm=>by
  have q:(H b).isSome=true:=(List.mem_filter.mp hm).2
  rw[n]at q;simp at q
theorem Fg {h:Heap} {H:Hp} {b:Addr} {o:Obj} (e:(qV h H).get? b=some o):h.get? b=some o/\H b=none:=by
 have e':h.get? b=some o:=W.of_hideAll (Su h H) e
 refine⟨e',?_⟩
 cases q:H b with
 | none=>rfl
 | some x=>
  have hm:b∈Su h H:=List.mem_filter.mpr ⟨List.mem_range.mpr (Heap.lt_size e'),by simp [q]⟩
  have z:(qV h H).get? b=none:=W.hideAll_none (Su h H) hm
  rw[z]at e;cases e
end L2
namespace L2
open PySem PySem.Spec PyProof.Rows
structure Mod (K:W.Frag) (mg:Str->Option Value) (base:Heap):Prop where
 kin:K.In base
 glob:base.Ns mainGlobals mg
 blt:∃mb,base.Ns builtinsNs mb/\∀x:Str,x≠"__name__"->mb x=bootBuiltins x
 nolimit:base.NoLimit
structure Cx where
 prog:Program
 w:World
 K:W.Frag
 mg:Str->Option Value
 base:Heap
 A:Around
 N:List Str
 s₀:Shared
 H₀:Hp
 env:Env
 outer:List Env
 stack:List Env
 ex:List Addr
 fn:Str->Bool
 calm:Bool
 pn:List (Addr × Obj)
 xe:Value->Shared->Prop
def gW (l:List Env):List Addr:=l.filterMap (·.frame)
abbrev Cx.fs (X:Cx):List Addr:=gW X.outer
def Pm (sc:Scope) (x:Str):Prop:=sc.names.lookup x=some .local∨sc.names.lookup x=some .cell∨sc.names.lookup x=some .free
def Ad (sc:Scope) (x:Str):Prop:=sc.names.lookup x=some .local∨sc.names.lookup x=some .cell
def Ti (env:Env) (h:Heap) (m:Str->Option Value) (x:Str) (u:Value):Prop:=
 (env.kindOf x=some .local/\m x=some u)∨((env.kindOf x=some .cell∨env.kindOf x=some .free)/\∃c,env.cells.lookup x=some c/\h.IsCell c (some u))
structure Cx.Ok (X:Cx):Prop where
 mod:Mod X.K X.mg X.base
 kind:X.env.scope.kind=.function
 glob:X.env.globals=mainGlobals
 blt:X.env.builtins=builtinsNs
 above:X.s₀.heap.objs.size<=X.env.locals
 inj:∀x y c,X.env.cells.lookup x=some c->X.env.cells.lookup y=some c->x=y
 has:∀x,(X.env.kindOf x=some .cell∨X.env.kindOf x=some .free)->∃c,X.env.cells.lookup x=some c
 cab:∀x c,X.fn x=true->X.env.cells.lookup x=some c->X.s₀.heap.objs.size<=c
 hd:X.calm=true->X.A.handled=none
 frames:X.A.frames=some X.stack
 stk:X.stack=X.outer∨(X.stack=X.env::X.outer/\X.env.frame=some X.env.locals)
 exf:∀b∈X.ex,b≠X.env.locals/\∀x c,X.env.cells.lookup x=some c->c≠b
 bs:∀b o,X.base.get? b=some o->X.s₀.heap.get? b=some o/\X.H₀ b=none
 bsz:X.base.objs.size<=X.s₀.heap.objs.size
 noex:∀b o,X.base.get? b=some o->b∉X.ex
 exfs:∀b∈X.ex,b∉X.fs
 funs:X.s₀.heap.FunFrames X.base X.outer
 frf:∀b∈X.fs,X.H₀ b=none
structure Inv (X:Cx) (pins:List (Addr × Obj)) (σ:List (Option V)) (H:Hp) (s:Shared):Prop where
 ok:X.Ok
 os:s.os=X.s₀.os
 bare:AllBare s.gens
 base:Un X.fs X.ex X.H₀ H X.s₀.heap s.heap
 loc:∃m,s.heap.Ns X.env.locals m/\∀(i:Nat) (x:Str) (v:V),X.N[i]?=some x->σ[i]?=some (some v)->Pm X.env.scope x->∃u,RelV v u/\Ti X.env s.heap m x u
 cell:∀x c,X.env.cells.lookup x=some c->∃v,s.heap.IsCell c v
 free:H X.env.locals=none
 freeC:∀x c,X.env.cells.lookup x=some c->H c=none
 pin:∀p∈X.pn++pins,s.heap.get? p.1=some p.2/\H p.1=none/\p.1≠X.env.locals/\p.1∉X.fs/\∀v,p.2.data≠.cell v
 hok:HOk X.prog X.w H s.heap
 len:σ.length=X.N.length
section
variable {X:Cx} {pins:List (Addr × Obj)} {σ:List (Option V)} {H H':Hp} {s:Shared} {h':Heap}
theorem Cx.Ok.nofr (ok:X.Ok) {b:Addr} {o:Obj} (e:X.base.get? b=some o):b∉X.fs:=fun hb=>by
 have:=(ok.funs.mem hb).1
 rw[e]at this;cases this
theorem Inv.bs (I:Inv X pins σ H s):∀b o,X.base.get? b=some o->s.heap.get? b=some o/\H b=none:=fun b o e=>
 ⟨I.base.keep b o (I.ok.bs b o e).1 (I.ok.bs b o e).2 (I.ok.nofr e) (I.ok.noex b o e),I.base.free b o (I.ok.bs b o e).1 (I.ok.bs b o e).2 (I.ok.noex b o e)⟩
theorem Inv.bk (I:Inv X pins σ H s):∀b o,X.base.get? b=some o->s.heap.get? b=some o:=fun b o e=>(I.bs b o e).1
theorem Inv.mod (I:Inv X pins σ H s):Mod X.K X.mg X.base:=I.ok.mod
theorem Inv.kIn (I:Inv X pins σ H s):X.K.In s.heap:=I.ok.mod.kin.keeps I.bk
theorem Inv.fr (I:Inv X pins σ H s):∃m,Fr X.base X.env.locals s.heap m:=
 let ⟨m,hn,_⟩:=I.loc
 ⟨m,hn,I.bk,hU I.ok.bsz I.ok.above⟩
theorem Inv.lt (I:Inv X pins σ H s):X.env.locals<s.heap.objs.size:=let ⟨_,hn,_⟩:=I.loc;hn.lt
theorem Inv.sz (I:Inv X pins σ H s):X.s₀.heap.objs.size<=s.heap.objs.size:=hU I.ok.above (Nat.le_of_lt I.lt)
theorem Inv.nofs (I:Inv X pins σ H s) {a:Addr} (h:s.heap.objs.size<=a):a∉X.fs:=fun hb=>by
 obtain⟨_,o,ho,_⟩:=I.ok.funs.mem hb
 exact absurd (Nat.lt_of_lt_of_le (Heap.lt_size ho) (hU I.sz h)) (Nat.lt_irrefl _)
theorem Inv.cne (I:Inv X pins σ H s):∀x c,X.env.cells.lookup x=some c->c≠X.env.locals:=fun x c e z=>by
 obtain⟨v,o,ho,hd⟩:=I.cell x c e
 obtain⟨m,⟨o',es,ep,ho',hd',_⟩,_⟩:=I.loc
 rw[z,ho']at ho;cases ho;rw[hd']at hd;cases hd
theorem Inv.funs (I:Inv X pins σ H s):s.heap.FunFrames X.base X.outer:=by
 have all:∀(l:List Env),(∀b∈gW l,b∈X.fs)->X.s₀.heap.FunFrames X.base l->s.heap.FunFrames X.base l:=by
  intro l;induction l with
  | nil=>intro _ _;trivial
  | cons env r ih=>
   intro hs hl;obtain⟨hk,⟨L,o,hf,hn,ho,hd⟩,hr⟩:=hl
   have hL:L∈X.fs:=hs L (by unfold gW;rw[List.filterMap_cons,hf];exact iW)
   obtain⟨sl,e⟩:=I.base.slot L o ho (I.ok.frf L hL) hL fun z=>I.ok.exfs L z hL
   exact⟨hk,⟨L,_,hf,hn,e,hd⟩,ih (fun b hb=>hs b (by unfold gW;rw[List.filterMap_cons,hf];exact mF _ hb)) hr⟩
 exact all X.outer (fun _ hb=>hb) I.ok.funs
theorem Inv.stack (I:Inv X pins σ H s):s.heap.FunFrames X.base X.stack:=by
 rcases I.ok.stk with e | ⟨e,hf⟩
 ·rw[e];exact I.funs
 ·rw[e];obtain⟨m,hn,_⟩:=I.loc
  refine .cons (by rw[I.ok.kind];decide) hf hn ?_ I.funs
  exact Heap.get?_none_of_le (hU I.ok.bsz I.ok.above)
theorem Inv.stkSub (I:Inv X pins σ H s):∀b∈gW X.stack,b∈X.env.locals::X.fs:=fun b hb=>by
 rcases I.ok.stk with e | ⟨e,hf⟩
 ·rw[e]at hb;exact mF _ hb
 ·rw[e]at hb;unfold gW at hb;rw[List.filterMap_cons,hf]at hb;exact hb
theorem Inv.stkFree (I:Inv X pins σ H s):∀b∈gW X.stack,H b=none:=fun b hb=>by
 rcases List.mem_cons.mp (I.stkSub b hb) with e | hb
 ·rw[e];exact I.free
 ·obtain⟨_,o,ho,_⟩:=I.ok.funs.mem hb
  exact I.base.free b o ho (I.ok.frf b hb) fun z=>I.ok.exfs b z hb
theorem Inv.step {g':Array GenState} {t':Nat} {d':Drawn} {ch:List Addr} (I:Inv X pins σ H s)
  (hch:∀b∈ch,(b∈X.ex∨X.s₀.heap.objs.size<=b)/\b≠X.env.locals/\(∀x c,X.env.cells.lookup x=some c->c≠b)/\∀p∈X.pn++pins,p.1≠b)
  (keep:∀b o,b≠X.env.locals->b∉X.fs->b∉ch->s.heap.get? b=some o->H b=none->h'.get? b=some o)
  (slot:∀b o,b≠X.env.locals->b∈X.fs->b∉ch->s.heap.get? b=some o->H b=none->∃sl,h'.get? b=some {o with slots:=sl }) (free:∀b o,b∉ch->s.heap.get? b=some o->H b=none->H' b=none)
  (there:∀b o,b∉ch->s.heap.get? b=some o->∃o',h'.get? b=some o')
  (tups:∀b xs,H b=some (.tup xs)->H' b=some (.tup xs)) (frzs:∀b o u,H b=some (.frz o u)->H' b=some (.frz o u)) (tbls:∀b ps,H b=some (.tbl ps)->∃more,H' b=some (.tbl (ps++more)))
  (ns:∀m,s.heap.Ns X.env.locals m->h'.Ns X.env.locals m) (hok:HOk X.prog X.w H' h') (hg:AllBare g') :
  Inv X pins σ H' {s with heap:=h',gens:=g',drawn:=d',toks:=t' }:=by
 have neL:∀b o,X.s₀.heap.get? b=some o->b≠X.env.locals:=fun b o e=>Nat.ne_of_lt (Nat.lt_of_lt_of_le (Heap.lt_size e) I.ok.above)
 have neC:∀b o,X.s₀.heap.get? b=some o->b∉X.ex->b∉ch:=fun b o e hx hb=>by
  rcases(hch b hb).1 with z | z
  ·exact hx z
  ·exact absurd (Nat.lt_of_lt_of_le (Heap.lt_size e) z) (Nat.lt_irrefl _)
 have cellK:∀x c,X.env.cells.lookup x=some c->∀v,s.heap.IsCell c v->h'.IsCell c v:=fun x c e v ⟨o,ho,hd⟩=>by
  have nch:c∉ch:=fun z=>(hch c z).2.2.1 x c e rfl
  by_cases hc:c∈X.fs
  ·obtain⟨sl,q⟩:=slot c o (I.cne x c e) hc nch ho (I.freeC x c e)
   exact⟨_,q,hd⟩
  ·exact⟨o,keep c o (I.cne x c e) hc nch ho (I.freeC x c e),hd⟩
 refine⟨I.ok,I.os,hg,⟨fun b o e n hb hx=>?_,fun b o e n hb hx=>?_,fun b o e n hx=>?_,fun b o e hx=>?_,fun b xs e=>tups b xs (I.base.tups b xs e),fun b o xs e=>frzs b o xs (I.base.frzs b o xs e),fun b ps e=>?_⟩,?_,fun x c e=>?_,?_,fun x c e=>?_,fun p hp=>?_,hok,I.len⟩
 ·exact keep b o (neL b o e) hb (neC b o e hx) (I.base.keep b o e n hb hx) (I.base.free b o e n hx)
 ·obtain⟨sl,e1⟩:=I.base.slot b o e n hb hx
  obtain⟨sl',e2⟩:=slot b _ (neL b o e) hb (neC b o e hx) e1 (I.base.free b o e n hx)
  exact⟨sl',e2⟩
 ·obtain⟨o',e1⟩:=I.base.there b o e hx
  exact free b o' (neC b o e hx) e1 (I.base.free b o e n hx)
 ·obtain⟨o',e1⟩:=I.base.there b o e hx
  exact there b o' (neC b o e hx) e1
 ·obtain⟨m1,e1⟩:=I.base.tbls b ps e
  obtain⟨m2,e2⟩:=tbls b _ e1
  exact⟨m1++m2,by rw[e2,Array.append_assoc]⟩
 ·obtain⟨m,hn,hl⟩:=I.loc
  refine⟨m,ns m hn,fun i x v e1 e2 e3=>?_⟩
  obtain⟨u,r,l⟩:=hl i x v e1 e2 e3
  refine⟨u,r,?_⟩
  rcases l with l | ⟨k,c,e,z⟩
  ·exact .inl l
  ·exact .inr ⟨k,c,e,cellK x c e _ z⟩
 ·obtain⟨v,z⟩:=I.cell x c e
  exact⟨v,cellK x c e v z⟩
 ·obtain⟨m,⟨o,_,_,ho,_⟩,_⟩:=I.loc
  exact free _ o (fun z=>(hch _ z).2.1 rfl) ho I.free
 ·obtain⟨v,o,ho,hd⟩:=I.cell x c e
  exact free c o (fun z=>(hch c z).2.2.1 x c e rfl) ho (I.freeC x c e)
 ·obtain⟨e,n,ne,nf,d⟩:=I.pin p hp
  have nch:p.1∉ch:=fun z=>(hch p.1 z).2.2.2 p hp rfl
  exact⟨keep p.1 p.2 ne nf nch e n,free p.1 p.2 nch e n,ne,nf,d⟩
theorem Inv.un {t':Nat} (I:Inv X pins σ H s) (u:Un X.fs [] H H' s.heap h') (hok:HOk X.prog X.w H' h'):Inv X pins σ H' {s with heap:=h',toks:=t' }:=by
 obtain⟨m,⟨o,es,ep,ho,r⟩,_⟩:=id I.loc
 obtain⟨sl,hL⟩:=u.any ho I.free Zs
 exact I.step (g':=s.gens) (d':=s.drawn) (ch:=[]) (fun _ z=>nomatch z) (fun b o _ hb _ e n=>u.keep b o e n hb Zs) (fun b o _ hb _ e n=>u.slot b o e n hb Zs) (fun b o _ e n=>u.free b o e n Zs) (fun b o _ e=>u.there b o e Zs) u.tups u.frzs u.tbls (fun m' hm=>by
  obtain⟨o',es',ep',ho',r'⟩:=hm
  rw[ho]at ho';cases ho'
  exact⟨_,es',ep',hL,r'⟩) hok I.bare
theorem Inv.call {g':Array GenState} {t':Nat} {d':Drawn} {ch:List Addr} (I:Inv X pins σ H s) (u:Un (gW X.stack) ch H H' s.heap h') (hok:HOk X.prog X.w H' h') (hg:AllBare g')
  (hch:∀b∈ch,(b∈X.ex∨X.s₀.heap.objs.size<=b)/\b≠X.env.locals/\(∀x c,X.env.cells.lookup x=some c->c≠b)/\∀p∈X.pn++pins,p.1≠b) :
  Inv X pins σ H' {s with heap:=h',gens:=g',drawn:=d',toks:=t' }:=by
 obtain⟨m,⟨o,es,ep,ho,r⟩,_⟩:=id I.loc
 obtain⟨sl,hL⟩:=u.any ho I.free fun z=>(hch _ z).2.1 rfl
 exact I.step (ch:=ch) hch (fun b o hL hb hc e n=>u.keep b o e n (fun z=>(List.mem_cons.mp (I.stkSub b z)).elim hL hb) hc) (fun b o _ _ hc e n=>u.any e n hc) (fun b o hc e n=>u.free b o e n hc) (fun b o hc e=>u.there b o e hc) u.tups u.frzs u.tbls (fun m' hm=>by
  obtain⟨o',es',ep',ho',r'⟩:=hm
  rw[ho]at ho';cases ho'
  exact⟨_,es',ep',hL,r'⟩) hok hg
theorem Inv.turned {t':Nat} {it:Addr} (I:Inv X pins σ H s) (k:∀b o,b≠it->s.heap.get? b=some o->h'.get? b=some o) (hn:H it=none) (hL:it≠X.env.locals)
  (h1:it∈X.ex∨X.s₀.heap.objs.size<=it) (h2:∀x c,X.env.cells.lookup x=some c->c≠it) (h3:∀p∈X.pn++pins,p.1≠it):Inv X pins σ H {s with heap:=h',toks:=t' }:=by
 have nit:∀b u,H b=some u->b≠it:=fun b u e z=>by rw[z,hn]at e;cases e
 refine I.step (g':=s.gens) (d':=s.drawn) (ch:=[it]) (fun b hb=>?_) (fun b o _ _ hc e _=>k b o (fun z=>hc (by simp [z])) e) (fun b o _ _ hc e _=>⟨o.slots,k b o (fun z=>hc (by simp [z])) e⟩) (fun _ _ _ _ n=>n)
  (fun b o hc e=>⟨o,k b o (fun z=>hc (by simp [z])) e⟩) (fun _ _ e=>e) (fun _ _ _ e=>e) (fun b ps e=>⟨#[],by rw[e];simp⟩) (fun m hm=>?_) (fun b u e=>?_) I.bare
 ·have e:b=it:=by simpa using hb
  subst e;exact⟨h1,hL,h2,h3⟩
 ·obtain⟨o,es,ep,ho,r⟩:=hm
  exact⟨o,es,ep,k _ o (Ne.symm hL) ho,r⟩
 ·refine(I.hok b u e).stay (fun c v hc q=>k c v ?_ q) (fun _ q=>q) fun _ _ q=>q
  rcases hc with z | z
  ·rw[z];exact nit b u e
  ·exact nit c _ z
theorem Inv.tok (I:Inv X pins σ H s) (t:Nat):Inv X pins σ H {s with toks:=t }:=I.un (h':=s.heap) (t':=t) Un.refl I.hok
theorem Inv.kept {t':Nat} (I:Inv X pins σ H s) (k:∀b u,s.heap.get? b=some u->h'.get? b=some u):Inv X pins σ H {s with heap:=h',toks:=t' }:=I.un (Un.kept k) (I.hok.kept k)
theorem Inv.laid {a:Addr} {o:HO} {t':Nat} (I:Inv X pins σ H s) (k:∀b u,s.heap.get? b=some u->h'.get? b=some u) (hp:s.heap.objs.size<=a) (new:ObjOk X.prog X.w (aI H a o) h' a o) :
  Inv X pins σ (aI H a o) {s with heap:=h',toks:=t' }:=I.un (Un.laid k hp (I.hok.fresh hp)) (I.hok.laid k hp new)
theorem Inv.write {x e:Addr} {o:HO} {t':Nat} (I:Inv X pins σ H s) (mu:Pl (H x)) (he:e=x∨H e=some (.own x)) (k:∀b u,b≠e->s.heap.get? b=some u->h'.get? b=some u) (heo:∃u,h'.get? e=some u)
  (new:ObjOk X.prog X.w (aI H x o) h' x o):Inv X pins σ (aI H x o) {s with heap:=h',toks:=t' }:=I.un (Un.write mu he k heo) (I.hok.write mu he k heo new)
theorem Inv.weak {σ':List (Option V)} (I:Inv X pins σ H s) (hl:σ'.length=σ.length) (w:∀(i:Nat) v,σ'[i]?=some (some v)->σ[i]?=some (some v)):Inv X pins σ' H s:=
 ⟨I.ok,I.os,I.bare,I.base,let ⟨m,hn,hl'⟩:=I.loc;⟨m,hn,fun i x v e1 e2 e3=>hl' i x v e1 (w i v e2) e3⟩,I.cell,I.free,I.freeC,I.pin,I.hok,hl.trans I.len⟩
theorem Inv.pins_of {pins':List (Addr × Obj)} (I:Inv X pins σ H s) (h:∀p∈pins',s.heap.get? p.1=some p.2/\H p.1=none/\p.1≠X.env.locals/\p.1∉X.fs/\∀v,p.2.data≠.cell v):Inv X pins' σ H s:=
 ⟨I.ok,I.os,I.bare,I.base,I.loc,I.cell,I.free,I.freeC,fun p hp=>(Zma.mp hp).elim (fun z=>I.pin p (List.mem_append_left _ z)) (h p),I.hok,I.len⟩
theorem mW {N:List Str} (hN:N.Nodup) {i j:Nat} {x:Str} (a:N[i]?=some x) (b:N[j]?=some x):i=j:=by
 obtain⟨h1,e1⟩:=Zgs.mp a
 obtain⟨h2,e2⟩:=Zgs.mp b
 exact(List.getElem_inj hN).mp (e1.trans e2.symm)
theorem pO {M:Model} {A:Around} {E:Value->Shared->Prop} {i:Nat} {x:Str} {v:V} {u:Value} {Q:Unit->Shared->Prop} (I:Inv X pins σ H s) (hN:X.N.Nodup) (hi:X.N[i]?=some x) (hx:Ad X.env.scope x) (r:RelV v u)
  (h:∀s',Inv X pins (σ.set i (some v)) H s'->(∃a,Heap.SameBut a s.heap s'.heap/\(a=X.env.locals∨X.env.cells.lookup x=some a))->Q () s') (hf:X.fn x=true∨X.env.scope.names.lookup x=some .local:=by first | exact .inl rfl | exact .inr rfl | assumption):wpAny M A (storeName X.env x u) Q E s:=by
 obtain⟨m,hn,hl⟩:=id I.loc
 have hcls:(X.env.scope.kind == .class||(X.env.scope.kind == .module&&X.env.locals != X.env.globals))=false:=by rw[I.ok.kind];rfl
 have hiσ:i<σ.length:=by rw[I.len];exact(Zgs.mp hi).1
 have cne:=I.cne
 have tracked:∀ {a:Addr} {h':Heap},(∃o,s.heap.get? a=some o/\H a=none)->Heap.SameBut a s.heap h'->HOk X.prog X.w H h':=fun {a h'} ha hs b ob e=>by
  obtain⟨_,_,hfree⟩:=ha
  refine(I.hok b ob e).stay (fun c w' hc q=>(hs.2 c ?_).trans q) (fun _ q=>q) fun _ _ q=>q
  rintro rfl
  rcases hc with rfl | hc
  ·rw[hfree]at e;cases e
  ·rw[hfree]at hc;cases hc
 rcases hx with hk | hk
 ·refine wpAny_storeName_local hk hn (fun h' hn' hs=>?_) hcls
  obtain⟨oL,_,_,hoL,_⟩:=id hn
  refine h _ ⟨I.ok,I.os,I.bare,⟨fun b o e n hb hx=>?_,fun b o e n hb hx=>?_,I.base.free,fun b o e hx=>?_,I.base.tups,I.base.frzs,I.base.tbls⟩,⟨_,hn',fun j y v' e1 e2 e3=>?_⟩,fun y c e=>?_,I.free,I.freeC,fun p hp=>?_,tracked ⟨oL,hoL,I.free⟩ hs,by simpa using I.len⟩ ⟨_,hs,.inl rfl⟩
  ·exact(hs.2 b (Nat.ne_of_lt (Nat.lt_of_lt_of_le (Heap.lt_size e) I.ok.above))).trans (I.base.keep b o e n hb hx)
  ·obtain⟨sl,e1⟩:=I.base.slot b o e n hb hx
   exact⟨sl,(hs.2 b (Nat.ne_of_lt (Nat.lt_of_lt_of_le (Heap.lt_size e) I.ok.above))).trans e1⟩
  ·obtain⟨o',e1⟩:=I.base.there b o e hx
   exact⟨o',(hs.2 b (Nat.ne_of_lt (Nat.lt_of_lt_of_le (Heap.lt_size e) I.ok.above))).trans e1⟩
  ·by_cases hj:j=i
   ·subst hj;rw[hi]at e1;cases e1
    rw[List.getElem?_set_self hiσ]at e2;cases e2
    exact⟨u,r,.inl ⟨hk,Zs⟩⟩
   ·rw[List.getElem?_set_ne (Ne.symm hj)]at e2;obtain⟨u',r',q⟩:=hl j y v' e1 e2 e3
    refine⟨u',r',?_⟩
    rcases q with⟨k,e⟩ | ⟨k,c,e,z⟩
    ·refine .inl ⟨k,?_⟩
     have:y≠x:=fun e=>hj (mW hN e1 (e ▸ hi))
     simp [this,e]
    ·exact .inr ⟨k,c,e,z.sameBut hs (cne y c e)⟩
  ·obtain⟨w',z⟩:=I.cell y c e
   exact⟨w',z.sameBut hs (cne y c e)⟩
  ·obtain⟨e,n,ne,nf,d⟩:=I.pin p hp
   exact⟨(hs.2 p.1 ne).trans e,n,ne,nf,d⟩
 ·have hfn:X.fn x=true:=by
   rcases hf with z | z
   ·exact z
   ·rw[z]at hk;cases hk
  obtain⟨c,hc⟩:=I.ok.has x (.inl hk)
  obtain⟨w',z⟩:=I.cell x c hc
  refine wpAny_storeName_cell I.ok.kind hk hc z (fun h' hc' hs=>?_)
  obtain⟨oc,hoc,hocd⟩:=id z
  refine h {s with heap:=h' } ⟨I.ok,I.os,I.bare,⟨fun b o e n hb hx=>?_,fun b o e n hb hx=>?_,I.base.free,fun b o e hx=>?_,I.base.tups,I.base.frzs,I.base.tbls⟩,⟨m,hn.sameBut hs (Ne.symm (cne x c hc)),fun j y v' e1 e2 e3=>?_⟩,fun y c' e=>?_,I.free,I.freeC,fun p hp=>?_,tracked ⟨oc,hoc,I.freeC x c hc⟩ hs,by simpa using I.len⟩ ⟨c,hs,.inr hc⟩
  ·exact(hs.2 b (Nat.ne_of_lt (Nat.lt_of_lt_of_le (Heap.lt_size e) (I.ok.cab x c hfn hc)))).trans (I.base.keep b o e n hb hx)
  ·obtain⟨sl,e1⟩:=I.base.slot b o e n hb hx
   exact⟨sl,(hs.2 b (Nat.ne_of_lt (Nat.lt_of_lt_of_le (Heap.lt_size e) (I.ok.cab x c hfn hc)))).trans e1⟩
  ·obtain⟨o',e1⟩:=I.base.there b o e hx
   exact⟨o',(hs.2 b (Nat.ne_of_lt (Nat.lt_of_lt_of_le (Heap.lt_size e) (I.ok.cab x c hfn hc)))).trans e1⟩
  ·by_cases hj:j=i
   ·subst hj;rw[hi]at e1;cases e1
    rw[List.getElem?_set_self hiσ]at e2;cases e2
    exact⟨u,r,.inr ⟨.inl hk,c,hc,hc'⟩⟩
   ·rw[List.getElem?_set_ne (Ne.symm hj)]at e2;obtain⟨u',r',q⟩:=hl j y v' e1 e2 e3
    refine⟨u',r',?_⟩
    rcases q with q | ⟨k,c',e,z'⟩
    ·exact .inl q
    ·refine .inr ⟨k,c',e,z'.sameBut hs ?_⟩
     rintro rfl
     exact hj (mW hN e1 (I.ok.inj _ _ _ e hc ▸ hi))
  ·by_cases hcc:c'=c
   ·subst hcc;exact⟨_,hc'⟩
   ·obtain⟨w2,z2⟩:=I.cell y c' e
    exact⟨w2,z2.sameBut hs hcc⟩
  ·obtain⟨e,n,ne,nf,d⟩:=I.pin p hp
   refine⟨(hs.2 p.1 ?_).trans e,n,ne,nf,d⟩
   intro q;rw[q,hoc]at e;have q':oc=p.2:=Option.some.inj e
   exact d w' (by rw[<- q'];exact hocd)
theorem jN {M:Model} {A:Around} {E:Value->Shared->Prop} {i:Nat} {x:Str} {v:V} {u:Value} {Q:Unit->Shared->Prop} (I:Inv X pins σ H s) (hN:X.N.Nodup) (hi:X.N[i]?=some x) (hx:Ad X.env.scope x) (r:RelV v u)
  (h:∀s',Inv X pins (σ.set i (some v)) H s'->Q () s') (hf:X.fn x=true∨X.env.scope.names.lookup x=some .local:=by first | exact .inl rfl | exact .inr rfl | assumption):wpAny M A (storeName X.env x u) Q E s:=
 pO I hN hi hx r (fun s' I' _=>h s' I') hf
theorem Inv.call' {s':Shared} {ch:List Addr} (I:Inv X pins σ H s) (ho:s'.os=s.os) (u:Un (gW X.stack) ch H H' s.heap s'.heap) (hok:HOk X.prog X.w H' s'.heap) (hg:AllBare s'.gens)
  (hch:∀b∈ch,(b∈X.ex∨X.s₀.heap.objs.size<=b)/\b≠X.env.locals/\(∀x c,X.env.cells.lookup x=some c->c≠b)/\∀p∈X.pn++pins,p.1≠b):Inv X pins σ H' s':=by
 obtain⟨h',g',d',t',o'⟩:=s'
 have e:o'=s.os:=ho
 subst e;exact I.call (g':=g') (t':=t') (d':=d') u hok hg hch
end
abbrev XK:=Value->Option Addr->Hp->Prop
abbrev St:=List (Option V)
abbrev VK:=V->Hp->Prop
abbrev TE:=St->Hp->VK->Prop
abbrev TT:=St->Hp->(Bool->Hp->Prop)->Prop
abbrev TA:=St->Hp->(List V->Hp->Prop)->Prop
structure hZ where
 nx:St->Hp->Prop
 rt:VK
 bk:St->Hp->Prop:=fun _ _=>False
 ct:St->Hp->Prop:=fun _ _=>False
abbrev TS:=hZ->St->Hp->Prop
def EP (X:Cx) (pins:List (Addr × Obj)) (σ:St) (Q:VK) (u:Value) (s':Shared):Prop:=∃v H',Inv X pins σ H' s'/\RelV v u/\Q v H'
def TP (X:Cx) (pins:List (Addr × Obj)) (σ:St) (Q:Bool->Hp->Prop) (b:Bool) (s':Shared):Prop:=∃H',Inv X pins σ H' s'/\Q b H'
def AP (X:Cx) (pins:List (Addr × Obj)) (σ:St) (Q:List V->Hp->Prop) (us:List Value) (s':Shared):Prop:=∃vs H',Inv X pins σ H' s'/\Vals vs us/\Q vs H'
def SP (X:Cx) (pins:List (Addr × Obj)) (D:hZ) (f:Flow) (s':Shared):Prop:=
 match f with
 | .next=>∃ σ' H',Inv X pins σ' H' s'/\D.nx σ' H'
 | .brk=>∃ σ' H',Inv X pins σ' H' s'/\D.bk σ' H'
 | .cont=>∃ σ' H',Inv X pins σ' H' s'/\D.ct σ' H'
 | .ret u=>∃v σ' H',Inv X pins σ' H' s'/\RelV v u/\D.rt v H'
def PE (X:Cx) (e:Expr) (t:TE):Prop:=
 ∀(pins:List (Addr × Obj)) (s:Shared) (σ:St) (H:Hp) (Q:VK),Inv X pins σ H s->t σ H Q->wpAny (model X.prog X.w) X.A (eval e X.env) (EP X pins σ Q) X.xe s
def PT (X:Cx) (e:Expr) (t:TT):Prop:=
 ∀(pins:List (Addr × Obj)) (s:Shared) (σ:St) (H:Hp) (Q:Bool->Hp->Prop),Inv X pins σ H s->t σ H Q->wpAny (model X.prog X.w) X.A (isTrue e X.env (eval e X.env)) (TP X pins σ Q) X.xe s
def PW (X:Cx) (e:Expr) (t:TT):Prop:=
 ∀(whole:Sem Value) (pins:List (Addr × Obj)) (s:Shared) (σ:St) (H:Hp) (Q:Bool->Hp->Prop),Inv X pins σ H s->t σ H Q->wpAny (model X.prog X.w) X.A (isTrue e X.env whole) (TP X pins σ Q) X.xe s
theorem PW.pt {X:Cx} {e:Expr} {t:TT} (h:PW X e t):PT X e t:=h _
def PA (X:Cx) (es:List Expr) (t:TA):Prop:=
 ∀(pos:Pos) (pins:List (Addr × Obj)) (s:Shared) (σ:St) (H:Hp) (Q:List V->Hp->Prop),Inv X pins σ H s->t σ H Q->wpAny (model X.prog X.w) X.A (spliced (backTo pos (starEach es X.env))) (AP X pins σ Q) X.xe s
def PS (X:Cx) (st:Stmt) (t:TS):Prop:=
 ∀(pins:List (Addr × Obj)) (s:Shared) (σ:St) (H:Hp) (D:hZ),Inv X pins σ H s->t D σ H->wpAny (model X.prog X.w) X.A (exec st X.env) (SP X pins D) X.xe s
def PSs (X:Cx) (st:List Stmt) (t:TS):Prop:=
 ∀(pins:List (Addr × Obj)) (s:Shared) (σ:St) (H:Hp) (D:hZ),Inv X pins σ H s->t D σ H->wpAny (model X.prog X.w) X.A (execs st X.env) (SP X pins D) X.xe s
theorem bK {α:Type} {t:Sem α} {Q Q':α->Shared->Prop} {M:Model} {A:Around} {E:Value->Shared->Prop} {s:Shared} (h:wpAny M A t Q E s) (hQ:∀a s,Q a s->Q' a s):wpAny M A t Q' E s:=wpAny_mono h hQ fun _ _ x=>x
end L2
namespace L2
open PySem PySem.Spec PyProof.Rows
section
variable {X:Cx}
theorem Vk {a b:Expr} {ta tb:TE} (ha:PE X a ta) (hb:PE X b tb) {pins:List (Addr × Obj)} {s:Shared} {σ:St} {H:Hp} {R:V->V->Hp->Prop} (I:Inv X pins σ H s) (h:ta σ H fun x H1=>tb σ H1 fun y H2=>R x y H2)
  {α:Type} {Q:α->Shared->Prop} {f:Value->Value->Sem α}
  (hf:∀v u s2 x y H2,Inv X pins σ H2 s2->RelV x v->RelV y u->R x y H2->wpAny (model X.prog X.w) X.A (f v u) Q X.xe s2) :
  wpAny (model X.prog X.w) X.A (eval a X.env) (fun v s₁=>wpAny (model X.prog X.w) X.A (eval b X.env) (fun u s₂=>wpAny (model X.prog X.w) X.A (f v u) Q X.xe s₂) X.xe s₁) X.xe s:=by
 refine bK (ha pins s σ H _ I h) fun v s1 ⟨x,H1,I1,r1,q1⟩=>?_
 refine bK (hb pins s1 σ H1 _ I1 q1) fun u s2 ⟨y,H2,I2,r2,q2⟩=>?_
 exact hf v u s2 x y H2 I2 r1 r2 q2
def Ko (i:Nat):TE:=fun σ H Q=>∃v,σ[i]?=some (some v)/\Q v H
def tC (v:V):TE:=fun _ H Q=>Q v H
theorem Kq {i:Nat} {x:Str} {pos:Pos} (hN:X.N[i]?=some x) (hv:Pm X.env.scope x) (hd:(x == ("__debug__":Str))=false:=by decide) (hcd:(x == ("__classdict__":Str))=false:=by decide):PE X (.Name x pos) (Ko i):=by
 intro pins s σ H Q I h;obtain⟨v,e,h⟩:=h
 obtain⟨m,hn,hl⟩:=I.loc
 obtain⟨u,r,l⟩:=hl i x v hN e hv
 have fin:EP X pins σ Q u s:=⟨v,H,I,r,h⟩
 rcases l with⟨hk,hm⟩ | ⟨hk,c,hc,hcell⟩
 ·exact wpAny_Name (wpAny_loadName_local I.ok.kind hk hn hm fin) hd
 ·rcases hk with hk | hk
  ·exact wpAny_Name (wpAny_loadName_cell I.ok.kind hk hc hcell fin) hd
  ·exact wpAny_Name (wpAny_loadName_free I.ok.kind hk hc hcell fin hcd) hd
theorem Kr {i j pos}:PE X (.Constant (.int i) j pos) (tC (.int i)):=fun _ _ _ H _ I h=>wpAny_Constant_int ⟨.int i,H,I.tok _,⟨_,rfl⟩,h⟩
theorem Pn {b j pos}:PE X (.Constant (.bool b) j pos) (tC (.bl b)):=fun _ _ _ H _ I h=>Constant_bool ⟨.bl b,H,I,rfl,h⟩
theorem Ks {j pos}:PE X (.Constant .none j pos) (tC .non):=fun _ _ _ H _ I h=>Constant_none ⟨.non,H,I,rfl,h⟩
theorem Kt {x j pos}:PE X (.Constant (.str x) j pos) (tC (.str x)):=fun _ _ _ H _ I h=>Calls.Constant_str ⟨.str x,H,I.tok _,⟨_,rfl⟩,h⟩
def Gl (X:Cx) (x:Str):Prop:=X.env.kindOf x=some .globalImplicit
theorem iK {E:Value->Shared->Prop} {pins:List (Addr × Obj)} {s:Shared} {σ:St} {H:Hp} {x:Str} {u:Value} {pos:Pos} {Q:Value->Shared->Prop} (I:Inv X pins σ H s) (hg:Gl X x) (hm:X.mg x=some u) (h:Q u s)
  (hd:(x == ("__debug__":Str))=false:=by decide):wpAny (model X.prog X.w) X.A (eval (.Name x pos) X.env) Q E s:=
 Calls.Name_function_global I.ok.kind hg (Calls.loadGlobal_global (by rw[I.ok.glob];exact I.mod.glob.keeps I.bk) hm h) hd
theorem qW {E:Value->Shared->Prop} {pins:List (Addr × Obj)} {s:Shared} {σ:St} {H:Hp} {x:Str} {u:Value} {pos:Pos} {Q:Value->Shared->Prop} (I:Inv X pins σ H s) (hg:Gl X x) (hm:X.mg x=none) (hv:bootBuiltins x=some u) (h:Q u s)
  (hn:x≠"__name__":=by decide) (hd:(x == ("__debug__":Str))=false:=by decide):wpAny (model X.prog X.w) X.A (eval (.Name x pos) X.env) Q E s:=by
 obtain⟨mb,h1,h2⟩:=I.mod.blt
 exact Calls.Name_function_global I.ok.kind hg (Calls.loadGlobal_builtin (by rw[I.ok.glob];exact I.mod.glob.keeps I.bk) hm (by rw[I.ok.blt];exact h1.keeps I.bk) ((h2 x hn).trans hv) h) hd
theorem wQ {x:Str} {v:V} {u:Value} {pos:Pos} (hg:Gl X x) (hm:X.mg x=some u) (r:RelV v u) (hd:(x == ("__debug__":Str))=false:=by decide):PE X (.Name x pos) (tC v):=
 fun _ _ _ H _ I h=>iK I hg hm ⟨v,H,I,r,h⟩ hd
theorem wR {x:Str} {v:V} {u:Value} {pos:Pos} (hg:Gl X x) (hm:X.mg x=none) (hv:bootBuiltins x=some u) (r:RelV v u) (hn:x≠"__name__":=by decide) (hd:(x == ("__debug__":Str))=false:=by decide):PE X (.Name x pos) (tC v):=
 fun _ _ _ H _ I h=>qW I hg hm hv ⟨v,H,I,r,h⟩ hn hd
variable {a b:Expr} {ta tb:TE} {pos:Pos}
def PC (X:Cx) (op:CmpOp) (a b:Expr) (t:TE):Prop:=
 ∀(pins:List (Addr × Obj)) (s:Shared) (σ:St) (H:Hp) (Q:VK),Inv X pins σ H s->t σ H Q →
  wpAny (model X.prog X.w) X.A (eval a X.env) (fun v s₁=>wpAny (model X.prog X.w) X.A (eval b X.env) (fun u s₂=>wpAny (model X.prog X.w) X.A (compareOp op v u) (EP X pins σ Q) X.xe s₂) X.xe s₁) X.xe s
def tB (t:TE):TT:=fun σ H Q=>t σ H fun x H1=>∃c,x=.bl c/\Q c H1
theorem Tj {op:CmpOp} {t:TE} (h:PC X op a b t) (h1:behindInMarks op b=false:=by first | exact nobehind _ Zd Zd | rfl):PT X (.Compare a [op] [b] pos) (tB t):=by
 intro pins s σ H Q I hw;refine wpAny_isTrue_Compare1 (bK (h pins s σ H _ I hw) fun v s1 h1=>bK h1 fun u s2 h2=>bK h2 fun c s3 ⟨x,H1,I1,r1,q1⟩=>?_) h1
 obtain⟨d,rfl,q⟩:=q1
 cases r1
 exact wpAny_truthy_bool ⟨H1,I1,q⟩
theorem Ku {e:Expr} {t:TE} (h:PE X e t) (he:∀whole,isTrue e X.env whole=(do let v ← whole;standAt e.pos;holding [v] (truthy v)):=by intro _;rfl):PT X e (tB t):=by
 intro pins s σ H Q I hw;refine isTrue_plain (bK (h pins s σ H _ I hw) fun v s1 ⟨x,H1,I1,r1,q1⟩=>?_) (he _)
 obtain⟨d,rfl,q⟩:=q1
 cases r1
 exact wpAny_truthy_bool ⟨H1,I1,q⟩
variable {tA tB':TT} {rest:List Expr}
def Po (t u:TT):TT:=fun σ H Q=>t σ H fun c H1=>if c=true then u σ H1 Q else Q false H1
def Us (t u:TT):TT:=fun σ H Q=>t σ H fun c H1=>if c=true then Q true H1 else u σ H1 Q
def Pp (t:TT):TT:=fun σ H Q=>t σ H fun c H1=>Q (!c) H1
theorem Fi (ha:PT X a tA):PW X (.BoolOp .And [a] pos) tA:=by
 intro wh pins s σ H Q I h;refine isTrue_and (bK (ha pins s σ H Q I h) fun c s1 e=>?_)
 cases c with
 | true=>exact isTrue_and_nil e
 | false=>exact e
theorem Kv (ha:PT X a tA):PW X (.BoolOp .Or [a] pos) tA:=by
 intro wh pins s σ H Q I h;refine isTrue_or (bK (ha pins s σ H Q I h) fun c s1 e=>?_)
 cases c with
 | false=>exact isTrue_or_nil e
 | true=>exact e
theorem Kw (ha:PT X a tA) (hb:PW X (.BoolOp .And (b::rest) pos) tB'):PW X (.BoolOp .And (a::b::rest) pos) (Po tA tB'):=by
 intro wh pins s σ H Q I h;refine isTrue_and (bK (ha pins s σ H _ I h) fun c s1 ⟨H1,I1,q1⟩=>?_)
 cases c with
 | true=>exact hb wh pins s1 σ H1 Q I1 q1
 | false=>exact⟨H1,I1,q1⟩
theorem Pq (ha:PT X a tA) (hb:PW X (.BoolOp .Or (b::rest) pos) tB'):PW X (.BoolOp .Or (a::b::rest) pos) (Us tA tB'):=by
 intro wh pins s σ H Q I h;refine isTrue_or (bK (ha pins s σ H _ I h) fun c s1 ⟨H1,I1,q1⟩=>?_)
 cases c with
 | true=>exact⟨H1,I1,q1⟩
 | false=>exact hb wh pins s1 σ H1 Q I1 q1
theorem Kx (ha:PT X a tA):PT X (.UnaryOp .Not a pos) (Pp tA):=by
 intro pins s σ H Q I h;exact isTrue_not (ha pins s σ H (fun c H1=>Q (!c) H1) I h)
def Ky (ta tb:TE):TE:=fun σ H Q=>ta σ H fun x H1=>∃c,x=.bl c/\if c=true then Q (.bl true) H1 else tb σ H1 Q
def Ah (ta:TE):TE:=fun σ H Q=>ta σ H fun x H1=>∃c,x=.bl c/\Q (.bl (!c)) H1
theorem Kz {op} {t:TE} (h:PE X a t):PE X (.BoolOp op [a] pos) t:=fun pins s σ H Q I hw=>BoolOp_one (h pins s σ H Q I hw)
theorem Pr (ha:PE X a ta) (hb:PE X (.BoolOp .Or (b::rest) pos) tb):PE X (.BoolOp .Or (a::b::rest) pos) (Ky ta tb):=by
 intro pins s σ H Q I h;refine BoolOp_or (bK (ha pins s σ H _ I h) fun v s1 ⟨x,H1,I1,r1,q1⟩=>?_)
 obtain⟨c,rfl,q1⟩:=q1
 cases r1
 refine wpAny_truthy_bool ?_
 cases c with
 | false=>exact hb pins s1 σ H1 Q I1 q1
 | true=>exact⟨.bl true,H1,I1,rfl,q1⟩
theorem Lk (ha:PE X a ta):PE X (.UnaryOp .Not a pos) (Ah ta):=by
 intro pins s σ H Q I h;refine UnaryOp_ (bK (ha pins s σ H _ I h) fun v s1 ⟨x,H1,I1,r1,q1⟩=>?_)
 obtain⟨c,rfl,q1⟩:=q1
 cases r1
 exact not_of (wpAny_truthy_bool ⟨.bl (!c),H1,I1,rfl,q1⟩)
end
end L2
namespace L2
open PySem PySem.Spec PyProof.Rows
def SqL (K:W.Frag) (H:Hp) (a:Addr) (xs:List V):Prop:=
 Rd H a (.lst xs)∨
  ∃(o:Obj) (its:Array Value) (n:Nat),K.lookup a=some o/\o.cls=.type "list"/\o.dict=none/\o.data=.seq its n/\its.size<=sizeLine/\Vals xs its.toList
def SqT (K:W.Frag) (H:Hp) (a:Addr) (xs:List V):Prop:=
 Rd H a (.tup xs)∨
  ∃(o:Obj) (its:Array Value) (n:Nat),K.lookup a=some o/\o.cls=.type "tuple"/\o.data=.seq its n/\its.size<=sizeLine/\Vals xs its.toList
def Tk:Value->Option V
 | .none=>some .non
 | .bool b=>some (.bl b)
 | .int i _=>some (.int i)
 | .str x _=>some (.str x)
 | .bytes b _=>some (.byt b)
 | .float b _=>some (.flt b)
 | .ref a=>some (.ref a)
 | .type n=>some (.ty n)
 | _=>none
theorem RelV.abs {x:V} {u:Value} (r:RelV x u):Tk u=some x:=by
 cases x with
 | non=>cases r;rfl
 | bl _=>cases r;rfl
 | int _=>obtain⟨t,rfl⟩:=r;rfl
 | str _=>obtain⟨t,rfl⟩:=r;rfl
 | byt _=>obtain⟨t,rfl⟩:=r;rfl
 | flt _=>obtain⟨t,rfl⟩:=r;rfl
 | ref _=>cases r;rfl
 | ty _=>cases r;rfl
theorem RelV.inj {x y:V} {u:Value} (r:RelV x u) (q:RelV y u):x=y:=Option.some.inj (r.abs.symm.trans q.abs)
theorem Vals.inj:∀ {xs ys:List V} {us:List Value},Vals xs us->Vals ys us->xs=ys
 | _,_,_,.nil,.nil=>rfl
 | _,_,_,.cons r t,.cons r' t'=>by rw[r.inj r',Vals.inj t t']
section
variable {X:Cx} {pins:List (Addr × Obj)} {σ:St} {H:Hp} {s:Shared} {a:Addr} {xs ys:List V}
theorem SqL.of {K:W.Frag} (h:H a=some (.lst xs)):SqL K H a xs:=.inl (.inl h)
theorem SqT.of {K:W.Frag} (h:H a=some (.tup xs)):SqT K H a xs:=.inl (.inl h)
theorem Inv.list (I:Inv X pins σ H s) (h:SqL X.K H a xs):∃its:List Value,Vals xs its/\PlainL s.heap a its.toArray/\xs.length<=sizeLine:=by
 rcases h with h | ⟨o,its,n,hk,hc,hd,hs,hz,r⟩
 ·obtain⟨z,its,n,r,e⟩:=h.ok I.hok
  exact⟨its,r,⟨_,n,e,rfl,rfl,rfl⟩,z⟩
 ·refine⟨its.toList,r,⟨o,n,I.kIn a o hk,hc,hd,by simpa using hs⟩,?_⟩
  have e:=r.length
  simp only [Array.length_toList]at e
  omega
theorem Inv.tuple (I:Inv X pins σ H s) (h:SqT X.K H a xs):∃its:List Value,Vals xs its/\IsTup s.heap a its.toArray/\xs.length<=sizeLine:=by
 rcases h with h | ⟨o,its,n,hk,hc,hs,hz,r⟩
 ·obtain⟨z,its,r,p⟩:=h.ok I.hok
  exact⟨its,r,p,z⟩
 ·refine⟨its.toList,r,⟨o,I.kIn a o hk,hc,n,by simpa using hs⟩,?_⟩
  have e:=r.length
  simp only [Array.length_toList]at e
  omega
theorem Inv.list_inj (I:Inv X pins σ H s) (h:SqL X.K H a xs) (h':SqL X.K H a ys):xs=ys:=by
 obtain⟨its,r,⟨o,n,e,_,_,d⟩,_⟩:=I.list h
 obtain⟨its',r',⟨o',n',e',_,_,d'⟩,_⟩:=I.list h'
 rw[e]at e';cases e'
 rw[d]at d';injection d' with d1 _
 have:its=its':=by simpa using congrArg Array.toList d1
 subst this;exact r.inj r'
theorem Inv.tuple_inj (I:Inv X pins σ H s) (h:SqT X.K H a xs) (h':SqT X.K H a ys):xs=ys:=by
 obtain⟨its,r,⟨o,e,_,n,d⟩,_⟩:=I.tuple h
 obtain⟨its',r',⟨o',e',_,n',d'⟩,_⟩:=I.tuple h'
 rw[e]at e';cases e'
 rw[d]at d';injection d' with d1 _
 have:its=its':=by simpa using congrArg Array.toList d1
 subst this;exact r.inj r'
end
abbrev Cx.wish (X:Cx) (E:Value->Shared->Prop):Cx:={X with xe:=E }
abbrev Cx.nox (X:Cx):Cx:=X.wish fun _ _=>False
theorem Cx.Ok.wish {X:Cx} (ok:X.Ok) (E:Value->Shared->Prop):(X.wish E).Ok:=
 ⟨ok.mod,ok.kind,ok.glob,ok.blt,ok.above,ok.inj,ok.has,ok.cab,ok.hd,ok.frames,ok.stk,ok.exf,ok.bs,ok.bsz,ok.noex,ok.exfs,ok.funs,ok.frf⟩
theorem Cx.Ok.unwish {X:Cx} {E:Value->Shared->Prop} (ok:(X.wish E).Ok):X.Ok:=
 ⟨ok.mod,ok.kind,ok.glob,ok.blt,ok.above,ok.inj,ok.has,ok.cab,ok.hd,ok.frames,ok.stk,ok.exf,ok.bs,ok.bsz,ok.noex,ok.exfs,ok.funs,ok.frf⟩
section
variable {X:Cx} {pins:List (Addr × Obj)} {σ:St} {H:Hp} {s:Shared} {E:Value->Shared->Prop}
theorem Inv.wish (I:Inv X pins σ H s) (E:Value->Shared->Prop):Inv (X.wish E) pins σ H s:=⟨I.ok.wish E,I.os,I.bare,I.base,I.loc,I.cell,I.free,I.freeC,I.pin,I.hok,I.len⟩
theorem Inv.unwish (I:Inv (X.wish E) pins σ H s):Inv X pins σ H s:=⟨I.ok.unwish,I.os,I.bare,I.base,I.loc,I.cell,I.free,I.freeC,I.pin,I.hok,I.len⟩
theorem SP.unwish {D:hZ} {f:Flow} {s':Shared} (h:SP (X.wish E) pins D f s'):SP X pins D f s':=by
 cases f with
 | next=>obtain⟨σ',H',I,q⟩:=h;exact⟨σ',H',I.unwish,q⟩
 | brk=>obtain⟨σ',H',I,q⟩:=h;exact⟨σ',H',I.unwish,q⟩
 | cont=>obtain⟨σ',H',I,q⟩:=h;exact⟨σ',H',I.unwish,q⟩
 | ret u=>obtain⟨v,σ',H',I,r,q⟩:=h;exact⟨v,σ',H',I.unwish,r,q⟩
theorem PSs.nox {st:List Stmt} {t:TS} (h:PSs X.nox st t):PSs X st t:=fun pins s σ H D I hw=>
 wpAny_mono (h pins s σ H D (I.wish _) hw) (fun _ _ q=>q.unwish) fun _ _ z=>False.elim z
end
section
variable {X:Cx} {st:Stmt} {rest:List Stmt} {t u:TS} {e:Expr} {te:TE} {pos:Pos}
def Jd:TS:=fun D σ H=>D.nx σ H
def oX (t u:TS):TS:=fun D σ H=>t {D with nx:=u D } σ H
theorem Fj:PSs X [] Jd:=fun _ _ σ H _ I h=>wpAny_execs_nil ⟨σ,H,I,h⟩
theorem Ai (h1:PS X st t) (h2:PSs X rest u):PSs X (st::rest) (oX t u):=by
 intro pins s σ H D I h;refine wpAny_execs_cons (bK (h1 pins s σ H {D with nx:=u D } I h) fun f s1 q=>?_)
 cases f with
 | next=>
  obtain⟨σ',H',I',q⟩:=q
  exact h2 pins s1 σ' H' D I' q
 | ret v=>exact q
 | brk=>exact q
 | cont=>exact q
theorem Fk (h1:PS X st t):PSs X [st] t:=by
 intro pins s σ H D I h;refine wpAny_execs_cons (bK (h1 pins s σ H D I h) fun f s1 q=>?_)
 cases f with
 | next=>exact wpAny_execs_nil q
 | ret v=>exact q
 | brk=>exact q
 | cont=>exact q
theorem Inv.quiet {pins:List (Addr × Obj)} {σ:St} {H:Hp} {s:Shared} (I:Inv X pins σ H s):interactive X.env=false:=by simp [interactive,I.ok.kind]
def Je (te:TE):TS:=fun D σ H=>te σ H fun _ H1=>D.nx σ H1
theorem Fl (he:PE X e te) (hs:swapsWith e none pos.line X.env=pure false:=by rfl):PS X (.Expr e pos) (Je te):=by
 intro pins s σ H D I h;exact wpAny_Expr_any (bK (he pins s σ H _ I h) fun v s1 ⟨x,H1,I1,r1,q1⟩=>⟨σ,H1,I1,q1⟩) I.quiet hs
def Ps (te:TE):TS:=fun D σ H=>te σ H D.rt
theorem Ll (he:PE X e te):PS X (.Return (some e) pos) (Ps te):=by
 intro pins s σ H D I h;exact wpAny_Return_some (bK (he pins s σ H _ I h) fun v s1 ⟨x,H1,I1,r1,q1⟩=>⟨x,σ,H1,I1,r1,q1⟩)
def yL (c:TT) (t u:TS):TS:=fun D σ H=>c σ H fun b H1=>if b=true then t D σ H1 else u D σ H1
theorem Pt {c:Expr} {a b:List Stmt} {tc:TT} (hc:PT X c tc) (ha:PSs X a t) (hb:PSs X b u):PS X (.If c a b pos) (yL tc t u):=by
 intro pins s σ H D I h;refine wpAny_If (bK (hc pins s σ H _ I h) fun d s1 ⟨H1,I1,q1⟩=>?_)
 cases d with
 | true=>exact ha pins s1 σ H1 D I1 q1
 | false=>exact hb pins s1 σ H1 D I1 q1
end
abbrev TG:=V->St->Hp->(St->Hp->Prop)->Prop
abbrev Aj:=List V->St->Hp->(St->Hp->Prop)->Prop
def PG (X:Cx) (target:Expr) (t:TG):Prop:=
 ∀(pins:List (Addr × Obj)) (s:Shared) (σ:St) (H:Hp) (v:V) (u:Value) (Q:St->Hp->Prop),Inv X pins σ H s->RelV v u->t v σ H Q →
  wpAny (model X.prog X.w) X.A (assign target X.env u) (fun _ s'=>∃ σ' H',Inv X pins σ' H' s'/\Q σ' H') X.xe s
def Pu (X:Cx) (ts:List Expr) (t:Aj):Prop:=
 ∀(pins:List (Addr × Obj)) (s:Shared) (σ:St) (H:Hp) (vs:List V) (us:List Value) (Q:St->Hp->Prop),Inv X pins σ H s->Vals vs us->t vs σ H Q →
  wpAny (model X.prog X.w) X.A (assignInOrder ((assignEach ts X.env).map (·.2)) us) (fun _ s'=>∃ σ' H',Inv X pins σ' H' s'/\Q σ' H') X.xe s
abbrev yM:=V->V->V->Hp->(Hp->Prop)->Prop
def Fm (X:Cx) (t:yM):Prop:=
 ∀(pins:List (Addr × Obj)) (s:Shared) (σ:St) (H:Hp) (o i v:V) (ov iv u:Value) (Q:Hp->Prop),Inv X pins σ H s->RelV o ov->RelV i iv->RelV v u->t o i v H Q →
  wpAny (model X.prog X.w) X.A (setItem ov iv u) (fun _ s'=>∃H',Inv X pins σ H' s'/\Q H') X.xe s
section
variable {X:Cx} {pos:Pos}
def aJ (i:Nat):TG:=fun v σ H Q=>Q (σ.set i (some v)) H
theorem Fn {i:Nat} {x:Str} (hN:X.N.Nodup) (hi:X.N[i]?=some x) (hx:Ad X.env.scope x) (hf:X.fn x=true∨X.env.scope.names.lookup x=some .local:=by first | exact .inl rfl | exact .inr rfl | assumption):PG X (.Name x pos) (aJ i):=by
 intro pins s σ H v u Q I r h;exact wpAny_assign_Name (jN I hN hi hx r (fun s' I'=>⟨_,H,I',h⟩) hf)
def Pw:Aj:=fun vs σ H Q=>vs=[]/\Q σ H
def Jf (t:TG) (u:Aj):Aj:=fun vs σ H Q=>∃v r,vs=v::r/\t v σ H fun σ' H'=>u r σ' H' Q
theorem Fo:Pu X [] Pw:=by
 intro pins s σ H vs us Q I r h;obtain⟨e,h⟩:=h
 subst e;cases r
 exact assignInOrder_nil ⟨σ,H,I,h⟩
theorem Ak {e:Expr} {es:List Expr} {t:TG} {u:Aj} (h1:PG X e t) (h2:Pu X es u)
  (hs:(assignEach (e::es) X.env).map (·.2)=assign e X.env::(assignEach es X.env).map (·.2):=by rfl):Pu X (e::es) (Jf t u):=by
 intro pins s σ H vs us Q I r h;obtain⟨v,vr,e1,h⟩:=h
 subst e1;cases r with
 | cons r rr=>
  rw[hs];refine assignInOrder_cons (bK (h1 pins s σ H _ _ _ I r h) fun _ s1 ⟨σ1,H1,I1,q1⟩=>?_)
  exact h2 pins s1 σ1 H1 _ _ Q I1 rr q1
def Lm (K:W.Frag) (n:Nat) (t:Aj):TG:=fun v σ H Q=>∃a xs,v=.ref a/\SqT K H a xs/\xs.length=n/\t xs σ H Q
theorem Ln {es:List Expr} {k:Nat} {t:Aj} {n:Nat} (hc:X.calm=true) (h:Pu X es t)
  (hn:(assignEach es X.env).length=n:=by rfl) (hst:(assignEach es X.env).findIdx? (·.1)=none:=by rfl):PG X (.Tuple es k pos) (Lm X.K n t):=by
 intro pins s σ H v u Q I r hw;obtain⟨a,xs,e1,hq,hl,hw⟩:=hw
 subst e1;cases r
 obtain⟨its,rv,ht,hz⟩:=I.tuple hq
 refine assign_Tuple_tuple (I.ok.hd hc) ht (by simp [hn,<- hl,rv.length]) hst fun h' hx=>?_
 have I1:Inv X pins σ H {s with heap:=h' }:=I.kept (t':=s.toks) fun b o e=>hx b o (Nat.ne_of_lt (Heap.lt_size e)) e
 exact h pins _ σ H xs _ Q I1 (by simpa using rv) hw
def Px (to ti:TE) (t:yM):TG:=fun v σ H Q=>to σ H fun o H1=>ti σ H1 fun i H2=>t o i v H2 fun H3=>Q σ H3
theorem Lo {o i:Expr} {to ti:TE} {t:yM} (ho:PE X o to) (hi:PE X i ti) (hs:Fm X t)
  (ha:∀v,assign (.Subscript o i pos) X.env v=(do
   let ov ← holding [v] (eval o X.env)
   let iv ← holding [v,ov] (eval i X.env)
   standAt pos
   holding [v,ov,iv] (setItem ov iv v)
   release [v,ov,iv] []):=by intro _;rfl):PG X (.Subscript o i pos) (Px to ti t):=by
 intro pins s σ H v u Q I r h;rw[ha];refine wpAny_bind (wpAny_holding (bK (ho pins s σ H _ I h) fun ov s1 ⟨x,H1,I1,r1,q1⟩=>?_))
 refine wpAny_bind (wpAny_holding (bK (hi pins s1 σ H1 _ I1 q1) fun iv s2 ⟨y,H2,I2,r2,q2⟩=>?_))
 refine wpAny_bind (wpAny_standAt (wpAny_bind (wpAny_holding (bK (hs pins s2 σ H2 x y v ov iv u _ I2 r1 r2 r q2) fun _ s3 ⟨H3,I3,q3⟩=>?_))))
 exact wpAny_release ⟨σ,H3,I3,q3⟩
def Al (te:TE) (g:TG):TS:=fun D σ H=>te σ H fun x H1=>g x σ H1 D.nx
theorem Lp {tg e:Expr} {te:TE} {g:TG} (he:PE X e te) (hg:PG X tg g) (hs:swapsWithSole [tg] e pos.line X.env=pure false:=by rfl) (hw:swappedStores [tg] e X.env=pure none:=by rfl)
  (h1:(assignEach [tg] X.env).map (·.2)=[assign tg X.env]:=by rfl):PS X (.Assign [tg] e pos) (Al te g):=by
 intro pins s σ H D I h;refine wpAny_Assign_stores (bK (he pins s σ H _ I h) fun v s1 ⟨x,H1,I1,r1,q1⟩=>?_) hs hw
 rw[h1];exact bK (hg pins s1 σ H1 x v _ I1 r1 q1) fun _ s2 q=>q
theorem Lq {i:Nat} {x:Str} {e:Expr} {te:TE} {pos':Pos} (hN:X.N.Nodup) (hi:X.N[i]?=some x) (hx:Ad X.env.scope x) (he:PE X e te) (hs:swapsWith e (some (.Name x pos')) pos.line X.env=pure false:=by rfl) (hf:X.fn x=true∨X.env.scope.names.lookup x=some .local:=by first | exact .inl rfl | exact .inr rfl | assumption) :
  PS X (.Assign [.Name x pos'] e pos) (Al te (aJ i)):=by
 intro pins s σ H D I h;refine wpAny_Assign_Name (bK (he pins s σ H _ I h) fun v s1 ⟨y,H1,I1,r1,q1⟩=>?_) hs
 exact jN I1 hN hi hx r1 (fun s2 I2=>⟨_,H1,I2,q1⟩) hf
end
section
variable {X:Cx} {pos:Pos}
def Am (c:TT) (tb:TS):TS:=fun D σ H=>∃W:Nat->St->Hp->Prop,(∃m,W m σ H)/\∀m σ H,W m σ H →
 c σ H fun b H1=>if b=true then ∃N:St->Hp->Prop,(∀ σ' H',N σ' H'->∃m',m'<m/\W m' σ' H')/\tb {D with nx:=N,ct:=N,bk:=D.nx } σ H1 else D.nx σ H1
theorem Ao {c:Expr} {body:List Stmt} {tc:TT} {tb:TS} (hp:PassesOwn (model X.prog X.w) X.A X.env X.xe) (hc:PT X c tc) (hb:PSs X body tb):PS X (.While c body [] pos) (Am tc tb):=by
 intro pins s σ H D I h;obtain⟨W,⟨m0,w0⟩,turn⟩:=h
 refine wpAny_While (codeAny_whileLoop (fun n s'=>∃ σ' H',Inv X pins σ' H' s'/\W n σ' H') ?_ m0 ⟨σ,H,I,w0⟩)
 rintro n s1 ⟨σ1,H1,I1,w1⟩
 refine wpAny_passesOwn hp (bK (hc pins s1 σ1 H1 _ I1 (turn n σ1 H1 w1)) fun b s2 ⟨H2,I2,q2⟩=>?_)
 cases b with
 | true=>
  obtain⟨N,hN,q2⟩:=q2
  rw[if_pos rfl];refine wpAny_passesOwn hp (bK (hb pins s2 σ1 H2 _ I2 q2) fun f s3 q3=>?_)
  cases f with
  | next=>
   obtain⟨σ3,H3,I3,n3⟩:=q3
   obtain⟨m',hm,w3⟩:=hN σ3 H3 n3
   exact⟨m',hm,σ3,H3,I3,w3⟩
  | cont=>
   obtain⟨σ3,H3,I3,n3⟩:=q3
   obtain⟨m',hm,w3⟩:=hN σ3 H3 n3
   exact⟨m',hm,σ3,H3,I3,w3⟩
  | brk=>exact q3
  | ret v=>exact q3
 | false=>
  rw[if_neg Bool.false_ne_true];exact wpAny_execs_nil ⟨σ1,H2,I2,q2⟩
end
structure It where
 go:Nat->Hp->Prop
 yld:Nat->Hp->V->Hp->Prop
 stop:Nat->Hp->Prop
def oY (X:Cx) (pins:List (Addr × Obj)) (H:Hp) (b:Addr):Prop:=
 H b=none/\b≠X.env.locals/\b∉X.fs/\(b∈X.ex∨X.s₀.heap.objs.size<=b)/\(∀x c,X.env.cells.lookup x=some c->c≠b)/\∀p∈X.pn++pins,p.1≠b
theorem Inv.fpOk {X:Cx} {pins:List (Addr × Obj)} {σ:St} {H H':Hp} {s:Shared} {b:Addr} (I:Inv X pins σ H s) (hb:s.heap.objs.size<=b) (hn:H' b=none):oY X pins H' b:=by
 refine⟨hn,Nat.ne_of_gt (Nat.lt_of_lt_of_le I.lt hb),I.nofs hb,.inr (hU I.sz hb),fun x c e z=>?_,fun p hp z=>?_⟩
 ·obtain⟨v,q⟩:=I.cell x c e
  exact absurd (Nat.lt_of_lt_of_le q.lt (by rw[z];exact hb)) (Nat.lt_irrefl _)
 ·exact absurd (Nat.lt_of_lt_of_le (Heap.lt_size (I.pin p hp).1) (by rw[z];exact hb)) (Nat.lt_irrefl _)
structure yN (P:Program) (w:World) (K:W.Frag) (tg:Expr) (J:It) (fp:List Addr) (it:Addr) (tn:Nat->Heap->Prop):Prop where
 mem:it∈fp
 obj:∀i h,tn i h->∀b∈fp,∃o,h.get? b=some o/\∀v,o.data≠.cell v
 keep:∀i h h',tn i h->(∀b∈fp,∀o,h.get? b=some o->h'.get? b=some o)->tn i h'
 item:∀(X:Cx),X.prog=P->X.w=w->X.K=K->X.calm=true->∀(i:Nat) (pins:List (Addr × Obj)) (s:Shared) (σ:St) (H:Hp) (E:Value->Shared->Prop),Inv X pins σ H s->(∀b∈fp,oY X pins H b)->tn i s.heap->J.go i H →
  wpAny (model P w) X.A (pyNext (.ref it)) (fun r s1=>∃u,r=some u ∧
   wpAny (model P w) X.A (letOwnedTupleGo tg (.ref it) u) (fun _ s2=>∃x H',Inv X pins σ H' s2/\RelV x u/\J.yld i H x H'/\tn (i+1) s2.heap/\∀b∈fp,H' b=none) E s1) E s
 done:∀(X:Cx),X.prog=P->X.w=w->X.K=K->X.calm=true->∀(i:Nat) (pins:List (Addr × Obj)) (s:Shared) (σ:St) (H:Hp) (E:Value->Shared->Prop),Inv X pins σ H s->(∀b∈fp,oY X pins H b)->tn i s.heap->J.stop i H →
  wpAny (model P w) X.A (pyNext (.ref it)) (fun r s1=>r=none/\Inv X pins σ H s1) E s
 self:∀(A:Around) (i:Nat) (s:Shared) (Q:Value->Shared->Prop) (E:Value->Shared->Prop),tn i s.heap->Q (.ref it) s->wpAny (model P w) A (pyIter (.ref it)) Q E s
abbrev TI:=St->Hp->(It->Hp->Prop)->Prop
def Ut (X:Cx) (pins:List (Addr × Obj)) (σ:St) (tg:Expr) (R:It->Hp->Prop) (itv:Value) (s2:Shared):Prop:=
 ∃(it:Addr) (fp:List Addr) (tn:Nat->Heap->Prop) (J:It) (H':Hp),itv=.ref it/\Inv X pins σ H' s2/\yN X.prog X.w X.K tg J fp it tn/\tn 0 s2.heap/\(∀b∈fp,oY X pins H' b)/\R J H'
def PI (X:Cx) (tg iter:Expr) (wi:TI):Prop:=
 ∀(pins:List (Addr × Obj)) (s:Shared) (σ:St) (H:Hp) (R:It->Hp->Prop),Inv X pins σ H s->wi σ H R →
  wpAny (model X.prog X.w) X.A (eval iter X.env) (fun v s1=>wpAny (model X.prog X.w) X.A (pyIter v) (Ut X pins σ tg R) X.xe s1) X.xe s
theorem wS {M:Model} {A:Around} {E:Value->Shared->Prop} {s:Shared} {tg:Expr} {it:Addr} {u:Value} {o:Obj} {n:String} {vs:Array Value} {Q:Unit->Shared->Prop} (ho:s.heap.get? it=some o) (hc:o.cls=.type n) (hd:o.data=.fields vs)
    (hn:["enumerate","zip","dict_itemiterator","dict_reverseitemiterator","odict_iterator","itertools.zip_longest","itertools.pairwise"].contains n=false) (hQ:Q () s):wpAny M A (letOwnedTupleGo tg (.ref it) u) Q E s:=by
  unfold letOwnedTupleGo;cases tg <;> first
    | exact wpAny_pure hQ
    | (cases u <;> first
        | exact wpAny_pure hQ
        | (refine wpAny_bind (wpAny_load ho ?_)
           rw[hc,hd];show wpAny M A (if (["enumerate","zip","dict_itemiterator","dict_reverseitemiterator","odict_iterator","itertools.zip_longest","itertools.pairwise"].contains n&&vs[0]? == some (rawInt _))=true then _ else _) Q E s
           rw[if_neg (by intro h;rw[hn,Bool.false_and]at h;cases h)]
           exact wpAny_pure hQ))
def Pe (K:W.Frag) (a:Addr):It:=
 ⟨fun i H=>∃xs x,SqL K H a xs/\xs[i]?=some x,fun i H x H'=>H'=H/\∀xs,SqL K H a xs->xs[i]?=some x,fun i H=>∃xs,SqL K H a xs/\xs.length<=i⟩
def Tl (K:W.Frag) (a:Addr):It:=
 ⟨fun i H=>∃xs x,SqT K H a xs/\xs[i]?=some x,fun i H x H'=>H'=H/\∀xs,SqT K H a xs->xs[i]?=some x,fun i H=>∃xs,SqT K H a xs/\xs.length<=i⟩
def Sv (lo:Int) (n:Nat):It:=⟨fun i _=>i<n,fun i H x H'=>H'=H/\x=.int (lo+i),fun i _=>n<=i⟩
theorem pP {P:Program} {w:World} {K:W.Frag} {tg:Expr} (a it:Addr):yN P w K tg (Pe K a) [it] it (fun i h=>h.IsListIter it a i) where
 mem:=by simp
 obj:=fun i h st b hb=>by
  have e:b=it:=by simpa using hb
  subst e;obtain⟨o,e,c,d⟩:=st
  exact⟨o,e,fun v z=>by rw[d]at z;cases z⟩
 keep:=fun i h h' st k=>st.at fun o e=>k it Zs o e
 item:=by
  intro X hP hw hK hc i pins s σ H E I hf st hg;subst hP hw hK;obtain⟨xs,x,hq,hx⟩:=hg
  obtain⟨its,rv,p,hz⟩:=I.list hq
  obtain⟨u,hu,ru⟩:=rv.get hx
  obtain⟨f0,f1,f2,f3,f4,f5⟩:=hf it Zs
  refine wpAny_pyNext_list_item st p.isList (x:=u) (by simpa using hu) fun h' st' sb=>?_
  have I1:Inv X pins σ H {s with heap:=h' }:=I.turned (t':=s.toks) (fun b o hb e=>(sb.2 b hb).trans e) f0 f1 f3 f4 f5
  obtain⟨o,e,c,d⟩:=id st'
  exact⟨u,rfl,wS (s:={s with heap:=h' }) e c d Zd ⟨x,H,I1,ru,⟨rfl,fun ys hy=>by rw[I.list_inj hy hq];exact hx⟩,st',fun b hb=>(hf b hb).1⟩⟩
 done:=by
  intro X hP hw hK hc i pins s σ H E I hf st hg;subst hP hw hK;obtain⟨xs,hq,hx⟩:=hg
  obtain⟨its,rv,p,hz⟩:=I.list hq
  obtain⟨f0,f1,f2,f3,f4,f5⟩:=hf it Zs
  have hl:=rv.length
  exact wpAny_pyNext_list_end (I.ok.hd hc) st p.isList (by simp;omega) fun h' eb=>⟨rfl,I.turned (t':=s.toks) (fun b o hb e=>eb b o hb e) f0 f1 f3 f4 f5⟩
 self:=fun _ _ _ _ _ st h=>wpAny_pyIter_listiter st h
theorem vB {P:Program} {w:World} {K:W.Frag} {tg:Expr} (a it:Addr):yN P w K tg (Tl K a) [it] it (fun i h=>h.IsTupleIter it a i) where
 mem:=by simp
 obj:=fun i h st b hb=>by
  have e:b=it:=by simpa using hb
  subst e;obtain⟨o,e,c,d⟩:=st
  exact⟨o,e,fun v z=>by rw[d]at z;cases z⟩
 keep:=fun i h h' st k=>st.at fun o e=>k it Zs o e
 item:=by
  intro X hP hw hK hc i pins s σ H E I hf st hg;subst hP hw hK;obtain⟨xs,x,hq,hx⟩:=hg
  obtain⟨its,rv,p,hz⟩:=I.tuple hq
  obtain⟨u,hu,ru⟩:=rv.get hx
  obtain⟨f0,f1,f2,f3,f4,f5⟩:=hf it Zs
  refine wpAny_pyNext_tuple_item st (show s.heap.IsTuple a its.toArray from p) (x:=u) (by simpa using hu) fun h' st' sb=>?_
  have I1:Inv X pins σ H {s with heap:=h' }:=I.turned (t':=s.toks) (fun b o hb e=>(sb.2 b hb).trans e) f0 f1 f3 f4 f5
  obtain⟨o,e,c,d⟩:=id st'
  exact⟨u,rfl,wS (s:={s with heap:=h' }) e c d Zd ⟨x,H,I1,ru,⟨rfl,fun ys hy=>by rw[I.tuple_inj hy hq];exact hx⟩,st',fun b hb=>(hf b hb).1⟩⟩
 done:=by
  intro X hP hw hK hc i pins s σ H E I hf st hg;subst hP hw hK;obtain⟨xs,hq,hx⟩:=hg
  obtain⟨its,rv,p,hz⟩:=I.tuple hq
  obtain⟨f0,f1,f2,f3,f4,f5⟩:=hf it Zs
  have hl:=rv.length
  exact wpAny_pyNext_tuple_end (I.ok.hd hc) st (show s.heap.IsTuple a its.toArray from p) (by simp;omega) fun h' eb=>⟨rfl,I.turned (t':=s.toks) (fun b o hb e=>eb b o hb e) f0 f1 f3 f4 f5⟩
 self:=fun _ _ _ _ _ st h=>wpAny_pyIter_tupleiter st h
theorem vC {P:Program} {w:World} {K:W.Frag} {tg:Expr} (it:Addr) (lo:Int) (n:Nat):yN P w K tg (Sv lo n) [it] it (fun i h=>IsRangeIter h it (lo+(i:Nat)*1) ((n:Int) - (i:Nat)) 1) where
 mem:=by simp
 obj:=fun i h st b hb=>by
  have e:b=it:=by simpa using hb
  subst e;exact⟨_,st,fun v z=>by
   have z':Data.fields _=Data.cell v:=z
   cases z'⟩
 keep:=fun i h h' st k=>k it Zs _ st
 item:=by
  intro X hP hw hK hc i pins s σ H E I hf st hg;subst hP hw hK;obtain⟨f0,f1,f2,f3,f4,f5⟩:=hf it Zs
  have W:=Walks.range (prog:=X.prog) (w:=X.w) (I.ok.hd hc) it lo 1 n
  refine W.item i s _ _ hg st fun v h' tk hv st' kk=>?_
  obtain⟨t,rfl⟩:=hv
  have I1:Inv X pins σ H {s with heap:=h',toks:=tk }:=I.turned (fun b o hb e=>kk b o (by simpa using hb) e) f0 f1 f3 f4 f5
  refine⟨_,rfl,wS (s:={s with heap:=h',toks:=tk }) (n:="range_iterator") st' rfl rfl Zd ⟨.int (lo+i),H,I1,⟨t,?_⟩,⟨rfl,rfl⟩,st',fun b hb=>(hf b hb).1⟩⟩
  rw[Int.mul_one]
 done:=by
  intro X hP hw hK hc i pins s σ H E I hf st hg;subst hP hw hK;obtain⟨f0,f1,f2,f3,f4,f5⟩:=hf it Zs
  exact wpAny_pyNext_range_end (I.ok.hd hc) st (by have:n<=i:=hg;omega) fun h' eb=>⟨rfl,I.turned (t':=s.toks) (fun b o hb e=>eb b o hb e) f0 f1 f3 f4 f5⟩
 self:=fun _ _ _ _ _ st h=>wpAny_pyIter_rangeiter st h
end L2
namespace L2
open PySem PySem.Spec PyProof.Rows
section
variable {X:Cx} {tg:Expr}
def Ap (K:W.Frag) (tl:TE):TI:=fun σ H R=>tl σ H fun x H1=>∃a,x=.ref a/\(∃xs,SqL K H1 a xs)/\R (Pe K a) H1
theorem Fp {l:Expr} {tl:TE} (hl:PE X l tl):PI X tg l (Ap X.K tl):=by
 intro pins s σ H R I h;refine bK (hl pins s σ H _ I h) fun v s1 ⟨x,H1,I1,r1,q1⟩=>?_
 obtain⟨a,e,⟨xs,hq⟩,q⟩:=q1
 subst e;cases r1
 obtain⟨its,rv,p,hz⟩:=I1.list hq
 refine wpAny_pyIter_list p.isList ?_
 refine⟨s1.heap.objs.size,[s1.heap.objs.size],_,_,H1,rfl,I1.kept (t':=s1.toks) fun b o e=>hJ _ e,pP a _,⟨_,Heap.get?_push_size _ rfl,rfl,rfl⟩,fun b hb=>?_,q⟩
 have e:b=s1.heap.objs.size:=by simpa using hb
 subst e;exact I1.fpOk (bC _) (I1.hok.fresh (bC _))
theorem Aq {pins:List (Addr × Obj)} {σ:St} {H:Hp} {s:Shared} {R:It->Hp->Prop} {E:Value->Shared->Prop} {lo hi:Int} {t u v:Tok} {tk:Nat} (I:Inv X pins σ H s) (h1:-(2 ^ 62)<=lo) (h2:lo<2 ^ 62) (h3:-(2 ^ 62)<=hi) (h4:hi<2 ^ 62)
  (q:R (Sv lo (hi - lo).toNat) H):wpAny (model X.prog X.w) X.A (pyIter (.ref s.heap.objs.size)) (Ut X pins σ tg R) E {s with heap:=s.heap.push {cls:=.type "range",data:=.fields #[.int lo t,.int hi u,.int 1 v] },toks:=tk }:=by
 refine wpAny_pyIter_range (IsRange.new ..) (small_one h1 h2 h3 h4) ?_
 have I1:Inv X pins σ H {s with heap:=s.heap.push {cls:=.type "range",data:=.fields #[.int lo t,.int hi u,.int 1 v] },toks:=tk }:=I.kept fun b o e=>hJ _ e
 refine⟨(s.heap.push {cls:=.type "range",data:=.fields #[.int lo t,.int hi u,.int 1 v] }).objs.size,[(s.heap.push {cls:=.type "range",data:=.fields #[.int lo t,.int hi u,.int 1 v] }).objs.size],_,_,H,rfl,
  I1.kept (t':=tk) fun b o e=>hJ _ e,vC _ lo (hi - lo).toNat,?_,fun b hb=>?_,q⟩
 ·have e1:lo+((0:Nat):Int)*1=lo:=by simp
  have e2:(((hi - lo).toNat:Nat):Int) - ((0:Nat):Int)=Builtin.Range.rangeSize lo hi 1:=by rw[rangeSize_one];split <;> omega
  show IsRangeIter _ _ (lo+((0:Nat):Int)*1) ((((hi - lo).toNat:Nat):Int) - ((0:Nat):Int)) 1
  rw[e1,e2];exact Heap.get?_push_size _ rfl
 ·have e:b=(s.heap.push {cls:=.type "range",data:=.fields #[.int lo t,.int hi u,.int 1 v] }).objs.size:=by simpa using hb
  subst e;exact I1.fpOk (bC _) (I1.hok.fresh (bC _))
def Jg (ta:TA):TI:=fun σ H R=>ta σ H fun vs H1=>∃j:Int,vs=[.int j]/\-(2 ^ 62)<=j/\j<2 ^ 62/\R (Sv 0 j.toNat) H1
theorem yO {a:Expr} {ta:TA} {p pos:Pos} (hg:Gl X "range") (hm:X.mg "range"=none) (ha:PA X [a] ta) (hs:starEach [a] X.env=[(false,eval a X.env)]:=by rfl):PI X tg (.Call (.Name "range" p) [a] [] pos) (Jg ta):=by
 intro pins s σ H R I h;refine Call_ (qW I hg hm boot_range (PyProof.Rows.callWith_type1 (bK (ha pos pins s σ H _ I h) fun us s1 ⟨vs,H1,I1,r1,q1⟩=>?_) hs rfl))
 obtain⟨j,e,q1,q2,q⟩:=q1
 subst e;cases r1 with
 | cons r rr=>
  cases rr
  obtain⟨t,rfl⟩:=r
  exact call_range_1 (Aq I1 Zo Zo q1 q2 (by simpa using q))
def Py (wi:TI) (g:TG) (tb:TS):TS:=fun D σ H=>wi σ H fun J H1=>∃W:Nat->Nat->St->Hp->Prop,(∃m,W 0 m σ H1)/\∀i m σ H,W i m σ H →
 (J.stop i H/\D.nx σ H)∨(J.go i H/\∃N:St->Hp->Prop,(∀ σ' H',N σ' H'->∃m',m'<m/\W (i+1) m' σ' H')/\∀x H',J.yld i H x H'->g x σ H' fun σ2 H2=>tb {D with nx:=N,ct:=N,bk:=D.nx } σ2 H2)
def mY (fp:List Addr) (h:Heap):List (Addr × Obj):=fp.filterMap fun b=>(h.get? b).map fun o=>(b,o)
theorem fU {fp:List Addr} {h:Heap} {b:Addr} {o:Obj} (hb:b∈fp) (e:h.get? b=some o):(b,o)∈mY fp h:=List.mem_filterMap.mpr ⟨b,hb,by rw[e];rfl⟩
theorem yP {fp:List Addr} {h:Heap} {p:Addr × Obj} (hp:p∈mY fp h):p.1∈fp/\h.get? p.1=some p.2:=by
 obtain⟨b,hb,e⟩:=List.mem_filterMap.mp hp
 cases q:h.get? b with
 | none=>rw[q]at e;cases e
 | some o=>
  rw[q]at e;have e':(b,o)=p:=Option.some.inj e
  subst e';exact⟨hb,q⟩
theorem Inv.pinned {pins:List (Addr × Obj)} {σ:St} {H:Hp} {s:Shared} {fp:List Addr} (I:Inv X pins σ H s) (hf:∀b∈fp,oY X pins H b) (ho:∀b∈fp,∃o,s.heap.get? b=some o/\∀v,o.data≠.cell v):Inv X (pins++mY fp s.heap) σ H s:=
 I.pins_of fun p hp=>(Zma.mp hp).elim (fun z=>I.pin p (List.mem_append_right _ z)) fun z=>by
  obtain⟨hb,e⟩:=yP z
  obtain⟨f0,f1,f2,_⟩:=hf p.1 hb
  obtain⟨o,e',d⟩:=ho p.1 hb
  rw[e]at e';cases e'
  exact⟨e,f0,f1,f2,d⟩
theorem Inv.unpinned {pins pl:List (Addr × Obj)} {σ:St} {H:Hp} {s:Shared} (I:Inv X (pins++pl) σ H s):Inv X pins σ H s:=I.pins_of fun p hp=>I.pin p (List.mem_append_right _ (List.mem_append_left _ hp))
theorem Lr {iter:Expr} {body:List Stmt} {wi:TI} {g:TG} {tb:TS} {pos:Pos} (hp:PassesOwn (model X.prog X.w) X.A X.env X.xe) (hc:X.calm=true) (hi:PI X tg iter wi) (hg:PG X tg g) (hb:PSs X body tb)
  (hs:∀x,foldedSetIterable iter X.env x=pure x:=by intro _;rfl):PS X (.For tg iter body [] pos) (Py wi g tb):=by
 intro pins s σ H D I h;refine wpAny_For (bK (hi pins s σ H _ I h) fun v s1 h1=>bK h1 fun itv s2 h2=>?_) hs
 obtain⟨it,fp,tn,J,H2,e,I2,T,st2,f2,W,⟨m0,w0⟩,turn⟩:=h2
 subst e;have stat:∀ {H':Hp},(∀b∈fp,H' b=none)->∀b∈fp,oY X pins H' b:=fun hn b hb=>⟨hn b hb,(f2 b hb).2⟩
 refine codeAny_forLoop_any (fun n s'=>∃i σ' H',Inv X pins σ' H' s'/\tn i s'.heap/\(∀b∈fp,H' b=none)/\W i n σ' H') ?_ m0 ⟨0,σ,H2,I2,st2,fun b hb=>(f2 b hb).1,w0⟩
 rintro n s3 ⟨i,σ3,H3,I3,st3,fr3,w3⟩
 rcases turn i n σ3 H3 w3 with⟨stop,qn⟩ | ⟨go,N,hN,step⟩
 ·refine wpAny_passesOwn hp (bK (T.done X rfl rfl rfl hc i pins s3 σ3 H3 X.xe I3 (stat fr3) st3 stop) fun r s4 ⟨hr,I4⟩=>?_)
  subst hr;exact wpAny_execs_nil ⟨σ3,H3,I4,qn⟩
 ·refine wpAny_passesOwn hp (bK (T.item X rfl rfl rfl hc i pins s3 σ3 H3 X.xe I3 (stat fr3) st3 go) fun r s4 ⟨u,hr,h4⟩=>?_)
  subst hr;refine wpAny_passesOwn hp (bK h4 fun _ s5 ⟨x,H5,I5,r5,y5,st5,fr5⟩=>?_)
  have I5':=I5.pinned (stat fr5) (T.obj _ _ st5)
  refine wpAny_passesOwn hp (bK (hg _ s5 σ3 H5 x u _ I5' r5 (step x H5 y5)) fun _ s6 ⟨σ6,H6,I6,q6⟩=>?_)
  refine wpAny_passesOwn hp (bK (hb _ s6 σ6 H6 _ I6 q6) fun f s7 q7=>?_)
  have again:∀ {σ7:St} {H7:Hp},Inv X (pins++mY fp s5.heap) σ7 H7 s7->N σ7 H7->∃m,m<n/\∃i σ' H',Inv X pins σ' H' s7/\tn i s7.heap/\(∀b∈fp,H' b=none)/\W i m σ' H':=fun {σ7 H7} I7 n7=>by
   obtain⟨m',hm,w7⟩:=hN σ7 H7 n7
   refine⟨m',hm,i+1,σ7,H7,I7.unpinned,T.keep _ _ _ st5 fun b hb o e=>(I7.pin (b,o) (List.mem_append_right _ (List.mem_append_right _ (fU hb e)))).1,fun b hb=>?_,w7⟩
   obtain⟨o,e,d⟩:=T.obj _ _ st5 b hb
   exact(I7.pin (b,o) (List.mem_append_right _ (List.mem_append_right _ (fU hb e)))).2.1
  cases f with
  | next=>obtain⟨σ7,H7,I7,n7⟩:=q7;exact again I7 n7
  | cont=>obtain⟨σ7,H7,I7,n7⟩:=q7;exact again I7 n7
  | brk=>obtain⟨σ7,H7,I7,q7⟩:=q7;exact⟨σ7,H7,I7.unpinned,q7⟩
  | ret v=>obtain⟨x7,σ7,H7,I7,r7,q7⟩:=q7;exact⟨x7,σ7,H7,I7.unpinned,r7,q7⟩
end
end L2
namespace L2
open PySem PySem.Spec PyProof.Rows
abbrev R2:=V->V->Hp->VK->Prop
def OpR (X:Cx) (f:Value->Value->Sem Value) (r:R2):Prop:=
 ∀(pins:List (Addr × Obj)) (s:Shared) (σ:St) (H:Hp) (x y:V) (v u:Value) (Q:VK),Inv X pins σ H s->RelV x v->RelV y u->r x y H Q →
  wpAny (model X.prog X.w) X.A (f v u) (EP X pins σ Q) X.xe s
def UnR (X:Cx) (f:Value->Sem Value) (r:V->Hp->VK->Prop):Prop:=
 ∀(pins:List (Addr × Obj)) (s:Shared) (σ:St) (H:Hp) (x:V) (v:Value) (Q:VK),Inv X pins σ H s->RelV x v->r x H Q →
  wpAny (model X.prog X.w) X.A (f v) (EP X pins σ Q) X.xe s
def CallR (X:Cx) (f:Value) (r:List V->Hp->VK->Prop):Prop:=
 ∀(pins:List (Addr × Obj)) (s:Shared) (σ:St) (H:Hp) (xs:List V) (us:List Value) (Q:VK),Inv X pins σ H s->Vals xs us->r xs H Q →
  wpAny (model X.prog X.w) X.A (call f us) (EP X pins σ Q) X.xe s
def sR (r:R2) (ta tb:TE):TE:=fun σ H Q=>ta σ H fun x H1=>tb σ H1 fun y H2=>r x y H2 Q
def Tm (r:V->Hp->VK->Prop) (ta:TE):TE:=fun σ H Q=>ta σ H fun x H1=>r x H1 Q
def rI (C:Int->Int->Prop) (g:Int->Int->V):R2:=fun x y H Q=>∃i j,x=.int i/\y=.int j/\C i j/\Q (g i j) H
def Fq (g:Int->Int->V):R2:=fun x y H Q=>∃i j,x=.int i/\y=.int j/\Q (g i j) H
def rU (g:Int->V):V->Hp->VK->Prop:=fun x H Q=>∃i,x=.int i/\Q (g i) H
section
variable {X:Cx} {a b c:Expr} {ta tb tc:TE} {pos:Pos}
theorem Ls (ha:PE X a ta) (hb:PE X b tb) {pins:List (Addr × Obj)} {s:Shared} {σ:St} {H:Hp} {R:V->V->Hp->Prop} (I:Inv X pins σ H s)
  (h:ta σ H fun x H1=>tb σ H1 fun y H2=>R x y H2) {Q:Value->Shared->Prop} {f:Value->Value->Sem Value}
  (hf:∀v u s2 x y H2,Inv X pins σ H2 s2->RelV x v->RelV y u->R x y H2->wpAny (model X.prog X.w) X.A (f v u) Q X.xe s2) :
  wpAny (model X.prog X.w) X.A (eval a X.env) (fun v s₁=>wpAny (model X.prog X.w) X.A (eval b X.env) (fun u s₂=>wpAny (model X.prog X.w) X.A (f v u) Q X.xe s₂) X.xe s₁) X.xe s:=by
 refine bK (ha pins s σ H _ I h) fun v s1 ⟨x,H1,I1,r1,q1⟩=>?_
 refine bK (hb pins s1 σ H1 _ I1 q1) fun u s2 ⟨y,H2,I2,r2,q2⟩=>?_
 exact hf v u s2 x y H2 I2 r1 r2 q2
theorem Pz {op:Operator} {r:R2} (ho:OpR X (binaryOp op) r) (ha:PE X a ta) (hb:PE X b tb):PE X (.BinOp a op b pos) (sR r ta tb):=by
 intro pins s σ H Q I h;exact wpAny_BinOp (Ls ha hb I h fun v u s2 x y H2 I2 rx ry q=>ho pins s2 σ H2 x y v u Q I2 rx ry q)
theorem Qa {op:UnaryOp} {r:V->Hp->VK->Prop} (ho:UnR X (unaryOp op) r) (ha:PE X a ta):PE X (.UnaryOp op a pos) (Tm r ta):=by
 intro pins s σ H Q I h;exact UnaryOp_ (bK (ha pins s σ H _ I h) fun v s1 ⟨x,H1,I1,r1,q1⟩=>ho pins s1 σ H1 x v Q I1 r1 q1)
theorem Sw {f:Value->Value->Sem Value} {C:Int->Int->Prop} {g:Int->Int->Int}
  (rule:∀(i j:Int) (t u:Tok) (s:Shared) (Q:Value->Shared->Prop) (E:Value->Shared->Prop),C i j->Q (.int (g i j) s.toks) {s with toks:=s.toks+1 }->wpAny (model X.prog X.w) X.A (f (.int i t) (.int j u)) Q E s) :
  OpR X f (rI C fun i j=>.int (g i j)):=by
 intro pins s σ H x y v u Q I rx ry h;obtain⟨i,j,rfl,rfl,hc,q⟩:=h
 obtain⟨t,rfl⟩:=rx
 obtain⟨t',rfl⟩:=ry
 exact rule i j t t' s _ _ hc ⟨.int (g i j),H,I.tok _,⟨_,rfl⟩,q⟩
theorem Qb {f:Value->Value->Sem Value} {g:Int->Int->Int}
  (rule:∀(i j:Int) (t u:Tok) (s:Shared) (Q:Value->Shared->Prop) (E:Value->Shared->Prop),Q (.int (g i j) s.toks) {s with toks:=s.toks+1 }->wpAny (model X.prog X.w) X.A (f (.int i t) (.int j u)) Q E s) :
  OpR X f (Fq fun i j=>.int (g i j)):=by
 intro pins s σ H x y v u Q I rx ry h;obtain⟨i,j,rfl,rfl,q⟩:=h
 obtain⟨t,rfl⟩:=rx
 obtain⟨t',rfl⟩:=ry
 exact rule i j t t' s _ _ ⟨.int (g i j),H,I.tok _,⟨_,rfl⟩,q⟩
theorem Fs {f:Value->Value->Sem Value} {g:Int->Int->Bool}
  (rule:∀(i j:Int) (t u:Tok) (s:Shared) (Q:Value->Shared->Prop) (E:Value->Shared->Prop),Q (.bool (g i j)) s->wpAny (model X.prog X.w) X.A (f (.int i t) (.int j u)) Q E s) :
  OpR X f (Fq fun i j=>.bl (g i j)):=by
 intro pins s σ H x y v u Q I rx ry h;obtain⟨i,j,rfl,rfl,q⟩:=h
 obtain⟨t,rfl⟩:=rx
 obtain⟨t',rfl⟩:=ry
 exact rule i j t t' s _ _ ⟨.bl (g i j),H,I,rfl,q⟩
def Lu (i j:Int):Prop:=0<=j/\j<=1000000/\i.natAbs<2 ^ 64
def CMul (i j:Int):Prop:=(-(2 ^ 64)<i/\i<2 ^ 64)∨(-(2 ^ 64)<j/\j<2 ^ 64)
theorem CMul.ok {i j:Int} (h:CMul i j):IntMulOk i j:=by
 rcases h with⟨h1,h2⟩ | ⟨h1,h2⟩
 ·exact .of_left (intBits_le_64 h1 h2)
 ·exact .of_right (intBits_le_64 h1 h2)
theorem Lv:OpR X (binaryOp .Add) (Fq fun i j=>.int (i+j)):=Qb fun _ _ _ _ _ _ _ q=>add_int q
theorem Lw:OpR X (binaryOp .Sub) (Fq fun i j=>.int (i - j)):=Qb fun _ _ _ _ _ _ _ q=>sub_int q
theorem Lx:OpR X (binaryOp .Mult) (rI CMul fun i j=>.int (i*j)):=Sw fun _ _ _ _ _ _ _ hc q=>mul_int q hc.ok
theorem Ly:OpR X (binaryOp .Mod) (rI (fun _ j=>0<j) fun i j=>.int (i % j)):=Sw fun i j _ _ _ _ _ hc q=>by
 have h1:(0:Int)<j:=hc
 exact mod_int' Zo (by rw[Int.fmod_eq_emod_of_nonneg i Zo];exact q)
theorem Ma:OpR X (binaryOp .Pow) (rI Lu fun i j=>.int (i ^ j.toNat)):=Sw fun _ _ _ _ _ _ _ hc q=>pow_int_small hc.1 hc.2.1 hc.2.2 q
theorem Vf {f:Value->Sem Value} {g:Int->Int}
  (rule:∀(i:Int) (t:Tok) (s:Shared) (Q:Value->Shared->Prop) (E:Value->Shared->Prop),Q (.int (g i) s.toks) {s with toks:=s.toks+1 }->wpAny (model X.prog X.w) X.A (f (.int i t)) Q E s) :
  UnR X f (rU fun i=>.int (g i)):=by
 intro pins s σ H x v Q I rx h;obtain⟨i,rfl,q⟩:=h
 obtain⟨t,rfl⟩:=rx
 exact rule i t s _ _ ⟨.int (g i),H,I.tok _,⟨_,rfl⟩,q⟩
theorem Mb:UnR X (unaryOp .USub) (rU fun i=>.int (-i)):=Vf fun _ _ _ _ _ q=>neg_int q
end
def scal:V->V->Bool
 | .non,.non=>true | .non,.int _=>true | .int _,.non=>true | .non,.bl _=>true | .bl _,.non=>true | .non,.str _=>true | .str _,.non=>true
 | .int _,.int _=>true | .bl _,.bl _=>true | .str _,.str _=>true | .byt _,.byt _=>true
 | .int _,.str _=>true | .str _,.int _=>true | .bl _,.str _=>true | .str _,.bl _=>true
 | _,_=>false
def Uu:R2:=fun x y H Q=>scal x y=true/\Q (.bl (decide (x=y))) H
def Uv:R2:=fun x y H Q=>scal x y=true/\Q (.bl (!decide (x=y))) H
theorem wT {i j:Int}:decide (V.int i=V.int j)=(i == j):=by
 rw[Bool.eq_iff_iff];simp
theorem Ar {i j:Bool}:decide (V.bl i=V.bl j)=(i == j):=by
 rw[Bool.eq_iff_iff];simp
theorem wU {i j:Str}:decide (V.str i=V.str j)=(i == j):=by
 rw[Bool.eq_iff_iff];simp
theorem wV {i j:Array UInt8}:decide (V.byt i=V.byt j)=(i.toList == j.toList):=by
 rw[Bool.eq_iff_iff];cases i
 cases j
 simp
section
variable {X:Cx} {a b c:Expr} {ta tb tc:TE} {pos:Pos}
theorem aX {pins:List (Addr × Obj)} {σ:St} {H:Hp} {s:Shared} {Q:VK} {k k':Bool} (I:Inv X pins σ H s) (q:Q (.bl k) H) (e:k=k'):EP X pins σ Q (.bool k') s:=by
 subst e;exact⟨.bl k,H,I,rfl,q⟩
theorem Jh:OpR X (compareOp .Eq) Uu:=by
 intro pins s σ H x y v u Q I rx ry h;obtain⟨hs,q⟩:=h
 cases x with
 | non=>
  cases rx
  cases y with
  | non=>cases ry;exact PySem.EqNone.eq_none_none (aX I q Zs)
  | bl j=>cases ry;exact PySem.EqNone.eq_none_bool (aX I q Zs)
  | int j=>obtain⟨t',rfl⟩:=ry;exact PySem.EqNone.eq_none_int (aX I q Zs)
  | str j=>obtain⟨t',rfl⟩:=ry;exact PySem.EqNone.eq_none_str (aX I q Zs)
  | _=>exact absurd (show false=true from hs) Bool.false_ne_true
 | bl i=>
  cases rx
  cases y with
  | non=>cases ry;exact PySem.EqNone.eq_bool_none (aX I q Zs)
  | bl j=>cases ry;exact eq_bool (aX I q Ar)
  | str j=>obtain⟨t',rfl⟩:=ry;exact PySem.EqMixed.eq_bool_str (aX I q Zs)
  | _=>exact absurd (show false=true from hs) Bool.false_ne_true
 | int i=>
  obtain⟨t,rfl⟩:=rx
  cases y with
  | non=>cases ry;exact PySem.EqNone.eq_int_none (aX I q Zs)
  | int j=>obtain⟨t',rfl⟩:=ry;exact eq_int (aX I q wT)
  | str j=>obtain⟨t',rfl⟩:=ry;exact PySem.EqMixed.eq_int_str (aX I q Zs)
  | _=>exact absurd (show false=true from hs) Bool.false_ne_true
 | str i=>
  obtain⟨t,rfl⟩:=rx
  cases y with
  | non=>cases ry;exact PySem.EqNone.eq_str_none (aX I q Zs)
  | bl j=>cases ry;exact PySem.EqMixed.eq_str_bool (aX I q Zs)
  | int j=>obtain⟨t',rfl⟩:=ry;exact PySem.EqMixed.eq_str_int (aX I q Zs)
  | str j=>obtain⟨t',rfl⟩:=ry;exact eq_str (aX I q wU)
  | _=>exact absurd (show false=true from hs) Bool.false_ne_true
 | byt i=>
  obtain⟨t,rfl⟩:=rx
  cases y with
  | byt j=>obtain⟨t',rfl⟩:=ry;exact W.eq_bytes (aX I q wV)
  | _=>exact absurd (show false=true from hs) Bool.false_ne_true
 | _=>cases y <;> exact absurd (show false=true from hs) Bool.false_ne_true
theorem Ji:OpR X (compareOp .NotEq) Uv:=by
 intro pins s σ H x y v u Q I rx ry h;obtain⟨hs,q⟩:=h
 cases x with
 | non=>
  cases rx
  cases y with
  | non=>cases ry;exact PySem.EqNone.ne_none_none (aX I q Zs)
  | bl j=>cases ry;exact PySem.EqNone.ne_none_bool (aX I q Zs)
  | int j=>obtain⟨t',rfl⟩:=ry;exact PySem.EqNone.ne_none_int (aX I q Zs)
  | str j=>obtain⟨t',rfl⟩:=ry;exact PySem.EqNone.ne_none_str (aX I q Zs)
  | _=>exact absurd (show false=true from hs) Bool.false_ne_true
 | bl i=>
  cases rx
  cases y with
  | non=>cases ry;exact PySem.EqNone.ne_bool_none (aX I q Zs)
  | bl j=>cases ry;exact ne_bool (aX I q (congrArg not Ar))
  | str j=>obtain⟨t',rfl⟩:=ry;exact PySem.EqMixed.ne_bool_str (aX I q Zs)
  | _=>exact absurd (show false=true from hs) Bool.false_ne_true
 | int i=>
  obtain⟨t,rfl⟩:=rx
  cases y with
  | non=>cases ry;exact PySem.EqNone.ne_int_none (aX I q Zs)
  | int j=>obtain⟨t',rfl⟩:=ry;exact ne_int (aX I q (congrArg not wT))
  | str j=>obtain⟨t',rfl⟩:=ry;exact PySem.EqMixed.ne_int_str (aX I q Zs)
  | _=>exact absurd (show false=true from hs) Bool.false_ne_true
 | str i=>
  obtain⟨t,rfl⟩:=rx
  cases y with
  | non=>cases ry;exact PySem.EqNone.ne_str_none (aX I q Zs)
  | bl j=>cases ry;exact PySem.EqMixed.ne_str_bool (aX I q Zs)
  | int j=>obtain⟨t',rfl⟩:=ry;exact PySem.EqMixed.ne_str_int (aX I q Zs)
  | str j=>obtain⟨t',rfl⟩:=ry;exact ne_str (aX I q (congrArg not wU))
  | _=>exact absurd (show false=true from hs) Bool.false_ne_true
 | byt i=>
  obtain⟨t,rfl⟩:=rx
  cases y with
  | byt j=>obtain⟨t',rfl⟩:=ry;exact W.ne_bytes (aX I q (congrArg not wV))
  | _=>exact absurd (show false=true from hs) Bool.false_ne_true
 | _=>cases y <;> exact absurd (show false=true from hs) Bool.false_ne_true
theorem Qc:OpR X (compareOp .Lt) (Fq fun i j=>.bl (decide (i<j))):=Fs fun _ _ _ _ _ _ _ q=>lt_int q
theorem Qd:OpR X (compareOp .LtE) (Fq fun i j=>.bl (decide (i<=j))):=Fs fun _ _ _ _ _ _ _ q=>le_int q
theorem Qe:OpR X (compareOp .Gt) (Fq fun i j=>.bl (decide (j<i))):=Fs fun _ _ _ _ _ _ _ q=>gt_int q
theorem Qg:OpR X (compareOp .GtE) (Fq fun i j=>.bl (decide (j<=i))):=Fs fun _ _ _ _ _ _ _ q=>ge_int q
theorem Mc:OpR X (compareOp .Is) (fun x y H Q=>y=.non/\Q (.bl (decide (x=.non))) H):=by
 intro pins s σ H x y v u Q I rx ry h;obtain⟨rfl,q⟩:=h
 cases ry
 refine is_none_gen (aX I q ?_)
 cases x <;> first
  | (cases rx;rfl)
  | (obtain⟨t,rfl⟩:=rx;rfl)
theorem Ft:OpR X (compareOp .IsNot) (fun x y H Q=>y=.non/\Q (.bl (!decide (x=.non))) H):=by
 intro pins s σ H x y v u Q I rx ry h;obtain⟨rfl,q⟩:=h
 cases ry
 refine isnot_none_gen (aX I q ?_)
 cases x <;> first
  | (cases rx;rfl)
  | (obtain⟨t,rfl⟩:=rx;rfl)
theorem qX (b:Expr) {op:CmpOp} (h:op≠.In:=by decide) (h2:op≠.NotIn:=by decide):behindInMarks op b=false:=by
 have e1:(op == CmpOp.In)=false:=by cases op <;> first | rfl | exact absurd rfl h
 have e2:(op == CmpOp.NotIn)=false:=by cases op <;> first | rfl | exact absurd rfl h2
 cases b <;> simp [behindInMarks,e1,e2]
theorem Fu {op:CmpOp} {r:R2} (ho:OpR X (compareOp op) r) (ha:PE X a ta) (hb:PE X b tb) (hm:behindInMarks op b=false):PE X (.Compare a [op] [b] pos) (sR r ta tb):=by
 intro pins s σ H Q I h;exact wpAny_Compare1 (Ls ha hb I h fun v u s2 x y H2 I2 rx ry q=>ho pins s2 σ H2 x y v u Q I2 rx ry q) hm
def wW (t:TE):TT:=fun σ H Q=>t σ H fun x H'=>∃k,x=.bl k/\Q k H'
theorem Fv {op:CmpOp} {r:R2} (ho:OpR X (compareOp op) r) (ha:PE X a ta) (hb:PE X b tb) (hm:behindInMarks op b=false):PT X (.Compare a [op] [b] pos) (wW (sR r ta tb)):=by
 intro pins s σ H Q I h;refine wpAny_isTrue_Compare1 (bK (ha pins s σ H _ I h) fun v s1 ⟨x,H1,I1,r1,q1⟩=>bK (hb pins s1 σ H1 _ I1 q1) fun u s2 ⟨y,H2,I2,r2,q2⟩=>
  bK (ho pins s2 σ H2 x y v u _ I2 r1 r2 q2) fun c s3 ⟨z,H3,I3,r3,k,e,q3⟩=>?_) hm
 subst e;cases r3
 exact wpAny_truthy_bool ⟨H3,I3,q3⟩
def vD (r r':R2) (ta tb tc:TE):TE:=fun σ H Q=>ta σ H fun x H1=>tb σ H1 fun y H2=>r x y H2 fun z H3=>∃k,z=.bl k ∧
 (if k=true then tc σ H3 fun w' H4=>r' y w' H4 Q else Q (.bl false) H3)
theorem As {op op':CmpOp} {r r':R2} (ho:OpR X (compareOp op) r) (ho':OpR X (compareOp op') r') (ha:PE X a ta) (hb:PE X b tb) (hc:PE X c tc)
  (hm:lastMarks [op,op'] [b,c]=false:=by with_unfolding_all rfl):PT X (.Compare a [op,op'] [b,c] pos) (wW (vD r r' ta tb tc)):=by
 intro pins s σ H Q I h;refine isTrue_chain (bK (ha pins s σ H _ I h) fun v s1 ⟨x,H1,I1,r1,q1⟩=>test_link (bK (hb pins s1 σ H1 _ I1 q1) fun u s2 ⟨y,H2,I2,r2,q2⟩=>
  bK (ho pins s2 σ H2 x y v u _ I2 r1 r2 q2) fun d s3 ⟨z,H3,I3,r3,k,e,q3⟩=>?_)) hm
 subst e;cases r3
 refine wpAny_truthy_bool ?_
 cases k with
 | false=>
  obtain⟨k',e',q'⟩:=q3
  cases e'
  exact ite_ff ⟨H3,I3,q'⟩
 | true=>
  refine ite_tt (test_last (bK (hc pins s3 σ H3 _ I3 q3) fun w' s4 ⟨z',H4,I4,r4,q4⟩=>bK (ho' pins s4 σ H4 y z' u w' _ I4 r2 r4 q4) fun d' s5 ⟨z2,H5,I5,r5,k2,e2,q5⟩=>?_))
  subst e2;cases r5
  exact wpAny_truthy_bool ⟨H5,I5,q5⟩
theorem kK:(sizeLine:Nat)<2 ^ 63:=by rw[sizeLine_eq];decide
theorem vE:OpR X (binaryOp .Add) (fun x y H Q=>∃i j,x=.str i/\y=.str j/\i.length+j.length<=sizeLine/\Q (.str (i++j)) H):=by
 intro pins s σ H x y v u Q I rx ry h;obtain⟨i,j,rfl,rfl,hz,q⟩:=h
 obtain⟨t,rfl⟩:=rx
 obtain⟨t',rfl⟩:=ry
 exact add_str (fun t' tk=>⟨.str (i++j),H,I.tok _,⟨_,rfl⟩,q⟩) hz
theorem iZ {x:V} {us:List Value} (r:Vals [x] us):∃u,us=[u]/\RelV x u:=by
 cases r with
 | cons r1 r2=>cases r2;exact⟨_,rfl,r1⟩
theorem Jj {x y:V} {us:List Value} (r:Vals [x,y] us):∃u w',us=[u,w']/\RelV x u/\RelV y w':=by
 cases r with
 | cons r1 r2=>
  cases r2 with
  | cons r3 r4=>cases r4;exact⟨_,_,rfl,r1,r3⟩
theorem yQ (hc:X.calm=true):CallR X (.builtin "max") (fun xs H Q=>∃i j,xs=[.int i,.int j]/\Q (.int (if j > i then j else i)) H):=by
 intro pins s σ H xs us Q I r h;obtain⟨i,j,rfl,q⟩:=h
 obtain⟨u,w',rfl,⟨t,rfl⟩,⟨t',rfl⟩⟩:=Jj r
 refine max_two_ints (I.ok.hd hc) fun h' tk k=>⟨_,H,I.kept k,?_,q⟩
 by_cases hj:j > i
 ·rw[if_pos hj,if_pos hj];exact⟨_,rfl⟩
 ·rw[if_neg hj,if_neg hj];exact⟨_,rfl⟩
theorem yR (hc:X.calm=true):CallR X (.builtin "min") (fun xs H Q=>∃i j,xs=[.int i,.int j]/\Q (.int (if j<i then j else i)) H):=by
 intro pins s σ H xs us Q I r h;obtain⟨i,j,rfl,q⟩:=h
 obtain⟨u,w',rfl,⟨t,rfl⟩,⟨t',rfl⟩⟩:=Jj r
 refine min_two_ints (I.ok.hd hc) fun h' tk k=>⟨_,H,I.kept k,?_,q⟩
 by_cases hj:j<i
 ·rw[if_pos hj,if_pos hj];exact⟨_,rfl⟩
 ·rw[if_neg hj,if_neg hj];exact⟨_,rfl⟩
theorem yS:CallR X (.type "int") (fun xs H Q=>(∃i,xs=[.int i]/\Q (.int i) H)∨∃k,xs=[.bl k]/\Q (.int (if k then 1 else 0)) H):=by
 intro pins s σ H xs us Q I r h;rcases h with⟨i,rfl,q⟩ | ⟨k,rfl,q⟩
 ·obtain⟨u,rfl,t,rfl⟩:=iZ r
  exact call_int_int ⟨.int i,H,I,⟨_,rfl⟩,q⟩
 ·obtain⟨u,rfl,r1⟩:=iZ r
  cases r1
  exact call_int_bool ⟨.int (if k then 1 else 0),H,I.tok _,⟨_,rfl⟩,q⟩
end
end L2
namespace L2
open PySem PySem.Spec PyProof.Rows
structure ObjM (h:Heap) (x dx C:Addr) (mA:Str->Option Value):Prop where
 obj:h.get? x=some (W.instObj C dx)
 ns:h.Ns1 dx mA
 ne:dx≠x
theorem pQ {h:Heap} {dx:Addr} {mA:Str->Option Value} (n:h.Ns1 dx mA):∃od,h.get? dx=some od/\∀name,W.lookIn name od=some (mA name):=by
 obtain⟨o,es,ep,ho,hd,hk,_,hm⟩:=n
 refine⟨o,ho,fun name=>?_⟩
 have e:=hm name
 unfold nsFind findBy at e;rw[<- Array.find?_toList]at e;unfold W.lookIn;rw[hd];dsimp only;split
 ·rename_i y q
  rw[q]at e;exact congrArg some e
 ·rename_i q
  rw[q]at e;have a:es.toList.any (·.refKey)=false:=by
   rw[List.any_eq_false];intro y hy;obtain⟨z,t,hkey⟩:=hk y (Array.mem_toList_iff.mp hy)
   simp [DictEntry.refKey,hkey]
  have a':¬ es.toList.any (·.refKey)=true:=by rw[a];exact Bool.false_ne_true
  rw[if_neg a'];exact congrArg some e
theorem ObjM.look {h:Heap} {x dx C:Addr} {mA:Str->Option Value} (I:ObjM h x dx C mA):∃od,W.InstAt h x (W.instObj C dx) C (some od)/\∀name,W.lookIn name od=some (mA name):=
 let ⟨od,ho,hl⟩:=pQ I.ns
 ⟨od,⟨I.obj,rfl,rfl,ho⟩,hl⟩
section
variable {prog:Program} {w:World} {A:Around} {E:Value->Shared->Prop} {s:Shared} {K:W.Frag} {x dx C f:Addr} {mA:Str->Option Value} {name:Str} {v:Value}
theorem Fx {expr:Bool} {Q:Value->Shared->Prop} (X:K.In s.heap) (I:ObjM s.heap x dx C mA) (hg:W.plainGet K C name=true) (hh:W.hasDictIn K C=true)
  (ha:W.findIn K (.ref C) name=some none) (hv:mA name=some v) (hv':W.handedIn v=true) (h:Q v {s with toks:=s.toks+1 }) :
  wpAny (model prog w) A (getAttr (.ref x) name expr) Q E s:=by
 obtain⟨od,J,hl⟩:=I.look
 exact W.get_value X J (W.plainGet_of hg).1 (W.findObj_own hh ha rfl (by rw[hl,hv])) hv' h
theorem Au {pl:Sem Bool} {Q:Value × List Value->Shared->Prop} (X:K.In s.heap) (I:ObjM s.heap x dx C mA) (hg:W.plainGet K C name=true)
  (hf:W.findIn K (.ref C) name=some (some (.ref f))) (ht:W.isFn K (.ref f)=true) (hv:mA name=none) (h:Q (.ref f,[.ref x]) s) :
  wpAny (model prog w) A (getMethod (.ref x) name pl) Q E s:=by
 obtain⟨od,J,hl⟩:=I.look
 exact W.method_fn X J (W.plainGet_of hg).1 (W.plainGet_of hg).2 hf (beq_iff_eq.mp ht) (by show(W.lookIn name od).map (·.isSome)=some false;rw[hl,hv];rfl) h
theorem Fy {ns:List Str} {Q:Unit->Shared->Prop} (X:K.In s.heap) (I:ObjM s.heap x dx C mA)
  (hs:W.findIn K (.ref C) "__setattr__"=some (some (.builtin "object.__setattr__"))) (hp:W.plainOver K C=true) (ht:W.takerIn K C name=some none) (hh:W.hasDictIn K C=true)
  (hw:PySem.Within mA ns) (hsz:ns.length<=sizeLine)
  (h:∀h',ObjM h' x dx C (fun y=>if y=name then some v else mA y)->Heap.SameBut dx s.heap h'->Q () {s with heap:=h',toks:=s.toks+2 }) :
  wpAny (model prog w) A (setAttr (.ref x) name v) Q E s:=by
 obtain⟨od,J,hl⟩:=I.look
 refine W.set_plain X J hs (W.osa_open (s:={s with toks:=s.toks+1 }) (r:=none) X J hp ht fun b=>?_)
 obtain⟨cd,hc,hd'⟩:=W.any_some hh
 have hx:s.heap.get? x=some ⟨.ref C,some dx,.plain,#[]⟩:=I.obj
 refine wpAny_bind (wpAny_pure (wpAny_bind (wpAny_bind (wpAny_loadPart hx (wpAny_bind (W.Looks.here (s:={s with toks:=s.toks+1 }) (W.looks_clsIn X hc) ?_))))))
 rw[hd'];refine wpAny_pure (a:=some dx) (wpAny_bind (wpAny_pure (wpAny_bind ?_)))
 refine wpAny_nsSet1 (s:={s with toks:=s.toks+1 }) I.ns fun h' hn2 hs2=>?_
 obtain⟨oD,esD,epD,hoD,hdD,hcD⟩:=hn2.count (PySem.Within.cons name v hw)
 refine wpAny_bind (wpAny_lookBehind hoD (by rw[hdD];exact pastItsLine_dict (hU hcD (by rw[sQ];omega))) ?_)
 exact wpAny_pure (h _ ⟨(hs2.2 _ (Ne.symm I.ne)).trans I.obj,hn2,I.ne⟩ hs2)
theorem Av {R:Result->Shared->Prop} {vs:List Value} {kw:List (Str × Value)} (X:K.In s.heap) (hm:W.makesIn K C=true)
  (hi:W.findIn K (.ref C) "__init__"=some (some (.ref f))) (hf:W.typeIn K (.ref f)=some (.type "function"))
  (h:codeAny (model prog w) (A.under (.builtin "type.__call__" ⟨.ref C::vs,kw⟩)) (.call (.ref f) ⟨.ref (s.heap.objs.size+1)::vs,kw⟩) (W.InitBack (s.heap.objs.size+1) R)
   {s with heap:=(s.heap.push W.emptyDict).push (W.instObj C s.heap.objs.size) }) :
  codeAny (model prog w) A (.call (.ref C) ⟨vs,kw⟩) R s:=by
 obtain⟨hh,g,d,t,os⟩:=s
 exact W.make_core (W.makes_of X hm) (W.looks_findIn X hi) (fun self=>W.bind_fn X self hf) (.inl rfl) h
end
def fV (f:Str) (v:V):List (Str × V)->List (Str × V)
 | []=>[(f,v)]
 | (g,x)::r=>if g=f then (g,v)::r else (g,x)::fV f v r
theorem lM (f g:Str) (v:V):∀fs:List (Str × V),(fV f v fs).lookup g=if g=f then some v else fs.lookup g
 | []=>by
  show List.lookup g [(f,v)]=_
  by_cases h:g=f
  ·have hb:(g == f)=true:=beq_iff_eq.mpr h
   simp only [List.lookup,hb,if_pos h]
  ·have hb:(g == f)=false:=beq_eq_false_iff_ne.mpr h
   simp only [List.lookup,hb,if_neg h]
 | (k,x)::r=>by
  have ih:=lM f g v r
  rw[show fV f v ((k,x)::r)=(if k=f then (k,v)::r else (k,x)::fV f v r) from rfl];by_cases hk:k=f
  ·rw[if_pos hk];by_cases h:g=k
   ·have hb:(g == k)=true:=beq_iff_eq.mpr h
    simp only [List.lookup,hb,if_pos (h.trans hk)]
   ·have hb:(g == k)=false:=beq_eq_false_iff_ne.mpr h
    simp only [List.lookup,hb,if_neg (fun e:g=f=>h (e.trans hk.symm))]
  ·rw[if_neg hk];by_cases h:g=k
   ·have hb:(g == k)=true:=beq_iff_eq.mpr h
    simp only [List.lookup,hb,if_neg (fun e:g=f=>hk (h.symm.trans e))]
   ·have hb:(g == k)=false:=beq_eq_false_iff_ne.mpr h
    simp only [List.lookup,hb]
    exact ih
theorem kL (f:Str) (v:V):∀fs:List (Str × V),f∈(fV f v fs).map (·.1)/\∀g,g∈fs.map (·.1)->g∈(fV f v fs).map (·.1)
 | []=>⟨by simp [fV],fun g h=>by simp at h⟩
 | (k,x)::r=>by
  obtain⟨i1,i2⟩:=kL f v r
  rw[show fV f v ((k,x)::r)=(if k=f then (k,v)::r else (k,x)::fV f v r) from rfl];by_cases hk:k=f
  ·rw[if_pos hk];subst hk;exact⟨Zs,fun g h=>by simpa using h⟩
  ·rw[if_neg hk];refine⟨?_,fun g h=>?_⟩
   ·rw[List.map_cons];exact mF _ i1
   ·rw[List.map_cons]at h ⊢;rcases List.mem_cons.mp h with e | e
    ·exact List.mem_cons.mpr (.inl e)
    ·exact mF _ (i2 g e)
theorem lN (f:Str) (v:V):∀fs:List (Str × V),(fV f v fs).length<=fs.length+1
 | []=>by simp [fV]
 | (k,x)::r=>by
  have ih:=lN f v r
  rw[show fV f v ((k,x)::r)=(if k=f then (k,v)::r else (k,x)::fV f v r) from rfl];by_cases hk:k=f
  ·rw[if_pos hk,sQ,sQ];omega
  ·rw[if_neg hk,sQ,sQ];omega
theorem RelO.some_of {v:V} {o:Option Value} (r:RelO (some v) o):∃u,o=some u/\RelV v u:=by
 cases o with
 | none=>exact(show False from r).elim
 | some u=>exact⟨u,rfl,r⟩
theorem RelO.none_of {o:Option Value} (r:RelO none o):o=none:=by
 cases o with
 | none=>rfl
 | some u=>exact(show False from r).elim
theorem pR {v:V} {u:Value} (r:RelV v u):W.handedIn u=true:=by
 cases v with
 | non=>cases (show u=Value.none from r);rfl
 | bl b=>cases (show u=Value.bool b from r);rfl
 | int i=>obtain⟨t,e⟩:=(show ∃t,u=Value.int i t from r);cases e;rfl
 | str x=>obtain⟨t,e⟩:=(show ∃t,u=Value.str x t from r);cases e;rfl
 | byt b=>obtain⟨t,e⟩:=(show ∃t,u=Value.bytes b t from r);cases e;rfl
 | flt b=>obtain⟨t,e⟩:=(show ∃t,u=Value.float b t from r);cases e;rfl
 | ref a=>cases (show u=Value.ref a from r);rfl
 | ty n=>cases (show u=Value.type n from r);rfl
section
variable {P:Program} {w:World} {H H':Hp} {h h':Heap} {a C dx:Addr} {fs fs':List (Str × V)}
theorem mG (hok:HOk P w H h) (e:H a=some (.ins C dx fs)):∃mA,ObjM h a dx C mA/\(∀f,RelO (fs.lookup f) (mA f))/\PySem.Within mA (fs.map (·.1))/\fs.length<=1000/\H dx=some (.own a):=by
 obtain⟨d,z,ne,ob,mA,n,r,q⟩:=(show ObjOk P w H h a (.ins C dx fs) from hok a _ e)
 exact⟨mA,⟨ob,n,ne⟩,r,q,z,d⟩
end
structure Cls (K:W.Frag) (C:Addr):Prop where
 pg:W.plainGet K C Str.empty=true
 hd:W.hasDictIn K C=true
 po:W.plainOver K C=true
 sa:W.findIn K (.ref C) "__setattr__"=some (some (.builtin "object.__setattr__"))
theorem Cls.get {K:W.Frag} {C:Addr} (c:Cls K C) (f:Str):W.plainGet K C f=true:=c.pg
def NoAttr (K:W.Frag) (C:Addr) (f:Str):Prop:=W.findIn K (.ref C) f=some none
theorem NoAttr.taker {K:W.Frag} {C:Addr} {f:Str} (n:NoAttr K C f):W.takerIn K C f=some none:=by
 unfold W.takerIn;rw[show W.findIn K (.ref C) f=some none from n];rfl
structure Fz (K:W.Frag) (C:Addr) (m:Str) (f:Addr):Prop where
 at_:W.findIn K (.ref C) m=some (some (.ref f))
 fn:W.isFn K (.ref f)=true
 kp:W.keepIn K (.ref f)=true
section
variable {X:Cx} {pins:List (Addr × Obj)} {σ:St} {H:Hp} {s:Shared} {a C dx:Addr} {fs:List (Str × V)} {f:Str} {v:V} {A:Around} {E:Value->Shared->Prop}
theorem vF {b:Bool} {Q:Value->Shared->Prop} (I:Inv X pins σ H s) (e:H a=some (.ins C dx fs)) (c:Cls X.K C) (n:NoAttr X.K C f) (l:fs.lookup f=some v)
  (h:∀u s',Inv X pins σ H s'->RelV v u->Q u s'):wpAny (model X.prog X.w) A (getAttr (.ref a) f b) Q E s:=by
 obtain⟨mA,O,r,_,_,_⟩:=mG I.hok e
 obtain⟨u,hu,ru⟩:=RelO.some_of (v:=v) (o:=mA f) (by rw[<- l];exact r f)
 exact Fx I.kIn O (c.get f) c.hd n hu (pR ru) (h u _ (I.tok _) ru)
theorem jE {m:Str} {g:Addr} {pl:Sem Bool} {Q:Value × List Value->Shared->Prop} (I:Inv X pins σ H s) (e:H a=some (.ins C dx fs)) (c:Cls X.K C) (k:Fz X.K C m g) (l:fs.lookup m=none)
  (h:Q (.ref g,[.ref a]) s):wpAny (model X.prog X.w) A (getMethod (.ref a) m pl) Q E s:=by
 obtain⟨mA,O,r,_,_,_⟩:=mG I.hok e
 have hn:mA m=none:=RelO.none_of (by rw[<- l];exact r m)
 exact Au I.kIn O (c.get m) k.at_ k.fn hn h
theorem vG {y:V} {u:Value} {Q:Unit->Shared->Prop} (I:Inv X pins σ H s) (e:H a=some (.ins C dx fs)) (c:Cls X.K C) (n:NoAttr X.K C f) (hl:fs.length<1000) (ry:RelV y u)
  (h:∀s',Inv X pins σ (aI H a (.ins C dx (fV f y fs))) s'->Q () s'):wpAny (model X.prog X.w) A (setAttr (.ref a) f u) Q E s:=by
 obtain⟨mA,O,r,wi,_,ho⟩:=mG I.hok e
 have hz:(fs.map (·.1)).length<=sizeLine:=by rw[aR,sizeLine_eq];omega
 refine Fy I.kIn O c.sa c.po n.taker c.hd wi hz fun h' O' sb=>h _ ?_
 have hd:∃o,h'.get? dx=some o:=let ⟨o,_,_,e',_⟩:=O'.ns;⟨o,e'⟩
 refine I.write (x:=a) (e:=dx) (by rw[e];exact True.intro) (.inr ho) (fun b q hb z=>(sb.2 b hb).trans z) hd ?_
 refine⟨by rw[aE O.ne];exact ho,?_,O.ne,O'.obj,_,O'.ns,fun g=>?_,fun g hg=>?_⟩
 ·have:=lN f y fs;omega
 ·show RelO ((fV f y fs).lookup g) (if g=f then some u else mA g)
  rw[lM];by_cases q:g=f
  ·rw[if_pos q,if_pos q];exact ry
  ·rw[if_neg q,if_neg q];exact r g
 ·by_cases q:g=f
  ·rw[q];exact(kL f y fs).1
  ·refine(kL f y fs).2 g (wi g fun z=>hg ?_)
   show(if g=f then some u else mA g)=none
   rw[if_neg q];exact z
theorem Inv.made (I:Inv X pins σ H s):Inv X pins σ (aI (aI H s.heap.objs.size (.own (s.heap.objs.size+1))) (s.heap.objs.size+1) (.ins C s.heap.objs.size []))
  {s with heap:=(s.heap.push W.emptyDict).push (W.instObj C s.heap.objs.size) }:=by
 have e1:(s.heap.push W.emptyDict).get? s.heap.objs.size=some W.emptyDict:=Heap.get?_push_size s.heap rfl
 have e2:((s.heap.push W.emptyDict).push (W.instObj C s.heap.objs.size)).get? (s.heap.objs.size+1)=some (W.instObj C s.heap.objs.size):=by
  have:=Heap.get?_push_size (s.heap.push W.emptyDict) (o:=W.instObj C s.heap.objs.size) rfl
  rwa [Heap.size_push]at this
 have e3:(s.heap.push W.emptyDict).Ns s.heap.objs.size (fun _=>none):=⟨W.emptyDict,#[],_,e1,rfl,(fun e he=>absurd he Zs),fun _=>rfl⟩
 have I1:=I.laid (a:=s.heap.objs.size) (o:=.own (s.heap.objs.size+1)) (h':=s.heap.push W.emptyDict) (t':=s.toks) (fun b u q=>hJ _ q) (bC _) ⟨_,e1⟩
 refine I1.laid (a:=s.heap.objs.size+1) (o:=.ins C s.heap.objs.size []) (t':=s.toks) (fun b u q=>hJ _ q) (Nat.le_of_eq (Heap.size_push _ _)) ?_
 have ne:s.heap.objs.size≠s.heap.objs.size+1:=Nat.ne_of_lt (Nat.lt_succ_self _)
 refine⟨by rw[aE ne,aA],Nat.zero_le _,ne,e2,fun _=>none,(Heap.Ns1.of_empty e3).at fun o q=>hJ _ q,fun _=>True.intro,fun y hy=>absurd rfl hy⟩
theorem wX {prog:Program} {w:World} {env:Env} {e:Expr} {f:Str} {pos:Pos} {s:Shared} {Q:Value->Shared->Prop} (hb:attributeBase e f env (eval e env)=eval e env)
  (h:wpAny (model prog w) A (eval e env) (fun o s₁=>wpAny (model prog w) A (getAttr o f true) Q E s₁) E s):wpAny (model prog w) A (eval (.Attribute e f pos) env) Q E s:=
 Attribute_any_ h (by rw[arm_eval_Attribute,hb])
end
section
variable {X:Cx} {pins:List (Addr × Obj)} {σ:St} {H:Hp} {s:Shared} {A:Around} {E:Value->Shared->Prop} {Q:Value->Shared->Prop} {c:Value} {b:Bool}
inductive jO (K:W.Frag) (H:Hp):V->Value->Prop where
 | non:jO K H .non (.type "NoneType")
 | bl (x:Bool):jO K H (.bl x) (.type "bool")
 | int (i:Int):jO K H (.int i) (.type "int")
 | str (x:Str):jO K H (.str x) (.type "str")
 | flt (x:UInt64):jO K H (.flt x) (.type "float")
 | lst {a:Addr} {xs:List V} (e:H a=some (.lst xs)):jO K H (.ref a) (.type "list")
 | frz {a:Addr} {o:Obj} {xs:List V} (e:H a=some (.frz o (.lst xs))):jO K H (.ref a) (.type "list")
 | tup {a:Addr} {xs:List V} (e:H a=some (.tup xs)):jO K H (.ref a) (.type "tuple")
 | dK {a:Addr} {kvs:List (bB × V)} (e:H a=some (.dK kvs)):jO K H (.ref a) (.type "dict")
 | dT {a:Addr} {kvs:List (List bB × V)} (e:H a=some (.dT kvs)):jO K H (.ref a) (.type "dict")
 | ins {a C dx:Addr} {fs:List (Str × V)} (e:H a=some (.ins C dx fs)) (cl:Cls K C) (ha:W.findIn K (.ref C) "__class__"=some (some (.builtin "object.__class__")))
   (hn:W.specialIn K (.builtin "object.__class__") "__get__"=some (some (.builtin "getset_descriptor.__get__"))) (htk:W.takesIn K (.builtin "object.__class__")=some true)
   (hm:W.mroIn K C (.type "object")=some true):jO K H (.ref a) (.ref C)
theorem yT {x:V} {u t:Value} (I:Inv X pins σ H s) (rx:RelV x u) (ty:jO X.K H x t) (e:W.kitOne X.K t c=some b) (h:∀tk,Q (.bool b) {s with toks:=tk }) :
  wpAny (model X.prog X.w) A (call (.builtin "isinstance") [u,c]) Q E s:=by
 cases ty with
 | non=>cases (show u=Value.none from rx);exact W.kia_one W.kitx_none I.kIn True.intro e (fun z=>nomatch z) h
 | bl y=>cases (show u=Value.bool y from rx);exact W.kia_one W.kitx_bool I.kIn True.intro e (fun z=>nomatch z) h
 | int i=>obtain⟨t,q⟩:=(show ∃t,u=Value.int i t from rx);cases q;exact W.kia_one W.kitx_int I.kIn True.intro e (fun z=>nomatch z) h
 | str y=>obtain⟨t,q⟩:=(show ∃t,u=Value.str y t from rx);cases q;exact W.kia_one W.kitx_str I.kIn True.intro e (fun z=>nomatch z) h
 | flt y=>obtain⟨t,q⟩:=(show ∃t,u=Value.float y t from rx);cases q;exact W.kia_one W.kitx_float I.kIn True.intro e (fun z=>nomatch z) h
 | @lst a xs ea=>
  cases (show u=Value.ref a from rx)
  obtain⟨_,_,n,_,h1⟩:=(show ObjOk X.prog X.w H s.heap a (.lst xs) from I.hok a _ ea)
  exact W.kia_one W.kitx_list I.kIn ⟨_,h1,rfl⟩ e (fun z=>nomatch z) h
 | @frz a ob xs ea=>
  cases (show u=Value.ref a from rx)
  obtain⟨_,_,_,n,_,h1⟩:=(show ObjOk X.prog X.w H s.heap a (.frz ob (.lst xs)) from I.hok a _ ea)
  exact W.kia_one W.kitx_list I.kIn ⟨_,h1,rfl⟩ e (fun z=>nomatch z) h
 | @tup a xs ea=>
  cases (show u=Value.ref a from rx)
  obtain⟨_,_,_,p⟩:=(show ObjOk X.prog X.w H s.heap a (.tup xs) from I.hok a _ ea)
  obtain⟨o,h1,h2,_⟩:=p
  exact W.kia_one W.kitx_tuple I.kIn ⟨o,h1,h2⟩ e (fun z=>nomatch z) h
 | @dK a kvs ea=>
  cases (show u=Value.ref a from rx)
  obtain⟨_,_,vs,_,p⟩:=(show ObjOk X.prog X.w H s.heap a (.dK kvs) from I.hok a _ ea)
  obtain⟨o,es,ep,h1,h2,_⟩:=p
  exact W.kia_one W.kitx_dict I.kIn ⟨o,h1,h2.1⟩ e (fun z=>nomatch z) h
 | @dT a kvs ea=>
  cases (show u=Value.ref a from rx)
  obtain⟨_,_,xs,_,o,es,ep,h1,h2,_⟩:=(show ObjOk X.prog X.w H s.heap a (.dT kvs) from I.hok a _ ea)
  exact W.kia_one W.kitx_dict I.kIn ⟨o,h1,h2.1⟩ e (fun z=>nomatch z) h
 | @ins a C dx fs ea cl ha hn htk hm=>
  cases (show u=Value.ref a from rx)
  obtain⟨mA,O,_⟩:=mG I.hok ea
  obtain⟨od,J,_⟩:=O.look
  exact W.kia_one (W.kitx_own (cl.get _) cl.hd ha hn htk hm) I.kIn J e (fun z=>nomatch z) h
end
end L2
namespace L2
open PySem PySem.Spec PyProof.Rows
structure Room (k:Nat) (A:Around):Prop where
 hd:A.handled=none
 dp:A.depth+3*k+5<recursionLimit
 un:A.units+16*k+200<cLine
theorem Room.mono {j k:Nat} {A:Around} (r:Room k A) (h:j<=k):Room j A:=⟨r.hd,by have:=r.dp;omega,by have:=r.un;omega⟩
theorem Room.deeper {k:Nat} {A:Around} (r:Room (k+1) A) (env:Env):Room k (A.deeper env):=
 ⟨r.hd,by have:=r.dp;show A.depth+1+3*k+5<_;omega,by have:=r.un;show A.units+3+16*k+200<_;omega⟩
theorem vH {A:Around} {C:Addr} {us:List Value} {kw:List (Str × Value)}:(A.under (.builtin "type.__call__" ⟨.ref C::us,kw⟩)).depth=A.depth+1:=by
 first | rfl | simp [Around.under,Code.weight,Code.isCreation,Code.isGuard,Code.isCaller,Code.frames,Code.isFrame,guardIds]
theorem vI {A:Around} {C:Addr} {us:List Value} {kw:List (Str × Value)}:(A.under (.builtin "type.__call__" ⟨.ref C::us,kw⟩)).units=A.units+1:=by
 first | rfl | simp [Around.under,Code.cUnits,Code.frames,Code.isFrame]
theorem Room.make {k:Nat} {A:Around} (r:Room (k+1) A) (C:Addr) (us:List Value) (kw:List (Str × Value)):Room k (A.under (.builtin "type.__call__" ⟨.ref C::us,kw⟩)):=
 ⟨r.hd,by have:=r.dp;rw[vH];omega,by have:=r.un;rw[vI];omega⟩
theorem Room.depth {k:Nat} {A:Around} (r:Room k A):A.depth<recursionLimit:=by have:=r.dp;omega
theorem Room.units {k:Nat} {A:Around} (r:Room k A):A.units+64<cLine:=by have:=r.un;omega
theorem Room.units0 {k:Nat} {A:Around} (r:Room k A):A.units<cLine:=by have:=r.un;omega
def vJ:TA:=fun _ H Q=>Q [] H
def jP (ta:TE) (tr:TA):TA:=fun σ H Q=>ta σ H fun x H1=>tr σ H1 fun xs H2=>Q (x::xs) H2
section
variable {X:Cx} {e:Expr} {es:List Expr} {te:TE} {t:TA} {pos:Pos}
theorem Aw:PA X [] vJ:=fun _ _ _ _ H Q I h=>Calls.spliced_nil ⟨[],H,I,.nil,h⟩
theorem qY (ha:PE X e te) (hr:PA X es t) (hs:starEach (e::es) X.env=(false,eval e X.env)::starEach es X.env:=by rfl):PA X (e::es) (jP te t):=by
 intro pos pins s σ H Q I h;rw[hs];show wpAny _ _ (spliced ((false,eval e X.env)::backTo pos (starEach es X.env))) _ _ s
 refine Calls.spliced_cons (bK (ha pins s σ H _ I h) fun u s1 ⟨x,H1,I1,r1,q1⟩=>?_)
 exact bK (hr pos pins s1 σ H1 _ I1 q1) fun us s2 ⟨xs,H2,I2,r2,q2⟩=>⟨x::xs,H2,I2,.cons r1 r2,q2⟩
def Qh (t:TA):TE:=fun σ H Q=>t σ H fun xs H1=>xs.length<=sizeLine/\∀p,H1 p=none->Q (.ref p) (aI H1 p (.tup xs))
def Qi (t:TA):TE:=fun σ H Q=>t σ H fun xs H1=>xs.length<=sizeLine/\∀p,H1 p=none->Q (.ref p) (aI H1 p (.lst xs))
theorem Md {x1} (h:PA X es t):PE X (.Tuple es x1 pos) (Qh t):=by
 intro pins s σ H Q I hq;refine wpAny_Tuple_spliced (bK (h pos pins s σ H _ I hq) fun us s1 ⟨xs,H1,I1,r,z,q⟩=>⟨by rw[<- r.length];exact z,?_⟩)
 have hf:H1 s1.heap.objs.size=none:=I1.hok.fresh (bC _)
 refine⟨.ref s1.heap.objs.size,aI H1 s1.heap.objs.size (.tup xs),I1.laid (t':=s1.toks) (fun b u e=>hJ _ e) (bC _) ?_,rfl,q _ hf⟩
 exact⟨z,us,r,⟨_,Heap.get?_push_size _ rfl,rfl,_,rfl⟩⟩
theorem Me (h:PA X es t):PE X (.List es pos) (Qi t):=by
 intro pins s σ H Q I hq;refine wpAny_List_spliced (bK (h pos pins s σ H _ I hq) fun us s1 ⟨xs,H1,I1,r,z,q⟩=>⟨by rw[<- r.length];exact z,?_⟩)
 have hf:H1 s1.heap.objs.size=none:=I1.hok.fresh (bC _)
 refine⟨.ref s1.heap.objs.size,aI H1 s1.heap.objs.size (.lst xs),I1.laid (t':=s1.toks) (fun b u e=>hJ _ e) (bC _) ?_,rfl,q _ hf⟩
 exact⟨z,us,0,r,Heap.get?_push_size _ rfl⟩
end
abbrev Sp:=List V->Hp->VK->XK->Prop
abbrev Ax:=List Env->Hp->Shared->XK->Value->Shared->Prop
structure Env0 (P:Program) (w:World) (K:W.Frag) (mg:Str->Option Value) (base:Heap) (A:Around) (outer:List Env) (s:Shared) (H:Hp):Prop where
 frames:A.frames=some outer
 mod:Mod K mg base
 bs:∀b o,base.get? b=some o->s.heap.get? b=some o/\H b=none
 bsz:base.objs.size<=s.heap.objs.size
 funs:s.heap.FunFrames base outer
 frf:∀b∈gW outer,H b=none
 hok:HOk P w H s.heap
 bare:AllBare s.gens
def CE (outer:List Env) (P:Program) (w:World) (H:Hp) (s:Shared) (Q:VK) (u:Value) (s':Shared):Prop:=
 ∃v H',s'.os=s.os/\AllBare s'.gens/\Un (gW outer) [] H H' s.heap s'.heap/\HOk P w H' s'.heap/\RelV v u/\Q v H'
def CR (CX:Ax) (outer:List Env) (P:Program) (w:World) (H:Hp) (s:Shared) (Q:VK) (E:XK) (r:Result) (s':Shared):Prop:=
 match r with
 | .ok (.ret u)=>CE outer P w H s Q u s'
 | .ok _=>False
 | .error e=>CX outer H s E e s'
structure fW (P:Program) (w:World) (K:W.Frag) (mg:Str->Option Value) (base:Heap) (CX:Ax) (k:Nat) (f:Addr) (fd:FuncData) (ps:List Str) (sp:Sp):Prop where
 len:∀vs H Q E,sp vs H Q E->vs.length=ps.length
 run:∀(A:Around) (outer:List Env) (s:Shared) (H:Hp) (args:Args) (us:List Value) (vs:List V) (Q:VK) (E:XK),Room k A->Env0 P w K mg base A outer s H->BindsTo s fd args (ps.zip us)->Vals vs us->sp vs H Q E →
  codeAny (model P w) A (.call (.ref f) args) (CR CX outer P w H s Q E) s
theorem Env0.make {P:Program} {w:World} {K:W.Frag} {mg:Str->Option Value} {base:Heap} {A:Around} {outer:List Env} {s:Shared} {H:Hp} (e:Env0 P w K mg base A outer s H) (C:Addr) (us:List Value) (kw:List (Str × Value)) :
  Env0 P w K mg base (A.under (.builtin "type.__call__" ⟨.ref C::us,kw⟩)) outer s H:=⟨by first | exact e.frames | (simpa [Around.under,Code.envs,Code.isFrame,pushEnvs]using e.frames),e.mod,e.bs,e.bsz,e.funs,e.frf,e.hok,e.bare⟩
section
variable {X:Cx} {pins:List (Addr × Obj)} {σ:St} {H:Hp} {s s':Shared}
theorem Inv.env0 (I:Inv X pins σ H s):Env0 X.prog X.w X.K X.mg X.base X.A X.stack s H:=
 ⟨I.ok.frames,I.ok.mod,I.bs,hU I.ok.bsz I.sz,I.stack,I.stkFree,I.hok,I.bare⟩
theorem Inv.after {Q:VK} {u:Value} (I:Inv X pins σ H s) (h:CE X.stack X.prog X.w H s Q u s'):EP X pins σ Q u s':=by
 obtain⟨v,H',os,bare,un,hok,r,q⟩:=h
 obtain⟨hh,g,d,t,os'⟩:=s'
 obtain rfl:os'=s.os:=os
 exact⟨v,H',I.call (h':=hh) (g':=g) (d':=d) (t':=t) (ch:=[]) un hok bare (fun b z=>absurd z Zs),r,q⟩
end
def Qj (sp:Sp) (dvs:List V) (E:XK) (t:TA):TE:=fun σ H Q=>t σ H fun vs H1=>sp (vs++dvs) H1 Q E
def Jk (C:Addr) (sp:Sp) (dvs:List V) (E:XK) (t:TA):TE:=fun σ H Q=>t σ H fun vs H1=>∀x dx,H1 x=none->H1 dx=none->dx≠x →
 sp (.ref x::(vs++dvs)) (aI (aI H1 dx (.own x)) x (.ins C dx [])) (fun v H2=>v=.non/\Q (.ref x) H2) E
def Binds (K:W.Frag) (fd:FuncData) (ps:List Str) (ds:List Value):Prop:=
 ∀(s:Shared) (us:List Value),K.In s.heap->(us++ds).length=ps.length->BindsTo s fd ⟨us,[]⟩ (ps.zip (us++ds))
theorem Binds.all {K:W.Frag} {fd:FuncData} {ps:List Str} (h:∀us:List Value,us.length=ps.length->bindArgs fd ⟨us,[]⟩=pure (ps.zip us)):Binds K fd ps []:=fun s us _ hl=>by
 rw[List.append_nil]at hl ⊢;exact .of_eq (h us hl)
def mZ (CX:Ax) (X:Cx) (E:XK):Prop:=∀(pins:List (Addr × Obj)) (σ:St) (H:Hp) (s:Shared) (e:Value) (s':Shared),Inv X pins σ H s->CX X.stack H s E e s'->X.xe e s'
section
variable {X:Cx} {CX:Ax} {k:Nat} {f C:Addr} {fd:FuncData} {ps:List Str} {sp:Sp} {dvs:List V} {ds:List Value} {E:XK} {x m:Str} {p pos apos:Pos} {e o:Expr} {es:List Expr} {ta:TE} {t:TA}
theorem vK {pins:List (Addr × Obj)} {σ:St} {H:Hp} {s:Shared} {Q:VK} {us:List Value} {vs:List V} (F:fW X.prog X.w X.K X.mg X.base CX k f fd ps sp) (hr:Room k X.A) (hb:Binds X.K fd ps ds) (hd:Vals dvs ds) (hx:mZ CX X E)
  (I:Inv X pins σ H s) (r:Vals vs us) (h:sp (vs++dvs) H Q E):wpAny (model X.prog X.w) X.A (call (.ref f) us) (EP X pins σ Q) X.xe s:=by
 have r2:Vals (vs++dvs) (us++ds):=r.append hd
 have hl:(us++ds).length=ps.length:=by rw[<- r2.length];exact F.len _ _ _ _ h
 refine wpAny_call (codeAny_mono (F.run X.A X.stack s H ⟨us,[]⟩ (us++ds) (vs++dvs) Q E hr I.env0 (hb s us I.kIn hl) r2 h) fun r s' hq=>?_)
 cases r with
 | error e=>exact hx pins σ H s e s' I hq
 | ok fl=>
  cases fl with
  | ret u=>exact I.after hq
  | next=>exact False.elim hq
  | brk=>exact False.elim hq
  | cont=>exact False.elim hq
theorem Ga (F:fW X.prog X.w X.K X.mg X.base CX k f fd ps sp) (hr:Room k X.A) (hg:Gl X x) (hm:X.mg x=some (.ref f)) (hk:W.keepIn X.K (.ref f)=true) (hb:Binds X.K fd ps ds) (hd:Vals dvs ds) (hx:mZ CX X E)
  (ha:PA X (e::es) t) (hdb:(x == ("__debug__":Str))=false:=by decide) (he:starEach (e::es) X.env=(false,eval e X.env)::starEach es X.env:=by rfl) (hpl:(backTo pos (starEach es X.env)).any (·.1)=false:=by rfl) :
  PE X (.Call (.Name x p) (e::es) [] pos) (Qj sp dvs E t):=by
 intro pins s σ H Q I h;refine wpAny_Call_Name_kw (iK I hg hm ?_ hdb)
 refine W.callWith_K (h₀:=X.base) I.ok.mod.kin hk (bK (ha pos pins s σ H _ I h) fun us s1 ⟨vs,H1,I1,r,q⟩=>⟨I1.kIn,?_⟩) he hpl
 exact vK F hr hb hd hx I1 r q
structure Mk (K:W.Frag) (C f:Addr):Prop where
 makes:W.makesIn K C=true
 init:W.findIn K (.ref C) "__init__"=some (some (.ref f))
 fn:W.isFn K (.ref f)=true
 kp:W.keepIn K (.ref C)=true
theorem Ay {pins:List (Addr × Obj)} {σ:St} {H:Hp} {s:Shared} {Q:VK} {us:List Value} {vs:List V} (M:Mk X.K C f) (F:fW X.prog X.w X.K X.mg X.base CX k f fd ps sp) (hr:Room (k+1) X.A) (hb:Binds X.K fd ps ds) (hd:Vals dvs ds)
  (hx:mZ CX X E) (I:Inv X pins σ H s) (r:Vals vs us)
  (h:∀x dx,H x=none->H dx=none->dx≠x->sp (.ref x::(vs++dvs)) (aI (aI H dx (.own x)) x (.ins C dx [])) (fun v H2=>v=.non/\Q (.ref x) H2) E) :
  wpAny (model X.prog X.w) X.A (call (.ref C) us) (EP X pins σ Q) X.xe s:=by
 have hq:=h (s.heap.objs.size+1) s.heap.objs.size (I.hok.fresh (Nat.le_succ _)) (I.hok.fresh (bC _)) (Nat.ne_of_lt (Nat.lt_succ_self _))
 have I2:=Inv.made (C:=C) I
 have r2:Vals (V.ref (s.heap.objs.size+1)::(vs++dvs)) (Value.ref (s.heap.objs.size+1)::(us++ds)):=.cons rfl (r.append hd)
 have hl:(Value.ref (s.heap.objs.size+1)::us++ds).length=ps.length:=by
  have e:=r2.length
  rw[F.len _ _ _ _ hq]at e;exact e.symm
 refine wpAny_call (Av (f:=f) I.kIn M.makes M.init (beq_iff_eq.mp M.fn) (codeAny_mono (F.run _ X.stack _ _ ⟨Value.ref (s.heap.objs.size+1)::us,[]⟩ (Value.ref (s.heap.objs.size+1)::(us++ds)) _ _ E (hr.make C us [])
  (I2.env0.make C us []) (hb _ (Value.ref (s.heap.objs.size+1)::us) I2.kIn hl) r2 hq) fun r s' hq'=>?_))
 cases r with
 | error e=>exact hx pins σ _ _ e s' I2 hq'
 | ok fl=>
  cases fl with
  | ret u=>
   obtain⟨v,H',I3,rv,ev,q3⟩:=I2.after hq'
   subst ev;exact⟨rv,⟨V.ref (s.heap.objs.size+1),H',I3,rfl,q3⟩⟩
  | next=>exact False.elim hq'
  | brk=>exact False.elim hq'
  | cont=>exact False.elim hq'
theorem Gb (M:Mk X.K C f) (F:fW X.prog X.w X.K X.mg X.base CX k f fd ps sp) (hr:Room (k+1) X.A) (hg:Gl X x) (hm:X.mg x=some (.ref C)) (hb:Binds X.K fd ps ds) (hd:Vals dvs ds) (hx:mZ CX X E)
  (ha:PA X (e::es) t) (hdb:(x == ("__debug__":Str))=false:=by decide) (he:starEach (e::es) X.env=(false,eval e X.env)::starEach es X.env:=by rfl) (hpl:(backTo pos (starEach es X.env)).any (·.1)=false:=by rfl) :
  PE X (.Call (.Name x p) (e::es) [] pos) (Jk C sp dvs E t):=by
 intro pins s σ H Q I h;refine wpAny_Call_Name_kw (iK I hg hm ?_ hdb)
 refine W.callWith_K (h₀:=X.base) I.ok.mod.kin M.kp (bK (ha pos pins s σ H _ I h) fun us s1 ⟨vs,H1,I1,r,q⟩=>⟨I1.kIn,?_⟩) he hpl
 exact Ay M F hr hb hd hx I1 r q
end
structure aK (N P:List Str) (sc:Scope):Prop where
 kind:sc.kind=.function
 co:sc.isCoroutine=false
 gen:sc.isGenerator=false
 nd:N.Nodup
 pre:N.take P.length=P
 par:∀x∈P,sc.names.lookup x=some .local∨sc.names.lookup x=some .cell
 nofree:∀y∈sc.names,y.2≠.free
theorem pS {kindOf:Str->Option NameKind} {x:Str}:∀ {binds:List (Str × Value)} {m:Str->Option Value},(∀v,(x,v)∉binds)->bindL kindOf binds m x=m x
 | [],_,_=>rfl
 | (n,v)::r,m,h=>by
  unfold bindL;rw[pS fun w hw=>h w (mF _ hw)]
  split
  ·have:x≠n:=by rintro rfl;exact h v iW
   simp [this]
  ·rfl
theorem pT {kindOf:Str->Option NameKind} {x:Str}:∀ {binds:List (Str × Value)} {m:Str->Option Value},(∀v,(x,v)∉binds)->bindC kindOf binds m x=m x
 | [],_,_=>rfl
 | (n,v)::r,m,h=>by
  unfold bindC;rw[pT fun w hw=>h w (mF _ hw)]
  split
  ·rfl
  ·have:x≠n:=by rintro rfl;exact h v iW
   simp [this]
theorem pU {kindOf:Str->Option NameKind} {x:Str} {v:Value}:∀ {P:List Str} {vs:List Value} {i:Nat} {m:Str->Option Value},P.Nodup->P[i]?=some x->vs[i]?=some v->kindOf x=some .local →
  bindL kindOf (P.zip vs) m x=some v
 | [],_,_,_,_,h,_,_=>by simp at h
 | _::_,[],_,_,_,_,h,_=>by simp at h
 | p::P,w::vs,0,m,nd,h1,h2,hk=>by
  simp at h1 h2;subst h1;subst h2
  show bindL kindOf ((p,w)::P.zip vs) m p=_
  unfold bindL;rw[pS fun v hv=>(List.nodup_cons.mp nd).1 (List.of_mem_zip hv).1,if_pos hk]
  simp
 | p::P,w::vs,i+1,m,nd,h1,h2,hk=>by
  show bindL kindOf ((p,w)::P.zip vs) m x=_
  unfold bindL;exact pU (i:=i) (List.nodup_cons.mp nd).2 (by simpa using h1) (by simpa using h2) hk
theorem pV {kindOf:Str->Option NameKind} {x:Str} {v:Value}:∀ {P:List Str} {vs:List Value} {i:Nat} {m:Str->Option Value},P.Nodup->P[i]?=some x->vs[i]?=some v->kindOf x≠some .local →
  bindC kindOf (P.zip vs) m x=some v
 | [],_,_,_,_,h,_,_=>by simp at h
 | _::_,[],_,_,_,_,h,_=>by simp at h
 | p::P,w::vs,0,m,nd,h1,h2,hk=>by
  simp at h1 h2;subst h1;subst h2
  show bindC kindOf ((p,w)::P.zip vs) m p=_
  unfold bindC;rw[pT fun v hv=>(List.nodup_cons.mp nd).1 (List.of_mem_zip hv).1,if_neg hk]
  simp
 | p::P,w::vs,i+1,m,nd,h1,h2,hk=>by
  show bindC kindOf ((p,w)::P.zip vs) m x=_
  unfold bindC;exact pV (i:=i) (List.nodup_cons.mp nd).2 (by simpa using h1) (by simpa using h2) hk
def start (N:List Str) (vs:List V):St:=vs.map some++List.replicate (N.length - vs.length) none
def cW (CX:Ax) (P:Program) (w:World) (K:W.Frag) (mg:Str->Option Value) (base:Heap) (N:List Str) (qual:Str) (scope:Scope) (f:Addr) (cd:Value) (A:Around) (outer:List Env) (s:Shared) (H:Hp) (E:XK):Cx where
 prog:=P
 w:=w
 K:=K
 mg:=mg
 base:=base
 A:=A.deeper (envOfC qual scope s.heap.objs.size f cd)
 N:=N
 s₀:=s
 H₀:=H
 env:=envOfC qual scope s.heap.objs.size f cd
 outer:=outer
 stack:=envOfC qual scope s.heap.objs.size f cd::outer
 ex:=[]
 calm:=true
 fn:=fun _=>true
 pn:=[]
 xe:=fun e s'=>wpAny (model P w) (A.deeper (envOfC qual scope s.heap.objs.size f cd)) (leaving (envOfC qual scope s.heap.objs.size f cd) e) (fun _ s''=>CX outer H s E e s'') (fun e' s''=>CX outer H s E e' s'') s'
theorem sW {sc:Scope} {n:Nat} {x:Str} (h:sc.names.lookup x=some .cell):∃c,(cellsFrom n sc.names []).lookup x=some c:=by
 have q:=W.cellsFrom_some sc.names n [] (.inl h)
 exact Option.isSome_iff_exists.mp q
theorem yU {CX:Ax} {P:Program} {w:World} {K:W.Frag} {mg:Str->Option Value} {base:Heap} {N ps:List Str} {qual:Str} {scope:Scope} {f:Addr} {cd:Value} {A:Around} {outer:List Env} {s s1:Shared} {H:Hp} {E:XK} {us:List Value} {vs:List V}
  (S:aK N ps scope) (hd:A.handled=none) (e0:Env0 P w K mg base A outer s H) (hl:vs.length=ps.length) (r:Vals vs us)
  (x:InCallC s s.heap.objs.size (bindL (envOfC qual scope s.heap.objs.size f cd).kindOf (ps.zip us) fun _=>none) (cellsFrom (s.heap.objs.size+1) scope.names []) (bindC (envOfC qual scope s.heap.objs.size f cd).kindOf (ps.zip us) fun _=>none) s1) :
  Inv (cW CX P w K mg base N qual scope f cd A outer s H E) [] (start N vs) H s1:=by
 have hpl:ps.length<=N.length:=by have:=congrArg List.length S.pre;rw[vA]at this;omega
 obtain⟨h1,tk,rfl,hk⟩:=x.done
 have noA:∀b:Addr,b∉(cW CX P w K mg base N qual scope f cd A outer s H E).ex:=fun b z=>absurd (show b∈([]:List Addr) from z) Zs
 refine⟨⟨e0.mod,S.kind,rfl,rfl,bC _,fun y z c h1 h2=>?_,fun y hy=>?_,fun y c _ h=>?_,fun _=>hd,Around.frames_deeper e0.frames,.inr ⟨rfl,rfl⟩,fun b z=>absurd z (noA b),e0.bs,e0.bsz,fun b _ _=>noA b,fun b z=>absurd z (noA b),e0.funs,e0.frf⟩,
  rfl,e0.bare,Un.kept hk,⟨_,x.toInCall.ns,fun i y v h1 h2 h3=>?_⟩,fun y c h=>⟨_,x.cell y c h⟩,e0.hok.fresh (bC _),fun y c h=>?_,fun p hp=>absurd (show p∈([]:List (Addr × Obj)) from hp) Zs,e0.hok.kept hk,?_⟩
 ·exact name_of_addr x.apart (PySem.mem_of_lookup h1) (PySem.mem_of_lookup h2)
 ·have hy:scope.names.lookup y=some .cell∨scope.names.lookup y=some .free:=hy
  rcases hy with hy | hy
  ·exact sW hy
  ·exact absurd rfl (S.nofree _ (PySem.mem_of_lookup hy))
 ·exact Nat.le_of_lt (x.above y c (PySem.mem_of_lookup h))
 ·have hi:i<vs.length:=by
   unfold start at h2;by_cases hi:i<vs.length
   ·exact hi
   ·rw[List.getElem?_append_right (by simpa using hi)]at h2
    rw[List.getElem?_replicate]at h2;split at h2 <;> cases h2
  have ha:vs[i]?=some v:=by
   unfold start at h2;rw[List.getElem?_append_left (by simpa using hi),fS]at h2
   cases e:vs[i]? with
   | none=>rw[e]at h2;cases h2
   | some a=>rw[e]at h2;cases h2;rfl
  obtain⟨u,hu,rv⟩:=r.get ha
  have hp:ps[i]?=some y:=by
   rw[<- S.pre,List.getElem?_take_of_lt Zo];exact h1
  have ndP:ps.Nodup:=by rw[<- S.pre];exact S.nd.sublist (List.take_sublist _ _)
  refine⟨u,rv,?_⟩
  rcases S.par y (fT hp) with k | k
  ·exact .inl ⟨k,pU ndP hp hu k⟩
  ·obtain⟨c,e⟩:=sW (n:=s.heap.objs.size+1) k
   refine .inr ⟨.inl k,c,e,?_⟩
   have q:=x.cell y c e
   rw[pV ndP hp hu (by show scope.names.lookup y≠_;rw[k];decide)]at q
   exact q
 ·exact e0.hok.fresh (Nat.le_of_lt (x.above y c (PySem.mem_of_lookup h)))
 ·unfold start;show _=N.length
  rw[pN,aR,List.length_replicate];omega
theorem wY {CX:Ax} {P:Program} {w:World} {K:W.Frag} {mg:Str->Option Value} {base:Heap} {k:Nat} {f:Addr} {name qual:Str} {params:Arguments} {body:List Stmt} {scope:Scope} {dV kV doc pm cdv ct oc:Value} {an od:Option Addr}
  {osl:Array (Option Value)} {N ps:List Str} {sp:Sp} (lk:K.lookup f=some ⟨oc,od,.func (W.fnOf name qual params body scope dV kV doc pm an cdv ct),osl⟩) (hcd:W.codeIn K cdv qual=true) (S:aK N ps scope)
  (len:∀vs H Q E,sp vs H Q E->vs.length=ps.length)
  (hbody:∀(A:Around) (outer:List Env) (s:Shared) (H:Hp) (vs:List V) (Q:VK) (E:XK),Room k (A.deeper (envOfC qual scope s.heap.objs.size f cdv))->sp vs H Q E →
   ∃t,PSs (cW CX P w K mg base N qual scope f cdv A outer s H E) body t/\t {nx:=fun _ H'=>Q .non H',rt:=Q } (start N vs) H) :
  fW P w K mg base CX (k+1) f (W.fnOf name qual params body scope dV kV doc pm an cdv ct) ps sp:=by
 refine⟨len,fun A outer s H args us vs Q E hr e0 hb r hsp=>?_⟩
 have hl:=len _ _ _ _ hsp
 have KX:K.In s.heap:=e0.mod.kin.keeps fun b o e=>(e0.bs b o e).1
 have lim:s.heap.NoLimit:=e0.mod.nolimit.keeps fun b o e=>(e0.bs b o e).1
 have hkind:∀y∈ps.zip us,scope.names.lookup y.1=some .local∨(scope.names.lookup y.1=some .cell/\((cellsFrom (s.heap.objs.size+1) scope.names []).lookup y.1).isSome=true):=fun⟨n,v⟩ hy=>by
  rcases S.par n (List.of_mem_zip hy).1 with q | q
  ·exact .inl q
  ·exact .inr ⟨q,W.cellsFrom_some _ _ _ (.inl q)⟩
 refine codeAny_call_function hr.depth (KX _ _ lk) rfl S.co S.gen rfl (W.codeRec_of KX hcd) (hb _ _ _ _ ?_)
 refine wpAny_newFunctionEnv_cells S.kind hkind fun env he s1 x=>?_
 subst he;refine⟨lim.keeps x.toInCall.keep,codeAny_func ?_⟩
 obtain⟨t,ht,hq⟩:=hbody A outer s H vs Q E (hr.deeper _) hsp
 have I:Inv (cW CX P w K mg base N qual scope f cdv A outer s H E) [] (start N vs) H s1:=yU S hr.hd e0 hl r x
 refine wpAny_mono (ht [] s1 (start N vs) H _ I hq) (fun fl s' hs=>?_) fun e s' hs=>hs
 have fin:∀ {σ':St} {H':Hp} {v:V} {u:Value},Inv (cW CX P w K mg base N qual scope f cdv A outer s H E) [] σ' H' s'->RelV v u->Q v H'->CE outer P w H s Q u s':=
  fun {σ' H' v u} J rv q=>⟨v,H',J.os,J.bare,J.base,J.hok,rv,q⟩
 cases fl with
 | ret u=>
  obtain⟨v,σ',H',J,rv,q⟩:=hs
  exact fin J rv q
 | next=>
  obtain⟨σ',H',J,q⟩:=hs
  exact fin (v:=V.non) (u:=Value.none) J rfl q
 | brk=>
  obtain⟨_,_,_,q⟩:=hs
  exact False.elim q
 | cont=>
  obtain⟨_,_,_,q⟩:=hs
  exact False.elim q
end L2
namespace L2
open PySem PySem.Spec PyProof.Rows
section
variable {X:Cx} {x:Str} {p pos:Pos} {e:Expr} {es:List Expr} {t:TA} {id T:String} {r:List V->Hp->VK->Prop}
def Pf (r:List V->Hp->VK->Prop) (t:TA):TE:=fun σ H Q=>t σ H fun vs H1=>r vs H1 Q
theorem sX (hc:CallR X (.builtin id) r) (hg:Gl X x) (hm:X.mg x=none) (hv:bootBuiltins x=some (.builtin id)) (ha:PA X (e::es) t) (hn:x≠"__name__":=by decide) (hdb:(x == ("__debug__":Str))=false:=by decide)
  (he:starEach (e::es) X.env=(false,eval e X.env)::starEach es X.env:=by rfl) (hpl:(backTo pos (starEach es X.env)).any (·.1)=false:=by rfl):PE X (.Call (.Name x p) (e::es) [] pos) (Pf r t):=by
 intro pins s σ H Q I h;refine wpAny_Call_Name_kw (qW I hg hm hv ?_ hn hdb)
 exact PyProof.Rows.callWith_builtin1 (bK (ha pos pins s σ H _ I h) fun us s1 ⟨vs,H1,I1,r1,q1⟩=>hc pins s1 σ H1 vs us Q I1 r1 q1) he hpl
theorem yV (hc:CallR X (.type T) r) (hg:Gl X x) (hm:X.mg x=none) (hv:bootBuiltins x=some (.type T)) (ha:PA X (e::es) t) (hn:x≠"__name__":=by decide) (hdb:(x == ("__debug__":Str))=false:=by decide)
  (he:starEach (e::es) X.env=(false,eval e X.env)::starEach es X.env:=by rfl) (hpl:(backTo pos (starEach es X.env)).any (·.1)=false:=by rfl):PE X (.Call (.Name x p) (e::es) [] pos) (Pf r t):=by
 intro pins s σ H Q I h;refine wpAny_Call_Name_kw (qW I hg hm hv ?_ hn hdb)
 exact PyProof.Rows.callWith_type1 (bK (ha pos pins s σ H _ I h) fun us s1 ⟨vs,H1,I1,r1,q1⟩=>hc pins s1 σ H1 vs us Q I1 r1 q1) he hpl
end
end L2
namespace HT
open PySem PyProof.Rows
section
variable {prog:Program} {w:World} {A:Around} {E:Value->Shared->Prop} {s:Shared}
theorem cat_tup {t b:Addr} {vs ws:List Value} {Q:Value->Shared->Prop} (ht:IsTup s.heap t vs.toArray) (hb:IsTup s.heap b ws.toArray) (hv:vs≠[])
  (h1:ws=[]->Q (.ref t) s) (h2:ws≠[]->Q (.ref s.heap.objs.size) {s with heap:=s.heap.push {cls:=.type "tuple",data:=.seq (vs++ws).toArray } })
  (hsz:vs.length+ws.length<=sizeLine):wpAny (model prog w) A (binaryOp .Add (.ref t) (.ref b)) Q E s:=by
 obtain⟨⟨cls,dd,data,sl⟩,ho,hc,n,hd⟩:=id ht
 obtain⟨⟨cls2,dd2,data2,sl2⟩,ho2,hc2,n2,hd2⟩:=id hb
 simp only at hc hd hc2 hd2
 subst hc hd hc2 hd2;have e:vs.toArray++ws.toArray=(vs++ws).toArray:=by simp
 by_cases hw:ws=[]
 ·exact concat_meets ⟨_,ho,rfl⟩ ⟨_,ho2,rfl⟩ noFill_tuple_add seq_tuple_add PySem.F.slot_tuple_add PySem.F.entry_tuple_add (PySem.F.args_tuple_add_2 _ _)
   (tuple_addW1 t b vs.toArray ws.toArray n n2 dd dd2 sl sl2 (by simpa using hv) (by simp [hw])) ⟨ho,ho2,h1 hw⟩
 ·refine concat_meets ⟨_,ho,rfl⟩ ⟨_,ho2,rfl⟩ noFill_tuple_add seq_tuple_add PySem.F.slot_tuple_add PySem.F.entry_tuple_add (PySem.F.args_tuple_add_2 _ _)
   (tuple_addW2 t b vs.toArray ws.toArray n n2 dd dd2 sl sl2 (by simpa using hv) (by simpa using hw) (by rw[dM,dM];exact hsz)) ⟨ho,ho2,?_⟩
  rw[e];exact h2 hw
def sIx (n d:Nat):Option Int->Nat
 | none=>d
 | some v=>if v<0 then (v+(n:Int)).toNat else min v.toNat n
theorem sIx_none (n d:Nat):sIx n d none=d:=rfl
theorem sIx_nat (n d k:Nat):sIx n d (some (k:Int))=min k n:=by
 show(if (k:Int)<0 then ((k:Int)+(n:Int)).toNat else min (k:Int).toNat n)=min k n
 rw[if_neg Zo,Int.toNat_natCast]
theorem Mf (n d:Nat) (hd:d<=n) (o:Option Int):sIx n d o<=n:=by
 cases o with
 | none=>exact hd
 | some v=>
  show(if v<0 then (v+(n:Int)).toNat else min v.toNat n)<=n
  by_cases hv:v<0
  ·rw[if_pos hv];omega
  ·rw[if_neg hv];exact Nat.min_le_right _ _
theorem wZ (v:Int) (n d:Nat):(if v<0 then max (v+(n:Int)) 0 else min v (n:Int))=((sIx n d (some v):Nat):Int):=by
 show(if v<0 then max (v+(n:Int)) 0 else min v (n:Int))=(((if v<0 then (v+(n:Int)).toNat else min v.toNat n):Nat):Int)
 by_cases hv:v<0
 ·simp only [if_pos hv];omega
 ·simp only [if_neg hv];omega
theorem vL (lo hi:Option Int) (n:Nat):Builtin.Slice.sliceAdjust lo hi 1 (n:Int)=(((sIx n 0 lo:Nat):Int),((sIx n n hi:Nat):Int)):=by
 have h1:¬ ((1:Int)<0):=by omega
 unfold Builtin.Slice.sliceAdjust;simp only [h1,if_false]
 refine Prod.ext ?_ ?_
 ·cases lo with
  | none=>rfl
  | some v=>exact wZ v n 0
 ·cases hi with
  | none=>rfl
  | some v=>exact wZ v n n
theorem vM (i j:Nat):Builtin.Slice.slicePlaces (i:Int) (j:Int) 1=j - i:=by
 unfold Builtin.Slice.slicePlaces;have h1:(1:Int) > 0:=by omega
 simp only [h1,if_true,Int.ediv_one]
 split <;> omega
theorem nB {v:Value} {o:Option Int} {Q:Option Int->Shared->Prop} (p:IsPart v o) (h:Q o s):wpAny (model prog w) A (Builtin.Slice.slicePartIndex v) Q E s:=by
 cases p with
 | none=>exact slicePart_none h
 | int i t=>exact slicePart_int h
theorem sliceApplied_gen {sl:Addr} {vl vu:Value} {lo hi:Option Int} {n:Nat} {Q:Int × Int × Nat->Shared->Prop} (hs:s.heap.IsSliceOf sl vl vu .none) (pl:IsPart vl lo) (pu:IsPart vu hi)
  (h:Q (((sIx n 0 lo:Nat):Int),1,sIx n n hi - sIx n 0 lo) s):wpAny (model prog w) A (Builtin.Slice.sliceApplied (.ref sl) (pure (n:Int))) Q E s:=by
 obtain⟨os,hos,hcs,hds⟩:=id hs
 unfold Builtin.Slice.sliceApplied Builtin.Slice.sliceFields;refine wpAny_bind (wpAny_bind (wpAny_field hos hds (x:=vl) rfl (wpAny_bind (wpAny_field hos hds (x:=vu) rfl (wpAny_bind (wpAny_field hos hds (x:=.none) rfl (wpAny_pure ?_)))))))
 refine wpAny_bind (slicePart_none ?_)
 show wpAny _ _ (if ((1:Int) == 0)=true then _ else _) _ _ s
 rw[if_neg Zd]
 refine wpAny_bind (nB pl (wpAny_bind (nB pu (wpAny_bind (wpAny_pure ?_)))))
 show wpAny _ _ (match Builtin.Slice.sliceAdjust lo hi 1 (n:Int) with | (lo,hi)=>pure (lo,(1:Int),Builtin.Slice.slicePlaces lo hi 1)) _ _ s
 rw[vL lo hi n];show wpAny _ _ (pure (((sIx n 0 lo:Nat):Int),(1:Int),Builtin.Slice.slicePlaces ((sIx n 0 lo:Nat):Int) ((sIx n n hi:Nat):Int) 1)) _ _ s
 rw[vM];exact wpAny_pure h
theorem Az (xs:Array Value) (i k:Nat):((List.range k).filterMap fun(m:Nat)=>xs[((i:Int)+(m:Int)*1).toNat]?).toArray=((xs.toList.drop i).take k).toArray:=by
 have e:(fun(m:Nat)=>xs[((i:Int)+(m:Int)*1).toNat]?)=fun m=>xs[i+m]?:=by
  funext m
  have:((i:Int)+(m:Int)*1).toNat=i+m:=by omega
  rw[this]
 rw[e];have:=pick_run xs i k
 rw[List.filterMap_map]at this;have e2:((fun x=>xs[x]?)∘fun x=>i+x)=fun m=>xs[i+m]?:=rfl
 rw[e2]at this;rw[this]
theorem getItem_tuple_cut {t sl:Addr} {items:Array Value} {vl vu:Value} {lo hi:Option Int} {Q:Value->Shared->Prop} (ht:IsTup s.heap t items) (hs:s.heap.IsSliceOf sl vl vu .none) (pl:IsPart vl lo) (pu:IsPart vu hi)
  (hw:¬ (sIx items.size 0 lo=0/\sIx items.size items.size hi=items.size))
  (h:Q (.ref s.heap.objs.size) {s with heap:=s.heap.push {cls:=.type "tuple",data:=.seq ((items.toList.drop (sIx items.size 0 lo)).take (sIx items.size items.size hi - sIx items.size 0 lo)).toArray } })
  (hsz:items.size<=sizeLine):wpAny (model prog w) A (getItem (.ref t) (.ref sl)) Q E s:=by
 have htake:sizeOk (.seq ((items.toList.drop (sIx items.size 0 lo)).take (sIx items.size items.size hi - sIx items.size 0 lo)).toArray):=by
  show((items.toList.drop (sIx items.size 0 lo)).take (sIx items.size items.size hi - sIx items.size 0 lo)).toArray.size<=sizeLine
  rw[dM,vA,List.length_drop,Array.length_toList];omega
 have hj:sIx items.size items.size hi<=items.size:=Mf _ _ (bC _) hi
 obtain⟨os,hos,hcs,hds⟩:=id hs
 have hTs:s.TypeIs (.ref sl) "slice":=⟨os,hos,hcs⟩
 unfold getItem;try with_reducible refine wpAny_holding ?_
 first | refine wpAny_bind (wpAny_pure ?_) | skip
 refine wpAny_bind (wpAny_sequenceKey ht.typeIs Zd ?_)
 refine wpAny_bind (wpAny_callSpecial?_slot (name:=Str.ofString "__getitem__") ht.typeIs PyProof.Rows.slot_tuple_getitem
  (wpAny_call_entry PyProof.Rows.slot_tuple_getitem ht.typeIs entry_tuple_getitem ?_ (args_tuple_getitem _ _)))
 show wpAny _ _ (Builtin.Tuple.tupleItemsOf (.ref t) >>= _) _ _ s
 refine wpAny_bind (tupleItemsOf_ ht ?_)
 refine wpAny_bind (wpAny_typeOf hTs ?_)
 rw[if_pos Zd]
 refine wpAny_bind (sliceApplied_gen hs pl pu ?_)
 have hno:¬ ((((sIx items.size 0 lo:Nat):Int) == 0&&(1:Int) == 1&&(sIx items.size items.size hi - sIx items.size 0 lo) == items.size)=true):=by
  intro q;rw[Bool.and_eq_true,Bool.and_eq_true]at q;have q1:((sIx items.size 0 lo:Nat):Int)=0:=eq_of_beq q.1.1
  have q2:sIx items.size items.size hi - sIx items.size 0 lo=items.size:=eq_of_beq q.2
  exact hw ⟨Zo,Zo⟩
 show wpAny _ _ (if (((sIx items.size 0 lo:Nat):Int) == 0&&(1:Int) == 1&&(sIx items.size items.size hi - sIx items.size 0 lo) == items.size)=true then _ else _) _ _ s
 rw[if_neg hno,Az];first
  | exact wpAny_bind (m:=Builtin.Tuple.tupleExact _) (wpAny_newObj_type (wpAny_pure ⟨_,rfl,wpAny_pure h⟩) htake)
  | exact wpAny_bind (m:=Builtin.Tuple.tupleExact _) (wpAny_newObj_type (wpAny_bind (wpAny_pure (wpAny_pure ⟨_,rfl,wpAny_pure h⟩))) htake)
  | exact wpAny_bind (wpAny_bind (m:=Builtin.Tuple.tupleExact _) (wpAny_newObj_type (wpAny_pure (wpAny_pure ⟨_,rfl,wpAny_pure h⟩)) htake))
  | exact wpAny_bind (wpAny_bind (m:=Builtin.Tuple.tupleExact _) (wpAny_newObj_type (wpAny_pure ⟨_,rfl,wpAny_pure h⟩) htake))
end
end HT
namespace L2
open PySem PySem.Spec PyProof.Rows
abbrev TO:=St->Hp->(Option Int->Hp->Prop)->Prop
def PO (X:Cx) (e:Option Expr) (t:TO):Prop:=
 ∀(pins:List (Addr × Obj)) (s:Shared) (σ:St) (H:Hp) (Q:Option Int->Hp->Prop),Inv X pins σ H s->t σ H Q →
  wpAny (model X.prog X.w) X.A (evalPart e X.env) (fun u s'=>∃o H',Inv X pins σ H' s'/\IsPart u o/\Q o H') X.xe s
def xA:TO:=fun _ H Q=>Q none H
def Ba (t:TE):TO:=fun σ H Q=>t σ H fun x H1=>∃i,x=.int i/\Q (some i) H1
theorem nC {ns:List Int}:∀ {us:List Value},Vals (ns.map V.int) us->IntsAre us ns:=by
 induction ns with
 | nil=>intro us r;rw[List.map_nil]at r;cases r;exact .nil
 | cons n ns ih=>
  intro us r;rw[List.map_cons]at r;cases r with
  | cons r1 r2=>
   obtain⟨t,e⟩:=r1
   subst e;exact .cons n t (ih r2)
section
variable {X:Cx} {e:Expr} {te:TE} {lo hi:Option Expr} {tl th:TO} {pos p2:Pos}
theorem Gc:PO X none xA:=by
 intro pins s σ H Q I h;rw[evalPart_none];exact wpAny_pure ⟨none,H,I,.none,h⟩
theorem Gd (h:PE X e te):PO X (some e) (Ba te):=by
 intro pins s σ H Q I hw;rw[evalPart_some];refine bK (h pins s σ H _ I hw) fun u s1 ⟨x,H1,I1,r1,q1⟩=>?_
 obtain⟨i,rfl,q⟩:=q1
 obtain⟨t,rfl⟩:=r1
 exact⟨some i,H1,I1,.int i t,q⟩
def SlR (X:Cx) (r:V->Option Int->Option Int->Hp->VK->Prop):Prop:=
 ∀(pins:List (Addr × Obj)) (s:Shared) (σ:St) (H:Hp) (x:V) (v vl vu:Value) (lo hi:Option Int) (sl:Addr) (Q:VK),Inv X pins σ H s->RelV x v->s.heap.IsSliceOf sl vl vu .none->IsPart vl lo->IsPart vu hi->r x lo hi H Q →
  ∃T id,typeLookup (.type T) "__getitem__"=pure (some (.builtin id))/\s.TypeIs v T/\wpAny (model X.prog X.w) X.A (getItem v (.ref sl)) (EP X pins σ Q) X.xe s
def Uw (r:V->Option Int->Option Int->Hp->VK->Prop) (te:TE) (tl th:TO):TE:=fun σ H Q=>te σ H fun x H1=>tl σ H1 fun l H2=>th σ H2 fun u H3=>r x l u H3 Q
theorem Bb {r:V->Option Int->Option Int->Hp->VK->Prop} (hr:SlR X r) (he:PE X e te) (hl:PO X lo tl) (hu:PO X hi th):PE X (.Subscript e (.Slice lo hi none p2) pos) (Uw r te tl th):=by
 intro pins s σ H Q I h;refine Subscript_ (bK (he pins s σ H _ I h) fun v s1 ⟨x,H1,I1,r1,q1⟩=>?_)
 refine wpAny_Slice (bK (hl pins s1 σ H1 _ I1 q1) fun vl s2 ⟨l,H2,I2,pl,q2⟩=>bK (hu pins s2 σ H2 _ I2 q2) fun vu s3 ⟨u,H3,I3,pu,q3⟩=>?_)
 rw[evalPart_none];refine wpAny_pure ?_
 have I4:Inv X pins σ H3 {s3 with heap:=s3.heap.push {cls:=.type "slice",data:=.fields #[vl,vu,.none] } }:=I3.kept (t':=s3.toks) fun b ob q=>hJ _ q
 obtain⟨T,id,hT,ht,hg⟩:=hr pins {s3 with heap:=s3.heap.push {cls:=.type "slice",data:=.fields #[vl,vu,.none] } } σ H3 x v vl vu l u s3.heap.objs.size Q I4 r1 (Heap.IsSliceOf.new ..) pl pu q3
 show wpAny (model X.prog X.w) X.A (subscriptTail e (.Slice lo hi none p2) v (.ref s3.heap.objs.size)) (EP X pins σ Q) X.xe {s3 with heap:=s3.heap.push {cls:=.type "slice",data:=.fields #[vl,vu,.none] } }
 exact tail_any (ops:=[.ref s3.heap.objs.size,v]) ht hT hg (by with_unfolding_all rfl)
def yW (xs:List V) (lo hi:Option Int):List V:=(xs.drop (HT.sIx xs.length 0 lo)).take (HT.sIx xs.length xs.length hi - HT.sIx xs.length 0 lo)
theorem lO (xs:List V) (lo hi:Option Int):(yW xs lo hi).length<=xs.length:=by
 unfold yW;rw[vA,List.length_drop];omega
def Tn (K:W.Frag):V->Option Int->Option Int->Hp->VK->Prop:=fun x lo hi H Q=>∃a xs,x=.ref a/\SqT K H a xs ∧
 ¬ (HT.sIx xs.length 0 lo=0/\HT.sIx xs.length xs.length hi=xs.length)/\∀p,H p=none->Q (.ref p) (aI H p (.tup (yW xs lo hi)))
theorem Mg:SlR X (Tn X.K):=by
 intro pins s σ H x v vl vu lo hi sl Q I rx hs pl pu h;obtain⟨a,xs,rfl,hx,hw,q⟩:=h
 cases rx
 obtain⟨its,r,ht,hz⟩:=I.tuple hx
 have hlen:its.toArray.size=xs.length:=by rw[dM];exact r.length.symm
 refine⟨"tuple",_,PyProof.Rows.slot_tuple_getitem.lookup,ht.typeIs,?_⟩
 refine HT.getItem_tuple_cut ht hs pl pu (by rw[hlen];exact hw) ?_ (by rw[hlen];exact hz)
 rw[hlen];refine⟨.ref s.heap.objs.size,_,I.laid (t':=s.toks) (o:=.tup (yW xs lo hi)) (fun b ob q=>hJ _ q) (bC _) ?_,rfl,q _ (I.hok.fresh (bC _))⟩
 exact⟨hU (lO xs lo hi) hz,_,(r.drop (HT.sIx xs.length 0 lo)).take (HT.sIx xs.length xs.length hi - HT.sIx xs.length 0 lo),IsTup.new _ _⟩
def Qk (K:W.Frag):R2:=fun x y H Q=>∃a b xs ys,x=.ref a/\y=.ref b/\SqT K H a xs/\SqT K H b ys/\xs≠[]/\xs.length+ys.length<=sizeLine ∧
 (ys=[]->Q (.ref a) H)/\(ys≠[]->∀p,H p=none->Q (.ref p) (aI H p (.tup (xs++ys))))
theorem Vals.nil_iff {xs:List V} {us:List Value} (r:Vals xs us):us=[]↔xs=[]:=by
 cases r with
 | nil=>simp
 | cons _ _=>simp
theorem Ge:OpR X (binaryOp .Add) (Qk X.K):=by
 intro pins s σ H x y v u Q I rx ry h;obtain⟨a,b,xs,ys,rfl,rfl,ha,hb,hx,hz,q1,q2⟩:=h
 cases rx
 cases ry
 obtain⟨its,r1,p1,_⟩:=I.tuple ha
 obtain⟨its2,r2,p2,_⟩:=I.tuple hb
 refine HT.cat_tup p1 p2 (fun z=>hx (r1.nil_iff.mp z)) (fun z=>⟨.ref a,H,I,rfl,q1 (r2.nil_iff.mp z)⟩) (fun z=>?_) (by rw[<- r1.length,<- r2.length];exact hz)
 refine⟨.ref s.heap.objs.size,_,I.laid (t':=s.toks) (o:=.tup (xs++ys)) (fun b ob q=>hJ _ q) (bC _) ?_,rfl,q2 (fun w=>z (r2.nil_iff.mpr w)) _ (I.hok.fresh (bC _))⟩
 exact⟨by rw[pN];exact hz,_,r1.append r2,IsTup.new _ _⟩
end
end L2
namespace L2
open PySem PySem.Spec PyProof.Rows
def Mh (n:Nat) (i:Int):Option Nat:=if 0<=i then (if i<n then some i.toNat else none) else if -(n:Int)<=i then some (i+n).toNat else none
def nD {α:Type} (xs:List α) (i:Int):Option α:=(Mh xs.length i).bind fun j=>xs[j]?
theorem xB {n:Nat} {i:Int} {j:Nat} (h:Mh n i=some j):seqIndex? i n=some j/\j<n/\-(n:Int)<=i/\i<n:=by
 unfold Mh at h;by_cases h0:0<=i
 ·rw[if_pos h0]at h;by_cases h1:i<n
  ·rw[if_pos h1]at h;have e:i.toNat=j:=Option.some.inj h
   exact⟨by rw[seqIndex_of h0 h1,e],Zo,Zo,h1⟩
  ·rw[if_neg h1]at h;cases h
 ·rw[if_neg h0]at h;by_cases h1:-(n:Int)<=i
  ·rw[if_pos h1]at h;have e:(i+n).toNat=j:=Option.some.inj h
   exact⟨by rw[seqIndex_neg Zo h1,e],Zo,h1,Zo⟩
  ·rw[if_neg h1]at h;cases h
theorem qZ {α:Type} {xs:List α} {i:Int} {v:α} (h:nD xs i=some v):∃j,seqIndex? i xs.length=some j/\xs[j]?=some v/\j<xs.length/\-(xs.length:Int)<=i/\i<xs.length:=by
 unfold nD at h;cases e:Mh xs.length i with
 | none=>rw[e]at h;cases h
 | some j=>
  rw[e]at h;obtain⟨h1,h2,h3,h4⟩:=xB e
  exact⟨j,h1,h,h2,h3,h4⟩
theorem dX {α:Type} {xs:List α} {j:Nat} {v:α} (h:xs[j]?=some v):nD xs (j:Int)=some v:=by
 have hj:j<xs.length:=(Zgs.mp h).1
 have e:Mh xs.length (j:Int)=some j:=by
  unfold Mh;rw[if_pos Zo,if_pos Zo];simp
 unfold nD;rw[e];exact h
def rA (b:Expr):Prop:=∀o i,subscripted b false o i=operate [o,i] (getItem o i)
def IxR (X:Cx) (r:R2):Prop:=
 ∀(value slice:Expr) (pins:List (Addr × Obj)) (s:Shared) (σ:St) (H:Hp) (x y:V) (v u:Value) (Q:VK),Inv X pins σ H s->RelV x v->RelV y u->r x y H Q →
  subscripted slice false v u=operate [v,u] (getItem v u)->wpAny (model X.prog X.w) X.A (subscriptTail value slice v u) (EP X pins σ Q) X.xe s
def Ql (X:Cx) (id:String) (r:V->List V->Hp->VK->Prop):Prop:=
 ∀(pins:List (Addr × Obj)) (s:Shared) (σ:St) (H:Hp) (x:V) (xs:List V) (v:Value) (us:List Value) (Q:VK),Inv X pins σ H s->RelV x v->Vals xs us->r x xs H Q →
  wpAny (model X.prog X.w) X.A (call (.builtin id) (v::us)) (EP X pins σ Q) X.xe s
section
variable {X:Cx} {a b:Expr} {ta tb:TE} {pos:Pos}
theorem Qm {r:R2} (hr:IxR X r) (ha:PE X a ta) (hb:PE X b tb) (hs:rA b):PE X (.Subscript a b pos) (sR r ta tb):=by
 intro pins s σ H Q I h;exact Subscript_ (Ls ha hb I h fun v u s2 x y H2 I2 rx ry q=>hr a b pins s2 σ H2 x y v u Q I2 rx ry q (hs _ _))
def To (K:W.Frag):R2:=fun x y H Q=>∃p xs i v,x=.ref p/\y=.int i/\SqL K H p xs/\nD xs i=some v/\Q v H
def Tp (K:W.Frag):R2:=fun x y H Q=>∃p xs i v,x=.ref p/\y=.int i/\SqT K H p xs/\nD xs i=some v/\Q v H
def Tq:R2:=fun x y H Q=>∃z i c,x=.str z/\y=.int i/\z.length<=sizeLine/\nD z.cps.toList i=some c/\Q (.str ⟨#[c]⟩) H
theorem Gf:IxR X (To X.K):=by
 intro value slice pins s σ H x y v u Q I rx ry h hs;obtain⟨p,xs,i,z,rfl,rfl,hq,he,q⟩:=h
 cases rx
 obtain⟨t,rfl⟩:=ry
 obtain⟨its,r,pl,hz⟩:=I.list hq
 obtain⟨j,h1,h2,h3,h4,h5⟩:=qZ he
 obtain⟨w,ew,rw'⟩:=r.get h2
 have hl:=r.length
 have hn:=kK
 have fin:EP X pins σ Q w s:=⟨z,H,I,rw',q⟩
 by_cases h0:0<=i
 ·have hj:i.toNat=j:=by
   rw[seqIndex_of h0 h5]at h1;exact Option.some.inj h1
  exact item_listR pl.isList h0 Zo (by rw[hj];simpa using ew) fin hs
 ·have hj:(i+(its.toArray.size:Int)).toNat=j:=by
   rw[seqIndex_neg Zo h4]at h1
   rw[dM,<- hl];exact Option.some.inj h1
  exact subscriptTail_builtinR (x:=w) pl.isList.typeIs slot_list_getitem.lookup
   (wpAny_getItem_list_neg (Q:=fun r s'=>r=w/\EP X pins σ Q r s') pl.isList Zo (by rw[dM] <;> omega) Zo (by rw[hj];simpa using ew) ⟨rfl,fin⟩) hs
theorem Mi:IxR X (Tp X.K):=by
 intro value slice pins s σ H x y v u Q I rx ry h hs;obtain⟨p,xs,i,z,rfl,rfl,hq,he,q⟩:=h
 cases rx
 obtain⟨t,rfl⟩:=ry
 obtain⟨its,r,pl,hz⟩:=I.tuple hq
 obtain⟨j,h1,h2,h3,h4,h5⟩:=qZ he
 obtain⟨w,ew,rw'⟩:=r.get h2
 have hl:=r.length
 have hn:=kK
 have fin:EP X pins σ Q w s:=⟨z,H,I,rw',q⟩
 exact subscriptTail_builtinR (x:=w) pl.typeIs slot_tuple_getitem.lookup
  (getItem_tuple (j:=j) (Q:=fun r s'=>r=w/\EP X pins σ Q r s') pl Zo Zo (by rw[dM,<- hl];exact h1) (by simpa using ew) ⟨rfl,fin⟩) hs
theorem Mj:IxR X Tq:=by
 intro value slice pins s σ H x y v u Q I rx ry h hs;obtain⟨z,i,c,rfl,rfl,hz,he,q⟩:=h
 obtain⟨t,rfl⟩:=rx
 obtain⟨t',rfl⟩:=ry
 obtain⟨j,h1,h2,h3,h4,h5⟩:=qZ he
 have hl:z.cps.toList.length=z.length:=by simp [Str.length]
 rw[hl]at h1 h4 h5;have hn:=kK
 exact tail_any (typeIs_str s z t) slot_str_getitem.lookup (getItem_str (c:=c) (by
  have e1:decide (i < -(2 ^ 63:Int))=false:=decide_eq_false Zo
  have e2:decide (i ≥ 2 ^ 63)=false:=decide_eq_false Zo
  rw[e1,e2,Bool.or_false]) (by rw[h1];simpa using h2) ⟨.str ⟨#[c]⟩,H,I.tok _,⟨_,rfl⟩,q⟩) hs
theorem vN (its:List Value) (n j:Nat) (u:Value):Obj.mapSeq (·.setIfInBounds j u) {cls:=.type "list",data:=.seq its.toArray n }={cls:=.type "list",data:=.seq (its.set j u).toArray n }:=by
 simp [Obj.mapSeq]
theorem Inv.lst {pins:List (Addr × Obj)} {σ:St} {H:Hp} {s:Shared} {p:Addr} {xs:List V} (I:Inv X pins σ H s) (h:H p=some (.lst xs)) :
  ∃(its:List Value) (n:Nat),Vals xs its/\s.heap.get? p=some {cls:=.type "list",data:=.seq its.toArray n }/\xs.length<=sizeLine:=by
 obtain⟨z,its,n,r,e⟩:=I.hok p _ h
 exact⟨its,n,r,e,z⟩
theorem Inv.lstUpd {pins:List (Addr × Obj)} {σ:St} {H:Hp} {s:Shared} {p:Addr} {xs ys:List V} {its its':List Value} {n n':Nat} {f:Obj->Obj} (I:Inv X pins σ H s) (h:H p=some (.lst xs))
  (ho:s.heap.get? p=some {cls:=.type "list",data:=.seq its.toArray n }) (hf:f {cls:=.type "list",data:=.seq its.toArray n }={cls:=.type "list",data:=.seq its'.toArray n' }) (r:Vals ys its') (hz:ys.length<=sizeLine) (t:Nat) :
  Inv X pins σ (aI H p (.lst ys)) {s with heap:=s.heap.update p f,toks:=t }:=by
 have e:(s.heap.update p f).get? p=some {cls:=.type "list",data:=.seq its'.toArray n' }:=by
  rw[Heap.get?_update_self f ho (by rw[hf] <;> rfl),hf]
 refine I.write (x:=p) (e:=p) (by rw[h];trivial) (.inl rfl) (fun b u hb q=>(Heap.get?_update_other _ _ (Ne.symm hb)).trans q) ⟨_,e⟩ ?_
 exact⟨hz,its',n',r,e⟩
def Jl:V->V->V->Hp->(Hp->Prop)->Prop:=fun o i v H Q=>∃p xs k j,o=.ref p/\i=.int k/\H p=some (.lst xs)/\Mh xs.length k=some j/\Q (aI H p (.lst (xs.set j v)))
theorem Bc:Fm X Jl:=by
 intro pins s σ H o i v ov iv u Q I ro ri rv h;obtain⟨p,xs,k,j,rfl,rfl,hp,hj,q⟩:=h
 cases ro
 obtain⟨t,rfl⟩:=ri
 obtain⟨its,n,r,ho,hz⟩:=I.lst hp
 obtain⟨h1,h2,h3,h4⟩:=xB hj
 have hl:=r.length
 have hn:=kK
 have I':Inv X pins σ (aI H p (.lst (xs.set j v))) {s with heap:=s.heap.update p (Obj.mapSeq (·.setIfInBounds j u)) }:=
  I.lstUpd hp ho (vN its n j u) (r.set rv j) (by rw[List.length_set];exact hz) s.toks
 by_cases h0:0<=k
 ·have hk:k.toNat=j:=by
   rw[seqIndex_of h0 h4]at h1;exact Option.some.inj h1
  exact W.ki_setAt ho h0 Zo (by rw[dM,<- hl];exact h4) (by rw[hk];exact⟨_,I',q⟩)
 ·have hk:(k+(its.toArray.size:Int)).toNat=j:=by
   rw[seqIndex_neg Zo h3]at h1
   rw[dM,<- hl];exact Option.some.inj h1
  exact W.ki_setBack ho Zo (by rw[dM,<- hl];exact h3) Zo (by rw[hk];exact⟨_,I',q⟩)
theorem rB (lo hi:Option Int) (n:Nat):(sliceBounds lo hi none n).1=((HT.sIx n 0 lo:Nat):Int)/\(sliceBounds lo hi none n).2.1=((HT.sIx n n hi:Nat):Int)/\(sliceBounds lo hi none n).2.2=1:=by
 refine⟨?_,?_,rfl⟩
 ·cases lo with
  | none=>simp [sliceBounds,HT.sIx]
  | some i=>
   simp only [sliceBounds,HT.sIx,Option.getD_none,show(1:Int) > 0 by decide,if_true]
   by_cases h:i<0
   ·simp only [h,if_true] <;> omega
   ·simp only [h,if_false] <;> omega
 ·cases hi with
  | none=>simp [sliceBounds,HT.sIx]
  | some i=>
   simp only [sliceBounds,HT.sIx,Option.getD_none,show(1:Int) > 0 by decide,if_true]
   by_cases h:i<0
   ·simp only [h,if_true] <;> omega
   ·simp only [h,if_false] <;> omega
theorem oZ (its:List Value) (lo hi:Option Int):slicePick its.toArray lo hi none=((its.drop (HT.sIx its.length 0 lo)).take (HT.sIx its.length its.length hi - HT.sIx its.length 0 lo)).toArray:=by
 obtain⟨h1,h2,h3⟩:=rB lo hi its.toArray.size
 unfold slicePick;rw[h1,h2,h3];simp only [sliceRange_one,pick_run,dM] <;> rfl
def Tr (K:W.Frag):V->Option Int->Option Int->Hp->VK->Prop:=fun x lo hi H Q=>∃a xs,x=.ref a/\SqL K H a xs/\∀p,H p=none->Q (.ref p) (aI H p (.lst (yW xs lo hi)))
theorem Gg:SlR X (Tr X.K):=by
 intro pins s σ H x v vl vu lo hi sl Q I rx hs pl pu h;obtain⟨a,xs,rfl,hx,q⟩:=h
 cases rx
 obtain⟨its,r,ht,hz⟩:=I.list hx
 have hlen:=r.length
 refine⟨"list",_,slot_list_getitem.lookup,ht.isList.typeIs,?_⟩
 refine wpAny_getItem_list_slice ht.isList hs pl pu .none Zs ?_ (by rw[dM] <;> omega)
 rw[oZ,<- hlen];refine⟨.ref s.heap.objs.size,_,I.laid (t':=s.toks) (o:=.lst (yW xs lo hi)) (fun b ob q=>hJ _ q) (bC _) ?_,rfl,q _ (I.hok.fresh (bC _))⟩
 exact⟨hU (lO xs lo hi) hz,_,0,(r.drop (HT.sIx xs.length 0 lo)).take (HT.sIx xs.length xs.length hi - HT.sIx xs.length 0 lo),Heap.get?_push_size _ rfl⟩
def eX:V->Bool
 | .non=>true
 | .bl _=>true
 | .int _=>true
 | .str _=>true
 | _=>false
def Ae:V->V->Bool
 | .non,.non=>true
 | .bl a,.bl b=>a == b
 | .bl a,.int b=>(if a then 1 else 0) == b
 | .int a,.bl b=>a == (if b then 1 else 0)
 | .int a,.int b=>a == b
 | .str a,.str b=>a == b
 | _,_=>false
theorem rC {A:Around} {s:Shared} {y x:V} {u v:Value} (ry:RelV y u) (rx:RelV x v) (fy:eX y=true) (fx:eX x=true):SeqAt.EqAt A s u v (Ae y x):=by
 cases y with
 | non=>
  cases ry
  cases x with
  | non=>cases rx;exact SeqAt.EqAt.same _
  | bl b=>cases rx;exact SeqAt.EqAt.none_bool b
  | int b=>obtain⟨t,rfl⟩:=rx;exact SeqAt.EqAt.none_int b t
  | str b=>obtain⟨t,rfl⟩:=rx;exact SeqAt.EqAt.none_str b t
  | _=>exact absurd (show false=true from fx) Bool.false_ne_true
 | bl a=>
  cases ry
  cases x with
  | non=>cases rx;exact SeqAt.EqAt.bool_none a
  | bl b=>cases rx;exact SeqAt.EqAt.bool_bool a b
  | int b=>obtain⟨t,rfl⟩:=rx;exact SeqAt.EqAt.bool_int a b t
  | str b=>obtain⟨t,rfl⟩:=rx;exact SeqAt.EqAt.bool_str a b t
  | _=>exact absurd (show false=true from fx) Bool.false_ne_true
 | int a=>
  obtain⟨t',rfl⟩:=ry
  cases x with
  | non=>cases rx;exact SeqAt.EqAt.int_none a t'
  | bl b=>cases rx;exact SeqAt.EqAt.int_bool a t' b
  | int b=>obtain⟨t,rfl⟩:=rx;exact SeqAt.EqAt.int_int a t' b t
  | str b=>obtain⟨t,rfl⟩:=rx;exact SeqAt.EqAt.int_str a t' b t
  | _=>exact absurd (show false=true from fx) Bool.false_ne_true
 | str a=>
  obtain⟨t',rfl⟩:=ry
  cases x with
  | non=>cases rx;exact SeqAt.EqAt.str_none a t'
  | bl b=>cases rx;exact SeqAt.EqAt.str_bool a t' b
  | int b=>obtain⟨t,rfl⟩:=rx;exact SeqAt.EqAt.str_int a t' b t
  | str b=>obtain⟨t,rfl⟩:=rx;exact SeqAt.EqAt.str_str a t' b t
  | _=>exact absurd (show false=true from fx) Bool.false_ne_true
 | _=>exact absurd (show false=true from fy) Bool.false_ne_true
def Gh (x:V) (u:Value):Bool:=match u with
 | .none=>Ae .non x
 | .bool b=>Ae (.bl b) x
 | .int i _=>Ae (.int i) x
 | .str z _=>Ae (.str z) x
 | _=>false
theorem Bd {x y:V} {u:Value} (r:RelV y u) (f:eX y=true):Gh x u=Ae y x:=by
 cases y with
 | non=>cases r;rfl
 | bl b=>cases r;rfl
 | int i=>obtain⟨t,rfl⟩:=r;rfl
 | str z=>obtain⟨t,rfl⟩:=r;rfl
 | _=>exact absurd (show false=true from f) Bool.false_ne_true
theorem rD {x:V}:∀ {xs:List V} {us:List Value},Vals xs us->xs.all eX=true->us.any (Gh x)=xs.any fun y=>Ae y x
 | _,_,.nil,_=>rfl
 | y::xs,u::us,.cons r t,f=>by
  rw[List.all_cons,Bool.and_eq_true]at f;rw[List.any_cons,List.any_cons,Bd r f.1,rD t f.2]
theorem nE {A:Around} {s:Shared} {x:V} {v:Value} (rx:RelV x v) (fx:eX x=true):∀ {xs:List V} {us:List Value},Vals xs us->xs.all eX=true->∀u∈us,SeqAt.EqAt A s u v (Gh x u)
 | _,_,.nil,_=>fun u hu=>by cases hu
 | y::xs,u::us,.cons r t,f=>fun u' hu=>by
  rw[List.all_cons,Bool.and_eq_true]at f;rcases List.mem_cons.mp hu with rfl | hu
  ·rw[Bd r f.1];exact rC r rx f.1 fx
  ·exact nE rx fx t f.2 u' hu
def oW (x:V) (xs:List V):Bool:=xs.any fun y=>Ae y x
def Sx (K:W.Frag) (neg:Bool):R2:=fun x y H Q=>∃p xs,y=.ref p/\(SqL K H p xs∨SqT K H p xs)/\eX x=true/\xs.all eX=true/\Q (.bl (if neg then !oW x xs else oW x xs)) H
theorem yX:OpR X (compareOp .In) (Sx X.K false):=by
 intro pins s σ H x y v u Q I rx ry h;obtain⟨p,xs,rfl,hq,fx,fs,q⟩:=h
 cases ry
 rcases hq with hq | hq
 ·obtain⟨its,r,pl,hz⟩:=I.list hq
  refine SeqAt.in_listAt (Gh x) pl.isList (fun w hw=>nE rx fx r fs w (by simpa using hw)) ⟨.bl _,H,I,rfl,?_⟩
  rw[show its.toArray.any (Gh x)=its.any (Gh x) by simp,rD r fs]
  exact q
 ·obtain⟨its,r,pl,hz⟩:=I.tuple hq
  refine SeqAt.in_tupleAt (Gh x) pl (fun w hw=>nE rx fx r fs w (by simpa using hw)) ⟨.bl _,H,I,rfl,?_⟩
  rw[show its.toArray.any (Gh x)=its.any (Gh x) by simp,rD r fs]
  exact q
theorem rE:CallR X (.builtin "len") (fun xs H Q=>∃p ys,xs=[.ref p]/\(SqL X.K H p ys∨SqT X.K H p ys)/\Q (.int ys.length) H):=by
 intro pins s σ H xs us Q I r h;obtain⟨p,ys,rfl,hq,q⟩:=h
 obtain⟨u,rfl,rx⟩:=iZ r
 cases rx
 have hn:=kK
 rcases hq with hq | hq
 ·obtain⟨its,r',pl,hz⟩:=I.list hq
  have hlen:=r'.length
  exact Calls.call_len_list pl.isList (by simp only [dM] <;> omega) ⟨.int ys.length,H,I.tok _,⟨s.toks+1,by rw[dM,hlen]⟩,q⟩
 ·obtain⟨its,r',pl,hz⟩:=I.tuple hq
  have hlen:=r'.length
  exact len_tuple pl (by simp only [dM] <;> omega) ⟨.int ys.length,H,I.tok _,⟨s.toks+1,by rw[dM,hlen]⟩,q⟩
theorem rF:CallR X (.builtin "len") (fun xs H Q=>∃z,xs=[.str z]/\z.length<=sizeLine/\Q (.int z.length) H):=by
 intro pins s σ H xs us Q I r h;obtain⟨z,rfl,hz,q⟩:=h
 obtain⟨u,rfl,t,rfl⟩:=iZ r
 have hn:=kK
 exact len_str Zo ⟨.int z.length,H,I.tok _,⟨_,rfl⟩,q⟩
theorem rG:CallR X (.type "list") (fun xs H Q=>∃p ys,xs=[.ref p]/\(SqL X.K H p ys∨SqT X.K H p ys)/\∀l,H l=none->Q (.ref l) (aI H l (.lst ys))):=by
 intro pins s σ H xs us Q I r h;obtain⟨p,ys,rfl,hq,q⟩:=h
 obtain⟨u,rfl,rx⟩:=iZ r
 cases rx
 have fin:∀(its:List Value),Vals ys its->ys.length<=sizeLine->∀(h':Heap) (c':Nat),(∀b o',s.heap.get? b=some o'->h'.get? b=some o') →
   h'.get? s.heap.objs.size=some {cls:=.type "list",dict:=none,data:=.seq its.toArray c',slots:=#[] }->EP X pins σ Q (.ref s.heap.objs.size) {s with heap:=h' }:=fun its r' hz h' c' kp e=>
  ⟨.ref s.heap.objs.size,_,I.laid (t':=s.toks) kp (bC _) (show ObjOk X.prog X.w _ h' _ (.lst ys) from⟨hz,its,c',r',e⟩),rfl,q _ (I.hok.fresh (bC _))⟩
 rcases hq with hq | hq
 ·obtain⟨its,r',pl,hz⟩:=I.list hq
  have hlen:=r'.length
  obtain⟨o,ho,hc,n,hd⟩:=pl.isList
  exact call_list_seq p (.inl rfl) ho hc hd (fun h' c' kp e=>fin its r' hz h' c' kp e) (by simp only [dM] <;> omega)
 ·obtain⟨its,r',pl,hz⟩:=I.tuple hq
  have hlen:=r'.length
  obtain⟨o,ho,hc,n,hd⟩:=pl
  exact call_list_seq p (.inr rfl) ho hc hd (fun h' c' kp e=>fin its r' hz h' c' kp e) (by simp only [dM] <;> omega)
def Ux (K:W.Frag) (T:String) (x:V) (H:Hp):Prop:=match x with
 | .str _=>T="str"
 | .int _=>T="int"
 | .ref p=>(T="list"/\∃xs,SqL K H p xs)∨(T="tuple"/\∃o,K.lookup p=some o/\o.cls=.type "tuple"/\o.dict=none)∨
   (T="dict"/\((∃kvs,H p=some (.dK kvs))∨∃kvs,H p=some (.dT kvs)))∨(T="set"/\∃S n,H p=some (.set S n))
 | _=>False
theorem Ml {pins:List (Addr × Obj)} {σ:St} {H:Hp} {s:Shared} {T:String} {x:V} {v:Value} (I:Inv X pins σ H s) (r:RelV x v) (ty:Ux X.K T x H) :
  s.TypeIs v T/\∀a,v=.ref a->∃ob,s.heap.get? a=some ob/\ob.dict=none:=by
 cases x with
 | str z=>
  obtain⟨t,rfl⟩:=r
  cases (show T="str" from ty)
  exact⟨typeIs_str s z t,fun _ e=>nomatch e⟩
 | int i=>
  obtain⟨t,rfl⟩:=r
  cases (show T="int" from ty)
  exact⟨typeIs_int s i t,fun _ e=>nomatch e⟩
 | ref p=>
  cases r
  rcases ty with⟨rfl,xs,hq⟩ | ⟨rfl,o,hk,hc,hd⟩ | ⟨rfl,hk⟩ | ⟨rfl,S,n,hk⟩
  ·obtain⟨its,_,pl,_⟩:=I.list hq
   refine⟨pl.isList.typeIs,fun a e=>?_⟩
   cases e
   obtain⟨o,n,e,c,hd,_⟩:=pl
   exact⟨o,e,hd⟩
  ·refine⟨⟨o,I.kIn p o hk,hc⟩,fun a e=>?_⟩
   cases e
   exact⟨o,I.kIn _ o hk,hd⟩
  ·have z:∃o,s.heap.get? p=some o/\o.ExactDict:=by
    rcases hk with⟨kvs,hk⟩ | ⟨kvs,hk⟩
    ·obtain⟨_,_,_,_,o,_,_,e,ex,_⟩:=I.hok p _ hk
     exact⟨o,e,ex⟩
    ·obtain⟨_,_,_,_,o,_,_,e,ex,_⟩:=I.hok p _ hk
     exact⟨o,e,ex⟩
   obtain⟨o,e,ex⟩:=z
   refine⟨⟨o,e,ex.1⟩,fun a e2=>?_⟩
   cases e2
   exact⟨o,e,ex.2.1⟩
  ·obtain⟨o,_,_,_,e,ex,_⟩:=I.hok p _ hk
   refine⟨⟨o,e,ex.1⟩,fun a e2=>?_⟩
   cases e2
   exact⟨o,e,ex.2.1⟩
 | _=>exact False.elim ty
def Sy (K:W.Frag) (T:String) (r:V->List V->Hp->VK->Prop) (to:TE) (t:TA):TE:=fun σ H Q=>to σ H fun x H1=>Ux K T x H1/\t σ H1 fun xs H2=>r x xs H2 Q
variable {o e:Expr} {es:List Expr} {to:TE} {t:TA} {name:Str} {apos cpos:Pos} {T id:String} {r:V->List V->Hp->VK->Prop}
theorem Qn (pa:PlainAttrs T) (slot:Slot T name id) (hty:typeOf (.builtin id)=pure (.type "method_descriptor")) (hm:Ql X id r) (ho:PE X o to) (ha:PA X (e::es) t)
  (hbase:attributeBase o name X.env (eval o X.env)=eval o X.env:=by rfl)
  (hfew:((backTo cpos (starEach (e::es) X.env)).all (fun x=>!x.1)&&(backToKw cpos (keywordEach [] X.env)).all (fun x=>x.1.isSome)
   && decide ((e::es).length+([]:List Keyword).length+(if ([]:List Keyword).isEmpty then 0 else 1)<30))=true:=by rfl)
  (hline:(apos.endLine == cpos.line)=true:=by rfl) (hs:starEach (e::es) X.env=(false,eval e X.env)::starEach es X.env:=by rfl) (hplain:(backTo cpos (starEach es X.env)).any (·.1)=false:=by rfl) :
  PE X (.Call (.Attribute o name apos) (e::es) [] cpos) (Sy X.K T r to t):=by
 intro pins s σ H Q I h;refine wpAny_Call_method_late hbase hfew hline rfl (bK (ho pins s σ H _ I h) fun v s1 ⟨x,H1,I1,r1,ty,q1⟩=>?_)
 obtain⟨h1,h2⟩:=Ml I1 r1 ty
 refine⟨T,id,pa,slot,hty,h1,h2,?_⟩
 have hA:=ha cpos pins s1 σ H1 _ I1 q1
 rw[hs]at hA ⊢;refine Calls.callWith_builtin (by show(false||(backTo cpos (starEach es X.env)).any (·.1))=false;rw[hplain] <;> rfl) (Calls.evalArgs_plain ?_)
 exact bK hA fun us s2 ⟨vs,H2,I2,r2,q2⟩=>hm pins s2 σ H2 x vs v us Q I2 r1 r2 q2
/- xs.append(e),list.index on a module's tuple .. are Ql facts of 06m -/
end
end L2
namespace L2
open PySem PySem.Spec PyProof.Rows
def Qo (X:Cx) (id:String) (r:V->List V->Hp->VK->Prop):Prop:=
 ∀(pins:List (Addr × Obj)) (s:Shared) (σ:St) (H:Hp) (x:V) (xs:List V) (v:Value) (us:List Value) (Q:VK),Inv X pins σ H s->RelV x v->Vals xs us->r x xs H Q →
  wpAny (model X.prog X.w) X.A (call (.builtin id) (v::us)) (EP X pins σ Q) X.xe s
theorem Vals.one:∀ {x:V} {us:List Value},Vals [x] us->∃u,us=[u]/\RelV x u
 | _,_,.cons r .nil=>⟨_,rfl,r⟩
theorem Vals.two:∀ {x y:V} {us:List Value},Vals [x,y] us->∃u v,us=[u,v]/\RelV x u/\RelV y v
 | _,_,_,.cons r (.cons q .nil)=>⟨_,_,rfl,r,q⟩
theorem Vals.eraseIdx:∀ {xs:List V} {us:List Value} (i:Nat),Vals xs us->Vals (xs.eraseIdx i) (us.eraseIdx i)
 | _,_,_,.nil=>.nil
 | _,_,0,.cons _ t=>t
 | _,_,i+1,.cons r t=>.cons r (Vals.eraseIdx i t)
theorem kM {α:Type}:∀(l:List α) (i:Nat),(l.eraseIdx i).length<=l.length
 | [],_=>bC _
 | _::_,0=>Nat.le_succ _
 | _::r,i+1=>Nat.succ_le_succ (kM r i)
section
variable {X:Cx} {pins:List (Addr × Obj)} {σ:St} {H:Hp} {s:Shared} {l b:Addr} {xs ys zs:List V}
theorem Inv.lset {its its':List Value} {n:Nat} {f:Array Value->Array Value} {t':Nat} (I:Inv X pins σ H s) (hH:H l=some (.lst xs))
  (e:s.heap.get? l=some {cls:=.type "list",data:=.seq its.toArray n }) (hf:f its.toArray=its'.toArray) (hv:Vals ys its') (hz:ys.length<=sizeLine) :
  Inv X pins σ (aI H l (.lst ys)) {s with heap:=s.heap.update l (Obj.mapSeq f),toks:=t' }:=by
 have q:=PySem.IsL.update e f
 rw[hf]at q;refine I.write (x:=l) (e:=l) (by rw[hH];exact trivial) (.inl rfl) (fun b' u hb hu=>(Heap.get?_update_other s.heap (Obj.mapSeq f) (Ne.symm hb)).trans hu) ⟨_,q⟩ ?_
 exact⟨hz,its',_,hv,q⟩
theorem Inv.lnew {its:List Value} {t':Nat} (I:Inv X pins σ H s) (hv:Vals ys its) (hz:ys.length<=sizeLine) :
  Inv X pins σ (aI H s.heap.objs.size (.lst ys)) {s with heap:=s.heap.push {cls:=.type "list",data:=.seq its.toArray },toks:=t' }:=
 I.laid (fun _ _ q=>hJ _ q) (bC _) ⟨hz,its,0,hv,Heap.get?_push_size _ rfl⟩
theorem Inv.fresh (I:Inv X pins σ H s):H s.heap.objs.size=none:=I.hok.fresh (bC _)
theorem Inv.lstM (I:Inv X pins σ H s) (hH:H l=some (.lst xs)):xs.length<=sizeLine/\∃(its:List Value) (n:Nat),Vals xs its/\xs.length=its.length/\s.heap.get? l=some {cls:=.type "list",data:=.seq its.toArray n }:=by
 obtain⟨z,its,n,r,e⟩:=I.hok l _ hH
 exact⟨z,its,n,r,r.length,e⟩
theorem Be {n:Nat} (h:n<=sizeLine):Builtin.List.listTooLong n=false:=by
 unfold Builtin.List.listTooLong;exact decide_eq_false Zo
end
section
variable {X:Cx}
def xC:V->List V->Hp->VK->Prop:=fun x vs H Q=>∃l xs y,x=.ref l/\vs=[y]/\H l=some (.lst xs)/\xs.length<sizeLine/\Q .non (aI H l (.lst (xs++[y])))
theorem yY:Qo X "list.append" xC:=by
 intro pins s σ H x vs v us Q I rx rv h;obtain⟨l,xs,y,rfl,rfl,hH,hz,q⟩:=h
 cases rx
 obtain⟨u,rfl,ru⟩:=rv.one
 obtain⟨z,its,n,r,hl,e⟩:=I.lstM hH
 refine call_meets F.slot_list_append ⟨_,e,rfl⟩ F.entry_list_append (F.args_list_append_2 _ _) (PySem.list_append l its.toArray n u (by rw[dM];omega)) ⟨e,?_⟩
 refine⟨.non,_,I.lset (its':=its++[u]) hH e Zs (r.append (.cons ru .nil)) ?_,rfl,q⟩
 rw[pN,List.length_singleton];omega
def Gi:V->List V->Hp->VK->Prop:=fun x vs H Q=>∃l b xs zs,x=.ref l/\vs=[.ref b]/\H l=some (.lst xs)/\H b=some (.lst zs)/\xs.length+zs.length<=sizeLine/\Q .non (aI H l (.lst (xs++zs)))
theorem Pg:Qo X "list.extend" Gi:=by
 intro pins s σ H x vs v us Q I rx rv h;obtain⟨l,b,xs,zs,rfl,rfl,hH,hB,hz,q⟩:=h
 cases rx
 obtain⟨u,rfl,ru⟩:=rv.one
 cases ru
 obtain⟨z,its,n,r,hl,e⟩:=I.lstM hH
 obtain⟨z2,its2,n2,r2,hl2,e2⟩:=I.lstM hB
 have hsz:its.toArray.size+its2.toArray.size<=sizeLine:=by rw[dM,dM];omega
 have hlong:¬ (!its.toArray.isEmpty&&Builtin.List.listTooLong (its.toArray.size+its2.toArray.size))=true:=by
  rw[Be hsz,Bool.and_false];exact Bool.false_ne_true
 refine call_meets F.slot_list_extend ⟨_,e,rfl⟩ F.entry_list_extend (F.args_list_extend_2 _ _)
  (AutoSeq1.list_extend_list_list_0 l its.toArray n b its2.toArray n2 hlong (by rw[dM];omega) Zo) ⟨e,e2,?_⟩
 refine⟨.non,_,I.lset (its':=its++its2) hH e Zs (r.append r2) ?_,rfl,q⟩
 rw[pN];omega
def Bf:V->List V->Hp->VK->Prop:=fun x vs H Q=>∃l xs i k y,x=.ref l/\vs=[.int i]/\H l=some (.lst xs)/\-(2 ^ 63)<=i/\i<2 ^ 63/\seqIndex? i xs.length=some k/\xs[k]?=some y/\Q y (aI H l (.lst (xs.eraseIdx k)))
theorem Bg:Qo X "list.pop" Bf:=by
 intro pins s σ H x vs v us Q I rx rv h;obtain⟨l,xs,i,k,y,rfl,rfl,hH,h1,h2,hk,hy,q⟩:=h
 cases rx
 obtain⟨u,rfl,ru⟩:=rv.one
 obtain⟨t,rfl⟩:=ru
 obtain⟨z,its,n,r,hl,e⟩:=I.lstM hH
 obtain⟨w,hw,rw'⟩:=r.get hy
 refine call_meets F.slot_list_pop ⟨_,e,rfl⟩ F.entry_list_pop (F.args_list_pop_2 _ _)
  (MeetsSeq.list_pop_at l its.toArray n i t k w (fitsIndex_both h1 h2) (by rw[dM,<- hl];exact hk) (by rw[<- Array.getElem?_toList];exact hw) (by rw[dM];omega)) ⟨e,?_⟩
 refine⟨y,_,I.lset (its':=its.eraseIdx k) hH e ?_ (r.eraseIdx k) ?_,rw',q⟩
 ·show its.toArray.eraseIdxIfInBounds k=(its.eraseIdx k).toArray
  rw[List.eraseIdxIfInBounds_toArray]
 ·have:=kM xs k
  omega
def Ts:R2:=fun x y H Q=>∃l b xs zs,x=.ref l/\y=.ref b/\H l=some (.lst xs)/\H b=some (.lst zs)/\xs.length+zs.length<=sizeLine/\∀p,H p=none->Q (.ref p) (aI H p (.lst (xs++zs)))
theorem Mm:OpR X (binaryOp .Add) Ts:=by
 intro pins s σ H x y v u Q I rx ry h;obtain⟨l,b,xs,zs,rfl,rfl,hH,hB,hz,q⟩:=h
 cases rx
 cases ry
 obtain⟨z,its,n,r,hl,e⟩:=I.lstM hH
 obtain⟨z2,its2,n2,r2,hl2,e2⟩:=I.lstM hB
 refine PySem.P.add_list e e2 ?_ (by rw[dM,dM];omega)
 have ea:its.toArray++its2.toArray=(its++its2).toArray:=by simp
 rw[ea];exact⟨.ref _,_,I.lnew (t':=s.toks) (r.append r2) (by rw[pN];omega),rfl,q _ I.fresh⟩
end
end L2
namespace L2
open PySem PySem.Spec PyProof.Rows
section
variable {κ:Type} [DecidableEq κ]
def bN (kvs:List (κ × V)) (k:κ):Option V:=(kvs.find? fun kv=>decide (kv.1=k)).map (·.2)
def cK (kvs:List (κ × V)) (k:κ) (v:V):List (κ × V):=
 if (kvs.any fun kv=>decide (kv.1=k))=true then kvs.map (fun kv=>if kv.1=k then (kv.1,v) else kv) else kvs++[(k,v)]
theorem bW {p:κ × V} {r:List (κ × V)} {k:κ} (e:p.1=k):bN (p::r) k=some p.2:=by simp [bN,List.find?_cons,e]
theorem bX {p:κ × V} {r:List (κ × V)} {k:κ} (e:¬ p.1=k):bN (p::r) k=bN r k:=by simp [bN,List.find?_cons,e]
theorem eL (k:κ):∀kvs:List (κ × V),(kvs.any fun kv=>decide (kv.1=k))=(bN kvs k).isSome
 | []=>rfl
 | p::r=>by
  rw[List.any_cons];by_cases e:p.1=k
  ·simp only [bW e,decide_eq_true e,Bool.true_or,Option.isSome_some]
  ·rw[bX e,decide_eq_false e,Bool.false_or];exact eL k r
theorem sY (k j:κ) (y:V):∀kvs:List (κ × V),bN (kvs.map fun kv=>if kv.1=k then (kv.1,y) else kv) j=(bN kvs j).map fun x=>if j=k then y else x
 | []=>rfl
 | p::r=>by
  have ih:=sY k j y r
  rw[List.map_cons];by_cases h:p.1=k
  ·rw[if_pos h];by_cases e:p.1=j
   ·rw[bW (p:=(p.1,y)) e,bW e,Option.map_some,if_pos (e.symm.trans h)]
   ·rw[bX (p:=(p.1,y)) e,bX e,ih]
  ·rw[if_neg h];by_cases e:p.1=j
   ·rw[bW (p:=p) e,bW e,Option.map_some,if_neg (fun z=>h (e.trans z))]
   ·rw[bX (p:=p) e,bX e,ih]
theorem pW (k j:κ) (y:V):∀kvs:List (κ × V),bN kvs k=none->bN (kvs++[(k,y)]) j=if j=k then some y else bN kvs j
 | [],_=>by
  by_cases e:k=j
  ·rw[if_pos e.symm];exact bW (p:=(k,y)) e
  ·rw[if_neg (fun z=>e z.symm)];exact bX (p:=(k,y)) e
 | p::r,hn=>by
  rw[List.cons_append];have hk:¬ p.1=k:=fun z=>by rw[bW z]at hn;cases hn
  rw[bX hk]at hn;have ih:=pW k j y r hn
  by_cases e:p.1=j
  ·rw[bW e,bW e,if_neg (fun z=>hk (e.trans z))]
  ·rw[bX e,bX e,ih]
theorem fN (kvs:List (κ × V)) (k j:κ) (y:V):bN (cK kvs k y) j=if j=k then some y else bN kvs j:=by
 unfold cK;by_cases a:(kvs.any fun kv=>decide (kv.1=k))=true
 ·rw[if_pos a,sY];rw[eL]at a;by_cases e:j=k
  ·obtain⟨x,hx⟩:=Option.isSome_iff_exists.mp a
   rw[if_pos e,e,hx,Option.map_some,if_pos rfl]
  ·rw[if_neg e];cases bN kvs j with
   | none=>rfl
   | some x=>rw[Option.map_some,if_neg e]
 ·rw[if_neg a];refine pW k j y kvs ?_
  rw[eL]at a;cases q:bN kvs k with
  | none=>rfl
  | some x=>rw[q]at a;exact(a rfl).elim
theorem cD (kvs:List (κ × V)) (k:κ) (v:V):(cK kvs k v).length<=kvs.length+1:=by
 unfold cK;split
 ·rw[aR];omega
 ·rw[pN,sQ,List.length_nil];omega
theorem tD {kvs:List (κ × V)} {k:κ} (v:V) (h:bN kvs k=none):cK kvs k v=kvs++[(k,v)]:=by
 unfold cK;rw[eL,h];exact if_neg Zd
theorem RelO.isSome_eq {o:Option V} {u:Option Value} (r:RelO o u):o.isSome=u.isSome:=by
 cases o with
 | none=>cases u with
  | none=>rfl
  | some _=>exact(show False from r).elim
 | some _=>cases u with
  | none=>exact(show False from r).elim
  | some _=>rfl
theorem RelO.getD {o:Option V} {u:Option Value} {d:V} {d':Value} (r:RelO o u) (rd:RelV d d'):RelV (o.getD d) (u.getD d'):=by
 cases o with
 | none=>cases u with
  | none=>exact rd
  | some _=>exact(show False from r).elim
 | some _=>cases u with
  | none=>exact(show False from r).elim
  | some _=>exact r
theorem KV.val {kvs:List (κ × V)} {vs:List (κ × Value)} (r:KV kvs vs) (k:κ):RelO (bN kvs k) (valueAt vs k):=by
 unfold KV at r;induction r with
 | nil=>exact True.intro
 | @cons p q ps qs h t ih=>
  obtain⟨h1,h2⟩:=h
  by_cases e:p.1=k
  ·have e':q.1=k:=h1.symm.trans e
   have b:valueAt (q::qs) k=some q.2:=by simp [valueAt,List.find?_cons,e']
   rw[bW e,b];exact h2
  ·have e':¬ q.1=k:=fun z=>e (h1.trans z)
   have b:valueAt (q::qs) k=valueAt qs k:=by simp [valueAt,List.find?_cons,e']
   rw[bX e,b];exact ih
theorem KV.any {kvs:List (κ × V)} {vs:List (κ × Value)} (r:KV kvs vs) (k:κ):(kvs.any fun kv=>decide (kv.1=k))=vs.any fun kv=>decide (kv.1=k):=by
 unfold KV at r;induction r with
 | nil=>rfl
 | cons h t ih=>rw[List.any_cons,List.any_cons,ih,h.1]
theorem KV.repl {kvs:List (κ × V)} {vs:List (κ × Value)} (r:KV kvs vs) (k:κ) {y:V} {u:Value} (ry:RelV y u) :
  KV (kvs.map fun kv=>if kv.1=k then (kv.1,y) else kv) (vs.map fun kv=>if kv.1=k then (kv.1,u) else kv):=by
 unfold KV at r ⊢
 induction r with
 | nil=>exact .nil
 | @cons p q ps qs h t ih=>
  rw[List.map_cons,List.map_cons];refine .cons ?_ ih
  obtain⟨h1,h2⟩:=h
  by_cases e:p.1=k
  ·rw[if_pos e,if_pos (h1.symm.trans e)];exact⟨h1,ry⟩
  ·rw[if_neg e,if_neg (fun z=>e (h1.trans z))];exact⟨h1,h2⟩
theorem KV.put {kvs:List (κ × V)} {vs:List (κ × Value)} (r:KV kvs vs) (k:κ) {y:V} {u:Value} (ry:RelV y u):KV (cK kvs k y) (stored vs k u):=by
 unfold cK stored;rw[r.any k];by_cases e:(vs.any fun kv=>decide (kv.1=k))=true
 ·rw[if_pos e,if_pos e];exact r.repl k ry
 ·rw[if_neg e,if_neg e];exact Paired.snoc r ⟨rfl,ry⟩
theorem KV.keys {kvs:List (κ × V)} {vs:List (κ × Value)} (r:KV kvs vs):kvs.map (·.1)=vs.map (·.1):=by
 unfold KV at r;induction r with
 | nil=>rfl
 | cons h t ih=>rw[List.map_cons,List.map_cons,ih,h.1]
theorem KV.length {kvs:List (κ × V)} {vs:List (κ × Value)} (r:KV kvs vs):kvs.length=vs.length:=Paired.length r
end
theorem lP {P:Program} {w:World} {k:bB} {u:Value} (r:RelV (kV k) u):(aY P w).is k u=true:=by
 cases k with
 | inl i=>obtain⟨t,e⟩:=(show ∃t,u=Value.int i t from r);subst e;exact sU P w i t
 | inr x=>obtain⟨t,e⟩:=(show ∃t,u=Value.str x t from r);subst e;exact sV P w x t
theorem pX {P:Program} {w:World}:∀ {ks:List bB} {us:List Value},Vals (ks.map kV) us->ItemsAre (aY P w) ks us
 | [],_,r=>by rw[List.map_nil]at r;cases r;exact .nil
 | k::ks,_,r=>by
  rw[List.map_cons]at r;cases r with
  | cons h t=>exact .cons (lP h) (pX t)
abbrev KT (H:Hp):List (List bB × V)->List (List bB × Addr × Value)->Prop:=Paired fun p q=>p.1=q.1/\H q.2.1=some (.tup (p.1.map kV))/\RelV p.2 q.2.2
theorem KT.val {H:Hp} {kvs:List (List bB × V)} {xs:List (List bB × Addr × Value)} (r:KT H kvs xs) (k:List bB):RelO (bN kvs k) ((atKey xs k).map (·.2)):=by
 induction r with
 | nil=>exact True.intro
 | @cons p q ps qs h t ih=>
  obtain⟨h1,_,h2⟩:=h
  by_cases e:p.1=k
  ·have e':q.1=k:=h1.symm.trans e
   have b:atKey (q::qs) k=some q.2:=by simp [atKey,List.find?_cons,e']
   rw[bW e,b];exact h2
  ·have e':¬ q.1=k:=fun z=>e (h1.trans z)
   have b:atKey (q::qs) k=atKey qs k:=by simp [atKey,List.find?_cons,e']
   rw[bX e,b];exact ih
theorem KT.repl {H:Hp} {kvs:List (List bB × V)} {xs:List (List bB × Addr × Value)} (r:KT H kvs xs) (k:List bB) {y:V} {u:Value} (ry:RelV y u) :
  KT H (kvs.map fun kv=>if kv.1=k then (kv.1,y) else kv) (xs.map (putAt k u)):=by
 induction r with
 | nil=>exact .nil
 | @cons p q ps qs h t ih=>
  rw[List.map_cons,List.map_cons];refine .cons ?_ ih
  obtain⟨h1,h2,h3⟩:=h
  unfold putAt;by_cases e:p.1=k
  ·rw[if_pos e,if_pos (h1.symm.trans e)];exact⟨h1,h2,ry⟩
  ·rw[if_neg e,if_neg (fun z=>e (h1.trans z))];exact⟨h1,h2,h3⟩
theorem KT.put {H:Hp} {kvs:List (List bB × V)} {xs:List (List bB × Addr × Value)} (r:KT H kvs xs) (k:List bB) {b:Addr} {y:V} {u:Value} (hb:H b=some (.tup (k.map kV))) (ry:RelV y u) :
  KT H (cK kvs k y) (storedH xs k b u):=by
 have e:(kvs.any fun kv=>decide (kv.1=k))=(atKey xs k).isSome:=by
  rw[eL,(r.val k).isSome_eq,Option.isSome_map]
 unfold cK storedH;rw[e];by_cases q:(atKey xs k).isSome=true
 ·rw[if_pos q,if_pos q];exact r.repl k ry
 ·rw[if_neg q,if_neg q];exact Paired.snoc r ⟨rfl,hb,ry⟩
theorem KT.keeps {H H':Hp} {kvs:List (List bB × V)} {xs:List (List bB × Addr × Value)} (r:KT H kvs xs) (ht:∀b ys,H b=some (.tup ys)->H' b=some (.tup ys)):KT H' kvs xs:=
 Paired.mapP r fun _ _ z=>⟨z.1,ht _ _ z.2.1,z.2.2⟩
section
variable {P:Program} {w:World} {H:Hp} {h:Heap} {a:Addr}
theorem Jm {u:HO} (ok:HOk P w H h) (e:Rd H a u):ObjOk P w H h a u:=e.ok ok
theorem lQ {kvs:List (bB × V)} (ok:HOk P w H h) (e:Rd H a (.dK kvs)):kvs.length<=sizeLine/\(a == sysModules)=false/\∃vs,KV kvs vs/\h.DictOf (aY P w) a vs:=
 show ObjOk P w H h a (.dK kvs) from Jm ok e
theorem Bh {kvs:List (bB × V)} (ok:HOk P w H h) (e:H a=some (.dK kvs)):kvs.length<=sizeLine/\(a == sysModules)=false/\∃vs,KV kvs vs/\h.DictOf (aY P w) a vs:=lQ ok (.inl e)
theorem kN {ks:List bB} (ok:HOk P w H h) (e:H a=some (.tup (ks.map kV))):(tupleKind (aY P w)).is h ks a:=by
 obtain⟨_,its,r,o,h1,h2,n,h3⟩:=(show ObjOk P w H h a (.tup (ks.map kV)) from ok a _ e)
 exact⟨o,its.toArray,n,h1,h2,h3,by simpa using pX r⟩
theorem nF {kvs:List (List bB × V)} (ok:HOk P w H h) (e:Rd H a (.dT kvs)):kvs.length<=sizeLine/\(a == sysModules)=false ∧
  ∃xs,KT H kvs xs/\h.DictOfH (tupleKind (aY P w)) a xs:=by
 obtain⟨z,y,xs,r,o,es,ep,h1,h2,h3,h4,h5⟩:=(show ObjOk P w H h a (.dT kvs) from Jm ok e)
 refine⟨z,y,xs,r,o,es,ep,h1,h2,h3,h4,fun x hx=>?_,h5⟩
 have all:∀ {l:List (List bB × V)} {m:List (List bB × Addr × Value)},KT H l m->∀x∈m,(tupleKind (aY P w)).is h x.1 x.2.1:=by
  intro l m q;induction q with
  | nil=>intro x hx;exact nomatch hx
  | @cons p q ps qs hq t ih=>
   intro x hx;rcases List.mem_cons.mp hx with e | hx
   ·subst e;exact kN ok (by rw[<- hq.1];exact hq.2.1)
   ·exact ih x hx
 exact all r x hx
theorem Qp {kvs:List (List bB × V)} (ok:HOk P w H h) (e:H a=some (.dT kvs)):kvs.length<=sizeLine/\(a == sysModules)=false ∧
  ∃xs,KT H kvs xs/\h.DictOfH (tupleKind (aY P w)) a xs:=nF ok (.inl e)
end
def DGet (H:Hp) (a:Addr) (y:V) (r:Option V):Prop:=
 (∃kvs k,Rd H a (.dK kvs)/\y=kV k/\r=bN kvs k)∨∃kvs k b,Rd H a (.dT kvs)/\y=.ref b/\H b=some (.tup (k.map kV))/\r=bN kvs k
def DPut (H:Hp) (a:Addr) (y v:V) (H':Hp):Prop:=
 (∃kvs k,H a=some (.dK kvs)/\y=kV k/\kvs.length<sizeLine/\H'=aI H a (.dK (cK kvs k v)))∨
 ∃kvs k b,H a=some (.dT kvs)/\y=.ref b/\H b=some (.tup (k.map kV))/\kvs.length<sizeLine/\H'=aI H a (.dT (cK kvs k v))
theorem DGet.k {H:Hp} {a:Addr} {kvs:List (bB × V)} {k:bB} (e:H a=some (.dK kvs)):DGet H a (kV k) (bN kvs k):=.inl ⟨kvs,k,.inl e,rfl,rfl⟩
theorem DPut.k {H:Hp} {a:Addr} {kvs:List (bB × V)} {k:bB} {v:V} (e:H a=some (.dK kvs)) (hl:kvs.length<sizeLine):DPut H a (kV k) v (aI H a (.dK (cK kvs k v))):=.inl ⟨kvs,k,e,rfl,hl,rfl⟩
section
variable {X:Cx} {pins:List (Addr × Obj)} {σ:St} {H:Hp} {s:Shared} {a:Addr} {y v:V} {u r:Value} {o:Option V} {A:Around} {E:Value->Shared->Prop}
theorem Inv.big (I:Inv X pins σ H s):sysModules<s.heap.objs.size:=by
 have h:mainGlobals<s.heap.objs.size:=(I.mod.glob.keeps I.bk).lt
 exact Nat.lt_trans Zd h
theorem yZ {Q:Value->Shared->Prop} (hu:A.units+1<cLine) (I:Inv X pins σ H s) (g:DGet H a y (some v)) (ry:RelV y u) (h:∀w' s',Inv X pins σ H s'->RelV v w'->Q w' s') :
  wpAny (model X.prog X.w) A (getItem (.ref a) u) Q E s:=by
 rcases g with⟨kvs,k,e,ey,l⟩ | ⟨kvs,k,b,e,ey,eb,l⟩
 ·subst ey;obtain⟨z,hd,vs,rel,dd⟩:=lQ I.hok e
  obtain⟨w',hw,rw'⟩:=RelO.some_of (v:=v) (o:=valueAt vs k) (by rw[l];exact rel.val k)
  exact wpAny_getItem_of (lP ry) dd.mapOf hw (h w' _ (I.tok _) rw')
 ·subst ey;cases (show u=Value.ref b from ry)
  obtain⟨z,hd,xs,rel,dd⟩:=nF I.hok e
  obtain⟨w',hw,rw'⟩:=RelO.some_of (v:=v) (o:=(atKey xs k).map (·.2)) (by rw[l];exact rel.val k)
  obtain⟨p,hp,hp2⟩:=Option.map_eq_some_iff.mp hw
  refine wpAny_getItem_heap (tupleKind_room_in1 hu) (kN I.hok eb) dd hp ?_
  rw[hp2];exact h w' _ (I.tok _) rw'
theorem Tt {Q:Value->Shared->Prop} (hu:A.units+1<cLine) (I:Inv X pins σ H s) (g:DGet H a y o) (ry:RelV y u) (h:∀s',Inv X pins σ H s'->Q (.bool o.isSome) s') :
  wpAny (model X.prog X.w) A (compareOp .In u (.ref a)) Q E s:=by
 rcases g with⟨kvs,k,e,ey,l⟩ | ⟨kvs,k,b,e,ey,eb,l⟩
 ·subst ey;obtain⟨z,hd,vs,rel,dd⟩:=lQ I.hok e
  refine wpAny_in_of (lP ry) hd dd.mapOf ?_
  rw[<- (rel.val k).isSome_eq,<- l];exact h _ (I.tok _)
 ·subst ey;cases (show u=Value.ref b from ry)
  obtain⟨z,hd,xs,rel,dd⟩:=nF I.hok e
  refine wpAny_in_heap (tupleKind_room_in1 hu) (kN I.hok eb) hd dd ?_
  have q:=(rel.val k).isSome_eq
  rw[Option.isSome_map]at q;rw[<- q,<- l];exact h _ (I.tok _)
theorem Gj {Q:Value->Shared->Prop} (hu:A.units+1<cLine) (I:Inv X pins σ H s) (g:DGet H a y o) (ry:RelV y u) (h:∀s',Inv X pins σ H s'->Q (.bool (!o.isSome)) s') :
  wpAny (model X.prog X.w) A (compareOp .NotIn u (.ref a)) Q E s:=by
 rcases g with⟨kvs,k,e,ey,l⟩ | ⟨kvs,k,b,e,ey,eb,l⟩
 ·subst ey;obtain⟨z,hd,vs,rel,dd⟩:=lQ I.hok e
  refine wpAny_notIn_of (lP ry) hd dd.mapOf ?_
  rw[<- (rel.val k).isSome_eq,<- l];exact h _ (I.tok _)
 ·subst ey;cases (show u=Value.ref b from ry)
  obtain⟨z,hd,xs,rel,dd⟩:=nF I.hok e
  refine wpAny_notIn_heap (tupleKind_room_in1 hu) (kN I.hok eb) hd dd ?_
  have q:=(rel.val k).isSome_eq
  rw[Option.isSome_map]at q;rw[<- q,<- l];exact h _ (I.tok _)
theorem rH {h':Heap} {t':Nat} {ob:HO} (I:Inv X pins σ H s) (mu:Pl (H a)) (hs:Heap.SameBut a s.heap h') (he:∃q,h'.get? a=some q) (new:ObjOk X.prog X.w (aI H a ob) h' a ob) :
  Inv X pins σ (aI H a ob) {s with heap:=h',toks:=t' }:=
 I.write (x:=a) (e:=a) mu (.inl rfl) (fun b q hb z=>(hs.2 b hb).trans z) he new
theorem Bi {P:Program} {w:World} {H':Hp} {h':Heap} {kvs:List (bB × V)} {vs:List (bB × Value)} (z:kvs.length<=sizeLine) (hd:(a == sysModules)=false) (rel:KV kvs vs) (dd:h'.DictOf (aY P w) a vs) :
  ObjOk P w H' h' a (.dK kvs):=⟨z,hd,vs,rel,dd⟩
theorem zA {H':Hp} {Q:Unit->Shared->Prop} (hu:A.units+1<cLine) (I:Inv X pins σ H s) (g:DPut H a y v H') (ry:RelV y u) (rv:RelV v r) (h:∀s',Inv X pins σ H' s'->Q () s') :
  wpAny (model X.prog X.w) A (setItem (.ref a) u r) Q E s:=by
 rcases g with⟨kvs,k,e,ey,l,eH⟩ | ⟨kvs,k,b,e,ey,eb,l,eH⟩
 ·subst ey eH;obtain⟨z,hd,vs,rel,dd⟩:=Bh I.hok e
  have hz:vs.length<=sizeLine:=by rw[<- rel.length];exact z
  have hl:(cK kvs k v).length<=sizeLine:=by have:=cD kvs k v;omega
  refine wpAny_setItem_pairs (hsz:=hz) (lP ry) dd fun h' dd' hs=>h _ ?_
  have he:∃q,h'.get? a=some q:=let ⟨q,_,_,hq,_⟩:=dd';⟨q,hq⟩
  exact rH I (by rw[e];exact True.intro) hs he (Bi hl hd (rel.put k rv) dd')
 ·subst ey eH;cases (show u=Value.ref b from ry)
  obtain⟨z,hd,xs,rel,dd⟩:=Qp I.hok e
  have hz:xs.length<=sizeLine:=by rw[<- Paired.length rel];exact z
  have hl:(cK kvs k v).length<=sizeLine:=by have:=cD kvs k v;omega
  refine wpAny_setItem_heap (hsz:=hz) (tupleKind_room_in1 hu) (kN I.hok eb) dd fun h' dd' hs=>h _ ?_
  obtain⟨q,es,ep,hq,h2,h3,h4,_,h5⟩:=dd'
  refine rH I (by rw[e];exact True.intro) hs ⟨q,hq⟩ ⟨hl,hd,_,(rel.put k eb rv).keeps fun c ys ec=>?_,q,es,ep,hq,h2,h3,h4,h5⟩
  rw[aE (fM ec e (fun z=>nomatch z))]
  exact ec
end
def Mn (i:Expr):Prop:=∀ov iv,subscripted i false ov iv=operate [ov,iv] (getItem ov iv)
theorem Gk {prog:Program} {w:World} {A:Around} {E:Value->Shared->Prop} {s:Shared} {env:Env} {value slice:Expr} {pos:Pos} {T id:String} {Q:Value->Shared->Prop}
  (hl:typeLookup (.type T) "__getitem__"=pure (some (.builtin id))) (hs:Mn slice)
  (h:wpAny (model prog w) A (eval value env) (fun o s₁=>wpAny (model prog w) A (eval slice env) (fun i s₂=>s₂.TypeIs o T/\wpAny (model prog w) A (getItem o i) Q E s₂) E s₁) E s) :
  wpAny (model prog w) A (eval (.Subscript value slice pos) env) Q E s:=by
 refine Subscript_ (wpAny_mono h (fun o s₁ h₁=>wpAny_mono h₁ (fun i s₂ h₂=>?_) fun _ _ x=>x) fun _ _ x=>x)
 obtain⟨hT,h₂⟩:=h₂
 unfold subscriptTail;refine wpAny_bind ?_
 rw[getitemInPython_of_ne hT.not_modules];refine wpAny_bind (wpAny_specialOf hT hl ?_)
 have fin:wpAny (model prog w) A (subscripted slice false o i) (fun r s₃=>wpAny (model prog w) A (letTemporaryGo value o r >>= fun _=>pure r) Q E s₃) E s₂:=by
  rw[hs o i];exact wpAny_operating (wpAny_mono h₂ (fun r s₃ h₃=>wpAny_bind (wpAny_letTemporaryGo (wpAny_pure h₃))) fun _ _ x=>x)
 first
  | exact wpAny_pure (wpAny_bind fin)
  | exact wpAny_bind (wpAny_pure (wpAny_bind fin))
  | exact wpAny_bind fin
theorem tE {X:Cx} {pins:List (Addr × Obj)} {σ:St} {H:Hp} {s:Shared} {a:Addr} {y:V} {o:Option V} (I:Inv X pins σ H s) (g:DGet H a y o):s.TypeIs (.ref a) "dict":=by
 rcases g with⟨kvs,k,e,_,_⟩ | ⟨kvs,k,b,e,_,_,_⟩
 ·obtain⟨_,_,vs,_,dd⟩:=lQ I.hok e
  exact dd.typeIs
 ·obtain⟨_,_,xs,_,dd⟩:=nF I.hok e
  exact dd.typeIs
def Jn (td ty:TE):TE:=fun σ H Q=>td σ H fun x H1=>ty σ H1 fun y H2=>∃a v,x=.ref a/\DGet H2 a y (some v)/\Q v H2
section
variable {X:Cx} {o i e value:Expr} {pos pos' tpos:Pos} {td ty tv:TE}
theorem Gm (hu:X.A.units+1<cLine) (ho:PE X o td) (hi:PE X i ty) (hs:Mn i):PE X (.Subscript o i pos) (Jn td ty):=by
 intro pins s σ H Q I h;refine Gk PySem.F.slot_dict_getitem.lookup hs (bK (ho pins s σ H _ I h) fun u s1 ⟨x,H1,I1,rx,q1⟩=>bK (hi pins s1 σ H1 _ I1 q1) fun iv s2 ⟨y,H2,I2,ry,a,v,ex,g,q2⟩=>?_)
 subst ex;obtain rfl:u=Value.ref a:=rx
 exact⟨tE I2 g,yZ hu I2 g ry fun w' s3 I3 rw'=>⟨v,H2,I3,rw',q2⟩⟩
end
theorem tF {P:Program} {w:World} {H:Hp} (h:Heap) (hb:sysModules<h.objs.size):ObjOk P w H (h.push {cls:=.type "dict",data:=.dict #[] }) h.objs.size (.dK []):=
 ⟨Nat.zero_le _,beq_eq_false_iff_ne.mpr (Ne.symm (Nat.ne_of_lt hb)),[],.nil,Heap.DictOf.new h⟩
def Bj:TE:=fun _ H Q=>∀p,H p=none->Q (.ref p) (aI H p (.dK []))
section
variable {X:Cx} {pos:Pos}
theorem Bk:PE X (.Dict [] [] pos) Bj:=fun pins s σ H Q I h=>
 wpAny_Dict_empty ⟨.ref s.heap.objs.size,_,I.laid (a:=s.heap.objs.size) (o:=.dK []) (t':=s.toks) (fun _ _ q=>hJ _ q) (bC _) (tF s.heap I.big),rfl,h _ (I.hok.fresh (bC _))⟩
end
def vO:List (TE × TE)->St->Hp->(List (V × V)->Hp->Prop)->Prop
 | [],_,H,Q=>Q [] H
 | (tk,tv)::r,σ,H,Q=>tk σ H fun x H1=>tv σ H1 fun y H2=>vO r σ H2 fun ps H3=>Q ((x,y)::ps) H3
abbrev VV:List (V × V)->List (Value × Value)->Prop:=Paired fun p q=>RelV p.1 q.1/\RelV p.2 q.2
def Qq (X:Cx) (pos:Pos) (keys:List (Option Expr)) (values:List Expr) (trs:List (TE × TE)):Prop:=
 ∀(pins:List (Addr × Obj)) (s:Shared) (σ:St) (H:Hp) (Q:List (V × V)->Hp->Prop),Inv X pins σ H s->vO trs σ H Q →
  wpAny (model X.prog X.w) X.A (evalPairs (pairTrees keys values X.env pos)) (fun vs s'=>∃ps H',Inv X pins σ H' s'/\VV ps vs/\Q ps H') X.xe s
theorem Gn {X:Cx} {pos:Pos}:Qq X pos [] [] []:=fun pins s σ H Q I h=>pairTrees_nil_walk ⟨[],H,I,.nil,h⟩
theorem Bl {X:Cx} {pos:Pos} {k v:Expr} {ks:List (Option Expr)} {vs:List Expr} {tk tv:TE} {trs:List (TE × TE)} (hk:PE X k tk) (hv:PE X v tv) (hr:Qq X pos ks vs trs) :
  Qq X pos (some k::ks) (v::vs) ((tk,tv)::trs):=fun pins s σ H Q I h=>
 pairTrees_cons_walk (bK (hk pins s σ H _ I h) fun u s1 ⟨x,H1,I1,rx,q1⟩=>bK (hv pins s1 σ H1 _ I1 q1) fun w2 s2 ⟨y,H2,I2,ry,q2⟩=>
  bK (hr pins s2 σ H2 _ I2 q2) fun ws s3 ⟨ps,H3,I3,rel,q3⟩=>⟨(x,y)::ps,H3,I3,.cons ⟨rx,ry⟩ rel,q3⟩)
def aL (kvs more:List (bB × V)):List (bB × V):=more.foldl (fun acc kv=>cK acc kv.1 kv.2) kvs
theorem KV.merge:∀ {more:List (bB × V)} {rs:List (bB × Value)} {kvs:List (bB × V)} {vs:List (bB × Value)},KV more rs->KV kvs vs->KV (aL kvs more) (merged vs rs):=by
 intro more rs kvs vs r;unfold KV at r;induction r generalizing kvs vs with
 | nil=>intro q;exact q
 | @cons p q ps qs h t ih=>
  intro r0;have e:KV (cK kvs p.1 p.2) (stored vs q.1 q.2):=by
   have:=r0.put p.1 h.2
   rw[<- h.1];exact this
  exact ih e
theorem cM:∀(more kvs:List (bB × V)),(aL kvs more).length<=kvs.length+more.length
 | [],kvs=>by show kvs.length<=kvs.length+0;omega
 | p::r,kvs=>by
  have h1:=cM r (cK kvs p.1 p.2)
  have h2:=cD kvs p.1 p.2
  show(aL (cK kvs p.1 p.2) r).length<=_
  rw[sQ];omega
theorem nG {P:Program} {w:World}:∀ {kvs:List (bB × V)} {ws:List (Value × Value)},VV (kvs.map fun kv=>(kV kv.1,kv.2)) ws->∃rs,Carries (aY P w) ws rs/\KV kvs rs
 | [],_,r=>by rw[List.map_nil]at r;cases r;exact⟨[],True.intro,.nil⟩
 | p::kvs,_,r=>by
  rw[List.map_cons]at r;cases r with
  | @cons a b as bs h t=>
   obtain⟨rs,c,q⟩:=nG (P:=P) (w:=w) t
   obtain⟨b1,b2⟩:=b
   exact⟨(p.1,b2)::rs,⟨lP h.1,rfl,c⟩,.cons ⟨rfl,h.2⟩ q⟩
def Jo (trs:List (TE × TE)):TE:=fun σ H Q=>∀p,H p=none->vO trs σ (aI H p (.dK [])) fun ps H2=>H2 p=some (.dK [])/\∃kvs:List (bB × V),ps=kvs.map (fun kv=>(kV kv.1,kv.2))/\kvs.length<=15/\Q (.ref p) (aI H2 p (.dK (aL [] kvs)))
theorem Go {X:Cx} {pos:Pos} {keys:List (Option Expr)} {values:List Expr} {trs:List (TE × TE)} (h:Qq X pos keys values trs) (hall:keys.all (·.isSome)=true) (hl:keys.length=values.length) (h0:keys≠[])
  (h15:keys.length<=15):PE X (.Dict keys values pos) (Jo trs):=by
 intro pins s σ H Q I q;have hn:=I.hok.fresh (bC s.heap.objs.size)
 have I1:=I.laid (a:=s.heap.objs.size) (o:=.dK []) (h':=s.heap.push {cls:=.type "dict",data:=.dict #[] }) (t':=s.toks) (fun _ _ q=>hJ _ q) (bC _) (tF s.heap I.big)
 refine wpAny_Dict_walk (knd:=aY X.prog X.w) hall hl h0 h15 (bK (h pins _ σ _ _ I1 (q _ hn)) fun ws s2 ⟨ps,H2,I2,rel,e,kvs,ep,lk,q2⟩=>?_)
 subst ep;obtain⟨rs,c,rk⟩:=nG (P:=X.prog) (w:=X.w) rel
 obtain⟨z,hd,vs0,r0,dd⟩:=Bh I2.hok e
 cases r0
 refine⟨rs,c,dd,fun h' dd' hs=>⟨.ref s.heap.objs.size,_,?_,rfl,q2⟩⟩
 have hz:(aL [] kvs).length<=sizeLine:=by
  have h1:=cM kvs []
  rw[List.length_nil]at h1;rw[sizeLine_eq];omega
 have he:∃q,h'.get? s.heap.objs.size=some q:=let ⟨q,_,_,hq,_⟩:=dd';⟨q,hq⟩
 exact rH I2 (by rw[e];exact True.intro) hs he (Bi hz hd (rk.merge .nil) dd')
structure M2 (X:Cx) (o:Expr) (m:Str) (apos:Pos) (e f:Expr) (cpos:Pos):Prop where
 base:attributeBase o m X.env (eval o X.env)=eval o X.env
 few:((backTo cpos (starEach [e,f] X.env)).all (fun x=>!x.1)&&(backToKw cpos (keywordEach [] X.env)).all (fun x=>x.1.isSome)
  && decide (([e,f]:List Expr).length+([]:List Keyword).length+(if ([]:List Keyword).isEmpty then 0 else 1)<30))=true
 line:(apos.endLine == cpos.line)=true
 trees:backTo cpos (starEach [e,f] X.env)=[(false,eval e X.env),(false,eval f X.env)]
def Tu (H:Hp) (a:Addr):Prop:=(∃kvs,Rd H a (.dK kvs))∨∃kvs,Rd H a (.dT kvs)
theorem Mo {X:Cx} {pins:List (Addr × Obj)} {σ:St} {H:Hp} {s:Shared} {a:Addr} (I:Inv X pins σ H s) (d:Tu H a) :
  s.TypeIs (.ref a) "dict"/\(∀b,Value.ref a=.ref b->∃ob,s.heap.get? b=some ob/\ob.dict=none)/\(a == sysModules)=false:=by
 rcases d with⟨kvs,e⟩ | ⟨kvs,e⟩
 ·obtain⟨_,hd,vs,_,dd⟩:=lQ I.hok e
  refine⟨dd.typeIs,fun b q=>?_,hd⟩
  cases q
  obtain⟨ob,_,_,h1,h2,_⟩:=dd
  exact⟨ob,h1,h2.2.1⟩
 ·obtain⟨_,hd,xs,_,dd⟩:=nF I.hok e
  refine⟨dd.typeIs,fun b q=>?_,hd⟩
  cases q
  obtain⟨ob,_,_,h1,h2,_⟩:=dd
  exact⟨ob,h1,h2.2.1⟩
section
variable {X:Cx} {pins:List (Addr × Obj)} {σ:St} {H:Hp} {s:Shared} {a:Addr} {y d:V} {u r:Value} {o:Option V} {A:Around} {E:Value->Shared->Prop}
theorem Mp {Q:Value->Shared->Prop} (hu:A.units+1<cLine) (I:Inv X pins σ H s) (g:DGet H a y o) (ry:RelV y u) (rd:RelV d r) (h:∀w' s',Inv X pins σ H s'->RelV (o.getD d) w'->Q w' s') :
  wpAny (model X.prog X.w) A (call (.builtin "dict.get") [.ref a,u,r]) Q E s:=by
 rcases g with⟨kvs,k,e,ey,l⟩ | ⟨kvs,k,b,e,ey,eb,l⟩
 ·subst ey;obtain⟨z,hd,vs,rel,dd⟩:=lQ I.hok e
  refine call_meetsIn PySem.F.slot_dict_get dd.typeIs PySem.F.entry_dict_get (PySem.F.args_dict_get_3 _ _ _) (meets_dict_get_default (aY X.prog X.w) a (lP ry) hd r) ⟨_,dd.mapOf,h _ _ (I.tok _) ?_⟩
  rw[l];exact(rel.val k).getD rd
 ·subst ey;cases (show u=Value.ref b from ry)
  obtain⟨z,hd,xs,rel,dd⟩:=nF I.hok e
  refine call_meetsIn PySem.F.slot_dict_get dd.typeIs PySem.F.entry_dict_get (PySem.F.args_dict_get_3 _ _ _) (meetsH_dict_get_default (tupleKind (aY X.prog X.w)) a b hd r) ⟨tupleKind_room_in1 hu,k,xs,kN I.hok eb,dd,h _ _ (I.tok _) ?_⟩
  rw[l];exact(rel.val k).getD rd
end
def Bm (td ty tx:TE):TE:=fun σ H Q=>td σ H fun x H1=>∃a,x=.ref a/\Tu H1 a/\ty σ H1 fun y H2=>tx σ H2 fun z H3=>∃o,DGet H3 a y o/\Q (o.getD z) H3
section
variable {X:Cx} {o e f:Expr} {apos cpos:Pos} {td ty tx:TE}
theorem Bn (hu:X.A.units+1<cLine) (ho:PE X o td) (he:PE X e ty) (hf:PE X f tx) (m:M2 X o "get" apos e f cpos):PE X (.Call (.Attribute o "get" apos) [e,f] [] cpos) (Bm td ty tx):=by
 intro pins s σ H Q I h;refine wpAny_Call_method m.base m.few m.line PySem.F.plainAttrs_dict PySem.F.slot_dict_get PySem.F.type_dict_get (bK (ho pins s σ H _ I h) fun u s1 ⟨x,H1,I1,rx,a,ex,d,q1⟩=>?_)
 subst ex;obtain rfl:u=Value.ref a:=rx
 obtain⟨t1,t2,_⟩:=Mo I1 d
 refine⟨t1,t2,?_⟩
 rw[m.trees];refine Calls.callWith_builtin rfl (Calls.evalArgs_plain (Calls.spliced_cons (bK (he pins s1 σ H1 _ I1 q1) fun iv s2 ⟨y,H2,I2,ry,q2⟩=>
  Calls.spliced_cons (bK (hf pins s2 σ H2 _ I2 q2) fun fv s3 ⟨z,H3,I3,rz,ov,g,q3⟩=>Calls.spliced_nil ?_))))
 exact Mp hu I3 g ry rz fun w' s4 I4 rw'=>⟨_,H3,I4,rw',q3⟩
end
end L2
namespace Att
open PySem PySem.W PySem.Calls PyProof.Rows
theorem lW {P:Params} {h:Heap}:∀(ns:List Int) (vs:List Value),WellAll P h vs (ns.map WData.int)->IntsAre vs ns:=by
 intro ns;induction ns with
 | nil=>
  intro vs w;rw[List.map_nil]at w;cases w
  exact .nil
 | cons n ns ih=>
  intro vs w;rw[List.map_cons]at w;cases w with
  | cons a b=>
   cases a
   exact .cons _ _ (ih _ b)
theorem zB {l:OpenLaw} {n:Nat} (hn:l.most=some n) {P:Params} {h:Heap} {args:List WData} {vals:List Value}
  (hpre:l.row.toRowW.claim.pre args=true) (hwl:WellAll P h vals args) :
  ∃a vs ns,vals=[Value.ref a]/\args=[WData.list (ns.map WData.int)]/\h.get? a=some {cls:=.type "list",data:=.seq vs.toArray }/\IntsAre vs ns/\ns.length<=n:=by
 have hsh:WShape.hasAll [] args [.list .int]=true:=(pre_splitW hpre).1
 have hc:l.pre.holds [] {args:=args }=true:=(pre_splitW hpre).2
 obtain⟨d,r,rfl,h1,h2⟩:=hasAllW_cons hsh
 obtain rfl:=hasAllW_nil h2
 obtain⟨xs,rfl,h3⟩:=hasW_list h1
 obtain⟨ns,rfl⟩:=items_int h3
 have hlen:ns.length<=n:=by
  unfold OpenLaw.pre at hc;have h4:(WTm.not (.lt (.lit (.int (n:Int))) (.len (.arg 0)))).holds [] {args:=[.list (ns.map .int)] }=true:=by
   have h4:=(holds_andW hc).1
   rw[hn]at h4;exact h4
  have h5:=condW_of h4 (w_not (w_lt w_lit (w_len_list (w_arg rfl))))
  rw[aR]at h5;refine Nat.le_of_not_lt fun q=>?_
  have q':(n:Int)<((ns.length:Nat):Int):=by omega
  first
   | (rw[decide_eq_true q']at h5;exact absurd h5 Zd)
   | (simp at h5;omega)
 cases hwl with
 | cons w1 w2=>
  cases w2
  cases w1 with
  | list ho hall=>exact⟨_,_,ns,rfl,rfl,ho,lW ns _ hall,hlen⟩
theorem zC (l:OpenLaw) (args:List WData):l.row.toRowW.claim.post args (.bool true) args=true:=
 postW_of (r:=l.row.toRowW) (X:=(true == true))
  (show WShape.has [] (.bool true) .bool=true by first | rfl | decide | simp [WShape.has,WShape.arms,WShape.armsAll])
  (show(WTm.eq .res (.lit (.bool true))).value [] {args:=args,res:=some (.bool true),after:=args }=some (.bool (true == true)) from w_eq_bool (w_res rfl) w_lit) rfl
theorem attach_call {l:OpenLaw} {n:Nat} {q:Program} {loose:List Str} {XP:(Str->Option Value)->Heap->Prop} {YP:World->Heap->Prop} {d:DefRec}
  (hn:l.most=some n) (hdf:d.params.defaults=[])
  (call:∀(w:World) (s₀ s₁:Shared) (mg mb:Str->Option Value) (fa:Addr) (o:Obj) (pm cd doc:Value) (a:Addr) (vs:List Value) (ns:List Int),
   Ground q loose [] XP w s₀ mg mb s₁.heap->YP w s₁.heap →
   s₁.heap.get? fa=some o->o.data=.func (docDef d.name d.params d.body d.scope pm cd doc)->s₁.heap.CodeRec cd d.name->mg d.name=some (.ref fa) →
   s₁.heap.get? a=some {cls:=.type "list",data:=.seq vs.toArray }->IntsAre vs ns->ns.length<=n->s₁.gens=#[] →
   codeAny (model l.prog w) callerA (.call (.ref fa) ⟨[.ref a],[]⟩) (fun r s'=>r=.ok (.ret (.bool true))/\OldK s₁.heap s'.heap/\s'.os=s₁.os/\AllBare s'.gens) s₁) :
  WalkO q loose XP YP l.row.toRowW d [] (fun f vs=>PySem.call f vs):=by
 intro w s₀ s₁ mg mb G Y fa o pm cd doc dV kV ho hd hcd hD hmg hg args vals as hpre hlay hrd hwl hlo;obtain rfl:dV=.none:=Dflts.none hD hdf
 obtain rfl:kV=.none:=Dflts.noKw hD
 obtain⟨a,vs,ns,rfl,rfl,hobj,hints,hlen⟩:=zB hn hpre hwl
 refine enter_call (codeAny_mono (call w s₀ s₁ mg mb fa o pm cd doc a vs ns G Y ho (fd_plain hd) hcd hmg hobj hints hlen hg) fun r s' hq=>?_)
 obtain⟨rfl,h2,h3,h4⟩:=hq
 exact⟨.inl ⟨.bool true,.bool true,[],rfl,fun _=>rfl,.bool true,zC l _,fun _=>⟨List.Pairwise.nil,fun _ hm=>(nomatch hm)⟩⟩,h2,h3,h4⟩
end Att
namespace L2
open PySem PySem.Spec PyProof.Rows
theorem pY:∀ {vs:List Value} {ns:List Int},IntsAre vs ns->Vals (ns.map V.int) vs
 | _,_,.nil=>.nil
 | _,_,.cons n t h=>.cons ⟨t,rfl⟩ (pY h)
def Mq (H:Hp):Prop:=∀b,H b=none∨∃o xs,H b=some (.frz o (.lst xs))
theorem Bo {P:Program} {w:World} {K:W.Frag} {mg mb:Str->Option Value} {CX:Ax} {k:Nat} {fa a:Addr} {fd:FuncData} {x:Str} {sp:Sp} {s₁:Shared} {vs:List Value} {ns:List Int}
  (KX:K.In s₁.heap) (hns:s₁.heap.Ns mainGlobals mg) (hb:s₁.heap.Ns builtinsNs mb) (hbb:∀x:Str,x≠"__name__"->mb x=bootBuiltins x) (hlim:s₁.heap.NoLimit) (hg:s₁.gens=#[])
  (ha:s₁.heap.get? a=some {cls:=.type "list",data:=.seq vs.toArray }) (hi:IntsAre vs ns) (hl:ns.length<=sizeLine) (hr:Room k callerA)
  (F:∀base:Heap,K.In base->base.Ns mainGlobals mg->fW P w K mg base CX k fa fd [x] sp) (hbind:∀(s:Shared) (u:Value),BindsTo s fd ⟨[u],[]⟩ [(x,u)])
  (hsp:∀H:Hp,Mq H->SqL K H a (ns.map V.int)->sp [.ref a] H (fun v _=>v=.bl true) fun _ _ _=>False)
  (hCX:∀H e s',CX [] H s₁ (fun _ _ _=>False) e s'->False) :
  codeAny (model P w) callerA (.call (.ref fa) ⟨[.ref a],[]⟩) (fun r s'=>r=.ok (.ret (.bool true))/\OldK s₁.heap s'.heap/\s'.os=s₁.os/\AllBare s'.gens) s₁:=by
 have rv:=pY hi
 have lenV:=hi.length
 have core:∀H:Hp,Mq H->SqL K H a (ns.map V.int)->HOk P w H s₁.heap->(∀b,H b≠none->b=a)->(H a≠none->K.lookup a=none) →
   codeAny (model P w) callerA (.call (.ref fa) ⟨[.ref a],[]⟩) (fun r s'=>r=.ok (.ret (.bool true))/\OldK s₁.heap s'.heap/\s'.os=s₁.os/\AllBare s'.gens) s₁:=by
  intro H hO hS hok hA hK;have base_of:∀ {b:Addr} {o:Obj},s₁.heap.get? b=some o->H b=none->(qV s₁.heap H).get? b=some o:=fun e n=>Ag e n
  have noA:∀ {b:Addr} {o:Obj} {es:Array DictEntry} {ep:Nat},s₁.heap.get? b=some o->o.data=.dict es ep->H b=none:=fun {b o es ep} e d=>by
   cases q:H b with
   | none=>rfl
   | some u=>
    have e':b=a:=hA b (by rw[q];simp)
    subst e';rw[ha]at e;cases e
    have d':Data.seq vs.toArray _=Data.dict es ep:=d
    cases d'
  have nsK:∀ {b:Addr} {m:Str->Option Value},s₁.heap.Ns b m->(qV s₁.heap H).Ns b m:=fun {b m} ⟨o,es,ep,e,d,r⟩=>⟨o,es,ep,base_of e (noA e d),d,r⟩
  have hKb:K.In (qV s₁.heap H):=fun b o e=>base_of (KX b o e) (by
   cases q:H b with
   | none=>rfl
   | some u=>
    have e':b=a:=hA b (by rw[q];simp)
    subst e';rw[hK (by rw[q];simp)]at e;cases e)
  have hM:Mod K mg (qV s₁.heap H):=⟨hKb,nsK hns,⟨mb,nsK hb,hbb⟩,let ⟨mc,h1,h2⟩:=hlim;⟨mc,nsK h1,h2⟩⟩
  have e0:Env0 P w K mg (qV s₁.heap H) callerA [] s₁ H:=⟨rfl,hM,fun b o e=>Fg e,Nat.le_of_eq (yK _ _),trivial,fun b hb=>absurd (show b∈([]:List Addr) from hb) Zs,hok,.of_eq hg⟩
  refine codeAny_mono ((F _ hKb (nsK hns)).run callerA [] s₁ H ⟨[.ref a],[]⟩ [.ref a] [.ref a] _ _ hr e0 (hbind s₁ (.ref a)) (.cons rfl .nil) (hsp H hO hS)) fun r s' h=>?_
  cases r with
  | error e=>exact(hCX H e s' h).elim
  | ok fl=>
   cases fl with
   | next=>exact False.elim h
   | brk=>exact False.elim h
   | cont=>exact False.elim h
   | ret u=>
    obtain⟨v,H',os,bare,un,hok',r',q⟩:=h
    have q':v=.bl true:=q
    subst q';obtain rfl:u=Value.bool true:=r'
    refine⟨rfl,OldK.of_keep fun b o e=>?_,os,bare⟩
    cases q:H b with
    | none=>exact un.keep b o e q (by intro z;exact absurd (show b∈([]:List Addr) from z) Zs) Zs
    | some u=>
     rcases hO b with z | ⟨ob,xs,z⟩
     ·rw[q]at z;cases z
     ·have z2:=un.frzs b ob _ z
      obtain⟨e1,_⟩:=hok b _ z
      obtain⟨e2,_⟩:=hok' b _ z2
      rw[e]at e1;cases e1
      exact e2
 cases hk:K.lookup a with
 | some o=>
  have e:=KX a o hk
  rw[ha]at e;cases e
  refine core (fun _=>none) (fun _=>.inl rfl) (.inr ⟨_,vs.toArray,_,hk,rfl,rfl,rfl,by rw[dM,lenV];exact hl,by simpa using rv⟩) (fun b u z=>by have z':(none:Option HO)=some u:=z;cases z') (fun b z=>absurd rfl z) fun z=>absurd rfl z
 | none=>
  refine core (fun b=>if b=a then some (.frz {cls:=.type "list",data:=.seq vs.toArray } (.lst (ns.map V.int))) else none) (fun b=>?_) (.inl (.inr ⟨{cls:=.type "list",data:=.seq vs.toArray },if_pos rfl⟩)) (fun b u z=>?_) (fun b z=>?_) fun _=>hk
  ·by_cases hb:b=a
   ·exact .inr ⟨_,_,if_pos hb⟩
   ·exact .inl (if_neg hb)
  ·by_cases hb:b=a
   ·have z':=(if_pos hb).symm.trans z
    cases z'
    subst hb;exact⟨ha,by rw[aR];exact hl,vs,_,rv,ha⟩
   ·have z':=(if_neg hb).symm.trans z
    cases z'
  ·by_cases hb:b=a
   ·exact hb
   ·exact absurd (if_neg hb) z
end L2
namespace L2
open PySem PySem.Spec PyProof.Rows
theorem xD {l:W.OpenLaw} {n k:Nat} {q:Program} {loose:List Str} {XP:(Str->Option Value)->Heap->Prop} {YP:World->Heap->Prop} {d:DefRec} {K:Params->W.Frag} {CX:World->Ax} {sp:World->Sp} {x:Str}
  (hn:l.most=some n) (hn2:n<=sizeLine) (hdf:d.params.defaults=[]) (hr:Room k callerA)
  (hY:∀(w:World) (h:Heap),YP w h->(K w.params).In h)
  (F:∀(w:World) (mg:Str->Option Value) (fa:Addr) (h:Heap),(K w.params).In h->h.Ns mainGlobals mg->mg d.name=some (.ref fa) →
   ∃fd:FuncData,(∀(s:Shared) (u:Value),BindsTo s fd ⟨[u],[]⟩ [(x,u)]) ∧
    ∀base:Heap,(K w.params).In base->base.Ns mainGlobals mg->fW l.prog w (K w.params) mg base (CX w) k fa fd [x] (sp w))
  (hsp:∀(w:World) (H:Hp) (a:Addr) (ns:List Int),ns.length<=n->Mq H->SqL (K w.params) H a (ns.map V.int)->sp w [.ref a] H (fun v _=>v=.bl true) fun _ _ _=>False)
  (hCX:∀(w:World) (H:Hp) (s:Shared) (e:Value) (s':Shared),CX w [] H s (fun _ _ _=>False) e s'->False) :
  W.WalkO q loose XP YP l.row.toRowW d [] (fun f vs=>PySem.call f vs):=by
 refine Att.attach_call hn hdf fun w s₀ s₁ mg mb fa o pm cd doc a vs ns G Y ho hd hcd hmg hobj hints hlen hg=>?_
 have KX:=hY w _ Y
 obtain⟨fd,hb,hF⟩:=F w mg fa _ KX G.T.g hmg
 exact Bo KX G.T.g G.T.b G.T.builtins G.T.nolimit hg hobj hints (hU hlen hn2) hr hF hb (fun H hO hS=>hsp w H a ns hlen hO hS) fun H e s'=>hCX w H s₁ e s'
end L2
/- THE LAST THEOREM (shape;LID,My.* are yours):
   My.Adr: a structure of the addresses that your layer names (classes,functions);My.Txt K t: a structure (Prop) of the equations over K;
   My.txt_mk:{K} {implicit addresses ..} (e1:nsIn K mainGlobals "law"=some (some (.ref f))) (e2:K.lookup f=some ⟨oc,od,.func (fnOf "law" "law" params body scope dV kV doc pm an cdv ct),sl⟩) (e3:codeIn K cdv "law"=true) ..:∃t,My.Txt K t
set_option maxRecDepth 100000 in
set_option maxHeartbeats 0 in
theorem PySem.Challenge.cw_LID_holds : PySem.Challenge.rw_LID.Holds := by
 w_on;o_law;k_head;(case hw=>w_witness2)
 k_fill
 refine L2.xD (l:=PySem.Challenge.rw_LID) (n:=63) (k:=40) (x:="script") (CX:=fun w=>..) (sp:=fun _=>My.sp_law) rfl Zd rfl ⟨rfl,Zd,Zd⟩ (fun w h Y=>W.kIn_of Y) ?F ?S ?C
 case F=>
  intro w mg fa h KX G hmg;have T:∃t,My.Txt (L2.KOf KX) t:=by
   dsimp only [L2.KOf]                          -- K must stand as «<heap const> w.params» for k_is
   refine' My.txt_mk ?e1 ?e2 ?e3 ..
   (case e1=>W.k_is)                    -- in the order: a name->its address->its object->its parts
   (case e2=>W.k_is)
   ..
  obtain⟨t,T⟩:=T
  have e0:=hmg.symm.trans (W.mg_of KX G T.law)
  cases e0                                       -- fa is the law's own address
  exact⟨_,fun s u=>.of_eq rfl,fun base kb nb=>My.law_fn T kb nb⟩     -- if «.of_eq rfl» comes too early: refine' ⟨_,?b,fun base kb nb=>My.law_fn T kb nb⟩;exact fun s u=>.of_eq rfl
 case S=>exact fun w H a ns hl hO hS=>..
 case C=>exact ..
(the tactic k_is has no namespace: write k_is) -/
namespace L2
open PySem PySem.Spec PyProof.Rows
def jQ (s:Stmt) (j:Nat):Stmt:=match s with
 | .ClassDef _ _ _ body _ _ _ _ _ _ _=>body.getD j (.Pass ⟨0,0,0,0⟩)
 | _=>.Pass ⟨0,0,0,0⟩
def bP (s:Stmt):Arguments:=match s with
 | .FunctionDef _ a _ _ _ _ _ _ _ _=>a
 | _=>{posonlyargs:=[],args:=[],vararg:=none,kwonlyargs:=[],kw_defaults:=[],kwarg:=none,defaults:=[] }
def aQ (s:Stmt):List Stmt:=match s with
 | .FunctionDef _ _ b _ _ _ _ _ _ _=>b
 | _=>[]
def aB (s:Stmt):Scope:=match s with
 | .FunctionDef _ _ _ _ _ _ sc _ _ _=>sc
 | _=>{kind:=.function,names:=[],isGenerator:=false,isCoroutine:=false }
abbrev mH:Ax:=fun _ _ _ _ _ _=>False
abbrev E0:XK:=fun _ _ _=>False
theorem xE {X:Cx}:mZ mH X E0:=fun _ _ _ _ _ _ _ h=>h.elim
structure Fun (K:W.Frag) (x qual:Str) (st:Stmt) (f:Addr) (fd:FuncData):Prop where
 ex:∃(oc:Value) (od:Option Addr) (kV doc pm:Value) (an:Option Addr) (cdv ct:Value) (osl:Array (Option Value)),
  fd=W.fnOf x qual (bP st) (aQ st) (aB st) .none kV doc pm an cdv ct/\K.lookup f=some ⟨oc,od,.func fd,osl⟩/\W.codeIn K cdv qual=true
 kp:W.keepIn K (.ref f)=true
section
variable {P:Program} {w:World} {K:W.Frag} {mg:Str->Option Value} {base:Heap}
theorem Fun.ok {x qual:Str} {st:Stmt} {f:Addr} {fd:FuncData} {N ps:List Str} {k:Nat} {sp:Sp} (F:Fun K x qual st f fd) (S:aK N ps (aB st)) (len:∀vs H Q E,sp vs H Q E->vs.length=ps.length)
  (hbody:∀(cdv:Value) (A:Around) (outer:List Env) (s:Shared) (H:Hp) (vs:List V) (Q:VK) (E:XK),Room k (A.deeper (envOfC qual (aB st) s.heap.objs.size f cdv))->sp vs H Q E →
   ∃t,PSs (cW mH P w K mg base N qual (aB st) f cdv A outer s H E).nox (aQ st) t/\t {nx:=fun _ H'=>Q .non H',rt:=Q } (start N vs) H):fW P w K mg base mH (k+1) f fd ps sp:=by
 obtain⟨oc,od,kV,doc,pm,an,cdv,ct,osl,rfl,lk,hcd⟩:=F.ex
 refine wY lk hcd S len fun A outer s H vs Q E hr hsp=>?_
 obtain⟨t,h,q⟩:=hbody cdv A outer s H vs Q E hr hsp
 exact⟨t,h.nox,q⟩
theorem Fun.binds {x qual:Str} {st:Stmt} {f:Addr} {fd:FuncData} {ps:List Str} (F:Fun K x qual st f fd)
  (h:∀(kV doc pm:Value) (an:Option Addr) (cdv ct:Value) (us:List Value),us.length=ps.length->bindArgs (W.fnOf x qual (bP st) (aQ st) (aB st) .none kV doc pm an cdv ct) ⟨us,[]⟩=pure (ps.zip us)):Binds K fd ps []:=by
 obtain⟨oc,od,kV,doc,pm,an,cdv,ct,osl,rfl,lk,hcd⟩:=F.ex
 exact .all (h kV doc pm an cdv ct)
theorem jF {x qual:Str} {st:Stmt} {f:Addr} {oc:Value} {od an:Option Addr} {osl:Array (Option Value)} {kV doc pm cdv ct:Value} (l:K.lookup f=some ⟨oc,od,.func (W.fnOf x qual (bP st) (aQ st) (aB st) .none kV doc pm an cdv ct),osl⟩)
  (c:W.codeIn K cdv qual=true) (k:W.keepIn K (.ref f)=true):Fun K x qual st f (W.fnOf x qual (bP st) (aQ st) (aB st) .none kV doc pm an cdv ct):=⟨⟨oc,od,kV,doc,pm,an,cdv,ct,osl,rfl,l,c⟩,k⟩
end
theorem eY {A:Around} {k:Nat} (hr:Room k A):A.units+1<cLine:=kI (Nat.add_le_add_left (by decide:1<=64) _) hr.units
def Same (H H':Hp):Prop:=∀b o,H b=some o->H' b=some o
theorem Same.refl (H:Hp):Same H H:=fun _ _ h=>h
theorem Same.trans {H H1 H2:Hp} (a:Same H H1) (b:Same H1 H2):Same H H2:=fun c o h=>b c o (a c o h)
theorem Same.free {H H':Hp} (e:Same H H') {l:Addr} (h:H' l=Option.none):H l=Option.none:=by
 cases q:H l with
 | none=>rfl
 | some o=>
  rw[e l o q]at h;cases h
theorem Same.seq {K:W.Frag} {H H':Hp} {a:Addr} {xs:List V} (e:Same H H') (h:SqL K H a xs):SqL K H' a xs:=by
 rcases h with(h | ⟨o,h⟩) | h
 ·exact .inl (.inl (e _ _ h))
 ·exact .inl (.inr ⟨o,e _ _ h⟩)
 ·exact .inr h
section
variable {κ:Type} [DecidableEq κ]
theorem Gp {kvs:List (κ × V)} {k:κ} {v:V} (h:bN kvs k=some v):k∈kvs.map (·.1):=by
 have q:(kvs.any fun kv=>decide (kv.1=k))=true:=by
  rw[eL,h];all_goals rfl
 obtain⟨p,hp,e⟩:=List.any_eq_true.mp q
 exact Zmm.mpr ⟨p,hp,of_decide_eq_true e⟩
theorem xF:∀ {l:List κ} {k:κ},l.Nodup->¬ k∈l->(l++[k]).Nodup
 | [],k,_,_=>by simp
 | a::r,k,h,hk=>by
  obtain⟨h1,h2⟩:=List.nodup_cons.mp h
  show(a::(r++[k])).Nodup
  refine List.nodup_cons.mpr ⟨fun m=>?_,xF h2 fun m=>hk (List.mem_cons.mpr (Or.inr m))⟩
  rcases Zma.mp m with q | q
  ·exact h1 q
  ·exact hk (List.mem_cons.mpr (Or.inl (Zms.mp q).symm))
end
end L2
namespace L2
open PySem PySem.Spec PyProof.Rows
def iA (env:Env):List (Str × NameKind)->List (Str × Addr)->List (Str × Addr)
 | [],cs=>cs
 | (n,k)::r,cs=>iA env r (if k=.free then (match env.cells.lookup n with | some c=>(n,c)::cs | none=>cs) else cs)
theorem jG {env:Env}:∀(names:List (Str × NameKind)) (cs:List (Str × Addr)),(∀x∈names,x.2=.free->∃c,env.cells.lookup x.1=some c) →
  (forIn names cs fun(x:Str × NameKind) (r:List (Str × Addr))=>(do
   if x.2 == .free then do
    let c ← cellOf env x.1
    pure (ForInStep.yield ((x.1,c)::r))
   else pure (ForInStep.yield r):Sem _))=pure (iA env names cs)
 | [],cs,_=>rfl
 | (n,k)::r,cs,h=>by
  rw[List.forIn_cons];by_cases hk:k=.free
  ·subst hk;obtain⟨c,hc⟩:=h (n,.free) iW rfl
   have hc':env.cells.lookup n=some c:=hc
   have e1:cellOf env n=pure c:=by unfold cellOf;rw[hc']
   simp only [beq_self_eq_true,if_true,e1,pure_bind]
   rw[jG r ((n,c)::cs) fun x hx=>h x (mF _ hx)]
   simp [iA,hc']
  ·have hb:(k == NameKind.free)=false:=by simpa using hk
   simp only [hb,Bool.false_eq_true,if_false,pure_bind]
   rw[jG r cs fun x hx=>h x (mF _ hx)]
   simp [iA,hk]
theorem nH {scope:Scope} {env:Env} (h:∀x∈scope.names,x.2=.free->∃c,env.cells.lookup x.1=some c):closureFor scope env=pure (iA env scope.names []):=by
 have e:=jG scope.names [] h
 unfold closureFor;exact(congrArg (fun z=>z >>= fun(r:List (Str × Addr))=>(pure r:Sem _)) e).trans (pure_bind _ _)
theorem tG {env:Env}:∀(names:List (Str × NameKind)) (cs:List (Str × Addr)),(∀y d,(y,d)∈cs->env.cells.lookup y=some d)->∀y d,(y,d)∈iA env names cs->env.cells.lookup y=some d
 | [],_,h=>h
 | (n,k)::r,cs,h=>by
  unfold iA;refine tG r _ fun y d hm=>?_
  split at hm
  ·split at hm
   ·rename_i c hc
    rcases List.mem_cons.mp hm with e | e
    ·cases e;exact hc
    ·exact h y d e
   ·exact h y d hm
  ·exact h y d hm
theorem xG {env:Env}:∀(names:List (Str × NameKind)) (cs:List (Str × Addr)) (y:Str) (d:Addr),(y,d)∈iA env names cs->(y,.free)∈names∨(y,d)∈cs
 | [],_,_,_,h=>.inr h
 | (n,k)::r,cs,y,d,h=>by
  unfold iA at h;rcases xG r _ y d h with e | hm
  ·exact .inl (mF _ e)
  ·split at hm
   ·rename_i hk
    split at hm
    ·rcases List.mem_cons.mp hm with e | e
     ·cases e;subst hk;exact .inl iW
     ·exact .inr e
    ·exact .inr hm
   ·exact .inr hm
theorem Bp {env:Env}:∀(names:List (Str × NameKind)) (cs:List (Str × Addr)) (y:Str),((∃d,(y,d)∈cs)∨(y,.free)∈names)->(∀x∈names,x.2=.free->∃c,env.cells.lookup x.1=some c)->∃d,(y,d)∈iA env names cs
 | [],_,_,h,_=>by
  rcases h with h | h
  ·exact h
  ·cases h
 | (n,k)::r,cs,y,h,hf=>by
  unfold iA;refine Bp r _ y ?_ fun x hx=>hf x (mF _ hx)
  rcases h with⟨d,hd⟩ | h
  ·refine .inl ⟨d,?_⟩
   split
   ·split
    ·exact mF _ hd
    ·exact hd
   ·exact hd
  ·rcases List.mem_cons.mp h with e | e
   ·have e1:y=n:=congrArg Prod.fst e
    have e2:NameKind.free=k:=congrArg Prod.snd e
    subst e1 e2;obtain⟨c,hc⟩:=hf (y,.free) iW rfl
    have hc':env.cells.lookup y=some c:=hc
    refine .inl ⟨c,?_⟩
    rw[if_pos rfl,hc'];exact iW
   ·exact .inr e
theorem nJ {α:Type}:∀ {l:List (Str × α)} {y:Str} {d:α},(y,d)∈l->∃d',l.lookup y=some d'/\(y,d')∈l
 | (n,c)::r,y,d,h=>by
  by_cases e:y=n
  ·subst e;exact⟨c,by simp [List.lookup_cons],iW⟩
  ·rcases List.mem_cons.mp h with q | q
   ·cases q;exact absurd rfl e
   ·obtain⟨d',h1,h2⟩:=nJ q
    have hb:(y == n)=false:=by simpa using e
    exact⟨d',by rw[List.lookup_cons,hb];exact h1,mF _ h2⟩
theorem cU {env:Env} {names:List (Str × NameKind)} {y:Str} {c:Addr} (h:(iA env names []).lookup y=some c):env.cells.lookup y=some c/\(y,.free)∈names:=by
 have hm:=PySem.mem_of_lookup h
 refine⟨tG names [] (fun _ _ z=>nomatch z) y c hm,?_⟩
 rcases xG names [] y c hm with e | e
 ·exact e
 ·cases e
theorem xH {env:Env} {names:List (Str × NameKind)} {y:Str} (h:(y,.free)∈names) (hf:∀x∈names,x.2=.free->∃c,env.cells.lookup x.1=some c):∃c,(iA env names []).lookup y=some c/\env.cells.lookup y=some c:=by
 obtain⟨d,hd⟩:=Bp names [] y (.inr h) hf
 obtain⟨c,hc,_⟩:=nJ hd
 exact⟨c,hc,(cU hc).1⟩
theorem rJ {scope:Scope} {env:Env} (hcell:∀y∈scope.names,y.2≠.cell) {x:Str} (h:(relabel scope env).names.lookup x=some .cell∨(relabel scope env).names.lookup x=some .free):(x,.free)∈scope.names:=by
 have go:∀ {k:NameKind},k=.cell∨k=.free->(relabel scope env).names.lookup x=some k->(x,.free)∈scope.names:=fun {k} hk h=>by
  have hm:=PySem.mem_of_lookup h
  unfold relabel at hm;obtain⟨⟨n,j⟩,hp,e⟩:=Zmm.mp hm
  dsimp only at e
  split at e
  ·rename_i hc
   cases e
   have:j=.free:=by
    have:=(Bool.and_eq_true_iff.mp (Bool.and_eq_true_iff.mp hc).1).1
    simpa using this
   subst this;exact hp
  ·cases e
   rcases hk with q | q
   ·exact absurd q (hcell _ hp)
   ·subst q;exact hp
 rcases h with h | h
 ·exact go (.inl rfl) h
 ·exact go (.inr rfl) h
theorem jR {env:Env}:∀ {names:List (Str × NameKind)} {x:Str},names.lookup x=some .free →
  (names.map fun(n,k)=>if (k == NameKind.free&&env.scope.kind == .function&&env.kindOf n == some .cell) then (n,NameKind.cell) else (n,k)).lookup x=some .cell∨
  (names.map fun(n,k)=>if (k == NameKind.free&&env.scope.kind == .function&&env.kindOf n == some .cell) then (n,NameKind.cell) else (n,k)).lookup x=some .free
 | [],_,h=>by simp at h
 | (n,k)::r,x,h=>by
  have ih:=@jR env r x
  rw[List.map_cons];dsimp only;cases hx:x == n with
  | true=>
   simp only [List.lookup_cons,hx]at h
   cases h
   split
   ·left;simp [List.lookup_cons,hx]
   ·right;simp [List.lookup_cons,hx]
  | false=>
   simp only [List.lookup_cons,hx]at h
   split
   ·simp only [List.lookup_cons,hx];exact ih h
   ·simp only [List.lookup_cons,hx];exact ih h
def kJ (X:Cx) (scope:Scope) (C:Addr) (N:List Str) (s₂:Shared) (H₂:Hp) (fp:List Addr):Cx where
 prog:=X.prog
 w:=X.w
 K:=X.K
 mg:=X.mg
 base:=X.base
 A:=X.A
 N:=N
 s₀:=s₂
 H₀:=H₂
 env:=compEnvC scope (iA X.env scope.names []) C X.env
 outer:=X.stack
 stack:=X.stack
 ex:=fp
 fn:=fun _=>false
 calm:=X.calm
 pn:=[]
 xe:=fun _ _=>False
def vP (js:List (Option Nat)) (σ:St):St:=js.map fun o=>match o with | some j=>(σ[j]?).getD none | none=>none
structure CompScope (X:Cx) (scope:Scope) (N:List Str) (js:List (Option Nat)):Prop where
 kind:scope.kind=.function
 nocell:∀y∈scope.names,y.2≠.cell
 loc:∀y∈scope.names,y.2=.local->scope.names.lookup y.1=some .local
 len:js.length=N.length
 cap:∀(i j:Nat),js[i]?=some (some j)->∃x,N[i]?=some x/\X.N[j]?=some x/\scope.names.lookup x=some .free
 out:∀y∈scope.names,y.2=.free->X.env.kindOf y.1=some .cell∨X.env.kindOf y.1=some .free
def zD (js:List (Option Nat)) (g:TG):Prop:=∀x σ H Q,g x σ H Q->g x σ H fun σ2 H2=>Q σ2 H2/\σ2.length=σ.length/\∀(i j:Nat),js[i]?=some (some j)->σ2[i]?=σ[i]?
theorem aT {js:List (Option Nat)} {k:Nat} (h:js[k]?=some none):zD js (aJ k):=fun x σ H Q q=>by
 refine⟨q,Zs,fun i j e=>?_⟩
 have:k≠i:=fun z=>by subst z;rw[h]at e;cases e
 rw[List.getElem?_set_ne this]
section
variable {X:Cx} {pins:List (Addr × Obj)} {σ:St} {H H':Hp} {s:Shared}
theorem Un.more {fs ex:List Addr} {H H':Hp} {h h':Heap} {D:Addr} {o:HO} (u:Un fs ex H H' h h') (hD:h.get? D=none) (hH:H D=none):Un fs ex H (aI H' D o) h h' where
 keep:=u.keep
 slot:=u.slot
 free:=fun b ob q n hx=>by
  have:b≠D:=fun z=>by rw[z,hD]at q;cases q
  rw[aE this];exact u.free b ob q n hx
 there:=u.there
 tups:=fun b xs q=>by rw[aE (aD q hH)];exact u.tups b xs q
 frzs:=fun b ob xs q=>by rw[aE (aD q hH)];exact u.frzs b ob xs q
 tbls:=fun b ps q=>by rw[aE (aD q hH)];exact u.tbls b ps q
theorem HOk.more {P:Program} {w:World} {h:Heap} {D:Addr} {o:HO} (k:HOk P w H h) (hH:H D=none) (new:ObjOk P w (aI H D o) h D o):HOk P w (aI H D o) h:=fun b u e=>by
 by_cases hb:b=D
 ·subst hb;rw[aA]at e;cases e;exact new
 ·rw[aE hb]at e;exact(k b u e).stay (fun _ _ _ q=>q) (fun c q=>by rw[aE (aD q hH)];exact q) fun c xs q=>by rw[aE (aD q hH)];exact q
theorem CompScope.ok {scope:Scope} {N:List Str} {js:List (Option Nat)} {C:Addr} {fp:List Addr} (S:CompScope X scope N js) (I:Inv X pins σ H s) (hC:s.heap.objs.size<=C) (hf:∀b∈fp,oY X pins H b) (hl:∀b∈fp,b<s.heap.objs.size) :
  (kJ X scope C N s H fp).Ok where
 mod:=I.ok.mod
 kind:=S.kind
 glob:=I.ok.glob
 blt:=I.ok.blt
 above:=hC
 inj:=fun x y c h1 h2=>I.ok.inj x y c (cU h1).1 (cU h2).1
 has:=fun x hx=>by
  have hm:(x,.free)∈scope.names:=rJ S.nocell hx
  obtain⟨c,h1,_⟩:=xH (env:=X.env) hm fun y hy hk=>I.ok.has y.1 (S.out y hy hk)
  exact⟨c,h1⟩
 cab:=fun x c z=>nomatch z
 hd:=I.ok.hd
 frames:=I.ok.frames
 stk:=.inl rfl
 exf:=fun b hb=>⟨Nat.ne_of_lt (Nat.lt_of_lt_of_le (hl b hb) hC),fun x c e=>(hf b hb).2.2.2.2.1 x c (cU e).1⟩
 bs:=I.bs
 bsz:=hU I.ok.bsz I.sz
 noex:=fun b o e hb=>by
  rcases(hf b hb).2.2.2.1 with z | z
  ·exact I.ok.noex b o e z
  ·exact absurd (Nat.lt_of_lt_of_le (Heap.lt_size e) (hU I.ok.bsz z)) (Nat.lt_irrefl _)
 exfs:=fun b hb hm=>by
  rcases List.mem_cons.mp (I.stkSub b hm) with z | z
  ·exact(hf b hb).2.1 z
  ·exact(hf b hb).2.2.1 z
 funs:=I.stack
 frf:=I.stkFree
theorem CompScope.start {scope:Scope} {N:List Str} {js:List (Option Nat)} {C D:Addr} {fp:List Addr} {ob:Obj} {h₁:Heap} {m:Str->Option Value} {tk:Nat} (S:CompScope X scope N js) (I:Inv X pins σ H s) (hC:s.heap.objs.size<=C) (hD:s.heap.objs.size<=D) (hDC:D≠C)
  (hf:∀b∈fp,oY X pins H b) (hl:∀b∈fp,b<s.heap.objs.size) (k:∀b o,s.heap.get? b=some o->h₁.get? b=some o) (hns:h₁.Ns C m) (eD:h₁.get? D=some ob) (nc:∀v,ob.data≠.cell v) :
  Inv (kJ X scope C N s H fp) [(D,ob)] (vP js σ) H {s with heap:=h₁,toks:=tk } where
 ok:=S.ok I hC hf hl
 os:=rfl
 bare:=I.bare
 base:=Un.kept k
 loc:=by
  refine⟨m,hns,fun i x v h1 h2 h3=>?_⟩
  have h1:N[i]?=some x:=h1
  unfold vP at h2;rw[fS]at h2;cases e:js[i]? with
  | none=>rw[e]at h2;cases h2
  | some o=>
   rw[e]at h2;cases o with
   | none=>cases h2
   | some j=>
    have h2':(σ[j]?).getD none=some v:=Option.some.inj h2
    have hσ:σ[j]?=some (some v):=by
     cases q:σ[j]? with
     | none=>rw[q]at h2';cases h2'
     | some z=>rw[q]at h2';exact congrArg some h2'
    obtain⟨y,e1,e2,e3⟩:=S.cap i j e
    rw[h1]at e1;cases e1
    have hfree:(x,.free)∈scope.names:=PySem.mem_of_lookup e3
    have ho:=S.out (x,.free) hfree rfl
    obtain⟨mX,_,hlX⟩:=I.loc
    have hvX:Pm X.env.scope x:=by
     rcases ho with z | z
     ·exact .inr (.inl z)
     ·exact .inr (.inr z)
    obtain⟨u,r,l⟩:=hlX j x v e2 hσ hvX
    refine⟨u,r,.inr ?_⟩
    rcases l with⟨hk,_⟩ | ⟨hk,c,hc,hcell⟩
    ·rcases ho with z | z
     ·have z':X.env.kindOf x=some .cell:=z
      rw[hk]at z';cases z'
     ·have z':X.env.kindOf x=some .free:=z
      rw[hk]at z';cases z'
    ·obtain⟨c',h1',h2''⟩:=xH (env:=X.env) hfree fun y hy hk=>I.ok.has y.1 (S.out y hy hk)
     rw[hc]at h2'';cases h2''
     refine⟨jR e3,c,h1',?_⟩
     obtain⟨oc,q1,q2⟩:=hcell
     exact⟨oc,k c oc q1,q2⟩
 cell:=fun x c e=>by
  obtain⟨v,oc,q1,q2⟩:=I.cell x c (cU e).1
  exact⟨v,oc,k c oc q1,q2⟩
 free:=I.hok.fresh hC
 freeC:=fun x c e=>I.freeC x c (cU e).1
 pin:=fun p hp=>by
  have e:p=(D,ob):=by
   rcases Zma.mp hp with z | z
   ·exact absurd (show p∈([]:List (Addr × Obj)) from z) Zs
   ·simpa using z
  subst e;refine⟨eD,I.hok.fresh hD,hDC,fun hm=>?_,nc⟩
  rcases List.mem_cons.mp (I.stkSub D hm) with z | z
  ·have z:D=X.env.locals:=z
   have:=I.lt
   rw[<- z]at this;exact absurd (Nat.lt_of_lt_of_le this hD) (Nat.lt_irrefl _)
  ·exact I.nofs hD z
 hok:=I.hok.kept k
 len:=by
  unfold vP;rw[aR];exact S.len
end
def Ph (X:Cx) (cs:List Expr) (t:TT):Prop:=
 ∀(pins:List (Addr × Obj)) (s:Shared) (σ:St) (H:Hp) (Q:Bool->Hp->Prop) (E:Value->Shared->Prop),Inv X pins σ H s->t σ H Q →
  wpAny (model X.prog X.w) X.A (forIn cs true fun c r=>if r=true then do let ok ← isTrue c X.env (eval c X.env);pure (ForInStep.yield ok) else pure (ForInStep.yield r)) (TP X pins σ Q) E s
def Bq:TT:=fun _ H Q=>Q true H
theorem Gq {X:Cx}:Ph X [] Bq:=fun pins s σ H Q E I h=>wpAny_tests_nil ⟨H,I,h⟩
theorem Gr {X:Cx} {c:Expr} {t:TT} (h:PT X c t) (hx:X.xe=fun _ _=>False:=by rfl):Ph X [c] t:=fun pins s σ H Q E I q=>
 wpAny_tests_one (wpAny_mono (h pins s σ H Q I q) (fun _ _ z=>z) fun e s' z=>by rw[hx]at z;exact z.elim)
def nK (js:List (Option Nat)) (g:TG) (tt:TT) (te:TE) (σ:St) (J:It) (H1:Hp) (Q:List V->Hp->Prop):Prop:=
 ∃W:Nat->Nat->List V->Hp->Prop,(∃m,W 0 m [] H1)/\∀i m ys H,W i m ys H →
  (J.stop i H/\Q ys H)∨
  (J.go i H/\ys.length<sizeLine/\∃N:List V->Hp->Prop,(∀ys' H',N ys' H'->∃m',m'<m/\W (i+1) m' ys' H') ∧
   ∀x H',J.yld i H x H'->g x (vP js σ) H' fun σ2 H2=>tt σ2 H2 fun b H3=>if b=true then te σ2 H3 fun y H4=>N (ys++[y]) H4 else N ys H3)
def Jp (wi:TI) (js:List (Option Nat)) (g:TG) (tt:TT) (te:TE):TE:=fun σ H Q=>wi σ H fun J H1=>
 nK js g tt te σ J H1 fun ys H2=>∀p,H2 p=none->Q (.ref p) (aI H2 p (.lst ys))
def Jq (i:Nat) (wi:TI) (js:List (Option Nat)) (g:TG) (tt:TT) (te:TE):TS:=fun D σ H=>wi σ H fun J H1=>
 nK js g tt te σ J H1 fun ys H2=>∀p,H2 p=none->D.nx (σ.set i (some (.ref p))) (aI H2 p (.lst ys))
section
variable {X:Cx} {tg iter elt:Expr} {ifs:List Expr} {scope:Scope} {N:List Str} {js:List (Option Nat)} {wi:TI} {g:TG} {tt:TT} {te:TE} {pos:Pos}
theorem nM {pins:List (Addr × Obj)} {σ:St} {H2:Hp} {s2:Shared} {it:Addr} {fp:List Addr} {tn:Nat->Heap->Prop} {J:It} {Qf:List V->Hp->Prop} {RR:Value->Addr->Result->Shared->Prop} {E:Value->Shared->Prop} (hc:X.calm=true) (S:CompScope X scope N js) (go:zD js g)
  (hb:∀(C:Addr) (s₂:Shared) (H₂:Hp) (fp:List Addr),PG (kJ X scope C N s₂ H₂ fp) tg g/\Ph (kJ X scope C N s₂ H₂ fp) ifs tt/\PE (kJ X scope C N s₂ H₂ fp) elt te)
  (I2:Inv X pins σ H2 s2) (T:yN X.prog X.w X.K tg J fp it tn) (st2:tn 0 s2.heap) (f2:∀b∈fp,oY X pins H2 b) (hw:nK js g tt te σ J H2 Qf)
  (hRR:∀(C D:Addr) (ys:List V) (H3:Hp) (s3:Shared) (m:Str->Option Value),s2.heap.objs.size<=C->s2.heap.objs.size<=D->D≠C->Inv X pins σ (aI H3 D (.lst ys)) s3->H3 C=none->H3 D=none->s3.heap.Ns C m->Qf ys H3->RR (.ref D) C (.ok .next) s3) :
  wpAny (model X.prog X.w) X.A (newList []) (fun acc s₃=>wpAny (model X.prog X.w) X.A (newFunctionEnv scope X.env.globals (iA X.env scope.names []) [] X.env.qual none .none (some X.env)) (fun cenv s₄=>
   codeAny (model X.prog X.w) X.A (.compStart (.ListComp elt [⟨tg,iter,ifs,0⟩] scope pos) 0 (.ref it) acc {cenv with scope:=relabel scope X.env }) (RR acc cenv.locals) s₄) E s₃) E s2:=by
 obtain⟨W,⟨m0,w0⟩,turn⟩:=hw
 refine wpAny_newObj_type (wpAny_newFunctionEnv S.nocell (by intro y hy;simp at hy) (fun h₁ hns₁ hsb₁=>?_) S.kind)
 dsimp only at hns₁ hsb₁ ⊢
 generalize hH2:s2.heap.push {cls:=.type "list",dict:=none,data:=.seq ([]:List Value).toArray }=HP at hns₁ hsb₁ ⊢;have hC:HP.objs.size=s2.heap.objs.size+1:=by rw[<- hH2,Heap.size_push]
 have hDC:s2.heap.objs.size≠HP.objs.size:=by rw[hC];exact Nat.ne_of_lt (Nat.lt_succ_self _)
 have hCle:s2.heap.objs.size<=HP.objs.size:=by rw[hC];exact Nat.le_succ _
 have old:∀b o,s2.heap.get? b=some o->h₁.get? b=some o:=fun b o e=>hsb₁.extBut b o (by rw[hC];exact Nat.ne_of_lt (Nat.lt_succ_of_lt (Heap.lt_size e))) (hJ _ (hH2 ▸ hJ _ e))
 have hacc:h₁.get? s2.heap.objs.size=some {cls:=.type "list",data:=.seq ([]:List Value).toArray 0 }:=hsb₁.extBut _ _ hDC (hJ _ (hH2 ▸ Heap.get?_push_size _ rfl))
 have hfl:∀b∈fp,b<s2.heap.objs.size:=fun b hb=>by
  obtain⟨o,e,_⟩:=T.obj _ _ st2 b hb
  exact Heap.lt_size e
 generalize hDn:s2.heap.objs.size=D at hDC hCle hacc ⊢;generalize hCn:HP.objs.size=C at hDC hCle hns₁ ⊢;have hCs:s2.heap.objs.size<=C:=by rw[hDn];exact hCle
 have hDs:s2.heap.objs.size<=D:=Nat.le_of_eq hDn
 obtain⟨pg,pt,pe⟩:=hb C s2 H2 fp
 have I0:=S.start (D:=D) (fp:=fp) (tk:=s2.toks+([]:List (Str × Value)).length) I2 hCs hDs hDC f2 hfl old hns₁ hacc (fun v z=>nomatch z)
 have fpY:∀ {H':Hp} {pl:List (Addr × Obj)},(∀b∈fp,H' b=none)->(∀p∈pl,p.1∉fp)->∀b∈fp,oY (kJ X scope C N s2 H2 fp) pl H' b:=fun hn hp b hb=>
  ⟨hn b hb,Nat.ne_of_lt (Nat.lt_of_lt_of_le (hfl b hb) hCs),(S.ok I2 hCs f2 hfl).exfs b hb,.inl hb,fun x c e=>(f2 b hb).2.2.2.2.1 x c (cU e).1,fun p hm z=>by
   rcases Zma.mp hm with q | q
   ·exact absurd (show p∈([]:List (Addr × Obj)) from q) Zs
   ·exact hp p q (z ▸ hb)⟩
 have dfp:D∉fp:=fun z=>absurd (Nat.lt_of_lt_of_le (hfl D z) hDs) (Nat.lt_irrefl _)
 have one:∀ {ob:Obj},∀p∈[(D,ob)],p.1∉fp:=fun p hp=>by
  have e:=Zms.mp hp
  subst e;exact dfp
 have loop:∀s₃:Shared,s₃={s2 with heap:=h₁,toks:=s2.toks+([]:List (Str × Value)).length } →
   codeAny (model X.prog X.w) X.A (.compLoop (.ListComp elt [⟨tg,iter,ifs,0⟩] scope pos) 0 (.ref it) (.ref D) (compEnvC scope (iA X.env scope.names []) C X.env)) (RR (.ref D) C) s₃:=by
  rintro s₃ rfl
  refine codeAny_loop rfl (fun n s'=>∃(i:Nat) (ys:List V) (H':Hp) (its:List Value) (k:Nat),Inv (kJ X scope C N s2 H2 fp) [(D,{cls:=.type "list",data:=.seq its.toArray k })] (vP js σ) H' s'/\Vals ys its/\ys.length<=sizeLine/\tn i s'.heap/\(∀b∈fp,H' b=none)/\W i n ys H') ?_ m0 ?_
  ·rintro n s3 ⟨i,ys,H3,its,k,I3,rv,hz,st3,fr3,w3⟩
   show wpAny _ X.A ((compTurn (.ListComp elt [⟨tg,iter,ifs,0⟩] scope pos) 0 (.ref it) (.ref D) (compEnvC scope (iA X.env scope.names []) C X.env)).onRaise (fun x=>do noteFrame x _;theTreesLotGoes x)) _ _ s3
   refine wpAny_noted (wpAny_noRaise ?_)
   rw[compTurn_list];rcases turn i n ys H3 w3 with⟨stop,qn⟩ | ⟨goes,hlt,Nx,hN,step⟩
   ·refine wpAny_bind (wpAny_standAt (wpAny_bind (bK (T.done (kJ X scope C N s2 H2 fp) rfl rfl rfl hc i _ s3 (vP js σ) H3 (fun _ _=>False) I3 (fpY fr3 one) st3 stop) fun r s4 ⟨hr,I4⟩=>?_)))
    subst hr;refine wpAny_pure ?_
    have pD:=I4.pin (D,{cls:=.type "list",data:=.seq its.toArray k }) (by simp [kJ])
    obtain⟨mC,hnC,_⟩:=id I4.loc
    have IX:Inv X pins σ (aI H3 D (.lst ys)) s4:=by
     refine I2.call' (ch:=fp) I4.os (Un.more I4.base (Heap.get?_none_of_le hDs) (I2.hok.fresh hDs)) (HOk.more I4.hok pD.2.1 ⟨hz,its,k,rv,pD.1⟩) I4.bare fun b hb=>?_
     obtain⟨_,f1,_,f3,f4,f5⟩:=f2 b hb
     exact⟨f3,f1,f4,f5⟩
    exact hRR C D ys H3 s4 mC hCs hDs hDC IX I4.free pD.2.1 hnC qn
   ·refine wpAny_bind (wpAny_standAt (wpAny_bind (bK (T.item (kJ X scope C N s2 H2 fp) rfl rfl rfl hc i _ s3 (vP js σ) H3 (fun _ _=>False) I3 (fpY fr3 one) st3 goes) fun r s4 ⟨u,hr,h4⟩=>?_)))
    subst hr;refine wpAny_bind (bK h4 fun _ s5 ⟨x,H5,I5,r5,y5,st5,fr5⟩=>?_)
    have I5':=I5.pinned (fpY fr5 one) (T.obj _ _ st5)
    refine wpAny_bind (bK (pg _ s5 (vP js σ) H5 x u _ I5' r5 (go _ _ _ _ (step x H5 y5))) fun _ s6 ⟨σ6,H6,I6,⟨q6,l6,e6⟩⟩=>?_)
    have weak:∀ {pl:List (Addr × Obj)} {H7:Hp} {s7:Shared},Inv (kJ X scope C N s2 H2 fp) pl σ6 H7 s7->Inv (kJ X scope C N s2 H2 fp) pl (vP js σ) H7 s7:=fun {pl H7 s7} I7=>by
     refine I7.weak l6.symm fun j v hj=>?_
     cases e:js[j]? with
     | none=>unfold vP at hj;rw[fS,e]at hj;cases hj
     | some o=>
      cases o with
      | none=>unfold vP at hj;rw[fS,e]at hj;cases hj
      | some j'=>rw[e6 j j' e];exact hj
    have keepN:∀ {H7:Hp} {s7:Shared} {pl:List (Addr × Obj)},Inv (kJ X scope C N s2 H2 fp) (pl++mY fp s5.heap) (vP js σ) H7 s7->tn (i+1) s7.heap/\∀b∈fp,H7 b=none:=fun {H7 s7 pl} I7=>by
     refine⟨T.keep _ _ _ st5 fun b hb o e=>(I7.pin (b,o) (List.mem_append_right _ (List.mem_append_right _ (fU hb e)))).1,fun b hb=>?_⟩
     obtain⟨o,e,d⟩:=T.obj _ _ st5 b hb
     exact(I7.pin (b,o) (List.mem_append_right _ (List.mem_append_right _ (fU hb e)))).2.1
    refine wpAny_bind (bK (pt _ s6 σ6 H6 _ _ I6 q6) fun ok s7 ⟨H7,I7,q7⟩=>?_)
    cases ok with
    | false=>
     rw[if_neg Bool.false_ne_true]at q7;refine wpAny_pure ⟨rfl,?_⟩
     obtain⟨m',hm,w7⟩:=hN ys H7 q7
     have I7':=weak I7
     obtain⟨k1,k2⟩:=keepN I7'
     exact⟨m',hm,i+1,ys,H7,its,k,I7'.unpinned,rv,hz,k1,k2,w7⟩
    | true=>
     rw[if_pos rfl]at q7;show wpAny _ _ ((eval elt _ >>= fun x=>call (.builtin "list.append") [.ref D,x] >>= fun _=>pure ()) >>= fun _=>again _) _ _ _
     refine wpAny_bind (wpAny_bind (bK (pe _ s7 σ6 H7 _ I7 q7) fun y s8 ⟨yv,H8,I8,r8,q8⟩=>?_))
     obtain⟨m',hm,w8⟩:=hN (ys++[yv]) H8 q8
     have I8':=weak I8
     obtain⟨k1,k2⟩:=keepN I8'
     have pD:=I8'.pin (D,{cls:=.type "list",data:=.seq its.toArray k }) (by simp [kJ])
     have hln:=rv.length
     refine wpAny_bind (call_meets F.slot_list_append ⟨_,pD.1,rfl⟩ F.entry_list_append (F.args_list_append_2 _ _) (PySem.list_append D its.toArray k y (by rw[dM];omega)) ⟨pD.1,?_⟩)
     refine wpAny_pure (wpAny_pure ⟨rfl,m',hm,i+1,ys++[yv],H8,its++[y],?_⟩)
     have q:=PySem.IsL.update pD.1 (fun z=>z.push y)
     have eA:its.toArray.push y=(its++[y]).toArray:=by simp
     rw[eA]at q;have I9:Inv (kJ X scope C N s2 H2 fp) [] (vP js σ) H8 s8:=I8'.pins_of fun p hp=>absurd hp Zs
     have hob:∀b o,b≠D->s8.heap.get? b=some o->(s8.heap.update D (Obj.mapSeq fun z=>z.push y)).get? b=some o:=fun b o hb hu=>(Heap.get?_update_other s8.heap _ (Ne.symm hb)).trans hu
     have I10:Inv (kJ X scope C N s2 H2 fp) [] (vP js σ) H8 {s8 with heap:=s8.heap.update D (Obj.mapSeq fun z=>z.push y),toks:=s8.toks }:=I9.turned hob pD.2.1 pD.2.2.1 (.inr hDs)
      (fun x c e z=>by
       obtain⟨v,oc,q1,q2⟩:=I2.cell x c (cU e).1
       rw[z]at q1;exact absurd (Nat.lt_of_lt_of_le (Heap.lt_size q1) hDs) (Nat.lt_irrefl _))
      (fun p hp=>by
       rcases Zma.mp hp with q | q
       ·exact absurd (show p∈([]:List (Addr × Obj)) from q) Zs
       ·exact absurd q Zs)
     refine⟨(if ((its++[y]).toArray).size == its.toArray.size then k else k+1),I10.pins_of fun p hp=>?_,rv.append (.cons r8 .nil),?_,?_,k2,w8⟩
     ·have e:=Zms.mp hp
      subst e;exact⟨q,pD.2.1,pD.2.2.1,pD.2.2.2.1,fun v z=>nomatch z⟩
     ·rw[pN,List.length_singleton];omega
     ·exact T.keep _ _ _ k1 fun b hb o e=>hob b o (fun z=>dfp (z ▸ hb)) e
  ·exact⟨0,[],H2,[],0,I0,.nil,Nat.zero_le _,T.keep _ _ _ st2 fun b _ o e=>old b o e,fun b hb=>(f2 b hb).1,w0⟩
 exact codeAny_compStart_list (loop _ rfl) (T.self _ 0 _ _ _ (T.keep _ _ _ st2 fun b _ o e=>old b o e) (loop _ rfl))
theorem Gs (hc:X.calm=true) (S:CompScope X scope N js) (go:zD js g) (hi:PI X tg iter wi)
  (hb:∀(C:Addr) (s₂:Shared) (H₂:Hp) (fp:List Addr),PG (kJ X scope C N s₂ H₂ fp) tg g/\Ph (kJ X scope C N s₂ H₂ fp) ifs tt/\PE (kJ X scope C N s₂ H₂ fp) elt te)
  (hs:∀x,foldedSetIterable iter X.env x=pure x:=by intro _;rfl):PE X (.ListComp elt [⟨tg,iter,ifs,0⟩] scope pos) (Jp wi js g tt te):=by
 intro pins s σ H Q I h;rw[eval_ListComp];refine wpAny_comprehension_free (use:=none) rfl hs (nH fun y hy hk=>I.ok.has y.1 (S.out y hy hk)) S.kind S.loc (bK (hi pins s σ H _ I h) fun v s1 h1=>bK h1 fun itv s2 h2=>?_)
 obtain⟨it,fp,tn,J,H2,e,I2,T,st2,f2,hw⟩:=h2
 subst e;refine nM (RR:=fun acc C=>compPost (model X.prog X.w) X.A X.xe none (EP X pins σ Q) acc C) hc S go hb I2 T st2 f2 hw ?_
 intro C D ys H3 s3 m hC hD hDC I3 fC fD hn q;refine⟨m,hn,fun h' hs'=>?_⟩
 refine⟨.ref D,aI H3 D (.lst ys),I3.turned (it:=C) (t':=s3.toks) (fun b o hb e=>(hs'.2 b hb).trans e) (by rw[aE (Ne.symm hDC)];exact fC) ?_ (.inr (hU I2.sz hC)) ?_ ?_,rfl,q D fD⟩
 ·exact Nat.ne_of_gt (Nat.lt_of_lt_of_le I2.lt hC)
 ·intro x c e z;obtain⟨v,oc,q1,q2⟩:=I2.cell x c e
  rw[z]at q1;exact absurd (Nat.lt_of_lt_of_le (Heap.lt_size q1) hC) (Nat.lt_irrefl _)
 ·intro p hp z;have:=Heap.lt_size (I2.pin p hp).1
  rw[z]at this;exact absurd (Nat.lt_of_lt_of_le this hC) (Nat.lt_irrefl _)
theorem Gu {i:Nat} {y:Str} {py spos:Pos} (hN:X.N.Nodup) (hy:X.N[i]?=some y) (hx:Ad X.env.scope y) (hc:X.calm=true) (S:CompScope X scope N js) (go:zD js g) (hi:PI X tg iter wi)
  (hb:∀(C:Addr) (s₂:Shared) (H₂:Hp) (fp:List Addr),PG (kJ X scope C N s₂ H₂ fp) tg g/\Ph (kJ X scope C N s₂ H₂ fp) ifs tt/\PE (kJ X scope C N s₂ H₂ fp) elt te)
  (hsw:swapsWith (.ListComp elt [⟨tg,iter,ifs,0⟩] scope pos) (some (.Name y py)) spos.line X.env=pure true)
  (hs:∀x,foldedSetIterable iter X.env x=pure x:=by intro _;rfl) (hf:X.fn y=true∨X.env.scope.names.lookup y=some .local:=by first | exact .inl rfl | exact .inr rfl | assumption) :
  PS X (.Assign [.Name y py] (.ListComp elt [⟨tg,iter,ifs,0⟩] scope pos) spos) (Jq i wi js g tt te):=by
 intro pins s σ H D I h;rw[exec_Assign_Name_used _ _ _ _ hsw];refine wpAny_bind (wpAny_standAt (wpAny_bind ?_))
 show wpAny _ X.A (do let _ ← comprehension (.ListComp elt [⟨tg,iter,ifs,0⟩] scope pos) scope X.env _ (newList []) false (eval iter X.env) (some (assign (.Name y py) X.env))) _ _ s
 refine wpAny_bind (bK (wpAny_comprehension_free (use:=some (assign (.Name y py) X.env)) (Q:=fun _ s'=>SP X pins D .next s') rfl hs (nH fun y hy hk=>I.ok.has y.1 (S.out y hy hk)) S.kind S.loc
  (bK (hi pins s σ H _ I h) fun v s1 h1=>bK h1 fun itv s2 h2=>?_)) fun _ s' hq=>wpAny_pure (wpAny_pure hq))
 obtain⟨it,fp,tn,J,H2,e,I2,T,st2,f2,hw⟩:=h2
 subst e;refine nM (RR:=fun acc C=>compPost (model X.prog X.w) X.A X.xe (some (assign (.Name y py) X.env)) (fun _ s'=>SP X pins D .next s') acc C) hc S go hb I2 T st2 f2 hw ?_
 intro C Da ys H3 s3 m hC hD hDC I3 fC fD hn q;have cne:∀x c,X.env.cells.lookup x=some c->c≠C:=fun x c e z=>by
  obtain⟨v,oc,q1,q2⟩:=I2.cell x c e
  rw[z]at q1;exact absurd (Nat.lt_of_lt_of_le (Heap.lt_size q1) hC) (Nat.lt_irrefl _)
 have lne:C≠X.env.locals:=Nat.ne_of_gt (Nat.lt_of_lt_of_le I2.lt hC)
 show wpAny _ X.A (assign (.Name y py) X.env (.ref Da)) _ _ _
 refine wpAny_assign_Name (pO (v:=.ref Da) I3 hN hy hx rfl (fun s4 I4 hs4=>?_) hf)
 obtain⟨a,hsb,ha⟩:=hs4
 have aC:C≠a:=by
  rcases ha with z | z
  ·rw[z];exact lne
  ·exact Ne.symm (cne y a z)
 refine⟨m,hn.sameBut hsb aC,fun h' hs'=>?_⟩
 refine⟨_,_,I4.turned (it:=C) (t':=s4.toks) (fun b o hb e=>(hs'.2 b hb).trans e) (by rw[aE (Ne.symm hDC)];exact fC) lne (.inr (hU I2.sz hC)) cne ?_,q Da fD⟩
 intro p hp z;have:=Heap.lt_size (I2.pin p hp).1
 rw[z]at this;exact absurd (Nat.lt_of_lt_of_le this hC) (Nat.lt_irrefl _)
end
end L2
namespace L2
open PySem PySem.Spec PyProof.Rows
abbrev tx (l:List Nat):Str:=⟨l.toArray⟩
theorem vQ (x:Str):tx x.cps.toList=x:=by cases x;simp
theorem eN (l:List Nat):(tx l).length=l.length:=by simp [Str.length]
theorem rK (a b:List Nat):tx a++tx b=tx (a++b):=by
 show Str.append (tx a) (tx b)=_
 unfold Str.append;simp
def iB {α:Type} (xs:List α) (lo hi:Option Int):List α:=(xs.drop (HT.sIx xs.length 0 lo)).take (HT.sIx xs.length xs.length hi - HT.sIx xs.length 0 lo)
theorem xI (n d:Nat) (v:Option Int):(match v with | none=>(d:Int) | some i=>max 0 (min (if i<0 then i+(n:Int) else i) (n:Int)))=((HT.sIx n d v:Nat):Int):=by
 cases v with
 | none=>rfl
 | some i=>
  show max 0 (min (if i<0 then i+(n:Int) else i) (n:Int))=(((if i<0 then (i+(n:Int)).toNat else min i.toNat n):Nat):Int)
  by_cases h:i<0
  ·rw[if_pos h,if_pos h];omega
  ·rw[if_neg h,if_neg h];omega
theorem Br (lo hi:Option Int) (n:Nat):Builtin.Str.strSliceIndices lo hi 1 n=(List.range (HT.sIx n n hi - HT.sIx n 0 lo)).map (HT.sIx n 0 lo+·):=by
 rw[<- sliceRange_one,<- xI n 0 lo,<- xI n n hi];unfold Builtin.Str.strSliceIndices;simp only [show(1:Int) > 0 by decide,if_true]
 cases lo <;> cases hi <;> rfl
theorem Gv (n d:Nat) (hd:d<=n) (v:Option Int):HT.sIx n d v<=n:=by
 cases v with
 | none=>exact hd
 | some i=>
  show(if i<0 then (i+(n:Int)).toNat else min i.toNat n)<=n
  split <;> omega
theorem zE (x:Str) (lo hi:Option Int):(Txt.slice x lo hi).cps.toList=iB x.cps.toList lo hi:=by
 have hl:x.cps.toList.length=x.length:=by simp [Str.length]
 unfold Txt.slice iB;rw[hl,Br];have key:=pick_run x.cps (HT.sIx x.length 0 lo) (HT.sIx x.length x.length hi - HT.sIx x.length 0 lo)
 split
 ·rename_i h
  have h2:(HT.sIx x.length x.length hi - HT.sIx x.length 0 lo)=x.length:=by simpa using h
  have h3:=Gv x.length x.length (bC _) hi
  have h4:HT.sIx x.length 0 lo=0∨x.length=0:=by omega
  rw[h2];rcases h4 with h4 | h4
  ·rw[h4,List.drop_zero,jD (by rw[hl];exact bC _)]
  ·have e:x.cps.toList=[]:=List.eq_nil_of_length_eq_zero (by rw[hl];exact h4)
   rw[e];simp
 ·simpa using key
theorem Bs (x:Str) (lo hi:Option Int):Txt.slice x lo hi=tx (iB x.cps.toList lo hi):=by
 rw[<- zE,vQ]
section
variable {X:Cx}
def Tv:V->Option Int->Option Int->Hp->VK->Prop:=fun x lo hi H Q=>∃z,x=.str z/\z.length<=sizeLine/\Q (.str (tx (iB z.cps.toList lo hi))) H
theorem vR {h:Heap} {sl:Addr} {vl vu:Value} {lo hi:Option Int} (hs:h.IsSliceOf sl vl vu .none) (pl:IsPart vl lo) (pu:IsPart vu hi):∃l u:Option (Int × Tok),h.IsSlice sl l u none/\l.map (·.1)=lo/\u.map (·.1)=hi:=by
 cases pl with
 | none=>
  cases pu with
  | none=>exact⟨none,none,hs,rfl,rfl⟩
  | int j t=>exact⟨none,some (j,t),hs,rfl,rfl⟩
 | int i t=>
  cases pu with
  | none=>exact⟨some (i,t),none,hs,rfl,rfl⟩
  | int j u=>exact⟨some (i,t),some (j,u),hs,rfl,rfl⟩
theorem Mr:SlR X Tv:=by
 intro pins s σ H x v vl vu lo hi sl Q I rx hs pl pu h;obtain⟨z,rfl,hz,q⟩:=h
 obtain⟨t,rfl⟩:=rx
 obtain⟨l,u,hS,e1,e2⟩:=vR hs pl pu
 refine⟨"str",_,F.slot_str_getitem.lookup,typeIs_str _ _ _,wpAny_getItem_str_slice hS rfl ?_⟩
 have fin:∀t' k,EP X pins σ Q (.str (Txt.slice z lo hi) t') {s with toks:=k }:=fun t' k=>⟨.str (tx (iB z.cps.toList lo hi)),H,I.tok _,⟨t',by rw[Bs]⟩,q⟩
 subst e1 e2;exact post_val_or_str ⟨hU (Txt.slice_le z _ _) hz,fun t' k=>fin t' k⟩
theorem jH {ns:List Str}:∀ {us:List Value},Vals (ns.map V.str) us->StrsAre us ns:=by
 induction ns with
 | nil=>intro us r;rw[List.map_nil]at r;cases r;exact .nil
 | cons n ns ih=>
  intro us r;rw[List.map_cons]at r;cases r with
  | cons r1 r2=>
   obtain⟨t,e⟩:=r1
   subst e;exact .cons n t (ih r2)
def Bt (K:W.Frag):V->List V->Hp->VK->Prop:=fun x vs H Q=>∃sep p ys,x=.str sep/\vs=[.ref p]/\SqL K H p (ys.map V.str)/\(ys.map (·.length)).sum+ys.length*sep.length<=16777216/\Q (.str (Txt.join sep ys)) H
theorem Gw:Ql X "str.join" (Bt X.K):=by
 intro pins s σ H x vs v us Q I rx rv h;obtain⟨sep,p,ys,rfl,rfl,hq,hz,q⟩:=h
 obtain⟨t,rfl⟩:=rx
 obtain⟨u,rfl,ru⟩:=rv.one
 cases ru
 obtain⟨its,r,pl,_⟩:=I.list hq
 exact join_list pl.isList (by simpa using jH r) hz fun t' k=>⟨.str _,H,I.tok _,⟨_,rfl⟩,q⟩
def Tw (K:W.Frag):List V->Hp->VK->Prop:=fun vs H Q=>∃x T t b,vs=[x,.ty T]/\jO K H x t/\W.kitOne K t (.type T)=some b/\Q (.bl b) H
theorem Bu:CallR X (.builtin "isinstance") (Tw X.K):=by
 intro pins s σ H xs us Q I r h;obtain⟨x,T,t,b,rfl,ty,e,q⟩:=h
 obtain⟨u,c,rfl,ru,rc⟩:∃u c,us=[u,c]/\RelV x u/\RelV (.ty T) c:=by
  cases r with
  | cons p q=>
   cases q with
   | cons p' q'=>
    cases q'
    exact⟨_,_,rfl,p,p'⟩
 cases (show c=Value.type T from rc)
 exact yT I ru ty e fun tk=>⟨.bl b,H,I.tok _,rfl,q⟩
def Ms (K:W.Frag):List V->Hp->VK->Prop:=fun vs H Q=>∃(p:Addr) (ns:List Int),vs=[.ref p]/\SqL K H p (ns.map V.int)/\Q (.int (List.sum ns)) H
theorem Bv (hc:X.calm=true):CallR X (.builtin "sum") (Ms X.K):=by
 intro pins s σ H xs us Q I r h;obtain⟨p,ns,rfl,hq,q⟩:=h
 obtain⟨u,rfl,ru⟩:=iZ r
 cases ru
 obtain⟨its,rv,pl,hz⟩:=I.list hq
 have hi:=nC rv
 obtain⟨xs,hx⟩:=hi.allInts.items
 have hl':s.heap.IsList p (intItems xs):=hx ▸ pl.isList
 refine sum_intListG (I.ok.hd hc) hl' fun h' tk t' hk=>?_
 have e1:ns=xs.toList.map (·.1):=by
  rw[<- nums_intItems,<- hx];exact(show numsOf its.toArray.toList=ns from hi.numsOf).symm
 have e2:preSum (numAt xs) xs.size=ns.sum:=by
  rw[preSum_eq,jD Zs,e1]
 rw[e2];exact⟨.int _,H,I.kept hk,⟨_,rfl⟩,q⟩
end
section
variable {X:Cx}
def kO (K:W.Frag) (neg:Bool):R2:=fun x y H Q=>∃(a b:Addr) (xs:List V),x=.ref a/\y=.ref b/\SqL K H a xs/\SqL K H b []/\Q (.bl (if neg then !xs.isEmpty else xs.isEmpty)) H
theorem iM {us:List Value} (r:Vals [] us):us=[]:=by cases r;rfl
theorem Bw (hu:X.A.units<cLine):OpR X (compareOp .Eq) (kO X.K false):=by
 intro pins s σ H x y v u Q I rx ry h;obtain⟨a,b,xs,rfl,rfl,h1,h2,q⟩:=h
 cases rx
 cases ry
 obtain⟨its,r1,p1,_⟩:=I.list h1
 obtain⟨its2,r2,p2,_⟩:=I.list h2
 have e2:=iM r2
 subst e2;have hl:=r1.length
 cases xs with
 | nil=>
  have e1:=iM r1
  subst e1;exact SeqAt.eq_listAt (e:=fun _=>true) p1.isList p2.isList rfl hu (fun j h=>absurd h Zs) ⟨.bl true,H,I,rfl,q⟩
 | cons z zs=>
  exact SeqAt.eq_list_lengthsAt p1.isList p2.isList (by simp only [dM,<- hl];simp) hu ⟨.bl false,H,I,rfl,q⟩
theorem Bx (hu:X.A.units<cLine):OpR X (compareOp .NotEq) (kO X.K true):=by
 intro pins s σ H x y v u Q I rx ry h;obtain⟨a,b,xs,rfl,rfl,h1,h2,q⟩:=h
 cases rx
 cases ry
 obtain⟨its,r1,p1,_⟩:=I.list h1
 obtain⟨its2,r2,p2,_⟩:=I.list h2
 have e2:=iM r2
 subst e2;have hl:=r1.length
 cases xs with
 | nil=>
  have e1:=iM r1
  subst e1;exact SeqAt.RcNeAt.lists (e:=fun _=>true) p1.isList p2.isList rfl hu (fun j h=>absurd h Zs) _ _ _ _ ⟨.bl false,H,I,rfl,q⟩
 | cons z zs=>
  exact SeqAt.RcNeAt.lists_lengths p1.isList p2.isList (by simp only [dM,<- hl];simp) hu _ _ _ _ ⟨.bl true,H,I,rfl,q⟩
end
end L2
namespace L2
open PySem PySem.Spec PyProof.Rows
def mB (x:V) (k:Bool->Prop):Prop:=match x with | .bl b=>k b | _=>False
def mI (x:V) (k:Int->Prop):Prop:=match x with | .int b=>k b | _=>False
def mS (x:V) (k:Str->Prop):Prop:=match x with | .str b=>k b | _=>False
def mR (x:V) (k:Addr->Prop):Prop:=match x with | .ref b=>k b | _=>False
theorem tH (x:V) (k:Bool->Prop):mB x k=∃b,x=.bl b/\k b:=by
 cases x <;> simp [mB]
theorem jS (x:V) (k:Int->Prop):mI x k=∃b,x=.int b/\k b:=by
 cases x <;> simp [mI]
theorem xJ (x:V) (k:Str->Prop):mS x k=∃b,x=.str b/\k b:=by
 cases x <;> simp [mS]
theorem dU (x:V) (k:Addr->Prop):mR x k=∃b,x=.ref b/\k b:=by
 cases x <;> simp [mR]
theorem cP {n:Nat} (h:Nat.ble n 1000=true):n<=sizeLine:=hU (Nat.le_of_ble_eq_true h) Zd
theorem fO {n:Nat} (h:n<=1000):n<=sizeLine:=hU h Zd
section
variable {X:Cx} {a b c e:Expr} {ta tb tc te:TE} {pos:Pos}
def vr (i:Nat):TE:=fun σ H Q=>match σ[i]? with | some (some v)=>Q v H | _=>False
theorem Qr (i:Nat):vr i=Ko i:=by
 funext σ H Q
 unfold vr Ko;apply propext
 cases σ[i]? with
 | none=>simp
 | some o=>cases o <;> simp
theorem xv (i:Nat) {x:Str} {pos:Pos} (hN:X.N[i]?=some x:=by rfl) (hv:Pm X.env.scope x:=by first | exact Or.inl rfl | exact Or.inr (Or.inl rfl) | exact Or.inr (Or.inr rfl)) (hd:(x == ("__debug__":Str))=false:=by decide)
  (hcd:(x == ("__classdict__":Str))=false:=by decide):PE X (.Name x pos) (vr i):=by
 rw[Qr];exact Kq hN hv hd hcd
theorem OpR.imp {f:Value->Value->Sem Value} {r r':R2} (h:OpR X f r) (hi:∀x y H Q,r' x y H Q->r x y H Q):OpR X f r':=fun pins s σ H x y v u Q I rx ry q=>h pins s σ H x y v u Q I rx ry (hi x y H Q q)
theorem UnR.imp {f:Value->Sem Value} {r r':V->Hp->VK->Prop} (h:UnR X f r) (hi:∀x H Q,r' x H Q->r x H Q):UnR X f r':=fun pins s σ H x v Q I rx q=>h pins s σ H x v Q I rx (hi x H Q q)
theorem CallR.imp {f:Value} {r r':List V->Hp->VK->Prop} (h:CallR X f r) (hi:∀xs H Q,r' xs H Q->r xs H Q):CallR X f r':=fun pins s σ H xs us Q I rs q=>h pins s σ H xs us Q I rs (hi xs H Q q)
theorem IxR.imp {r r':R2} (h:IxR X r) (hi:∀x y H Q,r' x y H Q->r x y H Q):IxR X r':=fun value slice pins s σ H x y v u Q I rx ry q=>h value slice pins s σ H x y v u Q I rx ry (hi x y H Q q)
theorem SlR.imp {r r':V->Option Int->Option Int->Hp->VK->Prop} (h:SlR X r) (hi:∀x l u H Q,r' x l u H Q->r x l u H Q):SlR X r':=fun pins s σ H x v vl vu lo hi' sl Q I rx hs pl pu q=>h pins s σ H x v vl vu lo hi' sl Q I rx hs pl pu (hi x lo hi' H Q q)
def m2 (C:Int->Int->Prop) (g:Int->Int->V):R2:=fun x y H Q=>mI x fun i=>mI y fun j=>C i j/\Q (g i j) H
def uZ (g:Int->Int->V):R2:=fun x y H Q=>mI x fun i=>mI y fun j=>Q (g i j) H
theorem iO {g:Int->Int->V} (x y:V) (H:Hp) (Q:VK) (h:uZ g x y H Q):Fq g x y H Q:=by
 unfold uZ at h;rw[jS]at h;obtain⟨i,rfl,h⟩:=h
 rw[jS]at h;obtain⟨j,rfl,h⟩:=h
 exact⟨i,j,rfl,rfl,h⟩
theorem rL {C:Int->Int->Prop} {g:Int->Int->V} (x y:V) (H:Hp) (Q:VK) (h:m2 C g x y H Q):rI C g x y H Q:=by
 unfold m2 at h;rw[jS]at h;obtain⟨i,rfl,h⟩:=h
 rw[jS]at h;obtain⟨j,rfl,hc,h⟩:=h
 exact⟨i,j,rfl,rfl,hc,h⟩
theorem Qs:OpR X (binaryOp .Add) (uZ fun i j=>.int (i+j)):=Lv.imp iO
theorem Qt:OpR X (binaryOp .Sub) (uZ fun i j=>.int (i - j)):=Lw.imp iO
theorem Qu:OpR X (binaryOp .Mult) (m2 CMul fun i j=>.int (i*j)):=Lx.imp rL
theorem Qv:OpR X (binaryOp .Mod) (m2 (fun _ j=>0<j) fun i j=>.int (i % j)):=Ly.imp rL
theorem Qw:OpR X (binaryOp .Pow) (m2 Lu fun i j=>.int (i ^ j.toNat)):=Ma.imp rL
theorem Tx:OpR X (compareOp .Lt) (uZ fun i j=>.bl (decide (i<j))):=Qc.imp iO
theorem Ty:OpR X (compareOp .LtE) (uZ fun i j=>.bl (decide (i<=j))):=Qd.imp iO
theorem Tz:OpR X (compareOp .Gt) (uZ fun i j=>.bl (decide (j<i))):=Qe.imp iO
theorem Ua:OpR X (compareOp .GtE) (uZ fun i j=>.bl (decide (j<=i))):=Qg.imp iO
def By:R2:=fun x y H Q=>mS x fun i=>mS y fun j=>i.length+j.length<=sizeLine/\Q (.str (i++j)) H
theorem Mt:OpR X (binaryOp .Add) By:=vE.imp fun x y H Q h=>by
 unfold By at h;rw[xJ]at h;obtain⟨i,rfl,h⟩:=h
 rw[xJ]at h;obtain⟨j,rfl,hc,h⟩:=h
 exact⟨i,j,rfl,rfl,hc,h⟩
def Sz:R2:=fun x y H Q=>match x,y with
 | .int i,.int j=>Q (.bl (decide (i=j))) H
 | .str i,.str j=>Q (.bl (decide (i=j))) H
 | .bl i,.bl j=>Q (.bl (decide (i=j))) H
 | .non,.non=>Q (.bl true) H
 | .int _,.non=>Q (.bl false) H | .non,.int _=>Q (.bl false) H
 | .str _,.non=>Q (.bl false) H | .non,.str _=>Q (.bl false) H
 | .bl _,.non=>Q (.bl false) H | .non,.bl _=>Q (.bl false) H
 | .int _,.str _=>Q (.bl false) H | .str _,.int _=>Q (.bl false) H
 | .bl _,.str _=>Q (.bl false) H | .str _,.bl _=>Q (.bl false) H
 | _,_=>False
def Ub:R2:=fun x y H Q=>match x,y with
 | .int i,.int j=>Q (.bl (!decide (i=j))) H
 | .str i,.str j=>Q (.bl (!decide (i=j))) H
 | .bl i,.bl j=>Q (.bl (!decide (i=j))) H
 | .non,.non=>Q (.bl false) H
 | .int _,.non=>Q (.bl true) H | .non,.int _=>Q (.bl true) H
 | .str _,.non=>Q (.bl true) H | .non,.str _=>Q (.bl true) H
 | .bl _,.non=>Q (.bl true) H | .non,.bl _=>Q (.bl true) H
 | .int _,.str _=>Q (.bl true) H | .str _,.int _=>Q (.bl true) H
 | .bl _,.str _=>Q (.bl true) H | .str _,.bl _=>Q (.bl true) H
 | _,_=>False
theorem Uc:OpR X (compareOp .Eq) Sz:=Jh.imp fun x y H Q h=>by
 unfold Sz at h;unfold Uu;split at h <;> first | exact h.elim | (refine⟨rfl,?_⟩;first | simpa using h | exact h)
theorem Ud:OpR X (compareOp .NotEq) Ub:=Ji.imp fun x y H Q h=>by
 unfold Ub at h;unfold Uv;split at h <;> first | exact h.elim | (refine⟨rfl,?_⟩;first | simpa using h | exact h)
theorem Qx:OpR X (compareOp .Is) (fun x y H Q=>match y with | .non=>Q (.bl (decide (x=.non))) H | _=>False):=Mc.imp fun x y H Q h=>by
 cases y <;> first | exact⟨rfl,h⟩ | exact h.elim
theorem Mu:OpR X (compareOp .IsNot) (fun x y H Q=>match y with | .non=>Q (.bl (!decide (x=.non))) H | _=>False):=Ft.imp fun x y H Q h=>by
 cases y <;> first | exact⟨rfl,h⟩ | exact h.elim
def mT (t:TE):TT:=fun σ H Q=>t σ H fun x H'=>mB x fun k=>Q k H'
theorem Jr (t:TE):mT t=wW t:=by
 funext σ H Q
 unfold mT wW;congr 1
 funext x H'
 exact tH x _
theorem Mv (t:TE):mT t=tB t:=by
 funext σ H Q
 unfold mT tB;congr 1
 funext x H'
 exact tH x _
theorem Qy {op:CmpOp} {r:R2} (ho:OpR X (compareOp op) r) (ha:PE X a ta) (hb:PE X b tb) (hm:behindInMarks op b=false:=by first | exact qX _ | rfl):PT X (.Compare a [op] [b] pos) (mT (sR r ta tb)):=by
 rw[Jr];exact Fv ho ha hb hm
theorem Qz {op:CmpOp} {r:R2} (ho:OpR X (compareOp op) r) (ha:PE X a ta) (hb:PE X b tb) (hm:behindInMarks op b=false:=by first | exact qX _ | rfl):PE X (.Compare a [op] [b] pos) (sR r ta tb):=Fu ho ha hb hm
def rM (r r':R2) (ta tb tc:TE):TE:=fun σ H Q=>ta σ H fun x H1=>tb σ H1 fun y H2=>r x y H2 fun z H3=>mB z fun k=>(if k=true then tc σ H3 fun w' H4=>r' y w' H4 Q else Q (.bl false) H3)
theorem zF (r r':R2) (ta tb tc:TE):rM r r' ta tb tc=vD r r' ta tb tc:=by
 funext σ H Q
 unfold rM vD;congr 1
 funext x H1
 congr 1
 funext y H2
 congr 1
 funext z H3
 exact tH z _
theorem Gx {op op':CmpOp} {r r':R2} (ho:OpR X (compareOp op) r) (ho':OpR X (compareOp op') r') (ha:PE X a ta) (hb:PE X b tb) (hc:PE X c tc)
  (hm:lastMarks [op,op'] [b,c]=false:=by with_unfolding_all rfl):PT X (.Compare a [op,op'] [b,c] pos) (mT (rM r r' ta tb tc)):=by
 rw[Jr,zF];exact As ho ho' ha hb hc hm
theorem Re {t:TE} (h:PE X e t) (he:∀whole,isTrue e X.env whole=(do let v ← whole;standAt e.pos;holding [v] (truthy v)):=by intro _;rfl):PT X e (mT t):=by
 rw[Mv];exact Ku h he
def Gy (ta tb:TE):TE:=fun σ H Q=>ta σ H fun x H1=>mB x fun c=>if c=true then Q (.bl true) H1 else tb σ H1 Q
def xK (ta:TE):TE:=fun σ H Q=>ta σ H fun x H1=>mB x fun c=>Q (.bl (!c)) H1
theorem Ue {rest:List Expr} (ha:PE X a ta) (hb:PE X (.BoolOp .Or (b::rest) pos) tb):PE X (.BoolOp .Or (a::b::rest) pos) (Gy ta tb):=by
 have:Gy ta tb=Ky ta tb:=by
  funext σ H Q;unfold Gy Ky;congr 1;funext x H1;exact tH x _
 rw[this];exact Pr ha hb
theorem Rf (ha:PE X a ta):PE X (.UnaryOp .Not a pos) (xK ta):=by
 have:xK ta=Ah ta:=by
  funext σ H Q;unfold xK Ah;congr 1;funext x H1;exact tH x _
 rw[this];exact Lk ha
theorem Rg (ha:PE X a ta):PE X (.UnaryOp .USub a pos) (Tm (fun x H Q=>mI x fun i=>Q (.int (-i)) H) ta):=Qa (Mb.imp fun x H Q h=>by
 rw[jS]at h;obtain⟨i,rfl,h⟩:=h
 exact⟨i,rfl,h⟩) ha
def Gz (K:W.Frag):R2:=fun x y H Q=>mR x fun p=>mI y fun i=>∃xs,SqL K H p xs/\∃v,nD xs i=some v/\Q v H
def tI (K:W.Frag):R2:=fun x y H Q=>mR x fun p=>mI y fun i=>∃xs,SqT K H p xs/\∃v,nD xs i=some v/\Q v H
def Mw:R2:=fun x y H Q=>mS x fun z=>mI y fun i=>z.length<=sizeLine/\∃c,nD z.cps.toList i=some c/\Q (.str (tx [c])) H
theorem Mx:IxR X (Gz X.K):=Gf.imp fun x y H Q h=>by
 unfold Gz at h;rw[dU]at h;obtain⟨p,rfl,h⟩:=h
 rw[jS]at h;obtain⟨i,rfl,xs,hq,v,hv,h⟩:=h
 exact⟨p,xs,i,v,rfl,rfl,hq,hv,h⟩
theorem Rh:IxR X (tI X.K):=Mi.imp fun x y H Q h=>by
 unfold tI at h;rw[dU]at h;obtain⟨p,rfl,h⟩:=h
 rw[jS]at h;obtain⟨i,rfl,xs,hq,v,hv,h⟩:=h
 exact⟨p,xs,i,v,rfl,rfl,hq,hv,h⟩
theorem Ri:IxR X Mw:=Mj.imp fun x y H Q h=>by
 unfold Mw at h;rw[xJ]at h;obtain⟨z,rfl,h⟩:=h
 rw[jS]at h;obtain⟨i,rfl,hz,c,hc,h⟩:=h
 exact⟨z,i,c,rfl,rfl,hz,hc,h⟩
theorem Uf {r:R2} (hr:IxR X r) (ha:PE X a ta) (hb:PE X b tb) (hs:rA b:=by exact fun _ _=>rfl):PE X (.Subscript a b pos) (sR r ta tb):=Qm hr ha hb hs
def xL (t:TE):TO:=fun σ H Q=>t σ H fun x H1=>mI x fun i=>Q (some i) H1
theorem Mz (h:PE X e te):PO X (some e) (xL te):=by
 have:xL te=Ba te:=by
  funext σ H Q;unfold xL Ba;congr 1;funext x H1;exact jS x _
 rw[this];exact Gd h
def Na:V->Option Int->Option Int->Hp->VK->Prop:=fun x lo hi H Q=>mS x fun z=>z.length<=sizeLine/\Q (.str (tx (iB z.cps.toList lo hi))) H
theorem Rj:SlR X Na:=Mr.imp fun x l u H Q h=>by
 unfold Na at h;rw[xJ]at h;obtain⟨z,rfl,hz,h⟩:=h
 exact⟨z,rfl,hz,h⟩
def Hj (K:W.Frag):V->Option Int->Option Int->Hp->VK->Prop:=fun x lo hi H Q=>mR x fun a=>∃xs,SqL K H a xs/\∀p,H p=none->Q (.ref p) (aI H p (.lst (iB xs lo hi)))
theorem Nb:SlR X (Hj X.K):=Gg.imp fun x l u H Q h=>by
 unfold Hj at h;rw[dU]at h;obtain⟨a,rfl,xs,hq,h⟩:=h
 exact⟨a,xs,rfl,hq,h⟩
theorem Nc:CallR X (.builtin "len") (fun vs H Q=>match vs with | [.str z]=>z.length<=sizeLine/\Q (.int z.length) H | _=>False):=rF.imp fun vs H Q h=>by
 split at h
 ·rename_i z
  exact⟨z,rfl,h.1,h.2⟩
 ·exact h.elim
theorem Nd:CallR X (.builtin "len") (fun vs H Q=>match vs with | [.ref p]=>∃ys,(SqL X.K H p ys∨SqT X.K H p ys)/\Q (.int ys.length) H | _=>False):=rE.imp fun vs H Q h=>by
 split at h
 ·rename_i p
  obtain⟨ys,hq,h⟩:=h
  exact⟨p,ys,rfl,hq,h⟩
 ·exact h.elim
theorem Rk:CallR X (.type "int") (fun vs H Q=>match vs with | [.bl k]=>Q (.int (if k then 1 else 0)) H | _=>False):=yS.imp fun vs H Q h=>by
 split at h
 ·rename_i k
  exact .inr ⟨k,rfl,h⟩
 ·exact h.elim
end
inductive Kd where | non | bl | int | str | lst | tup | dct
def Hk:Kd->String | .non=>"NoneType" | .bl=>"bool" | .int=>"int" | .str=>"str" | .lst=>"list" | .tup=>"tuple" | .dct=>"dict"
def Ta (H:Hp):V->Kd->Prop
 | .non,.non=>True | .bl _,.bl=>True | .int _,.int=>True | .str _,.str=>True
 | .ref a,.lst=>(∃xs,H a=some (.lst xs))∨∃o xs,H a=some (.frz o (.lst xs))
 | .ref a,.tup=>∃xs,H a=some (.tup xs)
 | .ref a,.dct=>∃kvs,H a=some (.dK kvs)
 | _,_=>False
def Tb:Kd->Kd->Bool | .non,.non=>true | .bl,.bl=>true | .int,.int=>true | .int,.bl=>true | .str,.str=>true | .lst,.lst=>true | .tup,.tup=>true | .dct,.dct=>true | _,_=>false
theorem Rl (K:W.Frag) (want k:Kd):W.kitOne K (.type (Hk k)) (.type (Hk want))=some (Tb want k):=by
 cases want <;> cases k <;> first | rfl | kernel_rfl
theorem Ug {K:W.Frag} {H:Hp} {x:V} {k:Kd} (h:Ta H x k):jO K H x (.type (Hk k)):=by
  cases x <;> cases k <;> first
    | exact h.elim
    | exact .non
    | exact .bl _
    | exact .int _
    | exact .str _
    | (obtain⟨xs,e⟩:=h;exact .tup e)
    | (obtain⟨xs,e⟩:=h;exact .dK e)
    | (rcases h with⟨xs,e⟩ | ⟨o,xs,e⟩
       . exact .lst e
       . exact .frz e)
def Nf (want:Kd):List V->Hp->VK->Prop:=fun vs H Q=>match vs with
 | [x,y]=>y=.ty (Hk want)/\∃k,Ta H x k/\Q (.bl (Tb want k)) H
 | _=>False
section
variable {X:Cx}
theorem Rm (want:Kd):CallR X (.builtin "isinstance") (Nf want):=Bu.imp fun vs H Q h=>by
 unfold Nf at h;split at h
 ·rename_i x y
  obtain⟨rfl,k,hk,h⟩:=h
  exact⟨x,_,_,_,rfl,Ug hk,Rl X.K want k,h⟩
 ·exact h.elim
variable {e:Expr} {te:TE} {p p2 pos:Pos} {T:Str}
def Ng (want:Kd) (te:TE):TE:=fun σ H Q=>te σ H fun x H1=>∃k,Ta H1 x k/\Q (.bl (Tb want k)) H1
theorem Rn (want:Kd) (he:PE X e te) (hg:Gl X "isinstance") (hm:X.mg "isinstance"=none) (hgT:Gl X T) (hmT:X.mg T=none) (hT:bootBuiltins T=some (.type (Hk want)))
  (hs:starEach [e,.Name T p2] X.env=(false,eval e X.env)::starEach [.Name T p2] X.env:=by rfl) (hs2:starEach [.Name T p2] X.env=(false,eval (.Name T p2) X.env)::starEach [] X.env:=by rfl)
  (hn:T≠"__name__":=by decide) (hd:(T == ("__debug__":Str))=false:=by decide) (hpl:(backTo pos (starEach [.Name T p2] X.env)).any (·.1)=false:=by rfl) :
  PE X (.Call (.Name "isinstance" p) [e,.Name T p2] [] pos) (Ng want te):=by
 have h:=sX (X:=X) (x:="isinstance") (p:=p) (pos:=pos) (Rm want) hg hm PyProof.Rows.boot_isinstance (qY he (qY (wR (v:=.ty (Hk want)) (pos:=p2) hgT hmT hT rfl hn hd) Aw hs2) hs) Zd Zd hs hpl
 intro pins s σ H Q I q;exact h pins s σ H Q I (by
  show te σ H _
  have:(fun(x:V) (H1:Hp)=>Nf want [x,.ty (Hk want)] H1 Q)=(fun x H1=>∃k,Ta H1 x k/\Q (.bl (Tb want k)) H1):=by
   funext x H1
   apply propext
   constructor
   ·rintro⟨_,z⟩;exact z
   ·intro z;exact⟨rfl,z⟩
  exact this ▸ q)
end
structure aH (P:Program) (w:World) (K:W.Frag) (mg:Str->Option Value) (base:Heap) (n:Nat) (x:Str) (ps:List Str) (sp:Sp):Prop where
 ex:∃(f:Addr) (fd:FuncData),fW P w K mg base mH n f fd ps sp/\mg x=some (.ref f)/\W.keepIn K (.ref f)=true/\Binds K fd ps []
section
variable {X:Cx} {n:Nat} {x:Str} {ps:List Str} {sp:Sp} {p pos:Pos} {e:Expr} {es:List Expr} {t:TA}
def Uh (sp:Sp) (t:TA):TE:=fun σ H Q=>t σ H fun vs H1=>sp vs H1 Q E0
theorem Ui (c:aH X.prog X.w X.K X.mg X.base n x ps sp) (hr:Room n X.A) (hg:Gl X x) (ha:PA X (e::es) t) (hdb:(x == ("__debug__":Str))=false:=by decide)
  (he:starEach (e::es) X.env=(false,eval e X.env)::starEach es X.env:=by rfl) (hpl:(backTo pos (starEach es X.env)).any (·.1)=false:=by rfl):PE X (.Call (.Name x p) (e::es) [] pos) (Uh sp t):=by
 obtain⟨f,fd,F,hm,hk,hb⟩:=c.ex
 have h:=Ga (X:=X) (p:=p) (pos:=pos) (E:=E0) F hr hg hm hk hb (dvs:=[]) .nil xE ha hdb he hpl
 intro pins s σ H Q I q;exact h pins s σ H Q I (by
  show t σ H _
  have:(fun(vs:List V) (H1:Hp)=>sp (vs++[]) H1 Q E0)=(fun vs H1=>sp vs H1 Q E0):=by
   funext vs H1;rw[List.append_nil]
  rw[this];exact q)
end
structure DefAt (K:W.Frag) (mg:Str->Option Value) (x:Str) (st:Stmt) (ps:List Str):Prop where
 ex:∃(f:Addr) (fd:FuncData),Fun K x x st f fd/\mg x=some (.ref f)/\Binds K fd ps []
theorem DefAt.ok {P:Program} {w:World} {K:W.Frag} {mg:Str->Option Value} {base:Heap} {x:Str} {st:Stmt} {N ps:List Str} {k:Nat} {sp:Sp} (D:DefAt K mg x st ps) (S:aK N ps (aB st)) (len:∀vs H Q E,sp vs H Q E->vs.length=ps.length)
  (hbody:∀(f:Addr) (cdv:Value) (A:Around) (outer:List Env) (s:Shared) (H:Hp) (vs:List V) (Q:VK) (E:XK),Room k (A.deeper (envOfC x (aB st) s.heap.objs.size f cdv))->sp vs H Q E →
   ∃t,PSs (cW mH P w K mg base N x (aB st) f cdv A outer s H E).nox (aQ st) t/\t {nx:=fun _ H'=>Q .non H',rt:=Q } (start N vs) H):aH P w K mg base (k+1) x ps sp:=by
 obtain⟨f,fd,F,hm,hb⟩:=D.ex
 exact⟨f,fd,F.ok S len (hbody f),hm,F.kp,hb⟩
def Bz (sc0:Scope) (N0:List Str) (scope:Scope) (N:List Str) (js:List (Option Nat)):Bool:=
 (scope.kind == .function)&&scope.names.all (fun y=>y.2 != .cell)&&scope.names.all (fun y=>y.2 != .local||scope.names.lookup y.1 == some .local)&&(js.length == N.length)&&
 (List.range js.length).all (fun i=>match js[i]? with | some (some j)=>(match N[i]? with | some x=>N0[j]? == some x&&scope.names.lookup x == some .free | none=>false) | _=>true)&&
 scope.names.all (fun y=>y.2 != .free||sc0.names.lookup y.1 == some .cell||sc0.names.lookup y.1 == some .free)
theorem CompScope.by {X:Cx} {scope:Scope} {N:List Str} {js:List (Option Nat)} (sc0:Scope) (N0:List Str) (h0:X.env.scope=sc0) (hN:X.N=N0) (ok:Bz sc0 N0 scope N js=true):CompScope X scope N js:=by
 unfold Bz at ok;simp only [Bool.and_eq_true]at ok
 obtain⟨⟨⟨⟨⟨h1,h2⟩,h3⟩,h4⟩,h5⟩,h6⟩:=ok
 refine⟨by simpa using h1,fun y hy=>?_,fun y hy hk=>?_,by simpa using h4,fun i j e=>?_,fun y hy hk=>?_⟩
 ·have:=List.all_eq_true.mp h2 y hy
  simpa using this
 ·have:=List.all_eq_true.mp h3 y hy
  rw[hk]at this;simpa using this
 ·have hi:i<js.length:=(Zgs.mp e).1
  have:=List.all_eq_true.mp h5 i (List.mem_range.mpr hi)
  rw[e]at this;cases q:N[i]? with
  | none=>simp [q]at this
  | some x=>
   simp only [q,Bool.and_eq_true,beq_iff_eq]at this
   exact⟨x,rfl,by rw[hN];exact this.1,this.2⟩
 ·have:=List.all_eq_true.mp h6 y hy
  rw[hk]at this;have z:(sc0.names.lookup y.1 == some .cell)=true∨(sc0.names.lookup y.1 == some .free)=true:=by simpa using this
  have ek:X.env.kindOf y.1=sc0.names.lookup y.1:=by rw[<- h0];rfl
  rw[ek];rcases z with z | z
  ·exact .inl (by simpa using z)
  ·exact .inr (by simpa using z)
end L2
namespace L2
open PySem PySem.Spec PyProof.Rows
def aO:Expr->Bool | .Starred _ _=>false | _=>true
theorem bG {e:Expr} {es:List Expr} {env:Env} (h:aO e=true):starEach (e::es) env=(false,eval e env)::starEach es env:=by
 cases e <;> first | rfl | cases h
theorem cX {es:List Expr} {env:Env} {pos:Pos} (h:es.all aO=true):(backTo pos (starEach es env)).any (·.1)=false:=by
 induction es with
 | nil=>rfl
 | cons e es ih=>
  rw[List.all_cons,Bool.and_eq_true]at h;rw[bG h.1];have:=ih h.2
  show(false||(backTo pos (starEach es env)).any (·.1))=false
  rw[this];rfl
section
variable {X:Cx} {e o:Expr} {es:List Expr} {te to:TE} {t:TA} {x:Str} {p pos apos cpos:Pos} {id T:String} {r:List V->Hp->VK->Prop}
theorem Nh (ha:PE X e te) (hr:PA X es t) (h:aO e=true:=by rfl):PA X (e::es) (jP te t):=qY ha hr (bG h)
theorem Hl (hc:CallR X (.builtin id) r) (hg:Gl X x) (hm:X.mg x=none) (hv:bootBuiltins x=some (.builtin id)) (ha:PA X (e::es) t) (hn:x≠"__name__":=by decide) (hdb:(x == ("__debug__":Str))=false:=by decide)
  (h1:aO e=true:=by rfl) (h2:es.all aO=true:=by rfl):PE X (.Call (.Name x p) (e::es) [] pos) (Pf r t):=sX hc hg hm hv ha hn hdb (bG h1) (cX h2)
theorem Ca (hc:CallR X (.type T) r) (hg:Gl X x) (hm:X.mg x=none) (hv:bootBuiltins x=some (.type T)) (ha:PA X (e::es) t) (hn:x≠"__name__":=by decide) (hdb:(x == ("__debug__":Str))=false:=by decide)
  (h1:aO e=true:=by rfl) (h2:es.all aO=true:=by rfl):PE X (.Call (.Name x p) (e::es) [] pos) (Pf r t):=yV hc hg hm hv ha hn hdb (bG h1) (cX h2)
theorem Ro {n:Nat} {ps:List Str} {sp:Sp} (c:aH X.prog X.w X.K X.mg X.base n x ps sp) (hr:Room n X.A) (hg:Gl X x) (ha:PA X (e::es) t) (hdb:(x == ("__debug__":Str))=false:=by decide)
  (h1:aO e=true:=by rfl) (h2:es.all aO=true:=by rfl):PE X (.Call (.Name x p) (e::es) [] pos) (Uh sp t):=Ui c hr hg ha hdb (bG h1) (cX h2)
theorem Cc {es:List Expr} {env:Env} {cpos:Pos} (h:es.all aO=true):(backTo cpos (starEach es env)).all (fun x=>!x.1)=true:=by
 induction es with
 | nil=>rfl
 | cons e es ih=>
  rw[List.all_cons,Bool.and_eq_true]at h;rw[bG h.1];show(!false&&(backTo cpos (starEach es env)).all (fun x=>!x.1))=true
  rw[ih h.2];rfl
theorem Uj {name:Str} {r:V->List V->Hp->VK->Prop} (pa:PlainAttrs T) (slot:Slot T name id) (hty:typeOf (.builtin id)=pure (.type "method_descriptor")) (hm:Ql X id r) (ho:PE X o to) (ha:PA X (e::es) t)
  (hbase:attributeBase o name X.env (eval o X.env)=eval o X.env:=by rfl) (hline:(apos.endLine == cpos.line)=true:=by rfl) (h1:aO e=true:=by rfl) (h2:es.all aO=true:=by rfl) (hn:es.length+1<30:=by decide) :
  PE X (.Call (.Attribute o name apos) (e::es) [] cpos) (Sy X.K T r to t):=by
 refine Qn pa slot hty hm ho ha hbase ?_ hline (bG h1) (cX h2)
 rw[Cc (by rw[List.all_cons,h1,h2];rfl)]
 show(true&&true&&decide (es.length+1+0+0<30))=true
 simp
 omega
theorem Ni {p2:Pos} {T:Str} (want:Kd) (he:PE X e te) (hg:Gl X "isinstance") (hm:X.mg "isinstance"=none) (hgT:Gl X T) (hmT:X.mg T=none) (hT:bootBuiltins T=some (.type (Hk want)))
  (hn:T≠"__name__":=by decide) (hd:(T == ("__debug__":Str))=false:=by decide) (h1:aO e=true:=by rfl):PE X (.Call (.Name "isinstance" p) [e,.Name T p2] [] pos) (Ng want te):=
 Rn want he hg hm hgT hmT hT (bG h1) (bG rfl) hn hd (cX rfl)
end
end L2
namespace L2
open PySem PySem.Spec PyProof.Rows
theorem bZ:bootBuiltins "len"=some (.builtin "len"):=by decide +kernel
theorem bL:bootBuiltins "isinstance"=some (.builtin "isinstance"):=by decide +kernel
theorem Nj:bootBuiltins "sum"=some (.builtin "sum"):=by decide +kernel
theorem kP:bootBuiltins "sorted"=some (.builtin "sorted"):=by decide +kernel
theorem kQ:bootBuiltins "max"=some (.builtin "max"):=by decide +kernel
theorem Nk:bootBuiltins "min"=some (.builtin "min"):=by decide +kernel
theorem mJ:bootBuiltins "list"=some (.type "list"):=by decide +kernel
theorem Nl:bootBuiltins "str"=some (.type "str"):=by decide +kernel
theorem kR:bootBuiltins "int"=some (.type "int"):=by decide +kernel
theorem Hm:bootBuiltins "bool"=some (.type "bool"):=by decide +kernel
theorem tJ:bootBuiltins "tuple"=some (.type "tuple"):=by decide +kernel
theorem rN:bootBuiltins "dict"=some (.type "dict"):=by decide +kernel
structure Dk (H:Hp) (d b:Addr):Prop where
 ex:∃(ns:List Int) (s k:Int),H d=some (.lst [.ref b,.int s,.int k])/\H b=some (.lst (ns.map V.int))/\ns.length<=63
def Kp (d b:Addr) (H H':Hp):Prop:=∀c o,H c=some o->c≠d->c≠b->H' c=some o
theorem Kp.refl {d b:Addr} {H:Hp}:Kp d b H H:=fun _ _ e _ _=>e
theorem Kp.trans {d b:Addr} {H H1 H2:Hp} (x:Kp d b H H1) (y:Kp d b H1 H2):Kp d b H H2:=fun c o e h1 h2=>y c o (x c o e h1 h2) h1 h2
theorem Kp.new {d b p:Addr} {H:Hp} {o:HO} (h:H p=none):Kp d b H (aI H p o):=fun c u e _ _=>by rw[aE (aD e h)];exact e
theorem Dk.new {d b p:Addr} {H:Hp} {o:HO} (x:Dk H d b) (h:H p=none):Dk (aI H p o) d b:=by
 obtain⟨ns,s,k,h1,h2,h3⟩:=x.ex
 exact⟨ns,s,k,by rw[aE (aD h1 h)];exact h1,by rw[aE (aD h2 h)];exact h2,h3⟩
def Cd (K:W.Frag):Sp:=fun vs H Q _=>∃(a:Addr) (ns:List Int),vs=[.ref a]/\SqL K H a (ns.map V.int)/\∀d b H',H d=none->H b=none->Dk H' d b->Same H H'->Q (.ref d) H'
end L2
namespace L2
theorem Ce {c:Bool} {A B:Prop} (h:c=true) (k:A):if c=true then A else B:=by rw[if_pos h];exact k
theorem tK {c:Bool} {A B:Prop} (h:c=false) (k:B):if c=true then A else B:=by rw[if_neg (by rw[h];exact Bool.false_ne_true)];exact k
theorem bQ {c:Bool} {A B:Prop} (ht:c=true->A) (hf:c=false->B):if c=true then A else B:=by
 cases h:c with
 | true=>rw[if_pos rfl];exact ht h
 | false=>rw[if_neg Bool.false_ne_true];exact hf h
end L2
namespace L2
open PySem PySem.Spec PyProof.Rows
structure vS (J:It) (xs:List V) (A:Hp->Prop):Prop where
 go:∀i H,i<xs.length->A H->J.go i H
 yld:∀i H x H',i<xs.length->A H->J.yld i H x H'->H'=H/\xs[i]?=some x
 stop:∀H,A H->J.stop xs.length H
def iC (lo:Int) (n:Nat):List V:=(List.range n).map fun(i:Nat)=>V.int (lo+(i:Int))
theorem dC (lo:Int) (n:Nat):vS (Sv lo n) (iC lo n) (fun _=>True):=by
 have hl:(iC lo n).length=n:=by simp [iC]
 refine⟨fun i H hi _=>by rw[hl]at hi;exact hi,fun i H v H' hi _ ⟨e,ev⟩=>⟨e,?_⟩,fun H _=>by rw[hl];exact bC _⟩
 subst ev;rw[hl]at hi;unfold iC;rw[fS,List.getElem?_range hi];rfl
theorem aS (K:W.Frag) (a:Addr) (xs:List V):vS (Pe K a) xs (fun H=>SqL K H a xs):=
 ⟨fun i H hi h=>⟨xs,xs[i],h,by simp [hi]⟩,fun i H x H' _ h ⟨e,y⟩=>⟨e,y xs h⟩,fun H h=>⟨xs,h,bC _⟩⟩
theorem Hn (K:W.Frag) (a:Addr) (xs:List V):vS (Tl K a) xs (fun H=>SqT K H a xs):=
 ⟨fun i H hi h=>⟨xs,xs[i],h,by simp [hi]⟩,fun i H x H' _ h ⟨e,y⟩=>⟨e,y xs h⟩,fun H h=>⟨xs,h,bC _⟩⟩
theorem aZ {J:It} {xs:List V} {A:Hp->Prop} {js:List (Option Nat)} {g:TG} {tt:TT} {te:TE} {σ:St} {H:Hp} {Q:List V->Hp->Prop} (S:vS J xs A) (hz:xs.length<=100000) (Pv:Nat->List V->Hp->Prop) (hA:∀i ys H,Pv i ys H->A H/\ys.length<=i) (h0:Pv 0 [] H)
  (hs:∀i x ys H,xs[i]?=some x->Pv i ys H->g x (vP js σ) H fun σ2 H2=>tt σ2 H2 fun b H3=>if b=true then te σ2 H3 fun y H4=>Pv (i+1) (ys++[y]) H4 else Pv (i+1) ys H3)
  (hd:∀ys H,Pv xs.length ys H->Q ys H):nK js g tt te σ J H Q:=by
 refine⟨fun i m ys H=>m=xs.length - i/\i<=xs.length/\Pv i ys H,⟨xs.length,Zs,Nat.zero_le _,h0⟩,?_⟩
 rintro i m ys H ⟨rfl,hi,p⟩
 obtain⟨pa,hy⟩:=hA i ys H p
 by_cases hlt:i<xs.length
 ·refine .inr ⟨S.go i H hlt pa,kI (m:=100000) Zo Zd,Pv (i+1),fun ys' H' p'=>⟨xs.length - (i+1),Zo,rfl,hlt,p'⟩,fun x H' y=>?_⟩
  obtain⟨rfl,hx⟩:=S.yld i H x H' hlt pa y
  exact hs i x ys H' hx p
 ·have e:i=xs.length:=by omega
  subst e;exact .inl ⟨S.stop H pa,hd ys H p⟩
theorem cA {J:It} {xs:List V} {A:Hp->Prop} {g:TG} {tb:TS} {D:hZ} {σ:St} {H:Hp} (S:vS J xs A) (Pv:Nat->St->Hp->Prop) (hA:∀i σ H,Pv i σ H->A H) (h0:Pv 0 σ H)
  (hs:∀(i:Nat) (x:V) σ H,xs[i]?=some x->Pv i σ H->g x σ H fun σ2 H2=>tb {D with nx:=Pv (i+1),ct:=Pv (i+1),bk:=D.nx } σ2 H2) (hd:∀ σ H,Pv xs.length σ H->D.nx σ H) :
  ∃W:Nat->Nat->St->Hp->Prop,(∃m,W 0 m σ H)/\∀i m σ H,W i m σ H →
   (J.stop i H/\D.nx σ H)∨(J.go i H/\∃N:St->Hp->Prop,(∀ σ' H',N σ' H'->∃m',m'<m/\W (i+1) m' σ' H')/\∀x H',J.yld i H x H'->g x σ H' fun σ2 H2=>tb {D with nx:=N,ct:=N,bk:=D.nx } σ2 H2):=by
 refine⟨fun i m σ H=>m=xs.length - i/\i<=xs.length/\Pv i σ H,⟨xs.length,Zs,Nat.zero_le _,h0⟩,?_⟩
 rintro i m σ H ⟨rfl,hi,p⟩
 have pa:=hA i σ H p
 by_cases hlt:i<xs.length
 ·refine .inr ⟨S.go i H hlt pa,Pv (i+1),fun σ' H' p'=>⟨xs.length - (i+1),Zo,rfl,hlt,p'⟩,fun x H' y=>?_⟩
  obtain⟨rfl,hx⟩:=S.yld i H x H' hlt pa y
  exact hs i x σ H' hx p
 ·have e:i=xs.length:=by omega
  subst e;exact .inl ⟨S.stop H pa,hd σ H p⟩
end L2
namespace L2
open PySem
theorem aG {H:Hp} {p:Addr} {o:HO} (h:H p=none):Same H (aI H p o):=fun b u q=>by rw[aE (aD q h)];exact q
theorem vT {α:Type} (xs:List α) (k:Nat):iB xs none (some (k:Int))=xs.take k:=by
 unfold iB;rw[HT.sIx_none,HT.sIx_nat,List.drop_zero,Nat.sub_zero,<- List.take_take,jD (bC _)]
theorem Ho {α β:Type} (f:α->β) (xs:List α) (lo hi:Option Int):iB (xs.map f) lo hi=(iB xs lo hi).map f:=by
 unfold iB;rw[aR,<- List.map_drop,<- List.map_take]
end L2
namespace L2
open PySem PySem.Spec PyProof.Rows
theorem aN {H:Hp} {p q:Addr} {o u:HO} (h:H p=some o) (hq:H q=none):aI H q u p=some o:=by rw[aE (aD h hq)];exact h
theorem Cf {α:Type} {xs:List α} {i:Int} (h0:0<=i) (h1:i<xs.length):∃v,nD xs i=some v/\v∈xs:=by
 obtain⟨j,rfl⟩:=Int.eq_ofNat_of_zero_le h0
 have hj:j<xs.length:=by omega
 exact⟨xs[j],dX (by simp [hj]),List.getElem_mem hj⟩
theorem xM (g:Array Nat):∀(ps:List Str) (acc:Array Nat),(ps.foldl (fun acc p=>acc++g++p.cps) acc).toList=acc.toList++(ps.map fun p=>g.toList++p.cps.toList).flatten
 | [],acc=>by simp
 | p::ps,acc=>by
  rw[List.foldl_cons,xM g ps];simp
theorem Cg (ps:List Str):(Txt.join (tx []) ps).cps.toList=(ps.map fun p=>p.cps.toList).flatten:=by
 unfold Txt.join Builtin.Str.glued;rw[xM];cases ps with
 | nil=>simp [Str.empty]
 | cons p ps=>simp
theorem Hq (ps:List Str):Txt.join (tx []) ps=tx (ps.map fun p=>p.cps.toList).flatten:=by rw[<- Cg,vQ]
theorem vU (ts:List Nat):Txt.join (tx []) (ts.map fun c=>tx [c])=tx ts:=by
 rw[Hq,List.map_map];congr 1
 congr 1
 induction ts with
 | nil=>rfl
 | cons c r ih=>rw[List.map_cons,List.flatten_cons,ih];rfl
theorem Ch:("":Str)=tx []:=by decide +kernel
end L2
namespace L2
open PySem
theorem Dk.ne {H:Hp} {d b p:Addr} (x:Dk H d b) (h:H p=none):p≠d/\p≠b:=by
 obtain⟨ns,s,k,h1,h2,h3⟩:=x.ex
 exact⟨(aD h1 h).symm,(aD h2 h).symm⟩
theorem nN (x:Str):x=tx x.cps.toList:=(vQ x).symm
end L2
namespace L2
open PySem
theorem tL:∀ts:List Nat,((ts.map fun c=>tx [c]).map (·.length)).sum=ts.length
 | []=>rfl
 | c::ts=>by
  rw[List.map_cons,List.map_cons,List.sum_cons,tL ts,sQ];show 1+ts.length=_
  omega
end L2
namespace L2
open PySem
theorem Nm {t:TS} {D:hZ} {σ:St} {H:Hp} (R:St->Hp->Prop) (h:∀nx:St->Hp->Prop,(∀ σ' H',R σ' H'->nx σ' H')->t {D with nx:=nx } σ H) (h2:∀ σ' H',R σ' H'->D.nx σ' H'):t D σ H:=h D.nx h2
theorem Dk.same {H H':Hp} {d b:Addr} (s:Same H H') (h:Dk H d b):Dk H' d b:=by
 obtain⟨ns,s0,k,h1,h2,h3⟩:=h.ex
 exact⟨ns,s0,k,s _ _ h1,s _ _ h2,h3⟩
end L2
namespace L2
open PySem PySem.Spec PyProof.Rows
structure XE (X:Cx) (e:Expr) (t:TE):Prop where
 h:PE X e t
structure XT (X:Cx) (e:Expr) (t:TT):Prop where
 h:PT X e t
structure XW (X:Cx) (e:Expr) (t:TT):Prop where
 h:PW X e t
structure XA (X:Cx) (es:List Expr) (t:TA):Prop where
 h:PA X es t
structure XS (X:Cx) (st:Stmt) (t:TS):Prop where
 h:PS X st t
structure XB (X:Cx) (st:List Stmt) (t:TS):Prop where
 h:PSs X st t
structure XI (X:Cx) (tg iter:Expr) (t:TI):Prop where
 h:PI X tg iter t
structure XG (X:Cx) (e:Expr) (t:TG):Prop where
 h:PG X e t
structure Rp (X:Cx) (es:List Expr) (t:Aj):Prop where
 h:Pu X es t
structure XO (X:Cx) (e:Option Expr) (t:TO):Prop where
 h:PO X e t
structure Tc (X:Cx) (cs:List Expr) (t:TT):Prop where
 h:Ph X cs t
structure Nn (X:Cx) (t:yM):Prop where
 h:Fm X t
structure jI (X:Cx) (f:Value->Value->Sem Value) (r:R2):Prop where
 h:OpR X f r
structure Pi (X:Cx) (r:R2):Prop where
 h:IxR X r
structure Rq (X:Cx) (r:V->Option Int->Option Int->Hp->VK->Prop):Prop where
 h:SlR X r
structure XC (X:Cx) (f:Value) (r:List V->Hp->VK->Prop):Prop where
 h:CallR X f r
structure XM (X:Cx) (id:String) (r:V->List V->Hp->VK->Prop):Prop where
 h:Ql X id r
namespace R
section
variable {X:Cx} {a b c e o i:Expr} {es rest:List Expr} {ta tb tc te to ti:TE} {tA tB':TT} {t u:TA} {pos p p2 apos cpos pos':Pos} {x:Str} {n:Nat} {r r':R2}
theorem v (i:Nat) {x:Str} {pos:Pos} (hN:X.N[i]?=some x:=by rfl) (hv:Pm X.env.scope x:=by first | exact Or.inl rfl | exact Or.inr (Or.inl rfl) | exact Or.inr (Or.inr rfl)) (hd:(x == ("__debug__":Str))=false:=by decide)
  (hcd:(x == ("__classdict__":Str))=false:=by decide):XE X (.Name x pos) (vr i):=⟨xv i hN hv hd hcd⟩
theorem aa {i j pos}:XE X (.Constant (.int i) j pos) (tC (.int i)):=⟨Kr⟩
theorem bl {b j pos}:XE X (.Constant (.bool b) j pos) (tC (.bl b)):=⟨Pn⟩
theorem cn {j pos}:XE X (.Constant .none j pos) (tC .non):=⟨Ks⟩
theorem ae {x j pos}:XE X (.Constant (.str x) j pos) (tC (.str x)):=⟨Kt⟩
theorem gI {z:Int} (hg:Gl X x) (hm:∃t,X.mg x=some (.int z t)) (hd:(x == ("__debug__":Str))=false:=by decide):XE X (.Name x pos) (tC (.int z)):=by
 obtain⟨t,hm⟩:=hm;exact⟨wQ hg hm ⟨t,rfl⟩ hd⟩
theorem gR {a:Addr} (hg:Gl X x) (hm:X.mg x=some (.ref a)) (hd:(x == ("__debug__":Str))=false:=by decide):XE X (.Name x pos) (tC (.ref a)):=⟨wQ hg hm rfl hd⟩
theorem op {op:Operator} (ho:jI X (binaryOp op) r) (ha:XE X a ta) (hb:XE X b tb):XE X (.BinOp a op b pos) (sR r ta tb):=⟨Pz ho.h ha.h hb.h⟩
theorem aq:jI X (binaryOp .Add) (uZ fun i j=>.int (i+j)):=⟨Qs⟩
theorem cj:jI X (binaryOp .Sub) (uZ fun i j=>.int (i - j)):=⟨Qt⟩
theorem dj:jI X (binaryOp .Mult) (m2 CMul fun i j=>.int (i*j)):=⟨Qu⟩
theorem bp:jI X (binaryOp .Mod) (m2 (fun _ j=>0<j) fun i j=>.int (i % j)):=⟨Qv⟩
theorem bg:jI X (binaryOp .Pow) (m2 Lu fun i j=>.int (i ^ j.toNat)):=⟨Qw⟩
theorem fj:jI X (binaryOp .Add) By:=⟨Mt⟩
theorem lt:jI X (compareOp .Lt) (uZ fun i j=>.bl (decide (i<j))):=⟨Tx⟩
theorem le:jI X (compareOp .LtE) (uZ fun i j=>.bl (decide (i<=j))):=⟨Ty⟩
theorem gt:jI X (compareOp .Gt) (uZ fun i j=>.bl (decide (j<i))):=⟨Tz⟩
theorem ge:jI X (compareOp .GtE) (uZ fun i j=>.bl (decide (j<=i))):=⟨Ua⟩
theorem eq:jI X (compareOp .Eq) Sz:=⟨Uc⟩
theorem ne:jI X (compareOp .NotEq) Ub:=⟨Ud⟩
theorem inQ:jI X (compareOp .In) (Sx X.K false):=⟨yX⟩
theorem ib:jI X (compareOp .Is) (fun x y H Q=>match y with | .non=>Q (.bl (decide (x=.non))) H | _=>False):=⟨Qx⟩
theorem fk:jI X (compareOp .IsNot) (fun x y H Q=>match y with | .non=>Q (.bl (!decide (x=.non))) H | _=>False):=⟨Mu⟩
theorem eqNil (hu:X.A.units<cLine):jI X (compareOp .Eq) (kO X.K false):=⟨Bw hu⟩
theorem neNil (hu:X.A.units<cLine):jI X (compareOp .NotEq) (kO X.K true):=⟨Bx hu⟩
theorem cz {op:CmpOp} (ho:jI X (compareOp op) r) (ha:XE X a ta) (hb:XE X b tb) (hm:behindInMarks op b=false:=by first | exact qX _ | rfl):XE X (.Compare a [op] [b] pos) (sR r ta tb):=⟨Qz ho.h ha.h hb.h hm⟩
theorem ai {op:CmpOp} (ho:jI X (compareOp op) r) (ha:XE X a ta) (hb:XE X b tb) (hm:behindInMarks op b=false:=by first | exact qX _ | rfl):XT X (.Compare a [op] [b] pos) (mT (sR r ta tb)):=⟨Qy ho.h ha.h hb.h hm⟩
theorem ig {op op':CmpOp} (ho:jI X (compareOp op) r) (ho':jI X (compareOp op') r') (ha:XE X a ta) (hb:XE X b tb) (hc:XE X c tc) (hm:lastMarks [op,op'] [b,c]=false:=by with_unfolding_all rfl):XT X (.Compare a [op,op'] [b,c] pos) (mT (rM r r' ta tb tc)):=⟨Gx ho.h ho'.h ha.h hb.h hc.h hm⟩
theorem ay (ha:XE X a ta):XE X (.UnaryOp .USub a pos) (Tm (fun x H Q=>mI x fun i=>Q (.int (-i)) H) ta):=⟨Rg ha.h⟩
theorem bj {t:TE} (h:XE X e t) (he:∀whole,isTrue e X.env whole=(do let v ← whole;standAt e.pos;holding [v] (truthy v)):=by intro _;rfl):XT X e (mT t):=⟨Re h.h he⟩
theorem cq (ha:XT X a tA):XT X (.UnaryOp .Not a pos) (Pp tA):=⟨Kx ha.h⟩
theorem da (ha:XT X a tA):XW X (.BoolOp .And [a] pos) tA:=⟨Fi ha.h⟩
theorem df (ha:XT X a tA):XW X (.BoolOp .Or [a] pos) tA:=⟨Kv ha.h⟩
theorem bw (ha:XT X a tA) (hb:XW X (.BoolOp .And (b::rest) pos) tB'):XW X (.BoolOp .And (a::b::rest) pos) (Po tA tB'):=⟨Kw ha.h hb.h⟩
theorem cf (ha:XT X a tA) (hb:XW X (.BoolOp .Or (b::rest) pos) tB'):XW X (.BoolOp .Or (a::b::rest) pos) (Us tA tB'):=⟨Pq ha.h hb.h⟩
theorem tw (h:XW X e tA):XT X e tA:=⟨h.h.pt⟩
theorem jd {op} (h:XE X a ta):XE X (.BoolOp op [a] pos) ta:=⟨Kz h.h⟩
theorem or (ha:XE X a ta) (hb:XE X (.BoolOp .Or (b::rest) pos) tb):XE X (.BoolOp .Or (a::b::rest) pos) (Gy ta tb):=⟨Ue ha.h hb.h⟩
theorem ik (ha:XE X a ta):XE X (.UnaryOp .Not a pos) (xK ta):=⟨Rf ha.h⟩
theorem ix (hr:Pi X r) (ha:XE X a ta) (hb:XE X b tb) (hs:rA b:=by exact fun _ _=>rfl):XE X (.Subscript a b pos) (sR r ta tb):=⟨Uf hr.h ha.h hb.h hs⟩
theorem iL:Pi X (Gz X.K):=⟨Mx⟩
theorem iT:Pi X (tI X.K):=⟨Rh⟩
theorem iS:Pi X Mw:=⟨Ri⟩
theorem pn:XO X none xA:=⟨Gc⟩
theorem ps (h:XE X e te):XO X (some e) (xL te):=⟨Mz h.h⟩
theorem sl {r:V->Option Int->Option Int->Hp->VK->Prop} {lo hi:Option Expr} {tl th:TO} (hr:Rq X r) (he:XE X e te) (hl:XO X lo tl) (hu:XO X hi th):XE X (.Subscript e (.Slice lo hi none p2) pos) (Uw r te tl th):=⟨Bb hr.h he.h hl.h hu.h⟩
theorem sS:Rq X Na:=⟨Rj⟩
theorem sL:Rq X (Hj X.K):=⟨Nb⟩
theorem ac:XA X [] vJ:=⟨Aw⟩
theorem U (ha:XE X e te) (hr:XA X es t) (h:aO e=true:=by rfl):XA X (e::es) (jP te t):=⟨Nh ha.h hr.h h⟩
theorem ia {x1} (h:XA X es t):XE X (.Tuple es x1 pos) (Qh t):=⟨Md h.h⟩
theorem au (h:XA X es t):XE X (.List es pos) (Qi t):=⟨Me h.h⟩
theorem aw {id:String} {r:List V->Hp->VK->Prop} (hc:XC X (.builtin id) r) (hg:Gl X x) (hm:X.mg x=none) (hv:bootBuiltins x=some (.builtin id)) (ha:XA X (e::es) t) (hn:x≠"__name__":=by decide) (hdb:(x == ("__debug__":Str))=false:=by decide)
  (h1:aO e=true:=by rfl) (h2:es.all aO=true:=by rfl):XE X (.Call (.Name x p) (e::es) [] pos) (Pf r t):=⟨Hl hc.h hg hm hv ha.h hn hdb h1 h2⟩
theorem bo {T:String} {r:List V->Hp->VK->Prop} (hc:XC X (.type T) r) (hg:Gl X x) (hm:X.mg x=none) (hv:bootBuiltins x=some (.type T)) (ha:XA X (e::es) t) (hn:x≠"__name__":=by decide) (hdb:(x == ("__debug__":Str))=false:=by decide)
  (h1:aO e=true:=by rfl) (h2:es.all aO=true:=by rfl):XE X (.Call (.Name x p) (e::es) [] pos) (Pf r t):=⟨Ca hc.h hg hm hv ha.h hn hdb h1 h2⟩
theorem fi:XC X (.builtin "len") (fun vs H Q=>match vs with | [.str z]=>z.length<=sizeLine/\Q (.int z.length) H | _=>False):=⟨Nc⟩
theorem lenL:XC X (.builtin "len") (fun vs H Q=>match vs with | [.ref p]=>∃ys,(SqL X.K H p ys∨SqT X.K H p ys)/\Q (.int ys.length) H | _=>False):=⟨Nd⟩
theorem dm:XC X (.type "int") (fun vs H Q=>match vs with | [.bl k]=>Q (.int (if k then 1 else 0)) H | _=>False):=⟨Rk⟩
theorem sum (hc:X.calm=true):XC X (.builtin "sum") (Ms X.K):=⟨Bv hc⟩
theorem fn {n:Nat} {ps:List Str} {sp:Sp} (c:aH X.prog X.w X.K X.mg X.base n x ps sp) (hr:Room n X.A) (hg:Gl X x) (ha:XA X (e::es) t) (hdb:(x == ("__debug__":Str))=false:=by decide)
  (h1:aO e=true:=by rfl) (h2:es.all aO=true:=by rfl):XE X (.Call (.Name x p) (e::es) [] pos) (Uh sp t):=⟨Ro c hr hg ha.h hdb h1 h2⟩
theorem bm {T id:String} {name:Str} {r:V->List V->Hp->VK->Prop} (pa:PlainAttrs T) (slot:Slot T name id) (hty:typeOf (.builtin id)=pure (.type "method_descriptor")) (hm:XM X id r) (ho:XE X o to) (ha:XA X (e::es) t)
  (hbase:attributeBase o name X.env (eval o X.env)=eval o X.env:=by rfl) (hline:(apos.endLine == cpos.line)=true:=by rfl) (h1:aO e=true:=by rfl) (h2:es.all aO=true:=by rfl) (hn:es.length+1<30:=by decide) :
  XE X (.Call (.Attribute o name apos) (e::es) [] cpos) (Sy X.K T r to t):=⟨Uj pa slot hty hm.h ho.h ha.h hbase hline h1 h2 hn⟩
theorem bi:XM X "list.append" xC:=⟨yY⟩
theorem io:XM X "list.pop" Bf:=⟨Bg⟩
theorem join:XM X "str.join" (Bt X.K):=⟨Gw⟩
theorem dh {T:Str} (want:Kd) (he:XE X e te) (hg:Gl X "isinstance") (hm:X.mg "isinstance"=none) (hgT:Gl X T) (hmT:X.mg T=none) (hT:bootBuiltins T=some (.type (Hk want)))
  (hn:T≠"__name__":=by decide) (hd:(T == ("__debug__":Str))=false:=by decide) (h1:aO e=true:=by rfl):XE X (.Call (.Name "isinstance" p) [e,.Name T p2] [] pos) (Ng want te):=⟨Ni want he.h hg hm hgT hmT hT hn hd h1⟩
theorem fm:XE X (.Dict [] [] pos) (Bj):=⟨Bk⟩
variable {tg:Expr}
theorem wL (hl:XE X e te):XI X tg e (Ap X.K te):=⟨Fp hl.h⟩
theorem de (hg:Gl X "range") (hm:X.mg "range"=none) (ha:XA X [a] t) (h1:aO a=true:=by rfl):XI X tg (.Call (.Name "range" p) [a] [] pos) (Jg t):=⟨yO hg hm ha.h (bG h1)⟩
theorem gn {i:Nat} (hN:X.N.Nodup) (hi:X.N[i]?=some x:=by rfl) (hx:Ad X.env.scope x:=by first | exact Or.inl rfl | exact Or.inr rfl) (hf:X.fn x=true∨X.env.scope.names.lookup x=some .local:=by first | exact .inl rfl | exact .inr rfl | assumption):XG X (.Name x pos) (aJ i):=⟨Fn hN hi hx hf⟩
theorem dt:Rp X [] Pw:=⟨Fo⟩
theorem bz {tg1:TG} {tgs:Aj} (h1:XG X e tg1) (h2:Rp X es tgs) (hs:(assignEach (e::es) X.env).map (·.2)=assign e X.env::(assignEach es X.env).map (·.2):=by rfl):Rp X (e::es) (Jf tg1 tgs):=⟨Ak h1.h h2.h hs⟩
theorem gt' {k:Nat} {tgs:Aj} (hc:X.calm=true) (h:Rp X es tgs) (hn:(assignEach es X.env).length=n:=by rfl) (hst:(assignEach es X.env).findIdx? (·.1)=none:=by rfl):XG X (.Tuple es k pos) (Lm X.K n tgs):=⟨Ln hc h.h hn hst⟩
theorem fh:Nn X Jl:=⟨Bc⟩
theorem br {ts:yM} (ho:XE X o to) (hi:XE X i ti) (hs:Nn X ts) (ha:∀v,assign (.Subscript o i pos) X.env v=(do
   let ov ← holding [v] (eval o X.env)
   let iv ← holding [v,ov] (eval i X.env)
   standAt pos
   holding [v,ov,iv] (setItem ov iv v)
   release [v,ov,iv] []):=by intro _;rfl):XG X (.Subscript o i pos) (Px to ti ts):=⟨Lo ho.h hi.h hs.h ha⟩
end
section
variable {X:Cx} {c e tg iter elt:Expr} {ifs:List Expr} {te:TE} {tc tt:TT} {g:TG} {wi:TI} {st:Stmt} {ss sa sb:List Stmt} {t u:TS} {pos pos' spos py:Pos} {x y:Str} {scope:Scope} {N:List Str} {js:List (Option Nat)}
theorem dl:Tc X [] Bq:=⟨Gq⟩
theorem be (h:XT X c tt) (hx:X.xe=fun _ _=>False:=by rfl):Tc X [c] tt:=⟨Gr h.h hx⟩
theorem bb (hc:X.calm=true) (S:CompScope X scope N js) (go:zD js g) (hi:XI X tg iter wi)
  (hb:∀(C:Addr) (s₂:Shared) (H₂:Hp) (fp:List Addr),XG (kJ X scope C N s₂ H₂ fp) tg g/\Tc (kJ X scope C N s₂ H₂ fp) ifs tt/\XE (kJ X scope C N s₂ H₂ fp) elt te)
  (hs:∀x,foldedSetIterable iter X.env x=pure x:=by intro _;rfl):XE X (.ListComp elt [⟨tg,iter,ifs,0⟩] scope pos) (Jp wi js g tt te):=
 ⟨Gs hc S go hi.h (fun C s₂ H₂ fp=>let ⟨a,b,c⟩:=hb C s₂ H₂ fp;⟨a.h,b.h,c.h⟩) hs⟩
theorem fo {i:Nat} (hN:X.N.Nodup) (hy:X.N[i]?=some y) (hx:Ad X.env.scope y) (hc:X.calm=true) (S:CompScope X scope N js) (go:zD js g) (hi:XI X tg iter wi)
  (hb:∀(C:Addr) (s₂:Shared) (H₂:Hp) (fp:List Addr),XG (kJ X scope C N s₂ H₂ fp) tg g/\Tc (kJ X scope C N s₂ H₂ fp) ifs tt/\XE (kJ X scope C N s₂ H₂ fp) elt te)
  (hsw:swapsWith (.ListComp elt [⟨tg,iter,ifs,0⟩] scope pos) (some (.Name y py)) spos.line X.env=pure true)
  (hs:∀x,foldedSetIterable iter X.env x=pure x:=by intro _;rfl) (hf:X.fn y=true∨X.env.scope.names.lookup y=some .local:=by first | exact .inl rfl | exact .inr rfl | assumption) :
  XS X (.Assign [.Name y py] (.ListComp elt [⟨tg,iter,ifs,0⟩] scope pos) spos) (Jq i wi js g tt te):=
 ⟨Gu hN hy hx hc S go hi.h (fun C s₂ H₂ fp=>let ⟨a,b,c⟩:=hb C s₂ H₂ fp;⟨a.h,b.h,c.h⟩) hsw hs hf⟩
theorem av:XB X [] Jd:=⟨Fj⟩
theorem af (h1:XS X st t):XB X [st] t:=⟨Fk h1.h⟩
theorem ad (h1:XS X st t) (h2:XB X ss u):XB X (st::ss) (oX t u):=⟨Ai h1.h h2.h⟩
theorem am (he:XE X e te):XS X (.Return (some e) pos) (Ps te):=⟨Ll he.h⟩
theorem az (he:XE X e te) (hs:swapsWith e none pos.line X.env=pure false:=by rfl):XS X (.Expr e pos) (Je te):=⟨Fl he.h hs⟩
theorem ar (hc:XT X c tc) (ha:XB X sa t) (hb:XB X sb u):XS X (.If c sa sb pos) (yL tc t u):=⟨Pt hc.h ha.h hb.h⟩
theorem ah {i:Nat} (hN:X.N.Nodup) (he:XE X e te) (hi:X.N[i]?=some x:=by rfl) (hx:Ad X.env.scope x:=by first | exact Or.inl rfl | exact Or.inr rfl) (hs:swapsWith e (some (.Name x pos')) pos.line X.env=pure false:=by rfl)
  (hf:X.fn x=true∨X.env.scope.names.lookup x=some .local:=by first | exact .inl rfl | exact .inr rfl | assumption):XS X (.Assign [.Name x pos'] e pos) (Al te (aJ i)):=⟨Lq hN hi hx he.h hs hf⟩
theorem bq (he:XE X e te) (hg:XG X tg g) (hs:swapsWithSole [tg] e pos.line X.env=pure false:=by rfl) (hw:swappedStores [tg] e X.env=pure none:=by rfl) (h1:(assignEach [tg] X.env).map (·.2)=[assign tg X.env]:=by rfl) :
  XS X (.Assign [tg] e pos) (Al te g):=⟨Lp he.h hg.h hs hw h1⟩
theorem bh (hp:PassesOwn (model X.prog X.w) X.A X.env X.xe) (hc:X.calm=true) (hi:XI X tg iter wi) (hg:XG X tg g) (hb:XB X ss t) (hs:∀x,foldedSetIterable iter X.env x=pure x:=by intro _;rfl):XS X (.For tg iter ss [] pos) (Py wi g t):=⟨Lr hp hc hi.h hg.h hb.h hs⟩
theorem iw (hp:PassesOwn (model X.prog X.w) X.A X.env X.xe) (hc:XT X c tc) (hb:XB X ss t):XS X (.While c ss [] pos) (Am tc t):=⟨Ao hp hc.h hb.h⟩
end
end R
theorem DefAt.go {P:Program} {w:World} {K:W.Frag} {mg:Str->Option Value} {base:Heap} {x:Str} {st:Stmt} {N ps:List Str} {k:Nat} {sp:Sp} (D:DefAt K mg x st ps) (S:aK N ps (aB st)) (len:∀vs H Q E,sp vs H Q E->vs.length=ps.length)
  (hbody:∀(f:Addr) (cdv:Value) (A:Around) (outer:List Env) (s:Shared) (H:Hp) (vs:List V) (Q:VK) (E:XK),Room k (A.deeper (envOfC x (aB st) s.heap.objs.size f cdv))->sp vs H Q E →
   ∃t,XB (cW mH P w K mg base N x (aB st) f cdv A outer s H E).nox (aQ st) t/\t {nx:=fun _ H'=>Q .non H',rt:=Q } (start N vs) H):aH P w K mg base (k+1) x ps sp:=
 D.ok S len fun f cdv A outer s H vs Q E hr h=>let ⟨t,h1,h2⟩:=hbody f cdv A outer s H vs Q E hr h;⟨t,h1.h,h2⟩
theorem Fun.go {P:Program} {w:World} {K:W.Frag} {mg:Str->Option Value} {base:Heap} {x qual:Str} {st:Stmt} {f:Addr} {fd:FuncData} {N ps:List Str} {k:Nat} {sp:Sp} (F:Fun K x qual st f fd) (S:aK N ps (aB st)) (len:∀vs H Q E,sp vs H Q E->vs.length=ps.length)
  (hbody:∀(cdv:Value) (A:Around) (outer:List Env) (s:Shared) (H:Hp) (vs:List V) (Q:VK) (E:XK),Room k (A.deeper (envOfC qual (aB st) s.heap.objs.size f cdv))->sp vs H Q E →
   ∃t,XB (cW mH P w K mg base N qual (aB st) f cdv A outer s H E).nox (aQ st) t/\t {nx:=fun _ H'=>Q .non H',rt:=Q } (start N vs) H):fW P w K mg base mH (k+1) f fd ps sp:=
 F.ok S len fun cdv A outer s H vs Q E hr h=>let ⟨t,h1,h2⟩:=hbody cdv A outer s H vs Q E hr h;⟨t,h1.h,h2⟩
theorem No {K:W.Frag} {h:Heap} {mg:Str->Option Value} {x:Str} {st:Stmt} {ps:List Str} {f:Addr} {od an:Option Addr} {sl:Array (Option Value)} {oc kV dc pm cd ct:Value} (X:K.In h) (G:h.Ns mainGlobals mg)
  (a:W.nsIn K mainGlobals x=some (some (.ref f))) (l:K.lookup f=some ⟨oc,od,.func (W.fnOf x x (bP st) (aQ st) (aB st) .none kV dc pm an cd ct),sl⟩) (c:W.codeIn K cd x=true) (k:W.keepIn K (.ref f)=true)
  (hb:∀(kV doc pm:Value) (an:Option Addr) (cdv ct:Value) (us:List Value),us.length=ps.length->bindArgs (W.fnOf x x (bP st) (aQ st) (aB st) .none kV doc pm an cdv ct) ⟨us,[]⟩=pure (ps.zip us)):DefAt K mg x st ps:=
 ⟨f,_,jF l c k,W.mg_of X G a,(jF (st:=st) l c k).binds hb⟩
namespace R
section
variable {X:Cx} {K:W.Frag} {a b c e o i tg:Expr} {es rest:List Expr} {te to:TE} {t:TA} {pos p p2 apos cpos:Pos} {x:Str} {n:Nat}
theorem ao (hK:X.K=K:=by rfl):Pi X (Gz K):=hK ▸ iL
theorem ag (hK:X.K=K:=by rfl):Pi X (tI K):=hK ▸ iT
theorem fg (hK:X.K=K:=by rfl):Rq X (Hj K):=hK ▸ sL
theorem bd (hK:X.K=K:=by rfl):jI X (compareOp .In) (Sx K false):=hK ▸ inQ
theorem ic (hu:X.A.units<cLine) (hK:X.K=K:=by rfl):jI X (compareOp .Eq) (kO K false):=hK ▸ eqNil hu
theorem gw (hu:X.A.units<cLine) (hK:X.K=K:=by rfl):jI X (compareOp .NotEq) (kO K true):=hK ▸ neNil hu
theorem bc (hK:X.K=K:=by rfl):XC X (.builtin "len") (fun vs H Q=>match vs with | [.ref p]=>∃ys,(SqL K H p ys∨SqT K H p ys)/\Q (.int ys.length) H | _=>False):=hK ▸ lenL
theorem im (hc:X.calm=true) (hK:X.K=K:=by rfl):XC X (.builtin "sum") (Ms K):=hK ▸ sum hc
theorem ip (hK:X.K=K:=by rfl):XM X "str.join" (Bt K):=hK ▸ join
theorem ba {T id:String} {name:Str} {r:V->List V->Hp->VK->Prop} (pa:PlainAttrs T) (slot:Slot T name id) (hty:typeOf (.builtin id)=pure (.type "method_descriptor")) (hm:XM X id r) (ho:XE X o to) (ha:XA X (e::es) t) (hK:X.K=K:=by rfl)
  (hbase:attributeBase o name X.env (eval o X.env)=eval o X.env:=by rfl) (hline:(apos.endLine == cpos.line)=true:=by rfl) (h1:aO e=true:=by rfl) (h2:es.all aO=true:=by rfl) (hn:es.length+1<30:=by decide) :
  XE X (.Call (.Attribute o name apos) (e::es) [] cpos) (Sy K T r to t):=hK ▸ bm pa slot hty hm ho ha hbase hline h1 h2 hn
theorem ax (hl:XE X e te) (hK:X.K=K:=by rfl):XI X tg e (Ap K te):=hK ▸ wL hl
theorem dq {k:Nat} {tgs:Aj} (hc:X.calm=true) (h:Rp X es tgs) (hK:X.K=K:=by rfl) (hn:(assignEach es X.env).length=n:=by rfl) (hst:(assignEach es X.env).findIdx? (·.1)=none:=by rfl):XG X (.Tuple es k pos) (Lm K n tgs):=hK ▸ gt' hc h hn hst
end
end R
end L2
namespace L2
open PySem PySem.Spec PyProof.Rows
def LET:List Nat:=[97,98,99,100,101,102,103,104,105,106,107,108,109,110,111,112,113,114,115,116,117,118,119,120,121,122]
def Uy:List Nat:=[48,49,50,51,52,53,54,55,56,57]
theorem Ci:(("abcdefghijklmnopqrstuvwxyz":Str)).cps.toList=LET:=by decide +kernel
theorem Np:(("0123456789":Str)).cps.toList=Uy:=by decide +kernel
end L2
namespace L2
open PySem PySem.Spec PyProof.Rows
def eO (z:Str):Prop:=1<=z.length/\z.length<=8/\∀c∈z.cps.toList,c∈LET
namespace R
variable {X:Cx}
theorem iu (hc:X.calm=true):XC X (.builtin "max") (fun vs H Q=>match vs with | [.int i,.int j]=>Q (.int (if j > i then j else i)) H | _=>False):=⟨(yQ hc).imp fun vs H Q h=>by
 split at h
 ·rename_i i j
  exact⟨i,j,rfl,h⟩
 ·exact h.elim⟩
end R
end L2
namespace L2
open PySem PySem.Spec PyProof.Rows
section
variable {prog:Program} {w:World} {A:Around} {E:Value->Shared->Prop} {s:Shared}
theorem zG {t:Addr} {items:Array Value} {Q:Bool->Shared->Prop} (ht:IsTup s.heap t items) (h:Q true s):wpAny (model prog w) A (Builtin.Tuple.tupleIsExact (.ref t)) Q E s:=by
 unfold Builtin.Tuple.tupleIsExact;refine wpAny_bind (wpAny_typeOf ht.typeIs ?_)
 exact wpAny_pure h
theorem iX {t sl:Addr} {items:Array Value} {vl vu:Value} {lo hi:Option Int} {Q:Value->Shared->Prop} (ht:IsTup s.heap t items) (hs:s.heap.IsSliceOf sl vl vu .none) (pl:IsPart vl lo) (pu:IsPart vu hi)
  (hw:HT.sIx items.size 0 lo=0/\HT.sIx items.size items.size hi=items.size) (h:Q (.ref t) s):wpAny (model prog w) A (getItem (.ref t) (.ref sl)) Q E s:=by
 obtain⟨os,hos,hcs,hds⟩:=id hs
 have hTs:s.TypeIs (.ref sl) "slice":=⟨os,hos,hcs⟩
 unfold getItem;try with_reducible refine wpAny_holding ?_
 first | refine wpAny_bind (wpAny_pure ?_) | skip
 refine wpAny_bind (wpAny_sequenceKey ht.typeIs Zd ?_)
 refine wpAny_bind (wpAny_callSpecial?_slot (name:=Str.ofString "__getitem__") ht.typeIs PyProof.Rows.slot_tuple_getitem
  (wpAny_call_entry PyProof.Rows.slot_tuple_getitem ht.typeIs entry_tuple_getitem ?_ (args_tuple_getitem _ _)))
 show wpAny _ _ (Builtin.Tuple.tupleItemsOf (.ref t) >>= _) _ _ s
 refine wpAny_bind (tupleItemsOf_ ht ?_)
 refine wpAny_bind (wpAny_typeOf hTs ?_)
 rw[if_pos Zd]
 refine wpAny_bind (HT.sliceApplied_gen hs pl pu ?_)
 have hyes:(((HT.sIx items.size 0 lo:Nat):Int) == 0&&(1:Int) == 1&&(HT.sIx items.size items.size hi - HT.sIx items.size 0 lo) == items.size)=true:=by
  rw[hw.1,hw.2];simp
 show wpAny _ _ (if (((HT.sIx items.size 0 lo:Nat):Int) == 0&&(1:Int) == 1&&(HT.sIx items.size items.size hi - HT.sIx items.size 0 lo) == items.size)=true then _ else _) _ _ s
 rw[if_pos hyes];refine wpAny_bind (zG ht ?_)
 rw[if_pos rfl];exact wpAny_bind (wpAny_rule (wpAny_pure ⟨_,rfl,wpAny_pure h⟩))
theorem Cj {t b:Addr} {ws:List Value} {Q:Value->Shared->Prop} (ht:IsTup s.heap t ([]:List Value).toArray) (hb:IsTup s.heap b ws.toArray) (h1:Q (.ref b) s):wpAny (model prog w) A (binaryOp .Add (.ref t) (.ref b)) Q E s:=by
 obtain⟨⟨cls,dd,data,sl⟩,ho,hc,n,hd⟩:=id ht
 obtain⟨⟨cls2,dd2,data2,sl2⟩,ho2,hc2,n2,hd2⟩:=id hb
 simp only at hc hd hc2 hd2
 subst hc hd hc2 hd2;exact concat_meets ⟨_,ho,rfl⟩ ⟨_,ho2,rfl⟩ noFill_tuple_add seq_tuple_add PySem.F.slot_tuple_add PySem.F.entry_tuple_add (PySem.F.args_tuple_add_2 _ _)
   (tuple_addW0 t b _ ws.toArray n n2 dd dd2 sl sl2 Zs) ⟨ho,ho2,h1⟩
end
section
variable {X:Cx} {e o e1 e2:Expr} {te:TE} {pos p2 p3:Pos}
def Nq:V->Option Int->Option Int->Hp->VK->Prop:=fun x lo hi H Q=>mR x fun a=>∃xs,H a=some (.tup xs)/\∀p H',Same H H'->H' p=some (.tup (iB xs lo hi))->Q (.ref p) H'
theorem Rr:SlR X Nq:=by
 intro pins s σ H x v vl vu lo hi sl Q I rx hs pl pu h;unfold Nq at h;rw[dU]at h;obtain⟨a,rfl,xs,hx,q⟩:=h
 by_cases hw:HT.sIx xs.length 0 lo=0/\HT.sIx xs.length xs.length hi=xs.length
 ·cases rx
  obtain⟨its,r,ht,hz⟩:=I.tuple (SqT.of hx)
  have hlen:its.toArray.size=xs.length:=by rw[dM];exact r.length.symm
  refine⟨"tuple",_,PyProof.Rows.slot_tuple_getitem.lookup,ht.typeIs,?_⟩
  refine iX ht hs pl pu (by rw[hlen];exact hw) ⟨.ref a,H,I,rfl,q a H (Same.refl H) ?_⟩
  rw[hx];unfold iB;rw[hw.1,hw.2,List.drop_zero,Nat.sub_zero,jD (bC _)]
 ·exact Mg pins s σ H (.ref a) v vl vu lo hi sl Q I rx hs pl pu ⟨a,xs,rfl,SqT.of hx,hw,fun p hp=>q p _ (aG hp) aA⟩
def Ck:R2:=fun x y H Q=>mR x fun a=>mR y fun b=>∃xs ys,H a=some (.tup xs)/\H b=some (.tup ys)/\xs.length+ys.length<=1000/\∀p H',Same H H'->H' p=some (.tup (xs++ys))->Q (.ref p) H'
theorem Nr:OpR X (binaryOp .Add) Ck:=by
 intro pins s σ H x y v u Q I rx ry h;unfold Ck at h;rw[dU]at h;obtain⟨a,rfl,h⟩:=h
 rw[dU]at h;obtain⟨b,rfl,xs,ys,ha,hb,hz,q⟩:=h
 by_cases h0:xs=[]
 ·subst h0;cases rx
  cases ry
  obtain⟨its,r1,p1,_⟩:=I.tuple (SqT.of ha)
  obtain⟨its2,r2,p2,_⟩:=I.tuple (SqT.of hb)
  cases r1
  exact Cj p1 p2 ⟨.ref b,H,I,rfl,q b H (Same.refl H) (by rw[hb];rfl)⟩
 ·exact Ge pins s σ H _ _ v u Q I rx ry ⟨a,b,xs,ys,rfl,rfl,SqT.of ha,SqT.of hb,h0,hU hz Zd,(fun h1=>q a H (Same.refl H) (by rw[ha,h1,List.append_nil])),fun _ p hp=>q p _ (aG hp) aA⟩
end
def Vg (P:Params):List DictEntry->List (Str × Int)->Prop
 | [],[]=>True
 | e::r,(x,i)::q=>(∃t,e.key=.str x t)/\e.hash=PyData.keyHash P x/\(∃t,e.val=.int i t)/\Vg P r q
 | _,_=>False
structure Td (X:Cx) (pos:Pos) (keys:List (Option Expr)) (values:List Expr) (trs:List (TE × TE)):Prop where
 h:Qq X pos keys values trs
namespace R
section
variable {X:Cx} {K:W.Frag} {P:Params} {e e1 k v o f:Expr} {te t1 tk tv td ty tx':TE} {pos p2 apos cpos:Pos} {ks:List (Option Expr)} {vs:List Expr} {trs:List (TE × TE)}
theorem sT:Rq X Nq:=⟨Rr⟩
theorem bu:jI X (binaryOp .Add) Ck:=⟨Nr⟩
theorem gv (hK:X.K=K:=by rfl):XC X (.type "list") (fun vs H Q=>match vs with | [.ref p]=>∃ys,(SqL K H p ys∨SqT K H p ys)/\∀l,H l=none->Q (.ref l) (aI H l (.lst ys)) | _=>False):=hK ▸ ⟨rG.imp fun vs H Q h=>by
 split at h
 ·rename_i p
  obtain⟨ys,hq,h⟩:=h
  exact⟨p,ys,rfl,hq,h⟩
 ·exact h.elim⟩
theorem ir:Td X pos [] [] []:=⟨Gn⟩
theorem dz (hk:XE X k tk) (hv:XE X v tv) (hr:Td X pos ks vs trs):Td X pos (some k::ks) (v::vs) ((tk,tv)::trs):=⟨Bl hk.h hv.h hr.h⟩
theorem iq (h:Td X pos ks vs trs) (hall:ks.all (·.isSome)=true:=by rfl) (hl:ks.length=vs.length:=by rfl) (h0:ks≠[]:=by simp) (h15:ks.length<=15:=by decide):XE X (.Dict ks vs pos) (Jo trs):=⟨Go h.h hall hl h0 h15⟩
theorem bv (hu:X.A.units+1<cLine) (ho:XE X o td) (he:XE X e ty) (hf:XE X f tx') (h1:attributeBase o "get" X.env (eval o X.env)=eval o X.env:=by rfl) (h3:(apos.endLine == cpos.line)=true:=by rfl)
  (h2:((backTo cpos (starEach [e,f] X.env)).all (fun x=>!x.1)&&(backToKw cpos (keywordEach [] X.env)).all (fun x=>x.1.isSome)
  && decide (([e,f]:List Expr).length+([]:List Keyword).length+(if ([]:List Keyword).isEmpty then 0 else 1)<30))=true:=by rfl)
  (h4:backTo cpos (starEach [e,f] X.env)=[(false,eval e X.env),(false,eval f X.env)]:=by rfl):XE X (.Call (.Attribute o "get" apos) [e,f] [] cpos) (Bm td ty tx'):=⟨Bn hu ho.h he.h hf.h ⟨h1,h2,h3,h4⟩⟩
end
end R
end L2
namespace L2
open PySem PySem.Spec PyProof.Rows
def Rs:R2:=fun x y H Q=>mR x fun l=>mR y fun b=>∃xs zs,H l=some (.lst xs)/\H b=some (.lst zs)/\xs.length+zs.length<=sizeLine/\∀p,H p=none->Q (.ref p) (aI H p (.lst (xs++zs)))
theorem R.bn {X:Cx}:jI X (binaryOp .Add) Rs:=⟨Mm.imp fun x y H Q h=>by
 unfold Rs at h;rw[dU]at h;obtain⟨a,rfl,h⟩:=h
 rw[dU]at h;obtain⟨b,rfl,xs,zs,h⟩:=h
 exact⟨a,b,xs,zs,rfl,rfl,h⟩⟩
end L2
namespace L2
open PySem PySem.Spec PyProof.Rows
theorem Dk.tup_ne {H:Hp} {d b p:Addr} {xs:List V} (D:Dk H d b) (h:H p=some (.tup xs)):p≠d/\p≠b:=by
 obtain⟨ns,s,k,h1,h2,h3⟩:=D.ex
 exact⟨fun e=>(by rw[e,h1]at h;cases h),fun e=>(by rw[e,h2]at h;cases h)⟩
end L2
namespace L2
open PySem PySem.Spec PyProof.Rows
inductive TV where
 | sc (v:V)
 | tp (xs:List TV)
 | ls (xs:List TV)
def nO:V->Bool | .non=>true | .bl _=>true | .int _=>true | .str _=>true | _=>false
def Rep (H:Hp):Nat->TV->V->Prop
 | 0,.sc v,x=>x=v/\nO v=true
 | _+1,.sc v,x=>x=v/\nO v=true
 | n+1,.tp ts,x=>∃a xs,x=.ref a/\H a=some (.tup xs)/\Paired (Rep H n) ts xs
 | n+1,.ls ts,x=>∃a xs,x=.ref a/\H a=some (.lst xs)/\Paired (Rep H n) ts xs
 | 0,_,_=>False
theorem Paired.map' {α β:Type} {R S:α->β->Prop} (f:∀a b,R a b->S a b) {xs:List α} {ys:List β} (h:Paired R xs ys):Paired S xs ys:=by
 induction h with
 | nil=>exact .nil
 | cons h t ih=>exact .cons (f _ _ h) ih
theorem Rep.scal {H:Hp} {n:Nat} {v:V} (h:nO v=true):Rep H n (.sc v) v:=by
 cases n <;> exact⟨rfl,h⟩
theorem Paired.get' {α β:Type} {R:α->β->Prop}:∀ {xs:List α} {ys:List β} {j:Nat},Paired R xs ys->∀(h:j<ys.length),∃h':j<xs.length,R xs[j] ys[j]
 | _,_,0,.cons h t,_=>⟨Nat.succ_pos _,h⟩
 | _,_,j+1,.cons h t,hj=>let ⟨h',r⟩:=Paired.get' (j:=j) t (by simpa using hj);⟨by simpa using h',by simpa using r⟩
section
variable {X:Cx} {pins:List (Addr × Obj)} {s:Shared} {σ:St} {H:Hp}
theorem Hr (B:Around):B.in1.units=B.units+1:=rfl
theorem iD (n:Nat):(List.range n).all (fun _=>true)=true:=List.all_eq_true.mpr fun _ _=>rfl
theorem Cl (I:Inv X pins σ H s):∀(n:Nat) {t:TV} {x y:V} {v u:Value} {A:Around},Rep H n t x->Rep H n t y->RelV x v->RelV y u->A.units+n<cLine->SeqAt.EqAt A s v u true:=by
 have sc:∀ {v:V} {x y:V} {v1 u1:Value} {A:Around},(x=v/\nO v=true)->(y=v/\nO v=true)->RelV x v1->RelV y u1->SeqAt.EqAt A s v1 u1 true:=by
  rintro v x y v1 u1 A ⟨rfl,hx⟩ ⟨rfl,_⟩ r1 r2
  cases y with
  | non=>cases r1;cases r2;exact SeqAt.EqAt.same _
  | bl i=>cases r1;cases r2;exact SeqAt.EqAt.same _
  | int i=>
   obtain⟨t1,rfl⟩:=r1
   obtain⟨t2,rfl⟩:=r2
   have:=SeqAt.EqAt.int_int (A:=A) (s:=s) i t1 i t2
   rwa [beq_self_eq_true]at this
  | str i=>
   obtain⟨t1,rfl⟩:=r1
   obtain⟨t2,rfl⟩:=r2
   have:=SeqAt.EqAt.str_str (A:=A) (s:=s) i t1 i t2
   rwa [beq_self_eq_true]at this
  | _=>cases hx
 intro n;induction n with
 | zero=>
  intro t x y v u A h1 h2 r1 r2 hu;cases t with
  | sc z=>exact sc h1 h2 r1 r2
  | _=>exact h1.elim
 | succ n ih=>
  intro t x y v u A h1 h2 r1 r2 hu;cases t with
  | sc z=>exact sc h1 h2 r1 r2
  | tp ts=>
   obtain⟨a,xs,rfl,g1,p1⟩:=h1
   obtain⟨b,ys,rfl,g2,p2⟩:=h2
   cases r1
   cases r2
   by_cases hab:a=b
   ·subst hab;exact SeqAt.EqAt.same _
   ·obtain⟨its,ri,ti,_⟩:=I.tuple (SqT.of g1)
    obtain⟨its2,ri2,ti2,_⟩:=I.tuple (SqT.of g2)
    have el1:its.length=ts.length:=by rw[<- ri.length,p1.length]
    have el2:its2.length=ts.length:=by rw[<- ri2.length,p2.length]
    have key:=SeqAt.RcAt.tuples (A:=A) (s:=s) (e:=fun _=>true) ti ti2 Zo (fun j h1 h2=>by
     rw[dM]at h1 h2;obtain⟨h1',q1⟩:=Paired.get' (j:=j) ri h1
     obtain⟨h2',q2⟩:=Paired.get' (j:=j) ri2 h2
     obtain⟨h3,q3⟩:=Paired.get' (j:=j) p1 h1'
     obtain⟨h4,q4⟩:=Paired.get' (j:=j) p2 h2'
     simpa using ih q3 q4 q1 q2 (by rw[Hr];omega))
    have e:((List.range (min its.toArray.size its2.toArray.size)).all (fun _=>true)&&its.toArray.size == its2.toArray.size)=true:=by
     rw[iD,dM,dM,el1,el2,beq_self_eq_true];rfl
    rw[e]at key;exact SeqAt.EqAt.of_refs hab key
  | ls ts=>
   obtain⟨a,xs,rfl,g1,p1⟩:=h1
   obtain⟨b,ys,rfl,g2,p2⟩:=h2
   cases r1
   cases r2
   by_cases hab:a=b
   ·subst hab;exact SeqAt.EqAt.same _
   ·obtain⟨its,ri,ti,_⟩:=I.list (SqL.of g1)
    obtain⟨its2,ri2,ti2,_⟩:=I.list (SqL.of g2)
    have el1:its.length=ts.length:=by rw[<- ri.length,p1.length]
    have el2:its2.length=ts.length:=by rw[<- ri2.length,p2.length]
    have key:=SeqAt.RcAt.lists (A:=A) (s:=s) (e:=fun _=>true) ti.isList ti2.isList (by rw[dM,dM,el1,el2]) Zo (fun j h1 h2=>by
     rw[dM]at h1 h2;obtain⟨h1',q1⟩:=Paired.get' (j:=j) ri h1
     obtain⟨h2',q2⟩:=Paired.get' (j:=j) ri2 h2
     obtain⟨h3,q3⟩:=Paired.get' (j:=j) p1 h1'
     obtain⟨h4,q4⟩:=Paired.get' (j:=j) p2 h2'
     simpa using ih q3 q4 q1 q2 (by rw[Hr];omega))
    rw[iD]at key;exact SeqAt.EqAt.of_refs hab key
end
section
variable {X:Cx}
def Rt (neg:Bool):R2:=fun x y H Q=>∃n t,n<=50/\Rep H n t x/\Rep H n t y/\Q (.bl (!neg)) H
theorem Hs (neg:Bool) {pins:List (Addr × Obj)} {s:Shared} {σ:St} {H:Hp} {x y:V} {v u:Value} {Q:VK} {op:CmpOp} (hop:op=if neg then .NotEq else .Eq) (hu:X.A.units+64<cLine) (I:Inv X pins σ H s) (rx:RelV x v) (ry:RelV y u) (h:Rt neg x y H Q) :
  wpAny (model X.prog X.w) X.A (compareOp op v u) (EP X pins σ Q) X.xe s:=by
 obtain⟨n,t,hn,h1,h2,q⟩:=h
 have sc:∀z,t=.sc z->wpAny (model X.prog X.w) X.A (compareOp op v u) (EP X pins σ Q) X.xe s:=by
  rintro z rfl
  have e1:x=z/\nO z=true:=by cases n <;> exact h1
  have e2:y=z/\nO z=true:=by cases n <;> exact h2
  obtain⟨rfl,hx⟩:=e1
  obtain⟨rfl,_⟩:=e2
  have hs:L2.scal y y=true:=by cases y <;> first | rfl | cases hx
  cases neg with
  | true=>
   subst hop;exact Ji pins s σ H y y v u Q I rx ry ⟨hs,by simpa using q⟩
  | false=>
   subst hop;exact Jh pins s σ H y y v u Q I rx ry ⟨hs,by simpa using q⟩
 cases n with
 | zero=>
  cases t with
  | sc z=>exact sc z rfl
  | _=>exact h1.elim
 | succ n=>
  cases t with
  | sc z=>exact sc z rfl
  | tp ts=>
   obtain⟨a,xs,rfl,g1,p1⟩:=h1
   obtain⟨b,ys,rfl,g2,p2⟩:=h2
   cases rx
   cases ry
   obtain⟨its,ri,ti,_⟩:=I.tuple (SqT.of g1)
   obtain⟨its2,ri2,ti2,_⟩:=I.tuple (SqT.of g2)
   have el1:its.length=ts.length:=by rw[<- ri.length,p1.length]
   have el2:its2.length=ts.length:=by rw[<- ri2.length,p2.length]
   have each:∀j (h1:j<its.toArray.size) (h2:j<its2.toArray.size),SeqAt.EqAt X.A.in1 s its.toArray[j] its2.toArray[j] true:=fun j h1 h2=>by
    rw[dM]at h1 h2;obtain⟨h1',q1⟩:=Paired.get' (j:=j) ri h1
    obtain⟨h2',q2⟩:=Paired.get' (j:=j) ri2 h2
    obtain⟨h3,q3⟩:=Paired.get' (j:=j) p1 h1'
    obtain⟨h4,q4⟩:=Paired.get' (j:=j) p2 h2'
    simpa using Cl I n q3 q4 q1 q2 (by rw[Hr];omega)
   have e:((List.range (min its.toArray.size its2.toArray.size)).all (fun _=>true)&&its.toArray.size == its2.toArray.size)=true:=by
    rw[iD,dM,dM,el1,el2,beq_self_eq_true];rfl
   cases neg with
   | true=>
    subst hop;have key:=SeqAt.RcNeAt.tuples (A:=X.A) (s:=s) (e:=fun _=>true) ti ti2 Zo each
    rw[e]at key;exact key _ _ _ _ ⟨.bl false,H,I,rfl,q⟩
   | false=>
    subst hop;have key:=SeqAt.RcAt.tuples (A:=X.A) (s:=s) (e:=fun _=>true) ti ti2 Zo each
    rw[e]at key;exact key _ _ _ _ ⟨.bl true,H,I,rfl,q⟩
  | ls ts=>
   obtain⟨a,xs,rfl,g1,p1⟩:=h1
   obtain⟨b,ys,rfl,g2,p2⟩:=h2
   cases rx
   cases ry
   obtain⟨its,ri,ti,_⟩:=I.list (SqL.of g1)
   obtain⟨its2,ri2,ti2,_⟩:=I.list (SqL.of g2)
   have el1:its.length=ts.length:=by rw[<- ri.length,p1.length]
   have el2:its2.length=ts.length:=by rw[<- ri2.length,p2.length]
   have each:∀j (h1:j<its.toArray.size) (h2:j<its2.toArray.size),SeqAt.EqAt X.A.in1 s its.toArray[j] its2.toArray[j] true:=fun j h1 h2=>by
    rw[dM]at h1 h2;obtain⟨h1',q1⟩:=Paired.get' (j:=j) ri h1
    obtain⟨h2',q2⟩:=Paired.get' (j:=j) ri2 h2
    obtain⟨h3,q3⟩:=Paired.get' (j:=j) p1 h1'
    obtain⟨h4,q4⟩:=Paired.get' (j:=j) p2 h2'
    simpa using Cl I n q3 q4 q1 q2 (by rw[Hr];omega)
   cases neg with
   | true=>
    subst hop;have key:=SeqAt.RcNeAt.lists (A:=X.A) (s:=s) (e:=fun _=>true) ti.isList ti2.isList (by rw[dM,dM,el1,el2]) Zo each
    rw[iD]at key;exact key _ _ _ _ ⟨.bl false,H,I,rfl,q⟩
   | false=>
    subst hop;have key:=SeqAt.RcAt.lists (A:=X.A) (s:=s) (e:=fun _=>true) ti.isList ti2.isList (by rw[dM,dM,el1,el2]) Zo each
    rw[iD]at key;exact key _ _ _ _ ⟨.bl true,H,I,rfl,q⟩
theorem R.dw (hu:X.A.units+64<cLine):jI X (compareOp .NotEq) (Rt true):=⟨fun pins s σ H x y v u Q I rx ry h=>Hs true rfl hu I rx ry h⟩
end
end L2
namespace L2
open PySem PySem.Spec PyProof.Rows
theorem Nt (a b:Str):ltCps b.cps.toList a.cps.toList=false↔a.cps.toList<=b.cps.toList:=by
 rw[ltCps_eq,decide_eq_false_iff_not];exact Iff.rfl
theorem Cm {a b:Str} (h:a.cps.toList=b.cps.toList):a=b:=by rw[nN a,nN b,h]
theorem fP:∀(l:List Str) (p:Str),risingS p l=true->(p::l).Pairwise (fun a b=>a.cps.toList<=b.cps.toList)
 | [],p,_=>List.pairwise_singleton _ _
 | x::r,p,h=>by
  unfold risingS at h;rw[Bool.and_eq_true]at h;obtain⟨h1,h2⟩:=h
  have ih:=fP r x h2
  have hpx:p.cps.toList<=x.cps.toList:=(Nt p x).mp (by simpa using h1)
  refine List.pairwise_cons.mpr ⟨fun y hy=>?_,ih⟩
  rcases List.mem_cons.mp hy with rfl | hy
  ·exact hpx
  ·exact List.le_trans hpx ((List.pairwise_cons.mp ih).1 y hy)
theorem kS:∀(l:List Str),sortedS l=true->l.Pairwise (fun a b=>a.cps.toList<=b.cps.toList)
 | [],_=>List.Pairwise.nil
 | x::r,h=>fP r x h
theorem lR:∀(l m:List Str),l.Perm m->l.Pairwise (fun a b=>a.cps.toList<=b.cps.toList)->m.Pairwise (fun a b=>a.cps.toList<=b.cps.toList)->l=m
 | [],m,hp,_,_=>(List.nil_perm.mp hp).symm
 | a::l,[],hp,_,_=>(List.perm_nil.mp hp)
 | a::l,b::m,hp,h1,h2=>by
  obtain⟨p1,p2⟩:=List.pairwise_cons.mp h1
  obtain⟨q1,q2⟩:=List.pairwise_cons.mp h2
  have e:a=b:=by
   have ma:a∈b::m:=hp.mem_iff.mp iW
   have mb:b∈a::l:=hp.mem_iff.mpr iW
   rcases List.mem_cons.mp ma with h | h
   ·exact h
   ·rcases List.mem_cons.mp mb with h' | h'
    ·exact h'.symm
    ·exact Cm (List.le_antisymm (p1 b h') (q1 a h))
  subst e;rw[lR l m (List.Perm.cons_inv hp) p2 q2]
def gX (ss:List Str):List Str:=ss.mergeSort (fun a b=>decide (a.cps.toList<=b.cps.toList))
theorem fQ (ss:List Str):(gX ss).Perm ss:=List.mergeSort_perm _ _
theorem nP (ss:List Str):(gX ss).Pairwise (fun a b=>a.cps.toList<=b.cps.toList):=by
 have:=List.pairwise_mergeSort (le:=fun(a b:Str)=>decide (a.cps.toList<=b.cps.toList)) (fun a b c h1 h2=>decide_eq_true (List.le_trans (of_decide_eq_true h1) (of_decide_eq_true h2))) (fun a b=>by
  rcases List.le_total a.cps.toList b.cps.toList with h | h
  ·simp [h]
  ·simp [h]) ss
 exact this.imp fun h=>of_decide_eq_true h
theorem Cn {ss ss':List Str} (hp:ss'.Perm ss) (hs:sortedS ss'=true):ss'=gX ss:=
 lR _ _ (hp.trans (fQ ss).symm) (kS _ hs) (nP ss)
theorem fX (ss:List Str):(gX ss).length=ss.length:=(fQ ss).length_eq
section
variable {prog:Program} {w:World} {A:Around} {E:Value->Shared->Prop} {s:Shared}
theorem nQ {l:Addr} {T:String} {o:Obj} {vs:List Value} {ss:List Str} {n:Nat} {Q:Value->Shared->Prop} (hT:T="list"∨T="tuple") (ho:s.heap.get? l=some o) (hc:o.cls=.type T) (hd:o.data=.seq vs.toArray n) (hS:StrsAre vs ss) (h64:vs.length<64)
  (h:∀(h1 h':Heap) (out:Array Value) (e:Nat),(∀b ob,s.heap.get? b=some ob->h1.get? b=some ob)->(∀b ob,h1.get? b=some ob->h'.get? b=some ob)->h'.get? h1.objs.size=some (seqObj "list" out e)->StrsAre out.toList (gX ss)->Q (.ref h1.objs.size) {s with heap:=h' }) :
  wpAny (model prog w) A (call (.builtin "sorted") [.ref l]) Q E s:=by
 apply Calls.call_function_entry kind_sorted plain_sorted entry_sorted (args_sorted1 _)
 unfold Builtin.«sorted»
 apply wpAny_bind (m:=checkCount "sorted" 1 1 _)
 apply wpAny_pure
 apply wpAny_bind
 refine wpAny_collect_seq l hT ho hc hd (fun h1 k1=>?_) (by rw[dM];exact hU (Nat.le_of_lt h64) Zd)
 have e1:vs.toArray.toList=vs:=by simp
 rw[e1];apply wpAny_bind
 apply wpAny_newList
 ·have g2:(h1.push (seqObj "list" vs.toArray 0)).get? h1.objs.size=some (seqObj "list" vs.toArray 0):=Heap.get?_push_size _ rfl
  apply wpAny_bind
  apply wpAny_holding
  refine wpAny_call_entry slot_list_sort ⟨_,g2,rfl⟩ entry_list_sort (list_sort_treeK strKind_oneLt g2 hS.keysOf (fun v₁ v₂ rest e=>keyKind_strs (by rw[<- e];exact hS)) h64 fun st' hp hs=>⟨_,rfl,wpAny_pure ⟨_,rfl,?_⟩⟩) (args_list_sort _)
  obtain⟨ss',q1,q2,q3⟩:=sorted_out_str hS hp hs
  obtain⟨e,he⟩:=sortedHeap_at (out:=(arrOf st').map (·.2)) g2
  refine h h1 _ _ e k1 (fun b ob hb1=>?_) he (Cn q2 q3 ▸ q1)
  have hlt:=Heap.lt_size hb1
  rw[sortedHeap_old (Nat.ne_of_lt hlt) (by rw[size_push'];exact Nat.lt_succ_of_lt hlt)]
  exact hJ _ hb1
 ·exact hU (Nat.le_of_lt h64) Zd
end
theorem kT:∀ {vs:List Value} {ss:List Str},StrsAre vs ss->Vals (ss.map V.str) vs
 | _,_,.nil=>.nil
 | _,_,.cons x t h=>.cons ⟨t,rfl⟩ (kT h)
section
variable {X:Cx}
def rO (K:W.Frag):List V->Hp->VK->Prop:=fun vs H Q=>match vs with
 | [.ref a]=>∃ss:List Str,(SqL K H a (ss.map V.str)∨SqT K H a (ss.map V.str))/\ss.length<64/\∀l,H l=none->Q (.ref l) (aI H l (.lst ((gX ss).map V.str)))
 | _=>False
theorem Co:CallR X (.builtin "sorted") (rO X.K):=by
 intro pins s σ H xs us Q I r h;unfold rO at h;split at h
 ·rename_i a
  obtain⟨ss,hq,h64,q⟩:=h
  obtain⟨u,rfl,ru⟩:=iZ r
  cases ru
  have fin:∀(h1 h':Heap) (out:Array Value) (e:Nat),(∀c ob,s.heap.get? c=some ob->h1.get? c=some ob)->(∀c ob,h1.get? c=some ob->h'.get? c=some ob)->h'.get? h1.objs.size=some (seqObj "list" out e)->StrsAre out.toList (gX ss)->EP X pins σ Q (.ref h1.objs.size) {s with heap:=h' }:=fun h1 h' out e k1 k he hS=>by
   have I1:=I.kept (t':=s.toks) k1
   refine⟨.ref h1.objs.size,_,I1.laid (t':=s.toks) (o:=.lst ((gX ss).map V.str)) k (bC _) ?_,rfl,q _ (I1.hok.fresh (bC _))⟩
   refine⟨?_,out.toList,e,kT hS,he⟩
   rw[aR,fX];exact hU (Nat.le_of_lt h64) Zd
  rcases hq with hq | hq
  ·obtain⟨its,r1,p1,_⟩:=I.list hq
   obtain⟨o,ho,hc,n,hd⟩:=p1.isList
   have hl:=r1.length
   rw[aR]at hl;exact nQ (.inl rfl) ho hc hd (jH r1) Zo fin
  ·obtain⟨its,r1,p1,_⟩:=I.tuple hq
   obtain⟨o,ho,hc,n,hd⟩:=p1
   have hl:=r1.length
   rw[aR]at hl;exact nQ (.inr rfl) ho hc hd (jH r1) Zo fin
 ·exact h.elim
theorem R.fq {K:W.Frag} (hK:X.K=K:=by rfl):XC X (.builtin "sorted") (rO K):=hK ▸ ⟨Co⟩
end
end L2
namespace L2
open PySem PySem.Spec PyProof.Rows
def TK (H H':Hp):Prop:=∀a xs,H a=some (.tup xs)->H' a=some (.tup xs)
theorem TK.refl {H:Hp}:TK H H:=fun _ _ h=>h
theorem TK.trans {H H1 H2:Hp} (a:TK H H1) (b:TK H1 H2):TK H H2:=fun p xs h=>b p xs (a p xs h)
theorem Same.tk {H H':Hp} (s:Same H H'):TK H H':=fun a xs h=>s _ _ h
theorem Kp.tk {H H':Hp} {d b:Addr} (D:Dk H d b) (k:Kp d b H H'):TK H H':=fun a xs h=>k _ _ h (D.tup_ne h).1 (D.tup_ne h).2
theorem cR {H:Hp} {l:Addr} {xs ys:List V} (g:H l=some (.lst xs)):TK H (aI H l (.lst ys)):=fun a zs h=>by
 have:a≠l:=fun e=>by rw[e,g]at h;cases h
 rw[aE this];exact h
section
variable {X:Cx} {es:List Expr} {t:TA} {pos:Pos}
def Cp (t:TA):TE:=fun σ H Q=>t σ H fun xs H1=>xs.length<=1000/\∀p H',Same H1 H'->H' p=some (.tup xs)->Q (.ref p) H'
theorem Ht {x1} (h:PA X es t):PE X (.Tuple es x1 pos) (Cp t):=by
 intro pins s σ H Q I hq;refine wpAny_Tuple_spliced (bK (h pos pins s σ H _ I hq) fun us s1 ⟨xs,H1,I1,r,z,q⟩=>⟨by rw[<- r.length];exact fO z,?_⟩)
 have hf:H1 s1.heap.objs.size=none:=I1.hok.fresh (bC _)
 refine⟨.ref s1.heap.objs.size,aI H1 s1.heap.objs.size (.tup xs),I1.laid (t':=s1.toks) (fun b u e=>hJ _ e) (bC _) ?_,rfl,q _ _ (aG hf) aA⟩
 exact⟨fO z,us,r,⟨_,Heap.get?_push_size _ rfl,rfl,_,rfl⟩⟩
theorem R.al {x1} (h:XA X es t):XE X (.Tuple es x1 pos) (Cp t):=⟨Ht h.h⟩
end
end L2
namespace L2
open PySem PySem.Spec PyProof.Rows
abbrev Z:=Addr × Str × Int
def Vh (x y:Z):Prop:=x.2.1.cps.toList<=y.2.1.cps.toList
def ZAt (H:Hp) (zs:List Z):Prop:=∀z∈zs,H z.1=some (.tup [.str z.2.1,.int z.2.2])
theorem ZAt.same {H H':Hp} {zs:List Z} (h:ZAt H zs) (s:Same H H'):ZAt H' zs:=fun z hz=>s _ _ (h z hz)
def cN (zs:List Z):List V:=zs.map fun z=>V.ref z.1
section
variable {X:Cx} {pins:List (Addr × Obj)} {σ:St} {H:Hp} {s:Shared}
theorem kU:∀ {xs:List V} {vs:List Value} (i:Nat),Vals xs vs->i<xs.length->∀x,xs[i]?=some x->RelV x (vs.getD i Value.none)
 | x::xs,v::vs,0,.cons r rs,_,y,hy=>by
  cases hy
  exact r
 | x::xs,v::vs,i+1,.cons r rs,hi,y,hy=>by
  have:=kU i rs (by simpa using hi) y (by simpa using hy)
  simpa using this
def Ru (K:W.Frag):List V->Hp->VK->Prop:=fun vs H Q=>match vs with
 | [.ref a]=>∃zs:List Z,SqL K H a (cN zs)/\ZAt H zs/\(zs.map (·.2.1)).Nodup/\zs.length<64/\∀l zs',H l=none->zs'.Perm zs->zs'.Pairwise Vh->Q (.ref l) (aI H l (.lst (cN zs')))
 | _=>False
end
theorem nR:∀ {ks:List Str} {vs:List Value},vs.length=ks.length->(∀(i:Nat) (v:Value),vs[i]?=some v->∃x t,ks[i]?=some x/\v=Value.str x t)->StrsAre vs ks
 | [],[],_,_=>.nil
 | k::ks,v::vs,hl,h=>by
  obtain⟨x,t,e1,rfl⟩:=h 0 v rfl
  cases e1
  exact .cons k t (nR (by simpa using hl) fun i v hv=>by simpa using h (i+1) v (by simpa using hv))
section
variable {prog:Program} {w:World} {A:Around} {E:Value->Shared->Prop} {s:Shared}
theorem tM {d:Addr} {ss:List Str} {kvs:List (bB × Value)} {Q:Value->Shared->Prop} (hh:A.handled=none) (lo:(d == sysModules)=false) (hd:s.heap.DictOf (aY prog w) d kvs) (hk:kvs.map (·.1)=ss.map Sum.inr) (h64:ss.length<64)
  (h:∀(h1 h':Heap) (tk:Nat) (out:Array Value) (e:Nat),(∀b ob,s.heap.get? b=some ob->h1.get? b=some ob)->(∀b ob,h1.get? b=some ob->h'.get? b=some ob)->h'.get? h1.objs.size=some (seqObj "list" out e)->StrsAre out.toList (gX ss)->Q (.ref h1.objs.size) {s with heap:=h',toks:=tk }) :
  wpAny (model prog w) A (call (.builtin "sorted") [.ref d]) Q E s:=by
 have hl:kvs.length=ss.length:=by simpa using congrArg List.length hk
 obtain⟨ep,hm⟩:=hd.dictAt
 apply Calls.call_function_entry kind_sorted plain_sorted entry_sorted (args_sorted1 _)
 unfold Builtin.«sorted»
 apply wpAny_bind (m:=checkCount "sorted" 1 1 _)
 apply wpAny_pure
 apply wpAny_bind
 refine W.kdu_collect (W.kdl_dict lo) hh hm (by rw[hl];exact hU (Nat.le_of_lt h64) Zd) fun h1 tk acc k1 hacc=>?_
 have hS:StrsAre acc.toList ss:=nR (by rw[Array.length_toList,hacc.1,hl]) fun i v hv=>by
  obtain⟨k,x,e1,e2⟩:=hacc.2 i v (by simpa using hv)
  have e3:(kvs.map (·.1))[i]?=some k:=by rw[fS,e1];rfl
  rw[hk,fS]at e3;cases e4:ss[i]? with
  | none=>rw[e4]at e3;cases e3
  | some y=>
   rw[e4]at e3;cases e3
   rcases bI (show lK (Sum.inr y) v=true from e2) with⟨_,_,e,_⟩ | ⟨z,t,e,ev⟩
   ·cases e
   ·cases e
    exact⟨_,t,rfl,ev⟩
 generalize acc.toList=vs at hS;have hvl:vs.length<64:=by rw[hS.length];exact h64
 apply wpAny_bind
 apply wpAny_newList
 ·have g2:(h1.push (seqObj "list" vs.toArray 0)).get? h1.objs.size=some (seqObj "list" vs.toArray 0):=Heap.get?_push_size _ rfl
  apply wpAny_bind
  apply wpAny_holding
  refine wpAny_call_entry slot_list_sort ⟨_,g2,rfl⟩ entry_list_sort (list_sort_treeK (s:={s with heap:=h1.push (seqObj "list" vs.toArray 0),toks:=tk }) strKind_oneLt g2 hS.keysOf (fun v₁ v₂ rest e=>keyKind_strs (by rw[<- e];exact hS)) hvl fun st' hp hs=>⟨_,rfl,wpAny_pure ⟨_,rfl,?_⟩⟩) (args_list_sort _)
  obtain⟨ss',q1,q2,q3⟩:=sorted_out_str hS hp hs
  obtain⟨e,he⟩:=sortedHeap_at (out:=(arrOf st').map (·.2)) g2
  refine h h1 _ _ _ e k1 (fun b ob hb1=>?_) he (Cn q2 q3 ▸ q1)
  have hlt:=Heap.lt_size hb1
  rw[sortedHeap_old (Nat.ne_of_lt hlt) (by rw[size_push'];exact Nat.lt_succ_of_lt hlt)]
  exact hJ _ hb1
 ·exact hU (Nat.le_of_lt hvl) Zd
end
section
variable {X:Cx}
def nS:List V->Hp->VK->Prop:=fun vs H Q=>match vs with
 | [.ref a]=>∃(ss:List Str) (kvs:List (bB × V)),Rd H a (.dK kvs)/\kvs.map (·.1)=ss.map Sum.inr/\ss.length<64/\∀l,H l=none->Q (.ref l) (aI H l (.lst ((gX ss).map V.str)))
 | _=>False
theorem zH (hcm:X.calm=true):CallR X (.builtin "sorted") nS:=by
 intro pins s σ H xs us Q I r h;unfold nS at h;split at h
 ·rename_i a
  obtain⟨ss,kvs,hq,hk,h64,q⟩:=h
  obtain⟨u,rfl,ru⟩:=iZ r
  cases ru
  obtain⟨_,hd,vs,rel,dd⟩:=lQ I.hok hq
  refine tM (I.ok.hd hcm) hd dd (by rw[<- rel.keys];exact hk) h64 fun h1 h' tk out e k1 k he hS=>?_
  have I1:=I.kept (t':=s.toks) k1
  refine⟨.ref h1.objs.size,_,I1.laid (t':=tk) (o:=.lst ((gX ss).map V.str)) k (bC _) ⟨?_,out.toList,e,kT hS,he⟩,rfl,q _ (I1.hok.fresh (bC _))⟩
  rw[aR,fX];exact hU (Nat.le_of_lt h64) Zd
 ·exact h.elim
theorem R.ee (hcm:X.calm=true):XC X (.builtin "sorted") nS:=⟨zH hcm⟩
end
end L2
namespace L2
open PySem PySem.Spec PyProof.Rows
theorem rP:typeLookup (.type "list") "keys"=pure none:=am_miss_of_fast (by kernel_rfl)
theorem iP:plainId "dict.update.loop"=true:=by decide +kernel
theorem pZ:entryFor table "dict.update.loop"=some Builtin.«dict.update.loop»:=entryFor_of_tree (by kernel_rfl)
section
variable {prog:Program} {w:World} {A:Around} {E:Value->Shared->Prop} {s:Shared}
theorem Hu {a:Addr} {o:Obj} {xs:Array Value} {k:Nat} {Q:Option Value->Shared->Prop} (hx:s.heap.get? a=some o) (hc:o.cls=.type "list") (hdat:o.data=.seq xs k) (hd:o.dict=none) (hA:A.handled=none)
  (h:∀h' tk,(∀b ob,s.heap.get? b=some ob->h'.get? b=some ob)->Q none {s with heap:=h',toks:=tk }):wpAny (model prog w) A (getAttr? (.ref a) "keys") Q E s:=by
 obtain⟨c,dct,dat,sl⟩:=o
 simp only at hc hdat hd
 subst hc hdat hd;obtain⟨hp,g,d,tk,os⟩:=s
 have hT:∀tk',(⟨hp,g,d,tk',os⟩:Shared).TypeIs (.ref a) "list":=fun _=>⟨_,hx,rfl⟩
 have f1:=sub_AttributeError
 have f3:=F.slot_list_getattribute.lookup
 have f4:=F.slot_list_getattribute.bind (.ref a)
 have f5:=am_list_getattr_none
 have f6:=rP
 unfold getAttr? getAttrBy? getAttrBy
 repeat (any_goals (first | assumption | exact hT _ | ((with_reducible show wpAny _ _ (call (Value.builtin "list.__getattribute__") _ _) _ _ _);refine call_meets F.slot_list_getattribute (hT _) am_entry_list_getattribute (F.args_list_getattribute_2 _ _) (meets_getattribute_miss_list a xs k sl "keys" _ f6 Zk) ⟨hx,hA,fun h' tk' e hx'=>?_⟩) | wp_step))
 obtain⟨t',u',he⟩:=hx'.there
 show wpAny _ _ (getattributeRaised _ _ _ _ _ _ _) _ _ _
 unfold getattributeRaised;repeat (any_goals (first | assumption | wp_step))
 exact h _ _ hx'.keeps
def Js (h:Heap) (v:Value) (q:bB × V):Prop:=∃a u x,v=Value.ref a/\IsTup h a #[u,x]/\RelV (kV q.1) u/\RelV q.2 x
theorem Cq (hh:A.handled=none) {I l d:Addr} {its:List Value} {qs:List (bB × V)} {R:Result->Shared->Prop} {res:Value} (hIl:I≠l) (hId:I≠d) (hld:l≠d) :
  ∀(k i:Nat) (s:Shared) (kvs:List (bB × V)) (vs:List (bB × Value)) (z:Int),its.length - i=k->i<=its.length->qs.length=its.length->s.heap.IsListIter I l i->s.heap.IsList l its.toArray->(∀(j:Nat) (v:Value) (q:bB × V),its[j]?=some v->qs[j]?=some q->Js s.heap v q) →
  (∀(j:Nat) (v:Value) (a:Addr),its[j]?=some v->v=Value.ref a->a≠I/\a≠d)->s.heap.DictOf (aY prog w) d vs->KV kvs vs->kvs.length+k<=1000 →
  (∀h' tk vs',(∀b ob,b≠I->b≠d->s.heap.get? b=some ob->h'.get? b=some ob)->h'.DictOf (aY prog w) d vs'->KV (aL kvs (qs.drop i)) vs'->R (.ok (.ret res)) {s with heap:=h',toks:=tk }) →
  codeAny (model prog w) A (.builtin "dict.update.loop" ⟨[.ref d,.ref I,.int z 0,res],[]⟩) R s:=by
 intro k;induction k with
 | zero=>
  intro i s kvs vs z hk hi hql hit hl hp hne hd rel hz hR;obtain rfl:i=its.length:=by omega
  refine codeAny_builtin pZ ?_
  rw[Around.under_plainId iP _];show wpAny _ A.in1 (pyNext (.ref I) >>= _) _ _ s
  apply wpAny_bind
  refine wpAny_pyNext_list_end hh hit hl Zs fun h' eb=>?_
  show wpAny _ A.in1 (Builtin.Dict.addKeywords d [] >>= _) _ _ _
  apply wpAny_bind
  apply wpAny_pure
  apply wpAny_pure
  refine hR h' s.toks vs (fun b ob hb _ e=>eb b ob hb e) (hd.extBut eb hId.symm) ?_
  rw[<- hql,List.drop_length];exact rel
 | succ k ih=>
  intro i s kvs vs z hk hi hql hit hl hp hne hd rel hz hR;have hlt:i<its.length:=by omega
  obtain⟨v,hv⟩:∃v,its[i]?=some v:=⟨its[i],by simp [hlt]⟩
  obtain⟨q,hq⟩:∃q,qs[i]?=some q:=⟨qs[i],by simp [hql,hlt]⟩
  obtain⟨a,u,x,rfl,⟨ob,hob,hoc,n,hod⟩,ru,rx⟩:=hp i v q hv hq
  obtain⟨na,nd⟩:=hne i _ a hv rfl
  refine codeAny_builtin pZ ?_
  rw[Around.under_plainId iP _];show wpAny _ A.in1 (pyNext (.ref I) >>= _) _ _ s
  apply wpAny_bind
  refine wpAny_pyNext_list_item hit hl (x:=.ref a) (by simpa using hv) fun h' hit' sb=>?_
  have hob':h'.get? a=some ob:=(sb.2 a na).trans hob
  have hd':h'.DictOf (aY prog w) d vs:=hd.extBut sb.extBut hId.symm
  apply wpAny_bind
  apply wpAny_holding
  apply wpAny_bind
  apply wpAny_tryCatch
  unfold Builtin.Dict.pairItems;apply wpAny_bind
  refine wpAny_typeOf (T:="tuple") ⟨ob,hob',hoc⟩ ?_
  rw[if_pos Zd]
  apply wpAny_bind
  refine wpAny_seqItems hob' hod ?_
  apply wpAny_pure
  show wpAny _ _ (holding [u,x] (dictSet d u x)) _ _ _
  apply wpAny_holding
  have hvl:vs.length<=sizeLine:=by rw[<- rel.length];exact fO Zo
  refine wpAny_dictSet_pairs (s:={s with heap:=h' }) (lP ru) hd' (fun h2 hd2 sb2=>?_) hvl
  apply wpAny_pure
  refine⟨plainId_quiet iP _,?_⟩
  have hl0:=cD kvs q.1 q.2
  have ex:∀b o,b≠I->b≠d->s.heap.get? b=some o->h2.get? b=some o:=fun b o b1 b2 e=>(sb2.2 b b2).trans ((sb.2 b b1).trans e)
  refine ih (i+1) _ (cK kvs q.1 q.2) (stored vs q.1 x) _ Zo Zo hql ?_ ?_ ?_ hne hd2 (rel.put q.1 rx) Zo fun h3 tk vs' k3 hd3 rel3=>?_
  ·exact hit'.at fun o e=>(sb2.2 I hId).trans e
  ·obtain⟨o,e,r⟩:=hl
   exact⟨o,ex l o hIl.symm hld e,r⟩
  ·intro j v q' hj hq';obtain⟨a',u',x',rfl,⟨o',ho',r'⟩,rr⟩:=hp j v q' hj hq'
   obtain⟨n1,n2⟩:=hne j _ a' hj rfl
   exact⟨a',u',x',rfl,⟨o',ex a' o' n1 n2 ho',r'⟩,rr⟩
  ·refine hR h3 tk vs' (fun b o b1 b2 e=>k3 b o b1 b2 (ex b o b1 b2 e)) hd3 ?_
   have e1:qs.drop i=q::qs.drop (i+1):=by
    rw[List.drop_eq_getElem_cons Zo]
    congr 1
    have:qs[i]?=some qs[i]:=iJ Zo
    rw[this]at hq;exact Option.some.inj hq
   rw[e1];exact rel3
theorem tN (hh:A.handled=none) {l:Addr} {o:Obj} {n:Nat} {its:List Value} {qs:List (bB × V)} {Q:Value->Shared->Prop} (hlo:s.heap.get? l=some o) (hlc:o.cls=.type "list") (hld:o.data=.seq its.toArray n) (hldd:o.dict=none) (hql:qs.length=its.length)
  (hp:∀(j:Nat) (v:Value) (q:bB × V),its[j]?=some v->qs[j]?=some q->Js s.heap v q) (hz:its.length<=1000)
  (h:∀h' tk vs',(∀b ob,s.heap.get? b=some ob->h'.get? b=some ob)->h'.DictOf (aY prog w) s.heap.objs.size vs'->KV (aL [] qs) vs'->Q (.ref s.heap.objs.size) {s with heap:=h',toks:=tk }) :
  wpAny (model prog w) A (call (.type "dict") [.ref l]) Q E s:=by
 refine callType_codes (Q₁:=fun obj s₁=>obj=.ref s.heap.objs.size/\s₁={s with heap:=s.heap.push {cls:=.type "dict",data:=.dict #[] } }) F.kt_called_dict (F.kt_typeCall_dict_1 _) F.entry_dict_init (kt_code_dict_new _ ⟨rfl,rfl⟩) ?_
 rintro obj s₁ ⟨rfl,rfl⟩
 have hnew:(s.heap.push {cls:=.type "dict",data:=.dict #[] }).DictOf (aY prog w) s.heap.objs.size []:=Heap.DictOf.new s.heap
 have hl1:(s.heap.push {cls:=.type "dict",data:=.dict #[] }).get? l=some o:=hJ _ hlo
 refine⟨hnew.typeIs,F.args_dict_init_2 _ _,?_⟩
 unfold Builtin.«dict.__init__»
 apply wpAny_bind
 unfold Builtin.Dict.selfAndRest;apply wpAny_bind
 refine wpAny_notOrdered_dict hnew.typeIs ?_
 show wpAny _ _ (pure (s.heap.objs.size,[Value.ref l])) _ _ _
 apply wpAny_pure
 show wpAny _ _ (Builtin.Dict.updateFrom "dict.__init__" s.heap.objs.size (.ref l) [] .none) _ _ _
 unfold Builtin.Dict.updateFrom;apply wpAny_bind
 refine wpAny_typeOf (T:="list") ⟨o,hl1,hlc⟩ ?_
 rw[if_pos Zd]
 apply wpAny_bind
 refine Hu hl1 hlc hld hldd hh fun h1 tk k1=>?_
 rw[if_pos (show(none:Option Value).isNone=true from rfl)];apply wpAny_bind
 apply wpAny_rule
 have hl2:h1.get? l=some o:=k1 _ _ hl1
 have hL2:h1.IsList l its.toArray:=⟨o,hl2,hlc,n,hld⟩
 have hd2:h1.DictOf (aY prog w) s.heap.objs.size []:=by
  obtain⟨oo,es,ep,ho,r⟩:=hnew
  exact⟨oo,es,ep,k1 _ _ ho,r⟩
 have szl1:s.heap.objs.size<h1.objs.size:=by
  obtain⟨oo,es,ep,ho,r⟩:=hd2
  exact Heap.lt_size ho
 have ltl:l<s.heap.objs.size:=Heap.lt_size hlo
 apply wpAny_bind
 refine wpAny_pyIter_list (s:={s with heap:=h1,toks:=tk }) hL2 ?_
 apply wpAny_pure
 refine⟨plainId_quiet iP _,?_⟩
 refine Cq (A:=A.in1) (s:={s with heap:=h1.push {cls:=.type "list_iterator",data:=.fields #[.ref l,.int 0 0] },toks:=tk }) (its:=its) (qs:=qs) (l:=l) hh (Nat.ne_of_gt (Nat.lt_trans ltl szl1)) (Nat.ne_of_gt szl1) (Nat.ne_of_lt ltl) its.length 0 [] [] 0 rfl (Nat.zero_le _) hql ⟨_,Heap.get?_push_size _ rfl,rfl,rfl⟩ ?_ ?_ ?_ (hd2.push _) .nil (by simpa using hz) ?_
 ·exact⟨o,hJ _ hl2,hlc,n,hld⟩
 ·intro j v q hj hq;obtain⟨a,u,x,rfl,⟨ob,hob,r⟩,rr⟩:=hp j v q hj hq
  exact⟨a,u,x,rfl,⟨ob,hJ _ (k1 _ _ (hJ _ hob)),r⟩,rr⟩
 ·intro j v a hj e;obtain⟨q,hq⟩:∃q,qs[j]?=some q:=by
   have:j<its.length:=(Zgs.mp hj).1
   exact⟨qs[j],by simp [hql,this]⟩
  obtain⟨a',u,x,e',⟨ob,hob,r⟩,rr⟩:=hp j v q hj hq
  rw[e]at e';cases e'
  have:=Heap.lt_size hob
  exact⟨Nat.ne_of_lt (Nat.lt_trans this szl1),Nat.ne_of_lt this⟩
 ·intro h' tk' vs' k' hd' rel';refine⟨rfl,h h' tk' vs' (fun b ob e=>?_) hd' rel'⟩
  have:=Heap.lt_size e
  exact k' b ob (Nat.ne_of_lt (Nat.lt_trans this szl1)) (Nat.ne_of_lt this) (hJ _ (k1 _ _ (hJ _ e)))
end
section
variable {X:Cx}
abbrev W:=Addr × bB × V
def Pj (H:Hp) (zs:List W):Prop:=∀z∈zs,H z.1=some (.tup [kV z.2.1,z.2.2])
def rQ (K:W.Frag):List V->Hp->VK->Prop:=fun vs H Q=>match vs with
 | [.ref a]=>∃zs:List W,SqL K H a (zs.map fun z=>V.ref z.1)/\Pj H zs/\zs.length<=1000/\∀d,H d=none->Q (.ref d) (aI H d (.dK (aL [] (zs.map (·.2)))))
 | _=>False
theorem Cr (hcm:X.calm=true):CallR X (.type "dict") (rQ X.K):=by
 intro pins s σ H xs us Q I r h;unfold rQ at h;split at h
 ·rename_i a
  obtain⟨zs,hq,hz,h1000,q⟩:=h
  obtain⟨u,rfl,ru⟩:=iZ r
  cases ru
  obtain⟨its,r1,p1,_⟩:=I.list hq
  obtain⟨o,n,ho,hc,hdd,hd⟩:=p1
  have hl:zs.length=its.length:=by
   have:=r1.length
   rw[aR]at this;exact this
  refine tN (I.ok.hd hcm) ho hc hd hdd (qs:=zs.map (·.2)) (by rw[aR];exact hl) (fun j v q' hj hq'=>?_) Zo fun h' tk vs' k hd rel=>?_
  ·rw[fS]at hq';cases hzj:zs[j]? with
   | none=>rw[hzj]at hq';cases hq'
   | some z=>
    rw[hzj]at hq';cases hq'
    have e:=hz z (fT hzj)
    obtain⟨_,its2,r2,it⟩:=(show ObjOk X.prog X.w H s.heap z.1 (.tup [kV z.2.1,z.2.2]) from I.hok _ _ e)
    have hj2:j<zs.length:=(Zgs.mp hzj).1
    have rv:RelV (V.ref z.1) (its.getD j Value.none):=kU j r1 (by rw[aR];exact hj2) _ (by rw[fS,hzj];rfl)
    have ev:its.getD j Value.none=v:=by rw[List.getD_eq_getElem?_getD,hj];rfl
    rw[ev]at rv;cases rv
    cases r2 with
    | cons a1 r3=>
     cases r3 with
     | cons a2 r4=>
      cases r4
      exact⟨z.1,_,_,rfl,it,a1,a2⟩
  ·have hf:H s.heap.objs.size=none:=I.hok.fresh (bC _)
   refine⟨.ref s.heap.objs.size,_,I.laid (t':=tk) (o:=.dK (aL [] (zs.map (·.2)))) k (bC _) ⟨?_,?_,vs',rel,hd⟩,rfl,q _ hf⟩
   ·have:=cM (zs.map (·.2)) []
    rw[aR]at this;exact fO (by simp at this;omega)
   ·have hb:=I.big
    exact beq_eq_false_iff_ne.mpr (Nat.ne_of_gt hb)
 ·exact h.elim
theorem R.dy {K:W.Frag} (hcm:X.calm=true) (hK:X.K=K:=by rfl):XC X (.type "dict") (rQ K):=hK ▸ ⟨Cr hcm⟩
end
end L2
namespace L2
open PySem PySem.Spec PyProof.Rows
def Te (a:Addr) (o:Obj) (kvs:List (bB × V)):It:=
 ⟨fun i H=>H a=some (.frz o (.dK kvs))/\i<kvs.length,fun i H x H'=>H'=H/\(kvs.map fun q=>kV q.1)[i]?=some x,fun i H=>H a=some (.frz o (.dK kvs))/\kvs.length<=i⟩
theorem xN (a:Addr) (o:Obj) (kvs:List (bB × V)):vS (Te a o kvs) (kvs.map fun q=>kV q.1) (fun H=>H a=some (.frz o (.dK kvs))):=
 ⟨fun i H hi e=>⟨e,by rwa [aR]at hi⟩,fun i H x H' _ _ y=>y,fun H e=>⟨e,by rw[aR];exact bC _⟩⟩
section
variable {X:Cx} {pins:List (Addr × Obj)} {σ:St} {H:Hp} {s:Shared} {a:Addr} {o:Obj} {kvs:List (bB × V)}
theorem vV {P:Program} {w:World} {h:Heap} (ok:HOk P w H h) (e:H a=some (.frz o (.dK kvs))):h.get? a=some o/\(a == sysModules)=false/\∃vs ep,KV kvs vs/\(∃es,o.data=.dict es ep)/\h.DictAt (aY P w) a vs ep:=by
 obtain⟨h1,z,hd,vs,rel,dd⟩:=(show ObjOk P w H h a (.frz o (.dK kvs)) from ok a _ e)
 obtain⟨ep,d2⟩:=dd.dictAt
 obtain⟨o',es,g,r1,r2,r3⟩:=id d2
 rw[h1]at g;cases g
 exact⟨h1,hd,vs,ep,rel,⟨es,r2⟩,d2⟩
theorem Cs {P:Program} {w:World} {K:W.Frag} {tg:Expr} (a it:Addr) {ep:Nat} (he:∃es,o.data=.dict es ep):yN P w K tg (Te a o kvs) [it] it (fun i h=>h.IsKeyIter it a i kvs.length ep) where
 mem:=by simp
 obj:=fun i h st b hb=>by
  obtain rfl:b=it:=by simpa using hb
  obtain⟨ob,e,c,d⟩:=st
  exact⟨ob,e,fun v z=>by rw[d]at z;cases z⟩
 keep:=fun i h h' st k=>st.at fun ob e=>k it Zs ob e
 item:=by
  intro X hP hw hK hc i pins s σ H E I hf st hg;subst hP hw hK;obtain⟨ef,hi⟩:=hg
  obtain⟨h1,lo,vs,ep',rel,⟨es',e'⟩,dd⟩:=vV I.hok ef
  obtain⟨es,e0⟩:=he
  obtain rfl:ep'=ep:=by
   rw[e0]at e';cases e'
   rfl
  have hl:=rel.length
  obtain⟨⟨k,x⟩,hx⟩:∃p,vs[i]?=some p:=⟨vs[i],iJ Zo⟩
  have hk:(kvs.map (·.1))[i]?=some k:=by rw[rel.keys,fS,hx];rfl
  obtain⟨f0,f1,f2,f3,f4,f5⟩:=hf it Zs
  rw[hl]at st;refine wpAny_pyNext_dict_item st dd hx fun key h' hkey st' sb=>?_
  have I1:Inv X pins σ H {s with heap:=h' }:=I.turned (t':=s.toks) (fun b ob hb e=>(sb.2 b hb).trans e) f0 f1 f3 f4 f5
  obtain⟨ob,e,c,d⟩:=id st'
  have rk:RelV (kV k) key:=by
   rcases bI (show lK k key=true from hkey) with⟨j,t,rfl,rfl⟩ | ⟨z,t,rfl,rfl⟩
   ·exact⟨t,rfl⟩
   ·exact⟨t,rfl⟩
  refine⟨key,rfl,wS (s:={s with heap:=h' }) e c d Zd ⟨kV k,H,I1,rk,⟨rfl,?_⟩,by rw[hl];exact st',fun b hb=>(hf b hb).1⟩⟩
  rw[fS]at hk ⊢;cases z:kvs[i]? with
  | none=>rw[z]at hk;cases hk
  | some q=>rw[z]at hk;cases hk;rfl
 done:=by
  intro X hP hw hK hc i pins s σ H E I hf st hg;subst hP hw hK;obtain⟨ef,hi⟩:=hg
  obtain⟨h1,lo,vs,ep',rel,⟨es',e'⟩,dd⟩:=vV I.hok ef
  obtain⟨es,e0⟩:=he
  obtain rfl:ep'=ep:=by
   rw[e0]at e';cases e'
   rfl
  have hl:=rel.length
  rw[hl]at st;obtain⟨f0,f1,f2,f3,f4,f5⟩:=hf it Zs
  exact wpAny_pyNext_dict_end (I.ok.hd hc) st dd (List.getElem?_eq_none Zo) fun h' eb=>⟨rfl,I.turned (t':=s.toks) (fun b ob hb e=>eb b ob hb e) f0 f1 f3 f4 f5⟩
 self:=fun _ _ _ _ _ st h=>wpAny_pyIter_keyiter st h
theorem Inv.freeze (I:Inv X pins σ H s) (e:H a=some (.dK kvs)):∃ob,s.heap.get? a=some ob/\Inv X pins σ (aI H a (.frz ob (.dK kvs))) s:=by
 obtain⟨z,hd,vs,rel,dd⟩:=Bh I.hok e
 obtain⟨ob,es,ep,g,r⟩:=id dd
 refine⟨ob,g,?_⟩
 have:=I.write (t':=s.toks) (h':=s.heap) (x:=a) (e:=a) (o:=.frz ob (.dK kvs)) (by rw[e];exact True.intro) (.inl rfl) (fun b u _ q=>q) ⟨ob,g⟩ ⟨g,z,hd,vs,rel,dd⟩
 exact this
theorem Inv.thaw (I:Inv X pins σ H s) (e:H a=some (.frz o (.dK kvs))) (hn:∀o' u,X.H₀ a≠some (.frz o' u)):Inv X pins σ (aI H a (.dK kvs)) s where
 ok:=I.ok
 os:=I.os
 bare:=I.bare
 base:=by
  have na:∀b,H b=none->b≠a:=fun b z q=>by rw[q,e]at z;cases z
  refine⟨I.base.keep,I.base.slot,fun b ob q n hx=>?_,I.base.there,fun b xs q=>?_,fun b ob u q=>?_,fun b ps q=>?_⟩
  ·have:=I.base.free b ob q n hx
   rw[aE (na b this)];exact this
  ·have:=I.base.tups b xs q
   rw[aE (fM this e (fun z=>nomatch z))]
   exact this
  ·have:=I.base.frzs b ob u q
   by_cases hb:b=a
   ·subst hb;exact absurd q (hn ob u)
   ·rw[aE hb];exact this
  ·obtain⟨more,q2⟩:=I.base.tbls b ps q
   exact⟨more,by rw[aE (fM q2 e (fun z=>nomatch z))];exact q2⟩
 loc:=I.loc
 cell:=I.cell
 free:=by
  have z:=I.free
  rw[aE (fun q=>by rw[q,e]at z;cases z)]
  exact z
 freeC:=fun x c h=>by
  have z:=I.freeC x c h
  rw[aE (fun q=>by rw[q,e]at z;cases z)]
  exact z
 pin:=fun p hp=>by
  obtain⟨p1,p2,p3⟩:=I.pin p hp
  refine⟨p1,?_,p3⟩
  rw[aE (fun q=>by rw[q,e]at p2;cases p2)]
  exact p2
 hok:=by
  intro b u hb;by_cases q:b=a
  ·subst q;rw[aA]at hb;cases hb
   exact(show ObjOk X.prog X.w H s.heap b (.frz o (.dK kvs)) from I.hok b _ e).2
  ·rw[aE q]at hb;refine(I.hok b u hb).stay (fun c v _ h=>h) (fun c h=>?_) fun c xs h=>?_
   ·rw[aE (fM h e (fun z=>nomatch z))];exact h
   ·rw[aE (fM h e (fun z=>nomatch z))];exact h
 len:=I.len
def Rv (te:TE):TI:=fun σ H R=>te σ H fun x H1=>mR x fun a=>∃kvs,H1 a=some (.dK kvs)/\∀o,R (Te a o kvs) (aI H1 a (.frz o (.dK kvs)))
theorem Nu {tg l:Expr} {tl:TE} (hl:PE X l tl):PI X tg l (Rv tl):=by
 intro pins s σ H R I h;refine bK (hl pins s σ H _ I h) fun v s1 ⟨x,H1,I1,r1,q1⟩=>?_
 dsimp only at q1
 rw[dU]at q1;obtain⟨a,rfl,kvs,e,q⟩:=q1
 cases r1
 obtain⟨ob,g,I2⟩:=I1.freeze e
 obtain⟨h1,lo,vs,ep,rel,he,dd⟩:=vV I2.hok (aA (a:=a))
 have hn:(aI H1 a (.frz ob (.dK kvs))) s1.heap.objs.size=none:=I2.hok.fresh (bC _)
 refine wpAny_pyIter_dict lo dd ?_
 refine⟨s1.heap.objs.size,[s1.heap.objs.size],_,_,_,rfl,I2.kept (t':=s1.toks) fun b o e=>hJ _ e,Cs a _ he,⟨_,Heap.get?_push_size _ rfl,rfl,?_⟩,fun b hb=>?_,q ob⟩
 ·rw[rel.length];rfl
 ·obtain rfl:b=s1.heap.objs.size:=by simpa using hb
  exact I2.fpOk (bC _) hn
def Jt (t:TE):TE:=fun σ H Q=>t σ H fun v H2=>∃a kvs o,(∃kvs0,H a=some (.dK kvs0))/\H2 a=some (.frz o (.dK kvs))/\Q v (aI H2 a (.dK kvs))
theorem Hv {e:Expr} {t:TE} (he:PE X e t):PE X e (Jt t):=by
 intro pins s σ H Q I h;refine bK (he pins s σ H _ I h) fun u s1 ⟨v,H2,I2,rv,a,kvs,o,⟨kvs0,e0⟩,e2,q⟩=>⟨v,_,I2.thaw e2 (fun o' u' z=>?_),rv,q⟩
 have:=I.base.frzs a o' u' z
 rw[e0]at this;cases this
end
def Rw (K:W.Frag) (te:TE) (f:Str):TE:=fun σ H Q=>te σ H fun x H1=>mR x fun a=>∃C dx fs v,H1 a=some (.ins C dx fs)/\Cls K C/\NoAttr K C f/\fs.lookup f=some v/\Q v H1
def Ju (K:W.Frag) (ta tv:TE) (f:Str):TS:=fun D σ H=>tv σ H fun y H1=>ta σ H1 fun x H2=>mR x fun a=>∃C dx fs,H2 a=some (.ins C dx fs)/\Cls K C/\NoAttr K C f/\fs.length<1000/\D.nx σ (aI H2 a (.ins C dx (fV f y fs)))
section
variable {X:Cx} {e o value:Expr} {f:Str} {pos pos':Pos} {te ta tv:TE} {K:W.Frag}
theorem Hw (he:PE X e te) (hb:attributeBase e f X.env (eval e X.env)=eval e X.env):PE X (.Attribute e f pos) (Rw X.K te f):=by
 intro pins s σ H Q I h;refine wX hb (bK (he pins s σ H _ I h) fun u s1 ⟨x,H1,I1,rx,q1⟩=>?_)
 dsimp only at q1
 rw[dU]at q1;obtain⟨a,rfl,C,dx,fs,v,ea,c,n,l,q⟩:=q1
 obtain rfl:u=Value.ref a:=rx
 exact vF I1 ea c n l fun u' s2 I2 ru=>⟨v,H1,I2,ru,q⟩
theorem Hx (ha:PE X o ta) (hv:PE X value tv) (hs:swapsWith value (some (.Attribute o f pos')) pos.line X.env=pure false):PS X (.Assign [.Attribute o f pos'] value pos) (Ju X.K ta tv f):=by
 intro pins s σ H D I h;refine plainObj_wpAny_Assign_Attribute (bK (hv pins s σ H _ I h) fun u s1 ⟨y,H1,I1,ry,q⟩=>bK (ha pins s1 σ H1 _ I1 q) fun ov s2 ⟨x,H2,I2,rx,q1⟩=>?_) hs
 dsimp only at q1
 rw[dU]at q1;obtain⟨a,rfl,C,dx,fs,ea,c,n,l,q2⟩:=q1
 obtain rfl:ov=Value.ref a:=rx
 exact vG I2 ea c n l ry fun s3 I3=>⟨σ,_,I3,q2⟩
end
structure Ia (P:Program) (w:World) (K:W.Frag) (mg:Str->Option Value) (base:Heap) (n:Nat) (C:Addr) (m:Str) (ps:List Str) (sp:Sp):Prop where
 ex:∃f fd,Cls K C/\Fz K C m f/\fW P w K mg base mH n f fd ps sp/\Binds K fd ps []
structure Tf (P:Program) (w:World) (K:W.Frag) (mg:Str->Option Value) (base:Heap) (n:Nat) (x:Str) (C:Addr) (ps:List Str) (dvs:List V) (sp:Sp):Prop where
 ex:∃f fd ds,mg x=some (.ref C)/\Mk K C f/\fW P w K mg base mH n f fd ps sp/\Binds K fd ps ds/\Vals dvs ds
def xO (C:Addr) (m:Str) (sp:Sp) (ta:TE) (t:TA):TE:=fun σ H Q=>ta σ H fun x H1=>mR x fun a=>∃dx fs,H1 a=some (.ins C dx fs)/\fs.lookup m=none/\t σ H1 fun vs H2=>sp (.ref a::vs) H2 Q E0
section
variable {X:Cx} {e o:Expr} {es:List Expr} {m x:Str} {p pos apos:Pos} {ta:TE} {t:TA} {C:Addr} {n:Nat} {ps:List Str} {sp:Sp} {dvs:List V}
theorem Ct {pl:Sem Bool} (he:PE X o ta) (c:Ia X.prog X.w X.K X.mg X.base n C m ps sp) (hr:Room n X.A) (ha:PA X (e::es) t) (hs:aO e=true) (hpl:(backTo pos (starEach es X.env)).any (·.1)=false)
  (ht:eval (.Call (.Attribute o m apos) (e::es) [] pos) X.env=(do
   let ov ← eval o X.env
   standAt apos.atName
   let (f,first) ← holding [ov] (getMethod ov m pl)
   callWith pos f first (backTo pos (starEach (e::es) X.env)) (backToKw pos (keywordEach [] X.env)))) :
  PE X (.Call (.Attribute o m apos) (e::es) [] pos) (xO C m sp ta t):=by
 obtain⟨f,fd,cl,hm,F,hb⟩:=c.ex
 intro pins s σ H Q I h;refine W.methodCall_KW (pl:=pl) (bK (he pins s σ H _ I h) fun u s1 ⟨x,H1,I1,rx,q1⟩=>?_) ht
 dsimp only at q1
 rw[dU]at q1;obtain⟨a,rfl,dx,fs,ea,l,q⟩:=q1
 obtain rfl:u=Value.ref a:=rx
 refine jE I1 ea cl hm l ?_
 refine W.callWith_K (first:=[.ref a]) (h₀:=X.base) I.ok.mod.kin hm.kp (bK (ha pos pins s1 σ H1 _ I1 q) fun us s2 ⟨vs,H2,I2,r,q2⟩=>⟨I2.kIn,?_⟩) (bG hs) hpl
 exact vK (us:=.ref a::us) (vs:=.ref a::vs) (dvs:=[]) (ds:=[]) F hr hb .nil xE I2 (.cons rfl r) (by rw[List.append_nil];exact q2)
theorem zI {pl:Sem Bool} (he:PE X o ta) (c:Ia X.prog X.w X.K X.mg X.base n C m ps sp) (hr:Room n X.A)
  (ht:eval (.Call (.Attribute o m apos) [] [] pos) X.env=(do
   let ov ← eval o X.env
   standAt apos.atName
   let (f,first) ← holding [ov] (getMethod ov m pl)
   callWith pos f first (backTo pos (starEach [] X.env)) (backToKw pos (keywordEach [] X.env)))) :
  PE X (.Call (.Attribute o m apos) [] [] pos) (xO C m sp ta vJ):=by
 obtain⟨f,fd,cl,hm,F,hb⟩:=c.ex
 intro pins s σ H Q I h;refine W.methodCall_KW (pl:=pl) (bK (he pins s σ H _ I h) fun u s1 ⟨x,H1,I1,rx,q1⟩=>?_) ht
 dsimp only at q1
 rw[dU]at q1;obtain⟨a,rfl,dx,fs,ea,l,q⟩:=q1
 obtain rfl:u=Value.ref a:=rx
 refine jE I1 ea cl hm l ?_
 exact W.callWith_K0 (first:=[.ref a]) I1.kIn hm.kp (vK (us:=[.ref a]) (vs:=[.ref a]) (dvs:=[]) (ds:=[]) F hr hb .nil xE I1 (.cons rfl .nil) (by rw[List.append_nil];exact q))
end
structure FunD (K:W.Frag) (x qual:Str) (st:Stmt) (dv:Value) (f:Addr) (fd:FuncData):Prop where
 ex:∃(oc:Value) (od:Option Addr) (kV doc pm:Value) (an:Option Addr) (cdv ct:Value) (osl:Array (Option Value)),
  fd=W.fnOf x qual (bP st) (aQ st) (aB st) dv kV doc pm an cdv ct/\K.lookup f=some ⟨oc,od,.func fd,osl⟩/\W.codeIn K cdv qual=true
section
variable {P:Program} {w:World} {K:W.Frag} {mg:Str->Option Value} {base:Heap} {x qual:Str} {st:Stmt} {dv:Value} {f C:Addr} {fd:FuncData} {N ps:List Str} {k:Nat} {sp:Sp}
theorem FunD.go (F:FunD K x qual st dv f fd) (S:aK N ps (aB st)) (len:∀vs H Q E,sp vs H Q E->vs.length=ps.length)
  (hbody:∀(cdv:Value) (A:Around) (outer:List Env) (s:Shared) (H:Hp) (vs:List V) (Q:VK) (E:XK),Room k (A.deeper (envOfC qual (aB st) s.heap.objs.size f cdv))->sp vs H Q E →
   ∃t,XB (cW mH P w K mg base N qual (aB st) f cdv A outer s H E).nox (aQ st) t/\t {nx:=fun _ H'=>Q .non H',rt:=Q } (start N vs) H):fW P w K mg base mH (k+1) f fd ps sp:=by
 obtain⟨oc,od,kV,doc,pm,an,cdv,ct,osl,rfl,lk,hcd⟩:=F.ex
 refine wY lk hcd S len fun A outer s H vs Q E hr hsp=>?_
 obtain⟨t,h,q⟩:=hbody cdv A outer s H vs Q E hr hsp
 exact⟨t,h.h.nox,q⟩
structure MethAt (K:W.Frag) (C:Addr) (m qual:Str) (st:Stmt) (ps:List Str):Prop where
 cl:Cls K C
 ex:∃f fd,Fun K m qual st f fd/\Fz K C m f/\Binds K fd ps []
theorem MethAt.go {m:Str} (D:MethAt K C m qual st ps) (S:aK N ps (aB st)) (len:∀vs H Q E,sp vs H Q E->vs.length=ps.length)
  (hbody:∀(f:Addr) (cdv:Value) (A:Around) (outer:List Env) (s:Shared) (H:Hp) (vs:List V) (Q:VK) (E:XK),Room k (A.deeper (envOfC qual (aB st) s.heap.objs.size f cdv))->sp vs H Q E →
   ∃t,XB (cW mH P w K mg base N qual (aB st) f cdv A outer s H E).nox (aQ st) t/\t {nx:=fun _ H'=>Q .non H',rt:=Q } (start N vs) H):Ia P w K mg base (k+1) C m ps sp:=by
 obtain⟨f,fd,F,hm,hb⟩:=D.ex
 exact⟨f,fd,D.cl,hm,F.go S len (hbody f),hb⟩
structure ClsAt (K:W.Frag) (mg:Str->Option Value) (x:Str) (C:Addr) (qual:Str) (st:Stmt) (ps:List Str) (dvs:List (List V)):Prop where
 ex:∃f fd dv,mg x=some (.ref C)/\FunD K "__init__" qual st dv f fd/\Mk K C f/\∀d∈dvs,∃ds,Binds K fd ps ds/\Vals d ds
theorem ClsAt.go {dvs:List (List V)} (D:ClsAt K mg x C qual st ps dvs) (S:aK N ps (aB st)) (len:∀vs H Q E,sp vs H Q E->vs.length=ps.length)
  (hbody:∀(f:Addr) (cdv:Value) (A:Around) (outer:List Env) (s:Shared) (H:Hp) (vs:List V) (Q:VK) (E:XK),Room k (A.deeper (envOfC qual (aB st) s.heap.objs.size f cdv))->sp vs H Q E →
   ∃t,XB (cW mH P w K mg base N qual (aB st) f cdv A outer s H E).nox (aQ st) t/\t {nx:=fun _ H'=>Q .non H',rt:=Q } (start N vs) H):∀d∈dvs,Tf P w K mg base (k+1) x C ps d sp:=by
 intro d hd;obtain⟨f,fd,dv,e,F,M,hb⟩:=D.ex
 obtain⟨ds,b,v⟩:=hb d hd
 exact⟨f,fd,ds,e,M,F.go S len (hbody f),b,v⟩
end
namespace R
section
variable {X:Cx} {e o i value:Expr} {es:List Expr} {m x f:Str} {p pos pos' apos:Pos} {te ta tv td ty:TE} {t:TA} {C:Addr} {n:Nat} {ps:List Str} {sp:Sp} {dvs:List V} {K:W.Frag} {tg:Expr}
theorem wD (hl:XE X e te):XI X tg e (Rv te):=⟨Nu hl.h⟩
theorem jc (he:XE X e te):XE X e (Jt te):=⟨Hv he.h⟩
theorem du (he:XE X e te) (hK:X.K=K:=by rfl) (hb:attributeBase e f X.env (eval e X.env)=eval e X.env:=by rfl):XE X (.Attribute e f pos) (Rw K te f):=hK ▸ ⟨Hw he.h hb⟩
theorem ie (ha:XE X o ta) (hv:XE X value tv) (hK:X.K=K:=by rfl) (hs:swapsWith value (some (.Attribute o f pos')) pos.line X.env=pure false:=by rfl):XS X (.Assign [.Attribute o f pos'] value pos) (Ju K ta tv f):=hK ▸ ⟨Hx ha.h hv.h hs⟩
theorem bt (hu:X.A.units+1<cLine) (ho:XE X o td) (hi:XE X i ty) (hs:Mn i:=by exact fun _ _=>rfl):XE X (.Subscript o i pos) (Jn td ty):=⟨Gm hu ho.h hi.h hs⟩
theorem ii {pl:Sem Bool} (c:Ia X.prog X.w X.K X.mg X.base n C m ps sp) (hr:Room n X.A) (he:XE X o ta) (ha:XA X (e::es) t) (hs:aO e=true:=by rfl) (h2:es.all aO=true:=by rfl)
  (ht:eval (.Call (.Attribute o m apos) (e::es) [] pos) X.env=(do
   let ov ← eval o X.env
   standAt apos.atName
   let (f,first) ← holding [ov] (getMethod ov m pl)
   callWith pos f first (backTo pos (starEach (e::es) X.env)) (backToKw pos (keywordEach [] X.env))):=by rfl):XE X (.Call (.Attribute o m apos) (e::es) [] pos) (xO C m sp ta t):=⟨Ct he.h c hr ha.h hs (cX h2) ht⟩
theorem jb {pl:Sem Bool} (c:Ia X.prog X.w X.K X.mg X.base n C m ps sp) (hr:Room n X.A) (he:XE X o ta)
  (ht:eval (.Call (.Attribute o m apos) [] [] pos) X.env=(do
   let ov ← eval o X.env
   standAt apos.atName
   let (f,first) ← holding [ov] (getMethod ov m pl)
   callWith pos f first (backTo pos (starEach [] X.env)) (backToKw pos (keywordEach [] X.env))):=by rfl):XE X (.Call (.Attribute o m apos) [] [] pos) (xO C m sp ta vJ):=⟨zI he.h c hr ht⟩
theorem iy (c:Tf X.prog X.w X.K X.mg X.base n x C ps [] sp) (hr:Room (n+1) X.A) (hg:Gl X x) (ha:XA X (e::es) t) (hdb:(x == ("__debug__":Str))=false:=by decide) (hs:aO e=true:=by rfl) (h2:es.all aO=true:=by rfl) :
  XE X (.Call (.Name x p) (e::es) [] pos) (Jk C sp [] E0 t):=by
 obtain⟨f,fd,ds,hm,M,F,hb,hd⟩:=c.ex
 exact⟨Gb M F hr hg hm hb hd xE ha.h hdb (bG hs) (cX h2)⟩
end
end R
end L2
namespace L2
open PySem PySem.Spec PyProof.Rows
def gY (prs:List (Str × Int)):List (bB × V):=prs.map fun q=>(Sum.inr q.1,V.int q.2)
def pA (prs:List (Str × Int)) (n:Str):Int:=(prs.lookup n).getD 0
theorem jT (prs:List (Str × Int)):(gY prs).map (·.1)=(prs.map (·.1)).map Sum.inr:=by
 unfold gY;rw[List.map_map,List.map_map];rfl
theorem jU (n:Str):∀(prs:List (Str × Int)),bN (gY prs) (Sum.inr n)=(prs.lookup n).map V.int
 | []=>rfl
 | q::r=>by
  unfold gY;rw[List.map_cons,List.lookup_cons];by_cases h:n=q.1
  ·subst h;rw[bW rfl];simp
  ·have hb:(n == q.1)=false:=beq_eq_false_iff_ne.mpr h
   rw[bX (by intro z;exact h (Sum.inr.inj z).symm),hb]
   exact jU n r
theorem rR (prs:List (Str × Int)) (n:Str):(bN (gY prs) (Sum.inr n)).getD (V.int 0)=V.int (pA prs n):=by
 rw[jU];unfold pA;cases prs.lookup n <;> rfl
theorem kW:∀(more kvs:List (bB × V)),(more.map (·.1)).Nodup->(∀k∈more.map (·.1),bN kvs k=none)->aL kvs more=kvs++more
 | [],kvs,_,_=>(List.append_nil _).symm
 | p::r,kvs,hn,h=>by
  obtain⟨h1,h2⟩:=List.nodup_cons.mp hn
  show aL (cK kvs p.1 p.2) r=_
  have e0:bN kvs p.1=none:=h p.1 Zs
  rw[kW r _ h2 fun k hk=>?_,tD _ e0]
  ·simp
  ·rw[fN,if_neg (fun(z:k=p.1)=>h1 (by dsimp only;rw[<- z];exact hk))]
   exact h k (mF _ hk)
theorem qA:∀ {l:List Str},l.Nodup->(l.map (Sum.inr:Str->bB)).Nodup
 | [],_=>List.nodup_nil
 | a::l,h=>by
  obtain⟨h1,h2⟩:=List.nodup_cons.mp h
  refine List.nodup_cons.mpr ⟨fun z=>?_,qA h2⟩
  obtain⟨b,hb,e⟩:=Zmm.mp z
  cases e
  exact h1 hb
theorem qB {prs:List (Str × Int)} (h:(prs.map (·.1)).Nodup):aL [] (gY prs)=gY prs:=by
 rw[kW _ _ (by rw[jT];exact qA h) fun _ _=>rfl]
 rfl
def fJ (prs:List (Str × Int)):List (Str × Int):=((gX (prs.map (·.1))).filter fun n=>decide (0<pA prs n)).map fun n=>(n,pA prs n)
theorem fY {n:Str}:∀ {prs:List (Str × Int)},n∈prs.map (·.1)->∃a,prs.lookup n=some a
 | q::r,h=>by
  rw[List.lookup_cons];by_cases e:n=q.1
  ·subst e;exact⟨q.2,Zs⟩
  ·have hb:(n == q.1)=false:=beq_eq_false_iff_ne.mpr e
   rw[hb];rcases List.mem_cons.mp h with z | z
   ·exact absurd z e
   ·exact fY z
structure Rx (K:W.Frag) (C:Addr):Prop where
 cl:Cls K C
 nA:NoAttr K C "amounts"
structure Cu (C:Addr) (H:Hp) (p:Addr) (prs:List (Str × Int)):Prop where
 ex:∃dx d,H p=some (.ins C dx [("amounts",.ref d)])/\H d=some (.dK (gY prs))
 nd:(prs.map (·.1)).Nodup
def Nv (H:Hp) (r:V) (prs:List (Str × Int)):Prop:=(r=.non/\prs=[])∨∃l zs,r=.ref l/\H l=some (.lst (cN zs))/\ZAt H zs/\zs.map (·.2)=prs
def nU (C:Addr):Sp:=fun vs H Q _=>∃(p:Addr) (n:Str) (prs:List (Str × Int)),vs=[.ref p,.str n]/\Cu C H p prs/\Q (.int (pA prs n)) H
def tO (C:Addr):Sp:=fun vs H Q _=>∃(p:Addr) (prs:List (Str × Int)),vs=[.ref p]/\Cu C H p prs/\prs.length<64 ∧
 ∀(l:Addr) (zs:List Z) (H':Hp),Same H H'->H l=none->H' l=some (.lst (cN zs))->ZAt H' zs->zs.map (·.2)=fJ prs->Q (.ref l) H'
def wz (zs:List Z):List W:=zs.map fun z=>(z.1,Sum.inr z.2.1,V.int z.2.2)
theorem Nw (zs:List Z):((wz zs).map fun z=>V.ref z.1)=cN zs:=by
 unfold wz cN;rw[List.map_map];rfl
theorem Ry {H:Hp} {zs:List Z} (h:ZAt H zs):Pj H (wz zs):=fun z hz=>by
 obtain⟨y,hy,rfl⟩:=Zmm.mp hz
 exact h y hy
theorem Ny (zs:List Z):(wz zs).map (·.2)=gY (zs.map (·.2)):=by
 unfold wz gY;rw[List.map_map,List.map_map];rfl
theorem Uk (y:V):fV "amounts" y []=[(("amounts":Str),y)]:=rfl
theorem Ul (x y:V):fV "amounts" y [(("amounts":Str),x)]=[(("amounts":Str),y)]:=by
 unfold fV;rw[if_pos rfl]
theorem dN (y:V):([(("amounts":Str),y)]:List (Str × V)).lookup ("amounts":Str)=some y:=by
 rw[List.lookup_cons];simp
theorem rS {m:Str} (y:V) (h:(m == ("amounts":Str))=false):([(("amounts":Str),y)]:List (Str × V)).lookup m=none:=by
 rw[List.lookup_cons,h];rfl
end L2
namespace L2
open PySem PySem.Spec PyProof.Rows
section
variable {M:Model} {A:Around} {E:Value->Shared->Prop} {s:Shared}
def Cv (e:Addr) (oe:Obj) (h':Heap):Prop:=∃oe',h'.get? e=some oe'/\oe'.dict=oe.dict
theorem Cw {base:Heap} {env:Env} {outer:List Env} {L e:Addr} {oe:Obj} {vs:Array Value} {head a0:Value} {hadNext:Bool} {Q:Unit->Shared->Prop}
  (hfr:A.frames=some (env::outer)) (hl:s.heap.FunFrames base (env::outer)) (hf:env.frame=some L) (he:s.heap.get? e=some oe) (hkb:base.StaysIn s.heap) (hen:base.get? e=none) (hd:oe.data=.fields vs) (hsz:1<vs.size) (h0:vs[0]?=some a0)
  (h:∀h',Heap.NotedW base (env::outer) e oe.cls a0 (rawInt L) s.heap h'->Cv e oe h'->Q () {s with heap:=h' }) :
  wpAny M A (do let a ← frameOf env;let pl ← entryPlaceOf L hadNext;let b ← EntryCells.newEntry head a .none (rawInt L) .none pl;setField (.ref e) 1 b) Q E s:=by
 have hene:e∉(env::outer).filterMap (·.frame):=fun hm=>by
  obtain⟨_,o,ho,hnf⟩:=hl.mem hm
  rw[he]at ho;cases ho;exact hnf vs hd
 refine wpAny_bind (wpAny_frameOf_fun hfr hl hf fun k1 s1=>wpAny_bind (wpAny_entryPlaceOf fun pl hpl=>?_))
 unfold EntryCells.newEntry newFields;refine wpAny_bind (wpAny_newObj_type ?_ (hpl.sizeOk5 _ _ _ _ _))
 have e1:k1.get? e=some oe:=(s1.2.1 e hene).trans he
 have b1:base.StaysIn k1:=fun b o hbo=>(s1.2.1 b fun hm=>by rw[(hl.mem hm).1]at hbo;cases hbo).trans (hkb b o hbo)
 have e2:=hJ (h:=k1) {cls:=.type "traceback",dict:=none,data:=.fields ([head,.ref L,.none,rawInt L,.none]++(if pl.isEmpty then List.replicate 6 Value.none else pl)).toArray } e1
 have nTe:k1.objs.size≠e:=Nat.ne_of_gt (Heap.lt_size e1);have d3:=Obj.data_mapFields hd (·.setIfInBounds 1 (Value.ref k1.objs.size))
 have e3:=Heap.get?_update_self (Obj.mapFields (·.setIfInBounds 1 (Value.ref k1.objs.size))) e2 (Obj.isFreed_of_fields d3)
 have t3:=(Heap.get?_update_other (k1.push {cls:=.type "traceback",dict:=none,data:=.fields ([head,.ref L,.none,rawInt L,.none]++(if pl.isEmpty then List.replicate 6 Value.none else pl)).toArray }) (Obj.mapFields (·.setIfInBounds 1 (Value.ref k1.objs.size))) (Ne.symm nTe)).trans (Heap.get?_push_size k1 rfl)
 have kp:∀b o,b≠e->k1.get? b=some o->((k1.push {cls:=.type "traceback",dict:=none,data:=.fields ([head,.ref L,.none,rawInt L,.none]++(if pl.isEmpty then List.replicate 6 Value.none else pl)).toArray }).update e (Obj.mapFields (·.setIfInBounds 1 (Value.ref k1.objs.size)))).get? b=some o:=fun b o hbe hb=>by rw[Heap.get?_update_other _ _ (Ne.symm hbe)];exact hJ _ hb
 have nr:∀b o,s.heap.get? b=some o->(∀vs,o.data≠.fields vs)->b≠e:=fun b o hb hnf q=>by rw[q,he]at hb;cases hb;exact hnf vs hd
 refine wpAny_setField e2 hd hsz (h _ ⟨fun b o hbo=>kp b o (fun q=>by rw[q,hen]at hbo;cases hbo) (b1 b o hbo),hl.of_keeps fun b o hb hnf=>?_,?_,fun b o hb hnf=>?_⟩ ⟨_,e3,?_⟩)
 ·obtain⟨sl,hs⟩:=s1.2.2 b o hb;exact⟨_,kp b _ (nr b o hb hnf) hs,rfl⟩
 ·exact⟨_,_,k1.objs.size,_,_,e3,⟨Obj.cls_mapFields _ _,by rw[Array.getElem?_setIfInBounds_ne Zd];exact h0⟩,d3,by simp [hsz],b1.fresh,nTe,t3,rfl,by first | (simp;done) | (rcases hpl with rfl | ⟨_,_,_,_,_,_,_,rfl⟩ <;> simp)⟩
 ·obtain⟨sl,hs⟩:=s1.2.2 b o hb;exact⟨sl,kp b _ (nr b o hb hnf) hs⟩
 ·obtain⟨oc,od,odt,osl⟩:=oe;cases hd;rfl
theorem Rz {base:Heap} {env:Env} {outer:List Env} {L e:Addr} {oe:Obj} {cls a0:Value} {Q:Unit->Shared->Prop} (hfr:A.frames=some (env::outer)) (hl:s.heap.FunFrames base (env::outer)) (hf:env.frame=some L) (he:s.heap.get? e=some oe) (ht:s.heap.TracedW base e cls a0) (hkb:base.StaysIn s.heap) (hen:base.get? e=none)
  (h:∀h',Heap.NotedW base (env::outer) e cls a0 (rawInt L) s.heap h'->Cv e oe h'->Q () {s with heap:=h' }):wpAny M A (noteFrame (.ref e) env) Q E s:=by
 obtain⟨oe',vs,T,oT,ts,he',⟨hcls,h0⟩,hd,h1,hnT,hTe,hT,hdT,h3⟩:=ht
 rw[he]at he';cases he';subst hcls
 unfold noteFrame;simp only [hf];refine wpAny_bind (wpAny_field he hd h1 ?_);rw[if_pos (show(Value.ref T != Value.none)=true from by simp)]
 refine wpAny_bind (wpAny_field hT hdT h3 ?_);rw[if_neg (show ¬ ((Value.none == rawInt L)=true) from by simp [rawInt])];refine wpAny_bind (wpAny_setField hT hdT (Array.getElem?_eq_some_iff.mp h3).1 ?_)
 have ot:∀b,b≠T->(s.heap.update T (Obj.mapFields (·.setIfInBounds 3 Value.none))).get? b=s.heap.get? b:=fun b hb=>Heap.get?_update_other _ _ (Ne.symm hb)
 have nr:∀b o,s.heap.get? b=some o->(∀vs,o.data≠.fields vs)->b≠T:=fun b o hb hnf q=>by rw[q,hT]at hb;cases hb;exact hnf ts hdT
 refine Cw hfr (hl.of_keeps fun b o hb hnf=>⟨o,(ot b (nr b o hb hnf)).trans hb,rfl⟩) hf ((ot e (Ne.symm hTe)).trans he) (fun b o hbo=>(ot b fun q=>by rw[q,hnT]at hbo;cases hbo).trans (hkb b o hbo)) hen hd (Array.getElem?_eq_some_iff.mp h1).1 h0
  fun h' ⟨x1,x2,x3,x4⟩ hD=>h h' ⟨x1,x2,x3,fun b o hb hnf=>x4 b o ((ot b (nr b o hb hnf)).trans hb) hnf⟩ hD
theorem Jv {base:Heap} {l:List Env} {e:Addr} {oe:Obj} {cls a0 fl:Value} {Q:Unit->Shared->Prop} (hkb:base.StaysIn s.heap) (hl:s.heap.FunFrames base l) (he:s.heap.get? e=some oe) (ht:s.heap.TracedAtW base e cls a0 fl)
  (h:∀h',base.StaysIn h'->h'.FunFrames base l->h'.TracedW base e cls a0->(∀b o,s.heap.get? b=some o->(∀vs,o.data≠.fields vs)->h'.get? b=some o)->h'.get? e=some oe->Q () {s with heap:=h' }):wpAny M A (setFlight (.ref e) none) Q E s:=by
 obtain⟨oe',vs,T,oT,ts,he',hcls,hd,h1,hnT,hTe,hT,hdT,h3⟩:=ht
 rw[he]at he';cases he'
 have z3:3<ts.size:=(Array.getElem?_eq_some_iff.mp h3).1
 have ot:∀b,b≠T->(s.heap.update T (Obj.mapFields (·.setIfInBounds 3 ((none:Option Addr).elim Value.none fun f=>rawInt f)))).get? b=s.heap.get? b:=fun b hb=>Heap.get?_update_other _ _ (Ne.symm hb)
 have nr:∀b o,s.heap.get? b=some o->(∀vs,o.data≠.fields vs)->b≠T:=fun b o hb hnf q=>by rw[q,hT]at hb;cases hb;exact hnf ts hdT
 unfold setFlight;refine wpAny_bind (wpAny_field he hd h1 ?_);rw[if_pos (show(Value.ref T != Value.none)=true from by simp)]
 refine wpAny_setField hT hdT z3 (h _ (fun b o hbo=>(ot b fun q=>by rw[q,hnT]at hbo;cases hbo).trans (hkb b o hbo)) (hl.of_keeps fun b o hb hnf=>⟨o,(ot b (nr b o hb hnf)).trans hb,rfl⟩) ?_ (fun b o hb hnf=>(ot b (nr b o hb hnf)).trans hb) ((ot e (Ne.symm hTe)).trans he))
 exact⟨oe,vs,T,_,_,(ot e (Ne.symm hTe)).trans he,hcls,hd,h1,hnT,hTe,Heap.get?_update_self _ hT (Obj.isFreed_of_fields (Obj.data_mapFields hdT _)),Obj.data_mapFields hdT _,by simp [z3]⟩
theorem Nz {base:Heap} {env:Env} {outer:List Env} {L e:Addr} {oe:Obj} {vs:Array Value} {a0:Value} {Q:Unit->Shared->Prop} (hfr:A.frames=some (env::outer)) (hl:s.heap.FunFrames base (env::outer)) (hf:env.frame=some L) (he:s.heap.get? e=some oe) (hkb:base.StaysIn s.heap) (hen:base.get? e=none) (hd:oe.data=.fields vs) (h1:vs[1]?=some .none) (h0:vs[0]?=some a0)
  (h:∀h',Heap.LeftW base (env::outer) e oe.cls a0 s.heap h'->Cv e oe h'->Q () {s with heap:=h' }):wpAny M A (leaving env (.ref e)) Q E s:=by
 unfold leaving noteFrame;simp only [hf];refine wpAny_bind (wpAny_bind (wpAny_field he hd h1 ?_));rw[if_neg Zd]
 refine Cw hfr hl hf he hkb hen hd (Array.getElem?_eq_some_iff.mp h1).1 h0 fun k ⟨x1,x2,x3,x4⟩ ⟨oe',y1,y2⟩=>?_
 exact Jv (s:={s with heap:=k }) x1 x2 y1 x3 fun h' z1 z2 z3 z4 z5=>h h' ⟨z1,z2,z3,fun b o hb hnf=>let ⟨sl,q⟩:=x4 b o hb hnf;⟨sl,z4 b _ q hnf⟩⟩ ⟨oe',z5,y2⟩
end
section
variable {P:Program} {w:World} {H H0:Hp} {h h1 h2:Heap} {a:Addr} {o:HO}
theorem ObjOk.has (x:ObjOk P w H h a o):∃ob,h.get? a=some ob:=by
 cases o with
 | lst xs=>obtain⟨_,_,_,_,e⟩:=x;exact⟨_,e⟩
 | tup xs=>obtain⟨_,_,_,ob,e,_⟩:=x;exact⟨_,e⟩
 | dK kvs=>obtain⟨_,_,_,_,ob,_,_,e,_⟩:=x;exact⟨_,e⟩
 | dT kvs=>obtain⟨_,_,_,_,ob,_,_,e,_⟩:=x;exact⟨_,e⟩
 | set S n=>obtain⟨ob,_,_,_,e,_⟩:=x;exact⟨_,e⟩
 | ins C dx fs=>obtain⟨_,_,_,e,_⟩:=x;exact⟨_,e⟩
 | own y=>exact x
 | xd fs=>obtain⟨_,⟨ob,_,_,e,_⟩,_⟩:=x;exact⟨_,e⟩
 | rng lo hi=>obtain⟨_,_,_,e⟩:=x;exact⟨_,e⟩
 | frz ob u=>exact⟨_,x.1⟩
 | tbl ps=>exact⟨_,x⟩
 | met f y=>exact⟨_,x⟩
 | ext φ=>exact x.2.1
theorem HOk.none_of (x:HOk P w H h) (e:h.get? a=none):H a=none:=by
 cases q:H a with
 | none=>rfl
 | some u=>
  obtain⟨ob,z⟩:=(x a u q).has
  rw[e]at z;cases z
theorem vW {fs hid:List Addr} {s0:Heap} (un:Un fs [] H0 H s0 h1) (hok:HOk P w H h1) (hh:∀b∈hid,b∈fs∨(s0.get? b=none/\H b=none)) (hsub:∀b∈fs,b∈hid) (hfr:∀b∈fs,H0 b=none/\∃o,s0.get? b=some o/\∀vs,o.data≠.fields vs)
  (hB:(W.hideAll h1 hid).StaysIn h2) (hS:∀b o,h1.get? b=some o->(∀vs,o.data≠.fields vs)->∃sl,h2.get? b=some {o with slots:=sl }):Un fs [] H0 H s0 h2/\HOk P w H h2:=by
 have kp:∀b ob,h1.get? b=some ob->b∉hid->h2.get? b=some ob:=fun b ob q n=>hB b ob (W.hideAll_get _ q n)
 have nh:∀b ob,s0.get? b=some ob->b∉fs->b∉hid:=fun b ob q n z=>by
  rcases hh b z with y | y
  ·exact n y
  ·rw[y.1]at q;cases q
 have sl:∀b ob,s0.get? b=some ob->b∈fs->∃sl,h2.get? b=some {ob with slots:=sl }:=fun b ob q hb=>by
  obtain⟨h0,o',q',nf⟩:=hfr b hb
  rw[q]at q';cases q'
  obtain⟨sl,e⟩:=un.slot b ob q h0 hb Zs
  obtain⟨sl2,e2⟩:=hS b {ob with slots:=sl } e nf
  exact⟨sl2,e2⟩
 refine⟨⟨fun b ob q n hb hx=>kp b ob (un.keep b ob q n hb hx) (nh b ob q hb),fun b ob q n hb hx=>sl b ob q hb,un.free,fun b ob q hx=>?_,un.tups,un.frzs,un.tbls⟩,fun b u e=>?_⟩
 ·by_cases hb:b∈fs
  ·obtain⟨_,z⟩:=sl b ob q hb
   exact⟨_,z⟩
  ·obtain⟨o',z⟩:=un.there b ob q hx
   exact⟨o',kp b o' z (nh b ob q hb)⟩
 ·have nt:∀c v,H c=some v->c∉hid:=fun c v hc z=>by
   rcases hh c z with y | y
   ·obtain⟨h0,o',q',_⟩:=hfr c y
    rw[un.free c o' q' h0 Zs]at hc
    cases hc
   ·rw[y.2]at hc;cases hc
  refine(hok b u e).stay (fun c v hc q=>kp c v q ?_) (fun _ q=>q) fun _ _ q=>q
  rcases hc with z | z
  ·rw[z];exact nt b u e
  ·exact nt c _ z
theorem rT {fs hid:List Addr} {s0:Heap} {T:Addr} {oT:Obj} {ts:Array Value} (un:Un fs [] H0 H s0 h1) (hok:HOk P w H h1) (hh:∀b∈hid,b∈fs∨(s0.get? b=none/\H b=none)) (hfr:∀b∈fs,H0 b=none/\∃o,s0.get? b=some o/\∀vs,o.data≠.fields vs)
  (hS:∀b o,h1.get? b=some o->(∀vs,o.data≠.fields vs)->∃sl,h2.get? b=some {o with slots:=sl }) (hn:(W.hideAll h1 hid).get? T=none) (hT:h2.get? T=some oT) (hd:oT.data=.fields ts):s0.get? T=none/\H T=none:=by
 by_cases hm:T∈hid
 ·rcases hh T hm with y | y
  ·obtain⟨h0,o',q',nf⟩:=hfr T y
   obtain⟨sl,e⟩:=un.slot T o' q' h0 y Zs
   obtain⟨sl2,e2⟩:=hS T _ e nf
   rw[hT]at e2;cases e2
   exact absurd hd (nf ts)
  ·exact y
 ·have z:h1.get? T=none:=by
   cases q:h1.get? T with
   | none=>rfl
   | some ob=>
    rw[W.hideAll_get _ q hm]at hn;cases hn
  refine⟨?_,hok.none_of z⟩
  cases q:s0.get? T with
  | none=>rfl
  | some ob=>
   obtain⟨o',e⟩:=un.there T ob q Zs
   rw[z]at e;cases e
end
def Vi (h:Heap) (a:Addr) (cls fl:Value) (T:Addr):Prop:=
 ∃oe vs a0 oT ts,h.get? a=some oe/\oe.cls=cls/\vs[0]?=some a0/\oe.data=.fields vs/\vs[1]?=some (.ref T)/\T≠a/\h.get? T=some oT/\oT.data=.fields ts/\ts[3]?=some fl
def Vj (h:Heap) (a:Addr) (od:Option Addr):Prop:=∀dx,od=some dx->∃oe,h.get? a=some oe/\oe.dict=some dx
structure Fly (P:Program) (w:World) (l:List Env) (H0:Hp) (s0:Shared) (H:Hp) (a:Addr) (cls:Value) (od:Option Addr) (fl:Value) (s:Shared):Prop where
 na:s0.heap.get? a=none
 os:s.os=s0.os
 bare:AllBare s.gens
 un:Un (gW l) [] H0 H s0.heap s.heap
 hok:HOk P w H s.heap
 ha:H a=none
 tr:∃T,Vi s.heap a cls fl T/\s0.heap.get? T=none/\H T=none
 dd:Vj s.heap a od
def rV (P:Program) (w:World):Ax:=fun outer H s E e s'=>∃a cls od H',e=Value.ref a/\Fly P w outer H s H' a cls od .none s'/\E cls od H'
section
variable {X:Cx} {pins:List (Addr × Obj)} {σ:St} {H H0:Hp} {s s0:Shared} {a:Addr} {cls fl:Value} {od:Option Addr} {M:Model} {A:Around} {E:Value->Shared->Prop} {Q:Unit->Shared->Prop}
theorem rW {l:List Env} {env:Env} {b:Addr} (he:env∈l) (hb:env.frame=some b):b∈gW l:=List.mem_filterMap.mpr ⟨env,he,hb⟩
theorem Inv.frms (I:Inv X pins σ H s):∀b∈gW X.stack,H b=none/\∃o,s.heap.get? b=some o/\∀vs,o.data≠.fields vs:=fun b hb=>
 ⟨I.stkFree b hb,(I.stack.mem hb).2⟩
theorem Fly.inv (F:Fly X.prog X.w X.stack H0 s0 H a cls od fl s) (I0:Inv X pins σ H0 s0):Inv X pins σ H s:=I0.call' F.os F.un F.hok F.bare (fun _ z=>nomatch z)
theorem tP (I0:Inv X pins σ H0 s0) (F:Fly X.prog X.w X.stack H0 s0 H a cls od .none s) (hA:A.frames=some X.stack) (hst:X.stack=X.env::X.outer) (hf:X.env.frame=some X.env.locals)
  (k:∀s',Fly X.prog X.w X.stack H0 s0 H a cls od (rawInt X.env.locals) s'->Q () s'):wpAny M A (noteFrame (.ref a) X.env) Q E s:=by
 have I:=F.inv I0
 obtain⟨T,⟨oe,vs,a0,oT,ts,e1,e2,e3,e4,e5,e6,e7,e8,e9⟩,nT,hT⟩:=F.tr
 have hin:∀env∈X.stack,∀b,env.frame=some b->b∈gW X.stack++[a,T]:=fun env he b hb=>List.mem_append_left _ (rW he hb)
 have hh:∀b∈gW X.stack++[a,T],b∈gW X.stack∨(s0.heap.get? b=none/\H b=none):=fun b hb=>by
  rcases Zma.mp hb with z | z
  ·exact .inl z
  ·rcases List.mem_cons.mp z with y | y
   ·rw[y];exact .inr ⟨F.na,F.ha⟩
   ·rw[Zms.mp y];exact .inr ⟨nT,hT⟩
 have hm1:a∈gW X.stack++[a,T]:=List.mem_append_right _ iW
 have hm2:T∈gW X.stack++[a,T]:=List.mem_append_right _ (mF _ iW)
 have ff:=W.funFrames_hide I.stack hin
 have go:=Rz (M:=M) (A:=A) (E:=E) (Q:=Q) (s:=s) (base:=W.hideAll s.heap (gW X.stack++[a,T])) (env:=X.env) (outer:=X.outer) (L:=X.env.locals) (e:=a) (cls:=cls) (a0:=a0) (by rw[hA,hst]) (by rw[<- hst];exact ff) hf e1
  ⟨oe,vs,T,oT,ts,e1,⟨e2,e3⟩,e4,e5,W.hideAll_none _ hm2,e6,e7,e8,e9⟩ (fun b o q=>W.of_hideAll _ q) (W.hideAll_none _ hm1) ?_
 ·exact go
 ·rintro h' ⟨k1,k2,⟨oe',vs',T',oT',ts',q1,⟨q2,q3⟩,q4,q5,q6,q7,q8,q9,q10⟩,k4⟩ ⟨od',d1,d2⟩
  obtain⟨u2,ok2⟩:=vW F.un F.hok hh (fun b hb=>List.mem_append_left _ hb) I0.frms k1 k4
  obtain⟨n1,n2⟩:=rT F.un F.hok hh I0.frms k4 q6 q8 q9
  refine k _ ⟨F.na,F.os,F.bare,u2,ok2,F.ha,⟨T',⟨oe',vs',a0,oT',ts',q1,q2,q3,q4,q5,q7,q8,q9,q10⟩,n1,n2⟩,fun dx hdx=>?_⟩
  obtain⟨o1,z1,z2⟩:=F.dd dx hdx
  rw[e1]at z1;cases z1
  exact⟨od',d1,d2.trans z2⟩
theorem nV (I0:Inv X pins σ H0 s0) (F:Fly X.prog X.w X.stack H0 s0 H a cls od fl s) (k:∀s',Fly X.prog X.w X.stack H0 s0 H a cls od .none s'->Q () s'):wpAny M A (setFlight (.ref a) none) Q E s:=by
 have I:=F.inv I0
 obtain⟨T,⟨oe,vs,a0,oT,ts,e1,e2,e3,e4,e5,e6,e7,e8,e9⟩,nT,hT⟩:=F.tr
 have hin:∀env∈X.stack,∀b,env.frame=some b->b∈gW X.stack++[a,T]:=fun env he b hb=>List.mem_append_left _ (rW he hb)
 have hh:∀b∈gW X.stack++[a,T],b∈gW X.stack∨(s0.heap.get? b=none/\H b=none):=fun b hb=>by
  rcases Zma.mp hb with z | z
  ·exact .inl z
  ·rcases List.mem_cons.mp z with y | y
   ·rw[y];exact .inr ⟨F.na,F.ha⟩
   ·rw[Zms.mp y];exact .inr ⟨nT,hT⟩
 have hm2:T∈gW X.stack++[a,T]:=List.mem_append_right _ (mF _ iW)
 refine Jv (base:=W.hideAll s.heap (gW X.stack++[a,T])) (l:=X.stack) (cls:=cls) (a0:=a0) (fl:=fl) (fun b o q=>W.of_hideAll _ q) (W.funFrames_hide I.stack hin) e1 ⟨oe,vs,T,oT,ts,e1,⟨e2,e3⟩,e4,e5,W.hideAll_none _ hm2,e6,e7,e8,e9⟩ ?_
 rintro h' k1 k2 ⟨oe',vs',T',oT',ts',q1,⟨q2,q3⟩,q4,q5,q6,q7,q8,q9,q10⟩ k4 kE
 have k5:∀b o,s.heap.get? b=some o->(∀vs,o.data≠.fields vs)->∃sl,h'.get? b=some {o with slots:=sl }:=fun b o q n=>⟨o.slots,k4 b o q n⟩
 obtain⟨u2,ok2⟩:=vW F.un F.hok hh (fun b hb=>List.mem_append_left _ hb) I0.frms k1 k5
 obtain⟨n1,n2⟩:=rT F.un F.hok hh I0.frms k5 q6 q8 q9
 refine k _ ⟨F.na,F.os,F.bare,u2,ok2,F.ha,⟨T',⟨oe',vs',a0,oT',ts',q1,q2,q3,q4,q5,q7,q8,q9,q10⟩,n1,n2⟩,fun dx hdx=>?_⟩
 obtain⟨o1,z1,z2⟩:=F.dd dx hdx
 rw[e1]at z1;cases z1
 exact⟨oe,kE,z2⟩
end
end L2
namespace L2
open PySem PySem.Spec PyProof.Rows
abbrev Jw:List Value:=[.type "ValueError",.type "Exception",.type "BaseException",.type "object"]
structure fZ (P:Program) (w:World) (K:W.Frag) (mg:Str->Option Value) (base:Heap) (n:Nat) (x:Str) (ps:List Str) (sp:Sp):Prop where
 ex:∃f fd,mg x=some (.ref f)/\W.keepIn K (.ref f)=true/\fW P w K mg base (rV P w) n f fd ps sp/\Binds K fd ps []
theorem DefAt.goX {P:Program} {w:World} {K:W.Frag} {mg:Str->Option Value} {base:Heap} {x:Str} {st:Stmt} {N ps:List Str} {k:Nat} {sp:Sp} (D:DefAt K mg x st ps) (S:aK N ps (aB st)) (len:∀vs H Q E,sp vs H Q E->vs.length=ps.length)
  (hbody:∀(f:Addr) (cdv:Value) (A:Around) (outer:List Env) (s:Shared) (H:Hp) (vs:List V) (Q:VK) (E:XK),Room k (A.deeper (envOfC x (aB st) s.heap.objs.size f cdv))->sp vs H Q E →
   ∃t,XB (cW (rV P w) P w K mg base N x (aB st) f cdv A outer s H E) (aQ st) t/\t {nx:=fun _ H'=>Q .non H',rt:=Q } (start N vs) H):fZ P w K mg base (k+1) x ps sp:=by
 obtain⟨f,fd,F,hm,hb⟩:=D.ex
 refine⟨f,fd,hm,F.kp,?_,hb⟩
 obtain⟨oc,od,kV,doc,pm,an,cdv,ct,osl,rfl,lk,hcd⟩:=F.ex
 refine wY lk hcd S len fun A outer s H vs Q E hr hsp=>?_
 obtain⟨t,h,q⟩:=hbody f cdv A outer s H vs Q E hr hsp
 exact⟨t,h.h,q⟩
def qC (X:Cx) (Ex:St->Value->Option Addr->Hp->Prop):Prop:=∀(pins:List (Addr × Obj)) (σ:St) (H:Hp) (s:Shared) (e:Value) (s':Shared),Inv X pins σ H s->rV X.prog X.w X.stack H s (fun cls od H'=>Ex σ cls od H') e s'->X.xe e s'
def Sb (sp:Sp) (Ex:St->Value->Option Addr->Hp->Prop) (t:TA):TE:=fun σ H Q=>t σ H fun vs H1=>sp vs H1 Q (fun cls od H'=>Ex σ cls od H')
section
variable {X:Cx} {x:Str} {n:Nat} {ps:List Str} {sp:Sp} {Ex:St->Value->Option Addr->Hp->Prop} {e:Expr} {es:List Expr} {t:TA} {p pos:Pos}
theorem Oa (c:fZ X.prog X.w X.K X.mg X.base n x ps sp) (hr:Room n X.A) (hg:Gl X x) (hx:qC X Ex) (ha:PA X (e::es) t) (hs:aO e=true) (h2:es.all aO=true) (hdb:(x == ("__debug__":Str))=false) :
  PE X (.Call (.Name x p) (e::es) [] pos) (Sb sp Ex t):=by
 obtain⟨f,fd,hm,hk,F,hb⟩:=c.ex
 intro pins s σ H Q I h;refine wpAny_Call_Name_kw (iK I hg hm ?_ hdb)
 refine W.callWith_K (h₀:=X.base) I.ok.mod.kin hk (bK (ha pos pins s σ H _ I h) fun us s1 ⟨vs,H1,I1,r,q⟩=>⟨I1.kIn,?_⟩) (bG hs) (cX h2)
 have hl:us.length=ps.length:=by rw[<- r.length];exact F.len _ _ _ _ q
 have hb':=hb s1 us I1.kIn (by rw[List.append_nil];exact hl)
 rw[List.append_nil]at hb';refine wpAny_call (codeAny_mono (F.run X.A X.stack s1 H1 ⟨us,[]⟩ us vs Q _ hr I1.env0 hb' r q) fun rs s' hq=>?_)
 cases rs with
 | error e'=>exact hx pins σ H1 s1 e' s' I1 hq
 | ok fl=>
  cases fl with
  | ret u=>exact I1.after hq
  | next=>exact False.elim hq
  | brk=>exact False.elim hq
  | cont=>exact False.elim hq
end
def XF (X:Cx) (Ex:St->Value->Option Addr->Hp->Prop):Value->Shared->Prop:=fun e s'=>∃ σ H s,Inv X [] σ H s/\rV X.prog X.w X.stack H s (fun cls od H'=>Ex σ cls od H') e s'
abbrev Cx.pin (X:Cx) (pn:List (Addr × Obj)):Cx:={X with pn:=pn }
abbrev Cx.trying (X:Cx) (pn:List (Addr × Obj)) (Ex:St->Value->Option Addr->Hp->Prop):Cx:={X with pn:=pn,xe:=XF (X.pin pn) Ex }
abbrev Cx.handling (X:Cx) (a:Addr):Cx:={X with A:=X.A.mark (some (.ref a)),calm:=false,xe:=fun _ _=>False }
section
variable {X:Cx} {pins pn:List (Addr × Obj)} {σ:St} {H:Hp} {s:Shared} {Ex:St->Value->Option Addr->Hp->Prop} {a:Addr}
theorem Cx.Ok.pin (ok:X.Ok):(X.pin pn).Ok:=⟨ok.mod,ok.kind,ok.glob,ok.blt,ok.above,ok.inj,ok.has,ok.cab,ok.hd,ok.frames,ok.stk,ok.exf,ok.bs,ok.bsz,ok.noex,ok.exfs,ok.funs,ok.frf⟩
theorem Cx.Ok.handling (ok:X.Ok):(X.handling a).Ok:=⟨ok.mod,ok.kind,ok.glob,ok.blt,ok.above,ok.inj,ok.has,ok.cab,(fun z=>nomatch z),ok.frames,ok.stk,ok.exf,ok.bs,ok.bsz,ok.noex,ok.exfs,ok.funs,ok.frf⟩
theorem Inv.pnIn (I:Inv X pins σ H s):Inv (X.pin (X.pn++pins)) [] σ H s:=⟨I.ok.pin,I.os,I.bare,I.base,I.loc,I.cell,I.free,I.freeC,fun p hp=>I.pin p (by rw[List.append_nil]at hp;exact hp),I.hok,I.len⟩
theorem Inv.pnOut (I:Inv (X.pin (X.pn++pins)) [] σ H s) (ok:X.Ok):Inv X pins σ H s:=⟨ok,I.os,I.bare,I.base,I.loc,I.cell,I.free,I.freeC,fun p hp=>I.pin p (by rw[List.append_nil];exact hp),I.hok,I.len⟩
theorem Inv.handling (I:Inv X pins σ H s):Inv (X.handling a) pins σ H s:=⟨I.ok.handling,I.os,I.bare,I.base,I.loc,I.cell,I.free,I.freeC,I.pin,I.hok,I.len⟩
theorem Inv.handled (I:Inv (X.handling a) pins σ H s) (ok:X.Ok):Inv X pins σ H s:=⟨ok,I.os,I.bare,I.base,I.loc,I.cell,I.free,I.freeC,I.pin,I.hok,I.len⟩
theorem Inv.trying (I:Inv (X.pin pn) pins σ H s):Inv (X.trying pn Ex) pins σ H s:=I.wish _
theorem Inv.tried (I:Inv (X.trying pn Ex) pins σ H s):Inv (X.pin pn) pins σ H s:=Inv.unwish (X:=X.pin pn) (E:=XF (X.pin pn) Ex) I
theorem rX:qC (X.trying pn Ex) Ex:=fun pins σ H s e s' I h=>⟨σ,H,s,I.tried.pins_of (fun p hp=>nomatch hp),h⟩
def pB (a:Addr) (cls:Value) (od:Option Addr):Heap->Prop:=fun h=>∃o vs,h.get? a=some o/\o.cls=cls/\o.data=.fields vs/\∀dx,od=some dx->o.dict=some dx
theorem Inv.exc {cls:Value} {od:Option Addr} {H0:Hp} {s0:Shared} {σ0:St} (I:Inv X pins σ H s) (I0:Inv X pins σ0 H0 s0) (hex:X.ex=[]) (na:s0.heap.get? a=none) (ha:H a=none) (hx:pB a cls od s.heap):Inv X pins σ (aI H a (.ext (pB a cls od))) s where
 ok:=I.ok
 os:=I.os
 bare:=I.bare
 base:=by
  have n0:∀b ob,X.s₀.heap.get? b=some ob->b≠a:=fun b ob q z=>by
   obtain⟨o',y⟩:=I0.base.there b ob q (by rw[hex];simp)
   rw[z,na]at y;cases y
  refine⟨I.base.keep,I.base.slot,fun b ob q n hx=>?_,I.base.there,fun b xs q=>?_,fun b ob u q=>?_,fun b ps q=>?_⟩
  ·rw[aE (n0 b ob q)];exact I.base.free b ob q n hx
  ·have:=I.base.tups b xs q
   rw[aE (aD this ha)];exact this
  ·have:=I.base.frzs b ob u q
   rw[aE (aD this ha)];exact this
  ·obtain⟨more,z⟩:=I.base.tbls b ps q
   exact⟨more,by rw[aE (aD z ha)];exact z⟩
 loc:=I.loc
 cell:=I.cell
 free:=by
  have:X.env.locals≠a:=fun z=>by
   obtain⟨m,⟨o,_,_,ho,_⟩,_⟩:=I0.loc
   rw[z,na]at ho;cases ho
  rw[aE this];exact I.free
 freeC:=fun x c h=>by
  have:c≠a:=fun z=>by
   obtain⟨v,o,ho,_⟩:=I0.cell x c h
   rw[z,na]at ho;cases ho
  rw[aE this];exact I.freeC x c h
 pin:=fun p hp=>by
  obtain⟨p1,p2,p3⟩:=I.pin p hp
  have:p.1≠a:=fun z=>by
   have ho:=(I0.pin p hp).1
   rw[z,na]at ho;cases ho
  exact⟨p1,by rw[aE this];exact p2,p3⟩
 hok:=by
  intro b u hb;by_cases q:b=a
  ·subst q;rw[aA]at hb;cases hb
   obtain⟨o,vs,h1,h2,h3⟩:=hx
   refine⟨⟨o,vs,h1,h2,h3⟩,⟨o,h1⟩,?_⟩
   rintro ha hb2 ⟨o',vs',q1,q2,q3⟩ k
   exact⟨o',vs',k o' q1,q2,q3⟩
  ·rw[aE q]at hb;refine(I.hok b u hb).stay (fun c v _ h=>h) (fun c h=>?_) fun c xs h=>?_
   ·rw[aE (aD h ha)];exact h
   ·rw[aE (aD h ha)];exact h
 len:=I.len
theorem mK {M:Model} {A:Around} {E:Value->Shared->Prop} {i:Nat} {x:Str} {pos:Pos} {Q:Unit->Shared->Prop} (I:Inv X pins σ H s) (hN:X.N.Nodup) (hi:X.N[i]?=some x) (hx:X.env.kindOf x=some .local) (hl:Ad X.env.scope x) (hfn:X.fn x=true∨X.env.scope.names.lookup x=some .local)
  (h:∀s',Inv X pins (σ.set i none) H s'->Q () s'):wpAny M A (do bindName X.env x .none;unbindBehindTheSuite X.env x pos) Q E s:=by
 have hp:(X.env.scope.kind == .class||(X.env.scope.kind == .module&&X.env.locals != X.env.globals))=false:=by rw[I.ok.kind];rfl
 refine wpAny_bind (wpAny_bindName (jN (v:=.non) I hN hi hl rfl (fun s1 I1=>?_) hfn))
 unfold unbindBehindTheSuite;refine wpAny_onRaise ?_
 unfold unbindName;refine wpAny_bind (wpAny_point (wpAny_bind ?_))
 unfold deleteName;simp only [hx,hp]
 rw[if_neg Zd]
 obtain⟨m,hn,hl1⟩:=id I1.loc
 have hiσ:i<σ.length:=by rw[I.len];exact(Zgs.mp hi).1
 have cne:=I1.cne
 refine wpAny_bind (wpAny_nsDel_keeps hn fun h2 v hn2 hs=>?_)
 have hm:(m x).isSome=true:=by
  obtain⟨u,ru,lk⟩:=hl1 i x .non hi (List.getElem?_set_self hiσ) (Or.inl (by
   have:=hx
   unfold Env.kindOf at this;first | exact this | simpa using this))
  rcases lk with⟨_,e⟩ | ⟨k,_⟩
  ·rw[e];rfl
  ·rcases k with k | k
   ·have:=hx;simp_all
   ·have:=hx;simp_all
 simp only [hm,if_true,Bool.not_true,Bool.false_eq_true,if_false]
 have bl:∀b o,X.s₀.heap.get? b=some o->b≠X.env.locals:=fun b o e=>Nat.ne_of_lt (Nat.lt_of_lt_of_le (Heap.lt_size e) I.ok.above)
 obtain⟨oL,_,_,hoL,_⟩:=id hn
 refine wpAny_pure (wpAny_point (h _ ⟨I1.ok,I1.os,I1.bare,⟨fun b o e n hb hx'=>(hs.2 b (bl b o e)).trans (I1.base.keep b o e n hb hx'),fun b o e n hb hx'=>?_,I1.base.free,fun b o e hx'=>?_,I1.base.tups,I1.base.frzs,I1.base.tbls⟩,⟨_,hn2,fun j y v' e1 e2 e3=>?_⟩,fun y c e=>?_,I1.free,I1.freeC,fun p hp'=>?_,fun b u e=>?_,by simpa using I.len⟩))
 ·obtain⟨sl,z⟩:=I1.base.slot b o e n hb hx'
  exact⟨sl,(hs.2 b (bl b o e)).trans z⟩
 ·obtain⟨o',z⟩:=I1.base.there b o e hx'
  exact⟨o',(hs.2 b (bl b o e)).trans z⟩
 ·by_cases hj:j=i
  ·subst hj;rw[List.getElem?_set_self hiσ]at e2;cases e2
  ·rw[List.getElem?_set_ne (Ne.symm hj)]at e2;obtain⟨u,r,q⟩:=hl1 j y v' e1 (by rw[List.getElem?_set_ne (Ne.symm hj)];exact e2) e3
   refine⟨u,r,?_⟩
   rcases q with⟨k,e⟩ | ⟨k,c,e,z⟩
   ·have hne:y≠x:=fun e=>hj (mW hN e1 (e ▸ hi))
    exact .inl ⟨k,by dsimp only;rw[if_neg hne];exact e⟩
   ·exact .inr ⟨k,c,e,z.sameBut hs (cne y c e)⟩
 ·obtain⟨w',z⟩:=I1.cell y c e
  exact⟨w',z.sameBut hs (cne y c e)⟩
 ·obtain⟨e,n,ne,nf,d⟩:=I1.pin p hp'
  exact⟨(hs.2 p.1 ne).trans e,n,ne,nf,d⟩
 ·refine(I1.hok b u e).stay (fun c w' hc q=>(hs.2 c ?_).trans q) (fun _ q=>q) fun _ _ q=>q
  rintro rfl
  rcases hc with z | z
  ·rw[<- z,I1.free]at e;cases e
  ·rw[I1.free]at z;cases z
theorem SP.goes {M:Model} {A:Around} {E:Value->Shared->Prop} {i:Nat} {x:Str} {pos:Pos} {D:hZ} {f:Flow} (hq:SP X pins {nx:=fun σ' H'=>D.nx (σ'.set i none) H',rt:=D.rt,bk:=fun σ' H'=>D.bk (σ'.set i none) H',ct:=fun σ' H'=>D.ct (σ'.set i none) H' } f s) (hN:X.N.Nodup) (hi:X.N[i]?=some x) (hx:X.env.kindOf x=some .local) (hl:Ad X.env.scope x) (hfn:X.fn x=true∨X.env.scope.names.lookup x=some .local) :
  wpAny M A (do bindName X.env x .none;unbindBehindTheSuite X.env x pos) (fun _ s'=>SP X pins D f s') E s:=by
 cases f with
 | next=>obtain⟨σ',H',I,q⟩:=hq;exact mK I hN hi hx hl hfn fun s' I'=>⟨_,H',I',q⟩
 | brk=>obtain⟨σ',H',I,q⟩:=hq;exact mK I hN hi hx hl hfn fun s' I'=>⟨_,H',I',q⟩
 | cont=>obtain⟨σ',H',I,q⟩:=hq;exact mK I hN hi hx hl hfn fun s' I'=>⟨_,H',I',q⟩
 | ret u=>obtain⟨v,σ',H',I,r,q⟩:=hq;exact mK I hN hi hx hl hfn fun s' I'=>⟨v,_,H',I',r,q⟩
theorem SP.handled {D:hZ} {f:Flow} (h:SP (X.handling a) pins D f s) (ok:X.Ok):SP X pins D f s:=by
 cases f with
 | next=>obtain⟨σ',H',I,q⟩:=h;exact⟨σ',H',I.handled ok,q⟩
 | brk=>obtain⟨σ',H',I,q⟩:=h;exact⟨σ',H',I.handled ok,q⟩
 | cont=>obtain⟨σ',H',I,q⟩:=h;exact⟨σ',H',I.handled ok,q⟩
 | ret u=>obtain⟨v,σ',H',I,r,q⟩:=h;exact⟨v,σ',H',I.handled ok,r,q⟩
theorem SP.tried {D:hZ} {f:Flow} (h:SP (X.trying (X.pn++pins) Ex) [] D f s) (ok:X.Ok):SP X pins D f s:=by
 cases f with
 | next=>obtain⟨σ',H',I,q⟩:=h;exact⟨σ',H',I.tried.pnOut ok,q⟩
 | brk=>obtain⟨σ',H',I,q⟩:=h;exact⟨σ',H',I.tried.pnOut ok,q⟩
 | cont=>obtain⟨σ',H',I,q⟩:=h;exact⟨σ',H',I.tried.pnOut ok,q⟩
 | ret u=>obtain⟨v,σ',H',I,r,q⟩:=h;exact⟨v,σ',H',I.tried.pnOut ok,r,q⟩
def Sc (K:W.Frag) (C:Addr) (i:Nat) (tb:(St->Value->Option Addr->Hp->Prop)->TS) (th:TS):TS:=fun D σ H=>
 tb (fun σ' cls od H'=>W.exmOne K cls (.ref C)=some true/\∀a,H' a=none->th {nx:=fun σ'' H''=>D.nx (σ''.set i none) H'',rt:=D.rt,bk:=fun σ'' H''=>D.bk (σ''.set i none) H'',ct:=fun σ'' H''=>D.ct (σ''.set i none) H'' } (σ'.set i (some (.ref a))) (aI H' a (.ext (pB a cls od)))) D σ H
theorem Ob {C:Addr} {c n:Str} {i:Nat} {body suite:List Stmt} {s0:Stmt} {p hpos pos:Pos} {tb:(St->Value->Option Addr->Hp->Prop)->TS} {th:TS} (hN:X.N.Nodup) (hi:X.N[i]?=some n) (hx:X.env.kindOf n=some .local) (hl:Ad X.env.scope n) (hfn:X.fn n=true∨X.env.scope.names.lookup n=some .local) (hst:X.stack=X.env::X.outer) (hf:X.env.frame=some X.env.locals) (hex:X.ex=[])
  (hg:Gl X c) (hm:X.mg c=some (.ref C)) (hdb:(c == ("__debug__":Str))=false) (hb:∀pn Ex,PSs (X.trying pn Ex) body (tb Ex)) (hs:∀a,PSs (X.handling a) (s0::suite) th) :
  PS X (.Try body [.ExceptHandler (some (.Name c p)) (some n) (s0::suite) hpos] [] [] pos) (Sc X.K C i tb th):=by
 intro pins s σ H D I h;refine wpAny_Try_except (wpAny_mono (hb (X.pn++pins) _ [] s σ H D I.pnIn.trying h) (fun f s1 q=>?_) fun e s1 q=>?_)
 ·have q':=q.tried I.ok
  cases f with
  | next=>exact wpAny_execs_nil q'
  | brk=>exact q'
  | cont=>exact q'
  | ret u=>exact q'
 ·obtain⟨σ',H0,sc,I0,a,cls,od,H',rfl,F,hx1,hw⟩:=q
  have I0':Inv X pins σ' H0 sc:=I0.pnOut I.ok
  have F':Fly X.prog X.w X.stack H0 sc H' a cls od .none s1:=F
  refine tP I0' F' I.ok.frames hst hf fun s2 F2=>?_
  refine nV I0' F2 fun s3 F3=>?_
  have I3:=F3.inv I0'
  refine wpAny_handleBy_cons (codeAny_handlers_test ?_) (by intro q;cases q)
  refine iK (X:=X.handling a) (I3.handling (a:=a)) hg hm ?_ hdb
  obtain⟨T,⟨oe,vs,a0,oT,ts,e1,e2,_⟩,_⟩:=F3.tr
  have LT:W.Looks (model X.prog X.w) s3.heap (typeOf (.ref a)) cls:=e2 ▸ (W.Looks.ld e1).andThen .now
  refine(W.exm_one I3.kIn LT hx1).here ?_
  show codeAny _ _ _ _ _
  refine codeAny_handlers_suite_as ?_
  refine nV I0' F3 fun s4 F4=>?_
  have I4:=F4.inv I0'
  obtain⟨T4,⟨oe4,vs4,a04,oT4,ts4,q1,q2,q3,q4,_⟩,_⟩:=F4.tr
  have I5:=I4.exc I0' hex F4.na F4.ha (od:=od) ⟨oe4,vs4,q1,q2,q4,fun dx hdx=>by obtain⟨o1,z1,z2⟩:=F4.dd dx hdx;rw[q1]at z1;cases z1;exact z2⟩
  refine jN (v:=.ref a) I5 hN hi hl rfl (fun s5 I6=>?_) hfn
  refine wpAny_mono (hs a pins s5 _ _ _ (I6.handling (a:=a)) (hw a F4.ha)) (fun f s6 q=>?_) (fun _ _ z=>False.elim z)
  exact SP.goes (q.handled I.ok) hN hi hx hl hfn
end
end L2
namespace L2
open PySem PySem.Spec PyProof.Rows
structure lS (K:W.Frag) (D:Addr):Prop where
 ga:W.findIn K (.ref D) "__getattribute__"=some (some (.builtin "BaseException.__getattribute__"))
 gx:W.findIn K (.ref D) "__getattr__"=some none
 cl:W.findIn K (.ref D) "__class__"=some (some (.builtin "object.__class__"))
 gg:W.specialIn K (.builtin "object.__class__") "__get__"=some (some (.builtin "getset_descriptor.__get__"))
 tk:W.takesIn K (.builtin "object.__class__")=some true
 mo:W.mroIn K D (.type "object")=some true
 mb:W.mroIn K D (.type "BaseException")=some true
 ci:(W.clsIn K D).isSome=true
def OfCls (x D:Addr) (h:Heap):Prop:=∃o,h.get? x=some o/\o.cls=.ref D
section
variable {prog:Program} {w:World} {A:Around} {E:Value->Shared->Prop} {s:Shared} {K:W.Frag} {x D:Addr}
theorem OfCls.type {M:Model} {h:Heap} (c:OfCls x D h):W.Looks M h (typeOf (.ref x)) (.ref D):=by
 obtain⟨o,h1,h2⟩:=c
 exact h2 ▸ (W.Looks.ld h1).andThen .now
theorem qD {M:Model} {nameV:Value} {Q:Unit->Shared->Prop} (LI:W.Looks M s.heap (isInstance (.ref x) (.type "BaseException")) true) (h:Q () s):wpAny M A (checkBuiltinCall "BaseException.__getattribute__" ⟨[.ref x,nameV],[]⟩) Q E s:=by
 have hkd:builtinKind "BaseException.__getattribute__"=some .slot:=by decide +kernel
 have hsp:splitId "BaseException.__getattribute__"=some ("BaseException","__getattribute__"):=by decide +kernel
 have har:=F.args_bexc_ga (.ref x) nameV
 simp only [checkBuiltinCall,hkd,hsp]
 refine wpAny_bind (LI.here ?_)
 obtain⟨hh,g,d,t,os⟩:=s
 repeat (first | wp_step)
 exact h
theorem vX {M:Model} {h:Heap} (X:K.In h) (k:lS K D):W.Looks M h (Builtin.ObjectAttr.find (.ref x) (.ref D) "__class__") (.bind (.builtin "getset_descriptor.__get__") (.builtin "object.__class__")):=by
 have l1:=W.looks_findIn (M:=M) X k.cl
 have l2:W.Looks M h (Builtin.ObjectAttr.getOf (some (.builtin "object.__class__"))) (some (.builtin "getset_descriptor.__get__")):=W.looks_specialIn X k.gg
 have l3:=W.looks_takesIn (M:=M) X k.tk
 refine l1.andThen (l2.andThen ?_)
 exact(show W.Looks M h (Builtin.ObjectAttr.dataDescriptor? (some (.builtin "object.__class__")) (some (.builtin "getset_descriptor.__get__"))) (some (.builtin "getset_descriptor.__get__",.builtin "object.__class__")) from l3.andThen .now).andThen (W.Looks.tag .now)
open PySem.W Builtin Builtin.ObjectAttr Builtin.Getset_descriptor in
theorem zJ {R:Result->Shared->Prop} {tp:Value} (X:K.In s.heap) (c:OfCls x D s.heap) (hm:W.mroIn K D (.type "object")=some true) (h:R (.ok (.ret (.ref D))) s) :
  codeAny (model prog w) A (.call (.builtin "getset_descriptor.__get__") ⟨[.builtin "object.__class__",.ref x,tp],[]⟩) R s:=by
 obtain⟨hh,g,dr,t,os⟩:=s
 have L0:=c.type (M:=model prog w)
 have L1:=W.looks_mroIn (M:=model prog w) X hm
 refine codeAny_call_builtin KF.slot_gs.plain KF.entry_gs (KF.slot_gs.check _ _ _ _ _ _ _ _ KF.type_class (KF.args_gs _ _ _) ?_)
 unfold Builtin.«getset_descriptor.__get__» descrGet
 rw[dga_obj];apply wpAny_bind
 apply wpAny_pure
 unfold descrGetter descrCheckInstance descrNameAndClass isInstance;simp only [KF.owner_class]
 repeat lk
 refine⟨Code.quiet_builtin _ Zk,codeAny_builtin KF.entry_class ?_⟩
 unfold Builtin.«object.__class__» shownTypeOf
 repeat lk
 exact h
theorem zK {Q:Option Value->Shared->Prop} (X:K.In s.heap) (c:OfCls x D s.heap) (k:lS K D) (h:Q (some (.ref D)) {s with toks:=s.toks+1 }):wpAny (model prog w) A (getAttr? (.ref x) "__class__") Q E s:=by
 obtain⟨hh,g,d,t,os⟩:=s
 have L0:=c.type (M:=model prog w)
 have L1:=W.looks_findIn (M:=model prog w) X k.ga
 have L2:=W.looks_findIn (M:=model prog w) X k.gx
 have L3:=vX (M:=model prog w) (x:=x) X k
 have LI:W.Looks (model prog w) hh (isInstance (.ref x) (.type "BaseException")) true:=L0.andThen (W.looks_mroIn X k.mb)
 unfold getAttr? getAttrBy? getAttrBy
 refine wpAny_bind (wpAny_mkText (wpAny_bind (wpAny_attempt (wpAny_holding (wpAny_bind (L0.at (wpAny_bind (L1.at ?_))))))))
 dsimp only;have hx0:(Value.builtin "BaseException.__getattribute__" == Value.builtin "object.__getattribute__")=false:=by decide +kernel
 have hx1:(onTheHeap (Value.ref D)&&Value.builtin "BaseException.__getattribute__" == Value.builtin "object.__getattribute__")=false:=by rw[hx0];rfl
 rw[if_neg (by rw[hx1];exact Bool.false_ne_true)]
 unfold getAttrByItsOwn hookBefore;rw[if_pos (show onTheHeap (Value.ref D)=true from rfl)];refine wpAny_bind (L2.at ?_)
 refine wpAny_bind (wpAny_attempt (wpAny_holding ?_))
 unfold callGetattribute;rw[if_neg Zd]
 unfold boundAndCalled;refine wpAny_bind (wpAny_of_eq (F.excAttr_ValueError.ga.bind _) ?_)
 show wpAny _ _ (call (.builtin "BaseException.__getattribute__") [.ref x,.str "__class__" t]) _ _ _
 refine wpAny_call (codeAny_call_builtin F.excAttr_ValueError.ga.plain F.entry_bexc_ga (qD LI ?_))
 unfold Builtin.«object.__getattribute__»
 refine wpAny_bind (wpAny_of_eq (a:=(Value.ref x,[Value.str "__class__" t])) rfl ?_)
 dsimp only;refine wpAny_bind (wpAny_pure (wpAny_bind (L0.at (wpAny_bind (L3.at ?_)))))
 dsimp only;show wpAny _ _ (holding [Value.builtin "object.__class__"] (call (.builtin "getset_descriptor.__get__") [.builtin "object.__class__",.ref x,.ref D]) >>= ret) _ _ _
 refine wpAny_bind (wpAny_holding (wpAny_call (zJ (s:=⟨hh,g,d,t+1,os⟩) X c k.mo ?_)))
 refine wpAny_pure ?_
 show wpAny _ _ (handedOut (.ref D)) _ _ _
 exact wpAny_pure (wpAny_pure h)
theorem nW (k:lS K D):W.KitX K (.ref x) (.ref D) (OfCls x D) where
 ty:=fun _ _ _ c=>c.type
 it:=fun _ _ X _=>by
  obtain⟨cdD,hcD⟩:=Option.isSome_iff_exists.mp k.ci
  unfold W.clsIn at hcD;split at hcD
  ·rename_i c' d' cd' sl' ho
   intro A' Q' E' s' k' q;unfold isType loadHead;exact wpAny_bind (wpAny_loadPart (k' _ _ (X _ _ ho)) (wpAny_pure q))
  ·cases hcD
 ne:=fun h tp dd its n sl X htp=>by
  obtain⟨cdD,hcD⟩:=Option.isSome_iff_exists.mp k.ci
  refine Bool.eq_false_iff.mpr fun q=>?_
  have e:D=tp:=Value.ref.inj (beq_iff_eq.mp q)
  subst e;unfold W.clsIn at hcD;split at hcD
  ·rename_i c' d' cd' sl' ho
   rw[X _ _ ho]at htp;cases htp
  ·cases hcD
 ca:=fun X c q=>zK X c k q
end
def Sd (K:W.Frag) (H:Hp) (D:Addr) (c:V) (b:Bool):Prop:=match c with
 | .ref t=>(∃xs:List Addr,H t=some (.tup (xs.map V.ref))/\W.kitAny K (.ref D) (xs.map Value.ref)=some b)∨W.kitOne K (.ref D) (.ref t)=some b
 | .ty n=>W.kitOne K (.ref D) (.type n)=some b
 | _=>False
def Oc (K:W.Frag):List V->Hp->VK->Prop:=fun vs H Q=>match vs with
 | [.ref a,c]=>∃D b od,H a=some (.ext (pB a (.ref D) od))/\lS K D/\Sd K H D c b/\Q (.bl b) H
 | _=>False
theorem qE:∀ {xs:List Addr} {us:List Value},Vals (xs.map V.ref) us->us=xs.map Value.ref
 | [],[],_=>rfl
 | x::xs,u::us,.cons r rs=>by
  cases r
  rw[qE rs];rfl
section
variable {X:Cx}
theorem Se:CallR X (.builtin "isinstance") (Oc X.K):=by
 intro pins s σ H xs us Q I r h;unfold Oc at h;split at h
 ·rename_i a c
  obtain⟨D,b,od,e,k,ans,q⟩:=h
  obtain⟨⟨o,vs,h1,h2,h3⟩,_⟩:=(show ObjOk X.prog X.w H s.heap a (.ext (pB a (.ref D) od)) from I.hok a _ e)
  have oc:OfCls a D s.heap:=⟨o,h1,h2⟩
  cases r with
  | cons ra r2=>
   cases r2 with
   | cons rc r3=>
    cases r3
    cases ra
    cases c with
    | ref t=>
     cases rc
     rcases ans with⟨ys,et,ka⟩ | ko
     ·obtain⟨_,its,rv,⟨ot,ht,hc,n,hd⟩⟩:=(show ObjOk X.prog X.w H s.heap t (.tup (ys.map V.ref)) from I.hok t _ et)
      obtain rfl:=qE rv
      obtain⟨c0,dd,dat,sl⟩:=ot
      dsimp only at hc hd
      subst hc hd;exact W.kia_tup (nW k) I.kIn oc ht ka (by intro z;cases z) fun tk=>⟨.bl b,H,I.tok _,rfl,q⟩
     ·exact W.kia_one (nW k) I.kIn oc ko (by intro z;cases z) fun tk=>⟨.bl b,H,I.tok _,rfl,q⟩
    | ty n=>
     cases rc
     exact W.kia_one (nW k) I.kIn oc ans (by intro z;cases z) fun tk=>⟨.bl b,H,I.tok _,rfl,q⟩
    | _=>exact ans.elim
 ·exact h.elim
end
namespace R
section
variable {X:Cx} {x n c:Str} {C:Addr} {E:XK} {e:Expr} {es:List Expr} {t:TA} {np cpos pos p hpos:Pos} {m i:Nat} {ps:List Str} {sp:Sp} {Ex:St->Value->Option Addr->Hp->Prop} {K:W.Frag} {body suite:List Stmt} {s0:Stmt} {tb:(St->Value->Option Addr->Hp->Prop)->TS} {th:TS}
theorem db (hK:X.K=K:=by rfl):XC X (.builtin "isinstance") (Oc K):=hK ▸ ⟨Se⟩
theorem ij (c:fZ X.prog X.w X.K X.mg X.base m x ps sp) (hr:Room m X.A) (hg:Gl X x) (hx:qC X Ex) (ha:XA X (e::es) t) (hs:aO e=true:=by rfl) (h2:es.all aO=true:=by rfl) (hdb:(x == ("__debug__":Str))=false:=by decide) :
  XE X (.Call (.Name x p) (e::es) [] pos) (Sb sp Ex t):=⟨Oa c hr hg hx ha.h hs h2 hdb⟩
theorem je (hm:X.mg c=some (.ref C)) (hg:Gl X c) (hN:X.N.Nodup) (hb:∀pn Ex,XB (X.trying pn Ex) body (tb Ex)) (hs:∀a,XB (X.handling a) (s0::suite) th) (hK:X.K=K:=by rfl) (hi:X.N[i]?=some n:=by rfl) (hx:X.env.kindOf n=some .local:=by rfl) (hl:Ad X.env.scope n:=by first | exact Or.inl rfl | exact Or.inr rfl)
  (hfn:X.fn n=true∨X.env.scope.names.lookup n=some .local:=by first | exact .inl rfl | exact .inr rfl) (hst:X.stack=X.env::X.outer:=by rfl) (hf:X.env.frame=some X.env.locals:=by rfl) (hex:X.ex=[]:=by rfl) (hdb:(c == ("__debug__":Str))=false:=by decide) :
  XS X (.Try body [.ExceptHandler (some (.Name c p)) (some n) (s0::suite) hpos] [] [] pos) (Sc K C i tb th):=hK ▸ ⟨Ob hN hi hx hl hfn hst hf hex hg hm hdb (fun pn Ex=>(hb pn Ex).h) fun a=>(hs a).h⟩
end
end R
end L2
namespace L2
open PySem PySem.Spec PyProof.Rows
theorem pC:bootBuiltins "ValueError"=some (.type "ValueError"):=by decide +kernel
theorem R.ft {X:Cx} {x:Str} {n:String} {pos:Pos} (hg:Gl X x) (hm:X.mg x=none) (hv:bootBuiltins x=some (.type n)) (hn:x≠"__name__":=by decide) (hd:(x == ("__debug__":Str))=false:=by decide):XE X (.Name x pos) (tC (.ty n)):=⟨wR hg hm hv rfl hn hd⟩
end L2
namespace L2
open PySem PySem.Spec PyProof.Rows
section
variable {X:Cx}
theorem R.fu (hc:X.calm=true):XC X (.builtin "min") (fun vs H Q=>match vs with | [.int i,.int j]=>Q (.int (if j<i then j else i)) H | _=>False):=⟨(yR hc).imp fun vs H Q h=>by
 split at h
 ·exact⟨_,_,rfl,h⟩
 ·exact h.elim⟩
end
end L2
namespace L2
open PySem PySem.Spec PyProof.Rows
section
variable {X:Cx} {o:Expr} {to:TE} {p pos apos cpos:Pos}
def Jx:yM:=fun o i v H Q=>∃a H',o=.ref a/\DPut H a i v H'/\Q H'
theorem Cy (hu:X.A.units+1<cLine):Fm X Jx:=by
 intro pins s σ H o i v ov iv u Q I ro ri rv h;obtain⟨a,H',rfl,g,q⟩:=h
 cases ro
 exact zA hu I g ri rv fun s' I'=>⟨H',I',q⟩
theorem R.cv (hu:X.A.units+1<cLine):Nn X Jx:=⟨Cy hu⟩
end
end L2
namespace L2
open PySem PySem.Spec PyProof.Rows
def Cz (prs:List (Str × Int)) (n:Str) (v:Int):List (Str × Int):=prs.map fun q=>if q.1=n then (q.1,v) else q
theorem zL (prs:List (Str × Int)) (n:Str) (v:Int):(Cz prs n v).map (·.1)=prs.map (·.1):=by
 unfold Cz;rw[List.map_map];refine List.map_congr_left fun q _=>?_
 show(if q.1=n then (q.1,v) else q).1=q.1
 split <;> rfl
theorem Ib {prs:List (Str × Int)} {n:Str} {v:Int} (h:n∈prs.map (·.1)):cK (gY prs) (Sum.inr n) (.int v)=gY (Cz prs n v):=by
 unfold cK;rw[if_pos (by rw[eL,jU];obtain⟨a,ha⟩:=fY h;rw[ha];rfl)]
 unfold gY Cz;rw[List.map_map,List.map_map];refine List.map_congr_left fun q _=>?_
 show(if (Sum.inr q.1:bB)=Sum.inr n then (Sum.inr q.1,V.int v) else ((Sum.inr q.1:bB),V.int q.2))=((Sum.inr (if q.1=n then (q.1,v) else q).1:bB),V.int (if q.1=n then (q.1,v) else q).2)
 by_cases e:q.1=n
 ·rw[if_pos (by rw[e]),if_pos e]
 ·rw[if_neg (fun z=>e (Sum.inr.inj z)),if_neg e]
def xP (C:Addr):Sp:=fun vs H Q _=>∃(p dx:Addr) (r:V) (prs:List (Str × Int)),vs=[.ref p,r]/\H p=some (.ins C dx [])/\Nv H r prs/\(prs.map (·.1)).Nodup/\prs.length<=1000 ∧
 ∀H' d,H d=none->H' p=some (.ins C dx [("amounts",.ref d)])->H' d=some (.dK (gY prs))->(∀b o,H b=some o->b≠p->H' b=some o)->Q .non H'
end L2
namespace L2
open PySem PySem.Spec PyProof.Rows
section
variable {X:Cx}
def Dg (i j:Int):Prop:=0<j/\j<2 ^ 64
theorem Ic:OpR X (binaryOp .FloorDiv) (m2 Dg fun i j=>.int (i / j)):=(Sw (C:=Dg) (g:=fun i j=>i / j) fun i j _ _ s Q E hc q=>by
 have h1:i.fdiv j=i / j:=Int.fdiv_eq_ediv_of_nonneg _ (by have:=hc.1;omega)
 refine floordiv_int (by have:=hc.1;omega) (by rw[h1];exact q) (.inl (PyProof.noPylong_of_log2 ?_))
 have h2:j.natAbs<2 ^ 64:=by have:=hc.1;have:=hc.2;omega
 exact Nat.lt_of_lt_of_le (Nat.log2_lt (by have:=hc.1;omega) |>.mpr h2) Zd).imp rL
theorem R.eg:jI X (binaryOp .FloorDiv) (m2 Dg fun i j=>.int (i / j)):=⟨Ic⟩
end
def K1 (p:Addr) (H H':Hp):Prop:=∀c o,H c=some o->c≠p->H' c=some o
def KLET:List Nat:=LET++Uy
def rY (z:Str):Prop:=1<=z.length/\z.length<=12/\∀c∈z.cps.toList,c∈KLET
end L2
namespace L2
open PySem PySem.Spec PyProof.Rows
structure Dh (P:Program) (w:World) (K:W.Frag) (mg:Str->Option Value) (base:Heap) (n:Nat) (C:Addr) (m:Str) (ps:List Str) (sp:Sp):Prop where
 ex:∃f fd,Cls K C/\Fz K C m f/\fW P w K mg base (rV P w) n f fd ps sp/\Binds K fd ps []
theorem MethAt.goX {P:Program} {w:World} {K:W.Frag} {mg:Str->Option Value} {base:Heap} {C:Addr} {m qual:Str} {st:Stmt} {N ps:List Str} {k:Nat} {sp:Sp} (D:MethAt K C m qual st ps) (S:aK N ps (aB st)) (len:∀vs H Q E,sp vs H Q E->vs.length=ps.length)
  (hbody:∀(f:Addr) (cdv:Value) (A:Around) (outer:List Env) (s:Shared) (H:Hp) (vs:List V) (Q:VK) (E:XK),Room k (A.deeper (envOfC qual (aB st) s.heap.objs.size f cdv))->sp vs H Q E →
   ∃t,XB (cW (rV P w) P w K mg base N qual (aB st) f cdv A outer s H E) (aQ st) t/\t {nx:=fun _ H'=>Q .non H',rt:=Q } (start N vs) H):Dh P w K mg base (k+1) C m ps sp:=by
 obtain⟨f,fd,F,hm,hb⟩:=D.ex
 refine⟨f,fd,D.cl,hm,?_,hb⟩
 obtain⟨oc,od,kV,doc,pm,an,cdv,ct,osl,rfl,lk,hcd⟩:=F.ex
 refine wY lk hcd S len fun A outer s H vs Q E hr hsp=>?_
 obtain⟨t,h,q⟩:=hbody f cdv A outer s H vs Q E hr hsp
 exact⟨t,h.h,q⟩
def Dl (C:Addr) (m:Str) (sp:Sp) (Ex:St->Value->Option Addr->Hp->Prop) (ta:TE) (t:TA):TE:=fun σ H Q=>ta σ H fun x H1=>mR x fun a=>∃dx fs,H1 a=some (.ins C dx fs)/\fs.lookup m=none/\t σ H1 fun vs H2=>sp (.ref a::vs) H2 Q (fun cls od H'=>Ex σ cls od H')
section
variable {X:Cx} {e o:Expr} {es:List Expr} {m x:Str} {p pos apos:Pos} {ta:TE} {t:TA} {C:Addr} {n:Nat} {ps:List Str} {sp:Sp} {Ex:St->Value->Option Addr->Hp->Prop}
theorem zM {pl:Sem Bool} (he:PE X o ta) (c:Dh X.prog X.w X.K X.mg X.base n C m ps sp) (hr:Room n X.A) (hx:qC X Ex) (ha:PA X (e::es) t) (hs:aO e=true) (hpl:(backTo pos (starEach es X.env)).any (·.1)=false)
  (ht:eval (.Call (.Attribute o m apos) (e::es) [] pos) X.env=(do
   let ov ← eval o X.env
   standAt apos.atName
   let (f,first) ← holding [ov] (getMethod ov m pl)
   callWith pos f first (backTo pos (starEach (e::es) X.env)) (backToKw pos (keywordEach [] X.env)))) :
  PE X (.Call (.Attribute o m apos) (e::es) [] pos) (Dl C m sp Ex ta t):=by
 obtain⟨f,fd,cl,hm,F,hb⟩:=c.ex
 intro pins s σ H Q I h;refine W.methodCall_KW (pl:=pl) (bK (he pins s σ H _ I h) fun u s1 ⟨x,H1,I1,rx,q1⟩=>?_) ht
 dsimp only at q1
 rw[dU]at q1;obtain⟨a,rfl,dx,fs,ea,l,q⟩:=q1
 obtain rfl:u=Value.ref a:=rx
 refine jE I1 ea cl hm l ?_
 refine W.callWith_K (first:=[.ref a]) (h₀:=X.base) I.ok.mod.kin hm.kp (bK (ha pos pins s1 σ H1 _ I1 q) fun us s2 ⟨vs,H2,I2,r,q2⟩=>⟨I2.kIn,?_⟩) (bG hs) hpl
 have r2:Vals (V.ref a::vs) (Value.ref a::us):=.cons rfl r
 have hl:(Value.ref a::us).length=ps.length:=by rw[<- r2.length];exact F.len _ _ _ _ q2
 have hb':=hb s2 (Value.ref a::us) I2.kIn (by rw[List.append_nil];exact hl)
 rw[List.append_nil]at hb';refine wpAny_call (codeAny_mono (F.run X.A X.stack s2 H2 ⟨Value.ref a::us,[]⟩ (Value.ref a::us) (V.ref a::vs) Q _ hr I2.env0 hb' r2 q2) fun rs s' hq=>?_)
 cases rs with
 | error e'=>exact hx pins σ H2 s2 e' s' I2 hq
 | ok fl=>
  cases fl with
  | ret u=>exact I2.after hq
  | next=>exact False.elim hq
  | brk=>exact False.elim hq
  | cont=>exact False.elim hq
namespace R
theorem iz {pl:Sem Bool} (c:Dh X.prog X.w X.K X.mg X.base n C m ps sp) (hr:Room n X.A) (hx:qC X Ex) (he:XE X o ta) (ha:XA X (e::es) t) (hs:aO e=true:=by rfl) (h2:es.all aO=true:=by rfl)
  (ht:eval (.Call (.Attribute o m apos) (e::es) [] pos) X.env=(do
   let ov ← eval o X.env
   standAt apos.atName
   let (f,first) ← holding [ov] (getMethod ov m pl)
   callWith pos f first (backTo pos (starEach (e::es) X.env)) (backToKw pos (keywordEach [] X.env))):=by rfl):XE X (.Call (.Attribute o m apos) (e::es) [] pos) (Dl C m sp Ex ta t):=⟨zM he.h c hr hx ha.h hs (cX h2) ht⟩
end R
end
end L2
namespace L2
open PySem PySem.Spec PyProof.Rows
section
variable {X:Cx} {pins:List (Addr × Obj)} {σ:St} {H:Hp} {s:Shared} {a:Addr} {o:Obj} {kvs:List (bB × V)}
def Jy (t:TS):TS:=fun D σ H=>t {nx:=fun σ' H2=>∃a kvs o,(∃kvs0,H a=some (.dK kvs0))/\H2 a=some (.frz o (.dK kvs))/\D.nx σ' (aI H2 a (.dK kvs)),rt:=fun _ _=>False } σ H
theorem Id {e:Stmt} {t:TS} (he:PS X e t):PS X e (Jy t):=by
 intro pins s σ H D I h;refine bK (he pins s σ H _ I h) fun f s1 q=>?_
 cases f with
 | next=>
  obtain⟨σ',H2,I2,a,kvs,o,⟨kvs0,e0⟩,e2,q⟩:=q
  refine⟨σ',_,I2.thaw e2 (fun o' u' z=>?_),q⟩
  have:=I.base.frzs a o' u' z
  rw[e0]at this;cases this
 | brk=>obtain⟨_,_,_,q⟩:=q;exact q.elim
 | cont=>obtain⟨_,_,_,q⟩:=q;exact q.elim
 | ret u=>obtain⟨_,_,_,_,_,q⟩:=q;exact q.elim
end
namespace R
section
variable {X:Cx} {tg l:Expr} {tl:TE} {apos cpos:Pos} {e:Stmt} {t:TS}
theorem ja (h:XS X e t):XS X e (Jy t):=⟨Id h.h⟩
end
end R
end L2
namespace L2
open PySem PySem.Spec PyProof.Rows
section
variable {P:Program} {w:World} {K:W.Frag} {mg:Str->Option Value} {base:Heap} {N:List Str} {qual:Str} {scope:Scope} {f:Addr} {cd:Value} {A:Around} {outer:List Env} {s:Shared} {H:Hp} {E:XK}
theorem nX (hf:(envOfC qual scope s.heap.objs.size f cd).frame=some (envOfC qual scope s.heap.objs.size f cd).locals:=by rfl) :
  qC (cW (rV P w) P w K mg base N qual scope f cd A outer s H E) (fun _ cls od H'=>E cls od H'):=by
 intro pins σ H0 s0 e s' I0 h;obtain⟨a,cls,od,H',rfl,F,hE⟩:=h
 show wpAny (model P w) (A.deeper (envOfC qual scope s.heap.objs.size f cd)) (leaving (envOfC qual scope s.heap.objs.size f cd) (.ref a)) (fun _ s''=>rV P w outer H s E (.ref a) s'') (fun e' s''=>rV P w outer H s E e' s'') s'
 unfold leaving;refine wpAny_bind (tP I0 F I0.ok.frames rfl hf fun s2 F2=>?_)
 refine nV I0 F2 fun s3 F3=>?_
 have I3:=F3.inv I0
 have und:Un (gW outer) [] H H0 s.heap s0.heap:=I0.base
 have low:∀ {c:Addr},s0.heap.get? c=none->s.heap.get? c=none:=fun {c} hc=>by
  cases z:s.heap.get? c with
  | none=>rfl
  | some ob=>
   obtain⟨o',y⟩:=und.there c ob z Zs
   rw[hc]at y;cases y
 obtain⟨T,tr,nT,hT⟩:=F3.tr
 exact⟨a,cls,od,H',rfl,⟨low F3.na,I3.os,I3.bare,I3.base,F3.hok,F3.ha,⟨T,tr,low nT,hT⟩,F3.dd⟩,hE⟩
theorem kX:PassesOwn (model P w) (cW (rV P w) P w K mg base N qual scope f cd A outer s H E).A (cW (rV P w) P w K mg base N qual scope f cd A outer s H E).env (cW (rV P w) P w K mg base N qual scope f cd A outer s H E).xe:=by
 unfold cW;dsimp only;passes_own
end
end L2
namespace L2
open PySem PySem.Spec PyProof.Rows
section
variable {prog:Program} {w:World} {A:Around} {E:Value->Shared->Prop} {h:Heap} {g:Array GenState} {d:Drawn} {t:Nat} {os:OsState}
variable {nm q:Str} {C N:Addr} {bs bm bmB:List Value} {hdct:Bool} {sn:List Str} {sub:List Value} {ab:Bool} {col:Option Bool} {dd:Option Addr} {k0 k1 k2 k3 k5:Option Value} {B newId initId:String}
abbrev dD (C t:Addr):Obj:={cls:=.ref C,data:=.fields #[.ref t,.none,.none,.none,.bool false,.none] }
abbrev gZ (h:Heap) (C:Addr) (rest:List Value):Heap:=(h.push {cls:=.type "tuple",data:=.seq rest.toArray }).push (dD C h.objs.size)
theorem eP {rest:List Value} {b:Addr} {o:Obj} (e:h.get? b=some o):(gZ h C rest).get? b=some o:=hJ _ (hJ _ e)
theorem tQ {rest:List Value}:(gZ h C rest).get? (h.objs.size+1)=some (dD C h.objs.size):=by
 have:=Heap.get?_push_size (h.push {cls:=.type "tuple",data:=.seq rest.toArray }) (o:=dD C h.objs.size) rfl
 rwa [Heap.size_push]at this
theorem tR (F:ExcBaseFacts B newId initId bmB) (T:OwnTail h bmB bm) {mN:Str->Option Value} {rest:List Value} {fI:Addr} {oI:Obj} {Q:Fin->Shared->Prop}
  (hC:h.get? C=some (excClassObj nm q C N bs bm hdct sn sub ab col dd k0 k1 k2 k3 k5 newId)) (hn:h.Ns N mN) (hi:mN "__init__"=some (.ref fI)) (hfI:h.get? fI=some oI) (hfc:oI.cls=.type "function")
  (go:wpAny (model prog w) A (call (.ref fI) (.ref (h.objs.size+1)::rest)) (fun r s'=>r=.none/\Q (.done (.ret (.ref (h.objs.size+1)))) s') E ⟨gZ h C rest,g,d,t,os⟩) (hrest:rest.length<=sizeLine) :
  wpAny (model prog w) A (Builtin.«type.__call__» ⟨.ref C::rest,[]⟩) Q E ⟨h,g,d,t,os⟩:=by
 repeat (first | with_reducible refine wpAny_loadPart_at hC ?_ | with_reducible refine wpAny_madeBy_exc hC ?_ | wp_step)
 refine codeAny_call_builtin_code (Code.quiet_builtin _ F.quiet) (wpAny_check_new_subT F T hC (codeAny_exc_new_subT F T hC ?_ hrest));show wpAny _ _ _ _ _ _
 have cx:(gZ h C rest).get? C=_:=eP hC;have fx:(gZ h C rest).get? fI=_:=eP hfI;have nx:(gZ h C rest).Ns N mN:=let ⟨o,es,ep,e,r⟩:=hn;⟨o,es,ep,eP e,r⟩
 have gx:(gZ h C rest).get? (h.objs.size+1)=some (dD C h.objs.size):=tQ;have me:(Value.ref C::bm).contains (.ref C)=true:=by simp
 have tx:=T.keeps (h':=gZ h C rest) fun b o e=>eP e;unfold isInstance
 repeat (first | with_reducible refine wpAny_loadPart_at gx ?_ | (with_reducible refine wpAny_isSubtype_exc cx ?_;rw[me]) | wp_step)
 show wpAny _ _ (typeLookup (.ref C) _) _ _ _;refine wpAny_typeLookup_tail cx nx tx F.mroIs F.init.lookup ?_;rw[hi];refine wpAny_holding (wpAny_bind ?_);unfold bindSpecial
 refine wpAny_bind (wpAny_typeOf (T:="function") ⟨_,fx,hfc⟩ ?_);rw[if_pos Zd];refine wpAny_pure (wpAny_bind (wpAny_mono go (fun r s' hr=>?_) fun _ _ x=>x));obtain⟨rfl,hQ⟩:=hr
 wp_walk;exact hQ
theorem vY (F:ExcBaseFacts B newId initId bmB) (T:OwnTail h bmB bm) {mN:Str->Option Value} {rest:List Value} {fI:Addr} {oI:Obj} {Q:Value->Shared->Prop}
  (hC:h.get? C=some (excClassObj nm q C N bs bm hdct sn sub ab col dd k0 k1 k2 k3 k5 newId)) (hn:h.Ns N mN) (hi:mN "__init__"=some (.ref fI)) (hfI:h.get? fI=some oI) (hfc:oI.cls=.type "function")
  (go:wpAny (model prog w) (A.under (.builtin "type.__call__" ⟨.ref C::rest,[]⟩)) (call (.ref fI) (.ref (h.objs.size+1)::rest)) (fun r s'=>r=.none/\Q (.ref (h.objs.size+1)) s') E ⟨gZ h C rest,g,d,t,os⟩) (hrest:rest.length<=sizeLine) :
  wpAny (model prog w) A (call (.ref C) rest) Q E ⟨h,g,d,t,os⟩:=by
 have f1:=tc_lookup;have f2:=tc_bind (.ref C);have hT:(⟨h,g,d,t,os⟩:Shared).TypeIs (.ref C) "type":=⟨_,hC,rfl⟩
 refine wpAny_call (codeAny_of_tree ?_);show wpAny _ _ (callAny (.ref C) _) _ _ _
 repeat (any_goals (first | assumption | with_reducible refine wpAny_loadPart_at hC ?_ | wp_step))
 refine⟨rfl,codeAny_call_builtin_at (Code.quiet_builtin _ Zk) entry_typeCall (wpAny_check_type_call_sub hC (tR F T hC hn hi hfI hfc ?_ hrest))⟩;exact go
end
end L2
namespace L2
open PySem PySem.Spec PyProof.Rows
section
variable {prog:Program} {w:World} {A:Around} {E:Value->Shared->Prop} {s:Shared} {env:Env}
variable {nm q:Str} {C N:Addr} {bs bm bmB:List Value} {hdct:Bool} {sn:List Str} {sub:List Value} {ab:Bool} {col:Option Bool} {dd:Option Addr} {k0 k1 k2 k3 k5:Option Value} {B newId initId:String}
theorem zN {x:Sem Value} {Q:Flow->Shared->Prop} (hb:bm.contains (.type "BaseException")=true) (hh:A.handled=none)
  (h:wpAny (model prog w) A x (fun v s1=>∃e t dx sl,v=.ref e/\s1.heap.get? C=some (excClassObj nm q C N bs bm hdct sn sub ab col dd k0 k1 k2 k3 k5 newId) ∧
   s1.heap.get? e=some {cls:=.ref C,dict:=dx,data:=.fields #[.ref t,.none,.none,.none,.bool false,.none],slots:=sl }/\E (.ref e) s1) E s):wpAny (model prog w) A (raiseStmt env (some x) none) Q E s:=by
 have cB:(Value.ref C::bm).contains (.type "BaseException")=true:=by rw[List.contains_cons,hb,Bool.or_true]
 unfold raiseStmt;refine wpAny_bind (wpAny_mono h (fun v s1 h1=>?_) fun _ _ x=>x);obtain⟨e,t,dx,sl,rfl,hC,he,hE⟩:=h1;obtain⟨hp,g,d,tk,os⟩:=s1
 repeat (first | with_reducible refine wpAny_loadPart_at he ?_ | with_reducible refine wpAny_loadPart_at hC ?_ | (with_reducible refine wpAny_isSubtype_exc hC ?_;rw[cB]) | wp_step)
 exact wpAny_raiseNew_none hh hE
theorem tS (F:ExcBaseFacts B newId initId bmB) {mN:Str->Option Value} {x:Str} {np cpos pos:Pos} {args:List Expr} {fI:Addr} {oI:Obj} {Q:Flow->Shared->Prop}
  (hb:bm.contains (.type "BaseException")=true) (hh:A.handled=none) (hp:(backTo cpos (starEach args env)).any (·.1)=false) (hi:mN "__init__"=some (.ref fI)) (hfc:oI.cls=.type "function")
  (h:wpAny (model prog w) A (eval (.Name x np) env) (fun f s1=>f=.ref C/\wpAny (model prog w) A (evalArgs (.ref C) true (backTo cpos (starEach args env)) [])
   (fun a s2=>a.kw=[]/\a.pos.length<=sizeLine/\s2.heap.get? C=some (excClassObj nm q C N bs bm hdct sn sub ab col dd k0 k1 k2 k3 k5 newId)/\s2.heap.Ns N mN/\OwnTail s2.heap bmB bm/\s2.heap.get? fI=some oI ∧
    wpAny (model prog w) (A.under (.builtin "type.__call__" ⟨.ref C::a.pos,[]⟩)) (call (.ref fI) (.ref (s2.heap.objs.size+1)::a.pos)) (fun r s'=>r=.none/\∃t dx sl,s'.heap.get? C=some (excClassObj nm q C N bs bm hdct sn sub ab col dd k0 k1 k2 k3 k5 newId) ∧
     s'.heap.get? (s2.heap.objs.size+1)=some {cls:=.ref C,dict:=dx,data:=.fields #[.ref t,.none,.none,.none,.bool false,.none],slots:=sl }/\E (.ref (s2.heap.objs.size+1)) s') E {s2 with heap:=gZ s2.heap C a.pos }) E s1) E s) :
  wpAny (model prog w) A (exec (.Raise (some (.Call (.Name x np) args [] cpos)) none pos) env) Q E s:=by
 rw[arm_exec_Raise];simp only [evalOpt,Option.map]
 refine wpAny_bind (wpAny_standAt (zN (C:=C) (nm:=nm) (q:=q) (N:=N) (bs:=bs) (bm:=bm) (hdct:=hdct) (sn:=sn) (sub:=sub) (ab:=ab) (col:=col) (dd:=dd) (k0:=k0) (k1:=k1) (k2:=k2) (k3:=k3) (k5:=k5) (newId:=newId) hb hh (wpAny_bind (wpAny_mono (wpAny_Call_ofName (wpAny_mono h (fun f s1 h1=>?_) fun _ _ x=>x)) (fun v s3 h3=>wpAny_bind (wpAny_standAt (wpAny_pure h3))) fun _ _ x=>x))))
 obtain⟨rfl,h1⟩:=h1
 unfold callWith;refine wpAny_bind (wpAny_holding (wpAny_mono h1 (fun a s2 h2=>wpAny_bind (wpAny_standAt ?_)) fun _ _ x=>x))
 obtain⟨ap,ak⟩:=a;obtain⟨hkw,hlen,hC,hn,T,hf,h2⟩:=h2;obtain rfl:ak=[]:=hkw;obtain⟨hp',g,d,tk,os⟩:=s2
 simp only [hp];refine wpAny_bind (wpAny_keeperOf_exc hC (wpAny_bind (vY F T hC hn hi hf hfc (wpAny_mono h2 (fun r s' hr=>⟨hr.1,wpAny_bind (wpAny_holding (wpAny_point (wpAny_pure ?_)))⟩) fun _ _ x=>x) hlen)))
 obtain⟨t,dx,sl,g1,g2,g3⟩:=hr.2
 exact⟨_,t,dx,sl,rfl,g1,g2,g3⟩
end
end L2
namespace L2
open PySem PySem.Spec PyProof.Rows
def rZ:List Value->Bool
 | .ref _::r=>rZ r
 | [.type a,.type b,.type c,.type d]=>a == "ValueError"&&b == "Exception"&&c == "BaseException"&&d == "object"
 | _=>false
theorem jA (v:Value):∀ {l:List Value},rZ l=true->refuseLoop v "__setattr__" l=pure ()/\l.contains (.type "object")=true
 | .ref _::r,h=>by
  have:=jA v (l:=r) h
  exact⟨by rw[refuseLoop_ref];exact this.1,by rw[List.contains_cons,this.2,Bool.or_true]⟩
 | [.type a,.type b,.type c,.type d],h=>by
  simp only [rZ,Bool.and_eq_true,beq_iff_eq]at h
  obtain⟨⟨⟨rfl,rfl⟩,rfl⟩,rfl⟩:=h
  exact⟨PySem.F.store_ValueError.passes v,Zd⟩
def sA (K:W.Frag) (C:Addr):Bool:=(W.clsIn K C).any fun cd=>rZ cd.mro&&cd.hasDict
section
variable {prog:Program} {w:World} {A:Around} {E:Value->Shared->Prop} {s:Shared} {K:W.Frag} {C x t:Addr} {name:Str} {v:Value}
theorem Um {Q:Unit->Shared->Prop} (X:K.In s.heap) (gx:s.heap.get? x=some (dD C t)) (hs:W.findIn K (.ref C) "__setattr__"=some (some (.builtin "object.__setattr__"))) (ho:sA K C=true) (ht:W.takerIn K C name=some none)
  (h:∀h' tk',h'.get? x=some {dD C t with dict:=some s.heap.objs.size }->(∀b o,b≠x->s.heap.get? b=some o->h'.get? b=some o)->h'.Ns1 s.heap.objs.size (fun y=>if y=name then some v else none)->Q () {s with heap:=h',toks:=tk' }) :
  wpAny (model prog w) A (setAttr (.ref x) name v) Q E s:=by
 have J:W.InstAt s.heap x (dD C t) C none:=⟨gx,rfl,rfl,True.intro⟩
 obtain⟨cd,hc,hm⟩:=W.any_some ho
 obtain⟨hm,hdd⟩:=Bool.and_eq_true _ _ ▸ hm
 refine W.set_plain X J hs ?_
 have SF:=PySem.F.store_object
 obtain⟨p1,p2⟩:=jA (.ref x) hm
 have ne:cd.mro.isEmpty=false:=by cases q:cd.mro with | nil=>(rw[q]at p2;cases p2) | cons _ _=>rfl
 have sub:W.Looks (model prog w) s.heap (isInstance (.ref x) (.type "object")) true:=J.type.andThen (W.looks_mroIn X (by unfold W.mroIn;rw[hc,Option.bind_some,if_neg (by rw[ne];decide),p2]))
 have lm:W.Looks (model prog w) s.heap (mroOf (.ref C)) cd.mro:=(W.looks_clsIn X hc).andThen .now
 obtain⟨attr,ha,hr⟩:=Option.bind_eq_some_iff.mp ht
 have l3:W.Looks (model prog w) s.heap (Builtin.ObjectAttr.storeTaker? attr) none:=by
  cases attr with
  | none=>cases hr;exact .now
  | some a=>
   obtain⟨b,hb,e⟩:=Option.map_eq_some_iff.mp hr
   refine(W.looks_takesIn X hb).andThen ?_
   cases b with
   | true=>cases e
   | false=>exact .now
 refine codeAny_call_builtin SF.slot.plain SF.entry (@W.check_slot (model prog w) _ _ {s with toks:=s.toks+1 } "object.__setattr__" "object" "__setattr__" (.ref x) [.str name s.toks,v] [] _ SF.kind SF.split sub (SF.args (.ref x) (.str name s.toks) v) ?_)
 rw[W.osa_eq,refuse_eq];refine wpAny_bind (wpAny_bind (W.Looks.here (s:={s with toks:=s.toks+1 }) J.type (wpAny_bind (W.Looks.here (s:={s with toks:=s.toks+1 }) lm ?_))))
 rw[p1];refine wpAny_pure (wpAny_bind (W.Looks.here (s:={s with toks:=s.toks+1 }) J.type (wpAny_bind (W.Looks.here (s:={s with toks:=s.toks+1 }) (W.looks_findIn X ha) (wpAny_bind (W.Looks.here (s:={s with toks:=s.toks+1 }) l3 ?_))))))
 refine wpAny_bind (wpAny_pure (wpAny_bind (wpAny_bind (wpAny_loadPart (s:={s with toks:=s.toks+1 }) gx (wpAny_bind (W.Looks.here (s:={s with toks:=s.toks+1 }) (W.looks_clsIn X hc) ?_))))))
 rw[hdd];have hxs:x≠s.heap.objs.size:=Nat.ne_of_lt (Heap.lt_size gx)
 have g1:(s.heap.push {cls:=.type "dict",data:=.dict #[] }).get? x=some (dD C t):=hJ _ gx
 refine wpAny_bind (wpAny_alloc' ?_)
 refine wpAny_bind (wpAny_update' g1 ?_)
 have gd:((s.heap.push {cls:=.type "dict",data:=.dict #[] }).update x fun o=>{o with dict:=some s.heap.objs.size }).get? s.heap.objs.size=some {cls:=.type "dict",data:=.dict #[] }:=(Heap.get?_update_ne _ _ _ _ hxs.symm).trans (Heap.get?_push_at rfl rfl)
 have nd:((s.heap.push {cls:=.type "dict",data:=.dict #[] }).update x fun o=>{o with dict:=some s.heap.objs.size }).Ns s.heap.objs.size (fun _=>none):=⟨_,#[],_,gd,rfl,fun e he=>absurd he Zs,fun _=>rfl⟩
 refine wpAny_pure ?_
 show wpAny _ _ (Builtin.ObjectAttr.storeInDict s.heap.objs.size (.str name s.toks) name v) _ _ _
 unfold Builtin.ObjectAttr.storeInDict Builtin.ObjectAttr.newKeyGuard;refine wpAny_bind (wpAny_pure (wpAny_bind (wpAny_nsSet1 (Heap.Ns1.of_empty nd) fun h' n1 b1=>?_)))
 obtain⟨oD,eD,pD,q1,q2,q3⟩:=n1.count (Within.cons name v Within.nil)
 refine wpAny_bind (wpAny_lookBehind q1 (by rw[q2];exact pastItsLine_dict (hU q3 (by rw[sQ,List.length_nil,sizeLine_eq];omega))) (wpAny_pure ?_))
 refine h h' _ ((b1.2 x hxs).trans (Heap.get?_update_self _ g1 rfl)) (fun b o hb e=>?_) n1
 exact(b1.2 b (Nat.ne_of_lt (Heap.lt_size e))).trans ((Heap.get?_update_ne _ _ _ _ hb).trans (hJ _ e))
end
end L2
namespace L2
open PySem PySem.Spec PyProof.Rows
def XN (e C t:Addr):Heap->Prop:=fun h=>h.get? e=some (dD C t)
def Pk (e C t dx:Addr):Heap->Prop:=fun h=>h.get? e=some {dD C t with dict:=some dx }
structure Sf (K:W.Frag) (C:Addr) (f:Str):Prop where
 sa:W.findIn K (.ref C) "__setattr__"=some (some (.builtin "object.__setattr__"))
 ov:sA K C=true
 tk:W.takerIn K C f=some none
section
variable {X:Cx} {pins:List (Addr × Obj)} {σ:St} {H:Hp} {s:Shared} {a e C t:Addr} {φ:Heap->Prop}
theorem Sg {P:Program} {w:World} {h:Heap} (g:h.get? e=some (dD C t)):ObjOk P w H h e (.ext (XN e C t)):=⟨g,⟨_,g⟩,fun _ _ q k=>k _ q⟩
theorem Sh {P:Program} {w:World} {h:Heap} {dx:Addr} (g:h.get? e=some {dD C t with dict:=some dx }):ObjOk P w H h e (.ext (Pk e C t dx)):=⟨g,⟨_,g⟩,fun _ _ q k=>k _ q⟩
theorem Inv.drop (I:Inv X pins σ (aI H a (.ext φ)) s) (na:H a=none):Inv X pins σ H s:=by
 have back:∀b u,(aI H a (.ext φ)) b=some u->(∀ ψ,u≠.ext ψ)->H b=some u:=fun b u q n=>by
  by_cases z:b=a
  ·rw[z,aA]at q;cases q;exact absurd rfl (n φ)
  ·rw[aE z]at q;exact q
 have none':∀b,(aI H a (.ext φ)) b=none->H b=none:=fun b q=>by
  by_cases z:b=a
  ·rw[z,aA]at q;cases q
  ·rw[aE z]at q;exact q
 refine⟨I.ok,I.os,I.bare,⟨I.base.keep,I.base.slot,fun b ob q n hx=>none' _ (I.base.free b ob q n hx),I.base.there,fun b xs q=>back _ _ (I.base.tups b xs q) (fun _ z=>nomatch z),fun b ob u q=>back _ _ (I.base.frzs b ob u q) (fun _ z=>nomatch z),fun b ps q=>?_⟩,I.loc,I.cell,none' _ I.free,fun x c h=>none' _ (I.freeC x c h),fun p hp=>?_,fun b u q=>?_,I.len⟩
 ·obtain⟨more,z⟩:=I.base.tbls b ps q
  exact⟨more,back _ _ z (fun _ z=>nomatch z)⟩
 ·obtain⟨p1,p2,p3⟩:=I.pin p hp
  exact⟨p1,none' _ p2,p3⟩
 ·have nb:b≠a:=aD q na
  exact(I.hok b u (by rw[aE nb];exact q)).stay (fun c v _ h=>h) (fun c h=>back _ _ h (fun _ z=>nomatch z)) fun c xs h=>back _ _ h (fun _ z=>nomatch z)
variable {o value:Expr} {f:Str} {pos pos':Pos} {ta tv:TE} {K:W.Frag}
def Dm (K:W.Frag) (ta tv:TE) (f:Str):TS:=fun D σ H=>tv σ H fun y H1=>ta σ H1 fun x H2=>mR x fun e=>∃C t,H2 e=some (.ext (XN e C t))/\Sf K C f/\∀dx,H2 dx=none->dx≠e->D.nx σ (aI (aI H2 dx (.xd [(f,y)])) e (.ext (Pk e C t dx)))
theorem Dn (ha:PE X o ta) (hv:PE X value tv) (hs:swapsWith value (some (.Attribute o f pos')) pos.line X.env=pure false):PS X (.Assign [.Attribute o f pos'] value pos) (Dm X.K ta tv f):=by
 intro pins s σ H D I h;refine plainObj_wpAny_Assign_Attribute (bK (hv pins s σ H _ I h) fun u s1 ⟨y,H1,I1,ry,q⟩=>bK (ha pins s1 σ H1 _ I1 q) fun ov s2 ⟨x,H2,I2,rx,q1⟩=>?_) hs
 dsimp only at q1
 rw[dU]at q1;obtain⟨a,rfl,C,t,ea,c,q2⟩:=q1
 obtain rfl:ov=Value.ref a:=rx
 have gx:s2.heap.get? a=some (dD C t):=(show ObjOk X.prog X.w H2 s2.heap a (.ext (XN a C t)) from I2.hok a _ ea).1
 refine Um I2.kIn gx c.sa c.ov c.tk fun h' tk' g1 k n1=>?_
 have n2:H2 s2.heap.objs.size=none:=I2.hok.fresh (bC _)
 have nx:s2.heap.objs.size≠a:=(aD ea n2).symm
 obtain⟨oD,eD,pD,d1,d2⟩:=id n1
 have gD:(s2.heap.push oD).get? s2.heap.objs.size=some oD:=Heap.get?_push_size _ (Heap.get?_some_iff.mp d1).2
 have I3:=I2.laid (a:=s2.heap.objs.size) (o:=.xd [(f,y)]) (t':=tk') (h':=s2.heap.push oD) (fun b u q=>hJ _ q) (bC _) ⟨_,⟨oD,eD,pD,gD,d2⟩,fun g=>?_⟩
 ·have I4:=I3.write (x:=a) (e:=a) (o:=.ext (Pk a C t s2.heap.objs.size)) (t':=tk') (h':=h') (by rw[aE nx.symm,ea];exact True.intro) (.inl rfl) (fun b u hb q=>?_) ⟨_,g1⟩ (Sh g1)
  ·exact⟨σ,_,I4,q2 _ n2 nx⟩
  ·by_cases z:b=s2.heap.objs.size
   ·rw[z,show(s2.heap.push oD).get? s2.heap.objs.size=some oD from gD]at q;cases q
    rw[z];exact d1
   ·refine k b u hb ?_
    have lt:b<(s2.heap.push oD).objs.size:=Heap.lt_size q
    rw[Heap.size_push]at lt;rw[Heap.get?_push_ne]at q
    ·exact q
    ·omega
 ·show RelO (List.lookup g [(f,y)]) (if g=f then some u else none)
  by_cases z:g=f
  ·rw[z,if_pos rfl,List.lookup_cons,beq_self_eq_true];exact ry
  ·rw[if_neg z,List.lookup_cons,beq_eq_false_iff_ne.mpr z];exact trivial
theorem R.gi (ha:XE X o ta) (hv:XE X value tv) (hK:X.K=K:=by rfl) (hs:swapsWith value (some (.Attribute o f pos')) pos.line X.env=pure false:=by rfl):XS X (.Assign [.Attribute o f pos'] value pos) (Dm K ta tv f):=hK ▸ ⟨Dn ha.h hv.h hs⟩
end
end L2
namespace L2
open PySem PySem.Spec PyProof.Rows
def vZ (K:W.Frag) (C fI:Addr) (bmB:List Value) (newId:String):Bool:=match K.lookup C with
 | some ⟨.type "type",_,.cls cd,sl⟩=>(match cd.mro,sl.toList with
  | .ref C'::bm,[_,_,_,_,some (.builtin n),_]=>C' == C&&n == newId&&!cd.hasDel&&W.tailIn K bmB bm&&W.nsOkIn K cd.ns&&(match W.nsIn K cd.ns "__init__" with | some (some (.ref f))=>f == fI | _=>false)
  | _,_=>false)
 | _=>false
structure XClsI (K:W.Frag) (mg:Str->Option Value) (x:Str) (C fI:Addr):Prop where
 at_:mg x=some (.ref C)
 ok:vZ K C fI Jw "ValueError.__new__"=true
theorem wA {K:W.Frag} {h:Heap} {N:Addr} {mg:Str->Option Value} {n:Str} {v:Value} (X:K.In h) (G:h.Ns N mg) (e:W.nsIn K N n=some (some v)):mg n=some v:=by
 obtain⟨o,es,ep,ho,hd,_,hf⟩:=G
 unfold W.nsIn at e;split at e
 ·rename_i c d es' n' sl q
  have z:=X _ _ q
  rw[ho]at z;cases z;cases hd
  split at e
  ·rename_i en he
   cases e
   rw[<- hf];unfold nsFind findBy;rw[<- Array.find?_toList,he];rfl
  ·split at e <;> cases e
 ·cases e
theorem XClsI.obj {K:W.Frag} {mg:Str->Option Value} {x:Str} {C fI:Addr} {h:Heap} (c:XClsI K mg x C fI) (X:K.In h) :
  ∃bm N nm q bs hdct sn sub ab col dd k0 k1 k2 k3 k5 mN,h.get? C=some (excClassObj nm q C N bs bm hdct sn sub ab col dd k0 k1 k2 k3 k5 "ValueError.__new__")/\h.Ns N mN/\mN "__init__"=some (.ref fI)/\OwnTail h Jw bm:=by
 have q:=c.ok
 unfold vZ at q;split at q
 ·rename_i dd cd sl ho
  split at q
  ·rename_i C' bm k0 k1 k2 k3 n k5 hm hs
   simp only [Bool.and_eq_true,beq_iff_eq,Bool.not_eq_true']at q
   obtain⟨⟨⟨⟨⟨e1,e2⟩,hdel⟩,ht⟩,hok⟩,hni⟩:=q
   subst e1 e2;obtain⟨nm,bs,mro,ns,qn,hd,sn,sub,ab,col,del⟩:=cd
   dsimp only at hm hdel hok hni
   subst hm hdel;have hsl:sl=#[k0,k1,k2,k3,some (.builtin "ValueError.__new__"),k5]:=by
    obtain⟨l⟩:=sl
    simp only at hs
    rw[hs]
   subst hsl;refine⟨bm,ns,nm,qn,bs,hd,sn,sub,ab,col,dd,k0,k1,k2,k3,k5,_,X _ _ ho,.of_isNs (W.isNs_of_in X hok),?_,W.tail_of_in X ht⟩
   split at hni
   ·rename_i f hf
    rw[<- eq_of_beq hni];exact wA X (.of_isNs (W.isNs_of_in X hok)) hf
   ·cases hni
  ·cases q
 ·cases q
def sC (X:Cx) (E:XK):Prop:=∀(pins:List (Addr × Obj)) (σ0 σ:St) (H0 H:Hp) (s s3:Shared) (e t:Addr) (cls:Value) (dx:Option Addr),Inv X pins σ0 H0 s->s.heap.get? e=none->H e=none->Inv X pins σ H s3->s3.heap.get? e=some {cls:=cls,dict:=dx,data:=.fields #[.ref t,.none,.none,.none,.bool false,.none] }->E cls dx H->X.xe (.ref e) s3
theorem Do {pins:List (Addr × Obj)} {σ0 σ:St} {cls:Value} {P:Program} {w:World} {K:W.Frag} {mg:Str->Option Value} {base:Heap} {N:List Str} {qual:Str} {scope:Scope} {f:Addr} {cd:Value} {A:Around} {outer:List Env} {s s0 s1:Shared} {H H0 H1:Hp} {E:XK} {e t:Addr} {dx:Option Addr}
  (I0:Inv (cW (rV P w) P w K mg base N qual scope f cd A outer s H E) pins σ0 H0 s0) (n0:s0.heap.get? e=none) (he1:H1 e=none) (I:Inv (cW (rV P w) P w K mg base N qual scope f cd A outer s H E) pins σ H1 s1) (hf:(envOfC qual scope s.heap.objs.size f cd).frame=some (envOfC qual scope s.heap.objs.size f cd).locals)
  (he:s1.heap.get? e=some {cls:=cls,dict:=dx,data:=.fields #[.ref t,.none,.none,.none,.bool false,.none] }) (q:E cls dx H1) :
  (cW (rV P w) P w K mg base N qual scope f cd A outer s H E).xe (.ref e) s1:=by
 have und:Un (gW outer) [] H H1 s.heap s1.heap:=I.base
 have und0:Un (gW outer) [] H H0 s.heap s0.heap:=I0.base
 have fr0:∀b∈gW outer,H b=none/\∃o,s.heap.get? b=some o/\∀vs,o.data≠.fields vs:=fun b hb=>⟨I.ok.frf b hb,(I.ok.funs.mem hb).2⟩
 have st:(cW (rV P w) P w K mg base N qual scope f cd A outer s H E).stack=envOfC qual scope s.heap.objs.size f cd::outer:=rfl
 have nL:s.heap.get? (envOfC qual scope s.heap.objs.size f cd).locals=none:=Heap.get?_none_of_le I.ok.above
 have ne0:s.heap.get? e=none:=by
  cases z:s.heap.get? e with
  | none=>rfl
  | some ob=>
   obtain⟨o',y⟩:=und0.there e ob z Zs
   rw[n0]at y;cases y
 have hin:∀env∈(envOfC qual scope s.heap.objs.size f cd::outer),∀b,env.frame=some b->b∈gW (envOfC qual scope s.heap.objs.size f cd::outer)++[e]:=fun env he b hb=>List.mem_append_left _ (rW he hb)
 have hh:∀b∈gW (envOfC qual scope s.heap.objs.size f cd::outer)++[e],b∈gW outer∨(s.heap.get? b=none/\H1 b=none):=fun b hb=>by
  rcases Zma.mp hb with z | z
  ·unfold gW at z;rw[List.filterMap_cons,hf]at z;rcases List.mem_cons.mp z with y | y
   ·rw[y];exact .inr ⟨nL,I.free⟩
   ·exact .inl y
  ·rw[Zms.mp z];exact .inr ⟨ne0,he1⟩
 have hsub:∀b∈gW outer,b∈gW (envOfC qual scope s.heap.objs.size f cd::outer)++[e]:=fun b hb=>by
  refine List.mem_append_left _ ?_
  unfold gW;rw[List.filterMap_cons,hf];exact mF _ hb
 have hm1:e∈gW (envOfC qual scope s.heap.objs.size f cd::outer)++[e]:=List.mem_append_right _ iW
 have ff0:s1.heap.FunFrames base (envOfC qual scope s.heap.objs.size f cd::outer):=I.stack
 have go:=Nz (M:=model P w) (A:=A.deeper (envOfC qual scope s.heap.objs.size f cd)) (E:=fun e' s''=>rV P w outer H s E e' s'') (Q:=fun _ s''=>rV P w outer H s E (.ref e) s'') (s:=s1) (base:=W.hideAll s1.heap (gW (envOfC qual scope s.heap.objs.size f cd::outer)++[e])) (env:=envOfC qual scope s.heap.objs.size f cd) (outer:=outer) (e:=e) (a0:=.ref t)
  I.ok.frames (W.funFrames_hide ff0 hin) hf he (fun b o q=>W.of_hideAll _ q) (W.hideAll_none _ hm1) rfl rfl rfl ?_
 ·exact go
 ·rintro h2 ⟨k1,k2,⟨oe',vs',T',oT',ts',q1,⟨q2,q3⟩,q4,q5,q6,q7,q8,q9,q10⟩,k4⟩ ⟨od',d1,d2⟩
  obtain⟨u2,ok2⟩:=vW und I.hok hh hsub fr0 k1 k4
  obtain⟨n1,n2⟩:=rT und I.hok hh fr0 k4 q6 q8 q9
  exact⟨e,cls,dx,H1,rfl,⟨ne0,I.os,I.bare,u2,ok2,he1,⟨T',⟨oe',vs',_,oT',ts',q1,q2,q3,q4,q5,q7,q8,q9,q10⟩,n1,n2⟩,fun dx' hdx=>⟨od',d1,d2.trans hdx⟩⟩,q⟩
theorem tT {P:Program} {w:World} {K:W.Frag} {mg:Str->Option Value} {base:Heap} {N:List Str} {qual:Str} {scope:Scope} {f:Addr} {cd:Value} {A:Around} {outer:List Env} {s:Shared} {H:Hp} {E:XK}
  (hf:(envOfC qual scope s.heap.objs.size f cd).frame=some (envOfC qual scope s.heap.objs.size f cd).locals:=by rfl):sC (cW (rV P w) P w K mg base N qual scope f cd A outer s H E) E:=
 fun pins σ0 σ H0 H1 s0 s1 e t cls dx I0 n0 h1 I he q=>Do I0 n0 h1 I hf he q
def Od (C:Addr) (f:Str):Sp:=fun vs H Q _=>∃(e t:Addr) (v:V),vs=[.ref e,v]/\H e=some (.ext (XN e C t))/\∀dx,H dx=none->dx≠e->Q .non (aI (aI H dx (.xd [(f,v)])) e (.ext (Pk e C t dx)))
structure qF (P:Program) (w:World) (K:W.Frag) (mg:Str->Option Value) (base:Heap) (n:Nat) (C fI:Addr) (fl:Str):Prop where
 ex:∃fd ps,fW P w K mg base mH n fI fd ps (Od C fl)/\Binds K fd ps []
 fn:W.isFn K (.ref fI)=true
section
variable {X:Cx} {x fl:Str} {C fI:Addr} {E:XK} {e:Expr} {t:TA} {np cpos pos:Pos} {n:Nat}
def xQ (C:Addr) (fl:Str) (E:XK) (t:TA):TS:=fun _ σ H=>t σ H fun vs H1=>∃v,vs=[v]/\∀dx,H1 dx=none->E (.ref C) (some dx) (aI H1 dx (.xd [(fl,v)]))
theorem zO (c:XClsI X.K X.mg x C fI) (ci:qF X.prog X.w X.K X.mg X.base n C fI fl) (hr:Room (n+1) X.A) (hl:sC X E) (hc:X.calm=true) (hg:Gl X x) (ha:PA X [e] t) (hs:aO e=true) (hdb:(x == ("__debug__":Str))=false) :
  PS X (.Raise (some (.Call (.Name x np) [e] [] cpos)) none pos) (xQ C fl E t):=by
 intro pins s σ H D I h;obtain⟨tl,N,nm,q,bs,hdct,sn,sub,ab,col,dd,k0,k1,k2,k3,k5,mN,hC,hN,hni,T⟩:=c.obj I.mod.kin
 obtain⟨⟨fd,ps,F,hb⟩,hfn⟩:=ci
 have he:starEach [e] X.env=[(false,eval e X.env)]:=by rw[bG hs];rfl
 have hft:=beq_iff_eq.mp hfn
 obtain⟨oI,hoI,hoc⟩:∃oI,X.base.get? fI=some oI/\oI.cls=.type "function":=by
  obtain⟨oI,ho,e'⟩:=Option.map_eq_some_iff.mp (show(X.K.lookup fI).map (·.cls)=some (.type "function") from hft)
  exact⟨oI,I.mod.kin _ _ ho,e'⟩
 refine tS (C:=C) (nm:=nm) (q:=q) (N:=N) (bs:=bs) (bm:=tl) (hdct:=hdct) (sn:=sn) (sub:=sub) (ab:=ab) (col:=col) (dd:=dd) (k0:=k0) (k1:=k1) (k2:=k2) (k3:=k3) (k5:=k5) (fI:=fI) (oI:=oI)
  PySem.F.excBase_ValueError (mN:=mN) (T.hasType PySem.F.excBase_ValueError.hasBase) (I.ok.hd hc) (by rw[he];rfl) hni hoc (iK I hg c.at_ ⟨rfl,?_⟩ hdb)
 have hp:=ha cpos pins s σ H _ I h
 rw[he]at hp ⊢;refine Calls.evalArgs_plain (bK hp fun us s1 ⟨vs,H1,I1,r,v,ev,q⟩=>?_)
 subst ev;have hul:us.length=1:=r.length.symm
 refine⟨rfl,by rw[hul];decide,I1.bk _ _ hC,hN.keeps I1.bk,T.keeps I1.bk,I1.bk _ _ hoI,?_⟩
 have I2:=I1.laid (a:=s1.heap.objs.size+1) (o:=.ext (XN (s1.heap.objs.size+1) C s1.heap.objs.size)) (t':=s1.toks) (h':=gZ s1.heap C us) (fun b u q=>eP q) (Nat.le_succ _) (Sg tQ)
 have n1:H1 (s1.heap.objs.size+1)=none:=I1.hok.fresh (Nat.le_succ _)
 have hq:Od C fl (.ref (s1.heap.objs.size+1)::[v]) (aI H1 (s1.heap.objs.size+1) (.ext (XN (s1.heap.objs.size+1) C s1.heap.objs.size))) (fun u H2=>u=.non/\∃dx,H1 dx=none/\dx≠s1.heap.objs.size+1/\H2=aI (aI H1 dx (.xd [(fl,v)])) (s1.heap.objs.size+1) (.ext (Pk (s1.heap.objs.size+1) C s1.heap.objs.size dx))) E0:=by
  refine⟨_,_,v,rfl,aA,fun dx h0 hne=>⟨rfl,dx,by rw[aE hne]at h0;exact h0,hne,?_⟩⟩
  funext b
  unfold aI;by_cases z:b=s1.heap.objs.size+1
  ·rw[if_pos z,if_pos z]
  ·simp only [if_neg z]
 have hl2:(Value.ref (s1.heap.objs.size+1)::us).length=ps.length:=by
  have e1:=F.len _ _ _ _ hq
  rw[sQ,hul,<- e1];rfl
 have hb':=hb {s1 with heap:=gZ s1.heap C us } (Value.ref (s1.heap.objs.size+1)::us) I2.kIn (by rw[List.append_nil];exact hl2)
 rw[List.append_nil]at hb';refine wpAny_call (codeAny_mono (F.run _ X.stack _ _ ⟨Value.ref (s1.heap.objs.size+1)::us,[]⟩ (Value.ref (s1.heap.objs.size+1)::us) (.ref (s1.heap.objs.size+1)::[v]) _ E0 (hr.make C us []) (I2.env0.make C us []) hb' (.cons rfl r) hq) fun rs s' hq'=>?_)
 cases rs with
 | error e'=>exact False.elim hq'
 | ok fl=>
  cases fl with
  | ret u=>
   obtain⟨v',H',I3,rv,ev,dx,f0,hne,eH⟩:=I2.after hq'
   subst ev eH;have gx:=(show ObjOk X.prog X.w _ s'.heap _ (.ext (Pk (s1.heap.objs.size+1) C s1.heap.objs.size dx)) from I3.hok _ _ aA).1
   have n2:(aI H1 dx (.xd [(fl,v)])) (s1.heap.objs.size+1)=none:=by rw[aE hne.symm];exact n1
   have I4:=I3.drop n2
   exact⟨rv,s1.heap.objs.size,some dx,#[],I4.bk _ _ hC,gx,hl pins σ σ H1 _ s1 s' _ _ _ _ I1 (Heap.get?_none_of_le (Nat.le_succ _)) n2 I4 gx (q dx f0)⟩
  | next=>exact False.elim hq'
  | brk=>exact False.elim hq'
  | cont=>exact False.elim hq'
theorem R.gk (c:XClsI X.K X.mg x C fI) (ci:qF X.prog X.w X.K X.mg X.base n C fI fl) (hr:Room (n+1) X.A) (hl:sC X E) (hc:X.calm=true) (hg:Gl X x:=by rfl) (ha:XA X [e] t) (hs:aO e=true:=by rfl) (hdb:(x == ("__debug__":Str))=false:=by decide) :
  XS X (.Raise (some (.Call (.Name x np) [e] [] cpos)) none pos) (xQ C fl E t):=⟨zO c ci hr hl hc hg ha.h hs hdb⟩
end
end L2
namespace L2
open PySem PySem.Spec PyProof.Rows
section
variable {prog:Program} {w:World} {A:Around} {E:Value->Shared->Prop} {s:Shared} {K:W.Frag} {x D:Addr}
theorem Dp {Q:Value->Shared->Prop} {f:Str} {ox od:Obj} {v:Value} {b:Bool} (X:K.In s.heap) (J:W.InstAt s.heap x ox D (some od)) (k:lS K D) (hd:W.hasDictIn K D=true) (hf:W.findIn K (.ref D) f=some none)
  (hl:W.lookIn f od=some (some v)) (hv:W.handedIn v=true) (h:Q v {s with toks:=s.toks+1 }):wpAny (model prog w) A (getAttr (.ref x) f b) Q E s:=by
 obtain⟨hh,g,d,t,os⟩:=s
 have c:OfCls x D hh:=⟨ox,J.at_,J.cls⟩
 have L0:=c.type (M:=model prog w)
 have L1:=W.looks_findIn (M:=model prog w) X k.ga
 have L2:=W.looks_findIn (M:=model prog w) X k.gx
 have L3:=W.looks_find (M:=model prog w) X J (W.findObj_own hd hf rfl hl)
 have LI:W.Looks (model prog w) hh (isInstance (.ref x) (.type "BaseException")) true:=L0.andThen (W.looks_mroIn X k.mb)
 unfold getAttr getAttrBy;refine wpAny_bind (wpAny_mkText (wpAny_holding (wpAny_bind (L0.at (wpAny_bind (L1.at ?_))))))
 dsimp only;have hx0:(Value.builtin "BaseException.__getattribute__" == Value.builtin "object.__getattribute__")=false:=by decide +kernel
 have hx1:(onTheHeap (Value.ref D)&&Value.builtin "BaseException.__getattribute__" == Value.builtin "object.__getattribute__")=false:=by rw[hx0];rfl
 rw[if_neg (by rw[hx1];exact Bool.false_ne_true)]
 unfold getAttrByItsOwn hookBefore;rw[if_pos (show onTheHeap (Value.ref D)=true from rfl)];refine wpAny_bind (L2.at ?_)
 refine wpAny_bind (wpAny_attempt (wpAny_holding ?_))
 unfold callGetattribute;rw[if_neg (by cases b <;> decide)]
 unfold boundAndCalled;refine wpAny_bind (wpAny_of_eq (F.excAttr_ValueError.ga.bind _) ?_)
 show wpAny _ _ (call (.builtin "BaseException.__getattribute__") [.ref x,.str f t]) _ _ _
 refine wpAny_call (codeAny_call_builtin F.excAttr_ValueError.ga.plain F.entry_bexc_ga (qD LI ?_))
 unfold Builtin.«object.__getattribute__»
 refine wpAny_bind (wpAny_of_eq (a:=(Value.ref x,[Value.str f t])) rfl ?_)
 dsimp only;refine wpAny_bind (wpAny_pure (wpAny_bind (L0.at (wpAny_bind (L3.at ?_)))))
 dsimp only;refine wpAny_pure ?_
 show wpAny _ _ (handedOut v) _ _ _
 rw[W.handedOut_of hv];exact wpAny_pure h
end
def Uz (K:W.Frag) (te:TE) (f:Str):TE:=fun σ H Q=>te σ H fun x H1=>∃a D dx fs v,x=.ref a/\H1 a=some (.ext (pB a (.ref D) (some dx)))/\H1 dx=some (.xd fs)/\lS K D/\W.hasDictIn K D=true/\W.findIn K (.ref D) f=some none/\fs.lookup f=some v/\Q v H1
section
variable {X:Cx} {e:Expr} {te:TE} {f:Str} {pos:Pos} {K:W.Frag}
theorem Oe (he:PE X e te) (hb:attributeBase e f X.env (eval e X.env)=eval e X.env):PE X (.Attribute e f pos) (Uz X.K te f):=by
 intro pins s σ H Q I h;refine wX hb (bK (he pins s σ H _ I h) fun u s1 ⟨x,H1,I1,rx,q1⟩=>?_)
 obtain⟨a,D,dx,fs,v,rfl,ea,ed,k,hd,hf,hl,q⟩:=q1
 cases rx
 obtain⟨⟨o,vs,h1,h2,h3,h4⟩,_⟩:=(show ObjOk X.prog X.w H1 s1.heap a (.ext (pB a (.ref D) (some dx))) from I1.hok a _ ea)
 obtain⟨mA,ns,r⟩:=(show ObjOk X.prog X.w H1 s1.heap dx (.xd fs) from I1.hok dx _ ed)
 obtain⟨od,ho,hlk⟩:=pQ ns
 obtain⟨u,hu,ru⟩:=RelO.some_of (v:=v) (o:=mA f) (by rw[<- hl];exact r f)
 obtain⟨oc,odi,oda,osl⟩:=o
 have h4':=h4 dx rfl
 dsimp only at h2 h3 h4'
 subst h2 h3 h4';exact Dp I1.kIn ⟨h1,rfl,rfl,ho⟩ k hd hf (by rw[hlk,hu]) (pR ru) ⟨v,H1,I1.tok _,ru,q⟩
end
namespace R
theorem il {X:Cx} {e:Expr} {te:TE} {f:Str} {pos:Pos} {K:W.Frag} (he:XE X e te) (hK:X.K=K:=by rfl) (hb:attributeBase e f X.env (eval e X.env)=eval e X.env:=by rfl):XE X (.Attribute e f pos) (Uz K te f):=hK ▸ ⟨Oe he.h hb⟩
end R
end L2
namespace L2
open PySem PySem.Spec PyProof.Rows
structure InitAt (K:W.Frag) (fI:Addr) (qual:Str) (st:Stmt) (ps:List Str):Prop where
 ex:∃fd,Fun K "__init__" qual st fI fd/\Binds K fd ps []
 fn:W.isFn K (.ref fI)=true
theorem InitAt.go {P:Program} {w:World} {K:W.Frag} {mg:Str->Option Value} {base:Heap} {qual fl:Str} {st:Stmt} {N ps:List Str} {k:Nat} {C fI:Addr} (D:InitAt K fI qual st ps) (S:aK N ps (aB st)) (len:ps.length=2)
  (hbody:∀(cdv:Value) (A:Around) (outer:List Env) (s:Shared) (H:Hp) (vs:List V) (Q:VK) (E:XK),Room k (A.deeper (envOfC qual (aB st) s.heap.objs.size fI cdv))->Od C fl vs H Q E →
   ∃t,XB (cW mH P w K mg base N qual (aB st) fI cdv A outer s H E).nox (aQ st) t/\t {nx:=fun _ H'=>Q .non H',rt:=Q } (start N vs) H):qF P w K mg base (k+1) C fI fl:=by
 obtain⟨fd,F,hb⟩:=D.ex
 exact⟨⟨fd,ps,F.go S (fun vs H Q E h=>by obtain⟨e,t,v,rfl,_⟩:=h;rw[len];rfl) hbody,hb⟩,D.fn⟩
end L2
namespace L2
open PySem PySem.Spec PyProof.Rows
def Va (K:W.Frag) (a:Addr) (R:It->Hp->Prop) (H:Hp):Prop:=((∃xs,SqL K H a xs)/\R (Pe K a) H)∨((∃xs,SqT K H a xs)/\R (Tl K a) H)
def Vb (K:W.Frag) (tl:TE):TI:=fun σ H R=>tl σ H fun x H1=>∃a,x=.ref a/\Va K a R H1
theorem Dq {K:W.Frag} {H:Hp} {t:Addr} {xs:List V} {R:It->Hp->Prop} (ht:H t=some (.lst xs)∨H t=some (.tup xs)) (main:∀(J:It) (W:Hp->Prop),vS J xs W->(∀H',H' t=H t->W H')->R J H):Va K t R H:=by
 rcases ht with ht | ht
 ·exact .inl ⟨⟨_,SqL.of ht⟩,main _ _ (aS K t xs) fun H' e=>SqL.of (e.trans ht)⟩
 ·exact .inr ⟨⟨_,SqT.of ht⟩,main _ _ (Hn K t xs) fun H' e=>SqT.of (e.trans ht)⟩
theorem Si {X:Cx} {tg l:Expr} {tl:TE} (hl:PE X l tl):PI X tg l (Vb X.K tl):=by
 intro pins s σ H R I h;refine bK (hl pins s σ H _ I h) fun v s1 ⟨x,H1,I1,r1,q1⟩=>?_
 obtain⟨a,e,⟨⟨xs,hq⟩,q⟩ | ⟨⟨xs,hq⟩,q⟩⟩:=q1
 ·subst e;cases r1
  obtain⟨its,rv,p,hz⟩:=I1.list hq
  refine wpAny_pyIter_list p.isList ?_
  refine⟨s1.heap.objs.size,[s1.heap.objs.size],_,_,H1,rfl,I1.kept (t':=s1.toks) fun b o e=>hJ _ e,pP a _,⟨_,Heap.get?_push_size _ rfl,rfl,rfl⟩,fun b hb=>?_,q⟩
  obtain rfl:b=s1.heap.objs.size:=by simpa using hb
  exact I1.fpOk (bC _) (I1.hok.fresh (bC _))
 ·subst e;cases r1
  obtain⟨its,rv,p,hz⟩:=I1.tuple hq
  refine wpAny_pyIter_tuple (show s1.heap.IsTuple a its.toArray from p) ?_
  refine⟨s1.heap.objs.size,[s1.heap.objs.size],_,_,H1,rfl,I1.kept (t':=s1.toks) fun b o e=>hJ _ e,vB a _,⟨_,Heap.get?_push_size _ rfl,rfl,rfl⟩,fun b hb=>?_,q⟩
  obtain rfl:b=s1.heap.objs.size:=by simpa using hb
  exact I1.fpOk (bC _) (I1.hok.fresh (bC _))
theorem R.eh {X:Cx} {tg e:Expr} {te:TE} {K:W.Frag} (hl:XE X e te) (hK:X.K=K:=by rfl):XI X tg e (Vb K te):=hK ▸ ⟨Si hl.h⟩
end L2
namespace L2
open PySem PySem.Spec PyProof.Rows
section
variable {X:Cx}
def sD {α:Type} (xs:List α) (k:Nat) (x:α):List α:=xs.take k++[x]++xs.drop k
def xR:V->List V->Hp->VK->Prop:=fun x vs H Q=>∃(l:Addr) (xs:List V) (k:Nat) (y:V),x=.ref l/\vs=[.int (k:Int),y]/\H l=some (.lst xs)/\k<=xs.length/\xs.length<1000/\Q .non (aI H l (.lst (sD xs k y)))
theorem Dr {k:Nat} (h:k<1000):¬ (!Builtin.List.listFitsIndex (k:Int))=true:=by
 have e1:-(2 ^ 63)<=(k:Int):=by omega
 have e2:(k:Int)<2 ^ 63:=by omega
 rw[fitsIndex_both e1 e2];exact Bool.false_ne_true
theorem qG:∀ {xs:List V} {its:List Value} (k:Nat),Vals xs its->Vals (xs.take k) (its.take k)
 | _,_,0,_=>by simp;exact .nil
 | _,_,k+1,.nil=>by simp;exact .nil
 | _,_,k+1,.cons h t=>by rw[List.take_succ_cons,List.take_succ_cons];exact .cons h (qG k t)
theorem qH:∀ {xs:List V} {its:List Value} (k:Nat),Vals xs its->Vals (xs.drop k) (its.drop k)
 | _,_,0,h=>by simpa using h
 | _,_,k+1,.nil=>by simp;exact .nil
 | _,_,k+1,.cons h t=>by rw[List.drop_succ_cons,List.drop_succ_cons];exact qH k t
theorem Og {s:Shared} {A:Around} {E:Value->Shared->Prop} {prog:Program} {w:World} {l:Addr} {its:List Value} {n:Nat} {k:Int} {t:Tok} {u2:Value} {Q:Value->Shared->Prop} (e:s.heap.get? l=some {cls:=.type "list",data:=.seq its.toArray n }) (f1:¬ (!Builtin.List.listFitsIndex k)=true) (f2:its.toArray.size<=sizeLine)
  (q:Q .none {s with heap:=s.heap.update l (Obj.mapSeq fun xs=>have k:=if k<0 then (k+(xs.size:Int)).toNat else min k.toNat xs.size;(xs.extract 0 k).push u2++xs.extract k),toks:=s.toks }) :
  wpAny (model prog w) A (call (.builtin "list.insert") [.ref l,.int k t,u2]) Q E s:=by
 have M:=AutoSeq1.list_insert_list_int_val_1 l its.toArray n k t u2 f1 f2
 exact call_meets PySem.F.slot_list_insert ⟨_,e,rfl⟩ PySem.F.entry_list_insert (PySem.F.args_list_insert_3 _ _ _) M ⟨e,q⟩
theorem zP:Qo X "list.insert" xR:=by
 intro pins s σ H x vs v us Q I rx rv h;obtain⟨l,xs,k,y,rfl,rfl,hH,hk,hz,q⟩:=h
 cases rx
 obtain⟨u1,u2,rfl,ru1,ru2⟩:=rv.two
 obtain⟨t,rfl⟩:=ru1
 obtain⟨z,its,n,r,hl,e⟩:=I.lstM hH
 have hlen:(sD xs k y).length=xs.length+1:=by unfold sD;simp;omega
 have hv:Vals (sD xs k y) (sD its k u2):=by
  unfold sD;exact((qG k r).append (.cons ru2 .nil)).append (qH k r)
 have hle:(sD xs k y).length<=sizeLine:=fO (by rw[hlen];omega)
 refine Og e (Dr (kI hk hz)) (by rw[dM,<- hl];exact z) ?_
 refine⟨.non,_,I.lset (its':=sD its k u2) hH e ?_ hv hle,rfl,q⟩
 have h0:¬ ((k:Int)<0):=by omega
 have h1:min (k:Int).toNat its.toArray.size=k:=by rw[dM,<- hl];simp;omega
 simp only [h0,if_false,h1]
 unfold sD;simp
 exact jD Zs
theorem R.gm:XM X "list.insert" xR:=⟨zP⟩
end
end L2
namespace L2
open PySem PySem.Spec PyProof.Rows
section
open PySem.MeetsSeq PySem.SeqAt
open AutoSeq1 (wpAny_loadPart')
theorem pE (l:Addr) (items:Array Value) (n:Nat) (x:Value) (e:Value->Bool) (j:Nat) (hj:j<items.size) (hit:e items[j]=true) (k:Nat) (hs1:items.size<=sizeLine) :
  ∀i:Nat,j - i=k->i<=j->(∀m (hm:m<items.size),i<=m->m<j->e items[m]=false)->Meets (Builtin.«list.remove.loop» ⟨[.ref l,x,rawInt i],[]⟩)
   (fun A R s=>s.heap.get? l=some {cls:=.type "list",dict:=none,data:=.seq items n,slots:=#[] }/\(∀y,y∈items->EqAt A.in1 s y x (e y))/\R (.ok (.ret .none)) {s with heap:=s.heap.update l (Obj.mapSeq fun xs=>xs.eraseIdxIfInBounds j) }):=by
 induction k with
 | zero=>
  intro i hk hij hno prog w A R s h;obtain⟨hp,g,d,tk,os⟩:=s;obtain⟨hl,he,h⟩:=h
  obtain rfl:i=j:=by omega
  wp_walk using wpAny_loadPart' hl
  rw[show items[((i:Nat):Int).toNat]?=some items[i] by simp [hj]]
  refine wpAny_bind (he _ (Array.getElem_mem hj) prog w _ _ ?_)
  rw[hit];have hz':(items.eraseIdxIfInBounds i).size<=sizeLine+1:=hU (size_erased items _) (Nat.le_succ_of_le hs1)
  wp_walk using (wpAny_updateSeq hl rfl (hz:=hs1) (_hz':=hz')),wpAny_loadPart' hl
  simpa using h
 | succ k ih=>
  intro i hk hij hno prog w A R s h;obtain⟨hp,g,d,tk,os⟩:=s;obtain⟨hl,he,h⟩:=h
  have hlt:i<items.size:=by omega
  wp_walk using wpAny_loadPart' hl
  have hc:((i:Int)+1)=((i+1:Nat):Int):=by push_cast;rfl
  rw[show items[((i:Nat):Int).toNat]?=some items[i] by simp [hlt]]
  refine wpAny_bind (he _ (Array.getElem_mem hlt) prog w _ _ ?_)
  rw[hno i hlt (bC _) Zo]
  wp_walk
  rw[hc];exact⟨plainId_quiet plain_remove_loop _,codeAny_builtin entry_remove_loop (by
   rw[Around.under_plainId plain_remove_loop _];exact ih (i+1) Zo Zo (fun m hm h1 h2=>hno m hm Zo h2) prog w A R _ ⟨hl,he,h⟩)⟩
theorem pF (l:Addr) (items:Array Value) (n:Nat) (x:Value) (e:Value->Bool) (j:Nat) (hj:j<items.size) (hit:e items[j]=true) (hno:∀m (hm:m<items.size),m<j->e items[m]=false) (hs1:items.size<=sizeLine) :
  Meets (Builtin.«list.remove» ⟨[.ref l,x],[]⟩)
   (fun A R s=>s.heap.get? l=some {cls:=.type "list",dict:=none,data:=.seq items n,slots:=#[] }/\(∀y,y∈items->EqAt A.in1 s y x (e y))/\R (.ok (.ret .none)) {s with heap:=s.heap.update l (Obj.mapSeq fun xs=>xs.eraseIdxIfInBounds j) }):=by
 intro prog w A R s h;obtain⟨hp,g,d,tk,os⟩:=s;obtain⟨hl,he,h⟩:=h
 wp_walk using wpAny_loadPart' hl
 exact⟨plainId_quiet plain_remove_loop _,codeAny_builtin entry_remove_loop (by
  rw[Around.under_plainId plain_remove_loop _];exact pE l items n x e j hj hit _ hs1 0 rfl (Nat.zero_le _) (fun m hm _ h2=>hno m hm h2) prog w A R _ ⟨hl,he,h⟩)⟩
end
def EQ (H:Hp) (u v:V):Prop:=(eX u=true/\eX v=true)∨∃b b' ps qs,u=.ref b/\v=.ref b'/\H b=some (.tup ps)/\H b'=some (.tup qs)/\∀(j:Nat) (x y:V),ps[j]?=some x->qs[j]?=some y->eX x=true/\eX y=true
section
variable {X:Cx} {pins:List (Addr × Obj)} {σ:St} {H:Hp} {s:Shared}
theorem EQ.at {A:Around} {x y:V} {u v:Value} (hu:A.units<cLine) (I:Inv X pins σ H s) (rx:RelV x u) (ry:RelV y v) (h:EQ H x y):∃b,SeqAt.EqAt A s u v b:=by
 rcases h with⟨f1,f2⟩ | ⟨b,b',ps,qs,rfl,rfl,g1,g2,fl⟩
 ·exact⟨_,rC rx ry f1 f2⟩
 ·cases rx
  cases ry
  by_cases e:b=b'
  ·subst e;exact⟨true,SeqAt.EqAt.same _⟩
  ·obtain⟨its,ri,ti,_⟩:=I.tuple (SqT.of g1)
   obtain⟨its2,ri2,ti2,_⟩:=I.tuple (SqT.of g2)
   have each:∀j (h1:j<its.toArray.size) (h2:j<its2.toArray.size),SeqAt.EqAt A.in1 s its.toArray[j] its2.toArray[j] (Ae (ps.getD j .non) (qs.getD j .non)):=fun j h1 h2=>by
    rw[dM]at h1 h2;obtain⟨h1',q1⟩:=Paired.get' (j:=j) ri h1
    obtain⟨h2',q2⟩:=Paired.get' (j:=j) ri2 h2
    obtain⟨f1,f2⟩:=fl j ps[j] qs[j] (iJ h1') (iJ h2')
    have e1:ps.getD j .non=ps[j]:=by simp [List.getD,h1']
    have e2:qs.getD j .non=qs[j]:=by simp [List.getD,h2']
    rw[e1,e2];simpa using rC q1 q2 f1 f2
   exact⟨_,.of_refs e (SeqAt.RcAt.tuples ti ti2 hu each)⟩
theorem tU {A:Around} {c a:Addr} {n m:Int} {xs ys:List V} (hu:A.units+1<cLine) (I:Inv X pins σ H s) (hne:c≠a) (g1:H c=some (.lst (.int n::xs))) (g2:H a=some (.lst (.int m::ys))) (hnm:n≠m) (hl:xs.length=ys.length)
  (h:∀(j:Nat) (u v:V),xs[j]?=some u->ys[j]?=some v->EQ H u v):SeqAt.EqAt A s (.ref c) (.ref a) false:=by
 obtain⟨its,ri,ti,_⟩:=I.list (SqL.of g1)
 obtain⟨its2,ri2,ti2,_⟩:=I.list (SqL.of g2)
 have el1:its.length=xs.length+1:=ri.length.symm
 have el2:its2.length=ys.length+1:=ri2.length.symm
 have es:its.toArray.size=its2.toArray.size:=by rw[dM,dM];omega
 have each:∀j:Nat,∃b,(j=0->b=false)/\∀(h1:j<its.toArray.size) (h2:j<its2.toArray.size),SeqAt.EqAt A.in1 s its.toArray[j] its2.toArray[j] b:=fun j=>by
  by_cases h1:j<its.length
  ·have h2:j<its2.length:=by omega
   obtain⟨h1',q1⟩:=Paired.get' (j:=j) ri h1
   obtain⟨h2',q2⟩:=Paired.get' (j:=j) ri2 h2
   cases j with
   | zero=>
    have key:=rC (A:=A.in1) (s:=s) q1 q2 rfl rfl
    rw[show Ae ((V.int n::xs)[0]) ((V.int m::ys)[0])=false from decide_eq_false hnm]at key;exact⟨false,fun _=>rfl,fun _ _=>by simpa using key⟩
   | succ j=>
    have q1':RelV (xs[j]'(by simpa using h1')) its[j+1]:=q1
    have q2':RelV (ys[j]'(by simpa using h2')) its2[j+1]:=q2
    obtain⟨b,hb⟩:=EQ.at (A:=A.in1) (by show A.units+1<cLine;exact hu) I q1' q2' (h j _ _ (iJ _) (iJ _))
    exact⟨b,fun e=>absurd e Zo,fun _ _=>by simpa using hb⟩
  ·exact⟨false,fun _=>rfl,fun h _=>absurd (by simpa using h) h1⟩
 obtain⟨e,he⟩:=Classical.axiomOfChoice each
 have key:=SeqAt.EqAt.of_refs hne (SeqAt.RcAt.lists (A:=A) (s:=s) (e:=e) ti.isList ti2.isList es Zo (fun j h1 h2=>(he j).2 h1 h2))
 have ef:(List.range its.toArray.size).all e=false:=by
  rw[dM,el1];rw[List.all_eq_false];exact⟨0,List.mem_range.mpr Zo,by rw[(he 0).1 rfl];decide⟩
 rw[ef]at key;exact key
end
def eQ:V->List V->Hp->VK->Prop:=fun x vs H Q=>match x,vs with
 | .ref l,[.ref a]=>∃(us:List Addr) (j:Nat),H l=some (.lst (us.map V.ref))/\us[j]?=some a/\us.Nodup ∧
  (∀c∈us,c≠a->∃n m xs ys,H c=some (.lst (.int n::xs))/\H a=some (.lst (.int m::ys))/\n≠m/\xs.length=ys.length/\∀(j:Nat) (u v:V),xs[j]?=some u->ys[j]?=some v->EQ H u v) ∧
  Q .non (aI H l (.lst ((us.eraseIdx j).map V.ref)))
 | _,_=>False
theorem nY:∀(ss:List Addr) (j:Nat),(ss.eraseIdx j).map V.ref=(ss.map V.ref).eraseIdx j
 | [],j=>by simp
 | s::r,0=>by simp
 | s::r,j+1=>by
  rw[List.eraseIdx_cons_succ,List.map_cons,List.map_cons,List.eraseIdx_cons_succ,nY r j]
theorem wB {X:Cx} (hu:X.A.units+64<cLine):Qo X "list.remove" eQ:=by
 intro pins s σ H x vs v us0 Q I rx rv h;unfold eQ at h;split at h
 ·rename_i l a
  obtain⟨us,j,hl,hj,nd,ne,q⟩:=h
  cases rx
  obtain⟨u,rfl,ru⟩:=rv.one
  cases ru
  obtain⟨z0,its,n,r,hln,e⟩:=I.lstM hl
  rw[aR]at hln;have hjl:j<us.length:=(Zgs.mp hj).1
  have at_:∀(m:Nat) (hm:m<its.length),∃hm':m<us.length,its[m]=Value.ref us[m]:=fun m hm=>by
   have hm':m<us.length:=by omega
   have rv:RelV (V.ref us[m]) (its.getD m Value.none):=kU m r (by rw[aR];exact hm') _ (by rw[fS,iJ hm'];rfl)
   have e1:its.getD m Value.none=its[m]:=by rw[List.getD_eq_getElem?_getD,iJ hm];rfl
   rw[e1]at rv;exact⟨hm',rv⟩
  refine call_meets PySem.F.slot_list_remove ⟨_,e,rfl⟩ PySem.F.entry_list_remove (PySem.F.args_list_remove_2 _ _)
   (pF l its.toArray n (.ref a) (fun y=>y == Value.ref a) j (by simp;omega) ?_ ?_ (by rw[dM];rw[aR]at z0;omega)) ⟨e,?_,?_⟩
  ·obtain⟨hm',ej⟩:=at_ j Zo
   simp only [List.getElem_toArray]
   rw[ej,(Zgs.mp hj).2];exact beq_self_eq_true _
  ·intro m hm hlt;have hm2:m<its.length:=by simpa using hm
   obtain⟨hm',ej⟩:=at_ m hm2
   simp only [List.getElem_toArray]
   rw[ej];refine beq_eq_false_iff_ne.mpr fun h=>?_
   injection h with h
   exact(List.pairwise_iff_getElem.mp nd) m j hm' hjl hlt (h.trans (Zgs.mp hj).2.symm)
  ·intro y hy;obtain⟨m,hm,rfl⟩:=List.getElem_of_mem (show y∈its by simpa using hy)
   obtain⟨hm',ej⟩:=at_ m hm
   rw[ej];by_cases ea:us[m]=a
   ·rw[ea,beq_self_eq_true];exact SeqAt.EqAt.same _
   ·obtain⟨n1,n2,xs,ys,g1,g2,hn,hlen,heq⟩:=ne us[m] (List.getElem_mem hm') ea
    rw[show(Value.ref us[m] == Value.ref a)=false from beq_eq_false_iff_ne.mpr fun h=>ea (by injection h)]
    exact tU (by show X.A.units+1+1<cLine;omega) I ea g1 g2 hn hlen heq
  ·have er:(us.eraseIdx j).map V.ref=(us.map V.ref).eraseIdx j:=nY us j
   refine⟨.non,_,I.lset (its':=its.eraseIdx j) hl e ?_ (er ▸ r.eraseIdx j) ?_,rfl,q⟩
   ·show its.toArray.eraseIdxIfInBounds j=(its.eraseIdx j).toArray
    rw[List.eraseIdxIfInBounds_toArray]
   ·rw[er];have:=kM (us.map V.ref) j
    omega
 ·exact h.elim
theorem R.el {X:Cx} (hu:X.A.units+64<cLine):XM X "list.remove" eQ:=⟨wB hu⟩
end L2
namespace L2
open PySem PySem.Spec PyProof.Rows
section
variable {X:Cx}
def Jz (K:W.Frag):List V->Hp->VK->Prop:=fun vs H Q=>∃(p:Addr) (ns:List Int),vs=[.ref p]/\SqL K H p (ns.map V.int)/\0<ns.length/\∀M:Int,M∈ns->(∀a∈ns,a<=M)->Q (.int M) H
theorem zQ (hc:X.calm=true):CallR X (.builtin "max") (Jz X.K):=by
 intro pins s σ H xs us Q I r h;obtain⟨p,ns,rfl,hq,hn,q⟩:=h
 obtain⟨u,rfl,ru⟩:=iZ r
 cases ru
 obtain⟨its,rv,pl,hz⟩:=I.list hq
 have hi:=nC rv
 obtain⟨xs,hx⟩:=hi.allInts.items
 have hl':s.heap.IsList p (intItems xs):=hx ▸ pl.isList
 have e1:ns=xs.toList.map (·.1):=by
  rw[<- nums_intItems,<- hx];exact(show numsOf its.toArray.toList=ns from hi.numsOf).symm
 have hsz:ns.length=xs.size:=by rw[e1];simp
 refine max_intList (I.ok.hd hc) hl' Zo fun v h' tk hv hk=>?_
 obtain⟨hle,hmx⟩:=argBest_gt (numAt xs) (xs.size - 1)
 generalize argBest (fun i j=>decide (numAt xs i > numAt xs j)) (xs.size - 1)=k at hv hle hmx
 obtain⟨t,rfl⟩:=intItems_at hv
 have at_:∀j,j<ns.length->numAt xs j=ns.getD j 0:=fun j _=>by rw[numAt_eq,e1]
 refine⟨.int _,H,I.kept hk,⟨_,rfl⟩,q _ ?_ ?_⟩
 ·rw[at_ k Zo,List.getD_eq_getElem?_getD,iJ Zo]
  exact List.getElem_mem _
 ·intro a ha;obtain⟨j,hj,rfl⟩:=List.getElem_of_mem ha
  have:=hmx j Zo
  rw[at_ j hj,List.getD_eq_getElem?_getD,iJ hj]at this;exact this
theorem R.di {K:W.Frag} (hc:X.calm=true) (hK:X.K=K:=by rfl):XC X (.builtin "max") (Jz K):=hK ▸ ⟨zQ hc⟩
end
end L2
namespace L2
open PySem PySem.Spec PyProof.Rows
inductive Dd where
 | add (a:Str) (n:Nat)
 | take (a:Str) (n:Nat)
 | move (a b:Str) (n:Nat)
 | send (h a:Str) (n:Nat)
 | fetch (h a:Str) (n:Nat)
 | pass (h g a:Str) (n:Nat)
namespace Dd
def vs:Dd->List V
 | .add a n=>[.str "add",.str a,.int (n:Int)]
 | .take a n=>[.str "take",.str a,.int (n:Int)]
 | .move a b n=>[.str "move",.str a,.str b,.int (n:Int)]
 | .send h a n=>[.str "send",.str h,.str a,.int (n:Int)]
 | .fetch h a n=>[.str "fetch",.str h,.str a,.int (n:Int)]
 | .pass h g a n=>[.str "pass",.str h,.str g,.str a,.int (n:Int)]
def n:Dd->Nat
 | .add _ n=>n | .take _ n=>n | .move _ _ n=>n | .send _ _ n=>n | .fetch _ _ n=>n | .pass _ _ _ n=>n
def far:Dd->Bool
 | .send _ _ _=>true | .fetch _ _ _=>true | .pass _ _ _ _=>true | _=>false
def Ok:Dd->Prop
 | .add a n=>eO a/\1<=n/\n<=1000000000000
 | .take a n=>eO a/\1<=n/\n<=1000000000000
 | .move a b n=>eO a/\eO b/\a≠b/\1<=n/\n<=1000000000000
 | .send h a n=>eO h/\eO a/\1<=n/\n<=1000000000000
 | .fetch h a n=>eO h/\eO a/\1<=n/\n<=1000000000000
 | .pass h g a n=>eO h/\eO g/\eO a/\h≠g/\1<=n/\n<=1000000000000
theorem Ok.n {d:Dd} (h:d.Ok):1<=d.n/\d.n<=1000000000000:=by
 cases d <;> simp only [Ok]at h <;> simp only [Dd.n] <;> omega
def wd:Dd->Str
 | .add _ _=>"add" | .take _ _=>"take" | .move _ _ _=>"move" | .send _ _ _=>"send" | .fetch _ _ _=>"fetch" | .pass _ _ _ _=>"pass"
end Dd
inductive An where
 | is1 (m:Nat)
 | is2 (l m:Nat)
 | short (m:Nat)
 | full (m:Nat)
 | no (h:Str)
 | ok
namespace An
def vs:An->List V
 | .is1 m=>[.str "is",.int (m:Int)]
 | .is2 l m=>[.str "is",.int (l:Int),.int (m:Int)]
 | .short m=>[.str "short",.int (m:Int)]
 | .full m=>[.str "full",.int (m:Int)]
 | .no h=>[.str "no",.str h]
 | .ok=>[.str "ok"]
def early:An->Bool | .short _=>true | .full _=>true | _=>false
def Of:Dd->An->Prop
 | .add _ n,.is1 m=>n<=m/\m<=1000000000000
 | .add _ n,.full m=>1000000000000<m+n/\m<=1000000000000
 | .take _ n,.is1 m=>m+n<=1000000000000
 | .take _ n,.short m=>m<n
 | .move _ _ n,.is2 l m=>l+n<=1000000000000/\n<=m/\m<=1000000000000
 | .move _ _ n,.short m=>m<n
 | .move _ _ n,.full m=>1000000000000<m+n/\m<=1000000000000
 | .send _ _ n,.is1 m=>m+n<=1000000000000
 | .send _ _ n,.short m=>m<n
 | .send h _ _,.no g=>g=h
 | .fetch _ _ n,.is1 m=>n<=m/\m<=1000000000000
 | .fetch _ _ n,.full m=>1000000000000<m+n/\m<=1000000000000
 | .fetch h _ _,.no g=>g=h
 | .pass h g _ _,.no k=>k=h∨k=g
 | .pass _ _ _ _,.ok=>True
 | _,_=>False
end An
inductive RX where
 | next (n t:Nat)
 | has (z:Str) (m:Nat)
 | kept (n t:Nat) (p k:Str) (d:Dd) (y:An)
 | came (n t:Nat) (p k:Str) (d:Dd)
 | asked (n:Nat)
 | done (n t:Nat) (y:An)
namespace RX
def At (H:Hp) (a:Addr):RX->Prop
 | .next n t=>H a=some (.tup [.str "next",.int (n:Int),.int (t:Int)])
 | .has z m=>H a=some (.tup [.str "has",.str z,.int (m:Int)])
 | .kept n t p k d y=>∃b c,H a=some (.tup [.str "kept",.int (n:Int),.int (t:Int),.str p,.str k,.ref b,.ref c])/\H b=some (.tup d.vs)/\H c=some (.tup y.vs)
 | .came n t p k d=>∃b,H a=some (.tup [.str "came",.int (n:Int),.int (t:Int),.str p,.str k,.ref b])/\H b=some (.tup d.vs)
 | .asked n=>H a=some (.tup [.str "asked",.int (n:Int)])
 | .done n t y=>∃c,H a=some (.tup [.str "done",.int (n:Int),.int (t:Int),.ref c])/\H c=some (.tup y.vs)
theorem At.tk {H H':Hp} {a:Addr} {r:RX} (s:TK H H') (h:r.At H a):r.At H' a:=by
 cases r with
 | next n t=>exact s _ _ h
 | has z m=>exact s _ _ h
 | kept n t p k d y=>obtain⟨b,c,h1,h2,h3⟩:=h;exact⟨b,c,s _ _ h1,s _ _ h2,s _ _ h3⟩
 | came n t p k d=>obtain⟨b,h1,h2⟩:=h;exact⟨b,s _ _ h1,s _ _ h2⟩
 | asked n=>exact s _ _ h
 | done n t y=>obtain⟨b,h1,h2⟩:=h;exact⟨b,s _ _ h1,s _ _ h2⟩
def Sj:List V->TV:=fun xs=>.tp (xs.map TV.sc)
def tv:RX->TV
 | .next n t=>.tp [.sc (.str "next"),.sc (.int (n:Int)),.sc (.int (t:Int))]
 | .has z m=>.tp [.sc (.str "has"),.sc (.str z),.sc (.int (m:Int))]
 | .kept n t p k d y=>.tp [.sc (.str "kept"),.sc (.int (n:Int)),.sc (.int (t:Int)),.sc (.str p),.sc (.str k),Sj d.vs,Sj y.vs]
 | .came n t p k d=>.tp [.sc (.str "came"),.sc (.int (n:Int)),.sc (.int (t:Int)),.sc (.str p),.sc (.str k),Sj d.vs]
 | .asked n=>.tp [.sc (.str "asked"),.sc (.int (n:Int))]
 | .done n t y=>.tp [.sc (.str "done"),.sc (.int (n:Int)),.sc (.int (t:Int)),Sj y.vs]
theorem jV {H:Hp} {b:Addr} {xs:List V} (g:H b=some (.tup xs)) (hf:∀x∈xs,nO x=true):Rep H 1 (Sj xs) (.ref b):=by
 refine⟨b,xs,rfl,g,?_⟩
 induction xs with
 | nil=>exact .nil
 | cons x xs ih=>
  clear g;refine .cons ⟨rfl,hf x iW⟩ ?_
  have:∀(ys:List V),(∀y∈ys,nO y=true)->Paired (Rep H 0) (ys.map TV.sc) ys:=fun ys h=>by
   induction ys with
   | nil=>exact .nil
   | cons y ys ih=>exact .cons ⟨rfl,h y iW⟩ (ih fun z hz=>h z (mF _ hz))
  exact this xs fun z hz=>hf z (mF _ hz)
theorem Ka (d:Dd):∀x∈d.vs,nO x=true:=by
 intro x hx;cases d <;> simp only [Dd.vs,List.mem_cons,List.not_mem_nil,or_false]at hx <;> rcases hx with rfl | rfl | rfl | rfl | rfl <;> rfl
theorem Kb (y:An):∀x∈y.vs,nO x=true:=by
 intro x hx;cases y <;> simp only [An.vs,List.mem_cons,List.not_mem_nil,or_false]at hx <;> rcases hx with rfl | rfl | rfl | rfl | rfl <;> rfl
theorem At.rep {H:Hp} {a:Addr} {r:RX} (h:r.At H a):Rep H 2 r.tv (.ref a):=by
 cases r with
 | next n t=>exact⟨a,_,rfl,h,.cons ⟨rfl,rfl⟩ (.cons ⟨rfl,rfl⟩ (.cons ⟨rfl,rfl⟩ .nil))⟩
 | has z m=>exact⟨a,_,rfl,h,.cons ⟨rfl,rfl⟩ (.cons ⟨rfl,rfl⟩ (.cons ⟨rfl,rfl⟩ .nil))⟩
 | kept n t p k d y=>
  obtain⟨b,c,h1,h2,h3⟩:=h
  exact⟨a,_,rfl,h1,.cons ⟨rfl,rfl⟩ (.cons ⟨rfl,rfl⟩ (.cons ⟨rfl,rfl⟩ (.cons ⟨rfl,rfl⟩ (.cons ⟨rfl,rfl⟩ (.cons (jV h2 (Ka d)) (.cons (jV h3 (Kb y)) .nil))))))⟩
 | came n t p k d=>
  obtain⟨b,h1,h2⟩:=h
  exact⟨a,_,rfl,h1,.cons ⟨rfl,rfl⟩ (.cons ⟨rfl,rfl⟩ (.cons ⟨rfl,rfl⟩ (.cons ⟨rfl,rfl⟩ (.cons ⟨rfl,rfl⟩ (.cons (jV h2 (Ka d)) .nil)))))⟩
 | asked n=>exact⟨a,_,rfl,h,.cons ⟨rfl,rfl⟩ (.cons ⟨rfl,rfl⟩ .nil)⟩
 | done n t y=>
  obtain⟨b,h1,h2⟩:=h
  exact⟨a,_,rfl,h1,.cons ⟨rfl,rfl⟩ (.cons ⟨rfl,rfl⟩ (.cons ⟨rfl,rfl⟩ (.cons (jV h2 (Kb y)) .nil)))⟩
def rank:RX->Nat | .next _ _=>0 | .has _ _=>1 | .kept _ _ _ _ _ _=>2 | _=>3
def turn:RX->Nat | .next _ t=>t | .came _ t _ _ _=>t | .done _ t _=>t | _=>0
def Uo (rs:List RX):RX->Prop
 | .next _ _=>rs=[]
 | .has z _=>(∀q∈rs,rank q<=1)/\(∃n t,.next n t∈rs)/\∀z' m,.has z' m∈rs->z'.cps.toList<z.cps.toList
 | .kept n t _ _ d y=>(∀q∈rs,rank q<=2)/\(∃n0 t0,.next n0 t0∈rs/\n<n0/\t<=t0)/\(∀n' t' p' k' d' y',.kept n' t' p' k' d' y'∈rs->n'<n)/\An.Of d y
 | .came n t _ _ _=>(∀n' t' p' k' d',.came n' t' p' k' d'∈rs->n'<n)/\(∀t' p' k' d' y',.kept n t' p' k' d' y'∉rs)/\∀q∈rs,turn q<=t
 | .asked n=>(∃t p k d,.came n t p k d∈rs/\d.far=true)/\.asked n∉rs/\∀t y,.done n t y∉rs
 | .done n t y=>(∀q∈rs,turn q<=t)/\(∀t y,.done n t y∉rs)/\∃t0 p k d,.came n t0 p k d∈rs/\An.Of d y/\(d.far=true->(.asked n∈rs↔y.early=false))
inductive Whole:List RX->Prop
 | nil:Whole []
 | snoc {rs:List RX} {r:RX}:Whole rs->Uo rs r->Whole (rs++[r])
def Ok:RX->Prop
 | .next n t=>1<=n/\n<=1000000/\t<=1000000000000
 | .has z m=>eO z/\1<=m/\m<=1000000000000
 | .kept n t p k d y=>1<=n/\n<=999999/\t<=1000000000000/\eO p/\rY k/\d.Ok/\An.Of d y
 | .came n t p k d=>1<=n/\n<=999999/\t<=1000000000000/\eO p/\rY k/\d.Ok
 | .asked n=>1<=n/\n<=999999
 | .done n t _=>1<=n/\n<=999999/\t<=1000000000000
end RX
structure RxsAt (H:Hp) (ra:Addr) (rs:List RX) (as:List Addr):Prop where
 lst:H ra=some (.lst (as.map V.ref))
 each:Paired (fun r a=>RX.At H a r) rs as
theorem RxsAt.len {H:Hp} {ra:Addr} {rs:List RX} {as:List Addr} (h:RxsAt H ra rs as):rs.length=as.length:=h.each.length
theorem RxsAt.keep {H H':Hp} {ra:Addr} {rs:List RX} {as:List Addr} (h:RxsAt H ra rs as) (s:TK H H') (e:H' ra=some (.lst (as.map V.ref))):RxsAt H' ra rs as:=⟨e,Paired.map' (fun _ _ x=>x.tk s) h.each⟩
theorem RxsAt.same {H H':Hp} {ra:Addr} {rs:List RX} {as:List Addr} (h:RxsAt H ra rs as) (s:Same H H'):RxsAt H' ra rs as:=h.keep s.tk (s _ _ h.lst)
theorem RxsAt.snoc {H H':Hp} {ra:Addr} {rs:List RX} {as:List Addr} {r:RX} {a:Addr} (h:RxsAt H ra rs as) (s:TK H H') (hr:r.At H' a) (e:H' ra=some (.lst (as.map V.ref++[.ref a]))):RxsAt H' ra (rs++[r]) (as++[a]):=
 ⟨by rw[e,dW];rfl,Paired.snoc (Paired.map' (fun _ _ x=>x.tk s) h.each) hr⟩
theorem RxsAt.get {H:Hp} {ra:Addr} {rs:List RX} {as:List Addr} (h:RxsAt H ra rs as) {i:Nat} {v:V} (e:(as.map V.ref)[i]?=some v):∃(a:Addr) (r:RX),v=.ref a/\as[i]?=some a/\rs[i]?=some r/\r.At H a:=by
 rw[fS]at e;cases ha:as[i]? with
 | none=>rw[ha]at e;cases e
 | some a=>
  rw[ha]at e;cases e
  obtain⟨hi,ei⟩:=Zgs.mp ha
  obtain⟨hi',hr⟩:=Paired.get' (j:=i) h.each hi
  rw[ei]at hr;exact⟨a,rs[i],rfl,rfl,iJ hi',hr⟩
theorem RxsAt.rep {H:Hp} {ra:Addr} {rs:List RX} {as:List Addr} (h:RxsAt H ra rs as):Rep H 3 (.ls (rs.map RX.tv)) (.ref ra):=by
 refine⟨ra,_,rfl,h.lst,?_⟩
 have:∀ {rs:List RX} {as:List Addr},Paired (fun r a=>RX.At H a r) rs as->Paired (Rep H 2) (rs.map RX.tv) (as.map V.ref):=by
  intro rs as p;induction p with
  | nil=>exact .nil
  | cons h t ih=>exact .cons h.rep ih
 exact this h.each
theorem RxsAt.nil {H:Hp} {ra:Addr} (h:H ra=some (.lst [])):RxsAt H ra [] []:=⟨h,.nil⟩
end L2
namespace L2
open PySem PySem.Spec PyProof.Rows
def tV (l:List Stmt) (i:Nat):Stmt:=l.getD i (.Pass ⟨0,0,0,0⟩)
def Vc:Stmt->List Stmt | .If _ a _ _=>a | _=>[]
def Vd:Stmt->List Stmt | .If _ _ b _=>b | _=>[]
def Tg:Stmt->List Stmt | .For _ _ ss _ _=>ss | .While _ ss _ _=>ss | _=>[]
theorem bF {t u:TS} {D:hZ} {σ:St} {H:Hp} (R:St->Hp->Prop) (h:∀nx:St->Hp->Prop,(∀ σ' H',R σ' H'->nx σ' H')->t {D with nx:=nx } σ H) (h2:∀ σ' H',R σ' H'->u D σ' H'):oX t u D σ H:=h (u D) h2
theorem tW {c:TT} {t u:TS} {D:hZ} {σ:St} {H:Hp} (R:Bool->Hp->Prop) (h:∀k:Bool->Hp->Prop,(∀v H',R v H'->k v H')->c σ H k) (ht:∀H',R true H'->t D σ H') (hf:∀H',R false H'->u D σ H'):yL c t u D σ H:=
 h (fun b H1=>if b=true then t D σ H1 else u D σ H1) fun v H' r=>match v,r with | true,r=>ht H' r | false,r=>hf H' r
theorem Oh {c:TT} {t u x:TS} {D:hZ} {σ:St} {H:Hp} (R:Bool->Hp->Prop) (h:∀k:Bool->Hp->Prop,(∀v H',R v H'->k v H')->c σ H k) (ht:∀H',R true H'->t {D with nx:=x D } σ H') (hf:∀H',R false H'->u {D with nx:=x D } σ H'):oX (yL c t u) x D σ H:=
 h (fun b H1=>if b=true then t {D with nx:=x D } σ H1 else u {D with nx:=x D } σ H1) fun v H' r=>match v,r with | true,r=>ht H' r | false,r=>hf H' r
end L2
namespace L2
open PySem PySem.Spec PyProof.Rows
section
variable {X:Cx}
def Ie (neg:Bool):R2:=fun x y H Q=>mR y fun a=>∃o,DGet H a x o/\Q (.bl (if neg then !o.isSome else o.isSome)) H
theorem Ds (neg:Bool) (hu:X.A.units+1<cLine):OpR X (compareOp (if neg then .NotIn else .In)) (Ie neg):=by
 intro pins s σ H x y v u Q I rx ry h;unfold Ie at h;rw[dU]at h;obtain⟨a,rfl,o,g,q⟩:=h
 cases ry
 cases neg
 ·exact Tt hu I g rx fun s' I'=>⟨.bl _,H,I',rfl,q⟩
 ·exact Gj hu I g rx fun s' I'=>⟨.bl _,H,I',rfl,q⟩
theorem R.gs (hu:X.A.units+1<cLine):jI X (compareOp .In) (Ie false):=⟨Ds false hu⟩
theorem R.gu (hu:X.A.units+1<cLine):jI X (compareOp .NotIn) (Ie true):=⟨Ds true hu⟩
end
end L2
namespace KL
open PySem L2
def hV (i:Nat):Stmt:=PySem.Challenge.pw_oncedoor_k51_the_book_that_comes_up.main.body.getD i (.Pass ⟨0,0,0,0⟩)
abbrev aV:Stmt:=jQ (hV 6) 0
abbrev cY:Stmt:=hV 11
abbrev dY:Stmt:=hV 13
abbrev bO:Stmt:=jQ (hV 15) 0
abbrev dH:Stmt:=jQ (hV 15) 1
abbrev dO:Stmt:=jQ (hV 15) 2
abbrev dI:Stmt:=jQ (hV 15) 3
abbrev dZ:Stmt:=hV 17
abbrev eB:Stmt:=hV 18
abbrev cZ:Stmt:=hV 19
abbrev eC:Stmt:=hV 20
abbrev cH:Stmt:=hV 21
abbrev gA:Stmt:=hV 23
abbrev gB:Stmt:=hV 24
abbrev bT:Stmt:=hV 25
abbrev iQ:Stmt:=hV 26
abbrev gC:Stmt:=hV 27
abbrev dP:Stmt:=hV 28
abbrev eE:Stmt:=hV 29
abbrev eZ:Stmt:=hV 30
abbrev gE:Stmt:=hV 31
abbrev gG:Stmt:=hV 32
abbrev gH:Stmt:=hV 33
abbrev bJ:Stmt:=hV 34
abbrev fA:Stmt:=hV 35
abbrev fB:Stmt:=hV 36
abbrev dJ:Stmt:=hV 37
abbrev cO:Stmt:=hV 38
abbrev fE:Stmt:=hV 39
abbrev fF:Stmt:=hV 40
abbrev bA:Stmt:=hV 41
abbrev cQ:Stmt:=hV 42
abbrev eI:Stmt:=hV 43
abbrev cI:Stmt:=hV 44
abbrev gJ:Stmt:=hV 45
abbrev jW:Stmt:=hV 46
theorem hX {N P:List Str} {sc:Scope} (a:sc.kind=.function:=by rfl) (b:sc.isCoroutine=false:=by rfl) (c:sc.isGenerator=false:=by rfl) (d:N.Nodup:=by decide +kernel) (e:N.take P.length=P:=by rfl) (f:∀x∈P,sc.names.lookup x=some .local∨sc.names.lookup x=some .cell:=by decide +kernel) (g:∀y∈sc.names,y.2≠.free:=by decide +kernel):aK N P sc:=⟨a,b,c,d,e,f,g⟩
theorem iE:aK ["self","name"] ["self","name"] (aB aV):=hX
theorem lX:aK ["deed"] ["deed"] (aB cY):=hX
theorem pG:aK ["deed","answer"] ["deed","answer"] (aB dY):=hX
theorem kY:aK ["self","rows"] ["self","rows"] (aB bO):=hX
theorem nZ:aK ["self","name"] ["self","name"] (aB dH):=hX
theorem sE:aK ["self"] ["self"] (aB dO):=hX
theorem cE:aK ["self","changes","name","by"] ["self","changes"] (aB dI):=hX
theorem iF:aK ["rows","done","asked","came","still"] ["rows"] (aB dZ):=hX
theorem fK:aK ["rows","word","told","row"] ["rows","word"] (aB eB):=hX
theorem pH:aK ["rows"] ["rows"] (aB cZ):=hX
theorem fL:aK ["rows","came","book","row"] ["rows","came"] (aB eC):=hX
theorem jB:aK ["rows","came","kept"] ["rows","came"] (aB cH):=hX
theorem tX:aK ["_law_script"] ["_law_script"] (aB gA):=hX
theorem dQ:aK ["_law_deck_here","_law_many","_law_cell","_law_number"] ["_law_deck_here","_law_many"] (aB gB):=hX
theorem bY:aK ["_law_deck_here","_law_signs","_law_longest","_law_many","_law_word","_law_size","_law_at","_law_first","_law_ends"] ["_law_deck_here","_law_signs","_law_longest","_law_many"] (aB bT):=hX
theorem wC:aK ["_law_deck_here","_law_many"] ["_law_deck_here","_law_many"] (aB iQ):=hX
theorem bM:aK ["_law_deck_here","_law_names","_law_houses","_law_amount","_law_at","_law_name","_law_other","_law_spot_here","_law_house","_law_there","_law_some"] ["_law_deck_here","_law_names","_law_houses"] (aB gC):=hX
theorem gK:aK ["_law_deed_here","_law_asked","_law_words_here","_law_some"] ["_law_deed_here","_law_asked"] (aB dP):=hX
theorem dL:aK ["_law_deck_here","_law_deed_here","_law_word","_law_amount","_law_low","_law_high"] ["_law_deck_here","_law_deed_here","_law_word"] (aB eE):=hX
theorem gL:aK ["_law_deck_here","_law_letters","_law_menus_here"] ["_law_deck_here"] (aB eZ):=hX
theorem tY:aK ["_law_deck_here","_law_menus_here"] ["_law_deck_here","_law_menus_here"] (aB gE):=hX
theorem fG:aK ["_law_deck_here","_law_menus_here","_law_number","_law_turn","_law_deed_here","_law_words_here","_law_answer_here"] ["_law_deck_here","_law_menus_here","_law_number","_law_turn"] (aB gG):=hX
theorem bS:aK ["_law_deck_here","_law_menus_here","_law_number","_law_turn","_law_rows","_law_name","_law_last","_law_k"] ["_law_deck_here","_law_menus_here"] (aB gH):=hX
theorem aW:aK ["_law_deck_here","_law_rows","_law_menus_here","_law_many","_law_shut","_law_under","_law_number","_law_turn","_law_k","_law_way","_law_deed_here","_law_one","_law_words_here","_law_answer_here"] ["_law_deck_here","_law_rows","_law_menus_here","_law_many"] (aB bJ):=hX
theorem dA:aK ["_law_book","_law_deed_here","_law_amount","_law_name","_law_have"] ["_law_book","_law_deed_here"] (aB fA):=hX
theorem jX:aK ["_law_book","_law_deed_here","_law_behind"] ["_law_book","_law_deed_here"] (aB fB):=hX
theorem oA:aK ["_law_deed_here","_law_answer_here"] ["_law_deed_here","_law_answer_here"] (aB dJ):=hX
theorem bR:aK ["_law_book","_law_deed_here","_law_answer_here","_law_name","_law_by"] ["_law_book","_law_deed_here","_law_answer_here"] (aB cO):=hX
theorem cJ:aK ["_law_deck_here","_law_book","_law_deed_here","_law_name","_law_have","_law_some","_law_amount"] ["_law_deck_here","_law_book","_law_deed_here"] (aB fE):=hX
theorem eF:aK ["_law_deck_here","_law_book","_law_one","_law_due_here","_law_far","_law_some"] ["_law_deck_here","_law_book","_law_one"] (aB fF):=hX
theorem aU:aK ["_law_deck_here","_law_rows","_law_menus_here","_law_many","_law_book","_law_under","_law_words_here","_law_number","_law_turn","_law_k","_law_way","_law_deed_here","_law_one","_law_answer_here"] ["_law_deck_here","_law_rows","_law_menus_here","_law_many"] (aB bA):=hX
theorem dE:aK ["_law_deck_here","_law_menus_here","_law_rows"] ["_law_deck_here","_law_menus_here"] (aB cQ):=hX
theorem dF:aK ["_law_rows","_law_book","_law_deeds","_law_row","_law_name","_law_by"] ["_law_rows"] (aB eI):=hX
theorem dB:aK ["_law_error","_law_some"] ["_law_error"] (aB cI):=hX
theorem cF:aK ["_law_rows","_law_found","_law_error","e","_law_pair"] ["_law_rows"] (aB gJ):=hX
theorem eR:aK ["_law_script","_law_deck_here","_law_menus_here","_law_turn","_law_rows","_law_many","_law_kept_here","_law_due_here","_law_found"] ["_law_script"] (aB jW):=hX
structure Txt (K:W.Frag) (mg:Str->Option Value):Prop where
 b_ValueError:mg "ValueError"=none
 b_isinstance:mg "isinstance"=none
 b_int:mg "int"=none
 b_bool:mg "bool"=none
 b_str:mg "str"=none
 b_tuple:mg "tuple"=none
 b_len:mg "len"=none
 b_sum:mg "sum"=none
 b_list:mg "list"=none
 b_range:mg "range"=none
 b_max:mg "max"=none
 b_min:mg "min"=none
 b_sorted:mg "sorted"=none
 b_dict:mg "dict"=none
 g_MOST:∃t,mg "MOST"=some (.int (1000000000000) t)
end KL
namespace KL
open PySem L2
section
variable {P:Program} {w:World} {K:W.Frag} {mg:Str->Option Value} {base:Heap}
def bD:Sp:=fun vs H Q _=>∃d b m,vs=[.ref d,.int m]/\Dk H d b/\0<m/\m<18446744073709551616/\∀r H',0<=r->r<m->Dk H' d b->Kp d b H H'->Q (.int r) H'
theorem Ig (T:Txt K mg) (D:DefAt K mg "_law_deck" gA ["_law_script"]):aH P w K mg base 1 "_law_deck" ["_law_script"] (Cd K):=by
 refine D.go tX (fun vs H Q E h=>?_) (fun f cdv A outer s H vs Q E hr h=>?_)
 ·obtain⟨a,ns,rfl,_⟩:=h;rfl
 ·obtain⟨a,ns,rfl,hS,q⟩:=h
  refine⟨_,(R.af (R.am (R.au (R.U (R.bo (R.gv (K:=K)) rfl T.b_list mJ (R.U (R.sl (R.fg (K:=K)) (R.v 0) R.pn (R.ps R.aa)) R.ac)) (R.U (R.op R.aq R.aa (R.op R.bp (R.aw (R.im (K:=K) rfl) rfl T.b_sum Nj (R.U (R.sl (R.fg (K:=K)) (R.v 0) R.pn (R.ps R.aa)) R.ac)) R.aa)) (R.U R.aa R.ac)))))),?_⟩
  have hc:iB (ns.map V.int) none (some 63)=(ns.take 63).map V.int:=by rw[Ho];exact congrArg _ (vT ns 63)
  refine⟨_,hS,fun p1 hp1=>⟨_,.inl (SqL.of aA),fun b hb=>?_⟩⟩
  have s2:Same H (aI (aI H p1 (.lst (iB (ns.map V.int) none (some 63)))) b (.lst (iB (ns.map V.int) none (some 63)))):=(aG hp1).trans (aG hb)
  have g2:(aI (aI H p1 (.lst (iB (ns.map V.int) none (some 63)))) b (.lst (iB (ns.map V.int) none (some 63)))) b=some (.lst ((ns.take 63).map V.int)):=by rw[aA,hc]
  have hb0:H b=none:=(aG hp1).free hb
  show jP _ _ _ (aI (aI H p1 (.lst (iB (ns.map V.int) none (some 63)))) b (.lst (iB (ns.map V.int) none (some 63)))) _
  generalize aI (aI H p1 (.lst (iB (ns.map V.int) none (some 63)))) b (.lst (iB (ns.map V.int) none (some 63)))=H2 at s2 g2;refine⟨_,s2.seq hS,fun p2 hp2=>⟨p2,ns.take 63,rfl,SqL.of (by rw[aA,hc]),by show(0:Int)<2147483629;decide,cP rfl,fun d hd=>?_⟩⟩
  have s4:Same H (aI H2 p2 (.lst (iB (ns.map V.int) none (some 63)))):=s2.trans (aG hp2)
  have nbd:b≠d:=aD ((aG hp2) _ _ g2) hd
  refine q d b _ (s4.free hd) hb0 ⟨ns.take 63,_,_,aA,?_,?_⟩ (s4.trans (aG hd))
  ·rw[aE nbd];exact(aG hp2) _ _ g2
  ·rw[vA];exact Nat.min_le_left _ _
theorem Dt (D:DefAt K mg "_law_draw" gB ["_law_deck_here","_law_many"]) :
  aH P w K mg base 1 "_law_draw" ["_law_deck_here","_law_many"] bD:=by
 refine D.go dQ (fun vs H Q E h=>?_) (fun f cdv A outer s H vs Q E hr h=>?_)
 ·obtain⟨d,b,m,rfl,_⟩:=h;rfl
 ·obtain⟨d,b,m,rfl,dk,hm,hm2,q⟩:=h
  have hu:=hr.units0
  obtain⟨ns,s0,k0,h1,h2,h3⟩:=dk.ex
  have ndb:d≠b:=fM h1 h2 (by
   intro z;injection z with z
   cases ns with
   | nil=>cases z
   | cons z1 zs=>injection z with z _;cases z)
  refine⟨_,(R.ad (R.bq (R.op R.aq (R.ix (R.ao (K:=K)) (R.v 0) R.aa) R.aa) (R.br (R.v 0) R.aa R.fh)) (R.ad (R.ah (i:=2) dQ.nd (R.ix (R.ao (K:=K)) (R.v 0) R.aa)) (R.ad (R.ar (R.ai (R.gw (K:=K) hu) (R.ix (R.ao (K:=K)) (R.v 0) R.aa) (R.au R.ac)) (R.ad (R.ah (i:=2) dQ.nd (R.ba (K:=K) PySem.F.plainAttrs_list PySem.F.slot_list_pop PySem.F.type_list_pop R.io (R.ix (R.ao (K:=K)) (R.v 0) R.aa) (R.U R.aa R.ac))) (R.af (R.ar (R.ai R.ge (R.v 2) (R.op R.bg R.aa R.aa)) (R.ad (R.az (R.ba (K:=K) PySem.F.plainAttrs_list PySem.F.slot_list_insert PySem.F.type_list_insert R.gm (R.ix (R.ao (K:=K)) (R.v 0) R.aa) (R.U R.aa (R.U (R.op R.eg (R.v 2) (R.v 1)) R.ac)))) (R.af (R.am (R.op R.bp (R.v 2) (R.v 1))))) R.av))) R.av) (R.ad (R.ah (i:=3) dQ.nd (R.op R.bp (R.op R.aq (R.op R.aq (R.op R.dj (R.op R.bp (R.v 2) R.aa) R.aa) (R.op R.dj R.aa (R.ix (R.ao (K:=K)) (R.v 0) R.aa))) R.aa) R.aa)) (R.ad (R.ah (i:=3) dQ.nd (R.op R.bp (R.op R.dj (R.v 3) (R.v 3)) R.aa)) (R.af (R.am (R.op R.bp (R.op R.eg (R.op R.bp (R.op R.dj (R.v 3) (R.op R.aq (R.v 3) R.aa)) R.aa) R.aa) (R.v 1))))))))),?_⟩
  refine⟨_,SqL.of h1,_,rfl,d,_,2,2,rfl,rfl,h1,rfl,?_⟩
  have g1:(aI H d (.lst [.ref b,.int s0,.int (k0+1)])) d=some (.lst [.ref b,.int s0,.int (k0+1)]):=aA
  have g2:(aI H d (.lst [.ref b,.int s0,.int (k0+1)])) b=some (.lst (ns.map V.int)):=by rw[aE ndb.symm];exact h2
  have kp1:Kp d b H (aI H d (.lst [.ref b,.int s0,.int (k0+1)])):=fun c o e n1 n2=>by rw[aE n1];exact e
  show oX _ _ _ _ (aI H d (.lst [.ref b,.int s0,.int (k0+1)]))
  generalize aI H d (.lst [.ref b,.int s0,.int (k0+1)])=H1 at g1 g2 kp1;refine⟨_,SqL.of g1,_,rfl,?_⟩
  dsimp only [aJ];refine Nm (t:=yL _ _ _) (fun σ' H'=>∃c:Int,σ'=[some (.ref d),some (.int m),some (.int c),none]/\(∃ns':List Int,H' d=some (.lst [.ref b,.int s0,.int (k0+1)])/\H' b=some (.lst (ns'.map V.int))/\ns'.length<=63)/\Kp d b H H') (fun nx hnx=>?_) ?_
  ·refine⟨_,SqL.of g1,_,rfl,cP rfl,fun p hp=>⟨b,p,_,rfl,rfl,SqL.of (by rw[aE (aD g2 hp)];exact g2),SqL.of aA,?_⟩⟩
   have e1:(aI H1 p (.lst [])) d=some (.lst [.ref b,.int s0,.int (k0+1)]):=by rw[aE (aD g1 hp)];exact g1
   have e2:(aI H1 p (.lst [])) b=some (.lst (ns.map V.int)):=by rw[aE (aD g2 hp)];exact g2
   have kp2:Kp d b H (aI H1 p (.lst [])):=kp1.trans (.new hp)
   generalize aI H1 p (.lst [])=H2 at e1 e2 kp2;cases ns with
   | nil=>
    exact hnx _ _ ⟨_,rfl,⟨[],e1,e2,h3⟩,kp2⟩
   | cons z ns=>
    have hl:ns.length+1<=63:=by simpa using h3
    refine⟨_,SqL.of e1,_,rfl,.inl ⟨rfl,_,SqL.of e2⟩,b,_,0,0,.int z,rfl,rfl,e2,Zd,Zd,by simp [seqIndex?],rfl,?_⟩
    have f1:(aI H2 b (.lst ((List.map V.int (z::ns)).eraseIdx 0))) d=some (.lst [.ref b,.int s0,.int (k0+1)]):=by rw[aE ndb];exact e1
    have f2:(aI H2 b (.lst ((List.map V.int (z::ns)).eraseIdx 0))) b=some (.lst (ns.map V.int)):=by rw[aA];rfl
    have kp3:Kp d b H (aI H2 b (.lst ((List.map V.int (z::ns)).eraseIdx 0))):=fun c o e n1 n2=>by rw[aE n2];exact kp2 c o e n1 n2
    dsimp only [aJ];generalize aI H2 b (.lst ((List.map V.int (z::ns)).eraseIdx 0))=H3 at f1 f2 kp3;refine⟨⟨Zd,Zd,Zd⟩,?_⟩
    refine bQ (fun _=>?_) (fun _=>?_)
    ·refine⟨_,SqL.of f1,_,rfl,.inl ⟨rfl,_,SqL.of f2⟩,⟨hm,hm2⟩,b,_,0,_,rfl,rfl,f2,Nat.zero_le _,kI (m:=63) (by rw[aR];omega) Zd,hm,?_⟩
     refine q _ _ (Int.emod_nonneg _ Zo) (Int.emod_lt_of_pos _ hm) ⟨z / m::ns,s0,k0+1,by rw[aE ndb];exact f1,by rw[aA];rfl,by simpa using hl⟩ fun c o e n1 n2=>by rw[aE n2];exact kp3 c o e n1 n2
    ·exact hnx _ _ ⟨_,rfl,⟨ns,f1,f2,Zo⟩,kp3⟩
  ·rintro σ' H' ⟨c,rfl,⟨ns',f1,f2,f3⟩,kp⟩
   refine⟨by show(0:Int)<_;decide,.inr ⟨Zd,Zd⟩,_,SqL.of f1,_,rfl,.inl ⟨Zd,Zd⟩,by show(0:Int)<_;decide,?_⟩
   generalize hx:(c % 2147483629*16807+69621*(k0+1)+7919) % 2147483629=x;have hx0:0<=x:=by omega
   have hx1:x<2147483629:=by omega
   dsimp only [aJ];refine⟨.inl ⟨Zo,Zo⟩,by show(0:Int)<_;decide,?_⟩
   generalize hy:x*x % 2147483587=y;have hy0:0<=y:=by omega
   have hy1:y<2147483587:=by omega
   dsimp only [aJ];refine⟨.inl ⟨Zo,Zo⟩,by show(0:Int)<_;decide,⟨Zd,Zd⟩,hm,?_⟩
   exact q _ _ (Int.emod_nonneg _ Zo) (Int.emod_lt_of_pos _ hm) ⟨ns',s0,k0+1,f1,f2,f3⟩ kp
theorem Oi {r:Int} (h0:0<=r) (h1:r<4):r=0∨r=1∨r=2∨r=3:=by omega
theorem six {r:Int} (h0:0<=r) (h1:r<6):r=0∨r=1∨r=2∨r=3∨r=4∨r=5:=by omega
theorem Oj (T:Txt K mg) (cLdraw:aH P w K mg base 1 "_law_draw" ["_law_deck_here","_law_many"] bD) (D:DefAt K mg "_law_end" iQ ["_law_deck_here","_law_many"]) :
  aH P w K mg base 2 "_law_end" ["_law_deck_here","_law_many"] bD:=by
 refine D.go wC (fun vs H Q E h=>?_) (fun f cdv A outer s H vs Q E hr h=>?_)
 ·obtain⟨d,b,m,rfl,_⟩:=h;rfl
 ·obtain⟨d,b,m,rfl,dk,hm,hm2,q⟩:=h
  have hLdraw:=hr
  refine⟨_,(R.af (R.am (R.ix (R.ao (K:=K)) (R.au (R.U R.aa (R.U (R.op R.cj (R.v 1) R.aa) (R.U (R.fn cLdraw hLdraw rfl (R.U (R.v 0) (R.U (R.v 1) R.ac))) (R.U (R.fn cLdraw hLdraw rfl (R.U (R.v 0) (R.U (R.v 1) R.ac))) R.ac))))) (R.fn cLdraw hLdraw rfl (R.U (R.v 0) (R.U R.aa R.ac)))))),?_⟩
  refine⟨d,b,m,rfl,dk,hm,hm2,fun r1 H1 a0 a1 D1 k1=>⟨d,b,m,rfl,D1,hm,hm2,fun r2 H2 b0 b1 D2 k2=>⟨cP rfl,fun p hp=>⟨d,b,4,rfl,D2.new hp,Zd,Zd,fun r3 H3 c0 c1 D3 k3=>?_⟩⟩⟩⟩
  have hpd:=D2.ne hp
  have gp:=k3 p _ aA hpd.1 hpd.2
  have kk:=((k1.trans k2).trans (.new hp)).trans k3
  rcases Oi c0 c1 with rfl | rfl | rfl | rfl
  ·exact⟨_,SqL.of gp,_,rfl,q _ _ Zo Zo D3 kk⟩
  ·exact⟨_,SqL.of gp,_,rfl,q _ _ Zo Zo D3 kk⟩
  ·exact⟨_,SqL.of gp,_,rfl,q _ _ a0 a1 D3 kk⟩
  ·exact⟨_,SqL.of gp,_,rfl,q _ _ b0 b1 D3 kk⟩
structure WordsOf (L:List Nat) (g:Nat) (ws:List Str):Prop where
 nd:ws.Nodup
 of:∀z∈ws,1<=z.length/\z.length<=g/\∀c∈z.cps.toList,c∈L
def qI:Sp:=fun vs H Q _=>∃(d b:Addr) (L:List Nat) (g m:Nat),vs=[.ref d,.str (tx L),.int (g:Int),.int (m:Int)]/\Dk H d b/\1<=m/\m<=g/\g<=12/\L.Nodup/\m<=L.length/\L.length<=40 ∧
 ∀(l:Addr) (ws:List Str) (H':Hp),WordsOf L g ws->ws.length=m->H' l=some (.lst (ws.map V.str))->l≠d->l≠b->Dk H' d b->Kp d b H H'->Q (.ref l) H'
theorem Du {α:Type} (xs:List α) {i j:Nat} (hi:i<=xs.length) (hj:j<=xs.length):iB xs (some (i:Int)) (some (j:Int))=(xs.drop i).take (j - i):=by
 unfold iB;rw[HT.sIx_nat,HT.sIx_nat,Nat.min_eq_left hi,Nat.min_eq_left hj]
def oC (L ts:List Nat) (a sz f k:Nat):List Nat:=ts.take a++[L.getD ((f+k) % L.length) 0]++(ts.drop (a+1)).take (sz - (a+1))
theorem Ih {L:List Nat} (hn:L.Nodup) {i j:Nat} (hi:i<L.length) (hj:j<L.length) (h:L.getD i 0=L.getD j 0):i=j:=by
 rw[List.getD_eq_getElem?_getD,List.getD_eq_getElem?_getD,iJ hi,iJ hj]at h;have h':L[i]=L[j]:=h
 have p:=List.pairwise_iff_getElem.mp hn
 rcases Nat.lt_trichotomy i j with z | z | z
 ·exact absurd h' (p i j hi hj z)
 ·exact z
 ·exact absurd h'.symm (p j i hj hi z)
theorem Ii {f k k' n:Nat} (hk:k<n) (hk':k'<n) (h:(f+k) % n=(f+k') % n):k=k':=by
 have h1:=Nat.mod_add_div (f+k) n
 have h2:=Nat.mod_add_div (f+k') n
 rw[h]at h1;generalize (f+k) / n=u at h1;generalize (f+k') / n=v at h2;rcases Nat.lt_trichotomy u v with z | z | z
 ·have:n*(u+1)<=n*v:=Nat.mul_le_mul_left n z
  rw[Nat.mul_add,Nat.mul_one]at this;omega
 ·subst z;omega
 ·have:n*(v+1)<=n*u:=Nat.mul_le_mul_left n z
  rw[Nat.mul_add,Nat.mul_one]at this;omega
theorem Dv {L ts:List Nat} (hn:L.Nodup) {a sz f k k':Nat} (h:oC L ts a sz f k=oC L ts a sz f k') (hk:k<L.length) (hk':k'<L.length):k=k':=by
 unfold oC at h;have h1:=List.append_inj_left' h rfl
 have h2:=List.append_inj_right' h1 rfl
 have h3:L.getD ((f+k) % L.length) 0=L.getD ((f+k') % L.length) 0:=by injection h2
 exact Ii hk hk' (Ih hn (Nat.mod_lt _ Zo) (Nat.mod_lt _ Zo) h3)
theorem Sk {L:List Nat} {i:Nat} (h:i<L.length):L.getD i 0∈L/\L[i]?=some (L.getD i 0):=by
 have e:L[i]?=some (L[i]):=iJ h
 have e2:L.getD i 0=L[i]:=by rw[List.getD_eq_getElem?_getD,e];rfl
 exact⟨e2 ▸ List.getElem_mem _,e2 ▸ e⟩
theorem Ij {L ts:List Nat} {g a sz f k:Nat} (h0:0<L.length) (hl:ts.length=g) (ht:∀c∈ts,c∈L) (ha:a<sz) (hs:sz<=g):1<=(oC L ts a sz f k).length/\(oC L ts a sz f k).length<=g/\∀c∈oC L ts a sz f k,c∈L:=by
 have e:(oC L ts a sz f k).length=sz:=by
  unfold oC;simp [hl]
  omega
 refine⟨Zo,Zo,fun c hc=>?_⟩
 unfold oC at hc;rcases Zma.mp hc with hc | hc
 ·rcases Zma.mp hc with hc | hc
  ·exact ht c (List.mem_of_mem_take hc)
  ·rw[Zms.mp hc];exact(Sk (Nat.mod_lt _ h0)).1
 ·exact ht c (List.mem_of_mem_drop (List.mem_of_mem_take hc))
theorem kZ {n i:Nat} {x:V} (h:(iC 0 n)[i]?=some x):x=.int (i:Int)/\i<n:=by
 unfold iC at h;rw[fS]at h;cases hh:(List.range n)[i]? with
 | none=>rw[hh]at h;cases h
 | some y=>
  rw[hh]at h;obtain⟨h1,h2⟩:=Zgs.mp hh
  rw[List.getElem_range]at h2;cases h
  rw[<- h2];exact⟨Zs,by simpa using h1⟩
theorem eG (n:Nat):(iC 0 n).length=n:=by simp [iC]
theorem tZ {L:List Nat} {g m:Nat} {F:Nat->List Nat} (hi:∀k k',k<m->k'<m->F k=F k'->k=k') (ho:∀k,k<m->1<=(F k).length/\(F k).length<=g/\∀c∈F k,c∈L):WordsOf L g ((List.range m).map fun k=>tx (F k)):=by
 refine⟨?_,fun z hz=>?_⟩
 ·show List.Pairwise (·≠·) _
  rw[List.pairwise_map];refine List.Pairwise.imp_of_mem (fun {x y} hx hy hne exy=>hne ?_) List.nodup_range
  exact hi _ _ (List.mem_range.mp hx) (List.mem_range.mp hy) (by simpa using congrArg (fun z:Str=>z.cps.toList) exy)
 ·obtain⟨k,hk,rfl⟩:=Zmm.mp hz
  have:=ho k (List.mem_range.mp hk)
  exact⟨by rw[eN];exact this.1,by rw[eN];exact this.2.1,fun c hc=>this.2.2 c (by simpa using hc)⟩
theorem zR (T:Txt K mg) (cLdraw:aH P w K mg base 1 "_law_draw" ["_law_deck_here","_law_many"] bD) (D:DefAt K mg "_law_unlike" bT ["_law_deck_here","_law_signs","_law_longest","_law_many"]) :
  aH P w K mg base 2 "_law_unlike" ["_law_deck_here","_law_signs","_law_longest","_law_many"] qI:=by
 refine D.go bY (fun vs H Q E h=>?_) (fun f cdv A outer s H vs Q E hr h=>?_)
 ·obtain⟨d,b,L,g,m,rfl,_⟩:=h;rfl
 ·obtain⟨d,b,L,g,m,rfl,dk,hm1,hmg,hg,hnd,hmL,hL40,q⟩:=h
  have hLdraw:=hr
  have lL:(tx L).length=L.length:=eN L
  have h40:(tx L).length<=sizeLine:=fO Zo
  have cL:(tx L).cps.toList=L:=by simp
  refine⟨_,(R.ad (R.ah (i:=4) bY.nd (R.ba (K:=K) PySem.F.plainAttrs_str PySem.F.slot_str_join PySem.F.type_str_join (R.ip (K:=K)) R.ae (R.U (R.bb rfl (js:=[none,some 0,some 1]) (N:=["_law_k","_law_deck_here","_law_signs"]) (CompScope.by (aB bT) ["_law_deck_here","_law_signs","_law_longest","_law_many","_law_word","_law_size","_law_at","_law_first","_law_ends"] rfl rfl Zk) (aT rfl) (R.de rfl T.b_range (R.U (R.v 2) R.ac)) (fun C s₂ H₂ fp=>⟨(R.gn (i:=0) (show(["_law_k","_law_deck_here","_law_signs"]:List Str).Nodup by decide +kernel)),R.dl,(R.ix R.iS (R.v 2) (R.fn cLdraw hLdraw rfl (R.U (R.v 1) (R.U (R.aw R.fi rfl T.b_len bZ (R.U (R.v 2) R.ac)) R.ac))))⟩)) R.ac))) (R.ad (R.ar (R.ai R.eq (R.fn cLdraw hLdraw rfl (R.U (R.v 0) (R.U R.aa R.ac))) R.aa) (R.af (R.am (R.bb rfl (js:=[none,some 4]) (N:=["_law_k","_law_word"]) (CompScope.by (aB bT) ["_law_deck_here","_law_signs","_law_longest","_law_many","_law_word","_law_size","_law_at","_law_first","_law_ends"] rfl rfl Zk) (aT rfl) (R.de rfl T.b_range (R.U (R.v 3) R.ac)) (fun C s₂ H₂ fp=>⟨(R.gn (i:=0) (show(["_law_k","_law_word"]:List Str).Nodup by decide +kernel)),R.dl,(R.sl R.sS (R.v 1) R.pn (R.ps (R.op R.aq (R.v 0) R.aa)))⟩)))) R.av) (R.ad (R.ah (i:=5) bY.nd (R.op R.aq R.aa (R.fn cLdraw hLdraw rfl (R.U (R.v 0) (R.U (R.v 2) R.ac))))) (R.ad (R.ah (i:=6) bY.nd (R.fn cLdraw hLdraw rfl (R.U (R.v 0) (R.U (R.v 5) R.ac)))) (R.ad (R.ah (i:=7) bY.nd (R.fn cLdraw hLdraw rfl (R.U (R.v 0) (R.U (R.aw R.fi rfl T.b_len bZ (R.U (R.v 1) R.ac)) R.ac)))) (R.ad (R.ah (i:=8) bY.nd (R.ia (R.U (R.sl R.sS (R.v 4) R.pn (R.ps (R.v 6))) (R.U (R.sl R.sS (R.v 4) (R.ps (R.op R.aq (R.v 6) R.aa)) (R.ps (R.v 5))) R.ac)))) (R.af (R.am (R.bb rfl (js:=[none,some 1,some 7,some 8]) (N:=["_law_k","_law_signs","_law_first","_law_ends"]) (CompScope.by (aB bT) ["_law_deck_here","_law_signs","_law_longest","_law_many","_law_word","_law_size","_law_at","_law_first","_law_ends"] rfl rfl Zk) (aT rfl) (R.de rfl T.b_range (R.U (R.v 3) R.ac)) (fun C s₂ H₂ fp=>⟨(R.gn (i:=0) (show(["_law_k","_law_signs","_law_first","_law_ends"]:List Str).Nodup by decide +kernel)),R.dl,(R.op R.fj (R.op R.fj (R.ix (R.ag (K:=K)) (R.v 3) R.aa) (R.ix R.iS (R.v 1) (R.op R.bp (R.op R.aq (R.v 2) (R.v 0)) (R.aw R.fi rfl T.b_len bZ (R.U (R.v 1) R.ac))))) (R.ix (R.ag (K:=K)) (R.v 3) R.aa))⟩)))))))))),?_⟩
  refine Nm (t:=Al _ _) (fun σ' H'=>∃ts:List Nat,σ'=[some (.ref d),some (.str (tx L)),some (.int (g:Int)),some (.int m),some (.str (tx ts)),none,none,none,none]/\ts.length=g/\(∀c∈ts,c∈L)/\Dk H' d b/\Kp d b H H') (fun nx hnx=>?_) ?_
  ·refine⟨rfl,g,rfl,Zo,Zo,?_⟩
   refine aZ (dC 0 (g:Int).toNat) (by rw[eG];omega) (fun i ys H'=>Dk H' d b/\Kp d b H H'/\∃ts:List Nat,ys=ts.map (fun c=>V.str (tx [c]))/\ts.length=i/\∀c∈ts,c∈L) (fun i ys H' ⟨_,_,ts,e,e2,_⟩=>⟨trivial,by rw[e,aR,e2];exact bC _⟩) ⟨dk,.refl,[],rfl,rfl,(fun _ h=>nomatch h)⟩ (fun i x ys H' hx ⟨Di,kpi,ts,e,e2,e3⟩=>?_) (fun ys H' ⟨Di,kpi,ts,e,e2,e3⟩=>?_)
   ·refine⟨h40,d,b,_,rfl,Di,Zo,Zo,fun r2 H'' r20 r21 Dj kpj=>⟨h40,?_⟩⟩
    obtain⟨c,hc,hm⟩:=Cf (xs:=(tx L).cps.toList) r20 (by rw[cL];omega)
    rw[cL]at hm;refine⟨c,hc,Dj,kpi.trans kpj,ts++[c],by rw[e,dW];rfl,by rw[pN,e2];rfl,fun c' hc'=>?_⟩
    rcases Zma.mp hc' with h | h
    ·exact e3 c' h
    ·rw[Zms.mp h];exact hm
   ·intro p hp;have hts:ts.length=g:=by rw[e2,eG];omega
    refine⟨_,p,ts.map (fun c=>tx [c]),rfl,rfl,SqL.of (by rw[aA,e,List.map_map];rfl),?_,?_⟩
    ·rw[tL,aR,Ch,eN];simp;omega
    ·refine hnx _ _ ⟨ts,?_,hts,e3,Di.new hp,kpi.trans (.new hp)⟩
     rw[Ch,vU];rfl
  ·rintro σ' H1 ⟨ts,rfl,hts,hlet,D1,k1⟩
   have hcl:(tx ts).cps.toList=ts:=by simp
   have em:((m:Int)).toNat=m:=by omega
   refine⟨d,b,3,rfl,D1,Zd,Zd,fun r H2 r0 r1 D2 k2=>?_⟩
   refine bQ (fun _=>?_) (fun _=>?_)
   ·refine⟨m,rfl,Zo,Zo,?_⟩
    refine aZ (dC 0 (m:Int).toNat) (by rw[eG];omega) (fun i ys H'=>ys=((List.range i).map fun k=>tx (ts.take (k+1))).map V.str/\H'=H2) (fun i ys H' ⟨e,_⟩=>⟨trivial,by rw[e];simp⟩) ⟨rfl,rfl⟩ (fun i x ys H' hx ⟨e,e2⟩=>?_) (fun ys H' ⟨e,e2⟩=>?_)
    ·subst e2;obtain⟨rfl,hi⟩:=kZ hx
     refine⟨fO (by rw[eN];omega),?_,rfl⟩
     rw[hcl,show((i:Nat):Int)+1=((i+1:Nat):Int) by omega,vT,e,List.range_succ,dW,dW]
     rfl
    ·subst e2;intro p hp;rw[eG,em]at e;have hd:=D2.ne hp
     refine q p ((List.range m).map fun k=>tx (ts.take (k+1))) _ (tZ (fun k k' hk hk' e=>?_) (fun k hk=>?_)) Zs (by rw[aA,e]) hd.1 hd.2 (D2.new hp) ((k1.trans k2).trans (.new hp))
     ·have:=congrArg List.length e
      rw[vA,vA,hts]at this;omega
     ·exact⟨by rw[vA,hts];omega,by rw[vA,hts];omega,fun c hc=>hlet c (List.mem_of_mem_take hc)⟩
   ·refine⟨d,b,g,rfl,D2,Zo,Zo,fun r5 H3 s0 s1 D3 k3=>?_⟩
    dsimp only [aJ];refine⟨d,b,1+r5,rfl,D3,Zo,Zo,fun ra H4 a0 a1 D4 k4=>?_⟩
    dsimp only [aJ];refine⟨h40,d,b,_,rfl,D4,Zo,Zo,fun rf H5 f0 f1 D5 k5=>?_⟩
    rw[lL]at f1;dsimp only [aJ];obtain⟨a,rfl⟩:∃a:Nat,ra=a:=⟨ra.toNat,Zo⟩
    obtain⟨z5,rfl⟩:∃z:Nat,r5=z:=⟨r5.toNat,Zo⟩
    obtain⟨fz,rfl⟩:∃z:Nat,rf=z:=⟨rf.toNat,Zo⟩
    refine⟨fO (by rw[eN];omega),fO (by rw[eN];omega),cP rfl,fun tp htp=>?_⟩
    have g5:(aI H5 tp (.tup [.str (tx (iB (tx ts).cps.toList none (some (a:Int)))),.str (tx (iB (tx ts).cps.toList (some ((a:Int)+1)) (some (1+(z5:Int)))))])) tp=some (.tup [.str (tx (ts.take a)),.str (tx ((ts.drop (a+1)).take (z5+1 - (a+1))))]):=by
     rw[aA,hcl,vT,show(a:Int)+1=((a+1:Nat):Int) by omega,show 1+(z5:Int)=((z5+1:Nat):Int) by omega,Du ts Zo Zo]
    have k6:Kp d b H (aI H5 tp (.tup [.str (tx (iB (tx ts).cps.toList none (some (a:Int)))),.str (tx (iB (tx ts).cps.toList (some ((a:Int)+1)) (some (1+(z5:Int)))))])):=((((k1.trans k2).trans k3).trans k4).trans k5).trans (.new htp)
    have D6:=D5.new (o:=.tup [.str (tx (iB (tx ts).cps.toList none (some (a:Int)))),.str (tx (iB (tx ts).cps.toList (some ((a:Int)+1)) (some (1+(z5:Int)))))]) htp
    dsimp only [aJ];generalize aI H5 tp (.tup [.str (tx (iB (tx ts).cps.toList none (some (a:Int)))),.str (tx (iB (tx ts).cps.toList (some ((a:Int)+1)) (some (1+(z5:Int)))))])=H6 at g5 k6 D6;refine⟨m,rfl,Zo,Zo,?_⟩
    refine aZ (dC 0 (m:Int).toNat) (by rw[eG];omega) (fun i ys H'=>ys=((List.range i).map fun k=>tx (oC L ts a (z5+1) fz k)).map V.str/\H'=H6) (fun i ys H' ⟨e,_⟩=>⟨trivial,by rw[e];simp⟩) ⟨rfl,rfl⟩ (fun i x ys H' hx ⟨e,e2⟩=>?_) (fun ys H' ⟨e,e2⟩=>?_)
    ·subst e2;obtain⟨rfl,hi⟩:=kZ hx
     have h0:0<L.length:=by omega
     have hL:=Sk (L:=L) (Nat.mod_lt (fz+i) h0)
     have t1:(tx (ts.take a)).length<=12:=by rw[eN,vA];omega
     have t2:(tx ((ts.drop (a+1)).take (z5+1 - (a+1)))).length<=12:=by rw[eN,vA,List.length_drop];omega
     refine⟨_,SqT.of g5,_,rfl,h40,by rw[lL];omega,h40,L.getD ((fz+i) % L.length) 0,?_,fO (by have:=eN [L.getD ((fz+i) % L.length) 0];simp only [sQ,List.length_nil]at this;omega),_,SqT.of g5,_,rfl,fO ?_,?_,rfl⟩
     ·rw[lL,cL,show((fz:Int)+(i:Int)) % (L.length:Int)=(((fz+i) % L.length:Nat):Int) by rw[Int.natCast_emod,Int.natCast_add]]
      exact dX hL.2
     ·rw[rK,eN,pN,vA];simp only [sQ,List.length_nil]
      omega
     ·rw[e,List.range_succ,dW,dW,rK,rK];rfl
    ·subst e2;intro p hp;rw[eG,em]at e;have hd:=D6.ne hp
     refine q p ((List.range m).map fun k=>tx (oC L ts a (z5+1) fz k)) _ (tZ (fun k k' hk hk' e=>?_) (fun k hk=>?_)) Zs (by rw[aA,e]) hd.1 hd.2 (D6.new hp) (k6.trans (.new hp))
     ·exact Dv hnd e Zo Zo
     ·exact Ij Zo hts hlet Zo Zo
end
end KL
namespace KL
open PySem L2
section
variable {P:Program} {w:World} {K:W.Frag} {mg:Str->Option Value} {base:Heap}
theorem aM {n:Nat} (h:Nat.ble n 1000=true):n<=1000:=Nat.le_of_ble_eq_true h
structure Fw (d b:Addr) (H H':Hp):Prop where
 d0:Dk H d b
 dk:Dk H' d b
 kp:Kp d b H H'
theorem Kp.same' {d b:Addr} {H H':Hp} (s:Same H H'):Kp d b H H':=fun c o e _ _=>s c o e
theorem Fw.refl {d b:Addr} {H:Hp} (D:Dk H d b):Fw d b H H:=⟨D,D,.refl⟩
theorem Fw.same {d b:Addr} {H H1 H2:Hp} (f:Fw d b H H1) (s:Same H1 H2):Fw d b H H2:=⟨f.d0,f.dk.same s,f.kp.trans (Kp.same' s)⟩
theorem Fw.new {d b p:Addr} {H H1:Hp} {o:HO} (f:Fw d b H H1) (h:H1 p=none):Fw d b H (aI H1 p o):=⟨f.d0,f.dk.new h,f.kp.trans (.new h)⟩
theorem Fw.draw {d b:Addr} {H H1 H2:Hp} (f:Fw d b H H1) (D:Dk H2 d b) (k:Kp d b H1 H2):Fw d b H H2:=⟨f.d0,D,f.kp.trans k⟩
theorem Fw.trans {d b:Addr} {H H1 H2:Hp} (f:Fw d b H H1) (g:Fw d b H1 H2):Fw d b H H2:=⟨f.d0,g.dk,f.kp.trans g.kp⟩
theorem Fw.tk {d b:Addr} {H H':Hp} (f:Fw d b H H'):TK H H':=Kp.tk f.d0 f.kp
theorem Fw.tup {d b a:Addr} {H H':Hp} {xs:List V} (f:Fw d b H H') (g:H a=some (.tup xs)):H' a=some (.tup xs):=f.tk _ _ g
theorem Fw.get {d b a:Addr} {H H':Hp} {o:HO} (f:Fw d b H H') (g:H a=some o) (n1:a≠d) (n2:a≠b):H' a=some o:=f.kp _ _ g n1 n2
theorem iG {ws:List Str} {r:Int} (h0:0<=r) (h1:r<ws.length):∃(i:Nat) (hi:i<ws.length),r=i/\nD (ws.map V.str) r=some (.str ws[i]):=by
 obtain⟨j,rfl⟩:=Int.eq_ofNat_of_zero_le h0
 have hj:j<ws.length:=by omega
 exact⟨j,hj,rfl,dX (by rw[fS,iJ hj];rfl)⟩
theorem xS {n i r:Nat} (hi:i<n) (hr:r+1<n):(i+1+r) % n<n/\(i+1+r) % n≠i:=by
 refine⟨Nat.mod_lt _ Zo,fun e=>?_⟩
 by_cases h:i+1+r<n
 ·rw[Nat.mod_eq_of_lt h]at e;omega
 ·rw[Nat.mod_eq_sub_mod Zo,Nat.mod_eq_of_lt Zo]at e;omega
theorem Kc {ws:List Str} (h:ws.Nodup) {i j:Nat} (hi:i<ws.length) (hj:j<ws.length) (hn:i≠j):ws[i]≠ws[j]:=by
 have p:=List.pairwise_iff_getElem.mp h
 rcases Nat.lt_or_gt_of_ne hn with z | z
 ·exact p i j hi hj z
 ·exact fun e=>p j i hj hi z e.symm
structure Menu (ws:List Str):Prop where
 of:WordsOf LET 8 ws
 two:2<=ws.length
 six:ws.length<=6
theorem Menu.nm {ws:List Str} (h:Menu ws) {i:Nat} (hi:i<ws.length):eO ws[i]:=h.of.of _ (List.getElem_mem hi)
def iR:Sp:=fun vs H Q _=>∃(d b la lb:Addr) (ws us:List Str),vs=[.ref d,.ref la,.ref lb]/\Dk H d b/\H la=some (.lst (ws.map V.str))/\H lb=some (.lst (us.map V.str))/\(la≠d/\la≠b/\lb≠d/\lb≠b)/\Menu ws/\Menu us ∧
 ∀(t:Addr) (x:Dd) (H':Hp),x.Ok->H' t=some (.tup x.vs)->Fw d b H H'->Q (.ref t) H'
theorem Ik (T:Txt K mg) (cLdraw:aH P w K mg base 1 "_law_draw" ["_law_deck_here","_law_many"] bD) (cLend:aH P w K mg base 2 "_law_end" ["_law_deck_here","_law_many"] bD)
  (D:DefAt K mg "_law_deed" gC ["_law_deck_here","_law_names","_law_houses"]):aH P w K mg base 3 "_law_deed" ["_law_deck_here","_law_names","_law_houses"] iR:=by
 refine D.go bM (fun vs H Q E h=>?_) (fun f cdv A outer s H vs Q E hr h=>?_)
 ·obtain⟨d,b,la,lb,ws,us,rfl,_⟩:=h;rfl
 ·obtain⟨d,b,la,lb,ws,us,rfl,dk,ga,gb,⟨n1,n2,n3,n4⟩,mw,mu,q⟩:=h
  have hLdraw:Room 1 _:=hr.mono Zd
  have hLend:Room 2 _:=hr.mono Zd
  have w2:=mw.two
  have w6:=mw.six
  have u2:=mu.two
  have u6:=mu.six
  refine⟨_,(R.ad (R.ah (i:=3) bM.nd (R.ix (R.ao (K:=K)) (R.au (R.U (R.op R.aq R.aa (R.fn cLdraw hLdraw rfl (R.U (R.v 0) (R.U R.aa R.ac)))) (R.U (R.op R.aq R.aa (R.fn cLend hLend rfl (R.U (R.v 0) (R.U (R.op R.bg R.aa R.aa) R.ac)))) R.ac))) (R.fn cLdraw hLdraw rfl (R.U (R.v 0) (R.U R.aa R.ac))))) (R.ad (R.ah (i:=4) bM.nd (R.fn cLdraw hLdraw rfl (R.U (R.v 0) (R.U (R.aw (R.bc (K:=K)) rfl T.b_len bZ (R.U (R.v 1) R.ac)) R.ac)))) (R.ad (R.ah (i:=5) bM.nd (R.ix (R.ao (K:=K)) (R.v 1) (R.v 4))) (R.ad (R.ah (i:=6) bM.nd (R.ix (R.ao (K:=K)) (R.v 1) (R.op R.bp (R.op R.aq (R.op R.aq (R.v 4) R.aa) (R.fn cLdraw hLdraw rfl (R.U (R.v 0) (R.U (R.op R.cj (R.aw (R.bc (K:=K)) rfl T.b_len bZ (R.U (R.v 1) R.ac)) R.aa) R.ac)))) (R.aw (R.bc (K:=K)) rfl T.b_len bZ (R.U (R.v 1) R.ac))))) (R.ad (R.ah (i:=7) bM.nd (R.fn cLdraw hLdraw rfl (R.U (R.v 0) (R.U (R.aw (R.bc (K:=K)) rfl T.b_len bZ (R.U (R.v 2) R.ac)) R.ac)))) (R.ad (R.ah (i:=8) bM.nd (R.ix (R.ao (K:=K)) (R.v 2) (R.v 7))) (R.ad (R.ah (i:=9) bM.nd (R.ix (R.ao (K:=K)) (R.v 2) (R.op R.bp (R.op R.aq (R.op R.aq (R.v 7) R.aa) (R.fn cLdraw hLdraw rfl (R.U (R.v 0) (R.U (R.op R.cj (R.aw (R.bc (K:=K)) rfl T.b_len bZ (R.U (R.v 2) R.ac)) R.aa) R.ac)))) (R.aw (R.bc (K:=K)) rfl T.b_len bZ (R.U (R.v 2) R.ac))))) (R.ad (R.ah (i:=10) bM.nd (R.au (R.U (R.al (R.U R.ae (R.U (R.v 5) (R.U (R.v 3) R.ac)))) (R.U (R.al (R.U R.ae (R.U (R.v 5) (R.U (R.v 3) R.ac)))) (R.U (R.al (R.U R.ae (R.U (R.v 5) (R.U (R.v 6) (R.U (R.v 3) R.ac))))) R.ac))))) (R.ad (R.ah (i:=10) bM.nd (R.op R.bn (R.v 10) (R.au (R.U (R.al (R.U R.ae (R.U (R.v 8) (R.U (R.v 5) (R.U (R.v 3) R.ac))))) (R.U (R.al (R.U R.ae (R.U (R.v 8) (R.U (R.v 5) (R.U (R.v 3) R.ac))))) (R.U (R.al (R.U R.ae (R.U (R.v 8) (R.U (R.v 9) (R.U (R.v 5) (R.U (R.v 3) R.ac)))))) R.ac)))))) (R.af (R.am (R.ix (R.ao (K:=K)) (R.v 10) (R.fn cLdraw hLdraw rfl (R.U (R.v 0) (R.U R.aa R.ac))))))))))))))),?_⟩
  refine bF (fun σ' H'=>∃n:Nat,σ'=[some (.ref d),some (.ref la),some (.ref lb),some (.int (n:Int)),none,none,none,none,none,none,none]/\1<=n/\n<=1000000000000/\Fw d b H H') (fun nx hnx=>?_) ?_
  ·refine⟨d,b,9,rfl,dk,Zd,Zd,fun r1 H1 a0 a1 D1 k1=>⟨⟨Zd,Zd,Zd⟩,d,b,_,rfl,D1,Zd,Zd,fun r2 H2 b0 b1 D2 k2=>⟨cP rfl,fun p hp=>⟨d,b,2,rfl,D2.new hp,Zd,Zd,fun r3 H3 c0 c1 D3 k3=>?_⟩⟩⟩⟩
   have hpd:=D2.ne hp
   have gp:=k3 p _ aA hpd.1 hpd.2
   have ff:=((((Fw.refl dk).draw D1 k1).draw D2 k2).new hp).draw D3 k3
   have b1':r2<1000000000000:=b1
   rcases(by omega:r3=0∨r3=1) with rfl | rfl
   ·refine⟨_,SqL.of gp,_,rfl,hnx _ _ ⟨(1+r1).toNat,?_,Zo,Zo,ff⟩⟩
    rw[Int.toNat_of_nonneg Zo]
    rfl
   ·refine⟨_,SqL.of gp,_,rfl,hnx _ _ ⟨(1+r2).toNat,?_,Zo,Zo,ff⟩⟩
    rw[Int.toNat_of_nonneg Zo]
    rfl
  ·rintro σ' H1 ⟨n,rfl,hn1,hn2,f1⟩
   have ga1:=f1.get ga n1 n2
   have gb1:=f1.get gb n3 n4
   refine⟨_,.inl (SqL.of ga1),d,b,_,rfl,f1.dk,by rw[aR];omega,by rw[aR];omega,fun r2 H2 b0 b1 D2 k2=>?_⟩
   rw[aR]at b1;have f2:=f1.draw D2 k2
   have ga2:=f2.get ga n1 n2
   obtain⟨i,hi,rfl,ei⟩:=iG b0 b1
   dsimp only [aJ];refine⟨_,SqL.of ga2,_,ei,?_⟩
   dsimp only [aJ];refine⟨_,.inl (SqL.of ga2),d,b,_,rfl,f2.dk,by rw[aR];omega,by rw[aR];omega,fun r3 H3 c0 c1 D3 k3=>?_⟩
   rw[aR]at c1;have f3:=f2.draw D3 k3
   have ga3:=f3.get ga n1 n2
   obtain⟨r3,rfl⟩:∃z:Nat,r3=z:=⟨r3.toNat,Zo⟩
   obtain⟨hj,hji⟩:=xS (r:=r3) hi Zo
   have ej:((i:Int)+1+(r3:Int)) % ((ws.map V.str).length:Int)=(((i+1+r3) % ws.length:Nat):Int):=by
    rw[aR,Int.natCast_emod];rfl
   refine⟨_,.inl (SqL.of ga3),by rw[aR];omega,_,SqL.of ga3,V.str ws[(i+1+r3) % ws.length],?_,?_⟩
   ·rw[ej];exact dX (by rw[fS,iJ hj];rfl)
   have hne:=Kc mw.of.nd hi hj (fun e=>hji e.symm)
   have nmi:=mw.nm hi
   have nmj:=mw.nm hj
   generalize ws[(i+1+r3) % ws.length]=zb at hne nmj;generalize ws[i]=za at hne nmi;dsimp only [aJ];have gb3:=f3.get gb n3 n4
   refine⟨_,.inl (SqL.of gb3),d,b,_,rfl,f3.dk,by rw[aR];omega,by rw[aR];omega,fun r4 H4 d0 d1 D4 k4=>?_⟩
   rw[aR]at d1;have f4:=f3.draw D4 k4
   have gb4:=f4.get gb n3 n4
   obtain⟨u,hu',rfl,eu⟩:=iG d0 d1
   dsimp only [aJ];refine⟨_,SqL.of gb4,_,eu,?_⟩
   dsimp only [aJ];refine⟨_,.inl (SqL.of gb4),d,b,_,rfl,f4.dk,by rw[aR];omega,by rw[aR];omega,fun r5 H5 e0 e1 D5 k5=>?_⟩
   rw[aR]at e1;have f5:=f4.draw D5 k5
   have gb5:=f5.get gb n3 n4
   obtain⟨r5,rfl⟩:∃z:Nat,r5=z:=⟨r5.toNat,Zo⟩
   obtain⟨hv,hvu⟩:=xS (r:=r5) hu' Zo
   have ev:((u:Int)+1+(r5:Int)) % ((us.map V.str).length:Int)=(((u+1+r5) % us.length:Nat):Int):=by
    rw[aR,Int.natCast_emod];rfl
   refine⟨_,.inl (SqL.of gb5),by rw[aR];omega,_,SqL.of gb5,V.str us[(u+1+r5) % us.length],?_,?_⟩
   ·rw[ev];exact dX (by rw[fS,iJ hv];rfl)
   have hne2:=Kc mu.of.nd hu' hv (fun e=>hvu e.symm)
   have nmu:=mu.nm hu'
   have nmv:=mu.nm hv
   generalize us[(u+1+r5) % us.length]=zv at hne2 nmv;generalize us[u]=zu at hne2 nmu;dsimp only [aJ];refine⟨aM rfl,fun t1 H6 s6 g6=>⟨aM rfl,fun t2 H7 s7 g7=>⟨aM rfl,fun t3 H8 s8 g8=>⟨cP rfl,fun p hp=>?_⟩⟩⟩⟩
   have s58:Same H5 H8:=(s6.trans s7).trans s8
   have f8:=f5.same s58
   have h1:=s8 _ _ (s7 _ _ g6)
   have h2:=s8 _ _ g7
   have gp:(aI H8 p (.lst [.ref t1,.ref t2,.ref t3])) p=some (.lst [.ref t1,.ref t2,.ref t3]):=aA
   have sp:=aG (o:=.lst [.ref t1,.ref t2,.ref t3]) hp
   dsimp only [aJ];generalize aI H8 p (.lst [.ref t1,.ref t2,.ref t3])=H9 at gp sp;refine⟨aM rfl,fun t4 Ha sa g4=>⟨aM rfl,fun t5 Hb sb g5=>⟨aM rfl,fun t6 Hc sc g9=>⟨cP rfl,fun p2 hp2=>?_⟩⟩⟩⟩
   have s9c:Same H9 Hc:=(sa.trans sb).trans sc
   have gp2:(aI Hc p2 (.lst [.ref t4,.ref t5,.ref t6])) p2=some (.lst [.ref t4,.ref t5,.ref t6]):=aA
   have sp2:=aG (o:=.lst [.ref t4,.ref t5,.ref t6]) hp2
   generalize aI Hc p2 (.lst [.ref t4,.ref t5,.ref t6])=Hd at gp2 sp2;have s9d:=s9c.trans sp2
   refine⟨_,_,s9d _ _ gp,gp2,cP rfl,fun p3 hp3=>?_⟩
   have fd:=f8.same (sp.trans s9d)
   have hp3d:=fd.dk.ne hp3
   have s8e:Same H8 (aI Hd p3 (.lst ([.ref t1,.ref t2,.ref t3]++[.ref t4,.ref t5,.ref t6]))):=(sp.trans s9d).trans (aG hp3)
   have gt3:(aI Hd p3 (.lst ([.ref t1,.ref t2,.ref t3]++[.ref t4,.ref t5,.ref t6]))) p3=some (.lst [.ref t1,.ref t2,.ref t3,.ref t4,.ref t5,.ref t6]):=aA
   have g4':=(sp2.trans (aG hp3 (o:=.lst ([.ref t1,.ref t2,.ref t3]++[.ref t4,.ref t5,.ref t6])))) _ _ (sc _ _ (sb _ _ g4))
   have g5':=(sp2.trans (aG hp3 (o:=.lst ([.ref t1,.ref t2,.ref t3]++[.ref t4,.ref t5,.ref t6])))) _ _ (sc _ _ g5)
   have g6':=(sp2.trans (aG hp3 (o:=.lst ([.ref t1,.ref t2,.ref t3]++[.ref t4,.ref t5,.ref t6])))) _ _ g9
   have f9:=f8.same s8e
   have h1':=s8e _ _ h1
   have h2':=s8e _ _ h2
   have h3':=s8e _ _ g8
   dsimp only [aJ];generalize aI Hd p3 (.lst ([.ref t1,.ref t2,.ref t3]++[.ref t4,.ref t5,.ref t6]))=He at gt3 g4' g5' g6' f9 h1' h2' h3';refine⟨d,b,6,rfl,f9.dk,Zd,Zd,fun r6 Hf i0 i1 Df kf=>?_⟩
   have ff:=f9.draw Df kf
   have F1:=Fw.draw (.refl f9.dk) Df kf
   have gq:=kf _ _ gt3 hp3d.1 hp3d.2
   rcases six i0 i1 with rfl | rfl | rfl | rfl | rfl | rfl
   ·exact⟨_,SqL.of gq,_,rfl,q _ (.add za n) _ ⟨nmi,hn1,hn2⟩ (F1.tup h1') ff⟩
   ·exact⟨_,SqL.of gq,_,rfl,q _ (.take za n) _ ⟨nmi,hn1,hn2⟩ (F1.tup h2') ff⟩
   ·exact⟨_,SqL.of gq,_,rfl,q _ (.move za zb n) _ ⟨nmi,nmj,hne,hn1,hn2⟩ (F1.tup h3') ff⟩
   ·exact⟨_,SqL.of gq,_,rfl,q _ (.send zu za n) _ ⟨nmu,nmi,hn1,hn2⟩ (F1.tup g4') ff⟩
   ·exact⟨_,SqL.of gq,_,rfl,q _ (.fetch zu za n) _ ⟨nmu,nmi,hn1,hn2⟩ (F1.tup g5') ff⟩
   ·exact⟨_,SqL.of gq,_,rfl,q _ (.pass zu zv za n) _ ⟨nmu,nmv,nmi,hne2,hn1,hn2⟩ (F1.tup g6') ff⟩
end
end KL
namespace KL
open PySem L2
section
variable {P:Program} {w:World} {K:W.Frag} {mg:Str->Option Value} {base:Heap}
def iY:Dd->Bool->List Str
 | .add _ _,_=>["is","full"]
 | .take _ _,_=>["is","short"]
 | .move _ _ _,_=>["is","short","full"]
 | .send _ _ _,true=>["is","no"] | .send _ _ _,false=>["short"]
 | .fetch _ _ _,true=>["is","no"] | .fetch _ _ _,false=>["full"]
 | .pass _ _ _ _,true=>["ok","no"] | .pass _ _ _ _,false=>[]
def jY:Sp:=fun vs H Q _=>∃(t:Addr) (x:Dd) (q:Bool),vs=[.ref t,.bl q]/\H t=some (.tup x.vs)/\∀l H',H l=none->H' l=some (.lst ((iY x q).map V.str))->Same H H'->Q (.ref l) H'
def Ve (v1 v2 v3 v4 v5 v6:V):List (bB × V):=cK (cK (aL [] [(Sum.inr ("add":Str),v1),(Sum.inr ("take":Str),v2),(Sum.inr ("move":Str),v3),(Sum.inr ("pass":Str),v4)]) (Sum.inr ("send":Str)) v5) (Sum.inr ("fetch":Str)) v6
theorem Ol (v1 v2 v3 v4 v5 v6:V) (x:Dd):bN (Ve v1 v2 v3 v4 v5 v6) (Sum.inr x.wd)=some (match x with | .add _ _=>v1 | .take _ _=>v2 | .move _ _ _=>v3 | .pass _ _ _ _=>v4 | .send _ _ _=>v5 | .fetch _ _ _=>v6):=by
 cases x <;> rfl
theorem oE (x:Dd):nD x.vs 0=some (.str x.wd):=by cases x <;> rfl
theorem Om (x:Dd):oW (.str x.wd) [.str "add",.str "take",.str "move"]=!x.far:=by cases x <;> rfl
def gM:Dd->List Str
 | .add _ _=>["is","full"] | .take _ _=>["is","short"] | .move _ _ _=>["is","short","full"] | .send _ _ _=>["is","short","no"] | .fetch _ _ _=>["is","full","no"] | .pass _ _ _ _=>["ok","no"]
theorem oF (x:Dd) (h:x.far=false) (q:Bool):iY x q=gM x:=by cases x <;> first | rfl | cases h
theorem mL (x:Dd) (h:x.far=true) (q:Bool):iY x q=(gM x).filter fun z=>(oW (.str z) [.str "short",.str "full"]) != q:=by cases x <;> cases q <;> first | rfl | cases h
theorem Dw (x:Dd):(gM x).length<=3:=by cases x <;> exact Nat.le_of_ble_eq_true rfl
theorem bU {H:Hp} {p:Addr} {kvs:List (bB × V)} (e:H p=some (.dK kvs)) (kvs':List (bB × V)) {c:Addr} {o:HO} (ec:H c=some o) (ne:∀z,o≠.dK z):(aI H p (.dK kvs')) c=some o:=by
 rw[aE (fun z=>by rw[z,e]at ec;cases ec;exact ne _ rfl)];exact ec
theorem eJ {H H1:Hp} {p:Addr} {o:HO} (hp:H p=none) (s:Same H H1):Same H (aI H1 p o):=fun c u e=>by
 rw[aE (aD e hp)];exact s _ _ e
theorem Dx (T:Txt K mg) (D:DefAt K mg "_law_words" dP ["_law_deed_here","_law_asked"]):aH P w K mg base 1 "_law_words" ["_law_deed_here","_law_asked"] jY:=by
 refine D.go gK (fun vs H Q E h=>?_) (fun f cdv A outer s H vs Q E hr h=>?_)
 ·obtain⟨t,x,q,rfl,_⟩:=h;rfl
 ·obtain⟨t,x,qq,rfl,gt,q⟩:=h
  have hu1:=eY hr
  refine⟨_,(R.ad (R.ah (i:=2) gK.nd (R.iq (R.dz R.ae (R.au (R.U R.ae (R.U R.ae R.ac))) (R.dz R.ae (R.au (R.U R.ae (R.U R.ae R.ac))) (R.dz R.ae (R.au (R.U R.ae (R.U R.ae (R.U R.ae R.ac)))) (R.dz R.ae (R.au (R.U R.ae (R.U R.ae R.ac))) R.ir)))))) (R.ad (R.bq (R.au (R.U R.ae (R.U R.ae (R.U R.ae R.ac)))) (R.br (R.v 2) R.ae (R.cv hu1))) (R.ad (R.bq (R.au (R.U R.ae (R.U R.ae (R.U R.ae R.ac)))) (R.br (R.v 2) R.ae (R.cv hu1))) (R.ad (R.ah (i:=3) gK.nd (R.bt hu1 (R.v 2) (R.ix (R.ag (K:=K)) (R.v 0) R.aa))) (R.ad (R.ar (R.ai (R.bd (K:=K)) (R.ix (R.ag (K:=K)) (R.v 0) R.aa) (R.al (R.U R.ae (R.U R.ae (R.U R.ae R.ac))))) (R.af (R.am (R.v 3))) R.av) (R.af (R.am (R.bb rfl (js:=[none,some 1]) (N:=["_law_word","_law_asked"]) (CompScope.by (aB dP) ["_law_deed_here","_law_asked","_law_words_here","_law_some"] rfl rfl Zk) (aT rfl) (R.ax (K:=K) (R.v 3)) (fun C s₂ H₂ fp=>⟨(R.gn (i:=0) (show(["_law_word","_law_asked"]:List Str).Nodup by decide +kernel)),(R.be (R.ai R.ne (R.cz (R.bd (K:=K)) (R.v 0) (R.al (R.U R.ae (R.U R.ae R.ac)))) (R.v 1))),(R.v 0)⟩))))))))),?_⟩
  refine fun p hp=>?_
  have g0:(aI H p (.dK [])) p=some (.dK []):=aA
  have s0:=aG (o:=.dK []) hp
  generalize aI H p (.dK [])=H0 at g0 s0;refine⟨cP rfl,fun p1 hp1=>⟨cP rfl,fun p2 hp2=>⟨cP rfl,fun p3 hp3=>⟨cP rfl,fun p4 hp4=>?_⟩⟩⟩⟩
  have s1:=aG (o:=.lst [.str "is",.str "full"]) hp1
  have i1:(aI H0 p1 (.lst [.str "is",.str "full"])) p1=_:=aA
  have f1:H p1=none:=s0.free hp1
  generalize aI H0 p1 (.lst [.str "is",.str "full"])=H1 at s1 i1 hp2 hp3 hp4 ⊢;have s2:=aG (o:=.lst [.str "is",.str "short"]) hp2
  have i2:(aI H1 p2 (.lst [.str "is",.str "short"])) p2=_:=aA
  have f2:H p2=none:=(s0.trans s1).free hp2
  generalize aI H1 p2 (.lst [.str "is",.str "short"])=H2 at s2 i2 hp3 hp4 ⊢;have s3:=aG (o:=.lst [.str "is",.str "short",.str "full"]) hp3
  have i3:(aI H2 p3 (.lst [.str "is",.str "short",.str "full"])) p3=_:=aA
  have f3:H p3=none:=((s0.trans s1).trans s2).free hp3
  generalize aI H2 p3 (.lst [.str "is",.str "short",.str "full"])=H3 at s3 i3 hp4 ⊢;have s4:=aG (o:=.lst [.str "ok",.str "no"]) hp4
  have i4:(aI H3 p4 (.lst [.str "ok",.str "no"])) p4=_:=aA
  have f4:H p4=none:=(((s0.trans s1).trans s2).trans s3).free hp4
  generalize aI H3 p4 (.lst [.str "ok",.str "no"])=H4 at s4 i4 ⊢;have S04:Same H0 H4:=((s1.trans s2).trans s3).trans s4
  have g4:=S04 _ _ g0
  refine⟨g4,[(Sum.inr ("add":Str),.ref p1),(Sum.inr ("take":Str),.ref p2),(Sum.inr ("move":Str),.ref p3),(Sum.inr ("pass":Str),.ref p4)],rfl,Nat.le_of_ble_eq_true rfl,?_⟩
  have S4:Same H H4:=s0.trans S04
  replace i1:=s4 _ _ (s3 _ _ (s2 _ _ i1))
  replace i2:=s4 _ _ (s3 _ _ i2)
  replace i3:=s4 _ _ i3
  show oX _ _ _ [some (.ref t),some (.bl qq),some (.ref p),none] (aI H4 p (.dK (aL [] [(Sum.inr ("add":Str),.ref p1),(Sum.inr ("take":Str),.ref p2),(Sum.inr ("move":Str),.ref p3),(Sum.inr ("pass":Str),.ref p4)])))
  generalize hk:aL [] [(Sum.inr ("add":Str),V.ref p1),(Sum.inr ("take":Str),.ref p2),(Sum.inr ("move":Str),.ref p3),(Sum.inr ("pass":Str),.ref p4)]=kv4;have l4:kv4.length=4:=by rw[<- hk];rfl
  have S5:Same H (aI H4 p (.dK kv4)):=eJ hp S4
  have g5:(aI H4 p (.dK kv4)) p=_:=aA
  replace i1:=bU g4 kv4 i1 (fun _ z=>nomatch z)
  replace i2:=bU g4 kv4 i2 (fun _ z=>nomatch z)
  replace i3:=bU g4 kv4 i3 (fun _ z=>nomatch z)
  replace i4:=bU g4 kv4 i4 (fun _ z=>nomatch z)
  generalize aI H4 p (.dK kv4)=H5 at i1 i2 i3 i4 S5 g5 ⊢;refine⟨cP rfl,fun p5 hp5=>⟨p,_,rfl,DPut.k (k:=Sum.inr ("send":Str)) (aN g5 hp5) (kI (m:=100) Zo Zd),?_⟩⟩
  have f5:H p5=none:=S5.free hp5
  have s6:=aG (o:=.lst [.str "is",.str "short",.str "no"]) hp5
  have i5:(aI H5 p5 (.lst [.str "is",.str "short",.str "no"])) p5=_:=aA
  have g6:=s6 _ _ g5
  generalize aI H5 p5 (.lst [.str "is",.str "short",.str "no"])=H6 at s6 i5 g6 ⊢;generalize hk5:cK kv4 (Sum.inr ("send":Str)) (V.ref p5)=kv5;have l5:kv5.length<=5:=by rw[<- hk5];exact hU (cD _ _ _) Zo
  have S7:Same H (aI H6 p (.dK kv5)):=eJ hp (S5.trans s6)
  have g7:(aI H6 p (.dK kv5)) p=_:=aA
  replace i1:=bU g6 kv5 (s6 _ _ i1) (fun _ z=>nomatch z)
  replace i2:=bU g6 kv5 (s6 _ _ i2) (fun _ z=>nomatch z)
  replace i3:=bU g6 kv5 (s6 _ _ i3) (fun _ z=>nomatch z)
  replace i4:=bU g6 kv5 (s6 _ _ i4) (fun _ z=>nomatch z)
  replace i5:=bU g6 kv5 i5 (fun _ z=>nomatch z)
  generalize aI H6 p (.dK kv5)=H7 at i1 i2 i3 i4 i5 S7 g7 ⊢;refine⟨cP rfl,fun p6 hp6=>⟨p,_,rfl,DPut.k (k:=Sum.inr ("fetch":Str)) (aN g7 hp6) (kI (m:=100) Zo Zd),?_⟩⟩
  have f6:H p6=none:=S7.free hp6
  have s8:=aG (o:=.lst [.str "is",.str "full",.str "no"]) hp6
  have i6:(aI H7 p6 (.lst [.str "is",.str "full",.str "no"])) p6=_:=aA
  have g8:=s8 _ _ g7
  generalize aI H7 p6 (.lst [.str "is",.str "full",.str "no"])=H8 at s8 i6 g8 ⊢;generalize hk6:cK kv5 (Sum.inr ("fetch":Str)) (V.ref p6)=kv6';have ek:kv6'=Ve (.ref p1) (.ref p2) (.ref p3) (.ref p4) (.ref p5) (.ref p6):=by rw[<- hk6,<- hk5,<- hk];rfl
  have S9:Same H (aI H8 p (.dK kv6')):=eJ hp (S7.trans s8)
  have g9:(aI H8 p (.dK kv6')) p=_:=aA
  replace i1:=bU g8 kv6' (s8 _ _ i1) (fun _ z=>nomatch z)
  replace i2:=bU g8 kv6' (s8 _ _ i2) (fun _ z=>nomatch z)
  replace i3:=bU g8 kv6' (s8 _ _ i3) (fun _ z=>nomatch z)
  replace i4:=bU g8 kv6' (s8 _ _ i4) (fun _ z=>nomatch z)
  replace i5:=bU g8 kv6' (s8 _ _ i5) (fun _ z=>nomatch z)
  replace i6:=bU g8 kv6' i6 (fun _ z=>nomatch z)
  generalize aI H8 p (.dK kv6')=H9 at i1 i2 i3 i4 i5 i6 S9 g9 ⊢;have key:∃pl:Addr,bN kv6' (Sum.inr x.wd)=some (.ref pl)/\H pl=none/\H9 pl=some (.lst ((gM x).map V.str)):=by
   rw[ek,Ol];cases x with
   | add a n=>exact⟨p1,rfl,f1,i1⟩
   | take a n=>exact⟨p2,rfl,f2,i2⟩
   | move a b n=>exact⟨p3,rfl,f3,i3⟩
   | send a b n=>exact⟨p5,rfl,f5,i5⟩
   | fetch a b n=>exact⟨p6,rfl,f6,i6⟩
   | pass a b c n=>exact⟨p4,rfl,f4,i4⟩
  obtain⟨pl,hv,fl,gl⟩:=key
  have dg:DGet H9 p (.str x.wd) (some (.ref pl)):=by rw[<- hv];exact DGet.k (k:=Sum.inr x.wd) g9
  have gt9:=S9 _ _ gt
  refine⟨_,SqT.of gt9,_,oE x,p,_,rfl,dg,?_⟩
  dsimp only [aJ];refine⟨_,SqT.of gt9,_,oE x,aM rfl,fun tq Ha sa ga=>⟨tq,_,rfl,.inr (SqT.of ga),rfl,rfl,?_⟩⟩
  have Sa:Same H Ha:=S9.trans sa
  show if oW (.str x.wd) [.str "add",.str "take",.str "move"]=true then _ else _
  rw[Om];cases hf:x.far with
  | false=>
   refine Ce rfl ?_
   refine q pl Ha fl ?_ Sa
   rw[oF x hf];exact sa _ _ gl
  | true=>
   refine tK rfl ?_
   have gla:=sa _ _ gl
   refine⟨pl,rfl,⟨_,SqL.of gla⟩,?_⟩
   refine aZ (aS K pl ((gM x).map V.str)) (by have:=Dw x;rw[aR];omega) (fun i ys H'=>ys=(((gM x).take i).filter fun z=>(oW (.str z) [.str "short",.str "full"]) != qq).map V.str/\Same H H'/\H' pl=some (.lst ((gM x).map V.str))) (fun i ys H' ⟨e,_,gl'⟩=>⟨SqL.of gl',by rw[e,aR];exact hU (List.length_filter_le _ _) (by rw[vA];omega)⟩) ⟨rfl,Sa,gla⟩ (fun i y ys H' hy ⟨e,S',gl'⟩=>?_) (fun ys H' ⟨e,S',gl'⟩=>?_)
   ·rw[fS]at hy;cases hz:(gM x)[i]? with
    | none=>rw[hz]at hy;cases hy
    | some z=>
     rw[hz]at hy;cases hy
     have key:=take_succ_filter (fun z=>(oW (.str z) [.str "short",.str "full"]) != qq) (gM x) i z hz
     refine⟨aM rfl,fun tp Hb sb gb=>⟨tp,_,rfl,.inr (SqT.of gb),rfl,rfl,?_⟩⟩
     show if (!decide (oW (.str z) [.str "short",.str "full"]=qq))=true then _ else _
     have eb:(!decide (oW (.str z) [.str "short",.str "full"]=qq))=(oW (.str z) [.str "short",.str "full"] != qq):=by cases oW (.str z) [.str "short",.str "full"] <;> cases qq <;> rfl
     rw[eb];refine bQ (fun h=>⟨?_,S'.trans sb,sb _ _ gl'⟩) (fun h=>⟨?_,S'.trans sb,sb _ _ gl'⟩)
     ·rw[key,if_pos h,dW,e];rfl
     ·rw[key,if_neg (by rw[h];exact Bool.false_ne_true),List.append_nil,e]
   ·intro pn hpn;refine q pn _ (S'.free hpn) ?_ (S'.trans (aG hpn))
    rw[aA,e,aR,jD (bC _),mL x hf]
end
end KL
namespace KL
open PySem L2
section
variable {P:Program} {w:World} {K:W.Frag} {mg:Str->Option Value} {base:Heap}
def lY:An->Str | .is1 _=>"is" | .is2 _ _=>"is" | .short _=>"short" | .full _=>"full" | .no _=>"no" | .ok=>"ok"
def sF:Sp:=fun vs H Q _=>∃(d b t:Addr) (x:Dd) (z:Str),vs=[.ref d,.ref t,.str z]/\Dk H d b/\H t=some (.tup x.vs)/\x.Ok/\z∈gM x ∧
 ∀(c:Addr) (y:An) (H':Hp),An.Of x y->lY y=z->H' c=some (.tup y.vs)->Fw d b H H'->Q (.ref c) H'
theorem Sl (x:Dd):nD x.vs (-1)=some (.int (x.n:Int)):=by cases x <;> rfl
theorem cV {r:Int} (h:0<=r):∃z:Nat,r=z:=⟨r.toNat,Zo⟩
theorem zS (T:Txt K mg) (cLdraw:aH P w K mg base 1 "_law_draw" ["_law_deck_here","_law_many"] bD) (cLend:aH P w K mg base 2 "_law_end" ["_law_deck_here","_law_many"] bD)
  (D:DefAt K mg "_law_answer" eE ["_law_deck_here","_law_deed_here","_law_word"]):aH P w K mg base 3 "_law_answer" ["_law_deck_here","_law_deed_here","_law_word"] sF:=by
 refine D.go dL (fun vs H Q E h=>?_) (fun f cdv A outer s H vs Q E hr h=>?_)
 ·obtain⟨d,b,t,x,z,rfl,_⟩:=h;rfl
 ·obtain⟨d,b,t,x,z,rfl,dk,gt,hx,hz,q⟩:=h
  have hLdraw:Room 1 _:=hr.mono Zd
  have hLend:Room 2 _:=hr.mono Zd
  have hn:=hx.n
  refine⟨_,(R.ad (R.ah (i:=3) dL.nd (R.ix (R.ag (K:=K)) (R.v 1) (R.ay R.aa))) (R.ad (R.ah (i:=4) dL.nd (R.fn cLend hLend rfl (R.U (R.v 0) (R.U (R.op R.aq (R.op R.cj (R.op R.bg R.aa R.aa) (R.v 3)) R.aa) R.ac)))) (R.ad (R.ah (i:=5) dL.nd (R.op R.aq (R.v 3) (R.fn cLend hLend rfl (R.U (R.v 0) (R.U (R.op R.aq (R.op R.cj (R.op R.bg R.aa R.aa) (R.v 3)) R.aa) R.ac))))) (R.ad (R.ar (R.ai R.eq (R.v 2) R.ae) (R.af (R.am (R.al (R.U R.ae (R.U (R.ix (R.ag (K:=K)) (R.v 1) (R.op R.aq R.aa (R.op R.dj (R.fn cLdraw hLdraw rfl (R.U (R.v 0) (R.U R.aa R.ac))) (R.bo R.dm rfl T.b_int kR (R.U (R.cz R.eq (R.ix (R.ag (K:=K)) (R.v 1) R.aa) R.ae) R.ac))))) R.ac))))) R.av) (R.ad (R.ar (R.ai R.eq (R.v 2) R.ae) (R.af (R.am (R.al (R.U R.ae R.ac)))) R.av) (R.ad (R.ar (R.ai R.eq (R.v 2) R.ae) (R.af (R.am (R.al (R.U R.ae (R.U (R.fn cLend hLend rfl (R.U (R.v 0) (R.U (R.v 3) R.ac))) R.ac))))) R.av) (R.ad (R.ar (R.ai R.eq (R.v 2) R.ae) (R.af (R.am (R.al (R.U R.ae (R.U (R.op R.cj (R.op R.bg R.aa R.aa) (R.fn cLend hLend rfl (R.U (R.v 0) (R.U (R.v 3) R.ac)))) R.ac))))) R.av) (R.ad (R.ar (R.ai R.eq (R.ix (R.ag (K:=K)) (R.v 1) R.aa) R.ae) (R.af (R.am (R.al (R.U R.ae (R.U (R.v 4) (R.U (R.v 5) R.ac)))))) R.av) (R.af (R.am (R.al (R.U R.ae (R.U (R.ix (R.ao (K:=K)) (R.au (R.U (R.v 4) (R.U (R.v 5) R.ac))) (R.bo R.dm rfl T.b_int kR (R.U (R.cz (R.bd (K:=K)) (R.ix (R.ag (K:=K)) (R.v 1) R.aa) (R.al (R.U R.ae (R.U R.ae R.ac)))) R.ac))) R.ac))))))))))))),?_⟩
  refine⟨_,SqT.of gt,_,Sl x,?_⟩
  dsimp only [aJ];refine⟨⟨Zd,Zd,Zd⟩,d,b,1000000000000 - (x.n:Int)+1,rfl,dk,Zo,Zo,fun r1 H1 a0 a1 D1 k1=>?_⟩
  dsimp only [aJ];refine⟨⟨Zd,Zd,Zd⟩,d,b,1000000000000 - (x.n:Int)+1,rfl,D1,Zo,Zo,fun r2 H2 b0 b1 D2 k2=>?_⟩
  dsimp only [aJ];have f2:=((Fw.refl dk).draw D1 k1).draw D2 k2
  obtain⟨r1,rfl⟩:=cV a0
  obtain⟨r2,rfl⟩:=cV b0
  have gt2:=f2.tup gt
  have ff:=f2
  dsimp only [uZ,mI];show oX _ _ _ [some (.ref d),some (.ref t),some (.str z),some (.int (x.n:Int)),some (.int (r1:Int)),some (.int ((x.n:Int)+(r2:Int)))] H2
  cases x with
  | add a n=>
   simp only [Dd.n]at hn a1 b1
   simp only [gM,List.mem_cons,List.not_mem_nil,or_false]at hz
   rcases hz with rfl | rfl
   ·refine⟨_,SqT.of gt2,_,rfl,⟨cP rfl,fun p hp=>⟨_,SqT.of (aN gt2 hp),_,rfl,aM rfl,fun tq Ha sa ga=>⟨tq,_,rfl,.inr (SqT.of ga),rfl,rfl,⟨_,SqL.of (sa _ _ aA),_,rfl,aM rfl,fun p' H' s' g'=>?_⟩⟩⟩⟩⟩
    refine q p' (.is1 (n+r2)) H' ⟨Zo,Zo⟩ rfl ?_ (((ff.new hp).same sa).same s')
    rw[g'];show some (HO.tup [V.str "is",.int ((n:Int)+(r2:Int))])=some (HO.tup [V.str "is",.int ((n+r2:Nat):Int)])
    rw[show((n+r2:Nat):Int)=(n:Int)+(r2:Int) by omega]
   ·refine⟨⟨Zd,Zd,Zd⟩,d,b,(n:Int),rfl,ff.dk,Zo,Zo,fun r3 H3 c0 c1 D3 k3=>⟨aM rfl,fun p H' s' g'=>?_⟩⟩
    obtain⟨r3,rfl⟩:=cV c0
    refine q p (.full (1000000000000 - r3)) H' ⟨Zo,Zo⟩ rfl ?_ ((ff.draw D3 k3).same s')
    rw[g'];show some (HO.tup [V.str "full",.int ((1000000000000:Int) - (r3:Int))])=some (HO.tup [V.str "full",.int ((1000000000000 - r3:Nat):Int)])
    rw[show((1000000000000 - r3:Nat):Int)=(1000000000000:Int) - (r3:Int) by omega]
  | take a n=>
   simp only [Dd.n]at hn a1 b1
   simp only [gM,List.mem_cons,List.not_mem_nil,or_false]at hz
   rcases hz with rfl | rfl
   ·refine⟨_,SqT.of gt2,_,rfl,⟨cP rfl,fun p hp=>⟨_,SqT.of (aN gt2 hp),_,rfl,aM rfl,fun tq Ha sa ga=>⟨tq,_,rfl,.inr (SqT.of ga),rfl,rfl,⟨_,SqL.of (sa _ _ aA),_,rfl,aM rfl,fun p' H' s' g'=>?_⟩⟩⟩⟩⟩
    exact q p' (.is1 r1) H' (by show r1+n<=1000000000000;omega) rfl g' (((ff.new hp).same sa).same s')
   ·refine⟨d,b,(n:Int),rfl,ff.dk,Zo,Zo,fun r3 H3 c0 c1 D3 k3=>⟨aM rfl,fun p H' s' g'=>?_⟩⟩
    obtain⟨r3,rfl⟩:=cV c0
    exact q p (.short r3) H' (by show r3<n;omega) rfl g' ((ff.draw D3 k3).same s')
  | move a b' n=>
   simp only [Dd.n]at hn a1 b1
   simp only [gM,List.mem_cons,List.not_mem_nil,or_false]at hz
   rcases hz with rfl | rfl | rfl
   ·refine⟨_,SqT.of gt2,_,rfl,aM rfl,fun p H' s' g'=>?_⟩
    refine q p (.is2 r1 (n+r2)) H' ⟨Zo,Zo,Zo⟩ rfl ?_ (ff.same s')
    rw[g'];show some (HO.tup [V.str "is",.int (r1:Int),.int ((n:Int)+(r2:Int))])=some (HO.tup [V.str "is",.int (r1:Int),.int ((n+r2:Nat):Int)])
    rw[show((n+r2:Nat):Int)=(n:Int)+(r2:Int) by omega]
   ·refine⟨d,b,(n:Int),rfl,ff.dk,Zo,Zo,fun r3 H3 c0 c1 D3 k3=>⟨aM rfl,fun p H' s' g'=>?_⟩⟩
    obtain⟨r3,rfl⟩:=cV c0
    exact q p (.short r3) H' (by show r3<n;omega) rfl g' ((ff.draw D3 k3).same s')
   ·refine⟨⟨Zd,Zd,Zd⟩,d,b,(n:Int),rfl,ff.dk,Zo,Zo,fun r3 H3 c0 c1 D3 k3=>⟨aM rfl,fun p H' s' g'=>?_⟩⟩
    obtain⟨r3,rfl⟩:=cV c0
    refine q p (.full (1000000000000 - r3)) H' ⟨Zo,Zo⟩ rfl ?_ ((ff.draw D3 k3).same s')
    rw[g'];show some (HO.tup [V.str "full",.int ((1000000000000:Int) - (r3:Int))])=some (HO.tup [V.str "full",.int ((1000000000000 - r3:Nat):Int)])
    rw[show((1000000000000 - r3:Nat):Int)=(1000000000000:Int) - (r3:Int) by omega]
  | send h a n=>
   simp only [Dd.n]at hn a1 b1
   simp only [gM,List.mem_cons,List.not_mem_nil,or_false]at hz
   rcases hz with rfl | rfl | rfl
   ·refine⟨_,SqT.of gt2,_,rfl,⟨cP rfl,fun p hp=>⟨_,SqT.of (aN gt2 hp),_,rfl,aM rfl,fun tq Ha sa ga=>⟨tq,_,rfl,.inr (SqT.of ga),rfl,rfl,⟨_,SqL.of (sa _ _ aA),_,rfl,aM rfl,fun p' H' s' g'=>?_⟩⟩⟩⟩⟩
    exact q p' (.is1 r1) H' (by show r1+n<=1000000000000;omega) rfl g' (((ff.new hp).same sa).same s')
   ·refine⟨d,b,(n:Int),rfl,ff.dk,Zo,Zo,fun r3 H3 c0 c1 D3 k3=>⟨aM rfl,fun p H' s' g'=>?_⟩⟩
    obtain⟨r3,rfl⟩:=cV c0
    exact q p (.short r3) H' (by show r3<n;omega) rfl g' ((ff.draw D3 k3).same s')
   ·refine⟨d,b,2,rfl,ff.dk,Zd,Zd,fun r3 H3 c0 c1 D3 k3=>⟨_,SqT.of ((ff.draw D3 k3).tup gt),_,rfl,.inl ⟨Zo,Zo⟩,_,SqT.of ((ff.draw D3 k3).tup gt),.str h,?_,aM rfl,fun p H' s' g'=>?_⟩⟩
    ·show nD _ (1+r3*0)=_
     rw[Int.mul_zero];rfl
    ·exact q p (.no h) H' rfl rfl g' ((ff.draw D3 k3).same s')
  | fetch h a n=>
   simp only [Dd.n]at hn a1 b1
   simp only [gM,List.mem_cons,List.not_mem_nil,or_false]at hz
   rcases hz with rfl | rfl | rfl
   ·refine⟨_,SqT.of gt2,_,rfl,⟨cP rfl,fun p hp=>⟨_,SqT.of (aN gt2 hp),_,rfl,aM rfl,fun tq Ha sa ga=>⟨tq,_,rfl,.inr (SqT.of ga),rfl,rfl,⟨_,SqL.of (sa _ _ aA),_,rfl,aM rfl,fun p' H' s' g'=>?_⟩⟩⟩⟩⟩
    refine q p' (.is1 (n+r2)) H' ⟨Zo,Zo⟩ rfl ?_ (((ff.new hp).same sa).same s')
    rw[g'];show some (HO.tup [V.str "is",.int ((n:Int)+(r2:Int))])=some (HO.tup [V.str "is",.int ((n+r2:Nat):Int)])
    rw[show((n+r2:Nat):Int)=(n:Int)+(r2:Int) by omega]
   ·refine⟨⟨Zd,Zd,Zd⟩,d,b,(n:Int),rfl,ff.dk,Zo,Zo,fun r3 H3 c0 c1 D3 k3=>⟨aM rfl,fun p H' s' g'=>?_⟩⟩
    obtain⟨r3,rfl⟩:=cV c0
    refine q p (.full (1000000000000 - r3)) H' ⟨Zo,Zo⟩ rfl ?_ ((ff.draw D3 k3).same s')
    rw[g'];show some (HO.tup [V.str "full",.int ((1000000000000:Int) - (r3:Int))])=some (HO.tup [V.str "full",.int ((1000000000000 - r3:Nat):Int)])
    rw[show((1000000000000 - r3:Nat):Int)=(1000000000000:Int) - (r3:Int) by omega]
   ·refine⟨d,b,2,rfl,ff.dk,Zd,Zd,fun r3 H3 c0 c1 D3 k3=>⟨_,SqT.of ((ff.draw D3 k3).tup gt),_,rfl,.inl ⟨Zo,Zo⟩,_,SqT.of ((ff.draw D3 k3).tup gt),.str h,?_,aM rfl,fun p H' s' g'=>?_⟩⟩
    ·show nD _ (1+r3*0)=_
     rw[Int.mul_zero];rfl
    ·exact q p (.no h) H' rfl rfl g' ((ff.draw D3 k3).same s')
  | pass h g a n=>
   simp only [Dd.n]at hn a1 b1
   simp only [gM,List.mem_cons,List.not_mem_nil,or_false]at hz
   rcases hz with rfl | rfl
   ·refine⟨aM rfl,fun p H' s' g'=>?_⟩
    exact q p .ok H' trivial rfl g' (ff.same s')
   ·refine⟨d,b,2,rfl,ff.dk,Zd,Zd,fun r3 H3 c0 c1 D3 k3=>?_⟩
    rcases(by omega:r3=0∨r3=1) with rfl | rfl
    ·refine⟨_,SqT.of ((ff.draw D3 k3).tup gt),_,rfl,.inl ⟨Zo,Zo⟩,_,SqT.of ((ff.draw D3 k3).tup gt),.str h,rfl,aM rfl,fun p H' s' g'=>?_⟩
     exact q p (.no h) H' (.inl rfl) rfl g' ((ff.draw D3 k3).same s')
    ·refine⟨_,SqT.of ((ff.draw D3 k3).tup gt),_,rfl,.inl ⟨Zo,Zo⟩,_,SqT.of ((ff.draw D3 k3).tup gt),.str g,rfl,aM rfl,fun p H' s' g'=>?_⟩
     exact q p (.no g) H' (.inr rfl) rfl g' ((ff.draw D3 k3).same s')
end
end KL
namespace KL
open PySem L2
section
variable {P:Program} {w:World} {K:W.Frag} {mg:Str->Option Value} {base:Heap}
structure MenusAt (H:Hp) (lm:Addr) (M:List Addr):Prop where
 ex:∃(a0 a1 a2 a3:Addr) (ws us ps ks:List Str),M=[lm,a0,a1,a2,a3]/\H lm=some (.lst [.ref a0,.ref a1,.ref a2,.ref a3])/\H a0=some (.lst (ws.map V.str))/\H a1=some (.lst (us.map V.str))/\H a2=some (.lst (ps.map V.str))/\H a3=some (.lst (ks.map V.str)) ∧
  Menu ws/\Menu us/\(1<=ps.length/\ps.length<=6/\∀z∈ps,eO z)/\1<=ks.length/\ks.length<=6/\∀z∈ks,rY z
theorem MenusAt.keep {H H':Hp} {lm:Addr} {M:List Addr} (h:MenusAt H lm M) (k:∀c∈M,∀o,H c=some o->H' c=some o):MenusAt H' lm M:=by
 obtain⟨a0,a1,a2,a3,ws,us,ps,ks,rfl,h0,h1,h2,h3,h4,r⟩:=h.ex
 exact⟨a0,a1,a2,a3,ws,us,ps,ks,rfl,k _ Zs _ h0,k _ Zs _ h1,k _ Zs _ h2,k _ Zs _ h3,k _ Zs _ h4,r⟩
theorem Fw.menus {d b:Addr} {H H':Hp} {lm:Addr} {M:List Addr} (f:Fw d b H H') (h1:d∉M) (h2:b∉M) (h:MenusAt H lm M):MenusAt H' lm M:=h.keep fun c hc o e=>f.get e (fun z=>h1 (z ▸ hc)) (fun z=>h2 (z ▸ hc))
theorem Fw.put {d b a:Addr} {H H':Hp} {o:HO} (f:Fw d b H H') (hn:H a=none):Fw d b H (aI H' a o):=by
 have hd:=f.d0.ne hn
 refine⟨f.d0,?_,fun c u e n1 n2=>?_⟩
 ·obtain⟨ns,s,k,h1,h2,h3⟩:=f.dk.ex
  exact⟨ns,s,k,by rw[aE (fun z=>hd.1 z.symm)];exact h1,by rw[aE (fun z=>hd.2 z.symm)];exact h2,h3⟩
 ·rw[aE (aD e hn)];exact f.kp _ _ e n1 n2
def iU:Sp:=fun vs H Q _=>∃(d b lm:Addr) (M:List Addr),vs=[.ref d,.ref lm]/\Dk H d b/\MenusAt H lm M/\d∉M/\b∉M/\∀(t:Addr) (p k:Str) (H':Hp),eO p->rY k->H' t=some (.tup [.str p,.str k])->Fw d b H H'->Q (.ref t) H'
theorem Il (T:Txt K mg) (cLdraw:aH P w K mg base 1 "_law_draw" ["_law_deck_here","_law_many"] bD)
  (D:DefAt K mg "_law_spot" gE ["_law_deck_here","_law_menus_here"]):aH P w K mg base 2 "_law_spot" ["_law_deck_here","_law_menus_here"] iU:=by
 refine D.go tY (fun vs H Q E h=>?_) (fun f cdv A outer s H vs Q E hr h=>?_)
 ·obtain⟨d,b,lm,M,rfl,_⟩:=h;rfl
 ·obtain⟨d,b,lm,M,rfl,dk,hM,hd,hb,q⟩:=h
  have hLdraw:=hr
  obtain⟨a0,a1,a2,a3,ws,us,ps,ks,rfl,h0,h1,h2,h3,h4,mw,mu,⟨p1,p6,pn⟩,k1,k6,kn⟩:=hM.ex
  have nd:∀c∈[lm,a0,a1,a2,a3],c≠d/\c≠b:=fun c hc=>⟨fun z=>hd (z ▸ hc),fun z=>hb (z ▸ hc)⟩
  refine⟨_,(R.af (R.am (R.al (R.U (R.ix (R.ao (K:=K)) (R.ix (R.ao (K:=K)) (R.v 1) R.aa) (R.fn cLdraw hLdraw rfl (R.U (R.v 0) (R.U (R.aw (R.bc (K:=K)) rfl T.b_len bZ (R.U (R.ix (R.ao (K:=K)) (R.v 1) R.aa) R.ac)) R.ac)))) (R.U (R.ix (R.ao (K:=K)) (R.ix (R.ao (K:=K)) (R.v 1) R.aa) (R.fn cLdraw hLdraw rfl (R.U (R.v 0) (R.U (R.aw (R.bc (K:=K)) rfl T.b_len bZ (R.U (R.ix (R.ao (K:=K)) (R.v 1) R.aa) R.ac)) R.ac)))) R.ac))))),?_⟩
  refine⟨_,SqL.of h0,_,rfl,_,SqL.of h0,_,rfl,_,.inl (SqL.of h3),d,b,(ps.length:Int),by rw[aR],dk,Zo,Zo,fun r1 H1 x0 x1 D1 e1=>?_⟩
  have f1:=(Fw.refl dk).draw D1 e1
  have ge:∀c∈[lm,a0,a1,a2,a3],∀o,H c=some o->H1 c=some o:=fun c hc o e=>f1.get e (nd c hc).1 (nd c hc).2
  obtain⟨i,hi,rfl,ei⟩:=iG x0 x1
  refine⟨_,SqL.of (ge a2 Zs _ h3),_,ei,?_⟩
  refine⟨_,SqL.of (ge lm Zs _ h0),_,rfl,_,SqL.of (ge lm Zs _ h0),_,rfl,_,.inl (SqL.of (ge a3 Zs _ h4)),d,b,(ks.length:Int),by rw[aR],D1,Zo,Zo,fun r2 H2 y0 y1 D2 e2=>?_⟩
  have f2:=f1.draw D2 e2
  obtain⟨j,hj,rfl,ej⟩:=iG y0 y1
  refine⟨_,SqL.of (f2.get h4 (nd a3 Zs).1 (nd a3 Zs).2),_,ej,aM rfl,fun t H' s' g'=>?_⟩
  exact q t _ _ H' (pn _ (List.getElem_mem hi)) (kn _ (List.getElem_mem hj)) g' (f2.same s')
def xT:Sp:=fun vs H Q _=>∃(d b lm:Addr) (M:List Addr) (n t:Nat),vs=[.ref d,.ref lm,.int (n:Int),.int (t:Int)]/\Dk H d b/\MenusAt H lm M/\d∉M/\b∉M ∧
 ∀(a:Addr) (p k:Str) (x:Dd) (y:An) (H':Hp),eO p->rY k->x.Ok->An.Of x y->RX.At H' a (.kept n t p k x y)->Fw d b H H'->Q (.ref a) H'
theorem xU (x:Dd) (q:Bool):∀z∈iY x q,z∈gM x:=by
 cases hf:x.far with
 | false=>rw[oF x hf];exact fun z h=>h
 | true=>rw[mL x hf];exact fun z h=>(List.mem_filter.mp h).1
theorem uA (x:Dd):1<=(iY x true++iY x false).length/\(iY x true++iY x false).length<=6:=by cases x <;> exact⟨Nat.le_of_ble_eq_true rfl,Nat.le_of_ble_eq_true rfl⟩
theorem Im (T:Txt K mg) (cLdraw:aH P w K mg base 1 "_law_draw" ["_law_deck_here","_law_many"] bD) (cLdeed:aH P w K mg base 3 "_law_deed" ["_law_deck_here","_law_names","_law_houses"] iR)
  (cLwords:aH P w K mg base 1 "_law_words" ["_law_deed_here","_law_asked"] jY) (cLanswer:aH P w K mg base 3 "_law_answer" ["_law_deck_here","_law_deed_here","_law_word"] sF) (cLspot:aH P w K mg base 2 "_law_spot" ["_law_deck_here","_law_menus_here"] iU)
  (D:DefAt K mg "_law_kept" gG ["_law_deck_here","_law_menus_here","_law_number","_law_turn"]):aH P w K mg base 4 "_law_kept" ["_law_deck_here","_law_menus_here","_law_number","_law_turn"] xT:=by
 refine D.go fG (fun vs H Q E h=>?_) (fun f cdv A outer s H vs Q E hr h=>?_)
 ·obtain⟨d,b,lm,M,n,t,rfl,_⟩:=h;rfl
 ·obtain⟨d,b,lm,M,n,t,rfl,dk,hM,hd,hb,q⟩:=h
  have hLdraw:Room 1 _:=hr.mono Zd
  have hLdeed:Room 3 _:=hr.mono Zd
  have hLwords:Room 1 _:=hr.mono Zd
  have hLanswer:Room 3 _:=hr.mono Zd
  have hLspot:Room 2 _:=hr.mono Zd
  have hM':=hM
  obtain⟨a0,a1,a2,a3,ws,us,ps,ks,rfl,h0,h1,h2,h3,h4,mw,mu,⟨p1,p6,pn⟩,k1,k6,kn⟩:=hM.ex
  have nd:∀c∈[lm,a0,a1,a2,a3],c≠d/\c≠b:=fun c hc=>⟨fun z=>hd (z ▸ hc),fun z=>hb (z ▸ hc)⟩
  refine⟨_,(R.ad (R.ah (i:=4) fG.nd (R.fn cLdeed hLdeed rfl (R.U (R.v 0) (R.U (R.ix (R.ao (K:=K)) (R.v 1) R.aa) (R.U (R.ix (R.ao (K:=K)) (R.v 1) R.aa) R.ac))))) (R.ad (R.ah (i:=5) fG.nd (R.op R.bn (R.fn cLwords hLwords rfl (R.U (R.v 4) (R.U R.bl R.ac))) (R.fn cLwords hLwords rfl (R.U (R.v 4) (R.U R.bl R.ac))))) (R.ad (R.ah (i:=6) fG.nd (R.fn cLanswer hLanswer rfl (R.U (R.v 0) (R.U (R.v 4) (R.U (R.ix (R.ao (K:=K)) (R.v 5) (R.fn cLdraw hLdraw rfl (R.U (R.v 0) (R.U (R.aw (R.bc (K:=K)) rfl T.b_len bZ (R.U (R.v 5) R.ac)) R.ac)))) R.ac))))) (R.af (R.am (R.op R.bu (R.op R.bu (R.al (R.U R.ae (R.U (R.v 2) (R.U (R.v 3) R.ac)))) (R.fn cLspot hLspot rfl (R.U (R.v 0) (R.U (R.v 1) R.ac)))) (R.al (R.U (R.v 4) (R.U (R.v 6) R.ac))))))))),?_⟩
  refine⟨_,SqL.of h0,_,rfl,_,SqL.of h0,_,rfl,d,b,a0,a1,ws,us,rfl,dk,h1,h2,⟨(nd a0 Zs).1,(nd a0 Zs).2,(nd a1 Zs).1,(nd a1 Zs).2⟩,mw,mu,fun td x H1 hx gx f1=>?_⟩
  dsimp only [aJ];refine⟨td,x,true,rfl,gx,fun l1 H2 n1 g1 s1=>⟨td,x,false,rfl,s1 _ _ gx,fun l2 H3 n2 g2 s2=>⟨_,_,s2 _ _ g1,g2,?_,fun l3 hl3=>?_⟩⟩⟩
  ·have:=uA x
   rw[pN]at this;rw[aR,aR];exact fO Zo
  have s13:Same H1 (aI H3 l3 (.lst ((iY x true).map V.str++(iY x false).map V.str))):=(s1.trans s2).trans (aG hl3)
  have g3:(aI H3 l3 (.lst ((iY x true).map V.str++(iY x false).map V.str))) l3=some (.lst ((iY x true++iY x false).map V.str)):=by rw[aA,dW]
  have f3:=f1.same s13
  have l3d:=(f1.same (s1.trans s2)).dk.ne hl3
  have gx3:=s13 _ _ gx
  dsimp only [aJ];generalize aI H3 l3 (.lst ((iY x true).map V.str++(iY x false).map V.str))=H4 at g3 f3 gx3;have w6:=uA x
  refine⟨_,.inl (SqL.of g3),d,b,((iY x true++iY x false).length:Int),by rw[aR],f3.dk,Zo,Zo,fun r H5 r0 r1 D5 e5=>?_⟩
  have f5:=f3.draw D5 e5
  have F5:=(Fw.refl f3.dk).draw D5 e5
  obtain⟨i,hi,rfl,ei⟩:=iG r0 r1
  have hz:(iY x true++iY x false)[i]∈gM x:=by
   rcases Zma.mp (List.getElem_mem hi) with h | h
   ·exact xU x _ _ h
   ·exact xU x _ _ h
  refine⟨_,SqL.of (F5.get g3 l3d.1 l3d.2),_,ei,d,b,td,x,_,rfl,D5,F5.tup gx3,hx,hz,fun c y H6 hy _ gy f6=>?_⟩
  have f06:=f5.trans f6
  dsimp only [aJ];refine⟨aM rfl,fun t1 H7 s7 g7=>?_⟩
  have f07:=f06.same s7
  refine⟨d,b,lm,_,rfl,f07.dk,f07.menus hd hb hM',hd,hb,fun t2 p k H8 hp hk g8 f8=>?_⟩
  refine⟨_,_,f8.tup g7,g8,Nat.le_of_ble_eq_true rfl,fun t3 H9 s9 g9=>⟨aM rfl,fun t4 Ha sa ga=>⟨_,_,sa _ _ g9,ga,Nat.le_of_ble_eq_true rfl,fun t5 Hb sb gb=>?_⟩⟩⟩
  have tkb:TK H7 Hb:=f8.tk.trans (((Same.tk s9).trans (Same.tk sa)).trans (Same.tk sb))
  refine q t5 p k x y Hb hp hk hx hy ⟨td,c,gb,?_,?_⟩ (((((f07.trans f8).same s9).same sa).same sb))
  ·exact tkb _ _ (s7 _ _ (f6.tup (F5.tup gx3)))
  ·exact tkb _ _ (s7 _ _ gy)
end
end KL
namespace KL
open PySem L2
section
variable {P:Program} {w:World} {K:W.Frag} {mg:Str->Option Value} {base:Heap}
theorem Fw.free {d b a:Addr} {H H':Hp} (f:Fw d b H H') (h:H' a=none):H a=none:=by
 have hd:=f.dk.ne h
 cases e:H a with
 | none=>rfl
 | some o=>rw[f.kp _ _ e hd.1 hd.2]at h;cases h
structure lA (rs:List RX):Prop where
 wh:RX.Whole rs
 ok:∀r∈rs,r.Ok
 rk:∀r∈rs,r.rank<=2
 len:rs.length<=13
 nx:∀n t,.next n t∈rs->n<=900006/\t<500000000000
structure Hd1 (n t:Nat) (zs:List Str) (rs:List RX):Prop where
 wh:RX.Whole rs
 ok:∀r∈rs,r.Ok
 nx:∀n' t',.next n' t'∈rs->n'=n/\t'=t
 one:.next n t∈rs
 rk:∀r∈rs,r.rank<=1
 hs:∀z m,.has z m∈rs->z∈zs
theorem aF {α:Type} {xs:List α} {x y:α} (h:y∈xs++[x]):y∈xs∨y=x:=by
 rcases Zma.mp h with h | h
 ·exact .inl h
 ·exact .inr (Zms.mp h)
theorem Hd1.skip {n t:Nat} {zs:List Str} {rs:List RX} (h:Hd1 n t zs rs) (z:Str):Hd1 n t (zs++[z]) rs:=⟨h.wh,h.ok,h.nx,h.one,h.rk,fun y m q=>List.mem_append_left _ (h.hs y m q)⟩
theorem Hd1.step {n t:Nat} {zs:List Str} {rs:List RX} (h:Hd1 n t zs rs) {z:Str} {m:Nat} (hz:∀y∈zs,y.cps.toList<z.cps.toList) (hn:eO z) (h1:1<=m) (h2:m<=1000000000000):Hd1 n t (zs++[z]) (rs++[.has z m]):=by
 refine⟨h.wh.snoc ⟨h.rk,⟨n,t,h.one⟩,fun z' m' q=>hz z' (h.hs _ _ q)⟩,fun r hr=>?_,fun n' t' hr=>?_,List.mem_append_left _ h.one,fun r hr=>?_,fun z' m' hr=>?_⟩
 ·rcases aF hr with hr | rfl
  ·exact h.ok r hr
  ·exact⟨hn,h1,h2⟩
 ·rcases aF hr with hr | hr
  ·exact h.nx _ _ hr
  ·cases hr
 ·rcases aF hr with hr | rfl
  ·exact h.rk r hr
  ·exact bC _
 ·rcases aF hr with hr | hr
  ·exact List.mem_append_left _ (h.hs _ _ hr)
  ·cases hr;exact List.mem_append_right _ iW
structure Hd2 (n t last:Nat) (rs:List RX):Prop where
 wh:RX.Whole rs
 ok:∀r∈rs,r.Ok
 nx:∀n' t',.next n' t'∈rs->n'=n/\t'=t
 one:.next n t∈rs
 rk:∀r∈rs,r.rank<=2
 kp:∀n' t' p k x y,.kept n' t' p k x y∈rs->n'<=last
theorem Hd2.more {n t last last':Nat} {rs:List RX} (h:Hd2 n t last rs) (hl:last<=last'):Hd2 n t last' rs:=⟨h.wh,h.ok,h.nx,h.one,h.rk,fun n' t' p k x y q=>hU (h.kp n' t' p k x y q) hl⟩
theorem Hd2.step {n t last m u:Nat} {rs:List RX} (h:Hd2 n t last rs) {p k:Str} {x:Dd} {y:An} (hm:last<m) (hmn:m<n) (hn:n<=900006) (hu:u<=t) (ht:t<=1000000000000) (hp:eO p) (hk:rY k) (hx:x.Ok) (hy:An.Of x y):Hd2 n t m (rs++[.kept m u p k x y]):=by
 refine⟨h.wh.snoc ⟨h.rk,⟨n,t,h.one,hmn,hu⟩,fun n' t' p' k' d' y' q=>kI (h.kp _ _ _ _ _ _ q) hm,hy⟩,fun r hr=>?_,fun n' t' hr=>?_,List.mem_append_left _ h.one,fun r hr=>?_,fun n' t' p' k' x' y' hr=>?_⟩
 ·rcases aF hr with hr | rfl
  ·exact h.ok r hr
  ·exact⟨Zo,Zo,Zo,hp,hk,hx,hy⟩
 ·rcases aF hr with hr | hr
  ·exact h.nx _ _ hr
  ·cases hr
 ·rcases aF hr with hr | rfl
  ·exact h.rk r hr
  ·exact bC _
 ·rcases aF hr with hr | hr
  ·exact Nat.le_of_lt (kI (h.kp _ _ _ _ _ _ hr) hm)
  ·cases hr;exact bC _
theorem Sm {zs:List Str} (hs:zs.Pairwise fun a b=>a.cps.toList<=b.cps.toList) (hn:zs.Nodup) {i:Nat} {z:Str} (h:zs[i]?=some z):∀y∈zs.take i,y.cps.toList<z.cps.toList:=by
 intro y hy;obtain⟨hi,ei⟩:=Zgs.mp h
 obtain⟨j,hj,ej⟩:=List.getElem_of_mem hy
 rw[vA]at hj;rw[List.getElem_take]at ej;have h1:=(List.pairwise_iff_getElem.mp hs) j i Zo hi Zo
 have h2:=(List.pairwise_iff_getElem.mp hn) j i Zo hi Zo
 rw[ej,ei]at h1 h2;rcases List.le_iff_lt_or_eq.mp h1 with h3 | h3
 ·exact h3
 ·exact absurd (by rw[nN y,nN z,h3]) h2
def mM:Sp:=fun vs H Q _=>∃(d b lm:Addr) (M:List Addr),vs=[.ref d,.ref lm]/\Dk H d b/\MenusAt H lm M/\d∉M/\b∉M ∧
 ∀(ra:Addr) (rs:List RX) (as:List Addr) (H':Hp),H ra=none->RxsAt H' ra rs as->lA rs->Fw d b H H'->Q (.ref ra) H'
theorem Io (T:Txt K mg) (cLdraw:aH P w K mg base 1 "_law_draw" ["_law_deck_here","_law_many"] bD) (cLend:aH P w K mg base 2 "_law_end" ["_law_deck_here","_law_many"] bD)
  (cLkept:aH P w K mg base 4 "_law_kept" ["_law_deck_here","_law_menus_here","_law_number","_law_turn"] xT)
  (D:DefAt K mg "_law_head" gH ["_law_deck_here","_law_menus_here"]):aH P w K mg base 5 "_law_head" ["_law_deck_here","_law_menus_here"] mM:=by
 refine D.go bS (fun vs H Q E h=>?_) (fun f cdv A outer s H vs Q E hr h=>?_)
 ·obtain⟨d,b,lm,M,rfl,_⟩:=h;rfl
 ·obtain⟨d,b,lm,M,rfl,dk,hM,hd,hb,q⟩:=h
  have hLdraw:Room 1 _:=hr.mono Zd
  have hLend:Room 2 _:=hr.mono Zd
  have hLkept:Room 4 _:=hr.mono Zd
  refine⟨_,(R.ad (R.ah (i:=2) bS.nd (R.ix (R.ao (K:=K)) (R.au (R.U (R.op R.aq R.aa (R.fn cLdraw hLdraw rfl (R.U (R.v 0) (R.U R.aa R.ac)))) (R.U (R.op R.aq R.aa (R.fn cLdraw hLdraw rfl (R.U (R.v 0) (R.U R.aa R.ac)))) R.ac))) (R.fn cLdraw hLdraw rfl (R.U (R.v 0) (R.U R.aa R.ac))))) (R.ad (R.ah (i:=3) bS.nd (R.fn cLend hLend rfl (R.U (R.v 0) (R.U (R.op R.dj R.aa (R.op R.bg R.aa R.aa)) R.ac)))) (R.ad (R.ah (i:=4) bS.nd (R.au (R.U (R.al (R.U R.ae (R.U (R.v 2) (R.U (R.v 3) R.ac)))) R.ac))) (R.ad (R.bh PassesOwn.never rfl (R.ax (K:=K) (R.aw (R.fq (K:=K)) rfl T.b_sorted kP (R.U (R.ix (R.ao (K:=K)) (R.v 1) R.aa) R.ac))) (R.gn (i:=5) bS.nd) (R.af (R.ar (R.ai R.gt (R.fn cLdraw hLdraw rfl (R.U (R.v 0) (R.U R.aa R.ac))) R.aa) (R.af (R.az (R.ba (K:=K) PySem.F.plainAttrs_list PySem.F.slot_list_append PySem.F.type_list_append R.bi (R.v 4) (R.U (R.al (R.U R.ae (R.U (R.v 5) (R.U (R.op R.aq R.aa (R.fn cLend hLend rfl (R.U (R.v 0) (R.U (R.op R.bg R.aa R.aa) R.ac)))) R.ac)))) R.ac)))) R.av))) (R.ad (R.ah (i:=6) bS.nd R.aa) (R.ad (R.bh PassesOwn.never rfl (R.de rfl T.b_range (R.U (R.fn cLdraw hLdraw rfl (R.U (R.v 0) (R.U R.aa R.ac))) R.ac)) (R.gn (i:=7) bS.nd) (R.ad (R.ah (i:=6) bS.nd (R.op R.aq (R.op R.aq (R.v 6) R.aa) (R.ix (R.ao (K:=K)) (R.au (R.U R.aa (R.U R.aa (R.U (R.fn cLdraw hLdraw rfl (R.U (R.v 0) (R.U R.aa R.ac))) R.ac)))) (R.fn cLdraw hLdraw rfl (R.U (R.v 0) (R.U R.aa R.ac)))))) (R.af (R.ar (R.ai R.lt (R.v 6) (R.v 2)) (R.af (R.az (R.ba (K:=K) PySem.F.plainAttrs_list PySem.F.slot_list_append PySem.F.type_list_append R.bi (R.v 4) (R.U (R.fn cLkept hLkept rfl (R.U (R.v 0) (R.U (R.v 1) (R.U (R.v 6) (R.U (R.fn cLend hLend rfl (R.U (R.v 0) (R.U (R.op R.aq (R.v 3) R.aa) R.ac))) R.ac))))) R.ac)))) R.av)))) (R.af (R.am (R.v 4))))))))),?_⟩
  refine bF (fun σ' H'=>∃n:Nat,σ'=[some (.ref d),some (.ref lm),some (.int (n:Int)),none,none,none,none,none]/\1<=n/\n<=900006/\Fw d b H H') (fun nx hnx=>?_) ?_
  ·refine⟨d,b,12,rfl,dk,Zd,Zd,fun r1 H1 a0 a1 D1 k1=>⟨d,b,900000,rfl,D1,Zd,Zd,fun r2 H2 b0 b1 D2 k2=>⟨cP rfl,fun p hp=>⟨d,b,2,rfl,D2.new hp,Zd,Zd,fun r3 H3 c0 c1 D3 k3=>?_⟩⟩⟩⟩
   have hpd:=D2.ne hp
   have gp:=k3 p _ aA hpd.1 hpd.2
   have ff:=((((Fw.refl dk).draw D1 k1).draw D2 k2).new hp).draw D3 k3
   rcases(by omega:r3=0∨r3=1) with rfl | rfl
   ·refine⟨_,SqL.of gp,_,rfl,hnx _ _ ⟨(1+r1).toNat,?_,Zo,Zo,ff⟩⟩
    rw[Int.toNat_of_nonneg Zo]
    rfl
   ·refine⟨_,SqL.of gp,_,rfl,hnx _ _ ⟨(7+r2).toNat,?_,Zo,Zo,ff⟩⟩
    rw[Int.toNat_of_nonneg Zo]
    rfl
  ·rintro σ' H1 ⟨n,rfl,hn1,hn2,f1⟩
   refine⟨⟨Zd,Zd,Zd⟩,.inl ⟨Zd,Zd⟩,d,b,500000000000,rfl,f1.dk,Zd,Zd,fun t H2 t0 t1 D2 k2=>?_⟩
   obtain⟨t,rfl⟩:=cV t0
   have f2:=f1.draw D2 k2
   dsimp only [aJ];refine⟨aM rfl,fun a1 H3 s3 g3=>⟨cP rfl,fun ra hra=>?_⟩⟩
   have f3:=f2.same s3
   have fra:=f3.free hra
   have f4:=f3.new (o:=.lst [.ref a1]) hra
   have R4:RxsAt (aI H3 ra (.lst [.ref a1])) ra [.next n t] [a1]:=⟨aA,.cons (aN g3 hra) .nil⟩
   dsimp only [aJ];generalize aI H3 ra (.lst [.ref a1])=H4 at f4 R4;have hM4:=f4.menus hd hb hM
   have hM':=hM4
   obtain⟨a0,a1',a2,a3,ws,us,ps,ks,rfl,h0,h1,h2,h3,h4,mw,mu,⟨p1,p6,pn⟩,k1,k6,kn⟩:=hM4.ex
   refine bF (fun σ' H'=>∃(rs:List RX) (as:List Addr) (o5:Option V),σ'=[some (.ref d),some (.ref lm),some (.int (n:Int)),some (.int (t:Int)),some (.ref ra),o5,none,none]/\RxsAt H' ra rs as/\Fw d b H H'/\rs.length<=7/\Hd1 n t (gX ws) rs) (fun nx hnx=>?_) ?_
   ·refine⟨_,SqL.of h0,_,rfl,ws,.inl (SqL.of h1),by have:=mw.six;omega,fun ls hls=>⟨ls,rfl,⟨_,SqL.of aA⟩,?_⟩⟩
    have hlr:ls≠ra:=(aD R4.lst hls).symm
    have f5:=f4.new (o:=.lst ((gX ws).map V.str)) hls
    have R5:=R4.same (aG (o:=.lst ((gX ws).map V.str)) hls)
    have hld:=f4.dk.ne hls
    have w6:=mw.six
    have fls:=f4.free hls
    refine cA (aS K ls ((gX ws).map V.str)) (fun i σ' H'=>∃(rs:List RX) (as:List Addr) (o5:Option V),σ'=[some (.ref d),some (.ref lm),some (.int (n:Int)),some (.int (t:Int)),some (.ref ra),o5,none,none]/\RxsAt H' ra rs as/\Fw d b H H'/\H' ls=some (.lst ((gX ws).map V.str))/\rs.length<=1+i/\Hd1 n t ((gX ws).take i) rs) (fun i σ' H' ⟨_,_,_,_,_,_,e,_⟩=>SqL.of e)
     ⟨[.next n t],[a1],_,rfl,R5,f5,aA,bC _,?_⟩ ?_ ?_
    ·refine⟨RX.Whole.snoc .nil rfl,fun r hr=>?_,fun n' t' hr=>?_,iW,fun r hr=>?_,fun z m hr=>?_⟩
     ·rw[Zms.mp hr];exact⟨hn1,Zo,Zo⟩
     ·cases Zms.mp hr;exact⟨rfl,rfl⟩
     ·rw[Zms.mp hr];exact Nat.zero_le _
     ·cases Zms.mp hr
    ·rintro i x σ' H6 hx ⟨rs,as,o5,rfl,R6,f6,g6,l6,hd6⟩
     rw[fS]at hx;cases hz:(gX ws)[i]? with
     | none=>rw[hz]at hx;cases hx
     | some z=>
      rw[hz]at hx;cases hx
      have hi:i<(gX ws).length:=(Zgs.mp hz).1
      rw[fX]at hi;have hzm:z∈ws:=(fQ ws).mem_iff.mp (fT hz)
      have hrise:=Sm (nP ws) ((fQ ws).nodup_iff.mpr mw.of.nd) hz
      have etk:(gX ws).take (i+1)=(gX ws).take i++[z]:=by rw[List.take_add_one,hz];rfl
      dsimp only [aJ];refine⟨d,b,3,rfl,f6.dk,Zd,Zd,fun r H7 r0 r1 D7 k7=>?_⟩
      have f7:=f6.draw D7 k7
      have F7:=(Fw.refl f6.dk).draw D7 k7
      have hrd:=f6.d0.ne fra
      have R7:=R6.keep F7.tk (F7.get R6.lst hrd.1 hrd.2)
      have g7:=F7.get g6 hld.1 hld.2
      refine bQ (fun _=>?_) (fun _=>?_)
      ·refine⟨.inl ⟨rfl,_,SqL.of R7.lst⟩,⟨Zd,Zd,Zd⟩,d,b,1000000000000,rfl,D7,Zd,Zd,fun m H8 m0 m1 D8 k8=>⟨aM rfl,fun ta H9 s9 g9=>?_⟩⟩
       obtain⟨m,rfl⟩:=cV m0
       have f8:=f7.draw D8 k8
       have F8:=(Fw.refl D7).draw D8 k8
       have f9:=f8.same s9
       have R9:=(R7.keep F8.tk (F8.get R7.lst hrd.1 hrd.2)).same s9
       have g9':=s9 _ _ (F8.get g7 hld.1 hld.2)
       have lr:=R9.len
       refine⟨ra,_,_,rfl,rfl,R9.lst,by rw[aR];exact kI (m:=1000) Zo Zd,?_⟩
       refine⟨rs++[.has z (1+m)],as++[ta],_,rfl,R9.snoc (cR R9.lst) ?_ aA,f9.put fra,by rw[aE hlr];exact g9',by simp;omega,?_⟩
       ·have:=cR R9.lst (ys:=as.map V.ref++[.ref ta]) _ _ g9
        show _=some (HO.tup [V.str "has",.str z,.int ((1+m:Nat):Int)])
        rw[this,show((1+m:Nat):Int)=1+(m:Int) by omega]
       ·rw[etk];exact hd6.step hrise (mw.of.of z hzm) Zo Zo
      ·refine⟨rs,as,_,rfl,R7,f7,g7,Zo,?_⟩
       rw[etk];exact hd6.skip z
    ·rintro σ' H6 ⟨rs,as,o5,rfl,R6,f6,g6,l6,hd6⟩
     refine hnx _ _ ⟨rs,as,o5,rfl,R6,f6,?_,?_⟩
     ·rw[aR,fX]at l6;omega
     ·rw[aR,jD (bC _)]at hd6;exact hd6
   ·rintro σ' H5 ⟨rs,as,o5,rfl,R5,f5,l5,hd5⟩
    have hrd:=f5.d0.ne fra
    refine⟨d,b,7,rfl,f5.dk,Zd,Zd,fun r7 H6 r0 r1 D6 k6=>⟨r7,rfl,Zo,Zo,?_⟩⟩
    have F6:=(Fw.refl f5.dk).draw D6 k6
    have f6:=f5.draw D6 k6
    have R6:=R5.keep F6.tk (F6.get R5.lst hrd.1 hrd.2)
    refine cA (dC 0 r7.toNat) (fun i σ' H'=>∃(rs:List RX) (as:List Addr) (last:Nat) (o7:Option V),σ'=[some (.ref d),some (.ref lm),some (.int (n:Int)),some (.int (t:Int)),some (.ref ra),o5,some (.int (last:Int)),o7]/\RxsAt H' ra rs as/\Fw d b H H'/\rs.length<=7+i/\last<=9*i/\Hd2 n t last rs) (fun _ _ _ _=>trivial)
     ⟨rs,as,0,_,rfl,R6,f6,Zo,bC _,⟨hd5.wh,hd5.ok,hd5.nx,hd5.one,fun r hr=>Nat.le_succ_of_le (hd5.rk r hr),fun n' t' p k x y q=>absurd (hd5.rk _ q) (by show ¬ (2<=1);decide)⟩⟩ ?_ ?_
    ·rintro i x σ' H7 hx ⟨rs,as,last,o7,rfl,R7,f7,l7,la7,hd7⟩
     obtain⟨rfl,hi⟩:=kZ hx
     dsimp only [aJ];refine bF (fun σ' H'=>∃(m:Nat),σ'=[some (.ref d),some (.ref lm),some (.int (n:Int)),some (.int (t:Int)),some (.ref ra),o5,some (.int (m:Int)),some (.int (i:Int))]/\last<m/\m<=last+9/\RxsAt H' ra rs as/\Fw d b H H') (fun nx' hnx'=>?_) ?_
     ·refine⟨d,b,9,rfl,f7.dk,Zd,Zd,fun r8 H8 x0 x1 D8 k8=>⟨cP rfl,fun p hp=>⟨d,b,3,rfl,D8.new hp,Zd,Zd,fun r9 H9 y0 y1 D9 k9=>?_⟩⟩⟩
      obtain⟨r8,rfl⟩:=cV x0
      have hpd:=D8.ne hp
      have gp:=k9 p _ aA hpd.1 hpd.2
      have F9:=(((Fw.refl f7.dk).draw D8 k8).new hp).draw D9 k9
      have R9:=R7.keep F9.tk (F9.get R7.lst hrd.1 hrd.2)
      have f9:=f7.trans F9
      rcases(by omega:r9=0∨r9=1∨r9=2) with rfl | rfl | rfl
      ·refine⟨_,SqL.of gp,_,rfl,hnx' _ _ ⟨last+1,?_,Zo,Zo,R9,f9⟩⟩
       rw[show((last+1:Nat):Int)=(last:Int)+1+0 by omega];rfl
      ·refine⟨_,SqL.of gp,_,rfl,hnx' _ _ ⟨last+1,?_,Zo,Zo,R9,f9⟩⟩
       rw[show((last+1:Nat):Int)=(last:Int)+1+0 by omega];rfl
      ·refine⟨_,SqL.of gp,_,rfl,hnx' _ _ ⟨last+1+r8,?_,Zo,Zo,R9,f9⟩⟩
       rw[show((last+1+r8:Nat):Int)=(last:Int)+1+(r8:Int) by omega];rfl
     ·rintro σ' H8 ⟨m,rfl,m1,m2,R8,f8⟩
      refine bQ (fun hlt=>?_) (fun _=>?_)
      ·have hmn:m<n:=by have:=of_decide_eq_true hlt;omega
       refine⟨.inl ⟨rfl,_,SqL.of R8.lst⟩,d,b,(t:Int)+1,rfl,f8.dk,Zo,Zo,fun u H9 u0 u1 D9 k9=>?_⟩
       obtain⟨u,rfl⟩:=cV u0
       have F9:=(Fw.refl f8.dk).draw D9 k9
       have f9:=f8.trans F9
       have R9:=R8.keep F9.tk (F9.get R8.lst hrd.1 hrd.2)
       refine⟨d,b,lm,_,m,u,rfl,D9,f9.menus hd hb hM,hd,hb,fun ta p k x y Ha hp hk hxo hy at_ fa=>?_⟩
       have Ra:=R9.keep fa.tk (fa.get R9.lst hrd.1 hrd.2)
       have lr:=Ra.len
       refine⟨ra,_,_,rfl,rfl,Ra.lst,by rw[aR];exact kI (m:=1000) Zo Zd,?_⟩
       refine⟨rs++[.kept m u p k x y],as++[ta],m,_,rfl,Ra.snoc (cR Ra.lst) (at_.tk (cR Ra.lst)) aA,(f9.trans fa).put fra,by simp;omega,Zo,?_⟩
       exact hd7.step m1 hmn hn2 Zo Zo hp hk hxo hy
      ·exact⟨rs,as,m,_,rfl,R8,f8,Zo,Zo,hd7.more (Nat.le_of_lt m1)⟩
    ·rintro σ' H7 ⟨rs,as,last,o7,rfl,R7,f7,l7,la7,hd7⟩
     refine q ra rs as H7 fra R7 ⟨hd7.wh,hd7.ok,hd7.rk,?_,fun n' t' hr=>?_⟩ f7
     ·rw[eG]at l7;omega
     ·obtain⟨rfl,rfl⟩:=hd7.nx _ _ hr
      exact⟨Zo,Zo⟩
end
end KL
namespace KL
open PySem L2
section
variable {P:Program} {w:World} {K:W.Frag} {mg:Str->Option Value} {base:Heap}
theorem wE:("abcdefghijklmnopqrstuvwxyz":Str)=tx LET:=by rw[nN ("abcdefghijklmnopqrstuvwxyz":Str),Ci]
theorem Ip:("abcdefghijklmnopqrstuvwxyz":Str)++("0123456789":Str)=tx KLET:=by rw[nN ("abcdefghijklmnopqrstuvwxyz":Str),Ci,nN ("0123456789":Str),Np,rK];rfl
theorem iV {H:Hp} {a l:Addr} {ws:List Str} {xs:List Addr} (h1:H a=some (.lst (ws.map V.str))) (h2:1<=ws.length) (h3:H l=some (.lst (xs.map V.ref))):a≠l:=by
 intro e;rw[e,h3]at h1;cases ws with
 | nil=>cases h2
 | cons w ws=>
  cases xs with
  | nil=>cases h1
  | cons x xs=>cases h1
theorem On:LET.Nodup:=by decide
theorem Sn:KLET.Nodup:=by decide
def uB:Sp:=fun vs H Q _=>∃(d b:Addr),vs=[.ref d]/\Dk H d b/\∀(lm:Addr) (M:List Addr) (H':Hp),MenusAt H' lm M->d∉M->b∉M->Fw d b H H'->Q (.ref lm) H'
theorem So {d a0 a1 a2 a3 a4:Addr} (h0:a0≠d) (h1:a1≠d) (h2:a2≠d) (h3:a3≠d) (h4:a4≠d):d∉[a0,a1,a2,a3,a4]:=by
 intro h;simp only [List.mem_cons,List.not_mem_nil,or_false]at h
 rcases h with h | h | h | h | h
 ·exact h0 h.symm
 ·exact h1 h.symm
 ·exact h2 h.symm
 ·exact h3 h.symm
 ·exact h4 h.symm
theorem WordsOf.nm {ws:List Str} (h:WordsOf LET 8 ws):∀z∈ws,eO z:=fun z hz=>h.of z hz
theorem WordsOf.ky {ws:List Str} (h:WordsOf KLET 12 ws):∀z∈ws,rY z:=fun z hz=>h.of z hz
theorem Dy (T:Txt K mg) (cLdraw:aH P w K mg base 1 "_law_draw" ["_law_deck_here","_law_many"] bD) (cLunlike:aH P w K mg base 2 "_law_unlike" ["_law_deck_here","_law_signs","_law_longest","_law_many"] qI)
  (D:DefAt K mg "_law_menus" eZ ["_law_deck_here"]):aH P w K mg base 3 "_law_menus" ["_law_deck_here"] uB:=by
 refine D.go gL (fun vs H Q E h=>?_) (fun f cdv A outer s H vs Q E hr h=>?_)
 ·obtain⟨d,b,rfl,_⟩:=h;rfl
 ·obtain⟨d,b,rfl,dk,q⟩:=h
  have hLdraw:Room 1 _:=hr.mono Zd
  have hLunlike:Room 2 _:=hr.mono Zd
  refine⟨_,(R.ad (R.ah (i:=1) gL.nd R.ae) (R.ad (R.ah (i:=2) gL.nd (R.au (R.U (R.fn cLunlike hLunlike rfl (R.U (R.v 0) (R.U (R.v 1) (R.U R.aa (R.U (R.op R.aq R.aa (R.fn cLdraw hLdraw rfl (R.U (R.v 0) (R.U R.aa R.ac)))) R.ac))))) R.ac))) (R.ad (R.az (R.ba (K:=K) PySem.F.plainAttrs_list PySem.F.slot_list_append PySem.F.type_list_append R.bi (R.v 2) (R.U (R.fn cLunlike hLunlike rfl (R.U (R.v 0) (R.U (R.v 1) (R.U R.aa (R.U (R.op R.aq R.aa (R.fn cLdraw hLdraw rfl (R.U (R.v 0) (R.U R.aa R.ac)))) R.ac))))) R.ac))) (R.ad (R.az (R.ba (K:=K) PySem.F.plainAttrs_list PySem.F.slot_list_append PySem.F.type_list_append R.bi (R.v 2) (R.U (R.fn cLunlike hLunlike rfl (R.U (R.v 0) (R.U (R.v 1) (R.U R.aa (R.U (R.op R.aq R.aa (R.fn cLdraw hLdraw rfl (R.U (R.v 0) (R.U R.aa R.ac)))) R.ac))))) R.ac))) (R.ad (R.az (R.ba (K:=K) PySem.F.plainAttrs_list PySem.F.slot_list_append PySem.F.type_list_append R.bi (R.v 2) (R.U (R.fn cLunlike hLunlike rfl (R.U (R.v 0) (R.U (R.op R.fj (R.v 1) R.ae) (R.U R.aa (R.U (R.op R.aq R.aa (R.fn cLdraw hLdraw rfl (R.U (R.v 0) (R.U R.aa R.ac)))) R.ac))))) R.ac))) (R.af (R.am (R.v 2)))))))),?_⟩
  refine⟨d,b,5,rfl,dk,Zd,Zd,fun r1 H1 x0 x1 D1 e1=>?_⟩
  obtain⟨r1,rfl⟩:=cV x0
  refine⟨d,b,LET,8,2+r1,by rw[<- wE,show((2+r1:Nat):Int)=2+(r1:Int) by omega];rfl,D1,Zo,Zo,Zd,On,by show 2+r1<=26;omega,Zd,fun a0 ws H2 hw lw g0 n0 m0 D2 e2=>⟨cP rfl,fun lm hlm=>?_⟩⟩
  have f2:=((Fw.refl dk).draw D1 e1).draw D2 e2
  have nl:=D2.ne hlm
  have f3:=f2.new (o:=.lst [.ref a0]) hlm
  have gl:(aI H2 lm (.lst [.ref a0])) lm=some (.lst ([a0].map V.ref)):=aA
  replace g0:=aN (u:=.lst [.ref a0]) g0 hlm
  dsimp only [aJ];generalize aI H2 lm (.lst [.ref a0])=H3 at f3 gl g0;refine⟨.inl ⟨rfl,_,SqL.of gl⟩,d,b,5,rfl,f3.dk,Zd,Zd,fun r2 H4 x0 x1 D4 e4=>?_⟩
  obtain⟨r2,rfl⟩:=cV x0
  refine⟨d,b,LET,8,2+r2,by rw[<- wE,show((2+r2:Nat):Int)=2+(r2:Int) by omega];rfl,D4,Zo,Zo,Zd,On,by show 2+r2<=26;omega,Zd,fun a1 us H5 hu lu g1 n1 m1 D5 e5=>?_⟩
  have f5:=(f3.draw D4 e4).draw D5 e5
  have F5:=((Fw.refl f3.dk).draw D4 e4).draw D5 e5
  replace gl:=F5.get gl nl.1 nl.2
  replace g0:=F5.get g0 n0 m0
  have w01:=iV g0 Zo gl
  have w11:=iV g1 Zo gl
  refine⟨lm,_,_,rfl,rfl,gl,kI (m:=100) (Nat.le_of_ble_eq_true rfl) Zd,?_⟩
  have f6:=f5.put (f2.free hlm) (o:=.lst ([a0].map V.ref++[.ref a1]))
  replace gl:(aI H5 lm (.lst ([a0].map V.ref++[.ref a1]))) lm=some (.lst ([a0,a1].map V.ref)):=aA
  replace g0:(aI H5 lm (.lst ([a0].map V.ref++[.ref a1]))) a0=_:=(aE w01).trans g0
  replace g1:(aI H5 lm (.lst ([a0].map V.ref++[.ref a1]))) a1=_:=(aE w11).trans g1
  generalize aI H5 lm (.lst ([a0].map V.ref++[.ref a1]))=H6 at f6 gl g0 g1;refine⟨.inl ⟨rfl,_,SqL.of gl⟩,d,b,6,rfl,f6.dk,Zd,Zd,fun r3 H7 x0 x1 D7 e7=>?_⟩
  obtain⟨r3,rfl⟩:=cV x0
  refine⟨d,b,LET,8,1+r3,by rw[<- wE,show((1+r3:Nat):Int)=1+(r3:Int) by omega];rfl,D7,Zo,Zo,Zd,On,by show 1+r3<=26;omega,Zd,fun a2 ps H8 hp lp g2 n2 m2 D8 e8=>?_⟩
  have f8:=(f6.draw D7 e7).draw D8 e8
  have F8:=((Fw.refl f6.dk).draw D7 e7).draw D8 e8
  replace gl:=F8.get gl nl.1 nl.2
  replace g0:=F8.get g0 n0 m0
  replace g1:=F8.get g1 n1 m1
  have w21:=iV g2 Zo gl
  refine⟨lm,_,_,rfl,rfl,gl,kI (m:=100) (Nat.le_of_ble_eq_true rfl) Zd,?_⟩
  have f9:=f8.put (f2.free hlm) (o:=.lst ([a0,a1].map V.ref++[.ref a2]))
  replace gl:(aI H8 lm (.lst ([a0,a1].map V.ref++[.ref a2]))) lm=some (.lst ([a0,a1,a2].map V.ref)):=aA
  replace g0:(aI H8 lm (.lst ([a0,a1].map V.ref++[.ref a2]))) a0=_:=(aE w01).trans g0
  replace g1:(aI H8 lm (.lst ([a0,a1].map V.ref++[.ref a2]))) a1=_:=(aE w11).trans g1
  replace g2:(aI H8 lm (.lst ([a0,a1].map V.ref++[.ref a2]))) a2=_:=(aE w21).trans g2
  generalize aI H8 lm (.lst ([a0,a1].map V.ref++[.ref a2]))=H9 at f9 gl g0 g1 g2;refine⟨.inl ⟨rfl,_,SqL.of gl⟩,fO Zk,d,b,6,rfl,f9.dk,Zd,Zd,fun r4 Ha x0 x1 Da ea=>?_⟩
  obtain⟨r4,rfl⟩:=cV x0
  refine⟨d,b,KLET,12,1+r4,by rw[<- Ip,show((1+r4:Nat):Int)=1+(r4:Int) by omega];rfl,Da,Zo,Zo,Zd,Sn,by show 1+r4<=36;omega,Zd,fun a3 ks Hb hk lk g3 n3 m3 Db eb=>?_⟩
  have fb:=(f9.draw Da ea).draw Db eb
  have Fb:=((Fw.refl f9.dk).draw Da ea).draw Db eb
  replace gl:=Fb.get gl nl.1 nl.2
  replace g0:=Fb.get g0 n0 m0
  replace g1:=Fb.get g1 n1 m1
  replace g2:=Fb.get g2 n2 m2
  have w31:=iV g3 Zo gl
  refine⟨lm,_,_,rfl,rfl,gl,kI (m:=100) (Nat.le_of_ble_eq_true rfl) Zd,?_⟩
  have fc:=fb.put (f2.free hlm) (o:=.lst ([a0,a1,a2].map V.ref++[.ref a3]))
  replace gl:(aI Hb lm (.lst ([a0,a1,a2].map V.ref++[.ref a3]))) lm=some (.lst ([a0,a1,a2,a3].map V.ref)):=aA
  replace g0:(aI Hb lm (.lst ([a0,a1,a2].map V.ref++[.ref a3]))) a0=_:=(aE w01).trans g0
  replace g1:(aI Hb lm (.lst ([a0,a1,a2].map V.ref++[.ref a3]))) a1=_:=(aE w11).trans g1
  replace g2:(aI Hb lm (.lst ([a0,a1,a2].map V.ref++[.ref a3]))) a2=_:=(aE w21).trans g2
  replace g3:(aI Hb lm (.lst ([a0,a1,a2].map V.ref++[.ref a3]))) a3=_:=(aE w31).trans g3
  generalize aI Hb lm (.lst ([a0,a1,a2].map V.ref++[.ref a3]))=Hc at fc gl g0 g1 g2 g3;have mw:Menu ws:=⟨hw,Zo,Zo⟩
  have mu:Menu us:=⟨hu,Zo,Zo⟩
  have hM:MenusAt Hc lm [lm,a0,a1,a2,a3]:=⟨a0,a1,a2,a3,ws,us,ps,ks,rfl,gl,g0,g1,g2,g3,mw,mu,⟨Zo,Zo,hp.nm⟩,Zo,Zo,hk.ky⟩
  have od:=So nl.1 n0 n1 n2 n3
  have ob:=So nl.2 m0 m1 m2 m3
  exact q lm _ Hc hM od ob fc
end
end KL
namespace KL
open PySem L2
section
variable {P:Program} {w:World} {K:W.Frag} {mg:Str->Option Value} {base:Heap}
def dR (f:Str->Nat) (z:Str) (v:Nat):Str->Nat:=fun y=>if y=z then v else f y
def bE (f:Str->Nat):Dd->Option An
 | .add a n=>if 1000000000000<f a+n then some (.full (f a)) else some (.is1 (f a+n))
 | .take a n=>if f a<n then some (.short (f a)) else some (.is1 (f a - n))
 | .move a b n=>if f a<n then some (.short (f a)) else if 1000000000000<f b+n then some (.full (f b)) else some (.is2 (f a - n) (f b+n))
 | .send _ a n=>if f a<n then some (.short (f a)) else none
 | .fetch _ a n=>if 1000000000000<f a+n then some (.full (f a)) else none
 | .pass _ _ _ _=>none
def cS (f:Str->Nat):Dd->List An
 | .send h a n=>[.no h,.is1 (f a - n)]
 | .fetch h a n=>[.no h,.is1 (f a+n)]
 | .pass h g _ _=>[.no h,.no g,.ok]
 | _=>[]
def after (f:Str->Nat):Dd->An->(Str->Nat)
 | .add a n,.is1 _=>dR f a (f a+n)
 | .take a n,.is1 _=>dR f a (f a - n)
 | .move a b n,.is2 _ _=>dR (dR f a (f a - n)) b (f b+n)
 | .send _ a n,.is1 _=>dR f a (f a - n)
 | .fetch _ a n,.is1 _=>dR f a (f a+n)
 | _,_=>f
def jJ (f:Str->Nat) (x:Dd) (q:Bool) (y:An):Prop:=(q=false/\bE f x=some y)∨(q=true/\bE f x=none/\y∈cS f x)
def BookIs (kvs:List (bB × V)) (f:Str->Nat):Prop:=∀z:Str,(bN kvs (Sum.inr z)).getD (.int 0)=.int (f z:Int)
theorem dg {H:Hp} {bk:Addr} {kvs:List (bB × V)} {f:Str->Nat} (gb:H bk=some (.dK kvs)) (hB:BookIs kvs f) (z:Str):∃o,DGet H bk (.str z) o/\o.getD (.int 0)=.int (f z:Int):=⟨_,DGet.k (k:=Sum.inr z) gb,hB z⟩
theorem wF {H:Hp} {bk:Addr} {kvs:List (bB × V)} (gb:H bk=some (.dK kvs)):Tu H bk:=.inl ⟨_,.inl gb⟩
theorem uC {f:Str->Nat} (hf:∀z,f z<=1000000000000) {x:Dd} (hx:x.Ok) {q:Bool} {y:An} (h:jJ f x q y) (hq:q=true->x.far=true):An.Of x y/\(x.far=true->(q=true↔y.early=false)):=by
 rcases h with⟨rfl,h⟩ | ⟨rfl,h1,h2⟩
 ·cases x with
  | add a n=>
   simp only [bE]at h
   have:=hf a
   split at h <;> cases h
   ·exact⟨⟨Zo,Zo⟩,fun z=>nomatch z⟩
   ·exact⟨⟨Zo,Zo⟩,fun z=>nomatch z⟩
  | take a n=>
   simp only [bE]at h
   have:=hf a
   split at h <;> cases h
   ·exact⟨by show f a<n;omega,fun z=>nomatch z⟩
   ·exact⟨by show f a - n+n<=1000000000000;omega,fun z=>nomatch z⟩
  | move a b n=>
   simp only [bE]at h
   have:=hf a
   have:=hf b
   split at h
   ·cases h;exact⟨by show f a<n;omega,fun z=>nomatch z⟩
   ·split at h <;> cases h
    ·exact⟨⟨Zo,Zo⟩,fun z=>nomatch z⟩
    ·exact⟨⟨Zo,Zo,Zo⟩,fun z=>nomatch z⟩
  | send g a n=>
   simp only [bE]at h
   split at h <;> cases h
   exact⟨by show f a<n;omega,fun _=>⟨(fun z=>nomatch z),(fun z=>nomatch z)⟩⟩
  | fetch g a n=>
   simp only [bE]at h
   have:=hf a
   split at h <;> cases h
   exact⟨⟨Zo,Zo⟩,fun _=>⟨(fun z=>nomatch z),(fun z=>nomatch z)⟩⟩
  | pass g k a n=>cases h
 ·cases x with
  | add a n=>cases hq rfl
  | take a n=>cases hq rfl
  | move a b n=>cases hq rfl
  | send g a n=>
   have:=hf a
   simp only [bE]at h1
   simp only [cS,List.mem_cons,List.not_mem_nil,or_false]at h2
   have hn:n<=f a:=by
    by_cases hh:f a<n
    ·rw[if_pos hh]at h1;cases h1
    ·omega
   rcases h2 with rfl | rfl
   ·exact⟨rfl,fun _=>⟨fun _=>rfl,fun _=>rfl⟩⟩
   ·exact⟨by show f a - n+n<=1000000000000;omega,fun _=>⟨fun _=>rfl,fun _=>rfl⟩⟩
  | fetch g a n=>
   simp only [bE]at h1
   simp only [cS,List.mem_cons,List.not_mem_nil,or_false]at h2
   have hn:¬ 1000000000000<f a+n:=by
    intro hh;rw[if_pos hh]at h1;cases h1
   rcases h2 with rfl | rfl
   ·exact⟨rfl,fun _=>⟨fun _=>rfl,fun _=>rfl⟩⟩
   ·exact⟨⟨Zo,Zo⟩,fun _=>⟨fun _=>rfl,fun _=>rfl⟩⟩
  | pass g k a n=>
   simp only [cS,List.mem_cons,List.not_mem_nil,or_false]at h2
   rcases h2 with rfl | rfl | rfl
   ·exact⟨.inl rfl,fun _=>⟨fun _=>rfl,fun _=>rfl⟩⟩
   ·exact⟨.inr rfl,fun _=>⟨fun _=>rfl,fun _=>rfl⟩⟩
   ·exact⟨trivial,fun _=>⟨fun _=>rfl,fun _=>rfl⟩⟩
theorem gN {f:Str->Nat} {z:Str} {v:Nat} (hf:∀z,f z<=1000000000000) (hv:v<=1000000000000):∀y,dR f z v y<=1000000000000:=fun y=>by
 unfold dR;split
 ·exact hv
 ·exact hf y
theorem Dz {f:Str->Nat} (hf:∀z,f z<=1000000000000) {x:Dd} {q:Bool} {y:An} (h:jJ f x q y):∀z,after f x y z<=1000000000000:=by
 rcases h with⟨rfl,h⟩ | ⟨rfl,h1,h2⟩
 ·cases x with
  | add a n=>
   simp only [bE]at h
   split at h <;> cases h
   ·exact hf
   ·exact gN hf Zo
  | take a n=>
   simp only [bE]at h
   have:=hf a
   split at h <;> cases h
   ·exact hf
   ·exact gN hf Zo
  | move a b n=>
   simp only [bE]at h
   have:=hf a
   split at h
   ·cases h;exact hf
   ·split at h <;> cases h
    ·exact hf
    ·exact gN (gN hf Zo) Zo
  | send g a n=>
   simp only [bE]at h
   split at h <;> cases h
   exact hf
  | fetch g a n=>
   simp only [bE]at h
   split at h <;> cases h
   exact hf
  | pass g k a n=>cases h
 ·cases x with
  | add a n=>cases h2
  | take a n=>cases h2
  | move a b n=>cases h2
  | send g a n=>
   have:=hf a
   simp only [cS,List.mem_cons,List.not_mem_nil,or_false]at h2
   rcases h2 with rfl | rfl
   ·exact hf
   ·exact gN hf Zo
  | fetch g a n=>
   simp only [bE]at h1
   simp only [cS,List.mem_cons,List.not_mem_nil,or_false]at h2
   have hn:¬ 1000000000000<f a+n:=by
    intro hh;rw[if_pos hh]at h1;cases h1
   rcases h2 with rfl | rfl
   ·exact hf
   ·exact gN hf Zo
  | pass g k a n=>
   simp only [cS,List.mem_cons,List.not_mem_nil,or_false]at h2
   rcases h2 with rfl | rfl | rfl <;> exact hf
theorem BookIs.put {kvs:List (bB × V)} {f:Str->Nat} (h:BookIs kvs f) (z:Str) (v:Nat):BookIs (cK kvs (Sum.inr z) (.int (v:Int))) (dR f z v):=fun y=>by
 rw[fN];unfold dR;by_cases e:y=z
 ·rw[if_pos (by rw[e]),if_pos e];rfl
 ·rw[if_neg (fun c=>e (by injection c)),if_neg e];exact h y
def uD:Sp:=fun vs H Q _=>∃(bk t:Addr) (kvs:List (bB × V)) (f:Str->Nat) (x:Dd),vs=[.ref bk,.ref t]/\H bk=some (.dK kvs)/\BookIs kvs f/\H t=some (.tup x.vs) ∧
 (∀y c H',bE f x=some y->Same H H'->H' c=some (.tup y.vs)->Q (.ref c) H')/\(bE f x=none->∀H',Same H H'->Q .non H')
theorem Ea (T:Txt K mg) (D:DefAt K mg "_law_early" fA ["_law_book","_law_deed_here"]):aH P w K mg base 1 "_law_early" ["_law_book","_law_deed_here"] uD:=by
 refine D.go dA (fun vs H Q E h=>?_) (fun f cdv A outer s H vs Q E hr h=>?_)
 ·obtain⟨bk,t,kvs,f,x,rfl,_⟩:=h;rfl
 ·obtain⟨bk,t,kvs,f,x,rfl,gb,hB,gt,qs,qn⟩:=h
  have hu1:=eY hr
  refine⟨_,(R.ad (R.ah (i:=2) dA.nd (R.ix (R.ag (K:=K)) (R.v 1) (R.ay R.aa))) (R.ad (R.ah (i:=3) dA.nd (R.ix (R.ag (K:=K)) (R.v 1) (R.ay R.aa))) (R.ad (R.ar (R.ai R.eq (R.ix (R.ag (K:=K)) (R.v 1) R.aa) R.ae) (R.af (R.ah (i:=3) dA.nd (R.ix (R.ag (K:=K)) (R.v 1) R.aa))) R.av) (R.ad (R.ah (i:=4) dA.nd (R.bv hu1 (R.v 0) (R.v 3) R.aa)) (R.ad (R.ar (R.tw (R.bw (R.ai (R.bd (K:=K)) (R.ix (R.ag (K:=K)) (R.v 1) R.aa) (R.al (R.U R.ae (R.U R.ae (R.U R.ae R.ac))))) (R.da (R.ai R.lt (R.v 4) (R.v 2))))) (R.af (R.am (R.al (R.U R.ae (R.U (R.v 4) R.ac))))) R.av) (R.ad (R.ar (R.tw (R.bw (R.ai (R.bd (K:=K)) (R.ix (R.ag (K:=K)) (R.v 1) R.aa) (R.al (R.U R.ae (R.U R.ae R.ac)))) (R.da (R.ai R.gt (R.op R.aq (R.v 4) (R.v 2)) (R.op R.bg R.aa R.aa))))) (R.af (R.am (R.al (R.U R.ae (R.U (R.v 4) R.ac))))) R.av) (R.ad (R.ar (R.tw (R.bw (R.ai R.eq (R.ix (R.ag (K:=K)) (R.v 1) R.aa) R.ae) (R.da (R.ai R.gt (R.op R.aq (R.bv hu1 (R.v 0) (R.ix (R.ag (K:=K)) (R.v 1) R.aa) R.aa) (R.v 2)) (R.op R.bg R.aa R.aa))))) (R.af (R.am (R.al (R.U R.ae (R.U (R.bv hu1 (R.v 0) (R.ix (R.ag (K:=K)) (R.v 1) R.aa) R.aa) R.ac))))) R.av) (R.ad (R.ar (R.ai R.eq (R.ix (R.ag (K:=K)) (R.v 1) R.aa) R.ae) (R.af (R.am (R.al (R.U R.ae (R.U (R.op R.cj (R.v 4) (R.v 2)) (R.U (R.op R.aq (R.bv hu1 (R.v 0) (R.ix (R.ag (K:=K)) (R.v 1) R.aa) R.aa) (R.v 2)) R.ac)))))) R.av) (R.ad (R.ar (R.ai (R.bd (K:=K)) (R.ix (R.ag (K:=K)) (R.v 1) R.aa) (R.al (R.U R.ae (R.U R.ae R.ac)))) (R.af (R.am (R.al (R.U R.ae (R.U (R.op R.aq (R.v 4) (R.ix (R.ao (K:=K)) (R.au (R.U (R.v 2) (R.U (R.ay (R.v 2)) R.ac))) (R.bo R.dm rfl T.b_int kR (R.U (R.cz R.eq (R.ix (R.ag (K:=K)) (R.v 1) R.aa) R.ae) R.ac)))) R.ac))))) R.av) (R.af (R.am R.cn))))))))))),?_⟩
  cases x with
  | add a n=>
   refine⟨_,SqT.of gt,_,rfl,⟨_,SqT.of gt,_,rfl,⟨_,SqT.of gt,_,rfl,?_⟩⟩⟩
   obtain⟨o,ho,eo⟩:=dg gb hB a
   refine⟨bk,rfl,wF gb,o,ho,?_⟩
   rw[eo];refine⟨_,SqT.of gt,_,rfl,aM rfl,fun t1 H1 s1 g1=>⟨t1,_,rfl,.inr (SqT.of g1),rfl,rfl,?_⟩⟩
   have S1:Same H H1:=s1
   have gt1:=S1 _ _ gt
   have gb1:=S1 _ _ gb
   refine⟨_,SqT.of gt1,_,rfl,aM rfl,fun t2 H2 s2 g2=>⟨t2,_,rfl,.inr (SqT.of g2),rfl,rfl,?_⟩⟩
   have S2:Same H H2:=S1.trans s2
   have gt2:=S2 _ _ gt
   have gb2:=S2 _ _ gb
   refine⟨⟨Zd,Zd,Zd⟩,?_⟩
   refine bQ (fun h=>?_) (fun h=>?_)
   ·have h':(1000000000000:Int)<(f a:Int)+(n:Int):=of_decide_eq_true h
    exact⟨aM rfl,fun c H' s' g'=>qs (.full (f a)) c H' (if_pos Zo) (S2.trans s') g'⟩
   ·have h':¬ (1000000000000:Int)<(f a:Int)+(n:Int):=of_decide_eq_false h
    refine⟨_,SqT.of gt2,_,rfl,_,SqT.of gt2,_,rfl,?_⟩
    refine⟨_,SqT.of gt2,_,rfl,aM rfl,fun t3 H3 s3 g3=>⟨t3,_,rfl,.inr (SqT.of g3),rfl,rfl,?_⟩⟩
    have S3:Same H H3:=S2.trans s3
    have gt3:=S3 _ _ gt
    have gb3:=S3 _ _ gb
    refine⟨cP rfl,fun p hp=>⟨_,SqT.of (aN gt3 hp),_,rfl,_,SqL.of aA,_,rfl,aM rfl,fun c H' s' g'=>?_⟩⟩
    refine qs (.is1 (f a+n)) c H' (if_neg Zo) ((S3.trans (aG hp)).trans s') ?_
    rw[g'];show some (HO.tup [V.str "is",.int ((f a:Int)+(n:Int))])=some (HO.tup [V.str "is",.int ((f a+n:Nat):Int)])
    rw[show((f a+n:Nat):Int)=(f a:Int)+(n:Int) by omega]
  | take a n=>
   refine⟨_,SqT.of gt,_,rfl,⟨_,SqT.of gt,_,rfl,⟨_,SqT.of gt,_,rfl,?_⟩⟩⟩
   obtain⟨o,ho,eo⟩:=dg gb hB a
   refine⟨bk,rfl,wF gb,o,ho,?_⟩
   rw[eo];refine⟨_,SqT.of gt,_,rfl,aM rfl,fun t1 H1 s1 g1=>⟨t1,_,rfl,.inr (SqT.of g1),rfl,rfl,?_⟩⟩
   have S1:Same H H1:=s1
   have gt1:=S1 _ _ gt
   have gb1:=S1 _ _ gb
   refine bQ (fun h=>?_) (fun h=>?_)
   ·have h':(f a:Int)<(n:Int):=of_decide_eq_true h
    exact⟨aM rfl,fun c H' s' g'=>qs (.short (f a)) c H' (if_pos Zo) (S1.trans s') g'⟩
   ·have h':¬ (f a:Int)<(n:Int):=of_decide_eq_false h
    refine⟨_,SqT.of gt1,_,rfl,aM rfl,fun t2 H2 s2 g2=>⟨t2,_,rfl,.inr (SqT.of g2),rfl,rfl,?_⟩⟩
    have S2:Same H H2:=S1.trans s2
    have gt2:=S2 _ _ gt
    have gb2:=S2 _ _ gb
    refine⟨_,SqT.of gt2,_,rfl,_,SqT.of gt2,_,rfl,?_⟩
    refine⟨_,SqT.of gt2,_,rfl,aM rfl,fun t3 H3 s3 g3=>⟨t3,_,rfl,.inr (SqT.of g3),rfl,rfl,?_⟩⟩
    have S3:Same H H3:=S2.trans s3
    have gt3:=S3 _ _ gt
    have gb3:=S3 _ _ gb
    refine⟨cP rfl,fun p hp=>⟨_,SqT.of (aN gt3 hp),_,rfl,_,SqL.of aA,_,rfl,aM rfl,fun c H' s' g'=>?_⟩⟩
    refine qs (.is1 (f a - n)) c H' (if_neg Zo) ((S3.trans (aG hp)).trans s') ?_
    rw[g'];show some (HO.tup [V.str "is",.int ((f a:Int)+-(n:Int))])=some (HO.tup [V.str "is",.int ((f a - n:Nat):Int)])
    rw[show((f a - n:Nat):Int)=(f a:Int)+-(n:Int) by omega]
  | move a b n=>
   refine⟨_,SqT.of gt,_,rfl,⟨_,SqT.of gt,_,rfl,⟨_,SqT.of gt,_,rfl,⟨_,SqT.of gt,_,rfl,?_⟩⟩⟩⟩
   obtain⟨o,ho,eo⟩:=dg gb hB a
   refine⟨bk,rfl,wF gb,o,ho,?_⟩
   rw[eo];refine⟨_,SqT.of gt,_,rfl,aM rfl,fun t1 H1 s1 g1=>⟨t1,_,rfl,.inr (SqT.of g1),rfl,rfl,?_⟩⟩
   have S1:Same H H1:=s1
   have gt1:=S1 _ _ gt
   have gb1:=S1 _ _ gb
   refine bQ (fun h=>?_) (fun h=>?_)
   ·have h':(f a:Int)<(n:Int):=of_decide_eq_true h
    exact⟨aM rfl,fun c H' s' g'=>qs (.short (f a)) c H' (if_pos Zo) (S1.trans s') g'⟩
   ·have h':¬ (f a:Int)<(n:Int):=of_decide_eq_false h
    refine⟨_,SqT.of gt1,_,rfl,aM rfl,fun t2 H2 s2 g2=>⟨t2,_,rfl,.inr (SqT.of g2),rfl,rfl,?_⟩⟩
    have S2:Same H H2:=S1.trans s2
    have gt2:=S2 _ _ gt
    have gb2:=S2 _ _ gb
    obtain⟨o2,ho2,eo2⟩:=dg gb2 hB b
    refine⟨_,SqT.of gt2,_,rfl,bk,rfl,wF gb2,_,SqT.of gt2,_,rfl,o2,ho2,?_⟩
    rw[eo2];refine⟨⟨Zd,Zd,Zd⟩,?_⟩
    refine bQ (fun h=>?_) (fun h=>?_)
    ·have h'':(1000000000000:Int)<(f b:Int)+(n:Int):=of_decide_eq_true h
     refine⟨bk,rfl,wF gb2,_,SqT.of gt2,_,rfl,o2,ho2,?_⟩
     rw[eo2];exact⟨aM rfl,fun c H' s' g'=>qs (.full (f b)) c H' ((if_neg Zo).trans (if_pos Zo)) (S2.trans s') g'⟩
    ·have h'':¬ (1000000000000:Int)<(f b:Int)+(n:Int):=of_decide_eq_false h
     refine⟨_,SqT.of gt2,_,rfl,bk,rfl,wF gb2,_,SqT.of gt2,_,rfl,o2,ho2,?_⟩
     rw[eo2];refine⟨aM rfl,fun c H' s' g'=>?_⟩
     refine qs (.is2 (f a - n) (f b+n)) c H' ((if_neg Zo).trans (if_neg Zo)) (S2.trans s') ?_
     rw[g'];show some (HO.tup [V.str "is",.int ((f a:Int) - (n:Int)),.int ((f b:Int)+(n:Int))])=some (HO.tup [V.str "is",.int ((f a - n:Nat):Int),.int ((f b+n:Nat):Int)])
     rw[show((f a - n:Nat):Int)=(f a:Int) - (n:Int) by omega,show((f b+n:Nat):Int)=(f b:Int)+(n:Int) by omega]
  | send h a n=>
   refine⟨_,SqT.of gt,_,rfl,⟨_,SqT.of gt,_,rfl,⟨_,SqT.of gt,_,rfl,?_⟩⟩⟩
   obtain⟨o,ho,eo⟩:=dg gb hB a
   refine⟨bk,rfl,wF gb,o,ho,?_⟩
   rw[eo];refine⟨_,SqT.of gt,_,rfl,aM rfl,fun t1 H1 s1 g1=>⟨t1,_,rfl,.inr (SqT.of g1),rfl,rfl,?_⟩⟩
   have S1:Same H H1:=s1
   have gt1:=S1 _ _ gt
   have gb1:=S1 _ _ gb
   refine bQ (fun h=>?_) (fun h=>?_)
   ·have h':(f a:Int)<(n:Int):=of_decide_eq_true h
    exact⟨aM rfl,fun c H' s' g'=>qs (.short (f a)) c H' (if_pos Zo) (S1.trans s') g'⟩
   ·have h':¬ (f a:Int)<(n:Int):=of_decide_eq_false h
    refine⟨_,SqT.of gt1,_,rfl,aM rfl,fun t2 H2 s2 g2=>⟨t2,_,rfl,.inr (SqT.of g2),rfl,rfl,?_⟩⟩
    have S2:Same H H2:=S1.trans s2
    have gt2:=S2 _ _ gt
    have gb2:=S2 _ _ gb
    refine⟨_,SqT.of gt2,_,rfl,_,SqT.of gt2,_,rfl,?_⟩
    refine⟨_,SqT.of gt2,_,rfl,aM rfl,fun t3 H3 s3 g3=>⟨t3,_,rfl,.inr (SqT.of g3),rfl,rfl,?_⟩⟩
    have S3:Same H H3:=S2.trans s3
    have gt3:=S3 _ _ gt
    have gb3:=S3 _ _ gb
    exact qn (if_neg Zo) _ S3
  | fetch h a n=>
   refine⟨_,SqT.of gt,_,rfl,⟨_,SqT.of gt,_,rfl,⟨_,SqT.of gt,_,rfl,?_⟩⟩⟩
   obtain⟨o,ho,eo⟩:=dg gb hB a
   refine⟨bk,rfl,wF gb,o,ho,?_⟩
   rw[eo];refine⟨_,SqT.of gt,_,rfl,aM rfl,fun t1 H1 s1 g1=>⟨t1,_,rfl,.inr (SqT.of g1),rfl,rfl,?_⟩⟩
   have S1:Same H H1:=s1
   have gt1:=S1 _ _ gt
   have gb1:=S1 _ _ gb
   refine⟨_,SqT.of gt1,_,rfl,aM rfl,fun t2 H2 s2 g2=>⟨t2,_,rfl,.inr (SqT.of g2),rfl,rfl,?_⟩⟩
   have S2:Same H H2:=S1.trans s2
   have gt2:=S2 _ _ gt
   have gb2:=S2 _ _ gb
   refine⟨⟨Zd,Zd,Zd⟩,?_⟩
   refine bQ (fun h=>?_) (fun h=>?_)
   ·have h':(1000000000000:Int)<(f a:Int)+(n:Int):=of_decide_eq_true h
    exact⟨aM rfl,fun c H' s' g'=>qs (.full (f a)) c H' (if_pos Zo) (S2.trans s') g'⟩
   ·have h':¬ (1000000000000:Int)<(f a:Int)+(n:Int):=of_decide_eq_false h
    refine⟨_,SqT.of gt2,_,rfl,_,SqT.of gt2,_,rfl,?_⟩
    refine⟨_,SqT.of gt2,_,rfl,aM rfl,fun t3 H3 s3 g3=>⟨t3,_,rfl,.inr (SqT.of g3),rfl,rfl,?_⟩⟩
    have S3:Same H H3:=S2.trans s3
    have gt3:=S3 _ _ gt
    have gb3:=S3 _ _ gb
    exact qn (if_neg Zo) _ S3
  | pass h g a n=>
   refine⟨_,SqT.of gt,_,rfl,⟨_,SqT.of gt,_,rfl,⟨_,SqT.of gt,_,rfl,?_⟩⟩⟩
   obtain⟨o,ho,eo⟩:=dg gb hB a
   refine⟨bk,rfl,wF gb,o,ho,?_⟩
   rw[eo];refine⟨_,SqT.of gt,_,rfl,aM rfl,fun t1 H1 s1 g1=>⟨t1,_,rfl,.inr (SqT.of g1),rfl,rfl,?_⟩⟩
   have S1:Same H H1:=s1
   have gt1:=S1 _ _ gt
   have gb1:=S1 _ _ gb
   refine⟨_,SqT.of gt1,_,rfl,aM rfl,fun t2 H2 s2 g2=>⟨t2,_,rfl,.inr (SqT.of g2),rfl,rfl,?_⟩⟩
   have S2:Same H H2:=S1.trans s2
   have gt2:=S2 _ _ gt
   have gb2:=S2 _ _ gb
   refine⟨_,SqT.of gt2,_,rfl,_,SqT.of gt2,_,rfl,?_⟩
   refine⟨_,SqT.of gt2,_,rfl,aM rfl,fun t3 H3 s3 g3=>⟨t3,_,rfl,.inr (SqT.of g3),rfl,rfl,?_⟩⟩
   have S3:Same H H3:=S2.trans s3
   have gt3:=S3 _ _ gt
   have gb3:=S3 _ _ gb
   exact qn (rfl) _ S3
end
end KL
namespace KL
open PySem L2
section
variable {P:Program} {w:World} {K:W.Frag} {mg:Str->Option Value} {base:Heap}
def uE:Sp:=fun vs H Q _=>∃(bk t:Addr) (kvs:List (bB × V)) (f:Str->Nat) (x:Dd),vs=[.ref bk,.ref t]/\H bk=some (.dK kvs)/\BookIs kvs f/\H t=some (.tup x.vs)/\x.far=true/\bE f x=none ∧
 ∀(l:Addr) (cs:List Addr) (H':Hp),H l=none->H' l=some (.lst (cs.map V.ref))->Paired (fun y c=>H' c=some (.tup (An.vs y))) (cS f x) cs->Same H H'->Q (.ref l) H'
theorem Eb (T:Txt K mg) (D:DefAt K mg "_law_lates" fB ["_law_book","_law_deed_here"]):aH P w K mg base 1 "_law_lates" ["_law_book","_law_deed_here"] uE:=by
 refine D.go jX (fun vs H Q E h=>?_) (fun f cdv A outer s H vs Q E hr h=>?_)
 ·obtain⟨bk,t,kvs,f,x,rfl,_⟩:=h;rfl
 ·obtain⟨bk,t,kvs,f,x,rfl,gb,hB,gt,hf,he,q⟩:=h
  have hu1:=eY hr
  refine⟨_,(R.ad (R.ar (R.ai R.eq (R.ix (R.ag (K:=K)) (R.v 1) R.aa) R.ae) (R.af (R.am (R.au (R.U (R.al (R.U R.ae (R.U (R.ix (R.ag (K:=K)) (R.v 1) R.aa) R.ac))) (R.U (R.al (R.U R.ae (R.U (R.ix (R.ag (K:=K)) (R.v 1) R.aa) R.ac))) (R.U (R.al (R.U R.ae R.ac)) R.ac)))))) R.av) (R.ad (R.ah (i:=2) jX.nd (R.op R.aq (R.bv hu1 (R.v 0) (R.ix (R.ag (K:=K)) (R.v 1) R.aa) R.aa) (R.ix (R.ao (K:=K)) (R.au (R.U (R.ix (R.ag (K:=K)) (R.v 1) R.aa) (R.U (R.ay (R.ix (R.ag (K:=K)) (R.v 1) R.aa)) R.ac))) (R.bo R.dm rfl T.b_int kR (R.U (R.cz R.eq (R.ix (R.ag (K:=K)) (R.v 1) R.aa) R.ae) R.ac))))) (R.af (R.am (R.au (R.U (R.al (R.U R.ae (R.U (R.ix (R.ag (K:=K)) (R.v 1) R.aa) R.ac))) (R.U (R.al (R.U R.ae (R.U (R.v 2) R.ac))) R.ac))))))),?_⟩
  cases x with
  | add a n=>cases hf
  | take a n=>cases hf
  | move a b n=>cases hf
  | pass h g a n=>
   refine⟨_,SqT.of gt,_,rfl,_,SqT.of gt,_,rfl,aM rfl,fun c1 H1 s1 g1=>⟨_,SqT.of (s1 _ _ gt),_,rfl,aM rfl,fun c2 H2 s2 g2=>⟨aM rfl,fun c3 H3 s3 g3=>⟨cP rfl,fun l hl=>?_⟩⟩⟩⟩
   have S3:=(s1.trans s2).trans s3
   exact q l [c1,c2,c3] _ (S3.free hl) aA (.cons (aN (s3 _ _ (s2 _ _ g1)) hl) (.cons (aN (s3 _ _ g2) hl) (.cons (aN g3 hl) .nil))) (S3.trans (aG hl))
  | send h a n=>
   have hn:¬ f a<n:=fun z=>by simp only [bE]at he;rw[if_pos z]at he;cases he
   obtain⟨o,ho,eo⟩:=dg gb hB a
   refine⟨_,SqT.of gt,_,rfl,bk,rfl,wF gb,_,SqT.of gt,_,rfl,o,ho,?_⟩
   rw[eo];refine⟨_,SqT.of gt,_,rfl,_,SqT.of gt,_,rfl,cP rfl,fun p hp=>⟨_,SqT.of (aN gt hp),_,rfl,_,SqL.of aA,_,rfl,?_⟩⟩
   have S0:=aG (o:=.lst [.int (n:Int),.int (-(n:Int))]) hp
   refine⟨_,SqT.of (aN gt hp),_,rfl,aM rfl,fun c1 H1 s1 g1=>⟨aM rfl,fun c2 H2 s2 g2=>⟨cP rfl,fun l hl=>?_⟩⟩⟩
   have S3:=(S0.trans s1).trans s2
   refine q l [c1,c2] _ (S3.free hl) aA (.cons (aN (s2 _ _ g1) hl) (.cons ?_ .nil)) (S3.trans (aG hl))
   rw[aN g2 hl];show some (HO.tup [V.str "is",.int ((f a:Int)+-(n:Int))])=some (HO.tup [V.str "is",.int ((f a - n:Nat):Int)])
   rw[show((f a - n:Nat):Int)=(f a:Int)+-(n:Int) by omega]
  | fetch h a n=>
   obtain⟨o,ho,eo⟩:=dg gb hB a
   refine⟨_,SqT.of gt,_,rfl,bk,rfl,wF gb,_,SqT.of gt,_,rfl,o,ho,?_⟩
   rw[eo];refine⟨_,SqT.of gt,_,rfl,_,SqT.of gt,_,rfl,cP rfl,fun p hp=>⟨_,SqT.of (aN gt hp),_,rfl,_,SqL.of aA,_,rfl,?_⟩⟩
   have S0:=aG (o:=.lst [.int (n:Int),.int (-(n:Int))]) hp
   refine⟨_,SqT.of (aN gt hp),_,rfl,aM rfl,fun c1 H1 s1 g1=>⟨aM rfl,fun c2 H2 s2 g2=>⟨cP rfl,fun l hl=>?_⟩⟩⟩
   have S3:=(S0.trans s1).trans s2
   refine q l [c1,c2] _ (S3.free hl) aA (.cons (aN (s2 _ _ g1) hl) (.cons ?_ .nil)) (S3.trans (aG hl))
   rw[aN g2 hl];show some (HO.tup [V.str "is",.int ((f a:Int)+(n:Int))])=some (HO.tup [V.str "is",.int ((f a+n:Nat):Int)])
   rw[show((f a+n:Nat):Int)=(f a:Int)+(n:Int) by omega]
def hI:Dd->An->List (Str × Int)
 | .add a n,.is1 _=>[(a,(n:Int))]
 | .take a n,.is1 _=>[(a,-(n:Int))]
 | .move a b n,.is2 _ _=>[(a,-(n:Int)),(b,(n:Int))]
 | .send _ a n,.is1 _=>[(a,-(n:Int))]
 | .fetch _ a n,.is1 _=>[(a,(n:Int))]
 | _,_=>[]
def Sq (H:Hp) (c:Str × Int) (p:Addr):Prop:=H p=some (.tup [.str c.1,.int c.2])
def gO:Sp:=fun vs H Q _=>∃(t c:Addr) (x:Dd) (y:An),vs=[.ref t,.ref c]/\H t=some (.tup x.vs)/\H c=some (.tup y.vs)/\An.Of x y ∧
 ∀(l:Addr) (ps:List Addr) (H':Hp),H l=none->H' l=some (.lst (ps.map V.ref))->Paired (Sq H') (hI x y) ps->Same H H'->Q (.ref l) H'
theorem Ke (y:An):nD y.vs 0=some (.str (lY y)):=by cases y <;> rfl
theorem oG {y:An} (h:lY y="is"):(∃m,y=.is1 m)∨∃l m,y=.is2 l m:=by
 cases y with
 | is1 m=>exact .inl ⟨m,rfl⟩
 | is2 l m=>exact .inr ⟨l,m,rfl⟩
 | short m=>exact absurd (show("short":Str)="is" from h) Zk
 | full m=>exact absurd (show("full":Str)="is" from h) Zk
 | no m=>exact absurd (show("no":Str)="is" from h) Zk
 | ok=>exact absurd (show("ok":Str)="is" from h) Zk
theorem uF (T:Txt K mg) (D:DefAt K mg "_law_changes" dJ ["_law_deed_here","_law_answer_here"]):aH P w K mg base 1 "_law_changes" ["_law_deed_here","_law_answer_here"] gO:=by
 refine D.go oA (fun vs H Q E h=>?_) (fun f cdv A outer s H vs Q E hr h=>?_)
 ·obtain⟨t,c,x,y,rfl,_⟩:=h;rfl
 ·obtain⟨t,c,x,y,rfl,gt,gc,hy,q⟩:=h
  refine⟨_,(R.ad (R.ar (R.ai R.ne (R.ix (R.ag (K:=K)) (R.v 1) R.aa) R.ae) (R.af (R.am (R.au R.ac))) R.av) (R.ad (R.ar (R.ai R.eq (R.ix (R.ag (K:=K)) (R.v 0) R.aa) R.ae) (R.af (R.am (R.au (R.U (R.al (R.U (R.ix (R.ag (K:=K)) (R.v 0) R.aa) (R.U (R.ay (R.ix (R.ag (K:=K)) (R.v 0) R.aa)) R.ac))) (R.U (R.al (R.U (R.ix (R.ag (K:=K)) (R.v 0) R.aa) (R.U (R.ix (R.ag (K:=K)) (R.v 0) R.aa) R.ac))) R.ac))))) R.av) (R.af (R.am (R.au (R.U (R.al (R.U (R.ix (R.ag (K:=K)) (R.v 0) (R.ay R.aa)) (R.U (R.ix (R.ao (K:=K)) (R.au (R.U (R.ix (R.ag (K:=K)) (R.v 0) (R.ay R.aa)) (R.U (R.ay (R.ix (R.ag (K:=K)) (R.v 0) (R.ay R.aa))) R.ac))) (R.bo R.dm rfl T.b_int kR (R.U (R.cz (R.bd (K:=K)) (R.ix (R.ag (K:=K)) (R.v 0) R.aa) (R.al (R.U R.ae (R.U R.ae R.ac)))) R.ac))) R.ac))) R.ac)))))),?_⟩
  refine⟨_,SqT.of gc,_,Ke y,?_⟩
  by_cases hw:lY y="is"
  ·show if (!decide (lY y="is"))=true then _ else _
   refine tK (by rw[decide_eq_true hw];rfl) ?_
   cases x with
   | add a n=>
    rcases oG hw with⟨m,rfl⟩ | ⟨l,m,rfl⟩
    ·refine⟨_,SqT.of gt,_,rfl,_,SqT.of gt,_,rfl,_,SqT.of gt,_,rfl,_,SqT.of gt,_,rfl,cP rfl,fun p hp=>⟨_,SqT.of (aN gt hp),_,rfl,aM rfl,fun tq Ha sa ga=>⟨tq,_,rfl,.inr (SqT.of ga),rfl,rfl,_,SqL.of (sa _ _ aA),_,rfl,aM rfl,fun c1 H1 s1 g1=>⟨cP rfl,fun l hl=>?_⟩⟩⟩⟩
     have S:=((aG hp).trans sa).trans s1
     exact q l [c1] _ (S.free hl) aA (.cons (aN g1 hl) .nil) (S.trans (aG hl))
    ·exact hy.elim
   | take a n=>
    rcases oG hw with⟨m,rfl⟩ | ⟨l,m,rfl⟩
    ·refine⟨_,SqT.of gt,_,rfl,_,SqT.of gt,_,rfl,_,SqT.of gt,_,rfl,_,SqT.of gt,_,rfl,cP rfl,fun p hp=>⟨_,SqT.of (aN gt hp),_,rfl,aM rfl,fun tq Ha sa ga=>⟨tq,_,rfl,.inr (SqT.of ga),rfl,rfl,_,SqL.of (sa _ _ aA),_,rfl,aM rfl,fun c1 H1 s1 g1=>⟨cP rfl,fun l hl=>?_⟩⟩⟩⟩
     have S:=((aG hp).trans sa).trans s1
     exact q l [c1] _ (S.free hl) aA (.cons (aN g1 hl) .nil) (S.trans (aG hl))
    ·exact hy.elim
   | send h a n=>
    rcases oG hw with⟨m,rfl⟩ | ⟨l,m,rfl⟩
    ·refine⟨_,SqT.of gt,_,rfl,_,SqT.of gt,_,rfl,_,SqT.of gt,_,rfl,_,SqT.of gt,_,rfl,cP rfl,fun p hp=>⟨_,SqT.of (aN gt hp),_,rfl,aM rfl,fun tq Ha sa ga=>⟨tq,_,rfl,.inr (SqT.of ga),rfl,rfl,_,SqL.of (sa _ _ aA),_,rfl,aM rfl,fun c1 H1 s1 g1=>⟨cP rfl,fun l hl=>?_⟩⟩⟩⟩
     have S:=((aG hp).trans sa).trans s1
     exact q l [c1] _ (S.free hl) aA (.cons (aN g1 hl) .nil) (S.trans (aG hl))
    ·exact hy.elim
   | fetch h a n=>
    rcases oG hw with⟨m,rfl⟩ | ⟨l,m,rfl⟩
    ·refine⟨_,SqT.of gt,_,rfl,_,SqT.of gt,_,rfl,_,SqT.of gt,_,rfl,_,SqT.of gt,_,rfl,cP rfl,fun p hp=>⟨_,SqT.of (aN gt hp),_,rfl,aM rfl,fun tq Ha sa ga=>⟨tq,_,rfl,.inr (SqT.of ga),rfl,rfl,_,SqL.of (sa _ _ aA),_,rfl,aM rfl,fun c1 H1 s1 g1=>⟨cP rfl,fun l hl=>?_⟩⟩⟩⟩
     have S:=((aG hp).trans sa).trans s1
     exact q l [c1] _ (S.free hl) aA (.cons (aN g1 hl) .nil) (S.trans (aG hl))
    ·exact hy.elim
   | move a b n=>
    rcases oG hw with⟨m,rfl⟩ | ⟨m',m,rfl⟩
    ·exact hy.elim
    ·refine⟨_,SqT.of gt,_,rfl,_,SqT.of gt,_,rfl,_,SqT.of gt,_,rfl,aM rfl,fun c1 H1 s1 g1=>⟨_,SqT.of (s1 _ _ gt),_,rfl,_,SqT.of (s1 _ _ gt),_,rfl,aM rfl,fun c2 H2 s2 g2=>⟨cP rfl,fun l hl=>?_⟩⟩⟩
     have S:=s1.trans s2
     exact q l [c1,c2] _ (S.free hl) aA (.cons (aN (s2 _ _ g1) hl) (.cons (aN g2 hl) .nil)) (S.trans (aG hl))
   | pass h g a n=>rcases oG hw with⟨m,rfl⟩ | ⟨m',m,rfl⟩ <;> exact hy.elim
  ·show if (!decide (lY y="is"))=true then _ else _
   refine Ce (by rw[decide_eq_false hw];rfl) ?_
   refine⟨cP rfl,fun l hl=>?_⟩
   have e:hI x y=[]:=by cases x <;> cases y <;> first | rfl | exact absurd rfl hw
   exact q l [] _ hl aA (by rw[e];exact .nil) (aG hl)
def eS (f:Str->Nat) (c:Str × Int):Str->Nat:=dR f c.1 ((f c.1:Int)+c.2).toNat
def sI (f:Str->Nat) (cs:List (Str × Int)):Str->Nat:=cs.foldl eS f
def xV:(Str->Nat)->List (Str × Int)->Prop
 | _,[]=>True
 | f,c::cs=>0<=(f c.1:Int)+c.2/\xV (eS f c) cs
theorem uG {f:Str->Nat} {x:Dd} {q:Bool} {y:An} (hx:x.Ok) (h:jJ f x q y):sI f (hI x y)=after f x y/\xV f (hI x y):=by
 rcases h with⟨rfl,h⟩ | ⟨rfl,h1,h2⟩
 ·cases x with
  | add a n=>
   simp only [bE]at h
   split at h <;> cases h
   ·exact⟨rfl,trivial⟩
   ·refine⟨?_,by show(0:Int)<=_+_;omega,trivial⟩
    show dR f a ((f a:Int)+(n:Int)).toNat=dR f a (f a+n)
    rw[show((f a:Int)+(n:Int)).toNat=f a+n by omega]
  | take a n=>
   simp only [bE]at h
   split at h <;> cases h
   ·exact⟨rfl,trivial⟩
   ·refine⟨?_,by show(0:Int)<=(f a:Int)+-(n:Int);omega,trivial⟩
    show dR f a ((f a:Int)+-(n:Int)).toNat=dR f a (f a - n)
    rw[show((f a:Int)+-(n:Int)).toNat=f a - n by omega]
  | move a b n=>
   have hab:b≠a:=fun z=>hx.2.2.1 z.symm
   simp only [bE]at h
   split at h
   ·cases h;exact⟨rfl,trivial⟩
   ·split at h <;> cases h
    ·exact⟨rfl,trivial⟩
    ·have eb:eS f (a,-(n:Int)) b=f b:=by unfold eS dR;exact if_neg hab
     refine⟨?_,by show(0:Int)<=(f a:Int)+-(n:Int);omega,?_,trivial⟩
     ·show eS (eS f (a,-(n:Int))) (b,(n:Int))=dR (dR f a (f a - n)) b (f b+n)
      have e1:eS f (a,-(n:Int))=dR f a (f a - n):=by
       unfold eS;rw[show((f a:Int)+-(n:Int)).toNat=f a - n by omega]
      unfold eS at eb ⊢
      dsimp only at eb ⊢
      rw[eb,show((f b:Int)+(n:Int)).toNat=f b+n by omega]
      unfold eS at e1;rw[e1]
     ·show(0:Int)<=(eS f (a,-(n:Int)) b:Int)+(n:Int)
      omega
  | send g a n=>
   simp only [bE]at h
   split at h <;> cases h
   exact⟨rfl,trivial⟩
  | fetch g a n=>
   simp only [bE]at h
   split at h <;> cases h
   exact⟨rfl,trivial⟩
  | pass g k a n=>cases h
 ·cases x with
  | add a n=>cases h2
  | take a n=>cases h2
  | move a b n=>cases h2
  | send g a n=>
   simp only [bE]at h1
   simp only [cS,List.mem_cons,List.not_mem_nil,or_false]at h2
   have hn:¬ f a<n:=by
    intro hh;rw[if_pos hh]at h1;cases h1
   rcases h2 with rfl | rfl
   ·exact⟨rfl,trivial⟩
   ·refine⟨?_,by show(0:Int)<=(f a:Int)+-(n:Int);omega,trivial⟩
    show dR f a ((f a:Int)+-(n:Int)).toNat=dR f a (f a - n)
    rw[show((f a:Int)+-(n:Int)).toNat=f a - n by omega]
  | fetch g a n=>
   simp only [cS,List.mem_cons,List.not_mem_nil,or_false]at h2
   rcases h2 with rfl | rfl
   ·exact⟨rfl,trivial⟩
   ·refine⟨?_,by show(0:Int)<=(f a:Int)+(n:Int);omega,trivial⟩
    show dR f a ((f a:Int)+(n:Int)).toNat=dR f a (f a+n)
    rw[show((f a:Int)+(n:Int)).toNat=f a+n by omega]
  | pass g k a n=>
   simp only [cS,List.mem_cons,List.not_mem_nil,or_false]at h2
   rcases h2 with rfl | rfl | rfl <;> exact⟨rfl,trivial⟩
theorem jZ (x:Dd) (y:An):(hI x y).length<=2:=by cases x <;> cases y <;> exact Nat.le_of_ble_eq_true rfl
def jK:Sp:=fun vs H Q _=>∃(bk t c:Addr) (kvs:List (bB × V)) (f:Str->Nat) (x:Dd) (y:An),vs=[.ref bk,.ref t,.ref c]/\H bk=some (.dK kvs)/\BookIs kvs f/\kvs.length<=900/\H t=some (.tup x.vs)/\H c=some (.tup y.vs)/\An.Of x y/\xV f (hI x y) ∧
 ∀(kvs':List (bB × V)) (H':Hp),H' bk=some (.dK kvs')->BookIs kvs' (sI f (hI x y))->kvs'.length<=kvs.length+2->K1 bk H H'->Q .non H'
theorem wG (T:Txt K mg) (cLchanges:aH P w K mg base 1 "_law_changes" ["_law_deed_here","_law_answer_here"] gO)
  (D:DefAt K mg "_law_changed" cO ["_law_book","_law_deed_here","_law_answer_here"]):aH P w K mg base 2 "_law_changed" ["_law_book","_law_deed_here","_law_answer_here"] jK:=by
 refine D.go bR (fun vs H Q E h=>?_) (fun f cdv A outer s H vs Q E hr h=>?_)
 ·obtain⟨bk,t,c,kvs,f,x,y,rfl,_⟩:=h;rfl
 ·obtain⟨bk,t,c,kvs,f,x,y,rfl,gb,hB,hl,gt,gc,hy,hG,q⟩:=h
  have hu1:=eY hr
  have hLchanges:=hr
  refine⟨_,(R.af (R.bh PassesOwn.never rfl (R.ax (K:=K) (R.fn cLchanges hLchanges rfl (R.U (R.v 1) (R.U (R.v 2) R.ac)))) (R.dq (K:=K) (n:=2) rfl (R.bz (R.gn (i:=3) bR.nd) (R.bz (R.gn (i:=4) bR.nd) R.dt))) (R.af (R.bq (R.op R.aq (R.bv hu1 (R.v 0) (R.v 3) R.aa) (R.v 4)) (R.br (R.v 0) (R.v 3) (R.cv hu1)))))),?_⟩
  refine⟨t,c,x,y,rfl,gt,gc,hy,fun l ps H1 fl g1 pp s1=>⟨l,rfl,⟨_,SqL.of g1⟩,?_⟩⟩
  have hbl:bk≠l:=aD gb fl
  have h2:=jZ x y
  have hpl:(hI x y).length=ps.length:=pp.length
  refine cA (aS K l (ps.map V.ref)) (fun i σ' H'=>∃(kvs':List (bB × V)) (g:Str->Nat) (o3 o4:Option V),σ'=[some (.ref bk),some (.ref t),some (.ref c),o3,o4]/\H' bk=some (.dK kvs')/\BookIs kvs' g/\kvs'.length<=kvs.length+i/\xV g ((hI x y).drop i)/\sI g ((hI x y).drop i)=sI f (hI x y)/\K1 bk H1 H'/\H' l=some (.lst (ps.map V.ref))) (fun i σ' H' ⟨_,_,_,_,_,_,_,_,_,_,_,e⟩=>SqL.of e)
   ⟨kvs,f,_,_,rfl,s1 _ _ gb,hB,bC _,hG,rfl,(fun _ _ e _=>e),g1⟩ ?_ ?_
  ·rintro i v σ' H2 hv ⟨kvs',g,o3,o4,rfl,gb2,hB2,hl2,hG2,ea,k2,gl2⟩
   rw[fS]at hv;cases hp:ps[i]? with
   | none=>rw[hp]at hv;cases hv
   | some p=>
    rw[hp]at hv;cases hv
    obtain⟨hi,ei⟩:=Zgs.mp hp
    obtain⟨hi',pv⟩:=Paired.get' (j:=i) pp hi
    rw[ei]at pv;generalize hcc:(hI x y)[i]=cc at pv;obtain⟨z,by_⟩:=cc
    have pv':H1 p=some (.tup [.str z,.int by_]):=pv
    have gp2:=k2 _ _ pv' (fun e=>by rw[e,s1 _ _ gb]at pv';cases pv')
    have ed:(hI x y).drop i=(z,by_)::(hI x y).drop (i+1):=by rw[List.drop_eq_getElem_cons hi',hcc]
    rw[ed]at hG2 ea;refine⟨p,_,rfl,SqT.of gp2,rfl,_,_,rfl,_,_,rfl,rfl,?_⟩
    obtain⟨o,ho,eo⟩:=dg gb2 hB2 z
    refine⟨bk,rfl,wF gb2,o,ho,?_⟩
    rw[eo];refine⟨bk,_,rfl,DPut.k (k:=Sum.inr z) gb2 (kI (m:=1000) Zo Zd),?_⟩
    have e0:(0:Int)<=(g z:Int)+by_:=hG2.1
    have hput:=hB2.put z ((g z:Int)+by_).toNat
    rw[Int.toNat_of_nonneg e0]at hput;refine⟨_,_,_,_,rfl,aA,hput,hU (cD _ _ _) Zo,hG2.2,ea,fun c' o' e' n'=>?_,?_⟩
    ·rw[aE n'];exact k2 _ _ e' n'
    ·rw[aE hbl.symm];exact gl2
  ·rintro σ' H2 ⟨kvs',g,o3,o4,rfl,gb2,hB2,hl2,hG2,ea,k2,gl2⟩
   rw[aR]at hl2 ea;rw[<- hpl,List.drop_length]at ea;refine q kvs' H2 gb2 ?_ Zo (fun c' o' e' n'=>k2 _ _ (s1 _ _ e') n')
   rw[<- ea];exact hB2
end
end KL
namespace KL
open PySem L2
section
variable {P:Program} {w:World} {K:W.Frag} {mg:Str->Option Value} {base:Heap}
def Kf:Dd->Nat->Dd
 | .add a _,m=>.add a m | .take a _,m=>.take a m | .move a b _,m=>.move a b m | .send h a _,m=>.send h a m | .fetch h a _,m=>.fetch h a m | .pass h g a _,m=>.pass h g a m
theorem Ec {x:Dd} {m:Nat} (h:x.Ok) (h1:1<=m) (h2:m<=1000000000000):(Kf x m).Ok:=by
 cases x with
 | add a n=>exact⟨h.1,h1,h2⟩
 | take a n=>exact⟨h.1,h1,h2⟩
 | move a b n=>exact⟨h.1,h.2.1,h.2.2.1,h1,h2⟩
 | send a b n=>exact⟨h.1,h.2.1,h1,h2⟩
 | fetch a b n=>exact⟨h.1,h.2.1,h1,h2⟩
 | pass a b c n=>exact⟨h.1,h.2.1,h.2.2.1,h.2.2.2.1,h1,h2⟩
theorem Ed (x:Dd) (m:Nat):iB x.vs none (some (-1))++[.int (m:Int)]=(Kf x m).vs:=by cases x <;> rfl
theorem Up (x:Dd):∃z:Str,nD x.vs (-2)=some (.str z):=by cases x <;> exact⟨_,rfl⟩
def oH:Sp:=fun vs H Q _=>∃(d b bk t:Addr) (kvs:List (bB × V)) (f:Str->Nat) (x:Dd),vs=[.ref d,.ref bk,.ref t]/\Dk H d b/\H bk=some (.dK kvs)/\BookIs kvs f/\H t=some (.tup x.vs)/\x.Ok ∧
 ∀(t':Addr) (x':Dd) (H':Hp),x'.Ok->H' t'=some (.tup x'.vs)->Fw d b H H'->Q (.ref t') H'
theorem Dk.dict {H:Hp} {d b a:Addr} {kvs:List (bB × V)} (D:Dk H d b) (g:H a=some (.dK kvs)):a≠d/\a≠b:=by
 obtain⟨ns,s,k,h1,h2,h3⟩:=D.ex
 exact⟨(fun e=>by rw[e,h1]at g;cases g),(fun e=>by rw[e,h2]at g;cases g)⟩
theorem Fw.dict {d b a:Addr} {H H':Hp} {kvs:List (bB × V)} (f:Fw d b H H') (g:H a=some (.dK kvs)):H' a=some (.dK kvs):=f.get g (Dk.dict f.d0 g).1 (Dk.dict f.d0 g).2
theorem Ee (T:Txt K mg) (cLdraw:aH P w K mg base 1 "_law_draw" ["_law_deck_here","_law_many"] bD)
  (D:DefAt K mg "_law_sized" fE ["_law_deck_here","_law_book","_law_deed_here"]):aH P w K mg base 2 "_law_sized" ["_law_deck_here","_law_book","_law_deed_here"] oH:=by
 refine D.go cJ (fun vs H Q E h=>?_) (fun f cdv A outer s H vs Q E hr h=>?_)
 ·obtain⟨d,b,bk,t,kvs,f,x,rfl,_⟩:=h;rfl
 ·obtain⟨d,b,bk,t,kvs,f,x,rfl,dk,gb,hB,gt,hx,q⟩:=h
  have hu1:=eY hr
  have hLdraw:=hr
  refine⟨_,(R.ad (R.ah (i:=3) cJ.nd (R.ix (R.ag (K:=K)) (R.v 2) (R.ay R.aa))) (R.ad (R.ar (R.ai R.eq (R.ix (R.ag (K:=K)) (R.v 2) R.aa) R.ae) (R.af (R.ah (i:=3) cJ.nd (R.ix (R.ag (K:=K)) (R.v 2) (R.op R.aq R.aa (R.fn cLdraw hLdraw rfl (R.U (R.v 0) (R.U R.aa R.ac))))))) R.av) (R.ad (R.ah (i:=4) cJ.nd (R.bv hu1 (R.v 1) (R.v 3) R.aa)) (R.ad (R.ah (i:=5) cJ.nd (R.au (R.U (R.ix (R.ag (K:=K)) (R.v 2) (R.ay R.aa)) (R.U (R.op R.aq R.aa (R.fn cLdraw hLdraw rfl (R.U (R.v 0) (R.U R.aa R.ac)))) (R.U (R.v 4) (R.U (R.op R.aq (R.v 4) R.aa) (R.U (R.op R.cj (R.op R.bg R.aa R.aa) (R.v 4)) (R.U (R.op R.aq (R.op R.cj (R.op R.bg R.aa R.aa) (R.v 4)) R.aa) R.ac)))))))) (R.ad (R.ah (i:=6) cJ.nd (R.ix (R.ao (K:=K)) (R.v 5) (R.fn cLdraw hLdraw rfl (R.U (R.v 0) (R.U R.aa R.ac))))) (R.af (R.am (R.op R.bu (R.sl R.sT (R.v 2) R.pn (R.ps (R.ay R.aa))) (R.al (R.U (R.aw (R.iu rfl) rfl T.b_max kQ (R.U R.aa (R.U (R.aw (R.fu rfl) rfl T.b_min Nk (R.U (R.op R.bg R.aa R.aa) (R.U (R.v 6) R.ac))) R.ac))) R.ac)))))))))),?_⟩
  obtain⟨z0,ez⟩:=Up x
  refine⟨_,SqT.of gt,_,ez,?_⟩
  dsimp only [aJ,oX];refine Nm (t:=yL _ _ _) (fun σ' H'=>∃z:Str,σ'=[some (.ref d),some (.ref bk),some (.ref t),some (.str z),none,none,none]/\Fw d b H H') (fun nx hnx=>?_) ?_
  ·refine⟨_,SqT.of gt,_,oE x,?_⟩
   show if decide (x.wd="move")=true then _ else _
   refine bQ (fun h=>?_) (fun _=>hnx _ _ ⟨z0,rfl,.refl dk⟩)
   refine⟨d,b,2,rfl,dk,Zd,Zd,fun r H1 r0 r1 D1 k1=>?_⟩
   have f1:=(Fw.refl dk).draw D1 k1
   have hw:=of_decide_eq_true h
   cases x with
   | move a b' n=>
    rcases(by omega:r=0∨r=1) with rfl | rfl
    ·exact⟨_,SqT.of (f1.tup gt),_,rfl,hnx _ _ ⟨a,rfl,f1⟩⟩
    ·exact⟨_,SqT.of (f1.tup gt),_,rfl,hnx _ _ ⟨b',rfl,f1⟩⟩
   | add a n=>exact absurd (show("add":Str)="move" from hw) Zk
   | take a n=>exact absurd (show("take":Str)="move" from hw) Zk
   | send a b n=>exact absurd (show("send":Str)="move" from hw) Zk
   | fetch a b n=>exact absurd (show("fetch":Str)="move" from hw) Zk
   | pass a b c n=>exact absurd (show("pass":Str)="move" from hw) Zk
  ·rintro σ' H1 ⟨z,rfl,f1⟩
   have gb1:=f1.dict gb
   have gt1:=f1.tup gt
   obtain⟨o,ho,eo⟩:=dg gb1 hB z
   refine⟨bk,rfl,wF gb1,o,ho,?_⟩
   rw[eo];dsimp only [aJ];refine⟨_,SqT.of gt1,_,Sl x,d,b,9,rfl,f1.dk,Zd,Zd,fun r H2 r0 r1 D2 k2=>⟨⟨Zd,Zd,Zd⟩,⟨Zd,Zd,Zd⟩,cP rfl,fun p hp=>?_⟩⟩
   have f2:=f1.draw D2 k2
   have pd:=D2.ne hp
   have f3:=f2.new (o:=.lst [.int (x.n:Int),.int (1+r),.int (f z:Int),.int ((f z:Int)+1),.int (10 ^ (12:Int).toNat - (f z:Int)),.int (10 ^ (12:Int).toNat - (f z:Int)+1)]) hp
   dsimp only [aJ];refine⟨d,b,6,rfl,f3.dk,Zd,Zd,fun r6 H4 i0 i1 D4 k4=>?_⟩
   have f4:=f3.draw D4 k4
   have gp:=k4 p _ aA pd.1 pd.2
   obtain⟨v,hv⟩:∃v:Int,nD [V.int (x.n:Int),.int (1+r),.int (f z:Int),.int ((f z:Int)+1),.int (10 ^ (12:Int).toNat - (f z:Int)),.int (10 ^ (12:Int).toNat - (f z:Int)+1)] r6=some (.int v):=by
    rcases six i0 i1 with rfl | rfl | rfl | rfl | rfl | rfl <;> exact⟨_,rfl⟩
   refine⟨_,SqL.of gp,_,hv,?_⟩
   dsimp only [aJ];have gt4:=f4.tup gt
   refine⟨_,gt4,fun p1 H5 s5 g5=>⟨⟨Zd,Zd,Zd⟩,aM rfl,fun p2 H6 s6 g6=>⟨_,_,s6 _ _ g5,g6,?_,fun p3 H7 s7 g7=>?_⟩⟩⟩
   ·cases x <;> exact Nat.le_of_ble_eq_true rfl
   have f7:=((f4.same s5).same s6).same s7
   obtain⟨m,em,m1,m2⟩:∃m:Nat,(if (if v<(10:Int) ^ (12:Int).toNat then v else (10:Int) ^ (12:Int).toNat) > 1 then (if v<(10:Int) ^ (12:Int).toNat then v else (10:Int) ^ (12:Int).toNat) else (1:Int))=(m:Int)/\1<=m/\m<=1000000000000:=by
    have e12:(10:Int) ^ (12:Int).toNat=1000000000000:=rfl
    rw[e12];by_cases h1:v<1000000000000
    ·rw[if_pos h1];by_cases h2:v > 1
     ·rw[if_pos h2];exact⟨v.toNat,Zo,Zo,Zo⟩
     ·rw[if_neg h2];exact⟨1,rfl,Zo,Zo⟩
    ·rw[if_neg h1];exact⟨1000000000000,Zd,Zo,Zo⟩
   rw[em,Ed]at g7;exact q p3 _ H7 (Ec hx m1 m2) g7 f7
def oJ (H:Hp) (e:Addr) (n:Nat) (t:Addr) (x:Dd) (q:Bool):Prop:=H e=some (.lst [.int (n:Int),.ref t,.bl q])/\H t=some (.tup x.vs)
def oK:Sp:=fun vs H Q _=>∃(d b bk e t:Addr) (kvs:List (bB × V)) (f:Str->Nat) (x:Dd) (n:Nat) (a:Bool),vs=[.ref d,.ref bk,.ref e]/\Dk H d b/\H bk=some (.dK kvs)/\BookIs kvs f/\oJ H e n t x a/\(a=true->x.far=true)/\e≠d/\e≠b ∧
 (∀y c H',jJ f x a y->Fw d b H H'->H' c=some (.tup (An.vs y))->Q (.ref c) H')/\(∀H',Fw d b H H'->Q .non H')
theorem wH {f:Str->Nat} {x:Dd} (h:x.far=false):bE f x≠none:=by
 cases x with
 | add a n=>simp only [bE];split <;> exact fun z=>nomatch z
 | take a n=>simp only [bE];split <;> exact fun z=>nomatch z
 | move a b n=>
  simp only [bE];split
  ·exact fun z=>nomatch z
  ·split <;> exact fun z=>nomatch z
 | send a b n=>cases h
 | fetch a b n=>cases h
 | pass a b c n=>cases h
theorem zT (f:Str->Nat) {x:Dd} (h:x.far=true):0<(cS f x).length:=by cases x <;> first | exact Nat.zero_lt_succ _ | cases h
theorem mO (x:Dd):oW (.str x.wd) [.str "send",.str "fetch",.str "pass"]=x.far:=by cases x <;> rfl
theorem Ef (T:Txt K mg) (cLdraw:aH P w K mg base 1 "_law_draw" ["_law_deck_here","_law_many"] bD) (cLearly:aH P w K mg base 1 "_law_early" ["_law_book","_law_deed_here"] uD) (cLlates:aH P w K mg base 1 "_law_lates" ["_law_book","_law_deed_here"] uE)
  (D:DefAt K mg "_law_right" fF ["_law_deck_here","_law_book","_law_one"]):aH P w K mg base 2 "_law_right" ["_law_deck_here","_law_book","_law_one"] oK:=by
 refine D.go eF (fun vs H Q E h=>?_) (fun f cdv A outer s H vs Q E hr h=>?_)
 ·obtain⟨d,b,bk,e,t,kvs,f,x,n,a,rfl,_⟩:=h;rfl
 ·obtain⟨d,b,bk,e,t,kvs,f,x,n,a,rfl,dk,gb,hB,⟨ge,gt⟩,ha,ed,eb,qs,qn⟩:=h
  have hLdraw:=hr
  have hLearly:=hr
  have hLlates:=hr
  refine⟨_,(R.ad (R.ah (i:=3) eF.nd (R.fn cLearly hLearly rfl (R.U (R.v 1) (R.U (R.ix (R.ao (K:=K)) (R.v 2) R.aa) R.ac)))) (R.ad (R.ah (i:=4) eF.nd (R.cz (R.bd (K:=K)) (R.ix (R.ag (K:=K)) (R.ix (R.ao (K:=K)) (R.v 2) R.aa) R.aa) (R.al (R.U R.ae (R.U R.ae (R.U R.ae R.ac)))))) (R.ad (R.ar (R.tw (R.bw (R.bj (R.ix (R.ao (K:=K)) (R.v 2) R.aa)) (R.da (R.ai R.ib (R.v 3) R.cn)))) (R.ad (R.ah (i:=5) eF.nd (R.fn cLlates hLlates rfl (R.U (R.v 1) (R.U (R.ix (R.ao (K:=K)) (R.v 2) R.aa) R.ac)))) (R.af (R.am (R.ix (R.ao (K:=K)) (R.v 5) (R.fn cLdraw hLdraw rfl (R.U (R.v 0) (R.U (R.aw (R.bc (K:=K)) rfl T.b_len bZ (R.U (R.v 5) R.ac)) R.ac))))))) R.av) (R.ad (R.ar (R.tw (R.cf (R.bj (R.ix (R.ao (K:=K)) (R.v 2) R.aa)) (R.df (R.tw (R.bw (R.ai R.ib (R.v 3) R.cn) (R.da (R.bj (R.v 4)))))))) (R.af (R.am R.cn)) R.av) (R.af (R.am (R.v 3))))))),?_⟩
  refine⟨_,SqL.of ge,_,rfl,bk,t,kvs,f,x,rfl,gb,hB,gt,fun y c H1 hy s1 gc=>?_,fun hy H1 s1=>?_⟩
  ·dsimp only [aJ];have ge1:=s1 _ _ ge
   have gt1:=s1 _ _ gt
   refine⟨_,SqL.of ge1,_,rfl,_,SqT.of gt1,_,oE x,aM rfl,fun tq H2 s2 g2=>⟨tq,_,rfl,.inr (SqT.of g2),rfl,rfl,?_⟩⟩
   have ge2:=s2 _ _ ge1
   have f2:=((Fw.refl dk).same s1).same s2
   show oX _ _ _ [some (.ref d),some (.ref bk),some (.ref e),some (.ref c),some (.bl (oW (.str x.wd) [.str "send",.str "fetch",.str "pass"])),none] H2
   rw[mO];refine⟨_,SqL.of ge2,_,rfl,?_⟩
   cases a with
   | true=>exact⟨_,SqL.of ge2,_,rfl,qn H2 f2⟩
   | false=>exact⟨_,SqL.of ge2,_,rfl,qs y c H2 (.inl ⟨rfl,hy⟩) f2 (s2 _ _ gc)⟩
  ·dsimp only [aJ];have ge1:=s1 _ _ ge
   have gt1:=s1 _ _ gt
   refine⟨_,SqL.of ge1,_,rfl,_,SqT.of gt1,_,oE x,aM rfl,fun tq H2 s2 g2=>⟨tq,_,rfl,.inr (SqT.of g2),rfl,rfl,?_⟩⟩
   have ge2:=s2 _ _ ge1
   have f2:=((Fw.refl dk).same s1).same s2
   have hfar:x.far=true:=by
    cases hh:x.far with
    | true=>rfl
    | false=>exact absurd hy (wH hh)
   show oX _ _ _ [some (.ref d),some (.ref bk),some (.ref e),some .non,some (.bl (oW (.str x.wd) [.str "send",.str "fetch",.str "pass"])),none] H2
   rw[mO,hfar];refine⟨_,SqL.of ge2,_,rfl,?_⟩
   cases a with
   | true=>
    refine⟨_,SqL.of ge2,_,rfl,bk,t,kvs,f,x,rfl,s2 _ _ (s1 _ _ gb),hB,s2 _ _ gt1,hfar,hy,fun l cs H3 fl gl pp s3=>?_⟩
    have f3:=f2.same s3
    have nl:=f2.dk.ne fl
    have hll:(cS f x).length=cs.length:=pp.length
    have hlp:0<(cS f x).length:=zT f hfar
    have hlq:(cS f x).length<=3:=by cases x <;> exact Nat.le_of_ble_eq_true rfl
    dsimp only [aJ];refine⟨_,.inl (SqL.of gl),d,b,(cs.length:Int),by rw[aR],f3.dk,Zo,Zo,fun r H4 r0 r1 D4 k4=>?_⟩
    have F4:=(Fw.refl f3.dk).draw D4 k4
    obtain⟨r,rfl⟩:=cV r0
    have hr':r<cs.length:=by omega
    obtain⟨hr2,pr⟩:=Paired.get' (j:=r) pp hr'
    refine⟨_,SqL.of (F4.get gl nl.1 nl.2),.ref cs[r],dX (by rw[fS,iJ hr'];rfl),?_⟩
    exact qs _ _ H4 (.inr ⟨rfl,hy,List.getElem_mem hr2⟩) (f3.trans F4) (F4.tup pr)
   | false=>exact⟨_,SqL.of ge2,_,rfl,qn H2 f2⟩
end
end KL
namespace KL
open PySem L2
section
variable {P:Program} {w:World} {K:W.Frag} {mg:Str->Option Value} {base:Heap}
def cG:RX->Str | .next _ _=>"next" | .has _ _=>"has" | .kept _ _ _ _ _ _=>"kept" | .came _ _ _ _ _=>"came" | .asked _=>"asked" | .done _ _ _=>"done"
def Iq:RX->V | .next n _=>.int (n:Int) | .has z _=>.str z | .kept n _ _ _ _ _=>.int (n:Int) | .came n _ _ _ _=>.int (n:Int) | .asked n=>.int (n:Int) | .done n _ _=>.int (n:Int)
def Oo:RX->V | .next _ t=>.int (t:Int) | .has _ m=>.int (m:Int) | .kept _ t _ _ _ _=>.int (t:Int) | .came _ t _ _ _=>.int (t:Int) | .asked _=>.non | .done _ t _=>.int (t:Int)
theorem eT {H:Hp} {a:Addr} {r:RX} (h:r.At H a):∃xs,H a=some (.tup xs)/\nD xs 0=some (.str (cG r))/\nD xs 1=some (Iq r)/\(Oo r≠.non->nD xs 2=some (Oo r)):=by
 cases r with
 | next n t=>exact⟨_,h,rfl,rfl,fun _=>rfl⟩
 | has z m=>exact⟨_,h,rfl,rfl,fun _=>rfl⟩
 | kept n t p k d y=>obtain⟨b,c,h1,h2,h3⟩:=h;exact⟨_,h1,rfl,rfl,fun _=>rfl⟩
 | came n t p k d=>obtain⟨b,h1,h2⟩:=h;exact⟨_,h1,rfl,rfl,fun _=>rfl⟩
 | asked n=>exact⟨_,h,rfl,rfl,fun z=>absurd rfl z⟩
 | done n t y=>obtain⟨b,h1,h2⟩:=h;exact⟨_,h1,rfl,rfl,fun _=>rfl⟩
def jL (rs:List RX):Str->Nat:=rs.foldl (fun f r=>match r with | .has z m=>dR f z m | _=>f) (fun _=>0)
inductive kA:List RX->(Str->Nat)->Prop
 | head {rs:List RX}:lA rs->kA rs (jL rs)
 | came {rs:List RX} {f:Str->Nat} {n t:Nat} {p k:Str} {x:Dd}:kA rs f->kA (rs++[.came n t p k x]) f
 | asked {rs:List RX} {f:Str->Nat} {n:Nat}:kA rs f->kA (rs++[.asked n]) f
 | done {rs:List RX} {f:Str->Nat} {n t t0:Nat} {p k:Str} {x:Dd} {q:Bool} {y:An}:kA rs f->.came n t0 p k x∈rs->jJ f x q y->kA (rs++[.done n t y]) (after f x y)
structure Un where
 n:Nat
 x:Dd
 q:Bool
 e:Addr
 t:Addr
structure LvP (rs:List RX) (f:Str->Nat) (num turn:Nat) (us:List Un):Prop where
 wh:RX.Whole rs
 ok:∀r∈rs,r.Ok
 lv:kA rs f
 fb:∀z,f z<=1000000000000
 cnum:∀n t p k x,.came n t p k x∈rs->n<=num
 knum:∀n t p k x y,.kept n t p k x y∈rs->n<=num
 trn:∀q∈rs,q.turn<=turn
 und:∀u∈us,u.x.Ok/\(∃t p k,.came u.n t p k u.x∈rs)/\(∀t y,.done u.n t y∉rs)/\(u.q=true↔.asked u.n∈rs)/\(u.q=true->u.x.far=true)
 nd:(us.map (·.n)).Nodup
 asn:∀n,.asked n∈rs->∃t p k x,.came n t p k x∈rs
 dnn:∀n t y,.done n t y∈rs->∃t p k x,.came n t p k x∈rs
theorem LvP.turn' {rs:List RX} {f:Str->Nat} {num turn turn':Nat} {us:List Un} (h:LvP rs f num turn us) (ht:turn<=turn'):LvP rs f num turn' us:=
 ⟨h.wh,h.ok,h.lv,h.fb,h.cnum,h.knum,fun q hq=>hU (h.trn q hq) ht,h.und,h.nd,h.asn,h.dnn⟩
theorem LvP.came {rs:List RX} {f:Str->Nat} {num turn n:Nat} {us:List Un} (h:LvP rs f num turn us) (hn:num<n) (hn2:n<=999999) (ht:turn<=1000000000000) {p k:Str} {x:Dd} {e t:Addr} (hp:eO p) (hk:rY k) (hx:x.Ok) :
  LvP (rs++[.came n turn p k x]) f n turn (us++[⟨n,x,false,e,t⟩]):=by
 have no1:.asked n∉rs:=fun m=>by obtain⟨t,p,k,x,m⟩:=h.asn n m;have:=h.cnum _ _ _ _ _ m;omega
 have no2:∀t y,.done n t y∉rs:=fun t y m=>by obtain⟨t,p,k,x,m⟩:=h.dnn n t y m;have:=h.cnum _ _ _ _ _ m;omega
 refine⟨h.wh.snoc ⟨fun n' t' p' k' d' m=>kI (h.cnum _ _ _ _ _ m) hn,fun t' p' k' d' y' m=>absurd (h.knum _ _ _ _ _ _ m) Zo,h.trn⟩,fun r hr=>?_,h.lv.came,h.fb,fun n' t' p' k' x' hr=>?_,fun n' t' p' k' x' y' hr=>?_,fun q hq=>?_,fun u hu=>?_,?_,fun n' hr=>?_,fun n' t' y' hr=>?_⟩
 ·rcases aF hr with hr | rfl
  ·exact h.ok r hr
  ·exact⟨Zo,hn2,ht,hp,hk,hx⟩
 ·rcases aF hr with hr | hr
  ·have:=h.cnum _ _ _ _ _ hr;omega
  ·cases hr;exact bC _
 ·rcases aF hr with hr | hr
  ·have:=h.knum _ _ _ _ _ _ hr;omega
  ·cases hr
 ·rcases aF hq with hq | rfl
  ·exact h.trn q hq
  ·exact bC _
 ·rcases aF hu with hu | rfl
  ·obtain⟨h1,⟨t1,p1,k1,h2⟩,h3,h4,h5⟩:=h.und u hu
   refine⟨h1,⟨t1,p1,k1,List.mem_append_left _ h2⟩,fun t' y' m=>?_,⟨fun z=>List.mem_append_left _ (h4.mp z),fun m=>?_⟩,h5⟩
   ·rcases aF m with m | m
    ·exact h3 _ _ m
    ·cases m
   ·rcases aF m with m | m
    ·exact h4.mpr m
    ·cases m
  ·refine⟨hx,⟨turn,p,k,List.mem_append_right _ iW⟩,fun t' y' m=>?_,⟨(fun z=>nomatch z),fun m=>?_⟩,(fun z=>nomatch z)⟩
   ·rcases aF m with m | m
    ·exact no2 _ _ m
    ·cases m
   ·rcases aF m with m | m
    ·exact absurd m no1
    ·cases m
 ·rw[dW];refine List.nodup_append.mpr ⟨h.nd,Zs,fun a ha b hb=>?_⟩
  obtain⟨u,hu,rfl⟩:=Zmm.mp ha
  obtain⟨_,⟨t1,p1,k1,h2⟩,_⟩:=h.und u hu
  have:=h.cnum _ _ _ _ _ h2
  have hb':b=n:=by simpa using hb
  omega
 ·rcases aF hr with hr | hr
  ·obtain⟨t,p,k,x,m⟩:=h.asn n' hr;exact⟨t,p,k,x,List.mem_append_left _ m⟩
  ·cases hr
 ·rcases aF hr with hr | hr
  ·obtain⟨t,p,k,x,m⟩:=h.dnn n' _ _ hr;exact⟨t,p,k,x,List.mem_append_left _ m⟩
  ·cases hr
theorem qJ {us:List Un} (h:(us.map (·.n)).Nodup) {i j:Nat} {u v:Un} (hi:us[i]?=some u) (hj:us[j]?=some v) (hn:i≠j):u.n≠v.n:=by
 intro e;obtain⟨hi1,hi2⟩:=Zgs.mp hi
 obtain⟨hj1,hj2⟩:=Zgs.mp hj
 have p:=List.pairwise_iff_getElem.mp h
 rcases Nat.lt_or_gt_of_ne hn with z | z
 ·have:=p i j (by simpa using hi1) (by simpa using hj1) z
  simp only [List.getElem_map,hi2,hj2]at this
  exact this e
 ·have:=p j i (by simpa using hj1) (by simpa using hi1) z
  simp only [List.getElem_map,hi2,hj2]at this
  exact this e.symm
theorem dS {α:Type} {us:List α} {j:Nat} {u v:α} (h:v∈us.set j u):v=u∨∃i,i≠j/\us[i]?=some v:=by
 obtain⟨i,hi,e⟩:=List.getElem_of_mem h
 rw[List.getElem_set]at e;split at e
 ·exact .inl e.symm
 ·rename_i hne
  rw[List.length_set]at hi;exact .inr ⟨i,fun z=>hne z.symm,by rw[iJ hi,e]⟩
theorem LvP.mark {rs:List RX} {f:Str->Nat} {num turn j:Nat} {us:List Un} {u:Un} (h:LvP rs f num turn us) (hu:us[j]?=some u) (hq:u.q=false) (hf:u.x.far=true) :
  LvP (rs++[.asked u.n]) f num turn (us.set j {u with q:=true }):=by
 have hm:=fT hu
 obtain⟨g1,⟨t1,p1,k1,g2⟩,g3,g4,g5⟩:=h.und u hm
 have no:.asked u.n∉rs:=fun m=>by rw[g4.mpr m]at hq;cases hq
 have ok1:=h.ok _ g2
 refine⟨h.wh.snoc ⟨⟨t1,p1,k1,u.x,g2,hf⟩,no,g3⟩,fun r hr=>?_,h.lv.asked,h.fb,fun n' t' p' k' x' hr=>?_,fun n' t' p' k' x' y' hr=>?_,fun q hq=>?_,fun v hv=>?_,?_,fun n' hr=>?_,fun n' t' y' hr=>?_⟩
 ·rcases aF hr with hr | rfl
  ·exact h.ok r hr
  ·exact⟨ok1.1,ok1.2.1⟩
 ·rcases aF hr with hr | hr
  ·exact h.cnum _ _ _ _ _ hr
  ·cases hr
 ·rcases aF hr with hr | hr
  ·exact h.knum _ _ _ _ _ _ hr
  ·cases hr
 ·rcases aF hq with hq | rfl
  ·exact h.trn q hq
  ·exact Nat.zero_le _
 ·rcases dS hv with rfl | ⟨i,hi,ei⟩
  ·refine⟨g1,⟨t1,p1,k1,List.mem_append_left _ g2⟩,fun t' y' m=>?_,⟨fun _=>List.mem_append_right _ iW,fun _=>rfl⟩,fun _=>hf⟩
   rcases aF m with m | m
   ·exact g3 _ _ m
   ·cases m
  ·obtain⟨h1,⟨t2,p2,k2,h2⟩,h3,h4,h5⟩:=h.und v (fT ei)
   have hne:=qJ h.nd ei hu hi
   refine⟨h1,⟨t2,p2,k2,List.mem_append_left _ h2⟩,fun t' y' m=>?_,⟨fun z=>List.mem_append_left _ (h4.mp z),fun m=>?_⟩,h5⟩
   ·rcases aF m with m | m
    ·exact h3 _ _ m
    ·cases m
   ·rcases aF m with m | m
    ·exact h4.mpr m
    ·injection m with m;exact absurd m hne
 ·have e:(us.set j {u with q:=true }).map (·.n)=us.map (·.n):=by
   obtain⟨hj1,hj2⟩:=Zgs.mp hu
   rw[List.map_set];apply List.ext_getElem Zs
   intro i h1 h2;rw[List.getElem_set];split
   ·rename_i z;subst z;simp [hj2]
   ·rfl
  rw[e];exact h.nd
 ·rcases aF hr with hr | hr
  ·obtain⟨t,p,k,x,m⟩:=h.asn n' hr;exact⟨t,p,k,x,List.mem_append_left _ m⟩
  ·cases hr;exact⟨t1,p1,k1,u.x,List.mem_append_left _ g2⟩
 ·rcases aF hr with hr | hr
  ·obtain⟨t,p,k,x,m⟩:=h.dnn n' _ _ hr;exact⟨t,p,k,x,List.mem_append_left _ m⟩
  ·cases hr
theorem LvP.done {rs:List RX} {f:Str->Nat} {num turn j:Nat} {us:List Un} {u:Un} {y:An} (h:LvP rs f num turn us) (hu:us[j]?=some u) (ht:turn<=1000000000000) (hy:jJ f u.x u.q y) :
  LvP (rs++[.done u.n turn y]) (after f u.x y) num turn (us.eraseIdx j):=by
 have hm:=fT hu
 obtain⟨g1,⟨t1,p1,k1,g2⟩,g3,g4,g5⟩:=h.und u hm
 obtain⟨r1,r2⟩:=uC h.fb g1 hy g5
 have ok1:=h.ok _ g2
 refine⟨h.wh.snoc ⟨h.trn,g3,t1,p1,k1,u.x,g2,r1,fun z=>⟨fun m=>(r2 z).mp (g4.mpr m),fun m=>g4.mp ((r2 z).mpr m)⟩⟩,fun r hr=>?_,h.lv.done g2 hy,Dz h.fb hy,fun n' t' p' k' x' hr=>?_,fun n' t' p' k' x' y' hr=>?_,fun q hq=>?_,fun v hv=>?_,?_,fun n' hr=>?_,fun n' t' y' hr=>?_⟩
 ·rcases aF hr with hr | rfl
  ·exact h.ok r hr
  ·exact⟨ok1.1,ok1.2.1,ht⟩
 ·rcases aF hr with hr | hr
  ·exact h.cnum _ _ _ _ _ hr
  ·cases hr
 ·rcases aF hr with hr | hr
  ·exact h.knum _ _ _ _ _ _ hr
  ·cases hr
 ·rcases aF hq with hq | rfl
  ·exact h.trn q hq
  ·exact bC _
 ·obtain⟨i,hi,ei⟩:=List.mem_eraseIdx_iff_getElem?.mp hv
  obtain⟨h1,⟨t2,p2,k2,h2⟩,h3,h4,h5⟩:=h.und v (fT ei)
  have hne:=qJ h.nd ei hu hi
  refine⟨h1,⟨t2,p2,k2,List.mem_append_left _ h2⟩,fun t' y' m=>?_,⟨fun z=>List.mem_append_left _ (h4.mp z),fun m=>?_⟩,h5⟩
  ·rcases aF m with m | m
   ·exact h3 _ _ m
   ·injection m with m;exact absurd m hne
  ·rcases aF m with m | m
   ·exact h4.mpr m
   ·cases m
 ·exact h.nd.sublist ((List.eraseIdx_sublist us j).map _)
 ·rcases aF hr with hr | hr
  ·obtain⟨t,p,k,x,m⟩:=h.asn n' hr;exact⟨t,p,k,x,List.mem_append_left _ m⟩
  ·cases hr
 ·rcases aF hr with hr | hr
  ·obtain⟨t,p,k,x,m⟩:=h.dnn n' _ _ hr;exact⟨t,p,k,x,List.mem_append_left _ m⟩
  ·cases hr;exact⟨t1,p1,k1,u.x,List.mem_append_left _ g2⟩
theorem LvP.start {rs:List RX} {num turn:Nat} (h:lA rs) (hk:∀n t p k x y,.kept n t p k x y∈rs->n<=num) (ht:∀n t,.next n t∈rs->t<=turn) (hf:∀z,jL rs z<=1000000000000):LvP rs (jL rs) num turn []:=by
 have no:∀r∈rs,r.rank=3->False:=fun r hr e=>by have:=h.rk r hr;omega
 refine⟨h.wh,h.ok,.head h,hf,fun n t p k x m=>(no _ m rfl).elim,hk,fun q hq=>?_,(fun u hu=>nomatch hu),List.nodup_nil,fun n m=>(no _ m rfl).elim,fun n t y m=>(no _ m rfl).elim⟩
 cases q with
 | next n t=>exact ht _ _ hq
 | has z m=>exact Nat.zero_le _
 | kept n t p k x y=>exact Nat.zero_le _
 | came n t p k x=>exact(no _ hq rfl).elim
 | asked n=>exact(no _ hq rfl).elim
 | done n t y=>exact(no _ hq rfl).elim
theorem zU {rs:List RX} (h:∀r∈rs,r.Ok) (z:Str):jL rs z<=1000000000000:=by
 have:∀(rs:List RX) (f:Str->Nat),(∀r∈rs,r.Ok)->(∀z,f z<=1000000000000)->∀z,rs.foldl (fun f r=>match r with | .has z m=>dR f z m | _=>f) f z<=1000000000000:=by
  intro rs;induction rs with
  | nil=>exact fun f _ hf=>hf
  | cons r rs ih=>
   intro f h hf;refine ih _ (fun r hr=>h r (mF _ hr)) ?_
   cases r with
   | has y m=>exact gN hf (h _ iW).2.2
   | _=>exact hf
 exact this rs _ h (fun _=>Nat.zero_le _) z
end
end KL
namespace KL
open PySem L2
section
variable {P:Program} {w:World} {K:W.Frag} {mg:Str->Option Value} {base:Heap}
theorem mP (x:Dd):∀v∈x.vs,eX v=true:=by
 intro v hv;cases x <;> simp only [Dd.vs,List.mem_cons,List.not_mem_nil,or_false]at hv <;> rcases hv with rfl | rfl | rfl | rfl | rfl <;> rfl
structure LvH (H:Hp) (d b ra bk ul:Addr) (H':Hp) (rs:List RX) (as:List Addr) (kvs:List (bB × V)) (f:Str->Nat) (us:List Un):Prop where
 d0:Dk H d b
 r0:∃xs,H ra=some (.lst xs)
 fbk:H bk=none
 ful:H ul=none
 fes:∀u∈us,H u.e=none
 nra:ra≠d/\ra≠b
 nbu:bk≠ul
 nue:∀u∈us,u.e≠ul/\u.e≠bk
 nde:(us.map (·.e)).Nodup
 dk:Dk H' d b
 rows:RxsAt H' ra rs as
 book:H' bk=some (.dK kvs)
 bis:BookIs kvs f
 und:H' ul=some (.lst ((us.map (·.e)).map V.ref))
 ent:∀u∈us,oJ H' u.e u.n u.t u.x u.q
 fr:∀c o,H c=some o->c≠d->c≠b->c≠ra->H' c=some o
section
variable {H H' H'':Hp} {d b ra bk ul:Addr} {rs:List RX} {as:List Addr} {kvs:List (bB × V)} {f:Str->Nat} {us:List Un}
theorem LvH.ra_ne (h:LvH H d b ra bk ul H' rs as kvs f us):ra≠bk/\ra≠ul/\∀u∈us,ra≠u.e:=by
 obtain⟨xs,r0⟩:=h.r0
 exact⟨aD r0 h.fbk,aD r0 h.ful,fun u hu=>aD r0 (h.fes u hu)⟩
theorem LvH.ne_d (h:LvH H d b ra bk ul H' rs as kvs f us) {c:Addr} (hc:H c=none):c≠d/\c≠b:=h.d0.ne hc
theorem LvH.fw (h:LvH H d b ra bk ul H' rs as kvs f us) (F:Fw d b H' H''):LvH H d b ra bk ul H'' rs as kvs f us:=by
 have nb:=h.ne_d h.fbk
 have nu:=h.ne_d h.ful
 refine⟨h.d0,h.r0,h.fbk,h.ful,h.fes,h.nra,h.nbu,h.nue,h.nde,F.dk,h.rows.keep F.tk (F.get h.rows.lst h.nra.1 h.nra.2),F.get h.book nb.1 nb.2,h.bis,F.get h.und nu.1 nu.2,fun u hu=>?_,fun c o e n1 n2 n3=>F.get (h.fr c o e n1 n2 n3) n1 n2⟩
 have ne:=h.ne_d (h.fes u hu)
 exact⟨F.get (h.ent u hu).1 ne.1 ne.2,F.tup (h.ent u hu).2⟩
theorem Dk.put' {o:HO} {a:Addr} (D:Dk H' d b) (h1:a≠d) (h2:a≠b):Dk (aI H' a o) d b:=by
 obtain⟨ns,s,k,e1,e2,e3⟩:=D.ex
 exact⟨ns,s,k,by rw[aE h1.symm];exact e1,by rw[aE h2.symm];exact e2,e3⟩
theorem LvH.row (h:LvH H d b ra bk ul H' rs as kvs f us) {r:RX} {a:Addr} (hr:r.At H' a):LvH H d b ra bk ul (aI H' ra (.lst (as.map V.ref++[.ref a]))) (rs++[r]) (as++[a]) kvs f us:=by
 obtain⟨n1,n2,n3⟩:=h.ra_ne
 have tk:TK H' (aI H' ra (.lst (as.map V.ref++[.ref a]))):=cR h.rows.lst
 refine⟨h.d0,h.r0,h.fbk,h.ful,h.fes,h.nra,h.nbu,h.nue,h.nde,Dk.put' h.dk h.nra.1 h.nra.2,h.rows.snoc tk (hr.tk tk) aA,by rw[aE n1.symm];exact h.book,h.bis,by rw[aE n2.symm];exact h.und,fun u hu=>⟨by rw[aE (n3 u hu).symm];exact(h.ent u hu).1,tk _ _ (h.ent u hu).2⟩,fun c o e m1 m2 m3=>by rw[aE m3];exact h.fr c o e m1 m2 m3⟩
theorem LvH.push (h:LvH H d b ra bk ul H' rs as kvs f us) {n:Nat} {x:Dd} {q:Bool} {e t:Addr} (he:oJ H' e n t x q) (hf:H e=none) (h1:e≠ul) (h2:e≠bk) (h3:∀u∈us,u.e≠e) :
  LvH H d b ra bk ul (aI H' ul (.lst ((us.map (·.e)).map V.ref++[.ref e]))) rs as kvs f (us++[⟨n,x,q,e,t⟩]):=by
 obtain⟨n1,n2,n3⟩:=h.ra_ne
 have nu:=h.ne_d h.ful
 have tk:TK H' (aI H' ul (.lst ((us.map (·.e)).map V.ref++[.ref e]))):=cR h.und
 refine⟨h.d0,h.r0,h.fbk,h.ful,fun u hu=>?_,h.nra,h.nbu,fun u hu=>?_,?_,Dk.put' h.dk nu.1 nu.2,h.rows.keep tk (by rw[aE n2];exact h.rows.lst),by rw[aE h.nbu];exact h.book,h.bis,by rw[aA,dW,dW];rfl,fun u hu=>?_,fun c o e' m1 m2 m3=>by rw[aE (aD e' h.ful)];exact h.fr c o e' m1 m2 m3⟩
 ·rcases aF hu with hu | rfl
  ·exact h.fes u hu
  ·exact hf
 ·rcases aF hu with hu | rfl
  ·exact h.nue u hu
  ·exact⟨h1,h2⟩
 ·rw[dW];refine List.nodup_append.mpr ⟨h.nde,Zs,fun a ha c hc=>?_⟩
  obtain⟨u,hu,rfl⟩:=Zmm.mp ha
  have:c=e:=by simpa using hc
  rw[this];exact h3 u hu
 ·rcases aF hu with hu | rfl
  ·exact⟨by rw[aE (h.nue u hu).1];exact(h.ent u hu).1,tk _ _ (h.ent u hu).2⟩
  ·exact⟨by rw[aE h1];exact he.1,tk _ _ he.2⟩
theorem Eg (h:(us.map (·.e)).Nodup) {i j:Nat} {u v:Un} (hi:us[i]?=some u) (hj:us[j]?=some v) (hn:i≠j):u.e≠v.e:=by
 intro e;obtain⟨hi1,hi2⟩:=Zgs.mp hi
 obtain⟨hj1,hj2⟩:=Zgs.mp hj
 have p:=List.pairwise_iff_getElem.mp h
 rcases Nat.lt_or_gt_of_ne hn with z | z
 ·have:=p i j (by simpa using hi1) (by simpa using hj1) z
  simp only [List.getElem_map,hi2,hj2]at this
  exact this e
 ·have:=p j i (by simpa using hj1) (by simpa using hi1) z
  simp only [List.getElem_map,hi2,hj2]at this
  exact this e.symm
theorem LvH.mark (h:LvH H d b ra bk ul H' rs as kvs f us) {j:Nat} {u:Un} (hu:us[j]?=some u) :
  LvH H d b ra bk ul (aI H' u.e (.lst [.int (u.n:Int),.ref u.t,.bl true])) rs as kvs f (us.set j {u with q:=true }):=by
 obtain⟨n1,n2,n3⟩:=h.ra_ne
 have hm:=fT hu
 have ne:=h.ne_d (h.fes u hm)
 have tk:TK H' (aI H' u.e (.lst [.int (u.n:Int),.ref u.t,.bl true])):=cR (h.ent u hm).1
 have em:(us.set j {u with q:=true }).map (·.e)=us.map (·.e):=by
  obtain⟨hj1,hj2⟩:=Zgs.mp hu
  rw[List.map_set];apply List.ext_getElem Zs
  intro i h1 h2;rw[List.getElem_set];split
  ·rename_i z;subst z;simp [hj2]
  ·rfl
 refine⟨h.d0,h.r0,h.fbk,h.ful,fun v hv=>?_,h.nra,h.nbu,fun v hv=>?_,by rw[em];exact h.nde,Dk.put' h.dk ne.1 ne.2,h.rows.keep tk (by rw[aE (n3 u hm)];exact h.rows.lst),by rw[aE (h.nue u hm).2.symm];exact h.book,h.bis,by rw[aE (h.nue u hm).1.symm,em];exact h.und,fun v hv=>?_,fun c o e' m1 m2 m3=>by rw[aE (aD e' (h.fes u hm))];exact h.fr c o e' m1 m2 m3⟩
 ·rcases dS hv with rfl | ⟨i,hi,ei⟩
  ·exact h.fes u hm
  ·exact h.fes v (fT ei)
 ·rcases dS hv with rfl | ⟨i,hi,ei⟩
  ·exact h.nue u hm
  ·exact h.nue v (fT ei)
 ·rcases dS hv with rfl | ⟨i,hi,ei⟩
  ·exact⟨aA,tk _ _ (h.ent u hm).2⟩
  ·have hv':=fT ei
   exact⟨by rw[aE (Eg h.nde ei hu hi)];exact(h.ent v hv').1,tk _ _ (h.ent v hv').2⟩
theorem LvH.drop (h:LvH H d b ra bk ul H' rs as kvs f us) (j:Nat):LvH H d b ra bk ul (aI H' ul (.lst (((us.map (·.e)).eraseIdx j).map V.ref))) rs as kvs f (us.eraseIdx j):=by
 obtain⟨n1,n2,n3⟩:=h.ra_ne
 have nu:=h.ne_d h.ful
 have tk:TK H' (aI H' ul (.lst (((us.map (·.e)).eraseIdx j).map V.ref))):=cR h.und
 have sub:∀u∈us.eraseIdx j,u∈us:=fun u hu=>List.mem_of_mem_eraseIdx hu
 have em:(us.eraseIdx j).map (·.e)=(us.map (·.e)).eraseIdx j:=by
  have:∀(us:List Un) (j:Nat),(us.eraseIdx j).map (·.e)=(us.map (·.e)).eraseIdx j:=by
   intro us;induction us with
   | nil=>intro j;simp
   | cons u us ih=>
    intro j;cases j with
    | zero=>simp
    | succ j=>rw[List.eraseIdx_cons_succ,List.map_cons,List.map_cons,List.eraseIdx_cons_succ,ih]
  exact this us j
 refine⟨h.d0,h.r0,h.fbk,h.ful,fun u hu=>h.fes u (sub u hu),h.nra,h.nbu,fun u hu=>h.nue u (sub u hu),h.nde.sublist ((List.eraseIdx_sublist us j).map _),Dk.put' h.dk nu.1 nu.2,h.rows.keep tk (by rw[aE n2];exact h.rows.lst),by rw[aE h.nbu];exact h.book,h.bis,by rw[aA,em],fun u hu=>⟨by rw[aE (h.nue u (sub u hu)).1];exact(h.ent u (sub u hu)).1,tk _ _ (h.ent u (sub u hu)).2⟩,fun c o e' m1 m2 m3=>by rw[aE (aD e' h.ful)];exact h.fr c o e' m1 m2 m3⟩
theorem LvH.pay (h:LvH H d b ra bk ul H' rs as kvs f us) {kvs':List (bB × V)} {f':Str->Nat} (k:K1 bk H' H'') (g:H'' bk=some (.dK kvs')) (hb:BookIs kvs' f'):LvH H d b ra bk ul H'' rs as kvs' f' us:=by
 obtain⟨n1,n2,n3⟩:=h.ra_ne
 have nb:=h.ne_d h.fbk
 have tk:TK H' H'':=fun a xs e=>k _ _ e (fun z=>by rw[z,h.book]at e;cases e)
 refine⟨h.d0,h.r0,h.fbk,h.ful,h.fes,h.nra,h.nbu,h.nue,h.nde,?_,h.rows.keep tk (k _ _ h.rows.lst n1),g,hb,k _ _ h.und h.nbu.symm,fun u hu=>⟨k _ _ (h.ent u hu).1 (h.nue u hu).2,tk _ _ (h.ent u hu).2⟩,fun c o e' m1 m2 m3=>k _ _ (h.fr c o e' m1 m2 m3) (aD e' h.fbk)⟩
 obtain⟨ns,s,k0,e1,e2,e3⟩:=h.dk.ex
 exact⟨ns,s,k0,k _ _ e1 nb.1.symm,k _ _ e2 nb.2.symm,e3⟩
theorem LvH.rem (h:LvH H d b ra bk ul H' rs as kvs f us) (hn:(us.map (·.n)).Nodup) {j:Nat} {u:Un} (hu:us[j]?=some u) {Q:VK} (q:Q .non (aI H' ul (.lst (((us.map (·.e)).eraseIdx j).map V.ref)))):eQ (.ref ul) [.ref u.e] H' Q:=by
 have hm:=fT hu
 refine⟨us.map (·.e),j,h.und,by rw[fS,hu];rfl,h.nde,fun c hc hne=>?_,q⟩
 obtain⟨v,hv,rfl⟩:=Zmm.mp hc
 obtain⟨i,hi,ei⟩:=List.getElem_of_mem hv
 have hv':us[i]?=some v:=by rw[iJ hi,ei]
 have hij:i≠j:=fun z=>hne (by rw[z]at hv';rw[hu]at hv';cases hv';rfl)
 refine⟨(v.n:Int),(u.n:Int),[.ref v.t,.bl v.q],[.ref u.t,.bl u.q],(h.ent v hv).1,(h.ent u hm).1,?_,rfl,fun i u' v' e1 e2=>?_⟩
 ·have:=qJ hn hv' hu hij;omega
 ·match i,e1,e2 with
  | 0,e1,e2=>
   cases e1;cases e2
   exact .inr ⟨v.t,u.t,_,_,rfl,rfl,(h.ent v hv).2,(h.ent u hm).2,fun j x y h1 h2=>⟨mP v.x x (fT h1),mP u.x y (fT h2)⟩⟩
  | 1,e1,e2=>cases e1;cases e2;exact .inl ⟨rfl,rfl⟩
  | i+2,e1,e2=>cases e1
end
end
end KL
namespace KL
open PySem L2
section
variable {P:Program} {w:World} {K:W.Frag} {mg:Str->Option Value} {base:Heap}
theorem wI {rs:List RX} (h:RX.Whole rs) {n t:Nat} {p k:Str} {x:Dd} {y:An} (hm:.kept n t p k x y∈rs):∃n0 t0,RX.next n0 t0∈rs/\n<n0:=by
 induction h with
 | nil=>cases hm
 | snoc hw hf ih=>
  rcases aF hm with hm | rfl
  ·obtain⟨n0,t0,h1,h2⟩:=ih hm;exact⟨n0,t0,List.mem_append_left _ h1,h2⟩
  ·obtain⟨_,⟨n0,t0,h1,h2,_⟩,_⟩:=hf;exact⟨n0,t0,List.mem_append_left _ h1,h2⟩
def fH (rs:List RX):List (bB × V):=rs.filterMap fun r=>match r with | .has z m=>some (Sum.inr z,.int (m:Int)) | _=>none
theorem cT:∀(rs:List RX) (kvs:List (bB × V)) (f:Str->Nat),BookIs kvs f->BookIs (aL kvs (fH rs)) (rs.foldl (fun f r=>match r with | .has z m=>dR f z m | _=>f) f)
 | [],kvs,f,h=>h
 | r::rs,kvs,f,h=>by
  cases r with
  | has z m=>exact cT rs _ _ (h.put z m)
  | next n t=>exact cT rs _ _ h
  | kept n t p k x y=>exact cT rs _ _ h
  | came n t p k x=>exact cT rs _ _ h
  | asked n=>exact cT rs _ _ h
  | done n t y=>exact cT rs _ _ h
def Eh:RX->List (bB × V) | .has z m=>[(Sum.inr z,.int (m:Int))] | _=>[]
theorem qK {r:RX} (h:cG r≠"has"):Eh r=[]:=by cases r <;> first | rfl | exact absurd rfl h
theorem gP (rs:List RX) (r:RX):fH (rs++[r])=fH rs++Eh r:=by
 unfold fH;rw[List.filterMap_append];cases r <;> rfl
theorem wJ {r:RX} (h:cG r="has"):∃z m,r=.has z m:=by
 cases r with
 | has z m=>exact⟨z,m,rfl⟩
 | next n t=>exact absurd (show("next":Str)="has" from h) Zk
 | kept n t p k x y=>exact absurd (show("kept":Str)="has" from h) Zk
 | came n t p k x=>exact absurd (show("came":Str)="has" from h) Zk
 | asked n=>exact absurd (show("asked":Str)="has" from h) Zk
 | done n t y=>exact absurd (show("done":Str)="has" from h) Zk
theorem sJ {r:RX} (h:cG r="next"):∃n t,r=.next n t:=by
 cases r with
 | next n t=>exact⟨n,t,rfl⟩
 | has z m=>exact absurd (show("has":Str)="next" from h) Zk
 | kept n t p k x y=>exact absurd (show("kept":Str)="next" from h) Zk
 | came n t p k x=>exact absurd (show("came":Str)="next" from h) Zk
 | asked n=>exact absurd (show("asked":Str)="next" from h) Zk
 | done n t y=>exact absurd (show("done":Str)="next" from h) Zk
theorem xW {r:RX} (h:cG r="kept"):∃n t p k x y,r=.kept n t p k x y:=by
 cases r with
 | kept n t p k x y=>exact⟨n,t,p,k,x,y,rfl⟩
 | has z m=>exact absurd (show("has":Str)="kept" from h) Zk
 | next n t=>exact absurd (show("next":Str)="kept" from h) Zk
 | came n t p k x=>exact absurd (show("came":Str)="kept" from h) Zk
 | asked n=>exact absurd (show("asked":Str)="kept" from h) Zk
 | done n t y=>exact absurd (show("done":Str)="kept" from h) Zk
theorem aP {α:Type} {xs:List α} {i:Nat} {x:α} (h:xs[i]?=some x):xs.take (i+1)=xs.take i++[x]:=by rw[List.take_add_one,h];rfl
theorem LvH.men {H H':Hp} {d b ra bk ul lm:Addr} {rs:List RX} {as:List Addr} {kvs:List (bB × V)} {f:Str->Nat} {us:List Un} {M:List Addr} (h:LvH H d b ra bk ul H' rs as kvs f us) (hM:MenusAt H lm M) (h1:d∉M) (h2:b∉M) (h3:ra∉M):MenusAt H' lm M:=
 hM.keep fun c hc o e=>h.fr c o e (fun z=>h1 (z ▸ hc)) (fun z=>h2 (z ▸ hc)) (fun z=>h3 (z ▸ hc))
def Op (H:Hp) (d b ra lm bk ul wa:Addr) (many i:Nat) (σ':St) (H':Hp):Prop:=∃(rs:List RX) (as:List Addr) (kvs:List (bB × V)) (f:Str->Nat) (us:List Un) (num turn:Nat) (o9 o10 o11 o12 o13:Option V),σ'=[some (.ref d),some (.ref ra),some (.ref lm),some (.int (many:Int)),some (.ref bk),some (.ref ul),some (.ref wa),some (.int (num:Int)),some (.int (turn:Int)),o9,o10,o11,o12,o13]/\LvH H d b ra bk ul H' rs as kvs f us/\LvP rs f num turn us/\rs.length<=13+i/\num<=900006+9*i/\turn<=500000000000+9*i/\kvs.length<=13+2*i/\us.length<=i
theorem Ir (T:Txt K mg) (cLdraw:aH P w K mg base 1 "_law_draw" ["_law_deck_here","_law_many"] bD) (cLdeed:aH P w K mg base 3 "_law_deed" ["_law_deck_here","_law_names","_law_houses"] iR) (cLspot:aH P w K mg base 2 "_law_spot" ["_law_deck_here","_law_menus_here"] iU) (cLsized:aH P w K mg base 2 "_law_sized" ["_law_deck_here","_law_book","_law_deed_here"] oH)
  {fa:Addr} {cdv:Value} {A:Around} {outer:List Env} {s:Shared} {H0:Hp} {E:XK} (hr:Room 3 (A.deeper (PyProof.Rows.envOfC "_law_lived" (aB bA) s.heap.objs.size fa cdv))) :
  ∃t,XB (cW mH P w K mg base ["_law_deck_here","_law_rows","_law_menus_here","_law_many","_law_book","_law_under","_law_words_here","_law_number","_law_turn","_law_k","_law_way","_law_deed_here","_law_one","_law_answer_here"] "_law_lived" (aB bA) fa cdv A outer s H0 E).nox (Vc (tV (Tg (tV (aQ bA) 5)) 2)) t ∧
  ∀(D:hZ) (H H9:Hp) (d b ra lm bk ul wa:Addr) (M:List Addr) (many i way num turn turn':Nat) (rs:List RX) (as:List Addr) (kvs:List (bB × V)) (f:Str->Nat) (us:List Un) (o11 o12 o13:Option V),MenusAt H lm M->d∉M->b∉M->ra∉M->i<30->LvH H d b ra bk ul H9 rs as kvs f us->LvP rs f num turn' us->rs.length<=13+i->num<=900006+9*i->turn<=500000000000+9*i->kvs.length<=13+2*i->us.length<=i->turn<=turn'->turn'<=turn+9->(∀ σ' H',Op H d b ra lm bk ul wa many (i+1) σ' H'->D.nx σ' H') →
   t D [some (.ref d),some (.ref ra),some (.ref lm),some (.int (many:Int)),some (.ref bk),some (.ref ul),some (.ref wa),some (.int (num:Int)),some (.int (turn':Int)),some (.int (i:Int)),some (.int (way:Int)),o11,o12,o13] H9:=by
 have hLdraw:Room 1 _:=hr.mono Zd
 have hLdeed:Room 3 _:=hr.mono Zd
 have hLspot:Room 2 _:=hr.mono Zd
 have hLsized:Room 2 _:=hr.mono Zd
 have hu:=hr.units0
 have hu64:=hr.units
 refine⟨_,(R.ad (R.ah (i:=7) aU.nd (R.op R.aq (R.op R.aq (R.v 7) R.aa) (R.ix (R.ao (K:=K)) (R.au (R.U R.aa (R.U R.aa (R.U (R.fn cLdraw hLdraw rfl (R.U (R.v 0) (R.U R.aa R.ac))) R.ac)))) (R.fn cLdraw hLdraw rfl (R.U (R.v 0) (R.U R.aa R.ac)))))) (R.ad (R.ah (i:=11) aU.nd (R.fn cLsized hLsized rfl (R.U (R.v 0) (R.U (R.v 4) (R.U (R.fn cLdeed hLdeed rfl (R.U (R.v 0) (R.U (R.ix (R.ao (K:=K)) (R.v 2) R.aa) (R.U (R.ix (R.ao (K:=K)) (R.v 2) R.aa) R.ac)))) R.ac))))) (R.ad (R.az (R.ba (K:=K) PySem.F.plainAttrs_list PySem.F.slot_list_append PySem.F.type_list_append R.bi (R.v 1) (R.U (R.op R.bu (R.op R.bu (R.al (R.U R.ae (R.U (R.v 7) (R.U (R.v 8) R.ac)))) (R.fn cLspot hLspot rfl (R.U (R.v 0) (R.U (R.v 2) R.ac)))) (R.al (R.U (R.v 11) R.ac))) R.ac))) (R.af (R.az (R.ba (K:=K) PySem.F.plainAttrs_list PySem.F.slot_list_append PySem.F.type_list_append R.bi (R.v 5) (R.U (R.au (R.U (R.v 7) (R.U (R.v 11) (R.U R.bl R.ac)))) R.ac))))))),?_⟩
 intro D H H9 d b ra lm bk ul wa M many i way num turn turn' rs as kvs f us o11 o12 o13 hM oD oB oR hi L9 P8 l1 l2 l3 l4 l5 t1 t2 nxt;refine bF (fun σ' H'=>∃(m:Nat),σ'=[some (.ref d),some (.ref ra),some (.ref lm),some (.int (many:Int)),some (.ref bk),some (.ref ul),some (.ref wa),some (.int (m:Int)),some (.int (turn':Int)),some (.int (i:Int)),some (.int (way:Int)),o11,o12,o13]/\num<m/\m<=num+9/\LvH H d b ra bk ul H' rs as kvs f us) (fun nx' hnx'=>?_) ?_
 ·refine⟨d,b,9,rfl,L9.dk,Zd,Zd,fun r8 H8 x0 x1 D8 k8=>⟨cP rfl,fun p hp=>⟨d,b,3,rfl,D8.new hp,Zd,Zd,fun r9 Ha y0 y1 D9 k9=>?_⟩⟩⟩
  obtain⟨r8,rfl⟩:=cV x0
  have hpd:=D8.ne hp
  have gp:=k9 p _ aA hpd.1 hpd.2
  have La:=L9.fw ((((Fw.refl L9.dk).draw D8 k8).new hp).draw D9 k9)
  rcases(by omega:r9=0∨r9=1∨r9=2) with rfl | rfl | rfl
  ·exact⟨_,SqL.of gp,_,rfl,hnx' _ _ ⟨num+1,rfl,Zo,Zo,La⟩⟩
  ·exact⟨_,SqL.of gp,_,rfl,hnx' _ _ ⟨num+1,rfl,Zo,Zo,La⟩⟩
  ·exact⟨_,SqL.of gp,_,rfl,hnx' _ _ ⟨num+1+r8,rfl,Zo,Zo,La⟩⟩
 rintro σ' Ha ⟨m,rfl,m1,m2,La⟩
 have hMa:=La.men hM oD oB oR
 obtain⟨a0,a1,a2,a3,ws,us',ps,ks,eM,h0,h1,h2,h3,h4,mw,mu,_⟩:=hMa.ex
 have nd:∀c∈M,c≠d/\c≠b:=fun c hc=>⟨(fun z=>oD (z ▸ hc)),(fun z=>oB (z ▸ hc))⟩
 have i0:a0∈M:=by rw[eM];simp
 have i1:a1∈M:=by rw[eM];simp
 refine⟨_,SqL.of h0,_,rfl,_,SqL.of h0,_,rfl,d,b,a0,a1,ws,us',rfl,La.dk,h1,h2,⟨(nd a0 i0).1,(nd a0 i0).2,(nd a1 i1).1,(nd a1 i1).2⟩,mw,mu,fun td xd Hb hxd gxd fb=>?_⟩
 have Lb:=La.fw fb
 refine⟨d,b,bk,td,kvs,f,xd,rfl,Lb.dk,Lb.book,Lb.bis,gxd,hxd,fun t' x' Hc hx' gx' fc=>?_⟩
 have Lc:=Lb.fw fc
 dsimp only [aJ];refine⟨.inl ⟨rfl,_,SqL.of Lc.rows.lst⟩,aM rfl,fun q1 Hd sd gd=>?_⟩
 have Ld:=Lc.fw ((Fw.refl Lc.dk).same sd)
 refine⟨d,b,lm,M,rfl,Ld.dk,Ld.men hM oD oB oR,oD,oB,fun q2 pp kk He hpp hkk ge fe=>?_⟩
 refine⟨_,_,fe.tup gd,ge,Nat.le_of_ble_eq_true rfl,fun q3 Hf sf gf=>⟨aM rfl,fun q4 Hg sg gg=>⟨_,_,sg _ _ gf,gg,Nat.le_of_ble_eq_true rfl,fun q5 Hh sh gh=>?_⟩⟩⟩
 have Fh:=(((fe.same sf).same sg).same sh)
 have Lh:=Ld.fw Fh
 have lr:=Lh.rows.len
 refine⟨ra,_,_,rfl,rfl,Lh.rows.lst,by rw[aR];exact kI (m:=1000) Zo Zd,?_⟩
 have Li:=Lh.row (r:=.came m turn' pp kk x') (a:=q5) ⟨t',gh,Fh.tup (sd _ _ gx')⟩
 have gti:(aI Hh ra (.lst (as.map V.ref++[.ref q5]))) t'=some (.tup x'.vs):=cR Lh.rows.lst _ _ (Fh.tup (sd _ _ gx'))
 generalize aI Hh ra (.lst (as.map V.ref++[.ref q5]))=Hi at Li gti;refine⟨.inl ⟨rfl,_,SqL.of Li.und⟩,cP rfl,fun e he=>?_⟩
 have Lj:=Li.fw ((Fw.refl Li.dk).new (o:=.lst [.int (m:Int),.ref t',.bl false]) he)
 have ge':oJ (aI Hi e (.lst [.int (m:Int),.ref t',.bl false])) e m t' x' false:=⟨aA,aN gti he⟩
 have eul:e≠ul:=(aD Li.und he).symm
 have ebk:e≠bk:=(aD Li.book he).symm
 have eus:∀u∈us,u.e≠e:=fun u hu=>aD (Li.ent u hu).1 he
 have fe0:H e=none:=by
  cases hh:H e with
  | none=>rfl
  | some o=>
   have hed:=Li.dk.ne he
   have:e≠ra:=(aD Li.rows.lst he).symm
   rw[Li.fr e o hh hed.1 hed.2 this]at he;cases he
 refine⟨ul,_,_,rfl,rfl,Lj.und,by rw[aR,aR];exact kI (m:=1000) Zo Zd,?_⟩
 exact nxt _ _ ⟨_,_,kvs,f,_,m,turn',_,_,_,_,_,rfl,Lj.push ge' fe0 eul ebk eus,P8.came m1 Zo Zo hpp hkk hx',by simp;omega,Zo,Zo,Zo,by simp;omega⟩
end
end KL
namespace KL
open PySem L2
section
variable {P:Program} {w:World} {K:W.Frag} {mg:Str->Option Value} {base:Heap}
theorem Iu (T:Txt K mg) (cLdraw:aH P w K mg base 1 "_law_draw" ["_law_deck_here","_law_many"] bD) (cLright:aH P w K mg base 2 "_law_right" ["_law_deck_here","_law_book","_law_one"] oK) (cLchanged:aH P w K mg base 2 "_law_changed" ["_law_book","_law_deed_here","_law_answer_here"] jK)
  {fa:Addr} {cdv:Value} {A:Around} {outer:List Env} {s:Shared} {H0:Hp} {E:XK} (hr:Room 3 (A.deeper (PyProof.Rows.envOfC "_law_lived" (aB bA) s.heap.objs.size fa cdv))) :
  ∃t,XB (cW mH P w K mg base ["_law_deck_here","_law_rows","_law_menus_here","_law_many","_law_book","_law_under","_law_words_here","_law_number","_law_turn","_law_k","_law_way","_law_deed_here","_law_one","_law_answer_here"] "_law_lived" (aB bA) fa cdv A outer s H0 E).nox (Vd (tV (Tg (tV (aQ bA) 5)) 2)) t ∧
  ∀(D:hZ) (H H9:Hp) (d b ra lm bk ul wa:Addr) (M:List Addr) (many i way num turn turn':Nat) (rs:List RX) (as:List Addr) (kvs:List (bB × V)) (f:Str->Nat) (us:List Un) (o11 o12 o13:Option V),MenusAt H lm M->d∉M->b∉M->ra∉M->i<30->LvH H d b ra bk ul H9 rs as kvs f us->LvP rs f num turn' us->rs.length<=13+i->num<=900006+9*i->turn<=500000000000+9*i->kvs.length<=13+2*i->us.length<=i->turn<=turn'->turn'<=turn+9->us≠[]->(∀ σ' H',Op H d b ra lm bk ul wa many (i+1) σ' H'->D.nx σ' H') →
   t D [some (.ref d),some (.ref ra),some (.ref lm),some (.int (many:Int)),some (.ref bk),some (.ref ul),some (.ref wa),some (.int (num:Int)),some (.int (turn':Int)),some (.int (i:Int)),some (.int (way:Int)),o11,o12,o13] H9:=by
 have hLdraw:Room 1 _:=hr.mono Zd
 have hLright:Room 2 _:=hr.mono Zd
 have hLchanged:Room 2 _:=hr.mono Zd
 have hu:=hr.units0
 have hu64:=hr.units
 refine⟨_,(R.ad (R.ah (i:=12) aU.nd (R.ix (R.ao (K:=K)) (R.v 5) (R.fn cLdraw hLdraw rfl (R.U (R.v 0) (R.U (R.aw (R.bc (K:=K)) rfl T.b_len bZ (R.U (R.v 5) R.ac)) R.ac))))) (R.ad (R.ah (i:=13) aU.nd (R.fn cLright hLright rfl (R.U (R.v 0) (R.U (R.v 4) (R.U (R.v 12) R.ac))))) (R.af (R.ar (R.tw (R.bw (R.ai R.eq (R.v 10) R.aa) (R.bw (R.cq (R.bj (R.ix (R.ao (K:=K)) (R.v 12) R.aa))) (R.da (R.ai (R.bd (K:=K)) (R.ix (R.ag (K:=K)) (R.ix (R.ao (K:=K)) (R.v 12) R.aa) R.aa) (R.al (R.U R.ae (R.U R.ae (R.U R.ae R.ac))))))))) (R.ad (R.az (R.ba (K:=K) PySem.F.plainAttrs_list PySem.F.slot_list_append PySem.F.type_list_append R.bi (R.v 1) (R.U (R.al (R.U R.ae (R.U (R.ix (R.ao (K:=K)) (R.v 12) R.aa) R.ac))) R.ac))) (R.af (R.bq R.bl (R.br (R.v 12) R.aa R.fh)))) (R.af (R.ar (R.ai R.fk (R.v 13) R.cn) (R.ad (R.az (R.ba (K:=K) PySem.F.plainAttrs_list PySem.F.slot_list_append PySem.F.type_list_append R.bi (R.v 1) (R.U (R.al (R.U R.ae (R.U (R.ix (R.ao (K:=K)) (R.v 12) R.aa) (R.U (R.v 8) (R.U (R.v 13) R.ac))))) R.ac))) (R.ad (R.az (R.fn cLchanged hLchanged rfl (R.U (R.v 4) (R.U (R.ix (R.ao (K:=K)) (R.v 12) R.aa) (R.U (R.v 13) R.ac))))) (R.af (R.az (R.ba (K:=K) PySem.F.plainAttrs_list PySem.F.slot_list_remove PySem.F.type_list_remove (R.el hu64) (R.v 5) (R.U (R.v 12) R.ac)))))) R.av)))))),?_⟩
 intro D H H9 d b ra lm bk ul wa M many i way num turn turn' rs as kvs f us o11 o12 o13 hM oD oB oR hi L9 P8 l1 l2 l3 l4 l5 t1 t2 hne nxt;have hpos:0<us.length:=by cases us with | nil=>exact absurd rfl hne | cons _ _=>exact Nat.succ_pos _
 refine⟨_,.inl (SqL.of L9.und),d,b,(us.length:Int),by rw[aR,aR],L9.dk,Zo,Zo,fun r Ha r0 r1 Da ka=>?_⟩
 have La:=L9.fw ((Fw.refl L9.dk).draw Da ka)
 obtain⟨j,rfl⟩:=cV r0
 have hj:j<us.length:=by omega
 obtain⟨u,huj⟩:∃u,us[j]?=some u:=⟨us[j],iJ hj⟩
 have hum:=fT huj
 obtain⟨g1,⟨tc,pc,kc,g2⟩,g3,g4,g5⟩:=P8.und u hum
 refine⟨_,SqL.of La.und,.ref u.e,dX (by rw[fS,fS,huj];rfl),?_⟩
 dsimp only [aJ];refine bF (fun σ' H'=>∃(v:V),σ'=[some (.ref d),some (.ref ra),some (.ref lm),some (.int (many:Int)),some (.ref bk),some (.ref ul),some (.ref wa),some (.int (num:Int)),some (.int (turn':Int)),some (.int (i:Int)),some (.int (way:Int)),o11,some (.ref u.e),some v]/\LvH H d b ra bk ul H' rs as kvs f us/\(v=.non∨∃y c,v=.ref c/\jJ f u.x u.q y/\H' c=some (.tup y.vs))) (fun nx' hnx'=>?_) ?_
 ·have ned:=La.ne_d (La.fes u hum)
  exact⟨d,b,bk,u.e,u.t,kvs,f,u.x,u.n,u.q,rfl,La.dk,La.book,La.bis,La.ent u hum,g5,ned.1,ned.2,fun y c H' hy ff gc=>hnx' _ _ ⟨.ref c,rfl,La.fw ff,.inr ⟨y,c,rfl,hy,gc⟩⟩,fun H' ff=>hnx' _ _ ⟨.non,rfl,La.fw ff,.inl rfl⟩⟩
 rintro σ' Hb ⟨v,rfl,Lb,hvv⟩
 refine tW (fun c H'=>LvH H d b ra bk ul H' rs as kvs f us/\TK Hb H'/\(c=true->u.q=false/\u.x.far=true)) (fun k hk=>?_) ?_ ?_
 ·have en:=(Lb.ent u hum)
  refine bQ (fun _=>?_) (fun _=>hk _ _ ⟨Lb,.refl,(fun z=>nomatch z)⟩)
  refine⟨_,SqL.of en.1,_,rfl,?_⟩
  show if (!u.q)=true then _ else _
  refine bQ (fun hq=>?_) (fun _=>hk _ _ ⟨Lb,.refl,(fun z=>nomatch z)⟩)
  refine⟨_,SqL.of en.1,_,rfl,_,SqT.of en.2,_,oE u.x,aM rfl,fun tq Hc sc gc=>⟨tq,_,rfl,.inr (SqT.of gc),rfl,rfl,?_⟩⟩
  refine hk _ _ ⟨Lb.fw ((Fw.refl Lb.dk).same sc),Same.tk sc,fun z=>⟨by simpa using hq,?_⟩⟩
  rw[<- mO];exact z
 ·rintro Hc ⟨Lc,tkc,hc⟩
  obtain⟨hq,hf⟩:=hc rfl
  refine⟨.inl ⟨rfl,_,SqL.of Lc.rows.lst⟩,_,SqL.of (Lc.ent u hum).1,_,rfl,aM rfl,fun ta Hd sd gd=>?_⟩
  have Ld:=Lc.fw ((Fw.refl Lc.dk).same sd)
  have lr:=Ld.rows.len
  refine⟨ra,_,_,rfl,rfl,Ld.rows.lst,by rw[aR];exact kI (m:=1000) Zo Zd,?_⟩
  have Le:=Ld.row (r:=.asked u.n) (a:=ta) gd
  generalize aI Hd ra (.lst (as.map V.ref++[.ref ta]))=He at Le;refine⟨u.e,_,2,2,rfl,rfl,(Le.ent u hum).1,rfl,?_⟩
  exact nxt _ _ ⟨_,_,kvs,f,_,num,turn',_,_,_,_,_,rfl,Le.mark huj,P8.mark huj hq hf,by simp;omega,Zo,Zo,Zo,by rw[List.length_set];omega⟩
 ·rintro Hc ⟨Lc,tkc,hc⟩
  rcases hvv with rfl | ⟨y,cc,rfl,hy,gcc⟩
  ·exact nxt _ _ ⟨rs,as,kvs,f,us,num,turn',_,_,_,_,_,rfl,Lc,P8,Zo,Zo,Zo,Zo,Zo⟩
  ·obtain⟨r1,r2⟩:=uC P8.fb g1 hy g5
   obtain⟨ea,hG⟩:=uG g1 hy
   refine⟨.inl ⟨rfl,_,SqL.of Lc.rows.lst⟩,_,SqL.of (Lc.ent u hum).1,_,rfl,aM rfl,fun ta Hd sd gd=>?_⟩
   have Ld:=Lc.fw ((Fw.refl Lc.dk).same sd)
   have lr:=Ld.rows.len
   have gcd:=sd _ _ (tkc _ _ gcc)
   refine⟨ra,_,_,rfl,rfl,Ld.rows.lst,by rw[aR];exact kI (m:=1000) Zo Zd,?_⟩
   have Le:=Ld.row (r:=.done u.n turn' y) (a:=ta) ⟨cc,gd,gcd⟩
   have gce:(aI Hd ra (.lst (as.map V.ref++[.ref ta]))) cc=some (.tup y.vs):=cR Ld.rows.lst _ _ gcd
   generalize aI Hd ra (.lst (as.map V.ref++[.ref ta]))=He at Le gce;refine⟨_,SqL.of (Le.ent u hum).1,_,rfl,bk,u.t,cc,kvs,f,u.x,y,rfl,Le.book,Le.bis,Zo,(Le.ent u hum).2,gce,r1,hG,fun kvs' Hf gf bf lf kf=>?_⟩
   have Lf:=Le.pay kf gf bf
   refine⟨.inl ⟨rfl,_,SqL.of Lf.und⟩,?_⟩
   dsimp only [jP,vJ,vr];show eQ (.ref ul) [.ref u.e] Hf _
   refine Lf.rem P8.nd huj ?_
   rw[ea]at Lf;exact nxt _ _ ⟨_,_,kvs',_,_,num,turn',_,_,_,_,_,rfl,Lf.drop j,P8.done huj Zo hy,by simp;omega,Zo,Zo,Zo,by have:=List.length_eraseIdx_le us j;omega⟩
end
end KL
namespace KL
open PySem L2
section
variable {P:Program} {w:World} {K:W.Frag} {mg:Str->Option Value} {base:Heap}
def uH:Sp:=fun vs H Q _=>∃(d b ra lm:Addr) (M:List Addr) (rs:List RX) (as:List Addr) (many:Nat),vs=[.ref d,.ref ra,.ref lm,.int (many:Int)]/\Dk H d b/\RxsAt H ra rs as/\lA rs/\MenusAt H lm M/\d∉M/\b∉M/\ra∉M/\ra≠d/\ra≠b/\many<=30 ∧
 ∀(rs':List RX) (as':List Addr) (f:Str->Nat) (H':Hp),RxsAt H' ra rs' as'->RX.Whole rs'->(∀r∈rs',r.Ok)->kA rs' f->rs'.length<=43->Dk H' d b->(∀c o,H c=some o->c≠d->c≠b->c≠ra->H' c=some o)->Q (.ref ra) H'
theorem Ei (T:Txt K mg) (cLdraw:aH P w K mg base 1 "_law_draw" ["_law_deck_here","_law_many"] bD) (cLdeed:aH P w K mg base 3 "_law_deed" ["_law_deck_here","_law_names","_law_houses"] iR)
  (cLspot:aH P w K mg base 2 "_law_spot" ["_law_deck_here","_law_menus_here"] iU) (cLsized:aH P w K mg base 2 "_law_sized" ["_law_deck_here","_law_book","_law_deed_here"] oH)
  (cLright:aH P w K mg base 2 "_law_right" ["_law_deck_here","_law_book","_law_one"] oK) (cLchanged:aH P w K mg base 2 "_law_changed" ["_law_book","_law_deed_here","_law_answer_here"] jK)
  (D:DefAt K mg "_law_lived" bA ["_law_deck_here","_law_rows","_law_menus_here","_law_many"]):aH P w K mg base 4 "_law_lived" ["_law_deck_here","_law_rows","_law_menus_here","_law_many"] uH:=by
 refine D.go aU (fun vs H Q E h=>?_) (fun f cdv A outer s H vs Q E hr h=>?_)
 ·obtain⟨d,b,ra,lm,M,rs,as,many,rfl,_⟩:=h;rfl
 ·obtain⟨d,b,ra,lm,M,rs0,as0,many,rfl,dk,R0,hd0,hM,oD,oB,oR,nrd,nrb,hmany,q⟩:=h
  have hLdraw:Room 1 _:=hr.mono Zd
  have hLdeed:Room 3 _:=hr.mono Zd
  have hLspot:Room 2 _:=hr.mono Zd
  have hLsized:Room 2 _:=hr.mono Zd
  have hLright:Room 2 _:=hr.mono Zd
  have hLchanged:Room 2 _:=hr.mono Zd
  have hu:=hr.units0
  have hu64:=hr.units
  have l0:=hd0.len
  have la0:=R0.len
  obtain⟨tc1,h1,p1⟩:=Ir (P:=P) (w:=w) (base:=base) T cLdraw cLdeed cLspot cLsized (fa:=f) (outer:=outer) (H0:=H) (E:=E) hr
  obtain⟨tc2,h2,p2⟩:=Iu (P:=P) (w:=w) (base:=base) T cLdraw cLright cLchanged (fa:=f) (outer:=outer) (H0:=H) (E:=E) hr
  refine⟨_,(R.ad (R.ah (i:=4) aU.nd (R.bo (R.dy (K:=K) rfl) rfl T.b_dict rN (R.U (R.bb rfl (js:=[none]) (N:=["_law_row"]) (CompScope.by (aB bA) ["_law_deck_here","_law_rows","_law_menus_here","_law_many","_law_book","_law_under","_law_words_here","_law_number","_law_turn","_law_k","_law_way","_law_deed_here","_law_one","_law_answer_here"] rfl rfl Zk) (aT rfl) (R.ax (K:=K) (R.v 1)) (fun C s₂ H₂ fp=>⟨(R.gn (i:=0) (show(["_law_row"]:List Str).Nodup by decide +kernel)),(R.be (R.ai R.eq (R.ix (R.ag (K:=K)) (R.v 0) R.aa) R.ae)),(R.al (R.U (R.ix (R.ag (K:=K)) (R.v 0) R.aa) (R.U (R.ix (R.ag (K:=K)) (R.v 0) R.aa) R.ac)))⟩)) R.ac))) (R.ad (R.ah (i:=5) aU.nd (R.au R.ac)) (R.ad (R.ah (i:=6) aU.nd (R.sl (R.fg (K:=K)) (R.au (R.U R.ae (R.U R.ae R.ac))) R.pn (R.ps (R.op R.aq R.aa (R.fn cLdraw hLdraw rfl (R.U (R.v 0) (R.U R.aa R.ac))))))) (R.ad (R.ah (i:=7) aU.nd (R.aw (R.di (K:=K) rfl) rfl T.b_max kQ (R.U (R.op R.bn (R.bb rfl (js:=[none,some 6]) (N:=["_law_row","_law_words_here"]) (CompScope.by (aB bA) ["_law_deck_here","_law_rows","_law_menus_here","_law_many","_law_book","_law_under","_law_words_here","_law_number","_law_turn","_law_k","_law_way","_law_deed_here","_law_one","_law_answer_here"] rfl rfl Zk) (aT rfl) (R.ax (K:=K) (R.v 1)) (fun C s₂ H₂ fp=>⟨(R.gn (i:=0) (show(["_law_row","_law_words_here"]:List Str).Nodup by decide +kernel)),(R.be (R.ai (R.bd (K:=K)) (R.ix (R.ag (K:=K)) (R.v 0) R.aa) (R.v 1))),(R.ix (R.ag (K:=K)) (R.v 0) R.aa)⟩)) (R.au (R.U R.aa R.ac))) R.ac))) (R.ad (R.ah (i:=8) aU.nd (R.aw (R.di (K:=K) rfl) rfl T.b_max kQ (R.U (R.op R.bn (R.bb rfl (js:=[none]) (N:=["_law_row"]) (CompScope.by (aB bA) ["_law_deck_here","_law_rows","_law_menus_here","_law_many","_law_book","_law_under","_law_words_here","_law_number","_law_turn","_law_k","_law_way","_law_deed_here","_law_one","_law_answer_here"] rfl rfl Zk) (aT rfl) (R.ax (K:=K) (R.v 1)) (fun C s₂ H₂ fp=>⟨(R.gn (i:=0) (show(["_law_row"]:List Str).Nodup by decide +kernel)),(R.be (R.ai R.eq (R.ix (R.ag (K:=K)) (R.v 0) R.aa) R.ae)),(R.ix (R.ag (K:=K)) (R.v 0) R.aa)⟩)) (R.au (R.U R.aa R.ac))) R.ac))) (R.ad (R.bh PassesOwn.never rfl (R.de rfl T.b_range (R.U (R.v 3) R.ac)) (R.gn (i:=9) aU.nd) (R.ad (R.ah (i:=10) aU.nd (R.fn cLdraw hLdraw rfl (R.U (R.v 0) (R.U R.aa R.ac)))) (R.ad (R.ah (i:=8) aU.nd (R.op R.aq (R.v 8) (R.ix (R.ao (K:=K)) (R.au (R.U R.aa (R.U R.aa (R.U R.aa (R.U (R.fn cLdraw hLdraw rfl (R.U (R.v 0) (R.U R.aa R.ac))) R.ac))))) (R.fn cLdraw hLdraw rfl (R.U (R.v 0) (R.U R.aa R.ac)))))) (R.af (R.ar (R.tw (R.cf (R.ai R.lt (R.v 10) R.aa) (R.df (R.ai (R.ic (K:=K) hu) (R.v 5) (R.au R.ac)))))
   h1
   h2))))) (R.af (R.am (R.v 1))))))))),?_⟩
  refine bF (fun σ' H'=>∃(bk:Addr) (kvs:List (bB × V)),σ'=[some (.ref d),some (.ref ra),some (.ref lm),some (.int (many:Int)),some (.ref bk),none,none,none,none,none,none,none,none,none]/\H bk=none/\H' bk=some (.dK kvs)/\BookIs kvs (jL rs0)/\kvs.length<=13/\Same H H') (fun nx hnx=>?_) ?_
  ·refine⟨ra,rfl,⟨_,SqL.of R0.lst⟩,?_⟩
   refine aZ (aS K ra (as0.map V.ref)) (by rw[aR];omega) (fun i ys H'=>∃zs:List W,ys=zs.map (fun z=>V.ref z.1)/\Pj H' zs/\zs.map (·.2)=fH (rs0.take i)/\Same H H'/\zs.length<=i) (fun i ys H' ⟨zs,e,_,_,s',l'⟩=>⟨SqL.of (s' _ _ R0.lst),by rw[e,aR];exact l'⟩) ⟨[],rfl,(fun _ h=>nomatch h),rfl,(fun _ _ e=>e),bC _⟩ (fun i x ys H' hx ⟨zs,e,hw,ez,s',l'⟩=>?_) (fun ys H' ⟨zs,e,hw,ez,s',l'⟩=>?_)
   ·obtain⟨a,r,rfl,ha,hrr,hat⟩:=(R0.same s').get hx
    obtain⟨xs,g,x0,x1,x2⟩:=eT hat
    have etk:=aP hrr
    dsimp only [aJ];refine⟨_,SqT.of g,_,x0,?_⟩
    show if decide (cG r="has")=true then _ else _
    refine bQ (fun h=>?_) (fun h=>?_)
    ·obtain⟨z,m,rfl⟩:=wJ (of_decide_eq_true h)
     refine⟨_,SqT.of g,_,x1,_,SqT.of g,_,x2 (fun z=>nomatch z),aM rfl,fun tp H2 s2 g2=>?_⟩
     refine⟨zs++[(tp,(Sum.inr z,.int (m:Int)))],by rw[e,dW];rfl,fun y hy=>?_,?_,s'.trans s2,by simp;omega⟩
     ·rcases aF hy with hy | rfl
      ·exact s2 _ _ (hw y hy)
      ·exact g2
     ·rw[dW,ez,etk,gP];rfl
    ·refine⟨zs,e,hw,?_,s',Zo⟩
     rw[ez,etk,gP,qK (of_decide_eq_false h),List.append_nil]
   ·intro p hp;have gp:(aI H' p (.lst ys)) p=some (.lst (zs.map fun z=>V.ref z.1)):=by rw[aA,e]
    have s1:Same H (aI H' p (.lst ys)):=s'.trans (aG hp)
    have hw1:Pj (aI H' p (.lst ys)) zs:=fun z hz=>aN (hw z hz) hp
    generalize aI H' p (.lst ys)=H1 at gp s1 hw1;rw[aR]at l';refine⟨zs,SqL.of gp,hw1,Zo,fun bk hbk=>?_⟩
    refine hnx _ _ ⟨bk,_,rfl,s1.free hbk,aA,?_,?_,s1.trans (aG hbk)⟩
    ·rw[ez,aR,<- la0,jD (bC _)];exact cT rs0 [] _ (fun z=>rfl)
    ·have:=cM (zs.map (·.2)) []
     rw[aR]at this;simp at this
     omega
  rintro σ' H1 ⟨bk,kvs0,rfl,fbk,gbk,bis0,lk0,s1⟩
  have f1:=(Fw.refl dk).same s1
  refine⟨cP rfl,fun ul hul=>?_⟩
  have ful:=s1.free hul
  have nbu:bk≠ul:=aD gbk hul
  have f2:=f1.new (o:=.lst []) hul
  have gul:(aI H1 ul (.lst [])) ul=some (.lst []):=aA
  replace gbk:=aN (u:=.lst []) gbk hul
  dsimp only [aJ];generalize aI H1 ul (.lst [])=H2 at f2 gul gbk;refine bF (fun σ' H'=>∃(wa:Addr) (wz:List Str),σ'=[some (.ref d),some (.ref ra),some (.ref lm),some (.int (many:Int)),some (.ref bk),some (.ref ul),some (.ref wa),none,none,none,none,none,none,none]/\H' wa=some (.lst (wz.map V.str))/\(wz=[("kept":Str)]∨wz=[("kept":Str),"next"])/\wa≠d/\wa≠b/\Fw d b H2 H') (fun nx hnx=>?_) ?_
  ·refine⟨cP rfl,fun p hp=>⟨d,b,2,rfl,f2.dk.new hp,Zd,Zd,fun r H3 r0 r1 D3 k3=>?_⟩⟩
   have pd:=f2.dk.ne hp
   have F3:=((Fw.refl f2.dk).new (o:=.lst [.str "kept",.str "next"]) hp).draw D3 k3
   have gp:=k3 p _ aA pd.1 pd.2
   rcases(by omega:r=0∨r=1) with rfl | rfl
   ·refine⟨_,SqL.of gp,fun wa hwa=>hnx _ _ ⟨wa,["kept"],rfl,aA,.inl rfl,(F3.dk.ne hwa).1,(F3.dk.ne hwa).2,F3.new hwa⟩⟩
   ·refine⟨_,SqL.of gp,fun wa hwa=>hnx _ _ ⟨wa,["kept","next"],rfl,aA,.inr rfl,(F3.dk.ne hwa).1,(F3.dk.ne hwa).2,F3.new hwa⟩⟩
  rintro σ' H3 ⟨wa,wz,rfl,gwa,hwz,nwd,nwb,F3⟩
  have f3:=f2.trans F3
  have R3:=R0.keep f3.tk (f3.get R0.lst nrd nrb)
  refine bF (fun σ' H'=>∃(num:Nat),σ'=[some (.ref d),some (.ref ra),some (.ref lm),some (.int (many:Int)),some (.ref bk),some (.ref ul),some (.ref wa),some (.int (num:Int)),none,none,none,none,none,none]/\num<=900006/\(∀n t p k x y,.kept n t p k x y∈rs0->n<=num)/\Fw d b H2 H') (fun nx hnx=>?_) ?_
  ·refine⟨ra,rfl,⟨_,SqL.of R3.lst⟩,?_⟩
   refine aZ (aS K ra (as0.map V.ref)) (by rw[aR];omega) (fun i ys H'=>H'=H3/\∃ns:List Nat,ys=ns.map (fun n:Nat=>V.int (n:Int))/\ns.length<=i/\(∀n∈ns,n<=900006)/\∀n t p k x y,.kept n t p k x y∈rs0.take i->n∈ns) (fun i ys H' ⟨e0,ns,e,l',_⟩=>⟨by rw[e0];exact SqL.of R3.lst,by rw[e,aR];exact l'⟩) ⟨rfl,[],rfl,bC _,(fun _ h=>nomatch h),(fun _ _ _ _ _ _ h=>nomatch h)⟩ (fun i x ys H' hx ⟨e0,ns,e,l',hb',hk'⟩=>?_) (fun ys H' ⟨e0,ns,e,l',hb',hk'⟩=>?_)
   ·subst e0;obtain⟨a,r,rfl,ha,hrr,hat⟩:=R3.get hx
    obtain⟨xs,g,x0,x1,x2⟩:=eT hat
    have etk:=aP hrr
    have hrm:r∈rs0:=fT hrr
    dsimp only [aJ];refine⟨_,SqT.of g,_,x0,wa,_,rfl,.inl (SqL.of gwa),rfl,by rcases hwz with rfl | rfl <;> rfl,?_⟩
    have yes:∀n:Nat,Iq r=.int (n:Int)->n<=900006->(∀n' t p k x y,.kept n' t p k x y∈rs0.take (i+1)->n'∈ns++[n])->(∃xs,SqT K H' a xs/\∃v,nD xs 1=some v/\(H'=H'/\∃ns':List Nat,ys++[v]=ns'.map (fun n:Nat=>V.int (n:Int))/\ns'.length<=i+1/\(∀n∈ns',n<=900006)/\∀n t p k x y,.kept n t p k x y∈rs0.take (i+1)->n∈ns')):=fun n e1 hn hk2=>by
     refine⟨_,SqT.of g,_,x1,rfl,ns++[n],by rw[e,dW,e1];rfl,by simp;omega,fun m hm=>?_,hk2⟩
     rcases aF hm with hm | rfl
     ·exact hb' m hm
     ·exact hn
    have no:(∀n' t p k x y,r≠.kept n' t p k x y)->H'=H'/\∃ns':List Nat,ys=ns'.map (fun n:Nat=>V.int (n:Int))/\ns'.length<=i+1/\(∀n∈ns',n<=900006)/\∀n t p k x y,.kept n t p k x y∈rs0.take (i+1)->n∈ns':=fun hne=>by
     refine⟨rfl,ns,e,Zo,hb',fun n t p k x y hm=>?_⟩
     rw[etk]at hm;rcases aF hm with hm | hm
     ·exact hk' _ _ _ _ _ _ hm
     ·exact absurd hm.symm (hne _ _ _ _ _ _)
    show if oW (.str (cG r)) (wz.map V.str)=true then _ else _
    cases r with
    | kept n t p k x y=>
     refine Ce (by rcases hwz with rfl | rfl <;> rfl) ?_
     refine yes n rfl ?_ (fun n' t' p' k' x' y' hm=>?_)
     ·have h1:=hd0.ok _ hrm
      have:∃n0 t0,RX.next n0 t0∈rs0/\n<n0:=wI hd0.wh hrm
      obtain⟨n0,t0,hm0,hlt⟩:=this
      have:=hd0.nx _ _ hm0
      omega
     ·rw[etk]at hm;rcases aF hm with hm | hm
      ·exact List.mem_append_left _ (hk' _ _ _ _ _ _ hm)
      ·cases hm;exact List.mem_append_right _ iW
    | next n t=>
     rcases hwz with rfl | rfl
     ·exact tK rfl (no (fun _ _ _ _ _ _ z=>nomatch z))
     ·refine Ce rfl (yes n rfl (hd0.nx _ _ hrm).1 (fun n' t' p' k' x' y' hm=>?_))
      rw[etk]at hm;rcases aF hm with hm | hm
      ·exact List.mem_append_left _ (hk' _ _ _ _ _ _ hm)
      ·cases hm
    | has z m=>exact tK (by rcases hwz with rfl | rfl <;> rfl) (no (fun _ _ _ _ _ _ z=>nomatch z))
    | came n t p k x=>exact tK (by rcases hwz with rfl | rfl <;> rfl) (no (fun _ _ _ _ _ _ z=>nomatch z))
    | asked n=>exact tK (by rcases hwz with rfl | rfl <;> rfl) (no (fun _ _ _ _ _ _ z=>nomatch z))
    | done n t y=>exact tK (by rcases hwz with rfl | rfl <;> rfl) (no (fun _ _ _ _ _ _ z=>nomatch z))
   ·subst e0;intro p hp;rw[aR]at l' hk';rw[<- la0,jD (bC _)]at hk';refine⟨cP rfl,fun p2 hp2=>⟨_,_,aN aA hp2,aA,by rw[e,aR];exact fO (by simp;omega),fun p3 hp3=>?_⟩⟩
    refine⟨p3,(ns.map (fun n:Nat=>(n:Int)))++[0],rfl,SqL.of (by rw[aA,e,dW,List.map_map];rfl),Zs,fun mx hmx hall=>?_⟩
    have nn:∃m:Nat,mx=m/\m<=900006:=by
     rcases Zma.mp hmx with h | h
     ·obtain⟨n,hn,rfl⟩:=Zmm.mp h;exact⟨n,rfl,hb' n hn⟩
     ·rw[Zms.mp h];exact⟨0,rfl,Zo⟩
    obtain⟨m,rfl,hm⟩:=nn
    refine hnx _ _ ⟨m,rfl,hm,fun n t p' k x y hh=>?_,((F3.new hp).new hp2).new hp3⟩
    have:=hall (n:Int) (List.mem_append_left _ (List.mem_map_of_mem (hk' _ _ _ _ _ _ hh)))
    omega
  rintro σ' H4 ⟨num,rfl,hnum,hkn,F4⟩
  have f4:=f2.trans F4
  have R4:=R0.keep f4.tk (f4.get R0.lst nrd nrb)
  refine bF (fun σ' H'=>∃(turn:Nat),σ'=[some (.ref d),some (.ref ra),some (.ref lm),some (.int (many:Int)),some (.ref bk),some (.ref ul),some (.ref wa),some (.int (num:Int)),some (.int (turn:Int)),none,none,none,none,none]/\turn<500000000000/\(∀n t,.next n t∈rs0->t<=turn)/\Fw d b H2 H') (fun nx hnx=>?_) ?_
  ·refine⟨ra,rfl,⟨_,SqL.of R4.lst⟩,?_⟩
   refine aZ (aS K ra (as0.map V.ref)) (by rw[aR];omega) (fun i ys H'=>H'=H4/\∃ns:List Nat,ys=ns.map (fun n:Nat=>V.int (n:Int))/\ns.length<=i/\(∀n∈ns,n<500000000000)/\∀n t,.next n t∈rs0.take i->t∈ns) (fun i ys H' ⟨e0,ns,e,l',_⟩=>⟨by rw[e0];exact SqL.of R4.lst,by rw[e,aR];exact l'⟩) ⟨rfl,[],rfl,bC _,(fun _ h=>nomatch h),(fun _ _ h=>nomatch h)⟩ (fun i x ys H' hx ⟨e0,ns,e,l',hb',hk'⟩=>?_) (fun ys H' ⟨e0,ns,e,l',hb',hk'⟩=>?_)
   ·subst e0;obtain⟨a,r,rfl,ha,hrr,hat⟩:=R4.get hx
    obtain⟨xs,g,x0,x1,x2⟩:=eT hat
    have etk:=aP hrr
    have hrm:r∈rs0:=fT hrr
    dsimp only [aJ];refine⟨_,SqT.of g,_,x0,?_⟩
    show if decide (cG r="next")=true then _ else _
    refine bQ (fun h=>?_) (fun h=>?_)
    ·obtain⟨n,t,rfl⟩:=sJ (of_decide_eq_true h)
     refine⟨_,SqT.of g,_,x2 (fun z=>nomatch z),rfl,ns++[t],by rw[e,dW];rfl,by simp;omega,fun m hm=>?_,fun n' t' hm=>?_⟩
     ·rcases aF hm with hm | rfl
      ·exact hb' m hm
      ·exact(hd0.nx _ _ hrm).2
     ·rw[etk]at hm;rcases aF hm with hm | hm
      ·exact List.mem_append_left _ (hk' _ _ hm)
      ·cases hm;exact List.mem_append_right _ iW
    ·refine⟨rfl,ns,e,Zo,hb',fun n' t' hm=>?_⟩
     rw[etk]at hm;rcases aF hm with hm | hm
     ·exact hk' _ _ hm
     ·subst hm;exact absurd rfl (of_decide_eq_false h)
   ·subst e0;intro p hp;rw[aR]at l' hk';rw[<- la0,jD (bC _)]at hk';refine⟨cP rfl,fun p2 hp2=>⟨_,_,aN aA hp2,aA,by rw[e,aR];exact fO (by simp;omega),fun p3 hp3=>?_⟩⟩
    refine⟨p3,(ns.map (fun n:Nat=>(n:Int)))++[0],rfl,SqL.of (by rw[aA,e,dW,List.map_map];rfl),Zs,fun mx hmx hall=>?_⟩
    have nn:∃m:Nat,mx=m/\m<500000000000:=by
     rcases Zma.mp hmx with h | h
     ·obtain⟨n,hn,rfl⟩:=Zmm.mp h;exact⟨n,rfl,hb' n hn⟩
     ·rw[Zms.mp h];exact⟨0,rfl,Zo⟩
    obtain⟨m,rfl,hm⟩:=nn
    refine hnx _ _ ⟨m,rfl,hm,fun n t hh=>?_,((F4.new hp).new hp2).new hp3⟩
    have:=hall (t:Int) (List.mem_append_left _ (List.mem_map_of_mem (hk' _ _ hh)))
    omega
  rintro σ' H5 ⟨turn,rfl,hturn,htn,F5⟩
  have f5:=f2.trans F5
  have R5:=R0.keep f5.tk (f5.get R0.lst nrd nrb)
  have nbd:=dk.ne fbk
  have nud:=dk.ne ful
  have L5:LvH H d b ra bk ul H5 rs0 as0 kvs0 (jL rs0) []:=⟨dk,⟨_,R0.lst⟩,fbk,ful,(fun _ h=>nomatch h),⟨nrd,nrb⟩,nbu,(fun _ h=>nomatch h),List.nodup_nil,f5.dk,R5,F5.get gbk nbd.1 nbd.2,bis0,F5.get gul nud.1 nud.2,(fun _ h=>nomatch h),fun c o e n1 n2 _=>f5.get e n1 n2⟩
  have P5:=LvP.start (num:=num) (turn:=turn) hd0 hkn htn (zU hd0.ok)
  refine bF (fun σ' H'=>∃(rs:List RX) (as:List Addr) (kvs:List (bB × V)) (f:Str->Nat) (us:List Un) (num turn:Nat) (o9 o10 o11 o12 o13:Option V),σ'=[some (.ref d),some (.ref ra),some (.ref lm),some (.int (many:Int)),some (.ref bk),some (.ref ul),some (.ref wa),some (.int (num:Int)),some (.int (turn:Int)),o9,o10,o11,o12,o13]/\LvH H d b ra bk ul H' rs as kvs f us/\LvP rs f num turn us/\rs.length<=43) (fun nx hnx=>?_) ?_
  ·refine⟨(many:Int),rfl,Zo,Zo,?_⟩
   have em:(many:Int).toNat=many:=by omega
   refine cA (dC 0 (many:Int).toNat) (Op H d b ra lm bk ul wa many) (fun _ _ _ _=>trivial)
    ⟨rs0,as0,kvs0,jL rs0,[],num,turn,_,_,_,_,_,rfl,L5,P5,Zo,Zo,Zo,Zo,bC _⟩ ?_ ?_
   ·rintro i x σ' H6 hx ⟨rs,as,kvs,f,us,num,turn,o9,o10,o11,o12,o13,rfl,L6,P6,l1,l2,l3,l4,l5⟩
    obtain⟨rfl,hi⟩:=kZ hx
    rw[em]at hi;dsimp only [aJ];refine⟨d,b,4,rfl,L6.dk,Zd,Zd,fun way H7 w0 w1 D7 k7=>?_⟩
    obtain⟨way,rfl⟩:=cV w0
    have L7:=L6.fw ((Fw.refl L6.dk).draw D7 k7)
    dsimp only [aJ];refine bF (fun σ' H'=>∃(turn':Nat),σ'=[some (.ref d),some (.ref ra),some (.ref lm),some (.int (many:Int)),some (.ref bk),some (.ref ul),some (.ref wa),some (.int (num:Int)),some (.int (turn':Int)),some (.int (i:Int)),some (.int (way:Int)),o11,o12,o13]/\turn<=turn'/\turn'<=turn+9/\LvH H d b ra bk ul H' rs as kvs f us) (fun nx' hnx'=>?_) ?_
    ·refine⟨d,b,9,rfl,L7.dk,Zd,Zd,fun r8 H8 x0 x1 D8 k8=>⟨cP rfl,fun p hp=>⟨d,b,4,rfl,D8.new hp,Zd,Zd,fun r9 H9 y0 y1 D9 k9=>?_⟩⟩⟩
     obtain⟨r8,rfl⟩:=cV x0
     have hpd:=D8.ne hp
     have gp:=k9 p _ aA hpd.1 hpd.2
     have L9:=L7.fw ((((Fw.refl L7.dk).draw D8 k8).new hp).draw D9 k9)
     rcases Oi y0 y1 with rfl | rfl | rfl | rfl
     ·refine⟨_,SqL.of gp,_,rfl,hnx' _ _ ⟨turn,?_,Zo,Zo,L9⟩⟩
      rw[show(turn:Int)=(turn:Int)+0 by omega];rfl
     ·refine⟨_,SqL.of gp,_,rfl,hnx' _ _ ⟨turn,?_,Zo,Zo,L9⟩⟩
      rw[show(turn:Int)=(turn:Int)+0 by omega];rfl
     ·exact⟨_,SqL.of gp,_,rfl,hnx' _ _ ⟨turn+1,rfl,Zo,Zo,L9⟩⟩
     ·exact⟨_,SqL.of gp,_,rfl,hnx' _ _ ⟨turn+r8,rfl,Zo,Zo,L9⟩⟩
    ·rintro σ' H8 ⟨turn',rfl,t1,t2,L8⟩
     have P8:=P6.turn' t1
     refine tW (fun v H'=>LvH H d b ra bk ul H' rs as kvs f us/\(v=false->us≠[])) (fun k hk=>?_) ?_ ?_
     ·refine bQ (fun _=>hk _ _ ⟨L8,(fun z=>nomatch z)⟩) (fun _=>?_)
      refine⟨cP rfl,fun p hp=>⟨ul,p,_,rfl,rfl,SqL.of (aN L8.und hp),SqL.of aA,?_⟩⟩
      refine hk _ _ ⟨L8.fw ((Fw.refl L8.dk).new hp),fun e z=>?_⟩
      subst z;cases e
     ·rintro H9 ⟨L9,hv⟩
      exact p1 _ H H9 d b ra lm bk ul wa M many i way num turn turn' rs as kvs f us o11 o12 o13 hM oD oB oR Zo L9 P8 l1 l2 l3 l4 l5 t1 t2 (fun _ _ h=>h)
     ·rintro H9 ⟨L9,hv⟩
      exact p2 _ H H9 d b ra lm bk ul wa M many i way num turn turn' rs as kvs f us o11 o12 o13 hM oD oB oR Zo L9 P8 l1 l2 l3 l4 l5 t1 t2 (hv rfl) (fun _ _ h=>h)
   ·rintro σ' H6 ⟨rs,as,kvs,f,us,num,turn,o9,o10,o11,o12,o13,rfl,L6,P6,l1,l2,l3,l4,l5⟩
    rw[eG]at l1;exact hnx _ _ ⟨rs,as,kvs,f,us,num,turn,o9,o10,o11,o12,o13,rfl,L6,P6,Zo⟩
  rintro σ' H6 ⟨rs,as,kvs,f,us,num,turn,o9,o10,o11,o12,o13,rfl,L6,P6,l1⟩
  exact q rs as f H6 L6.rows P6.wh P6.ok P6.lv l1 L6.dk L6.fr
end
end KL
namespace KL
open PySem L2
section
variable {P:Program} {w:World} {K:W.Frag} {mg:Str->Option Value} {base:Heap}
def iH:RX->bB | .next n _=>Sum.inl (n:Int) | .has z _=>Sum.inr z | .kept n _ _ _ _ _=>Sum.inl (n:Int) | .came n _ _ _ _=>Sum.inl (n:Int) | .asked n=>Sum.inl (n:Int) | .done n _ _=>Sum.inl (n:Int)
theorem Oq (r:RX):Iq r=kV (iH r):=by cases r <;> rfl
def gQ (wd:Str) (r:RX) (a:Addr):List (bB × V):=if cG r=wd then [(iH r,.ref a)] else []
def bH (wd:Str) (rs:List RX) (as:List Addr):Nat->List (bB × V)
 | 0=>[]
 | i+1=>bH wd rs as i++(match rs[i]?,as[i]? with | some r,some a=>gQ wd r a | _,_=>[])
theorem fR {wd:Str} {rs:List RX} {as:List Addr} {i:Nat} {r:RX} {a:Addr} (h1:rs[i]?=some r) (h2:as[i]?=some a):bH wd rs as (i+1)=bH wd rs as i++gQ wd r a:=by
 simp only [bH,h1,h2]
theorem oM (wd:Str) (rs:List RX) (as:List Addr):∀i,(bH wd rs as i).length<=i
 | 0=>bC _
 | i+1=>by
  have:=oM wd rs as i
  unfold bH;rw[pN];split
  ·unfold gQ;split <;> simp <;> omega
  ·simp;omega
theorem oN {wd:Str} {rs:List RX} {as:List Addr} {k:bB} {v:V}:∀ {i:Nat},(k,v)∈bH wd rs as i->∃j r a,j<i/\rs[j]?=some r/\as[j]?=some a/\cG r=wd/\k=iH r/\v=.ref a
 | 0,h=>nomatch h
 | i+1,h=>by
  unfold bH at h;rcases Zma.mp h with h | h
  ·obtain⟨j,r,a,h1,h2⟩:=oN h;exact⟨j,r,a,Zo,h2⟩
  ·split at h
   ·rename_i r a e1 e2
    unfold gQ at h;split at h
    ·rename_i e3
     have:=Zms.mp h
     injection this with h1 h2
     exact⟨i,r,a,Nat.lt_succ_self _,e1,e2,e3,h1,h2⟩
    ·cases h
   ·cases h
theorem uI {wd:Str} {rs:List RX} {as:List Addr} {j:Nat} {r:RX} {a:Addr} (h1:rs[j]?=some r) (h2:as[j]?=some a) (h3:cG r=wd):∀ {i:Nat},j<i->(iH r,V.ref a)∈bH wd rs as i
 | 0,h=>nomatch h
 | i+1,h=>by
  by_cases e:j=i
  ·subst e;rw[fR h1 h2];refine List.mem_append_right _ ?_
   unfold gQ;rw[if_pos h3];exact iW
  ·unfold bH;exact List.mem_append_left _ (uI h1 h2 h3 Zo)
theorem wK (kvs l:List (bB × V)) (k:bB) (v:V):aL kvs (l++[(k,v)])=cK (aL kvs l) k v:=by unfold aL;rw[List.foldl_append];rfl
theorem jM {k:bB} {v:V}:∀ {l kvs:List (bB × V)},bN (aL kvs l) k=some v->(k,v)∈l∨bN kvs k=some v
 | [],kvs,h=>.inr h
 | (k',v')::l,kvs,h=>by
  have h':bN (aL (cK kvs k' v') l) k=some v:=h
  rcases jM h' with h1 | h1
  ·exact .inl (mF _ h1)
  ·rw[fN]at h1;by_cases e:k=k'
   ·rw[if_pos e]at h1;injection h1 with h1
    rw[<- h1,e];exact .inl iW
   ·rw[if_neg e]at h1;exact .inr h1
theorem uJ {k:bB}:∀ {l kvs:List (bB × V)},(k∈l.map (·.1)∨∃v,bN kvs k=some v)->∃v,bN (aL kvs l) k=some v
 | [],kvs,h=>by
  rcases h with h | h
  ·cases h
  ·exact h
 | (k',v')::l,kvs,h=>by
  refine uJ (l:=l) (kvs:=cK kvs k' v') ?_
  rcases h with h | ⟨v,h⟩
  ·rcases List.mem_cons.mp h with h | h
   ·right
    rw[fN,if_pos h];exact⟨_,rfl⟩
   ·exact .inl h
  ·right
   rw[fN];split
   ·exact⟨_,rfl⟩
   ·exact⟨v,h⟩
theorem uK {wd:Str} {rs:List RX} {as:List Addr} (hl:rs.length=as.length) {r:RX} (hm:r∈rs) (hw:cG r=wd):∃(j:Nat) (r':RX) (a:Addr),bN (aL [] (bH wd rs as rs.length)) (iH r)=some (.ref a)/\rs[j]?=some r'/\as[j]?=some a/\cG r'=wd/\iH r=iH r':=by
 obtain⟨j,hj,ej⟩:=List.getElem_of_mem hm
 have h1:rs[j]?=some r:=by rw[iJ hj,ej]
 have h2:as[j]?=some as[j]:=iJ Zo
 have h3:=uI h1 h2 hw hj
 obtain⟨v,hv⟩:=uJ (kvs:=[]) (k:=iH r) (l:=bH wd rs as rs.length) (.inl (List.mem_map_of_mem h3))
 rcases jM hv with h4 | h4
 ·obtain⟨j',r',a',_,g1,g2,g3,g4,g5⟩:=oN h4
  rw[g5]at hv;exact⟨j',r',a',hv,g1,g2,g3,g4⟩
 ·cases h4
def xX:Sp:=fun vs H Q _=>∃(ra:Addr) (wd:Str) (rs:List RX) (as:List Addr),vs=[.ref ra,.str wd]/\RxsAt H ra rs as/\rs.length<=100/\∀(p:Addr) (H':Hp),H p=none->H' p=some (.dK (aL [] (bH wd rs as rs.length)))->Same H H'->Q (.ref p) H'
theorem pI (D:DefAt K mg "by_numbers" eB ["rows","word"]):aH P w K mg base 1 "by_numbers" ["rows","word"] xX:=by
 refine D.go fK (fun vs H Q E h=>?_) (fun f cdv A outer s H vs Q E hr h=>?_)
 ·obtain⟨ra,wd,rs,as,rfl,_⟩:=h;rfl
 ·obtain⟨ra,wd,rs,as,rfl,RR,hl,q⟩:=h
  have hu1:=eY hr
  have le:=RR.len
  refine⟨_,(R.ad (R.ah (i:=2) fK.nd R.fm) (R.ad (R.bh PassesOwn.never rfl (R.ax (K:=K) (R.v 0)) (R.gn (i:=3) fK.nd) (R.af (R.ar (R.ai R.eq (R.ix (R.ag (K:=K)) (R.v 3) R.aa) (R.v 1)) (R.af (R.bq (R.v 3) (R.br (R.v 2) (R.ix (R.ag (K:=K)) (R.v 3) R.aa) (R.cv hu1)))) R.av))) (R.af (R.am (R.v 2))))),?_⟩
  refine fun p hp=>?_
  have nr:p≠ra:=(aD RR.lst hp).symm
  dsimp only [aJ];refine bF (fun σ' H'=>∃o3,σ'=[some (.ref ra),some (.str wd),some (.ref p),o3]/\H' p=some (.dK (aL [] (bH wd rs as rs.length)))/\Same H H') (fun nx hnx=>?_) ?_
  ·refine⟨ra,rfl,⟨_,SqL.of (aN RR.lst hp)⟩,cA (aS K ra (as.map V.ref)) (fun i σ' H'=>∃o3,σ'=[some (.ref ra),some (.str wd),some (.ref p),o3]/\H' p=some (.dK (aL [] (bH wd rs as i)))/\Same H H') (fun i σ' H' ⟨_,_,_,s'⟩=>SqL.of (s' _ _ RR.lst))
    ⟨_,rfl,aA,aG hp⟩ ?_ ?_⟩
   ·rintro i x σ' H1 hx ⟨o3,rfl,g1,s1⟩
    obtain⟨a,r,rfl,ha,hrr,hat⟩:=(RR.same s1).get hx
    obtain⟨xs,g,x0,x1,x2⟩:=eT hat
    have hi:=(Zgs.mp ha).1
    have ln:=oM wd rs as i
    have lm:=cM (bH wd rs as i) []
    dsimp only [aJ];refine⟨_,SqT.of g,_,x0,?_⟩
    show if decide (cG r=wd)=true then _ else _
    refine bQ (fun h=>?_) (fun h=>?_)
    ·have dp:DPut H1 p (Iq r) (.ref a) (aI H1 p (.dK (cK (aL [] (bH wd rs as i)) (iH r) (.ref a)))):=by
      rw[Oq];exact DPut.k g1 (kI (m:=1000) (by simp at lm;omega) Zd)
     refine⟨_,SqT.of g,_,x1,p,_,rfl,dp,?_⟩
     ·refine⟨_,rfl,?_,eJ hp s1⟩
      rw[aA,fR hrr ha];unfold gQ;rw[if_pos (of_decide_eq_true h),wK]
    ·refine⟨_,rfl,?_,s1⟩
     rw[fR hrr ha];unfold gQ;rw[if_neg (of_decide_eq_false h),List.append_nil];exact g1
   ·rintro σ' H1 ⟨o3,rfl,g1,s1⟩
    rw[aR,<- le]at g1;exact hnx _ _ ⟨o3,rfl,g1,s1⟩
  ·rintro σ' H1 ⟨o3,rfl,g1,s1⟩
   exact q p H1 hp g1 s1
theorem sK (T:Txt K mg) (cLdraw:aH P w K mg base 1 "_law_draw" ["_law_deck_here","_law_many"] bD) (cLhead:aH P w K mg base 5 "_law_head" ["_law_deck_here","_law_menus_here"] mM)
  (D:DefAt K mg "_law_some_head" cQ ["_law_deck_here","_law_menus_here"]):aH P w K mg base 6 "_law_some_head" ["_law_deck_here","_law_menus_here"] mM:=by
 refine D.go dE (fun vs H Q E h=>?_) (fun f cdv A outer s H vs Q E hr h=>?_)
 ·obtain⟨d,b,lm,M,rfl,_⟩:=h;rfl
 ·obtain⟨d,b,lm,M,rfl,dk,hM,hd,hb,q⟩:=h
  have hLdraw:Room 1 _:=hr.mono Zd
  have hLhead:Room 5 _:=hr.mono Zd
  refine⟨_,(R.ad (R.ah (i:=2) dE.nd (R.au R.ac)) (R.ad (R.ar (R.ai R.eq (R.fn cLdraw hLdraw rfl (R.U (R.v 0) (R.U R.aa R.ac))) R.aa) (R.af (R.ah (i:=2) dE.nd (R.fn cLhead hLhead rfl (R.U (R.v 0) (R.U (R.v 1) R.ac))))) R.av) (R.af (R.am (R.v 2))))),?_⟩
  refine⟨cP rfl,fun p hp=>?_⟩
  have f1:=(Fw.refl dk).new (o:=.lst []) hp
  have g1:(aI H p (.lst [])) p=some (.lst []):=aA
  dsimp only [aJ];generalize aI H p (.lst [])=H1 at f1 g1;refine⟨d,b,2,rfl,f1.dk,Zd,Zd,fun r H2 r0 r1 D2 k2=>?_⟩
  have f2:=f1.draw D2 k2
  have F2:=(Fw.refl f1.dk).draw D2 k2
  refine bQ (fun _=>?_) (fun _=>?_)
  ·refine⟨d,b,lm,M,rfl,D2,f2.menus hd hb hM,hd,hb,fun ra rs as H3 fr R hk f3=>?_⟩
   exact q ra rs as H3 (f2.free fr) R hk (f2.trans f3)
  ·have pd:=dk.ne hp
   exact q p [] [] H2 hp (.nil (F2.get g1 pd.1 pd.2)) ⟨.nil,(fun _ h=>nomatch h),(fun _ h=>nomatch h),Nat.zero_le _,(fun _ _ h=>nomatch h)⟩ f2
end
end KL
namespace KL
open PySem L2
section
variable {P:Program} {w:World} {K:W.Frag} {mg:Str->Option Value} {base:Heap}
theorem lB {rs:List RX} (h:RX.Whole rs) {n t t':Nat} {p k p' k':Str} {x x':Dd} (h1:.came n t p k x∈rs) (h2:.came n t' p' k' x'∈rs):RX.came n t p k x=.came n t' p' k' x':=by
 induction h with
 | nil=>cases h1
 | snoc hw hf ih=>
  rcases aF h1 with h1 | h1
  ·rcases aF h2 with h2 | h2
   ·exact ih h1 h2
   ·rw[<- h2]at hf;exact absurd (hf.1 _ _ _ _ _ h1) (Nat.lt_irrefl _)
  ·rcases aF h2 with h2 | h2
   ·rw[<- h1]at hf;exact absurd (hf.1 _ _ _ _ _ h2) (Nat.lt_irrefl _)
   ·rw[h1,h2]
theorem lC {rs:List RX} (h:RX.Whole rs) {n t:Nat} {y:An} (h1:.done n t y∈rs):∃t0 p k x,RX.came n t0 p k x∈rs/\An.Of x y:=by
 induction h with
 | nil=>cases h1
 | snoc hw hf ih=>
  rcases aF h1 with h1 | h1
  ·obtain⟨t0,p,k,x,h2,h3⟩:=ih h1;exact⟨t0,p,k,x,List.mem_append_left _ h2,h3⟩
  ·rw[<- h1]at hf;obtain⟨_,_,t0,p,k,x,h2,h3,_⟩:=hf
   exact⟨t0,p,k,x,List.mem_append_left _ h2,h3⟩
theorem mQ {r:RX} (h:cG r="came"):∃n t p k x,r=.came n t p k x:=by
 cases r with
 | came n t p k x=>exact⟨n,t,p,k,x,rfl⟩
 | has z m=>exact absurd (show("has":Str)="came" from h) Zk
 | next n t=>exact absurd (show("next":Str)="came" from h) Zk
 | kept n t p k x y=>exact absurd (show("kept":Str)="came" from h) Zk
 | asked n=>exact absurd (show("asked":Str)="came" from h) Zk
 | done n t y=>exact absurd (show("done":Str)="came" from h) Zk
theorem sM {r:RX} (h:cG r="done"):∃n t y,r=.done n t y:=by
 cases r with
 | done n t y=>exact⟨n,t,y,rfl⟩
 | has z m=>exact absurd (show("has":Str)="done" from h) Zk
 | next n t=>exact absurd (show("next":Str)="done" from h) Zk
 | kept n t p k x y=>exact absurd (show("kept":Str)="done" from h) Zk
 | asked n=>exact absurd (show("asked":Str)="done" from h) Zk
 | came n t p k x=>exact absurd (show("came":Str)="done" from h) Zk
theorem Ej {α:Type} {xs:List α} {x y:α} {i:Nat} (h:(xs++[x])[i]?=some y):(i<xs.length/\xs[i]?=some y)∨(i=xs.length/\y=x):=by
 rcases Nat.lt_or_ge i xs.length with z | z
 ·rw[List.getElem?_append_left z]at h;exact .inl ⟨z,h⟩
 ·rw[List.getElem?_append_right z]at h;have hi:=(Zgs.mp h).1
  have:i=xs.length:=by simp at hi;omega
  subst this;rw[Nat.sub_self]at h;cases h
  exact .inr ⟨rfl,rfl⟩
def Uq:RX->Bool | .done _ _ _=>true | _=>false
def eU:RX->Bool | .came _ _ _ _ _=>true | _=>false
def eV (rs:List RX):List Nat:=rs.filterMap fun r=>match r with | .done n _ _=>some n | _=>none
def cC (rs:List RX):List Nat:=rs.filterMap fun r=>match r with | .came n _ _ _ _=>some n | _=>none
theorem qL {rs:List RX} {n:Nat} (h:n∈eV rs):∃t y,.done n t y∈rs:=by
 obtain⟨r,hr,e⟩:=List.mem_filterMap.mp h
 cases r <;> cases e
 exact⟨_,_,hr⟩
theorem zV {rs:List RX} {n t:Nat} {p k:Str} {x:Dd} (h:.came n t p k x∈rs):n∈cC rs:=List.mem_filterMap.mpr ⟨_,h,rfl⟩
theorem Ek {rs:List RX} (h:RX.Whole rs):(eV rs).Nodup:=by
 induction h with
 | nil=>exact List.nodup_nil
 | @snoc rs r hw hf ih=>
  unfold eV at ih ⊢
  rw[List.filterMap_append];cases r with
  | done n t y=>
   refine List.nodup_append.mpr ⟨ih,Zs,fun a ha b hb=>?_⟩
   have hb':b=n:=by simpa using hb
   subst hb';rintro rfl
   obtain⟨t',y',hm⟩:=qL ha
   exact hf.2.1 _ _ hm
  | _=>simpa using ih
theorem Os {xs:List Nat}:∀ {ys:List Nat},xs.Nodup->(∀x∈xs,x∈ys)->xs.length<=ys.length:=by
 induction xs with
 | nil=>exact fun _ _=>Nat.zero_le _
 | cons x r ih=>
  intro ys hn h;obtain⟨h1,h2⟩:=List.nodup_cons.mp hn
  have hx:=h x iW
  have:=ih (ys:=ys.erase x) h2 fun y hy=>(List.mem_erase_of_ne (fun e=>h1 (by rw[<- e];exact hy))).mpr (h y (mF _ hy))
  rw[List.length_erase_of_mem hx]at this;have hp:0<ys.length:=List.length_pos_of_mem hx
  rw[sQ];omega
theorem uL (rs:List RX):(fH rs).length+(eV rs).length+(cC rs).length<=rs.length:=by
 induction rs with
 | nil=>exact bC _
 | cons r rs ih=>
  unfold fH eV cC at ih ⊢
  cases r <;> simp only [List.filterMap_cons,sQ] <;> omega
theorem qM {rs:List RX} (h:RX.Whole rs):(fH rs).length+2*(eV rs).length<=rs.length:=by
 have h1:=uL rs
 have h2:=Os (Ek h) (ys:=cC rs) fun n hn=>by
  obtain⟨t,y,hm⟩:=qL hn
  obtain⟨t0,p,k,x,hc,_⟩:=lC h hm
  exact zV hc
 omega
theorem oO (rs:List RX) (i:Nat):(eV (rs.take i)).length<=(eV rs).length:=by
 unfold eV;exact((List.take_sublist i rs).filterMap _).length_le
def Kg:Dd->List (Str × Int)
 | .add a n=>[(a,(n:Int))]
 | .take a n=>[(a,-(n:Int))]
 | .move a b n=>[(a,-(n:Int)),(b,(n:Int))]
 | .send _ a n=>[(a,-(n:Int))]
 | .fetch _ a n=>[(a,(n:Int))]
 | .pass _ _ _ _=>[]
theorem El {x:Dd} {y:An} (hy:An.Of x y) (h:lY y="is"):hI x y=Kg x:=by
 rcases oG h with⟨m,rfl⟩ | ⟨l,m,rfl⟩ <;> cases x <;> first | rfl | exact hy.elim
theorem Ot {x:Dd} {y:An} (h:lY y≠"is"):hI x y=[]:=by cases x <;> cases y <;> first | rfl | exact absurd rfl h
def xY:Sp:=fun vs H Q _=>∃(t:Addr) (x:Dd),vs=[.ref t]/\H t=some (.tup x.vs)/\∀(tp:Addr) (zs:List Z) (H':Hp),Same H H'->H' tp=some (.tup (cN zs))->ZAt H' zs->zs.map (·.2)=Kg x->Q (.ref tp) H'
theorem lZ (T:Txt K mg) (D:DefAt K mg "done_changes" cY ["deed"]):aH P w K mg base 1 "done_changes" ["deed"] xY:=by
 refine D.go lX (fun vs H Q E h=>?_) (fun f cdv A outer s H vs Q E hr h=>?_)
 ·obtain⟨t,x,rfl,_⟩:=h;rfl
 ·obtain⟨p,x,rfl,hp,q⟩:=h
  refine⟨_,(R.ad (R.ar (R.ai R.eq (R.ix (R.ag (K:=K)) (R.v 0) R.aa) R.ae) (R.af (R.am (R.al R.ac))) R.av) (R.ad (R.ar (R.ai R.eq (R.ix (R.ag (K:=K)) (R.v 0) R.aa) R.ae) (R.af (R.am (R.al (R.U (R.al (R.U (R.ix (R.ag (K:=K)) (R.v 0) R.aa) (R.U (R.ay (R.ix (R.ag (K:=K)) (R.v 0) (R.ay R.aa))) R.ac))) (R.U (R.al (R.U (R.ix (R.ag (K:=K)) (R.v 0) R.aa) (R.U (R.ix (R.ag (K:=K)) (R.v 0) (R.ay R.aa)) R.ac))) R.ac))))) R.av) (R.ad (R.ar (R.ai (R.bd (K:=K)) (R.ix (R.ag (K:=K)) (R.v 0) R.aa) (R.al (R.U R.ae (R.U R.ae R.ac)))) (R.af (R.am (R.al (R.U (R.al (R.U (R.ix (R.ag (K:=K)) (R.v 0) (R.ay R.aa)) (R.U (R.ay (R.ix (R.ag (K:=K)) (R.v 0) (R.ay R.aa))) R.ac))) R.ac)))) R.av) (R.af (R.am (R.al (R.U (R.al (R.U (R.ix (R.ag (K:=K)) (R.v 0) (R.ay R.aa)) (R.U (R.ix (R.ag (K:=K)) (R.v 0) (R.ay R.aa)) R.ac))) R.ac))))))),?_⟩
  have z1:∀ {H':Hp} {a:Addr} {x:Str} {i:Int},H' a=some (.tup [.str x,.int i])->ZAt H' [(a,x,i)]:=fun h z hz=>by
   rw[Zms.mp hz];exact h
  cases x with
  | add a n=>
   refine⟨_,SqT.of hp,_,rfl,_,SqT.of hp,_,rfl,_,SqT.of hp,_,rfl,aM rfl,fun p1 H1 s1 g1=>⟨p1,_,rfl,.inr (SqT.of g1),rfl,rfl,?_⟩⟩
   exact⟨_,SqT.of (s1 _ _ hp),_,rfl,_,SqT.of (s1 _ _ hp),_,rfl,aM rfl,fun p2 H2 s2 g2=>⟨aM rfl,fun p3 H3 s3 g3=>q p3 [(p2,a,(n:Int))] H3 ((s1.trans s2).trans s3) g3 (z1 (s3 _ _ g2)) rfl⟩⟩
  | take a n=>
   refine⟨_,SqT.of hp,_,rfl,_,SqT.of hp,_,rfl,_,SqT.of hp,_,rfl,aM rfl,fun p1 H1 s1 g1=>⟨p1,_,rfl,.inr (SqT.of g1),rfl,rfl,?_⟩⟩
   exact⟨_,SqT.of (s1 _ _ hp),_,rfl,_,SqT.of (s1 _ _ hp),_,rfl,aM rfl,fun p2 H2 s2 g2=>⟨aM rfl,fun p3 H3 s3 g3=>q p3 [(p2,a,-(n:Int))] H3 ((s1.trans s2).trans s3) g3 (z1 (s3 _ _ g2)) rfl⟩⟩
  | send h a n=>
   refine⟨_,SqT.of hp,_,rfl,_,SqT.of hp,_,rfl,_,SqT.of hp,_,rfl,aM rfl,fun p1 H1 s1 g1=>⟨p1,_,rfl,.inr (SqT.of g1),rfl,rfl,?_⟩⟩
   exact⟨_,SqT.of (s1 _ _ hp),_,rfl,_,SqT.of (s1 _ _ hp),_,rfl,aM rfl,fun p2 H2 s2 g2=>⟨aM rfl,fun p3 H3 s3 g3=>q p3 [(p2,a,-(n:Int))] H3 ((s1.trans s2).trans s3) g3 (z1 (s3 _ _ g2)) rfl⟩⟩
  | fetch h a n=>
   refine⟨_,SqT.of hp,_,rfl,_,SqT.of hp,_,rfl,_,SqT.of hp,_,rfl,aM rfl,fun p1 H1 s1 g1=>⟨p1,_,rfl,.inr (SqT.of g1),rfl,rfl,?_⟩⟩
   exact⟨_,SqT.of (s1 _ _ hp),_,rfl,_,SqT.of (s1 _ _ hp),_,rfl,aM rfl,fun p2 H2 s2 g2=>⟨aM rfl,fun p3 H3 s3 g3=>q p3 [(p2,a,(n:Int))] H3 ((s1.trans s2).trans s3) g3 (z1 (s3 _ _ g2)) rfl⟩⟩
  | move a b n=>
   refine⟨_,SqT.of hp,_,rfl,_,SqT.of hp,_,rfl,_,SqT.of hp,_,rfl,_,SqT.of hp,_,rfl,aM rfl,fun p2 H2 s2 g2=>⟨_,SqT.of (s2 _ _ hp),_,rfl,_,SqT.of (s2 _ _ hp),_,rfl,aM rfl,fun p3 H3 s3 g3=>⟨aM rfl,fun p4 H4 s4 g4=>?_⟩⟩⟩
   refine q p4 [(p2,a,-(n:Int)),(p3,b,(n:Int))] H4 ((s2.trans s3).trans s4) g4 (fun z hz=>?_) rfl
   rcases List.mem_cons.mp hz with rfl | hz
   ·exact s4 _ _ (s3 _ _ g2)
   ·rw[Zms.mp hz];exact s4 _ _ g3
  | pass h g a n=>
   refine⟨_,SqT.of hp,_,rfl,?_⟩
   exact⟨aM rfl,fun p1 H1 s1 g1=>q p1 [] H1 s1 g1 (fun _ h=>nomatch h) rfl⟩
def Kh:Sp:=fun vs H Q _=>∃(t c:Addr) (x:Dd) (y:An),vs=[.ref t,.ref c]/\H t=some (.tup x.vs)/\H c=some (.tup y.vs)/\An.Of x y/\∀(tp:Addr) (zs:List Z) (H':Hp),Same H H'->H' tp=some (.tup (cN zs))->ZAt H' zs->zs.map (·.2)=hI x y->Q (.ref tp) H'
theorem pJ (T:Txt K mg) (c_done_changes:aH P w K mg base 1 "done_changes" ["deed"] xY) (D:DefAt K mg "changes_of" dY ["deed","answer"]):aH P w K mg base 2 "changes_of" ["deed","answer"] Kh:=by
 refine D.go pG (fun vs H Q E h=>?_) (fun f cdv A outer s H vs Q E hr h=>?_)
 ·obtain⟨t,c,x,y,rfl,_⟩:=h;rfl
 ·obtain⟨t,c,x,y,rfl,gt,gc,hy,q⟩:=h
  have hr_done_changes:=hr
  refine⟨_,(R.ad (R.ar (R.ai R.ne (R.ix (R.ag (K:=K)) (R.v 1) R.aa) R.ae) (R.af (R.am (R.al R.ac))) R.av) (R.af (R.am (R.fn c_done_changes hr_done_changes rfl (R.U (R.v 0) R.ac))))),?_⟩
  refine⟨_,SqT.of gc,_,Ke y,?_⟩
  show if (!decide (lY y="is"))=true then _ else _
  by_cases hw:lY y="is"
  ·refine tK (by rw[decide_eq_true hw];rfl) ?_
   exact⟨t,x,rfl,gt,fun tp zs H' s' g z e=>q tp zs H' s' g z (by rw[e,El hy hw])⟩
  ·refine Ce (by rw[decide_eq_false hw];rfl) ?_
   exact⟨aM rfl,fun p1 H1 s1 g1=>q p1 [] H1 s1 g1 (fun _ h=>nomatch h) (by rw[Ot hw];rfl)⟩
end
end KL
namespace KL
open PySem L2
section
variable {P:Program} {w:World} {K:W.Frag} {mg:Str->Option Value} {base:Heap}
structure BdP (rs:List RX) (sh:List Nat) (num turn:Nat) (us:List Un):Prop where
 wh:RX.Whole rs
 ok:∀r∈rs,r.Ok
 cnum:∀n t p k x,.came n t p k x∈rs->n<=num
 knum:∀n t p k x y,.kept n t p k x y∈rs->n∈sh
 trn:∀q∈rs,q.turn<=turn
 und:∀u∈us,u.x.Ok/\(∃t p k,.came u.n t p k u.x∈rs)/\(∀t y,.done u.n t y∉rs)/\(u.q=true↔.asked u.n∈rs)/\(u.q=true->u.x.far=true)
 nd:(us.map (·.n)).Nodup
 asn:∀n,.asked n∈rs->∃t p k x,.came n t p k x∈rs
 dnn:∀n t y,.done n t y∈rs->∃t p k x,.came n t p k x∈rs
theorem BdP.turn' {rs:List RX} {sh:List Nat} {num turn turn':Nat} {us:List Un} (h:BdP rs sh num turn us) (ht:turn<=turn'):BdP rs sh num turn' us:=
 ⟨h.wh,h.ok,h.cnum,h.knum,fun q hq=>hU (h.trn q hq) ht,h.und,h.nd,h.asn,h.dnn⟩
theorem BdP.came {rs:List RX} {sh:List Nat} {num turn n:Nat} {us:List Un} (h:BdP rs sh num turn us) (hn:num<n) (hns:n∉sh) (hn2:n<=999999) (ht:turn<=1000000000000) {p k:Str} {x:Dd} {e t:Addr} (hp:eO p) (hk:rY k) (hx:x.Ok) :
  BdP (rs++[.came n turn p k x]) sh n turn (us++[⟨n,x,false,e,t⟩]):=by
 have no1:.asked n∉rs:=fun m=>by obtain⟨t,p,k,x,m⟩:=h.asn n m;have:=h.cnum _ _ _ _ _ m;omega
 have no2:∀t y,.done n t y∉rs:=fun t y m=>by obtain⟨t,p,k,x,m⟩:=h.dnn n t y m;have:=h.cnum _ _ _ _ _ m;omega
 refine⟨h.wh.snoc ⟨fun n' t' p' k' d' m=>kI (h.cnum _ _ _ _ _ m) hn,fun t' p' k' d' y' m=>absurd (h.knum _ _ _ _ _ _ m) hns,h.trn⟩,fun r hr=>?_,fun n' t' p' k' x' hr=>?_,fun n' t' p' k' x' y' hr=>?_,fun q hq=>?_,fun u hu=>?_,?_,fun n' hr=>?_,fun n' t' y' hr=>?_⟩
 ·rcases aF hr with hr | rfl
  ·exact h.ok r hr
  ·exact⟨Zo,hn2,ht,hp,hk,hx⟩
 ·rcases aF hr with hr | hr
  ·have:=h.cnum _ _ _ _ _ hr;omega
  ·cases hr;exact bC _
 ·rcases aF hr with hr | hr
  ·exact h.knum _ _ _ _ _ _ hr
  ·cases hr
 ·rcases aF hq with hq | rfl
  ·exact h.trn q hq
  ·exact bC _
 ·rcases aF hu with hu | rfl
  ·obtain⟨h1,⟨t1,p1,k1,h2⟩,h3,h4,h5⟩:=h.und u hu
   refine⟨h1,⟨t1,p1,k1,List.mem_append_left _ h2⟩,fun t' y' m=>?_,⟨fun z=>List.mem_append_left _ (h4.mp z),fun m=>?_⟩,h5⟩
   ·rcases aF m with m | m
    ·exact h3 _ _ m
    ·cases m
   ·rcases aF m with m | m
    ·exact h4.mpr m
    ·cases m
  ·refine⟨hx,⟨turn,p,k,List.mem_append_right _ iW⟩,fun t' y' m=>?_,⟨(fun z=>nomatch z),fun m=>?_⟩,(fun z=>nomatch z)⟩
   ·rcases aF m with m | m
    ·exact no2 _ _ m
    ·cases m
   ·rcases aF m with m | m
    ·exact absurd m no1
    ·cases m
 ·rw[dW];refine List.nodup_append.mpr ⟨h.nd,Zs,fun a ha b hb=>?_⟩
  obtain⟨u,hu,rfl⟩:=Zmm.mp ha
  obtain⟨_,⟨t1,p1,k1,h2⟩,_⟩:=h.und u hu
  have:=h.cnum _ _ _ _ _ h2
  have hb':b=n:=by simpa using hb
  omega
 ·rcases aF hr with hr | hr
  ·obtain⟨t,p,k,x,m⟩:=h.asn n' hr;exact⟨t,p,k,x,List.mem_append_left _ m⟩
  ·cases hr
 ·rcases aF hr with hr | hr
  ·obtain⟨t,p,k,x,m⟩:=h.dnn n' _ _ hr;exact⟨t,p,k,x,List.mem_append_left _ m⟩
  ·cases hr
theorem BdP.mark {rs:List RX} {sh:List Nat} {num turn j:Nat} {us:List Un} {u:Un} (h:BdP rs sh num turn us) (hu:us[j]?=some u) (hq:u.q=false) (hf:u.x.far=true) :
  BdP (rs++[.asked u.n]) sh num turn (us.set j {u with q:=true }):=by
 have hm:=fT hu
 obtain⟨g1,⟨t1,p1,k1,g2⟩,g3,g4,g5⟩:=h.und u hm
 have no:.asked u.n∉rs:=fun m=>by rw[g4.mpr m]at hq;cases hq
 have ok1:=h.ok _ g2
 refine⟨h.wh.snoc ⟨⟨t1,p1,k1,u.x,g2,hf⟩,no,g3⟩,fun r hr=>?_,fun n' t' p' k' x' hr=>?_,fun n' t' p' k' x' y' hr=>?_,fun q hq=>?_,fun v hv=>?_,?_,fun n' hr=>?_,fun n' t' y' hr=>?_⟩
 ·rcases aF hr with hr | rfl
  ·exact h.ok r hr
  ·exact⟨ok1.1,ok1.2.1⟩
 ·rcases aF hr with hr | hr
  ·exact h.cnum _ _ _ _ _ hr
  ·cases hr
 ·rcases aF hr with hr | hr
  ·exact h.knum _ _ _ _ _ _ hr
  ·cases hr
 ·rcases aF hq with hq | rfl
  ·exact h.trn q hq
  ·exact Nat.zero_le _
 ·rcases dS hv with rfl | ⟨i,hi,ei⟩
  ·refine⟨g1,⟨t1,p1,k1,List.mem_append_left _ g2⟩,fun t' y' m=>?_,⟨fun _=>List.mem_append_right _ iW,fun _=>rfl⟩,fun _=>hf⟩
   rcases aF m with m | m
   ·exact g3 _ _ m
   ·cases m
  ·obtain⟨h1,⟨t2,p2,k2,h2⟩,h3,h4,h5⟩:=h.und v (fT ei)
   have hne:=qJ h.nd ei hu hi
   refine⟨h1,⟨t2,p2,k2,List.mem_append_left _ h2⟩,fun t' y' m=>?_,⟨fun z=>List.mem_append_left _ (h4.mp z),fun m=>?_⟩,h5⟩
   ·rcases aF m with m | m
    ·exact h3 _ _ m
    ·cases m
   ·rcases aF m with m | m
    ·exact h4.mpr m
    ·injection m with m;exact absurd m hne
 ·have e:(us.set j {u with q:=true }).map (·.n)=us.map (·.n):=by
   obtain⟨hj1,hj2⟩:=Zgs.mp hu
   rw[List.map_set];apply List.ext_getElem Zs
   intro i h1 h2;rw[List.getElem_set];split
   ·rename_i z;subst z;simp [hj2]
   ·rfl
  rw[e];exact h.nd
 ·rcases aF hr with hr | hr
  ·obtain⟨t,p,k,x,m⟩:=h.asn n' hr;exact⟨t,p,k,x,List.mem_append_left _ m⟩
  ·cases hr;exact⟨t1,p1,k1,u.x,List.mem_append_left _ g2⟩
 ·rcases aF hr with hr | hr
  ·obtain⟨t,p,k,x,m⟩:=h.dnn n' _ _ hr;exact⟨t,p,k,x,List.mem_append_left _ m⟩
  ·cases hr
theorem BdP.done {rs:List RX} {sh:List Nat} {num turn j:Nat} {us:List Un} {u:Un} {y:An} (h:BdP rs sh num turn us) (hu:us[j]?=some u) (ht:turn<=1000000000000) (r1:An.Of u.x y) (r2:u.x.far=true->(u.q=true↔y.early=false)) :
  BdP (rs++[.done u.n turn y]) sh num turn (us.eraseIdx j):=by
 have hm:=fT hu
 obtain⟨g1,⟨t1,p1,k1,g2⟩,g3,g4,g5⟩:=h.und u hm
 have ok1:=h.ok _ g2
 refine⟨h.wh.snoc ⟨h.trn,g3,t1,p1,k1,u.x,g2,r1,fun z=>⟨fun m=>(r2 z).mp (g4.mpr m),fun m=>g4.mp ((r2 z).mpr m)⟩⟩,fun r hr=>?_,fun n' t' p' k' x' hr=>?_,fun n' t' p' k' x' y' hr=>?_,fun q hq=>?_,fun v hv=>?_,?_,fun n' hr=>?_,fun n' t' y' hr=>?_⟩
 ·rcases aF hr with hr | rfl
  ·exact h.ok r hr
  ·exact⟨ok1.1,ok1.2.1,ht⟩
 ·rcases aF hr with hr | hr
  ·exact h.cnum _ _ _ _ _ hr
  ·cases hr
 ·rcases aF hr with hr | hr
  ·exact h.knum _ _ _ _ _ _ hr
  ·cases hr
 ·rcases aF hq with hq | rfl
  ·exact h.trn q hq
  ·exact bC _
 ·obtain⟨i,hi,ei⟩:=List.mem_eraseIdx_iff_getElem?.mp hv
  obtain⟨h1,⟨t2,p2,k2,h2⟩,h3,h4,h5⟩:=h.und v (fT ei)
  have hne:=qJ h.nd ei hu hi
  refine⟨h1,⟨t2,p2,k2,List.mem_append_left _ h2⟩,fun t' y' m=>?_,⟨fun z=>List.mem_append_left _ (h4.mp z),fun m=>?_⟩,h5⟩
  ·rcases aF m with m | m
   ·exact h3 _ _ m
   ·injection m with m;exact absurd m hne
  ·rcases aF m with m | m
   ·exact h4.mpr m
   ·cases m
 ·exact h.nd.sublist ((List.eraseIdx_sublist us j).map _)
 ·rcases aF hr with hr | hr
  ·obtain⟨t,p,k,x,m⟩:=h.asn n' hr;exact⟨t,p,k,x,List.mem_append_left _ m⟩
  ·cases hr
 ·rcases aF hr with hr | hr
  ·obtain⟨t,p,k,x,m⟩:=h.dnn n' _ _ hr;exact⟨t,p,k,x,List.mem_append_left _ m⟩
  ·cases hr;exact⟨t1,p1,k1,u.x,List.mem_append_left _ g2⟩
theorem BdP.start {rs:List RX} {sh:List Nat} {num turn:Nat} (h:lA rs) (hk:∀n t p k x y,.kept n t p k x y∈rs->n∈sh) (ht:∀n t,.next n t∈rs->t<=turn):BdP rs sh num turn []:=by
 have no:∀r∈rs,r.rank=3->False:=fun r hr e=>by have:=h.rk r hr;omega
 refine⟨h.wh,h.ok,fun n t p k x m=>(no _ m rfl).elim,hk,fun q hq=>?_,(fun u hu=>nomatch hu),List.nodup_nil,fun n m=>(no _ m rfl).elim,fun n t y m=>(no _ m rfl).elim⟩
 cases q with
 | next n t=>exact ht _ _ hq
 | has z m=>exact Nat.zero_le _
 | kept n t p k x y=>exact Nat.zero_le _
 | came n t p k x=>exact(no _ hq rfl).elim
 | asked n=>exact(no _ hq rfl).elim
 | done n t y=>exact(no _ hq rfl).elim
def nI (ns:List Nat):List V:=ns.map fun n:Nat=>V.int (n:Int)
structure BdH (H:Hp) (d b ra bk ul:Addr) (H':Hp) (rs:List RX) (as:List Addr) (sh:List Nat) (us:List Un):Prop where
 d0:Dk H d b
 r0:∃xs,H ra=some (.lst xs)
 fbk:H bk=none
 ful:H ul=none
 fes:∀u∈us,H u.e=none
 nra:ra≠d/\ra≠b
 nbu:bk≠ul
 nue:∀u∈us,u.e≠ul/\u.e≠bk
 nde:(us.map (·.e)).Nodup
 dk:Dk H' d b
 rows:RxsAt H' ra rs as
 book:H' bk=some (.lst (nI sh))
 und:H' ul=some (.lst ((us.map (·.e)).map V.ref))
 ent:∀u∈us,oJ H' u.e u.n u.t u.x u.q
 fr:∀c o,H c=some o->c≠d->c≠b->c≠ra->H' c=some o
section
variable {H H' H'':Hp} {d b ra bk ul:Addr} {rs:List RX} {as:List Addr} {sh:List Nat} {us:List Un}
theorem BdH.ra_ne (h:BdH H d b ra bk ul H' rs as sh us):ra≠bk/\ra≠ul/\∀u∈us,ra≠u.e:=by
 obtain⟨xs,r0⟩:=h.r0
 exact⟨aD r0 h.fbk,aD r0 h.ful,fun u hu=>aD r0 (h.fes u hu)⟩
theorem BdH.ne_d (h:BdH H d b ra bk ul H' rs as sh us) {c:Addr} (hc:H c=none):c≠d/\c≠b:=h.d0.ne hc
theorem BdH.fw (h:BdH H d b ra bk ul H' rs as sh us) (F:Fw d b H' H''):BdH H d b ra bk ul H'' rs as sh us:=by
 have nb:=h.ne_d h.fbk
 have nu:=h.ne_d h.ful
 refine⟨h.d0,h.r0,h.fbk,h.ful,h.fes,h.nra,h.nbu,h.nue,h.nde,F.dk,h.rows.keep F.tk (F.get h.rows.lst h.nra.1 h.nra.2),F.get h.book nb.1 nb.2,F.get h.und nu.1 nu.2,fun u hu=>?_,fun c o e n1 n2 n3=>F.get (h.fr c o e n1 n2 n3) n1 n2⟩
 have ne:=h.ne_d (h.fes u hu)
 exact⟨F.get (h.ent u hu).1 ne.1 ne.2,F.tup (h.ent u hu).2⟩
theorem BdH.row (h:BdH H d b ra bk ul H' rs as sh us) {r:RX} {a:Addr} (hr:r.At H' a):BdH H d b ra bk ul (aI H' ra (.lst (as.map V.ref++[.ref a]))) (rs++[r]) (as++[a]) sh us:=by
 obtain⟨n1,n2,n3⟩:=h.ra_ne
 have tk:TK H' (aI H' ra (.lst (as.map V.ref++[.ref a]))):=cR h.rows.lst
 refine⟨h.d0,h.r0,h.fbk,h.ful,h.fes,h.nra,h.nbu,h.nue,h.nde,Dk.put' h.dk h.nra.1 h.nra.2,h.rows.snoc tk (hr.tk tk) aA,by rw[aE n1.symm];exact h.book,by rw[aE n2.symm];exact h.und,fun u hu=>⟨by rw[aE (n3 u hu).symm];exact(h.ent u hu).1,tk _ _ (h.ent u hu).2⟩,fun c o e m1 m2 m3=>by rw[aE m3];exact h.fr c o e m1 m2 m3⟩
theorem BdH.push (h:BdH H d b ra bk ul H' rs as sh us) {n:Nat} {x:Dd} {q:Bool} {e t:Addr} (he:oJ H' e n t x q) (hf:H e=none) (h1:e≠ul) (h2:e≠bk) (h3:∀u∈us,u.e≠e) :
  BdH H d b ra bk ul (aI H' ul (.lst ((us.map (·.e)).map V.ref++[.ref e]))) rs as sh (us++[⟨n,x,q,e,t⟩]):=by
 obtain⟨n1,n2,n3⟩:=h.ra_ne
 have nu:=h.ne_d h.ful
 have tk:TK H' (aI H' ul (.lst ((us.map (·.e)).map V.ref++[.ref e]))):=cR h.und
 refine⟨h.d0,h.r0,h.fbk,h.ful,fun u hu=>?_,h.nra,h.nbu,fun u hu=>?_,?_,Dk.put' h.dk nu.1 nu.2,h.rows.keep tk (by rw[aE n2];exact h.rows.lst),by rw[aE h.nbu];exact h.book,by rw[aA,dW,dW];rfl,fun u hu=>?_,fun c o e' m1 m2 m3=>by rw[aE (aD e' h.ful)];exact h.fr c o e' m1 m2 m3⟩
 ·rcases aF hu with hu | rfl
  ·exact h.fes u hu
  ·exact hf
 ·rcases aF hu with hu | rfl
  ·exact h.nue u hu
  ·exact⟨h1,h2⟩
 ·rw[dW];refine List.nodup_append.mpr ⟨h.nde,Zs,fun a ha c hc=>?_⟩
  obtain⟨u,hu,rfl⟩:=Zmm.mp ha
  have:c=e:=by simpa using hc
  rw[this];exact h3 u hu
 ·rcases aF hu with hu | rfl
  ·exact⟨by rw[aE (h.nue u hu).1];exact(h.ent u hu).1,tk _ _ (h.ent u hu).2⟩
  ·exact⟨by rw[aE h1];exact he.1,tk _ _ he.2⟩
theorem BdH.mark (h:BdH H d b ra bk ul H' rs as sh us) {j:Nat} {u:Un} (hu:us[j]?=some u) :
  BdH H d b ra bk ul (aI H' u.e (.lst [.int (u.n:Int),.ref u.t,.bl true])) rs as sh (us.set j {u with q:=true }):=by
 obtain⟨n1,n2,n3⟩:=h.ra_ne
 have hm:=fT hu
 have ne:=h.ne_d (h.fes u hm)
 have tk:TK H' (aI H' u.e (.lst [.int (u.n:Int),.ref u.t,.bl true])):=cR (h.ent u hm).1
 have em:(us.set j {u with q:=true }).map (·.e)=us.map (·.e):=by
  obtain⟨hj1,hj2⟩:=Zgs.mp hu
  rw[List.map_set];apply List.ext_getElem Zs
  intro i h1 h2;rw[List.getElem_set];split
  ·rename_i z;subst z;simp [hj2]
  ·rfl
 refine⟨h.d0,h.r0,h.fbk,h.ful,fun v hv=>?_,h.nra,h.nbu,fun v hv=>?_,by rw[em];exact h.nde,Dk.put' h.dk ne.1 ne.2,h.rows.keep tk (by rw[aE (n3 u hm)];exact h.rows.lst),by rw[aE (h.nue u hm).2.symm];exact h.book,by rw[aE (h.nue u hm).1.symm,em];exact h.und,fun v hv=>?_,fun c o e' m1 m2 m3=>by rw[aE (aD e' (h.fes u hm))];exact h.fr c o e' m1 m2 m3⟩
 ·rcases dS hv with rfl | ⟨i,hi,ei⟩
  ·exact h.fes u hm
  ·exact h.fes v (fT ei)
 ·rcases dS hv with rfl | ⟨i,hi,ei⟩
  ·exact h.nue u hm
  ·exact h.nue v (fT ei)
 ·rcases dS hv with rfl | ⟨i,hi,ei⟩
  ·exact⟨aA,tk _ _ (h.ent u hm).2⟩
  ·have hv':=fT ei
   exact⟨by rw[aE (Eg h.nde ei hu hi)];exact(h.ent v hv').1,tk _ _ (h.ent v hv').2⟩
theorem BdH.drop (h:BdH H d b ra bk ul H' rs as sh us) (j:Nat):BdH H d b ra bk ul (aI H' ul (.lst (((us.map (·.e)).eraseIdx j).map V.ref))) rs as sh (us.eraseIdx j):=by
 obtain⟨n1,n2,n3⟩:=h.ra_ne
 have nu:=h.ne_d h.ful
 have tk:TK H' (aI H' ul (.lst (((us.map (·.e)).eraseIdx j).map V.ref))):=cR h.und
 have sub:∀u∈us.eraseIdx j,u∈us:=fun u hu=>List.mem_of_mem_eraseIdx hu
 have em:(us.eraseIdx j).map (·.e)=(us.map (·.e)).eraseIdx j:=by
  have:∀(us:List Un) (j:Nat),(us.eraseIdx j).map (·.e)=(us.map (·.e)).eraseIdx j:=by
   intro us;induction us with
   | nil=>intro j;simp
   | cons u us ih=>
    intro j;cases j with
    | zero=>simp
    | succ j=>rw[List.eraseIdx_cons_succ,List.map_cons,List.map_cons,List.eraseIdx_cons_succ,ih]
  exact this us j
 refine⟨h.d0,h.r0,h.fbk,h.ful,fun u hu=>h.fes u (sub u hu),h.nra,h.nbu,fun u hu=>h.nue u (sub u hu),h.nde.sublist ((List.eraseIdx_sublist us j).map _),Dk.put' h.dk nu.1 nu.2,h.rows.keep tk (by rw[aE n2];exact h.rows.lst),by rw[aE h.nbu];exact h.book,by rw[aA,em],fun u hu=>⟨by rw[aE (h.nue u (sub u hu)).1];exact(h.ent u (sub u hu)).1,tk _ _ (h.ent u (sub u hu)).2⟩,fun c o e' m1 m2 m3=>by rw[aE (aD e' h.ful)];exact h.fr c o e' m1 m2 m3⟩
theorem BdH.rem (h:BdH H d b ra bk ul H' rs as sh us) (hn:(us.map (·.n)).Nodup) {j:Nat} {u:Un} (hu:us[j]?=some u) {Q:VK} (q:Q .non (aI H' ul (.lst (((us.map (·.e)).eraseIdx j).map V.ref)))):eQ (.ref ul) [.ref u.e] H' Q:=by
 have hm:=fT hu
 refine⟨us.map (·.e),j,h.und,by rw[fS,hu];rfl,h.nde,fun c hc hne=>?_,q⟩
 obtain⟨v,hv,rfl⟩:=Zmm.mp hc
 obtain⟨i,hi,ei⟩:=List.getElem_of_mem hv
 have hv':us[i]?=some v:=by rw[iJ hi,ei]
 have hij:i≠j:=fun z=>hne (by rw[z]at hv';rw[hu]at hv';cases hv';rfl)
 refine⟨(v.n:Int),(u.n:Int),[.ref v.t,.bl v.q],[.ref u.t,.bl u.q],(h.ent v hv).1,(h.ent u hm).1,?_,rfl,fun i u' v' e1 e2=>?_⟩
 ·have:=qJ hn hv' hu hij;omega
 ·match i,e1,e2 with
  | 0,e1,e2=>
   cases e1;cases e2
   exact .inr ⟨v.t,u.t,_,_,rfl,rfl,(h.ent v hv).2,(h.ent u hm).2,fun j x y h1 h2=>⟨mP v.x x (fT h1),mP u.x y (fT h2)⟩⟩
  | 1,e1,e2=>cases e1;cases e2;exact .inl ⟨rfl,rfl⟩
  | i+2,e1,e2=>cases e1
end
end
end KL
namespace KL
open PySem L2
section
variable {P:Program} {w:World} {K:W.Frag} {mg:Str->Option Value} {base:Heap}
theorem Iv (ns:List Nat):(nI ns).all eX=true:=by unfold nI;rw[List.all_eq_true];intro v hv;obtain⟨n,_,rfl⟩:=Zmm.mp hv;rfl
theorem Em (n:Nat):∀sh:List Nat,oW (.int (n:Int)) (nI sh)=decide (n∈sh)
 | []=>rfl
 | a::r=>by
  have h1:oW (.int (n:Int)) (nI (a::r))=(Ae (.int (a:Int)) (.int (n:Int))||oW (.int (n:Int)) (nI r)):=rfl
  have e:Ae (.int (a:Int)) (.int (n:Int))=decide (a=n):=by
   show((a:Int) == (n:Int))=_
   by_cases h:a=n
   ·subst h;simp
   ·rw[decide_eq_false h];exact beq_eq_false_iff_ne.mpr Zo
  rw[h1,e,Em n r];by_cases h:a=n
  ·subst h;simp
  ·have h':n≠a:=fun z=>h z.symm
   simp [h,h']
def Af (sh:List Nat) (m:Nat):Nat:=(sh.filter fun x=>decide (m<=x)).length
theorem kB (a:Nat) (r:List Nat) (m:Nat):Af (a::r) m=Af r m+(if m<=a then 1 else 0):=by
 unfold Af;rw[List.filter_cons];by_cases h:m<=a
 ·rw[if_pos (decide_eq_true h),if_pos h];rfl
 ·rw[if_neg (by simpa using h),if_neg h];rfl
theorem Ou (m:Nat):∀sh,Af sh m<=sh.length:=fun sh=>List.length_filter_le _ _
theorem uM (m:Nat):∀sh,Af sh (m+1)<=Af sh m
 | []=>bC _
 | a::r=>by
  have:=uM m r
  rw[kB,kB];split <;> split <;> omega
theorem En {m:Nat}:∀ {sh:List Nat},m∈sh->Af sh (m+1)<Af sh m
 | a::r,h=>by
  rw[kB,kB];have h0:=uM m r
  by_cases e:a=m
  ·subst e;rw[if_neg Zo,if_pos (bC _)];omega
  ·have hm:m∈r:=by
    rcases List.mem_cons.mp h with z | z
    ·exact absurd z.symm e
    ·exact z
   have:=En hm
   split <;> split <;> omega
theorem BdH.men {H H':Hp} {d b ra bk ul lm:Addr} {rs:List RX} {as:List Addr} {sh:List Nat} {us:List Un} {M:List Addr} (h:BdH H d b ra bk ul H' rs as sh us) (hM:MenusAt H lm M) (h1:d∉M) (h2:b∉M) (h3:ra∉M):MenusAt H' lm M:=
 hM.keep fun c hc o e=>h.fr c o e (fun z=>h1 (z ▸ hc)) (fun z=>h2 (z ▸ hc)) (fun z=>h3 (z ▸ hc))
theorem Eo (y:An):oW (.str (lY y)) [.str "short",.str "full"]=y.early:=by cases y <;> rfl
theorem Iw {x:Dd} {q:Bool} {z:Str} (h:z∈iY x q):z∈gM x:=by
 cases hf:x.far with
 | false=>rw[oF x hf]at h;exact h
 | true=>rw[mL x hf]at h;exact(List.mem_filter.mp h).1
theorem zW {x:Dd} {q:Bool} {y:An} (h:lY y∈iY x q) (hf:x.far=true):q=true↔y.early=false:=by
 rw[mL x hf]at h;have:=(List.mem_filter.mp h).2
 rw[Eo]at this;revert this
 cases q <;> cases y.early <;> decide
def tB (i:Nat):Nat:=500000000000+1000000000*i
theorem xZ (i:Nat):tB (i+1)=tB i+1000000000:=by unfold tB;rw[Nat.mul_succ,Nat.add_assoc]
theorem Ki {i:Nat} (h:i<=30):tB i<=600000000000:=hU (Nat.add_le_add_left (Nat.mul_le_mul_left _ h) _) (Nat.le_of_ble_eq_true rfl)
def Ov (H:Hp) (d b ra lm bk ul:Addr) (sh:List Nat) (many i:Nat) (σ':St) (H':Hp):Prop:=∃(rs:List RX) (as:List Addr) (us:List Un) (num turn:Nat) (o8 o9 o10 o11 o12 o13:Option V),σ'=[some (.ref d),some (.ref ra),some (.ref lm),some (.int (many:Int)),some (.ref bk),some (.ref ul),some (.int (num:Int)),some (.int (turn:Int)),o8,o9,o10,o11,o12,o13]/\BdH H d b ra bk ul H' rs as sh us/\BdP rs sh num turn us/\rs.length<=13+i/\num<=900006+22*i/\turn<=tB i/\us.length<=i
theorem Ix (T:Txt K mg) (cLdraw:aH P w K mg base 1 "_law_draw" ["_law_deck_here","_law_many"] bD) (cLdeed:aH P w K mg base 3 "_law_deed" ["_law_deck_here","_law_names","_law_houses"] iR) (cLspot:aH P w K mg base 2 "_law_spot" ["_law_deck_here","_law_menus_here"] iU)
  {fa:Addr} {cdv:Value} {A:Around} {outer:List Env} {s:Shared} {H0:Hp} {E:XK} (hr:Room 3 (A.deeper (PyProof.Rows.envOfC "_law_body" (aB bJ) s.heap.objs.size fa cdv))) :
  ∃t,XB (cW mH P w K mg base ["_law_deck_here","_law_rows","_law_menus_here","_law_many","_law_shut","_law_under","_law_number","_law_turn","_law_k","_law_way","_law_deed_here","_law_one","_law_words_here","_law_answer_here"] "_law_body" (aB bJ) fa cdv A outer s H0 E).nox (Vc (tV (Tg (tV (aQ bJ) 4)) 2)) t ∧
  ∀(D:hZ) (H H9:Hp) (d b ra lm bk ul:Addr) (M:List Addr) (sh:List Nat) (many i way num turn turn':Nat) (rs:List RX) (as:List Addr) (us:List Un) (o10 o11 o12 o13:Option V),MenusAt H lm M->d∉M->b∉M->ra∉M->i<30->sh.length<=13->BdH H d b ra bk ul H9 rs as sh us->BdP rs sh num turn' us->rs.length<=13+i->num<=900006+22*i->turn<=tB i->us.length<=i->turn<=turn'->turn'<=turn+1000000000->(∀ σ' H',Ov H d b ra lm bk ul sh many (i+1) σ' H'->D.nx σ' H') →
   t D [some (.ref d),some (.ref ra),some (.ref lm),some (.int (many:Int)),some (.ref bk),some (.ref ul),some (.int (num:Int)),some (.int (turn':Int)),some (.int (i:Int)),some (.int (way:Int)),o10,o11,o12,o13] H9:=by
 have hLdraw:Room 1 _:=hr.mono Zd
 have hLdeed:Room 3 _:=hr.mono Zd
 have hLspot:Room 2 _:=hr.mono Zd
 have hu:=hr.units0
 have hu64:=hr.units
 refine⟨_,(R.ad (R.ah (i:=6) aW.nd (R.op R.aq (R.op R.aq (R.v 6) R.aa) (R.ix (R.ao (K:=K)) (R.au (R.U R.aa (R.U R.aa (R.U (R.fn cLdraw hLdraw rfl (R.U (R.v 0) (R.U R.aa R.ac))) R.ac)))) (R.fn cLdraw hLdraw rfl (R.U (R.v 0) (R.U R.aa R.ac)))))) (R.ad (R.iw PassesOwn.never (R.ai (R.bd (K:=K)) (R.v 6) (R.v 4)) (R.af (R.ah (i:=6) aW.nd (R.op R.aq (R.v 6) R.aa)))) (R.ad (R.ah (i:=10) aW.nd (R.fn cLdeed hLdeed rfl (R.U (R.v 0) (R.U (R.ix (R.ao (K:=K)) (R.v 2) R.aa) (R.U (R.ix (R.ao (K:=K)) (R.v 2) R.aa) R.ac))))) (R.ad (R.az (R.ba (K:=K) PySem.F.plainAttrs_list PySem.F.slot_list_append PySem.F.type_list_append R.bi (R.v 1) (R.U (R.op R.bu (R.op R.bu (R.al (R.U R.ae (R.U (R.v 6) (R.U (R.v 7) R.ac)))) (R.fn cLspot hLspot rfl (R.U (R.v 0) (R.U (R.v 2) R.ac)))) (R.al (R.U (R.v 10) R.ac))) R.ac))) (R.af (R.az (R.ba (K:=K) PySem.F.plainAttrs_list PySem.F.slot_list_append PySem.F.type_list_append R.bi (R.v 5) (R.U (R.au (R.U (R.v 6) (R.U (R.v 10) (R.U R.bl R.ac)))) R.ac)))))))),?_⟩
 intro D H H9 d b ra lm bk ul M sh many i way num turn turn' rs as us o10 o11 o12 o13 hM oD oB oR hi hsh L9 P8 l1 l2 l3 l5 t1 t2 nxt;have b3:turn'<=tB (i+1):=by have:=xZ i;omega
 have b4:turn'<=1000000000000:=by have:=Ki (i:=i) Zo;omega
 refine bF (fun σ' H'=>∃(m:Nat),σ'=[some (.ref d),some (.ref ra),some (.ref lm),some (.int (many:Int)),some (.ref bk),some (.ref ul),some (.int (m:Int)),some (.int (turn':Int)),some (.int (i:Int)),some (.int (way:Int)),o10,o11,o12,o13]/\num<m/\m<=num+9/\BdH H d b ra bk ul H' rs as sh us) (fun nx' hnx'=>?_) ?_
 ·refine⟨d,b,9,rfl,L9.dk,Zd,Zd,fun r8 H8 x0 x1 D8 k8=>⟨cP rfl,fun p hp=>⟨d,b,3,rfl,D8.new hp,Zd,Zd,fun r9 Ha y0 y1 D9 k9=>?_⟩⟩⟩
  obtain⟨r8,rfl⟩:=cV x0
  have hpd:=D8.ne hp
  have gp:=k9 p _ aA hpd.1 hpd.2
  have La:=L9.fw ((((Fw.refl L9.dk).draw D8 k8).new hp).draw D9 k9)
  rcases(by omega:r9=0∨r9=1∨r9=2) with rfl | rfl | rfl
  ·exact⟨_,SqL.of gp,_,rfl,hnx' _ _ ⟨num+1,rfl,Zo,Zo,La⟩⟩
  ·exact⟨_,SqL.of gp,_,rfl,hnx' _ _ ⟨num+1,rfl,Zo,Zo,La⟩⟩
  ·exact⟨_,SqL.of gp,_,rfl,hnx' _ _ ⟨num+1+r8,rfl,Zo,Zo,La⟩⟩
 rintro σ' Hz ⟨m0,rfl,z1,z2,Lz⟩
 refine bF (fun σ' H'=>∃(m:Nat),σ'=[some (.ref d),some (.ref ra),some (.ref lm),some (.int (many:Int)),some (.ref bk),some (.ref ul),some (.int (m:Int)),some (.int (turn':Int)),some (.int (i:Int)),some (.int (way:Int)),o10,o11,o12,o13]/\num<m/\m<=num+22/\m∉sh/\BdH H d b ra bk ul H' rs as sh us) (fun nx' hnx'=>?_) ?_
 ·refine⟨fun k σ' H'=>∃(m:Nat),σ'=[some (.ref d),some (.ref ra),some (.ref lm),some (.int (many:Int)),some (.ref bk),some (.ref ul),some (.int (m:Int)),some (.int (turn':Int)),some (.int (i:Int)),some (.int (way:Int)),o10,o11,o12,o13]/\k=Af sh m/\num<m/\m+Af sh m<=num+22/\H'=Hz,⟨Af sh m0,m0,rfl,rfl,z1,by have:=Ou m0 sh;omega,rfl⟩,?_⟩
  rintro k σ' H' ⟨m,rfl,rfl,q1,q2,rfl⟩
  refine⟨bk,_,rfl,.inl (SqL.of Lz.book),rfl,Iv _,?_⟩
  show if oW (.int (m:Int)) (nI sh)=true then _ else _
  rw[Em];refine bQ (fun h=>?_) (fun h=>hnx' _ _ ⟨m,rfl,q1,Zo,of_decide_eq_false h,Lz⟩)
  have hlt:=En (of_decide_eq_true h)
  refine⟨fun σ'' H''=>σ''=[some (.ref d),some (.ref ra),some (.ref lm),some (.int (many:Int)),some (.ref bk),some (.ref ul),some (.int ((m+1:Nat):Int)),some (.int (turn':Int)),some (.int (i:Int)),some (.int (way:Int)),o10,o11,o12,o13]/\H''=H',fun σ'' H'' ⟨e1,e2⟩=>⟨Af sh (m+1),hlt,m+1,e1,rfl,Zo,Zo,e2⟩,?_⟩
  exact⟨rfl,rfl⟩
 rintro σ' Ha ⟨m,rfl,m1,m2,mns,La⟩
 have hMa:=La.men hM oD oB oR
 obtain⟨a0,a1,a2,a3,ws,us',ps,ks,eM,h0,h1,h2,h3,h4,mw,mu,_⟩:=hMa.ex
 have nd:∀c∈M,c≠d/\c≠b:=fun c hc=>⟨(fun z=>oD (z ▸ hc)),(fun z=>oB (z ▸ hc))⟩
 have i0:a0∈M:=by rw[eM];simp
 have i1:a1∈M:=by rw[eM];simp
 refine⟨_,SqL.of h0,_,rfl,_,SqL.of h0,_,rfl,d,b,a0,a1,ws,us',rfl,La.dk,h1,h2,⟨(nd a0 i0).1,(nd a0 i0).2,(nd a1 i1).1,(nd a1 i1).2⟩,mw,mu,fun t' x' Hc hx' gx' fc=>?_⟩
 have Lc:=La.fw fc
 dsimp only [aJ];refine⟨.inl ⟨rfl,_,SqL.of Lc.rows.lst⟩,aM rfl,fun q1 Hd sd gd=>?_⟩
 have Ld:=Lc.fw ((Fw.refl Lc.dk).same sd)
 refine⟨d,b,lm,M,rfl,Ld.dk,Ld.men hM oD oB oR,oD,oB,fun q2 pp kk He hpp hkk ge fe=>?_⟩
 refine⟨_,_,fe.tup gd,ge,Nat.le_of_ble_eq_true rfl,fun q3 Hf sf gf=>⟨aM rfl,fun q4 Hg sg gg=>⟨_,_,sg _ _ gf,gg,Nat.le_of_ble_eq_true rfl,fun q5 Hh sh' gh=>?_⟩⟩⟩
 have Fh:=(((fe.same sf).same sg).same sh')
 have Lh:=Ld.fw Fh
 have lr:=Lh.rows.len
 refine⟨ra,_,_,rfl,rfl,Lh.rows.lst,by rw[aR];exact kI (m:=1000) Zo Zd,?_⟩
 have Li:=Lh.row (r:=.came m turn' pp kk x') (a:=q5) ⟨t',gh,Fh.tup (sd _ _ gx')⟩
 have gti:(aI Hh ra (.lst (as.map V.ref++[.ref q5]))) t'=some (.tup x'.vs):=cR Lh.rows.lst _ _ (Fh.tup (sd _ _ gx'))
 generalize aI Hh ra (.lst (as.map V.ref++[.ref q5]))=Hi at Li gti;refine⟨.inl ⟨rfl,_,SqL.of Li.und⟩,cP rfl,fun e he=>?_⟩
 have Lj:=Li.fw ((Fw.refl Li.dk).new (o:=.lst [.int (m:Int),.ref t',.bl false]) he)
 have ge':oJ (aI Hi e (.lst [.int (m:Int),.ref t',.bl false])) e m t' x' false:=⟨aA,aN gti he⟩
 have eul:e≠ul:=(aD Li.und he).symm
 have ebk:e≠bk:=(aD Li.book he).symm
 have eus:∀u∈us,u.e≠e:=fun u hu=>aD (Li.ent u hu).1 he
 have fe0:H e=none:=by
  cases hh:H e with
  | none=>rfl
  | some o=>
   have hed:=Li.dk.ne he
   have:e≠ra:=(aD Li.rows.lst he).symm
   rw[Li.fr e o hh hed.1 hed.2 this]at he;cases he
 refine⟨ul,_,_,rfl,rfl,Lj.und,by rw[aR,aR];exact kI (m:=1000) Zo Zd,?_⟩
 exact nxt _ _ ⟨_,_,_,m,turn',_,_,_,_,_,_,rfl,Lj.push ge' fe0 eul ebk eus,P8.came m1 mns Zo b4 hpp hkk hx',by simp;omega,Zo,b3,by simp;omega⟩
theorem Iy (T:Txt K mg) (cLdraw:aH P w K mg base 1 "_law_draw" ["_law_deck_here","_law_many"] bD) (cLwords:aH P w K mg base 1 "_law_words" ["_law_deed_here","_law_asked"] jY) (cLanswer:aH P w K mg base 3 "_law_answer" ["_law_deck_here","_law_deed_here","_law_word"] sF)
  {fa:Addr} {cdv:Value} {A:Around} {outer:List Env} {s:Shared} {H0:Hp} {E:XK} (hr:Room 3 (A.deeper (PyProof.Rows.envOfC "_law_body" (aB bJ) s.heap.objs.size fa cdv))) :
  ∃t,XB (cW mH P w K mg base ["_law_deck_here","_law_rows","_law_menus_here","_law_many","_law_shut","_law_under","_law_number","_law_turn","_law_k","_law_way","_law_deed_here","_law_one","_law_words_here","_law_answer_here"] "_law_body" (aB bJ) fa cdv A outer s H0 E).nox (Vd (tV (Tg (tV (aQ bJ) 4)) 2)) t ∧
  ∀(D:hZ) (H H9:Hp) (d b ra lm bk ul:Addr) (M:List Addr) (sh:List Nat) (many i way num turn turn':Nat) (rs:List RX) (as:List Addr) (us:List Un) (o10 o11 o12 o13:Option V),MenusAt H lm M->d∉M->b∉M->ra∉M->i<30->sh.length<=13->BdH H d b ra bk ul H9 rs as sh us->BdP rs sh num turn' us->rs.length<=13+i->num<=900006+22*i->turn<=tB i->us.length<=i->turn<=turn'->turn'<=turn+1000000000->us≠[]->(∀ σ' H',Ov H d b ra lm bk ul sh many (i+1) σ' H'->D.nx σ' H') →
   t D [some (.ref d),some (.ref ra),some (.ref lm),some (.int (many:Int)),some (.ref bk),some (.ref ul),some (.int (num:Int)),some (.int (turn':Int)),some (.int (i:Int)),some (.int (way:Int)),o10,o11,o12,o13] H9:=by
 have hLdraw:Room 1 _:=hr.mono Zd
 have hLwords:Room 1 _:=hr.mono Zd
 have hLanswer:Room 3 _:=hr.mono Zd
 have hu:=hr.units0
 have hu64:=hr.units
 refine⟨_,(R.ad (R.ah (i:=11) aW.nd (R.ix (R.ao (K:=K)) (R.v 5) (R.fn cLdraw hLdraw rfl (R.U (R.v 0) (R.U (R.aw (R.bc (K:=K)) rfl T.b_len bZ (R.U (R.v 5) R.ac)) R.ac))))) (R.ad (R.ah (i:=12) aW.nd (R.fn cLwords hLwords rfl (R.U (R.ix (R.ao (K:=K)) (R.v 11) R.aa) (R.U (R.ix (R.ao (K:=K)) (R.v 11) R.aa) R.ac)))) (R.af (R.ar (R.tw (R.bw (R.ai R.eq (R.v 9) R.aa) (R.bw (R.cq (R.bj (R.ix (R.ao (K:=K)) (R.v 11) R.aa))) (R.da (R.ai (R.bd (K:=K)) (R.ix (R.ag (K:=K)) (R.ix (R.ao (K:=K)) (R.v 11) R.aa) R.aa) (R.al (R.U R.ae (R.U R.ae (R.U R.ae R.ac))))))))) (R.ad (R.az (R.ba (K:=K) PySem.F.plainAttrs_list PySem.F.slot_list_append PySem.F.type_list_append R.bi (R.v 1) (R.U (R.al (R.U R.ae (R.U (R.ix (R.ao (K:=K)) (R.v 11) R.aa) R.ac))) R.ac))) (R.af (R.bq R.bl (R.br (R.v 11) R.aa R.fh)))) (R.af (R.ar (R.ai (R.gw (K:=K) hu) (R.v 12) (R.au R.ac)) (R.ad (R.ah (i:=13) aW.nd (R.fn cLanswer hLanswer rfl (R.U (R.v 0) (R.U (R.ix (R.ao (K:=K)) (R.v 11) R.aa) (R.U (R.ix (R.ao (K:=K)) (R.v 12) (R.fn cLdraw hLdraw rfl (R.U (R.v 0) (R.U (R.aw (R.bc (K:=K)) rfl T.b_len bZ (R.U (R.v 12) R.ac)) R.ac)))) R.ac))))) (R.ad (R.az (R.ba (K:=K) PySem.F.plainAttrs_list PySem.F.slot_list_append PySem.F.type_list_append R.bi (R.v 1) (R.U (R.al (R.U R.ae (R.U (R.ix (R.ao (K:=K)) (R.v 11) R.aa) (R.U (R.v 7) (R.U (R.v 13) R.ac))))) R.ac))) (R.af (R.az (R.ba (K:=K) PySem.F.plainAttrs_list PySem.F.slot_list_remove PySem.F.type_list_remove (R.el hu64) (R.v 5) (R.U (R.v 11) R.ac)))))) R.av)))))),?_⟩
 intro D H H9 d b ra lm bk ul M sh many i way num turn turn' rs as us o10 o11 o12 o13 hM oD oB oR hi hsh L9 P8 l1 l2 l3 l5 t1 t2 hne nxt;have b3:turn'<=tB (i+1):=by have:=xZ i;omega
 have b4:turn'<=1000000000000:=by have:=Ki (i:=i) Zo;omega
 have hpos:0<us.length:=by cases us with | nil=>exact absurd rfl hne | cons _ _=>exact Nat.succ_pos _
 refine⟨_,.inl (SqL.of L9.und),d,b,(us.length:Int),by rw[aR,aR],L9.dk,Zo,Zo,fun r Ha r0 r1 Da ka=>?_⟩
 have La:=L9.fw ((Fw.refl L9.dk).draw Da ka)
 obtain⟨j,rfl⟩:=cV r0
 have hj:j<us.length:=by omega
 obtain⟨u,huj⟩:∃u,us[j]?=some u:=⟨us[j],iJ hj⟩
 have hum:=fT huj
 obtain⟨g1,⟨tc,pc,kc,g2⟩,g3,g4,g5⟩:=P8.und u hum
 refine⟨_,SqL.of La.und,.ref u.e,dX (by rw[fS,fS,huj];rfl),?_⟩
 dsimp only [aJ];refine⟨_,SqL.of (La.ent u hum).1,_,rfl,_,SqL.of (La.ent u hum).1,_,rfl,u.t,u.x,u.q,rfl,(La.ent u hum).2,fun wl Hb fwl gwl sb=>?_⟩
 have nwl:=La.dk.ne fwl
 have nwr:wl≠ra:=(aD La.rows.lst fwl).symm
 have Lb:=La.fw ((Fw.refl La.dk).same sb)
 dsimp only [aJ];refine tW (fun c H'=>BdH H d b ra bk ul H' rs as sh us/\H' wl=some (.lst ((iY u.x u.q).map V.str))/\(c=true->u.q=false/\u.x.far=true)) (fun k hk=>?_) ?_ ?_
 ·have en:=(Lb.ent u hum)
  refine bQ (fun _=>?_) (fun _=>hk _ _ ⟨Lb,gwl,(fun z=>nomatch z)⟩)
  refine⟨_,SqL.of en.1,_,rfl,?_⟩
  show if (!u.q)=true then _ else _
  refine bQ (fun hq=>?_) (fun _=>hk _ _ ⟨Lb,gwl,(fun z=>nomatch z)⟩)
  refine⟨_,SqL.of en.1,_,rfl,_,SqT.of en.2,_,oE u.x,aM rfl,fun tq Hc sc gc=>⟨tq,_,rfl,.inr (SqT.of gc),rfl,rfl,?_⟩⟩
  refine hk _ _ ⟨Lb.fw ((Fw.refl Lb.dk).same sc),sc _ _ gwl,fun z=>⟨by simpa using hq,?_⟩⟩
  rw[<- mO];exact z
 ·rintro Hc ⟨Lc,gwc,hc⟩
  obtain⟨hq,hf⟩:=hc rfl
  refine⟨.inl ⟨rfl,_,SqL.of Lc.rows.lst⟩,_,SqL.of (Lc.ent u hum).1,_,rfl,aM rfl,fun ta Hd sd gd=>?_⟩
  have Ld:=Lc.fw ((Fw.refl Lc.dk).same sd)
  have lr:=Ld.rows.len
  refine⟨ra,_,_,rfl,rfl,Ld.rows.lst,by rw[aR];exact kI (m:=1000) Zo Zd,?_⟩
  have Le:=Ld.row (r:=.asked u.n) (a:=ta) gd
  generalize aI Hd ra (.lst (as.map V.ref++[.ref ta]))=He at Le;refine⟨u.e,_,2,2,rfl,rfl,(Le.ent u hum).1,rfl,?_⟩
  exact nxt _ _ ⟨_,_,_,num,turn',_,_,_,_,_,_,rfl,Le.mark huj,P8.mark huj hq hf,by simp;omega,Zo,b3,by rw[List.length_set];omega⟩
 ·rintro Hc ⟨Lc,gwc,hc⟩
  refine tW (fun c H'=>BdH H d b ra bk ul H' rs as sh us/\H' wl=some (.lst ((iY u.x u.q).map V.str))/\(c=true->iY u.x u.q≠[])) (fun k hk=>?_) ?_ ?_
  ·refine⟨cP rfl,fun p hp=>⟨wl,p,_,rfl,rfl,SqL.of (aN gwc hp),SqL.of aA,?_⟩⟩
   refine hk _ _ ⟨Lc.fw ((Fw.refl Lc.dk).new hp),aN gwc hp,fun e z=>?_⟩
   rw[z]at e;cases e
  ·rintro Hd ⟨Ld,gwd,hw⟩
   have hwne:=hw rfl
   have hwp:0<(iY u.x u.q).length:=List.length_pos_iff.mpr hwne
   have hw9:(iY u.x u.q).length<=9:=by cases u.x <;> cases u.q <;> exact Nat.le_of_ble_eq_true rfl
   refine⟨_,SqL.of (Ld.ent u hum).1,_,rfl,_,.inl (SqL.of gwd),d,b,((iY u.x u.q).length:Int),by rw[aR],Ld.dk,Zo,Zo,fun r He r0 r1 De ke=>?_⟩
   obtain⟨jz,rfl⟩:=cV r0
   have Fe:=(Fw.refl Ld.dk).draw De ke
   have Le:=Ld.fw Fe
   have hjz:jz<(iY u.x u.q).length:=by omega
   have hzm:(iY u.x u.q)[jz]∈iY u.x u.q:=List.getElem_mem hjz
   refine⟨_,SqL.of (Fe.get gwd nwl.1 nwl.2),.str (iY u.x u.q)[jz],dX (by rw[fS,iJ hjz];rfl),d,b,u.t,u.x,(iY u.x u.q)[jz],rfl,Le.dk,(Le.ent u hum).2,g1,Iw hzm,fun cc y Hf hof hwy gcc ff=>?_⟩
   have Lf:=Le.fw ff
   rw[<- hwy]at hzm;dsimp only [aJ];refine⟨.inl ⟨rfl,_,SqL.of Lf.rows.lst⟩,_,SqL.of (Lf.ent u hum).1,_,rfl,aM rfl,fun ta Hg sg gg=>?_⟩
   have Lg:=Lf.fw ((Fw.refl Lf.dk).same sg)
   have lr:=Lg.rows.len
   have gcg:=sg _ _ gcc
   refine⟨ra,_,_,rfl,rfl,Lg.rows.lst,by rw[aR];exact kI (m:=1000) Zo Zd,?_⟩
   have Lh:=Lg.row (r:=.done u.n turn' y) (a:=ta) ⟨cc,gg,gcg⟩
   generalize aI Hg ra (.lst (as.map V.ref++[.ref ta]))=Hh at Lh;refine⟨.inl ⟨rfl,_,SqL.of Lh.und⟩,?_⟩
   dsimp only [jP,vJ,vr];show eQ (.ref ul) [.ref u.e] Hh _
   refine Lh.rem P8.nd huj ?_
   exact nxt _ _ ⟨_,_,_,num,turn',_,_,_,_,_,_,rfl,Lh.drop j,P8.done huj b4 hof (zW hzm),by simp;omega,Zo,b3,by have:=List.length_eraseIdx_le us j;omega⟩
  ·rintro Hd ⟨Ld,_,_⟩
   exact nxt _ _ ⟨rs,as,us,num,turn',_,_,_,_,_,_,rfl,Ld,P8,Zo,Zo,b3,Zo⟩
end
end KL
namespace KL
open PySem L2
section
variable {P:Program} {w:World} {K:W.Frag} {mg:Str->Option Value} {base:Heap}
def yA:Sp:=fun vs H Q _=>∃(d b ra lm:Addr) (M:List Addr) (rs:List RX) (as:List Addr) (many:Nat),vs=[.ref d,.ref ra,.ref lm,.int (many:Int)]/\Dk H d b/\RxsAt H ra rs as/\lA rs/\MenusAt H lm M/\d∉M/\b∉M/\ra∉M/\ra≠d/\ra≠b/\many<=30 ∧
 ∀(rs':List RX) (as':List Addr) (H':Hp),RxsAt H' ra rs' as'->RX.Whole rs'->(∀r∈rs',r.Ok)->rs'.length<=43->Dk H' d b->(∀c o,H c=some o->c≠d->c≠b->c≠ra->H' c=some o)->Q (.ref ra) H'
theorem Iz (T:Txt K mg) (cLdraw:aH P w K mg base 1 "_law_draw" ["_law_deck_here","_law_many"] bD) (cLdeed:aH P w K mg base 3 "_law_deed" ["_law_deck_here","_law_names","_law_houses"] iR)
  (cLspot:aH P w K mg base 2 "_law_spot" ["_law_deck_here","_law_menus_here"] iU) (cLwords:aH P w K mg base 1 "_law_words" ["_law_deed_here","_law_asked"] jY) (cLanswer:aH P w K mg base 3 "_law_answer" ["_law_deck_here","_law_deed_here","_law_word"] sF)
  (D:DefAt K mg "_law_body" bJ ["_law_deck_here","_law_rows","_law_menus_here","_law_many"]):aH P w K mg base 4 "_law_body" ["_law_deck_here","_law_rows","_law_menus_here","_law_many"] yA:=by
 refine D.go aW (fun vs H Q E h=>?_) (fun f cdv A outer s H vs Q E hr h=>?_)
 ·obtain⟨d,b,ra,lm,M,rs,as,many,rfl,_⟩:=h;rfl
 ·obtain⟨d,b,ra,lm,M,rs0,as0,many,rfl,dk,R0,hd0,hM,oD,oB,oR,nrd,nrb,hmany,q⟩:=h
  have hLdraw:Room 1 _:=hr.mono Zd
  have hu:=hr.units0
  have hu64:=hr.units
  have l0:=hd0.len
  have la0:=R0.len
  obtain⟨tc1,h1,p1⟩:=Ix (P:=P) (w:=w) (base:=base) T cLdraw cLdeed cLspot (fa:=f) (outer:=outer) (H0:=H) (E:=E) hr
  obtain⟨tc2,h2,p2⟩:=Iy (P:=P) (w:=w) (base:=base) T cLdraw cLwords cLanswer (fa:=f) (outer:=outer) (H0:=H) (E:=E) hr
  refine⟨_,(R.ad (R.fo (i:=4) aW.nd rfl (Or.inl rfl) rfl (js:=[none]) (N:=["_law_row"]) (CompScope.by (aB bJ) ["_law_deck_here","_law_rows","_law_menus_here","_law_many","_law_shut","_law_under","_law_number","_law_turn","_law_k","_law_way","_law_deed_here","_law_one","_law_words_here","_law_answer_here"] rfl rfl Zk) (aT rfl) (R.ax (K:=K) (R.v 1)) (fun C s₂ H₂ fp=>⟨(R.gn (i:=0) (show(["_law_row"]:List Str).Nodup by decide +kernel)),(R.be (R.ai R.eq (R.ix (R.ag (K:=K)) (R.v 0) R.aa) R.ae)),(R.ix (R.ag (K:=K)) (R.v 0) R.aa)⟩) rfl) (R.ad (R.ah (i:=5) aW.nd (R.au R.ac)) (R.ad (R.ah (i:=6) aW.nd (R.fn cLdraw hLdraw rfl (R.U (R.v 0) (R.U (R.ix (R.ao (K:=K)) (R.au (R.U R.aa (R.U R.aa R.ac))) (R.fn cLdraw hLdraw rfl (R.U (R.v 0) (R.U R.aa R.ac)))) R.ac)))) (R.ad (R.ah (i:=7) aW.nd (R.aw (R.di (K:=K) rfl) rfl T.b_max kQ (R.U (R.op R.bn (R.bb rfl (js:=[none]) (N:=["_law_row"]) (CompScope.by (aB bJ) ["_law_deck_here","_law_rows","_law_menus_here","_law_many","_law_shut","_law_under","_law_number","_law_turn","_law_k","_law_way","_law_deed_here","_law_one","_law_words_here","_law_answer_here"] rfl rfl Zk) (aT rfl) (R.ax (K:=K) (R.v 1)) (fun C s₂ H₂ fp=>⟨(R.gn (i:=0) (show(["_law_row"]:List Str).Nodup by decide +kernel)),(R.be (R.ai R.eq (R.ix (R.ag (K:=K)) (R.v 0) R.aa) R.ae)),(R.ix (R.ag (K:=K)) (R.v 0) R.aa)⟩)) (R.au (R.U R.aa R.ac))) R.ac))) (R.ad (R.bh PassesOwn.never rfl (R.de rfl T.b_range (R.U (R.v 3) R.ac)) (R.gn (i:=8) aW.nd) (R.ad (R.ah (i:=9) aW.nd (R.fn cLdraw hLdraw rfl (R.U (R.v 0) (R.U R.aa R.ac)))) (R.ad (R.ah (i:=7) aW.nd (R.op R.aq (R.v 7) (R.ix (R.ao (K:=K)) (R.au (R.U R.aa (R.U R.aa (R.U R.aa (R.U (R.fn cLdraw hLdraw rfl (R.U (R.v 0) (R.U (R.op R.bg R.aa R.aa) R.ac))) R.ac))))) (R.fn cLdraw hLdraw rfl (R.U (R.v 0) (R.U R.aa R.ac)))))) (R.af (R.ar (R.tw (R.cf (R.ai R.lt (R.v 9) R.aa) (R.df (R.ai (R.ic (K:=K) hu) (R.v 5) (R.au R.ac)))))
   h1
   h2))))) (R.af (R.am (R.v 1)))))))),?_⟩
  refine bF (fun σ' H'=>∃(bk:Addr) (sh:List Nat),σ'=[some (.ref d),some (.ref ra),some (.ref lm),some (.int (many:Int)),some (.ref bk),none,none,none,none,none,none,none,none,none]/\H bk=none/\H' bk=some (.lst (nI sh))/\sh.length<=13/\(∀n t p k x y,.kept n t p k x y∈rs0->n∈sh)/\Same H H') (fun nx hnx=>?_) ?_
  ·refine⟨ra,rfl,⟨_,SqL.of R0.lst⟩,?_⟩
   refine aZ (aS K ra (as0.map V.ref)) (by rw[aR];omega) (fun i ys H'=>H'=H/\∃ns:List Nat,ys=nI ns/\ns.length<=i/\∀n t p k x y,.kept n t p k x y∈rs0.take i->n∈ns) (fun i ys H' ⟨e0,ns,e,l',_⟩=>⟨by rw[e0];exact SqL.of R0.lst,by rw[e];unfold nI;rw[aR];exact l'⟩) ⟨rfl,[],rfl,bC _,(fun _ _ _ _ _ _ h=>nomatch h)⟩ (fun i x ys H' hx ⟨e0,ns,e,l',hk'⟩=>?_) (fun ys H' ⟨e0,ns,e,l',hk'⟩=>?_)
   ·subst e0;obtain⟨a,r,rfl,ha,hrr,hat⟩:=R0.get hx
    obtain⟨xs,g,x0,x1,x2⟩:=eT hat
    have etk:=aP hrr
    dsimp only [aJ];refine⟨_,SqT.of g,_,x0,?_⟩
    show if decide (cG r="kept")=true then _ else _
    refine bQ (fun h=>?_) (fun h=>?_)
    ·obtain⟨n,t,p,k,x,y,rfl⟩:=xW (of_decide_eq_true h)
     refine⟨_,SqT.of g,_,x1,rfl,ns++[n],by rw[e];unfold nI;rw[dW];rfl,by simp;omega,fun n' t' p' k' x' y' hm=>?_⟩
     rw[etk]at hm;rcases aF hm with hm | hm
     ·exact List.mem_append_left _ (hk' _ _ _ _ _ _ hm)
     ·cases hm;exact List.mem_append_right _ iW
    ·refine⟨rfl,ns,e,Zo,fun n' t' p' k' x' y' hm=>?_⟩
     rw[etk]at hm;rcases aF hm with hm | hm
     ·exact hk' _ _ _ _ _ _ hm
     ·subst hm;exact absurd rfl (of_decide_eq_false h)
   ·subst e0;intro p hp;rw[aR]at l' hk';rw[<- la0,jD (bC _)]at hk';exact hnx _ _ ⟨p,ns,rfl,hp,by rw[aA,e],Zo,hk',aG hp⟩
  rintro σ' H1 ⟨bk,sh,rfl,fbk,gbk,lsh,hkn,s1⟩
  have f1:=(Fw.refl dk).same s1
  refine⟨cP rfl,fun ul hul=>?_⟩
  have ful:=s1.free hul
  have nbu:bk≠ul:=aD gbk hul
  have f2:=f1.new (o:=.lst []) hul
  have gul:(aI H1 ul (.lst [])) ul=some (.lst []):=aA
  replace gbk:=aN (u:=.lst []) gbk hul
  dsimp only [aJ];generalize aI H1 ul (.lst [])=H2 at f2 gul gbk;refine bF (fun σ' H'=>∃(num:Nat),σ'=[some (.ref d),some (.ref ra),some (.ref lm),some (.int (many:Int)),some (.ref bk),some (.ref ul),some (.int (num:Int)),none,none,none,none,none,none,none]/\num<=900006/\Fw d b H2 H') (fun nx hnx=>?_) ?_
  ·refine⟨cP rfl,fun p hp=>⟨d,b,2,rfl,f2.dk.new hp,Zd,Zd,fun r H3 r0 r1 D3 k3=>?_⟩⟩
   have pd:=f2.dk.ne hp
   have F3:=((Fw.refl f2.dk).new (o:=.lst [.int 4,.int 900000]) hp).draw D3 k3
   have gp:=k3 p _ aA pd.1 pd.2
   rcases(by omega:r=0∨r=1) with rfl | rfl
   ·refine⟨_,SqL.of gp,_,rfl,d,b,4,rfl,F3.dk,Zd,Zd,fun r4 H4 x0 x1 D4 k4=>?_⟩
    obtain⟨n,rfl⟩:=cV x0
    exact hnx _ _ ⟨n,rfl,Zo,F3.draw D4 k4⟩
   ·refine⟨_,SqL.of gp,_,rfl,d,b,900000,rfl,F3.dk,Zd,Zd,fun r4 H4 x0 x1 D4 k4=>?_⟩
    obtain⟨n,rfl⟩:=cV x0
    exact hnx _ _ ⟨n,rfl,Zo,F3.draw D4 k4⟩
  rintro σ' H4 ⟨num,rfl,hnum,F4⟩
  have f4:=f2.trans F4
  have R4:=R0.keep f4.tk (f4.get R0.lst nrd nrb)
  refine bF (fun σ' H'=>∃(turn:Nat),σ'=[some (.ref d),some (.ref ra),some (.ref lm),some (.int (many:Int)),some (.ref bk),some (.ref ul),some (.int (num:Int)),some (.int (turn:Int)),none,none,none,none,none,none]/\turn<500000000000/\(∀n t,.next n t∈rs0->t<=turn)/\Fw d b H2 H') (fun nx hnx=>?_) ?_
  ·refine⟨ra,rfl,⟨_,SqL.of R4.lst⟩,?_⟩
   refine aZ (aS K ra (as0.map V.ref)) (by rw[aR];omega) (fun i ys H'=>H'=H4/\∃ns:List Nat,ys=ns.map (fun n:Nat=>V.int (n:Int))/\ns.length<=i/\(∀n∈ns,n<500000000000)/\∀n t,.next n t∈rs0.take i->t∈ns) (fun i ys H' ⟨e0,ns,e,l',_⟩=>⟨by rw[e0];exact SqL.of R4.lst,by rw[e,aR];exact l'⟩) ⟨rfl,[],rfl,bC _,(fun _ h=>nomatch h),(fun _ _ h=>nomatch h)⟩ (fun i x ys H' hx ⟨e0,ns,e,l',hb',hk'⟩=>?_) (fun ys H' ⟨e0,ns,e,l',hb',hk'⟩=>?_)
   ·subst e0;obtain⟨a,r,rfl,ha,hrr,hat⟩:=R4.get hx
    obtain⟨xs,g,x0,x1,x2⟩:=eT hat
    have etk:=aP hrr
    have hrm:r∈rs0:=fT hrr
    dsimp only [aJ];refine⟨_,SqT.of g,_,x0,?_⟩
    show if decide (cG r="next")=true then _ else _
    refine bQ (fun h=>?_) (fun h=>?_)
    ·obtain⟨n,t,rfl⟩:=sJ (of_decide_eq_true h)
     refine⟨_,SqT.of g,_,x2 (fun z=>nomatch z),rfl,ns++[t],by rw[e,dW];rfl,by simp;omega,fun m hm=>?_,fun n' t' hm=>?_⟩
     ·rcases aF hm with hm | rfl
      ·exact hb' m hm
      ·exact(hd0.nx _ _ hrm).2
     ·rw[etk]at hm;rcases aF hm with hm | hm
      ·exact List.mem_append_left _ (hk' _ _ hm)
      ·cases hm;exact List.mem_append_right _ iW
    ·refine⟨rfl,ns,e,Zo,hb',fun n' t' hm=>?_⟩
     rw[etk]at hm;rcases aF hm with hm | hm
     ·exact hk' _ _ hm
     ·subst hm;exact absurd rfl (of_decide_eq_false h)
   ·subst e0;intro p hp;rw[aR]at l' hk';rw[<- la0,jD (bC _)]at hk';refine⟨cP rfl,fun p2 hp2=>⟨_,_,aN aA hp2,aA,by rw[e,aR];exact fO (by simp;omega),fun p3 hp3=>?_⟩⟩
    refine⟨p3,(ns.map (fun n:Nat=>(n:Int)))++[0],rfl,SqL.of (by rw[aA,e,dW,List.map_map];rfl),Zs,fun mx hmx hall=>?_⟩
    have nn:∃m:Nat,mx=m/\m<500000000000:=by
     rcases Zma.mp hmx with h | h
     ·obtain⟨n,hn,rfl⟩:=Zmm.mp h;exact⟨n,rfl,hb' n hn⟩
     ·rw[Zms.mp h];exact⟨0,rfl,Zo⟩
    obtain⟨m,rfl,hm⟩:=nn
    refine hnx _ _ ⟨m,rfl,hm,fun n t hh=>?_,((F4.new hp).new hp2).new hp3⟩
    have:=hall (t:Int) (List.mem_append_left _ (List.mem_map_of_mem (hk' _ _ hh)))
    omega
  rintro σ' H5 ⟨turn,rfl,hturn,htn,F5⟩
  have f5:=f2.trans F5
  have R5:=R0.keep f5.tk (f5.get R0.lst nrd nrb)
  have nbd:=dk.ne fbk
  have nud:=dk.ne ful
  have L5:BdH H d b ra bk ul H5 rs0 as0 sh []:=⟨dk,⟨_,R0.lst⟩,fbk,ful,(fun _ h=>nomatch h),⟨nrd,nrb⟩,nbu,(fun _ h=>nomatch h),List.nodup_nil,f5.dk,R5,F5.get gbk nbd.1 nbd.2,F5.get gul nud.1 nud.2,(fun _ h=>nomatch h),fun c o e n1 n2 _=>f5.get e n1 n2⟩
  have P5:=BdP.start (num:=num) (turn:=turn) hd0 hkn htn
  have b0:turn<=tB 0:=by show turn<=500000000000+1000000000*0;rw[Nat.mul_zero];omega
  refine bF (fun σ' H'=>∃(rs:List RX) (as:List Addr) (us:List Un) (num turn:Nat) (o8 o9 o10 o11 o12 o13:Option V),σ'=[some (.ref d),some (.ref ra),some (.ref lm),some (.int (many:Int)),some (.ref bk),some (.ref ul),some (.int (num:Int)),some (.int (turn:Int)),o8,o9,o10,o11,o12,o13]/\BdH H d b ra bk ul H' rs as sh us/\BdP rs sh num turn us/\rs.length<=43) (fun nx hnx=>?_) ?_
  ·refine⟨(many:Int),rfl,Zo,Zo,?_⟩
   have em:(many:Int).toNat=many:=by omega
   refine cA (dC 0 (many:Int).toNat) (Ov H d b ra lm bk ul sh many) (fun _ _ _ _=>trivial)
    ⟨rs0,as0,[],num,turn,_,_,_,_,_,_,rfl,L5,P5,Zo,Zo,b0,bC _⟩ ?_ ?_
   ·rintro i x σ' H6 hx ⟨rs,as,us,num,turn,o8,o9,o10,o11,o12,o13,rfl,L6,P6,l1,l2,l3,l5⟩
    obtain⟨rfl,hi⟩:=kZ hx
    rw[em]at hi;dsimp only [aJ];refine⟨d,b,4,rfl,L6.dk,Zd,Zd,fun way H7 w0 w1 D7 k7=>?_⟩
    obtain⟨way,rfl⟩:=cV w0
    have L7:=L6.fw ((Fw.refl L6.dk).draw D7 k7)
    dsimp only [aJ];refine bF (fun σ' H'=>∃(turn':Nat),σ'=[some (.ref d),some (.ref ra),some (.ref lm),some (.int (many:Int)),some (.ref bk),some (.ref ul),some (.int (num:Int)),some (.int (turn':Int)),some (.int (i:Int)),some (.int (way:Int)),o10,o11,o12,o13]/\turn<=turn'/\turn'<=turn+1000000000/\BdH H d b ra bk ul H' rs as sh us) (fun nx' hnx'=>?_) ?_
    ·refine⟨⟨Zd,Zd,Zd⟩,d,b,1000000000,rfl,L7.dk,Zd,Zd,fun r8 H8 x0 x1 D8 k8=>⟨cP rfl,fun p hp=>⟨d,b,4,rfl,D8.new hp,Zd,Zd,fun r9 H9 y0 y1 D9 k9=>?_⟩⟩⟩
     obtain⟨r8,rfl⟩:=cV x0
     have hpd:=D8.ne hp
     have gp:=k9 p _ aA hpd.1 hpd.2
     have L9:=L7.fw ((((Fw.refl L7.dk).draw D8 k8).new hp).draw D9 k9)
     rcases Oi y0 y1 with rfl | rfl | rfl | rfl
     ·refine⟨_,SqL.of gp,_,rfl,hnx' _ _ ⟨turn,?_,Zo,Zo,L9⟩⟩
      rw[show(turn:Int)=(turn:Int)+0 by omega];rfl
     ·refine⟨_,SqL.of gp,_,rfl,hnx' _ _ ⟨turn,?_,Zo,Zo,L9⟩⟩
      rw[show(turn:Int)=(turn:Int)+0 by omega];rfl
     ·exact⟨_,SqL.of gp,_,rfl,hnx' _ _ ⟨turn+1,rfl,Zo,Zo,L9⟩⟩
     ·exact⟨_,SqL.of gp,_,rfl,hnx' _ _ ⟨turn+r8,rfl,Zo,Zo,L9⟩⟩
    ·rintro σ' H8 ⟨turn',rfl,t1,t2,L8⟩
     have P8:=P6.turn' t1
     refine tW (fun v H'=>BdH H d b ra bk ul H' rs as sh us/\(v=false->us≠[])) (fun k hk=>?_) ?_ ?_
     ·refine bQ (fun _=>hk _ _ ⟨L8,(fun z=>nomatch z)⟩) (fun _=>?_)
      refine⟨cP rfl,fun p hp=>⟨ul,p,_,rfl,rfl,SqL.of (aN L8.und hp),SqL.of aA,?_⟩⟩
      refine hk _ _ ⟨L8.fw ((Fw.refl L8.dk).new hp),fun e z=>?_⟩
      subst z;cases e
     ·rintro H9 ⟨L9,hv⟩
      exact p1 _ H H9 d b ra lm bk ul M sh many i way num turn turn' rs as us o10 o11 o12 o13 hM oD oB oR Zo lsh L9 P8 l1 l2 l3 l5 t1 t2 (fun _ _ h=>h)
     ·rintro H9 ⟨L9,hv⟩
      exact p2 _ H H9 d b ra lm bk ul M sh many i way num turn turn' rs as us o10 o11 o12 o13 hM oD oB oR Zo lsh L9 P8 l1 l2 l3 l5 t1 t2 (hv rfl) (fun _ _ h=>h)
   ·rintro σ' H6 ⟨rs,as,us,num,turn,o8,o9,o10,o11,o12,o13,rfl,L6,P6,l1,l2,l3,l5⟩
    rw[eG]at l1;exact hnx _ _ ⟨rs,as,us,num,turn,o8,o9,o10,o11,o12,o13,rfl,L6,P6,Zo⟩
  rintro σ' H6 ⟨rs,as,us,num,turn,o8,o9,o10,o11,o12,o13,rfl,L6,P6,l1⟩
  exact q rs as H6 L6.rows P6.wh P6.ok l1 L6.dk L6.fr
end
end KL
namespace KL
open PySem L2
section
variable {P:Program} {w:World} {K:W.Frag} {mg:Str->Option Value} {base:Heap}
theorem Ep {C:Addr} (T:Txt K mg) (B:Rx K C) (D:ClsAt K mg "Book" C "Book.__init__" bO ["self","rows"] [[],[.non]]):∀d∈([[],[.non]]:List (List V)),Tf P w K mg base 1 "Book" C ["self","rows"] d (xP C):=by
 refine D.go kY (fun vs H Q E h=>?_) (fun f cdv A outer s H vs Q E hr h=>?_)
 ·obtain⟨p,dx,r,prs,rfl,_⟩:=h;rfl
 ·obtain⟨p,dx,r,prs,rfl,hp,hR,nd,hz,q⟩:=h
  refine⟨_,(R.ad (R.ie (K:=K) (R.v 0) R.fm) (R.af (R.ar (R.ai R.fk (R.v 1) R.cn) (R.af (R.ie (K:=K) (R.v 0) (R.bo (R.dy (K:=K) rfl) rfl T.b_dict rN (R.U (R.v 1) R.ac)))) R.av))),?_⟩
  intro d1 hd1;have np:=aD hp hd1
  refine⟨C,dx,[],(by rw[aE np];exact hp),B.cl,B.nA,(by show 0<1000;decide),?_⟩
  have g1:(aI (aI H d1 (.dK [])) p (.ins C dx [("amounts",.ref d1)])) p=some (.ins C dx [("amounts",.ref d1)]):=aA
  have g2:(aI (aI H d1 (.dK [])) p (.ins C dx [("amounts",.ref d1)])) d1=some (.dK []):=by rw[aE np.symm];exact aA
  have k1:∀b o,H b=some o->b≠p->(aI (aI H d1 (.dK [])) p (.ins C dx [("amounts",.ref d1)])) b=some o:=fun b o e hb=>by rw[aE hb,aE (aD e hd1)];exact e
  dsimp only;rw[Uk];generalize aI (aI H d1 (.dK [])) p (.ins C dx [("amounts",.ref d1)])=H1 at g1 g2 k1;rcases hR with⟨rfl,rfl⟩ | ⟨l,zs,rfl,hl,hza,rfl⟩
  ·exact q H1 d1 hd1 g1 g2 k1
  ·have nl:l≠p:=fM hl hp (fun z=>nomatch z)
   have hza1:ZAt H1 zs:=fun z hz=>k1 _ _ (hza z hz) (fM (hza z hz) hp (fun z=>nomatch z))
   refine⟨wz zs,by rw[Nw];exact SqL.of (k1 _ _ hl nl),Ry hza1,by unfold wz;rw[aR];simpa using hz,fun d hd=>?_⟩
   have hd0:H d=none:=by
    cases e:H d with
    | none=>rfl
    | some o=>
     by_cases z:d=p
     ·rw[z,g1]at hd;cases hd
     ·rw[k1 d o e z]at hd;cases hd
   rw[Ny,qB nd];refine⟨C,dx,_,(by rw[aE (aD g1 hd)];exact g1),B.cl,B.nA,(by show 1<1000;decide),?_⟩
   refine q _ d hd0 (by rw[aA,Ul]) (by rw[aE (aD g1 hd).symm];exact aA) fun b o e hb=>?_
   rw[aE hb,aE (aD (k1 b o e hb) hd)];exact k1 b o e hb
theorem sN {C:Addr} (B:Rx K C) (D:MethAt K C "amount" "Book.amount" dH ["self","name"]):Ia P w K mg base 1 C "amount" ["self","name"] (nU C):=by
 refine D.go nZ (fun vs H Q E h=>?_) (fun f cdv A outer s H vs Q E hr h=>?_)
 ·obtain⟨p,n,prs,rfl,_⟩:=h;rfl
 ·obtain⟨p,n,prs,rfl,bk,q⟩:=h
  have hu1:=eY hr
  obtain⟨dx,d,h1,h2⟩:=bk.ex
  refine⟨_,(R.af (R.am (R.bv hu1 (R.du (K:=K) (R.v 0)) (R.v 1) R.aa))),?_⟩
  refine⟨C,dx,_,.ref d,h1,B.cl,B.nA,dN _,d,rfl,.inl ⟨_,.inl h2⟩,_,DGet.k (k:=Sum.inr n) h2,?_⟩
  rw[rR];exact q
theorem wM {C:Addr} (T:Txt K mg) (B:Rx K C) (D:MethAt K C "rows" "Book.rows" dO ["self"]):Ia P w K mg base 1 C "rows" ["self"] (tO C):=by
 refine D.go sE (fun vs H Q E h=>?_) (fun f cdv A outer s H vs Q E hr h=>?_)
 ·obtain⟨p,prs,rfl,_⟩:=h;rfl
 ·obtain⟨p,prs,rfl,bk,hz,q⟩:=h
  have hu1:=eY hr
  obtain⟨dx,d,h1,h2⟩:=bk.ex
  refine⟨_,(R.af (R.am (R.bb rfl (js:=[none,some 0]) (N:=["name","self"]) (CompScope.by (aB dO) ["self"] rfl rfl Zk) (aT rfl) (R.ax (K:=K) (R.aw (R.ee rfl) rfl T.b_sorted kP (R.U (R.du (K:=K) (R.v 0)) R.ac))) (fun C s₂ H₂ fp=>⟨(R.gn (i:=0) (show(["name","self"]:List Str).Nodup by decide +kernel)),(R.be (R.ai R.gt (R.bt hu1 (R.du (K:=K) (R.v 1)) (R.v 0)) R.aa)),(R.ia (R.U (R.v 0) (R.U (R.bt hu1 (R.du (K:=K) (R.v 1)) (R.v 0)) R.ac)))⟩)))),?_⟩
  refine⟨C,dx,_,.ref d,h1,B.cl,B.nA,dN _,prs.map (·.1),_,.inl h2,jT prs,by rw[aR];exact hz,fun l hl=>⟨l,rfl,⟨_,SqL.of aA⟩,?_⟩⟩
  have s1:Same H (aI H l (.lst ((gX (prs.map (·.1))).map V.str))):=aG hl
  have g1:(aI H l (.lst ((gX (prs.map (·.1))).map V.str))) l=some (.lst ((gX (prs.map (·.1))).map V.str)):=aA
  generalize aI H l (.lst ((gX (prs.map (·.1))).map V.str))=H1 at s1 g1;have hlen:(gX (prs.map (·.1))).length<64:=by rw[fX,aR];exact hz
  refine aZ (aS K l ((gX (prs.map (·.1))).map V.str)) (by rw[aR];omega) (fun i ys H'=>∃zs:List Z,ys=cN zs/\Same H1 H'/\ZAt H' zs/\zs.length<=i/\zs.map (·.2)=(((gX (prs.map (·.1))).take i).filter fun n=>decide (0<pA prs n)).map fun n=>(n,pA prs n))
   (fun i ys H' ⟨zs,e,s',_,hl',_⟩=>⟨SqL.of (s' _ _ g1),by rw[e];unfold cN;rw[aR];exact hl'⟩) ⟨[],rfl,Same.refl _,(fun _ h=>nomatch h),bC _,rfl⟩ (fun i x ys H' hx ⟨zs,e,s',hza,hzl,hzm⟩=>?_) (fun ys H' ⟨zs,e,s',hza,hzl,hzm⟩=>?_)
  ·rw[fS]at hx;cases hn:(gX (prs.map (·.1)))[i]? with
   | none=>rw[hn]at hx;cases hx
   | some n=>
    rw[hn]at hx;cases hx
    have hmem:n∈prs.map (·.1):=(fQ _).mem_iff.mp (fT hn)
    obtain⟨a,ha⟩:=fY hmem
    have ea:pA prs n=a:=by unfold pA;rw[ha];rfl
    have gd:∀H'',Same H1 H''->DGet H'' d (.str n) (some (.int a)):=fun H'' s''=>by
     have:=DGet.k (k:=Sum.inr n) (s''  _ _ (s1 _ _ h2))
     rw[jU,ha]at this;exact this
    have h1':=s' _ _ (s1 _ _ h1)
    refine⟨C,dx,_,.ref d,h1',B.cl,B.nA,dN _,d,_,rfl,gd H' s',?_⟩
    refine bQ (fun hb=>?_) (fun hb=>?_)
    ·have hb':0<a:=by simpa using hb
     refine⟨C,dx,_,.ref d,h1',B.cl,B.nA,dN _,d,_,rfl,gd H' s',cP rfl,fun t ht=>⟨zs++[(t,n,a)],by rw[e];unfold cN;rw[dW];rfl,s'.trans (aG ht),?_,by rw[pN];simpa using hzl,?_⟩⟩
     ·intro z hz';rcases Zma.mp hz' with m | m
      ·exact(hza.same (aG ht)) z m
      ·rw[Zms.mp m];exact aA
     ·rw[dW,hzm,aP hn,List.filter_append,dW];congr 1
      rw[List.filter_cons,if_pos (by rw[ea];exact decide_eq_true hb')]
      rw[<- ea];rfl
    ·have hb':¬ 0<a:=by simpa using hb
     refine⟨zs,e,s',hza,Zo,?_⟩
     rw[hzm,aP hn,List.filter_append,List.filter_cons,if_neg (by rw[ea];simpa using hb')]
     simp
  ·intro l2 hl2;subst e;refine q l2 zs _ (s1.trans (s'.trans (aG hl2))) ?_ aA (hza.same (aG hl2)) ?_
   ·exact s1.free (s'.free hl2)
   ·rw[hzm,aR,List.take_length];rfl
def oP (prs:List (Str × Int)) (n:Str) (v:Int):List (Str × Int):=if n∈prs.map (·.1) then Cz prs n v else prs++[(n,v)]
def gS:List (Str × Int)->List (Str × Int)->List (Str × Int)
 | prs,[]=>prs
 | prs,q::r=>gS (oP prs q.1 (pA prs q.1+q.2)) r
theorem lD:∀(cs prs:List (Str × Int)) (q:Str × Int),gS prs (cs++[q])=oP (gS prs cs) q.1 (pA (gS prs cs) q.1+q.2)
 | [],_,_=>rfl
 | p::r,prs,q=>lD r _ q
theorem uN {prs:List (Str × Int)} {n:Str} {v:Int}:cK (gY prs) (Sum.inr n) (.int v)=gY (oP prs n v):=by
 unfold oP;by_cases h:n∈prs.map (·.1)
 ·rw[if_pos h];exact Ib h
 ·rw[if_neg h];have hv:bN (gY prs) (Sum.inr n)=none:=by
   cases e:bN (gY prs) (Sum.inr n) with
   | none=>rfl
   | some x=>
    have:=Gp e
    rw[jT]at this;obtain⟨m,hm,e2⟩:=Zmm.mp this
    cases e2
    exact absurd hm h
  rw[tD _ hv];unfold gY;rw[dW];rfl
theorem lE {prs:List (Str × Int)} {n:Str} {v:Int}:(oP prs n v).map (·.1)=if n∈prs.map (·.1) then prs.map (·.1) else prs.map (·.1)++[n]:=by
 unfold oP;by_cases h:n∈prs.map (·.1)
 ·rw[if_pos h,if_pos h];exact zL _ _ _
 ·rw[if_neg h,if_neg h,dW];rfl
theorem Ja {prs:List (Str × Int)} {n:Str} {v:Int} (h:(prs.map (·.1)).Nodup):((oP prs n v).map (·.1)).Nodup:=by
 rw[lE];split
 ·exact h
 ·rename_i hn;exact xF h hn
theorem Jb {prs:List (Str × Int)} {n:Str} {v:Int} {zn:List Str} (h:∀m∈prs.map (·.1),m∈zn) (hn:n∈zn):∀m∈(oP prs n v).map (·.1),m∈zn:=by
 rw[lE];split
 ·exact h
 ·intro m hm;rcases Zma.mp hm with hm | hm
  ·exact h m hm
  ·cases Zms.mp hm;exact hn
theorem mU:∀(cs prs:List (Str × Int)),(prs.map (·.1)).Nodup->((gS prs cs).map (·.1)).Nodup
 | [],_,h=>h
 | _::r,_,h=>mU r _ (Ja h)
theorem yB {zn:List Str}:∀(cs prs:List (Str × Int)),(∀m∈prs.map (·.1),m∈zn)->(∀q∈cs,q.1∈zn)->∀m∈(gS prs cs).map (·.1),m∈zn
 | [],_,h,_=>h
 | q::r,_,h,hc=>yB r _ (Jb h (hc q iW)) fun p hp=>hc p (mF _ hp)
theorem Sr {xs:List Str}:∀ {ys:List Str},xs.Nodup->(∀x∈xs,x∈ys)->xs.length<=ys.length:=by
 induction xs with
 | nil=>exact fun _ _=>Nat.zero_le _
 | cons x r ih=>
  intro ys hn h;obtain⟨h1,h2⟩:=List.nodup_cons.mp hn
  have hx:=h x iW
  have:=ih (ys:=ys.erase x) h2 fun y hy=>(List.mem_erase_of_ne (fun e=>h1 (by rw[<- e];exact hy))).mpr (h y (mF _ hy))
  rw[List.length_erase_of_mem hx]at this;have hp:0<ys.length:=List.length_pos_of_mem hx
  rw[sQ];omega
def jC (prs:List (Str × Int)) (q:Str × Int):Prop:=0<=pA prs q.1+q.2/\pA prs q.1+q.2<=1000000000000
instance (prs:List (Str × Int)) (q:Str × Int):Decidable (jC prs q):=inferInstanceAs (Decidable (_/\_))
theorem sO {H:Hp} {zs:List Z} {i:Nat} {x:V} (hz:ZAt H zs) (hx:(cN zs)[i]?=some x):∃z,zs[i]?=some z/\x=.ref z.1/\H z.1=some (.tup [.str z.2.1,.int z.2.2]):=by
 unfold cN at hx;rw[fS]at hx;obtain⟨z,hn,rfl⟩:=Option.map_eq_some_iff.mp hx
 exact⟨z,hn,rfl,hz z (fT hn)⟩
theorem kC:∀(cs prs:List (Str × Int)),(gS prs cs).length<=prs.length+cs.length
 | [],prs=>bC _
 | q::r,prs=>by
  have h:=kC r (oP prs q.1 (pA prs q.1+q.2))
  have h2:(oP prs q.1 (pA prs q.1+q.2)).length<=prs.length+1:=by
   have:=congrArg List.length (lE (prs:=prs) (n:=q.1) (v:=pA prs q.1+q.2))
   rw[aR]at this;rw[this];split <;> simp
  show(gS (oP prs q.1 (pA prs q.1+q.2)) r).length<=_
  rw[sQ];omega
def kG (prs cs:List (Str × Int)):Option Str:=(cs.find? fun q=>!decide (jC prs q)).map (·.1)
theorem qN {prs cs:List (Str × Int)} (h:∀q∈cs,jC prs q):kG prs cs=none:=by
 unfold kG;rw[List.find?_eq_none.mpr fun q hq=>by simp [h q hq]]
 rfl
theorem qO {prs cs:List (Str × Int)} {i:Nat} {q:Str × Int} (h:∀p∈cs.take i,jC prs p) (hi:cs[i]?=some q) (hq:¬ jC prs q):kG prs cs=some q.1:=by
 have e:cs=cs.take i++q::cs.drop (i+1):=by
  have:=(Zgs.mp hi)
  obtain⟨hl,e⟩:=this
  rw[<- e,<- List.drop_eq_getElem_cons hl,List.take_append_drop]
 unfold kG;rw[e,List.find?_append,List.find?_eq_none.mpr fun p hp=>by simp [h p hp]]
 simp [hq]
theorem Er {CN fI:Addr} (XA:Sf K CN "name") (D:InitAt K fI "NoChange.__init__" aV ["self","name"]):qF P w K mg base 1 CN fI "name":=by
 refine D.go iE rfl (fun cdv A outer s H vs Q E hr h=>?_)
 obtain⟨e,t,v,rfl,he,q⟩:=h
 exact⟨_,(R.af (R.gi (K:=K) (R.v 0) (R.v 1))),CN,t,he,XA,q⟩
def qP (C CN:Addr):Sp:=fun vs H Q E=>∃(p dx d t:Addr) (prs:List (Str × Int)) (zs:List Z) (zn:List Str),vs=[.ref p,.ref t]/\H p=some (.ins C dx [("amounts",.ref d)])/\H d=some (.dK (gY prs))/\(prs.map (·.1)).Nodup/\(H t=some (.lst (cN zs))∨H t=some (.tup (cN zs)))/\ZAt H zs ∧
 (∀m∈prs.map (·.1),m∈zn)/\(∀q∈zs.map (·.2),q.1∈zn)/\zn.length<=60 ∧
 (kG prs (zs.map (·.2))=none->∀H',H' d=some (.dK (gY (gS prs (zs.map (·.2)))))->(∀b o,H b=some o->b≠d->H' b=some o)->Q .non H') ∧
 (∀n,kG prs (zs.map (·.2))=some n->∀dx' H',Same H H'->H' dx'=some (.xd [("name",.str n)])->E (.ref CN) (some dx') H')
theorem wN {C CN fI:Addr} (T:Txt K mg) (B:Rx K C) (X_NoChange:XClsI K mg "NoChange" CN fI) (i_NoChange:qF P w K mg base 1 CN fI "name") (c_Book_amount:Ia P w K mg base 1 C "amount" ["self","name"] (nU C)) (D:MethAt K C "change" "Book.change" dI ["self","changes"]):Dh P w K mg base 3 C "change" ["self","changes"] (qP C CN):=by
 refine D.goX cE (fun vs H Q E h=>?_) (fun f cdv A outer s H vs Q E hr h=>?_)
 ·obtain⟨p,dx,d,t,prs,zs,zn,rfl,_⟩:=h;rfl
 ·obtain⟨p,dx,d,t,prs,zs,zn,rfl,hp,hd,nd,ht,hz,hin,hcz,h60,Q0,E0⟩:=h
  have hr_Book_amount:Room 1 _:=hr.mono Zd
  have hr_NoChange:Room 2 _:=hr
  have hu1:=eY hr
  refine⟨_,(R.ad (R.bh kX rfl (R.eh (K:=K) (R.v 1)) (R.dq (K:=K) (n:=2) rfl (R.bz (R.gn (i:=2) cE.nd) (R.bz (R.gn (i:=3) cE.nd) R.dt))) (R.af (R.ar (R.cq (R.ig R.le R.le R.aa (R.op R.aq (R.ii c_Book_amount hr_Book_amount (R.v 0) (R.U (R.v 2) R.ac)) (R.v 3)) (R.gI rfl T.g_MOST))) (R.af (R.gk X_NoChange i_NoChange hr_NoChange tT rfl rfl (R.U (R.v 2) R.ac))) R.av))) (R.af (R.bh kX rfl (R.eh (K:=K) (R.v 1)) (R.dq (K:=K) (n:=2) rfl (R.bz (R.gn (i:=2) cE.nd) (R.bz (R.gn (i:=3) cE.nd) R.dt))) (R.af (R.bq (R.op R.aq (R.ii c_Book_amount hr_Book_amount (R.v 0) (R.U (R.v 2) R.ac)) (R.v 3)) (R.br (R.du (K:=K) (R.v 0)) (R.v 2) (R.cv hu1))))))),?_⟩
  refine⟨t,rfl,Dq ht fun J W sq hW=>?_⟩
  refine cA sq (fun i σ H'=>H'=H/\(∀q∈(zs.map (·.2)).take i,jC prs q)/\∃o2 o3,σ=[some (.ref p),some (.ref t),o2,o3]) (fun i σ H' ⟨e,_⟩=>hW _ (by rw[e])) ⟨rfl,(fun q h=>by simp at h),_,_,rfl⟩ ?_ ?_
  ·rintro i x σ H' hx ⟨rfl,hg,o2,o3,rfl⟩
   obtain⟨z,hn,rfl,gz⟩:=sO hz hx
   have hni:(zs.map (·.2))[i]?=some z.2:=by rw[fS,hn];rfl
   refine⟨z.1,_,rfl,SqT.of gz,rfl,_,_,rfl,_,_,rfl,rfl,dx,_,hp,rS _ Zk,p,z.2.1,prs,rfl,⟨⟨dx,d,hp,hd⟩,nd⟩,?_⟩
   have bad:¬ jC prs z.2->∀dx':Addr,H' dx'=none->E (.ref CN) (some dx') (aI H' dx' (.xd [("name",.str z.2.1)])):=fun hb dx' hdx=>E0 _ (qO hg hni hb) dx' _ (aG hdx) aA
   refine bQ (fun h0=>?_) (fun h=>?_)
   ·refine bQ (fun h=>?_) (fun h=>⟨rfl,fun q hq=>?_,_,_,rfl⟩)
    ·exact⟨_,rfl,bad fun hg'=>absurd hg'.2 (by simpa using h)⟩
    ·rw[aP hni]at hq;rcases Zma.mp hq with hq | hq
     ·exact hg q hq
     ·cases Zms.mp hq
      exact⟨of_decide_eq_true h0,by simpa using h⟩
   ·exact⟨_,rfl,bad fun hg'=>absurd hg'.1 (of_decide_eq_false h)⟩
  ·rintro σ H' ⟨rfl,hg,o2,o3,rfl⟩
   have hlz:(cN zs).length=zs.length:=by unfold cN;rw[aR]
   rw[hlz,jD (by rw[aR];exact bC _)]at hg
   refine⟨t,rfl,Dq ht fun J2 W2 sq2 hW2=>?_⟩
   have ntd:t≠d:=by
    rcases ht with ht | ht
    ·exact fM ht hd (fun z=>nomatch z)
    ·exact fM ht hd (fun z=>nomatch z)
   have kt:∀ {H'':Hp},(∀b o,H' b=some o->b≠d->H'' b=some o)->H'' t=H' t:=fun {H''} k=>by
    rcases ht with ht | ht
    ·rw[ht];exact k _ _ ht ntd
    ·rw[ht];exact k _ _ ht ntd
   refine cA sq2 (fun i σ H''=>H'' d=some (.dK (gY (gS prs ((zs.map (·.2)).take i))))/\(∀b o,H' b=some o->b≠d->H'' b=some o)/\∃o2 o3,σ=[some (.ref p),some (.ref t),o2,o3]) (fun i σ H'' ⟨_,k,_⟩=>hW2 _ (kt k)) ⟨hd,fun b o e _=>e,_,_,rfl⟩ ?_ ?_
   ·rintro i x σ H'' hx ⟨g,k,o2,o3,rfl⟩
    obtain⟨z,hn,rfl,gz⟩:=sO (fun z m=>k _ _ (hz z m) (fM (hz z m) hd (fun z=>nomatch z))) hx
    have hni:(zs.map (·.2))[i]?=some z.2:=by rw[fS,hn];rfl
    have hp':=k _ _ hp (fM hp hd (fun z=>nomatch z))
    have nd':=mU ((zs.map (·.2)).take i) prs nd
    have hin':=yB ((zs.map (·.2)).take i) prs hin (fun q hq=>hcz q (List.mem_of_mem_take hq))
    have hle:=Sr nd' hin'
    rw[aR]at hle;refine⟨z.1,_,rfl,SqT.of gz,rfl,_,_,rfl,_,_,rfl,rfl,dx,_,hp',rS _ Zk,p,z.2.1,gS prs ((zs.map (·.2)).take i),rfl,⟨⟨dx,d,hp',g⟩,nd'⟩,?_⟩
    refine⟨C,dx,_,.ref d,hp',B.cl,B.nA,dN _,d,_,rfl,DPut.k (k:=Sum.inr z.2.1) g ?_,?_,fun b o e hb=>?_,_,_,rfl⟩
    ·unfold gY;rw[aR];exact kI (show _<=60 by omega) Zd
    ·rw[aA,uN,aP hni,lD]
    ·rw[aE hb];exact k b o e hb
   ·rintro σ H'' ⟨g,k,o2,o3,rfl⟩
    refine Q0 (qN hg) _ ?_ k
    rw[g,hlz,jD (by rw[aR];exact bC _)]
end
end KL
namespace KL
open PySem L2
section
variable {P:Program} {w:World} {K:W.Frag} {mg:Str->Option Value} {base:Heap}
def eW (rs:List RX):List (Str × Int):=rs.filterMap fun r=>match r with | .has z m=>some (z,(m:Int)) | _=>none
theorem lF:∀rs:List RX,fH rs=gY (eW rs)
 | []=>rfl
 | r::rs=>by
  have ih:=lF rs
  unfold fH eW gY at ih ⊢
  cases r <;> simp only [List.filterMap_cons,List.map_cons] <;> first | exact ih | rw[ih]
theorem uO (rs:List RX):(eW rs).length=(fH rs).length:=by rw[lF];unfold gY;rw[aR]
theorem Es {rs:List RX} {z:Str} {m:Int} (h:(z,m)∈eW rs):∃m',.has z m'∈rs:=by
 obtain⟨r,hr,e⟩:=List.mem_filterMap.mp h
 cases r <;> cases e
 exact⟨_,hr⟩
theorem mV {rs:List RX} (h:RX.Whole rs):((eW rs).map (·.1)).Nodup:=by
 induction h with
 | nil=>exact List.nodup_nil
 | @snoc rs r hw hf ih=>
  have e:eW (rs++[r])=eW rs++eW [r]:=by unfold eW;rw[List.filterMap_append]
  rw[e,dW];cases r with
  | has z m=>
   refine List.nodup_append.mpr ⟨ih,by simp [eW],fun a ha b hb=>?_⟩
   have hb':b=z:=by simpa [eW]using hb
   subst hb';rintro rfl
   obtain⟨q,hq,rfl⟩:=Zmm.mp ha
   obtain⟨m',hm⟩:=Es (z:=q.1) (m:=q.2) hq
   exact absurd (hf.2.2 _ _ hm) (List.lt_irrefl _)
  | _=>simpa [eW]using ih
def yC (C:Addr):Sp:=fun vs H Q _=>∃(ra:Addr) (rs:List RX) (as:List Addr),vs=[.ref ra]/\RxsAt H ra rs as/\rs.length<=100/\RX.Whole rs ∧
 ∀(p dx d:Addr) (H':Hp),H p=none->H d=none->H' p=some (.ins C dx [("amounts",.ref d)])->H' d=some (.dK (gY (eW rs)))->Same H H'->Q (.ref p) H'
theorem pK {C:Addr} (T:Txt K mg) (c_Book:Tf P w K mg base 1 "Book" C ["self","rows"] [] (xP C)) (D:DefAt K mg "first_book" cZ ["rows"]):aH P w K mg base 3 "first_book" ["rows"] (yC C):=by
 refine D.go pH (fun vs H Q E h=>?_) (fun f cdv A outer s H vs Q E hr h=>?_)
 ·obtain⟨ra,rs,as,rfl,_⟩:=h;rfl
 ·obtain⟨ra,rs,as,rfl,RR,hl,hw,q⟩:=h
  have hr_Book:Room 2 _:=hr.mono Zd
  have le:=RR.len
  refine⟨_,(R.af (R.am (R.iy c_Book hr_Book rfl (R.U (R.bb rfl (js:=[none]) (N:=["row"]) (CompScope.by (aB cZ) ["rows"] rfl rfl Zk) (aT rfl) (R.ax (K:=K) (R.v 0)) (fun C s₂ H₂ fp=>⟨(R.gn (i:=0) (show(["row"]:List Str).Nodup by decide +kernel)),(R.be (R.ai R.eq (R.ix (R.ag (K:=K)) (R.v 0) R.aa) R.ae)),(R.sl R.sT (R.v 0) (R.ps R.aa) R.pn)⟩)) R.ac)))),?_⟩
  refine⟨ra,rfl,⟨_,SqL.of RR.lst⟩,?_⟩
  refine aZ (aS K ra (as.map V.ref)) (by rw[aR];omega) (fun i ys H'=>∃zs:List Z,ys=cN zs/\ZAt H' zs/\zs.map (·.2)=eW (rs.take i)/\Same H H'/\zs.length<=i) (fun i ys H' ⟨zs,e,_,_,s',l'⟩=>⟨SqL.of (s' _ _ RR.lst),by rw[e];unfold cN;rw[aR];exact l'⟩) ⟨[],rfl,(fun _ h=>nomatch h),rfl,(fun _ _ e=>e),bC _⟩ (fun i x ys H' hx ⟨zs,e,hz,ez,s',l'⟩=>?_) (fun ys H' ⟨zs,e,hz,ez,s',l'⟩=>?_)
  ·obtain⟨a,r,rfl,ha,hrr,hat⟩:=(RR.same s').get hx
   obtain⟨xs,g,x0,x1,x2⟩:=eT hat
   have etk:=aP hrr
   have esn:eW (rs.take i++[r])=eW (rs.take i)++eW [r]:=by unfold eW;rw[List.filterMap_append]
   dsimp only [aJ];refine⟨_,SqT.of g,_,x0,?_⟩
   show if decide (cG r="has")=true then _ else _
   refine bQ (fun h=>?_) (fun h=>?_)
   ·obtain⟨z,m,rfl⟩:=wJ (of_decide_eq_true h)
    refine⟨_,hat,fun tp H2 s2 g2=>⟨zs++[(tp,z,(m:Int))],by rw[e];unfold cN;rw[dW];rfl,fun y hy=>?_,?_,s'.trans s2,by simp;omega⟩⟩
    ·rcases aF hy with hy | rfl
     ·exact s2 _ _ (hz y hy)
     ·exact g2
    ·rw[dW,ez,etk,esn];rfl
   ·refine⟨zs,e,hz,?_,s',Zo⟩
    rw[ez,etk,esn];have:eW [r]=[]:=by
     cases r with
     | has z m=>exact absurd rfl (of_decide_eq_false h)
     | _=>rfl
    rw[this,List.append_nil]
  ·intro l hll;rw[aR]at l' ez;rw[<- le,jD (bC _)]at ez;have s1:Same H (aI H' l (.lst ys)):=s'.trans (aG hll)
   have gl:(aI H' l (.lst ys)) l=some (.lst (cN zs)):=by rw[aA,e]
   have hz1:ZAt (aI H' l (.lst ys)) zs:=fun z hzz=>aN (hz z hzz) hll
   generalize aI H' l (.lst ys)=H1 at s1 gl hz1;intro x dx hx hdx hne;have sB:Same H1 (aI (aI H1 dx (.own x)) x (.ins C dx [])):=fun c o e=>by
    rw[aE (aD e hx),aE (aD e hdx)];exact e
   refine⟨x,dx,.ref l,zs.map (·.2),rfl,aA,.inr ⟨l,zs,rfl,sB _ _ gl,fun z hzz=>sB _ _ (hz1 z hzz),rfl⟩,by rw[ez];exact mV hw,by rw[aR];omega,fun H2 d hd h1 h2 k=>⟨rfl,?_⟩⟩
   rw[ez]at h2;refine q x dx d H2 (s1.free hx) (s1.free (sB.free hd)) h1 h2 (fun c o e=>k _ _ (sB _ _ (s1 _ _ e)) (aD (s1 _ _ e) hx))
theorem sP {H:Hp} {ra:Addr} {rs:List RX} {as:List Addr} (hw:RX.Whole rs) (RR:RxsAt H ra rs as) {n t:Nat} {p k:Str} {x:Dd} (hm:.came n t p k x∈rs):∃(a b:Addr) (t':Nat),bN (aL [] (bH "came" rs as rs.length)) (Sum.inl (n:Int))=some (.ref a)/\H a=some (.tup [.str "came",.int (n:Int),.int (t':Int),.str p,.str k,.ref b])/\H b=some (.tup x.vs):=by
 obtain⟨j,r',a',hv,hj1,hj2,hj3,hj4⟩:=uK RR.len hm (wd:="came") rfl
 obtain⟨n',t',p',k',x',rfl⟩:=mQ hj3
 have en:n=n':=by
  have:(Sum.inl (n:Int):bB)=Sum.inl (n':Int):=hj4
  injection this with this
  omega
 subst en;have ecm:=lB hw hm (fT hj1)
 injection ecm with _ _ e1 e2 e3
 subst e1;subst e2;subst e3
 obtain⟨aj,rj,e0,hj2',hj1',hatj⟩:=RR.get (i:=j) (v:=.ref a') (by rw[fS,hj2];rfl)
 injection e0 with e0
 subst e0;rw[hj1]at hj1';injection hj1' with e0
 subst e0;obtain⟨bx,gj,gj2⟩:=hatj
 exact⟨a',bx,t',hv,gj,gj2⟩
theorem gT (rs:List RX) (r:RX):eV (rs++[r])=eV rs++eV [r]:=by unfold eV;rw[List.filterMap_append]
end
end KL
namespace KL
open PySem L2
section
variable {P:Program} {w:World} {K:W.Frag} {mg:Str->Option Value} {base:Heap}
abbrev E6:=Nat × Nat × Str × Str × Dd × An
abbrev O4:=Nat × Str × Str × Dd
def At6 (H:Hp) (e:E6) (a:Addr):Prop:=∃b c,H a=some (.tup [.int (e.1:Int),.int (e.2.1:Int),.str e.2.2.1,.str e.2.2.2.1,.ref b,.ref c])/\H b=some (.tup e.2.2.2.2.1.vs)/\H c=some (.tup e.2.2.2.2.2.vs)
def AtO (H:Hp) (e:O4) (a:Addr):Prop:=∃b,H a=some (.tup [.int (e.1:Int),.str e.2.1,.str e.2.2.1,.ref b])/\H b=some (.tup e.2.2.2.vs)
theorem At6.tk {H H':Hp} (s:TK H H') {e:E6} {a:Addr} (h:At6 H e a):At6 H' e a:=let ⟨b,c,h1,h2,h3⟩:=h;⟨b,c,s _ _ h1,s _ _ h2,s _ _ h3⟩
theorem AtO.tk {H H':Hp} (s:TK H H') {e:O4} {a:Addr} (h:AtO H e a):AtO H' e a:=let ⟨b,h1,h2⟩:=h;⟨b,s _ _ h1,s _ _ h2⟩
def gU (rs:List RX) (n:Nat):Option (Str × Str × Dd):=rs.findSome? fun r=>match r with | .came m _ p k x=>if m=n then some (p,k,x) else none | _=>none
theorem lG {rs:List RX} (hw:RX.Whole rs) {n t:Nat} {p k:Str} {x:Dd} (hm:.came n t p k x∈rs):gU rs n=some (p,k,x):=by
 cases h:gU rs n with
 | none=>
  unfold gU at h;have:=List.findSome?_eq_none_iff.mp h _ hm
  simp at this
 | some v=>
  unfold gU at h;obtain⟨r,hr,e⟩:=List.exists_of_findSome?_eq_some h
  cases r with
  | came m t' p' k' x'=>
   dsimp only at e
   by_cases hmn:m=n
   ·rw[if_pos hmn]at e;subst hmn;have:=lB hw hm hr
    injection this with _ _ e1 e2 e3
    rw[<- e,e1,e2,e3]
   ·rw[if_neg hmn]at e;cases e
  | _=>cases e
def qQ:RX->List E6 | .kept n t p k x y=>[(n,t,p,k,x,y)] | _=>[]
def yD (rs:List RX):RX->List E6
 | .done n t y=>match gU rs n with | some (p,k,x)=>[(n,t,p,k,x,y)] | none=>[]
 | _=>[]
def Kj (rs:List RX):List E6:=rs.flatMap qQ++rs.flatMap (yD rs)
theorem eK {α β:Type} (f:α->List β) (xs:List α) (x:α):(xs++[x]).flatMap f=xs.flatMap f++f x:=by rw[List.flatMap_append];simp
theorem Et {r:RX} (h:cG r≠"kept"):qQ r=[]:=by cases r <;> first | rfl | exact absurd rfl h
theorem Eu {rs:List RX} {r:RX} (h:cG r≠"done"):yD rs r=[]:=by cases r <;> first | rfl | exact absurd rfl h
theorem Ev {rs:List RX} (hw:RX.Whole rs) {n t t0:Nat} {p k:Str} {x:Dd} {y:An} (hm:.came n t0 p k x∈rs):yD rs (.done n t y)=[(n,t,p,k,x,y)]:=by
 show(match gU rs n with | some (p,k,x)=>[(n,t,p,k,x,y)] | none=>[])=_
 rw[lG hw hm]
theorem Paired.append' {α β:Type} {R:α->β->Prop} {xs xs':List α} {ys ys':List β} (h:Paired R xs ys) (h':Paired R xs' ys'):Paired R (xs++xs') (ys++ys'):=by
 induction h with
 | nil=>exact h'
 | cons a t ih=>exact .cons a ih
theorem Ew (rs:List RX) (f:RX->List E6) (h:∀r,(f r).length<=1):(rs.flatMap f).length<=rs.length:=by
 induction rs with
 | nil=>exact bC _
 | cons r rs ih=>have:=h r;rw[List.flatMap_cons,pN,sQ];omega
theorem Ey (r:RX):(qQ r).length<=1:=by cases r <;> exact Nat.le_of_ble_eq_true rfl
def yE:Sp:=fun vs H Q _=>∃(ra cd:Addr) (rs:List RX) (as:List Addr),vs=[.ref ra,.ref cd]/\RxsAt H ra rs as/\rs.length<=43/\RX.Whole rs/\H cd=some (.dK (aL [] (bH "came" rs as rs.length))) ∧
 ∀(l:Addr) (ls:List Addr) (H':Hp),H l=none->H' l=some (.lst (ls.map V.ref))->Paired (At6 H') (Kj rs) ls->Same H H'->Q (.ref l) H'
theorem pL (T:Txt K mg) (D:DefAt K mg "risen_kept" cH ["rows","came"]):aH P w K mg base 1 "risen_kept" ["rows","came"] yE:=by
 refine D.go jB (fun vs H Q E h=>?_) (fun f cdv A outer s H vs Q E hr h=>?_)
 ·obtain⟨ra,cd,rs,as,rfl,_⟩:=h;rfl
 ·obtain⟨ra,cd,rs,as,rfl,RR,hl,hw,gcd,q⟩:=h
  have hu1:=eY hr
  have le:=RR.len
  refine⟨_,(R.ad (R.fo (i:=2) jB.nd rfl (Or.inl rfl) rfl (js:=[none]) (N:=["row"]) (CompScope.by (aB cH) ["rows","came","kept"] rfl rfl Zk) (aT rfl) (R.ax (K:=K) (R.v 0)) (fun C s₂ H₂ fp=>⟨(R.gn (i:=0) (show(["row"]:List Str).Nodup by decide +kernel)),(R.be (R.ai R.eq (R.ix (R.ag (K:=K)) (R.v 0) R.aa) R.ae)),(R.sl R.sT (R.v 0) (R.ps R.aa) R.pn)⟩) rfl) (R.af (R.am (R.op R.bn (R.v 2) (R.bb rfl (js:=[none,some 1]) (N:=["row","came"]) (CompScope.by (aB cH) ["rows","came","kept"] rfl rfl Zk) (aT rfl) (R.ax (K:=K) (R.v 0)) (fun C s₂ H₂ fp=>⟨(R.gn (i:=0) (show(["row","came"]:List Str).Nodup by decide +kernel)),(R.be (R.ai R.eq (R.ix (R.ag (K:=K)) (R.v 0) R.aa) R.ae)),(R.op R.bu (R.op R.bu (R.sl R.sT (R.v 0) (R.ps R.aa) (R.ps R.aa)) (R.sl R.sT (R.bt hu1 (R.v 1) (R.ix (R.ag (K:=K)) (R.v 0) R.aa)) (R.ps R.aa) R.pn)) (R.sl R.sT (R.v 0) (R.ps R.aa) R.pn))⟩)))))),?_⟩
  refine bF (fun σ' H'=>∃(kl:Addr) (ls:List Addr),σ'=[some (.ref ra),some (.ref cd),some (.ref kl)]/\H' kl=some (.lst (ls.map V.ref))/\Paired (At6 H') (rs.flatMap qQ) ls/\Same H H') (fun nx hnx=>?_) ?_
  ·refine⟨ra,rfl,⟨_,SqL.of RR.lst⟩,?_⟩
   refine aZ (aS K ra (as.map V.ref)) (by rw[aR];omega) (fun i ys H'=>∃ls:List Addr,ys=ls.map V.ref/\Paired (At6 H') ((rs.take i).flatMap qQ) ls/\Same H H'/\ls.length<=i) (fun i ys H' ⟨ls,e,_,s',l'⟩=>⟨SqL.of (s' _ _ RR.lst),by rw[e,aR];exact l'⟩) ⟨[],rfl,.nil,(fun _ _ e=>e),bC _⟩ (fun i x ys H' hx ⟨ls,e,pp,s',l'⟩=>?_) (fun ys H' ⟨ls,e,pp,s',l'⟩=>?_)
   ·obtain⟨a,r,rfl,ha,hrr,hat⟩:=(RR.same s').get hx
    obtain⟨xs,g,x0,x1,x2⟩:=eT hat
    have etk:=aP hrr
    dsimp only [aJ];refine⟨_,SqT.of g,_,x0,?_⟩
    show if decide (cG r="kept")=true then _ else _
    refine bQ (fun h=>?_) (fun h=>?_)
    ·obtain⟨n,t,p,k,x,y,rfl⟩:=xW (of_decide_eq_true h)
     obtain⟨b1,c1,gx,gx2,gx3⟩:=hat
     refine⟨_,gx,fun tp H2 s2 g2=>⟨ls++[tp],by rw[e,dW];rfl,?_,s'.trans s2,by simp;omega⟩⟩
     rw[etk,eK];exact Paired.snoc (Paired.map' (fun _ _ z=>z.tk (Same.tk s2)) pp) ⟨b1,c1,g2,s2 _ _ gx2,s2 _ _ gx3⟩
    ·refine⟨ls,e,?_,s',Zo⟩
     rw[etk,eK,Et (of_decide_eq_false h),List.append_nil];exact pp
   ·intro kl hkl;rw[aR,<- le,jD (bC _)]at pp;exact hnx _ _ ⟨kl,ls,rfl,by rw[aA,e],Paired.map' (fun _ _ z=>z.tk (Same.tk (aG hkl))) pp,s'.trans (aG hkl)⟩
  rintro σ' H1 ⟨kl,ls,rfl,gkl,pk1,s1⟩
  have R1:=RR.same s1
  have lk:=pk1.length
  have lk1:=Ew rs qQ Ey
  refine⟨ra,rfl,⟨_,SqL.of R1.lst⟩,?_⟩
  refine aZ (aS K ra (as.map V.ref)) (by rw[aR];omega) (fun i ys H'=>∃ls:List Addr,ys=ls.map V.ref/\Paired (At6 H') ((rs.take i).flatMap (yD rs)) ls/\Same H1 H'/\ls.length<=i) (fun i ys H' ⟨ls,e,_,s',l'⟩=>⟨SqL.of (s' _ _ R1.lst),by rw[e,aR];exact l'⟩) ⟨[],rfl,.nil,(fun _ _ e=>e),bC _⟩ (fun i x ys H' hx ⟨ls2,e,pp,s',l'⟩=>?_) (fun ys H' ⟨ls2,e,pp,s',l'⟩=>?_)
  ·obtain⟨a,r,rfl,ha,hrr,hat⟩:=(R1.same s').get hx
   obtain⟨xs,g,x0,x1,x2⟩:=eT hat
   have etk:=aP hrr
   dsimp only [aJ];refine⟨_,SqT.of g,_,x0,?_⟩
   show if decide (cG r="done")=true then _ else _
   refine bQ (fun h=>?_) (fun h=>?_)
   ·obtain⟨n,t,y,rfl⟩:=sM (of_decide_eq_true h)
    obtain⟨c1,gx,gx2⟩:=hat
    obtain⟨t0,p,k,x,hcm,_⟩:=lC hw (fT hrr)
    obtain⟨ca,cb,ct,hv,gca,gcb⟩:=sP hw (R1.same s') hcm
    have dg':∀H'',Same H' H''->DGet H'' cd (.int (n:Int)) (some (.ref ca)):=fun H'' ss=>by rw[<- hv];exact DGet.k (k:=Sum.inl (n:Int)) (ss _ _ (s' _ _ (s1 _ _ gcd)))
    refine⟨_,gx,fun t1 H2 s2 g2=>⟨_,SqT.of (s2 _ _ gx),_,rfl,cd,_,rfl,dg' H2 s2,_,s2 _ _ gca,fun t2 H3 s3 g3=>⟨_,_,s3 _ _ g2,g3,Nat.le_of_ble_eq_true rfl,fun t3 H4 s4 g4=>⟨_,s4 _ _ (s3 _ _ (s2 _ _ gx)),fun t4 H5 s5 g5=>⟨_,_,s5 _ _ g4,g5,Nat.le_of_ble_eq_true rfl,fun t5 H6 s6 g6=>?_⟩⟩⟩⟩⟩
    have s26:Same H' H6:=(((s2.trans s3).trans s4).trans s5).trans s6
    refine⟨ls2++[t5],by rw[e,dW];rfl,?_,s'.trans s26,by simp;omega⟩
    rw[etk,eK,Ev hw hcm];exact Paired.snoc (Paired.map' (fun _ _ z=>z.tk (Same.tk s26)) pp) ⟨cb,c1,g6,s26 _ _ gcb,s26 _ _ gx2⟩
   ·refine⟨ls2,e,?_,s',Zo⟩
    rw[etk,eK,Eu (of_decide_eq_false h),List.append_nil];exact pp
  ·intro kl2 hkl2;rw[aR,<- le,jD (bC _)]at pp;rw[aR]at l';have s2:=s'.trans (aG (o:=.lst ys) hkl2)
   refine⟨_,_,s2 _ _ gkl,aA,by rw[e,aR,aR];exact fO Zo,fun l hll=>?_⟩
   have s3:=s2.trans (aG (o:=.lst (ls.map V.ref++ys)) hll)
   refine q l (ls++ls2) _ (s1.free (s2.free hll)) (by rw[aA,e,dW]) ?_ (s1.trans s3)
   exact Paired.append' (Paired.map' (fun _ _ z=>z.tk (Same.tk s3)) pk1) (Paired.map' (fun _ _ z=>z.tk (Same.tk ((aG hkl2).trans (aG hll)))) pp)
def Jc (wd:Str) (rs:List RX) (k:bB):Bool:=rs.any fun r=>decide (cG r=wd)&&decide (iH r=k)
theorem qR {wd:Str} {rs:List RX} {as:List Addr} (hl:rs.length=as.length) (k:bB):(bN (aL [] (bH wd rs as rs.length)) k).isSome=Jc wd rs k:=by
 cases h:Jc wd rs k with
 | true=>
  obtain⟨r,hr,e⟩:=List.any_eq_true.mp h
  rw[Bool.and_eq_true]at e;obtain⟨j,r',a,hv,_⟩:=uK hl hr (of_decide_eq_true e.1)
  rw[of_decide_eq_true e.2]at hv;rw[hv];rfl
 | false=>
  cases hv:bN (aL [] (bH wd rs as rs.length)) k with
  | none=>rfl
  | some v=>
   exfalso
   rcases jM hv with h4 | h4
   ·obtain⟨j,r,a,_,g1,g2,g3,g4,g5⟩:=oN h4
    have:=List.any_eq_false.mp h r (fT g1)
    rw[decide_eq_true g3,decide_eq_true g4.symm]at this;exact this rfl
   ·cases h4
def iI (rs:List RX) (n:Nat):Bool:=Jc "asked" rs (Sum.inl (n:Int))&&!Jc "done" rs (Sum.inl (n:Int))
def kH (rs:List RX):RX->List O4 | .came n _ p k x=>if iI rs n=true then [(n,p,k,x)] else [] | _=>[]
def oQ (rs:List RX):List O4:=rs.flatMap (kH rs)
theorem zX {rs:List RX} (h:RX.Whole rs):(cC rs).Pairwise (·<·):=by
 induction h with
 | nil=>exact .nil
 | @snoc rs r hw hf ih=>
  have e:cC (rs++[r])=cC rs++cC [r]:=by unfold cC;rw[List.filterMap_append]
  rw[e];cases r with
  | came n t p k x=>
   refine List.pairwise_append.mpr ⟨ih,List.pairwise_singleton _ _,fun a ha b hb=>?_⟩
   have hb':b=n:=Zms.mp hb
   subst hb';obtain⟨r,hr,e⟩:=List.mem_filterMap.mp ha
   cases r <;> cases e
   exact hf.1 _ _ _ _ _ hr
  | _=>simpa [cC]using ih
theorem lH {rs:List RX} {as:List Addr} (hl:rs.length=as.length):∀i,i<=rs.length->(bH "came" rs as i).map (·.1)=(cC (rs.take i)).map fun n:Nat=>(Sum.inl (n:Int):bB)
 | 0,_=>rfl
 | i+1,hi=>by
  obtain⟨r,hr⟩:∃r,rs[i]?=some r:=⟨rs[i],iJ Zo⟩
  obtain⟨a,ha⟩:∃a,as[i]?=some a:=⟨as[i],iJ Zo⟩
  have e:cC (rs.take i++[r])=cC (rs.take i)++cC [r]:=by unfold cC;rw[List.filterMap_append]
  rw[fR hr ha,aP hr,e,dW,dW,lH hl i Zo]
  congr 1
  unfold gQ;by_cases h:cG r="came"
  ·rw[if_pos h];obtain⟨n,t,p,k,x,rfl⟩:=mQ h
   rfl
  ·rw[if_neg h];cases r <;> first | rfl | exact absurd rfl h
theorem oS {rs:List RX} {as:List Addr} (hw:RX.Whole rs) (hl:rs.length=as.length):aL [] (bH "came" rs as rs.length)=bH "came" rs as rs.length:=by
 rw[kW _ _ ?_ (fun _ _=>rfl)]
 ·rfl
 ·rw[lH hl _ (bC _),jD (bC _)];show List.Pairwise (·≠·) _
  rw[List.pairwise_map];exact(zX hw).imp fun {a b} h e=>by
   have:(Sum.inl (a:Int):bB)=Sum.inl (b:Int):=e
   injection this with this
   omega
end
end KL
namespace KL
open PySem L2
section
variable {P:Program} {w:World} {K:W.Frag} {mg:Str->Option Value} {base:Heap}
def uP (rs:List RX):RX->List (Str × Int)
 | .done n _ y=>match gU rs n with | some (_,_,x)=>hI x y | none=>[]
 | _=>[]
def mE (rs:List RX):List RX->List (Str × Int)->Sum Str (List (Str × Int))
 | [],prs=>.inr prs
 | r::l,prs=>match kG prs (uP rs r) with | some n=>.inl n | none=>mE rs l (gS prs (uP rs r))
def gV (rs:List RX):Sum Str (List (Str × Int)):=mE rs rs (eW rs)
theorem Ow {rs:List RX} {r:RX} (h:cG r≠"done"):uP rs r=[]:=by cases r <;> first | rfl | exact absurd rfl h
theorem qS {rs l:List RX} {r:RX} {prs:List (Str × Int)} (h:cG r≠"done"):mE rs (r::l) prs=mE rs l prs:=by
 show(match kG prs (uP rs r) with | some n=>Sum.inl n | none=>mE rs l (gS prs (uP rs r)))=_
 rw[Ow h];rfl
theorem uQ {rs l:List RX} {r:RX} {prs:List (Str × Int)} {n:Str} (h:kG prs (uP rs r)=some n):mE rs (r::l) prs=.inl n:=by
 show(match kG prs (uP rs r) with | some n=>Sum.inl n | none=>mE rs l (gS prs (uP rs r)))=_
 rw[h]
theorem qT {rs l:List RX} {r:RX} {prs:List (Str × Int)} (h:kG prs (uP rs r)=none):mE rs (r::l) prs=mE rs l (gS prs (uP rs r)):=by
 show(match kG prs (uP rs r) with | some n=>Sum.inl n | none=>mE rs l (gS prs (uP rs r)))=_
 rw[h]
theorem yF {α:Type} {xs:List α} {i:Nat} {x:α} (h:xs[i]?=some x):xs.drop i=x::xs.drop (i+1):=by
 obtain⟨hi,e⟩:=Zgs.mp h
 rw[List.drop_eq_getElem_cons hi,e]
def uR (C CN:Addr):Sp:=fun vs H Q E=>∃(ra cd:Addr) (rs:List RX) (as:List Addr),vs=[.ref ra,.ref cd]/\RxsAt H ra rs as/\rs.length<=43/\RX.Whole rs/\H cd=some (.dK (aL [] (bH "came" rs as rs.length))) ∧
 (∀(p dx d:Addr) (prs:List (Str × Int)) (H':Hp),gV rs=.inr prs->H p=none->H d=none->H' p=some (.ins C dx [("amounts",.ref d)])->H' d=some (.dK (gY prs))->(prs.map (·.1)).Nodup->prs.length<64->Same H H'->Q (.ref p) H') ∧
 (∀n,gV rs=.inl n->∀dx' H',Same H H'->H' dx'=some (.xd [("name",.str n)])->E (.ref CN) (some dx') H')
theorem oU {C CN:Addr} (T:Txt K mg) (c_first_book:aH P w K mg base 3 "first_book" ["rows"] (yC C)) (c_changes_of:aH P w K mg base 2 "changes_of" ["deed","answer"] Kh) (c_Book_change:Dh P w K mg base 3 C "change" ["self","changes"] (qP C CN))
  (D:DefAt K mg "risen_book" eC ["rows","came"]):fZ P w K mg base 4 "risen_book" ["rows","came"] (uR C CN):=by
 refine D.goX fL (fun vs H Q E h=>?_) (fun f cdv A outer s H vs Q E hr h=>?_)
 ·obtain⟨ra,cd,rs,as,rfl,_⟩:=h;rfl
 ·obtain⟨ra,cd,rs,as,rfl,RR,hl,hw,gcd,q,E0⟩:=h
  have hr_first_book:=hr
  have hr_changes_of:Room 2 _:=hr.mono Zd
  have hr_Book_change:Room 3 _:=hr
  have hu1:=eY hr
  have le:=RR.len
  have hct:=qM hw
  refine⟨_,(R.ad (R.ah (i:=2) fL.nd (R.fn c_first_book hr_first_book rfl (R.U (R.v 0) R.ac))) (R.ad (R.bh kX rfl (R.ax (K:=K) (R.v 0)) (R.gn (i:=3) fL.nd) (R.af (R.ar (R.ai R.eq (R.ix (R.ag (K:=K)) (R.v 3) R.aa) R.ae) (R.af (R.az (R.iz c_Book_change hr_Book_change nX (R.v 2) (R.U (R.fn c_changes_of hr_changes_of rfl (R.U (R.ix (R.ag (K:=K)) (R.bt hu1 (R.v 1) (R.ix (R.ag (K:=K)) (R.v 3) R.aa)) R.aa) (R.U (R.ix (R.ag (K:=K)) (R.v 3) R.aa) R.ac))) R.ac)))) R.av))) (R.af (R.am (R.v 2))))),?_⟩
  refine⟨ra,rs,as,rfl,RR,Zo,hw,fun p dx d H1 fp fd gp gd s1=>?_⟩
  have npd:p≠d:=fM gp gd (fun z=>nomatch z)
  dsimp only [aJ];refine bF (fun σ' H'=>∃(prs:List (Str × Int)) (o3:Option V),σ'=[some (.ref ra),some (.ref cd),some (.ref p),o3]/\H' p=some (.ins C dx [("amounts",.ref d)])/\H' d=some (.dK (gY prs))/\(prs.map (·.1)).Nodup/\gV rs=.inr prs/\prs.length<64/\Same H H') (fun nx hnx=>?_) ?_
  ·refine⟨ra,rfl,⟨_,SqL.of (s1 _ _ RR.lst)⟩,cA (aS K ra (as.map V.ref)) (fun i σ' H'=>∃(prs:List (Str × Int)) (o3:Option V),σ'=[some (.ref ra),some (.ref cd),some (.ref p),o3]/\H' p=some (.ins C dx [("amounts",.ref d)])/\H' d=some (.dK (gY prs))/\(prs.map (·.1)).Nodup/\mE rs (rs.drop i) prs=gV rs/\prs.length<=(fH rs).length+2*(eV (rs.take i)).length/\Same H H') (fun i σ' H' ⟨_,_,_,_,_,_,_,_,s'⟩=>SqL.of (s' _ _ RR.lst))
    ⟨eW rs,_,rfl,gp,gd,mV hw,rfl,by rw[uO];omega,s1⟩ ?_ ?_⟩
   ·rintro i x σ' H2 hx ⟨prs,o3,rfl,gp2,gd2,nd2,am2,ln2,s2⟩
    obtain⟨a,r,rfl,ha,hrr,hat⟩:=(RR.same s2).get hx
    have hil:i<rs.length:=(Zgs.mp hrr).1
    obtain⟨xs,g,x0,x1,x2⟩:=eT hat
    have etk:=aP hrr
    rw[yF hrr]at am2;dsimp only [aJ];refine⟨_,SqT.of g,_,x0,?_⟩
    show if decide (cG r="done")=true then _ else _
    refine bQ (fun h=>?_) (fun h=>?_)
    ·obtain⟨n,t,y,rfl⟩:=sM (of_decide_eq_true h)
     obtain⟨cy,gr,gy⟩:=hat
     obtain⟨t0,pp,kk,xd,hcm,hof⟩:=lC hw (fT hrr)
     have ech:uP rs (.done n t y)=hI xd y:=by
      show(match gU rs n with | some (_,_,x)=>hI x y | none=>[])=_
      rw[lG hw hcm]
     obtain⟨ca,cb,ct,hv,gca,gcb⟩:=sP hw (RR.same s2) hcm
     have dg':DGet H2 cd (.int (n:Int)) (some (.ref ca)):=by rw[<- hv];exact DGet.k (k:=Sum.inl (n:Int)) (s2 _ _ gcd)
     refine⟨dx,_,gp2,rS _ Zk,_,SqT.of gr,_,rfl,cd,_,rfl,dg',_,SqT.of gca,_,rfl,_,SqT.of gr,_,rfl,cb,cy,xd,y,rfl,gcb,gy,hof,fun tp zs H3 s3 g3 hz ez=>?_⟩
     have lz:zs.length<=2:=by
      have:=congrArg List.length ez
      rw[aR]at this;have:=jZ xd y
      omega
     refine⟨p,dx,d,tp,prs,zs,prs.map (·.1)++zs.map (·.2.1),rfl,s3 _ _ gp2,s3 _ _ gd2,nd2,.inr g3,hz,fun m hm=>List.mem_append_left _ hm,fun qc hq=>List.mem_append_right _ ?_,?_,fun hb H4 g4 k4=>?_,fun nm hb dx' H4 s4 g4=>?_⟩
     ·obtain⟨z,hzm,rfl⟩:=Zmm.mp hq
      exact Zmm.mpr ⟨z,hzm,rfl⟩
     ·rw[pN,aR,aR];have:=oO rs i
      omega
     ·rw[ez]at g4 hb;rw[<- ech]at g4 hb;refine⟨gS prs (uP rs (.done n t y)),_,rfl,k4 _ _ (s3 _ _ gp2) npd,g4,mU _ _ nd2,by rw[<- qT hb];exact am2,?_,fun c o e=>k4 _ _ (s3 _ _ (s2 _ _ e)) (aD e fd)⟩
      rw[ech];have h1:=kC (hI xd y) prs
      have h2:=jZ xd y
      rw[etk,gT,pN];show _<=_+2*(_+1)
      omega
     ·rw[ez,<- ech]at hb;rw[uQ hb]at am2;exact E0 nm am2.symm dx' H4 ((s2.trans s3).trans s4) g4
    ·refine⟨prs,_,rfl,gp2,gd2,nd2,by rw[<- qS (of_decide_eq_false h)];exact am2,?_,s2⟩
     rw[etk,gT,pN];omega
   ·rintro σ' H2 ⟨prs,o3,rfl,gp2,gd2,nd2,am2,ln2,s2⟩
    rw[aR,<- le]at am2 ln2;rw[jD (bC _)]at ln2;rw[List.drop_of_length_le (bC _)]at am2;exact hnx _ _ ⟨prs,_,rfl,gp2,gd2,nd2,am2.symm,Zo,s2⟩
  ·rintro σ' H2 ⟨prs,o3,rfl,gp2,gd2,nd2,am2,ln2,s2⟩
   exact q p dx d prs H2 am2 fp fd gp2 gd2 nd2 ln2 s2
end
end KL
namespace KL
open PySem L2
section
variable {P:Program} {w:World} {K:W.Frag} {mg:Str->Option Value} {base:Heap}
def bV (rs:List RX):List Nat:=rs.filterMap fun r=>match r with | .next n _=>some n | _=>none
def dG (rs:List RX):List Nat:=rs.filterMap fun r=>match r with | .next _ t=>some t | .came _ t _ _ _=>some t | .done _ t _=>some t | _=>none
def Ez (rs:List RX):List Int:=(1::(bV rs).map fun n:Nat=>(n:Int))++(cC rs).map fun n:Nat=>(n:Int)+1
def Fa (rs:List RX):List Int:=0::(dG rs).map fun n:Nat=>(n:Int)
theorem lT (rs:List RX) (r:RX):bV (rs++[r])=bV rs++bV [r]:=by unfold bV;rw[List.filterMap_append]
theorem lU (rs:List RX) (r:RX):dG (rs++[r])=dG rs++dG [r]:=by unfold dG;rw[List.filterMap_append]
theorem Fc {β:Type} (f:RX->Option β) (rs:List RX) (i:Nat):((rs.take i).filterMap f).length<=i:=hU (List.length_filterMap_le _ _) (by rw[vA];omega)
theorem zY {σ:St} {H:Hp} {ra:Addr} {rs:List RX} {as:List Addr} {Q:List V->Hp->Prop} (RR:RxsAt H ra rs as) (hl:rs.length<=100) (h:Q (nI (bV rs)) H) :
  nK [none] (aJ 0) (mT (sR Sz (sR (tI K) (vr 0) (tC (.int 0))) (tC (.str "next")))) (sR (tI K) (vr 0) (tC (.int 1))) σ (Pe K ra) H Q:=by
 have le:=RR.len
 refine aZ (aS K ra (as.map V.ref)) (by rw[aR];omega) (fun i ys H'=>H'=H/\ys=nI (bV (rs.take i))) (fun i ys H' ⟨e0,e⟩=>⟨by rw[e0];exact SqL.of RR.lst,by rw[e];unfold nI bV;rw[aR];exact Fc _ _ _⟩) ⟨rfl,rfl⟩ (fun i x ys H' hx ⟨e0,e⟩=>?_) (fun ys H' ⟨e0,e⟩=>?_)
 ·subst e0;obtain⟨a,r,rfl,ha,hrr,hat⟩:=RR.get hx
  obtain⟨xs,g,x0,x1,x2⟩:=eT hat
  have etk:=aP hrr
  dsimp only [aJ];refine⟨_,SqT.of g,_,x0,?_⟩
  show if decide (cG r="next")=true then _ else _
  refine bQ (fun h=>?_) (fun h=>?_)
  ·obtain⟨n,t,rfl⟩:=sJ (of_decide_eq_true h)
   refine⟨_,SqT.of g,_,x1,rfl,?_⟩
   rw[etk,lT,e];unfold nI;rw[dW];rfl
  ·refine⟨rfl,?_⟩
   rw[etk,lT,e];have:bV [r]=[]:=by
    cases r with
    | next n t=>exact absurd rfl (of_decide_eq_false h)
    | _=>rfl
   rw[this,List.append_nil]
 ·subst e0;rw[aR,<- le,jD (bC _)]at e;rw[e];exact h
theorem Ox (r:RX):oW (.str (cG r)) [.str "next",.str "came",.str "done"]=true↔∃t,dG [r]=[t]/\Oo r=.int ((t:Nat):Int):=by
 cases r with
 | next n t=>exact⟨fun _=>⟨t,rfl,rfl⟩,fun _=>rfl⟩
 | came n t p k x=>exact⟨fun _=>⟨t,rfl,rfl⟩,fun _=>rfl⟩
 | done n t y=>exact⟨fun _=>⟨t,rfl,rfl⟩,fun _=>rfl⟩
 | has z m=>exact⟨fun z=>absurd (show false=true from z) Bool.false_ne_true,fun⟨t,h,_⟩=>nomatch h⟩
 | kept n t p k x y=>exact⟨fun z=>absurd (show false=true from z) Bool.false_ne_true,fun⟨t,h,_⟩=>nomatch h⟩
 | asked n=>exact⟨fun z=>absurd (show false=true from z) Bool.false_ne_true,fun⟨t,h,_⟩=>nomatch h⟩
theorem zZ {σ:St} {H:Hp} {ra:Addr} {rs:List RX} {as:List Addr} {Q:List V->Hp->Prop} (RR:RxsAt H ra rs as) (hl:rs.length<=100) (h:∀H',Same H H'->Q (nI (dG rs)) H') :
  nK [none] (aJ 0) (mT (sR (Sx K false) (sR (tI K) (vr 0) (tC (.int 0))) (Cp (jP (tC (.str "next")) (jP (tC (.str "came")) (jP (tC (.str "done")) vJ)))))) (sR (tI K) (vr 0) (tC (.int 2))) σ (Pe K ra) H Q:=by
 have le:=RR.len
 refine aZ (aS K ra (as.map V.ref)) (by rw[aR];omega) (fun i ys H'=>Same H H'/\ys=nI (dG (rs.take i))) (fun i ys H' ⟨e0,e⟩=>⟨SqL.of (e0 _ _ RR.lst),by rw[e];unfold nI dG;rw[aR];exact Fc _ _ _⟩) ⟨(fun _ _ e=>e),rfl⟩ (fun i x ys H' hx ⟨e0,e⟩=>?_) (fun ys H' ⟨e0,e⟩=>?_)
 ·obtain⟨a,r,rfl,ha,hrr,hat⟩:=(RR.same e0).get hx
  obtain⟨xs,g,x0,x1,x2⟩:=eT hat
  have etk:=aP hrr
  dsimp only [aJ];refine⟨_,SqT.of g,_,x0,aM rfl,fun tq H2 s2 g2=>⟨tq,_,rfl,.inr (SqT.of g2),rfl,rfl,?_⟩⟩
  show if oW (.str (cG r)) [.str "next",.str "came",.str "done"]=true then _ else _
  refine bQ (fun h=>?_) (fun h=>?_)
  ·obtain⟨t,h1,h2⟩:=(Ox r).mp h
   refine⟨_,SqT.of (s2 _ _ g),_,x2 (by rw[h2];exact fun z=>nomatch z),e0.trans s2,?_⟩
   rw[etk,lU,e,h1,h2];unfold nI;rw[dW];rfl
  ·refine⟨e0.trans s2,?_⟩
   rw[etk,lU,e];have:dG [r]=[]:=by
    cases r with
    | has z m=>rfl
    | kept n t p k x y=>rfl
    | asked n=>rfl
    | _=>exact absurd (show true=false from h) Zd
   rw[this,List.append_nil]
 ·rw[aR,<- le,jD (bC _)]at e;rw[e];exact h H' e0
theorem Aa {σ:St} {H:Hp} {cd:Addr} {o:Obj} {kvs:List (bB × V)} {ns:List Nat} {Q:List V->Hp->Prop} (g:H cd=some (.frz o (.dK kvs))) (hk:kvs.map (·.1)=ns.map fun n:Nat=>(Sum.inl (n:Int):bB)) (hl:ns.length<=100) (h:Q (ns.map fun n:Nat=>V.int ((n:Int)+1)) H) :
  nK [none] (aJ 0) Bq (sR (uZ fun i j=>.int (i+j)) (vr 0) (tC (.int 1))) σ (Te cd o kvs) H Q:=by
 have lk:kvs.length=ns.length:=by have:=congrArg List.length hk;simpa using this
 refine aZ (xN cd o kvs) (by rw[aR];omega) (fun i ys H'=>H'=H/\ys=(ns.take i).map fun n:Nat=>V.int ((n:Int)+1)) (fun i ys H' ⟨e0,e⟩=>⟨by rw[e0];exact g,by rw[e,aR,vA];omega⟩) ⟨rfl,rfl⟩ (fun i x ys H' hx ⟨e0,e⟩=>?_) (fun ys H' ⟨e0,e⟩=>?_)
 ·subst e0;have hx':(kvs.map (·.1))[i]?.map kV=some x:=by rw[fS]at hx ⊢;rw[<- hx];cases kvs[i]? <;> rfl
  rw[hk,fS]at hx';cases hn:ns[i]? with
  | none=>rw[hn]at hx';cases hx'
  | some n=>
   rw[hn]at hx';injection hx' with hx'
   subst hx';refine⟨rfl,?_⟩
   rw[aP hn,dW,e];rfl
 ·subst e0;rw[aR,lk,jD (bC _)]at e;rw[e];exact h
theorem qU {H:Hp} {cd:Addr} {u:HO} {o:Obj} (g:H cd=some u) {H2:Hp} (s:Same (aI H cd (.frz o u)) H2):Same H (aI H2 cd u):=fun c x e=>by
 by_cases z:c=cd
 ·subst z;rw[g]at e;cases e;exact aA
 ·rw[aE z];exact s _ _ (by rw[aE z];exact e)
theorem Same.keep {H H2:Hp} {cd:Addr} {u:HO} (g:H cd=some u) (o:Obj):∀c x,H c=some x->c≠cd->(aI H cd (.frz o u)) c=some x:=fun c x e n=>by rw[aE n];exact e
theorem uS {H:Hp} {ra:Addr} {rs:List RX} {as:List Addr} (RR:RxsAt H ra rs as):∀i,i<=rs.length->Paired (fun(r:RX) (kv:bB × V)=>eU r=true/\kv.1=iH r/\r∈rs) ((rs.take i).filter eU) (bH "came" rs as i)
 | 0,_=>.nil
 | i+1,hi=>by
  have le:=RR.len
  obtain⟨r,hr⟩:∃r,rs[i]?=some r:=⟨rs[i],iJ Zo⟩
  obtain⟨a,ha⟩:∃a,as[i]?=some a:=⟨as[i],iJ Zo⟩
  rw[fR hr ha,aP hr,List.filter_append];refine Paired.append' (uS RR i Zo) ?_
  unfold gQ;by_cases h:cG r="came"
  ·rw[if_pos h];obtain⟨n,t,p,k,x,rfl⟩:=mQ h
   exact .cons ⟨rfl,rfl,fT hr⟩ .nil
  ·rw[if_neg h];have:eU r=false:=by cases r <;> first | rfl | exact absurd rfl h
   rw[List.filter_cons,this];exact .nil
theorem lV (rs0:List RX):∀rs:List RX,rs.flatMap (kH rs0)=(rs.filter eU).flatMap (kH rs0)
 | []=>rfl
 | r::rs=>by
  rw[List.flatMap_cons,lV rs0 rs,List.filter_cons];cases r <;> rfl
def Oy (H:Hp) (e:O4) (a:Addr):Prop:=∃(t:Nat) (b:Addr),H a=some (.tup [.str "came",.int (e.1:Int),.int (t:Int),.str e.2.1,.str e.2.2.1,.ref b])/\H b=some (.tup e.2.2.2.vs)
theorem Fd (rs0 rs:List RX):(rs.flatMap (kH rs0)).length<=rs.length:=by
 induction rs with
 | nil=>exact bC _
 | cons r rs ih=>
  have:(kH rs0 r).length<=1:=by
   cases r with
   | came n t p k x=>
    show(if iI rs0 n=true then [(n,p,k,x)] else []).length<=1
    split
    ·exact bC _
    ·exact Nat.zero_le _
   | _=>exact Nat.zero_le _
  rw[List.flatMap_cons,pN,sQ];omega
def uT (CN:Addr):Sp:=fun vs H Q E=>∃(ra:Addr) (rs:List RX) (as:List Addr),vs=[.ref ra]/\RxsAt H ra rs as/\rs.length<=43/\RX.Whole rs ∧
 (∀prs,gV rs=.inr prs->∀(tp bl:Addr) (zs:List Z) (v1 v2 v3 v4:V) (H':Hp),H' tp=some (.tup [.ref bl,v1,v2,v3,v4])->H bl=none->H' bl=some (.lst (cN zs))->ZAt H' zs->zs.map (·.2)=fJ prs->prs.length<64->Same H H'->Q (.ref tp) H') ∧
 (∀n,gV rs=.inl n->∀dx' H',Same H H'->H' dx'=some (.xd [("name",.str n)])->E (.ref CN) (some dx') H')
theorem Ab {C CN:Addr} (T:Txt K mg) (c_by_numbers:aH P w K mg base 1 "by_numbers" ["rows","word"] xX) (c_risen_book:fZ P w K mg base 4 "risen_book" ["rows","came"] (uR C CN)) (c_Book_rows:Ia P w K mg base 1 C "rows" ["self"] (tO C)) (c_risen_kept:aH P w K mg base 1 "risen_kept" ["rows","came"] yE)
  (D:DefAt K mg "risen" dZ ["rows"]):fZ P w K mg base 5 "risen" ["rows"] (uT CN):=by
 refine D.goX iF (fun vs H Q E h=>?_) (fun f cdv A outer s H vs Q E hr h=>?_)
 ·obtain⟨ra,rs,as,rfl,_⟩:=h;rfl
 ·obtain⟨ra,rs,as,rfl,RR,hl,hw,q,E0⟩:=h
  have hr_by_numbers:Room 1 _:=hr.mono Zd
  have hr_risen_book:Room 4 _:=hr
  have hr_Book_rows:Room 1 _:=hr.mono Zd
  have hr_risen_kept:Room 1 _:=hr.mono Zd
  have hu1:=eY hr
  have le:=RR.len
  refine⟨_,(R.ad (R.ah (i:=1) iF.nd (R.fn c_by_numbers hr_by_numbers rfl (R.U (R.v 0) (R.U R.ae R.ac)))) (R.ad (R.ah (i:=2) iF.nd (R.fn c_by_numbers hr_by_numbers rfl (R.U (R.v 0) (R.U R.ae R.ac)))) (R.ad (R.ah (i:=3) iF.nd (R.fn c_by_numbers hr_by_numbers rfl (R.U (R.v 0) (R.U R.ae R.ac)))) (R.ad (R.ja (R.fo (i:=4) iF.nd rfl (Or.inl rfl) rfl (js:=[none,some 1,some 2,some 3]) (N:=["number","done","asked","came"]) (CompScope.by (aB dZ) ["rows","done","asked","came","still"] rfl rfl Zk) (aT rfl) (R.wD (R.v 3)) (fun C s₂ H₂ fp=>⟨(R.gn (i:=0) (show(["number","done","asked","came"]:List Str).Nodup by decide +kernel)),(R.be (R.tw (R.bw (R.ai (R.gs hu1) (R.v 0) (R.v 2)) (R.da (R.ai (R.gu hu1) (R.v 0) (R.v 1)))))),(R.bt hu1 (R.v 3) (R.v 0))⟩) rfl)) (R.af (R.am (R.al (R.U (R.jb c_Book_rows hr_Book_rows (R.ij c_risen_book hr_risen_book rfl nX (R.U (R.v 0) (R.U (R.v 3) R.ac)))) (R.U (R.fn c_risen_kept hr_risen_kept rfl (R.U (R.v 0) (R.U (R.v 3) R.ac))) (R.U (R.bb rfl (js:=[none]) (N:=["row"]) (CompScope.by (aB dZ) ["rows","done","asked","came","still"] rfl rfl Zk) (aT rfl) (R.ax (K:=K) (R.v 4)) (fun C s₂ H₂ fp=>⟨(R.gn (i:=0) (show(["row"]:List Str).Nodup by decide +kernel)),R.dl,(R.op R.bu (R.sl R.sT (R.v 0) (R.ps R.aa) (R.ps R.aa)) (R.sl R.sT (R.v 0) (R.ps R.aa) R.pn))⟩)) (R.U (R.aw (R.di (K:=K) rfl) rfl T.b_max kQ (R.U (R.op R.bn (R.op R.bn (R.au (R.U R.aa R.ac)) (R.bb rfl (js:=[none]) (N:=["row"]) (CompScope.by (aB dZ) ["rows","done","asked","came","still"] rfl rfl Zk) (aT rfl) (R.ax (K:=K) (R.v 0)) (fun C s₂ H₂ fp=>⟨(R.gn (i:=0) (show(["row"]:List Str).Nodup by decide +kernel)),(R.be (R.ai R.eq (R.ix (R.ag (K:=K)) (R.v 0) R.aa) R.ae)),(R.ix (R.ag (K:=K)) (R.v 0) R.aa)⟩))) (R.jc (R.bb rfl (js:=[none]) (N:=["number"]) (CompScope.by (aB dZ) ["rows","done","asked","came","still"] rfl rfl Zk) (aT rfl) (R.wD (R.v 3)) (fun C s₂ H₂ fp=>⟨(R.gn (i:=0) (show(["number"]:List Str).Nodup by decide +kernel)),R.dl,(R.op R.aq (R.v 0) R.aa)⟩)))) R.ac)) (R.U (R.aw (R.di (K:=K) rfl) rfl T.b_max kQ (R.U (R.op R.bn (R.au (R.U R.aa R.ac)) (R.bb rfl (js:=[none]) (N:=["row"]) (CompScope.by (aB dZ) ["rows","done","asked","came","still"] rfl rfl Zk) (aT rfl) (R.ax (K:=K) (R.v 0)) (fun C s₂ H₂ fp=>⟨(R.gn (i:=0) (show(["row"]:List Str).Nodup by decide +kernel)),(R.be (R.ai (R.bd (K:=K)) (R.ix (R.ag (K:=K)) (R.v 0) R.aa) (R.al (R.U R.ae (R.U R.ae (R.U R.ae R.ac)))))),(R.ix (R.ag (K:=K)) (R.v 0) R.aa)⟩))) R.ac)) R.ac)))))))))))),?_⟩
  refine⟨ra,"done",rs,as,rfl,RR,Zo,fun dn H1 fdn gdn s1=>?_⟩
  dsimp only [aJ];refine⟨ra,"asked",rs,as,rfl,RR.same s1,Zo,fun ak H2 fak gak s2=>?_⟩
  dsimp only [aJ];refine⟨ra,"came",rs,as,rfl,(RR.same s1).same s2,Zo,fun cd H3 fcd gcd s3=>?_⟩
  have sH:Same H H3:=(s1.trans s2).trans s3
  have R3:=RR.same sH
  have gdn3:=s3 _ _ (s2 _ _ gdn)
  have gak3:=s3 _ _ gak
  have ndc:dn≠cd:=aD (s2 _ _ gdn) fcd
  have nac:ak≠cd:=aD gak fcd
  have nrc:ra≠cd:=aD ((RR.same s1).same s2).lst fcd
  dsimp only [aJ];refine bF (fun σ' H'=>∃(sl:Addr) (sts:List Addr),σ'=[some (.ref ra),some (.ref dn),some (.ref ak),some (.ref cd),some (.ref sl)]/\H' sl=some (.lst (sts.map V.ref))/\Paired (Oy H') (oQ rs) sts/\Same H3 H') (fun nx hnx=>?_) ?_
  ·refine⟨_,gcd,fun o=>?_⟩
   have em:=oS hw le
   have np:=uS R3 rs.length (bC _)
   rw[jD (bC _)]at np;have nlen:=oM "came" rs as rs.length
   have kF:=Same.keep (H2:=H3) gcd o
   have gF:(aI H3 cd (.frz o (.dK (aL [] (bH "came" rs as rs.length))))) cd=some (.frz o (.dK (aL [] (bH "came" rs as rs.length)))):=aA
   have tkF:TK H3 (aI H3 cd (.frz o (.dK (aL [] (bH "came" rs as rs.length))))):=fun a xs e=>kF _ _ e (fun z=>by rw[z,gcd]at e;cases e)
   have lpp:(rs.filter eU).length=(bH "came" rs as rs.length).length:=np.length
   refine aZ (xN cd o (aL [] (bH "came" rs as rs.length))) (by rw[aR,em];omega) (fun j ys H'=>H'=aI H3 cd (.frz o (.dK (aL [] (bH "came" rs as rs.length))))/\∃sts:List Addr,ys=sts.map V.ref/\Paired (Oy H') (((rs.filter eU).take j).flatMap (kH rs)) sts/\sts.length<=j) (fun j ys H' ⟨e0,sts,e,_,l'⟩=>⟨by rw[e0];exact gF,by rw[e,aR];exact l'⟩) ⟨rfl,[],rfl,.nil,bC _⟩ (fun j x ys H' hx ⟨e0,sts,e,pp,l'⟩=>?_) (fun ys H' ⟨e0,sts,e,pp,l'⟩=>?_)
   ·rw[fS,em]at hx;cases hkv:(bH "came" rs as rs.length)[j]? with
    | none=>rw[hkv]at hx;cases hx
    | some kv=>
     rw[hkv]at hx;injection hx with hx
     subst hx;obtain⟨hj,ej⟩:=Zgs.mp hkv
     obtain⟨hj',hc1,hc2,hc3⟩:=Paired.get' (j:=j) np hj
     rw[ej]at hc2;have hrj:(rs.filter eU)[j]?=some (rs.filter eU)[j]:=iJ hj'
     generalize (rs.filter eU)[j]=r at hc1 hc2 hc3 hrj;cases r with
     | came n t p k x=>
      dsimp only;rw[hc2];have etk:=aP hrj
      subst e0;obtain⟨ca,cb,ct,hv,gca,gcb⟩:=sP hw R3 hc3
      have dga:DGet (aI H3 cd (.frz o (.dK (aL [] (bH "came" rs as rs.length))))) ak (.int (n:Int)) (bN (aL [] (bH "asked" rs as rs.length)) (Sum.inl (n:Int))):=DGet.k (k:=Sum.inl (n:Int)) (kF _ _ gak3 nac)
      have dgd:DGet (aI H3 cd (.frz o (.dK (aL [] (bH "came" rs as rs.length))))) dn (.int (n:Int)) (bN (aL [] (bH "done" rs as rs.length)) (Sum.inl (n:Int))):=DGet.k (k:=Sum.inl (n:Int)) (kF _ _ gdn3 ndc)
      have dgc:DGet (aI H3 cd (.frz o (.dK (aL [] (bH "came" rs as rs.length))))) cd (.int (n:Int)) (some (.ref ca)):=.inl ⟨_,Sum.inl (n:Int),.inr ⟨o,gF⟩,rfl,hv.symm⟩
      have no:iI rs n=false->(aI H3 cd (.frz o (.dK (aL [] (bH "came" rs as rs.length))))=aI H3 cd (.frz o (.dK (aL [] (bH "came" rs as rs.length))))/\∃sts:List Addr,ys=sts.map V.ref/\Paired (Oy (aI H3 cd (.frz o (.dK (aL [] (bH "came" rs as rs.length)))))) (((rs.filter eU).take (j+1)).flatMap (kH rs)) sts/\sts.length<=j+1):=fun hno=>by
       refine⟨rfl,sts,e,?_,Zo⟩
       rw[etk,eK];have:kH rs (.came n t p k x)=[]:=by show(if iI rs n=true then _ else _)=_;rw[if_neg (by rw[hno];exact Bool.false_ne_true)]
       rw[this,List.append_nil];exact pp
      dsimp only [aJ];refine⟨_,dga,?_⟩
      show if (bN (aL [] (bH "asked" rs as rs.length)) (Sum.inl (n:Int))).isSome=true then _ else _
      rw[qR le];refine bQ (fun h1=>?_) (fun h1=>no (by unfold iI;rw[h1];rfl))
      refine⟨_,dgd,?_⟩
      show if (!(bN (aL [] (bH "done" rs as rs.length)) (Sum.inl (n:Int))).isSome)=true then _ else _
      rw[qR le];refine bQ (fun h2=>?_) (fun h2=>no (by unfold iI;rw[h1,h2];rfl))
      refine⟨cd,_,rfl,dgc,rfl,sts++[ca],by rw[e,dW];rfl,?_,by simp;omega⟩
      rw[etk,eK];have:kH rs (.came n t p k x)=[(n,p,k,x)]:=by show(if iI rs n=true then _ else _)=_;rw[if_pos (by unfold iI;rw[h1,h2];rfl)]
      rw[this];exact Paired.snoc pp ⟨ct,cb,tkF _ _ gca,tkF _ _ gcb⟩
     | _=>cases hc1
   ·intro sl hsl;subst e0;rw[jD (show(rs.filter eU).length<=((aL [] (bH "came" rs as rs.length)).map fun q=>kV q.1).length by rw[aR,em];omega),<- lV]at pp
    have ncl:cd≠sl:=aD gF hsl
    have s4:=qU gcd (aG (o:=.lst ys) hsl)
    refine⟨cd,_,o,⟨_,gcd⟩,aN gF hsl,?_⟩
    refine hnx _ _ ⟨sl,sts,rfl,by rw[aE ncl.symm,aA,e],Paired.map' (fun _ _ z=>?_) pp,s4⟩
    obtain⟨t,b,h1,h2⟩:=z
    have back:∀ {a:Addr} {xs:List V},(aI H3 cd (.frz o (.dK (aL [] (bH "came" rs as rs.length))))) a=some (.tup xs)->(aI (aI (aI H3 cd (.frz o (.dK (aL [] (bH "came" rs as rs.length))))) sl (.lst ys)) cd (.dK (aL [] (bH "came" rs as rs.length)))) a=some (.tup xs):=fun {a xs} e=>by
     have:a≠cd:=fun z=>by rw[z,gF]at e;cases e
     rw[aE this];exact aN e hsl
    exact⟨t,b,back h1,back h2⟩
  rintro σ' H4 ⟨sl,sts,rfl,gsl,ps,s4⟩
  have R4:=R3.same s4
  have gcd4:=s4 _ _ gcd
  refine⟨ra,cd,rs,as,rfl,R4,hl,hw,gcd4,fun p dx d prs H5 ho fp fd gp gd nd ln s5=>?_,fun nm ho dx' H5 s5 g5=>E0 nm ho dx' H5 ((sH.trans s4).trans s5) g5⟩
  refine⟨dx,_,gp,rS _ Zk,p,prs,rfl,⟨⟨dx,d,gp,gd⟩,nd⟩,ln,fun bl zs H6 s6 fb gb hz ez=>?_⟩
  have s46:=s5.trans s6
  refine⟨ra,cd,rs,as,rfl,R4.same s46,hl,hw,s46 _ _ gcd4,fun kl ks H7 fkl gkl pk s7=>?_⟩
  have s47:=s46.trans s7
  have gsl7:=s47 _ _ gsl
  have lst_:=ps.length
  have lop:=Fd rs rs
  refine⟨sl,rfl,⟨_,SqL.of gsl7⟩,?_⟩
  refine aZ (aS K sl (sts.map V.ref)) (by rw[aR];unfold oQ at lst_;omega) (fun i ys H'=>∃os:List Addr,ys=os.map V.ref/\Paired (AtO H') ((oQ rs).take i) os/\Same H7 H'/\os.length<=i) (fun i ys H' ⟨os,e,_,s',l'⟩=>⟨SqL.of (s' _ _ gsl7),by rw[e,aR];exact l'⟩) ⟨[],rfl,.nil,(fun _ _ e=>e),bC _⟩ (fun i x ys H' hx ⟨os,e,pp,s',l'⟩=>?_) (fun ys H' ⟨os,e,pp,s',l'⟩=>?_)
  ·rw[fS]at hx;cases hsi:sts[i]? with
   | none=>rw[hsi]at hx;cases hx
   | some a=>
    rw[hsi]at hx;cases hx
    obtain⟨hi,ei⟩:=Zgs.mp hsi
    obtain⟨hi',pa⟩:=Paired.get' (j:=i) ps hi
    rw[ei]at pa;have hoi:(oQ rs)[i]?=some (oQ rs)[i]:=iJ hi'
    generalize (oQ rs)[i]=eo at pa hoi;obtain⟨t,b,g1,g2⟩:=pa
    have g1':=s' _ _ (s47 _ _ g1)
    dsimp only [aJ];refine⟨_,g1',fun t1 Ha sa ga=>⟨_,sa _ _ g1',fun t2 Hb sb gb'=>⟨_,_,sb _ _ ga,gb',Nat.le_of_ble_eq_true rfl,fun t3 Hc sc gc=>?_⟩⟩⟩
    have sac:=(sa.trans sb).trans sc
    refine⟨os++[t3],by rw[e,dW];rfl,?_,s'.trans sac,by simp;omega⟩
    rw[aP hoi];exact Paired.snoc (Paired.map' (fun _ _ z=>z.tk (Same.tk sac)) pp) ⟨b,gc,sac _ _ (s' _ _ (s47 _ _ g2))⟩
  ·intro ol hol;rw[aR,<- lst_,jD (bC _)]at pp;have s48:=s47.trans (s'.trans (aG (o:=.lst ys) hol))
   have s68:=s7.trans (s'.trans (aG (o:=.lst ys) hol))
   have fbl0:H bl=none:=sH.free (s4.free (s5.free fb))
   have pk8:Paired (At6 (aI H' ol (.lst ys))) (Kj rs) ks:=Paired.map' (fun _ _ z=>z.tk (Same.tk (s'.trans (aG hol)))) pk
   have po8:Paired (AtO (aI H' ol (.lst ys))) (oQ rs) os:=Paired.map' (fun _ _ z=>z.tk (Same.tk (aG hol))) pp
   have gol:(aI H' ol (.lst ys)) ol=some (.lst (os.map V.ref)):=by rw[aA,e]
   have gkl8:(aI H' ol (.lst ys)) kl=some (.lst (ks.map V.ref)):=aN (s' _ _ gkl) hol
   have nko:kl≠ol:=aD (s' _ _ gkl) hol
   have fol:H ol=none:=sH.free (s4.free ((s47.trans s').free hol))
   have fkl0:H kl=none:=sH.free (s4.free (s46.free fkl))
   generalize aI H' ol (.lst ys)=H8 at s48 s68 pk8 po8 gol gkl8;have R8:=R4.same s48
   have gcd8:=s48 _ _ gcd4
   refine⟨cP rfl,fun p1 hp1=>?_⟩
   have s9:=aG (o:=.lst [.int 1]) hp1
   have g1:(aI H8 p1 (.lst [.int 1])) p1=some (.lst [.int 1]):=aA
   generalize aI H8 p1 (.lst [.int 1])=H9 at s9 g1;refine⟨ra,rfl,⟨_,SqL.of (R8.same s9).lst⟩,zY (R8.same s9) Zo fun p2 hp2=>?_⟩
   have nle:(bV rs).length<=rs.length:=List.length_filterMap_le _ _
   have cle:(cC rs).length<=rs.length:=List.length_filterMap_le _ _
   refine⟨_,_,aN g1 hp2,aA,by unfold nI;rw[aR];exact fO (by simp;omega),fun p3 hp3=>?_⟩
   have sa:=((s9.trans (aG (o:=.lst (nI (bV rs))) hp2)).trans (aG (o:=.lst ([.int 1]++nI (bV rs))) hp3))
   have g3:(aI (aI H9 p2 (.lst (nI (bV rs)))) p3 (.lst ([.int 1]++nI (bV rs)))) p3=some (.lst (.int 1::nI (bV rs))):=aA
   generalize aI (aI H9 p2 (.lst (nI (bV rs)))) p3 (.lst ([.int 1]++nI (bV rs)))=Ha at sa g3;have gcda:=sa _ _ gcd8
   refine⟨_,gcda,fun o=>?_⟩
   have hk:(aL [] (bH "came" rs as rs.length)).map (·.1)=(cC rs).map fun n:Nat=>(Sum.inl (n:Int):bB):=by
    rw[oS hw le,lH le _ (bC _),jD (bC _)]
   refine Aa aA hk Zo fun p4 hp4=>?_
   have gF:(aI Ha cd (.frz o (.dK (aL [] (bH "came" rs as rs.length))))) cd=some (.frz o (.dK (aL [] (bH "came" rs as rs.length)))):=aA
   have nc4:cd≠p4:=aD gF hp4
   refine⟨cd,_,o,⟨_,gcda⟩,aN gF hp4,?_⟩
   have sb:=qU gcda (aG (o:=.lst ((cC rs).map fun n:Nat=>V.int ((n:Int)+1))) hp4)
   have g4:(aI (aI (aI Ha cd (.frz o (.dK (aL [] (bH "came" rs as rs.length))))) p4 (.lst ((cC rs).map fun n:Nat=>V.int ((n:Int)+1)))) cd (.dK (aL [] (bH "came" rs as rs.length)))) p4=some (.lst ((cC rs).map fun n:Nat=>V.int ((n:Int)+1))):=by rw[aE nc4.symm];exact aA
   generalize aI (aI (aI Ha cd (.frz o (.dK (aL [] (bH "came" rs as rs.length))))) p4 (.lst ((cC rs).map fun n:Nat=>V.int ((n:Int)+1)))) cd (.dK (aL [] (bH "came" rs as rs.length)))=Hb at sb g4
   refine⟨_,_,sb _ _ g3,g4,by unfold nI;rw[aR];exact fO (by simp;omega),fun p5 hp5=>?_⟩
   refine⟨p5,Ez rs,rfl,SqL.of (by rw[aA];unfold Ez nI;simp [dW,List.map_map] <;> rfl),by unfold Ez;simp,fun m1 hm1 hall1=>?_⟩
   have sc:=((sa.trans sb).trans (aG (o:=.lst ((.int 1::nI (bV rs))++(cC rs).map fun n:Nat=>V.int ((n:Int)+1))) hp5))
   generalize aI Hb p5 (.lst ((.int 1::nI (bV rs))++(cC rs).map fun n:Nat=>V.int ((n:Int)+1)))=Hc at sc
   refine⟨cP rfl,fun p6 hp6=>?_⟩
   have sd:=sc.trans (aG (o:=.lst [.int 0]) hp6)
   have g6:(aI Hc p6 (.lst [.int 0])) p6=some (.lst [.int 0]):=aA
   generalize aI Hc p6 (.lst [.int 0])=Hd at sd g6;refine⟨ra,rfl,⟨_,SqL.of (R8.same sd).lst⟩,zZ (R8.same sd) Zo fun He se p7 hp7=>?_⟩
   have tle:(dG rs).length<=rs.length:=List.length_filterMap_le _ _
   refine⟨_,_,aN (se _ _ g6) hp7,aA,by unfold nI;rw[aR];exact fO (by simp;omega),fun p8 hp8=>?_⟩
   refine⟨p8,Fa rs,rfl,SqL.of (by rw[aA];unfold Fa nI;simp [List.map_map] <;> rfl),by unfold Fa;simp,fun m2 hm2 hall2=>⟨aM rfl,fun tp Hf sf gf=>?_⟩⟩
   have sg:=((sd.trans se).trans ((aG (o:=.lst (nI (dG rs))) hp7).trans (aG (o:=.lst ([.int 0]++nI (dG rs))) hp8))).trans sf
   exact q prs ho tp bl zs _ _ _ _ Hf gf fbl0 ((s68.trans sg) _ _ gb) (fun z hzz=>(s68.trans sg) _ _ (hz z hzz)) ez ln ((sH.trans s4).trans (s48.trans sg))
end
end KL
namespace KL
open PySem L2
section
variable {P:Program} {w:World} {K:W.Frag} {mg:Str->Option Value} {base:Heap}
def oV:Sp:=fun vs H Q _=>∃(bk t c:Addr) (prs:List (Str × Int)) (x:Dd) (y:An),vs=[.ref bk,.ref t,.ref c]/\H bk=some (.dK (gY prs))/\prs.length<=900/\H t=some (.tup x.vs)/\H c=some (.tup y.vs)/\An.Of x y ∧
 ∀(H':Hp),H' bk=some (.dK (gY (gS prs (hI x y))))->K1 bk H H'->Q .non H'
theorem uU (T:Txt K mg) (cLchanges:aH P w K mg base 1 "_law_changes" ["_law_deed_here","_law_answer_here"] gO)
  (D:DefAt K mg "_law_changed" cO ["_law_book","_law_deed_here","_law_answer_here"]):aH P w K mg base 2 "_law_changed" ["_law_book","_law_deed_here","_law_answer_here"] oV:=by
 refine D.go bR (fun vs H Q E h=>?_) (fun f cdv A outer s H vs Q E hr h=>?_)
 ·obtain⟨bk,t,c,prs,x,y,rfl,_⟩:=h;rfl
 ·obtain⟨bk,t,c,prs,x,y,rfl,gb,hl,gt,gc,hy,q⟩:=h
  have hu1:=eY hr
  have hLchanges:=hr
  refine⟨_,(R.af (R.bh PassesOwn.never rfl (R.ax (K:=K) (R.fn cLchanges hLchanges rfl (R.U (R.v 1) (R.U (R.v 2) R.ac)))) (R.dq (K:=K) (n:=2) rfl (R.bz (R.gn (i:=3) bR.nd) (R.bz (R.gn (i:=4) bR.nd) R.dt))) (R.af (R.bq (R.op R.aq (R.bv hu1 (R.v 0) (R.v 3) R.aa) (R.v 4)) (R.br (R.v 0) (R.v 3) (R.cv hu1)))))),?_⟩
  refine⟨t,c,x,y,rfl,gt,gc,hy,fun l ps H1 fl g1 pp s1=>⟨l,rfl,⟨_,SqL.of g1⟩,?_⟩⟩
  have hbl:bk≠l:=aD gb fl
  have h2:=jZ x y
  have hpl:(hI x y).length=ps.length:=pp.length
  refine cA (aS K l (ps.map V.ref)) (fun i σ' H'=>∃(o3 o4:Option V),σ'=[some (.ref bk),some (.ref t),some (.ref c),o3,o4]/\H' bk=some (.dK (gY (gS prs ((hI x y).take i))))/\K1 bk H1 H'/\H' l=some (.lst (ps.map V.ref))) (fun i σ' H' ⟨_,_,_,_,_,e⟩=>SqL.of e)
   ⟨_,_,rfl,s1 _ _ gb,(fun _ _ e _=>e),g1⟩ ?_ ?_
  ·rintro i v σ' H2 hv ⟨o3,o4,rfl,gb2,k2,gl2⟩
   rw[fS]at hv;cases hp:ps[i]? with
   | none=>rw[hp]at hv;cases hv
   | some p=>
    rw[hp]at hv;cases hv
    obtain⟨hi,ei⟩:=Zgs.mp hp
    obtain⟨hi',pv⟩:=Paired.get' (j:=i) pp hi
    rw[ei]at pv;have hcc:(hI x y)[i]?=some (hI x y)[i]:=iJ hi'
    generalize (hI x y)[i]=cc at pv hcc;obtain⟨z,by_⟩:=cc
    have pv':H1 p=some (.tup [.str z,.int by_]):=pv
    have gp2:=k2 _ _ pv' (fun e=>by rw[e,s1 _ _ gb]at pv';cases pv')
    refine⟨p,_,rfl,SqT.of gp2,rfl,_,_,rfl,_,_,rfl,rfl,?_⟩
    refine⟨bk,rfl,wF gb2,_,DGet.k (k:=Sum.inr z) gb2,?_⟩
    rw[rR];have lc:=kC ((hI x y).take i) prs
    have lt:=List.length_take_le i (hI x y)
    refine⟨bk,_,rfl,DPut.k (k:=Sum.inr z) gb2 (by unfold gY;rw[aR];exact kI (m:=1000) Zo Zd),?_⟩
    refine⟨_,_,rfl,?_,fun c' o' e' n'=>?_,?_⟩
    ·rw[aA,uN,aP hcc,lD]
    ·rw[aE n'];exact k2 _ _ e' n'
    ·rw[aE hbl.symm];exact gl2
  ·rintro σ' H2 ⟨o3,o4,rfl,gb2,k2,gl2⟩
   rw[aR,<- hpl,jD (bC _)]at gb2;exact q H2 gb2 (fun c' o' e' n'=>k2 _ _ (s1 _ _ e') n')
theorem uV {rs:List RX} (h:RX.Whole rs):∀ {i n t:Nat} {y:An},rs[i]?=some (.done n t y)->∃t0 p k x,RX.came n t0 p k x∈rs.take i/\An.Of x y:=by
 induction h with
 | nil=>intro i n t y e;simp at e
 | @snoc rs r hw hf ih=>
  intro i n t y e;rcases Ej e with⟨hi,e1⟩ | ⟨hi,e1⟩
  ·obtain⟨t0,p,k,x,h1,h2⟩:=ih e1
   exact⟨t0,p,k,x,by rw[List.take_append_of_le_length Zo];exact h1,h2⟩
  ·subst hi;rw[<- e1]at hf;obtain⟨_,_,t0,p,k,x,h2,h3,_⟩:=hf
   exact⟨t0,p,k,x,by rw[List.take_append_of_le_length (bC _),jD (bC _)];exact h2,h3⟩
end
end KL
namespace KL
open PySem L2
section
variable {P:Program} {w:World} {K:W.Frag} {mg:Str->Option Value} {base:Heap}
def yG:Sp:=fun vs H Q _=>∃(ra:Addr) (rs:List RX) (as:List Addr),vs=[.ref ra]/\RxsAt H ra rs as/\rs.length<=43/\RX.Whole rs ∧
 (∀prs,gV rs=.inr prs->∀(l:Addr) (zs:List Z) (H':Hp),H' l=some (.lst (cN zs))->ZAt H' zs->zs.map (·.2)=fJ prs->Same H H'->Q (.ref l) H') ∧
 (∀n,gV rs=.inl n->∀H',Same H H'->Q (.str n) H')
theorem Ff (T:Txt K mg) (cLchanges:aH P w K mg base 1 "_law_changes" ["_law_deed_here","_law_answer_here"] gO) (cLchanged:aH P w K mg base 2 "_law_changed" ["_law_book","_law_deed_here","_law_answer_here"] oV)
  (D:DefAt K mg "_law_due" eI ["_law_rows"]):aH P w K mg base 3 "_law_due" ["_law_rows"] yG:=by
 refine D.go dF (fun vs H Q E h=>?_) (fun f cdv A outer s H vs Q E hr h=>?_)
 ·obtain⟨ra,rs,as,rfl,_⟩:=h;rfl
 ·obtain⟨ra,rs,as,rfl,RR,hl,hw,q,q2⟩:=h
  have hu1:=eY hr
  have hLchanges:Room 1 _:=hr.mono Zd
  have hLchanged:Room 2 _:=hr
  have le:=RR.len
  have hct:=qM hw
  refine⟨_,(R.ad (R.ah (i:=1) dF.nd (R.bo (R.dy (K:=K) rfl) rfl T.b_dict rN (R.U (R.bb rfl (js:=[none]) (N:=["_law_row"]) (CompScope.by (aB eI) ["_law_rows","_law_book","_law_deeds","_law_row","_law_name","_law_by"] rfl rfl Zk) (aT rfl) (R.ax (K:=K) (R.v 0)) (fun C s₂ H₂ fp=>⟨(R.gn (i:=0) (show(["_law_row"]:List Str).Nodup by decide +kernel)),(R.be (R.ai R.eq (R.ix (R.ag (K:=K)) (R.v 0) R.aa) R.ae)),(R.al (R.U (R.ix (R.ag (K:=K)) (R.v 0) R.aa) (R.U (R.ix (R.ag (K:=K)) (R.v 0) R.aa) R.ac)))⟩)) R.ac))) (R.ad (R.ah (i:=2) dF.nd R.fm) (R.ad (R.bh PassesOwn.never rfl (R.ax (K:=K) (R.v 0)) (R.gn (i:=3) dF.nd) (R.ad (R.ar (R.ai R.eq (R.ix (R.ag (K:=K)) (R.v 3) R.aa) R.ae) (R.af (R.bq (R.ix (R.ag (K:=K)) (R.v 3) R.aa) (R.br (R.v 2) (R.ix (R.ag (K:=K)) (R.v 3) R.aa) (R.cv hu1)))) R.av) (R.af (R.ar (R.ai R.eq (R.ix (R.ag (K:=K)) (R.v 3) R.aa) R.ae) (R.ad (R.bh PassesOwn.never rfl (R.ax (K:=K) (R.fn cLchanges hLchanges rfl (R.U (R.bt hu1 (R.v 2) (R.ix (R.ag (K:=K)) (R.v 3) R.aa)) (R.U (R.ix (R.ag (K:=K)) (R.v 3) R.aa) R.ac)))) (R.dq (K:=K) (n:=2) rfl (R.bz (R.gn (i:=4) dF.nd) (R.bz (R.gn (i:=5) dF.nd) R.dt))) (R.af (R.ar (R.cq (R.ig R.le R.le R.aa (R.op R.aq (R.bv hu1 (R.v 1) (R.v 4) R.aa) (R.v 5)) (R.op R.bg R.aa R.aa))) (R.af (R.am (R.v 4))) R.av))) (R.af (R.az (R.fn cLchanged hLchanged rfl (R.U (R.v 1) (R.U (R.bt hu1 (R.v 2) (R.ix (R.ag (K:=K)) (R.v 3) R.aa)) (R.U (R.ix (R.ag (K:=K)) (R.v 3) R.aa) R.ac))))))) R.av)))) (R.af (R.am (R.bb rfl (js:=[none,some 1]) (N:=["_law_name","_law_book"]) (CompScope.by (aB eI) ["_law_rows","_law_book","_law_deeds","_law_row","_law_name","_law_by"] rfl rfl Zk) (aT rfl) (R.ax (K:=K) (R.aw (R.ee rfl) rfl T.b_sorted kP (R.U (R.v 1) R.ac))) (fun C s₂ H₂ fp=>⟨(R.gn (i:=0) (show(["_law_name","_law_book"]:List Str).Nodup by decide +kernel)),(R.be (R.ai R.gt (R.bt hu1 (R.v 1) (R.v 0)) R.aa)),(R.al (R.U (R.v 0) (R.U (R.bt hu1 (R.v 1) (R.v 0)) R.ac)))⟩))))))),?_⟩
  refine bF (fun σ' H'=>∃(bk:Addr),σ'=[some (.ref ra),some (.ref bk),none,none,none,none]/\H bk=none/\H' bk=some (.dK (gY (eW rs)))/\Same H H') (fun nx hnx=>?_) ?_
  ·refine⟨ra,rfl,⟨_,SqL.of RR.lst⟩,?_⟩
   refine aZ (aS K ra (as.map V.ref)) (by rw[aR];omega) (fun i ys H'=>∃zs:List W,ys=zs.map (fun z=>V.ref z.1)/\Pj H' zs/\zs.map (·.2)=fH (rs.take i)/\Same H H'/\zs.length<=i) (fun i ys H' ⟨zs,e,_,_,s',l'⟩=>⟨SqL.of (s' _ _ RR.lst),by rw[e,aR];exact l'⟩) ⟨[],rfl,(fun _ h=>nomatch h),rfl,(fun _ _ e=>e),bC _⟩ (fun i x ys H' hx ⟨zs,e,hw',ez,s',l'⟩=>?_) (fun ys H' ⟨zs,e,hw',ez,s',l'⟩=>?_)
   ·obtain⟨a,r,rfl,ha,hrr,hat⟩:=(RR.same s').get hx
    obtain⟨xs,g,x0,x1,x2⟩:=eT hat
    have etk:=aP hrr
    dsimp only [aJ];refine⟨_,SqT.of g,_,x0,?_⟩
    show if decide (cG r="has")=true then _ else _
    refine bQ (fun h=>?_) (fun h=>?_)
    ·obtain⟨z,m,rfl⟩:=wJ (of_decide_eq_true h)
     refine⟨_,SqT.of g,_,x1,_,SqT.of g,_,x2 (fun z=>nomatch z),aM rfl,fun tp H2 s2 g2=>?_⟩
     refine⟨zs++[(tp,(Sum.inr z,.int (m:Int)))],by rw[e,dW];rfl,fun y hy=>?_,?_,s'.trans s2,by simp;omega⟩
     ·rcases aF hy with hy | rfl
      ·exact s2 _ _ (hw' y hy)
      ·exact g2
     ·rw[dW,ez,etk,gP];rfl
    ·refine⟨zs,e,hw',?_,s',Zo⟩
     rw[ez,etk,gP,qK (of_decide_eq_false h),List.append_nil]
   ·intro p hp;have gp:(aI H' p (.lst ys)) p=some (.lst (zs.map fun z=>V.ref z.1)):=by rw[aA,e]
    have s1:Same H (aI H' p (.lst ys)):=s'.trans (aG hp)
    have hw1:Pj (aI H' p (.lst ys)) zs:=fun z hz=>aN (hw' z hz) hp
    generalize aI H' p (.lst ys)=H1 at gp s1 hw1;rw[aR]at l';refine⟨zs,SqL.of gp,hw1,Zo,fun bk hbk=>?_⟩
    refine hnx _ _ ⟨bk,rfl,s1.free hbk,?_,s1.trans (aG hbk)⟩
    rw[aA,ez,aR,<- le,jD (bC _),lF,qB (mV hw)]
  rintro σ' H1 ⟨bk,rfl,fbk,gbk,s1⟩
  refine fun dd hdd=>?_
  have fdd:=s1.free hdd
  have nbd:bk≠dd:=aD gbk hdd
  have s2:=s1.trans (aG (o:=.dK []) hdd)
  have gdd:(aI H1 dd (.dK [])) dd=some (.dK []):=aA
  replace gbk:=aN (u:=.dK []) gbk hdd
  dsimp only [aJ];generalize aI H1 dd (.dK [])=H2 at s2 gdd gbk;refine bF (fun σ' H'=>∃(prs:List (Str × Int)) (o2 o3 o4 o5:Option V),σ'=[some (.ref ra),some (.ref bk),o2,o3,o4,o5]/\H' bk=some (.dK (gY prs))/\(prs.map (·.1)).Nodup/\gV rs=.inr prs/\prs.length<64/\Same H H') (fun nx hnx=>?_) ?_
  ·refine⟨ra,rfl,⟨_,SqL.of (s2 _ _ RR.lst)⟩,cA (aS K ra (as.map V.ref)) (fun i σ' H'=>∃(prs:List (Str × Int)) (kvs:List (bB × V)) (o3 o4 o5:Option V),σ'=[some (.ref ra),some (.ref bk),some (.ref dd),o3,o4,o5]/\H' bk=some (.dK (gY prs))/\(prs.map (·.1)).Nodup/\mE rs (rs.drop i) prs=gV rs/\prs.length<=(fH rs).length+2*(eV (rs.take i)).length/\H' dd=some (.dK kvs)/\kvs.length<=i/\(∀(n t:Nat) (p k:Str) (x:Dd),.came n t p k x∈rs.take i->∃b,bN kvs (Sum.inl (n:Int))=some (.ref b)/\H b=some (.tup x.vs))/\Same H H') (fun i σ' H' ⟨_,_,_,_,_,_,_,_,_,_,_,_,_,s'⟩=>SqL.of (s' _ _ RR.lst))
    ⟨eW rs,[],_,_,_,rfl,gbk,mV hw,rfl,by rw[uO];omega,gdd,bC _,(fun _ _ _ _ _ h=>nomatch h),s2⟩ ?_ ?_⟩
   ·rintro i x σ' H3 hx ⟨prs,kvs,o3,o4,o5,rfl,gb3,nd3,am3,ln3,gd3,lk3,dc3,s3⟩
    obtain⟨a,r,rfl,ha,hrr,hat⟩:=(RR.same s3).get hx
    obtain⟨_,_,e0,_,hrr0,hat0⟩:=RR.get hx
    rw[hrr]at hrr0;cases hrr0
    cases e0
    have hil:i<rs.length:=(Zgs.mp hrr).1
    obtain⟨xs,g,x0,x1,x2⟩:=eT hat
    have etk:=aP hrr
    rw[yF hrr]at am3;dsimp only [aJ];refine bF (fun σ' H'=>∃(kvs':List (bB × V)),σ'=[some (.ref ra),some (.ref bk),some (.ref dd),some (.ref a),o4,o5]/\H' bk=some (.dK (gY prs))/\H' dd=some (.dK kvs')/\kvs'.length<=i+1/\(∀(n t:Nat) (p k:Str) (x:Dd),.came n t p k x∈rs.take (i+1)->∃b,bN kvs' (Sum.inl (n:Int))=some (.ref b)/\H b=some (.tup x.vs))/\Same H H') (fun nx' hnx'=>?_) ?_
    ·refine⟨_,SqT.of g,_,x0,?_⟩
     show if decide (cG r="came")=true then _ else _
     refine bQ (fun h=>?_) (fun h=>?_)
     ·obtain⟨n,t,p,k,x,rfl⟩:=mQ (of_decide_eq_true h)
      obtain⟨b,h1,h2⟩:=hat0
      have h1':=s3 _ _ h1
      refine⟨_,SqT.of h1',_,rfl,_,SqT.of h1',_,rfl,dd,_,rfl,DPut.k (k:=Sum.inl (n:Int)) gd3 (kI (m:=1000) Zo Zd),?_⟩
      refine hnx' _ _ ⟨_,rfl,by rw[aE nbd];exact gb3,aA,hU (cD _ _ _) Zo,fun n' t' p' k' x' hm=>?_,eJ fdd s3⟩
      rw[fN];by_cases en:n'=n
      ·subst en;rw[if_pos rfl];have:=lB hw (List.mem_of_mem_take hm) (fT hrr)
       injection this with _ _ _ _ e5
       subst e5;exact⟨b,rfl,h2⟩
      ·rw[if_neg (fun z=>en (by have:=Sum.inl.inj z;omega))]
       rw[etk]at hm;rcases aF hm with hm | hm
       ·exact dc3 _ _ _ _ _ hm
       ·cases hm;exact absurd rfl en
     ·refine hnx' _ _ ⟨kvs,rfl,gb3,gd3,Zo,fun n' t' p' k' x' hm=>?_,s3⟩
      rw[etk]at hm;rcases aF hm with hm | hm
      ·exact dc3 _ _ _ _ _ hm
      ·subst hm;exact absurd rfl (of_decide_eq_false h)
    rintro σ' H4 ⟨kvs',rfl,gb4,gd4,lk4,dc4,s4⟩
    obtain⟨xs',g',x0',x1',x2'⟩:=eT (hat0.tk s4.tk)
    refine⟨_,SqT.of g',_,x0',?_⟩
    show if decide (cG r="done")=true then _ else _
    refine bQ (fun h=>?_) (fun h=>?_)
    ·obtain⟨n,t,y,rfl⟩:=sM (of_decide_eq_true h)
     obtain⟨cy,gr0,gy0⟩:=hat0
     obtain⟨t0,pp,kk,xd,hcm,hof⟩:=uV hw hrr
     have hcm':=List.mem_of_mem_take hcm
     have ech:uP rs (.done n t y)=hI xd y:=by
      show(match gU rs n with | some (_,_,x)=>hI x y | none=>[])=_
      rw[lG hw hcm']
     obtain⟨cb,hv,gcb⟩:=dc4 n t0 pp kk xd (by rw[etk];exact List.mem_append_left _ hcm)
     have dg':∀ {H':Hp},H' dd=some (.dK kvs')->DGet H' dd (.int (n:Int)) (some (.ref cb)):=fun gd=>by rw[<- hv];exact DGet.k (k:=Sum.inl (n:Int)) gd
     refine bF (fun σ' H'=>∃(o4 o5:Option V),σ'=[some (.ref ra),some (.ref bk),some (.ref dd),some (.ref a),o4,o5]/\(∀qc∈hI xd y,jC prs qc)/\Same H4 H') (fun nx' hnx'=>?_) ?_
     ·refine⟨_,SqT.of (s4 _ _ gr0),_,rfl,dd,_,rfl,dg' gd4,_,SqT.of (s4 _ _ gr0),_,rfl,cb,cy,xd,y,rfl,s4 _ _ gcb,s4 _ _ gy0,hof,fun l ps H5 fl gl pp5 s5=>⟨l,rfl,⟨_,SqL.of gl⟩,?_⟩⟩
      have hpl:(hI xd y).length=ps.length:=pp5.length
      refine cA (aS K l (ps.map V.ref)) (fun j σ' H'=>∃(o4 o5:Option V),σ'=[some (.ref ra),some (.ref bk),some (.ref dd),some (.ref a),o4,o5]/\(∀qc∈(hI xd y).take j,jC prs qc)/\H'=H5) (fun j σ' H' ⟨_,_,_,_,e⟩=>by rw[e];exact SqL.of gl)
       ⟨_,_,rfl,(fun _ h=>by simp at h),rfl⟩ ?_ ?_
      ·rintro j v σ' H6 hv' ⟨o4',o5',rfl,hg,rfl⟩
       rw[fS]at hv';cases hp:ps[j]? with
       | none=>rw[hp]at hv';cases hv'
       | some pa=>
        rw[hp]at hv';cases hv'
        obtain⟨hj,ej⟩:=Zgs.mp hp
        obtain⟨hj',pv⟩:=Paired.get' (j:=j) pp5 hj
        rw[ej]at pv;have hcc:(hI xd y)[j]?=some (hI xd y)[j]:=iJ hj'
        generalize (hI xd y)[j]=cc at pv hcc;obtain⟨z,by_⟩:=cc
        have pv':H6 pa=some (.tup [.str z,.int by_]):=pv
        have gb6:=s5 _ _ gb4
        refine⟨pa,_,rfl,SqT.of pv',rfl,_,_,rfl,_,_,rfl,rfl,?_⟩
        refine⟨bk,rfl,wF gb6,_,DGet.k (k:=Sum.inr z) gb6,?_⟩
        rw[rR];have bad:¬ jC prs (z,by_)->Q (.str z) H6:=fun hb=>by
         have hbp:kG prs (uP rs (.done n t y))=some z:=by rw[ech];exact qO hg hcc hb
         rw[uQ hbp]at am3;exact q2 z am3.symm H6 (s4.trans s5)
        refine bQ (fun h0=>?_) (fun h=>?_)
        ·refine⟨⟨Zd,Zd,Zd⟩,?_⟩
         refine bQ (fun h=>?_) (fun h=>⟨_,_,rfl,fun qc hq=>?_,rfl⟩)
         ·exact bad fun hg'=>absurd hg'.2 (by simpa using h)
         ·rw[aP hcc]at hq;rcases aF hq with hq | rfl
          ·exact hg qc hq
          ·exact⟨of_decide_eq_true h0,by simpa using h⟩
        ·exact bad fun hg'=>absurd hg'.1 (of_decide_eq_false h)
      ·rintro σ' H6 ⟨o4',o5',rfl,hg,rfl⟩
       rw[aR,<- hpl,jD (bC _)]at hg;exact hnx' _ _ ⟨_,_,rfl,hg,s5⟩
     rintro σ' H5 ⟨o4',o5',rfl,hg,s5⟩
     have s45:=s4.trans s5
     have hbn:kG prs (uP rs (.done n t y))=none:=by rw[ech];exact qN hg
     rw[qT hbn]at am3;have hdt:=oO rs i
     refine⟨_,SqT.of (s45 _ _ gr0),_,rfl,dd,_,rfl,dg' (s5 _ _ gd4),_,SqT.of (s45 _ _ gr0),_,rfl,bk,cb,cy,prs,xd,y,rfl,s5 _ _ gb4,Zo,s45 _ _ gcb,s45 _ _ gy0,hof,fun H6 g6 k6=>?_⟩
     rw[<- ech]at g6;refine⟨_,kvs',_,_,_,rfl,g6,mU _ _ nd3,am3,?_,k6 _ _ (s5 _ _ gd4) nbd.symm,lk4,dc4,fun c o e=>k6 _ _ (s45 _ _ e) (aD e fbk)⟩
     rw[ech];have h1:=kC (hI xd y) prs
     have h2:=jZ xd y
     rw[etk,gT,pN];show _<=_+2*(_+1)
     omega
    ·rw[qS (of_decide_eq_false h)]at am3;refine⟨prs,kvs',_,_,_,rfl,gb4,nd3,am3,?_,gd4,lk4,dc4,s4⟩
     rw[etk,gT,pN];omega
   ·rintro σ' H3 ⟨prs,kvs,o3,o4,o5,rfl,gb3,nd3,am3,ln3,gd3,lk3,dc3,s3⟩
    rw[aR,<- le]at am3 ln3;rw[jD (bC _)]at ln3;rw[List.drop_of_length_le (bC _)]at am3;exact hnx _ _ ⟨prs,_,_,_,_,rfl,gb3,nd3,am3.symm,Zo,s3⟩
  rintro σ' H3 ⟨prs,o2,o3,o4,o5,rfl,gb3,nd3,ho,lp,s3⟩
  refine⟨prs.map (·.1),_,.inl gb3,jT prs,by rw[aR];exact lp,fun l hl3=>⟨l,rfl,⟨_,SqL.of aA⟩,?_⟩⟩
  have s4:Same H3 (aI H3 l (.lst ((gX (prs.map (·.1))).map V.str))):=aG hl3
  have g4:(aI H3 l (.lst ((gX (prs.map (·.1))).map V.str))) l=some (.lst ((gX (prs.map (·.1))).map V.str)):=aA
  generalize aI H3 l (.lst ((gX (prs.map (·.1))).map V.str))=H4 at s4 g4;have hlen:(gX (prs.map (·.1))).length<64:=by rw[fX,aR];exact lp
  refine aZ (aS K l ((gX (prs.map (·.1))).map V.str)) (by rw[aR];omega) (fun i ys H'=>∃zs:List Z,ys=cN zs/\Same H4 H'/\ZAt H' zs/\zs.length<=i/\zs.map (·.2)=(((gX (prs.map (·.1))).take i).filter fun n=>decide (0<pA prs n)).map fun n=>(n,pA prs n))
   (fun i ys H' ⟨zs,e,s',_,hl',_⟩=>⟨SqL.of (s' _ _ g4),by rw[e];unfold cN;rw[aR];exact hl'⟩) ⟨[],rfl,Same.refl _,(fun _ h=>nomatch h),bC _,rfl⟩ (fun i x ys H' hx ⟨zs,e,s',hza,hzl,hzm⟩=>?_) (fun ys H' ⟨zs,e,s',hza,hzl,hzm⟩=>?_)
  ·rw[fS]at hx;cases hn:(gX (prs.map (·.1)))[i]? with
   | none=>rw[hn]at hx;cases hx
   | some n=>
    rw[hn]at hx;cases hx
    have hmem:n∈prs.map (·.1):=(fQ _).mem_iff.mp (fT hn)
    obtain⟨a,ha⟩:=fY hmem
    have ea:pA prs n=a:=by unfold pA;rw[ha];rfl
    have gd:DGet H' bk (.str n) (some (.int a)):=by
     have:=DGet.k (k:=Sum.inr n) (s' _ _ (s4 _ _ gb3))
     rw[jU,ha]at this;exact this
    refine⟨bk,_,rfl,gd,?_⟩
    refine bQ (fun hb=>?_) (fun hb=>?_)
    ·have hb':0<a:=by simpa using hb
     refine⟨bk,_,rfl,gd,aM rfl,fun t H5 s5 g5=>⟨zs++[(t,n,a)],by rw[e];unfold cN;rw[dW];rfl,s'.trans s5,?_,by rw[pN];simpa using hzl,?_⟩⟩
     ·intro z hz';rcases aF hz' with m | rfl
      ·exact(hza.same s5) z m
      ·exact g5
     ·rw[dW,hzm,aP hn,List.filter_append,dW];congr 1
      rw[List.filter_cons,if_pos (by rw[ea];exact decide_eq_true hb')]
      rw[<- ea];rfl
    ·have hb':¬ 0<a:=by simpa using hb
     refine⟨zs,e,s',hza,Zo,?_⟩
     rw[hzm,aP hn,List.filter_append,List.filter_cons,if_neg (by rw[ea];simpa using hb')]
     simp
  ·intro l2 hl2;subst e;refine q prs ho l2 zs _ aA (hza.same (aG hl2)) ?_ (s3.trans (s4.trans (s'.trans (aG hl2))))
   rw[hzm,aR,List.take_length];rfl
end
end KL
namespace KL
open PySem L2
section
variable {P:Program} {w:World} {K:W.Frag} {mg:Str->Option Value} {base:Heap}
structure wO (K:W.Frag) (mg:Str->Option Value) (CN CD a1 a2 a3 a4 a5 a6:Addr):Prop where
 mC:mg "NoChange"=some (.ref CN)
 mD:mg "DoorError"=some (.ref CD)
 m1:mg "NoRows"=some (.ref a1)
 m2:mg "NoJournal"=some (.ref a2)
 m3:mg "NoDeed"=some (.ref a3)
 m4:mg "NoRow"=some (.ref a4)
 m5:mg "Other"=some (.ref a5)
 m6:mg "NoName"=some (.ref a6)
 xm:W.exmOne K (.ref CN) (.ref CN)=some true
 xk:lS K CN
 k1:W.kitOne K (.ref CN) (.ref a1)=some false
 k2:W.kitOne K (.ref CN) (.ref a2)=some false
 k3:W.kitOne K (.ref CN) (.ref a3)=some false
 k4:W.kitOne K (.ref CN) (.ref a4)=some false
 k5:W.kitOne K (.ref CN) (.ref a5)=some false
 k6:W.kitOne K (.ref CN) (.ref a6)=some false
 kD:W.kitOne K (.ref CN) (.ref CD)=some true
 kV:W.kitOne K (.ref CN) (.type "ValueError")=some true
 hd:W.hasDictIn K CN=true
 nu:W.findIn K (.ref CN) "name"=some none
def Ss (CN:Addr):Sp:=fun vs H Q _=>∃(e dx:Addr),vs=[.ref e]/\H e=some (.ext (pB e (.ref CN) (some dx)))/\∀H',Same H H'->Q (.bl false) H'
theorem pM {CN CD a1 a2 a3 a4 a5 a6:Addr} (T:Txt K mg) (M:wO K mg CN CD a1 a2 a3 a4 a5 a6) (D:DefAt K mg "_law_other_word" cI ["_law_error"]):aH P w K mg base 1 "_law_other_word" ["_law_error"] (Ss CN):=by
 have M_NoRows:=M.m1
 have M_NoJournal:=M.m2
 have M_NoDeed:=M.m3
 have M_NoRow:=M.m4
 have M_Other:=M.m5
 have M_NoName:=M.m6
 have M_DoorError:=M.mD
 refine D.go dB (fun vs H Q E h=>?_) (fun f cdv A outer s H vs Q E hr h=>?_)
 ·obtain⟨e,dx,rfl,_⟩:=h;rfl
 ·obtain⟨e,dx,rfl,ge,q⟩:=h
  refine⟨_,(R.ad (R.ah (i:=1) dB.nd (R.au (R.U (R.aw (R.db (K:=K)) rfl T.b_isinstance bL (R.U (R.v 0) (R.U (R.gR rfl M_NoRows) R.ac))) (R.U (R.aw (R.db (K:=K)) rfl T.b_isinstance bL (R.U (R.v 0) (R.U (R.gR rfl M_NoJournal) R.ac))) (R.U (R.aw (R.db (K:=K)) rfl T.b_isinstance bL (R.U (R.v 0) (R.U (R.gR rfl M_NoDeed) R.ac))) R.ac))))) (R.ad (R.ah (i:=1) dB.nd (R.op R.bn (R.v 1) (R.au (R.U (R.aw (R.db (K:=K)) rfl T.b_isinstance bL (R.U (R.v 0) (R.U (R.gR rfl M_NoRow) R.ac))) (R.U (R.aw (R.db (K:=K)) rfl T.b_isinstance bL (R.U (R.v 0) (R.U (R.gR rfl M_Other) R.ac))) (R.U (R.aw (R.db (K:=K)) rfl T.b_isinstance bL (R.U (R.v 0) (R.U (R.gR rfl M_NoName) R.ac))) R.ac)))))) (R.af (R.am (R.or (R.cz (R.bd (K:=K)) R.bl (R.v 1)) (R.or (R.ik (R.aw (R.db (K:=K)) rfl T.b_isinstance bL (R.U (R.v 0) (R.U (R.gR rfl M_DoorError) R.ac)))) (R.jd (R.ik (R.aw (R.db (K:=K)) rfl T.b_isinstance bL (R.U (R.v 0) (R.U (R.ft rfl T.b_ValueError pC) R.ac))))))))))),?_⟩
  refine⟨CN,false,_,ge,M.xk,.inr M.k1,CN,false,_,ge,M.xk,.inr M.k2,CN,false,_,ge,M.xk,.inr M.k3,cP rfl,fun l hl=>?_⟩
  have s1:=aG (o:=.lst [.bl false,.bl false,.bl false]) hl
  have g1:(aI H l (.lst [.bl false,.bl false,.bl false])) l=some (.lst [.bl false,.bl false,.bl false]):=aA
  dsimp only [aJ];generalize aI H l (.lst [.bl false,.bl false,.bl false])=H1 at s1 g1;have ge1:=s1 _ _ ge
  refine⟨CN,false,_,ge1,M.xk,.inr M.k4,CN,false,_,ge1,M.xk,.inr M.k5,CN,false,_,ge1,M.xk,.inr M.k6,cP rfl,fun l2 hl2=>?_⟩
  have s2:=aG (o:=.lst [.bl false,.bl false,.bl false]) hl2
  have g2:(aI H1 l2 (.lst [.bl false,.bl false,.bl false])) l2=some (.lst [.bl false,.bl false,.bl false]):=aA
  generalize aI H1 l2 (.lst [.bl false,.bl false,.bl false])=H2 at s2 g2;refine⟨_,_,s2 _ _ g1,g2,cP rfl,fun l3 hl3=>?_⟩
  have s3:=(s1.trans s2).trans (aG (o:=.lst ([.bl false,.bl false,.bl false]++[.bl false,.bl false,.bl false])) hl3)
  have g3:(aI H2 l3 (.lst ([.bl false,.bl false,.bl false]++[.bl false,.bl false,.bl false]))) l3=_:=aA
  dsimp only [aJ];generalize aI H2 l3 (.lst ([.bl false,.bl false,.bl false]++[.bl false,.bl false,.bl false]))=H3 at s3 g3;have ge3:=s3 _ _ ge
  exact⟨l3,_,rfl,.inl (SqL.of g3),rfl,rfl,CN,true,_,ge3,M.xk,.inr M.kD,CN,true,_,ge3,M.xk,M.kV,q _ s3⟩
def uW:Sp:=fun vs H Q _=>∃(ra:Addr) (rs:List RX) (as:List Addr),vs=[.ref ra]/\RxsAt H ra rs as/\rs.length<=43/\RX.Whole rs ∧
 (∀prs,gV rs=.inr prs->∀(l:Addr) (zs:List Z) (H':Hp),H l=none->H' l=some (.lst (cN zs))->ZAt H' zs->zs.map (·.2)=fJ prs->prs.length<64->Same H H'->Q (.ref l) H') ∧
 (∀n,gV rs=.inl n->∀H',Same H H'->Q (.str n) H')
theorem Ac {CN CD a1 a2 a3 a4 a5 a6:Addr} (T:Txt K mg) (M:wO K mg CN CD a1 a2 a3 a4 a5 a6) (c_risen:fZ P w K mg base 5 "risen" ["rows"] (uT CN)) (cLother_word:aH P w K mg base 1 "_law_other_word" ["_law_error"] (Ss CN))
  (D:DefAt K mg "_law_told" gJ ["_law_rows"]):aH P w K mg base 6 "_law_told" ["_law_rows"] uW:=by
 have M_NoChange:=M.mC
 refine D.go cF (fun vs H Q E h=>?_) (fun f cdv A outer s H vs Q E hr h=>?_)
 ·obtain⟨ra,rs,as,rfl,_⟩:=h;rfl
 ·obtain⟨ra,rs,as,rfl,RR,hl,hw,q,q2⟩:=h
  have hr_risen:Room 5 _:=hr
  have hLother_word:Room 1 _:=hr.mono Zd
  refine⟨_,(R.ad (R.ah (i:=1) cF.nd R.cn) (R.ad (R.ah (i:=2) cF.nd R.cn) (R.ad (R.je (K:=K) (i:=3) M_NoChange rfl cF.nd (fun pn Ex=>(R.af (R.ah (i:=1) cF.nd (R.ij c_risen hr_risen rfl rX (R.U (R.v 0) R.ac))))) (fun a=>(R.af (R.ah (i:=2) cF.nd (R.v 3))))) (R.ad (R.ar (R.ai R.fk (R.v 2) R.cn) (R.ad (R.ar (R.tw (R.cf (R.bj (R.fn cLother_word hLother_word rfl (R.U (R.v 2) R.ac))) (R.df (R.cq (R.bj (R.dh .str (R.il (K:=K) (R.v 2)) rfl T.b_isinstance rfl T.b_str Nl)))))) (R.af (R.am R.aa)) R.av) (R.af (R.am (R.il (K:=K) (R.v 2))))) R.av) (R.ad (R.ar (R.tw (R.cf (R.cq (R.bj (R.dh .tup (R.v 1) rfl T.b_isinstance rfl T.b_tuple tJ))) (R.cf (R.ai R.ne (R.aw (R.bc (K:=K)) rfl T.b_len bZ (R.U (R.v 1) R.ac)) R.aa) (R.df (R.cq (R.bj (R.dh .lst (R.ix (R.ag (K:=K)) (R.v 1) R.aa) rfl T.b_isinstance rfl T.b_list mJ))))))) (R.af (R.am R.aa)) R.av) (R.ad (R.bh PassesOwn.never rfl (R.ax (K:=K) (R.ix (R.ag (K:=K)) (R.v 1) R.aa)) (R.gn (i:=4) cF.nd) (R.af (R.ar (R.tw (R.cf (R.cq (R.bj (R.dh .tup (R.v 4) rfl T.b_isinstance rfl T.b_tuple tJ))) (R.cf (R.ai R.ne (R.aw (R.bc (K:=K)) rfl T.b_len bZ (R.U (R.v 4) R.ac)) R.aa) (R.cf (R.bj (R.dh .bl (R.ix (R.ag (K:=K)) (R.v 4) R.aa) rfl T.b_isinstance rfl T.b_bool Hm)) (R.df (R.cq (R.bj (R.dh .int (R.ix (R.ag (K:=K)) (R.v 4) R.aa) rfl T.b_isinstance rfl T.b_int kR)))))))) (R.af (R.am R.aa)) R.av))) (R.af (R.am (R.ix (R.ag (K:=K)) (R.v 1) R.aa))))))))),?_⟩
  refine bF (fun σ' H'=>σ'=[some (.ref ra),some .non,none,none,none]/\H=H') (fun nx hnx=>hnx _ _ ⟨rfl,rfl⟩) ?_
  rintro _ _ ⟨rfl,rfl⟩
  refine bF (fun σ' H'=>σ'=[some (.ref ra),some .non,some .non,none,none]/\H=H') (fun nx hnx=>hnx _ _ ⟨rfl,rfl⟩) ?_
  rintro _ _ ⟨rfl,rfl⟩
  refine bF (fun σ' H'=>(∃(n:Str) (e dx:Addr) (o3 o4:Option V),gV rs=.inl n/\σ'=[some (.ref ra),some .non,some (.ref e),o3,o4]/\H' e=some (.ext (pB e (.ref CN) (some dx)))/\H' dx=some (.xd [("name",.str n)])/\Same H H')∨(∃(prs:List (Str × Int)) (tp bl:Addr) (zs:List Z) (v1 v2 v3 v4:V) (o3 o4:Option V),gV rs=.inr prs/\σ'=[some (.ref ra),some (.ref tp),some .non,o3,o4]/\H' tp=some (.tup [.ref bl,v1,v2,v3,v4])/\H bl=none/\H' bl=some (.lst (cN zs))/\ZAt H' zs/\zs.map (·.2)=fJ prs/\prs.length<64/\Same H H')) (fun nx hnx=>?_) ?_
  ·refine⟨ra,rs,as,rfl,RR,hl,hw,fun prs ho tp bl zs v1 v2 v3 v4 H' g1 f1 g2 hz ez lp s1=>?_,fun n ho dx' G sG gx=>⟨M.xm,fun e he=>?_⟩⟩
   ·exact hnx _ _ (.inr ⟨prs,tp,bl,zs,v1,v2,v3,v4,_,_,ho,rfl,g1,f1,g2,hz,ez,lp,s1⟩)
   ·have s1:=aG (o:=.ext (pB e (.ref CN) (some dx'))) he
    exact hnx _ _ (.inl ⟨n,e,dx',_,_,ho,rfl,aA,s1 _ _ gx,sG.trans s1⟩)
  rintro σ' H1 (⟨n,e,dx,o3,o4,ho,rfl,ge,gx,s1⟩ | ⟨prs,tp,bl,zs,v1,v2,v3,v4,o3,o4,ho,rfl,g1,f1,g2,hz,ez,lp,s1⟩)
  ·have lk1:([(("name":Str),V.str n)]).lookup ("name":Str)=some (.str n):=by rw[List.lookup_cons];simp
   refine⟨e,dx,rfl,ge,fun H2 s2=>?_⟩
   refine⟨e,CN,dx,_,.str n,rfl,s2 _ _ ge,s2 _ _ gx,M.xk,M.hd,M.nu,lk1,.str,trivial,?_⟩
   exact⟨e,CN,dx,_,.str n,rfl,s2 _ _ ge,s2 _ _ gx,M.xk,M.hd,M.nu,lk1,q2 n ho _ (s1.trans s2)⟩
  ·refine⟨.tup,⟨_,g1⟩,_,.inr (SqT.of g1),_,SqT.of g1,_,rfl,.lst,.inl ⟨_,g2⟩,?_⟩
   refine⟨_,SqT.of g1,_,rfl,bl,rfl,⟨_,SqL.of g2⟩,cA (aS K bl (cN zs)) (fun i σ' H'=>∃o4,σ'=[some (.ref ra),some (.ref tp),some .non,o3,o4]/\H1=H') (fun i σ' H' ⟨_,_,e⟩=>by rw[<- e];exact SqL.of g2) ⟨_,rfl,rfl⟩ ?_ ?_⟩
   ·rintro i x σ' H' hx ⟨o4',rfl,rfl⟩
    obtain⟨z,hn,rfl,gz⟩:=sO hz hx
    dsimp only [aJ];refine⟨.tup,⟨_,gz⟩,_,.inr (SqT.of gz),_,SqT.of gz,_,rfl,.int,trivial,_,SqT.of gz,_,rfl,.int,trivial,?_⟩
    exact⟨_,rfl,rfl⟩
   ·rintro σ' H' ⟨o4',rfl,rfl⟩
    exact⟨_,SqT.of g1,_,rfl,q prs ho bl zs _ f1 g2 hz ez lp s1⟩
end
end KL
namespace KL
open PySem L2
section
variable {P:Program} {w:World} {K:W.Frag} {mg:Str->Option Value} {base:Heap}
def yH (K:W.Frag):Sp:=fun vs H Q _=>∃(a:Addr) (ns:List Int),vs=[.ref a]/\SqL K H a (ns.map V.int)/\ns.length<=63/\∀H',Q (.bl true) H'
theorem MenusAt.new {H:Hp} {lm p:Addr} {M:List Addr} (h:MenusAt H lm M) (hp:H p=none):p∉M:=by
 obtain⟨a0,a1,a2,a3,ws,us,ps,ks,rfl,h0,h1,h2,h3,h4,_⟩:=h.ex
 intro hm;simp only [List.mem_cons,List.not_mem_nil,or_false]at hm
 rcases hm with rfl | rfl | rfl | rfl | rfl
 ·rw[h0]at hp;cases hp
 ·rw[h1]at hp;cases hp
 ·rw[h2]at hp;cases hp
 ·rw[h3]at hp;cases hp
 ·rw[h4]at hp;cases hp
def Oz (q:Str × Int):TV:=.tp [.sc (.str q.1),.sc (.int q.2)]
def uX (rs:List RX):TV:=match gV rs with | .inl n=>.sc (.str n) | .inr prs=>.ls ((fJ prs).map Oz)
theorem Pa {rs:List RX} {n:Str} (h:gV rs=.inl n):uX rs=.sc (.str n):=by unfold uX;rw[h]
theorem Pb {rs:List RX} {prs:List (Str × Int)} (h:gV rs=.inr prs):uX rs=.ls ((fJ prs).map Oz):=by unfold uX;rw[h]
theorem lI {H:Hp} {rs:List RX} {n:Str} (h:gV rs=.inl n):Rep H 2 (uX rs) (.str n):=by rw[Pa h];exact .scal rfl
theorem uY {H:Hp}:∀ {zs:List Z},ZAt H zs->Paired (Rep H 1) ((zs.map (·.2)).map Oz) (cN zs)
 | [],_=>.nil
 | z::zs,h=>.cons ⟨z.1,_,rfl,h z iW,.cons ⟨rfl,rfl⟩ (.cons ⟨rfl,rfl⟩ .nil)⟩ (uY fun y hy=>h y (mF _ hy))
theorem lJ {H:Hp} {rs:List RX} {prs:List (Str × Int)} {l:Addr} {zs:List Z} (h:gV rs=.inr prs) (g:H l=some (.lst (cN zs))) (hz:ZAt H zs) (ez:zs.map (·.2)=fJ prs):Rep H 2 (uX rs) (.ref l):=by
 rw[Pb h,<- ez];exact⟨l,_,rfl,g,uY hz⟩
theorem wP (prs:List (Str × Int)):(fJ prs).length<=prs.length:=by
 unfold fJ;rw[aR];refine hU (List.length_filter_le _ _) ?_
 rw[fX,aR];exact bC _
theorem Pc (T:Txt K mg) (cLdeck:aH P w K mg base 1 "_law_deck" ["_law_script"] (Cd K)) (cLmenus:aH P w K mg base 3 "_law_menus" ["_law_deck_here"] uB) (cLdraw:aH P w K mg base 1 "_law_draw" ["_law_deck_here","_law_many"] bD)
  (cLsome_head:aH P w K mg base 6 "_law_some_head" ["_law_deck_here","_law_menus_here"] mM) (cLlived:aH P w K mg base 4 "_law_lived" ["_law_deck_here","_law_rows","_law_menus_here","_law_many"] uH) (cLbody:aH P w K mg base 4 "_law_body" ["_law_deck_here","_law_rows","_law_menus_here","_law_many"] yA)
  (cLdue:aH P w K mg base 3 "_law_due" ["_law_rows"] yG) (cLtold:aH P w K mg base 6 "_law_told" ["_law_rows"] uW)
  {f:Addr} {fd:FuncData} (F:Fun K "law" "law" jW f fd):fW P w K mg base mH 8 f fd ["_law_script"] (yH K):=by
 refine F.go eR (fun vs H Q E h=>?_) (fun cdv A outer s H vs Q E hr h=>?_)
 ·obtain⟨a,ns,rfl,_⟩:=h;rfl
 ·obtain⟨a,ns,rfl,hS,hlen,q⟩:=h
  have hLdeck:Room 1 _:=hr.mono Zd
  have hLmenus:Room 3 _:=hr.mono Zd
  have hLdraw:Room 1 _:=hr.mono Zd
  have hLsome_head:Room 6 _:=hr.mono Zd
  have hLlived:Room 4 _:=hr.mono Zd
  have hLbody:Room 4 _:=hr.mono Zd
  have hLdue:Room 3 _:=hr.mono Zd
  have hLtold:Room 6 _:=hr.mono Zd
  have hu64:=hr.units
  refine⟨_,(R.ad (R.ah (i:=1) eR.nd (R.fn cLdeck hLdeck rfl (R.U (R.v 0) R.ac))) (R.ad (R.ah (i:=2) eR.nd (R.fn cLmenus hLmenus rfl (R.U (R.v 1) R.ac))) (R.ad (R.bh PassesOwn.never rfl (R.de rfl T.b_range (R.U R.aa R.ac)) (R.gn (i:=3) eR.nd) (R.ad (R.ah (i:=4) eR.nd (R.fn cLsome_head hLsome_head rfl (R.U (R.v 1) (R.U (R.v 2) R.ac)))) (R.ad (R.ah (i:=5) eR.nd (R.ix (R.ao (K:=K)) (R.au (R.U (R.fn cLdraw hLdraw rfl (R.U (R.v 1) (R.U R.aa R.ac))) (R.U (R.fn cLdraw hLdraw rfl (R.U (R.v 1) (R.U R.aa R.ac))) R.ac))) (R.fn cLdraw hLdraw rfl (R.U (R.v 1) (R.U R.aa R.ac))))) (R.ad (R.ar (R.ai R.eq (R.fn cLdraw hLdraw rfl (R.U (R.v 1) (R.U R.aa R.ac))) R.aa) (R.af (R.ah (i:=4) eR.nd (R.fn cLbody hLbody rfl (R.U (R.v 1) (R.U (R.v 4) (R.U (R.v 2) (R.U (R.v 5) R.ac))))))) (R.af (R.ah (i:=4) eR.nd (R.fn cLlived hLlived rfl (R.U (R.v 1) (R.U (R.v 4) (R.U (R.v 2) (R.U (R.v 5) R.ac)))))))) (R.ad (R.ah (i:=6) eR.nd (R.bo (R.gv (K:=K)) rfl T.b_list mJ (R.U (R.v 4) R.ac))) (R.ad (R.ah (i:=7) eR.nd (R.fn cLdue hLdue rfl (R.U (R.v 4) R.ac))) (R.ad (R.ah (i:=8) eR.nd (R.fn cLtold hLtold rfl (R.U (R.v 4) R.ac))) (R.ad (R.ar (R.tw (R.cf (R.ai (R.dw hu64) (R.v 8) (R.v 7)) (R.df (R.ai (R.dw hu64) (R.v 4) (R.v 6))))) (R.af (R.am R.bl)) R.av) (R.ad (R.ar (R.bj (R.dh .lst (R.v 8) rfl T.b_isinstance rfl T.b_list mJ)) (R.af (R.az (R.ba (K:=K) PySem.F.plainAttrs_list PySem.F.slot_list_append PySem.F.type_list_append R.bi (R.v 8) (R.U (R.al (R.U R.ae (R.U R.aa R.ac))) R.ac)))) R.av) (R.af (R.ar (R.ai (R.dw hu64) (R.fn cLtold hLtold rfl (R.U (R.v 4) R.ac)) (R.v 7)) (R.af (R.am R.bl)) R.av))))))))))) (R.af (R.am R.bl))))),?_⟩
  refine⟨a,ns,rfl,hS,fun d b H1 nd nb D1 s1=>?_⟩
  dsimp only [aJ];refine⟨d,b,rfl,D1,fun lm M H2 hM oD oB f2=>?_⟩
  dsimp only [aJ];refine bF (fun σ' H'=>True) (fun nx hnx=>?_) ?_
  ·refine⟨3,rfl,Zd,Zd,cA (dC 0 (3:Int).toNat) (fun i σ' H'=>∃(o3 o4 o5 o6 o7 o8:Option V),σ'=[some (.ref a),some (.ref d),some (.ref lm),o3,o4,o5,o6,o7,o8]/\Dk H' d b/\MenusAt H' lm M) (fun _ _ _ _=>trivial) ⟨_,_,_,_,_,_,rfl,f2.dk,hM⟩ ?_ ?_⟩
   ·rintro i x σ' H3 hx ⟨o3,o4,o5,o6,o7,o8,rfl,D3,hM3⟩
    obtain⟨rfl,hi⟩:=kZ hx
    dsimp only [aJ];refine⟨d,b,lm,M,rfl,D3,hM3,oD,oB,fun ra rs as H9 fra R9 hk9 f9=>?_⟩
    have oR:=hM3.new fra
    have nra:=D3.ne fra
    dsimp only [aJ];refine bF (fun σ' H'=>∃(many:Nat),many<=30/\σ'=[some (.ref a),some (.ref d),some (.ref lm),some (.int (i:Int)),some (.ref ra),some (.int (many:Int)),o6,o7,o8]/\Fw d b H9 H') (fun nx' hnx'=>?_) ?_
    ·refine⟨d,b,9,rfl,f9.dk,Zd,Zd,fun m1 Ha z0 z1 Da ea=>⟨d,b,31,rfl,Da,Zd,Zd,fun m2 Hb v0 v1 Db eb=>⟨cP rfl,fun p hp=>⟨d,b,2,rfl,Db.new hp,Zd,Zd,fun m3 Hc w0 w1 Dc ec=>?_⟩⟩⟩⟩
     have hpd:=Db.ne hp
     have gp:=ec p _ aA hpd.1 hpd.2
     obtain⟨m1,rfl⟩:=cV z0
     obtain⟨m2,rfl⟩:=cV v0
     have fc:=(((((Fw.refl f9.dk).draw Da ea).draw Db eb).new (o:=.lst [.int (m1:Int),.int (m2:Int)]) hp).draw Dc ec)
     rcases(by omega:m3=0∨m3=1) with rfl | rfl
     ·exact⟨_,SqL.of gp,_,rfl,hnx' _ _ ⟨m1,Zo,rfl,fc⟩⟩
     ·exact⟨_,SqL.of gp,_,rfl,hnx' _ _ ⟨m2,Zo,rfl,fc⟩⟩
    rintro σ' Hy ⟨many,hm,rfl,fy⟩
    refine bF (fun σ' H'=>∃(rs':List RX) (as':List Addr),σ'=[some (.ref a),some (.ref d),some (.ref lm),some (.int (i:Int)),some (.ref ra),some (.int (many:Int)),o6,o7,o8]/\RxsAt H' ra rs' as'/\RX.Whole rs'/\rs'.length<=43/\Dk H' d b/\MenusAt H' lm M) (fun nx' hnx'=>?_) ?_
    ·refine⟨d,b,3,rfl,fy.dk,Zd,Zd,fun r Hc r0 r1 Dc ec=>?_⟩
     have fc:=fy.draw Dc ec
     have Rc:=R9.keep fc.tk (fc.get R9.lst nra.1 nra.2)
     have hMc:=(f9.trans fc).menus oD oB hM3
     refine bQ (fun _=>?_) (fun _=>?_)
     ·refine⟨d,b,ra,lm,M,rs,as,many,rfl,fc.dk,Rc,hk9,hMc,oD,oB,oR,nra.1,nra.2,hm,fun rs' as' Hd Rd wd okd ld Dd' frd=>?_⟩
      exact hnx' _ _ ⟨rs',as',rfl,Rd,wd,ld,Dd',hMc.keep fun c hc o e=>frd c o e (fun z=>oD (z ▸ hc)) (fun z=>oB (z ▸ hc)) (fun z=>oR (z ▸ hc))⟩
     ·refine⟨d,b,ra,lm,M,rs,as,many,rfl,fc.dk,Rc,hk9,hMc,oD,oB,oR,nra.1,nra.2,hm,fun rs' as' ff Hd Rd wd okd lvd ld Dd' frd=>?_⟩
      exact hnx' _ _ ⟨rs',as',rfl,Rd,wd,ld,Dd',hMc.keep fun c hc o e=>frd c o e (fun z=>oD (z ▸ hc)) (fun z=>oB (z ▸ hc)) (fun z=>oR (z ▸ hc))⟩
    rintro σ' Ha ⟨rs',as',rfl,Ra,wa,la,Da,hMa⟩
    refine⟨_,.inl (SqL.of Ra.lst),fun cp hcp=>?_⟩
    have s1:=aG (o:=.lst (as'.map V.ref)) hcp
    have gcp:(aI Ha cp (.lst (as'.map V.ref))) cp=_:=aA
    dsimp only [aJ];generalize aI Ha cp (.lst (as'.map V.ref))=Hb at s1 gcp;have Rb:=Ra.same s1
    have Cb:RxsAt Hb cp rs' as':=⟨gcp,Rb.each⟩
    refine bF (fun σ' H'=>∃(v:V),σ'=[some (.ref a),some (.ref d),some (.ref lm),some (.int (i:Int)),some (.ref ra),some (.int (many:Int)),some (.ref cp),some v,o8]/\(∀H'',Same H' H''->Rep H'' 2 (uX rs') v)/\Same Hb H') (fun nx' hnx'=>?_) ?_
    ·exact⟨ra,rs',as',rfl,Rb,la,wa,fun prs ho l zs H' g hz ez s'=>hnx' _ _ ⟨.ref l,rfl,fun H'' s''=>lJ ho (s'' _ _ g) (hz.same s'') ez,s'⟩,fun n ho H' s'=>hnx' _ _ ⟨.str n,rfl,fun H'' s''=>lI ho,s'⟩⟩
    rintro σ' Hc ⟨v,rfl,hv,sc⟩
    have Rc:=Rb.same sc
    refine bF (fun σ' H'=>∃(u:V),σ'=[some (.ref a),some (.ref d),some (.ref lm),some (.int (i:Int)),some (.ref ra),some (.int (many:Int)),some (.ref cp),some v,some u]/\(∀H'',Same H' H''->Rep H'' 2 (uX rs') u)/\((∃n,u=.str n)∨∃l xs,u=.ref l/\Hc l=none/\H' l=some (.lst xs)/\xs.length<64)/\Same Hc H') (fun nx' hnx'=>?_) ?_
    ·refine⟨ra,rs',as',rfl,Rc,la,wa,fun prs ho l zs H' fl g hz ez lp s'=>hnx' _ _ ⟨.ref l,rfl,fun H'' s''=>lJ ho (s'' _ _ g) (hz.same s'') ez,.inr ⟨l,_,rfl,fl,g,?_⟩,s'⟩,fun n ho H' s'=>hnx' _ _ ⟨.str n,rfl,fun H'' s''=>lI ho,.inl ⟨n,rfl⟩,s'⟩⟩
     have h1:=congrArg List.length ez
     rw[aR]at h1;have h2:=wP prs
     unfold cN;rw[aR];omega
    rintro σ' Hd ⟨u,rfl,hu',hul,sd⟩
    refine Oh (fun c H'=>c=false/\Same Hd H') (fun k hk=>?_) ?_ ?_
    ·refine⟨2,_,Zd,hu' _ (Same.refl _),hv _ sd,?_⟩
     refine⟨3,_,Zd,(Rc.same sd).rep,(Cb.same (sc.trans sd)).rep,?_⟩
     exact hk _ _ ⟨rfl,Same.refl _⟩
    ·rintro He ⟨h,_⟩
     cases h
    rintro He ⟨_,se⟩
    refine bF (fun σ' H'=>σ'=[some (.ref a),some (.ref d),some (.ref lm),some (.int (i:Int)),some (.ref ra),some (.int (many:Int)),some (.ref cp),some v,some u]/\He=H') (fun nx' hnx'=>hnx' _ _ ⟨rfl,rfl⟩) ?_
    rintro _ _ ⟨rfl,rfl⟩
    refine bF (fun σ' H'=>σ'=[some (.ref a),some (.ref d),some (.ref lm),some (.int (i:Int)),some (.ref ra),some (.int (many:Int)),some (.ref cp),some v,some u]/\Same Hc H') (fun nx' hnx'=>?_) ?_
    ·rcases hul with⟨n,rfl⟩ | ⟨l,xs,rfl,fl,g,lx⟩
     ·exact⟨.str,trivial,hnx' _ _ ⟨rfl,sd.trans se⟩⟩
     ·refine⟨.lst,.inl ⟨_,se _ _ g⟩,?_⟩
      exact⟨.inl ⟨rfl,_,SqL.of (se _ _ g)⟩,aM rfl,fun t1 Hf sf gf=>⟨l,_,_,rfl,rfl,sf _ _ (se _ _ g),Nat.lt_of_lt_of_le lx Zd,hnx' _ _ ⟨rfl,eJ fl ((sd.trans se).trans sf)⟩⟩⟩
    rintro σ' Hf ⟨rfl,sf⟩
    have fin:∀Hg,Same Hf Hg->Dk Hg d b/\MenusAt Hg lm M:=fun Hg sg=>by
     have sZ:=(s1.trans sc).trans (sf.trans sg)
     exact⟨Da.same sZ,hMa.keep fun c _ o e=>sZ c o e⟩
    refine⟨ra,rs',as',rfl,Rc.same sf,la,wa,fun prs ho l zs Hg fl g hz ez lp sg=>?_,fun n ho Hg sg=>?_⟩
    ·refine⟨2,_,Zd,lJ ho g hz ez,hv _ (sf.trans sg),?_⟩
     exact⟨_,_,_,_,_,_,rfl,(fin Hg sg).1,(fin Hg sg).2⟩
    ·refine⟨2,_,Zd,lI ho,hv _ (sf.trans sg),?_⟩
     exact⟨_,_,_,_,_,_,rfl,(fin Hg sg).1,(fin Hg sg).2⟩
   ·rintro σ' H3 _
    exact hnx _ _ trivial
  ·rintro σ' H3 _
   exact q H3
end
end KL
namespace KL
open PySem L2
structure FA (K:W.Frag) (x:Str) (st:Stmt):Prop where
 ex:∃(f:Addr) (od an:Option Addr) (sl:Array (Option Value)) (oc kV dc pm cd ct:Value),W.nsIn K mainGlobals x=some (some (.ref f))/\K.lookup f=some ⟨oc,od,.func (W.fnOf x x (bP st) (aQ st) (aB st) .none kV dc pm an cd ct),sl⟩/\W.codeIn K cd x=true/\W.keepIn K (.ref f)=true
theorem FA.of {K:W.Frag} {x:Str} {st:Stmt} {f:Addr} {od an:Option Addr} {sl:Array (Option Value)} {oc kV dc pm cd ct:Value} (a:W.nsIn K mainGlobals x=some (some (.ref f))) (l:K.lookup f=some ⟨oc,od,.func (W.fnOf x x (bP st) (aQ st) (aB st) .none kV dc pm an cd ct),sl⟩) (c:W.codeIn K cd x=true) (k:W.keepIn K (.ref f)=true):FA K x st:=⟨f,od,an,sl,oc,kV,dc,pm,cd,ct,a,l,c,k⟩
theorem FA.at {K:W.Frag} {x:Str} {st:Stmt} {ps:List Str} {h:Heap} {mg:Str->Option Value} (F:FA K x st) (X:K.In h) (G:h.Ns mainGlobals mg) (hb:∀(kV doc pm:Value) (an:Option Addr) (cdv ct:Value) (us:List Value),us.length=ps.length->bindArgs (W.fnOf x x (bP st) (aQ st) (aB st) .none kV doc pm an cdv ct) ⟨us,[]⟩=pure (ps.zip us)):DefAt K mg x st ps:=by
 obtain⟨f,od,an,sl,oc,kV,dc,pm,cd,ct,a,l,c,k⟩:=F.ex
 exact No X G a l c k hb
structure MA (K:W.Frag) (C:Addr) (m qual:Str) (st:Stmt):Prop where
 ex:∃(f:Addr) (od an:Option Addr) (sl:Array (Option Value)) (oc kV dc pm cd ct:Value),W.findIn K (.ref C) m=some (some (.ref f))/\W.isFn K (.ref f)=true/\K.lookup f=some ⟨oc,od,.func (W.fnOf m qual (bP st) (aQ st) (aB st) .none kV dc pm an cd ct),sl⟩/\W.codeIn K cd qual=true/\W.keepIn K (.ref f)=true
theorem MA.of {K:W.Frag} {C:Addr} {m qual:Str} {st:Stmt} {f:Addr} {od an:Option Addr} {sl:Array (Option Value)} {oc kV dc pm cd ct:Value} (a:W.findIn K (.ref C) m=some (some (.ref f))) (i:W.isFn K (.ref f)=true) (l:K.lookup f=some ⟨oc,od,.func (W.fnOf m qual (bP st) (aQ st) (aB st) .none kV dc pm an cd ct),sl⟩) (c:W.codeIn K cd qual=true) (k:W.keepIn K (.ref f)=true):MA K C m qual st:=⟨f,od,an,sl,oc,kV,dc,pm,cd,ct,a,i,l,c,k⟩
theorem MA.at {K:W.Frag} {C:Addr} {m qual:Str} {st:Stmt} {ps:List Str} (F:MA K C m qual st) (cl:Cls K C) (hb:∀(kV doc pm:Value) (an:Option Addr) (cdv ct:Value) (us:List Value),us.length=ps.length->bindArgs (W.fnOf m qual (bP st) (aQ st) (aB st) .none kV doc pm an cdv ct) ⟨us,[]⟩=pure (ps.zip us)):MethAt K C m qual st ps:=by
 obtain⟨f,od,an,sl,oc,kV,dc,pm,cd,ct,a,i,l,c,k⟩:=F.ex
 exact⟨cl,_,_,jF l c k,⟨a,i,k⟩,(jF (st:=st) l c k).binds hb⟩
theorem Pd {l:W.OpenLaw} {w:World} {K:W.Frag} {h:Heap} {mg:Str->Option Value} {fa f_law:Addr} (X:K.In h) (G:h.Ns mainGlobals mg) (hfa:mg "law"=some (.ref fa))
  {od_law an_law:Option Addr} {sl_law:Array (Option Value)} {oc_law kV_law dc_law pm_law cd_law ct_law:Value}
  (a_done_changes:FA K "done_changes" cY)
  (a_changes_of:FA K "changes_of" dY)
  (a_risen:FA K "risen" dZ)
  (a_by_numbers:FA K "by_numbers" eB)
  (a_first_book:FA K "first_book" cZ)
  (a_risen_book:FA K "risen_book" eC)
  (a_risen_kept:FA K "risen_kept" cH)
  (a_law_deck:FA K "_law_deck" gA)
  (a_law_draw:FA K "_law_draw" gB)
  (a_law_unlike:FA K "_law_unlike" bT)
  (a_law_end:FA K "_law_end" iQ)
  (a_law_deed:FA K "_law_deed" gC)
  (a_law_words:FA K "_law_words" dP)
  (a_law_answer:FA K "_law_answer" eE)
  (a_law_menus:FA K "_law_menus" eZ)
  (a_law_spot:FA K "_law_spot" gE)
  (a_law_kept:FA K "_law_kept" gG)
  (a_law_head:FA K "_law_head" gH)
  (a_law_body:FA K "_law_body" bJ)
  (a_law_early:FA K "_law_early" fA)
  (a_law_lates:FA K "_law_lates" fB)
  (a_law_changes:FA K "_law_changes" dJ)
  (a_law_changed:FA K "_law_changed" cO)
  (a_law_sized:FA K "_law_sized" fE)
  (a_law_right:FA K "_law_right" fF)
  (a_law_lived:FA K "_law_lived" bA)
  (a_law_some_head:FA K "_law_some_head" cQ)
  (a_law_due:FA K "_law_due" eI)
  (a_law_other_word:FA K "_law_other_word" cI)
  (a_law_told:FA K "_law_told" gJ)
  (a_law:W.nsIn K mainGlobals "law"=some (some (.ref f_law))) (l_law:K.lookup f_law=some ⟨oc_law,od_law,.func (W.fnOf "law" "law" (bP jW) (aQ jW) (aB jW) .none kV_law dc_law pm_law an_law cd_law ct_law),sl_law⟩) (c_law:W.codeIn K cd_law "law"=true) (k_law:W.keepIn K (.ref f_law)=true)
  {C_Book:Addr} (aC_Book:W.nsIn K mainGlobals "Book"=some (some (.ref C_Book))) (pg_Book:W.plainGet K C_Book Str.empty=true) (hd_Book:W.hasDictIn K C_Book=true) (po_Book:W.plainOver K C_Book=true) (sa_Book:W.findIn K (.ref C_Book) "__setattr__"=some (some (.builtin "object.__setattr__"))) (mk_Book:W.makesIn K C_Book=true) (kc_Book:W.keepIn K (.ref C_Book)=true)
  (n_Book_amounts:W.findIn K (.ref C_Book) "amounts"=some none)
  {f_Book___init__:Addr} {od_Book___init__ an_Book___init__:Option Addr} {sl_Book___init__:Array (Option Value)} {oc_Book___init__ kV_Book___init__ dc_Book___init__ pm_Book___init__ cd_Book___init__ ct_Book___init__:Value} {T_Book:Addr}
  (a_Book___init__:W.findIn K (.ref C_Book) "__init__"=some (some (.ref f_Book___init__))) (i_Book___init__:W.isFn K (.ref f_Book___init__)=true) (l_Book___init__:K.lookup f_Book___init__=some ⟨oc_Book___init__,od_Book___init__,.func (W.fnOf "__init__" "Book.__init__" (bP bO) (aQ bO) (aB bO) (.ref T_Book) kV_Book___init__ dc_Book___init__ pm_Book___init__ an_Book___init__ cd_Book___init__ ct_Book___init__),sl_Book___init__⟩) (c_Book___init__:W.codeIn K cd_Book___init__ "Book.__init__"=true) (k_Book___init__:W.keepIn K (.ref f_Book___init__)=true)
  (a_Book_amount:MA K C_Book "amount" "Book.amount" dH)
  (a_Book_rows:MA K C_Book "rows" "Book.rows" dO)
  (a_Book_change:MA K C_Book "change" "Book.change" dI)
  {dT_Book:Option Addr} {itsT_Book:List Value} {nT_Book:Nat} {slT_Book:Array (Option Value)} (lT_Book:K.lookup T_Book=some ⟨.type "tuple",dT_Book,.seq (List.toArray itsT_Book) nT_Book,slT_Book⟩) (vT_Book:itsT_Book=[.none])
  {C_DoorError:Addr} (aC_DoorError:W.nsIn K mainGlobals "DoorError"=some (some (.ref C_DoorError)))
  {C_NoChange:Addr} (aC_NoChange:W.nsIn K mainGlobals "NoChange"=some (some (.ref C_NoChange)))
  {C_NoRows:Addr} (aC_NoRows:W.nsIn K mainGlobals "NoRows"=some (some (.ref C_NoRows)))
  {C_NoJournal:Addr} (aC_NoJournal:W.nsIn K mainGlobals "NoJournal"=some (some (.ref C_NoJournal)))
  {C_NoDeed:Addr} (aC_NoDeed:W.nsIn K mainGlobals "NoDeed"=some (some (.ref C_NoDeed)))
  {C_NoRow:Addr} (aC_NoRow:W.nsIn K mainGlobals "NoRow"=some (some (.ref C_NoRow)))
  {C_Other:Addr} (aC_Other:W.nsIn K mainGlobals "Other"=some (some (.ref C_Other)))
  {C_NoName:Addr} (aC_NoName:W.nsIn K mainGlobals "NoName"=some (some (.ref C_NoName)))
  {f_NoChange___init__:Addr} {od_NoChange___init__ an_NoChange___init__:Option Addr} {sl_NoChange___init__:Array (Option Value)} {oc_NoChange___init__ kV_NoChange___init__ dc_NoChange___init__ pm_NoChange___init__ cd_NoChange___init__ ct_NoChange___init__:Value}
  (a_NoChange___init__:W.findIn K (.ref C_NoChange) "__init__"=some (some (.ref f_NoChange___init__))) (i_NoChange___init__:W.isFn K (.ref f_NoChange___init__)=true) (l_NoChange___init__:K.lookup f_NoChange___init__=some ⟨oc_NoChange___init__,od_NoChange___init__,.func (W.fnOf "__init__" "NoChange.__init__" (bP aV) (aQ aV) (aB aV) .none kV_NoChange___init__ dc_NoChange___init__ pm_NoChange___init__ an_NoChange___init__ cd_NoChange___init__ ct_NoChange___init__),sl_NoChange___init__⟩) (c_NoChange___init__:W.codeIn K cd_NoChange___init__ "NoChange.__init__"=true) (k_NoChange___init__:W.keepIn K (.ref f_NoChange___init__)=true)
  (x_ga:W.findIn K (.ref C_NoChange) "__getattribute__"=some (some (.builtin "BaseException.__getattribute__")))
  (x_gx:W.findIn K (.ref C_NoChange) "__getattr__"=some none)
  (x_cl:W.findIn K (.ref C_NoChange) "__class__"=some (some (.builtin "object.__class__")))
  (x_gg:W.specialIn K (.builtin "object.__class__") "__get__"=some (some (.builtin "getset_descriptor.__get__")))
  (x_tk:W.takesIn K (.builtin "object.__class__")=some true)
  (x_mo:W.mroIn K C_NoChange (.type "object")=some true)
  (x_mb:W.mroIn K C_NoChange (.type "BaseException")=some true)
  (x_ci:W.isClsIn K C_NoChange=true)
  (x_kC:W.kitOne K (.ref C_NoChange) (.ref C_NoChange)=some true)
  (x_kV:W.kitOne K (.ref C_NoChange) (.type "ValueError")=some true)
  (x_exc:vZ K C_NoChange f_NoChange___init__ [.type "ValueError",.type "Exception",.type "BaseException",.type "object"] "ValueError.__new__"=true)
  (x_sa:W.findIn K (.ref C_NoChange) "__setattr__"=some (some (.builtin "object.__setattr__")))
  (x_ov:sA K C_NoChange=true)
  (x_ta:W.takerIn K C_NoChange "name"=some none)
  (x_num:W.findIn K (.ref C_NoChange) "name"=some none)
  (x_hd:W.hasDictIn K C_NoChange=true)
  (x_xm:W.exmOne K (.ref C_NoChange) (.ref C_NoChange)=some true)
  (x_kD:W.kitOne K (.ref C_NoChange) (.ref C_DoorError)=some true)
  (x_k_NoRows:W.kitOne K (.ref C_NoChange) (.ref C_NoRows)=some false)
  (x_k_NoJournal:W.kitOne K (.ref C_NoChange) (.ref C_NoJournal)=some false)
  (x_k_NoDeed:W.kitOne K (.ref C_NoChange) (.ref C_NoDeed)=some false)
  (x_k_NoRow:W.kitOne K (.ref C_NoChange) (.ref C_NoRow)=some false)
  (x_k_Other:W.kitOne K (.ref C_NoChange) (.ref C_Other)=some false)
  (x_k_NoName:W.kitOne K (.ref C_NoChange) (.ref C_NoName)=some false)
  (z_ValueError:W.nsIn K mainGlobals "ValueError"=some none)
  (z_isinstance:W.nsIn K mainGlobals "isinstance"=some none)
  (z_int:W.nsIn K mainGlobals "int"=some none)
  (z_bool:W.nsIn K mainGlobals "bool"=some none)
  (z_str:W.nsIn K mainGlobals "str"=some none)
  (z_tuple:W.nsIn K mainGlobals "tuple"=some none)
  (z_len:W.nsIn K mainGlobals "len"=some none)
  (z_sum:W.nsIn K mainGlobals "sum"=some none)
  (z_list:W.nsIn K mainGlobals "list"=some none)
  (z_range:W.nsIn K mainGlobals "range"=some none)
  (z_max:W.nsIn K mainGlobals "max"=some none)
  (z_min:W.nsIn K mainGlobals "min"=some none)
  (z_sorted:W.nsIn K mainGlobals "sorted"=some none)
  (z_dict:W.nsIn K mainGlobals "dict"=some none)
  {t_MOST:Tok} (y_MOST:W.nsIn K mainGlobals "MOST"=some (some (.int (1000000000000) t_MOST)))
  : ∃fd:FuncData,(∀(s:Shared) (v:Value),BindsTo s fd ⟨[v],[]⟩ [("_law_script",v)])/\∀base:Heap,K.In base->base.Ns mainGlobals mg->fW l.prog w K mg base mH 8 fa fd ["_law_script"] (yH K):=by
 have e:=hfa.symm.trans (W.mg_of X G a_law)
 cases e
 have T:Txt K mg:=⟨W.mg_none_of X G z_ValueError,W.mg_none_of X G z_isinstance,W.mg_none_of X G z_int,W.mg_none_of X G z_bool,W.mg_none_of X G z_str,W.mg_none_of X G z_tuple,W.mg_none_of X G z_len,W.mg_none_of X G z_sum,W.mg_none_of X G z_list,W.mg_none_of X G z_range,W.mg_none_of X G z_max,W.mg_none_of X G z_min,W.mg_none_of X G z_sorted,W.mg_none_of X G z_dict,⟨_,W.mg_of X G y_MOST⟩⟩
 have D_done_changes:DefAt K mg "done_changes" cY ["deed"]:=a_done_changes.at X G fun _ _ _ _ _ _ us hl=>match us,hl with | [_],_=>rfl
 have D_changes_of:DefAt K mg "changes_of" dY ["deed","answer"]:=a_changes_of.at X G fun _ _ _ _ _ _ us hl=>match us,hl with | [_,_],_=>rfl
 have D_risen:DefAt K mg "risen" dZ ["rows"]:=a_risen.at X G fun _ _ _ _ _ _ us hl=>match us,hl with | [_],_=>rfl
 have D_by_numbers:DefAt K mg "by_numbers" eB ["rows","word"]:=a_by_numbers.at X G fun _ _ _ _ _ _ us hl=>match us,hl with | [_,_],_=>rfl
 have D_first_book:DefAt K mg "first_book" cZ ["rows"]:=a_first_book.at X G fun _ _ _ _ _ _ us hl=>match us,hl with | [_],_=>rfl
 have D_risen_book:DefAt K mg "risen_book" eC ["rows","came"]:=a_risen_book.at X G fun _ _ _ _ _ _ us hl=>match us,hl with | [_,_],_=>rfl
 have D_risen_kept:DefAt K mg "risen_kept" cH ["rows","came"]:=a_risen_kept.at X G fun _ _ _ _ _ _ us hl=>match us,hl with | [_,_],_=>rfl
 have D_law_deck:DefAt K mg "_law_deck" gA ["_law_script"]:=a_law_deck.at X G fun _ _ _ _ _ _ us hl=>match us,hl with | [_],_=>rfl
 have D_law_draw:DefAt K mg "_law_draw" gB ["_law_deck_here","_law_many"]:=a_law_draw.at X G fun _ _ _ _ _ _ us hl=>match us,hl with | [_,_],_=>rfl
 have D_law_unlike:DefAt K mg "_law_unlike" bT ["_law_deck_here","_law_signs","_law_longest","_law_many"]:=a_law_unlike.at X G fun _ _ _ _ _ _ us hl=>match us,hl with | [_,_,_,_],_=>rfl
 have D_law_end:DefAt K mg "_law_end" iQ ["_law_deck_here","_law_many"]:=a_law_end.at X G fun _ _ _ _ _ _ us hl=>match us,hl with | [_,_],_=>rfl
 have D_law_deed:DefAt K mg "_law_deed" gC ["_law_deck_here","_law_names","_law_houses"]:=a_law_deed.at X G fun _ _ _ _ _ _ us hl=>match us,hl with | [_,_,_],_=>rfl
 have D_law_words:DefAt K mg "_law_words" dP ["_law_deed_here","_law_asked"]:=a_law_words.at X G fun _ _ _ _ _ _ us hl=>match us,hl with | [_,_],_=>rfl
 have D_law_answer:DefAt K mg "_law_answer" eE ["_law_deck_here","_law_deed_here","_law_word"]:=a_law_answer.at X G fun _ _ _ _ _ _ us hl=>match us,hl with | [_,_,_],_=>rfl
 have D_law_menus:DefAt K mg "_law_menus" eZ ["_law_deck_here"]:=a_law_menus.at X G fun _ _ _ _ _ _ us hl=>match us,hl with | [_],_=>rfl
 have D_law_spot:DefAt K mg "_law_spot" gE ["_law_deck_here","_law_menus_here"]:=a_law_spot.at X G fun _ _ _ _ _ _ us hl=>match us,hl with | [_,_],_=>rfl
 have D_law_kept:DefAt K mg "_law_kept" gG ["_law_deck_here","_law_menus_here","_law_number","_law_turn"]:=a_law_kept.at X G fun _ _ _ _ _ _ us hl=>match us,hl with | [_,_,_,_],_=>rfl
 have D_law_head:DefAt K mg "_law_head" gH ["_law_deck_here","_law_menus_here"]:=a_law_head.at X G fun _ _ _ _ _ _ us hl=>match us,hl with | [_,_],_=>rfl
 have D_law_body:DefAt K mg "_law_body" bJ ["_law_deck_here","_law_rows","_law_menus_here","_law_many"]:=a_law_body.at X G fun _ _ _ _ _ _ us hl=>match us,hl with | [_,_,_,_],_=>rfl
 have D_law_early:DefAt K mg "_law_early" fA ["_law_book","_law_deed_here"]:=a_law_early.at X G fun _ _ _ _ _ _ us hl=>match us,hl with | [_,_],_=>rfl
 have D_law_lates:DefAt K mg "_law_lates" fB ["_law_book","_law_deed_here"]:=a_law_lates.at X G fun _ _ _ _ _ _ us hl=>match us,hl with | [_,_],_=>rfl
 have D_law_changes:DefAt K mg "_law_changes" dJ ["_law_deed_here","_law_answer_here"]:=a_law_changes.at X G fun _ _ _ _ _ _ us hl=>match us,hl with | [_,_],_=>rfl
 have D_law_changed:DefAt K mg "_law_changed" cO ["_law_book","_law_deed_here","_law_answer_here"]:=a_law_changed.at X G fun _ _ _ _ _ _ us hl=>match us,hl with | [_,_,_],_=>rfl
 have D_law_sized:DefAt K mg "_law_sized" fE ["_law_deck_here","_law_book","_law_deed_here"]:=a_law_sized.at X G fun _ _ _ _ _ _ us hl=>match us,hl with | [_,_,_],_=>rfl
 have D_law_right:DefAt K mg "_law_right" fF ["_law_deck_here","_law_book","_law_one"]:=a_law_right.at X G fun _ _ _ _ _ _ us hl=>match us,hl with | [_,_,_],_=>rfl
 have D_law_lived:DefAt K mg "_law_lived" bA ["_law_deck_here","_law_rows","_law_menus_here","_law_many"]:=a_law_lived.at X G fun _ _ _ _ _ _ us hl=>match us,hl with | [_,_,_,_],_=>rfl
 have D_law_some_head:DefAt K mg "_law_some_head" cQ ["_law_deck_here","_law_menus_here"]:=a_law_some_head.at X G fun _ _ _ _ _ _ us hl=>match us,hl with | [_,_],_=>rfl
 have D_law_due:DefAt K mg "_law_due" eI ["_law_rows"]:=a_law_due.at X G fun _ _ _ _ _ _ us hl=>match us,hl with | [_],_=>rfl
 have D_law_other_word:DefAt K mg "_law_other_word" cI ["_law_error"]:=a_law_other_word.at X G fun _ _ _ _ _ _ us hl=>match us,hl with | [_],_=>rfl
 have D_law_told:DefAt K mg "_law_told" gJ ["_law_rows"]:=a_law_told.at X G fun _ _ _ _ _ _ us hl=>match us,hl with | [_],_=>rfl
 have cl_Book:Cls K C_Book:=⟨pg_Book,hd_Book,po_Book,sa_Book⟩
 have M_Book_amount:MethAt K C_Book "amount" "Book.amount" dH ["self","name"]:=a_Book_amount.at cl_Book fun _ _ _ _ _ _ us hl=>match us,hl with | [_,_],_=>rfl
 have M_Book_rows:MethAt K C_Book "rows" "Book.rows" dO ["self"]:=a_Book_rows.at cl_Book fun _ _ _ _ _ _ us hl=>match us,hl with | [_],_=>rfl
 have M_Book_change:MethAt K C_Book "change" "Book.change" dI ["self","changes"]:=a_Book_change.at cl_Book fun _ _ _ _ _ _ us hl=>match us,hl with | [_,_],_=>rfl
 subst vT_Book;have I_Book:ClsAt K mg "Book" C_Book "Book.__init__" bO ["self","rows"] [[],[.non]]:=⟨f_Book___init__,_,_,W.mg_of X G aC_Book,⟨_,_,_,_,_,_,_,_,_,rfl,l_Book___init__,c_Book___init__⟩,⟨mk_Book,a_Book___init__,i_Book___init__,kc_Book⟩,by
  intro d hd;rcases List.mem_cons.mp hd with rfl | hd
  ·exact⟨[],fun s us KI hl=>match us,(show us.length=2 by simpa using hl) with | [_,_],_=>BindsTo.of_defaults (T:=T_Book) rfl (KI _ _ lT_Book) rfl rfl rfl,.nil⟩
  obtain rfl:=Zms.mp hd
  ·exact⟨[.none],fun s us KI hl=>match us,(show us.length=1 by simpa using hl) with | [_],_=>BindsTo.of_defaults (T:=T_Book) rfl (KI _ _ lT_Book) rfl rfl rfl,(.cons rfl .nil)⟩⟩
 have N_NoChange:InitAt K f_NoChange___init__ "NoChange.__init__" aV ["self","name"]:=⟨⟨_,jF l_NoChange___init__ c_NoChange___init__ k_NoChange___init__,(jF (st:=aV) l_NoChange___init__ c_NoChange___init__ k_NoChange___init__).binds (fun _ _ _ _ _ _ us hl=>match us,hl with | [_,_],_=>rfl)⟩,i_NoChange___init__⟩
 refine⟨W.fnOf "law" "law" (bP jW) (aQ jW) (aB jW) .none kV_law dc_law pm_law an_law cd_law ct_law,fun s v=>.of_eq rfl,fun base _ _=>?_⟩
 have F_law:=jF (st:=jW) l_law c_law k_law
 have BT:Rx K C_Book:=⟨cl_Book,n_Book_amounts⟩
 have cd:=Ig (P:=l.prog) (w:=w) (base:=base) T D_law_deck
 have cr:=Dt (P:=l.prog) (w:=w) (base:=base) D_law_draw
 have ce:=Oj T cr D_law_end
 have cu:=zR T cr D_law_unlike
 have cde:=Ik T cr ce D_law_deed
 have cw:=Dx (P:=l.prog) (w:=w) (base:=base) T D_law_words
 have ca:=zS T cr ce D_law_answer
 have csp:=Il T cr D_law_spot
 have ck:=Im T cr cde cw ca csp D_law_kept
 have ch:=Io T cr ce ck D_law_head
 have cm:=Dy T cr cu D_law_menus
 have cea:=Ea (P:=l.prog) (w:=w) (base:=base) T D_law_early
 have cla:=Eb (P:=l.prog) (w:=w) (base:=base) T D_law_lates
 have cch:=uF (P:=l.prog) (w:=w) (base:=base) T D_law_changes
 have cc:=wG T cch D_law_changed
 have csz:=Ee T cr D_law_sized
 have cri:=Ef T cr cea cla D_law_right
 have cli:=Ei T cr cde csp csz cri cc D_law_lived
 have csh:=sK T cr ch D_law_some_head
 have cbn:=pI (P:=l.prog) (w:=w) (base:=base) D_by_numbers
 have cbo:=Iz T cr cde csp cw ca D_law_body
 have ci:=Ep (P:=l.prog) (w:=w) (base:=base) T BT I_Book
 have cam:=sN (P:=l.prog) (w:=w) (mg:=mg) (base:=base) BT M_Book_amount
 have crw:=wM (P:=l.prog) (w:=w) (base:=base) T BT M_Book_rows
 have XQ:lS K C_NoChange:=⟨x_ga,x_gx,x_cl,x_gg,x_tk,x_mo,x_mb,x_ci⟩
 have XI:XClsI K mg "NoChange" C_NoChange f_NoChange___init__:=⟨W.mg_of X G aC_NoChange,x_exc⟩
 have iN:qF l.prog w K mg base 1 C_NoChange f_NoChange___init__ "name":=Er ⟨x_sa,x_ov,x_ta⟩ N_NoChange
 have cg:=wN T BT XI iN cam M_Book_change
 have cdc:=lZ (P:=l.prog) (w:=w) (base:=base) T D_done_changes
 have cco:=pJ T cdc D_changes_of
 have cfb:=pK T (ci _ Zs) D_first_book
 have crb:=oU T cfb cco cg D_risen_book
 have crk:=pL (P:=l.prog) (w:=w) (base:=base) T D_risen_kept
 have crx:=Ab T cbn crb crw crk D_risen
 have ccp:=uU T cch D_law_changed
 have cdu:=Ff T cch ccp D_law_due
 have MT:wO K mg C_NoChange C_DoorError C_NoRows C_NoJournal C_NoDeed C_NoRow C_Other C_NoName:=⟨W.mg_of X G aC_NoChange,W.mg_of X G aC_DoorError,W.mg_of X G aC_NoRows,W.mg_of X G aC_NoJournal,W.mg_of X G aC_NoDeed,W.mg_of X G aC_NoRow,W.mg_of X G aC_Other,W.mg_of X G aC_NoName,x_xm,XQ,x_k_NoRows,x_k_NoJournal,x_k_NoDeed,x_k_NoRow,x_k_Other,x_k_NoName,x_kD,x_kV,x_hd,x_num⟩
 have cow:=pM (P:=l.prog) (w:=w) (base:=base) T MT D_law_other_word
 have cto:=Ac T MT crx cow D_law_told
 exact Pc T cd cm cr csh cli cbo cdu cto F_law
theorem Ur {l:W.OpenLaw} {q:Program} {loose:List Str} {XP:(Str->Option Value)->Heap->Prop} {YP:World->Heap->Prop} {d:DefRec} {K:Params->W.Frag} (hn:l.most=some 63) (hdf:d.params.defaults=[])
  (hY:∀(w:World) (h:Heap),YP w h->(K w.params).In h)
  (F:∀(w:World) (mg:Str->Option Value) (fa:Addr) (h:Heap),(K w.params).In h->h.Ns mainGlobals mg->mg d.name=some (.ref fa) →
   ∃fd:FuncData,(∀(s:Shared) (u:Value),BindsTo s fd ⟨[u],[]⟩ [("_law_script",u)])/\∀base:Heap,(K w.params).In base->base.Ns mainGlobals mg->fW l.prog w (K w.params) mg base mH 8 fa fd ["_law_script"] (yH (K w.params))) :
  W.WalkO q loose XP YP l.row.toRowW d [] (fun f vs=>PySem.call f vs):=
 L2.xD (n:=63) (k:=8) (x:="_law_script") (CX:=fun _=>mH) (sp:=fun w=>yH (K w.params)) hn Zd hdf ⟨rfl,Zd,Zd⟩ hY F (fun _ _ a ns hl _ hS=>⟨a,ns,rfl,hS,hl,fun _=>rfl⟩) fun _ _ _ _ _ z=>z
end KL
def PySem.W.Fast.tw1747030693883348567:Nat:=0
def PySem.W.Fast.tw9764586600520240624:Nat:=0
def PySem.W.Fast.tw402075838184178961:Nat:=0
def PySem.W.Fast.tw2016760929394334987:Nat:=0
def PySem.W.Fast.tw14414864576524437269:Nat:=0
def PySem.W.Fast.tw4102855725087176871:Nat:=0
def PySem.W.Fast.tw14294932060784376723:Nat:=0
def PySem.W.Fast.tw15956636602423714842:Nat:=0
def PySem.W.Fast.tw11015744296450587901:Nat:=0
def PySem.W.Fast.tw12832277551120798958:Nat:=0
def PySem.W.Fast.tw16680779671871314609:Nat:=0
def PySem.W.Fast.tw10941762111618294133:Nat:=0
def PySem.W.Fast.tw16216290797082428734:Nat:=0
def PySem.W.Fast.tw5209322493382056838:Nat:=0
open PySem PySem.W PyProof.Rows
set_option maxRecDepth 100000 in
set_option maxHeartbeats 0 in
theorem PySem.Challenge.cw_oncedoor_k51_the_book_that_comes_up_holds : PySem.Challenge.rw_oncedoor_k51_the_book_that_comes_up.Holds := by
 w_on;o_law;k_head;(case hw=>w_witness2)
 k_fill
 refine KL.Ur (l:=PySem.Challenge.rw_oncedoor_k51_the_book_that_comes_up) rfl rfl (fun w h Y=>W.kIn_of Y) ?F
 case F=>
  intro w mg fa h KX G hmg;refine' KL.Pd KX G hmg ?a_done_changes ?a_changes_of ?a_risen ?a_by_numbers ?a_first_book ?a_risen_book ?a_risen_kept ?a_law_deck ?a_law_draw ?a_law_unlike ?a_law_end ?a_law_deed ?a_law_words ?a_law_answer ?a_law_menus ?a_law_spot ?a_law_kept ?a_law_head ?a_law_body ?a_law_early ?a_law_lates ?a_law_changes ?a_law_changed ?a_law_sized ?a_law_right ?a_law_lived ?a_law_some_head ?a_law_due ?a_law_other_word ?a_law_told ?a_law ?l_law ?c_law ?k_law ?aC_Book ?pg_Book ?hd_Book ?po_Book ?sa_Book ?mk_Book ?kc_Book ?n_Book_amounts ?a_Book___init__ ?i_Book___init__ ?l_Book___init__ ?c_Book___init__ ?k_Book___init__ ?a_Book_amount ?a_Book_rows ?a_Book_change ?lT_Book ?vT_Book ?aC_DoorError ?aC_NoChange ?aC_NoRows ?aC_NoJournal ?aC_NoDeed ?aC_NoRow ?aC_Other ?aC_NoName ?a_NoChange___init__ ?i_NoChange___init__ ?l_NoChange___init__ ?c_NoChange___init__ ?k_NoChange___init__ ?x_ga ?x_gx ?x_cl ?x_gg ?x_tk ?x_mo ?x_mb ?x_ci ?x_kC ?x_kV ?x_exc ?x_sa ?x_ov ?x_ta ?x_num ?x_hd ?x_xm ?x_kD ?x_k_NoRows ?x_k_NoJournal ?x_k_NoDeed ?x_k_NoRow ?x_k_Other ?x_k_NoName ?z_ValueError ?z_isinstance ?z_int ?z_bool ?z_str ?z_tuple ?z_len ?z_sum ?z_list ?z_range ?z_max ?z_min ?z_sorted ?z_dict ?y_MOST
  (case a_done_changes=>refine' KL.FA.of ?a ?l ?c ?k;(case a=>k_is);(case l=>k_is);(case c=>k_is);case k=>k_is)
  (case a_changes_of=>refine' KL.FA.of ?a ?l ?c ?k;(case a=>k_is);(case l=>k_is);(case c=>k_is);case k=>k_is)
  (case a_risen=>refine' KL.FA.of ?a ?l ?c ?k;(case a=>k_is);(case l=>k_is);(case c=>k_is);case k=>k_is)
  (case a_by_numbers=>refine' KL.FA.of ?a ?l ?c ?k;(case a=>k_is);(case l=>k_is);(case c=>k_is);case k=>k_is)
  (case a_first_book=>refine' KL.FA.of ?a ?l ?c ?k;(case a=>k_is);(case l=>k_is);(case c=>k_is);case k=>k_is)
  (case a_risen_book=>refine' KL.FA.of ?a ?l ?c ?k;(case a=>k_is);(case l=>k_is);(case c=>k_is);case k=>k_is)
  (case a_risen_kept=>refine' KL.FA.of ?a ?l ?c ?k;(case a=>k_is);(case l=>k_is);(case c=>k_is);case k=>k_is)
  (case a_law_deck=>refine' KL.FA.of ?a ?l ?c ?k;(case a=>k_is);(case l=>k_is);(case c=>k_is);case k=>k_is)
  (case a_law_draw=>refine' KL.FA.of ?a ?l ?c ?k;(case a=>k_is);(case l=>k_is);(case c=>k_is);case k=>k_is)
  (case a_law_unlike=>refine' KL.FA.of ?a ?l ?c ?k;(case a=>k_is);(case l=>k_is);(case c=>k_is);case k=>k_is)
  (case a_law_end=>refine' KL.FA.of ?a ?l ?c ?k;(case a=>k_is);(case l=>k_is);(case c=>k_is);case k=>k_is)
  (case a_law_deed=>refine' KL.FA.of ?a ?l ?c ?k;(case a=>k_is);(case l=>k_is);(case c=>k_is);case k=>k_is)
  (case a_law_words=>refine' KL.FA.of ?a ?l ?c ?k;(case a=>k_is);(case l=>k_is);(case c=>k_is);case k=>k_is)
  (case a_law_answer=>refine' KL.FA.of ?a ?l ?c ?k;(case a=>k_is);(case l=>k_is);(case c=>k_is);case k=>k_is)
  (case a_law_menus=>refine' KL.FA.of ?a ?l ?c ?k;(case a=>k_is);(case l=>k_is);(case c=>k_is);case k=>k_is)
  (case a_law_spot=>refine' KL.FA.of ?a ?l ?c ?k;(case a=>k_is);(case l=>k_is);(case c=>k_is);case k=>k_is)
  (case a_law_kept=>refine' KL.FA.of ?a ?l ?c ?k;(case a=>k_is);(case l=>k_is);(case c=>k_is);case k=>k_is)
  (case a_law_head=>refine' KL.FA.of ?a ?l ?c ?k;(case a=>k_is);(case l=>k_is);(case c=>k_is);case k=>k_is)
  (case a_law_body=>refine' KL.FA.of ?a ?l ?c ?k;(case a=>k_is);(case l=>k_is);(case c=>k_is);case k=>k_is)
  (case a_law_early=>refine' KL.FA.of ?a ?l ?c ?k;(case a=>k_is);(case l=>k_is);(case c=>k_is);case k=>k_is)
  (case a_law_lates=>refine' KL.FA.of ?a ?l ?c ?k;(case a=>k_is);(case l=>k_is);(case c=>k_is);case k=>k_is)
  (case a_law_changes=>refine' KL.FA.of ?a ?l ?c ?k;(case a=>k_is);(case l=>k_is);(case c=>k_is);case k=>k_is)
  (case a_law_changed=>refine' KL.FA.of ?a ?l ?c ?k;(case a=>k_is);(case l=>k_is);(case c=>k_is);case k=>k_is)
  (case a_law_sized=>refine' KL.FA.of ?a ?l ?c ?k;(case a=>k_is);(case l=>k_is);(case c=>k_is);case k=>k_is)
  (case a_law_right=>refine' KL.FA.of ?a ?l ?c ?k;(case a=>k_is);(case l=>k_is);(case c=>k_is);case k=>k_is)
  (case a_law_lived=>refine' KL.FA.of ?a ?l ?c ?k;(case a=>k_is);(case l=>k_is);(case c=>k_is);case k=>k_is)
  (case a_law_some_head=>refine' KL.FA.of ?a ?l ?c ?k;(case a=>k_is);(case l=>k_is);(case c=>k_is);case k=>k_is)
  (case a_law_due=>refine' KL.FA.of ?a ?l ?c ?k;(case a=>k_is);(case l=>k_is);(case c=>k_is);case k=>k_is)
  (case a_law_other_word=>refine' KL.FA.of ?a ?l ?c ?k;(case a=>k_is);(case l=>k_is);(case c=>k_is);case k=>k_is)
  (case a_law_told=>refine' KL.FA.of ?a ?l ?c ?k;(case a=>k_is);(case l=>k_is);(case c=>k_is);case k=>k_is)
  (case a_law=>k_is)
  (case l_law=>k_is)
  (case c_law=>k_is)
  (case k_law=>k_is)
  (case aC_Book=>k_is)
  (case pg_Book=>k_is)
  (case hd_Book=>k_is)
  (case po_Book=>k_is)
  (case sa_Book=>k_is)
  (case mk_Book=>k_is)
  (case kc_Book=>k_is)
  (case n_Book_amounts=>k_is)
  (case a_Book___init__=>k_is)
  (case i_Book___init__=>k_is)
  (case l_Book___init__=>k_is)
  (case c_Book___init__=>k_is)
  (case k_Book___init__=>k_is)
  (case a_Book_amount=>refine' KL.MA.of ?a ?i ?l ?c ?k;(case a=>k_is);(case i=>k_is);(case l=>k_is);(case c=>k_is);case k=>k_is)
  (case a_Book_rows=>refine' KL.MA.of ?a ?i ?l ?c ?k;(case a=>k_is);(case i=>k_is);(case l=>k_is);(case c=>k_is);case k=>k_is)
  (case a_Book_change=>refine' KL.MA.of ?a ?i ?l ?c ?k;(case a=>k_is);(case i=>k_is);(case l=>k_is);(case c=>k_is);case k=>k_is)
  (case lT_Book=>k_is)
  (case vT_Book=>exact rfl)
  (case aC_DoorError=>k_is)
  (case aC_NoChange=>k_is)
  (case aC_NoRows=>k_is)
  (case aC_NoJournal=>k_is)
  (case aC_NoDeed=>k_is)
  (case aC_NoRow=>k_is)
  (case aC_Other=>k_is)
  (case aC_NoName=>k_is)
  (case a_NoChange___init__=>k_is)
  (case i_NoChange___init__=>k_is)
  (case l_NoChange___init__=>k_is)
  (case c_NoChange___init__=>k_is)
  (case k_NoChange___init__=>k_is)
  (case x_ga=>k_is)
  (case x_gx=>k_is)
  (case x_cl=>k_is)
  (case x_gg=>k_is)
  (case x_tk=>k_is)
  (case x_mo=>k_is)
  (case x_mb=>k_is)
  (case x_ci=>k_is)
  (case x_kC=>kit_is)
  (case x_kV=>kit_is)
  (case x_exc=>kernel_rfl)
  (case x_sa=>k_is)
  (case x_ov=>kernel_rfl)
  (case x_ta=>kernel_rfl)
  (case x_num=>k_is)
  (case x_hd=>k_is)
  (case x_xm=>kts_exm)
  (case x_kD=>kit_is)
  (case x_k_NoRows=>kit_is)
  (case x_k_NoJournal=>kit_is)
  (case x_k_NoDeed=>kit_is)
  (case x_k_NoRow=>kit_is)
  (case x_k_Other=>kit_is)
  (case x_k_NoName=>kit_is)
  (case z_ValueError=>k_is)
  (case z_isinstance=>k_is)
  (case z_int=>k_is)
  (case z_bool=>k_is)
  (case z_str=>k_is)
  (case z_tuple=>k_is)
  (case z_len=>k_is)
  (case z_sum=>k_is)
  (case z_list=>k_is)
  (case z_range=>k_is)
  (case z_max=>k_is)
  (case z_min=>k_is)
  (case z_sorted=>k_is)
  (case z_dict=>k_is)
  (case y_MOST=>k_is)
