import PyProof.Rows.All
import Wide.All
import OpenK.AllK
import Wide.FinOn
import Lean
import PyProof.EqAt
import PyProof.EqKinds
import PyProof.TupleCall
import KE.KSortTup
import KE.KDictSum
import KE.KDictOf
import PyProof.AttrMissHeap
import OpenK.KRaise
import KE.KIsAll
import KE.KTryMore
import KE.RegKIsAll
import KE.RegKTryMore
import PyProof.NsDelKeeps
import PyProof.ExcArgs
import PyProof.FitsReplace
import PyProof.Rows.StrJoin2
import PySem.Challenge.RW_oncedoor_k53_folded_rows
set_option Elab.async false
set_option linter.all false
set_option maxRecDepth 100000
set_option maxHeartbeats 4000000
theorem Zk {p:Prop} (h:p:=by decide +kernel):p:=h
theorem Zo {p:Prop} (h:p:=by omega):p:=h
theorem Zs {p:Prop} (h:p:=by simp):p:=h
theorem Zd {p:Prop} (h:p:=by decide):p:=h
def aQ:=@List.length_map
def dH:=@PySem.Heap.get?_push_of_some
def Zgs:=@List.getElem?_eq_some_iff
def fB:=@List.getElem?_eq_getElem
def kD:=@List.mem_cons_of_mem
def Zmm:=@List.mem_map
def cS:=@List.map_append
def iK:=@List.length_append
def dR:=@List.getElem?_map
def eK:=@Nat.le_trans
def iM:=@List.mem_cons_self
def dG:=@List.size_toArray
def nQ:=@List.length_take
def gH:=@List.take_of_length_le
def Zma:=@List.mem_append
def Zms:=@List.mem_singleton
def nZ:=@List.length_cons
def kI:=@Nat.lt_of_le_of_lt
def aV:=@Nat.le_refl
def jM:=@List.mem_of_getElem?
namespace L2
open PySem PySem.Spec PyProof.Rows
abbrev aW:=Sum Int Str
def kX:aW->Value->Bool
 | .inl k,v=>Value.isInt k v
 | .inr x,v=>Value.isStrOf x v
def Wi (w:World):aW->Int
 | .inl k=>hashInt k
 | .inr x=>hashStr w x
theorem bI:∀ {k:aW} {v:Value},kX k v=true->(∃i t,k=Sum.inl i/\v=Value.int i t)∨(∃x t,k=Sum.inr x/\v=Value.str x t)
 | .inl i,v,h=>by
  obtain⟨t,e⟩:=Value.isInt_shape (k:=i) (v:=v) h
  exact .inl ⟨i,t,rfl,e⟩
 | .inr x,v,h=>by
  obtain⟨t,e⟩:=Value.isStrOf_shape (x:=x) (v:=v) h
  exact .inr ⟨x,t,rfl,e⟩
theorem Ab (i:Int) (t:Tok):kX (.inl i) (.int i t)=true:=by simp [kX,Value.isInt]
theorem Ac (x:Str) (t:Tok):kX (.inr x) (.str x t)=true:=by simp [kX,Value.isStrOf]
theorem Oj (a b:Int):decide ((Sum.inl a:aW)=Sum.inl b)=(a == b):=by
 by_cases e:a=b
 ·subst e;simp
 ·have h:¬ (Sum.inl a:aW)=Sum.inl b:=fun q=>e (Sum.inl.inj q)
  rw[decide_eq_false h];exact(beq_eq_false_iff_ne.mpr e).symm
theorem Ol (a b:Str):decide ((Sum.inr a:aW)=Sum.inr b)=decide (a=b):=by
 by_cases e:a=b
 ·subst e;simp
 ·have h:¬ (Sum.inr a:aW)=Sum.inr b:=fun q=>e (Sum.inr.inj q)
  rw[decide_eq_false h,decide_eq_false e]
theorem Om (a:Int) (b:Str):decide ((Sum.inl a:aW)=Sum.inr b)=false:=decide_eq_false (fun q=>nomatch q)
theorem On (a:Str) (b:Int):decide ((Sum.inr a:aW)=Sum.inl b)=false:=decide_eq_false (fun q=>nomatch q)
def bA (prog:Program) (w:World):PySem.KeyKind prog w aW where
 is:=kX
 hash:=Wi w
 inj:=fun v a b ha hb=>by
  rcases bI ha with⟨i,t,rfl,rfl⟩ | ⟨x,t,rfl,rfl⟩
  ·rcases bI hb with⟨j,u,rfl,e⟩ | ⟨y,u,rfl,e⟩
   ·injection e with e1 _;rw[e1]
   ·exact nomatch e
  ·rcases bI hb with⟨j,u,rfl,e⟩ | ⟨y,u,rfl,e⟩
   ·exact nomatch e
   ·injection e with e1 _;rw[e1]
 byValue:=fun k v h=>by
  rcases bI h with⟨i,t,rfl,rfl⟩ | ⟨x,t,rfl,rfl⟩ <;> rfl
 pyHash:=fun hv h=>by
  rcases bI hv with⟨i,t,rfl,rfl⟩ | ⟨x,t,rfl,rfl⟩
  ·exact wpAny_pyHash_int h
  ·exact wpAny_pyHash_str h
 eqBool:=fun hu hv h=>by
  rcases bI hu with⟨i,t,rfl,rfl⟩ | ⟨x,t,rfl,rfl⟩
  ·rcases bI hv with⟨j,u,rfl,rfl⟩ | ⟨y,u,rfl,rfl⟩
   ·rw[Oj]at h;exact wpAny_eqBool_int h
   ·rw[Om]at h;exact SeqAt.EqAt.int_str i t y u _ _ _ _ h
  ·rcases bI hv with⟨j,u,rfl,rfl⟩ | ⟨y,u,rfl,rfl⟩
   ·rw[On]at h;exact SeqAt.EqAt.str_int x t j u _ _ _ _ h
   ·rw[Ol]at h;exact wpAny_eqBool_str h
 «strs»:=fun k x t v h=>by
  rcases bI h with⟨i,u,rfl,e⟩ | ⟨y,u,rfl,e⟩
  ·exact nomatch e
  ·injection e with e1 _
   subst e1;cases v <;> rfl
theorem uF (prog:Program) (w:World) (i:Int) (t:Tok):(bA prog w).is (.inl i) (.int i t)=true:=Ab i t
theorem uG (prog:Program) (w:World) (x:Str) (t:Tok):(bA prog w).is (.inr x) (.str x t)=true:=Ac x t
end L2
namespace L2
open PySem PySem.Spec PyProof.Rows
inductive V where
 | non | bl (b:Bool) | int (i:Int) | str (x:Str) | byt (b:Array UInt8) | flt (b:UInt64) | ref (a:Addr) | ty (n:String)
 deriving DecidableEq
def RelV:V->Value->Prop
 | .non,u=>u=Value.none
 | .bl b,u=>u=Value.bool b
 | .int i,u=>∃t,u=Value.int i t
 | .str x,u=>∃t,u=Value.str x t
 | .byt b,u=>∃t,u=Value.bytes b t
 | .flt b,u=>∃t,u=Value.float b t
 | .ref a,u=>u=Value.ref a
 | .ty n,u=>u=Value.type n
abbrev Vals:List V->List Value->Prop:=Paired RelV
theorem Vals.length {xs:List V} {us:List Value} (r:Vals xs us):xs.length=us.length:=Paired.length r
theorem Vals.get:∀ {xs:List V} {us:List Value} {i:Nat} {x:V},Vals xs us->xs[i]?=some x->∃u,us[i]?=some u/\RelV x u
 | _,_,_,_,.nil,e=>by simp at e
 | _,_,0,_,.cons r _,e=>by simp at e;subst e;exact⟨_,rfl,r⟩
 | _,_,i+1,x,.cons _ t,e=>by
  obtain⟨u,h1,h2⟩:=Vals.get (i:=i) (x:=x) t (by simpa using e)
  exact⟨u,by simpa using h1,h2⟩
theorem Vals.set {x:V} {u:Value} (r:RelV x u):∀ {xs:List V} {us:List Value} (i:Nat),Vals xs us->Vals (xs.set i x) (us.set i u)
 | _,_,_,.nil=>.nil
 | _,_,0,.cons _ t=>.cons r t
 | _,_,i+1,.cons q t=>.cons q (Vals.set r i t)
theorem Vals.append:∀ {xs ys:List V} {us ws:List Value},Vals xs us->Vals ys ws->Vals (xs++ys) (us++ws)
 | _,_,_,_,.nil,s=>s
 | _,_,_,_,.cons r t,s=>.cons r (Vals.append t s)
theorem Vals.take:∀ {xs:List V} {us:List Value} (n:Nat),Vals xs us->Vals (xs.take n) (us.take n)
 | _,_,0,_=>.nil
 | _,_,_+1,.nil=>.nil
 | _,_,n+1,.cons r t=>.cons r (Vals.take n t)
theorem Vals.drop:∀ {xs:List V} {us:List Value} (n:Nat),Vals xs us->Vals (xs.drop n) (us.drop n)
 | _,_,0,r=>r
 | _,_,_+1,.nil=>.nil
 | _,_,n+1,.cons _ t=>Vals.drop n t
def RelO:Option V->Option Value->Prop
 | some v,some u=>RelV v u
 | none,none=>True
 | _,_=>False
def KV {κ:Type}:List (κ × V)->List (κ × Value)->Prop:=Paired fun(p:κ × V) (q:κ × Value)=>p.1=q.1/\RelV p.2 q.2
def kV:aW->V
 | .inl i=>.int i
 | .inr x=>.str x
inductive HO where
 /-- a list -/
 | lst (xs:List V)
 /-- a tuple (never changes) -/
 | tup (xs:List V)
 /-- a dict whose keys are ints and texts;one whose keys are tuples of ints and texts (the empty one is both) -/
 | dK (kvs:List (aW × V)) | dT (kvs:List (List aW × V))
 /-- a set of ints: its members,its size -/
 | set (S:Int->Bool) (n:Nat)
 /-- an instance of the class at C,its dict at dx,its attributes -/
 | ins (C dx:Addr) (fs:List (Str × V))
 /-- the dict of the instance at x -/
 | own (x:Addr)
 /-- the dict of an exception -/
 | xd (fs:List (Str × V))
 /-- a bound method,f of x -/
 | met (f x:Addr)
 /-- a range object lo,lo+1,.. below hi -/
 | rng (lo hi:Int)
 /-- a thing that is known to the object (the script;a dict while a loop walks it): read,never written while it is so -/
 | frz (o:Obj) (u:HO)
 /-- a code object's table -/
 | tbl (ps:Array Value)
 /-- any other thing,by what is true of its one object (a def of one's own: SetO a S n:=HO.ext fun h=>..) -/
 | ext (φ:Heap->Prop)
abbrev Hp:=Addr->Option HO
def aI (H:Hp) (a:Addr) (o:HO):Hp:=fun b=>if b=a then some o else H b
theorem aA {H:Hp} {a:Addr} {o:HO}:aI H a o a=some o:=by unfold aI;rw[if_pos rfl]
theorem aE {H:Hp} {a b:Addr} {o:HO} (h:b≠a):aI H a o b=H b:=by unfold aI;rw[if_neg h]
theorem dI {H:Hp} {a b:Addr} {o u:HO} (h:H a=some o) (h':H b=some u) (d:o≠u):a≠b:=by
 intro e;subst e;rw[h]at h';exact d (Option.some.inj h')
theorem aF {H:Hp} {a b:Addr} {o:HO} (h:H a=some o) (h':H b=none):a≠b:=by
 intro e;subst e;rw[h]at h';cases h'
section
variable (P:Program) (w:World)
def ObjOk (H:Hp) (h:Heap) (a:Addr):HO->Prop
 | .lst xs=>xs.length<=sizeLine/\∃(its:List Value) (n:Nat),Vals xs its/\h.get? a=some {cls:=.type "list",data:=.seq its.toArray n }
 | .tup xs=>xs.length<=sizeLine/\∃its:List Value,Vals xs its/\IsTup h a its.toArray
 | .dK kvs=>kvs.length<=sizeLine/\(a == sysModules)=false/\∃vs,KV kvs vs/\h.DictOf (bA P w) a vs
 | .dT kvs=>kvs.length<=sizeLine/\(a == sysModules)=false/\∃xs:List (List aW × Addr × Value),
   Paired (fun(p:List aW × V) (q:List aW × Addr × Value)=>p.1=q.1/\H q.2.1=some (.tup (p.1.map kV))/\RelV p.2 q.2.2) kvs xs ∧
   ∃o es ep,h.get? a=some o/\o.ExactDict/\o.data=.dict es ep/\es.toList=xs.map (entryOfKey (tupleKind (bA P w)))/\(xs.map (·.1)).Nodup
 | .set S n=>h.SetOf (intKind P w) a S n
 | .ins C dx fs=>H dx=some (.own a)/\fs.length<=1000/\dx≠a/\h.get? a=some (W.instObj C dx) ∧
   ∃mA,h.Ns1 dx mA/\(∀f,RelO (fs.lookup f) (mA f))/\PySem.Within mA (fs.map (·.1))
 | .own _=>∃o,h.get? a=some o
 | .xd fs=>∃mA,h.Ns1 a mA/\∀f,RelO (fs.lookup f) (mA f)
 | .rng lo hi=>∃t u v,h.get? a=some {cls:=.type "range",data:=.fields #[.int lo t,.int hi u,.int 1 v] }
 | .frz o u=>h.get? a=some o/\ObjOk H h a u
 | .tbl ps=>h.get? a=some {cls:=.none,data:=.fields ps }
 | .met f x=>h.get? a=some (W.methodObj (.ref f) (.ref x))
 | .ext φ=>φ h/\(∃o,h.get? a=some o)/\∀h1 h2:Heap,φ h1->(∀o,h1.get? a=some o->h2.get? a=some o)->φ h2
def HOk (H:Hp) (h:Heap):Prop:=∀a o,H a=some o->ObjOk P w H h a o
end
section
variable {P:Program} {w:World} {H H':Hp} {h h':Heap} {a:Addr} {o:HO}
theorem ObjOk.lt (x:ObjOk P w H h a o):a<h.objs.size:=by
 cases o with
 | lst xs=>obtain⟨_,_,_,_,e⟩:=x;exact Heap.lt_size e
 | tup xs=>obtain⟨_,_,_,p⟩:=x;exact p.lt
 | dK kvs=>obtain⟨_,_,_,_,o,_,_,e,_⟩:=x;exact Heap.lt_size e
 | dT kvs=>obtain⟨_,_,_,_,o,_,_,e,_⟩:=x;exact Heap.lt_size e
 | set S n=>obtain⟨o,_,_,_,e,_⟩:=x;exact Heap.lt_size e
 | ins C dx fs=>obtain⟨_,_,_,e,_⟩:=x;exact Heap.lt_size e
 | own y=>obtain⟨_,e⟩:=x;exact Heap.lt_size e
 | xd fs=>obtain⟨_,⟨_,_,_,e,_⟩,_⟩:=x;exact Heap.lt_size e
 | rng lo hi=>obtain⟨_,_,_,e⟩:=x;exact Heap.lt_size e
 | frz ob u=>obtain⟨e,_⟩:=x;exact Heap.lt_size e
 | tbl ps=>exact Heap.lt_size (show h.get? a=some _ from x)
 | met f y=>exact Heap.lt_size (show h.get? a=some _ from x)
 | ext φ=>obtain⟨_,⟨_,e⟩,_⟩:=x;exact Heap.lt_size e
theorem Paired.mapP {α β:Type} {F G:α->β->Prop}:∀ {l₁:List α} {l₂:List β},Paired F l₁ l₂->(∀a b,F a b->G a b)->Paired G l₁ l₂
 | _,_,.nil,_=>.nil
 | _,_,.cons r t,f=>.cons (f _ _ r) (Paired.mapP t f)
theorem ObjOk.stay (x:ObjOk P w H h a o) (k:∀b u,(b=a∨H b=some (.own a))->h.get? b=some u->h'.get? b=some u)
  (ho:∀b,H b=some (.own a)->H' b=some (.own a)) (ht:∀b xs,H b=some (.tup xs)->H' b=some (.tup xs)):ObjOk P w H' h' a o:=by
 induction o with
 | lst xs=>obtain⟨z,its,n,r,e⟩:=x;exact⟨z,its,n,r,k _ _ (.inl rfl) e⟩
 | tup xs=>obtain⟨z,its,r,ob,e,c⟩:=x;exact⟨z,its,r,ob,k _ _ (.inl rfl) e,c⟩
 | dK kvs=>obtain⟨z,y,vs,r,ob,es,ep,e,c⟩:=x;exact⟨z,y,vs,r,ob,es,ep,k _ _ (.inl rfl) e,c⟩
 | dT kvs=>
  obtain⟨z,y,xs,r,ob,es,ep,e,c⟩:=x
  exact⟨z,y,xs,Paired.mapP r fun p q z=>⟨z.1,ht _ _ z.2.1,z.2.2⟩,ob,es,ep,k _ _ (.inl rfl) e,c⟩
 | set S n=>obtain⟨ob,es,ep,t,e,c⟩:=x;exact⟨ob,es,ep,t,k _ _ (.inl rfl) e,c⟩
 | ins C dx fs=>
  obtain⟨d,z,ne,e,mA,⟨od,es,ep,e2,c⟩,r⟩:=x
  exact⟨ho _ d,z,ne,k _ _ (.inl rfl) e,mA,⟨od,es,ep,k _ _ (.inr d) e2,c⟩,r⟩
 | own y=>obtain⟨ob,e⟩:=x;exact⟨ob,k _ _ (.inl rfl) e⟩
 | xd fs=>obtain⟨mA,⟨od,es,ep,e,c⟩,r⟩:=x;exact⟨mA,⟨od,es,ep,k _ _ (.inl rfl) e,c⟩,r⟩
 | rng lo hi=>obtain⟨t,u,v,e⟩:=x;exact⟨t,u,v,k _ _ (.inl rfl) e⟩
 | frz ob u ih=>obtain⟨e,q⟩:=x;exact⟨k _ _ (.inl rfl) e,ih q⟩
 | tbl ps=>
  have e:h.get? a=some {cls:=.none,data:=.fields ps }:=x
  show h'.get? a=some {cls:=.none,data:=.fields ps }
  exact k a _ (.inl rfl) e
 | met f y=>
  have e:h.get? a=some (W.methodObj (.ref f) (.ref y)):=x
  show h'.get? a=some (W.methodObj (.ref f) (.ref y))
  exact k a _ (.inl rfl) e
 | ext φ=>obtain⟨p,⟨o,e⟩,st⟩:=x;exact⟨st _ _ p fun o q=>k _ _ (.inl rfl) q,⟨o,k _ _ (.inl rfl) e⟩,st⟩
theorem HOk.lt (x:HOk P w H h) (e:H a=some o):a<h.objs.size:=(x a o e).lt
theorem HOk.fresh (x:HOk P w H h) (e:h.objs.size<=a):H a=none:=by
 cases q:H a with
 | none=>rfl
 | some u=>exact absurd (Nat.lt_of_lt_of_le (x.lt q) e) (Nat.lt_irrefl _)
theorem HOk.kept (x:HOk P w H h) (k:∀b u,h.get? b=some u->h'.get? b=some u):HOk P w H h':=fun a o e=>
 (x a o e).stay (fun b u _ q=>k b u q) (fun _ q=>q) fun _ _ q=>q
theorem HOk.laid (x:HOk P w H h) (k:∀b u,h.get? b=some u->h'.get? b=some u) (hp:h.objs.size<=a) (new:ObjOk P w (aI H a o) h' a o):HOk P w (aI H a o) h':=fun b u e=>by
 have hn:=x.fresh hp
 by_cases hb:b=a
 ·subst hb;rw[aA]at e;cases e;exact new
 ·rw[aE hb]at e;exact(x b u e).stay (fun c v _ q=>k c v q) (fun c q=>by rw[aE (aF q hn)];exact q) fun c xs q=>by rw[aE (aF q hn)];exact q
end
def Rd (H:Hp) (a:Addr) (u:HO):Prop:=H a=some u∨∃o,H a=some (.frz o u)
theorem Rd.ok {P:Program} {w:World} {H:Hp} {h:Heap} {a:Addr} {u:HO} (r:Rd H a u) (x:HOk P w H h):ObjOk P w H h a u:=by
 rcases r with r | ⟨o,r⟩
 ·exact x a u r
 ·obtain⟨_,q⟩:=x a _ r
  exact q
def Sx:Option HO->Prop
 | some (.lst _)=>True
 | some (.dK _)=>True
 | some (.dT _)=>True
 | some (.set _ _)=>True
 | some (.ins _ _ _)=>True
 | some (.ext _)=>True
 | _=>False
section
variable {P:Program} {w:World} {H:Hp} {h h':Heap} {x e:Addr} {o':HO}
theorem HOk.write (ok:HOk P w H h) (mu:Sx (H x)) (he:e=x∨H e=some (.own x)) (k:∀b u,b≠e->h.get? b=some u->h'.get? b=some u) (heo:∃u,h'.get? e=some u)
  (new:ObjOk P w (aI H x o') h' x o'):HOk P w (aI H x o') h':=fun b u q=>by
 have nown:∀c y,H c=some (.own y)->c≠x:=fun c y r z=>by subst z;rw[r]at mu;exact mu
 have ntup:∀c xs,H c=some (.tup xs)->c≠x:=fun c xs r z=>by subst z;rw[r]at mu;exact mu
 by_cases hb:b=x
 ·subst hb;rw[aA]at q;cases q;exact new
 ·rw[aE hb]at q;by_cases hbe:b=e
  ·have q':H b=some (.own x):=by
    rcases he with z | z
    ·exact absurd (hbe.trans z) hb
    ·rw[hbe];exact z
   rw[q]at q';cases q'
   obtain⟨v,hv⟩:=heo
   exact⟨v,by rw[hbe];exact hv⟩
  ·refine(ok b u q).stay (fun c v hc r=>k c v ?_ r) (fun c r=>by rw[aE (nown c b r)];exact r) fun c xs r=>by rw[aE (ntup c xs r)];exact r
   rcases hc with rfl | hc
   ·exact hbe
   ·rintro rfl
    rcases he with z | z
    ·exact nown c b hc z
    ·rw[hc]at z;cases z;exact hb rfl
end
structure Un (fs ex:List Addr) (H H':Hp) (h h':Heap):Prop where
 keep:∀b o,h.get? b=some o->H b=none->b∉fs->b∉ex->h'.get? b=some o
 slot:∀b o,h.get? b=some o->H b=none->b∈fs->b∉ex->∃sl,h'.get? b=some {o with slots:=sl }
 free:∀b o,h.get? b=some o->H b=none->b∉ex->H' b=none
 there:∀b o,h.get? b=some o->b∉ex->∃o',h'.get? b=some o'
 tups:∀b xs,H b=some (.tup xs)->H' b=some (.tup xs)
 frzs:∀b o u,H b=some (.frz o u)->H' b=some (.frz o u)
 tbls:∀b ps,H b=some (.tbl ps)->∃more,H' b=some (.tbl (ps++more))
section
variable {fs fs' ex ex':List Addr} {H H1 H2:Hp} {h h1 h2 h':Heap} {a x e:Addr} {o:HO}
theorem Un.any (u:Un fs ex H H1 h h1) {b:Addr} {ob:Obj} (q:h.get? b=some ob) (n:H b=none) (hx:b∉ex):∃sl,h1.get? b=some {ob with slots:=sl }:=by
 by_cases hb:b∈fs
 ·exact u.slot b ob q n hb hx
 ·exact⟨ob.slots,u.keep b ob q n hb hx⟩
theorem Un.kept (k:∀b u,h.get? b=some u->h'.get? b=some u):Un fs ex H H h h':=
 ⟨fun b ob q _ _ _=>k b ob q,fun b ob q _ _ _=>⟨ob.slots,k b ob q⟩,fun _ _ _ n _=>n,fun b ob q _=>⟨ob,k b ob q⟩,fun _ _ q=>q,fun _ _ _ q=>q,fun _ ps q=>⟨#[],by rw[q];simp⟩⟩
theorem Un.refl:Un fs ex H H h h:=Un.kept fun _ _ q=>q
theorem Un.laid (k:∀b u,h.get? b=some u->h'.get? b=some u) (hp:h.objs.size<=a) (hn:H a=none):Un fs ex H (aI H a o) h h' where
 keep:=fun b u q _ _ _=>k b u q
 slot:=fun b u q _ _ _=>⟨u.slots,k b u q⟩
 free:=fun b u q n _=>by rw[aE (Nat.ne_of_lt (Nat.lt_of_lt_of_le (Heap.lt_size q) hp))];exact n
 there:=fun b u q _=>⟨u,k b u q⟩
 tups:=fun b xs q=>by rw[aE (aF q hn)];exact q
 frzs:=fun b u xs q=>by rw[aE (aF q hn)];exact q
 tbls:=fun b ps q=>⟨#[],by rw[aE (aF q hn),q];simp⟩
theorem Un.write (mu:Sx (H x)) (he:e=x∨H e=some (.own x)) (k:∀b u,b≠e->h.get? b=some u->h'.get? b=some u) (heo:∃u,h'.get? e=some u):Un fs ex H (aI H x o) h h':=by
 have hx:∀b,H b=none->b≠x:=fun b n z=>by subst z;rw[n]at mu;exact mu
 have hb:∀b,H b=none->b≠e:=fun b n z=>by
  subst z;rcases he with r | r
  ·exact hx b n r
  ·rw[n]at r;cases r
 have hm:∀b u,H b=some u->¬ Sx (some u)->b≠x:=fun b u q nm z=>by subst z;rw[q]at mu;exact nm mu
 refine⟨fun b u q n _ _=>k b u (hb b n) q,fun b u q n _ _=>⟨u.slots,k b u (hb b n) q⟩,fun b u q n _=>by rw[aE (hx b n)];exact n,fun b u q _=>?_,
  fun b xs q=>by rw[aE (hm b _ q fun z=>z)];exact q,fun b u xs q=>by rw[aE (hm b _ q fun z=>z)];exact q,fun b ps q=>⟨#[],by rw[aE (hm b _ q fun z=>z),q];simp⟩⟩
 by_cases hbe:b=e
 ·subst hbe;exact heo
 ·exact⟨u,k b u hbe q⟩
end
def Vv (h:Heap) (H:Hp):List Addr:=(List.range h.objs.size).filter fun a=>(H a).isSome
def sI (h:Heap) (H:Hp):Heap:=W.hideAll h (Vv h H)
theorem Ad (h:Heap) (H:Hp):(sI h H).objs.size=h.objs.size:=W.hideAll_size _ _
theorem Ce {h:Heap} {H:Hp} {b:Addr} {o:Obj} (e:h.get? b=some o) (n:H b=none):(sI h H).get? b=some o:=
 W.hideAll_get _ e fun hm=>by
  have q:(H b).isSome=true:=(List.mem_filter.mp hm).2
  rw[n]at q;simp at q
theorem Jc {h:Heap} {H:Hp} {b:Addr} {o:Obj} (e:(sI h H).get? b=some o):h.get? b=some o/\H b=none:=by
 have e':h.get? b=some o:=W.of_hideAll (Vv h H) e
 refine⟨e',?_⟩
 cases q:H b with
 | none=>rfl
 | some x=>
  have hm:b∈Vv h H:=List.mem_filter.mpr ⟨List.mem_range.mpr (Heap.lt_size e'),by simp [q]⟩
  have z:(sI h H).get? b=none:=W.hideAll_none (Vv h H) hm
  rw[z]at e;cases e
end L2
namespace L2
open PySem PySem.Spec PyProof.Rows
structure Mod (K:W.Frag) (mg:Str->Option Value) (base:Heap):Prop where
 kin:K.In base
 glob:base.Ns mainGlobals mg
 blt:∃mb,base.Ns builtinsNs mb/\∀x:Str,x≠"__name__"->mb x=bootBuiltins x
 nolimit:base.NoLimit
structure Cx where
 prog:Program
 w:World
 K:W.Frag
 mg:Str->Option Value
 base:Heap
 A:Around
 N:List Str
 s₀:Shared
 H₀:Hp
 env:Env
 outer:List Env
 stack:List Env
 ex:List Addr
 fn:Str->Bool
 calm:Bool
 pn:List (Addr × Obj)
 xe:Value->Shared->Prop
def Cf (l:List Env):List Addr:=l.filterMap (·.frame)
abbrev Cx.fs (X:Cx):List Addr:=Cf X.outer
def Sy (sc:Scope) (x:Str):Prop:=sc.names.lookup x=some .local∨sc.names.lookup x=some .cell∨sc.names.lookup x=some .free
def Nc (sc:Scope) (x:Str):Prop:=sc.names.lookup x=some .local∨sc.names.lookup x=some .cell
def Wj (env:Env) (h:Heap) (m:Str->Option Value) (x:Str) (u:Value):Prop:=
 (env.kindOf x=some .local/\m x=some u)∨((env.kindOf x=some .cell∨env.kindOf x=some .free)/\∃c,env.cells.lookup x=some c/\h.IsCell c (some u))
structure Cx.Ok (X:Cx):Prop where
 mod:Mod X.K X.mg X.base
 kind:X.env.scope.kind=.function
 glob:X.env.globals=mainGlobals
 blt:X.env.builtins=builtinsNs
 above:X.s₀.heap.objs.size<=X.env.locals
 inj:∀x y c,X.env.cells.lookup x=some c->X.env.cells.lookup y=some c->x=y
 has:∀x,(X.env.kindOf x=some .cell∨X.env.kindOf x=some .free)->∃c,X.env.cells.lookup x=some c
 cab:∀x c,X.fn x=true->X.env.cells.lookup x=some c->X.s₀.heap.objs.size<=c
 hd:X.calm=true->X.A.handled=none
 frames:X.A.frames=some X.stack
 stk:X.stack=X.outer∨(X.stack=X.env::X.outer/\X.env.frame=some X.env.locals)
 exf:∀b∈X.ex,b≠X.env.locals/\∀x c,X.env.cells.lookup x=some c->c≠b
 bs:∀b o,X.base.get? b=some o->X.s₀.heap.get? b=some o/\X.H₀ b=none
 bsz:X.base.objs.size<=X.s₀.heap.objs.size
 noex:∀b o,X.base.get? b=some o->b∉X.ex
 exfs:∀b∈X.ex,b∉X.fs
 funs:X.s₀.heap.FunFrames X.base X.outer
 frf:∀b∈X.fs,X.H₀ b=none
structure Inv (X:Cx) (pins:List (Addr × Obj)) (σ:List (Option V)) (H:Hp) (s:Shared):Prop where
 ok:X.Ok
 os:s.os=X.s₀.os
 bare:AllBare s.gens
 base:Un X.fs X.ex X.H₀ H X.s₀.heap s.heap
 loc:∃m,s.heap.Ns X.env.locals m/\∀(i:Nat) (x:Str) (v:V),X.N[i]?=some x->σ[i]?=some (some v)->Sy X.env.scope x->∃u,RelV v u/\Wj X.env s.heap m x u
 cell:∀x c,X.env.cells.lookup x=some c->∃v,s.heap.IsCell c v
 free:H X.env.locals=none
 freeC:∀x c,X.env.cells.lookup x=some c->H c=none
 pin:∀p∈X.pn++pins,s.heap.get? p.1=some p.2/\H p.1=none/\p.1≠X.env.locals/\p.1∉X.fs/\∀v,p.2.data≠.cell v
 hok:HOk X.prog X.w H s.heap
 len:σ.length=X.N.length
section
variable {X:Cx} {pins:List (Addr × Obj)} {σ:List (Option V)} {H H':Hp} {s:Shared} {h':Heap}
theorem Cx.Ok.nofr (ok:X.Ok) {b:Addr} {o:Obj} (e:X.base.get? b=some o):b∉X.fs:=fun hb=>by
 have:=(ok.funs.mem hb).1
 rw[e]at this;cases this
theorem Inv.bs (I:Inv X pins σ H s):∀b o,X.base.get? b=some o->s.heap.get? b=some o/\H b=none:=fun b o e=>
 ⟨I.base.keep b o (I.ok.bs b o e).1 (I.ok.bs b o e).2 (I.ok.nofr e) (I.ok.noex b o e),I.base.free b o (I.ok.bs b o e).1 (I.ok.bs b o e).2 (I.ok.noex b o e)⟩
theorem Inv.bk (I:Inv X pins σ H s):∀b o,X.base.get? b=some o->s.heap.get? b=some o:=fun b o e=>(I.bs b o e).1
theorem Inv.mod (I:Inv X pins σ H s):Mod X.K X.mg X.base:=I.ok.mod
theorem Inv.kIn (I:Inv X pins σ H s):X.K.In s.heap:=I.ok.mod.kin.keeps I.bk
theorem Inv.fr (I:Inv X pins σ H s):∃m,Fr X.base X.env.locals s.heap m:=
 let ⟨m,hn,_⟩:=I.loc
 ⟨m,hn,I.bk,eK I.ok.bsz I.ok.above⟩
theorem Inv.lt (I:Inv X pins σ H s):X.env.locals<s.heap.objs.size:=let ⟨_,hn,_⟩:=I.loc;hn.lt
theorem Inv.sz (I:Inv X pins σ H s):X.s₀.heap.objs.size<=s.heap.objs.size:=eK I.ok.above (Nat.le_of_lt I.lt)
theorem Inv.nofs (I:Inv X pins σ H s) {a:Addr} (h:s.heap.objs.size<=a):a∉X.fs:=fun hb=>by
 obtain⟨_,o,ho,_⟩:=I.ok.funs.mem hb
 exact absurd (Nat.lt_of_lt_of_le (Heap.lt_size ho) (eK I.sz h)) (Nat.lt_irrefl _)
theorem Inv.cne (I:Inv X pins σ H s):∀x c,X.env.cells.lookup x=some c->c≠X.env.locals:=fun x c e z=>by
 obtain⟨v,o,ho,hd⟩:=I.cell x c e
 obtain⟨m,⟨o',es,ep,ho',hd',_⟩,_⟩:=I.loc
 rw[z,ho']at ho;cases ho;rw[hd']at hd;cases hd
theorem Inv.funs (I:Inv X pins σ H s):s.heap.FunFrames X.base X.outer:=by
 have all:∀(l:List Env),(∀b∈Cf l,b∈X.fs)->X.s₀.heap.FunFrames X.base l->s.heap.FunFrames X.base l:=by
  intro l;induction l with
  | nil=>intro _ _;trivial
  | cons env r ih=>
   intro hs hl;obtain⟨hk,⟨L,o,hf,hn,ho,hd⟩,hr⟩:=hl
   have hL:L∈X.fs:=hs L (by unfold Cf;rw[List.filterMap_cons,hf];exact iM)
   obtain⟨sl,e⟩:=I.base.slot L o ho (I.ok.frf L hL) hL fun z=>I.ok.exfs L z hL
   exact⟨hk,⟨L,_,hf,hn,e,hd⟩,ih (fun b hb=>hs b (by unfold Cf;rw[List.filterMap_cons,hf];exact kD _ hb)) hr⟩
 exact all X.outer (fun _ hb=>hb) I.ok.funs
theorem Inv.stack (I:Inv X pins σ H s):s.heap.FunFrames X.base X.stack:=by
 rcases I.ok.stk with e | ⟨e,hf⟩
 ·rw[e];exact I.funs
 ·rw[e];obtain⟨m,hn,_⟩:=I.loc
  refine .cons (by rw[I.ok.kind];decide) hf hn ?_ I.funs
  exact Heap.get?_none_of_le (eK I.ok.bsz I.ok.above)
theorem Inv.stkSub (I:Inv X pins σ H s):∀b∈Cf X.stack,b∈X.env.locals::X.fs:=fun b hb=>by
 rcases I.ok.stk with e | ⟨e,hf⟩
 ·rw[e]at hb;exact kD _ hb
 ·rw[e]at hb;unfold Cf at hb;rw[List.filterMap_cons,hf]at hb;exact hb
theorem Inv.stkFree (I:Inv X pins σ H s):∀b∈Cf X.stack,H b=none:=fun b hb=>by
 rcases List.mem_cons.mp (I.stkSub b hb) with e | hb
 ·rw[e];exact I.free
 ·obtain⟨_,o,ho,_⟩:=I.ok.funs.mem hb
  exact I.base.free b o ho (I.ok.frf b hb) fun z=>I.ok.exfs b z hb
theorem Inv.step {g':Array GenState} {t':Nat} {d':Drawn} {ch:List Addr} (I:Inv X pins σ H s)
  (hch:∀b∈ch,(b∈X.ex∨X.s₀.heap.objs.size<=b)/\b≠X.env.locals/\(∀x c,X.env.cells.lookup x=some c->c≠b)/\∀p∈X.pn++pins,p.1≠b)
  (keep:∀b o,b≠X.env.locals->b∉X.fs->b∉ch->s.heap.get? b=some o->H b=none->h'.get? b=some o)
  (slot:∀b o,b≠X.env.locals->b∈X.fs->b∉ch->s.heap.get? b=some o->H b=none->∃sl,h'.get? b=some {o with slots:=sl }) (free:∀b o,b∉ch->s.heap.get? b=some o->H b=none->H' b=none)
  (there:∀b o,b∉ch->s.heap.get? b=some o->∃o',h'.get? b=some o')
  (tups:∀b xs,H b=some (.tup xs)->H' b=some (.tup xs)) (frzs:∀b o u,H b=some (.frz o u)->H' b=some (.frz o u)) (tbls:∀b ps,H b=some (.tbl ps)->∃more,H' b=some (.tbl (ps++more)))
  (ns:∀m,s.heap.Ns X.env.locals m->h'.Ns X.env.locals m) (hok:HOk X.prog X.w H' h') (hg:AllBare g') :
  Inv X pins σ H' {s with heap:=h',gens:=g',drawn:=d',toks:=t' }:=by
 have neL:∀b o,X.s₀.heap.get? b=some o->b≠X.env.locals:=fun b o e=>Nat.ne_of_lt (Nat.lt_of_lt_of_le (Heap.lt_size e) I.ok.above)
 have neC:∀b o,X.s₀.heap.get? b=some o->b∉X.ex->b∉ch:=fun b o e hx hb=>by
  rcases(hch b hb).1 with z | z
  ·exact hx z
  ·exact absurd (Nat.lt_of_lt_of_le (Heap.lt_size e) z) (Nat.lt_irrefl _)
 have cellK:∀x c,X.env.cells.lookup x=some c->∀v,s.heap.IsCell c v->h'.IsCell c v:=fun x c e v ⟨o,ho,hd⟩=>by
  have nch:c∉ch:=fun z=>(hch c z).2.2.1 x c e rfl
  by_cases hc:c∈X.fs
  ·obtain⟨sl,q⟩:=slot c o (I.cne x c e) hc nch ho (I.freeC x c e)
   exact⟨_,q,hd⟩
  ·exact⟨o,keep c o (I.cne x c e) hc nch ho (I.freeC x c e),hd⟩
 refine⟨I.ok,I.os,hg,⟨fun b o e n hb hx=>?_,fun b o e n hb hx=>?_,fun b o e n hx=>?_,fun b o e hx=>?_,fun b xs e=>tups b xs (I.base.tups b xs e),fun b o xs e=>frzs b o xs (I.base.frzs b o xs e),fun b ps e=>?_⟩,?_,fun x c e=>?_,?_,fun x c e=>?_,fun p hp=>?_,hok,I.len⟩
 ·exact keep b o (neL b o e) hb (neC b o e hx) (I.base.keep b o e n hb hx) (I.base.free b o e n hx)
 ·obtain⟨sl,e1⟩:=I.base.slot b o e n hb hx
  obtain⟨sl',e2⟩:=slot b _ (neL b o e) hb (neC b o e hx) e1 (I.base.free b o e n hx)
  exact⟨sl',e2⟩
 ·obtain⟨o',e1⟩:=I.base.there b o e hx
  exact free b o' (neC b o e hx) e1 (I.base.free b o e n hx)
 ·obtain⟨o',e1⟩:=I.base.there b o e hx
  exact there b o' (neC b o e hx) e1
 ·obtain⟨m1,e1⟩:=I.base.tbls b ps e
  obtain⟨m2,e2⟩:=tbls b _ e1
  exact⟨m1++m2,by rw[e2,Array.append_assoc]⟩
 ·obtain⟨m,hn,hl⟩:=I.loc
  refine⟨m,ns m hn,fun i x v e1 e2 e3=>?_⟩
  obtain⟨u,r,l⟩:=hl i x v e1 e2 e3
  refine⟨u,r,?_⟩
  rcases l with l | ⟨k,c,e,z⟩
  ·exact .inl l
  ·exact .inr ⟨k,c,e,cellK x c e _ z⟩
 ·obtain⟨v,z⟩:=I.cell x c e
  exact⟨v,cellK x c e v z⟩
 ·obtain⟨m,⟨o,_,_,ho,_⟩,_⟩:=I.loc
  exact free _ o (fun z=>(hch _ z).2.1 rfl) ho I.free
 ·obtain⟨v,o,ho,hd⟩:=I.cell x c e
  exact free c o (fun z=>(hch c z).2.2.1 x c e rfl) ho (I.freeC x c e)
 ·obtain⟨e,n,ne,nf,d⟩:=I.pin p hp
  have nch:p.1∉ch:=fun z=>(hch p.1 z).2.2.2 p hp rfl
  exact⟨keep p.1 p.2 ne nf nch e n,free p.1 p.2 nch e n,ne,nf,d⟩
theorem Inv.un {t':Nat} (I:Inv X pins σ H s) (u:Un X.fs [] H H' s.heap h') (hok:HOk X.prog X.w H' h'):Inv X pins σ H' {s with heap:=h',toks:=t' }:=by
 obtain⟨m,⟨o,es,ep,ho,r⟩,_⟩:=id I.loc
 obtain⟨sl,hL⟩:=u.any ho I.free Zs
 exact I.step (g':=s.gens) (d':=s.drawn) (ch:=[]) (fun _ z=>nomatch z) (fun b o _ hb _ e n=>u.keep b o e n hb Zs) (fun b o _ hb _ e n=>u.slot b o e n hb Zs) (fun b o _ e n=>u.free b o e n Zs) (fun b o _ e=>u.there b o e Zs) u.tups u.frzs u.tbls (fun m' hm=>by
  obtain⟨o',es',ep',ho',r'⟩:=hm
  rw[ho]at ho';cases ho'
  exact⟨_,es',ep',hL,r'⟩) hok I.bare
theorem Inv.call {g':Array GenState} {t':Nat} {d':Drawn} {ch:List Addr} (I:Inv X pins σ H s) (u:Un (Cf X.stack) ch H H' s.heap h') (hok:HOk X.prog X.w H' h') (hg:AllBare g')
  (hch:∀b∈ch,(b∈X.ex∨X.s₀.heap.objs.size<=b)/\b≠X.env.locals/\(∀x c,X.env.cells.lookup x=some c->c≠b)/\∀p∈X.pn++pins,p.1≠b) :
  Inv X pins σ H' {s with heap:=h',gens:=g',drawn:=d',toks:=t' }:=by
 obtain⟨m,⟨o,es,ep,ho,r⟩,_⟩:=id I.loc
 obtain⟨sl,hL⟩:=u.any ho I.free fun z=>(hch _ z).2.1 rfl
 exact I.step (ch:=ch) hch (fun b o hL hb hc e n=>u.keep b o e n (fun z=>(List.mem_cons.mp (I.stkSub b z)).elim hL hb) hc) (fun b o _ _ hc e n=>u.any e n hc) (fun b o hc e n=>u.free b o e n hc) (fun b o hc e=>u.there b o e hc) u.tups u.frzs u.tbls (fun m' hm=>by
  obtain⟨o',es',ep',ho',r'⟩:=hm
  rw[ho]at ho';cases ho'
  exact⟨_,es',ep',hL,r'⟩) hok hg
theorem Inv.turned {t':Nat} {it:Addr} (I:Inv X pins σ H s) (k:∀b o,b≠it->s.heap.get? b=some o->h'.get? b=some o) (hn:H it=none) (hL:it≠X.env.locals)
  (h1:it∈X.ex∨X.s₀.heap.objs.size<=it) (h2:∀x c,X.env.cells.lookup x=some c->c≠it) (h3:∀p∈X.pn++pins,p.1≠it):Inv X pins σ H {s with heap:=h',toks:=t' }:=by
 have nit:∀b u,H b=some u->b≠it:=fun b u e z=>by rw[z,hn]at e;cases e
 refine I.step (g':=s.gens) (d':=s.drawn) (ch:=[it]) (fun b hb=>?_) (fun b o _ _ hc e _=>k b o (fun z=>hc (by simp [z])) e) (fun b o _ _ hc e _=>⟨o.slots,k b o (fun z=>hc (by simp [z])) e⟩) (fun _ _ _ _ n=>n)
  (fun b o hc e=>⟨o,k b o (fun z=>hc (by simp [z])) e⟩) (fun _ _ e=>e) (fun _ _ _ e=>e) (fun b ps e=>⟨#[],by rw[e];simp⟩) (fun m hm=>?_) (fun b u e=>?_) I.bare
 ·have e:b=it:=by simpa using hb
  subst e;exact⟨h1,hL,h2,h3⟩
 ·obtain⟨o,es,ep,ho,r⟩:=hm
  exact⟨o,es,ep,k _ o (Ne.symm hL) ho,r⟩
 ·refine(I.hok b u e).stay (fun c v hc q=>k c v ?_ q) (fun _ q=>q) fun _ _ q=>q
  rcases hc with z | z
  ·rw[z];exact nit b u e
  ·exact nit c _ z
theorem Inv.tok (I:Inv X pins σ H s) (t:Nat):Inv X pins σ H {s with toks:=t }:=I.un (h':=s.heap) (t':=t) Un.refl I.hok
theorem Inv.kept {t':Nat} (I:Inv X pins σ H s) (k:∀b u,s.heap.get? b=some u->h'.get? b=some u):Inv X pins σ H {s with heap:=h',toks:=t' }:=I.un (Un.kept k) (I.hok.kept k)
theorem Inv.laid {a:Addr} {o:HO} {t':Nat} (I:Inv X pins σ H s) (k:∀b u,s.heap.get? b=some u->h'.get? b=some u) (hp:s.heap.objs.size<=a) (new:ObjOk X.prog X.w (aI H a o) h' a o) :
  Inv X pins σ (aI H a o) {s with heap:=h',toks:=t' }:=I.un (Un.laid k hp (I.hok.fresh hp)) (I.hok.laid k hp new)
theorem Inv.write {x e:Addr} {o:HO} {t':Nat} (I:Inv X pins σ H s) (mu:Sx (H x)) (he:e=x∨H e=some (.own x)) (k:∀b u,b≠e->s.heap.get? b=some u->h'.get? b=some u) (heo:∃u,h'.get? e=some u)
  (new:ObjOk X.prog X.w (aI H x o) h' x o):Inv X pins σ (aI H x o) {s with heap:=h',toks:=t' }:=I.un (Un.write mu he k heo) (I.hok.write mu he k heo new)
theorem Inv.weak {σ':List (Option V)} (I:Inv X pins σ H s) (hl:σ'.length=σ.length) (w:∀(i:Nat) v,σ'[i]?=some (some v)->σ[i]?=some (some v)):Inv X pins σ' H s:=
 ⟨I.ok,I.os,I.bare,I.base,let ⟨m,hn,hl'⟩:=I.loc;⟨m,hn,fun i x v e1 e2 e3=>hl' i x v e1 (w i v e2) e3⟩,I.cell,I.free,I.freeC,I.pin,I.hok,hl.trans I.len⟩
theorem Inv.pins_of {pins':List (Addr × Obj)} (I:Inv X pins σ H s) (h:∀p∈pins',s.heap.get? p.1=some p.2/\H p.1=none/\p.1≠X.env.locals/\p.1∉X.fs/\∀v,p.2.data≠.cell v):Inv X pins' σ H s:=
 ⟨I.ok,I.os,I.bare,I.base,I.loc,I.cell,I.free,I.freeC,fun p hp=>(Zma.mp hp).elim (fun z=>I.pin p (List.mem_append_left _ z)) (h p),I.hok,I.len⟩
theorem uH {N:List Str} (hN:N.Nodup) {i j:Nat} {x:Str} (a:N[i]?=some x) (b:N[j]?=some x):i=j:=by
 obtain⟨h1,e1⟩:=Zgs.mp a
 obtain⟨h2,e2⟩:=Zgs.mp b
 exact(List.getElem_inj hN).mp (e1.trans e2.symm)
theorem qY {M:Model} {A:Around} {E:Value->Shared->Prop} {i:Nat} {x:Str} {v:V} {u:Value} {Q:Unit->Shared->Prop} (I:Inv X pins σ H s) (hN:X.N.Nodup) (hi:X.N[i]?=some x) (hx:Nc X.env.scope x) (r:RelV v u)
  (h:∀s',Inv X pins (σ.set i (some v)) H s'->(∃a,Heap.SameBut a s.heap s'.heap/\(a=X.env.locals∨X.env.cells.lookup x=some a))->Q () s') (hf:X.fn x=true∨X.env.scope.names.lookup x=some .local:=by first | exact .inl rfl | exact .inr rfl | assumption):wpAny M A (storeName X.env x u) Q E s:=by
 obtain⟨m,hn,hl⟩:=id I.loc
 have hcls:(X.env.scope.kind == .class||(X.env.scope.kind == .module&&X.env.locals != X.env.globals))=false:=by rw[I.ok.kind];rfl
 have hiσ:i<σ.length:=by rw[I.len];exact(Zgs.mp hi).1
 have cne:=I.cne
 have tracked:∀ {a:Addr} {h':Heap},(∃o,s.heap.get? a=some o/\H a=none)->Heap.SameBut a s.heap h'->HOk X.prog X.w H h':=fun {a h'} ha hs b ob e=>by
  obtain⟨_,_,hfree⟩:=ha
  refine(I.hok b ob e).stay (fun c w' hc q=>(hs.2 c ?_).trans q) (fun _ q=>q) fun _ _ q=>q
  rintro rfl
  rcases hc with rfl | hc
  ·rw[hfree]at e;cases e
  ·rw[hfree]at hc;cases hc
 rcases hx with hk | hk
 ·refine wpAny_storeName_local hk hn (fun h' hn' hs=>?_) hcls
  obtain⟨oL,_,_,hoL,_⟩:=id hn
  refine h _ ⟨I.ok,I.os,I.bare,⟨fun b o e n hb hx=>?_,fun b o e n hb hx=>?_,I.base.free,fun b o e hx=>?_,I.base.tups,I.base.frzs,I.base.tbls⟩,⟨_,hn',fun j y v' e1 e2 e3=>?_⟩,fun y c e=>?_,I.free,I.freeC,fun p hp=>?_,tracked ⟨oL,hoL,I.free⟩ hs,by simpa using I.len⟩ ⟨_,hs,.inl rfl⟩
  ·exact(hs.2 b (Nat.ne_of_lt (Nat.lt_of_lt_of_le (Heap.lt_size e) I.ok.above))).trans (I.base.keep b o e n hb hx)
  ·obtain⟨sl,e1⟩:=I.base.slot b o e n hb hx
   exact⟨sl,(hs.2 b (Nat.ne_of_lt (Nat.lt_of_lt_of_le (Heap.lt_size e) I.ok.above))).trans e1⟩
  ·obtain⟨o',e1⟩:=I.base.there b o e hx
   exact⟨o',(hs.2 b (Nat.ne_of_lt (Nat.lt_of_lt_of_le (Heap.lt_size e) I.ok.above))).trans e1⟩
  ·by_cases hj:j=i
   ·subst hj;rw[hi]at e1;cases e1
    rw[List.getElem?_set_self hiσ]at e2;cases e2
    exact⟨u,r,.inl ⟨hk,Zs⟩⟩
   ·rw[List.getElem?_set_ne (Ne.symm hj)]at e2;obtain⟨u',r',q⟩:=hl j y v' e1 e2 e3
    refine⟨u',r',?_⟩
    rcases q with⟨k,e⟩ | ⟨k,c,e,z⟩
    ·refine .inl ⟨k,?_⟩
     have:y≠x:=fun e=>hj (uH hN e1 (e ▸ hi))
     simp [this,e]
    ·exact .inr ⟨k,c,e,z.sameBut hs (cne y c e)⟩
  ·obtain⟨w',z⟩:=I.cell y c e
   exact⟨w',z.sameBut hs (cne y c e)⟩
  ·obtain⟨e,n,ne,nf,d⟩:=I.pin p hp
   exact⟨(hs.2 p.1 ne).trans e,n,ne,nf,d⟩
 ·have hfn:X.fn x=true:=by
   rcases hf with z | z
   ·exact z
   ·rw[z]at hk;cases hk
  obtain⟨c,hc⟩:=I.ok.has x (.inl hk)
  obtain⟨w',z⟩:=I.cell x c hc
  refine wpAny_storeName_cell I.ok.kind hk hc z (fun h' hc' hs=>?_)
  obtain⟨oc,hoc,hocd⟩:=id z
  refine h {s with heap:=h' } ⟨I.ok,I.os,I.bare,⟨fun b o e n hb hx=>?_,fun b o e n hb hx=>?_,I.base.free,fun b o e hx=>?_,I.base.tups,I.base.frzs,I.base.tbls⟩,⟨m,hn.sameBut hs (Ne.symm (cne x c hc)),fun j y v' e1 e2 e3=>?_⟩,fun y c' e=>?_,I.free,I.freeC,fun p hp=>?_,tracked ⟨oc,hoc,I.freeC x c hc⟩ hs,by simpa using I.len⟩ ⟨c,hs,.inr hc⟩
  ·exact(hs.2 b (Nat.ne_of_lt (Nat.lt_of_lt_of_le (Heap.lt_size e) (I.ok.cab x c hfn hc)))).trans (I.base.keep b o e n hb hx)
  ·obtain⟨sl,e1⟩:=I.base.slot b o e n hb hx
   exact⟨sl,(hs.2 b (Nat.ne_of_lt (Nat.lt_of_lt_of_le (Heap.lt_size e) (I.ok.cab x c hfn hc)))).trans e1⟩
  ·obtain⟨o',e1⟩:=I.base.there b o e hx
   exact⟨o',(hs.2 b (Nat.ne_of_lt (Nat.lt_of_lt_of_le (Heap.lt_size e) (I.ok.cab x c hfn hc)))).trans e1⟩
  ·by_cases hj:j=i
   ·subst hj;rw[hi]at e1;cases e1
    rw[List.getElem?_set_self hiσ]at e2;cases e2
    exact⟨u,r,.inr ⟨.inl hk,c,hc,hc'⟩⟩
   ·rw[List.getElem?_set_ne (Ne.symm hj)]at e2;obtain⟨u',r',q⟩:=hl j y v' e1 e2 e3
    refine⟨u',r',?_⟩
    rcases q with q | ⟨k,c',e,z'⟩
    ·exact .inl q
    ·refine .inr ⟨k,c',e,z'.sameBut hs ?_⟩
     rintro rfl
     exact hj (uH hN e1 (I.ok.inj _ _ _ e hc ▸ hi))
  ·by_cases hcc:c'=c
   ·subst hcc;exact⟨_,hc'⟩
   ·obtain⟨w2,z2⟩:=I.cell y c' e
    exact⟨w2,z2.sameBut hs hcc⟩
  ·obtain⟨e,n,ne,nf,d⟩:=I.pin p hp
   refine⟨(hs.2 p.1 ?_).trans e,n,ne,nf,d⟩
   intro q;rw[q,hoc]at e;have q':oc=p.2:=Option.some.inj e
   exact d w' (by rw[<- q'];exact hocd)
theorem uI {M:Model} {A:Around} {E:Value->Shared->Prop} {i:Nat} {x:Str} {v:V} {u:Value} {Q:Unit->Shared->Prop} (I:Inv X pins σ H s) (hN:X.N.Nodup) (hi:X.N[i]?=some x) (hx:Nc X.env.scope x) (r:RelV v u)
  (h:∀s',Inv X pins (σ.set i (some v)) H s'->Q () s') (hf:X.fn x=true∨X.env.scope.names.lookup x=some .local:=by first | exact .inl rfl | exact .inr rfl | assumption):wpAny M A (storeName X.env x u) Q E s:=
 qY I hN hi hx r (fun s' I' _=>h s' I') hf
theorem Inv.call' {s':Shared} {ch:List Addr} (I:Inv X pins σ H s) (ho:s'.os=s.os) (u:Un (Cf X.stack) ch H H' s.heap s'.heap) (hok:HOk X.prog X.w H' s'.heap) (hg:AllBare s'.gens)
  (hch:∀b∈ch,(b∈X.ex∨X.s₀.heap.objs.size<=b)/\b≠X.env.locals/\(∀x c,X.env.cells.lookup x=some c->c≠b)/\∀p∈X.pn++pins,p.1≠b):Inv X pins σ H' s':=by
 obtain⟨h',g',d',t',o'⟩:=s'
 have e:o'=s.os:=ho
 subst e;exact I.call (g':=g') (t':=t') (d':=d') u hok hg hch
end
abbrev XK:=Value->Option Addr->Hp->Prop
abbrev St:=List (Option V)
abbrev VK:=V->Hp->Prop
abbrev TE:=St->Hp->VK->Prop
abbrev TT:=St->Hp->(Bool->Hp->Prop)->Prop
abbrev TA:=St->Hp->(List V->Hp->Prop)->Prop
structure nR where
 nx:St->Hp->Prop
 rt:VK
 bk:St->Hp->Prop:=fun _ _=>False
 ct:St->Hp->Prop:=fun _ _=>False
abbrev TS:=nR->St->Hp->Prop
def EP (X:Cx) (pins:List (Addr × Obj)) (σ:St) (Q:VK) (u:Value) (s':Shared):Prop:=∃v H',Inv X pins σ H' s'/\RelV v u/\Q v H'
def TP (X:Cx) (pins:List (Addr × Obj)) (σ:St) (Q:Bool->Hp->Prop) (b:Bool) (s':Shared):Prop:=∃H',Inv X pins σ H' s'/\Q b H'
def AP (X:Cx) (pins:List (Addr × Obj)) (σ:St) (Q:List V->Hp->Prop) (us:List Value) (s':Shared):Prop:=∃vs H',Inv X pins σ H' s'/\Vals vs us/\Q vs H'
def SP (X:Cx) (pins:List (Addr × Obj)) (D:nR) (f:Flow) (s':Shared):Prop:=
 match f with
 | .next=>∃ σ' H',Inv X pins σ' H' s'/\D.nx σ' H'
 | .brk=>∃ σ' H',Inv X pins σ' H' s'/\D.bk σ' H'
 | .cont=>∃ σ' H',Inv X pins σ' H' s'/\D.ct σ' H'
 | .ret u=>∃v σ' H',Inv X pins σ' H' s'/\RelV v u/\D.rt v H'
def PE (X:Cx) (e:Expr) (t:TE):Prop:=
 ∀(pins:List (Addr × Obj)) (s:Shared) (σ:St) (H:Hp) (Q:VK),Inv X pins σ H s->t σ H Q->wpAny (model X.prog X.w) X.A (eval e X.env) (EP X pins σ Q) X.xe s
def PT (X:Cx) (e:Expr) (t:TT):Prop:=
 ∀(pins:List (Addr × Obj)) (s:Shared) (σ:St) (H:Hp) (Q:Bool->Hp->Prop),Inv X pins σ H s->t σ H Q->wpAny (model X.prog X.w) X.A (isTrue e X.env (eval e X.env)) (TP X pins σ Q) X.xe s
def PW (X:Cx) (e:Expr) (t:TT):Prop:=
 ∀(whole:Sem Value) (pins:List (Addr × Obj)) (s:Shared) (σ:St) (H:Hp) (Q:Bool->Hp->Prop),Inv X pins σ H s->t σ H Q->wpAny (model X.prog X.w) X.A (isTrue e X.env whole) (TP X pins σ Q) X.xe s
theorem PW.pt {X:Cx} {e:Expr} {t:TT} (h:PW X e t):PT X e t:=h _
def PA (X:Cx) (es:List Expr) (t:TA):Prop:=
 ∀(pos:Pos) (pins:List (Addr × Obj)) (s:Shared) (σ:St) (H:Hp) (Q:List V->Hp->Prop),Inv X pins σ H s->t σ H Q->wpAny (model X.prog X.w) X.A (spliced (backTo pos (starEach es X.env))) (AP X pins σ Q) X.xe s
def PS (X:Cx) (st:Stmt) (t:TS):Prop:=
 ∀(pins:List (Addr × Obj)) (s:Shared) (σ:St) (H:Hp) (D:nR),Inv X pins σ H s->t D σ H->wpAny (model X.prog X.w) X.A (exec st X.env) (SP X pins D) X.xe s
def PSs (X:Cx) (st:List Stmt) (t:TS):Prop:=
 ∀(pins:List (Addr × Obj)) (s:Shared) (σ:St) (H:Hp) (D:nR),Inv X pins σ H s->t D σ H->wpAny (model X.prog X.w) X.A (execs st X.env) (SP X pins D) X.xe s
theorem bT {α:Type} {t:Sem α} {Q Q':α->Shared->Prop} {M:Model} {A:Around} {E:Value->Shared->Prop} {s:Shared} (h:wpAny M A t Q E s) (hQ:∀a s,Q a s->Q' a s):wpAny M A t Q' E s:=wpAny_mono h hQ fun _ _ x=>x
end L2
namespace L2
open PySem PySem.Spec PyProof.Rows
section
variable {X:Cx}
theorem Yi {a b:Expr} {ta tb:TE} (ha:PE X a ta) (hb:PE X b tb) {pins:List (Addr × Obj)} {s:Shared} {σ:St} {H:Hp} {R:V->V->Hp->Prop} (I:Inv X pins σ H s) (h:ta σ H fun x H1=>tb σ H1 fun y H2=>R x y H2)
  {α:Type} {Q:α->Shared->Prop} {f:Value->Value->Sem α}
  (hf:∀v u s2 x y H2,Inv X pins σ H2 s2->RelV x v->RelV y u->R x y H2->wpAny (model X.prog X.w) X.A (f v u) Q X.xe s2) :
  wpAny (model X.prog X.w) X.A (eval a X.env) (fun v s₁=>wpAny (model X.prog X.w) X.A (eval b X.env) (fun u s₂=>wpAny (model X.prog X.w) X.A (f v u) Q X.xe s₂) X.xe s₁) X.xe s:=by
 refine bT (ha pins s σ H _ I h) fun v s1 ⟨x,H1,I1,r1,q1⟩=>?_
 refine bT (hb pins s1 σ H1 _ I1 q1) fun u s2 ⟨y,H2,I2,r2,q2⟩=>?_
 exact hf v u s2 x y H2 I2 r1 r2 q2
def Oo (i:Nat):TE:=fun σ H Q=>∃v,σ[i]?=some (some v)/\Q v H
def tC (v:V):TE:=fun _ H Q=>Q v H
theorem Op {i:Nat} {x:Str} {pos:Pos} (hN:X.N[i]?=some x) (hv:Sy X.env.scope x) (hd:(x == ("__debug__":Str))=false:=by decide) (hcd:(x == ("__classdict__":Str))=false:=by decide):PE X (.Name x pos) (Oo i):=by
 intro pins s σ H Q I h;obtain⟨v,e,h⟩:=h
 obtain⟨m,hn,hl⟩:=I.loc
 obtain⟨u,r,l⟩:=hl i x v hN e hv
 have fin:EP X pins σ Q u s:=⟨v,H,I,r,h⟩
 rcases l with⟨hk,hm⟩ | ⟨hk,c,hc,hcell⟩
 ·exact wpAny_Name (wpAny_loadName_local I.ok.kind hk hn hm fin) hd
 ·rcases hk with hk | hk
  ·exact wpAny_Name (wpAny_loadName_cell I.ok.kind hk hc hcell fin) hd
  ·exact wpAny_Name (wpAny_loadName_free I.ok.kind hk hc hcell fin hcd) hd
theorem Oq {i j pos}:PE X (.Constant (.int i) j pos) (tC (.int i)):=fun _ _ _ H _ I h=>wpAny_Constant_int ⟨.int i,H,I.tok _,⟨_,rfl⟩,h⟩
theorem Sz {b j pos}:PE X (.Constant (.bool b) j pos) (tC (.bl b)):=fun _ _ _ H _ I h=>Constant_bool ⟨.bl b,H,I,rfl,h⟩
theorem Os {j pos}:PE X (.Constant .none j pos) (tC .non):=fun _ _ _ H _ I h=>Constant_none ⟨.non,H,I,rfl,h⟩
theorem Ot {x j pos}:PE X (.Constant (.str x) j pos) (tC (.str x)):=fun _ _ _ H _ I h=>Calls.Constant_str ⟨.str x,H,I.tok _,⟨_,rfl⟩,h⟩
def Gl (X:Cx) (x:Str):Prop:=X.env.kindOf x=some .globalImplicit
theorem sJ {E:Value->Shared->Prop} {pins:List (Addr × Obj)} {s:Shared} {σ:St} {H:Hp} {x:Str} {u:Value} {pos:Pos} {Q:Value->Shared->Prop} (I:Inv X pins σ H s) (hg:Gl X x) (hm:X.mg x=some u) (h:Q u s)
  (hd:(x == ("__debug__":Str))=false:=by decide):wpAny (model X.prog X.w) X.A (eval (.Name x pos) X.env) Q E s:=
 Calls.Name_function_global I.ok.kind hg (Calls.loadGlobal_global (by rw[I.ok.glob];exact I.mod.glob.keeps I.bk) hm h) hd
theorem oJ {E:Value->Shared->Prop} {pins:List (Addr × Obj)} {s:Shared} {σ:St} {H:Hp} {x:Str} {u:Value} {pos:Pos} {Q:Value->Shared->Prop} (I:Inv X pins σ H s) (hg:Gl X x) (hm:X.mg x=none) (hv:bootBuiltins x=some u) (h:Q u s)
  (hn:x≠"__name__":=by decide) (hd:(x == ("__debug__":Str))=false:=by decide):wpAny (model X.prog X.w) X.A (eval (.Name x pos) X.env) Q E s:=by
 obtain⟨mb,h1,h2⟩:=I.mod.blt
 exact Calls.Name_function_global I.ok.kind hg (Calls.loadGlobal_builtin (by rw[I.ok.glob];exact I.mod.glob.keeps I.bk) hm (by rw[I.ok.blt];exact h1.keeps I.bk) ((h2 x hn).trans hv) h) hd
theorem Jd {x:Str} {v:V} {u:Value} {pos:Pos} (hg:Gl X x) (hm:X.mg x=some u) (r:RelV v u) (hd:(x == ("__debug__":Str))=false:=by decide):PE X (.Name x pos) (tC v):=
 fun _ _ _ H _ I h=>sJ I hg hm ⟨v,H,I,r,h⟩ hd
theorem Je {x:Str} {v:V} {u:Value} {pos:Pos} (hg:Gl X x) (hm:X.mg x=none) (hv:bootBuiltins x=some u) (r:RelV v u) (hn:x≠"__name__":=by decide) (hd:(x == ("__debug__":Str))=false:=by decide):PE X (.Name x pos) (tC v):=
 fun _ _ _ H _ I h=>oJ I hg hm hv ⟨v,H,I,r,h⟩ hn hd
variable {a b:Expr} {ta tb:TE} {pos:Pos}
def PC (X:Cx) (op:CmpOp) (a b:Expr) (t:TE):Prop:=
 ∀(pins:List (Addr × Obj)) (s:Shared) (σ:St) (H:Hp) (Q:VK),Inv X pins σ H s->t σ H Q →
  wpAny (model X.prog X.w) X.A (eval a X.env) (fun v s₁=>wpAny (model X.prog X.w) X.A (eval b X.env) (fun u s₂=>wpAny (model X.prog X.w) X.A (compareOp op v u) (EP X pins σ Q) X.xe s₂) X.xe s₁) X.xe s
def tB (t:TE):TT:=fun σ H Q=>t σ H fun x H1=>∃c,x=.bl c/\Q c H1
theorem Wk {op:CmpOp} {t:TE} (h:PC X op a b t) (h1:behindInMarks op b=false:=by first | exact nobehind _ Zd Zd | rfl):PT X (.Compare a [op] [b] pos) (tB t):=by
 intro pins s σ H Q I hw;refine wpAny_isTrue_Compare1 (bT (h pins s σ H _ I hw) fun v s1 h1=>bT h1 fun u s2 h2=>bT h2 fun c s3 ⟨x,H1,I1,r1,q1⟩=>?_) h1
 obtain⟨d,rfl,q⟩:=q1
 cases r1
 exact wpAny_truthy_bool ⟨H1,I1,q⟩
theorem Ou {e:Expr} {t:TE} (h:PE X e t) (he:∀whole,isTrue e X.env whole=(do let v ← whole;standAt e.pos;holding [v] (truthy v)):=by intro _;rfl):PT X e (tB t):=by
 intro pins s σ H Q I hw;refine isTrue_plain (bT (h pins s σ H _ I hw) fun v s1 ⟨x,H1,I1,r1,q1⟩=>?_) (he _)
 obtain⟨d,rfl,q⟩:=q1
 cases r1
 exact wpAny_truthy_bool ⟨H1,I1,q⟩
variable {tA tB':TT} {rest:List Expr}
def Ta (t u:TT):TT:=fun σ H Q=>t σ H fun c H1=>if c=true then u σ H1 Q else Q false H1
def Xs (t u:TT):TT:=fun σ H Q=>t σ H fun c H1=>if c=true then Q true H1 else u σ H1 Q
def Tb (t:TT):TT:=fun σ H Q=>t σ H fun c H1=>Q (!c) H1
theorem Jf (ha:PT X a tA):PW X (.BoolOp .And [a] pos) tA:=by
 intro wh pins s σ H Q I h;refine isTrue_and (bT (ha pins s σ H Q I h) fun c s1 e=>?_)
 cases c with
 | true=>exact isTrue_and_nil e
 | false=>exact e
theorem Ov (ha:PT X a tA):PW X (.BoolOp .Or [a] pos) tA:=by
 intro wh pins s σ H Q I h;refine isTrue_or (bT (ha pins s σ H Q I h) fun c s1 e=>?_)
 cases c with
 | false=>exact isTrue_or_nil e
 | true=>exact e
theorem Ow (ha:PT X a tA) (hb:PW X (.BoolOp .And (b::rest) pos) tB'):PW X (.BoolOp .And (a::b::rest) pos) (Ta tA tB'):=by
 intro wh pins s σ H Q I h;refine isTrue_and (bT (ha pins s σ H _ I h) fun c s1 ⟨H1,I1,q1⟩=>?_)
 cases c with
 | true=>exact hb wh pins s1 σ H1 Q I1 q1
 | false=>exact⟨H1,I1,q1⟩
theorem Tc (ha:PT X a tA) (hb:PW X (.BoolOp .Or (b::rest) pos) tB'):PW X (.BoolOp .Or (a::b::rest) pos) (Xs tA tB'):=by
 intro wh pins s σ H Q I h;refine isTrue_or (bT (ha pins s σ H _ I h) fun c s1 ⟨H1,I1,q1⟩=>?_)
 cases c with
 | true=>exact⟨H1,I1,q1⟩
 | false=>exact hb wh pins s1 σ H1 Q I1 q1
theorem Ox (ha:PT X a tA):PT X (.UnaryOp .Not a pos) (Tb tA):=by
 intro pins s σ H Q I h;exact isTrue_not (ha pins s σ H (fun c H1=>Q (!c) H1) I h)
def Cg (ta tb:TE):TE:=fun σ H Q=>ta σ H fun x H1=>∃c,x=.bl c/\if c=true then tb σ H1 Q else Q (.bl false) H1
def Ch (ta:TE):TE:=fun σ H Q=>ta σ H fun x H1=>∃c,x=.bl c/\Q (.bl (!c)) H1
theorem Oy {op} {t:TE} (h:PE X a t):PE X (.BoolOp op [a] pos) t:=fun pins s σ H Q I hw=>BoolOp_one (h pins s σ H Q I hw)
theorem Oz (ha:PE X a ta) (hb:PE X (.BoolOp .And (b::rest) pos) tb):PE X (.BoolOp .And (a::b::rest) pos) (Cg ta tb):=by
 intro pins s σ H Q I h;refine BoolOp_and (bT (ha pins s σ H _ I h) fun v s1 ⟨x,H1,I1,r1,q1⟩=>?_)
 obtain⟨c,rfl,q1⟩:=q1
 cases r1
 refine wpAny_truthy_bool ?_
 cases c with
 | true=>exact hb pins s1 σ H1 Q I1 q1
 | false=>exact⟨.bl false,H1,I1,rfl,q1⟩
theorem Pa (ha:PE X a ta):PE X (.UnaryOp .Not a pos) (Ch ta):=by
 intro pins s σ H Q I h;refine UnaryOp_ (bT (ha pins s σ H _ I h) fun v s1 ⟨x,H1,I1,r1,q1⟩=>?_)
 obtain⟨c,rfl,q1⟩:=q1
 cases r1
 exact not_of (wpAny_truthy_bool ⟨.bl (!c),H1,I1,rfl,q1⟩)
end
end L2
namespace L2
open PySem PySem.Spec PyProof.Rows
def SqL (K:W.Frag) (H:Hp) (a:Addr) (xs:List V):Prop:=
 Rd H a (.lst xs)∨
  ∃(o:Obj) (its:Array Value) (n:Nat),K.lookup a=some o/\o.cls=.type "list"/\o.dict=none/\o.data=.seq its n/\its.size<=sizeLine/\Vals xs its.toList
def SqT (K:W.Frag) (H:Hp) (a:Addr) (xs:List V):Prop:=
 Rd H a (.tup xs)∨
  ∃(o:Obj) (its:Array Value) (n:Nat),K.lookup a=some o/\o.cls=.type "tuple"/\o.data=.seq its n/\its.size<=sizeLine/\Vals xs its.toList
def Wl:Value->Option V
 | .none=>some .non
 | .bool b=>some (.bl b)
 | .int i _=>some (.int i)
 | .str x _=>some (.str x)
 | .bytes b _=>some (.byt b)
 | .float b _=>some (.flt b)
 | .ref a=>some (.ref a)
 | .type n=>some (.ty n)
 | _=>none
theorem RelV.abs {x:V} {u:Value} (r:RelV x u):Wl u=some x:=by
 cases x with
 | non=>cases r;rfl
 | bl _=>cases r;rfl
 | int _=>obtain⟨t,rfl⟩:=r;rfl
 | str _=>obtain⟨t,rfl⟩:=r;rfl
 | byt _=>obtain⟨t,rfl⟩:=r;rfl
 | flt _=>obtain⟨t,rfl⟩:=r;rfl
 | ref _=>cases r;rfl
 | ty _=>cases r;rfl
theorem RelV.inj {x y:V} {u:Value} (r:RelV x u) (q:RelV y u):x=y:=Option.some.inj (r.abs.symm.trans q.abs)
theorem Vals.inj:∀ {xs ys:List V} {us:List Value},Vals xs us->Vals ys us->xs=ys
 | _,_,_,.nil,.nil=>rfl
 | _,_,_,.cons r t,.cons r' t'=>by rw[r.inj r',Vals.inj t t']
section
variable {X:Cx} {pins:List (Addr × Obj)} {σ:St} {H:Hp} {s:Shared} {a:Addr} {xs ys:List V}
theorem SqL.of {K:W.Frag} (h:H a=some (.lst xs)):SqL K H a xs:=.inl (.inl h)
theorem SqT.of {K:W.Frag} (h:H a=some (.tup xs)):SqT K H a xs:=.inl (.inl h)
theorem Inv.list (I:Inv X pins σ H s) (h:SqL X.K H a xs):∃its:List Value,Vals xs its/\PlainL s.heap a its.toArray/\xs.length<=sizeLine:=by
 rcases h with h | ⟨o,its,n,hk,hc,hd,hs,hz,r⟩
 ·obtain⟨z,its,n,r,e⟩:=h.ok I.hok
  exact⟨its,r,⟨_,n,e,rfl,rfl,rfl⟩,z⟩
 ·refine⟨its.toList,r,⟨o,n,I.kIn a o hk,hc,hd,by simpa using hs⟩,?_⟩
  have e:=r.length
  simp only [Array.length_toList]at e
  omega
theorem Inv.tuple (I:Inv X pins σ H s) (h:SqT X.K H a xs):∃its:List Value,Vals xs its/\IsTup s.heap a its.toArray/\xs.length<=sizeLine:=by
 rcases h with h | ⟨o,its,n,hk,hc,hs,hz,r⟩
 ·obtain⟨z,its,r,p⟩:=h.ok I.hok
  exact⟨its,r,p,z⟩
 ·refine⟨its.toList,r,⟨o,I.kIn a o hk,hc,n,by simpa using hs⟩,?_⟩
  have e:=r.length
  simp only [Array.length_toList]at e
  omega
theorem Inv.list_inj (I:Inv X pins σ H s) (h:SqL X.K H a xs) (h':SqL X.K H a ys):xs=ys:=by
 obtain⟨its,r,⟨o,n,e,_,_,d⟩,_⟩:=I.list h
 obtain⟨its',r',⟨o',n',e',_,_,d'⟩,_⟩:=I.list h'
 rw[e]at e';cases e'
 rw[d]at d';injection d' with d1 _
 have:its=its':=by simpa using congrArg Array.toList d1
 subst this;exact r.inj r'
theorem Inv.tuple_inj (I:Inv X pins σ H s) (h:SqT X.K H a xs) (h':SqT X.K H a ys):xs=ys:=by
 obtain⟨its,r,⟨o,e,_,n,d⟩,_⟩:=I.tuple h
 obtain⟨its',r',⟨o',e',_,n',d'⟩,_⟩:=I.tuple h'
 rw[e]at e';cases e'
 rw[d]at d';injection d' with d1 _
 have:its=its':=by simpa using congrArg Array.toList d1
 subst this;exact r.inj r'
end
abbrev Cx.wish (X:Cx) (E:Value->Shared->Prop):Cx:={X with xe:=E }
abbrev Cx.nox (X:Cx):Cx:=X.wish fun _ _=>False
theorem Cx.Ok.wish {X:Cx} (ok:X.Ok) (E:Value->Shared->Prop):(X.wish E).Ok:=
 ⟨ok.mod,ok.kind,ok.glob,ok.blt,ok.above,ok.inj,ok.has,ok.cab,ok.hd,ok.frames,ok.stk,ok.exf,ok.bs,ok.bsz,ok.noex,ok.exfs,ok.funs,ok.frf⟩
theorem Cx.Ok.unwish {X:Cx} {E:Value->Shared->Prop} (ok:(X.wish E).Ok):X.Ok:=
 ⟨ok.mod,ok.kind,ok.glob,ok.blt,ok.above,ok.inj,ok.has,ok.cab,ok.hd,ok.frames,ok.stk,ok.exf,ok.bs,ok.bsz,ok.noex,ok.exfs,ok.funs,ok.frf⟩
section
variable {X:Cx} {pins:List (Addr × Obj)} {σ:St} {H:Hp} {s:Shared} {E:Value->Shared->Prop}
theorem Inv.wish (I:Inv X pins σ H s) (E:Value->Shared->Prop):Inv (X.wish E) pins σ H s:=⟨I.ok.wish E,I.os,I.bare,I.base,I.loc,I.cell,I.free,I.freeC,I.pin,I.hok,I.len⟩
theorem Inv.unwish (I:Inv (X.wish E) pins σ H s):Inv X pins σ H s:=⟨I.ok.unwish,I.os,I.bare,I.base,I.loc,I.cell,I.free,I.freeC,I.pin,I.hok,I.len⟩
theorem SP.unwish {D:nR} {f:Flow} {s':Shared} (h:SP (X.wish E) pins D f s'):SP X pins D f s':=by
 cases f with
 | next=>obtain⟨σ',H',I,q⟩:=h;exact⟨σ',H',I.unwish,q⟩
 | brk=>obtain⟨σ',H',I,q⟩:=h;exact⟨σ',H',I.unwish,q⟩
 | cont=>obtain⟨σ',H',I,q⟩:=h;exact⟨σ',H',I.unwish,q⟩
 | ret u=>obtain⟨v,σ',H',I,r,q⟩:=h;exact⟨v,σ',H',I.unwish,r,q⟩
theorem PSs.nox {st:List Stmt} {t:TS} (h:PSs X.nox st t):PSs X st t:=fun pins s σ H D I hw=>
 wpAny_mono (h pins s σ H D (I.wish _) hw) (fun _ _ q=>q.unwish) fun _ _ z=>False.elim z
end
section
variable {X:Cx} {st:Stmt} {rest:List Stmt} {t u:TS} {e:Expr} {te:TE} {pos:Pos}
def Ci:TS:=fun D σ H=>D.nx σ H
def oK (t u:TS):TS:=fun D σ H=>t {D with nx:=u D } σ H
theorem Jg:PSs X [] Ci:=fun _ _ σ H _ I h=>wpAny_execs_nil ⟨σ,H,I,h⟩
theorem Cj (h1:PS X st t) (h2:PSs X rest u):PSs X (st::rest) (oK t u):=by
 intro pins s σ H D I h;refine wpAny_execs_cons (bT (h1 pins s σ H {D with nx:=u D } I h) fun f s1 q=>?_)
 cases f with
 | next=>
  obtain⟨σ',H',I',q⟩:=q
  exact h2 pins s1 σ' H' D I' q
 | ret v=>exact q
 | brk=>exact q
 | cont=>exact q
theorem Jh (h1:PS X st t):PSs X [st] t:=by
 intro pins s σ H D I h;refine wpAny_execs_cons (bT (h1 pins s σ H D I h) fun f s1 q=>?_)
 cases f with
 | next=>exact wpAny_execs_nil q
 | ret v=>exact q
 | brk=>exact q
 | cont=>exact q
theorem Inv.quiet {pins:List (Addr × Obj)} {σ:St} {H:Hp} {s:Shared} (I:Inv X pins σ H s):interactive X.env=false:=by simp [interactive,I.ok.kind]
def Nd (te:TE):TS:=fun D σ H=>te σ H fun _ H1=>D.nx σ H1
theorem Ji (he:PE X e te) (hs:swapsWith e none pos.line X.env=pure false:=by rfl):PS X (.Expr e pos) (Nd te):=by
 intro pins s σ H D I h;exact wpAny_Expr_any (bT (he pins s σ H _ I h) fun v s1 ⟨x,H1,I1,r1,q1⟩=>⟨σ,H1,I1,q1⟩) I.quiet hs
def Td (te:TE):TS:=fun D σ H=>te σ H D.rt
theorem Pb (he:PE X e te):PS X (.Return (some e) pos) (Td te):=by
 intro pins s σ H D I h;exact wpAny_Return_some (bT (he pins s σ H _ I h) fun v s1 ⟨x,H1,I1,r1,q1⟩=>⟨x,σ,H1,I1,r1,q1⟩)
def wI (c:TT) (t u:TS):TS:=fun D σ H=>c σ H fun b H1=>if b=true then t D σ H1 else u D σ H1
theorem Te {c:Expr} {a b:List Stmt} {tc:TT} (hc:PT X c tc) (ha:PSs X a t) (hb:PSs X b u):PS X (.If c a b pos) (wI tc t u):=by
 intro pins s σ H D I h;refine wpAny_If (bT (hc pins s σ H _ I h) fun d s1 ⟨H1,I1,q1⟩=>?_)
 cases d with
 | true=>exact ha pins s1 σ H1 D I1 q1
 | false=>exact hb pins s1 σ H1 D I1 q1
end
abbrev TG:=V->St->Hp->(St->Hp->Prop)->Prop
abbrev yC:=List V->St->Hp->(St->Hp->Prop)->Prop
def PG (X:Cx) (target:Expr) (t:TG):Prop:=
 ∀(pins:List (Addr × Obj)) (s:Shared) (σ:St) (H:Hp) (v:V) (u:Value) (Q:St->Hp->Prop),Inv X pins σ H s->RelV v u->t v σ H Q →
  wpAny (model X.prog X.w) X.A (assign target X.env u) (fun _ s'=>∃ σ' H',Inv X pins σ' H' s'/\Q σ' H') X.xe s
def Tf (X:Cx) (ts:List Expr) (t:yC):Prop:=
 ∀(pins:List (Addr × Obj)) (s:Shared) (σ:St) (H:Hp) (vs:List V) (us:List Value) (Q:St->Hp->Prop),Inv X pins σ H s->Vals vs us->t vs σ H Q →
  wpAny (model X.prog X.w) X.A (assignInOrder ((assignEach ts X.env).map (·.2)) us) (fun _ s'=>∃ σ' H',Inv X pins σ' H' s'/\Q σ' H') X.xe s
abbrev Ae:=V->V->V->Hp->(Hp->Prop)->Prop
def Jj (X:Cx) (t:Ae):Prop:=
 ∀(pins:List (Addr × Obj)) (s:Shared) (σ:St) (H:Hp) (o i v:V) (ov iv u:Value) (Q:Hp->Prop),Inv X pins σ H s->RelV o ov->RelV i iv->RelV v u->t o i v H Q →
  wpAny (model X.prog X.w) X.A (setItem ov iv u) (fun _ s'=>∃H',Inv X pins σ H' s'/\Q H') X.xe s
section
variable {X:Cx} {pos:Pos}
def aJ (i:Nat):TG:=fun v σ H Q=>Q (σ.set i (some v)) H
theorem Jk {i:Nat} {x:Str} (hN:X.N.Nodup) (hi:X.N[i]?=some x) (hx:Nc X.env.scope x) (hf:X.fn x=true∨X.env.scope.names.lookup x=some .local:=by first | exact .inl rfl | exact .inr rfl | assumption):PG X (.Name x pos) (aJ i):=by
 intro pins s σ H v u Q I r h;exact wpAny_assign_Name (uI I hN hi hx r (fun s' I'=>⟨_,H,I',h⟩) hf)
def Pc:yC:=fun vs σ H Q=>vs=[]/\Q σ H
def Ck (t:TG) (u:yC):yC:=fun vs σ H Q=>∃v r,vs=v::r/\t v σ H fun σ' H'=>u r σ' H' Q
theorem Jl:Tf X [] Pc:=by
 intro pins s σ H vs us Q I r h;obtain⟨e,h⟩:=h
 subst e;cases r
 exact assignInOrder_nil ⟨σ,H,I,h⟩
theorem Cl {e:Expr} {es:List Expr} {t:TG} {u:yC} (h1:PG X e t) (h2:Tf X es u)
  (hs:(assignEach (e::es) X.env).map (·.2)=assign e X.env::(assignEach es X.env).map (·.2):=by rfl):Tf X (e::es) (Ck t u):=by
 intro pins s σ H vs us Q I r h;obtain⟨v,vr,e1,h⟩:=h
 subst e1;cases r with
 | cons r rr=>
  rw[hs];refine assignInOrder_cons (bT (h1 pins s σ H _ _ _ I r h) fun _ s1 ⟨σ1,H1,I1,q1⟩=>?_)
  exact h2 pins s1 σ1 H1 _ _ Q I1 rr q1
def Jm (K:W.Frag) (n:Nat) (t:yC):TG:=fun v σ H Q=>∃a xs,v=.ref a/\SqT K H a xs/\xs.length=n/\t xs σ H Q
theorem Pd {es:List Expr} {k:Nat} {t:yC} {n:Nat} (hc:X.calm=true) (h:Tf X es t)
  (hn:(assignEach es X.env).length=n:=by rfl) (hst:(assignEach es X.env).findIdx? (·.1)=none:=by rfl):PG X (.Tuple es k pos) (Jm X.K n t):=by
 intro pins s σ H v u Q I r hw;obtain⟨a,xs,e1,hq,hl,hw⟩:=hw
 subst e1;cases r
 obtain⟨its,rv,ht,hz⟩:=I.tuple hq
 refine assign_Tuple_tuple (I.ok.hd hc) ht (by simp [hn,<- hl,rv.length]) hst fun h' hx=>?_
 have I1:Inv X pins σ H {s with heap:=h' }:=I.kept (t':=s.toks) fun b o e=>hx b o (Nat.ne_of_lt (Heap.lt_size e)) e
 exact h pins _ σ H xs _ Q I1 (by simpa using rv) hw
def Tg (to ti:TE) (t:Ae):TG:=fun v σ H Q=>to σ H fun o H1=>ti σ H1 fun i H2=>t o i v H2 fun H3=>Q σ H3
theorem Pe {o i:Expr} {to ti:TE} {t:Ae} (ho:PE X o to) (hi:PE X i ti) (hs:Jj X t)
  (ha:∀v,assign (.Subscript o i pos) X.env v=(do
   let ov ← holding [v] (eval o X.env)
   let iv ← holding [v,ov] (eval i X.env)
   standAt pos
   holding [v,ov,iv] (setItem ov iv v)
   release [v,ov,iv] []):=by intro _;rfl):PG X (.Subscript o i pos) (Tg to ti t):=by
 intro pins s σ H v u Q I r h;rw[ha];refine wpAny_bind (wpAny_holding (bT (ho pins s σ H _ I h) fun ov s1 ⟨x,H1,I1,r1,q1⟩=>?_))
 refine wpAny_bind (wpAny_holding (bT (hi pins s1 σ H1 _ I1 q1) fun iv s2 ⟨y,H2,I2,r2,q2⟩=>?_))
 refine wpAny_bind (wpAny_standAt (wpAny_bind (wpAny_holding (bT (hs pins s2 σ H2 x y v ov iv u _ I2 r1 r2 r q2) fun _ s3 ⟨H3,I3,q3⟩=>?_))))
 exact wpAny_release ⟨σ,H3,I3,q3⟩
def Af (te:TE) (g:TG):TS:=fun D σ H=>te σ H fun x H1=>g x σ H1 D.nx
theorem Pf {tg e:Expr} {te:TE} {g:TG} (he:PE X e te) (hg:PG X tg g) (hs:swapsWithSole [tg] e pos.line X.env=pure false:=by rfl) (hw:swappedStores [tg] e X.env=pure none:=by rfl)
  (h1:(assignEach [tg] X.env).map (·.2)=[assign tg X.env]:=by rfl):PS X (.Assign [tg] e pos) (Af te g):=by
 intro pins s σ H D I h;refine wpAny_Assign_stores (bT (he pins s σ H _ I h) fun v s1 ⟨x,H1,I1,r1,q1⟩=>?_) hs hw
 rw[h1];exact bT (hg pins s1 σ H1 x v _ I1 r1 q1) fun _ s2 q=>q
theorem Pg {i:Nat} {x:Str} {e:Expr} {te:TE} {pos':Pos} (hN:X.N.Nodup) (hi:X.N[i]?=some x) (hx:Nc X.env.scope x) (he:PE X e te) (hs:swapsWith e (some (.Name x pos')) pos.line X.env=pure false:=by rfl) (hf:X.fn x=true∨X.env.scope.names.lookup x=some .local:=by first | exact .inl rfl | exact .inr rfl | assumption) :
  PS X (.Assign [.Name x pos'] e pos) (Af te (aJ i)):=by
 intro pins s σ H D I h;refine wpAny_Assign_Name (bT (he pins s σ H _ I h) fun v s1 ⟨y,H1,I1,r1,q1⟩=>?_) hs
 exact uI I1 hN hi hx r1 (fun s2 I2=>⟨_,H1,I2,q1⟩) hf
end
structure It where
 go:Nat->Hp->Prop
 yld:Nat->Hp->V->Hp->Prop
 stop:Nat->Hp->Prop
def nS (X:Cx) (pins:List (Addr × Obj)) (H:Hp) (b:Addr):Prop:=
 H b=none/\b≠X.env.locals/\b∉X.fs/\(b∈X.ex∨X.s₀.heap.objs.size<=b)/\(∀x c,X.env.cells.lookup x=some c->c≠b)/\∀p∈X.pn++pins,p.1≠b
theorem Inv.fpOk {X:Cx} {pins:List (Addr × Obj)} {σ:St} {H H':Hp} {s:Shared} {b:Addr} (I:Inv X pins σ H s) (hb:s.heap.objs.size<=b) (hn:H' b=none):nS X pins H' b:=by
 refine⟨hn,Nat.ne_of_gt (Nat.lt_of_lt_of_le I.lt hb),I.nofs hb,.inr (eK I.sz hb),fun x c e z=>?_,fun p hp z=>?_⟩
 ·obtain⟨v,q⟩:=I.cell x c e
  exact absurd (Nat.lt_of_lt_of_le q.lt (by rw[z];exact hb)) (Nat.lt_irrefl _)
 ·exact absurd (Nat.lt_of_lt_of_le (Heap.lt_size (I.pin p hp).1) (by rw[z];exact hb)) (Nat.lt_irrefl _)
structure sK (P:Program) (w:World) (K:W.Frag) (tg:Expr) (J:It) (fp:List Addr) (it:Addr) (tn:Nat->Heap->Prop):Prop where
 mem:it∈fp
 obj:∀i h,tn i h->∀b∈fp,∃o,h.get? b=some o/\∀v,o.data≠.cell v
 keep:∀i h h',tn i h->(∀b∈fp,∀o,h.get? b=some o->h'.get? b=some o)->tn i h'
 item:∀(X:Cx),X.prog=P->X.w=w->X.K=K->X.calm=true->∀(i:Nat) (pins:List (Addr × Obj)) (s:Shared) (σ:St) (H:Hp) (E:Value->Shared->Prop),Inv X pins σ H s->(∀b∈fp,nS X pins H b)->tn i s.heap->J.go i H →
  wpAny (model P w) X.A (pyNext (.ref it)) (fun r s1=>∃u,r=some u ∧
   wpAny (model P w) X.A (letOwnedTupleGo tg (.ref it) u) (fun _ s2=>∃x H',Inv X pins σ H' s2/\RelV x u/\J.yld i H x H'/\tn (i+1) s2.heap/\∀b∈fp,H' b=none) E s1) E s
 done:∀(X:Cx),X.prog=P->X.w=w->X.K=K->X.calm=true->∀(i:Nat) (pins:List (Addr × Obj)) (s:Shared) (σ:St) (H:Hp) (E:Value->Shared->Prop),Inv X pins σ H s->(∀b∈fp,nS X pins H b)->tn i s.heap->J.stop i H →
  wpAny (model P w) X.A (pyNext (.ref it)) (fun r s1=>r=none/\Inv X pins σ H s1) E s
 self:∀(A:Around) (i:Nat) (s:Shared) (Q:Value->Shared->Prop) (E:Value->Shared->Prop),tn i s.heap->Q (.ref it) s->wpAny (model P w) A (pyIter (.ref it)) Q E s
abbrev TI:=St->Hp->(It->Hp->Prop)->Prop
def Xt (X:Cx) (pins:List (Addr × Obj)) (σ:St) (tg:Expr) (R:It->Hp->Prop) (itv:Value) (s2:Shared):Prop:=
 ∃(it:Addr) (fp:List Addr) (tn:Nat->Heap->Prop) (J:It) (H':Hp),itv=.ref it/\Inv X pins σ H' s2/\sK X.prog X.w X.K tg J fp it tn/\tn 0 s2.heap/\(∀b∈fp,nS X pins H' b)/\R J H'
def PI (X:Cx) (tg iter:Expr) (wi:TI):Prop:=
 ∀(pins:List (Addr × Obj)) (s:Shared) (σ:St) (H:Hp) (R:It->Hp->Prop),Inv X pins σ H s->wi σ H R →
  wpAny (model X.prog X.w) X.A (eval iter X.env) (fun v s1=>wpAny (model X.prog X.w) X.A (pyIter v) (Xt X pins σ tg R) X.xe s1) X.xe s
theorem qZ {M:Model} {A:Around} {E:Value->Shared->Prop} {s:Shared} {tg:Expr} {it:Addr} {u:Value} {o:Obj} {n:String} {vs:Array Value} {Q:Unit->Shared->Prop} (ho:s.heap.get? it=some o) (hc:o.cls=.type n) (hd:o.data=.fields vs)
    (hn:["enumerate","zip","dict_itemiterator","dict_reverseitemiterator","odict_iterator","itertools.zip_longest","itertools.pairwise"].contains n=false) (hQ:Q () s):wpAny M A (letOwnedTupleGo tg (.ref it) u) Q E s:=by
  unfold letOwnedTupleGo;cases tg <;> first
    | exact wpAny_pure hQ
    | (cases u <;> first
        | exact wpAny_pure hQ
        | (refine wpAny_bind (wpAny_load ho ?_)
           rw[hc,hd];show wpAny M A (if (["enumerate","zip","dict_itemiterator","dict_reverseitemiterator","odict_iterator","itertools.zip_longest","itertools.pairwise"].contains n&&vs[0]? == some (rawInt _))=true then _ else _) Q E s
           rw[if_neg (by intro h;rw[hn,Bool.false_and]at h;cases h)]
           exact wpAny_pure hQ))
def Sq (K:W.Frag) (a:Addr):It:=
 ⟨fun i H=>∃xs x,SqL K H a xs/\xs[i]?=some x,fun i H x H'=>H'=H/\∀xs,SqL K H a xs->xs[i]?=some x,fun i H=>∃xs,SqL K H a xs/\xs.length<=i⟩
def Wm (K:W.Frag) (a:Addr):It:=
 ⟨fun i H=>∃xs x,SqT K H a xs/\xs[i]?=some x,fun i H x H'=>H'=H/\∀xs,SqT K H a xs->xs[i]?=some x,fun i H=>∃xs,SqT K H a xs/\xs.length<=i⟩
def Vw (lo:Int) (n:Nat):It:=⟨fun i _=>i<n,fun i H x H'=>H'=H/\x=.int (lo+i),fun i _=>n<=i⟩
theorem Ag {P:Program} {w:World} {K:W.Frag} {tg:Expr} (a it:Addr):sK P w K tg (Sq K a) [it] it (fun i h=>h.IsListIter it a i) where
 mem:=by simp
 obj:=fun i h st b hb=>by
  have e:b=it:=by simpa using hb
  subst e;obtain⟨o,e,c,d⟩:=st
  exact⟨o,e,fun v z=>by rw[d]at z;cases z⟩
 keep:=fun i h h' st k=>st.at fun o e=>k it Zs o e
 item:=by
  intro X hP hw hK hc i pins s σ H E I hf st hg;subst hP hw hK;obtain⟨xs,x,hq,hx⟩:=hg
  obtain⟨its,rv,p,hz⟩:=I.list hq
  obtain⟨u,hu,ru⟩:=rv.get hx
  obtain⟨f0,f1,f2,f3,f4,f5⟩:=hf it Zs
  refine wpAny_pyNext_list_item st p.isList (x:=u) (by simpa using hu) fun h' st' sb=>?_
  have I1:Inv X pins σ H {s with heap:=h' }:=I.turned (t':=s.toks) (fun b o hb e=>(sb.2 b hb).trans e) f0 f1 f3 f4 f5
  obtain⟨o,e,c,d⟩:=id st'
  exact⟨u,rfl,qZ (s:={s with heap:=h' }) e c d Zd ⟨x,H,I1,ru,⟨rfl,fun ys hy=>by rw[I.list_inj hy hq];exact hx⟩,st',fun b hb=>(hf b hb).1⟩⟩
 done:=by
  intro X hP hw hK hc i pins s σ H E I hf st hg;subst hP hw hK;obtain⟨xs,hq,hx⟩:=hg
  obtain⟨its,rv,p,hz⟩:=I.list hq
  obtain⟨f0,f1,f2,f3,f4,f5⟩:=hf it Zs
  have hl:=rv.length
  exact wpAny_pyNext_list_end (I.ok.hd hc) st p.isList (by simp;omega) fun h' eb=>⟨rfl,I.turned (t':=s.toks) (fun b o hb e=>eb b o hb e) f0 f1 f3 f4 f5⟩
 self:=fun _ _ _ _ _ st h=>wpAny_pyIter_listiter st h
theorem wJ {P:Program} {w:World} {K:W.Frag} {tg:Expr} (a it:Addr):sK P w K tg (Wm K a) [it] it (fun i h=>h.IsTupleIter it a i) where
 mem:=by simp
 obj:=fun i h st b hb=>by
  have e:b=it:=by simpa using hb
  subst e;obtain⟨o,e,c,d⟩:=st
  exact⟨o,e,fun v z=>by rw[d]at z;cases z⟩
 keep:=fun i h h' st k=>st.at fun o e=>k it Zs o e
 item:=by
  intro X hP hw hK hc i pins s σ H E I hf st hg;subst hP hw hK;obtain⟨xs,x,hq,hx⟩:=hg
  obtain⟨its,rv,p,hz⟩:=I.tuple hq
  obtain⟨u,hu,ru⟩:=rv.get hx
  obtain⟨f0,f1,f2,f3,f4,f5⟩:=hf it Zs
  refine wpAny_pyNext_tuple_item st (show s.heap.IsTuple a its.toArray from p) (x:=u) (by simpa using hu) fun h' st' sb=>?_
  have I1:Inv X pins σ H {s with heap:=h' }:=I.turned (t':=s.toks) (fun b o hb e=>(sb.2 b hb).trans e) f0 f1 f3 f4 f5
  obtain⟨o,e,c,d⟩:=id st'
  exact⟨u,rfl,qZ (s:={s with heap:=h' }) e c d Zd ⟨x,H,I1,ru,⟨rfl,fun ys hy=>by rw[I.tuple_inj hy hq];exact hx⟩,st',fun b hb=>(hf b hb).1⟩⟩
 done:=by
  intro X hP hw hK hc i pins s σ H E I hf st hg;subst hP hw hK;obtain⟨xs,hq,hx⟩:=hg
  obtain⟨its,rv,p,hz⟩:=I.tuple hq
  obtain⟨f0,f1,f2,f3,f4,f5⟩:=hf it Zs
  have hl:=rv.length
  exact wpAny_pyNext_tuple_end (I.ok.hd hc) st (show s.heap.IsTuple a its.toArray from p) (by simp;omega) fun h' eb=>⟨rfl,I.turned (t':=s.toks) (fun b o hb e=>eb b o hb e) f0 f1 f3 f4 f5⟩
 self:=fun _ _ _ _ _ st h=>wpAny_pyIter_tupleiter st h
theorem wK {P:Program} {w:World} {K:W.Frag} {tg:Expr} (it:Addr) (lo:Int) (n:Nat):sK P w K tg (Vw lo n) [it] it (fun i h=>IsRangeIter h it (lo+(i:Nat)*1) ((n:Int) - (i:Nat)) 1) where
 mem:=by simp
 obj:=fun i h st b hb=>by
  have e:b=it:=by simpa using hb
  subst e;exact⟨_,st,fun v z=>by
   have z':Data.fields _=Data.cell v:=z
   cases z'⟩
 keep:=fun i h h' st k=>k it Zs _ st
 item:=by
  intro X hP hw hK hc i pins s σ H E I hf st hg;subst hP hw hK;obtain⟨f0,f1,f2,f3,f4,f5⟩:=hf it Zs
  have W:=Walks.range (prog:=X.prog) (w:=X.w) (I.ok.hd hc) it lo 1 n
  refine W.item i s _ _ hg st fun v h' tk hv st' kk=>?_
  obtain⟨t,rfl⟩:=hv
  have I1:Inv X pins σ H {s with heap:=h',toks:=tk }:=I.turned (fun b o hb e=>kk b o (by simpa using hb) e) f0 f1 f3 f4 f5
  refine⟨_,rfl,qZ (s:={s with heap:=h',toks:=tk }) (n:="range_iterator") st' rfl rfl Zd ⟨.int (lo+i),H,I1,⟨t,?_⟩,⟨rfl,rfl⟩,st',fun b hb=>(hf b hb).1⟩⟩
  rw[Int.mul_one]
 done:=by
  intro X hP hw hK hc i pins s σ H E I hf st hg;subst hP hw hK;obtain⟨f0,f1,f2,f3,f4,f5⟩:=hf it Zs
  exact wpAny_pyNext_range_end (I.ok.hd hc) st (by have:n<=i:=hg;omega) fun h' eb=>⟨rfl,I.turned (t':=s.toks) (fun b o hb e=>eb b o hb e) f0 f1 f3 f4 f5⟩
 self:=fun _ _ _ _ _ st h=>wpAny_pyIter_rangeiter st h
end L2
namespace L2
open PySem PySem.Spec PyProof.Rows
section
variable {X:Cx} {tg:Expr}
def Cm (K:W.Frag) (tl:TE):TI:=fun σ H R=>tl σ H fun x H1=>∃a,x=.ref a/\(∃xs,SqL K H1 a xs)/\R (Sq K a) H1
def Ph (K:W.Frag) (tl:TE):TI:=fun σ H R=>tl σ H fun x H1=>∃a,x=.ref a/\(∃xs,SqT K H1 a xs)/\R (Wm K a) H1
theorem Jn {l:Expr} {tl:TE} (hl:PE X l tl):PI X tg l (Cm X.K tl):=by
 intro pins s σ H R I h;refine bT (hl pins s σ H _ I h) fun v s1 ⟨x,H1,I1,r1,q1⟩=>?_
 obtain⟨a,e,⟨xs,hq⟩,q⟩:=q1
 subst e;cases r1
 obtain⟨its,rv,p,hz⟩:=I1.list hq
 refine wpAny_pyIter_list p.isList ?_
 refine⟨s1.heap.objs.size,[s1.heap.objs.size],_,_,H1,rfl,I1.kept (t':=s1.toks) fun b o e=>dH _ e,Ag a _,⟨_,Heap.get?_push_size _ rfl,rfl,rfl⟩,fun b hb=>?_,q⟩
 have e:b=s1.heap.objs.size:=by simpa using hb
 subst e;exact I1.fpOk (aV _) (I1.hok.fresh (aV _))
theorem Pi {l:Expr} {tl:TE} (hl:PE X l tl):PI X tg l (Ph X.K tl):=by
 intro pins s σ H R I h;refine bT (hl pins s σ H _ I h) fun v s1 ⟨x,H1,I1,r1,q1⟩=>?_
 obtain⟨a,e,⟨xs,hq⟩,q⟩:=q1
 subst e;cases r1
 obtain⟨its,rv,p,hz⟩:=I1.tuple hq
 refine wpAny_pyIter_tuple (show s1.heap.IsTuple a its.toArray from p) ?_
 refine⟨s1.heap.objs.size,[s1.heap.objs.size],_,_,H1,rfl,I1.kept (t':=s1.toks) fun b o e=>dH _ e,wJ a _,⟨_,Heap.get?_push_size _ rfl,rfl,rfl⟩,fun b hb=>?_,q⟩
 have e:b=s1.heap.objs.size:=by simpa using hb
 subst e;exact I1.fpOk (aV _) (I1.hok.fresh (aV _))
theorem Cn {pins:List (Addr × Obj)} {σ:St} {H:Hp} {s:Shared} {R:It->Hp->Prop} {E:Value->Shared->Prop} {lo hi:Int} {t u v:Tok} {tk:Nat} (I:Inv X pins σ H s) (h1:-(2 ^ 62)<=lo) (h2:lo<2 ^ 62) (h3:-(2 ^ 62)<=hi) (h4:hi<2 ^ 62)
  (q:R (Vw lo (hi - lo).toNat) H):wpAny (model X.prog X.w) X.A (pyIter (.ref s.heap.objs.size)) (Xt X pins σ tg R) E {s with heap:=s.heap.push {cls:=.type "range",data:=.fields #[.int lo t,.int hi u,.int 1 v] },toks:=tk }:=by
 refine wpAny_pyIter_range (IsRange.new ..) (small_one h1 h2 h3 h4) ?_
 have I1:Inv X pins σ H {s with heap:=s.heap.push {cls:=.type "range",data:=.fields #[.int lo t,.int hi u,.int 1 v] },toks:=tk }:=I.kept fun b o e=>dH _ e
 refine⟨(s.heap.push {cls:=.type "range",data:=.fields #[.int lo t,.int hi u,.int 1 v] }).objs.size,[(s.heap.push {cls:=.type "range",data:=.fields #[.int lo t,.int hi u,.int 1 v] }).objs.size],_,_,H,rfl,
  I1.kept (t':=tk) fun b o e=>dH _ e,wK _ lo (hi - lo).toNat,?_,fun b hb=>?_,q⟩
 ·have e1:lo+((0:Nat):Int)*1=lo:=by simp
  have e2:(((hi - lo).toNat:Nat):Int) - ((0:Nat):Int)=Builtin.Range.rangeSize lo hi 1:=by rw[rangeSize_one];split <;> omega
  show IsRangeIter _ _ (lo+((0:Nat):Int)*1) ((((hi - lo).toNat:Nat):Int) - ((0:Nat):Int)) 1
  rw[e1,e2];exact Heap.get?_push_size _ rfl
 ·have e:b=(s.heap.push {cls:=.type "range",data:=.fields #[.int lo t,.int hi u,.int 1 v] }).objs.size:=by simpa using hb
  subst e;exact I1.fpOk (aV _) (I1.hok.fresh (aV _))
def Nf (ta:TA):TI:=fun σ H R=>ta σ H fun vs H1=>∃j:Int,vs=[.int j]/\-(2 ^ 62)<=j/\j<2 ^ 62/\R (Vw 0 j.toNat) H1
theorem Ah {a:Expr} {ta:TA} {p pos:Pos} (hg:Gl X "range") (hm:X.mg "range"=none) (ha:PA X [a] ta) (hs:starEach [a] X.env=[(false,eval a X.env)]:=by rfl):PI X tg (.Call (.Name "range" p) [a] [] pos) (Nf ta):=by
 intro pins s σ H R I h;refine Call_ (oJ I hg hm boot_range (PyProof.Rows.callWith_type1 (bT (ha pos pins s σ H _ I h) fun us s1 ⟨vs,H1,I1,r1,q1⟩=>?_) hs rfl))
 obtain⟨j,e,q1,q2,q⟩:=q1
 subst e;cases r1 with
 | cons r rr=>
  cases rr
  obtain⟨t,rfl⟩:=r
  exact call_range_1 (Cn I1 Zo Zo q1 q2 (by simpa using q))
def Th (wi:TI) (g:TG) (tb:TS):TS:=fun D σ H=>wi σ H fun J H1=>∃W:Nat->Nat->St->Hp->Prop,(∃m,W 0 m σ H1)/\∀i m σ H,W i m σ H →
 (J.stop i H/\D.nx σ H)∨(J.go i H/\∃N:St->Hp->Prop,(∀ σ' H',N σ' H'->∃m',m'<m/\W (i+1) m' σ' H')/\∀x H',J.yld i H x H'->g x σ H' fun σ2 H2=>tb {D with nx:=N,ct:=N,bk:=D.nx } σ2 H2)
def oM (fp:List Addr) (h:Heap):List (Addr × Obj):=fp.filterMap fun b=>(h.get? b).map fun o=>(b,o)
theorem gW {fp:List Addr} {h:Heap} {b:Addr} {o:Obj} (hb:b∈fp) (e:h.get? b=some o):(b,o)∈oM fp h:=List.mem_filterMap.mpr ⟨b,hb,by rw[e];rfl⟩
theorem Ai {fp:List Addr} {h:Heap} {p:Addr × Obj} (hp:p∈oM fp h):p.1∈fp/\h.get? p.1=some p.2:=by
 obtain⟨b,hb,e⟩:=List.mem_filterMap.mp hp
 cases q:h.get? b with
 | none=>rw[q]at e;cases e
 | some o=>
  rw[q]at e;have e':(b,o)=p:=Option.some.inj e
  subst e';exact⟨hb,q⟩
theorem Inv.pinned {pins:List (Addr × Obj)} {σ:St} {H:Hp} {s:Shared} {fp:List Addr} (I:Inv X pins σ H s) (hf:∀b∈fp,nS X pins H b) (ho:∀b∈fp,∃o,s.heap.get? b=some o/\∀v,o.data≠.cell v):Inv X (pins++oM fp s.heap) σ H s:=
 I.pins_of fun p hp=>(Zma.mp hp).elim (fun z=>I.pin p (List.mem_append_right _ z)) fun z=>by
  obtain⟨hb,e⟩:=Ai z
  obtain⟨f0,f1,f2,_⟩:=hf p.1 hb
  obtain⟨o,e',d⟩:=ho p.1 hb
  rw[e]at e';cases e'
  exact⟨e,f0,f1,f2,d⟩
theorem Inv.unpinned {pins pl:List (Addr × Obj)} {σ:St} {H:Hp} {s:Shared} (I:Inv X (pins++pl) σ H s):Inv X pins σ H s:=I.pins_of fun p hp=>I.pin p (List.mem_append_right _ (List.mem_append_left _ hp))
theorem Pj {iter:Expr} {body:List Stmt} {wi:TI} {g:TG} {tb:TS} {pos:Pos} (hp:PassesOwn (model X.prog X.w) X.A X.env X.xe) (hc:X.calm=true) (hi:PI X tg iter wi) (hg:PG X tg g) (hb:PSs X body tb)
  (hs:∀x,foldedSetIterable iter X.env x=pure x:=by intro _;rfl):PS X (.For tg iter body [] pos) (Th wi g tb):=by
 intro pins s σ H D I h;refine wpAny_For (bT (hi pins s σ H _ I h) fun v s1 h1=>bT h1 fun itv s2 h2=>?_) hs
 obtain⟨it,fp,tn,J,H2,e,I2,T,st2,f2,W,⟨m0,w0⟩,turn⟩:=h2
 subst e;have stat:∀ {H':Hp},(∀b∈fp,H' b=none)->∀b∈fp,nS X pins H' b:=fun hn b hb=>⟨hn b hb,(f2 b hb).2⟩
 refine codeAny_forLoop_any (fun n s'=>∃i σ' H',Inv X pins σ' H' s'/\tn i s'.heap/\(∀b∈fp,H' b=none)/\W i n σ' H') ?_ m0 ⟨0,σ,H2,I2,st2,fun b hb=>(f2 b hb).1,w0⟩
 rintro n s3 ⟨i,σ3,H3,I3,st3,fr3,w3⟩
 rcases turn i n σ3 H3 w3 with⟨stop,qn⟩ | ⟨go,N,hN,step⟩
 ·refine wpAny_passesOwn hp (bT (T.done X rfl rfl rfl hc i pins s3 σ3 H3 X.xe I3 (stat fr3) st3 stop) fun r s4 ⟨hr,I4⟩=>?_)
  subst hr;exact wpAny_execs_nil ⟨σ3,H3,I4,qn⟩
 ·refine wpAny_passesOwn hp (bT (T.item X rfl rfl rfl hc i pins s3 σ3 H3 X.xe I3 (stat fr3) st3 go) fun r s4 ⟨u,hr,h4⟩=>?_)
  subst hr;refine wpAny_passesOwn hp (bT h4 fun _ s5 ⟨x,H5,I5,r5,y5,st5,fr5⟩=>?_)
  have I5':=I5.pinned (stat fr5) (T.obj _ _ st5)
  refine wpAny_passesOwn hp (bT (hg _ s5 σ3 H5 x u _ I5' r5 (step x H5 y5)) fun _ s6 ⟨σ6,H6,I6,q6⟩=>?_)
  refine wpAny_passesOwn hp (bT (hb _ s6 σ6 H6 _ I6 q6) fun f s7 q7=>?_)
  have again:∀ {σ7:St} {H7:Hp},Inv X (pins++oM fp s5.heap) σ7 H7 s7->N σ7 H7->∃m,m<n/\∃i σ' H',Inv X pins σ' H' s7/\tn i s7.heap/\(∀b∈fp,H' b=none)/\W i m σ' H':=fun {σ7 H7} I7 n7=>by
   obtain⟨m',hm,w7⟩:=hN σ7 H7 n7
   refine⟨m',hm,i+1,σ7,H7,I7.unpinned,T.keep _ _ _ st5 fun b hb o e=>(I7.pin (b,o) (List.mem_append_right _ (List.mem_append_right _ (gW hb e)))).1,fun b hb=>?_,w7⟩
   obtain⟨o,e,d⟩:=T.obj _ _ st5 b hb
   exact(I7.pin (b,o) (List.mem_append_right _ (List.mem_append_right _ (gW hb e)))).2.1
  cases f with
  | next=>obtain⟨σ7,H7,I7,n7⟩:=q7;exact again I7 n7
  | cont=>obtain⟨σ7,H7,I7,n7⟩:=q7;exact again I7 n7
  | brk=>obtain⟨σ7,H7,I7,q7⟩:=q7;exact⟨σ7,H7,I7.unpinned,q7⟩
  | ret v=>obtain⟨x7,σ7,H7,I7,r7,q7⟩:=q7;exact⟨x7,σ7,H7,I7.unpinned,r7,q7⟩
end
end L2
namespace L2
open PySem PySem.Spec PyProof.Rows
abbrev R2:=V->V->Hp->VK->Prop
def OpR (X:Cx) (f:Value->Value->Sem Value) (r:R2):Prop:=
 ∀(pins:List (Addr × Obj)) (s:Shared) (σ:St) (H:Hp) (x y:V) (v u:Value) (Q:VK),Inv X pins σ H s->RelV x v->RelV y u->r x y H Q →
  wpAny (model X.prog X.w) X.A (f v u) (EP X pins σ Q) X.xe s
def UnR (X:Cx) (f:Value->Sem Value) (r:V->Hp->VK->Prop):Prop:=
 ∀(pins:List (Addr × Obj)) (s:Shared) (σ:St) (H:Hp) (x:V) (v:Value) (Q:VK),Inv X pins σ H s->RelV x v->r x H Q →
  wpAny (model X.prog X.w) X.A (f v) (EP X pins σ Q) X.xe s
def CallR (X:Cx) (f:Value) (r:List V->Hp->VK->Prop):Prop:=
 ∀(pins:List (Addr × Obj)) (s:Shared) (σ:St) (H:Hp) (xs:List V) (us:List Value) (Q:VK),Inv X pins σ H s->Vals xs us->r xs H Q →
  wpAny (model X.prog X.w) X.A (call f us) (EP X pins σ Q) X.xe s
def qI (r:R2) (ta tb:TE):TE:=fun σ H Q=>ta σ H fun x H1=>tb σ H1 fun y H2=>r x y H2 Q
def Wn (r:V->Hp->VK->Prop) (ta:TE):TE:=fun σ H Q=>ta σ H fun x H1=>r x H1 Q
def rI (C:Int->Int->Prop) (g:Int->Int->V):R2:=fun x y H Q=>∃i j,x=.int i/\y=.int j/\C i j/\Q (g i j) H
def Jo (g:Int->Int->V):R2:=fun x y H Q=>∃i j,x=.int i/\y=.int j/\Q (g i j) H
def rU (g:Int->V):V->Hp->VK->Prop:=fun x H Q=>∃i,x=.int i/\Q (g i) H
section
variable {X:Cx} {a b c:Expr} {ta tb tc:TE} {pos:Pos}
theorem Pk (ha:PE X a ta) (hb:PE X b tb) {pins:List (Addr × Obj)} {s:Shared} {σ:St} {H:Hp} {R:V->V->Hp->Prop} (I:Inv X pins σ H s)
  (h:ta σ H fun x H1=>tb σ H1 fun y H2=>R x y H2) {Q:Value->Shared->Prop} {f:Value->Value->Sem Value}
  (hf:∀v u s2 x y H2,Inv X pins σ H2 s2->RelV x v->RelV y u->R x y H2->wpAny (model X.prog X.w) X.A (f v u) Q X.xe s2) :
  wpAny (model X.prog X.w) X.A (eval a X.env) (fun v s₁=>wpAny (model X.prog X.w) X.A (eval b X.env) (fun u s₂=>wpAny (model X.prog X.w) X.A (f v u) Q X.xe s₂) X.xe s₁) X.xe s:=by
 refine bT (ha pins s σ H _ I h) fun v s1 ⟨x,H1,I1,r1,q1⟩=>?_
 refine bT (hb pins s1 σ H1 _ I1 q1) fun u s2 ⟨y,H2,I2,r2,q2⟩=>?_
 exact hf v u s2 x y H2 I2 r1 r2 q2
theorem Ti {op:Operator} {r:R2} (ho:OpR X (binaryOp op) r) (ha:PE X a ta) (hb:PE X b tb):PE X (.BinOp a op b pos) (qI r ta tb):=by
 intro pins s σ H Q I h;exact wpAny_BinOp (Pk ha hb I h fun v u s2 x y H2 I2 rx ry q=>ho pins s2 σ H2 x y v u Q I2 rx ry q)
theorem Tj {op:UnaryOp} {r:V->Hp->VK->Prop} (ho:UnR X (unaryOp op) r) (ha:PE X a ta):PE X (.UnaryOp op a pos) (Wn r ta):=by
 intro pins s σ H Q I h;exact UnaryOp_ (bT (ha pins s σ H _ I h) fun v s1 ⟨x,H1,I1,r1,q1⟩=>ho pins s1 σ H1 x v Q I1 r1 q1)
theorem Vx {f:Value->Value->Sem Value} {C:Int->Int->Prop} {g:Int->Int->Int}
  (rule:∀(i j:Int) (t u:Tok) (s:Shared) (Q:Value->Shared->Prop) (E:Value->Shared->Prop),C i j->Q (.int (g i j) s.toks) {s with toks:=s.toks+1 }->wpAny (model X.prog X.w) X.A (f (.int i t) (.int j u)) Q E s) :
  OpR X f (rI C fun i j=>.int (g i j)):=by
 intro pins s σ H x y v u Q I rx ry h;obtain⟨i,j,rfl,rfl,hc,q⟩:=h
 obtain⟨t,rfl⟩:=rx
 obtain⟨t',rfl⟩:=ry
 exact rule i j t t' s _ _ hc ⟨.int (g i j),H,I.tok _,⟨_,rfl⟩,q⟩
theorem Tk {f:Value->Value->Sem Value} {g:Int->Int->Int}
  (rule:∀(i j:Int) (t u:Tok) (s:Shared) (Q:Value->Shared->Prop) (E:Value->Shared->Prop),Q (.int (g i j) s.toks) {s with toks:=s.toks+1 }->wpAny (model X.prog X.w) X.A (f (.int i t) (.int j u)) Q E s) :
  OpR X f (Jo fun i j=>.int (g i j)):=by
 intro pins s σ H x y v u Q I rx ry h;obtain⟨i,j,rfl,rfl,q⟩:=h
 obtain⟨t,rfl⟩:=rx
 obtain⟨t',rfl⟩:=ry
 exact rule i j t t' s _ _ ⟨.int (g i j),H,I.tok _,⟨_,rfl⟩,q⟩
theorem Jp {f:Value->Value->Sem Value} {g:Int->Int->Bool}
  (rule:∀(i j:Int) (t u:Tok) (s:Shared) (Q:Value->Shared->Prop) (E:Value->Shared->Prop),Q (.bool (g i j)) s->wpAny (model X.prog X.w) X.A (f (.int i t) (.int j u)) Q E s) :
  OpR X f (Jo fun i j=>.bl (g i j)):=by
 intro pins s σ H x y v u Q I rx ry h;obtain⟨i,j,rfl,rfl,q⟩:=h
 obtain⟨t,rfl⟩:=rx
 obtain⟨t',rfl⟩:=ry
 exact rule i j t t' s _ _ ⟨.bl (g i j),H,I,rfl,q⟩
def Pl (i j:Int):Prop:=0<=j/\j<=1000000/\i.natAbs<2 ^ 64
def CMul (i j:Int):Prop:=(-(2 ^ 64)<i/\i<2 ^ 64)∨(-(2 ^ 64)<j/\j<2 ^ 64)
theorem CMul.ok {i j:Int} (h:CMul i j):IntMulOk i j:=by
 rcases h with⟨h1,h2⟩ | ⟨h1,h2⟩
 ·exact .of_left (intBits_le_64 h1 h2)
 ·exact .of_right (intBits_le_64 h1 h2)
theorem Pm:OpR X (binaryOp .Add) (Jo fun i j=>.int (i+j)):=Tk fun _ _ _ _ _ _ _ q=>add_int q
theorem Pn:OpR X (binaryOp .Sub) (Jo fun i j=>.int (i - j)):=Tk fun _ _ _ _ _ _ _ q=>sub_int q
theorem Po:OpR X (binaryOp .Mult) (rI CMul fun i j=>.int (i*j)):=Vx fun _ _ _ _ _ _ _ hc q=>mul_int q hc.ok
theorem Pp:OpR X (binaryOp .Mod) (rI (fun _ j=>0<j) fun i j=>.int (i % j)):=Vx fun i j _ _ _ _ _ hc q=>by
 have h1:(0:Int)<j:=hc
 exact mod_int' Zo (by rw[Int.fmod_eq_emod_of_nonneg i Zo];exact q)
theorem Pq:OpR X (binaryOp .Pow) (rI Pl fun i j=>.int (i ^ j.toNat)):=Vx fun _ _ _ _ _ _ _ hc q=>pow_int_small hc.1 hc.2.1 hc.2.2 q
theorem Yd {f:Value->Sem Value} {g:Int->Int}
  (rule:∀(i:Int) (t:Tok) (s:Shared) (Q:Value->Shared->Prop) (E:Value->Shared->Prop),Q (.int (g i) s.toks) {s with toks:=s.toks+1 }->wpAny (model X.prog X.w) X.A (f (.int i t)) Q E s) :
  UnR X f (rU fun i=>.int (g i)):=by
 intro pins s σ H x v Q I rx h;obtain⟨i,rfl,q⟩:=h
 obtain⟨t,rfl⟩:=rx
 exact rule i t s _ _ ⟨.int (g i),H,I.tok _,⟨_,rfl⟩,q⟩
theorem Pr:UnR X (unaryOp .USub) (rU fun i=>.int (-i)):=Yd fun _ _ _ _ _ q=>neg_int q
end
def scal:V->V->Bool
 | .non,.non=>true | .non,.int _=>true | .int _,.non=>true | .non,.bl _=>true | .bl _,.non=>true | .non,.str _=>true | .str _,.non=>true
 | .int _,.int _=>true | .bl _,.bl _=>true | .str _,.str _=>true | .byt _,.byt _=>true
 | .int _,.str _=>true | .str _,.int _=>true | .bl _,.str _=>true | .str _,.bl _=>true
 | _,_=>false
def Xu:R2:=fun x y H Q=>scal x y=true/\Q (.bl (decide (x=y))) H
def Xv:R2:=fun x y H Q=>scal x y=true/\Q (.bl (!decide (x=y))) H
theorem yD {i j:Int}:decide (V.int i=V.int j)=(i == j):=by
 rw[Bool.eq_iff_iff];simp
theorem Co {i j:Bool}:decide (V.bl i=V.bl j)=(i == j):=by
 rw[Bool.eq_iff_iff];simp
theorem yE {i j:Str}:decide (V.str i=V.str j)=(i == j):=by
 rw[Bool.eq_iff_iff];simp
theorem yF {i j:Array UInt8}:decide (V.byt i=V.byt j)=(i.toList == j.toList):=by
 rw[Bool.eq_iff_iff];cases i
 cases j
 simp
section
variable {X:Cx} {a b c:Expr} {ta tb tc:TE} {pos:Pos}
theorem bC {pins:List (Addr × Obj)} {σ:St} {H:Hp} {s:Shared} {Q:VK} {k k':Bool} (I:Inv X pins σ H s) (q:Q (.bl k) H) (e:k=k'):EP X pins σ Q (.bool k') s:=by
 subst e;exact⟨.bl k,H,I,rfl,q⟩
theorem Ng:OpR X (compareOp .Eq) Xu:=by
 intro pins s σ H x y v u Q I rx ry h;obtain⟨hs,q⟩:=h
 cases x with
 | non=>
  cases rx
  cases y with
  | non=>cases ry;exact PySem.EqNone.eq_none_none (bC I q Zs)
  | bl j=>cases ry;exact PySem.EqNone.eq_none_bool (bC I q Zs)
  | int j=>obtain⟨t',rfl⟩:=ry;exact PySem.EqNone.eq_none_int (bC I q Zs)
  | str j=>obtain⟨t',rfl⟩:=ry;exact PySem.EqNone.eq_none_str (bC I q Zs)
  | _=>exact absurd (show false=true from hs) Bool.false_ne_true
 | bl i=>
  cases rx
  cases y with
  | non=>cases ry;exact PySem.EqNone.eq_bool_none (bC I q Zs)
  | bl j=>cases ry;exact eq_bool (bC I q Co)
  | str j=>obtain⟨t',rfl⟩:=ry;exact PySem.EqMixed.eq_bool_str (bC I q Zs)
  | _=>exact absurd (show false=true from hs) Bool.false_ne_true
 | int i=>
  obtain⟨t,rfl⟩:=rx
  cases y with
  | non=>cases ry;exact PySem.EqNone.eq_int_none (bC I q Zs)
  | int j=>obtain⟨t',rfl⟩:=ry;exact eq_int (bC I q yD)
  | str j=>obtain⟨t',rfl⟩:=ry;exact PySem.EqMixed.eq_int_str (bC I q Zs)
  | _=>exact absurd (show false=true from hs) Bool.false_ne_true
 | str i=>
  obtain⟨t,rfl⟩:=rx
  cases y with
  | non=>cases ry;exact PySem.EqNone.eq_str_none (bC I q Zs)
  | bl j=>cases ry;exact PySem.EqMixed.eq_str_bool (bC I q Zs)
  | int j=>obtain⟨t',rfl⟩:=ry;exact PySem.EqMixed.eq_str_int (bC I q Zs)
  | str j=>obtain⟨t',rfl⟩:=ry;exact eq_str (bC I q yE)
  | _=>exact absurd (show false=true from hs) Bool.false_ne_true
 | byt i=>
  obtain⟨t,rfl⟩:=rx
  cases y with
  | byt j=>obtain⟨t',rfl⟩:=ry;exact W.eq_bytes (bC I q yF)
  | _=>exact absurd (show false=true from hs) Bool.false_ne_true
 | _=>cases y <;> exact absurd (show false=true from hs) Bool.false_ne_true
theorem Nh:OpR X (compareOp .NotEq) Xv:=by
 intro pins s σ H x y v u Q I rx ry h;obtain⟨hs,q⟩:=h
 cases x with
 | non=>
  cases rx
  cases y with
  | non=>cases ry;exact PySem.EqNone.ne_none_none (bC I q Zs)
  | bl j=>cases ry;exact PySem.EqNone.ne_none_bool (bC I q Zs)
  | int j=>obtain⟨t',rfl⟩:=ry;exact PySem.EqNone.ne_none_int (bC I q Zs)
  | str j=>obtain⟨t',rfl⟩:=ry;exact PySem.EqNone.ne_none_str (bC I q Zs)
  | _=>exact absurd (show false=true from hs) Bool.false_ne_true
 | bl i=>
  cases rx
  cases y with
  | non=>cases ry;exact PySem.EqNone.ne_bool_none (bC I q Zs)
  | bl j=>cases ry;exact ne_bool (bC I q (congrArg not Co))
  | str j=>obtain⟨t',rfl⟩:=ry;exact PySem.EqMixed.ne_bool_str (bC I q Zs)
  | _=>exact absurd (show false=true from hs) Bool.false_ne_true
 | int i=>
  obtain⟨t,rfl⟩:=rx
  cases y with
  | non=>cases ry;exact PySem.EqNone.ne_int_none (bC I q Zs)
  | int j=>obtain⟨t',rfl⟩:=ry;exact ne_int (bC I q (congrArg not yD))
  | str j=>obtain⟨t',rfl⟩:=ry;exact PySem.EqMixed.ne_int_str (bC I q Zs)
  | _=>exact absurd (show false=true from hs) Bool.false_ne_true
 | str i=>
  obtain⟨t,rfl⟩:=rx
  cases y with
  | non=>cases ry;exact PySem.EqNone.ne_str_none (bC I q Zs)
  | bl j=>cases ry;exact PySem.EqMixed.ne_str_bool (bC I q Zs)
  | int j=>obtain⟨t',rfl⟩:=ry;exact PySem.EqMixed.ne_str_int (bC I q Zs)
  | str j=>obtain⟨t',rfl⟩:=ry;exact ne_str (bC I q (congrArg not yE))
  | _=>exact absurd (show false=true from hs) Bool.false_ne_true
 | byt i=>
  obtain⟨t,rfl⟩:=rx
  cases y with
  | byt j=>obtain⟨t',rfl⟩:=ry;exact W.ne_bytes (bC I q (congrArg not yF))
  | _=>exact absurd (show false=true from hs) Bool.false_ne_true
 | _=>cases y <;> exact absurd (show false=true from hs) Bool.false_ne_true
theorem Tl:OpR X (compareOp .Lt) (Jo fun i j=>.bl (decide (i<j))):=Jp fun _ _ _ _ _ _ _ q=>lt_int q
theorem Tm:OpR X (compareOp .LtE) (Jo fun i j=>.bl (decide (i<=j))):=Jp fun _ _ _ _ _ _ _ q=>le_int q
theorem To:OpR X (compareOp .Gt) (Jo fun i j=>.bl (decide (j<i))):=Jp fun _ _ _ _ _ _ _ q=>gt_int q
theorem Tp:OpR X (compareOp .GtE) (Jo fun i j=>.bl (decide (j<=i))):=Jp fun _ _ _ _ _ _ _ q=>ge_int q
theorem Ps:OpR X (compareOp .Is) (fun x y H Q=>y=.non/\Q (.bl (decide (x=.non))) H):=by
 intro pins s σ H x y v u Q I rx ry h;obtain⟨rfl,q⟩:=h
 cases ry
 refine is_none_gen (bC I q ?_)
 cases x <;> first
  | (cases rx;rfl)
  | (obtain⟨t,rfl⟩:=rx;rfl)
theorem Jq:OpR X (compareOp .IsNot) (fun x y H Q=>y=.non/\Q (.bl (!decide (x=.non))) H):=by
 intro pins s σ H x y v u Q I rx ry h;obtain⟨rfl,q⟩:=h
 cases ry
 refine isnot_none_gen (bC I q ?_)
 cases x <;> first
  | (cases rx;rfl)
  | (obtain⟨t,rfl⟩:=rx;rfl)
theorem sM (b:Expr) {op:CmpOp} (h:op≠.In:=by decide) (h2:op≠.NotIn:=by decide):behindInMarks op b=false:=by
 have e1:(op == CmpOp.In)=false:=by cases op <;> first | rfl | exact absurd rfl h
 have e2:(op == CmpOp.NotIn)=false:=by cases op <;> first | rfl | exact absurd rfl h2
 cases b <;> simp [behindInMarks,e1,e2]
theorem Jr {op:CmpOp} {r:R2} (ho:OpR X (compareOp op) r) (ha:PE X a ta) (hb:PE X b tb) (hm:behindInMarks op b=false):PE X (.Compare a [op] [b] pos) (qI r ta tb):=by
 intro pins s σ H Q I h;exact wpAny_Compare1 (Pk ha hb I h fun v u s2 x y H2 I2 rx ry q=>ho pins s2 σ H2 x y v u Q I2 rx ry q) hm
def yG (t:TE):TT:=fun σ H Q=>t σ H fun x H'=>∃k,x=.bl k/\Q k H'
theorem Js {op:CmpOp} {r:R2} (ho:OpR X (compareOp op) r) (ha:PE X a ta) (hb:PE X b tb) (hm:behindInMarks op b=false):PT X (.Compare a [op] [b] pos) (yG (qI r ta tb)):=by
 intro pins s σ H Q I h;refine wpAny_isTrue_Compare1 (bT (ha pins s σ H _ I h) fun v s1 ⟨x,H1,I1,r1,q1⟩=>bT (hb pins s1 σ H1 _ I1 q1) fun u s2 ⟨y,H2,I2,r2,q2⟩=>
  bT (ho pins s2 σ H2 x y v u _ I2 r1 r2 q2) fun c s3 ⟨z,H3,I3,r3,k,e,q3⟩=>?_) hm
 subst e;cases r3
 exact wpAny_truthy_bool ⟨H3,I3,q3⟩
def wM (r r':R2) (ta tb tc:TE):TE:=fun σ H Q=>ta σ H fun x H1=>tb σ H1 fun y H2=>r x y H2 fun z H3=>∃k,z=.bl k ∧
 (if k=true then tc σ H3 fun w' H4=>r' y w' H4 Q else Q (.bl false) H3)
theorem Cp {op op':CmpOp} {r r':R2} (ho:OpR X (compareOp op) r) (ho':OpR X (compareOp op') r') (ha:PE X a ta) (hb:PE X b tb) (hc:PE X c tc)
  (hm:lastMarks [op,op'] [b,c]=false:=by with_unfolding_all rfl):PT X (.Compare a [op,op'] [b,c] pos) (yG (wM r r' ta tb tc)):=by
 intro pins s σ H Q I h;refine isTrue_chain (bT (ha pins s σ H _ I h) fun v s1 ⟨x,H1,I1,r1,q1⟩=>test_link (bT (hb pins s1 σ H1 _ I1 q1) fun u s2 ⟨y,H2,I2,r2,q2⟩=>
  bT (ho pins s2 σ H2 x y v u _ I2 r1 r2 q2) fun d s3 ⟨z,H3,I3,r3,k,e,q3⟩=>?_)) hm
 subst e;cases r3
 refine wpAny_truthy_bool ?_
 cases k with
 | false=>
  obtain⟨k',e',q'⟩:=q3
  cases e'
  exact ite_ff ⟨H3,I3,q'⟩
 | true=>
  refine ite_tt (test_last (bT (hc pins s3 σ H3 _ I3 q3) fun w' s4 ⟨z',H4,I4,r4,q4⟩=>bT (ho' pins s4 σ H4 y z' u w' _ I4 r2 r4 q4) fun d' s5 ⟨z2,H5,I5,r5,k2,e2,q5⟩=>?_))
  subst e2;cases r5
  exact wpAny_truthy_bool ⟨H5,I5,q5⟩
theorem mG:(sizeLine:Nat)<2 ^ 63:=by rw[sizeLine_eq];decide
theorem wN:OpR X (binaryOp .Add) (fun x y H Q=>∃i j,x=.str i/\y=.str j/\i.length+j.length<=sizeLine/\Q (.str (i++j)) H):=by
 intro pins s σ H x y v u Q I rx ry h;obtain⟨i,j,rfl,rfl,hz,q⟩:=h
 obtain⟨t,rfl⟩:=rx
 obtain⟨t',rfl⟩:=ry
 exact add_str (fun t' tk=>⟨.str (i++j),H,I.tok _,⟨_,rfl⟩,q⟩) hz
theorem gJ {x:V} {us:List Value} (r:Vals [x] us):∃u,us=[u]/\RelV x u:=by
 cases r with
 | cons r1 r2=>cases r2;exact⟨_,rfl,r1⟩
theorem Ni {x y:V} {us:List Value} (r:Vals [x,y] us):∃u w',us=[u,w']/\RelV x u/\RelV y w':=by
 cases r with
 | cons r1 r2=>
  cases r2 with
  | cons r3 r4=>cases r4;exact⟨_,_,rfl,r1,r3⟩
theorem Aj (hc:X.calm=true):CallR X (.builtin "max") (fun xs H Q=>∃i j,xs=[.int i,.int j]/\Q (.int (if j > i then j else i)) H):=by
 intro pins s σ H xs us Q I r h;obtain⟨i,j,rfl,q⟩:=h
 obtain⟨u,w',rfl,⟨t,rfl⟩,⟨t',rfl⟩⟩:=Ni r
 refine max_two_ints (I.ok.hd hc) fun h' tk k=>⟨_,H,I.kept k,?_,q⟩
 by_cases hj:j > i
 ·rw[if_pos hj,if_pos hj];exact⟨_,rfl⟩
 ·rw[if_neg hj,if_neg hj];exact⟨_,rfl⟩
theorem Ak (hc:X.calm=true):CallR X (.builtin "min") (fun xs H Q=>∃i j,xs=[.int i,.int j]/\Q (.int (if j<i then j else i)) H):=by
 intro pins s σ H xs us Q I r h;obtain⟨i,j,rfl,q⟩:=h
 obtain⟨u,w',rfl,⟨t,rfl⟩,⟨t',rfl⟩⟩:=Ni r
 refine min_two_ints (I.ok.hd hc) fun h' tk k=>⟨_,H,I.kept k,?_,q⟩
 by_cases hj:j<i
 ·rw[if_pos hj,if_pos hj];exact⟨_,rfl⟩
 ·rw[if_neg hj,if_neg hj];exact⟨_,rfl⟩
theorem Al:CallR X (.type "int") (fun xs H Q=>(∃i,xs=[.int i]/\Q (.int i) H)∨∃k,xs=[.bl k]/\Q (.int (if k then 1 else 0)) H):=by
 intro pins s σ H xs us Q I r h;rcases h with⟨i,rfl,q⟩ | ⟨k,rfl,q⟩
 ·obtain⟨u,rfl,t,rfl⟩:=gJ r
  exact call_int_int ⟨.int i,H,I,⟨_,rfl⟩,q⟩
 ·obtain⟨u,rfl,r1⟩:=gJ r
  cases r1
  exact call_int_bool ⟨.int (if k then 1 else 0),H,I.tok _,⟨_,rfl⟩,q⟩
end
end L2
namespace L2
open PySem PySem.Spec PyProof.Rows
structure ObjM (h:Heap) (x dx C:Addr) (mA:Str->Option Value):Prop where
 obj:h.get? x=some (W.instObj C dx)
 ns:h.Ns1 dx mA
 ne:dx≠x
theorem Am {h:Heap} {dx:Addr} {mA:Str->Option Value} (n:h.Ns1 dx mA):∃od,h.get? dx=some od/\∀name,W.lookIn name od=some (mA name):=by
 obtain⟨o,es,ep,ho,hd,hk,_,hm⟩:=n
 refine⟨o,ho,fun name=>?_⟩
 have e:=hm name
 unfold nsFind findBy at e;rw[<- Array.find?_toList]at e;unfold W.lookIn;rw[hd];dsimp only;split
 ·rename_i y q
  rw[q]at e;exact congrArg some e
 ·rename_i q
  rw[q]at e;have a:es.toList.any (·.refKey)=false:=by
   rw[List.any_eq_false];intro y hy;obtain⟨z,t,hkey⟩:=hk y (Array.mem_toList_iff.mp hy)
   simp [DictEntry.refKey,hkey]
  have a':¬ es.toList.any (·.refKey)=true:=by rw[a];exact Bool.false_ne_true
  rw[if_neg a'];exact congrArg some e
theorem ObjM.look {h:Heap} {x dx C:Addr} {mA:Str->Option Value} (I:ObjM h x dx C mA):∃od,W.InstAt h x (W.instObj C dx) C (some od)/\∀name,W.lookIn name od=some (mA name):=
 let ⟨od,ho,hl⟩:=Am I.ns
 ⟨od,⟨I.obj,rfl,rfl,ho⟩,hl⟩
section
variable {prog:Program} {w:World} {A:Around} {E:Value->Shared->Prop} {s:Shared} {K:W.Frag} {x dx C f:Addr} {mA:Str->Option Value} {name:Str} {v:Value}
theorem Jt {expr:Bool} {Q:Value->Shared->Prop} (X:K.In s.heap) (I:ObjM s.heap x dx C mA) (hg:W.plainGet K C name=true) (hh:W.hasDictIn K C=true)
  (ha:W.findIn K (.ref C) name=some none) (hv:mA name=some v) (hv':W.handedIn v=true) (h:Q v {s with toks:=s.toks+1 }) :
  wpAny (model prog w) A (getAttr (.ref x) name expr) Q E s:=by
 obtain⟨od,J,hl⟩:=I.look
 exact W.get_value X J (W.plainGet_of hg).1 (W.findObj_own hh ha rfl (by rw[hl,hv])) hv' h
theorem Cq {pl:Sem Bool} {Q:Value × List Value->Shared->Prop} (X:K.In s.heap) (I:ObjM s.heap x dx C mA) (hg:W.plainGet K C name=true)
  (hf:W.findIn K (.ref C) name=some (some (.ref f))) (ht:W.isFn K (.ref f)=true) (hv:mA name=none) (h:Q (.ref f,[.ref x]) s) :
  wpAny (model prog w) A (getMethod (.ref x) name pl) Q E s:=by
 obtain⟨od,J,hl⟩:=I.look
 exact W.method_fn X J (W.plainGet_of hg).1 (W.plainGet_of hg).2 hf (beq_iff_eq.mp ht) (by show(W.lookIn name od).map (·.isSome)=some false;rw[hl,hv];rfl) h
theorem Ju {ns:List Str} {Q:Unit->Shared->Prop} (X:K.In s.heap) (I:ObjM s.heap x dx C mA)
  (hs:W.findIn K (.ref C) "__setattr__"=some (some (.builtin "object.__setattr__"))) (hp:W.plainOver K C=true) (ht:W.takerIn K C name=some none) (hh:W.hasDictIn K C=true)
  (hw:PySem.Within mA ns) (hsz:ns.length<=sizeLine)
  (h:∀h',ObjM h' x dx C (fun y=>if y=name then some v else mA y)->Heap.SameBut dx s.heap h'->Q () {s with heap:=h',toks:=s.toks+2 }) :
  wpAny (model prog w) A (setAttr (.ref x) name v) Q E s:=by
 obtain⟨od,J,hl⟩:=I.look
 refine W.set_plain X J hs (W.osa_open (s:={s with toks:=s.toks+1 }) (r:=none) X J hp ht fun b=>?_)
 obtain⟨cd,hc,hd'⟩:=W.any_some hh
 have hx:s.heap.get? x=some ⟨.ref C,some dx,.plain,#[]⟩:=I.obj
 refine wpAny_bind (wpAny_pure (wpAny_bind (wpAny_bind (wpAny_loadPart hx (wpAny_bind (W.Looks.here (s:={s with toks:=s.toks+1 }) (W.looks_clsIn X hc) ?_))))))
 rw[hd'];refine wpAny_pure (a:=some dx) (wpAny_bind (wpAny_pure (wpAny_bind ?_)))
 refine wpAny_nsSet1 (s:={s with toks:=s.toks+1 }) I.ns fun h' hn2 hs2=>?_
 obtain⟨oD,esD,epD,hoD,hdD,hcD⟩:=hn2.count (PySem.Within.cons name v hw)
 refine wpAny_bind (wpAny_lookBehind hoD (by rw[hdD];exact pastItsLine_dict (eK hcD (by rw[nZ];omega))) ?_)
 exact wpAny_pure (h _ ⟨(hs2.2 _ (Ne.symm I.ne)).trans I.obj,hn2,I.ne⟩ hs2)
theorem Cr {R:Result->Shared->Prop} {vs:List Value} {kw:List (Str × Value)} (X:K.In s.heap) (hm:W.makesIn K C=true)
  (hi:W.findIn K (.ref C) "__init__"=some (some (.ref f))) (hf:W.typeIn K (.ref f)=some (.type "function"))
  (h:codeAny (model prog w) (A.under (.builtin "type.__call__" ⟨.ref C::vs,kw⟩)) (.call (.ref f) ⟨.ref (s.heap.objs.size+1)::vs,kw⟩) (W.InitBack (s.heap.objs.size+1) R)
   {s with heap:=(s.heap.push W.emptyDict).push (W.instObj C s.heap.objs.size) }) :
  codeAny (model prog w) A (.call (.ref C) ⟨vs,kw⟩) R s:=by
 obtain⟨hh,g,d,t,os⟩:=s
 exact W.make_core (W.makes_of X hm) (W.looks_findIn X hi) (fun self=>W.bind_fn X self hf) (.inl rfl) h
end
def gX (f:Str) (v:V):List (Str × V)->List (Str × V)
 | []=>[(f,v)]
 | (g,x)::r=>if g=f then (g,v)::r else (g,x)::gX f v r
theorem nF (f g:Str) (v:V):∀fs:List (Str × V),(gX f v fs).lookup g=if g=f then some v else fs.lookup g
 | []=>by
  show List.lookup g [(f,v)]=_
  by_cases h:g=f
  ·have hb:(g == f)=true:=beq_iff_eq.mpr h
   simp only [List.lookup,hb,if_pos h]
  ·have hb:(g == f)=false:=beq_eq_false_iff_ne.mpr h
   simp only [List.lookup,hb,if_neg h]
 | (k,x)::r=>by
  have ih:=nF f g v r
  rw[show gX f v ((k,x)::r)=(if k=f then (k,v)::r else (k,x)::gX f v r) from rfl];by_cases hk:k=f
  ·rw[if_pos hk];by_cases h:g=k
   ·have hb:(g == k)=true:=beq_iff_eq.mpr h
    simp only [List.lookup,hb,if_pos (h.trans hk)]
   ·have hb:(g == k)=false:=beq_eq_false_iff_ne.mpr h
    simp only [List.lookup,hb,if_neg (fun e:g=f=>h (e.trans hk.symm))]
  ·rw[if_neg hk];by_cases h:g=k
   ·have hb:(g == k)=true:=beq_iff_eq.mpr h
    simp only [List.lookup,hb,if_neg (fun e:g=f=>hk (h.symm.trans e))]
   ·have hb:(g == k)=false:=beq_eq_false_iff_ne.mpr h
    simp only [List.lookup,hb]
    exact ih
theorem mH (f:Str) (v:V):∀fs:List (Str × V),f∈(gX f v fs).map (·.1)/\∀g,g∈fs.map (·.1)->g∈(gX f v fs).map (·.1)
 | []=>⟨by simp [gX],fun g h=>by simp at h⟩
 | (k,x)::r=>by
  obtain⟨i1,i2⟩:=mH f v r
  rw[show gX f v ((k,x)::r)=(if k=f then (k,v)::r else (k,x)::gX f v r) from rfl];by_cases hk:k=f
  ·rw[if_pos hk];subst hk;exact⟨Zs,fun g h=>by simpa using h⟩
  ·rw[if_neg hk];refine⟨?_,fun g h=>?_⟩
   ·rw[List.map_cons];exact kD _ i1
   ·rw[List.map_cons]at h ⊢;rcases List.mem_cons.mp h with e | e
    ·exact List.mem_cons.mpr (.inl e)
    ·exact kD _ (i2 g e)
theorem nG (f:Str) (v:V):∀fs:List (Str × V),(gX f v fs).length<=fs.length+1
 | []=>by simp [gX]
 | (k,x)::r=>by
  have ih:=nG f v r
  rw[show gX f v ((k,x)::r)=(if k=f then (k,v)::r else (k,x)::gX f v r) from rfl];by_cases hk:k=f
  ·rw[if_pos hk,nZ,nZ];omega
  ·rw[if_neg hk,nZ,nZ];omega
theorem RelO.some_of {v:V} {o:Option Value} (r:RelO (some v) o):∃u,o=some u/\RelV v u:=by
 cases o with
 | none=>exact(show False from r).elim
 | some u=>exact⟨u,rfl,r⟩
theorem RelO.none_of {o:Option Value} (r:RelO none o):o=none:=by
 cases o with
 | none=>rfl
 | some u=>exact(show False from r).elim
theorem Ao {v:V} {u:Value} (r:RelV v u):W.handedIn u=true:=by
 cases v with
 | non=>cases (show u=Value.none from r);rfl
 | bl b=>cases (show u=Value.bool b from r);rfl
 | int i=>obtain⟨t,e⟩:=(show ∃t,u=Value.int i t from r);cases e;rfl
 | str x=>obtain⟨t,e⟩:=(show ∃t,u=Value.str x t from r);cases e;rfl
 | byt b=>obtain⟨t,e⟩:=(show ∃t,u=Value.bytes b t from r);cases e;rfl
 | flt b=>obtain⟨t,e⟩:=(show ∃t,u=Value.float b t from r);cases e;rfl
 | ref a=>cases (show u=Value.ref a from r);rfl
 | ty n=>cases (show u=Value.type n from r);rfl
section
variable {P:Program} {w:World} {H H':Hp} {h h':Heap} {a C dx:Addr} {fs fs':List (Str × V)}
theorem oA (hok:HOk P w H h) (e:H a=some (.ins C dx fs)):∃mA,ObjM h a dx C mA/\(∀f,RelO (fs.lookup f) (mA f))/\PySem.Within mA (fs.map (·.1))/\fs.length<=1000/\H dx=some (.own a):=by
 obtain⟨d,z,ne,ob,mA,n,r,q⟩:=(show ObjOk P w H h a (.ins C dx fs) from hok a _ e)
 exact⟨mA,⟨ob,n,ne⟩,r,q,z,d⟩
end
structure Cls (K:W.Frag) (C:Addr):Prop where
 pg:W.plainGet K C Str.empty=true
 hd:W.hasDictIn K C=true
 po:W.plainOver K C=true
 sa:W.findIn K (.ref C) "__setattr__"=some (some (.builtin "object.__setattr__"))
theorem Cls.get {K:W.Frag} {C:Addr} (c:Cls K C) (f:Str):W.plainGet K C f=true:=c.pg
def NoAttr (K:W.Frag) (C:Addr) (f:Str):Prop:=W.findIn K (.ref C) f=some none
theorem NoAttr.taker {K:W.Frag} {C:Addr} {f:Str} (n:NoAttr K C f):W.takerIn K C f=some none:=by
 unfold W.takerIn;rw[show W.findIn K (.ref C) f=some none from n];rfl
structure Pt (K:W.Frag) (C:Addr) (m:Str) (f:Addr):Prop where
 at_:W.findIn K (.ref C) m=some (some (.ref f))
 fn:W.isFn K (.ref f)=true
 kp:W.keepIn K (.ref f)=true
section
variable {X:Cx} {pins:List (Addr × Obj)} {σ:St} {H:Hp} {s:Shared} {a C dx:Addr} {fs:List (Str × V)} {f:Str} {v:V} {A:Around} {E:Value->Shared->Prop}
theorem wO {b:Bool} {Q:Value->Shared->Prop} (I:Inv X pins σ H s) (e:H a=some (.ins C dx fs)) (c:Cls X.K C) (n:NoAttr X.K C f) (l:fs.lookup f=some v)
  (h:∀u s',Inv X pins σ H s'->RelV v u->Q u s'):wpAny (model X.prog X.w) A (getAttr (.ref a) f b) Q E s:=by
 obtain⟨mA,O,r,_,_,_⟩:=oA I.hok e
 obtain⟨u,hu,ru⟩:=RelO.some_of (v:=v) (o:=mA f) (by rw[<- l];exact r f)
 exact Jt I.kIn O (c.get f) c.hd n hu (Ao ru) (h u _ (I.tok _) ru)
theorem oN {m:Str} {g:Addr} {pl:Sem Bool} {Q:Value × List Value->Shared->Prop} (I:Inv X pins σ H s) (e:H a=some (.ins C dx fs)) (c:Cls X.K C) (k:Pt X.K C m g) (l:fs.lookup m=none)
  (h:Q (.ref g,[.ref a]) s):wpAny (model X.prog X.w) A (getMethod (.ref a) m pl) Q E s:=by
 obtain⟨mA,O,r,_,_,_⟩:=oA I.hok e
 have hn:mA m=none:=RelO.none_of (by rw[<- l];exact r m)
 exact Cq I.kIn O (c.get m) k.at_ k.fn hn h
theorem wP {y:V} {u:Value} {Q:Unit->Shared->Prop} (I:Inv X pins σ H s) (e:H a=some (.ins C dx fs)) (c:Cls X.K C) (n:NoAttr X.K C f) (hl:fs.length<1000) (ry:RelV y u)
  (h:∀s',Inv X pins σ (aI H a (.ins C dx (gX f y fs))) s'->Q () s'):wpAny (model X.prog X.w) A (setAttr (.ref a) f u) Q E s:=by
 obtain⟨mA,O,r,wi,_,ho⟩:=oA I.hok e
 have hz:(fs.map (·.1)).length<=sizeLine:=by rw[aQ,sizeLine_eq];omega
 refine Ju I.kIn O c.sa c.po n.taker c.hd wi hz fun h' O' sb=>h _ ?_
 have hd:∃o,h'.get? dx=some o:=let ⟨o,_,_,e',_⟩:=O'.ns;⟨o,e'⟩
 refine I.write (x:=a) (e:=dx) (by rw[e];exact True.intro) (.inr ho) (fun b q hb z=>(sb.2 b hb).trans z) hd ?_
 refine⟨by rw[aE O.ne];exact ho,?_,O.ne,O'.obj,_,O'.ns,fun g=>?_,fun g hg=>?_⟩
 ·have:=nG f y fs;omega
 ·show RelO ((gX f y fs).lookup g) (if g=f then some u else mA g)
  rw[nF];by_cases q:g=f
  ·rw[if_pos q,if_pos q];exact ry
  ·rw[if_neg q,if_neg q];exact r g
 ·by_cases q:g=f
  ·rw[q];exact(mH f y fs).1
  ·refine(mH f y fs).2 g (wi g fun z=>hg ?_)
   show(if g=f then some u else mA g)=none
   rw[if_neg q];exact z
theorem Inv.made (I:Inv X pins σ H s):Inv X pins σ (aI (aI H s.heap.objs.size (.own (s.heap.objs.size+1))) (s.heap.objs.size+1) (.ins C s.heap.objs.size []))
  {s with heap:=(s.heap.push W.emptyDict).push (W.instObj C s.heap.objs.size) }:=by
 have e1:(s.heap.push W.emptyDict).get? s.heap.objs.size=some W.emptyDict:=Heap.get?_push_size s.heap rfl
 have e2:((s.heap.push W.emptyDict).push (W.instObj C s.heap.objs.size)).get? (s.heap.objs.size+1)=some (W.instObj C s.heap.objs.size):=by
  have:=Heap.get?_push_size (s.heap.push W.emptyDict) (o:=W.instObj C s.heap.objs.size) rfl
  rwa [Heap.size_push]at this
 have e3:(s.heap.push W.emptyDict).Ns s.heap.objs.size (fun _=>none):=⟨W.emptyDict,#[],_,e1,rfl,(fun e he=>absurd he Zs),fun _=>rfl⟩
 have I1:=I.laid (a:=s.heap.objs.size) (o:=.own (s.heap.objs.size+1)) (h':=s.heap.push W.emptyDict) (t':=s.toks) (fun b u q=>dH _ q) (aV _) ⟨_,e1⟩
 refine I1.laid (a:=s.heap.objs.size+1) (o:=.ins C s.heap.objs.size []) (t':=s.toks) (fun b u q=>dH _ q) (Nat.le_of_eq (Heap.size_push _ _)) ?_
 have ne:s.heap.objs.size≠s.heap.objs.size+1:=Nat.ne_of_lt (Nat.lt_succ_self _)
 refine⟨by rw[aE ne,aA],Nat.zero_le _,ne,e2,fun _=>none,(Heap.Ns1.of_empty e3).at fun o q=>dH _ q,fun _=>True.intro,fun y hy=>absurd rfl hy⟩
theorem Jv {prog:Program} {w:World} {env:Env} {e:Expr} {f:Str} {pos:Pos} {s:Shared} {Q:Value->Shared->Prop} (hb:attributeBase e f env (eval e env)=eval e env)
  (h:wpAny (model prog w) A (eval e env) (fun o s₁=>wpAny (model prog w) A (getAttr o f true) Q E s₁) E s):wpAny (model prog w) A (eval (.Attribute e f pos) env) Q E s:=
 Attribute_any_ h (by rw[arm_eval_Attribute,hb])
end
section
variable {X:Cx} {pins:List (Addr × Obj)} {σ:St} {H:Hp} {s:Shared} {A:Around} {E:Value->Shared->Prop} {Q:Value->Shared->Prop} {c:Value} {b:Bool}
inductive kY (K:W.Frag) (H:Hp):V->Value->Prop where
 | non:kY K H .non (.type "NoneType")
 | bl (x:Bool):kY K H (.bl x) (.type "bool")
 | int (i:Int):kY K H (.int i) (.type "int")
 | str (x:Str):kY K H (.str x) (.type "str")
 | flt (x:UInt64):kY K H (.flt x) (.type "float")
 | lst {a:Addr} {xs:List V} (e:H a=some (.lst xs)):kY K H (.ref a) (.type "list")
 | frz {a:Addr} {o:Obj} {xs:List V} (e:H a=some (.frz o (.lst xs))):kY K H (.ref a) (.type "list")
 | tup {a:Addr} {xs:List V} (e:H a=some (.tup xs)):kY K H (.ref a) (.type "tuple")
 | dK {a:Addr} {kvs:List (aW × V)} (e:H a=some (.dK kvs)):kY K H (.ref a) (.type "dict")
 | dT {a:Addr} {kvs:List (List aW × V)} (e:H a=some (.dT kvs)):kY K H (.ref a) (.type "dict")
 | ins {a C dx:Addr} {fs:List (Str × V)} (e:H a=some (.ins C dx fs)) (cl:Cls K C) (ha:W.findIn K (.ref C) "__class__"=some (some (.builtin "object.__class__")))
   (hn:W.specialIn K (.builtin "object.__class__") "__get__"=some (some (.builtin "getset_descriptor.__get__"))) (htk:W.takesIn K (.builtin "object.__class__")=some true)
   (hm:W.mroIn K C (.type "object")=some true):kY K H (.ref a) (.ref C)
theorem Ap {x:V} {u t:Value} (I:Inv X pins σ H s) (rx:RelV x u) (ty:kY X.K H x t) (e:W.kitOne X.K t c=some b) (h:∀tk,Q (.bool b) {s with toks:=tk }) :
  wpAny (model X.prog X.w) A (call (.builtin "isinstance") [u,c]) Q E s:=by
 cases ty with
 | non=>cases (show u=Value.none from rx);exact W.kia_one W.kitx_none I.kIn True.intro e (fun z=>nomatch z) h
 | bl y=>cases (show u=Value.bool y from rx);exact W.kia_one W.kitx_bool I.kIn True.intro e (fun z=>nomatch z) h
 | int i=>obtain⟨t,q⟩:=(show ∃t,u=Value.int i t from rx);cases q;exact W.kia_one W.kitx_int I.kIn True.intro e (fun z=>nomatch z) h
 | str y=>obtain⟨t,q⟩:=(show ∃t,u=Value.str y t from rx);cases q;exact W.kia_one W.kitx_str I.kIn True.intro e (fun z=>nomatch z) h
 | flt y=>obtain⟨t,q⟩:=(show ∃t,u=Value.float y t from rx);cases q;exact W.kia_one W.kitx_float I.kIn True.intro e (fun z=>nomatch z) h
 | @lst a xs ea=>
  cases (show u=Value.ref a from rx)
  obtain⟨_,_,n,_,h1⟩:=(show ObjOk X.prog X.w H s.heap a (.lst xs) from I.hok a _ ea)
  exact W.kia_one W.kitx_list I.kIn ⟨_,h1,rfl⟩ e (fun z=>nomatch z) h
 | @frz a ob xs ea=>
  cases (show u=Value.ref a from rx)
  obtain⟨_,_,_,n,_,h1⟩:=(show ObjOk X.prog X.w H s.heap a (.frz ob (.lst xs)) from I.hok a _ ea)
  exact W.kia_one W.kitx_list I.kIn ⟨_,h1,rfl⟩ e (fun z=>nomatch z) h
 | @tup a xs ea=>
  cases (show u=Value.ref a from rx)
  obtain⟨_,_,_,p⟩:=(show ObjOk X.prog X.w H s.heap a (.tup xs) from I.hok a _ ea)
  obtain⟨o,h1,h2,_⟩:=p
  exact W.kia_one W.kitx_tuple I.kIn ⟨o,h1,h2⟩ e (fun z=>nomatch z) h
 | @dK a kvs ea=>
  cases (show u=Value.ref a from rx)
  obtain⟨_,_,vs,_,p⟩:=(show ObjOk X.prog X.w H s.heap a (.dK kvs) from I.hok a _ ea)
  obtain⟨o,es,ep,h1,h2,_⟩:=p
  exact W.kia_one W.kitx_dict I.kIn ⟨o,h1,h2.1⟩ e (fun z=>nomatch z) h
 | @dT a kvs ea=>
  cases (show u=Value.ref a from rx)
  obtain⟨_,_,xs,_,o,es,ep,h1,h2,_⟩:=(show ObjOk X.prog X.w H s.heap a (.dT kvs) from I.hok a _ ea)
  exact W.kia_one W.kitx_dict I.kIn ⟨o,h1,h2.1⟩ e (fun z=>nomatch z) h
 | @ins a C dx fs ea cl ha hn htk hm=>
  cases (show u=Value.ref a from rx)
  obtain⟨mA,O,_⟩:=oA I.hok ea
  obtain⟨od,J,_⟩:=O.look
  exact W.kia_one (W.kitx_own (cl.get _) cl.hd ha hn htk hm) I.kIn J e (fun z=>nomatch z) h
end
end L2
namespace L2
open PySem PySem.Spec PyProof.Rows
structure Room (k:Nat) (A:Around):Prop where
 hd:A.handled=none
 dp:A.depth+3*k+5<recursionLimit
 un:A.units+16*k+200<cLine
theorem Room.mono {j k:Nat} {A:Around} (r:Room k A) (h:j<=k):Room j A:=⟨r.hd,by have:=r.dp;omega,by have:=r.un;omega⟩
theorem Room.deeper {k:Nat} {A:Around} (r:Room (k+1) A) (env:Env):Room k (A.deeper env):=
 ⟨r.hd,by have:=r.dp;show A.depth+1+3*k+5<_;omega,by have:=r.un;show A.units+3+16*k+200<_;omega⟩
theorem wQ {A:Around} {C:Addr} {us:List Value} {kw:List (Str × Value)}:(A.under (.builtin "type.__call__" ⟨.ref C::us,kw⟩)).depth=A.depth+1:=by
 first | rfl | simp [Around.under,Code.weight,Code.isCreation,Code.isGuard,Code.isCaller,Code.frames,Code.isFrame,guardIds]
theorem wR {A:Around} {C:Addr} {us:List Value} {kw:List (Str × Value)}:(A.under (.builtin "type.__call__" ⟨.ref C::us,kw⟩)).units=A.units+1:=by
 first | rfl | simp [Around.under,Code.cUnits,Code.frames,Code.isFrame]
theorem Room.make {k:Nat} {A:Around} (r:Room (k+1) A) (C:Addr) (us:List Value) (kw:List (Str × Value)):Room k (A.under (.builtin "type.__call__" ⟨.ref C::us,kw⟩)):=
 ⟨r.hd,by have:=r.dp;rw[wQ];omega,by have:=r.un;rw[wR];omega⟩
theorem Room.depth {k:Nat} {A:Around} (r:Room k A):A.depth<recursionLimit:=by have:=r.dp;omega
theorem Room.units {k:Nat} {A:Around} (r:Room k A):A.units+64<cLine:=by have:=r.un;omega
theorem Room.units0 {k:Nat} {A:Around} (r:Room k A):A.units<cLine:=by have:=r.un;omega
def wS:TA:=fun _ H Q=>Q [] H
def kE (ta:TE) (tr:TA):TA:=fun σ H Q=>ta σ H fun x H1=>tr σ H1 fun xs H2=>Q (x::xs) H2
section
variable {X:Cx} {e:Expr} {es:List Expr} {te:TE} {t:TA} {pos:Pos}
theorem wU:PA X [] wS:=fun _ _ _ _ H Q I h=>Calls.spliced_nil ⟨[],H,I,.nil,h⟩
theorem sN (ha:PE X e te) (hr:PA X es t) (hs:starEach (e::es) X.env=(false,eval e X.env)::starEach es X.env:=by rfl):PA X (e::es) (kE te t):=by
 intro pos pins s σ H Q I h;rw[hs];show wpAny _ _ (spliced ((false,eval e X.env)::backTo pos (starEach es X.env))) _ _ s
 refine Calls.spliced_cons (bT (ha pins s σ H _ I h) fun u s1 ⟨x,H1,I1,r1,q1⟩=>?_)
 exact bT (hr pos pins s1 σ H1 _ I1 q1) fun us s2 ⟨xs,H2,I2,r2,q2⟩=>⟨x::xs,H2,I2,.cons r1 r2,q2⟩
def Tq (t:TA):TE:=fun σ H Q=>t σ H fun xs H1=>xs.length<=sizeLine/\∀p,H1 p=none->Q (.ref p) (aI H1 p (.tup xs))
def Tr (t:TA):TE:=fun σ H Q=>t σ H fun xs H1=>xs.length<=sizeLine/\∀p,H1 p=none->Q (.ref p) (aI H1 p (.lst xs))
theorem Pu {x1} (h:PA X es t):PE X (.Tuple es x1 pos) (Tq t):=by
 intro pins s σ H Q I hq;refine wpAny_Tuple_spliced (bT (h pos pins s σ H _ I hq) fun us s1 ⟨xs,H1,I1,r,z,q⟩=>⟨by rw[<- r.length];exact z,?_⟩)
 have hf:H1 s1.heap.objs.size=none:=I1.hok.fresh (aV _)
 refine⟨.ref s1.heap.objs.size,aI H1 s1.heap.objs.size (.tup xs),I1.laid (t':=s1.toks) (fun b u e=>dH _ e) (aV _) ?_,rfl,q _ hf⟩
 exact⟨z,us,r,⟨_,Heap.get?_push_size _ rfl,rfl,_,rfl⟩⟩
theorem Pw (h:PA X es t):PE X (.List es pos) (Tr t):=by
 intro pins s σ H Q I hq;refine wpAny_List_spliced (bT (h pos pins s σ H _ I hq) fun us s1 ⟨xs,H1,I1,r,z,q⟩=>⟨by rw[<- r.length];exact z,?_⟩)
 have hf:H1 s1.heap.objs.size=none:=I1.hok.fresh (aV _)
 refine⟨.ref s1.heap.objs.size,aI H1 s1.heap.objs.size (.lst xs),I1.laid (t':=s1.toks) (fun b u e=>dH _ e) (aV _) ?_,rfl,q _ hf⟩
 exact⟨z,us,0,r,Heap.get?_push_size _ rfl⟩
end
abbrev Sp:=List V->Hp->VK->XK->Prop
abbrev Jb:=List Env->Hp->Shared->XK->Value->Shared->Prop
structure Env0 (P:Program) (w:World) (K:W.Frag) (mg:Str->Option Value) (base:Heap) (A:Around) (outer:List Env) (s:Shared) (H:Hp):Prop where
 frames:A.frames=some outer
 mod:Mod K mg base
 bs:∀b o,base.get? b=some o->s.heap.get? b=some o/\H b=none
 bsz:base.objs.size<=s.heap.objs.size
 funs:s.heap.FunFrames base outer
 frf:∀b∈Cf outer,H b=none
 hok:HOk P w H s.heap
 bare:AllBare s.gens
def CE (outer:List Env) (P:Program) (w:World) (H:Hp) (s:Shared) (Q:VK) (u:Value) (s':Shared):Prop:=
 ∃v H',s'.os=s.os/\AllBare s'.gens/\Un (Cf outer) [] H H' s.heap s'.heap/\HOk P w H' s'.heap/\RelV v u/\Q v H'
def CR (CX:Jb) (outer:List Env) (P:Program) (w:World) (H:Hp) (s:Shared) (Q:VK) (E:XK) (r:Result) (s':Shared):Prop:=
 match r with
 | .ok (.ret u)=>CE outer P w H s Q u s'
 | .ok _=>False
 | .error e=>CX outer H s E e s'
structure kA (P:Program) (w:World) (K:W.Frag) (mg:Str->Option Value) (base:Heap) (CX:Jb) (k:Nat) (f:Addr) (fd:FuncData) (ps:List Str) (sp:Sp):Prop where
 len:∀vs H Q E,sp vs H Q E->vs.length=ps.length
 run:∀(A:Around) (outer:List Env) (s:Shared) (H:Hp) (args:Args) (us:List Value) (vs:List V) (Q:VK) (E:XK),Room k A->Env0 P w K mg base A outer s H->BindsTo s fd args (ps.zip us)->Vals vs us->sp vs H Q E →
  codeAny (model P w) A (.call (.ref f) args) (CR CX outer P w H s Q E) s
theorem Env0.make {P:Program} {w:World} {K:W.Frag} {mg:Str->Option Value} {base:Heap} {A:Around} {outer:List Env} {s:Shared} {H:Hp} (e:Env0 P w K mg base A outer s H) (C:Addr) (us:List Value) (kw:List (Str × Value)) :
  Env0 P w K mg base (A.under (.builtin "type.__call__" ⟨.ref C::us,kw⟩)) outer s H:=⟨by first | exact e.frames | (simpa [Around.under,Code.envs,Code.isFrame,pushEnvs]using e.frames),e.mod,e.bs,e.bsz,e.funs,e.frf,e.hok,e.bare⟩
section
variable {X:Cx} {pins:List (Addr × Obj)} {σ:St} {H:Hp} {s s':Shared}
theorem Inv.env0 (I:Inv X pins σ H s):Env0 X.prog X.w X.K X.mg X.base X.A X.stack s H:=
 ⟨I.ok.frames,I.ok.mod,I.bs,eK I.ok.bsz I.sz,I.stack,I.stkFree,I.hok,I.bare⟩
theorem Inv.after {Q:VK} {u:Value} (I:Inv X pins σ H s) (h:CE X.stack X.prog X.w H s Q u s'):EP X pins σ Q u s':=by
 obtain⟨v,H',os,bare,un,hok,r,q⟩:=h
 obtain⟨hh,g,d,t,os'⟩:=s'
 obtain rfl:os'=s.os:=os
 exact⟨v,H',I.call (h':=hh) (g':=g) (d':=d) (t':=t) (ch:=[]) un hok bare (fun b z=>absurd z Zs),r,q⟩
end
def Ts (sp:Sp) (dvs:List V) (E:XK) (t:TA):TE:=fun σ H Q=>t σ H fun vs H1=>sp (vs++dvs) H1 Q E
def Nj (C:Addr) (sp:Sp) (dvs:List V) (E:XK) (t:TA):TE:=fun σ H Q=>t σ H fun vs H1=>∀x dx,H1 x=none->H1 dx=none->dx≠x →
 sp (.ref x::(vs++dvs)) (aI (aI H1 dx (.own x)) x (.ins C dx [])) (fun v H2=>v=.non/\Q (.ref x) H2) E
def Binds (K:W.Frag) (fd:FuncData) (ps:List Str) (ds:List Value):Prop:=
 ∀(s:Shared) (us:List Value),K.In s.heap->(us++ds).length=ps.length->BindsTo s fd ⟨us,[]⟩ (ps.zip (us++ds))
theorem Binds.all {K:W.Frag} {fd:FuncData} {ps:List Str} (h:∀us:List Value,us.length=ps.length->bindArgs fd ⟨us,[]⟩=pure (ps.zip us)):Binds K fd ps []:=fun s us _ hl=>by
 rw[List.append_nil]at hl ⊢;exact .of_eq (h us hl)
def oO (CX:Jb) (X:Cx) (E:XK):Prop:=∀(pins:List (Addr × Obj)) (σ:St) (H:Hp) (s:Shared) (e:Value) (s':Shared),Inv X pins σ H s->CX X.stack H s E e s'->X.xe e s'
section
variable {X:Cx} {CX:Jb} {k:Nat} {f C:Addr} {fd:FuncData} {ps:List Str} {sp:Sp} {dvs:List V} {ds:List Value} {E:XK} {x m:Str} {p pos apos:Pos} {e o:Expr} {es:List Expr} {ta:TE} {t:TA}
theorem wV {pins:List (Addr × Obj)} {σ:St} {H:Hp} {s:Shared} {Q:VK} {us:List Value} {vs:List V} (F:kA X.prog X.w X.K X.mg X.base CX k f fd ps sp) (hr:Room k X.A) (hb:Binds X.K fd ps ds) (hd:Vals dvs ds) (hx:oO CX X E)
  (I:Inv X pins σ H s) (r:Vals vs us) (h:sp (vs++dvs) H Q E):wpAny (model X.prog X.w) X.A (call (.ref f) us) (EP X pins σ Q) X.xe s:=by
 have r2:Vals (vs++dvs) (us++ds):=r.append hd
 have hl:(us++ds).length=ps.length:=by rw[<- r2.length];exact F.len _ _ _ _ h
 refine wpAny_call (codeAny_mono (F.run X.A X.stack s H ⟨us,[]⟩ (us++ds) (vs++dvs) Q E hr I.env0 (hb s us I.kIn hl) r2 h) fun r s' hq=>?_)
 cases r with
 | error e=>exact hx pins σ H s e s' I hq
 | ok fl=>
  cases fl with
  | ret u=>exact I.after hq
  | next=>exact False.elim hq
  | brk=>exact False.elim hq
  | cont=>exact False.elim hq
theorem Jw (F:kA X.prog X.w X.K X.mg X.base CX k f fd ps sp) (hr:Room k X.A) (hg:Gl X x) (hm:X.mg x=some (.ref f)) (hk:W.keepIn X.K (.ref f)=true) (hb:Binds X.K fd ps ds) (hd:Vals dvs ds) (hx:oO CX X E)
  (ha:PA X (e::es) t) (hdb:(x == ("__debug__":Str))=false:=by decide) (he:starEach (e::es) X.env=(false,eval e X.env)::starEach es X.env:=by rfl) (hpl:(backTo pos (starEach es X.env)).any (·.1)=false:=by rfl) :
  PE X (.Call (.Name x p) (e::es) [] pos) (Ts sp dvs E t):=by
 intro pins s σ H Q I h;refine wpAny_Call_Name_kw (sJ I hg hm ?_ hdb)
 refine W.callWith_K (h₀:=X.base) I.ok.mod.kin hk (bT (ha pos pins s σ H _ I h) fun us s1 ⟨vs,H1,I1,r,q⟩=>⟨I1.kIn,?_⟩) he hpl
 exact wV F hr hb hd hx I1 r q
structure Mk (K:W.Frag) (C f:Addr):Prop where
 makes:W.makesIn K C=true
 init:W.findIn K (.ref C) "__init__"=some (some (.ref f))
 fn:W.isFn K (.ref f)=true
 kp:W.keepIn K (.ref C)=true
theorem Cs {pins:List (Addr × Obj)} {σ:St} {H:Hp} {s:Shared} {Q:VK} {us:List Value} {vs:List V} (M:Mk X.K C f) (F:kA X.prog X.w X.K X.mg X.base CX k f fd ps sp) (hr:Room (k+1) X.A) (hb:Binds X.K fd ps ds) (hd:Vals dvs ds)
  (hx:oO CX X E) (I:Inv X pins σ H s) (r:Vals vs us)
  (h:∀x dx,H x=none->H dx=none->dx≠x->sp (.ref x::(vs++dvs)) (aI (aI H dx (.own x)) x (.ins C dx [])) (fun v H2=>v=.non/\Q (.ref x) H2) E) :
  wpAny (model X.prog X.w) X.A (call (.ref C) us) (EP X pins σ Q) X.xe s:=by
 have hq:=h (s.heap.objs.size+1) s.heap.objs.size (I.hok.fresh (Nat.le_succ _)) (I.hok.fresh (aV _)) (Nat.ne_of_lt (Nat.lt_succ_self _))
 have I2:=Inv.made (C:=C) I
 have r2:Vals (V.ref (s.heap.objs.size+1)::(vs++dvs)) (Value.ref (s.heap.objs.size+1)::(us++ds)):=.cons rfl (r.append hd)
 have hl:(Value.ref (s.heap.objs.size+1)::us++ds).length=ps.length:=by
  have e:=r2.length
  rw[F.len _ _ _ _ hq]at e;exact e.symm
 refine wpAny_call (Cr (f:=f) I.kIn M.makes M.init (beq_iff_eq.mp M.fn) (codeAny_mono (F.run _ X.stack _ _ ⟨Value.ref (s.heap.objs.size+1)::us,[]⟩ (Value.ref (s.heap.objs.size+1)::(us++ds)) _ _ E (hr.make C us [])
  (I2.env0.make C us []) (hb _ (Value.ref (s.heap.objs.size+1)::us) I2.kIn hl) r2 hq) fun r s' hq'=>?_))
 cases r with
 | error e=>exact hx pins σ _ _ e s' I2 hq'
 | ok fl=>
  cases fl with
  | ret u=>
   obtain⟨v,H',I3,rv,ev,q3⟩:=I2.after hq'
   subst ev;exact⟨rv,⟨V.ref (s.heap.objs.size+1),H',I3,rfl,q3⟩⟩
  | next=>exact False.elim hq'
  | brk=>exact False.elim hq'
  | cont=>exact False.elim hq'
theorem Jx (M:Mk X.K C f) (F:kA X.prog X.w X.K X.mg X.base CX k f fd ps sp) (hr:Room (k+1) X.A) (hg:Gl X x) (hm:X.mg x=some (.ref C)) (hb:Binds X.K fd ps ds) (hd:Vals dvs ds) (hx:oO CX X E)
  (ha:PA X (e::es) t) (hdb:(x == ("__debug__":Str))=false:=by decide) (he:starEach (e::es) X.env=(false,eval e X.env)::starEach es X.env:=by rfl) (hpl:(backTo pos (starEach es X.env)).any (·.1)=false:=by rfl) :
  PE X (.Call (.Name x p) (e::es) [] pos) (Nj C sp dvs E t):=by
 intro pins s σ H Q I h;refine wpAny_Call_Name_kw (sJ I hg hm ?_ hdb)
 refine W.callWith_K (h₀:=X.base) I.ok.mod.kin M.kp (bT (ha pos pins s σ H _ I h) fun us s1 ⟨vs,H1,I1,r,q⟩=>⟨I1.kIn,?_⟩) he hpl
 exact Cs M F hr hb hd hx I1 r q
end
structure aN (N P:List Str) (sc:Scope):Prop where
 kind:sc.kind=.function
 co:sc.isCoroutine=false
 gen:sc.isGenerator=false
 nd:N.Nodup
 pre:N.take P.length=P
 par:∀x∈P,sc.names.lookup x=some .local∨sc.names.lookup x=some .cell
 nofree:∀y∈sc.names,y.2≠.free
theorem rA {kindOf:Str->Option NameKind} {x:Str}:∀ {binds:List (Str × Value)} {m:Str->Option Value},(∀v,(x,v)∉binds)->bindL kindOf binds m x=m x
 | [],_,_=>rfl
 | (n,v)::r,m,h=>by
  unfold bindL;rw[rA fun w hw=>h w (kD _ hw)]
  split
  ·have:x≠n:=by rintro rfl;exact h v iM
   simp [this]
  ·rfl
theorem rB {kindOf:Str->Option NameKind} {x:Str}:∀ {binds:List (Str × Value)} {m:Str->Option Value},(∀v,(x,v)∉binds)->bindC kindOf binds m x=m x
 | [],_,_=>rfl
 | (n,v)::r,m,h=>by
  unfold bindC;rw[rB fun w hw=>h w (kD _ hw)]
  split
  ·rfl
  ·have:x≠n:=by rintro rfl;exact h v iM
   simp [this]
theorem rC {kindOf:Str->Option NameKind} {x:Str} {v:Value}:∀ {P:List Str} {vs:List Value} {i:Nat} {m:Str->Option Value},P.Nodup->P[i]?=some x->vs[i]?=some v->kindOf x=some .local →
  bindL kindOf (P.zip vs) m x=some v
 | [],_,_,_,_,h,_,_=>by simp at h
 | _::_,[],_,_,_,_,h,_=>by simp at h
 | p::P,w::vs,0,m,nd,h1,h2,hk=>by
  simp at h1 h2;subst h1;subst h2
  show bindL kindOf ((p,w)::P.zip vs) m p=_
  unfold bindL;rw[rA fun v hv=>(List.nodup_cons.mp nd).1 (List.of_mem_zip hv).1,if_pos hk]
  simp
 | p::P,w::vs,i+1,m,nd,h1,h2,hk=>by
  show bindL kindOf ((p,w)::P.zip vs) m x=_
  unfold bindL;exact rC (i:=i) (List.nodup_cons.mp nd).2 (by simpa using h1) (by simpa using h2) hk
theorem rD {kindOf:Str->Option NameKind} {x:Str} {v:Value}:∀ {P:List Str} {vs:List Value} {i:Nat} {m:Str->Option Value},P.Nodup->P[i]?=some x->vs[i]?=some v->kindOf x≠some .local →
  bindC kindOf (P.zip vs) m x=some v
 | [],_,_,_,_,h,_,_=>by simp at h
 | _::_,[],_,_,_,_,h,_=>by simp at h
 | p::P,w::vs,0,m,nd,h1,h2,hk=>by
  simp at h1 h2;subst h1;subst h2
  show bindC kindOf ((p,w)::P.zip vs) m p=_
  unfold bindC;rw[rB fun v hv=>(List.nodup_cons.mp nd).1 (List.of_mem_zip hv).1,if_neg hk]
  simp
 | p::P,w::vs,i+1,m,nd,h1,h2,hk=>by
  show bindC kindOf ((p,w)::P.zip vs) m x=_
  unfold bindC;exact rD (i:=i) (List.nodup_cons.mp nd).2 (by simpa using h1) (by simpa using h2) hk
def start (N:List Str) (vs:List V):St:=vs.map some++List.replicate (N.length - vs.length) none
def kZ (CX:Jb) (P:Program) (w:World) (K:W.Frag) (mg:Str->Option Value) (base:Heap) (N:List Str) (qual:Str) (scope:Scope) (f:Addr) (cd:Value) (A:Around) (outer:List Env) (s:Shared) (H:Hp) (E:XK):Cx where
 prog:=P
 w:=w
 K:=K
 mg:=mg
 base:=base
 A:=A.deeper (envOfC qual scope s.heap.objs.size f cd)
 N:=N
 s₀:=s
 H₀:=H
 env:=envOfC qual scope s.heap.objs.size f cd
 outer:=outer
 stack:=envOfC qual scope s.heap.objs.size f cd::outer
 ex:=[]
 calm:=true
 fn:=fun _=>true
 pn:=[]
 xe:=fun e s'=>wpAny (model P w) (A.deeper (envOfC qual scope s.heap.objs.size f cd)) (leaving (envOfC qual scope s.heap.objs.size f cd) e) (fun _ s''=>CX outer H s E e s'') (fun e' s''=>CX outer H s E e' s'') s'
theorem uJ {sc:Scope} {n:Nat} {x:Str} (h:sc.names.lookup x=some .cell):∃c,(cellsFrom n sc.names []).lookup x=some c:=by
 have q:=W.cellsFrom_some sc.names n [] (.inl h)
 exact Option.isSome_iff_exists.mp q
theorem Aq {CX:Jb} {P:Program} {w:World} {K:W.Frag} {mg:Str->Option Value} {base:Heap} {N ps:List Str} {qual:Str} {scope:Scope} {f:Addr} {cd:Value} {A:Around} {outer:List Env} {s s1:Shared} {H:Hp} {E:XK} {us:List Value} {vs:List V}
  (S:aN N ps scope) (hd:A.handled=none) (e0:Env0 P w K mg base A outer s H) (hl:vs.length=ps.length) (r:Vals vs us)
  (x:InCallC s s.heap.objs.size (bindL (envOfC qual scope s.heap.objs.size f cd).kindOf (ps.zip us) fun _=>none) (cellsFrom (s.heap.objs.size+1) scope.names []) (bindC (envOfC qual scope s.heap.objs.size f cd).kindOf (ps.zip us) fun _=>none) s1) :
  Inv (kZ CX P w K mg base N qual scope f cd A outer s H E) [] (start N vs) H s1:=by
 have hpl:ps.length<=N.length:=by have:=congrArg List.length S.pre;rw[nQ]at this;omega
 obtain⟨h1,tk,rfl,hk⟩:=x.done
 have noA:∀b:Addr,b∉(kZ CX P w K mg base N qual scope f cd A outer s H E).ex:=fun b z=>absurd (show b∈([]:List Addr) from z) Zs
 refine⟨⟨e0.mod,S.kind,rfl,rfl,aV _,fun y z c h1 h2=>?_,fun y hy=>?_,fun y c _ h=>?_,fun _=>hd,Around.frames_deeper e0.frames,.inr ⟨rfl,rfl⟩,fun b z=>absurd z (noA b),e0.bs,e0.bsz,fun b _ _=>noA b,fun b z=>absurd z (noA b),e0.funs,e0.frf⟩,
  rfl,e0.bare,Un.kept hk,⟨_,x.toInCall.ns,fun i y v h1 h2 h3=>?_⟩,fun y c h=>⟨_,x.cell y c h⟩,e0.hok.fresh (aV _),fun y c h=>?_,fun p hp=>absurd (show p∈([]:List (Addr × Obj)) from hp) Zs,e0.hok.kept hk,?_⟩
 ·exact name_of_addr x.apart (PySem.mem_of_lookup h1) (PySem.mem_of_lookup h2)
 ·have hy:scope.names.lookup y=some .cell∨scope.names.lookup y=some .free:=hy
  rcases hy with hy | hy
  ·exact uJ hy
  ·exact absurd rfl (S.nofree _ (PySem.mem_of_lookup hy))
 ·exact Nat.le_of_lt (x.above y c (PySem.mem_of_lookup h))
 ·have hi:i<vs.length:=by
   unfold start at h2;by_cases hi:i<vs.length
   ·exact hi
   ·rw[List.getElem?_append_right (by simpa using hi)]at h2
    rw[List.getElem?_replicate]at h2;split at h2 <;> cases h2
  have ha:vs[i]?=some v:=by
   unfold start at h2;rw[List.getElem?_append_left (by simpa using hi),dR]at h2
   cases e:vs[i]? with
   | none=>rw[e]at h2;cases h2
   | some a=>rw[e]at h2;cases h2;rfl
  obtain⟨u,hu,rv⟩:=r.get ha
  have hp:ps[i]?=some y:=by
   rw[<- S.pre,List.getElem?_take_of_lt Zo];exact h1
  have ndP:ps.Nodup:=by rw[<- S.pre];exact S.nd.sublist (List.take_sublist _ _)
  refine⟨u,rv,?_⟩
  rcases S.par y (jM hp) with k | k
  ·exact .inl ⟨k,rC ndP hp hu k⟩
  ·obtain⟨c,e⟩:=uJ (n:=s.heap.objs.size+1) k
   refine .inr ⟨.inl k,c,e,?_⟩
   have q:=x.cell y c e
   rw[rD ndP hp hu (by show scope.names.lookup y≠_;rw[k];decide)]at q
   exact q
 ·exact e0.hok.fresh (Nat.le_of_lt (x.above y c (PySem.mem_of_lookup h)))
 ·unfold start;show _=N.length
  rw[iK,aQ,List.length_replicate];omega
theorem Nk {CX:Jb} {P:Program} {w:World} {K:W.Frag} {mg:Str->Option Value} {base:Heap} {k:Nat} {f:Addr} {name qual:Str} {params:Arguments} {body:List Stmt} {scope:Scope} {dV kV doc pm cdv ct oc:Value} {an od:Option Addr}
  {osl:Array (Option Value)} {N ps:List Str} {sp:Sp} (lk:K.lookup f=some ⟨oc,od,.func (W.fnOf name qual params body scope dV kV doc pm an cdv ct),osl⟩) (hcd:W.codeIn K cdv qual=true) (S:aN N ps scope)
  (len:∀vs H Q E,sp vs H Q E->vs.length=ps.length)
  (hbody:∀(A:Around) (outer:List Env) (s:Shared) (H:Hp) (vs:List V) (Q:VK) (E:XK),Room k (A.deeper (envOfC qual scope s.heap.objs.size f cdv))->sp vs H Q E →
   ∃t,PSs (kZ CX P w K mg base N qual scope f cdv A outer s H E) body t/\t {nx:=fun _ H'=>Q .non H',rt:=Q } (start N vs) H) :
  kA P w K mg base CX (k+1) f (W.fnOf name qual params body scope dV kV doc pm an cdv ct) ps sp:=by
 refine⟨len,fun A outer s H args us vs Q E hr e0 hb r hsp=>?_⟩
 have hl:=len _ _ _ _ hsp
 have KX:K.In s.heap:=e0.mod.kin.keeps fun b o e=>(e0.bs b o e).1
 have lim:s.heap.NoLimit:=e0.mod.nolimit.keeps fun b o e=>(e0.bs b o e).1
 have hkind:∀y∈ps.zip us,scope.names.lookup y.1=some .local∨(scope.names.lookup y.1=some .cell/\((cellsFrom (s.heap.objs.size+1) scope.names []).lookup y.1).isSome=true):=fun⟨n,v⟩ hy=>by
  rcases S.par n (List.of_mem_zip hy).1 with q | q
  ·exact .inl q
  ·exact .inr ⟨q,W.cellsFrom_some _ _ _ (.inl q)⟩
 refine codeAny_call_function hr.depth (KX _ _ lk) rfl S.co S.gen rfl (W.codeRec_of KX hcd) (hb _ _ _ _ ?_)
 refine wpAny_newFunctionEnv_cells S.kind hkind fun env he s1 x=>?_
 subst he;refine⟨lim.keeps x.toInCall.keep,codeAny_func ?_⟩
 obtain⟨t,ht,hq⟩:=hbody A outer s H vs Q E (hr.deeper _) hsp
 have I:Inv (kZ CX P w K mg base N qual scope f cdv A outer s H E) [] (start N vs) H s1:=Aq S hr.hd e0 hl r x
 refine wpAny_mono (ht [] s1 (start N vs) H _ I hq) (fun fl s' hs=>?_) fun e s' hs=>hs
 have fin:∀ {σ':St} {H':Hp} {v:V} {u:Value},Inv (kZ CX P w K mg base N qual scope f cdv A outer s H E) [] σ' H' s'->RelV v u->Q v H'->CE outer P w H s Q u s':=
  fun {σ' H' v u} J rv q=>⟨v,H',J.os,J.bare,J.base,J.hok,rv,q⟩
 cases fl with
 | ret u=>
  obtain⟨v,σ',H',J,rv,q⟩:=hs
  exact fin J rv q
 | next=>
  obtain⟨σ',H',J,q⟩:=hs
  exact fin (v:=V.non) (u:=Value.none) J rfl q
 | brk=>
  obtain⟨_,_,_,q⟩:=hs
  exact False.elim q
 | cont=>
  obtain⟨_,_,_,q⟩:=hs
  exact False.elim q
end L2
namespace L2
open PySem PySem.Spec PyProof.Rows
section
variable {X:Cx} {x:Str} {p pos:Pos} {e:Expr} {es:List Expr} {t:TA} {id T:String} {r:List V->Hp->VK->Prop}
def Sr (r:List V->Hp->VK->Prop) (t:TA):TE:=fun σ H Q=>t σ H fun vs H1=>r vs H1 Q
theorem uK (hc:CallR X (.builtin id) r) (hg:Gl X x) (hm:X.mg x=none) (hv:bootBuiltins x=some (.builtin id)) (ha:PA X (e::es) t) (hn:x≠"__name__":=by decide) (hdb:(x == ("__debug__":Str))=false:=by decide)
  (he:starEach (e::es) X.env=(false,eval e X.env)::starEach es X.env:=by rfl) (hpl:(backTo pos (starEach es X.env)).any (·.1)=false:=by rfl):PE X (.Call (.Name x p) (e::es) [] pos) (Sr r t):=by
 intro pins s σ H Q I h;refine wpAny_Call_Name_kw (oJ I hg hm hv ?_ hn hdb)
 exact PyProof.Rows.callWith_builtin1 (bT (ha pos pins s σ H _ I h) fun us s1 ⟨vs,H1,I1,r1,q1⟩=>hc pins s1 σ H1 vs us Q I1 r1 q1) he hpl
theorem Ar (hc:CallR X (.type T) r) (hg:Gl X x) (hm:X.mg x=none) (hv:bootBuiltins x=some (.type T)) (ha:PA X (e::es) t) (hn:x≠"__name__":=by decide) (hdb:(x == ("__debug__":Str))=false:=by decide)
  (he:starEach (e::es) X.env=(false,eval e X.env)::starEach es X.env:=by rfl) (hpl:(backTo pos (starEach es X.env)).any (·.1)=false:=by rfl):PE X (.Call (.Name x p) (e::es) [] pos) (Sr r t):=by
 intro pins s σ H Q I h;refine wpAny_Call_Name_kw (oJ I hg hm hv ?_ hn hdb)
 exact PyProof.Rows.callWith_type1 (bT (ha pos pins s σ H _ I h) fun us s1 ⟨vs,H1,I1,r1,q1⟩=>hc pins s1 σ H1 vs us Q I1 r1 q1) he hpl
end
end L2
namespace HT
open PySem PyProof.Rows
section
variable {prog:Program} {w:World} {A:Around} {E:Value->Shared->Prop} {s:Shared}
theorem cat_tup {t b:Addr} {vs ws:List Value} {Q:Value->Shared->Prop} (ht:IsTup s.heap t vs.toArray) (hb:IsTup s.heap b ws.toArray) (hv:vs≠[])
  (h1:ws=[]->Q (.ref t) s) (h2:ws≠[]->Q (.ref s.heap.objs.size) {s with heap:=s.heap.push {cls:=.type "tuple",data:=.seq (vs++ws).toArray } })
  (hsz:vs.length+ws.length<=sizeLine):wpAny (model prog w) A (binaryOp .Add (.ref t) (.ref b)) Q E s:=by
 obtain⟨⟨cls,dd,data,sl⟩,ho,hc,n,hd⟩:=id ht
 obtain⟨⟨cls2,dd2,data2,sl2⟩,ho2,hc2,n2,hd2⟩:=id hb
 simp only at hc hd hc2 hd2
 subst hc hd hc2 hd2;have e:vs.toArray++ws.toArray=(vs++ws).toArray:=by simp
 by_cases hw:ws=[]
 ·exact concat_meets ⟨_,ho,rfl⟩ ⟨_,ho2,rfl⟩ noFill_tuple_add seq_tuple_add PySem.F.slot_tuple_add PySem.F.entry_tuple_add (PySem.F.args_tuple_add_2 _ _)
   (tuple_addW1 t b vs.toArray ws.toArray n n2 dd dd2 sl sl2 (by simpa using hv) (by simp [hw])) ⟨ho,ho2,h1 hw⟩
 ·refine concat_meets ⟨_,ho,rfl⟩ ⟨_,ho2,rfl⟩ noFill_tuple_add seq_tuple_add PySem.F.slot_tuple_add PySem.F.entry_tuple_add (PySem.F.args_tuple_add_2 _ _)
   (tuple_addW2 t b vs.toArray ws.toArray n n2 dd dd2 sl sl2 (by simpa using hv) (by simpa using hw) (by rw[dG,dG];exact hsz)) ⟨ho,ho2,?_⟩
  rw[e];exact h2 hw
def sIx (n d:Nat):Option Int->Nat
 | none=>d
 | some v=>if v<0 then (v+(n:Int)).toNat else min v.toNat n
theorem sIx_none (n d:Nat):sIx n d none=d:=rfl
theorem sIx_nat (n d k:Nat):sIx n d (some (k:Int))=min k n:=by
 show(if (k:Int)<0 then ((k:Int)+(n:Int)).toNat else min (k:Int).toNat n)=min k n
 rw[if_neg Zo,Int.toNat_natCast]
theorem Px (n d:Nat) (hd:d<=n) (o:Option Int):sIx n d o<=n:=by
 cases o with
 | none=>exact hd
 | some v=>
  show(if v<0 then (v+(n:Int)).toNat else min v.toNat n)<=n
  by_cases hv:v<0
  ·rw[if_pos hv];omega
  ·rw[if_neg hv];exact Nat.min_le_right _ _
theorem yH (v:Int) (n d:Nat):(if v<0 then max (v+(n:Int)) 0 else min v (n:Int))=((sIx n d (some v):Nat):Int):=by
 show(if v<0 then max (v+(n:Int)) 0 else min v (n:Int))=(((if v<0 then (v+(n:Int)).toNat else min v.toNat n):Nat):Int)
 by_cases hv:v<0
 ·simp only [if_pos hv];omega
 ·simp only [if_neg hv];omega
theorem wW (lo hi:Option Int) (n:Nat):Builtin.Slice.sliceAdjust lo hi 1 (n:Int)=(((sIx n 0 lo:Nat):Int),((sIx n n hi:Nat):Int)):=by
 have h1:¬ ((1:Int)<0):=by omega
 unfold Builtin.Slice.sliceAdjust;simp only [h1,if_false]
 refine Prod.ext ?_ ?_
 ·cases lo with
  | none=>rfl
  | some v=>exact yH v n 0
 ·cases hi with
  | none=>rfl
  | some v=>exact yH v n n
theorem wX (i j:Nat):Builtin.Slice.slicePlaces (i:Int) (j:Int) 1=j - i:=by
 unfold Builtin.Slice.slicePlaces;have h1:(1:Int) > 0:=by omega
 simp only [h1,if_true,Int.ediv_one]
 split <;> omega
theorem oP {v:Value} {o:Option Int} {Q:Option Int->Shared->Prop} (p:IsPart v o) (h:Q o s):wpAny (model prog w) A (Builtin.Slice.slicePartIndex v) Q E s:=by
 cases p with
 | none=>exact slicePart_none h
 | int i t=>exact slicePart_int h
theorem sliceApplied_gen {sl:Addr} {vl vu:Value} {lo hi:Option Int} {n:Nat} {Q:Int × Int × Nat->Shared->Prop} (hs:s.heap.IsSliceOf sl vl vu .none) (pl:IsPart vl lo) (pu:IsPart vu hi)
  (h:Q (((sIx n 0 lo:Nat):Int),1,sIx n n hi - sIx n 0 lo) s):wpAny (model prog w) A (Builtin.Slice.sliceApplied (.ref sl) (pure (n:Int))) Q E s:=by
 obtain⟨os,hos,hcs,hds⟩:=id hs
 unfold Builtin.Slice.sliceApplied Builtin.Slice.sliceFields;refine wpAny_bind (wpAny_bind (wpAny_field hos hds (x:=vl) rfl (wpAny_bind (wpAny_field hos hds (x:=vu) rfl (wpAny_bind (wpAny_field hos hds (x:=.none) rfl (wpAny_pure ?_)))))))
 refine wpAny_bind (slicePart_none ?_)
 show wpAny _ _ (if ((1:Int) == 0)=true then _ else _) _ _ s
 rw[if_neg Zd]
 refine wpAny_bind (oP pl (wpAny_bind (oP pu (wpAny_bind (wpAny_pure ?_)))))
 show wpAny _ _ (match Builtin.Slice.sliceAdjust lo hi 1 (n:Int) with | (lo,hi)=>pure (lo,(1:Int),Builtin.Slice.slicePlaces lo hi 1)) _ _ s
 rw[wW lo hi n];show wpAny _ _ (pure (((sIx n 0 lo:Nat):Int),(1:Int),Builtin.Slice.slicePlaces ((sIx n 0 lo:Nat):Int) ((sIx n n hi:Nat):Int) 1)) _ _ s
 rw[wX];exact wpAny_pure h
theorem Ct (xs:Array Value) (i k:Nat):((List.range k).filterMap fun(m:Nat)=>xs[((i:Int)+(m:Int)*1).toNat]?).toArray=((xs.toList.drop i).take k).toArray:=by
 have e:(fun(m:Nat)=>xs[((i:Int)+(m:Int)*1).toNat]?)=fun m=>xs[i+m]?:=by
  funext m
  have:((i:Int)+(m:Int)*1).toNat=i+m:=by omega
  rw[this]
 rw[e];have:=pick_run xs i k
 rw[List.filterMap_map]at this;have e2:((fun x=>xs[x]?)∘fun x=>i+x)=fun m=>xs[i+m]?:=rfl
 rw[e2]at this;rw[this]
theorem getItem_tuple_cut {t sl:Addr} {items:Array Value} {vl vu:Value} {lo hi:Option Int} {Q:Value->Shared->Prop} (ht:IsTup s.heap t items) (hs:s.heap.IsSliceOf sl vl vu .none) (pl:IsPart vl lo) (pu:IsPart vu hi)
  (hw:¬ (sIx items.size 0 lo=0/\sIx items.size items.size hi=items.size))
  (h:Q (.ref s.heap.objs.size) {s with heap:=s.heap.push {cls:=.type "tuple",data:=.seq ((items.toList.drop (sIx items.size 0 lo)).take (sIx items.size items.size hi - sIx items.size 0 lo)).toArray } })
  (hsz:items.size<=sizeLine):wpAny (model prog w) A (getItem (.ref t) (.ref sl)) Q E s:=by
 have htake:sizeOk (.seq ((items.toList.drop (sIx items.size 0 lo)).take (sIx items.size items.size hi - sIx items.size 0 lo)).toArray):=by
  show((items.toList.drop (sIx items.size 0 lo)).take (sIx items.size items.size hi - sIx items.size 0 lo)).toArray.size<=sizeLine
  rw[dG,nQ,List.length_drop,Array.length_toList];omega
 have hj:sIx items.size items.size hi<=items.size:=Px _ _ (aV _) hi
 obtain⟨os,hos,hcs,hds⟩:=id hs
 have hTs:s.TypeIs (.ref sl) "slice":=⟨os,hos,hcs⟩
 unfold getItem;try with_reducible refine wpAny_holding ?_
 first | refine wpAny_bind (wpAny_pure ?_) | skip
 refine wpAny_bind (wpAny_sequenceKey ht.typeIs Zd ?_)
 refine wpAny_bind (wpAny_callSpecial?_slot (name:=Str.ofString "__getitem__") ht.typeIs PyProof.Rows.slot_tuple_getitem
  (wpAny_call_entry PyProof.Rows.slot_tuple_getitem ht.typeIs entry_tuple_getitem ?_ (args_tuple_getitem _ _)))
 show wpAny _ _ (Builtin.Tuple.tupleItemsOf (.ref t) >>= _) _ _ s
 refine wpAny_bind (tupleItemsOf_ ht ?_)
 refine wpAny_bind (wpAny_typeOf hTs ?_)
 rw[if_pos Zd]
 refine wpAny_bind (sliceApplied_gen hs pl pu ?_)
 have hno:¬ ((((sIx items.size 0 lo:Nat):Int) == 0&&(1:Int) == 1&&(sIx items.size items.size hi - sIx items.size 0 lo) == items.size)=true):=by
  intro q;rw[Bool.and_eq_true,Bool.and_eq_true]at q;have q1:((sIx items.size 0 lo:Nat):Int)=0:=eq_of_beq q.1.1
  have q2:sIx items.size items.size hi - sIx items.size 0 lo=items.size:=eq_of_beq q.2
  exact hw ⟨Zo,Zo⟩
 show wpAny _ _ (if (((sIx items.size 0 lo:Nat):Int) == 0&&(1:Int) == 1&&(sIx items.size items.size hi - sIx items.size 0 lo) == items.size)=true then _ else _) _ _ s
 rw[if_neg hno,Ct];first
  | exact wpAny_bind (m:=Builtin.Tuple.tupleExact _) (wpAny_newObj_type (wpAny_pure ⟨_,rfl,wpAny_pure h⟩) htake)
  | exact wpAny_bind (m:=Builtin.Tuple.tupleExact _) (wpAny_newObj_type (wpAny_bind (wpAny_pure (wpAny_pure ⟨_,rfl,wpAny_pure h⟩))) htake)
  | exact wpAny_bind (wpAny_bind (m:=Builtin.Tuple.tupleExact _) (wpAny_newObj_type (wpAny_pure (wpAny_pure ⟨_,rfl,wpAny_pure h⟩)) htake))
  | exact wpAny_bind (wpAny_bind (m:=Builtin.Tuple.tupleExact _) (wpAny_newObj_type (wpAny_pure ⟨_,rfl,wpAny_pure h⟩) htake))
end
end HT
namespace L2
open PySem PySem.Spec PyProof.Rows
abbrev TO:=St->Hp->(Option Int->Hp->Prop)->Prop
def PO (X:Cx) (e:Option Expr) (t:TO):Prop:=
 ∀(pins:List (Addr × Obj)) (s:Shared) (σ:St) (H:Hp) (Q:Option Int->Hp->Prop),Inv X pins σ H s->t σ H Q →
  wpAny (model X.prog X.w) X.A (evalPart e X.env) (fun u s'=>∃o H',Inv X pins σ H' s'/\IsPart u o/\Q o H') X.xe s
def yI:TO:=fun _ H Q=>Q none H
def Cu (t:TE):TO:=fun σ H Q=>t σ H fun x H1=>∃i,x=.int i/\Q (some i) H1
theorem oQ {ns:List Int}:∀ {us:List Value},Vals (ns.map V.int) us->IntsAre us ns:=by
 induction ns with
 | nil=>intro us r;rw[List.map_nil]at r;cases r;exact .nil
 | cons n ns ih=>
  intro us r;rw[List.map_cons]at r;cases r with
  | cons r1 r2=>
   obtain⟨t,e⟩:=r1
   subst e;exact .cons n t (ih r2)
section
variable {X:Cx} {e:Expr} {te:TE} {lo hi:Option Expr} {tl th:TO} {pos p2:Pos}
theorem Jy:PO X none yI:=by
 intro pins s σ H Q I h;rw[evalPart_none];exact wpAny_pure ⟨none,H,I,.none,h⟩
theorem Jz (h:PE X e te):PO X (some e) (Cu te):=by
 intro pins s σ H Q I hw;rw[evalPart_some];refine bT (h pins s σ H _ I hw) fun u s1 ⟨x,H1,I1,r1,q1⟩=>?_
 obtain⟨i,rfl,q⟩:=q1
 obtain⟨t,rfl⟩:=r1
 exact⟨some i,H1,I1,.int i t,q⟩
def SlR (X:Cx) (r:V->Option Int->Option Int->Hp->VK->Prop):Prop:=
 ∀(pins:List (Addr × Obj)) (s:Shared) (σ:St) (H:Hp) (x:V) (v vl vu:Value) (lo hi:Option Int) (sl:Addr) (Q:VK),Inv X pins σ H s->RelV x v->s.heap.IsSliceOf sl vl vu .none->IsPart vl lo->IsPart vu hi->r x lo hi H Q →
  ∃T id,typeLookup (.type T) "__getitem__"=pure (some (.builtin id))/\s.TypeIs v T/\wpAny (model X.prog X.w) X.A (getItem v (.ref sl)) (EP X pins σ Q) X.xe s
def Xw (r:V->Option Int->Option Int->Hp->VK->Prop) (te:TE) (tl th:TO):TE:=fun σ H Q=>te σ H fun x H1=>tl σ H1 fun l H2=>th σ H2 fun u H3=>r x l u H3 Q
theorem Cv {r:V->Option Int->Option Int->Hp->VK->Prop} (hr:SlR X r) (he:PE X e te) (hl:PO X lo tl) (hu:PO X hi th):PE X (.Subscript e (.Slice lo hi none p2) pos) (Xw r te tl th):=by
 intro pins s σ H Q I h;refine Subscript_ (bT (he pins s σ H _ I h) fun v s1 ⟨x,H1,I1,r1,q1⟩=>?_)
 refine wpAny_Slice (bT (hl pins s1 σ H1 _ I1 q1) fun vl s2 ⟨l,H2,I2,pl,q2⟩=>bT (hu pins s2 σ H2 _ I2 q2) fun vu s3 ⟨u,H3,I3,pu,q3⟩=>?_)
 rw[evalPart_none];refine wpAny_pure ?_
 have I4:Inv X pins σ H3 {s3 with heap:=s3.heap.push {cls:=.type "slice",data:=.fields #[vl,vu,.none] } }:=I3.kept (t':=s3.toks) fun b ob q=>dH _ q
 obtain⟨T,id,hT,ht,hg⟩:=hr pins {s3 with heap:=s3.heap.push {cls:=.type "slice",data:=.fields #[vl,vu,.none] } } σ H3 x v vl vu l u s3.heap.objs.size Q I4 r1 (Heap.IsSliceOf.new ..) pl pu q3
 show wpAny (model X.prog X.w) X.A (subscriptTail e (.Slice lo hi none p2) v (.ref s3.heap.objs.size)) (EP X pins σ Q) X.xe {s3 with heap:=s3.heap.push {cls:=.type "slice",data:=.fields #[vl,vu,.none] } }
 exact tail_any (ops:=[.ref s3.heap.objs.size,v]) ht hT hg (by with_unfolding_all rfl)
def As (xs:List V) (lo hi:Option Int):List V:=(xs.drop (HT.sIx xs.length 0 lo)).take (HT.sIx xs.length xs.length hi - HT.sIx xs.length 0 lo)
theorem nH (xs:List V) (lo hi:Option Int):(As xs lo hi).length<=xs.length:=by
 unfold As;rw[nQ,List.length_drop];omega
def Wo (K:W.Frag):V->Option Int->Option Int->Hp->VK->Prop:=fun x lo hi H Q=>∃a xs,x=.ref a/\SqT K H a xs ∧
 ¬ (HT.sIx xs.length 0 lo=0/\HT.sIx xs.length xs.length hi=xs.length)/\∀p,H p=none->Q (.ref p) (aI H p (.tup (As xs lo hi)))
theorem Py:SlR X (Wo X.K):=by
 intro pins s σ H x v vl vu lo hi sl Q I rx hs pl pu h;obtain⟨a,xs,rfl,hx,hw,q⟩:=h
 cases rx
 obtain⟨its,r,ht,hz⟩:=I.tuple hx
 have hlen:its.toArray.size=xs.length:=by rw[dG];exact r.length.symm
 refine⟨"tuple",_,PyProof.Rows.slot_tuple_getitem.lookup,ht.typeIs,?_⟩
 refine HT.getItem_tuple_cut ht hs pl pu (by rw[hlen];exact hw) ?_ (by rw[hlen];exact hz)
 rw[hlen];refine⟨.ref s.heap.objs.size,_,I.laid (t':=s.toks) (o:=.tup (As xs lo hi)) (fun b ob q=>dH _ q) (aV _) ?_,rfl,q _ (I.hok.fresh (aV _))⟩
 exact⟨eK (nH xs lo hi) hz,_,(r.drop (HT.sIx xs.length 0 lo)).take (HT.sIx xs.length xs.length hi - HT.sIx xs.length 0 lo),IsTup.new _ _⟩
def Tt (K:W.Frag):R2:=fun x y H Q=>∃a b xs ys,x=.ref a/\y=.ref b/\SqT K H a xs/\SqT K H b ys/\xs≠[]/\xs.length+ys.length<=sizeLine ∧
 (ys=[]->Q (.ref a) H)/\(ys≠[]->∀p,H p=none->Q (.ref p) (aI H p (.tup (xs++ys))))
theorem Vals.nil_iff {xs:List V} {us:List Value} (r:Vals xs us):us=[]↔xs=[]:=by
 cases r with
 | nil=>simp
 | cons _ _=>simp
theorem Ka:OpR X (binaryOp .Add) (Tt X.K):=by
 intro pins s σ H x y v u Q I rx ry h;obtain⟨a,b,xs,ys,rfl,rfl,ha,hb,hx,hz,q1,q2⟩:=h
 cases rx
 cases ry
 obtain⟨its,r1,p1,_⟩:=I.tuple ha
 obtain⟨its2,r2,p2,_⟩:=I.tuple hb
 refine HT.cat_tup p1 p2 (fun z=>hx (r1.nil_iff.mp z)) (fun z=>⟨.ref a,H,I,rfl,q1 (r2.nil_iff.mp z)⟩) (fun z=>?_) (by rw[<- r1.length,<- r2.length];exact hz)
 refine⟨.ref s.heap.objs.size,_,I.laid (t':=s.toks) (o:=.tup (xs++ys)) (fun b ob q=>dH _ q) (aV _) ?_,rfl,q2 (fun w=>z (r2.nil_iff.mpr w)) _ (I.hok.fresh (aV _))⟩
 exact⟨by rw[iK];exact hz,_,r1.append r2,IsTup.new _ _⟩
end
end L2
namespace L2
open PySem PySem.Spec PyProof.Rows
def Pz (n:Nat) (i:Int):Option Nat:=if 0<=i then (if i<n then some i.toNat else none) else if -(n:Int)<=i then some (i+n).toNat else none
def nT {α:Type} (xs:List α) (i:Int):Option α:=(Pz xs.length i).bind fun j=>xs[j]?
theorem yJ {n:Nat} {i:Int} {j:Nat} (h:Pz n i=some j):seqIndex? i n=some j/\j<n/\-(n:Int)<=i/\i<n:=by
 unfold Pz at h;by_cases h0:0<=i
 ·rw[if_pos h0]at h;by_cases h1:i<n
  ·rw[if_pos h1]at h;have e:i.toNat=j:=Option.some.inj h
   exact⟨by rw[seqIndex_of h0 h1,e],Zo,Zo,h1⟩
  ·rw[if_neg h1]at h;cases h
 ·rw[if_neg h0]at h;by_cases h1:-(n:Int)<=i
  ·rw[if_pos h1]at h;have e:(i+n).toNat=j:=Option.some.inj h
   exact⟨by rw[seqIndex_neg Zo h1,e],Zo,h1,Zo⟩
  ·rw[if_neg h1]at h;cases h
theorem sO {α:Type} {xs:List α} {i:Int} {v:α} (h:nT xs i=some v):∃j,seqIndex? i xs.length=some j/\xs[j]?=some v/\j<xs.length/\-(xs.length:Int)<=i/\i<xs.length:=by
 unfold nT at h;cases e:Pz xs.length i with
 | none=>rw[e]at h;cases h
 | some j=>
  rw[e]at h;obtain⟨h1,h2,h3,h4⟩:=yJ e
  exact⟨j,h1,h,h2,h3,h4⟩
theorem gY {α:Type} {xs:List α} {j:Nat} {v:α} (h:xs[j]?=some v):nT xs (j:Int)=some v:=by
 have hj:j<xs.length:=(Zgs.mp h).1
 have e:Pz xs.length (j:Int)=some j:=by
  unfold Pz;rw[if_pos Zo,if_pos Zo];simp
 unfold nT;rw[e];exact h
def sP (b:Expr):Prop:=∀o i,subscripted b false o i=operate [o,i] (getItem o i)
def IxR (X:Cx) (r:R2):Prop:=
 ∀(value slice:Expr) (pins:List (Addr × Obj)) (s:Shared) (σ:St) (H:Hp) (x y:V) (v u:Value) (Q:VK),Inv X pins σ H s->RelV x v->RelV y u->r x y H Q →
  subscripted slice false v u=operate [v,u] (getItem v u)->wpAny (model X.prog X.w) X.A (subscriptTail value slice v u) (EP X pins σ Q) X.xe s
def Tu (X:Cx) (id:String) (r:V->List V->Hp->VK->Prop):Prop:=
 ∀(pins:List (Addr × Obj)) (s:Shared) (σ:St) (H:Hp) (x:V) (xs:List V) (v:Value) (us:List Value) (Q:VK),Inv X pins σ H s->RelV x v->Vals xs us->r x xs H Q →
  wpAny (model X.prog X.w) X.A (call (.builtin id) (v::us)) (EP X pins σ Q) X.xe s
section
variable {X:Cx} {a b:Expr} {ta tb:TE} {pos:Pos}
theorem Tv {r:R2} (hr:IxR X r) (ha:PE X a ta) (hb:PE X b tb) (hs:sP b):PE X (.Subscript a b pos) (qI r ta tb):=by
 intro pins s σ H Q I h;exact Subscript_ (Pk ha hb I h fun v u s2 x y H2 I2 rx ry q=>hr a b pins s2 σ H2 x y v u Q I2 rx ry q (hs _ _))
def Wp (K:W.Frag):R2:=fun x y H Q=>∃p xs i v,x=.ref p/\y=.int i/\SqL K H p xs/\nT xs i=some v/\Q v H
def Wq (K:W.Frag):R2:=fun x y H Q=>∃p xs i v,x=.ref p/\y=.int i/\SqT K H p xs/\nT xs i=some v/\Q v H
def Wr:R2:=fun x y H Q=>∃z i c,x=.str z/\y=.int i/\z.length<=sizeLine/\nT z.cps.toList i=some c/\Q (.str ⟨#[c]⟩) H
theorem Kb:IxR X (Wp X.K):=by
 intro value slice pins s σ H x y v u Q I rx ry h hs;obtain⟨p,xs,i,z,rfl,rfl,hq,he,q⟩:=h
 cases rx
 obtain⟨t,rfl⟩:=ry
 obtain⟨its,r,pl,hz⟩:=I.list hq
 obtain⟨j,h1,h2,h3,h4,h5⟩:=sO he
 obtain⟨w,ew,rw'⟩:=r.get h2
 have hl:=r.length
 have hn:=mG
 have fin:EP X pins σ Q w s:=⟨z,H,I,rw',q⟩
 by_cases h0:0<=i
 ·have hj:i.toNat=j:=by
   rw[seqIndex_of h0 h5]at h1;exact Option.some.inj h1
  exact item_listR pl.isList h0 Zo (by rw[hj];simpa using ew) fin hs
 ·have hj:(i+(its.toArray.size:Int)).toNat=j:=by
   rw[seqIndex_neg Zo h4]at h1
   rw[dG,<- hl];exact Option.some.inj h1
  exact subscriptTail_builtinR (x:=w) pl.isList.typeIs slot_list_getitem.lookup
   (wpAny_getItem_list_neg (Q:=fun r s'=>r=w/\EP X pins σ Q r s') pl.isList Zo (by rw[dG] <;> omega) Zo (by rw[hj];simpa using ew) ⟨rfl,fin⟩) hs
theorem Qa:IxR X (Wq X.K):=by
 intro value slice pins s σ H x y v u Q I rx ry h hs;obtain⟨p,xs,i,z,rfl,rfl,hq,he,q⟩:=h
 cases rx
 obtain⟨t,rfl⟩:=ry
 obtain⟨its,r,pl,hz⟩:=I.tuple hq
 obtain⟨j,h1,h2,h3,h4,h5⟩:=sO he
 obtain⟨w,ew,rw'⟩:=r.get h2
 have hl:=r.length
 have hn:=mG
 have fin:EP X pins σ Q w s:=⟨z,H,I,rw',q⟩
 exact subscriptTail_builtinR (x:=w) pl.typeIs slot_tuple_getitem.lookup
  (getItem_tuple (j:=j) (Q:=fun r s'=>r=w/\EP X pins σ Q r s') pl Zo Zo (by rw[dG,<- hl];exact h1) (by simpa using ew) ⟨rfl,fin⟩) hs
theorem Qb:IxR X Wr:=by
 intro value slice pins s σ H x y v u Q I rx ry h hs;obtain⟨z,i,c,rfl,rfl,hz,he,q⟩:=h
 obtain⟨t,rfl⟩:=rx
 obtain⟨t',rfl⟩:=ry
 obtain⟨j,h1,h2,h3,h4,h5⟩:=sO he
 have hl:z.cps.toList.length=z.length:=by simp [Str.length]
 rw[hl]at h1 h4 h5;have hn:=mG
 exact tail_any (typeIs_str s z t) slot_str_getitem.lookup (getItem_str (c:=c) (by
  have e1:decide (i < -(2 ^ 63:Int))=false:=decide_eq_false Zo
  have e2:decide (i ≥ 2 ^ 63)=false:=decide_eq_false Zo
  rw[e1,e2,Bool.or_false]) (by rw[h1];simpa using h2) ⟨.str ⟨#[c]⟩,H,I.tok _,⟨_,rfl⟩,q⟩) hs
theorem wY (its:List Value) (n j:Nat) (u:Value):Obj.mapSeq (·.setIfInBounds j u) {cls:=.type "list",data:=.seq its.toArray n }={cls:=.type "list",data:=.seq (its.set j u).toArray n }:=by
 simp [Obj.mapSeq]
theorem Inv.lst {pins:List (Addr × Obj)} {σ:St} {H:Hp} {s:Shared} {p:Addr} {xs:List V} (I:Inv X pins σ H s) (h:H p=some (.lst xs)) :
  ∃(its:List Value) (n:Nat),Vals xs its/\s.heap.get? p=some {cls:=.type "list",data:=.seq its.toArray n }/\xs.length<=sizeLine:=by
 obtain⟨z,its,n,r,e⟩:=I.hok p _ h
 exact⟨its,n,r,e,z⟩
theorem Inv.lstUpd {pins:List (Addr × Obj)} {σ:St} {H:Hp} {s:Shared} {p:Addr} {xs ys:List V} {its its':List Value} {n n':Nat} {f:Obj->Obj} (I:Inv X pins σ H s) (h:H p=some (.lst xs))
  (ho:s.heap.get? p=some {cls:=.type "list",data:=.seq its.toArray n }) (hf:f {cls:=.type "list",data:=.seq its.toArray n }={cls:=.type "list",data:=.seq its'.toArray n' }) (r:Vals ys its') (hz:ys.length<=sizeLine) (t:Nat) :
  Inv X pins σ (aI H p (.lst ys)) {s with heap:=s.heap.update p f,toks:=t }:=by
 have e:(s.heap.update p f).get? p=some {cls:=.type "list",data:=.seq its'.toArray n' }:=by
  rw[Heap.get?_update_self f ho (by rw[hf] <;> rfl),hf]
 refine I.write (x:=p) (e:=p) (by rw[h];trivial) (.inl rfl) (fun b u hb q=>(Heap.get?_update_other _ _ (Ne.symm hb)).trans q) ⟨_,e⟩ ?_
 exact⟨hz,its',n',r,e⟩
def Nl:V->V->V->Hp->(Hp->Prop)->Prop:=fun o i v H Q=>∃p xs k j,o=.ref p/\i=.int k/\H p=some (.lst xs)/\Pz xs.length k=some j/\Q (aI H p (.lst (xs.set j v)))
theorem Cw:Jj X Nl:=by
 intro pins s σ H o i v ov iv u Q I ro ri rv h;obtain⟨p,xs,k,j,rfl,rfl,hp,hj,q⟩:=h
 cases ro
 obtain⟨t,rfl⟩:=ri
 obtain⟨its,n,r,ho,hz⟩:=I.lst hp
 obtain⟨h1,h2,h3,h4⟩:=yJ hj
 have hl:=r.length
 have hn:=mG
 have I':Inv X pins σ (aI H p (.lst (xs.set j v))) {s with heap:=s.heap.update p (Obj.mapSeq (·.setIfInBounds j u)) }:=
  I.lstUpd hp ho (wY its n j u) (r.set rv j) (by rw[List.length_set];exact hz) s.toks
 by_cases h0:0<=k
 ·have hk:k.toNat=j:=by
   rw[seqIndex_of h0 h4]at h1;exact Option.some.inj h1
  exact W.ki_setAt ho h0 Zo (by rw[dG,<- hl];exact h4) (by rw[hk];exact⟨_,I',q⟩)
 ·have hk:(k+(its.toArray.size:Int)).toNat=j:=by
   rw[seqIndex_neg Zo h3]at h1
   rw[dG,<- hl];exact Option.some.inj h1
  exact W.ki_setBack ho Zo (by rw[dG,<- hl];exact h3) Zo (by rw[hk];exact⟨_,I',q⟩)
theorem sQ (lo hi:Option Int) (n:Nat):(sliceBounds lo hi none n).1=((HT.sIx n 0 lo:Nat):Int)/\(sliceBounds lo hi none n).2.1=((HT.sIx n n hi:Nat):Int)/\(sliceBounds lo hi none n).2.2=1:=by
 refine⟨?_,?_,rfl⟩
 ·cases lo with
  | none=>simp [sliceBounds,HT.sIx]
  | some i=>
   simp only [sliceBounds,HT.sIx,Option.getD_none,show(1:Int) > 0 by decide,if_true]
   by_cases h:i<0
   ·simp only [h,if_true] <;> omega
   ·simp only [h,if_false] <;> omega
 ·cases hi with
  | none=>simp [sliceBounds,HT.sIx]
  | some i=>
   simp only [sliceBounds,HT.sIx,Option.getD_none,show(1:Int) > 0 by decide,if_true]
   by_cases h:i<0
   ·simp only [h,if_true] <;> omega
   ·simp only [h,if_false] <;> omega
theorem qJ (its:List Value) (lo hi:Option Int):slicePick its.toArray lo hi none=((its.drop (HT.sIx its.length 0 lo)).take (HT.sIx its.length its.length hi - HT.sIx its.length 0 lo)).toArray:=by
 obtain⟨h1,h2,h3⟩:=sQ lo hi its.toArray.size
 unfold slicePick;rw[h1,h2,h3];simp only [sliceRange_one,pick_run,dG] <;> rfl
def Ws (K:W.Frag):V->Option Int->Option Int->Hp->VK->Prop:=fun x lo hi H Q=>∃a xs,x=.ref a/\SqL K H a xs/\∀p,H p=none->Q (.ref p) (aI H p (.lst (As xs lo hi)))
theorem Kc:SlR X (Ws X.K):=by
 intro pins s σ H x v vl vu lo hi sl Q I rx hs pl pu h;obtain⟨a,xs,rfl,hx,q⟩:=h
 cases rx
 obtain⟨its,r,ht,hz⟩:=I.list hx
 have hlen:=r.length
 refine⟨"list",_,slot_list_getitem.lookup,ht.isList.typeIs,?_⟩
 refine wpAny_getItem_list_slice ht.isList hs pl pu .none Zs ?_ (by rw[dG] <;> omega)
 rw[qJ,<- hlen];refine⟨.ref s.heap.objs.size,_,I.laid (t':=s.toks) (o:=.lst (As xs lo hi)) (fun b ob q=>dH _ q) (aV _) ?_,rfl,q _ (I.hok.fresh (aV _))⟩
 exact⟨eK (nH xs lo hi) hz,_,0,(r.drop (HT.sIx xs.length 0 lo)).take (HT.sIx xs.length xs.length hi - HT.sIx xs.length 0 lo),Heap.get?_push_size _ rfl⟩
def fE:V->Bool
 | .non=>true
 | .bl _=>true
 | .int _=>true
 | .str _=>true
 | _=>false
def yK:V->V->Bool
 | .non,.non=>true
 | .bl a,.bl b=>a == b
 | .bl a,.int b=>(if a then 1 else 0) == b
 | .int a,.bl b=>a == (if b then 1 else 0)
 | .int a,.int b=>a == b
 | .str a,.str b=>a == b
 | _,_=>false
theorem oS {A:Around} {s:Shared} {y x:V} {u v:Value} (ry:RelV y u) (rx:RelV x v) (fy:fE y=true) (fx:fE x=true):SeqAt.EqAt A s u v (yK y x):=by
 cases y with
 | non=>
  cases ry
  cases x with
  | non=>cases rx;exact SeqAt.EqAt.same _
  | bl b=>cases rx;exact SeqAt.EqAt.none_bool b
  | int b=>obtain⟨t,rfl⟩:=rx;exact SeqAt.EqAt.none_int b t
  | str b=>obtain⟨t,rfl⟩:=rx;exact SeqAt.EqAt.none_str b t
  | _=>exact absurd (show false=true from fx) Bool.false_ne_true
 | bl a=>
  cases ry
  cases x with
  | non=>cases rx;exact SeqAt.EqAt.bool_none a
  | bl b=>cases rx;exact SeqAt.EqAt.bool_bool a b
  | int b=>obtain⟨t,rfl⟩:=rx;exact SeqAt.EqAt.bool_int a b t
  | str b=>obtain⟨t,rfl⟩:=rx;exact SeqAt.EqAt.bool_str a b t
  | _=>exact absurd (show false=true from fx) Bool.false_ne_true
 | int a=>
  obtain⟨t',rfl⟩:=ry
  cases x with
  | non=>cases rx;exact SeqAt.EqAt.int_none a t'
  | bl b=>cases rx;exact SeqAt.EqAt.int_bool a t' b
  | int b=>obtain⟨t,rfl⟩:=rx;exact SeqAt.EqAt.int_int a t' b t
  | str b=>obtain⟨t,rfl⟩:=rx;exact SeqAt.EqAt.int_str a t' b t
  | _=>exact absurd (show false=true from fx) Bool.false_ne_true
 | str a=>
  obtain⟨t',rfl⟩:=ry
  cases x with
  | non=>cases rx;exact SeqAt.EqAt.str_none a t'
  | bl b=>cases rx;exact SeqAt.EqAt.str_bool a t' b
  | int b=>obtain⟨t,rfl⟩:=rx;exact SeqAt.EqAt.str_int a t' b t
  | str b=>obtain⟨t,rfl⟩:=rx;exact SeqAt.EqAt.str_str a t' b t
  | _=>exact absurd (show false=true from fx) Bool.false_ne_true
 | _=>exact absurd (show false=true from fy) Bool.false_ne_true
def wZ (x:V) (u:Value):Bool:=match u with
 | .none=>yK .non x
 | .bool b=>yK (.bl b) x
 | .int i _=>yK (.int i) x
 | .str z _=>yK (.str z) x
 | _=>false
theorem Cy {x y:V} {u:Value} (r:RelV y u) (f:fE y=true):wZ x u=yK y x:=by
 cases y with
 | non=>cases r;rfl
 | bl b=>cases r;rfl
 | int i=>obtain⟨t,rfl⟩:=r;rfl
 | str z=>obtain⟨t,rfl⟩:=r;rfl
 | _=>exact absurd (show false=true from f) Bool.false_ne_true
theorem lA {x:V}:∀ {xs:List V} {us:List Value},Vals xs us->xs.all fE=true->us.any (wZ x)=xs.any fun y=>yK y x
 | _,_,.nil,_=>rfl
 | y::xs,u::us,.cons r t,f=>by
  rw[List.all_cons,Bool.and_eq_true]at f;rw[List.any_cons,List.any_cons,Cy r f.1,lA t f.2]
theorem iV {A:Around} {s:Shared} {x:V} {v:Value} (rx:RelV x v) (fx:fE x=true):∀ {xs:List V} {us:List Value},Vals xs us->xs.all fE=true->∀u∈us,SeqAt.EqAt A s u v (wZ x u)
 | _,_,.nil,_=>fun u hu=>by cases hu
 | y::xs,u::us,.cons r t,f=>fun u' hu=>by
  rw[List.all_cons,Bool.and_eq_true]at f;rcases List.mem_cons.mp hu with rfl | hu
  ·rw[Cy r f.1];exact oS r rx f.1 fx
  ·exact iV rx fx t f.2 u' hu
def oT (x:V) (xs:List V):Bool:=xs.any fun y=>yK y x
def Qc (K:W.Frag) (neg:Bool):R2:=fun x y H Q=>∃p xs,y=.ref p/\(SqL K H p xs∨SqT K H p xs)/\fE x=true/\xs.all fE=true/\Q (.bl (if neg then !oT x xs else oT x xs)) H
theorem Au:OpR X (compareOp .In) (Qc X.K false):=by
 intro pins s σ H x y v u Q I rx ry h;obtain⟨p,xs,rfl,hq,fx,fs,q⟩:=h
 cases ry
 rcases hq with hq | hq
 ·obtain⟨its,r,pl,hz⟩:=I.list hq
  refine SeqAt.in_listAt (wZ x) pl.isList (fun w hw=>iV rx fx r fs w (by simpa using hw)) ⟨.bl _,H,I,rfl,?_⟩
  rw[show its.toArray.any (wZ x)=its.any (wZ x) by simp,lA r fs]
  exact q
 ·obtain⟨its,r,pl,hz⟩:=I.tuple hq
  refine SeqAt.in_tupleAt (wZ x) pl (fun w hw=>iV rx fx r fs w (by simpa using hw)) ⟨.bl _,H,I,rfl,?_⟩
  rw[show its.toArray.any (wZ x)=its.any (wZ x) by simp,lA r fs]
  exact q
theorem sR:OpR X (compareOp .NotIn) (Qc X.K true):=by
 intro pins s σ H x y v u Q I rx ry h;obtain⟨p,xs,rfl,hq,fx,fs,q⟩:=h
 cases ry
 rcases hq with hq | hq
 ·obtain⟨its,r,pl,hz⟩:=I.list hq
  refine SeqAt.notIn_listAt (wZ x) pl.isList (fun w hw=>iV rx fx r fs w (by simpa using hw)) ⟨.bl _,H,I,rfl,?_⟩
  rw[show its.toArray.any (wZ x)=its.any (wZ x) by simp,lA r fs]
  exact q
 ·obtain⟨its,r,pl,hz⟩:=I.tuple hq
  refine SeqAt.notIn_tupleAt (wZ x) pl (fun w hw=>iV rx fx r fs w (by simpa using hw)) ⟨.bl _,H,I,rfl,?_⟩
  rw[show its.toArray.any (wZ x)=its.any (wZ x) by simp,lA r fs]
  exact q
theorem sU:CallR X (.builtin "len") (fun xs H Q=>∃p ys,xs=[.ref p]/\(SqL X.K H p ys∨SqT X.K H p ys)/\Q (.int ys.length) H):=by
 intro pins s σ H xs us Q I r h;obtain⟨p,ys,rfl,hq,q⟩:=h
 obtain⟨u,rfl,rx⟩:=gJ r
 cases rx
 have hn:=mG
 rcases hq with hq | hq
 ·obtain⟨its,r',pl,hz⟩:=I.list hq
  have hlen:=r'.length
  exact Calls.call_len_list pl.isList (by simp only [dG] <;> omega) ⟨.int ys.length,H,I.tok _,⟨s.toks+1,by rw[dG,hlen]⟩,q⟩
 ·obtain⟨its,r',pl,hz⟩:=I.tuple hq
  have hlen:=r'.length
  exact len_tuple pl (by simp only [dG] <;> omega) ⟨.int ys.length,H,I.tok _,⟨s.toks+1,by rw[dG,hlen]⟩,q⟩
theorem sV:CallR X (.builtin "len") (fun xs H Q=>∃z,xs=[.str z]/\z.length<=sizeLine/\Q (.int z.length) H):=by
 intro pins s σ H xs us Q I r h;obtain⟨z,rfl,hz,q⟩:=h
 obtain⟨u,rfl,t,rfl⟩:=gJ r
 have hn:=mG
 exact len_str Zo ⟨.int z.length,H,I.tok _,⟨_,rfl⟩,q⟩
theorem sW:CallR X (.type "list") (fun xs H Q=>∃p ys,xs=[.ref p]/\(SqL X.K H p ys∨SqT X.K H p ys)/\∀l,H l=none->Q (.ref l) (aI H l (.lst ys))):=by
 intro pins s σ H xs us Q I r h;obtain⟨p,ys,rfl,hq,q⟩:=h
 obtain⟨u,rfl,rx⟩:=gJ r
 cases rx
 have fin:∀(its:List Value),Vals ys its->ys.length<=sizeLine->∀(h':Heap) (c':Nat),(∀b o',s.heap.get? b=some o'->h'.get? b=some o') →
   h'.get? s.heap.objs.size=some {cls:=.type "list",dict:=none,data:=.seq its.toArray c',slots:=#[] }->EP X pins σ Q (.ref s.heap.objs.size) {s with heap:=h' }:=fun its r' hz h' c' kp e=>
  ⟨.ref s.heap.objs.size,_,I.laid (t':=s.toks) kp (aV _) (show ObjOk X.prog X.w _ h' _ (.lst ys) from⟨hz,its,c',r',e⟩),rfl,q _ (I.hok.fresh (aV _))⟩
 rcases hq with hq | hq
 ·obtain⟨its,r',pl,hz⟩:=I.list hq
  have hlen:=r'.length
  obtain⟨o,ho,hc,n,hd⟩:=pl.isList
  exact call_list_seq p (.inl rfl) ho hc hd (fun h' c' kp e=>fin its r' hz h' c' kp e) (by simp only [dG] <;> omega)
 ·obtain⟨its,r',pl,hz⟩:=I.tuple hq
  have hlen:=r'.length
  obtain⟨o,ho,hc,n,hd⟩:=pl
  exact call_list_seq p (.inr rfl) ho hc hd (fun h' c' kp e=>fin its r' hz h' c' kp e) (by simp only [dG] <;> omega)
theorem qK:CallR X (.type "tuple") (fun xs H Q=>∃p ys,xs=[.ref p]/\((SqL X.K H p ys/\∀l,H l=none->Q (.ref l) (aI H l (.tup ys)))∨(SqT X.K H p ys/\Q (.ref p) H))):=by
 intro pins s σ H xs us Q I r h;obtain⟨p,ys,rfl,h⟩:=h
 obtain⟨u,rfl,rx⟩:=gJ r
 cases rx
 rcases h with⟨hq,q⟩ | ⟨hq,q⟩
 ·obtain⟨its,r',pl,hz⟩:=I.list hq
  have hlen:=r'.length
  refine call_tuple_list pl.isList (fun h' kp=>?_) (by simp only [dG] <;> omega)
  have I1:Inv X pins σ H {s with heap:=h' }:=I.kept (t':=s.toks) kp
  have I2:Inv X pins σ (aI H h'.objs.size (.tup ys)) {s with heap:=h'.push {cls:=.type "tuple",data:=.seq its.toArray } }:=
   I1.laid (t':=s.toks) (fun b o e=>dH _ e) (aV _) (show ObjOk X.prog X.w _ _ _ (.tup ys) from⟨hz,its,r',IsTup.new _ _⟩)
  exact⟨.ref h'.objs.size,_,I2,rfl,q _ (I1.hok.fresh (aV _))⟩
 ·obtain⟨its,r',pl,hz⟩:=I.tuple hq
  exact call_tuple_same pl ⟨.ref p,H,I,rfl,q⟩
def Xx (K:W.Frag) (T:String) (x:V) (H:Hp):Prop:=match x with
 | .str _=>T="str"
 | .int _=>T="int"
 | .ref p=>(T="list"/\∃xs,SqL K H p xs)∨(T="tuple"/\∃o,K.lookup p=some o/\o.cls=.type "tuple"/\o.dict=none)∨
   (T="dict"/\((∃kvs,H p=some (.dK kvs))∨∃kvs,H p=some (.dT kvs)))∨(T="set"/\∃S n,H p=some (.set S n))
 | _=>False
theorem Qd {pins:List (Addr × Obj)} {σ:St} {H:Hp} {s:Shared} {T:String} {x:V} {v:Value} (I:Inv X pins σ H s) (r:RelV x v) (ty:Xx X.K T x H) :
  s.TypeIs v T/\∀a,v=.ref a->∃ob,s.heap.get? a=some ob/\ob.dict=none:=by
 cases x with
 | str z=>
  obtain⟨t,rfl⟩:=r
  cases (show T="str" from ty)
  exact⟨typeIs_str s z t,fun _ e=>nomatch e⟩
 | int i=>
  obtain⟨t,rfl⟩:=r
  cases (show T="int" from ty)
  exact⟨typeIs_int s i t,fun _ e=>nomatch e⟩
 | ref p=>
  cases r
  rcases ty with⟨rfl,xs,hq⟩ | ⟨rfl,o,hk,hc,hd⟩ | ⟨rfl,hk⟩ | ⟨rfl,S,n,hk⟩
  ·obtain⟨its,_,pl,_⟩:=I.list hq
   refine⟨pl.isList.typeIs,fun a e=>?_⟩
   cases e
   obtain⟨o,n,e,c,hd,_⟩:=pl
   exact⟨o,e,hd⟩
  ·refine⟨⟨o,I.kIn p o hk,hc⟩,fun a e=>?_⟩
   cases e
   exact⟨o,I.kIn _ o hk,hd⟩
  ·have z:∃o,s.heap.get? p=some o/\o.ExactDict:=by
    rcases hk with⟨kvs,hk⟩ | ⟨kvs,hk⟩
    ·obtain⟨_,_,_,_,o,_,_,e,ex,_⟩:=I.hok p _ hk
     exact⟨o,e,ex⟩
    ·obtain⟨_,_,_,_,o,_,_,e,ex,_⟩:=I.hok p _ hk
     exact⟨o,e,ex⟩
   obtain⟨o,e,ex⟩:=z
   refine⟨⟨o,e,ex.1⟩,fun a e2=>?_⟩
   cases e2
   exact⟨o,e,ex.2.1⟩
  ·obtain⟨o,_,_,_,e,ex,_⟩:=I.hok p _ hk
   refine⟨⟨o,e,ex.1⟩,fun a e2=>?_⟩
   cases e2
   exact⟨o,e,ex.2.1⟩
 | _=>exact False.elim ty
def Vy (K:W.Frag) (T:String) (r:V->List V->Hp->VK->Prop) (to:TE) (t:TA):TE:=fun σ H Q=>to σ H fun x H1=>Xx K T x H1/\t σ H1 fun xs H2=>r x xs H2 Q
variable {o e:Expr} {es:List Expr} {to:TE} {t:TA} {name:Str} {apos cpos:Pos} {T id:String} {r:V->List V->Hp->VK->Prop}
theorem Tw (pa:PlainAttrs T) (slot:Slot T name id) (hty:typeOf (.builtin id)=pure (.type "method_descriptor")) (hm:Tu X id r) (ho:PE X o to) (ha:PA X (e::es) t)
  (hbase:attributeBase o name X.env (eval o X.env)=eval o X.env:=by rfl)
  (hfew:((backTo cpos (starEach (e::es) X.env)).all (fun x=>!x.1)&&(backToKw cpos (keywordEach [] X.env)).all (fun x=>x.1.isSome)
   && decide ((e::es).length+([]:List Keyword).length+(if ([]:List Keyword).isEmpty then 0 else 1)<30))=true:=by rfl)
  (hline:(apos.endLine == cpos.line)=true:=by rfl) (hs:starEach (e::es) X.env=(false,eval e X.env)::starEach es X.env:=by rfl) (hplain:(backTo cpos (starEach es X.env)).any (·.1)=false:=by rfl) :
  PE X (.Call (.Attribute o name apos) (e::es) [] cpos) (Vy X.K T r to t):=by
 intro pins s σ H Q I h;refine wpAny_Call_method_late hbase hfew hline rfl (bT (ho pins s σ H _ I h) fun v s1 ⟨x,H1,I1,r1,ty,q1⟩=>?_)
 obtain⟨h1,h2⟩:=Qd I1 r1 ty
 refine⟨T,id,pa,slot,hty,h1,h2,?_⟩
 have hA:=ha cpos pins s1 σ H1 _ I1 q1
 rw[hs]at hA ⊢;refine Calls.callWith_builtin (by show(false||(backTo cpos (starEach es X.env)).any (·.1))=false;rw[hplain] <;> rfl) (Calls.evalArgs_plain ?_)
 exact bT hA fun us s2 ⟨vs,H2,I2,r2,q2⟩=>hm pins s2 σ H2 x vs v us Q I2 r1 r2 q2
/- xs.append(e),list.index on a module's tuple .. are Tu facts of 06m -/
end
end L2
namespace L2
open PySem PySem.Spec PyProof.Rows
def Tx (X:Cx) (id:String) (r:V->List V->Hp->VK->Prop):Prop:=
 ∀(pins:List (Addr × Obj)) (s:Shared) (σ:St) (H:Hp) (x:V) (xs:List V) (v:Value) (us:List Value) (Q:VK),Inv X pins σ H s->RelV x v->Vals xs us->r x xs H Q →
  wpAny (model X.prog X.w) X.A (call (.builtin id) (v::us)) (EP X pins σ Q) X.xe s
theorem Vals.one:∀ {x:V} {us:List Value},Vals [x] us->∃u,us=[u]/\RelV x u
 | _,_,.cons r .nil=>⟨_,rfl,r⟩
theorem Vals.two:∀ {x y:V} {us:List Value},Vals [x,y] us->∃u v,us=[u,v]/\RelV x u/\RelV y v
 | _,_,_,.cons r (.cons q .nil)=>⟨_,_,rfl,r,q⟩
theorem Vals.eraseIdx:∀ {xs:List V} {us:List Value} (i:Nat),Vals xs us->Vals (xs.eraseIdx i) (us.eraseIdx i)
 | _,_,_,.nil=>.nil
 | _,_,0,.cons _ t=>t
 | _,_,i+1,.cons r t=>.cons r (Vals.eraseIdx i t)
theorem mJ {α:Type}:∀(l:List α) (i:Nat),(l.eraseIdx i).length<=l.length
 | [],_=>aV _
 | _::_,0=>Nat.le_succ _
 | _::r,i+1=>Nat.succ_le_succ (mJ r i)
section
variable {X:Cx} {pins:List (Addr × Obj)} {σ:St} {H:Hp} {s:Shared} {l b:Addr} {xs ys zs:List V}
theorem Inv.lset {its its':List Value} {n:Nat} {f:Array Value->Array Value} {t':Nat} (I:Inv X pins σ H s) (hH:H l=some (.lst xs))
  (e:s.heap.get? l=some {cls:=.type "list",data:=.seq its.toArray n }) (hf:f its.toArray=its'.toArray) (hv:Vals ys its') (hz:ys.length<=sizeLine) :
  Inv X pins σ (aI H l (.lst ys)) {s with heap:=s.heap.update l (Obj.mapSeq f),toks:=t' }:=by
 have q:=PySem.IsL.update e f
 rw[hf]at q;refine I.write (x:=l) (e:=l) (by rw[hH];exact trivial) (.inl rfl) (fun b' u hb hu=>(Heap.get?_update_other s.heap (Obj.mapSeq f) (Ne.symm hb)).trans hu) ⟨_,q⟩ ?_
 exact⟨hz,its',_,hv,q⟩
theorem Inv.lnew {its:List Value} {t':Nat} (I:Inv X pins σ H s) (hv:Vals ys its) (hz:ys.length<=sizeLine) :
  Inv X pins σ (aI H s.heap.objs.size (.lst ys)) {s with heap:=s.heap.push {cls:=.type "list",data:=.seq its.toArray },toks:=t' }:=
 I.laid (fun _ _ q=>dH _ q) (aV _) ⟨hz,its,0,hv,Heap.get?_push_size _ rfl⟩
theorem Inv.fresh (I:Inv X pins σ H s):H s.heap.objs.size=none:=I.hok.fresh (aV _)
theorem Inv.lstM (I:Inv X pins σ H s) (hH:H l=some (.lst xs)):xs.length<=sizeLine/\∃(its:List Value) (n:Nat),Vals xs its/\xs.length=its.length/\s.heap.get? l=some {cls:=.type "list",data:=.seq its.toArray n }:=by
 obtain⟨z,its,n,r,e⟩:=I.hok l _ hH
 exact⟨z,its,n,r,r.length,e⟩
theorem Cz {n:Nat} (h:n<=sizeLine):Builtin.List.listTooLong n=false:=by
 unfold Builtin.List.listTooLong;exact decide_eq_false Zo
end
section
variable {X:Cx}
def yL:V->List V->Hp->VK->Prop:=fun x vs H Q=>∃l xs y,x=.ref l/\vs=[y]/\H l=some (.lst xs)/\xs.length<sizeLine/\Q .non (aI H l (.lst (xs++[y])))
theorem Av:Tx X "list.append" yL:=by
 intro pins s σ H x vs v us Q I rx rv h;obtain⟨l,xs,y,rfl,rfl,hH,hz,q⟩:=h
 cases rx
 obtain⟨u,rfl,ru⟩:=rv.one
 obtain⟨z,its,n,r,hl,e⟩:=I.lstM hH
 refine call_meets F.slot_list_append ⟨_,e,rfl⟩ F.entry_list_append (F.args_list_append_2 _ _) (PySem.list_append l its.toArray n u (by rw[dG];omega)) ⟨e,?_⟩
 refine⟨.non,_,I.lset (its':=its++[u]) hH e Zs (r.append (.cons ru .nil)) ?_,rfl,q⟩
 rw[iK,List.length_singleton];omega
def Ke:V->List V->Hp->VK->Prop:=fun x vs H Q=>∃l b xs zs,x=.ref l/\vs=[.ref b]/\H l=some (.lst xs)/\H b=some (.lst zs)/\xs.length+zs.length<=sizeLine/\Q .non (aI H l (.lst (xs++zs)))
theorem Ss:Tx X "list.extend" Ke:=by
 intro pins s σ H x vs v us Q I rx rv h;obtain⟨l,b,xs,zs,rfl,rfl,hH,hB,hz,q⟩:=h
 cases rx
 obtain⟨u,rfl,ru⟩:=rv.one
 cases ru
 obtain⟨z,its,n,r,hl,e⟩:=I.lstM hH
 obtain⟨z2,its2,n2,r2,hl2,e2⟩:=I.lstM hB
 have hsz:its.toArray.size+its2.toArray.size<=sizeLine:=by rw[dG,dG];omega
 have hlong:¬ (!its.toArray.isEmpty&&Builtin.List.listTooLong (its.toArray.size+its2.toArray.size))=true:=by
  rw[Cz hsz,Bool.and_false];exact Bool.false_ne_true
 refine call_meets F.slot_list_extend ⟨_,e,rfl⟩ F.entry_list_extend (F.args_list_extend_2 _ _)
  (AutoSeq1.list_extend_list_list_0 l its.toArray n b its2.toArray n2 hlong (by rw[dG];omega) Zo) ⟨e,e2,?_⟩
 refine⟨.non,_,I.lset (its':=its++its2) hH e Zs (r.append r2) ?_,rfl,q⟩
 rw[iK];omega
def De:V->List V->Hp->VK->Prop:=fun x vs H Q=>∃l xs i k y,x=.ref l/\vs=[.int i]/\H l=some (.lst xs)/\-(2 ^ 63)<=i/\i<2 ^ 63/\seqIndex? i xs.length=some k/\xs[k]?=some y/\Q y (aI H l (.lst (xs.eraseIdx k)))
theorem Dg:Tx X "list.pop" De:=by
 intro pins s σ H x vs v us Q I rx rv h;obtain⟨l,xs,i,k,y,rfl,rfl,hH,h1,h2,hk,hy,q⟩:=h
 cases rx
 obtain⟨u,rfl,ru⟩:=rv.one
 obtain⟨t,rfl⟩:=ru
 obtain⟨z,its,n,r,hl,e⟩:=I.lstM hH
 obtain⟨w,hw,rw'⟩:=r.get hy
 refine call_meets F.slot_list_pop ⟨_,e,rfl⟩ F.entry_list_pop (F.args_list_pop_2 _ _)
  (MeetsSeq.list_pop_at l its.toArray n i t k w (fitsIndex_both h1 h2) (by rw[dG,<- hl];exact hk) (by rw[<- Array.getElem?_toList];exact hw) (by rw[dG];omega)) ⟨e,?_⟩
 refine⟨y,_,I.lset (its':=its.eraseIdx k) hH e ?_ (r.eraseIdx k) ?_,rw',q⟩
 ·show its.toArray.eraseIdxIfInBounds k=(its.eraseIdx k).toArray
  rw[List.eraseIdxIfInBounds_toArray]
 ·have:=mJ xs k
  omega
def Wt:R2:=fun x y H Q=>∃l b xs zs,x=.ref l/\y=.ref b/\H l=some (.lst xs)/\H b=some (.lst zs)/\xs.length+zs.length<=sizeLine/\∀p,H p=none->Q (.ref p) (aI H p (.lst (xs++zs)))
theorem Qe:OpR X (binaryOp .Add) Wt:=by
 intro pins s σ H x y v u Q I rx ry h;obtain⟨l,b,xs,zs,rfl,rfl,hH,hB,hz,q⟩:=h
 cases rx
 cases ry
 obtain⟨z,its,n,r,hl,e⟩:=I.lstM hH
 obtain⟨z2,its2,n2,r2,hl2,e2⟩:=I.lstM hB
 refine PySem.P.add_list e e2 ?_ (by rw[dG,dG];omega)
 have ea:its.toArray++its2.toArray=(its++its2).toArray:=by simp
 rw[ea];exact⟨.ref _,_,I.lnew (t':=s.toks) (r.append r2) (by rw[iK];omega),rfl,q _ I.fresh⟩
end
end L2
namespace L2
open PySem PySem.Spec PyProof.Rows
section
variable {κ:Type} [DecidableEq κ]
def bN (kvs:List (κ × V)) (k:κ):Option V:=(kvs.find? fun kv=>decide (kv.1=k)).map (·.2)
def bR (kvs:List (κ × V)) (k:κ) (v:V):List (κ × V):=
 if (kvs.any fun kv=>decide (kv.1=k))=true then kvs.map (fun kv=>if kv.1=k then (kv.1,v) else kv) else kvs++[(k,v)]
theorem bY {p:κ × V} {r:List (κ × V)} {k:κ} (e:p.1=k):bN (p::r) k=some p.2:=by simp [bN,List.find?_cons,e]
theorem bZ {p:κ × V} {r:List (κ × V)} {k:κ} (e:¬ p.1=k):bN (p::r) k=bN r k:=by simp [bN,List.find?_cons,e]
theorem cM (k:κ):∀kvs:List (κ × V),(kvs.any fun kv=>decide (kv.1=k))=(bN kvs k).isSome
 | []=>rfl
 | p::r=>by
  rw[List.any_cons];by_cases e:p.1=k
  ·simp only [bY e,decide_eq_true e,Bool.true_or,Option.isSome_some]
  ·rw[bZ e,decide_eq_false e,Bool.false_or];exact cM k r
theorem uL (k j:κ) (y:V):∀kvs:List (κ × V),bN (kvs.map fun kv=>if kv.1=k then (kv.1,y) else kv) j=(bN kvs j).map fun x=>if j=k then y else x
 | []=>rfl
 | p::r=>by
  have ih:=uL k j y r
  rw[List.map_cons];by_cases h:p.1=k
  ·rw[if_pos h];by_cases e:p.1=j
   ·rw[bY (p:=(p.1,y)) e,bY e,Option.map_some,if_pos (e.symm.trans h)]
   ·rw[bZ (p:=(p.1,y)) e,bZ e,ih]
  ·rw[if_neg h];by_cases e:p.1=j
   ·rw[bY (p:=p) e,bY e,Option.map_some,if_neg (fun z=>h (e.trans z))]
   ·rw[bZ (p:=p) e,bZ e,ih]
theorem rE (k j:κ) (y:V):∀kvs:List (κ × V),bN kvs k=none->bN (kvs++[(k,y)]) j=if j=k then some y else bN kvs j
 | [],_=>by
  by_cases e:k=j
  ·rw[if_pos e.symm];exact bY (p:=(k,y)) e
  ·rw[if_neg (fun z=>e z.symm)];exact bZ (p:=(k,y)) e
 | p::r,hn=>by
  rw[List.cons_append];have hk:¬ p.1=k:=fun z=>by rw[bY z]at hn;cases hn
  rw[bZ hk]at hn;have ih:=rE k j y r hn
  by_cases e:p.1=j
  ·rw[bY e,bY e,if_neg (fun z=>hk (e.trans z))]
  ·rw[bZ e,bZ e,ih]
theorem gK (kvs:List (κ × V)) (k j:κ) (y:V):bN (bR kvs k y) j=if j=k then some y else bN kvs j:=by
 unfold bR;by_cases a:(kvs.any fun kv=>decide (kv.1=k))=true
 ·rw[if_pos a,uL];rw[cM]at a;by_cases e:j=k
  ·obtain⟨x,hx⟩:=Option.isSome_iff_exists.mp a
   rw[if_pos e,e,hx,Option.map_some,if_pos rfl]
  ·rw[if_neg e];cases bN kvs j with
   | none=>rfl
   | some x=>rw[Option.map_some,if_neg e]
 ·rw[if_neg a];refine rE k j y kvs ?_
  rw[cM]at a;cases q:bN kvs k with
  | none=>rfl
  | some x=>rw[q]at a;exact(a rfl).elim
theorem cN (kvs:List (κ × V)) (k:κ) (v:V):(bR kvs k v).length<=kvs.length+1:=by
 unfold bR;split
 ·rw[aQ];omega
 ·rw[iK,nZ,List.length_nil];omega
theorem iW {kvs:List (κ × V)} {k:κ} (v:V) (h:bN kvs k=none):bR kvs k v=kvs++[(k,v)]:=by
 unfold bR;rw[cM,h];exact if_neg Zd
theorem RelO.isSome_eq {o:Option V} {u:Option Value} (r:RelO o u):o.isSome=u.isSome:=by
 cases o with
 | none=>cases u with
  | none=>rfl
  | some _=>exact(show False from r).elim
 | some _=>cases u with
  | none=>exact(show False from r).elim
  | some _=>rfl
theorem RelO.getD {o:Option V} {u:Option Value} {d:V} {d':Value} (r:RelO o u) (rd:RelV d d'):RelV (o.getD d) (u.getD d'):=by
 cases o with
 | none=>cases u with
  | none=>exact rd
  | some _=>exact(show False from r).elim
 | some _=>cases u with
  | none=>exact(show False from r).elim
  | some _=>exact r
theorem KV.val {kvs:List (κ × V)} {vs:List (κ × Value)} (r:KV kvs vs) (k:κ):RelO (bN kvs k) (valueAt vs k):=by
 unfold KV at r;induction r with
 | nil=>exact True.intro
 | @cons p q ps qs h t ih=>
  obtain⟨h1,h2⟩:=h
  by_cases e:p.1=k
  ·have e':q.1=k:=h1.symm.trans e
   have b:valueAt (q::qs) k=some q.2:=by simp [valueAt,List.find?_cons,e']
   rw[bY e,b];exact h2
  ·have e':¬ q.1=k:=fun z=>e (h1.trans z)
   have b:valueAt (q::qs) k=valueAt qs k:=by simp [valueAt,List.find?_cons,e']
   rw[bZ e,b];exact ih
theorem KV.any {kvs:List (κ × V)} {vs:List (κ × Value)} (r:KV kvs vs) (k:κ):(kvs.any fun kv=>decide (kv.1=k))=vs.any fun kv=>decide (kv.1=k):=by
 unfold KV at r;induction r with
 | nil=>rfl
 | cons h t ih=>rw[List.any_cons,List.any_cons,ih,h.1]
theorem KV.repl {kvs:List (κ × V)} {vs:List (κ × Value)} (r:KV kvs vs) (k:κ) {y:V} {u:Value} (ry:RelV y u) :
  KV (kvs.map fun kv=>if kv.1=k then (kv.1,y) else kv) (vs.map fun kv=>if kv.1=k then (kv.1,u) else kv):=by
 unfold KV at r ⊢
 induction r with
 | nil=>exact .nil
 | @cons p q ps qs h t ih=>
  rw[List.map_cons,List.map_cons];refine .cons ?_ ih
  obtain⟨h1,h2⟩:=h
  by_cases e:p.1=k
  ·rw[if_pos e,if_pos (h1.symm.trans e)];exact⟨h1,ry⟩
  ·rw[if_neg e,if_neg (fun z=>e (h1.trans z))];exact⟨h1,h2⟩
theorem KV.put {kvs:List (κ × V)} {vs:List (κ × Value)} (r:KV kvs vs) (k:κ) {y:V} {u:Value} (ry:RelV y u):KV (bR kvs k y) (stored vs k u):=by
 unfold bR stored;rw[r.any k];by_cases e:(vs.any fun kv=>decide (kv.1=k))=true
 ·rw[if_pos e,if_pos e];exact r.repl k ry
 ·rw[if_neg e,if_neg e];exact Paired.snoc r ⟨rfl,ry⟩
theorem KV.keys {kvs:List (κ × V)} {vs:List (κ × Value)} (r:KV kvs vs):kvs.map (·.1)=vs.map (·.1):=by
 unfold KV at r;induction r with
 | nil=>rfl
 | cons h t ih=>rw[List.map_cons,List.map_cons,ih,h.1]
theorem KV.length {kvs:List (κ × V)} {vs:List (κ × Value)} (r:KV kvs vs):kvs.length=vs.length:=Paired.length r
end
theorem nJ {P:Program} {w:World} {k:aW} {u:Value} (r:RelV (kV k) u):(bA P w).is k u=true:=by
 cases k with
 | inl i=>obtain⟨t,e⟩:=(show ∃t,u=Value.int i t from r);subst e;exact uF P w i t
 | inr x=>obtain⟨t,e⟩:=(show ∃t,u=Value.str x t from r);subst e;exact uG P w x t
theorem rF {P:Program} {w:World}:∀ {ks:List aW} {us:List Value},Vals (ks.map kV) us->ItemsAre (bA P w) ks us
 | [],_,r=>by rw[List.map_nil]at r;cases r;exact .nil
 | k::ks,_,r=>by
  rw[List.map_cons]at r;cases r with
  | cons h t=>exact .cons (nJ h) (rF t)
abbrev KT (H:Hp):List (List aW × V)->List (List aW × Addr × Value)->Prop:=Paired fun p q=>p.1=q.1/\H q.2.1=some (.tup (p.1.map kV))/\RelV p.2 q.2.2
theorem KT.val {H:Hp} {kvs:List (List aW × V)} {xs:List (List aW × Addr × Value)} (r:KT H kvs xs) (k:List aW):RelO (bN kvs k) ((atKey xs k).map (·.2)):=by
 induction r with
 | nil=>exact True.intro
 | @cons p q ps qs h t ih=>
  obtain⟨h1,_,h2⟩:=h
  by_cases e:p.1=k
  ·have e':q.1=k:=h1.symm.trans e
   have b:atKey (q::qs) k=some q.2:=by simp [atKey,List.find?_cons,e']
   rw[bY e,b];exact h2
  ·have e':¬ q.1=k:=fun z=>e (h1.trans z)
   have b:atKey (q::qs) k=atKey qs k:=by simp [atKey,List.find?_cons,e']
   rw[bZ e,b];exact ih
theorem KT.repl {H:Hp} {kvs:List (List aW × V)} {xs:List (List aW × Addr × Value)} (r:KT H kvs xs) (k:List aW) {y:V} {u:Value} (ry:RelV y u) :
  KT H (kvs.map fun kv=>if kv.1=k then (kv.1,y) else kv) (xs.map (putAt k u)):=by
 induction r with
 | nil=>exact .nil
 | @cons p q ps qs h t ih=>
  rw[List.map_cons,List.map_cons];refine .cons ?_ ih
  obtain⟨h1,h2,h3⟩:=h
  unfold putAt;by_cases e:p.1=k
  ·rw[if_pos e,if_pos (h1.symm.trans e)];exact⟨h1,h2,ry⟩
  ·rw[if_neg e,if_neg (fun z=>e (h1.trans z))];exact⟨h1,h2,h3⟩
theorem KT.put {H:Hp} {kvs:List (List aW × V)} {xs:List (List aW × Addr × Value)} (r:KT H kvs xs) (k:List aW) {b:Addr} {y:V} {u:Value} (hb:H b=some (.tup (k.map kV))) (ry:RelV y u) :
  KT H (bR kvs k y) (storedH xs k b u):=by
 have e:(kvs.any fun kv=>decide (kv.1=k))=(atKey xs k).isSome:=by
  rw[cM,(r.val k).isSome_eq,Option.isSome_map]
 unfold bR storedH;rw[e];by_cases q:(atKey xs k).isSome=true
 ·rw[if_pos q,if_pos q];exact r.repl k ry
 ·rw[if_neg q,if_neg q];exact Paired.snoc r ⟨rfl,hb,ry⟩
theorem KT.keeps {H H':Hp} {kvs:List (List aW × V)} {xs:List (List aW × Addr × Value)} (r:KT H kvs xs) (ht:∀b ys,H b=some (.tup ys)->H' b=some (.tup ys)):KT H' kvs xs:=
 Paired.mapP r fun _ _ z=>⟨z.1,ht _ _ z.2.1,z.2.2⟩
section
variable {P:Program} {w:World} {H:Hp} {h:Heap} {a:Addr}
theorem Nm {u:HO} (ok:HOk P w H h) (e:Rd H a u):ObjOk P w H h a u:=e.ok ok
theorem lB {kvs:List (aW × V)} (ok:HOk P w H h) (e:Rd H a (.dK kvs)):kvs.length<=sizeLine/\(a == sysModules)=false/\∃vs,KV kvs vs/\h.DictOf (bA P w) a vs:=
 show ObjOk P w H h a (.dK kvs) from Nm ok e
theorem Dh {kvs:List (aW × V)} (ok:HOk P w H h) (e:H a=some (.dK kvs)):kvs.length<=sizeLine/\(a == sysModules)=false/\∃vs,KV kvs vs/\h.DictOf (bA P w) a vs:=lB ok (.inl e)
theorem mK {ks:List aW} (ok:HOk P w H h) (e:H a=some (.tup (ks.map kV))):(tupleKind (bA P w)).is h ks a:=by
 obtain⟨_,its,r,o,h1,h2,n,h3⟩:=(show ObjOk P w H h a (.tup (ks.map kV)) from ok a _ e)
 exact⟨o,its.toArray,n,h1,h2,h3,by simpa using rF r⟩
theorem oU {kvs:List (List aW × V)} (ok:HOk P w H h) (e:Rd H a (.dT kvs)):kvs.length<=sizeLine/\(a == sysModules)=false ∧
  ∃xs,KT H kvs xs/\h.DictOfH (tupleKind (bA P w)) a xs:=by
 obtain⟨z,y,xs,r,o,es,ep,h1,h2,h3,h4,h5⟩:=(show ObjOk P w H h a (.dT kvs) from Nm ok e)
 refine⟨z,y,xs,r,o,es,ep,h1,h2,h3,h4,fun x hx=>?_,h5⟩
 have all:∀ {l:List (List aW × V)} {m:List (List aW × Addr × Value)},KT H l m->∀x∈m,(tupleKind (bA P w)).is h x.1 x.2.1:=by
  intro l m q;induction q with
  | nil=>intro x hx;exact nomatch hx
  | @cons p q ps qs hq t ih=>
   intro x hx;rcases List.mem_cons.mp hx with e | hx
   ·subst e;exact mK ok (by rw[<- hq.1];exact hq.2.1)
   ·exact ih x hx
 exact all r x hx
theorem Ty {kvs:List (List aW × V)} (ok:HOk P w H h) (e:H a=some (.dT kvs)):kvs.length<=sizeLine/\(a == sysModules)=false ∧
  ∃xs,KT H kvs xs/\h.DictOfH (tupleKind (bA P w)) a xs:=oU ok (.inl e)
end
def DGet (H:Hp) (a:Addr) (y:V) (r:Option V):Prop:=
 (∃kvs k,Rd H a (.dK kvs)/\y=kV k/\r=bN kvs k)∨∃kvs k b,Rd H a (.dT kvs)/\y=.ref b/\H b=some (.tup (k.map kV))/\r=bN kvs k
def DPut (H:Hp) (a:Addr) (y v:V) (H':Hp):Prop:=
 (∃kvs k,H a=some (.dK kvs)/\y=kV k/\kvs.length<sizeLine/\H'=aI H a (.dK (bR kvs k v)))∨
 ∃kvs k b,H a=some (.dT kvs)/\y=.ref b/\H b=some (.tup (k.map kV))/\kvs.length<sizeLine/\H'=aI H a (.dT (bR kvs k v))
theorem DGet.k {H:Hp} {a:Addr} {kvs:List (aW × V)} {k:aW} (e:H a=some (.dK kvs)):DGet H a (kV k) (bN kvs k):=.inl ⟨kvs,k,.inl e,rfl,rfl⟩
theorem DPut.k {H:Hp} {a:Addr} {kvs:List (aW × V)} {k:aW} {v:V} (e:H a=some (.dK kvs)) (hl:kvs.length<sizeLine):DPut H a (kV k) v (aI H a (.dK (bR kvs k v))):=.inl ⟨kvs,k,e,rfl,hl,rfl⟩
theorem DPut.t {H:Hp} {a b:Addr} {kvs:List (List aW × V)} {k:List aW} {v:V} (e:H a=some (.dT kvs)) (eb:H b=some (.tup (k.map kV))) (hl:kvs.length<sizeLine) :
  DPut H a (.ref b) v (aI H a (.dT (bR kvs k v))):=.inr ⟨kvs,k,b,e,rfl,eb,hl,rfl⟩
section
variable {X:Cx} {pins:List (Addr × Obj)} {σ:St} {H:Hp} {s:Shared} {a:Addr} {y v:V} {u r:Value} {o:Option V} {A:Around} {E:Value->Shared->Prop}
theorem Inv.big (I:Inv X pins σ H s):sysModules<s.heap.objs.size:=by
 have h:mainGlobals<s.heap.objs.size:=(I.mod.glob.keeps I.bk).lt
 exact Nat.lt_trans Zd h
theorem Aw {Q:Value->Shared->Prop} (hu:A.units+1<cLine) (I:Inv X pins σ H s) (g:DGet H a y (some v)) (ry:RelV y u) (h:∀w' s',Inv X pins σ H s'->RelV v w'->Q w' s') :
  wpAny (model X.prog X.w) A (getItem (.ref a) u) Q E s:=by
 rcases g with⟨kvs,k,e,ey,l⟩ | ⟨kvs,k,b,e,ey,eb,l⟩
 ·subst ey;obtain⟨z,hd,vs,rel,dd⟩:=lB I.hok e
  obtain⟨w',hw,rw'⟩:=RelO.some_of (v:=v) (o:=valueAt vs k) (by rw[l];exact rel.val k)
  exact wpAny_getItem_of (nJ ry) dd.mapOf hw (h w' _ (I.tok _) rw')
 ·subst ey;cases (show u=Value.ref b from ry)
  obtain⟨z,hd,xs,rel,dd⟩:=oU I.hok e
  obtain⟨w',hw,rw'⟩:=RelO.some_of (v:=v) (o:=(atKey xs k).map (·.2)) (by rw[l];exact rel.val k)
  obtain⟨p,hp,hp2⟩:=Option.map_eq_some_iff.mp hw
  refine wpAny_getItem_heap (tupleKind_room_in1 hu) (mK I.hok eb) dd hp ?_
  rw[hp2];exact h w' _ (I.tok _) rw'
theorem Wu {Q:Value->Shared->Prop} (hu:A.units+1<cLine) (I:Inv X pins σ H s) (g:DGet H a y o) (ry:RelV y u) (h:∀s',Inv X pins σ H s'->Q (.bool o.isSome) s') :
  wpAny (model X.prog X.w) A (compareOp .In u (.ref a)) Q E s:=by
 rcases g with⟨kvs,k,e,ey,l⟩ | ⟨kvs,k,b,e,ey,eb,l⟩
 ·subst ey;obtain⟨z,hd,vs,rel,dd⟩:=lB I.hok e
  refine wpAny_in_of (nJ ry) hd dd.mapOf ?_
  rw[<- (rel.val k).isSome_eq,<- l];exact h _ (I.tok _)
 ·subst ey;cases (show u=Value.ref b from ry)
  obtain⟨z,hd,xs,rel,dd⟩:=oU I.hok e
  refine wpAny_in_heap (tupleKind_room_in1 hu) (mK I.hok eb) hd dd ?_
  have q:=(rel.val k).isSome_eq
  rw[Option.isSome_map]at q;rw[<- q,<- l];exact h _ (I.tok _)
theorem Kf {Q:Value->Shared->Prop} (hu:A.units+1<cLine) (I:Inv X pins σ H s) (g:DGet H a y o) (ry:RelV y u) (h:∀s',Inv X pins σ H s'->Q (.bool (!o.isSome)) s') :
  wpAny (model X.prog X.w) A (compareOp .NotIn u (.ref a)) Q E s:=by
 rcases g with⟨kvs,k,e,ey,l⟩ | ⟨kvs,k,b,e,ey,eb,l⟩
 ·subst ey;obtain⟨z,hd,vs,rel,dd⟩:=lB I.hok e
  refine wpAny_notIn_of (nJ ry) hd dd.mapOf ?_
  rw[<- (rel.val k).isSome_eq,<- l];exact h _ (I.tok _)
 ·subst ey;cases (show u=Value.ref b from ry)
  obtain⟨z,hd,xs,rel,dd⟩:=oU I.hok e
  refine wpAny_notIn_heap (tupleKind_room_in1 hu) (mK I.hok eb) hd dd ?_
  have q:=(rel.val k).isSome_eq
  rw[Option.isSome_map]at q;rw[<- q,<- l];exact h _ (I.tok _)
theorem sX {h':Heap} {t':Nat} {ob:HO} (I:Inv X pins σ H s) (mu:Sx (H a)) (hs:Heap.SameBut a s.heap h') (he:∃q,h'.get? a=some q) (new:ObjOk X.prog X.w (aI H a ob) h' a ob) :
  Inv X pins σ (aI H a ob) {s with heap:=h',toks:=t' }:=
 I.write (x:=a) (e:=a) mu (.inl rfl) (fun b q hb z=>(hs.2 b hb).trans z) he new
theorem Dl {P:Program} {w:World} {H':Hp} {h':Heap} {kvs:List (aW × V)} {vs:List (aW × Value)} (z:kvs.length<=sizeLine) (hd:(a == sysModules)=false) (rel:KV kvs vs) (dd:h'.DictOf (bA P w) a vs) :
  ObjOk P w H' h' a (.dK kvs):=⟨z,hd,vs,rel,dd⟩
theorem Ax {H':Hp} {Q:Unit->Shared->Prop} (hu:A.units+1<cLine) (I:Inv X pins σ H s) (g:DPut H a y v H') (ry:RelV y u) (rv:RelV v r) (h:∀s',Inv X pins σ H' s'->Q () s') :
  wpAny (model X.prog X.w) A (setItem (.ref a) u r) Q E s:=by
 rcases g with⟨kvs,k,e,ey,l,eH⟩ | ⟨kvs,k,b,e,ey,eb,l,eH⟩
 ·subst ey eH;obtain⟨z,hd,vs,rel,dd⟩:=Dh I.hok e
  have hz:vs.length<=sizeLine:=by rw[<- rel.length];exact z
  have hl:(bR kvs k v).length<=sizeLine:=by have:=cN kvs k v;omega
  refine wpAny_setItem_pairs (hsz:=hz) (nJ ry) dd fun h' dd' hs=>h _ ?_
  have he:∃q,h'.get? a=some q:=let ⟨q,_,_,hq,_⟩:=dd';⟨q,hq⟩
  exact sX I (by rw[e];exact True.intro) hs he (Dl hl hd (rel.put k rv) dd')
 ·subst ey eH;cases (show u=Value.ref b from ry)
  obtain⟨z,hd,xs,rel,dd⟩:=Ty I.hok e
  have hz:xs.length<=sizeLine:=by rw[<- Paired.length rel];exact z
  have hl:(bR kvs k v).length<=sizeLine:=by have:=cN kvs k v;omega
  refine wpAny_setItem_heap (hsz:=hz) (tupleKind_room_in1 hu) (mK I.hok eb) dd fun h' dd' hs=>h _ ?_
  obtain⟨q,es,ep,hq,h2,h3,h4,_,h5⟩:=dd'
  refine sX I (by rw[e];exact True.intro) hs ⟨q,hq⟩ ⟨hl,hd,_,(rel.put k eb rv).keeps fun c ys ec=>?_,q,es,ep,hq,h2,h3,h4,h5⟩
  rw[aE (dI ec e (fun z=>nomatch z))]
  exact ec
end
def Qg (i:Expr):Prop:=∀ov iv,subscripted i false ov iv=operate [ov,iv] (getItem ov iv)
theorem Kg {prog:Program} {w:World} {A:Around} {E:Value->Shared->Prop} {s:Shared} {env:Env} {value slice:Expr} {pos:Pos} {T id:String} {Q:Value->Shared->Prop}
  (hl:typeLookup (.type T) "__getitem__"=pure (some (.builtin id))) (hs:Qg slice)
  (h:wpAny (model prog w) A (eval value env) (fun o s₁=>wpAny (model prog w) A (eval slice env) (fun i s₂=>s₂.TypeIs o T/\wpAny (model prog w) A (getItem o i) Q E s₂) E s₁) E s) :
  wpAny (model prog w) A (eval (.Subscript value slice pos) env) Q E s:=by
 refine Subscript_ (wpAny_mono h (fun o s₁ h₁=>wpAny_mono h₁ (fun i s₂ h₂=>?_) fun _ _ x=>x) fun _ _ x=>x)
 obtain⟨hT,h₂⟩:=h₂
 unfold subscriptTail;refine wpAny_bind ?_
 rw[getitemInPython_of_ne hT.not_modules];refine wpAny_bind (wpAny_specialOf hT hl ?_)
 have fin:wpAny (model prog w) A (subscripted slice false o i) (fun r s₃=>wpAny (model prog w) A (letTemporaryGo value o r >>= fun _=>pure r) Q E s₃) E s₂:=by
  rw[hs o i];exact wpAny_operating (wpAny_mono h₂ (fun r s₃ h₃=>wpAny_bind (wpAny_letTemporaryGo (wpAny_pure h₃))) fun _ _ x=>x)
 first
  | exact wpAny_pure (wpAny_bind fin)
  | exact wpAny_bind (wpAny_pure (wpAny_bind fin))
  | exact wpAny_bind fin
theorem uM {X:Cx} {pins:List (Addr × Obj)} {σ:St} {H:Hp} {s:Shared} {a:Addr} {y:V} {o:Option V} (I:Inv X pins σ H s) (g:DGet H a y o):s.TypeIs (.ref a) "dict":=by
 rcases g with⟨kvs,k,e,_,_⟩ | ⟨kvs,k,b,e,_,_,_⟩
 ·obtain⟨_,_,vs,_,dd⟩:=lB I.hok e
  exact dd.typeIs
 ·obtain⟨_,_,xs,_,dd⟩:=oU I.hok e
  exact dd.typeIs
def Nn (td ty:TE):TE:=fun σ H Q=>td σ H fun x H1=>ty σ H1 fun y H2=>∃a v,x=.ref a/\DGet H2 a y (some v)/\Q v H2
section
variable {X:Cx} {o i e value:Expr} {pos pos' tpos:Pos} {td ty tv:TE}
theorem Kh (hu:X.A.units+1<cLine) (ho:PE X o td) (hi:PE X i ty) (hs:Qg i):PE X (.Subscript o i pos) (Nn td ty):=by
 intro pins s σ H Q I h;refine Kg PySem.F.slot_dict_getitem.lookup hs (bT (ho pins s σ H _ I h) fun u s1 ⟨x,H1,I1,rx,q1⟩=>bT (hi pins s1 σ H1 _ I1 q1) fun iv s2 ⟨y,H2,I2,ry,a,v,ex,g,q2⟩=>?_)
 subst ex;obtain rfl:u=Value.ref a:=rx
 exact⟨uM I2 g,Aw hu I2 g ry fun w' s3 I3 rw'=>⟨v,H2,I3,rw',q2⟩⟩
end
theorem uN {P:Program} {w:World} {H:Hp} (h:Heap) (hb:sysModules<h.objs.size):ObjOk P w H (h.push {cls:=.type "dict",data:=.dict #[] }) h.objs.size (.dK []):=
 ⟨Nat.zero_le _,beq_eq_false_iff_ne.mpr (Ne.symm (Nat.ne_of_lt hb)),[],.nil,Heap.DictOf.new h⟩
theorem Dm {P:Program} {w:World} {H:Hp} (h:Heap) (hb:sysModules<h.objs.size):ObjOk P w H (h.push {cls:=.type "dict",data:=.dict #[] }) h.objs.size (.dT []):=
 ⟨Nat.zero_le _,beq_eq_false_iff_ne.mpr (Ne.symm (Nat.ne_of_lt hb)),[],.nil,_,#[],0,Heap.get?_push_size _ rfl,⟨rfl,rfl,rfl⟩,rfl,rfl,List.nodup_nil⟩
def Do:TE:=fun _ H Q=>∀p,H p=none->Q (.ref p) (aI H p (.dK []))
def Dp:TE:=fun _ H Q=>∀p,H p=none->Q (.ref p) (aI H p (.dT []))
section
variable {X:Cx} {pos:Pos}
theorem Dq:PE X (.Dict [] [] pos) Do:=fun pins s σ H Q I h=>
 wpAny_Dict_empty ⟨.ref s.heap.objs.size,_,I.laid (a:=s.heap.objs.size) (o:=.dK []) (t':=s.toks) (fun _ _ q=>dH _ q) (aV _) (uN s.heap I.big),rfl,h _ (I.hok.fresh (aV _))⟩
theorem Dr:PE X (.Dict [] [] pos) Dp:=fun pins s σ H Q I h=>
 wpAny_Dict_empty ⟨.ref s.heap.objs.size,_,I.laid (a:=s.heap.objs.size) (o:=.dT []) (t':=s.toks) (fun _ _ q=>dH _ q) (aV _) (Dm s.heap I.big),rfl,h _ (I.hok.fresh (aV _))⟩
end
def xA:List (TE × TE)->St->Hp->(List (V × V)->Hp->Prop)->Prop
 | [],_,H,Q=>Q [] H
 | (tk,tv)::r,σ,H,Q=>tk σ H fun x H1=>tv σ H1 fun y H2=>xA r σ H2 fun ps H3=>Q ((x,y)::ps) H3
abbrev VV:List (V × V)->List (Value × Value)->Prop:=Paired fun p q=>RelV p.1 q.1/\RelV p.2 q.2
def Tz (X:Cx) (pos:Pos) (keys:List (Option Expr)) (values:List Expr) (trs:List (TE × TE)):Prop:=
 ∀(pins:List (Addr × Obj)) (s:Shared) (σ:St) (H:Hp) (Q:List (V × V)->Hp->Prop),Inv X pins σ H s->xA trs σ H Q →
  wpAny (model X.prog X.w) X.A (evalPairs (pairTrees keys values X.env pos)) (fun vs s'=>∃ps H',Inv X pins σ H' s'/\VV ps vs/\Q ps H') X.xe s
theorem Ki {X:Cx} {pos:Pos}:Tz X pos [] [] []:=fun pins s σ H Q I h=>pairTrees_nil_walk ⟨[],H,I,.nil,h⟩
theorem Ds {X:Cx} {pos:Pos} {k v:Expr} {ks:List (Option Expr)} {vs:List Expr} {tk tv:TE} {trs:List (TE × TE)} (hk:PE X k tk) (hv:PE X v tv) (hr:Tz X pos ks vs trs) :
  Tz X pos (some k::ks) (v::vs) ((tk,tv)::trs):=fun pins s σ H Q I h=>
 pairTrees_cons_walk (bT (hk pins s σ H _ I h) fun u s1 ⟨x,H1,I1,rx,q1⟩=>bT (hv pins s1 σ H1 _ I1 q1) fun w2 s2 ⟨y,H2,I2,ry,q2⟩=>
  bT (hr pins s2 σ H2 _ I2 q2) fun ws s3 ⟨ps,H3,I3,rel,q3⟩=>⟨(x,y)::ps,H3,I3,.cons ⟨rx,ry⟩ rel,q3⟩)
def aK (kvs more:List (aW × V)):List (aW × V):=more.foldl (fun acc kv=>bR acc kv.1 kv.2) kvs
theorem KV.merge:∀ {more:List (aW × V)} {rs:List (aW × Value)} {kvs:List (aW × V)} {vs:List (aW × Value)},KV more rs->KV kvs vs->KV (aK kvs more) (merged vs rs):=by
 intro more rs kvs vs r;unfold KV at r;induction r generalizing kvs vs with
 | nil=>intro q;exact q
 | @cons p q ps qs h t ih=>
  intro r0;have e:KV (bR kvs p.1 p.2) (stored vs q.1 q.2):=by
   have:=r0.put p.1 h.2
   rw[<- h.1];exact this
  exact ih e
theorem cX:∀(more kvs:List (aW × V)),(aK kvs more).length<=kvs.length+more.length
 | [],kvs=>by show kvs.length<=kvs.length+0;omega
 | p::r,kvs=>by
  have h1:=cX r (bR kvs p.1 p.2)
  have h2:=cN kvs p.1 p.2
  show(aK (bR kvs p.1 p.2) r).length<=_
  rw[nZ];omega
theorem oV {P:Program} {w:World}:∀ {kvs:List (aW × V)} {ws:List (Value × Value)},VV (kvs.map fun kv=>(kV kv.1,kv.2)) ws->∃rs,Carries (bA P w) ws rs/\KV kvs rs
 | [],_,r=>by rw[List.map_nil]at r;cases r;exact⟨[],True.intro,.nil⟩
 | p::kvs,_,r=>by
  rw[List.map_cons]at r;cases r with
  | @cons a b as bs h t=>
   obtain⟨rs,c,q⟩:=oV (P:=P) (w:=w) t
   obtain⟨b1,b2⟩:=b
   exact⟨(p.1,b2)::rs,⟨nJ h.1,rfl,c⟩,.cons ⟨rfl,h.2⟩ q⟩
def No (trs:List (TE × TE)):TE:=fun σ H Q=>∀p,H p=none->xA trs σ (aI H p (.dK [])) fun ps H2=>H2 p=some (.dK [])/\∃kvs:List (aW × V),ps=kvs.map (fun kv=>(kV kv.1,kv.2))/\kvs.length<=15/\Q (.ref p) (aI H2 p (.dK (aK [] kvs)))
theorem Kj {X:Cx} {pos:Pos} {keys:List (Option Expr)} {values:List Expr} {trs:List (TE × TE)} (h:Tz X pos keys values trs) (hall:keys.all (·.isSome)=true) (hl:keys.length=values.length) (h0:keys≠[])
  (h15:keys.length<=15):PE X (.Dict keys values pos) (No trs):=by
 intro pins s σ H Q I q;have hn:=I.hok.fresh (aV s.heap.objs.size)
 have I1:=I.laid (a:=s.heap.objs.size) (o:=.dK []) (h':=s.heap.push {cls:=.type "dict",data:=.dict #[] }) (t':=s.toks) (fun _ _ q=>dH _ q) (aV _) (uN s.heap I.big)
 refine wpAny_Dict_walk (knd:=bA X.prog X.w) hall hl h0 h15 (bT (h pins _ σ _ _ I1 (q _ hn)) fun ws s2 ⟨ps,H2,I2,rel,e,kvs,ep,lk,q2⟩=>?_)
 subst ep;obtain⟨rs,c,rk⟩:=oV (P:=X.prog) (w:=X.w) rel
 obtain⟨z,hd,vs0,r0,dd⟩:=Dh I2.hok e
 cases r0
 refine⟨rs,c,dd,fun h' dd' hs=>⟨.ref s.heap.objs.size,_,?_,rfl,q2⟩⟩
 have hz:(aK [] kvs).length<=sizeLine:=by
  have h1:=cX kvs []
  rw[List.length_nil]at h1;rw[sizeLine_eq];omega
 have he:∃q,h'.get? s.heap.objs.size=some q:=let ⟨q,_,_,hq,_⟩:=dd';⟨q,hq⟩
 exact sX I2 (by rw[e];exact True.intro) hs he (Dl hz hd (rk.merge .nil) dd')
structure M2 (X:Cx) (o:Expr) (m:Str) (apos:Pos) (e f:Expr) (cpos:Pos):Prop where
 base:attributeBase o m X.env (eval o X.env)=eval o X.env
 few:((backTo cpos (starEach [e,f] X.env)).all (fun x=>!x.1)&&(backToKw cpos (keywordEach [] X.env)).all (fun x=>x.1.isSome)
  && decide (([e,f]:List Expr).length+([]:List Keyword).length+(if ([]:List Keyword).isEmpty then 0 else 1)<30))=true
 line:(apos.endLine == cpos.line)=true
 trees:backTo cpos (starEach [e,f] X.env)=[(false,eval e X.env),(false,eval f X.env)]
def Wv (H:Hp) (a:Addr):Prop:=(∃kvs,Rd H a (.dK kvs))∨∃kvs,Rd H a (.dT kvs)
theorem Dt {X:Cx} {pins:List (Addr × Obj)} {σ:St} {H:Hp} {s:Shared} {a:Addr} (I:Inv X pins σ H s) (d:Wv H a) :
  s.TypeIs (.ref a) "dict"/\(∀b,Value.ref a=.ref b->∃ob,s.heap.get? b=some ob/\ob.dict=none)/\(a == sysModules)=false:=by
 rcases d with⟨kvs,e⟩ | ⟨kvs,e⟩
 ·obtain⟨_,hd,vs,_,dd⟩:=lB I.hok e
  refine⟨dd.typeIs,fun b q=>?_,hd⟩
  cases q
  obtain⟨ob,_,_,h1,h2,_⟩:=dd
  exact⟨ob,h1,h2.2.1⟩
 ·obtain⟨_,hd,xs,_,dd⟩:=oU I.hok e
  refine⟨dd.typeIs,fun b q=>?_,hd⟩
  cases q
  obtain⟨ob,_,_,h1,h2,_⟩:=dd
  exact⟨ob,h1,h2.2.1⟩
section
variable {X:Cx} {pins:List (Addr × Obj)} {σ:St} {H:Hp} {s:Shared} {a:Addr} {y d:V} {u r:Value} {o:Option V} {A:Around} {E:Value->Shared->Prop}
theorem Qh {Q:Value->Shared->Prop} (hu:A.units+1<cLine) (I:Inv X pins σ H s) (g:DGet H a y o) (ry:RelV y u) (rd:RelV d r) (h:∀w' s',Inv X pins σ H s'->RelV (o.getD d) w'->Q w' s') :
  wpAny (model X.prog X.w) A (call (.builtin "dict.get") [.ref a,u,r]) Q E s:=by
 rcases g with⟨kvs,k,e,ey,l⟩ | ⟨kvs,k,b,e,ey,eb,l⟩
 ·subst ey;obtain⟨z,hd,vs,rel,dd⟩:=lB I.hok e
  refine call_meetsIn PySem.F.slot_dict_get dd.typeIs PySem.F.entry_dict_get (PySem.F.args_dict_get_3 _ _ _) (meets_dict_get_default (bA X.prog X.w) a (nJ ry) hd r) ⟨_,dd.mapOf,h _ _ (I.tok _) ?_⟩
  rw[l];exact(rel.val k).getD rd
 ·subst ey;cases (show u=Value.ref b from ry)
  obtain⟨z,hd,xs,rel,dd⟩:=oU I.hok e
  refine call_meetsIn PySem.F.slot_dict_get dd.typeIs PySem.F.entry_dict_get (PySem.F.args_dict_get_3 _ _ _) (meetsH_dict_get_default (tupleKind (bA X.prog X.w)) a b hd r) ⟨tupleKind_room_in1 hu,k,xs,mK I.hok eb,dd,h _ _ (I.tok _) ?_⟩
  rw[l];exact(rel.val k).getD rd
end
def Du (td ty tx:TE):TE:=fun σ H Q=>td σ H fun x H1=>∃a,x=.ref a/\Wv H1 a/\ty σ H1 fun y H2=>tx σ H2 fun z H3=>∃o,DGet H3 a y o/\Q (o.getD z) H3
section
variable {X:Cx} {o e f:Expr} {apos cpos:Pos} {td ty tx:TE}
theorem Dv (hu:X.A.units+1<cLine) (ho:PE X o td) (he:PE X e ty) (hf:PE X f tx) (m:M2 X o "get" apos e f cpos):PE X (.Call (.Attribute o "get" apos) [e,f] [] cpos) (Du td ty tx):=by
 intro pins s σ H Q I h;refine wpAny_Call_method m.base m.few m.line PySem.F.plainAttrs_dict PySem.F.slot_dict_get PySem.F.type_dict_get (bT (ho pins s σ H _ I h) fun u s1 ⟨x,H1,I1,rx,a,ex,d,q1⟩=>?_)
 subst ex;obtain rfl:u=Value.ref a:=rx
 obtain⟨t1,t2,_⟩:=Dt I1 d
 refine⟨t1,t2,?_⟩
 rw[m.trees];refine Calls.callWith_builtin rfl (Calls.evalArgs_plain (Calls.spliced_cons (bT (he pins s1 σ H1 _ I1 q1) fun iv s2 ⟨y,H2,I2,ry,q2⟩=>
  Calls.spliced_cons (bT (hf pins s2 σ H2 _ I2 q2) fun fv s3 ⟨z,H3,I3,rz,ov,g,q3⟩=>Calls.spliced_nil ?_))))
 exact Qh hu I3 g ry rz fun w' s4 I4 rw'=>⟨_,H3,I4,rw',q3⟩
end
end L2
namespace Att
open PySem PySem.W PySem.Calls PyProof.Rows
theorem nU {P:Params} {h:Heap}:∀(ns:List Int) (vs:List Value),WellAll P h vs (ns.map WData.int)->IntsAre vs ns:=by
 intro ns;induction ns with
 | nil=>
  intro vs w;rw[List.map_nil]at w;cases w
  exact .nil
 | cons n ns ih=>
  intro vs w;rw[List.map_cons]at w;cases w with
  | cons a b=>
   cases a
   exact .cons _ _ (ih _ b)
theorem Ay {l:OpenLaw} {n:Nat} (hn:l.most=some n) {P:Params} {h:Heap} {args:List WData} {vals:List Value}
  (hpre:l.row.toRowW.claim.pre args=true) (hwl:WellAll P h vals args) :
  ∃a vs ns,vals=[Value.ref a]/\args=[WData.list (ns.map WData.int)]/\h.get? a=some {cls:=.type "list",data:=.seq vs.toArray }/\IntsAre vs ns/\ns.length<=n:=by
 have hsh:WShape.hasAll [] args [.list .int]=true:=(pre_splitW hpre).1
 have hc:l.pre.holds [] {args:=args }=true:=(pre_splitW hpre).2
 obtain⟨d,r,rfl,h1,h2⟩:=hasAllW_cons hsh
 obtain rfl:=hasAllW_nil h2
 obtain⟨xs,rfl,h3⟩:=hasW_list h1
 obtain⟨ns,rfl⟩:=items_int h3
 have hlen:ns.length<=n:=by
  unfold OpenLaw.pre at hc;have h4:(WTm.not (.lt (.lit (.int (n:Int))) (.len (.arg 0)))).holds [] {args:=[.list (ns.map .int)] }=true:=by
   have h4:=(holds_andW hc).1
   rw[hn]at h4;exact h4
  have h5:=condW_of h4 (w_not (w_lt w_lit (w_len_list (w_arg rfl))))
  rw[aQ]at h5;refine Nat.le_of_not_lt fun q=>?_
  have q':(n:Int)<((ns.length:Nat):Int):=by omega
  first
   | (rw[decide_eq_true q']at h5;exact absurd h5 Zd)
   | (simp at h5;omega)
 cases hwl with
 | cons w1 w2=>
  cases w2
  cases w1 with
  | list ho hall=>exact⟨_,_,ns,rfl,rfl,ho,nU ns _ hall,hlen⟩
theorem Az (l:OpenLaw) (args:List WData):l.row.toRowW.claim.post args (.bool true) args=true:=
 postW_of (r:=l.row.toRowW) (X:=(true == true))
  (show WShape.has [] (.bool true) .bool=true by first | rfl | decide | simp [WShape.has,WShape.arms,WShape.armsAll])
  (show(WTm.eq .res (.lit (.bool true))).value [] {args:=args,res:=some (.bool true),after:=args }=some (.bool (true == true)) from w_eq_bool (w_res rfl) w_lit) rfl
theorem attach_call {l:OpenLaw} {n:Nat} {q:Program} {loose:List Str} {XP:(Str->Option Value)->Heap->Prop} {YP:World->Heap->Prop} {d:DefRec}
  (hn:l.most=some n) (hdf:d.params.defaults=[])
  (call:∀(w:World) (s₀ s₁:Shared) (mg mb:Str->Option Value) (fa:Addr) (o:Obj) (pm cd doc:Value) (a:Addr) (vs:List Value) (ns:List Int),
   Ground q loose [] XP w s₀ mg mb s₁.heap->YP w s₁.heap →
   s₁.heap.get? fa=some o->o.data=.func (docDef d.name d.params d.body d.scope pm cd doc)->s₁.heap.CodeRec cd d.name->mg d.name=some (.ref fa) →
   s₁.heap.get? a=some {cls:=.type "list",data:=.seq vs.toArray }->IntsAre vs ns->ns.length<=n->s₁.gens=#[] →
   codeAny (model l.prog w) callerA (.call (.ref fa) ⟨[.ref a],[]⟩) (fun r s'=>r=.ok (.ret (.bool true))/\OldK s₁.heap s'.heap/\s'.os=s₁.os/\AllBare s'.gens) s₁) :
  WalkO q loose XP YP l.row.toRowW d [] (fun f vs=>PySem.call f vs):=by
 intro w s₀ s₁ mg mb G Y fa o pm cd doc dV kV ho hd hcd hD hmg hg args vals as hpre hlay hrd hwl hlo;obtain rfl:dV=.none:=Dflts.none hD hdf
 obtain rfl:kV=.none:=Dflts.noKw hD
 obtain⟨a,vs,ns,rfl,rfl,hobj,hints,hlen⟩:=Ay hn hpre hwl
 refine enter_call (codeAny_mono (call w s₀ s₁ mg mb fa o pm cd doc a vs ns G Y ho (fd_plain hd) hcd hmg hobj hints hlen hg) fun r s' hq=>?_)
 obtain⟨rfl,h2,h3,h4⟩:=hq
 exact⟨.inl ⟨.bool true,.bool true,[],rfl,fun _=>rfl,.bool true,Az l _,fun _=>⟨List.Pairwise.nil,fun _ hm=>(nomatch hm)⟩⟩,h2,h3,h4⟩
end Att
namespace L2
open PySem PySem.Spec PyProof.Rows
theorem rG:∀ {vs:List Value} {ns:List Int},IntsAre vs ns->Vals (ns.map V.int) vs
 | _,_,.nil=>.nil
 | _,_,.cons n t h=>.cons ⟨t,rfl⟩ (rG h)
def Qi (H:Hp):Prop:=∀b,H b=none∨∃o xs,H b=some (.frz o (.lst xs))
theorem Dw {P:Program} {w:World} {K:W.Frag} {mg mb:Str->Option Value} {CX:Jb} {k:Nat} {fa a:Addr} {fd:FuncData} {x:Str} {sp:Sp} {s₁:Shared} {vs:List Value} {ns:List Int}
  (KX:K.In s₁.heap) (hns:s₁.heap.Ns mainGlobals mg) (hb:s₁.heap.Ns builtinsNs mb) (hbb:∀x:Str,x≠"__name__"->mb x=bootBuiltins x) (hlim:s₁.heap.NoLimit) (hg:s₁.gens=#[])
  (ha:s₁.heap.get? a=some {cls:=.type "list",data:=.seq vs.toArray }) (hi:IntsAre vs ns) (hl:ns.length<=sizeLine) (hr:Room k callerA)
  (F:∀base:Heap,K.In base->base.Ns mainGlobals mg->kA P w K mg base CX k fa fd [x] sp) (hbind:∀(s:Shared) (u:Value),BindsTo s fd ⟨[u],[]⟩ [(x,u)])
  (hsp:∀H:Hp,Qi H->SqL K H a (ns.map V.int)->sp [.ref a] H (fun v _=>v=.bl true) fun _ _ _=>False)
  (hCX:∀H e s',CX [] H s₁ (fun _ _ _=>False) e s'->False) :
  codeAny (model P w) callerA (.call (.ref fa) ⟨[.ref a],[]⟩) (fun r s'=>r=.ok (.ret (.bool true))/\OldK s₁.heap s'.heap/\s'.os=s₁.os/\AllBare s'.gens) s₁:=by
 have rv:=rG hi
 have lenV:=hi.length
 have core:∀H:Hp,Qi H->SqL K H a (ns.map V.int)->HOk P w H s₁.heap->(∀b,H b≠none->b=a)->(H a≠none->K.lookup a=none) →
   codeAny (model P w) callerA (.call (.ref fa) ⟨[.ref a],[]⟩) (fun r s'=>r=.ok (.ret (.bool true))/\OldK s₁.heap s'.heap/\s'.os=s₁.os/\AllBare s'.gens) s₁:=by
  intro H hO hS hok hA hK;have base_of:∀ {b:Addr} {o:Obj},s₁.heap.get? b=some o->H b=none->(sI s₁.heap H).get? b=some o:=fun e n=>Ce e n
  have noA:∀ {b:Addr} {o:Obj} {es:Array DictEntry} {ep:Nat},s₁.heap.get? b=some o->o.data=.dict es ep->H b=none:=fun {b o es ep} e d=>by
   cases q:H b with
   | none=>rfl
   | some u=>
    have e':b=a:=hA b (by rw[q];simp)
    subst e';rw[ha]at e;cases e
    have d':Data.seq vs.toArray _=Data.dict es ep:=d
    cases d'
  have nsK:∀ {b:Addr} {m:Str->Option Value},s₁.heap.Ns b m->(sI s₁.heap H).Ns b m:=fun {b m} ⟨o,es,ep,e,d,r⟩=>⟨o,es,ep,base_of e (noA e d),d,r⟩
  have hKb:K.In (sI s₁.heap H):=fun b o e=>base_of (KX b o e) (by
   cases q:H b with
   | none=>rfl
   | some u=>
    have e':b=a:=hA b (by rw[q];simp)
    subst e';rw[hK (by rw[q];simp)]at e;cases e)
  have hM:Mod K mg (sI s₁.heap H):=⟨hKb,nsK hns,⟨mb,nsK hb,hbb⟩,let ⟨mc,h1,h2⟩:=hlim;⟨mc,nsK h1,h2⟩⟩
  have e0:Env0 P w K mg (sI s₁.heap H) callerA [] s₁ H:=⟨rfl,hM,fun b o e=>Jc e,Nat.le_of_eq (Ad _ _),trivial,fun b hb=>absurd (show b∈([]:List Addr) from hb) Zs,hok,.of_eq hg⟩
  refine codeAny_mono ((F _ hKb (nsK hns)).run callerA [] s₁ H ⟨[.ref a],[]⟩ [.ref a] [.ref a] _ _ hr e0 (hbind s₁ (.ref a)) (.cons rfl .nil) (hsp H hO hS)) fun r s' h=>?_
  cases r with
  | error e=>exact(hCX H e s' h).elim
  | ok fl=>
   cases fl with
   | next=>exact False.elim h
   | brk=>exact False.elim h
   | cont=>exact False.elim h
   | ret u=>
    obtain⟨v,H',os,bare,un,hok',r',q⟩:=h
    have q':v=.bl true:=q
    subst q';obtain rfl:u=Value.bool true:=r'
    refine⟨rfl,OldK.of_keep fun b o e=>?_,os,bare⟩
    cases q:H b with
    | none=>exact un.keep b o e q (by intro z;exact absurd (show b∈([]:List Addr) from z) Zs) Zs
    | some u=>
     rcases hO b with z | ⟨ob,xs,z⟩
     ·rw[q]at z;cases z
     ·have z2:=un.frzs b ob _ z
      obtain⟨e1,_⟩:=hok b _ z
      obtain⟨e2,_⟩:=hok' b _ z2
      rw[e]at e1;cases e1
      exact e2
 cases hk:K.lookup a with
 | some o=>
  have e:=KX a o hk
  rw[ha]at e;cases e
  refine core (fun _=>none) (fun _=>.inl rfl) (.inr ⟨_,vs.toArray,_,hk,rfl,rfl,rfl,by rw[dG,lenV];exact hl,by simpa using rv⟩) (fun b u z=>by have z':(none:Option HO)=some u:=z;cases z') (fun b z=>absurd rfl z) fun z=>absurd rfl z
 | none=>
  refine core (fun b=>if b=a then some (.frz {cls:=.type "list",data:=.seq vs.toArray } (.lst (ns.map V.int))) else none) (fun b=>?_) (.inl (.inr ⟨{cls:=.type "list",data:=.seq vs.toArray },if_pos rfl⟩)) (fun b u z=>?_) (fun b z=>?_) fun _=>hk
  ·by_cases hb:b=a
   ·exact .inr ⟨_,_,if_pos hb⟩
   ·exact .inl (if_neg hb)
  ·by_cases hb:b=a
   ·have z':=(if_pos hb).symm.trans z
    cases z'
    subst hb;exact⟨ha,by rw[aQ];exact hl,vs,_,rv,ha⟩
   ·have z':=(if_neg hb).symm.trans z
    cases z'
  ·by_cases hb:b=a
   ·exact hb
   ·exact absurd (if_neg hb) z
end L2
namespace L2
open PySem PySem.Spec PyProof.Rows
theorem yM {l:W.OpenLaw} {n k:Nat} {q:Program} {loose:List Str} {XP:(Str->Option Value)->Heap->Prop} {YP:World->Heap->Prop} {d:DefRec} {K:Params->W.Frag} {CX:World->Jb} {sp:World->Sp} {x:Str}
  (hn:l.most=some n) (hn2:n<=sizeLine) (hdf:d.params.defaults=[]) (hr:Room k callerA)
  (hY:∀(w:World) (h:Heap),YP w h->(K w.params).In h)
  (F:∀(w:World) (mg:Str->Option Value) (fa:Addr) (h:Heap),(K w.params).In h->h.Ns mainGlobals mg->mg d.name=some (.ref fa) →
   ∃fd:FuncData,(∀(s:Shared) (u:Value),BindsTo s fd ⟨[u],[]⟩ [(x,u)]) ∧
    ∀base:Heap,(K w.params).In base->base.Ns mainGlobals mg->kA l.prog w (K w.params) mg base (CX w) k fa fd [x] (sp w))
  (hsp:∀(w:World) (H:Hp) (a:Addr) (ns:List Int),ns.length<=n->Qi H->SqL (K w.params) H a (ns.map V.int)->sp w [.ref a] H (fun v _=>v=.bl true) fun _ _ _=>False)
  (hCX:∀(w:World) (H:Hp) (s:Shared) (e:Value) (s':Shared),CX w [] H s (fun _ _ _=>False) e s'->False) :
  W.WalkO q loose XP YP l.row.toRowW d [] (fun f vs=>PySem.call f vs):=by
 refine Att.attach_call hn hdf fun w s₀ s₁ mg mb fa o pm cd doc a vs ns G Y ho hd hcd hmg hobj hints hlen hg=>?_
 have KX:=hY w _ Y
 obtain⟨fd,hb,hF⟩:=F w mg fa _ KX G.T.g hmg
 exact Dw KX G.T.g G.T.b G.T.builtins G.T.nolimit hg hobj hints (eK hlen hn2) hr hF hb (fun H hO hS=>hsp w H a ns hlen hO hS) fun H e s'=>hCX w H s₁ e s'
end L2
/- THE LAST THEOREM (shape;LID,My.* are yours):
   My.Adr: a structure of the addresses that your layer names (classes,functions);My.Txt K t: a structure (Prop) of the equations over K;
   My.txt_mk:{K} {implicit addresses ..} (e1:nsIn K mainGlobals "law"=some (some (.ref f))) (e2:K.lookup f=some ⟨oc,od,.func (fnOf "law" "law" params body scope dV kV doc pm an cdv ct),sl⟩) (e3:codeIn K cdv "law"=true) ..:∃t,My.Txt K t
set_option maxRecDepth 100000 in
set_option maxHeartbeats 0 in
theorem PySem.Challenge.cw_LID_holds : PySem.Challenge.rw_LID.Holds := by
 w_on;o_law;k_head;(case hw=>w_witness2)
 k_fill
 refine L2.yM (l:=PySem.Challenge.rw_LID) (n:=63) (k:=40) (x:="script") (CX:=fun w=>..) (sp:=fun _=>My.sp_law) rfl Zd rfl ⟨rfl,Zd,Zd⟩ (fun w h Y=>W.kIn_of Y) ?F ?S ?C
 case F=>
  intro w mg fa h KX G hmg;have T:∃t,My.Txt (L2.KOf KX) t:=by
   dsimp only [L2.KOf]                          -- K must stand as «<heap const> w.params» for k_is
   refine' My.txt_mk ?e1 ?e2 ?e3 ..
   (case e1=>W.k_is)                    -- in the order: a name->its address->its object->its parts
   (case e2=>W.k_is)
   ..
  obtain⟨t,T⟩:=T
  have e0:=hmg.symm.trans (W.mg_of KX G T.law)
  cases e0                                       -- fa is the law's own address
  exact⟨_,fun s u=>.of_eq rfl,fun base kb nb=>My.law_fn T kb nb⟩     -- if «.of_eq rfl» comes too early: refine' ⟨_,?b,fun base kb nb=>My.law_fn T kb nb⟩;exact fun s u=>.of_eq rfl
 case S=>exact fun w H a ns hl hO hS=>..
 case C=>exact ..
(the tactic k_is has no namespace: write k_is) -/
namespace L2
open PySem PySem.Spec PyProof.Rows
def oC (s:Stmt) (j:Nat):Stmt:=match s with
 | .ClassDef _ _ _ body _ _ _ _ _ _ _=>body.getD j (.Pass ⟨0,0,0,0⟩)
 | _=>.Pass ⟨0,0,0,0⟩
def bX (s:Stmt):Arguments:=match s with
 | .FunctionDef _ a _ _ _ _ _ _ _ _=>a
 | _=>{posonlyargs:=[],args:=[],vararg:=none,kwonlyargs:=[],kw_defaults:=[],kwarg:=none,defaults:=[] }
def bD (s:Stmt):List Stmt:=match s with
 | .FunctionDef _ _ b _ _ _ _ _ _ _=>b
 | _=>[]
def aB (s:Stmt):Scope:=match s with
 | .FunctionDef _ _ _ _ _ _ sc _ _ _=>sc
 | _=>{kind:=.function,names:=[],isGenerator:=false,isCoroutine:=false }
abbrev rH:Jb:=fun _ _ _ _ _ _=>False
abbrev E0:XK:=fun _ _ _=>False
theorem yN {X:Cx}:oO rH X E0:=fun _ _ _ _ _ _ _ h=>h.elim
structure Fun (K:W.Frag) (x qual:Str) (st:Stmt) (f:Addr) (fd:FuncData):Prop where
 ex:∃(oc:Value) (od:Option Addr) (kV doc pm:Value) (an:Option Addr) (cdv ct:Value) (osl:Array (Option Value)),
  fd=W.fnOf x qual (bX st) (bD st) (aB st) .none kV doc pm an cdv ct/\K.lookup f=some ⟨oc,od,.func fd,osl⟩/\W.codeIn K cdv qual=true
 kp:W.keepIn K (.ref f)=true
section
variable {P:Program} {w:World} {K:W.Frag} {mg:Str->Option Value} {base:Heap}
theorem Fun.ok {x qual:Str} {st:Stmt} {f:Addr} {fd:FuncData} {N ps:List Str} {k:Nat} {sp:Sp} (F:Fun K x qual st f fd) (S:aN N ps (aB st)) (len:∀vs H Q E,sp vs H Q E->vs.length=ps.length)
  (hbody:∀(cdv:Value) (A:Around) (outer:List Env) (s:Shared) (H:Hp) (vs:List V) (Q:VK) (E:XK),Room k (A.deeper (envOfC qual (aB st) s.heap.objs.size f cdv))->sp vs H Q E →
   ∃t,PSs (kZ rH P w K mg base N qual (aB st) f cdv A outer s H E).nox (bD st) t/\t {nx:=fun _ H'=>Q .non H',rt:=Q } (start N vs) H):kA P w K mg base rH (k+1) f fd ps sp:=by
 obtain⟨oc,od,kV,doc,pm,an,cdv,ct,osl,rfl,lk,hcd⟩:=F.ex
 refine Nk lk hcd S len fun A outer s H vs Q E hr hsp=>?_
 obtain⟨t,h,q⟩:=hbody cdv A outer s H vs Q E hr hsp
 exact⟨t,h.nox,q⟩
theorem Fun.binds {x qual:Str} {st:Stmt} {f:Addr} {fd:FuncData} {ps:List Str} (F:Fun K x qual st f fd)
  (h:∀(kV doc pm:Value) (an:Option Addr) (cdv ct:Value) (us:List Value),us.length=ps.length->bindArgs (W.fnOf x qual (bX st) (bD st) (aB st) .none kV doc pm an cdv ct) ⟨us,[]⟩=pure (ps.zip us)):Binds K fd ps []:=by
 obtain⟨oc,od,kV,doc,pm,an,cdv,ct,osl,rfl,lk,hcd⟩:=F.ex
 exact .all (h kV doc pm an cdv ct)
theorem oW {x qual:Str} {st:Stmt} {f:Addr} {oc:Value} {od an:Option Addr} {osl:Array (Option Value)} {kV doc pm cdv ct:Value} (l:K.lookup f=some ⟨oc,od,.func (W.fnOf x qual (bX st) (bD st) (aB st) .none kV doc pm an cdv ct),osl⟩)
  (c:W.codeIn K cdv qual=true) (k:W.keepIn K (.ref f)=true):Fun K x qual st f (W.fnOf x qual (bX st) (bD st) (aB st) .none kV doc pm an cdv ct):=⟨⟨oc,od,kV,doc,pm,an,cdv,ct,osl,rfl,l,c⟩,k⟩
end
theorem dU {A:Around} {k:Nat} (hr:Room k A):A.units+1<cLine:=kI (Nat.add_le_add_left (by decide:1<=64) _) hr.units
def Same (H H':Hp):Prop:=∀b o,H b=some o->H' b=some o
theorem Same.refl (H:Hp):Same H H:=fun _ _ h=>h
theorem Same.trans {H H1 H2:Hp} (a:Same H H1) (b:Same H1 H2):Same H H2:=fun c o h=>b c o (a c o h)
theorem Same.free {H H':Hp} (e:Same H H') {l:Addr} (h:H' l=Option.none):H l=Option.none:=by
 cases q:H l with
 | none=>rfl
 | some o=>
  rw[e l o q]at h;cases h
theorem Same.seq {K:W.Frag} {H H':Hp} {a:Addr} {xs:List V} (e:Same H H') (h:SqL K H a xs):SqL K H' a xs:=by
 rcases h with(h | ⟨o,h⟩) | h
 ·exact .inl (.inl (e _ _ h))
 ·exact .inl (.inr ⟨o,e _ _ h⟩)
 ·exact .inr h
section
variable {κ:Type} [DecidableEq κ]
theorem uO {kvs:List (κ × V)} {k:κ} (h:bN kvs k=none):¬ k∈kvs.map (·.1):=by
 intro m;obtain⟨p,hp,e⟩:=Zmm.mp m
 have q:(kvs.any fun kv=>decide (kv.1=k))=true:=List.any_eq_true.mpr ⟨p,hp,decide_eq_true e⟩
 rw[cM,h]at q;exact absurd q Zs
theorem yO {kvs:List (κ × V)} {k:κ} {v:V} (h:bN kvs k=some v):k∈kvs.map (·.1):=by
 have q:(kvs.any fun kv=>decide (kv.1=k))=true:=by
  rw[cM,h];all_goals rfl
 obtain⟨p,hp,e⟩:=List.any_eq_true.mp q
 exact Zmm.mpr ⟨p,hp,of_decide_eq_true e⟩
theorem sY:∀ {l:List κ} {k:κ},l.Nodup->¬ k∈l->(l++[k]).Nodup
 | [],k,_,_=>by simp
 | a::r,k,h,hk=>by
  obtain⟨h1,h2⟩:=List.nodup_cons.mp h
  show(a::(r++[k])).Nodup
  refine List.nodup_cons.mpr ⟨fun m=>?_,sY h2 fun m=>hk (List.mem_cons.mpr (Or.inr m))⟩
  rcases Zma.mp m with q | q
  ·exact h1 q
  ·exact hk (List.mem_cons.mpr (Or.inl (Zms.mp q).symm))
theorem Kk {kvs:List (κ × V)} {k:κ} (v:V) (hn:(kvs.map (·.1)).Nodup) (h:bN kvs k=none):((bR kvs k v).map (·.1)).Nodup:=by
 rw[iW v h,cS];exact sY hn (uO h)
end
end L2
namespace L2
open PySem PySem.Spec PyProof.Rows
def iX (env:Env):List (Str × NameKind)->List (Str × Addr)->List (Str × Addr)
 | [],cs=>cs
 | (n,k)::r,cs=>iX env r (if k=.free then (match env.cells.lookup n with | some c=>(n,c)::cs | none=>cs) else cs)
theorem kJ {env:Env}:∀(names:List (Str × NameKind)) (cs:List (Str × Addr)),(∀x∈names,x.2=.free->∃c,env.cells.lookup x.1=some c) →
  (forIn names cs fun(x:Str × NameKind) (r:List (Str × Addr))=>(do
   if x.2 == .free then do
    let c ← cellOf env x.1
    pure (ForInStep.yield ((x.1,c)::r))
   else pure (ForInStep.yield r):Sem _))=pure (iX env names cs)
 | [],cs,_=>rfl
 | (n,k)::r,cs,h=>by
  rw[List.forIn_cons];by_cases hk:k=.free
  ·subst hk;obtain⟨c,hc⟩:=h (n,.free) iM rfl
   have hc':env.cells.lookup n=some c:=hc
   have e1:cellOf env n=pure c:=by unfold cellOf;rw[hc']
   simp only [beq_self_eq_true,if_true,e1,pure_bind]
   rw[kJ r ((n,c)::cs) fun x hx=>h x (kD _ hx)]
   simp [iX,hc']
  ·have hb:(k == NameKind.free)=false:=by simpa using hk
   simp only [hb,Bool.false_eq_true,if_false,pure_bind]
   rw[kJ r cs fun x hx=>h x (kD _ hx)]
   simp [iX,hk]
theorem oX {scope:Scope} {env:Env} (h:∀x∈scope.names,x.2=.free->∃c,env.cells.lookup x.1=some c):closureFor scope env=pure (iX env scope.names []):=by
 have e:=kJ scope.names [] h
 unfold closureFor;exact(congrArg (fun z=>z >>= fun(r:List (Str × Addr))=>(pure r:Sem _)) e).trans (pure_bind _ _)
theorem uP {env:Env}:∀(names:List (Str × NameKind)) (cs:List (Str × Addr)),(∀y d,(y,d)∈cs->env.cells.lookup y=some d)->∀y d,(y,d)∈iX env names cs->env.cells.lookup y=some d
 | [],_,h=>h
 | (n,k)::r,cs,h=>by
  unfold iX;refine uP r _ fun y d hm=>?_
  split at hm
  ·split at hm
   ·rename_i c hc
    rcases List.mem_cons.mp hm with e | e
    ·cases e;exact hc
    ·exact h y d e
   ·exact h y d hm
  ·exact h y d hm
theorem yP {env:Env}:∀(names:List (Str × NameKind)) (cs:List (Str × Addr)) (y:Str) (d:Addr),(y,d)∈iX env names cs->(y,.free)∈names∨(y,d)∈cs
 | [],_,_,_,h=>.inr h
 | (n,k)::r,cs,y,d,h=>by
  unfold iX at h;rcases yP r _ y d h with e | hm
  ·exact .inl (kD _ e)
  ·split at hm
   ·rename_i hk
    split at hm
    ·rcases List.mem_cons.mp hm with e | e
     ·cases e;subst hk;exact .inl iM
     ·exact .inr e
    ·exact .inr hm
   ·exact .inr hm
theorem Dx {env:Env}:∀(names:List (Str × NameKind)) (cs:List (Str × Addr)) (y:Str),((∃d,(y,d)∈cs)∨(y,.free)∈names)->(∀x∈names,x.2=.free->∃c,env.cells.lookup x.1=some c)->∃d,(y,d)∈iX env names cs
 | [],_,_,h,_=>by
  rcases h with h | h
  ·exact h
  ·cases h
 | (n,k)::r,cs,y,h,hf=>by
  unfold iX;refine Dx r _ y ?_ fun x hx=>hf x (kD _ hx)
  rcases h with⟨d,hd⟩ | h
  ·refine .inl ⟨d,?_⟩
   split
   ·split
    ·exact kD _ hd
    ·exact hd
   ·exact hd
  ·rcases List.mem_cons.mp h with e | e
   ·have e1:y=n:=congrArg Prod.fst e
    have e2:NameKind.free=k:=congrArg Prod.snd e
    subst e1 e2;obtain⟨c,hc⟩:=hf (y,.free) iM rfl
    have hc':env.cells.lookup y=some c:=hc
    refine .inl ⟨c,?_⟩
    rw[if_pos rfl,hc'];exact iM
   ·exact .inr e
theorem oY {α:Type}:∀ {l:List (Str × α)} {y:Str} {d:α},(y,d)∈l->∃d',l.lookup y=some d'/\(y,d')∈l
 | (n,c)::r,y,d,h=>by
  by_cases e:y=n
  ·subst e;exact⟨c,by simp [List.lookup_cons],iM⟩
  ·rcases List.mem_cons.mp h with q | q
   ·cases q;exact absurd rfl e
   ·obtain⟨d',h1,h2⟩:=oY q
    have hb:(y == n)=false:=by simpa using e
    exact⟨d',by rw[List.lookup_cons,hb];exact h1,kD _ h2⟩
theorem dC {env:Env} {names:List (Str × NameKind)} {y:Str} {c:Addr} (h:(iX env names []).lookup y=some c):env.cells.lookup y=some c/\(y,.free)∈names:=by
 have hm:=PySem.mem_of_lookup h
 refine⟨uP names [] (fun _ _ z=>nomatch z) y c hm,?_⟩
 rcases yP names [] y c hm with e | e
 ·exact e
 ·cases e
theorem yQ {env:Env} {names:List (Str × NameKind)} {y:Str} (h:(y,.free)∈names) (hf:∀x∈names,x.2=.free->∃c,env.cells.lookup x.1=some c):∃c,(iX env names []).lookup y=some c/\env.cells.lookup y=some c:=by
 obtain⟨d,hd⟩:=Dx names [] y (.inr h) hf
 obtain⟨c,hc,_⟩:=oY hd
 exact⟨c,hc,(dC hc).1⟩
theorem sZ {scope:Scope} {env:Env} (hcell:∀y∈scope.names,y.2≠.cell) {x:Str} (h:(relabel scope env).names.lookup x=some .cell∨(relabel scope env).names.lookup x=some .free):(x,.free)∈scope.names:=by
 have go:∀ {k:NameKind},k=.cell∨k=.free->(relabel scope env).names.lookup x=some k->(x,.free)∈scope.names:=fun {k} hk h=>by
  have hm:=PySem.mem_of_lookup h
  unfold relabel at hm;obtain⟨⟨n,j⟩,hp,e⟩:=Zmm.mp hm
  dsimp only at e
  split at e
  ·rename_i hc
   cases e
   have:j=.free:=by
    have:=(Bool.and_eq_true_iff.mp (Bool.and_eq_true_iff.mp hc).1).1
    simpa using this
   subst this;exact hp
  ·cases e
   rcases hk with q | q
   ·exact absurd q (hcell _ hp)
   ·subst q;exact hp
 rcases h with h | h
 ·exact go (.inl rfl) h
 ·exact go (.inr rfl) h
theorem lC {env:Env}:∀ {names:List (Str × NameKind)} {x:Str},names.lookup x=some .free →
  (names.map fun(n,k)=>if (k == NameKind.free&&env.scope.kind == .function&&env.kindOf n == some .cell) then (n,NameKind.cell) else (n,k)).lookup x=some .cell∨
  (names.map fun(n,k)=>if (k == NameKind.free&&env.scope.kind == .function&&env.kindOf n == some .cell) then (n,NameKind.cell) else (n,k)).lookup x=some .free
 | [],_,h=>by simp at h
 | (n,k)::r,x,h=>by
  have ih:=@lC env r x
  rw[List.map_cons];dsimp only;cases hx:x == n with
  | true=>
   simp only [List.lookup_cons,hx]at h
   cases h
   split
   ·left;simp [List.lookup_cons,hx]
   ·right;simp [List.lookup_cons,hx]
  | false=>
   simp only [List.lookup_cons,hx]at h
   split
   ·simp only [List.lookup_cons,hx];exact ih h
   ·simp only [List.lookup_cons,hx];exact ih h
def mF (X:Cx) (scope:Scope) (C:Addr) (N:List Str) (s₂:Shared) (H₂:Hp) (fp:List Addr):Cx where
 prog:=X.prog
 w:=X.w
 K:=X.K
 mg:=X.mg
 base:=X.base
 A:=X.A
 N:=N
 s₀:=s₂
 H₀:=H₂
 env:=compEnvC scope (iX X.env scope.names []) C X.env
 outer:=X.stack
 stack:=X.stack
 ex:=fp
 fn:=fun _=>false
 calm:=X.calm
 pn:=[]
 xe:=fun _ _=>False
def wG (js:List (Option Nat)) (σ:St):St:=js.map fun o=>match o with | some j=>(σ[j]?).getD none | none=>none
structure CompScope (X:Cx) (scope:Scope) (N:List Str) (js:List (Option Nat)):Prop where
 kind:scope.kind=.function
 nocell:∀y∈scope.names,y.2≠.cell
 loc:∀y∈scope.names,y.2=.local->scope.names.lookup y.1=some .local
 len:js.length=N.length
 cap:∀(i j:Nat),js[i]?=some (some j)->∃x,N[i]?=some x/\X.N[j]?=some x/\scope.names.lookup x=some .free
 out:∀y∈scope.names,y.2=.free->X.env.kindOf y.1=some .cell∨X.env.kindOf y.1=some .free
def xB (js:List (Option Nat)) (g:TG):Prop:=∀x σ H Q,g x σ H Q->g x σ H fun σ2 H2=>Q σ2 H2/\σ2.length=σ.length/\∀(i j:Nat),js[i]?=some (some j)->σ2[i]?=σ[i]?
def yR (js:List (Option Nat)) (g:yC):Prop:=∀xs σ H Q,g xs σ H Q->g xs σ H fun σ2 H2=>Q σ2 H2/\σ2.length=σ.length/\∀(i j:Nat),js[i]?=some (some j)->σ2[i]?=σ[i]?
theorem aO {js:List (Option Nat)} {k:Nat} (h:js[k]?=some none):xB js (aJ k):=fun x σ H Q q=>by
 refine⟨q,Zs,fun i j e=>?_⟩
 have:k≠i:=fun z=>by subst z;rw[h]at e;cases e
 rw[List.getElem?_set_ne this]
theorem Ba {js:List (Option Nat)}:yR js Pc:=fun xs σ H Q q=>⟨q.1,q.2,rfl,fun _ _ _=>rfl⟩
theorem oZ {js:List (Option Nat)} {k:Nat} {u:yC} (h:js[k]?=some none) (hu:yR js u):yR js (Ck (aJ k) u):=fun xs σ H Q q=>by
 obtain⟨v,r,e,q⟩:=q
 refine⟨v,r,e,?_⟩
 obtain⟨_,h2⟩:=aO h v σ H (fun _ _=>True) trivial
 have q2:=hu r _ _ _ q
 have e2:(fun σ2 H2=>Q σ2 H2/\σ2.length=(σ.set k (some v)).length/\∀(i j:Nat),js[i]?=some (some j)->σ2[i]?=(σ.set k (some v))[i]?)=(fun σ2 (H2:Hp)=>Q σ2 H2/\σ2.length=σ.length/\∀(i j:Nat),js[i]?=some (some j)->σ2[i]?=σ[i]?):=by
  funext σ2 H2
  have e3:∀(i j:Nat),js[i]?=some (some j)->(σ.set k (some v))[i]?=σ[i]?:=h2.2
  apply propext
  constructor
  ·rintro⟨a,b,c⟩
   exact⟨a,by simpa using b,fun i j e=>(c i j e).trans (e3 i j e)⟩
  ·rintro⟨a,b,c⟩
   exact⟨a,by simpa using b,fun i j e=>(c i j e).trans (e3 i j e).symm⟩
 show u r (σ.set k (some v)) H _
 rw[<- e2];exact q2
theorem Dy {K:W.Frag} {n:Nat} {js:List (Option Nat)} {t:yC} (h:yR js t):xB js (Jm K n t):=fun x σ H Q q=>by
 obtain⟨a,xs,e,hq,hl,q⟩:=q
 exact⟨a,xs,e,hq,hl,h xs σ H Q q⟩
section
variable {X:Cx} {pins:List (Addr × Obj)} {σ:St} {H H':Hp} {s:Shared}
theorem Un.more {fs ex:List Addr} {H H':Hp} {h h':Heap} {D:Addr} {o:HO} (u:Un fs ex H H' h h') (hD:h.get? D=none) (hH:H D=none):Un fs ex H (aI H' D o) h h' where
 keep:=u.keep
 slot:=u.slot
 free:=fun b ob q n hx=>by
  have:b≠D:=fun z=>by rw[z,hD]at q;cases q
  rw[aE this];exact u.free b ob q n hx
 there:=u.there
 tups:=fun b xs q=>by rw[aE (aF q hH)];exact u.tups b xs q
 frzs:=fun b ob xs q=>by rw[aE (aF q hH)];exact u.frzs b ob xs q
 tbls:=fun b ps q=>by rw[aE (aF q hH)];exact u.tbls b ps q
theorem HOk.more {P:Program} {w:World} {h:Heap} {D:Addr} {o:HO} (k:HOk P w H h) (hH:H D=none) (new:ObjOk P w (aI H D o) h D o):HOk P w (aI H D o) h:=fun b u e=>by
 by_cases hb:b=D
 ·subst hb;rw[aA]at e;cases e;exact new
 ·rw[aE hb]at e;exact(k b u e).stay (fun _ _ _ q=>q) (fun c q=>by rw[aE (aF q hH)];exact q) fun c xs q=>by rw[aE (aF q hH)];exact q
theorem CompScope.ok {scope:Scope} {N:List Str} {js:List (Option Nat)} {C:Addr} {fp:List Addr} (S:CompScope X scope N js) (I:Inv X pins σ H s) (hC:s.heap.objs.size<=C) (hf:∀b∈fp,nS X pins H b) (hl:∀b∈fp,b<s.heap.objs.size) :
  (mF X scope C N s H fp).Ok where
 mod:=I.ok.mod
 kind:=S.kind
 glob:=I.ok.glob
 blt:=I.ok.blt
 above:=hC
 inj:=fun x y c h1 h2=>I.ok.inj x y c (dC h1).1 (dC h2).1
 has:=fun x hx=>by
  have hm:(x,.free)∈scope.names:=sZ S.nocell hx
  obtain⟨c,h1,_⟩:=yQ (env:=X.env) hm fun y hy hk=>I.ok.has y.1 (S.out y hy hk)
  exact⟨c,h1⟩
 cab:=fun x c z=>nomatch z
 hd:=I.ok.hd
 frames:=I.ok.frames
 stk:=.inl rfl
 exf:=fun b hb=>⟨Nat.ne_of_lt (Nat.lt_of_lt_of_le (hl b hb) hC),fun x c e=>(hf b hb).2.2.2.2.1 x c (dC e).1⟩
 bs:=I.bs
 bsz:=eK I.ok.bsz I.sz
 noex:=fun b o e hb=>by
  rcases(hf b hb).2.2.2.1 with z | z
  ·exact I.ok.noex b o e z
  ·exact absurd (Nat.lt_of_lt_of_le (Heap.lt_size e) (eK I.ok.bsz z)) (Nat.lt_irrefl _)
 exfs:=fun b hb hm=>by
  rcases List.mem_cons.mp (I.stkSub b hm) with z | z
  ·exact(hf b hb).2.1 z
  ·exact(hf b hb).2.2.1 z
 funs:=I.stack
 frf:=I.stkFree
theorem CompScope.start {scope:Scope} {N:List Str} {js:List (Option Nat)} {C D:Addr} {fp:List Addr} {ob:Obj} {h₁:Heap} {m:Str->Option Value} {tk:Nat} (S:CompScope X scope N js) (I:Inv X pins σ H s) (hC:s.heap.objs.size<=C) (hD:s.heap.objs.size<=D) (hDC:D≠C)
  (hf:∀b∈fp,nS X pins H b) (hl:∀b∈fp,b<s.heap.objs.size) (k:∀b o,s.heap.get? b=some o->h₁.get? b=some o) (hns:h₁.Ns C m) (eD:h₁.get? D=some ob) (nc:∀v,ob.data≠.cell v) :
  Inv (mF X scope C N s H fp) [(D,ob)] (wG js σ) H {s with heap:=h₁,toks:=tk } where
 ok:=S.ok I hC hf hl
 os:=rfl
 bare:=I.bare
 base:=Un.kept k
 loc:=by
  refine⟨m,hns,fun i x v h1 h2 h3=>?_⟩
  have h1:N[i]?=some x:=h1
  unfold wG at h2;rw[dR]at h2;cases e:js[i]? with
  | none=>rw[e]at h2;cases h2
  | some o=>
   rw[e]at h2;cases o with
   | none=>cases h2
   | some j=>
    have h2':(σ[j]?).getD none=some v:=Option.some.inj h2
    have hσ:σ[j]?=some (some v):=by
     cases q:σ[j]? with
     | none=>rw[q]at h2';cases h2'
     | some z=>rw[q]at h2';exact congrArg some h2'
    obtain⟨y,e1,e2,e3⟩:=S.cap i j e
    rw[h1]at e1;cases e1
    have hfree:(x,.free)∈scope.names:=PySem.mem_of_lookup e3
    have ho:=S.out (x,.free) hfree rfl
    obtain⟨mX,_,hlX⟩:=I.loc
    have hvX:Sy X.env.scope x:=by
     rcases ho with z | z
     ·exact .inr (.inl z)
     ·exact .inr (.inr z)
    obtain⟨u,r,l⟩:=hlX j x v e2 hσ hvX
    refine⟨u,r,.inr ?_⟩
    rcases l with⟨hk,_⟩ | ⟨hk,c,hc,hcell⟩
    ·rcases ho with z | z
     ·have z':X.env.kindOf x=some .cell:=z
      rw[hk]at z';cases z'
     ·have z':X.env.kindOf x=some .free:=z
      rw[hk]at z';cases z'
    ·obtain⟨c',h1',h2''⟩:=yQ (env:=X.env) hfree fun y hy hk=>I.ok.has y.1 (S.out y hy hk)
     rw[hc]at h2'';cases h2''
     refine⟨lC e3,c,h1',?_⟩
     obtain⟨oc,q1,q2⟩:=hcell
     exact⟨oc,k c oc q1,q2⟩
 cell:=fun x c e=>by
  obtain⟨v,oc,q1,q2⟩:=I.cell x c (dC e).1
  exact⟨v,oc,k c oc q1,q2⟩
 free:=I.hok.fresh hC
 freeC:=fun x c e=>I.freeC x c (dC e).1
 pin:=fun p hp=>by
  have e:p=(D,ob):=by
   rcases Zma.mp hp with z | z
   ·exact absurd (show p∈([]:List (Addr × Obj)) from z) Zs
   ·simpa using z
  subst e;refine⟨eD,I.hok.fresh hD,hDC,fun hm=>?_,nc⟩
  rcases List.mem_cons.mp (I.stkSub D hm) with z | z
  ·have z:D=X.env.locals:=z
   have:=I.lt
   rw[<- z]at this;exact absurd (Nat.lt_of_lt_of_le this hD) (Nat.lt_irrefl _)
  ·exact I.nofs hD z
 hok:=I.hok.kept k
 len:=by
  unfold wG;rw[aQ];exact S.len
end
def Su (X:Cx) (cs:List Expr) (t:TT):Prop:=
 ∀(pins:List (Addr × Obj)) (s:Shared) (σ:St) (H:Hp) (Q:Bool->Hp->Prop) (E:Value->Shared->Prop),Inv X pins σ H s->t σ H Q →
  wpAny (model X.prog X.w) X.A (forIn cs true fun c r=>if r=true then do let ok ← isTrue c X.env (eval c X.env);pure (ForInStep.yield ok) else pure (ForInStep.yield r)) (TP X pins σ Q) E s
def Dz:TT:=fun _ H Q=>Q true H
theorem Kl {X:Cx}:Su X [] Dz:=fun pins s σ H Q E I h=>wpAny_tests_nil ⟨H,I,h⟩
theorem Km {X:Cx} {c:Expr} {t:TT} (h:PT X c t) (hx:X.xe=fun _ _=>False:=by rfl):Su X [c] t:=fun pins s σ H Q E I q=>
 wpAny_tests_one (wpAny_mono (h pins s σ H Q I q) (fun _ _ z=>z) fun e s' z=>by rw[hx]at z;exact z.elim)
def lD (js:List (Option Nat)) (g:TG) (tt:TT) (te:TE) (σ:St) (J:It) (H1:Hp) (Q:List V->Hp->Prop):Prop:=
 ∃W:Nat->Nat->List V->Hp->Prop,(∃m,W 0 m [] H1)/\∀i m ys H,W i m ys H →
  (J.stop i H/\Q ys H)∨
  (J.go i H/\ys.length<sizeLine/\∃N:List V->Hp->Prop,(∀ys' H',N ys' H'->∃m',m'<m/\W (i+1) m' ys' H') ∧
   ∀x H',J.yld i H x H'->g x (wG js σ) H' fun σ2 H2=>tt σ2 H2 fun b H3=>if b=true then te σ2 H3 fun y H4=>N (ys++[y]) H4 else N ys H3)
def Np (wi:TI) (js:List (Option Nat)) (g:TG) (tt:TT) (te:TE):TE:=fun σ H Q=>wi σ H fun J H1=>
 lD js g tt te σ J H1 fun ys H2=>∀p,H2 p=none->Q (.ref p) (aI H2 p (.lst ys))
def Nq (i:Nat) (wi:TI) (js:List (Option Nat)) (g:TG) (tt:TT) (te:TE):TS:=fun D σ H=>wi σ H fun J H1=>
 lD js g tt te σ J H1 fun ys H2=>∀p,H2 p=none->D.nx (σ.set i (some (.ref p))) (aI H2 p (.lst ys))
section
variable {X:Cx} {tg iter elt:Expr} {ifs:List Expr} {scope:Scope} {N:List Str} {js:List (Option Nat)} {wi:TI} {g:TG} {tt:TT} {te:TE} {pos:Pos}
theorem pA {pins:List (Addr × Obj)} {σ:St} {H2:Hp} {s2:Shared} {it:Addr} {fp:List Addr} {tn:Nat->Heap->Prop} {J:It} {Qf:List V->Hp->Prop} {RR:Value->Addr->Result->Shared->Prop} {E:Value->Shared->Prop} (hc:X.calm=true) (S:CompScope X scope N js) (go:xB js g)
  (hb:∀(C:Addr) (s₂:Shared) (H₂:Hp) (fp:List Addr),PG (mF X scope C N s₂ H₂ fp) tg g/\Su (mF X scope C N s₂ H₂ fp) ifs tt/\PE (mF X scope C N s₂ H₂ fp) elt te)
  (I2:Inv X pins σ H2 s2) (T:sK X.prog X.w X.K tg J fp it tn) (st2:tn 0 s2.heap) (f2:∀b∈fp,nS X pins H2 b) (hw:lD js g tt te σ J H2 Qf)
  (hRR:∀(C D:Addr) (ys:List V) (H3:Hp) (s3:Shared) (m:Str->Option Value),s2.heap.objs.size<=C->s2.heap.objs.size<=D->D≠C->Inv X pins σ (aI H3 D (.lst ys)) s3->H3 C=none->H3 D=none->s3.heap.Ns C m->Qf ys H3->RR (.ref D) C (.ok .next) s3) :
  wpAny (model X.prog X.w) X.A (newList []) (fun acc s₃=>wpAny (model X.prog X.w) X.A (newFunctionEnv scope X.env.globals (iX X.env scope.names []) [] X.env.qual none .none (some X.env)) (fun cenv s₄=>
   codeAny (model X.prog X.w) X.A (.compStart (.ListComp elt [⟨tg,iter,ifs,0⟩] scope pos) 0 (.ref it) acc {cenv with scope:=relabel scope X.env }) (RR acc cenv.locals) s₄) E s₃) E s2:=by
 obtain⟨W,⟨m0,w0⟩,turn⟩:=hw
 refine wpAny_newObj_type (wpAny_newFunctionEnv S.nocell (by intro y hy;simp at hy) (fun h₁ hns₁ hsb₁=>?_) S.kind)
 dsimp only at hns₁ hsb₁ ⊢
 generalize hH2:s2.heap.push {cls:=.type "list",dict:=none,data:=.seq ([]:List Value).toArray }=HP at hns₁ hsb₁ ⊢;have hC:HP.objs.size=s2.heap.objs.size+1:=by rw[<- hH2,Heap.size_push]
 have hDC:s2.heap.objs.size≠HP.objs.size:=by rw[hC];exact Nat.ne_of_lt (Nat.lt_succ_self _)
 have hCle:s2.heap.objs.size<=HP.objs.size:=by rw[hC];exact Nat.le_succ _
 have old:∀b o,s2.heap.get? b=some o->h₁.get? b=some o:=fun b o e=>hsb₁.extBut b o (by rw[hC];exact Nat.ne_of_lt (Nat.lt_succ_of_lt (Heap.lt_size e))) (dH _ (hH2 ▸ dH _ e))
 have hacc:h₁.get? s2.heap.objs.size=some {cls:=.type "list",data:=.seq ([]:List Value).toArray 0 }:=hsb₁.extBut _ _ hDC (dH _ (hH2 ▸ Heap.get?_push_size _ rfl))
 have hfl:∀b∈fp,b<s2.heap.objs.size:=fun b hb=>by
  obtain⟨o,e,_⟩:=T.obj _ _ st2 b hb
  exact Heap.lt_size e
 generalize hDn:s2.heap.objs.size=D at hDC hCle hacc ⊢;generalize hCn:HP.objs.size=C at hDC hCle hns₁ ⊢;have hCs:s2.heap.objs.size<=C:=by rw[hDn];exact hCle
 have hDs:s2.heap.objs.size<=D:=Nat.le_of_eq hDn
 obtain⟨pg,pt,pe⟩:=hb C s2 H2 fp
 have I0:=S.start (D:=D) (fp:=fp) (tk:=s2.toks+([]:List (Str × Value)).length) I2 hCs hDs hDC f2 hfl old hns₁ hacc (fun v z=>nomatch z)
 have fpY:∀ {H':Hp} {pl:List (Addr × Obj)},(∀b∈fp,H' b=none)->(∀p∈pl,p.1∉fp)->∀b∈fp,nS (mF X scope C N s2 H2 fp) pl H' b:=fun hn hp b hb=>
  ⟨hn b hb,Nat.ne_of_lt (Nat.lt_of_lt_of_le (hfl b hb) hCs),(S.ok I2 hCs f2 hfl).exfs b hb,.inl hb,fun x c e=>(f2 b hb).2.2.2.2.1 x c (dC e).1,fun p hm z=>by
   rcases Zma.mp hm with q | q
   ·exact absurd (show p∈([]:List (Addr × Obj)) from q) Zs
   ·exact hp p q (z ▸ hb)⟩
 have dfp:D∉fp:=fun z=>absurd (Nat.lt_of_lt_of_le (hfl D z) hDs) (Nat.lt_irrefl _)
 have one:∀ {ob:Obj},∀p∈[(D,ob)],p.1∉fp:=fun p hp=>by
  have e:=Zms.mp hp
  subst e;exact dfp
 have loop:∀s₃:Shared,s₃={s2 with heap:=h₁,toks:=s2.toks+([]:List (Str × Value)).length } →
   codeAny (model X.prog X.w) X.A (.compLoop (.ListComp elt [⟨tg,iter,ifs,0⟩] scope pos) 0 (.ref it) (.ref D) (compEnvC scope (iX X.env scope.names []) C X.env)) (RR (.ref D) C) s₃:=by
  rintro s₃ rfl
  refine codeAny_loop rfl (fun n s'=>∃(i:Nat) (ys:List V) (H':Hp) (its:List Value) (k:Nat),Inv (mF X scope C N s2 H2 fp) [(D,{cls:=.type "list",data:=.seq its.toArray k })] (wG js σ) H' s'/\Vals ys its/\ys.length<=sizeLine/\tn i s'.heap/\(∀b∈fp,H' b=none)/\W i n ys H') ?_ m0 ?_
  ·rintro n s3 ⟨i,ys,H3,its,k,I3,rv,hz,st3,fr3,w3⟩
   show wpAny _ X.A ((compTurn (.ListComp elt [⟨tg,iter,ifs,0⟩] scope pos) 0 (.ref it) (.ref D) (compEnvC scope (iX X.env scope.names []) C X.env)).onRaise (fun x=>do noteFrame x _;theTreesLotGoes x)) _ _ s3
   refine wpAny_noted (wpAny_noRaise ?_)
   rw[compTurn_list];rcases turn i n ys H3 w3 with⟨stop,qn⟩ | ⟨goes,hlt,Nx,hN,step⟩
   ·refine wpAny_bind (wpAny_standAt (wpAny_bind (bT (T.done (mF X scope C N s2 H2 fp) rfl rfl rfl hc i _ s3 (wG js σ) H3 (fun _ _=>False) I3 (fpY fr3 one) st3 stop) fun r s4 ⟨hr,I4⟩=>?_)))
    subst hr;refine wpAny_pure ?_
    have pD:=I4.pin (D,{cls:=.type "list",data:=.seq its.toArray k }) (by simp [mF])
    obtain⟨mC,hnC,_⟩:=id I4.loc
    have IX:Inv X pins σ (aI H3 D (.lst ys)) s4:=by
     refine I2.call' (ch:=fp) I4.os (Un.more I4.base (Heap.get?_none_of_le hDs) (I2.hok.fresh hDs)) (HOk.more I4.hok pD.2.1 ⟨hz,its,k,rv,pD.1⟩) I4.bare fun b hb=>?_
     obtain⟨_,f1,_,f3,f4,f5⟩:=f2 b hb
     exact⟨f3,f1,f4,f5⟩
    exact hRR C D ys H3 s4 mC hCs hDs hDC IX I4.free pD.2.1 hnC qn
   ·refine wpAny_bind (wpAny_standAt (wpAny_bind (bT (T.item (mF X scope C N s2 H2 fp) rfl rfl rfl hc i _ s3 (wG js σ) H3 (fun _ _=>False) I3 (fpY fr3 one) st3 goes) fun r s4 ⟨u,hr,h4⟩=>?_)))
    subst hr;refine wpAny_bind (bT h4 fun _ s5 ⟨x,H5,I5,r5,y5,st5,fr5⟩=>?_)
    have I5':=I5.pinned (fpY fr5 one) (T.obj _ _ st5)
    refine wpAny_bind (bT (pg _ s5 (wG js σ) H5 x u _ I5' r5 (go _ _ _ _ (step x H5 y5))) fun _ s6 ⟨σ6,H6,I6,⟨q6,l6,e6⟩⟩=>?_)
    have weak:∀ {pl:List (Addr × Obj)} {H7:Hp} {s7:Shared},Inv (mF X scope C N s2 H2 fp) pl σ6 H7 s7->Inv (mF X scope C N s2 H2 fp) pl (wG js σ) H7 s7:=fun {pl H7 s7} I7=>by
     refine I7.weak l6.symm fun j v hj=>?_
     cases e:js[j]? with
     | none=>unfold wG at hj;rw[dR,e]at hj;cases hj
     | some o=>
      cases o with
      | none=>unfold wG at hj;rw[dR,e]at hj;cases hj
      | some j'=>rw[e6 j j' e];exact hj
    have keepN:∀ {H7:Hp} {s7:Shared} {pl:List (Addr × Obj)},Inv (mF X scope C N s2 H2 fp) (pl++oM fp s5.heap) (wG js σ) H7 s7->tn (i+1) s7.heap/\∀b∈fp,H7 b=none:=fun {H7 s7 pl} I7=>by
     refine⟨T.keep _ _ _ st5 fun b hb o e=>(I7.pin (b,o) (List.mem_append_right _ (List.mem_append_right _ (gW hb e)))).1,fun b hb=>?_⟩
     obtain⟨o,e,d⟩:=T.obj _ _ st5 b hb
     exact(I7.pin (b,o) (List.mem_append_right _ (List.mem_append_right _ (gW hb e)))).2.1
    refine wpAny_bind (bT (pt _ s6 σ6 H6 _ _ I6 q6) fun ok s7 ⟨H7,I7,q7⟩=>?_)
    cases ok with
    | false=>
     rw[if_neg Bool.false_ne_true]at q7;refine wpAny_pure ⟨rfl,?_⟩
     obtain⟨m',hm,w7⟩:=hN ys H7 q7
     have I7':=weak I7
     obtain⟨k1,k2⟩:=keepN I7'
     exact⟨m',hm,i+1,ys,H7,its,k,I7'.unpinned,rv,hz,k1,k2,w7⟩
    | true=>
     rw[if_pos rfl]at q7;show wpAny _ _ ((eval elt _ >>= fun x=>call (.builtin "list.append") [.ref D,x] >>= fun _=>pure ()) >>= fun _=>again _) _ _ _
     refine wpAny_bind (wpAny_bind (bT (pe _ s7 σ6 H7 _ I7 q7) fun y s8 ⟨yv,H8,I8,r8,q8⟩=>?_))
     obtain⟨m',hm,w8⟩:=hN (ys++[yv]) H8 q8
     have I8':=weak I8
     obtain⟨k1,k2⟩:=keepN I8'
     have pD:=I8'.pin (D,{cls:=.type "list",data:=.seq its.toArray k }) (by simp [mF])
     have hln:=rv.length
     refine wpAny_bind (call_meets F.slot_list_append ⟨_,pD.1,rfl⟩ F.entry_list_append (F.args_list_append_2 _ _) (PySem.list_append D its.toArray k y (by rw[dG];omega)) ⟨pD.1,?_⟩)
     refine wpAny_pure (wpAny_pure ⟨rfl,m',hm,i+1,ys++[yv],H8,its++[y],?_⟩)
     have q:=PySem.IsL.update pD.1 (fun z=>z.push y)
     have eA:its.toArray.push y=(its++[y]).toArray:=by simp
     rw[eA]at q;have I9:Inv (mF X scope C N s2 H2 fp) [] (wG js σ) H8 s8:=I8'.pins_of fun p hp=>absurd hp Zs
     have hob:∀b o,b≠D->s8.heap.get? b=some o->(s8.heap.update D (Obj.mapSeq fun z=>z.push y)).get? b=some o:=fun b o hb hu=>(Heap.get?_update_other s8.heap _ (Ne.symm hb)).trans hu
     have I10:Inv (mF X scope C N s2 H2 fp) [] (wG js σ) H8 {s8 with heap:=s8.heap.update D (Obj.mapSeq fun z=>z.push y),toks:=s8.toks }:=I9.turned hob pD.2.1 pD.2.2.1 (.inr hDs)
      (fun x c e z=>by
       obtain⟨v,oc,q1,q2⟩:=I2.cell x c (dC e).1
       rw[z]at q1;exact absurd (Nat.lt_of_lt_of_le (Heap.lt_size q1) hDs) (Nat.lt_irrefl _))
      (fun p hp=>by
       rcases Zma.mp hp with q | q
       ·exact absurd (show p∈([]:List (Addr × Obj)) from q) Zs
       ·exact absurd q Zs)
     refine⟨(if ((its++[y]).toArray).size == its.toArray.size then k else k+1),I10.pins_of fun p hp=>?_,rv.append (.cons r8 .nil),?_,?_,k2,w8⟩
     ·have e:=Zms.mp hp
      subst e;exact⟨q,pD.2.1,pD.2.2.1,pD.2.2.2.1,fun v z=>nomatch z⟩
     ·rw[iK,List.length_singleton];omega
     ·exact T.keep _ _ _ k1 fun b hb o e=>hob b o (fun z=>dfp (z ▸ hb)) e
  ·exact⟨0,[],H2,[],0,I0,.nil,Nat.zero_le _,T.keep _ _ _ st2 fun b _ o e=>old b o e,fun b hb=>(f2 b hb).1,w0⟩
 exact codeAny_compStart_list (loop _ rfl) (T.self _ 0 _ _ _ (T.keep _ _ _ st2 fun b _ o e=>old b o e) (loop _ rfl))
theorem Kn (hc:X.calm=true) (S:CompScope X scope N js) (go:xB js g) (hi:PI X tg iter wi)
  (hb:∀(C:Addr) (s₂:Shared) (H₂:Hp) (fp:List Addr),PG (mF X scope C N s₂ H₂ fp) tg g/\Su (mF X scope C N s₂ H₂ fp) ifs tt/\PE (mF X scope C N s₂ H₂ fp) elt te)
  (hs:∀x,foldedSetIterable iter X.env x=pure x:=by intro _;rfl):PE X (.ListComp elt [⟨tg,iter,ifs,0⟩] scope pos) (Np wi js g tt te):=by
 intro pins s σ H Q I h;rw[eval_ListComp];refine wpAny_comprehension_free (use:=none) rfl hs (oX fun y hy hk=>I.ok.has y.1 (S.out y hy hk)) S.kind S.loc (bT (hi pins s σ H _ I h) fun v s1 h1=>bT h1 fun itv s2 h2=>?_)
 obtain⟨it,fp,tn,J,H2,e,I2,T,st2,f2,hw⟩:=h2
 subst e;refine pA (RR:=fun acc C=>compPost (model X.prog X.w) X.A X.xe none (EP X pins σ Q) acc C) hc S go hb I2 T st2 f2 hw ?_
 intro C D ys H3 s3 m hC hD hDC I3 fC fD hn q;refine⟨m,hn,fun h' hs'=>?_⟩
 refine⟨.ref D,aI H3 D (.lst ys),I3.turned (it:=C) (t':=s3.toks) (fun b o hb e=>(hs'.2 b hb).trans e) (by rw[aE (Ne.symm hDC)];exact fC) ?_ (.inr (eK I2.sz hC)) ?_ ?_,rfl,q D fD⟩
 ·exact Nat.ne_of_gt (Nat.lt_of_lt_of_le I2.lt hC)
 ·intro x c e z;obtain⟨v,oc,q1,q2⟩:=I2.cell x c e
  rw[z]at q1;exact absurd (Nat.lt_of_lt_of_le (Heap.lt_size q1) hC) (Nat.lt_irrefl _)
 ·intro p hp z;have:=Heap.lt_size (I2.pin p hp).1
  rw[z]at this;exact absurd (Nat.lt_of_lt_of_le this hC) (Nat.lt_irrefl _)
theorem Ko {i:Nat} {y:Str} {py spos:Pos} (hN:X.N.Nodup) (hy:X.N[i]?=some y) (hx:Nc X.env.scope y) (hc:X.calm=true) (S:CompScope X scope N js) (go:xB js g) (hi:PI X tg iter wi)
  (hb:∀(C:Addr) (s₂:Shared) (H₂:Hp) (fp:List Addr),PG (mF X scope C N s₂ H₂ fp) tg g/\Su (mF X scope C N s₂ H₂ fp) ifs tt/\PE (mF X scope C N s₂ H₂ fp) elt te)
  (hsw:swapsWith (.ListComp elt [⟨tg,iter,ifs,0⟩] scope pos) (some (.Name y py)) spos.line X.env=pure true)
  (hs:∀x,foldedSetIterable iter X.env x=pure x:=by intro _;rfl) (hf:X.fn y=true∨X.env.scope.names.lookup y=some .local:=by first | exact .inl rfl | exact .inr rfl | assumption) :
  PS X (.Assign [.Name y py] (.ListComp elt [⟨tg,iter,ifs,0⟩] scope pos) spos) (Nq i wi js g tt te):=by
 intro pins s σ H D I h;rw[exec_Assign_Name_used _ _ _ _ hsw];refine wpAny_bind (wpAny_standAt (wpAny_bind ?_))
 show wpAny _ X.A (do let _ ← comprehension (.ListComp elt [⟨tg,iter,ifs,0⟩] scope pos) scope X.env _ (newList []) false (eval iter X.env) (some (assign (.Name y py) X.env))) _ _ s
 refine wpAny_bind (bT (wpAny_comprehension_free (use:=some (assign (.Name y py) X.env)) (Q:=fun _ s'=>SP X pins D .next s') rfl hs (oX fun y hy hk=>I.ok.has y.1 (S.out y hy hk)) S.kind S.loc
  (bT (hi pins s σ H _ I h) fun v s1 h1=>bT h1 fun itv s2 h2=>?_)) fun _ s' hq=>wpAny_pure (wpAny_pure hq))
 obtain⟨it,fp,tn,J,H2,e,I2,T,st2,f2,hw⟩:=h2
 subst e;refine pA (RR:=fun acc C=>compPost (model X.prog X.w) X.A X.xe (some (assign (.Name y py) X.env)) (fun _ s'=>SP X pins D .next s') acc C) hc S go hb I2 T st2 f2 hw ?_
 intro C Da ys H3 s3 m hC hD hDC I3 fC fD hn q;have cne:∀x c,X.env.cells.lookup x=some c->c≠C:=fun x c e z=>by
  obtain⟨v,oc,q1,q2⟩:=I2.cell x c e
  rw[z]at q1;exact absurd (Nat.lt_of_lt_of_le (Heap.lt_size q1) hC) (Nat.lt_irrefl _)
 have lne:C≠X.env.locals:=Nat.ne_of_gt (Nat.lt_of_lt_of_le I2.lt hC)
 show wpAny _ X.A (assign (.Name y py) X.env (.ref Da)) _ _ _
 refine wpAny_assign_Name (qY (v:=.ref Da) I3 hN hy hx rfl (fun s4 I4 hs4=>?_) hf)
 obtain⟨a,hsb,ha⟩:=hs4
 have aC:C≠a:=by
  rcases ha with z | z
  ·rw[z];exact lne
  ·exact Ne.symm (cne y a z)
 refine⟨m,hn.sameBut hsb aC,fun h' hs'=>?_⟩
 refine⟨_,_,I4.turned (it:=C) (t':=s4.toks) (fun b o hb e=>(hs'.2 b hb).trans e) (by rw[aE (Ne.symm hDC)];exact fC) lne (.inr (eK I2.sz hC)) cne ?_,q Da fD⟩
 intro p hp z;have:=Heap.lt_size (I2.pin p hp).1
 rw[z]at this;exact absurd (Nat.lt_of_lt_of_le this hC) (Nat.lt_irrefl _)
end
end L2
namespace L2
open PySem PySem.Spec PyProof.Rows
abbrev tx (l:List Nat):Str:=⟨l.toArray⟩
theorem xC (x:Str):tx x.cps.toList=x:=by cases x;simp
theorem cI (l:List Nat):(tx l).length=l.length:=by simp [Str.length]
theorem tD (a b:List Nat):tx a++tx b=tx (a++b):=by
 show Str.append (tx a) (tx b)=_
 unfold Str.append;simp
def gL {α:Type} (xs:List α) (lo hi:Option Int):List α:=(xs.drop (HT.sIx xs.length 0 lo)).take (HT.sIx xs.length xs.length hi - HT.sIx xs.length 0 lo)
theorem yS (n d:Nat) (v:Option Int):(match v with | none=>(d:Int) | some i=>max 0 (min (if i<0 then i+(n:Int) else i) (n:Int)))=((HT.sIx n d v:Nat):Int):=by
 cases v with
 | none=>rfl
 | some i=>
  show max 0 (min (if i<0 then i+(n:Int) else i) (n:Int))=(((if i<0 then (i+(n:Int)).toNat else min i.toNat n):Nat):Int)
  by_cases h:i<0
  ·rw[if_pos h,if_pos h];omega
  ·rw[if_neg h,if_neg h];omega
theorem Ea (lo hi:Option Int) (n:Nat):Builtin.Str.strSliceIndices lo hi 1 n=(List.range (HT.sIx n n hi - HT.sIx n 0 lo)).map (HT.sIx n 0 lo+·):=by
 rw[<- sliceRange_one,<- yS n 0 lo,<- yS n n hi];unfold Builtin.Str.strSliceIndices;simp only [show(1:Int) > 0 by decide,if_true]
 cases lo <;> cases hi <;> rfl
theorem Kq (n d:Nat) (hd:d<=n) (v:Option Int):HT.sIx n d v<=n:=by
 cases v with
 | none=>exact hd
 | some i=>
  show(if i<0 then (i+(n:Int)).toNat else min i.toNat n)<=n
  split <;> omega
theorem Bb (x:Str) (lo hi:Option Int):(Txt.slice x lo hi).cps.toList=gL x.cps.toList lo hi:=by
 have hl:x.cps.toList.length=x.length:=by simp [Str.length]
 unfold Txt.slice gL;rw[hl,Ea];have key:=pick_run x.cps (HT.sIx x.length 0 lo) (HT.sIx x.length x.length hi - HT.sIx x.length 0 lo)
 split
 ·rename_i h
  have h2:(HT.sIx x.length x.length hi - HT.sIx x.length 0 lo)=x.length:=by simpa using h
  have h3:=Kq x.length x.length (aV _) hi
  have h4:HT.sIx x.length 0 lo=0∨x.length=0:=by omega
  rw[h2];rcases h4 with h4 | h4
  ·rw[h4,List.drop_zero,gH (by rw[hl];exact aV _)]
  ·have e:x.cps.toList=[]:=List.eq_nil_of_length_eq_zero (by rw[hl];exact h4)
   rw[e];simp
 ·simpa using key
theorem Eb (x:Str) (lo hi:Option Int):Txt.slice x lo hi=tx (gL x.cps.toList lo hi):=by
 rw[<- Bb,xC]
section
variable {X:Cx}
def Ww:V->Option Int->Option Int->Hp->VK->Prop:=fun x lo hi H Q=>∃z,x=.str z/\z.length<=sizeLine/\Q (.str (tx (gL z.cps.toList lo hi))) H
theorem xD {h:Heap} {sl:Addr} {vl vu:Value} {lo hi:Option Int} (hs:h.IsSliceOf sl vl vu .none) (pl:IsPart vl lo) (pu:IsPart vu hi):∃l u:Option (Int × Tok),h.IsSlice sl l u none/\l.map (·.1)=lo/\u.map (·.1)=hi:=by
 cases pl with
 | none=>
  cases pu with
  | none=>exact⟨none,none,hs,rfl,rfl⟩
  | int j t=>exact⟨none,some (j,t),hs,rfl,rfl⟩
 | int i t=>
  cases pu with
  | none=>exact⟨some (i,t),none,hs,rfl,rfl⟩
  | int j u=>exact⟨some (i,t),some (j,u),hs,rfl,rfl⟩
theorem Qj:SlR X Ww:=by
 intro pins s σ H x v vl vu lo hi sl Q I rx hs pl pu h;obtain⟨z,rfl,hz,q⟩:=h
 obtain⟨t,rfl⟩:=rx
 obtain⟨l,u,hS,e1,e2⟩:=xD hs pl pu
 refine⟨"str",_,F.slot_str_getitem.lookup,typeIs_str _ _ _,wpAny_getItem_str_slice hS rfl ?_⟩
 have fin:∀t' k,EP X pins σ Q (.str (Txt.slice z lo hi) t') {s with toks:=k }:=fun t' k=>⟨.str (tx (gL z.cps.toList lo hi)),H,I.tok _,⟨t',by rw[Eb]⟩,q⟩
 subst e1 e2;exact post_val_or_str ⟨eK (Txt.slice_le z _ _) hz,fun t' k=>fin t' k⟩
theorem kK {ns:List Str}:∀ {us:List Value},Vals (ns.map V.str) us->StrsAre us ns:=by
 induction ns with
 | nil=>intro us r;rw[List.map_nil]at r;cases r;exact .nil
 | cons n ns ih=>
  intro us r;rw[List.map_cons]at r;cases r with
  | cons r1 r2=>
   obtain⟨t,e⟩:=r1
   subst e;exact .cons n t (ih r2)
def Ec (K:W.Frag):V->List V->Hp->VK->Prop:=fun x vs H Q=>∃sep p ys,x=.str sep/\vs=[.ref p]/\SqL K H p (ys.map V.str)/\(ys.map (·.length)).sum+ys.length*sep.length<=16777216/\Q (.str (Txt.join sep ys)) H
theorem Kr:Tu X "str.join" (Ec X.K):=by
 intro pins s σ H x vs v us Q I rx rv h;obtain⟨sep,p,ys,rfl,rfl,hq,hz,q⟩:=h
 obtain⟨t,rfl⟩:=rx
 obtain⟨u,rfl,ru⟩:=rv.one
 cases ru
 obtain⟨its,r,pl,_⟩:=I.list hq
 exact join_list pl.isList (by simpa using kK r) hz fun t' k=>⟨.str _,H,I.tok _,⟨_,rfl⟩,q⟩
def Wx (K:W.Frag):List V->Hp->VK->Prop:=fun vs H Q=>∃x T t b,vs=[x,.ty T]/\kY K H x t/\W.kitOne K t (.type T)=some b/\Q (.bl b) H
theorem Ed:CallR X (.builtin "isinstance") (Wx X.K):=by
 intro pins s σ H xs us Q I r h;obtain⟨x,T,t,b,rfl,ty,e,q⟩:=h
 obtain⟨u,c,rfl,ru,rc⟩:∃u c,us=[u,c]/\RelV x u/\RelV (.ty T) c:=by
  cases r with
  | cons p q=>
   cases q with
   | cons p' q'=>
    cases q'
    exact⟨_,_,rfl,p,p'⟩
 cases (show c=Value.type T from rc)
 exact Ap I ru ty e fun tk=>⟨.bl b,H,I.tok _,rfl,q⟩
def Qk (K:W.Frag):List V->Hp->VK->Prop:=fun vs H Q=>∃(p:Addr) (ns:List Int),vs=[.ref p]/\SqL K H p (ns.map V.int)/\Q (.int (List.sum ns)) H
theorem Ee (hc:X.calm=true):CallR X (.builtin "sum") (Qk X.K):=by
 intro pins s σ H xs us Q I r h;obtain⟨p,ns,rfl,hq,q⟩:=h
 obtain⟨u,rfl,ru⟩:=gJ r
 cases ru
 obtain⟨its,rv,pl,hz⟩:=I.list hq
 have hi:=oQ rv
 obtain⟨xs,hx⟩:=hi.allInts.items
 have hl':s.heap.IsList p (intItems xs):=hx ▸ pl.isList
 refine sum_intListG (I.ok.hd hc) hl' fun h' tk t' hk=>?_
 have e1:ns=xs.toList.map (·.1):=by
  rw[<- nums_intItems,<- hx];exact(show numsOf its.toArray.toList=ns from hi.numsOf).symm
 have e2:preSum (numAt xs) xs.size=ns.sum:=by
  rw[preSum_eq,gH Zs,e1]
 rw[e2];exact⟨.int _,H,I.kept hk,⟨_,rfl⟩,q⟩
end
section
variable {X:Cx}
def mL (K:W.Frag) (neg:Bool):R2:=fun x y H Q=>∃(a b:Addr) (xs:List V),x=.ref a/\y=.ref b/\SqL K H a xs/\SqL K H b []/\Q (.bl (if neg then !xs.isEmpty else xs.isEmpty)) H
theorem jN {us:List Value} (r:Vals [] us):us=[]:=by cases r;rfl
theorem Ef (hu:X.A.units<cLine):OpR X (compareOp .Eq) (mL X.K false):=by
 intro pins s σ H x y v u Q I rx ry h;obtain⟨a,b,xs,rfl,rfl,h1,h2,q⟩:=h
 cases rx
 cases ry
 obtain⟨its,r1,p1,_⟩:=I.list h1
 obtain⟨its2,r2,p2,_⟩:=I.list h2
 have e2:=jN r2
 subst e2;have hl:=r1.length
 cases xs with
 | nil=>
  have e1:=jN r1
  subst e1;exact SeqAt.eq_listAt (e:=fun _=>true) p1.isList p2.isList rfl hu (fun j h=>absurd h Zs) ⟨.bl true,H,I,rfl,q⟩
 | cons z zs=>
  exact SeqAt.eq_list_lengthsAt p1.isList p2.isList (by simp only [dG,<- hl];simp) hu ⟨.bl false,H,I,rfl,q⟩
theorem Eg (hu:X.A.units<cLine):OpR X (compareOp .NotEq) (mL X.K true):=by
 intro pins s σ H x y v u Q I rx ry h;obtain⟨a,b,xs,rfl,rfl,h1,h2,q⟩:=h
 cases rx
 cases ry
 obtain⟨its,r1,p1,_⟩:=I.list h1
 obtain⟨its2,r2,p2,_⟩:=I.list h2
 have e2:=jN r2
 subst e2;have hl:=r1.length
 cases xs with
 | nil=>
  have e1:=jN r1
  subst e1;exact SeqAt.RcNeAt.lists (e:=fun _=>true) p1.isList p2.isList rfl hu (fun j h=>absurd h Zs) _ _ _ _ ⟨.bl false,H,I,rfl,q⟩
 | cons z zs=>
  exact SeqAt.RcNeAt.lists_lengths p1.isList p2.isList (by simp only [dG,<- hl];simp) hu _ _ _ _ ⟨.bl true,H,I,rfl,q⟩
end
end L2
namespace L2
open PySem PySem.Spec PyProof.Rows
def mB (x:V) (k:Bool->Prop):Prop:=match x with | .bl b=>k b | _=>False
def mI (x:V) (k:Int->Prop):Prop:=match x with | .int b=>k b | _=>False
def mS (x:V) (k:Str->Prop):Prop:=match x with | .str b=>k b | _=>False
def mR (x:V) (k:Addr->Prop):Prop:=match x with | .ref b=>k b | _=>False
theorem uQ (x:V) (k:Bool->Prop):mB x k=∃b,x=.bl b/\k b:=by
 cases x <;> simp [mB]
theorem lE (x:V) (k:Int->Prop):mI x k=∃b,x=.int b/\k b:=by
 cases x <;> simp [mI]
theorem yT (x:V) (k:Str->Prop):mS x k=∃b,x=.str b/\k b:=by
 cases x <;> simp [mS]
theorem dD (x:V) (k:Addr->Prop):mR x k=∃b,x=.ref b/\k b:=by
 cases x <;> simp [mR]
theorem dE {n:Nat} (h:Nat.ble n 1000=true):n<=sizeLine:=eK (Nat.le_of_ble_eq_true h) Zd
theorem dJ {n:Nat} (h:n<=1000):n<=sizeLine:=eK h Zd
section
variable {X:Cx} {a b c e:Expr} {ta tb tc te:TE} {pos:Pos}
def vr (i:Nat):TE:=fun σ H Q=>match σ[i]? with | some (some v)=>Q v H | _=>False
theorem Ua (i:Nat):vr i=Oo i:=by
 funext σ H Q
 unfold vr Oo;apply propext
 cases σ[i]? with
 | none=>simp
 | some o=>cases o <;> simp
theorem xv (i:Nat) {x:Str} {pos:Pos} (hN:X.N[i]?=some x:=by rfl) (hv:Sy X.env.scope x:=by first | exact Or.inl rfl | exact Or.inr (Or.inl rfl) | exact Or.inr (Or.inr rfl)) (hd:(x == ("__debug__":Str))=false:=by decide)
  (hcd:(x == ("__classdict__":Str))=false:=by decide):PE X (.Name x pos) (vr i):=by
 rw[Ua];exact Op hN hv hd hcd
theorem OpR.imp {f:Value->Value->Sem Value} {r r':R2} (h:OpR X f r) (hi:∀x y H Q,r' x y H Q->r x y H Q):OpR X f r':=fun pins s σ H x y v u Q I rx ry q=>h pins s σ H x y v u Q I rx ry (hi x y H Q q)
theorem UnR.imp {f:Value->Sem Value} {r r':V->Hp->VK->Prop} (h:UnR X f r) (hi:∀x H Q,r' x H Q->r x H Q):UnR X f r':=fun pins s σ H x v Q I rx q=>h pins s σ H x v Q I rx (hi x H Q q)
theorem CallR.imp {f:Value} {r r':List V->Hp->VK->Prop} (h:CallR X f r) (hi:∀xs H Q,r' xs H Q->r xs H Q):CallR X f r':=fun pins s σ H xs us Q I rs q=>h pins s σ H xs us Q I rs (hi xs H Q q)
theorem IxR.imp {r r':R2} (h:IxR X r) (hi:∀x y H Q,r' x y H Q->r x y H Q):IxR X r':=fun value slice pins s σ H x y v u Q I rx ry q=>h value slice pins s σ H x y v u Q I rx ry (hi x y H Q q)
theorem SlR.imp {r r':V->Option Int->Option Int->Hp->VK->Prop} (h:SlR X r) (hi:∀x l u H Q,r' x l u H Q->r x l u H Q):SlR X r':=fun pins s σ H x v vl vu lo hi' sl Q I rx hs pl pu q=>h pins s σ H x v vl vu lo hi' sl Q I rx hs pl pu (hi x lo hi' H Q q)
def m2 (C:Int->Int->Prop) (g:Int->Int->V):R2:=fun x y H Q=>mI x fun i=>mI y fun j=>C i j/\Q (g i j) H
def wH (g:Int->Int->V):R2:=fun x y H Q=>mI x fun i=>mI y fun j=>Q (g i j) H
theorem jO {g:Int->Int->V} (x y:V) (H:Hp) (Q:VK) (h:wH g x y H Q):Jo g x y H Q:=by
 unfold wH at h;rw[lE]at h;obtain⟨i,rfl,h⟩:=h
 rw[lE]at h;obtain⟨j,rfl,h⟩:=h
 exact⟨i,j,rfl,rfl,h⟩
theorem tE {C:Int->Int->Prop} {g:Int->Int->V} (x y:V) (H:Hp) (Q:VK) (h:m2 C g x y H Q):rI C g x y H Q:=by
 unfold m2 at h;rw[lE]at h;obtain⟨i,rfl,h⟩:=h
 rw[lE]at h;obtain⟨j,rfl,hc,h⟩:=h
 exact⟨i,j,rfl,rfl,hc,h⟩
theorem Ub:OpR X (binaryOp .Add) (wH fun i j=>.int (i+j)):=Pm.imp jO
theorem Uc:OpR X (binaryOp .Sub) (wH fun i j=>.int (i - j)):=Pn.imp jO
theorem Ud:OpR X (binaryOp .Mult) (m2 CMul fun i j=>.int (i*j)):=Po.imp tE
theorem Ue:OpR X (binaryOp .Mod) (m2 (fun _ j=>0<j) fun i j=>.int (i % j)):=Pp.imp tE
theorem Uf:OpR X (binaryOp .Pow) (m2 Pl fun i j=>.int (i ^ j.toNat)):=Pq.imp tE
theorem Wy:OpR X (compareOp .Lt) (wH fun i j=>.bl (decide (i<j))):=Tl.imp jO
theorem Wz:OpR X (compareOp .LtE) (wH fun i j=>.bl (decide (i<=j))):=Tm.imp jO
theorem Xa:OpR X (compareOp .Gt) (wH fun i j=>.bl (decide (j<i))):=To.imp jO
theorem Xb:OpR X (compareOp .GtE) (wH fun i j=>.bl (decide (j<=i))):=Tp.imp jO
def Eh:R2:=fun x y H Q=>mS x fun i=>mS y fun j=>i.length+j.length<=sizeLine/\Q (.str (i++j)) H
theorem Ql:OpR X (binaryOp .Add) Eh:=wN.imp fun x y H Q h=>by
 unfold Eh at h;rw[yT]at h;obtain⟨i,rfl,h⟩:=h
 rw[yT]at h;obtain⟨j,rfl,hc,h⟩:=h
 exact⟨i,j,rfl,rfl,hc,h⟩
def Ug:R2:=fun x y H Q=>match x,y with
 | .int i,.int j=>Q (.bl (decide (i=j))) H
 | .str i,.str j=>Q (.bl (decide (i=j))) H
 | .bl i,.bl j=>Q (.bl (decide (i=j))) H
 | .non,.non=>Q (.bl true) H
 | .int _,.non=>Q (.bl false) H | .non,.int _=>Q (.bl false) H
 | .str _,.non=>Q (.bl false) H | .non,.str _=>Q (.bl false) H
 | .bl _,.non=>Q (.bl false) H | .non,.bl _=>Q (.bl false) H
 | .int _,.str _=>Q (.bl false) H | .str _,.int _=>Q (.bl false) H
 | .bl _,.str _=>Q (.bl false) H | .str _,.bl _=>Q (.bl false) H
 | _,_=>False
def Xc:R2:=fun x y H Q=>match x,y with
 | .int i,.int j=>Q (.bl (!decide (i=j))) H
 | .str i,.str j=>Q (.bl (!decide (i=j))) H
 | .bl i,.bl j=>Q (.bl (!decide (i=j))) H
 | .non,.non=>Q (.bl false) H
 | .int _,.non=>Q (.bl true) H | .non,.int _=>Q (.bl true) H
 | .str _,.non=>Q (.bl true) H | .non,.str _=>Q (.bl true) H
 | .bl _,.non=>Q (.bl true) H | .non,.bl _=>Q (.bl true) H
 | .int _,.str _=>Q (.bl true) H | .str _,.int _=>Q (.bl true) H
 | .bl _,.str _=>Q (.bl true) H | .str _,.bl _=>Q (.bl true) H
 | _,_=>False
theorem Xd:OpR X (compareOp .Eq) Ug:=Ng.imp fun x y H Q h=>by
 unfold Ug at h;unfold Xu;split at h <;> first | exact h.elim | (refine⟨rfl,?_⟩;first | simpa using h | exact h)
theorem Xe:OpR X (compareOp .NotEq) Xc:=Nh.imp fun x y H Q h=>by
 unfold Xc at h;unfold Xv;split at h <;> first | exact h.elim | (refine⟨rfl,?_⟩;first | simpa using h | exact h)
theorem Uh:OpR X (compareOp .Is) (fun x y H Q=>match y with | .non=>Q (.bl (decide (x=.non))) H | _=>False):=Ps.imp fun x y H Q h=>by
 cases y <;> first | exact⟨rfl,h⟩ | exact h.elim
theorem Qm:OpR X (compareOp .IsNot) (fun x y H Q=>match y with | .non=>Q (.bl (!decide (x=.non))) H | _=>False):=Jq.imp fun x y H Q h=>by
 cases y <;> first | exact⟨rfl,h⟩ | exact h.elim
def mT (t:TE):TT:=fun σ H Q=>t σ H fun x H'=>mB x fun k=>Q k H'
theorem Nr (t:TE):mT t=yG t:=by
 funext σ H Q
 unfold mT yG;congr 1
 funext x H'
 exact uQ x _
theorem Qn (t:TE):mT t=tB t:=by
 funext σ H Q
 unfold mT tB;congr 1
 funext x H'
 exact uQ x _
theorem Ui {op:CmpOp} {r:R2} (ho:OpR X (compareOp op) r) (ha:PE X a ta) (hb:PE X b tb) (hm:behindInMarks op b=false:=by first | exact sM _ | rfl):PT X (.Compare a [op] [b] pos) (mT (qI r ta tb)):=by
 rw[Nr];exact Js ho ha hb hm
theorem Uj {op:CmpOp} {r:R2} (ho:OpR X (compareOp op) r) (ha:PE X a ta) (hb:PE X b tb) (hm:behindInMarks op b=false:=by first | exact sM _ | rfl):PE X (.Compare a [op] [b] pos) (qI r ta tb):=Jr ho ha hb hm
def tF (r r':R2) (ta tb tc:TE):TE:=fun σ H Q=>ta σ H fun x H1=>tb σ H1 fun y H2=>r x y H2 fun z H3=>mB z fun k=>(if k=true then tc σ H3 fun w' H4=>r' y w' H4 Q else Q (.bl false) H3)
theorem Bc (r r':R2) (ta tb tc:TE):tF r r' ta tb tc=wM r r' ta tb tc:=by
 funext σ H Q
 unfold tF wM;congr 1
 funext x H1
 congr 1
 funext y H2
 congr 1
 funext z H3
 exact uQ z _
theorem Ks {op op':CmpOp} {r r':R2} (ho:OpR X (compareOp op) r) (ho':OpR X (compareOp op') r') (ha:PE X a ta) (hb:PE X b tb) (hc:PE X c tc)
  (hm:lastMarks [op,op'] [b,c]=false:=by with_unfolding_all rfl):PT X (.Compare a [op,op'] [b,c] pos) (mT (tF r r' ta tb tc)):=by
 rw[Nr,Bc];exact Cp ho ho' ha hb hc hm
theorem Uk {t:TE} (h:PE X e t) (he:∀whole,isTrue e X.env whole=(do let v ← whole;standAt e.pos;holding [v] (truthy v)):=by intro _;rfl):PT X e (mT t):=by
 rw[Qn];exact Ou h he
def yU (ta tb:TE):TE:=fun σ H Q=>ta σ H fun x H1=>mB x fun c=>if c=true then tb σ H1 Q else Q (.bl false) H1
def yV (ta:TE):TE:=fun σ H Q=>ta σ H fun x H1=>mB x fun c=>Q (.bl (!c)) H1
theorem Ul {rest:List Expr} (ha:PE X a ta) (hb:PE X (.BoolOp .And (b::rest) pos) tb):PE X (.BoolOp .And (a::b::rest) pos) (yU ta tb):=by
 have:yU ta tb=Cg ta tb:=by
  funext σ H Q;unfold yU Cg;congr 1;funext x H1;exact uQ x _
 rw[this];exact Oz ha hb
theorem Um (ha:PE X a ta):PE X (.UnaryOp .Not a pos) (yV ta):=by
 have:yV ta=Ch ta:=by
  funext σ H Q;unfold yV Ch;congr 1;funext x H1;exact uQ x _
 rw[this];exact Pa ha
theorem Uo (ha:PE X a ta):PE X (.UnaryOp .USub a pos) (Wn (fun x H Q=>mI x fun i=>Q (.int (-i)) H) ta):=Tj (Pr.imp fun x H Q h=>by
 rw[lE]at h;obtain⟨i,rfl,h⟩:=h
 exact⟨i,rfl,h⟩) ha
def Kt (K:W.Frag):R2:=fun x y H Q=>mR x fun p=>mI y fun i=>∃xs,SqL K H p xs/\∃v,nT xs i=some v/\Q v H
def qL (K:W.Frag):R2:=fun x y H Q=>mR x fun p=>mI y fun i=>∃xs,SqT K H p xs/\∃v,nT xs i=some v/\Q v H
def Qo:R2:=fun x y H Q=>mS x fun z=>mI y fun i=>z.length<=sizeLine/\∃c,nT z.cps.toList i=some c/\Q (.str (tx [c])) H
theorem Qp:IxR X (Kt X.K):=Kb.imp fun x y H Q h=>by
 unfold Kt at h;rw[dD]at h;obtain⟨p,rfl,h⟩:=h
 rw[lE]at h;obtain⟨i,rfl,xs,hq,v,hv,h⟩:=h
 exact⟨p,xs,i,v,rfl,rfl,hq,hv,h⟩
theorem Uq:IxR X (qL X.K):=Qa.imp fun x y H Q h=>by
 unfold qL at h;rw[dD]at h;obtain⟨p,rfl,h⟩:=h
 rw[lE]at h;obtain⟨i,rfl,xs,hq,v,hv,h⟩:=h
 exact⟨p,xs,i,v,rfl,rfl,hq,hv,h⟩
theorem Ur:IxR X Qo:=Qb.imp fun x y H Q h=>by
 unfold Qo at h;rw[yT]at h;obtain⟨z,rfl,h⟩:=h
 rw[lE]at h;obtain⟨i,rfl,hz,c,hc,h⟩:=h
 exact⟨z,i,c,rfl,rfl,hz,hc,h⟩
theorem Xf {r:R2} (hr:IxR X r) (ha:PE X a ta) (hb:PE X b tb) (hs:sP b:=by exact fun _ _=>rfl):PE X (.Subscript a b pos) (qI r ta tb):=Tv hr ha hb hs
def yW (t:TE):TO:=fun σ H Q=>t σ H fun x H1=>mI x fun i=>Q (some i) H1
theorem Qq (h:PE X e te):PO X (some e) (yW te):=by
 have:yW te=Cu te:=by
  funext σ H Q;unfold yW Cu;congr 1;funext x H1;exact lE x _
 rw[this];exact Jz h
def Qr:V->Option Int->Option Int->Hp->VK->Prop:=fun x lo hi H Q=>mS x fun z=>z.length<=sizeLine/\Q (.str (tx (gL z.cps.toList lo hi))) H
theorem Us:SlR X Qr:=Qj.imp fun x l u H Q h=>by
 unfold Qr at h;rw[yT]at h;obtain⟨z,rfl,hz,h⟩:=h
 exact⟨z,rfl,hz,h⟩
def Ku (K:W.Frag):V->Option Int->Option Int->Hp->VK->Prop:=fun x lo hi H Q=>mR x fun a=>∃xs,SqL K H a xs/\∀p,H p=none->Q (.ref p) (aI H p (.lst (gL xs lo hi)))
theorem Qs:SlR X (Ku X.K):=Kc.imp fun x l u H Q h=>by
 unfold Ku at h;rw[dD]at h;obtain⟨a,rfl,xs,hq,h⟩:=h
 exact⟨a,xs,rfl,hq,h⟩
theorem Qt:CallR X (.builtin "len") (fun vs H Q=>match vs with | [.str z]=>z.length<=sizeLine/\Q (.int z.length) H | _=>False):=sV.imp fun vs H Q h=>by
 split at h
 ·rename_i z
  exact⟨z,rfl,h.1,h.2⟩
 ·exact h.elim
theorem Qu:CallR X (.builtin "len") (fun vs H Q=>match vs with | [.ref p]=>∃ys,(SqL X.K H p ys∨SqT X.K H p ys)/\Q (.int ys.length) H | _=>False):=sU.imp fun vs H Q h=>by
 split at h
 ·rename_i p
  obtain⟨ys,hq,h⟩:=h
  exact⟨p,ys,rfl,hq,h⟩
 ·exact h.elim
theorem Ut:CallR X (.type "int") (fun vs H Q=>match vs with | [.bl k]=>Q (.int (if k then 1 else 0)) H | _=>False):=Al.imp fun vs H Q h=>by
 split at h
 ·rename_i k
  exact .inr ⟨k,rfl,h⟩
 ·exact h.elim
end
inductive Kd where | non | bl | int | str | lst | tup | dct
def Kv:Kd->String | .non=>"NoneType" | .bl=>"bool" | .int=>"int" | .str=>"str" | .lst=>"list" | .tup=>"tuple" | .dct=>"dict"
def Vz (H:Hp):V->Kd->Prop
 | .non,.non=>True | .bl _,.bl=>True | .int _,.int=>True | .str _,.str=>True
 | .ref a,.lst=>(∃xs,H a=some (.lst xs))∨∃o xs,H a=some (.frz o (.lst xs))
 | .ref a,.tup=>∃xs,H a=some (.tup xs)
 | .ref a,.dct=>∃kvs,H a=some (.dK kvs)
 | _,_=>False
def Wa:Kd->Kd->Bool | .non,.non=>true | .bl,.bl=>true | .int,.int=>true | .int,.bl=>true | .str,.str=>true | .lst,.lst=>true | .tup,.tup=>true | .dct,.dct=>true | _,_=>false
theorem Uu (K:W.Frag) (want k:Kd):W.kitOne K (.type (Kv k)) (.type (Kv want))=some (Wa want k):=by
 cases want <;> cases k <;> first | rfl | kernel_rfl
theorem Xg {K:W.Frag} {H:Hp} {x:V} {k:Kd} (h:Vz H x k):kY K H x (.type (Kv k)):=by
  cases x <;> cases k <;> first
    | exact h.elim
    | exact .non
    | exact .bl _
    | exact .int _
    | exact .str _
    | (obtain⟨xs,e⟩:=h;exact .tup e)
    | (obtain⟨xs,e⟩:=h;exact .dK e)
    | (rcases h with⟨xs,e⟩ | ⟨o,xs,e⟩
       . exact .lst e
       . exact .frz e)
def Qv (want:Kd):List V->Hp->VK->Prop:=fun vs H Q=>match vs with
 | [x,y]=>y=.ty (Kv want)/\∃k,Vz H x k/\Q (.bl (Wa want k)) H
 | _=>False
section
variable {X:Cx}
theorem Uv (want:Kd):CallR X (.builtin "isinstance") (Qv want):=Ed.imp fun vs H Q h=>by
 unfold Qv at h;split at h
 ·rename_i x y
  obtain⟨rfl,k,hk,h⟩:=h
  exact⟨x,_,_,_,rfl,Xg hk,Uu X.K want k,h⟩
 ·exact h.elim
variable {e:Expr} {te:TE} {p p2 pos:Pos} {T:Str}
def Qw (want:Kd) (te:TE):TE:=fun σ H Q=>te σ H fun x H1=>∃k,Vz H1 x k/\Q (.bl (Wa want k)) H1
theorem Uw (want:Kd) (he:PE X e te) (hg:Gl X "isinstance") (hm:X.mg "isinstance"=none) (hgT:Gl X T) (hmT:X.mg T=none) (hT:bootBuiltins T=some (.type (Kv want)))
  (hs:starEach [e,.Name T p2] X.env=(false,eval e X.env)::starEach [.Name T p2] X.env:=by rfl) (hs2:starEach [.Name T p2] X.env=(false,eval (.Name T p2) X.env)::starEach [] X.env:=by rfl)
  (hn:T≠"__name__":=by decide) (hd:(T == ("__debug__":Str))=false:=by decide) (hpl:(backTo pos (starEach [.Name T p2] X.env)).any (·.1)=false:=by rfl) :
  PE X (.Call (.Name "isinstance" p) [e,.Name T p2] [] pos) (Qw want te):=by
 have h:=uK (X:=X) (x:="isinstance") (p:=p) (pos:=pos) (Uv want) hg hm PyProof.Rows.boot_isinstance (sN he (sN (Je (v:=.ty (Kv want)) (pos:=p2) hgT hmT hT rfl hn hd) wU hs2) hs) Zd Zd hs hpl
 intro pins s σ H Q I q;exact h pins s σ H Q I (by
  show te σ H _
  have:(fun(x:V) (H1:Hp)=>Qv want [x,.ty (Kv want)] H1 Q)=(fun x H1=>∃k,Vz H1 x k/\Q (.bl (Wa want k)) H1):=by
   funext x H1
   apply propext
   constructor
   ·rintro⟨_,z⟩;exact z
   ·intro z;exact⟨rfl,z⟩
  exact this ▸ q)
end
structure aG (P:Program) (w:World) (K:W.Frag) (mg:Str->Option Value) (base:Heap) (n:Nat) (x:Str) (ps:List Str) (sp:Sp):Prop where
 ex:∃(f:Addr) (fd:FuncData),kA P w K mg base rH n f fd ps sp/\mg x=some (.ref f)/\W.keepIn K (.ref f)=true/\Binds K fd ps []
section
variable {X:Cx} {n:Nat} {x:Str} {ps:List Str} {sp:Sp} {p pos:Pos} {e:Expr} {es:List Expr} {t:TA}
def Xh (sp:Sp) (t:TA):TE:=fun σ H Q=>t σ H fun vs H1=>sp vs H1 Q E0
theorem Xi (c:aG X.prog X.w X.K X.mg X.base n x ps sp) (hr:Room n X.A) (hg:Gl X x) (ha:PA X (e::es) t) (hdb:(x == ("__debug__":Str))=false:=by decide)
  (he:starEach (e::es) X.env=(false,eval e X.env)::starEach es X.env:=by rfl) (hpl:(backTo pos (starEach es X.env)).any (·.1)=false:=by rfl):PE X (.Call (.Name x p) (e::es) [] pos) (Xh sp t):=by
 obtain⟨f,fd,F,hm,hk,hb⟩:=c.ex
 have h:=Jw (X:=X) (p:=p) (pos:=pos) (E:=E0) F hr hg hm hk hb (dvs:=[]) .nil yN ha hdb he hpl
 intro pins s σ H Q I q;exact h pins s σ H Q I (by
  show t σ H _
  have:(fun(vs:List V) (H1:Hp)=>sp (vs++[]) H1 Q E0)=(fun vs H1=>sp vs H1 Q E0):=by
   funext vs H1;rw[List.append_nil]
  rw[this];exact q)
end
structure DefAt (K:W.Frag) (mg:Str->Option Value) (x:Str) (st:Stmt) (ps:List Str):Prop where
 ex:∃(f:Addr) (fd:FuncData),Fun K x x st f fd/\mg x=some (.ref f)/\Binds K fd ps []
theorem DefAt.ok {P:Program} {w:World} {K:W.Frag} {mg:Str->Option Value} {base:Heap} {x:Str} {st:Stmt} {N ps:List Str} {k:Nat} {sp:Sp} (D:DefAt K mg x st ps) (S:aN N ps (aB st)) (len:∀vs H Q E,sp vs H Q E->vs.length=ps.length)
  (hbody:∀(f:Addr) (cdv:Value) (A:Around) (outer:List Env) (s:Shared) (H:Hp) (vs:List V) (Q:VK) (E:XK),Room k (A.deeper (envOfC x (aB st) s.heap.objs.size f cdv))->sp vs H Q E →
   ∃t,PSs (kZ rH P w K mg base N x (aB st) f cdv A outer s H E).nox (bD st) t/\t {nx:=fun _ H'=>Q .non H',rt:=Q } (start N vs) H):aG P w K mg base (k+1) x ps sp:=by
 obtain⟨f,fd,F,hm,hb⟩:=D.ex
 exact⟨f,fd,F.ok S len (hbody f),hm,F.kp,hb⟩
def Ei (sc0:Scope) (N0:List Str) (scope:Scope) (N:List Str) (js:List (Option Nat)):Bool:=
 (scope.kind == .function)&&scope.names.all (fun y=>y.2 != .cell)&&scope.names.all (fun y=>y.2 != .local||scope.names.lookup y.1 == some .local)&&(js.length == N.length)&&
 (List.range js.length).all (fun i=>match js[i]? with | some (some j)=>(match N[i]? with | some x=>N0[j]? == some x&&scope.names.lookup x == some .free | none=>false) | _=>true)&&
 scope.names.all (fun y=>y.2 != .free||sc0.names.lookup y.1 == some .cell||sc0.names.lookup y.1 == some .free)
theorem CompScope.by {X:Cx} {scope:Scope} {N:List Str} {js:List (Option Nat)} (sc0:Scope) (N0:List Str) (h0:X.env.scope=sc0) (hN:X.N=N0) (ok:Ei sc0 N0 scope N js=true):CompScope X scope N js:=by
 unfold Ei at ok;simp only [Bool.and_eq_true]at ok
 obtain⟨⟨⟨⟨⟨h1,h2⟩,h3⟩,h4⟩,h5⟩,h6⟩:=ok
 refine⟨by simpa using h1,fun y hy=>?_,fun y hy hk=>?_,by simpa using h4,fun i j e=>?_,fun y hy hk=>?_⟩
 ·have:=List.all_eq_true.mp h2 y hy
  simpa using this
 ·have:=List.all_eq_true.mp h3 y hy
  rw[hk]at this;simpa using this
 ·have hi:i<js.length:=(Zgs.mp e).1
  have:=List.all_eq_true.mp h5 i (List.mem_range.mpr hi)
  rw[e]at this;cases q:N[i]? with
  | none=>simp [q]at this
  | some x=>
   simp only [q,Bool.and_eq_true,beq_iff_eq]at this
   exact⟨x,rfl,by rw[hN];exact this.1,this.2⟩
 ·have:=List.all_eq_true.mp h6 y hy
  rw[hk]at this;have z:(sc0.names.lookup y.1 == some .cell)=true∨(sc0.names.lookup y.1 == some .free)=true:=by simpa using this
  have ek:X.env.kindOf y.1=sc0.names.lookup y.1:=by rw[<- h0];rfl
  rw[ek];rcases z with z | z
  ·exact .inl (by simpa using z)
  ·exact .inr (by simpa using z)
end L2
namespace L2
open PySem PySem.Spec PyProof.Rows
def aT:Expr->Bool | .Starred _ _=>false | _=>true
theorem bL {e:Expr} {es:List Expr} {env:Env} (h:aT e=true):starEach (e::es) env=(false,eval e env)::starEach es env:=by
 cases e <;> first | rfl | cases h
theorem fO {es:List Expr} {env:Env} {pos:Pos} (h:es.all aT=true):(backTo pos (starEach es env)).any (·.1)=false:=by
 induction es with
 | nil=>rfl
 | cons e es ih=>
  rw[List.all_cons,Bool.and_eq_true]at h;rw[bL h.1];have:=ih h.2
  show(false||(backTo pos (starEach es env)).any (·.1))=false
  rw[this];rfl
section
variable {X:Cx} {e o:Expr} {es:List Expr} {te to:TE} {t:TA} {x:Str} {p pos apos cpos:Pos} {id T:String} {r:List V->Hp->VK->Prop}
theorem xE (ha:PE X e te) (hr:PA X es t) (h:aT e=true:=by rfl):PA X (e::es) (kE te t):=sN ha hr (bL h)
theorem Kw (hc:CallR X (.builtin id) r) (hg:Gl X x) (hm:X.mg x=none) (hv:bootBuiltins x=some (.builtin id)) (ha:PA X (e::es) t) (hn:x≠"__name__":=by decide) (hdb:(x == ("__debug__":Str))=false:=by decide)
  (h1:aT e=true:=by rfl) (h2:es.all aT=true:=by rfl):PE X (.Call (.Name x p) (e::es) [] pos) (Sr r t):=uK hc hg hm hv ha hn hdb (bL h1) (fO h2)
theorem Ej (hc:CallR X (.type T) r) (hg:Gl X x) (hm:X.mg x=none) (hv:bootBuiltins x=some (.type T)) (ha:PA X (e::es) t) (hn:x≠"__name__":=by decide) (hdb:(x == ("__debug__":Str))=false:=by decide)
  (h1:aT e=true:=by rfl) (h2:es.all aT=true:=by rfl):PE X (.Call (.Name x p) (e::es) [] pos) (Sr r t):=Ar hc hg hm hv ha hn hdb (bL h1) (fO h2)
theorem Ux {n:Nat} {ps:List Str} {sp:Sp} (c:aG X.prog X.w X.K X.mg X.base n x ps sp) (hr:Room n X.A) (hg:Gl X x) (ha:PA X (e::es) t) (hdb:(x == ("__debug__":Str))=false:=by decide)
  (h1:aT e=true:=by rfl) (h2:es.all aT=true:=by rfl):PE X (.Call (.Name x p) (e::es) [] pos) (Xh sp t):=Xi c hr hg ha hdb (bL h1) (fO h2)
theorem Ek {es:List Expr} {env:Env} {cpos:Pos} (h:es.all aT=true):(backTo cpos (starEach es env)).all (fun x=>!x.1)=true:=by
 induction es with
 | nil=>rfl
 | cons e es ih=>
  rw[List.all_cons,Bool.and_eq_true]at h;rw[bL h.1];show(!false&&(backTo cpos (starEach es env)).all (fun x=>!x.1))=true
  rw[ih h.2];rfl
theorem Xj {name:Str} {r:V->List V->Hp->VK->Prop} (pa:PlainAttrs T) (slot:Slot T name id) (hty:typeOf (.builtin id)=pure (.type "method_descriptor")) (hm:Tu X id r) (ho:PE X o to) (ha:PA X (e::es) t)
  (hbase:attributeBase o name X.env (eval o X.env)=eval o X.env:=by rfl) (hline:(apos.endLine == cpos.line)=true:=by rfl) (h1:aT e=true:=by rfl) (h2:es.all aT=true:=by rfl) (hn:es.length+1<30:=by decide) :
  PE X (.Call (.Attribute o name apos) (e::es) [] cpos) (Vy X.K T r to t):=by
 refine Tw pa slot hty hm ho ha hbase ?_ hline (bL h1) (fO h2)
 rw[Ek (by rw[List.all_cons,h1,h2];rfl)]
 show(true&&true&&decide (es.length+1+0+0<30))=true
 simp
 omega
theorem Qx {p2:Pos} {T:Str} (want:Kd) (he:PE X e te) (hg:Gl X "isinstance") (hm:X.mg "isinstance"=none) (hgT:Gl X T) (hmT:X.mg T=none) (hT:bootBuiltins T=some (.type (Kv want)))
  (hn:T≠"__name__":=by decide) (hd:(T == ("__debug__":Str))=false:=by decide) (h1:aT e=true:=by rfl):PE X (.Call (.Name "isinstance" p) [e,.Name T p2] [] pos) (Qw want te):=
 Uw want he hg hm hgT hmT hT (bL h1) (bL rfl) hn hd (fO rfl)
end
end L2
namespace L2
open PySem PySem.Spec PyProof.Rows
theorem cW:bootBuiltins "len"=some (.builtin "len"):=by decide +kernel
theorem Qy:bootBuiltins "sum"=some (.builtin "sum"):=by decide +kernel
theorem gM:bootBuiltins "sorted"=some (.builtin "sorted"):=by decide +kernel
theorem kL:bootBuiltins "max"=some (.builtin "max"):=by decide +kernel
theorem Qz:bootBuiltins "min"=some (.builtin "min"):=by decide +kernel
theorem oE:bootBuiltins "list"=some (.type "list"):=by decide +kernel
theorem El:bootBuiltins "str"=some (.type "str"):=by decide +kernel
theorem mM:bootBuiltins "int"=some (.type "int"):=by decide +kernel
theorem Kx:bootBuiltins "bool"=some (.type "bool"):=by decide +kernel
theorem iY:bootBuiltins "tuple"=some (.type "tuple"):=by decide +kernel
theorem lF:bootBuiltins "dict"=some (.type "dict"):=by decide +kernel
structure Dk (H:Hp) (d b:Addr):Prop where
 ex:∃(ns:List Int) (s k:Int),H d=some (.lst [.ref b,.int s,.int k])/\H b=some (.lst (ns.map V.int))/\ns.length<=63
def Kp (d b:Addr) (H H':Hp):Prop:=∀c o,H c=some o->c≠d->c≠b->H' c=some o
theorem Kp.refl {d b:Addr} {H:Hp}:Kp d b H H:=fun _ _ e _ _=>e
theorem Kp.trans {d b:Addr} {H H1 H2:Hp} (x:Kp d b H H1) (y:Kp d b H1 H2):Kp d b H H2:=fun c o e h1 h2=>y c o (x c o e h1 h2) h1 h2
theorem Kp.new {d b p:Addr} {H:Hp} {o:HO} (h:H p=none):Kp d b H (aI H p o):=fun c u e _ _=>by rw[aE (aF e h)];exact e
theorem Dk.new {d b p:Addr} {H:Hp} {o:HO} (x:Dk H d b) (h:H p=none):Dk (aI H p o) d b:=by
 obtain⟨ns,s,k,h1,h2,h3⟩:=x.ex
 exact⟨ns,s,k,by rw[aE (aF h1 h)];exact h1,by rw[aE (aF h2 h)];exact h2,h3⟩
def Em (K:W.Frag):Sp:=fun vs H Q _=>∃(a:Addr) (ns:List Int),vs=[.ref a]/\SqL K H a (ns.map V.int)/\∀d b H',H d=none->H b=none->Dk H' d b->Same H H'->Q (.ref d) H'
end L2
namespace L2
theorem Bd {c:Bool} {A B:Prop} (h:c=true) (k:A):if c=true then A else B:=by rw[if_pos h];exact k
theorem qM {c:Bool} {A B:Prop} (h:c=false) (k:B):if c=true then A else B:=by rw[if_neg (by rw[h];exact Bool.false_ne_true)];exact k
theorem bP {c:Bool} {A B:Prop} (ht:c=true->A) (hf:c=false->B):if c=true then A else B:=by
 cases h:c with
 | true=>rw[if_pos rfl];exact ht h
 | false=>rw[if_neg Bool.false_ne_true];exact hf h
end L2
namespace L2
open PySem PySem.Spec PyProof.Rows
structure uR (J:It) (xs:List V) (A:Hp->Prop):Prop where
 go:∀i H,i<xs.length->A H->J.go i H
 yld:∀i H x H',i<xs.length->A H->J.yld i H x H'->H'=H/\xs[i]?=some x
 stop:∀H,A H->J.stop xs.length H
def iZ (lo:Int) (n:Nat):List V:=(List.range n).map fun(i:Nat)=>V.int (lo+(i:Int))
theorem cT (lo:Int) (n:Nat):uR (Vw lo n) (iZ lo n) (fun _=>True):=by
 have hl:(iZ lo n).length=n:=by simp [iZ]
 refine⟨fun i H hi _=>by rw[hl]at hi;exact hi,fun i H v H' hi _ ⟨e,ev⟩=>⟨e,?_⟩,fun H _=>by rw[hl];exact aV _⟩
 subst ev;rw[hl]at hi;unfold iZ;rw[dR,List.getElem?_range hi];rfl
theorem aR (K:W.Frag) (a:Addr) (xs:List V):uR (Sq K a) xs (fun H=>SqL K H a xs):=
 ⟨fun i H hi h=>⟨xs,xs[i],h,by simp [hi]⟩,fun i H x H' _ h ⟨e,y⟩=>⟨e,y xs h⟩,fun H h=>⟨xs,h,aV _⟩⟩
theorem yX (K:W.Frag) (a:Addr) (xs:List V):uR (Wm K a) xs (fun H=>SqT K H a xs):=
 ⟨fun i H hi h=>⟨xs,xs[i],h,by simp [hi]⟩,fun i H x H' _ h ⟨e,y⟩=>⟨e,y xs h⟩,fun H h=>⟨xs,h,aV _⟩⟩
theorem aS {J:It} {xs:List V} {A:Hp->Prop} {js:List (Option Nat)} {g:TG} {tt:TT} {te:TE} {σ:St} {H:Hp} {Q:List V->Hp->Prop} (S:uR J xs A) (hz:xs.length<=100000) (Pv:Nat->List V->Hp->Prop) (hA:∀i ys H,Pv i ys H->A H/\ys.length<=i) (h0:Pv 0 [] H)
  (hs:∀i x ys H,xs[i]?=some x->Pv i ys H->g x (wG js σ) H fun σ2 H2=>tt σ2 H2 fun b H3=>if b=true then te σ2 H3 fun y H4=>Pv (i+1) (ys++[y]) H4 else Pv (i+1) ys H3)
  (hd:∀ys H,Pv xs.length ys H->Q ys H):lD js g tt te σ J H Q:=by
 refine⟨fun i m ys H=>m=xs.length - i/\i<=xs.length/\Pv i ys H,⟨xs.length,Zs,Nat.zero_le _,h0⟩,?_⟩
 rintro i m ys H ⟨rfl,hi,p⟩
 obtain⟨pa,hy⟩:=hA i ys H p
 by_cases hlt:i<xs.length
 ·refine .inr ⟨S.go i H hlt pa,kI (m:=100000) Zo Zd,Pv (i+1),fun ys' H' p'=>⟨xs.length - (i+1),Zo,rfl,hlt,p'⟩,fun x H' y=>?_⟩
  obtain⟨rfl,hx⟩:=S.yld i H x H' hlt pa y
  exact hs i x ys H' hx p
 ·have e:i=xs.length:=by omega
  subst e;exact .inl ⟨S.stop H pa,hd ys H p⟩
theorem cC {J:It} {xs:List V} {A:Hp->Prop} {g:TG} {tb:TS} {D:nR} {σ:St} {H:Hp} (S:uR J xs A) (Pv:Nat->St->Hp->Prop) (hA:∀i σ H,Pv i σ H->A H) (h0:Pv 0 σ H)
  (hs:∀(i:Nat) (x:V) σ H,xs[i]?=some x->Pv i σ H->g x σ H fun σ2 H2=>tb {D with nx:=Pv (i+1),ct:=Pv (i+1),bk:=D.nx } σ2 H2) (hd:∀ σ H,Pv xs.length σ H->D.nx σ H) :
  ∃W:Nat->Nat->St->Hp->Prop,(∃m,W 0 m σ H)/\∀i m σ H,W i m σ H →
   (J.stop i H/\D.nx σ H)∨(J.go i H/\∃N:St->Hp->Prop,(∀ σ' H',N σ' H'->∃m',m'<m/\W (i+1) m' σ' H')/\∀x H',J.yld i H x H'->g x σ H' fun σ2 H2=>tb {D with nx:=N,ct:=N,bk:=D.nx } σ2 H2):=by
 refine⟨fun i m σ H=>m=xs.length - i/\i<=xs.length/\Pv i σ H,⟨xs.length,Zs,Nat.zero_le _,h0⟩,?_⟩
 rintro i m σ H ⟨rfl,hi,p⟩
 have pa:=hA i σ H p
 by_cases hlt:i<xs.length
 ·refine .inr ⟨S.go i H hlt pa,Pv (i+1),fun σ' H' p'=>⟨xs.length - (i+1),Zo,rfl,hlt,p'⟩,fun x H' y=>?_⟩
  obtain⟨rfl,hx⟩:=S.yld i H x H' hlt pa y
  exact hs i x σ H' hx p
 ·have e:i=xs.length:=by omega
  subst e;exact .inl ⟨S.stop H pa,hd σ H p⟩
end L2
namespace L2
open PySem
theorem aD {H:Hp} {p:Addr} {o:HO} (h:H p=none):Same H (aI H p o):=fun b u q=>by rw[aE (aF q h)];exact q
theorem tG {α:Type} (xs:List α) (k:Nat):gL xs none (some (k:Int))=xs.take k:=by
 unfold gL;rw[HT.sIx_none,HT.sIx_nat,List.drop_zero,Nat.sub_zero,<- List.take_take,gH (aV _)]
theorem En {α:Type} (xs:List α) (k:Nat):gL xs (some (k:Int)) none=xs.drop k:=by
 unfold gL;rw[HT.sIx_none,HT.sIx_nat];by_cases h:k<=xs.length
 ·rw[Nat.min_eq_left h,gH (by rw[List.length_drop];exact aV _)]
 ·rw[Nat.min_eq_right Zo,List.drop_of_length_le (aV _),List.drop_of_length_le Zo,List.take_nil]
theorem Ky {α β:Type} (f:α->β) (xs:List α) (lo hi:Option Int):gL (xs.map f) lo hi=(gL xs lo hi).map f:=by
 unfold gL;rw[aQ,<- List.map_drop,<- List.map_take]
end L2
namespace L2
open PySem PySem.Spec PyProof.Rows
theorem aL {H:Hp} {p q:Addr} {o u:HO} (h:H p=some o) (hq:H q=none):aI H q u p=some o:=by rw[aE (aF h hq)];exact h
theorem uS {α:Type} {xs:List α} {i:Int} (h0:0<=i) (h1:i<xs.length):∃v,nT xs i=some v/\v∈xs:=by
 obtain⟨j,rfl⟩:=Int.eq_ofNat_of_zero_le h0
 have hj:j<xs.length:=by omega
 exact⟨xs[j],gY (by simp [hj]),List.getElem_mem hj⟩
theorem yY (g:Array Nat):∀(ps:List Str) (acc:Array Nat),(ps.foldl (fun acc p=>acc++g++p.cps) acc).toList=acc.toList++(ps.map fun p=>g.toList++p.cps.toList).flatten
 | [],acc=>by simp
 | p::ps,acc=>by
  rw[List.foldl_cons,yY g ps];simp
theorem Eo (ps:List Str):(Txt.join (tx []) ps).cps.toList=(ps.map fun p=>p.cps.toList).flatten:=by
 unfold Txt.join Builtin.Str.glued;rw[yY];cases ps with
 | nil=>simp [Str.empty]
 | cons p ps=>simp
theorem Kz (ps:List Str):Txt.join (tx []) ps=tx (ps.map fun p=>p.cps.toList).flatten:=by rw[<- Eo,xC]
theorem pB (ts:List Nat):Txt.join (tx []) (ts.map fun c=>tx [c])=tx ts:=by
 rw[Kz,List.map_map];congr 1
 congr 1
 induction ts with
 | nil=>rfl
 | cons c r ih=>rw[List.map_cons,List.flatten_cons,ih];rfl
theorem tH:("":Str)=tx []:=by decide +kernel
end L2
namespace L2
open PySem
theorem Dk.ne {H:Hp} {d b p:Addr} (x:Dk H d b) (h:H p=none):p≠d/\p≠b:=by
 obtain⟨ns,s,k,h1,h2,h3⟩:=x.ex
 exact⟨(aF h1 h).symm,(aF h2 h).symm⟩
theorem lG (x:Str):x=tx x.cps.toList:=(xC x).symm
end L2
namespace L2
open PySem
theorem pC:∀ts:List Nat,((ts.map fun c=>tx [c]).map (·.length)).sum=ts.length
 | []=>rfl
 | c::ts=>by
  rw[List.map_cons,List.map_cons,List.sum_cons,pC ts,nZ];show 1+ts.length=_
  omega
end L2
namespace L2
open PySem
theorem Ep {t:TS} {D:nR} {σ:St} {H:Hp} (R:St->Hp->Prop) (h:∀nx:St->Hp->Prop,(∀ σ' H',R σ' H'->nx σ' H')->t {D with nx:=nx } σ H) (h2:∀ σ' H',R σ' H'->D.nx σ' H'):t D σ H:=h D.nx h2
theorem Dk.same {H H':Hp} {d b:Addr} (s:Same H H') (h:Dk H d b):Dk H' d b:=by
 obtain⟨ns,s0,k,h1,h2,h3⟩:=h.ex
 exact⟨ns,s0,k,s _ _ h1,s _ _ h2,h3⟩
end L2
namespace L2
open PySem PySem.Spec PyProof.Rows
structure XE (X:Cx) (e:Expr) (t:TE):Prop where
 h:PE X e t
structure XT (X:Cx) (e:Expr) (t:TT):Prop where
 h:PT X e t
structure XW (X:Cx) (e:Expr) (t:TT):Prop where
 h:PW X e t
structure XA (X:Cx) (es:List Expr) (t:TA):Prop where
 h:PA X es t
structure XS (X:Cx) (st:Stmt) (t:TS):Prop where
 h:PS X st t
structure XB (X:Cx) (st:List Stmt) (t:TS):Prop where
 h:PSs X st t
structure XI (X:Cx) (tg iter:Expr) (t:TI):Prop where
 h:PI X tg iter t
structure XG (X:Cx) (e:Expr) (t:TG):Prop where
 h:PG X e t
structure Uy (X:Cx) (es:List Expr) (t:yC):Prop where
 h:Tf X es t
structure XO (X:Cx) (e:Option Expr) (t:TO):Prop where
 h:PO X e t
structure Wb (X:Cx) (cs:List Expr) (t:TT):Prop where
 h:Su X cs t
structure Re (X:Cx) (t:Ae):Prop where
 h:Jj X t
structure iR (X:Cx) (f:Value->Value->Sem Value) (r:R2):Prop where
 h:OpR X f r
structure Sv (X:Cx) (r:R2):Prop where
 h:IxR X r
structure Uz (X:Cx) (r:V->Option Int->Option Int->Hp->VK->Prop):Prop where
 h:SlR X r
structure XC (X:Cx) (f:Value) (r:List V->Hp->VK->Prop):Prop where
 h:CallR X f r
structure XM (X:Cx) (id:String) (r:V->List V->Hp->VK->Prop):Prop where
 h:Tu X id r
namespace R
section
variable {X:Cx} {a b c e o i:Expr} {es rest:List Expr} {ta tb tc te to ti:TE} {tA tB':TT} {t u:TA} {pos p p2 apos cpos pos':Pos} {x:Str} {n:Nat} {r r':R2}
theorem v (i:Nat) {x:Str} {pos:Pos} (hN:X.N[i]?=some x:=by rfl) (hv:Sy X.env.scope x:=by first | exact Or.inl rfl | exact Or.inr (Or.inl rfl) | exact Or.inr (Or.inr rfl)) (hd:(x == ("__debug__":Str))=false:=by decide)
  (hcd:(x == ("__classdict__":Str))=false:=by decide):XE X (.Name x pos) (vr i):=⟨xv i hN hv hd hcd⟩
theorem ab {i j pos}:XE X (.Constant (.int i) j pos) (tC (.int i)):=⟨Oq⟩
theorem bl {b j pos}:XE X (.Constant (.bool b) j pos) (tC (.bl b)):=⟨Sz⟩
theorem df {j pos}:XE X (.Constant .none j pos) (tC .non):=⟨Os⟩
theorem ae {x j pos}:XE X (.Constant (.str x) j pos) (tC (.str x)):=⟨Ot⟩
theorem gI {z:Int} (hg:Gl X x) (hm:∃t,X.mg x=some (.int z t)) (hd:(x == ("__debug__":Str))=false:=by decide):XE X (.Name x pos) (tC (.int z)):=by
 obtain⟨t,hm⟩:=hm;exact⟨Jd hg hm ⟨t,rfl⟩ hd⟩
theorem op {op:Operator} (ho:iR X (binaryOp op) r) (ha:XE X a ta) (hb:XE X b tb):XE X (.BinOp a op b pos) (qI r ta tb):=⟨Ti ho.h ha.h hb.h⟩
theorem ap:iR X (binaryOp .Add) (wH fun i j=>.int (i+j)):=⟨Ub⟩
theorem cn:iR X (binaryOp .Sub) (wH fun i j=>.int (i - j)):=⟨Uc⟩
theorem de:iR X (binaryOp .Mult) (m2 CMul fun i j=>.int (i*j)):=⟨Ud⟩
theorem cg:iR X (binaryOp .Mod) (m2 (fun _ j=>0<j) fun i j=>.int (i % j)):=⟨Ue⟩
theorem bi:iR X (binaryOp .Pow) (m2 Pl fun i j=>.int (i ^ j.toNat)):=⟨Uf⟩
theorem fj:iR X (binaryOp .Add) Eh:=⟨Ql⟩
theorem lt:iR X (compareOp .Lt) (wH fun i j=>.bl (decide (i<j))):=⟨Wy⟩
theorem le:iR X (compareOp .LtE) (wH fun i j=>.bl (decide (i<=j))):=⟨Wz⟩
theorem gt:iR X (compareOp .Gt) (wH fun i j=>.bl (decide (j<i))):=⟨Xa⟩
theorem ge:iR X (compareOp .GtE) (wH fun i j=>.bl (decide (j<=i))):=⟨Xb⟩
theorem eq:iR X (compareOp .Eq) Ug:=⟨Xd⟩
theorem ne:iR X (compareOp .NotEq) Xc:=⟨Xe⟩
theorem inQ:iR X (compareOp .In) (Qc X.K false):=⟨Au⟩
theorem notInQ:iR X (compareOp .NotIn) (Qc X.K true):=⟨sR⟩
theorem im:iR X (compareOp .Is) (fun x y H Q=>match y with | .non=>Q (.bl (decide (x=.non))) H | _=>False):=⟨Uh⟩
theorem ir:iR X (compareOp .IsNot) (fun x y H Q=>match y with | .non=>Q (.bl (!decide (x=.non))) H | _=>False):=⟨Qm⟩
theorem eqNil (hu:X.A.units<cLine):iR X (compareOp .Eq) (mL X.K false):=⟨Ef hu⟩
theorem neNil (hu:X.A.units<cLine):iR X (compareOp .NotEq) (mL X.K true):=⟨Eg hu⟩
theorem bv {op:CmpOp} (ho:iR X (compareOp op) r) (ha:XE X a ta) (hb:XE X b tb) (hm:behindInMarks op b=false:=by first | exact sM _ | rfl):XE X (.Compare a [op] [b] pos) (qI r ta tb):=⟨Uj ho.h ha.h hb.h hm⟩
theorem al {op:CmpOp} (ho:iR X (compareOp op) r) (ha:XE X a ta) (hb:XE X b tb) (hm:behindInMarks op b=false:=by first | exact sM _ | rfl):XT X (.Compare a [op] [b] pos) (mT (qI r ta tb)):=⟨Ui ho.h ha.h hb.h hm⟩
theorem jk {op op':CmpOp} (ho:iR X (compareOp op) r) (ho':iR X (compareOp op') r') (ha:XE X a ta) (hb:XE X b tb) (hc:XE X c tc) (hm:lastMarks [op,op'] [b,c]=false:=by with_unfolding_all rfl):XT X (.Compare a [op,op'] [b,c] pos) (mT (tF r r' ta tb tc)):=⟨Ks ho.h ho'.h ha.h hb.h hc.h hm⟩
theorem ba (ha:XE X a ta):XE X (.UnaryOp .USub a pos) (Wn (fun x H Q=>mI x fun i=>Q (.int (-i)) H) ta):=⟨Uo ha.h⟩
theorem bw {t:TE} (h:XE X e t) (he:∀whole,isTrue e X.env whole=(do let v ← whole;standAt e.pos;holding [v] (truthy v)):=by intro _;rfl):XT X e (mT t):=⟨Uk h.h he⟩
theorem dj (ha:XT X a tA):XT X (.UnaryOp .Not a pos) (Tb tA):=⟨Ox ha.h⟩
theorem cv (ha:XT X a tA):XW X (.BoolOp .And [a] pos) tA:=⟨Jf ha.h⟩
theorem dq (ha:XT X a tA):XW X (.BoolOp .Or [a] pos) tA:=⟨Ov ha.h⟩
theorem cj (ha:XT X a tA) (hb:XW X (.BoolOp .And (b::rest) pos) tB'):XW X (.BoolOp .And (a::b::rest) pos) (Ta tA tB'):=⟨Ow ha.h hb.h⟩
theorem dm (ha:XT X a tA) (hb:XW X (.BoolOp .Or (b::rest) pos) tB'):XW X (.BoolOp .Or (a::b::rest) pos) (Xs tA tB'):=⟨Tc ha.h hb.h⟩
theorem tw (h:XW X e tA):XT X e tA:=⟨h.h.pt⟩
theorem jc {op} (h:XE X a ta):XE X (.BoolOp op [a] pos) ta:=⟨Oy h.h⟩
theorem fq (ha:XE X a ta) (hb:XE X (.BoolOp .And (b::rest) pos) tb):XE X (.BoolOp .And (a::b::rest) pos) (yU ta tb):=⟨Ul ha.h hb.h⟩
theorem jo (ha:XE X a ta):XE X (.UnaryOp .Not a pos) (yV ta):=⟨Um ha.h⟩
theorem ix (hr:Sv X r) (ha:XE X a ta) (hb:XE X b tb) (hs:sP b:=by exact fun _ _=>rfl):XE X (.Subscript a b pos) (qI r ta tb):=⟨Xf hr.h ha.h hb.h hs⟩
theorem iL:Sv X (Kt X.K):=⟨Qp⟩
theorem iT:Sv X (qL X.K):=⟨Uq⟩
theorem iS:Sv X Qo:=⟨Ur⟩
theorem pn:XO X none yI:=⟨Jy⟩
theorem ps (h:XE X e te):XO X (some e) (yW te):=⟨Qq h.h⟩
theorem sl {r:V->Option Int->Option Int->Hp->VK->Prop} {lo hi:Option Expr} {tl th:TO} (hr:Uz X r) (he:XE X e te) (hl:XO X lo tl) (hu:XO X hi th):XE X (.Subscript e (.Slice lo hi none p2) pos) (Xw r te tl th):=⟨Cv hr.h he.h hl.h hu.h⟩
theorem sS:Uz X Qr:=⟨Us⟩
theorem sL:Uz X (Ku X.K):=⟨Qs⟩
theorem ac:XA X [] wS:=⟨wU⟩
theorem U (ha:XE X e te) (hr:XA X es t) (h:aT e=true:=by rfl):XA X (e::es) (kE te t):=⟨xE ha.h hr.h h⟩
theorem il {x1} (h:XA X es t):XE X (.Tuple es x1 pos) (Tq t):=⟨Pu h.h⟩
theorem au (h:XA X es t):XE X (.List es pos) (Tr t):=⟨Pw h.h⟩
theorem ax {id:String} {r:List V->Hp->VK->Prop} (hc:XC X (.builtin id) r) (hg:Gl X x) (hm:X.mg x=none) (hv:bootBuiltins x=some (.builtin id)) (ha:XA X (e::es) t) (hn:x≠"__name__":=by decide) (hdb:(x == ("__debug__":Str))=false:=by decide)
  (h1:aT e=true:=by rfl) (h2:es.all aT=true:=by rfl):XE X (.Call (.Name x p) (e::es) [] pos) (Sr r t):=⟨Kw hc.h hg hm hv ha.h hn hdb h1 h2⟩
theorem bg {T:String} {r:List V->Hp->VK->Prop} (hc:XC X (.type T) r) (hg:Gl X x) (hm:X.mg x=none) (hv:bootBuiltins x=some (.type T)) (ha:XA X (e::es) t) (hn:x≠"__name__":=by decide) (hdb:(x == ("__debug__":Str))=false:=by decide)
  (h1:aT e=true:=by rfl) (h2:es.all aT=true:=by rfl):XE X (.Call (.Name x p) (e::es) [] pos) (Sr r t):=⟨Ej hc.h hg hm hv ha.h hn hdb h1 h2⟩
theorem fh:XC X (.builtin "len") (fun vs H Q=>match vs with | [.str z]=>z.length<=sizeLine/\Q (.int z.length) H | _=>False):=⟨Qt⟩
theorem lenL:XC X (.builtin "len") (fun vs H Q=>match vs with | [.ref p]=>∃ys,(SqL X.K H p ys∨SqT X.K H p ys)/\Q (.int ys.length) H | _=>False):=⟨Qu⟩
theorem dl:XC X (.type "int") (fun vs H Q=>match vs with | [.bl k]=>Q (.int (if k then 1 else 0)) H | _=>False):=⟨Ut⟩
theorem sum (hc:X.calm=true):XC X (.builtin "sum") (Qk X.K):=⟨Ee hc⟩
theorem fn {n:Nat} {ps:List Str} {sp:Sp} (c:aG X.prog X.w X.K X.mg X.base n x ps sp) (hr:Room n X.A) (hg:Gl X x) (ha:XA X (e::es) t) (hdb:(x == ("__debug__":Str))=false:=by decide)
  (h1:aT e=true:=by rfl) (h2:es.all aT=true:=by rfl):XE X (.Call (.Name x p) (e::es) [] pos) (Xh sp t):=⟨Ux c hr hg ha.h hdb h1 h2⟩
theorem bm {T id:String} {name:Str} {r:V->List V->Hp->VK->Prop} (pa:PlainAttrs T) (slot:Slot T name id) (hty:typeOf (.builtin id)=pure (.type "method_descriptor")) (hm:XM X id r) (ho:XE X o to) (ha:XA X (e::es) t)
  (hbase:attributeBase o name X.env (eval o X.env)=eval o X.env:=by rfl) (hline:(apos.endLine == cpos.line)=true:=by rfl) (h1:aT e=true:=by rfl) (h2:es.all aT=true:=by rfl) (hn:es.length+1<30:=by decide) :
  XE X (.Call (.Attribute o name apos) (e::es) [] cpos) (Vy X.K T r to t):=⟨Xj pa slot hty hm.h ho.h ha.h hbase hline h1 h2 hn⟩
theorem bn:XM X "list.append" yL:=⟨Av⟩
theorem jf:XM X "list.pop" De:=⟨Dg⟩
theorem join:XM X "str.join" (Ec X.K):=⟨Kr⟩
theorem da {T:Str} (want:Kd) (he:XE X e te) (hg:Gl X "isinstance") (hm:X.mg "isinstance"=none) (hgT:Gl X T) (hmT:X.mg T=none) (hT:bootBuiltins T=some (.type (Kv want)))
  (hn:T≠"__name__":=by decide) (hd:(T == ("__debug__":Str))=false:=by decide) (h1:aT e=true:=by rfl):XE X (.Call (.Name "isinstance" p) [e,.Name T p2] [] pos) (Qw want te):=⟨Qx want he.h hg hm hgT hmT hT hn hd h1⟩
theorem iu:XE X (.Dict [] [] pos) (Do):=⟨Dq⟩
variable {tg:Expr}
theorem wL (hl:XE X e te):XI X tg e (Cm X.K te):=⟨Jn hl.h⟩
theorem wT (hl:XE X e te):XI X tg e (Ph X.K te):=⟨Pi hl.h⟩
theorem cp (hg:Gl X "range") (hm:X.mg "range"=none) (ha:XA X [a] t) (h1:aT a=true:=by rfl):XI X tg (.Call (.Name "range" p) [a] [] pos) (Nf t):=⟨Ah hg hm ha.h (bL h1)⟩
theorem gn {i:Nat} (hN:X.N.Nodup) (hi:X.N[i]?=some x:=by rfl) (hx:Nc X.env.scope x:=by first | exact Or.inl rfl | exact Or.inr rfl) (hf:X.fn x=true∨X.env.scope.names.lookup x=some .local:=by first | exact .inl rfl | exact .inr rfl | assumption):XG X (.Name x pos) (aJ i):=⟨Jk hN hi hx hf⟩
theorem di:Uy X [] Pc:=⟨Jl⟩
theorem bq {tg1:TG} {tgs:yC} (h1:XG X e tg1) (h2:Uy X es tgs) (hs:(assignEach (e::es) X.env).map (·.2)=assign e X.env::(assignEach es X.env).map (·.2):=by rfl):Uy X (e::es) (Ck tg1 tgs):=⟨Cl h1.h h2.h hs⟩
theorem gt' {k:Nat} {tgs:yC} (hc:X.calm=true) (h:Uy X es tgs) (hn:(assignEach es X.env).length=n:=by rfl) (hst:(assignEach es X.env).findIdx? (·.1)=none:=by rfl):XG X (.Tuple es k pos) (Jm X.K n tgs):=⟨Pd hc h.h hn hst⟩
theorem ij:Re X Nl:=⟨Cw⟩
theorem bu {ts:Ae} (ho:XE X o to) (hi:XE X i ti) (hs:Re X ts) (ha:∀v,assign (.Subscript o i pos) X.env v=(do
   let ov ← holding [v] (eval o X.env)
   let iv ← holding [v,ov] (eval i X.env)
   standAt pos
   holding [v,ov,iv] (setItem ov iv v)
   release [v,ov,iv] []):=by intro _;rfl):XG X (.Subscript o i pos) (Tg to ti ts):=⟨Pe ho.h hi.h hs.h ha⟩
end
section
variable {X:Cx} {c e tg iter elt:Expr} {ifs:List Expr} {te:TE} {tc tt:TT} {g:TG} {wi:TI} {st:Stmt} {ss sa sb:List Stmt} {t u:TS} {pos pos' spos py:Pos} {x y:Str} {scope:Scope} {N:List Str} {js:List (Option Nat)}
theorem bt:Wb X [] Dz:=⟨Kl⟩
theorem az (h:XT X c tt) (hx:X.xe=fun _ _=>False:=by rfl):Wb X [c] tt:=⟨Km h.h hx⟩
theorem ay (hc:X.calm=true) (S:CompScope X scope N js) (go:xB js g) (hi:XI X tg iter wi)
  (hb:∀(C:Addr) (s₂:Shared) (H₂:Hp) (fp:List Addr),XG (mF X scope C N s₂ H₂ fp) tg g/\Wb (mF X scope C N s₂ H₂ fp) ifs tt/\XE (mF X scope C N s₂ H₂ fp) elt te)
  (hs:∀x,foldedSetIterable iter X.env x=pure x:=by intro _;rfl):XE X (.ListComp elt [⟨tg,iter,ifs,0⟩] scope pos) (Np wi js g tt te):=
 ⟨Kn hc S go hi.h (fun C s₂ H₂ fp=>let ⟨a,b,c⟩:=hb C s₂ H₂ fp;⟨a.h,b.h,c.h⟩) hs⟩
theorem cx {i:Nat} (hN:X.N.Nodup) (hy:X.N[i]?=some y) (hx:Nc X.env.scope y) (hc:X.calm=true) (S:CompScope X scope N js) (go:xB js g) (hi:XI X tg iter wi)
  (hb:∀(C:Addr) (s₂:Shared) (H₂:Hp) (fp:List Addr),XG (mF X scope C N s₂ H₂ fp) tg g/\Wb (mF X scope C N s₂ H₂ fp) ifs tt/\XE (mF X scope C N s₂ H₂ fp) elt te)
  (hsw:swapsWith (.ListComp elt [⟨tg,iter,ifs,0⟩] scope pos) (some (.Name y py)) spos.line X.env=pure true)
  (hs:∀x,foldedSetIterable iter X.env x=pure x:=by intro _;rfl) (hf:X.fn y=true∨X.env.scope.names.lookup y=some .local:=by first | exact .inl rfl | exact .inr rfl | assumption) :
  XS X (.Assign [.Name y py] (.ListComp elt [⟨tg,iter,ifs,0⟩] scope pos) spos) (Nq i wi js g tt te):=
 ⟨Ko hN hy hx hc S go hi.h (fun C s₂ H₂ fp=>let ⟨a,b,c⟩:=hb C s₂ H₂ fp;⟨a.h,b.h,c.h⟩) hsw hs hf⟩
theorem av:XB X [] Ci:=⟨Jg⟩
theorem ag (h1:XS X st t):XB X [st] t:=⟨Jh h1.h⟩
theorem ad (h1:XS X st t) (h2:XB X ss u):XB X (st::ss) (oK t u):=⟨Cj h1.h h2.h⟩
theorem ao (he:XE X e te):XS X (.Return (some e) pos) (Td te):=⟨Pb he.h⟩
theorem bc (he:XE X e te) (hs:swapsWith e none pos.line X.env=pure false:=by rfl):XS X (.Expr e pos) (Nd te):=⟨Ji he.h hs⟩
theorem ar (hc:XT X c tc) (ha:XB X sa t) (hb:XB X sb u):XS X (.If c sa sb pos) (wI tc t u):=⟨Te hc.h ha.h hb.h⟩
theorem ah {i:Nat} (hN:X.N.Nodup) (he:XE X e te) (hi:X.N[i]?=some x:=by rfl) (hx:Nc X.env.scope x:=by first | exact Or.inl rfl | exact Or.inr rfl) (hs:swapsWith e (some (.Name x pos')) pos.line X.env=pure false:=by rfl)
  (hf:X.fn x=true∨X.env.scope.names.lookup x=some .local:=by first | exact .inl rfl | exact .inr rfl | assumption):XS X (.Assign [.Name x pos'] e pos) (Af te (aJ i)):=⟨Pg hN hi hx he.h hs hf⟩
theorem br (he:XE X e te) (hg:XG X tg g) (hs:swapsWithSole [tg] e pos.line X.env=pure false:=by rfl) (hw:swappedStores [tg] e X.env=pure none:=by rfl) (h1:(assignEach [tg] X.env).map (·.2)=[assign tg X.env]:=by rfl) :
  XS X (.Assign [tg] e pos) (Af te g):=⟨Pf he.h hg.h hs hw h1⟩
theorem bh (hp:PassesOwn (model X.prog X.w) X.A X.env X.xe) (hc:X.calm=true) (hi:XI X tg iter wi) (hg:XG X tg g) (hb:XB X ss t) (hs:∀x,foldedSetIterable iter X.env x=pure x:=by intro _;rfl):XS X (.For tg iter ss [] pos) (Th wi g t):=⟨Pj hp hc hi.h hg.h hb.h hs⟩
end
end R
theorem DefAt.go {P:Program} {w:World} {K:W.Frag} {mg:Str->Option Value} {base:Heap} {x:Str} {st:Stmt} {N ps:List Str} {k:Nat} {sp:Sp} (D:DefAt K mg x st ps) (S:aN N ps (aB st)) (len:∀vs H Q E,sp vs H Q E->vs.length=ps.length)
  (hbody:∀(f:Addr) (cdv:Value) (A:Around) (outer:List Env) (s:Shared) (H:Hp) (vs:List V) (Q:VK) (E:XK),Room k (A.deeper (envOfC x (aB st) s.heap.objs.size f cdv))->sp vs H Q E →
   ∃t,XB (kZ rH P w K mg base N x (aB st) f cdv A outer s H E).nox (bD st) t/\t {nx:=fun _ H'=>Q .non H',rt:=Q } (start N vs) H):aG P w K mg base (k+1) x ps sp:=
 D.ok S len fun f cdv A outer s H vs Q E hr h=>let ⟨t,h1,h2⟩:=hbody f cdv A outer s H vs Q E hr h;⟨t,h1.h,h2⟩
theorem Fun.go {P:Program} {w:World} {K:W.Frag} {mg:Str->Option Value} {base:Heap} {x qual:Str} {st:Stmt} {f:Addr} {fd:FuncData} {N ps:List Str} {k:Nat} {sp:Sp} (F:Fun K x qual st f fd) (S:aN N ps (aB st)) (len:∀vs H Q E,sp vs H Q E->vs.length=ps.length)
  (hbody:∀(cdv:Value) (A:Around) (outer:List Env) (s:Shared) (H:Hp) (vs:List V) (Q:VK) (E:XK),Room k (A.deeper (envOfC qual (aB st) s.heap.objs.size f cdv))->sp vs H Q E →
   ∃t,XB (kZ rH P w K mg base N qual (aB st) f cdv A outer s H E).nox (bD st) t/\t {nx:=fun _ H'=>Q .non H',rt:=Q } (start N vs) H):kA P w K mg base rH (k+1) f fd ps sp:=
 F.ok S len fun cdv A outer s H vs Q E hr h=>let ⟨t,h1,h2⟩:=hbody cdv A outer s H vs Q E hr h;⟨t,h1.h,h2⟩
theorem Rh {K:W.Frag} {h:Heap} {mg:Str->Option Value} {x:Str} {st:Stmt} {ps:List Str} {f:Addr} {od an:Option Addr} {sl:Array (Option Value)} {oc kV dc pm cd ct:Value} (X:K.In h) (G:h.Ns mainGlobals mg)
  (a:W.nsIn K mainGlobals x=some (some (.ref f))) (l:K.lookup f=some ⟨oc,od,.func (W.fnOf x x (bX st) (bD st) (aB st) .none kV dc pm an cd ct),sl⟩) (c:W.codeIn K cd x=true) (k:W.keepIn K (.ref f)=true)
  (hb:∀(kV doc pm:Value) (an:Option Addr) (cdv ct:Value) (us:List Value),us.length=ps.length->bindArgs (W.fnOf x x (bX st) (bD st) (aB st) .none kV doc pm an cdv ct) ⟨us,[]⟩=pure (ps.zip us)):DefAt K mg x st ps:=
 ⟨f,_,oW l c k,W.mg_of X G a,(oW (st:=st) l c k).binds hb⟩
namespace R
section
variable {X:Cx} {K:W.Frag} {a b c e o i tg:Expr} {es rest:List Expr} {te to:TE} {t:TA} {pos p p2 apos cpos:Pos} {x:Str} {n:Nat}
theorem aq (hK:X.K=K:=by rfl):Sv X (Kt K):=hK ▸ iL
theorem af (hK:X.K=K:=by rfl):Sv X (qL K):=hK ▸ iT
theorem du (hK:X.K=K:=by rfl):Uz X (Ku K):=hK ▸ sL
theorem bp (hK:X.K=K:=by rfl):iR X (compareOp .In) (Qc K false):=hK ▸ inQ
theorem jb (hK:X.K=K:=by rfl):iR X (compareOp .NotIn) (Qc K true):=hK ▸ notInQ
theorem jj (hu:X.A.units<cLine) (hK:X.K=K:=by rfl):iR X (compareOp .Eq) (mL K false):=hK ▸ eqNil hu
theorem je (hu:X.A.units<cLine) (hK:X.K=K:=by rfl):iR X (compareOp .NotEq) (mL K true):=hK ▸ neNil hu
theorem bo (hK:X.K=K:=by rfl):XC X (.builtin "len") (fun vs H Q=>match vs with | [.ref p]=>∃ys,(SqL K H p ys∨SqT K H p ys)/\Q (.int ys.length) H | _=>False):=hK ▸ lenL
theorem jd (hc:X.calm=true) (hK:X.K=K:=by rfl):XC X (.builtin "sum") (Qk K):=hK ▸ sum hc
theorem ik (hK:X.K=K:=by rfl):XM X "str.join" (Ec K):=hK ▸ join
theorem bb {T id:String} {name:Str} {r:V->List V->Hp->VK->Prop} (pa:PlainAttrs T) (slot:Slot T name id) (hty:typeOf (.builtin id)=pure (.type "method_descriptor")) (hm:XM X id r) (ho:XE X o to) (ha:XA X (e::es) t) (hK:X.K=K:=by rfl)
  (hbase:attributeBase o name X.env (eval o X.env)=eval o X.env:=by rfl) (hline:(apos.endLine == cpos.line)=true:=by rfl) (h1:aT e=true:=by rfl) (h2:es.all aT=true:=by rfl) (hn:es.length+1<30:=by decide) :
  XE X (.Call (.Attribute o name apos) (e::es) [] cpos) (Vy K T r to t):=hK ▸ bm pa slot hty hm ho ha hbase hline h1 h2 hn
theorem aw (hl:XE X e te) (hK:X.K=K:=by rfl):XI X tg e (Cm K te):=hK ▸ wL hl
theorem iy (hl:XE X e te) (hK:X.K=K:=by rfl):XI X tg e (Ph K te):=hK ▸ wT hl
theorem dh {k:Nat} {tgs:yC} (hc:X.calm=true) (h:Uy X es tgs) (hK:X.K=K:=by rfl) (hn:(assignEach es X.env).length=n:=by rfl) (hst:(assignEach es X.env).findIdx? (·.1)=none:=by rfl):XG X (.Tuple es k pos) (Jm K n tgs):=hK ▸ gt' hc h hn hst
end
end R
end L2
namespace L2
open PySem PySem.Spec PyProof.Rows
def LET:List Nat:=[97,98,99,100,101,102,103,104,105,106,107,108,109,110,111,112,113,114,115,116,117,118,119,120,121,122]
def Xy:List Nat:=[48,49,50,51,52,53,54,55,56,57]
theorem tI:(("abcdefghijklmnopqrstuvwxyz":Str)).cps.toList=LET:=by decide +kernel
theorem Ri:(("0123456789":Str)).cps.toList=Xy:=by decide +kernel
end L2
namespace L2
open PySem PySem.Spec PyProof.Rows
def fU (z:Str):Prop:=1<=z.length/\z.length<=8/\∀c∈z.cps.toList,c∈LET
namespace R
variable {X:Cx}
theorem ji (hc:X.calm=true):XC X (.builtin "max") (fun vs H Q=>match vs with | [.int i,.int j]=>Q (.int (if j > i then j else i)) H | _=>False):=⟨(Aj hc).imp fun vs H Q h=>by
 split at h
 ·rename_i i j
  exact⟨i,j,rfl,h⟩
 ·exact h.elim⟩
end R
end L2
namespace L2
open PySem PySem.Spec PyProof.Rows
section
variable {prog:Program} {w:World} {A:Around} {E:Value->Shared->Prop} {s:Shared}
theorem Be {t:Addr} {items:Array Value} {Q:Bool->Shared->Prop} (ht:IsTup s.heap t items) (h:Q true s):wpAny (model prog w) A (Builtin.Tuple.tupleIsExact (.ref t)) Q E s:=by
 unfold Builtin.Tuple.tupleIsExact;refine wpAny_bind (wpAny_typeOf ht.typeIs ?_)
 exact wpAny_pure h
theorem kB {t sl:Addr} {items:Array Value} {vl vu:Value} {lo hi:Option Int} {Q:Value->Shared->Prop} (ht:IsTup s.heap t items) (hs:s.heap.IsSliceOf sl vl vu .none) (pl:IsPart vl lo) (pu:IsPart vu hi)
  (hw:HT.sIx items.size 0 lo=0/\HT.sIx items.size items.size hi=items.size) (h:Q (.ref t) s):wpAny (model prog w) A (getItem (.ref t) (.ref sl)) Q E s:=by
 obtain⟨os,hos,hcs,hds⟩:=id hs
 have hTs:s.TypeIs (.ref sl) "slice":=⟨os,hos,hcs⟩
 unfold getItem;try with_reducible refine wpAny_holding ?_
 first | refine wpAny_bind (wpAny_pure ?_) | skip
 refine wpAny_bind (wpAny_sequenceKey ht.typeIs Zd ?_)
 refine wpAny_bind (wpAny_callSpecial?_slot (name:=Str.ofString "__getitem__") ht.typeIs PyProof.Rows.slot_tuple_getitem
  (wpAny_call_entry PyProof.Rows.slot_tuple_getitem ht.typeIs entry_tuple_getitem ?_ (args_tuple_getitem _ _)))
 show wpAny _ _ (Builtin.Tuple.tupleItemsOf (.ref t) >>= _) _ _ s
 refine wpAny_bind (tupleItemsOf_ ht ?_)
 refine wpAny_bind (wpAny_typeOf hTs ?_)
 rw[if_pos Zd]
 refine wpAny_bind (HT.sliceApplied_gen hs pl pu ?_)
 have hyes:(((HT.sIx items.size 0 lo:Nat):Int) == 0&&(1:Int) == 1&&(HT.sIx items.size items.size hi - HT.sIx items.size 0 lo) == items.size)=true:=by
  rw[hw.1,hw.2];simp
 show wpAny _ _ (if (((HT.sIx items.size 0 lo:Nat):Int) == 0&&(1:Int) == 1&&(HT.sIx items.size items.size hi - HT.sIx items.size 0 lo) == items.size)=true then _ else _) _ _ s
 rw[if_pos hyes];refine wpAny_bind (Be ht ?_)
 rw[if_pos rfl];exact wpAny_bind (wpAny_rule (wpAny_pure ⟨_,rfl,wpAny_pure h⟩))
theorem Er {t b:Addr} {ws:List Value} {Q:Value->Shared->Prop} (ht:IsTup s.heap t ([]:List Value).toArray) (hb:IsTup s.heap b ws.toArray) (h1:Q (.ref b) s):wpAny (model prog w) A (binaryOp .Add (.ref t) (.ref b)) Q E s:=by
 obtain⟨⟨cls,dd,data,sl⟩,ho,hc,n,hd⟩:=id ht
 obtain⟨⟨cls2,dd2,data2,sl2⟩,ho2,hc2,n2,hd2⟩:=id hb
 simp only at hc hd hc2 hd2
 subst hc hd hc2 hd2;exact concat_meets ⟨_,ho,rfl⟩ ⟨_,ho2,rfl⟩ noFill_tuple_add seq_tuple_add PySem.F.slot_tuple_add PySem.F.entry_tuple_add (PySem.F.args_tuple_add_2 _ _)
   (tuple_addW0 t b _ ws.toArray n n2 dd dd2 sl sl2 Zs) ⟨ho,ho2,h1⟩
end
section
variable {X:Cx} {e o e1 e2:Expr} {te:TE} {pos p2 p3:Pos}
def Rj:V->Option Int->Option Int->Hp->VK->Prop:=fun x lo hi H Q=>mR x fun a=>∃xs,H a=some (.tup xs)/\∀p H',Same H H'->H' p=some (.tup (gL xs lo hi))->Q (.ref p) H'
theorem Va:SlR X Rj:=by
 intro pins s σ H x v vl vu lo hi sl Q I rx hs pl pu h;unfold Rj at h;rw[dD]at h;obtain⟨a,rfl,xs,hx,q⟩:=h
 by_cases hw:HT.sIx xs.length 0 lo=0/\HT.sIx xs.length xs.length hi=xs.length
 ·cases rx
  obtain⟨its,r,ht,hz⟩:=I.tuple (SqT.of hx)
  have hlen:its.toArray.size=xs.length:=by rw[dG];exact r.length.symm
  refine⟨"tuple",_,PyProof.Rows.slot_tuple_getitem.lookup,ht.typeIs,?_⟩
  refine kB ht hs pl pu (by rw[hlen];exact hw) ⟨.ref a,H,I,rfl,q a H (Same.refl H) ?_⟩
  rw[hx];unfold gL;rw[hw.1,hw.2,List.drop_zero,Nat.sub_zero,gH (aV _)]
 ·exact Py pins s σ H (.ref a) v vl vu lo hi sl Q I rx hs pl pu ⟨a,xs,rfl,SqT.of hx,hw,fun p hp=>q p _ (aD hp) aA⟩
def Es:R2:=fun x y H Q=>mR x fun a=>mR y fun b=>∃xs ys,H a=some (.tup xs)/\H b=some (.tup ys)/\xs.length+ys.length<=1000/\∀p H',Same H H'->H' p=some (.tup (xs++ys))->Q (.ref p) H'
theorem Rk:OpR X (binaryOp .Add) Es:=by
 intro pins s σ H x y v u Q I rx ry h;unfold Es at h;rw[dD]at h;obtain⟨a,rfl,h⟩:=h
 rw[dD]at h;obtain⟨b,rfl,xs,ys,ha,hb,hz,q⟩:=h
 by_cases h0:xs=[]
 ·subst h0;cases rx
  cases ry
  obtain⟨its,r1,p1,_⟩:=I.tuple (SqT.of ha)
  obtain⟨its2,r2,p2,_⟩:=I.tuple (SqT.of hb)
  cases r1
  exact Er p1 p2 ⟨.ref b,H,I,rfl,q b H (Same.refl H) (by rw[hb];rfl)⟩
 ·exact Ka pins s σ H _ _ v u Q I rx ry ⟨a,b,xs,ys,rfl,rfl,SqT.of ha,SqT.of hb,h0,eK hz Zd,(fun h1=>q a H (Same.refl H) (by rw[ha,h1,List.append_nil])),fun _ p hp=>q p _ (aD hp) aA⟩
end
def Ye (P:Params):List DictEntry->List (Str × Int)->Prop
 | [],[]=>True
 | e::r,(x,i)::q=>(∃t,e.key=.str x t)/\e.hash=PyData.keyHash P x/\(∃t,e.val=.int i t)/\Ye P r q
 | _,_=>False
structure Wc (X:Cx) (pos:Pos) (keys:List (Option Expr)) (values:List Expr) (trs:List (TE × TE)):Prop where
 h:Tz X pos keys values trs
namespace R
section
variable {X:Cx} {K:W.Frag} {P:Params} {e e1 k v o f:Expr} {te t1 tk tv td ty tx':TE} {pos p2 apos cpos:Pos} {ks:List (Option Expr)} {vs:List Expr} {trs:List (TE × TE)}
theorem sT:Uz X Rj:=⟨Va⟩
theorem bj:iR X (binaryOp .Add) Es:=⟨Rk⟩
theorem fg (hK:X.K=K:=by rfl):XC X (.type "list") (fun vs H Q=>match vs with | [.ref p]=>∃ys,(SqL K H p ys∨SqT K H p ys)/\∀l,H l=none->Q (.ref l) (aI H l (.lst ys)) | _=>False):=hK ▸ ⟨sW.imp fun vs H Q h=>by
 split at h
 ·rename_i p
  obtain⟨ys,hq,h⟩:=h
  exact⟨p,ys,rfl,hq,h⟩
 ·exact h.elim⟩
theorem ft (hK:X.K=K:=by rfl):XC X (.type "tuple") (fun vs H Q=>match vs with | [.ref p]=>∃ys,SqL K H p ys/\∀l,H l=none->Q (.ref l) (aI H l (.tup ys)) | _=>False):=hK ▸ ⟨qK.imp fun vs H Q h=>by
 split at h
 ·rename_i p
  obtain⟨ys,hq,h⟩:=h
  exact⟨p,ys,rfl,.inl ⟨hq,h⟩⟩
 ·exact h.elim⟩
theorem jh:Wc X pos [] [] []:=⟨Ki⟩
theorem dw (hk:XE X k tk) (hv:XE X v tv) (hr:Wc X pos ks vs trs):Wc X pos (some k::ks) (v::vs) ((tk,tv)::trs):=⟨Ds hk.h hv.h hr.h⟩
theorem jg (h:Wc X pos ks vs trs) (hall:ks.all (·.isSome)=true:=by rfl) (hl:ks.length=vs.length:=by rfl) (h0:ks≠[]:=by simp) (h15:ks.length<=15:=by decide):XE X (.Dict ks vs pos) (No trs):=⟨Kj h.h hall hl h0 h15⟩
theorem cq (hu:X.A.units+1<cLine) (ho:XE X o td) (he:XE X e ty) (hf:XE X f tx') (h1:attributeBase o "get" X.env (eval o X.env)=eval o X.env:=by rfl) (h3:(apos.endLine == cpos.line)=true:=by rfl)
  (h2:((backTo cpos (starEach [e,f] X.env)).all (fun x=>!x.1)&&(backToKw cpos (keywordEach [] X.env)).all (fun x=>x.1.isSome)
  && decide (([e,f]:List Expr).length+([]:List Keyword).length+(if ([]:List Keyword).isEmpty then 0 else 1)<30))=true:=by rfl)
  (h4:backTo cpos (starEach [e,f] X.env)=[(false,eval e X.env),(false,eval f X.env)]:=by rfl):XE X (.Call (.Attribute o "get" apos) [e,f] [] cpos) (Du td ty tx'):=⟨Dv hu ho.h he.h hf.h ⟨h1,h2,h3,h4⟩⟩
end
end R
end L2
namespace L2
open PySem PySem.Spec PyProof.Rows
def Vb:R2:=fun x y H Q=>mR x fun l=>mR y fun b=>∃xs zs,H l=some (.lst xs)/\H b=some (.lst zs)/\xs.length+zs.length<=sizeLine/\∀p,H p=none->Q (.ref p) (aI H p (.lst (xs++zs)))
theorem R.bd {X:Cx}:iR X (binaryOp .Add) Vb:=⟨Qe.imp fun x y H Q h=>by
 unfold Vb at h;rw[dD]at h;obtain⟨a,rfl,h⟩:=h
 rw[dD]at h;obtain⟨b,rfl,xs,zs,h⟩:=h
 exact⟨a,b,xs,zs,rfl,rfl,h⟩⟩
end L2
namespace L2
open PySem PySem.Spec PyProof.Rows
theorem Dk.tup_ne {H:Hp} {d b p:Addr} {xs:List V} (D:Dk H d b) (h:H p=some (.tup xs)):p≠d/\p≠b:=by
 obtain⟨ns,s,k,h1,h2,h3⟩:=D.ex
 exact⟨fun e=>(by rw[e,h1]at h;cases h),fun e=>(by rw[e,h2]at h;cases h)⟩
end L2
namespace L2
open PySem PySem.Spec PyProof.Rows
inductive TV where
 | sc (v:V)
 | tp (xs:List TV)
 | ls (xs:List TV)
def kM:V->Bool | .non=>true | .bl _=>true | .int _=>true | .str _=>true | _=>false
def Rep (H:Hp):Nat->TV->V->Prop
 | 0,.sc v,x=>x=v/\kM v=true
 | _+1,.sc v,x=>x=v/\kM v=true
 | n+1,.tp ts,x=>∃a xs,x=.ref a/\H a=some (.tup xs)/\Paired (Rep H n) ts xs
 | n+1,.ls ts,x=>∃a xs,x=.ref a/\H a=some (.lst xs)/\Paired (Rep H n) ts xs
 | 0,_,_=>False
theorem Paired.map' {α β:Type} {R S:α->β->Prop} (f:∀a b,R a b->S a b) {xs:List α} {ys:List β} (h:Paired R xs ys):Paired S xs ys:=by
 induction h with
 | nil=>exact .nil
 | cons h t ih=>exact .cons (f _ _ h) ih
theorem Rep.scal {H:Hp} {n:Nat} {v:V} (h:kM v=true):Rep H n (.sc v) v:=by
 cases n <;> exact⟨rfl,h⟩
theorem Paired.get' {α β:Type} {R:α->β->Prop}:∀ {xs:List α} {ys:List β} {j:Nat},Paired R xs ys->∀(h:j<ys.length),∃h':j<xs.length,R xs[j] ys[j]
 | _,_,0,.cons h t,_=>⟨Nat.succ_pos _,h⟩
 | _,_,j+1,.cons h t,hj=>let ⟨h',r⟩:=Paired.get' (j:=j) t (by simpa using hj);⟨by simpa using h',by simpa using r⟩
section
variable {X:Cx} {pins:List (Addr × Obj)} {s:Shared} {σ:St} {H:Hp}
theorem Lg (B:Around):B.in1.units=B.units+1:=rfl
theorem jA (n:Nat):(List.range n).all (fun _=>true)=true:=List.all_eq_true.mpr fun _ _=>rfl
theorem Et (I:Inv X pins σ H s):∀(n:Nat) {t:TV} {x y:V} {v u:Value} {A:Around},Rep H n t x->Rep H n t y->RelV x v->RelV y u->A.units+n<cLine->SeqAt.EqAt A s v u true:=by
 have sc:∀ {v:V} {x y:V} {v1 u1:Value} {A:Around},(x=v/\kM v=true)->(y=v/\kM v=true)->RelV x v1->RelV y u1->SeqAt.EqAt A s v1 u1 true:=by
  rintro v x y v1 u1 A ⟨rfl,hx⟩ ⟨rfl,_⟩ r1 r2
  cases y with
  | non=>cases r1;cases r2;exact SeqAt.EqAt.same _
  | bl i=>cases r1;cases r2;exact SeqAt.EqAt.same _
  | int i=>
   obtain⟨t1,rfl⟩:=r1
   obtain⟨t2,rfl⟩:=r2
   have:=SeqAt.EqAt.int_int (A:=A) (s:=s) i t1 i t2
   rwa [beq_self_eq_true]at this
  | str i=>
   obtain⟨t1,rfl⟩:=r1
   obtain⟨t2,rfl⟩:=r2
   have:=SeqAt.EqAt.str_str (A:=A) (s:=s) i t1 i t2
   rwa [beq_self_eq_true]at this
  | _=>cases hx
 intro n;induction n with
 | zero=>
  intro t x y v u A h1 h2 r1 r2 hu;cases t with
  | sc z=>exact sc h1 h2 r1 r2
  | _=>exact h1.elim
 | succ n ih=>
  intro t x y v u A h1 h2 r1 r2 hu;cases t with
  | sc z=>exact sc h1 h2 r1 r2
  | tp ts=>
   obtain⟨a,xs,rfl,g1,p1⟩:=h1
   obtain⟨b,ys,rfl,g2,p2⟩:=h2
   cases r1
   cases r2
   by_cases hab:a=b
   ·subst hab;exact SeqAt.EqAt.same _
   ·obtain⟨its,ri,ti,_⟩:=I.tuple (SqT.of g1)
    obtain⟨its2,ri2,ti2,_⟩:=I.tuple (SqT.of g2)
    have el1:its.length=ts.length:=by rw[<- ri.length,p1.length]
    have el2:its2.length=ts.length:=by rw[<- ri2.length,p2.length]
    have key:=SeqAt.RcAt.tuples (A:=A) (s:=s) (e:=fun _=>true) ti ti2 Zo (fun j h1 h2=>by
     rw[dG]at h1 h2;obtain⟨h1',q1⟩:=Paired.get' (j:=j) ri h1
     obtain⟨h2',q2⟩:=Paired.get' (j:=j) ri2 h2
     obtain⟨h3,q3⟩:=Paired.get' (j:=j) p1 h1'
     obtain⟨h4,q4⟩:=Paired.get' (j:=j) p2 h2'
     simpa using ih q3 q4 q1 q2 (by rw[Lg];omega))
    have e:((List.range (min its.toArray.size its2.toArray.size)).all (fun _=>true)&&its.toArray.size == its2.toArray.size)=true:=by
     rw[jA,dG,dG,el1,el2,beq_self_eq_true];rfl
    rw[e]at key;exact SeqAt.EqAt.of_refs hab key
  | ls ts=>
   obtain⟨a,xs,rfl,g1,p1⟩:=h1
   obtain⟨b,ys,rfl,g2,p2⟩:=h2
   cases r1
   cases r2
   by_cases hab:a=b
   ·subst hab;exact SeqAt.EqAt.same _
   ·obtain⟨its,ri,ti,_⟩:=I.list (SqL.of g1)
    obtain⟨its2,ri2,ti2,_⟩:=I.list (SqL.of g2)
    have el1:its.length=ts.length:=by rw[<- ri.length,p1.length]
    have el2:its2.length=ts.length:=by rw[<- ri2.length,p2.length]
    have key:=SeqAt.RcAt.lists (A:=A) (s:=s) (e:=fun _=>true) ti.isList ti2.isList (by rw[dG,dG,el1,el2]) Zo (fun j h1 h2=>by
     rw[dG]at h1 h2;obtain⟨h1',q1⟩:=Paired.get' (j:=j) ri h1
     obtain⟨h2',q2⟩:=Paired.get' (j:=j) ri2 h2
     obtain⟨h3,q3⟩:=Paired.get' (j:=j) p1 h1'
     obtain⟨h4,q4⟩:=Paired.get' (j:=j) p2 h2'
     simpa using ih q3 q4 q1 q2 (by rw[Lg];omega))
    rw[jA]at key;exact SeqAt.EqAt.of_refs hab key
end
section
variable {X:Cx}
def Rl (neg:Bool):R2:=fun x y H Q=>∃n t,n<=50/\Rep H n t x/\Rep H n t y/\Q (.bl (!neg)) H
theorem yZ (neg:Bool) {pins:List (Addr × Obj)} {s:Shared} {σ:St} {H:Hp} {x y:V} {v u:Value} {Q:VK} {op:CmpOp} (hop:op=if neg then .NotEq else .Eq) (hu:X.A.units+64<cLine) (I:Inv X pins σ H s) (rx:RelV x v) (ry:RelV y u) (h:Rl neg x y H Q) :
  wpAny (model X.prog X.w) X.A (compareOp op v u) (EP X pins σ Q) X.xe s:=by
 obtain⟨n,t,hn,h1,h2,q⟩:=h
 have sc:∀z,t=.sc z->wpAny (model X.prog X.w) X.A (compareOp op v u) (EP X pins σ Q) X.xe s:=by
  rintro z rfl
  have e1:x=z/\kM z=true:=by cases n <;> exact h1
  have e2:y=z/\kM z=true:=by cases n <;> exact h2
  obtain⟨rfl,hx⟩:=e1
  obtain⟨rfl,_⟩:=e2
  have hs:L2.scal y y=true:=by cases y <;> first | rfl | cases hx
  cases neg with
  | true=>
   subst hop;exact Nh pins s σ H y y v u Q I rx ry ⟨hs,by simpa using q⟩
  | false=>
   subst hop;exact Ng pins s σ H y y v u Q I rx ry ⟨hs,by simpa using q⟩
 cases n with
 | zero=>
  cases t with
  | sc z=>exact sc z rfl
  | _=>exact h1.elim
 | succ n=>
  cases t with
  | sc z=>exact sc z rfl
  | tp ts=>
   obtain⟨a,xs,rfl,g1,p1⟩:=h1
   obtain⟨b,ys,rfl,g2,p2⟩:=h2
   cases rx
   cases ry
   obtain⟨its,ri,ti,_⟩:=I.tuple (SqT.of g1)
   obtain⟨its2,ri2,ti2,_⟩:=I.tuple (SqT.of g2)
   have el1:its.length=ts.length:=by rw[<- ri.length,p1.length]
   have el2:its2.length=ts.length:=by rw[<- ri2.length,p2.length]
   have each:∀j (h1:j<its.toArray.size) (h2:j<its2.toArray.size),SeqAt.EqAt X.A.in1 s its.toArray[j] its2.toArray[j] true:=fun j h1 h2=>by
    rw[dG]at h1 h2;obtain⟨h1',q1⟩:=Paired.get' (j:=j) ri h1
    obtain⟨h2',q2⟩:=Paired.get' (j:=j) ri2 h2
    obtain⟨h3,q3⟩:=Paired.get' (j:=j) p1 h1'
    obtain⟨h4,q4⟩:=Paired.get' (j:=j) p2 h2'
    simpa using Et I n q3 q4 q1 q2 (by rw[Lg];omega)
   have e:((List.range (min its.toArray.size its2.toArray.size)).all (fun _=>true)&&its.toArray.size == its2.toArray.size)=true:=by
    rw[jA,dG,dG,el1,el2,beq_self_eq_true];rfl
   cases neg with
   | true=>
    subst hop;have key:=SeqAt.RcNeAt.tuples (A:=X.A) (s:=s) (e:=fun _=>true) ti ti2 Zo each
    rw[e]at key;exact key _ _ _ _ ⟨.bl false,H,I,rfl,q⟩
   | false=>
    subst hop;have key:=SeqAt.RcAt.tuples (A:=X.A) (s:=s) (e:=fun _=>true) ti ti2 Zo each
    rw[e]at key;exact key _ _ _ _ ⟨.bl true,H,I,rfl,q⟩
  | ls ts=>
   obtain⟨a,xs,rfl,g1,p1⟩:=h1
   obtain⟨b,ys,rfl,g2,p2⟩:=h2
   cases rx
   cases ry
   obtain⟨its,ri,ti,_⟩:=I.list (SqL.of g1)
   obtain⟨its2,ri2,ti2,_⟩:=I.list (SqL.of g2)
   have el1:its.length=ts.length:=by rw[<- ri.length,p1.length]
   have el2:its2.length=ts.length:=by rw[<- ri2.length,p2.length]
   have each:∀j (h1:j<its.toArray.size) (h2:j<its2.toArray.size),SeqAt.EqAt X.A.in1 s its.toArray[j] its2.toArray[j] true:=fun j h1 h2=>by
    rw[dG]at h1 h2;obtain⟨h1',q1⟩:=Paired.get' (j:=j) ri h1
    obtain⟨h2',q2⟩:=Paired.get' (j:=j) ri2 h2
    obtain⟨h3,q3⟩:=Paired.get' (j:=j) p1 h1'
    obtain⟨h4,q4⟩:=Paired.get' (j:=j) p2 h2'
    simpa using Et I n q3 q4 q1 q2 (by rw[Lg];omega)
   cases neg with
   | true=>
    subst hop;have key:=SeqAt.RcNeAt.lists (A:=X.A) (s:=s) (e:=fun _=>true) ti.isList ti2.isList (by rw[dG,dG,el1,el2]) Zo each
    rw[jA]at key;exact key _ _ _ _ ⟨.bl false,H,I,rfl,q⟩
   | false=>
    subst hop;have key:=SeqAt.RcAt.lists (A:=X.A) (s:=s) (e:=fun _=>true) ti.isList ti2.isList (by rw[dG,dG,el1,el2]) Zo each
    rw[jA]at key;exact key _ _ _ _ ⟨.bl true,H,I,rfl,q⟩
theorem R.dy (hu:X.A.units+64<cLine):iR X (compareOp .Eq) (Rl false):=⟨fun pins s σ H x y v u Q I rx ry h=>yZ false rfl hu I rx ry h⟩
theorem R.fu (hu:X.A.units+64<cLine):iR X (compareOp .NotEq) (Rl true):=⟨fun pins s σ H x y v u Q I rx ry h=>yZ true rfl hu I rx ry h⟩
theorem R.gm {st:Stmt}:XS X st (fun _ _ _=>False):=⟨fun pins s σ H D I h=>h.elim⟩
end
end L2
namespace L2
open PySem PySem.Spec PyProof.Rows
theorem Rm (a b:Str):ltCps b.cps.toList a.cps.toList=false↔a.cps.toList<=b.cps.toList:=by
 rw[ltCps_eq,decide_eq_false_iff_not];exact Iff.rfl
theorem Eu {a b:Str} (h:a.cps.toList=b.cps.toList):a=b:=by rw[lG a,lG b,h]
theorem gN:∀(l:List Str) (p:Str),risingS p l=true->(p::l).Pairwise (fun a b=>a.cps.toList<=b.cps.toList)
 | [],p,_=>List.pairwise_singleton _ _
 | x::r,p,h=>by
  unfold risingS at h;rw[Bool.and_eq_true]at h;obtain⟨h1,h2⟩:=h
  have ih:=gN r x h2
  have hpx:p.cps.toList<=x.cps.toList:=(Rm p x).mp (by simpa using h1)
  refine List.pairwise_cons.mpr ⟨fun y hy=>?_,ih⟩
  rcases List.mem_cons.mp hy with rfl | hy
  ·exact hpx
  ·exact List.le_trans hpx ((List.pairwise_cons.mp ih).1 y hy)
theorem mN:∀(l:List Str),sortedS l=true->l.Pairwise (fun a b=>a.cps.toList<=b.cps.toList)
 | [],_=>List.Pairwise.nil
 | x::r,h=>gN r x h
theorem nK:∀(l m:List Str),l.Perm m->l.Pairwise (fun a b=>a.cps.toList<=b.cps.toList)->m.Pairwise (fun a b=>a.cps.toList<=b.cps.toList)->l=m
 | [],m,hp,_,_=>(List.nil_perm.mp hp).symm
 | a::l,[],hp,_,_=>(List.perm_nil.mp hp)
 | a::l,b::m,hp,h1,h2=>by
  obtain⟨p1,p2⟩:=List.pairwise_cons.mp h1
  obtain⟨q1,q2⟩:=List.pairwise_cons.mp h2
  have e:a=b:=by
   have ma:a∈b::m:=hp.mem_iff.mp iM
   have mb:b∈a::l:=hp.mem_iff.mpr iM
   rcases List.mem_cons.mp ma with h | h
   ·exact h
   ·rcases List.mem_cons.mp mb with h' | h'
    ·exact h'.symm
    ·exact Eu (List.le_antisymm (p1 b h') (q1 a h))
  subst e;rw[nK l m (List.Perm.cons_inv hp) p2 q2]
def gZ (ss:List Str):List Str:=ss.mergeSort (fun a b=>decide (a.cps.toList<=b.cps.toList))
theorem eQ (ss:List Str):(gZ ss).Perm ss:=List.mergeSort_perm _ _
theorem kN (ss:List Str):(gZ ss).Pairwise (fun a b=>a.cps.toList<=b.cps.toList):=by
 have:=List.pairwise_mergeSort (le:=fun(a b:Str)=>decide (a.cps.toList<=b.cps.toList)) (fun a b c h1 h2=>decide_eq_true (List.le_trans (of_decide_eq_true h1) (of_decide_eq_true h2))) (fun a b=>by
  rcases List.le_total a.cps.toList b.cps.toList with h | h
  ·simp [h]
  ·simp [h]) ss
 exact this.imp fun h=>of_decide_eq_true h
theorem Ev {ss ss':List Str} (hp:ss'.Perm ss) (hs:sortedS ss'=true):ss'=gZ ss:=
 nK _ _ (hp.trans (eQ ss).symm) (mN _ hs) (kN ss)
theorem hJ (ss:List Str):(gZ ss).length=ss.length:=(eQ ss).length_eq
section
variable {prog:Program} {w:World} {A:Around} {E:Value->Shared->Prop} {s:Shared}
theorem pE {l:Addr} {T:String} {o:Obj} {vs:List Value} {ss:List Str} {n:Nat} {Q:Value->Shared->Prop} (hT:T="list"∨T="tuple") (ho:s.heap.get? l=some o) (hc:o.cls=.type T) (hd:o.data=.seq vs.toArray n) (hS:StrsAre vs ss) (h64:vs.length<64)
  (h:∀(h1 h':Heap) (out:Array Value) (e:Nat),(∀b ob,s.heap.get? b=some ob->h1.get? b=some ob)->(∀b ob,h1.get? b=some ob->h'.get? b=some ob)->h'.get? h1.objs.size=some (seqObj "list" out e)->StrsAre out.toList (gZ ss)->Q (.ref h1.objs.size) {s with heap:=h' }) :
  wpAny (model prog w) A (call (.builtin "sorted") [.ref l]) Q E s:=by
 apply Calls.call_function_entry kind_sorted plain_sorted entry_sorted (args_sorted1 _)
 unfold Builtin.«sorted»
 apply wpAny_bind (m:=checkCount "sorted" 1 1 _)
 apply wpAny_pure
 apply wpAny_bind
 refine wpAny_collect_seq l hT ho hc hd (fun h1 k1=>?_) (by rw[dG];exact eK (Nat.le_of_lt h64) Zd)
 have e1:vs.toArray.toList=vs:=by simp
 rw[e1];apply wpAny_bind
 apply wpAny_newList
 ·have g2:(h1.push (seqObj "list" vs.toArray 0)).get? h1.objs.size=some (seqObj "list" vs.toArray 0):=Heap.get?_push_size _ rfl
  apply wpAny_bind
  apply wpAny_holding
  refine wpAny_call_entry slot_list_sort ⟨_,g2,rfl⟩ entry_list_sort (list_sort_treeK strKind_oneLt g2 hS.keysOf (fun v₁ v₂ rest e=>keyKind_strs (by rw[<- e];exact hS)) h64 fun st' hp hs=>⟨_,rfl,wpAny_pure ⟨_,rfl,?_⟩⟩) (args_list_sort _)
  obtain⟨ss',q1,q2,q3⟩:=sorted_out_str hS hp hs
  obtain⟨e,he⟩:=sortedHeap_at (out:=(arrOf st').map (·.2)) g2
  refine h h1 _ _ e k1 (fun b ob hb1=>?_) he (Ev q2 q3 ▸ q1)
  have hlt:=Heap.lt_size hb1
  rw[sortedHeap_old (Nat.ne_of_lt hlt) (by rw[size_push'];exact Nat.lt_succ_of_lt hlt)]
  exact dH _ hb1
 ·exact eK (Nat.le_of_lt h64) Zd
end
theorem mO:∀ {vs:List Value} {ss:List Str},StrsAre vs ss->Vals (ss.map V.str) vs
 | _,_,.nil=>.nil
 | _,_,.cons x t h=>.cons ⟨t,rfl⟩ (mO h)
section
variable {X:Cx}
def tJ (K:W.Frag):List V->Hp->VK->Prop:=fun vs H Q=>match vs with
 | [.ref a]=>∃ss:List Str,(SqL K H a (ss.map V.str)∨SqT K H a (ss.map V.str))/\ss.length<64/\∀l,H l=none->Q (.ref l) (aI H l (.lst ((gZ ss).map V.str)))
 | _=>False
theorem Ew:CallR X (.builtin "sorted") (tJ X.K):=by
 intro pins s σ H xs us Q I r h;unfold tJ at h;split at h
 ·rename_i a
  obtain⟨ss,hq,h64,q⟩:=h
  obtain⟨u,rfl,ru⟩:=gJ r
  cases ru
  have fin:∀(h1 h':Heap) (out:Array Value) (e:Nat),(∀c ob,s.heap.get? c=some ob->h1.get? c=some ob)->(∀c ob,h1.get? c=some ob->h'.get? c=some ob)->h'.get? h1.objs.size=some (seqObj "list" out e)->StrsAre out.toList (gZ ss)->EP X pins σ Q (.ref h1.objs.size) {s with heap:=h' }:=fun h1 h' out e k1 k he hS=>by
   have I1:=I.kept (t':=s.toks) k1
   refine⟨.ref h1.objs.size,_,I1.laid (t':=s.toks) (o:=.lst ((gZ ss).map V.str)) k (aV _) ?_,rfl,q _ (I1.hok.fresh (aV _))⟩
   refine⟨?_,out.toList,e,mO hS,he⟩
   rw[aQ,hJ];exact eK (Nat.le_of_lt h64) Zd
  rcases hq with hq | hq
  ·obtain⟨its,r1,p1,_⟩:=I.list hq
   obtain⟨o,ho,hc,n,hd⟩:=p1.isList
   have hl:=r1.length
   rw[aQ]at hl;exact pE (.inl rfl) ho hc hd (kK r1) Zo fin
  ·obtain⟨its,r1,p1,_⟩:=I.tuple hq
   obtain⟨o,ho,hc,n,hd⟩:=p1
   have hl:=r1.length
   rw[aQ]at hl;exact pE (.inr rfl) ho hc hd (kK r1) Zo fin
 ·exact h.elim
theorem R.gs {K:W.Frag} (hK:X.K=K:=by rfl):XC X (.builtin "sorted") (tJ K):=hK ▸ ⟨Ew⟩
end
end L2
namespace L2
open PySem PySem.Spec PyProof.Rows
def TK (H H':Hp):Prop:=∀a xs,H a=some (.tup xs)->H' a=some (.tup xs)
theorem TK.refl {H:Hp}:TK H H:=fun _ _ h=>h
theorem TK.trans {H H1 H2:Hp} (a:TK H H1) (b:TK H1 H2):TK H H2:=fun p xs h=>b p xs (a p xs h)
theorem Same.tk {H H':Hp} (s:Same H H'):TK H H':=fun a xs h=>s _ _ h
theorem Kp.tk {H H':Hp} {d b:Addr} (D:Dk H d b) (k:Kp d b H H'):TK H H':=fun a xs h=>k _ _ h (D.tup_ne h).1 (D.tup_ne h).2
theorem dL {H:Hp} {l:Addr} {xs ys:List V} (g:H l=some (.lst xs)):TK H (aI H l (.lst ys)):=fun a zs h=>by
 have:a≠l:=fun e=>by rw[e,g]at h;cases h
 rw[aE this];exact h
def RepT (H:Hp):Nat->TV->V->Prop
 | 0,.sc v,x=>x=v/\kM v=true
 | _+1,.sc v,x=>x=v/\kM v=true
 | n+1,.tp ts,x=>∃a xs,x=.ref a/\H a=some (.tup xs)/\Paired (RepT H n) ts xs
 | _,_,_=>False
theorem RepT.tk {H H':Hp} (s:TK H H'):∀ {n:Nat} {t:TV} {x:V},RepT H n t x->RepT H' n t x
 | 0,.sc v,x,h=>h
 | n+1,.sc v,x,h=>h
 | n+1,.tp ts,x,⟨a,xs,e,g,p⟩=>⟨a,xs,e,s _ _ g,Paired.map' (fun _ _=>RepT.tk s) p⟩
section
variable {X:Cx} {es:List Expr} {t:TA} {pos:Pos}
def Ex (t:TA):TE:=fun σ H Q=>t σ H fun xs H1=>xs.length<=1000/\∀p H',Same H1 H'->H' p=some (.tup xs)->Q (.ref p) H'
theorem Lk {x1} (h:PA X es t):PE X (.Tuple es x1 pos) (Ex t):=by
 intro pins s σ H Q I hq;refine wpAny_Tuple_spliced (bT (h pos pins s σ H _ I hq) fun us s1 ⟨xs,H1,I1,r,z,q⟩=>⟨by rw[<- r.length];exact dJ z,?_⟩)
 have hf:H1 s1.heap.objs.size=none:=I1.hok.fresh (aV _)
 refine⟨.ref s1.heap.objs.size,aI H1 s1.heap.objs.size (.tup xs),I1.laid (t':=s1.toks) (fun b u e=>dH _ e) (aV _) ?_,rfl,q _ _ (aD hf) aA⟩
 exact⟨dJ z,us,r,⟨_,Heap.get?_push_size _ rfl,rfl,_,rfl⟩⟩
theorem R.ai {x1} (h:XA X es t):XE X (.Tuple es x1 pos) (Ex t):=⟨Lk h.h⟩
end
end L2
namespace L2
open PySem PySem.Spec PyProof.Rows
section
def Ask (lt:Nat->Nat->Bool) (n:Nat) {α:Type}:W.KasT α->(α->Prop)->Prop
 | .ret a,Q=>Q a
 | .ask i j k,Q=>i<n/\j<n/\Ask lt n (k (lt i j)) Q
theorem Ask.bind {lt:Nat->Nat->Bool} {n:Nat} {α β:Type} {f:α->W.KasT β} {Q:β->Prop}:∀(t:W.KasT α),Ask lt n t (fun a=>Ask lt n (f a) Q)->Ask lt n (t.bind f) Q
 | .ret _,h=>h
 | .ask i j k,h=>⟨h.1,h.2.1,Ask.bind (k (lt i j)) h.2.2⟩
theorem Ask.wp {lt:Nat->Nat->Bool} {n:Nat} {α:Type} {cmp:Nat->Nat->(Bool->Shared->Prop)->Shared->Prop} {s:Shared} {G:α->Shared->Prop} (hc:∀i j C,i<n->j<n->C (lt i j) s->cmp i j C s) :
  ∀(t:W.KasT α),Ask lt n t (fun a=>G a s)->t.kasWp cmp G s
 | .ret _,h=>h
 | .ask i j k,h=>hc i j _ h.1 h.2.1 (Ask.wp hc (k (lt i j)) h.2.2)
variable {O:KeyOrd} {key:Nat->O.α} {n:Nat}
abbrev kg (key:Nat->O.α) (p:Array Nat) (i:Nat):O.α:=key (p.getD i 0)
abbrev lH (key:Nat->O.α) (i j:Nat):Bool:=O.blt (key i) (key j)
def Prm (n:Nat) (p:Array Nat):Prop:=p.Perm (List.range n).toArray
theorem Prm.size {p:Array Nat} (h:Prm n p):p.size=n:=by
 have:=h.size_eq
 simpa using this
theorem Prm.lt {p:Array Nat} (h:Prm n p) {i:Nat} (hi:i<n):p.getD i 0<n:=by
 have hs:i<p.size:=by rw[h.size];exact hi
 have e:p.getD i 0=p[i]:=by simp [Array.getD,hs]
 rw[e];have hm:p[i]∈(List.range n).toArray.toList:=(Array.perm_iff_toList_perm.mp h).mem_iff.mp Zs
 simpa using hm
theorem gd {p q:Array Nat} {i j:Nat} (h:p[i]?=q[j]?):p.getD i 0=q.getD j 0:=by
 rw[Array.getD_eq_getD_getElem?,Array.getD_eq_getD_getElem?,h]
theorem xF {p:Array Nat} {i j:Nat} (hj:j<=p.size) (k:Nat):kg key (W.kas_rev p i j) k=if i<=k/\k<j then kg key p (i+j - 1 - k) else kg key p k:=by
 have e:=getElem?_mirror_all (xs:=p) (i:=i) hj k
 unfold kg W.kas_rev;by_cases h1:i<=k/\k<j
 ·rw[if_pos h1]at e ⊢;rw[gd e]
 ·rw[if_neg h1]at e ⊢;rw[gd e]
theorem tK {p:Array Nat} {i j:Nat} (hj:j<=p.size) (heq:∀k,i<=k->k<j->kg key p k=kg key p (j - 1)) (k:Nat):kg key (W.kas_rev p i j) k=kg key p k:=by
 rw[xF hj];split
 ·rename_i h
  rw[heq (i+j - 1 - k) Zo Zo,heq k h.1 h.2]
 ·rfl
theorem Ey {p:Array Nat} {a d:Nat} (hs:a<p.size) (hd:d<=a) (k:Nat):kg key (bubble p a d) k=if k=a - d then kg key p a else if a - d<k/\k<=a then kg key p (k - 1) else kg key p k:=by
 have e:=getElem?_bubble (xs:=p) hs d hd k
 unfold kg;by_cases h1:k=a - d
 ·rw[if_pos h1]at e ⊢;rw[gd e]
 ·rw[if_neg h1]at e ⊢;by_cases h2:a - d<k/\k<=a
  ·rw[if_pos h2]at e ⊢;rw[gd e]
  ·rw[if_neg h2]at e ⊢;rw[gd e]
theorem Prm.rev {p:Array Nat} (h:Prm n p) (i j:Nat):Prm n (W.kas_rev p i j):=(mirror_perm _ _ _ _).trans h
theorem Prm.bub {p:Array Nat} (h:Prm n p) (i j:Nat):Prm n (bubble p i j):=(bubble_perm _ _ _).trans h
def Up (key:Nat->O.α) (p:Array Nat) (m:Nat):Prop:=∀i j,i<=j->j<m->O.kle (kg key p i) (kg key p j)
def Dn (key:Nat->O.α) (p:Array Nat) (m:Nat):Prop:=∀i j,i<=j->j<m->O.kle (kg key p j) (kg key p i)
theorem Up.one {p:Array Nat}:Up key p 1:=fun i j h1 h2=>by
 have e:i=j:=by omega
 subst e;exact KeyOrd.kle_refl _
theorem Up.more {p:Array Nat} {m:Nat} (h:Up key p m) (hm:1<=m) (hs:O.kle (kg key p (m - 1)) (kg key p m)):Up key p (m+1):=fun i j h1 h2=>by
 by_cases hj:j<m
 ·exact h i j h1 hj
 ·obtain rfl:j=m:=by omega
  by_cases hi:i=j
  ·subst hi;exact KeyOrd.kle_refl _
  ·exact KeyOrd.kle_trans (h i (j - 1) Zo Zo) hs
theorem Dn.more {p:Array Nat} {m:Nat} (h:Dn key p m) (hm:1<=m) (hs:O.kle (kg key p m) (kg key p (m - 1))):Dn key p (m+1):=fun i j h1 h2=>by
 by_cases hj:j<m
 ·exact h i j h1 hj
 ·obtain rfl:j=m:=by omega
  by_cases hi:i=j
  ·subst hi;exact KeyOrd.kle_refl _
  ·exact KeyOrd.kle_trans hs (h i (j - 1) Zo Zo)
theorem tL {p:Array Nat} (hp:Prm n p) {Q:Nat->Prop}:∀(f a:Nat),1<=a->a+f<=n->Up key p a →
  (∀m,a<=m->m<=a+f->Up key p m->(m=a+f∨O.klt (kg key p m) (kg key p (m - 1)))->Q m)->Ask (lH key) n (W.kas_asc p f a) Q
 | 0,a,_,_,hu,h=>h a (aV _) (aV _) hu (.inl rfl)
 | f+1,a,h1,hn,hu,h=>by
  refine⟨hp.lt Zo,hp.lt Zo,?_⟩
  show Ask (lH key) n (if O.blt (kg key p a) (kg key p (a - 1))=true then _ else _) Q
  cases hb:O.blt (kg key p a) (kg key p (a - 1)) with
  | true=>exact h a (aV _) Zo hu (.inr hb)
  | false=>
   refine tL hp f (a+1) Zo Zo (hu.more h1 hb) fun m m1 m2 m3 m4=>h m Zo Zo m3 (m4.imp (fun e=>by omega) id)
theorem lI {Q:Array Nat × Nat × Nat->Prop}:∀(f:Nat) (p:Array Nat) (a q:Nat),Prm n p->1<=a->a+f<=n->Dn key p a->q+1<=a->(∀i,a - (q+1)<=i->i<a->kg key p i=kg key p (a - 1)) →
  (∀p' m q',Prm n p'->1<=m->m<=a+f->Dn key p' m->q'+1<=m->(∀i,m - (q'+1)<=i->i<m->kg key p' i=kg key p' (m - 1))->Q (p',m,q'))->Ask (lH key) n (W.kas_desc f p a q) Q
 | 0,p,a,q,hp,h1,_,hd,hq,he,h=>h p a q hp h1 (aV _) hd hq he
 | f+1,p,a,q,hp,h1,hn,hd,hq,he,h=>by
  have hsz:a<=p.size:=by rw[hp.size];omega
  have one:∀p':Array Nat,∀i,a+1 - (0+1)<=i->i<a+1->kg key p' i=kg key p' (a+1 - 1):=fun p' i x y=>by
   have e:i=a+1 - 1:=by omega
   rw[e]
  refine⟨hp.lt Zo,hp.lt Zo,?_⟩
  show Ask (lH key) n (if O.blt (kg key p a) (kg key p (a - 1))=true then _ else _) Q
  cases hb:O.blt (kg key p a) (kg key p (a - 1)) with
  | true=>
   rw[if_pos rfl];have hd':=hd.more h1 (KeyOrd.kle_of_klt hb)
   by_cases q0:q > 0
   ·rw[if_pos q0];have hs:=tK (key:=key) hsz he
    refine lI f _ (a+1) 0 (hp.rev _ _) Zo Zo (fun i j x y=>by rw[hs,hs];exact hd' i j x y) Zo (one _) fun p' m q' x1 x2 x3=>h p' m q' x1 x2 Zo
   ·rw[if_neg q0];exact lI f _ (a+1) 0 hp Zo Zo hd' Zo (one _) fun p' m q' x1 x2 x3=>h p' m q' x1 x2 Zo
  | false=>
   rw[if_neg Zd]
   refine⟨hp.lt Zo,hp.lt Zo,?_⟩
   show Ask (lH key) n (if O.blt (kg key p (a - 1)) (kg key p a)=true then _ else _) Q
   cases hc:O.blt (kg key p (a - 1)) (kg key p a) with
   | true=>exact h p a q hp h1 Zo hd hq he
   | false=>
    rw[if_neg Zd]
    have hx:kg key p a=kg key p (a - 1):=KeyOrd.kle_antisymm hc hb
    refine lI f p (a+1) (q+1) hp Zo Zo (hd.more h1 hc) Zo (fun i x y=>?_) fun p' m q' x1 x2 x3=>h p' m q' x1 x2 Zo
    rw[show a+1 - 1=a from rfl];by_cases hi:i=a
    ·rw[hi]
    ·rw[hx];exact he i Zo Zo
theorem rJ {p:Array Nat} {a r:Nat} {Q:Nat × Array Nat->Prop} (hp:Prm n p) (h1:1<=a) (hr:a<=r) (hn:r<=n) (hd:Dn key p a) (h:∀m p',Prm n p'->1<=m->m<=r->Up key p' m->Q (m,p')) :
  Ask (lH key) n (W.kas_tail3 a r p) Q:=by
 have hsz:a<=p.size:=by rw[hp.size];omega
 refine Ask.bind _ (tL (hp.rev 0 a) (r - a) a h1 Zo (fun i j x y=>?_) fun m m1 m2 m3 _=>h m _ (hp.rev 0 a) Zo Zo m3)
 rw[xF hsz,xF hsz,if_pos Zo,if_pos Zo]
 exact hd _ _ Zo Zo
theorem lJ {p:Array Nat} {a r:Nat} {Q:Nat × Array Nat->Prop} (hp:Prm n p) (ha:a+1<=r) (hn:r<=n) (hd:Dn key p (a+1)) (h:∀m p',Prm n p'->1<=m->m<=r->Up key p' m->Q (m,p')) :
  Ask (lH key) n (W.kas_descPart a r p) Q:=by
 refine Ask.bind _ (lI (r - (a+1)) p (a+1) 0 hp Zo Zo hd Zo (fun i x y=>by rw[show i=a+1 - 1 by omega]) fun p' m q x1 x2 x3 x4 x5 x6=>?_)
 have hsz:m<=p'.size:=by rw[x1.size];omega
 dsimp only;by_cases q0:q > 0
 ·rw[if_pos q0];have hs:=tK (key:=key) hsz x6
  exact rJ (x1.rev _ _) x2 Zo hn (fun i j x y=>by rw[hs,hs];exact x4 i j x y) h
 ·rw[if_neg q0];exact rJ x1 x2 Zo hn x4 h
theorem Bf {p:Array Nat} {r:Nat} {Q:Nat × Array Nat->Prop} (hp:Prm n p) (h1:1<=r) (hn:r<=n) (h:∀m p',Prm n p'->1<=m->m<=r->Up key p' m->Q (m,p')) :
  Ask (lH key) n (W.kas_count r p) Q:=by
 refine Ask.bind _ (tL hp (r - 1) 1 (aV _) Zo Up.one fun a a1 a2 hu ho=>?_)
 by_cases e:a=r
 ·rw[if_pos (by simpa using e)]
  exact h a p hp a1 Zo hu
 ·rw[if_neg (by simpa using e)]
  have hlt:O.klt (kg key p a) (kg key p (a - 1)):=ho.resolve_left Zo
  by_cases g:a > 1
  ·rw[if_pos g];refine⟨hp.lt Zo,hp.lt Zo,?_⟩
   show Ask (lH key) n (if O.blt (kg key p 0) (kg key p (a - 1))=true then _ else _) Q
   cases hb:O.blt (kg key p 0) (kg key p (a - 1)) with
   | true=>exact h a p hp a1 Zo hu
   | false=>
    rw[if_neg Zd]
    have hsz:a<=p.size:=by rw[hp.size];omega
    have hall:∀k,0<=k->k<a->kg key p k=kg key p (a - 1):=fun k _ hk=>KeyOrd.kle_antisymm (hu k (a - 1) Zo Zo) (KeyOrd.kle_trans hb (hu 0 k Zo hk))
    have hs:=tK (key:=key) hsz hall
    refine lJ (hp.rev _ _) Zo hn (fun i j x y=>?_) h
    rw[hs,hs];by_cases hj:j<a
    ·rw[hall i Zo Zo,hall j Zo hj];exact KeyOrd.kle_refl _
    ·obtain rfl:j=a:=by omega
     by_cases hi:i=j
     ·subst hi;exact KeyOrd.kle_refl _
     ·rw[hall i Zo Zo];exact KeyOrd.kle_of_klt hlt
  ·rw[if_neg g];obtain rfl:a=1:=by omega
   refine lJ hp Zo hn (fun i j x y=>?_) h
   by_cases hi:i=j
   ·subst hi;exact KeyOrd.kle_refl _
   ·obtain rfl:i=0:=by omega
    obtain rfl:j=1:=by omega
    exact KeyOrd.kle_of_klt hlt
theorem mP {p:Array Nat} {k:Nat} {Q:Nat->Prop} (hp:Prm n p) (hk:k<n) (hu:Up key p k):∀(f l r:Nat),l<=r->r<=k->r - l<=f->(∀i,i<l->O.kle (kg key p i) (kg key p k))->(∀i,r<=i->i<k->O.klt (kg key p k) (kg key p i)) →
  (∀l,l<=k->(∀i,i<l->O.kle (kg key p i) (kg key p k))->(∀i,l<=i->i<k->O.klt (kg key p k) (kg key p i))->Q l)->Ask (lH key) n (W.kas_place p k f l r) Q
 | 0,l,r,h1,h2,h3,h4,h5,h=>by
  obtain rfl:l=r:=by omega
  exact h l h2 h4 h5
 | f+1,l,r,h1,h2,h3,h4,h5,h=>by
  unfold W.kas_place;by_cases g:l ≥ r
  ·rw[if_pos g];obtain rfl:l=r:=by omega
   exact h l h2 h4 h5
  ·rw[if_neg g];refine⟨hp.lt hk,hp.lt Zo,?_⟩
   show Ask (lH key) n (if O.blt (kg key p k) (kg key p ((l+r) / 2))=true then _ else _) Q
   cases hb:O.blt (kg key p k) (kg key p ((l+r) / 2)) with
   | true=>
    rw[if_pos rfl];exact mP hp hk hu f l _ Zo Zo Zo h4 (fun i x y=>KeyOrd.klt_of_klt_of_kle hb (hu _ _ x y)) h
   | false=>
    rw[if_neg Zd]
    exact mP hp hk hu f _ r Zo h2 Zo (fun i x=>KeyOrd.kle_trans (hu i ((l+r) / 2) Zo Zo) hb) h5 h
theorem zA {Q:Array Nat->Prop}:∀(f:Nat) (p:Array Nat) (k:Nat),Prm n p->k+f=n->Up key p k->(∀p',Prm n p'->Up key p' n->Q p')->Ask (lH key) n (W.kas_bin f p k) Q
 | 0,p,k,hp,e,hu,h=>h p hp (by
  obtain rfl:k=n:=by omega
  exact hu)
 | f+1,p,k,hp,e,hu,h=>by
  refine Ask.bind _ (mP hp Zo hu k 0 k Zo Zo Zo (fun i x=>by omega) (fun i x y=>by omega) fun l hl lo hi=>?_)
  have hks:k<p.size:=by rw[hp.size];omega
  refine zA f _ (k+1) (hp.bub _ _) Zo (fun i j x y=>?_) h
  rw[Ey hks Zo,Ey hks Zo,show k - (k - l)=l by omega]
  by_cases i1:i=l
  ·rw[if_pos i1];by_cases j1:j=l
   ·rw[if_pos j1];exact KeyOrd.kle_refl _
   ·rw[if_neg j1,if_pos Zo]
    exact KeyOrd.kle_of_klt (hi _ Zo Zo)
  ·rw[if_neg i1];by_cases j1:j=l
   ·rw[if_pos j1,if_neg Zo]
    exact lo _ Zo
   ·rw[if_neg j1];by_cases i2:l<i/\i<=k
    ·rw[if_pos i2,if_pos Zo]
     exact hu _ _ Zo Zo
    ·rw[if_neg i2];by_cases j2:l<j/\j<=k
     ·rw[if_pos j2];exact hu _ _ Zo Zo
     ·rw[if_neg j2];exact hu _ _ x Zo
theorem Ez {Q:Array Nat->Prop} (h1:1<=n) (h:∀p,Prm n p->Up key p n->Q p):Ask (lH key) n (W.kas_sort n) Q:=by
 refine Ask.bind _ (Bf (p:=(List.range n).toArray) (Array.Perm.refl _) h1 (aV _) fun m p hp m1 m2 hu=>?_)
 dsimp only;by_cases hm:m<n
 ·rw[if_pos hm];rw[show max m 1=m by omega]
  exact zA _ p m hp Zo hu h
 ·rw[if_neg hm];obtain rfl:m=n:=by omega
  exact h p hp hu
end
end L2
namespace L2
open PySem PySem.Spec PyProof.Rows
abbrev Z:=Addr × Str × Int
def Yf (x y:Z):Prop:=x.2.1.cps.toList<=y.2.1.cps.toList
def ZAt (H:Hp) (zs:List Z):Prop:=∀z∈zs,H z.1=some (.tup [.str z.2.1,.int z.2.2])
theorem ZAt.same {H H':Hp} {zs:List Z} (h:ZAt H zs) (s:Same H H'):ZAt H' zs:=fun z hz=>s _ _ (h z hz)
def dS (zs:List Z):List V:=zs.map fun z=>V.ref z.1
section
variable {X:Cx} {pins:List (Addr × Obj)} {σ:St} {H:Hp} {s:Shared}
theorem jP:∀ {xs:List V} {vs:List Value} (i:Nat),Vals xs vs->i<xs.length->∀x,xs[i]?=some x->RelV x (vs.getD i Value.none)
 | x::xs,v::vs,0,.cons r rs,_,y,hy=>by
  cases hy
  exact r
 | x::xs,v::vs,i+1,.cons r rs,hi,y,hy=>by
  have:=jP i rs (by simpa using hi) y (by simpa using hy)
  simpa using this
theorem uT {α:Type} {f:α->V} {g:α->Value}:∀ {l:List α},(∀a∈l,RelV (f a) (g a))->Vals (l.map f) (l.map g)
 | [],_=>.nil
 | a::l,h=>.cons (h a iM) (uT fun b hb=>h b (kD _ hb))
def Vc (K:W.Frag):List V->Hp->VK->Prop:=fun vs H Q=>match vs with
 | [.ref a]=>∃zs:List Z,SqL K H a (dS zs)/\ZAt H zs/\(zs.map (·.2.1)).Nodup/\zs.length<64/\∀l zs',H l=none->zs'.Perm zs->zs'.Pairwise Yf->Q (.ref l) (aI H l (.lst (dS zs')))
 | _=>False
end
theorem pF:∀ {ks:List Str} {vs:List Value},vs.length=ks.length->(∀(i:Nat) (v:Value),vs[i]?=some v->∃x t,ks[i]?=some x/\v=Value.str x t)->StrsAre vs ks
 | [],[],_,_=>.nil
 | k::ks,v::vs,hl,h=>by
  obtain⟨x,t,e1,rfl⟩:=h 0 v rfl
  cases e1
  exact .cons k t (pF (by simpa using hl) fun i v hv=>by simpa using h (i+1) v (by simpa using hv))
section
variable {prog:Program} {w:World} {A:Around} {E:Value->Shared->Prop} {s:Shared}
theorem uU {d:Addr} {ss:List Str} {kvs:List (aW × Value)} {Q:Value->Shared->Prop} (hh:A.handled=none) (lo:(d == sysModules)=false) (hd:s.heap.DictOf (bA prog w) d kvs) (hk:kvs.map (·.1)=ss.map Sum.inr) (h64:ss.length<64)
  (h:∀(h1 h':Heap) (tk:Nat) (out:Array Value) (e:Nat),(∀b ob,s.heap.get? b=some ob->h1.get? b=some ob)->(∀b ob,h1.get? b=some ob->h'.get? b=some ob)->h'.get? h1.objs.size=some (seqObj "list" out e)->StrsAre out.toList (gZ ss)->Q (.ref h1.objs.size) {s with heap:=h',toks:=tk }) :
  wpAny (model prog w) A (call (.builtin "sorted") [.ref d]) Q E s:=by
 have hl:kvs.length=ss.length:=by simpa using congrArg List.length hk
 obtain⟨ep,hm⟩:=hd.dictAt
 apply Calls.call_function_entry kind_sorted plain_sorted entry_sorted (args_sorted1 _)
 unfold Builtin.«sorted»
 apply wpAny_bind (m:=checkCount "sorted" 1 1 _)
 apply wpAny_pure
 apply wpAny_bind
 refine W.kdu_collect (W.kdl_dict lo) hh hm (by rw[hl];exact eK (Nat.le_of_lt h64) Zd) fun h1 tk acc k1 hacc=>?_
 have hS:StrsAre acc.toList ss:=pF (by rw[Array.length_toList,hacc.1,hl]) fun i v hv=>by
  obtain⟨k,x,e1,e2⟩:=hacc.2 i v (by simpa using hv)
  have e3:(kvs.map (·.1))[i]?=some k:=by rw[dR,e1];rfl
  rw[hk,dR]at e3;cases e4:ss[i]? with
  | none=>rw[e4]at e3;cases e3
  | some y=>
   rw[e4]at e3;cases e3
   rcases bI (show kX (Sum.inr y) v=true from e2) with⟨_,_,e,_⟩ | ⟨z,t,e,ev⟩
   ·cases e
   ·cases e
    exact⟨_,t,rfl,ev⟩
 generalize acc.toList=vs at hS;have hvl:vs.length<64:=by rw[hS.length];exact h64
 apply wpAny_bind
 apply wpAny_newList
 ·have g2:(h1.push (seqObj "list" vs.toArray 0)).get? h1.objs.size=some (seqObj "list" vs.toArray 0):=Heap.get?_push_size _ rfl
  apply wpAny_bind
  apply wpAny_holding
  refine wpAny_call_entry slot_list_sort ⟨_,g2,rfl⟩ entry_list_sort (list_sort_treeK (s:={s with heap:=h1.push (seqObj "list" vs.toArray 0),toks:=tk }) strKind_oneLt g2 hS.keysOf (fun v₁ v₂ rest e=>keyKind_strs (by rw[<- e];exact hS)) hvl fun st' hp hs=>⟨_,rfl,wpAny_pure ⟨_,rfl,?_⟩⟩) (args_list_sort _)
  obtain⟨ss',q1,q2,q3⟩:=sorted_out_str hS hp hs
  obtain⟨e,he⟩:=sortedHeap_at (out:=(arrOf st').map (·.2)) g2
  refine h h1 _ _ _ e k1 (fun b ob hb1=>?_) he (Ev q2 q3 ▸ q1)
  have hlt:=Heap.lt_size hb1
  rw[sortedHeap_old (Nat.ne_of_lt hlt) (by rw[size_push'];exact Nat.lt_succ_of_lt hlt)]
  exact dH _ hb1
 ·exact eK (Nat.le_of_lt hvl) Zd
end
section
variable {X:Cx}
def pG:List V->Hp->VK->Prop:=fun vs H Q=>match vs with
 | [.ref a]=>∃(ss:List Str) (kvs:List (aW × V)),Rd H a (.dK kvs)/\kvs.map (·.1)=ss.map Sum.inr/\ss.length<64/\∀l,H l=none->Q (.ref l) (aI H l (.lst ((gZ ss).map V.str)))
 | _=>False
theorem Bg (hcm:X.calm=true):CallR X (.builtin "sorted") pG:=by
 intro pins s σ H xs us Q I r h;unfold pG at h;split at h
 ·rename_i a
  obtain⟨ss,kvs,hq,hk,h64,q⟩:=h
  obtain⟨u,rfl,ru⟩:=gJ r
  cases ru
  obtain⟨_,hd,vs,rel,dd⟩:=lB I.hok hq
  refine uU (I.ok.hd hcm) hd dd (by rw[<- rel.keys];exact hk) h64 fun h1 h' tk out e k1 k he hS=>?_
  have I1:=I.kept (t':=s.toks) k1
  refine⟨.ref h1.objs.size,_,I1.laid (t':=tk) (o:=.lst ((gZ ss).map V.str)) k (aV _) ⟨?_,out.toList,e,mO hS,he⟩,rfl,q _ (I1.hok.fresh (aV _))⟩
  rw[aQ,hJ];exact eK (Nat.le_of_lt h64) Zd
 ·exact h.elim
theorem R.dz (hcm:X.calm=true):XC X (.builtin "sorted") pG:=⟨Bg hcm⟩
end
end L2
namespace L2
open PySem PySem.Spec PyProof.Rows
theorem tM:typeLookup (.type "list") "keys"=pure none:=am_miss_of_fast (by kernel_rfl)
theorem jQ:plainId "dict.update.loop"=true:=by decide +kernel
theorem rK:entryFor table "dict.update.loop"=some Builtin.«dict.update.loop»:=entryFor_of_tree (by kernel_rfl)
section
variable {prog:Program} {w:World} {A:Around} {E:Value->Shared->Prop} {s:Shared}
theorem Ll {a:Addr} {o:Obj} {xs:Array Value} {k:Nat} {Q:Option Value->Shared->Prop} (hx:s.heap.get? a=some o) (hc:o.cls=.type "list") (hdat:o.data=.seq xs k) (hd:o.dict=none) (hA:A.handled=none)
  (h:∀h' tk,(∀b ob,s.heap.get? b=some ob->h'.get? b=some ob)->Q none {s with heap:=h',toks:=tk }):wpAny (model prog w) A (getAttr? (.ref a) "keys") Q E s:=by
 obtain⟨c,dct,dat,sl⟩:=o
 simp only at hc hdat hd
 subst hc hdat hd;obtain⟨hp,g,d,tk,os⟩:=s
 have hT:∀tk',(⟨hp,g,d,tk',os⟩:Shared).TypeIs (.ref a) "list":=fun _=>⟨_,hx,rfl⟩
 have f1:=sub_AttributeError
 have f3:=F.slot_list_getattribute.lookup
 have f4:=F.slot_list_getattribute.bind (.ref a)
 have f5:=am_list_getattr_none
 have f6:=tM
 unfold getAttr? getAttrBy? getAttrBy
 repeat (any_goals (first | assumption | exact hT _ | ((with_reducible show wpAny _ _ (call (Value.builtin "list.__getattribute__") _ _) _ _ _);refine call_meets F.slot_list_getattribute (hT _) am_entry_list_getattribute (F.args_list_getattribute_2 _ _) (meets_getattribute_miss_list a xs k sl "keys" _ f6 Zk) ⟨hx,hA,fun h' tk' e hx'=>?_⟩) | wp_step))
 obtain⟨t',u',he⟩:=hx'.there
 show wpAny _ _ (getattributeRaised _ _ _ _ _ _ _) _ _ _
 unfold getattributeRaised;repeat (any_goals (first | assumption | wp_step))
 exact h _ _ hx'.keeps
def Nt (h:Heap) (v:Value) (q:aW × V):Prop:=∃a u x,v=Value.ref a/\IsTup h a #[u,x]/\RelV (kV q.1) u/\RelV q.2 x
theorem Fa (hh:A.handled=none) {I l d:Addr} {its:List Value} {qs:List (aW × V)} {R:Result->Shared->Prop} {res:Value} (hIl:I≠l) (hId:I≠d) (hld:l≠d) :
  ∀(k i:Nat) (s:Shared) (kvs:List (aW × V)) (vs:List (aW × Value)) (z:Int),its.length - i=k->i<=its.length->qs.length=its.length->s.heap.IsListIter I l i->s.heap.IsList l its.toArray->(∀(j:Nat) (v:Value) (q:aW × V),its[j]?=some v->qs[j]?=some q->Nt s.heap v q) →
  (∀(j:Nat) (v:Value) (a:Addr),its[j]?=some v->v=Value.ref a->a≠I/\a≠d)->s.heap.DictOf (bA prog w) d vs->KV kvs vs->kvs.length+k<=1000 →
  (∀h' tk vs',(∀b ob,b≠I->b≠d->s.heap.get? b=some ob->h'.get? b=some ob)->h'.DictOf (bA prog w) d vs'->KV (aK kvs (qs.drop i)) vs'->R (.ok (.ret res)) {s with heap:=h',toks:=tk }) →
  codeAny (model prog w) A (.builtin "dict.update.loop" ⟨[.ref d,.ref I,.int z 0,res],[]⟩) R s:=by
 intro k;induction k with
 | zero=>
  intro i s kvs vs z hk hi hql hit hl hp hne hd rel hz hR;obtain rfl:i=its.length:=by omega
  refine codeAny_builtin rK ?_
  rw[Around.under_plainId jQ _];show wpAny _ A.in1 (pyNext (.ref I) >>= _) _ _ s
  apply wpAny_bind
  refine wpAny_pyNext_list_end hh hit hl Zs fun h' eb=>?_
  show wpAny _ A.in1 (Builtin.Dict.addKeywords d [] >>= _) _ _ _
  apply wpAny_bind
  apply wpAny_pure
  apply wpAny_pure
  refine hR h' s.toks vs (fun b ob hb _ e=>eb b ob hb e) (hd.extBut eb hId.symm) ?_
  rw[<- hql,List.drop_length];exact rel
 | succ k ih=>
  intro i s kvs vs z hk hi hql hit hl hp hne hd rel hz hR;have hlt:i<its.length:=by omega
  obtain⟨v,hv⟩:∃v,its[i]?=some v:=⟨its[i],by simp [hlt]⟩
  obtain⟨q,hq⟩:∃q,qs[i]?=some q:=⟨qs[i],by simp [hql,hlt]⟩
  obtain⟨a,u,x,rfl,⟨ob,hob,hoc,n,hod⟩,ru,rx⟩:=hp i v q hv hq
  obtain⟨na,nd⟩:=hne i _ a hv rfl
  refine codeAny_builtin rK ?_
  rw[Around.under_plainId jQ _];show wpAny _ A.in1 (pyNext (.ref I) >>= _) _ _ s
  apply wpAny_bind
  refine wpAny_pyNext_list_item hit hl (x:=.ref a) (by simpa using hv) fun h' hit' sb=>?_
  have hob':h'.get? a=some ob:=(sb.2 a na).trans hob
  have hd':h'.DictOf (bA prog w) d vs:=hd.extBut sb.extBut hId.symm
  apply wpAny_bind
  apply wpAny_holding
  apply wpAny_bind
  apply wpAny_tryCatch
  unfold Builtin.Dict.pairItems;apply wpAny_bind
  refine wpAny_typeOf (T:="tuple") ⟨ob,hob',hoc⟩ ?_
  rw[if_pos Zd]
  apply wpAny_bind
  refine wpAny_seqItems hob' hod ?_
  apply wpAny_pure
  show wpAny _ _ (holding [u,x] (dictSet d u x)) _ _ _
  apply wpAny_holding
  have hvl:vs.length<=sizeLine:=by rw[<- rel.length];exact dJ Zo
  refine wpAny_dictSet_pairs (s:={s with heap:=h' }) (nJ ru) hd' (fun h2 hd2 sb2=>?_) hvl
  apply wpAny_pure
  refine⟨plainId_quiet jQ _,?_⟩
  have hl0:=cN kvs q.1 q.2
  have ex:∀b o,b≠I->b≠d->s.heap.get? b=some o->h2.get? b=some o:=fun b o b1 b2 e=>(sb2.2 b b2).trans ((sb.2 b b1).trans e)
  refine ih (i+1) _ (bR kvs q.1 q.2) (stored vs q.1 x) _ Zo Zo hql ?_ ?_ ?_ hne hd2 (rel.put q.1 rx) Zo fun h3 tk vs' k3 hd3 rel3=>?_
  ·exact hit'.at fun o e=>(sb2.2 I hId).trans e
  ·obtain⟨o,e,r⟩:=hl
   exact⟨o,ex l o hIl.symm hld e,r⟩
  ·intro j v q' hj hq';obtain⟨a',u',x',rfl,⟨o',ho',r'⟩,rr⟩:=hp j v q' hj hq'
   obtain⟨n1,n2⟩:=hne j _ a' hj rfl
   exact⟨a',u',x',rfl,⟨o',ex a' o' n1 n2 ho',r'⟩,rr⟩
  ·refine hR h3 tk vs' (fun b o b1 b2 e=>k3 b o b1 b2 (ex b o b1 b2 e)) hd3 ?_
   have e1:qs.drop i=q::qs.drop (i+1):=by
    rw[List.drop_eq_getElem_cons Zo]
    congr 1
    have:qs[i]?=some qs[i]:=fB Zo
    rw[this]at hq;exact Option.some.inj hq
   rw[e1];exact rel3
theorem uV (hh:A.handled=none) {l:Addr} {o:Obj} {n:Nat} {its:List Value} {qs:List (aW × V)} {Q:Value->Shared->Prop} (hlo:s.heap.get? l=some o) (hlc:o.cls=.type "list") (hld:o.data=.seq its.toArray n) (hldd:o.dict=none) (hql:qs.length=its.length)
  (hp:∀(j:Nat) (v:Value) (q:aW × V),its[j]?=some v->qs[j]?=some q->Nt s.heap v q) (hz:its.length<=1000)
  (h:∀h' tk vs',(∀b ob,s.heap.get? b=some ob->h'.get? b=some ob)->h'.DictOf (bA prog w) s.heap.objs.size vs'->KV (aK [] qs) vs'->Q (.ref s.heap.objs.size) {s with heap:=h',toks:=tk }) :
  wpAny (model prog w) A (call (.type "dict") [.ref l]) Q E s:=by
 refine callType_codes (Q₁:=fun obj s₁=>obj=.ref s.heap.objs.size/\s₁={s with heap:=s.heap.push {cls:=.type "dict",data:=.dict #[] } }) F.kt_called_dict (F.kt_typeCall_dict_1 _) F.entry_dict_init (kt_code_dict_new _ ⟨rfl,rfl⟩) ?_
 rintro obj s₁ ⟨rfl,rfl⟩
 have hnew:(s.heap.push {cls:=.type "dict",data:=.dict #[] }).DictOf (bA prog w) s.heap.objs.size []:=Heap.DictOf.new s.heap
 have hl1:(s.heap.push {cls:=.type "dict",data:=.dict #[] }).get? l=some o:=dH _ hlo
 refine⟨hnew.typeIs,F.args_dict_init_2 _ _,?_⟩
 unfold Builtin.«dict.__init__»
 apply wpAny_bind
 unfold Builtin.Dict.selfAndRest;apply wpAny_bind
 refine wpAny_notOrdered_dict hnew.typeIs ?_
 show wpAny _ _ (pure (s.heap.objs.size,[Value.ref l])) _ _ _
 apply wpAny_pure
 show wpAny _ _ (Builtin.Dict.updateFrom "dict.__init__" s.heap.objs.size (.ref l) [] .none) _ _ _
 unfold Builtin.Dict.updateFrom;apply wpAny_bind
 refine wpAny_typeOf (T:="list") ⟨o,hl1,hlc⟩ ?_
 rw[if_pos Zd]
 apply wpAny_bind
 refine Ll hl1 hlc hld hldd hh fun h1 tk k1=>?_
 rw[if_pos (show(none:Option Value).isNone=true from rfl)];apply wpAny_bind
 apply wpAny_rule
 have hl2:h1.get? l=some o:=k1 _ _ hl1
 have hL2:h1.IsList l its.toArray:=⟨o,hl2,hlc,n,hld⟩
 have hd2:h1.DictOf (bA prog w) s.heap.objs.size []:=by
  obtain⟨oo,es,ep,ho,r⟩:=hnew
  exact⟨oo,es,ep,k1 _ _ ho,r⟩
 have szl1:s.heap.objs.size<h1.objs.size:=by
  obtain⟨oo,es,ep,ho,r⟩:=hd2
  exact Heap.lt_size ho
 have ltl:l<s.heap.objs.size:=Heap.lt_size hlo
 apply wpAny_bind
 refine wpAny_pyIter_list (s:={s with heap:=h1,toks:=tk }) hL2 ?_
 apply wpAny_pure
 refine⟨plainId_quiet jQ _,?_⟩
 refine Fa (A:=A.in1) (s:={s with heap:=h1.push {cls:=.type "list_iterator",data:=.fields #[.ref l,.int 0 0] },toks:=tk }) (its:=its) (qs:=qs) (l:=l) hh (Nat.ne_of_gt (Nat.lt_trans ltl szl1)) (Nat.ne_of_gt szl1) (Nat.ne_of_lt ltl) its.length 0 [] [] 0 rfl (Nat.zero_le _) hql ⟨_,Heap.get?_push_size _ rfl,rfl,rfl⟩ ?_ ?_ ?_ (hd2.push _) .nil (by simpa using hz) ?_
 ·exact⟨o,dH _ hl2,hlc,n,hld⟩
 ·intro j v q hj hq;obtain⟨a,u,x,rfl,⟨ob,hob,r⟩,rr⟩:=hp j v q hj hq
  exact⟨a,u,x,rfl,⟨ob,dH _ (k1 _ _ (dH _ hob)),r⟩,rr⟩
 ·intro j v a hj e;obtain⟨q,hq⟩:∃q,qs[j]?=some q:=by
   have:j<its.length:=(Zgs.mp hj).1
   exact⟨qs[j],by simp [hql,this]⟩
  obtain⟨a',u,x,e',⟨ob,hob,r⟩,rr⟩:=hp j v q hj hq
  rw[e]at e';cases e'
  have:=Heap.lt_size hob
  exact⟨Nat.ne_of_lt (Nat.lt_trans this szl1),Nat.ne_of_lt this⟩
 ·intro h' tk' vs' k' hd' rel';refine⟨rfl,h h' tk' vs' (fun b ob e=>?_) hd' rel'⟩
  have:=Heap.lt_size e
  exact k' b ob (Nat.ne_of_lt (Nat.lt_trans this szl1)) (Nat.ne_of_lt this) (dH _ (k1 _ _ (dH _ e)))
end
section
variable {X:Cx}
abbrev W:=Addr × aW × V
def Lm (H:Hp) (zs:List W):Prop:=∀z∈zs,H z.1=some (.tup [kV z.2.1,z.2.2])
def tN (K:W.Frag):List V->Hp->VK->Prop:=fun vs H Q=>match vs with
 | [.ref a]=>∃zs:List W,SqL K H a (zs.map fun z=>V.ref z.1)/\Lm H zs/\zs.length<=1000/\∀d,H d=none->Q (.ref d) (aI H d (.dK (aK [] (zs.map (·.2)))))
 | _=>False
theorem Fc (hcm:X.calm=true):CallR X (.type "dict") (tN X.K):=by
 intro pins s σ H xs us Q I r h;unfold tN at h;split at h
 ·rename_i a
  obtain⟨zs,hq,hz,h1000,q⟩:=h
  obtain⟨u,rfl,ru⟩:=gJ r
  cases ru
  obtain⟨its,r1,p1,_⟩:=I.list hq
  obtain⟨o,n,ho,hc,hdd,hd⟩:=p1
  have hl:zs.length=its.length:=by
   have:=r1.length
   rw[aQ]at this;exact this
  refine uV (I.ok.hd hcm) ho hc hd hdd (qs:=zs.map (·.2)) (by rw[aQ];exact hl) (fun j v q' hj hq'=>?_) Zo fun h' tk vs' k hd rel=>?_
  ·rw[dR]at hq';cases hzj:zs[j]? with
   | none=>rw[hzj]at hq';cases hq'
   | some z=>
    rw[hzj]at hq';cases hq'
    have e:=hz z (jM hzj)
    obtain⟨_,its2,r2,it⟩:=(show ObjOk X.prog X.w H s.heap z.1 (.tup [kV z.2.1,z.2.2]) from I.hok _ _ e)
    have hj2:j<zs.length:=(Zgs.mp hzj).1
    have rv:RelV (V.ref z.1) (its.getD j Value.none):=jP j r1 (by rw[aQ];exact hj2) _ (by rw[dR,hzj];rfl)
    have ev:its.getD j Value.none=v:=by rw[List.getD_eq_getElem?_getD,hj];rfl
    rw[ev]at rv;cases rv
    cases r2 with
    | cons a1 r3=>
     cases r3 with
     | cons a2 r4=>
      cases r4
      exact⟨z.1,_,_,rfl,it,a1,a2⟩
  ·have hf:H s.heap.objs.size=none:=I.hok.fresh (aV _)
   refine⟨.ref s.heap.objs.size,_,I.laid (t':=tk) (o:=.dK (aK [] (zs.map (·.2)))) k (aV _) ⟨?_,?_,vs',rel,hd⟩,rfl,q _ hf⟩
   ·have:=cX (zs.map (·.2)) []
    rw[aQ]at this;exact dJ (by simp at this;omega)
   ·have hb:=I.big
    exact beq_eq_false_iff_ne.mpr (Nat.ne_of_gt hb)
 ·exact h.elim
theorem R.db {K:W.Frag} (hcm:X.calm=true) (hK:X.K=K:=by rfl):XC X (.type "dict") (tN K):=hK ▸ ⟨Fc hcm⟩
end
end L2
namespace L2
open PySem PySem.Spec PyProof.Rows
def Wd (a:Addr) (o:Obj) (kvs:List (aW × V)):It:=
 ⟨fun i H=>H a=some (.frz o (.dK kvs))/\i<kvs.length,fun i H x H'=>H'=H/\(kvs.map fun q=>kV q.1)[i]?=some x,fun i H=>H a=some (.frz o (.dK kvs))/\kvs.length<=i⟩
theorem zB (a:Addr) (o:Obj) (kvs:List (aW × V)):uR (Wd a o kvs) (kvs.map fun q=>kV q.1) (fun H=>H a=some (.frz o (.dK kvs))):=
 ⟨fun i H hi e=>⟨e,by rwa [aQ]at hi⟩,fun i H x H' _ _ y=>y,fun H e=>⟨e,by rw[aQ];exact aV _⟩⟩
section
variable {X:Cx} {pins:List (Addr × Obj)} {σ:St} {H:Hp} {s:Shared} {a:Addr} {o:Obj} {kvs:List (aW × V)}
theorem xG {P:Program} {w:World} {h:Heap} (ok:HOk P w H h) (e:H a=some (.frz o (.dK kvs))):h.get? a=some o/\(a == sysModules)=false/\∃vs ep,KV kvs vs/\(∃es,o.data=.dict es ep)/\h.DictAt (bA P w) a vs ep:=by
 obtain⟨h1,z,hd,vs,rel,dd⟩:=(show ObjOk P w H h a (.frz o (.dK kvs)) from ok a _ e)
 obtain⟨ep,d2⟩:=dd.dictAt
 obtain⟨o',es,g,r1,r2,r3⟩:=id d2
 rw[h1]at g;cases g
 exact⟨h1,hd,vs,ep,rel,⟨es,r2⟩,d2⟩
theorem Fl {P:Program} {w:World} {K:W.Frag} {tg:Expr} (a it:Addr) {ep:Nat} (he:∃es,o.data=.dict es ep):sK P w K tg (Wd a o kvs) [it] it (fun i h=>h.IsKeyIter it a i kvs.length ep) where
 mem:=by simp
 obj:=fun i h st b hb=>by
  obtain rfl:b=it:=by simpa using hb
  obtain⟨ob,e,c,d⟩:=st
  exact⟨ob,e,fun v z=>by rw[d]at z;cases z⟩
 keep:=fun i h h' st k=>st.at fun ob e=>k it Zs ob e
 item:=by
  intro X hP hw hK hc i pins s σ H E I hf st hg;subst hP hw hK;obtain⟨ef,hi⟩:=hg
  obtain⟨h1,lo,vs,ep',rel,⟨es',e'⟩,dd⟩:=xG I.hok ef
  obtain⟨es,e0⟩:=he
  obtain rfl:ep'=ep:=by
   rw[e0]at e';cases e'
   rfl
  have hl:=rel.length
  obtain⟨⟨k,x⟩,hx⟩:∃p,vs[i]?=some p:=⟨vs[i],fB Zo⟩
  have hk:(kvs.map (·.1))[i]?=some k:=by rw[rel.keys,dR,hx];rfl
  obtain⟨f0,f1,f2,f3,f4,f5⟩:=hf it Zs
  rw[hl]at st;refine wpAny_pyNext_dict_item st dd hx fun key h' hkey st' sb=>?_
  have I1:Inv X pins σ H {s with heap:=h' }:=I.turned (t':=s.toks) (fun b ob hb e=>(sb.2 b hb).trans e) f0 f1 f3 f4 f5
  obtain⟨ob,e,c,d⟩:=id st'
  have rk:RelV (kV k) key:=by
   rcases bI (show kX k key=true from hkey) with⟨j,t,rfl,rfl⟩ | ⟨z,t,rfl,rfl⟩
   ·exact⟨t,rfl⟩
   ·exact⟨t,rfl⟩
  refine⟨key,rfl,qZ (s:={s with heap:=h' }) e c d Zd ⟨kV k,H,I1,rk,⟨rfl,?_⟩,by rw[hl];exact st',fun b hb=>(hf b hb).1⟩⟩
  rw[dR]at hk ⊢;cases z:kvs[i]? with
  | none=>rw[z]at hk;cases hk
  | some q=>rw[z]at hk;cases hk;rfl
 done:=by
  intro X hP hw hK hc i pins s σ H E I hf st hg;subst hP hw hK;obtain⟨ef,hi⟩:=hg
  obtain⟨h1,lo,vs,ep',rel,⟨es',e'⟩,dd⟩:=xG I.hok ef
  obtain⟨es,e0⟩:=he
  obtain rfl:ep'=ep:=by
   rw[e0]at e';cases e'
   rfl
  have hl:=rel.length
  rw[hl]at st;obtain⟨f0,f1,f2,f3,f4,f5⟩:=hf it Zs
  exact wpAny_pyNext_dict_end (I.ok.hd hc) st dd (List.getElem?_eq_none Zo) fun h' eb=>⟨rfl,I.turned (t':=s.toks) (fun b ob hb e=>eb b ob hb e) f0 f1 f3 f4 f5⟩
 self:=fun _ _ _ _ _ st h=>wpAny_pyIter_keyiter st h
theorem Inv.freeze (I:Inv X pins σ H s) (e:H a=some (.dK kvs)):∃ob,s.heap.get? a=some ob/\Inv X pins σ (aI H a (.frz ob (.dK kvs))) s:=by
 obtain⟨z,hd,vs,rel,dd⟩:=Dh I.hok e
 obtain⟨ob,es,ep,g,r⟩:=id dd
 refine⟨ob,g,?_⟩
 have:=I.write (t':=s.toks) (h':=s.heap) (x:=a) (e:=a) (o:=.frz ob (.dK kvs)) (by rw[e];exact True.intro) (.inl rfl) (fun b u _ q=>q) ⟨ob,g⟩ ⟨g,z,hd,vs,rel,dd⟩
 exact this
theorem Inv.thaw (I:Inv X pins σ H s) (e:H a=some (.frz o (.dK kvs))) (hn:∀o' u,X.H₀ a≠some (.frz o' u)):Inv X pins σ (aI H a (.dK kvs)) s where
 ok:=I.ok
 os:=I.os
 bare:=I.bare
 base:=by
  have na:∀b,H b=none->b≠a:=fun b z q=>by rw[q,e]at z;cases z
  refine⟨I.base.keep,I.base.slot,fun b ob q n hx=>?_,I.base.there,fun b xs q=>?_,fun b ob u q=>?_,fun b ps q=>?_⟩
  ·have:=I.base.free b ob q n hx
   rw[aE (na b this)];exact this
  ·have:=I.base.tups b xs q
   rw[aE (dI this e (fun z=>nomatch z))]
   exact this
  ·have:=I.base.frzs b ob u q
   by_cases hb:b=a
   ·subst hb;exact absurd q (hn ob u)
   ·rw[aE hb];exact this
  ·obtain⟨more,q2⟩:=I.base.tbls b ps q
   exact⟨more,by rw[aE (dI q2 e (fun z=>nomatch z))];exact q2⟩
 loc:=I.loc
 cell:=I.cell
 free:=by
  have z:=I.free
  rw[aE (fun q=>by rw[q,e]at z;cases z)]
  exact z
 freeC:=fun x c h=>by
  have z:=I.freeC x c h
  rw[aE (fun q=>by rw[q,e]at z;cases z)]
  exact z
 pin:=fun p hp=>by
  obtain⟨p1,p2,p3⟩:=I.pin p hp
  refine⟨p1,?_,p3⟩
  rw[aE (fun q=>by rw[q,e]at p2;cases p2)]
  exact p2
 hok:=by
  intro b u hb;by_cases q:b=a
  ·subst q;rw[aA]at hb;cases hb
   exact(show ObjOk X.prog X.w H s.heap b (.frz o (.dK kvs)) from I.hok b _ e).2
  ·rw[aE q]at hb;refine(I.hok b u hb).stay (fun c v _ h=>h) (fun c h=>?_) fun c xs h=>?_
   ·rw[aE (dI h e (fun z=>nomatch z))];exact h
   ·rw[aE (dI h e (fun z=>nomatch z))];exact h
 len:=I.len
def Vd (te:TE):TI:=fun σ H R=>te σ H fun x H1=>mR x fun a=>∃kvs,H1 a=some (.dK kvs)/\∀o,R (Wd a o kvs) (aI H1 a (.frz o (.dK kvs)))
theorem Rn {tg l:Expr} {tl:TE} (hl:PE X l tl):PI X tg l (Vd tl):=by
 intro pins s σ H R I h;refine bT (hl pins s σ H _ I h) fun v s1 ⟨x,H1,I1,r1,q1⟩=>?_
 dsimp only at q1
 rw[dD]at q1;obtain⟨a,rfl,kvs,e,q⟩:=q1
 cases r1
 obtain⟨ob,g,I2⟩:=I1.freeze e
 obtain⟨h1,lo,vs,ep,rel,he,dd⟩:=xG I2.hok (aA (a:=a))
 have hn:(aI H1 a (.frz ob (.dK kvs))) s1.heap.objs.size=none:=I2.hok.fresh (aV _)
 refine wpAny_pyIter_dict lo dd ?_
 refine⟨s1.heap.objs.size,[s1.heap.objs.size],_,_,_,rfl,I2.kept (t':=s1.toks) fun b o e=>dH _ e,Fl a _ he,⟨_,Heap.get?_push_size _ rfl,rfl,?_⟩,fun b hb=>?_,q ob⟩
 ·rw[rel.length];rfl
 ·obtain rfl:b=s1.heap.objs.size:=by simpa using hb
  exact I2.fpOk (aV _) hn
def Nu (t:TE):TE:=fun σ H Q=>t σ H fun v H2=>∃a kvs o,(∃kvs0,H a=some (.dK kvs0))/\H2 a=some (.frz o (.dK kvs))/\Q v (aI H2 a (.dK kvs))
theorem Ln {e:Expr} {t:TE} (he:PE X e t):PE X e (Nu t):=by
 intro pins s σ H Q I h;refine bT (he pins s σ H _ I h) fun u s1 ⟨v,H2,I2,rv,a,kvs,o,⟨kvs0,e0⟩,e2,q⟩=>⟨v,_,I2.thaw e2 (fun o' u' z=>?_),rv,q⟩
 have:=I.base.frzs a o' u' z
 rw[e0]at this;cases this
end
def Ve (K:W.Frag) (te:TE) (f:Str):TE:=fun σ H Q=>te σ H fun x H1=>mR x fun a=>∃C dx fs v,H1 a=some (.ins C dx fs)/\Cls K C/\NoAttr K C f/\fs.lookup f=some v/\Q v H1
def Nv (K:W.Frag) (ta tv:TE) (f:Str):TS:=fun D σ H=>tv σ H fun y H1=>ta σ H1 fun x H2=>mR x fun a=>∃C dx fs,H2 a=some (.ins C dx fs)/\Cls K C/\NoAttr K C f/\fs.length<1000/\D.nx σ (aI H2 a (.ins C dx (gX f y fs)))
section
variable {X:Cx} {e o value:Expr} {f:Str} {pos pos':Pos} {te ta tv:TE} {K:W.Frag}
theorem Lo (he:PE X e te) (hb:attributeBase e f X.env (eval e X.env)=eval e X.env):PE X (.Attribute e f pos) (Ve X.K te f):=by
 intro pins s σ H Q I h;refine Jv hb (bT (he pins s σ H _ I h) fun u s1 ⟨x,H1,I1,rx,q1⟩=>?_)
 dsimp only at q1
 rw[dD]at q1;obtain⟨a,rfl,C,dx,fs,v,ea,c,n,l,q⟩:=q1
 obtain rfl:u=Value.ref a:=rx
 exact wO I1 ea c n l fun u' s2 I2 ru=>⟨v,H1,I2,ru,q⟩
theorem Lp (ha:PE X o ta) (hv:PE X value tv) (hs:swapsWith value (some (.Attribute o f pos')) pos.line X.env=pure false):PS X (.Assign [.Attribute o f pos'] value pos) (Nv X.K ta tv f):=by
 intro pins s σ H D I h;refine plainObj_wpAny_Assign_Attribute (bT (hv pins s σ H _ I h) fun u s1 ⟨y,H1,I1,ry,q⟩=>bT (ha pins s1 σ H1 _ I1 q) fun ov s2 ⟨x,H2,I2,rx,q1⟩=>?_) hs
 dsimp only at q1
 rw[dD]at q1;obtain⟨a,rfl,C,dx,fs,ea,c,n,l,q2⟩:=q1
 obtain rfl:ov=Value.ref a:=rx
 exact wP I2 ea c n l ry fun s3 I3=>⟨σ,_,I3,q2⟩
end
structure Fm (P:Program) (w:World) (K:W.Frag) (mg:Str->Option Value) (base:Heap) (n:Nat) (C:Addr) (m:Str) (ps:List Str) (sp:Sp):Prop where
 ex:∃f fd,Cls K C/\Pt K C m f/\kA P w K mg base rH n f fd ps sp/\Binds K fd ps []
structure We (P:Program) (w:World) (K:W.Frag) (mg:Str->Option Value) (base:Heap) (n:Nat) (x:Str) (C:Addr) (ps:List Str) (dvs:List V) (sp:Sp):Prop where
 ex:∃f fd ds,mg x=some (.ref C)/\Mk K C f/\kA P w K mg base rH n f fd ps sp/\Binds K fd ps ds/\Vals dvs ds
def zC (C:Addr) (m:Str) (sp:Sp) (ta:TE) (t:TA):TE:=fun σ H Q=>ta σ H fun x H1=>mR x fun a=>∃dx fs,H1 a=some (.ins C dx fs)/\fs.lookup m=none/\t σ H1 fun vs H2=>sp (.ref a::vs) H2 Q E0
section
variable {X:Cx} {e o:Expr} {es:List Expr} {m x:Str} {p pos apos:Pos} {ta:TE} {t:TA} {C:Addr} {n:Nat} {ps:List Str} {sp:Sp} {dvs:List V}
theorem Fn {pl:Sem Bool} (he:PE X o ta) (c:Fm X.prog X.w X.K X.mg X.base n C m ps sp) (hr:Room n X.A) (ha:PA X (e::es) t) (hs:aT e=true) (hpl:(backTo pos (starEach es X.env)).any (·.1)=false)
  (ht:eval (.Call (.Attribute o m apos) (e::es) [] pos) X.env=(do
   let ov ← eval o X.env
   standAt apos.atName
   let (f,first) ← holding [ov] (getMethod ov m pl)
   callWith pos f first (backTo pos (starEach (e::es) X.env)) (backToKw pos (keywordEach [] X.env)))) :
  PE X (.Call (.Attribute o m apos) (e::es) [] pos) (zC C m sp ta t):=by
 obtain⟨f,fd,cl,hm,F,hb⟩:=c.ex
 intro pins s σ H Q I h;refine W.methodCall_KW (pl:=pl) (bT (he pins s σ H _ I h) fun u s1 ⟨x,H1,I1,rx,q1⟩=>?_) ht
 dsimp only at q1
 rw[dD]at q1;obtain⟨a,rfl,dx,fs,ea,l,q⟩:=q1
 obtain rfl:u=Value.ref a:=rx
 refine oN I1 ea cl hm l ?_
 refine W.callWith_K (first:=[.ref a]) (h₀:=X.base) I.ok.mod.kin hm.kp (bT (ha pos pins s1 σ H1 _ I1 q) fun us s2 ⟨vs,H2,I2,r,q2⟩=>⟨I2.kIn,?_⟩) (bL hs) hpl
 exact wV (us:=.ref a::us) (vs:=.ref a::vs) (dvs:=[]) (ds:=[]) F hr hb .nil yN I2 (.cons rfl r) (by rw[List.append_nil];exact q2)
theorem Bh {pl:Sem Bool} (he:PE X o ta) (c:Fm X.prog X.w X.K X.mg X.base n C m ps sp) (hr:Room n X.A)
  (ht:eval (.Call (.Attribute o m apos) [] [] pos) X.env=(do
   let ov ← eval o X.env
   standAt apos.atName
   let (f,first) ← holding [ov] (getMethod ov m pl)
   callWith pos f first (backTo pos (starEach [] X.env)) (backToKw pos (keywordEach [] X.env)))) :
  PE X (.Call (.Attribute o m apos) [] [] pos) (zC C m sp ta wS):=by
 obtain⟨f,fd,cl,hm,F,hb⟩:=c.ex
 intro pins s σ H Q I h;refine W.methodCall_KW (pl:=pl) (bT (he pins s σ H _ I h) fun u s1 ⟨x,H1,I1,rx,q1⟩=>?_) ht
 dsimp only at q1
 rw[dD]at q1;obtain⟨a,rfl,dx,fs,ea,l,q⟩:=q1
 obtain rfl:u=Value.ref a:=rx
 refine oN I1 ea cl hm l ?_
 exact W.callWith_K0 (first:=[.ref a]) I1.kIn hm.kp (wV (us:=[.ref a]) (vs:=[.ref a]) (dvs:=[]) (ds:=[]) F hr hb .nil yN I1 (.cons rfl .nil) (by rw[List.append_nil];exact q))
end
structure FunD (K:W.Frag) (x qual:Str) (st:Stmt) (dv:Value) (f:Addr) (fd:FuncData):Prop where
 ex:∃(oc:Value) (od:Option Addr) (kV doc pm:Value) (an:Option Addr) (cdv ct:Value) (osl:Array (Option Value)),
  fd=W.fnOf x qual (bX st) (bD st) (aB st) dv kV doc pm an cdv ct/\K.lookup f=some ⟨oc,od,.func fd,osl⟩/\W.codeIn K cdv qual=true
section
variable {P:Program} {w:World} {K:W.Frag} {mg:Str->Option Value} {base:Heap} {x qual:Str} {st:Stmt} {dv:Value} {f C:Addr} {fd:FuncData} {N ps:List Str} {k:Nat} {sp:Sp}
theorem FunD.go (F:FunD K x qual st dv f fd) (S:aN N ps (aB st)) (len:∀vs H Q E,sp vs H Q E->vs.length=ps.length)
  (hbody:∀(cdv:Value) (A:Around) (outer:List Env) (s:Shared) (H:Hp) (vs:List V) (Q:VK) (E:XK),Room k (A.deeper (envOfC qual (aB st) s.heap.objs.size f cdv))->sp vs H Q E →
   ∃t,XB (kZ rH P w K mg base N qual (aB st) f cdv A outer s H E).nox (bD st) t/\t {nx:=fun _ H'=>Q .non H',rt:=Q } (start N vs) H):kA P w K mg base rH (k+1) f fd ps sp:=by
 obtain⟨oc,od,kV,doc,pm,an,cdv,ct,osl,rfl,lk,hcd⟩:=F.ex
 refine Nk lk hcd S len fun A outer s H vs Q E hr hsp=>?_
 obtain⟨t,h,q⟩:=hbody cdv A outer s H vs Q E hr hsp
 exact⟨t,h.h.nox,q⟩
structure MethAt (K:W.Frag) (C:Addr) (m qual:Str) (st:Stmt) (ps:List Str):Prop where
 cl:Cls K C
 ex:∃f fd,Fun K m qual st f fd/\Pt K C m f/\Binds K fd ps []
theorem MethAt.go {m:Str} (D:MethAt K C m qual st ps) (S:aN N ps (aB st)) (len:∀vs H Q E,sp vs H Q E->vs.length=ps.length)
  (hbody:∀(f:Addr) (cdv:Value) (A:Around) (outer:List Env) (s:Shared) (H:Hp) (vs:List V) (Q:VK) (E:XK),Room k (A.deeper (envOfC qual (aB st) s.heap.objs.size f cdv))->sp vs H Q E →
   ∃t,XB (kZ rH P w K mg base N qual (aB st) f cdv A outer s H E).nox (bD st) t/\t {nx:=fun _ H'=>Q .non H',rt:=Q } (start N vs) H):Fm P w K mg base (k+1) C m ps sp:=by
 obtain⟨f,fd,F,hm,hb⟩:=D.ex
 exact⟨f,fd,D.cl,hm,F.go S len (hbody f),hb⟩
structure ClsAt (K:W.Frag) (mg:Str->Option Value) (x:Str) (C:Addr) (qual:Str) (st:Stmt) (ps:List Str) (dvs:List (List V)):Prop where
 ex:∃f fd dv,mg x=some (.ref C)/\FunD K "__init__" qual st dv f fd/\Mk K C f/\∀d∈dvs,∃ds,Binds K fd ps ds/\Vals d ds
theorem ClsAt.go {dvs:List (List V)} (D:ClsAt K mg x C qual st ps dvs) (S:aN N ps (aB st)) (len:∀vs H Q E,sp vs H Q E->vs.length=ps.length)
  (hbody:∀(f:Addr) (cdv:Value) (A:Around) (outer:List Env) (s:Shared) (H:Hp) (vs:List V) (Q:VK) (E:XK),Room k (A.deeper (envOfC qual (aB st) s.heap.objs.size f cdv))->sp vs H Q E →
   ∃t,XB (kZ rH P w K mg base N qual (aB st) f cdv A outer s H E).nox (bD st) t/\t {nx:=fun _ H'=>Q .non H',rt:=Q } (start N vs) H):∀d∈dvs,We P w K mg base (k+1) x C ps d sp:=by
 intro d hd;obtain⟨f,fd,dv,e,F,M,hb⟩:=D.ex
 obtain⟨ds,b,v⟩:=hb d hd
 exact⟨f,fd,ds,e,M,F.go S len (hbody f),b,v⟩
end
namespace R
section
variable {X:Cx} {e o i value:Expr} {es:List Expr} {m x f:Str} {p pos pos' apos:Pos} {te ta tv td ty:TE} {t:TA} {C:Addr} {n:Nat} {ps:List Str} {sp:Sp} {dvs:List V} {K:W.Frag} {tg:Expr}
theorem wD (hl:XE X e te):XI X tg e (Vd te):=⟨Rn hl.h⟩
theorem iz (he:XE X e te):XE X e (Nu te):=⟨Ln he.h⟩
theorem dr (he:XE X e te) (hK:X.K=K:=by rfl) (hb:attributeBase e f X.env (eval e X.env)=eval e X.env:=by rfl):XE X (.Attribute e f pos) (Ve K te f):=hK ▸ ⟨Lo he.h hb⟩
theorem iw (ha:XE X o ta) (hv:XE X value tv) (hK:X.K=K:=by rfl) (hs:swapsWith value (some (.Attribute o f pos')) pos.line X.env=pure false:=by rfl):XS X (.Assign [.Attribute o f pos'] value pos) (Nv K ta tv f):=hK ▸ ⟨Lp ha.h hv.h hs⟩
theorem be (hu:X.A.units+1<cLine) (ho:XE X o td) (hi:XE X i ty) (hs:Qg i:=by exact fun _ _=>rfl):XE X (.Subscript o i pos) (Nn td ty):=⟨Kh hu ho.h hi.h hs⟩
theorem fm {pl:Sem Bool} (c:Fm X.prog X.w X.K X.mg X.base n C m ps sp) (hr:Room n X.A) (he:XE X o ta) (ha:XA X (e::es) t) (hs:aT e=true:=by rfl) (h2:es.all aT=true:=by rfl)
  (ht:eval (.Call (.Attribute o m apos) (e::es) [] pos) X.env=(do
   let ov ← eval o X.env
   standAt apos.atName
   let (f,first) ← holding [ov] (getMethod ov m pl)
   callWith pos f first (backTo pos (starEach (e::es) X.env)) (backToKw pos (keywordEach [] X.env))):=by rfl):XE X (.Call (.Attribute o m apos) (e::es) [] pos) (zC C m sp ta t):=⟨Fn he.h c hr ha.h hs (fO h2) ht⟩
theorem jn {pl:Sem Bool} (c:Fm X.prog X.w X.K X.mg X.base n C m ps sp) (hr:Room n X.A) (he:XE X o ta)
  (ht:eval (.Call (.Attribute o m apos) [] [] pos) X.env=(do
   let ov ← eval o X.env
   standAt apos.atName
   let (f,first) ← holding [ov] (getMethod ov m pl)
   callWith pos f first (backTo pos (starEach [] X.env)) (backToKw pos (keywordEach [] X.env))):=by rfl):XE X (.Call (.Attribute o m apos) [] [] pos) (zC C m sp ta wS):=⟨Bh he.h c hr ht⟩
theorem jl (c:We X.prog X.w X.K X.mg X.base n x C ps [] sp) (hr:Room (n+1) X.A) (hg:Gl X x) (ha:XA X (e::es) t) (hdb:(x == ("__debug__":Str))=false:=by decide) (hs:aT e=true:=by rfl) (h2:es.all aT=true:=by rfl) :
  XE X (.Call (.Name x p) (e::es) [] pos) (Nj C sp [] E0 t):=by
 obtain⟨f,fd,ds,hm,M,F,hb,hd⟩:=c.ex
 exact⟨Jx M F hr hg hm hb hd yN ha.h hdb (bL hs) (fO h2)⟩
end
end R
end L2
namespace L2
open PySem PySem.Spec PyProof.Rows
def iN (prs:List (Str × Int)):List (aW × V):=prs.map fun q=>(Sum.inr q.1,V.int q.2)
def iU (prs:List (Str × Int)) (n:Str):Int:=(prs.lookup n).getD 0
theorem lK (prs:List (Str × Int)):(iN prs).map (·.1)=(prs.map (·.1)).map Sum.inr:=by
 unfold iN;rw[List.map_map,List.map_map];rfl
theorem lM (n:Str):∀(prs:List (Str × Int)),bN (iN prs) (Sum.inr n)=(prs.lookup n).map V.int
 | []=>rfl
 | q::r=>by
  unfold iN;rw[List.map_cons,List.lookup_cons];by_cases h:n=q.1
  ·subst h;rw[bY rfl];simp
  ·have hb:(n == q.1)=false:=beq_eq_false_iff_ne.mpr h
   rw[bZ (by intro z;exact h (Sum.inr.inj z).symm),hb]
   exact lM n r
theorem lN (prs:List (Str × Int)) (n:Str):(bN (iN prs) (Sum.inr n)).getD (V.int 0)=V.int (iU prs n):=by
 rw[lM];unfold iU;cases prs.lookup n <;> rfl
theorem jR:∀(more kvs:List (aW × V)),(more.map (·.1)).Nodup->(∀k∈more.map (·.1),bN kvs k=none)->aK kvs more=kvs++more
 | [],kvs,_,_=>(List.append_nil _).symm
 | p::r,kvs,hn,h=>by
  obtain⟨h1,h2⟩:=List.nodup_cons.mp hn
  show aK (bR kvs p.1 p.2) r=_
  have e0:bN kvs p.1=none:=h p.1 Zs
  rw[jR r _ h2 fun k hk=>?_,iW _ e0]
  ·simp
  ·rw[gK,if_neg (fun(z:k=p.1)=>h1 (by dsimp only;rw[<- z];exact hk))]
   exact h k (kD _ hk)
theorem rL:∀ {l:List Str},l.Nodup->(l.map (Sum.inr:Str->aW)).Nodup
 | [],_=>List.nodup_nil
 | a::l,h=>by
  obtain⟨h1,h2⟩:=List.nodup_cons.mp h
  refine List.nodup_cons.mpr ⟨fun z=>?_,rL h2⟩
  obtain⟨b,hb,e⟩:=Zmm.mp z
  cases e
  exact h1 hb
theorem mQ {prs:List (Str × Int)} (h:(prs.map (·.1)).Nodup):aK [] (iN prs)=iN prs:=by
 rw[jR _ _ (by rw[lK];exact rL h) fun _ _=>rfl]
 rfl
def xH (prs:List (Str × Int)):List (Str × Int):=((gZ (prs.map (·.1))).filter fun n=>decide (0<iU prs n)).map fun n=>(n,iU prs n)
theorem hU {n:Str}:∀ {prs:List (Str × Int)},n∈prs.map (·.1)->∃a,prs.lookup n=some a
 | q::r,h=>by
  rw[List.lookup_cons];by_cases e:n=q.1
  ·subst e;exact⟨q.2,Zs⟩
  ·have hb:(n == q.1)=false:=beq_eq_false_iff_ne.mpr e
   rw[hb];rcases List.mem_cons.mp h with z | z
   ·exact absurd z e
   ·exact hU z
structure Vf (K:W.Frag) (C:Addr):Prop where
 cl:Cls K C
 nA:NoAttr K C "amounts"
structure Fo (C:Addr) (H:Hp) (p:Addr) (prs:List (Str × Int)):Prop where
 ex:∃dx d,H p=some (.ins C dx [("amounts",.ref d)])/\H d=some (.dK (iN prs))
 nd:(prs.map (·.1)).Nodup
def Ro (H:Hp) (r:V) (prs:List (Str × Int)):Prop:=(r=.non/\prs=[])∨∃l zs,r=.ref l/\H l=some (.lst (dS zs))/\ZAt H zs/\zs.map (·.2)=prs
def pH (C:Addr):Sp:=fun vs H Q _=>∃(p:Addr) (n:Str) (prs:List (Str × Int)),vs=[.ref p,.str n]/\Fo C H p prs/\Q (.int (iU prs n)) H
def uW (C:Addr):Sp:=fun vs H Q _=>∃(p:Addr) (prs:List (Str × Int)),vs=[.ref p]/\Fo C H p prs/\prs.length<64 ∧
 ∀(l:Addr) (zs:List Z) (H':Hp),Same H H'->H l=none->H' l=some (.lst (dS zs))->ZAt H' zs->zs.map (·.2)=xH prs->Q (.ref l) H'
def wz (zs:List Z):List W:=zs.map fun z=>(z.1,Sum.inr z.2.1,V.int z.2.2)
theorem Rp (zs:List Z):((wz zs).map fun z=>V.ref z.1)=dS zs:=by
 unfold wz dS;rw[List.map_map];rfl
theorem Vg {H:Hp} {zs:List Z} (h:ZAt H zs):Lm H (wz zs):=fun z hz=>by
 obtain⟨y,hy,rfl⟩:=Zmm.mp hz
 exact h y hy
theorem Rq (zs:List Z):(wz zs).map (·.2)=iN (zs.map (·.2)):=by
 unfold wz iN;rw[List.map_map,List.map_map];rfl
theorem Xk (y:V):gX "amounts" y []=[(("amounts":Str),y)]:=rfl
theorem Xl (x y:V):gX "amounts" y [(("amounts":Str),x)]=[(("amounts":Str),y)]:=by
 unfold gX;rw[if_pos rfl]
theorem eS (y:V):([(("amounts":Str),y)]:List (Str × V)).lookup ("amounts":Str)=some y:=by
 rw[List.lookup_cons];simp
theorem tO {m:Str} (y:V) (h:(m == ("amounts":Str))=false):([(("amounts":Str),y)]:List (Str × V)).lookup m=none:=by
 rw[List.lookup_cons,h];rfl
end L2
namespace L2
open PySem PySem.Spec PyProof.Rows
section
variable {X:Cx}
theorem R.gu (hc:X.calm=true):XC X (.builtin "min") (fun vs H Q=>match vs with | [.int i,.int j]=>Q (.int (if j<i then j else i)) H | _=>False):=⟨(Ak hc).imp fun vs H Q h=>by
 split at h
 ·exact⟨_,_,rfl,h⟩
 ·exact h.elim⟩
end
end L2
namespace L2
open PySem PySem.Spec PyProof.Rows
def Fp:Bool->String | true=>"list_iterator" | false=>"tuple_iterator"
def lO (k:Bool) (a:Addr):Obj:={cls:=.type (Fp k),data:=.fields #[.ref a,.int 0 0] }
def ItAt (k:Bool) (h:Heap) (it a:Addr) (i:Nat):Prop:=∃o,h.get? it=some o/\o.cls=.type (Fp k)/\o.data=.fields #[.ref a,.int i 0]
def SeqIn (k:Bool) (h:Heap) (a:Addr) (vs:Array Value):Prop:=match k with | true=>h.IsList a vs | false=>h.IsTuple a vs
theorem ItAt.by {k:Bool} {h h':Heap} {it a:Addr} {i:Nat} (x:ItAt k h it a i) (g:∀o,h.get? it=some o->h'.get? it=some o):ItAt k h' it a i:=let ⟨o,e,r⟩:=x;⟨o,g o e,r⟩
theorem SeqIn.by {k:Bool} {h h':Heap} {a:Addr} {vs:Array Value} (x:SeqIn k h a vs) (g:∀o,h.get? a=some o->h'.get? a=some o):SeqIn k h' a vs:=by
 cases k
 ·obtain⟨o,e,r⟩:=x;exact⟨o,g o e,r⟩
 ·obtain⟨o,e,r⟩:=x;exact⟨o,g o e,r⟩
theorem SeqIn.lt {k:Bool} {h:Heap} {a:Addr} {vs:Array Value} (x:SeqIn k h a vs):a<h.objs.size:=by
 cases k
 ·obtain⟨o,e,r⟩:=x;exact Heap.lt_size e
 ·obtain⟨o,e,r⟩:=x;exact Heap.lt_size e
section
variable {prog:Program} {w:World} {A:Around} {E:Value->Shared->Prop} {s:Shared}
theorem Fq {k:Bool} {a:Addr} {vs:Array Value} {Q:Value->Shared->Prop} (h:SeqIn k s.heap a vs) (q:Q (.ref s.heap.objs.size) {s with heap:=s.heap.push (lO k a) }):wpAny (model prog w) A (pyIter (.ref a)) Q E s:=by
 cases k
 ·exact wpAny_pyIter_tuple (show s.heap.IsTuple a vs from h) q
 ·exact wpAny_pyIter_list (show s.heap.IsList a vs from h) q
theorem tP {k:Bool} {it a:Addr} {i:Nat} {vs:Array Value} {x:Value} {Q:Value->Shared->Prop} (hit:ItAt k s.heap it a i) (hs:SeqIn k s.heap a vs) (hx:vs[i]?=some x)
  (q:∀h',ItAt k h' it a (i+1)->Heap.SameBut it s.heap h'->Q x {s with heap:=h' }):wpAny (model prog w) A (Builtin.SmallTypes.nextOf (.ref it)) Q E s:=by
 cases k with
 | true=>exact wpAny_nextOf_list_item (show s.heap.IsListIter it a i from hit) (show s.heap.IsList a vs from hs) hx q
 | false=>
  have hit':s.heap.IsTupleIter it a i:=hit
  obtain⟨o,ho,hc,hd⟩:=hit
  obtain⟨ol,hol,_,nl,hdl⟩:=hs
  unfold Builtin.SmallTypes.nextOf;refine wpAny_bind (wpAny_callSpecial?_slot (name:=Str.ofString "__next__") hit'.typeIs F.slot_tuple_iterator_next (wpAny_call_entry F.slot_tuple_iterator_next hit'.typeIs F.entry_tuple_iterator_next ?_ (F.args_tuple_iterator_next_1 _)))
  show wpAny (model prog w) _ (field (.ref it) 0 >>= _) _ _ s
  refine wpAny_bind (wpAny_field ho hd (x:=.ref a) rfl ?_)
  show wpAny (model prog w) _ (if (Value.ref a == Value.none)=true then _ else _) _ _ s
  rw[if_neg (show ¬ ((Value.ref a == Value.none)=true) from Bool.false_ne_true)];show wpAny (model prog w) _ (field (.ref it) 1 >>= _) _ _ s
  refine wpAny_bind (wpAny_field (x:=.int i 0) ho hd rfl ?_)
  show wpAny (model prog w) _ (seqItems? (.ref a) >>= _) _ _ s
  refine wpAny_bind (wpAny_seqItems (hol) hdl ?_)
  simp only [hx,Int.toNat_natCast]
  refine wpAny_bind (wpAny_setField ho hd Zs (wpAny_pure ⟨x,rfl,wpAny_pure (q _ ?_ (Heap.SameBut.update ..))⟩))
  exact⟨_,Heap.get?_update_self _ ho (Obj.isFreed_of_fields (Obj.data_mapFields hd _)),(Obj.cls_mapFields ..).trans hc,by rw[Obj.data_mapFields hd];simp [rawInt]⟩
theorem Fs {k:Bool} {it a:Addr} {i:Nat} {vs:Array Value} {Q:Value->Shared->Prop} (hh:A.handled=none) (hit:ItAt k s.heap it a i) (hs:SeqIn k s.heap a vs) (hx:vs[i]?=none)
  (hE:∀h' e,Heap.ExtBut it s.heap h'->(∃o,h'.get? e=some o/\o.cls=.type "StopIteration")->E (.ref e) {s with heap:=h' }):wpAny (model prog w) A (Builtin.SmallTypes.nextOf (.ref it)) Q E s:=by
 cases k with
 | true=>exact wpAny_nextOf_list_end hh (show s.heap.IsListIter it a i from hit) (show s.heap.IsList a vs from hs) hx hE
 | false=>
  have hit':s.heap.IsTupleIter it a i:=hit
  obtain⟨o,ho,hc,hd⟩:=hit
  obtain⟨ol,hol,_,nl,hdl⟩:=hs
  unfold Builtin.SmallTypes.nextOf;refine wpAny_bind (wpAny_callSpecial?_slot (name:=Str.ofString "__next__") hit'.typeIs F.slot_tuple_iterator_next (wpAny_call_entry F.slot_tuple_iterator_next hit'.typeIs F.entry_tuple_iterator_next ?_ (F.args_tuple_iterator_next_1 _)))
  show wpAny (model prog w) _ (field (.ref it) 0 >>= _) _ _ s
  refine wpAny_bind (wpAny_field ho hd (x:=.ref a) rfl ?_)
  show wpAny (model prog w) _ (if (Value.ref a == Value.none)=true then _ else _) _ _ s
  rw[if_neg (show ¬ ((Value.ref a == Value.none)=true) from Bool.false_ne_true)];show wpAny (model prog w) _ (field (.ref it) 1 >>= _) _ _ s
  refine wpAny_bind (wpAny_field (x:=.int i 0) ho hd rfl ?_)
  show wpAny (model prog w) _ (seqItems? (.ref a) >>= _) _ _ s
  refine wpAny_bind (wpAny_seqItems (hol) hdl ?_)
  simp only [hx,Int.toNat_natCast]
  refine wpAny_bind (wpAny_rule (wpAny_bind (wpAny_setField (ho) hd Zs ?_)))
  show wpAny (model prog w) _ (newExc (.type "StopIteration") [] >>= _) _ _ _
  refine wpAny_bind ?_
  simp only [newTuple,newExc]
  refine wpAny_bind (wpAny_newObj_type ?_ (by size_fits))
  refine wpAny_bind (m:=firstArgMember _ _) (wpAny_of_eq (a:=Value.none) (by first | rfl | (simp only [firstArgMember];rfl)) ?_)
  refine wpAny_newObj_type ?_ (by size_fits)
  simp only [raiseNew]
  refine wpAny_bind (wpAny_handled ?_)
  first | rw[show A.in1.handled=none from(hh)] | rw[hh]
  refine wpAny_bind (wpAny_pure (wpAny_throw ?_))
  exact hE _ _ (((Heap.SameBut.update ..).extBut.push _).push _) ⟨_,Heap.get?_push_size _ rfl,rfl⟩
structure Lq (z ti to j1 j2 a1 a2:Addr):Prop where
 i:ti≠z
 o:to≠z
 p:j1≠z
 q:j2≠z
 io:ti≠to
 ip:ti≠j1
 iq:ti≠j2
 op:to≠j1
 oq:to≠j2
 pq:j1≠j2
 a:∀b,b=a1∨b=a2->b≠z/\b≠to/\b≠j1/\b≠j2
structure Vh (k1 k2:Bool) (h:Heap) (z ti to j1 j2 a1 a2:Addr) (f0:Value) (n1 n2:Nat):Prop where
 z:IsZip h z ti to f0
 i:IsPair h ti (.ref j1) (.ref j2)
 o:∃a b,IsPair h to a b
 x:ItAt k1 h j1 a1 n1
 y:ItAt k2 h j2 a2 n2
theorem Lr {k1 k2:Bool} {z ti to j1 j2 a1 a2:Addr} {n:Nat} {xs ys:Array Value} {x y:Value} {Q:Value->Shared->Prop} (D:Lq z ti to j1 j2 a1 a2) (S:Vh k1 k2 s.heap z ti to j1 j2 a1 a2 .none n n)
  (hl1:SeqIn k1 s.heap a1 xs) (hl2:SeqIn k2 s.heap a2 ys) (hx:xs[n]?=some x) (hy:ys[n]?=some y)
  (hQ:∀h',Vh k1 k2 h' z ti to j1 j2 a1 a2 (rawInt s.heap.objs.size) (n+1) (n+1)->IsPair h' s.heap.objs.size x y->h'.objs.size=s.heap.objs.size+1 →
   (∀c o,c≠z->c≠to->c≠j1->c≠j2->s.heap.get? c=some o->h'.get? c=some o)->Q (.ref s.heap.objs.size) {s with heap:=h' }) :
  wpAny (model prog w) A (Builtin.«zip.__next__» ⟨[.ref z],[]⟩) (fun fin s'=>∃v,fin=.done (.ret v)/\Q v s') E s:=by
 obtain⟨hz,hI,⟨u1,u2,hO⟩,h1,h2⟩:=S
 obtain⟨c1z,c1o,c1p,c1q⟩:=D.a a1 (.inl rfl)
 obtain⟨c2z,c2o,c2p,c2q⟩:=D.a a2 (.inr rfl)
 show wpAny (model prog w) _ (field (.ref z) 2 >>= _) _ _ _
 refine wpAny_bind (wpAny_field (x:=.bool false) hz rfl rfl ?_)
 show wpAny (model prog w) _ (field (.ref z) 3 >>= _) _ _ _
 refine wpAny_bind (wpAny_field (x:=.ref ti) hz rfl rfl ?_)
 refine wpAny_bind (wpAny_seqItems hI rfl ?_)
 show wpAny (model prog w) _ (Builtin.SmallTypes.ownedTupleIsFree (.ref z) >>= _) _ _ _
 refine wpAny_bind ?_
 unfold Builtin.SmallTypes.ownedTupleIsFree;refine wpAny_bind (wpAny_field (x:=.none) hz rfl rfl (wpAny_pure ?_))
 simp only [if_true]
 refine wpAny_bind (wpAny_rule ?_)
 refine wpAny_bind (wpAny_field (x:=.ref to) hz rfl rfl ?_)
 refine wpAny_bind (wpAny_setField_rec hz Zs fun g1 z1 b1=>?_)
 have z1:IsZip g1 z ti to .ellipsis:=z1
 refine wpAny_bind ?_
 simp only [List.zipIdx_nil,List.zipIdx_cons,List.forIn_nil,List.forIn_cons]
 refine wpAny_bind (wpAny_bind (wpAny_onRaise ?_))
 show wpAny (model prog w) _ (Builtin.SmallTypes.nextOf (.ref j1) >>= _) _ _ _
 refine wpAny_bind (tP (h1.by fun o e=>b1.extBut _ _ D.p e) (hl1.by fun o e=>b1.extBut _ _ c1z e) hx fun g2 i2 b2=>wpAny_pure ?_)
 have o2:IsPair g2 to u1 u2:=b2.extBut _ _ D.op (b1.extBut _ _ D.o hO)
 refine wpAny_bind (wpAny_seqItems o2 rfl ?_)
 refine wpAny_bind (wpAny_updateSeq_pair o2 fun g3 o3 b3=>?_)
 have o3:IsPair g3 to x u2:=o3
 refine wpAny_bind (wpAny_letGo (wpAny_pure ?_))
 refine wpAny_bind (wpAny_bind (wpAny_onRaise ?_))
 show wpAny (model prog w) _ (Builtin.SmallTypes.nextOf (.ref j2) >>= _) _ _ _
 refine wpAny_bind (tP (h2.by fun o e=>b3.extBut _ _ D.oq.symm (b2.extBut _ _ D.pq.symm (b1.extBut _ _ D.q e))) (hl2.by fun o e=>b3.extBut _ _ c2o (b2.extBut _ _ c2p (b1.extBut _ _ c2z e))) hy fun g4 i4 b4=>wpAny_pure ?_)
 have o4:IsPair g4 to x u2:=b4.extBut _ _ D.oq o3
 refine wpAny_bind (wpAny_seqItems o4 rfl ?_)
 refine wpAny_bind (wpAny_updateSeq_pair o4 fun g5 o5 b5=>?_)
 have o5:IsPair g5 to x y:=o5
 refine wpAny_bind (wpAny_letGo (wpAny_pure (wpAny_pure ?_)))
 refine wpAny_bind (wpAny_seqItems o5 rfl ?_)
 refine wpAny_bind (wpAny_newTuple ?_)
 have hsz:g5.objs.size=s.heap.objs.size:=by rw[b5.1,b4.1,b3.1,b2.1,b1.1]
 have z5:IsZip g5 z ti to .ellipsis:=b5.extBut _ _ D.o.symm (b4.extBut _ _ D.q.symm (b3.extBut _ _ D.o.symm (b2.extBut _ _ D.p.symm z1)))
 have hk5:∀c o,c≠z->c≠to->c≠j1->c≠j2->s.heap.get? c=some o->g5.get? c=some o:=fun c o n1 n2 n3 n4 e=>b5.extBut _ _ n2 (b4.extBut _ _ n4 (b3.extBut _ _ n2 (b2.extBut _ _ n3 (b1.extBut _ _ n1 e))))
 have i5:ItAt k1 g5 j1 a1 (n+1):=i2.by fun o e=>b5.extBut _ _ D.op.symm (b4.extBut _ _ D.pq (b3.extBut _ _ D.op.symm e))
 have j5:ItAt k2 g5 j2 a2 (n+1):=i4.by fun o e=>b5.extBut _ _ D.oq.symm e
 have zlt:z<g5.objs.size:=Heap.lt_size z5
 show wpAny (model prog w) _ (Builtin.SmallTypes.ownedTupleHandOut (.ref z) (.ref g5.objs.size) >>= _) _ _ _
 refine wpAny_bind ?_
 unfold Builtin.SmallTypes.ownedTupleHandOut;have z6:IsZip (g5.push {cls:=.type "tuple",data:=.seq #[x,y] }) z ti to .ellipsis:=dH _ z5
 refine wpAny_bind (wpAny_setField_rec z6 Zs fun g7 z7 b7=>?_)
 have z7:IsZip g7 z ti to (rawInt g5.objs.size):=z7
 refine wpAny_setField_rec z7 Zs fun g8 z8 b8=>?_
 have z8:IsZip g8 z ti to (rawInt g5.objs.size):=z8
 have up:∀c o,c≠z->g5.get? c=some o->g8.get? c=some o:=fun c o n1 e=>b8.extBut _ _ n1 (b7.extBut _ _ n1 (dH _ e))
 have t8:IsPair g8 g5.objs.size x y:=b8.extBut _ _ (Nat.ne_of_gt zlt) (b7.extBut _ _ (Nat.ne_of_gt zlt) (Heap.get?_push_size _ rfl))
 have s8:g8.objs.size=g5.objs.size+1:=by rw[b8.1,b7.1,Heap.size_push]
 rw[hsz]at z8 t8 s8;refine wpAny_pure ⟨_,rfl,?_⟩
 show Q (.ref g5.objs.size) _
 rw[hsz];exact hQ g8 ⟨z8,up _ _ D.i (hk5 _ _ D.i D.io D.ip D.iq hI),⟨_,_,up _ _ D.o o5⟩,i5.by fun o e=>up _ o D.p e,j5.by fun o e=>up _ o D.q e⟩ t8 s8 fun c o n1 n2 n3 n4 e=>up c o n1 (hk5 c o n1 n2 n3 n4 e)
theorem Rr {k1 k2:Bool} {z ti to j1 j2 a1 a2:Addr} {n:Nat} {xs ys:Array Value} {Q:Fin->Shared->Prop} (hh:A.handled=none) (D:Lq z ti to j1 j2 a1 a2) (S:Vh k1 k2 s.heap z ti to j1 j2 a1 a2 .none n n)
  (hl1:SeqIn k1 s.heap a1 xs) (hl2:SeqIn k2 s.heap a2 ys) (hend:xs[n]?=none∨ys[n]?=none)
  (hE:∀h' e,(∀c o,c≠z->c≠to->c≠j1->c≠j2->s.heap.get? c=some o->h'.get? c=some o)->(∃o,h'.get? e=some o/\o.cls=.type "StopIteration")->E (.ref e) {s with heap:=h' }) :
  wpAny (model prog w) A (Builtin.«zip.__next__» ⟨[.ref z],[]⟩) Q E s:=by
 obtain⟨hz,hI,⟨u1,u2,hO⟩,h1,h2⟩:=S
 obtain⟨c1z,c1o,c1p,c1q⟩:=D.a a1 (.inl rfl)
 obtain⟨c2z,c2o,c2p,c2q⟩:=D.a a2 (.inr rfl)
 show wpAny (model prog w) _ (field (.ref z) 2 >>= _) _ _ _
 refine wpAny_bind (wpAny_field (x:=.bool false) hz rfl rfl ?_)
 show wpAny (model prog w) _ (field (.ref z) 3 >>= _) _ _ _
 refine wpAny_bind (wpAny_field (x:=.ref ti) hz rfl rfl ?_)
 refine wpAny_bind (wpAny_seqItems hI rfl ?_)
 show wpAny (model prog w) _ (Builtin.SmallTypes.ownedTupleIsFree (.ref z) >>= _) _ _ _
 refine wpAny_bind ?_
 unfold Builtin.SmallTypes.ownedTupleIsFree;refine wpAny_bind (wpAny_field (x:=.none) hz rfl rfl (wpAny_pure ?_))
 simp only [if_true]
 refine wpAny_bind (wpAny_rule ?_)
 refine wpAny_bind (wpAny_field (x:=.ref to) hz rfl rfl ?_)
 refine wpAny_bind (wpAny_setField_rec hz Zs fun g1 z1 b1=>?_)
 have z1:IsZip g1 z ti to .ellipsis:=z1
 refine wpAny_bind ?_
 simp only [List.zipIdx_nil,List.zipIdx_cons,List.forIn_nil,List.forIn_cons]
 refine wpAny_bind (wpAny_bind (wpAny_onRaise ?_))
 show wpAny (model prog w) _ (Builtin.SmallTypes.nextOf (.ref j1) >>= _) _ _ _
 cases hx:xs[n]? with
 | none=>
  refine wpAny_bind (Fs hh (h1.by fun o e=>b1.extBut _ _ D.p e) (hl1.by fun o e=>b1.extBut _ _ c1z e) hx fun g2 e b2 he=>?_)
  obtain⟨oe,hoe,hce⟩:=he
  have z2:IsZip g2 z ti to .ellipsis:=b2 _ _ D.p.symm z1
  have ne:e≠z:=fun(q:e=z)=>by subst q;rw[z2]at hoe;cases hoe;simp at hce
  exact wpAny_setField_rec z2 Zs fun g3 _ b3=>hE g3 e (fun c o n1 _ n3 _ q=>b3.extBut _ _ n1 (b2 _ _ n3 (b1.extBut _ _ n1 q))) ⟨oe,b3.extBut _ _ ne hoe,hce⟩
 | some x=>
  have hy:ys[n]?=none:=hend.resolve_left (by rw[hx];exact fun q=>nomatch q)
  refine wpAny_bind (tP (h1.by fun o e=>b1.extBut _ _ D.p e) (hl1.by fun o e=>b1.extBut _ _ c1z e) hx fun g2 i2 b2=>wpAny_pure ?_)
  have o2:IsPair g2 to u1 u2:=b2.extBut _ _ D.op (b1.extBut _ _ D.o hO)
  refine wpAny_bind (wpAny_seqItems o2 rfl ?_)
  refine wpAny_bind (wpAny_updateSeq_pair o2 fun g3 o3 b3=>?_)
  refine wpAny_bind (wpAny_letGo (wpAny_pure ?_))
  refine wpAny_bind (wpAny_bind (wpAny_onRaise ?_))
  show wpAny (model prog w) _ (Builtin.SmallTypes.nextOf (.ref j2) >>= _) _ _ _
  refine wpAny_bind (Fs hh (h2.by fun o e=>b3.extBut _ _ D.oq.symm (b2.extBut _ _ D.pq.symm (b1.extBut _ _ D.q e))) (hl2.by fun o e=>b3.extBut _ _ c2o (b2.extBut _ _ c2p (b1.extBut _ _ c2z e))) hy fun g4 e b4 he=>?_)
  obtain⟨oe,hoe,hce⟩:=he
  have z4:IsZip g4 z ti to .ellipsis:=b4 _ _ D.q.symm (b3.extBut _ _ D.o.symm (b2.extBut _ _ D.p.symm z1))
  have ne:e≠z:=fun(q:e=z)=>by subst q;rw[z4]at hoe;cases hoe;simp at hce
  exact wpAny_setField_rec z4 Zs fun g5 _ b5=>hE g5 e (fun c o n1 n2 n3 n4 q=>b5.extBut _ _ n1 (b4 _ _ n4 (b3.extBut _ _ n2 (b2.extBut _ _ n3 (b1.extBut _ _ n1 q))))) ⟨oe,b5.extBut _ _ ne hoe,hce⟩
end
section
variable {X:Cx} {pins:List (Addr × Obj)} {σ:List (Option V)} {H:Hp} {s:Shared} {h':Heap}
theorem Inv.turnLaid {t':Nat} {ch:List Addr} {a:Addr} {o:HO} (I:Inv X pins σ H s) (hf:∀b∈ch,nS X pins H b) (k:∀b u,b∉ch->s.heap.get? b=some u->h'.get? b=some u) (hp:s.heap.objs.size<=a) (new:ObjOk X.prog X.w (aI H a o) h' a o) :
  Inv X pins σ (aI H a o) {s with heap:=h',toks:=t' }:=by
 have hn:=I.hok.fresh hp
 have nch:∀b u,H b=some u->b∉ch:=fun b u e z=>by rw[(hf b z).1]at e;cases e
 refine I.step (g':=s.gens) (d':=s.drawn) (ch:=ch) (fun b hb=>⟨(hf b hb).2.2.2.1,(hf b hb).2.1,(hf b hb).2.2.2.2.1,(hf b hb).2.2.2.2.2⟩) (fun b u _ _ hc e _=>k b u hc e) (fun b u _ _ hc e _=>⟨u.slots,k b u hc e⟩)
  (fun b u _ e n=>by rw[aE (Nat.ne_of_lt (Nat.lt_of_lt_of_le (Heap.lt_size e) hp))];exact n) (fun b u hc e=>⟨u,k b u hc e⟩) (fun b xs e=>by rw[aE (aF e hn)];exact e) (fun b v u e=>by rw[aE (aF e hn)];exact e)
  (fun b ps e=>⟨#[],by rw[aE (aF e hn),e];simp⟩) (fun m hm=>?_) (fun b u e=>?_) I.bare
 ·obtain⟨u,es,ep,ho,r⟩:=hm
  exact⟨u,es,ep,k _ u (fun z=>(hf _ z).2.1 rfl) ho,r⟩
 ·by_cases hb:b=a
  ·subst hb;rw[aA]at e;cases e;exact new
  ·rw[aE hb]at e;refine(I.hok b u e).stay (fun c v hc q=>k c v ?_ q) (fun c q=>by rw[aE (aF q hn)];exact q) fun c xs q=>by rw[aE (aF q hn)];exact q
   rcases hc with z | z
   ·rw[z];exact nch b u e
   ·exact nch c _ z
theorem Inv.turnL {t':Nat} {ch:List Addr} (I:Inv X pins σ H s) (hf:∀b∈ch,nS X pins H b) (k:∀b u,b∉ch->s.heap.get? b=some u->h'.get? b=some u):Inv X pins σ H {s with heap:=h',toks:=t' }:=by
 have nch:∀b u,H b=some u->b∉ch:=fun b u e z=>by rw[(hf b z).1]at e;cases e
 refine I.step (g':=s.gens) (d':=s.drawn) (ch:=ch) (fun b hb=>⟨(hf b hb).2.2.2.1,(hf b hb).2.1,(hf b hb).2.2.2.2.1,(hf b hb).2.2.2.2.2⟩) (fun b u _ _ hc e _=>k b u hc e) (fun b u _ _ hc e _=>⟨u.slots,k b u hc e⟩)
  (fun _ _ _ _ n=>n) (fun b u hc e=>⟨u,k b u hc e⟩) (fun _ _ e=>e) (fun _ _ _ e=>e) (fun b ps e=>⟨#[],by rw[e];simp⟩) (fun m hm=>?_) (fun b u e=>?_) I.bare
 ·obtain⟨u,es,ep,ho,r⟩:=hm
  exact⟨u,es,ep,k _ u (fun z=>(hf _ z).2.1 rfl) ho,r⟩
 ·refine(I.hok b u e).stay (fun c v hc q=>k c v ?_ q) (fun _ q=>q) fun _ _ q=>q
  rcases hc with z | z
  ·rw[z];exact nch b u e
  ·exact nch c _ z
end
def xI (K:W.Frag) (k:Bool) (H:Hp) (a:Addr) (xs:List V):Prop:=match k with | true=>SqL K H a xs | false=>SqT K H a xs
def Wf (K:W.Frag) (k1 k2:Bool) (a1 a2:Addr):It:=
  ⟨fun i H=>∃xs ys x y,xI K k1 H a1 xs/\xI K k2 H a2 ys/\xs[i]?=some x/\ys[i]?=some y,
   fun i H v H'=>∃t x y,H t=none/\v=.ref t/\H'=aI H t (.tup [x,y])/\(∀xs,xI K k1 H a1 xs->xs[i]?=some x)/\∀ys,xI K k2 H a2 ys->ys[i]?=some y,
   fun i H=>∃xs ys,xI K k1 H a1 xs/\xI K k2 H a2 ys/\(xs.length<=i∨ys.length<=i)⟩
theorem Inv.sqk {X:Cx} {pins:List (Addr × Obj)} {σ:St} {H:Hp} {s:Shared} (I:Inv X pins σ H s) {k:Bool} {a:Addr} {xs:List V} (h:xI X.K k H a xs):∃its,Vals xs its/\SeqIn k s.heap a its.toArray:=by
 cases k
 ·obtain⟨its,r,p,_⟩:=I.tuple h
  exact⟨its,r,p⟩
 ·obtain⟨its,r,p,_⟩:=I.list h
  exact⟨its,r,p.isList⟩
theorem Inv.sqk_inj {X:Cx} {pins:List (Addr × Obj)} {σ:St} {H:Hp} {s:Shared} (I:Inv X pins σ H s) {k:Bool} {a:Addr} {xs ys:List V} (h:xI X.K k H a xs) (h2:xI X.K k H a ys):xs=ys:=by
 cases k
 ·exact I.tuple_inj h h2
 ·exact I.list_inj h h2
theorem Ft {P:Program} {w:World} {K:W.Frag} {es:List Expr} {n:Nat} {pos:Pos} {k1 k2:Bool} {z ti to j1 j2 a1 a2:Addr} (D:Lq z ti to j1 j2 a1 a2) :
  sK P w K (.Tuple es n pos) (Wf K k1 k2 a1 a2) [z,ti,to,j1,j2] z (fun i h=>Vh k1 k2 h z ti to j1 j2 a1 a2 .none i i) where
 mem:=by simp
 obj:=fun i h st b hb=>by
  obtain⟨u1,u2,hO⟩:=st.o
  obtain⟨o1,e1,_,d1⟩:=st.x
  obtain⟨o2,e2,_,d2⟩:=st.y
  simp only [List.mem_cons,List.not_mem_nil,or_false]at hb
  rcases hb with rfl | rfl | rfl | rfl | rfl
  ·exact⟨_,st.z,fun v q=>by have q':Data.fields _=Data.cell v:=q;cases q'⟩
  ·exact⟨_,st.i,fun v q=>by have q':Data.seq _ _=Data.cell v:=q;cases q'⟩
  ·exact⟨_,hO,fun v q=>by have q':Data.seq _ _=Data.cell v:=q;cases q'⟩
  ·exact⟨_,e1,fun v q=>by rw[d1]at q;cases q⟩
  ·exact⟨_,e2,fun v q=>by rw[d2]at q;cases q⟩
 keep:=fun i h h' st g=>by
  obtain⟨u1,u2,hO⟩:=st.o
  exact⟨g z Zs _ st.z,g ti Zs _ st.i,⟨u1,u2,g to Zs _ hO⟩,st.x.by fun o e=>g j1 Zs o e,st.y.by fun o e=>g j2 Zs o e⟩
 item:=by
  intro X hP hw hK hc i pins s σ H E I hf st hg;subst hP hw hK;obtain⟨xs,ys,x,y,hx,hy,ex,ey⟩:=hg
  obtain⟨its,rv,p⟩:=I.sqk hx
  obtain⟨jts,rw',p'⟩:=I.sqk hy
  obtain⟨u,hu,ru⟩:=rv.get ex
  obtain⟨v,hv,rv'⟩:=rw'.get ey
  have hT:s.TypeIs (.ref z) "zip":=⟨_,st.z,rfl⟩
  unfold pyNext;refine wpAny_bind (wpAny_attempt (wpAny_callSpecial?_slot (name:=Str.ofString "__next__") hT F.slot_zip_next (wpAny_call_entry F.slot_zip_next hT F.entry_zip_next (Lr D st p p' (by simpa using hu) (by simpa using hv) fun h1 st1 t1 z1 k1'=>wpAny_pure ?_) (F.args_zip_next_1 _))))
  refine⟨_,rfl,?_⟩
  refine wpAny_letOwnedTupleGo_zip st1.z fun h2 z2 b2=>?_
  obtain⟨w1,w2,hO⟩:=st1.o
  have zlt:z<s.heap.objs.size:=Heap.lt_size st.z
  have t2:IsPair h2 s.heap.objs.size u v:=b2.extBut _ _ (Nat.ne_of_gt zlt) t1
  refine⟨.ref s.heap.objs.size,aI H s.heap.objs.size (.tup [x,y]),I.turnLaid (t':=s.toks) hf (fun b o hb e=>?_) (aV _) ⟨by show 2<=sizeLine;decide,[u,v],.cons ru (.cons rv' .nil),⟨_,t2,rfl,_,rfl⟩⟩,rfl,?_,?_,fun b hb=>?_⟩
  ·have hb':b≠z/\b≠ti/\b≠to/\b≠j1/\b≠j2:=by simpa using hb
   exact b2.extBut _ _ hb'.1 (k1' b o hb'.1 hb'.2.2.1 hb'.2.2.2.1 hb'.2.2.2.2 e)
  ·exact⟨s.heap.objs.size,x,y,I.hok.fresh (aV _),rfl,rfl,fun zs hz=>by rw[I.sqk_inj hz hx];exact ex,fun zs hz=>by rw[I.sqk_inj hz hy];exact ey⟩
  ·exact⟨z2,b2.extBut _ _ D.i st1.i,⟨_,_,b2.extBut _ _ D.o hO⟩,st1.x.by fun o e=>b2.extBut _ _ D.p e,st1.y.by fun o e=>b2.extBut _ _ D.q e⟩
  ·have hlt:b<s.heap.objs.size:=by
    obtain⟨u1,u2,hO'⟩:=st.o
    obtain⟨o1,e1,_⟩:=st.x
    obtain⟨o2,e2,_⟩:=st.y
    simp only [List.mem_cons,List.not_mem_nil,or_false]at hb
    rcases hb with rfl | rfl | rfl | rfl | rfl
    ·exact zlt
    ·exact Heap.lt_size st.i
    ·exact Heap.lt_size hO'
    ·exact Heap.lt_size e1
    ·exact Heap.lt_size e2
   rw[aE (Nat.ne_of_lt hlt)];exact(hf b hb).1
 done:=by
  intro X hP hw hK hc i pins s σ H E I hf st hg;subst hP hw hK;obtain⟨xs,ys,hx,hy,he⟩:=hg
  obtain⟨its,rv,p⟩:=I.sqk hx
  obtain⟨jts,rw',p'⟩:=I.sqk hy
  have hT:s.TypeIs (.ref z) "zip":=⟨_,st.z,rfl⟩
  have l1:=rv.length
  have l2:=rw'.length
  unfold pyNext;refine wpAny_bind (wpAny_attempt (wpAny_callSpecial?_slot (name:=Str.ofString "__next__") hT F.slot_zip_next (wpAny_call_entry F.slot_zip_next hT F.entry_zip_next (Rr (I.ok.hd hc) D st p p' (he.imp (fun h=>by simp;omega) (fun h=>by simp;omega)) fun h1 e k1' hx'=>?_) (F.args_zip_next_1 _))))
  obtain⟨o,ho,hcl⟩:=hx'
  refine wpAny_bind (wpAny_isInstance (T:="StopIteration") (b:=true) ⟨o,ho,hcl⟩ isSubtype_stop ?_)
  refine wpAny_pure ⟨rfl,I.turnL (t':=s.toks) hf fun b u hb e'=>?_⟩
  have hb':b≠z/\b≠ti/\b≠to/\b≠j1/\b≠j2:=by simpa using hb
  exact k1' b u hb'.1 hb'.2.2.1 hb'.2.2.2.1 hb'.2.2.2.2 e'
 self:=fun _ _ _ _ _ st h=>wpAny_pyIter_zip st.z h
def Sw (k1 k2:Bool) (h:Heap) (a1 a2:Addr):Heap:=
 ((((h.push (lO k1 a1)).push (lO k2 a2)).push {cls:=.type "tuple",data:=.seq #[.ref h.objs.size,.ref (h.objs.size+1)] }).push {cls:=.type "tuple",data:=.seq #[.none,.none] }).push {cls:=.type "zip",data:=.fields #[.none,.bool false,.bool false,.ref (h.objs.size+2),.ref (h.objs.size+3)] }
theorem Rs (k1 k2:Bool) (a1 a2:Addr) (xs ys:Array Value) :
  Meets (Builtin.«zip.__new__» ⟨[.type "zip",.ref a1,.ref a2],[]⟩) (fun _ R s=>SeqIn k1 s.heap a1 xs/\SeqIn k2 s.heap a2 ys/\R (.ok (.ret (.ref (s.heap.objs.size+4)))) {s with heap:=Sw k1 k2 s.heap a1 a2 }):=
 .of_wp fun prog w A R s h=>by
  obtain⟨hp,g,d,tk,os⟩:=s;obtain⟨hl1,hl2,h⟩:=h
  have hsub:=sub_zip
  have L1:SeqIn k1 (Shared.heap ⟨hp,g,d,tk,os⟩) a1 xs:=hl1
  have L2:SeqIn k2 (Shared.heap ⟨hp.push (lO k1 a1),g,d,tk,os⟩) a2 ys:=SeqIn.by hl2 fun o e=>dH _ e
  wp_walk using Fq L1,Fq L2
  refine⟨_,rfl,?_⟩
  simp only [Heap.size_push]
  exact h
theorem Rt {n a1 a2:Addr} (h1:a1<n) (h2:a2<n):Lq (n+4) (n+2) (n+3) n (n+1) a1 a2 where
 i:=Nat.ne_of_lt (Nat.add_lt_add_left Zd n)
 o:=Nat.ne_of_lt (Nat.add_lt_add_left Zd n)
 p:=Nat.ne_of_lt (Nat.lt_add_of_pos_right Zd)
 q:=Nat.ne_of_lt (Nat.add_lt_add_left Zd n)
 io:=Nat.ne_of_lt (Nat.add_lt_add_left Zd n)
 ip:=Nat.ne_of_gt (Nat.lt_add_of_pos_right Zd)
 iq:=Nat.ne_of_gt (Nat.add_lt_add_left Zd n)
 op:=Nat.ne_of_gt (Nat.lt_add_of_pos_right Zd)
 oq:=Nat.ne_of_gt (Nat.add_lt_add_left Zd n)
 pq:=Nat.ne_of_lt (Nat.lt_add_of_pos_right Zd)
 a:=fun b hb=>by
  have hlt:b<n:=by rcases hb with rfl | rfl <;> assumption
  exact⟨Nat.ne_of_lt (Nat.lt_of_lt_of_le hlt (Nat.le_add_right n 4)),Nat.ne_of_lt (Nat.lt_of_lt_of_le hlt (Nat.le_add_right n 3)),Nat.ne_of_lt hlt,Nat.ne_of_lt (Nat.lt_of_lt_of_le hlt (Nat.le_add_right n 1))⟩
section
variable {prog:Program} {w:World} {A:Around} {E:Value->Shared->Prop} {s:Shared}
theorem Ls {k1 k2:Bool} {a1 a2:Addr} {xs ys:Array Value} {Q:Value->Shared->Prop} (hl1:SeqIn k1 s.heap a1 xs) (hl2:SeqIn k2 s.heap a2 ys)
  (h:∀h',Vh k1 k2 h' (s.heap.objs.size+4) (s.heap.objs.size+2) (s.heap.objs.size+3) s.heap.objs.size (s.heap.objs.size+1) a1 a2 .none 0 0->(∀c o,s.heap.get? c=some o->h'.get? c=some o)->Q (.ref (s.heap.objs.size+4)) {s with heap:=h' }) :
  wpAny (model prog w) A (call (.type "zip") [.ref a1,.ref a2]) Q E s:=by
 refine callType_new F.called_zip Zd (F.typeCall_zip_2 _ _) (F.newCall_zip_2 _ _) (fun obj=>F.args_object_init_3 obj _ _) F.entry_zip_new (Rs k1 k2 a1 a2 xs ys) ⟨hl1,hl2,?_⟩
 have n1:(s.heap.push (lO k1 a1)).objs.size=s.heap.objs.size+1:=Heap.size_push ..
 have n2:((s.heap.push (lO k1 a1)).push (lO k2 a2)).objs.size=s.heap.objs.size+2:=by rw[Heap.size_push,n1]
 have up:∀ {o1 o2 o3 o4 o5:Obj} {b:Addr} {o:Obj},s.heap.get? b=some o->(((((s.heap.push o1).push o2).push o3).push o4).push o5).get? b=some o:=fun e=>dH _ (dH _ (dH _ (dH _ (dH _ e))))
 have at5:∀ {h0:Heap} {o:Obj} {n:Nat},h0.objs.size=n->o.isFreed=false->(h0.push o).get? n=some o:=fun e f=>by subst e;exact Heap.get?_push_size _ f
 have g1:(Sw k1 k2 s.heap a1 a2).get? s.heap.objs.size=some (lO k1 a1):=dH _ (dH _ (dH _ (dH _ (Heap.get?_push_size _ rfl))))
 have g2:(Sw k1 k2 s.heap a1 a2).get? (s.heap.objs.size+1)=some (lO k2 a2):=dH _ (dH _ (dH _ (at5 n1 rfl)))
 have g3:IsPair (Sw k1 k2 s.heap a1 a2) (s.heap.objs.size+2) (.ref s.heap.objs.size) (.ref (s.heap.objs.size+1)):=dH _ (dH _ (at5 n2 rfl))
 have g4:IsPair (Sw k1 k2 s.heap a1 a2) (s.heap.objs.size+3) .none .none:=dH _ (at5 (by rw[Heap.size_push,n2]) rfl)
 have g5:IsZip (Sw k1 k2 s.heap a1 a2) (s.heap.objs.size+4) (s.heap.objs.size+2) (s.heap.objs.size+3) .none:=at5 (by rw[Heap.size_push,Heap.size_push,n2]) rfl
 exact⟨⟨_,g5,rfl⟩,h _ ⟨g5,g3,⟨_,_,g4⟩,⟨_,g1,rfl,rfl⟩,⟨_,g2,rfl,rfl⟩⟩ fun c o e=>up e⟩
end
section
variable {X:Cx} {a b:Expr} {ta tb:TE} {p pos tpos:Pos} {es:List Expr} {n:Nat}
def Vi (K:W.Frag) (ta tb:TE):TI:=fun σ H R=>ta σ H fun x H1=>tb σ H1 fun y H2=>mR x fun a1=>mR y fun a2=>∃k1 k2 xs ys,xI K k1 H2 a1 xs/\xI K k2 H2 a2 ys/\R (Wf K k1 k2 a1 a2) H2
theorem Fu:bootBuiltins "zip"=some (.type "zip"):=by decide +kernel
theorem Ru (hg:Gl X "zip") (hm:X.mg "zip"=none) (ha:PE X a ta) (hb:PE X b tb) (h1:aT a=true) (h2:aT b=true):PI X (.Tuple es n tpos) (.Call (.Name "zip" p) [a,b] [] pos) (Vi X.K ta tb):=by
 intro pins s σ H R I h;have hs:starEach [a,b] X.env=[(false,eval a X.env),(false,eval b X.env)]:=by rw[bL h1,bL h2];rfl
 have hs2:starEach [b] X.env=[(false,eval b X.env)]:=by rw[bL h2];rfl
 have hA:PA X [a,b] (kE ta (kE tb wS)):=xE ha (xE hb wU h2) h1
 refine Call_ (oJ I hg hm Fu (PyProof.Rows.callWith_type1 (bT (hA pos pins s σ H (fun vs H2=>match vs with | [x,y]=>(mR x fun a1=>mR y fun a2=>∃k1 k2 xs ys,xI X.K k1 H2 a1 xs/\xI X.K k2 H2 a2 ys/\R (Wf X.K k1 k2 a1 a2) H2) | _=>False) I ?_) fun us s1 ⟨vs,H1,I1,r1,q1⟩=>?_) (by rw[hs,hs2]) (by rw[hs2];rfl)))
 ·exact h
 ·dsimp only at q1
  split at q1
  rotate_left
  ·exact q1.elim
  rename_i x y
  rw[dD]at q1;obtain⟨a1,rfl,q1⟩:=q1
  rw[dD]at q1;obtain⟨a2,rfl,k1,k2,xs,ys,q2,q3,q⟩:=q1
  cases r1 with
  | cons r rr=>
   cases rr with
   | cons r' rr=>
    cases rr
    cases r
    cases r'
    obtain⟨its,rv,p1⟩:=I1.sqk q2
    obtain⟨jts,rw',p2⟩:=I1.sqk q3
    refine Ls p1 p2 fun h' S k=>?_
    have I2:Inv X pins σ H1 {s1 with heap:=h' }:=I1.kept (t':=s1.toks) k
    refine wpAny_pyIter_zip (s:={s1 with heap:=h' }) S.z ?_
    refine⟨s1.heap.objs.size+4,_,_,_,H1,rfl,I2,Ft (Rt p1.lt p2.lt),S,fun b hb=>?_,q⟩
    have hb':s1.heap.objs.size<=b:=by
     simp only [List.mem_cons,List.not_mem_nil,or_false]at hb
     rcases hb with rfl | rfl | rfl | rfl | rfl
     ·exact Nat.le_add_right _ 4
     ·exact Nat.le_add_right _ 2
     ·exact Nat.le_add_right _ 3
     ·exact aV _
     ·exact Nat.le_add_right _ 1
    exact I1.fpOk hb' (I1.hok.fresh hb')
theorem R.gv {K:W.Frag} (hg:Gl X "zip") (hm:X.mg "zip"=none) (ha:XE X a ta) (hb:XE X b tb) (hK:X.K=K:=by rfl) (h1:aT a=true:=by rfl) (h2:aT b=true:=by rfl):XI X (.Tuple es n tpos) (.Call (.Name "zip" p) [a,b] [] pos) (Vi K ta tb):=
 hK ▸ ⟨Ru hg hm ha.h hb.h h1 h2⟩
end
theorem Fv {K:W.Frag} {k1 k2:Bool} {a1 a2:Addr} {xs ys:List V} {js:List (Option Nat)} {g:TG} {tt:TT} {te:TE} {σ:St} {H:Hp} {Q:List V->Hp->Prop} (hz:xs.length<=100000) (Pv:Nat->List V->Hp->Prop) (hA:∀i zs H,Pv i zs H->xI K k1 H a1 xs/\xI K k2 H a2 ys/\zs.length<=i) (h0:Pv 0 [] H)
  (hs:∀i x y zs H t,xs[i]?=some x->ys[i]?=some y->Pv i zs H->H t=none->g (.ref t) (wG js σ) (aI H t (.tup [x,y])) fun σ2 H2=>tt σ2 H2 fun b H3=>if b=true then te σ2 H3 fun v H4=>Pv (i+1) (zs++[v]) H4 else Pv (i+1) zs H3)
  (hd:∀zs H,Pv (min xs.length ys.length) zs H->Q zs H):lD js g tt te σ (Wf K k1 k2 a1 a2) H Q:=by
 refine⟨fun i m zs H=>m=min xs.length ys.length - i/\i<=min xs.length ys.length/\Pv i zs H,⟨_,rfl,Nat.zero_le _,h0⟩,?_⟩
 rintro i m zs H ⟨rfl,hi,p⟩
 obtain⟨q1,q2,q3⟩:=hA i zs H p
 by_cases hlt:i<min xs.length ys.length
 ·have l1:i<xs.length:=Nat.lt_of_lt_of_le hlt (Nat.min_le_left _ _)
  have l2:i<ys.length:=Nat.lt_of_lt_of_le hlt (Nat.min_le_right _ _)
  refine .inr ⟨⟨xs,ys,xs[i],ys[i],q1,q2,by simp [l1],by simp [l2]⟩,kI (m:=100000) Zo Zd,Pv (i+1),fun zs' H' p'=>⟨_,Zo,rfl,hlt,p'⟩,fun v H' y=>?_⟩
  obtain⟨t,x,y,ht,rfl,rfl,e1,e2⟩:=y
  exact hs i x y zs H t (e1 xs q1) (e2 ys q2) p ht
 ·have e:i=min xs.length ys.length:=by omega
  subst e;exact .inl ⟨⟨xs,ys,q1,q2,Zo⟩,hd zs H p⟩
end L2
namespace L2
open PySem PySem.Spec PyProof.Rows
section
variable {X:Cx}
theorem Bi (A:Around):A.in1.units=A.units+1:=rfl
def eT (xs ys:List V):Bool:=(List.range (min xs.length ys.length)).all (fun j=>yK (xs.getD j .non) (ys.getD j .non))&&xs.length == ys.length
end
end L2
namespace L2
open PySem PySem.Spec PyProof.Rows
section
variable {X:Cx} {o:Expr} {to:TE} {p pos apos cpos:Pos}
def Nw:Ae:=fun o i v H Q=>∃a H',o=.ref a/\DPut H a i v H'/\Q H'
theorem Fx (hu:X.A.units+1<cLine):Jj X Nw:=by
 intro pins s σ H o i v ov iv u Q I ro ri rv h;obtain⟨a,H',rfl,g,q⟩:=h
 cases ro
 exact Ax hu I g ri rv fun s' I'=>⟨H',I',q⟩
theorem R.cf (hu:X.A.units+1<cLine):Re X Nw:=⟨Fx hu⟩
end
end L2
namespace L2
open PySem PySem.Spec PyProof.Rows
def Fy (prs:List (Str × Int)) (n:Str) (v:Int):List (Str × Int):=prs.map fun q=>if q.1=n then (q.1,v) else q
theorem Bj (prs:List (Str × Int)) (n:Str) (v:Int):(Fy prs n v).map (·.1)=prs.map (·.1):=by
 unfold Fy;rw[List.map_map];refine List.map_congr_left fun q _=>?_
 show(if q.1=n then (q.1,v) else q).1=q.1
 split <;> rfl
theorem Lu {prs:List (Str × Int)} {n:Str} {v:Int} (h:n∈prs.map (·.1)):bR (iN prs) (Sum.inr n) (.int v)=iN (Fy prs n v):=by
 unfold bR;rw[if_pos (by rw[cM,lM];obtain⟨a,ha⟩:=hU h;rw[ha];rfl)]
 unfold iN Fy;rw[List.map_map,List.map_map];refine List.map_congr_left fun q _=>?_
 show(if (Sum.inr q.1:aW)=Sum.inr n then (Sum.inr q.1,V.int v) else ((Sum.inr q.1:aW),V.int q.2))=((Sum.inr (if q.1=n then (q.1,v) else q).1:aW),V.int (if q.1=n then (q.1,v) else q).2)
 by_cases e:q.1=n
 ·rw[if_pos (by rw[e]),if_pos e]
 ·rw[if_neg (fun z=>e (Sum.inr.inj z)),if_neg e]
def zD (C:Addr):Sp:=fun vs H Q _=>∃(p dx:Addr) (r:V) (prs:List (Str × Int)),vs=[.ref p,r]/\H p=some (.ins C dx [])/\Ro H r prs/\(prs.map (·.1)).Nodup/\prs.length<=1000 ∧
 ∀H' d,H d=none->H' p=some (.ins C dx [("amounts",.ref d)])->H' d=some (.dK (iN prs))->(∀b o,H b=some o->b≠p->H' b=some o)->Q .non H'
end L2
namespace L2
open PySem PySem.Spec PyProof.Rows
section
variable {X:Cx}
def Fz (i j:Int):Prop:=0<j/\j<2 ^ 64
theorem Lv:OpR X (binaryOp .FloorDiv) (m2 Fz fun i j=>.int (i / j)):=(Vx (C:=Fz) (g:=fun i j=>i / j) fun i j _ _ s Q E hc q=>by
 have h1:i.fdiv j=i / j:=Int.fdiv_eq_ediv_of_nonneg _ (by have:=hc.1;omega)
 refine floordiv_int (by have:=hc.1;omega) (by rw[h1];exact q) (.inl (PyProof.noPylong_of_log2 ?_))
 have h2:j.natAbs<2 ^ 64:=by have:=hc.1;have:=hc.2;omega
 exact Nat.lt_of_lt_of_le (Nat.log2_lt (by have:=hc.1;omega) |>.mpr h2) Zd).imp tE
theorem R.ee:iR X (binaryOp .FloorDiv) (m2 Fz fun i j=>.int (i / j)):=⟨Lv⟩
end
def K1 (p:Addr) (H H':Hp):Prop:=∀c o,H c=some o->c≠p->H' c=some o
def KLET:List Nat:=LET++Xy
def uX (z:Str):Prop:=1<=z.length/\z.length<=12/\∀c∈z.cps.toList,c∈KLET
end L2
namespace L2
open PySem PySem.Spec PyProof.Rows
section
variable {prog:Program} {w:World} {A:Around} {E:Value->Shared->Prop} {s:Shared}
theorem uY {a:Value} {Q:Bool->Shared->Prop} (ha:(a == a)=true) (h:Q true s):wpAny (model prog w) A (eqBool a a) Q E s:=by
 unfold eqBool;refine wpAny_holding ?_
 rw[if_pos ha];exact wpAny_bind (wpAny_rule (wpAny_pure h))
theorem Ga (a:Value):(a == a)=true:=beq_self_eq_true a
theorem uZ {b fin:Bool} {Q:Bool->Shared->Prop}:∀(l:List Value) (i:Nat),Q fin s->W.KatLex prog w A b fin Q (l.zip l) i s
 | [],i,h=>W.kat_nil h
 | x::l,i,h=>W.kat_cons (uY (Ga x) (W.kat_yes (uZ l (i+1) h)))
end
end L2
namespace L2
open PySem PySem.Spec PyProof.Rows
section
variable {X:Cx} {pins:List (Addr × Obj)} {σ:St} {H:Hp} {s:Shared} {a:Addr} {o:Obj} {kvs:List (aW × V)}
def Ny (t:TS):TS:=fun D σ H=>t {nx:=fun σ' H2=>∃a kvs o,(∃kvs0,H a=some (.dK kvs0))/\H2 a=some (.frz o (.dK kvs))/\D.nx σ' (aI H2 a (.dK kvs)),rt:=fun _ _=>False } σ H
theorem Lw {e:Stmt} {t:TS} (he:PS X e t):PS X e (Ny t):=by
 intro pins s σ H D I h;refine bT (he pins s σ H _ I h) fun f s1 q=>?_
 cases f with
 | next=>
  obtain⟨σ',H2,I2,a,kvs,o,⟨kvs0,e0⟩,e2,q⟩:=q
  refine⟨σ',_,I2.thaw e2 (fun o' u' z=>?_),q⟩
  have:=I.base.frzs a o' u' z
  rw[e0]at this;cases this
 | brk=>obtain⟨_,_,_,q⟩:=q;exact q.elim
 | cont=>obtain⟨_,_,_,q⟩:=q;exact q.elim
 | ret u=>obtain⟨_,_,_,_,_,q⟩:=q;exact q.elim
end
namespace R
section
variable {X:Cx} {tg l:Expr} {tl:TE} {apos cpos:Pos} {e:Stmt} {t:TS}
theorem jm (h:XS X e t):XS X e (Ny t):=⟨Lw h.h⟩
end
end R
end L2
namespace L2
open PySem PySem.Spec PyProof.Rows
section
variable {X:Cx} {o e f:Expr} {apos cpos:Pos} {td ty tx:TE}
theorem R.eg {pos:Pos}:XE X (.Dict [] [] pos) Dp:=⟨Dr⟩
end
end L2
namespace L2
open PySem PySem.Spec PyProof.Rows
section
variable {κ:Type} [DecidableEq κ]
theorem Gb {kvs:List (κ × V)} {k:κ} {v:V} {p:κ × V} (h:p∈bR kvs k v):p=(k,v)∨(p∈kvs/\p.1≠k):=by
 cases hv:bN kvs k with
 | none=>
  rw[iW v hv]at h;rcases Zma.mp h with h | h
  ·exact .inr ⟨h,fun e=>uO hv (e ▸ Zmm.mpr ⟨p,h,rfl⟩)⟩
  ·exact .inl (Zms.mp h)
 | some x=>
  unfold bR at h;rw[cM,hv]at h;simp only [Option.isSome_some,if_true]at h
  obtain⟨p',hp',rfl⟩:=Zmm.mp h
  by_cases e:p'.1=k
  ·rw[if_pos e];left;rw[e]
  ·rw[if_neg e];exact .inr ⟨hp',e⟩
theorem Bk {kvs:List (κ × V)} {k:κ} {v:V} (j:κ):j∈(bR kvs k v).map (·.1)↔j=k∨j∈kvs.map (·.1):=by
 cases hv:bN kvs k with
 | none=>
  rw[iW v hv,cS,Zma];simp only [List.map_cons,List.map_nil,Zms]
  exact Or.comm
 | some x=>
  have e:(bR kvs k v).map (·.1)=kvs.map (·.1):=by
   unfold bR;rw[cM,hv];simp only [Option.isSome_some,if_true,List.map_map]
   refine List.map_congr_left fun p _=>?_
   simp only [Function.comp]
   split <;> rfl
  rw[e];exact⟨.inr,fun z=>z.elim (fun z=>z ▸ yO hv) id⟩
theorem Lx {kvs:List (κ × V)} {k:κ} {v:V} (hn:(kvs.map (·.1)).Nodup):((bR kvs k v).map (·.1)).Nodup:=by
 cases hv:bN kvs k with
 | none=>exact Kk v hn hv
 | some x=>
  have e:(bR kvs k v).map (·.1)=kvs.map (·.1):=by
   unfold bR;rw[cM,hv];simp only [Option.isSome_some,if_true,List.map_map]
   refine List.map_congr_left fun p _=>?_
   simp only [Function.comp]
   split <;> rfl
  rw[e];exact hn
end
end L2
namespace L2
open PySem PySem.Spec PyProof.Rows
section
variable {prog:Program} {w:World} {A:Around} {E:Value->Shared->Prop} {s:Shared} {u d:Addr} {i n ep:Nat} {od:Obj} {es:Array DictEntry}
theorem Gc {Q:Value->Shared->Prop} (lo:(d == sysModules)=false) (g:s.heap.get? d=some od) (ec:od.ExactDict) (gd:od.data=.dict es ep)
  (q:Q (.ref s.heap.objs.size) {s with heap:=s.heap.push {cls:=.type "dict_keyiterator",data:=.fields #[.ref d,.int 0 0,.int es.size 0,.int ep 0] } }):wpAny (model prog w) A (pyIter (.ref d)) Q E s:=by
 have ty:s.TypeIs (.ref d) "dict":=⟨od,g,ec.1⟩
 refine wpAny_pyIter_slot ty PySem.F.slot_dict_iter (wpAny_call_entry PySem.F.slot_dict_iter ty PySem.F.entry_dict_iter ?_ (PySem.F.args_dict_iter_1 _))
 unfold Builtin.«dict.__iter__»;refine wpAny_bind ?_;unfold Builtin.Dict.dictSlotNone;refine wpAny_bind (wpAny_notOrdered_dict ty ?_)
 show wpAny _ _ (pure (Value.ref d)) _ _ s;refine wpAny_pure ?_;show wpAny _ _ (Builtin.Dict.showsAll d >>= _) _ _ s
 unfold Builtin.Dict.showsAll;rw[if_neg (by rw[lo];exact Bool.false_ne_true)];refine wpAny_bind (wpAny_pure (wpAny_bind (wpAny_dictEntries g gd (wpAny_bind (wpAny_dictEpoch g gd ?_)))))
 refine wpAny_bind (wpAny_newObj_type (wpAny_pure ⟨_,rfl,"dict_keyiterator",_,⟨_,Heap.get?_push_size _ rfl,rfl⟩,PySem.F.slot_dict_keyiterator_next.lookup,?_⟩));simpa [rawInt]using q
theorem Gd {Q:Option Value->Shared->Prop} (hit:s.heap.IsKeyIter u d i n ep) (g:s.heap.get? d=some od) (gd:od.data=.dict es ep) (hn:es.size=n) (hi:i<es.size)
  (q:∀h',h'.IsKeyIter u d (i+1) n ep->Heap.SameBut u s.heap h'->Q (some es[i].key) {s with heap:=h' }):wpAny (model prog w) A (pyNext (.ref u)) Q E s:=by
 obtain⟨o,ho,hc,hd⟩:=id hit
 have ty:=hit.typeIs;have own:Builtin.Dict_items.ownsTuple "dict_keyiterator"=false:=by decide
 unfold pyNext;refine wpAny_bind (wpAny_attempt (wpAny_callSpecial?_slot (name:=Str.ofString "__next__") ty PySem.F.slot_dict_keyiterator_next (wpAny_call_entry PySem.F.slot_dict_keyiterator_next ty PySem.F.entry_dict_keyiterator_next ?_ (PySem.F.args_dict_keyiterator_next_1 _))))
 refine wpAny_bind (wpAny_pure (wpAny_bind (wpAny_bind ?_)))
 first | refine wpAny_bind (wpAny_typeNameOfWhole_keyiter ty (wpAny_pure (wpAny_bind (wpAny_fieldsOf ho hd ?_)))) | refine wpAny_bind (wpAny_typeNameOf_keyiter ty (wpAny_pure (wpAny_bind (wpAny_fieldsOf ho hd ?_))))
 simp only [own,Bool.false_eq_true,if_false];show wpAny _ _ (if (Value.ref d == Value.none)=true then _ else _) _ _ s
 rw[if_neg (show ¬ ((Value.ref d == Value.none)=true) from Bool.false_ne_true)];refine wpAny_bind (wpAny_pure (wpAny_bind (wpAny_dictEntries g gd ?_)))
 rw[if_neg (by rw[hn];simp)];refine wpAny_bind (wpAny_pure (wpAny_bind (wpAny_dictEpoch g gd ?_)));rw[if_neg Zs];refine wpAny_pure ?_
 simp only [show ¬ ((i:Int)<0) from by omega,if_false,Int.toNat_natCast,Array.getElem?_eq_getElem hi];refine wpAny_bind ?_
 first | refine wpAny_bind (wpAny_typeNameOfWhole_keyiter ty (wpAny_pure (wpAny_bind (wpAny_isOneOf_keyiter ty ?_)))) | refine wpAny_bind (wpAny_typeNameOf_keyiter ty (wpAny_pure (wpAny_bind (wpAny_isOneOf_keyiter ty ?_))))
 show wpAny _ _ (setField (.ref u) 1 (rawInt ((i:Int)+1)) >>= _) _ _ s;refine wpAny_bind (wpAny_setField ho hd Zs ?_)
 have ht':(s.heap.update u (Obj.mapFields (·.setIfInBounds 1 (rawInt ((i:Int)+1))))).IsKeyIter u d (i+1) n ep:=⟨_,Heap.get?_update_self _ ho (Obj.isFreed_of_fields (Obj.data_mapFields hd _)),(Obj.cls_mapFields ..).trans hc,by rw[Obj.data_mapFields hd];simp [rawInt]⟩
 refine wpAny_bind (wpAny_holding (wpAny_bind (wpAny_isOneOf_keyiter (s:={s with heap:=s.heap.update u (Obj.mapFields (·.setIfInBounds 1 (rawInt ((i:Int)+1)))) }) ht'.typeIs ?_)))
 show wpAny _ _ (pure es[i].key) _ _ _;exact wpAny_pure (wpAny_pure ⟨_,rfl,wpAny_pure (q _ ht' (Heap.SameBut.update ..))⟩)
theorem Ly {Q:Option Value->Shared->Prop} (hh:A.handled=none) (hit:s.heap.IsKeyIter u d i n ep) (g:s.heap.get? d=some od) (gd:od.data=.dict es ep) (hn:es.size=n) (hi:es.size<=i)
  (q:∀h',Heap.ExtBut u s.heap h'->Q none {s with heap:=h' }):wpAny (model prog w) A (pyNext (.ref u)) Q E s:=by
 obtain⟨o,ho,hc,hd⟩:=id hit
 have ty:=hit.typeIs;have own:Builtin.Dict_items.ownsTuple "dict_keyiterator"=false:=by decide
 unfold pyNext;refine wpAny_bind (wpAny_attempt (wpAny_callSpecial?_slot (name:=Str.ofString "__next__") ty PySem.F.slot_dict_keyiterator_next (wpAny_call_entry PySem.F.slot_dict_keyiterator_next ty PySem.F.entry_dict_keyiterator_next ?_ (PySem.F.args_dict_keyiterator_next_1 _))))
 refine wpAny_bind (wpAny_pure (wpAny_bind (wpAny_bind ?_)))
 first | refine wpAny_bind (wpAny_typeNameOfWhole_keyiter ty (wpAny_pure (wpAny_bind (wpAny_fieldsOf ho hd ?_)))) | refine wpAny_bind (wpAny_typeNameOf_keyiter ty (wpAny_pure (wpAny_bind (wpAny_fieldsOf ho hd ?_))))
 simp only [own,Bool.false_eq_true,if_false];show wpAny _ _ (if (Value.ref d == Value.none)=true then _ else _) _ _ s
 rw[if_neg (show ¬ ((Value.ref d == Value.none)=true) from Bool.false_ne_true)];refine wpAny_bind (wpAny_pure (wpAny_bind (wpAny_dictEntries g gd ?_)))
 rw[if_neg (by rw[hn];simp)];refine wpAny_bind (wpAny_pure (wpAny_bind (wpAny_dictEpoch g gd ?_)));rw[if_neg Zs];refine wpAny_pure ?_
 simp only [show ¬ ((i:Int)<0) from by omega,if_false,Int.toNat_natCast,Array.getElem?_eq_none hi];refine wpAny_bind ?_
 first | refine wpAny_bind (wpAny_typeNameOfWhole_keyiter ty (wpAny_pure ?_)) | refine wpAny_bind (wpAny_typeNameOf_keyiter ty (wpAny_pure ?_))
 show wpAny _ _ (setField (.ref u) 0 .none >>= _) _ _ s;refine wpAny_bind (wpAny_setField ho hd Zs ?_);show wpAny _ _ (newExc (.type "StopIteration") [] >>= _) _ _ _
 refine wpAny_bind ?_;simp only [newExc,newTuple];refine wpAny_bind (wpAny_newObj_type ?_ (by size_fits))
 refine wpAny_bind (m:=firstArgMember _ _) (wpAny_of_eq (a:=Value.none) (by first | rfl | (simp only [firstArgMember];rfl)) (wpAny_newObj_type ?_ (by size_fits)))
 simp only [raiseNew];refine wpAny_bind (wpAny_handled ?_);rw[show A.in1.handled=none from hh];refine wpAny_bind (wpAny_pure (wpAny_throw ?_))
 exact wpAny_bind (wpAny_isInstance (T:="StopIteration") (b:=true) ⟨_,Heap.get?_push_size _ rfl,rfl⟩ isSubtype_stop (wpAny_pure (q _ (((Heap.SameBut.update ..).extBut.push _).push _))))
end
end L2
namespace L2
open PySem PySem.Spec PyProof.Rows
@[reducible] def hV:KeyOrd where
 α:=Int
 blt a b:=decide (a<b)
 irrefl a:=by simp
 trans a b c h1 h2:=by simp only [decide_eq_true_eq]at *;omega
 negTrans a b c h:=by simp only [decide_eq_true_eq]at *;omega
 total a b h1 h2:=by simp only [decide_eq_false_iff_not]at *;omega
def vA (h:Heap) (v:Value) (q:Int × Addr):Prop:=∃t rest,v=Value.ref q.2/\IsTup h q.2 (Value.int q.1 t::rest).toArray
def TnsAt (h:Heap):List Value->List (Int × Addr)->Prop
 | [],[]=>True
 | v::vs,q::qs=>vA h v q/\TnsAt h vs qs
 | _,_=>False
theorem TnsAt.len {h:Heap}:∀ {vs:List Value} {qs:List (Int × Addr)},TnsAt h vs qs->vs.length=qs.length
 | [],[],_=>rfl
 | _::_,_::_,x=>congrArg (·+1) x.2.len
theorem TnsAt.keep {h h':Heap} (k:∀v q,vA h v q->vA h' v q):∀ {vs:List Value} {qs:List (Int × Addr)},TnsAt h vs qs->TnsAt h' vs qs
 | [],[],_=>True.intro
 | _::_,_::_,x=>⟨k _ _ x.1,x.2.keep k⟩
theorem TnsAt.get {h:Heap}:∀ {vs:List Value} {qs:List (Int × Addr)} (i:Nat),TnsAt h vs qs->i<vs.length->vA h (vs.getD i Value.none) (qs.getD i ((0:Int),0))
 | v::vs,q::qs,0,x,_=>x.1
 | v::vs,q::qs,i+1,x,hi=>by
  have:=TnsAt.get i x.2 (by simpa using hi)
  simpa using this
theorem TnsAt.tups {h:Heap}:∀ {vs:List Value} {qs:List (Int × Addr)},TnsAt h vs qs->∃fs,W.KatTups h vs fs/\fs.length=vs.length/\∀v∈fs,∃x t,v=Value.int x t
 | [],[],_=>⟨[],.nil,rfl,fun v hv=>nomatch hv⟩
 | v::vs,q::qs,⟨⟨t,rest,e,o,ho,hc,n,hd⟩,r⟩=>by
  obtain⟨fs,h1,h2,h3⟩:=r.tups
  subst e;refine⟨Value.int q.1 t::fs,.cons ho hc hd Zs h1,congrArg (·+1) h2,fun v hv=>?_⟩
  rcases List.mem_cons.mp hv with e | hv
  ·exact⟨_,_,e⟩
  ·exact h3 v hv
abbrev hW (qs:List (Int × Addr)) (i:Nat):hV.α:=(qs.getD i ((0:Int),0)).1
section
variable {prog:Program} {w:World} {A:Around} {E:Value->Shared->Prop} {s:Shared}
theorem Vj {v v':Value} {p q:Int × Addr} {Q:Bool->Shared->Prop} (hx:vA s.heap v p) (hy:vA s.heap v' q) (hne:p.1=q.1->p=q) (h:Q (decide (p.1<q.1)) s) :
  wpAny (model prog w) A (keyLt' (tuples' true) v v') Q E s:=by
 obtain⟨t,rest,rfl,o,ho,_,n,hd⟩:=hx
 obtain⟨t',rest',rfl,o',ho',_,n',hd'⟩:=hy
 by_cases e:p.1=q.1
 ·have e2:=hne e
  subst e2;rw[ho]at ho';cases ho'
  refine W.kat_lt ho hd ho hd ?_
  have e4:decide (p.1<p.1)=false:=by simpa using Int.lt_irrefl p.1
  rw[e4]at h;refine uZ _ 0 ?_
  simpa using h
 ·refine W.kat_lt ho hd ho' hd' (W.kat_cons (wpAny_eqBool_int (W.kat_go (fun e'=>absurd (eq_of_beq e') e) (fun _=>W.kat_no (oneLt_int h)))))
theorem qN {a:Addr} {vs:List Value} {qs:List (Int × Addr)} {n:Nat} {R:PySem.Fin->Shared->Prop} (ho:s.heap.get? a=some (seqObj "list" vs.toArray n)) (hp:TnsAt s.heap vs qs) (hn:(qs.map (·.1)).Nodup) (h64:vs.length<64)
  (h:∀p:Array Nat,Prm vs.length p->Up (O:=hV) (hW qs) p vs.length->R (.done (.ret .none)) {s with heap:=sortedHeap s.heap a vs (p.toList.map fun i=>vs.getD i Value.none).toArray }) :
  wpAny (model prog w) A (Builtin.«list.sort» ⟨[.ref a],[]⟩) R E s:=by
 have ha:a<s.heap.objs.size:=Heap.lt_size ho
 have hs1:vs.toArray.size<=sizeLine:=by rw[dG];exact eK (Nat.le_of_lt h64) Zd
 rw[list_sort_plain];apply wpAny_bind
 apply listItems_at ho rfl
 apply wpAny_bind
 refine listUpdate_at ho rfl ?_ hs1 (Nat.zero_le _)
 obtain⟨e1,g1⟩:∃e1,(s.heap.update a (Obj.mapSeq fun _=>(#[]:Array Value))).get? a=some (seqObj "list" #[] e1):=⟨_,get?_update_seq ho fun _=>#[]⟩
 apply wpAny_bind
 apply seqEpoch_at g1 rfl
 apply wpAny_bind
 refine wpAny_newTuple ?_ (by simpa using hs1)
 apply wpAny_bind
 refine wpAny_newList ?_ (Nat.zero_le _)
 apply wpAny_holding
 have g3:(((s.heap.update a (Obj.mapSeq fun _=>(#[]:Array Value))).push (seqObj "tuple" vs.toArray 0)).push (seqObj "list" #[] 0)).get? a=some (seqObj "list" #[] e1):=dH _ (dH _ g1)
 have kp:∀v q,vA s.heap v q->vA (((s.heap.update a (Obj.mapSeq fun _=>(#[]:Array Value))).push (seqObj "tuple" vs.toArray 0)).push (seqObj "list" #[] 0)) v q:=by
  rintro v q ⟨t,rest,rfl,o,hb,hc,hd⟩
  have hne:q.2≠a:=by
   intro z;rw[z]at hb;rw[ho]at hb;cases hb
   exact absurd (show(Value.type "list":Value)=.type "tuple" from hc) Zd
  refine⟨t,rest,rfl,o,dH _ (dH _ ?_),hc,hd⟩
  rw[Heap.get?_update_ne _ _ _ _ hne];exact hb
 have hp3:=hp.keep kp
 show wpAny (model prog w) A _ R E {s with heap:=((s.heap.update a (Obj.mapSeq fun _=>(#[]:Array Value))).push (seqObj "tuple" vs.toArray 0)).push (seqObj "list" #[] 0) }
 dsimp only;by_cases h2:vs.toArray.size<2
 ·rw[if_pos h2,if_pos h2];have hl2:vs.length<2:=by simpa using h2
  apply wpAny_bind
  apply wpAny_pure
  rw[StateT.run_pure];apply wpAny_bind
  apply wpAny_pure
  dsimp only;have out:Array.map (fun x=>x.2) (arrOf (SortSt.mk' general' (vs.toArray.zip vs.toArray) #[] 7 none))=((List.range vs.length).toArray.toList.map fun i=>vs.getD i Value.none).toArray:=by
   show Array.map (fun x=>x.2) (vs.toArray.zip vs.toArray)=_
   match vs,hl2 with
   | [],_=>simp
   | [_],_=>simp [List.range_succ]
  rw[out];have hsz:((List.range vs.length).toArray.toList.map fun i=>vs.getD i Value.none).toArray.size<=sizeLine:=by
   rw[dG,aQ,List.toList_toArray,List.length_range];exact eK (Nat.le_of_lt h64) Zd
  apply wpAny_bind
  apply seqEpoch_at g3 rfl
  apply wpAny_bind
  refine listUpdate_at g3 rfl ?_ (Nat.zero_le _) (Nat.le_succ_of_le hsz)
  simp only [bne_self_eq_false,Bool.false_eq_true,if_false]
  refine wpAny_pure (h _ (Array.Perm.refl _) fun i j x y=>?_)
  obtain rfl:i=j:=by omega
  exact KeyOrd.kle_refl _
 ·rw[if_neg h2,if_neg h2];have hl2:2<=vs.length:=by
   have:¬ vs.length<2:=by simpa using h2
   omega
  obtain⟨fs,t1,t2,t3⟩:=hp3.tups
  apply wpAny_bind
  refine W.kat_kind (T:=.type "int") t1 Zo (fun v hv=>?_) Zd ?_
  ·obtain⟨x,t,rfl⟩:=t3 v hv
   exact W.Looks.of_pure rfl
  have et:tuples' (Value.type "int" != Value.type "tuple")=tuples' true:=by rw[show(Value.type "int" != Value.type "tuple")=true by decide]
  rw[et];have run:=W.kat_run (prog:=prog) (w:=w) (A:=A) (E:=E) (κ:=tuples' true) (ks:=vs) (vs:=vs) (s:={s with heap:=((s.heap.update a (Obj.mapSeq fun _=>(#[]:Array Value))).push (seqObj "tuple" vs.toArray 0)).push (seqObj "list" #[] 0) })
   (Q:=fun st' s'=>∃p:Array Nat,p.size=vs.length/\arrOf st'=p.map (W.kas_item (vs.toArray.zip vs.toArray))/\failedOf st'=none/\Prm vs.length p/\Up (O:=hV) (hW qs) p vs.length/\s'={s with heap:=((s.heap.update a (Obj.mapSeq fun _=>(#[]:Array Value))).push (seqObj "tuple" vs.toArray 0)).push (seqObj "list" #[] 0) })
   (G:=fun p s'=>Prm vs.length p/\Up (O:=hV) (hW qs) p vs.length/\s'={s with heap:=((s.heap.update a (Obj.mapSeq fun _=>(#[]:Array Value))).push (seqObj "tuple" vs.toArray 0)).push (seqObj "list" #[] 0) })
   rfl hl2 h64 (fun p st' s' a1 a2 a3 a4=>⟨p,a1,a2,a3,a4⟩) ?_
  ·apply wpAny_bind
   refine wpAny_mono run ?_ fun _ _ e=>e
   rintro⟨⟨⟩,st'⟩ s' ⟨p,hz,har,hf,pp,pu,rfl⟩
   dsimp only;have hout:=W.kat_snds rfl har
   rw[hout];have hsz:((p.toList.map fun i=>vs.getD i Value.none).toArray).size<=sizeLine:=by
    rw[dG,aQ,Array.length_toList,hz];exact eK (Nat.le_of_lt h64) Zd
   apply wpAny_bind
   apply seqEpoch_at g3 rfl
   apply wpAny_bind
   refine listUpdate_at g3 rfl ?_ (Nat.zero_le _) (Nat.le_succ_of_le hsz)
   rw[hf];simp only [bne_self_eq_false,Bool.false_eq_true,if_false]
   exact wpAny_pure (h p pp pu)
  ·refine Ask.wp (lt:=lH (O:=hV) (hW qs)) (n:=vs.length) (fun i j C hi hj hC=>?_) _ (Ez Zo fun p h1 h2=>⟨h1,h2,rfl⟩)
   unfold W.kas_ask;refine Vj (hp3.get i hi) (hp3.get j hj) (fun e=>?_) hC
   have hl:=hp.len
   have ei:qs.getD i ((0:Int),0)=qs[i]'Zo:=by simp [List.getD,fB (show i<qs.length by omega)]
   have ej:qs.getD j ((0:Int),0)=qs[j]'Zo:=by simp [List.getD,fB (show j<qs.length by omega)]
   rw[ei,ej]at e ⊢;have hij:i=j:=(List.getElem_inj (xs:=qs.map (·.1)) (h₀:=by rw[aQ];omega) (h₁:=by rw[aQ];omega) hn).mp (by simpa using e)
   subst hij;rfl
theorem xJ {l:Addr} {o:Obj} {vs:List Value} {qs:List (Int × Addr)} {n:Nat} {Q:Value->Shared->Prop} (ho:s.heap.get? l=some o) (hc:o.cls=.type "list") (hd:o.data=.seq vs.toArray n) (hp:TnsAt s.heap vs qs) (hn:(qs.map (·.1)).Nodup) (h64:vs.length<64)
  (h:∀(h1 h':Heap) (p:Array Nat) (e:Nat),(∀b ob,s.heap.get? b=some ob->h1.get? b=some ob)->(∀b ob,h1.get? b=some ob->h'.get? b=some ob)->h'.get? h1.objs.size=some (seqObj "list" (p.toList.map fun i=>vs.getD i Value.none).toArray e) →
   Prm vs.length p->Up (O:=hV) (hW qs) p vs.length->Q (.ref h1.objs.size) {s with heap:=h' }) :
  wpAny (model prog w) A (call (.builtin "sorted") [.ref l]) Q E s:=by
 apply Calls.call_function_entry kind_sorted plain_sorted entry_sorted (args_sorted1 _)
 unfold Builtin.«sorted»
 apply wpAny_bind (m:=checkCount "sorted" 1 1 _)
 apply wpAny_pure
 apply wpAny_bind
 refine wpAny_collect_seq l (.inl rfl) ho hc hd (fun h1 k1=>?_) (by rw[dG];exact eK (Nat.le_of_lt h64) Zd)
 have e1:vs.toArray.toList=vs:=by simp
 rw[e1];apply wpAny_bind
 apply wpAny_newList
 ·have g2:(h1.push (seqObj "list" vs.toArray 0)).get? h1.objs.size=some (seqObj "list" vs.toArray 0):=Heap.get?_push_size _ rfl
  have hp2:TnsAt (h1.push (seqObj "list" vs.toArray 0)) vs qs:=hp.keep fun v q ⟨t,rest,e,ob,x1,x2⟩=>⟨t,rest,e,ob,dH _ (k1 _ _ x1),x2⟩
  apply wpAny_bind
  apply wpAny_holding
  refine wpAny_call_entry slot_list_sort ⟨_,g2,rfl⟩ entry_list_sort (qN (s:={s with heap:=h1.push (seqObj "list" vs.toArray 0) }) g2 hp2 hn h64 fun p q1 q2=>⟨_,rfl,wpAny_pure ⟨_,rfl,?_⟩⟩) (args_list_sort _)
  obtain⟨e,he⟩:=sortedHeap_at (out:=(p.toList.map fun i=>vs.getD i Value.none).toArray) g2
  refine h h1 _ p e k1 (fun b ob hb1=>?_) he q1 q2
  have hlt:=Heap.lt_size hb1
  rw[sortedHeap_old (Nat.ne_of_lt hlt) (by rw[size_push'];exact Nat.lt_succ_of_lt hlt)]
  exact dH _ hb1
 ·exact eK (Nat.le_of_lt h64) Zd
end
abbrev Tn:=Int × Addr × List V
def Xm (x y:Tn):Prop:=x.1<=y.1
def Xz (H:Hp) (zs:List Tn):Prop:=∀z∈zs,H z.2.1=some (.tup (.int z.1::z.2.2))
def nV (zs:List Tn):List V:=zs.map fun z=>V.ref z.2.1
section
variable {X:Cx} {pins:List (Addr × Obj)} {σ:St} {H:Hp} {s:Shared}
theorem Ge (I:Inv X pins σ H s):∀ {zs:List Tn} {vs:List Value},Xz H zs->Vals (nV zs) vs->TnsAt s.heap vs (zs.map (fun z=>(z.1,z.2.1)))
 | [],[],_,_=>True.intro
 | z::zs,v::vs,hz,.cons r rs=>by
  have e:=hz z iM
  obtain⟨_,its,r1,it⟩:=(show ObjOk X.prog X.w H s.heap z.2.1 (.tup (.int z.1::z.2.2)) from I.hok _ _ e)
  cases r
  refine⟨?_,Ge I (fun y hy=>hz y (kD _ hy)) rs⟩
  cases r1 with
  | cons a1 r2=>
   obtain⟨t,rfl⟩:=a1
   exact⟨t,_,rfl,it⟩
def pI (K:W.Frag):List V->Hp->VK->Prop:=fun vs H Q=>match vs with
 | [.ref a]=>∃zs:List Tn,SqL K H a (nV zs)/\Xz H zs/\(zs.map (·.1)).Nodup/\zs.length<64/\∀l zs',H l=none->zs'.Perm zs->zs'.Pairwise Xm->Q (.ref l) (aI H l (.lst (nV zs')))
 | _=>False
theorem Bl:CallR X (.builtin "sorted") (pI X.K):=by
 intro pins s σ H xs us Q I r h;unfold pI at h;split at h
 ·rename_i a
  obtain⟨zs,hq,hz,hnd,h64,q⟩:=h
  obtain⟨u,rfl,ru⟩:=gJ r
  cases ru
  obtain⟨its,r1,p1,_⟩:=I.list hq
  obtain⟨o,ho,hc,n,hd⟩:=p1.isList
  have hl:its.length=zs.length:=by
   have:=r1.length
   unfold nV at this;rw[aQ]at this;exact this.symm
  have hp:=Ge I hz r1
  refine xJ ho hc hd hp (by rw[List.map_map];exact hnd) Zo fun h1 h' p e k1 k he pp pu=>?_
  have I1:=I.kept (t':=s.toks) k1
  have hps:∀i∈p.toList,i<zs.length:=fun i hi=>by
   have:=(Array.perm_iff_toList_perm.mp pp).mem_iff.mp hi
   rw[<- hl];simpa using this
  have e1:(p.toList.map fun i=>zs.getD i ((0:Int),0,[])).Perm zs:=by
   have e2:(List.range zs.length).map (fun i=>zs.getD i ((0:Int),0,[]))=zs:=by
    apply List.ext_getElem
    ·simp
    ·intro i h1 h2;simp [List.getD,fB h2]
   have e3:=(Array.perm_iff_toList_perm.mp pp).map (fun i=>zs.getD i ((0:Int),0,[]))
   rw[List.toList_toArray,hl,e2]at e3;exact e3
  have hsz:p.size=zs.length:=by rw[pp.size,hl]
  refine⟨.ref h1.objs.size,_,I1.laid (t':=s.toks) (o:=.lst (nV (p.toList.map fun i=>zs.getD i ((0:Int),0,[])))) k (aV _) ⟨?_,(p.toList.map fun i=>its.getD i Value.none),e,?_,he⟩,rfl,q _ _ (I1.hok.fresh (aV _)) e1 ?_⟩
  ·unfold nV;rw[aQ,aQ,Array.length_toList,hsz];exact eK (Nat.le_of_lt h64) Zd
  ·unfold nV;rw[List.map_map];refine uT fun i hi=>?_
   have hi':=hps i hi
   refine jP i r1 (by unfold nV;rw[aQ];exact hi') _ ?_
   unfold nV;rw[dR,fB hi'];simp [List.getD,fB hi']
  ·rw[List.pairwise_iff_getElem];intro i j hi hj hij;rw[aQ,Array.length_toList]at hi hj;have hu:=pu i j (Nat.le_of_lt hij) Zo
   unfold Xm;have key:∀k,k<p.size->(zs.getD (p.getD k 0) ((0:Int),0,[])).1=kg (O:=hV) (hW (zs.map (fun z=>(z.1,z.2.1)))) p k:=fun k hk=>by
    have hk':p.getD k 0<zs.length:=by rw[<- hl];exact pp.lt (by rw[hl,<- hsz];exact hk)
    unfold kg hW;generalize p.getD k 0=i' at hk';simp [List.getD,fB hk']
   have gi:∀k (hk:k<(p.toList.map fun i=>zs.getD i ((0:Int),0,[])).length),(p.toList.map fun i=>zs.getD i ((0:Int),0,[]))[k]=zs.getD (p.getD k 0) ((0:Int),0,[]):=fun k hk=>by
    have hk':k<p.size:=by simpa using hk
    simp [Array.getD,hk']
   rw[gi,gi,key i Zo,key j Zo]
   have hu2:decide ((kg (O:=hV) (hW (zs.map (fun z=>(z.1,z.2.1)))) p j:Int)<(kg (O:=hV) (hW (zs.map (fun z=>(z.1,z.2.1)))) p i:Int))=false:=hu
   exact Int.not_lt.mp (of_decide_eq_false hu2)
 ·exact h.elim
theorem R.gw {K:W.Frag} (hK:X.K=K:=by rfl):XC X (.builtin "sorted") (pI K):=hK ▸ ⟨Bl⟩
end
end L2
namespace L2
open PySem PySem.Spec PyProof.Rows
structure FzT (o:Obj) (es:Array DictEntry) (ep:Nat) (bs:List Addr):Prop where
 ex:o.ExactDict
 dat:o.data=.dict es ep
 keys:es.toList.map (·.key)=bs.map Value.ref
theorem FzT.size {o:Obj} {es:Array DictEntry} {ep:Nat} {bs:List Addr} (f:FzT o es ep bs):es.size=bs.length:=by
 have:=congrArg List.length f.keys
 rw[aQ,aQ,Array.length_toList]at this;exact this
theorem FzT.at {o:Obj} {es:Array DictEntry} {ep:Nat} {bs:List Addr} (f:FzT o es ep bs) {i:Nat} (hi:i<es.size):∃hb:i<bs.length,es[i].key=Value.ref bs[i]:=by
 have hb:i<bs.length:=by rw[<- f.size];exact hi
 refine⟨hb,?_⟩
 have h1:(es.toList.map (·.key))[i]?=some es[i].key:=by rw[dR,Array.getElem?_toList,Array.getElem?_eq_getElem hi];rfl
 rw[f.keys,dR,fB hb]at h1;exact(Option.some.inj h1).symm
def Rv (a:Addr) (o:Obj) (kvs:List (List aW × V)) (bs:List Addr):It:=
 ⟨fun i H=>H a=some (.frz o (.dT kvs))/\i<bs.length,fun i H x H'=>H'=H/\(bs.map V.ref)[i]?=some x,fun i H=>H a=some (.frz o (.dT kvs))/\bs.length<=i⟩
theorem Rw (a:Addr) (o:Obj) (kvs:List (List aW × V)) (bs:List Addr):uR (Rv a o kvs bs) (bs.map V.ref) (fun H=>H a=some (.frz o (.dT kvs))):=
 ⟨fun i H hi e=>⟨e,by rwa [aQ]at hi⟩,fun i H x H' _ _ y=>y,fun H e=>⟨e,by rw[aQ];exact aV _⟩⟩
section
variable {X:Cx} {pins:List (Addr × Obj)} {σ:St} {H:Hp} {s:Shared} {a:Addr} {o:Obj} {kvs:List (List aW × V)}
theorem lP {P:Program} {w:World} {h:Heap} (ok:HOk P w H h) (e:H a=some (.frz o (.dT kvs))):h.get? a=some o:=
 (show ObjOk P w H h a (.frz o (.dT kvs)) from ok a _ e).1
theorem Lz {P:Program} {w:World} {K:W.Frag} {tg:Expr} (a it:Addr) {es:Array DictEntry} {ep:Nat} {bs:List Addr} (f:FzT o es ep bs):sK P w K tg (Rv a o kvs bs) [it] it (fun i h=>h.IsKeyIter it a i bs.length ep) where
 mem:=by simp
 obj:=fun i h st b hb=>by
  obtain rfl:b=it:=by simpa using hb
  obtain⟨ob,e,c,d⟩:=st
  exact⟨ob,e,fun v z=>by rw[d]at z;cases z⟩
 keep:=fun i h h' st k=>st.at fun ob e=>k it Zs ob e
 item:=by
  intro X hP hw hK hc i pins s σ H E I hf st hg;subst hP hw hK;obtain⟨ef,hi⟩:=hg
  have h1:=lP I.hok ef
  obtain⟨f0,f1,f2,f3,f4,f5⟩:=hf it Zs
  have hi':i<es.size:=by rw[f.size];exact hi
  obtain⟨hb,hk⟩:=f.at hi'
  refine Gd st h1 f.dat f.size hi' fun h' st' sb=>?_
  have I1:Inv X pins σ H {s with heap:=h' }:=I.turned (t':=s.toks) (fun b ob hb e=>(sb.2 b hb).trans e) f0 f1 f3 f4 f5
  obtain⟨ob,e,c,d⟩:=id st'
  rw[hk];refine⟨_,rfl,qZ (s:={s with heap:=h' }) e c d Zd ⟨.ref bs[i],H,I1,rfl,⟨rfl,?_⟩,st',fun b hb=>(hf b hb).1⟩⟩
  rw[dR,fB hb];rfl
 done:=by
  intro X hP hw hK hc i pins s σ H E I hf st hg;subst hP hw hK;obtain⟨ef,hi⟩:=hg
  have h1:=lP I.hok ef
  obtain⟨f0,f1,f2,f3,f4,f5⟩:=hf it Zs
  exact Ly (I.ok.hd hc) st h1 f.dat f.size (by rw[f.size];exact hi) fun h' eb=>⟨rfl,I.turned (t':=s.toks) (fun b ob hb e=>eb b ob hb e) f0 f1 f3 f4 f5⟩
 self:=fun _ _ _ _ _ st h=>wpAny_pyIter_keyiter st h
theorem Inv.freezeT (I:Inv X pins σ H s) (e:H a=some (.dT kvs)):∃(ob:Obj) (es:Array DictEntry) (ep:Nat) (bs:List Addr),s.heap.get? a=some ob/\FzT ob es ep bs/\bs.length=kvs.length/\(∀(i:Nat) (b:Addr),bs[i]?=some b->∃p:List aW × V,kvs[i]?=some p/\H b=some (.tup (p.1.map kV)))/\(a == sysModules)=false/\Inv X pins σ (aI H a (.frz ob (.dT kvs))) s:=by
 obtain⟨z,hd,xs,rel,ob,es,ep,g,h2,h3,h4,h5⟩:=(show ObjOk X.prog X.w H s.heap a (.dT kvs) from I.hok a _ e)
 refine⟨ob,es,ep,xs.map (·.2.1),g,⟨h2,h3,?_⟩,?_,fun i b hb=>?_,hd,?_⟩
 ·rw[h4,List.map_map,List.map_map];rfl
 ·rw[aQ];exact(Paired.length rel).symm
 ·rw[dR]at hb;obtain⟨x,hx,rfl⟩:=Option.map_eq_some_iff.mp hb
  have hi:i<xs.length:=(Zgs.mp hx).1
  obtain⟨h2,_,hr,_⟩:=Paired.get' (j:=i) rel hi
  have e1:xs[i]=x:=(Zgs.mp hx).2
  rw[e1]at hr;exact⟨kvs[i],fB h2,hr⟩
 ·have kt:∀b ys,H b=some (.tup ys)->(aI H a (.frz ob (.dT kvs))) b=some (.tup ys):=fun b ys q=>by rw[aE (dI q e (fun z=>nomatch z))];exact q
  exact I.write (t':=s.toks) (h':=s.heap) (x:=a) (e:=a) (o:=.frz ob (.dT kvs)) (by rw[e];exact True.intro) (.inl rfl) (fun b u _ q=>q) ⟨ob,g⟩ ⟨g,z,hd,xs,KT.keeps rel kt,ob,es,ep,g,h2,h3,h4,h5⟩
theorem Inv.thawT (I:Inv X pins σ H s) (e:H a=some (.frz o (.dT kvs))) (hn:∀o' u,X.H₀ a≠some (.frz o' u)):Inv X pins σ (aI H a (.dT kvs)) s where
 ok:=I.ok
 os:=I.os
 bare:=I.bare
 base:=by
  have na:∀b,H b=none->b≠a:=fun b z q=>by rw[q,e]at z;cases z
  refine⟨I.base.keep,I.base.slot,fun b ob q n hx=>?_,I.base.there,fun b xs q=>?_,fun b ob u q=>?_,fun b ps q=>?_⟩
  ·have:=I.base.free b ob q n hx
   rw[aE (na b this)];exact this
  ·have:=I.base.tups b xs q
   rw[aE (dI this e (fun z=>nomatch z))]
   exact this
  ·have:=I.base.frzs b ob u q
   by_cases hb:b=a
   ·subst hb;exact absurd q (hn ob u)
   ·rw[aE hb];exact this
  ·obtain⟨more,q2⟩:=I.base.tbls b ps q
   exact⟨more,by rw[aE (dI q2 e (fun z=>nomatch z))];exact q2⟩
 loc:=I.loc
 cell:=I.cell
 free:=by
  have z:=I.free
  rw[aE (fun q=>by rw[q,e]at z;cases z)]
  exact z
 freeC:=fun x c h=>by
  have z:=I.freeC x c h
  rw[aE (fun q=>by rw[q,e]at z;cases z)]
  exact z
 pin:=fun p hp=>by
  obtain⟨p1,p2,p3⟩:=I.pin p hp
  refine⟨p1,?_,p3⟩
  rw[aE (fun q=>by rw[q,e]at p2;cases p2)]
  exact p2
 hok:=by
  intro b u hb;have st:∀ {c:Addr} {v:HO},ObjOk X.prog X.w H s.heap c v->ObjOk X.prog X.w (aI H a (.dT kvs)) s.heap c v:=fun x=>x.stay (fun c v _ h=>h) (fun c h=>by rw[aE (dI h e (fun z=>nomatch z))];exact h) fun c xs h=>by rw[aE (dI h e (fun z=>nomatch z))];exact h
  by_cases q:b=a
  ·subst q;rw[aA]at hb;cases hb
   exact st (show ObjOk X.prog X.w H s.heap b (.frz o (.dT kvs)) from I.hok b _ e).2
  ·rw[aE q]at hb;exact st (I.hok b u hb)
 len:=I.len
def Nz (te:TE):TI:=fun σ H R=>te σ H fun x H1=>mR x fun a=>∃kvs,H1 a=some (.dT kvs)/\∀(o:Obj) (bs:List Addr),bs.length=kvs.length->(∀(i:Nat) (b:Addr),bs[i]?=some b->∃p:List aW × V,kvs[i]?=some p/\H1 b=some (.tup (p.1.map kV)))->R (Rv a o kvs bs) (aI H1 a (.frz o (.dT kvs)))
theorem Ma {tg l:Expr} {tl:TE} (hl:PE X l tl):PI X tg l (Nz tl):=by
 intro pins s σ H R I h;refine bT (hl pins s σ H _ I h) fun v s1 ⟨x,H1,I1,r1,q1⟩=>?_
 dsimp only at q1
 rw[dD]at q1;obtain⟨a,rfl,kvs,e,q⟩:=q1
 cases r1
 obtain⟨ob,es,ep,bs,g,f,hl',hb,lo,I2⟩:=I1.freezeT e
 have hn:(aI H1 a (.frz ob (.dT kvs))) s1.heap.objs.size=none:=I2.hok.fresh (aV _)
 refine Gc lo g f.ex f.dat ?_
 refine⟨s1.heap.objs.size,[s1.heap.objs.size],_,_,_,rfl,I2.kept (t':=s1.toks) fun b o e=>dH _ e,Lz a _ f,⟨_,Heap.get?_push_size _ rfl,rfl,?_⟩,fun b hb=>?_,q ob bs hl' hb⟩
 ·rw[f.size];rfl
 ·obtain rfl:b=s1.heap.objs.size:=by simpa using hb
  exact I2.fpOk (aV _) hn
def Gf (t:TE):TE:=fun σ H Q=>t σ H fun v H2=>∃a kvs o,(∃kvs0,H a=some (.dT kvs0))/\H2 a=some (.frz o (.dT kvs))/\Q v (aI H2 a (.dT kvs))
theorem Gg {e:Expr} {t:TE} (he:PE X e t):PE X e (Gf t):=by
 intro pins s σ H Q I h;refine bT (he pins s σ H _ I h) fun u s1 ⟨v,H2,I2,rv,a,kvs,o,⟨kvs0,e0⟩,e2,q⟩=>⟨v,_,I2.thawT e2 (fun o' u' z=>?_),rv,q⟩
 have:=I.base.frzs a o' u' z
 rw[e0]at this;cases this
end
namespace R
section
variable {X:Cx} {tg l e1:Expr} {tl te:TE} {e:Stmt} {t:TS}
theorem jp (hl:XE X l tl):XI X tg l (Nz tl):=⟨Ma hl.h⟩
theorem ja (h:XE X e1 te):XE X e1 (Gf te):=⟨Gg h.h⟩
end
end R
end L2
namespace L2
open PySem PySem.Spec PyProof.Rows
theorem rM:∀ {vs:List Value} {ns:List Int},IntsAre vs ns->Vals (ns.map V.int) vs
 | _,_,.nil=>.nil
 | _,_,.cons x t h=>.cons ⟨t,rfl⟩ (rM h)
end L2
namespace L2
open PySem PySem.Spec PyProof.Rows
section
variable {X:Cx}
def tQ {α:Type} (xs:List α) (k:Nat) (x:α):List α:=xs.take k++[x]++xs.drop k
def zE:V->List V->Hp->VK->Prop:=fun x vs H Q=>∃(l:Addr) (xs:List V) (k:Nat) (y:V),x=.ref l/\vs=[.int (k:Int),y]/\H l=some (.lst xs)/\k<=xs.length/\xs.length<1000/\Q .non (aI H l (.lst (tQ xs k y)))
theorem Gh {k:Nat} (h:k<1000):¬ (!Builtin.List.listFitsIndex (k:Int))=true:=by
 have e1:-(2 ^ 63)<=(k:Int):=by omega
 have e2:(k:Int)<2 ^ 63:=by omega
 rw[fitsIndex_both e1 e2];exact Bool.false_ne_true
theorem rN:∀ {xs:List V} {its:List Value} (k:Nat),Vals xs its->Vals (xs.take k) (its.take k)
 | _,_,0,_=>by simp;exact .nil
 | _,_,k+1,.nil=>by simp;exact .nil
 | _,_,k+1,.cons h t=>by rw[List.take_succ_cons,List.take_succ_cons];exact .cons h (rN k t)
theorem rO:∀ {xs:List V} {its:List Value} (k:Nat),Vals xs its->Vals (xs.drop k) (its.drop k)
 | _,_,0,h=>by simpa using h
 | _,_,k+1,.nil=>by simp;exact .nil
 | _,_,k+1,.cons h t=>by rw[List.drop_succ_cons,List.drop_succ_cons];exact rO k t
theorem Rx {s:Shared} {A:Around} {E:Value->Shared->Prop} {prog:Program} {w:World} {l:Addr} {its:List Value} {n:Nat} {k:Int} {t:Tok} {u2:Value} {Q:Value->Shared->Prop} (e:s.heap.get? l=some {cls:=.type "list",data:=.seq its.toArray n }) (f1:¬ (!Builtin.List.listFitsIndex k)=true) (f2:its.toArray.size<=sizeLine)
  (q:Q .none {s with heap:=s.heap.update l (Obj.mapSeq fun xs=>have k:=if k<0 then (k+(xs.size:Int)).toNat else min k.toNat xs.size;(xs.extract 0 k).push u2++xs.extract k),toks:=s.toks }) :
  wpAny (model prog w) A (call (.builtin "list.insert") [.ref l,.int k t,u2]) Q E s:=by
 have M:=AutoSeq1.list_insert_list_int_val_1 l its.toArray n k t u2 f1 f2
 exact call_meets PySem.F.slot_list_insert ⟨_,e,rfl⟩ PySem.F.entry_list_insert (PySem.F.args_list_insert_3 _ _ _) M ⟨e,q⟩
theorem Bm:Tx X "list.insert" zE:=by
 intro pins s σ H x vs v us Q I rx rv h;obtain⟨l,xs,k,y,rfl,rfl,hH,hk,hz,q⟩:=h
 cases rx
 obtain⟨u1,u2,rfl,ru1,ru2⟩:=rv.two
 obtain⟨t,rfl⟩:=ru1
 obtain⟨z,its,n,r,hl,e⟩:=I.lstM hH
 have hlen:(tQ xs k y).length=xs.length+1:=by unfold tQ;simp;omega
 have hv:Vals (tQ xs k y) (tQ its k u2):=by
  unfold tQ;exact((rN k r).append (.cons ru2 .nil)).append (rO k r)
 have hle:(tQ xs k y).length<=sizeLine:=dJ (by rw[hlen];omega)
 refine Rx e (Gh (kI hk hz)) (by rw[dG,<- hl];exact z) ?_
 refine⟨.non,_,I.lset (its':=tQ its k u2) hH e ?_ hv hle,rfl,q⟩
 have h0:¬ ((k:Int)<0):=by omega
 have h1:min (k:Int).toNat its.toArray.size=k:=by rw[dG,<- hl];simp;omega
 simp only [h0,if_false,h1]
 unfold tQ;simp
 exact gH Zs
theorem R.ia:XM X "list.insert" zE:=⟨Bm⟩
end
end L2
namespace L2
open PySem PySem.Spec PyProof.Rows
section
open PySem.MeetsSeq PySem.SeqAt
open AutoSeq1 (wpAny_loadPart')
theorem qO (l:Addr) (items:Array Value) (n:Nat) (x:Value) (e:Value->Bool) (j:Nat) (hj:j<items.size) (hit:e items[j]=true) (k:Nat) (hs1:items.size<=sizeLine) :
  ∀i:Nat,j - i=k->i<=j->(∀m (hm:m<items.size),i<=m->m<j->e items[m]=false)->Meets (Builtin.«list.remove.loop» ⟨[.ref l,x,rawInt i],[]⟩)
   (fun A R s=>s.heap.get? l=some {cls:=.type "list",dict:=none,data:=.seq items n,slots:=#[] }/\(∀y,y∈items->EqAt A.in1 s y x (e y))/\R (.ok (.ret .none)) {s with heap:=s.heap.update l (Obj.mapSeq fun xs=>xs.eraseIdxIfInBounds j) }):=by
 induction k with
 | zero=>
  intro i hk hij hno prog w A R s h;obtain⟨hp,g,d,tk,os⟩:=s;obtain⟨hl,he,h⟩:=h
  obtain rfl:i=j:=by omega
  wp_walk using wpAny_loadPart' hl
  rw[show items[((i:Nat):Int).toNat]?=some items[i] by simp [hj]]
  refine wpAny_bind (he _ (Array.getElem_mem hj) prog w _ _ ?_)
  rw[hit];have hz':(items.eraseIdxIfInBounds i).size<=sizeLine+1:=eK (size_erased items _) (Nat.le_succ_of_le hs1)
  wp_walk using (wpAny_updateSeq hl rfl (hz:=hs1) (_hz':=hz')),wpAny_loadPart' hl
  simpa using h
 | succ k ih=>
  intro i hk hij hno prog w A R s h;obtain⟨hp,g,d,tk,os⟩:=s;obtain⟨hl,he,h⟩:=h
  have hlt:i<items.size:=by omega
  wp_walk using wpAny_loadPart' hl
  have hc:((i:Int)+1)=((i+1:Nat):Int):=by push_cast;rfl
  rw[show items[((i:Nat):Int).toNat]?=some items[i] by simp [hlt]]
  refine wpAny_bind (he _ (Array.getElem_mem hlt) prog w _ _ ?_)
  rw[hno i hlt (aV _) Zo]
  wp_walk
  rw[hc];exact⟨plainId_quiet plain_remove_loop _,codeAny_builtin entry_remove_loop (by
   rw[Around.under_plainId plain_remove_loop _];exact ih (i+1) Zo Zo (fun m hm h1 h2=>hno m hm Zo h2) prog w A R _ ⟨hl,he,h⟩)⟩
theorem qP (l:Addr) (items:Array Value) (n:Nat) (x:Value) (e:Value->Bool) (j:Nat) (hj:j<items.size) (hit:e items[j]=true) (hno:∀m (hm:m<items.size),m<j->e items[m]=false) (hs1:items.size<=sizeLine) :
  Meets (Builtin.«list.remove» ⟨[.ref l,x],[]⟩)
   (fun A R s=>s.heap.get? l=some {cls:=.type "list",dict:=none,data:=.seq items n,slots:=#[] }/\(∀y,y∈items->EqAt A.in1 s y x (e y))/\R (.ok (.ret .none)) {s with heap:=s.heap.update l (Obj.mapSeq fun xs=>xs.eraseIdxIfInBounds j) }):=by
 intro prog w A R s h;obtain⟨hp,g,d,tk,os⟩:=s;obtain⟨hl,he,h⟩:=h
 wp_walk using wpAny_loadPart' hl
 exact⟨plainId_quiet plain_remove_loop _,codeAny_builtin entry_remove_loop (by
  rw[Around.under_plainId plain_remove_loop _];exact qO l items n x e j hj hit _ hs1 0 rfl (Nat.zero_le _) (fun m hm _ h2=>hno m hm h2) prog w A R _ ⟨hl,he,h⟩)⟩
end
def EQ (H:Hp) (u v:V):Prop:=(fE u=true/\fE v=true)∨∃b b' ps qs,u=.ref b/\v=.ref b'/\H b=some (.tup ps)/\H b'=some (.tup qs)/\∀(j:Nat) (x y:V),ps[j]?=some x->qs[j]?=some y->fE x=true/\fE y=true
section
variable {X:Cx} {pins:List (Addr × Obj)} {σ:St} {H:Hp} {s:Shared}
theorem EQ.at {A:Around} {x y:V} {u v:Value} (hu:A.units<cLine) (I:Inv X pins σ H s) (rx:RelV x u) (ry:RelV y v) (h:EQ H x y):∃b,SeqAt.EqAt A s u v b:=by
 rcases h with⟨f1,f2⟩ | ⟨b,b',ps,qs,rfl,rfl,g1,g2,fl⟩
 ·exact⟨_,oS rx ry f1 f2⟩
 ·cases rx
  cases ry
  by_cases e:b=b'
  ·subst e;exact⟨true,SeqAt.EqAt.same _⟩
  ·obtain⟨its,ri,ti,_⟩:=I.tuple (SqT.of g1)
   obtain⟨its2,ri2,ti2,_⟩:=I.tuple (SqT.of g2)
   have each:∀j (h1:j<its.toArray.size) (h2:j<its2.toArray.size),SeqAt.EqAt A.in1 s its.toArray[j] its2.toArray[j] (yK (ps.getD j .non) (qs.getD j .non)):=fun j h1 h2=>by
    rw[dG]at h1 h2;obtain⟨h1',q1⟩:=Paired.get' (j:=j) ri h1
    obtain⟨h2',q2⟩:=Paired.get' (j:=j) ri2 h2
    obtain⟨f1,f2⟩:=fl j ps[j] qs[j] (fB h1') (fB h2')
    have e1:ps.getD j .non=ps[j]:=by simp [List.getD,h1']
    have e2:qs.getD j .non=qs[j]:=by simp [List.getD,h2']
    rw[e1,e2];simpa using oS q1 q2 f1 f2
   exact⟨_,.of_refs e (SeqAt.RcAt.tuples ti ti2 hu each)⟩
theorem vB {A:Around} {c a:Addr} {n m:Int} {xs ys:List V} (hu:A.units+1<cLine) (I:Inv X pins σ H s) (hne:c≠a) (g1:H c=some (.lst (.int n::xs))) (g2:H a=some (.lst (.int m::ys))) (hnm:n≠m) (hl:xs.length=ys.length)
  (h:∀(j:Nat) (u v:V),xs[j]?=some u->ys[j]?=some v->EQ H u v):SeqAt.EqAt A s (.ref c) (.ref a) false:=by
 obtain⟨its,ri,ti,_⟩:=I.list (SqL.of g1)
 obtain⟨its2,ri2,ti2,_⟩:=I.list (SqL.of g2)
 have el1:its.length=xs.length+1:=ri.length.symm
 have el2:its2.length=ys.length+1:=ri2.length.symm
 have es:its.toArray.size=its2.toArray.size:=by rw[dG,dG];omega
 have each:∀j:Nat,∃b,(j=0->b=false)/\∀(h1:j<its.toArray.size) (h2:j<its2.toArray.size),SeqAt.EqAt A.in1 s its.toArray[j] its2.toArray[j] b:=fun j=>by
  by_cases h1:j<its.length
  ·have h2:j<its2.length:=by omega
   obtain⟨h1',q1⟩:=Paired.get' (j:=j) ri h1
   obtain⟨h2',q2⟩:=Paired.get' (j:=j) ri2 h2
   cases j with
   | zero=>
    have key:=oS (A:=A.in1) (s:=s) q1 q2 rfl rfl
    rw[show yK ((V.int n::xs)[0]) ((V.int m::ys)[0])=false from decide_eq_false hnm]at key;exact⟨false,fun _=>rfl,fun _ _=>by simpa using key⟩
   | succ j=>
    have q1':RelV (xs[j]'(by simpa using h1')) its[j+1]:=q1
    have q2':RelV (ys[j]'(by simpa using h2')) its2[j+1]:=q2
    obtain⟨b,hb⟩:=EQ.at (A:=A.in1) (by show A.units+1<cLine;exact hu) I q1' q2' (h j _ _ (fB _) (fB _))
    exact⟨b,fun e=>absurd e Zo,fun _ _=>by simpa using hb⟩
  ·exact⟨false,fun _=>rfl,fun h _=>absurd (by simpa using h) h1⟩
 obtain⟨e,he⟩:=Classical.axiomOfChoice each
 have key:=SeqAt.EqAt.of_refs hne (SeqAt.RcAt.lists (A:=A) (s:=s) (e:=e) ti.isList ti2.isList es Zo (fun j h1 h2=>(he j).2 h1 h2))
 have ef:(List.range its.toArray.size).all e=false:=by
  rw[dG,el1];rw[List.all_eq_false];exact⟨0,List.mem_range.mpr Zo,by rw[(he 0).1 rfl];decide⟩
 rw[ef]at key;exact key
end
def jB:V->List V->Hp->VK->Prop:=fun x vs H Q=>match x,vs with
 | .ref l,[.ref a]=>∃(us:List Addr) (j:Nat),H l=some (.lst (us.map V.ref))/\us[j]?=some a/\us.Nodup ∧
  (∀c∈us,c≠a->∃n m xs ys,H c=some (.lst (.int n::xs))/\H a=some (.lst (.int m::ys))/\n≠m/\xs.length=ys.length/\∀(j:Nat) (u v:V),xs[j]?=some u->ys[j]?=some v->EQ H u v) ∧
  Q .non (aI H l (.lst ((us.eraseIdx j).map V.ref)))
 | _,_=>False
theorem pJ:∀(ss:List Addr) (j:Nat),(ss.eraseIdx j).map V.ref=(ss.map V.ref).eraseIdx j
 | [],j=>by simp
 | s::r,0=>by simp
 | s::r,j+1=>by
  rw[List.eraseIdx_cons_succ,List.map_cons,List.map_cons,List.eraseIdx_cons_succ,pJ r j]
theorem xK {X:Cx} (hu:X.A.units+64<cLine):Tx X "list.remove" jB:=by
 intro pins s σ H x vs v us0 Q I rx rv h;unfold jB at h;split at h
 ·rename_i l a
  obtain⟨us,j,hl,hj,nd,ne,q⟩:=h
  cases rx
  obtain⟨u,rfl,ru⟩:=rv.one
  cases ru
  obtain⟨z0,its,n,r,hln,e⟩:=I.lstM hl
  rw[aQ]at hln;have hjl:j<us.length:=(Zgs.mp hj).1
  have at_:∀(m:Nat) (hm:m<its.length),∃hm':m<us.length,its[m]=Value.ref us[m]:=fun m hm=>by
   have hm':m<us.length:=by omega
   have rv:RelV (V.ref us[m]) (its.getD m Value.none):=jP m r (by rw[aQ];exact hm') _ (by rw[dR,fB hm'];rfl)
   have e1:its.getD m Value.none=its[m]:=by rw[List.getD_eq_getElem?_getD,fB hm];rfl
   rw[e1]at rv;exact⟨hm',rv⟩
  refine call_meets PySem.F.slot_list_remove ⟨_,e,rfl⟩ PySem.F.entry_list_remove (PySem.F.args_list_remove_2 _ _)
   (qP l its.toArray n (.ref a) (fun y=>y == Value.ref a) j (by simp;omega) ?_ ?_ (by rw[dG];rw[aQ]at z0;omega)) ⟨e,?_,?_⟩
  ·obtain⟨hm',ej⟩:=at_ j Zo
   simp only [List.getElem_toArray]
   rw[ej,(Zgs.mp hj).2];exact beq_self_eq_true _
  ·intro m hm hlt;have hm2:m<its.length:=by simpa using hm
   obtain⟨hm',ej⟩:=at_ m hm2
   simp only [List.getElem_toArray]
   rw[ej];refine beq_eq_false_iff_ne.mpr fun h=>?_
   injection h with h
   exact(List.pairwise_iff_getElem.mp nd) m j hm' hjl hlt (h.trans (Zgs.mp hj).2.symm)
  ·intro y hy;obtain⟨m,hm,rfl⟩:=List.getElem_of_mem (show y∈its by simpa using hy)
   obtain⟨hm',ej⟩:=at_ m hm
   rw[ej];by_cases ea:us[m]=a
   ·rw[ea,beq_self_eq_true];exact SeqAt.EqAt.same _
   ·obtain⟨n1,n2,xs,ys,g1,g2,hn,hlen,heq⟩:=ne us[m] (List.getElem_mem hm') ea
    rw[show(Value.ref us[m] == Value.ref a)=false from beq_eq_false_iff_ne.mpr fun h=>ea (by injection h)]
    exact vB (by show X.A.units+1+1<cLine;omega) I ea g1 g2 hn hlen heq
  ·have er:(us.eraseIdx j).map V.ref=(us.map V.ref).eraseIdx j:=pJ us j
   refine⟨.non,_,I.lset (its':=its.eraseIdx j) hl e ?_ (er ▸ r.eraseIdx j) ?_,rfl,q⟩
   ·show its.toArray.eraseIdxIfInBounds j=(its.eraseIdx j).toArray
    rw[List.eraseIdxIfInBounds_toArray]
   ·rw[er];have:=mJ (us.map V.ref) j
    omega
 ·exact h.elim
theorem R.ib {X:Cx} (hu:X.A.units+64<cLine):XM X "list.remove" jB:=⟨xK hu⟩
end L2
namespace L2
open PySem PySem.Spec PyProof.Rows
section
variable {X:Cx}
def Oa (K:W.Frag):List V->Hp->VK->Prop:=fun vs H Q=>∃(p:Addr) (ns:List Int),vs=[.ref p]/\SqL K H p (ns.map V.int)/\0<ns.length/\∀M:Int,M∈ns->(∀a∈ns,a<=M)->Q (.int M) H
theorem Bn (hc:X.calm=true):CallR X (.builtin "max") (Oa X.K):=by
 intro pins s σ H xs us Q I r h;obtain⟨p,ns,rfl,hq,hn,q⟩:=h
 obtain⟨u,rfl,ru⟩:=gJ r
 cases ru
 obtain⟨its,rv,pl,hz⟩:=I.list hq
 have hi:=oQ rv
 obtain⟨xs,hx⟩:=hi.allInts.items
 have hl':s.heap.IsList p (intItems xs):=hx ▸ pl.isList
 have e1:ns=xs.toList.map (·.1):=by
  rw[<- nums_intItems,<- hx];exact(show numsOf its.toArray.toList=ns from hi.numsOf).symm
 have hsz:ns.length=xs.size:=by rw[e1];simp
 refine max_intList (I.ok.hd hc) hl' Zo fun v h' tk hv hk=>?_
 obtain⟨hle,hmx⟩:=argBest_gt (numAt xs) (xs.size - 1)
 generalize argBest (fun i j=>decide (numAt xs i > numAt xs j)) (xs.size - 1)=k at hv hle hmx
 obtain⟨t,rfl⟩:=intItems_at hv
 have at_:∀j,j<ns.length->numAt xs j=ns.getD j 0:=fun j _=>by rw[numAt_eq,e1]
 refine⟨.int _,H,I.kept hk,⟨_,rfl⟩,q _ ?_ ?_⟩
 ·rw[at_ k Zo,List.getD_eq_getElem?_getD,fB Zo]
  exact List.getElem_mem _
 ·intro a ha;obtain⟨j,hj,rfl⟩:=List.getElem_of_mem ha
  have:=hmx j Zo
  rw[at_ j hj,List.getD_eq_getElem?_getD,fB hj]at this;exact this
theorem R.cz {K:W.Frag} (hc:X.calm=true) (hK:X.K=K:=by rfl):XC X (.builtin "max") (Oa K):=hK ▸ ⟨Bn hc⟩
end
end L2
namespace L2
open PySem PySem.Spec PyProof.Rows
inductive Dd where
 | add (a:Str) (n:Nat)
 | take (a:Str) (n:Nat)
 | move (a b:Str) (n:Nat)
 | send (h a:Str) (n:Nat)
 | fetch (h a:Str) (n:Nat)
 | pass (h g a:Str) (n:Nat)
namespace Dd
def vs:Dd->List V
 | .add a n=>[.str "add",.str a,.int (n:Int)]
 | .take a n=>[.str "take",.str a,.int (n:Int)]
 | .move a b n=>[.str "move",.str a,.str b,.int (n:Int)]
 | .send h a n=>[.str "send",.str h,.str a,.int (n:Int)]
 | .fetch h a n=>[.str "fetch",.str h,.str a,.int (n:Int)]
 | .pass h g a n=>[.str "pass",.str h,.str g,.str a,.int (n:Int)]
def n:Dd->Nat
 | .add _ n=>n | .take _ n=>n | .move _ _ n=>n | .send _ _ n=>n | .fetch _ _ n=>n | .pass _ _ _ n=>n
def far:Dd->Bool
 | .send _ _ _=>true | .fetch _ _ _=>true | .pass _ _ _ _=>true | _=>false
def Ok:Dd->Prop
 | .add a n=>fU a/\1<=n/\n<=1000000000000
 | .take a n=>fU a/\1<=n/\n<=1000000000000
 | .move a b n=>fU a/\fU b/\a≠b/\1<=n/\n<=1000000000000
 | .send h a n=>fU h/\fU a/\1<=n/\n<=1000000000000
 | .fetch h a n=>fU h/\fU a/\1<=n/\n<=1000000000000
 | .pass h g a n=>fU h/\fU g/\fU a/\h≠g/\1<=n/\n<=1000000000000
theorem Ok.n {d:Dd} (h:d.Ok):1<=d.n/\d.n<=1000000000000:=by
 cases d <;> simp only [Ok]at h <;> simp only [Dd.n] <;> omega
def wd:Dd->Str
 | .add _ _=>"add" | .take _ _=>"take" | .move _ _ _=>"move" | .send _ _ _=>"send" | .fetch _ _ _=>"fetch" | .pass _ _ _ _=>"pass"
end Dd
inductive An where
 | is1 (m:Nat)
 | is2 (l m:Nat)
 | short (m:Nat)
 | full (m:Nat)
 | no (h:Str)
 | ok
namespace An
def vs:An->List V
 | .is1 m=>[.str "is",.int (m:Int)]
 | .is2 l m=>[.str "is",.int (l:Int),.int (m:Int)]
 | .short m=>[.str "short",.int (m:Int)]
 | .full m=>[.str "full",.int (m:Int)]
 | .no h=>[.str "no",.str h]
 | .ok=>[.str "ok"]
def early:An->Bool | .short _=>true | .full _=>true | _=>false
def Of:Dd->An->Prop
 | .add _ n,.is1 m=>n<=m/\m<=1000000000000
 | .add _ n,.full m=>1000000000000<m+n/\m<=1000000000000
 | .take _ n,.is1 m=>m+n<=1000000000000
 | .take _ n,.short m=>m<n
 | .move _ _ n,.is2 l m=>l+n<=1000000000000/\n<=m/\m<=1000000000000
 | .move _ _ n,.short m=>m<n
 | .move _ _ n,.full m=>1000000000000<m+n/\m<=1000000000000
 | .send _ _ n,.is1 m=>m+n<=1000000000000
 | .send _ _ n,.short m=>m<n
 | .send h _ _,.no g=>g=h
 | .fetch _ _ n,.is1 m=>n<=m/\m<=1000000000000
 | .fetch _ _ n,.full m=>1000000000000<m+n/\m<=1000000000000
 | .fetch h _ _,.no g=>g=h
 | .pass h g _ _,.no k=>k=h∨k=g
 | .pass _ _ _ _,.ok=>True
 | _,_=>False
end An
inductive RX where
 | next (n t:Nat)
 | has (z:Str) (m:Nat)
 | kept (n t:Nat) (p k:Str) (d:Dd) (y:An)
 | came (n t:Nat) (p k:Str) (d:Dd)
 | asked (n:Nat)
 | done (n t:Nat) (y:An)
namespace RX
def At (H:Hp) (a:Addr):RX->Prop
 | .next n t=>H a=some (.tup [.str "next",.int (n:Int),.int (t:Int)])
 | .has z m=>H a=some (.tup [.str "has",.str z,.int (m:Int)])
 | .kept n t p k d y=>∃b c,H a=some (.tup [.str "kept",.int (n:Int),.int (t:Int),.str p,.str k,.ref b,.ref c])/\H b=some (.tup d.vs)/\H c=some (.tup y.vs)
 | .came n t p k d=>∃b,H a=some (.tup [.str "came",.int (n:Int),.int (t:Int),.str p,.str k,.ref b])/\H b=some (.tup d.vs)
 | .asked n=>H a=some (.tup [.str "asked",.int (n:Int)])
 | .done n t y=>∃c,H a=some (.tup [.str "done",.int (n:Int),.int (t:Int),.ref c])/\H c=some (.tup y.vs)
theorem At.tk {H H':Hp} {a:Addr} {r:RX} (s:TK H H') (h:r.At H a):r.At H' a:=by
 cases r with
 | next n t=>exact s _ _ h
 | has z m=>exact s _ _ h
 | kept n t p k d y=>obtain⟨b,c,h1,h2,h3⟩:=h;exact⟨b,c,s _ _ h1,s _ _ h2,s _ _ h3⟩
 | came n t p k d=>obtain⟨b,h1,h2⟩:=h;exact⟨b,s _ _ h1,s _ _ h2⟩
 | asked n=>exact s _ _ h
 | done n t y=>obtain⟨b,h1,h2⟩:=h;exact⟨b,s _ _ h1,s _ _ h2⟩
def Vk:List V->TV:=fun xs=>.tp (xs.map TV.sc)
def tv:RX->TV
 | .next n t=>.tp [.sc (.str "next"),.sc (.int (n:Int)),.sc (.int (t:Int))]
 | .has z m=>.tp [.sc (.str "has"),.sc (.str z),.sc (.int (m:Int))]
 | .kept n t p k d y=>.tp [.sc (.str "kept"),.sc (.int (n:Int)),.sc (.int (t:Int)),.sc (.str p),.sc (.str k),Vk d.vs,Vk y.vs]
 | .came n t p k d=>.tp [.sc (.str "came"),.sc (.int (n:Int)),.sc (.int (t:Int)),.sc (.str p),.sc (.str k),Vk d.vs]
 | .asked n=>.tp [.sc (.str "asked"),.sc (.int (n:Int))]
 | .done n t y=>.tp [.sc (.str "done"),.sc (.int (n:Int)),.sc (.int (t:Int)),Vk y.vs]
theorem lQ {H:Hp} {b:Addr} {xs:List V} (g:H b=some (.tup xs)) (hf:∀x∈xs,kM x=true):Rep H 1 (Vk xs) (.ref b):=by
 refine⟨b,xs,rfl,g,?_⟩
 induction xs with
 | nil=>exact .nil
 | cons x xs ih=>
  clear g;refine .cons ⟨rfl,hf x iM⟩ ?_
  have:∀(ys:List V),(∀y∈ys,kM y=true)->Paired (Rep H 0) (ys.map TV.sc) ys:=fun ys h=>by
   induction ys with
   | nil=>exact .nil
   | cons y ys ih=>exact .cons ⟨rfl,h y iM⟩ (ih fun z hz=>h z (kD _ hz))
  exact this xs fun z hz=>hf z (kD _ hz)
theorem sc_dd (d:Dd):∀x∈d.vs,kM x=true:=by
 intro x hx;cases d <;> simp only [Dd.vs,List.mem_cons,List.not_mem_nil,or_false]at hx <;> rcases hx with rfl | rfl | rfl | rfl | rfl <;> rfl
theorem sc_an (y:An):∀x∈y.vs,kM x=true:=by
 intro x hx;cases y <;> simp only [An.vs,List.mem_cons,List.not_mem_nil,or_false]at hx <;> rcases hx with rfl | rfl | rfl | rfl | rfl <;> rfl
theorem At.rep {H:Hp} {a:Addr} {r:RX} (h:r.At H a):Rep H 2 r.tv (.ref a):=by
 cases r with
 | next n t=>exact⟨a,_,rfl,h,.cons ⟨rfl,rfl⟩ (.cons ⟨rfl,rfl⟩ (.cons ⟨rfl,rfl⟩ .nil))⟩
 | has z m=>exact⟨a,_,rfl,h,.cons ⟨rfl,rfl⟩ (.cons ⟨rfl,rfl⟩ (.cons ⟨rfl,rfl⟩ .nil))⟩
 | kept n t p k d y=>
  obtain⟨b,c,h1,h2,h3⟩:=h
  exact⟨a,_,rfl,h1,.cons ⟨rfl,rfl⟩ (.cons ⟨rfl,rfl⟩ (.cons ⟨rfl,rfl⟩ (.cons ⟨rfl,rfl⟩ (.cons ⟨rfl,rfl⟩ (.cons (lQ h2 (sc_dd d)) (.cons (lQ h3 (sc_an y)) .nil))))))⟩
 | came n t p k d=>
  obtain⟨b,h1,h2⟩:=h
  exact⟨a,_,rfl,h1,.cons ⟨rfl,rfl⟩ (.cons ⟨rfl,rfl⟩ (.cons ⟨rfl,rfl⟩ (.cons ⟨rfl,rfl⟩ (.cons ⟨rfl,rfl⟩ (.cons (lQ h2 (sc_dd d)) .nil)))))⟩
 | asked n=>exact⟨a,_,rfl,h,.cons ⟨rfl,rfl⟩ (.cons ⟨rfl,rfl⟩ .nil)⟩
 | done n t y=>
  obtain⟨b,h1,h2⟩:=h
  exact⟨a,_,rfl,h1,.cons ⟨rfl,rfl⟩ (.cons ⟨rfl,rfl⟩ (.cons ⟨rfl,rfl⟩ (.cons (lQ h2 (sc_an y)) .nil)))⟩
def rank:RX->Nat | .next _ _=>0 | .has _ _=>1 | .kept _ _ _ _ _ _=>2 | _=>3
def turn:RX->Nat | .next _ t=>t | .came _ t _ _ _=>t | .done _ t _=>t | _=>0
def Xn (rs:List RX):RX->Prop
 | .next _ _=>rs=[]
 | .has z _=>(∀q∈rs,rank q<=1)/\(∃n t,.next n t∈rs)/\∀z' m,.has z' m∈rs->z'.cps.toList<z.cps.toList
 | .kept n t _ _ d y=>(∀q∈rs,rank q<=2)/\(∃n0 t0,.next n0 t0∈rs/\n<n0/\t<=t0)/\(∀n' t' p' k' d' y',.kept n' t' p' k' d' y'∈rs->n'<n)/\An.Of d y
 | .came n t _ _ _=>(∀n' t' p' k' d',.came n' t' p' k' d'∈rs->n'<n)/\(∀t' p' k' d' y',.kept n t' p' k' d' y'∉rs)/\∀q∈rs,turn q<=t
 | .asked n=>(∃t p k d,.came n t p k d∈rs/\d.far=true)/\.asked n∉rs/\∀t y,.done n t y∉rs
 | .done n t y=>(∀q∈rs,turn q<=t)/\(∀t y,.done n t y∉rs)/\∃t0 p k d,.came n t0 p k d∈rs/\An.Of d y/\(d.far=true->(.asked n∈rs↔y.early=false))
inductive Whole:List RX->Prop
 | nil:Whole []
 | snoc {rs:List RX} {r:RX}:Whole rs->Xn rs r->Whole (rs++[r])
def Ok:RX->Prop
 | .next n t=>1<=n/\n<=1000000/\t<=1000000000000
 | .has z m=>fU z/\1<=m/\m<=1000000000000
 | .kept n t p k d y=>1<=n/\n<=999999/\t<=1000000000000/\fU p/\uX k/\d.Ok/\An.Of d y
 | .came n t p k d=>1<=n/\n<=999999/\t<=1000000000000/\fU p/\uX k/\d.Ok
 | .asked n=>1<=n/\n<=999999
 | .done n t _=>1<=n/\n<=999999/\t<=1000000000000
end RX
structure RxsAt (H:Hp) (ra:Addr) (rs:List RX) (as:List Addr):Prop where
 lst:H ra=some (.lst (as.map V.ref))
 each:Paired (fun r a=>RX.At H a r) rs as
theorem RxsAt.len {H:Hp} {ra:Addr} {rs:List RX} {as:List Addr} (h:RxsAt H ra rs as):rs.length=as.length:=h.each.length
theorem RxsAt.keep {H H':Hp} {ra:Addr} {rs:List RX} {as:List Addr} (h:RxsAt H ra rs as) (s:TK H H') (e:H' ra=some (.lst (as.map V.ref))):RxsAt H' ra rs as:=⟨e,Paired.map' (fun _ _ x=>x.tk s) h.each⟩
theorem RxsAt.same {H H':Hp} {ra:Addr} {rs:List RX} {as:List Addr} (h:RxsAt H ra rs as) (s:Same H H'):RxsAt H' ra rs as:=h.keep s.tk (s _ _ h.lst)
theorem RxsAt.snoc {H H':Hp} {ra:Addr} {rs:List RX} {as:List Addr} {r:RX} {a:Addr} (h:RxsAt H ra rs as) (s:TK H H') (hr:r.At H' a) (e:H' ra=some (.lst (as.map V.ref++[.ref a]))):RxsAt H' ra (rs++[r]) (as++[a]):=
 ⟨by rw[e,cS];rfl,Paired.snoc (Paired.map' (fun _ _ x=>x.tk s) h.each) hr⟩
theorem RxsAt.get {H:Hp} {ra:Addr} {rs:List RX} {as:List Addr} (h:RxsAt H ra rs as) {i:Nat} {v:V} (e:(as.map V.ref)[i]?=some v):∃(a:Addr) (r:RX),v=.ref a/\as[i]?=some a/\rs[i]?=some r/\r.At H a:=by
 rw[dR]at e;cases ha:as[i]? with
 | none=>rw[ha]at e;cases e
 | some a=>
  rw[ha]at e;cases e
  obtain⟨hi,ei⟩:=Zgs.mp ha
  obtain⟨hi',hr⟩:=Paired.get' (j:=i) h.each hi
  rw[ei]at hr;exact⟨a,rs[i],rfl,rfl,fB hi',hr⟩
theorem RxsAt.rep {H:Hp} {ra:Addr} {rs:List RX} {as:List Addr} (h:RxsAt H ra rs as):Rep H 3 (.ls (rs.map RX.tv)) (.ref ra):=by
 refine⟨ra,_,rfl,h.lst,?_⟩
 have:∀ {rs:List RX} {as:List Addr},Paired (fun r a=>RX.At H a r) rs as->Paired (Rep H 2) (rs.map RX.tv) (as.map V.ref):=by
  intro rs as p;induction p with
  | nil=>exact .nil
  | cons h t ih=>exact .cons h.rep ih
 exact this h.each
theorem RxsAt.nil {H:Hp} {ra:Addr} (h:H ra=some (.lst [])):RxsAt H ra [] []:=⟨h,.nil⟩
end L2
namespace L2
open PySem PySem.Spec PyProof.Rows
def Mb (l:List Stmt) (i:Nat):Stmt:=l.getD i (.Pass ⟨0,0,0,0⟩)
def Yg:Stmt->List Stmt | .If _ a _ _=>a | _=>[]
def Yh:Stmt->List Stmt | .If _ _ b _=>b | _=>[]
def Ya:Stmt->List Stmt | .For _ _ ss _ _=>ss | .While _ ss _ _=>ss | _=>[]
theorem bE {t u:TS} {D:nR} {σ:St} {H:Hp} (R:St->Hp->Prop) (h:∀nx:St->Hp->Prop,(∀ σ' H',R σ' H'->nx σ' H')->t {D with nx:=nx } σ H) (h2:∀ σ' H',R σ' H'->u D σ' H'):oK t u D σ H:=h (u D) h2
theorem Gi {c:TT} {t u:TS} {D:nR} {σ:St} {H:Hp} (R:Bool->Hp->Prop) (h:∀k:Bool->Hp->Prop,(∀v H',R v H'->k v H')->c σ H k) (ht:∀H',R true H'->t D σ H') (hf:∀H',R false H'->u D σ H'):wI c t u D σ H:=
 h (fun b H1=>if b=true then t D σ H1 else u D σ H1) fun v H' r=>match v,r with | true,r=>ht H' r | false,r=>hf H' r
theorem Ry {c:TT} {t u x:TS} {D:nR} {σ:St} {H:Hp} (R:Bool->Hp->Prop) (h:∀k:Bool->Hp->Prop,(∀v H',R v H'->k v H')->c σ H k) (ht:∀H',R true H'->t {D with nx:=x D } σ H') (hf:∀H',R false H'->u {D with nx:=x D } σ H'):oK (wI c t u) x D σ H:=
 h (fun b H1=>if b=true then t {D with nx:=x D } σ H1 else u {D with nx:=x D } σ H1) fun v H' r=>match v,r with | true,r=>ht H' r | false,r=>hf H' r
end L2
namespace L2
open PySem PySem.Spec PyProof.Rows
theorem pK:∀ {ks:List Int} {vs:List Value},vs.length=ks.length->(∀(i:Nat) (v:Value),vs[i]?=some v->∃x t,ks[i]?=some x/\v=Value.int x t)->IntsAre vs ks
 | [],[],_,_=>.nil
 | k::ks,v::vs,hl,h=>by
  obtain⟨x,t,e1,rfl⟩:=h 0 v rfl
  cases e1
  exact .cons k t (pK (by simpa using hl) fun i v hv=>by simpa using h (i+1) v (by simpa using hv))
section
variable {prog:Program} {w:World} {A:Around} {E:Value->Shared->Prop} {s:Shared}
theorem tR {d:Addr} {ss:List Int} {kvs:List (aW × Value)} {Q:Value->Shared->Prop} (hh:A.handled=none) (lo:(d == sysModules)=false) (hd:s.heap.DictOf (bA prog w) d kvs) (hk:kvs.map (·.1)=ss.map Sum.inl) (h64:ss.length<64)
  (h:∀(h1 h':Heap) (tk:Nat) (out:Array Value) (e:Nat) (ns':List Int),(∀b ob,s.heap.get? b=some ob->h1.get? b=some ob)->(∀b ob,h1.get? b=some ob->h'.get? b=some ob)->h'.get? h1.objs.size=some (seqObj "list" out e)->IntsAre out.toList ns'->ns'.Perm ss->ns'.Pairwise (·<=·)->Q (.ref h1.objs.size) {s with heap:=h',toks:=tk }) :
  wpAny (model prog w) A (call (.builtin "sorted") [.ref d]) Q E s:=by
 have hl:kvs.length=ss.length:=by simpa using congrArg List.length hk
 obtain⟨ep,hm⟩:=hd.dictAt
 apply Calls.call_function_entry kind_sorted plain_sorted entry_sorted (args_sorted1 _)
 unfold Builtin.«sorted»
 apply wpAny_bind (m:=checkCount "sorted" 1 1 _)
 apply wpAny_pure
 apply wpAny_bind
 refine W.kdu_collect (W.kdl_dict lo) hh hm (by rw[hl];exact eK (Nat.le_of_lt h64) Zd) fun h1 tk acc k1 hacc=>?_
 have hS:IntsAre acc.toList ss:=pK (by rw[Array.length_toList,hacc.1,hl]) fun i v hv=>by
  obtain⟨k,x,e1,e2⟩:=hacc.2 i v (by simpa using hv)
  have e3:(kvs.map (·.1))[i]?=some k:=by rw[dR,e1];rfl
  rw[hk,dR]at e3;cases e4:ss[i]? with
  | none=>rw[e4]at e3;cases e3
  | some y=>
   rw[e4]at e3;cases e3
   rcases bI (show kX (Sum.inl y) v=true from e2) with⟨z,t,e,ev⟩ | ⟨_,_,e,_⟩
   ·cases e
    exact⟨_,t,rfl,ev⟩
   ·cases e
 generalize acc.toList=vs at hS;have hvl:vs.length<64:=by rw[hS.length];exact h64
 apply wpAny_bind
 apply wpAny_newList
 ·have g2:(h1.push (seqObj "list" vs.toArray 0)).get? h1.objs.size=some (seqObj "list" vs.toArray 0):=Heap.get?_push_size _ rfl
  apply wpAny_bind
  apply wpAny_holding
  refine wpAny_call_entry slot_list_sort ⟨_,g2,rfl⟩ entry_list_sort (list_sort_tree (s:={s with heap:=h1.push (seqObj "list" vs.toArray 0),toks:=tk }) g2 hS hvl fun out ns' a1 a2 a3=>⟨_,rfl,wpAny_pure ⟨_,rfl,?_⟩⟩) (args_list_sort _)
  obtain⟨e,he⟩:=sortedHeap_at (out:=out) g2
  refine h h1 _ _ _ e ns' k1 (fun b ob hb1=>?_) he a1 a2 a3
  have hlt:=Heap.lt_size hb1
  rw[sortedHeap_old (Nat.ne_of_lt hlt) (by rw[size_push'];exact Nat.lt_succ_of_lt hlt)]
  exact dH _ hb1
 ·exact eK (Nat.le_of_lt hvl) Zd
end
section
variable {X:Cx}
def mU:List V->Hp->VK->Prop:=fun vs H Q=>match vs with
 | [.ref a]=>∃(ss:List Int) (kvs:List (aW × V)),Rd H a (.dK kvs)/\kvs.map (·.1)=ss.map Sum.inl/\ss.length<64/\∀(l:Addr) (ns':List Int),H l=none->ns'.Perm ss->ns'.Pairwise (·<=·)->Q (.ref l) (aI H l (.lst (ns'.map V.int)))
 | _=>False
theorem xL (hcm:X.calm=true):CallR X (.builtin "sorted") mU:=by
 intro pins s σ H xs us Q I r h;unfold mU at h;split at h
 ·rename_i a
  obtain⟨ss,kvs,hq,hk,h64,q⟩:=h
  obtain⟨u,rfl,ru⟩:=gJ r
  cases ru
  obtain⟨_,hd,vs,rel,dd⟩:=lB I.hok hq
  refine tR (I.ok.hd hcm) hd dd (by rw[<- rel.keys];exact hk) h64 fun h1 h' tk out e ns' k1 k he hS hp hs=>?_
  have I1:=I.kept (t':=s.toks) k1
  refine⟨.ref h1.objs.size,_,I1.laid (t':=tk) (o:=.lst (ns'.map V.int)) k (aV _) ⟨?_,out.toList,e,rM hS,he⟩,rfl,q _ _ (I1.hok.fresh (aV _)) hp hs⟩
  rw[aQ,hp.length_eq];exact eK (Nat.le_of_lt h64) Zd
 ·exact h.elim
theorem R.ic (hcm:X.calm=true):XC X (.builtin "sorted") mU:=⟨xL hcm⟩
end
end L2
namespace L2
open PySem PySem.Spec PyProof.Rows
section
variable {X:Cx}
def Mc (neg:Bool):R2:=fun x y H Q=>mR y fun a=>∃o,DGet H a x o/\Q (.bl (if neg then !o.isSome else o.isSome)) H
theorem Gj (neg:Bool) (hu:X.A.units+1<cLine):OpR X (compareOp (if neg then .NotIn else .In)) (Mc neg):=by
 intro pins s σ H x y v u Q I rx ry h;unfold Mc at h;rw[dD]at h;obtain⟨a,rfl,o,g,q⟩:=h
 cases ry
 cases neg
 ·exact Wu hu I g rx fun s' I'=>⟨.bl _,H,I',rfl,q⟩
 ·exact Kf hu I g rx fun s' I'=>⟨.bl _,H,I',rfl,q⟩
theorem R.eh (hu:X.A.units+1<cLine):iR X (compareOp .In) (Mc false):=⟨Gj false hu⟩
theorem R.ie (hu:X.A.units+1<cLine):iR X (compareOp .NotIn) (Mc true):=⟨Gj true hu⟩
end
end L2
namespace L2
open PySem PySem.Spec PyProof.Rows
def eU (xs ys:List V):Prop:=∀(j:Nat) (u v:V),xs[j]?=some u->ys[j]?=some v->fE u=true/\fE v=true
theorem xM {xs:List V} (h:eU xs xs):eT xs xs=true:=by
 unfold eT;rw[Bool.and_eq_true_iff];refine⟨List.all_eq_true.mpr fun j hj=>?_,Zs⟩
 have hj:j<xs.length:=by simpa using hj
 have e:xs.getD j .non=xs[j]:=by simp [List.getD,hj]
 rw[e];have:=(h j xs[j] xs[j] (fB hj) (fB hj)).1
 generalize xs[j]=v at this;cases v <;> first | exact absurd (show false=true from this) Bool.false_ne_true | simp [yK]
section
variable {X:Cx}
theorem Gk {pins:List (Addr × Obj)} {s:Shared} {σ:St} {H:Hp} {a b:Addr} {xs ys:List V} (I:Inv X pins σ H s) (hu:X.A.units+64<cLine) (g1:H a=some (.tup xs)) (g2:H b=some (.tup ys)) (fl:eU xs ys):SeqAt.EqAt X.A.in1 s (.ref a) (.ref b) (eT xs ys):=by
 by_cases e:a=b
 ·subst e;rw[g1]at g2;cases g2
  rw[xM fl];exact SeqAt.EqAt.same _
 ·obtain⟨its,ri,ti,_⟩:=I.tuple (SqT.of g1)
  obtain⟨its2,ri2,ti2,_⟩:=I.tuple (SqT.of g2)
  have el1:its.length=xs.length:=ri.length.symm
  have el2:its2.length=ys.length:=ri2.length.symm
  have each:∀j (h1:j<its.toArray.size) (h2:j<its2.toArray.size),SeqAt.EqAt X.A.in1.in1 s its.toArray[j] its2.toArray[j] (yK (xs.getD j .non) (ys.getD j .non)):=fun j h1 h2=>by
   rw[dG]at h1 h2;obtain⟨h1',q1⟩:=Paired.get' (j:=j) ri h1
   obtain⟨h2',q2⟩:=Paired.get' (j:=j) ri2 h2
   obtain⟨f1,f2⟩:=fl j xs[j] ys[j] (fB h1') (fB h2')
   have e1:xs.getD j .non=xs[j]:=by simp [List.getD,h1']
   have e2:ys.getD j .non=ys[j]:=by simp [List.getD,h2']
   rw[e1,e2];simpa using oS q1 q2 f1 f2
  have e:((List.range (min its.toArray.size its2.toArray.size)).all (fun j=>yK (xs.getD j .non) (ys.getD j .non))&&its.toArray.size == its2.toArray.size)=eT xs ys:=by
   rw[dG,dG,el1,el2];rfl
  have key:=SeqAt.RcAt.tuples (A:=X.A.in1) (s:=s) ti ti2 (by rw[Bi];omega) each
  rw[e]at key;intro prog w E Q h;unfold eqBool;refine wpAny_holding ?_
  refine wpAny_ite_split (fun hab=>absurd (eq_of_beq hab) (fun z=>by cases z;contradiction)) (fun _=>?_)
  exact wpAny_bind (key prog w E _ (wpAny_truthy_bool h))
def nW (xs:List V) (zs:List (Addr × List V)):Bool:=zs.any fun z=>eT z.2 xs
def Md (neg:Bool):R2:=fun x y H Q=>mR x fun a=>mR y fun p=>∃(xs:List V) (zs:List (Addr × List V)),H a=some (.tup xs)/\H p=some (.lst (zs.map fun z=>V.ref z.1))/\(∀z∈zs,H z.1=some (.tup z.2)/\eU z.2 xs)/\Q (.bl (if neg then !nW xs zs else nW xs zs)) H
def Vl (H:Hp) (xs:List V) (v:Value):Bool:=match v with | .ref b=>(match H b with | some (.tup ys)=>eT ys xs | _=>false) | _=>false
theorem Gm {H:Hp} {xs ys:List V} {b:Addr} (g:H b=some (.tup ys)):Vl H xs (.ref b)=eT ys xs:=by unfold Vl;dsimp only;rw[g]
theorem xN {zs:List (Addr × List V)}:∀ {us:List Value},Vals (zs.map fun z=>V.ref z.1) us->us=zs.map fun z=>Value.ref z.1:=by
 induction zs with
 | nil=>intro us r;cases r;rfl
 | cons z zs ih=>intro us r;cases r with | cons r t=>rw[ih t];cases r;rfl
theorem Gn (neg:Bool) (hu:X.A.units+64<cLine):OpR X (compareOp (if neg then .NotIn else .In)) (Md neg):=by
  intro pins s σ H x y v u Q I rx ry h;unfold Md at h;rw[dD]at h;obtain⟨a,rfl,h⟩:=h
  rw[dD]at h;obtain⟨p,rfl,xs,zs,g1,g2,hz,q⟩:=h
  cases rx
  cases ry
  obtain⟨its,r,pl,_⟩:=I.list (SqL.of g2)
  have ei:=xN r
  have he:∀w,w∈its.toArray->SeqAt.EqAt X.A.in1 s w (.ref a) (Vl H xs w):=fun w hw=>by
    have hw:w∈its:=by simpa using hw
    rw[ei]at hw;obtain⟨z,hm,rfl⟩:=Zmm.mp hw
    rw[Gm (hz z hm).1];exact Gk I hu (hz z hm).1 g1 (hz z hm).2
  have ea:its.toArray.any (Vl H xs)=nW xs zs:=by
    rw[ei];unfold nW;rw[List.any_toArray,List.any_map];have:∀zs:List (Addr × List V),(∀z∈zs,H z.1=some (.tup z.2)/\eU z.2 xs)->zs.any (Vl H xs∘fun z=>Value.ref z.1)=zs.any fun z=>eT z.2 xs:=fun zs hz=>by
     induction zs with
     | nil=>rfl
     | cons z zs ih=>
      rw[List.any_cons,List.any_cons,ih fun y hy=>hz y (kD _ hy)]
      congr 1
      exact Gm (hz z iM).1
    exact this zs hz
  cases neg
  . refine SeqAt.in_listAt _ pl.isList he ⟨.bl _,H,I,rfl,?_⟩
    rw[ea];exact q
  . refine SeqAt.notIn_listAt _ pl.isList he ⟨.bl _,H,I,rfl,?_⟩
    rw[ea];exact q
theorem R.ig (hu:X.A.units+64<cLine):iR X (compareOp .In) (Md false):=⟨Gn false hu⟩
theorem R.el (hu:X.A.units+64<cLine):iR X (compareOp .NotIn) (Md true):=⟨Gn true hu⟩
end
end L2
namespace L2
open PySem PySem.Spec PyProof.Rows
section
variable {prog:Program} {w:World} {A:Around} {E:Value->Shared->Prop} {s:Shared} {u d:Addr} {i n ep:Nat} {od:Obj} {es:Array DictEntry}
theorem Bo {Q:Option Value->Shared->Prop} (hit:s.heap.IsValIter u d i n ep) (g:s.heap.get? d=some od) (gd:od.data=.dict es ep) (hn:es.size=n) (hi:i<es.size)
  (q:∀h',h'.IsValIter u d (i+1) n ep->Heap.SameBut u s.heap h'->Q (some es[i].val) {s with heap:=h' }):wpAny (model prog w) A (pyNext (.ref u)) Q E s:=by
 obtain⟨o,ho,hc,hd⟩:=id hit
 have ty:=hit.typeIs;have own:Builtin.Dict_items.ownsTuple "dict_valueiterator"=false:=by decide
 unfold pyNext;refine wpAny_bind (wpAny_attempt (wpAny_callSpecial?_slot (name:=Str.ofString "__next__") ty PySem.F.slot_dict_valueiterator_next (wpAny_call_entry PySem.F.slot_dict_valueiterator_next ty PySem.F.entry_dict_valueiterator_next ?_ (PySem.F.args_dict_valueiterator_next_1 _))))
 refine wpAny_bind (wpAny_pure (wpAny_bind (wpAny_bind ?_)))
 first | refine wpAny_bind (wpAny_typeNameOfWhole_valiter ty (wpAny_pure (wpAny_bind (wpAny_fieldsOf ho hd ?_)))) | refine wpAny_bind (wpAny_typeNameOf_valiter ty (wpAny_pure (wpAny_bind (wpAny_fieldsOf ho hd ?_))))
 simp only [own,Bool.false_eq_true,if_false];show wpAny _ _ (if (Value.ref d == Value.none)=true then _ else _) _ _ s
 rw[if_neg (show ¬ ((Value.ref d == Value.none)=true) from Bool.false_ne_true)];refine wpAny_bind (wpAny_pure (wpAny_bind (wpAny_dictEntries g gd ?_)))
 rw[if_neg (by rw[hn];simp)];refine wpAny_bind (wpAny_pure (wpAny_bind (wpAny_dictEpoch g gd ?_)));rw[if_neg Zs];refine wpAny_pure ?_
 simp only [show ¬ ((i:Int)<0) from by omega,if_false,Int.toNat_natCast,Array.getElem?_eq_getElem hi];refine wpAny_bind ?_
 first | refine wpAny_bind (wpAny_typeNameOfWhole_valiter ty (wpAny_pure (wpAny_bind (wpAny_isOneOf_valiter ty ?_)))) | refine wpAny_bind (wpAny_typeNameOf_valiter ty (wpAny_pure (wpAny_bind (wpAny_isOneOf_valiter ty ?_))))
 show wpAny _ _ (setField (.ref u) 1 (rawInt ((i:Int)+1)) >>= _) _ _ s;refine wpAny_bind (wpAny_setField ho hd Zs ?_)
 have ht':(s.heap.update u (Obj.mapFields (·.setIfInBounds 1 (rawInt ((i:Int)+1))))).IsValIter u d (i+1) n ep:=⟨_,Heap.get?_update_self _ ho (Obj.isFreed_of_fields (Obj.data_mapFields hd _)),(Obj.cls_mapFields ..).trans hc,by rw[Obj.data_mapFields hd];simp [rawInt]⟩
 refine wpAny_bind (wpAny_holding (wpAny_bind (wpAny_isOneOf_valiter (s:={s with heap:=s.heap.update u (Obj.mapFields (·.setIfInBounds 1 (rawInt ((i:Int)+1)))) }) ht'.typeIs (wpAny_bind (wpAny_isOneOf_valiter (s:={s with heap:=s.heap.update u (Obj.mapFields (·.setIfInBounds 1 (rawInt ((i:Int)+1)))) }) ht'.typeIs ?_)))))
 show wpAny _ _ (pure es[i].val) _ _ _;exact wpAny_pure (wpAny_pure ⟨_,rfl,wpAny_pure (q _ ht' (Heap.SameBut.update ..))⟩)
theorem Go {Q:Option Value->Shared->Prop} (hh:A.handled=none) (hit:s.heap.IsValIter u d i n ep) (g:s.heap.get? d=some od) (gd:od.data=.dict es ep) (hn:es.size=n) (hi:es.size<=i)
  (q:∀h',Heap.ExtBut u s.heap h'->Q none {s with heap:=h' }):wpAny (model prog w) A (pyNext (.ref u)) Q E s:=by
 obtain⟨o,ho,hc,hd⟩:=id hit
 have ty:=hit.typeIs;have own:Builtin.Dict_items.ownsTuple "dict_valueiterator"=false:=by decide
 unfold pyNext;refine wpAny_bind (wpAny_attempt (wpAny_callSpecial?_slot (name:=Str.ofString "__next__") ty PySem.F.slot_dict_valueiterator_next (wpAny_call_entry PySem.F.slot_dict_valueiterator_next ty PySem.F.entry_dict_valueiterator_next ?_ (PySem.F.args_dict_valueiterator_next_1 _))))
 refine wpAny_bind (wpAny_pure (wpAny_bind (wpAny_bind ?_)))
 first | refine wpAny_bind (wpAny_typeNameOfWhole_valiter ty (wpAny_pure (wpAny_bind (wpAny_fieldsOf ho hd ?_)))) | refine wpAny_bind (wpAny_typeNameOf_valiter ty (wpAny_pure (wpAny_bind (wpAny_fieldsOf ho hd ?_))))
 simp only [own,Bool.false_eq_true,if_false];show wpAny _ _ (if (Value.ref d == Value.none)=true then _ else _) _ _ s
 rw[if_neg (show ¬ ((Value.ref d == Value.none)=true) from Bool.false_ne_true)];refine wpAny_bind (wpAny_pure (wpAny_bind (wpAny_dictEntries g gd ?_)))
 rw[if_neg (by rw[hn];simp)];refine wpAny_bind (wpAny_pure (wpAny_bind (wpAny_dictEpoch g gd ?_)));rw[if_neg Zs];refine wpAny_pure ?_
 simp only [show ¬ ((i:Int)<0) from by omega,if_false,Int.toNat_natCast,Array.getElem?_eq_none hi];refine wpAny_bind ?_
 first | refine wpAny_bind (wpAny_typeNameOfWhole_valiter ty (wpAny_pure ?_)) | refine wpAny_bind (wpAny_typeNameOf_valiter ty (wpAny_pure ?_))
 show wpAny _ _ (setField (.ref u) 0 .none >>= _) _ _ s;refine wpAny_bind (wpAny_setField ho hd Zs ?_);show wpAny _ _ (newExc (.type "StopIteration") [] >>= _) _ _ _
 refine wpAny_bind ?_;simp only [newExc,newTuple];refine wpAny_bind (wpAny_newObj_type ?_ (by size_fits))
 refine wpAny_bind (m:=firstArgMember _ _) (wpAny_of_eq (a:=Value.none) (by first | rfl | (simp only [firstArgMember];rfl)) (wpAny_newObj_type ?_ (by size_fits)))
 simp only [raiseNew];refine wpAny_bind (wpAny_handled ?_);rw[show A.in1.handled=none from hh];refine wpAny_bind (wpAny_pure (wpAny_throw ?_))
 exact wpAny_bind (wpAny_isInstance (T:="StopIteration") (b:=true) ⟨_,Heap.get?_push_size _ rfl,rfl⟩ isSubtype_stop (wpAny_pure (q _ (((Heap.SameBut.update ..).extBut.push _).push _))))
theorem Bp (hty:s.TypeIs (.ref d) "dict") (hd:(d == sysModules)=false) {Q:PySem.Fin->Shared->Prop}
  (q:Q (.done (.ret (.ref s.heap.objs.size))) {s with heap:=s.heap.push {cls:=.type "dict_values",data:=.fields #[.ref d] } }):wpAny (model prog w) A (Builtin.«dict.values» ⟨[.ref d],[]⟩) Q E s:=by
 refine wpAny_bind ?_
 unfold Builtin.Dict.noArgs;refine wpAny_bind (wpAny_notOrdered_dict hty ?_)
 show wpAny _ _ (pure d) _ _ s
 refine wpAny_pure ?_
 show wpAny _ _ (Builtin.Dict.showsAll d >>= _) _ _ s
 unfold Builtin.Dict.showsAll;rw[if_neg (by rw[hd];exact Bool.false_ne_true)]
 refine wpAny_bind (wpAny_pure ?_)
 exact wpAny_bind (wpAny_newObj_type (wpAny_pure q))
theorem Bq {v:Addr} {Q:Value->Shared->Prop} (hv:s.heap.IsValuesView v d) (g:s.heap.get? d=some od) (gd:od.data=.dict es ep)
  (q:Q (.ref s.heap.objs.size) {s with heap:=s.heap.push {cls:=.type "dict_valueiterator",data:=.fields #[.ref d,.int 0 0,.int es.size 0,.int ep 0] } }):wpAny (model prog w) A (pyIter (.ref v)) Q E s:=by
 obtain⟨ov,hov,hcv,hdv⟩:=id hv
 refine wpAny_pyIter_slot hv.typeIs PySem.F.slot_dict_values_iter (wpAny_call_entry PySem.F.slot_dict_values_iter hv.typeIs PySem.F.entry_dict_values_iter ?_ (PySem.F.args_dict_values_iter_1 _))
 unfold Builtin.«dict_values.__iter__»
 refine wpAny_bind (wpAny_pure ?_)
 refine wpAny_bind ?_
 unfold Builtin.Dict_items.dictOf;refine wpAny_bind (wpAny_field hov hdv (x:=.ref d) rfl (wpAny_pure ?_))
 refine wpAny_bind ?_
 unfold Builtin.Dict_items.newIterator;refine wpAny_bind (wpAny_dictEntries g gd ?_)
 refine wpAny_bind (wpAny_dictEpoch g gd ?_)
 have hown:Builtin.Dict_items.ownsTuple "dict_valueiterator"=false:=by decide
 simp only [hown,Bool.false_eq_true,if_false]
 refine wpAny_newObj_type (wpAny_pure ⟨_,rfl,"dict_valueiterator",_,⟨_,Heap.get?_push_size _ rfl,rfl⟩,PySem.F.slot_dict_valueiterator_next.lookup,?_⟩)
 simpa [rawInt]using q
end
def Rz (a:Addr) (o:Obj) (kvs:List (List aW × V)):It:=
 ⟨fun i H=>H a=some (.frz o (.dT kvs))/\i<kvs.length,fun i H x H'=>H'=H/\(kvs.map (·.2))[i]?=some x,fun i H=>H a=some (.frz o (.dT kvs))/\kvs.length<=i⟩
theorem Sb (a:Addr) (o:Obj) (kvs:List (List aW × V)):uR (Rz a o kvs) (kvs.map (·.2)) (fun H=>H a=some (.frz o (.dT kvs))):=
 ⟨fun i H hi e=>⟨e,by rwa [aQ]at hi⟩,fun i H x H' _ _ y=>y,fun H e=>⟨e,by rw[aQ];exact aV _⟩⟩
section
variable {X:Cx} {pins:List (Addr × Obj)} {σ:St} {H:Hp} {s:Shared} {a:Addr} {o:Obj} {kvs:List (List aW × V)}
theorem tS {P:Program} {w:World} {h:Heap} (ok:HOk P w H h) (e:H a=some (.frz o (.dT kvs))) {es:Array DictEntry} {ep:Nat} (hd:o.data=.dict es ep):es.size=kvs.length/\∀(i:Nat) (hi:i<es.size),∃hb:i<kvs.length,RelV kvs[i].2 es[i].val:=by
 obtain⟨g0,_,_,xs,rel,ob,es',ep',g,h2,h3,h4,h5⟩:=(show ObjOk P w H h a (.frz o (.dT kvs)) from ok a _ e)
 rw[g0]at g;cases g
 rw[hd]at h3;cases h3
 have hl:=Paired.length rel
 have hs:es.size=kvs.length:=by have:=congrArg List.length h4;rw[aQ,Array.length_toList]at this;omega
 refine⟨hs,fun i hi=>?_⟩
 have hx:i<xs.length:=by omega
 obtain⟨hk,_,_,hr⟩:=Paired.get' (j:=i) rel hx
 refine⟨hk,?_⟩
 have h1:(es.toList)[i]?=some es[i]:=by rw[Array.getElem?_toList,Array.getElem?_eq_getElem hi]
 rw[h4,dR,fB hx]at h1;rw[<- Option.some.inj h1];exact hr
theorem Me {P:Program} {w:World} {K:W.Frag} {tg:Expr} (a it:Addr) {es:Array DictEntry} {ep:Nat} (hd:o.data=.dict es ep):sK P w K tg (Rz a o kvs) [it] it (fun i h=>h.IsValIter it a i kvs.length ep) where
 mem:=by simp
 obj:=fun i h st b hb=>by
  obtain rfl:b=it:=by simpa using hb
  obtain⟨ob,e,c,d⟩:=st
  exact⟨ob,e,fun v z=>by rw[d]at z;cases z⟩
 keep:=fun i h h' st k=>st.at fun ob e=>k it Zs ob e
 item:=by
  intro X hP hw hK hc i pins s σ H E I hf st hg;subst hP hw hK;obtain⟨ef,hi⟩:=hg
  have h1:=lP I.hok ef
  obtain⟨f0,f1,f2,f3,f4,f5⟩:=hf it Zs
  obtain⟨hs,hv⟩:=tS I.hok ef hd
  have hi':i<es.size:=by omega
  obtain⟨hb,hk⟩:=hv i hi'
  refine Bo st h1 hd hs hi' fun h' st' sb=>?_
  have I1:Inv X pins σ H {s with heap:=h' }:=I.turned (t':=s.toks) (fun b ob hb e=>(sb.2 b hb).trans e) f0 f1 f3 f4 f5
  obtain⟨ob,e,c,d⟩:=id st'
  refine⟨_,rfl,qZ (s:={s with heap:=h' }) e c d Zd ⟨kvs[i].2,H,I1,hk,⟨rfl,?_⟩,st',fun b hb=>(hf b hb).1⟩⟩
  rw[dR,fB hb];rfl
 done:=by
  intro X hP hw hK hc i pins s σ H E I hf st hg;subst hP hw hK;obtain⟨ef,hi⟩:=hg
  have h1:=lP I.hok ef
  obtain⟨f0,f1,f2,f3,f4,f5⟩:=hf it Zs
  obtain⟨hs,_⟩:=tS I.hok ef hd
  exact Go (I.ok.hd hc) st h1 hd hs Zo fun h' eb=>⟨rfl,I.turned (t':=s.toks) (fun b ob hb e=>eb b ob hb e) f0 f1 f3 f4 f5⟩
 self:=fun _ _ _ _ _ st h=>wpAny_pyIter_valiter st h
def Gp (te:TE):TI:=fun σ H R=>te σ H fun x H1=>mR x fun a=>∃kvs,H1 a=some (.dT kvs)/\∀o,R (Rz a o kvs) (aI H1 a (.frz o (.dT kvs)))
theorem Gq {tg l:Expr} {tl:TE} {apos cpos:Pos} (hl:PE X l tl) (hbase:attributeBase l "values" X.env (eval l X.env)=eval l X.env) (hline:(apos.endLine == cpos.line)=true):PI X tg (.Call (.Attribute l "values" apos) [] [] cpos) (Gp tl):=by
 intro pins s σ H R I h;refine wpAny_Call_method0_late hbase hline (bT (hl pins s σ H _ I h) fun v s1 ⟨x,H1,I1,r1,q1⟩=>?_)
 dsimp only at q1
 rw[dD]at q1;obtain⟨a,rfl,kvs,e,q⟩:=q1
 cases r1
 obtain⟨t1,t2,_⟩:=Dt I1 (.inr ⟨_,.inl e⟩)
 obtain⟨ob,es,ep,bs,g,f,hl',hb,lo,I2⟩:=I1.freezeT e
 have ty:s1.TypeIs (.ref a) "dict":=⟨ob,g,f.ex.1⟩
 refine⟨"dict","dict.values",PySem.F.plainAttrs_dict,PySem.F.slot_dict_values,PySem.F.type_dict_values,t1,t2,Calls.callWith_builtin rfl (PySem.evalArgs_none ?_)⟩
 refine wpAny_call_entry PySem.F.slot_dict_values ty PySem.F.entry_dict_values (Bp ty lo ⟨_,rfl,?_⟩) (PySem.F.args_dict_values_1 _)
 have I3:=I2.kept (t':=s1.toks) (h':=s1.heap.push {cls:=.type "dict_values",data:=.fields #[.ref a] }) fun b o e=>dH _ e
 have hview:(s1.heap.push {cls:=.type "dict_values",data:=.fields #[.ref a] }).IsValuesView s1.heap.objs.size a:=⟨_,Heap.get?_push_size _ rfl,rfl,rfl⟩
 obtain⟨hs,_⟩:=tS I3.hok (aA (a:=a)) f.dat
 refine Bq (s:={s1 with heap:=s1.heap.push {cls:=.type "dict_values",data:=.fields #[.ref a] } }) hview (lP I3.hok (aA (a:=a))) f.dat ?_
 have hn:(aI H1 a (.frz ob (.dT kvs))) (s1.heap.push {cls:=.type "dict_values",data:=.fields #[.ref a] }).objs.size=none:=I3.hok.fresh (aV _)
 refine⟨_,[_],_,_,_,rfl,I3.kept (t':=s1.toks) fun b o e=>dH _ e,Me a _ f.dat,⟨_,Heap.get?_push_size _ rfl,rfl,?_⟩,fun b hb=>?_,q ob⟩
 ·rw[hs];rfl
 ·obtain rfl:b=(s1.heap.push {cls:=.type "dict_values",data:=.fields #[.ref a] }).objs.size:=by simpa using hb
  exact I3.fpOk (aV _) hn
end
theorem R.ii {X:Cx} {tg l:Expr} {tl:TE} {apos cpos:Pos} (hl:XE X l tl) (hbase:attributeBase l "values" X.env (eval l X.env)=eval l X.env:=by rfl) (hline:(apos.endLine == cpos.line)=true:=by rfl):XI X tg (.Call (.Attribute l "values" apos) [] [] cpos) (Gp tl):=⟨Gq hl.h hbase hline⟩
end L2
namespace KL
open PySem L2
def gU (i:Nat):Stmt:=PySem.Challenge.pw_oncedoor_k53_folded_rows.main.body.getD i (.Pass ⟨0,0,0,0⟩)
abbrev hX:Stmt:=gU 4
abbrev dM:Stmt:=gU 7
abbrev fF:Stmt:=gU 9
abbrev bU:Stmt:=oC (gU 11) 0
abbrev eL:Stmt:=oC (gU 11) 1
abbrev eV:Stmt:=oC (gU 11) 2
abbrev eN:Stmt:=oC (gU 11) 3
abbrev fG:Stmt:=gU 13
abbrev fH:Stmt:=gU 14
abbrev dN:Stmt:=gU 15
abbrev fI:Stmt:=gU 16
abbrev cU:Stmt:=gU 17
abbrev fP:Stmt:=gU 19
abbrev dO:Stmt:=gU 20
abbrev fJ:Stmt:=gU 21
abbrev hZ:Stmt:=gU 23
abbrev iA:Stmt:=gU 24
abbrev cD:Stmt:=gU 25
abbrev jS:Stmt:=gU 26
abbrev iB:Stmt:=gU 27
abbrev eW:Stmt:=gU 28
abbrev fK:Stmt:=gU 29
abbrev cO:Stmt:=gU 30
abbrev iC:Stmt:=gU 31
abbrev iD:Stmt:=gU 32
abbrev iE:Stmt:=gU 33
abbrev fV:Stmt:=gU 35
abbrev fW:Stmt:=gU 36
abbrev eO:Stmt:=gU 37
abbrev cY:Stmt:=gU 38
abbrev fX:Stmt:=gU 39
abbrev fY:Stmt:=gU 40
abbrev bF:Stmt:=gU 41
abbrev dA:Stmt:=gU 42
abbrev bG:Stmt:=gU 43
abbrev dY:Stmt:=gU 44
abbrev cG:Stmt:=gU 45
abbrev dF:Stmt:=gU 46
abbrev dZ:Stmt:=gU 47
abbrev lR:Stmt:=gU 48
theorem gV {N P:List Str} {sc:Scope} (a:sc.kind=.function:=by rfl) (b:sc.isCoroutine=false:=by rfl) (c:sc.isGenerator=false:=by rfl) (d:N.Nodup:=by decide +kernel) (e:N.take P.length=P:=by rfl) (f:∀x∈P,sc.names.lookup x=some .local∨sc.names.lookup x=some .cell:=by decide +kernel) (g:∀y∈sc.names,y.2≠.free:=by decide +kernel):aN N P sc:=⟨a,b,c,d,e,f,g⟩
theorem vC:aN ["since","life","turn"] ["since","life","turn"] (aB hX):=gV
theorem nX:aN ["deed"] ["deed"] (aB dM):=gV
theorem qQ:aN ["deed","answer"] ["deed","answer"] (aB fF):=gV
theorem mV:aN ["self","rows"] ["self","rows"] (aB bU):=gV
theorem pL:aN ["self","name"] ["self","name"] (aB eL):=gV
theorem tT:aN ["self"] ["self"] (aB eV):=gV
theorem cP:aN ["self","changes","name","by"] ["self","changes"] (aB eN):=gV
theorem jC:aN ["rows","done","asked","came","still"] ["rows"] (aB fG):=gV
theorem gC:aN ["rows","word","told","row"] ["rows","word"] (aB fH):=gV
theorem qR:aN ["rows"] ["rows"] (aB dN):=gV
theorem gD:aN ["rows","came","book","row"] ["rows","came"] (aB fI):=gV
theorem kG:aN ["rows","came","kept"] ["rows","came"] (aB cU):=gV
theorem fN:aN ["rows","life","turn","numbers","up","has","came","busy","kept"] ["rows","life","turn","numbers"] (aB fP):=gV
theorem gE:aN ["kept","life","turn","last","entry"] ["kept","life","turn"] (aB dO):=gV
theorem cZ:aN ["rows","turn","numbers","came","asked","told","number"] ["rows","turn","numbers"] (aB fJ):=gV
theorem vD:aN ["_law_script"] ["_law_script"] (aB hZ):=gV
theorem eX:aN ["_law_deck_here","_law_many","_law_cell","_law_number"] ["_law_deck_here","_law_many"] (aB iA):=gV
theorem cH:aN ["_law_deck_here","_law_signs","_law_longest","_law_many","_law_word","_law_size","_law_at","_law_first","_law_ends"] ["_law_deck_here","_law_signs","_law_longest","_law_many"] (aB cD):=gV
theorem xO:aN ["_law_deck_here","_law_many"] ["_law_deck_here","_law_many"] (aB jS):=gV
theorem bO:aN ["_law_deck_here","_law_names","_law_houses","_law_amount","_law_at","_law_name","_law_other","_law_spot_here","_law_house","_law_there","_law_some"] ["_law_deck_here","_law_names","_law_houses"] (aB iB):=gV
theorem iF:aN ["_law_deed_here","_law_asked","_law_words_here","_law_some"] ["_law_deed_here","_law_asked"] (aB eW):=gV
theorem eP:aN ["_law_deck_here","_law_deed_here","_law_word","_law_amount","_law_low","_law_high"] ["_law_deck_here","_law_deed_here","_law_word"] (aB fK):=gV
theorem cE:aN ["_law_deck_here","_law_letters","_law_menus_here","_law_word","_law_many","_law_askers"] ["_law_deck_here"] (aB cO):=gV
theorem vE:aN ["_law_deck_here","_law_menus_here"] ["_law_deck_here","_law_menus_here"] (aB iC):=gV
theorem fZ:aN ["_law_deck_here","_law_menus_here","_law_number","_law_turn","_law_deed_here","_law_words_here","_law_answer_here"] ["_law_deck_here","_law_menus_here","_law_number","_law_turn"] (aB iD):=gV
theorem cB:aN ["_law_deck_here","_law_menus_here","_law_number","_law_turn","_law_rows","_law_name","_law_last","_law_k"] ["_law_deck_here","_law_menus_here"] (aB iE):=gV
theorem dP:aN ["_law_book_here","_law_deed_here","_law_amount","_law_name","_law_have"] ["_law_book_here","_law_deed_here"] (aB fV):=gV
theorem lS:aN ["_law_book_here","_law_deed_here","_law_behind"] ["_law_book_here","_law_deed_here"] (aB fW):=gV
theorem pM:aN ["_law_deed_here","_law_answer_here"] ["_law_deed_here","_law_answer_here"] (aB eO):=gV
theorem cA:aN ["_law_book_here","_law_deed_here","_law_answer_here","_law_name","_law_by"] ["_law_book_here","_law_deed_here","_law_answer_here"] (aB cY):=gV
theorem cV:aN ["_law_deck_here","_law_book_here","_law_deed_here","_law_name","_law_have","_law_some","_law_amount"] ["_law_deck_here","_law_book_here","_law_deed_here"] (aB fX):=gV
theorem fL:aN ["_law_deck_here","_law_book_here","_law_one","_law_due_here","_law_far","_law_some"] ["_law_deck_here","_law_book_here","_law_one"] (aB fY):=gV
theorem aY:aN ["_law_deck_here","_law_rows","_law_menus_here","_law_many","_law_book_here","_law_under","_law_words_here","_law_number","_law_turn","_law_k","_law_way","_law_deed_here","_law_one","_law_answer_here"] ["_law_deck_here","_law_rows","_law_menus_here","_law_many"] (aB bF):=gV
theorem eB:aN ["_law_deck_here","_law_menus_here","_law_rows"] ["_law_deck_here","_law_menus_here"] (aB dA):=gV
theorem bB:aN ["_law_deck_here","_law_rows","_law_done","_law_numbers","_law_way","_law_turns","_law_turn","_law_life"] ["_law_deck_here","_law_rows"] (aB bG):=gV
theorem jD:aN ["_law_rows","_law_came","_law_book_here","_law_row"] ["_law_rows","_law_came"] (aB dY):=gV
theorem cQ:aN ["_law_rows","_law_came","_law_life","_law_turn","_law_spots","_law_last","_law_row","_law_there","_law_numbers"] ["_law_rows","_law_came","_law_life","_law_turn","_law_spots"] (aB cG):=gV
theorem eC:aN ["_law_rows","_law_life","_law_turn","_law_numbers","_law_came","_law_number","_law_found","_law_one"] ["_law_rows","_law_life","_law_turn","_law_numbers"] (aB dF):=gV
theorem nL:aN ["_law_found","_law_due_here"] ["_law_found","_law_due_here"] (aB dZ):=gV
theorem eY:aN ["_law_script","_law_deck_here","_law_menus_here","_law_turn","_law_rows","_law_life","_law_when","_law_numbers","_law_due_here","_law_kept_here","_law_found"] ["_law_script"] (aB lR):=gV
structure Txt (K:W.Frag) (mg:Str->Option Value):Prop where
 b_isinstance:mg "isinstance"=none
 b_int:mg "int"=none
 b_bool:mg "bool"=none
 b_str:mg "str"=none
 b_tuple:mg "tuple"=none
 b_len:mg "len"=none
 b_sum:mg "sum"=none
 b_list:mg "list"=none
 b_range:mg "range"=none
 b_max:mg "max"=none
 b_min:mg "min"=none
 b_sorted:mg "sorted"=none
 b_dict:mg "dict"=none
 b_zip:mg "zip"=none
 g_MOST:∃t,mg "MOST"=some (.int (1000000000000) t)
end KL
namespace KL
open PySem L2
section
variable {P:Program} {w:World} {K:W.Frag} {mg:Str->Option Value} {base:Heap}
def bK:Sp:=fun vs H Q _=>∃d b m,vs=[.ref d,.int m]/\Dk H d b/\0<m/\m<18446744073709551616/\∀r H',0<=r->r<m->Dk H' d b->Kp d b H H'->Q (.int r) H'
theorem Mf (T:Txt K mg) (D:DefAt K mg "_law_deck" hZ ["_law_script"]):aG P w K mg base 1 "_law_deck" ["_law_script"] (Em K):=by
 refine D.go vD (fun vs H Q E h=>?_) (fun f cdv A outer s H vs Q E hr h=>?_)
 ·obtain⟨a,ns,rfl,_⟩:=h;rfl
 ·obtain⟨a,ns,rfl,hS,q⟩:=h
  refine⟨_,(R.ag (R.ao (R.au (R.U (R.bg (R.fg (K:=K)) rfl T.b_list oE (R.U (R.sl (R.du (K:=K)) (R.v 0) R.pn (R.ps R.ab)) R.ac)) (R.U (R.op R.ap R.ab (R.op R.cg (R.ax (R.jd (K:=K) rfl) rfl T.b_sum Qy (R.U (R.sl (R.du (K:=K)) (R.v 0) R.pn (R.ps R.ab)) R.ac)) R.ab)) (R.U R.ab R.ac)))))),?_⟩
  have hc:gL (ns.map V.int) none (some 63)=(ns.take 63).map V.int:=by rw[Ky];exact congrArg _ (tG ns 63)
  refine⟨_,hS,fun p1 hp1=>⟨_,.inl (SqL.of aA),fun b hb=>?_⟩⟩
  have s2:Same H (aI (aI H p1 (.lst (gL (ns.map V.int) none (some 63)))) b (.lst (gL (ns.map V.int) none (some 63)))):=(aD hp1).trans (aD hb)
  have g2:(aI (aI H p1 (.lst (gL (ns.map V.int) none (some 63)))) b (.lst (gL (ns.map V.int) none (some 63)))) b=some (.lst ((ns.take 63).map V.int)):=by rw[aA,hc]
  have hb0:H b=none:=(aD hp1).free hb
  show kE _ _ _ (aI (aI H p1 (.lst (gL (ns.map V.int) none (some 63)))) b (.lst (gL (ns.map V.int) none (some 63)))) _
  generalize aI (aI H p1 (.lst (gL (ns.map V.int) none (some 63)))) b (.lst (gL (ns.map V.int) none (some 63)))=H2 at s2 g2;refine⟨_,s2.seq hS,fun p2 hp2=>⟨p2,ns.take 63,rfl,SqL.of (by rw[aA,hc]),by show(0:Int)<2147483629;decide,dE rfl,fun d hd=>?_⟩⟩
  have s4:Same H (aI H2 p2 (.lst (gL (ns.map V.int) none (some 63)))):=s2.trans (aD hp2)
  have nbd:b≠d:=aF ((aD hp2) _ _ g2) hd
  refine q d b _ (s4.free hd) hb0 ⟨ns.take 63,_,_,aA,?_,?_⟩ (s4.trans (aD hd))
  ·rw[aE nbd];exact(aD hp2) _ _ g2
  ·rw[nQ];exact Nat.min_le_left _ _
theorem Gr (D:DefAt K mg "_law_draw" iA ["_law_deck_here","_law_many"]) :
  aG P w K mg base 1 "_law_draw" ["_law_deck_here","_law_many"] bK:=by
 refine D.go eX (fun vs H Q E h=>?_) (fun f cdv A outer s H vs Q E hr h=>?_)
 ·obtain⟨d,b,m,rfl,_⟩:=h;rfl
 ·obtain⟨d,b,m,rfl,dk,hm,hm2,q⟩:=h
  have hu:=hr.units0
  obtain⟨ns,s0,k0,h1,h2,h3⟩:=dk.ex
  have ndb:d≠b:=dI h1 h2 (by
   intro z;injection z with z
   cases ns with
   | nil=>cases z
   | cons z1 zs=>injection z with z _;cases z)
  refine⟨_,(R.ad (R.br (R.op R.ap (R.ix (R.aq (K:=K)) (R.v 0) R.ab) R.ab) (R.bu (R.v 0) R.ab R.ij)) (R.ad (R.ah (i:=2) eX.nd (R.ix (R.aq (K:=K)) (R.v 0) R.ab)) (R.ad (R.ar (R.al (R.je (K:=K) hu) (R.ix (R.aq (K:=K)) (R.v 0) R.ab) (R.au R.ac)) (R.ad (R.ah (i:=2) eX.nd (R.bb (K:=K) PySem.F.plainAttrs_list PySem.F.slot_list_pop PySem.F.type_list_pop R.jf (R.ix (R.aq (K:=K)) (R.v 0) R.ab) (R.U R.ab R.ac))) (R.ag (R.ar (R.al R.ge (R.v 2) (R.op R.bi R.ab R.ab)) (R.ad (R.bc (R.bb (K:=K) PySem.F.plainAttrs_list PySem.F.slot_list_insert PySem.F.type_list_insert R.ia (R.ix (R.aq (K:=K)) (R.v 0) R.ab) (R.U R.ab (R.U (R.op R.ee (R.v 2) (R.v 1)) R.ac)))) (R.ag (R.ao (R.op R.cg (R.v 2) (R.v 1))))) R.av))) R.av) (R.ad (R.ah (i:=3) eX.nd (R.op R.cg (R.op R.ap (R.op R.ap (R.op R.de (R.op R.cg (R.v 2) R.ab) R.ab) (R.op R.de R.ab (R.ix (R.aq (K:=K)) (R.v 0) R.ab))) R.ab) R.ab)) (R.ad (R.ah (i:=3) eX.nd (R.op R.cg (R.op R.de (R.v 3) (R.v 3)) R.ab)) (R.ag (R.ao (R.op R.cg (R.op R.ee (R.op R.cg (R.op R.de (R.v 3) (R.op R.ap (R.v 3) R.ab)) R.ab) R.ab) (R.v 1))))))))),?_⟩
  refine⟨_,SqL.of h1,_,rfl,d,_,2,2,rfl,rfl,h1,rfl,?_⟩
  have g1:(aI H d (.lst [.ref b,.int s0,.int (k0+1)])) d=some (.lst [.ref b,.int s0,.int (k0+1)]):=aA
  have g2:(aI H d (.lst [.ref b,.int s0,.int (k0+1)])) b=some (.lst (ns.map V.int)):=by rw[aE ndb.symm];exact h2
  have kp1:Kp d b H (aI H d (.lst [.ref b,.int s0,.int (k0+1)])):=fun c o e n1 n2=>by rw[aE n1];exact e
  show oK _ _ _ _ (aI H d (.lst [.ref b,.int s0,.int (k0+1)]))
  generalize aI H d (.lst [.ref b,.int s0,.int (k0+1)])=H1 at g1 g2 kp1;refine⟨_,SqL.of g1,_,rfl,?_⟩
  dsimp only [aJ];refine Ep (t:=wI _ _ _) (fun σ' H'=>∃c:Int,σ'=[some (.ref d),some (.int m),some (.int c),none]/\(∃ns':List Int,H' d=some (.lst [.ref b,.int s0,.int (k0+1)])/\H' b=some (.lst (ns'.map V.int))/\ns'.length<=63)/\Kp d b H H') (fun nx hnx=>?_) ?_
  ·refine⟨_,SqL.of g1,_,rfl,dE rfl,fun p hp=>⟨b,p,_,rfl,rfl,SqL.of (by rw[aE (aF g2 hp)];exact g2),SqL.of aA,?_⟩⟩
   have e1:(aI H1 p (.lst [])) d=some (.lst [.ref b,.int s0,.int (k0+1)]):=by rw[aE (aF g1 hp)];exact g1
   have e2:(aI H1 p (.lst [])) b=some (.lst (ns.map V.int)):=by rw[aE (aF g2 hp)];exact g2
   have kp2:Kp d b H (aI H1 p (.lst [])):=kp1.trans (.new hp)
   generalize aI H1 p (.lst [])=H2 at e1 e2 kp2;cases ns with
   | nil=>
    exact hnx _ _ ⟨_,rfl,⟨[],e1,e2,h3⟩,kp2⟩
   | cons z ns=>
    have hl:ns.length+1<=63:=by simpa using h3
    refine⟨_,SqL.of e1,_,rfl,.inl ⟨rfl,_,SqL.of e2⟩,b,_,0,0,.int z,rfl,rfl,e2,Zd,Zd,by simp [seqIndex?],rfl,?_⟩
    have f1:(aI H2 b (.lst ((List.map V.int (z::ns)).eraseIdx 0))) d=some (.lst [.ref b,.int s0,.int (k0+1)]):=by rw[aE ndb];exact e1
    have f2:(aI H2 b (.lst ((List.map V.int (z::ns)).eraseIdx 0))) b=some (.lst (ns.map V.int)):=by rw[aA];rfl
    have kp3:Kp d b H (aI H2 b (.lst ((List.map V.int (z::ns)).eraseIdx 0))):=fun c o e n1 n2=>by rw[aE n2];exact kp2 c o e n1 n2
    dsimp only [aJ];generalize aI H2 b (.lst ((List.map V.int (z::ns)).eraseIdx 0))=H3 at f1 f2 kp3;refine⟨⟨Zd,Zd,Zd⟩,?_⟩
    refine bP (fun _=>?_) (fun _=>?_)
    ·refine⟨_,SqL.of f1,_,rfl,.inl ⟨rfl,_,SqL.of f2⟩,⟨hm,hm2⟩,b,_,0,_,rfl,rfl,f2,Nat.zero_le _,kI (m:=63) (by rw[aQ];omega) Zd,hm,?_⟩
     refine q _ _ (Int.emod_nonneg _ Zo) (Int.emod_lt_of_pos _ hm) ⟨z / m::ns,s0,k0+1,by rw[aE ndb];exact f1,by rw[aA];rfl,by simpa using hl⟩ fun c o e n1 n2=>by rw[aE n2];exact kp3 c o e n1 n2
    ·exact hnx _ _ ⟨_,rfl,⟨ns,f1,f2,Zo⟩,kp3⟩
  ·rintro σ' H' ⟨c,rfl,⟨ns',f1,f2,f3⟩,kp⟩
   refine⟨by show(0:Int)<_;decide,.inr ⟨Zd,Zd⟩,_,SqL.of f1,_,rfl,.inl ⟨Zd,Zd⟩,by show(0:Int)<_;decide,?_⟩
   generalize hx:(c % 2147483629*16807+69621*(k0+1)+7919) % 2147483629=x;have hx0:0<=x:=by omega
   have hx1:x<2147483629:=by omega
   dsimp only [aJ];refine⟨.inl ⟨Zo,Zo⟩,by show(0:Int)<_;decide,?_⟩
   generalize hy:x*x % 2147483587=y;have hy0:0<=y:=by omega
   have hy1:y<2147483587:=by omega
   dsimp only [aJ];refine⟨.inl ⟨Zo,Zo⟩,by show(0:Int)<_;decide,⟨Zd,Zd⟩,hm,?_⟩
   exact q _ _ (Int.emod_nonneg _ Zo) (Int.emod_lt_of_pos _ hm) ⟨ns',s0,k0+1,f1,f2,f3⟩ kp
theorem Vm {r:Int} (h0:0<=r) (h1:r<4):r=0∨r=1∨r=2∨r=3:=by omega
theorem six {r:Int} (h0:0<=r) (h1:r<6):r=0∨r=1∨r=2∨r=3∨r=4∨r=5:=by omega
theorem Sc (T:Txt K mg) (cLdraw:aG P w K mg base 1 "_law_draw" ["_law_deck_here","_law_many"] bK) (D:DefAt K mg "_law_end" jS ["_law_deck_here","_law_many"]) :
  aG P w K mg base 2 "_law_end" ["_law_deck_here","_law_many"] bK:=by
 refine D.go xO (fun vs H Q E h=>?_) (fun f cdv A outer s H vs Q E hr h=>?_)
 ·obtain⟨d,b,m,rfl,_⟩:=h;rfl
 ·obtain⟨d,b,m,rfl,dk,hm,hm2,q⟩:=h
  have hLdraw:=hr
  refine⟨_,(R.ag (R.ao (R.ix (R.aq (K:=K)) (R.au (R.U R.ab (R.U (R.op R.cn (R.v 1) R.ab) (R.U (R.fn cLdraw hLdraw rfl (R.U (R.v 0) (R.U (R.v 1) R.ac))) (R.U (R.fn cLdraw hLdraw rfl (R.U (R.v 0) (R.U (R.v 1) R.ac))) R.ac))))) (R.fn cLdraw hLdraw rfl (R.U (R.v 0) (R.U R.ab R.ac)))))),?_⟩
  refine⟨d,b,m,rfl,dk,hm,hm2,fun r1 H1 a0 a1 D1 k1=>⟨d,b,m,rfl,D1,hm,hm2,fun r2 H2 b0 b1 D2 k2=>⟨dE rfl,fun p hp=>⟨d,b,4,rfl,D2.new hp,Zd,Zd,fun r3 H3 c0 c1 D3 k3=>?_⟩⟩⟩⟩
  have hpd:=D2.ne hp
  have gp:=k3 p _ aA hpd.1 hpd.2
  have kk:=((k1.trans k2).trans (.new hp)).trans k3
  rcases Vm c0 c1 with rfl | rfl | rfl | rfl
  ·exact⟨_,SqL.of gp,_,rfl,q _ _ Zo Zo D3 kk⟩
  ·exact⟨_,SqL.of gp,_,rfl,q _ _ Zo Zo D3 kk⟩
  ·exact⟨_,SqL.of gp,_,rfl,q _ _ a0 a1 D3 kk⟩
  ·exact⟨_,SqL.of gp,_,rfl,q _ _ b0 b1 D3 kk⟩
structure WordsOf (L:List Nat) (g:Nat) (ws:List Str):Prop where
 nd:ws.Nodup
 of:∀z∈ws,1<=z.length/\z.length<=g/\∀c∈z.cps.toList,c∈L
def rP:Sp:=fun vs H Q _=>∃(d b:Addr) (L:List Nat) (g m:Nat),vs=[.ref d,.str (tx L),.int (g:Int),.int (m:Int)]/\Dk H d b/\1<=m/\m<=g/\g<=12/\L.Nodup/\m<=L.length/\L.length<=40 ∧
 ∀(l:Addr) (ws:List Str) (H':Hp),WordsOf L g ws->ws.length=m->H' l=some (.lst (ws.map V.str))->l≠d->l≠b->Dk H' d b->Kp d b H H'->Q (.ref l) H'
theorem Gs {α:Type} (xs:List α) {i j:Nat} (hi:i<=xs.length) (hj:j<=xs.length):gL xs (some (i:Int)) (some (j:Int))=(xs.drop i).take (j - i):=by
 unfold gL;rw[HT.sIx_nat,HT.sIx_nat,Nat.min_eq_left hi,Nat.min_eq_left hj]
def pN (L ts:List Nat) (a sz f k:Nat):List Nat:=ts.take a++[L.getD ((f+k) % L.length) 0]++(ts.drop (a+1)).take (sz - (a+1))
theorem Mg {L:List Nat} (hn:L.Nodup) {i j:Nat} (hi:i<L.length) (hj:j<L.length) (h:L.getD i 0=L.getD j 0):i=j:=by
 rw[List.getD_eq_getElem?_getD,List.getD_eq_getElem?_getD,fB hi,fB hj]at h;have h':L[i]=L[j]:=h
 have p:=List.pairwise_iff_getElem.mp hn
 rcases Nat.lt_trichotomy i j with z | z | z
 ·exact absurd h' (p i j hi hj z)
 ·exact z
 ·exact absurd h'.symm (p j i hj hi z)
theorem Mh {f k k' n:Nat} (hk:k<n) (hk':k'<n) (h:(f+k) % n=(f+k') % n):k=k':=by
 have h1:=Nat.mod_add_div (f+k) n
 have h2:=Nat.mod_add_div (f+k') n
 rw[h]at h1;generalize (f+k) / n=u at h1;generalize (f+k') / n=v at h2;rcases Nat.lt_trichotomy u v with z | z | z
 ·have:n*(u+1)<=n*v:=Nat.mul_le_mul_left n z
  rw[Nat.mul_add,Nat.mul_one]at this;omega
 ·subst z;omega
 ·have:n*(v+1)<=n*u:=Nat.mul_le_mul_left n z
  rw[Nat.mul_add,Nat.mul_one]at this;omega
theorem Gu {L ts:List Nat} (hn:L.Nodup) {a sz f k k':Nat} (h:pN L ts a sz f k=pN L ts a sz f k') (hk:k<L.length) (hk':k'<L.length):k=k':=by
 unfold pN at h;have h1:=List.append_inj_left' h rfl
 have h2:=List.append_inj_right' h1 rfl
 have h3:L.getD ((f+k) % L.length) 0=L.getD ((f+k') % L.length) 0:=by injection h2
 exact Mh hk hk' (Mg hn (Nat.mod_lt _ Zo) (Nat.mod_lt _ Zo) h3)
theorem Vn {L:List Nat} {i:Nat} (h:i<L.length):L.getD i 0∈L/\L[i]?=some (L.getD i 0):=by
 have e:L[i]?=some (L[i]):=fB h
 have e2:L.getD i 0=L[i]:=by rw[List.getD_eq_getElem?_getD,e];rfl
 exact⟨e2 ▸ List.getElem_mem _,e2 ▸ e⟩
theorem Mi {L ts:List Nat} {g a sz f k:Nat} (h0:0<L.length) (hl:ts.length=g) (ht:∀c∈ts,c∈L) (ha:a<sz) (hs:sz<=g):1<=(pN L ts a sz f k).length/\(pN L ts a sz f k).length<=g/\∀c∈pN L ts a sz f k,c∈L:=by
 have e:(pN L ts a sz f k).length=sz:=by
  unfold pN;simp [hl]
  omega
 refine⟨Zo,Zo,fun c hc=>?_⟩
 unfold pN at hc;rcases Zma.mp hc with hc | hc
 ·rcases Zma.mp hc with hc | hc
  ·exact ht c (List.mem_of_mem_take hc)
  ·rw[Zms.mp hc];exact(Vn (Nat.mod_lt _ h0)).1
 ·exact ht c (List.mem_of_mem_drop (List.mem_of_mem_take hc))
theorem kO {n i:Nat} {x:V} (h:(iZ 0 n)[i]?=some x):x=.int (i:Int)/\i<n:=by
 unfold iZ at h;rw[dR]at h;cases hh:(List.range n)[i]? with
 | none=>rw[hh]at h;cases h
 | some y=>
  rw[hh]at h;obtain⟨h1,h2⟩:=Zgs.mp hh
  rw[List.getElem_range]at h2;cases h
  rw[<- h2];exact⟨Zs,by simpa using h1⟩
theorem dB (n:Nat):(iZ 0 n).length=n:=by simp [iZ]
theorem vF {L:List Nat} {g m:Nat} {F:Nat->List Nat} (hi:∀k k',k<m->k'<m->F k=F k'->k=k') (ho:∀k,k<m->1<=(F k).length/\(F k).length<=g/\∀c∈F k,c∈L):WordsOf L g ((List.range m).map fun k=>tx (F k)):=by
 refine⟨?_,fun z hz=>?_⟩
 ·show List.Pairwise (·≠·) _
  rw[List.pairwise_map];refine List.Pairwise.imp_of_mem (fun {x y} hx hy hne exy=>hne ?_) List.nodup_range
  exact hi _ _ (List.mem_range.mp hx) (List.mem_range.mp hy) (by simpa using congrArg (fun z:Str=>z.cps.toList) exy)
 ·obtain⟨k,hk,rfl⟩:=Zmm.mp hz
  have:=ho k (List.mem_range.mp hk)
  exact⟨by rw[cI];exact this.1,by rw[cI];exact this.2.1,fun c hc=>this.2.2 c (by simpa using hc)⟩
theorem Br (T:Txt K mg) (cLdraw:aG P w K mg base 1 "_law_draw" ["_law_deck_here","_law_many"] bK) (D:DefAt K mg "_law_unlike" cD ["_law_deck_here","_law_signs","_law_longest","_law_many"]) :
  aG P w K mg base 2 "_law_unlike" ["_law_deck_here","_law_signs","_law_longest","_law_many"] rP:=by
 refine D.go cH (fun vs H Q E h=>?_) (fun f cdv A outer s H vs Q E hr h=>?_)
 ·obtain⟨d,b,L,g,m,rfl,_⟩:=h;rfl
 ·obtain⟨d,b,L,g,m,rfl,dk,hm1,hmg,hg,hnd,hmL,hL40,q⟩:=h
  have hLdraw:=hr
  have lL:(tx L).length=L.length:=cI L
  have h40:(tx L).length<=sizeLine:=dJ Zo
  have cL:(tx L).cps.toList=L:=by simp
  refine⟨_,(R.ad (R.ah (i:=4) cH.nd (R.bb (K:=K) PySem.F.plainAttrs_str PySem.F.slot_str_join PySem.F.type_str_join (R.ik (K:=K)) R.ae (R.U (R.ay rfl (js:=[none,some 0,some 1]) (N:=["_law_k","_law_deck_here","_law_signs"]) (CompScope.by (aB cD) ["_law_deck_here","_law_signs","_law_longest","_law_many","_law_word","_law_size","_law_at","_law_first","_law_ends"] rfl rfl Zk) (aO rfl) (R.cp rfl T.b_range (R.U (R.v 2) R.ac)) (fun C s₂ H₂ fp=>⟨(R.gn (i:=0) (show(["_law_k","_law_deck_here","_law_signs"]:List Str).Nodup by decide +kernel)),R.bt,(R.ix R.iS (R.v 2) (R.fn cLdraw hLdraw rfl (R.U (R.v 1) (R.U (R.ax R.fh rfl T.b_len cW (R.U (R.v 2) R.ac)) R.ac))))⟩)) R.ac))) (R.ad (R.ar (R.al R.eq (R.fn cLdraw hLdraw rfl (R.U (R.v 0) (R.U R.ab R.ac))) R.ab) (R.ag (R.ao (R.ay rfl (js:=[none,some 4]) (N:=["_law_k","_law_word"]) (CompScope.by (aB cD) ["_law_deck_here","_law_signs","_law_longest","_law_many","_law_word","_law_size","_law_at","_law_first","_law_ends"] rfl rfl Zk) (aO rfl) (R.cp rfl T.b_range (R.U (R.v 3) R.ac)) (fun C s₂ H₂ fp=>⟨(R.gn (i:=0) (show(["_law_k","_law_word"]:List Str).Nodup by decide +kernel)),R.bt,(R.sl R.sS (R.v 1) R.pn (R.ps (R.op R.ap (R.v 0) R.ab)))⟩)))) R.av) (R.ad (R.ah (i:=5) cH.nd (R.op R.ap R.ab (R.fn cLdraw hLdraw rfl (R.U (R.v 0) (R.U (R.v 2) R.ac))))) (R.ad (R.ah (i:=6) cH.nd (R.fn cLdraw hLdraw rfl (R.U (R.v 0) (R.U (R.v 5) R.ac)))) (R.ad (R.ah (i:=7) cH.nd (R.fn cLdraw hLdraw rfl (R.U (R.v 0) (R.U (R.ax R.fh rfl T.b_len cW (R.U (R.v 1) R.ac)) R.ac)))) (R.ad (R.ah (i:=8) cH.nd (R.il (R.U (R.sl R.sS (R.v 4) R.pn (R.ps (R.v 6))) (R.U (R.sl R.sS (R.v 4) (R.ps (R.op R.ap (R.v 6) R.ab)) (R.ps (R.v 5))) R.ac)))) (R.ag (R.ao (R.ay rfl (js:=[none,some 1,some 7,some 8]) (N:=["_law_k","_law_signs","_law_first","_law_ends"]) (CompScope.by (aB cD) ["_law_deck_here","_law_signs","_law_longest","_law_many","_law_word","_law_size","_law_at","_law_first","_law_ends"] rfl rfl Zk) (aO rfl) (R.cp rfl T.b_range (R.U (R.v 3) R.ac)) (fun C s₂ H₂ fp=>⟨(R.gn (i:=0) (show(["_law_k","_law_signs","_law_first","_law_ends"]:List Str).Nodup by decide +kernel)),R.bt,(R.op R.fj (R.op R.fj (R.ix (R.af (K:=K)) (R.v 3) R.ab) (R.ix R.iS (R.v 1) (R.op R.cg (R.op R.ap (R.v 2) (R.v 0)) (R.ax R.fh rfl T.b_len cW (R.U (R.v 1) R.ac))))) (R.ix (R.af (K:=K)) (R.v 3) R.ab))⟩)))))))))),?_⟩
  refine Ep (t:=Af _ _) (fun σ' H'=>∃ts:List Nat,σ'=[some (.ref d),some (.str (tx L)),some (.int (g:Int)),some (.int m),some (.str (tx ts)),none,none,none,none]/\ts.length=g/\(∀c∈ts,c∈L)/\Dk H' d b/\Kp d b H H') (fun nx hnx=>?_) ?_
  ·refine⟨rfl,g,rfl,Zo,Zo,?_⟩
   refine aS (cT 0 (g:Int).toNat) (by rw[dB];omega) (fun i ys H'=>Dk H' d b/\Kp d b H H'/\∃ts:List Nat,ys=ts.map (fun c=>V.str (tx [c]))/\ts.length=i/\∀c∈ts,c∈L) (fun i ys H' ⟨_,_,ts,e,e2,_⟩=>⟨trivial,by rw[e,aQ,e2];exact aV _⟩) ⟨dk,.refl,[],rfl,rfl,(fun _ h=>nomatch h)⟩ (fun i x ys H' hx ⟨Di,kpi,ts,e,e2,e3⟩=>?_) (fun ys H' ⟨Di,kpi,ts,e,e2,e3⟩=>?_)
   ·refine⟨h40,d,b,_,rfl,Di,Zo,Zo,fun r2 H'' r20 r21 Dj kpj=>⟨h40,?_⟩⟩
    obtain⟨c,hc,hm⟩:=uS (xs:=(tx L).cps.toList) r20 (by rw[cL];omega)
    rw[cL]at hm;refine⟨c,hc,Dj,kpi.trans kpj,ts++[c],by rw[e,cS];rfl,by rw[iK,e2];rfl,fun c' hc'=>?_⟩
    rcases Zma.mp hc' with h | h
    ·exact e3 c' h
    ·rw[Zms.mp h];exact hm
   ·intro p hp;have hts:ts.length=g:=by rw[e2,dB];omega
    refine⟨_,p,ts.map (fun c=>tx [c]),rfl,rfl,SqL.of (by rw[aA,e,List.map_map];rfl),?_,?_⟩
    ·rw[pC,aQ,tH,cI];simp;omega
    ·refine hnx _ _ ⟨ts,?_,hts,e3,Di.new hp,kpi.trans (.new hp)⟩
     rw[tH,pB];rfl
  ·rintro σ' H1 ⟨ts,rfl,hts,hlet,D1,k1⟩
   have hcl:(tx ts).cps.toList=ts:=by simp
   have em:((m:Int)).toNat=m:=by omega
   refine⟨d,b,3,rfl,D1,Zd,Zd,fun r H2 r0 r1 D2 k2=>?_⟩
   refine bP (fun _=>?_) (fun _=>?_)
   ·refine⟨m,rfl,Zo,Zo,?_⟩
    refine aS (cT 0 (m:Int).toNat) (by rw[dB];omega) (fun i ys H'=>ys=((List.range i).map fun k=>tx (ts.take (k+1))).map V.str/\H'=H2) (fun i ys H' ⟨e,_⟩=>⟨trivial,by rw[e];simp⟩) ⟨rfl,rfl⟩ (fun i x ys H' hx ⟨e,e2⟩=>?_) (fun ys H' ⟨e,e2⟩=>?_)
    ·subst e2;obtain⟨rfl,hi⟩:=kO hx
     refine⟨dJ (by rw[cI];omega),?_,rfl⟩
     rw[hcl,show((i:Nat):Int)+1=((i+1:Nat):Int) by omega,tG,e,List.range_succ,cS,cS]
     rfl
    ·subst e2;intro p hp;rw[dB,em]at e;have hd:=D2.ne hp
     refine q p ((List.range m).map fun k=>tx (ts.take (k+1))) _ (vF (fun k k' hk hk' e=>?_) (fun k hk=>?_)) Zs (by rw[aA,e]) hd.1 hd.2 (D2.new hp) ((k1.trans k2).trans (.new hp))
     ·have:=congrArg List.length e
      rw[nQ,nQ,hts]at this;omega
     ·exact⟨by rw[nQ,hts];omega,by rw[nQ,hts];omega,fun c hc=>hlet c (List.mem_of_mem_take hc)⟩
   ·refine⟨d,b,g,rfl,D2,Zo,Zo,fun r5 H3 s0 s1 D3 k3=>?_⟩
    dsimp only [aJ];refine⟨d,b,1+r5,rfl,D3,Zo,Zo,fun ra H4 a0 a1 D4 k4=>?_⟩
    dsimp only [aJ];refine⟨h40,d,b,_,rfl,D4,Zo,Zo,fun rf H5 f0 f1 D5 k5=>?_⟩
    rw[lL]at f1;dsimp only [aJ];obtain⟨a,rfl⟩:∃a:Nat,ra=a:=⟨ra.toNat,Zo⟩
    obtain⟨z5,rfl⟩:∃z:Nat,r5=z:=⟨r5.toNat,Zo⟩
    obtain⟨fz,rfl⟩:∃z:Nat,rf=z:=⟨rf.toNat,Zo⟩
    refine⟨dJ (by rw[cI];omega),dJ (by rw[cI];omega),dE rfl,fun tp htp=>?_⟩
    have g5:(aI H5 tp (.tup [.str (tx (gL (tx ts).cps.toList none (some (a:Int)))),.str (tx (gL (tx ts).cps.toList (some ((a:Int)+1)) (some (1+(z5:Int)))))])) tp=some (.tup [.str (tx (ts.take a)),.str (tx ((ts.drop (a+1)).take (z5+1 - (a+1))))]):=by
     rw[aA,hcl,tG,show(a:Int)+1=((a+1:Nat):Int) by omega,show 1+(z5:Int)=((z5+1:Nat):Int) by omega,Gs ts Zo Zo]
    have k6:Kp d b H (aI H5 tp (.tup [.str (tx (gL (tx ts).cps.toList none (some (a:Int)))),.str (tx (gL (tx ts).cps.toList (some ((a:Int)+1)) (some (1+(z5:Int)))))])):=((((k1.trans k2).trans k3).trans k4).trans k5).trans (.new htp)
    have D6:=D5.new (o:=.tup [.str (tx (gL (tx ts).cps.toList none (some (a:Int)))),.str (tx (gL (tx ts).cps.toList (some ((a:Int)+1)) (some (1+(z5:Int)))))]) htp
    dsimp only [aJ];generalize aI H5 tp (.tup [.str (tx (gL (tx ts).cps.toList none (some (a:Int)))),.str (tx (gL (tx ts).cps.toList (some ((a:Int)+1)) (some (1+(z5:Int)))))])=H6 at g5 k6 D6;refine⟨m,rfl,Zo,Zo,?_⟩
    refine aS (cT 0 (m:Int).toNat) (by rw[dB];omega) (fun i ys H'=>ys=((List.range i).map fun k=>tx (pN L ts a (z5+1) fz k)).map V.str/\H'=H6) (fun i ys H' ⟨e,_⟩=>⟨trivial,by rw[e];simp⟩) ⟨rfl,rfl⟩ (fun i x ys H' hx ⟨e,e2⟩=>?_) (fun ys H' ⟨e,e2⟩=>?_)
    ·subst e2;obtain⟨rfl,hi⟩:=kO hx
     have h0:0<L.length:=by omega
     have hL:=Vn (L:=L) (Nat.mod_lt (fz+i) h0)
     have t1:(tx (ts.take a)).length<=12:=by rw[cI,nQ];omega
     have t2:(tx ((ts.drop (a+1)).take (z5+1 - (a+1)))).length<=12:=by rw[cI,nQ,List.length_drop];omega
     refine⟨_,SqT.of g5,_,rfl,h40,by rw[lL];omega,h40,L.getD ((fz+i) % L.length) 0,?_,dJ (by have:=cI [L.getD ((fz+i) % L.length) 0];simp only [nZ,List.length_nil]at this;omega),_,SqT.of g5,_,rfl,dJ ?_,?_,rfl⟩
     ·rw[lL,cL,show((fz:Int)+(i:Int)) % (L.length:Int)=(((fz+i) % L.length:Nat):Int) by rw[Int.natCast_emod,Int.natCast_add]]
      exact gY hL.2
     ·rw[tD,cI,iK,nQ];simp only [nZ,List.length_nil]
      omega
     ·rw[e,List.range_succ,cS,cS,tD,tD];rfl
    ·subst e2;intro p hp;rw[dB,em]at e;have hd:=D6.ne hp
     refine q p ((List.range m).map fun k=>tx (pN L ts a (z5+1) fz k)) _ (vF (fun k k' hk hk' e=>?_) (fun k hk=>?_)) Zs (by rw[aA,e]) hd.1 hd.2 (D6.new hp) (k6.trans (.new hp))
     ·exact Gu hnd e Zo Zo
     ·exact Mi Zo hts hlet Zo Zo
end
end KL
namespace KL
open PySem L2
section
variable {P:Program} {w:World} {K:W.Frag} {mg:Str->Option Value} {base:Heap}
theorem aP {n:Nat} (h:Nat.ble n 1000=true):n<=1000:=Nat.le_of_ble_eq_true h
structure Fw (d b:Addr) (H H':Hp):Prop where
 d0:Dk H d b
 dk:Dk H' d b
 kp:Kp d b H H'
theorem Kp.same' {d b:Addr} {H H':Hp} (s:Same H H'):Kp d b H H':=fun c o e _ _=>s c o e
theorem Fw.refl {d b:Addr} {H:Hp} (D:Dk H d b):Fw d b H H:=⟨D,D,.refl⟩
theorem Fw.same {d b:Addr} {H H1 H2:Hp} (f:Fw d b H H1) (s:Same H1 H2):Fw d b H H2:=⟨f.d0,f.dk.same s,f.kp.trans (Kp.same' s)⟩
theorem Fw.new {d b p:Addr} {H H1:Hp} {o:HO} (f:Fw d b H H1) (h:H1 p=none):Fw d b H (aI H1 p o):=⟨f.d0,f.dk.new h,f.kp.trans (.new h)⟩
theorem Fw.draw {d b:Addr} {H H1 H2:Hp} (f:Fw d b H H1) (D:Dk H2 d b) (k:Kp d b H1 H2):Fw d b H H2:=⟨f.d0,D,f.kp.trans k⟩
theorem Fw.trans {d b:Addr} {H H1 H2:Hp} (f:Fw d b H H1) (g:Fw d b H1 H2):Fw d b H H2:=⟨f.d0,g.dk,f.kp.trans g.kp⟩
theorem Fw.tk {d b:Addr} {H H':Hp} (f:Fw d b H H'):TK H H':=Kp.tk f.d0 f.kp
theorem Fw.tup {d b a:Addr} {H H':Hp} {xs:List V} (f:Fw d b H H') (g:H a=some (.tup xs)):H' a=some (.tup xs):=f.tk _ _ g
theorem Fw.get {d b a:Addr} {H H':Hp} {o:HO} (f:Fw d b H H') (g:H a=some o) (n1:a≠d) (n2:a≠b):H' a=some o:=f.kp _ _ g n1 n2
theorem jE {ws:List Str} {r:Int} (h0:0<=r) (h1:r<ws.length):∃(i:Nat) (hi:i<ws.length),r=i/\nT (ws.map V.str) r=some (.str ws[i]):=by
 obtain⟨j,rfl⟩:=Int.eq_ofNat_of_zero_le h0
 have hj:j<ws.length:=by omega
 exact⟨j,hj,rfl,gY (by rw[dR,fB hj];rfl)⟩
theorem zF {n i r:Nat} (hi:i<n) (hr:r+1<n):(i+1+r) % n<n/\(i+1+r) % n≠i:=by
 refine⟨Nat.mod_lt _ Zo,fun e=>?_⟩
 by_cases h:i+1+r<n
 ·rw[Nat.mod_eq_of_lt h]at e;omega
 ·rw[Nat.mod_eq_sub_mod Zo,Nat.mod_eq_of_lt Zo]at e;omega
theorem Ob {ws:List Str} (h:ws.Nodup) {i j:Nat} (hi:i<ws.length) (hj:j<ws.length) (hn:i≠j):ws[i]≠ws[j]:=by
 have p:=List.pairwise_iff_getElem.mp h
 rcases Nat.lt_or_gt_of_ne hn with z | z
 ·exact p i j hi hj z
 ·exact fun e=>p j i hj hi z e.symm
structure Menu (ws:List Str):Prop where
 of:WordsOf LET 8 ws
 two:2<=ws.length
 six:ws.length<=6
theorem Menu.nm {ws:List Str} (h:Menu ws) {i:Nat} (hi:i<ws.length):fU ws[i]:=h.of.of _ (List.getElem_mem hi)
def oF:Sp:=fun vs H Q _=>∃(d b la lb:Addr) (ws us:List Str),vs=[.ref d,.ref la,.ref lb]/\Dk H d b/\H la=some (.lst (ws.map V.str))/\H lb=some (.lst (us.map V.str))/\(la≠d/\la≠b/\lb≠d/\lb≠b)/\Menu ws/\Menu us ∧
 ∀(t:Addr) (x:Dd) (H':Hp),x.Ok->H' t=some (.tup x.vs)->Fw d b H H'->Q (.ref t) H'
theorem Mj (T:Txt K mg) (cLdraw:aG P w K mg base 1 "_law_draw" ["_law_deck_here","_law_many"] bK) (cLend:aG P w K mg base 2 "_law_end" ["_law_deck_here","_law_many"] bK)
  (D:DefAt K mg "_law_deed" iB ["_law_deck_here","_law_names","_law_houses"]):aG P w K mg base 3 "_law_deed" ["_law_deck_here","_law_names","_law_houses"] oF:=by
 refine D.go bO (fun vs H Q E h=>?_) (fun f cdv A outer s H vs Q E hr h=>?_)
 ·obtain⟨d,b,la,lb,ws,us,rfl,_⟩:=h;rfl
 ·obtain⟨d,b,la,lb,ws,us,rfl,dk,ga,gb,⟨n1,n2,n3,n4⟩,mw,mu,q⟩:=h
  have hLdraw:Room 1 _:=hr.mono Zd
  have hLend:Room 2 _:=hr.mono Zd
  have w2:=mw.two
  have w6:=mw.six
  have u2:=mu.two
  have u6:=mu.six
  refine⟨_,(R.ad (R.ah (i:=3) bO.nd (R.ix (R.aq (K:=K)) (R.au (R.U (R.op R.ap R.ab (R.fn cLdraw hLdraw rfl (R.U (R.v 0) (R.U R.ab R.ac)))) (R.U (R.op R.ap R.ab (R.fn cLend hLend rfl (R.U (R.v 0) (R.U (R.op R.bi R.ab R.ab) R.ac)))) R.ac))) (R.fn cLdraw hLdraw rfl (R.U (R.v 0) (R.U R.ab R.ac))))) (R.ad (R.ah (i:=4) bO.nd (R.fn cLdraw hLdraw rfl (R.U (R.v 0) (R.U (R.ax (R.bo (K:=K)) rfl T.b_len cW (R.U (R.v 1) R.ac)) R.ac)))) (R.ad (R.ah (i:=5) bO.nd (R.ix (R.aq (K:=K)) (R.v 1) (R.v 4))) (R.ad (R.ah (i:=6) bO.nd (R.ix (R.aq (K:=K)) (R.v 1) (R.op R.cg (R.op R.ap (R.op R.ap (R.v 4) R.ab) (R.fn cLdraw hLdraw rfl (R.U (R.v 0) (R.U (R.op R.cn (R.ax (R.bo (K:=K)) rfl T.b_len cW (R.U (R.v 1) R.ac)) R.ab) R.ac)))) (R.ax (R.bo (K:=K)) rfl T.b_len cW (R.U (R.v 1) R.ac))))) (R.ad (R.ah (i:=7) bO.nd (R.fn cLdraw hLdraw rfl (R.U (R.v 0) (R.U (R.ax (R.bo (K:=K)) rfl T.b_len cW (R.U (R.v 2) R.ac)) R.ac)))) (R.ad (R.ah (i:=8) bO.nd (R.ix (R.aq (K:=K)) (R.v 2) (R.v 7))) (R.ad (R.ah (i:=9) bO.nd (R.ix (R.aq (K:=K)) (R.v 2) (R.op R.cg (R.op R.ap (R.op R.ap (R.v 7) R.ab) (R.fn cLdraw hLdraw rfl (R.U (R.v 0) (R.U (R.op R.cn (R.ax (R.bo (K:=K)) rfl T.b_len cW (R.U (R.v 2) R.ac)) R.ab) R.ac)))) (R.ax (R.bo (K:=K)) rfl T.b_len cW (R.U (R.v 2) R.ac))))) (R.ad (R.ah (i:=10) bO.nd (R.au (R.U (R.ai (R.U R.ae (R.U (R.v 5) (R.U (R.v 3) R.ac)))) (R.U (R.ai (R.U R.ae (R.U (R.v 5) (R.U (R.v 3) R.ac)))) (R.U (R.ai (R.U R.ae (R.U (R.v 5) (R.U (R.v 6) (R.U (R.v 3) R.ac))))) R.ac))))) (R.ad (R.ah (i:=10) bO.nd (R.op R.bd (R.v 10) (R.au (R.U (R.ai (R.U R.ae (R.U (R.v 8) (R.U (R.v 5) (R.U (R.v 3) R.ac))))) (R.U (R.ai (R.U R.ae (R.U (R.v 8) (R.U (R.v 5) (R.U (R.v 3) R.ac))))) (R.U (R.ai (R.U R.ae (R.U (R.v 8) (R.U (R.v 9) (R.U (R.v 5) (R.U (R.v 3) R.ac)))))) R.ac)))))) (R.ag (R.ao (R.ix (R.aq (K:=K)) (R.v 10) (R.fn cLdraw hLdraw rfl (R.U (R.v 0) (R.U R.ab R.ac))))))))))))))),?_⟩
  refine bE (fun σ' H'=>∃n:Nat,σ'=[some (.ref d),some (.ref la),some (.ref lb),some (.int (n:Int)),none,none,none,none,none,none,none]/\1<=n/\n<=1000000000000/\Fw d b H H') (fun nx hnx=>?_) ?_
  ·refine⟨d,b,9,rfl,dk,Zd,Zd,fun r1 H1 a0 a1 D1 k1=>⟨⟨Zd,Zd,Zd⟩,d,b,_,rfl,D1,Zd,Zd,fun r2 H2 b0 b1 D2 k2=>⟨dE rfl,fun p hp=>⟨d,b,2,rfl,D2.new hp,Zd,Zd,fun r3 H3 c0 c1 D3 k3=>?_⟩⟩⟩⟩
   have hpd:=D2.ne hp
   have gp:=k3 p _ aA hpd.1 hpd.2
   have ff:=((((Fw.refl dk).draw D1 k1).draw D2 k2).new hp).draw D3 k3
   have b1':r2<1000000000000:=b1
   rcases(by omega:r3=0∨r3=1) with rfl | rfl
   ·refine⟨_,SqL.of gp,_,rfl,hnx _ _ ⟨(1+r1).toNat,?_,Zo,Zo,ff⟩⟩
    rw[Int.toNat_of_nonneg Zo]
    rfl
   ·refine⟨_,SqL.of gp,_,rfl,hnx _ _ ⟨(1+r2).toNat,?_,Zo,Zo,ff⟩⟩
    rw[Int.toNat_of_nonneg Zo]
    rfl
  ·rintro σ' H1 ⟨n,rfl,hn1,hn2,f1⟩
   have ga1:=f1.get ga n1 n2
   have gb1:=f1.get gb n3 n4
   refine⟨_,.inl (SqL.of ga1),d,b,_,rfl,f1.dk,by rw[aQ];omega,by rw[aQ];omega,fun r2 H2 b0 b1 D2 k2=>?_⟩
   rw[aQ]at b1;have f2:=f1.draw D2 k2
   have ga2:=f2.get ga n1 n2
   obtain⟨i,hi,rfl,ei⟩:=jE b0 b1
   dsimp only [aJ];refine⟨_,SqL.of ga2,_,ei,?_⟩
   dsimp only [aJ];refine⟨_,.inl (SqL.of ga2),d,b,_,rfl,f2.dk,by rw[aQ];omega,by rw[aQ];omega,fun r3 H3 c0 c1 D3 k3=>?_⟩
   rw[aQ]at c1;have f3:=f2.draw D3 k3
   have ga3:=f3.get ga n1 n2
   obtain⟨r3,rfl⟩:∃z:Nat,r3=z:=⟨r3.toNat,Zo⟩
   obtain⟨hj,hji⟩:=zF (r:=r3) hi Zo
   have ej:((i:Int)+1+(r3:Int)) % ((ws.map V.str).length:Int)=(((i+1+r3) % ws.length:Nat):Int):=by
    rw[aQ,Int.natCast_emod];rfl
   refine⟨_,.inl (SqL.of ga3),by rw[aQ];omega,_,SqL.of ga3,V.str ws[(i+1+r3) % ws.length],?_,?_⟩
   ·rw[ej];exact gY (by rw[dR,fB hj];rfl)
   have hne:=Ob mw.of.nd hi hj (fun e=>hji e.symm)
   have nmi:=mw.nm hi
   have nmj:=mw.nm hj
   generalize ws[(i+1+r3) % ws.length]=zb at hne nmj;generalize ws[i]=za at hne nmi;dsimp only [aJ];have gb3:=f3.get gb n3 n4
   refine⟨_,.inl (SqL.of gb3),d,b,_,rfl,f3.dk,by rw[aQ];omega,by rw[aQ];omega,fun r4 H4 d0 d1 D4 k4=>?_⟩
   rw[aQ]at d1;have f4:=f3.draw D4 k4
   have gb4:=f4.get gb n3 n4
   obtain⟨u,hu',rfl,eu⟩:=jE d0 d1
   dsimp only [aJ];refine⟨_,SqL.of gb4,_,eu,?_⟩
   dsimp only [aJ];refine⟨_,.inl (SqL.of gb4),d,b,_,rfl,f4.dk,by rw[aQ];omega,by rw[aQ];omega,fun r5 H5 e0 e1 D5 k5=>?_⟩
   rw[aQ]at e1;have f5:=f4.draw D5 k5
   have gb5:=f5.get gb n3 n4
   obtain⟨r5,rfl⟩:∃z:Nat,r5=z:=⟨r5.toNat,Zo⟩
   obtain⟨hv,hvu⟩:=zF (r:=r5) hu' Zo
   have ev:((u:Int)+1+(r5:Int)) % ((us.map V.str).length:Int)=(((u+1+r5) % us.length:Nat):Int):=by
    rw[aQ,Int.natCast_emod];rfl
   refine⟨_,.inl (SqL.of gb5),by rw[aQ];omega,_,SqL.of gb5,V.str us[(u+1+r5) % us.length],?_,?_⟩
   ·rw[ev];exact gY (by rw[dR,fB hv];rfl)
   have hne2:=Ob mu.of.nd hu' hv (fun e=>hvu e.symm)
   have nmu:=mu.nm hu'
   have nmv:=mu.nm hv
   generalize us[(u+1+r5) % us.length]=zv at hne2 nmv;generalize us[u]=zu at hne2 nmu;dsimp only [aJ];refine⟨aP rfl,fun t1 H6 s6 g6=>⟨aP rfl,fun t2 H7 s7 g7=>⟨aP rfl,fun t3 H8 s8 g8=>⟨dE rfl,fun p hp=>?_⟩⟩⟩⟩
   have s58:Same H5 H8:=(s6.trans s7).trans s8
   have f8:=f5.same s58
   have h1:=s8 _ _ (s7 _ _ g6)
   have h2:=s8 _ _ g7
   have gp:(aI H8 p (.lst [.ref t1,.ref t2,.ref t3])) p=some (.lst [.ref t1,.ref t2,.ref t3]):=aA
   have sp:=aD (o:=.lst [.ref t1,.ref t2,.ref t3]) hp
   dsimp only [aJ];generalize aI H8 p (.lst [.ref t1,.ref t2,.ref t3])=H9 at gp sp;refine⟨aP rfl,fun t4 Ha sa g4=>⟨aP rfl,fun t5 Hb sb g5=>⟨aP rfl,fun t6 Hc sc g9=>⟨dE rfl,fun p2 hp2=>?_⟩⟩⟩⟩
   have s9c:Same H9 Hc:=(sa.trans sb).trans sc
   have gp2:(aI Hc p2 (.lst [.ref t4,.ref t5,.ref t6])) p2=some (.lst [.ref t4,.ref t5,.ref t6]):=aA
   have sp2:=aD (o:=.lst [.ref t4,.ref t5,.ref t6]) hp2
   generalize aI Hc p2 (.lst [.ref t4,.ref t5,.ref t6])=Hd at gp2 sp2;have s9d:=s9c.trans sp2
   refine⟨_,_,s9d _ _ gp,gp2,dE rfl,fun p3 hp3=>?_⟩
   have fd:=f8.same (sp.trans s9d)
   have hp3d:=fd.dk.ne hp3
   have s8e:Same H8 (aI Hd p3 (.lst ([.ref t1,.ref t2,.ref t3]++[.ref t4,.ref t5,.ref t6]))):=(sp.trans s9d).trans (aD hp3)
   have gt3:(aI Hd p3 (.lst ([.ref t1,.ref t2,.ref t3]++[.ref t4,.ref t5,.ref t6]))) p3=some (.lst [.ref t1,.ref t2,.ref t3,.ref t4,.ref t5,.ref t6]):=aA
   have g4':=(sp2.trans (aD hp3 (o:=.lst ([.ref t1,.ref t2,.ref t3]++[.ref t4,.ref t5,.ref t6])))) _ _ (sc _ _ (sb _ _ g4))
   have g5':=(sp2.trans (aD hp3 (o:=.lst ([.ref t1,.ref t2,.ref t3]++[.ref t4,.ref t5,.ref t6])))) _ _ (sc _ _ g5)
   have g6':=(sp2.trans (aD hp3 (o:=.lst ([.ref t1,.ref t2,.ref t3]++[.ref t4,.ref t5,.ref t6])))) _ _ g9
   have f9:=f8.same s8e
   have h1':=s8e _ _ h1
   have h2':=s8e _ _ h2
   have h3':=s8e _ _ g8
   dsimp only [aJ];generalize aI Hd p3 (.lst ([.ref t1,.ref t2,.ref t3]++[.ref t4,.ref t5,.ref t6]))=He at gt3 g4' g5' g6' f9 h1' h2' h3';refine⟨d,b,6,rfl,f9.dk,Zd,Zd,fun r6 Hf i0 i1 Df kf=>?_⟩
   have ff:=f9.draw Df kf
   have F1:=Fw.draw (.refl f9.dk) Df kf
   have gq:=kf _ _ gt3 hp3d.1 hp3d.2
   rcases six i0 i1 with rfl | rfl | rfl | rfl | rfl | rfl
   ·exact⟨_,SqL.of gq,_,rfl,q _ (.add za n) _ ⟨nmi,hn1,hn2⟩ (F1.tup h1') ff⟩
   ·exact⟨_,SqL.of gq,_,rfl,q _ (.take za n) _ ⟨nmi,hn1,hn2⟩ (F1.tup h2') ff⟩
   ·exact⟨_,SqL.of gq,_,rfl,q _ (.move za zb n) _ ⟨nmi,nmj,hne,hn1,hn2⟩ (F1.tup h3') ff⟩
   ·exact⟨_,SqL.of gq,_,rfl,q _ (.send zu za n) _ ⟨nmu,nmi,hn1,hn2⟩ (F1.tup g4') ff⟩
   ·exact⟨_,SqL.of gq,_,rfl,q _ (.fetch zu za n) _ ⟨nmu,nmi,hn1,hn2⟩ (F1.tup g5') ff⟩
   ·exact⟨_,SqL.of gq,_,rfl,q _ (.pass zu zv za n) _ ⟨nmu,nmv,nmi,hne2,hn1,hn2⟩ (F1.tup g6') ff⟩
end
end KL
namespace KL
open PySem L2
section
variable {P:Program} {w:World} {K:W.Frag} {mg:Str->Option Value} {base:Heap}
def rQ:Dd->Bool->List Str
 | .add _ _,_=>["is","full"]
 | .take _ _,_=>["is","short"]
 | .move _ _ _,_=>["is","short","full"]
 | .send _ _ _,true=>["is","no"] | .send _ _ _,false=>["short"]
 | .fetch _ _ _,true=>["is","no"] | .fetch _ _ _,false=>["full"]
 | .pass _ _ _ _,true=>["ok","no"] | .pass _ _ _ _,false=>[]
def vG:Sp:=fun vs H Q _=>∃(t:Addr) (x:Dd) (q:Bool),vs=[.ref t,.bl q]/\H t=some (.tup x.vs)/\∀l H',H l=none->H' l=some (.lst ((rQ x q).map V.str))->Same H H'->Q (.ref l) H'
def Yb (v1 v2 v3 v4 v5 v6:V):List (aW × V):=bR (bR (aK [] [(Sum.inr ("add":Str),v1),(Sum.inr ("take":Str),v2),(Sum.inr ("move":Str),v3),(Sum.inr ("pass":Str),v4)]) (Sum.inr ("send":Str)) v5) (Sum.inr ("fetch":Str)) v6
theorem Sd (v1 v2 v3 v4 v5 v6:V) (x:Dd):bN (Yb v1 v2 v3 v4 v5 v6) (Sum.inr x.wd)=some (match x with | .add _ _=>v1 | .take _ _=>v2 | .move _ _ _=>v3 | .pass _ _ _ _=>v4 | .send _ _ _=>v5 | .fetch _ _ _=>v6):=by
 cases x <;> rfl
theorem rR (x:Dd):nT x.vs 0=some (.str x.wd):=by cases x <;> rfl
theorem Se (x:Dd):oT (.str x.wd) [.str "add",.str "take",.str "move"]=!x.far:=by cases x <;> rfl
def iO:Dd->List Str
 | .add _ _=>["is","full"] | .take _ _=>["is","short"] | .move _ _ _=>["is","short","full"] | .send _ _ _=>["is","short","no"] | .fetch _ _ _=>["is","full","no"] | .pass _ _ _ _=>["ok","no"]
theorem vH (x:Dd) (h:x.far=false) (q:Bool):rQ x q=iO x:=by cases x <;> first | rfl | cases h
theorem zG (x:Dd) (h:x.far=true) (q:Bool):rQ x q=(iO x).filter fun z=>(oT (.str z) [.str "short",.str "full"]) != q:=by cases x <;> cases q <;> first | rfl | cases h
theorem Gv (x:Dd):(iO x).length<=3:=by cases x <;> exact Nat.le_of_ble_eq_true rfl
theorem cF {H:Hp} {p:Addr} {kvs:List (aW × V)} (e:H p=some (.dK kvs)) (kvs':List (aW × V)) {c:Addr} {o:HO} (ec:H c=some o) (ne:∀z,o≠.dK z):(aI H p (.dK kvs')) c=some o:=by
 rw[aE (fun z=>by rw[z,e]at ec;cases ec;exact ne _ rfl)];exact ec
theorem bV {H H1:Hp} {p:Addr} {o:HO} (hp:H p=none) (s:Same H H1):Same H (aI H1 p o):=fun c u e=>by
 rw[aE (aF e hp)];exact s _ _ e
theorem Gw (T:Txt K mg) (D:DefAt K mg "_law_words" eW ["_law_deed_here","_law_asked"]):aG P w K mg base 1 "_law_words" ["_law_deed_here","_law_asked"] vG:=by
 refine D.go iF (fun vs H Q E h=>?_) (fun f cdv A outer s H vs Q E hr h=>?_)
 ·obtain⟨t,x,q,rfl,_⟩:=h;rfl
 ·obtain⟨t,x,qq,rfl,gt,q⟩:=h
  have hu1:=dU hr
  refine⟨_,(R.ad (R.ah (i:=2) iF.nd (R.jg (R.dw R.ae (R.au (R.U R.ae (R.U R.ae R.ac))) (R.dw R.ae (R.au (R.U R.ae (R.U R.ae R.ac))) (R.dw R.ae (R.au (R.U R.ae (R.U R.ae (R.U R.ae R.ac)))) (R.dw R.ae (R.au (R.U R.ae (R.U R.ae R.ac))) R.jh)))))) (R.ad (R.br (R.au (R.U R.ae (R.U R.ae (R.U R.ae R.ac)))) (R.bu (R.v 2) R.ae (R.cf hu1))) (R.ad (R.br (R.au (R.U R.ae (R.U R.ae (R.U R.ae R.ac)))) (R.bu (R.v 2) R.ae (R.cf hu1))) (R.ad (R.ah (i:=3) iF.nd (R.be hu1 (R.v 2) (R.ix (R.af (K:=K)) (R.v 0) R.ab))) (R.ad (R.ar (R.al (R.bp (K:=K)) (R.ix (R.af (K:=K)) (R.v 0) R.ab) (R.ai (R.U R.ae (R.U R.ae (R.U R.ae R.ac))))) (R.ag (R.ao (R.v 3))) R.av) (R.ag (R.ao (R.ay rfl (js:=[none,some 1]) (N:=["_law_word","_law_asked"]) (CompScope.by (aB eW) ["_law_deed_here","_law_asked","_law_words_here","_law_some"] rfl rfl Zk) (aO rfl) (R.aw (K:=K) (R.v 3)) (fun C s₂ H₂ fp=>⟨(R.gn (i:=0) (show(["_law_word","_law_asked"]:List Str).Nodup by decide +kernel)),(R.az (R.al R.ne (R.bv (R.bp (K:=K)) (R.v 0) (R.ai (R.U R.ae (R.U R.ae R.ac)))) (R.v 1))),(R.v 0)⟩))))))))),?_⟩
  refine fun p hp=>?_
  have g0:(aI H p (.dK [])) p=some (.dK []):=aA
  have s0:=aD (o:=.dK []) hp
  generalize aI H p (.dK [])=H0 at g0 s0;refine⟨dE rfl,fun p1 hp1=>⟨dE rfl,fun p2 hp2=>⟨dE rfl,fun p3 hp3=>⟨dE rfl,fun p4 hp4=>?_⟩⟩⟩⟩
  have s1:=aD (o:=.lst [.str "is",.str "full"]) hp1
  have i1:(aI H0 p1 (.lst [.str "is",.str "full"])) p1=_:=aA
  have f1:H p1=none:=s0.free hp1
  generalize aI H0 p1 (.lst [.str "is",.str "full"])=H1 at s1 i1 hp2 hp3 hp4 ⊢;have s2:=aD (o:=.lst [.str "is",.str "short"]) hp2
  have i2:(aI H1 p2 (.lst [.str "is",.str "short"])) p2=_:=aA
  have f2:H p2=none:=(s0.trans s1).free hp2
  generalize aI H1 p2 (.lst [.str "is",.str "short"])=H2 at s2 i2 hp3 hp4 ⊢;have s3:=aD (o:=.lst [.str "is",.str "short",.str "full"]) hp3
  have i3:(aI H2 p3 (.lst [.str "is",.str "short",.str "full"])) p3=_:=aA
  have f3:H p3=none:=((s0.trans s1).trans s2).free hp3
  generalize aI H2 p3 (.lst [.str "is",.str "short",.str "full"])=H3 at s3 i3 hp4 ⊢;have s4:=aD (o:=.lst [.str "ok",.str "no"]) hp4
  have i4:(aI H3 p4 (.lst [.str "ok",.str "no"])) p4=_:=aA
  have f4:H p4=none:=(((s0.trans s1).trans s2).trans s3).free hp4
  generalize aI H3 p4 (.lst [.str "ok",.str "no"])=H4 at s4 i4 ⊢;have S04:Same H0 H4:=((s1.trans s2).trans s3).trans s4
  have g4:=S04 _ _ g0
  refine⟨g4,[(Sum.inr ("add":Str),.ref p1),(Sum.inr ("take":Str),.ref p2),(Sum.inr ("move":Str),.ref p3),(Sum.inr ("pass":Str),.ref p4)],rfl,Nat.le_of_ble_eq_true rfl,?_⟩
  have S4:Same H H4:=s0.trans S04
  replace i1:=s4 _ _ (s3 _ _ (s2 _ _ i1))
  replace i2:=s4 _ _ (s3 _ _ i2)
  replace i3:=s4 _ _ i3
  show oK _ _ _ [some (.ref t),some (.bl qq),some (.ref p),none] (aI H4 p (.dK (aK [] [(Sum.inr ("add":Str),.ref p1),(Sum.inr ("take":Str),.ref p2),(Sum.inr ("move":Str),.ref p3),(Sum.inr ("pass":Str),.ref p4)])))
  generalize hk:aK [] [(Sum.inr ("add":Str),V.ref p1),(Sum.inr ("take":Str),.ref p2),(Sum.inr ("move":Str),.ref p3),(Sum.inr ("pass":Str),.ref p4)]=kv4;have l4:kv4.length=4:=by rw[<- hk];rfl
  have S5:Same H (aI H4 p (.dK kv4)):=bV hp S4
  have g5:(aI H4 p (.dK kv4)) p=_:=aA
  replace i1:=cF g4 kv4 i1 (fun _ z=>nomatch z)
  replace i2:=cF g4 kv4 i2 (fun _ z=>nomatch z)
  replace i3:=cF g4 kv4 i3 (fun _ z=>nomatch z)
  replace i4:=cF g4 kv4 i4 (fun _ z=>nomatch z)
  generalize aI H4 p (.dK kv4)=H5 at i1 i2 i3 i4 S5 g5 ⊢;refine⟨dE rfl,fun p5 hp5=>⟨p,_,rfl,DPut.k (k:=Sum.inr ("send":Str)) (aL g5 hp5) (kI (m:=100) Zo Zd),?_⟩⟩
  have f5:H p5=none:=S5.free hp5
  have s6:=aD (o:=.lst [.str "is",.str "short",.str "no"]) hp5
  have i5:(aI H5 p5 (.lst [.str "is",.str "short",.str "no"])) p5=_:=aA
  have g6:=s6 _ _ g5
  generalize aI H5 p5 (.lst [.str "is",.str "short",.str "no"])=H6 at s6 i5 g6 ⊢;generalize hk5:bR kv4 (Sum.inr ("send":Str)) (V.ref p5)=kv5;have l5:kv5.length<=5:=by rw[<- hk5];exact eK (cN _ _ _) Zo
  have S7:Same H (aI H6 p (.dK kv5)):=bV hp (S5.trans s6)
  have g7:(aI H6 p (.dK kv5)) p=_:=aA
  replace i1:=cF g6 kv5 (s6 _ _ i1) (fun _ z=>nomatch z)
  replace i2:=cF g6 kv5 (s6 _ _ i2) (fun _ z=>nomatch z)
  replace i3:=cF g6 kv5 (s6 _ _ i3) (fun _ z=>nomatch z)
  replace i4:=cF g6 kv5 (s6 _ _ i4) (fun _ z=>nomatch z)
  replace i5:=cF g6 kv5 i5 (fun _ z=>nomatch z)
  generalize aI H6 p (.dK kv5)=H7 at i1 i2 i3 i4 i5 S7 g7 ⊢;refine⟨dE rfl,fun p6 hp6=>⟨p,_,rfl,DPut.k (k:=Sum.inr ("fetch":Str)) (aL g7 hp6) (kI (m:=100) Zo Zd),?_⟩⟩
  have f6:H p6=none:=S7.free hp6
  have s8:=aD (o:=.lst [.str "is",.str "full",.str "no"]) hp6
  have i6:(aI H7 p6 (.lst [.str "is",.str "full",.str "no"])) p6=_:=aA
  have g8:=s8 _ _ g7
  generalize aI H7 p6 (.lst [.str "is",.str "full",.str "no"])=H8 at s8 i6 g8 ⊢;generalize hk6:bR kv5 (Sum.inr ("fetch":Str)) (V.ref p6)=kv6';have ek:kv6'=Yb (.ref p1) (.ref p2) (.ref p3) (.ref p4) (.ref p5) (.ref p6):=by rw[<- hk6,<- hk5,<- hk];rfl
  have S9:Same H (aI H8 p (.dK kv6')):=bV hp (S7.trans s8)
  have g9:(aI H8 p (.dK kv6')) p=_:=aA
  replace i1:=cF g8 kv6' (s8 _ _ i1) (fun _ z=>nomatch z)
  replace i2:=cF g8 kv6' (s8 _ _ i2) (fun _ z=>nomatch z)
  replace i3:=cF g8 kv6' (s8 _ _ i3) (fun _ z=>nomatch z)
  replace i4:=cF g8 kv6' (s8 _ _ i4) (fun _ z=>nomatch z)
  replace i5:=cF g8 kv6' (s8 _ _ i5) (fun _ z=>nomatch z)
  replace i6:=cF g8 kv6' i6 (fun _ z=>nomatch z)
  generalize aI H8 p (.dK kv6')=H9 at i1 i2 i3 i4 i5 i6 S9 g9 ⊢;have key:∃pl:Addr,bN kv6' (Sum.inr x.wd)=some (.ref pl)/\H pl=none/\H9 pl=some (.lst ((iO x).map V.str)):=by
   rw[ek,Sd];cases x with
   | add a n=>exact⟨p1,rfl,f1,i1⟩
   | take a n=>exact⟨p2,rfl,f2,i2⟩
   | move a b n=>exact⟨p3,rfl,f3,i3⟩
   | send a b n=>exact⟨p5,rfl,f5,i5⟩
   | fetch a b n=>exact⟨p6,rfl,f6,i6⟩
   | pass a b c n=>exact⟨p4,rfl,f4,i4⟩
  obtain⟨pl,hv,fl,gl⟩:=key
  have dg:DGet H9 p (.str x.wd) (some (.ref pl)):=by rw[<- hv];exact DGet.k (k:=Sum.inr x.wd) g9
  have gt9:=S9 _ _ gt
  refine⟨_,SqT.of gt9,_,rR x,p,_,rfl,dg,?_⟩
  dsimp only [aJ];refine⟨_,SqT.of gt9,_,rR x,aP rfl,fun tq Ha sa ga=>⟨tq,_,rfl,.inr (SqT.of ga),rfl,rfl,?_⟩⟩
  have Sa:Same H Ha:=S9.trans sa
  show if oT (.str x.wd) [.str "add",.str "take",.str "move"]=true then _ else _
  rw[Se];cases hf:x.far with
  | false=>
   refine Bd rfl ?_
   refine q pl Ha fl ?_ Sa
   rw[vH x hf];exact sa _ _ gl
  | true=>
   refine qM rfl ?_
   have gla:=sa _ _ gl
   refine⟨pl,rfl,⟨_,SqL.of gla⟩,?_⟩
   refine aS (aR K pl ((iO x).map V.str)) (by have:=Gv x;rw[aQ];omega) (fun i ys H'=>ys=(((iO x).take i).filter fun z=>(oT (.str z) [.str "short",.str "full"]) != qq).map V.str/\Same H H'/\H' pl=some (.lst ((iO x).map V.str))) (fun i ys H' ⟨e,_,gl'⟩=>⟨SqL.of gl',by rw[e,aQ];exact eK (List.length_filter_le _ _) (by rw[nQ];omega)⟩) ⟨rfl,Sa,gla⟩ (fun i y ys H' hy ⟨e,S',gl'⟩=>?_) (fun ys H' ⟨e,S',gl'⟩=>?_)
   ·rw[dR]at hy;cases hz:(iO x)[i]? with
    | none=>rw[hz]at hy;cases hy
    | some z=>
     rw[hz]at hy;cases hy
     have key:=take_succ_filter (fun z=>(oT (.str z) [.str "short",.str "full"]) != qq) (iO x) i z hz
     refine⟨aP rfl,fun tp Hb sb gb=>⟨tp,_,rfl,.inr (SqT.of gb),rfl,rfl,?_⟩⟩
     show if (!decide (oT (.str z) [.str "short",.str "full"]=qq))=true then _ else _
     have eb:(!decide (oT (.str z) [.str "short",.str "full"]=qq))=(oT (.str z) [.str "short",.str "full"] != qq):=by cases oT (.str z) [.str "short",.str "full"] <;> cases qq <;> rfl
     rw[eb];refine bP (fun h=>⟨?_,S'.trans sb,sb _ _ gl'⟩) (fun h=>⟨?_,S'.trans sb,sb _ _ gl'⟩)
     ·rw[key,if_pos h,cS,e];rfl
     ·rw[key,if_neg (by rw[h];exact Bool.false_ne_true),List.append_nil,e]
   ·intro pn hpn;refine q pn _ (S'.free hpn) ?_ (S'.trans (aD hpn))
    rw[aA,e,aQ,gH (aV _),zG x hf]
end
end KL
namespace KL
open PySem L2
section
variable {P:Program} {w:World} {K:W.Frag} {mg:Str->Option Value} {base:Heap}
def qS:An->Str | .is1 _=>"is" | .is2 _ _=>"is" | .short _=>"short" | .full _=>"full" | .no _=>"no" | .ok=>"ok"
def Gx:Sp:=fun vs H Q _=>∃(d b t:Addr) (x:Dd) (z:Str),vs=[.ref d,.ref t,.str z]/\Dk H d b/\H t=some (.tup x.vs)/\x.Ok/\z∈iO x ∧
 ∀(c:Addr) (y:An) (H':Hp),An.Of x y->qS y=z->H' c=some (.tup y.vs)->Fw d b H H'->Q (.ref c) H'
theorem Vo (x:Dd):nT x.vs (-1)=some (.int (x.n:Int)):=by cases x <;> rfl
theorem fM {r:Int} (h:0<=r):∃z:Nat,r=z:=⟨r.toNat,Zo⟩
theorem Bs (T:Txt K mg) (cLdraw:aG P w K mg base 1 "_law_draw" ["_law_deck_here","_law_many"] bK) (cLend:aG P w K mg base 2 "_law_end" ["_law_deck_here","_law_many"] bK)
  (D:DefAt K mg "_law_answer" fK ["_law_deck_here","_law_deed_here","_law_word"]):aG P w K mg base 3 "_law_answer" ["_law_deck_here","_law_deed_here","_law_word"] Gx:=by
 refine D.go eP (fun vs H Q E h=>?_) (fun f cdv A outer s H vs Q E hr h=>?_)
 ·obtain⟨d,b,t,x,z,rfl,_⟩:=h;rfl
 ·obtain⟨d,b,t,x,z,rfl,dk,gt,hx,hz,q⟩:=h
  have hLdraw:Room 1 _:=hr.mono Zd
  have hLend:Room 2 _:=hr.mono Zd
  have hn:=hx.n
  refine⟨_,(R.ad (R.ah (i:=3) eP.nd (R.ix (R.af (K:=K)) (R.v 1) (R.ba R.ab))) (R.ad (R.ah (i:=4) eP.nd (R.fn cLend hLend rfl (R.U (R.v 0) (R.U (R.op R.ap (R.op R.cn (R.op R.bi R.ab R.ab) (R.v 3)) R.ab) R.ac)))) (R.ad (R.ah (i:=5) eP.nd (R.op R.ap (R.v 3) (R.fn cLend hLend rfl (R.U (R.v 0) (R.U (R.op R.ap (R.op R.cn (R.op R.bi R.ab R.ab) (R.v 3)) R.ab) R.ac))))) (R.ad (R.ar (R.al R.eq (R.v 2) R.ae) (R.ag (R.ao (R.ai (R.U R.ae (R.U (R.ix (R.af (K:=K)) (R.v 1) (R.op R.ap R.ab (R.op R.de (R.fn cLdraw hLdraw rfl (R.U (R.v 0) (R.U R.ab R.ac))) (R.bg R.dl rfl T.b_int mM (R.U (R.bv R.eq (R.ix (R.af (K:=K)) (R.v 1) R.ab) R.ae) R.ac))))) R.ac))))) R.av) (R.ad (R.ar (R.al R.eq (R.v 2) R.ae) (R.ag (R.ao (R.ai (R.U R.ae R.ac)))) R.av) (R.ad (R.ar (R.al R.eq (R.v 2) R.ae) (R.ag (R.ao (R.ai (R.U R.ae (R.U (R.fn cLend hLend rfl (R.U (R.v 0) (R.U (R.v 3) R.ac))) R.ac))))) R.av) (R.ad (R.ar (R.al R.eq (R.v 2) R.ae) (R.ag (R.ao (R.ai (R.U R.ae (R.U (R.op R.cn (R.op R.bi R.ab R.ab) (R.fn cLend hLend rfl (R.U (R.v 0) (R.U (R.v 3) R.ac)))) R.ac))))) R.av) (R.ad (R.ar (R.al R.eq (R.ix (R.af (K:=K)) (R.v 1) R.ab) R.ae) (R.ag (R.ao (R.ai (R.U R.ae (R.U (R.v 4) (R.U (R.v 5) R.ac)))))) R.av) (R.ag (R.ao (R.ai (R.U R.ae (R.U (R.ix (R.aq (K:=K)) (R.au (R.U (R.v 4) (R.U (R.v 5) R.ac))) (R.bg R.dl rfl T.b_int mM (R.U (R.bv (R.bp (K:=K)) (R.ix (R.af (K:=K)) (R.v 1) R.ab) (R.ai (R.U R.ae (R.U R.ae R.ac)))) R.ac))) R.ac))))))))))))),?_⟩
  refine⟨_,SqT.of gt,_,Vo x,?_⟩
  dsimp only [aJ];refine⟨⟨Zd,Zd,Zd⟩,d,b,1000000000000 - (x.n:Int)+1,rfl,dk,Zo,Zo,fun r1 H1 a0 a1 D1 k1=>?_⟩
  dsimp only [aJ];refine⟨⟨Zd,Zd,Zd⟩,d,b,1000000000000 - (x.n:Int)+1,rfl,D1,Zo,Zo,fun r2 H2 b0 b1 D2 k2=>?_⟩
  dsimp only [aJ];have f2:=((Fw.refl dk).draw D1 k1).draw D2 k2
  obtain⟨r1,rfl⟩:=fM a0
  obtain⟨r2,rfl⟩:=fM b0
  have gt2:=f2.tup gt
  have ff:=f2
  dsimp only [wH,mI];show oK _ _ _ [some (.ref d),some (.ref t),some (.str z),some (.int (x.n:Int)),some (.int (r1:Int)),some (.int ((x.n:Int)+(r2:Int)))] H2
  cases x with
  | add a n=>
   simp only [Dd.n]at hn a1 b1
   simp only [iO,List.mem_cons,List.not_mem_nil,or_false]at hz
   rcases hz with rfl | rfl
   ·refine⟨_,SqT.of gt2,_,rfl,⟨dE rfl,fun p hp=>⟨_,SqT.of (aL gt2 hp),_,rfl,aP rfl,fun tq Ha sa ga=>⟨tq,_,rfl,.inr (SqT.of ga),rfl,rfl,⟨_,SqL.of (sa _ _ aA),_,rfl,aP rfl,fun p' H' s' g'=>?_⟩⟩⟩⟩⟩
    refine q p' (.is1 (n+r2)) H' ⟨Zo,Zo⟩ rfl ?_ (((ff.new hp).same sa).same s')
    rw[g'];show some (HO.tup [V.str "is",.int ((n:Int)+(r2:Int))])=some (HO.tup [V.str "is",.int ((n+r2:Nat):Int)])
    rw[show((n+r2:Nat):Int)=(n:Int)+(r2:Int) by omega]
   ·refine⟨⟨Zd,Zd,Zd⟩,d,b,(n:Int),rfl,ff.dk,Zo,Zo,fun r3 H3 c0 c1 D3 k3=>⟨aP rfl,fun p H' s' g'=>?_⟩⟩
    obtain⟨r3,rfl⟩:=fM c0
    refine q p (.full (1000000000000 - r3)) H' ⟨Zo,Zo⟩ rfl ?_ ((ff.draw D3 k3).same s')
    rw[g'];show some (HO.tup [V.str "full",.int ((1000000000000:Int) - (r3:Int))])=some (HO.tup [V.str "full",.int ((1000000000000 - r3:Nat):Int)])
    rw[show((1000000000000 - r3:Nat):Int)=(1000000000000:Int) - (r3:Int) by omega]
  | take a n=>
   simp only [Dd.n]at hn a1 b1
   simp only [iO,List.mem_cons,List.not_mem_nil,or_false]at hz
   rcases hz with rfl | rfl
   ·refine⟨_,SqT.of gt2,_,rfl,⟨dE rfl,fun p hp=>⟨_,SqT.of (aL gt2 hp),_,rfl,aP rfl,fun tq Ha sa ga=>⟨tq,_,rfl,.inr (SqT.of ga),rfl,rfl,⟨_,SqL.of (sa _ _ aA),_,rfl,aP rfl,fun p' H' s' g'=>?_⟩⟩⟩⟩⟩
    exact q p' (.is1 r1) H' (by show r1+n<=1000000000000;omega) rfl g' (((ff.new hp).same sa).same s')
   ·refine⟨d,b,(n:Int),rfl,ff.dk,Zo,Zo,fun r3 H3 c0 c1 D3 k3=>⟨aP rfl,fun p H' s' g'=>?_⟩⟩
    obtain⟨r3,rfl⟩:=fM c0
    exact q p (.short r3) H' (by show r3<n;omega) rfl g' ((ff.draw D3 k3).same s')
  | move a b' n=>
   simp only [Dd.n]at hn a1 b1
   simp only [iO,List.mem_cons,List.not_mem_nil,or_false]at hz
   rcases hz with rfl | rfl | rfl
   ·refine⟨_,SqT.of gt2,_,rfl,aP rfl,fun p H' s' g'=>?_⟩
    refine q p (.is2 r1 (n+r2)) H' ⟨Zo,Zo,Zo⟩ rfl ?_ (ff.same s')
    rw[g'];show some (HO.tup [V.str "is",.int (r1:Int),.int ((n:Int)+(r2:Int))])=some (HO.tup [V.str "is",.int (r1:Int),.int ((n+r2:Nat):Int)])
    rw[show((n+r2:Nat):Int)=(n:Int)+(r2:Int) by omega]
   ·refine⟨d,b,(n:Int),rfl,ff.dk,Zo,Zo,fun r3 H3 c0 c1 D3 k3=>⟨aP rfl,fun p H' s' g'=>?_⟩⟩
    obtain⟨r3,rfl⟩:=fM c0
    exact q p (.short r3) H' (by show r3<n;omega) rfl g' ((ff.draw D3 k3).same s')
   ·refine⟨⟨Zd,Zd,Zd⟩,d,b,(n:Int),rfl,ff.dk,Zo,Zo,fun r3 H3 c0 c1 D3 k3=>⟨aP rfl,fun p H' s' g'=>?_⟩⟩
    obtain⟨r3,rfl⟩:=fM c0
    refine q p (.full (1000000000000 - r3)) H' ⟨Zo,Zo⟩ rfl ?_ ((ff.draw D3 k3).same s')
    rw[g'];show some (HO.tup [V.str "full",.int ((1000000000000:Int) - (r3:Int))])=some (HO.tup [V.str "full",.int ((1000000000000 - r3:Nat):Int)])
    rw[show((1000000000000 - r3:Nat):Int)=(1000000000000:Int) - (r3:Int) by omega]
  | send h a n=>
   simp only [Dd.n]at hn a1 b1
   simp only [iO,List.mem_cons,List.not_mem_nil,or_false]at hz
   rcases hz with rfl | rfl | rfl
   ·refine⟨_,SqT.of gt2,_,rfl,⟨dE rfl,fun p hp=>⟨_,SqT.of (aL gt2 hp),_,rfl,aP rfl,fun tq Ha sa ga=>⟨tq,_,rfl,.inr (SqT.of ga),rfl,rfl,⟨_,SqL.of (sa _ _ aA),_,rfl,aP rfl,fun p' H' s' g'=>?_⟩⟩⟩⟩⟩
    exact q p' (.is1 r1) H' (by show r1+n<=1000000000000;omega) rfl g' (((ff.new hp).same sa).same s')
   ·refine⟨d,b,(n:Int),rfl,ff.dk,Zo,Zo,fun r3 H3 c0 c1 D3 k3=>⟨aP rfl,fun p H' s' g'=>?_⟩⟩
    obtain⟨r3,rfl⟩:=fM c0
    exact q p (.short r3) H' (by show r3<n;omega) rfl g' ((ff.draw D3 k3).same s')
   ·refine⟨d,b,2,rfl,ff.dk,Zd,Zd,fun r3 H3 c0 c1 D3 k3=>⟨_,SqT.of ((ff.draw D3 k3).tup gt),_,rfl,.inl ⟨Zo,Zo⟩,_,SqT.of ((ff.draw D3 k3).tup gt),.str h,?_,aP rfl,fun p H' s' g'=>?_⟩⟩
    ·show nT _ (1+r3*0)=_
     rw[Int.mul_zero];rfl
    ·exact q p (.no h) H' rfl rfl g' ((ff.draw D3 k3).same s')
  | fetch h a n=>
   simp only [Dd.n]at hn a1 b1
   simp only [iO,List.mem_cons,List.not_mem_nil,or_false]at hz
   rcases hz with rfl | rfl | rfl
   ·refine⟨_,SqT.of gt2,_,rfl,⟨dE rfl,fun p hp=>⟨_,SqT.of (aL gt2 hp),_,rfl,aP rfl,fun tq Ha sa ga=>⟨tq,_,rfl,.inr (SqT.of ga),rfl,rfl,⟨_,SqL.of (sa _ _ aA),_,rfl,aP rfl,fun p' H' s' g'=>?_⟩⟩⟩⟩⟩
    refine q p' (.is1 (n+r2)) H' ⟨Zo,Zo⟩ rfl ?_ (((ff.new hp).same sa).same s')
    rw[g'];show some (HO.tup [V.str "is",.int ((n:Int)+(r2:Int))])=some (HO.tup [V.str "is",.int ((n+r2:Nat):Int)])
    rw[show((n+r2:Nat):Int)=(n:Int)+(r2:Int) by omega]
   ·refine⟨⟨Zd,Zd,Zd⟩,d,b,(n:Int),rfl,ff.dk,Zo,Zo,fun r3 H3 c0 c1 D3 k3=>⟨aP rfl,fun p H' s' g'=>?_⟩⟩
    obtain⟨r3,rfl⟩:=fM c0
    refine q p (.full (1000000000000 - r3)) H' ⟨Zo,Zo⟩ rfl ?_ ((ff.draw D3 k3).same s')
    rw[g'];show some (HO.tup [V.str "full",.int ((1000000000000:Int) - (r3:Int))])=some (HO.tup [V.str "full",.int ((1000000000000 - r3:Nat):Int)])
    rw[show((1000000000000 - r3:Nat):Int)=(1000000000000:Int) - (r3:Int) by omega]
   ·refine⟨d,b,2,rfl,ff.dk,Zd,Zd,fun r3 H3 c0 c1 D3 k3=>⟨_,SqT.of ((ff.draw D3 k3).tup gt),_,rfl,.inl ⟨Zo,Zo⟩,_,SqT.of ((ff.draw D3 k3).tup gt),.str h,?_,aP rfl,fun p H' s' g'=>?_⟩⟩
    ·show nT _ (1+r3*0)=_
     rw[Int.mul_zero];rfl
    ·exact q p (.no h) H' rfl rfl g' ((ff.draw D3 k3).same s')
  | pass h g a n=>
   simp only [Dd.n]at hn a1 b1
   simp only [iO,List.mem_cons,List.not_mem_nil,or_false]at hz
   rcases hz with rfl | rfl
   ·refine⟨aP rfl,fun p H' s' g'=>?_⟩
    exact q p .ok H' trivial rfl g' (ff.same s')
   ·refine⟨d,b,2,rfl,ff.dk,Zd,Zd,fun r3 H3 c0 c1 D3 k3=>?_⟩
    rcases(by omega:r3=0∨r3=1) with rfl | rfl
    ·refine⟨_,SqT.of ((ff.draw D3 k3).tup gt),_,rfl,.inl ⟨Zo,Zo⟩,_,SqT.of ((ff.draw D3 k3).tup gt),.str h,rfl,aP rfl,fun p H' s' g'=>?_⟩
     exact q p (.no h) H' (.inl rfl) rfl g' ((ff.draw D3 k3).same s')
    ·refine⟨_,SqT.of ((ff.draw D3 k3).tup gt),_,rfl,.inl ⟨Zo,Zo⟩,_,SqT.of ((ff.draw D3 k3).tup gt),.str g,rfl,aP rfl,fun p H' s' g'=>?_⟩
     exact q p (.no g) H' (.inr rfl) rfl g' ((ff.draw D3 k3).same s')
end
end KL
namespace KL
open PySem L2
section
variable {P:Program} {w:World} {K:W.Frag} {mg:Str->Option Value} {base:Heap}
structure MenusAt (H:Hp) (lm:Addr) (M:List Addr):Prop where
 ex:∃(a0 a1 a2 a3:Addr) (ws us ps ks:List Str),M=[lm,a0,a1,a2,a3]/\H lm=some (.lst [.ref a0,.ref a1,.ref a2,.ref a3])/\H a0=some (.lst (ws.map V.str))/\H a1=some (.lst (us.map V.str))/\H a2=some (.lst (ps.map V.str))/\H a3=some (.lst (ks.map V.str)) ∧
  Menu ws/\Menu us/\(1<=ps.length/\ps.length<=6/\∀z∈ps,fU z)/\1<=ks.length/\ks.length<=6/\∀z∈ks,uX z
theorem MenusAt.keep {H H':Hp} {lm:Addr} {M:List Addr} (h:MenusAt H lm M) (k:∀c∈M,∀o,H c=some o->H' c=some o):MenusAt H' lm M:=by
 obtain⟨a0,a1,a2,a3,ws,us,ps,ks,rfl,h0,h1,h2,h3,h4,r⟩:=h.ex
 exact⟨a0,a1,a2,a3,ws,us,ps,ks,rfl,k _ Zs _ h0,k _ Zs _ h1,k _ Zs _ h2,k _ Zs _ h3,k _ Zs _ h4,r⟩
theorem Fw.menus {d b:Addr} {H H':Hp} {lm:Addr} {M:List Addr} (f:Fw d b H H') (h1:d∉M) (h2:b∉M) (h:MenusAt H lm M):MenusAt H' lm M:=h.keep fun c hc o e=>f.get e (fun z=>h1 (z ▸ hc)) (fun z=>h2 (z ▸ hc))
theorem Fw.put {d b a:Addr} {H H':Hp} {o:HO} (f:Fw d b H H') (hn:H a=none):Fw d b H (aI H' a o):=by
 have hd:=f.d0.ne hn
 refine⟨f.d0,?_,fun c u e n1 n2=>?_⟩
 ·obtain⟨ns,s,k,h1,h2,h3⟩:=f.dk.ex
  exact⟨ns,s,k,by rw[aE (fun z=>hd.1 z.symm)];exact h1,by rw[aE (fun z=>hd.2 z.symm)];exact h2,h3⟩
 ·rw[aE (aF e hn)];exact f.kp _ _ e n1 n2
def oG:Sp:=fun vs H Q _=>∃(d b lm:Addr) (M:List Addr),vs=[.ref d,.ref lm]/\Dk H d b/\MenusAt H lm M/\d∉M/\b∉M/\∀(t:Addr) (p k:Str) (H':Hp),fU p->uX k->H' t=some (.tup [.str p,.str k])->Fw d b H H'->Q (.ref t) H'
theorem Ml (T:Txt K mg) (cLdraw:aG P w K mg base 1 "_law_draw" ["_law_deck_here","_law_many"] bK)
  (D:DefAt K mg "_law_spot" iC ["_law_deck_here","_law_menus_here"]):aG P w K mg base 2 "_law_spot" ["_law_deck_here","_law_menus_here"] oG:=by
 refine D.go vE (fun vs H Q E h=>?_) (fun f cdv A outer s H vs Q E hr h=>?_)
 ·obtain⟨d,b,lm,M,rfl,_⟩:=h;rfl
 ·obtain⟨d,b,lm,M,rfl,dk,hM,hd,hb,q⟩:=h
  have hLdraw:=hr
  obtain⟨a0,a1,a2,a3,ws,us,ps,ks,rfl,h0,h1,h2,h3,h4,mw,mu,⟨p1,p6,pn⟩,k1,k6,kn⟩:=hM.ex
  have nd:∀c∈[lm,a0,a1,a2,a3],c≠d/\c≠b:=fun c hc=>⟨fun z=>hd (z ▸ hc),fun z=>hb (z ▸ hc)⟩
  refine⟨_,(R.ag (R.ao (R.ai (R.U (R.ix (R.aq (K:=K)) (R.ix (R.aq (K:=K)) (R.v 1) R.ab) (R.fn cLdraw hLdraw rfl (R.U (R.v 0) (R.U (R.ax (R.bo (K:=K)) rfl T.b_len cW (R.U (R.ix (R.aq (K:=K)) (R.v 1) R.ab) R.ac)) R.ac)))) (R.U (R.ix (R.aq (K:=K)) (R.ix (R.aq (K:=K)) (R.v 1) R.ab) (R.fn cLdraw hLdraw rfl (R.U (R.v 0) (R.U (R.ax (R.bo (K:=K)) rfl T.b_len cW (R.U (R.ix (R.aq (K:=K)) (R.v 1) R.ab) R.ac)) R.ac)))) R.ac))))),?_⟩
  refine⟨_,SqL.of h0,_,rfl,_,SqL.of h0,_,rfl,_,.inl (SqL.of h3),d,b,(ps.length:Int),by rw[aQ],dk,Zo,Zo,fun r1 H1 x0 x1 D1 e1=>?_⟩
  have f1:=(Fw.refl dk).draw D1 e1
  have ge:∀c∈[lm,a0,a1,a2,a3],∀o,H c=some o->H1 c=some o:=fun c hc o e=>f1.get e (nd c hc).1 (nd c hc).2
  obtain⟨i,hi,rfl,ei⟩:=jE x0 x1
  refine⟨_,SqL.of (ge a2 Zs _ h3),_,ei,?_⟩
  refine⟨_,SqL.of (ge lm Zs _ h0),_,rfl,_,SqL.of (ge lm Zs _ h0),_,rfl,_,.inl (SqL.of (ge a3 Zs _ h4)),d,b,(ks.length:Int),by rw[aQ],D1,Zo,Zo,fun r2 H2 y0 y1 D2 e2=>?_⟩
  have f2:=f1.draw D2 e2
  obtain⟨j,hj,rfl,ej⟩:=jE y0 y1
  refine⟨_,SqL.of (f2.get h4 (nd a3 Zs).1 (nd a3 Zs).2),_,ej,aP rfl,fun t H' s' g'=>?_⟩
  exact q t _ _ H' (pn _ (List.getElem_mem hi)) (kn _ (List.getElem_mem hj)) g' (f2.same s')
def zH:Sp:=fun vs H Q _=>∃(d b lm:Addr) (M:List Addr) (n t:Nat),vs=[.ref d,.ref lm,.int (n:Int),.int (t:Int)]/\Dk H d b/\MenusAt H lm M/\d∉M/\b∉M ∧
 ∀(a:Addr) (p k:Str) (x:Dd) (y:An) (H':Hp),fU p->uX k->x.Ok->An.Of x y->RX.At H' a (.kept n t p k x y)->Fw d b H H'->Q (.ref a) H'
theorem zI (x:Dd) (q:Bool):∀z∈rQ x q,z∈iO x:=by
 cases hf:x.far with
 | false=>rw[vH x hf];exact fun z h=>h
 | true=>rw[zG x hf];exact fun z h=>(List.mem_filter.mp h).1
theorem vI (x:Dd):1<=(rQ x true++rQ x false).length/\(rQ x true++rQ x false).length<=6:=by cases x <;> exact⟨Nat.le_of_ble_eq_true rfl,Nat.le_of_ble_eq_true rfl⟩
theorem Mm (T:Txt K mg) (cLdraw:aG P w K mg base 1 "_law_draw" ["_law_deck_here","_law_many"] bK) (cLdeed:aG P w K mg base 3 "_law_deed" ["_law_deck_here","_law_names","_law_houses"] oF)
  (cLwords:aG P w K mg base 1 "_law_words" ["_law_deed_here","_law_asked"] vG) (cLanswer:aG P w K mg base 3 "_law_answer" ["_law_deck_here","_law_deed_here","_law_word"] Gx) (cLspot:aG P w K mg base 2 "_law_spot" ["_law_deck_here","_law_menus_here"] oG)
  (D:DefAt K mg "_law_kept" iD ["_law_deck_here","_law_menus_here","_law_number","_law_turn"]):aG P w K mg base 4 "_law_kept" ["_law_deck_here","_law_menus_here","_law_number","_law_turn"] zH:=by
 refine D.go fZ (fun vs H Q E h=>?_) (fun f cdv A outer s H vs Q E hr h=>?_)
 ·obtain⟨d,b,lm,M,n,t,rfl,_⟩:=h;rfl
 ·obtain⟨d,b,lm,M,n,t,rfl,dk,hM,hd,hb,q⟩:=h
  have hLdraw:Room 1 _:=hr.mono Zd
  have hLdeed:Room 3 _:=hr.mono Zd
  have hLwords:Room 1 _:=hr.mono Zd
  have hLanswer:Room 3 _:=hr.mono Zd
  have hLspot:Room 2 _:=hr.mono Zd
  have hM':=hM
  obtain⟨a0,a1,a2,a3,ws,us,ps,ks,rfl,h0,h1,h2,h3,h4,mw,mu,⟨p1,p6,pn⟩,k1,k6,kn⟩:=hM.ex
  have nd:∀c∈[lm,a0,a1,a2,a3],c≠d/\c≠b:=fun c hc=>⟨fun z=>hd (z ▸ hc),fun z=>hb (z ▸ hc)⟩
  refine⟨_,(R.ad (R.ah (i:=4) fZ.nd (R.fn cLdeed hLdeed rfl (R.U (R.v 0) (R.U (R.ix (R.aq (K:=K)) (R.v 1) R.ab) (R.U (R.ix (R.aq (K:=K)) (R.v 1) R.ab) R.ac))))) (R.ad (R.ah (i:=5) fZ.nd (R.op R.bd (R.fn cLwords hLwords rfl (R.U (R.v 4) (R.U R.bl R.ac))) (R.fn cLwords hLwords rfl (R.U (R.v 4) (R.U R.bl R.ac))))) (R.ad (R.ah (i:=6) fZ.nd (R.fn cLanswer hLanswer rfl (R.U (R.v 0) (R.U (R.v 4) (R.U (R.ix (R.aq (K:=K)) (R.v 5) (R.fn cLdraw hLdraw rfl (R.U (R.v 0) (R.U (R.ax (R.bo (K:=K)) rfl T.b_len cW (R.U (R.v 5) R.ac)) R.ac)))) R.ac))))) (R.ag (R.ao (R.op R.bj (R.op R.bj (R.ai (R.U R.ae (R.U (R.v 2) (R.U (R.v 3) R.ac)))) (R.fn cLspot hLspot rfl (R.U (R.v 0) (R.U (R.v 1) R.ac)))) (R.ai (R.U (R.v 4) (R.U (R.v 6) R.ac))))))))),?_⟩
  refine⟨_,SqL.of h0,_,rfl,_,SqL.of h0,_,rfl,d,b,a0,a1,ws,us,rfl,dk,h1,h2,⟨(nd a0 Zs).1,(nd a0 Zs).2,(nd a1 Zs).1,(nd a1 Zs).2⟩,mw,mu,fun td x H1 hx gx f1=>?_⟩
  dsimp only [aJ];refine⟨td,x,true,rfl,gx,fun l1 H2 n1 g1 s1=>⟨td,x,false,rfl,s1 _ _ gx,fun l2 H3 n2 g2 s2=>⟨_,_,s2 _ _ g1,g2,?_,fun l3 hl3=>?_⟩⟩⟩
  ·have:=vI x
   rw[iK]at this;rw[aQ,aQ];exact dJ Zo
  have s13:Same H1 (aI H3 l3 (.lst ((rQ x true).map V.str++(rQ x false).map V.str))):=(s1.trans s2).trans (aD hl3)
  have g3:(aI H3 l3 (.lst ((rQ x true).map V.str++(rQ x false).map V.str))) l3=some (.lst ((rQ x true++rQ x false).map V.str)):=by rw[aA,cS]
  have f3:=f1.same s13
  have l3d:=(f1.same (s1.trans s2)).dk.ne hl3
  have gx3:=s13 _ _ gx
  dsimp only [aJ];generalize aI H3 l3 (.lst ((rQ x true).map V.str++(rQ x false).map V.str))=H4 at g3 f3 gx3;have w6:=vI x
  refine⟨_,.inl (SqL.of g3),d,b,((rQ x true++rQ x false).length:Int),by rw[aQ],f3.dk,Zo,Zo,fun r H5 r0 r1 D5 e5=>?_⟩
  have f5:=f3.draw D5 e5
  have F5:=(Fw.refl f3.dk).draw D5 e5
  obtain⟨i,hi,rfl,ei⟩:=jE r0 r1
  have hz:(rQ x true++rQ x false)[i]∈iO x:=by
   rcases Zma.mp (List.getElem_mem hi) with h | h
   ·exact zI x _ _ h
   ·exact zI x _ _ h
  refine⟨_,SqL.of (F5.get g3 l3d.1 l3d.2),_,ei,d,b,td,x,_,rfl,D5,F5.tup gx3,hx,hz,fun c y H6 hy _ gy f6=>?_⟩
  have f06:=f5.trans f6
  dsimp only [aJ];refine⟨aP rfl,fun t1 H7 s7 g7=>?_⟩
  have f07:=f06.same s7
  refine⟨d,b,lm,_,rfl,f07.dk,f07.menus hd hb hM',hd,hb,fun t2 p k H8 hp hk g8 f8=>?_⟩
  refine⟨_,_,f8.tup g7,g8,Nat.le_of_ble_eq_true rfl,fun t3 H9 s9 g9=>⟨aP rfl,fun t4 Ha sa ga=>⟨_,_,sa _ _ g9,ga,Nat.le_of_ble_eq_true rfl,fun t5 Hb sb gb=>?_⟩⟩⟩
  have tkb:TK H7 Hb:=f8.tk.trans (((Same.tk s9).trans (Same.tk sa)).trans (Same.tk sb))
  refine q t5 p k x y Hb hp hk hx hy ⟨td,c,gb,?_,?_⟩ (((((f07.trans f8).same s9).same sa).same sb))
  ·exact tkb _ _ (s7 _ _ (f6.tup (F5.tup gx3)))
  ·exact tkb _ _ (s7 _ _ gy)
end
end KL
namespace KL
open PySem L2
section
variable {P:Program} {w:World} {K:W.Frag} {mg:Str->Option Value} {base:Heap}
theorem Fw.free {d b a:Addr} {H H':Hp} (f:Fw d b H H') (h:H' a=none):H a=none:=by
 have hd:=f.dk.ne h
 cases e:H a with
 | none=>rfl
 | some o=>rw[f.kp _ _ e hd.1 hd.2]at h;cases h
structure tU (rs:List RX):Prop where
 wh:RX.Whole rs
 ok:∀r∈rs,r.Ok
 rk:∀r∈rs,r.rank<=2
 len:rs.length<=13
 nx:∀n t,.next n t∈rs->n<=900006/\t<500000000000
structure Hd1 (n t:Nat) (zs:List Str) (rs:List RX):Prop where
 wh:RX.Whole rs
 ok:∀r∈rs,r.Ok
 nx:∀n' t',.next n' t'∈rs->n'=n/\t'=t
 one:.next n t∈rs
 rk:∀r∈rs,r.rank<=1
 hs:∀z m,.has z m∈rs->z∈zs
theorem aH {α:Type} {xs:List α} {x y:α} (h:y∈xs++[x]):y∈xs∨y=x:=by
 rcases Zma.mp h with h | h
 ·exact .inl h
 ·exact .inr (Zms.mp h)
theorem Hd1.skip {n t:Nat} {zs:List Str} {rs:List RX} (h:Hd1 n t zs rs) (z:Str):Hd1 n t (zs++[z]) rs:=⟨h.wh,h.ok,h.nx,h.one,h.rk,fun y m q=>List.mem_append_left _ (h.hs y m q)⟩
theorem Hd1.step {n t:Nat} {zs:List Str} {rs:List RX} (h:Hd1 n t zs rs) {z:Str} {m:Nat} (hz:∀y∈zs,y.cps.toList<z.cps.toList) (hn:fU z) (h1:1<=m) (h2:m<=1000000000000):Hd1 n t (zs++[z]) (rs++[.has z m]):=by
 refine⟨h.wh.snoc ⟨h.rk,⟨n,t,h.one⟩,fun z' m' q=>hz z' (h.hs _ _ q)⟩,fun r hr=>?_,fun n' t' hr=>?_,List.mem_append_left _ h.one,fun r hr=>?_,fun z' m' hr=>?_⟩
 ·rcases aH hr with hr | rfl
  ·exact h.ok r hr
  ·exact⟨hn,h1,h2⟩
 ·rcases aH hr with hr | hr
  ·exact h.nx _ _ hr
  ·cases hr
 ·rcases aH hr with hr | rfl
  ·exact h.rk r hr
  ·exact aV _
 ·rcases aH hr with hr | hr
  ·exact List.mem_append_left _ (h.hs _ _ hr)
  ·cases hr;exact List.mem_append_right _ iM
structure Hd2 (n t last:Nat) (rs:List RX):Prop where
 wh:RX.Whole rs
 ok:∀r∈rs,r.Ok
 nx:∀n' t',.next n' t'∈rs->n'=n/\t'=t
 one:.next n t∈rs
 rk:∀r∈rs,r.rank<=2
 kp:∀n' t' p k x y,.kept n' t' p k x y∈rs->n'<=last
theorem Hd2.more {n t last last':Nat} {rs:List RX} (h:Hd2 n t last rs) (hl:last<=last'):Hd2 n t last' rs:=⟨h.wh,h.ok,h.nx,h.one,h.rk,fun n' t' p k x y q=>eK (h.kp n' t' p k x y q) hl⟩
theorem Hd2.step {n t last m u:Nat} {rs:List RX} (h:Hd2 n t last rs) {p k:Str} {x:Dd} {y:An} (hm:last<m) (hmn:m<n) (hn:n<=900006) (hu:u<=t) (ht:t<=1000000000000) (hp:fU p) (hk:uX k) (hx:x.Ok) (hy:An.Of x y):Hd2 n t m (rs++[.kept m u p k x y]):=by
 refine⟨h.wh.snoc ⟨h.rk,⟨n,t,h.one,hmn,hu⟩,fun n' t' p' k' d' y' q=>kI (h.kp _ _ _ _ _ _ q) hm,hy⟩,fun r hr=>?_,fun n' t' hr=>?_,List.mem_append_left _ h.one,fun r hr=>?_,fun n' t' p' k' x' y' hr=>?_⟩
 ·rcases aH hr with hr | rfl
  ·exact h.ok r hr
  ·exact⟨Zo,Zo,Zo,hp,hk,hx,hy⟩
 ·rcases aH hr with hr | hr
  ·exact h.nx _ _ hr
  ·cases hr
 ·rcases aH hr with hr | rfl
  ·exact h.rk r hr
  ·exact aV _
 ·rcases aH hr with hr | hr
  ·exact Nat.le_of_lt (kI (h.kp _ _ _ _ _ _ hr) hm)
  ·cases hr;exact aV _
theorem Vp {zs:List Str} (hs:zs.Pairwise fun a b=>a.cps.toList<=b.cps.toList) (hn:zs.Nodup) {i:Nat} {z:Str} (h:zs[i]?=some z):∀y∈zs.take i,y.cps.toList<z.cps.toList:=by
 intro y hy;obtain⟨hi,ei⟩:=Zgs.mp h
 obtain⟨j,hj,ej⟩:=List.getElem_of_mem hy
 rw[nQ]at hj;rw[List.getElem_take]at ej;have h1:=(List.pairwise_iff_getElem.mp hs) j i Zo hi Zo
 have h2:=(List.pairwise_iff_getElem.mp hn) j i Zo hi Zo
 rw[ej,ei]at h1 h2;rcases List.le_iff_lt_or_eq.mp h1 with h3 | h3
 ·exact h3
 ·exact absurd (by rw[lG y,lG z,h3]) h2
def oH:Sp:=fun vs H Q _=>∃(d b lm:Addr) (M:List Addr),vs=[.ref d,.ref lm]/\Dk H d b/\MenusAt H lm M/\d∉M/\b∉M ∧
 ∀(ra:Addr) (rs:List RX) (as:List Addr) (H':Hp),H ra=none->RxsAt H' ra rs as->tU rs->Fw d b H H'->Q (.ref ra) H'
theorem Mn (T:Txt K mg) (cLdraw:aG P w K mg base 1 "_law_draw" ["_law_deck_here","_law_many"] bK) (cLend:aG P w K mg base 2 "_law_end" ["_law_deck_here","_law_many"] bK)
  (cLkept:aG P w K mg base 4 "_law_kept" ["_law_deck_here","_law_menus_here","_law_number","_law_turn"] zH)
  (D:DefAt K mg "_law_head" iE ["_law_deck_here","_law_menus_here"]):aG P w K mg base 5 "_law_head" ["_law_deck_here","_law_menus_here"] oH:=by
 refine D.go cB (fun vs H Q E h=>?_) (fun f cdv A outer s H vs Q E hr h=>?_)
 ·obtain⟨d,b,lm,M,rfl,_⟩:=h;rfl
 ·obtain⟨d,b,lm,M,rfl,dk,hM,hd,hb,q⟩:=h
  have hLdraw:Room 1 _:=hr.mono Zd
  have hLend:Room 2 _:=hr.mono Zd
  have hLkept:Room 4 _:=hr.mono Zd
  refine⟨_,(R.ad (R.ah (i:=2) cB.nd (R.ix (R.aq (K:=K)) (R.au (R.U (R.op R.ap R.ab (R.fn cLdraw hLdraw rfl (R.U (R.v 0) (R.U R.ab R.ac)))) (R.U (R.op R.ap R.ab (R.fn cLdraw hLdraw rfl (R.U (R.v 0) (R.U R.ab R.ac)))) R.ac))) (R.fn cLdraw hLdraw rfl (R.U (R.v 0) (R.U R.ab R.ac))))) (R.ad (R.ah (i:=3) cB.nd (R.fn cLend hLend rfl (R.U (R.v 0) (R.U (R.op R.de R.ab (R.op R.bi R.ab R.ab)) R.ac)))) (R.ad (R.ah (i:=4) cB.nd (R.au (R.U (R.ai (R.U R.ae (R.U (R.v 2) (R.U (R.v 3) R.ac)))) R.ac))) (R.ad (R.bh PassesOwn.never rfl (R.aw (K:=K) (R.ax (R.gs (K:=K)) rfl T.b_sorted gM (R.U (R.ix (R.aq (K:=K)) (R.v 1) R.ab) R.ac))) (R.gn (i:=5) cB.nd) (R.ag (R.ar (R.al R.gt (R.fn cLdraw hLdraw rfl (R.U (R.v 0) (R.U R.ab R.ac))) R.ab) (R.ag (R.bc (R.bb (K:=K) PySem.F.plainAttrs_list PySem.F.slot_list_append PySem.F.type_list_append R.bn (R.v 4) (R.U (R.ai (R.U R.ae (R.U (R.v 5) (R.U (R.op R.ap R.ab (R.fn cLend hLend rfl (R.U (R.v 0) (R.U (R.op R.bi R.ab R.ab) R.ac)))) R.ac)))) R.ac)))) R.av))) (R.ad (R.ah (i:=6) cB.nd R.ab) (R.ad (R.bh PassesOwn.never rfl (R.cp rfl T.b_range (R.U (R.fn cLdraw hLdraw rfl (R.U (R.v 0) (R.U R.ab R.ac))) R.ac)) (R.gn (i:=7) cB.nd) (R.ad (R.ah (i:=6) cB.nd (R.op R.ap (R.op R.ap (R.v 6) R.ab) (R.ix (R.aq (K:=K)) (R.au (R.U R.ab (R.U R.ab (R.U (R.fn cLdraw hLdraw rfl (R.U (R.v 0) (R.U R.ab R.ac))) R.ac)))) (R.fn cLdraw hLdraw rfl (R.U (R.v 0) (R.U R.ab R.ac)))))) (R.ag (R.ar (R.al R.lt (R.v 6) (R.v 2)) (R.ag (R.bc (R.bb (K:=K) PySem.F.plainAttrs_list PySem.F.slot_list_append PySem.F.type_list_append R.bn (R.v 4) (R.U (R.fn cLkept hLkept rfl (R.U (R.v 0) (R.U (R.v 1) (R.U (R.v 6) (R.U (R.fn cLend hLend rfl (R.U (R.v 0) (R.U (R.op R.ap (R.v 3) R.ab) R.ac))) R.ac))))) R.ac)))) R.av)))) (R.ag (R.ao (R.v 4))))))))),?_⟩
  refine bE (fun σ' H'=>∃n:Nat,σ'=[some (.ref d),some (.ref lm),some (.int (n:Int)),none,none,none,none,none]/\1<=n/\n<=900006/\Fw d b H H') (fun nx hnx=>?_) ?_
  ·refine⟨d,b,12,rfl,dk,Zd,Zd,fun r1 H1 a0 a1 D1 k1=>⟨d,b,900000,rfl,D1,Zd,Zd,fun r2 H2 b0 b1 D2 k2=>⟨dE rfl,fun p hp=>⟨d,b,2,rfl,D2.new hp,Zd,Zd,fun r3 H3 c0 c1 D3 k3=>?_⟩⟩⟩⟩
   have hpd:=D2.ne hp
   have gp:=k3 p _ aA hpd.1 hpd.2
   have ff:=((((Fw.refl dk).draw D1 k1).draw D2 k2).new hp).draw D3 k3
   rcases(by omega:r3=0∨r3=1) with rfl | rfl
   ·refine⟨_,SqL.of gp,_,rfl,hnx _ _ ⟨(1+r1).toNat,?_,Zo,Zo,ff⟩⟩
    rw[Int.toNat_of_nonneg Zo]
    rfl
   ·refine⟨_,SqL.of gp,_,rfl,hnx _ _ ⟨(7+r2).toNat,?_,Zo,Zo,ff⟩⟩
    rw[Int.toNat_of_nonneg Zo]
    rfl
  ·rintro σ' H1 ⟨n,rfl,hn1,hn2,f1⟩
   refine⟨⟨Zd,Zd,Zd⟩,.inl ⟨Zd,Zd⟩,d,b,500000000000,rfl,f1.dk,Zd,Zd,fun t H2 t0 t1 D2 k2=>?_⟩
   obtain⟨t,rfl⟩:=fM t0
   have f2:=f1.draw D2 k2
   dsimp only [aJ];refine⟨aP rfl,fun a1 H3 s3 g3=>⟨dE rfl,fun ra hra=>?_⟩⟩
   have f3:=f2.same s3
   have fra:=f3.free hra
   have f4:=f3.new (o:=.lst [.ref a1]) hra
   have R4:RxsAt (aI H3 ra (.lst [.ref a1])) ra [.next n t] [a1]:=⟨aA,.cons (aL g3 hra) .nil⟩
   dsimp only [aJ];generalize aI H3 ra (.lst [.ref a1])=H4 at f4 R4;have hM4:=f4.menus hd hb hM
   have hM':=hM4
   obtain⟨a0,a1',a2,a3,ws,us,ps,ks,rfl,h0,h1,h2,h3,h4,mw,mu,⟨p1,p6,pn⟩,k1,k6,kn⟩:=hM4.ex
   refine bE (fun σ' H'=>∃(rs:List RX) (as:List Addr) (o5:Option V),σ'=[some (.ref d),some (.ref lm),some (.int (n:Int)),some (.int (t:Int)),some (.ref ra),o5,none,none]/\RxsAt H' ra rs as/\Fw d b H H'/\rs.length<=7/\Hd1 n t (gZ ws) rs) (fun nx hnx=>?_) ?_
   ·refine⟨_,SqL.of h0,_,rfl,ws,.inl (SqL.of h1),by have:=mw.six;omega,fun ls hls=>⟨ls,rfl,⟨_,SqL.of aA⟩,?_⟩⟩
    have hlr:ls≠ra:=(aF R4.lst hls).symm
    have f5:=f4.new (o:=.lst ((gZ ws).map V.str)) hls
    have R5:=R4.same (aD (o:=.lst ((gZ ws).map V.str)) hls)
    have hld:=f4.dk.ne hls
    have w6:=mw.six
    have fls:=f4.free hls
    refine cC (aR K ls ((gZ ws).map V.str)) (fun i σ' H'=>∃(rs:List RX) (as:List Addr) (o5:Option V),σ'=[some (.ref d),some (.ref lm),some (.int (n:Int)),some (.int (t:Int)),some (.ref ra),o5,none,none]/\RxsAt H' ra rs as/\Fw d b H H'/\H' ls=some (.lst ((gZ ws).map V.str))/\rs.length<=1+i/\Hd1 n t ((gZ ws).take i) rs) (fun i σ' H' ⟨_,_,_,_,_,_,e,_⟩=>SqL.of e)
     ⟨[.next n t],[a1],_,rfl,R5,f5,aA,aV _,?_⟩ ?_ ?_
    ·refine⟨RX.Whole.snoc .nil rfl,fun r hr=>?_,fun n' t' hr=>?_,iM,fun r hr=>?_,fun z m hr=>?_⟩
     ·rw[Zms.mp hr];exact⟨hn1,Zo,Zo⟩
     ·cases Zms.mp hr;exact⟨rfl,rfl⟩
     ·rw[Zms.mp hr];exact Nat.zero_le _
     ·cases Zms.mp hr
    ·rintro i x σ' H6 hx ⟨rs,as,o5,rfl,R6,f6,g6,l6,hd6⟩
     rw[dR]at hx;cases hz:(gZ ws)[i]? with
     | none=>rw[hz]at hx;cases hx
     | some z=>
      rw[hz]at hx;cases hx
      have hi:i<(gZ ws).length:=(Zgs.mp hz).1
      rw[hJ]at hi;have hzm:z∈ws:=(eQ ws).mem_iff.mp (jM hz)
      have hrise:=Vp (kN ws) ((eQ ws).nodup_iff.mpr mw.of.nd) hz
      have etk:(gZ ws).take (i+1)=(gZ ws).take i++[z]:=by rw[List.take_add_one,hz];rfl
      dsimp only [aJ];refine⟨d,b,3,rfl,f6.dk,Zd,Zd,fun r H7 r0 r1 D7 k7=>?_⟩
      have f7:=f6.draw D7 k7
      have F7:=(Fw.refl f6.dk).draw D7 k7
      have hrd:=f6.d0.ne fra
      have R7:=R6.keep F7.tk (F7.get R6.lst hrd.1 hrd.2)
      have g7:=F7.get g6 hld.1 hld.2
      refine bP (fun _=>?_) (fun _=>?_)
      ·refine⟨.inl ⟨rfl,_,SqL.of R7.lst⟩,⟨Zd,Zd,Zd⟩,d,b,1000000000000,rfl,D7,Zd,Zd,fun m H8 m0 m1 D8 k8=>⟨aP rfl,fun ta H9 s9 g9=>?_⟩⟩
       obtain⟨m,rfl⟩:=fM m0
       have f8:=f7.draw D8 k8
       have F8:=(Fw.refl D7).draw D8 k8
       have f9:=f8.same s9
       have R9:=(R7.keep F8.tk (F8.get R7.lst hrd.1 hrd.2)).same s9
       have g9':=s9 _ _ (F8.get g7 hld.1 hld.2)
       have lr:=R9.len
       refine⟨ra,_,_,rfl,rfl,R9.lst,by rw[aQ];exact kI (m:=1000) Zo Zd,?_⟩
       refine⟨rs++[.has z (1+m)],as++[ta],_,rfl,R9.snoc (dL R9.lst) ?_ aA,f9.put fra,by rw[aE hlr];exact g9',by simp;omega,?_⟩
       ·have:=dL R9.lst (ys:=as.map V.ref++[.ref ta]) _ _ g9
        show _=some (HO.tup [V.str "has",.str z,.int ((1+m:Nat):Int)])
        rw[this,show((1+m:Nat):Int)=1+(m:Int) by omega]
       ·rw[etk];exact hd6.step hrise (mw.of.of z hzm) Zo Zo
      ·refine⟨rs,as,_,rfl,R7,f7,g7,Zo,?_⟩
       rw[etk];exact hd6.skip z
    ·rintro σ' H6 ⟨rs,as,o5,rfl,R6,f6,g6,l6,hd6⟩
     refine hnx _ _ ⟨rs,as,o5,rfl,R6,f6,?_,?_⟩
     ·rw[aQ,hJ]at l6;omega
     ·rw[aQ,gH (aV _)]at hd6;exact hd6
   ·rintro σ' H5 ⟨rs,as,o5,rfl,R5,f5,l5,hd5⟩
    have hrd:=f5.d0.ne fra
    refine⟨d,b,7,rfl,f5.dk,Zd,Zd,fun r7 H6 r0 r1 D6 k6=>⟨r7,rfl,Zo,Zo,?_⟩⟩
    have F6:=(Fw.refl f5.dk).draw D6 k6
    have f6:=f5.draw D6 k6
    have R6:=R5.keep F6.tk (F6.get R5.lst hrd.1 hrd.2)
    refine cC (cT 0 r7.toNat) (fun i σ' H'=>∃(rs:List RX) (as:List Addr) (last:Nat) (o7:Option V),σ'=[some (.ref d),some (.ref lm),some (.int (n:Int)),some (.int (t:Int)),some (.ref ra),o5,some (.int (last:Int)),o7]/\RxsAt H' ra rs as/\Fw d b H H'/\rs.length<=7+i/\last<=9*i/\Hd2 n t last rs) (fun _ _ _ _=>trivial)
     ⟨rs,as,0,_,rfl,R6,f6,Zo,aV _,⟨hd5.wh,hd5.ok,hd5.nx,hd5.one,fun r hr=>Nat.le_succ_of_le (hd5.rk r hr),fun n' t' p k x y q=>absurd (hd5.rk _ q) (by show ¬ (2<=1);decide)⟩⟩ ?_ ?_
    ·rintro i x σ' H7 hx ⟨rs,as,last,o7,rfl,R7,f7,l7,la7,hd7⟩
     obtain⟨rfl,hi⟩:=kO hx
     dsimp only [aJ];refine bE (fun σ' H'=>∃(m:Nat),σ'=[some (.ref d),some (.ref lm),some (.int (n:Int)),some (.int (t:Int)),some (.ref ra),o5,some (.int (m:Int)),some (.int (i:Int))]/\last<m/\m<=last+9/\RxsAt H' ra rs as/\Fw d b H H') (fun nx' hnx'=>?_) ?_
     ·refine⟨d,b,9,rfl,f7.dk,Zd,Zd,fun r8 H8 x0 x1 D8 k8=>⟨dE rfl,fun p hp=>⟨d,b,3,rfl,D8.new hp,Zd,Zd,fun r9 H9 y0 y1 D9 k9=>?_⟩⟩⟩
      obtain⟨r8,rfl⟩:=fM x0
      have hpd:=D8.ne hp
      have gp:=k9 p _ aA hpd.1 hpd.2
      have F9:=(((Fw.refl f7.dk).draw D8 k8).new hp).draw D9 k9
      have R9:=R7.keep F9.tk (F9.get R7.lst hrd.1 hrd.2)
      have f9:=f7.trans F9
      rcases(by omega:r9=0∨r9=1∨r9=2) with rfl | rfl | rfl
      ·refine⟨_,SqL.of gp,_,rfl,hnx' _ _ ⟨last+1,?_,Zo,Zo,R9,f9⟩⟩
       rw[show((last+1:Nat):Int)=(last:Int)+1+0 by omega];rfl
      ·refine⟨_,SqL.of gp,_,rfl,hnx' _ _ ⟨last+1,?_,Zo,Zo,R9,f9⟩⟩
       rw[show((last+1:Nat):Int)=(last:Int)+1+0 by omega];rfl
      ·refine⟨_,SqL.of gp,_,rfl,hnx' _ _ ⟨last+1+r8,?_,Zo,Zo,R9,f9⟩⟩
       rw[show((last+1+r8:Nat):Int)=(last:Int)+1+(r8:Int) by omega];rfl
     ·rintro σ' H8 ⟨m,rfl,m1,m2,R8,f8⟩
      refine bP (fun hlt=>?_) (fun _=>?_)
      ·have hmn:m<n:=by have:=of_decide_eq_true hlt;omega
       refine⟨.inl ⟨rfl,_,SqL.of R8.lst⟩,d,b,(t:Int)+1,rfl,f8.dk,Zo,Zo,fun u H9 u0 u1 D9 k9=>?_⟩
       obtain⟨u,rfl⟩:=fM u0
       have F9:=(Fw.refl f8.dk).draw D9 k9
       have f9:=f8.trans F9
       have R9:=R8.keep F9.tk (F9.get R8.lst hrd.1 hrd.2)
       refine⟨d,b,lm,_,m,u,rfl,D9,f9.menus hd hb hM,hd,hb,fun ta p k x y Ha hp hk hxo hy at_ fa=>?_⟩
       have Ra:=R9.keep fa.tk (fa.get R9.lst hrd.1 hrd.2)
       have lr:=Ra.len
       refine⟨ra,_,_,rfl,rfl,Ra.lst,by rw[aQ];exact kI (m:=1000) Zo Zd,?_⟩
       refine⟨rs++[.kept m u p k x y],as++[ta],m,_,rfl,Ra.snoc (dL Ra.lst) (at_.tk (dL Ra.lst)) aA,(f9.trans fa).put fra,by simp;omega,Zo,?_⟩
       exact hd7.step m1 hmn hn2 Zo Zo hp hk hxo hy
      ·exact⟨rs,as,m,_,rfl,R8,f8,Zo,Zo,hd7.more (Nat.le_of_lt m1)⟩
    ·rintro σ' H7 ⟨rs,as,last,o7,rfl,R7,f7,l7,la7,hd7⟩
     refine q ra rs as H7 fra R7 ⟨hd7.wh,hd7.ok,hd7.rk,?_,fun n' t' hr=>?_⟩ f7
     ·rw[dB]at l7;omega
     ·obtain⟨rfl,rfl⟩:=hd7.nx _ _ hr
      exact⟨Zo,Zo⟩
end
end KL
namespace KL
open PySem L2
section
variable {P:Program} {w:World} {K:W.Frag} {mg:Str->Option Value} {base:Heap}
theorem xP:("abcdefghijklmnopqrstuvwxyz":Str)=tx LET:=by rw[lG ("abcdefghijklmnopqrstuvwxyz":Str),tI]
theorem Mo:("abcdefghijklmnopqrstuvwxyz":Str)++("0123456789":Str)=tx KLET:=by rw[lG ("abcdefghijklmnopqrstuvwxyz":Str),tI,lG ("0123456789":Str),Ri,tD];rfl
theorem jT {H:Hp} {a l:Addr} {ws:List Str} {xs:List Addr} (h1:H a=some (.lst (ws.map V.str))) (h2:1<=ws.length) (h3:H l=some (.lst (xs.map V.ref))):a≠l:=by
 intro e;rw[e,h3]at h1;cases ws with
 | nil=>cases h2
 | cons w ws=>
  cases xs with
  | nil=>cases h1
  | cons x xs=>cases h1
theorem Sf:LET.Nodup:=by decide
theorem Vq:KLET.Nodup:=by decide
def vJ:Sp:=fun vs H Q _=>∃(d b:Addr),vs=[.ref d]/\Dk H d b/\∀(lm:Addr) (M:List Addr) (H':Hp),MenusAt H' lm M->d∉M->b∉M->Fw d b H H'->Q (.ref lm) H'
theorem Mp {d a0 a1 a2 a3 a4:Addr} (h0:a0≠d) (h1:a1≠d) (h2:a2≠d) (h3:a3≠d) (h4:a4≠d):d∉[a0,a1,a2,a3,a4]:=by
 intro h;simp only [List.mem_cons,List.not_mem_nil,or_false]at h
 rcases h with h | h | h | h | h
 ·exact h0 h.symm
 ·exact h1 h.symm
 ·exact h2 h.symm
 ·exact h3 h.symm
 ·exact h4 h.symm
theorem WordsOf.nm {ws:List Str} (h:WordsOf LET 8 ws):∀z∈ws,fU z:=fun z hz=>h.of z hz
theorem WordsOf.ky {ws:List Str} (h:WordsOf KLET 12 ws):∀z∈ws,uX z:=fun z hz=>h.of z hz
theorem Gy (T:Txt K mg) (cLdraw:aG P w K mg base 1 "_law_draw" ["_law_deck_here","_law_many"] bK) (cLunlike:aG P w K mg base 2 "_law_unlike" ["_law_deck_here","_law_signs","_law_longest","_law_many"] rP)
  (D:DefAt K mg "_law_menus" cO ["_law_deck_here"]):aG P w K mg base 3 "_law_menus" ["_law_deck_here"] vJ:=by
 refine D.go cE (fun vs H Q E h=>?_) (fun f cdv A outer s H vs Q E hr h=>?_)
 ·obtain⟨d,b,rfl,_⟩:=h;rfl
 ·obtain⟨d,b,rfl,dk,q⟩:=h
  have hLdraw:Room 1 _:=hr.mono Zd
  have hLunlike:Room 2 _:=hr.mono Zd
  refine⟨_,(R.ad (R.ah (i:=1) cE.nd R.ae) (R.ad (R.ah (i:=2) cE.nd (R.au (R.U (R.fn cLunlike hLunlike rfl (R.U (R.v 0) (R.U (R.v 1) (R.U R.ab (R.U (R.op R.ap R.ab (R.fn cLdraw hLdraw rfl (R.U (R.v 0) (R.U R.ab R.ac)))) R.ac))))) R.ac))) (R.ad (R.bc (R.bb (K:=K) PySem.F.plainAttrs_list PySem.F.slot_list_append PySem.F.type_list_append R.bn (R.v 2) (R.U (R.fn cLunlike hLunlike rfl (R.U (R.v 0) (R.U (R.v 1) (R.U R.ab (R.U (R.op R.ap R.ab (R.fn cLdraw hLdraw rfl (R.U (R.v 0) (R.U R.ab R.ac)))) R.ac))))) R.ac))) (R.ad (R.bc (R.bb (K:=K) PySem.F.plainAttrs_list PySem.F.slot_list_append PySem.F.type_list_append R.bn (R.v 2) (R.U (R.fn cLunlike hLunlike rfl (R.U (R.v 0) (R.U (R.v 1) (R.U R.ab (R.U (R.op R.ap R.ab (R.fn cLdraw hLdraw rfl (R.U (R.v 0) (R.U R.ab R.ac)))) R.ac))))) R.ac))) (R.ad (R.bc (R.bb (K:=K) PySem.F.plainAttrs_list PySem.F.slot_list_append PySem.F.type_list_append R.bn (R.v 2) (R.U (R.fn cLunlike hLunlike rfl (R.U (R.v 0) (R.U (R.op R.fj (R.v 1) R.ae) (R.U R.ab (R.U (R.op R.ap R.ab (R.fn cLdraw hLdraw rfl (R.U (R.v 0) (R.U R.ab R.ac)))) R.ac))))) R.ac))) (R.ad (R.ar (R.al R.eq (R.fn cLdraw hLdraw rfl (R.U (R.v 0) (R.U R.ab R.ac))) R.ab) (R.ad (R.ah (i:=3) cE.nd (R.bb (K:=K) PySem.F.plainAttrs_str PySem.F.slot_str_join PySem.F.type_str_join (R.ik (K:=K)) R.ae (R.U (R.ay rfl (js:=[none,some 0,some 1]) (N:=["_law_k","_law_deck_here","_law_letters"]) (CompScope.by (aB cO) ["_law_deck_here","_law_letters","_law_menus_here","_law_word","_law_many","_law_askers"] rfl rfl Zk) (aO rfl) (R.cp rfl T.b_range (R.U R.ab R.ac)) (fun C s₂ H₂ fp=>⟨(R.gn (i:=0) (show(["_law_k","_law_deck_here","_law_letters"]:List Str).Nodup by decide +kernel)),R.bt,(R.ix R.iS (R.v 2) (R.fn cLdraw hLdraw rfl (R.U (R.v 1) (R.U R.ab R.ac))))⟩)) R.ac))) (R.ad (R.ah (i:=4) cE.nd (R.op R.ap R.ab (R.fn cLdraw hLdraw rfl (R.U (R.v 0) (R.U R.ab R.ac))))) (R.ad (R.cx (i:=5) cE.nd rfl (Or.inl rfl) rfl (js:=[none,some 3]) (N:=["_law_k","_law_word"]) (CompScope.by (aB cO) ["_law_deck_here","_law_letters","_law_menus_here","_law_word","_law_many","_law_askers"] rfl rfl Zk) (aO rfl) (R.cp rfl T.b_range (R.U (R.v 4) R.ac)) (fun C s₂ H₂ fp=>⟨(R.gn (i:=0) (show(["_law_k","_law_word"]:List Str).Nodup by decide +kernel)),R.bt,(R.sl R.sS (R.v 1) R.pn (R.ps (R.op R.ap (R.v 0) R.ab)))⟩) rfl) (R.ag (R.ah (i:=2) cE.nd (R.op R.bd (R.sl (R.du (K:=K)) (R.v 2) R.pn (R.ps R.ab)) (R.au (R.U (R.v 5) (R.U (R.ay rfl (js:=[none,some 3]) (N:=["_law_k","_law_word"]) (CompScope.by (aB cO) ["_law_deck_here","_law_letters","_law_menus_here","_law_word","_law_many","_law_askers"] rfl rfl Zk) (aO rfl) (R.cp rfl T.b_range (R.U (R.v 4) R.ac)) (fun C s₂ H₂ fp=>⟨(R.gn (i:=0) (show(["_law_k","_law_word"]:List Str).Nodup by decide +kernel)),R.bt,(R.sl R.sS (R.v 1) (R.ps (R.op R.ap (R.v 0) R.ab)) R.pn)⟩)) R.ac))))))))) R.av) (R.ag (R.ao (R.v 2))))))))),?_⟩
  refine⟨d,b,5,rfl,dk,Zd,Zd,fun r1 H1 x0 x1 D1 e1=>?_⟩
  obtain⟨r1,rfl⟩:=fM x0
  refine⟨d,b,LET,8,2+r1,by rw[<- xP,show((2+r1:Nat):Int)=2+(r1:Int) by omega];rfl,D1,Zo,Zo,Zd,Sf,by show 2+r1<=26;omega,Zd,fun a0 ws H2 hw lw g0 n0 m0 D2 e2=>⟨dE rfl,fun lm hlm=>?_⟩⟩
  have f2:=((Fw.refl dk).draw D1 e1).draw D2 e2
  have nl:=D2.ne hlm
  have f3:=f2.new (o:=.lst [.ref a0]) hlm
  have gl:(aI H2 lm (.lst [.ref a0])) lm=some (.lst ([a0].map V.ref)):=aA
  replace g0:=aL (u:=.lst [.ref a0]) g0 hlm
  dsimp only [aJ];generalize aI H2 lm (.lst [.ref a0])=H3 at f3 gl g0;refine⟨.inl ⟨rfl,_,SqL.of gl⟩,d,b,5,rfl,f3.dk,Zd,Zd,fun r2 H4 x0 x1 D4 e4=>?_⟩
  obtain⟨r2,rfl⟩:=fM x0
  refine⟨d,b,LET,8,2+r2,by rw[<- xP,show((2+r2:Nat):Int)=2+(r2:Int) by omega];rfl,D4,Zo,Zo,Zd,Sf,by show 2+r2<=26;omega,Zd,fun a1 us H5 hu lu g1 n1 m1 D5 e5=>?_⟩
  have f5:=(f3.draw D4 e4).draw D5 e5
  have F5:=((Fw.refl f3.dk).draw D4 e4).draw D5 e5
  replace gl:=F5.get gl nl.1 nl.2
  replace g0:=F5.get g0 n0 m0
  have w01:=jT g0 Zo gl
  have w11:=jT g1 Zo gl
  refine⟨lm,_,_,rfl,rfl,gl,kI (m:=100) (Nat.le_of_ble_eq_true rfl) Zd,?_⟩
  have f6:=f5.put (f2.free hlm) (o:=.lst ([a0].map V.ref++[.ref a1]))
  replace gl:(aI H5 lm (.lst ([a0].map V.ref++[.ref a1]))) lm=some (.lst ([a0,a1].map V.ref)):=aA
  replace g0:(aI H5 lm (.lst ([a0].map V.ref++[.ref a1]))) a0=_:=(aE w01).trans g0
  replace g1:(aI H5 lm (.lst ([a0].map V.ref++[.ref a1]))) a1=_:=(aE w11).trans g1
  generalize aI H5 lm (.lst ([a0].map V.ref++[.ref a1]))=H6 at f6 gl g0 g1;refine⟨.inl ⟨rfl,_,SqL.of gl⟩,d,b,6,rfl,f6.dk,Zd,Zd,fun r3 H7 x0 x1 D7 e7=>?_⟩
  obtain⟨r3,rfl⟩:=fM x0
  refine⟨d,b,LET,8,1+r3,by rw[<- xP,show((1+r3:Nat):Int)=1+(r3:Int) by omega];rfl,D7,Zo,Zo,Zd,Sf,by show 1+r3<=26;omega,Zd,fun a2 ps H8 hp lp g2 n2 m2 D8 e8=>?_⟩
  have f8:=(f6.draw D7 e7).draw D8 e8
  have F8:=((Fw.refl f6.dk).draw D7 e7).draw D8 e8
  replace gl:=F8.get gl nl.1 nl.2
  replace g0:=F8.get g0 n0 m0
  replace g1:=F8.get g1 n1 m1
  have w21:=jT g2 Zo gl
  refine⟨lm,_,_,rfl,rfl,gl,kI (m:=100) (Nat.le_of_ble_eq_true rfl) Zd,?_⟩
  have f9:=f8.put (f2.free hlm) (o:=.lst ([a0,a1].map V.ref++[.ref a2]))
  replace gl:(aI H8 lm (.lst ([a0,a1].map V.ref++[.ref a2]))) lm=some (.lst ([a0,a1,a2].map V.ref)):=aA
  replace g0:(aI H8 lm (.lst ([a0,a1].map V.ref++[.ref a2]))) a0=_:=(aE w01).trans g0
  replace g1:(aI H8 lm (.lst ([a0,a1].map V.ref++[.ref a2]))) a1=_:=(aE w11).trans g1
  replace g2:(aI H8 lm (.lst ([a0,a1].map V.ref++[.ref a2]))) a2=_:=(aE w21).trans g2
  generalize aI H8 lm (.lst ([a0,a1].map V.ref++[.ref a2]))=H9 at f9 gl g0 g1 g2;refine⟨.inl ⟨rfl,_,SqL.of gl⟩,dJ Zk,d,b,6,rfl,f9.dk,Zd,Zd,fun r4 Ha x0 x1 Da ea=>?_⟩
  obtain⟨r4,rfl⟩:=fM x0
  refine⟨d,b,KLET,12,1+r4,by rw[<- Mo,show((1+r4:Nat):Int)=1+(r4:Int) by omega];rfl,Da,Zo,Zo,Zd,Vq,by show 1+r4<=36;omega,Zd,fun a3 ks Hb hk lk g3 n3 m3 Db eb=>?_⟩
  have fb:=(f9.draw Da ea).draw Db eb
  have Fb:=((Fw.refl f9.dk).draw Da ea).draw Db eb
  replace gl:=Fb.get gl nl.1 nl.2
  replace g0:=Fb.get g0 n0 m0
  replace g1:=Fb.get g1 n1 m1
  replace g2:=Fb.get g2 n2 m2
  have w31:=jT g3 Zo gl
  refine⟨lm,_,_,rfl,rfl,gl,kI (m:=100) (Nat.le_of_ble_eq_true rfl) Zd,?_⟩
  have fc:=fb.put (f2.free hlm) (o:=.lst ([a0,a1,a2].map V.ref++[.ref a3]))
  replace gl:(aI Hb lm (.lst ([a0,a1,a2].map V.ref++[.ref a3]))) lm=some (.lst ([a0,a1,a2,a3].map V.ref)):=aA
  replace g0:(aI Hb lm (.lst ([a0,a1,a2].map V.ref++[.ref a3]))) a0=_:=(aE w01).trans g0
  replace g1:(aI Hb lm (.lst ([a0,a1,a2].map V.ref++[.ref a3]))) a1=_:=(aE w11).trans g1
  replace g2:(aI Hb lm (.lst ([a0,a1,a2].map V.ref++[.ref a3]))) a2=_:=(aE w21).trans g2
  replace g3:(aI Hb lm (.lst ([a0,a1,a2].map V.ref++[.ref a3]))) a3=_:=(aE w31).trans g3
  generalize aI Hb lm (.lst ([a0,a1,a2].map V.ref++[.ref a3]))=Hc at fc gl g0 g1 g2 g3;have mw:Menu ws:=⟨hw,Zo,Zo⟩
  have mu:Menu us:=⟨hu,Zo,Zo⟩
  have hM:MenusAt Hc lm [lm,a0,a1,a2,a3]:=⟨a0,a1,a2,a3,ws,us,ps,ks,rfl,gl,g0,g1,g2,g3,mw,mu,⟨Zo,Zo,hp.nm⟩,Zo,Zo,hk.ky⟩
  have od:=Mp nl.1 n0 n1 n2 n3
  have ob:=Mp nl.2 m0 m1 m2 m3
  dsimp only [oK];refine Ep (t:=wI _ _ _) (fun σ' H'=>∃(lm':Addr) (M:List Addr) (o3 o4 o5:Option V),σ'=[some (.ref d),some (.str ("abcdefghijklmnopqrstuvwxyz":Str)),some (.ref lm'),o3,o4,o5]/\MenusAt H' lm' M/\d∉M/\b∉M/\Fw d b H H') (fun nx hnx=>?_) ?_
  ·refine⟨d,b,4,rfl,fc.dk,Zd,Zd,fun r5 Hd x0 x1 Dd' ed=>?_⟩
   have fd:=fc.draw Dd' ed
   have Fd:=(Fw.refl fc.dk).draw Dd' ed
   refine bP (fun _=>?_) (fun _=>hnx _ _ ⟨lm,_,_,_,_,rfl,Fd.menus od ob hM,od,ob,fd⟩)
   replace gl:=Fd.get gl nl.1 nl.2
   replace g0:=Fd.get g0 n0 m0
   replace g1:=Fd.get g1 n1 m1
   refine Ep (t:=Af _ _) (fun σ' H'=>∃ts:List Nat,σ'=[some (.ref d),some (.str ("abcdefghijklmnopqrstuvwxyz":Str)),some (.ref lm),some (.str (tx ts)),none,none]/\ts.length=8/\(∀c∈ts,c∈LET)/\Fw d b Hd H') (fun nx' hnx'=>?_) ?_
   ·refine⟨rfl,8,rfl,Zd,Zd,?_⟩
    refine aS (cT 0 8) Zd (fun i ys H'=>Fw d b Hd H'/\∃ts:List Nat,ys=ts.map (fun c=>V.str (tx [c]))/\ts.length=i/\∀c∈ts,c∈LET) (fun i ys H' ⟨_,ts,e,e2,_⟩=>⟨trivial,by rw[e,aQ,e2];exact aV _⟩) ⟨.refl Dd',[],rfl,rfl,(fun _ h=>nomatch h)⟩ (fun i x ys H' hx ⟨fi,ts,e,e2,e3⟩=>?_) (fun ys H' ⟨fi,ts,e,e2,e3⟩=>?_)
    ·refine⟨d,b,26,rfl,fi.dk,Zd,Zd,fun r2 H'' r20 r21 Dj kpj=>⟨Zk,?_⟩⟩
     obtain⟨c,hc,hm⟩:=uS (xs:=("abcdefghijklmnopqrstuvwxyz":Str).cps.toList) r20 (by rw[tI];exact r21)
     rw[tI]at hm;refine⟨c,hc,fi.draw Dj kpj,ts++[c],by rw[e,cS];rfl,by rw[iK,e2];rfl,fun c' hc'=>?_⟩
     rcases Zma.mp hc' with h | h
     ·exact e3 c' h
     ·rw[Zms.mp h];exact hm
    ·intro p hp;have hts:ts.length=8:=by rw[e2];rfl
     refine⟨_,p,ts.map (fun c=>tx [c]),rfl,rfl,SqL.of (by rw[aA,e,List.map_map];rfl),?_,?_⟩
     ·rw[pC,aQ,tH,cI];simp;omega
     ·refine hnx' _ _ ⟨ts,?_,hts,e3,fi.new hp⟩
      rw[tH,pB];rfl
   ·rintro σ' He ⟨ts,rfl,hts,hlet,Fe⟩
    have hcl:(tx ts).cps.toList=ts:=by simp
    refine⟨d,b,5,rfl,Fe.dk,Zd,Zd,fun r6 Hf y0 y1 Df ef=>?_⟩
    obtain⟨r6,rfl⟩:=fM y0
    have Ff:=Fe.draw Df ef
    have em:(2+(r6:Int)).toNat=2+r6:=by omega
    dsimp only [aJ];refine⟨2+(r6:Int),rfl,Zo,Zo,?_⟩
    refine aS (cT 0 (2+(r6:Int)).toNat) (by rw[dB];omega) (fun i ys H'=>ys=((List.range i).map fun k=>tx (ts.take (k+1))).map V.str/\H'=Hf) (fun i ys H' ⟨e,_⟩=>⟨trivial,by rw[e];simp⟩) ⟨rfl,rfl⟩ (fun i x ys H' hx ⟨e,e2⟩=>?_) (fun ys H' ⟨e,e2⟩=>?_)
    ·subst e2;obtain⟨rfl,hi⟩:=kO hx
     refine⟨dJ (by rw[cI];omega),?_,rfl⟩
     rw[hcl,show((i:Nat):Int)+1=((i+1:Nat):Int) by omega,tG,e,List.range_succ,cS,cS]
     rfl
    ·subst e2;intro pa hpa;rw[dB,em]at e;have nad:=Ff.dk.ne hpa
     have Fg:=Ff.new (o:=.lst ys) hpa
     have gpa:(aI H' pa (.lst ys)) pa=some (.lst (((List.range (2+r6)).map fun k=>tx (ts.take (k+1))).map V.str)):=by rw[aA,e]
     dsimp only;generalize aI H' pa (.lst ys)=Hg at Fg gpa;have glg:=Fg.get gl nl.1 nl.2
     refine⟨_,SqL.of glg,fun p2 hp2=>?_⟩
     have np2:=Fg.dk.ne hp2
     have Fh:=Fg.new (o:=.lst (gL ([a0,a1,a2,a3].map V.ref) none (some 2))) hp2
     have gp2:(aI Hg p2 (.lst (gL ([a0,a1,a2,a3].map V.ref) none (some 2)))) p2=some (.lst [.ref a0,.ref a1]):=aA
     have gpa2:=aL (u:=.lst (gL ([a0,a1,a2,a3].map V.ref) none (some 2))) gpa hp2
     generalize aI Hg p2 (.lst (gL ([a0,a1,a2,a3].map V.ref) none (some 2)))=Hh at Fh gp2 gpa2;refine⟨2+(r6:Int),rfl,Zo,Zo,?_⟩
     refine aS (cT 0 (2+(r6:Int)).toNat) (by rw[dB];omega) (fun i ys H'=>ys=((List.range i).map fun k=>tx (ts.drop (k+1))).map V.str/\H'=Hh) (fun i ys H' ⟨e,_⟩=>⟨trivial,by rw[e];simp⟩) ⟨rfl,rfl⟩ (fun i x ys H' hx ⟨e,e2⟩=>?_) (fun ys2 H2' ⟨e',e2'⟩=>?_)
     ·subst e2;obtain⟨rfl,hi⟩:=kO hx
      refine⟨dJ (by rw[cI];omega),?_,rfl⟩
      rw[hcl,show((i:Nat):Int)+1=((i+1:Nat):Int) by omega,En,e,List.range_succ,cS,cS]
      rfl
     ·subst e2';intro pk hpk;rw[dB,em]at e';have nkd:=Fh.dk.ne hpk
      have Fi:=Fh.new (o:=.lst ys2) hpk
      have gpk:(aI H2' pk (.lst ys2)) pk=some (.lst (((List.range (2+r6)).map fun k=>tx (ts.drop (k+1))).map V.str)):=by rw[aA,e']
      replace gpa2:=aL (u:=.lst ys2) gpa2 hpk
      replace gp2:=aL (u:=.lst ys2) gp2 hpk
      generalize aI H2' pk (.lst ys2)=Hi at Fi gpk gpa2 gp2;refine⟨dE rfl,fun p3 hp3=>?_⟩
      have Fj:=Fi.new (o:=.lst [.ref pa,.ref pk]) hp3
      refine⟨_,_,aL gp2 hp3,aA,dE rfl,fun lm' hlm'=>?_⟩
      have nl':=Fj.dk.ne hlm'
      have Fk:=Fj.new (o:=.lst ([.ref a0,.ref a1]++[.ref pa,.ref pk])) hlm'
      refine hnx _ _ ⟨lm',[lm',a0,a1,pa,pk],_,_,_,rfl,⟨a0,a1,pa,pk,ws,us,_,_,rfl,aA,Fk.get g0 n0 m0,Fk.get g1 n1 m1,aL (aL gpa2 hp3) hlm',aL (aL gpk hp3) hlm',mw,mu,⟨by simp;omega,by simp;omega,fun z hz=>?_⟩,by simp;omega,by simp;omega,fun z hz=>?_⟩,Mp nl'.1 n0 n1 nad.1 nkd.1,Mp nl'.2 m0 m1 nad.2 nkd.2,fd.trans Fk⟩
      ·obtain⟨k,hk,rfl⟩:=Zmm.mp hz
       have hk':=List.mem_range.mp hk
       exact⟨by rw[cI,nQ,hts];omega,by rw[cI,nQ,hts];omega,fun c hc=>hlet c (List.mem_of_mem_take (by simpa using hc))⟩
      ·obtain⟨k,hk,rfl⟩:=Zmm.mp hz
       have hk':=List.mem_range.mp hk
       exact⟨by rw[cI,List.length_drop,hts];omega,by rw[cI,List.length_drop,hts];omega,fun c hc=>List.mem_append_left _ (hlet c (List.mem_of_mem_drop (by simpa using hc)))⟩
  ·rintro σ' Hd ⟨lm',M,o3,o4,o5,rfl,hM',hd',hb',fd⟩
   exact q lm' M Hd hM' hd' hb' fd
end
end KL
namespace KL
open PySem L2
section
variable {P:Program} {w:World} {K:W.Frag} {mg:Str->Option Value} {base:Heap}
def eE (f:Str->Nat) (z:Str) (v:Nat):Str->Nat:=fun y=>if y=z then v else f y
def aX (f:Str->Nat):Dd->Option An
 | .add a n=>if 1000000000000<f a+n then some (.full (f a)) else some (.is1 (f a+n))
 | .take a n=>if f a<n then some (.short (f a)) else some (.is1 (f a - n))
 | .move a b n=>if f a<n then some (.short (f a)) else if 1000000000000<f b+n then some (.full (f b)) else some (.is2 (f a - n) (f b+n))
 | .send _ a n=>if f a<n then some (.short (f a)) else none
 | .fetch _ a n=>if 1000000000000<f a+n then some (.full (f a)) else none
 | .pass _ _ _ _=>none
def cJ (f:Str->Nat):Dd->List An
 | .send h a n=>[.no h,.is1 (f a - n)]
 | .fetch h a n=>[.no h,.is1 (f a+n)]
 | .pass h g _ _=>[.no h,.no g,.ok]
 | _=>[]
def after (f:Str->Nat):Dd->An->(Str->Nat)
 | .add a n,.is1 _=>eE f a (f a+n)
 | .take a n,.is1 _=>eE f a (f a - n)
 | .move a b n,.is2 _ _=>eE (eE f a (f a - n)) b (f b+n)
 | .send _ a n,.is1 _=>eE f a (f a - n)
 | .fetch _ a n,.is1 _=>eE f a (f a+n)
 | _,_=>f
def iG (f:Str->Nat) (x:Dd) (q:Bool) (y:An):Prop:=(q=false/\aX f x=some y)∨(q=true/\aX f x=none/\y∈cJ f x)
def BookIs (kvs:List (aW × V)) (f:Str->Nat):Prop:=∀z:Str,(bN kvs (Sum.inr z)).getD (.int 0)=.int (f z:Int)
theorem dg {H:Hp} {bk:Addr} {kvs:List (aW × V)} {f:Str->Nat} (gb:H bk=some (.dK kvs)) (hB:BookIs kvs f) (z:Str):∃o,DGet H bk (.str z) o/\o.getD (.int 0)=.int (f z:Int):=⟨_,DGet.k (k:=Sum.inr z) gb,hB z⟩
theorem zJ {H:Hp} {bk:Addr} {kvs:List (aW × V)} (gb:H bk=some (.dK kvs)):Wv H bk:=.inl ⟨_,.inl gb⟩
theorem vK {f:Str->Nat} (hf:∀z,f z<=1000000000000) {x:Dd} (hx:x.Ok) {q:Bool} {y:An} (h:iG f x q y) (hq:q=true->x.far=true):An.Of x y/\(x.far=true->(q=true↔y.early=false)):=by
 rcases h with⟨rfl,h⟩ | ⟨rfl,h1,h2⟩
 ·cases x with
  | add a n=>
   simp only [aX]at h
   have:=hf a
   split at h <;> cases h
   ·exact⟨⟨Zo,Zo⟩,fun z=>nomatch z⟩
   ·exact⟨⟨Zo,Zo⟩,fun z=>nomatch z⟩
  | take a n=>
   simp only [aX]at h
   have:=hf a
   split at h <;> cases h
   ·exact⟨by show f a<n;omega,fun z=>nomatch z⟩
   ·exact⟨by show f a - n+n<=1000000000000;omega,fun z=>nomatch z⟩
  | move a b n=>
   simp only [aX]at h
   have:=hf a
   have:=hf b
   split at h
   ·cases h;exact⟨by show f a<n;omega,fun z=>nomatch z⟩
   ·split at h <;> cases h
    ·exact⟨⟨Zo,Zo⟩,fun z=>nomatch z⟩
    ·exact⟨⟨Zo,Zo,Zo⟩,fun z=>nomatch z⟩
  | send g a n=>
   simp only [aX]at h
   split at h <;> cases h
   exact⟨by show f a<n;omega,fun _=>⟨(fun z=>nomatch z),(fun z=>nomatch z)⟩⟩
  | fetch g a n=>
   simp only [aX]at h
   have:=hf a
   split at h <;> cases h
   exact⟨⟨Zo,Zo⟩,fun _=>⟨(fun z=>nomatch z),(fun z=>nomatch z)⟩⟩
  | pass g k a n=>cases h
 ·cases x with
  | add a n=>cases hq rfl
  | take a n=>cases hq rfl
  | move a b n=>cases hq rfl
  | send g a n=>
   have:=hf a
   simp only [aX]at h1
   simp only [cJ,List.mem_cons,List.not_mem_nil,or_false]at h2
   have hn:n<=f a:=by
    by_cases hh:f a<n
    ·rw[if_pos hh]at h1;cases h1
    ·omega
   rcases h2 with rfl | rfl
   ·exact⟨rfl,fun _=>⟨fun _=>rfl,fun _=>rfl⟩⟩
   ·exact⟨by show f a - n+n<=1000000000000;omega,fun _=>⟨fun _=>rfl,fun _=>rfl⟩⟩
  | fetch g a n=>
   simp only [aX]at h1
   simp only [cJ,List.mem_cons,List.not_mem_nil,or_false]at h2
   have hn:¬ 1000000000000<f a+n:=by
    intro hh;rw[if_pos hh]at h1;cases h1
   rcases h2 with rfl | rfl
   ·exact⟨rfl,fun _=>⟨fun _=>rfl,fun _=>rfl⟩⟩
   ·exact⟨⟨Zo,Zo⟩,fun _=>⟨fun _=>rfl,fun _=>rfl⟩⟩
  | pass g k a n=>
   simp only [cJ,List.mem_cons,List.not_mem_nil,or_false]at h2
   rcases h2 with rfl | rfl | rfl
   ·exact⟨.inl rfl,fun _=>⟨fun _=>rfl,fun _=>rfl⟩⟩
   ·exact⟨.inr rfl,fun _=>⟨fun _=>rfl,fun _=>rfl⟩⟩
   ·exact⟨trivial,fun _=>⟨fun _=>rfl,fun _=>rfl⟩⟩
theorem iH {f:Str->Nat} {z:Str} {v:Nat} (hf:∀z,f z<=1000000000000) (hv:v<=1000000000000):∀y,eE f z v y<=1000000000000:=fun y=>by
 unfold eE;split
 ·exact hv
 ·exact hf y
theorem vL {f:Str->Nat} (hf:∀z,f z<=1000000000000) {x:Dd} {q:Bool} {y:An} (h:iG f x q y):∀z,after f x y z<=1000000000000:=by
 rcases h with⟨rfl,h⟩ | ⟨rfl,h1,h2⟩
 ·cases x with
  | add a n=>
   simp only [aX]at h
   split at h <;> cases h
   ·exact hf
   ·exact iH hf Zo
  | take a n=>
   simp only [aX]at h
   have:=hf a
   split at h <;> cases h
   ·exact hf
   ·exact iH hf Zo
  | move a b n=>
   simp only [aX]at h
   have:=hf a
   split at h
   ·cases h;exact hf
   ·split at h <;> cases h
    ·exact hf
    ·exact iH (iH hf Zo) Zo
  | send g a n=>
   simp only [aX]at h
   split at h <;> cases h
   exact hf
  | fetch g a n=>
   simp only [aX]at h
   split at h <;> cases h
   exact hf
  | pass g k a n=>cases h
 ·cases x with
  | add a n=>cases h2
  | take a n=>cases h2
  | move a b n=>cases h2
  | send g a n=>
   have:=hf a
   simp only [cJ,List.mem_cons,List.not_mem_nil,or_false]at h2
   rcases h2 with rfl | rfl
   ·exact hf
   ·exact iH hf Zo
  | fetch g a n=>
   simp only [aX]at h1
   simp only [cJ,List.mem_cons,List.not_mem_nil,or_false]at h2
   have hn:¬ 1000000000000<f a+n:=by
    intro hh;rw[if_pos hh]at h1;cases h1
   rcases h2 with rfl | rfl
   ·exact hf
   ·exact iH hf Zo
  | pass g k a n=>
   simp only [cJ,List.mem_cons,List.not_mem_nil,or_false]at h2
   rcases h2 with rfl | rfl | rfl <;> exact hf
theorem BookIs.put {kvs:List (aW × V)} {f:Str->Nat} (h:BookIs kvs f) (z:Str) (v:Nat):BookIs (bR kvs (Sum.inr z) (.int (v:Int))) (eE f z v):=fun y=>by
 rw[gK];unfold eE;by_cases e:y=z
 ·rw[if_pos (by rw[e]),if_pos e];rfl
 ·rw[if_neg (fun c=>e (by injection c)),if_neg e];exact h y
def vM:Sp:=fun vs H Q _=>∃(bk t:Addr) (kvs:List (aW × V)) (f:Str->Nat) (x:Dd),vs=[.ref bk,.ref t]/\H bk=some (.dK kvs)/\BookIs kvs f/\H t=some (.tup x.vs) ∧
 (∀y c H',aX f x=some y->Same H H'->H' c=some (.tup y.vs)->Q (.ref c) H')/\(aX f x=none->∀H',Same H H'->Q .non H')
theorem Gz (T:Txt K mg) (D:DefAt K mg "_law_early" fV ["_law_book_here","_law_deed_here"]):aG P w K mg base 1 "_law_early" ["_law_book_here","_law_deed_here"] vM:=by
 refine D.go dP (fun vs H Q E h=>?_) (fun f cdv A outer s H vs Q E hr h=>?_)
 ·obtain⟨bk,t,kvs,f,x,rfl,_⟩:=h;rfl
 ·obtain⟨bk,t,kvs,f,x,rfl,gb,hB,gt,qs,qn⟩:=h
  have hu1:=dU hr
  refine⟨_,(R.ad (R.ah (i:=2) dP.nd (R.ix (R.af (K:=K)) (R.v 1) (R.ba R.ab))) (R.ad (R.ah (i:=3) dP.nd (R.ix (R.af (K:=K)) (R.v 1) (R.ba R.ab))) (R.ad (R.ar (R.al R.eq (R.ix (R.af (K:=K)) (R.v 1) R.ab) R.ae) (R.ag (R.ah (i:=3) dP.nd (R.ix (R.af (K:=K)) (R.v 1) R.ab))) R.av) (R.ad (R.ah (i:=4) dP.nd (R.cq hu1 (R.v 0) (R.v 3) R.ab)) (R.ad (R.ar (R.tw (R.cj (R.al (R.bp (K:=K)) (R.ix (R.af (K:=K)) (R.v 1) R.ab) (R.ai (R.U R.ae (R.U R.ae (R.U R.ae R.ac))))) (R.cv (R.al R.lt (R.v 4) (R.v 2))))) (R.ag (R.ao (R.ai (R.U R.ae (R.U (R.v 4) R.ac))))) R.av) (R.ad (R.ar (R.tw (R.cj (R.al (R.bp (K:=K)) (R.ix (R.af (K:=K)) (R.v 1) R.ab) (R.ai (R.U R.ae (R.U R.ae R.ac)))) (R.cv (R.al R.gt (R.op R.ap (R.v 4) (R.v 2)) (R.op R.bi R.ab R.ab))))) (R.ag (R.ao (R.ai (R.U R.ae (R.U (R.v 4) R.ac))))) R.av) (R.ad (R.ar (R.tw (R.cj (R.al R.eq (R.ix (R.af (K:=K)) (R.v 1) R.ab) R.ae) (R.cv (R.al R.gt (R.op R.ap (R.cq hu1 (R.v 0) (R.ix (R.af (K:=K)) (R.v 1) R.ab) R.ab) (R.v 2)) (R.op R.bi R.ab R.ab))))) (R.ag (R.ao (R.ai (R.U R.ae (R.U (R.cq hu1 (R.v 0) (R.ix (R.af (K:=K)) (R.v 1) R.ab) R.ab) R.ac))))) R.av) (R.ad (R.ar (R.al R.eq (R.ix (R.af (K:=K)) (R.v 1) R.ab) R.ae) (R.ag (R.ao (R.ai (R.U R.ae (R.U (R.op R.cn (R.v 4) (R.v 2)) (R.U (R.op R.ap (R.cq hu1 (R.v 0) (R.ix (R.af (K:=K)) (R.v 1) R.ab) R.ab) (R.v 2)) R.ac)))))) R.av) (R.ad (R.ar (R.al (R.bp (K:=K)) (R.ix (R.af (K:=K)) (R.v 1) R.ab) (R.ai (R.U R.ae (R.U R.ae R.ac)))) (R.ag (R.ao (R.ai (R.U R.ae (R.U (R.op R.ap (R.v 4) (R.ix (R.aq (K:=K)) (R.au (R.U (R.v 2) (R.U (R.ba (R.v 2)) R.ac))) (R.bg R.dl rfl T.b_int mM (R.U (R.bv R.eq (R.ix (R.af (K:=K)) (R.v 1) R.ab) R.ae) R.ac)))) R.ac))))) R.av) (R.ag (R.ao R.df))))))))))),?_⟩
  cases x with
  | add a n=>
   refine⟨_,SqT.of gt,_,rfl,⟨_,SqT.of gt,_,rfl,⟨_,SqT.of gt,_,rfl,?_⟩⟩⟩
   obtain⟨o,ho,eo⟩:=dg gb hB a
   refine⟨bk,rfl,zJ gb,o,ho,?_⟩
   rw[eo];refine⟨_,SqT.of gt,_,rfl,aP rfl,fun t1 H1 s1 g1=>⟨t1,_,rfl,.inr (SqT.of g1),rfl,rfl,?_⟩⟩
   have S1:Same H H1:=s1
   have gt1:=S1 _ _ gt
   have gb1:=S1 _ _ gb
   refine⟨_,SqT.of gt1,_,rfl,aP rfl,fun t2 H2 s2 g2=>⟨t2,_,rfl,.inr (SqT.of g2),rfl,rfl,?_⟩⟩
   have S2:Same H H2:=S1.trans s2
   have gt2:=S2 _ _ gt
   have gb2:=S2 _ _ gb
   refine⟨⟨Zd,Zd,Zd⟩,?_⟩
   refine bP (fun h=>?_) (fun h=>?_)
   ·have h':(1000000000000:Int)<(f a:Int)+(n:Int):=of_decide_eq_true h
    exact⟨aP rfl,fun c H' s' g'=>qs (.full (f a)) c H' (if_pos Zo) (S2.trans s') g'⟩
   ·have h':¬ (1000000000000:Int)<(f a:Int)+(n:Int):=of_decide_eq_false h
    refine⟨_,SqT.of gt2,_,rfl,_,SqT.of gt2,_,rfl,?_⟩
    refine⟨_,SqT.of gt2,_,rfl,aP rfl,fun t3 H3 s3 g3=>⟨t3,_,rfl,.inr (SqT.of g3),rfl,rfl,?_⟩⟩
    have S3:Same H H3:=S2.trans s3
    have gt3:=S3 _ _ gt
    have gb3:=S3 _ _ gb
    refine⟨dE rfl,fun p hp=>⟨_,SqT.of (aL gt3 hp),_,rfl,_,SqL.of aA,_,rfl,aP rfl,fun c H' s' g'=>?_⟩⟩
    refine qs (.is1 (f a+n)) c H' (if_neg Zo) ((S3.trans (aD hp)).trans s') ?_
    rw[g'];show some (HO.tup [V.str "is",.int ((f a:Int)+(n:Int))])=some (HO.tup [V.str "is",.int ((f a+n:Nat):Int)])
    rw[show((f a+n:Nat):Int)=(f a:Int)+(n:Int) by omega]
  | take a n=>
   refine⟨_,SqT.of gt,_,rfl,⟨_,SqT.of gt,_,rfl,⟨_,SqT.of gt,_,rfl,?_⟩⟩⟩
   obtain⟨o,ho,eo⟩:=dg gb hB a
   refine⟨bk,rfl,zJ gb,o,ho,?_⟩
   rw[eo];refine⟨_,SqT.of gt,_,rfl,aP rfl,fun t1 H1 s1 g1=>⟨t1,_,rfl,.inr (SqT.of g1),rfl,rfl,?_⟩⟩
   have S1:Same H H1:=s1
   have gt1:=S1 _ _ gt
   have gb1:=S1 _ _ gb
   refine bP (fun h=>?_) (fun h=>?_)
   ·have h':(f a:Int)<(n:Int):=of_decide_eq_true h
    exact⟨aP rfl,fun c H' s' g'=>qs (.short (f a)) c H' (if_pos Zo) (S1.trans s') g'⟩
   ·have h':¬ (f a:Int)<(n:Int):=of_decide_eq_false h
    refine⟨_,SqT.of gt1,_,rfl,aP rfl,fun t2 H2 s2 g2=>⟨t2,_,rfl,.inr (SqT.of g2),rfl,rfl,?_⟩⟩
    have S2:Same H H2:=S1.trans s2
    have gt2:=S2 _ _ gt
    have gb2:=S2 _ _ gb
    refine⟨_,SqT.of gt2,_,rfl,_,SqT.of gt2,_,rfl,?_⟩
    refine⟨_,SqT.of gt2,_,rfl,aP rfl,fun t3 H3 s3 g3=>⟨t3,_,rfl,.inr (SqT.of g3),rfl,rfl,?_⟩⟩
    have S3:Same H H3:=S2.trans s3
    have gt3:=S3 _ _ gt
    have gb3:=S3 _ _ gb
    refine⟨dE rfl,fun p hp=>⟨_,SqT.of (aL gt3 hp),_,rfl,_,SqL.of aA,_,rfl,aP rfl,fun c H' s' g'=>?_⟩⟩
    refine qs (.is1 (f a - n)) c H' (if_neg Zo) ((S3.trans (aD hp)).trans s') ?_
    rw[g'];show some (HO.tup [V.str "is",.int ((f a:Int)+-(n:Int))])=some (HO.tup [V.str "is",.int ((f a - n:Nat):Int)])
    rw[show((f a - n:Nat):Int)=(f a:Int)+-(n:Int) by omega]
  | move a b n=>
   refine⟨_,SqT.of gt,_,rfl,⟨_,SqT.of gt,_,rfl,⟨_,SqT.of gt,_,rfl,⟨_,SqT.of gt,_,rfl,?_⟩⟩⟩⟩
   obtain⟨o,ho,eo⟩:=dg gb hB a
   refine⟨bk,rfl,zJ gb,o,ho,?_⟩
   rw[eo];refine⟨_,SqT.of gt,_,rfl,aP rfl,fun t1 H1 s1 g1=>⟨t1,_,rfl,.inr (SqT.of g1),rfl,rfl,?_⟩⟩
   have S1:Same H H1:=s1
   have gt1:=S1 _ _ gt
   have gb1:=S1 _ _ gb
   refine bP (fun h=>?_) (fun h=>?_)
   ·have h':(f a:Int)<(n:Int):=of_decide_eq_true h
    exact⟨aP rfl,fun c H' s' g'=>qs (.short (f a)) c H' (if_pos Zo) (S1.trans s') g'⟩
   ·have h':¬ (f a:Int)<(n:Int):=of_decide_eq_false h
    refine⟨_,SqT.of gt1,_,rfl,aP rfl,fun t2 H2 s2 g2=>⟨t2,_,rfl,.inr (SqT.of g2),rfl,rfl,?_⟩⟩
    have S2:Same H H2:=S1.trans s2
    have gt2:=S2 _ _ gt
    have gb2:=S2 _ _ gb
    obtain⟨o2,ho2,eo2⟩:=dg gb2 hB b
    refine⟨_,SqT.of gt2,_,rfl,bk,rfl,zJ gb2,_,SqT.of gt2,_,rfl,o2,ho2,?_⟩
    rw[eo2];refine⟨⟨Zd,Zd,Zd⟩,?_⟩
    refine bP (fun h=>?_) (fun h=>?_)
    ·have h'':(1000000000000:Int)<(f b:Int)+(n:Int):=of_decide_eq_true h
     refine⟨bk,rfl,zJ gb2,_,SqT.of gt2,_,rfl,o2,ho2,?_⟩
     rw[eo2];exact⟨aP rfl,fun c H' s' g'=>qs (.full (f b)) c H' ((if_neg Zo).trans (if_pos Zo)) (S2.trans s') g'⟩
    ·have h'':¬ (1000000000000:Int)<(f b:Int)+(n:Int):=of_decide_eq_false h
     refine⟨_,SqT.of gt2,_,rfl,bk,rfl,zJ gb2,_,SqT.of gt2,_,rfl,o2,ho2,?_⟩
     rw[eo2];refine⟨aP rfl,fun c H' s' g'=>?_⟩
     refine qs (.is2 (f a - n) (f b+n)) c H' ((if_neg Zo).trans (if_neg Zo)) (S2.trans s') ?_
     rw[g'];show some (HO.tup [V.str "is",.int ((f a:Int) - (n:Int)),.int ((f b:Int)+(n:Int))])=some (HO.tup [V.str "is",.int ((f a - n:Nat):Int),.int ((f b+n:Nat):Int)])
     rw[show((f a - n:Nat):Int)=(f a:Int) - (n:Int) by omega,show((f b+n:Nat):Int)=(f b:Int)+(n:Int) by omega]
  | send h a n=>
   refine⟨_,SqT.of gt,_,rfl,⟨_,SqT.of gt,_,rfl,⟨_,SqT.of gt,_,rfl,?_⟩⟩⟩
   obtain⟨o,ho,eo⟩:=dg gb hB a
   refine⟨bk,rfl,zJ gb,o,ho,?_⟩
   rw[eo];refine⟨_,SqT.of gt,_,rfl,aP rfl,fun t1 H1 s1 g1=>⟨t1,_,rfl,.inr (SqT.of g1),rfl,rfl,?_⟩⟩
   have S1:Same H H1:=s1
   have gt1:=S1 _ _ gt
   have gb1:=S1 _ _ gb
   refine bP (fun h=>?_) (fun h=>?_)
   ·have h':(f a:Int)<(n:Int):=of_decide_eq_true h
    exact⟨aP rfl,fun c H' s' g'=>qs (.short (f a)) c H' (if_pos Zo) (S1.trans s') g'⟩
   ·have h':¬ (f a:Int)<(n:Int):=of_decide_eq_false h
    refine⟨_,SqT.of gt1,_,rfl,aP rfl,fun t2 H2 s2 g2=>⟨t2,_,rfl,.inr (SqT.of g2),rfl,rfl,?_⟩⟩
    have S2:Same H H2:=S1.trans s2
    have gt2:=S2 _ _ gt
    have gb2:=S2 _ _ gb
    refine⟨_,SqT.of gt2,_,rfl,_,SqT.of gt2,_,rfl,?_⟩
    refine⟨_,SqT.of gt2,_,rfl,aP rfl,fun t3 H3 s3 g3=>⟨t3,_,rfl,.inr (SqT.of g3),rfl,rfl,?_⟩⟩
    have S3:Same H H3:=S2.trans s3
    have gt3:=S3 _ _ gt
    have gb3:=S3 _ _ gb
    exact qn (if_neg Zo) _ S3
  | fetch h a n=>
   refine⟨_,SqT.of gt,_,rfl,⟨_,SqT.of gt,_,rfl,⟨_,SqT.of gt,_,rfl,?_⟩⟩⟩
   obtain⟨o,ho,eo⟩:=dg gb hB a
   refine⟨bk,rfl,zJ gb,o,ho,?_⟩
   rw[eo];refine⟨_,SqT.of gt,_,rfl,aP rfl,fun t1 H1 s1 g1=>⟨t1,_,rfl,.inr (SqT.of g1),rfl,rfl,?_⟩⟩
   have S1:Same H H1:=s1
   have gt1:=S1 _ _ gt
   have gb1:=S1 _ _ gb
   refine⟨_,SqT.of gt1,_,rfl,aP rfl,fun t2 H2 s2 g2=>⟨t2,_,rfl,.inr (SqT.of g2),rfl,rfl,?_⟩⟩
   have S2:Same H H2:=S1.trans s2
   have gt2:=S2 _ _ gt
   have gb2:=S2 _ _ gb
   refine⟨⟨Zd,Zd,Zd⟩,?_⟩
   refine bP (fun h=>?_) (fun h=>?_)
   ·have h':(1000000000000:Int)<(f a:Int)+(n:Int):=of_decide_eq_true h
    exact⟨aP rfl,fun c H' s' g'=>qs (.full (f a)) c H' (if_pos Zo) (S2.trans s') g'⟩
   ·have h':¬ (1000000000000:Int)<(f a:Int)+(n:Int):=of_decide_eq_false h
    refine⟨_,SqT.of gt2,_,rfl,_,SqT.of gt2,_,rfl,?_⟩
    refine⟨_,SqT.of gt2,_,rfl,aP rfl,fun t3 H3 s3 g3=>⟨t3,_,rfl,.inr (SqT.of g3),rfl,rfl,?_⟩⟩
    have S3:Same H H3:=S2.trans s3
    have gt3:=S3 _ _ gt
    have gb3:=S3 _ _ gb
    exact qn (if_neg Zo) _ S3
  | pass h g a n=>
   refine⟨_,SqT.of gt,_,rfl,⟨_,SqT.of gt,_,rfl,⟨_,SqT.of gt,_,rfl,?_⟩⟩⟩
   obtain⟨o,ho,eo⟩:=dg gb hB a
   refine⟨bk,rfl,zJ gb,o,ho,?_⟩
   rw[eo];refine⟨_,SqT.of gt,_,rfl,aP rfl,fun t1 H1 s1 g1=>⟨t1,_,rfl,.inr (SqT.of g1),rfl,rfl,?_⟩⟩
   have S1:Same H H1:=s1
   have gt1:=S1 _ _ gt
   have gb1:=S1 _ _ gb
   refine⟨_,SqT.of gt1,_,rfl,aP rfl,fun t2 H2 s2 g2=>⟨t2,_,rfl,.inr (SqT.of g2),rfl,rfl,?_⟩⟩
   have S2:Same H H2:=S1.trans s2
   have gt2:=S2 _ _ gt
   have gb2:=S2 _ _ gb
   refine⟨_,SqT.of gt2,_,rfl,_,SqT.of gt2,_,rfl,?_⟩
   refine⟨_,SqT.of gt2,_,rfl,aP rfl,fun t3 H3 s3 g3=>⟨t3,_,rfl,.inr (SqT.of g3),rfl,rfl,?_⟩⟩
   have S3:Same H H3:=S2.trans s3
   have gt3:=S3 _ _ gt
   have gb3:=S3 _ _ gb
   exact qn (rfl) _ S3
end
end KL
namespace KL
open PySem L2
section
variable {P:Program} {w:World} {K:W.Frag} {mg:Str->Option Value} {base:Heap}
def vN:Sp:=fun vs H Q _=>∃(bk t:Addr) (kvs:List (aW × V)) (f:Str->Nat) (x:Dd),vs=[.ref bk,.ref t]/\H bk=some (.dK kvs)/\BookIs kvs f/\H t=some (.tup x.vs)/\x.far=true/\aX f x=none ∧
 ∀(l:Addr) (cs:List Addr) (H':Hp),H l=none->H' l=some (.lst (cs.map V.ref))->Paired (fun y c=>H' c=some (.tup (An.vs y))) (cJ f x) cs->Same H H'->Q (.ref l) H'
theorem Hl (T:Txt K mg) (D:DefAt K mg "_law_lates" fW ["_law_book_here","_law_deed_here"]):aG P w K mg base 1 "_law_lates" ["_law_book_here","_law_deed_here"] vN:=by
 refine D.go lS (fun vs H Q E h=>?_) (fun f cdv A outer s H vs Q E hr h=>?_)
 ·obtain⟨bk,t,kvs,f,x,rfl,_⟩:=h;rfl
 ·obtain⟨bk,t,kvs,f,x,rfl,gb,hB,gt,hf,he,q⟩:=h
  have hu1:=dU hr
  refine⟨_,(R.ad (R.ar (R.al R.eq (R.ix (R.af (K:=K)) (R.v 1) R.ab) R.ae) (R.ag (R.ao (R.au (R.U (R.ai (R.U R.ae (R.U (R.ix (R.af (K:=K)) (R.v 1) R.ab) R.ac))) (R.U (R.ai (R.U R.ae (R.U (R.ix (R.af (K:=K)) (R.v 1) R.ab) R.ac))) (R.U (R.ai (R.U R.ae R.ac)) R.ac)))))) R.av) (R.ad (R.ah (i:=2) lS.nd (R.op R.ap (R.cq hu1 (R.v 0) (R.ix (R.af (K:=K)) (R.v 1) R.ab) R.ab) (R.ix (R.aq (K:=K)) (R.au (R.U (R.ix (R.af (K:=K)) (R.v 1) R.ab) (R.U (R.ba (R.ix (R.af (K:=K)) (R.v 1) R.ab)) R.ac))) (R.bg R.dl rfl T.b_int mM (R.U (R.bv R.eq (R.ix (R.af (K:=K)) (R.v 1) R.ab) R.ae) R.ac))))) (R.ag (R.ao (R.au (R.U (R.ai (R.U R.ae (R.U (R.ix (R.af (K:=K)) (R.v 1) R.ab) R.ac))) (R.U (R.ai (R.U R.ae (R.U (R.v 2) R.ac))) R.ac))))))),?_⟩
  cases x with
  | add a n=>cases hf
  | take a n=>cases hf
  | move a b n=>cases hf
  | pass h g a n=>
   refine⟨_,SqT.of gt,_,rfl,_,SqT.of gt,_,rfl,aP rfl,fun c1 H1 s1 g1=>⟨_,SqT.of (s1 _ _ gt),_,rfl,aP rfl,fun c2 H2 s2 g2=>⟨aP rfl,fun c3 H3 s3 g3=>⟨dE rfl,fun l hl=>?_⟩⟩⟩⟩
   have S3:=(s1.trans s2).trans s3
   exact q l [c1,c2,c3] _ (S3.free hl) aA (.cons (aL (s3 _ _ (s2 _ _ g1)) hl) (.cons (aL (s3 _ _ g2) hl) (.cons (aL g3 hl) .nil))) (S3.trans (aD hl))
  | send h a n=>
   have hn:¬ f a<n:=fun z=>by simp only [aX]at he;rw[if_pos z]at he;cases he
   obtain⟨o,ho,eo⟩:=dg gb hB a
   refine⟨_,SqT.of gt,_,rfl,bk,rfl,zJ gb,_,SqT.of gt,_,rfl,o,ho,?_⟩
   rw[eo];refine⟨_,SqT.of gt,_,rfl,_,SqT.of gt,_,rfl,dE rfl,fun p hp=>⟨_,SqT.of (aL gt hp),_,rfl,_,SqL.of aA,_,rfl,?_⟩⟩
   have S0:=aD (o:=.lst [.int (n:Int),.int (-(n:Int))]) hp
   refine⟨_,SqT.of (aL gt hp),_,rfl,aP rfl,fun c1 H1 s1 g1=>⟨aP rfl,fun c2 H2 s2 g2=>⟨dE rfl,fun l hl=>?_⟩⟩⟩
   have S3:=(S0.trans s1).trans s2
   refine q l [c1,c2] _ (S3.free hl) aA (.cons (aL (s2 _ _ g1) hl) (.cons ?_ .nil)) (S3.trans (aD hl))
   rw[aL g2 hl];show some (HO.tup [V.str "is",.int ((f a:Int)+-(n:Int))])=some (HO.tup [V.str "is",.int ((f a - n:Nat):Int)])
   rw[show((f a - n:Nat):Int)=(f a:Int)+-(n:Int) by omega]
  | fetch h a n=>
   obtain⟨o,ho,eo⟩:=dg gb hB a
   refine⟨_,SqT.of gt,_,rfl,bk,rfl,zJ gb,_,SqT.of gt,_,rfl,o,ho,?_⟩
   rw[eo];refine⟨_,SqT.of gt,_,rfl,_,SqT.of gt,_,rfl,dE rfl,fun p hp=>⟨_,SqT.of (aL gt hp),_,rfl,_,SqL.of aA,_,rfl,?_⟩⟩
   have S0:=aD (o:=.lst [.int (n:Int),.int (-(n:Int))]) hp
   refine⟨_,SqT.of (aL gt hp),_,rfl,aP rfl,fun c1 H1 s1 g1=>⟨aP rfl,fun c2 H2 s2 g2=>⟨dE rfl,fun l hl=>?_⟩⟩⟩
   have S3:=(S0.trans s1).trans s2
   refine q l [c1,c2] _ (S3.free hl) aA (.cons (aL (s2 _ _ g1) hl) (.cons ?_ .nil)) (S3.trans (aD hl))
   rw[aL g2 hl];show some (HO.tup [V.str "is",.int ((f a:Int)+(n:Int))])=some (HO.tup [V.str "is",.int ((f a+n:Nat):Int)])
   rw[show((f a+n:Nat):Int)=(f a:Int)+(n:Int) by omega]
def kW:Dd->An->List (Str × Int)
 | .add a n,.is1 _=>[(a,(n:Int))]
 | .take a n,.is1 _=>[(a,-(n:Int))]
 | .move a b n,.is2 _ _=>[(a,-(n:Int)),(b,(n:Int))]
 | .send _ a n,.is1 _=>[(a,-(n:Int))]
 | .fetch _ a n,.is1 _=>[(a,(n:Int))]
 | _,_=>[]
def Vr (H:Hp) (c:Str × Int) (p:Addr):Prop:=H p=some (.tup [.str c.1,.int c.2])
def kP:Sp:=fun vs H Q _=>∃(t c:Addr) (x:Dd) (y:An),vs=[.ref t,.ref c]/\H t=some (.tup x.vs)/\H c=some (.tup y.vs)/\An.Of x y ∧
 ∀(l:Addr) (ps:List Addr) (H':Hp),H l=none->H' l=some (.lst (ps.map V.ref))->Paired (Vr H') (kW x y) ps->Same H H'->Q (.ref l) H'
theorem Oc (y:An):nT y.vs 0=some (.str (qS y)):=by cases y <;> rfl
theorem pO {y:An} (h:qS y="is"):(∃m,y=.is1 m)∨∃l m,y=.is2 l m:=by
 cases y with
 | is1 m=>exact .inl ⟨m,rfl⟩
 | is2 l m=>exact .inr ⟨l,m,rfl⟩
 | short m=>exact absurd (show("short":Str)="is" from h) Zk
 | full m=>exact absurd (show("full":Str)="is" from h) Zk
 | no m=>exact absurd (show("no":Str)="is" from h) Zk
 | ok=>exact absurd (show("ok":Str)="is" from h) Zk
theorem vO (T:Txt K mg) (D:DefAt K mg "_law_changes" eO ["_law_deed_here","_law_answer_here"]):aG P w K mg base 1 "_law_changes" ["_law_deed_here","_law_answer_here"] kP:=by
 refine D.go pM (fun vs H Q E h=>?_) (fun f cdv A outer s H vs Q E hr h=>?_)
 ·obtain⟨t,c,x,y,rfl,_⟩:=h;rfl
 ·obtain⟨t,c,x,y,rfl,gt,gc,hy,q⟩:=h
  refine⟨_,(R.ad (R.ar (R.al R.ne (R.ix (R.af (K:=K)) (R.v 1) R.ab) R.ae) (R.ag (R.ao (R.au R.ac))) R.av) (R.ad (R.ar (R.al R.eq (R.ix (R.af (K:=K)) (R.v 0) R.ab) R.ae) (R.ag (R.ao (R.au (R.U (R.ai (R.U (R.ix (R.af (K:=K)) (R.v 0) R.ab) (R.U (R.ba (R.ix (R.af (K:=K)) (R.v 0) R.ab)) R.ac))) (R.U (R.ai (R.U (R.ix (R.af (K:=K)) (R.v 0) R.ab) (R.U (R.ix (R.af (K:=K)) (R.v 0) R.ab) R.ac))) R.ac))))) R.av) (R.ag (R.ao (R.au (R.U (R.ai (R.U (R.ix (R.af (K:=K)) (R.v 0) (R.ba R.ab)) (R.U (R.ix (R.aq (K:=K)) (R.au (R.U (R.ix (R.af (K:=K)) (R.v 0) (R.ba R.ab)) (R.U (R.ba (R.ix (R.af (K:=K)) (R.v 0) (R.ba R.ab))) R.ac))) (R.bg R.dl rfl T.b_int mM (R.U (R.bv (R.bp (K:=K)) (R.ix (R.af (K:=K)) (R.v 0) R.ab) (R.ai (R.U R.ae (R.U R.ae R.ac)))) R.ac))) R.ac))) R.ac)))))),?_⟩
  refine⟨_,SqT.of gc,_,Oc y,?_⟩
  by_cases hw:qS y="is"
  ·show if (!decide (qS y="is"))=true then _ else _
   refine qM (by rw[decide_eq_true hw];rfl) ?_
   cases x with
   | add a n=>
    rcases pO hw with⟨m,rfl⟩ | ⟨l,m,rfl⟩
    ·refine⟨_,SqT.of gt,_,rfl,_,SqT.of gt,_,rfl,_,SqT.of gt,_,rfl,_,SqT.of gt,_,rfl,dE rfl,fun p hp=>⟨_,SqT.of (aL gt hp),_,rfl,aP rfl,fun tq Ha sa ga=>⟨tq,_,rfl,.inr (SqT.of ga),rfl,rfl,_,SqL.of (sa _ _ aA),_,rfl,aP rfl,fun c1 H1 s1 g1=>⟨dE rfl,fun l hl=>?_⟩⟩⟩⟩
     have S:=((aD hp).trans sa).trans s1
     exact q l [c1] _ (S.free hl) aA (.cons (aL g1 hl) .nil) (S.trans (aD hl))
    ·exact hy.elim
   | take a n=>
    rcases pO hw with⟨m,rfl⟩ | ⟨l,m,rfl⟩
    ·refine⟨_,SqT.of gt,_,rfl,_,SqT.of gt,_,rfl,_,SqT.of gt,_,rfl,_,SqT.of gt,_,rfl,dE rfl,fun p hp=>⟨_,SqT.of (aL gt hp),_,rfl,aP rfl,fun tq Ha sa ga=>⟨tq,_,rfl,.inr (SqT.of ga),rfl,rfl,_,SqL.of (sa _ _ aA),_,rfl,aP rfl,fun c1 H1 s1 g1=>⟨dE rfl,fun l hl=>?_⟩⟩⟩⟩
     have S:=((aD hp).trans sa).trans s1
     exact q l [c1] _ (S.free hl) aA (.cons (aL g1 hl) .nil) (S.trans (aD hl))
    ·exact hy.elim
   | send h a n=>
    rcases pO hw with⟨m,rfl⟩ | ⟨l,m,rfl⟩
    ·refine⟨_,SqT.of gt,_,rfl,_,SqT.of gt,_,rfl,_,SqT.of gt,_,rfl,_,SqT.of gt,_,rfl,dE rfl,fun p hp=>⟨_,SqT.of (aL gt hp),_,rfl,aP rfl,fun tq Ha sa ga=>⟨tq,_,rfl,.inr (SqT.of ga),rfl,rfl,_,SqL.of (sa _ _ aA),_,rfl,aP rfl,fun c1 H1 s1 g1=>⟨dE rfl,fun l hl=>?_⟩⟩⟩⟩
     have S:=((aD hp).trans sa).trans s1
     exact q l [c1] _ (S.free hl) aA (.cons (aL g1 hl) .nil) (S.trans (aD hl))
    ·exact hy.elim
   | fetch h a n=>
    rcases pO hw with⟨m,rfl⟩ | ⟨l,m,rfl⟩
    ·refine⟨_,SqT.of gt,_,rfl,_,SqT.of gt,_,rfl,_,SqT.of gt,_,rfl,_,SqT.of gt,_,rfl,dE rfl,fun p hp=>⟨_,SqT.of (aL gt hp),_,rfl,aP rfl,fun tq Ha sa ga=>⟨tq,_,rfl,.inr (SqT.of ga),rfl,rfl,_,SqL.of (sa _ _ aA),_,rfl,aP rfl,fun c1 H1 s1 g1=>⟨dE rfl,fun l hl=>?_⟩⟩⟩⟩
     have S:=((aD hp).trans sa).trans s1
     exact q l [c1] _ (S.free hl) aA (.cons (aL g1 hl) .nil) (S.trans (aD hl))
    ·exact hy.elim
   | move a b n=>
    rcases pO hw with⟨m,rfl⟩ | ⟨m',m,rfl⟩
    ·exact hy.elim
    ·refine⟨_,SqT.of gt,_,rfl,_,SqT.of gt,_,rfl,_,SqT.of gt,_,rfl,aP rfl,fun c1 H1 s1 g1=>⟨_,SqT.of (s1 _ _ gt),_,rfl,_,SqT.of (s1 _ _ gt),_,rfl,aP rfl,fun c2 H2 s2 g2=>⟨dE rfl,fun l hl=>?_⟩⟩⟩
     have S:=s1.trans s2
     exact q l [c1,c2] _ (S.free hl) aA (.cons (aL (s2 _ _ g1) hl) (.cons (aL g2 hl) .nil)) (S.trans (aD hl))
   | pass h g a n=>rcases pO hw with⟨m,rfl⟩ | ⟨m',m,rfl⟩ <;> exact hy.elim
  ·show if (!decide (qS y="is"))=true then _ else _
   refine Bd (by rw[decide_eq_false hw];rfl) ?_
   refine⟨dE rfl,fun l hl=>?_⟩
   have e:kW x y=[]:=by cases x <;> cases y <;> first | rfl | exact absurd rfl hw
   exact q l [] _ hl aA (by rw[e];exact .nil) (aD hl)
def eF (f:Str->Nat) (c:Str × Int):Str->Nat:=eE f c.1 ((f c.1:Int)+c.2).toNat
def pP (f:Str->Nat) (cs:List (Str × Int)):Str->Nat:=cs.foldl eF f
def vP:(Str->Nat)->List (Str × Int)->Prop
 | _,[]=>True
 | f,c::cs=>0<=(f c.1:Int)+c.2/\vP (eF f c) cs
theorem jF {f:Str->Nat} {x:Dd} {q:Bool} {y:An} (hx:x.Ok) (h:iG f x q y):pP f (kW x y)=after f x y/\vP f (kW x y):=by
 rcases h with⟨rfl,h⟩ | ⟨rfl,h1,h2⟩
 ·cases x with
  | add a n=>
   simp only [aX]at h
   split at h <;> cases h
   ·exact⟨rfl,trivial⟩
   ·refine⟨?_,by show(0:Int)<=_+_;omega,trivial⟩
    show eE f a ((f a:Int)+(n:Int)).toNat=eE f a (f a+n)
    rw[show((f a:Int)+(n:Int)).toNat=f a+n by omega]
  | take a n=>
   simp only [aX]at h
   split at h <;> cases h
   ·exact⟨rfl,trivial⟩
   ·refine⟨?_,by show(0:Int)<=(f a:Int)+-(n:Int);omega,trivial⟩
    show eE f a ((f a:Int)+-(n:Int)).toNat=eE f a (f a - n)
    rw[show((f a:Int)+-(n:Int)).toNat=f a - n by omega]
  | move a b n=>
   have hab:b≠a:=fun z=>hx.2.2.1 z.symm
   simp only [aX]at h
   split at h
   ·cases h;exact⟨rfl,trivial⟩
   ·split at h <;> cases h
    ·exact⟨rfl,trivial⟩
    ·have eb:eF f (a,-(n:Int)) b=f b:=by unfold eF eE;exact if_neg hab
     refine⟨?_,by show(0:Int)<=(f a:Int)+-(n:Int);omega,?_,trivial⟩
     ·show eF (eF f (a,-(n:Int))) (b,(n:Int))=eE (eE f a (f a - n)) b (f b+n)
      have e1:eF f (a,-(n:Int))=eE f a (f a - n):=by
       unfold eF;rw[show((f a:Int)+-(n:Int)).toNat=f a - n by omega]
      unfold eF at eb ⊢
      dsimp only at eb ⊢
      rw[eb,show((f b:Int)+(n:Int)).toNat=f b+n by omega]
      unfold eF at e1;rw[e1]
     ·show(0:Int)<=(eF f (a,-(n:Int)) b:Int)+(n:Int)
      omega
  | send g a n=>
   simp only [aX]at h
   split at h <;> cases h
   exact⟨rfl,trivial⟩
  | fetch g a n=>
   simp only [aX]at h
   split at h <;> cases h
   exact⟨rfl,trivial⟩
  | pass g k a n=>cases h
 ·cases x with
  | add a n=>cases h2
  | take a n=>cases h2
  | move a b n=>cases h2
  | send g a n=>
   simp only [aX]at h1
   simp only [cJ,List.mem_cons,List.not_mem_nil,or_false]at h2
   have hn:¬ f a<n:=by
    intro hh;rw[if_pos hh]at h1;cases h1
   rcases h2 with rfl | rfl
   ·exact⟨rfl,trivial⟩
   ·refine⟨?_,by show(0:Int)<=(f a:Int)+-(n:Int);omega,trivial⟩
    show eE f a ((f a:Int)+-(n:Int)).toNat=eE f a (f a - n)
    rw[show((f a:Int)+-(n:Int)).toNat=f a - n by omega]
  | fetch g a n=>
   simp only [cJ,List.mem_cons,List.not_mem_nil,or_false]at h2
   rcases h2 with rfl | rfl
   ·exact⟨rfl,trivial⟩
   ·refine⟨?_,by show(0:Int)<=(f a:Int)+(n:Int);omega,trivial⟩
    show eE f a ((f a:Int)+(n:Int)).toNat=eE f a (f a+n)
    rw[show((f a:Int)+(n:Int)).toNat=f a+n by omega]
  | pass g k a n=>
   simp only [cJ,List.mem_cons,List.not_mem_nil,or_false]at h2
   rcases h2 with rfl | rfl | rfl <;> exact⟨rfl,trivial⟩
theorem lT (x:Dd) (y:An):(kW x y).length<=2:=by cases x <;> cases y <;> exact Nat.le_of_ble_eq_true rfl
def kQ:Sp:=fun vs H Q _=>∃(bk t c:Addr) (kvs:List (aW × V)) (f:Str->Nat) (x:Dd) (y:An),vs=[.ref bk,.ref t,.ref c]/\H bk=some (.dK kvs)/\BookIs kvs f/\kvs.length<=900/\H t=some (.tup x.vs)/\H c=some (.tup y.vs)/\An.Of x y/\vP f (kW x y) ∧
 ∀(kvs':List (aW × V)) (H':Hp),H' bk=some (.dK kvs')->BookIs kvs' (pP f (kW x y))->kvs'.length<=kvs.length+2->K1 bk H H'->Q .non H'
theorem xQ (T:Txt K mg) (cLchanges:aG P w K mg base 1 "_law_changes" ["_law_deed_here","_law_answer_here"] kP)
  (D:DefAt K mg "_law_changed" cY ["_law_book_here","_law_deed_here","_law_answer_here"]):aG P w K mg base 2 "_law_changed" ["_law_book_here","_law_deed_here","_law_answer_here"] kQ:=by
 refine D.go cA (fun vs H Q E h=>?_) (fun f cdv A outer s H vs Q E hr h=>?_)
 ·obtain⟨bk,t,c,kvs,f,x,y,rfl,_⟩:=h;rfl
 ·obtain⟨bk,t,c,kvs,f,x,y,rfl,gb,hB,hl,gt,gc,hy,hG,q⟩:=h
  have hu1:=dU hr
  have hLchanges:=hr
  refine⟨_,(R.ag (R.bh PassesOwn.never rfl (R.aw (K:=K) (R.fn cLchanges hLchanges rfl (R.U (R.v 1) (R.U (R.v 2) R.ac)))) (R.dh (K:=K) (n:=2) rfl (R.bq (R.gn (i:=3) cA.nd) (R.bq (R.gn (i:=4) cA.nd) R.di))) (R.ag (R.br (R.op R.ap (R.cq hu1 (R.v 0) (R.v 3) R.ab) (R.v 4)) (R.bu (R.v 0) (R.v 3) (R.cf hu1)))))),?_⟩
  refine⟨t,c,x,y,rfl,gt,gc,hy,fun l ps H1 fl g1 pp s1=>⟨l,rfl,⟨_,SqL.of g1⟩,?_⟩⟩
  have hbl:bk≠l:=aF gb fl
  have h2:=lT x y
  have hpl:(kW x y).length=ps.length:=pp.length
  refine cC (aR K l (ps.map V.ref)) (fun i σ' H'=>∃(kvs':List (aW × V)) (g:Str->Nat) (o3 o4:Option V),σ'=[some (.ref bk),some (.ref t),some (.ref c),o3,o4]/\H' bk=some (.dK kvs')/\BookIs kvs' g/\kvs'.length<=kvs.length+i/\vP g ((kW x y).drop i)/\pP g ((kW x y).drop i)=pP f (kW x y)/\K1 bk H1 H'/\H' l=some (.lst (ps.map V.ref))) (fun i σ' H' ⟨_,_,_,_,_,_,_,_,_,_,_,e⟩=>SqL.of e)
   ⟨kvs,f,_,_,rfl,s1 _ _ gb,hB,aV _,hG,rfl,(fun _ _ e _=>e),g1⟩ ?_ ?_
  ·rintro i v σ' H2 hv ⟨kvs',g,o3,o4,rfl,gb2,hB2,hl2,hG2,ea,k2,gl2⟩
   rw[dR]at hv;cases hp:ps[i]? with
   | none=>rw[hp]at hv;cases hv
   | some p=>
    rw[hp]at hv;cases hv
    obtain⟨hi,ei⟩:=Zgs.mp hp
    obtain⟨hi',pv⟩:=Paired.get' (j:=i) pp hi
    rw[ei]at pv;generalize hcc:(kW x y)[i]=cc at pv;obtain⟨z,by_⟩:=cc
    have pv':H1 p=some (.tup [.str z,.int by_]):=pv
    have gp2:=k2 _ _ pv' (fun e=>by rw[e,s1 _ _ gb]at pv';cases pv')
    have ed:(kW x y).drop i=(z,by_)::(kW x y).drop (i+1):=by rw[List.drop_eq_getElem_cons hi',hcc]
    rw[ed]at hG2 ea;refine⟨p,_,rfl,SqT.of gp2,rfl,_,_,rfl,_,_,rfl,rfl,?_⟩
    obtain⟨o,ho,eo⟩:=dg gb2 hB2 z
    refine⟨bk,rfl,zJ gb2,o,ho,?_⟩
    rw[eo];refine⟨bk,_,rfl,DPut.k (k:=Sum.inr z) gb2 (kI (m:=1000) Zo Zd),?_⟩
    have e0:(0:Int)<=(g z:Int)+by_:=hG2.1
    have hput:=hB2.put z ((g z:Int)+by_).toNat
    rw[Int.toNat_of_nonneg e0]at hput;refine⟨_,_,_,_,rfl,aA,hput,eK (cN _ _ _) Zo,hG2.2,ea,fun c' o' e' n'=>?_,?_⟩
    ·rw[aE n'];exact k2 _ _ e' n'
    ·rw[aE hbl.symm];exact gl2
  ·rintro σ' H2 ⟨kvs',g,o3,o4,rfl,gb2,hB2,hl2,hG2,ea,k2,gl2⟩
   rw[aQ]at hl2 ea;rw[<- hpl,List.drop_length]at ea;refine q kvs' H2 gb2 ?_ Zo (fun c' o' e' n'=>k2 _ _ (s1 _ _ e') n')
   rw[<- ea];exact hB2
end
end KL
namespace KL
open PySem L2
section
variable {P:Program} {w:World} {K:W.Frag} {mg:Str->Option Value} {base:Heap}
def Od:Dd->Nat->Dd
 | .add a _,m=>.add a m | .take a _,m=>.take a m | .move a b _,m=>.move a b m | .send h a _,m=>.send h a m | .fetch h a _,m=>.fetch h a m | .pass h g a _,m=>.pass h g a m
theorem Hm {x:Dd} {m:Nat} (h:x.Ok) (h1:1<=m) (h2:m<=1000000000000):(Od x m).Ok:=by
 cases x with
 | add a n=>exact⟨h.1,h1,h2⟩
 | take a n=>exact⟨h.1,h1,h2⟩
 | move a b n=>exact⟨h.1,h.2.1,h.2.2.1,h1,h2⟩
 | send a b n=>exact⟨h.1,h.2.1,h1,h2⟩
 | fetch a b n=>exact⟨h.1,h.2.1,h1,h2⟩
 | pass a b c n=>exact⟨h.1,h.2.1,h.2.2.1,h.2.2.2.1,h1,h2⟩
theorem Hn (x:Dd) (m:Nat):gL x.vs none (some (-1))++[.int (m:Int)]=(Od x m).vs:=by cases x <;> rfl
theorem Xo (x:Dd):∃z:Str,nT x.vs (-2)=some (.str z):=by cases x <;> exact⟨_,rfl⟩
def pQ:Sp:=fun vs H Q _=>∃(d b bk t:Addr) (kvs:List (aW × V)) (f:Str->Nat) (x:Dd),vs=[.ref d,.ref bk,.ref t]/\Dk H d b/\H bk=some (.dK kvs)/\BookIs kvs f/\H t=some (.tup x.vs)/\x.Ok ∧
 ∀(t':Addr) (x':Dd) (H':Hp),x'.Ok->H' t'=some (.tup x'.vs)->Fw d b H H'->Q (.ref t') H'
theorem Dk.dict {H:Hp} {d b a:Addr} {kvs:List (aW × V)} (D:Dk H d b) (g:H a=some (.dK kvs)):a≠d/\a≠b:=by
 obtain⟨ns,s,k,h1,h2,h3⟩:=D.ex
 exact⟨(fun e=>by rw[e,h1]at g;cases g),(fun e=>by rw[e,h2]at g;cases g)⟩
theorem Fw.dict {d b a:Addr} {H H':Hp} {kvs:List (aW × V)} (f:Fw d b H H') (g:H a=some (.dK kvs)):H' a=some (.dK kvs):=f.get g (Dk.dict f.d0 g).1 (Dk.dict f.d0 g).2
theorem Ho (T:Txt K mg) (cLdraw:aG P w K mg base 1 "_law_draw" ["_law_deck_here","_law_many"] bK)
  (D:DefAt K mg "_law_sized" fX ["_law_deck_here","_law_book_here","_law_deed_here"]):aG P w K mg base 2 "_law_sized" ["_law_deck_here","_law_book_here","_law_deed_here"] pQ:=by
 refine D.go cV (fun vs H Q E h=>?_) (fun f cdv A outer s H vs Q E hr h=>?_)
 ·obtain⟨d,b,bk,t,kvs,f,x,rfl,_⟩:=h;rfl
 ·obtain⟨d,b,bk,t,kvs,f,x,rfl,dk,gb,hB,gt,hx,q⟩:=h
  have hu1:=dU hr
  have hLdraw:=hr
  refine⟨_,(R.ad (R.ah (i:=3) cV.nd (R.ix (R.af (K:=K)) (R.v 2) (R.ba R.ab))) (R.ad (R.ar (R.al R.eq (R.ix (R.af (K:=K)) (R.v 2) R.ab) R.ae) (R.ag (R.ah (i:=3) cV.nd (R.ix (R.af (K:=K)) (R.v 2) (R.op R.ap R.ab (R.fn cLdraw hLdraw rfl (R.U (R.v 0) (R.U R.ab R.ac))))))) R.av) (R.ad (R.ah (i:=4) cV.nd (R.cq hu1 (R.v 1) (R.v 3) R.ab)) (R.ad (R.ah (i:=5) cV.nd (R.au (R.U (R.ix (R.af (K:=K)) (R.v 2) (R.ba R.ab)) (R.U (R.op R.ap R.ab (R.fn cLdraw hLdraw rfl (R.U (R.v 0) (R.U R.ab R.ac)))) (R.U (R.v 4) (R.U (R.op R.ap (R.v 4) R.ab) (R.U (R.op R.cn (R.op R.bi R.ab R.ab) (R.v 4)) (R.U (R.op R.ap (R.op R.cn (R.op R.bi R.ab R.ab) (R.v 4)) R.ab) R.ac)))))))) (R.ad (R.ah (i:=6) cV.nd (R.ix (R.aq (K:=K)) (R.v 5) (R.fn cLdraw hLdraw rfl (R.U (R.v 0) (R.U R.ab R.ac))))) (R.ag (R.ao (R.op R.bj (R.sl R.sT (R.v 2) R.pn (R.ps (R.ba R.ab))) (R.ai (R.U (R.ax (R.ji rfl) rfl T.b_max kL (R.U R.ab (R.U (R.ax (R.gu rfl) rfl T.b_min Qz (R.U (R.op R.bi R.ab R.ab) (R.U (R.v 6) R.ac))) R.ac))) R.ac)))))))))),?_⟩
  obtain⟨z0,ez⟩:=Xo x
  refine⟨_,SqT.of gt,_,ez,?_⟩
  dsimp only [aJ,oK];refine Ep (t:=wI _ _ _) (fun σ' H'=>∃z:Str,σ'=[some (.ref d),some (.ref bk),some (.ref t),some (.str z),none,none,none]/\Fw d b H H') (fun nx hnx=>?_) ?_
  ·refine⟨_,SqT.of gt,_,rR x,?_⟩
   show if decide (x.wd="move")=true then _ else _
   refine bP (fun h=>?_) (fun _=>hnx _ _ ⟨z0,rfl,.refl dk⟩)
   refine⟨d,b,2,rfl,dk,Zd,Zd,fun r H1 r0 r1 D1 k1=>?_⟩
   have f1:=(Fw.refl dk).draw D1 k1
   have hw:=of_decide_eq_true h
   cases x with
   | move a b' n=>
    rcases(by omega:r=0∨r=1) with rfl | rfl
    ·exact⟨_,SqT.of (f1.tup gt),_,rfl,hnx _ _ ⟨a,rfl,f1⟩⟩
    ·exact⟨_,SqT.of (f1.tup gt),_,rfl,hnx _ _ ⟨b',rfl,f1⟩⟩
   | add a n=>exact absurd (show("add":Str)="move" from hw) Zk
   | take a n=>exact absurd (show("take":Str)="move" from hw) Zk
   | send a b n=>exact absurd (show("send":Str)="move" from hw) Zk
   | fetch a b n=>exact absurd (show("fetch":Str)="move" from hw) Zk
   | pass a b c n=>exact absurd (show("pass":Str)="move" from hw) Zk
  ·rintro σ' H1 ⟨z,rfl,f1⟩
   have gb1:=f1.dict gb
   have gt1:=f1.tup gt
   obtain⟨o,ho,eo⟩:=dg gb1 hB z
   refine⟨bk,rfl,zJ gb1,o,ho,?_⟩
   rw[eo];dsimp only [aJ];refine⟨_,SqT.of gt1,_,Vo x,d,b,9,rfl,f1.dk,Zd,Zd,fun r H2 r0 r1 D2 k2=>⟨⟨Zd,Zd,Zd⟩,⟨Zd,Zd,Zd⟩,dE rfl,fun p hp=>?_⟩⟩
   have f2:=f1.draw D2 k2
   have pd:=D2.ne hp
   have f3:=f2.new (o:=.lst [.int (x.n:Int),.int (1+r),.int (f z:Int),.int ((f z:Int)+1),.int (10 ^ (12:Int).toNat - (f z:Int)),.int (10 ^ (12:Int).toNat - (f z:Int)+1)]) hp
   dsimp only [aJ];refine⟨d,b,6,rfl,f3.dk,Zd,Zd,fun r6 H4 i0 i1 D4 k4=>?_⟩
   have f4:=f3.draw D4 k4
   have gp:=k4 p _ aA pd.1 pd.2
   obtain⟨v,hv⟩:∃v:Int,nT [V.int (x.n:Int),.int (1+r),.int (f z:Int),.int ((f z:Int)+1),.int (10 ^ (12:Int).toNat - (f z:Int)),.int (10 ^ (12:Int).toNat - (f z:Int)+1)] r6=some (.int v):=by
    rcases six i0 i1 with rfl | rfl | rfl | rfl | rfl | rfl <;> exact⟨_,rfl⟩
   refine⟨_,SqL.of gp,_,hv,?_⟩
   dsimp only [aJ];have gt4:=f4.tup gt
   refine⟨_,gt4,fun p1 H5 s5 g5=>⟨⟨Zd,Zd,Zd⟩,aP rfl,fun p2 H6 s6 g6=>⟨_,_,s6 _ _ g5,g6,?_,fun p3 H7 s7 g7=>?_⟩⟩⟩
   ·cases x <;> exact Nat.le_of_ble_eq_true rfl
   have f7:=((f4.same s5).same s6).same s7
   obtain⟨m,em,m1,m2⟩:∃m:Nat,(if (if v<(10:Int) ^ (12:Int).toNat then v else (10:Int) ^ (12:Int).toNat) > 1 then (if v<(10:Int) ^ (12:Int).toNat then v else (10:Int) ^ (12:Int).toNat) else (1:Int))=(m:Int)/\1<=m/\m<=1000000000000:=by
    have e12:(10:Int) ^ (12:Int).toNat=1000000000000:=rfl
    rw[e12];by_cases h1:v<1000000000000
    ·rw[if_pos h1];by_cases h2:v > 1
     ·rw[if_pos h2];exact⟨v.toNat,Zo,Zo,Zo⟩
     ·rw[if_neg h2];exact⟨1,rfl,Zo,Zo⟩
    ·rw[if_neg h1];exact⟨1000000000000,Zd,Zo,Zo⟩
   rw[em,Hn]at g7;exact q p3 _ H7 (Hm hx m1 m2) g7 f7
def zK (H:Hp) (e:Addr) (n:Nat) (t:Addr) (x:Dd) (q:Bool):Prop:=H e=some (.lst [.int (n:Int),.ref t,.bl q])/\H t=some (.tup x.vs)
def pS:Sp:=fun vs H Q _=>∃(d b bk e t:Addr) (kvs:List (aW × V)) (f:Str->Nat) (x:Dd) (n:Nat) (a:Bool),vs=[.ref d,.ref bk,.ref e]/\Dk H d b/\H bk=some (.dK kvs)/\BookIs kvs f/\zK H e n t x a/\(a=true->x.far=true)/\e≠d/\e≠b ∧
 (∀y c H',iG f x a y->Fw d b H H'->H' c=some (.tup (An.vs y))->Q (.ref c) H')/\(∀H',Fw d b H H'->Q .non H')
theorem xR {f:Str->Nat} {x:Dd} (h:x.far=false):aX f x≠none:=by
 cases x with
 | add a n=>simp only [aX];split <;> exact fun z=>nomatch z
 | take a n=>simp only [aX];split <;> exact fun z=>nomatch z
 | move a b n=>
  simp only [aX];split
  ·exact fun z=>nomatch z
  ·split <;> exact fun z=>nomatch z
 | send a b n=>cases h
 | fetch a b n=>cases h
 | pass a b c n=>cases h
theorem Bt (f:Str->Nat) {x:Dd} (h:x.far=true):0<(cJ f x).length:=by cases x <;> first | exact Nat.zero_lt_succ _ | cases h
theorem tV (x:Dd):oT (.str x.wd) [.str "send",.str "fetch",.str "pass"]=x.far:=by cases x <;> rfl
theorem Hq (T:Txt K mg) (cLdraw:aG P w K mg base 1 "_law_draw" ["_law_deck_here","_law_many"] bK) (cLearly:aG P w K mg base 1 "_law_early" ["_law_book_here","_law_deed_here"] vM) (cLlates:aG P w K mg base 1 "_law_lates" ["_law_book_here","_law_deed_here"] vN)
  (D:DefAt K mg "_law_right" fY ["_law_deck_here","_law_book_here","_law_one"]):aG P w K mg base 2 "_law_right" ["_law_deck_here","_law_book_here","_law_one"] pS:=by
 refine D.go fL (fun vs H Q E h=>?_) (fun f cdv A outer s H vs Q E hr h=>?_)
 ·obtain⟨d,b,bk,e,t,kvs,f,x,n,a,rfl,_⟩:=h;rfl
 ·obtain⟨d,b,bk,e,t,kvs,f,x,n,a,rfl,dk,gb,hB,⟨ge,gt⟩,ha,ed,eb,qs,qn⟩:=h
  have hLdraw:=hr
  have hLearly:=hr
  have hLlates:=hr
  refine⟨_,(R.ad (R.ah (i:=3) fL.nd (R.fn cLearly hLearly rfl (R.U (R.v 1) (R.U (R.ix (R.aq (K:=K)) (R.v 2) R.ab) R.ac)))) (R.ad (R.ah (i:=4) fL.nd (R.bv (R.bp (K:=K)) (R.ix (R.af (K:=K)) (R.ix (R.aq (K:=K)) (R.v 2) R.ab) R.ab) (R.ai (R.U R.ae (R.U R.ae (R.U R.ae R.ac)))))) (R.ad (R.ar (R.tw (R.cj (R.bw (R.ix (R.aq (K:=K)) (R.v 2) R.ab)) (R.cv (R.al R.im (R.v 3) R.df)))) (R.ad (R.ah (i:=5) fL.nd (R.fn cLlates hLlates rfl (R.U (R.v 1) (R.U (R.ix (R.aq (K:=K)) (R.v 2) R.ab) R.ac)))) (R.ag (R.ao (R.ix (R.aq (K:=K)) (R.v 5) (R.fn cLdraw hLdraw rfl (R.U (R.v 0) (R.U (R.ax (R.bo (K:=K)) rfl T.b_len cW (R.U (R.v 5) R.ac)) R.ac))))))) R.av) (R.ad (R.ar (R.tw (R.dm (R.bw (R.ix (R.aq (K:=K)) (R.v 2) R.ab)) (R.dq (R.tw (R.cj (R.al R.im (R.v 3) R.df) (R.cv (R.bw (R.v 4)))))))) (R.ag (R.ao R.df)) R.av) (R.ag (R.ao (R.v 3))))))),?_⟩
  refine⟨_,SqL.of ge,_,rfl,bk,t,kvs,f,x,rfl,gb,hB,gt,fun y c H1 hy s1 gc=>?_,fun hy H1 s1=>?_⟩
  ·dsimp only [aJ];have ge1:=s1 _ _ ge
   have gt1:=s1 _ _ gt
   refine⟨_,SqL.of ge1,_,rfl,_,SqT.of gt1,_,rR x,aP rfl,fun tq H2 s2 g2=>⟨tq,_,rfl,.inr (SqT.of g2),rfl,rfl,?_⟩⟩
   have ge2:=s2 _ _ ge1
   have f2:=((Fw.refl dk).same s1).same s2
   show oK _ _ _ [some (.ref d),some (.ref bk),some (.ref e),some (.ref c),some (.bl (oT (.str x.wd) [.str "send",.str "fetch",.str "pass"])),none] H2
   rw[tV];refine⟨_,SqL.of ge2,_,rfl,?_⟩
   cases a with
   | true=>exact⟨_,SqL.of ge2,_,rfl,qn H2 f2⟩
   | false=>exact⟨_,SqL.of ge2,_,rfl,qs y c H2 (.inl ⟨rfl,hy⟩) f2 (s2 _ _ gc)⟩
  ·dsimp only [aJ];have ge1:=s1 _ _ ge
   have gt1:=s1 _ _ gt
   refine⟨_,SqL.of ge1,_,rfl,_,SqT.of gt1,_,rR x,aP rfl,fun tq H2 s2 g2=>⟨tq,_,rfl,.inr (SqT.of g2),rfl,rfl,?_⟩⟩
   have ge2:=s2 _ _ ge1
   have f2:=((Fw.refl dk).same s1).same s2
   have hfar:x.far=true:=by
    cases hh:x.far with
    | true=>rfl
    | false=>exact absurd hy (xR hh)
   show oK _ _ _ [some (.ref d),some (.ref bk),some (.ref e),some .non,some (.bl (oT (.str x.wd) [.str "send",.str "fetch",.str "pass"])),none] H2
   rw[tV,hfar];refine⟨_,SqL.of ge2,_,rfl,?_⟩
   cases a with
   | true=>
    refine⟨_,SqL.of ge2,_,rfl,bk,t,kvs,f,x,rfl,s2 _ _ (s1 _ _ gb),hB,s2 _ _ gt1,hfar,hy,fun l cs H3 fl gl pp s3=>?_⟩
    have f3:=f2.same s3
    have nl:=f2.dk.ne fl
    have hll:(cJ f x).length=cs.length:=pp.length
    have hlp:0<(cJ f x).length:=Bt f hfar
    have hlq:(cJ f x).length<=3:=by cases x <;> exact Nat.le_of_ble_eq_true rfl
    dsimp only [aJ];refine⟨_,.inl (SqL.of gl),d,b,(cs.length:Int),by rw[aQ],f3.dk,Zo,Zo,fun r H4 r0 r1 D4 k4=>?_⟩
    have F4:=(Fw.refl f3.dk).draw D4 k4
    obtain⟨r,rfl⟩:=fM r0
    have hr':r<cs.length:=by omega
    obtain⟨hr2,pr⟩:=Paired.get' (j:=r) pp hr'
    refine⟨_,SqL.of (F4.get gl nl.1 nl.2),.ref cs[r],gY (by rw[dR,fB hr'];rfl),?_⟩
    exact qs _ _ H4 (.inr ⟨rfl,hy,List.getElem_mem hr2⟩) (f3.trans F4) (F4.tup pr)
   | false=>exact⟨_,SqL.of ge2,_,rfl,qn H2 f2⟩
end
end KL
namespace KL
open PySem L2
section
variable {P:Program} {w:World} {K:W.Frag} {mg:Str->Option Value} {base:Heap}
def bQ:RX->Str | .next _ _=>"next" | .has _ _=>"has" | .kept _ _ _ _ _ _=>"kept" | .came _ _ _ _ _=>"came" | .asked _=>"asked" | .done _ _ _=>"done"
def Hr:RX->V | .next n _=>.int (n:Int) | .has z _=>.str z | .kept n _ _ _ _ _=>.int (n:Int) | .came n _ _ _ _=>.int (n:Int) | .asked n=>.int (n:Int) | .done n _ _=>.int (n:Int)
def Sg:RX->V | .next _ t=>.int (t:Int) | .has _ m=>.int (m:Int) | .kept _ t _ _ _ _=>.int (t:Int) | .came _ t _ _ _=>.int (t:Int) | .asked _=>.non | .done _ t _=>.int (t:Int)
theorem dW {H:Hp} {a:Addr} {r:RX} (h:r.At H a):∃xs,H a=some (.tup xs)/\nT xs 0=some (.str (bQ r))/\nT xs 1=some (Hr r)/\(Sg r≠.non->nT xs 2=some (Sg r)):=by
 cases r with
 | next n t=>exact⟨_,h,rfl,rfl,fun _=>rfl⟩
 | has z m=>exact⟨_,h,rfl,rfl,fun _=>rfl⟩
 | kept n t p k d y=>obtain⟨b,c,h1,h2,h3⟩:=h;exact⟨_,h1,rfl,rfl,fun _=>rfl⟩
 | came n t p k d=>obtain⟨b,h1,h2⟩:=h;exact⟨_,h1,rfl,rfl,fun _=>rfl⟩
 | asked n=>exact⟨_,h,rfl,rfl,fun z=>absurd rfl z⟩
 | done n t y=>obtain⟨b,h1,h2⟩:=h;exact⟨_,h1,rfl,rfl,fun _=>rfl⟩
def eG (rs:List RX):Str->Nat:=rs.foldl (fun f r=>match r with | .has z m=>eE f z m | _=>f) (fun _=>0)
inductive jG:List RX->(Str->Nat)->Prop
 | head {rs:List RX}:tU rs->jG rs (eG rs)
 | came {rs:List RX} {f:Str->Nat} {n t:Nat} {p k:Str} {x:Dd}:jG rs f->jG (rs++[.came n t p k x]) f
 | asked {rs:List RX} {f:Str->Nat} {n:Nat}:jG rs f->jG (rs++[.asked n]) f
 | done {rs:List RX} {f:Str->Nat} {n t t0:Nat} {p k:Str} {x:Dd} {q:Bool} {y:An}:jG rs f->.came n t0 p k x∈rs->iG f x q y->jG (rs++[.done n t y]) (after f x y)
structure Un where
 n:Nat
 x:Dd
 q:Bool
 e:Addr
 t:Addr
structure LvP (rs:List RX) (f:Str->Nat) (num turn:Nat) (us:List Un):Prop where
 wh:RX.Whole rs
 ok:∀r∈rs,r.Ok
 lv:jG rs f
 fb:∀z,f z<=1000000000000
 cnum:∀n t p k x,.came n t p k x∈rs->n<=num
 knum:∀n t p k x y,.kept n t p k x y∈rs->n<=num
 trn:∀q∈rs,q.turn<=turn
 und:∀u∈us,u.x.Ok/\(∃t p k,.came u.n t p k u.x∈rs)/\(∀t y,.done u.n t y∉rs)/\(u.q=true↔.asked u.n∈rs)/\(u.q=true->u.x.far=true)
 nd:(us.map (·.n)).Nodup
 asn:∀n,.asked n∈rs->∃t p k x,.came n t p k x∈rs
 dnn:∀n t y,.done n t y∈rs->∃t p k x,.came n t p k x∈rs
theorem LvP.turn' {rs:List RX} {f:Str->Nat} {num turn turn':Nat} {us:List Un} (h:LvP rs f num turn us) (ht:turn<=turn'):LvP rs f num turn' us:=
 ⟨h.wh,h.ok,h.lv,h.fb,h.cnum,h.knum,fun q hq=>eK (h.trn q hq) ht,h.und,h.nd,h.asn,h.dnn⟩
theorem LvP.came {rs:List RX} {f:Str->Nat} {num turn n:Nat} {us:List Un} (h:LvP rs f num turn us) (hn:num<n) (hn2:n<=999999) (ht:turn<=1000000000000) {p k:Str} {x:Dd} {e t:Addr} (hp:fU p) (hk:uX k) (hx:x.Ok) :
  LvP (rs++[.came n turn p k x]) f n turn (us++[⟨n,x,false,e,t⟩]):=by
 have no1:.asked n∉rs:=fun m=>by obtain⟨t,p,k,x,m⟩:=h.asn n m;have:=h.cnum _ _ _ _ _ m;omega
 have no2:∀t y,.done n t y∉rs:=fun t y m=>by obtain⟨t,p,k,x,m⟩:=h.dnn n t y m;have:=h.cnum _ _ _ _ _ m;omega
 refine⟨h.wh.snoc ⟨fun n' t' p' k' d' m=>kI (h.cnum _ _ _ _ _ m) hn,fun t' p' k' d' y' m=>absurd (h.knum _ _ _ _ _ _ m) Zo,h.trn⟩,fun r hr=>?_,h.lv.came,h.fb,fun n' t' p' k' x' hr=>?_,fun n' t' p' k' x' y' hr=>?_,fun q hq=>?_,fun u hu=>?_,?_,fun n' hr=>?_,fun n' t' y' hr=>?_⟩
 ·rcases aH hr with hr | rfl
  ·exact h.ok r hr
  ·exact⟨Zo,hn2,ht,hp,hk,hx⟩
 ·rcases aH hr with hr | hr
  ·have:=h.cnum _ _ _ _ _ hr;omega
  ·cases hr;exact aV _
 ·rcases aH hr with hr | hr
  ·have:=h.knum _ _ _ _ _ _ hr;omega
  ·cases hr
 ·rcases aH hq with hq | rfl
  ·exact h.trn q hq
  ·exact aV _
 ·rcases aH hu with hu | rfl
  ·obtain⟨h1,⟨t1,p1,k1,h2⟩,h3,h4,h5⟩:=h.und u hu
   refine⟨h1,⟨t1,p1,k1,List.mem_append_left _ h2⟩,fun t' y' m=>?_,⟨fun z=>List.mem_append_left _ (h4.mp z),fun m=>?_⟩,h5⟩
   ·rcases aH m with m | m
    ·exact h3 _ _ m
    ·cases m
   ·rcases aH m with m | m
    ·exact h4.mpr m
    ·cases m
  ·refine⟨hx,⟨turn,p,k,List.mem_append_right _ iM⟩,fun t' y' m=>?_,⟨(fun z=>nomatch z),fun m=>?_⟩,(fun z=>nomatch z)⟩
   ·rcases aH m with m | m
    ·exact no2 _ _ m
    ·cases m
   ·rcases aH m with m | m
    ·exact absurd m no1
    ·cases m
 ·rw[cS];refine List.nodup_append.mpr ⟨h.nd,Zs,fun a ha b hb=>?_⟩
  obtain⟨u,hu,rfl⟩:=Zmm.mp ha
  obtain⟨_,⟨t1,p1,k1,h2⟩,_⟩:=h.und u hu
  have:=h.cnum _ _ _ _ _ h2
  have hb':b=n:=by simpa using hb
  omega
 ·rcases aH hr with hr | hr
  ·obtain⟨t,p,k,x,m⟩:=h.asn n' hr;exact⟨t,p,k,x,List.mem_append_left _ m⟩
  ·cases hr
 ·rcases aH hr with hr | hr
  ·obtain⟨t,p,k,x,m⟩:=h.dnn n' _ _ hr;exact⟨t,p,k,x,List.mem_append_left _ m⟩
  ·cases hr
theorem Hs {us:List Un} (h:(us.map (·.n)).Nodup) {i j:Nat} {u v:Un} (hi:us[i]?=some u) (hj:us[j]?=some v) (hn:i≠j):u.n≠v.n:=by
 intro e;obtain⟨hi1,hi2⟩:=Zgs.mp hi
 obtain⟨hj1,hj2⟩:=Zgs.mp hj
 have p:=List.pairwise_iff_getElem.mp h
 rcases Nat.lt_or_gt_of_ne hn with z | z
 ·have:=p i j (by simpa using hi1) (by simpa using hj1) z
  simp only [List.getElem_map,hi2,hj2]at this
  exact this e
 ·have:=p j i (by simpa using hj1) (by simpa using hi1) z
  simp only [List.getElem_map,hi2,hj2]at this
  exact this e.symm
theorem lU {α:Type} {us:List α} {j:Nat} {u v:α} (h:v∈us.set j u):v=u∨∃i,i≠j/\us[i]?=some v:=by
 obtain⟨i,hi,e⟩:=List.getElem_of_mem h
 rw[List.getElem_set]at e;split at e
 ·exact .inl e.symm
 ·rename_i hne
  rw[List.length_set]at hi;exact .inr ⟨i,fun z=>hne z.symm,by rw[fB hi,e]⟩
theorem LvP.mark {rs:List RX} {f:Str->Nat} {num turn j:Nat} {us:List Un} {u:Un} (h:LvP rs f num turn us) (hu:us[j]?=some u) (hq:u.q=false) (hf:u.x.far=true) :
  LvP (rs++[.asked u.n]) f num turn (us.set j {u with q:=true }):=by
 have hm:=jM hu
 obtain⟨g1,⟨t1,p1,k1,g2⟩,g3,g4,g5⟩:=h.und u hm
 have no:.asked u.n∉rs:=fun m=>by rw[g4.mpr m]at hq;cases hq
 have ok1:=h.ok _ g2
 refine⟨h.wh.snoc ⟨⟨t1,p1,k1,u.x,g2,hf⟩,no,g3⟩,fun r hr=>?_,h.lv.asked,h.fb,fun n' t' p' k' x' hr=>?_,fun n' t' p' k' x' y' hr=>?_,fun q hq=>?_,fun v hv=>?_,?_,fun n' hr=>?_,fun n' t' y' hr=>?_⟩
 ·rcases aH hr with hr | rfl
  ·exact h.ok r hr
  ·exact⟨ok1.1,ok1.2.1⟩
 ·rcases aH hr with hr | hr
  ·exact h.cnum _ _ _ _ _ hr
  ·cases hr
 ·rcases aH hr with hr | hr
  ·exact h.knum _ _ _ _ _ _ hr
  ·cases hr
 ·rcases aH hq with hq | rfl
  ·exact h.trn q hq
  ·exact Nat.zero_le _
 ·rcases lU hv with rfl | ⟨i,hi,ei⟩
  ·refine⟨g1,⟨t1,p1,k1,List.mem_append_left _ g2⟩,fun t' y' m=>?_,⟨fun _=>List.mem_append_right _ iM,fun _=>rfl⟩,fun _=>hf⟩
   rcases aH m with m | m
   ·exact g3 _ _ m
   ·cases m
  ·obtain⟨h1,⟨t2,p2,k2,h2⟩,h3,h4,h5⟩:=h.und v (jM ei)
   have hne:=Hs h.nd ei hu hi
   refine⟨h1,⟨t2,p2,k2,List.mem_append_left _ h2⟩,fun t' y' m=>?_,⟨fun z=>List.mem_append_left _ (h4.mp z),fun m=>?_⟩,h5⟩
   ·rcases aH m with m | m
    ·exact h3 _ _ m
    ·cases m
   ·rcases aH m with m | m
    ·exact h4.mpr m
    ·injection m with m;exact absurd m hne
 ·have e:(us.set j {u with q:=true }).map (·.n)=us.map (·.n):=by
   obtain⟨hj1,hj2⟩:=Zgs.mp hu
   rw[List.map_set];apply List.ext_getElem Zs
   intro i h1 h2;rw[List.getElem_set];split
   ·rename_i z;subst z;simp [hj2]
   ·rfl
  rw[e];exact h.nd
 ·rcases aH hr with hr | hr
  ·obtain⟨t,p,k,x,m⟩:=h.asn n' hr;exact⟨t,p,k,x,List.mem_append_left _ m⟩
  ·cases hr;exact⟨t1,p1,k1,u.x,List.mem_append_left _ g2⟩
 ·rcases aH hr with hr | hr
  ·obtain⟨t,p,k,x,m⟩:=h.dnn n' _ _ hr;exact⟨t,p,k,x,List.mem_append_left _ m⟩
  ·cases hr
theorem LvP.done {rs:List RX} {f:Str->Nat} {num turn j:Nat} {us:List Un} {u:Un} {y:An} (h:LvP rs f num turn us) (hu:us[j]?=some u) (ht:turn<=1000000000000) (hy:iG f u.x u.q y) :
  LvP (rs++[.done u.n turn y]) (after f u.x y) num turn (us.eraseIdx j):=by
 have hm:=jM hu
 obtain⟨g1,⟨t1,p1,k1,g2⟩,g3,g4,g5⟩:=h.und u hm
 obtain⟨r1,r2⟩:=vK h.fb g1 hy g5
 have ok1:=h.ok _ g2
 refine⟨h.wh.snoc ⟨h.trn,g3,t1,p1,k1,u.x,g2,r1,fun z=>⟨fun m=>(r2 z).mp (g4.mpr m),fun m=>g4.mp ((r2 z).mpr m)⟩⟩,fun r hr=>?_,h.lv.done g2 hy,vL h.fb hy,fun n' t' p' k' x' hr=>?_,fun n' t' p' k' x' y' hr=>?_,fun q hq=>?_,fun v hv=>?_,?_,fun n' hr=>?_,fun n' t' y' hr=>?_⟩
 ·rcases aH hr with hr | rfl
  ·exact h.ok r hr
  ·exact⟨ok1.1,ok1.2.1,ht⟩
 ·rcases aH hr with hr | hr
  ·exact h.cnum _ _ _ _ _ hr
  ·cases hr
 ·rcases aH hr with hr | hr
  ·exact h.knum _ _ _ _ _ _ hr
  ·cases hr
 ·rcases aH hq with hq | rfl
  ·exact h.trn q hq
  ·exact aV _
 ·obtain⟨i,hi,ei⟩:=List.mem_eraseIdx_iff_getElem?.mp hv
  obtain⟨h1,⟨t2,p2,k2,h2⟩,h3,h4,h5⟩:=h.und v (jM ei)
  have hne:=Hs h.nd ei hu hi
  refine⟨h1,⟨t2,p2,k2,List.mem_append_left _ h2⟩,fun t' y' m=>?_,⟨fun z=>List.mem_append_left _ (h4.mp z),fun m=>?_⟩,h5⟩
  ·rcases aH m with m | m
   ·exact h3 _ _ m
   ·injection m with m;exact absurd m hne
  ·rcases aH m with m | m
   ·exact h4.mpr m
   ·cases m
 ·exact h.nd.sublist ((List.eraseIdx_sublist us j).map _)
 ·rcases aH hr with hr | hr
  ·obtain⟨t,p,k,x,m⟩:=h.asn n' hr;exact⟨t,p,k,x,List.mem_append_left _ m⟩
  ·cases hr
 ·rcases aH hr with hr | hr
  ·obtain⟨t,p,k,x,m⟩:=h.dnn n' _ _ hr;exact⟨t,p,k,x,List.mem_append_left _ m⟩
  ·cases hr;exact⟨t1,p1,k1,u.x,List.mem_append_left _ g2⟩
theorem LvP.start {rs:List RX} {num turn:Nat} (h:tU rs) (hk:∀n t p k x y,.kept n t p k x y∈rs->n<=num) (ht:∀n t,.next n t∈rs->t<=turn) (hf:∀z,eG rs z<=1000000000000):LvP rs (eG rs) num turn []:=by
 have no:∀r∈rs,r.rank=3->False:=fun r hr e=>by have:=h.rk r hr;omega
 refine⟨h.wh,h.ok,.head h,hf,fun n t p k x m=>(no _ m rfl).elim,hk,fun q hq=>?_,(fun u hu=>nomatch hu),List.nodup_nil,fun n m=>(no _ m rfl).elim,fun n t y m=>(no _ m rfl).elim⟩
 cases q with
 | next n t=>exact ht _ _ hq
 | has z m=>exact Nat.zero_le _
 | kept n t p k x y=>exact Nat.zero_le _
 | came n t p k x=>exact(no _ hq rfl).elim
 | asked n=>exact(no _ hq rfl).elim
 | done n t y=>exact(no _ hq rfl).elim
theorem rS {rs:List RX} (h:∀r∈rs,r.Ok) (z:Str):eG rs z<=1000000000000:=by
 have:∀(rs:List RX) (f:Str->Nat),(∀r∈rs,r.Ok)->(∀z,f z<=1000000000000)->∀z,rs.foldl (fun f r=>match r with | .has z m=>eE f z m | _=>f) f z<=1000000000000:=by
  intro rs;induction rs with
  | nil=>exact fun f _ hf=>hf
  | cons r rs ih=>
   intro f h hf;refine ih _ (fun r hr=>h r (kD _ hr)) ?_
   cases r with
   | has y m=>exact iH hf (h _ iM).2.2
   | _=>exact hf
 exact this rs _ h (fun _=>Nat.zero_le _) z
end
end KL
namespace KL
open PySem L2
section
variable {P:Program} {w:World} {K:W.Frag} {mg:Str->Option Value} {base:Heap}
theorem zL (x:Dd):∀v∈x.vs,fE v=true:=by
 intro v hv;cases x <;> simp only [Dd.vs,List.mem_cons,List.not_mem_nil,or_false]at hv <;> rcases hv with rfl | rfl | rfl | rfl | rfl <;> rfl
structure LvH (H:Hp) (d b ra bk ul:Addr) (H':Hp) (rs:List RX) (as:List Addr) (kvs:List (aW × V)) (f:Str->Nat) (us:List Un):Prop where
 d0:Dk H d b
 r0:∃xs,H ra=some (.lst xs)
 fbk:H bk=none
 ful:H ul=none
 fes:∀u∈us,H u.e=none
 nra:ra≠d/\ra≠b
 nbu:bk≠ul
 nue:∀u∈us,u.e≠ul/\u.e≠bk
 nde:(us.map (·.e)).Nodup
 dk:Dk H' d b
 rows:RxsAt H' ra rs as
 book:H' bk=some (.dK kvs)
 bis:BookIs kvs f
 und:H' ul=some (.lst ((us.map (·.e)).map V.ref))
 ent:∀u∈us,zK H' u.e u.n u.t u.x u.q
 fr:∀c o,H c=some o->c≠d->c≠b->c≠ra->H' c=some o
section
variable {H H' H'':Hp} {d b ra bk ul:Addr} {rs:List RX} {as:List Addr} {kvs:List (aW × V)} {f:Str->Nat} {us:List Un}
theorem LvH.ra_ne (h:LvH H d b ra bk ul H' rs as kvs f us):ra≠bk/\ra≠ul/\∀u∈us,ra≠u.e:=by
 obtain⟨xs,r0⟩:=h.r0
 exact⟨aF r0 h.fbk,aF r0 h.ful,fun u hu=>aF r0 (h.fes u hu)⟩
theorem LvH.ne_d (h:LvH H d b ra bk ul H' rs as kvs f us) {c:Addr} (hc:H c=none):c≠d/\c≠b:=h.d0.ne hc
theorem LvH.fw (h:LvH H d b ra bk ul H' rs as kvs f us) (F:Fw d b H' H''):LvH H d b ra bk ul H'' rs as kvs f us:=by
 have nb:=h.ne_d h.fbk
 have nu:=h.ne_d h.ful
 refine⟨h.d0,h.r0,h.fbk,h.ful,h.fes,h.nra,h.nbu,h.nue,h.nde,F.dk,h.rows.keep F.tk (F.get h.rows.lst h.nra.1 h.nra.2),F.get h.book nb.1 nb.2,h.bis,F.get h.und nu.1 nu.2,fun u hu=>?_,fun c o e n1 n2 n3=>F.get (h.fr c o e n1 n2 n3) n1 n2⟩
 have ne:=h.ne_d (h.fes u hu)
 exact⟨F.get (h.ent u hu).1 ne.1 ne.2,F.tup (h.ent u hu).2⟩
theorem Dk.put' {o:HO} {a:Addr} (D:Dk H' d b) (h1:a≠d) (h2:a≠b):Dk (aI H' a o) d b:=by
 obtain⟨ns,s,k,e1,e2,e3⟩:=D.ex
 exact⟨ns,s,k,by rw[aE h1.symm];exact e1,by rw[aE h2.symm];exact e2,e3⟩
theorem LvH.row (h:LvH H d b ra bk ul H' rs as kvs f us) {r:RX} {a:Addr} (hr:r.At H' a):LvH H d b ra bk ul (aI H' ra (.lst (as.map V.ref++[.ref a]))) (rs++[r]) (as++[a]) kvs f us:=by
 obtain⟨n1,n2,n3⟩:=h.ra_ne
 have tk:TK H' (aI H' ra (.lst (as.map V.ref++[.ref a]))):=dL h.rows.lst
 refine⟨h.d0,h.r0,h.fbk,h.ful,h.fes,h.nra,h.nbu,h.nue,h.nde,Dk.put' h.dk h.nra.1 h.nra.2,h.rows.snoc tk (hr.tk tk) aA,by rw[aE n1.symm];exact h.book,h.bis,by rw[aE n2.symm];exact h.und,fun u hu=>⟨by rw[aE (n3 u hu).symm];exact(h.ent u hu).1,tk _ _ (h.ent u hu).2⟩,fun c o e m1 m2 m3=>by rw[aE m3];exact h.fr c o e m1 m2 m3⟩
theorem LvH.push (h:LvH H d b ra bk ul H' rs as kvs f us) {n:Nat} {x:Dd} {q:Bool} {e t:Addr} (he:zK H' e n t x q) (hf:H e=none) (h1:e≠ul) (h2:e≠bk) (h3:∀u∈us,u.e≠e) :
  LvH H d b ra bk ul (aI H' ul (.lst ((us.map (·.e)).map V.ref++[.ref e]))) rs as kvs f (us++[⟨n,x,q,e,t⟩]):=by
 obtain⟨n1,n2,n3⟩:=h.ra_ne
 have nu:=h.ne_d h.ful
 have tk:TK H' (aI H' ul (.lst ((us.map (·.e)).map V.ref++[.ref e]))):=dL h.und
 refine⟨h.d0,h.r0,h.fbk,h.ful,fun u hu=>?_,h.nra,h.nbu,fun u hu=>?_,?_,Dk.put' h.dk nu.1 nu.2,h.rows.keep tk (by rw[aE n2];exact h.rows.lst),by rw[aE h.nbu];exact h.book,h.bis,by rw[aA,cS,cS];rfl,fun u hu=>?_,fun c o e' m1 m2 m3=>by rw[aE (aF e' h.ful)];exact h.fr c o e' m1 m2 m3⟩
 ·rcases aH hu with hu | rfl
  ·exact h.fes u hu
  ·exact hf
 ·rcases aH hu with hu | rfl
  ·exact h.nue u hu
  ·exact⟨h1,h2⟩
 ·rw[cS];refine List.nodup_append.mpr ⟨h.nde,Zs,fun a ha c hc=>?_⟩
  obtain⟨u,hu,rfl⟩:=Zmm.mp ha
  have:c=e:=by simpa using hc
  rw[this];exact h3 u hu
 ·rcases aH hu with hu | rfl
  ·exact⟨by rw[aE (h.nue u hu).1];exact(h.ent u hu).1,tk _ _ (h.ent u hu).2⟩
  ·exact⟨by rw[aE h1];exact he.1,tk _ _ he.2⟩
theorem Sh (h:(us.map (·.e)).Nodup) {i j:Nat} {u v:Un} (hi:us[i]?=some u) (hj:us[j]?=some v) (hn:i≠j):u.e≠v.e:=by
 intro e;obtain⟨hi1,hi2⟩:=Zgs.mp hi
 obtain⟨hj1,hj2⟩:=Zgs.mp hj
 have p:=List.pairwise_iff_getElem.mp h
 rcases Nat.lt_or_gt_of_ne hn with z | z
 ·have:=p i j (by simpa using hi1) (by simpa using hj1) z
  simp only [List.getElem_map,hi2,hj2]at this
  exact this e
 ·have:=p j i (by simpa using hj1) (by simpa using hi1) z
  simp only [List.getElem_map,hi2,hj2]at this
  exact this e.symm
theorem LvH.mark (h:LvH H d b ra bk ul H' rs as kvs f us) {j:Nat} {u:Un} (hu:us[j]?=some u) :
  LvH H d b ra bk ul (aI H' u.e (.lst [.int (u.n:Int),.ref u.t,.bl true])) rs as kvs f (us.set j {u with q:=true }):=by
 obtain⟨n1,n2,n3⟩:=h.ra_ne
 have hm:=jM hu
 have ne:=h.ne_d (h.fes u hm)
 have tk:TK H' (aI H' u.e (.lst [.int (u.n:Int),.ref u.t,.bl true])):=dL (h.ent u hm).1
 have em:(us.set j {u with q:=true }).map (·.e)=us.map (·.e):=by
  obtain⟨hj1,hj2⟩:=Zgs.mp hu
  rw[List.map_set];apply List.ext_getElem Zs
  intro i h1 h2;rw[List.getElem_set];split
  ·rename_i z;subst z;simp [hj2]
  ·rfl
 refine⟨h.d0,h.r0,h.fbk,h.ful,fun v hv=>?_,h.nra,h.nbu,fun v hv=>?_,by rw[em];exact h.nde,Dk.put' h.dk ne.1 ne.2,h.rows.keep tk (by rw[aE (n3 u hm)];exact h.rows.lst),by rw[aE (h.nue u hm).2.symm];exact h.book,h.bis,by rw[aE (h.nue u hm).1.symm,em];exact h.und,fun v hv=>?_,fun c o e' m1 m2 m3=>by rw[aE (aF e' (h.fes u hm))];exact h.fr c o e' m1 m2 m3⟩
 ·rcases lU hv with rfl | ⟨i,hi,ei⟩
  ·exact h.fes u hm
  ·exact h.fes v (jM ei)
 ·rcases lU hv with rfl | ⟨i,hi,ei⟩
  ·exact h.nue u hm
  ·exact h.nue v (jM ei)
 ·rcases lU hv with rfl | ⟨i,hi,ei⟩
  ·exact⟨aA,tk _ _ (h.ent u hm).2⟩
  ·have hv':=jM ei
   exact⟨by rw[aE (Sh h.nde ei hu hi)];exact(h.ent v hv').1,tk _ _ (h.ent v hv').2⟩
theorem LvH.drop (h:LvH H d b ra bk ul H' rs as kvs f us) (j:Nat):LvH H d b ra bk ul (aI H' ul (.lst (((us.map (·.e)).eraseIdx j).map V.ref))) rs as kvs f (us.eraseIdx j):=by
 obtain⟨n1,n2,n3⟩:=h.ra_ne
 have nu:=h.ne_d h.ful
 have tk:TK H' (aI H' ul (.lst (((us.map (·.e)).eraseIdx j).map V.ref))):=dL h.und
 have sub:∀u∈us.eraseIdx j,u∈us:=fun u hu=>List.mem_of_mem_eraseIdx hu
 have em:(us.eraseIdx j).map (·.e)=(us.map (·.e)).eraseIdx j:=by
  have:∀(us:List Un) (j:Nat),(us.eraseIdx j).map (·.e)=(us.map (·.e)).eraseIdx j:=by
   intro us;induction us with
   | nil=>intro j;simp
   | cons u us ih=>
    intro j;cases j with
    | zero=>simp
    | succ j=>rw[List.eraseIdx_cons_succ,List.map_cons,List.map_cons,List.eraseIdx_cons_succ,ih]
  exact this us j
 refine⟨h.d0,h.r0,h.fbk,h.ful,fun u hu=>h.fes u (sub u hu),h.nra,h.nbu,fun u hu=>h.nue u (sub u hu),h.nde.sublist ((List.eraseIdx_sublist us j).map _),Dk.put' h.dk nu.1 nu.2,h.rows.keep tk (by rw[aE n2];exact h.rows.lst),by rw[aE h.nbu];exact h.book,h.bis,by rw[aA,em],fun u hu=>⟨by rw[aE (h.nue u (sub u hu)).1];exact(h.ent u (sub u hu)).1,tk _ _ (h.ent u (sub u hu)).2⟩,fun c o e' m1 m2 m3=>by rw[aE (aF e' h.ful)];exact h.fr c o e' m1 m2 m3⟩
theorem LvH.pay (h:LvH H d b ra bk ul H' rs as kvs f us) {kvs':List (aW × V)} {f':Str->Nat} (k:K1 bk H' H'') (g:H'' bk=some (.dK kvs')) (hb:BookIs kvs' f'):LvH H d b ra bk ul H'' rs as kvs' f' us:=by
 obtain⟨n1,n2,n3⟩:=h.ra_ne
 have nb:=h.ne_d h.fbk
 have tk:TK H' H'':=fun a xs e=>k _ _ e (fun z=>by rw[z,h.book]at e;cases e)
 refine⟨h.d0,h.r0,h.fbk,h.ful,h.fes,h.nra,h.nbu,h.nue,h.nde,?_,h.rows.keep tk (k _ _ h.rows.lst n1),g,hb,k _ _ h.und h.nbu.symm,fun u hu=>⟨k _ _ (h.ent u hu).1 (h.nue u hu).2,tk _ _ (h.ent u hu).2⟩,fun c o e' m1 m2 m3=>k _ _ (h.fr c o e' m1 m2 m3) (aF e' h.fbk)⟩
 obtain⟨ns,s,k0,e1,e2,e3⟩:=h.dk.ex
 exact⟨ns,s,k0,k _ _ e1 nb.1.symm,k _ _ e2 nb.2.symm,e3⟩
theorem LvH.rem (h:LvH H d b ra bk ul H' rs as kvs f us) (hn:(us.map (·.n)).Nodup) {j:Nat} {u:Un} (hu:us[j]?=some u) {Q:VK} (q:Q .non (aI H' ul (.lst (((us.map (·.e)).eraseIdx j).map V.ref)))):jB (.ref ul) [.ref u.e] H' Q:=by
 have hm:=jM hu
 refine⟨us.map (·.e),j,h.und,by rw[dR,hu];rfl,h.nde,fun c hc hne=>?_,q⟩
 obtain⟨v,hv,rfl⟩:=Zmm.mp hc
 obtain⟨i,hi,ei⟩:=List.getElem_of_mem hv
 have hv':us[i]?=some v:=by rw[fB hi,ei]
 have hij:i≠j:=fun z=>hne (by rw[z]at hv';rw[hu]at hv';cases hv';rfl)
 refine⟨(v.n:Int),(u.n:Int),[.ref v.t,.bl v.q],[.ref u.t,.bl u.q],(h.ent v hv).1,(h.ent u hm).1,?_,rfl,fun i u' v' e1 e2=>?_⟩
 ·have:=Hs hn hv' hu hij;omega
 ·match i,e1,e2 with
  | 0,e1,e2=>
   cases e1;cases e2
   exact .inr ⟨v.t,u.t,_,_,rfl,rfl,(h.ent v hv).2,(h.ent u hm).2,fun j x y h1 h2=>⟨zL v.x x (jM h1),zL u.x y (jM h2)⟩⟩
  | 1,e1,e2=>cases e1;cases e2;exact .inl ⟨rfl,rfl⟩
  | i+2,e1,e2=>cases e1
end
end
end KL
namespace KL
open PySem L2
section
variable {P:Program} {w:World} {K:W.Frag} {mg:Str->Option Value} {base:Heap}
theorem xS {rs:List RX} (h:RX.Whole rs) {n t:Nat} {p k:Str} {x:Dd} {y:An} (hm:.kept n t p k x y∈rs):∃n0 t0,RX.next n0 t0∈rs/\n<n0:=by
 induction h with
 | nil=>cases hm
 | snoc hw hf ih=>
  rcases aH hm with hm | rfl
  ·obtain⟨n0,t0,h1,h2⟩:=ih hm;exact⟨n0,t0,List.mem_append_left _ h1,h2⟩
  ·obtain⟨_,⟨n0,t0,h1,h2,_⟩,_⟩:=hf;exact⟨n0,t0,List.mem_append_left _ h1,h2⟩
def dQ (rs:List RX):List (aW × V):=rs.filterMap fun r=>match r with | .has z m=>some (Sum.inr z,.int (m:Int)) | _=>none
theorem cR:∀(rs:List RX) (kvs:List (aW × V)) (f:Str->Nat),BookIs kvs f->BookIs (aK kvs (dQ rs)) (rs.foldl (fun f r=>match r with | .has z m=>eE f z m | _=>f) f)
 | [],kvs,f,h=>h
 | r::rs,kvs,f,h=>by
  cases r with
  | has z m=>exact cR rs _ _ (h.put z m)
  | next n t=>exact cR rs _ _ h
  | kept n t p k x y=>exact cR rs _ _ h
  | came n t p k x=>exact cR rs _ _ h
  | asked n=>exact cR rs _ _ h
  | done n t y=>exact cR rs _ _ h
def Ht:RX->List (aW × V) | .has z m=>[(Sum.inr z,.int (m:Int))] | _=>[]
theorem rT {r:RX} (h:bQ r≠"has"):Ht r=[]:=by cases r <;> first | rfl | exact absurd rfl h
theorem iI (rs:List RX) (r:RX):dQ (rs++[r])=dQ rs++Ht r:=by
 unfold dQ;rw[List.filterMap_append];cases r <;> rfl
theorem xT {r:RX} (h:bQ r="has"):∃z m,r=.has z m:=by
 cases r with
 | has z m=>exact⟨z,m,rfl⟩
 | next n t=>exact absurd (show("next":Str)="has" from h) Zk
 | kept n t p k x y=>exact absurd (show("kept":Str)="has" from h) Zk
 | came n t p k x=>exact absurd (show("came":Str)="has" from h) Zk
 | asked n=>exact absurd (show("asked":Str)="has" from h) Zk
 | done n t y=>exact absurd (show("done":Str)="has" from h) Zk
theorem zM {r:RX} (h:bQ r="next"):∃n t,r=.next n t:=by
 cases r with
 | next n t=>exact⟨n,t,rfl⟩
 | has z m=>exact absurd (show("has":Str)="next" from h) Zk
 | kept n t p k x y=>exact absurd (show("kept":Str)="next" from h) Zk
 | came n t p k x=>exact absurd (show("came":Str)="next" from h) Zk
 | asked n=>exact absurd (show("asked":Str)="next" from h) Zk
 | done n t y=>exact absurd (show("done":Str)="next" from h) Zk
theorem tW {r:RX} (h:bQ r="kept"):∃n t p k x y,r=.kept n t p k x y:=by
 cases r with
 | kept n t p k x y=>exact⟨n,t,p,k,x,y,rfl⟩
 | has z m=>exact absurd (show("has":Str)="kept" from h) Zk
 | next n t=>exact absurd (show("next":Str)="kept" from h) Zk
 | came n t p k x=>exact absurd (show("came":Str)="kept" from h) Zk
 | asked n=>exact absurd (show("asked":Str)="kept" from h) Zk
 | done n t y=>exact absurd (show("done":Str)="kept" from h) Zk
theorem aM {α:Type} {xs:List α} {i:Nat} {x:α} (h:xs[i]?=some x):xs.take (i+1)=xs.take i++[x]:=by rw[List.take_add_one,h];rfl
theorem LvH.men {H H':Hp} {d b ra bk ul lm:Addr} {rs:List RX} {as:List Addr} {kvs:List (aW × V)} {f:Str->Nat} {us:List Un} {M:List Addr} (h:LvH H d b ra bk ul H' rs as kvs f us) (hM:MenusAt H lm M) (h1:d∉M) (h2:b∉M) (h3:ra∉M):MenusAt H' lm M:=
 hM.keep fun c hc o e=>h.fr c o e (fun z=>h1 (z ▸ hc)) (fun z=>h2 (z ▸ hc)) (fun z=>h3 (z ▸ hc))
def Si (H:Hp) (d b ra lm bk ul wa:Addr) (many i:Nat) (σ':St) (H':Hp):Prop:=∃(rs:List RX) (as:List Addr) (kvs:List (aW × V)) (f:Str->Nat) (us:List Un) (num turn:Nat) (o9 o10 o11 o12 o13:Option V),σ'=[some (.ref d),some (.ref ra),some (.ref lm),some (.int (many:Int)),some (.ref bk),some (.ref ul),some (.ref wa),some (.int (num:Int)),some (.int (turn:Int)),o9,o10,o11,o12,o13]/\LvH H d b ra bk ul H' rs as kvs f us/\LvP rs f num turn us/\rs.length<=13+i/\num<=900006+9*i/\turn<=500000000000+9*i/\kvs.length<=13+2*i/\us.length<=i
theorem Mq (T:Txt K mg) (cLdraw:aG P w K mg base 1 "_law_draw" ["_law_deck_here","_law_many"] bK) (cLdeed:aG P w K mg base 3 "_law_deed" ["_law_deck_here","_law_names","_law_houses"] oF) (cLspot:aG P w K mg base 2 "_law_spot" ["_law_deck_here","_law_menus_here"] oG) (cLsized:aG P w K mg base 2 "_law_sized" ["_law_deck_here","_law_book_here","_law_deed_here"] pQ)
  {fa:Addr} {cdv:Value} {A:Around} {outer:List Env} {s:Shared} {H0:Hp} {E:XK} (hr:Room 3 (A.deeper (PyProof.Rows.envOfC "_law_lived" (aB bF) s.heap.objs.size fa cdv))) :
  ∃t,XB (kZ rH P w K mg base ["_law_deck_here","_law_rows","_law_menus_here","_law_many","_law_book_here","_law_under","_law_words_here","_law_number","_law_turn","_law_k","_law_way","_law_deed_here","_law_one","_law_answer_here"] "_law_lived" (aB bF) fa cdv A outer s H0 E).nox (Yg (Mb (Ya (Mb (bD bF) 5)) 2)) t ∧
  ∀(D:nR) (H H9:Hp) (d b ra lm bk ul wa:Addr) (M:List Addr) (many i way num turn turn':Nat) (rs:List RX) (as:List Addr) (kvs:List (aW × V)) (f:Str->Nat) (us:List Un) (o11 o12 o13:Option V),MenusAt H lm M->d∉M->b∉M->ra∉M->i<30->LvH H d b ra bk ul H9 rs as kvs f us->LvP rs f num turn' us->rs.length<=13+i->num<=900006+9*i->turn<=500000000000+9*i->kvs.length<=13+2*i->us.length<=i->turn<=turn'->turn'<=turn+9->(∀ σ' H',Si H d b ra lm bk ul wa many (i+1) σ' H'->D.nx σ' H') →
   t D [some (.ref d),some (.ref ra),some (.ref lm),some (.int (many:Int)),some (.ref bk),some (.ref ul),some (.ref wa),some (.int (num:Int)),some (.int (turn':Int)),some (.int (i:Int)),some (.int (way:Int)),o11,o12,o13] H9:=by
 have hLdraw:Room 1 _:=hr.mono Zd
 have hLdeed:Room 3 _:=hr.mono Zd
 have hLspot:Room 2 _:=hr.mono Zd
 have hLsized:Room 2 _:=hr.mono Zd
 have hu:=hr.units0
 have hu64:=hr.units
 refine⟨_,(R.ad (R.ah (i:=7) aY.nd (R.op R.ap (R.op R.ap (R.v 7) R.ab) (R.ix (R.aq (K:=K)) (R.au (R.U R.ab (R.U R.ab (R.U (R.fn cLdraw hLdraw rfl (R.U (R.v 0) (R.U R.ab R.ac))) R.ac)))) (R.fn cLdraw hLdraw rfl (R.U (R.v 0) (R.U R.ab R.ac)))))) (R.ad (R.ah (i:=11) aY.nd (R.fn cLsized hLsized rfl (R.U (R.v 0) (R.U (R.v 4) (R.U (R.fn cLdeed hLdeed rfl (R.U (R.v 0) (R.U (R.ix (R.aq (K:=K)) (R.v 2) R.ab) (R.U (R.ix (R.aq (K:=K)) (R.v 2) R.ab) R.ac)))) R.ac))))) (R.ad (R.bc (R.bb (K:=K) PySem.F.plainAttrs_list PySem.F.slot_list_append PySem.F.type_list_append R.bn (R.v 1) (R.U (R.op R.bj (R.op R.bj (R.ai (R.U R.ae (R.U (R.v 7) (R.U (R.v 8) R.ac)))) (R.fn cLspot hLspot rfl (R.U (R.v 0) (R.U (R.v 2) R.ac)))) (R.ai (R.U (R.v 11) R.ac))) R.ac))) (R.ag (R.bc (R.bb (K:=K) PySem.F.plainAttrs_list PySem.F.slot_list_append PySem.F.type_list_append R.bn (R.v 5) (R.U (R.au (R.U (R.v 7) (R.U (R.v 11) (R.U R.bl R.ac)))) R.ac))))))),?_⟩
 intro D H H9 d b ra lm bk ul wa M many i way num turn turn' rs as kvs f us o11 o12 o13 hM oD oB oR hi L9 P8 l1 l2 l3 l4 l5 t1 t2 nxt;refine bE (fun σ' H'=>∃(m:Nat),σ'=[some (.ref d),some (.ref ra),some (.ref lm),some (.int (many:Int)),some (.ref bk),some (.ref ul),some (.ref wa),some (.int (m:Int)),some (.int (turn':Int)),some (.int (i:Int)),some (.int (way:Int)),o11,o12,o13]/\num<m/\m<=num+9/\LvH H d b ra bk ul H' rs as kvs f us) (fun nx' hnx'=>?_) ?_
 ·refine⟨d,b,9,rfl,L9.dk,Zd,Zd,fun r8 H8 x0 x1 D8 k8=>⟨dE rfl,fun p hp=>⟨d,b,3,rfl,D8.new hp,Zd,Zd,fun r9 Ha y0 y1 D9 k9=>?_⟩⟩⟩
  obtain⟨r8,rfl⟩:=fM x0
  have hpd:=D8.ne hp
  have gp:=k9 p _ aA hpd.1 hpd.2
  have La:=L9.fw ((((Fw.refl L9.dk).draw D8 k8).new hp).draw D9 k9)
  rcases(by omega:r9=0∨r9=1∨r9=2) with rfl | rfl | rfl
  ·exact⟨_,SqL.of gp,_,rfl,hnx' _ _ ⟨num+1,rfl,Zo,Zo,La⟩⟩
  ·exact⟨_,SqL.of gp,_,rfl,hnx' _ _ ⟨num+1,rfl,Zo,Zo,La⟩⟩
  ·exact⟨_,SqL.of gp,_,rfl,hnx' _ _ ⟨num+1+r8,rfl,Zo,Zo,La⟩⟩
 rintro σ' Ha ⟨m,rfl,m1,m2,La⟩
 have hMa:=La.men hM oD oB oR
 obtain⟨a0,a1,a2,a3,ws,us',ps,ks,eM,h0,h1,h2,h3,h4,mw,mu,_⟩:=hMa.ex
 have nd:∀c∈M,c≠d/\c≠b:=fun c hc=>⟨(fun z=>oD (z ▸ hc)),(fun z=>oB (z ▸ hc))⟩
 have i0:a0∈M:=by rw[eM];simp
 have i1:a1∈M:=by rw[eM];simp
 refine⟨_,SqL.of h0,_,rfl,_,SqL.of h0,_,rfl,d,b,a0,a1,ws,us',rfl,La.dk,h1,h2,⟨(nd a0 i0).1,(nd a0 i0).2,(nd a1 i1).1,(nd a1 i1).2⟩,mw,mu,fun td xd Hb hxd gxd fb=>?_⟩
 have Lb:=La.fw fb
 refine⟨d,b,bk,td,kvs,f,xd,rfl,Lb.dk,Lb.book,Lb.bis,gxd,hxd,fun t' x' Hc hx' gx' fc=>?_⟩
 have Lc:=Lb.fw fc
 dsimp only [aJ];refine⟨.inl ⟨rfl,_,SqL.of Lc.rows.lst⟩,aP rfl,fun q1 Hd sd gd=>?_⟩
 have Ld:=Lc.fw ((Fw.refl Lc.dk).same sd)
 refine⟨d,b,lm,M,rfl,Ld.dk,Ld.men hM oD oB oR,oD,oB,fun q2 pp kk He hpp hkk ge fe=>?_⟩
 refine⟨_,_,fe.tup gd,ge,Nat.le_of_ble_eq_true rfl,fun q3 Hf sf gf=>⟨aP rfl,fun q4 Hg sg gg=>⟨_,_,sg _ _ gf,gg,Nat.le_of_ble_eq_true rfl,fun q5 Hh sh gh=>?_⟩⟩⟩
 have Fh:=(((fe.same sf).same sg).same sh)
 have Lh:=Ld.fw Fh
 have lr:=Lh.rows.len
 refine⟨ra,_,_,rfl,rfl,Lh.rows.lst,by rw[aQ];exact kI (m:=1000) Zo Zd,?_⟩
 have Li:=Lh.row (r:=.came m turn' pp kk x') (a:=q5) ⟨t',gh,Fh.tup (sd _ _ gx')⟩
 have gti:(aI Hh ra (.lst (as.map V.ref++[.ref q5]))) t'=some (.tup x'.vs):=dL Lh.rows.lst _ _ (Fh.tup (sd _ _ gx'))
 generalize aI Hh ra (.lst (as.map V.ref++[.ref q5]))=Hi at Li gti;refine⟨.inl ⟨rfl,_,SqL.of Li.und⟩,dE rfl,fun e he=>?_⟩
 have Lj:=Li.fw ((Fw.refl Li.dk).new (o:=.lst [.int (m:Int),.ref t',.bl false]) he)
 have ge':zK (aI Hi e (.lst [.int (m:Int),.ref t',.bl false])) e m t' x' false:=⟨aA,aL gti he⟩
 have eul:e≠ul:=(aF Li.und he).symm
 have ebk:e≠bk:=(aF Li.book he).symm
 have eus:∀u∈us,u.e≠e:=fun u hu=>aF (Li.ent u hu).1 he
 have fe0:H e=none:=by
  cases hh:H e with
  | none=>rfl
  | some o=>
   have hed:=Li.dk.ne he
   have:e≠ra:=(aF Li.rows.lst he).symm
   rw[Li.fr e o hh hed.1 hed.2 this]at he;cases he
 refine⟨ul,_,_,rfl,rfl,Lj.und,by rw[aQ,aQ];exact kI (m:=1000) Zo Zd,?_⟩
 exact nxt _ _ ⟨_,_,kvs,f,_,m,turn',_,_,_,_,_,rfl,Lj.push ge' fe0 eul ebk eus,P8.came m1 Zo Zo hpp hkk hx',by simp;omega,Zo,Zo,Zo,by simp;omega⟩
end
end KL
namespace KL
open PySem L2
section
variable {P:Program} {w:World} {K:W.Frag} {mg:Str->Option Value} {base:Heap}
theorem Mr (T:Txt K mg) (cLdraw:aG P w K mg base 1 "_law_draw" ["_law_deck_here","_law_many"] bK) (cLright:aG P w K mg base 2 "_law_right" ["_law_deck_here","_law_book_here","_law_one"] pS) (cLchanged:aG P w K mg base 2 "_law_changed" ["_law_book_here","_law_deed_here","_law_answer_here"] kQ)
  {fa:Addr} {cdv:Value} {A:Around} {outer:List Env} {s:Shared} {H0:Hp} {E:XK} (hr:Room 3 (A.deeper (PyProof.Rows.envOfC "_law_lived" (aB bF) s.heap.objs.size fa cdv))) :
  ∃t,XB (kZ rH P w K mg base ["_law_deck_here","_law_rows","_law_menus_here","_law_many","_law_book_here","_law_under","_law_words_here","_law_number","_law_turn","_law_k","_law_way","_law_deed_here","_law_one","_law_answer_here"] "_law_lived" (aB bF) fa cdv A outer s H0 E).nox (Yh (Mb (Ya (Mb (bD bF) 5)) 2)) t ∧
  ∀(D:nR) (H H9:Hp) (d b ra lm bk ul wa:Addr) (M:List Addr) (many i way num turn turn':Nat) (rs:List RX) (as:List Addr) (kvs:List (aW × V)) (f:Str->Nat) (us:List Un) (o11 o12 o13:Option V),MenusAt H lm M->d∉M->b∉M->ra∉M->i<30->LvH H d b ra bk ul H9 rs as kvs f us->LvP rs f num turn' us->rs.length<=13+i->num<=900006+9*i->turn<=500000000000+9*i->kvs.length<=13+2*i->us.length<=i->turn<=turn'->turn'<=turn+9->us≠[]->(∀ σ' H',Si H d b ra lm bk ul wa many (i+1) σ' H'->D.nx σ' H') →
   t D [some (.ref d),some (.ref ra),some (.ref lm),some (.int (many:Int)),some (.ref bk),some (.ref ul),some (.ref wa),some (.int (num:Int)),some (.int (turn':Int)),some (.int (i:Int)),some (.int (way:Int)),o11,o12,o13] H9:=by
 have hLdraw:Room 1 _:=hr.mono Zd
 have hLright:Room 2 _:=hr.mono Zd
 have hLchanged:Room 2 _:=hr.mono Zd
 have hu:=hr.units0
 have hu64:=hr.units
 refine⟨_,(R.ad (R.ah (i:=12) aY.nd (R.ix (R.aq (K:=K)) (R.v 5) (R.fn cLdraw hLdraw rfl (R.U (R.v 0) (R.U (R.ax (R.bo (K:=K)) rfl T.b_len cW (R.U (R.v 5) R.ac)) R.ac))))) (R.ad (R.ah (i:=13) aY.nd (R.fn cLright hLright rfl (R.U (R.v 0) (R.U (R.v 4) (R.U (R.v 12) R.ac))))) (R.ag (R.ar (R.tw (R.cj (R.al R.eq (R.v 10) R.ab) (R.cj (R.dj (R.bw (R.ix (R.aq (K:=K)) (R.v 12) R.ab))) (R.cv (R.al (R.bp (K:=K)) (R.ix (R.af (K:=K)) (R.ix (R.aq (K:=K)) (R.v 12) R.ab) R.ab) (R.ai (R.U R.ae (R.U R.ae (R.U R.ae R.ac))))))))) (R.ad (R.bc (R.bb (K:=K) PySem.F.plainAttrs_list PySem.F.slot_list_append PySem.F.type_list_append R.bn (R.v 1) (R.U (R.ai (R.U R.ae (R.U (R.ix (R.aq (K:=K)) (R.v 12) R.ab) R.ac))) R.ac))) (R.ag (R.br R.bl (R.bu (R.v 12) R.ab R.ij)))) (R.ag (R.ar (R.al R.ir (R.v 13) R.df) (R.ad (R.bc (R.bb (K:=K) PySem.F.plainAttrs_list PySem.F.slot_list_append PySem.F.type_list_append R.bn (R.v 1) (R.U (R.ai (R.U R.ae (R.U (R.ix (R.aq (K:=K)) (R.v 12) R.ab) (R.U (R.v 8) (R.U (R.v 13) R.ac))))) R.ac))) (R.ad (R.bc (R.fn cLchanged hLchanged rfl (R.U (R.v 4) (R.U (R.ix (R.aq (K:=K)) (R.v 12) R.ab) (R.U (R.v 13) R.ac))))) (R.ag (R.bc (R.bb (K:=K) PySem.F.plainAttrs_list PySem.F.slot_list_remove PySem.F.type_list_remove (R.ib hu64) (R.v 5) (R.U (R.v 12) R.ac)))))) R.av)))))),?_⟩
 intro D H H9 d b ra lm bk ul wa M many i way num turn turn' rs as kvs f us o11 o12 o13 hM oD oB oR hi L9 P8 l1 l2 l3 l4 l5 t1 t2 hne nxt;have hpos:0<us.length:=by cases us with | nil=>exact absurd rfl hne | cons _ _=>exact Nat.succ_pos _
 refine⟨_,.inl (SqL.of L9.und),d,b,(us.length:Int),by rw[aQ,aQ],L9.dk,Zo,Zo,fun r Ha r0 r1 Da ka=>?_⟩
 have La:=L9.fw ((Fw.refl L9.dk).draw Da ka)
 obtain⟨j,rfl⟩:=fM r0
 have hj:j<us.length:=by omega
 obtain⟨u,huj⟩:∃u,us[j]?=some u:=⟨us[j],fB hj⟩
 have hum:=jM huj
 obtain⟨g1,⟨tc,pc,kc,g2⟩,g3,g4,g5⟩:=P8.und u hum
 refine⟨_,SqL.of La.und,.ref u.e,gY (by rw[dR,dR,huj];rfl),?_⟩
 dsimp only [aJ];refine bE (fun σ' H'=>∃(v:V),σ'=[some (.ref d),some (.ref ra),some (.ref lm),some (.int (many:Int)),some (.ref bk),some (.ref ul),some (.ref wa),some (.int (num:Int)),some (.int (turn':Int)),some (.int (i:Int)),some (.int (way:Int)),o11,some (.ref u.e),some v]/\LvH H d b ra bk ul H' rs as kvs f us/\(v=.non∨∃y c,v=.ref c/\iG f u.x u.q y/\H' c=some (.tup y.vs))) (fun nx' hnx'=>?_) ?_
 ·have ned:=La.ne_d (La.fes u hum)
  exact⟨d,b,bk,u.e,u.t,kvs,f,u.x,u.n,u.q,rfl,La.dk,La.book,La.bis,La.ent u hum,g5,ned.1,ned.2,fun y c H' hy ff gc=>hnx' _ _ ⟨.ref c,rfl,La.fw ff,.inr ⟨y,c,rfl,hy,gc⟩⟩,fun H' ff=>hnx' _ _ ⟨.non,rfl,La.fw ff,.inl rfl⟩⟩
 rintro σ' Hb ⟨v,rfl,Lb,hvv⟩
 refine Gi (fun c H'=>LvH H d b ra bk ul H' rs as kvs f us/\TK Hb H'/\(c=true->u.q=false/\u.x.far=true)) (fun k hk=>?_) ?_ ?_
 ·have en:=(Lb.ent u hum)
  refine bP (fun _=>?_) (fun _=>hk _ _ ⟨Lb,.refl,(fun z=>nomatch z)⟩)
  refine⟨_,SqL.of en.1,_,rfl,?_⟩
  show if (!u.q)=true then _ else _
  refine bP (fun hq=>?_) (fun _=>hk _ _ ⟨Lb,.refl,(fun z=>nomatch z)⟩)
  refine⟨_,SqL.of en.1,_,rfl,_,SqT.of en.2,_,rR u.x,aP rfl,fun tq Hc sc gc=>⟨tq,_,rfl,.inr (SqT.of gc),rfl,rfl,?_⟩⟩
  refine hk _ _ ⟨Lb.fw ((Fw.refl Lb.dk).same sc),Same.tk sc,fun z=>⟨by simpa using hq,?_⟩⟩
  rw[<- tV];exact z
 ·rintro Hc ⟨Lc,tkc,hc⟩
  obtain⟨hq,hf⟩:=hc rfl
  refine⟨.inl ⟨rfl,_,SqL.of Lc.rows.lst⟩,_,SqL.of (Lc.ent u hum).1,_,rfl,aP rfl,fun ta Hd sd gd=>?_⟩
  have Ld:=Lc.fw ((Fw.refl Lc.dk).same sd)
  have lr:=Ld.rows.len
  refine⟨ra,_,_,rfl,rfl,Ld.rows.lst,by rw[aQ];exact kI (m:=1000) Zo Zd,?_⟩
  have Le:=Ld.row (r:=.asked u.n) (a:=ta) gd
  generalize aI Hd ra (.lst (as.map V.ref++[.ref ta]))=He at Le;refine⟨u.e,_,2,2,rfl,rfl,(Le.ent u hum).1,rfl,?_⟩
  exact nxt _ _ ⟨_,_,kvs,f,_,num,turn',_,_,_,_,_,rfl,Le.mark huj,P8.mark huj hq hf,by simp;omega,Zo,Zo,Zo,by rw[List.length_set];omega⟩
 ·rintro Hc ⟨Lc,tkc,hc⟩
  rcases hvv with rfl | ⟨y,cc,rfl,hy,gcc⟩
  ·exact nxt _ _ ⟨rs,as,kvs,f,us,num,turn',_,_,_,_,_,rfl,Lc,P8,Zo,Zo,Zo,Zo,Zo⟩
  ·obtain⟨r1,r2⟩:=vK P8.fb g1 hy g5
   obtain⟨ea,hG⟩:=jF g1 hy
   refine⟨.inl ⟨rfl,_,SqL.of Lc.rows.lst⟩,_,SqL.of (Lc.ent u hum).1,_,rfl,aP rfl,fun ta Hd sd gd=>?_⟩
   have Ld:=Lc.fw ((Fw.refl Lc.dk).same sd)
   have lr:=Ld.rows.len
   have gcd:=sd _ _ (tkc _ _ gcc)
   refine⟨ra,_,_,rfl,rfl,Ld.rows.lst,by rw[aQ];exact kI (m:=1000) Zo Zd,?_⟩
   have Le:=Ld.row (r:=.done u.n turn' y) (a:=ta) ⟨cc,gd,gcd⟩
   have gce:(aI Hd ra (.lst (as.map V.ref++[.ref ta]))) cc=some (.tup y.vs):=dL Ld.rows.lst _ _ gcd
   generalize aI Hd ra (.lst (as.map V.ref++[.ref ta]))=He at Le gce;refine⟨_,SqL.of (Le.ent u hum).1,_,rfl,bk,u.t,cc,kvs,f,u.x,y,rfl,Le.book,Le.bis,Zo,(Le.ent u hum).2,gce,r1,hG,fun kvs' Hf gf bf lf kf=>?_⟩
   have Lf:=Le.pay kf gf bf
   refine⟨.inl ⟨rfl,_,SqL.of Lf.und⟩,?_⟩
   dsimp only [kE,wS,vr];show jB (.ref ul) [.ref u.e] Hf _
   refine Lf.rem P8.nd huj ?_
   rw[ea]at Lf;exact nxt _ _ ⟨_,_,kvs',_,_,num,turn',_,_,_,_,_,rfl,Lf.drop j,P8.done huj Zo hy,by simp;omega,Zo,Zo,Zo,by have:=List.length_eraseIdx_le us j;omega⟩
end
end KL
namespace KL
open PySem L2
section
variable {P:Program} {w:World} {K:W.Frag} {mg:Str->Option Value} {base:Heap}
def vQ:Sp:=fun vs H Q _=>∃(d b ra lm:Addr) (M:List Addr) (rs:List RX) (as:List Addr) (many:Nat),vs=[.ref d,.ref ra,.ref lm,.int (many:Int)]/\Dk H d b/\RxsAt H ra rs as/\tU rs/\MenusAt H lm M/\d∉M/\b∉M/\ra∉M/\ra≠d/\ra≠b/\many<=30 ∧
 ∀(rs':List RX) (as':List Addr) (f:Str->Nat) (H':Hp),RxsAt H' ra rs' as'->RX.Whole rs'->(∀r∈rs',r.Ok)->jG rs' f->rs'.length<=43->Dk H' d b->(∀c o,H c=some o->c≠d->c≠b->c≠ra->H' c=some o)->Q (.ref ra) H'
theorem Hu (T:Txt K mg) (cLdraw:aG P w K mg base 1 "_law_draw" ["_law_deck_here","_law_many"] bK) (cLdeed:aG P w K mg base 3 "_law_deed" ["_law_deck_here","_law_names","_law_houses"] oF)
  (cLspot:aG P w K mg base 2 "_law_spot" ["_law_deck_here","_law_menus_here"] oG) (cLsized:aG P w K mg base 2 "_law_sized" ["_law_deck_here","_law_book_here","_law_deed_here"] pQ)
  (cLright:aG P w K mg base 2 "_law_right" ["_law_deck_here","_law_book_here","_law_one"] pS) (cLchanged:aG P w K mg base 2 "_law_changed" ["_law_book_here","_law_deed_here","_law_answer_here"] kQ)
  (D:DefAt K mg "_law_lived" bF ["_law_deck_here","_law_rows","_law_menus_here","_law_many"]):aG P w K mg base 4 "_law_lived" ["_law_deck_here","_law_rows","_law_menus_here","_law_many"] vQ:=by
 refine D.go aY (fun vs H Q E h=>?_) (fun f cdv A outer s H vs Q E hr h=>?_)
 ·obtain⟨d,b,ra,lm,M,rs,as,many,rfl,_⟩:=h;rfl
 ·obtain⟨d,b,ra,lm,M,rs0,as0,many,rfl,dk,R0,hd0,hM,oD,oB,oR,nrd,nrb,hmany,q⟩:=h
  have hLdraw:Room 1 _:=hr.mono Zd
  have hLdeed:Room 3 _:=hr.mono Zd
  have hLspot:Room 2 _:=hr.mono Zd
  have hLsized:Room 2 _:=hr.mono Zd
  have hLright:Room 2 _:=hr.mono Zd
  have hLchanged:Room 2 _:=hr.mono Zd
  have hu:=hr.units0
  have hu64:=hr.units
  have l0:=hd0.len
  have la0:=R0.len
  obtain⟨tc1,h1,p1⟩:=Mq (P:=P) (w:=w) (base:=base) T cLdraw cLdeed cLspot cLsized (fa:=f) (outer:=outer) (H0:=H) (E:=E) hr
  obtain⟨tc2,h2,p2⟩:=Mr (P:=P) (w:=w) (base:=base) T cLdraw cLright cLchanged (fa:=f) (outer:=outer) (H0:=H) (E:=E) hr
  refine⟨_,(R.ad (R.ah (i:=4) aY.nd (R.bg (R.db (K:=K) rfl) rfl T.b_dict lF (R.U (R.ay rfl (js:=[none]) (N:=["_law_row"]) (CompScope.by (aB bF) ["_law_deck_here","_law_rows","_law_menus_here","_law_many","_law_book_here","_law_under","_law_words_here","_law_number","_law_turn","_law_k","_law_way","_law_deed_here","_law_one","_law_answer_here"] rfl rfl Zk) (aO rfl) (R.aw (K:=K) (R.v 1)) (fun C s₂ H₂ fp=>⟨(R.gn (i:=0) (show(["_law_row"]:List Str).Nodup by decide +kernel)),(R.az (R.al R.eq (R.ix (R.af (K:=K)) (R.v 0) R.ab) R.ae)),(R.ai (R.U (R.ix (R.af (K:=K)) (R.v 0) R.ab) (R.U (R.ix (R.af (K:=K)) (R.v 0) R.ab) R.ac)))⟩)) R.ac))) (R.ad (R.ah (i:=5) aY.nd (R.au R.ac)) (R.ad (R.ah (i:=6) aY.nd (R.sl (R.du (K:=K)) (R.au (R.U R.ae (R.U R.ae R.ac))) R.pn (R.ps (R.op R.ap R.ab (R.fn cLdraw hLdraw rfl (R.U (R.v 0) (R.U R.ab R.ac))))))) (R.ad (R.ah (i:=7) aY.nd (R.ax (R.cz (K:=K) rfl) rfl T.b_max kL (R.U (R.op R.bd (R.ay rfl (js:=[none,some 6]) (N:=["_law_row","_law_words_here"]) (CompScope.by (aB bF) ["_law_deck_here","_law_rows","_law_menus_here","_law_many","_law_book_here","_law_under","_law_words_here","_law_number","_law_turn","_law_k","_law_way","_law_deed_here","_law_one","_law_answer_here"] rfl rfl Zk) (aO rfl) (R.aw (K:=K) (R.v 1)) (fun C s₂ H₂ fp=>⟨(R.gn (i:=0) (show(["_law_row","_law_words_here"]:List Str).Nodup by decide +kernel)),(R.az (R.al (R.bp (K:=K)) (R.ix (R.af (K:=K)) (R.v 0) R.ab) (R.v 1))),(R.ix (R.af (K:=K)) (R.v 0) R.ab)⟩)) (R.au (R.U R.ab R.ac))) R.ac))) (R.ad (R.ah (i:=8) aY.nd (R.ax (R.cz (K:=K) rfl) rfl T.b_max kL (R.U (R.op R.bd (R.ay rfl (js:=[none]) (N:=["_law_row"]) (CompScope.by (aB bF) ["_law_deck_here","_law_rows","_law_menus_here","_law_many","_law_book_here","_law_under","_law_words_here","_law_number","_law_turn","_law_k","_law_way","_law_deed_here","_law_one","_law_answer_here"] rfl rfl Zk) (aO rfl) (R.aw (K:=K) (R.v 1)) (fun C s₂ H₂ fp=>⟨(R.gn (i:=0) (show(["_law_row"]:List Str).Nodup by decide +kernel)),(R.az (R.al R.eq (R.ix (R.af (K:=K)) (R.v 0) R.ab) R.ae)),(R.ix (R.af (K:=K)) (R.v 0) R.ab)⟩)) (R.au (R.U R.ab R.ac))) R.ac))) (R.ad (R.bh PassesOwn.never rfl (R.cp rfl T.b_range (R.U (R.v 3) R.ac)) (R.gn (i:=9) aY.nd) (R.ad (R.ah (i:=10) aY.nd (R.fn cLdraw hLdraw rfl (R.U (R.v 0) (R.U R.ab R.ac)))) (R.ad (R.ah (i:=8) aY.nd (R.op R.ap (R.v 8) (R.ix (R.aq (K:=K)) (R.au (R.U R.ab (R.U R.ab (R.U R.ab (R.U (R.fn cLdraw hLdraw rfl (R.U (R.v 0) (R.U R.ab R.ac))) R.ac))))) (R.fn cLdraw hLdraw rfl (R.U (R.v 0) (R.U R.ab R.ac)))))) (R.ag (R.ar (R.tw (R.dm (R.al R.lt (R.v 10) R.ab) (R.dq (R.al (R.jj (K:=K) hu) (R.v 5) (R.au R.ac)))))
   h1
   h2))))) (R.ag (R.ao (R.v 1))))))))),?_⟩
  refine bE (fun σ' H'=>∃(bk:Addr) (kvs:List (aW × V)),σ'=[some (.ref d),some (.ref ra),some (.ref lm),some (.int (many:Int)),some (.ref bk),none,none,none,none,none,none,none,none,none]/\H bk=none/\H' bk=some (.dK kvs)/\BookIs kvs (eG rs0)/\kvs.length<=13/\Same H H') (fun nx hnx=>?_) ?_
  ·refine⟨ra,rfl,⟨_,SqL.of R0.lst⟩,?_⟩
   refine aS (aR K ra (as0.map V.ref)) (by rw[aQ];omega) (fun i ys H'=>∃zs:List W,ys=zs.map (fun z=>V.ref z.1)/\Lm H' zs/\zs.map (·.2)=dQ (rs0.take i)/\Same H H'/\zs.length<=i) (fun i ys H' ⟨zs,e,_,_,s',l'⟩=>⟨SqL.of (s' _ _ R0.lst),by rw[e,aQ];exact l'⟩) ⟨[],rfl,(fun _ h=>nomatch h),rfl,(fun _ _ e=>e),aV _⟩ (fun i x ys H' hx ⟨zs,e,hw,ez,s',l'⟩=>?_) (fun ys H' ⟨zs,e,hw,ez,s',l'⟩=>?_)
   ·obtain⟨a,r,rfl,ha,hrr,hat⟩:=(R0.same s').get hx
    obtain⟨xs,g,x0,x1,x2⟩:=dW hat
    have etk:=aM hrr
    dsimp only [aJ];refine⟨_,SqT.of g,_,x0,?_⟩
    show if decide (bQ r="has")=true then _ else _
    refine bP (fun h=>?_) (fun h=>?_)
    ·obtain⟨z,m,rfl⟩:=xT (of_decide_eq_true h)
     refine⟨_,SqT.of g,_,x1,_,SqT.of g,_,x2 (fun z=>nomatch z),aP rfl,fun tp H2 s2 g2=>?_⟩
     refine⟨zs++[(tp,(Sum.inr z,.int (m:Int)))],by rw[e,cS];rfl,fun y hy=>?_,?_,s'.trans s2,by simp;omega⟩
     ·rcases aH hy with hy | rfl
      ·exact s2 _ _ (hw y hy)
      ·exact g2
     ·rw[cS,ez,etk,iI];rfl
    ·refine⟨zs,e,hw,?_,s',Zo⟩
     rw[ez,etk,iI,rT (of_decide_eq_false h),List.append_nil]
   ·intro p hp;have gp:(aI H' p (.lst ys)) p=some (.lst (zs.map fun z=>V.ref z.1)):=by rw[aA,e]
    have s1:Same H (aI H' p (.lst ys)):=s'.trans (aD hp)
    have hw1:Lm (aI H' p (.lst ys)) zs:=fun z hz=>aL (hw z hz) hp
    generalize aI H' p (.lst ys)=H1 at gp s1 hw1;rw[aQ]at l';refine⟨zs,SqL.of gp,hw1,Zo,fun bk hbk=>?_⟩
    refine hnx _ _ ⟨bk,_,rfl,s1.free hbk,aA,?_,?_,s1.trans (aD hbk)⟩
    ·rw[ez,aQ,<- la0,gH (aV _)];exact cR rs0 [] _ (fun z=>rfl)
    ·have:=cX (zs.map (·.2)) []
     rw[aQ]at this;simp at this
     omega
  rintro σ' H1 ⟨bk,kvs0,rfl,fbk,gbk,bis0,lk0,s1⟩
  have f1:=(Fw.refl dk).same s1
  refine⟨dE rfl,fun ul hul=>?_⟩
  have ful:=s1.free hul
  have nbu:bk≠ul:=aF gbk hul
  have f2:=f1.new (o:=.lst []) hul
  have gul:(aI H1 ul (.lst [])) ul=some (.lst []):=aA
  replace gbk:=aL (u:=.lst []) gbk hul
  dsimp only [aJ];generalize aI H1 ul (.lst [])=H2 at f2 gul gbk;refine bE (fun σ' H'=>∃(wa:Addr) (wz:List Str),σ'=[some (.ref d),some (.ref ra),some (.ref lm),some (.int (many:Int)),some (.ref bk),some (.ref ul),some (.ref wa),none,none,none,none,none,none,none]/\H' wa=some (.lst (wz.map V.str))/\(wz=[("kept":Str)]∨wz=[("kept":Str),"next"])/\wa≠d/\wa≠b/\Fw d b H2 H') (fun nx hnx=>?_) ?_
  ·refine⟨dE rfl,fun p hp=>⟨d,b,2,rfl,f2.dk.new hp,Zd,Zd,fun r H3 r0 r1 D3 k3=>?_⟩⟩
   have pd:=f2.dk.ne hp
   have F3:=((Fw.refl f2.dk).new (o:=.lst [.str "kept",.str "next"]) hp).draw D3 k3
   have gp:=k3 p _ aA pd.1 pd.2
   rcases(by omega:r=0∨r=1) with rfl | rfl
   ·refine⟨_,SqL.of gp,fun wa hwa=>hnx _ _ ⟨wa,["kept"],rfl,aA,.inl rfl,(F3.dk.ne hwa).1,(F3.dk.ne hwa).2,F3.new hwa⟩⟩
   ·refine⟨_,SqL.of gp,fun wa hwa=>hnx _ _ ⟨wa,["kept","next"],rfl,aA,.inr rfl,(F3.dk.ne hwa).1,(F3.dk.ne hwa).2,F3.new hwa⟩⟩
  rintro σ' H3 ⟨wa,wz,rfl,gwa,hwz,nwd,nwb,F3⟩
  have f3:=f2.trans F3
  have R3:=R0.keep f3.tk (f3.get R0.lst nrd nrb)
  refine bE (fun σ' H'=>∃(num:Nat),σ'=[some (.ref d),some (.ref ra),some (.ref lm),some (.int (many:Int)),some (.ref bk),some (.ref ul),some (.ref wa),some (.int (num:Int)),none,none,none,none,none,none]/\num<=900006/\(∀n t p k x y,.kept n t p k x y∈rs0->n<=num)/\Fw d b H2 H') (fun nx hnx=>?_) ?_
  ·refine⟨ra,rfl,⟨_,SqL.of R3.lst⟩,?_⟩
   refine aS (aR K ra (as0.map V.ref)) (by rw[aQ];omega) (fun i ys H'=>H'=H3/\∃ns:List Nat,ys=ns.map (fun n:Nat=>V.int (n:Int))/\ns.length<=i/\(∀n∈ns,n<=900006)/\∀n t p k x y,.kept n t p k x y∈rs0.take i->n∈ns) (fun i ys H' ⟨e0,ns,e,l',_⟩=>⟨by rw[e0];exact SqL.of R3.lst,by rw[e,aQ];exact l'⟩) ⟨rfl,[],rfl,aV _,(fun _ h=>nomatch h),(fun _ _ _ _ _ _ h=>nomatch h)⟩ (fun i x ys H' hx ⟨e0,ns,e,l',hb',hk'⟩=>?_) (fun ys H' ⟨e0,ns,e,l',hb',hk'⟩=>?_)
   ·subst e0;obtain⟨a,r,rfl,ha,hrr,hat⟩:=R3.get hx
    obtain⟨xs,g,x0,x1,x2⟩:=dW hat
    have etk:=aM hrr
    have hrm:r∈rs0:=jM hrr
    dsimp only [aJ];refine⟨_,SqT.of g,_,x0,wa,_,rfl,.inl (SqL.of gwa),rfl,by rcases hwz with rfl | rfl <;> rfl,?_⟩
    have yes:∀n:Nat,Hr r=.int (n:Int)->n<=900006->(∀n' t p k x y,.kept n' t p k x y∈rs0.take (i+1)->n'∈ns++[n])->(∃xs,SqT K H' a xs/\∃v,nT xs 1=some v/\(H'=H'/\∃ns':List Nat,ys++[v]=ns'.map (fun n:Nat=>V.int (n:Int))/\ns'.length<=i+1/\(∀n∈ns',n<=900006)/\∀n t p k x y,.kept n t p k x y∈rs0.take (i+1)->n∈ns')):=fun n e1 hn hk2=>by
     refine⟨_,SqT.of g,_,x1,rfl,ns++[n],by rw[e,cS,e1];rfl,by simp;omega,fun m hm=>?_,hk2⟩
     rcases aH hm with hm | rfl
     ·exact hb' m hm
     ·exact hn
    have no:(∀n' t p k x y,r≠.kept n' t p k x y)->H'=H'/\∃ns':List Nat,ys=ns'.map (fun n:Nat=>V.int (n:Int))/\ns'.length<=i+1/\(∀n∈ns',n<=900006)/\∀n t p k x y,.kept n t p k x y∈rs0.take (i+1)->n∈ns':=fun hne=>by
     refine⟨rfl,ns,e,Zo,hb',fun n t p k x y hm=>?_⟩
     rw[etk]at hm;rcases aH hm with hm | hm
     ·exact hk' _ _ _ _ _ _ hm
     ·exact absurd hm.symm (hne _ _ _ _ _ _)
    show if oT (.str (bQ r)) (wz.map V.str)=true then _ else _
    cases r with
    | kept n t p k x y=>
     refine Bd (by rcases hwz with rfl | rfl <;> rfl) ?_
     refine yes n rfl ?_ (fun n' t' p' k' x' y' hm=>?_)
     ·have h1:=hd0.ok _ hrm
      have:∃n0 t0,RX.next n0 t0∈rs0/\n<n0:=xS hd0.wh hrm
      obtain⟨n0,t0,hm0,hlt⟩:=this
      have:=hd0.nx _ _ hm0
      omega
     ·rw[etk]at hm;rcases aH hm with hm | hm
      ·exact List.mem_append_left _ (hk' _ _ _ _ _ _ hm)
      ·cases hm;exact List.mem_append_right _ iM
    | next n t=>
     rcases hwz with rfl | rfl
     ·exact qM rfl (no (fun _ _ _ _ _ _ z=>nomatch z))
     ·refine Bd rfl (yes n rfl (hd0.nx _ _ hrm).1 (fun n' t' p' k' x' y' hm=>?_))
      rw[etk]at hm;rcases aH hm with hm | hm
      ·exact List.mem_append_left _ (hk' _ _ _ _ _ _ hm)
      ·cases hm
    | has z m=>exact qM (by rcases hwz with rfl | rfl <;> rfl) (no (fun _ _ _ _ _ _ z=>nomatch z))
    | came n t p k x=>exact qM (by rcases hwz with rfl | rfl <;> rfl) (no (fun _ _ _ _ _ _ z=>nomatch z))
    | asked n=>exact qM (by rcases hwz with rfl | rfl <;> rfl) (no (fun _ _ _ _ _ _ z=>nomatch z))
    | done n t y=>exact qM (by rcases hwz with rfl | rfl <;> rfl) (no (fun _ _ _ _ _ _ z=>nomatch z))
   ·subst e0;intro p hp;rw[aQ]at l' hk';rw[<- la0,gH (aV _)]at hk';refine⟨dE rfl,fun p2 hp2=>⟨_,_,aL aA hp2,aA,by rw[e,aQ];exact dJ (by simp;omega),fun p3 hp3=>?_⟩⟩
    refine⟨p3,(ns.map (fun n:Nat=>(n:Int)))++[0],rfl,SqL.of (by rw[aA,e,cS,List.map_map];rfl),Zs,fun mx hmx hall=>?_⟩
    have nn:∃m:Nat,mx=m/\m<=900006:=by
     rcases Zma.mp hmx with h | h
     ·obtain⟨n,hn,rfl⟩:=Zmm.mp h;exact⟨n,rfl,hb' n hn⟩
     ·rw[Zms.mp h];exact⟨0,rfl,Zo⟩
    obtain⟨m,rfl,hm⟩:=nn
    refine hnx _ _ ⟨m,rfl,hm,fun n t p' k x y hh=>?_,((F3.new hp).new hp2).new hp3⟩
    have:=hall (n:Int) (List.mem_append_left _ (List.mem_map_of_mem (hk' _ _ _ _ _ _ hh)))
    omega
  rintro σ' H4 ⟨num,rfl,hnum,hkn,F4⟩
  have f4:=f2.trans F4
  have R4:=R0.keep f4.tk (f4.get R0.lst nrd nrb)
  refine bE (fun σ' H'=>∃(turn:Nat),σ'=[some (.ref d),some (.ref ra),some (.ref lm),some (.int (many:Int)),some (.ref bk),some (.ref ul),some (.ref wa),some (.int (num:Int)),some (.int (turn:Int)),none,none,none,none,none]/\turn<500000000000/\(∀n t,.next n t∈rs0->t<=turn)/\Fw d b H2 H') (fun nx hnx=>?_) ?_
  ·refine⟨ra,rfl,⟨_,SqL.of R4.lst⟩,?_⟩
   refine aS (aR K ra (as0.map V.ref)) (by rw[aQ];omega) (fun i ys H'=>H'=H4/\∃ns:List Nat,ys=ns.map (fun n:Nat=>V.int (n:Int))/\ns.length<=i/\(∀n∈ns,n<500000000000)/\∀n t,.next n t∈rs0.take i->t∈ns) (fun i ys H' ⟨e0,ns,e,l',_⟩=>⟨by rw[e0];exact SqL.of R4.lst,by rw[e,aQ];exact l'⟩) ⟨rfl,[],rfl,aV _,(fun _ h=>nomatch h),(fun _ _ h=>nomatch h)⟩ (fun i x ys H' hx ⟨e0,ns,e,l',hb',hk'⟩=>?_) (fun ys H' ⟨e0,ns,e,l',hb',hk'⟩=>?_)
   ·subst e0;obtain⟨a,r,rfl,ha,hrr,hat⟩:=R4.get hx
    obtain⟨xs,g,x0,x1,x2⟩:=dW hat
    have etk:=aM hrr
    have hrm:r∈rs0:=jM hrr
    dsimp only [aJ];refine⟨_,SqT.of g,_,x0,?_⟩
    show if decide (bQ r="next")=true then _ else _
    refine bP (fun h=>?_) (fun h=>?_)
    ·obtain⟨n,t,rfl⟩:=zM (of_decide_eq_true h)
     refine⟨_,SqT.of g,_,x2 (fun z=>nomatch z),rfl,ns++[t],by rw[e,cS];rfl,by simp;omega,fun m hm=>?_,fun n' t' hm=>?_⟩
     ·rcases aH hm with hm | rfl
      ·exact hb' m hm
      ·exact(hd0.nx _ _ hrm).2
     ·rw[etk]at hm;rcases aH hm with hm | hm
      ·exact List.mem_append_left _ (hk' _ _ hm)
      ·cases hm;exact List.mem_append_right _ iM
    ·refine⟨rfl,ns,e,Zo,hb',fun n' t' hm=>?_⟩
     rw[etk]at hm;rcases aH hm with hm | hm
     ·exact hk' _ _ hm
     ·subst hm;exact absurd rfl (of_decide_eq_false h)
   ·subst e0;intro p hp;rw[aQ]at l' hk';rw[<- la0,gH (aV _)]at hk';refine⟨dE rfl,fun p2 hp2=>⟨_,_,aL aA hp2,aA,by rw[e,aQ];exact dJ (by simp;omega),fun p3 hp3=>?_⟩⟩
    refine⟨p3,(ns.map (fun n:Nat=>(n:Int)))++[0],rfl,SqL.of (by rw[aA,e,cS,List.map_map];rfl),Zs,fun mx hmx hall=>?_⟩
    have nn:∃m:Nat,mx=m/\m<500000000000:=by
     rcases Zma.mp hmx with h | h
     ·obtain⟨n,hn,rfl⟩:=Zmm.mp h;exact⟨n,rfl,hb' n hn⟩
     ·rw[Zms.mp h];exact⟨0,rfl,Zo⟩
    obtain⟨m,rfl,hm⟩:=nn
    refine hnx _ _ ⟨m,rfl,hm,fun n t hh=>?_,((F4.new hp).new hp2).new hp3⟩
    have:=hall (t:Int) (List.mem_append_left _ (List.mem_map_of_mem (hk' _ _ hh)))
    omega
  rintro σ' H5 ⟨turn,rfl,hturn,htn,F5⟩
  have f5:=f2.trans F5
  have R5:=R0.keep f5.tk (f5.get R0.lst nrd nrb)
  have nbd:=dk.ne fbk
  have nud:=dk.ne ful
  have L5:LvH H d b ra bk ul H5 rs0 as0 kvs0 (eG rs0) []:=⟨dk,⟨_,R0.lst⟩,fbk,ful,(fun _ h=>nomatch h),⟨nrd,nrb⟩,nbu,(fun _ h=>nomatch h),List.nodup_nil,f5.dk,R5,F5.get gbk nbd.1 nbd.2,bis0,F5.get gul nud.1 nud.2,(fun _ h=>nomatch h),fun c o e n1 n2 _=>f5.get e n1 n2⟩
  have P5:=LvP.start (num:=num) (turn:=turn) hd0 hkn htn (rS hd0.ok)
  refine bE (fun σ' H'=>∃(rs:List RX) (as:List Addr) (kvs:List (aW × V)) (f:Str->Nat) (us:List Un) (num turn:Nat) (o9 o10 o11 o12 o13:Option V),σ'=[some (.ref d),some (.ref ra),some (.ref lm),some (.int (many:Int)),some (.ref bk),some (.ref ul),some (.ref wa),some (.int (num:Int)),some (.int (turn:Int)),o9,o10,o11,o12,o13]/\LvH H d b ra bk ul H' rs as kvs f us/\LvP rs f num turn us/\rs.length<=43) (fun nx hnx=>?_) ?_
  ·refine⟨(many:Int),rfl,Zo,Zo,?_⟩
   have em:(many:Int).toNat=many:=by omega
   refine cC (cT 0 (many:Int).toNat) (Si H d b ra lm bk ul wa many) (fun _ _ _ _=>trivial)
    ⟨rs0,as0,kvs0,eG rs0,[],num,turn,_,_,_,_,_,rfl,L5,P5,Zo,Zo,Zo,Zo,aV _⟩ ?_ ?_
   ·rintro i x σ' H6 hx ⟨rs,as,kvs,f,us,num,turn,o9,o10,o11,o12,o13,rfl,L6,P6,l1,l2,l3,l4,l5⟩
    obtain⟨rfl,hi⟩:=kO hx
    rw[em]at hi;dsimp only [aJ];refine⟨d,b,4,rfl,L6.dk,Zd,Zd,fun way H7 w0 w1 D7 k7=>?_⟩
    obtain⟨way,rfl⟩:=fM w0
    have L7:=L6.fw ((Fw.refl L6.dk).draw D7 k7)
    dsimp only [aJ];refine bE (fun σ' H'=>∃(turn':Nat),σ'=[some (.ref d),some (.ref ra),some (.ref lm),some (.int (many:Int)),some (.ref bk),some (.ref ul),some (.ref wa),some (.int (num:Int)),some (.int (turn':Int)),some (.int (i:Int)),some (.int (way:Int)),o11,o12,o13]/\turn<=turn'/\turn'<=turn+9/\LvH H d b ra bk ul H' rs as kvs f us) (fun nx' hnx'=>?_) ?_
    ·refine⟨d,b,9,rfl,L7.dk,Zd,Zd,fun r8 H8 x0 x1 D8 k8=>⟨dE rfl,fun p hp=>⟨d,b,4,rfl,D8.new hp,Zd,Zd,fun r9 H9 y0 y1 D9 k9=>?_⟩⟩⟩
     obtain⟨r8,rfl⟩:=fM x0
     have hpd:=D8.ne hp
     have gp:=k9 p _ aA hpd.1 hpd.2
     have L9:=L7.fw ((((Fw.refl L7.dk).draw D8 k8).new hp).draw D9 k9)
     rcases Vm y0 y1 with rfl | rfl | rfl | rfl
     ·refine⟨_,SqL.of gp,_,rfl,hnx' _ _ ⟨turn,?_,Zo,Zo,L9⟩⟩
      rw[show(turn:Int)=(turn:Int)+0 by omega];rfl
     ·refine⟨_,SqL.of gp,_,rfl,hnx' _ _ ⟨turn,?_,Zo,Zo,L9⟩⟩
      rw[show(turn:Int)=(turn:Int)+0 by omega];rfl
     ·exact⟨_,SqL.of gp,_,rfl,hnx' _ _ ⟨turn+1,rfl,Zo,Zo,L9⟩⟩
     ·exact⟨_,SqL.of gp,_,rfl,hnx' _ _ ⟨turn+r8,rfl,Zo,Zo,L9⟩⟩
    ·rintro σ' H8 ⟨turn',rfl,t1,t2,L8⟩
     have P8:=P6.turn' t1
     refine Gi (fun v H'=>LvH H d b ra bk ul H' rs as kvs f us/\(v=false->us≠[])) (fun k hk=>?_) ?_ ?_
     ·refine bP (fun _=>hk _ _ ⟨L8,(fun z=>nomatch z)⟩) (fun _=>?_)
      refine⟨dE rfl,fun p hp=>⟨ul,p,_,rfl,rfl,SqL.of (aL L8.und hp),SqL.of aA,?_⟩⟩
      refine hk _ _ ⟨L8.fw ((Fw.refl L8.dk).new hp),fun e z=>?_⟩
      subst z;cases e
     ·rintro H9 ⟨L9,hv⟩
      exact p1 _ H H9 d b ra lm bk ul wa M many i way num turn turn' rs as kvs f us o11 o12 o13 hM oD oB oR Zo L9 P8 l1 l2 l3 l4 l5 t1 t2 (fun _ _ h=>h)
     ·rintro H9 ⟨L9,hv⟩
      exact p2 _ H H9 d b ra lm bk ul wa M many i way num turn turn' rs as kvs f us o11 o12 o13 hM oD oB oR Zo L9 P8 l1 l2 l3 l4 l5 t1 t2 (hv rfl) (fun _ _ h=>h)
   ·rintro σ' H6 ⟨rs,as,kvs,f,us,num,turn,o9,o10,o11,o12,o13,rfl,L6,P6,l1,l2,l3,l4,l5⟩
    rw[dB]at l1;exact hnx _ _ ⟨rs,as,kvs,f,us,num,turn,o9,o10,o11,o12,o13,rfl,L6,P6,Zo⟩
  rintro σ' H6 ⟨rs,as,kvs,f,us,num,turn,o9,o10,o11,o12,o13,rfl,L6,P6,l1⟩
  exact q rs as f H6 L6.rows P6.wh P6.ok P6.lv l1 L6.dk L6.fr
end
end KL
namespace KL
open PySem L2
section
variable {P:Program} {w:World} {K:W.Frag} {mg:Str->Option Value} {base:Heap}
def gA:RX->aW | .next n _=>Sum.inl (n:Int) | .has z _=>Sum.inr z | .kept n _ _ _ _ _=>Sum.inl (n:Int) | .came n _ _ _ _=>Sum.inl (n:Int) | .asked n=>Sum.inl (n:Int) | .done n _ _=>Sum.inl (n:Int)
theorem Hv (r:RX):Hr r=kV (gA r):=by cases r <;> rfl
def fQ (wd:Str) (r:RX) (a:Addr):List (aW × V):=if bQ r=wd then [(gA r,.ref a)] else []
def aZ (wd:Str) (rs:List RX) (as:List Addr):Nat->List (aW × V)
 | 0=>[]
 | i+1=>aZ wd rs as i++(match rs[i]?,as[i]? with | some r,some a=>fQ wd r a | _,_=>[])
theorem eI {wd:Str} {rs:List RX} {as:List Addr} {i:Nat} {r:RX} {a:Addr} (h1:rs[i]?=some r) (h2:as[i]?=some a):aZ wd rs as (i+1)=aZ wd rs as i++fQ wd r a:=by
 simp only [aZ,h1,h2]
theorem pT (wd:Str) (rs:List RX) (as:List Addr):∀i,(aZ wd rs as i).length<=i
 | 0=>aV _
 | i+1=>by
  have:=pT wd rs as i
  unfold aZ;rw[iK];split
  ·unfold fQ;split <;> simp <;> omega
  ·simp;omega
theorem pU {wd:Str} {rs:List RX} {as:List Addr} {k:aW} {v:V}:∀ {i:Nat},(k,v)∈aZ wd rs as i->∃j r a,j<i/\rs[j]?=some r/\as[j]?=some a/\bQ r=wd/\k=gA r/\v=.ref a
 | 0,h=>nomatch h
 | i+1,h=>by
  unfold aZ at h;rcases Zma.mp h with h | h
  ·obtain⟨j,r,a,h1,h2⟩:=pU h;exact⟨j,r,a,Zo,h2⟩
  ·split at h
   ·rename_i r a e1 e2
    unfold fQ at h;split at h
    ·rename_i e3
     have:=Zms.mp h
     injection this with h1 h2
     exact⟨i,r,a,Nat.lt_succ_self _,e1,e2,e3,h1,h2⟩
    ·cases h
   ·cases h
theorem vR {wd:Str} {rs:List RX} {as:List Addr} {j:Nat} {r:RX} {a:Addr} (h1:rs[j]?=some r) (h2:as[j]?=some a) (h3:bQ r=wd):∀ {i:Nat},j<i->(gA r,V.ref a)∈aZ wd rs as i
 | 0,h=>nomatch h
 | i+1,h=>by
  by_cases e:j=i
  ·subst e;rw[eI h1 h2];refine List.mem_append_right _ ?_
   unfold fQ;rw[if_pos h3];exact iM
  ·unfold aZ;exact List.mem_append_left _ (vR h1 h2 h3 Zo)
theorem xU (kvs l:List (aW × V)) (k:aW) (v:V):aK kvs (l++[(k,v)])=bR (aK kvs l) k v:=by unfold aK;rw[List.foldl_append];rfl
theorem kR {k:aW} {v:V}:∀ {l kvs:List (aW × V)},bN (aK kvs l) k=some v->(k,v)∈l∨bN kvs k=some v
 | [],kvs,h=>.inr h
 | (k',v')::l,kvs,h=>by
  have h':bN (aK (bR kvs k' v') l) k=some v:=h
  rcases kR h' with h1 | h1
  ·exact .inl (kD _ h1)
  ·rw[gK]at h1;by_cases e:k=k'
   ·rw[if_pos e]at h1;injection h1 with h1
    rw[<- h1,e];exact .inl iM
   ·rw[if_neg e]at h1;exact .inr h1
theorem vS {k:aW}:∀ {l kvs:List (aW × V)},(k∈l.map (·.1)∨∃v,bN kvs k=some v)->∃v,bN (aK kvs l) k=some v
 | [],kvs,h=>by
  rcases h with h | h
  ·cases h
  ·exact h
 | (k',v')::l,kvs,h=>by
  refine vS (l:=l) (kvs:=bR kvs k' v') ?_
  rcases h with h | ⟨v,h⟩
  ·rcases List.mem_cons.mp h with h | h
   ·right
    rw[gK,if_pos h];exact⟨_,rfl⟩
   ·exact .inl h
  ·right
   rw[gK];split
   ·exact⟨_,rfl⟩
   ·exact⟨v,h⟩
theorem pV {wd:Str} {rs:List RX} {as:List Addr} (hl:rs.length=as.length) {r:RX} (hm:r∈rs) (hw:bQ r=wd):∃(j:Nat) (r':RX) (a:Addr),bN (aK [] (aZ wd rs as rs.length)) (gA r)=some (.ref a)/\rs[j]?=some r'/\as[j]?=some a/\bQ r'=wd/\gA r=gA r':=by
 obtain⟨j,hj,ej⟩:=List.getElem_of_mem hm
 have h1:rs[j]?=some r:=by rw[fB hj,ej]
 have h2:as[j]?=some as[j]:=fB Zo
 have h3:=vR h1 h2 hw hj
 obtain⟨v,hv⟩:=vS (kvs:=[]) (k:=gA r) (l:=aZ wd rs as rs.length) (.inl (List.mem_map_of_mem h3))
 rcases kR hv with h4 | h4
 ·obtain⟨j',r',a',_,g1,g2,g3,g4,g5⟩:=pU h4
  rw[g5]at hv;exact⟨j',r',a',hv,g1,g2,g3,g4⟩
 ·cases h4
def tX:Sp:=fun vs H Q _=>∃(ra:Addr) (wd:Str) (rs:List RX) (as:List Addr),vs=[.ref ra,.str wd]/\RxsAt H ra rs as/\rs.length<=100/\∀(p:Addr) (H':Hp),H p=none->H' p=some (.dK (aK [] (aZ wd rs as rs.length)))->Same H H'->Q (.ref p) H'
theorem qT (D:DefAt K mg "by_numbers" fH ["rows","word"]):aG P w K mg base 1 "by_numbers" ["rows","word"] tX:=by
 refine D.go gC (fun vs H Q E h=>?_) (fun f cdv A outer s H vs Q E hr h=>?_)
 ·obtain⟨ra,wd,rs,as,rfl,_⟩:=h;rfl
 ·obtain⟨ra,wd,rs,as,rfl,RR,hl,q⟩:=h
  have hu1:=dU hr
  have le:=RR.len
  refine⟨_,(R.ad (R.ah (i:=2) gC.nd R.iu) (R.ad (R.bh PassesOwn.never rfl (R.aw (K:=K) (R.v 0)) (R.gn (i:=3) gC.nd) (R.ag (R.ar (R.al R.eq (R.ix (R.af (K:=K)) (R.v 3) R.ab) (R.v 1)) (R.ag (R.br (R.v 3) (R.bu (R.v 2) (R.ix (R.af (K:=K)) (R.v 3) R.ab) (R.cf hu1)))) R.av))) (R.ag (R.ao (R.v 2))))),?_⟩
  refine fun p hp=>?_
  have nr:p≠ra:=(aF RR.lst hp).symm
  dsimp only [aJ];refine bE (fun σ' H'=>∃o3,σ'=[some (.ref ra),some (.str wd),some (.ref p),o3]/\H' p=some (.dK (aK [] (aZ wd rs as rs.length)))/\Same H H') (fun nx hnx=>?_) ?_
  ·refine⟨ra,rfl,⟨_,SqL.of (aL RR.lst hp)⟩,cC (aR K ra (as.map V.ref)) (fun i σ' H'=>∃o3,σ'=[some (.ref ra),some (.str wd),some (.ref p),o3]/\H' p=some (.dK (aK [] (aZ wd rs as i)))/\Same H H') (fun i σ' H' ⟨_,_,_,s'⟩=>SqL.of (s' _ _ RR.lst))
    ⟨_,rfl,aA,aD hp⟩ ?_ ?_⟩
   ·rintro i x σ' H1 hx ⟨o3,rfl,g1,s1⟩
    obtain⟨a,r,rfl,ha,hrr,hat⟩:=(RR.same s1).get hx
    obtain⟨xs,g,x0,x1,x2⟩:=dW hat
    have hi:=(Zgs.mp ha).1
    have ln:=pT wd rs as i
    have lm:=cX (aZ wd rs as i) []
    dsimp only [aJ];refine⟨_,SqT.of g,_,x0,?_⟩
    show if decide (bQ r=wd)=true then _ else _
    refine bP (fun h=>?_) (fun h=>?_)
    ·have dp:DPut H1 p (Hr r) (.ref a) (aI H1 p (.dK (bR (aK [] (aZ wd rs as i)) (gA r) (.ref a)))):=by
      rw[Hv];exact DPut.k g1 (kI (m:=1000) (by simp at lm;omega) Zd)
     refine⟨_,SqT.of g,_,x1,p,_,rfl,dp,?_⟩
     ·refine⟨_,rfl,?_,bV hp s1⟩
      rw[aA,eI hrr ha];unfold fQ;rw[if_pos (of_decide_eq_true h),xU]
    ·refine⟨_,rfl,?_,s1⟩
     rw[eI hrr ha];unfold fQ;rw[if_neg (of_decide_eq_false h),List.append_nil];exact g1
   ·rintro σ' H1 ⟨o3,rfl,g1,s1⟩
    rw[aQ,<- le]at g1;exact hnx _ _ ⟨o3,rfl,g1,s1⟩
  ·rintro σ' H1 ⟨o3,rfl,g1,s1⟩
   exact q p H1 hp g1 s1
def zN:Sp:=fun vs H Q _=>∃a b c:Int,vs=[.int a,.int b,.int c]/\Q (.bl (decide (c<a+b))) H
theorem Hw (D:DefAt K mg "is_alive" hX ["since","life","turn"]):aG P w K mg base 1 "is_alive" ["since","life","turn"] zN:=by
 refine D.go vC (fun vs H Q E h=>?_) (fun f cdv A outer s H vs Q E hr h=>?_)
 ·obtain⟨a,b,c,rfl,_⟩:=h;rfl
 ·obtain⟨a,b,c,rfl,q⟩:=h
  refine⟨_,(R.ag (R.ao (R.bv R.gt (R.op R.ap (R.v 0) (R.v 1)) (R.v 2)))),?_⟩
  exact q
theorem tY (T:Txt K mg) (cLdraw:aG P w K mg base 1 "_law_draw" ["_law_deck_here","_law_many"] bK) (cLhead:aG P w K mg base 5 "_law_head" ["_law_deck_here","_law_menus_here"] oH)
  (D:DefAt K mg "_law_some_head" dA ["_law_deck_here","_law_menus_here"]):aG P w K mg base 6 "_law_some_head" ["_law_deck_here","_law_menus_here"] oH:=by
 refine D.go eB (fun vs H Q E h=>?_) (fun f cdv A outer s H vs Q E hr h=>?_)
 ·obtain⟨d,b,lm,M,rfl,_⟩:=h;rfl
 ·obtain⟨d,b,lm,M,rfl,dk,hM,hd,hb,q⟩:=h
  have hLdraw:Room 1 _:=hr.mono Zd
  have hLhead:Room 5 _:=hr.mono Zd
  refine⟨_,(R.ad (R.ah (i:=2) eB.nd (R.au R.ac)) (R.ad (R.ar (R.al R.eq (R.fn cLdraw hLdraw rfl (R.U (R.v 0) (R.U R.ab R.ac))) R.ab) (R.ag (R.ah (i:=2) eB.nd (R.fn cLhead hLhead rfl (R.U (R.v 0) (R.U (R.v 1) R.ac))))) R.av) (R.ag (R.ao (R.v 2))))),?_⟩
  refine⟨dE rfl,fun p hp=>?_⟩
  have f1:=(Fw.refl dk).new (o:=.lst []) hp
  have g1:(aI H p (.lst [])) p=some (.lst []):=aA
  dsimp only [aJ];generalize aI H p (.lst [])=H1 at f1 g1;refine⟨d,b,2,rfl,f1.dk,Zd,Zd,fun r H2 r0 r1 D2 k2=>?_⟩
  have f2:=f1.draw D2 k2
  have F2:=(Fw.refl f1.dk).draw D2 k2
  refine bP (fun _=>?_) (fun _=>?_)
  ·refine⟨d,b,lm,M,rfl,D2,f2.menus hd hb hM,hd,hb,fun ra rs as H3 fr R hk f3=>?_⟩
   exact q ra rs as H3 (f2.free fr) R hk (f2.trans f3)
  ·have pd:=dk.ne hp
   exact q p [] [] H2 hp (.nil (F2.get g1 pd.1 pd.2)) ⟨.nil,(fun _ h=>nomatch h),(fun _ h=>nomatch h),Nat.zero_le _,(fun _ _ h=>nomatch h)⟩ f2
end
end KL
namespace KL
open PySem L2
section
variable {P:Program} {w:World} {K:W.Frag} {mg:Str->Option Value} {base:Heap}
theorem jU {rs:List RX} (h:RX.Whole rs) {n t t':Nat} {p k p' k':Str} {x x':Dd} (h1:.came n t p k x∈rs) (h2:.came n t' p' k' x'∈rs):RX.came n t p k x=.came n t' p' k' x':=by
 induction h with
 | nil=>cases h1
 | snoc hw hf ih=>
  rcases aH h1 with h1 | h1
  ·rcases aH h2 with h2 | h2
   ·exact ih h1 h2
   ·rw[<- h2]at hf;exact absurd (hf.1 _ _ _ _ _ h1) (Nat.lt_irrefl _)
  ·rcases aH h2 with h2 | h2
   ·rw[<- h1]at hf;exact absurd (hf.1 _ _ _ _ _ h2) (Nat.lt_irrefl _)
   ·rw[h1,h2]
theorem eJ {rs:List RX} (h:RX.Whole rs) {n t:Nat} {y:An} (h1:.done n t y∈rs):∃t0 p k x,RX.came n t0 p k x∈rs/\An.Of x y:=by
 induction h with
 | nil=>cases h1
 | snoc hw hf ih=>
  rcases aH h1 with h1 | h1
  ·obtain⟨t0,p,k,x,h2,h3⟩:=ih h1;exact⟨t0,p,k,x,List.mem_append_left _ h2,h3⟩
  ·rw[<- h1]at hf;obtain⟨_,_,t0,p,k,x,h2,h3,_⟩:=hf
   exact⟨t0,p,k,x,List.mem_append_left _ h2,h3⟩
theorem lV {r:RX} (h:bQ r="came"):∃n t p k x,r=.came n t p k x:=by
 cases r with
 | came n t p k x=>exact⟨n,t,p,k,x,rfl⟩
 | has z m=>exact absurd (show("has":Str)="came" from h) Zk
 | next n t=>exact absurd (show("next":Str)="came" from h) Zk
 | kept n t p k x y=>exact absurd (show("kept":Str)="came" from h) Zk
 | asked n=>exact absurd (show("asked":Str)="came" from h) Zk
 | done n t y=>exact absurd (show("done":Str)="came" from h) Zk
theorem jV {r:RX} (h:bQ r="done"):∃n t y,r=.done n t y:=by
 cases r with
 | done n t y=>exact⟨n,t,y,rfl⟩
 | has z m=>exact absurd (show("has":Str)="done" from h) Zk
 | next n t=>exact absurd (show("next":Str)="done" from h) Zk
 | kept n t p k x y=>exact absurd (show("kept":Str)="done" from h) Zk
 | asked n=>exact absurd (show("asked":Str)="done" from h) Zk
 | came n t p k x=>exact absurd (show("came":Str)="done" from h) Zk
theorem jH (rs:List RX) (r:RX) (h:bQ r≠"has"):eG (rs++[r])=eG rs:=by
 unfold eG;rw[List.foldl_append];cases r <;> first | rfl | exact absurd rfl h
structure RepF (rs:List RX) (F:Nat->Str->Nat) (f:Str->Nat):Prop where
 z:F 0=eG rs
 done:∀i n t y,rs[i]?=some (.done n t y)->∃t0 p k x q,.came n t0 p k x∈rs/\iG (F i) x q y/\F (i+1)=after (F i) x y
 rest:∀i r,rs[i]?=some r->bQ r≠"done"->F (i+1)=F i
 last:F rs.length=f
theorem gO {α:Type} {xs:List α} {x y:α} {i:Nat} (h:(xs++[x])[i]?=some y):(i<xs.length/\xs[i]?=some y)∨(i=xs.length/\y=x):=by
 rcases Nat.lt_or_ge i xs.length with z | z
 ·rw[List.getElem?_append_left z]at h;exact .inl ⟨z,h⟩
 ·rw[List.getElem?_append_right z]at h;have hi:=(Zgs.mp h).1
  have:i=xs.length:=by simp at hi;omega
  subst this;rw[Nat.sub_self]at h;cases h
  exact .inr ⟨rfl,rfl⟩
theorem Bu {rs:List RX} {f:Str->Nat} (h:jG rs f):∃F,RepF rs F f:=by
 induction h with
 | head h=>exact⟨fun _=>eG _,rfl,fun i n t y e=>absurd (h.rk _ (jM e)) (by show ¬ (3<=2);decide),fun _ _ _ _=>rfl,rfl⟩
 | @came rs f n t p k x hl ih=>
  obtain⟨F,hF⟩:=ih
  refine⟨fun i=>if i<=rs.length then F i else f,?_,fun i n' t' y' e=>?_,fun i r e hr=>?_,?_⟩
  ·show(if 0<=rs.length then F 0 else f)=_
   rw[if_pos (Nat.zero_le _),hF.z,jH rs (.came n t p k x) (show("came":Str)≠"has" by decide +kernel)]
  ·rcases gO e with⟨hi,e⟩ | ⟨_,e⟩
   ·obtain⟨t0,p0,k0,x0,q,h1,h2,h3⟩:=hF.done i n' t' y' e
    refine⟨t0,p0,k0,x0,q,List.mem_append_left _ h1,?_,?_⟩
    ·rw[if_pos (Nat.le_of_lt hi)];exact h2
    ·rw[if_pos (Nat.le_of_lt hi),if_pos Zo];exact h3
   ·cases e
  ·rcases gO e with⟨hi,e⟩ | ⟨hi,e⟩
   ·rw[if_pos (Nat.le_of_lt hi),if_pos Zo];exact hF.rest i r e hr
   ·subst hi;rw[if_neg Zo,if_pos (aV _),hF.last]
  ·show(if (rs++[_]).length<=rs.length then _ else f)=f
   rw[if_neg Zs]
 | @asked rs f n hl ih=>
  obtain⟨F,hF⟩:=ih
  refine⟨fun i=>if i<=rs.length then F i else f,?_,fun i n' t' y' e=>?_,fun i r e hr=>?_,?_⟩
  ·show(if 0<=rs.length then F 0 else f)=_
   rw[if_pos (Nat.zero_le _),hF.z,jH rs (.asked n) (show("asked":Str)≠"has" by decide +kernel)]
  ·rcases gO e with⟨hi,e⟩ | ⟨_,e⟩
   ·obtain⟨t0,p0,k0,x0,q,h1,h2,h3⟩:=hF.done i n' t' y' e
    refine⟨t0,p0,k0,x0,q,List.mem_append_left _ h1,?_,?_⟩
    ·rw[if_pos (Nat.le_of_lt hi)];exact h2
    ·rw[if_pos (Nat.le_of_lt hi),if_pos Zo];exact h3
   ·cases e
  ·rcases gO e with⟨hi,e⟩ | ⟨hi,e⟩
   ·rw[if_pos (Nat.le_of_lt hi),if_pos Zo];exact hF.rest i r e hr
   ·subst hi;rw[if_neg Zo,if_pos (aV _),hF.last]
  ·show(if (rs++[_]).length<=rs.length then _ else f)=f
   rw[if_neg Zs]
 | @done rs f n t t0 p k x q y hl hc hy ih=>
  obtain⟨F,hF⟩:=ih
  refine⟨fun i=>if i<=rs.length then F i else after f x y,?_,fun i n' t' y' e=>?_,fun i r e hr=>?_,?_⟩
  ·show(if 0<=rs.length then F 0 else _)=_
   rw[if_pos (Nat.zero_le _),hF.z,jH rs (.done n t y) (show("done":Str)≠"has" by decide +kernel)]
  ·rcases gO e with⟨hi,e⟩ | ⟨hi,e⟩
   ·obtain⟨t0,p0,k0,x0,q,h1,h2,h3⟩:=hF.done i n' t' y' e
    refine⟨t0,p0,k0,x0,q,List.mem_append_left _ h1,?_,?_⟩
    ·rw[if_pos (Nat.le_of_lt hi)];exact h2
    ·rw[if_pos (Nat.le_of_lt hi),if_pos Zo];exact h3
   ·injection e with e1 e2 e3
    subst e1 e2 e3 hi;refine⟨t0,p,k,x,q,List.mem_append_left _ hc,?_,?_⟩
    ·rw[if_pos (aV _),hF.last];exact hy
    ·rw[if_neg Zo,if_pos (aV _),hF.last]
  ·rcases gO e with⟨hi,e⟩ | ⟨hi,e⟩
   ·rw[if_pos (Nat.le_of_lt hi),if_pos Zo];exact hF.rest i r e hr
   ·subst e;exact absurd rfl hr
  ·show(if (rs++[_]).length<=rs.length then _ else after f x y)=_
   rw[if_neg Zs]
theorem RepF.le {rs:List RX} {F:Nat->Str->Nat} {f:Str->Nat} (h:RepF rs F f) (ok:∀r∈rs,r.Ok):∀i,i<=rs.length->∀z,F i z<=1000000000000
 | 0,_,z=>by rw[h.z];exact rS ok z
 | i+1,hi,z=>by
  have ih:=h.le ok i Zo
  obtain⟨r,hr⟩:∃r,rs[i]?=some r:=⟨rs[i],fB Zo⟩
  by_cases e:bQ r="done"
  ·obtain⟨n,t,y,rfl⟩:=jV e
   obtain⟨t0,p,k,x,q,_,h2,h3⟩:=h.done i n t y hr
   rw[h3];exact vL ih h2 z
  ·rw[h.rest i r hr e];exact ih z
def Xp:RX->Bool | .done _ _ _=>true | _=>false
def fR:RX->Bool | .came _ _ _ _ _=>true | _=>false
def cK (rs:List RX):List Nat:=rs.filterMap fun r=>match r with | .done n _ _=>some n | _=>none
def bM (rs:List RX):List Nat:=rs.filterMap fun r=>match r with | .came n _ _ _ _=>some n | _=>none
theorem mW {rs:List RX} {n:Nat} (h:n∈cK rs):∃t y,.done n t y∈rs:=by
 obtain⟨r,hr,e⟩:=List.mem_filterMap.mp h
 cases r <;> cases e
 exact⟨_,_,hr⟩
theorem Bv {rs:List RX} {n t:Nat} {p k:Str} {x:Dd} (h:.came n t p k x∈rs):n∈bM rs:=List.mem_filterMap.mpr ⟨_,h,rfl⟩
theorem vT {rs:List RX} (h:RX.Whole rs):(cK rs).Nodup:=by
 induction h with
 | nil=>exact List.nodup_nil
 | @snoc rs r hw hf ih=>
  unfold cK at ih ⊢
  rw[List.filterMap_append];cases r with
  | done n t y=>
   refine List.nodup_append.mpr ⟨ih,Zs,fun a ha b hb=>?_⟩
   have hb':b=n:=by simpa using hb
   subst hb';rintro rfl
   obtain⟨t',y',hm⟩:=mW ha
   exact hf.2.1 _ _ hm
  | _=>simpa using ih
theorem Hx {xs:List Nat}:∀ {ys:List Nat},xs.Nodup->(∀x∈xs,x∈ys)->xs.length<=ys.length:=by
 induction xs with
 | nil=>exact fun _ _=>Nat.zero_le _
 | cons x r ih=>
  intro ys hn h;obtain⟨h1,h2⟩:=List.nodup_cons.mp hn
  have hx:=h x iM
  have:=ih (ys:=ys.erase x) h2 fun y hy=>(List.mem_erase_of_ne (fun e=>h1 (by rw[<- e];exact hy))).mpr (h y (kD _ hy))
  rw[List.length_erase_of_mem hx]at this;have hp:0<ys.length:=List.length_pos_of_mem hx
  rw[nZ];omega
theorem vU (rs:List RX):(dQ rs).length+(cK rs).length+(bM rs).length<=rs.length:=by
 induction rs with
 | nil=>exact aV _
 | cons r rs ih=>
  unfold dQ cK bM at ih ⊢
  cases r <;> simp only [List.filterMap_cons,nZ] <;> omega
theorem Bw {rs:List RX} (h:RX.Whole rs):(dQ rs).length+2*(cK rs).length<=rs.length:=by
 have h1:=vU rs
 have h2:=Hx (vT h) (ys:=bM rs) fun n hn=>by
  obtain⟨t,y,hm⟩:=mW hn
  obtain⟨t0,p,k,x,hc,_⟩:=eJ h hm
  exact Bv hc
 omega
theorem pW (rs:List RX) (i:Nat):(cK (rs.take i)).length<=(cK rs).length:=by
 unfold cK;exact((List.take_sublist i rs).filterMap _).length_le
def Oe:Dd->List (Str × Int)
 | .add a n=>[(a,(n:Int))]
 | .take a n=>[(a,-(n:Int))]
 | .move a b n=>[(a,-(n:Int)),(b,(n:Int))]
 | .send _ a n=>[(a,-(n:Int))]
 | .fetch _ a n=>[(a,(n:Int))]
 | .pass _ _ _ _=>[]
theorem Hy {x:Dd} {y:An} (hy:An.Of x y) (h:qS y="is"):kW x y=Oe x:=by
 rcases pO h with⟨m,rfl⟩ | ⟨l,m,rfl⟩ <;> cases x <;> first | rfl | exact hy.elim
theorem Sj {x:Dd} {y:An} (h:qS y≠"is"):kW x y=[]:=by cases x <;> cases y <;> first | rfl | exact absurd rfl h
def zO:Sp:=fun vs H Q _=>∃(t:Addr) (x:Dd),vs=[.ref t]/\H t=some (.tup x.vs)/\∀(tp:Addr) (zs:List Z) (H':Hp),Same H H'->H' tp=some (.tup (dS zs))->ZAt H' zs->zs.map (·.2)=Oe x->Q (.ref tp) H'
theorem nY (T:Txt K mg) (D:DefAt K mg "done_changes" dM ["deed"]):aG P w K mg base 1 "done_changes" ["deed"] zO:=by
 refine D.go nX (fun vs H Q E h=>?_) (fun f cdv A outer s H vs Q E hr h=>?_)
 ·obtain⟨t,x,rfl,_⟩:=h;rfl
 ·obtain⟨p,x,rfl,hp,q⟩:=h
  refine⟨_,(R.ad (R.ar (R.al R.eq (R.ix (R.af (K:=K)) (R.v 0) R.ab) R.ae) (R.ag (R.ao (R.ai R.ac))) R.av) (R.ad (R.ar (R.al R.eq (R.ix (R.af (K:=K)) (R.v 0) R.ab) R.ae) (R.ag (R.ao (R.ai (R.U (R.ai (R.U (R.ix (R.af (K:=K)) (R.v 0) R.ab) (R.U (R.ba (R.ix (R.af (K:=K)) (R.v 0) (R.ba R.ab))) R.ac))) (R.U (R.ai (R.U (R.ix (R.af (K:=K)) (R.v 0) R.ab) (R.U (R.ix (R.af (K:=K)) (R.v 0) (R.ba R.ab)) R.ac))) R.ac))))) R.av) (R.ad (R.ar (R.al (R.bp (K:=K)) (R.ix (R.af (K:=K)) (R.v 0) R.ab) (R.ai (R.U R.ae (R.U R.ae R.ac)))) (R.ag (R.ao (R.ai (R.U (R.ai (R.U (R.ix (R.af (K:=K)) (R.v 0) (R.ba R.ab)) (R.U (R.ba (R.ix (R.af (K:=K)) (R.v 0) (R.ba R.ab))) R.ac))) R.ac)))) R.av) (R.ag (R.ao (R.ai (R.U (R.ai (R.U (R.ix (R.af (K:=K)) (R.v 0) (R.ba R.ab)) (R.U (R.ix (R.af (K:=K)) (R.v 0) (R.ba R.ab)) R.ac))) R.ac))))))),?_⟩
  have z1:∀ {H':Hp} {a:Addr} {x:Str} {i:Int},H' a=some (.tup [.str x,.int i])->ZAt H' [(a,x,i)]:=fun h z hz=>by
   rw[Zms.mp hz];exact h
  cases x with
  | add a n=>
   refine⟨_,SqT.of hp,_,rfl,_,SqT.of hp,_,rfl,_,SqT.of hp,_,rfl,aP rfl,fun p1 H1 s1 g1=>⟨p1,_,rfl,.inr (SqT.of g1),rfl,rfl,?_⟩⟩
   exact⟨_,SqT.of (s1 _ _ hp),_,rfl,_,SqT.of (s1 _ _ hp),_,rfl,aP rfl,fun p2 H2 s2 g2=>⟨aP rfl,fun p3 H3 s3 g3=>q p3 [(p2,a,(n:Int))] H3 ((s1.trans s2).trans s3) g3 (z1 (s3 _ _ g2)) rfl⟩⟩
  | take a n=>
   refine⟨_,SqT.of hp,_,rfl,_,SqT.of hp,_,rfl,_,SqT.of hp,_,rfl,aP rfl,fun p1 H1 s1 g1=>⟨p1,_,rfl,.inr (SqT.of g1),rfl,rfl,?_⟩⟩
   exact⟨_,SqT.of (s1 _ _ hp),_,rfl,_,SqT.of (s1 _ _ hp),_,rfl,aP rfl,fun p2 H2 s2 g2=>⟨aP rfl,fun p3 H3 s3 g3=>q p3 [(p2,a,-(n:Int))] H3 ((s1.trans s2).trans s3) g3 (z1 (s3 _ _ g2)) rfl⟩⟩
  | send h a n=>
   refine⟨_,SqT.of hp,_,rfl,_,SqT.of hp,_,rfl,_,SqT.of hp,_,rfl,aP rfl,fun p1 H1 s1 g1=>⟨p1,_,rfl,.inr (SqT.of g1),rfl,rfl,?_⟩⟩
   exact⟨_,SqT.of (s1 _ _ hp),_,rfl,_,SqT.of (s1 _ _ hp),_,rfl,aP rfl,fun p2 H2 s2 g2=>⟨aP rfl,fun p3 H3 s3 g3=>q p3 [(p2,a,-(n:Int))] H3 ((s1.trans s2).trans s3) g3 (z1 (s3 _ _ g2)) rfl⟩⟩
  | fetch h a n=>
   refine⟨_,SqT.of hp,_,rfl,_,SqT.of hp,_,rfl,_,SqT.of hp,_,rfl,aP rfl,fun p1 H1 s1 g1=>⟨p1,_,rfl,.inr (SqT.of g1),rfl,rfl,?_⟩⟩
   exact⟨_,SqT.of (s1 _ _ hp),_,rfl,_,SqT.of (s1 _ _ hp),_,rfl,aP rfl,fun p2 H2 s2 g2=>⟨aP rfl,fun p3 H3 s3 g3=>q p3 [(p2,a,(n:Int))] H3 ((s1.trans s2).trans s3) g3 (z1 (s3 _ _ g2)) rfl⟩⟩
  | move a b n=>
   refine⟨_,SqT.of hp,_,rfl,_,SqT.of hp,_,rfl,_,SqT.of hp,_,rfl,_,SqT.of hp,_,rfl,aP rfl,fun p2 H2 s2 g2=>⟨_,SqT.of (s2 _ _ hp),_,rfl,_,SqT.of (s2 _ _ hp),_,rfl,aP rfl,fun p3 H3 s3 g3=>⟨aP rfl,fun p4 H4 s4 g4=>?_⟩⟩⟩
   refine q p4 [(p2,a,-(n:Int)),(p3,b,(n:Int))] H4 ((s2.trans s3).trans s4) g4 (fun z hz=>?_) rfl
   rcases List.mem_cons.mp hz with rfl | hz
   ·exact s4 _ _ (s3 _ _ g2)
   ·rw[Zms.mp hz];exact s4 _ _ g3
  | pass h g a n=>
   refine⟨_,SqT.of hp,_,rfl,?_⟩
   exact⟨aP rfl,fun p1 H1 s1 g1=>q p1 [] H1 s1 g1 (fun _ h=>nomatch h) rfl⟩
def Og:Sp:=fun vs H Q _=>∃(t c:Addr) (x:Dd) (y:An),vs=[.ref t,.ref c]/\H t=some (.tup x.vs)/\H c=some (.tup y.vs)/\An.Of x y/\∀(tp:Addr) (zs:List Z) (H':Hp),Same H H'->H' tp=some (.tup (dS zs))->ZAt H' zs->zs.map (·.2)=kW x y->Q (.ref tp) H'
theorem qU (T:Txt K mg) (c_done_changes:aG P w K mg base 1 "done_changes" ["deed"] zO) (D:DefAt K mg "changes_of" fF ["deed","answer"]):aG P w K mg base 2 "changes_of" ["deed","answer"] Og:=by
 refine D.go qQ (fun vs H Q E h=>?_) (fun f cdv A outer s H vs Q E hr h=>?_)
 ·obtain⟨t,c,x,y,rfl,_⟩:=h;rfl
 ·obtain⟨t,c,x,y,rfl,gt,gc,hy,q⟩:=h
  have hr_done_changes:=hr
  refine⟨_,(R.ad (R.ar (R.al R.ne (R.ix (R.af (K:=K)) (R.v 1) R.ab) R.ae) (R.ag (R.ao (R.ai R.ac))) R.av) (R.ag (R.ao (R.fn c_done_changes hr_done_changes rfl (R.U (R.v 0) R.ac))))),?_⟩
  refine⟨_,SqT.of gc,_,Oc y,?_⟩
  show if (!decide (qS y="is"))=true then _ else _
  by_cases hw:qS y="is"
  ·refine qM (by rw[decide_eq_true hw];rfl) ?_
   exact⟨t,x,rfl,gt,fun tp zs H' s' g z e=>q tp zs H' s' g z (by rw[e,Hy hy hw])⟩
  ·refine Bd (by rw[decide_eq_false hw];rfl) ?_
   exact⟨aP rfl,fun p1 H1 s1 g1=>q p1 [] H1 s1 g1 (fun _ h=>nomatch h) (by rw[Sj hw];rfl)⟩
end
end KL
namespace KL
open PySem L2
section
variable {P:Program} {w:World} {K:W.Frag} {mg:Str->Option Value} {base:Heap}
theorem Hz {C:Addr} (T:Txt K mg) (B:Vf K C) (D:ClsAt K mg "Book" C "Book.__init__" bU ["self","rows"] [[],[.non]]):∀d∈([[],[.non]]:List (List V)),We P w K mg base 1 "Book" C ["self","rows"] d (zD C):=by
 refine D.go mV (fun vs H Q E h=>?_) (fun f cdv A outer s H vs Q E hr h=>?_)
 ·obtain⟨p,dx,r,prs,rfl,_⟩:=h;rfl
 ·obtain⟨p,dx,r,prs,rfl,hp,hR,nd,hz,q⟩:=h
  refine⟨_,(R.ad (R.iw (K:=K) (R.v 0) R.iu) (R.ag (R.ar (R.al R.ir (R.v 1) R.df) (R.ag (R.iw (K:=K) (R.v 0) (R.bg (R.db (K:=K) rfl) rfl T.b_dict lF (R.U (R.v 1) R.ac)))) R.av))),?_⟩
  intro d1 hd1;have np:=aF hp hd1
  refine⟨C,dx,[],(by rw[aE np];exact hp),B.cl,B.nA,(by show 0<1000;decide),?_⟩
  have g1:(aI (aI H d1 (.dK [])) p (.ins C dx [("amounts",.ref d1)])) p=some (.ins C dx [("amounts",.ref d1)]):=aA
  have g2:(aI (aI H d1 (.dK [])) p (.ins C dx [("amounts",.ref d1)])) d1=some (.dK []):=by rw[aE np.symm];exact aA
  have k1:∀b o,H b=some o->b≠p->(aI (aI H d1 (.dK [])) p (.ins C dx [("amounts",.ref d1)])) b=some o:=fun b o e hb=>by rw[aE hb,aE (aF e hd1)];exact e
  dsimp only;rw[Xk];generalize aI (aI H d1 (.dK [])) p (.ins C dx [("amounts",.ref d1)])=H1 at g1 g2 k1;rcases hR with⟨rfl,rfl⟩ | ⟨l,zs,rfl,hl,hza,rfl⟩
  ·exact q H1 d1 hd1 g1 g2 k1
  ·have nl:l≠p:=dI hl hp (fun z=>nomatch z)
   have hza1:ZAt H1 zs:=fun z hz=>k1 _ _ (hza z hz) (dI (hza z hz) hp (fun z=>nomatch z))
   refine⟨wz zs,by rw[Rp];exact SqL.of (k1 _ _ hl nl),Vg hza1,by unfold wz;rw[aQ];simpa using hz,fun d hd=>?_⟩
   have hd0:H d=none:=by
    cases e:H d with
    | none=>rfl
    | some o=>
     by_cases z:d=p
     ·rw[z,g1]at hd;cases hd
     ·rw[k1 d o e z]at hd;cases hd
   rw[Rq,mQ nd];refine⟨C,dx,_,(by rw[aE (aF g1 hd)];exact g1),B.cl,B.nA,(by show 1<1000;decide),?_⟩
   refine q _ d hd0 (by rw[aA,Xl]) (by rw[aE (aF g1 hd).symm];exact aA) fun b o e hb=>?_
   rw[aE hb,aE (aF (k1 b o e hb) hd)];exact k1 b o e hb
theorem tZ {C:Addr} (B:Vf K C) (D:MethAt K C "amount" "Book.amount" eL ["self","name"]):Fm P w K mg base 1 C "amount" ["self","name"] (pH C):=by
 refine D.go pL (fun vs H Q E h=>?_) (fun f cdv A outer s H vs Q E hr h=>?_)
 ·obtain⟨p,n,prs,rfl,_⟩:=h;rfl
 ·obtain⟨p,n,prs,rfl,bk,q⟩:=h
  have hu1:=dU hr
  obtain⟨dx,d,h1,h2⟩:=bk.ex
  refine⟨_,(R.ag (R.ao (R.cq hu1 (R.dr (K:=K) (R.v 0)) (R.v 1) R.ab))),?_⟩
  refine⟨C,dx,_,.ref d,h1,B.cl,B.nA,eS _,d,rfl,.inl ⟨_,.inl h2⟩,_,DGet.k (k:=Sum.inr n) h2,?_⟩
  rw[lN];exact q
theorem xV {C:Addr} (T:Txt K mg) (B:Vf K C) (D:MethAt K C "rows" "Book.rows" eV ["self"]):Fm P w K mg base 1 C "rows" ["self"] (uW C):=by
 refine D.go tT (fun vs H Q E h=>?_) (fun f cdv A outer s H vs Q E hr h=>?_)
 ·obtain⟨p,prs,rfl,_⟩:=h;rfl
 ·obtain⟨p,prs,rfl,bk,hz,q⟩:=h
  have hu1:=dU hr
  obtain⟨dx,d,h1,h2⟩:=bk.ex
  refine⟨_,(R.ag (R.ao (R.ay rfl (js:=[none,some 0]) (N:=["name","self"]) (CompScope.by (aB eV) ["self"] rfl rfl Zk) (aO rfl) (R.aw (K:=K) (R.ax (R.dz rfl) rfl T.b_sorted gM (R.U (R.dr (K:=K) (R.v 0)) R.ac))) (fun C s₂ H₂ fp=>⟨(R.gn (i:=0) (show(["name","self"]:List Str).Nodup by decide +kernel)),(R.az (R.al R.gt (R.be hu1 (R.dr (K:=K) (R.v 1)) (R.v 0)) R.ab)),(R.il (R.U (R.v 0) (R.U (R.be hu1 (R.dr (K:=K) (R.v 1)) (R.v 0)) R.ac)))⟩)))),?_⟩
  refine⟨C,dx,_,.ref d,h1,B.cl,B.nA,eS _,prs.map (·.1),_,.inl h2,lK prs,by rw[aQ];exact hz,fun l hl=>⟨l,rfl,⟨_,SqL.of aA⟩,?_⟩⟩
  have s1:Same H (aI H l (.lst ((gZ (prs.map (·.1))).map V.str))):=aD hl
  have g1:(aI H l (.lst ((gZ (prs.map (·.1))).map V.str))) l=some (.lst ((gZ (prs.map (·.1))).map V.str)):=aA
  generalize aI H l (.lst ((gZ (prs.map (·.1))).map V.str))=H1 at s1 g1;have hlen:(gZ (prs.map (·.1))).length<64:=by rw[hJ,aQ];exact hz
  refine aS (aR K l ((gZ (prs.map (·.1))).map V.str)) (by rw[aQ];omega) (fun i ys H'=>∃zs:List Z,ys=dS zs/\Same H1 H'/\ZAt H' zs/\zs.length<=i/\zs.map (·.2)=(((gZ (prs.map (·.1))).take i).filter fun n=>decide (0<iU prs n)).map fun n=>(n,iU prs n))
   (fun i ys H' ⟨zs,e,s',_,hl',_⟩=>⟨SqL.of (s' _ _ g1),by rw[e];unfold dS;rw[aQ];exact hl'⟩) ⟨[],rfl,Same.refl _,(fun _ h=>nomatch h),aV _,rfl⟩ (fun i x ys H' hx ⟨zs,e,s',hza,hzl,hzm⟩=>?_) (fun ys H' ⟨zs,e,s',hza,hzl,hzm⟩=>?_)
  ·rw[dR]at hx;cases hn:(gZ (prs.map (·.1)))[i]? with
   | none=>rw[hn]at hx;cases hx
   | some n=>
    rw[hn]at hx;cases hx
    have hmem:n∈prs.map (·.1):=(eQ _).mem_iff.mp (jM hn)
    obtain⟨a,ha⟩:=hU hmem
    have ea:iU prs n=a:=by unfold iU;rw[ha];rfl
    have gd:∀H'',Same H1 H''->DGet H'' d (.str n) (some (.int a)):=fun H'' s''=>by
     have:=DGet.k (k:=Sum.inr n) (s''  _ _ (s1 _ _ h2))
     rw[lM,ha]at this;exact this
    have h1':=s' _ _ (s1 _ _ h1)
    refine⟨C,dx,_,.ref d,h1',B.cl,B.nA,eS _,d,_,rfl,gd H' s',?_⟩
    refine bP (fun hb=>?_) (fun hb=>?_)
    ·have hb':0<a:=by simpa using hb
     refine⟨C,dx,_,.ref d,h1',B.cl,B.nA,eS _,d,_,rfl,gd H' s',dE rfl,fun t ht=>⟨zs++[(t,n,a)],by rw[e];unfold dS;rw[cS];rfl,s'.trans (aD ht),?_,by rw[iK];simpa using hzl,?_⟩⟩
     ·intro z hz';rcases Zma.mp hz' with m | m
      ·exact(hza.same (aD ht)) z m
      ·rw[Zms.mp m];exact aA
     ·rw[cS,hzm,aM hn,List.filter_append,cS];congr 1
      rw[List.filter_cons,if_pos (by rw[ea];exact decide_eq_true hb')]
      rw[<- ea];rfl
    ·have hb':¬ 0<a:=by simpa using hb
     refine⟨zs,e,s',hza,Zo,?_⟩
     rw[hzm,aM hn,List.filter_append,List.filter_cons,if_neg (by rw[ea];simpa using hb')]
     simp
  ·intro l2 hl2;subst e;refine q l2 zs _ (s1.trans (s'.trans (aD hl2))) ?_ aA (hza.same (aD hl2)) ?_
   ·exact s1.free (s'.free hl2)
   ·rw[hzm,aQ,List.take_length];rfl
def mY (prs:List (Str × Int)) (n:Str) (v:Int):List (Str × Int):=if n∈prs.map (·.1) then Fy prs n v else prs++[(n,v)]
def kS:List (Str × Int)->List (Str × Int)->List (Str × Int)
 | prs,[]=>prs
 | prs,q::r=>kS (mY prs q.1 (iU prs q.1+q.2)) r
theorem mZ:∀(cs prs:List (Str × Int)) (q:Str × Int),kS prs (cs++[q])=mY (kS prs cs) q.1 (iU (kS prs cs) q.1+q.2)
 | [],_,_=>rfl
 | p::r,prs,q=>mZ r _ q
theorem pX {prs:List (Str × Int)} {n:Str} {v:Int}:bR (iN prs) (Sum.inr n) (.int v)=iN (mY prs n v):=by
 unfold mY;by_cases h:n∈prs.map (·.1)
 ·rw[if_pos h];exact Lu h
 ·rw[if_neg h];have hv:bN (iN prs) (Sum.inr n)=none:=by
   cases e:bN (iN prs) (Sum.inr n) with
   | none=>rfl
   | some x=>
    have:=yO e
    rw[lK]at this;obtain⟨m,hm,e2⟩:=Zmm.mp this
    cases e2
    exact absurd hm h
  rw[iW _ hv];unfold iN;rw[cS];rfl
theorem rV {prs:List (Str × Int)} {n:Str} {v:Int}:(mY prs n v).map (·.1)=if n∈prs.map (·.1) then prs.map (·.1) else prs.map (·.1)++[n]:=by
 unfold mY;by_cases h:n∈prs.map (·.1)
 ·rw[if_pos h,if_pos h];exact Bj _ _ _
 ·rw[if_neg h,if_neg h,cS];rfl
theorem Ms {prs:List (Str × Int)} {n:Str} {v:Int} (h:(prs.map (·.1)).Nodup):((mY prs n v).map (·.1)).Nodup:=by
 rw[rV];split
 ·exact h
 ·rename_i hn;exact sY h hn
theorem oI:∀(cs prs:List (Str × Int)),(prs.map (·.1)).Nodup->((kS prs cs).map (·.1)).Nodup
 | [],_,h=>h
 | _::r,_,h=>oI r _ (Ms h)
def Oh (prs:List (Str × Int)) (q:Str × Int):Prop:=0<=iU prs q.1+q.2/\iU prs q.1+q.2<=1000000000000
theorem uA {H:Hp} {zs:List Z} {i:Nat} {x:V} (hz:ZAt H zs) (hx:(dS zs)[i]?=some x):∃z,zs[i]?=some z/\x=.ref z.1/\H z.1=some (.tup [.str z.2.1,.int z.2.2]):=by
 unfold dS at hx;rw[dR]at hx;obtain⟨z,hn,rfl⟩:=Option.map_eq_some_iff.mp hx
 exact⟨z,hn,rfl,hz z (jM hn)⟩
theorem jI:∀(cs prs:List (Str × Int)),(kS prs cs).length<=prs.length+cs.length
 | [],prs=>aV _
 | q::r,prs=>by
  have h:=jI r (mY prs q.1 (iU prs q.1+q.2))
  have h2:(mY prs q.1 (iU prs q.1+q.2)).length<=prs.length+1:=by
   have:=congrArg List.length (rV (prs:=prs) (n:=q.1) (v:=iU prs q.1+q.2))
   rw[aQ]at this;rw[this];split <;> simp
  show(kS (mY prs q.1 (iU prs q.1+q.2)) r).length<=_
  rw[nZ];omega
def rW (C:Addr):Sp:=fun vs H Q E=>∃(p dx d t:Addr) (prs:List (Str × Int)) (zs:List Z),vs=[.ref p,.ref t]/\H p=some (.ins C dx [("amounts",.ref d)])/\H d=some (.dK (iN prs))/\(prs.map (·.1)).Nodup/\H t=some (.tup (dS zs))/\ZAt H zs/\prs.length+zs.length<=100 ∧
 (∀q∈zs.map (·.2),Oh prs q)/\∀H',H' d=some (.dK (iN (kS prs (zs.map (·.2)))))->(∀b o,H b=some o->b≠d->H' b=some o)->Q .non H'
theorem xW {C:Addr} (T:Txt K mg) (B:Vf K C) (c_Book_amount:Fm P w K mg base 1 C "amount" ["self","name"] (pH C)) (D:MethAt K C "change" "Book.change" eN ["self","changes"]):Fm P w K mg base 2 C "change" ["self","changes"] (rW C):=by
 refine D.go cP (fun vs H Q E h=>?_) (fun f cdv A outer s H vs Q E hr h=>?_)
 ·obtain⟨p,dx,d,t,prs,zs,rfl,_⟩:=h;rfl
 ·obtain⟨p,dx,d,t,prs,zs,rfl,hp,hd,nd,ht,hz,hl,hg,Q0⟩:=h
  have hr_Book_amount:=hr
  have hu1:=dU hr
  have hlz:(dS zs).length=zs.length:=by unfold dS;rw[aQ]
  refine⟨_,(R.ad (R.bh PassesOwn.never rfl (R.iy (K:=K) (R.v 1)) (R.dh (K:=K) (n:=2) rfl (R.bq (R.gn (i:=2) cP.nd) (R.bq (R.gn (i:=3) cP.nd) R.di))) (R.ag (R.ar (R.dj (R.jk R.le R.le R.ab (R.op R.ap (R.fm c_Book_amount hr_Book_amount (R.v 0) (R.U (R.v 2) R.ac)) (R.v 3)) (R.gI rfl T.g_MOST))) (R.ag R.gm) R.av))) (R.ag (R.bh PassesOwn.never rfl (R.iy (K:=K) (R.v 1)) (R.dh (K:=K) (n:=2) rfl (R.bq (R.gn (i:=2) cP.nd) (R.bq (R.gn (i:=3) cP.nd) R.di))) (R.ag (R.br (R.op R.ap (R.fm c_Book_amount hr_Book_amount (R.v 0) (R.U (R.v 2) R.ac)) (R.v 3)) (R.bu (R.dr (K:=K) (R.v 0)) (R.v 2) (R.cf hu1))))))),?_⟩
  refine bE (fun σ' H'=>H'=H/\∃o2 o3,σ'=[some (.ref p),some (.ref t),o2,o3]) (fun nx hnx=>?_) ?_
  ·refine⟨t,rfl,⟨_,SqT.of ht⟩,cC (yX K t (dS zs)) (fun i σ H'=>H'=H/\∃o2 o3,σ=[some (.ref p),some (.ref t),o2,o3]) (fun i σ H' ⟨e,_⟩=>by rw[e];exact SqT.of ht) ⟨rfl,_,_,rfl⟩ ?_ (fun σ H' h=>hnx σ H' h)⟩
   rintro i x σ H' hx ⟨rfl,o2,o3,rfl⟩
   obtain⟨z,hn,rfl,gz⟩:=uA hz hx
   have hgz:=hg z.2 (List.mem_map_of_mem (jM hn))
   refine⟨z.1,_,rfl,SqT.of gz,rfl,_,_,rfl,_,_,rfl,rfl,dx,_,hp,tO _ Zk,p,z.2.1,prs,rfl,⟨⟨dx,d,hp,hd⟩,nd⟩,?_⟩
   refine Bd (decide_eq_true hgz.1) ?_
   show if (!decide (iU prs z.2.1+z.2.2<=1000000000000))=true then _ else _
   refine qM (by rw[decide_eq_true hgz.2];rfl) ?_
   exact⟨rfl,_,_,rfl⟩
  ·rintro σ H' ⟨rfl,o2,o3,rfl⟩
   have ntd:t≠d:=dI ht hd (fun z=>nomatch z)
   refine⟨t,rfl,⟨_,SqT.of ht⟩,cC (yX K t (dS zs)) (fun i σ H''=>H'' d=some (.dK (iN (kS prs ((zs.map (·.2)).take i))))/\(∀b o,H' b=some o->b≠d->H'' b=some o)/\∃o2 o3,σ=[some (.ref p),some (.ref t),o2,o3]) (fun i σ H'' ⟨_,k,_⟩=>SqT.of (k _ _ ht ntd)) ⟨hd,fun b o e _=>e,_,_,rfl⟩ ?_ ?_⟩
   ·rintro i x σ H'' hx ⟨g,k,o2,o3,rfl⟩
    obtain⟨z,hn,rfl,gz⟩:=uA (fun z m=>k _ _ (hz z m) (dI (hz z m) hd (fun z=>nomatch z))) hx
    have hni:(zs.map (·.2))[i]?=some z.2:=by rw[dR,hn];rfl
    have hp':=k _ _ hp (dI hp hd (fun z=>nomatch z))
    have nd':=oI ((zs.map (·.2)).take i) prs nd
    have hle:=jI ((zs.map (·.2)).take i) prs
    have hle2:((zs.map (·.2)).take i).length<=zs.length:=by rw[nQ,aQ];exact Nat.min_le_right _ _
    refine⟨z.1,_,rfl,SqT.of gz,rfl,_,_,rfl,_,_,rfl,rfl,dx,_,hp',tO _ Zk,p,z.2.1,kS prs ((zs.map (·.2)).take i),rfl,⟨⟨dx,d,hp',g⟩,nd'⟩,?_⟩
    refine⟨C,dx,_,.ref d,hp',B.cl,B.nA,eS _,d,_,rfl,DPut.k (k:=Sum.inr z.2.1) g ?_,?_,fun b o e hb=>?_,_,_,rfl⟩
    ·unfold iN;rw[aQ];exact kI (m:=1000) Zo Zd
    ·rw[aA,pX,aM hni,mZ]
    ·rw[aE hb];exact k b o e hb
   ·rintro σ H'' ⟨g,k,o2,o3,rfl⟩
    refine Q0 _ ?_ k
    rw[g,hlz,gH (by rw[aQ];exact aV _)]
end
end KL
namespace KL
open PySem L2
section
variable {P:Program} {w:World} {K:W.Frag} {mg:Str->Option Value} {base:Heap}
def fS (rs:List RX):List (Str × Int):=rs.filterMap fun r=>match r with | .has z m=>some (z,(m:Int)) | _=>none
theorem jW:∀rs:List RX,dQ rs=iN (fS rs)
 | []=>rfl
 | r::rs=>by
  have ih:=jW rs
  unfold dQ fS iN at ih ⊢
  cases r <;> simp only [List.filterMap_cons,List.map_cons] <;> first | exact ih | rw[ih]
theorem vV (rs:List RX):(fS rs).length=(dQ rs).length:=by rw[jW];unfold iN;rw[aQ]
theorem Ia {rs:List RX} {z:Str} {m:Int} (h:(z,m)∈fS rs):∃m',.has z m'∈rs:=by
 obtain⟨r,hr,e⟩:=List.mem_filterMap.mp h
 cases r <;> cases e
 exact⟨_,hr⟩
theorem lW {rs:List RX} (h:RX.Whole rs):((fS rs).map (·.1)).Nodup:=by
 induction h with
 | nil=>exact List.nodup_nil
 | @snoc rs r hw hf ih=>
  have e:fS (rs++[r])=fS rs++fS [r]:=by unfold fS;rw[List.filterMap_append]
  rw[e,cS];cases r with
  | has z m=>
   refine List.nodup_append.mpr ⟨ih,by simp [fS],fun a ha b hb=>?_⟩
   have hb':b=z:=by simpa [fS]using hb
   subst hb';rintro rfl
   obtain⟨q,hq,rfl⟩:=Zmm.mp ha
   obtain⟨m',hm⟩:=Ia (z:=q.1) (m:=q.2) hq
   exact absurd (hf.2.2 _ _ hm) (List.lt_irrefl _)
  | _=>simpa [fS]using ih
theorem vW {rs:List RX} (h:RX.Whole rs) (z:Str):iU (fS rs) z=(eG rs z:Int):=by
 have h1:=cR rs [] (fun _=>0) (fun _=>rfl) z
 rw[jW,mQ (lW h),lN]at h1;injection h1
theorem Ib (prs:List (Str × Int)) (n m:Str) (v:Int):iU (mY prs n v) m=if m=n then v else iU prs m:=by
 have h1:=lN (mY prs n v) m
 rw[<- pX,gK]at h1;by_cases e:m=n
 ·rw[if_pos (by rw[e])]at h1
  rw[if_pos e];injection h1 with h1
  exact h1.symm
 ·rw[if_neg (fun c=>e (by injection c)),lN]at h1
  rw[if_neg e];injection h1 with h1
  exact h1.symm
theorem pY:∀(cs:List (Str × Int)) (prs:List (Str × Int)) (g:Str->Nat),vP g cs->(∀z,iU prs z=(g z:Int))->∀z,iU (kS prs cs) z=(pP g cs z:Int)
 | [],prs,g,_,h=>h
 | c::cs,prs,g,hG,h=>by
  refine pY cs (mY prs c.1 (iU prs c.1+c.2)) (eF g c) hG.2 (fun z=>?_)
  rw[Ib,h];unfold eF eE;by_cases e:z=c.1
  ·rw[if_pos e,if_pos e,Int.toNat_of_nonneg hG.1]
  ·rw[if_neg e,if_neg e];exact h z
theorem Ic {f:Str->Nat} (hf:∀z,f z<=1000000000000) {x:Dd} {q:Bool} {y:An} (hx:x.Ok) (h:iG f x q y):∀c∈kW x y,0<=(f c.1:Int)+c.2/\(f c.1:Int)+c.2<=1000000000000:=by
 have hn:=hx.n
 rcases h with⟨rfl,h⟩ | ⟨rfl,h1,h2⟩
 ·cases x with
  | add a n=>
   have:=hf a
   simp only [aX]at h
   split at h <;> cases h
   ·exact fun c hc=>nomatch hc
   ·intro c hc;rw[Zms.mp hc];exact⟨by show(0:Int)<=(f a:Int)+(n:Int);omega,by show(f a:Int)+(n:Int)<=_;omega⟩
  | take a n=>
   have:=hf a
   simp only [aX]at h
   split at h <;> cases h
   ·exact fun c hc=>nomatch hc
   ·intro c hc;rw[Zms.mp hc];exact⟨by show(0:Int)<=(f a:Int)+-(n:Int);omega,by show(f a:Int)+-(n:Int)<=_;omega⟩
  | move a b n=>
   have:=hf a
   have:=hf b
   simp only [aX]at h
   split at h
   ·cases h;exact fun c hc=>nomatch hc
   ·split at h <;> cases h
    ·exact fun c hc=>nomatch hc
    ·intro c hc;rcases List.mem_cons.mp hc with rfl | hc
     ·exact⟨by show(0:Int)<=(f a:Int)+-(n:Int);omega,by show(f a:Int)+-(n:Int)<=_;omega⟩
     ·rw[Zms.mp hc];exact⟨by show(0:Int)<=(f b:Int)+(n:Int);omega,by show(f b:Int)+(n:Int)<=_;omega⟩
  | send g a n=>
   simp only [aX]at h
   split at h <;> cases h
   exact fun c hc=>nomatch hc
  | fetch g a n=>
   simp only [aX]at h
   split at h <;> cases h
   exact fun c hc=>nomatch hc
  | pass g k a n=>cases h
 ·cases x with
  | add a n=>cases h2
  | take a n=>cases h2
  | move a b n=>cases h2
  | send g a n=>
   have:=hf a
   simp only [aX]at h1
   simp only [cJ,List.mem_cons,List.not_mem_nil,or_false]at h2
   have hh:¬ f a<n:=fun hh=>by rw[if_pos hh]at h1;cases h1
   rcases h2 with rfl | rfl
   ·exact fun c hc=>nomatch hc
   ·intro c hc;rw[Zms.mp hc];exact⟨by show(0:Int)<=(f a:Int)+-(n:Int);omega,by show(f a:Int)+-(n:Int)<=_;omega⟩
  | fetch g a n=>
   have:=hf a
   simp only [aX]at h1
   simp only [cJ,List.mem_cons,List.not_mem_nil,or_false]at h2
   have hh:¬ 1000000000000<f a+n:=fun hh=>by rw[if_pos hh]at h1;cases h1
   rcases h2 with rfl | rfl
   ·exact fun c hc=>nomatch hc
   ·intro c hc;rw[Zms.mp hc];exact⟨by show(0:Int)<=(f a:Int)+(n:Int);omega,by show(f a:Int)+(n:Int)<=_;omega⟩
  | pass g k a n=>
   simp only [cJ,List.mem_cons,List.not_mem_nil,or_false]at h2
   rcases h2 with rfl | rfl | rfl <;> exact fun c hc=>nomatch hc
def zP (C:Addr):Sp:=fun vs H Q _=>∃(ra:Addr) (rs:List RX) (as:List Addr),vs=[.ref ra]/\RxsAt H ra rs as/\rs.length<=100/\RX.Whole rs ∧
 ∀(p dx d:Addr) (H':Hp),H p=none->H d=none->H' p=some (.ins C dx [("amounts",.ref d)])->H' d=some (.dK (iN (fS rs)))->Same H H'->Q (.ref p) H'
theorem qV {C:Addr} (T:Txt K mg) (c_Book:We P w K mg base 1 "Book" C ["self","rows"] [] (zD C)) (D:DefAt K mg "first_book" dN ["rows"]):aG P w K mg base 3 "first_book" ["rows"] (zP C):=by
 refine D.go qR (fun vs H Q E h=>?_) (fun f cdv A outer s H vs Q E hr h=>?_)
 ·obtain⟨ra,rs,as,rfl,_⟩:=h;rfl
 ·obtain⟨ra,rs,as,rfl,RR,hl,hw,q⟩:=h
  have hr_Book:Room 2 _:=hr.mono Zd
  have le:=RR.len
  refine⟨_,(R.ag (R.ao (R.jl c_Book hr_Book rfl (R.U (R.ay rfl (js:=[none]) (N:=["row"]) (CompScope.by (aB dN) ["rows"] rfl rfl Zk) (aO rfl) (R.aw (K:=K) (R.v 0)) (fun C s₂ H₂ fp=>⟨(R.gn (i:=0) (show(["row"]:List Str).Nodup by decide +kernel)),(R.az (R.al R.eq (R.ix (R.af (K:=K)) (R.v 0) R.ab) R.ae)),(R.sl R.sT (R.v 0) (R.ps R.ab) R.pn)⟩)) R.ac)))),?_⟩
  refine⟨ra,rfl,⟨_,SqL.of RR.lst⟩,?_⟩
  refine aS (aR K ra (as.map V.ref)) (by rw[aQ];omega) (fun i ys H'=>∃zs:List Z,ys=dS zs/\ZAt H' zs/\zs.map (·.2)=fS (rs.take i)/\Same H H'/\zs.length<=i) (fun i ys H' ⟨zs,e,_,_,s',l'⟩=>⟨SqL.of (s' _ _ RR.lst),by rw[e];unfold dS;rw[aQ];exact l'⟩) ⟨[],rfl,(fun _ h=>nomatch h),rfl,(fun _ _ e=>e),aV _⟩ (fun i x ys H' hx ⟨zs,e,hz,ez,s',l'⟩=>?_) (fun ys H' ⟨zs,e,hz,ez,s',l'⟩=>?_)
  ·obtain⟨a,r,rfl,ha,hrr,hat⟩:=(RR.same s').get hx
   obtain⟨xs,g,x0,x1,x2⟩:=dW hat
   have etk:=aM hrr
   have esn:fS (rs.take i++[r])=fS (rs.take i)++fS [r]:=by unfold fS;rw[List.filterMap_append]
   dsimp only [aJ];refine⟨_,SqT.of g,_,x0,?_⟩
   show if decide (bQ r="has")=true then _ else _
   refine bP (fun h=>?_) (fun h=>?_)
   ·obtain⟨z,m,rfl⟩:=xT (of_decide_eq_true h)
    refine⟨_,hat,fun tp H2 s2 g2=>⟨zs++[(tp,z,(m:Int))],by rw[e];unfold dS;rw[cS];rfl,fun y hy=>?_,?_,s'.trans s2,by simp;omega⟩⟩
    ·rcases aH hy with hy | rfl
     ·exact s2 _ _ (hz y hy)
     ·exact g2
    ·rw[cS,ez,etk,esn];rfl
   ·refine⟨zs,e,hz,?_,s',Zo⟩
    rw[ez,etk,esn];have:fS [r]=[]:=by
     cases r with
     | has z m=>exact absurd rfl (of_decide_eq_false h)
     | _=>rfl
    rw[this,List.append_nil]
  ·intro l hll;rw[aQ]at l' ez;rw[<- le,gH (aV _)]at ez;have s1:Same H (aI H' l (.lst ys)):=s'.trans (aD hll)
   have gl:(aI H' l (.lst ys)) l=some (.lst (dS zs)):=by rw[aA,e]
   have hz1:ZAt (aI H' l (.lst ys)) zs:=fun z hzz=>aL (hz z hzz) hll
   generalize aI H' l (.lst ys)=H1 at s1 gl hz1;intro x dx hx hdx hne;have sB:Same H1 (aI (aI H1 dx (.own x)) x (.ins C dx [])):=fun c o e=>by
    rw[aE (aF e hx),aE (aF e hdx)];exact e
   refine⟨x,dx,.ref l,zs.map (·.2),rfl,aA,.inr ⟨l,zs,rfl,sB _ _ gl,fun z hzz=>sB _ _ (hz1 z hzz),rfl⟩,by rw[ez];exact lW hw,by rw[aQ];omega,fun H2 d hd h1 h2 k=>⟨rfl,?_⟩⟩
   rw[ez]at h2;refine q x dx d H2 (s1.free hx) (s1.free (sB.free hd)) h1 h2 (fun c o e=>k _ _ (sB _ _ (s1 _ _ e)) (aF (s1 _ _ e) hx))
def zQ (C:Addr):Sp:=fun vs H Q _=>∃(ra cd:Addr) (rs:List RX) (as:List Addr) (F:Nat->Str->Nat) (f:Str->Nat),vs=[.ref ra,.ref cd]/\RxsAt H ra rs as/\rs.length<=100/\(dQ rs).length+2*(cK rs).length<=43/\RX.Whole rs/\(∀r∈rs,r.Ok)/\RepF rs F f/\H cd=some (.dK (aK [] (aZ "came" rs as rs.length))) ∧
 ∀(p dx d:Addr) (prs:List (Str × Int)) (H':Hp),H p=none->H d=none->H' p=some (.ins C dx [("amounts",.ref d)])->H' d=some (.dK (iN prs))->(prs.map (·.1)).Nodup->(∀z,iU prs z=(f z:Int))->prs.length<=43->Same H H'->Q (.ref p) H'
theorem gB {H:Hp} {ra:Addr} {rs:List RX} {as:List Addr} (hw:RX.Whole rs) (RR:RxsAt H ra rs as) {n t:Nat} {p k:Str} {x:Dd} (hm:.came n t p k x∈rs):∃(a b:Addr) (t':Nat),bN (aK [] (aZ "came" rs as rs.length)) (Sum.inl (n:Int))=some (.ref a)/\H a=some (.tup [.str "came",.int (n:Int),.int (t':Int),.str p,.str k,.ref b])/\H b=some (.tup x.vs):=by
 obtain⟨j,r',a',hv,hj1,hj2,hj3,hj4⟩:=pV RR.len hm (wd:="came") rfl
 obtain⟨n',t',p',k',x',rfl⟩:=lV hj3
 have en:n=n':=by
  have:(Sum.inl (n:Int):aW)=Sum.inl (n':Int):=hj4
  injection this with this
  omega
 subst en;have ecm:=jU hw hm (jM hj1)
 injection ecm with _ _ e1 e2 e3
 subst e1;subst e2;subst e3
 obtain⟨aj,rj,e0,hj2',hj1',hatj⟩:=RR.get (i:=j) (v:=.ref a') (by rw[dR,hj2];rfl)
 injection e0 with e0
 subst e0;rw[hj1]at hj1';injection hj1' with e0
 subst e0;obtain⟨bx,gj,gj2⟩:=hatj
 exact⟨a',bx,t',hv,gj,gj2⟩
theorem iJ (rs:List RX) (r:RX):cK (rs++[r])=cK rs++cK [r]:=by unfold cK;rw[List.filterMap_append]
theorem qW {C:Addr} (T:Txt K mg) (c_first_book:aG P w K mg base 3 "first_book" ["rows"] (zP C)) (c_changes_of:aG P w K mg base 2 "changes_of" ["deed","answer"] Og) (c_Book_change:Fm P w K mg base 2 C "change" ["self","changes"] (rW C))
  (D:DefAt K mg "risen_book" fI ["rows","came"]):aG P w K mg base 4 "risen_book" ["rows","came"] (zQ C):=by
 refine D.go gD (fun vs H Q E h=>?_) (fun f cdv A outer s H vs Q E hr h=>?_)
 ·obtain⟨ra,cd,rs,as,F,f,rfl,_⟩:=h;rfl
 ·obtain⟨ra,cd,rs,as,F,f,rfl,RR,hl,hct,hw,hok,hF,gcd,q⟩:=h
  have hr_first_book:=hr
  have hr_changes_of:Room 2 _:=hr.mono Zd
  have hr_Book_change:Room 2 _:=hr.mono Zd
  have hu1:=dU hr
  have le:=RR.len
  refine⟨_,(R.ad (R.ah (i:=2) gD.nd (R.fn c_first_book hr_first_book rfl (R.U (R.v 0) R.ac))) (R.ad (R.bh PassesOwn.never rfl (R.aw (K:=K) (R.v 0)) (R.gn (i:=3) gD.nd) (R.ag (R.ar (R.al R.eq (R.ix (R.af (K:=K)) (R.v 3) R.ab) R.ae) (R.ag (R.bc (R.fm c_Book_change hr_Book_change (R.v 2) (R.U (R.fn c_changes_of hr_changes_of rfl (R.U (R.ix (R.af (K:=K)) (R.be hu1 (R.v 1) (R.ix (R.af (K:=K)) (R.v 3) R.ab)) R.ab) (R.U (R.ix (R.af (K:=K)) (R.v 3) R.ab) R.ac))) R.ac)))) R.av))) (R.ag (R.ao (R.v 2))))),?_⟩
  refine⟨ra,rs,as,rfl,RR,Zo,hw,fun p dx d H1 fp fd gp gd s1=>?_⟩
  have npd:p≠d:=dI gp gd (fun z=>nomatch z)
  dsimp only [aJ];refine bE (fun σ' H'=>∃(prs:List (Str × Int)) (o3:Option V),σ'=[some (.ref ra),some (.ref cd),some (.ref p),o3]/\H' p=some (.ins C dx [("amounts",.ref d)])/\H' d=some (.dK (iN prs))/\(prs.map (·.1)).Nodup/\(∀z,iU prs z=(f z:Int))/\prs.length<=43/\Same H H') (fun nx hnx=>?_) ?_
  ·refine⟨ra,rfl,⟨_,SqL.of (s1 _ _ RR.lst)⟩,cC (aR K ra (as.map V.ref)) (fun i σ' H'=>∃(prs:List (Str × Int)) (o3:Option V),σ'=[some (.ref ra),some (.ref cd),some (.ref p),o3]/\H' p=some (.ins C dx [("amounts",.ref d)])/\H' d=some (.dK (iN prs))/\(prs.map (·.1)).Nodup/\(∀z,iU prs z=(F i z:Int))/\prs.length<=(dQ rs).length+2*(cK (rs.take i)).length/\Same H H') (fun i σ' H' ⟨_,_,_,_,_,_,_,_,s'⟩=>SqL.of (s' _ _ RR.lst))
    ⟨fS rs,_,rfl,gp,gd,lW hw,fun z=>by rw[hF.z];exact vW hw z,by rw[vV];omega,s1⟩ ?_ ?_⟩
   ·rintro i x σ' H2 hx ⟨prs,o3,rfl,gp2,gd2,nd2,am2,ln2,s2⟩
    obtain⟨a,r,rfl,ha,hrr,hat⟩:=(RR.same s2).get hx
    have hil:i<rs.length:=(Zgs.mp hrr).1
    obtain⟨xs,g,x0,x1,x2⟩:=dW hat
    have etk:=aM hrr
    dsimp only [aJ];refine⟨_,SqT.of g,_,x0,?_⟩
    show if decide (bQ r="done")=true then _ else _
    refine bP (fun h=>?_) (fun h=>?_)
    ·obtain⟨n,t,y,rfl⟩:=jV (of_decide_eq_true h)
     obtain⟨cy,gr,gy⟩:=hat
     obtain⟨t0,pp,kk,xd,qq,hcm,hR,hnext⟩:=hF.done i n t y hrr
     obtain⟨t0',pp',kk',xd',hcm',hof⟩:=eJ hw (jM hrr)
     have ecm:=jU hw hcm hcm'
     injection ecm with _ _ _ _ e5
     subst e5;have hxok:xd.Ok:=(hok _ hcm).2.2.2.2.2
     obtain⟨ca,cb,ct,hv,gca,gcb⟩:=gB hw (RR.same s2) hcm
     have dg':DGet H2 cd (.int (n:Int)) (some (.ref ca)):=by rw[<- hv];exact DGet.k (k:=Sum.inl (n:Int)) (s2 _ _ gcd)
     obtain⟨ea,hG⟩:=jF hxok hR
     have hle:=hF.le hok i Zo
     refine⟨dx,_,gp2,tO _ Zk,_,SqT.of gr,_,rfl,cd,_,rfl,dg',_,SqT.of gca,_,rfl,_,SqT.of gr,_,rfl,cb,cy,xd,y,rfl,gcb,gy,hof,fun tp zs H3 s3 g3 hz ez=>?_⟩
     have lz:zs.length<=2:=by
      have:=congrArg List.length ez
      rw[aQ]at this;have:=lT xd y
      omega
     refine⟨p,dx,d,tp,prs,zs,rfl,s3 _ _ gp2,s3 _ _ gd2,nd2,g3,hz,?_,fun qc hq=>?_,fun H4 g4 k4=>?_⟩
     ·have:=pW rs i
      omega
     ·rw[ez]at hq;have:=Ic hle hxok hR qc hq
      unfold Oh;rw[am2];exact this
     ·rw[ez]at g4;refine⟨kS prs (kW xd y),_,rfl,k4 _ _ (s3 _ _ gp2) npd,g4,oI _ _ nd2,fun z=>?_,?_,fun c o e=>k4 _ _ (s3 _ _ (s2 _ _ e)) (aF e fd)⟩
      ·rw[pY _ _ _ hG am2,ea,hnext]
      ·have h1:=jI (kW xd y) prs
       have h2:=lT xd y
       rw[etk,iJ,iK];show _<=_+2*(_+1)
       omega
    ·refine⟨prs,_,rfl,gp2,gd2,nd2,fun z=>?_,?_,s2⟩
     ·rw[hF.rest i r hrr (of_decide_eq_false h)];exact am2 z
     ·rw[etk,iJ,iK];omega
   ·rintro σ' H2 ⟨prs,o3,rfl,gp2,gd2,nd2,am2,ln2,s2⟩
    rw[aQ,<- le]at am2 ln2;rw[gH (aV _)]at ln2;rw[hF.last]at am2;exact hnx _ _ ⟨prs,_,rfl,gp2,gd2,nd2,am2,Zo,s2⟩
  ·rintro σ' H2 ⟨prs,o3,rfl,gp2,gd2,nd2,am2,ln2,s2⟩
   exact q p dx d prs H2 fp fd gp2 gd2 nd2 am2 ln2 s2
end
end KL
namespace KL
open PySem L2
section
variable {P:Program} {w:World} {K:W.Frag} {mg:Str->Option Value} {base:Heap}
abbrev E6:=Nat × Nat × Str × Str × Dd × An
abbrev O4:=Nat × Str × Str × Dd
def At6 (H:Hp) (e:E6) (a:Addr):Prop:=∃b c,H a=some (.tup [.int (e.1:Int),.int (e.2.1:Int),.str e.2.2.1,.str e.2.2.2.1,.ref b,.ref c])/\H b=some (.tup e.2.2.2.2.1.vs)/\H c=some (.tup e.2.2.2.2.2.vs)
def AtO (H:Hp) (e:O4) (a:Addr):Prop:=∃b,H a=some (.tup [.int (e.1:Int),.str e.2.1,.str e.2.2.1,.ref b])/\H b=some (.tup e.2.2.2.vs)
theorem At6.tk {H H':Hp} (s:TK H H') {e:E6} {a:Addr} (h:At6 H e a):At6 H' e a:=let ⟨b,c,h1,h2,h3⟩:=h;⟨b,c,s _ _ h1,s _ _ h2,s _ _ h3⟩
theorem AtO.tk {H H':Hp} (s:TK H H') {e:O4} {a:Addr} (h:AtO H e a):AtO H' e a:=let ⟨b,h1,h2⟩:=h;⟨b,s _ _ h1,s _ _ h2⟩
def eZ (rs:List RX) (n:Nat):Option (Str × Str × Dd):=rs.findSome? fun r=>match r with | .came m _ p k x=>if m=n then some (p,k,x) else none | _=>none
theorem jX {rs:List RX} (hw:RX.Whole rs) {n t:Nat} {p k:Str} {x:Dd} (hm:.came n t p k x∈rs):eZ rs n=some (p,k,x):=by
 cases h:eZ rs n with
 | none=>
  unfold eZ at h;have:=List.findSome?_eq_none_iff.mp h _ hm
  simp at this
 | some v=>
  unfold eZ at h;obtain⟨r,hr,e⟩:=List.exists_of_findSome?_eq_some h
  cases r with
  | came m t' p' k' x'=>
   dsimp only at e
   by_cases hmn:m=n
   ·rw[if_pos hmn]at e;subst hmn;have:=jU hw hm hr
    injection this with _ _ e1 e2 e3
    rw[<- e,e1,e2,e3]
   ·rw[if_neg hmn]at e;cases e
  | _=>cases e
def fT:RX->List E6 | .kept n t p k x y=>[(n,t,p,k,x,y)] | _=>[]
def kH (rs:List RX):RX->List E6
 | .done n t y=>match eZ rs n with | some (p,k,x)=>[(n,t,p,k,x,y)] | none=>[]
 | _=>[]
def dX (rs:List RX):List E6:=rs.flatMap fT++rs.flatMap (kH rs)
theorem bH {α β:Type} (f:α->List β) (xs:List α) (x:α):(xs++[x]).flatMap f=xs.flatMap f++f x:=by rw[List.flatMap_append];simp
theorem pZ {r:RX} (h:bQ r≠"kept"):fT r=[]:=by cases r <;> first | rfl | exact absurd rfl h
theorem qA {rs:List RX} {r:RX} (h:bQ r≠"done"):kH rs r=[]:=by cases r <;> first | rfl | exact absurd rfl h
theorem qB {rs:List RX} (hw:RX.Whole rs) {n t t0:Nat} {p k:Str} {x:Dd} {y:An} (hm:.came n t0 p k x∈rs):kH rs (.done n t y)=[(n,t,p,k,x,y)]:=by
 show(match eZ rs n with | some (p,k,x)=>[(n,t,p,k,x,y)] | none=>[])=_
 rw[jX hw hm]
theorem Paired.append' {α β:Type} {R:α->β->Prop} {xs xs':List α} {ys ys':List β} (h:Paired R xs ys) (h':Paired R xs' ys'):Paired R (xs++xs') (ys++ys'):=by
 induction h with
 | nil=>exact h'
 | cons a t ih=>exact .cons a ih
theorem Id (rs:List RX) (f:RX->List E6) (h:∀r,(f r).length<=1):(rs.flatMap f).length<=rs.length:=by
 induction rs with
 | nil=>exact aV _
 | cons r rs ih=>have:=h r;rw[List.flatMap_cons,iK,nZ];omega
theorem qC (r:RX):(fT r).length<=1:=by cases r <;> exact Nat.le_of_ble_eq_true rfl
theorem Ie (rs:List RX) (r:RX):(kH rs r).length<=1:=by
 cases r with
 | done n t y=>
  show(match eZ rs n with | some (p,k,x)=>[(n,t,p,k,x,y)] | none=>[]).length<=1
  cases eZ rs n <;> exact Nat.le_of_ble_eq_true rfl
 | _=>exact Nat.zero_le _
def zR:Sp:=fun vs H Q _=>∃(ra cd:Addr) (rs:List RX) (as:List Addr),vs=[.ref ra,.ref cd]/\RxsAt H ra rs as/\rs.length<=100/\RX.Whole rs/\H cd=some (.dK (aK [] (aZ "came" rs as rs.length))) ∧
 ∀(l:Addr) (ls:List Addr) (H':Hp),H l=none->H' l=some (.lst (ls.map V.ref))->Paired (At6 H') (dX rs) ls->Same H H'->Q (.ref l) H'
theorem qX (T:Txt K mg) (D:DefAt K mg "risen_kept" cU ["rows","came"]):aG P w K mg base 1 "risen_kept" ["rows","came"] zR:=by
 refine D.go kG (fun vs H Q E h=>?_) (fun f cdv A outer s H vs Q E hr h=>?_)
 ·obtain⟨ra,cd,rs,as,rfl,_⟩:=h;rfl
 ·obtain⟨ra,cd,rs,as,rfl,RR,hl,hw,gcd,q⟩:=h
  have hu1:=dU hr
  have le:=RR.len
  refine⟨_,(R.ad (R.cx (i:=2) kG.nd rfl (Or.inl rfl) rfl (js:=[none]) (N:=["row"]) (CompScope.by (aB cU) ["rows","came","kept"] rfl rfl Zk) (aO rfl) (R.aw (K:=K) (R.v 0)) (fun C s₂ H₂ fp=>⟨(R.gn (i:=0) (show(["row"]:List Str).Nodup by decide +kernel)),(R.az (R.al R.eq (R.ix (R.af (K:=K)) (R.v 0) R.ab) R.ae)),(R.sl R.sT (R.v 0) (R.ps R.ab) R.pn)⟩) rfl) (R.ag (R.ao (R.op R.bd (R.v 2) (R.ay rfl (js:=[none,some 1]) (N:=["row","came"]) (CompScope.by (aB cU) ["rows","came","kept"] rfl rfl Zk) (aO rfl) (R.aw (K:=K) (R.v 0)) (fun C s₂ H₂ fp=>⟨(R.gn (i:=0) (show(["row","came"]:List Str).Nodup by decide +kernel)),(R.az (R.al R.eq (R.ix (R.af (K:=K)) (R.v 0) R.ab) R.ae)),(R.op R.bj (R.op R.bj (R.sl R.sT (R.v 0) (R.ps R.ab) (R.ps R.ab)) (R.sl R.sT (R.be hu1 (R.v 1) (R.ix (R.af (K:=K)) (R.v 0) R.ab)) (R.ps R.ab) R.pn)) (R.sl R.sT (R.v 0) (R.ps R.ab) R.pn))⟩)))))),?_⟩
  refine bE (fun σ' H'=>∃(kl:Addr) (ls:List Addr),σ'=[some (.ref ra),some (.ref cd),some (.ref kl)]/\H' kl=some (.lst (ls.map V.ref))/\Paired (At6 H') (rs.flatMap fT) ls/\Same H H') (fun nx hnx=>?_) ?_
  ·refine⟨ra,rfl,⟨_,SqL.of RR.lst⟩,?_⟩
   refine aS (aR K ra (as.map V.ref)) (by rw[aQ];omega) (fun i ys H'=>∃ls:List Addr,ys=ls.map V.ref/\Paired (At6 H') ((rs.take i).flatMap fT) ls/\Same H H'/\ls.length<=i) (fun i ys H' ⟨ls,e,_,s',l'⟩=>⟨SqL.of (s' _ _ RR.lst),by rw[e,aQ];exact l'⟩) ⟨[],rfl,.nil,(fun _ _ e=>e),aV _⟩ (fun i x ys H' hx ⟨ls,e,pp,s',l'⟩=>?_) (fun ys H' ⟨ls,e,pp,s',l'⟩=>?_)
   ·obtain⟨a,r,rfl,ha,hrr,hat⟩:=(RR.same s').get hx
    obtain⟨xs,g,x0,x1,x2⟩:=dW hat
    have etk:=aM hrr
    dsimp only [aJ];refine⟨_,SqT.of g,_,x0,?_⟩
    show if decide (bQ r="kept")=true then _ else _
    refine bP (fun h=>?_) (fun h=>?_)
    ·obtain⟨n,t,p,k,x,y,rfl⟩:=tW (of_decide_eq_true h)
     obtain⟨b1,c1,gx,gx2,gx3⟩:=hat
     refine⟨_,gx,fun tp H2 s2 g2=>⟨ls++[tp],by rw[e,cS];rfl,?_,s'.trans s2,by simp;omega⟩⟩
     rw[etk,bH];exact Paired.snoc (Paired.map' (fun _ _ z=>z.tk (Same.tk s2)) pp) ⟨b1,c1,g2,s2 _ _ gx2,s2 _ _ gx3⟩
    ·refine⟨ls,e,?_,s',Zo⟩
     rw[etk,bH,pZ (of_decide_eq_false h),List.append_nil];exact pp
   ·intro kl hkl;rw[aQ,<- le,gH (aV _)]at pp;exact hnx _ _ ⟨kl,ls,rfl,by rw[aA,e],Paired.map' (fun _ _ z=>z.tk (Same.tk (aD hkl))) pp,s'.trans (aD hkl)⟩
  rintro σ' H1 ⟨kl,ls,rfl,gkl,pk1,s1⟩
  have R1:=RR.same s1
  have lk:=pk1.length
  have lk1:=Id rs fT qC
  refine⟨ra,rfl,⟨_,SqL.of R1.lst⟩,?_⟩
  refine aS (aR K ra (as.map V.ref)) (by rw[aQ];omega) (fun i ys H'=>∃ls:List Addr,ys=ls.map V.ref/\Paired (At6 H') ((rs.take i).flatMap (kH rs)) ls/\Same H1 H'/\ls.length<=i) (fun i ys H' ⟨ls,e,_,s',l'⟩=>⟨SqL.of (s' _ _ R1.lst),by rw[e,aQ];exact l'⟩) ⟨[],rfl,.nil,(fun _ _ e=>e),aV _⟩ (fun i x ys H' hx ⟨ls2,e,pp,s',l'⟩=>?_) (fun ys H' ⟨ls2,e,pp,s',l'⟩=>?_)
  ·obtain⟨a,r,rfl,ha,hrr,hat⟩:=(R1.same s').get hx
   obtain⟨xs,g,x0,x1,x2⟩:=dW hat
   have etk:=aM hrr
   dsimp only [aJ];refine⟨_,SqT.of g,_,x0,?_⟩
   show if decide (bQ r="done")=true then _ else _
   refine bP (fun h=>?_) (fun h=>?_)
   ·obtain⟨n,t,y,rfl⟩:=jV (of_decide_eq_true h)
    obtain⟨c1,gx,gx2⟩:=hat
    obtain⟨t0,p,k,x,hcm,_⟩:=eJ hw (jM hrr)
    obtain⟨ca,cb,ct,hv,gca,gcb⟩:=gB hw (R1.same s') hcm
    have dg':∀H'',Same H' H''->DGet H'' cd (.int (n:Int)) (some (.ref ca)):=fun H'' ss=>by rw[<- hv];exact DGet.k (k:=Sum.inl (n:Int)) (ss _ _ (s' _ _ (s1 _ _ gcd)))
    refine⟨_,gx,fun t1 H2 s2 g2=>⟨_,SqT.of (s2 _ _ gx),_,rfl,cd,_,rfl,dg' H2 s2,_,s2 _ _ gca,fun t2 H3 s3 g3=>⟨_,_,s3 _ _ g2,g3,Nat.le_of_ble_eq_true rfl,fun t3 H4 s4 g4=>⟨_,s4 _ _ (s3 _ _ (s2 _ _ gx)),fun t4 H5 s5 g5=>⟨_,_,s5 _ _ g4,g5,Nat.le_of_ble_eq_true rfl,fun t5 H6 s6 g6=>?_⟩⟩⟩⟩⟩
    have s26:Same H' H6:=(((s2.trans s3).trans s4).trans s5).trans s6
    refine⟨ls2++[t5],by rw[e,cS];rfl,?_,s'.trans s26,by simp;omega⟩
    rw[etk,bH,qB hw hcm];exact Paired.snoc (Paired.map' (fun _ _ z=>z.tk (Same.tk s26)) pp) ⟨cb,c1,g6,s26 _ _ gcb,s26 _ _ gx2⟩
   ·refine⟨ls2,e,?_,s',Zo⟩
    rw[etk,bH,qA (of_decide_eq_false h),List.append_nil];exact pp
  ·intro kl2 hkl2;rw[aQ,<- le,gH (aV _)]at pp;rw[aQ]at l';have s2:=s'.trans (aD (o:=.lst ys) hkl2)
   refine⟨_,_,s2 _ _ gkl,aA,by rw[e,aQ,aQ];exact dJ Zo,fun l hll=>?_⟩
   have s3:=s2.trans (aD (o:=.lst (ls.map V.ref++ys)) hll)
   refine q l (ls++ls2) _ (s1.free (s2.free hll)) (by rw[aA,e,cS]) ?_ (s1.trans s3)
   exact Paired.append' (Paired.map' (fun _ _ z=>z.tk (Same.tk s3)) pk1) (Paired.map' (fun _ _ z=>z.tk (Same.tk ((aD hkl2).trans (aD hll)))) pp)
def kC (wd:Str) (rs:List RX) (k:aW):Bool:=rs.any fun r=>decide (bQ r=wd)&&decide (gA r=k)
theorem nB {wd:Str} {rs:List RX} {as:List Addr} (hl:rs.length=as.length) (k:aW):(bN (aK [] (aZ wd rs as rs.length)) k).isSome=kC wd rs k:=by
 cases h:kC wd rs k with
 | true=>
  obtain⟨r,hr,e⟩:=List.any_eq_true.mp h
  rw[Bool.and_eq_true]at e;obtain⟨j,r',a,hv,_⟩:=pV hl hr (of_decide_eq_true e.1)
  rw[of_decide_eq_true e.2]at hv;rw[hv];rfl
 | false=>
  cases hv:bN (aK [] (aZ wd rs as rs.length)) k with
  | none=>rfl
  | some v=>
   exfalso
   rcases kR hv with h4 | h4
   ·obtain⟨j,r,a,_,g1,g2,g3,g4,g5⟩:=pU h4
    have:=List.any_eq_false.mp h r (jM g1)
    rw[decide_eq_true g3,decide_eq_true g4.symm]at this;exact this rfl
   ·cases h4
def jJ (rs:List RX) (n:Nat):Bool:=kC "asked" rs (Sum.inl (n:Int))&&!kC "done" rs (Sum.inl (n:Int))
def lX (rs:List RX):RX->List O4 | .came n _ p k x=>if jJ rs n=true then [(n,p,k,x)] else [] | _=>[]
def nM (rs:List RX):List O4:=rs.flatMap (lX rs)
theorem Bx {rs:List RX} (h:RX.Whole rs):(bM rs).Pairwise (·<·):=by
 induction h with
 | nil=>exact .nil
 | @snoc rs r hw hf ih=>
  have e:bM (rs++[r])=bM rs++bM [r]:=by unfold bM;rw[List.filterMap_append]
  rw[e];cases r with
  | came n t p k x=>
   refine List.pairwise_append.mpr ⟨ih,List.pairwise_singleton _ _,fun a ha b hb=>?_⟩
   have hb':b=n:=Zms.mp hb
   subst hb';obtain⟨r,hr,e⟩:=List.mem_filterMap.mp ha
   cases r <;> cases e
   exact hf.1 _ _ _ _ _ hr
  | _=>simpa [bM]using ih
theorem jY {rs:List RX} {as:List Addr} (hl:rs.length=as.length):∀i,i<=rs.length->(aZ "came" rs as i).map (·.1)=(bM (rs.take i)).map fun n:Nat=>(Sum.inl (n:Int):aW)
 | 0,_=>rfl
 | i+1,hi=>by
  obtain⟨r,hr⟩:∃r,rs[i]?=some r:=⟨rs[i],fB Zo⟩
  obtain⟨a,ha⟩:∃a,as[i]?=some a:=⟨as[i],fB Zo⟩
  have e:bM (rs.take i++[r])=bM (rs.take i)++bM [r]:=by unfold bM;rw[List.filterMap_append]
  rw[eI hr ha,aM hr,e,cS,cS,jY hl i Zo]
  congr 1
  unfold fQ;by_cases h:bQ r="came"
  ·rw[if_pos h];obtain⟨n,t,p,k,x,rfl⟩:=lV h
   rfl
  ·rw[if_neg h];cases r <;> first | rfl | exact absurd rfl h
theorem kT {rs:List RX} {as:List Addr} (hw:RX.Whole rs) (hl:rs.length=as.length):aK [] (aZ "came" rs as rs.length)=aZ "came" rs as rs.length:=by
 rw[jR _ _ ?_ (fun _ _=>rfl)]
 ·rfl
 ·rw[jY hl _ (aV _),gH (aV _)];show List.Pairwise (·≠·) _
  rw[List.pairwise_map];exact(Bx hw).imp fun {a b} h e=>by
   have:(Sum.inl (a:Int):aW)=Sum.inl (b:Int):=e
   injection this with this
   omega
end
end KL
namespace KL
open PySem L2
section
variable {P:Program} {w:World} {K:W.Frag} {mg:Str->Option Value} {base:Heap}
def bJ (rs:List RX):List Nat:=rs.filterMap fun r=>match r with | .next n _=>some n | _=>none
def bW (rs:List RX):List Nat:=rs.filterMap fun r=>match r with | .next _ t=>some t | .came _ t _ _ _=>some t | .done _ t _=>some t | _=>none
def nI (ns:List Nat):List V:=ns.map fun n:Nat=>V.int (n:Int)
def jK (rs:List RX):List Int:=(1::(bJ rs).map fun n:Nat=>(n:Int))++(bM rs).map fun n:Nat=>(n:Int)+1
def turnL (rs:List RX):List Int:=0::(bW rs).map fun n:Nat=>(n:Int)
def IsMax (l:List Int) (m:Int):Prop:=m∈l/\∀a∈l,a<=m
theorem IsMax.uniq {l:List Int} {m m':Int} (h:IsMax l m) (h':IsMax l m'):m=m':=by
 have:=h.2 _ h'.1;have:=h'.2 _ h.1;omega
theorem nN (rs:List RX) (r:RX):bJ (rs++[r])=bJ rs++bJ [r]:=by unfold bJ;rw[List.filterMap_append]
theorem nO (rs:List RX) (r:RX):bW (rs++[r])=bW rs++bW [r]:=by unfold bW;rw[List.filterMap_append]
theorem uB {β:Type} (f:RX->Option β) (rs:List RX) (i:Nat):((rs.take i).filterMap f).length<=i:=eK (List.length_filterMap_le _ _) (by rw[nQ];omega)
theorem rX {σ:St} {H:Hp} {ra:Addr} {rs:List RX} {as:List Addr} {Q:List V->Hp->Prop} (RR:RxsAt H ra rs as) (hl:rs.length<=100) (h:Q (nI (bJ rs)) H) :
  lD [none] (aJ 0) (mT (qI Ug (qI (qL K) (vr 0) (tC (.int 0))) (tC (.str "next")))) (qI (qL K) (vr 0) (tC (.int 1))) σ (Sq K ra) H Q:=by
 have le:=RR.len
 refine aS (aR K ra (as.map V.ref)) (by rw[aQ];omega) (fun i ys H'=>H'=H/\ys=nI (bJ (rs.take i))) (fun i ys H' ⟨e0,e⟩=>⟨by rw[e0];exact SqL.of RR.lst,by rw[e];unfold nI bJ;rw[aQ];exact uB _ _ _⟩) ⟨rfl,rfl⟩ (fun i x ys H' hx ⟨e0,e⟩=>?_) (fun ys H' ⟨e0,e⟩=>?_)
 ·subst e0;obtain⟨a,r,rfl,ha,hrr,hat⟩:=RR.get hx
  obtain⟨xs,g,x0,x1,x2⟩:=dW hat
  have etk:=aM hrr
  dsimp only [aJ];refine⟨_,SqT.of g,_,x0,?_⟩
  show if decide (bQ r="next")=true then _ else _
  refine bP (fun h=>?_) (fun h=>?_)
  ·obtain⟨n,t,rfl⟩:=zM (of_decide_eq_true h)
   refine⟨_,SqT.of g,_,x1,rfl,?_⟩
   rw[etk,nN,e];unfold nI;rw[cS];rfl
  ·refine⟨rfl,?_⟩
   rw[etk,nN,e];have:bJ [r]=[]:=by
    cases r with
    | next n t=>exact absurd rfl (of_decide_eq_false h)
    | _=>rfl
   rw[this,List.append_nil]
 ·subst e0;rw[aQ,<- le,gH (aV _)]at e;rw[e];exact h
theorem Sk (r:RX):oT (.str (bQ r)) [.str "next",.str "came",.str "done"]=true↔∃t,bW [r]=[t]/\Sg r=.int ((t:Nat):Int):=by
 cases r with
 | next n t=>exact⟨fun _=>⟨t,rfl,rfl⟩,fun _=>rfl⟩
 | came n t p k x=>exact⟨fun _=>⟨t,rfl,rfl⟩,fun _=>rfl⟩
 | done n t y=>exact⟨fun _=>⟨t,rfl,rfl⟩,fun _=>rfl⟩
 | has z m=>exact⟨fun z=>absurd (show false=true from z) Bool.false_ne_true,fun⟨t,h,_⟩=>nomatch h⟩
 | kept n t p k x y=>exact⟨fun z=>absurd (show false=true from z) Bool.false_ne_true,fun⟨t,h,_⟩=>nomatch h⟩
 | asked n=>exact⟨fun z=>absurd (show false=true from z) Bool.false_ne_true,fun⟨t,h,_⟩=>nomatch h⟩
theorem rY {σ:St} {H:Hp} {ra:Addr} {rs:List RX} {as:List Addr} {Q:List V->Hp->Prop} (RR:RxsAt H ra rs as) (hl:rs.length<=100) (h:∀H',Same H H'->Q (nI (bW rs)) H') :
  lD [none] (aJ 0) (mT (qI (Qc K false) (qI (qL K) (vr 0) (tC (.int 0))) (Ex (kE (tC (.str "next")) (kE (tC (.str "came")) (kE (tC (.str "done")) wS)))))) (qI (qL K) (vr 0) (tC (.int 2))) σ (Sq K ra) H Q:=by
 have le:=RR.len
 refine aS (aR K ra (as.map V.ref)) (by rw[aQ];omega) (fun i ys H'=>Same H H'/\ys=nI (bW (rs.take i))) (fun i ys H' ⟨e0,e⟩=>⟨SqL.of (e0 _ _ RR.lst),by rw[e];unfold nI bW;rw[aQ];exact uB _ _ _⟩) ⟨(fun _ _ e=>e),rfl⟩ (fun i x ys H' hx ⟨e0,e⟩=>?_) (fun ys H' ⟨e0,e⟩=>?_)
 ·obtain⟨a,r,rfl,ha,hrr,hat⟩:=(RR.same e0).get hx
  obtain⟨xs,g,x0,x1,x2⟩:=dW hat
  have etk:=aM hrr
  dsimp only [aJ];refine⟨_,SqT.of g,_,x0,aP rfl,fun tq H2 s2 g2=>⟨tq,_,rfl,.inr (SqT.of g2),rfl,rfl,?_⟩⟩
  show if oT (.str (bQ r)) [.str "next",.str "came",.str "done"]=true then _ else _
  refine bP (fun h=>?_) (fun h=>?_)
  ·obtain⟨t,h1,h2⟩:=(Sk r).mp h
   refine⟨_,SqT.of (s2 _ _ g),_,x2 (by rw[h2];exact fun z=>nomatch z),e0.trans s2,?_⟩
   rw[etk,nO,e,h1,h2];unfold nI;rw[cS];rfl
  ·refine⟨e0.trans s2,?_⟩
   rw[etk,nO,e];have:bW [r]=[]:=by
    cases r with
    | has z m=>rfl
    | kept n t p k x y=>rfl
    | asked n=>rfl
    | _=>exact absurd (show true=false from h) Zd
   rw[this,List.append_nil]
 ·rw[aQ,<- le,gH (aV _)]at e;rw[e];exact h H' e0
theorem rZ {σ:St} {H:Hp} {cd:Addr} {o:Obj} {kvs:List (aW × V)} {ns:List Nat} {Q:List V->Hp->Prop} (g:H cd=some (.frz o (.dK kvs))) (hk:kvs.map (·.1)=ns.map fun n:Nat=>(Sum.inl (n:Int):aW)) (hl:ns.length<=100) (h:Q (ns.map fun n:Nat=>V.int ((n:Int)+1)) H) :
  lD [none] (aJ 0) Dz (qI (wH fun i j=>.int (i+j)) (vr 0) (tC (.int 1))) σ (Wd cd o kvs) H Q:=by
 have lk:kvs.length=ns.length:=by have:=congrArg List.length hk;simpa using this
 refine aS (zB cd o kvs) (by rw[aQ];omega) (fun i ys H'=>H'=H/\ys=(ns.take i).map fun n:Nat=>V.int ((n:Int)+1)) (fun i ys H' ⟨e0,e⟩=>⟨by rw[e0];exact g,by rw[e,aQ,nQ];omega⟩) ⟨rfl,rfl⟩ (fun i x ys H' hx ⟨e0,e⟩=>?_) (fun ys H' ⟨e0,e⟩=>?_)
 ·subst e0;have hx':(kvs.map (·.1))[i]?.map kV=some x:=by rw[dR]at hx ⊢;rw[<- hx];cases kvs[i]? <;> rfl
  rw[hk,dR]at hx';cases hn:ns[i]? with
  | none=>rw[hn]at hx';cases hx'
  | some n=>
   rw[hn]at hx';injection hx' with hx'
   subst hx';refine⟨rfl,?_⟩
   rw[aM hn,cS,e];rfl
 ·subst e0;rw[aQ,lk,gH (aV _)]at e;rw[e];exact h
theorem nC {H:Hp} {cd:Addr} {u:HO} {o:Obj} (g:H cd=some u) {H2:Hp} (s:Same (aI H cd (.frz o u)) H2):Same H (aI H2 cd u):=fun c x e=>by
 by_cases z:c=cd
 ·subst z;rw[g]at e;cases e;exact aA
 ·rw[aE z];exact s _ _ (by rw[aE z];exact e)
theorem Same.keep {H H2:Hp} {cd:Addr} {u:HO} (g:H cd=some u) (o:Obj):∀c x,H c=some x->c≠cd->(aI H cd (.frz o u)) c=some x:=fun c x e n=>by rw[aE n];exact e
theorem vX {H:Hp} {ra:Addr} {rs:List RX} {as:List Addr} (RR:RxsAt H ra rs as):∀i,i<=rs.length->Paired (fun(r:RX) (kv:aW × V)=>fR r=true/\kv.1=gA r/\r∈rs) ((rs.take i).filter fR) (aZ "came" rs as i)
 | 0,_=>.nil
 | i+1,hi=>by
  have le:=RR.len
  obtain⟨r,hr⟩:∃r,rs[i]?=some r:=⟨rs[i],fB Zo⟩
  obtain⟨a,ha⟩:∃a,as[i]?=some a:=⟨as[i],fB Zo⟩
  rw[eI hr ha,aM hr,List.filter_append];refine Paired.append' (vX RR i Zo) ?_
  unfold fQ;by_cases h:bQ r="came"
  ·rw[if_pos h];obtain⟨n,t,p,k,x,rfl⟩:=lV h
   exact .cons ⟨rfl,rfl,jM hr⟩ .nil
  ·rw[if_neg h];have:fR r=false:=by cases r <;> first | rfl | exact absurd rfl h
   rw[List.filter_cons,this];exact .nil
theorem nP (rs0:List RX):∀rs:List RX,rs.flatMap (lX rs0)=(rs.filter fR).flatMap (lX rs0)
 | []=>rfl
 | r::rs=>by
  rw[List.flatMap_cons,nP rs0 rs,List.filter_cons];cases r <;> rfl
def Sl (H:Hp) (e:O4) (a:Addr):Prop:=∃(t:Nat) (b:Addr),H a=some (.tup [.str "came",.int (e.1:Int),.int (t:Int),.str e.2.1,.str e.2.2.1,.ref b])/\H b=some (.tup e.2.2.2.vs)
theorem Ig (rs0 rs:List RX):(rs.flatMap (lX rs0)).length<=rs.length:=by
 induction rs with
 | nil=>exact aV _
 | cons r rs ih=>
  have:(lX rs0 r).length<=1:=by
   cases r with
   | came n t p k x=>
    show(if jJ rs0 n=true then [(n,p,k,x)] else []).length<=1
    split
    ·exact aV _
    ·exact Nat.zero_le _
   | _=>exact Nat.zero_le _
  rw[List.flatMap_cons,iK,nZ];omega
theorem qD {α:Type} {lt:α->α->Prop} (irr:∀a,¬ lt a a) (asy:∀a b,lt a b->¬ lt b a):∀ {xs ys:List α},xs.Pairwise lt->ys.Pairwise lt->(∀a,a∈xs↔a∈ys)->xs=ys
 | [],[],_,_,_=>rfl
 | [],y::ys,_,_,h=>nomatch (h y).mpr iM
 | x::xs,[],_,_,h=>nomatch (h x).mp iM
 | x::xs,y::ys,h1,h2,h=>by
  obtain⟨a1,b1⟩:=List.pairwise_cons.mp h1
  obtain⟨a2,b2⟩:=List.pairwise_cons.mp h2
  have e:x=y:=by
   rcases List.mem_cons.mp ((h x).mp iM) with z | z
   ·exact z
   ·rcases List.mem_cons.mp ((h y).mpr iM) with z' | z'
    ·exact z'.symm
    ·exact absurd (a2 _ z) (asy _ _ (a1 _ z'))
  subst e;rw[qD irr asy b1 b2 fun a=>⟨fun m=>?_,fun m=>?_⟩]
  ·rcases List.mem_cons.mp ((h a).mp (kD _ m)) with z | z
   ·subst z;exact absurd (a1 _ m) (irr _)
   ·exact z
  ·rcases List.mem_cons.mp ((h a).mpr (kD _ m)) with z | z
   ·subst z;exact absurd (a2 _ m) (irr _)
   ·exact z
structure PosR (f:Str->Nat) (hs:List Str):Prop where
 asc:hs.Pairwise fun a b=>a.cps.toList<b.cps.toList
 iff:∀z,z∈hs↔0<f z
theorem PosR.uniq {f:Str->Nat} {hs hs':List Str} (h:PosR f hs) (h':PosR f hs'):hs=hs':=
 qD (lt:=fun a b:Str=>a.cps.toList<b.cps.toList) (fun _=>List.lt_irrefl _) (fun _ _ h=>List.lt_asymm h) h.asc h'.asc fun z=>(h.iff z).trans (h'.iff z).symm
theorem By {zs:List Str} (hs:zs.Pairwise fun a b=>a.cps.toList<=b.cps.toList) (hn:zs.Nodup):zs.Pairwise fun a b=>a.cps.toList<b.cps.toList:=
 (hs.and hn).imp fun {y z} ⟨h1,h2⟩=>by
  rcases List.le_iff_lt_or_eq.mp h1 with h3 | h3
  ·exact h3
  ·exact absurd (by rw[lG y,lG z,h3]) h2
def xX (prs:List (Str × Int)):List Str:=(gZ (prs.map (·.1))).filter fun n=>decide (0<iU prs n)
theorem vY (prs:List (Str × Int)):(xX prs).length<=prs.length:=eK (List.length_filter_le _ _) (by rw[hJ,aQ];exact aV _)
theorem Sm {prs:List (Str × Int)} {z:Str} (h:z∉prs.map (·.1)):iU prs z=0:=by
 unfold iU;cases e:prs.lookup z with
 | none=>rfl
 | some a=>
  exfalso
  have:(z,a)∈prs:=by
   clear h;induction prs with
   | nil=>cases e
   | cons q prs ih=>
    rw[List.lookup_cons]at e;by_cases hz:z == q.1
    ·rw[hz]at e;cases e;rw[eq_of_beq hz];exact iM
    ·rw[Bool.eq_false_iff.mpr hz]at e;exact kD _ (ih e)
  exact h (Zmm.mpr ⟨_,this,rfl⟩)
theorem zS {prs:List (Str × Int)} {f:Str->Nat} (nd:(prs.map (·.1)).Nodup) (am:∀z,iU prs z=(f z:Int)):PosR f (xX prs)/\xH prs=(xX prs).map fun z=>(z,(f z:Int)):=by
 refine⟨⟨List.Pairwise.filter _ (By (kN _) ((eQ _).nodup_iff.mpr nd)),fun z=>?_⟩,?_⟩
 ·unfold xX;rw[List.mem_filter,(eQ _).mem_iff,decide_eq_true_iff,am];refine⟨fun h=>by omega,fun h=>⟨?_,Zo⟩⟩
  by_cases c:z∈prs.map (·.1)
  ·exact c
  ·have:=Sm c;rw[am]at this;omega
 ·unfold xH xX;exact List.map_congr_left fun z _=>by rw[am]
structure Vs (H0 H:Hp) (rs:List RX) (f:Str->Nat) (tp:Addr) (kl ol:Addr):Prop where
 ex:∃(bl:Addr) (m1 m2:Int) (ks os:List Addr) (zs:List Z) (hs:List Str),H tp=some (.tup [.ref bl,.ref kl,.ref ol,.int m1,.int m2])/\H kl=some (.lst (ks.map V.ref))/\Paired (At6 H) (dX rs) ks/\H ol=some (.lst (os.map V.ref))/\Paired (AtO H) (nM rs) os/\IsMax (jK rs) m1/\IsMax (turnL rs) m2/\H bl=some (.lst (dS zs))/\ZAt H zs/\PosR f hs/\zs.map (·.2)=(hs.map fun z=>(z,(f z:Int)))/\hs.length<=43
 fk:H0 kl=none
 fo:H0 ol=none
 ne:kl≠ol
def zT:Sp:=fun vs H Q _=>∃(ra:Addr) (rs:List RX) (as:List Addr) (F:Nat->Str->Nat) (f:Str->Nat),vs=[.ref ra]/\RxsAt H ra rs as/\rs.length<=100/\(dQ rs).length+2*(cK rs).length<=43/\RX.Whole rs/\(∀r∈rs,r.Ok)/\RepF rs F f ∧
 ∀(tp kl ol:Addr) (H':Hp),Vs H H' rs f tp kl ol->Same H H'->Q (.ref tp) H'
theorem Ih {C:Addr} (T:Txt K mg) (c_by_numbers:aG P w K mg base 1 "by_numbers" ["rows","word"] tX) (c_risen_book:aG P w K mg base 4 "risen_book" ["rows","came"] (zQ C)) (c_Book_rows:Fm P w K mg base 1 C "rows" ["self"] (uW C)) (c_risen_kept:aG P w K mg base 1 "risen_kept" ["rows","came"] zR)
  (D:DefAt K mg "risen" fG ["rows"]):aG P w K mg base 5 "risen" ["rows"] zT:=by
 refine D.go jC (fun vs H Q E h=>?_) (fun f cdv A outer s H vs Q E hr h=>?_)
 ·obtain⟨ra,rs,as,F,f,rfl,_⟩:=h;rfl
 ·obtain⟨ra,rs,as,F,f,rfl,RR,hl,hct,hw,hok,hF,q⟩:=h
  have hr_by_numbers:Room 1 _:=hr.mono Zd
  have hr_risen_book:Room 4 _:=hr
  have hr_Book_rows:Room 1 _:=hr.mono Zd
  have hr_risen_kept:Room 1 _:=hr.mono Zd
  have hu1:=dU hr
  have le:=RR.len
  refine⟨_,(R.ad (R.ah (i:=1) jC.nd (R.fn c_by_numbers hr_by_numbers rfl (R.U (R.v 0) (R.U R.ae R.ac)))) (R.ad (R.ah (i:=2) jC.nd (R.fn c_by_numbers hr_by_numbers rfl (R.U (R.v 0) (R.U R.ae R.ac)))) (R.ad (R.ah (i:=3) jC.nd (R.fn c_by_numbers hr_by_numbers rfl (R.U (R.v 0) (R.U R.ae R.ac)))) (R.ad (R.jm (R.cx (i:=4) jC.nd rfl (Or.inl rfl) rfl (js:=[none,some 1,some 2,some 3]) (N:=["number","done","asked","came"]) (CompScope.by (aB fG) ["rows","done","asked","came","still"] rfl rfl Zk) (aO rfl) (R.wD (R.v 3)) (fun C s₂ H₂ fp=>⟨(R.gn (i:=0) (show(["number","done","asked","came"]:List Str).Nodup by decide +kernel)),(R.az (R.tw (R.cj (R.al (R.eh hu1) (R.v 0) (R.v 2)) (R.cv (R.al (R.ie hu1) (R.v 0) (R.v 1)))))),(R.be hu1 (R.v 3) (R.v 0))⟩) rfl)) (R.ag (R.ao (R.ai (R.U (R.jn c_Book_rows hr_Book_rows (R.fn c_risen_book hr_risen_book rfl (R.U (R.v 0) (R.U (R.v 3) R.ac)))) (R.U (R.fn c_risen_kept hr_risen_kept rfl (R.U (R.v 0) (R.U (R.v 3) R.ac))) (R.U (R.ay rfl (js:=[none]) (N:=["row"]) (CompScope.by (aB fG) ["rows","done","asked","came","still"] rfl rfl Zk) (aO rfl) (R.aw (K:=K) (R.v 4)) (fun C s₂ H₂ fp=>⟨(R.gn (i:=0) (show(["row"]:List Str).Nodup by decide +kernel)),R.bt,(R.op R.bj (R.sl R.sT (R.v 0) (R.ps R.ab) (R.ps R.ab)) (R.sl R.sT (R.v 0) (R.ps R.ab) R.pn))⟩)) (R.U (R.ax (R.cz (K:=K) rfl) rfl T.b_max kL (R.U (R.op R.bd (R.op R.bd (R.au (R.U R.ab R.ac)) (R.ay rfl (js:=[none]) (N:=["row"]) (CompScope.by (aB fG) ["rows","done","asked","came","still"] rfl rfl Zk) (aO rfl) (R.aw (K:=K) (R.v 0)) (fun C s₂ H₂ fp=>⟨(R.gn (i:=0) (show(["row"]:List Str).Nodup by decide +kernel)),(R.az (R.al R.eq (R.ix (R.af (K:=K)) (R.v 0) R.ab) R.ae)),(R.ix (R.af (K:=K)) (R.v 0) R.ab)⟩))) (R.iz (R.ay rfl (js:=[none]) (N:=["number"]) (CompScope.by (aB fG) ["rows","done","asked","came","still"] rfl rfl Zk) (aO rfl) (R.wD (R.v 3)) (fun C s₂ H₂ fp=>⟨(R.gn (i:=0) (show(["number"]:List Str).Nodup by decide +kernel)),R.bt,(R.op R.ap (R.v 0) R.ab)⟩)))) R.ac)) (R.U (R.ax (R.cz (K:=K) rfl) rfl T.b_max kL (R.U (R.op R.bd (R.au (R.U R.ab R.ac)) (R.ay rfl (js:=[none]) (N:=["row"]) (CompScope.by (aB fG) ["rows","done","asked","came","still"] rfl rfl Zk) (aO rfl) (R.aw (K:=K) (R.v 0)) (fun C s₂ H₂ fp=>⟨(R.gn (i:=0) (show(["row"]:List Str).Nodup by decide +kernel)),(R.az (R.al (R.bp (K:=K)) (R.ix (R.af (K:=K)) (R.v 0) R.ab) (R.ai (R.U R.ae (R.U R.ae (R.U R.ae R.ac)))))),(R.ix (R.af (K:=K)) (R.v 0) R.ab)⟩))) R.ac)) R.ac)))))))))))),?_⟩
  refine⟨ra,"done",rs,as,rfl,RR,Zo,fun dn H1 fdn gdn s1=>?_⟩
  dsimp only [aJ];refine⟨ra,"asked",rs,as,rfl,RR.same s1,Zo,fun ak H2 fak gak s2=>?_⟩
  dsimp only [aJ];refine⟨ra,"came",rs,as,rfl,(RR.same s1).same s2,Zo,fun cd H3 fcd gcd s3=>?_⟩
  have sH:Same H H3:=(s1.trans s2).trans s3
  have R3:=RR.same sH
  have gdn3:=s3 _ _ (s2 _ _ gdn)
  have gak3:=s3 _ _ gak
  have ndc:dn≠cd:=aF (s2 _ _ gdn) fcd
  have nac:ak≠cd:=aF gak fcd
  have nrc:ra≠cd:=aF ((RR.same s1).same s2).lst fcd
  dsimp only [aJ];refine bE (fun σ' H'=>∃(sl:Addr) (sts:List Addr),σ'=[some (.ref ra),some (.ref dn),some (.ref ak),some (.ref cd),some (.ref sl)]/\H' sl=some (.lst (sts.map V.ref))/\Paired (Sl H') (nM rs) sts/\Same H3 H') (fun nx hnx=>?_) ?_
  ·refine⟨_,gcd,fun o=>?_⟩
   have em:=kT hw le
   have np:=vX R3 rs.length (aV _)
   rw[gH (aV _)]at np;have nlen:=pT "came" rs as rs.length
   have kF:=Same.keep (H2:=H3) gcd o
   have gF:(aI H3 cd (.frz o (.dK (aK [] (aZ "came" rs as rs.length))))) cd=some (.frz o (.dK (aK [] (aZ "came" rs as rs.length)))):=aA
   have tkF:TK H3 (aI H3 cd (.frz o (.dK (aK [] (aZ "came" rs as rs.length))))):=fun a xs e=>kF _ _ e (fun z=>by rw[z,gcd]at e;cases e)
   have lpp:(rs.filter fR).length=(aZ "came" rs as rs.length).length:=np.length
   refine aS (zB cd o (aK [] (aZ "came" rs as rs.length))) (by rw[aQ,em];omega) (fun j ys H'=>H'=aI H3 cd (.frz o (.dK (aK [] (aZ "came" rs as rs.length))))/\∃sts:List Addr,ys=sts.map V.ref/\Paired (Sl H') (((rs.filter fR).take j).flatMap (lX rs)) sts/\sts.length<=j) (fun j ys H' ⟨e0,sts,e,_,l'⟩=>⟨by rw[e0];exact gF,by rw[e,aQ];exact l'⟩) ⟨rfl,[],rfl,.nil,aV _⟩ (fun j x ys H' hx ⟨e0,sts,e,pp,l'⟩=>?_) (fun ys H' ⟨e0,sts,e,pp,l'⟩=>?_)
   ·rw[dR,em]at hx;cases hkv:(aZ "came" rs as rs.length)[j]? with
    | none=>rw[hkv]at hx;cases hx
    | some kv=>
     rw[hkv]at hx;injection hx with hx
     subst hx;obtain⟨hj,ej⟩:=Zgs.mp hkv
     obtain⟨hj',hc1,hc2,hc3⟩:=Paired.get' (j:=j) np hj
     rw[ej]at hc2;have hrj:(rs.filter fR)[j]?=some (rs.filter fR)[j]:=fB hj'
     generalize (rs.filter fR)[j]=r at hc1 hc2 hc3 hrj;cases r with
     | came n t p k x=>
      dsimp only;rw[hc2];have etk:=aM hrj
      subst e0;obtain⟨ca,cb,ct,hv,gca,gcb⟩:=gB hw R3 hc3
      have dga:DGet (aI H3 cd (.frz o (.dK (aK [] (aZ "came" rs as rs.length))))) ak (.int (n:Int)) (bN (aK [] (aZ "asked" rs as rs.length)) (Sum.inl (n:Int))):=DGet.k (k:=Sum.inl (n:Int)) (kF _ _ gak3 nac)
      have dgd:DGet (aI H3 cd (.frz o (.dK (aK [] (aZ "came" rs as rs.length))))) dn (.int (n:Int)) (bN (aK [] (aZ "done" rs as rs.length)) (Sum.inl (n:Int))):=DGet.k (k:=Sum.inl (n:Int)) (kF _ _ gdn3 ndc)
      have dgc:DGet (aI H3 cd (.frz o (.dK (aK [] (aZ "came" rs as rs.length))))) cd (.int (n:Int)) (some (.ref ca)):=.inl ⟨_,Sum.inl (n:Int),.inr ⟨o,gF⟩,rfl,hv.symm⟩
      have no:jJ rs n=false->(aI H3 cd (.frz o (.dK (aK [] (aZ "came" rs as rs.length))))=aI H3 cd (.frz o (.dK (aK [] (aZ "came" rs as rs.length))))/\∃sts:List Addr,ys=sts.map V.ref/\Paired (Sl (aI H3 cd (.frz o (.dK (aK [] (aZ "came" rs as rs.length)))))) (((rs.filter fR).take (j+1)).flatMap (lX rs)) sts/\sts.length<=j+1):=fun hno=>by
       refine⟨rfl,sts,e,?_,Zo⟩
       rw[etk,bH];have:lX rs (.came n t p k x)=[]:=by show(if jJ rs n=true then _ else _)=_;rw[if_neg (by rw[hno];exact Bool.false_ne_true)]
       rw[this,List.append_nil];exact pp
      dsimp only [aJ];refine⟨_,dga,?_⟩
      show if (bN (aK [] (aZ "asked" rs as rs.length)) (Sum.inl (n:Int))).isSome=true then _ else _
      rw[nB le];refine bP (fun h1=>?_) (fun h1=>no (by unfold jJ;rw[h1];rfl))
      refine⟨_,dgd,?_⟩
      show if (!(bN (aK [] (aZ "done" rs as rs.length)) (Sum.inl (n:Int))).isSome)=true then _ else _
      rw[nB le];refine bP (fun h2=>?_) (fun h2=>no (by unfold jJ;rw[h1,h2];rfl))
      refine⟨cd,_,rfl,dgc,rfl,sts++[ca],by rw[e,cS];rfl,?_,by simp;omega⟩
      rw[etk,bH];have:lX rs (.came n t p k x)=[(n,p,k,x)]:=by show(if jJ rs n=true then _ else _)=_;rw[if_pos (by unfold jJ;rw[h1,h2];rfl)]
      rw[this];exact Paired.snoc pp ⟨ct,cb,tkF _ _ gca,tkF _ _ gcb⟩
     | _=>cases hc1
   ·intro sl hsl;subst e0;rw[gH (show(rs.filter fR).length<=((aK [] (aZ "came" rs as rs.length)).map fun q=>kV q.1).length by rw[aQ,em];omega),<- nP]at pp
    have ncl:cd≠sl:=aF gF hsl
    have s4:=nC gcd (aD (o:=.lst ys) hsl)
    refine⟨cd,_,o,⟨_,gcd⟩,aL gF hsl,?_⟩
    refine hnx _ _ ⟨sl,sts,rfl,by rw[aE ncl.symm,aA,e],Paired.map' (fun _ _ z=>?_) pp,s4⟩
    obtain⟨t,b,h1,h2⟩:=z
    have back:∀ {a:Addr} {xs:List V},(aI H3 cd (.frz o (.dK (aK [] (aZ "came" rs as rs.length))))) a=some (.tup xs)->(aI (aI (aI H3 cd (.frz o (.dK (aK [] (aZ "came" rs as rs.length))))) sl (.lst ys)) cd (.dK (aK [] (aZ "came" rs as rs.length)))) a=some (.tup xs):=fun {a xs} e=>by
     have:a≠cd:=fun z=>by rw[z,gF]at e;cases e
     rw[aE this];exact aL e hsl
    exact⟨t,b,back h1,back h2⟩
  rintro σ' H4 ⟨sl,sts,rfl,gsl,ps,s4⟩
  have R4:=R3.same s4
  have gcd4:=s4 _ _ gcd
  refine⟨ra,cd,rs,as,F,f,rfl,R4,hl,hct,hw,hok,hF,gcd4,fun p dx d prs H5 fp fd gp gd nd am ln s5=>?_⟩
  refine⟨dx,_,gp,tO _ Zk,p,prs,rfl,⟨⟨dx,d,gp,gd⟩,nd⟩,kI ln Zd,fun bl zs H6 s6 fb gb hz ez=>?_⟩
  have s46:=s5.trans s6
  refine⟨ra,cd,rs,as,rfl,R4.same s46,hl,hw,s46 _ _ gcd4,fun kl ks H7 fkl gkl pk s7=>?_⟩
  have s47:=s46.trans s7
  have gsl7:=s47 _ _ gsl
  have lst_:=ps.length
  have lop:=Ig rs rs
  refine⟨sl,rfl,⟨_,SqL.of gsl7⟩,?_⟩
  refine aS (aR K sl (sts.map V.ref)) (by rw[aQ];unfold nM at lst_;omega) (fun i ys H'=>∃os:List Addr,ys=os.map V.ref/\Paired (AtO H') ((nM rs).take i) os/\Same H7 H'/\os.length<=i) (fun i ys H' ⟨os,e,_,s',l'⟩=>⟨SqL.of (s' _ _ gsl7),by rw[e,aQ];exact l'⟩) ⟨[],rfl,.nil,(fun _ _ e=>e),aV _⟩ (fun i x ys H' hx ⟨os,e,pp,s',l'⟩=>?_) (fun ys H' ⟨os,e,pp,s',l'⟩=>?_)
  ·rw[dR]at hx;cases hsi:sts[i]? with
   | none=>rw[hsi]at hx;cases hx
   | some a=>
    rw[hsi]at hx;cases hx
    obtain⟨hi,ei⟩:=Zgs.mp hsi
    obtain⟨hi',pa⟩:=Paired.get' (j:=i) ps hi
    rw[ei]at pa;have hoi:(nM rs)[i]?=some (nM rs)[i]:=fB hi'
    generalize (nM rs)[i]=eo at pa hoi;obtain⟨t,b,g1,g2⟩:=pa
    have g1':=s' _ _ (s47 _ _ g1)
    dsimp only [aJ];refine⟨_,g1',fun t1 Ha sa ga=>⟨_,sa _ _ g1',fun t2 Hb sb gb'=>⟨_,_,sb _ _ ga,gb',Nat.le_of_ble_eq_true rfl,fun t3 Hc sc gc=>?_⟩⟩⟩
    have sac:=(sa.trans sb).trans sc
    refine⟨os++[t3],by rw[e,cS];rfl,?_,s'.trans sac,by simp;omega⟩
    rw[aM hoi];exact Paired.snoc (Paired.map' (fun _ _ z=>z.tk (Same.tk sac)) pp) ⟨b,gc,sac _ _ (s' _ _ (s47 _ _ g2))⟩
  ·intro ol hol;rw[aQ,<- lst_,gH (aV _)]at pp;have s48:=s47.trans (s'.trans (aD (o:=.lst ys) hol))
   have pk8:Paired (At6 (aI H' ol (.lst ys))) (dX rs) ks:=Paired.map' (fun _ _ z=>z.tk (Same.tk (s'.trans (aD hol)))) pk
   have po8:Paired (AtO (aI H' ol (.lst ys))) (nM rs) os:=Paired.map' (fun _ _ z=>z.tk (Same.tk (aD hol))) pp
   have gbl8:(aI H' ol (.lst ys)) bl=some (.lst (dS zs)):=aL (s' _ _ (s7 _ _ gb)) hol
   have hz8:ZAt (aI H' ol (.lst ys)) zs:=fun z hzz=>aL (s' _ _ (s7 _ _ (hz z hzz))) hol
   have gol:(aI H' ol (.lst ys)) ol=some (.lst (os.map V.ref)):=by rw[aA,e]
   have gkl8:(aI H' ol (.lst ys)) kl=some (.lst (ks.map V.ref)):=aL (s' _ _ gkl) hol
   have nko:kl≠ol:=aF (s' _ _ gkl) hol
   have fol:H ol=none:=sH.free (s4.free ((s47.trans s').free hol))
   have fkl0:H kl=none:=sH.free (s4.free (s46.free fkl))
   generalize aI H' ol (.lst ys)=H8 at s48 pk8 po8 gol gkl8 gbl8 hz8;have R8:=R4.same s48
   have gcd8:=s48 _ _ gcd4
   refine⟨dE rfl,fun p1 hp1=>?_⟩
   have s9:=aD (o:=.lst [.int 1]) hp1
   have g1:(aI H8 p1 (.lst [.int 1])) p1=some (.lst [.int 1]):=aA
   generalize aI H8 p1 (.lst [.int 1])=H9 at s9 g1;refine⟨ra,rfl,⟨_,SqL.of (R8.same s9).lst⟩,rX (R8.same s9) Zo fun p2 hp2=>?_⟩
   have nle:(bJ rs).length<=rs.length:=List.length_filterMap_le _ _
   have cle:(bM rs).length<=rs.length:=List.length_filterMap_le _ _
   refine⟨_,_,aL g1 hp2,aA,by unfold nI;rw[aQ];exact dJ (by simp;omega),fun p3 hp3=>?_⟩
   have sa:=((s9.trans (aD (o:=.lst (nI (bJ rs))) hp2)).trans (aD (o:=.lst ([.int 1]++nI (bJ rs))) hp3))
   have g3:(aI (aI H9 p2 (.lst (nI (bJ rs)))) p3 (.lst ([.int 1]++nI (bJ rs)))) p3=some (.lst (.int 1::nI (bJ rs))):=aA
   generalize aI (aI H9 p2 (.lst (nI (bJ rs)))) p3 (.lst ([.int 1]++nI (bJ rs)))=Ha at sa g3;have gcda:=sa _ _ gcd8
   refine⟨_,gcda,fun o=>?_⟩
   have hk:(aK [] (aZ "came" rs as rs.length)).map (·.1)=(bM rs).map fun n:Nat=>(Sum.inl (n:Int):aW):=by
    rw[kT hw le,jY le _ (aV _),gH (aV _)]
   refine rZ aA hk Zo fun p4 hp4=>?_
   have gF:(aI Ha cd (.frz o (.dK (aK [] (aZ "came" rs as rs.length))))) cd=some (.frz o (.dK (aK [] (aZ "came" rs as rs.length)))):=aA
   have nc4:cd≠p4:=aF gF hp4
   refine⟨cd,_,o,⟨_,gcda⟩,aL gF hp4,?_⟩
   have sb:=nC gcda (aD (o:=.lst ((bM rs).map fun n:Nat=>V.int ((n:Int)+1))) hp4)
   have g4:(aI (aI (aI Ha cd (.frz o (.dK (aK [] (aZ "came" rs as rs.length))))) p4 (.lst ((bM rs).map fun n:Nat=>V.int ((n:Int)+1)))) cd (.dK (aK [] (aZ "came" rs as rs.length)))) p4=some (.lst ((bM rs).map fun n:Nat=>V.int ((n:Int)+1))):=by rw[aE nc4.symm];exact aA
   generalize aI (aI (aI Ha cd (.frz o (.dK (aK [] (aZ "came" rs as rs.length))))) p4 (.lst ((bM rs).map fun n:Nat=>V.int ((n:Int)+1)))) cd (.dK (aK [] (aZ "came" rs as rs.length)))=Hb at sb g4
   refine⟨_,_,sb _ _ g3,g4,by unfold nI;rw[aQ];exact dJ (by simp;omega),fun p5 hp5=>?_⟩
   refine⟨p5,jK rs,rfl,SqL.of (by rw[aA];unfold jK nI;simp [cS,List.map_map] <;> rfl),by unfold jK;simp,fun m1 hm1 hall1=>?_⟩
   have sc:=((sa.trans sb).trans (aD (o:=.lst ((.int 1::nI (bJ rs))++(bM rs).map fun n:Nat=>V.int ((n:Int)+1))) hp5))
   generalize aI Hb p5 (.lst ((.int 1::nI (bJ rs))++(bM rs).map fun n:Nat=>V.int ((n:Int)+1)))=Hc at sc
   refine⟨dE rfl,fun p6 hp6=>?_⟩
   have sd:=sc.trans (aD (o:=.lst [.int 0]) hp6)
   have g6:(aI Hc p6 (.lst [.int 0])) p6=some (.lst [.int 0]):=aA
   generalize aI Hc p6 (.lst [.int 0])=Hd at sd g6;refine⟨ra,rfl,⟨_,SqL.of (R8.same sd).lst⟩,rY (R8.same sd) Zo fun He se p7 hp7=>?_⟩
   have tle:(bW rs).length<=rs.length:=List.length_filterMap_le _ _
   refine⟨_,_,aL (se _ _ g6) hp7,aA,by unfold nI;rw[aQ];exact dJ (by simp;omega),fun p8 hp8=>?_⟩
   refine⟨p8,turnL rs,rfl,SqL.of (by rw[aA];unfold turnL nI;simp [List.map_map] <;> rfl),by unfold turnL;simp,fun m2 hm2 hall2=>⟨aP rfl,fun tp Hf sf gf=>?_⟩⟩
   have sg:=((sd.trans se).trans ((aD (o:=.lst (nI (bW rs))) hp7).trans (aD (o:=.lst ([.int 0]++nI (bW rs))) hp8))).trans sf
   obtain⟨pR,eR⟩:=zS nd am
   refine q tp kl ol Hf ⟨⟨bl,m1,m2,ks,os,zs,xX prs,gf,sg _ _ gkl8,Paired.map' (fun _ _ z=>z.tk (Same.tk sg)) pk8,sg _ _ gol,Paired.map' (fun _ _ z=>z.tk (Same.tk sg)) po8,⟨hm1,hall1⟩,⟨hm2,hall2⟩,sg _ _ gbl8,fun z hzz=>sg _ _ (hz8 z hzz),pR,ez.trans eR,eK (vY prs) ln⟩,fkl0,fol,nko⟩ ((sH.trans s4).trans (s48.trans sg))
end
end KL
namespace KL
open PySem L2
section
variable {P:Program} {w:World} {K:W.Frag} {mg:Str->Option Value} {base:Heap}
def aU (e:E6):Str × Str:=(e.2.2.1,e.2.2.2.1)
def iP (s:Str × Str):List aW:=[Sum.inr s.1,Sum.inr s.2]
theorem Ii {s t:Str × Str} (h:iP s=iP t):s=t:=by
 unfold iP at h;injection h with h1 h2
 injection h2 with h2 _
 injection h1 with h1
 injection h2 with h2
 exact Prod.ext h1 h2
def gP (l:List E6) (s:Str × Str):Option E6:=l.foldl (fun o e=>if aU e=s then some e else o) none
theorem kU (l:List E6) (e:E6) (s:Str × Str):gP (l++[e]) s=if aU e=s then some e else gP l s:=by unfold gP;rw[List.foldl_append];rfl
theorem nD {l:List E6} {s:Str × Str} {e:E6} (h:gP l s=some e):e∈l/\aU e=s:=by
 have:∀(l:List E6) (o:Option E6) (e:E6),l.foldl (fun o e=>if aU e=s then some e else o) o=some e->o=some e∨(e∈l/\aU e=s):=by
  intro l;induction l with
  | nil=>exact fun o e h=>.inl h
  | cons x l ih=>
   intro o e h;rw[List.foldl_cons]at h;rcases ih _ e h with h | ⟨h1,h2⟩
   ·by_cases c:aU x=s
    ·rw[if_pos c]at h;cases h;exact .inr ⟨iM,c⟩
    ·rw[if_neg c]at h;exact .inl h
   ·exact .inr ⟨kD _ h1,h2⟩
 rcases this l none e h with h | h
 ·cases h
 ·exact h
structure LastD (A:E6->Addr->Prop) (l:List E6) (kvs:List (List aW × V)):Prop where
 nd:(kvs.map (·.1)).Nodup
 at_:∀k v,(k,v)∈kvs->∃e a,k=iP (aU e)/\v=.ref a/\A e a/\gP l (aU e)=some e
 all:∀s e,gP l s=some e->iP s∈kvs.map (·.1)
 len:kvs.length<=l.length
theorem LastD.nil (A:E6->Addr->Prop):LastD A [] []:=⟨List.nodup_nil,(fun _ _ h=>nomatch h),(fun _ _ h=>nomatch h),aV _⟩
theorem LastD.mono {A A':E6->Addr->Prop} {l:List E6} {kvs:List (List aW × V)} (h:LastD A l kvs) (m:∀e a,A e a->A' e a):LastD A' l kvs:=
 ⟨h.nd,fun k v hk=>let ⟨e,a,h1,h2,h3,h4⟩:=h.at_ k v hk;⟨e,a,h1,h2,m _ _ h3,h4⟩,h.all,h.len⟩
theorem LastD.put {A:E6->Addr->Prop} {l:List E6} {kvs:List (List aW × V)} (h:LastD A l kvs) {e:E6} {a:Addr} (ha:A e a):LastD A (l++[e]) (bR kvs (iP (aU e)) (.ref a)):=by
 refine⟨Lx h.nd,fun k v hk=>?_,fun s e' hs=>?_,?_⟩
 ·rcases Gb hk with hk | ⟨hk,hne⟩
  ·cases hk;exact⟨e,a,rfl,rfl,ha,by rw[kU,if_pos rfl]⟩
  ·obtain⟨e',a',h1,h2,h3,h4⟩:=h.at_ k v hk
   refine⟨e',a',h1,h2,h3,?_⟩
   rw[kU,if_neg (fun z=>hne (by rw[h1,z]))]
   exact h4
 ·rw[Bk];rw[kU]at hs;by_cases c:aU e=s
  ·exact .inl (by rw[c])
  ·rw[if_neg c]at hs;exact .inr (h.all s e' hs)
 ·have:=cN kvs (iP (aU e)) (.ref a)
  have:=h.len
  rw[iK,List.length_singleton];omega
theorem gQ {α β:Type} {R:α->β->Prop}:∀ {xs:List α},(∀x∈xs,∃y,R x y)->∃ys,Paired R xs ys
 | [],_=>⟨[],.nil⟩
 | x::xs,h=>by
  obtain⟨y,hy⟩:=h x iM
  obtain⟨ys,hys⟩:=gQ fun x hx=>h x (kD _ hx)
  exact⟨y::ys,.cons hy hys⟩
abbrev Yc (A:E6->Addr->Prop) (l:List E6) (kv:List aW × V) (q:E6 × Addr):Prop:=kv.1=iP (aU q.1)/\kv.2=.ref q.2/\A q.1 q.2/\gP l (aU q.1)=some q.1
theorem LastD.list {A:E6->Addr->Prop} {l:List E6} {kvs:List (List aW × V)} (h:LastD A l kvs):∃es:List (E6 × Addr),Paired (Yc A l) kvs es/\(es.map fun q=>aU q.1).Nodup/\∀e,e∈es.map (·.1)↔gP l (aU e)=some e:=by
 obtain⟨es,he⟩:=gQ (R:=Yc A l) (xs:=kvs) fun kv hk=>by
  obtain⟨e,a,h1,h2,h3,h4⟩:=h.at_ kv.1 kv.2 hk
  exact⟨(e,a),h1,h2,h3,h4⟩
 have hl:=he.length
 have hkey:kvs.map (·.1)=(es.map fun q=>aU q.1).map iP:=by
  refine List.ext_getElem (by simp [hl]) fun i h1 h2=>?_
  have hi:i<es.length:=by simpa using h2
  obtain⟨hi',hp⟩:=Paired.get' (j:=i) he hi
  simp only [List.getElem_map]
  exact hp.1
 refine⟨es,he,?_,fun e=>⟨fun hm=>?_,fun hs=>?_⟩⟩
 ·have:=h.nd
  rw[hkey]at this;exact List.Pairwise.of_map iP (fun a b hab e=>hab (by rw[e])) this
 ·obtain⟨q,hq,rfl⟩:=Zmm.mp hm
  obtain⟨i,hi,rfl⟩:=List.getElem_of_mem hq
  obtain⟨hi',hp⟩:=Paired.get' (j:=i) he hi
  exact hp.2.2.2
 ·have hk:=h.all _ _ hs
  rw[hkey]at hk;obtain⟨s,hs1,hs2⟩:=Zmm.mp hk
  obtain⟨q,hq,rfl⟩:=Zmm.mp hs1
  obtain⟨i,hi,rfl⟩:=List.getElem_of_mem hq
  obtain⟨hi',hp⟩:=Paired.get' (j:=i) he hi
  have e1:=Ii hs2
  have e2:=hp.2.2.2
  rw[e1,hs]at e2;injection e2 with e2
  rw[e2];exact Zmm.mpr ⟨_,hq,rfl⟩
theorem sA {H:Hp} {dt:Addr} {kvs:List (List aW × V)} {o:HO} (g:H dt=some (.dT kvs)):TK H (aI H dt o):=fun a xs e=>by rw[aE (dI e g (fun z=>nomatch z))];exact e
theorem Xq {α β:Type} {R:α->β->Prop} {xs:List α} {ys:List β} (p:Paired R xs ys) {x:α} (h:x∈xs):∃y∈ys,R x y:=by
 induction p with
 | nil=>cases h
 | @cons a b as bs r t ih=>
  rcases List.mem_cons.mp h with rfl | h
  ·exact⟨_,iM,r⟩
  ·obtain⟨y,hy,e⟩:=ih h;exact⟨y,kD _ hy,e⟩
theorem Oi {α β:Type} {R:α->β->Prop} {xs:List α} {ys:List β} (p:Paired R xs ys) {y:β} (h:y∈ys):∃x∈xs,R x y:=by
 induction p with
 | nil=>cases h
 | @cons a b as bs r t ih=>
  rcases List.mem_cons.mp h with rfl | h
  ·exact⟨_,iM,r⟩
  ·obtain⟨y,hy,e⟩:=ih h;exact⟨y,kD _ hy,e⟩
theorem Wg {α β γ:Type} {R:α->β->Prop} {f:α->γ} {g:β->γ} {xs:List α} {ys:List β} (p:Paired R xs ys) (h:∀x y,R x y->f x=g y):xs.map f=ys.map g:=by
 induction p with
 | nil=>rfl
 | cons r t ih=>rw[List.map_cons,List.map_cons,ih,h _ _ r]
theorem uC {α β:Type} {f:α->β} {l:List α} (h:(l.map f).Nodup) {a b:α} (ha:a∈l) (hb:b∈l) (e:f a=f b):a=b:=by
 induction l with
 | nil=>cases ha
 | cons x l ih=>
  rw[List.map_cons,List.nodup_cons]at h;rcases List.mem_cons.mp ha with ea | ha' <;> rcases List.mem_cons.mp hb with eb | hb'
  ·rw[ea,eb]
  ·exact absurd (Zmm.mpr ⟨b,hb',by rw[<- e,ea]⟩) h.1
  ·exact absurd (Zmm.mpr ⟨a,ha',by rw[e,eb]⟩) h.1
  ·exact ih h.2 ha' hb'
theorem Ij {A:Hp->E6->Addr->Prop} {H:Hp} {fl:List (E6 × Addr)} {zs zs':List Tn} (hn:(fl.map fun q=>(q.1.1:Int)).Nodup) (pz:Paired (fun(q:E6 × Addr) (z:Tn)=>z.1=(q.1.1:Int)/\z.2.1=q.2) fl zs) (hp:zs'.Perm zs) (hs:zs'.Pairwise Xm) :
  ∃out:List (E6 × Addr),out.Perm fl/\nV zs'=out.map (fun q=>V.ref q.2)/\(out.map (·.1)).Pairwise fun a b=>a.1<b.1:=by
 have e1:=Wg pz (f:=fun q=>((q.1.1:Int),q.2)) (g:=fun z:Tn=>(z.1,z.2.1)) fun q z h=>by rw[h.1,h.2]
 obtain⟨out,ho⟩:=gQ (R:=fun(z:Tn) (q:E6 × Addr)=>(z.1,z.2.1)=((q.1.1:Int),q.2)/\q∈fl) (xs:=zs') fun z hz=>by
  obtain⟨q,hq,h⟩:=Oi pz (hp.mem_iff.mp hz)
  exact⟨q,by rw[h.1,h.2],hq⟩
 have e2:=Wg ho (f:=fun z:Tn=>(z.1,z.2.1)) (g:=fun q=>((q.1.1:Int),q.2)) fun z q h=>h.1
 have hnz:(zs'.map fun z:Tn=>z.1).Nodup:=by
  refine((hp.map _).nodup_iff).mpr ?_
  have:zs.map (fun z:Tn=>z.1)=fl.map fun q=>(q.1.1:Int):=by
   have:=congrArg (List.map Prod.fst) e1
   rw[List.map_map,List.map_map]at this;exact this.symm
  rw[this];exact hn
 have e3:zs'.map (fun z:Tn=>z.1)=out.map fun q=>(q.1.1:Int):=by
  have:=congrArg (List.map Prod.fst) e2
  rw[List.map_map,List.map_map]at this;exact this
 refine⟨out,?_,?_,?_⟩
 ·have hnf:fl.Nodup:=(List.pairwise_map.mp hn).imp fun {a b} hab e=>hab (by rw[e])
  have hno:out.Nodup:=(List.pairwise_map.mp (show(out.map fun q=>(q.1.1:Int)).Nodup by rw[<- e3];exact hnz)).imp fun {a b} hab e=>hab (by rw[e])
  refine(List.perm_ext_iff_of_nodup hno hnf).mpr fun q=>⟨fun hq=>?_,fun hq=>?_⟩
  ·obtain⟨z,_,h⟩:=Oi ho hq;exact h.2
  ·obtain⟨z,hz,h⟩:=Xq pz hq
   obtain⟨q',hq',h'⟩:=Xq ho (hp.mem_iff.mpr hz)
   have:(q.1.1:Int)=(q'.1.1:Int):=by
    have:=congrArg Prod.fst h'.1
    exact h.1.symm.trans this
   rw[uC hn hq h'.2 this];exact hq'
 ·have:=congrArg (List.map fun p:Int × Addr=>V.ref p.2) e2
  rw[List.map_map,List.map_map]at this;exact this
 ·have h2:(zs'.map fun z:Tn=>z.1).Pairwise (·<=·):=List.pairwise_map.mpr hs
  have h3:=(h2.and hnz).imp fun {a b} (h:a<=b/\a≠b)=>(by omega:a<b)
  rw[e3,List.pairwise_map]at h3;exact List.pairwise_map.mpr (h3.imp fun h=>by omega)
structure Mt (l:List E6) (life turn:Nat) (out:List E6):Prop where
 asc:out.Pairwise fun a b=>a.1<b.1
 iff:∀e,e∈out↔gP l (aU e)=some e/\turn<e.2.1+life
def zU:Sp:=fun vs H Q _=>∃(kl:Addr) (ks:List Addr) (l:List E6) (life turn:Nat),vs=[.ref kl,.int (life:Int),.int (turn:Int)]/\H kl=some (.lst (ks.map V.ref))/\Paired (At6 H) l ks/\l.length<=43/\(l.map (·.1)).Nodup ∧
 ∀(p:Addr) (os:List Addr) (out:List E6) (H':Hp),H p=none->H' p=some (.lst (os.map V.ref))->Paired (At6 H') out os->Mt l life turn out->Same H H'->Q (.ref p) H'
theorem Ik (T:Txt K mg) (c_is_alive:aG P w K mg base 1 "is_alive" ["since","life","turn"] zN) (D:DefAt K mg "still_kept" dO ["kept","life","turn"]):aG P w K mg base 2 "still_kept" ["kept","life","turn"] zU:=by
 refine D.go gE (fun vs H Q E h=>?_) (fun f cdv A outer s H vs Q E hr h=>?_)
 ·obtain⟨kl,ks,l,life,turn,rfl,_⟩:=h;rfl
 ·obtain⟨kl,ks,l,life,turn,rfl,gk,pk,hl,hnd,q⟩:=h
  have hr_is_alive:Room 1 _:=hr.mono Zd
  have hu1:=dU hr
  have lk:=pk.length
  refine⟨_,(R.ad (R.ah (i:=3) gE.nd R.eg) (R.ad (R.bh PassesOwn.never rfl (R.aw (K:=K) (R.v 0)) (R.gn (i:=4) gE.nd) (R.ag (R.br (R.v 4) (R.bu (R.v 3) (R.sl R.sT (R.v 4) (R.ps R.ab) (R.ps R.ab)) (R.cf hu1))))) (R.ag (R.ao (R.ax (R.gw (K:=K)) rfl T.b_sorted gM (R.U (R.ja (R.ay rfl (js:=[none,some 1,some 2]) (N:=["entry","life","turn"]) (CompScope.by (aB dO) ["kept","life","turn","last","entry"] rfl rfl Zk) (aO rfl) (R.ii (R.v 3)) (fun C s₂ H₂ fp=>⟨(R.gn (i:=0) (show(["entry","life","turn"]:List Str).Nodup by decide +kernel)),(R.az (R.bw (R.fn c_is_alive hr_is_alive rfl (R.U (R.ix (R.af (K:=K)) (R.v 0) R.ab) (R.U (R.v 1) (R.U (R.v 2) R.ac)))))),(R.v 0)⟩))) R.ac)))))),?_⟩
  intro dt hdt;dsimp only [aJ];have s1:=aD (o:=.dT []) hdt
  have g1:(aI H dt (.dT [])) dt=some (.dT []):=aA
  generalize aI H dt (.dT [])=H1 at s1 g1;refine bE (fun σ' H'=>∃(kvs:List (List aW × V)) (o4:Option V),σ'=[some (.ref kl),some (.int (life:Int)),some (.int (turn:Int)),some (.ref dt),o4]/\H' dt=some (.dT kvs)/\LastD (At6 H') l kvs/\Same H H') (fun nx hnx=>?_) ?_
  ·refine⟨kl,rfl,⟨_,SqL.of (s1 _ _ gk)⟩,cC (aR K kl (ks.map V.ref)) (fun i σ' H'=>∃(kvs:List (List aW × V)) (o4:Option V),σ'=[some (.ref kl),some (.int (life:Int)),some (.int (turn:Int)),some (.ref dt),o4]/\H' dt=some (.dT kvs)/\LastD (At6 H') (l.take i) kvs/\Same H H') (fun i σ' H' ⟨_,_,_,_,_,s'⟩=>SqL.of (s' _ _ gk)) ⟨[],_,rfl,g1,LastD.nil _,s1⟩ ?_ ?_⟩
   ·rintro i x σ' H2 hx ⟨kvs,o4,rfl,g2,L2,s2⟩
    rw[dR]at hx;cases hki:ks[i]? with
    | none=>rw[hki]at hx;cases hx
    | some a=>
     rw[hki]at hx;cases hx
     obtain⟨hi,ei⟩:=Zgs.mp hki
     obtain⟨hi',pa⟩:=Paired.get' (j:=i) pk hi
     rw[ei]at pa;have hli:l[i]?=some l[i]:=fB hi'
     generalize l[i]=e at pa hli;have pa2:=pa.tk (Same.tk s2)
     obtain⟨b,c,ge,gb,gc⟩:=id pa2
     dsimp only [aJ];refine⟨_,ge,fun tp H3 s3 g3=>⟨dt,_,rfl,DPut.t (k:=iP (aU e)) (s3 _ _ g2) g3 ?_,?_⟩⟩
     ·have:=L2.len
      rw[nQ]at this;exact kI (m:=1000) Zo Zd
     have tk:TK H3 (aI H3 dt (.dT (bR kvs (iP (aU e)) (.ref a)))):=sA (s3 _ _ g2)
     refine⟨_,_,rfl,aA,?_,bV hdt (s2.trans s3)⟩
     rw[aM hli];exact LastD.put (L2.mono fun _ _ z=>(z.tk (Same.tk s3)).tk tk) ((pa2.tk (Same.tk s3)).tk tk)
   ·rintro σ' H2 ⟨kvs,o4,rfl,g2,L2,s2⟩
    rw[aQ,<- lk,gH (aV _)]at L2;exact hnx _ _ ⟨kvs,o4,rfl,g2,L2,s2⟩
  rintro σ' H2 ⟨kvs,o4,rfl,g2,L2,s2⟩
  obtain⟨es,pe,nde,iffe⟩:=L2.list
  have le:=pe.length
  have lkv:=L2.len
  refine⟨_,g2,fun o=>?_⟩
  have tkF:TK H2 (aI H2 dt (.frz o (.dT kvs))):=sA g2
  have gF:(aI H2 dt (.frz o (.dT kvs))) dt=some (.frz o (.dT kvs)):=aA
  refine aS (Sb dt o kvs) (by rw[aQ];omega) (fun j ys H'=>H'=aI H2 dt (.frz o (.dT kvs))/\ys=((es.take j).filter fun q=>decide ((turn:Int)<(q.1.2.1:Int)+(life:Int))).map fun q=>V.ref q.2) (fun j ys H' ⟨e0,e⟩=>⟨by rw[e0];exact gF,by rw[e,aQ];exact eK (List.length_filter_le _ _) (by rw[nQ];omega)⟩) ⟨rfl,rfl⟩ (fun j x ys H' hx ⟨e0,e⟩=>?_) (fun ys H' ⟨e0,e⟩=>?_)
  ·subst e0;rw[dR]at hx;cases hkv:kvs[j]? with
   | none=>rw[hkv]at hx;cases hx
   | some kv=>
    rw[hkv]at hx;injection hx with hx
    subst hx;obtain⟨hj,ej⟩:=Zgs.mp hkv
    have hj2:j<es.length:=by omega
    obtain⟨hj',hp⟩:=Paired.get' (j:=j) pe hj2
    rw[ej]at hp;have hqj:es[j]?=some es[j]:=fB hj2
    generalize es[j]=q0 at hp hqj;obtain⟨h1,h2,h3,h4⟩:=hp
    dsimp only;rw[h2];obtain⟨b,c,ge,gb,gc⟩:=h3.tk tkF
    dsimp only [aJ];refine⟨_,SqT.of ge,_,rfl,_,_,_,rfl,?_⟩
    have etk:=aM hqj
    show if decide ((turn:Int)<(q0.1.2.1:Int)+(life:Int))=true then _ else _
    refine bP (fun h=>?_) (fun h=>?_)
    ·refine⟨rfl,?_⟩
     rw[etk,List.filter_append,List.filter_cons,if_pos h,cS,e];rfl
    ·refine⟨rfl,?_⟩
     rw[etk,List.filter_append,List.filter_cons,if_neg (by rw[h];exact Bool.false_ne_true),e];simp
  ·intro p hp;subst e0;rw[aQ,le,gH (aV _)]at e;have ndp:dt≠p:=aF gF hp
   refine⟨dt,_,o,⟨_,g2⟩,aL gF hp,?_⟩
   have s4:Same H2 (aI (aI (aI H2 dt (.frz o (.dT kvs))) p (.lst ys)) dt (.dT kvs)):=fun c x e=>by
    by_cases z:c=dt
    ·subst z;rw[g2]at e;cases e;exact aA
    ·rw[aE z];exact aL (by rw[aE z];exact e) hp
   have gp:(aI (aI (aI H2 dt (.frz o (.dT kvs))) p (.lst ys)) dt (.dT kvs)) p=some (.lst ys):=by rw[aE ndp.symm];exact aA
   generalize aI (aI (aI H2 dt (.frz o (.dT kvs))) p (.lst ys)) dt (.dT kvs)=H4 at s4 gp;generalize hfl:(es.filter fun q=>decide ((turn:Int)<(q.1.2.1:Int)+(life:Int)))=fl at e
   have hfm:∀q∈fl,q∈es/\turn<q.1.2.1+life:=fun q hq=>by
    rw[<- hfl,List.mem_filter]at hq;have:=of_decide_eq_true hq.2
    exact⟨hq.1,Zo⟩
   have hfa:∀q∈fl,At6 H4 q.1 q.2:=fun q hq=>by
    obtain⟨kv,_,h⟩:=Oi pe (hfm q hq).1
    exact h.2.2.1.tk (Same.tk s4)
   have hel:∀q∈es,q.1∈l:=fun q hq=>by
    obtain⟨kv,_,h⟩:=Oi pe hq
    exact(nD h.2.2.2).1
   have hen:(es.map fun q=>(q.1.1:Int)).Nodup:=by
    refine List.pairwise_map.mpr ?_
    refine(List.pairwise_map.mp nde).imp_of_mem fun {a b} ha hb hne e=>hne ?_
    rw[uC (f:=fun x:E6=>x.1) hnd (hel a ha) (hel b hb) Zo]
   have hfn:(fl.map fun q=>(q.1.1:Int)).Nodup:=by
    rw[<- hfl];exact List.Nodup.sublist (List.Sublist.map _ List.filter_sublist) hen
   obtain⟨zs,pz⟩:=gQ (R:=fun(q:E6 × Addr) (z:Tn)=>(z.1=(q.1.1:Int)/\z.2.1=q.2)/\H4 z.2.1=some (.tup (.int z.1::z.2.2))) (xs:=fl) fun q hq=>by
    obtain⟨b,c,ge,_⟩:=hfa q hq
    exact⟨(_,_,_),⟨rfl,rfl⟩,ge⟩
   have ez:=Wg pz (f:=fun q=>((q.1.1:Int),q.2)) (g:=fun z:Tn=>(z.1,z.2.1)) fun q z h=>by rw[h.1.1,h.1.2]
   have eref:nV zs=ys:=by
    rw[e];have:=congrArg (List.map fun p:Int × Addr=>V.ref p.2) ez
    rw[List.map_map,List.map_map]at this;exact this.symm
   have enum:zs.map (·.1)=fl.map fun q=>(q.1.1:Int):=by
    have:=congrArg (List.map Prod.fst) ez
    rw[List.map_map,List.map_map]at this;exact this.symm
   refine⟨zs,SqL.of (by rw[eref];exact gp),fun z hz=>?_,by rw[enum];exact hfn,?_,fun l2 zs' hl2 hperm hsort=>?_⟩
   ·obtain⟨q0,_,h⟩:=Oi pz hz;exact h.2
   ·have h1:=pz.length
    have h2:fl.length<=es.length:=by rw[<- hfl];exact List.length_filter_le _ _
    omega
   obtain⟨out,ho1,ho2,ho3⟩:=Ij (A:=At6) (H:=H4) hfn (Paired.map' (fun _ _ h=>h.1) pz) hperm hsort
   refine q l2 (out.map (·.2)) (out.map (·.1)) _ ((s2.trans s4).free hl2) (by rw[aA,ho2,List.map_map];rfl) ?_ ⟨ho3,fun e0=>⟨fun hm=>?_,fun⟨h1,h2⟩=>?_⟩⟩ ((s2.trans s4).trans (aD hl2))
   ·have:∀ {o:List (E6 × Addr)},(∀q∈o,q∈fl)->Paired (At6 (aI H4 l2 (.lst (nV zs')))) (o.map (·.1)) (o.map (·.2)):=fun {o} ho=>by
     induction o with
     | nil=>exact .nil
     | cons x o ih=>exact .cons ((hfa x (ho x iM)).tk (Same.tk (aD hl2))) (ih fun q hq=>ho q (kD _ hq))
    exact this fun q hq=>ho1.mem_iff.mp hq
   ·obtain⟨q0,hq0,rfl⟩:=Zmm.mp hm
    obtain⟨h1,h2⟩:=hfm q0 (ho1.mem_iff.mp hq0)
    exact⟨(iffe _).mp (Zmm.mpr ⟨q0,h1,rfl⟩),h2⟩
   ·obtain⟨q0,hq0,rfl⟩:=Zmm.mp ((iffe e0).mpr h1)
    refine Zmm.mpr ⟨q0,ho1.mem_iff.mpr ?_,rfl⟩
    rw[<- hfl,List.mem_filter];exact⟨hq0,decide_eq_true Zo⟩
end
end KL
namespace KL
open PySem L2
section
variable {P:Program} {w:World} {K:W.Frag} {mg:Str->Option Value} {base:Heap}
def gG (rs:List RX) (turn n:Nat):List RX:=match eZ rs n with | some (p,k,x)=>.came n turn p k x::(if kC "asked" rs (Sum.inl (n:Int))=true then [.asked n] else []) | none=>[]
def bS (rs:List RX) (turn:Nat) (ns:List Nat):List RX:=ns.flatMap (gG rs turn)
theorem Bz (rs:List RX) (turn n:Nat):(gG rs turn n).length<=2:=by
 unfold gG;cases eZ rs n with
 | none=>exact Nat.zero_le _
 | some v=>
  dsimp only;split <;> simp
theorem gR (rs:List RX) (turn:Nat):∀ns:List Nat,(bS rs turn ns).length<=2*ns.length
 | []=>Nat.zero_le _
 | n::ns=>by
  have h1:=Bz rs turn n
  have h2:=gR rs turn ns
  unfold bS at h2 ⊢
  rw[List.flatMap_cons,iK,nZ];omega
theorem uD {rs:List RX} {n:Nat} (h:n∈bM rs):∃t p k x,.came n t p k x∈rs:=by
 obtain⟨r,hr,e⟩:=List.mem_filterMap.mp h
 cases r <;> cases e
 exact⟨_,_,_,_,hr⟩
theorem vZ {r:RX} (h:bQ r="asked"):∃n,r=.asked n:=by
 cases r with
 | asked n=>exact⟨n,rfl⟩
 | has z m=>exact absurd (show("has":Str)="asked" from h) Zk
 | next n t=>exact absurd (show("next":Str)="asked" from h) Zk
 | kept n t p k x y=>exact absurd (show("kept":Str)="asked" from h) Zk
 | came n t p k x=>exact absurd (show("came":Str)="asked" from h) Zk
 | done n t y=>exact absurd (show("done":Str)="asked" from h) Zk
theorem Il {H:Hp} {ra:Addr} {rs:List RX} {as:List Addr} (RR:RxsAt H ra rs as) {n:Nat} (h:kC "asked" rs (Sum.inl (n:Int))=true):∃a,bN (aK [] (aZ "asked" rs as rs.length)) (Sum.inl (n:Int))=some (.ref a)/\H a=some (.tup [.str "asked",.int (n:Int)]):=by
 obtain⟨r,hr,e⟩:=List.any_eq_true.mp h
 rw[Bool.and_eq_true]at e;obtain⟨m,rfl⟩:=vZ (of_decide_eq_true e.1)
 have em:m=n:=by
  have:(Sum.inl (m:Int):aW)=Sum.inl (n:Int):=of_decide_eq_true e.2
  injection this with this
  omega
 subst em;obtain⟨j,r',a',hv,hj1,hj2,hj3,hj4⟩:=pV RR.len hr (wd:="asked") rfl
 obtain⟨m',rfl⟩:=vZ hj3
 have en:m=m':=by
  have:(Sum.inl (m:Int):aW)=Sum.inl (m':Int):=hj4
  injection this with this
  omega
 subst en;obtain⟨aj,rj,e0,hj2',hj1',hatj⟩:=RR.get (i:=j) (v:=.ref a') (by rw[dR,hj2];rfl)
 injection e0 with e0
 subst e0;rw[hj1]at hj1';injection hj1' with e0
 subst e0;exact⟨a',hv,hatj⟩
def zV:Sp:=fun vs H Q _=>∃(ra nl:Addr) (rs:List RX) (as:List Addr) (turn:Nat) (ns:List Nat),vs=[.ref ra,.int (turn:Int),.ref nl]/\RxsAt H ra rs as/\rs.length<=100/\RX.Whole rs/\H nl=some (.lst (nI ns))/\(∀n∈ns,n∈bM rs)/\ns.length<=100 ∧
 ∀(p:Addr) (os:List Addr) (H':Hp),H p=none->RxsAt H' p (bS rs turn ns) os->Same H H'->Q (.ref p) H'
theorem Im (T:Txt K mg) (c_by_numbers:aG P w K mg base 1 "by_numbers" ["rows","word"] tX) (D:DefAt K mg "came_again" fJ ["rows","turn","numbers"]):aG P w K mg base 2 "came_again" ["rows","turn","numbers"] zV:=by
 refine D.go cZ (fun vs H Q E h=>?_) (fun f cdv A outer s H vs Q E hr h=>?_)
 ·obtain⟨ra,nl,rs,as,turn,ns,rfl,_⟩:=h;rfl
 ·obtain⟨ra,nl,rs,as,turn,ns,rfl,RR,hl,hw,gn,hin,hnl,q⟩:=h
  have hr_by_numbers:Room 1 _:=hr.mono Zd
  have hu1:=dU hr
  have le:=RR.len
  refine⟨_,(R.ad (R.ah (i:=3) cZ.nd (R.fn c_by_numbers hr_by_numbers rfl (R.U (R.v 0) (R.U R.ae R.ac)))) (R.ad (R.ah (i:=4) cZ.nd (R.fn c_by_numbers hr_by_numbers rfl (R.U (R.v 0) (R.U R.ae R.ac)))) (R.ad (R.ah (i:=5) cZ.nd (R.au R.ac)) (R.ad (R.bh PassesOwn.never rfl (R.aw (K:=K) (R.v 2)) (R.gn (i:=6) cZ.nd) (R.ad (R.bc (R.bb (K:=K) PySem.F.plainAttrs_list PySem.F.slot_list_append PySem.F.type_list_append R.bn (R.v 5) (R.U (R.op R.bj (R.ai (R.U R.ae (R.U (R.v 6) (R.U (R.v 1) R.ac)))) (R.sl R.sT (R.be hu1 (R.v 3) (R.v 6)) (R.ps R.ab) R.pn)) R.ac))) (R.ag (R.ar (R.al (R.eh hu1) (R.v 6) (R.v 4)) (R.ag (R.bc (R.bb (K:=K) PySem.F.plainAttrs_list PySem.F.slot_list_append PySem.F.type_list_append R.bn (R.v 5) (R.U (R.be hu1 (R.v 4) (R.v 6)) R.ac)))) R.av)))) (R.ag (R.ao (R.v 5))))))),?_⟩
  refine⟨ra,"came",rs,as,rfl,RR,Zo,fun cd H1 fcd gcd s1=>?_⟩
  dsimp only [aJ];refine⟨ra,"asked",rs,as,rfl,RR.same s1,Zo,fun ak H2 fak gak s2=>?_⟩
  dsimp only [aJ];refine⟨dE rfl,fun tl htl=>?_⟩
  dsimp only [aJ];have s3:=aD (o:=.lst []) htl
  have gtl:(aI H2 tl (.lst [])) tl=some (.lst []):=aA
  have ft0:H tl=none:=(s1.trans s2).free htl
  generalize aI H2 tl (.lst [])=H3 at s3 gtl;have sH:Same H H3:=(s1.trans s2).trans s3
  have gcd3:=s3 _ _ (s2 _ _ gcd)
  have gak3:=s3 _ _ gak
  have ft2:H2 tl=none:=htl
  refine bE (fun σ' H'=>∃(os:List Addr) (o6:Option V),σ'=[some (.ref ra),some (.int (turn:Int)),some (.ref nl),some (.ref cd),some (.ref ak),some (.ref tl),o6]/\RxsAt H' tl (bS rs turn ns) os/\Same H2 H') (fun nx hnx=>?_) ?_
  ·refine⟨nl,rfl,⟨_,SqL.of (sH _ _ gn)⟩,cC (aR K nl (nI ns)) (fun i σ' H'=>∃(os:List Addr) (o6:Option V),σ'=[some (.ref ra),some (.int (turn:Int)),some (.ref nl),some (.ref cd),some (.ref ak),some (.ref tl),o6]/\RxsAt H' tl (bS rs turn (ns.take i)) os/\Same H2 H') (fun i σ' H' ⟨_,_,_,_,s'⟩=>SqL.of (s' _ _ ((s1.trans s2) _ _ gn))) ⟨[],_,rfl,RxsAt.nil gtl,s3⟩ ?_ ?_⟩
   ·rintro i x σ' H4 hx ⟨os,o6,rfl,R4,s4⟩
    unfold nI at hx;rw[dR]at hx;cases hni:ns[i]? with
    | none=>rw[hni]at hx;cases hx
    | some n=>
     rw[hni]at hx;cases hx
     obtain⟨t0,p,k,x,hcm⟩:=uD (hin n (jM hni))
     have RB:=(RR.same (s1.trans s2)).same s4
     obtain⟨ca,cb,ct,hv,gca,gcb⟩:=gB hw RB hcm
     have hos:=R4.len
     have hol:=gR rs turn (ns.take i)
     have htk:(ns.take i).length<=ns.length:=by rw[nQ];exact Nat.min_le_right _ _
     have gcd4:=s4 _ _ (s2 _ _ gcd)
     have gak4:=s4 _ _ gak
     dsimp only [aJ];have e1:bS rs turn (ns.take (i+1))=bS rs turn (ns.take i)++gG rs turn n:=by unfold bS;rw[aM hni,bH]
     have e2:gG rs turn n=.came n turn p k x::(if kC "asked" rs (Sum.inl (n:Int))=true then [.asked n] else []):=by unfold gG;rw[jX hw hcm]
     have dg':∀H'',Same H4 H''->DGet H'' cd (.int (n:Int)) (some (.ref ca)):=fun H'' ss=>by rw[<- hv];exact DGet.k (k:=Sum.inl (n:Int)) (ss _ _ gcd4)
     refine bE (fun σ' H'=>∃(os:List Addr),σ'=[some (.ref ra),some (.int (turn:Int)),some (.ref nl),some (.ref cd),some (.ref ak),some (.ref tl),some (.int (n:Int))]/\RxsAt H' tl (bS rs turn (ns.take i)++[.came n turn p k x]) os/\Same H2 H') (fun nx' hnx'=>?_) ?_
     ·refine⟨.inl ⟨rfl,_,SqL.of R4.lst⟩,aP rfl,fun t1 Ha sa ga=>⟨cd,_,rfl,dg' Ha sa,_,sa _ _ gca,fun t2 Hb sb gb=>⟨_,_,sb _ _ ga,gb,Nat.le_of_ble_eq_true rfl,fun t3 Hc sc gc=>⟨tl,_,_,rfl,rfl,sc _ _ (sb _ _ (sa _ _ R4.lst)),?_,?_⟩⟩⟩⟩
      ·rw[aQ];exact kI (m:=1000) Zo Zd
      have sac:=(sa.trans sb).trans sc
      have tk:TK Hc (aI Hc tl (.lst (os.map V.ref++[.ref t3]))):=dL (sac _ _ R4.lst)
      exact hnx' _ _ ⟨os++[t3],rfl,R4.snoc (fun a xs e=>tk _ _ (sac _ _ e)) ⟨cb,tk _ _ gc,tk _ _ (sac _ _ gcb)⟩ aA,bV ft2 (s4.trans sac)⟩
     rintro σ' H5 ⟨os5,rfl,R5,s5⟩
     have hos5:=R5.len
     rw[iK,List.length_singleton]at hos5;have dga:DGet H5 ak (.int (n:Int)) (bN (aK [] (aZ "asked" rs as rs.length)) (Sum.inl (n:Int))):=DGet.k (k:=Sum.inl (n:Int)) (s5 _ _ gak)
     refine⟨_,dga,?_⟩
     show if (bN (aK [] (aZ "asked" rs as rs.length)) (Sum.inl (n:Int))).isSome=true then _ else _
     rw[nB le];refine bP (fun h1=>?_) (fun h1=>?_)
     ·obtain⟨aa,ha,gaa⟩:=Il (RR.same ((s1.trans s2).trans s5)) h1
      rw[ha]at dga;refine⟨.inl ⟨rfl,_,SqL.of R5.lst⟩,ak,_,rfl,dga,tl,_,_,rfl,rfl,R5.lst,?_,?_⟩
      ·rw[aQ];exact kI (m:=1000) Zo Zd
      have tk:TK H5 (aI H5 tl (.lst (os5.map V.ref++[.ref aa]))):=dL R5.lst
      refine⟨os5++[aa],_,rfl,?_,bV ft2 s5⟩
      rw[e1,e2,if_pos h1];have:=R5.snoc tk (r:=.asked n) (tk _ _ gaa) aA
      rw[List.append_assoc]at this;exact this
     ·refine⟨os5,_,rfl,?_,s5⟩
      rw[e1,e2,if_neg (by rw[h1];exact Bool.false_ne_true)]
      exact R5
   ·rintro σ' H4 ⟨os,o6,rfl,R4,s4⟩
    rw[show(nI ns).length=ns.length by unfold nI;rw[aQ],gH (aV _)]at R4
    exact hnx _ _ ⟨os,o6,rfl,R4,s4⟩
  rintro σ' H4 ⟨os,o6,rfl,R4,s4⟩
  exact q tl os H4 ft0 R4 ((s1.trans s2).trans s4)
end
end KL
namespace KL
open PySem L2
section
variable {P:Program} {w:World} {K:W.Frag} {mg:Str->Option Value} {base:Heap}
def gS (e:E6):RX:=.kept e.1 e.2.1 e.2.2.1 e.2.2.2.1 e.2.2.2.2.1 e.2.2.2.2.2
theorem Ca {rs:List RX} (h:RX.Whole rs) {n t t':Nat} {p k p' k':Str} {x x':Dd} {y:An} (h1:.came n t p k x∈rs) (h2:.kept n t' p' k' x' y∈rs):False:=by
 induction h with
 | nil=>cases h1
 | @snoc rs r hw hf ih=>
  rcases aH h1 with h1 | h1
  ·rcases aH h2 with h2 | h2
   ·exact ih h1 h2
   ·rw[<- h2]at hf;exact absurd (hf.1 _ h1) (by show ¬ (3<=2);decide)
  ·rcases aH h2 with h2 | h2
   ·rw[<- h1]at hf;exact hf.2.1 _ _ _ _ _ h2
   ·rw[<- h1]at h2;cases h2
theorem nE {rs0:List RX} (hw:RX.Whole rs0):∀ {rs:List RX},(∀r∈rs,r∈rs0)->(rs.flatMap (kH rs0)).map (·.1)=cK rs
 | [],_=>rfl
 | r::rs,h=>by
  have ih:=nE hw (rs:=rs) fun r hr=>h r (kD _ hr)
  unfold cK at ih ⊢
  rw[List.flatMap_cons,List.filterMap_cons,cS,ih];cases r with
  | done n t y=>
   obtain⟨t0,p,k,x,hcm,_⟩:=eJ hw (h _ iM)
   rw[qB hw hcm];rfl
  | _=>rfl
theorem wA {rs:List RX} (hw:RX.Whole rs):((dX rs).map (·.1)).Nodup:=by
 have h1:((rs.flatMap fT).map (·.1)).Nodup:=by
  induction hw with
  | nil=>exact List.nodup_nil
  | @snoc rs r hw hf ih=>
   rw[bH,cS];cases r with
   | kept n t p k x y=>
    refine List.nodup_append.mpr ⟨ih,by simp [fT],fun a ha b hb=>?_⟩
    have hb':b=n:=by simpa [fT]using hb
    subst hb';rintro rfl
    obtain⟨e,he,rfl⟩:=Zmm.mp ha
    obtain⟨r,hr,h3⟩:=List.mem_flatMap.mp he
    cases r with
    | kept n' t' p' k' x' y'=>
     rw[Zms.mp h3]at hf;exact absurd (hf.2.2.1 _ _ _ _ _ _ hr) (Nat.lt_irrefl _)
    | _=>cases h3
   | _=>simpa [fT]using ih
 unfold dX;rw[cS,nE hw fun _ h=>h]
 refine List.nodup_append.mpr ⟨h1,vT hw,fun a ha b hb=>?_⟩
 rintro rfl
 obtain⟨e,he,rfl⟩:=Zmm.mp ha
 obtain⟨r,hr,h3⟩:=List.mem_flatMap.mp he
 obtain⟨t,y,hd⟩:=mW hb
 obtain⟨t0,p,k,x,hcm,_⟩:=eJ hw hd
 cases r with
 | kept n' t' p' k' x' y'=>
  rw[Zms.mp h3]at hcm;exact Ca hw hcm hr
 | _=>cases h3
def Io (rs:List RX) (n:Nat):List (Str × Str):=match eZ rs n with | some (p,k,_)=>[(p,k)] | none=>[]
def fA (rs:List RX) (ns:List Nat):List (Str × Str):=ns.flatMap (Io rs)
def Ip:RX->List (Str × Str) | .came _ _ p k _=>[(p,k)] | _=>[]
theorem qE (rs:List RX) (turn:Nat):∀ns:List Nat,(bS rs turn ns).flatMap Ip=fA rs ns
 | []=>rfl
 | n::ns=>by
  have ih:=qE rs turn ns
  unfold bS fA at ih ⊢
  rw[List.flatMap_cons,List.flatMap_append,ih,List.flatMap_cons];congr 1
  unfold gG Io;cases eZ rs n with
  | none=>rfl
  | some v=>
   dsimp only;split <;> rfl
structure FoldIs (rs:List RX) (f:Str->Nat) (life turn:Nat) (ns:List Nat) (out:List RX):Prop where
 ex:∃(m:Nat) (hs:List Str) (es:List E6),IsMax (jK rs) (m:Int)/\PosR f hs/\es.Pairwise (fun a b=>a.1<b.1)/\(∀e,e∈es↔(gP (dX rs) (aU e)=some e/\turn<e.2.1+life)/\aU e∉fA rs ns)/\hs.length<=43/\es.length<=43 ∧
  out=.next m turn::(hs.map (fun z=>.has z (f z))++(es.map gS++bS rs turn ns))
theorem FoldIs.uniq {rs:List RX} {f:Str->Nat} {life turn:Nat} {ns:List Nat} {out out':List RX} (h:FoldIs rs f life turn ns out) (h':FoldIs rs f life turn ns out'):out=out':=by
 obtain⟨m,hs,es,h1,h2,h3,h4,_,_,rfl⟩:=h.ex
 obtain⟨m',hs',es',h1',h2',h3',h4',_,_,rfl⟩:=h'.ex
 have e1:=h1.uniq h1'
 have e1:m=m':=by omega
 rw[e1,h2.uniq h2',qD (lt:=fun a b:E6=>a.1<b.1) (fun _=>Nat.lt_irrefl _) (fun _ _ h=>Nat.lt_asymm h) h3 h3' fun e=>(h4 e).trans (h4' e).symm]
def SpA (H:Hp) (s:Str × Str) (a:Addr):Prop:=H a=some (.tup [.str s.1,.str s.2])
theorem SpA.all {H H':Hp} (s:TK H H') {sp:List (Str × Str)} {as:List Addr} (p:Paired (SpA H) sp as):Paired (SpA H') sp as:=Paired.map' (fun _ _ w=>s _ _ w) p
theorem xY (a b p k:Str):eT [.str a,.str b] [.str p,.str k]=decide ((a,b)=(p,k)):=by
 have:eT [.str a,.str b] [.str p,.str k]=((a == p)&&((b == k)&&true)&&true):=rfl
 rw[this,Bool.and_true,Bool.and_true];by_cases h1:a=p
 ·by_cases h2:b=k
  ·rw[h1,h2];simp
  ·rw[beq_eq_false_iff_ne.mpr h2,Bool.and_false];exact(decide_eq_false fun e=>h2 (Prod.mk.inj e).2).symm
 ·rw[beq_eq_false_iff_ne.mpr h1,Bool.false_and];exact(decide_eq_false fun e=>h1 (Prod.mk.inj e).1).symm
theorem qF {H:Hp} {sp:List (Str × Str)} {as:List Addr} (p:Paired (SpA H) sp as):∃zs:List (Addr × List V),zs.map (·.1)=as/\(∀z∈zs,H z.1=some (.tup z.2))/\∀s,nW [.str s.1,.str s.2] zs=decide (s∈sp)/\∀z∈zs,eU z.2 [.str s.1,.str s.2]:=by
 induction p with
 | nil=>exact⟨[],rfl,(fun _ h=>nomatch h),fun s=>⟨rfl,fun _ h=>nomatch h⟩⟩
 | @cons s a sp as h t ih=>
  obtain⟨zs,h1,h2,h3⟩:=ih
  refine⟨(a,[.str s.1,.str s.2])::zs,by rw[List.map_cons,h1],fun z hz=>?_,fun s'=>⟨?_,fun z hz=>?_⟩⟩
  ·rcases List.mem_cons.mp hz with rfl | hz
   ·exact h
   ·exact h2 z hz
  ·have:nW [.str s'.1,.str s'.2] ((a,[.str s.1,.str s.2])::zs)=(eT [.str s.1,.str s.2] [.str s'.1,.str s'.2]||nW [.str s'.1,.str s'.2] zs):=rfl
   rw[this,xY,(h3 s').1];by_cases c:s=s'
   ·subst c;simp
   ·rw[decide_eq_false (show ¬ (s.1,s.2)=(s'.1,s'.2) from c),Bool.false_or];simp [List.mem_cons,Ne.symm c]
  ·rcases List.mem_cons.mp hz with rfl | hz
   ·intro j u v hu hv;match j,hu,hv with
    | 0,hu,hv=>cases hu;cases hv;exact⟨rfl,rfl⟩
    | 1,hu,hv=>cases hu;cases hv;exact⟨rfl,rfl⟩
    | j+2,hu,_=>cases hu
   ·exact(h3 s').2 z hz
end
end KL
namespace KL
open PySem L2
section
variable {P:Program} {w:World} {K:W.Frag} {mg:Str->Option Value} {base:Heap}
def lY:Sp:=fun vs H Q _=>∃(ra nl:Addr) (rs:List RX) (as:List Addr) (F:Nat->Str->Nat) (f:Str->Nat) (life turn:Nat) (ns:List Nat),vs=[.ref ra,.int (life:Int),.int (turn:Int),.ref nl]/\RxsAt H ra rs as/\rs.length<=100/\(dQ rs).length+2*(cK rs).length<=43/\(dX rs).length<=43/\RX.Whole rs/\(∀r∈rs,r.Ok)/\RepF rs F f ∧
 H nl=some (.lst (nI ns))/\(∀n∈ns,n∈bM rs)/\ns.length<=100 ∧
 ∀(p:Addr) (os:List Addr) (out:List RX) (H':Hp),H p=none->RxsAt H' p out os->FoldIs rs f life turn ns out->Same H H'->Q (.ref p) H'
theorem sC {rs:List RX} {m:Int} (h:IsMax (jK rs) m):∃n:Nat,m=(n:Int):=by
 have:=h.2 1 (by unfold jK;simp)
 exact⟨m.toNat,Zo⟩
theorem Cb (T:Txt K mg) (c_risen:aG P w K mg base 5 "risen" ["rows"] zT) (c_came_again:aG P w K mg base 2 "came_again" ["rows","turn","numbers"] zV) (c_still_kept:aG P w K mg base 2 "still_kept" ["kept","life","turn"] zU)
  (D:DefAt K mg "folded" fP ["rows","life","turn","numbers"]):aG P w K mg base 6 "folded" ["rows","life","turn","numbers"] lY:=by
 refine D.go fN (fun vs H Q E h=>?_) (fun f cdv A outer s H vs Q E hr h=>?_)
 ·obtain⟨ra,nl,rs,as,F,f,life,turn,ns,rfl,_⟩:=h;rfl
 ·obtain⟨ra,nl,rs,as,F,ff,life,turn,ns,rfl,RR,hl,hc,hk43,hw,hok,hF,gn,hin,hnl,q⟩:=h
  have hr_risen:Room 5 _:=hr
  have hr_came_again:Room 2 _:=hr.mono Zd
  have hr_still_kept:Room 2 _:=hr.mono Zd
  have hu64:=hr.units
  have le:=RR.len
  refine⟨_,(R.ad (R.ah (i:=4) fN.nd (R.fn c_risen hr_risen rfl (R.U (R.v 0) R.ac))) (R.ad (R.cx (i:=5) fN.nd rfl (Or.inl rfl) rfl (js:=[none]) (N:=["pair"]) (CompScope.by (aB fP) ["rows","life","turn","numbers","up","has","came","busy","kept"] rfl rfl Zk) (aO rfl) (R.aw (K:=K) (R.ix (R.af (K:=K)) (R.v 4) R.ab)) (fun C s₂ H₂ fp=>⟨(R.gn (i:=0) (show(["pair"]:List Str).Nodup by decide +kernel)),R.bt,(R.op R.bj (R.ai (R.U R.ae R.ac)) (R.v 0))⟩) rfl) (R.ad (R.ah (i:=6) fN.nd (R.fn c_came_again hr_came_again rfl (R.U (R.v 0) (R.U (R.v 2) (R.U (R.v 3) R.ac))))) (R.ad (R.ah (i:=7) fN.nd (R.ay rfl (js:=[none]) (N:=["row"]) (CompScope.by (aB fP) ["rows","life","turn","numbers","up","has","came","busy","kept"] rfl rfl Zk) (aO rfl) (R.aw (K:=K) (R.v 6)) (fun C s₂ H₂ fp=>⟨(R.gn (i:=0) (show(["row"]:List Str).Nodup by decide +kernel)),(R.az (R.al R.eq (R.ix (R.af (K:=K)) (R.v 0) R.ab) R.ae)),(R.sl R.sT (R.v 0) (R.ps R.ab) (R.ps R.ab))⟩))) (R.ad (R.cx (i:=8) fN.nd rfl (Or.inl rfl) rfl (js:=[none,some 7]) (N:=["entry","busy"]) (CompScope.by (aB fP) ["rows","life","turn","numbers","up","has","came","busy","kept"] rfl rfl Zk) (aO rfl) (R.aw (K:=K) (R.fn c_still_kept hr_still_kept rfl (R.U (R.ix (R.af (K:=K)) (R.v 4) R.ab) (R.U (R.v 1) (R.U (R.v 2) R.ac))))) (fun C s₂ H₂ fp=>⟨(R.gn (i:=0) (show(["entry","busy"]:List Str).Nodup by decide +kernel)),(R.az (R.al (R.el hu64) (R.sl R.sT (R.v 0) (R.ps R.ab) (R.ps R.ab)) (R.v 1))),(R.op R.bj (R.ai (R.U R.ae R.ac)) (R.v 0))⟩) rfl) (R.ag (R.ao (R.op R.bd (R.op R.bd (R.op R.bd (R.au (R.U (R.ai (R.U R.ae (R.U (R.ix (R.af (K:=K)) (R.v 4) R.ab) (R.U (R.v 2) R.ac)))) R.ac)) (R.v 5)) (R.v 8)) (R.v 6))))))))),?_⟩
  refine⟨ra,rs,as,F,ff,rfl,RR,hl,hc,hw,hok,hF,fun tp kl ol H1 rd s1=>?_⟩
  obtain⟨bl,m1,m2,ks,oo,zs,hs,gtp,gkl,pk,_,_,hm1,_,gbl,hz,pR,ez,lh⟩:=rd.ex
  obtain⟨m,rfl⟩:=sC hm1
  have lz:zs.length=hs.length:=by have:=congrArg List.length ez;simpa using this
  dsimp only [aJ];refine bE (fun σ' H'=>∃(hl:Addr) (has:List Addr),σ'=[some (.ref ra),some (.int (life:Int)),some (.int (turn:Int)),some (.ref nl),some (.ref tp),some (.ref hl),none,none,none]/\RxsAt H' hl (hs.map fun z=>RX.has z (ff z)) has/\Same H1 H') (fun nx hnx=>?_) ?_
  ·refine⟨_,SqT.of gtp,_,rfl,bl,rfl,⟨_,SqL.of gbl⟩,?_⟩
   refine aS (aR K bl (dS zs)) (by unfold dS;rw[aQ];omega) (fun i ys H'=>∃as:List Addr,ys=as.map V.ref/\Paired (fun r a=>RX.At H' a r) ((hs.take i).map fun z=>RX.has z (ff z)) as/\Same H1 H'/\as.length<=i) (fun i ys H' ⟨as,e,_,s',l'⟩=>⟨SqL.of (s' _ _ gbl),by rw[e,aQ];exact l'⟩) ⟨[],rfl,.nil,(fun _ _ e=>e),aV _⟩ (fun i x ys H' hx ⟨as,e,pp,s',l'⟩=>?_) (fun ys H' ⟨as,e,pp,s',l'⟩=>?_)
   ·obtain⟨z,hn,rfl,gz⟩:=uA hz hx
    have hni:(zs.map (·.2))[i]?=some z.2:=by rw[dR,hn];rfl
    rw[ez,dR]at hni;obtain⟨nm,hnm,enm⟩:=Option.map_eq_some_iff.mp hni
    rw[<- enm]at gz;dsimp only [aJ];refine⟨aP rfl,fun t1 Ha sa ga=>⟨_,_,ga,sa _ _ (s' _ _ gz),Nat.le_of_ble_eq_true rfl,fun t2 Hb sb gb=>⟨as++[t2],by rw[e,cS];rfl,?_,(s'.trans sa).trans sb,by simp;omega⟩⟩⟩
    rw[aM hnm,cS];exact Paired.snoc (Paired.map' (fun _ _ w=>RX.At.tk (Same.tk (sa.trans sb)) w) pp) gb
   ·intro hl2 hhl;have lz2:(dS zs).length=hs.length:=by unfold dS;rw[aQ];exact lz
    rw[lz2,gH (aV _)]at pp;exact hnx _ _ ⟨hl2,as,rfl,⟨by rw[aA,e],Paired.map' (fun _ _ w=>RX.At.tk (Same.tk (aD hhl)) w) pp⟩,s'.trans (aD hhl)⟩
  rintro σ' H2 ⟨hl2,has,rfl,R2,s2⟩
  refine⟨ra,nl,rs,as,turn,ns,rfl,(RR.same s1).same s2,hl,hw,s2 _ _ (s1 _ _ gn),hin,hnl,fun cl cs H3 fcl RC s3=>?_⟩
  have lal:=gR rs turn ns
  have lcs:=RC.len
  have lhs:=R2.len
  rw[aQ]at lhs;dsimp only [aJ];refine bE (fun σ' H'=>∃(bz:Addr) (bs:List Addr),σ'=[some (.ref ra),some (.int (life:Int)),some (.int (turn:Int)),some (.ref nl),some (.ref tp),some (.ref hl2),some (.ref cl),some (.ref bz),none]/\H' bz=some (.lst (bs.map V.ref))/\Paired (SpA H') (fA rs ns) bs/\Same H3 H') (fun nx hnx=>?_) ?_
  ·refine⟨cl,rfl,⟨_,SqL.of RC.lst⟩,?_⟩
   refine aS (aR K cl (cs.map V.ref)) (by rw[aQ];omega) (fun i ys H'=>∃as:List Addr,ys=as.map V.ref/\Paired (SpA H') (((bS rs turn ns).take i).flatMap Ip) as/\Same H3 H'/\as.length<=i) (fun i ys H' ⟨as,e,_,s',l'⟩=>⟨SqL.of (s' _ _ RC.lst),by rw[e,aQ];exact l'⟩) ⟨[],rfl,.nil,(fun _ _ e=>e),aV _⟩ (fun i x ys H' hx ⟨as,e,pp,s',l'⟩=>?_) (fun ys H' ⟨as,e,pp,s',l'⟩=>?_)
   ·obtain⟨a,r,rfl,ha,hrr,hat⟩:=(RC.same s').get hx
    obtain⟨xs,g,x0,x1,x2⟩:=dW hat
    have etk:=aM hrr
    dsimp only [aJ];refine⟨_,SqT.of g,_,x0,?_⟩
    show if decide (bQ r="came")=true then _ else _
    refine bP (fun h=>?_) (fun h=>?_)
    ·obtain⟨n,t,p,k,x,rfl⟩:=lV (of_decide_eq_true h)
     obtain⟨b1,gx,gx2⟩:=hat
     refine⟨_,gx,fun t1 Ha sa ga=>⟨as++[t1],by rw[e,cS];rfl,?_,s'.trans sa,by simp;omega⟩⟩
     rw[etk,bH];exact Paired.snoc (Paired.map' (fun _ _ w=>(Same.tk sa) _ _ w) pp) ga
    ·refine⟨as,e,?_,s',Zo⟩
     rw[etk,bH];have:Ip r=[]:=by cases r <;> first | rfl | exact absurd rfl (of_decide_eq_false h)
     rw[this,List.append_nil];exact pp
   ·intro bz hbz;rw[aQ,<- lcs,gH (aV _),qE]at pp;exact hnx _ _ ⟨bz,as,rfl,by rw[aA,e],Paired.map' (fun _ _ w=>(Same.tk (aD hbz)) _ _ w) pp,s'.trans (aD hbz)⟩
  rintro σ' H4 ⟨bz,bs,rfl,gbz,pb,s4⟩
  have s14:=(s2.trans s3).trans s4
  refine bE (fun σ' H'=>∃(kp:Addr) (es:List E6) (ka:List Addr),σ'=[some (.ref ra),some (.int (life:Int)),some (.int (turn:Int)),some (.ref nl),some (.ref tp),some (.ref hl2),some (.ref cl),some (.ref bz),some (.ref kp)]/\RxsAt H' kp (es.map gS) ka/\es.length<=43/\es.Pairwise (fun a b=>a.1<b.1)/\(∀e,e∈es↔(gP (dX rs) (aU e)=some e/\turn<e.2.1+life)/\aU e∉fA rs ns)/\Same H4 H') (fun nx hnx=>?_) ?_
  ·refine⟨_,SqT.of (s14 _ _ gtp),_,rfl,kl,ks,dX rs,life,turn,rfl,s14 _ _ gkl,Paired.map' (fun _ _ z=>z.tk (Same.tk s14)) pk,hk43,wA hw,fun pl os out H5 fpl gpl po hst s5=>?_⟩
   have lo:=po.length
   have hlo:out.length<=43:=eK (by
    have h1:(out.map (·.1)).Nodup:=List.pairwise_map.mpr (hst.asc.imp fun h=>Nat.ne_of_lt h)
    have h2:=Hx h1 (ys:=(dX rs).map (·.1)) fun n hn=>by
     obtain⟨e,he,rfl⟩:=Zmm.mp hn
     exact Zmm.mpr ⟨e,(nD ((hst.iff e).mp he).1).1,rfl⟩
    rw[aQ,aQ]at h2;exact h2) hk43
   refine⟨pl,rfl,⟨_,SqL.of gpl⟩,?_⟩
   refine aS (aR K pl (os.map V.ref)) (by rw[aQ];omega) (fun i ys H'=>∃as:List Addr,ys=as.map V.ref/\Paired (fun r a=>RX.At H' a r) (((out.take i).filter fun e=>!decide (aU e∈fA rs ns)).map gS) as/\Same H5 H'/\as.length<=i) (fun i ys H' ⟨as,e,_,s',l'⟩=>⟨SqL.of (s' _ _ gpl),by rw[e,aQ];exact l'⟩) ⟨[],rfl,.nil,(fun _ _ e=>e),aV _⟩ (fun i x ys H' hx ⟨as,e,pp,s',l'⟩=>?_) (fun ys H' ⟨as,e,pp,s',l'⟩=>?_)
   ·rw[dR]at hx;cases hoi:os[i]? with
    | none=>rw[hoi]at hx;cases hx
    | some a=>
     rw[hoi]at hx;cases hx
     obtain⟨hi,ei⟩:=Zgs.mp hoi
     obtain⟨hi',pa⟩:=Paired.get' (j:=i) po hi
     rw[ei]at pa;have hli:out[i]?=some out[i]:=fB hi'
     generalize out[i]=e0 at pa hli;obtain⟨b,c,ge,gb,gc⟩:=pa.tk (Same.tk s')
     dsimp only [aJ];refine⟨_,ge,fun t1 Ha sa ga=>?_⟩
     obtain⟨zl,z1,z2,z3⟩:=qF (SpA.all (Same.tk ((s5.trans s').trans sa)) pb)
     refine⟨_,zl,ga,by rw[(s5.trans (s'.trans sa)) _ _ gbz,<- z1,List.map_map];rfl,fun z hz=>⟨z2 z hz,(z3 (aU e0)).2 z hz⟩,?_⟩
     show if (!nW [.str (aU e0).1,.str (aU e0).2] zl)=true then _ else _
     rw[(z3 (aU e0)).1];refine bP (fun h=>?_) (fun h=>?_)
     ·refine⟨aP rfl,fun t2 Hb sb gb2=>⟨_,_,gb2,sb _ _ (sa _ _ ge),Nat.le_of_ble_eq_true rfl,fun t3 Hc sc gc3=>⟨as++[t3],by rw[e,cS];rfl,?_,s'.trans ((sa.trans sb).trans sc),by simp;omega⟩⟩⟩
      rw[aM hli,List.filter_append,List.filter_cons,if_pos h,cS];have sac:=(sa.trans sb).trans sc
      exact Paired.snoc (Paired.map' (fun _ _ w=>RX.At.tk (Same.tk sac) w) pp) ⟨b,c,gc3,sac _ _ gb,sac _ _ gc⟩
     ·refine⟨as,e,?_,s'.trans sa,Zo⟩
      rw[aM hli,List.filter_append,List.filter_cons,if_neg (by rw[h];exact Bool.false_ne_true),List.filter_nil,List.append_nil]
      exact Paired.map' (fun _ _ w=>RX.At.tk (Same.tk sa) w) pp
   ·intro kp hkp;rw[aQ,<- lo,gH (aV _)]at pp;refine hnx _ _ ⟨kp,_,as,rfl,⟨by rw[aA,e],Paired.map' (fun _ _ w=>RX.At.tk (Same.tk (aD hkp)) w) pp⟩,eK (List.length_filter_le _ _) hlo,List.Pairwise.filter _ hst.asc,fun e0=>?_,s5.trans (s'.trans (aD hkp))⟩
    rw[List.mem_filter,hst.iff];simp
  rintro σ' H5 ⟨kp,es,ka,rfl,RK,le5,he1,he2,s5⟩
  have lka:=RK.len
  rw[aQ]at lka;have s15:=s14.trans s5
  have R25:=(R2.same (s3.trans s4)).same s5
  have RC5:=(RC.same s4).same s5
  refine⟨_,SqT.of (s15 _ _ gtp),_,rfl,aP rfl,fun t1 H6 s6 g6=>⟨dE rfl,fun p1 hp1=>?_⟩⟩
  have s7:=aD (o:=.lst [.ref t1]) hp1
  have g7:(aI H6 p1 (.lst [.ref t1])) p1=some (.lst [.ref t1]):=aA
  have g67:=s7 _ _ g6
  generalize aI H6 p1 (.lst [.ref t1])=H7 at s7 g7 g67;have s57:=s6.trans s7
  refine⟨_,_,g7,(R25.same s57).lst,by rw[aQ];exact dJ (by simp;omega),fun p2 hp2=>?_⟩
  refine⟨_,_,aA,aL (RK.same s57).lst hp2,by rw[iK,aQ,aQ];exact dJ (by simp;omega),fun p3 hp3=>?_⟩
  refine⟨_,_,aA,aL (aL (RC5.same s57).lst hp2) hp3,by rw[iK,iK,aQ,aQ,aQ];exact dJ (by simp;omega),fun p4 hp4=>?_⟩
  have s74:Same H7 (aI (aI (aI H7 p2 (.lst ([V.ref t1]++has.map V.ref))) p3 (.lst ([V.ref t1]++has.map V.ref++ka.map V.ref))) p4 (.lst ([V.ref t1]++has.map V.ref++ka.map V.ref++cs.map V.ref))):=((aD hp2).trans (aD hp3)).trans (aD hp4)
  have s54:=s57.trans s74
  refine q p4 (t1::(has++(ka++cs))) (.next m turn::(hs.map (fun z=>.has z (ff z))++(es.map gS++bS rs turn ns))) _ (s1.free (s15.free (s57.free (((aD hp2).trans (aD hp3)).free hp4)))) ⟨?_,?_⟩ ⟨m,hs,es,hm1,pR,he1,he2,lh,le5,rfl⟩ (s1.trans (s15.trans s54))
  ·rw[aA];simp
  ·refine .cons (s74 _ _ g67) ?_
   exact Paired.append' (Paired.map' (fun _ _ w=>RX.At.tk (Same.tk s54) w) R25.each) (Paired.append' (Paired.map' (fun _ _ w=>RX.At.tk (Same.tk s54) w) RK.each) (Paired.map' (fun _ _ w=>RX.At.tk (Same.tk s54) w) RC5.each))
end
end KL
namespace KL
open PySem L2
section
variable {P:Program} {w:World} {K:W.Frag} {mg:Str->Option Value} {base:Heap}
def jL (rs:List RX) (r:RX):List E6:=fT r++kH rs r
theorem Mu {rs0 rs:List RX} (h:RX.Whole rs):rs.flatMap (jL rs0)=rs.flatMap fT++rs.flatMap (kH rs0):=by
 induction h with
 | nil=>rfl
 | @snoc rs r hw hf ih=>
  rw[bH,bH,bH,ih];by_cases hk:bQ r="kept"
  ·obtain⟨n,t,p,k,x,y,rfl⟩:=tW hk
   have hd:rs.flatMap (kH rs0)=[]:=by
    rw[List.flatMap_eq_nil_iff];intro q hq;refine qA fun e=>?_
    obtain⟨n',t',y',rfl⟩:=jV e
    exact absurd (hf.1 _ hq) (by show ¬ (3<=2);decide)
   rw[hd];simp [jL,kH]
  ·unfold jL;rw[pZ hk];simp
def sD:RX->Nat | .next n _=>n | .has _ _=>0 | .kept n _ _ _ _ _=>n | .came n _ _ _ _=>n | .asked n=>n | .done n _ _=>n
theorem Iq {r:RX} (h:bQ r≠"has"):Hr r=.int (sD r:Int)/\gA r=Sum.inl (sD r:Int):=by cases r <;> first | exact⟨rfl,rfl⟩ | exact absurd rfl h
def iQ (wd:Str) (rs:List RX):List Nat:=rs.filterMap fun r=>if bQ r=wd then some (sD r) else none
theorem sE (wd:Str) (rs:List RX) (r:RX):iQ wd (rs++[r])=iQ wd rs++iQ wd [r]:=by unfold iQ;rw[List.filterMap_append]
theorem Ir {σ:St} {H:Hp} {ra:Addr} {rs:List RX} {as:List Addr} {Q:List V->Hp->Prop} (wd:Str) (hwd:wd≠"has") (RR:RxsAt H ra rs as) (hl:rs.length<=100) (h:Q (nI (iQ wd rs)) H) :
  lD [none] (aJ 0) (mT (qI Ug (qI (qL K) (vr 0) (tC (.int 0))) (tC (.str wd)))) (qI (qL K) (vr 0) (tC (.int 1))) σ (Sq K ra) H Q:=by
 have le:=RR.len
 refine aS (aR K ra (as.map V.ref)) (by rw[aQ];omega) (fun i ys H'=>H'=H/\ys=nI (iQ wd (rs.take i))) (fun i ys H' ⟨e0,e⟩=>⟨by rw[e0];exact SqL.of RR.lst,by rw[e];unfold nI iQ;rw[aQ];exact uB _ _ _⟩) ⟨rfl,rfl⟩ (fun i x ys H' hx ⟨e0,e⟩=>?_) (fun ys H' ⟨e0,e⟩=>?_)
 ·subst e0;obtain⟨a,r,rfl,ha,hrr,hat⟩:=RR.get hx
  obtain⟨xs,g,x0,x1,x2⟩:=dW hat
  have etk:=aM hrr
  dsimp only [aJ];refine⟨_,SqT.of g,_,x0,?_⟩
  show if decide (bQ r=wd)=true then _ else _
  refine bP (fun h=>?_) (fun h=>?_)
  ·have hw':=of_decide_eq_true h
   refine⟨_,SqT.of g,_,x1,rfl,?_⟩
   have:iQ wd [r]=[sD r]:=by unfold iQ;rw[List.filterMap_cons,if_pos hw'];rfl
   rw[etk,sE,e,this,(Iq (by rw[hw'];exact hwd)).1];unfold nI;rw[cS];rfl
  ·refine⟨rfl,?_⟩
   have:iQ wd [r]=[]:=by unfold iQ;rw[List.filterMap_cons,if_neg (of_decide_eq_false h)];rfl
   rw[etk,sE,e,this,List.append_nil]
 ·subst e0;rw[aQ,<- le,gH (aV _)]at e;rw[e];exact h
theorem Mv {wd:Str} (hwd:wd≠"has") (rs:List RX) (n:Nat):oT (.int (n:Int)) (nI (iQ wd rs))=kC wd rs (Sum.inl (n:Int)):=by
 unfold oT nI kC iQ;induction rs with
 | nil=>rfl
 | cons r rs ih=>
  rw[List.filterMap_cons,List.any_cons];by_cases h:bQ r=wd
  ·rw[if_pos h];dsimp only;rw[List.map_cons,List.any_cons,ih,decide_eq_true h,(Iq (by rw[h];exact hwd)).2,Bool.true_and]
   congr 1
   show(((sD r:Nat):Int) == (n:Int))=_
   by_cases e:sD r=n
   ·rw[e];simp
   ·rw[decide_eq_false (fun z=>e (by injection z with z;omega))]
    exact beq_eq_false_iff_ne.mpr Zo
  ·rw[if_neg h];dsimp only;rw[ih,decide_eq_false h];rfl
theorem Mw (ns:List Nat):(nI ns).all fE=true:=by unfold nI;rw[List.all_eq_true];intro v hv;obtain⟨n,_,rfl⟩:=Zmm.mp hv;rfl
end
end KL
namespace KL
open PySem L2
section
variable {P:Program} {w:World} {K:W.Frag} {mg:Str->Option Value} {base:Heap}
theorem Iu {x:Str} {st:Stmt} {N ps:List Str} {k:Nat} (D:DefAt K mg x st ps) (S:aN N ps (aB st)):aG P w K mg base (k+1) x ps (fun _ _ _ _=>False):=
 D.go S (fun _ _ _ _ h=>h.elim) (fun _ _ _ _ _ _ _ _ _ _ h=>h.elim)
def gT:Nat->TV->Prop
 | n+1,.tp ts=>ts.length<=1000/\∀t∈ts,gT n t
 | _,.sc (.str _)=>True
 | _,.sc (.int _)=>True
 | _,_=>False
def uE (n:Nat):Sp:=fun vs H Q _=>∃x y t,vs=[x,y]/\RepT H n t x/\RepT H n t y/\gT n t/\∀H',Same H H'->Q (.bl true) H'
theorem wB:∀n:Nat,oT (.bl false) (List.replicate n (V.bl true))=false
 | 0=>rfl
 | n+1=>wB n
theorem lZ (T:Txt K mg) (D:DefAt K mg "_law_same" dZ ["_law_found","_law_due_here"]) {k:Nat} {sp:Sp} (cLsame:aG P w K mg base (k+1) "_law_same" ["_law_found","_law_due_here"] sp) (n:Nat)
  (hsp:∀m t,n=m+1->gT m t->∀x y H Q E,RepT H m t x->RepT H m t y->(∀H',Same H H'->Q (.bl true) H')->sp [x,y] H Q E):aG P w K mg base (k+2) "_law_same" ["_law_found","_law_due_here"] (uE n):=by
 refine D.go nL (fun vs H Q E h=>?_) (fun f cdv A outer s H vs Q E hr h=>?_)
 ·obtain⟨x,y,t,rfl,_⟩:=h;rfl
 ·obtain⟨x,y,t,rfl,hx,hy,hg,q⟩:=h
  have hLsame:=hr
  have hu64:=hr.units
  refine⟨_,(R.ad (R.ar (R.bw (R.da .tup (R.v 1) rfl T.b_isinstance rfl T.b_tuple iY)) (R.ad (R.ar (R.tw (R.dm (R.dj (R.bw (R.da .tup (R.v 0) rfl T.b_isinstance rfl T.b_tuple iY))) (R.dq (R.al R.ne (R.ax (R.bo (K:=K)) rfl T.b_len cW (R.U (R.v 0) R.ac)) (R.ax (R.bo (K:=K)) rfl T.b_len cW (R.U (R.v 1) R.ac)))))) (R.ag (R.ao R.bl)) R.av) (R.ag (R.ao (R.bv (R.jb (K:=K)) R.bl (R.ay rfl (js:=[none,none]) (N:=["_law_one","_law_other"]) (CompScope.by (aB dZ) ["_law_found","_law_due_here"] rfl rfl Zk) (Dy (oZ rfl (oZ rfl Ba))) (R.gv (K:=K) rfl T.b_zip (R.v 0) (R.v 1)) (fun C s₂ H₂ fp=>⟨(R.dh (K:=K) (n:=2) rfl (R.bq (R.gn (i:=0) (show(["_law_one","_law_other"]:List Str).Nodup by decide +kernel)) (R.bq (R.gn (i:=1) (show(["_law_one","_law_other"]:List Str).Nodup by decide +kernel)) R.di))),R.bt,(R.fn cLsame hLsame rfl (R.U (R.v 0) (R.U (R.v 1) R.ac)))⟩)))))) R.av) (R.ad (R.ar (R.bw (R.da .str (R.v 1) rfl T.b_isinstance rfl T.b_str El)) (R.ag (R.ao (R.fq (R.da .str (R.v 0) rfl T.b_isinstance rfl T.b_str El) (R.jc (R.bv (R.dy hu64) (R.v 0) (R.v 1)))))) R.av) (R.ag (R.ao (R.fq (R.da .int (R.v 0) rfl T.b_isinstance rfl T.b_int mM) (R.fq (R.jo (R.da .bl (R.v 0) rfl T.b_isinstance rfl T.b_bool Kx)) (R.jc (R.bv (R.dy hu64) (R.v 0) (R.v 1))))))))),?_⟩
  cases t with
  | ls ts=>cases n <;> exact hx.elim
  | sc v=>
   have ex:x=v:=by cases n <;> exact hx.1
   have ey:y=v:=by cases n <;> exact hy.1
   subst ex;subst ey;cases y with
   | str z=>
    refine⟨.str,trivial,?_⟩
    refine⟨.str,trivial,?_⟩
    refine⟨.str,trivial,?_⟩
    exact⟨0,.sc (.str z),Zd,.scal rfl,.scal rfl,q _ (Same.refl _)⟩
   | int z=>
    refine⟨.int,trivial,?_⟩
    refine⟨.int,trivial,?_⟩
    refine⟨.int,trivial,.int,trivial,?_⟩
    exact⟨0,.sc (.int z),Zd,.scal rfl,.scal rfl,q _ (Same.refl _)⟩
   | _=>cases n <;> exact hg.elim
  | tp ts=>
   cases n with
   | zero=>exact hx.elim
   | succ n=>
    obtain⟨a,xs,rfl,ga,hP⟩:=hx
    obtain⟨b,ys,rfl,gb,hQ⟩:=hy
    obtain⟨hl,hts⟩:=hg
    have lx:xs.length=ts.length:=hP.length.symm
    have ly:ys.length=ts.length:=hQ.length.symm
    refine⟨.tup,⟨ys,gb⟩,?_⟩
    refine⟨.tup,⟨xs,ga⟩,?_⟩
    refine⟨_,.inr (SqT.of ga),_,.inr (SqT.of gb),?_⟩
    refine qM (by rw[lx,ly];simp) ?_
    refine⟨false,false,xs,ys,SqT.of ga,SqT.of gb,?_⟩
    refine Fv Zo (fun i zs H'=>zs=List.replicate i (V.bl true)/\Same H H') (fun i zs H' ⟨e,s'⟩=>⟨SqT.of (s' _ _ ga),SqT.of (s' _ _ gb),by rw[e,List.length_replicate];exact aV _⟩) ⟨rfl,Same.refl _⟩ (fun i x y zs H' t' hx' hy' ⟨e,s'⟩ ht'=>?_) (fun zs H' ⟨e,s'⟩=>?_)
    ·obtain⟨hi,ei⟩:=Zgs.mp hx'
     obtain⟨hj,ej⟩:=Zgs.mp hy'
     obtain⟨hi',rx⟩:=Paired.get' (j:=i) hP hi
     obtain⟨_,ry⟩:=Paired.get' (j:=i) hQ hj
     rw[ei]at rx;rw[ej]at ry;have s2:=s'.trans (aD (o:=.tup [x,y]) ht')
     refine⟨t',_,rfl,SqT.of aA,rfl,_,_,rfl,_,_,rfl,rfl,?_⟩
     refine hsp n ts[i] rfl (hts _ (List.getElem_mem hi')) x y _ _ _ (rx.tk s2.tk) (ry.tk s2.tk) fun H'' s''=>?_
     exact⟨by rw[e,List.replicate_succ'],s2.trans s''⟩
    ·intro l hl';refine⟨l,zs,rfl,.inl (SqL.of aA),rfl,by rw[e,List.all_eq_true];intro v hv;rw[(List.mem_replicate.mp hv).2];rfl,?_⟩
     have:(!oT (.bl false) zs)=true:=by rw[e,wB];rfl
     show Q (.bl (!oT (.bl false) zs)) _
     rw[this];exact q _ (s'.trans (aD hl'))
theorem zW (T:Txt K mg) (D:DefAt K mg "_law_same" dZ ["_law_found","_law_due_here"]):∀n,aG P w K mg base (n+2) "_law_same" ["_law_found","_law_due_here"] (uE n)
 | 0=>lZ T D (Iu D nL (k:=0)) 0 (fun _ _ e=>nomatch e)
 | n+1=>lZ T D (zW T D n) (n+1) (fun m t e hf x y H Q E r r' k=>by
   injection e with e
   subst e;exact⟨x,y,t,rfl,r,r',hf,k⟩)
end
end KL
namespace KL
open PySem L2
section
variable {P:Program} {w:World} {K:W.Frag} {mg:Str->Option Value} {base:Heap}
def qG (rs:List RX):RX->Option Nat | .came n _ _ _ _=>if kC "done" rs (Sum.inl (n:Int))=true then none else some n | _=>none
def mD (rs:List RX):List Nat:=rs.filterMap (qG rs)
def Iv:Sp:=fun vs H Q _=>∃(d b ra:Addr) (rs:List RX) (as:List Addr),vs=[.ref d,.ref ra]/\Dk H d b/\RxsAt H ra rs as/\rs.length<=43/\ra≠d/\ra≠b ∧
 ∀(tp nl:Addr) (life turn:Nat) (ns:List Nat) (t0:Int) (H':Hp),H' tp=some (.tup [.int (life:Int),.int (turn:Int),.ref nl])->H nl=none->H' nl=some (.lst (nI ns))->ns.Sublist (mD rs)->1<=life->life<=1000000000000->IsMax (turnL rs) t0->t0<=turn->(turn:Int)<t0+100000000000->Fw d b H H'->Q (.ref tp) H'
theorem Mx (T:Txt K mg) (cLdraw:aG P w K mg base 1 "_law_draw" ["_law_deck_here","_law_many"] bK) (cLend:aG P w K mg base 2 "_law_end" ["_law_deck_here","_law_many"] bK)
  (D:DefAt K mg "_law_asked_fold" bG ["_law_deck_here","_law_rows"]):aG P w K mg base 3 "_law_asked_fold" ["_law_deck_here","_law_rows"] Iv:=by
 refine D.go bB (fun vs H Q E h=>?_) (fun f cdv A outer s H vs Q E hr h=>?_)
 ·obtain⟨d,b,ra,rs,as,rfl,_⟩:=h;rfl
 ·obtain⟨d,b,ra,rs,as,rfl,D0,RR,hl,nd,nb,q⟩:=h
  have hLdraw:Room 1 _:=hr.mono Zd
  have hLend:Room 2 _:=hr
  have hu64:=hr.units
  have le:=RR.len
  refine⟨_,(R.ad (R.ah (i:=2) bB.nd (R.ay rfl (js:=[none]) (N:=["_law_row"]) (CompScope.by (aB bG) ["_law_deck_here","_law_rows","_law_done","_law_numbers","_law_way","_law_turns","_law_turn","_law_life"] rfl rfl Zk) (aO rfl) (R.aw (K:=K) (R.v 1)) (fun C s₂ H₂ fp=>⟨(R.gn (i:=0) (show(["_law_row"]:List Str).Nodup by decide +kernel)),(R.az (R.al R.eq (R.ix (R.af (K:=K)) (R.v 0) R.ab) R.ae)),(R.ix (R.af (K:=K)) (R.v 0) R.ab)⟩))) (R.ad (R.cx (i:=3) bB.nd rfl (Or.inl rfl) rfl (js:=[none,some 2]) (N:=["_law_row","_law_done"]) (CompScope.by (aB bG) ["_law_deck_here","_law_rows","_law_done","_law_numbers","_law_way","_law_turns","_law_turn","_law_life"] rfl rfl Zk) (aO rfl) (R.aw (K:=K) (R.v 1)) (fun C s₂ H₂ fp=>⟨(R.gn (i:=0) (show(["_law_row","_law_done"]:List Str).Nodup by decide +kernel)),(R.az (R.tw (R.cj (R.al R.eq (R.ix (R.af (K:=K)) (R.v 0) R.ab) R.ae) (R.cv (R.al (R.jb (K:=K)) (R.ix (R.af (K:=K)) (R.v 0) R.ab) (R.v 1)))))),(R.ix (R.af (K:=K)) (R.v 0) R.ab)⟩) rfl) (R.ad (R.ah (i:=4) bB.nd (R.fn cLdraw hLdraw rfl (R.U (R.v 0) (R.U R.ab R.ac)))) (R.ad (R.ar (R.al R.gt (R.v 4) R.ab) (R.ag (R.cx (i:=3) bB.nd rfl (Or.inl rfl) rfl (js:=[none,some 0,some 4]) (N:=["_law_number","_law_deck_here","_law_way"]) (CompScope.by (aB bG) ["_law_deck_here","_law_rows","_law_done","_law_numbers","_law_way","_law_turns","_law_turn","_law_life"] rfl rfl Zk) (aO rfl) (R.aw (K:=K) (R.v 3)) (fun C s₂ H₂ fp=>⟨(R.gn (i:=0) (show(["_law_number","_law_deck_here","_law_way"]:List Str).Nodup by decide +kernel)),(R.az (R.tw (R.cj (R.al R.eq (R.v 2) R.ab) (R.cv (R.al R.eq (R.fn cLdraw hLdraw rfl (R.U (R.v 1) (R.U R.ab R.ac))) R.ab))))),(R.v 0)⟩) rfl)) R.av) (R.ad (R.cx (i:=5) bB.nd rfl (Or.inl rfl) rfl (js:=[none]) (N:=["_law_row"]) (CompScope.by (aB bG) ["_law_deck_here","_law_rows","_law_done","_law_numbers","_law_way","_law_turns","_law_turn","_law_life"] rfl rfl Zk) (aO rfl) (R.aw (K:=K) (R.v 1)) (fun C s₂ H₂ fp=>⟨(R.gn (i:=0) (show(["_law_row"]:List Str).Nodup by decide +kernel)),(R.az (R.al (R.bp (K:=K)) (R.ix (R.af (K:=K)) (R.v 0) R.ab) (R.ai (R.U R.ae (R.U R.ae (R.U R.ae R.ac)))))),(R.ix (R.af (K:=K)) (R.v 0) R.ab)⟩) rfl) (R.ad (R.ah (i:=6) bB.nd (R.op R.ap (R.ax (R.cz (K:=K) rfl) rfl T.b_max kL (R.U (R.op R.bd (R.au (R.U R.ab R.ac)) (R.v 5)) R.ac)) (R.ix (R.aq (K:=K)) (R.au (R.U R.ab (R.U R.ab (R.U (R.fn cLdraw hLdraw rfl (R.U (R.v 0) (R.U R.ab R.ac))) (R.U (R.fn cLdraw hLdraw rfl (R.U (R.v 0) (R.U (R.op R.bi R.ab R.ab) R.ac))) R.ac))))) (R.fn cLdraw hLdraw rfl (R.U (R.v 0) (R.U R.ab R.ac)))))) (R.ad (R.ah (i:=7) bB.nd (R.ix (R.aq (K:=K)) (R.au (R.U (R.op R.ap R.ab (R.fn cLdraw hLdraw rfl (R.U (R.v 0) (R.U R.ab R.ac)))) (R.U (R.op R.ap R.ab (R.fn cLend hLend rfl (R.U (R.v 0) (R.U (R.op R.bi R.ab R.ab) R.ac)))) R.ac))) (R.fn cLdraw hLdraw rfl (R.U (R.v 0) (R.U R.ab R.ac))))) (R.ag (R.ao (R.ai (R.U (R.v 7) (R.U (R.v 6) (R.U (R.v 3) R.ac))))))))))))),?_⟩
  refine⟨ra,rfl,⟨_,SqL.of RR.lst⟩,Ir "done" Zk RR Zo fun dn hdn=>?_⟩
  have s1:=aD (o:=.lst (nI (iQ "done" rs))) hdn
  have gdn:(aI H dn (.lst (nI (iQ "done" rs)))) dn=some (.lst (nI (iQ "done" rs))):=aA
  dsimp only;generalize aI H dn (.lst (nI (iQ "done" rs)))=H1 at s1 gdn;have R1:=RR.same s1
  refine bE (fun σ' H'=>∃(nl:Addr),σ'=[some (.ref d),some (.ref ra),some (.ref dn),some (.ref nl),none,none,none,none]/\H1 nl=none/\H' nl=some (.lst (nI (mD rs)))/\Same H1 H') (fun nx hnx=>?_) ?_
  ·refine⟨ra,rfl,⟨_,SqL.of R1.lst⟩,?_⟩
   refine aS (aR K ra (as.map V.ref)) (by rw[aQ];omega) (fun i ys H'=>H'=H1/\ys=nI ((rs.take i).filterMap (qG rs))) (fun i ys H' ⟨e0,e⟩=>⟨by rw[e0];exact SqL.of R1.lst,by rw[e];unfold nI;rw[aQ];exact uB _ _ _⟩) ⟨rfl,rfl⟩ (fun i x ys H' hx ⟨e0,e⟩=>?_) (fun ys H' ⟨e0,e⟩=>?_)
   ·subst e0;obtain⟨a,r,rfl,ha,hrr,hat⟩:=R1.get hx
    obtain⟨xs,g,x0,x1,x2⟩:=dW hat
    have etk:=aM hrr
    have no:qG rs r=none->H'=H'/\ys=nI ((rs.take (i+1)).filterMap (qG rs)):=fun hn=>⟨rfl,by rw[etk,List.filterMap_append,e,List.filterMap_cons,hn];simp⟩
    dsimp only [aJ];refine⟨_,SqT.of g,_,x0,?_⟩
    show if decide (bQ r="came")=true then _ else _
    refine bP (fun h=>?_) (fun h=>?_)
    ·obtain⟨n,t,p,k,x,rfl⟩:=lV (of_decide_eq_true h)
     refine⟨_,SqT.of g,_,x1,dn,_,rfl,.inl (SqL.of gdn),rfl,Mw _,?_⟩
     show if (!oT (.int (n:Int)) (nI (iQ "done" rs)))=true then _ else _
     rw[Mv Zk]
     refine bP (fun h2=>?_) (fun h2=>no ?_)
     ·refine⟨_,SqT.of g,_,x1,rfl,?_⟩
      have hn:qG rs (.came n t p k x)=some n:=by
       show(if kC "done" rs (Sum.inl (n:Int))=true then none else some n)=_
       rw[if_neg (fun z=>by rw[z]at h2;cases h2)]
      rw[etk,List.filterMap_append,e,List.filterMap_cons,hn];unfold nI;rw[cS];rfl
     ·show(if kC "done" rs (Sum.inl (n:Int))=true then none else some n)=_
      rw[if_pos (by simpa using h2)]
    ·refine no ?_
     cases r <;> first | rfl | exact absurd rfl (of_decide_eq_false h)
   ·intro nl hnl;subst e0;rw[aQ,<- le,gH (aV _)]at e;exact hnx _ _ ⟨nl,rfl,hnl,by rw[aA,e];rfl,aD hnl⟩
  rintro σ' H2 ⟨nl,rfl,fnl,gnl,s2⟩
  have f2:Fw d b H H2:=(Fw.refl D0).same (s1.trans s2)
  have lop:(mD rs).length<=43:=eK (List.length_filterMap_le _ _) hl
  refine⟨d,b,3,rfl,f2.dk,Zd,Zd,fun way H3 z0 z1 D3 e3=>?_⟩
  have f3:=f2.draw D3 e3
  have nnl:=D0.ne (s1.free fnl)
  dsimp only;refine bE (fun σ' H'=>∃(nl:Addr) (ns:List Nat),σ'=[some (.ref d),some (.ref ra),some (.ref dn),some (.ref nl),some (.int way),none,none,none]/\H nl=none/\H' nl=some (.lst (nI ns))/\ns.Sublist (mD rs)/\Fw d b H H') (fun nx hnx=>?_) ?_
  ·have gnl3:H3 nl=some (.lst (nI (mD rs))):=e3 _ _ gnl nnl.1 nnl.2
   show if decide (0<way)=true then _ else _
   refine bP (fun h=>?_) (fun h=>hnx _ _ ⟨nl,_,rfl,s1.free fnl,gnl3,List.Sublist.refl _,f3⟩)
   refine⟨nl,rfl,⟨_,SqL.of gnl3⟩,?_⟩
   refine aS (aR K nl (nI (mD rs))) (by unfold nI;rw[aQ];omega) (fun i ys H'=>∃ms:List Nat,ys=nI ms/\ms.Sublist ((mD rs).take i)/\Fw d b H3 H') (fun i ys H' ⟨ms,e,hs,f'⟩=>⟨SqL.of (f'.get gnl3 nnl.1 nnl.2),by rw[e];unfold nI;rw[aQ];exact eK hs.length_le (by rw[nQ];omega)⟩) ⟨[],rfl,List.nil_sublist _,Fw.refl D3⟩ (fun i x ys H' hx ⟨ms,e,hs,f'⟩=>?_) (fun ys H' ⟨ms,e,hs,f'⟩=>?_)
   ·unfold nI at hx;rw[dR]at hx;cases hni:(mD rs)[i]? with
    | none=>rw[hni]at hx;cases hx
    | some n=>
     rw[hni]at hx;cases hx
     have etk:=aM hni
     dsimp only [aJ];show if decide (way=1)=true then _ else _
     refine bP (fun h1=>?_) (fun h1=>⟨ms,e,by rw[etk];exact hs.trans (List.sublist_append_left _ _),f'⟩)
     refine⟨d,b,2,rfl,f'.dk,Zd,Zd,fun m4 H4 y0 y1 D4 e4=>?_⟩
     show if decide (m4=0)=true then _ else _
     refine bP (fun h4=>?_) (fun h4=>⟨ms,e,by rw[etk];exact hs.trans (List.sublist_append_left _ _),f'.draw D4 e4⟩)
     refine⟨ms++[n],by rw[e];unfold nI;rw[cS];rfl,by rw[etk];exact hs.append (List.Sublist.refl _),f'.draw D4 e4⟩
   ·intro p hp;refine hnx _ _ ⟨p,ms,rfl,(f3.trans f').free hp,by rw[aA,e],hs.trans (List.take_sublist _ _),(f3.trans f').new hp⟩
  rintro σ' H4 ⟨nl4,ns,rfl,fn4,gn4,hs4,f4⟩
  have R4:=RR.keep f4.tk (f4.get RR.lst nd nb)
  have nn4:=D0.ne fn4
  refine⟨ra,rfl,⟨_,SqL.of R4.lst⟩,rY R4 Zo fun H5 s5 p5 hp5=>?_⟩
  have f5:=(f4.same s5).new (o:=.lst (nI (bW rs))) hp5
  have g5:(aI H5 p5 (.lst (nI (bW rs)))) p5=some (.lst (nI (bW rs))):=aA
  have gn5:(aI H5 p5 (.lst (nI (bW rs)))) nl4=some (.lst (nI ns)):=aL (s5 _ _ gn4) hp5
  dsimp only;generalize aI H5 p5 (.lst (nI (bW rs)))=H6 at f5 g5 gn5;have tle:(bW rs).length<=rs.length:=List.length_filterMap_le _ _
  refine bE (fun σ' H'=>∃(turn:Nat) (t0:Int),σ'=[some (.ref d),some (.ref ra),some (.ref dn),some (.ref nl4),some (.int way),some (.ref p5),some (.int (turn:Int)),none]/\IsMax (turnL rs) t0/\t0<=turn/\(turn:Int)<t0+100000000000/\Fw d b H6 H') (fun nx hnx=>?_) ?_
  ·refine⟨dE rfl,fun q1 hq1=>⟨_,_,aA,aL g5 hq1,by unfold nI;rw[aQ];exact dJ (by simp;omega),fun q2 hq2=>⟨q2,turnL rs,rfl,SqL.of (by rw[aA];unfold turnL nI;simp [List.map_map] <;> rfl),by unfold turnL;simp,fun t0 hm1 hm2=>?_⟩⟩⟩
   have fa:=((Fw.refl f5.dk).new (o:=.lst [.int 0]) hq1).new (o:=.lst ([.int 0]++nI (bW rs))) hq2
   generalize aI (aI H6 q1 (.lst [.int 0])) q2 (.lst ([.int 0]++nI (bW rs)))=H7 at fa;have h0:0<=t0:=hm2 0 (by unfold turnL;simp)
   refine⟨d,b,9,rfl,fa.dk,Zd,Zd,fun r1 H8 a0 a1 D8 k8=>⟨⟨Zd,Zd,Zd⟩,d,b,_,rfl,D8,Zd,Zd,fun r2 H9 b0 b1 D9 k9=>⟨dE rfl,fun p hp=>⟨d,b,4,rfl,D9.new hp,Zd,Zd,fun r3 Ha c0 c1 Da ka=>?_⟩⟩⟩⟩
   have hpd:=D9.ne hp
   have gp:=ka p _ aA hpd.1 hpd.2
   have fb:=((((fa.draw D8 k8).draw D9 k9).new (o:=.lst [.int 0,.int 0,.int r1,.int r2]) hp).draw Da ka)
   have b1':r2<100000000000:=b1
   obtain⟨by_,hb0,hb1,hbv⟩:∃v:Int,0<=v/\v<100000000000/\nT [V.int 0,.int 0,.int r1,.int r2] r3=some (.int v):=by
    rcases(by omega:r3=0∨r3=1∨r3=2∨r3=3) with rfl | rfl | rfl | rfl
    ·exact⟨0,Zo,Zo,rfl⟩
    ·exact⟨0,Zo,Zo,rfl⟩
    ·exact⟨r1,Zo,Zo,rfl⟩
    ·exact⟨r2,Zo,Zo,rfl⟩
   refine⟨_,SqL.of gp,_,hbv,hnx _ _ ⟨(t0+by_).toNat,t0,?_,⟨hm1,hm2⟩,Zo,Zo,fb⟩⟩
   rw[Int.toNat_of_nonneg Zo]
   rfl
  rintro σ' H7 ⟨turn,t0,rfl,hmx,ht0,ht1,f7⟩
  refine bE (fun σ' H'=>∃(life:Nat),σ'=[some (.ref d),some (.ref ra),some (.ref dn),some (.ref nl4),some (.int way),some (.ref p5),some (.int (turn:Int)),some (.int (life:Int))]/\1<=life/\life<=1000000000000/\Fw d b H7 H') (fun nx hnx=>?_) ?_
  ·refine⟨d,b,12,rfl,f7.dk,Zd,Zd,fun r1 H1 a0 a1 D1 k1=>⟨⟨Zd,Zd,Zd⟩,d,b,_,rfl,D1,Zd,Zd,fun r2 H2 b0 b1 D2 k2=>⟨dE rfl,fun p hp=>⟨d,b,2,rfl,D2.new hp,Zd,Zd,fun r3 H3 c0 c1 D3 k3=>?_⟩⟩⟩⟩
   have hpd:=D2.ne hp
   have gp:=k3 p _ aA hpd.1 hpd.2
   have ff:=((((Fw.refl f7.dk).draw D1 k1).draw D2 k2).new hp).draw D3 k3
   have b1':r2<1000000000000:=b1
   rcases(by omega:r3=0∨r3=1) with rfl | rfl
   ·refine⟨_,SqL.of gp,_,rfl,hnx _ _ ⟨(1+r1).toNat,?_,Zo,Zo,ff⟩⟩
    rw[Int.toNat_of_nonneg Zo]
    rfl
   ·refine⟨_,SqL.of gp,_,rfl,hnx _ _ ⟨(1+r2).toNat,?_,Zo,Zo,ff⟩⟩
    rw[Int.toNat_of_nonneg Zo]
    rfl
  rintro σ' H8 ⟨life,rfl,hl1,hl2,f8⟩
  have f68:=f7.trans f8
  refine⟨aP rfl,fun tp H9 s9 g9=>q tp nl4 life turn ns t0 H9 g9 fn4 (s9 _ _ (f68.get gn5 nn4.1 nn4.2)) hs4 hl1 hl2 hmx ht0 ht1 ((f5.trans f68).same s9)⟩
end
end KL
namespace KL
open PySem L2
section
variable {P:Program} {w:World} {K:W.Frag} {mg:Str->Option Value} {base:Heap}
def qH:Sp:=fun vs H Q _=>∃(bk t c:Addr) (prs:List (Str × Int)) (x:Dd) (y:An),vs=[.ref bk,.ref t,.ref c]/\H bk=some (.dK (iN prs))/\prs.length<=900/\H t=some (.tup x.vs)/\H c=some (.tup y.vs)/\An.Of x y ∧
 ∀(H':Hp),H' bk=some (.dK (iN (kS prs (kW x y))))->K1 bk H H'->Q .non H'
theorem wC (T:Txt K mg) (cLchanges:aG P w K mg base 1 "_law_changes" ["_law_deed_here","_law_answer_here"] kP)
  (D:DefAt K mg "_law_changed" cY ["_law_book_here","_law_deed_here","_law_answer_here"]):aG P w K mg base 2 "_law_changed" ["_law_book_here","_law_deed_here","_law_answer_here"] qH:=by
 refine D.go cA (fun vs H Q E h=>?_) (fun f cdv A outer s H vs Q E hr h=>?_)
 ·obtain⟨bk,t,c,prs,x,y,rfl,_⟩:=h;rfl
 ·obtain⟨bk,t,c,prs,x,y,rfl,gb,hl,gt,gc,hy,q⟩:=h
  have hu1:=dU hr
  have hLchanges:=hr
  refine⟨_,(R.ag (R.bh PassesOwn.never rfl (R.aw (K:=K) (R.fn cLchanges hLchanges rfl (R.U (R.v 1) (R.U (R.v 2) R.ac)))) (R.dh (K:=K) (n:=2) rfl (R.bq (R.gn (i:=3) cA.nd) (R.bq (R.gn (i:=4) cA.nd) R.di))) (R.ag (R.br (R.op R.ap (R.cq hu1 (R.v 0) (R.v 3) R.ab) (R.v 4)) (R.bu (R.v 0) (R.v 3) (R.cf hu1)))))),?_⟩
  refine⟨t,c,x,y,rfl,gt,gc,hy,fun l ps H1 fl g1 pp s1=>⟨l,rfl,⟨_,SqL.of g1⟩,?_⟩⟩
  have hbl:bk≠l:=aF gb fl
  have h2:=lT x y
  have hpl:(kW x y).length=ps.length:=pp.length
  refine cC (aR K l (ps.map V.ref)) (fun i σ' H'=>∃(o3 o4:Option V),σ'=[some (.ref bk),some (.ref t),some (.ref c),o3,o4]/\H' bk=some (.dK (iN (kS prs ((kW x y).take i))))/\K1 bk H1 H'/\H' l=some (.lst (ps.map V.ref))) (fun i σ' H' ⟨_,_,_,_,_,e⟩=>SqL.of e)
   ⟨_,_,rfl,s1 _ _ gb,(fun _ _ e _=>e),g1⟩ ?_ ?_
  ·rintro i v σ' H2 hv ⟨o3,o4,rfl,gb2,k2,gl2⟩
   rw[dR]at hv;cases hp:ps[i]? with
   | none=>rw[hp]at hv;cases hv
   | some p=>
    rw[hp]at hv;cases hv
    obtain⟨hi,ei⟩:=Zgs.mp hp
    obtain⟨hi',pv⟩:=Paired.get' (j:=i) pp hi
    rw[ei]at pv;have hcc:(kW x y)[i]?=some (kW x y)[i]:=fB hi'
    generalize (kW x y)[i]=cc at pv hcc;obtain⟨z,by_⟩:=cc
    have pv':H1 p=some (.tup [.str z,.int by_]):=pv
    have gp2:=k2 _ _ pv' (fun e=>by rw[e,s1 _ _ gb]at pv';cases pv')
    refine⟨p,_,rfl,SqT.of gp2,rfl,_,_,rfl,_,_,rfl,rfl,?_⟩
    refine⟨bk,rfl,zJ gb2,_,DGet.k (k:=Sum.inr z) gb2,?_⟩
    rw[lN];have lc:=jI ((kW x y).take i) prs
    have lt:=List.length_take_le i (kW x y)
    refine⟨bk,_,rfl,DPut.k (k:=Sum.inr z) gb2 (by unfold iN;rw[aQ];exact kI (m:=1000) Zo Zd),?_⟩
    refine⟨_,_,rfl,?_,fun c' o' e' n'=>?_,?_⟩
    ·rw[aA,pX,aM hcc,mZ]
    ·rw[aE n'];exact k2 _ _ e' n'
    ·rw[aE hbl.symm];exact gl2
  ·rintro σ' H2 ⟨o3,o4,rfl,gb2,k2,gl2⟩
   rw[aQ,<- hpl,gH (aV _)]at gb2;exact q H2 gb2 (fun c' o' e' n'=>k2 _ _ (s1 _ _ e') n')
def zX:Sp:=fun vs H Q _=>∃(ra cd:Addr) (rs:List RX) (as:List Addr) (F:Nat->Str->Nat) (f:Str->Nat),vs=[.ref ra,.ref cd]/\RxsAt H ra rs as/\rs.length<=100/\(dQ rs).length+2*(cK rs).length<=43/\RX.Whole rs/\(∀r∈rs,r.Ok)/\RepF rs F f/\H cd=some (.dK (aK [] (aZ "came" rs as rs.length))) ∧
 ∀(p:Addr) (hs:List Str) (os:List Addr) (H':Hp),H p=none->RxsAt H' p (hs.map fun z=>RX.has z (f z)) os->PosR f hs->hs.length<=43->Same H H'->Q (.ref p) H'
theorem Iw (T:Txt K mg) (cLchanged:aG P w K mg base 2 "_law_changed" ["_law_book_here","_law_deed_here","_law_answer_here"] qH)
  (D:DefAt K mg "_law_book" dY ["_law_rows","_law_came"]):aG P w K mg base 3 "_law_book" ["_law_rows","_law_came"] zX:=by
 refine D.go jD (fun vs H Q E h=>?_) (fun f cdv A outer s H vs Q E hr h=>?_)
 ·obtain⟨ra,cd,rs,as,F,f,rfl,_⟩:=h;rfl
 ·obtain⟨ra,cd,rs,as,F,ff,rfl,RR,hl,hct,hw,hok,hF,gcd,q⟩:=h
  have hu1:=dU hr
  have hLchanged:Room 2 _:=hr
  have le:=RR.len
  refine⟨_,(R.ad (R.ah (i:=2) jD.nd (R.bg (R.db (K:=K) rfl) rfl T.b_dict lF (R.U (R.ay rfl (js:=[none]) (N:=["_law_row"]) (CompScope.by (aB dY) ["_law_rows","_law_came","_law_book_here","_law_row"] rfl rfl Zk) (aO rfl) (R.aw (K:=K) (R.v 0)) (fun C s₂ H₂ fp=>⟨(R.gn (i:=0) (show(["_law_row"]:List Str).Nodup by decide +kernel)),(R.az (R.al R.eq (R.ix (R.af (K:=K)) (R.v 0) R.ab) R.ae)),(R.ai (R.U (R.ix (R.af (K:=K)) (R.v 0) R.ab) (R.U (R.ix (R.af (K:=K)) (R.v 0) R.ab) R.ac)))⟩)) R.ac))) (R.ad (R.bh PassesOwn.never rfl (R.aw (K:=K) (R.v 0)) (R.gn (i:=3) jD.nd) (R.ag (R.ar (R.al R.eq (R.ix (R.af (K:=K)) (R.v 3) R.ab) R.ae) (R.ag (R.bc (R.fn cLchanged hLchanged rfl (R.U (R.v 2) (R.U (R.ix (R.af (K:=K)) (R.be hu1 (R.v 1) (R.ix (R.af (K:=K)) (R.v 3) R.ab)) R.ab) (R.U (R.ix (R.af (K:=K)) (R.v 3) R.ab) R.ac)))))) R.av))) (R.ag (R.ao (R.ay rfl (js:=[none,some 2]) (N:=["_law_name","_law_book_here"]) (CompScope.by (aB dY) ["_law_rows","_law_came","_law_book_here","_law_row"] rfl rfl Zk) (aO rfl) (R.aw (K:=K) (R.ax (R.dz rfl) rfl T.b_sorted gM (R.U (R.v 2) R.ac))) (fun C s₂ H₂ fp=>⟨(R.gn (i:=0) (show(["_law_name","_law_book_here"]:List Str).Nodup by decide +kernel)),(R.az (R.al R.gt (R.be hu1 (R.v 1) (R.v 0)) R.ab)),(R.ai (R.U R.ae (R.U (R.v 0) (R.U (R.be hu1 (R.v 1) (R.v 0)) R.ac))))⟩)))))),?_⟩
  refine bE (fun σ' H'=>∃(bk:Addr),σ'=[some (.ref ra),some (.ref cd),some (.ref bk),none]/\H bk=none/\H' bk=some (.dK (iN (fS rs)))/\Same H H') (fun nx hnx=>?_) ?_
  ·refine⟨ra,rfl,⟨_,SqL.of RR.lst⟩,?_⟩
   refine aS (aR K ra (as.map V.ref)) (by rw[aQ];omega) (fun i ys H'=>∃zs:List W,ys=zs.map (fun z=>V.ref z.1)/\Lm H' zs/\zs.map (·.2)=dQ (rs.take i)/\Same H H'/\zs.length<=i) (fun i ys H' ⟨zs,e,_,_,s',l'⟩=>⟨SqL.of (s' _ _ RR.lst),by rw[e,aQ];exact l'⟩) ⟨[],rfl,(fun _ h=>nomatch h),rfl,(fun _ _ e=>e),aV _⟩ (fun i x ys H' hx ⟨zs,e,hw',ez,s',l'⟩=>?_) (fun ys H' ⟨zs,e,hw',ez,s',l'⟩=>?_)
   ·obtain⟨a,r,rfl,ha,hrr,hat⟩:=(RR.same s').get hx
    obtain⟨xs,g,x0,x1,x2⟩:=dW hat
    have etk:=aM hrr
    dsimp only [aJ];refine⟨_,SqT.of g,_,x0,?_⟩
    show if decide (bQ r="has")=true then _ else _
    refine bP (fun h=>?_) (fun h=>?_)
    ·obtain⟨z,m,rfl⟩:=xT (of_decide_eq_true h)
     refine⟨_,SqT.of g,_,x1,_,SqT.of g,_,x2 (fun z=>nomatch z),aP rfl,fun tp H2 s2 g2=>?_⟩
     refine⟨zs++[(tp,(Sum.inr z,.int (m:Int)))],by rw[e,cS];rfl,fun y hy=>?_,?_,s'.trans s2,by simp;omega⟩
     ·rcases aH hy with hy | rfl
      ·exact s2 _ _ (hw' y hy)
      ·exact g2
     ·rw[cS,ez,etk,iI];rfl
    ·refine⟨zs,e,hw',?_,s',Zo⟩
     rw[ez,etk,iI,rT (of_decide_eq_false h),List.append_nil]
   ·intro p hp;have gp:(aI H' p (.lst ys)) p=some (.lst (zs.map fun z=>V.ref z.1)):=by rw[aA,e]
    have s1:Same H (aI H' p (.lst ys)):=s'.trans (aD hp)
    have hw1:Lm (aI H' p (.lst ys)) zs:=fun z hz=>aL (hw' z hz) hp
    generalize aI H' p (.lst ys)=H1 at gp s1 hw1;rw[aQ]at l';refine⟨zs,SqL.of gp,hw1,Zo,fun bk hbk=>?_⟩
    refine hnx _ _ ⟨bk,rfl,s1.free hbk,?_,s1.trans (aD hbk)⟩
    rw[aA,ez,aQ,<- le,gH (aV _),jW,mQ (lW hw)]
  rintro σ' H1 ⟨bk,rfl,fbk,gbk,s1⟩
  refine bE (fun σ' H'=>∃(prs:List (Str × Int)) (o3:Option V),σ'=[some (.ref ra),some (.ref cd),some (.ref bk),o3]/\H' bk=some (.dK (iN prs))/\(prs.map (·.1)).Nodup/\(∀z,iU prs z=(ff z:Int))/\prs.length<=43/\Same H H') (fun nx hnx=>?_) ?_
  ·refine⟨ra,rfl,⟨_,SqL.of (s1 _ _ RR.lst)⟩,cC (aR K ra (as.map V.ref)) (fun i σ' H'=>∃(prs:List (Str × Int)) (o3:Option V),σ'=[some (.ref ra),some (.ref cd),some (.ref bk),o3]/\H' bk=some (.dK (iN prs))/\(prs.map (·.1)).Nodup/\(∀z,iU prs z=(F i z:Int))/\prs.length<=(dQ rs).length+2*(cK (rs.take i)).length/\Same H H') (fun i σ' H' ⟨_,_,_,_,_,_,_,s'⟩=>SqL.of (s' _ _ RR.lst))
    ⟨fS rs,_,rfl,gbk,lW hw,fun z=>by rw[hF.z];exact vW hw z,by rw[vV];omega,s1⟩ ?_ ?_⟩
   ·rintro i x σ' H2 hx ⟨prs,o3,rfl,gd2,nd2,am2,ln2,s2⟩
    obtain⟨a,r,rfl,ha,hrr,hat⟩:=(RR.same s2).get hx
    have hil:i<rs.length:=(Zgs.mp hrr).1
    obtain⟨xs,g,x0,x1,x2⟩:=dW hat
    have etk:=aM hrr
    dsimp only [aJ];refine⟨_,SqT.of g,_,x0,?_⟩
    show if decide (bQ r="done")=true then _ else _
    refine bP (fun h=>?_) (fun h=>?_)
    ·obtain⟨n,t,y,rfl⟩:=jV (of_decide_eq_true h)
     obtain⟨cy,gr,gy⟩:=hat
     obtain⟨t0,pp,kk,xd,qq,hcm,hR,hnext⟩:=hF.done i n t y hrr
     obtain⟨t0',pp',kk',xd',hcm',hof⟩:=eJ hw (jM hrr)
     have ecm:=jU hw hcm hcm'
     injection ecm with _ _ _ _ e5
     subst e5;have hxok:xd.Ok:=(hok _ hcm).2.2.2.2.2
     obtain⟨ca,cb,ct,hv,gca,gcb⟩:=gB hw (RR.same s2) hcm
     have dg':DGet H2 cd (.int (n:Int)) (some (.ref ca)):=by rw[<- hv];exact DGet.k (k:=Sum.inl (n:Int)) (s2 _ _ gcd)
     obtain⟨ea,hG⟩:=jF hxok hR
     have hdn:=pW rs i
     refine⟨_,SqT.of gr,_,rfl,cd,_,rfl,dg',_,SqT.of gca,_,rfl,_,SqT.of gr,_,rfl,bk,cb,cy,prs,xd,y,rfl,gd2,Zo,gcb,gy,hof,fun H3 g3 k3=>?_⟩
     refine⟨kS prs (kW xd y),_,rfl,g3,oI _ _ nd2,fun z=>?_,?_,fun c o e=>k3 _ _ (s2 _ _ e) (aF e fbk)⟩
     ·rw[pY _ _ _ hG am2,ea,hnext]
     ·have h1:=jI (kW xd y) prs
      have h2:=lT xd y
      rw[etk,iJ,iK];show _<=_+2*(_+1)
      omega
    ·refine⟨prs,_,rfl,gd2,nd2,fun z=>?_,?_,s2⟩
     ·rw[hF.rest i r hrr (of_decide_eq_false h)];exact am2 z
     ·rw[etk,iJ,iK];omega
   ·rintro σ' H2 ⟨prs,o3,rfl,gd2,nd2,am2,ln2,s2⟩
    rw[aQ,<- le]at am2 ln2;rw[gH (aV _)]at ln2;exact hnx _ _ ⟨prs,o3,rfl,gd2,nd2,fun z=>by rw[<- hF.last];exact am2 z,Zo,s2⟩
  rintro σ' H2 ⟨prs,o3,rfl,gd2,nd2,am2,ln2,s2⟩
  obtain⟨pR,_⟩:=zS nd2 am2
  refine⟨prs.map (·.1),_,.inl gd2,lK prs,by rw[aQ];omega,fun l hl2=>⟨l,rfl,⟨_,SqL.of aA⟩,?_⟩⟩
  have s3:=aD (o:=.lst ((gZ (prs.map (·.1))).map V.str)) hl2
  have g1:(aI H2 l (.lst ((gZ (prs.map (·.1))).map V.str))) l=some (.lst ((gZ (prs.map (·.1))).map V.str)):=aA
  generalize aI H2 l (.lst ((gZ (prs.map (·.1))).map V.str))=H3 at s3 g1;have hlen:(gZ (prs.map (·.1))).length<=43:=by rw[hJ,aQ];exact ln2
  refine aS (aR K l ((gZ (prs.map (·.1))).map V.str)) (by rw[aQ];omega) (fun i ys H'=>∃as:List Addr,ys=as.map V.ref/\Same H3 H'/\Paired (fun r a=>RX.At H' a r) ((((gZ (prs.map (·.1))).take i).filter fun n=>decide (0<iU prs n)).map fun n=>RX.has n (ff n)) as/\as.length<=i)
   (fun i ys H' ⟨as,e,s',_,hl'⟩=>⟨SqL.of (s' _ _ g1),by rw[e,aQ];exact hl'⟩) ⟨[],rfl,Same.refl _,.nil,aV _⟩ (fun i x ys H' hx ⟨as,e,s',pp,hzl⟩=>?_) (fun ys H' ⟨as,e,s',pp,hzl⟩=>?_)
  ·rw[dR]at hx;cases hn:(gZ (prs.map (·.1)))[i]? with
   | none=>rw[hn]at hx;cases hx
   | some n=>
    rw[hn]at hx;cases hx
    have hmem:n∈prs.map (·.1):=(eQ _).mem_iff.mp (jM hn)
    obtain⟨a,ha⟩:=hU hmem
    have ea:iU prs n=a:=by unfold iU;rw[ha];rfl
    have gd:∀H'',Same H3 H''->DGet H'' bk (.str n) (some (.int a)):=fun H'' s''=>by
     have:=DGet.k (k:=Sum.inr n) (s'' _ _ (s3 _ _ gd2))
     rw[lM,ha]at this;exact this
    dsimp only [aJ];refine⟨bk,_,rfl,gd H' s',?_⟩
    show if decide (0<a)=true then _ else _
    refine bP (fun hb=>?_) (fun hb=>?_)
    ·refine⟨bk,_,rfl,gd H' s',aP rfl,fun t Ha sa ga=>⟨as++[t],by rw[e,cS];rfl,s'.trans sa,?_,by simp;omega⟩⟩
     rw[aM hn,List.filter_append,List.filter_cons,if_pos (by rw[ea];exact hb),cS]
     refine Paired.snoc (Paired.map' (fun _ _ w=>RX.At.tk (Same.tk sa) w) pp) ?_
     have:a=(ff n:Int):=by rw[<- ea,am2]
     rw[this]at ga;exact ga
    ·refine⟨as,e,s',?_,Zo⟩
     rw[aM hn,List.filter_append,List.filter_cons,if_neg (by rw[ea,hb];exact Bool.false_ne_true)]
     simpa using pp
  ·intro l2 hl2';rw[aQ,List.take_length]at pp;refine q l2 (xX prs) as _ (s2.free (s3.free (s'.free hl2'))) ⟨by rw[aA,e],Paired.map' (fun _ _ w=>RX.At.tk (Same.tk (aD hl2')) w) pp⟩ pR (eK (vY prs) ln2) (s2.trans (s3.trans (s'.trans (aD hl2'))))
end
end KL
namespace KL
open PySem L2
section
variable {P:Program} {w:World} {K:W.Frag} {mg:Str->Option Value} {base:Heap}
def AK (H:Hp) (e:E6) (a:Addr):Prop:=RX.At H a (gS e)
theorem AK.tk {H H':Hp} (s:TK H H') {e:E6} {a:Addr} (h:AK H e a):AK H' e a:=RX.At.tk s h
theorem Ix {κ:Type} [DecidableEq κ] {kvs:List (κ × V)} {k:κ} {v:V} (hn:(kvs.map (·.1)).Nodup) (h:(k,v)∈kvs):bN kvs k=some v:=by
 induction kvs with
 | nil=>cases h
 | cons p r ih=>
  rw[List.map_cons,List.nodup_cons]at hn;rcases List.mem_cons.mp h with e | h'
  ·rw[bY (by rw[<- e]),<- e]
  ·rw[bZ (fun e=>hn.1 (by rw[e];exact Zmm.mpr ⟨_,h',rfl⟩))]
   exact ih hn.2 h'
theorem Iy {fl:List (E6 × Addr)} {ns':List Int} (hn:(fl.map fun q=>(q.1.1:Int)).Nodup) (hp:ns'.Perm (fl.map fun q=>(q.1.1:Int))) (hs:ns'.Pairwise (·<=·)) :
  ∃out:List (E6 × Addr),out.Perm fl/\out.map (fun q=>(q.1.1:Int))=ns'/\(out.map (·.1)).Pairwise fun a b=>a.1<b.1:=by
 obtain⟨out,ho⟩:=gQ (R:=fun(n:Int) (q:E6 × Addr)=>n=(q.1.1:Int)/\q∈fl) (xs:=ns') fun n hn'=>by
  obtain⟨q,hq,e⟩:=Zmm.mp (hp.mem_iff.mp hn')
  exact⟨q,e.symm,hq⟩
 have e2:=Wg ho (f:=fun n=>n) (g:=fun q=>(q.1.1:Int)) fun n q h=>h.1
 rw[List.map_id']at e2;have hnz:ns'.Nodup:=hp.nodup_iff.mpr hn
 refine⟨out,?_,e2.symm,?_⟩
 ·have hnf:fl.Nodup:=(List.pairwise_map.mp hn).imp fun {a b} hab e=>hab (by rw[e])
  have hno:out.Nodup:=(List.pairwise_map.mp (show(out.map fun q=>(q.1.1:Int)).Nodup by rw[<- e2];exact hnz)).imp fun {a b} hab e=>hab (by rw[e])
  refine(List.perm_ext_iff_of_nodup hno hnf).mpr fun q=>⟨fun hq=>?_,fun hq=>?_⟩
  ·obtain⟨z,_,h⟩:=Oi ho hq;exact h.2
  ·obtain⟨q',hq',h'⟩:=Xq ho (hp.mem_iff.mpr (Zmm.mpr ⟨q,hq,rfl⟩))
   rw[uC hn hq h'.2 h'.1];exact hq'
 ·have h3:=(hs.and hnz).imp fun {a b} (h:a<=b/\a≠b)=>(by omega:a<b)
  rw[e2,List.pairwise_map]at h3;exact List.pairwise_map.mpr (h3.imp fun h=>by omega)
def Iz:Sp:=fun vs H Q _=>∃(ra cd sl:Addr) (rs:List RX) (as ss:List Addr) (life turn:Nat) (sp:List (Str × Str)),vs=[.ref ra,.ref cd,.int (life:Int),.int (turn:Int),.ref sl]/\RxsAt H ra rs as/\rs.length<=100/\(dX rs).length<=43/\RX.Whole rs/\H cd=some (.dK (aK [] (aZ "came" rs as rs.length)))/\H sl=some (.lst (ss.map V.ref))/\Paired (SpA H) sp ss ∧
 ∀(p:Addr) (es:List E6) (os:List Addr) (H':Hp),H p=none->RxsAt H' p (es.map gS) os->es.length<=43->es.Pairwise (fun a b=>a.1<b.1)->(∀e,e∈es↔(gP (dX rs) (aU e)=some e/\turn<e.2.1+life)/\aU e∉sp)->Same H H'->Q (.ref p) H'
theorem Mz (T:Txt K mg) (D:DefAt K mg "_law_answers" cG ["_law_rows","_law_came","_law_life","_law_turn","_law_spots"]):aG P w K mg base 1 "_law_answers" ["_law_rows","_law_came","_law_life","_law_turn","_law_spots"] Iz:=by
 refine D.go cQ (fun vs H Q E h=>?_) (fun f cdv A outer s H vs Q E hr h=>?_)
 ·obtain⟨ra,cd,sl,rs,as,ss,life,turn,sp,rfl,_⟩:=h;rfl
 ·obtain⟨ra,cd,sl,rs,as,ss,life,turn,sp,rfl,RR,hl,hk43,hw,gcd,gsl,psp,q⟩:=h
  have hu1:=dU hr
  have hu64:=hr.units
  have le:=RR.len
  refine⟨_,(R.ad (R.ah (i:=5) cQ.nd R.eg) (R.ad (R.bh PassesOwn.never rfl (R.aw (K:=K) (R.v 0)) (R.gn (i:=6) cQ.nd) (R.ad (R.ar (R.al R.eq (R.ix (R.af (K:=K)) (R.v 6) R.ab) R.ae) (R.ag (R.br (R.v 6) (R.bu (R.v 5) (R.sl R.sT (R.v 6) (R.ps R.ab) (R.ps R.ab)) (R.cf hu1)))) R.av) (R.ag (R.ar (R.al R.eq (R.ix (R.af (K:=K)) (R.v 6) R.ab) R.ae) (R.ad (R.ah (i:=7) cQ.nd (R.be hu1 (R.v 1) (R.ix (R.af (K:=K)) (R.v 6) R.ab))) (R.ag (R.br (R.op R.bj (R.op R.bj (R.ai (R.U R.ae (R.U (R.ix (R.af (K:=K)) (R.v 6) R.ab) (R.U (R.ix (R.af (K:=K)) (R.v 6) R.ab) R.ac)))) (R.sl R.sT (R.v 7) (R.ps R.ab) R.pn)) (R.ai (R.U (R.ix (R.af (K:=K)) (R.v 6) R.ab) R.ac))) (R.bu (R.v 5) (R.sl R.sT (R.v 7) (R.ps R.ab) (R.ps R.ab)) (R.cf hu1))))) R.av)))) (R.ad (R.ah (i:=8) cQ.nd (R.bg (R.db (K:=K) rfl) rfl T.b_dict lF (R.U (R.ja (R.ay rfl (js:=[none,some 4,some 5]) (N:=["_law_spot_here","_law_spots","_law_last"]) (CompScope.by (aB cG) ["_law_rows","_law_came","_law_life","_law_turn","_law_spots","_law_last","_law_row","_law_there","_law_numbers"] rfl rfl Zk) (aO rfl) (R.jp (R.v 5)) (fun C s₂ H₂ fp=>⟨(R.gn (i:=0) (show(["_law_spot_here","_law_spots","_law_last"]:List Str).Nodup by decide +kernel)),(R.az (R.al (R.el hu64) (R.v 0) (R.v 1))),(R.ai (R.U (R.ix (R.af (K:=K)) (R.be hu1 (R.v 2) (R.v 0)) R.ab) (R.U (R.be hu1 (R.v 2) (R.v 0)) R.ac)))⟩))) R.ac))) (R.ag (R.ao (R.ay rfl (js:=[none,some 2,some 3,some 8]) (N:=["_law_number","_law_life","_law_turn","_law_numbers"]) (CompScope.by (aB cG) ["_law_rows","_law_came","_law_life","_law_turn","_law_spots","_law_last","_law_row","_law_there","_law_numbers"] rfl rfl Zk) (aO rfl) (R.aw (K:=K) (R.ax (R.ic rfl) rfl T.b_sorted gM (R.U (R.v 8) R.ac))) (fun C s₂ H₂ fp=>⟨(R.gn (i:=0) (show(["_law_number","_law_life","_law_turn","_law_numbers"]:List Str).Nodup by decide +kernel)),(R.az (R.al R.gt (R.op R.ap (R.ix (R.af (K:=K)) (R.be hu1 (R.v 3) (R.v 0)) R.ab) (R.v 1)) (R.v 2))),(R.be hu1 (R.v 3) (R.v 0))⟩))))))),?_⟩
  intro dt hdt;dsimp only [aJ];have s1:=aD (o:=.dT []) hdt
  have g1:(aI H dt (.dT [])) dt=some (.dT []):=aA
  generalize aI H dt (.dT [])=H1 at s1 g1;refine bE (fun σ' H'=>∃(kvs:List (List aW × V)) (o6 o7:Option V),σ'=[some (.ref ra),some (.ref cd),some (.int (life:Int)),some (.int (turn:Int)),some (.ref sl),some (.ref dt),o6,o7,none]/\H' dt=some (.dT kvs)/\LastD (AK H') (dX rs) kvs/\Same H H') (fun nx hnx=>?_) ?_
  ·refine⟨ra,rfl,⟨_,SqL.of (s1 _ _ RR.lst)⟩,cC (aR K ra (as.map V.ref)) (fun i σ' H'=>∃(kvs:List (List aW × V)) (o6 o7:Option V),σ'=[some (.ref ra),some (.ref cd),some (.int (life:Int)),some (.int (turn:Int)),some (.ref sl),some (.ref dt),o6,o7,none]/\H' dt=some (.dT kvs)/\LastD (AK H') ((rs.take i).flatMap (jL rs)) kvs/\Same H H') (fun i σ' H' ⟨_,_,_,_,_,_,s'⟩=>SqL.of (s' _ _ RR.lst)) ⟨[],_,_,rfl,g1,LastD.nil _,s1⟩ ?_ ?_⟩
   ·rintro i x σ' H2 hx ⟨kvs,o6,o7,rfl,g2,L2,s2⟩
    obtain⟨a,r,rfl,ha,hrr,hat⟩:=(RR.same s2).get hx
    have hil:i<rs.length:=(Zgs.mp hrr).1
    obtain⟨xs,g,x0,x1,x2⟩:=dW hat
    have etk:=aM hrr
    have hlen:∀ {l:List E6} {kvs:List (List aW × V)} {A:E6->Addr->Prop},LastD A l kvs->l.length<=2*rs.length->kvs.length<sizeLine:=fun L hl=>kI (m:=1000) (by have:=L.len;omega) Zd
    have hb6:((rs.take i).flatMap (jL rs)).length<=2*i:=by
     have:∀xs:List RX,(xs.flatMap (jL rs)).length<=2*xs.length:=fun xs=>by
      induction xs with
      | nil=>exact Nat.zero_le _
      | cons x xs ih=>
       have h1:=qC x
       have h2:=Ie rs x
       rw[List.flatMap_cons,iK,nZ];unfold jL;rw[iK];unfold jL at ih;omega
     have:=this (rs.take i)
     rw[nQ]at this;omega
    dsimp only [aJ];refine bE (fun σ' H'=>∃(kvs:List (List aW × V)),σ'=[some (.ref ra),some (.ref cd),some (.int (life:Int)),some (.int (turn:Int)),some (.ref sl),some (.ref dt),some (.ref a),o7,none]/\H' dt=some (.dT kvs)/\LastD (AK H') ((rs.take i).flatMap (jL rs)++fT r) kvs/\Same H H') (fun nx' hnx'=>?_) ?_
    ·refine⟨_,SqT.of g,_,x0,?_⟩
     show if decide (bQ r="kept")=true then _ else _
     refine bP (fun h=>?_) (fun h=>hnx' _ _ ⟨kvs,rfl,g2,by rw[pZ (of_decide_eq_false h),List.append_nil];exact L2,s2⟩)
     obtain⟨n,t,p,k,x,y,rfl⟩:=tW (of_decide_eq_true h)
     obtain⟨b1,c1,gx,gx2,gx3⟩:=hat
     refine⟨_,gx,fun tp H3 s3 g3=>⟨dt,_,rfl,DPut.t (k:=iP (p,k)) (s3 _ _ g2) g3 (hlen L2 Zo),?_⟩⟩
     have tk:TK H2 (aI H3 dt (.dT (bR kvs (iP (p,k)) (.ref a)))):=fun a xs e=>sA (s3 _ _ g2) _ _ (s3 _ _ e)
     exact hnx' _ _ ⟨_,rfl,aA,LastD.put (e:=(n,t,p,k,x,y)) (L2.mono fun _ _ z=>z.tk tk) ⟨b1,c1,tk _ _ gx,tk _ _ gx2,tk _ _ gx3⟩,bV hdt (s2.trans s3)⟩
    rintro σ' H3 ⟨kvs3,rfl,g3,L3,s3⟩
    obtain⟨a',r',e0,ha',hrr',hat3⟩:=(RR.same s3).get (i:=i) (v:=.ref a) (by rw[dR,ha];rfl)
    injection e0 with e0
    subst e0;rw[hrr]at hrr';injection hrr' with e0
    subst e0;obtain⟨xs',g',x0',x1',x2'⟩:=dW hat3
    have hk1:=qC r
    refine⟨_,SqT.of g',_,x0',?_⟩
    show if decide (bQ r="done")=true then _ else _
    refine bP (fun h=>?_) (fun h=>?_)
    ·obtain⟨n,t,y,rfl⟩:=jV (of_decide_eq_true h)
     obtain⟨c1,gx,gx2⟩:=hat3
     obtain⟨t0,p,k,x,hcm,_⟩:=eJ hw (jM hrr)
     obtain⟨ca,cb,ct,hv,gca,gcb⟩:=gB hw (RR.same s3) hcm
     have dg':DGet H3 cd (.int (n:Int)) (some (.ref ca)):=by rw[<- hv];exact DGet.k (k:=Sum.inl (n:Int)) (s3 _ _ gcd)
     refine⟨_,SqT.of gx,_,rfl,cd,_,rfl,dg',?_⟩
     dsimp only [aJ];refine⟨_,SqT.of gx,_,rfl,_,SqT.of gx,_,rfl,aP rfl,fun t1 Ha sa ga=>⟨_,sa _ _ gca,fun t2 Hb sb gb=>⟨_,_,sb _ _ ga,gb,Nat.le_of_ble_eq_true rfl,fun t3 Hc sc gc=>?_⟩⟩⟩
     have sac:=(sa.trans sb).trans sc
     refine⟨_,SqT.of (sac _ _ gx),_,rfl,aP rfl,fun t4 Hd sd gd=>⟨_,_,sd _ _ gc,gd,Nat.le_of_ble_eq_true rfl,fun t5 He se ge=>?_⟩⟩
     have sae:=(sac.trans sd).trans se
     refine⟨_,sae _ _ gca,fun t6 Hf sf gf=>⟨dt,_,rfl,DPut.t (k:=iP (p,k)) (sf _ _ (sae _ _ g3)) gf (hlen L3 (by rw[iK];omega)),?_⟩⟩
     have saf:=sae.trans sf
     have tk:TK H3 (aI Hf dt (.dT (bR kvs3 (iP (p,k)) (.ref t5)))):=fun a xs e=>sA (saf _ _ g3) _ _ (saf _ _ e)
     refine⟨_,_,_,rfl,aA,?_,bV hdt (s3.trans saf)⟩
     rw[etk,bH];unfold jL at L3 ⊢
     rw[qB hw hcm,<- List.append_assoc];exact LastD.put (e:=(n,t,p,k,x,y)) (L3.mono fun _ _ z=>z.tk tk) ⟨cb,c1,sA (saf _ _ g3) _ _ (sf _ _ ge),tk _ _ gcb,tk _ _ gx2⟩
    ·refine⟨kvs3,_,_,rfl,g3,?_,s3⟩
     rw[etk,bH];unfold jL at L3 ⊢
     rw[qA (of_decide_eq_false h),List.append_nil];exact L3
   ·rintro σ' H2 ⟨kvs,o6,o7,rfl,g2,L2,s2⟩
    rw[aQ,<- le,gH (aV _),Mu hw]at L2;exact hnx _ _ ⟨kvs,o6,o7,rfl,g2,L2,s2⟩
  rintro σ' H2 ⟨kvs,o6,o7,rfl,g2,L2,s2⟩
  obtain⟨es,pe,nde,iffe⟩:=L2.list
  have lee:=pe.length
  have lkv:=L2.len
  have hel:∀q∈es,q.1∈dX rs:=fun q hq=>by
   obtain⟨kv,_,h⟩:=Oi pe hq
   exact(nD h.2.2.2).1
  have hen:(es.map fun q=>(q.1.1:Int)).Nodup:=by
   refine List.pairwise_map.mpr ?_
   refine(List.pairwise_map.mp nde).imp_of_mem fun {a b} ha hb hne e=>hne ?_
   rw[uC (f:=fun x:E6=>x.1) (wA hw) (hel a ha) (hel b hb) Zo]
  generalize hfl:(es.filter fun q=>!decide (aU q.1∈sp))=fl
  have hfn:(fl.map fun q=>(q.1.1:Int)).Nodup:=by
   rw[<- hfl];exact List.Nodup.sublist (List.Sublist.map _ List.filter_sublist) hen
  have hfe:∀q,q∈fl↔q∈es/\aU q.1∉sp:=fun q=>by
   rw[<- hfl,List.mem_filter];simp
  have lfl:fl.length<=es.length:=by rw[<- hfl];exact List.length_filter_le _ _
  have hfa:∀q∈fl,AK H2 q.1 q.2:=fun q hq=>by
   obtain⟨kv,_,h⟩:=Oi pe ((hfe q).mp hq).1
   exact h.2.2.1
  have nke:((fl.map fun q=>((Sum.inl (q.1.1:Int):aW),V.ref q.2)).map (·.1)).Nodup:=by
   rw[List.map_map];exact List.pairwise_map.mpr ((List.pairwise_map.mp hfn).imp fun {a b} hab e=>hab (by injection e))
  refine bE (fun σ' H'=>∃(nd:Addr),σ'=[some (.ref ra),some (.ref cd),some (.int (life:Int)),some (.int (turn:Int)),some (.ref sl),some (.ref dt),o6,o7,some (.ref nd)]/\H' nd=some (.dK (fl.map fun q=>((Sum.inl (q.1.1:Int):aW),V.ref q.2)))/\Same H2 H') (fun nx hnx=>?_) ?_
  ·refine⟨_,g2,fun o bs hb1 hb2=>?_⟩
   have tkF:TK H2 (aI H2 dt (.frz o (.dT kvs))):=sA g2
   have gF:(aI H2 dt (.frz o (.dT kvs))) dt=some (.frz o (.dT kvs)):=aA
   have nsd:sl≠dt:=aF gsl hdt
   have gslF:(aI H2 dt (.frz o (.dT kvs))) sl=some (.lst (ss.map V.ref)):=by rw[aE nsd];exact s2 _ _ gsl
   have pspF:Paired (SpA (aI H2 dt (.frz o (.dT kvs)))) sp ss:=SpA.all tkF (SpA.all (Same.tk s2) psp)
   refine aS (Rw dt o kvs bs) (by rw[aQ];omega) (fun j ys H'=>∃zs:List W,ys=zs.map (fun z=>V.ref z.1)/\Lm H' zs/\zs.map (·.2)=(((es.take j).filter fun q=>!decide (aU q.1∈sp)).map fun q=>((Sum.inl (q.1.1:Int):aW),V.ref q.2))/\Same (aI H2 dt (.frz o (.dT kvs))) H'/\zs.length<=j) (fun j ys H' ⟨zs,e,_,_,s',l'⟩=>⟨s' _ _ gF,by rw[e,aQ];exact l'⟩) ⟨[],rfl,(fun _ h=>nomatch h),rfl,(fun _ _ e=>e),aV _⟩ (fun j x ys H' hx ⟨zs,e,hwt,ez,s',l'⟩=>?_) (fun ys H' ⟨zs,e,hwt,ez,s',l'⟩=>?_)
   ·rw[dR]at hx;cases hbj:bs[j]? with
    | none=>rw[hbj]at hx;cases hx
    | some b=>
     rw[hbj]at hx;cases hx
     obtain⟨kv,hkv,gb⟩:=hb2 j b hbj
     obtain⟨hj,ej⟩:=Zgs.mp hkv
     have hj2:j<es.length:=by omega
     obtain⟨hj',hp⟩:=Paired.get' (j:=j) pe hj2
     rw[ej]at hp;have hqj:es[j]?=some es[j]:=fB hj2
     generalize es[j]=q0 at hp hqj;obtain⟨h1,h2,h3,h4⟩:=hp
     have hmem:(iP (aU q0.1),V.ref q0.2)∈kvs:=by
      have:=jM hkv
      rw[<- h1,<- h2];exact this
     rw[h1]at gb;have gb':H' b=some (.tup [.str (aU q0.1).1,.str (aU q0.1).2]):=s' _ _ (tkF _ _ gb)
     have etk:=aM hqj
     dsimp only [aJ];obtain⟨zl,z1,z2,z3⟩:=qF (SpA.all (Same.tk s') pspF)
     refine⟨_,zl,gb',by rw[s' _ _ gslF,<- z1,List.map_map];rfl,fun z hz=>⟨z2 z hz,(z3 (aU q0.1)).2 z hz⟩,?_⟩
     show if (!nW [.str (aU q0.1).1,.str (aU q0.1).2] zl)=true then _ else _
     rw[(z3 (aU q0.1)).1];refine bP (fun h=>?_) (fun h=>?_)
     ·have dgd:DGet H' dt (.ref b) (some (.ref q0.2)):=.inr ⟨kvs,iP (aU q0.1),b,.inr ⟨o,s' _ _ gF⟩,rfl,gb',(Ix L2.nd hmem).symm⟩
      obtain⟨b1,c1,gx,gx2,gx3⟩:=h3.tk (fun a xs e=>s' _ _ (tkF _ _ e):TK H2 H')
      refine⟨dt,_,rfl,dgd,_,SqT.of gx,_,rfl,dt,_,rfl,dgd,aP rfl,fun tp Ha sa ga=>⟨zs++[(tp,(Sum.inl (q0.1.1:Int),.ref q0.2))],by rw[e,cS];rfl,fun y hy=>?_,?_,s'.trans sa,by simp;omega⟩⟩
      ·rcases aH hy with hy | rfl
       ·exact sa _ _ (hwt y hy)
       ·exact ga
      ·rw[cS,ez,etk,List.filter_append,List.filter_cons,if_pos h,cS];rfl
     ·refine⟨zs,e,hwt,?_,s',Zo⟩
      rw[ez,etk,List.filter_append,List.filter_cons,if_neg (by rw[h];exact Bool.false_ne_true)];simp
   ·intro p hp;have gF':=s' _ _ gF
    have ndp:dt≠p:=aF gF' hp
    rw[aQ]at l';rw[aQ,show bs.length=es.length by omega,gH (aV _),hfl]at ez
    refine⟨dt,_,o,⟨_,g2⟩,aL gF' hp,?_⟩
    have s4:Same H2 (aI (aI H' p (.lst ys)) dt (.dT kvs)):=fun c x e=>by
     by_cases z:c=dt
     ·subst z;rw[g2]at e;cases e;exact aA
     ·rw[aE z];exact aL (s' _ _ (by rw[aE z];exact e)) hp
    have gp:(aI (aI H' p (.lst ys)) dt (.dT kvs)) p=some (.lst (zs.map fun z=>V.ref z.1)):=by rw[aE ndp.symm,aA,e]
    have hw4:Lm (aI (aI H' p (.lst ys)) dt (.dT kvs)) zs:=fun z hz=>by
     have:=hwt z hz
     rw[aE (dI this gF' (fun z=>nomatch z))];exact aL this hp
    generalize aI (aI H' p (.lst ys)) dt (.dT kvs)=H4 at s4 gp hw4;refine⟨zs,SqL.of gp,hw4,Zo,fun nd hnd=>?_⟩
    refine hnx _ _ ⟨nd,rfl,?_,s4.trans (aD hnd)⟩
    rw[aA,ez,jR _ _ nke (fun _ _=>rfl)];rfl
  rintro σ' H3 ⟨nd,rfl,gnd,s3⟩
  refine⟨fl.map fun q=>(q.1.1:Int),_,.inl gnd,by rw[List.map_map,List.map_map];rfl,by rw[aQ];omega,fun l ns' hl2 hperm hsort=>⟨l,rfl,⟨_,SqL.of aA⟩,?_⟩⟩
  obtain⟨out,ho1,ho2,ho3⟩:=Iy hfn hperm hsort
  have s4:=aD (o:=.lst (ns'.map V.int)) hl2
  have g4:(aI H3 l (.lst (ns'.map V.int))) l=some (.lst (ns'.map V.int)):=aA
  generalize aI H3 l (.lst (ns'.map V.int))=H4 at s4 g4;have lout:out.length=fl.length:=ho1.length_eq
  have lns:ns'.length=out.length:=by rw[<- ho2,aQ]
  refine aS (aR K l (ns'.map V.int)) (by rw[aQ];omega) (fun i ys H'=>H'=H4/\ys=((out.take i).filter fun q=>decide ((turn:Int)<(q.1.2.1:Int)+(life:Int))).map fun q=>V.ref q.2) (fun i ys H' ⟨e0,e⟩=>⟨by rw[e0];exact SqL.of g4,by rw[e,aQ];exact eK (List.length_filter_le _ _) (by rw[nQ];omega)⟩) ⟨rfl,rfl⟩ (fun i x ys H' hx ⟨e0,e⟩=>?_) (fun ys H' ⟨e0,e⟩=>?_)
  ·subst e0;rw[dR,<- ho2,dR]at hx;cases hoi:out[i]? with
   | none=>rw[hoi]at hx;cases hx
   | some q0=>
    rw[hoi]at hx;cases hx
    have hq0:q0∈fl:=ho1.mem_iff.mp (jM hoi)
    obtain⟨b1,c1,gx,gx2,gx3⟩:=(hfa q0 hq0).tk (Same.tk (s3.trans s4))
    have dgn:DGet H' nd (.int (q0.1.1:Int)) (some (.ref q0.2)):=by
     have:=DGet.k (k:=Sum.inl (q0.1.1:Int)) (s4 _ _ gnd)
     rw[Ix nke (Zmm.mpr ⟨q0,hq0,rfl⟩)]at this;exact this
    have etk:=aM hoi
    dsimp only [aJ];refine⟨nd,_,rfl,dgn,_,SqT.of gx,_,rfl,?_⟩
    show if decide ((turn:Int)<(q0.1.2.1:Int)+(life:Int))=true then _ else _
    refine bP (fun h=>?_) (fun h=>?_)
    ·refine⟨nd,_,rfl,dgn,rfl,?_⟩
     rw[etk,List.filter_append,List.filter_cons,if_pos h,cS,e];rfl
    ·refine⟨rfl,?_⟩
     rw[etk,List.filter_append,List.filter_cons,if_neg (by rw[h];exact Bool.false_ne_true),e];simp
  ·intro p hp;subst e0;rw[aQ,lns,gH (aV _)]at e;generalize hgl:(out.filter fun q=>decide ((turn:Int)<(q.1.2.1:Int)+(life:Int)))=gl at e
   have hgm:∀q,q∈gl↔q∈fl/\turn<q.1.2.1+life:=fun q=>by
    rw[<- hgl,List.mem_filter,ho1.mem_iff,decide_eq_true_iff];exact⟨fun⟨a,b⟩=>⟨a,Zo⟩,fun⟨a,b⟩=>⟨a,Zo⟩⟩
   have sH:=s3.trans (s4.trans (aD (o:=.lst ys) hp))
   refine q p (gl.map (·.1)) (gl.map (·.2)) _ (s2.free (s3.free (s4.free hp))) ⟨by rw[aA,e,List.map_map];rfl,?_⟩ ?_ ?_ (fun e0=>⟨fun hm=>?_,fun⟨⟨h1,h2⟩,h3⟩=>?_⟩) (s2.trans sH)
   ·have:∀ {o:List (E6 × Addr)},(∀q∈o,q∈fl)->Paired (fun r a=>RX.At (aI H' p (.lst ys)) a r) ((o.map (·.1)).map gS) (o.map (·.2)):=fun {o} ho=>by
     induction o with
     | nil=>exact .nil
     | cons x o ih=>exact .cons ((hfa x (ho x iM)).tk (Same.tk sH)) (ih fun q hq=>ho q (kD _ hq))
    exact this fun q hq=>((hgm q).mp hq).1
   ·rw[aQ,<- hgl];exact eK (List.length_filter_le _ _) Zo
   ·rw[<- hgl];exact List.Pairwise.sublist (List.Sublist.map _ List.filter_sublist) ho3
   ·obtain⟨q0,hq0,rfl⟩:=Zmm.mp hm
    obtain⟨h1,h2⟩:=(hgm q0).mp hq0
    obtain⟨h3,h4⟩:=(hfe q0).mp h1
    exact⟨⟨(iffe _).mp (Zmm.mpr ⟨q0,h3,rfl⟩),h2⟩,h4⟩
   ·obtain⟨q0,hq0,rfl⟩:=Zmm.mp ((iffe e0).mpr h1)
    exact Zmm.mpr ⟨q0,(hgm q0).mpr ⟨(hfe q0).mpr ⟨hq0,h3⟩,h2⟩,rfl⟩
end
end KL
namespace KL
open PySem L2
section
variable {P:Program} {w:World} {K:W.Frag} {mg:Str->Option Value} {base:Heap}
theorem Cc {xs ys:List V} (h:xs.length≠ys.length):eT xs ys=false:=by
 unfold eT;rw[show(xs.length == ys.length)=false from beq_eq_false_iff_ne.mpr h,Bool.and_false]
theorem wE (m n:Nat):eT [.str "asked",.int (m:Int)] [.str "asked",.int (n:Int)]=decide ((Sum.inl (m:Int):aW)=Sum.inl (n:Int)):=by
 have:eT [.str "asked",.int (m:Int)] [.str "asked",.int (n:Int)]=((("asked":Str) == "asked")&&(((m:Int) == (n:Int))&&true)&&true):=rfl
 rw[this,beq_self_eq_true,Bool.and_true,Bool.true_and,Bool.and_true];by_cases h:(m:Int)=(n:Int)
 ·rw[h];simp
 ·rw[beq_eq_false_iff_ne.mpr h];exact(decide_eq_false fun e=>h (by injection e)).symm
theorem sF {xs:List V} {u:Str} {k:aW} {n:Int} (h0:xs[0]?=some (.str u)) (h1:xs[1]?=some (kV k)):eU xs [.str "asked",.int n]:=by
 intro j a b ha hb;match j,ha,hb with
 | 0,ha,hb=>rw[h0]at ha;cases ha;cases hb;exact⟨rfl,rfl⟩
 | 1,ha,hb=>rw[h1]at ha;cases ha;cases hb;cases k <;> exact⟨rfl,rfl⟩
 | j+2,_,hb=>cases hb
theorem Vt {H:Hp} {a:Addr} {r:RX} (h:r.At H a) (n:Nat):∃xs,H a=some (.tup xs)/\eU xs [.str "asked",.int (n:Int)]/\eT xs [.str "asked",.int (n:Int)]=(decide (bQ r="asked")&&decide (gA r=Sum.inl (n:Int))):=by
 have no:∀ {xs:List V} {c:Bool},xs.length≠2->bQ r≠"asked"->eT xs [.str "asked",.int (n:Int)]=(decide (bQ r="asked")&&c):=fun {xs c} h1 h2=>by rw[Cc h1,decide_eq_false h2,Bool.false_and]
 cases r with
 | next m t=>exact⟨_,h,sF (k:=Sum.inl (m:Int)) rfl rfl,no Zs (show("next":Str)≠"asked" by decide +kernel)⟩
 | has z m=>exact⟨_,h,sF (k:=Sum.inr z) rfl rfl,no Zs (show("has":Str)≠"asked" by decide +kernel)⟩
 | kept m t p k x y=>obtain⟨b,c,h1,h2,h3⟩:=h;exact⟨_,h1,sF (k:=Sum.inl (m:Int)) rfl rfl,no Zs (show("kept":Str)≠"asked" by decide +kernel)⟩
 | came m t p k x=>obtain⟨b,h1,h2⟩:=h;exact⟨_,h1,sF (k:=Sum.inl (m:Int)) rfl rfl,no Zs (show("came":Str)≠"asked" by decide +kernel)⟩
 | done m t y=>obtain⟨b,h1,h2⟩:=h;exact⟨_,h1,sF (k:=Sum.inl (m:Int)) rfl rfl,no Zs (show("done":Str)≠"asked" by decide +kernel)⟩
 | asked m=>exact⟨_,h,sF (k:=Sum.inl (m:Int)) rfl rfl,by rw[wE,decide_eq_true (show bQ (.asked m)="asked" from rfl),Bool.true_and];rfl⟩
theorem xZ {H:Hp} (n:Nat) {rs:List RX} {as:List Addr} (p:Paired (fun r a=>RX.At H a r) rs as):∃zs:List (Addr × List V),zs.map (·.1)=as/\(∀z∈zs,H z.1=some (.tup z.2)/\eU z.2 [.str "asked",.int (n:Int)])/\nW [.str "asked",.int (n:Int)] zs=kC "asked" rs (Sum.inl (n:Int)):=by
 induction p with
 | nil=>exact⟨[],rfl,(fun _ h=>nomatch h),rfl⟩
 | @cons r a rs as h t ih=>
  obtain⟨zs,h1,h2,h3⟩:=ih
  obtain⟨xs,e1,e2,e3⟩:=Vt h n
  refine⟨(a,xs)::zs,by rw[List.map_cons,h1],fun z hz=>?_,?_⟩
  ·rcases List.mem_cons.mp hz with rfl | hz
   ·exact⟨e1,e2⟩
   ·exact h2 z hz
  ·unfold nW kC at h3 ⊢
   rw[List.any_cons,List.any_cons,h3,e3]
theorem Ja (T:Txt K mg) (cLbook:aG P w K mg base 3 "_law_book" ["_law_rows","_law_came"] zX) (cLanswers:aG P w K mg base 1 "_law_answers" ["_law_rows","_law_came","_law_life","_law_turn","_law_spots"] Iz)
  (D:DefAt K mg "_law_due" dF ["_law_rows","_law_life","_law_turn","_law_numbers"]):aG P w K mg base 4 "_law_due" ["_law_rows","_law_life","_law_turn","_law_numbers"] lY:=by
 refine D.go eC (fun vs H Q E h=>?_) (fun f cdv A outer s H vs Q E hr h=>?_)
 ·obtain⟨ra,nl,rs,as,F,f,life,turn,ns,rfl,_⟩:=h;rfl
 ·obtain⟨ra,nl,rs,as,F,ff,life,turn,ns,rfl,RR,hl,hct,hk43,hw,hok,hF,gn,hin,hnl,q⟩:=h
  have hLbook:Room 3 _:=hr
  have hLanswers:Room 1 _:=hr.mono Zd
  have hu1:=dU hr
  have hu64:=hr.units
  have le:=RR.len
  have cle:(bM rs).length<=rs.length:=List.length_filterMap_le _ _
  have nle:(bJ rs).length<=rs.length:=List.length_filterMap_le _ _
  refine⟨_,(R.ad (R.ah (i:=4) eC.nd (R.bg (R.db (K:=K) rfl) rfl T.b_dict lF (R.U (R.ay rfl (js:=[none]) (N:=["_law_row"]) (CompScope.by (aB dF) ["_law_rows","_law_life","_law_turn","_law_numbers","_law_came","_law_number","_law_found","_law_one"] rfl rfl Zk) (aO rfl) (R.aw (K:=K) (R.v 0)) (fun C s₂ H₂ fp=>⟨(R.gn (i:=0) (show(["_law_row"]:List Str).Nodup by decide +kernel)),(R.az (R.al R.eq (R.ix (R.af (K:=K)) (R.v 0) R.ab) R.ae)),(R.ai (R.U (R.ix (R.af (K:=K)) (R.v 0) R.ab) (R.U (R.v 0) R.ac)))⟩)) R.ac))) (R.ad (R.ah (i:=5) eC.nd (R.ax (R.cz (K:=K) rfl) rfl T.b_max kL (R.U (R.op R.bd (R.op R.bd (R.au (R.U R.ab R.ac)) (R.ay rfl (js:=[none]) (N:=["_law_row"]) (CompScope.by (aB dF) ["_law_rows","_law_life","_law_turn","_law_numbers","_law_came","_law_number","_law_found","_law_one"] rfl rfl Zk) (aO rfl) (R.aw (K:=K) (R.v 0)) (fun C s₂ H₂ fp=>⟨(R.gn (i:=0) (show(["_law_row"]:List Str).Nodup by decide +kernel)),(R.az (R.al R.eq (R.ix (R.af (K:=K)) (R.v 0) R.ab) R.ae)),(R.ix (R.af (K:=K)) (R.v 0) R.ab)⟩))) (R.iz (R.ay rfl (js:=[none]) (N:=["_law_there"]) (CompScope.by (aB dF) ["_law_rows","_law_life","_law_turn","_law_numbers","_law_came","_law_number","_law_found","_law_one"] rfl rfl Zk) (aO rfl) (R.wD (R.v 4)) (fun C s₂ H₂ fp=>⟨(R.gn (i:=0) (show(["_law_there"]:List Str).Nodup by decide +kernel)),R.bt,(R.op R.ap (R.v 0) R.ab)⟩)))) R.ac))) (R.ad (R.ah (i:=6) eC.nd (R.op R.bd (R.au (R.U (R.ai (R.U R.ae (R.U (R.v 5) (R.U (R.v 2) R.ac)))) R.ac)) (R.fn cLbook hLbook rfl (R.U (R.v 0) (R.U (R.v 4) R.ac))))) (R.ad (R.ah (i:=6) eC.nd (R.op R.bd (R.v 6) (R.fn cLanswers hLanswers rfl (R.U (R.v 0) (R.U (R.v 4) (R.U (R.v 1) (R.U (R.v 2) (R.U (R.ay rfl (js:=[none,some 4]) (N:=["_law_one","_law_came"]) (CompScope.by (aB dF) ["_law_rows","_law_life","_law_turn","_law_numbers","_law_came","_law_number","_law_found","_law_one"] rfl rfl Zk) (aO rfl) (R.aw (K:=K) (R.v 3)) (fun C s₂ H₂ fp=>⟨(R.gn (i:=0) (show(["_law_one","_law_came"]:List Str).Nodup by decide +kernel)),R.bt,(R.sl R.sT (R.be hu1 (R.v 1) (R.v 0)) (R.ps R.ab) (R.ps R.ab))⟩)) R.ac)))))))) (R.ad (R.bh PassesOwn.never rfl (R.aw (K:=K) (R.v 3)) (R.gn (i:=7) eC.nd) (R.ad (R.bc (R.bb (K:=K) PySem.F.plainAttrs_list PySem.F.slot_list_append PySem.F.type_list_append R.bn (R.v 6) (R.U (R.op R.bj (R.ai (R.U R.ae (R.U (R.v 7) (R.U (R.v 2) R.ac)))) (R.sl R.sT (R.be hu1 (R.v 4) (R.v 7)) (R.ps R.ab) R.pn)) R.ac))) (R.ag (R.ar (R.al (R.ig hu64) (R.ai (R.U R.ae (R.U (R.v 7) R.ac))) (R.v 0)) (R.ag (R.bc (R.bb (K:=K) PySem.F.plainAttrs_list PySem.F.slot_list_append PySem.F.type_list_append R.bn (R.v 6) (R.U (R.ai (R.U R.ae (R.U (R.v 7) R.ac))) R.ac)))) R.av)))) (R.ag (R.ao (R.v 6)))))))),?_⟩
  refine bE (fun σ' H'=>∃(cd:Addr),σ'=[some (.ref ra),some (.int (life:Int)),some (.int (turn:Int)),some (.ref nl),some (.ref cd),none,none,none]/\H' cd=some (.dK (aK [] (aZ "came" rs as rs.length)))/\Same H H') (fun nx hnx=>?_) ?_
  ·refine⟨ra,rfl,⟨_,SqL.of RR.lst⟩,?_⟩
   refine aS (aR K ra (as.map V.ref)) (by rw[aQ];omega) (fun i ys H'=>∃zs:List W,ys=zs.map (fun z=>V.ref z.1)/\Lm H' zs/\zs.map (·.2)=aZ "came" rs as i/\Same H H'/\zs.length<=i) (fun i ys H' ⟨zs,e,_,_,s',l'⟩=>⟨SqL.of (s' _ _ RR.lst),by rw[e,aQ];exact l'⟩) ⟨[],rfl,(fun _ h=>nomatch h),rfl,(fun _ _ e=>e),aV _⟩ (fun i x ys H' hx ⟨zs,e,hwt,ez,s',l'⟩=>?_) (fun ys H' ⟨zs,e,hwt,ez,s',l'⟩=>?_)
   ·obtain⟨a,r,rfl,ha,hrr,hat⟩:=(RR.same s').get hx
    obtain⟨xs,g,x0,x1,x2⟩:=dW hat
    dsimp only [aJ];refine⟨_,SqT.of g,_,x0,?_⟩
    show if decide (bQ r="came")=true then _ else _
    refine bP (fun h=>?_) (fun h=>?_)
    ·refine⟨_,SqT.of g,_,x1,aP rfl,fun tp H2 s2 g2=>⟨zs++[(tp,(gA r,.ref a))],by rw[e,cS];rfl,fun y hy=>?_,?_,s'.trans s2,by simp;omega⟩⟩
     ·rcases aH hy with hy | rfl
      ·exact s2 _ _ (hwt y hy)
      ·rw[Hv]at g2;exact g2
     ·rw[cS,ez,eI hrr ha];unfold fQ;rw[if_pos (of_decide_eq_true h)];rfl
    ·refine⟨zs,e,hwt,?_,s',Zo⟩
     rw[ez,eI hrr ha];unfold fQ;rw[if_neg (of_decide_eq_false h),List.append_nil]
   ·intro p hp;have gp:(aI H' p (.lst ys)) p=some (.lst (zs.map fun z=>V.ref z.1)):=by rw[aA,e]
    have sp:=aD (o:=.lst ys) hp
    generalize aI H' p (.lst ys)=H1 at gp sp;rw[aQ]at l' ez;rw[<- le]at ez;refine⟨zs,SqL.of gp,fun z hz'=>sp _ _ (hwt z hz'),Zo,fun cd hcd=>?_⟩
    exact hnx _ _ ⟨cd,rfl,by rw[aA,ez],(s'.trans sp).trans (aD hcd)⟩
  rintro σ' H1 ⟨cd,rfl,gcd,s1⟩
  have R1:=RR.same s1
  refine bE (fun σ' H'=>∃(m:Nat),σ'=[some (.ref ra),some (.int (life:Int)),some (.int (turn:Int)),some (.ref nl),some (.ref cd),some (.int (m:Int)),none,none]/\IsMax (jK rs) (m:Int)/\Same H1 H') (fun nx hnx=>?_) ?_
  ·refine⟨dE rfl,fun p1 hp1=>?_⟩
   have s9:=aD (o:=.lst [.int 1]) hp1
   have g1:(aI H1 p1 (.lst [.int 1])) p1=some (.lst [.int 1]):=aA
   generalize aI H1 p1 (.lst [.int 1])=H9 at s9 g1;refine⟨ra,rfl,⟨_,SqL.of (R1.same s9).lst⟩,rX (R1.same s9) Zo fun p2 hp2=>?_⟩
   refine⟨_,_,aL g1 hp2,aA,by unfold nI;rw[aQ];exact dJ (by simp;omega),fun p3 hp3=>?_⟩
   have sa:=((s9.trans (aD (o:=.lst (nI (bJ rs))) hp2)).trans (aD (o:=.lst ([.int 1]++nI (bJ rs))) hp3))
   have g3:(aI (aI H9 p2 (.lst (nI (bJ rs)))) p3 (.lst ([.int 1]++nI (bJ rs)))) p3=some (.lst (.int 1::nI (bJ rs))):=aA
   generalize aI (aI H9 p2 (.lst (nI (bJ rs)))) p3 (.lst ([.int 1]++nI (bJ rs)))=Ha at sa g3;have gcda:=sa _ _ gcd
   refine⟨_,gcda,fun o=>?_⟩
   have hk:(aK [] (aZ "came" rs as rs.length)).map (·.1)=(bM rs).map fun n:Nat=>(Sum.inl (n:Int):aW):=by
    rw[kT hw le,jY le _ (aV _),gH (aV _)]
   refine rZ aA hk Zo fun p4 hp4=>?_
   have gF:(aI Ha cd (.frz o (.dK (aK [] (aZ "came" rs as rs.length))))) cd=some (.frz o (.dK (aK [] (aZ "came" rs as rs.length)))):=aA
   have nc4:cd≠p4:=aF gF hp4
   refine⟨cd,_,o,⟨_,gcda⟩,aL gF hp4,?_⟩
   have sb:=nC gcda (aD (o:=.lst ((bM rs).map fun n:Nat=>V.int ((n:Int)+1))) hp4)
   have g4:(aI (aI (aI Ha cd (.frz o (.dK (aK [] (aZ "came" rs as rs.length))))) p4 (.lst ((bM rs).map fun n:Nat=>V.int ((n:Int)+1)))) cd (.dK (aK [] (aZ "came" rs as rs.length)))) p4=some (.lst ((bM rs).map fun n:Nat=>V.int ((n:Int)+1))):=by rw[aE nc4.symm];exact aA
   generalize aI (aI (aI Ha cd (.frz o (.dK (aK [] (aZ "came" rs as rs.length))))) p4 (.lst ((bM rs).map fun n:Nat=>V.int ((n:Int)+1)))) cd (.dK (aK [] (aZ "came" rs as rs.length)))=Hb at sb g4
   refine⟨_,_,sb _ _ g3,g4,by unfold nI;rw[aQ];exact dJ (by simp;omega),fun p5 hp5=>?_⟩
   refine⟨p5,jK rs,rfl,SqL.of (by rw[aA];unfold jK nI;simp [cS,List.map_map] <;> rfl),by unfold jK;simp,fun m1 hm1 hall1=>?_⟩
   have sc:=((sa.trans sb).trans (aD (o:=.lst ((.int 1::nI (bJ rs))++(bM rs).map fun n:Nat=>V.int ((n:Int)+1))) hp5))
   obtain⟨m,rfl⟩:=sC ⟨hm1,hall1⟩
   exact hnx _ _ ⟨m,rfl,⟨hm1,hall1⟩,sc⟩
  rintro σ' H2 ⟨m,rfl,hmx,s2⟩
  have s12:=s1.trans s2
  have R2:=RR.same s12
  have gcd2:=s2 _ _ gcd
  refine bE (fun σ' H'=>∃(fl:Addr) (hs:List Str) (os:List Addr),σ'=[some (.ref ra),some (.int (life:Int)),some (.int (turn:Int)),some (.ref nl),some (.ref cd),some (.int (m:Int)),some (.ref fl),none]/\RxsAt H' fl (.next m turn::hs.map fun z=>RX.has z (ff z)) os/\PosR ff hs/\hs.length<=43/\Same H2 H') (fun nx hnx=>?_) ?_
  ·refine⟨aP rfl,fun t1 Ha sa ga=>⟨dE rfl,fun p1 hp1=>?_⟩⟩
   have sb:=aD (o:=.lst [.ref t1]) hp1
   have g1:(aI Ha p1 (.lst [.ref t1])) p1=some (.lst [.ref t1]):=aA
   generalize aI Ha p1 (.lst [.ref t1])=Hb at sb g1;have sab:=sa.trans sb
   refine⟨ra,cd,rs,as,F,ff,rfl,R2.same sab,hl,hct,hw,hok,hF,sab _ _ gcd2,fun p hs os Hc fp RP pR lh sc=>?_⟩
   have lo:=RP.len
   rw[aQ]at lo;refine⟨_,_,sc _ _ g1,RP.lst,by rw[aQ];exact dJ (by simp;omega),fun p2 hp2=>?_⟩
   have sd:=aD (o:=.lst ([.ref t1]++os.map V.ref)) hp2
   exact hnx _ _ ⟨p2,hs,t1::os,rfl,⟨aA,.cons (sd _ _ (sc _ _ (sb _ _ ga))) (Paired.map' (fun _ _ w=>RX.At.tk (Same.tk sd) w) RP.each)⟩,pR,lh,(sab.trans sc).trans sd⟩
  rintro σ' H3 ⟨fl,hs,os3,rfl,R3,pR,lh,s3⟩
  have l3:=R3.len
  rw[nZ,aQ]at l3;have RR3:=R2.same s3
  refine bE (fun σ' H'=>∃(fl:Addr) (es:List E6) (os:List Addr),σ'=[some (.ref ra),some (.int (life:Int)),some (.int (turn:Int)),some (.ref nl),some (.ref cd),some (.int (m:Int)),some (.ref fl),none]/\H3 fl=none/\RxsAt H' fl (.next m turn::(hs.map (fun z=>RX.has z (ff z))++es.map gS)) os/\es.length<=43/\es.Pairwise (fun a b=>a.1<b.1)/\(∀e,e∈es↔(gP (dX rs) (aU e)=some e/\turn<e.2.1+life)/\aU e∉fA rs ns)/\Same H3 H') (fun nx hnx=>?_) ?_
  ·refine⟨nl,rfl,⟨_,SqL.of (s3 _ _ (s12 _ _ gn))⟩,?_⟩
   have gnl3:=s3 _ _ (s12 _ _ gn)
   refine aS (aR K nl (nI ns)) (by unfold nI;rw[aQ];omega) (fun i ys H'=>∃ss:List Addr,ys=ss.map V.ref/\Paired (SpA H') (fA rs (ns.take i)) ss/\Same H3 H'/\ss.length<=i) (fun i ys H' ⟨ss,e,_,s',l'⟩=>⟨SqL.of (s' _ _ gnl3),by rw[e,aQ];exact l'⟩) ⟨[],rfl,.nil,(fun _ _ e=>e),aV _⟩ (fun i x ys H' hx ⟨ss,e,pp,s',l'⟩=>?_) (fun ys H' ⟨ss,e,pp,s',l'⟩=>?_)
   ·unfold nI at hx;rw[dR]at hx;cases hni:ns[i]? with
    | none=>rw[hni]at hx;cases hx
    | some n=>
     rw[hni]at hx;cases hx
     obtain⟨t0,p,k,x,hcm⟩:=uD (hin n (jM hni))
     obtain⟨ca,cb,ct,hv,gca,gcb⟩:=gB hw (RR3.same s') hcm
     have dg':DGet H' cd (.int (n:Int)) (some (.ref ca)):=by rw[<- hv];exact DGet.k (k:=Sum.inl (n:Int)) (s' _ _ (s3 _ _ gcd2))
     dsimp only [aJ];refine⟨cd,_,rfl,dg',_,gca,fun t1 Ha sa ga=>⟨ss++[t1],by rw[e,cS];rfl,?_,s'.trans sa,by simp;omega⟩⟩
     have e1:fA rs (ns.take (i+1))=fA rs (ns.take i)++[(p,k)]:=by
      unfold fA;rw[aM hni,bH];unfold Io;rw[jX hw hcm]
     rw[e1];exact Paired.snoc (SpA.all (Same.tk sa) pp) ga
   ·intro sl hsl;rw[show(nI ns).length=ns.length by unfold nI;rw[aQ],gH (aV _)]at pp;have sb:=s'.trans (aD (o:=.lst ys) hsl)
    refine⟨ra,cd,sl,rs,as,ss,life,turn,fA rs ns,rfl,RR3.same sb,hl,hk43,hw,sb _ _ (s3 _ _ gcd2),by rw[aA,e],SpA.all (Same.tk (aD hsl)) pp,fun p es os Hc fp RP le' ha hi sc=>?_⟩
    have lo:=RP.len
    rw[aQ]at lo;have sbc:=sb.trans sc
    refine⟨_,_,(R3.same sbc).lst,RP.lst,by rw[aQ,aQ];exact dJ Zo,fun p2 hp2=>?_⟩
    have sd:=aD (o:=.lst (os3.map V.ref++os.map V.ref)) hp2
    refine hnx _ _ ⟨p2,es,os3++os,rfl,sbc.free hp2,⟨by rw[aA,cS],?_⟩,le',ha,hi,sbc.trans sd⟩
    have:=Paired.append' (Paired.map' (fun _ _ w=>RX.At.tk (Same.tk (sbc.trans sd)) w) R3.each) (Paired.map' (fun _ _ w=>RX.At.tk (Same.tk sd) w) RP.each)
    exact this
  rintro σ' H4 ⟨fl4,es,os4,rfl,ff4,R4,le4,he1,he2,s4⟩
  have l4:=R4.len
  rw[nZ,iK,aQ,aQ]at l4;have s34:=s3.trans s4
  have gcd4:=s4 _ _ (s3 _ _ gcd2)
  have gn4:=s4 _ _ (s3 _ _ (s12 _ _ gn))
  refine bE (fun σ' H'=>∃(os:List Addr) (o7:Option V),σ'=[some (.ref ra),some (.int (life:Int)),some (.int (turn:Int)),some (.ref nl),some (.ref cd),some (.int (m:Int)),some (.ref fl4),o7]/\RxsAt H' fl4 (.next m turn::(hs.map (fun z=>RX.has z (ff z))++(es.map gS++bS rs turn ns))) os/\Same H3 H') (fun nx hnx=>?_) ?_
  ·refine⟨nl,rfl,⟨_,SqL.of gn4⟩,cC (aR K nl (nI ns)) (fun i σ' H'=>∃(os:List Addr) (o7:Option V),σ'=[some (.ref ra),some (.int (life:Int)),some (.int (turn:Int)),some (.ref nl),some (.ref cd),some (.int (m:Int)),some (.ref fl4),o7]/\RxsAt H' fl4 (.next m turn::(hs.map (fun z=>RX.has z (ff z))++(es.map gS++bS rs turn (ns.take i)))) os/\Same H3 H') (fun i σ' H' ⟨_,_,_,_,s'⟩=>SqL.of (s' _ _ (s3 _ _ (s12 _ _ gn)))) ⟨os4,_,rfl,by rw[show bS rs turn (ns.take 0)=[] from rfl,List.append_nil];exact R4,s4⟩ ?_ ?_⟩
   ·rintro i x σ' H5 hx ⟨os,o7,rfl,R5,s5⟩
    unfold nI at hx;rw[dR]at hx;cases hni:ns[i]? with
    | none=>rw[hni]at hx;cases hx
    | some n=>
     rw[hni]at hx;cases hx
     obtain⟨t0,p,k,x,hcm⟩:=uD (hin n (jM hni))
     have RB:=RR3.same s5
     obtain⟨ca,cb,ct,hv,gca,gcb⟩:=gB hw RB hcm
     have hos:=R5.len
     have hol:=gR rs turn (ns.take i)
     have htk:(ns.take i).length<=ns.length:=by rw[nQ];exact Nat.min_le_right _ _
     rw[nZ,iK,iK,aQ,aQ]at hos;have gcd5:=s5 _ _ (s3 _ _ gcd2)
     dsimp only [aJ];have e1:bS rs turn (ns.take (i+1))=bS rs turn (ns.take i)++gG rs turn n:=by unfold bS;rw[aM hni,bH]
     have e2:gG rs turn n=.came n turn p k x::(if kC "asked" rs (Sum.inl (n:Int))=true then [.asked n] else []):=by unfold gG;rw[jX hw hcm]
     have e3:∀r,(.next m turn::(hs.map (fun z=>RX.has z (ff z))++(es.map gS++bS rs turn (ns.take i))))++r=.next m turn::(hs.map (fun z=>RX.has z (ff z))++(es.map gS++(bS rs turn (ns.take i)++r))):=fun r=>by simp
     have dg':∀H'',Same H5 H''->DGet H'' cd (.int (n:Int)) (some (.ref ca)):=fun H'' ss=>by rw[<- hv];exact DGet.k (k:=Sum.inl (n:Int)) (ss _ _ gcd5)
     refine bE (fun σ' H'=>∃(os:List Addr),σ'=[some (.ref ra),some (.int (life:Int)),some (.int (turn:Int)),some (.ref nl),some (.ref cd),some (.int (m:Int)),some (.ref fl4),some (.int (n:Int))]/\RxsAt H' fl4 (.next m turn::(hs.map (fun z=>RX.has z (ff z))++(es.map gS++(bS rs turn (ns.take i)++[.came n turn p k x])))) os/\Same H3 H') (fun nx' hnx'=>?_) ?_
     ·refine⟨.inl ⟨rfl,_,SqL.of R5.lst⟩,aP rfl,fun t1 Ha sa ga=>⟨cd,_,rfl,dg' Ha sa,_,sa _ _ gca,fun t2 Hb sb gb=>⟨_,_,sb _ _ ga,gb,Nat.le_of_ble_eq_true rfl,fun t3 Hc sc gc=>⟨fl4,_,_,rfl,rfl,sc _ _ (sb _ _ (sa _ _ R5.lst)),?_,?_⟩⟩⟩⟩
      ·rw[aQ];exact kI (m:=1000) Zo Zd
      have sac:=(sa.trans sb).trans sc
      have tk:TK Hc (aI Hc fl4 (.lst (os.map V.ref++[.ref t3]))):=dL (sac _ _ R5.lst)
      have:=R5.snoc (r:=.came n turn p k x) (fun a xs e=>tk _ _ (sac _ _ e)) ⟨cb,tk _ _ gc,tk _ _ (sac _ _ gcb)⟩ aA
      rw[e3]at this;exact hnx' _ _ ⟨os++[t3],rfl,this,bV ff4 (s5.trans sac)⟩
     rintro σ' H6 ⟨os6,rfl,R6,s6⟩
     have hos6:=R6.len
     rw[nZ,iK,iK,iK,aQ,aQ,List.length_singleton]at hos6;refine⟨aP rfl,fun t1 Ha sa ga=>?_⟩
     obtain⟨zl,z1,z2,z3⟩:=xZ n ((RR3.same s6).same sa).each
     refine⟨_,zl,ga,by rw[((RR3.same s6).same sa).lst,<- z1,List.map_map];rfl,z2,?_⟩
     show if nW [.str "asked",.int (n:Int)] zl=true then _ else _
     rw[z3];refine bP (fun h1=>?_) (fun h1=>?_)
     ·refine⟨.inl ⟨rfl,_,SqL.of (sa _ _ R6.lst)⟩,aP rfl,fun t2 Hb sb gb=>⟨fl4,_,_,rfl,rfl,sb _ _ (sa _ _ R6.lst),?_,?_⟩⟩
      ·rw[aQ];exact kI (m:=1000) Zo Zd
      have sab:=sa.trans sb
      have tk:TK Hb (aI Hb fl4 (.lst (os6.map V.ref++[.ref t2]))):=dL (sab _ _ R6.lst)
      refine⟨os6++[t2],_,rfl,?_,bV ff4 (s6.trans sab)⟩
      rw[e1,e2,if_pos h1];have:=R6.snoc (r:=.asked n) (fun a xs e=>tk _ _ (sab _ _ e)) (tk _ _ gb) aA
      simpa using this
     ·refine⟨os6,_,rfl,?_,s6.trans sa⟩
      rw[e1,e2,if_neg (by rw[h1];exact Bool.false_ne_true)]
      exact R6.same sa
   ·rintro σ' H5 ⟨os,o7,rfl,R5,s5⟩
    rw[show(nI ns).length=ns.length by unfold nI;rw[aQ],gH (aV _)]at R5
    exact hnx _ _ ⟨os,o7,rfl,R5,s5⟩
  rintro σ' H5 ⟨os,o7,rfl,R5,s5⟩
  exact q fl4 os _ H5 (s12.free (s3.free ff4)) R5 ⟨m,hs,es,hmx,pR,he1,he2,lh,le4,rfl⟩ ((s12.trans s3).trans s5)
end
end KL
namespace KL
open PySem L2
section
variable {P:Program} {w:World} {K:W.Frag} {mg:Str->Option Value} {base:Heap}
def Vu (xs:List V):TV:=.tp (xs.map TV.sc)
theorem jZ {H:Hp} {b:Addr} {xs:List V} (g:H b=some (.tup xs)) (hf:∀x∈xs,kM x=true):RepT H 1 (Vu xs) (.ref b):=by
 have:∀(ys:List V),(∀y∈ys,kM y=true)->Paired (RepT H 0) (ys.map TV.sc) ys:=fun ys h=>by
  induction ys with
  | nil=>exact .nil
  | cons y ys ih=>exact .cons ⟨rfl,h y iM⟩ (ih fun z hz=>h z (kD _ hz))
 exact⟨b,xs,rfl,g,this xs hf⟩
theorem zY (d:Dd):gT 1 (Vu d.vs):=by
 cases d <;> simp [Dd.vs,Vu,gT]
theorem zZ (y:An):gT 1 (Vu y.vs):=by
 cases y <;> simp [An.vs,Vu,gT]
theorem yA {α:Type} {H:Hp} {n:Nat} {R:α->Addr->Prop} {f:α->TV} (hr:∀e a,R e a->RepT H n (f e) (.ref a)) {xs:List α} {as:List Addr} (p:Paired R xs as):Paired (RepT H n) (xs.map f) (as.map V.ref):=by
 induction p with
 | nil=>exact .nil
 | cons h t ih=>exact .cons (hr _ _ h) ih
theorem Na {H:Hp} {a:Addr} {r:RX} (h:r.At H a):RepT H 2 r.tv (.ref a):=by
 cases r with
 | next n t=>exact⟨a,_,rfl,h,.cons ⟨rfl,rfl⟩ (.cons ⟨rfl,rfl⟩ (.cons ⟨rfl,rfl⟩ .nil))⟩
 | has z m=>exact⟨a,_,rfl,h,.cons ⟨rfl,rfl⟩ (.cons ⟨rfl,rfl⟩ (.cons ⟨rfl,rfl⟩ .nil))⟩
 | kept n t p k d y=>
  obtain⟨b,c,h1,h2,h3⟩:=h
  exact⟨a,_,rfl,h1,.cons ⟨rfl,rfl⟩ (.cons ⟨rfl,rfl⟩ (.cons ⟨rfl,rfl⟩ (.cons ⟨rfl,rfl⟩ (.cons ⟨rfl,rfl⟩ (.cons (jZ h2 (RX.sc_dd d)) (.cons (jZ h3 (RX.sc_an y)) .nil))))))⟩
 | came n t p k d=>
  obtain⟨b,h1,h2⟩:=h
  exact⟨a,_,rfl,h1,.cons ⟨rfl,rfl⟩ (.cons ⟨rfl,rfl⟩ (.cons ⟨rfl,rfl⟩ (.cons ⟨rfl,rfl⟩ (.cons ⟨rfl,rfl⟩ (.cons (jZ h2 (RX.sc_dd d)) .nil)))))⟩
 | asked n=>exact⟨a,_,rfl,h,.cons ⟨rfl,rfl⟩ (.cons ⟨rfl,rfl⟩ .nil)⟩
 | done n t y=>
  obtain⟨b,h1,h2⟩:=h
  exact⟨a,_,rfl,h1,.cons ⟨rfl,rfl⟩ (.cons ⟨rfl,rfl⟩ (.cons ⟨rfl,rfl⟩ (.cons (jZ h2 (RX.sc_an y)) .nil)))⟩
theorem Nb (r:RX):gT 2 r.tv:=by
 have c:∀ {t:TV} {ts:List TV},gT 1 t->(∀u∈ts,gT 1 u)->∀u∈t::ts,gT 1 u:=fun h1 h2=>List.forall_mem_cons.mpr ⟨h1,h2⟩
 have n:∀u∈([]:List TV),gT 1 u:=fun _ h=>nomatch h
 cases r with
 | next m t=>exact⟨Zs,c trivial (c trivial (c trivial n))⟩
 | has z m=>exact⟨Zs,c trivial (c trivial (c trivial n))⟩
 | kept m t p k d y=>exact⟨Zs,c trivial (c trivial (c trivial (c trivial (c trivial (c (zY d) (c (zZ y) n))))))⟩
 | came m t p k d=>exact⟨Zs,c trivial (c trivial (c trivial (c trivial (c trivial (c (zY d) n)))))⟩
 | asked m=>exact⟨Zs,c trivial (c trivial n)⟩
 | done m t y=>exact⟨Zs,c trivial (c trivial (c trivial (c (zZ y) n)))⟩
def Wh (rs:List RX):TV:=.tp (rs.map RX.tv)
theorem sG {rs:List RX} (h:rs.length<=1000):gT 3 (Wh rs):=⟨by rw[aQ];exact h,fun t ht=>by obtain⟨r,_,rfl⟩:=Zmm.mp ht;exact Nb r⟩
theorem mE {H:Hp} {p:Addr} {rs:List RX} {as:List Addr} (g:H p=some (.tup (as.map V.ref))) (pp:Paired (fun r a=>RX.At H a r) rs as):RepT H 3 (Wh rs) (.ref p):=⟨p,_,rfl,g,yA (f:=RX.tv) (fun _ _ h=>Na h) pp⟩
theorem wF {H:Hp} {p:Addr} {ns:List Nat} (g:H p=some (.lst (nI ns))):Rep H 3 (.ls (ns.map fun n:Nat=>.sc (.int (n:Int)))) (.ref p):=by
 refine⟨p,_,rfl,g,?_⟩
 clear g;unfold nI;induction ns with
 | nil=>exact .nil
 | cons n ns ih=>exact .cons ⟨rfl,rfl⟩ ih
def Aa (K:W.Frag):Sp:=fun vs H Q _=>∃(a:Addr) (ns:List Int),vs=[.ref a]/\SqL K H a (ns.map V.int)/\ns.length<=63/\∀H',Q (.bl true) H'
theorem MenusAt.new {H:Hp} {lm p:Addr} {M:List Addr} (h:MenusAt H lm M) (hp:H p=none):p∉M:=by
 obtain⟨a0,a1,a2,a3,ws,us,ps,ks,rfl,h0,h1,h2,h3,h4,_⟩:=h.ex
 intro hm;simp only [List.mem_cons,List.not_mem_nil,or_false]at hm
 rcases hm with rfl | rfl | rfl | rfl | rfl
 ·rw[h0]at hp;cases hp
 ·rw[h1]at hp;cases hp
 ·rw[h2]at hp;cases hp
 ·rw[h3]at hp;cases hp
 ·rw[h4]at hp;cases hp
theorem yB {rs:List RX} {n:Nat} (h:n∈mD rs):n∈bM rs:=by
 obtain⟨r,hr,e⟩:=List.mem_filterMap.mp h
 cases r with
 | came m t p k x=>
  have e':(if kC "done" rs (Sum.inl (m:Int))=true then none else some m)=some n:=e
  split at e'
  ·cases e'
  ·cases e';exact List.mem_filterMap.mpr ⟨_,hr,rfl⟩
 | _=>cases e
theorem Cd {rs:List RX} (hw:RX.Whole rs):(dX rs).length<=rs.length:=by
 unfold dX;have h1:(rs.flatMap fT).length+(cK rs).length<=rs.length:=by
  clear hw;induction rs with
  | nil=>exact aV _
  | cons r rs ih=>
   unfold cK at ih ⊢
   rw[List.flatMap_cons,iK,List.filterMap_cons,nZ];cases r <;> simp only [fT,nZ,List.length_nil] <;> omega
 have h2:=congrArg List.length (nE hw (rs:=rs) fun _ h=>h)
 rw[aQ]at h2;rw[iK];omega
theorem Sn (T:Txt K mg) (cLdeck:aG P w K mg base 1 "_law_deck" ["_law_script"] (Em K)) (cLmenus:aG P w K mg base 3 "_law_menus" ["_law_deck_here"] vJ) (cLdraw:aG P w K mg base 1 "_law_draw" ["_law_deck_here","_law_many"] bK)
  (cLsome_head:aG P w K mg base 6 "_law_some_head" ["_law_deck_here","_law_menus_here"] oH) (cLlived:aG P w K mg base 4 "_law_lived" ["_law_deck_here","_law_rows","_law_menus_here","_law_many"] vQ)
  (cLasked_fold:aG P w K mg base 3 "_law_asked_fold" ["_law_deck_here","_law_rows"] Iv) (cLdue:aG P w K mg base 4 "_law_due" ["_law_rows","_law_life","_law_turn","_law_numbers"] lY) (c_folded:aG P w K mg base 6 "folded" ["rows","life","turn","numbers"] lY)
  (cLsame:aG P w K mg base 5 "_law_same" ["_law_found","_law_due_here"] (uE 3)) {f:Addr} {fd:FuncData} (F:Fun K "law" "law" lR f fd):kA P w K mg base rH 7 f fd ["_law_script"] (Aa K):=by
 refine F.go eY (fun vs H Q E h=>?_) (fun cdv A outer s H vs Q E hr h=>?_)
 ·obtain⟨a,ns,rfl,_⟩:=h;rfl
 ·obtain⟨a,ns,rfl,hS,hlen,q⟩:=h
  have hLdeck:Room 1 _:=hr.mono Zd
  have hLmenus:Room 3 _:=hr.mono Zd
  have hLdraw:Room 1 _:=hr.mono Zd
  have hLsome_head:Room 6 _:=hr
  have hLlived:Room 4 _:=hr.mono Zd
  have hLasked_fold:Room 3 _:=hr.mono Zd
  have hLdue:Room 4 _:=hr.mono Zd
  have hr_folded:Room 6 _:=hr
  have hLsame:Room 5 _:=hr.mono Zd
  have hu64:=hr.units
  refine⟨_,(R.ad (R.ah (i:=1) eY.nd (R.fn cLdeck hLdeck rfl (R.U (R.v 0) R.ac))) (R.ad (R.ah (i:=2) eY.nd (R.fn cLmenus hLmenus rfl (R.U (R.v 1) R.ac))) (R.ad (R.bh PassesOwn.never rfl (R.cp rfl T.b_range (R.U R.ab R.ac)) (R.gn (i:=3) eY.nd) (R.ad (R.ah (i:=4) eY.nd (R.fn cLsome_head hLsome_head rfl (R.U (R.v 1) (R.U (R.v 2) R.ac)))) (R.ad (R.ah (i:=4) eY.nd (R.fn cLlived hLlived rfl (R.U (R.v 1) (R.U (R.v 4) (R.U (R.v 2) (R.U (R.ix (R.aq (K:=K)) (R.au (R.U (R.fn cLdraw hLdraw rfl (R.U (R.v 1) (R.U R.ab R.ac))) (R.U (R.fn cLdraw hLdraw rfl (R.U (R.v 1) (R.U R.ab R.ac))) R.ac))) (R.fn cLdraw hLdraw rfl (R.U (R.v 1) (R.U R.ab R.ac)))) R.ac)))))) (R.ad (R.br (R.fn cLasked_fold hLasked_fold rfl (R.U (R.v 1) (R.U (R.v 4) R.ac))) (R.dh (K:=K) (n:=3) rfl (R.bq (R.gn (i:=5) eY.nd) (R.bq (R.gn (i:=6) eY.nd) (R.bq (R.gn (i:=7) eY.nd) R.di))))) (R.ad (R.ah (i:=8) eY.nd (R.bg (R.ft (K:=K)) rfl T.b_tuple iY (R.U (R.fn cLdue hLdue rfl (R.U (R.v 4) (R.U (R.v 5) (R.U (R.v 6) (R.U (R.v 7) R.ac))))) R.ac))) (R.ad (R.ah (i:=9) eY.nd (R.ai (R.U (R.bg (R.fg (K:=K)) rfl T.b_list oE (R.U (R.v 4) R.ac)) (R.U (R.bg (R.fg (K:=K)) rfl T.b_list oE (R.U (R.v 7) R.ac)) R.ac)))) (R.ad (R.ah (i:=10) eY.nd (R.fn c_folded hr_folded rfl (R.U (R.v 4) (R.U (R.v 5) (R.U (R.v 6) (R.U (R.v 7) R.ac)))))) (R.ad (R.ar (R.tw (R.dm (R.dj (R.bw (R.da .lst (R.v 10) rfl T.b_isinstance rfl T.b_list oE))) (R.dq (R.dj (R.bw (R.fn cLsame hLsame rfl (R.U (R.bg (R.ft (K:=K)) rfl T.b_tuple iY (R.U (R.v 10) R.ac)) (R.U (R.v 8) R.ac)))))))) (R.ag (R.ao R.bl)) R.av) (R.ad (R.bc (R.bb (K:=K) PySem.F.plainAttrs_list PySem.F.slot_list_append PySem.F.type_list_append R.bn (R.v 10) (R.U (R.ai (R.U R.ae (R.U R.ab R.ac))) R.ac))) (R.ag (R.ar (R.tw (R.dm (R.dj (R.bw (R.fn cLsame hLsame rfl (R.U (R.bg (R.ft (K:=K)) rfl T.b_tuple iY (R.U (R.fn c_folded hr_folded rfl (R.U (R.v 4) (R.U (R.v 5) (R.U (R.v 6) (R.U (R.v 7) R.ac))))) R.ac)) (R.U (R.v 8) R.ac))))) (R.dq (R.al (R.fu hu64) (R.ai (R.U (R.v 4) (R.U (R.v 7) R.ac))) (R.v 9))))) (R.ag (R.ao R.bl)) R.av))))))))))) (R.ag (R.ao R.bl))))),?_⟩
  refine⟨a,ns,rfl,hS,fun d b H1 nd nb D1 s1=>?_⟩
  dsimp only [aJ];refine⟨d,b,rfl,D1,fun lm M H2 hM oD oB f2=>?_⟩
  dsimp only [aJ];refine bE (fun σ' H'=>True) (fun nx hnx=>?_) ?_
  ·refine⟨3,rfl,Zd,Zd,cC (cT 0 (3:Int).toNat) (fun i σ' H'=>∃(o3 o4 o5 o6 o7 o8 o9 o10:Option V),σ'=[some (.ref a),some (.ref d),some (.ref lm),o3,o4,o5,o6,o7,o8,o9,o10]/\Dk H' d b/\MenusAt H' lm M) (fun _ _ _ _=>trivial) ⟨_,_,_,_,_,_,_,_,rfl,f2.dk,hM⟩ ?_ ?_⟩
   ·rintro i x σ' H3 hx ⟨o3,o4,o5,o6,o7,o8,o9,o10,rfl,D3,hM3⟩
    obtain⟨rfl,hi⟩:=kO hx
    dsimp only [aJ];refine⟨d,b,lm,M,rfl,D3,hM3,oD,oB,fun ra rs as H9 fra R9 hk9 f9=>?_⟩
    have oR:=hM3.new fra
    have nra:=D3.ne fra
    dsimp only [aJ];refine bE (fun σ' H'=>∃(rs':List RX) (as':List Addr) (ff:Str->Nat),σ'=[some (.ref a),some (.ref d),some (.ref lm),some (.int (i:Int)),some (.ref ra),o5,o6,o7,o8,o9,o10]/\RxsAt H' ra rs' as'/\RX.Whole rs'/\(∀r∈rs',r.Ok)/\jG rs' ff/\rs'.length<=43/\Dk H' d b/\MenusAt H' lm M) (fun nx' hnx'=>?_) ?_
    ·refine⟨d,b,9,rfl,f9.dk,Zd,Zd,fun m1 Ha z0 z1 Da ea=>⟨d,b,31,rfl,Da,Zd,Zd,fun m2 Hb v0 v1 Db eb=>⟨dE rfl,fun p hp=>⟨d,b,2,rfl,Db.new hp,Zd,Zd,fun m3 Hc w0 w1 Dc ec=>?_⟩⟩⟩⟩
     have hpd:=Db.ne hp
     have gp:=ec p _ aA hpd.1 hpd.2
     obtain⟨m1,rfl⟩:=fM z0
     obtain⟨m2,rfl⟩:=fM v0
     have fc:=(((((Fw.refl f9.dk).draw Da ea).draw Db eb).new (o:=.lst [.int (m1:Int),.int (m2:Int)]) hp).draw Dc ec)
     have Rc:=R9.keep fc.tk (fc.get R9.lst nra.1 nra.2)
     have hMc:=(f9.trans fc).menus oD oB hM3
     obtain⟨many,hm,hmv⟩:∃many:Nat,many<=30/\nT [V.int (m1:Int),.int (m2:Int)] m3=some (.int (many:Int)):=by
      rcases(by omega:m3=0∨m3=1) with rfl | rfl
      ·exact⟨m1,Zo,rfl⟩
      ·exact⟨m2,Zo,rfl⟩
     refine⟨_,SqL.of gp,_,hmv,d,b,ra,lm,M,rs,as,many,rfl,fc.dk,Rc,hk9,hMc,oD,oB,oR,nra.1,nra.2,hm,fun rs' as' ff Hd Rd wd okd lvd ld Dd' frd=>?_⟩
     exact hnx' _ _ ⟨rs',as',ff,rfl,Rd,wd,okd,lvd,ld,Dd',hMc.keep fun c hc o e=>frd c o e (fun z=>oD (z ▸ hc)) (fun z=>oB (z ▸ hc)) (fun z=>oR (z ▸ hc))⟩
    rintro σ' Ha ⟨rs',as',ff,rfl,Ra,wa,oka,lva,la,Da,hMa⟩
    obtain⟨FF,hFF⟩:=Bu lva
    have hct:(dQ rs').length+2*(cK rs').length<=43:=eK (Bw wa) la
    have hk43:(dX rs').length<=43:=eK (Cd wa) la
    refine⟨d,b,ra,rs',as',rfl,Da,Ra,la,nra.1,nra.2,fun tp nl life turn nm t0 Hb gtp fnl gnl hsub hl1 hl2 hmx ht0 ht1 fb=>?_⟩
    refine⟨tp,_,rfl,SqT.of gtp,rfl,_,_,rfl,_,_,rfl,_,_,rfl,rfl,?_⟩
    dsimp only [aJ];have Rb:=Ra.keep fb.tk (fb.get Ra.lst nra.1 nra.2)
    have hin:∀n∈nm,n∈bM rs':=fun n hn=>yB (hsub.subset hn)
    have hnl:nm.length<=100:=eK hsub.length_le (eK (List.length_filterMap_le _ _) Zo)
    refine⟨ra,nl,rs',as',FF,ff,life,turn,nm,rfl,Rb,Zo,hct,hk43,wa,oka,hFF,gnl,hin,hnl,fun pd od outd Hc fpd Rd hfd sc=>⟨_,SqL.of Rd.lst,fun td htd=>?_⟩⟩
    have sd:=sc.trans (aD (o:=.tup (od.map V.ref)) htd)
    have gtd:(aI Hc td (.tup (od.map V.ref))) td=some (.tup (od.map V.ref)):=aA
    have pdd:Paired (fun r a=>RX.At (aI Hc td (.tup (od.map V.ref))) a r) outd od:=(Rd.same (aD htd)).each
    dsimp only [aJ];generalize aI Hc td (.tup (od.map V.ref))=Hd at sd gtd pdd;refine⟨_,.inl (SqL.of (Rb.same sd).lst),fun c1 hc1=>⟨_,.inl (SqL.of (aL (sd _ _ gnl) hc1)),fun c2 hc2=>⟨aP rfl,fun kt He se ge=>?_⟩⟩⟩
    have gc1:He c1=some (.lst (as'.map V.ref)):=se _ _ (aL aA hc2)
    have gc2:He c2=some (.lst (nI nm)):=se _ _ aA
    have s3:Same Hd He:=((aD hc1).trans (aD hc2)).trans se
    dsimp only [aJ];have sbe:=sd.trans s3
    refine⟨ra,nl,rs',as',FF,ff,life,turn,nm,rfl,Rb.same sbe,Zo,hct,hk43,wa,oka,hFF,sbe _ _ gnl,hin,hnl,fun pf of outf Hf fpf Rf hff sf=>?_⟩
    dsimp only [aJ];cases hfd.uniq hff
    have lout:outd.length<=1000:=by
     obtain⟨m,hs,es,_,_,_,_,l1,l2,e⟩:=hfd.ex
     have l3:=gR rs' turn nm
     rw[e,nZ,iK,iK,aQ,aQ];omega
    have pde:=Paired.map' (fun _ _ w=>RX.At.tk (Same.tk s3) w) pdd
    have gtde:=s3 _ _ gtd
    refine Ry (fun c H'=>c=false/\Same Hf H') (fun k hk=>?_) ?_ ?_
    ·refine⟨.lst,.inl ⟨_,Rf.lst⟩,?_⟩
     refine⟨_,SqL.of Rf.lst,fun tf htf=>?_⟩
     have s4:=aD (o:=.tup (of.map V.ref)) htf
     refine⟨_,_,Wh outd,rfl,mE aA (Rf.same s4).each,mE (s4 _ _ (sf _ _ gtde)) (Paired.map' (fun _ _ w=>RX.At.tk (Same.tk (sf.trans s4)) w) pde),sG lout,fun H' s'=>?_⟩
     exact hk _ _ ⟨rfl,s4.trans s'⟩
    ·rintro Hg ⟨h,_⟩
     cases h
    rintro Hg ⟨_,sg⟩
    dsimp only [Ci];have Rg:=Rf.same sg
    have lof:of.length<=1000:=by rw[<- Rf.len];exact lout
    refine bE (fun σ' H'=>σ'=[some (.ref a),some (.ref d),some (.ref lm),some (.int (i:Int)),some (.ref ra),some (.int (life:Int)),some (.int (turn:Int)),some (.ref nl),some (.ref td),some (.ref kt),some (.ref pf)]/\Same He H') (fun nx' hnx'=>?_) ?_
    ·refine⟨.inl ⟨rfl,_,SqL.of Rg.lst⟩,aP rfl,fun t1 Hh sh gh=>⟨pf,_,_,rfl,rfl,sh _ _ Rg.lst,by rw[aQ];exact kI lof Zd,?_⟩⟩
     exact hnx' _ _ ⟨rfl,bV fpf ((sf.trans sg).trans sh)⟩
    rintro σ' Hh ⟨rfl,sh⟩
    have sbh:=sbe.trans sh
    refine Gi (fun c H'=>c=false/\Same Hh H') (fun k hk=>?_) ?_ ?_
    ·refine⟨ra,nl,rs',as',FF,ff,life,turn,nm,rfl,Rb.same sbh,Zo,hct,hk43,wa,oka,hFF,sbh _ _ gnl,hin,hnl,fun p2 o2 out2 Hi fp2 R2 hf2 si=>⟨_,SqL.of R2.lst,fun tf htf=>?_⟩⟩
     cases hfd.uniq hf2
     have s4:=aD (o:=.tup (o2.map V.ref)) htf
     have shi:=sh.trans si
     refine⟨_,_,Wh outd,rfl,mE aA (R2.same s4).each,mE (s4 _ _ (shi _ _ gtde)) (Paired.map' (fun _ _ w=>RX.At.tk (Same.tk (shi.trans s4)) w) pde),sG lout,fun Hj sj=>?_⟩
     have s5:=(si.trans s4).trans sj
     have sej:=sh.trans s5
     refine⟨aP rfl,fun t2 Hk sk gk=>⟨4,.tp [.ls (rs'.map RX.tv),.ls (nm.map fun n:Nat=>.sc (.int (n:Int)))],Zd,?_,?_,?_⟩⟩
     ·exact⟨t2,_,rfl,gk,.cons ((Rb.same (sbh.trans s5)).same sk).rep (.cons (wF (sk _ _ ((sbh.trans s5) _ _ gnl))) .nil)⟩
     ·have sek:=sej.trans sk
      exact⟨kt,_,rfl,sek _ _ ge,.cons (RxsAt.rep ⟨sek _ _ gc1,(((Rb.same sbh).same s5).same sk).each⟩) (.cons (wF (sek _ _ gc2)) .nil)⟩
     exact hk _ _ ⟨rfl,s5.trans sk⟩
    ·rintro Hi ⟨h,_⟩
     cases h
    rintro Hi ⟨_,si⟩
    have sbi:=sbh.trans si
    have fbi:=fb.same sbi
    exact⟨_,_,_,_,_,_,_,_,rfl,fbi.dk,fbi.menus oD oB hMa⟩
   ·rintro σ' H3 _
    exact hnx _ _ trivial
  ·rintro σ' H3 _
   exact q H3
end
end KL
namespace KL
open PySem L2
structure FA (K:W.Frag) (x:Str) (st:Stmt):Prop where
 ex:∃(f:Addr) (od an:Option Addr) (sl:Array (Option Value)) (oc kV dc pm cd ct:Value),W.nsIn K mainGlobals x=some (some (.ref f))/\K.lookup f=some ⟨oc,od,.func (W.fnOf x x (bX st) (bD st) (aB st) .none kV dc pm an cd ct),sl⟩/\W.codeIn K cd x=true/\W.keepIn K (.ref f)=true
theorem FA.of {K:W.Frag} {x:Str} {st:Stmt} {f:Addr} {od an:Option Addr} {sl:Array (Option Value)} {oc kV dc pm cd ct:Value} (a:W.nsIn K mainGlobals x=some (some (.ref f))) (l:K.lookup f=some ⟨oc,od,.func (W.fnOf x x (bX st) (bD st) (aB st) .none kV dc pm an cd ct),sl⟩) (c:W.codeIn K cd x=true) (k:W.keepIn K (.ref f)=true):FA K x st:=⟨f,od,an,sl,oc,kV,dc,pm,cd,ct,a,l,c,k⟩
theorem FA.at {K:W.Frag} {x:Str} {st:Stmt} {ps:List Str} {h:Heap} {mg:Str->Option Value} (F:FA K x st) (X:K.In h) (G:h.Ns mainGlobals mg) (hb:∀(kV doc pm:Value) (an:Option Addr) (cdv ct:Value) (us:List Value),us.length=ps.length->bindArgs (W.fnOf x x (bX st) (bD st) (aB st) .none kV doc pm an cdv ct) ⟨us,[]⟩=pure (ps.zip us)):DefAt K mg x st ps:=by
 obtain⟨f,od,an,sl,oc,kV,dc,pm,cd,ct,a,l,c,k⟩:=F.ex
 exact Rh X G a l c k hb
structure MA (K:W.Frag) (C:Addr) (m qual:Str) (st:Stmt):Prop where
 ex:∃(f:Addr) (od an:Option Addr) (sl:Array (Option Value)) (oc kV dc pm cd ct:Value),W.findIn K (.ref C) m=some (some (.ref f))/\W.isFn K (.ref f)=true/\K.lookup f=some ⟨oc,od,.func (W.fnOf m qual (bX st) (bD st) (aB st) .none kV dc pm an cd ct),sl⟩/\W.codeIn K cd qual=true/\W.keepIn K (.ref f)=true
theorem MA.of {K:W.Frag} {C:Addr} {m qual:Str} {st:Stmt} {f:Addr} {od an:Option Addr} {sl:Array (Option Value)} {oc kV dc pm cd ct:Value} (a:W.findIn K (.ref C) m=some (some (.ref f))) (i:W.isFn K (.ref f)=true) (l:K.lookup f=some ⟨oc,od,.func (W.fnOf m qual (bX st) (bD st) (aB st) .none kV dc pm an cd ct),sl⟩) (c:W.codeIn K cd qual=true) (k:W.keepIn K (.ref f)=true):MA K C m qual st:=⟨f,od,an,sl,oc,kV,dc,pm,cd,ct,a,i,l,c,k⟩
theorem MA.at {K:W.Frag} {C:Addr} {m qual:Str} {st:Stmt} {ps:List Str} (F:MA K C m qual st) (cl:Cls K C) (hb:∀(kV doc pm:Value) (an:Option Addr) (cdv ct:Value) (us:List Value),us.length=ps.length->bindArgs (W.fnOf m qual (bX st) (bD st) (aB st) .none kV doc pm an cdv ct) ⟨us,[]⟩=pure (ps.zip us)):MethAt K C m qual st ps:=by
 obtain⟨f,od,an,sl,oc,kV,dc,pm,cd,ct,a,i,l,c,k⟩:=F.ex
 exact⟨cl,_,_,oW l c k,⟨a,i,k⟩,(oW (st:=st) l c k).binds hb⟩
theorem So {l:W.OpenLaw} {w:World} {K:W.Frag} {h:Heap} {mg:Str->Option Value} {fa f_law:Addr} (X:K.In h) (G:h.Ns mainGlobals mg) (hfa:mg "law"=some (.ref fa))
  {od_law an_law:Option Addr} {sl_law:Array (Option Value)} {oc_law kV_law dc_law pm_law cd_law ct_law:Value}
  (a_is_alive:FA K "is_alive" hX)
  (a_done_changes:FA K "done_changes" dM)
  (a_changes_of:FA K "changes_of" fF)
  (a_risen:FA K "risen" fG)
  (a_by_numbers:FA K "by_numbers" fH)
  (a_first_book:FA K "first_book" dN)
  (a_risen_book:FA K "risen_book" fI)
  (a_risen_kept:FA K "risen_kept" cU)
  (a_folded:FA K "folded" fP)
  (a_still_kept:FA K "still_kept" dO)
  (a_came_again:FA K "came_again" fJ)
  (a_law_deck:FA K "_law_deck" hZ)
  (a_law_draw:FA K "_law_draw" iA)
  (a_law_unlike:FA K "_law_unlike" cD)
  (a_law_end:FA K "_law_end" jS)
  (a_law_deed:FA K "_law_deed" iB)
  (a_law_words:FA K "_law_words" eW)
  (a_law_answer:FA K "_law_answer" fK)
  (a_law_menus:FA K "_law_menus" cO)
  (a_law_spot:FA K "_law_spot" iC)
  (a_law_kept:FA K "_law_kept" iD)
  (a_law_head:FA K "_law_head" iE)
  (a_law_early:FA K "_law_early" fV)
  (a_law_lates:FA K "_law_lates" fW)
  (a_law_changes:FA K "_law_changes" eO)
  (a_law_changed:FA K "_law_changed" cY)
  (a_law_sized:FA K "_law_sized" fX)
  (a_law_right:FA K "_law_right" fY)
  (a_law_lived:FA K "_law_lived" bF)
  (a_law_some_head:FA K "_law_some_head" dA)
  (a_law_asked_fold:FA K "_law_asked_fold" bG)
  (a_law_book:FA K "_law_book" dY)
  (a_law_answers:FA K "_law_answers" cG)
  (a_law_due:FA K "_law_due" dF)
  (a_law_same:FA K "_law_same" dZ)
  (a_law:W.nsIn K mainGlobals "law"=some (some (.ref f_law))) (l_law:K.lookup f_law=some ⟨oc_law,od_law,.func (W.fnOf "law" "law" (bX lR) (bD lR) (aB lR) .none kV_law dc_law pm_law an_law cd_law ct_law),sl_law⟩) (c_law:W.codeIn K cd_law "law"=true) (k_law:W.keepIn K (.ref f_law)=true)
  {C_Book:Addr} (aC_Book:W.nsIn K mainGlobals "Book"=some (some (.ref C_Book))) (pg_Book:W.plainGet K C_Book Str.empty=true) (hd_Book:W.hasDictIn K C_Book=true) (po_Book:W.plainOver K C_Book=true) (sa_Book:W.findIn K (.ref C_Book) "__setattr__"=some (some (.builtin "object.__setattr__"))) (mk_Book:W.makesIn K C_Book=true) (kc_Book:W.keepIn K (.ref C_Book)=true)
  (n_Book_amounts:W.findIn K (.ref C_Book) "amounts"=some none)
  {f_Book___init__:Addr} {od_Book___init__ an_Book___init__:Option Addr} {sl_Book___init__:Array (Option Value)} {oc_Book___init__ kV_Book___init__ dc_Book___init__ pm_Book___init__ cd_Book___init__ ct_Book___init__:Value} {T_Book:Addr}
  (a_Book___init__:W.findIn K (.ref C_Book) "__init__"=some (some (.ref f_Book___init__))) (i_Book___init__:W.isFn K (.ref f_Book___init__)=true) (l_Book___init__:K.lookup f_Book___init__=some ⟨oc_Book___init__,od_Book___init__,.func (W.fnOf "__init__" "Book.__init__" (bX bU) (bD bU) (aB bU) (.ref T_Book) kV_Book___init__ dc_Book___init__ pm_Book___init__ an_Book___init__ cd_Book___init__ ct_Book___init__),sl_Book___init__⟩) (c_Book___init__:W.codeIn K cd_Book___init__ "Book.__init__"=true) (k_Book___init__:W.keepIn K (.ref f_Book___init__)=true)
  (a_Book_amount:MA K C_Book "amount" "Book.amount" eL)
  (a_Book_rows:MA K C_Book "rows" "Book.rows" eV)
  (a_Book_change:MA K C_Book "change" "Book.change" eN)
  {dT_Book:Option Addr} {itsT_Book:List Value} {nT_Book:Nat} {slT_Book:Array (Option Value)} (lT_Book:K.lookup T_Book=some ⟨.type "tuple",dT_Book,.seq (List.toArray itsT_Book) nT_Book,slT_Book⟩) (vT_Book:itsT_Book=[.none])
  (z_isinstance:W.nsIn K mainGlobals "isinstance"=some none)
  (z_int:W.nsIn K mainGlobals "int"=some none)
  (z_bool:W.nsIn K mainGlobals "bool"=some none)
  (z_str:W.nsIn K mainGlobals "str"=some none)
  (z_tuple:W.nsIn K mainGlobals "tuple"=some none)
  (z_len:W.nsIn K mainGlobals "len"=some none)
  (z_sum:W.nsIn K mainGlobals "sum"=some none)
  (z_list:W.nsIn K mainGlobals "list"=some none)
  (z_range:W.nsIn K mainGlobals "range"=some none)
  (z_max:W.nsIn K mainGlobals "max"=some none)
  (z_min:W.nsIn K mainGlobals "min"=some none)
  (z_sorted:W.nsIn K mainGlobals "sorted"=some none)
  (z_dict:W.nsIn K mainGlobals "dict"=some none)
  (z_zip:W.nsIn K mainGlobals "zip"=some none)
  {t_MOST:Tok} (y_MOST:W.nsIn K mainGlobals "MOST"=some (some (.int (1000000000000) t_MOST)))
  : ∃fd:FuncData,(∀(s:Shared) (v:Value),BindsTo s fd ⟨[v],[]⟩ [("_law_script",v)])/\∀base:Heap,K.In base->base.Ns mainGlobals mg->kA l.prog w K mg base rH 7 fa fd ["_law_script"] (Aa K):=by
 have e:=hfa.symm.trans (W.mg_of X G a_law)
 cases e
 have T:Txt K mg:=⟨W.mg_none_of X G z_isinstance,W.mg_none_of X G z_int,W.mg_none_of X G z_bool,W.mg_none_of X G z_str,W.mg_none_of X G z_tuple,W.mg_none_of X G z_len,W.mg_none_of X G z_sum,W.mg_none_of X G z_list,W.mg_none_of X G z_range,W.mg_none_of X G z_max,W.mg_none_of X G z_min,W.mg_none_of X G z_sorted,W.mg_none_of X G z_dict,W.mg_none_of X G z_zip,⟨_,W.mg_of X G y_MOST⟩⟩
 have D_is_alive:DefAt K mg "is_alive" hX ["since","life","turn"]:=a_is_alive.at X G fun _ _ _ _ _ _ us hl=>match us,hl with | [_,_,_],_=>rfl
 have D_done_changes:DefAt K mg "done_changes" dM ["deed"]:=a_done_changes.at X G fun _ _ _ _ _ _ us hl=>match us,hl with | [_],_=>rfl
 have D_changes_of:DefAt K mg "changes_of" fF ["deed","answer"]:=a_changes_of.at X G fun _ _ _ _ _ _ us hl=>match us,hl with | [_,_],_=>rfl
 have D_risen:DefAt K mg "risen" fG ["rows"]:=a_risen.at X G fun _ _ _ _ _ _ us hl=>match us,hl with | [_],_=>rfl
 have D_by_numbers:DefAt K mg "by_numbers" fH ["rows","word"]:=a_by_numbers.at X G fun _ _ _ _ _ _ us hl=>match us,hl with | [_,_],_=>rfl
 have D_first_book:DefAt K mg "first_book" dN ["rows"]:=a_first_book.at X G fun _ _ _ _ _ _ us hl=>match us,hl with | [_],_=>rfl
 have D_risen_book:DefAt K mg "risen_book" fI ["rows","came"]:=a_risen_book.at X G fun _ _ _ _ _ _ us hl=>match us,hl with | [_,_],_=>rfl
 have D_risen_kept:DefAt K mg "risen_kept" cU ["rows","came"]:=a_risen_kept.at X G fun _ _ _ _ _ _ us hl=>match us,hl with | [_,_],_=>rfl
 have D_folded:DefAt K mg "folded" fP ["rows","life","turn","numbers"]:=a_folded.at X G fun _ _ _ _ _ _ us hl=>match us,hl with | [_,_,_,_],_=>rfl
 have D_still_kept:DefAt K mg "still_kept" dO ["kept","life","turn"]:=a_still_kept.at X G fun _ _ _ _ _ _ us hl=>match us,hl with | [_,_,_],_=>rfl
 have D_came_again:DefAt K mg "came_again" fJ ["rows","turn","numbers"]:=a_came_again.at X G fun _ _ _ _ _ _ us hl=>match us,hl with | [_,_,_],_=>rfl
 have D_law_deck:DefAt K mg "_law_deck" hZ ["_law_script"]:=a_law_deck.at X G fun _ _ _ _ _ _ us hl=>match us,hl with | [_],_=>rfl
 have D_law_draw:DefAt K mg "_law_draw" iA ["_law_deck_here","_law_many"]:=a_law_draw.at X G fun _ _ _ _ _ _ us hl=>match us,hl with | [_,_],_=>rfl
 have D_law_unlike:DefAt K mg "_law_unlike" cD ["_law_deck_here","_law_signs","_law_longest","_law_many"]:=a_law_unlike.at X G fun _ _ _ _ _ _ us hl=>match us,hl with | [_,_,_,_],_=>rfl
 have D_law_end:DefAt K mg "_law_end" jS ["_law_deck_here","_law_many"]:=a_law_end.at X G fun _ _ _ _ _ _ us hl=>match us,hl with | [_,_],_=>rfl
 have D_law_deed:DefAt K mg "_law_deed" iB ["_law_deck_here","_law_names","_law_houses"]:=a_law_deed.at X G fun _ _ _ _ _ _ us hl=>match us,hl with | [_,_,_],_=>rfl
 have D_law_words:DefAt K mg "_law_words" eW ["_law_deed_here","_law_asked"]:=a_law_words.at X G fun _ _ _ _ _ _ us hl=>match us,hl with | [_,_],_=>rfl
 have D_law_answer:DefAt K mg "_law_answer" fK ["_law_deck_here","_law_deed_here","_law_word"]:=a_law_answer.at X G fun _ _ _ _ _ _ us hl=>match us,hl with | [_,_,_],_=>rfl
 have D_law_menus:DefAt K mg "_law_menus" cO ["_law_deck_here"]:=a_law_menus.at X G fun _ _ _ _ _ _ us hl=>match us,hl with | [_],_=>rfl
 have D_law_spot:DefAt K mg "_law_spot" iC ["_law_deck_here","_law_menus_here"]:=a_law_spot.at X G fun _ _ _ _ _ _ us hl=>match us,hl with | [_,_],_=>rfl
 have D_law_kept:DefAt K mg "_law_kept" iD ["_law_deck_here","_law_menus_here","_law_number","_law_turn"]:=a_law_kept.at X G fun _ _ _ _ _ _ us hl=>match us,hl with | [_,_,_,_],_=>rfl
 have D_law_head:DefAt K mg "_law_head" iE ["_law_deck_here","_law_menus_here"]:=a_law_head.at X G fun _ _ _ _ _ _ us hl=>match us,hl with | [_,_],_=>rfl
 have D_law_early:DefAt K mg "_law_early" fV ["_law_book_here","_law_deed_here"]:=a_law_early.at X G fun _ _ _ _ _ _ us hl=>match us,hl with | [_,_],_=>rfl
 have D_law_lates:DefAt K mg "_law_lates" fW ["_law_book_here","_law_deed_here"]:=a_law_lates.at X G fun _ _ _ _ _ _ us hl=>match us,hl with | [_,_],_=>rfl
 have D_law_changes:DefAt K mg "_law_changes" eO ["_law_deed_here","_law_answer_here"]:=a_law_changes.at X G fun _ _ _ _ _ _ us hl=>match us,hl with | [_,_],_=>rfl
 have D_law_changed:DefAt K mg "_law_changed" cY ["_law_book_here","_law_deed_here","_law_answer_here"]:=a_law_changed.at X G fun _ _ _ _ _ _ us hl=>match us,hl with | [_,_,_],_=>rfl
 have D_law_sized:DefAt K mg "_law_sized" fX ["_law_deck_here","_law_book_here","_law_deed_here"]:=a_law_sized.at X G fun _ _ _ _ _ _ us hl=>match us,hl with | [_,_,_],_=>rfl
 have D_law_right:DefAt K mg "_law_right" fY ["_law_deck_here","_law_book_here","_law_one"]:=a_law_right.at X G fun _ _ _ _ _ _ us hl=>match us,hl with | [_,_,_],_=>rfl
 have D_law_lived:DefAt K mg "_law_lived" bF ["_law_deck_here","_law_rows","_law_menus_here","_law_many"]:=a_law_lived.at X G fun _ _ _ _ _ _ us hl=>match us,hl with | [_,_,_,_],_=>rfl
 have D_law_some_head:DefAt K mg "_law_some_head" dA ["_law_deck_here","_law_menus_here"]:=a_law_some_head.at X G fun _ _ _ _ _ _ us hl=>match us,hl with | [_,_],_=>rfl
 have D_law_asked_fold:DefAt K mg "_law_asked_fold" bG ["_law_deck_here","_law_rows"]:=a_law_asked_fold.at X G fun _ _ _ _ _ _ us hl=>match us,hl with | [_,_],_=>rfl
 have D_law_book:DefAt K mg "_law_book" dY ["_law_rows","_law_came"]:=a_law_book.at X G fun _ _ _ _ _ _ us hl=>match us,hl with | [_,_],_=>rfl
 have D_law_answers:DefAt K mg "_law_answers" cG ["_law_rows","_law_came","_law_life","_law_turn","_law_spots"]:=a_law_answers.at X G fun _ _ _ _ _ _ us hl=>match us,hl with | [_,_,_,_,_],_=>rfl
 have D_law_due:DefAt K mg "_law_due" dF ["_law_rows","_law_life","_law_turn","_law_numbers"]:=a_law_due.at X G fun _ _ _ _ _ _ us hl=>match us,hl with | [_,_,_,_],_=>rfl
 have D_law_same:DefAt K mg "_law_same" dZ ["_law_found","_law_due_here"]:=a_law_same.at X G fun _ _ _ _ _ _ us hl=>match us,hl with | [_,_],_=>rfl
 have cl_Book:Cls K C_Book:=⟨pg_Book,hd_Book,po_Book,sa_Book⟩
 have M_Book_amount:MethAt K C_Book "amount" "Book.amount" eL ["self","name"]:=a_Book_amount.at cl_Book fun _ _ _ _ _ _ us hl=>match us,hl with | [_,_],_=>rfl
 have M_Book_rows:MethAt K C_Book "rows" "Book.rows" eV ["self"]:=a_Book_rows.at cl_Book fun _ _ _ _ _ _ us hl=>match us,hl with | [_],_=>rfl
 have M_Book_change:MethAt K C_Book "change" "Book.change" eN ["self","changes"]:=a_Book_change.at cl_Book fun _ _ _ _ _ _ us hl=>match us,hl with | [_,_],_=>rfl
 subst vT_Book;have I_Book:ClsAt K mg "Book" C_Book "Book.__init__" bU ["self","rows"] [[],[.non]]:=⟨f_Book___init__,_,_,W.mg_of X G aC_Book,⟨_,_,_,_,_,_,_,_,_,rfl,l_Book___init__,c_Book___init__⟩,⟨mk_Book,a_Book___init__,i_Book___init__,kc_Book⟩,by
  intro d hd;rcases List.mem_cons.mp hd with rfl | hd
  ·exact⟨[],fun s us KI hl=>match us,(show us.length=2 by simpa using hl) with | [_,_],_=>BindsTo.of_defaults (T:=T_Book) rfl (KI _ _ lT_Book) rfl rfl rfl,.nil⟩
  obtain rfl:=Zms.mp hd
  ·exact⟨[.none],fun s us KI hl=>match us,(show us.length=1 by simpa using hl) with | [_],_=>BindsTo.of_defaults (T:=T_Book) rfl (KI _ _ lT_Book) rfl rfl rfl,(.cons rfl .nil)⟩⟩
 refine⟨W.fnOf "law" "law" (bX lR) (bD lR) (aB lR) .none kV_law dc_law pm_law an_law cd_law ct_law,fun s v=>.of_eq rfl,fun base _ _=>?_⟩
 have F_law:=oW (st:=lR) l_law c_law k_law
 have BT:Vf K C_Book:=⟨cl_Book,n_Book_amounts⟩
 have cd:=Mf (P:=l.prog) (w:=w) (base:=base) T D_law_deck
 have cr:=Gr (P:=l.prog) (w:=w) (base:=base) D_law_draw
 have ce:=Sc T cr D_law_end
 have cu:=Br T cr D_law_unlike
 have cde:=Mj T cr ce D_law_deed
 have cw:=Gw (P:=l.prog) (w:=w) (base:=base) T D_law_words
 have ca:=Bs T cr ce D_law_answer
 have csp:=Ml T cr D_law_spot
 have ck:=Mm T cr cde cw ca csp D_law_kept
 have ch:=Mn T cr ce ck D_law_head
 have cm:=Gy T cr cu D_law_menus
 have cea:=Gz (P:=l.prog) (w:=w) (base:=base) T D_law_early
 have cla:=Hl (P:=l.prog) (w:=w) (base:=base) T D_law_lates
 have cch:=vO (P:=l.prog) (w:=w) (base:=base) T D_law_changes
 have cc:=xQ T cch D_law_changed
 have csz:=Ho T cr D_law_sized
 have cri:=Hq T cr cea cla D_law_right
 have cli:=Hu T cr cde csp csz cri cc D_law_lived
 have csh:=tY T cr ch D_law_some_head
 have cbn:=qT (P:=l.prog) (w:=w) (base:=base) D_by_numbers
 have ci:=Hz (P:=l.prog) (w:=w) (base:=base) T BT I_Book
 have cam:=tZ (P:=l.prog) (w:=w) (mg:=mg) (base:=base) BT M_Book_amount
 have crw:=xV (P:=l.prog) (w:=w) (base:=base) T BT M_Book_rows
 have cgn:=xW T BT cam M_Book_change
 have cdc:=nY (P:=l.prog) (w:=w) (base:=base) T D_done_changes
 have cco:=qU T cdc D_changes_of
 have cfb:=qV T (ci _ Zs) D_first_book
 have crb:=qW T cfb cco cgn D_risen_book
 have crk:=qX (P:=l.prog) (w:=w) (base:=base) T D_risen_kept
 have cri2:=Ih T cbn crb crw crk D_risen
 have cal:=Hw (P:=l.prog) (w:=w) (base:=base) D_is_alive
 have cst:=Ik T cal D_still_kept
 have cag:=Im T cbn D_came_again
 have cfo:=Cb T cri2 cag cst D_folded
 have caf:=Mx T cr ce D_law_asked_fold
 have ccp:=wC T cch D_law_changed
 have clb:=Iw T ccp D_law_book
 have cln:=Mz (P:=l.prog) (w:=w) (base:=base) T D_law_answers
 have cdu:=Ja T clb cln D_law_due
 have csa:=zW (P:=l.prog) (w:=w) (base:=base) T D_law_same 3
 exact Sn T cd cm cr csh cli caf cdu cfo csa F_law
theorem Xr {l:W.OpenLaw} {q:Program} {loose:List Str} {XP:(Str->Option Value)->Heap->Prop} {YP:World->Heap->Prop} {d:DefRec} {K:Params->W.Frag} (hn:l.most=some 63) (hdf:d.params.defaults=[])
  (hY:∀(w:World) (h:Heap),YP w h->(K w.params).In h)
  (F:∀(w:World) (mg:Str->Option Value) (fa:Addr) (h:Heap),(K w.params).In h->h.Ns mainGlobals mg->mg d.name=some (.ref fa) →
   ∃fd:FuncData,(∀(s:Shared) (u:Value),BindsTo s fd ⟨[u],[]⟩ [("_law_script",u)])/\∀base:Heap,(K w.params).In base->base.Ns mainGlobals mg->kA l.prog w (K w.params) mg base rH 7 fa fd ["_law_script"] (Aa (K w.params))) :
  W.WalkO q loose XP YP l.row.toRowW d [] (fun f vs=>PySem.call f vs):=
 L2.yM (n:=63) (k:=7) (x:="_law_script") (CX:=fun _=>rH) (sp:=fun w=>Aa (K w.params)) hn Zd hdf ⟨rfl,Zd,Zd⟩ hY F (fun _ _ a ns hl _ hS=>⟨a,ns,rfl,hS,hl,fun _=>rfl⟩) fun _ _ _ _ _ z=>z
end KL
def PySem.W.Fast.tw17347826498274289050:Nat:=0
def PySem.W.Fast.tw9348974486831409004:Nat:=0
def PySem.W.Fast.tw17163880662661849601:Nat:=0
def PySem.W.Fast.tw6616388703895112303:Nat:=0
def PySem.W.Fast.tw7659947201328492291:Nat:=0
def PySem.W.Fast.tw8808176925926154999:Nat:=0
def PySem.W.Fast.tw15531848062646327422:Nat:=0
def PySem.W.Fast.tw2987162593994618490:Nat:=0
def PySem.W.Fast.tw10911240635735747710:Nat:=0
def PySem.W.Fast.tw3237761879215149588:Nat:=0
def PySem.W.Fast.tw15996529533275706462:Nat:=0
def PySem.W.Fast.tw15310192616243872690:Nat:=0
def PySem.W.Fast.tw10909225628485121637:Nat:=0
def PySem.W.Fast.tw17160292883682117925:Nat:=0
def PySem.W.Fast.tw8915643036539422450:Nat:=0
def PySem.W.Fast.tw186153256364103328:Nat:=0
def PySem.W.Fast.tw3885658020770338098:Nat:=0
def PySem.W.Fast.tw152589779817099123:Nat:=0
def PySem.W.Fast.tw18009075880871023498:Nat:=0
def PySem.W.Fast.tw8179976257895944448:Nat:=0
def PySem.W.Fast.tw6323005004303964047:Nat:=0
def PySem.W.Fast.tw11531098149796963588:Nat:=0
def PySem.W.Fast.tw6139256146491300590:Nat:=0
def PySem.W.Fast.tw13099627101450864549:Nat:=0
def PySem.W.Fast.tw7203344670825927969:Nat:=0
def PySem.W.Fast.tw13290713285470049441:Nat:=0
def PySem.W.Fast.tw12609450523643520826:Nat:=0
def PySem.W.Fast.tw6757384147206927124:Nat:=0
def PySem.W.Fast.tw17284454757660457146:Nat:=0
def PySem.W.Fast.tw17983865595881752181:Nat:=0
def PySem.W.Fast.tw8533812035694729644:Nat:=0
def PySem.W.Fast.tw1274548959067283441:Nat:=0
def PySem.W.Fast.tw12086326742590284853:Nat:=0
def PySem.W.Fast.tw10439959476143557450:Nat:=0
def PySem.W.Fast.tw1220686915191676672:Nat:=0
def PySem.W.Fast.tw17904637126059291775:Nat:=0
open PySem PySem.W PyProof.Rows
set_option maxRecDepth 100000 in
set_option maxHeartbeats 0 in
theorem PySem.Challenge.cw_oncedoor_k53_folded_rows_holds : PySem.Challenge.rw_oncedoor_k53_folded_rows.Holds := by
 w_on;o_law;k_head;(case hw=>w_witness2)
 k_fill
 refine KL.Xr (l:=PySem.Challenge.rw_oncedoor_k53_folded_rows) rfl rfl (fun w h Y=>W.kIn_of Y) ?F
 case F=>
  intro w mg fa h KX G hmg;refine' KL.So KX G hmg ?a_is_alive ?a_done_changes ?a_changes_of ?a_risen ?a_by_numbers ?a_first_book ?a_risen_book ?a_risen_kept ?a_folded ?a_still_kept ?a_came_again ?a_law_deck ?a_law_draw ?a_law_unlike ?a_law_end ?a_law_deed ?a_law_words ?a_law_answer ?a_law_menus ?a_law_spot ?a_law_kept ?a_law_head ?a_law_early ?a_law_lates ?a_law_changes ?a_law_changed ?a_law_sized ?a_law_right ?a_law_lived ?a_law_some_head ?a_law_asked_fold ?a_law_book ?a_law_answers ?a_law_due ?a_law_same ?a_law ?l_law ?c_law ?k_law ?aC_Book ?pg_Book ?hd_Book ?po_Book ?sa_Book ?mk_Book ?kc_Book ?n_Book_amounts ?a_Book___init__ ?i_Book___init__ ?l_Book___init__ ?c_Book___init__ ?k_Book___init__ ?a_Book_amount ?a_Book_rows ?a_Book_change ?lT_Book ?vT_Book ?z_isinstance ?z_int ?z_bool ?z_str ?z_tuple ?z_len ?z_sum ?z_list ?z_range ?z_max ?z_min ?z_sorted ?z_dict ?z_zip ?y_MOST
  (case a_is_alive=>refine' KL.FA.of ?a ?l ?c ?k;(case a=>k_is);(case l=>k_is);(case c=>k_is);case k=>k_is)
  (case a_done_changes=>refine' KL.FA.of ?a ?l ?c ?k;(case a=>k_is);(case l=>k_is);(case c=>k_is);case k=>k_is)
  (case a_changes_of=>refine' KL.FA.of ?a ?l ?c ?k;(case a=>k_is);(case l=>k_is);(case c=>k_is);case k=>k_is)
  (case a_risen=>refine' KL.FA.of ?a ?l ?c ?k;(case a=>k_is);(case l=>k_is);(case c=>k_is);case k=>k_is)
  (case a_by_numbers=>refine' KL.FA.of ?a ?l ?c ?k;(case a=>k_is);(case l=>k_is);(case c=>k_is);case k=>k_is)
  (case a_first_book=>refine' KL.FA.of ?a ?l ?c ?k;(case a=>k_is);(case l=>k_is);(case c=>k_is);case k=>k_is)
  (case a_risen_book=>refine' KL.FA.of ?a ?l ?c ?k;(case a=>k_is);(case l=>k_is);(case c=>k_is);case k=>k_is)
  (case a_risen_kept=>refine' KL.FA.of ?a ?l ?c ?k;(case a=>k_is);(case l=>k_is);(case c=>k_is);case k=>k_is)
  (case a_folded=>refine' KL.FA.of ?a ?l ?c ?k;(case a=>k_is);(case l=>k_is);(case c=>k_is);case k=>k_is)
  (case a_still_kept=>refine' KL.FA.of ?a ?l ?c ?k;(case a=>k_is);(case l=>k_is);(case c=>k_is);case k=>k_is)
  (case a_came_again=>refine' KL.FA.of ?a ?l ?c ?k;(case a=>k_is);(case l=>k_is);(case c=>k_is);case k=>k_is)
  (case a_law_deck=>refine' KL.FA.of ?a ?l ?c ?k;(case a=>k_is);(case l=>k_is);(case c=>k_is);case k=>k_is)
  (case a_law_draw=>refine' KL.FA.of ?a ?l ?c ?k;(case a=>k_is);(case l=>k_is);(case c=>k_is);case k=>k_is)
  (case a_law_unlike=>refine' KL.FA.of ?a ?l ?c ?k;(case a=>k_is);(case l=>k_is);(case c=>k_is);case k=>k_is)
  (case a_law_end=>refine' KL.FA.of ?a ?l ?c ?k;(case a=>k_is);(case l=>k_is);(case c=>k_is);case k=>k_is)
  (case a_law_deed=>refine' KL.FA.of ?a ?l ?c ?k;(case a=>k_is);(case l=>k_is);(case c=>k_is);case k=>k_is)
  (case a_law_words=>refine' KL.FA.of ?a ?l ?c ?k;(case a=>k_is);(case l=>k_is);(case c=>k_is);case k=>k_is)
  (case a_law_answer=>refine' KL.FA.of ?a ?l ?c ?k;(case a=>k_is);(case l=>k_is);(case c=>k_is);case k=>k_is)
  (case a_law_menus=>refine' KL.FA.of ?a ?l ?c ?k;(case a=>k_is);(case l=>k_is);(case c=>k_is);case k=>k_is)
  (case a_law_spot=>refine' KL.FA.of ?a ?l ?c ?k;(case a=>k_is);(case l=>k_is);(case c=>k_is);case k=>k_is)
  (case a_law_kept=>refine' KL.FA.of ?a ?l ?c ?k;(case a=>k_is);(case l=>k_is);(case c=>k_is);case k=>k_is)
  (case a_law_head=>refine' KL.FA.of ?a ?l ?c ?k;(case a=>k_is);(case l=>k_is);(case c=>k_is);case k=>k_is)
  (case a_law_early=>refine' KL.FA.of ?a ?l ?c ?k;(case a=>k_is);(case l=>k_is);(case c=>k_is);case k=>k_is)
  (case a_law_lates=>refine' KL.FA.of ?a ?l ?c ?k;(case a=>k_is);(case l=>k_is);(case c=>k_is);case k=>k_is)
  (case a_law_changes=>refine' KL.FA.of ?a ?l ?c ?k;(case a=>k_is);(case l=>k_is);(case c=>k_is);case k=>k_is)
  (case a_law_changed=>refine' KL.FA.of ?a ?l ?c ?k;(case a=>k_is);(case l=>k_is);(case c=>k_is);case k=>k_is)
  (case a_law_sized=>refine' KL.FA.of ?a ?l ?c ?k;(case a=>k_is);(case l=>k_is);(case c=>k_is);case k=>k_is)
  (case a_law_right=>refine' KL.FA.of ?a ?l ?c ?k;(case a=>k_is);(case l=>k_is);(case c=>k_is);case k=>k_is)
  (case a_law_lived=>refine' KL.FA.of ?a ?l ?c ?k;(case a=>k_is);(case l=>k_is);(case c=>k_is);case k=>k_is)
  (case a_law_some_head=>refine' KL.FA.of ?a ?l ?c ?k;(case a=>k_is);(case l=>k_is);(case c=>k_is);case k=>k_is)
  (case a_law_asked_fold=>refine' KL.FA.of ?a ?l ?c ?k;(case a=>k_is);(case l=>k_is);(case c=>k_is);case k=>k_is)
  (case a_law_book=>refine' KL.FA.of ?a ?l ?c ?k;(case a=>k_is);(case l=>k_is);(case c=>k_is);case k=>k_is)
  (case a_law_answers=>refine' KL.FA.of ?a ?l ?c ?k;(case a=>k_is);(case l=>k_is);(case c=>k_is);case k=>k_is)
  (case a_law_due=>refine' KL.FA.of ?a ?l ?c ?k;(case a=>k_is);(case l=>k_is);(case c=>k_is);case k=>k_is)
  (case a_law_same=>refine' KL.FA.of ?a ?l ?c ?k;(case a=>k_is);(case l=>k_is);(case c=>k_is);case k=>k_is)
  (case a_law=>k_is)
  (case l_law=>k_is)
  (case c_law=>k_is)
  (case k_law=>k_is)
  (case aC_Book=>k_is)
  (case pg_Book=>k_is)
  (case hd_Book=>k_is)
  (case po_Book=>k_is)
  (case sa_Book=>k_is)
  (case mk_Book=>k_is)
  (case kc_Book=>k_is)
  (case n_Book_amounts=>k_is)
  (case a_Book___init__=>k_is)
  (case i_Book___init__=>k_is)
  (case l_Book___init__=>k_is)
  (case c_Book___init__=>k_is)
  (case k_Book___init__=>k_is)
  (case a_Book_amount=>refine' KL.MA.of ?a ?i ?l ?c ?k;(case a=>k_is);(case i=>k_is);(case l=>k_is);(case c=>k_is);case k=>k_is)
  (case a_Book_rows=>refine' KL.MA.of ?a ?i ?l ?c ?k;(case a=>k_is);(case i=>k_is);(case l=>k_is);(case c=>k_is);case k=>k_is)
  (case a_Book_change=>refine' KL.MA.of ?a ?i ?l ?c ?k;(case a=>k_is);(case i=>k_is);(case l=>k_is);(case c=>k_is);case k=>k_is)
  (case lT_Book=>k_is)
  (case vT_Book=>exact rfl)
  (case z_isinstance=>k_is)
  (case z_int=>k_is)
  (case z_bool=>k_is)
  (case z_str=>k_is)
  (case z_tuple=>k_is)
  (case z_len=>k_is)
  (case z_sum=>k_is)
  (case z_list=>k_is)
  (case z_range=>k_is)
  (case z_max=>k_is)
  (case z_min=>k_is)
  (case z_sorted=>k_is)
  (case z_dict=>k_is)
  (case z_zip=>k_is)
  (case y_MOST=>k_is)
