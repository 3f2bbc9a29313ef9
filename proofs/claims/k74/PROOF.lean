import PyProof.Rows.All
import Wide.All
import OpenK.AllK
import Wide.FinOn
import Lean
import PyProof.EqAt
import PyProof.EqKinds
import PyProof.TupleCall
import KE.KSortTup
import KE.KDictSum
import KE.KDictOf
import PyProof.AttrMissHeap
import OpenK.KRaise
import KE.KIsAll
import KE.KTryMore
import KE.RegKIsAll
import KE.RegKTryMore
import PyProof.NsDelKeeps
import PyProof.ExcArgs
import PyProof.FitsReplace
import PyProof.Rows.StrJoin2
import PySem.Challenge.RW_oncedoor_k74_rows_not_whole
set_option Elab.async false
set_option linter.all false
set_option maxRecDepth 100000
set_option maxHeartbeats 4000000
theorem Zk {p:Prop} (h:p:=by decide +kernel):p:=h
theorem Zo {p:Prop} (h:p:=by omega):p:=h
theorem Zs {p:Prop} (h:p:=by simp):p:=h
theorem Zd {p:Prop} (h:p:=by decide):p:=h
def aZ:=@List.length_map
def eP:=@PySem.Heap.get?_push_of_some
def Zgs:=@List.getElem?_eq_some_iff
def gZ:=@List.getElem?_eq_getElem
def oP:=@List.mem_cons_of_mem
def Zmm:=@List.mem_map
def iB:=@List.map_append
def kM:=@List.length_append
def jC:=@List.getElem?_map
def kN:=@Nat.le_trans
def jI:=@List.mem_cons_self
def eB:=@List.size_toArray
def jD:=@List.length_take
def vR:=@List.take_of_length_le
def Zma:=@List.mem_append
def Zms:=@List.mem_singleton
def vS:=@List.length_cons
def oZ:=@Nat.lt_of_le_of_lt
def bQ:=@Nat.le_refl
def jW:=@List.mem_of_getElem?
namespace L2
open PySem PySem.Spec PyProof.Rows
abbrev bA:=Sum Int Str
def kO:bA->Value->Bool
 | .inl k,v=>Value.isInt k v
 | .inr x,v=>Value.isStrOf x v
def Yq (w:World):bA->Int
 | .inl k=>hashInt k
 | .inr x=>hashStr w x
theorem bM:∀ {k:bA} {v:Value},kO k v=true->(∃i t,k=Sum.inl i/\v=Value.int i t)∨(∃x t,k=Sum.inr x/\v=Value.str x t)
 | .inl i,v,h=>by
  obtain⟨t,e⟩:=Value.isInt_shape (k:=i) (v:=v) h
  exact .inl ⟨i,t,rfl,e⟩
 | .inr x,v,h=>by
  obtain⟨t,e⟩:=Value.isStrOf_shape (x:=x) (v:=v) h
  exact .inr ⟨x,t,rfl,e⟩
theorem Cs (i:Int) (t:Tok):kO (.inl i) (.int i t)=true:=by simp [kO,Value.isInt]
theorem Ct (x:Str) (t:Tok):kO (.inr x) (.str x t)=true:=by simp [kO,Value.isStrOf]
theorem Tk (a b:Int):decide ((Sum.inl a:bA)=Sum.inl b)=(a == b):=by
 by_cases e:a=b
 ·subst e;simp
 ·have h:¬ (Sum.inl a:bA)=Sum.inl b:=fun q=>e (Sum.inl.inj q)
  rw[decide_eq_false h];exact(beq_eq_false_iff_ne.mpr e).symm
theorem Tl (a b:Str):decide ((Sum.inr a:bA)=Sum.inr b)=decide (a=b):=by
 by_cases e:a=b
 ·subst e;simp
 ·have h:¬ (Sum.inr a:bA)=Sum.inr b:=fun q=>e (Sum.inr.inj q)
  rw[decide_eq_false h,decide_eq_false e]
theorem Tm (a:Int) (b:Str):decide ((Sum.inl a:bA)=Sum.inr b)=false:=decide_eq_false (fun q=>nomatch q)
theorem Tn (a:Str) (b:Int):decide ((Sum.inr a:bA)=Sum.inl b)=false:=decide_eq_false (fun q=>nomatch q)
def aT (prog:Program) (w:World):PySem.KeyKind prog w bA where
 is:=kO
 hash:=Yq w
 inj:=fun v a b ha hb=>by
  rcases bM ha with⟨i,t,rfl,rfl⟩ | ⟨x,t,rfl,rfl⟩
  ·rcases bM hb with⟨j,u,rfl,e⟩ | ⟨y,u,rfl,e⟩
   ·injection e with e1 _;rw[e1]
   ·exact nomatch e
  ·rcases bM hb with⟨j,u,rfl,e⟩ | ⟨y,u,rfl,e⟩
   ·exact nomatch e
   ·injection e with e1 _;rw[e1]
 byValue:=fun k v h=>by
  rcases bM h with⟨i,t,rfl,rfl⟩ | ⟨x,t,rfl,rfl⟩ <;> rfl
 pyHash:=fun hv h=>by
  rcases bM hv with⟨i,t,rfl,rfl⟩ | ⟨x,t,rfl,rfl⟩
  ·exact wpAny_pyHash_int h
  ·exact wpAny_pyHash_str h
 eqBool:=fun hu hv h=>by
  rcases bM hu with⟨i,t,rfl,rfl⟩ | ⟨x,t,rfl,rfl⟩
  ·rcases bM hv with⟨j,u,rfl,rfl⟩ | ⟨y,u,rfl,rfl⟩
   ·rw[Tk]at h;exact wpAny_eqBool_int h
   ·rw[Tm]at h;exact SeqAt.EqAt.int_str i t y u _ _ _ _ h
  ·rcases bM hv with⟨j,u,rfl,rfl⟩ | ⟨y,u,rfl,rfl⟩
   ·rw[Tn]at h;exact SeqAt.EqAt.str_int x t j u _ _ _ _ h
   ·rw[Tl]at h;exact wpAny_eqBool_str h
 «strs»:=fun k x t v h=>by
  rcases bM h with⟨i,u,rfl,e⟩ | ⟨y,u,rfl,e⟩
  ·exact nomatch e
  ·injection e with e1 _
   subst e1;cases v <;> rfl
theorem vU (prog:Program) (w:World) (i:Int) (t:Tok):(aT prog w).is (.inl i) (.int i t)=true:=Cs i t
theorem vV (prog:Program) (w:World) (x:Str) (t:Tok):(aT prog w).is (.inr x) (.str x t)=true:=Ct x t
end L2
namespace L2
open PySem PySem.Spec PyProof.Rows
inductive V where
 | non | bl (b:Bool) | int (i:Int) | str (x:Str) | byt (b:Array UInt8) | flt (b:UInt64) | ref (a:Addr) | ty (n:String)
 deriving DecidableEq
def RelV:V->Value->Prop
 | .non,u=>u=Value.none
 | .bl b,u=>u=Value.bool b
 | .int i,u=>∃t,u=Value.int i t
 | .str x,u=>∃t,u=Value.str x t
 | .byt b,u=>∃t,u=Value.bytes b t
 | .flt b,u=>∃t,u=Value.float b t
 | .ref a,u=>u=Value.ref a
 | .ty n,u=>u=Value.type n
abbrev Vals:List V->List Value->Prop:=Paired RelV
theorem Vals.length {xs:List V} {us:List Value} (r:Vals xs us):xs.length=us.length:=Paired.length r
theorem Vals.get:∀ {xs:List V} {us:List Value} {i:Nat} {x:V},Vals xs us->xs[i]?=some x->∃u,us[i]?=some u/\RelV x u
 | _,_,_,_,.nil,e=>by simp at e
 | _,_,0,_,.cons r _,e=>by simp at e;subst e;exact⟨_,rfl,r⟩
 | _,_,i+1,x,.cons _ t,e=>by
  obtain⟨u,h1,h2⟩:=Vals.get (i:=i) (x:=x) t (by simpa using e)
  exact⟨u,by simpa using h1,h2⟩
theorem Vals.set {x:V} {u:Value} (r:RelV x u):∀ {xs:List V} {us:List Value} (i:Nat),Vals xs us->Vals (xs.set i x) (us.set i u)
 | _,_,_,.nil=>.nil
 | _,_,0,.cons _ t=>.cons r t
 | _,_,i+1,.cons q t=>.cons q (Vals.set r i t)
theorem Vals.append:∀ {xs ys:List V} {us ws:List Value},Vals xs us->Vals ys ws->Vals (xs++ys) (us++ws)
 | _,_,_,_,.nil,s=>s
 | _,_,_,_,.cons r t,s=>.cons r (Vals.append t s)
theorem Vals.take:∀ {xs:List V} {us:List Value} (n:Nat),Vals xs us->Vals (xs.take n) (us.take n)
 | _,_,0,_=>.nil
 | _,_,_+1,.nil=>.nil
 | _,_,n+1,.cons r t=>.cons r (Vals.take n t)
theorem Vals.drop:∀ {xs:List V} {us:List Value} (n:Nat),Vals xs us->Vals (xs.drop n) (us.drop n)
 | _,_,0,r=>r
 | _,_,_+1,.nil=>.nil
 | _,_,n+1,.cons _ t=>Vals.drop n t
def RelO:Option V->Option Value->Prop
 | some v,some u=>RelV v u
 | none,none=>True
 | _,_=>False
def KV {κ:Type}:List (κ × V)->List (κ × Value)->Prop:=Paired fun(p:κ × V) (q:κ × Value)=>p.1=q.1/\RelV p.2 q.2
def kV:bA->V
 | .inl i=>.int i
 | .inr x=>.str x
inductive HO where
 /-- a list -/
 | lst (xs:List V)
 /-- a tuple (never changes) -/
 | tup (xs:List V)
 /-- a dict whose keys are ints and texts;one whose keys are tuples of ints and texts (the empty one is both) -/
 | dK (kvs:List (bA × V)) | dT (kvs:List (List bA × V))
 /-- a set of ints: its members,its size -/
 | set (S:Int->Bool) (n:Nat)
 /-- an instance of the class at C,its dict at dx,its attributes -/
 | ins (C dx:Addr) (fs:List (Str × V))
 /-- the dict of the instance at x -/
 | own (x:Addr)
 /-- the dict of an exception -/
 | xd (fs:List (Str × V))
 /-- a bound method,f of x -/
 | met (f x:Addr)
 /-- a range object lo,lo+1,.. below hi -/
 | rng (lo hi:Int)
 /-- a thing that is known to the object (the script;a dict while a loop walks it): read,never written while it is so -/
 | frz (o:Obj) (u:HO)
 /-- a code object's table -/
 | tbl (ps:Array Value)
 /-- any other thing,by what is true of its one object (a def of one's own: SetO a S n:=HO.ext fun h=>..) -/
 | ext (φ:Heap->Prop)
abbrev Hp:=Addr->Option HO
def aI (H:Hp) (a:Addr) (o:HO):Hp:=fun b=>if b=a then some o else H b
theorem aA {H:Hp} {a:Addr} {o:HO}:aI H a o a=some o:=by unfold aI;rw[if_pos rfl]
theorem aD {H:Hp} {a b:Addr} {o:HO} (h:b≠a):aI H a o b=H b:=by unfold aI;rw[if_neg h]
theorem fW {H:Hp} {a b:Addr} {o u:HO} (h:H a=some o) (h':H b=some u) (d:o≠u):a≠b:=by
 intro e;subst e;rw[h]at h';exact d (Option.some.inj h')
theorem aE {H:Hp} {a b:Addr} {o:HO} (h:H a=some o) (h':H b=none):a≠b:=by
 intro e;subst e;rw[h]at h';cases h'
section
variable (P:Program) (w:World)
def ObjOk (H:Hp) (h:Heap) (a:Addr):HO->Prop
 | .lst xs=>xs.length<=sizeLine/\∃(its:List Value) (n:Nat),Vals xs its/\h.get? a=some {cls:=.type "list",data:=.seq its.toArray n }
 | .tup xs=>xs.length<=sizeLine/\∃its:List Value,Vals xs its/\IsTup h a its.toArray
 | .dK kvs=>kvs.length<=sizeLine/\(a == sysModules)=false/\∃vs,KV kvs vs/\h.DictOf (aT P w) a vs
 | .dT kvs=>kvs.length<=sizeLine/\(a == sysModules)=false/\∃xs:List (List bA × Addr × Value),
   Paired (fun(p:List bA × V) (q:List bA × Addr × Value)=>p.1=q.1/\H q.2.1=some (.tup (p.1.map kV))/\RelV p.2 q.2.2) kvs xs ∧
   ∃o es ep,h.get? a=some o/\o.ExactDict/\o.data=.dict es ep/\es.toList=xs.map (entryOfKey (tupleKind (aT P w)))/\(xs.map (·.1)).Nodup
 | .set S n=>h.SetOf (intKind P w) a S n
 | .ins C dx fs=>H dx=some (.own a)/\fs.length<=1000/\dx≠a/\h.get? a=some (W.instObj C dx) ∧
   ∃mA,h.Ns1 dx mA/\(∀f,RelO (fs.lookup f) (mA f))/\PySem.Within mA (fs.map (·.1))
 | .own _=>∃o,h.get? a=some o
 | .xd fs=>∃mA,h.Ns1 a mA/\∀f,RelO (fs.lookup f) (mA f)
 | .rng lo hi=>∃t u v,h.get? a=some {cls:=.type "range",data:=.fields #[.int lo t,.int hi u,.int 1 v] }
 | .frz o u=>h.get? a=some o/\ObjOk H h a u
 | .tbl ps=>h.get? a=some {cls:=.none,data:=.fields ps }
 | .met f x=>h.get? a=some (W.methodObj (.ref f) (.ref x))
 | .ext φ=>φ h/\(∃o,h.get? a=some o)/\∀h1 h2:Heap,φ h1->(∀o,h1.get? a=some o->h2.get? a=some o)->φ h2
def HOk (H:Hp) (h:Heap):Prop:=∀a o,H a=some o->ObjOk P w H h a o
end
section
variable {P:Program} {w:World} {H H':Hp} {h h':Heap} {a:Addr} {o:HO}
theorem ObjOk.lt (x:ObjOk P w H h a o):a<h.objs.size:=by
 cases o with
 | lst xs=>obtain⟨_,_,_,_,e⟩:=x;exact Heap.lt_size e
 | tup xs=>obtain⟨_,_,_,p⟩:=x;exact p.lt
 | dK kvs=>obtain⟨_,_,_,_,o,_,_,e,_⟩:=x;exact Heap.lt_size e
 | dT kvs=>obtain⟨_,_,_,_,o,_,_,e,_⟩:=x;exact Heap.lt_size e
 | set S n=>obtain⟨o,_,_,_,e,_⟩:=x;exact Heap.lt_size e
 | ins C dx fs=>obtain⟨_,_,_,e,_⟩:=x;exact Heap.lt_size e
 | own y=>obtain⟨_,e⟩:=x;exact Heap.lt_size e
 | xd fs=>obtain⟨_,⟨_,_,_,e,_⟩,_⟩:=x;exact Heap.lt_size e
 | rng lo hi=>obtain⟨_,_,_,e⟩:=x;exact Heap.lt_size e
 | frz ob u=>obtain⟨e,_⟩:=x;exact Heap.lt_size e
 | tbl ps=>exact Heap.lt_size (show h.get? a=some _ from x)
 | met f y=>exact Heap.lt_size (show h.get? a=some _ from x)
 | ext φ=>obtain⟨_,⟨_,e⟩,_⟩:=x;exact Heap.lt_size e
theorem Paired.mapP {α β:Type} {F G:α->β->Prop}:∀ {l₁:List α} {l₂:List β},Paired F l₁ l₂->(∀a b,F a b->G a b)->Paired G l₁ l₂
 | _,_,.nil,_=>.nil
 | _,_,.cons r t,f=>.cons (f _ _ r) (Paired.mapP t f)
theorem ObjOk.stay (x:ObjOk P w H h a o) (k:∀b u,(b=a∨H b=some (.own a))->h.get? b=some u->h'.get? b=some u)
  (ho:∀b,H b=some (.own a)->H' b=some (.own a)) (ht:∀b xs,H b=some (.tup xs)->H' b=some (.tup xs)):ObjOk P w H' h' a o:=by
 induction o with
 | lst xs=>obtain⟨z,its,n,r,e⟩:=x;exact⟨z,its,n,r,k _ _ (.inl rfl) e⟩
 | tup xs=>obtain⟨z,its,r,ob,e,c⟩:=x;exact⟨z,its,r,ob,k _ _ (.inl rfl) e,c⟩
 | dK kvs=>obtain⟨z,y,vs,r,ob,es,ep,e,c⟩:=x;exact⟨z,y,vs,r,ob,es,ep,k _ _ (.inl rfl) e,c⟩
 | dT kvs=>
  obtain⟨z,y,xs,r,ob,es,ep,e,c⟩:=x
  exact⟨z,y,xs,Paired.mapP r fun p q z=>⟨z.1,ht _ _ z.2.1,z.2.2⟩,ob,es,ep,k _ _ (.inl rfl) e,c⟩
 | set S n=>obtain⟨ob,es,ep,t,e,c⟩:=x;exact⟨ob,es,ep,t,k _ _ (.inl rfl) e,c⟩
 | ins C dx fs=>
  obtain⟨d,z,ne,e,mA,⟨od,es,ep,e2,c⟩,r⟩:=x
  exact⟨ho _ d,z,ne,k _ _ (.inl rfl) e,mA,⟨od,es,ep,k _ _ (.inr d) e2,c⟩,r⟩
 | own y=>obtain⟨ob,e⟩:=x;exact⟨ob,k _ _ (.inl rfl) e⟩
 | xd fs=>obtain⟨mA,⟨od,es,ep,e,c⟩,r⟩:=x;exact⟨mA,⟨od,es,ep,k _ _ (.inl rfl) e,c⟩,r⟩
 | rng lo hi=>obtain⟨t,u,v,e⟩:=x;exact⟨t,u,v,k _ _ (.inl rfl) e⟩
 | frz ob u ih=>obtain⟨e,q⟩:=x;exact⟨k _ _ (.inl rfl) e,ih q⟩
 | tbl ps=>
  have e:h.get? a=some {cls:=.none,data:=.fields ps }:=x
  show h'.get? a=some {cls:=.none,data:=.fields ps }
  exact k a _ (.inl rfl) e
 | met f y=>
  have e:h.get? a=some (W.methodObj (.ref f) (.ref y)):=x
  show h'.get? a=some (W.methodObj (.ref f) (.ref y))
  exact k a _ (.inl rfl) e
 | ext φ=>obtain⟨p,⟨o,e⟩,st⟩:=x;exact⟨st _ _ p fun o q=>k _ _ (.inl rfl) q,⟨o,k _ _ (.inl rfl) e⟩,st⟩
theorem HOk.lt (x:HOk P w H h) (e:H a=some o):a<h.objs.size:=(x a o e).lt
theorem HOk.fresh (x:HOk P w H h) (e:h.objs.size<=a):H a=none:=by
 cases q:H a with
 | none=>rfl
 | some u=>exact absurd (Nat.lt_of_lt_of_le (x.lt q) e) (Nat.lt_irrefl _)
theorem HOk.kept (x:HOk P w H h) (k:∀b u,h.get? b=some u->h'.get? b=some u):HOk P w H h':=fun a o e=>
 (x a o e).stay (fun b u _ q=>k b u q) (fun _ q=>q) fun _ _ q=>q
theorem HOk.laid (x:HOk P w H h) (k:∀b u,h.get? b=some u->h'.get? b=some u) (hp:h.objs.size<=a) (new:ObjOk P w (aI H a o) h' a o):HOk P w (aI H a o) h':=fun b u e=>by
 have hn:=x.fresh hp
 by_cases hb:b=a
 ·subst hb;rw[aA]at e;cases e;exact new
 ·rw[aD hb]at e;exact(x b u e).stay (fun c v _ q=>k c v q) (fun c q=>by rw[aD (aE q hn)];exact q) fun c xs q=>by rw[aD (aE q hn)];exact q
end
def Rd (H:Hp) (a:Addr) (u:HO):Prop:=H a=some u∨∃o,H a=some (.frz o u)
theorem Rd.ok {P:Program} {w:World} {H:Hp} {h:Heap} {a:Addr} {u:HO} (r:Rd H a u) (x:HOk P w H h):ObjOk P w H h a u:=by
 rcases r with r | ⟨o,r⟩
 ·exact x a u r
 ·obtain⟨_,q⟩:=x a _ r
  exact q
def Yr:Option HO->Prop
 | some (.lst _)=>True
 | some (.dK _)=>True
 | some (.dT _)=>True
 | some (.set _ _)=>True
 | some (.ins _ _ _)=>True
 | some (.ext _)=>True
 | _=>False
section
variable {P:Program} {w:World} {H:Hp} {h h':Heap} {x e:Addr} {o':HO}
theorem HOk.write (ok:HOk P w H h) (mu:Yr (H x)) (he:e=x∨H e=some (.own x)) (k:∀b u,b≠e->h.get? b=some u->h'.get? b=some u) (heo:∃u,h'.get? e=some u)
  (new:ObjOk P w (aI H x o') h' x o'):HOk P w (aI H x o') h':=fun b u q=>by
 have nown:∀c y,H c=some (.own y)->c≠x:=fun c y r z=>by subst z;rw[r]at mu;exact mu
 have ntup:∀c xs,H c=some (.tup xs)->c≠x:=fun c xs r z=>by subst z;rw[r]at mu;exact mu
 by_cases hb:b=x
 ·subst hb;rw[aA]at q;cases q;exact new
 ·rw[aD hb]at q;by_cases hbe:b=e
  ·have q':H b=some (.own x):=by
    rcases he with z | z
    ·exact absurd (hbe.trans z) hb
    ·rw[hbe];exact z
   rw[q]at q';cases q'
   obtain⟨v,hv⟩:=heo
   exact⟨v,by rw[hbe];exact hv⟩
  ·refine(ok b u q).stay (fun c v hc r=>k c v ?_ r) (fun c r=>by rw[aD (nown c b r)];exact r) fun c xs r=>by rw[aD (ntup c xs r)];exact r
   rcases hc with rfl | hc
   ·exact hbe
   ·rintro rfl
    rcases he with z | z
    ·exact nown c b hc z
    ·rw[hc]at z;cases z;exact hb rfl
end
structure Un (fs ex:List Addr) (H H':Hp) (h h':Heap):Prop where
 keep:∀b o,h.get? b=some o->H b=none->b∉fs->b∉ex->h'.get? b=some o
 slot:∀b o,h.get? b=some o->H b=none->b∈fs->b∉ex->∃sl,h'.get? b=some {o with slots:=sl }
 free:∀b o,h.get? b=some o->H b=none->b∉ex->H' b=none
 there:∀b o,h.get? b=some o->b∉ex->∃o',h'.get? b=some o'
 tups:∀b xs,H b=some (.tup xs)->H' b=some (.tup xs)
 frzs:∀b o u,H b=some (.frz o u)->H' b=some (.frz o u)
 tbls:∀b ps,H b=some (.tbl ps)->∃more,H' b=some (.tbl (ps++more))
section
variable {fs fs' ex ex':List Addr} {H H1 H2:Hp} {h h1 h2 h':Heap} {a x e:Addr} {o:HO}
theorem Un.any (u:Un fs ex H H1 h h1) {b:Addr} {ob:Obj} (q:h.get? b=some ob) (n:H b=none) (hx:b∉ex):∃sl,h1.get? b=some {ob with slots:=sl }:=by
 by_cases hb:b∈fs
 ·exact u.slot b ob q n hb hx
 ·exact⟨ob.slots,u.keep b ob q n hb hx⟩
theorem Un.kept (k:∀b u,h.get? b=some u->h'.get? b=some u):Un fs ex H H h h':=
 ⟨fun b ob q _ _ _=>k b ob q,fun b ob q _ _ _=>⟨ob.slots,k b ob q⟩,fun _ _ _ n _=>n,fun b ob q _=>⟨ob,k b ob q⟩,fun _ _ q=>q,fun _ _ _ q=>q,fun _ ps q=>⟨#[],by rw[q];simp⟩⟩
theorem Un.refl:Un fs ex H H h h:=Un.kept fun _ _ q=>q
theorem Un.laid (k:∀b u,h.get? b=some u->h'.get? b=some u) (hp:h.objs.size<=a) (hn:H a=none):Un fs ex H (aI H a o) h h' where
 keep:=fun b u q _ _ _=>k b u q
 slot:=fun b u q _ _ _=>⟨u.slots,k b u q⟩
 free:=fun b u q n _=>by rw[aD (Nat.ne_of_lt (Nat.lt_of_lt_of_le (Heap.lt_size q) hp))];exact n
 there:=fun b u q _=>⟨u,k b u q⟩
 tups:=fun b xs q=>by rw[aD (aE q hn)];exact q
 frzs:=fun b u xs q=>by rw[aD (aE q hn)];exact q
 tbls:=fun b ps q=>⟨#[],by rw[aD (aE q hn),q];simp⟩
theorem Un.write (mu:Yr (H x)) (he:e=x∨H e=some (.own x)) (k:∀b u,b≠e->h.get? b=some u->h'.get? b=some u) (heo:∃u,h'.get? e=some u):Un fs ex H (aI H x o) h h':=by
 have hx:∀b,H b=none->b≠x:=fun b n z=>by subst z;rw[n]at mu;exact mu
 have hb:∀b,H b=none->b≠e:=fun b n z=>by
  subst z;rcases he with r | r
  ·exact hx b n r
  ·rw[n]at r;cases r
 have hm:∀b u,H b=some u->¬ Yr (some u)->b≠x:=fun b u q nm z=>by subst z;rw[q]at mu;exact nm mu
 refine⟨fun b u q n _ _=>k b u (hb b n) q,fun b u q n _ _=>⟨u.slots,k b u (hb b n) q⟩,fun b u q n _=>by rw[aD (hx b n)];exact n,fun b u q _=>?_,
  fun b xs q=>by rw[aD (hm b _ q fun z=>z)];exact q,fun b u xs q=>by rw[aD (hm b _ q fun z=>z)];exact q,fun b ps q=>⟨#[],by rw[aD (hm b _ q fun z=>z),q];simp⟩⟩
 by_cases hbe:b=e
 ·subst hbe;exact heo
 ·exact⟨u,k b u hbe q⟩
end
def trk (h:Heap) (H:Hp):List Addr:=(List.range h.objs.size).filter fun a=>(H a).isSome
def tF (h:Heap) (H:Hp):Heap:=W.hideAll h (trk h H)
theorem Cu (h:Heap) (H:Hp):(tF h H).objs.size=h.objs.size:=W.hideAll_size _ _
theorem Fx {h:Heap} {H:Hp} {b:Addr} {o:Obj} (e:h.get? b=some o) (n:H b=none):(tF h H).get? b=some o:=
 W.hideAll_get _ e fun hm=>by
  have q:(H b).isSome=true:=(List.mem_filter.mp hm).2
  rw[n]at q;simp at q
theorem Nc {h:Heap} {H:Hp} {b:Addr} {o:Obj} (e:(tF h H).get? b=some o):h.get? b=some o/\H b=none:=by
 have e':h.get? b=some o:=W.of_hideAll (trk h H) e
 refine⟨e',?_⟩
 cases q:H b with
 | none=>rfl
 | some x=>
  have hm:b∈trk h H:=List.mem_filter.mpr ⟨List.mem_range.mpr (Heap.lt_size e'),by simp [q]⟩
  have z:(tF h H).get? b=none:=W.hideAll_none (trk h H) hm
  rw[z]at e;cases e
end L2
namespace L2
open PySem PySem.Spec PyProof.Rows
structure Mod (K:W.Frag) (mg:Str->Option Value) (base:Heap):Prop where
 kin:K.In base
 glob:base.Ns mainGlobals mg
 blt:∃mb,base.Ns builtinsNs mb/\∀x:Str,x≠"__name__"->mb x=bootBuiltins x
 nolimit:base.NoLimit
structure Cx where
 prog:Program
 w:World
 K:W.Frag
 mg:Str->Option Value
 base:Heap
 A:Around
 N:List Str
 s₀:Shared
 H₀:Hp
 env:Env
 outer:List Env
 stack:List Env
 ex:List Addr
 fn:Str->Bool
 calm:Bool
 pn:List (Addr × Obj)
 xe:Value->Shared->Prop
def jJ (l:List Env):List Addr:=l.filterMap (·.frame)
abbrev Cx.fs (X:Cx):List Addr:=jJ X.outer
def Ys (sc:Scope) (x:Str):Prop:=sc.names.lookup x=some .local∨sc.names.lookup x=some .cell∨sc.names.lookup x=some .free
def Fu (sc:Scope) (x:Str):Prop:=sc.names.lookup x=some .local∨sc.names.lookup x=some .cell
def aBm (env:Env) (h:Heap) (m:Str->Option Value) (x:Str) (u:Value):Prop:=
 (env.kindOf x=some .local/\m x=some u)∨((env.kindOf x=some .cell∨env.kindOf x=some .free)/\∃c,env.cells.lookup x=some c/\h.IsCell c (some u))
structure Cx.Ok (X:Cx):Prop where
 mod:Mod X.K X.mg X.base
 kind:X.env.scope.kind=.function
 glob:X.env.globals=mainGlobals
 blt:X.env.builtins=builtinsNs
 above:X.s₀.heap.objs.size<=X.env.locals
 inj:∀x y c,X.env.cells.lookup x=some c->X.env.cells.lookup y=some c->x=y
 has:∀x,(X.env.kindOf x=some .cell∨X.env.kindOf x=some .free)->∃c,X.env.cells.lookup x=some c
 cab:∀x c,X.fn x=true->X.env.cells.lookup x=some c->X.s₀.heap.objs.size<=c
 hd:X.calm=true->X.A.handled=none
 frames:X.A.frames=some X.stack
 stk:X.stack=X.outer∨(X.stack=X.env::X.outer/\X.env.frame=some X.env.locals)
 exf:∀b∈X.ex,b≠X.env.locals/\∀x c,X.env.cells.lookup x=some c->c≠b
 bs:∀b o,X.base.get? b=some o->X.s₀.heap.get? b=some o/\X.H₀ b=none
 bsz:X.base.objs.size<=X.s₀.heap.objs.size
 noex:∀b o,X.base.get? b=some o->b∉X.ex
 exfs:∀b∈X.ex,b∉X.fs
 funs:X.s₀.heap.FunFrames X.base X.outer
 frf:∀b∈X.fs,X.H₀ b=none
structure Inv (X:Cx) (pins:List (Addr × Obj)) (σ:List (Option V)) (H:Hp) (s:Shared):Prop where
 ok:X.Ok
 os:s.os=X.s₀.os
 bare:AllBare s.gens
 base:Un X.fs X.ex X.H₀ H X.s₀.heap s.heap
 loc:∃m,s.heap.Ns X.env.locals m/\∀(i:Nat) (x:Str) (v:V),X.N[i]?=some x->σ[i]?=some (some v)->Ys X.env.scope x->∃u,RelV v u/\aBm X.env s.heap m x u
 cell:∀x c,X.env.cells.lookup x=some c->∃v,s.heap.IsCell c v
 free:H X.env.locals=none
 freeC:∀x c,X.env.cells.lookup x=some c->H c=none
 pin:∀p∈X.pn++pins,s.heap.get? p.1=some p.2/\H p.1=none/\p.1≠X.env.locals/\p.1∉X.fs/\∀v,p.2.data≠.cell v
 hok:HOk X.prog X.w H s.heap
 len:σ.length=X.N.length
section
variable {X:Cx} {pins:List (Addr × Obj)} {σ:List (Option V)} {H H':Hp} {s:Shared} {h':Heap}
theorem Cx.Ok.nofr (ok:X.Ok) {b:Addr} {o:Obj} (e:X.base.get? b=some o):b∉X.fs:=fun hb=>by
 have:=(ok.funs.mem hb).1
 rw[e]at this;cases this
theorem Inv.bs (I:Inv X pins σ H s):∀b o,X.base.get? b=some o->s.heap.get? b=some o/\H b=none:=fun b o e=>
 ⟨I.base.keep b o (I.ok.bs b o e).1 (I.ok.bs b o e).2 (I.ok.nofr e) (I.ok.noex b o e),I.base.free b o (I.ok.bs b o e).1 (I.ok.bs b o e).2 (I.ok.noex b o e)⟩
theorem Inv.bk (I:Inv X pins σ H s):∀b o,X.base.get? b=some o->s.heap.get? b=some o:=fun b o e=>(I.bs b o e).1
theorem Inv.mod (I:Inv X pins σ H s):Mod X.K X.mg X.base:=I.ok.mod
theorem Inv.kIn (I:Inv X pins σ H s):X.K.In s.heap:=I.ok.mod.kin.keeps I.bk
theorem Inv.fr (I:Inv X pins σ H s):∃m,Fr X.base X.env.locals s.heap m:=
 let ⟨m,hn,_⟩:=I.loc
 ⟨m,hn,I.bk,kN I.ok.bsz I.ok.above⟩
theorem Inv.lt (I:Inv X pins σ H s):X.env.locals<s.heap.objs.size:=let ⟨_,hn,_⟩:=I.loc;hn.lt
theorem Inv.sz (I:Inv X pins σ H s):X.s₀.heap.objs.size<=s.heap.objs.size:=kN I.ok.above (Nat.le_of_lt I.lt)
theorem Inv.nofs (I:Inv X pins σ H s) {a:Addr} (h:s.heap.objs.size<=a):a∉X.fs:=fun hb=>by
 obtain⟨_,o,ho,_⟩:=I.ok.funs.mem hb
 exact absurd (Nat.lt_of_lt_of_le (Heap.lt_size ho) (kN I.sz h)) (Nat.lt_irrefl _)
theorem Inv.cne (I:Inv X pins σ H s):∀x c,X.env.cells.lookup x=some c->c≠X.env.locals:=fun x c e z=>by
 obtain⟨v,o,ho,hd⟩:=I.cell x c e
 obtain⟨m,⟨o',es,ep,ho',hd',_⟩,_⟩:=I.loc
 rw[z,ho']at ho;cases ho;rw[hd']at hd;cases hd
theorem Inv.funs (I:Inv X pins σ H s):s.heap.FunFrames X.base X.outer:=by
 have all:∀(l:List Env),(∀b∈jJ l,b∈X.fs)->X.s₀.heap.FunFrames X.base l->s.heap.FunFrames X.base l:=by
  intro l;induction l with
  | nil=>intro _ _;trivial
  | cons env r ih=>
   intro hs hl;obtain⟨hk,⟨L,o,hf,hn,ho,hd⟩,hr⟩:=hl
   have hL:L∈X.fs:=hs L (by unfold jJ;rw[List.filterMap_cons,hf];exact jI)
   obtain⟨sl,e⟩:=I.base.slot L o ho (I.ok.frf L hL) hL fun z=>I.ok.exfs L z hL
   exact⟨hk,⟨L,_,hf,hn,e,hd⟩,ih (fun b hb=>hs b (by unfold jJ;rw[List.filterMap_cons,hf];exact oP _ hb)) hr⟩
 exact all X.outer (fun _ hb=>hb) I.ok.funs
theorem Inv.stack (I:Inv X pins σ H s):s.heap.FunFrames X.base X.stack:=by
 rcases I.ok.stk with e | ⟨e,hf⟩
 ·rw[e];exact I.funs
 ·rw[e];obtain⟨m,hn,_⟩:=I.loc
  refine .cons (by rw[I.ok.kind];decide) hf hn ?_ I.funs
  exact Heap.get?_none_of_le (kN I.ok.bsz I.ok.above)
theorem Inv.stkSub (I:Inv X pins σ H s):∀b∈jJ X.stack,b∈X.env.locals::X.fs:=fun b hb=>by
 rcases I.ok.stk with e | ⟨e,hf⟩
 ·rw[e]at hb;exact oP _ hb
 ·rw[e]at hb;unfold jJ at hb;rw[List.filterMap_cons,hf]at hb;exact hb
theorem Inv.stkFree (I:Inv X pins σ H s):∀b∈jJ X.stack,H b=none:=fun b hb=>by
 rcases List.mem_cons.mp (I.stkSub b hb) with e | hb
 ·rw[e];exact I.free
 ·obtain⟨_,o,ho,_⟩:=I.ok.funs.mem hb
  exact I.base.free b o ho (I.ok.frf b hb) fun z=>I.ok.exfs b z hb
theorem Inv.step {g':Array GenState} {t':Nat} {d':Drawn} {ch:List Addr} (I:Inv X pins σ H s)
  (hch:∀b∈ch,(b∈X.ex∨X.s₀.heap.objs.size<=b)/\b≠X.env.locals/\(∀x c,X.env.cells.lookup x=some c->c≠b)/\∀p∈X.pn++pins,p.1≠b)
  (keep:∀b o,b≠X.env.locals->b∉X.fs->b∉ch->s.heap.get? b=some o->H b=none->h'.get? b=some o)
  (slot:∀b o,b≠X.env.locals->b∈X.fs->b∉ch->s.heap.get? b=some o->H b=none->∃sl,h'.get? b=some {o with slots:=sl }) (free:∀b o,b∉ch->s.heap.get? b=some o->H b=none->H' b=none)
  (there:∀b o,b∉ch->s.heap.get? b=some o->∃o',h'.get? b=some o')
  (tups:∀b xs,H b=some (.tup xs)->H' b=some (.tup xs)) (frzs:∀b o u,H b=some (.frz o u)->H' b=some (.frz o u)) (tbls:∀b ps,H b=some (.tbl ps)->∃more,H' b=some (.tbl (ps++more)))
  (ns:∀m,s.heap.Ns X.env.locals m->h'.Ns X.env.locals m) (hok:HOk X.prog X.w H' h') (hg:AllBare g') :
  Inv X pins σ H' {s with heap:=h',gens:=g',drawn:=d',toks:=t' }:=by
 have neL:∀b o,X.s₀.heap.get? b=some o->b≠X.env.locals:=fun b o e=>Nat.ne_of_lt (Nat.lt_of_lt_of_le (Heap.lt_size e) I.ok.above)
 have neC:∀b o,X.s₀.heap.get? b=some o->b∉X.ex->b∉ch:=fun b o e hx hb=>by
  rcases(hch b hb).1 with z | z
  ·exact hx z
  ·exact absurd (Nat.lt_of_lt_of_le (Heap.lt_size e) z) (Nat.lt_irrefl _)
 have cellK:∀x c,X.env.cells.lookup x=some c->∀v,s.heap.IsCell c v->h'.IsCell c v:=fun x c e v ⟨o,ho,hd⟩=>by
  have nch:c∉ch:=fun z=>(hch c z).2.2.1 x c e rfl
  by_cases hc:c∈X.fs
  ·obtain⟨sl,q⟩:=slot c o (I.cne x c e) hc nch ho (I.freeC x c e)
   exact⟨_,q,hd⟩
  ·exact⟨o,keep c o (I.cne x c e) hc nch ho (I.freeC x c e),hd⟩
 refine⟨I.ok,I.os,hg,⟨fun b o e n hb hx=>?_,fun b o e n hb hx=>?_,fun b o e n hx=>?_,fun b o e hx=>?_,fun b xs e=>tups b xs (I.base.tups b xs e),fun b o xs e=>frzs b o xs (I.base.frzs b o xs e),fun b ps e=>?_⟩,?_,fun x c e=>?_,?_,fun x c e=>?_,fun p hp=>?_,hok,I.len⟩
 ·exact keep b o (neL b o e) hb (neC b o e hx) (I.base.keep b o e n hb hx) (I.base.free b o e n hx)
 ·obtain⟨sl,e1⟩:=I.base.slot b o e n hb hx
  obtain⟨sl',e2⟩:=slot b _ (neL b o e) hb (neC b o e hx) e1 (I.base.free b o e n hx)
  exact⟨sl',e2⟩
 ·obtain⟨o',e1⟩:=I.base.there b o e hx
  exact free b o' (neC b o e hx) e1 (I.base.free b o e n hx)
 ·obtain⟨o',e1⟩:=I.base.there b o e hx
  exact there b o' (neC b o e hx) e1
 ·obtain⟨m1,e1⟩:=I.base.tbls b ps e
  obtain⟨m2,e2⟩:=tbls b _ e1
  exact⟨m1++m2,by rw[e2,Array.append_assoc]⟩
 ·obtain⟨m,hn,hl⟩:=I.loc
  refine⟨m,ns m hn,fun i x v e1 e2 e3=>?_⟩
  obtain⟨u,r,l⟩:=hl i x v e1 e2 e3
  refine⟨u,r,?_⟩
  rcases l with l | ⟨k,c,e,z⟩
  ·exact .inl l
  ·exact .inr ⟨k,c,e,cellK x c e _ z⟩
 ·obtain⟨v,z⟩:=I.cell x c e
  exact⟨v,cellK x c e v z⟩
 ·obtain⟨m,⟨o,_,_,ho,_⟩,_⟩:=I.loc
  exact free _ o (fun z=>(hch _ z).2.1 rfl) ho I.free
 ·obtain⟨v,o,ho,hd⟩:=I.cell x c e
  exact free c o (fun z=>(hch c z).2.2.1 x c e rfl) ho (I.freeC x c e)
 ·obtain⟨e,n,ne,nf,d⟩:=I.pin p hp
  have nch:p.1∉ch:=fun z=>(hch p.1 z).2.2.2 p hp rfl
  exact⟨keep p.1 p.2 ne nf nch e n,free p.1 p.2 nch e n,ne,nf,d⟩
theorem Inv.un {t':Nat} (I:Inv X pins σ H s) (u:Un X.fs [] H H' s.heap h') (hok:HOk X.prog X.w H' h'):Inv X pins σ H' {s with heap:=h',toks:=t' }:=by
 obtain⟨m,⟨o,es,ep,ho,r⟩,_⟩:=id I.loc
 obtain⟨sl,hL⟩:=u.any ho I.free Zs
 exact I.step (g':=s.gens) (d':=s.drawn) (ch:=[]) (fun _ z=>nomatch z) (fun b o _ hb _ e n=>u.keep b o e n hb Zs) (fun b o _ hb _ e n=>u.slot b o e n hb Zs) (fun b o _ e n=>u.free b o e n Zs) (fun b o _ e=>u.there b o e Zs) u.tups u.frzs u.tbls (fun m' hm=>by
  obtain⟨o',es',ep',ho',r'⟩:=hm
  rw[ho]at ho';cases ho'
  exact⟨_,es',ep',hL,r'⟩) hok I.bare
theorem Inv.call {g':Array GenState} {t':Nat} {d':Drawn} {ch:List Addr} (I:Inv X pins σ H s) (u:Un (jJ X.stack) ch H H' s.heap h') (hok:HOk X.prog X.w H' h') (hg:AllBare g')
  (hch:∀b∈ch,(b∈X.ex∨X.s₀.heap.objs.size<=b)/\b≠X.env.locals/\(∀x c,X.env.cells.lookup x=some c->c≠b)/\∀p∈X.pn++pins,p.1≠b) :
  Inv X pins σ H' {s with heap:=h',gens:=g',drawn:=d',toks:=t' }:=by
 obtain⟨m,⟨o,es,ep,ho,r⟩,_⟩:=id I.loc
 obtain⟨sl,hL⟩:=u.any ho I.free fun z=>(hch _ z).2.1 rfl
 exact I.step (ch:=ch) hch (fun b o hL hb hc e n=>u.keep b o e n (fun z=>(List.mem_cons.mp (I.stkSub b z)).elim hL hb) hc) (fun b o _ _ hc e n=>u.any e n hc) (fun b o hc e n=>u.free b o e n hc) (fun b o hc e=>u.there b o e hc) u.tups u.frzs u.tbls (fun m' hm=>by
  obtain⟨o',es',ep',ho',r'⟩:=hm
  rw[ho]at ho';cases ho'
  exact⟨_,es',ep',hL,r'⟩) hok hg
theorem Inv.turned {t':Nat} {it:Addr} (I:Inv X pins σ H s) (k:∀b o,b≠it->s.heap.get? b=some o->h'.get? b=some o) (hn:H it=none) (hL:it≠X.env.locals)
  (h1:it∈X.ex∨X.s₀.heap.objs.size<=it) (h2:∀x c,X.env.cells.lookup x=some c->c≠it) (h3:∀p∈X.pn++pins,p.1≠it):Inv X pins σ H {s with heap:=h',toks:=t' }:=by
 have nit:∀b u,H b=some u->b≠it:=fun b u e z=>by rw[z,hn]at e;cases e
 refine I.step (g':=s.gens) (d':=s.drawn) (ch:=[it]) (fun b hb=>?_) (fun b o _ _ hc e _=>k b o (fun z=>hc (by simp [z])) e) (fun b o _ _ hc e _=>⟨o.slots,k b o (fun z=>hc (by simp [z])) e⟩) (fun _ _ _ _ n=>n)
  (fun b o hc e=>⟨o,k b o (fun z=>hc (by simp [z])) e⟩) (fun _ _ e=>e) (fun _ _ _ e=>e) (fun b ps e=>⟨#[],by rw[e];simp⟩) (fun m hm=>?_) (fun b u e=>?_) I.bare
 ·have e:b=it:=by simpa using hb
  subst e;exact⟨h1,hL,h2,h3⟩
 ·obtain⟨o,es,ep,ho,r⟩:=hm
  exact⟨o,es,ep,k _ o (Ne.symm hL) ho,r⟩
 ·refine(I.hok b u e).stay (fun c v hc q=>k c v ?_ q) (fun _ q=>q) fun _ _ q=>q
  rcases hc with z | z
  ·rw[z];exact nit b u e
  ·exact nit c _ z
theorem Inv.tok (I:Inv X pins σ H s) (t:Nat):Inv X pins σ H {s with toks:=t }:=I.un (h':=s.heap) (t':=t) Un.refl I.hok
theorem Inv.kept {t':Nat} (I:Inv X pins σ H s) (k:∀b u,s.heap.get? b=some u->h'.get? b=some u):Inv X pins σ H {s with heap:=h',toks:=t' }:=I.un (Un.kept k) (I.hok.kept k)
theorem Inv.laid {a:Addr} {o:HO} {t':Nat} (I:Inv X pins σ H s) (k:∀b u,s.heap.get? b=some u->h'.get? b=some u) (hp:s.heap.objs.size<=a) (new:ObjOk X.prog X.w (aI H a o) h' a o) :
  Inv X pins σ (aI H a o) {s with heap:=h',toks:=t' }:=I.un (Un.laid k hp (I.hok.fresh hp)) (I.hok.laid k hp new)
theorem Inv.write {x e:Addr} {o:HO} {t':Nat} (I:Inv X pins σ H s) (mu:Yr (H x)) (he:e=x∨H e=some (.own x)) (k:∀b u,b≠e->s.heap.get? b=some u->h'.get? b=some u) (heo:∃u,h'.get? e=some u)
  (new:ObjOk X.prog X.w (aI H x o) h' x o):Inv X pins σ (aI H x o) {s with heap:=h',toks:=t' }:=I.un (Un.write mu he k heo) (I.hok.write mu he k heo new)
theorem Inv.weak {σ':List (Option V)} (I:Inv X pins σ H s) (hl:σ'.length=σ.length) (w:∀(i:Nat) v,σ'[i]?=some (some v)->σ[i]?=some (some v)):Inv X pins σ' H s:=
 ⟨I.ok,I.os,I.bare,I.base,let ⟨m,hn,hl'⟩:=I.loc;⟨m,hn,fun i x v e1 e2 e3=>hl' i x v e1 (w i v e2) e3⟩,I.cell,I.free,I.freeC,I.pin,I.hok,hl.trans I.len⟩
theorem Inv.pins_of {pins':List (Addr × Obj)} (I:Inv X pins σ H s) (h:∀p∈pins',s.heap.get? p.1=some p.2/\H p.1=none/\p.1≠X.env.locals/\p.1∉X.fs/\∀v,p.2.data≠.cell v):Inv X pins' σ H s:=
 ⟨I.ok,I.os,I.bare,I.base,I.loc,I.cell,I.free,I.freeC,fun p hp=>(Zma.mp hp).elim (fun z=>I.pin p (List.mem_append_left _ z)) (h p),I.hok,I.len⟩
theorem pA {N:List Str} (hN:N.Nodup) {i j:Nat} {x:Str} (a:N[i]?=some x) (b:N[j]?=some x):i=j:=by
 obtain⟨h1,e1⟩:=Zgs.mp a
 obtain⟨h2,e2⟩:=Zgs.mp b
 exact(List.getElem_inj hN).mp (e1.trans e2.symm)
theorem rQ {M:Model} {A:Around} {E:Value->Shared->Prop} {i:Nat} {x:Str} {v:V} {u:Value} {Q:Unit->Shared->Prop} (I:Inv X pins σ H s) (hN:X.N.Nodup) (hi:X.N[i]?=some x) (hx:Fu X.env.scope x) (r:RelV v u)
  (h:∀s',Inv X pins (σ.set i (some v)) H s'->(∃a,Heap.SameBut a s.heap s'.heap/\(a=X.env.locals∨X.env.cells.lookup x=some a))->Q () s') (hf:X.fn x=true∨X.env.scope.names.lookup x=some .local:=by first | exact .inl rfl | exact .inr rfl | assumption):wpAny M A (storeName X.env x u) Q E s:=by
 obtain⟨m,hn,hl⟩:=id I.loc
 have hcls:(X.env.scope.kind == .class||(X.env.scope.kind == .module&&X.env.locals != X.env.globals))=false:=by rw[I.ok.kind];rfl
 have hiσ:i<σ.length:=by rw[I.len];exact(Zgs.mp hi).1
 have cne:=I.cne
 have tracked:∀ {a:Addr} {h':Heap},(∃o,s.heap.get? a=some o/\H a=none)->Heap.SameBut a s.heap h'->HOk X.prog X.w H h':=fun {a h'} ha hs b ob e=>by
  obtain⟨_,_,hfree⟩:=ha
  refine(I.hok b ob e).stay (fun c w' hc q=>(hs.2 c ?_).trans q) (fun _ q=>q) fun _ _ q=>q
  rintro rfl
  rcases hc with rfl | hc
  ·rw[hfree]at e;cases e
  ·rw[hfree]at hc;cases hc
 rcases hx with hk | hk
 ·refine wpAny_storeName_local hk hn (fun h' hn' hs=>?_) hcls
  obtain⟨oL,_,_,hoL,_⟩:=id hn
  refine h _ ⟨I.ok,I.os,I.bare,⟨fun b o e n hb hx=>?_,fun b o e n hb hx=>?_,I.base.free,fun b o e hx=>?_,I.base.tups,I.base.frzs,I.base.tbls⟩,⟨_,hn',fun j y v' e1 e2 e3=>?_⟩,fun y c e=>?_,I.free,I.freeC,fun p hp=>?_,tracked ⟨oL,hoL,I.free⟩ hs,by simpa using I.len⟩ ⟨_,hs,.inl rfl⟩
  ·exact(hs.2 b (Nat.ne_of_lt (Nat.lt_of_lt_of_le (Heap.lt_size e) I.ok.above))).trans (I.base.keep b o e n hb hx)
  ·obtain⟨sl,e1⟩:=I.base.slot b o e n hb hx
   exact⟨sl,(hs.2 b (Nat.ne_of_lt (Nat.lt_of_lt_of_le (Heap.lt_size e) I.ok.above))).trans e1⟩
  ·obtain⟨o',e1⟩:=I.base.there b o e hx
   exact⟨o',(hs.2 b (Nat.ne_of_lt (Nat.lt_of_lt_of_le (Heap.lt_size e) I.ok.above))).trans e1⟩
  ·by_cases hj:j=i
   ·subst hj;rw[hi]at e1;cases e1
    rw[List.getElem?_set_self hiσ]at e2;cases e2
    exact⟨u,r,.inl ⟨hk,Zs⟩⟩
   ·rw[List.getElem?_set_ne (Ne.symm hj)]at e2;obtain⟨u',r',q⟩:=hl j y v' e1 e2 e3
    refine⟨u',r',?_⟩
    rcases q with⟨k,e⟩ | ⟨k,c,e,z⟩
    ·refine .inl ⟨k,?_⟩
     have:y≠x:=fun e=>hj (pA hN e1 (e ▸ hi))
     simp [this,e]
    ·exact .inr ⟨k,c,e,z.sameBut hs (cne y c e)⟩
  ·obtain⟨w',z⟩:=I.cell y c e
   exact⟨w',z.sameBut hs (cne y c e)⟩
  ·obtain⟨e,n,ne,nf,d⟩:=I.pin p hp
   exact⟨(hs.2 p.1 ne).trans e,n,ne,nf,d⟩
 ·have hfn:X.fn x=true:=by
   rcases hf with z | z
   ·exact z
   ·rw[z]at hk;cases hk
  obtain⟨c,hc⟩:=I.ok.has x (.inl hk)
  obtain⟨w',z⟩:=I.cell x c hc
  refine wpAny_storeName_cell I.ok.kind hk hc z (fun h' hc' hs=>?_)
  obtain⟨oc,hoc,hocd⟩:=id z
  refine h {s with heap:=h' } ⟨I.ok,I.os,I.bare,⟨fun b o e n hb hx=>?_,fun b o e n hb hx=>?_,I.base.free,fun b o e hx=>?_,I.base.tups,I.base.frzs,I.base.tbls⟩,⟨m,hn.sameBut hs (Ne.symm (cne x c hc)),fun j y v' e1 e2 e3=>?_⟩,fun y c' e=>?_,I.free,I.freeC,fun p hp=>?_,tracked ⟨oc,hoc,I.freeC x c hc⟩ hs,by simpa using I.len⟩ ⟨c,hs,.inr hc⟩
  ·exact(hs.2 b (Nat.ne_of_lt (Nat.lt_of_lt_of_le (Heap.lt_size e) (I.ok.cab x c hfn hc)))).trans (I.base.keep b o e n hb hx)
  ·obtain⟨sl,e1⟩:=I.base.slot b o e n hb hx
   exact⟨sl,(hs.2 b (Nat.ne_of_lt (Nat.lt_of_lt_of_le (Heap.lt_size e) (I.ok.cab x c hfn hc)))).trans e1⟩
  ·obtain⟨o',e1⟩:=I.base.there b o e hx
   exact⟨o',(hs.2 b (Nat.ne_of_lt (Nat.lt_of_lt_of_le (Heap.lt_size e) (I.ok.cab x c hfn hc)))).trans e1⟩
  ·by_cases hj:j=i
   ·subst hj;rw[hi]at e1;cases e1
    rw[List.getElem?_set_self hiσ]at e2;cases e2
    exact⟨u,r,.inr ⟨.inl hk,c,hc,hc'⟩⟩
   ·rw[List.getElem?_set_ne (Ne.symm hj)]at e2;obtain⟨u',r',q⟩:=hl j y v' e1 e2 e3
    refine⟨u',r',?_⟩
    rcases q with q | ⟨k,c',e,z'⟩
    ·exact .inl q
    ·refine .inr ⟨k,c',e,z'.sameBut hs ?_⟩
     rintro rfl
     exact hj (pA hN e1 (I.ok.inj _ _ _ e hc ▸ hi))
  ·by_cases hcc:c'=c
   ·subst hcc;exact⟨_,hc'⟩
   ·obtain⟨w2,z2⟩:=I.cell y c' e
    exact⟨w2,z2.sameBut hs hcc⟩
  ·obtain⟨e,n,ne,nf,d⟩:=I.pin p hp
   refine⟨(hs.2 p.1 ?_).trans e,n,ne,nf,d⟩
   intro q;rw[q,hoc]at e;have q':oc=p.2:=Option.some.inj e
   exact d w' (by rw[<- q'];exact hocd)
theorem lE {M:Model} {A:Around} {E:Value->Shared->Prop} {i:Nat} {x:Str} {v:V} {u:Value} {Q:Unit->Shared->Prop} (I:Inv X pins σ H s) (hN:X.N.Nodup) (hi:X.N[i]?=some x) (hx:Fu X.env.scope x) (r:RelV v u)
  (h:∀s',Inv X pins (σ.set i (some v)) H s'->Q () s') (hf:X.fn x=true∨X.env.scope.names.lookup x=some .local:=by first | exact .inl rfl | exact .inr rfl | assumption):wpAny M A (storeName X.env x u) Q E s:=
 rQ I hN hi hx r (fun s' I' _=>h s' I') hf
theorem Inv.call' {s':Shared} {ch:List Addr} (I:Inv X pins σ H s) (ho:s'.os=s.os) (u:Un (jJ X.stack) ch H H' s.heap s'.heap) (hok:HOk X.prog X.w H' s'.heap) (hg:AllBare s'.gens)
  (hch:∀b∈ch,(b∈X.ex∨X.s₀.heap.objs.size<=b)/\b≠X.env.locals/\(∀x c,X.env.cells.lookup x=some c->c≠b)/\∀p∈X.pn++pins,p.1≠b):Inv X pins σ H' s':=by
 obtain⟨h',g',d',t',o'⟩:=s'
 have e:o'=s.os:=ho
 subst e;exact I.call (g':=g') (t':=t') (d':=d') u hok hg hch
end
abbrev XK:=Value->Option Addr->Hp->Prop
abbrev St:=List (Option V)
abbrev VK:=V->Hp->Prop
abbrev TE:=St->Hp->VK->Prop
abbrev TT:=St->Hp->(Bool->Hp->Prop)->Prop
abbrev TA:=St->Hp->(List V->Hp->Prop)->Prop
structure kK where
 nx:St->Hp->Prop
 rt:VK
 bk:St->Hp->Prop:=fun _ _=>False
 ct:St->Hp->Prop:=fun _ _=>False
abbrev TS:=kK->St->Hp->Prop
def EP (X:Cx) (pins:List (Addr × Obj)) (σ:St) (Q:VK) (u:Value) (s':Shared):Prop:=∃v H',Inv X pins σ H' s'/\RelV v u/\Q v H'
def TP (X:Cx) (pins:List (Addr × Obj)) (σ:St) (Q:Bool->Hp->Prop) (b:Bool) (s':Shared):Prop:=∃H',Inv X pins σ H' s'/\Q b H'
def AP (X:Cx) (pins:List (Addr × Obj)) (σ:St) (Q:List V->Hp->Prop) (us:List Value) (s':Shared):Prop:=∃vs H',Inv X pins σ H' s'/\Vals vs us/\Q vs H'
def SP (X:Cx) (pins:List (Addr × Obj)) (D:kK) (f:Flow) (s':Shared):Prop:=
 match f with
 | .next=>∃ σ' H',Inv X pins σ' H' s'/\D.nx σ' H'
 | .brk=>∃ σ' H',Inv X pins σ' H' s'/\D.bk σ' H'
 | .cont=>∃ σ' H',Inv X pins σ' H' s'/\D.ct σ' H'
 | .ret u=>∃v σ' H',Inv X pins σ' H' s'/\RelV v u/\D.rt v H'
def PE (X:Cx) (e:Expr) (t:TE):Prop:=
 ∀(pins:List (Addr × Obj)) (s:Shared) (σ:St) (H:Hp) (Q:VK),Inv X pins σ H s->t σ H Q->wpAny (model X.prog X.w) X.A (eval e X.env) (EP X pins σ Q) X.xe s
def PT (X:Cx) (e:Expr) (t:TT):Prop:=
 ∀(pins:List (Addr × Obj)) (s:Shared) (σ:St) (H:Hp) (Q:Bool->Hp->Prop),Inv X pins σ H s->t σ H Q->wpAny (model X.prog X.w) X.A (isTrue e X.env (eval e X.env)) (TP X pins σ Q) X.xe s
def PW (X:Cx) (e:Expr) (t:TT):Prop:=
 ∀(whole:Sem Value) (pins:List (Addr × Obj)) (s:Shared) (σ:St) (H:Hp) (Q:Bool->Hp->Prop),Inv X pins σ H s->t σ H Q->wpAny (model X.prog X.w) X.A (isTrue e X.env whole) (TP X pins σ Q) X.xe s
theorem PW.pt {X:Cx} {e:Expr} {t:TT} (h:PW X e t):PT X e t:=h _
def PA (X:Cx) (es:List Expr) (t:TA):Prop:=
 ∀(pos:Pos) (pins:List (Addr × Obj)) (s:Shared) (σ:St) (H:Hp) (Q:List V->Hp->Prop),Inv X pins σ H s->t σ H Q->wpAny (model X.prog X.w) X.A (spliced (backTo pos (starEach es X.env))) (AP X pins σ Q) X.xe s
def PS (X:Cx) (st:Stmt) (t:TS):Prop:=
 ∀(pins:List (Addr × Obj)) (s:Shared) (σ:St) (H:Hp) (D:kK),Inv X pins σ H s->t D σ H->wpAny (model X.prog X.w) X.A (exec st X.env) (SP X pins D) X.xe s
def PSs (X:Cx) (st:List Stmt) (t:TS):Prop:=
 ∀(pins:List (Addr × Obj)) (s:Shared) (σ:St) (H:Hp) (D:kK),Inv X pins σ H s->t D σ H->wpAny (model X.prog X.w) X.A (execs st X.env) (SP X pins D) X.xe s
theorem bU {α:Type} {t:Sem α} {Q Q':α->Shared->Prop} {M:Model} {A:Around} {E:Value->Shared->Prop} {s:Shared} (h:wpAny M A t Q E s) (hQ:∀a s,Q a s->Q' a s):wpAny M A t Q' E s:=wpAny_mono h hQ fun _ _ x=>x
end L2
namespace L2
open PySem PySem.Spec PyProof.Rows
section
variable {X:Cx}
theorem bin {a b:Expr} {ta tb:TE} (ha:PE X a ta) (hb:PE X b tb) {pins:List (Addr × Obj)} {s:Shared} {σ:St} {H:Hp} {R:V->V->Hp->Prop} (I:Inv X pins σ H s) (h:ta σ H fun x H1=>tb σ H1 fun y H2=>R x y H2)
  {α:Type} {Q:α->Shared->Prop} {f:Value->Value->Sem α}
  (hf:∀v u s2 x y H2,Inv X pins σ H2 s2->RelV x v->RelV y u->R x y H2->wpAny (model X.prog X.w) X.A (f v u) Q X.xe s2) :
  wpAny (model X.prog X.w) X.A (eval a X.env) (fun v s₁=>wpAny (model X.prog X.w) X.A (eval b X.env) (fun u s₂=>wpAny (model X.prog X.w) X.A (f v u) Q X.xe s₂) X.xe s₁) X.xe s:=by
 refine bU (ha pins s σ H _ I h) fun v s1 ⟨x,H1,I1,r1,q1⟩=>?_
 refine bU (hb pins s1 σ H1 _ I1 q1) fun u s2 ⟨y,H2,I2,r2,q2⟩=>?_
 exact hf v u s2 x y H2 I2 r1 r2 q2
def To (i:Nat):TE:=fun σ H Q=>∃v,σ[i]?=some (some v)/\Q v H
def tC (v:V):TE:=fun _ H Q=>Q v H
theorem Tp {i:Nat} {x:Str} {pos:Pos} (hN:X.N[i]?=some x) (hv:Ys X.env.scope x) (hd:(x == ("__debug__":Str))=false:=by decide) (hcd:(x == ("__classdict__":Str))=false:=by decide):PE X (.Name x pos) (To i):=by
 intro pins s σ H Q I h;obtain⟨v,e,h⟩:=h
 obtain⟨m,hn,hl⟩:=I.loc
 obtain⟨u,r,l⟩:=hl i x v hN e hv
 have fin:EP X pins σ Q u s:=⟨v,H,I,r,h⟩
 rcases l with⟨hk,hm⟩ | ⟨hk,c,hc,hcell⟩
 ·exact wpAny_Name (wpAny_loadName_local I.ok.kind hk hn hm fin) hd
 ·rcases hk with hk | hk
  ·exact wpAny_Name (wpAny_loadName_cell I.ok.kind hk hc hcell fin) hd
  ·exact wpAny_Name (wpAny_loadName_free I.ok.kind hk hc hcell fin hcd) hd
theorem Tq {i j pos}:PE X (.Constant (.int i) j pos) (tC (.int i)):=fun _ _ _ H _ I h=>wpAny_Constant_int ⟨.int i,H,I.tok _,⟨_,rfl⟩,h⟩
theorem Yt {b j pos}:PE X (.Constant (.bool b) j pos) (tC (.bl b)):=fun _ _ _ H _ I h=>Constant_bool ⟨.bl b,H,I,rfl,h⟩
theorem Tr {j pos}:PE X (.Constant .none j pos) (tC .non):=fun _ _ _ H _ I h=>Constant_none ⟨.non,H,I,rfl,h⟩
theorem Ts {x j pos}:PE X (.Constant (.str x) j pos) (tC (.str x)):=fun _ _ _ H _ I h=>Calls.Constant_str ⟨.str x,H,I.tok _,⟨_,rfl⟩,h⟩
def Gl (X:Cx) (x:Str):Prop:=X.env.kindOf x=some .globalImplicit
theorem iC {E:Value->Shared->Prop} {pins:List (Addr × Obj)} {s:Shared} {σ:St} {H:Hp} {x:Str} {u:Value} {pos:Pos} {Q:Value->Shared->Prop} (I:Inv X pins σ H s) (hg:Gl X x) (hm:X.mg x=some u) (h:Q u s)
  (hd:(x == ("__debug__":Str))=false:=by decide):wpAny (model X.prog X.w) X.A (eval (.Name x pos) X.env) Q E s:=
 Calls.Name_function_global I.ok.kind hg (Calls.loadGlobal_global (by rw[I.ok.glob];exact I.mod.glob.keeps I.bk) hm h) hd
theorem mO {E:Value->Shared->Prop} {pins:List (Addr × Obj)} {s:Shared} {σ:St} {H:Hp} {x:Str} {u:Value} {pos:Pos} {Q:Value->Shared->Prop} (I:Inv X pins σ H s) (hg:Gl X x) (hm:X.mg x=none) (hv:bootBuiltins x=some u) (h:Q u s)
  (hn:x≠"__name__":=by decide) (hd:(x == ("__debug__":Str))=false:=by decide):wpAny (model X.prog X.w) X.A (eval (.Name x pos) X.env) Q E s:=by
 obtain⟨mb,h1,h2⟩:=I.mod.blt
 exact Calls.Name_function_global I.ok.kind hg (Calls.loadGlobal_builtin (by rw[I.ok.glob];exact I.mod.glob.keeps I.bk) hm (by rw[I.ok.blt];exact h1.keeps I.bk) ((h2 x hn).trans hv) h) hd
theorem tG {x:Str} {v:V} {u:Value} {pos:Pos} (hg:Gl X x) (hm:X.mg x=some u) (r:RelV v u) (hd:(x == ("__debug__":Str))=false:=by decide):PE X (.Name x pos) (tC v):=
 fun _ _ _ H _ I h=>iC I hg hm ⟨v,H,I,r,h⟩ hd
theorem Af {x:Str} {v:V} {u:Value} {pos:Pos} (hg:Gl X x) (hm:X.mg x=none) (hv:bootBuiltins x=some u) (r:RelV v u) (hn:x≠"__name__":=by decide) (hd:(x == ("__debug__":Str))=false:=by decide):PE X (.Name x pos) (tC v):=
 fun _ _ _ H _ I h=>mO I hg hm hv ⟨v,H,I,r,h⟩ hn hd
variable {a b:Expr} {ta tb:TE} {pos:Pos}
def PC (X:Cx) (op:CmpOp) (a b:Expr) (t:TE):Prop:=
 ∀(pins:List (Addr × Obj)) (s:Shared) (σ:St) (H:Hp) (Q:VK),Inv X pins σ H s->t σ H Q →
  wpAny (model X.prog X.w) X.A (eval a X.env) (fun v s₁=>wpAny (model X.prog X.w) X.A (eval b X.env) (fun u s₂=>wpAny (model X.prog X.w) X.A (compareOp op v u) (EP X pins σ Q) X.xe s₂) X.xe s₁) X.xe s
def tB (t:TE):TT:=fun σ H Q=>t σ H fun x H1=>∃c,x=.bl c/\Q c H1
theorem aBn {op:CmpOp} {t:TE} (h:PC X op a b t) (h1:behindInMarks op b=false:=by first | exact nobehind _ Zd Zd | rfl):PT X (.Compare a [op] [b] pos) (tB t):=by
 intro pins s σ H Q I hw;refine wpAny_isTrue_Compare1 (bU (h pins s σ H _ I hw) fun v s1 h1=>bU h1 fun u s2 h2=>bU h2 fun c s3 ⟨x,H1,I1,r1,q1⟩=>?_) h1
 obtain⟨d,rfl,q⟩:=q1
 cases r1
 exact wpAny_truthy_bool ⟨H1,I1,q⟩
theorem Tt {e:Expr} {t:TE} (h:PE X e t) (he:∀whole,isTrue e X.env whole=(do let v ← whole;standAt e.pos;holding [v] (truthy v)):=by intro _;rfl):PT X e (tB t):=by
 intro pins s σ H Q I hw;refine isTrue_plain (bU (h pins s σ H _ I hw) fun v s1 ⟨x,H1,I1,r1,q1⟩=>?_) (he _)
 obtain⟨d,rfl,q⟩:=q1
 cases r1
 exact wpAny_truthy_bool ⟨H1,I1,q⟩
variable {tA tB':TT} {rest:List Expr}
def Nd (t u:TT):TT:=fun σ H Q=>t σ H fun c H1=>if c=true then u σ H1 Q else Q false H1
def tOr (t u:TT):TT:=fun σ H Q=>t σ H fun c H1=>if c=true then Q true H1 else u σ H1 Q
def Yu (t:TT):TT:=fun σ H Q=>t σ H fun c H1=>Q (!c) H1
theorem Nf (ha:PT X a tA):PW X (.BoolOp .And [a] pos) tA:=by
 intro wh pins s σ H Q I h;refine isTrue_and (bU (ha pins s σ H Q I h) fun c s1 e=>?_)
 cases c with
 | true=>exact isTrue_and_nil e
 | false=>exact e
theorem Tu (ha:PT X a tA):PW X (.BoolOp .Or [a] pos) tA:=by
 intro wh pins s σ H Q I h;refine isTrue_or (bU (ha pins s σ H Q I h) fun c s1 e=>?_)
 cases c with
 | false=>exact isTrue_or_nil e
 | true=>exact e
theorem Tv (ha:PT X a tA) (hb:PW X (.BoolOp .And (b::rest) pos) tB'):PW X (.BoolOp .And (a::b::rest) pos) (Nd tA tB'):=by
 intro wh pins s σ H Q I h;refine isTrue_and (bU (ha pins s σ H _ I h) fun c s1 ⟨H1,I1,q1⟩=>?_)
 cases c with
 | true=>exact hb wh pins s1 σ H1 Q I1 q1
 | false=>exact⟨H1,I1,q1⟩
theorem Yv (ha:PT X a tA) (hb:PW X (.BoolOp .Or (b::rest) pos) tB'):PW X (.BoolOp .Or (a::b::rest) pos) (tOr tA tB'):=by
 intro wh pins s σ H Q I h;refine isTrue_or (bU (ha pins s σ H _ I h) fun c s1 ⟨H1,I1,q1⟩=>?_)
 cases c with
 | true=>exact⟨H1,I1,q1⟩
 | false=>exact hb wh pins s1 σ H1 Q I1 q1
theorem Tw (ha:PT X a tA):PT X (.UnaryOp .Not a pos) (Yu tA):=by
 intro pins s σ H Q I h;exact isTrue_not (ha pins s σ H (fun c H1=>Q (!c) H1) I h)
def Fy (ta tb:TE):TE:=fun σ H Q=>ta σ H fun x H1=>∃c,x=.bl c/\if c=true then tb σ H1 Q else Q (.bl false) H1
def Tx (ta tb:TE):TE:=fun σ H Q=>ta σ H fun x H1=>∃c,x=.bl c/\if c=true then Q (.bl true) H1 else tb σ H1 Q
def Fz (ta:TE):TE:=fun σ H Q=>ta σ H fun x H1=>∃c,x=.bl c/\Q (.bl (!c)) H1
theorem Ty {op} {t:TE} (h:PE X a t):PE X (.BoolOp op [a] pos) t:=fun pins s σ H Q I hw=>BoolOp_one (h pins s σ H Q I hw)
theorem Tz (ha:PE X a ta) (hb:PE X (.BoolOp .And (b::rest) pos) tb):PE X (.BoolOp .And (a::b::rest) pos) (Fy ta tb):=by
 intro pins s σ H Q I h;refine BoolOp_and (bU (ha pins s σ H _ I h) fun v s1 ⟨x,H1,I1,r1,q1⟩=>?_)
 obtain⟨c,rfl,q1⟩:=q1
 cases r1
 refine wpAny_truthy_bool ?_
 cases c with
 | true=>exact hb pins s1 σ H1 Q I1 q1
 | false=>exact⟨.bl false,H1,I1,rfl,q1⟩
theorem Yw (ha:PE X a ta) (hb:PE X (.BoolOp .Or (b::rest) pos) tb):PE X (.BoolOp .Or (a::b::rest) pos) (Tx ta tb):=by
 intro pins s σ H Q I h;refine BoolOp_or (bU (ha pins s σ H _ I h) fun v s1 ⟨x,H1,I1,r1,q1⟩=>?_)
 obtain⟨c,rfl,q1⟩:=q1
 cases r1
 refine wpAny_truthy_bool ?_
 cases c with
 | false=>exact hb pins s1 σ H1 Q I1 q1
 | true=>exact⟨.bl true,H1,I1,rfl,q1⟩
theorem Ua (ha:PE X a ta):PE X (.UnaryOp .Not a pos) (Fz ta):=by
 intro pins s σ H Q I h;refine UnaryOp_ (bU (ha pins s σ H _ I h) fun v s1 ⟨x,H1,I1,r1,q1⟩=>?_)
 obtain⟨c,rfl,q1⟩:=q1
 cases r1
 exact not_of (wpAny_truthy_bool ⟨.bl (!c),H1,I1,rfl,q1⟩)
end
end L2
namespace L2
open PySem PySem.Spec PyProof.Rows
def SqL (K:W.Frag) (H:Hp) (a:Addr) (xs:List V):Prop:=
 Rd H a (.lst xs)∨
  ∃(o:Obj) (its:Array Value) (n:Nat),K.lookup a=some o/\o.cls=.type "list"/\o.dict=none/\o.data=.seq its n/\its.size<=sizeLine/\Vals xs its.toList
def SqT (K:W.Frag) (H:Hp) (a:Addr) (xs:List V):Prop:=
 Rd H a (.tup xs)∨
  ∃(o:Obj) (its:Array Value) (n:Nat),K.lookup a=some o/\o.cls=.type "tuple"/\o.data=.seq its n/\its.size<=sizeLine/\Vals xs its.toList
def aBo:Value->Option V
 | .none=>some .non
 | .bool b=>some (.bl b)
 | .int i _=>some (.int i)
 | .str x _=>some (.str x)
 | .bytes b _=>some (.byt b)
 | .float b _=>some (.flt b)
 | .ref a=>some (.ref a)
 | .type n=>some (.ty n)
 | _=>none
theorem RelV.abs {x:V} {u:Value} (r:RelV x u):aBo u=some x:=by
 cases x with
 | non=>cases r;rfl
 | bl _=>cases r;rfl
 | int _=>obtain⟨t,rfl⟩:=r;rfl
 | str _=>obtain⟨t,rfl⟩:=r;rfl
 | byt _=>obtain⟨t,rfl⟩:=r;rfl
 | flt _=>obtain⟨t,rfl⟩:=r;rfl
 | ref _=>cases r;rfl
 | ty _=>cases r;rfl
theorem RelV.inj {x y:V} {u:Value} (r:RelV x u) (q:RelV y u):x=y:=Option.some.inj (r.abs.symm.trans q.abs)
theorem Vals.inj:∀ {xs ys:List V} {us:List Value},Vals xs us->Vals ys us->xs=ys
 | _,_,_,.nil,.nil=>rfl
 | _,_,_,.cons r t,.cons r' t'=>by rw[r.inj r',Vals.inj t t']
section
variable {X:Cx} {pins:List (Addr × Obj)} {σ:St} {H:Hp} {s:Shared} {a:Addr} {xs ys:List V}
theorem SqL.of {K:W.Frag} (h:H a=some (.lst xs)):SqL K H a xs:=.inl (.inl h)
theorem SqT.of {K:W.Frag} (h:H a=some (.tup xs)):SqT K H a xs:=.inl (.inl h)
theorem Inv.list (I:Inv X pins σ H s) (h:SqL X.K H a xs):∃its:List Value,Vals xs its/\PlainL s.heap a its.toArray/\xs.length<=sizeLine:=by
 rcases h with h | ⟨o,its,n,hk,hc,hd,hs,hz,r⟩
 ·obtain⟨z,its,n,r,e⟩:=h.ok I.hok
  exact⟨its,r,⟨_,n,e,rfl,rfl,rfl⟩,z⟩
 ·refine⟨its.toList,r,⟨o,n,I.kIn a o hk,hc,hd,by simpa using hs⟩,?_⟩
  have e:=r.length
  simp only [Array.length_toList]at e
  omega
theorem Inv.tuple (I:Inv X pins σ H s) (h:SqT X.K H a xs):∃its:List Value,Vals xs its/\IsTup s.heap a its.toArray/\xs.length<=sizeLine:=by
 rcases h with h | ⟨o,its,n,hk,hc,hs,hz,r⟩
 ·obtain⟨z,its,r,p⟩:=h.ok I.hok
  exact⟨its,r,p,z⟩
 ·refine⟨its.toList,r,⟨o,I.kIn a o hk,hc,n,by simpa using hs⟩,?_⟩
  have e:=r.length
  simp only [Array.length_toList]at e
  omega
theorem Inv.list_inj (I:Inv X pins σ H s) (h:SqL X.K H a xs) (h':SqL X.K H a ys):xs=ys:=by
 obtain⟨its,r,⟨o,n,e,_,_,d⟩,_⟩:=I.list h
 obtain⟨its',r',⟨o',n',e',_,_,d'⟩,_⟩:=I.list h'
 rw[e]at e';cases e'
 rw[d]at d';injection d' with d1 _
 have:its=its':=by simpa using congrArg Array.toList d1
 subst this;exact r.inj r'
theorem Inv.tuple_inj (I:Inv X pins σ H s) (h:SqT X.K H a xs) (h':SqT X.K H a ys):xs=ys:=by
 obtain⟨its,r,⟨o,e,_,n,d⟩,_⟩:=I.tuple h
 obtain⟨its',r',⟨o',e',_,n',d'⟩,_⟩:=I.tuple h'
 rw[e]at e';cases e'
 rw[d]at d';injection d' with d1 _
 have:its=its':=by simpa using congrArg Array.toList d1
 subst this;exact r.inj r'
end
abbrev Cx.wish (X:Cx) (E:Value->Shared->Prop):Cx:={X with xe:=E }
abbrev Cx.nox (X:Cx):Cx:=X.wish fun _ _=>False
theorem Cx.Ok.wish {X:Cx} (ok:X.Ok) (E:Value->Shared->Prop):(X.wish E).Ok:=
 ⟨ok.mod,ok.kind,ok.glob,ok.blt,ok.above,ok.inj,ok.has,ok.cab,ok.hd,ok.frames,ok.stk,ok.exf,ok.bs,ok.bsz,ok.noex,ok.exfs,ok.funs,ok.frf⟩
theorem Cx.Ok.unwish {X:Cx} {E:Value->Shared->Prop} (ok:(X.wish E).Ok):X.Ok:=
 ⟨ok.mod,ok.kind,ok.glob,ok.blt,ok.above,ok.inj,ok.has,ok.cab,ok.hd,ok.frames,ok.stk,ok.exf,ok.bs,ok.bsz,ok.noex,ok.exfs,ok.funs,ok.frf⟩
section
variable {X:Cx} {pins:List (Addr × Obj)} {σ:St} {H:Hp} {s:Shared} {E:Value->Shared->Prop}
theorem Inv.wish (I:Inv X pins σ H s) (E:Value->Shared->Prop):Inv (X.wish E) pins σ H s:=⟨I.ok.wish E,I.os,I.bare,I.base,I.loc,I.cell,I.free,I.freeC,I.pin,I.hok,I.len⟩
theorem Inv.unwish (I:Inv (X.wish E) pins σ H s):Inv X pins σ H s:=⟨I.ok.unwish,I.os,I.bare,I.base,I.loc,I.cell,I.free,I.freeC,I.pin,I.hok,I.len⟩
theorem SP.unwish {D:kK} {f:Flow} {s':Shared} (h:SP (X.wish E) pins D f s'):SP X pins D f s':=by
 cases f with
 | next=>obtain⟨σ',H',I,q⟩:=h;exact⟨σ',H',I.unwish,q⟩
 | brk=>obtain⟨σ',H',I,q⟩:=h;exact⟨σ',H',I.unwish,q⟩
 | cont=>obtain⟨σ',H',I,q⟩:=h;exact⟨σ',H',I.unwish,q⟩
 | ret u=>obtain⟨v,σ',H',I,r,q⟩:=h;exact⟨v,σ',H',I.unwish,r,q⟩
theorem PSs.nox {st:List Stmt} {t:TS} (h:PSs X.nox st t):PSs X st t:=fun pins s σ H D I hw=>
 wpAny_mono (h pins s σ H D (I.wish _) hw) (fun _ _ q=>q.unwish) fun _ _ z=>False.elim z
end
section
variable {X:Cx} {st:Stmt} {rest:List Stmt} {t u:TS} {e:Expr} {te:TE} {pos:Pos}
def kP:TS:=fun D σ H=>D.nx σ H
def yB (t u:TS):TS:=fun D σ H=>t {D with nx:=u D } σ H
theorem Ng:PSs X [] kP:=fun _ _ σ H _ I h=>wpAny_execs_nil ⟨σ,H,I,h⟩
theorem Ga (h1:PS X st t) (h2:PSs X rest u):PSs X (st::rest) (yB t u):=by
 intro pins s σ H D I h;refine wpAny_execs_cons (bU (h1 pins s σ H {D with nx:=u D } I h) fun f s1 q=>?_)
 cases f with
 | next=>
  obtain⟨σ',H',I',q⟩:=q
  exact h2 pins s1 σ' H' D I' q
 | ret v=>exact q
 | brk=>exact q
 | cont=>exact q
theorem Nh (h1:PS X st t):PSs X [st] t:=by
 intro pins s σ H D I h;refine wpAny_execs_cons (bU (h1 pins s σ H D I h) fun f s1 q=>?_)
 cases f with
 | next=>exact wpAny_execs_nil q
 | ret v=>exact q
 | brk=>exact q
 | cont=>exact q
theorem Inv.quiet {pins:List (Addr × Obj)} {σ:St} {H:Hp} {s:Shared} (I:Inv X pins σ H s):interactive X.env=false:=by simp [interactive,I.ok.kind]
def Rv (te:TE):TS:=fun D σ H=>te σ H fun _ H1=>D.nx σ H1
theorem Ni (he:PE X e te) (hs:swapsWith e none pos.line X.env=pure false:=by rfl):PS X (.Expr e pos) (Rv te):=by
 intro pins s σ H D I h;exact wpAny_Expr_any (bU (he pins s σ H _ I h) fun v s1 ⟨x,H1,I1,r1,q1⟩=>⟨σ,H1,I1,q1⟩) I.quiet hs
def Yx (te:TE):TS:=fun D σ H=>te σ H D.rt
theorem Ub (he:PE X e te):PS X (.Return (some e) pos) (Yx te):=by
 intro pins s σ H D I h;exact wpAny_Return_some (bU (he pins s σ H _ I h) fun v s1 ⟨x,H1,I1,r1,q1⟩=>⟨x,σ,H1,I1,r1,q1⟩)
def Gb (c:TT) (t u:TS):TS:=fun D σ H=>c σ H fun b H1=>if b=true then t D σ H1 else u D σ H1
theorem Yy {c:Expr} {a b:List Stmt} {tc:TT} (hc:PT X c tc) (ha:PSs X a t) (hb:PSs X b u):PS X (.If c a b pos) (Gb tc t u):=by
 intro pins s σ H D I h;refine wpAny_If (bU (hc pins s σ H _ I h) fun d s1 ⟨H1,I1,q1⟩=>?_)
 cases d with
 | true=>exact ha pins s1 σ H1 D I1 q1
 | false=>exact hb pins s1 σ H1 D I1 q1
end
abbrev TG:=V->St->Hp->(St->Hp->Prop)->Prop
abbrev Ag:=List V->St->Hp->(St->Hp->Prop)->Prop
def PG (X:Cx) (target:Expr) (t:TG):Prop:=
 ∀(pins:List (Addr × Obj)) (s:Shared) (σ:St) (H:Hp) (v:V) (u:Value) (Q:St->Hp->Prop),Inv X pins σ H s->RelV v u->t v σ H Q →
  wpAny (model X.prog X.w) X.A (assign target X.env u) (fun _ s'=>∃ σ' H',Inv X pins σ' H' s'/\Q σ' H') X.xe s
def Yz (X:Cx) (ts:List Expr) (t:Ag):Prop:=
 ∀(pins:List (Addr × Obj)) (s:Shared) (σ:St) (H:Hp) (vs:List V) (us:List Value) (Q:St->Hp->Prop),Inv X pins σ H s->Vals vs us->t vs σ H Q →
  wpAny (model X.prog X.w) X.A (assignInOrder ((assignEach ts X.env).map (·.2)) us) (fun _ s'=>∃ σ' H',Inv X pins σ' H' s'/\Q σ' H') X.xe s
abbrev Cv:=V->V->V->Hp->(Hp->Prop)->Prop
def Nj (X:Cx) (t:Cv):Prop:=
 ∀(pins:List (Addr × Obj)) (s:Shared) (σ:St) (H:Hp) (o i v:V) (ov iv u:Value) (Q:Hp->Prop),Inv X pins σ H s->RelV o ov->RelV i iv->RelV v u->t o i v H Q →
  wpAny (model X.prog X.w) X.A (setItem ov iv u) (fun _ s'=>∃H',Inv X pins σ H' s'/\Q H') X.xe s
section
variable {X:Cx} {pos:Pos}
def aK (i:Nat):TG:=fun v σ H Q=>Q (σ.set i (some v)) H
theorem Nk {i:Nat} {x:Str} (hN:X.N.Nodup) (hi:X.N[i]?=some x) (hx:Fu X.env.scope x) (hf:X.fn x=true∨X.env.scope.names.lookup x=some .local:=by first | exact .inl rfl | exact .inr rfl | assumption):PG X (.Name x pos) (aK i):=by
 intro pins s σ H v u Q I r h;exact wpAny_assign_Name (lE I hN hi hx r (fun s' I'=>⟨_,H,I',h⟩) hf)
def Uc:Ag:=fun vs σ H Q=>vs=[]/\Q σ H
def Gc (t:TG) (u:Ag):Ag:=fun vs σ H Q=>∃v r,vs=v::r/\t v σ H fun σ' H'=>u r σ' H' Q
theorem Nl:Yz X [] Uc:=by
 intro pins s σ H vs us Q I r h;obtain⟨e,h⟩:=h
 subst e;cases r
 exact assignInOrder_nil ⟨σ,H,I,h⟩
theorem Gd {e:Expr} {es:List Expr} {t:TG} {u:Ag} (h1:PG X e t) (h2:Yz X es u)
  (hs:(assignEach (e::es) X.env).map (·.2)=assign e X.env::(assignEach es X.env).map (·.2):=by rfl):Yz X (e::es) (Gc t u):=by
 intro pins s σ H vs us Q I r h;obtain⟨v,vr,e1,h⟩:=h
 subst e1;cases r with
 | cons r rr=>
  rw[hs];refine assignInOrder_cons (bU (h1 pins s σ H _ _ _ I r h) fun _ s1 ⟨σ1,H1,I1,q1⟩=>?_)
  exact h2 pins s1 σ1 H1 _ _ Q I1 rr q1
def Nm (K:W.Frag) (n:Nat) (t:Ag):TG:=fun v σ H Q=>∃a xs,v=.ref a/\SqT K H a xs/\xs.length=n/\t xs σ H Q
theorem Ud {es:List Expr} {k:Nat} {t:Ag} {n:Nat} (hc:X.calm=true) (h:Yz X es t)
  (hn:(assignEach es X.env).length=n:=by rfl) (hst:(assignEach es X.env).findIdx? (·.1)=none:=by rfl):PG X (.Tuple es k pos) (Nm X.K n t):=by
 intro pins s σ H v u Q I r hw;obtain⟨a,xs,e1,hq,hl,hw⟩:=hw
 subst e1;cases r
 obtain⟨its,rv,ht,hz⟩:=I.tuple hq
 refine assign_Tuple_tuple (I.ok.hd hc) ht (by simp [hn,<- hl,rv.length]) hst fun h' hx=>?_
 have I1:Inv X pins σ H {s with heap:=h' }:=I.kept (t':=s.toks) fun b o e=>hx b o (Nat.ne_of_lt (Heap.lt_size e)) e
 exact h pins _ σ H xs _ Q I1 (by simpa using rv) hw
def Za (to ti:TE) (t:Cv):TG:=fun v σ H Q=>to σ H fun o H1=>ti σ H1 fun i H2=>t o i v H2 fun H3=>Q σ H3
theorem Ue {o i:Expr} {to ti:TE} {t:Cv} (ho:PE X o to) (hi:PE X i ti) (hs:Nj X t)
  (ha:∀v,assign (.Subscript o i pos) X.env v=(do
   let ov ← holding [v] (eval o X.env)
   let iv ← holding [v,ov] (eval i X.env)
   standAt pos
   holding [v,ov,iv] (setItem ov iv v)
   release [v,ov,iv] []):=by intro _;rfl):PG X (.Subscript o i pos) (Za to ti t):=by
 intro pins s σ H v u Q I r h;rw[ha];refine wpAny_bind (wpAny_holding (bU (ho pins s σ H _ I h) fun ov s1 ⟨x,H1,I1,r1,q1⟩=>?_))
 refine wpAny_bind (wpAny_holding (bU (hi pins s1 σ H1 _ I1 q1) fun iv s2 ⟨y,H2,I2,r2,q2⟩=>?_))
 refine wpAny_bind (wpAny_standAt (wpAny_bind (wpAny_holding (bU (hs pins s2 σ H2 x y v ov iv u _ I2 r1 r2 r q2) fun _ s3 ⟨H3,I3,q3⟩=>?_))))
 exact wpAny_release ⟨σ,H3,I3,q3⟩
def Ge (te:TE) (g:TG):TS:=fun D σ H=>te σ H fun x H1=>g x σ H1 D.nx
theorem Uf {tg e:Expr} {te:TE} {g:TG} (he:PE X e te) (hg:PG X tg g) (hs:swapsWithSole [tg] e pos.line X.env=pure false:=by rfl) (hw:swappedStores [tg] e X.env=pure none:=by rfl)
  (h1:(assignEach [tg] X.env).map (·.2)=[assign tg X.env]:=by rfl):PS X (.Assign [tg] e pos) (Ge te g):=by
 intro pins s σ H D I h;refine wpAny_Assign_stores (bU (he pins s σ H _ I h) fun v s1 ⟨x,H1,I1,r1,q1⟩=>?_) hs hw
 rw[h1];exact bU (hg pins s1 σ H1 x v _ I1 r1 q1) fun _ s2 q=>q
theorem Ug {i:Nat} {x:Str} {e:Expr} {te:TE} {pos':Pos} (hN:X.N.Nodup) (hi:X.N[i]?=some x) (hx:Fu X.env.scope x) (he:PE X e te) (hs:swapsWith e (some (.Name x pos')) pos.line X.env=pure false:=by rfl) (hf:X.fn x=true∨X.env.scope.names.lookup x=some .local:=by first | exact .inl rfl | exact .inr rfl | assumption) :
  PS X (.Assign [.Name x pos'] e pos) (Ge te (aK i)):=by
 intro pins s σ H D I h;refine wpAny_Assign_Name (bU (he pins s σ H _ I h) fun v s1 ⟨y,H1,I1,r1,q1⟩=>?_) hs
 exact lE I1 hN hi hx r1 (fun s2 I2=>⟨_,H1,I2,q1⟩) hf
end
section
variable {X:Cx} {pos:Pos}
def Gf (c:TT) (tb:TS):TS:=fun D σ H=>∃W:Nat->St->Hp->Prop,(∃m,W m σ H)/\∀m σ H,W m σ H →
 c σ H fun b H1=>if b=true then ∃N:St->Hp->Prop,(∀ σ' H',N σ' H'->∃m',m'<m/\W m' σ' H')/\tb {D with nx:=N,ct:=N,bk:=D.nx } σ H1 else D.nx σ H1
theorem Gg {c:Expr} {body:List Stmt} {tc:TT} {tb:TS} (hp:PassesOwn (model X.prog X.w) X.A X.env X.xe) (hc:PT X c tc) (hb:PSs X body tb):PS X (.While c body [] pos) (Gf tc tb):=by
 intro pins s σ H D I h;obtain⟨W,⟨m0,w0⟩,turn⟩:=h
 refine wpAny_While (codeAny_whileLoop (fun n s'=>∃ σ' H',Inv X pins σ' H' s'/\W n σ' H') ?_ m0 ⟨σ,H,I,w0⟩)
 rintro n s1 ⟨σ1,H1,I1,w1⟩
 refine wpAny_passesOwn hp (bU (hc pins s1 σ1 H1 _ I1 (turn n σ1 H1 w1)) fun b s2 ⟨H2,I2,q2⟩=>?_)
 cases b with
 | true=>
  obtain⟨N,hN,q2⟩:=q2
  rw[if_pos rfl];refine wpAny_passesOwn hp (bU (hb pins s2 σ1 H2 _ I2 q2) fun f s3 q3=>?_)
  cases f with
  | next=>
   obtain⟨σ3,H3,I3,n3⟩:=q3
   obtain⟨m',hm,w3⟩:=hN σ3 H3 n3
   exact⟨m',hm,σ3,H3,I3,w3⟩
  | cont=>
   obtain⟨σ3,H3,I3,n3⟩:=q3
   obtain⟨m',hm,w3⟩:=hN σ3 H3 n3
   exact⟨m',hm,σ3,H3,I3,w3⟩
  | brk=>exact q3
  | ret v=>exact q3
 | false=>
  rw[if_neg Bool.false_ne_true];exact wpAny_execs_nil ⟨σ1,H2,I2,q2⟩
end
structure It where
 go:Nat->Hp->Prop
 yld:Nat->Hp->V->Hp->Prop
 stop:Nat->Hp->Prop
def mP (X:Cx) (pins:List (Addr × Obj)) (H:Hp) (b:Addr):Prop:=
 H b=none/\b≠X.env.locals/\b∉X.fs/\(b∈X.ex∨X.s₀.heap.objs.size<=b)/\(∀x c,X.env.cells.lookup x=some c->c≠b)/\∀p∈X.pn++pins,p.1≠b
theorem Inv.fpOk {X:Cx} {pins:List (Addr × Obj)} {σ:St} {H H':Hp} {s:Shared} {b:Addr} (I:Inv X pins σ H s) (hb:s.heap.objs.size<=b) (hn:H' b=none):mP X pins H' b:=by
 refine⟨hn,Nat.ne_of_gt (Nat.lt_of_lt_of_le I.lt hb),I.nofs hb,.inr (kN I.sz hb),fun x c e z=>?_,fun p hp z=>?_⟩
 ·obtain⟨v,q⟩:=I.cell x c e
  exact absurd (Nat.lt_of_lt_of_le q.lt (by rw[z];exact hb)) (Nat.lt_irrefl _)
 ·exact absurd (Nat.lt_of_lt_of_le (Heap.lt_size (I.pin p hp).1) (by rw[z];exact hb)) (Nat.lt_irrefl _)
structure tH (P:Program) (w:World) (K:W.Frag) (tg:Expr) (J:It) (fp:List Addr) (it:Addr) (tn:Nat->Heap->Prop):Prop where
 mem:it∈fp
 obj:∀i h,tn i h->∀b∈fp,∃o,h.get? b=some o/\∀v,o.data≠.cell v
 keep:∀i h h',tn i h->(∀b∈fp,∀o,h.get? b=some o->h'.get? b=some o)->tn i h'
 item:∀(X:Cx),X.prog=P->X.w=w->X.K=K->X.calm=true->∀(i:Nat) (pins:List (Addr × Obj)) (s:Shared) (σ:St) (H:Hp) (E:Value->Shared->Prop),Inv X pins σ H s->(∀b∈fp,mP X pins H b)->tn i s.heap->J.go i H →
  wpAny (model P w) X.A (pyNext (.ref it)) (fun r s1=>∃u,r=some u ∧
   wpAny (model P w) X.A (letOwnedTupleGo tg (.ref it) u) (fun _ s2=>∃x H',Inv X pins σ H' s2/\RelV x u/\J.yld i H x H'/\tn (i+1) s2.heap/\∀b∈fp,H' b=none) E s1) E s
 done:∀(X:Cx),X.prog=P->X.w=w->X.K=K->X.calm=true->∀(i:Nat) (pins:List (Addr × Obj)) (s:Shared) (σ:St) (H:Hp) (E:Value->Shared->Prop),Inv X pins σ H s->(∀b∈fp,mP X pins H b)->tn i s.heap->J.stop i H →
  wpAny (model P w) X.A (pyNext (.ref it)) (fun r s1=>r=none/\Inv X pins σ H s1) E s
 self:∀(A:Around) (i:Nat) (s:Shared) (Q:Value->Shared->Prop) (E:Value->Shared->Prop),tn i s.heap->Q (.ref it) s->wpAny (model P w) A (pyIter (.ref it)) Q E s
abbrev TI:=St->Hp->(It->Hp->Prop)->Prop
def PIE (X:Cx) (pins:List (Addr × Obj)) (σ:St) (tg:Expr) (R:It->Hp->Prop) (itv:Value) (s2:Shared):Prop:=
 ∃(it:Addr) (fp:List Addr) (tn:Nat->Heap->Prop) (J:It) (H':Hp),itv=.ref it/\Inv X pins σ H' s2/\tH X.prog X.w X.K tg J fp it tn/\tn 0 s2.heap/\(∀b∈fp,mP X pins H' b)/\R J H'
def PI (X:Cx) (tg iter:Expr) (wi:TI):Prop:=
 ∀(pins:List (Addr × Obj)) (s:Shared) (σ:St) (H:Hp) (R:It->Hp->Prop),Inv X pins σ H s->wi σ H R →
  wpAny (model X.prog X.w) X.A (eval iter X.env) (fun v s1=>wpAny (model X.prog X.w) X.A (pyIter v) (PIE X pins σ tg R) X.xe s1) X.xe s
theorem vW {M:Model} {A:Around} {E:Value->Shared->Prop} {s:Shared} {tg:Expr} {it:Addr} {u:Value} {o:Obj} {n:String} {vs:Array Value} {Q:Unit->Shared->Prop} (ho:s.heap.get? it=some o) (hc:o.cls=.type n) (hd:o.data=.fields vs)
    (hn:["enumerate","zip","dict_itemiterator","dict_reverseitemiterator","odict_iterator","itertools.zip_longest","itertools.pairwise"].contains n=false) (hQ:Q () s):wpAny M A (letOwnedTupleGo tg (.ref it) u) Q E s:=by
  unfold letOwnedTupleGo;cases tg <;> first
    | exact wpAny_pure hQ
    | (cases u <;> first
        | exact wpAny_pure hQ
        | (refine wpAny_bind (wpAny_load ho ?_)
           rw[hc,hd];show wpAny M A (if (["enumerate","zip","dict_itemiterator","dict_reverseitemiterator","odict_iterator","itertools.zip_longest","itertools.pairwise"].contains n&&vs[0]? == some (rawInt _))=true then _ else _) Q E s
           rw[if_neg (by intro h;rw[hn,Bool.false_and]at h;cases h)]
           exact wpAny_pure hQ))
def Itl (K:W.Frag) (a:Addr):It:=
 ⟨fun i H=>∃xs x,SqL K H a xs/\xs[i]?=some x,fun i H x H'=>H'=H/\∀xs,SqL K H a xs->xs[i]?=some x,fun i H=>∃xs,SqL K H a xs/\xs.length<=i⟩
def Itt (K:W.Frag) (a:Addr):It:=
 ⟨fun i H=>∃xs x,SqT K H a xs/\xs[i]?=some x,fun i H x H'=>H'=H/\∀xs,SqT K H a xs->xs[i]?=some x,fun i H=>∃xs,SqT K H a xs/\xs.length<=i⟩
def Itr (lo:Int) (n:Nat):It:=⟨fun i _=>i<n,fun i H x H'=>H'=H/\x=.int (lo+i),fun i _=>n<=i⟩
theorem Cw {P:Program} {w:World} {K:W.Frag} {tg:Expr} (a it:Addr):tH P w K tg (Itl K a) [it] it (fun i h=>h.IsListIter it a i) where
 mem:=by simp
 obj:=fun i h st b hb=>by
  have e:b=it:=by simpa using hb
  subst e;obtain⟨o,e,c,d⟩:=st
  exact⟨o,e,fun v z=>by rw[d]at z;cases z⟩
 keep:=fun i h h' st k=>st.at fun o e=>k it Zs o e
 item:=by
  intro X hP hw hK hc i pins s σ H E I hf st hg;subst hP hw hK;obtain⟨xs,x,hq,hx⟩:=hg
  obtain⟨its,rv,p,hz⟩:=I.list hq
  obtain⟨u,hu,ru⟩:=rv.get hx
  obtain⟨f0,f1,f2,f3,f4,f5⟩:=hf it Zs
  refine wpAny_pyNext_list_item st p.isList (x:=u) (by simpa using hu) fun h' st' sb=>?_
  have I1:Inv X pins σ H {s with heap:=h' }:=I.turned (t':=s.toks) (fun b o hb e=>(sb.2 b hb).trans e) f0 f1 f3 f4 f5
  obtain⟨o,e,c,d⟩:=id st'
  exact⟨u,rfl,vW (s:={s with heap:=h' }) e c d Zd ⟨x,H,I1,ru,⟨rfl,fun ys hy=>by rw[I.list_inj hy hq];exact hx⟩,st',fun b hb=>(hf b hb).1⟩⟩
 done:=by
  intro X hP hw hK hc i pins s σ H E I hf st hg;subst hP hw hK;obtain⟨xs,hq,hx⟩:=hg
  obtain⟨its,rv,p,hz⟩:=I.list hq
  obtain⟨f0,f1,f2,f3,f4,f5⟩:=hf it Zs
  have hl:=rv.length
  exact wpAny_pyNext_list_end (I.ok.hd hc) st p.isList (by simp;omega) fun h' eb=>⟨rfl,I.turned (t':=s.toks) (fun b o hb e=>eb b o hb e) f0 f1 f3 f4 f5⟩
 self:=fun _ _ _ _ _ st h=>wpAny_pyIter_listiter st h
theorem yC {P:Program} {w:World} {K:W.Frag} {tg:Expr} (a it:Addr):tH P w K tg (Itt K a) [it] it (fun i h=>h.IsTupleIter it a i) where
 mem:=by simp
 obj:=fun i h st b hb=>by
  have e:b=it:=by simpa using hb
  subst e;obtain⟨o,e,c,d⟩:=st
  exact⟨o,e,fun v z=>by rw[d]at z;cases z⟩
 keep:=fun i h h' st k=>st.at fun o e=>k it Zs o e
 item:=by
  intro X hP hw hK hc i pins s σ H E I hf st hg;subst hP hw hK;obtain⟨xs,x,hq,hx⟩:=hg
  obtain⟨its,rv,p,hz⟩:=I.tuple hq
  obtain⟨u,hu,ru⟩:=rv.get hx
  obtain⟨f0,f1,f2,f3,f4,f5⟩:=hf it Zs
  refine wpAny_pyNext_tuple_item st (show s.heap.IsTuple a its.toArray from p) (x:=u) (by simpa using hu) fun h' st' sb=>?_
  have I1:Inv X pins σ H {s with heap:=h' }:=I.turned (t':=s.toks) (fun b o hb e=>(sb.2 b hb).trans e) f0 f1 f3 f4 f5
  obtain⟨o,e,c,d⟩:=id st'
  exact⟨u,rfl,vW (s:={s with heap:=h' }) e c d Zd ⟨x,H,I1,ru,⟨rfl,fun ys hy=>by rw[I.tuple_inj hy hq];exact hx⟩,st',fun b hb=>(hf b hb).1⟩⟩
 done:=by
  intro X hP hw hK hc i pins s σ H E I hf st hg;subst hP hw hK;obtain⟨xs,hq,hx⟩:=hg
  obtain⟨its,rv,p,hz⟩:=I.tuple hq
  obtain⟨f0,f1,f2,f3,f4,f5⟩:=hf it Zs
  have hl:=rv.length
  exact wpAny_pyNext_tuple_end (I.ok.hd hc) st (show s.heap.IsTuple a its.toArray from p) (by simp;omega) fun h' eb=>⟨rfl,I.turned (t':=s.toks) (fun b o hb e=>eb b o hb e) f0 f1 f3 f4 f5⟩
 self:=fun _ _ _ _ _ st h=>wpAny_pyIter_tupleiter st h
theorem yD {P:Program} {w:World} {K:W.Frag} {tg:Expr} (it:Addr) (lo:Int) (n:Nat):tH P w K tg (Itr lo n) [it] it (fun i h=>IsRangeIter h it (lo+(i:Nat)*1) ((n:Int) - (i:Nat)) 1) where
 mem:=by simp
 obj:=fun i h st b hb=>by
  have e:b=it:=by simpa using hb
  subst e;exact⟨_,st,fun v z=>by
   have z':Data.fields _=Data.cell v:=z
   cases z'⟩
 keep:=fun i h h' st k=>k it Zs _ st
 item:=by
  intro X hP hw hK hc i pins s σ H E I hf st hg;subst hP hw hK;obtain⟨f0,f1,f2,f3,f4,f5⟩:=hf it Zs
  have W:=Walks.range (prog:=X.prog) (w:=X.w) (I.ok.hd hc) it lo 1 n
  refine W.item i s _ _ hg st fun v h' tk hv st' kk=>?_
  obtain⟨t,rfl⟩:=hv
  have I1:Inv X pins σ H {s with heap:=h',toks:=tk }:=I.turned (fun b o hb e=>kk b o (by simpa using hb) e) f0 f1 f3 f4 f5
  refine⟨_,rfl,vW (s:={s with heap:=h',toks:=tk }) (n:="range_iterator") st' rfl rfl Zd ⟨.int (lo+i),H,I1,⟨t,?_⟩,⟨rfl,rfl⟩,st',fun b hb=>(hf b hb).1⟩⟩
  rw[Int.mul_one]
 done:=by
  intro X hP hw hK hc i pins s σ H E I hf st hg;subst hP hw hK;obtain⟨f0,f1,f2,f3,f4,f5⟩:=hf it Zs
  exact wpAny_pyNext_range_end (I.ok.hd hc) st (by have:n<=i:=hg;omega) fun h' eb=>⟨rfl,I.turned (t':=s.toks) (fun b o hb e=>eb b o hb e) f0 f1 f3 f4 f5⟩
 self:=fun _ _ _ _ _ st h=>wpAny_pyIter_rangeiter st h
end L2
namespace L2
open PySem PySem.Spec PyProof.Rows
section
variable {X:Cx} {tg:Expr}
def Gh (K:W.Frag) (tl:TE):TI:=fun σ H R=>tl σ H fun x H1=>∃a,x=.ref a/\(∃xs,SqL K H1 a xs)/\R (Itl K a) H1
def Uh (K:W.Frag) (tl:TE):TI:=fun σ H R=>tl σ H fun x H1=>∃a,x=.ref a/\(∃xs,SqT K H1 a xs)/\R (Itt K a) H1
theorem Nn {l:Expr} {tl:TE} (hl:PE X l tl):PI X tg l (Gh X.K tl):=by
 intro pins s σ H R I h;refine bU (hl pins s σ H _ I h) fun v s1 ⟨x,H1,I1,r1,q1⟩=>?_
 obtain⟨a,e,⟨xs,hq⟩,q⟩:=q1
 subst e;cases r1
 obtain⟨its,rv,p,hz⟩:=I1.list hq
 refine wpAny_pyIter_list p.isList ?_
 refine⟨s1.heap.objs.size,[s1.heap.objs.size],_,_,H1,rfl,I1.kept (t':=s1.toks) fun b o e=>eP _ e,Cw a _,⟨_,Heap.get?_push_size _ rfl,rfl,rfl⟩,fun b hb=>?_,q⟩
 have e:b=s1.heap.objs.size:=by simpa using hb
 subst e;exact I1.fpOk (bQ _) (I1.hok.fresh (bQ _))
theorem Ui {l:Expr} {tl:TE} (hl:PE X l tl):PI X tg l (Uh X.K tl):=by
 intro pins s σ H R I h;refine bU (hl pins s σ H _ I h) fun v s1 ⟨x,H1,I1,r1,q1⟩=>?_
 obtain⟨a,e,⟨xs,hq⟩,q⟩:=q1
 subst e;cases r1
 obtain⟨its,rv,p,hz⟩:=I1.tuple hq
 refine wpAny_pyIter_tuple (show s1.heap.IsTuple a its.toArray from p) ?_
 refine⟨s1.heap.objs.size,[s1.heap.objs.size],_,_,H1,rfl,I1.kept (t':=s1.toks) fun b o e=>eP _ e,yC a _,⟨_,Heap.get?_push_size _ rfl,rfl,rfl⟩,fun b hb=>?_,q⟩
 have e:b=s1.heap.objs.size:=by simpa using hb
 subst e;exact I1.fpOk (bQ _) (I1.hok.fresh (bQ _))
theorem Gi {pins:List (Addr × Obj)} {σ:St} {H:Hp} {s:Shared} {R:It->Hp->Prop} {E:Value->Shared->Prop} {lo hi:Int} {t u v:Tok} {tk:Nat} (I:Inv X pins σ H s) (h1:-(2 ^ 62)<=lo) (h2:lo<2 ^ 62) (h3:-(2 ^ 62)<=hi) (h4:hi<2 ^ 62)
  (q:R (Itr lo (hi - lo).toNat) H):wpAny (model X.prog X.w) X.A (pyIter (.ref s.heap.objs.size)) (PIE X pins σ tg R) E {s with heap:=s.heap.push {cls:=.type "range",data:=.fields #[.int lo t,.int hi u,.int 1 v] },toks:=tk }:=by
 refine wpAny_pyIter_range (IsRange.new ..) (small_one h1 h2 h3 h4) ?_
 have I1:Inv X pins σ H {s with heap:=s.heap.push {cls:=.type "range",data:=.fields #[.int lo t,.int hi u,.int 1 v] },toks:=tk }:=I.kept fun b o e=>eP _ e
 refine⟨(s.heap.push {cls:=.type "range",data:=.fields #[.int lo t,.int hi u,.int 1 v] }).objs.size,[(s.heap.push {cls:=.type "range",data:=.fields #[.int lo t,.int hi u,.int 1 v] }).objs.size],_,_,H,rfl,
  I1.kept (t':=tk) fun b o e=>eP _ e,yD _ lo (hi - lo).toNat,?_,fun b hb=>?_,q⟩
 ·have e1:lo+((0:Nat):Int)*1=lo:=by simp
  have e2:(((hi - lo).toNat:Nat):Int) - ((0:Nat):Int)=Builtin.Range.rangeSize lo hi 1:=by rw[rangeSize_one];split <;> omega
  show IsRangeIter _ _ (lo+((0:Nat):Int)*1) ((((hi - lo).toNat:Nat):Int) - ((0:Nat):Int)) 1
  rw[e1,e2];exact Heap.get?_push_size _ rfl
 ·have e:b=(s.heap.push {cls:=.type "range",data:=.fields #[.int lo t,.int hi u,.int 1 v] }).objs.size:=by simpa using hb
  subst e;exact I1.fpOk (bQ _) (I1.hok.fresh (bQ _))
def Rw (ta:TA):TI:=fun σ H R=>ta σ H fun vs H1=>∃j:Int,vs=[.int j]/\-(2 ^ 62)<=j/\j<2 ^ 62/\R (Itr 0 j.toNat) H1
theorem Cy {a:Expr} {ta:TA} {p pos:Pos} (hg:Gl X "range") (hm:X.mg "range"=none) (ha:PA X [a] ta) (hs:starEach [a] X.env=[(false,eval a X.env)]:=by rfl):PI X tg (.Call (.Name "range" p) [a] [] pos) (Rw ta):=by
 intro pins s σ H R I h;refine Call_ (mO I hg hm boot_range (PyProof.Rows.callWith_type1 (bU (ha pos pins s σ H _ I h) fun us s1 ⟨vs,H1,I1,r1,q1⟩=>?_) hs rfl))
 obtain⟨j,e,q1,q2,q⟩:=q1
 subst e;cases r1 with
 | cons r rr=>
  cases rr
  obtain⟨t,rfl⟩:=r
  exact call_range_1 (Gi I1 Zo Zo q1 q2 (by simpa using q))
def Zb (wi:TI) (g:TG) (tb:TS):TS:=fun D σ H=>wi σ H fun J H1=>∃W:Nat->Nat->St->Hp->Prop,(∃m,W 0 m σ H1)/\∀i m σ H,W i m σ H →
 (J.stop i H/\D.nx σ H)∨(J.go i H/\∃N:St->Hp->Prop,(∀ σ' H',N σ' H'->∃m',m'<m/\W (i+1) m' σ' H')/\∀x H',J.yld i H x H'->g x σ H' fun σ2 H2=>tb {D with nx:=N,ct:=N,bk:=D.nx } σ2 H2)
def pB (fp:List Addr) (h:Heap):List (Addr × Obj):=fp.filterMap fun b=>(h.get? b).map fun o=>(b,o)
theorem iD {fp:List Addr} {h:Heap} {b:Addr} {o:Obj} (hb:b∈fp) (e:h.get? b=some o):(b,o)∈pB fp h:=List.mem_filterMap.mpr ⟨b,hb,by rw[e];rfl⟩
theorem Cz {fp:List Addr} {h:Heap} {p:Addr × Obj} (hp:p∈pB fp h):p.1∈fp/\h.get? p.1=some p.2:=by
 obtain⟨b,hb,e⟩:=List.mem_filterMap.mp hp
 cases q:h.get? b with
 | none=>rw[q]at e;cases e
 | some o=>
  rw[q]at e;have e':(b,o)=p:=Option.some.inj e
  subst e';exact⟨hb,q⟩
theorem Inv.pinned {pins:List (Addr × Obj)} {σ:St} {H:Hp} {s:Shared} {fp:List Addr} (I:Inv X pins σ H s) (hf:∀b∈fp,mP X pins H b) (ho:∀b∈fp,∃o,s.heap.get? b=some o/\∀v,o.data≠.cell v):Inv X (pins++pB fp s.heap) σ H s:=
 I.pins_of fun p hp=>(Zma.mp hp).elim (fun z=>I.pin p (List.mem_append_right _ z)) fun z=>by
  obtain⟨hb,e⟩:=Cz z
  obtain⟨f0,f1,f2,_⟩:=hf p.1 hb
  obtain⟨o,e',d⟩:=ho p.1 hb
  rw[e]at e';cases e'
  exact⟨e,f0,f1,f2,d⟩
theorem Inv.unpinned {pins pl:List (Addr × Obj)} {σ:St} {H:Hp} {s:Shared} (I:Inv X (pins++pl) σ H s):Inv X pins σ H s:=I.pins_of fun p hp=>I.pin p (List.mem_append_right _ (List.mem_append_left _ hp))
theorem Uj {iter:Expr} {body:List Stmt} {wi:TI} {g:TG} {tb:TS} {pos:Pos} (hp:PassesOwn (model X.prog X.w) X.A X.env X.xe) (hc:X.calm=true) (hi:PI X tg iter wi) (hg:PG X tg g) (hb:PSs X body tb)
  (hs:∀x,foldedSetIterable iter X.env x=pure x:=by intro _;rfl):PS X (.For tg iter body [] pos) (Zb wi g tb):=by
 intro pins s σ H D I h;refine wpAny_For (bU (hi pins s σ H _ I h) fun v s1 h1=>bU h1 fun itv s2 h2=>?_) hs
 obtain⟨it,fp,tn,J,H2,e,I2,T,st2,f2,W,⟨m0,w0⟩,turn⟩:=h2
 subst e;have stat:∀ {H':Hp},(∀b∈fp,H' b=none)->∀b∈fp,mP X pins H' b:=fun hn b hb=>⟨hn b hb,(f2 b hb).2⟩
 refine codeAny_forLoop_any (fun n s'=>∃i σ' H',Inv X pins σ' H' s'/\tn i s'.heap/\(∀b∈fp,H' b=none)/\W i n σ' H') ?_ m0 ⟨0,σ,H2,I2,st2,fun b hb=>(f2 b hb).1,w0⟩
 rintro n s3 ⟨i,σ3,H3,I3,st3,fr3,w3⟩
 rcases turn i n σ3 H3 w3 with⟨stop,qn⟩ | ⟨go,N,hN,step⟩
 ·refine wpAny_passesOwn hp (bU (T.done X rfl rfl rfl hc i pins s3 σ3 H3 X.xe I3 (stat fr3) st3 stop) fun r s4 ⟨hr,I4⟩=>?_)
  subst hr;exact wpAny_execs_nil ⟨σ3,H3,I4,qn⟩
 ·refine wpAny_passesOwn hp (bU (T.item X rfl rfl rfl hc i pins s3 σ3 H3 X.xe I3 (stat fr3) st3 go) fun r s4 ⟨u,hr,h4⟩=>?_)
  subst hr;refine wpAny_passesOwn hp (bU h4 fun _ s5 ⟨x,H5,I5,r5,y5,st5,fr5⟩=>?_)
  have I5':=I5.pinned (stat fr5) (T.obj _ _ st5)
  refine wpAny_passesOwn hp (bU (hg _ s5 σ3 H5 x u _ I5' r5 (step x H5 y5)) fun _ s6 ⟨σ6,H6,I6,q6⟩=>?_)
  refine wpAny_passesOwn hp (bU (hb _ s6 σ6 H6 _ I6 q6) fun f s7 q7=>?_)
  have again:∀ {σ7:St} {H7:Hp},Inv X (pins++pB fp s5.heap) σ7 H7 s7->N σ7 H7->∃m,m<n/\∃i σ' H',Inv X pins σ' H' s7/\tn i s7.heap/\(∀b∈fp,H' b=none)/\W i m σ' H':=fun {σ7 H7} I7 n7=>by
   obtain⟨m',hm,w7⟩:=hN σ7 H7 n7
   refine⟨m',hm,i+1,σ7,H7,I7.unpinned,T.keep _ _ _ st5 fun b hb o e=>(I7.pin (b,o) (List.mem_append_right _ (List.mem_append_right _ (iD hb e)))).1,fun b hb=>?_,w7⟩
   obtain⟨o,e,d⟩:=T.obj _ _ st5 b hb
   exact(I7.pin (b,o) (List.mem_append_right _ (List.mem_append_right _ (iD hb e)))).2.1
  cases f with
  | next=>obtain⟨σ7,H7,I7,n7⟩:=q7;exact again I7 n7
  | cont=>obtain⟨σ7,H7,I7,n7⟩:=q7;exact again I7 n7
  | brk=>obtain⟨σ7,H7,I7,q7⟩:=q7;exact⟨σ7,H7,I7.unpinned,q7⟩
  | ret v=>obtain⟨x7,σ7,H7,I7,r7,q7⟩:=q7;exact⟨x7,σ7,H7,I7.unpinned,r7,q7⟩
end
end L2
namespace L2
open PySem PySem.Spec PyProof.Rows
abbrev R2:=V->V->Hp->VK->Prop
def OpR (X:Cx) (f:Value->Value->Sem Value) (r:R2):Prop:=
 ∀(pins:List (Addr × Obj)) (s:Shared) (σ:St) (H:Hp) (x y:V) (v u:Value) (Q:VK),Inv X pins σ H s->RelV x v->RelV y u->r x y H Q →
  wpAny (model X.prog X.w) X.A (f v u) (EP X pins σ Q) X.xe s
def UnR (X:Cx) (f:Value->Sem Value) (r:V->Hp->VK->Prop):Prop:=
 ∀(pins:List (Addr × Obj)) (s:Shared) (σ:St) (H:Hp) (x:V) (v:Value) (Q:VK),Inv X pins σ H s->RelV x v->r x H Q →
  wpAny (model X.prog X.w) X.A (f v) (EP X pins σ Q) X.xe s
def CallR (X:Cx) (f:Value) (r:List V->Hp->VK->Prop):Prop:=
 ∀(pins:List (Addr × Obj)) (s:Shared) (σ:St) (H:Hp) (xs:List V) (us:List Value) (Q:VK),Inv X pins σ H s->Vals xs us->r xs H Q →
  wpAny (model X.prog X.w) X.A (call f us) (EP X pins σ Q) X.xe s
def Gj (r:R2) (ta tb:TE):TE:=fun σ H Q=>ta σ H fun x H1=>tb σ H1 fun y H2=>r x y H2 Q
def tUn (r:V->Hp->VK->Prop) (ta:TE):TE:=fun σ H Q=>ta σ H fun x H1=>r x H1 Q
def rI (C:Int->Int->Prop) (g:Int->Int->V):R2:=fun x y H Q=>∃i j,x=.int i/\y=.int j/\C i j/\Q (g i j) H
def No (g:Int->Int->V):R2:=fun x y H Q=>∃i j,x=.int i/\y=.int j/\Q (g i j) H
def rU (g:Int->V):V->Hp->VK->Prop:=fun x H Q=>∃i,x=.int i/\Q (g i) H
section
variable {X:Cx} {a b c:Expr} {ta tb tc:TE} {pos:Pos}
theorem Uk (ha:PE X a ta) (hb:PE X b tb) {pins:List (Addr × Obj)} {s:Shared} {σ:St} {H:Hp} {R:V->V->Hp->Prop} (I:Inv X pins σ H s)
  (h:ta σ H fun x H1=>tb σ H1 fun y H2=>R x y H2) {Q:Value->Shared->Prop} {f:Value->Value->Sem Value}
  (hf:∀v u s2 x y H2,Inv X pins σ H2 s2->RelV x v->RelV y u->R x y H2->wpAny (model X.prog X.w) X.A (f v u) Q X.xe s2) :
  wpAny (model X.prog X.w) X.A (eval a X.env) (fun v s₁=>wpAny (model X.prog X.w) X.A (eval b X.env) (fun u s₂=>wpAny (model X.prog X.w) X.A (f v u) Q X.xe s₂) X.xe s₁) X.xe s:=by
 refine bU (ha pins s σ H _ I h) fun v s1 ⟨x,H1,I1,r1,q1⟩=>?_
 refine bU (hb pins s1 σ H1 _ I1 q1) fun u s2 ⟨y,H2,I2,r2,q2⟩=>?_
 exact hf v u s2 x y H2 I2 r1 r2 q2
theorem Zc {op:Operator} {r:R2} (ho:OpR X (binaryOp op) r) (ha:PE X a ta) (hb:PE X b tb):PE X (.BinOp a op b pos) (Gj r ta tb):=by
 intro pins s σ H Q I h;exact wpAny_BinOp (Uk ha hb I h fun v u s2 x y H2 I2 rx ry q=>ho pins s2 σ H2 x y v u Q I2 rx ry q)
theorem Ze {op:UnaryOp} {r:V->Hp->VK->Prop} (ho:UnR X (unaryOp op) r) (ha:PE X a ta):PE X (.UnaryOp op a pos) (tUn r ta):=by
 intro pins s σ H Q I h;exact UnaryOp_ (bU (ha pins s σ H _ I h) fun v s1 ⟨x,H1,I1,r1,q1⟩=>ho pins s1 σ H1 x v Q I1 r1 q1)
theorem opI {f:Value->Value->Sem Value} {C:Int->Int->Prop} {g:Int->Int->Int}
  (rule:∀(i j:Int) (t u:Tok) (s:Shared) (Q:Value->Shared->Prop) (E:Value->Shared->Prop),C i j->Q (.int (g i j) s.toks) {s with toks:=s.toks+1 }->wpAny (model X.prog X.w) X.A (f (.int i t) (.int j u)) Q E s) :
  OpR X f (rI C fun i j=>.int (g i j)):=by
 intro pins s σ H x y v u Q I rx ry h;obtain⟨i,j,rfl,rfl,hc,q⟩:=h
 obtain⟨t,rfl⟩:=rx
 obtain⟨t',rfl⟩:=ry
 exact rule i j t t' s _ _ hc ⟨.int (g i j),H,I.tok _,⟨_,rfl⟩,q⟩
theorem Zf {f:Value->Value->Sem Value} {g:Int->Int->Int}
  (rule:∀(i j:Int) (t u:Tok) (s:Shared) (Q:Value->Shared->Prop) (E:Value->Shared->Prop),Q (.int (g i j) s.toks) {s with toks:=s.toks+1 }->wpAny (model X.prog X.w) X.A (f (.int i t) (.int j u)) Q E s) :
  OpR X f (No fun i j=>.int (g i j)):=by
 intro pins s σ H x y v u Q I rx ry h;obtain⟨i,j,rfl,rfl,q⟩:=h
 obtain⟨t,rfl⟩:=rx
 obtain⟨t',rfl⟩:=ry
 exact rule i j t t' s _ _ ⟨.int (g i j),H,I.tok _,⟨_,rfl⟩,q⟩
theorem Np {f:Value->Value->Sem Value} {g:Int->Int->Bool}
  (rule:∀(i j:Int) (t u:Tok) (s:Shared) (Q:Value->Shared->Prop) (E:Value->Shared->Prop),Q (.bool (g i j)) s->wpAny (model X.prog X.w) X.A (f (.int i t) (.int j u)) Q E s) :
  OpR X f (No fun i j=>.bl (g i j)):=by
 intro pins s σ H x y v u Q I rx ry h;obtain⟨i,j,rfl,rfl,q⟩:=h
 obtain⟨t,rfl⟩:=rx
 obtain⟨t',rfl⟩:=ry
 exact rule i j t t' s _ _ ⟨.bl (g i j),H,I,rfl,q⟩
def Ul (i j:Int):Prop:=0<=j/\j<=1000000/\i.natAbs<2 ^ 64
def CMul (i j:Int):Prop:=(-(2 ^ 64)<i/\i<2 ^ 64)∨(-(2 ^ 64)<j/\j<2 ^ 64)
theorem CMul.ok {i j:Int} (h:CMul i j):IntMulOk i j:=by
 rcases h with⟨h1,h2⟩ | ⟨h1,h2⟩
 ·exact .of_left (intBits_le_64 h1 h2)
 ·exact .of_right (intBits_le_64 h1 h2)
theorem Um:OpR X (binaryOp .Add) (No fun i j=>.int (i+j)):=Zf fun _ _ _ _ _ _ _ q=>add_int q
theorem Uo:OpR X (binaryOp .Sub) (No fun i j=>.int (i - j)):=Zf fun _ _ _ _ _ _ _ q=>sub_int q
theorem Up:OpR X (binaryOp .Mult) (rI CMul fun i j=>.int (i*j)):=opI fun _ _ _ _ _ _ _ hc q=>mul_int q hc.ok
theorem Uq:OpR X (binaryOp .Mod) (rI (fun _ j=>0<j) fun i j=>.int (i % j)):=opI fun i j _ _ _ _ _ hc q=>by
 have h1:(0:Int)<j:=hc
 exact mod_int' Zo (by rw[Int.fmod_eq_emod_of_nonneg i Zo];exact q)
theorem Ur:OpR X (binaryOp .Pow) (rI Ul fun i j=>.int (i ^ j.toNat)):=opI fun _ _ _ _ _ _ _ hc q=>pow_int_small hc.1 hc.2.1 hc.2.2 q
theorem unI {f:Value->Sem Value} {g:Int->Int}
  (rule:∀(i:Int) (t:Tok) (s:Shared) (Q:Value->Shared->Prop) (E:Value->Shared->Prop),Q (.int (g i) s.toks) {s with toks:=s.toks+1 }->wpAny (model X.prog X.w) X.A (f (.int i t)) Q E s) :
  UnR X f (rU fun i=>.int (g i)):=by
 intro pins s σ H x v Q I rx h;obtain⟨i,rfl,q⟩:=h
 obtain⟨t,rfl⟩:=rx
 exact rule i t s _ _ ⟨.int (g i),H,I.tok _,⟨_,rfl⟩,q⟩
theorem Us:UnR X (unaryOp .USub) (rU fun i=>.int (-i)):=unI fun _ _ _ _ _ q=>neg_int q
end
def scal:V->V->Bool
 | .non,.non=>true | .non,.int _=>true | .int _,.non=>true | .non,.bl _=>true | .bl _,.non=>true | .non,.str _=>true | .str _,.non=>true
 | .int _,.int _=>true | .bl _,.bl _=>true | .str _,.str _=>true | .byt _,.byt _=>true
 | .int _,.str _=>true | .str _,.int _=>true | .bl _,.str _=>true | .str _,.bl _=>true
 | _,_=>false
def rEq:R2:=fun x y H Q=>scal x y=true/\Q (.bl (decide (x=y))) H
def rNe:R2:=fun x y H Q=>scal x y=true/\Q (.bl (!decide (x=y))) H
theorem Ah {i j:Int}:decide (V.int i=V.int j)=(i == j):=by
 rw[Bool.eq_iff_iff];simp
theorem Gk {i j:Bool}:decide (V.bl i=V.bl j)=(i == j):=by
 rw[Bool.eq_iff_iff];simp
theorem Ai {i j:Str}:decide (V.str i=V.str j)=(i == j):=by
 rw[Bool.eq_iff_iff];simp
theorem Aj {i j:Array UInt8}:decide (V.byt i=V.byt j)=(i.toList == j.toList):=by
 rw[Bool.eq_iff_iff];cases i
 cases j
 simp
section
variable {X:Cx} {a b c:Expr} {ta tb tc:TE} {pos:Pos}
theorem aX {pins:List (Addr × Obj)} {σ:St} {H:Hp} {s:Shared} {Q:VK} {k k':Bool} (I:Inv X pins σ H s) (q:Q (.bl k) H) (e:k=k'):EP X pins σ Q (.bool k') s:=by
 subst e;exact⟨.bl k,H,I,rfl,q⟩
theorem Rx:OpR X (compareOp .Eq) rEq:=by
 intro pins s σ H x y v u Q I rx ry h;obtain⟨hs,q⟩:=h
 cases x with
 | non=>
  cases rx
  cases y with
  | non=>cases ry;exact PySem.EqNone.eq_none_none (aX I q Zs)
  | bl j=>cases ry;exact PySem.EqNone.eq_none_bool (aX I q Zs)
  | int j=>obtain⟨t',rfl⟩:=ry;exact PySem.EqNone.eq_none_int (aX I q Zs)
  | str j=>obtain⟨t',rfl⟩:=ry;exact PySem.EqNone.eq_none_str (aX I q Zs)
  | _=>exact absurd (show false=true from hs) Bool.false_ne_true
 | bl i=>
  cases rx
  cases y with
  | non=>cases ry;exact PySem.EqNone.eq_bool_none (aX I q Zs)
  | bl j=>cases ry;exact eq_bool (aX I q Gk)
  | str j=>obtain⟨t',rfl⟩:=ry;exact PySem.EqMixed.eq_bool_str (aX I q Zs)
  | _=>exact absurd (show false=true from hs) Bool.false_ne_true
 | int i=>
  obtain⟨t,rfl⟩:=rx
  cases y with
  | non=>cases ry;exact PySem.EqNone.eq_int_none (aX I q Zs)
  | int j=>obtain⟨t',rfl⟩:=ry;exact eq_int (aX I q Ah)
  | str j=>obtain⟨t',rfl⟩:=ry;exact PySem.EqMixed.eq_int_str (aX I q Zs)
  | _=>exact absurd (show false=true from hs) Bool.false_ne_true
 | str i=>
  obtain⟨t,rfl⟩:=rx
  cases y with
  | non=>cases ry;exact PySem.EqNone.eq_str_none (aX I q Zs)
  | bl j=>cases ry;exact PySem.EqMixed.eq_str_bool (aX I q Zs)
  | int j=>obtain⟨t',rfl⟩:=ry;exact PySem.EqMixed.eq_str_int (aX I q Zs)
  | str j=>obtain⟨t',rfl⟩:=ry;exact eq_str (aX I q Ai)
  | _=>exact absurd (show false=true from hs) Bool.false_ne_true
 | byt i=>
  obtain⟨t,rfl⟩:=rx
  cases y with
  | byt j=>obtain⟨t',rfl⟩:=ry;exact W.eq_bytes (aX I q Aj)
  | _=>exact absurd (show false=true from hs) Bool.false_ne_true
 | _=>cases y <;> exact absurd (show false=true from hs) Bool.false_ne_true
theorem Ry:OpR X (compareOp .NotEq) rNe:=by
 intro pins s σ H x y v u Q I rx ry h;obtain⟨hs,q⟩:=h
 cases x with
 | non=>
  cases rx
  cases y with
  | non=>cases ry;exact PySem.EqNone.ne_none_none (aX I q Zs)
  | bl j=>cases ry;exact PySem.EqNone.ne_none_bool (aX I q Zs)
  | int j=>obtain⟨t',rfl⟩:=ry;exact PySem.EqNone.ne_none_int (aX I q Zs)
  | str j=>obtain⟨t',rfl⟩:=ry;exact PySem.EqNone.ne_none_str (aX I q Zs)
  | _=>exact absurd (show false=true from hs) Bool.false_ne_true
 | bl i=>
  cases rx
  cases y with
  | non=>cases ry;exact PySem.EqNone.ne_bool_none (aX I q Zs)
  | bl j=>cases ry;exact ne_bool (aX I q (congrArg not Gk))
  | str j=>obtain⟨t',rfl⟩:=ry;exact PySem.EqMixed.ne_bool_str (aX I q Zs)
  | _=>exact absurd (show false=true from hs) Bool.false_ne_true
 | int i=>
  obtain⟨t,rfl⟩:=rx
  cases y with
  | non=>cases ry;exact PySem.EqNone.ne_int_none (aX I q Zs)
  | int j=>obtain⟨t',rfl⟩:=ry;exact ne_int (aX I q (congrArg not Ah))
  | str j=>obtain⟨t',rfl⟩:=ry;exact PySem.EqMixed.ne_int_str (aX I q Zs)
  | _=>exact absurd (show false=true from hs) Bool.false_ne_true
 | str i=>
  obtain⟨t,rfl⟩:=rx
  cases y with
  | non=>cases ry;exact PySem.EqNone.ne_str_none (aX I q Zs)
  | bl j=>cases ry;exact PySem.EqMixed.ne_str_bool (aX I q Zs)
  | int j=>obtain⟨t',rfl⟩:=ry;exact PySem.EqMixed.ne_str_int (aX I q Zs)
  | str j=>obtain⟨t',rfl⟩:=ry;exact ne_str (aX I q (congrArg not Ai))
  | _=>exact absurd (show false=true from hs) Bool.false_ne_true
 | byt i=>
  obtain⟨t,rfl⟩:=rx
  cases y with
  | byt j=>obtain⟨t',rfl⟩:=ry;exact W.ne_bytes (aX I q (congrArg not Aj))
  | _=>exact absurd (show false=true from hs) Bool.false_ne_true
 | _=>cases y <;> exact absurd (show false=true from hs) Bool.false_ne_true
theorem Rz:OpR X (compareOp .Lt) (No fun i j=>.bl (decide (i<j))):=Np fun _ _ _ _ _ _ _ q=>lt_int q
theorem Zh:OpR X (compareOp .LtE) (No fun i j=>.bl (decide (i<=j))):=Np fun _ _ _ _ _ _ _ q=>le_int q
theorem Zi:OpR X (compareOp .Gt) (No fun i j=>.bl (decide (j<i))):=Np fun _ _ _ _ _ _ _ q=>gt_int q
theorem Sb:OpR X (compareOp .GtE) (No fun i j=>.bl (decide (j<=i))):=Np fun _ _ _ _ _ _ _ q=>ge_int q
theorem Dg:OpR X (compareOp .Lt) (fun x y H Q=>∃i j,x=.str i/\y=.str j/\Q (.bl (decide (i.cps.toList<j.cps.toList))) H):=by
 intro pins s σ H x y v u Q I rx ry h;obtain⟨i,j,rfl,rfl,q⟩:=h
 obtain⟨t,rfl⟩:=rx
 obtain⟨t',rfl⟩:=ry
 exact lt_str (aX I q rfl)
theorem Dh:OpR X (compareOp .In) (fun x y H Q=>∃i j,x=.str i/\y=.str j/\Q (.bl (!(Builtin.Str.occurrences j i 0 j.length 1).isEmpty)) H):=by
 intro pins s σ H x y v u Q I rx ry h;obtain⟨i,j,rfl,rfl,q⟩:=h
 obtain⟨t,rfl⟩:=rx
 obtain⟨t',rfl⟩:=ry
 exact in_str (aX I q rfl)
theorem Ut:OpR X (compareOp .Is) (fun x y H Q=>y=.non/\Q (.bl (decide (x=.non))) H):=by
 intro pins s σ H x y v u Q I rx ry h;obtain⟨rfl,q⟩:=h
 cases ry
 refine is_none_gen (aX I q ?_)
 cases x <;> first
  | (cases rx;rfl)
  | (obtain⟨t,rfl⟩:=rx;rfl)
theorem Nq:OpR X (compareOp .IsNot) (fun x y H Q=>y=.non/\Q (.bl (!decide (x=.non))) H):=by
 intro pins s σ H x y v u Q I rx ry h;obtain⟨rfl,q⟩:=h
 cases ry
 refine isnot_none_gen (aX I q ?_)
 cases x <;> first
  | (cases rx;rfl)
  | (obtain⟨t,rfl⟩:=rx;rfl)
theorem tJ (b:Expr) {op:CmpOp} (h:op≠.In:=by decide) (h2:op≠.NotIn:=by decide):behindInMarks op b=false:=by
 have e1:(op == CmpOp.In)=false:=by cases op <;> first | rfl | exact absurd rfl h
 have e2:(op == CmpOp.NotIn)=false:=by cases op <;> first | rfl | exact absurd rfl h2
 cases b <;> simp [behindInMarks,e1,e2]
theorem Nr {op:CmpOp} {r:R2} (ho:OpR X (compareOp op) r) (ha:PE X a ta) (hb:PE X b tb) (hm:behindInMarks op b=false):PE X (.Compare a [op] [b] pos) (Gj r ta tb):=by
 intro pins s σ H Q I h;exact wpAny_Compare1 (Uk ha hb I h fun v u s2 x y H2 I2 rx ry q=>ho pins s2 σ H2 x y v u Q I2 rx ry q) hm
def Ak (t:TE):TT:=fun σ H Q=>t σ H fun x H'=>∃k,x=.bl k/\Q k H'
theorem Nt {op:CmpOp} {r:R2} (ho:OpR X (compareOp op) r) (ha:PE X a ta) (hb:PE X b tb) (hm:behindInMarks op b=false):PT X (.Compare a [op] [b] pos) (Ak (Gj r ta tb)):=by
 intro pins s σ H Q I h;refine wpAny_isTrue_Compare1 (bU (ha pins s σ H _ I h) fun v s1 ⟨x,H1,I1,r1,q1⟩=>bU (hb pins s1 σ H1 _ I1 q1) fun u s2 ⟨y,H2,I2,r2,q2⟩=>
  bU (ho pins s2 σ H2 x y v u _ I2 r1 r2 q2) fun c s3 ⟨z,H3,I3,r3,k,e,q3⟩=>?_) hm
 subst e;cases r3
 exact wpAny_truthy_bool ⟨H3,I3,q3⟩
def tK (r r':R2) (ta tb tc:TE):TE:=fun σ H Q=>ta σ H fun x H1=>tb σ H1 fun y H2=>r x y H2 fun z H3=>∃k,z=.bl k ∧
 (if k=true then tc σ H3 fun w' H4=>r' y w' H4 Q else Q (.bl false) H3)
theorem Gm {op op':CmpOp} {r r':R2} (ho:OpR X (compareOp op) r) (ho':OpR X (compareOp op') r') (ha:PE X a ta) (hb:PE X b tb) (hc:PE X c tc)
  (hm:lastMarks [op,op'] [b,c]=false:=by with_unfolding_all rfl):PE X (.Compare a [op,op'] [b,c] pos) (tK r r' ta tb tc):=by
 intro pins s σ H Q I h;refine Compare_chain (bU (ha pins s σ H _ I h) fun v s1 ⟨x,H1,I1,r1,q1⟩=>chain_link (bU (hb pins s1 σ H1 _ I1 q1) fun u s2 ⟨y,H2,I2,r2,q2⟩=>
  bU (ho pins s2 σ H2 x y v u _ I2 r1 r2 q2) fun d s3 ⟨z,H3,I3,r3,k,e,q3⟩=>?_)) hm
 subst e;cases r3
 refine wpAny_truthy_bool ?_
 cases k with
 | false=>exact ite_ff ⟨.bl false,H3,I3,rfl,q3⟩
 | true=>exact ite_tt (chain_last (bU (hc pins s3 σ H3 _ I3 q3) fun w' s4 ⟨z',H4,I4,r4,q4⟩=>ho' pins s4 σ H4 y z' u w' Q I4 r2 r4 q4))
theorem Gn {op op':CmpOp} {r r':R2} (ho:OpR X (compareOp op) r) (ho':OpR X (compareOp op') r') (ha:PE X a ta) (hb:PE X b tb) (hc:PE X c tc)
  (hm:lastMarks [op,op'] [b,c]=false:=by with_unfolding_all rfl):PT X (.Compare a [op,op'] [b,c] pos) (Ak (tK r r' ta tb tc)):=by
 intro pins s σ H Q I h;refine isTrue_chain (bU (ha pins s σ H _ I h) fun v s1 ⟨x,H1,I1,r1,q1⟩=>test_link (bU (hb pins s1 σ H1 _ I1 q1) fun u s2 ⟨y,H2,I2,r2,q2⟩=>
  bU (ho pins s2 σ H2 x y v u _ I2 r1 r2 q2) fun d s3 ⟨z,H3,I3,r3,k,e,q3⟩=>?_)) hm
 subst e;cases r3
 refine wpAny_truthy_bool ?_
 cases k with
 | false=>
  obtain⟨k',e',q'⟩:=q3
  cases e'
  exact ite_ff ⟨H3,I3,q'⟩
 | true=>
  refine ite_tt (test_last (bU (hc pins s3 σ H3 _ I3 q3) fun w' s4 ⟨z',H4,I4,r4,q4⟩=>bU (ho' pins s4 σ H4 y z' u w' _ I4 r2 r4 q4) fun d' s5 ⟨z2,H5,I5,r5,k2,e2,q5⟩=>?_))
  subst e2;cases r5
  exact wpAny_truthy_bool ⟨H5,I5,q5⟩
theorem mQ:(sizeLine:Nat)<2 ^ 63:=by rw[sizeLine_eq];decide
theorem yE:OpR X (binaryOp .Add) (fun x y H Q=>∃i j,x=.str i/\y=.str j/\i.length+j.length<=sizeLine/\Q (.str (i++j)) H):=by
 intro pins s σ H x y v u Q I rx ry h;obtain⟨i,j,rfl,rfl,hz,q⟩:=h
 obtain⟨t,rfl⟩:=rx
 obtain⟨t',rfl⟩:=ry
 exact add_str (fun t' tk=>⟨.str (i++j),H,I.tok _,⟨_,rfl⟩,q⟩) hz
theorem jE {x:V} {us:List Value} (r:Vals [x] us):∃u,us=[u]/\RelV x u:=by
 cases r with
 | cons r1 r2=>cases r2;exact⟨_,rfl,r1⟩
theorem Zj {x y:V} {us:List Value} (r:Vals [x,y] us):∃u w',us=[u,w']/\RelV x u/\RelV y w':=by
 cases r with
 | cons r1 r2=>
  cases r2 with
  | cons r3 r4=>cases r4;exact⟨_,_,rfl,r1,r3⟩
theorem Dl (hc:X.calm=true):CallR X (.builtin "max") (fun xs H Q=>∃i j,xs=[.int i,.int j]/\Q (.int (if j > i then j else i)) H):=by
 intro pins s σ H xs us Q I r h;obtain⟨i,j,rfl,q⟩:=h
 obtain⟨u,w',rfl,⟨t,rfl⟩,⟨t',rfl⟩⟩:=Zj r
 refine max_two_ints (I.ok.hd hc) fun h' tk k=>⟨_,H,I.kept k,?_,q⟩
 by_cases hj:j > i
 ·rw[if_pos hj,if_pos hj];exact⟨_,rfl⟩
 ·rw[if_neg hj,if_neg hj];exact⟨_,rfl⟩
theorem Dm:CallR X (.type "int") (fun xs H Q=>(∃i,xs=[.int i]/\Q (.int i) H)∨∃k,xs=[.bl k]/\Q (.int (if k then 1 else 0)) H):=by
 intro pins s σ H xs us Q I r h;rcases h with⟨i,rfl,q⟩ | ⟨k,rfl,q⟩
 ·obtain⟨u,rfl,t,rfl⟩:=jE r
  exact call_int_int ⟨.int i,H,I,⟨_,rfl⟩,q⟩
 ·obtain⟨u,rfl,r1⟩:=jE r
  cases r1
  exact call_int_bool ⟨.int (if k then 1 else 0),H,I.tok _,⟨_,rfl⟩,q⟩
end
end L2
namespace L2
open PySem PySem.Spec PyProof.Rows
structure ObjM (h:Heap) (x dx C:Addr) (mA:Str->Option Value):Prop where
 obj:h.get? x=some (W.instObj C dx)
 ns:h.Ns1 dx mA
 ne:dx≠x
theorem rR {h:Heap} {dx:Addr} {mA:Str->Option Value} (n:h.Ns1 dx mA):∃od,h.get? dx=some od/\∀name,W.lookIn name od=some (mA name):=by
 obtain⟨o,es,ep,ho,hd,hk,_,hm⟩:=n
 refine⟨o,ho,fun name=>?_⟩
 have e:=hm name
 unfold nsFind findBy at e;rw[<- Array.find?_toList]at e;unfold W.lookIn;rw[hd];dsimp only;split
 ·rename_i y q
  rw[q]at e;exact congrArg some e
 ·rename_i q
  rw[q]at e;have a:es.toList.any (·.refKey)=false:=by
   rw[List.any_eq_false];intro y hy;obtain⟨z,t,hkey⟩:=hk y (Array.mem_toList_iff.mp hy)
   simp [DictEntry.refKey,hkey]
  have a':¬ es.toList.any (·.refKey)=true:=by rw[a];exact Bool.false_ne_true
  rw[if_neg a'];exact congrArg some e
theorem ObjM.look {h:Heap} {x dx C:Addr} {mA:Str->Option Value} (I:ObjM h x dx C mA):∃od,W.InstAt h x (W.instObj C dx) C (some od)/\∀name,W.lookIn name od=some (mA name):=
 let ⟨od,ho,hl⟩:=rR I.ns
 ⟨od,⟨I.obj,rfl,rfl,ho⟩,hl⟩
section
variable {prog:Program} {w:World} {A:Around} {E:Value->Shared->Prop} {s:Shared} {K:W.Frag} {x dx C f:Addr} {mA:Str->Option Value} {name:Str} {v:Value}
theorem Nu {expr:Bool} {Q:Value->Shared->Prop} (X:K.In s.heap) (I:ObjM s.heap x dx C mA) (hg:W.plainGet K C name=true) (hh:W.hasDictIn K C=true)
  (ha:W.findIn K (.ref C) name=some none) (hv:mA name=some v) (hv':W.handedIn v=true) (h:Q v {s with toks:=s.toks+1 }) :
  wpAny (model prog w) A (getAttr (.ref x) name expr) Q E s:=by
 obtain⟨od,J,hl⟩:=I.look
 exact W.get_value X J (W.plainGet_of hg).1 (W.findObj_own hh ha rfl (by rw[hl,hv])) hv' h
theorem Go {pl:Sem Bool} {Q:Value × List Value->Shared->Prop} (X:K.In s.heap) (I:ObjM s.heap x dx C mA) (hg:W.plainGet K C name=true)
  (hf:W.findIn K (.ref C) name=some (some (.ref f))) (ht:W.isFn K (.ref f)=true) (hv:mA name=none) (h:Q (.ref f,[.ref x]) s) :
  wpAny (model prog w) A (getMethod (.ref x) name pl) Q E s:=by
 obtain⟨od,J,hl⟩:=I.look
 exact W.method_fn X J (W.plainGet_of hg).1 (W.plainGet_of hg).2 hf (beq_iff_eq.mp ht) (by show(W.lookIn name od).map (·.isSome)=some false;rw[hl,hv];rfl) h
theorem Nv {ns:List Str} {Q:Unit->Shared->Prop} (X:K.In s.heap) (I:ObjM s.heap x dx C mA)
  (hs:W.findIn K (.ref C) "__setattr__"=some (some (.builtin "object.__setattr__"))) (hp:W.plainOver K C=true) (ht:W.takerIn K C name=some none) (hh:W.hasDictIn K C=true)
  (hw:PySem.Within mA ns) (hsz:ns.length<=sizeLine)
  (h:∀h',ObjM h' x dx C (fun y=>if y=name then some v else mA y)->Heap.SameBut dx s.heap h'->Q () {s with heap:=h',toks:=s.toks+2 }) :
  wpAny (model prog w) A (setAttr (.ref x) name v) Q E s:=by
 obtain⟨od,J,hl⟩:=I.look
 refine W.set_plain X J hs (W.osa_open (s:={s with toks:=s.toks+1 }) (r:=none) X J hp ht fun b=>?_)
 obtain⟨cd,hc,hd'⟩:=W.any_some hh
 have hx:s.heap.get? x=some ⟨.ref C,some dx,.plain,#[]⟩:=I.obj
 refine wpAny_bind (wpAny_pure (wpAny_bind (wpAny_bind (wpAny_loadPart hx (wpAny_bind (W.Looks.here (s:={s with toks:=s.toks+1 }) (W.looks_clsIn X hc) ?_))))))
 rw[hd'];refine wpAny_pure (a:=some dx) (wpAny_bind (wpAny_pure (wpAny_bind ?_)))
 refine wpAny_nsSet1 (s:={s with toks:=s.toks+1 }) I.ns fun h' hn2 hs2=>?_
 obtain⟨oD,esD,epD,hoD,hdD,hcD⟩:=hn2.count (PySem.Within.cons name v hw)
 refine wpAny_bind (wpAny_lookBehind hoD (by rw[hdD];exact pastItsLine_dict (kN hcD (by rw[vS];omega))) ?_)
 exact wpAny_pure (h _ ⟨(hs2.2 _ (Ne.symm I.ne)).trans I.obj,hn2,I.ne⟩ hs2)
theorem Gp {R:Result->Shared->Prop} {vs:List Value} {kw:List (Str × Value)} (X:K.In s.heap) (hm:W.makesIn K C=true)
  (hi:W.findIn K (.ref C) "__init__"=some (some (.ref f))) (hf:W.typeIn K (.ref f)=some (.type "function"))
  (h:codeAny (model prog w) (A.under (.builtin "type.__call__" ⟨.ref C::vs,kw⟩)) (.call (.ref f) ⟨.ref (s.heap.objs.size+1)::vs,kw⟩) (W.InitBack (s.heap.objs.size+1) R)
   {s with heap:=(s.heap.push W.emptyDict).push (W.instObj C s.heap.objs.size) }) :
  codeAny (model prog w) A (.call (.ref C) ⟨vs,kw⟩) R s:=by
 obtain⟨hh,g,d,t,os⟩:=s
 exact W.make_core (W.makes_of X hm) (W.looks_findIn X hi) (fun self=>W.bind_fn X self hf) (.inl rfl) h
end
def bL (f:Str) (v:V):List (Str × V)->List (Str × V)
 | []=>[(f,v)]
 | (g,x)::r=>if g=f then (g,v)::r else (g,x)::bL f v r
theorem nV (f g:Str) (v:V):∀fs:List (Str × V),(bL f v fs).lookup g=if g=f then some v else fs.lookup g
 | []=>by
  show List.lookup g [(f,v)]=_
  by_cases h:g=f
  ·have hb:(g == f)=true:=beq_iff_eq.mpr h
   simp only [List.lookup,hb,if_pos h]
  ·have hb:(g == f)=false:=beq_eq_false_iff_ne.mpr h
   simp only [List.lookup,hb,if_neg h]
 | (k,x)::r=>by
  have ih:=nV f g v r
  rw[show bL f v ((k,x)::r)=(if k=f then (k,v)::r else (k,x)::bL f v r) from rfl];by_cases hk:k=f
  ·rw[if_pos hk];by_cases h:g=k
   ·have hb:(g == k)=true:=beq_iff_eq.mpr h
    simp only [List.lookup,hb,if_pos (h.trans hk)]
   ·have hb:(g == k)=false:=beq_eq_false_iff_ne.mpr h
    simp only [List.lookup,hb,if_neg (fun e:g=f=>h (e.trans hk.symm))]
  ·rw[if_neg hk];by_cases h:g=k
   ·have hb:(g == k)=true:=beq_iff_eq.mpr h
    simp only [List.lookup,hb,if_neg (fun e:g=f=>hk (h.symm.trans e))]
   ·have hb:(g == k)=false:=beq_eq_false_iff_ne.mpr h
    simp only [List.lookup,hb]
    exact ih
theorem mU (f:Str) (v:V):∀fs:List (Str × V),f∈(bL f v fs).map (·.1)/\∀g,g∈fs.map (·.1)->g∈(bL f v fs).map (·.1)
 | []=>⟨by simp [bL],fun g h=>by simp at h⟩
 | (k,x)::r=>by
  obtain⟨i1,i2⟩:=mU f v r
  rw[show bL f v ((k,x)::r)=(if k=f then (k,v)::r else (k,x)::bL f v r) from rfl];by_cases hk:k=f
  ·rw[if_pos hk];subst hk;exact⟨Zs,fun g h=>by simpa using h⟩
  ·rw[if_neg hk];refine⟨?_,fun g h=>?_⟩
   ·rw[List.map_cons];exact oP _ i1
   ·rw[List.map_cons]at h ⊢;rcases List.mem_cons.mp h with e | e
    ·exact List.mem_cons.mpr (.inl e)
    ·exact oP _ (i2 g e)
theorem nW (f:Str) (v:V):∀fs:List (Str × V),(bL f v fs).length<=fs.length+1
 | []=>by simp [bL]
 | (k,x)::r=>by
  have ih:=nW f v r
  rw[show bL f v ((k,x)::r)=(if k=f then (k,v)::r else (k,x)::bL f v r) from rfl];by_cases hk:k=f
  ·rw[if_pos hk,vS,vS];omega
  ·rw[if_neg hk,vS,vS];omega
theorem RelO.some_of {v:V} {o:Option Value} (r:RelO (some v) o):∃u,o=some u/\RelV v u:=by
 cases o with
 | none=>exact(show False from r).elim
 | some u=>exact⟨u,rfl,r⟩
theorem RelO.none_of {o:Option Value} (r:RelO none o):o=none:=by
 cases o with
 | none=>rfl
 | some u=>exact(show False from r).elim
theorem rS {v:V} {u:Value} (r:RelV v u):W.handedIn u=true:=by
 cases v with
 | non=>cases (show u=Value.none from r);rfl
 | bl b=>cases (show u=Value.bool b from r);rfl
 | int i=>obtain⟨t,e⟩:=(show ∃t,u=Value.int i t from r);cases e;rfl
 | str x=>obtain⟨t,e⟩:=(show ∃t,u=Value.str x t from r);cases e;rfl
 | byt b=>obtain⟨t,e⟩:=(show ∃t,u=Value.bytes b t from r);cases e;rfl
 | flt b=>obtain⟨t,e⟩:=(show ∃t,u=Value.float b t from r);cases e;rfl
 | ref a=>cases (show u=Value.ref a from r);rfl
 | ty n=>cases (show u=Value.type n from r);rfl
section
variable {P:Program} {w:World} {H H':Hp} {h h':Heap} {a C dx:Addr} {fs fs':List (Str × V)}
theorem oQ (hok:HOk P w H h) (e:H a=some (.ins C dx fs)):∃mA,ObjM h a dx C mA/\(∀f,RelO (fs.lookup f) (mA f))/\PySem.Within mA (fs.map (·.1))/\fs.length<=1000/\H dx=some (.own a):=by
 obtain⟨d,z,ne,ob,mA,n,r,q⟩:=(show ObjOk P w H h a (.ins C dx fs) from hok a _ e)
 exact⟨mA,⟨ob,n,ne⟩,r,q,z,d⟩
end
structure Cls (K:W.Frag) (C:Addr):Prop where
 pg:W.plainGet K C Str.empty=true
 hd:W.hasDictIn K C=true
 po:W.plainOver K C=true
 sa:W.findIn K (.ref C) "__setattr__"=some (some (.builtin "object.__setattr__"))
theorem Cls.get {K:W.Frag} {C:Addr} (c:Cls K C) (f:Str):W.plainGet K C f=true:=c.pg
def NoAttr (K:W.Frag) (C:Addr) (f:Str):Prop:=W.findIn K (.ref C) f=some none
theorem NoAttr.taker {K:W.Frag} {C:Addr} {f:Str} (n:NoAttr K C f):W.takerIn K C f=some none:=by
 unfold W.takerIn;rw[show W.findIn K (.ref C) f=some none from n];rfl
structure Uu (K:W.Frag) (C:Addr) (m:Str) (f:Addr):Prop where
 at_:W.findIn K (.ref C) m=some (some (.ref f))
 fn:W.isFn K (.ref f)=true
 kp:W.keepIn K (.ref f)=true
section
variable {X:Cx} {pins:List (Addr × Obj)} {σ:St} {H:Hp} {s:Shared} {a C dx:Addr} {fs:List (Str × V)} {f:Str} {v:V} {A:Around} {E:Value->Shared->Prop}
theorem yF {b:Bool} {Q:Value->Shared->Prop} (I:Inv X pins σ H s) (e:H a=some (.ins C dx fs)) (c:Cls X.K C) (n:NoAttr X.K C f) (l:fs.lookup f=some v)
  (h:∀u s',Inv X pins σ H s'->RelV v u->Q u s'):wpAny (model X.prog X.w) A (getAttr (.ref a) f b) Q E s:=by
 obtain⟨mA,O,r,_,_,_⟩:=oQ I.hok e
 obtain⟨u,hu,ru⟩:=RelO.some_of (v:=v) (o:=mA f) (by rw[<- l];exact r f)
 exact Nu I.kIn O (c.get f) c.hd n hu (rS ru) (h u _ (I.tok _) ru)
theorem yG {m:Str} {g:Addr} {pl:Sem Bool} {Q:Value × List Value->Shared->Prop} (I:Inv X pins σ H s) (e:H a=some (.ins C dx fs)) (c:Cls X.K C) (k:Uu X.K C m g) (l:fs.lookup m=none)
  (h:Q (.ref g,[.ref a]) s):wpAny (model X.prog X.w) A (getMethod (.ref a) m pl) Q E s:=by
 obtain⟨mA,O,r,_,_,_⟩:=oQ I.hok e
 have hn:mA m=none:=RelO.none_of (by rw[<- l];exact r m)
 exact Go I.kIn O (c.get m) k.at_ k.fn hn h
theorem yH {y:V} {u:Value} {Q:Unit->Shared->Prop} (I:Inv X pins σ H s) (e:H a=some (.ins C dx fs)) (c:Cls X.K C) (n:NoAttr X.K C f) (hl:fs.length<1000) (ry:RelV y u)
  (h:∀s',Inv X pins σ (aI H a (.ins C dx (bL f y fs))) s'->Q () s'):wpAny (model X.prog X.w) A (setAttr (.ref a) f u) Q E s:=by
 obtain⟨mA,O,r,wi,_,ho⟩:=oQ I.hok e
 have hz:(fs.map (·.1)).length<=sizeLine:=by rw[aZ,sizeLine_eq];omega
 refine Nv I.kIn O c.sa c.po n.taker c.hd wi hz fun h' O' sb=>h _ ?_
 have hd:∃o,h'.get? dx=some o:=let ⟨o,_,_,e',_⟩:=O'.ns;⟨o,e'⟩
 refine I.write (x:=a) (e:=dx) (by rw[e];exact True.intro) (.inr ho) (fun b q hb z=>(sb.2 b hb).trans z) hd ?_
 refine⟨by rw[aD O.ne];exact ho,?_,O.ne,O'.obj,_,O'.ns,fun g=>?_,fun g hg=>?_⟩
 ·have:=nW f y fs;omega
 ·show RelO ((bL f y fs).lookup g) (if g=f then some u else mA g)
  rw[nV];by_cases q:g=f
  ·rw[if_pos q,if_pos q];exact ry
  ·rw[if_neg q,if_neg q];exact r g
 ·by_cases q:g=f
  ·rw[q];exact(mU f y fs).1
  ·refine(mU f y fs).2 g (wi g fun z=>hg ?_)
   show(if g=f then some u else mA g)=none
   rw[if_neg q];exact z
theorem Inv.made (I:Inv X pins σ H s):Inv X pins σ (aI (aI H s.heap.objs.size (.own (s.heap.objs.size+1))) (s.heap.objs.size+1) (.ins C s.heap.objs.size []))
  {s with heap:=(s.heap.push W.emptyDict).push (W.instObj C s.heap.objs.size) }:=by
 have e1:(s.heap.push W.emptyDict).get? s.heap.objs.size=some W.emptyDict:=Heap.get?_push_size s.heap rfl
 have e2:((s.heap.push W.emptyDict).push (W.instObj C s.heap.objs.size)).get? (s.heap.objs.size+1)=some (W.instObj C s.heap.objs.size):=by
  have:=Heap.get?_push_size (s.heap.push W.emptyDict) (o:=W.instObj C s.heap.objs.size) rfl
  rwa [Heap.size_push]at this
 have e3:(s.heap.push W.emptyDict).Ns s.heap.objs.size (fun _=>none):=⟨W.emptyDict,#[],_,e1,rfl,(fun e he=>absurd he Zs),fun _=>rfl⟩
 have I1:=I.laid (a:=s.heap.objs.size) (o:=.own (s.heap.objs.size+1)) (h':=s.heap.push W.emptyDict) (t':=s.toks) (fun b u q=>eP _ q) (bQ _) ⟨_,e1⟩
 refine I1.laid (a:=s.heap.objs.size+1) (o:=.ins C s.heap.objs.size []) (t':=s.toks) (fun b u q=>eP _ q) (Nat.le_of_eq (Heap.size_push _ _)) ?_
 have ne:s.heap.objs.size≠s.heap.objs.size+1:=Nat.ne_of_lt (Nat.lt_succ_self _)
 refine⟨by rw[aD ne,aA],Nat.zero_le _,ne,e2,fun _=>none,(Heap.Ns1.of_empty e3).at fun o q=>eP _ q,fun _=>True.intro,fun y hy=>absurd rfl hy⟩
theorem Al {prog:Program} {w:World} {env:Env} {e:Expr} {f:Str} {pos:Pos} {s:Shared} {Q:Value->Shared->Prop} (hb:attributeBase e f env (eval e env)=eval e env)
  (h:wpAny (model prog w) A (eval e env) (fun o s₁=>wpAny (model prog w) A (getAttr o f true) Q E s₁) E s):wpAny (model prog w) A (eval (.Attribute e f pos) env) Q E s:=
 Attribute_any_ h (by rw[arm_eval_Attribute,hb])
end
section
variable {X:Cx} {pins:List (Addr × Obj)} {σ:St} {H:Hp} {s:Shared} {A:Around} {E:Value->Shared->Prop} {Q:Value->Shared->Prop} {c:Value} {b:Bool}
inductive lF (K:W.Frag) (H:Hp):V->Value->Prop where
 | non:lF K H .non (.type "NoneType")
 | bl (x:Bool):lF K H (.bl x) (.type "bool")
 | int (i:Int):lF K H (.int i) (.type "int")
 | str (x:Str):lF K H (.str x) (.type "str")
 | flt (x:UInt64):lF K H (.flt x) (.type "float")
 | lst {a:Addr} {xs:List V} (e:H a=some (.lst xs)):lF K H (.ref a) (.type "list")
 | frz {a:Addr} {o:Obj} {xs:List V} (e:H a=some (.frz o (.lst xs))):lF K H (.ref a) (.type "list")
 | tup {a:Addr} {xs:List V} (e:H a=some (.tup xs)):lF K H (.ref a) (.type "tuple")
 | dK {a:Addr} {kvs:List (bA × V)} (e:H a=some (.dK kvs)):lF K H (.ref a) (.type "dict")
 | dT {a:Addr} {kvs:List (List bA × V)} (e:H a=some (.dT kvs)):lF K H (.ref a) (.type "dict")
 | ins {a C dx:Addr} {fs:List (Str × V)} (e:H a=some (.ins C dx fs)) (cl:Cls K C) (ha:W.findIn K (.ref C) "__class__"=some (some (.builtin "object.__class__")))
   (hn:W.specialIn K (.builtin "object.__class__") "__get__"=some (some (.builtin "getset_descriptor.__get__"))) (htk:W.takesIn K (.builtin "object.__class__")=some true)
   (hm:W.mroIn K C (.type "object")=some true):lF K H (.ref a) (.ref C)
theorem Dn {x:V} {u t:Value} (I:Inv X pins σ H s) (rx:RelV x u) (ty:lF X.K H x t) (e:W.kitOne X.K t c=some b) (h:∀tk,Q (.bool b) {s with toks:=tk }) :
  wpAny (model X.prog X.w) A (call (.builtin "isinstance") [u,c]) Q E s:=by
 cases ty with
 | non=>cases (show u=Value.none from rx);exact W.kia_one W.kitx_none I.kIn True.intro e (fun z=>nomatch z) h
 | bl y=>cases (show u=Value.bool y from rx);exact W.kia_one W.kitx_bool I.kIn True.intro e (fun z=>nomatch z) h
 | int i=>obtain⟨t,q⟩:=(show ∃t,u=Value.int i t from rx);cases q;exact W.kia_one W.kitx_int I.kIn True.intro e (fun z=>nomatch z) h
 | str y=>obtain⟨t,q⟩:=(show ∃t,u=Value.str y t from rx);cases q;exact W.kia_one W.kitx_str I.kIn True.intro e (fun z=>nomatch z) h
 | flt y=>obtain⟨t,q⟩:=(show ∃t,u=Value.float y t from rx);cases q;exact W.kia_one W.kitx_float I.kIn True.intro e (fun z=>nomatch z) h
 | @lst a xs ea=>
  cases (show u=Value.ref a from rx)
  obtain⟨_,_,n,_,h1⟩:=(show ObjOk X.prog X.w H s.heap a (.lst xs) from I.hok a _ ea)
  exact W.kia_one W.kitx_list I.kIn ⟨_,h1,rfl⟩ e (fun z=>nomatch z) h
 | @frz a ob xs ea=>
  cases (show u=Value.ref a from rx)
  obtain⟨_,_,_,n,_,h1⟩:=(show ObjOk X.prog X.w H s.heap a (.frz ob (.lst xs)) from I.hok a _ ea)
  exact W.kia_one W.kitx_list I.kIn ⟨_,h1,rfl⟩ e (fun z=>nomatch z) h
 | @tup a xs ea=>
  cases (show u=Value.ref a from rx)
  obtain⟨_,_,_,p⟩:=(show ObjOk X.prog X.w H s.heap a (.tup xs) from I.hok a _ ea)
  obtain⟨o,h1,h2,_⟩:=p
  exact W.kia_one W.kitx_tuple I.kIn ⟨o,h1,h2⟩ e (fun z=>nomatch z) h
 | @dK a kvs ea=>
  cases (show u=Value.ref a from rx)
  obtain⟨_,_,vs,_,p⟩:=(show ObjOk X.prog X.w H s.heap a (.dK kvs) from I.hok a _ ea)
  obtain⟨o,es,ep,h1,h2,_⟩:=p
  exact W.kia_one W.kitx_dict I.kIn ⟨o,h1,h2.1⟩ e (fun z=>nomatch z) h
 | @dT a kvs ea=>
  cases (show u=Value.ref a from rx)
  obtain⟨_,_,xs,_,o,es,ep,h1,h2,_⟩:=(show ObjOk X.prog X.w H s.heap a (.dT kvs) from I.hok a _ ea)
  exact W.kia_one W.kitx_dict I.kIn ⟨o,h1,h2.1⟩ e (fun z=>nomatch z) h
 | @ins a C dx fs ea cl ha hn htk hm=>
  cases (show u=Value.ref a from rx)
  obtain⟨mA,O,_⟩:=oQ I.hok ea
  obtain⟨od,J,_⟩:=O.look
  exact W.kia_one (W.kitx_own (cl.get _) cl.hd ha hn htk hm) I.kIn J e (fun z=>nomatch z) h
end
end L2
namespace L2
open PySem PySem.Spec PyProof.Rows
structure Room (k:Nat) (A:Around):Prop where
 hd:A.handled=none
 dp:A.depth+3*k+5<recursionLimit
 un:A.units+16*k+200<cLine
theorem Room.mono {j k:Nat} {A:Around} (r:Room k A) (h:j<=k):Room j A:=⟨r.hd,by have:=r.dp;omega,by have:=r.un;omega⟩
theorem Room.deeper {k:Nat} {A:Around} (r:Room (k+1) A) (env:Env):Room k (A.deeper env):=
 ⟨r.hd,by have:=r.dp;show A.depth+1+3*k+5<_;omega,by have:=r.un;show A.units+3+16*k+200<_;omega⟩
theorem yI {A:Around} {C:Addr} {us:List Value} {kw:List (Str × Value)}:(A.under (.builtin "type.__call__" ⟨.ref C::us,kw⟩)).depth=A.depth+1:=by
 first | rfl | simp [Around.under,Code.weight,Code.isCreation,Code.isGuard,Code.isCaller,Code.frames,Code.isFrame,guardIds]
theorem yJ {A:Around} {C:Addr} {us:List Value} {kw:List (Str × Value)}:(A.under (.builtin "type.__call__" ⟨.ref C::us,kw⟩)).units=A.units+1:=by
 first | rfl | simp [Around.under,Code.cUnits,Code.frames,Code.isFrame]
theorem Room.make {k:Nat} {A:Around} (r:Room (k+1) A) (C:Addr) (us:List Value) (kw:List (Str × Value)):Room k (A.under (.builtin "type.__call__" ⟨.ref C::us,kw⟩)):=
 ⟨r.hd,by have:=r.dp;rw[yI];omega,by have:=r.un;rw[yJ];omega⟩
theorem Room.depth {k:Nat} {A:Around} (r:Room k A):A.depth<recursionLimit:=by have:=r.dp;omega
theorem Room.units {k:Nat} {A:Around} (r:Room k A):A.units+64<cLine:=by have:=r.un;omega
theorem Room.units0 {k:Nat} {A:Around} (r:Room k A):A.units<cLine:=by have:=r.un;omega
def yK:TA:=fun _ H Q=>Q [] H
def nX (ta:TE) (tr:TA):TA:=fun σ H Q=>ta σ H fun x H1=>tr σ H1 fun xs H2=>Q (x::xs) H2
section
variable {X:Cx} {e:Expr} {es:List Expr} {te:TE} {t:TA} {pos:Pos}
theorem tL:PA X [] yK:=fun _ _ _ _ H Q I h=>Calls.spliced_nil ⟨[],H,I,.nil,h⟩
theorem tM (ha:PE X e te) (hr:PA X es t) (hs:starEach (e::es) X.env=(false,eval e X.env)::starEach es X.env:=by rfl):PA X (e::es) (nX te t):=by
 intro pos pins s σ H Q I h;rw[hs];show wpAny _ _ (spliced ((false,eval e X.env)::backTo pos (starEach es X.env))) _ _ s
 refine Calls.spliced_cons (bU (ha pins s σ H _ I h) fun u s1 ⟨x,H1,I1,r1,q1⟩=>?_)
 exact bU (hr pos pins s1 σ H1 _ I1 q1) fun us s2 ⟨xs,H2,I2,r2,q2⟩=>⟨x::xs,H2,I2,.cons r1 r2,q2⟩
def Zl (t:TA):TE:=fun σ H Q=>t σ H fun xs H1=>xs.length<=sizeLine/\∀p,H1 p=none->Q (.ref p) (aI H1 p (.tup xs))
def Zm (t:TA):TE:=fun σ H Q=>t σ H fun xs H1=>xs.length<=sizeLine/\∀p,H1 p=none->Q (.ref p) (aI H1 p (.lst xs))
theorem Uv {x1} (h:PA X es t):PE X (.Tuple es x1 pos) (Zl t):=by
 intro pins s σ H Q I hq;refine wpAny_Tuple_spliced (bU (h pos pins s σ H _ I hq) fun us s1 ⟨xs,H1,I1,r,z,q⟩=>⟨by rw[<- r.length];exact z,?_⟩)
 have hf:H1 s1.heap.objs.size=none:=I1.hok.fresh (bQ _)
 refine⟨.ref s1.heap.objs.size,aI H1 s1.heap.objs.size (.tup xs),I1.laid (t':=s1.toks) (fun b u e=>eP _ e) (bQ _) ?_,rfl,q _ hf⟩
 exact⟨z,us,r,⟨_,Heap.get?_push_size _ rfl,rfl,_,rfl⟩⟩
theorem Uw (h:PA X es t):PE X (.List es pos) (Zm t):=by
 intro pins s σ H Q I hq;refine wpAny_List_spliced (bU (h pos pins s σ H _ I hq) fun us s1 ⟨xs,H1,I1,r,z,q⟩=>⟨by rw[<- r.length];exact z,?_⟩)
 have hf:H1 s1.heap.objs.size=none:=I1.hok.fresh (bQ _)
 refine⟨.ref s1.heap.objs.size,aI H1 s1.heap.objs.size (.lst xs),I1.laid (t':=s1.toks) (fun b u e=>eP _ e) (bQ _) ?_,rfl,q _ hf⟩
 exact⟨z,us,0,r,Heap.get?_push_size _ rfl⟩
end
abbrev Sp:=List V->Hp->VK->XK->Prop
abbrev Gq:=List Env->Hp->Shared->XK->Value->Shared->Prop
structure Env0 (P:Program) (w:World) (K:W.Frag) (mg:Str->Option Value) (base:Heap) (A:Around) (outer:List Env) (s:Shared) (H:Hp):Prop where
 frames:A.frames=some outer
 mod:Mod K mg base
 bs:∀b o,base.get? b=some o->s.heap.get? b=some o/\H b=none
 bsz:base.objs.size<=s.heap.objs.size
 funs:s.heap.FunFrames base outer
 frf:∀b∈jJ outer,H b=none
 hok:HOk P w H s.heap
 bare:AllBare s.gens
def CE (outer:List Env) (P:Program) (w:World) (H:Hp) (s:Shared) (Q:VK) (u:Value) (s':Shared):Prop:=
 ∃v H',s'.os=s.os/\AllBare s'.gens/\Un (jJ outer) [] H H' s.heap s'.heap/\HOk P w H' s'.heap/\RelV v u/\Q v H'
def CR (CX:Gq) (outer:List Env) (P:Program) (w:World) (H:Hp) (s:Shared) (Q:VK) (E:XK) (r:Result) (s':Shared):Prop:=
 match r with
 | .ok (.ret u)=>CE outer P w H s Q u s'
 | .ok _=>False
 | .error e=>CX outer H s E e s'
structure iE (P:Program) (w:World) (K:W.Frag) (mg:Str->Option Value) (base:Heap) (CX:Gq) (k:Nat) (f:Addr) (fd:FuncData) (ps:List Str) (sp:Sp):Prop where
 len:∀vs H Q E,sp vs H Q E->vs.length=ps.length
 run:∀(A:Around) (outer:List Env) (s:Shared) (H:Hp) (args:Args) (us:List Value) (vs:List V) (Q:VK) (E:XK),Room k A->Env0 P w K mg base A outer s H->BindsTo s fd args (ps.zip us)->Vals vs us->sp vs H Q E →
  codeAny (model P w) A (.call (.ref f) args) (CR CX outer P w H s Q E) s
theorem Env0.make {P:Program} {w:World} {K:W.Frag} {mg:Str->Option Value} {base:Heap} {A:Around} {outer:List Env} {s:Shared} {H:Hp} (e:Env0 P w K mg base A outer s H) (C:Addr) (us:List Value) (kw:List (Str × Value)) :
  Env0 P w K mg base (A.under (.builtin "type.__call__" ⟨.ref C::us,kw⟩)) outer s H:=⟨by first | exact e.frames | (simpa [Around.under,Code.envs,Code.isFrame,pushEnvs]using e.frames),e.mod,e.bs,e.bsz,e.funs,e.frf,e.hok,e.bare⟩
section
variable {X:Cx} {pins:List (Addr × Obj)} {σ:St} {H:Hp} {s s':Shared}
theorem Inv.env0 (I:Inv X pins σ H s):Env0 X.prog X.w X.K X.mg X.base X.A X.stack s H:=
 ⟨I.ok.frames,I.ok.mod,I.bs,kN I.ok.bsz I.sz,I.stack,I.stkFree,I.hok,I.bare⟩
theorem Inv.after {Q:VK} {u:Value} (I:Inv X pins σ H s) (h:CE X.stack X.prog X.w H s Q u s'):EP X pins σ Q u s':=by
 obtain⟨v,H',os,bare,un,hok,r,q⟩:=h
 obtain⟨hh,g,d,t,os'⟩:=s'
 obtain rfl:os'=s.os:=os
 exact⟨v,H',I.call (h':=hh) (g':=g) (d':=d) (t':=t) (ch:=[]) un hok bare (fun b z=>absurd z Zs),r,q⟩
end
def Zp (sp:Sp) (dvs:List V) (E:XK) (t:TA):TE:=fun σ H Q=>t σ H fun vs H1=>sp (vs++dvs) H1 Q E
def Am (C:Addr) (sp:Sp) (dvs:List V) (E:XK) (t:TA):TE:=fun σ H Q=>t σ H fun vs H1=>∀x dx,H1 x=none->H1 dx=none->dx≠x →
 sp (.ref x::(vs++dvs)) (aI (aI H1 dx (.own x)) x (.ins C dx [])) (fun v H2=>v=.non/\Q (.ref x) H2) E
def Binds (K:W.Frag) (fd:FuncData) (ps:List Str) (ds:List Value):Prop:=
 ∀(s:Shared) (us:List Value),K.In s.heap->(us++ds).length=ps.length->BindsTo s fd ⟨us,[]⟩ (ps.zip (us++ds))
theorem Binds.all {K:W.Frag} {fd:FuncData} {ps:List Str} (h:∀us:List Value,us.length=ps.length->bindArgs fd ⟨us,[]⟩=pure (ps.zip us)):Binds K fd ps []:=fun s us _ hl=>by
 rw[List.append_nil]at hl ⊢;exact .of_eq (h us hl)
def mV (CX:Gq) (X:Cx) (E:XK):Prop:=∀(pins:List (Addr × Obj)) (σ:St) (H:Hp) (s:Shared) (e:Value) (s':Shared),Inv X pins σ H s->CX X.stack H s E e s'->X.xe e s'
section
variable {X:Cx} {CX:Gq} {k:Nat} {f C:Addr} {fd:FuncData} {ps:List Str} {sp:Sp} {dvs:List V} {ds:List Value} {E:XK} {x m:Str} {p pos apos:Pos} {e o:Expr} {es:List Expr} {ta:TE} {t:TA}
theorem Gr {pins:List (Addr × Obj)} {σ:St} {H:Hp} {s:Shared} {Q:VK} {us:List Value} {vs:List V} (F:iE X.prog X.w X.K X.mg X.base CX k f fd ps sp) (hr:Room k X.A) (hb:Binds X.K fd ps ds) (hd:Vals dvs ds) (hx:mV CX X E)
  (I:Inv X pins σ H s) (r:Vals vs us) (h:sp (vs++dvs) H Q E):wpAny (model X.prog X.w) X.A (call (.ref f) us) (EP X pins σ Q) X.xe s:=by
 have r2:Vals (vs++dvs) (us++ds):=r.append hd
 have hl:(us++ds).length=ps.length:=by rw[<- r2.length];exact F.len _ _ _ _ h
 refine wpAny_call (codeAny_mono (F.run X.A X.stack s H ⟨us,[]⟩ (us++ds) (vs++dvs) Q E hr I.env0 (hb s us I.kIn hl) r2 h) fun r s' hq=>?_)
 cases r with
 | error e=>exact hx pins σ H s e s' I hq
 | ok fl=>
  cases fl with
  | ret u=>exact I.after hq
  | next=>exact False.elim hq
  | brk=>exact False.elim hq
  | cont=>exact False.elim hq
theorem Nw (F:iE X.prog X.w X.K X.mg X.base CX k f fd ps sp) (hr:Room k X.A) (hg:Gl X x) (hm:X.mg x=some (.ref f)) (hk:W.keepIn X.K (.ref f)=true) (hb:Binds X.K fd ps ds) (hd:Vals dvs ds) (hx:mV CX X E)
  (ha:PA X (e::es) t) (hdb:(x == ("__debug__":Str))=false:=by decide) (he:starEach (e::es) X.env=(false,eval e X.env)::starEach es X.env:=by rfl) (hpl:(backTo pos (starEach es X.env)).any (·.1)=false:=by rfl) :
  PE X (.Call (.Name x p) (e::es) [] pos) (Zp sp dvs E t):=by
 intro pins s σ H Q I h;refine wpAny_Call_Name_kw (iC I hg hm ?_ hdb)
 refine W.callWith_K (h₀:=X.base) I.ok.mod.kin hk (bU (ha pos pins s σ H _ I h) fun us s1 ⟨vs,H1,I1,r,q⟩=>⟨I1.kIn,?_⟩) he hpl
 exact Gr F hr hb hd hx I1 r q
structure Mk (K:W.Frag) (C f:Addr):Prop where
 makes:W.makesIn K C=true
 init:W.findIn K (.ref C) "__init__"=some (some (.ref f))
 fn:W.isFn K (.ref f)=true
 kp:W.keepIn K (.ref C)=true
theorem vX {pins:List (Addr × Obj)} {σ:St} {H:Hp} {s:Shared} {Q:VK} {us:List Value} {vs:List V} (M:Mk X.K C f) (F:iE X.prog X.w X.K X.mg X.base CX k f fd ps sp) (hr:Room (k+1) X.A) (hb:Binds X.K fd ps ds) (hd:Vals dvs ds)
  (hx:mV CX X E) (I:Inv X pins σ H s) (r:Vals vs us)
  (h:∀x dx,H x=none->H dx=none->dx≠x->sp (.ref x::(vs++dvs)) (aI (aI H dx (.own x)) x (.ins C dx [])) (fun v H2=>v=.non/\Q (.ref x) H2) E) :
  wpAny (model X.prog X.w) X.A (call (.ref C) us) (EP X pins σ Q) X.xe s:=by
 have hq:=h (s.heap.objs.size+1) s.heap.objs.size (I.hok.fresh (Nat.le_succ _)) (I.hok.fresh (bQ _)) (Nat.ne_of_lt (Nat.lt_succ_self _))
 have I2:=Inv.made (C:=C) I
 have r2:Vals (V.ref (s.heap.objs.size+1)::(vs++dvs)) (Value.ref (s.heap.objs.size+1)::(us++ds)):=.cons rfl (r.append hd)
 have hl:(Value.ref (s.heap.objs.size+1)::us++ds).length=ps.length:=by
  have e:=r2.length
  rw[F.len _ _ _ _ hq]at e;exact e.symm
 refine wpAny_call (Gp (f:=f) I.kIn M.makes M.init (beq_iff_eq.mp M.fn) (codeAny_mono (F.run _ X.stack _ _ ⟨Value.ref (s.heap.objs.size+1)::us,[]⟩ (Value.ref (s.heap.objs.size+1)::(us++ds)) _ _ E (hr.make C us [])
  (I2.env0.make C us []) (hb _ (Value.ref (s.heap.objs.size+1)::us) I2.kIn hl) r2 hq) fun r s' hq'=>?_))
 cases r with
 | error e=>exact hx pins σ _ _ e s' I2 hq'
 | ok fl=>
  cases fl with
  | ret u=>
   obtain⟨v,H',I3,rv,ev,q3⟩:=I2.after hq'
   subst ev;exact⟨rv,⟨V.ref (s.heap.objs.size+1),H',I3,rfl,q3⟩⟩
  | next=>exact False.elim hq'
  | brk=>exact False.elim hq'
  | cont=>exact False.elim hq'
theorem Ny (M:Mk X.K C f) (F:iE X.prog X.w X.K X.mg X.base CX k f fd ps sp) (hr:Room (k+1) X.A) (hg:Gl X x) (hm:X.mg x=some (.ref C)) (hb:Binds X.K fd ps ds) (hd:Vals dvs ds) (hx:mV CX X E)
  (ha:PA X (e::es) t) (hdb:(x == ("__debug__":Str))=false:=by decide) (he:starEach (e::es) X.env=(false,eval e X.env)::starEach es X.env:=by rfl) (hpl:(backTo pos (starEach es X.env)).any (·.1)=false:=by rfl) :
  PE X (.Call (.Name x p) (e::es) [] pos) (Am C sp dvs E t):=by
 intro pins s σ H Q I h;refine wpAny_Call_Name_kw (iC I hg hm ?_ hdb)
 refine W.callWith_K (h₀:=X.base) I.ok.mod.kin M.kp (bU (ha pos pins s σ H _ I h) fun us s1 ⟨vs,H1,I1,r,q⟩=>⟨I1.kIn,?_⟩) he hpl
 exact vX M F hr hb hd hx I1 r q
theorem Gs (M:Mk X.K C f) (F:iE X.prog X.w X.K X.mg X.base CX k f fd ps sp) (hr:Room (k+1) X.A) (hg:Gl X x) (hm:X.mg x=some (.ref C)) (hb:Binds X.K fd ps ds) (hd:Vals dvs ds) (hx:mV CX X E)
  (hdb:(x == ("__debug__":Str))=false:=by decide):PE X (.Call (.Name x p) [] [] pos) (Am C sp dvs E yK):=by
 intro pins s σ H Q I h;refine wpAny_Call_Name_kw (iC I hg hm ?_ hdb)
 exact W.callWith_K0 I.kIn M.kp (vX (us:=[]) M F hr hb hd hx I .nil h)
end
structure aJ (N P:List Str) (sc:Scope):Prop where
 kind:sc.kind=.function
 co:sc.isCoroutine=false
 gen:sc.isGenerator=false
 nd:N.Nodup
 pre:N.take P.length=P
 par:∀x∈P,sc.names.lookup x=some .local∨sc.names.lookup x=some .cell
 nofree:∀y∈sc.names,y.2≠.free
theorem rT {kindOf:Str->Option NameKind} {x:Str}:∀ {binds:List (Str × Value)} {m:Str->Option Value},(∀v,(x,v)∉binds)->bindL kindOf binds m x=m x
 | [],_,_=>rfl
 | (n,v)::r,m,h=>by
  unfold bindL;rw[rT fun w hw=>h w (oP _ hw)]
  split
  ·have:x≠n:=by rintro rfl;exact h v jI
   simp [this]
  ·rfl
theorem rV {kindOf:Str->Option NameKind} {x:Str}:∀ {binds:List (Str × Value)} {m:Str->Option Value},(∀v,(x,v)∉binds)->bindC kindOf binds m x=m x
 | [],_,_=>rfl
 | (n,v)::r,m,h=>by
  unfold bindC;rw[rV fun w hw=>h w (oP _ hw)]
  split
  ·rfl
  ·have:x≠n:=by rintro rfl;exact h v jI
   simp [this]
theorem rW {kindOf:Str->Option NameKind} {x:Str} {v:Value}:∀ {P:List Str} {vs:List Value} {i:Nat} {m:Str->Option Value},P.Nodup->P[i]?=some x->vs[i]?=some v->kindOf x=some .local →
  bindL kindOf (P.zip vs) m x=some v
 | [],_,_,_,_,h,_,_=>by simp at h
 | _::_,[],_,_,_,_,h,_=>by simp at h
 | p::P,w::vs,0,m,nd,h1,h2,hk=>by
  simp at h1 h2;subst h1;subst h2
  show bindL kindOf ((p,w)::P.zip vs) m p=_
  unfold bindL;rw[rT fun v hv=>(List.nodup_cons.mp nd).1 (List.of_mem_zip hv).1,if_pos hk]
  simp
 | p::P,w::vs,i+1,m,nd,h1,h2,hk=>by
  show bindL kindOf ((p,w)::P.zip vs) m x=_
  unfold bindL;exact rW (i:=i) (List.nodup_cons.mp nd).2 (by simpa using h1) (by simpa using h2) hk
theorem rX {kindOf:Str->Option NameKind} {x:Str} {v:Value}:∀ {P:List Str} {vs:List Value} {i:Nat} {m:Str->Option Value},P.Nodup->P[i]?=some x->vs[i]?=some v->kindOf x≠some .local →
  bindC kindOf (P.zip vs) m x=some v
 | [],_,_,_,_,h,_,_=>by simp at h
 | _::_,[],_,_,_,_,h,_=>by simp at h
 | p::P,w::vs,0,m,nd,h1,h2,hk=>by
  simp at h1 h2;subst h1;subst h2
  show bindC kindOf ((p,w)::P.zip vs) m p=_
  unfold bindC;rw[rV fun v hv=>(List.nodup_cons.mp nd).1 (List.of_mem_zip hv).1,if_neg hk]
  simp
 | p::P,w::vs,i+1,m,nd,h1,h2,hk=>by
  show bindC kindOf ((p,w)::P.zip vs) m x=_
  unfold bindC;exact rX (i:=i) (List.nodup_cons.mp nd).2 (by simpa using h1) (by simpa using h2) hk
def start (N:List Str) (vs:List V):St:=vs.map some++List.replicate (N.length - vs.length) none
def fL (CX:Gq) (P:Program) (w:World) (K:W.Frag) (mg:Str->Option Value) (base:Heap) (N:List Str) (qual:Str) (scope:Scope) (f:Addr) (cd:Value) (A:Around) (outer:List Env) (s:Shared) (H:Hp) (E:XK):Cx where
 prog:=P
 w:=w
 K:=K
 mg:=mg
 base:=base
 A:=A.deeper (envOfC qual scope s.heap.objs.size f cd)
 N:=N
 s₀:=s
 H₀:=H
 env:=envOfC qual scope s.heap.objs.size f cd
 outer:=outer
 stack:=envOfC qual scope s.heap.objs.size f cd::outer
 ex:=[]
 calm:=true
 fn:=fun _=>true
 pn:=[]
 xe:=fun e s'=>wpAny (model P w) (A.deeper (envOfC qual scope s.heap.objs.size f cd)) (leaving (envOfC qual scope s.heap.objs.size f cd) e) (fun _ s''=>CX outer H s E e s'') (fun e' s''=>CX outer H s E e' s'') s'
theorem vY {sc:Scope} {n:Nat} {x:Str} (h:sc.names.lookup x=some .cell):∃c,(cellsFrom n sc.names []).lookup x=some c:=by
 have q:=W.cellsFrom_some sc.names n [] (.inl h)
 exact Option.isSome_iff_exists.mp q
theorem Dp {CX:Gq} {P:Program} {w:World} {K:W.Frag} {mg:Str->Option Value} {base:Heap} {N ps:List Str} {qual:Str} {scope:Scope} {f:Addr} {cd:Value} {A:Around} {outer:List Env} {s s1:Shared} {H:Hp} {E:XK} {us:List Value} {vs:List V}
  (S:aJ N ps scope) (hd:A.handled=none) (e0:Env0 P w K mg base A outer s H) (hl:vs.length=ps.length) (r:Vals vs us)
  (x:InCallC s s.heap.objs.size (bindL (envOfC qual scope s.heap.objs.size f cd).kindOf (ps.zip us) fun _=>none) (cellsFrom (s.heap.objs.size+1) scope.names []) (bindC (envOfC qual scope s.heap.objs.size f cd).kindOf (ps.zip us) fun _=>none) s1) :
  Inv (fL CX P w K mg base N qual scope f cd A outer s H E) [] (start N vs) H s1:=by
 have hpl:ps.length<=N.length:=by have:=congrArg List.length S.pre;rw[jD]at this;omega
 obtain⟨h1,tk,rfl,hk⟩:=x.done
 have noA:∀b:Addr,b∉(fL CX P w K mg base N qual scope f cd A outer s H E).ex:=fun b z=>absurd (show b∈([]:List Addr) from z) Zs
 refine⟨⟨e0.mod,S.kind,rfl,rfl,bQ _,fun y z c h1 h2=>?_,fun y hy=>?_,fun y c _ h=>?_,fun _=>hd,Around.frames_deeper e0.frames,.inr ⟨rfl,rfl⟩,fun b z=>absurd z (noA b),e0.bs,e0.bsz,fun b _ _=>noA b,fun b z=>absurd z (noA b),e0.funs,e0.frf⟩,
  rfl,e0.bare,Un.kept hk,⟨_,x.toInCall.ns,fun i y v h1 h2 h3=>?_⟩,fun y c h=>⟨_,x.cell y c h⟩,e0.hok.fresh (bQ _),fun y c h=>?_,fun p hp=>absurd (show p∈([]:List (Addr × Obj)) from hp) Zs,e0.hok.kept hk,?_⟩
 ·exact name_of_addr x.apart (PySem.mem_of_lookup h1) (PySem.mem_of_lookup h2)
 ·have hy:scope.names.lookup y=some .cell∨scope.names.lookup y=some .free:=hy
  rcases hy with hy | hy
  ·exact vY hy
  ·exact absurd rfl (S.nofree _ (PySem.mem_of_lookup hy))
 ·exact Nat.le_of_lt (x.above y c (PySem.mem_of_lookup h))
 ·have hi:i<vs.length:=by
   unfold start at h2;by_cases hi:i<vs.length
   ·exact hi
   ·rw[List.getElem?_append_right (by simpa using hi)]at h2
    rw[List.getElem?_replicate]at h2;split at h2 <;> cases h2
  have ha:vs[i]?=some v:=by
   unfold start at h2;rw[List.getElem?_append_left (by simpa using hi),jC]at h2
   cases e:vs[i]? with
   | none=>rw[e]at h2;cases h2
   | some a=>rw[e]at h2;cases h2;rfl
  obtain⟨u,hu,rv⟩:=r.get ha
  have hp:ps[i]?=some y:=by
   rw[<- S.pre,List.getElem?_take_of_lt Zo];exact h1
  have ndP:ps.Nodup:=by rw[<- S.pre];exact S.nd.sublist (List.take_sublist _ _)
  refine⟨u,rv,?_⟩
  rcases S.par y (jW hp) with k | k
  ·exact .inl ⟨k,rW ndP hp hu k⟩
  ·obtain⟨c,e⟩:=vY (n:=s.heap.objs.size+1) k
   refine .inr ⟨.inl k,c,e,?_⟩
   have q:=x.cell y c e
   rw[rX ndP hp hu (by show scope.names.lookup y≠_;rw[k];decide)]at q
   exact q
 ·exact e0.hok.fresh (Nat.le_of_lt (x.above y c (PySem.mem_of_lookup h)))
 ·unfold start;show _=N.length
  rw[kM,aZ,List.length_replicate];omega
theorem Gu {CX:Gq} {P:Program} {w:World} {K:W.Frag} {mg:Str->Option Value} {base:Heap} {k:Nat} {f:Addr} {name qual:Str} {params:Arguments} {body:List Stmt} {scope:Scope} {dV kV doc pm cdv ct oc:Value} {an od:Option Addr}
  {osl:Array (Option Value)} {N ps:List Str} {sp:Sp} (lk:K.lookup f=some ⟨oc,od,.func (W.fnOf name qual params body scope dV kV doc pm an cdv ct),osl⟩) (hcd:W.codeIn K cdv qual=true) (S:aJ N ps scope)
  (len:∀vs H Q E,sp vs H Q E->vs.length=ps.length)
  (hbody:∀(A:Around) (outer:List Env) (s:Shared) (H:Hp) (vs:List V) (Q:VK) (E:XK),Room k (A.deeper (envOfC qual scope s.heap.objs.size f cdv))->sp vs H Q E →
   ∃t,PSs (fL CX P w K mg base N qual scope f cdv A outer s H E) body t/\t {nx:=fun _ H'=>Q .non H',rt:=Q } (start N vs) H) :
  iE P w K mg base CX (k+1) f (W.fnOf name qual params body scope dV kV doc pm an cdv ct) ps sp:=by
 refine⟨len,fun A outer s H args us vs Q E hr e0 hb r hsp=>?_⟩
 have hl:=len _ _ _ _ hsp
 have KX:K.In s.heap:=e0.mod.kin.keeps fun b o e=>(e0.bs b o e).1
 have lim:s.heap.NoLimit:=e0.mod.nolimit.keeps fun b o e=>(e0.bs b o e).1
 have hkind:∀y∈ps.zip us,scope.names.lookup y.1=some .local∨(scope.names.lookup y.1=some .cell/\((cellsFrom (s.heap.objs.size+1) scope.names []).lookup y.1).isSome=true):=fun⟨n,v⟩ hy=>by
  rcases S.par n (List.of_mem_zip hy).1 with q | q
  ·exact .inl q
  ·exact .inr ⟨q,W.cellsFrom_some _ _ _ (.inl q)⟩
 refine codeAny_call_function hr.depth (KX _ _ lk) rfl S.co S.gen rfl (W.codeRec_of KX hcd) (hb _ _ _ _ ?_)
 refine wpAny_newFunctionEnv_cells S.kind hkind fun env he s1 x=>?_
 subst he;refine⟨lim.keeps x.toInCall.keep,codeAny_func ?_⟩
 obtain⟨t,ht,hq⟩:=hbody A outer s H vs Q E (hr.deeper _) hsp
 have I:Inv (fL CX P w K mg base N qual scope f cdv A outer s H E) [] (start N vs) H s1:=Dp S hr.hd e0 hl r x
 refine wpAny_mono (ht [] s1 (start N vs) H _ I hq) (fun fl s' hs=>?_) fun e s' hs=>hs
 have fin:∀ {σ':St} {H':Hp} {v:V} {u:Value},Inv (fL CX P w K mg base N qual scope f cdv A outer s H E) [] σ' H' s'->RelV v u->Q v H'->CE outer P w H s Q u s':=
  fun {σ' H' v u} J rv q=>⟨v,H',J.os,J.bare,J.base,J.hok,rv,q⟩
 cases fl with
 | ret u=>
  obtain⟨v,σ',H',J,rv,q⟩:=hs
  exact fin J rv q
 | next=>
  obtain⟨σ',H',J,q⟩:=hs
  exact fin (v:=V.non) (u:=Value.none) J rfl q
 | brk=>
  obtain⟨_,_,_,q⟩:=hs
  exact False.elim q
 | cont=>
  obtain⟨_,_,_,q⟩:=hs
  exact False.elim q
end L2
namespace L2
open PySem PySem.Spec PyProof.Rows
section
variable {X:Cx} {x:Str} {p pos:Pos} {e:Expr} {es:List Expr} {t:TA} {id T:String} {r:List V->Hp->VK->Prop}
def Yi (r:List V->Hp->VK->Prop) (t:TA):TE:=fun σ H Q=>t σ H fun vs H1=>r vs H1 Q
theorem vZ (hc:CallR X (.builtin id) r) (hg:Gl X x) (hm:X.mg x=none) (hv:bootBuiltins x=some (.builtin id)) (ha:PA X (e::es) t) (hn:x≠"__name__":=by decide) (hdb:(x == ("__debug__":Str))=false:=by decide)
  (he:starEach (e::es) X.env=(false,eval e X.env)::starEach es X.env:=by rfl) (hpl:(backTo pos (starEach es X.env)).any (·.1)=false:=by rfl):PE X (.Call (.Name x p) (e::es) [] pos) (Yi r t):=by
 intro pins s σ H Q I h;refine wpAny_Call_Name_kw (mO I hg hm hv ?_ hn hdb)
 exact PyProof.Rows.callWith_builtin1 (bU (ha pos pins s σ H _ I h) fun us s1 ⟨vs,H1,I1,r1,q1⟩=>hc pins s1 σ H1 vs us Q I1 r1 q1) he hpl
theorem Dq (hc:CallR X (.type T) r) (hg:Gl X x) (hm:X.mg x=none) (hv:bootBuiltins x=some (.type T)) (ha:PA X (e::es) t) (hn:x≠"__name__":=by decide) (hdb:(x == ("__debug__":Str))=false:=by decide)
  (he:starEach (e::es) X.env=(false,eval e X.env)::starEach es X.env:=by rfl) (hpl:(backTo pos (starEach es X.env)).any (·.1)=false:=by rfl):PE X (.Call (.Name x p) (e::es) [] pos) (Yi r t):=by
 intro pins s σ H Q I h;refine wpAny_Call_Name_kw (mO I hg hm hv ?_ hn hdb)
 exact PyProof.Rows.callWith_type1 (bU (ha pos pins s σ H _ I h) fun us s1 ⟨vs,H1,I1,r1,q1⟩=>hc pins s1 σ H1 vs us Q I1 r1 q1) he hpl
end
end L2
namespace HT
open PySem PyProof.Rows
section
variable {prog:Program} {w:World} {A:Around} {E:Value->Shared->Prop} {s:Shared}
theorem cat_tup {t b:Addr} {vs ws:List Value} {Q:Value->Shared->Prop} (ht:IsTup s.heap t vs.toArray) (hb:IsTup s.heap b ws.toArray) (hv:vs≠[])
  (h1:ws=[]->Q (.ref t) s) (h2:ws≠[]->Q (.ref s.heap.objs.size) {s with heap:=s.heap.push {cls:=.type "tuple",data:=.seq (vs++ws).toArray } })
  (hsz:vs.length+ws.length<=sizeLine):wpAny (model prog w) A (binaryOp .Add (.ref t) (.ref b)) Q E s:=by
 obtain⟨⟨cls,dd,data,sl⟩,ho,hc,n,hd⟩:=id ht
 obtain⟨⟨cls2,dd2,data2,sl2⟩,ho2,hc2,n2,hd2⟩:=id hb
 simp only at hc hd hc2 hd2
 subst hc hd hc2 hd2;have e:vs.toArray++ws.toArray=(vs++ws).toArray:=by simp
 by_cases hw:ws=[]
 ·exact concat_meets ⟨_,ho,rfl⟩ ⟨_,ho2,rfl⟩ noFill_tuple_add seq_tuple_add PySem.F.slot_tuple_add PySem.F.entry_tuple_add (PySem.F.args_tuple_add_2 _ _)
   (tuple_addW1 t b vs.toArray ws.toArray n n2 dd dd2 sl sl2 (by simpa using hv) (by simp [hw])) ⟨ho,ho2,h1 hw⟩
 ·refine concat_meets ⟨_,ho,rfl⟩ ⟨_,ho2,rfl⟩ noFill_tuple_add seq_tuple_add PySem.F.slot_tuple_add PySem.F.entry_tuple_add (PySem.F.args_tuple_add_2 _ _)
   (tuple_addW2 t b vs.toArray ws.toArray n n2 dd dd2 sl sl2 (by simpa using hv) (by simpa using hw) (by rw[eB,eB];exact hsz)) ⟨ho,ho2,?_⟩
  rw[e];exact h2 hw
def sIx (n d:Nat):Option Int->Nat
 | none=>d
 | some v=>if v<0 then (v+(n:Int)).toNat else min v.toNat n
theorem sIx_none (n d:Nat):sIx n d none=d:=rfl
theorem sIx_nat (n d k:Nat):sIx n d (some (k:Int))=min k n:=by
 show(if (k:Int)<0 then ((k:Int)+(n:Int)).toNat else min (k:Int).toNat n)=min k n
 rw[if_neg Zo,Int.toNat_natCast]
theorem Ux (n d:Nat) (hd:d<=n) (o:Option Int):sIx n d o<=n:=by
 cases o with
 | none=>exact hd
 | some v=>
  show(if v<0 then (v+(n:Int)).toNat else min v.toNat n)<=n
  by_cases hv:v<0
  ·rw[if_pos hv];omega
  ·rw[if_neg hv];exact Nat.min_le_right _ _
theorem Ao (v:Int) (n d:Nat):(if v<0 then max (v+(n:Int)) 0 else min v (n:Int))=((sIx n d (some v):Nat):Int):=by
 show(if v<0 then max (v+(n:Int)) 0 else min v (n:Int))=(((if v<0 then (v+(n:Int)).toNat else min v.toNat n):Nat):Int)
 by_cases hv:v<0
 ·simp only [if_pos hv];omega
 ·simp only [if_neg hv];omega
theorem yL (lo hi:Option Int) (n:Nat):Builtin.Slice.sliceAdjust lo hi 1 (n:Int)=(((sIx n 0 lo:Nat):Int),((sIx n n hi:Nat):Int)):=by
 have h1:¬ ((1:Int)<0):=by omega
 unfold Builtin.Slice.sliceAdjust;simp only [h1,if_false]
 refine Prod.ext ?_ ?_
 ·cases lo with
  | none=>rfl
  | some v=>exact Ao v n 0
 ·cases hi with
  | none=>rfl
  | some v=>exact Ao v n n
theorem yM (i j:Nat):Builtin.Slice.slicePlaces (i:Int) (j:Int) 1=j - i:=by
 unfold Builtin.Slice.slicePlaces;have h1:(1:Int) > 0:=by omega
 simp only [h1,if_true,Int.ediv_one]
 split <;> omega
theorem pC {v:Value} {o:Option Int} {Q:Option Int->Shared->Prop} (p:IsPart v o) (h:Q o s):wpAny (model prog w) A (Builtin.Slice.slicePartIndex v) Q E s:=by
 cases p with
 | none=>exact slicePart_none h
 | int i t=>exact slicePart_int h
theorem sliceApplied_gen {sl:Addr} {vl vu:Value} {lo hi:Option Int} {n:Nat} {Q:Int × Int × Nat->Shared->Prop} (hs:s.heap.IsSliceOf sl vl vu .none) (pl:IsPart vl lo) (pu:IsPart vu hi)
  (h:Q (((sIx n 0 lo:Nat):Int),1,sIx n n hi - sIx n 0 lo) s):wpAny (model prog w) A (Builtin.Slice.sliceApplied (.ref sl) (pure (n:Int))) Q E s:=by
 obtain⟨os,hos,hcs,hds⟩:=id hs
 unfold Builtin.Slice.sliceApplied Builtin.Slice.sliceFields;refine wpAny_bind (wpAny_bind (wpAny_field hos hds (x:=vl) rfl (wpAny_bind (wpAny_field hos hds (x:=vu) rfl (wpAny_bind (wpAny_field hos hds (x:=.none) rfl (wpAny_pure ?_)))))))
 refine wpAny_bind (slicePart_none ?_)
 show wpAny _ _ (if ((1:Int) == 0)=true then _ else _) _ _ s
 rw[if_neg Zd]
 refine wpAny_bind (pC pl (wpAny_bind (pC pu (wpAny_bind (wpAny_pure ?_)))))
 show wpAny _ _ (match Builtin.Slice.sliceAdjust lo hi 1 (n:Int) with | (lo,hi)=>pure (lo,(1:Int),Builtin.Slice.slicePlaces lo hi 1)) _ _ s
 rw[yL lo hi n];show wpAny _ _ (pure (((sIx n 0 lo:Nat):Int),(1:Int),Builtin.Slice.slicePlaces ((sIx n 0 lo:Nat):Int) ((sIx n n hi:Nat):Int) 1)) _ _ s
 rw[yM];exact wpAny_pure h
theorem Gv (xs:Array Value) (i k:Nat):((List.range k).filterMap fun(m:Nat)=>xs[((i:Int)+(m:Int)*1).toNat]?).toArray=((xs.toList.drop i).take k).toArray:=by
 have e:(fun(m:Nat)=>xs[((i:Int)+(m:Int)*1).toNat]?)=fun m=>xs[i+m]?:=by
  funext m
  have:((i:Int)+(m:Int)*1).toNat=i+m:=by omega
  rw[this]
 rw[e];have:=pick_run xs i k
 rw[List.filterMap_map]at this;have e2:((fun x=>xs[x]?)∘fun x=>i+x)=fun m=>xs[i+m]?:=rfl
 rw[e2]at this;rw[this]
theorem getItem_tuple_cut {t sl:Addr} {items:Array Value} {vl vu:Value} {lo hi:Option Int} {Q:Value->Shared->Prop} (ht:IsTup s.heap t items) (hs:s.heap.IsSliceOf sl vl vu .none) (pl:IsPart vl lo) (pu:IsPart vu hi)
  (hw:¬ (sIx items.size 0 lo=0/\sIx items.size items.size hi=items.size))
  (h:Q (.ref s.heap.objs.size) {s with heap:=s.heap.push {cls:=.type "tuple",data:=.seq ((items.toList.drop (sIx items.size 0 lo)).take (sIx items.size items.size hi - sIx items.size 0 lo)).toArray } })
  (hsz:items.size<=sizeLine):wpAny (model prog w) A (getItem (.ref t) (.ref sl)) Q E s:=by
 have htake:sizeOk (.seq ((items.toList.drop (sIx items.size 0 lo)).take (sIx items.size items.size hi - sIx items.size 0 lo)).toArray):=by
  show((items.toList.drop (sIx items.size 0 lo)).take (sIx items.size items.size hi - sIx items.size 0 lo)).toArray.size<=sizeLine
  rw[eB,jD,List.length_drop,Array.length_toList];omega
 have hj:sIx items.size items.size hi<=items.size:=Ux _ _ (bQ _) hi
 obtain⟨os,hos,hcs,hds⟩:=id hs
 have hTs:s.TypeIs (.ref sl) "slice":=⟨os,hos,hcs⟩
 unfold getItem;try with_reducible refine wpAny_holding ?_
 first | refine wpAny_bind (wpAny_pure ?_) | skip
 refine wpAny_bind (wpAny_sequenceKey ht.typeIs Zd ?_)
 refine wpAny_bind (wpAny_callSpecial?_slot (name:=Str.ofString "__getitem__") ht.typeIs PyProof.Rows.slot_tuple_getitem
  (wpAny_call_entry PyProof.Rows.slot_tuple_getitem ht.typeIs entry_tuple_getitem ?_ (args_tuple_getitem _ _)))
 show wpAny _ _ (Builtin.Tuple.tupleItemsOf (.ref t) >>= _) _ _ s
 refine wpAny_bind (tupleItemsOf_ ht ?_)
 refine wpAny_bind (wpAny_typeOf hTs ?_)
 rw[if_pos Zd]
 refine wpAny_bind (sliceApplied_gen hs pl pu ?_)
 have hno:¬ ((((sIx items.size 0 lo:Nat):Int) == 0&&(1:Int) == 1&&(sIx items.size items.size hi - sIx items.size 0 lo) == items.size)=true):=by
  intro q;rw[Bool.and_eq_true,Bool.and_eq_true]at q;have q1:((sIx items.size 0 lo:Nat):Int)=0:=eq_of_beq q.1.1
  have q2:sIx items.size items.size hi - sIx items.size 0 lo=items.size:=eq_of_beq q.2
  exact hw ⟨Zo,Zo⟩
 show wpAny _ _ (if (((sIx items.size 0 lo:Nat):Int) == 0&&(1:Int) == 1&&(sIx items.size items.size hi - sIx items.size 0 lo) == items.size)=true then _ else _) _ _ s
 rw[if_neg hno,Gv];first
  | exact wpAny_bind (m:=Builtin.Tuple.tupleExact _) (wpAny_newObj_type (wpAny_pure ⟨_,rfl,wpAny_pure h⟩) htake)
  | exact wpAny_bind (m:=Builtin.Tuple.tupleExact _) (wpAny_newObj_type (wpAny_bind (wpAny_pure (wpAny_pure ⟨_,rfl,wpAny_pure h⟩))) htake)
  | exact wpAny_bind (wpAny_bind (m:=Builtin.Tuple.tupleExact _) (wpAny_newObj_type (wpAny_pure (wpAny_pure ⟨_,rfl,wpAny_pure h⟩)) htake))
  | exact wpAny_bind (wpAny_bind (m:=Builtin.Tuple.tupleExact _) (wpAny_newObj_type (wpAny_pure ⟨_,rfl,wpAny_pure h⟩) htake))
end
end HT
namespace L2
open PySem PySem.Spec PyProof.Rows
abbrev TO:=St->Hp->(Option Int->Hp->Prop)->Prop
def PO (X:Cx) (e:Option Expr) (t:TO):Prop:=
 ∀(pins:List (Addr × Obj)) (s:Shared) (σ:St) (H:Hp) (Q:Option Int->Hp->Prop),Inv X pins σ H s->t σ H Q →
  wpAny (model X.prog X.w) X.A (evalPart e X.env) (fun u s'=>∃o H',Inv X pins σ H' s'/\IsPart u o/\Q o H') X.xe s
def Ap:TO:=fun _ H Q=>Q none H
def Gw (t:TE):TO:=fun σ H Q=>t σ H fun x H1=>∃i,x=.int i/\Q (some i) H1
theorem pE {ns:List Int}:∀ {us:List Value},Vals (ns.map V.int) us->IntsAre us ns:=by
 induction ns with
 | nil=>intro us r;rw[List.map_nil]at r;cases r;exact .nil
 | cons n ns ih=>
  intro us r;rw[List.map_cons]at r;cases r with
  | cons r1 r2=>
   obtain⟨t,e⟩:=r1
   subst e;exact .cons n t (ih r2)
section
variable {X:Cx} {e:Expr} {te:TE} {lo hi:Option Expr} {tl th:TO} {pos p2:Pos}
theorem Nz:PO X none Ap:=by
 intro pins s σ H Q I h;rw[evalPart_none];exact wpAny_pure ⟨none,H,I,.none,h⟩
theorem Oa (h:PE X e te):PO X (some e) (Gw te):=by
 intro pins s σ H Q I hw;rw[evalPart_some];refine bU (h pins s σ H _ I hw) fun u s1 ⟨x,H1,I1,r1,q1⟩=>?_
 obtain⟨i,rfl,q⟩:=q1
 obtain⟨t,rfl⟩:=r1
 exact⟨some i,H1,I1,.int i t,q⟩
def SlR (X:Cx) (r:V->Option Int->Option Int->Hp->VK->Prop):Prop:=
 ∀(pins:List (Addr × Obj)) (s:Shared) (σ:St) (H:Hp) (x:V) (v vl vu:Value) (lo hi:Option Int) (sl:Addr) (Q:VK),Inv X pins σ H s->RelV x v->s.heap.IsSliceOf sl vl vu .none->IsPart vl lo->IsPart vu hi->r x lo hi H Q →
  ∃T id,typeLookup (.type T) "__getitem__"=pure (some (.builtin id))/\s.TypeIs v T/\wpAny (model X.prog X.w) X.A (getItem v (.ref sl)) (EP X pins σ Q) X.xe s
def tSl (r:V->Option Int->Option Int->Hp->VK->Prop) (te:TE) (tl th:TO):TE:=fun σ H Q=>te σ H fun x H1=>tl σ H1 fun l H2=>th σ H2 fun u H3=>r x l u H3 Q
theorem Gx {r:V->Option Int->Option Int->Hp->VK->Prop} (hr:SlR X r) (he:PE X e te) (hl:PO X lo tl) (hu:PO X hi th):PE X (.Subscript e (.Slice lo hi none p2) pos) (tSl r te tl th):=by
 intro pins s σ H Q I h;refine Subscript_ (bU (he pins s σ H _ I h) fun v s1 ⟨x,H1,I1,r1,q1⟩=>?_)
 refine wpAny_Slice (bU (hl pins s1 σ H1 _ I1 q1) fun vl s2 ⟨l,H2,I2,pl,q2⟩=>bU (hu pins s2 σ H2 _ I2 q2) fun vu s3 ⟨u,H3,I3,pu,q3⟩=>?_)
 rw[evalPart_none];refine wpAny_pure ?_
 have I4:Inv X pins σ H3 {s3 with heap:=s3.heap.push {cls:=.type "slice",data:=.fields #[vl,vu,.none] } }:=I3.kept (t':=s3.toks) fun b ob q=>eP _ q
 obtain⟨T,id,hT,ht,hg⟩:=hr pins {s3 with heap:=s3.heap.push {cls:=.type "slice",data:=.fields #[vl,vu,.none] } } σ H3 x v vl vu l u s3.heap.objs.size Q I4 r1 (Heap.IsSliceOf.new ..) pl pu q3
 show wpAny (model X.prog X.w) X.A (subscriptTail e (.Slice lo hi none p2) v (.ref s3.heap.objs.size)) (EP X pins σ Q) X.xe {s3 with heap:=s3.heap.push {cls:=.type "slice",data:=.fields #[vl,vu,.none] } }
 exact tail_any (ops:=[.ref s3.heap.objs.size,v]) ht hT hg (by with_unfolding_all rfl)
def Dr (xs:List V) (lo hi:Option Int):List V:=(xs.drop (HT.sIx xs.length 0 lo)).take (HT.sIx xs.length xs.length hi - HT.sIx xs.length 0 lo)
theorem nY (xs:List V) (lo hi:Option Int):(Dr xs lo hi).length<=xs.length:=by
 unfold Dr;rw[jD,List.length_drop];omega
def aBr (K:W.Frag):V->Option Int->Option Int->Hp->VK->Prop:=fun x lo hi H Q=>∃a xs,x=.ref a/\SqT K H a xs ∧
 ¬ (HT.sIx xs.length 0 lo=0/\HT.sIx xs.length xs.length hi=xs.length)/\∀p,H p=none->Q (.ref p) (aI H p (.tup (Dr xs lo hi)))
theorem Uy:SlR X (aBr X.K):=by
 intro pins s σ H x v vl vu lo hi sl Q I rx hs pl pu h;obtain⟨a,xs,rfl,hx,hw,q⟩:=h
 cases rx
 obtain⟨its,r,ht,hz⟩:=I.tuple hx
 have hlen:its.toArray.size=xs.length:=by rw[eB];exact r.length.symm
 refine⟨"tuple",_,PyProof.Rows.slot_tuple_getitem.lookup,ht.typeIs,?_⟩
 refine HT.getItem_tuple_cut ht hs pl pu (by rw[hlen];exact hw) ?_ (by rw[hlen];exact hz)
 rw[hlen];refine⟨.ref s.heap.objs.size,_,I.laid (t':=s.toks) (o:=.tup (Dr xs lo hi)) (fun b ob q=>eP _ q) (bQ _) ?_,rfl,q _ (I.hok.fresh (bQ _))⟩
 exact⟨kN (nY xs lo hi) hz,_,(r.drop (HT.sIx xs.length 0 lo)).take (HT.sIx xs.length xs.length hi - HT.sIx xs.length 0 lo),IsTup.new _ _⟩
def Zq (K:W.Frag):R2:=fun x y H Q=>∃a b xs ys,x=.ref a/\y=.ref b/\SqT K H a xs/\SqT K H b ys/\xs≠[]/\xs.length+ys.length<=sizeLine ∧
 (ys=[]->Q (.ref a) H)/\(ys≠[]->∀p,H p=none->Q (.ref p) (aI H p (.tup (xs++ys))))
theorem Vals.nil_iff {xs:List V} {us:List Value} (r:Vals xs us):us=[]↔xs=[]:=by
 cases r with
 | nil=>simp
 | cons _ _=>simp
theorem Ob:OpR X (binaryOp .Add) (Zq X.K):=by
 intro pins s σ H x y v u Q I rx ry h;obtain⟨a,b,xs,ys,rfl,rfl,ha,hb,hx,hz,q1,q2⟩:=h
 cases rx
 cases ry
 obtain⟨its,r1,p1,_⟩:=I.tuple ha
 obtain⟨its2,r2,p2,_⟩:=I.tuple hb
 refine HT.cat_tup p1 p2 (fun z=>hx (r1.nil_iff.mp z)) (fun z=>⟨.ref a,H,I,rfl,q1 (r2.nil_iff.mp z)⟩) (fun z=>?_) (by rw[<- r1.length,<- r2.length];exact hz)
 refine⟨.ref s.heap.objs.size,_,I.laid (t':=s.toks) (o:=.tup (xs++ys)) (fun b ob q=>eP _ q) (bQ _) ?_,rfl,q2 (fun w=>z (r2.nil_iff.mpr w)) _ (I.hok.fresh (bQ _))⟩
 exact⟨by rw[kM];exact hz,_,r1.append r2,IsTup.new _ _⟩
end
end L2
namespace L2
open PySem PySem.Spec PyProof.Rows
def Uz (n:Nat) (i:Int):Option Nat:=if 0<=i then (if i<n then some i.toNat else none) else if -(n:Int)<=i then some (i+n).toNat else none
def mW {α:Type} (xs:List α) (i:Int):Option α:=(Uz xs.length i).bind fun j=>xs[j]?
theorem Aq {n:Nat} {i:Int} {j:Nat} (h:Uz n i=some j):seqIndex? i n=some j/\j<n/\-(n:Int)<=i/\i<n:=by
 unfold Uz at h;by_cases h0:0<=i
 ·rw[if_pos h0]at h;by_cases h1:i<n
  ·rw[if_pos h1]at h;have e:i.toNat=j:=Option.some.inj h
   exact⟨by rw[seqIndex_of h0 h1,e],Zo,Zo,h1⟩
  ·rw[if_neg h1]at h;cases h
 ·rw[if_neg h0]at h;by_cases h1:-(n:Int)<=i
  ·rw[if_pos h1]at h;have e:(i+n).toNat=j:=Option.some.inj h
   exact⟨by rw[seqIndex_neg Zo h1,e],Zo,h1,Zo⟩
  ·rw[if_neg h1]at h;cases h
theorem tN {α:Type} {xs:List α} {i:Int} {v:α} (h:mW xs i=some v):∃j,seqIndex? i xs.length=some j/\xs[j]?=some v/\j<xs.length/\-(xs.length:Int)<=i/\i<xs.length:=by
 unfold mW at h;cases e:Uz xs.length i with
 | none=>rw[e]at h;cases h
 | some j=>
  rw[e]at h;obtain⟨h1,h2,h3,h4⟩:=Aq e
  exact⟨j,h1,h,h2,h3,h4⟩
theorem bJ {α:Type} {xs:List α} {j:Nat} {v:α} (h:xs[j]?=some v):mW xs (j:Int)=some v:=by
 have hj:j<xs.length:=(Zgs.mp h).1
 have e:Uz xs.length (j:Int)=some j:=by
  unfold Uz;rw[if_pos Zo,if_pos Zo];simp
 unfold mW;rw[e];exact h
def tO (b:Expr):Prop:=∀o i,subscripted b false o i=operate [o,i] (getItem o i)
def IxR (X:Cx) (r:R2):Prop:=
 ∀(value slice:Expr) (pins:List (Addr × Obj)) (s:Shared) (σ:St) (H:Hp) (x y:V) (v u:Value) (Q:VK),Inv X pins σ H s->RelV x v->RelV y u->r x y H Q →
  subscripted slice false v u=operate [v,u] (getItem v u)->wpAny (model X.prog X.w) X.A (subscriptTail value slice v u) (EP X pins σ Q) X.xe s
def Zr (X:Cx) (id:String) (r:V->List V->Hp->VK->Prop):Prop:=
 ∀(pins:List (Addr × Obj)) (s:Shared) (σ:St) (H:Hp) (x:V) (xs:List V) (v:Value) (us:List Value) (Q:VK),Inv X pins σ H s->RelV x v->Vals xs us->r x xs H Q →
  wpAny (model X.prog X.w) X.A (call (.builtin id) (v::us)) (EP X pins σ Q) X.xe s
section
variable {X:Cx} {a b:Expr} {ta tb:TE} {pos:Pos}
theorem Zt {r:R2} (hr:IxR X r) (ha:PE X a ta) (hb:PE X b tb) (hs:tO b):PE X (.Subscript a b pos) (Gj r ta tb):=by
 intro pins s σ H Q I h;exact Subscript_ (Uk ha hb I h fun v u s2 x y H2 I2 rx ry q=>hr a b pins s2 σ H2 x y v u Q I2 rx ry q (hs _ _))
def aBs (K:W.Frag):R2:=fun x y H Q=>∃p xs i v,x=.ref p/\y=.int i/\SqL K H p xs/\mW xs i=some v/\Q v H
def aBt (K:W.Frag):R2:=fun x y H Q=>∃p xs i v,x=.ref p/\y=.int i/\SqT K H p xs/\mW xs i=some v/\Q v H
def aBu:R2:=fun x y H Q=>∃z i c,x=.str z/\y=.int i/\z.length<=sizeLine/\mW z.cps.toList i=some c/\Q (.str ⟨#[c]⟩) H
theorem Oc:IxR X (aBs X.K):=by
 intro value slice pins s σ H x y v u Q I rx ry h hs;obtain⟨p,xs,i,z,rfl,rfl,hq,he,q⟩:=h
 cases rx
 obtain⟨t,rfl⟩:=ry
 obtain⟨its,r,pl,hz⟩:=I.list hq
 obtain⟨j,h1,h2,h3,h4,h5⟩:=tN he
 obtain⟨w,ew,rw'⟩:=r.get h2
 have hl:=r.length
 have hn:=mQ
 have fin:EP X pins σ Q w s:=⟨z,H,I,rw',q⟩
 by_cases h0:0<=i
 ·have hj:i.toNat=j:=by
   rw[seqIndex_of h0 h5]at h1;exact Option.some.inj h1
  exact item_listR pl.isList h0 Zo (by rw[hj];simpa using ew) fin hs
 ·have hj:(i+(its.toArray.size:Int)).toNat=j:=by
   rw[seqIndex_neg Zo h4]at h1
   rw[eB,<- hl];exact Option.some.inj h1
  exact subscriptTail_builtinR (x:=w) pl.isList.typeIs slot_list_getitem.lookup
   (wpAny_getItem_list_neg (Q:=fun r s'=>r=w/\EP X pins σ Q r s') pl.isList Zo (by rw[eB] <;> omega) Zo (by rw[hj];simpa using ew) ⟨rfl,fin⟩) hs
theorem Va:IxR X (aBt X.K):=by
 intro value slice pins s σ H x y v u Q I rx ry h hs;obtain⟨p,xs,i,z,rfl,rfl,hq,he,q⟩:=h
 cases rx
 obtain⟨t,rfl⟩:=ry
 obtain⟨its,r,pl,hz⟩:=I.tuple hq
 obtain⟨j,h1,h2,h3,h4,h5⟩:=tN he
 obtain⟨w,ew,rw'⟩:=r.get h2
 have hl:=r.length
 have hn:=mQ
 have fin:EP X pins σ Q w s:=⟨z,H,I,rw',q⟩
 exact subscriptTail_builtinR (x:=w) pl.typeIs slot_tuple_getitem.lookup
  (getItem_tuple (j:=j) (Q:=fun r s'=>r=w/\EP X pins σ Q r s') pl Zo Zo (by rw[eB,<- hl];exact h1) (by simpa using ew) ⟨rfl,fin⟩) hs
theorem Vb:IxR X aBu:=by
 intro value slice pins s σ H x y v u Q I rx ry h hs;obtain⟨z,i,c,rfl,rfl,hz,he,q⟩:=h
 obtain⟨t,rfl⟩:=rx
 obtain⟨t',rfl⟩:=ry
 obtain⟨j,h1,h2,h3,h4,h5⟩:=tN he
 have hl:z.cps.toList.length=z.length:=by simp [Str.length]
 rw[hl]at h1 h4 h5;have hn:=mQ
 exact tail_any (typeIs_str s z t) slot_str_getitem.lookup (getItem_str (c:=c) (by
  have e1:decide (i < -(2 ^ 63:Int))=false:=decide_eq_false Zo
  have e2:decide (i ≥ 2 ^ 63)=false:=decide_eq_false Zo
  rw[e1,e2,Bool.or_false]) (by rw[h1];simpa using h2) ⟨.str ⟨#[c]⟩,H,I.tok _,⟨_,rfl⟩,q⟩) hs
theorem yN (its:List Value) (n j:Nat) (u:Value):Obj.mapSeq (·.setIfInBounds j u) {cls:=.type "list",data:=.seq its.toArray n }={cls:=.type "list",data:=.seq (its.set j u).toArray n }:=by
 simp [Obj.mapSeq]
theorem Inv.lst {pins:List (Addr × Obj)} {σ:St} {H:Hp} {s:Shared} {p:Addr} {xs:List V} (I:Inv X pins σ H s) (h:H p=some (.lst xs)) :
  ∃(its:List Value) (n:Nat),Vals xs its/\s.heap.get? p=some {cls:=.type "list",data:=.seq its.toArray n }/\xs.length<=sizeLine:=by
 obtain⟨z,its,n,r,e⟩:=I.hok p _ h
 exact⟨its,n,r,e,z⟩
theorem Inv.lstUpd {pins:List (Addr × Obj)} {σ:St} {H:Hp} {s:Shared} {p:Addr} {xs ys:List V} {its its':List Value} {n n':Nat} {f:Obj->Obj} (I:Inv X pins σ H s) (h:H p=some (.lst xs))
  (ho:s.heap.get? p=some {cls:=.type "list",data:=.seq its.toArray n }) (hf:f {cls:=.type "list",data:=.seq its.toArray n }={cls:=.type "list",data:=.seq its'.toArray n' }) (r:Vals ys its') (hz:ys.length<=sizeLine) (t:Nat) :
  Inv X pins σ (aI H p (.lst ys)) {s with heap:=s.heap.update p f,toks:=t }:=by
 have e:(s.heap.update p f).get? p=some {cls:=.type "list",data:=.seq its'.toArray n' }:=by
  rw[Heap.get?_update_self f ho (by rw[hf] <;> rfl),hf]
 refine I.write (x:=p) (e:=p) (by rw[h];trivial) (.inl rfl) (fun b u hb q=>(Heap.get?_update_other _ _ (Ne.symm hb)).trans q) ⟨_,e⟩ ?_
 exact⟨hz,its',n',r,e⟩
def Sc:V->V->V->Hp->(Hp->Prop)->Prop:=fun o i v H Q=>∃p xs k j,o=.ref p/\i=.int k/\H p=some (.lst xs)/\Uz xs.length k=some j/\Q (aI H p (.lst (xs.set j v)))
theorem Gy:Nj X Sc:=by
 intro pins s σ H o i v ov iv u Q I ro ri rv h;obtain⟨p,xs,k,j,rfl,rfl,hp,hj,q⟩:=h
 cases ro
 obtain⟨t,rfl⟩:=ri
 obtain⟨its,n,r,ho,hz⟩:=I.lst hp
 obtain⟨h1,h2,h3,h4⟩:=Aq hj
 have hl:=r.length
 have hn:=mQ
 have I':Inv X pins σ (aI H p (.lst (xs.set j v))) {s with heap:=s.heap.update p (Obj.mapSeq (·.setIfInBounds j u)) }:=
  I.lstUpd hp ho (yN its n j u) (r.set rv j) (by rw[List.length_set];exact hz) s.toks
 by_cases h0:0<=k
 ·have hk:k.toNat=j:=by
   rw[seqIndex_of h0 h4]at h1;exact Option.some.inj h1
  exact W.ki_setAt ho h0 Zo (by rw[eB,<- hl];exact h4) (by rw[hk];exact⟨_,I',q⟩)
 ·have hk:(k+(its.toArray.size:Int)).toNat=j:=by
   rw[seqIndex_neg Zo h3]at h1
   rw[eB,<- hl];exact Option.some.inj h1
  exact W.ki_setBack ho Zo (by rw[eB,<- hl];exact h3) Zo (by rw[hk];exact⟨_,I',q⟩)
theorem tP (lo hi:Option Int) (n:Nat):(sliceBounds lo hi none n).1=((HT.sIx n 0 lo:Nat):Int)/\(sliceBounds lo hi none n).2.1=((HT.sIx n n hi:Nat):Int)/\(sliceBounds lo hi none n).2.2=1:=by
 refine⟨?_,?_,rfl⟩
 ·cases lo with
  | none=>simp [sliceBounds,HT.sIx]
  | some i=>
   simp only [sliceBounds,HT.sIx,Option.getD_none,show(1:Int) > 0 by decide,if_true]
   by_cases h:i<0
   ·simp only [h,if_true] <;> omega
   ·simp only [h,if_false] <;> omega
 ·cases hi with
  | none=>simp [sliceBounds,HT.sIx]
  | some i=>
   simp only [sliceBounds,HT.sIx,Option.getD_none,show(1:Int) > 0 by decide,if_true]
   by_cases h:i<0
   ·simp only [h,if_true] <;> omega
   ·simp only [h,if_false] <;> omega
theorem qX (its:List Value) (lo hi:Option Int):slicePick its.toArray lo hi none=((its.drop (HT.sIx its.length 0 lo)).take (HT.sIx its.length its.length hi - HT.sIx its.length 0 lo)).toArray:=by
 obtain⟨h1,h2,h3⟩:=tP lo hi its.toArray.size
 unfold slicePick;rw[h1,h2,h3];simp only [sliceRange_one,pick_run,eB] <;> rfl
def aBv (K:W.Frag):V->Option Int->Option Int->Hp->VK->Prop:=fun x lo hi H Q=>∃a xs,x=.ref a/\SqL K H a xs/\∀p,H p=none->Q (.ref p) (aI H p (.lst (Dr xs lo hi)))
theorem Od:SlR X (aBv X.K):=by
 intro pins s σ H x v vl vu lo hi sl Q I rx hs pl pu h;obtain⟨a,xs,rfl,hx,q⟩:=h
 cases rx
 obtain⟨its,r,ht,hz⟩:=I.list hx
 have hlen:=r.length
 refine⟨"list",_,slot_list_getitem.lookup,ht.isList.typeIs,?_⟩
 refine wpAny_getItem_list_slice ht.isList hs pl pu .none Zs ?_ (by rw[eB] <;> omega)
 rw[qX,<- hlen];refine⟨.ref s.heap.objs.size,_,I.laid (t':=s.toks) (o:=.lst (Dr xs lo hi)) (fun b ob q=>eP _ q) (bQ _) ?_,rfl,q _ (I.hok.fresh (bQ _))⟩
 exact⟨kN (nY xs lo hi) hz,_,0,(r.drop (HT.sIx xs.length 0 lo)).take (HT.sIx xs.length xs.length hi - HT.sIx xs.length 0 lo),Heap.get?_push_size _ rfl⟩
def eC:V->Bool
 | .non=>true
 | .bl _=>true
 | .int _=>true
 | .str _=>true
 | _=>false
def qY:V->V->Bool
 | .non,.non=>true
 | .bl a,.bl b=>a == b
 | .bl a,.int b=>(if a then 1 else 0) == b
 | .int a,.bl b=>a == (if b then 1 else 0)
 | .int a,.int b=>a == b
 | .str a,.str b=>a == b
 | _,_=>false
theorem pF {A:Around} {s:Shared} {y x:V} {u v:Value} (ry:RelV y u) (rx:RelV x v) (fy:eC y=true) (fx:eC x=true):SeqAt.EqAt A s u v (qY y x):=by
 cases y with
 | non=>
  cases ry
  cases x with
  | non=>cases rx;exact SeqAt.EqAt.same _
  | bl b=>cases rx;exact SeqAt.EqAt.none_bool b
  | int b=>obtain⟨t,rfl⟩:=rx;exact SeqAt.EqAt.none_int b t
  | str b=>obtain⟨t,rfl⟩:=rx;exact SeqAt.EqAt.none_str b t
  | _=>exact absurd (show false=true from fx) Bool.false_ne_true
 | bl a=>
  cases ry
  cases x with
  | non=>cases rx;exact SeqAt.EqAt.bool_none a
  | bl b=>cases rx;exact SeqAt.EqAt.bool_bool a b
  | int b=>obtain⟨t,rfl⟩:=rx;exact SeqAt.EqAt.bool_int a b t
  | str b=>obtain⟨t,rfl⟩:=rx;exact SeqAt.EqAt.bool_str a b t
  | _=>exact absurd (show false=true from fx) Bool.false_ne_true
 | int a=>
  obtain⟨t',rfl⟩:=ry
  cases x with
  | non=>cases rx;exact SeqAt.EqAt.int_none a t'
  | bl b=>cases rx;exact SeqAt.EqAt.int_bool a t' b
  | int b=>obtain⟨t,rfl⟩:=rx;exact SeqAt.EqAt.int_int a t' b t
  | str b=>obtain⟨t,rfl⟩:=rx;exact SeqAt.EqAt.int_str a t' b t
  | _=>exact absurd (show false=true from fx) Bool.false_ne_true
 | str a=>
  obtain⟨t',rfl⟩:=ry
  cases x with
  | non=>cases rx;exact SeqAt.EqAt.str_none a t'
  | bl b=>cases rx;exact SeqAt.EqAt.str_bool a t' b
  | int b=>obtain⟨t,rfl⟩:=rx;exact SeqAt.EqAt.str_int a t' b t
  | str b=>obtain⟨t,rfl⟩:=rx;exact SeqAt.EqAt.str_str a t' b t
  | _=>exact absurd (show false=true from fx) Bool.false_ne_true
 | _=>exact absurd (show false=true from fy) Bool.false_ne_true
def Oe (x:V) (u:Value):Bool:=match u with
 | .none=>qY .non x
 | .bool b=>qY (.bl b) x
 | .int i _=>qY (.int i) x
 | .str z _=>qY (.str z) x
 | _=>false
theorem Gz {x y:V} {u:Value} (r:RelV y u) (f:eC y=true):Oe x u=qY y x:=by
 cases y with
 | non=>cases r;rfl
 | bl b=>cases r;rfl
 | int i=>obtain⟨t,rfl⟩:=r;rfl
 | str z=>obtain⟨t,rfl⟩:=r;rfl
 | _=>exact absurd (show false=true from f) Bool.false_ne_true
theorem tQ {x:V}:∀ {xs:List V} {us:List Value},Vals xs us->xs.all eC=true->us.any (Oe x)=xs.any fun y=>qY y x
 | _,_,.nil,_=>rfl
 | y::xs,u::us,.cons r t,f=>by
  rw[List.all_cons,Bool.and_eq_true]at f;rw[List.any_cons,List.any_cons,Gz r f.1,tQ t f.2]
theorem pG {A:Around} {s:Shared} {x:V} {v:Value} (rx:RelV x v) (fx:eC x=true):∀ {xs:List V} {us:List Value},Vals xs us->xs.all eC=true->∀u∈us,SeqAt.EqAt A s u v (Oe x u)
 | _,_,.nil,_=>fun u hu=>by cases hu
 | y::xs,u::us,.cons r t,f=>fun u' hu=>by
  rw[List.all_cons,Bool.and_eq_true]at f;rcases List.mem_cons.mp hu with rfl | hu
  ·rw[Gz r f.1];exact pF r rx f.1 fx
  ·exact pG rx fx t f.2 u' hu
def gT (x:V) (xs:List V):Bool:=xs.any fun y=>qY y x
def rIn (K:W.Frag) (neg:Bool):R2:=fun x y H Q=>∃p xs,y=.ref p/\(SqL K H p xs∨SqT K H p xs)/\eC x=true/\xs.all eC=true/\Q (.bl (if neg then !gT x xs else gT x xs)) H
theorem Ds:OpR X (compareOp .In) (rIn X.K false):=by
 intro pins s σ H x y v u Q I rx ry h;obtain⟨p,xs,rfl,hq,fx,fs,q⟩:=h
 cases ry
 rcases hq with hq | hq
 ·obtain⟨its,r,pl,hz⟩:=I.list hq
  refine SeqAt.in_listAt (Oe x) pl.isList (fun w hw=>pG rx fx r fs w (by simpa using hw)) ⟨.bl _,H,I,rfl,?_⟩
  rw[show its.toArray.any (Oe x)=its.any (Oe x) by simp,tQ r fs]
  exact q
 ·obtain⟨its,r,pl,hz⟩:=I.tuple hq
  refine SeqAt.in_tupleAt (Oe x) pl (fun w hw=>pG rx fx r fs w (by simpa using hw)) ⟨.bl _,H,I,rfl,?_⟩
  rw[show its.toArray.any (Oe x)=its.any (Oe x) by simp,tQ r fs]
  exact q
theorem tT:CallR X (.builtin "len") (fun xs H Q=>∃p ys,xs=[.ref p]/\(SqL X.K H p ys∨SqT X.K H p ys)/\Q (.int ys.length) H):=by
 intro pins s σ H xs us Q I r h;obtain⟨p,ys,rfl,hq,q⟩:=h
 obtain⟨u,rfl,rx⟩:=jE r
 cases rx
 have hn:=mQ
 rcases hq with hq | hq
 ·obtain⟨its,r',pl,hz⟩:=I.list hq
  have hlen:=r'.length
  exact Calls.call_len_list pl.isList (by simp only [eB] <;> omega) ⟨.int ys.length,H,I.tok _,⟨s.toks+1,by rw[eB,hlen]⟩,q⟩
 ·obtain⟨its,r',pl,hz⟩:=I.tuple hq
  have hlen:=r'.length
  exact len_tuple pl (by simp only [eB] <;> omega) ⟨.int ys.length,H,I.tok _,⟨s.toks+1,by rw[eB,hlen]⟩,q⟩
theorem tV:CallR X (.builtin "len") (fun xs H Q=>∃z,xs=[.str z]/\z.length<=sizeLine/\Q (.int z.length) H):=by
 intro pins s σ H xs us Q I r h;obtain⟨z,rfl,hz,q⟩:=h
 obtain⟨u,rfl,t,rfl⟩:=jE r
 have hn:=mQ
 exact len_str Zo ⟨.int z.length,H,I.tok _,⟨_,rfl⟩,q⟩
theorem tW:CallR X (.type "list") (fun xs H Q=>∃p ys,xs=[.ref p]/\(SqL X.K H p ys∨SqT X.K H p ys)/\∀l,H l=none->Q (.ref l) (aI H l (.lst ys))):=by
 intro pins s σ H xs us Q I r h;obtain⟨p,ys,rfl,hq,q⟩:=h
 obtain⟨u,rfl,rx⟩:=jE r
 cases rx
 have fin:∀(its:List Value),Vals ys its->ys.length<=sizeLine->∀(h':Heap) (c':Nat),(∀b o',s.heap.get? b=some o'->h'.get? b=some o') →
   h'.get? s.heap.objs.size=some {cls:=.type "list",dict:=none,data:=.seq its.toArray c',slots:=#[] }->EP X pins σ Q (.ref s.heap.objs.size) {s with heap:=h' }:=fun its r' hz h' c' kp e=>
  ⟨.ref s.heap.objs.size,_,I.laid (t':=s.toks) kp (bQ _) (show ObjOk X.prog X.w _ h' _ (.lst ys) from⟨hz,its,c',r',e⟩),rfl,q _ (I.hok.fresh (bQ _))⟩
 rcases hq with hq | hq
 ·obtain⟨its,r',pl,hz⟩:=I.list hq
  have hlen:=r'.length
  obtain⟨o,ho,hc,n,hd⟩:=pl.isList
  exact call_list_seq p (.inl rfl) ho hc hd (fun h' c' kp e=>fin its r' hz h' c' kp e) (by simp only [eB] <;> omega)
 ·obtain⟨its,r',pl,hz⟩:=I.tuple hq
  have hlen:=r'.length
  obtain⟨o,ho,hc,n,hd⟩:=pl
  exact call_list_seq p (.inr rfl) ho hc hd (fun h' c' kp e=>fin its r' hz h' c' kp e) (by simp only [eB] <;> omega)
theorem qZ:CallR X (.type "tuple") (fun xs H Q=>∃p ys,xs=[.ref p]/\((SqL X.K H p ys/\∀l,H l=none->Q (.ref l) (aI H l (.tup ys)))∨(SqT X.K H p ys/\Q (.ref p) H))):=by
 intro pins s σ H xs us Q I r h;obtain⟨p,ys,rfl,h⟩:=h
 obtain⟨u,rfl,rx⟩:=jE r
 cases rx
 rcases h with⟨hq,q⟩ | ⟨hq,q⟩
 ·obtain⟨its,r',pl,hz⟩:=I.list hq
  have hlen:=r'.length
  refine call_tuple_list pl.isList (fun h' kp=>?_) (by simp only [eB] <;> omega)
  have I1:Inv X pins σ H {s with heap:=h' }:=I.kept (t':=s.toks) kp
  have I2:Inv X pins σ (aI H h'.objs.size (.tup ys)) {s with heap:=h'.push {cls:=.type "tuple",data:=.seq its.toArray } }:=
   I1.laid (t':=s.toks) (fun b o e=>eP _ e) (bQ _) (show ObjOk X.prog X.w _ _ _ (.tup ys) from⟨hz,its,r',IsTup.new _ _⟩)
  exact⟨.ref h'.objs.size,_,I2,rfl,q _ (I1.hok.fresh (bQ _))⟩
 ·obtain⟨its,r',pl,hz⟩:=I.tuple hq
  exact call_tuple_same pl ⟨.ref p,H,I,rfl,q⟩
def tyV (K:W.Frag) (T:String) (x:V) (H:Hp):Prop:=match x with
 | .str _=>T="str"
 | .int _=>T="int"
 | .ref p=>(T="list"/\∃xs,SqL K H p xs)∨(T="tuple"/\∃o,K.lookup p=some o/\o.cls=.type "tuple"/\o.dict=none)∨
   (T="dict"/\((∃kvs,H p=some (.dK kvs))∨∃kvs,H p=some (.dT kvs)))∨(T="set"/\∃S n,H p=some (.set S n))
 | _=>False
theorem Vc {pins:List (Addr × Obj)} {σ:St} {H:Hp} {s:Shared} {T:String} {x:V} {v:Value} (I:Inv X pins σ H s) (r:RelV x v) (ty:tyV X.K T x H) :
  s.TypeIs v T/\∀a,v=.ref a->∃ob,s.heap.get? a=some ob/\ob.dict=none:=by
 cases x with
 | str z=>
  obtain⟨t,rfl⟩:=r
  cases (show T="str" from ty)
  exact⟨typeIs_str s z t,fun _ e=>nomatch e⟩
 | int i=>
  obtain⟨t,rfl⟩:=r
  cases (show T="int" from ty)
  exact⟨typeIs_int s i t,fun _ e=>nomatch e⟩
 | ref p=>
  cases r
  rcases ty with⟨rfl,xs,hq⟩ | ⟨rfl,o,hk,hc,hd⟩ | ⟨rfl,hk⟩ | ⟨rfl,S,n,hk⟩
  ·obtain⟨its,_,pl,_⟩:=I.list hq
   refine⟨pl.isList.typeIs,fun a e=>?_⟩
   cases e
   obtain⟨o,n,e,c,hd,_⟩:=pl
   exact⟨o,e,hd⟩
  ·refine⟨⟨o,I.kIn p o hk,hc⟩,fun a e=>?_⟩
   cases e
   exact⟨o,I.kIn _ o hk,hd⟩
  ·have z:∃o,s.heap.get? p=some o/\o.ExactDict:=by
    rcases hk with⟨kvs,hk⟩ | ⟨kvs,hk⟩
    ·obtain⟨_,_,_,_,o,_,_,e,ex,_⟩:=I.hok p _ hk
     exact⟨o,e,ex⟩
    ·obtain⟨_,_,_,_,o,_,_,e,ex,_⟩:=I.hok p _ hk
     exact⟨o,e,ex⟩
   obtain⟨o,e,ex⟩:=z
   refine⟨⟨o,e,ex.1⟩,fun a e2=>?_⟩
   cases e2
   exact⟨o,e,ex.2.1⟩
  ·obtain⟨o,_,_,_,e,ex,_⟩:=I.hok p _ hk
   refine⟨⟨o,e,ex.1⟩,fun a e2=>?_⟩
   cases e2
   exact⟨o,e,ex.2.1⟩
 | _=>exact False.elim ty
def tBM (K:W.Frag) (T:String) (r:V->List V->Hp->VK->Prop) (to:TE) (t:TA):TE:=fun σ H Q=>to σ H fun x H1=>tyV K T x H1/\t σ H1 fun xs H2=>r x xs H2 Q
variable {o e:Expr} {es:List Expr} {to:TE} {t:TA} {name:Str} {apos cpos:Pos} {T id:String} {r:V->List V->Hp->VK->Prop}
theorem Zu (pa:PlainAttrs T) (slot:Slot T name id) (hty:typeOf (.builtin id)=pure (.type "method_descriptor")) (hm:Zr X id r) (ho:PE X o to) (ha:PA X (e::es) t)
  (hbase:attributeBase o name X.env (eval o X.env)=eval o X.env:=by rfl)
  (hfew:((backTo cpos (starEach (e::es) X.env)).all (fun x=>!x.1)&&(backToKw cpos (keywordEach [] X.env)).all (fun x=>x.1.isSome)
   && decide ((e::es).length+([]:List Keyword).length+(if ([]:List Keyword).isEmpty then 0 else 1)<30))=true:=by rfl)
  (hline:(apos.endLine == cpos.line)=true:=by rfl) (hs:starEach (e::es) X.env=(false,eval e X.env)::starEach es X.env:=by rfl) (hplain:(backTo cpos (starEach es X.env)).any (·.1)=false:=by rfl) :
  PE X (.Call (.Attribute o name apos) (e::es) [] cpos) (tBM X.K T r to t):=by
 intro pins s σ H Q I h;refine wpAny_Call_method_late hbase hfew hline rfl (bU (ho pins s σ H _ I h) fun v s1 ⟨x,H1,I1,r1,ty,q1⟩=>?_)
 obtain⟨h1,h2⟩:=Vc I1 r1 ty
 refine⟨T,id,pa,slot,hty,h1,h2,?_⟩
 have hA:=ha cpos pins s1 σ H1 _ I1 q1
 rw[hs]at hA ⊢;refine Calls.callWith_builtin (by show(false||(backTo cpos (starEach es X.env)).any (·.1))=false;rw[hplain] <;> rfl) (Calls.evalArgs_plain ?_)
 exact bU hA fun us s2 ⟨vs,H2,I2,r2,q2⟩=>hm pins s2 σ H2 x vs v us Q I2 r1 r2 q2
/- xs.append(e),list.index on a module's tuple .. are Zr facts of 06m -/
end
end L2
namespace L2
open PySem PySem.Spec PyProof.Rows
def Zv (X:Cx) (id:String) (r:V->List V->Hp->VK->Prop):Prop:=
 ∀(pins:List (Addr × Obj)) (s:Shared) (σ:St) (H:Hp) (x:V) (xs:List V) (v:Value) (us:List Value) (Q:VK),Inv X pins σ H s->RelV x v->Vals xs us->r x xs H Q →
  wpAny (model X.prog X.w) X.A (call (.builtin id) (v::us)) (EP X pins σ Q) X.xe s
theorem Vals.one:∀ {x:V} {us:List Value},Vals [x] us->∃u,us=[u]/\RelV x u
 | _,_,.cons r .nil=>⟨_,rfl,r⟩
theorem Vals.two:∀ {x y:V} {us:List Value},Vals [x,y] us->∃u v,us=[u,v]/\RelV x u/\RelV y v
 | _,_,_,.cons r (.cons q .nil)=>⟨_,_,rfl,r,q⟩
theorem Vals.eraseIdx:∀ {xs:List V} {us:List Value} (i:Nat),Vals xs us->Vals (xs.eraseIdx i) (us.eraseIdx i)
 | _,_,_,.nil=>.nil
 | _,_,0,.cons _ t=>t
 | _,_,i+1,.cons r t=>.cons r (Vals.eraseIdx i t)
theorem mY {α:Type}:∀(l:List α) (i:Nat),(l.eraseIdx i).length<=l.length
 | [],_=>bQ _
 | _::_,0=>Nat.le_succ _
 | _::r,i+1=>Nat.succ_le_succ (mY r i)
section
variable {X:Cx} {pins:List (Addr × Obj)} {σ:St} {H:Hp} {s:Shared} {l b:Addr} {xs ys zs:List V}
theorem Inv.lset {its its':List Value} {n:Nat} {f:Array Value->Array Value} {t':Nat} (I:Inv X pins σ H s) (hH:H l=some (.lst xs))
  (e:s.heap.get? l=some {cls:=.type "list",data:=.seq its.toArray n }) (hf:f its.toArray=its'.toArray) (hv:Vals ys its') (hz:ys.length<=sizeLine) :
  Inv X pins σ (aI H l (.lst ys)) {s with heap:=s.heap.update l (Obj.mapSeq f),toks:=t' }:=by
 have q:=PySem.IsL.update e f
 rw[hf]at q;refine I.write (x:=l) (e:=l) (by rw[hH];exact trivial) (.inl rfl) (fun b' u hb hu=>(Heap.get?_update_other s.heap (Obj.mapSeq f) (Ne.symm hb)).trans hu) ⟨_,q⟩ ?_
 exact⟨hz,its',_,hv,q⟩
theorem Inv.lnew {its:List Value} {t':Nat} (I:Inv X pins σ H s) (hv:Vals ys its) (hz:ys.length<=sizeLine) :
  Inv X pins σ (aI H s.heap.objs.size (.lst ys)) {s with heap:=s.heap.push {cls:=.type "list",data:=.seq its.toArray },toks:=t' }:=
 I.laid (fun _ _ q=>eP _ q) (bQ _) ⟨hz,its,0,hv,Heap.get?_push_size _ rfl⟩
theorem Inv.fresh (I:Inv X pins σ H s):H s.heap.objs.size=none:=I.hok.fresh (bQ _)
theorem Inv.lstM (I:Inv X pins σ H s) (hH:H l=some (.lst xs)):xs.length<=sizeLine/\∃(its:List Value) (n:Nat),Vals xs its/\xs.length=its.length/\s.heap.get? l=some {cls:=.type "list",data:=.seq its.toArray n }:=by
 obtain⟨z,its,n,r,e⟩:=I.hok l _ hH
 exact⟨z,its,n,r,r.length,e⟩
theorem Hq {n:Nat} (h:n<=sizeLine):Builtin.List.listTooLong n=false:=by
 unfold Builtin.List.listTooLong;exact decide_eq_false Zo
end
section
variable {X:Cx}
def Ar:V->List V->Hp->VK->Prop:=fun x vs H Q=>∃l xs y,x=.ref l/\vs=[y]/\H l=some (.lst xs)/\xs.length<sizeLine/\Q .non (aI H l (.lst (xs++[y])))
theorem Dt:Zv X "list.append" Ar:=by
 intro pins s σ H x vs v us Q I rx rv h;obtain⟨l,xs,y,rfl,rfl,hH,hz,q⟩:=h
 cases rx
 obtain⟨u,rfl,ru⟩:=rv.one
 obtain⟨z,its,n,r,hl,e⟩:=I.lstM hH
 refine call_meets F.slot_list_append ⟨_,e,rfl⟩ F.entry_list_append (F.args_list_append_2 _ _) (PySem.list_append l its.toArray n u (by rw[eB];omega)) ⟨e,?_⟩
 refine⟨.non,_,I.lset (its':=its++[u]) hH e Zs (r.append (.cons ru .nil)) ?_,rfl,q⟩
 rw[kM,List.length_singleton];omega
def Og:V->List V->Hp->VK->Prop:=fun x vs H Q=>∃l b xs zs,x=.ref l/\vs=[.ref b]/\H l=some (.lst xs)/\H b=some (.lst zs)/\xs.length+zs.length<=sizeLine/\Q .non (aI H l (.lst (xs++zs)))
theorem Yj:Zv X "list.extend" Og:=by
 intro pins s σ H x vs v us Q I rx rv h;obtain⟨l,b,xs,zs,rfl,rfl,hH,hB,hz,q⟩:=h
 cases rx
 obtain⟨u,rfl,ru⟩:=rv.one
 cases ru
 obtain⟨z,its,n,r,hl,e⟩:=I.lstM hH
 obtain⟨z2,its2,n2,r2,hl2,e2⟩:=I.lstM hB
 have hsz:its.toArray.size+its2.toArray.size<=sizeLine:=by rw[eB,eB];omega
 have hlong:¬ (!its.toArray.isEmpty&&Builtin.List.listTooLong (its.toArray.size+its2.toArray.size))=true:=by
  rw[Hq hsz,Bool.and_false];exact Bool.false_ne_true
 refine call_meets F.slot_list_extend ⟨_,e,rfl⟩ F.entry_list_extend (F.args_list_extend_2 _ _)
  (AutoSeq1.list_extend_list_list_0 l its.toArray n b its2.toArray n2 hlong (by rw[eB];omega) Zo) ⟨e,e2,?_⟩
 refine⟨.non,_,I.lset (its':=its++its2) hH e Zs (r.append r2) ?_,rfl,q⟩
 rw[kM];omega
def Hr:V->List V->Hp->VK->Prop:=fun x vs H Q=>∃l xs i k y,x=.ref l/\vs=[.int i]/\H l=some (.lst xs)/\-(2 ^ 63)<=i/\i<2 ^ 63/\seqIndex? i xs.length=some k/\xs[k]?=some y/\Q y (aI H l (.lst (xs.eraseIdx k)))
theorem Hs:Zv X "list.pop" Hr:=by
 intro pins s σ H x vs v us Q I rx rv h;obtain⟨l,xs,i,k,y,rfl,rfl,hH,h1,h2,hk,hy,q⟩:=h
 cases rx
 obtain⟨u,rfl,ru⟩:=rv.one
 obtain⟨t,rfl⟩:=ru
 obtain⟨z,its,n,r,hl,e⟩:=I.lstM hH
 obtain⟨w,hw,rw'⟩:=r.get hy
 refine call_meets F.slot_list_pop ⟨_,e,rfl⟩ F.entry_list_pop (F.args_list_pop_2 _ _)
  (MeetsSeq.list_pop_at l its.toArray n i t k w (fitsIndex_both h1 h2) (by rw[eB,<- hl];exact hk) (by rw[<- Array.getElem?_toList];exact hw) (by rw[eB];omega)) ⟨e,?_⟩
 refine⟨y,_,I.lset (its':=its.eraseIdx k) hH e ?_ (r.eraseIdx k) ?_,rw',q⟩
 ·show its.toArray.eraseIdxIfInBounds k=(its.eraseIdx k).toArray
  rw[List.eraseIdxIfInBounds_toArray]
 ·have:=mY xs k
  omega
def aBx:R2:=fun x y H Q=>∃l b xs zs,x=.ref l/\y=.ref b/\H l=some (.lst xs)/\H b=some (.lst zs)/\xs.length+zs.length<=sizeLine/\∀p,H p=none->Q (.ref p) (aI H p (.lst (xs++zs)))
theorem Vd:OpR X (binaryOp .Add) aBx:=by
 intro pins s σ H x y v u Q I rx ry h;obtain⟨l,b,xs,zs,rfl,rfl,hH,hB,hz,q⟩:=h
 cases rx
 cases ry
 obtain⟨z,its,n,r,hl,e⟩:=I.lstM hH
 obtain⟨z2,its2,n2,r2,hl2,e2⟩:=I.lstM hB
 refine PySem.P.add_list e e2 ?_ (by rw[eB,eB];omega)
 have ea:its.toArray++its2.toArray=(its++its2).toArray:=by simp
 rw[ea];exact⟨.ref _,_,I.lnew (t':=s.toks) (r.append r2) (by rw[kM];omega),rfl,q _ I.fresh⟩
end
end L2
namespace L2
open PySem PySem.Spec PyProof.Rows
section
variable {κ:Type} [DecidableEq κ]
def bC (kvs:List (κ × V)) (k:κ):Option V:=(kvs.find? fun kv=>decide (kv.1=k)).map (·.2)
def bN (kvs:List (κ × V)) (k:κ) (v:V):List (κ × V):=
 if (kvs.any fun kv=>decide (kv.1=k))=true then kvs.map (fun kv=>if kv.1=k then (kv.1,v) else kv) else kvs++[(k,v)]
theorem cJ {p:κ × V} {r:List (κ × V)} {k:κ} (e:p.1=k):bC (p::r) k=some p.2:=by simp [bC,List.find?_cons,e]
theorem cK {p:κ × V} {r:List (κ × V)} {k:κ} (e:¬ p.1=k):bC (p::r) k=bC r k:=by simp [bC,List.find?_cons,e]
theorem fX (k:κ):∀kvs:List (κ × V),(kvs.any fun kv=>decide (kv.1=k))=(bC kvs k).isSome
 | []=>rfl
 | p::r=>by
  rw[List.any_cons];by_cases e:p.1=k
  ·simp only [cJ e,decide_eq_true e,Bool.true_or,Option.isSome_some]
  ·rw[cK e,decide_eq_false e,Bool.false_or];exact fX k r
theorem wA (k j:κ) (y:V):∀kvs:List (κ × V),bC (kvs.map fun kv=>if kv.1=k then (kv.1,y) else kv) j=(bC kvs j).map fun x=>if j=k then y else x
 | []=>rfl
 | p::r=>by
  have ih:=wA k j y r
  rw[List.map_cons];by_cases h:p.1=k
  ·rw[if_pos h];by_cases e:p.1=j
   ·rw[cJ (p:=(p.1,y)) e,cJ e,Option.map_some,if_pos (e.symm.trans h)]
   ·rw[cK (p:=(p.1,y)) e,cK e,ih]
  ·rw[if_neg h];by_cases e:p.1=j
   ·rw[cJ (p:=p) e,cJ e,Option.map_some,if_neg (fun z=>h (e.trans z))]
   ·rw[cK (p:=p) e,cK e,ih]
theorem rY (k j:κ) (y:V):∀kvs:List (κ × V),bC kvs k=none->bC (kvs++[(k,y)]) j=if j=k then some y else bC kvs j
 | [],_=>by
  by_cases e:k=j
  ·rw[if_pos e.symm];exact cJ (p:=(k,y)) e
  ·rw[if_neg (fun z=>e z.symm)];exact cK (p:=(k,y)) e
 | p::r,hn=>by
  rw[List.cons_append];have hk:¬ p.1=k:=fun z=>by rw[cJ z]at hn;cases hn
  rw[cK hk]at hn;have ih:=rY k j y r hn
  by_cases e:p.1=j
  ·rw[cJ e,cJ e,if_neg (fun z=>hk (e.trans z))]
  ·rw[cK e,cK e,ih]
theorem cV (kvs:List (κ × V)) (k j:κ) (y:V):bC (bN kvs k y) j=if j=k then some y else bC kvs j:=by
 unfold bN;by_cases a:(kvs.any fun kv=>decide (kv.1=k))=true
 ·rw[if_pos a,wA];rw[fX]at a;by_cases e:j=k
  ·obtain⟨x,hx⟩:=Option.isSome_iff_exists.mp a
   rw[if_pos e,e,hx,Option.map_some,if_pos rfl]
  ·rw[if_neg e];cases bC kvs j with
   | none=>rfl
   | some x=>rw[Option.map_some,if_neg e]
 ·rw[if_neg a];refine rY k j y kvs ?_
  rw[fX]at a;cases q:bC kvs k with
  | none=>rfl
  | some x=>rw[q]at a;exact(a rfl).elim
theorem dW (kvs:List (κ × V)) (k:κ) (v:V):(bN kvs k v).length<=kvs.length+1:=by
 unfold bN;split
 ·rw[aZ];omega
 ·rw[kM,vS,List.length_nil];omega
theorem wB {kvs:List (κ × V)} {k:κ} (v:V) (h:bC kvs k=none):bN kvs k v=kvs++[(k,v)]:=by
 unfold bN;rw[fX,h];exact if_neg Zd
theorem RelO.isSome_eq {o:Option V} {u:Option Value} (r:RelO o u):o.isSome=u.isSome:=by
 cases o with
 | none=>cases u with
  | none=>rfl
  | some _=>exact(show False from r).elim
 | some _=>cases u with
  | none=>exact(show False from r).elim
  | some _=>rfl
theorem RelO.getD {o:Option V} {u:Option Value} {d:V} {d':Value} (r:RelO o u) (rd:RelV d d'):RelV (o.getD d) (u.getD d'):=by
 cases o with
 | none=>cases u with
  | none=>exact rd
  | some _=>exact(show False from r).elim
 | some _=>cases u with
  | none=>exact(show False from r).elim
  | some _=>exact r
theorem KV.val {kvs:List (κ × V)} {vs:List (κ × Value)} (r:KV kvs vs) (k:κ):RelO (bC kvs k) (valueAt vs k):=by
 unfold KV at r;induction r with
 | nil=>exact True.intro
 | @cons p q ps qs h t ih=>
  obtain⟨h1,h2⟩:=h
  by_cases e:p.1=k
  ·have e':q.1=k:=h1.symm.trans e
   have b:valueAt (q::qs) k=some q.2:=by simp [valueAt,List.find?_cons,e']
   rw[cJ e,b];exact h2
  ·have e':¬ q.1=k:=fun z=>e (h1.trans z)
   have b:valueAt (q::qs) k=valueAt qs k:=by simp [valueAt,List.find?_cons,e']
   rw[cK e,b];exact ih
theorem KV.any {kvs:List (κ × V)} {vs:List (κ × Value)} (r:KV kvs vs) (k:κ):(kvs.any fun kv=>decide (kv.1=k))=vs.any fun kv=>decide (kv.1=k):=by
 unfold KV at r;induction r with
 | nil=>rfl
 | cons h t ih=>rw[List.any_cons,List.any_cons,ih,h.1]
theorem KV.repl {kvs:List (κ × V)} {vs:List (κ × Value)} (r:KV kvs vs) (k:κ) {y:V} {u:Value} (ry:RelV y u) :
  KV (kvs.map fun kv=>if kv.1=k then (kv.1,y) else kv) (vs.map fun kv=>if kv.1=k then (kv.1,u) else kv):=by
 unfold KV at r ⊢
 induction r with
 | nil=>exact .nil
 | @cons p q ps qs h t ih=>
  rw[List.map_cons,List.map_cons];refine .cons ?_ ih
  obtain⟨h1,h2⟩:=h
  by_cases e:p.1=k
  ·rw[if_pos e,if_pos (h1.symm.trans e)];exact⟨h1,ry⟩
  ·rw[if_neg e,if_neg (fun z=>e (h1.trans z))];exact⟨h1,h2⟩
theorem KV.put {kvs:List (κ × V)} {vs:List (κ × Value)} (r:KV kvs vs) (k:κ) {y:V} {u:Value} (ry:RelV y u):KV (bN kvs k y) (stored vs k u):=by
 unfold bN stored;rw[r.any k];by_cases e:(vs.any fun kv=>decide (kv.1=k))=true
 ·rw[if_pos e,if_pos e];exact r.repl k ry
 ·rw[if_neg e,if_neg e];exact Paired.snoc r ⟨rfl,ry⟩
theorem KV.length {kvs:List (κ × V)} {vs:List (κ × Value)} (r:KV kvs vs):kvs.length=vs.length:=Paired.length r
end
theorem nZ {P:Program} {w:World} {k:bA} {u:Value} (r:RelV (kV k) u):(aT P w).is k u=true:=by
 cases k with
 | inl i=>obtain⟨t,e⟩:=(show ∃t,u=Value.int i t from r);subst e;exact vU P w i t
 | inr x=>obtain⟨t,e⟩:=(show ∃t,u=Value.str x t from r);subst e;exact vV P w x t
theorem rZ {P:Program} {w:World}:∀ {ks:List bA} {us:List Value},Vals (ks.map kV) us->ItemsAre (aT P w) ks us
 | [],_,r=>by rw[List.map_nil]at r;cases r;exact .nil
 | k::ks,_,r=>by
  rw[List.map_cons]at r;cases r with
  | cons h t=>exact .cons (nZ h) (rZ t)
abbrev KT (H:Hp):List (List bA × V)->List (List bA × Addr × Value)->Prop:=Paired fun p q=>p.1=q.1/\H q.2.1=some (.tup (p.1.map kV))/\RelV p.2 q.2.2
theorem KT.val {H:Hp} {kvs:List (List bA × V)} {xs:List (List bA × Addr × Value)} (r:KT H kvs xs) (k:List bA):RelO (bC kvs k) ((atKey xs k).map (·.2)):=by
 induction r with
 | nil=>exact True.intro
 | @cons p q ps qs h t ih=>
  obtain⟨h1,_,h2⟩:=h
  by_cases e:p.1=k
  ·have e':q.1=k:=h1.symm.trans e
   have b:atKey (q::qs) k=some q.2:=by simp [atKey,List.find?_cons,e']
   rw[cJ e,b];exact h2
  ·have e':¬ q.1=k:=fun z=>e (h1.trans z)
   have b:atKey (q::qs) k=atKey qs k:=by simp [atKey,List.find?_cons,e']
   rw[cK e,b];exact ih
theorem KT.repl {H:Hp} {kvs:List (List bA × V)} {xs:List (List bA × Addr × Value)} (r:KT H kvs xs) (k:List bA) {y:V} {u:Value} (ry:RelV y u) :
  KT H (kvs.map fun kv=>if kv.1=k then (kv.1,y) else kv) (xs.map (putAt k u)):=by
 induction r with
 | nil=>exact .nil
 | @cons p q ps qs h t ih=>
  rw[List.map_cons,List.map_cons];refine .cons ?_ ih
  obtain⟨h1,h2,h3⟩:=h
  unfold putAt;by_cases e:p.1=k
  ·rw[if_pos e,if_pos (h1.symm.trans e)];exact⟨h1,h2,ry⟩
  ·rw[if_neg e,if_neg (fun z=>e (h1.trans z))];exact⟨h1,h2,h3⟩
theorem KT.put {H:Hp} {kvs:List (List bA × V)} {xs:List (List bA × Addr × Value)} (r:KT H kvs xs) (k:List bA) {b:Addr} {y:V} {u:Value} (hb:H b=some (.tup (k.map kV))) (ry:RelV y u) :
  KT H (bN kvs k y) (storedH xs k b u):=by
 have e:(kvs.any fun kv=>decide (kv.1=k))=(atKey xs k).isSome:=by
  rw[fX,(r.val k).isSome_eq,Option.isSome_map]
 unfold bN storedH;rw[e];by_cases q:(atKey xs k).isSome=true
 ·rw[if_pos q,if_pos q];exact r.repl k ry
 ·rw[if_neg q,if_neg q];exact Paired.snoc r ⟨rfl,hb,ry⟩
theorem KT.keeps {H H':Hp} {kvs:List (List bA × V)} {xs:List (List bA × Addr × Value)} (r:KT H kvs xs) (ht:∀b ys,H b=some (.tup ys)->H' b=some (.tup ys)):KT H' kvs xs:=
 Paired.mapP r fun _ _ z=>⟨z.1,ht _ _ z.2.1,z.2.2⟩
section
variable {P:Program} {w:World} {H:Hp} {h:Heap} {a:Addr}
theorem Sd {u:HO} (ok:HOk P w H h) (e:Rd H a u):ObjOk P w H h a u:=e.ok ok
theorem oA {kvs:List (bA × V)} (ok:HOk P w H h) (e:Rd H a (.dK kvs)):kvs.length<=sizeLine/\(a == sysModules)=false/\∃vs,KV kvs vs/\h.DictOf (aT P w) a vs:=
 show ObjOk P w H h a (.dK kvs) from Sd ok e
theorem Ht {kvs:List (bA × V)} (ok:HOk P w H h) (e:H a=some (.dK kvs)):kvs.length<=sizeLine/\(a == sysModules)=false/\∃vs,KV kvs vs/\h.DictOf (aT P w) a vs:=oA ok (.inl e)
theorem mZ {ks:List bA} (ok:HOk P w H h) (e:H a=some (.tup (ks.map kV))):(tupleKind (aT P w)).is h ks a:=by
 obtain⟨_,its,r,o,h1,h2,n,h3⟩:=(show ObjOk P w H h a (.tup (ks.map kV)) from ok a _ e)
 exact⟨o,its.toArray,n,h1,h2,h3,by simpa using rZ r⟩
theorem pH {kvs:List (List bA × V)} (ok:HOk P w H h) (e:Rd H a (.dT kvs)):kvs.length<=sizeLine/\(a == sysModules)=false ∧
  ∃xs,KT H kvs xs/\h.DictOfH (tupleKind (aT P w)) a xs:=by
 obtain⟨z,y,xs,r,o,es,ep,h1,h2,h3,h4,h5⟩:=(show ObjOk P w H h a (.dT kvs) from Sd ok e)
 refine⟨z,y,xs,r,o,es,ep,h1,h2,h3,h4,fun x hx=>?_,h5⟩
 have all:∀ {l:List (List bA × V)} {m:List (List bA × Addr × Value)},KT H l m->∀x∈m,(tupleKind (aT P w)).is h x.1 x.2.1:=by
  intro l m q;induction q with
  | nil=>intro x hx;exact nomatch hx
  | @cons p q ps qs hq t ih=>
   intro x hx;rcases List.mem_cons.mp hx with e | hx
   ·subst e;exact mZ ok (by rw[<- hq.1];exact hq.2.1)
   ·exact ih x hx
 exact all r x hx
theorem Zw {kvs:List (List bA × V)} (ok:HOk P w H h) (e:H a=some (.dT kvs)):kvs.length<=sizeLine/\(a == sysModules)=false ∧
  ∃xs,KT H kvs xs/\h.DictOfH (tupleKind (aT P w)) a xs:=pH ok (.inl e)
end
def DGet (H:Hp) (a:Addr) (y:V) (r:Option V):Prop:=
 (∃kvs k,Rd H a (.dK kvs)/\y=kV k/\r=bC kvs k)∨∃kvs k b,Rd H a (.dT kvs)/\y=.ref b/\H b=some (.tup (k.map kV))/\r=bC kvs k
def DPut (H:Hp) (a:Addr) (y v:V) (H':Hp):Prop:=
 (∃kvs k,H a=some (.dK kvs)/\y=kV k/\kvs.length<sizeLine/\H'=aI H a (.dK (bN kvs k v)))∨
 ∃kvs k b,H a=some (.dT kvs)/\y=.ref b/\H b=some (.tup (k.map kV))/\kvs.length<sizeLine/\H'=aI H a (.dT (bN kvs k v))
theorem DGet.k {H:Hp} {a:Addr} {kvs:List (bA × V)} {k:bA} (e:H a=some (.dK kvs)):DGet H a (kV k) (bC kvs k):=.inl ⟨kvs,k,.inl e,rfl,rfl⟩
theorem DPut.k {H:Hp} {a:Addr} {kvs:List (bA × V)} {k:bA} {v:V} (e:H a=some (.dK kvs)) (hl:kvs.length<sizeLine):DPut H a (kV k) v (aI H a (.dK (bN kvs k v))):=.inl ⟨kvs,k,e,rfl,hl,rfl⟩
section
variable {X:Cx} {pins:List (Addr × Obj)} {σ:St} {H:Hp} {s:Shared} {a:Addr} {y v:V} {u r:Value} {o:Option V} {A:Around} {E:Value->Shared->Prop}
theorem Inv.big (I:Inv X pins σ H s):sysModules<s.heap.objs.size:=by
 have h:mainGlobals<s.heap.objs.size:=(I.mod.glob.keeps I.bk).lt
 exact Nat.lt_trans Zd h
theorem Du {Q:Value->Shared->Prop} (hu:A.units+1<cLine) (I:Inv X pins σ H s) (g:DGet H a y (some v)) (ry:RelV y u) (h:∀w' s',Inv X pins σ H s'->RelV v w'->Q w' s') :
  wpAny (model X.prog X.w) A (getItem (.ref a) u) Q E s:=by
 rcases g with⟨kvs,k,e,ey,l⟩ | ⟨kvs,k,b,e,ey,eb,l⟩
 ·subst ey;obtain⟨z,hd,vs,rel,dd⟩:=oA I.hok e
  obtain⟨w',hw,rw'⟩:=RelO.some_of (v:=v) (o:=valueAt vs k) (by rw[l];exact rel.val k)
  exact wpAny_getItem_of (nZ ry) dd.mapOf hw (h w' _ (I.tok _) rw')
 ·subst ey;cases (show u=Value.ref b from ry)
  obtain⟨z,hd,xs,rel,dd⟩:=pH I.hok e
  obtain⟨w',hw,rw'⟩:=RelO.some_of (v:=v) (o:=(atKey xs k).map (·.2)) (by rw[l];exact rel.val k)
  obtain⟨p,hp,hp2⟩:=Option.map_eq_some_iff.mp hw
  refine wpAny_getItem_heap (tupleKind_room_in1 hu) (mZ I.hok eb) dd hp ?_
  rw[hp2];exact h w' _ (I.tok _) rw'
theorem Zx {Q:Value->Shared->Prop} (hu:A.units+1<cLine) (I:Inv X pins σ H s) (g:DGet H a y o) (ry:RelV y u) (h:∀s',Inv X pins σ H s'->Q (.bool o.isSome) s') :
  wpAny (model X.prog X.w) A (compareOp .In u (.ref a)) Q E s:=by
 rcases g with⟨kvs,k,e,ey,l⟩ | ⟨kvs,k,b,e,ey,eb,l⟩
 ·subst ey;obtain⟨z,hd,vs,rel,dd⟩:=oA I.hok e
  refine wpAny_in_of (nZ ry) hd dd.mapOf ?_
  rw[<- (rel.val k).isSome_eq,<- l];exact h _ (I.tok _)
 ·subst ey;cases (show u=Value.ref b from ry)
  obtain⟨z,hd,xs,rel,dd⟩:=pH I.hok e
  refine wpAny_in_heap (tupleKind_room_in1 hu) (mZ I.hok eb) hd dd ?_
  have q:=(rel.val k).isSome_eq
  rw[Option.isSome_map]at q;rw[<- q,<- l];exact h _ (I.tok _)
theorem As {Q:Value->Shared->Prop} (hu:A.units+1<cLine) (I:Inv X pins σ H s) (g:DGet H a y o) (ry:RelV y u) (h:∀s',Inv X pins σ H s'->Q (.bool (!o.isSome)) s') :
  wpAny (model X.prog X.w) A (compareOp .NotIn u (.ref a)) Q E s:=by
 rcases g with⟨kvs,k,e,ey,l⟩ | ⟨kvs,k,b,e,ey,eb,l⟩
 ·subst ey;obtain⟨z,hd,vs,rel,dd⟩:=oA I.hok e
  refine wpAny_notIn_of (nZ ry) hd dd.mapOf ?_
  rw[<- (rel.val k).isSome_eq,<- l];exact h _ (I.tok _)
 ·subst ey;cases (show u=Value.ref b from ry)
  obtain⟨z,hd,xs,rel,dd⟩:=pH I.hok e
  refine wpAny_notIn_heap (tupleKind_room_in1 hu) (mZ I.hok eb) hd dd ?_
  have q:=(rel.val k).isSome_eq
  rw[Option.isSome_map]at q;rw[<- q,<- l];exact h _ (I.tok _)
theorem tX {h':Heap} {t':Nat} {ob:HO} (I:Inv X pins σ H s) (mu:Yr (H a)) (hs:Heap.SameBut a s.heap h') (he:∃q,h'.get? a=some q) (new:ObjOk X.prog X.w (aI H a ob) h' a ob) :
  Inv X pins σ (aI H a ob) {s with heap:=h',toks:=t' }:=
 I.write (x:=a) (e:=a) mu (.inl rfl) (fun b q hb z=>(hs.2 b hb).trans z) he new
theorem Hu {P:Program} {w:World} {H':Hp} {h':Heap} {kvs:List (bA × V)} {vs:List (bA × Value)} (z:kvs.length<=sizeLine) (hd:(a == sysModules)=false) (rel:KV kvs vs) (dd:h'.DictOf (aT P w) a vs) :
  ObjOk P w H' h' a (.dK kvs):=⟨z,hd,vs,rel,dd⟩
theorem Dv {H':Hp} {Q:Unit->Shared->Prop} (hu:A.units+1<cLine) (I:Inv X pins σ H s) (g:DPut H a y v H') (ry:RelV y u) (rv:RelV v r) (h:∀s',Inv X pins σ H' s'->Q () s') :
  wpAny (model X.prog X.w) A (setItem (.ref a) u r) Q E s:=by
 rcases g with⟨kvs,k,e,ey,l,eH⟩ | ⟨kvs,k,b,e,ey,eb,l,eH⟩
 ·subst ey eH;obtain⟨z,hd,vs,rel,dd⟩:=Ht I.hok e
  have hz:vs.length<=sizeLine:=by rw[<- rel.length];exact z
  have hl:(bN kvs k v).length<=sizeLine:=by have:=dW kvs k v;omega
  refine wpAny_setItem_pairs (hsz:=hz) (nZ ry) dd fun h' dd' hs=>h _ ?_
  have he:∃q,h'.get? a=some q:=let ⟨q,_,_,hq,_⟩:=dd';⟨q,hq⟩
  exact tX I (by rw[e];exact True.intro) hs he (Hu hl hd (rel.put k rv) dd')
 ·subst ey eH;cases (show u=Value.ref b from ry)
  obtain⟨z,hd,xs,rel,dd⟩:=Zw I.hok e
  have hz:xs.length<=sizeLine:=by rw[<- Paired.length rel];exact z
  have hl:(bN kvs k v).length<=sizeLine:=by have:=dW kvs k v;omega
  refine wpAny_setItem_heap (hsz:=hz) (tupleKind_room_in1 hu) (mZ I.hok eb) dd fun h' dd' hs=>h _ ?_
  obtain⟨q,es,ep,hq,h2,h3,h4,_,h5⟩:=dd'
  refine tX I (by rw[e];exact True.intro) hs ⟨q,hq⟩ ⟨hl,hd,_,(rel.put k eb rv).keeps fun c ys ec=>?_,q,es,ep,hq,h2,h3,h4,h5⟩
  rw[aD (fW ec e (fun z=>nomatch z))]
  exact ec
end
section
variable {X:Cx} {pins:List (Addr × Obj)} {σ:St} {H:Hp} {s:Shared} {a:Addr} {kvs:List (bA × V)} {k:bA} {u:Value} {A:Around} {E:Value->Shared->Prop}
theorem Zy {Q:Value->Shared->Prop} (I:Inv X pins σ H s) (e:Rd H a (.dK kvs)) (h:∀t s',Inv X pins σ H s'->Q (.int kvs.length t) s'):wpAny (model X.prog X.w) A (call (.builtin "len") [.ref a]) Q E s:=by
 obtain⟨z,hd,vs,rel,dd⟩:=oA I.hok e
 refine call_len_dict hd dd (by rw[<- rel.length];rw[sizeLine_eq]at z;omega) ?_
 rw[<- rel.length];exact h _ _ (I.tok _)
end
def Ve (i:Expr):Prop:=∀ov iv,subscripted i false ov iv=operate [ov,iv] (getItem ov iv)
theorem Oh {prog:Program} {w:World} {A:Around} {E:Value->Shared->Prop} {s:Shared} {env:Env} {value slice:Expr} {pos:Pos} {T id:String} {Q:Value->Shared->Prop}
  (hl:typeLookup (.type T) "__getitem__"=pure (some (.builtin id))) (hs:Ve slice)
  (h:wpAny (model prog w) A (eval value env) (fun o s₁=>wpAny (model prog w) A (eval slice env) (fun i s₂=>s₂.TypeIs o T/\wpAny (model prog w) A (getItem o i) Q E s₂) E s₁) E s) :
  wpAny (model prog w) A (eval (.Subscript value slice pos) env) Q E s:=by
 refine Subscript_ (wpAny_mono h (fun o s₁ h₁=>wpAny_mono h₁ (fun i s₂ h₂=>?_) fun _ _ x=>x) fun _ _ x=>x)
 obtain⟨hT,h₂⟩:=h₂
 unfold subscriptTail;refine wpAny_bind ?_
 rw[getitemInPython_of_ne hT.not_modules];refine wpAny_bind (wpAny_specialOf hT hl ?_)
 have fin:wpAny (model prog w) A (subscripted slice false o i) (fun r s₃=>wpAny (model prog w) A (letTemporaryGo value o r >>= fun _=>pure r) Q E s₃) E s₂:=by
  rw[hs o i];exact wpAny_operating (wpAny_mono h₂ (fun r s₃ h₃=>wpAny_bind (wpAny_letTemporaryGo (wpAny_pure h₃))) fun _ _ x=>x)
 first
  | exact wpAny_pure (wpAny_bind fin)
  | exact wpAny_bind (wpAny_pure (wpAny_bind fin))
  | exact wpAny_bind fin
theorem wC {X:Cx} {pins:List (Addr × Obj)} {σ:St} {H:Hp} {s:Shared} {a:Addr} {y:V} {o:Option V} (I:Inv X pins σ H s) (g:DGet H a y o):s.TypeIs (.ref a) "dict":=by
 rcases g with⟨kvs,k,e,_,_⟩ | ⟨kvs,k,b,e,_,_,_⟩
 ·obtain⟨_,_,vs,_,dd⟩:=oA I.hok e
  exact dd.typeIs
 ·obtain⟨_,_,xs,_,dd⟩:=pH I.hok e
  exact dd.typeIs
def Se (td ty:TE):TE:=fun σ H Q=>td σ H fun x H1=>ty σ H1 fun y H2=>∃a v,x=.ref a/\DGet H2 a y (some v)/\Q v H2
section
variable {X:Cx} {o i e value:Expr} {pos pos' tpos:Pos} {td ty tv:TE}
theorem Oi (hu:X.A.units+1<cLine) (ho:PE X o td) (hi:PE X i ty) (hs:Ve i):PE X (.Subscript o i pos) (Se td ty):=by
 intro pins s σ H Q I h;refine Oh PySem.F.slot_dict_getitem.lookup hs (bU (ho pins s σ H _ I h) fun u s1 ⟨x,H1,I1,rx,q1⟩=>bU (hi pins s1 σ H1 _ I1 q1) fun iv s2 ⟨y,H2,I2,ry,a,v,ex,g,q2⟩=>?_)
 subst ex;obtain rfl:u=Value.ref a:=rx
 exact⟨wC I2 g,Du hu I2 g ry fun w' s3 I3 rw'=>⟨v,H2,I3,rw',q2⟩⟩
end
theorem wD {P:Program} {w:World} {H:Hp} (h:Heap) (hb:sysModules<h.objs.size):ObjOk P w H (h.push {cls:=.type "dict",data:=.dict #[] }) h.objs.size (.dK []):=
 ⟨Nat.zero_le _,beq_eq_false_iff_ne.mpr (Ne.symm (Nat.ne_of_lt hb)),[],.nil,Heap.DictOf.new h⟩
def Hv:TE:=fun _ H Q=>∀p,H p=none->Q (.ref p) (aI H p (.dK []))
section
variable {X:Cx} {pos:Pos}
theorem Hw:PE X (.Dict [] [] pos) Hv:=fun pins s σ H Q I h=>
 wpAny_Dict_empty ⟨.ref s.heap.objs.size,_,I.laid (a:=s.heap.objs.size) (o:=.dK []) (t':=s.toks) (fun _ _ q=>eP _ q) (bQ _) (wD s.heap I.big),rfl,h _ (I.hok.fresh (bQ _))⟩
end
def yO:List (TE × TE)->St->Hp->(List (V × V)->Hp->Prop)->Prop
 | [],_,H,Q=>Q [] H
 | (tk,tv)::r,σ,H,Q=>tk σ H fun x H1=>tv σ H1 fun y H2=>yO r σ H2 fun ps H3=>Q ((x,y)::ps) H3
abbrev VV:List (V × V)->List (Value × Value)->Prop:=Paired fun p q=>RelV p.1 q.1/\RelV p.2 q.2
def Zz (X:Cx) (pos:Pos) (keys:List (Option Expr)) (values:List Expr) (trs:List (TE × TE)):Prop:=
 ∀(pins:List (Addr × Obj)) (s:Shared) (σ:St) (H:Hp) (Q:List (V × V)->Hp->Prop),Inv X pins σ H s->yO trs σ H Q →
  wpAny (model X.prog X.w) X.A (evalPairs (pairTrees keys values X.env pos)) (fun vs s'=>∃ps H',Inv X pins σ H' s'/\VV ps vs/\Q ps H') X.xe s
theorem Oj {X:Cx} {pos:Pos}:Zz X pos [] [] []:=fun pins s σ H Q I h=>pairTrees_nil_walk ⟨[],H,I,.nil,h⟩
theorem Hx {X:Cx} {pos:Pos} {k v:Expr} {ks:List (Option Expr)} {vs:List Expr} {tk tv:TE} {trs:List (TE × TE)} (hk:PE X k tk) (hv:PE X v tv) (hr:Zz X pos ks vs trs) :
  Zz X pos (some k::ks) (v::vs) ((tk,tv)::trs):=fun pins s σ H Q I h=>
 pairTrees_cons_walk (bU (hk pins s σ H _ I h) fun u s1 ⟨x,H1,I1,rx,q1⟩=>bU (hv pins s1 σ H1 _ I1 q1) fun w2 s2 ⟨y,H2,I2,ry,q2⟩=>
  bU (hr pins s2 σ H2 _ I2 q2) fun ws s3 ⟨ps,H3,I3,rel,q3⟩=>⟨(x,y)::ps,H3,I3,.cons ⟨rx,ry⟩ rel,q3⟩)
def bD (kvs more:List (bA × V)):List (bA × V):=more.foldl (fun acc kv=>bN acc kv.1 kv.2) kvs
theorem KV.merge:∀ {more:List (bA × V)} {rs:List (bA × Value)} {kvs:List (bA × V)} {vs:List (bA × Value)},KV more rs->KV kvs vs->KV (bD kvs more) (merged vs rs):=by
 intro more rs kvs vs r;unfold KV at r;induction r generalizing kvs vs with
 | nil=>intro q;exact q
 | @cons p q ps qs h t ih=>
  intro r0;have e:KV (bN kvs p.1 p.2) (stored vs q.1 q.2):=by
   have:=r0.put p.1 h.2
   rw[<- h.1];exact this
  exact ih e
theorem eU:∀(more kvs:List (bA × V)),(bD kvs more).length<=kvs.length+more.length
 | [],kvs=>by show kvs.length<=kvs.length+0;omega
 | p::r,kvs=>by
  have h1:=eU r (bN kvs p.1 p.2)
  have h2:=dW kvs p.1 p.2
  show(bD (bN kvs p.1 p.2) r).length<=_
  rw[vS];omega
theorem pI {P:Program} {w:World}:∀ {kvs:List (bA × V)} {ws:List (Value × Value)},VV (kvs.map fun kv=>(kV kv.1,kv.2)) ws->∃rs,Carries (aT P w) ws rs/\KV kvs rs
 | [],_,r=>by rw[List.map_nil]at r;cases r;exact⟨[],True.intro,.nil⟩
 | p::kvs,_,r=>by
  rw[List.map_cons]at r;cases r with
  | @cons a b as bs h t=>
   obtain⟨rs,c,q⟩:=pI (P:=P) (w:=w) t
   obtain⟨b1,b2⟩:=b
   exact⟨(p.1,b2)::rs,⟨nZ h.1,rfl,c⟩,.cons ⟨rfl,h.2⟩ q⟩
def Sf (trs:List (TE × TE)):TE:=fun σ H Q=>∀p,H p=none->yO trs σ (aI H p (.dK [])) fun ps H2=>H2 p=some (.dK [])/\∃kvs:List (bA × V),ps=kvs.map (fun kv=>(kV kv.1,kv.2))/\kvs.length<=15/\Q (.ref p) (aI H2 p (.dK (bD [] kvs)))
theorem Ol {X:Cx} {pos:Pos} {keys:List (Option Expr)} {values:List Expr} {trs:List (TE × TE)} (h:Zz X pos keys values trs) (hall:keys.all (·.isSome)=true) (hl:keys.length=values.length) (h0:keys≠[])
  (h15:keys.length<=15):PE X (.Dict keys values pos) (Sf trs):=by
 intro pins s σ H Q I q;have hn:=I.hok.fresh (bQ s.heap.objs.size)
 have I1:=I.laid (a:=s.heap.objs.size) (o:=.dK []) (h':=s.heap.push {cls:=.type "dict",data:=.dict #[] }) (t':=s.toks) (fun _ _ q=>eP _ q) (bQ _) (wD s.heap I.big)
 refine wpAny_Dict_walk (knd:=aT X.prog X.w) hall hl h0 h15 (bU (h pins _ σ _ _ I1 (q _ hn)) fun ws s2 ⟨ps,H2,I2,rel,e,kvs,ep,lk,q2⟩=>?_)
 subst ep;obtain⟨rs,c,rk⟩:=pI (P:=X.prog) (w:=X.w) rel
 obtain⟨z,hd,vs0,r0,dd⟩:=Ht I2.hok e
 cases r0
 refine⟨rs,c,dd,fun h' dd' hs=>⟨.ref s.heap.objs.size,_,?_,rfl,q2⟩⟩
 have hz:(bD [] kvs).length<=sizeLine:=by
  have h1:=eU kvs []
  rw[List.length_nil]at h1;rw[sizeLine_eq];omega
 have he:∃q,h'.get? s.heap.objs.size=some q:=let ⟨q,_,_,hq,_⟩:=dd';⟨q,hq⟩
 exact tX I2 (by rw[e];exact True.intro) hs he (Hu hz hd (rk.merge .nil) dd')
structure M2 (X:Cx) (o:Expr) (m:Str) (apos:Pos) (e f:Expr) (cpos:Pos):Prop where
 base:attributeBase o m X.env (eval o X.env)=eval o X.env
 few:((backTo cpos (starEach [e,f] X.env)).all (fun x=>!x.1)&&(backToKw cpos (keywordEach [] X.env)).all (fun x=>x.1.isSome)
  && decide (([e,f]:List Expr).length+([]:List Keyword).length+(if ([]:List Keyword).isEmpty then 0 else 1)<30))=true
 line:(apos.endLine == cpos.line)=true
 trees:backTo cpos (starEach [e,f] X.env)=[(false,eval e X.env),(false,eval f X.env)]
def IsD (H:Hp) (a:Addr):Prop:=(∃kvs,Rd H a (.dK kvs))∨∃kvs,Rd H a (.dT kvs)
theorem Vf {X:Cx} {pins:List (Addr × Obj)} {σ:St} {H:Hp} {s:Shared} {a:Addr} (I:Inv X pins σ H s) (d:IsD H a) :
  s.TypeIs (.ref a) "dict"/\(∀b,Value.ref a=.ref b->∃ob,s.heap.get? b=some ob/\ob.dict=none)/\(a == sysModules)=false:=by
 rcases d with⟨kvs,e⟩ | ⟨kvs,e⟩
 ·obtain⟨_,hd,vs,_,dd⟩:=oA I.hok e
  refine⟨dd.typeIs,fun b q=>?_,hd⟩
  cases q
  obtain⟨ob,_,_,h1,h2,_⟩:=dd
  exact⟨ob,h1,h2.2.1⟩
 ·obtain⟨_,hd,xs,_,dd⟩:=pH I.hok e
  refine⟨dd.typeIs,fun b q=>?_,hd⟩
  cases q
  obtain⟨ob,_,_,h1,h2,_⟩:=dd
  exact⟨ob,h1,h2.2.1⟩
section
variable {X:Cx} {pins:List (Addr × Obj)} {σ:St} {H:Hp} {s:Shared} {a:Addr} {y d:V} {u r:Value} {o:Option V} {A:Around} {E:Value->Shared->Prop}
theorem Vg {Q:Value->Shared->Prop} (hu:A.units+1<cLine) (I:Inv X pins σ H s) (g:DGet H a y o) (ry:RelV y u) (rd:RelV d r) (h:∀w' s',Inv X pins σ H s'->RelV (o.getD d) w'->Q w' s') :
  wpAny (model X.prog X.w) A (call (.builtin "dict.get") [.ref a,u,r]) Q E s:=by
 rcases g with⟨kvs,k,e,ey,l⟩ | ⟨kvs,k,b,e,ey,eb,l⟩
 ·subst ey;obtain⟨z,hd,vs,rel,dd⟩:=oA I.hok e
  refine call_meetsIn PySem.F.slot_dict_get dd.typeIs PySem.F.entry_dict_get (PySem.F.args_dict_get_3 _ _ _) (meets_dict_get_default (aT X.prog X.w) a (nZ ry) hd r) ⟨_,dd.mapOf,h _ _ (I.tok _) ?_⟩
  rw[l];exact(rel.val k).getD rd
 ·subst ey;cases (show u=Value.ref b from ry)
  obtain⟨z,hd,xs,rel,dd⟩:=pH I.hok e
  refine call_meetsIn PySem.F.slot_dict_get dd.typeIs PySem.F.entry_dict_get (PySem.F.args_dict_get_3 _ _ _) (meetsH_dict_get_default (tupleKind (aT X.prog X.w)) a b hd r) ⟨tupleKind_room_in1 hu,k,xs,mZ I.hok eb,dd,h _ _ (I.tok _) ?_⟩
  rw[l];exact(rel.val k).getD rd
end
def Hy (td ty tx:TE):TE:=fun σ H Q=>td σ H fun x H1=>∃a,x=.ref a/\IsD H1 a/\ty σ H1 fun y H2=>tx σ H2 fun z H3=>∃o,DGet H3 a y o/\Q (o.getD z) H3
section
variable {X:Cx} {o e f:Expr} {apos cpos:Pos} {td ty tx:TE}
theorem Ia (hu:X.A.units+1<cLine) (ho:PE X o td) (he:PE X e ty) (hf:PE X f tx) (m:M2 X o "get" apos e f cpos):PE X (.Call (.Attribute o "get" apos) [e,f] [] cpos) (Hy td ty tx):=by
 intro pins s σ H Q I h;refine wpAny_Call_method m.base m.few m.line PySem.F.plainAttrs_dict PySem.F.slot_dict_get PySem.F.type_dict_get (bU (ho pins s σ H _ I h) fun u s1 ⟨x,H1,I1,rx,a,ex,d,q1⟩=>?_)
 subst ex;obtain rfl:u=Value.ref a:=rx
 obtain⟨t1,t2,_⟩:=Vf I1 d
 refine⟨t1,t2,?_⟩
 rw[m.trees];refine Calls.callWith_builtin rfl (Calls.evalArgs_plain (Calls.spliced_cons (bU (he pins s1 σ H1 _ I1 q1) fun iv s2 ⟨y,H2,I2,ry,q2⟩=>
  Calls.spliced_cons (bU (hf pins s2 σ H2 _ I2 q2) fun fv s3 ⟨z,H3,I3,rz,ov,g,q3⟩=>Calls.spliced_nil ?_))))
 exact Vg hu I3 g ry rz fun w' s4 I4 rw'=>⟨_,H3,I4,rw',q3⟩
end
end L2
namespace Att
open PySem PySem.W PySem.Calls PyProof.Rows
theorem oJ {P:Params} {h:Heap}:∀(ns:List Int) (vs:List Value),WellAll P h vs (ns.map WData.int)->IntsAre vs ns:=by
 intro ns;induction ns with
 | nil=>
  intro vs w;rw[List.map_nil]at w;cases w
  exact .nil
 | cons n ns ih=>
  intro vs w;rw[List.map_cons]at w;cases w with
  | cons a b=>
   cases a
   exact .cons _ _ (ih _ b)
theorem Dw {l:OpenLaw} {n:Nat} (hn:l.most=some n) {P:Params} {h:Heap} {args:List WData} {vals:List Value}
  (hpre:l.row.toRowW.claim.pre args=true) (hwl:WellAll P h vals args) :
  ∃a vs ns,vals=[Value.ref a]/\args=[WData.list (ns.map WData.int)]/\h.get? a=some {cls:=.type "list",data:=.seq vs.toArray }/\IntsAre vs ns/\ns.length<=n:=by
 have hsh:WShape.hasAll [] args [.list .int]=true:=(pre_splitW hpre).1
 have hc:l.pre.holds [] {args:=args }=true:=(pre_splitW hpre).2
 obtain⟨d,r,rfl,h1,h2⟩:=hasAllW_cons hsh
 obtain rfl:=hasAllW_nil h2
 obtain⟨xs,rfl,h3⟩:=hasW_list h1
 obtain⟨ns,rfl⟩:=items_int h3
 have hlen:ns.length<=n:=by
  unfold OpenLaw.pre at hc;have h4:(WTm.not (.lt (.lit (.int (n:Int))) (.len (.arg 0)))).holds [] {args:=[.list (ns.map .int)] }=true:=by
   have h4:=(holds_andW hc).1
   rw[hn]at h4;exact h4
  have h5:=condW_of h4 (w_not (w_lt w_lit (w_len_list (w_arg rfl))))
  rw[aZ]at h5;refine Nat.le_of_not_lt fun q=>?_
  have q':(n:Int)<((ns.length:Nat):Int):=by omega
  first
   | (rw[decide_eq_true q']at h5;exact absurd h5 Zd)
   | (simp at h5;omega)
 cases hwl with
 | cons w1 w2=>
  cases w2
  cases w1 with
  | list ho hall=>exact⟨_,_,ns,rfl,rfl,ho,oJ ns _ hall,hlen⟩
theorem Dx (l:OpenLaw) (args:List WData):l.row.toRowW.claim.post args (.bool true) args=true:=
 postW_of (r:=l.row.toRowW) (X:=(true == true))
  (show WShape.has [] (.bool true) .bool=true by first | rfl | decide | simp [WShape.has,WShape.arms,WShape.armsAll])
  (show(WTm.eq .res (.lit (.bool true))).value [] {args:=args,res:=some (.bool true),after:=args }=some (.bool (true == true)) from w_eq_bool (w_res rfl) w_lit) rfl
theorem attach_call {l:OpenLaw} {n:Nat} {q:Program} {loose:List Str} {XP:(Str->Option Value)->Heap->Prop} {YP:World->Heap->Prop} {d:DefRec}
  (hn:l.most=some n) (hdf:d.params.defaults=[])
  (call:∀(w:World) (s₀ s₁:Shared) (mg mb:Str->Option Value) (fa:Addr) (o:Obj) (pm cd doc:Value) (a:Addr) (vs:List Value) (ns:List Int),
   Ground q loose [] XP w s₀ mg mb s₁.heap->YP w s₁.heap →
   s₁.heap.get? fa=some o->o.data=.func (docDef d.name d.params d.body d.scope pm cd doc)->s₁.heap.CodeRec cd d.name->mg d.name=some (.ref fa) →
   s₁.heap.get? a=some {cls:=.type "list",data:=.seq vs.toArray }->IntsAre vs ns->ns.length<=n->s₁.gens=#[] →
   codeAny (model l.prog w) callerA (.call (.ref fa) ⟨[.ref a],[]⟩) (fun r s'=>r=.ok (.ret (.bool true))/\OldK s₁.heap s'.heap/\s'.os=s₁.os/\AllBare s'.gens) s₁) :
  WalkO q loose XP YP l.row.toRowW d [] (fun f vs=>PySem.call f vs):=by
 intro w s₀ s₁ mg mb G Y fa o pm cd doc dV kV ho hd hcd hD hmg hg args vals as hpre hlay hrd hwl hlo;obtain rfl:dV=.none:=Dflts.none hD hdf
 obtain rfl:kV=.none:=Dflts.noKw hD
 obtain⟨a,vs,ns,rfl,rfl,hobj,hints,hlen⟩:=Dw hn hpre hwl
 refine enter_call (codeAny_mono (call w s₀ s₁ mg mb fa o pm cd doc a vs ns G Y ho (fd_plain hd) hcd hmg hobj hints hlen hg) fun r s' hq=>?_)
 obtain⟨rfl,h2,h3,h4⟩:=hq
 exact⟨.inl ⟨.bool true,.bool true,[],rfl,fun _=>rfl,.bool true,Dx l _,fun _=>⟨List.Pairwise.nil,fun _ hm=>(nomatch hm)⟩⟩,h2,h3,h4⟩
end Att
namespace L2
open PySem PySem.Spec PyProof.Rows
theorem sA:∀ {vs:List Value} {ns:List Int},IntsAre vs ns->Vals (ns.map V.int) vs
 | _,_,.nil=>.nil
 | _,_,.cons n t h=>.cons ⟨t,rfl⟩ (sA h)
def Vh (H:Hp):Prop:=∀b,H b=none∨∃o xs,H b=some (.frz o (.lst xs))
theorem Ib {P:Program} {w:World} {K:W.Frag} {mg mb:Str->Option Value} {CX:Gq} {k:Nat} {fa a:Addr} {fd:FuncData} {x:Str} {sp:Sp} {s₁:Shared} {vs:List Value} {ns:List Int}
  (KX:K.In s₁.heap) (hns:s₁.heap.Ns mainGlobals mg) (hb:s₁.heap.Ns builtinsNs mb) (hbb:∀x:Str,x≠"__name__"->mb x=bootBuiltins x) (hlim:s₁.heap.NoLimit) (hg:s₁.gens=#[])
  (ha:s₁.heap.get? a=some {cls:=.type "list",data:=.seq vs.toArray }) (hi:IntsAre vs ns) (hl:ns.length<=sizeLine) (hr:Room k callerA)
  (F:∀base:Heap,K.In base->base.Ns mainGlobals mg->iE P w K mg base CX k fa fd [x] sp) (hbind:∀(s:Shared) (u:Value),BindsTo s fd ⟨[u],[]⟩ [(x,u)])
  (hsp:∀H:Hp,Vh H->SqL K H a (ns.map V.int)->sp [.ref a] H (fun v _=>v=.bl true) fun _ _ _=>False)
  (hCX:∀H e s',CX [] H s₁ (fun _ _ _=>False) e s'->False) :
  codeAny (model P w) callerA (.call (.ref fa) ⟨[.ref a],[]⟩) (fun r s'=>r=.ok (.ret (.bool true))/\OldK s₁.heap s'.heap/\s'.os=s₁.os/\AllBare s'.gens) s₁:=by
 have rv:=sA hi
 have lenV:=hi.length
 have core:∀H:Hp,Vh H->SqL K H a (ns.map V.int)->HOk P w H s₁.heap->(∀b,H b≠none->b=a)->(H a≠none->K.lookup a=none) →
   codeAny (model P w) callerA (.call (.ref fa) ⟨[.ref a],[]⟩) (fun r s'=>r=.ok (.ret (.bool true))/\OldK s₁.heap s'.heap/\s'.os=s₁.os/\AllBare s'.gens) s₁:=by
  intro H hO hS hok hA hK;have base_of:∀ {b:Addr} {o:Obj},s₁.heap.get? b=some o->H b=none->(tF s₁.heap H).get? b=some o:=fun e n=>Fx e n
  have noA:∀ {b:Addr} {o:Obj} {es:Array DictEntry} {ep:Nat},s₁.heap.get? b=some o->o.data=.dict es ep->H b=none:=fun {b o es ep} e d=>by
   cases q:H b with
   | none=>rfl
   | some u=>
    have e':b=a:=hA b (by rw[q];simp)
    subst e';rw[ha]at e;cases e
    have d':Data.seq vs.toArray _=Data.dict es ep:=d
    cases d'
  have nsK:∀ {b:Addr} {m:Str->Option Value},s₁.heap.Ns b m->(tF s₁.heap H).Ns b m:=fun {b m} ⟨o,es,ep,e,d,r⟩=>⟨o,es,ep,base_of e (noA e d),d,r⟩
  have hKb:K.In (tF s₁.heap H):=fun b o e=>base_of (KX b o e) (by
   cases q:H b with
   | none=>rfl
   | some u=>
    have e':b=a:=hA b (by rw[q];simp)
    subst e';rw[hK (by rw[q];simp)]at e;cases e)
  have hM:Mod K mg (tF s₁.heap H):=⟨hKb,nsK hns,⟨mb,nsK hb,hbb⟩,let ⟨mc,h1,h2⟩:=hlim;⟨mc,nsK h1,h2⟩⟩
  have e0:Env0 P w K mg (tF s₁.heap H) callerA [] s₁ H:=⟨rfl,hM,fun b o e=>Nc e,Nat.le_of_eq (Cu _ _),trivial,fun b hb=>absurd (show b∈([]:List Addr) from hb) Zs,hok,.of_eq hg⟩
  refine codeAny_mono ((F _ hKb (nsK hns)).run callerA [] s₁ H ⟨[.ref a],[]⟩ [.ref a] [.ref a] _ _ hr e0 (hbind s₁ (.ref a)) (.cons rfl .nil) (hsp H hO hS)) fun r s' h=>?_
  cases r with
  | error e=>exact(hCX H e s' h).elim
  | ok fl=>
   cases fl with
   | next=>exact False.elim h
   | brk=>exact False.elim h
   | cont=>exact False.elim h
   | ret u=>
    obtain⟨v,H',os,bare,un,hok',r',q⟩:=h
    have q':v=.bl true:=q
    subst q';obtain rfl:u=Value.bool true:=r'
    refine⟨rfl,OldK.of_keep fun b o e=>?_,os,bare⟩
    cases q:H b with
    | none=>exact un.keep b o e q (by intro z;exact absurd (show b∈([]:List Addr) from z) Zs) Zs
    | some u=>
     rcases hO b with z | ⟨ob,xs,z⟩
     ·rw[q]at z;cases z
     ·have z2:=un.frzs b ob _ z
      obtain⟨e1,_⟩:=hok b _ z
      obtain⟨e2,_⟩:=hok' b _ z2
      rw[e]at e1;cases e1
      exact e2
 cases hk:K.lookup a with
 | some o=>
  have e:=KX a o hk
  rw[ha]at e;cases e
  refine core (fun _=>none) (fun _=>.inl rfl) (.inr ⟨_,vs.toArray,_,hk,rfl,rfl,rfl,by rw[eB,lenV];exact hl,by simpa using rv⟩) (fun b u z=>by have z':(none:Option HO)=some u:=z;cases z') (fun b z=>absurd rfl z) fun z=>absurd rfl z
 | none=>
  refine core (fun b=>if b=a then some (.frz {cls:=.type "list",data:=.seq vs.toArray } (.lst (ns.map V.int))) else none) (fun b=>?_) (.inl (.inr ⟨{cls:=.type "list",data:=.seq vs.toArray },if_pos rfl⟩)) (fun b u z=>?_) (fun b z=>?_) fun _=>hk
  ·by_cases hb:b=a
   ·exact .inr ⟨_,_,if_pos hb⟩
   ·exact .inl (if_neg hb)
  ·by_cases hb:b=a
   ·have z':=(if_pos hb).symm.trans z
    cases z'
    subst hb;exact⟨ha,by rw[aZ];exact hl,vs,_,rv,ha⟩
   ·have z':=(if_neg hb).symm.trans z
    cases z'
  ·by_cases hb:b=a
   ·exact hb
   ·exact absurd (if_neg hb) z
end L2
namespace L2
open PySem PySem.Spec PyProof.Rows
theorem Au {l:W.OpenLaw} {n k:Nat} {q:Program} {loose:List Str} {XP:(Str->Option Value)->Heap->Prop} {YP:World->Heap->Prop} {d:DefRec} {K:Params->W.Frag} {CX:World->Gq} {sp:World->Sp} {x:Str}
  (hn:l.most=some n) (hn2:n<=sizeLine) (hdf:d.params.defaults=[]) (hr:Room k callerA)
  (hY:∀(w:World) (h:Heap),YP w h->(K w.params).In h)
  (F:∀(w:World) (mg:Str->Option Value) (fa:Addr) (h:Heap),(K w.params).In h->h.Ns mainGlobals mg->mg d.name=some (.ref fa) →
   ∃fd:FuncData,(∀(s:Shared) (u:Value),BindsTo s fd ⟨[u],[]⟩ [(x,u)]) ∧
    ∀base:Heap,(K w.params).In base->base.Ns mainGlobals mg->iE l.prog w (K w.params) mg base (CX w) k fa fd [x] (sp w))
  (hsp:∀(w:World) (H:Hp) (a:Addr) (ns:List Int),ns.length<=n->Vh H->SqL (K w.params) H a (ns.map V.int)->sp w [.ref a] H (fun v _=>v=.bl true) fun _ _ _=>False)
  (hCX:∀(w:World) (H:Hp) (s:Shared) (e:Value) (s':Shared),CX w [] H s (fun _ _ _=>False) e s'->False) :
  W.WalkO q loose XP YP l.row.toRowW d [] (fun f vs=>PySem.call f vs):=by
 refine Att.attach_call hn hdf fun w s₀ s₁ mg mb fa o pm cd doc a vs ns G Y ho hd hcd hmg hobj hints hlen hg=>?_
 have KX:=hY w _ Y
 obtain⟨fd,hb,hF⟩:=F w mg fa _ KX G.T.g hmg
 exact Ib KX G.T.g G.T.b G.T.builtins G.T.nolimit hg hobj hints (kN hlen hn2) hr hF hb (fun H hO hS=>hsp w H a ns hlen hO hS) fun H e s'=>hCX w H s₁ e s'
end L2
/- THE LAST THEOREM (shape;LID,My.* are yours):
   My.Adr: a structure of the addresses that your layer names (classes,functions);My.Txt K t: a structure (Prop) of the equations over K;
   My.txt_mk:{K} {implicit addresses ..} (e1:nsIn K mainGlobals "law"=some (some (.ref f))) (e2:K.lookup f=some ⟨oc,od,.func (fnOf "law" "law" params body scope dV kV doc pm an cdv ct),sl⟩) (e3:codeIn K cdv "law"=true) ..:∃t,My.Txt K t
set_option maxRecDepth 100000 in
set_option maxHeartbeats 0 in
theorem PySem.Challenge.cw_LID_holds : PySem.Challenge.rw_LID.Holds := by
 w_on;o_law;k_head;(case hw=>w_witness2)
 k_fill
 refine L2.Au (l:=PySem.Challenge.rw_LID) (n:=63) (k:=40) (x:="script") (CX:=fun w=>..) (sp:=fun _=>My.sp_law) rfl Zd rfl ⟨rfl,Zd,Zd⟩ (fun w h Y=>W.kIn_of Y) ?F ?S ?C
 case F=>
  intro w mg fa h KX G hmg;have T:∃t,My.Txt (L2.KOf KX) t:=by
   dsimp only [L2.KOf]                          -- K must stand as «<heap const> w.params» for k_is
   refine' My.txt_mk ?e1 ?e2 ?e3 ..
   (case e1=>W.k_is)                    -- in the order: a name->its address->its object->its parts
   (case e2=>W.k_is)
   ..
  obtain⟨t,T⟩:=T
  have e0:=hmg.symm.trans (W.mg_of KX G T.law)
  cases e0                                       -- fa is the law's own address
  exact⟨_,fun s u=>.of_eq rfl,fun base kb nb=>My.law_fn T kb nb⟩     -- if «.of_eq rfl» comes too early: refine' ⟨_,?b,fun base kb nb=>My.law_fn T kb nb⟩;exact fun s u=>.of_eq rfl
 case S=>exact fun w H a ns hl hO hS=>..
 case C=>exact ..
(the tactic k_is has no namespace: write k_is) -/
namespace L2
open PySem PySem.Spec PyProof.Rows
def eE (s:Stmt) (j:Nat):Stmt:=match s with
 | .ClassDef _ _ _ body _ _ _ _ _ _ _=>body.getD j (.Pass ⟨0,0,0,0⟩)
 | _=>.Pass ⟨0,0,0,0⟩
def bZ (s:Stmt):Arguments:=match s with
 | .FunctionDef _ a _ _ _ _ _ _ _ _=>a
 | _=>{posonlyargs:=[],args:=[],vararg:=none,kwonlyargs:=[],kw_defaults:=[],kwarg:=none,defaults:=[] }
def aV (s:Stmt):List Stmt:=match s with
 | .FunctionDef _ _ b _ _ _ _ _ _ _=>b
 | _=>[]
def aB (s:Stmt):Scope:=match s with
 | .FunctionDef _ _ _ _ _ _ sc _ _ _=>sc
 | _=>{kind:=.function,names:=[],isGenerator:=false,isCoroutine:=false }
abbrev qW:Gq:=fun _ _ _ _ _ _=>False
abbrev E0:XK:=fun _ _ _=>False
theorem Av {X:Cx}:mV qW X E0:=fun _ _ _ _ _ _ _ h=>h.elim
structure Fun (K:W.Frag) (x qual:Str) (st:Stmt) (f:Addr) (fd:FuncData):Prop where
 ex:∃(oc:Value) (od:Option Addr) (kV doc pm:Value) (an:Option Addr) (cdv ct:Value) (osl:Array (Option Value)),
  fd=W.fnOf x qual (bZ st) (aV st) (aB st) .none kV doc pm an cdv ct/\K.lookup f=some ⟨oc,od,.func fd,osl⟩/\W.codeIn K cdv qual=true
 kp:W.keepIn K (.ref f)=true
section
variable {P:Program} {w:World} {K:W.Frag} {mg:Str->Option Value} {base:Heap}
theorem Fun.ok {x qual:Str} {st:Stmt} {f:Addr} {fd:FuncData} {N ps:List Str} {k:Nat} {sp:Sp} (F:Fun K x qual st f fd) (S:aJ N ps (aB st)) (len:∀vs H Q E,sp vs H Q E->vs.length=ps.length)
  (hbody:∀(cdv:Value) (A:Around) (outer:List Env) (s:Shared) (H:Hp) (vs:List V) (Q:VK) (E:XK),Room k (A.deeper (envOfC qual (aB st) s.heap.objs.size f cdv))->sp vs H Q E →
   ∃t,PSs (fL qW P w K mg base N qual (aB st) f cdv A outer s H E).nox (aV st) t/\t {nx:=fun _ H'=>Q .non H',rt:=Q } (start N vs) H):iE P w K mg base qW (k+1) f fd ps sp:=by
 obtain⟨oc,od,kV,doc,pm,an,cdv,ct,osl,rfl,lk,hcd⟩:=F.ex
 refine Gu lk hcd S len fun A outer s H vs Q E hr hsp=>?_
 obtain⟨t,h,q⟩:=hbody cdv A outer s H vs Q E hr hsp
 exact⟨t,h.nox,q⟩
theorem Fun.binds {x qual:Str} {st:Stmt} {f:Addr} {fd:FuncData} {ps:List Str} (F:Fun K x qual st f fd)
  (h:∀(kV doc pm:Value) (an:Option Addr) (cdv ct:Value) (us:List Value),us.length=ps.length->bindArgs (W.fnOf x qual (bZ st) (aV st) (aB st) .none kV doc pm an cdv ct) ⟨us,[]⟩=pure (ps.zip us)):Binds K fd ps []:=by
 obtain⟨oc,od,kV,doc,pm,an,cdv,ct,osl,rfl,lk,hcd⟩:=F.ex
 exact .all (h kV doc pm an cdv ct)
theorem kU {x qual:Str} {st:Stmt} {f:Addr} {oc:Value} {od an:Option Addr} {osl:Array (Option Value)} {kV doc pm cdv ct:Value} (l:K.lookup f=some ⟨oc,od,.func (W.fnOf x qual (bZ st) (aV st) (aB st) .none kV doc pm an cdv ct),osl⟩)
  (c:W.codeIn K cdv qual=true) (k:W.keepIn K (.ref f)=true):Fun K x qual st f (W.fnOf x qual (bZ st) (aV st) (aB st) .none kV doc pm an cdv ct):=⟨⟨oc,od,kV,doc,pm,an,cdv,ct,osl,rfl,l,c⟩,k⟩
end
theorem jK {A:Around} {k:Nat} (hr:Room k A):A.units+1<cLine:=oZ (Nat.add_le_add_left (by decide:1<=64) _) hr.units
section
variable {X:Cx}
theorem Dy:CallR X (.builtin "len") (fun xs H Q=>∃a kvs,xs=[V.ref a]/\H a=some (.dK kvs)/\Q (.int kvs.length) H):=by
 intro pins s σ H xs us Q I r h;obtain⟨a,kvs,rfl,ha,q⟩:=h
 obtain⟨u,rfl,ru⟩:=jE r
 cases ru
 exact Zy I (.inl ha) fun t s' I'=>⟨.int kvs.length,H,I',⟨t,rfl⟩,q⟩
end
def Same (H H':Hp):Prop:=∀b o,H b=some o->H' b=some o
theorem Same.refl (H:Hp):Same H H:=fun _ _ h=>h
theorem Same.trans {H H1 H2:Hp} (a:Same H H1) (b:Same H1 H2):Same H H2:=fun c o h=>b c o (a c o h)
theorem Same.free {H H':Hp} (e:Same H H') {l:Addr} (h:H' l=Option.none):H l=Option.none:=by
 cases q:H l with
 | none=>rfl
 | some o=>
  rw[e l o q]at h;cases h
theorem Same.seq {K:W.Frag} {H H':Hp} {a:Addr} {xs:List V} (e:Same H H') (h:SqL K H a xs):SqL K H' a xs:=by
 rcases h with(h | ⟨o,h⟩) | h
 ·exact .inl (.inl (e _ _ h))
 ·exact .inl (.inr ⟨o,e _ _ h⟩)
 ·exact .inr h
section
variable {κ:Type} [DecidableEq κ]
theorem Om {kvs:List (κ × V)} {k:κ} {v:V} (h:bC kvs k=some v):k∈kvs.map (·.1):=by
 have q:(kvs.any fun kv=>decide (kv.1=k))=true:=by
  rw[fX,h];all_goals rfl
 obtain⟨p,hp,e⟩:=List.any_eq_true.mp q
 exact Zmm.mpr ⟨p,hp,of_decide_eq_true e⟩
theorem Aw:∀ {l:List κ} {k:κ},l.Nodup->¬ k∈l->(l++[k]).Nodup
 | [],k,_,_=>by simp
 | a::r,k,h,hk=>by
  obtain⟨h1,h2⟩:=List.nodup_cons.mp h
  show(a::(r++[k])).Nodup
  refine List.nodup_cons.mpr ⟨fun m=>?_,Aw h2 fun m=>hk (List.mem_cons.mpr (Or.inr m))⟩
  rcases Zma.mp m with q | q
  ·exact h1 q
  ·exact hk (List.mem_cons.mpr (Or.inl (Zms.mp q).symm))
end
end L2
namespace L2
open PySem PySem.Spec PyProof.Rows
def jL (env:Env):List (Str × NameKind)->List (Str × Addr)->List (Str × Addr)
 | [],cs=>cs
 | (n,k)::r,cs=>jL env r (if k=.free then (match env.cells.lookup n with | some c=>(n,c)::cs | none=>cs) else cs)
theorem kW {env:Env}:∀(names:List (Str × NameKind)) (cs:List (Str × Addr)),(∀x∈names,x.2=.free->∃c,env.cells.lookup x.1=some c) →
  (forIn names cs fun(x:Str × NameKind) (r:List (Str × Addr))=>(do
   if x.2 == .free then do
    let c ← cellOf env x.1
    pure (ForInStep.yield ((x.1,c)::r))
   else pure (ForInStep.yield r):Sem _))=pure (jL env names cs)
 | [],cs,_=>rfl
 | (n,k)::r,cs,h=>by
  rw[List.forIn_cons];by_cases hk:k=.free
  ·subst hk;obtain⟨c,hc⟩:=h (n,.free) jI rfl
   have hc':env.cells.lookup n=some c:=hc
   have e1:cellOf env n=pure c:=by unfold cellOf;rw[hc']
   simp only [beq_self_eq_true,if_true,e1,pure_bind]
   rw[kW r ((n,c)::cs) fun x hx=>h x (oP _ hx)]
   simp [jL,hc']
  ·have hb:(k == NameKind.free)=false:=by simpa using hk
   simp only [hb,Bool.false_eq_true,if_false,pure_bind]
   rw[kW r cs fun x hx=>h x (oP _ hx)]
   simp [jL,hk]
theorem pJ {scope:Scope} {env:Env} (h:∀x∈scope.names,x.2=.free->∃c,env.cells.lookup x.1=some c):closureFor scope env=pure (jL env scope.names []):=by
 have e:=kW scope.names [] h
 unfold closureFor;exact(congrArg (fun z=>z >>= fun(r:List (Str × Addr))=>(pure r:Sem _)) e).trans (pure_bind _ _)
theorem wE {env:Env}:∀(names:List (Str × NameKind)) (cs:List (Str × Addr)),(∀y d,(y,d)∈cs->env.cells.lookup y=some d)->∀y d,(y,d)∈jL env names cs->env.cells.lookup y=some d
 | [],_,h=>h
 | (n,k)::r,cs,h=>by
  unfold jL;refine wE r _ fun y d hm=>?_
  split at hm
  ·split at hm
   ·rename_i c hc
    rcases List.mem_cons.mp hm with e | e
    ·cases e;exact hc
    ·exact h y d e
   ·exact h y d hm
  ·exact h y d hm
theorem Ax {env:Env}:∀(names:List (Str × NameKind)) (cs:List (Str × Addr)) (y:Str) (d:Addr),(y,d)∈jL env names cs->(y,.free)∈names∨(y,d)∈cs
 | [],_,_,_,h=>.inr h
 | (n,k)::r,cs,y,d,h=>by
  unfold jL at h;rcases Ax r _ y d h with e | hm
  ·exact .inl (oP _ e)
  ·split at hm
   ·rename_i hk
    split at hm
    ·rcases List.mem_cons.mp hm with e | e
     ·cases e;subst hk;exact .inl jI
     ·exact .inr e
    ·exact .inr hm
   ·exact .inr hm
theorem Ic {env:Env}:∀(names:List (Str × NameKind)) (cs:List (Str × Addr)) (y:Str),((∃d,(y,d)∈cs)∨(y,.free)∈names)->(∀x∈names,x.2=.free->∃c,env.cells.lookup x.1=some c)->∃d,(y,d)∈jL env names cs
 | [],_,_,h,_=>by
  rcases h with h | h
  ·exact h
  ·cases h
 | (n,k)::r,cs,y,h,hf=>by
  unfold jL;refine Ic r _ y ?_ fun x hx=>hf x (oP _ hx)
  rcases h with⟨d,hd⟩ | h
  ·refine .inl ⟨d,?_⟩
   split
   ·split
    ·exact oP _ hd
    ·exact hd
   ·exact hd
  ·rcases List.mem_cons.mp h with e | e
   ·have e1:y=n:=congrArg Prod.fst e
    have e2:NameKind.free=k:=congrArg Prod.snd e
    subst e1 e2;obtain⟨c,hc⟩:=hf (y,.free) jI rfl
    have hc':env.cells.lookup y=some c:=hc
    refine .inl ⟨c,?_⟩
    rw[if_pos rfl,hc'];exact jI
   ·exact .inr e
theorem pK {α:Type}:∀ {l:List (Str × α)} {y:Str} {d:α},(y,d)∈l->∃d',l.lookup y=some d'/\(y,d')∈l
 | (n,c)::r,y,d,h=>by
  by_cases e:y=n
  ·subst e;exact⟨c,by simp [List.lookup_cons],jI⟩
  ·rcases List.mem_cons.mp h with q | q
   ·cases q;exact absurd rfl e
   ·obtain⟨d',h1,h2⟩:=pK q
    have hb:(y == n)=false:=by simpa using e
    exact⟨d',by rw[List.lookup_cons,hb];exact h1,oP _ h2⟩
theorem dX {env:Env} {names:List (Str × NameKind)} {y:Str} {c:Addr} (h:(jL env names []).lookup y=some c):env.cells.lookup y=some c/\(y,.free)∈names:=by
 have hm:=PySem.mem_of_lookup h
 refine⟨wE names [] (fun _ _ z=>nomatch z) y c hm,?_⟩
 rcases Ax names [] y c hm with e | e
 ·exact e
 ·cases e
theorem Ay {env:Env} {names:List (Str × NameKind)} {y:Str} (h:(y,.free)∈names) (hf:∀x∈names,x.2=.free->∃c,env.cells.lookup x.1=some c):∃c,(jL env names []).lookup y=some c/\env.cells.lookup y=some c:=by
 obtain⟨d,hd⟩:=Ic names [] y (.inr h) hf
 obtain⟨c,hc,_⟩:=pK hd
 exact⟨c,hc,(dX hc).1⟩
theorem tY {scope:Scope} {env:Env} (hcell:∀y∈scope.names,y.2≠.cell) {x:Str} (h:(relabel scope env).names.lookup x=some .cell∨(relabel scope env).names.lookup x=some .free):(x,.free)∈scope.names:=by
 have go:∀ {k:NameKind},k=.cell∨k=.free->(relabel scope env).names.lookup x=some k->(x,.free)∈scope.names:=fun {k} hk h=>by
  have hm:=PySem.mem_of_lookup h
  unfold relabel at hm;obtain⟨⟨n,j⟩,hp,e⟩:=Zmm.mp hm
  dsimp only at e
  split at e
  ·rename_i hc
   cases e
   have:j=.free:=by
    have:=(Bool.and_eq_true_iff.mp (Bool.and_eq_true_iff.mp hc).1).1
    simpa using this
   subst this;exact hp
  ·cases e
   rcases hk with q | q
   ·exact absurd q (hcell _ hp)
   ·subst q;exact hp
 rcases h with h | h
 ·exact go (.inl rfl) h
 ·exact go (.inr rfl) h
theorem lG {env:Env}:∀ {names:List (Str × NameKind)} {x:Str},names.lookup x=some .free →
  (names.map fun(n,k)=>if (k == NameKind.free&&env.scope.kind == .function&&env.kindOf n == some .cell) then (n,NameKind.cell) else (n,k)).lookup x=some .cell∨
  (names.map fun(n,k)=>if (k == NameKind.free&&env.scope.kind == .function&&env.kindOf n == some .cell) then (n,NameKind.cell) else (n,k)).lookup x=some .free
 | [],_,h=>by simp at h
 | (n,k)::r,x,h=>by
  have ih:=@lG env r x
  rw[List.map_cons];dsimp only;cases hx:x == n with
  | true=>
   simp only [List.lookup_cons,hx]at h
   cases h
   split
   ·left;simp [List.lookup_cons,hx]
   ·right;simp [List.lookup_cons,hx]
  | false=>
   simp only [List.lookup_cons,hx]at h
   split
   ·simp only [List.lookup_cons,hx];exact ih h
   ·simp only [List.lookup_cons,hx];exact ih h
def mL (X:Cx) (scope:Scope) (C:Addr) (N:List Str) (s₂:Shared) (H₂:Hp) (fp:List Addr):Cx where
 prog:=X.prog
 w:=X.w
 K:=X.K
 mg:=X.mg
 base:=X.base
 A:=X.A
 N:=N
 s₀:=s₂
 H₀:=H₂
 env:=compEnvC scope (jL X.env scope.names []) C X.env
 outer:=X.stack
 stack:=X.stack
 ex:=fp
 fn:=fun _=>false
 calm:=X.calm
 pn:=[]
 xe:=fun _ _=>False
def tZ (js:List (Option Nat)) (σ:St):St:=js.map fun o=>match o with | some j=>(σ[j]?).getD none | none=>none
structure CompScope (X:Cx) (scope:Scope) (N:List Str) (js:List (Option Nat)):Prop where
 kind:scope.kind=.function
 nocell:∀y∈scope.names,y.2≠.cell
 loc:∀y∈scope.names,y.2=.local->scope.names.lookup y.1=some .local
 len:js.length=N.length
 cap:∀(i j:Nat),js[i]?=some (some j)->∃x,N[i]?=some x/\X.N[j]?=some x/\scope.names.lookup x=some .free
 out:∀y∈scope.names,y.2=.free->X.env.kindOf y.1=some .cell∨X.env.kindOf y.1=some .free
def yP (js:List (Option Nat)) (g:TG):Prop:=∀x σ H Q,g x σ H Q->g x σ H fun σ2 H2=>Q σ2 H2/\σ2.length=σ.length/\∀(i j:Nat),js[i]?=some (some j)->σ2[i]?=σ[i]?
def Az (js:List (Option Nat)) (g:Ag):Prop:=∀xs σ H Q,g xs σ H Q->g xs σ H fun σ2 H2=>Q σ2 H2/\σ2.length=σ.length/\∀(i j:Nat),js[i]?=some (some j)->σ2[i]?=σ[i]?
theorem aP {js:List (Option Nat)} {k:Nat} (h:js[k]?=some none):yP js (aK k):=fun x σ H Q q=>by
 refine⟨q,Zs,fun i j e=>?_⟩
 have:k≠i:=fun z=>by subst z;rw[h]at e;cases e
 rw[List.getElem?_set_ne this]
theorem nB {js:List (Option Nat)}:Az js Uc:=fun xs σ H Q q=>⟨q.1,q.2,rfl,fun _ _ _=>rfl⟩
theorem eQ {js:List (Option Nat)} {k:Nat} {u:Ag} (h:js[k]?=some none) (hu:Az js u):Az js (Gc (aK k) u):=fun xs σ H Q q=>by
 obtain⟨v,r,e,q⟩:=q
 refine⟨v,r,e,?_⟩
 obtain⟨_,h2⟩:=aP h v σ H (fun _ _=>True) trivial
 have q2:=hu r _ _ _ q
 have e2:(fun σ2 H2=>Q σ2 H2/\σ2.length=(σ.set k (some v)).length/\∀(i j:Nat),js[i]?=some (some j)->σ2[i]?=(σ.set k (some v))[i]?)=(fun σ2 (H2:Hp)=>Q σ2 H2/\σ2.length=σ.length/\∀(i j:Nat),js[i]?=some (some j)->σ2[i]?=σ[i]?):=by
  funext σ2 H2
  have e3:∀(i j:Nat),js[i]?=some (some j)->(σ.set k (some v))[i]?=σ[i]?:=h2.2
  apply propext
  constructor
  ·rintro⟨a,b,c⟩
   exact⟨a,by simpa using b,fun i j e=>(c i j e).trans (e3 i j e)⟩
  ·rintro⟨a,b,c⟩
   exact⟨a,by simpa using b,fun i j e=>(c i j e).trans (e3 i j e).symm⟩
 show u r (σ.set k (some v)) H _
 rw[<- e2];exact q2
theorem pL {K:W.Frag} {n:Nat} {js:List (Option Nat)} {t:Ag} (h:Az js t):yP js (Nm K n t):=fun x σ H Q q=>by
 obtain⟨a,xs,e,hq,hl,q⟩:=q
 exact⟨a,xs,e,hq,hl,h xs σ H Q q⟩
section
variable {X:Cx} {pins:List (Addr × Obj)} {σ:St} {H H':Hp} {s:Shared}
theorem Un.more {fs ex:List Addr} {H H':Hp} {h h':Heap} {D:Addr} {o:HO} (u:Un fs ex H H' h h') (hD:h.get? D=none) (hH:H D=none):Un fs ex H (aI H' D o) h h' where
 keep:=u.keep
 slot:=u.slot
 free:=fun b ob q n hx=>by
  have:b≠D:=fun z=>by rw[z,hD]at q;cases q
  rw[aD this];exact u.free b ob q n hx
 there:=u.there
 tups:=fun b xs q=>by rw[aD (aE q hH)];exact u.tups b xs q
 frzs:=fun b ob xs q=>by rw[aD (aE q hH)];exact u.frzs b ob xs q
 tbls:=fun b ps q=>by rw[aD (aE q hH)];exact u.tbls b ps q
theorem HOk.more {P:Program} {w:World} {h:Heap} {D:Addr} {o:HO} (k:HOk P w H h) (hH:H D=none) (new:ObjOk P w (aI H D o) h D o):HOk P w (aI H D o) h:=fun b u e=>by
 by_cases hb:b=D
 ·subst hb;rw[aA]at e;cases e;exact new
 ·rw[aD hb]at e;exact(k b u e).stay (fun _ _ _ q=>q) (fun c q=>by rw[aD (aE q hH)];exact q) fun c xs q=>by rw[aD (aE q hH)];exact q
theorem CompScope.ok {scope:Scope} {N:List Str} {js:List (Option Nat)} {C:Addr} {fp:List Addr} (S:CompScope X scope N js) (I:Inv X pins σ H s) (hC:s.heap.objs.size<=C) (hf:∀b∈fp,mP X pins H b) (hl:∀b∈fp,b<s.heap.objs.size) :
  (mL X scope C N s H fp).Ok where
 mod:=I.ok.mod
 kind:=S.kind
 glob:=I.ok.glob
 blt:=I.ok.blt
 above:=hC
 inj:=fun x y c h1 h2=>I.ok.inj x y c (dX h1).1 (dX h2).1
 has:=fun x hx=>by
  have hm:(x,.free)∈scope.names:=tY S.nocell hx
  obtain⟨c,h1,_⟩:=Ay (env:=X.env) hm fun y hy hk=>I.ok.has y.1 (S.out y hy hk)
  exact⟨c,h1⟩
 cab:=fun x c z=>nomatch z
 hd:=I.ok.hd
 frames:=I.ok.frames
 stk:=.inl rfl
 exf:=fun b hb=>⟨Nat.ne_of_lt (Nat.lt_of_lt_of_le (hl b hb) hC),fun x c e=>(hf b hb).2.2.2.2.1 x c (dX e).1⟩
 bs:=I.bs
 bsz:=kN I.ok.bsz I.sz
 noex:=fun b o e hb=>by
  rcases(hf b hb).2.2.2.1 with z | z
  ·exact I.ok.noex b o e z
  ·exact absurd (Nat.lt_of_lt_of_le (Heap.lt_size e) (kN I.ok.bsz z)) (Nat.lt_irrefl _)
 exfs:=fun b hb hm=>by
  rcases List.mem_cons.mp (I.stkSub b hm) with z | z
  ·exact(hf b hb).2.1 z
  ·exact(hf b hb).2.2.1 z
 funs:=I.stack
 frf:=I.stkFree
theorem CompScope.start {scope:Scope} {N:List Str} {js:List (Option Nat)} {C D:Addr} {fp:List Addr} {ob:Obj} {h₁:Heap} {m:Str->Option Value} {tk:Nat} (S:CompScope X scope N js) (I:Inv X pins σ H s) (hC:s.heap.objs.size<=C) (hD:s.heap.objs.size<=D) (hDC:D≠C)
  (hf:∀b∈fp,mP X pins H b) (hl:∀b∈fp,b<s.heap.objs.size) (k:∀b o,s.heap.get? b=some o->h₁.get? b=some o) (hns:h₁.Ns C m) (eD:h₁.get? D=some ob) (nc:∀v,ob.data≠.cell v) :
  Inv (mL X scope C N s H fp) [(D,ob)] (tZ js σ) H {s with heap:=h₁,toks:=tk } where
 ok:=S.ok I hC hf hl
 os:=rfl
 bare:=I.bare
 base:=Un.kept k
 loc:=by
  refine⟨m,hns,fun i x v h1 h2 h3=>?_⟩
  have h1:N[i]?=some x:=h1
  unfold tZ at h2;rw[jC]at h2;cases e:js[i]? with
  | none=>rw[e]at h2;cases h2
  | some o=>
   rw[e]at h2;cases o with
   | none=>cases h2
   | some j=>
    have h2':(σ[j]?).getD none=some v:=Option.some.inj h2
    have hσ:σ[j]?=some (some v):=by
     cases q:σ[j]? with
     | none=>rw[q]at h2';cases h2'
     | some z=>rw[q]at h2';exact congrArg some h2'
    obtain⟨y,e1,e2,e3⟩:=S.cap i j e
    rw[h1]at e1;cases e1
    have hfree:(x,.free)∈scope.names:=PySem.mem_of_lookup e3
    have ho:=S.out (x,.free) hfree rfl
    obtain⟨mX,_,hlX⟩:=I.loc
    have hvX:Ys X.env.scope x:=by
     rcases ho with z | z
     ·exact .inr (.inl z)
     ·exact .inr (.inr z)
    obtain⟨u,r,l⟩:=hlX j x v e2 hσ hvX
    refine⟨u,r,.inr ?_⟩
    rcases l with⟨hk,_⟩ | ⟨hk,c,hc,hcell⟩
    ·rcases ho with z | z
     ·have z':X.env.kindOf x=some .cell:=z
      rw[hk]at z';cases z'
     ·have z':X.env.kindOf x=some .free:=z
      rw[hk]at z';cases z'
    ·obtain⟨c',h1',h2''⟩:=Ay (env:=X.env) hfree fun y hy hk=>I.ok.has y.1 (S.out y hy hk)
     rw[hc]at h2'';cases h2''
     refine⟨lG e3,c,h1',?_⟩
     obtain⟨oc,q1,q2⟩:=hcell
     exact⟨oc,k c oc q1,q2⟩
 cell:=fun x c e=>by
  obtain⟨v,oc,q1,q2⟩:=I.cell x c (dX e).1
  exact⟨v,oc,k c oc q1,q2⟩
 free:=I.hok.fresh hC
 freeC:=fun x c e=>I.freeC x c (dX e).1
 pin:=fun p hp=>by
  have e:p=(D,ob):=by
   rcases Zma.mp hp with z | z
   ·exact absurd (show p∈([]:List (Addr × Obj)) from z) Zs
   ·simpa using z
  subst e;refine⟨eD,I.hok.fresh hD,hDC,fun hm=>?_,nc⟩
  rcases List.mem_cons.mp (I.stkSub D hm) with z | z
  ·have z:D=X.env.locals:=z
   have:=I.lt
   rw[<- z]at this;exact absurd (Nat.lt_of_lt_of_le this hD) (Nat.lt_irrefl _)
  ·exact I.nofs hD z
 hok:=I.hok.kept k
 len:=by
  unfold tZ;rw[aZ];exact S.len
end
def Yk (X:Cx) (cs:List Expr) (t:TT):Prop:=
 ∀(pins:List (Addr × Obj)) (s:Shared) (σ:St) (H:Hp) (Q:Bool->Hp->Prop) (E:Value->Shared->Prop),Inv X pins σ H s->t σ H Q →
  wpAny (model X.prog X.w) X.A (forIn cs true fun c r=>if r=true then do let ok ← isTrue c X.env (eval c X.env);pure (ForInStep.yield ok) else pure (ForInStep.yield r)) (TP X pins σ Q) E s
def Sg:TT:=fun _ H Q=>Q true H
theorem On {X:Cx}:Yk X [] Sg:=fun pins s σ H Q E I h=>wpAny_tests_nil ⟨H,I,h⟩
theorem Oo {X:Cx} {c:Expr} {t:TT} (h:PT X c t) (hx:X.xe=fun _ _=>False:=by rfl):Yk X [c] t:=fun pins s σ H Q E I q=>
 wpAny_tests_one (wpAny_mono (h pins s σ H Q I q) (fun _ _ z=>z) fun e s' z=>by rw[hx]at z;exact z.elim)
def pM (js:List (Option Nat)) (g:TG) (tt:TT) (te:TE) (σ:St) (J:It) (H1:Hp) (Q:List V->Hp->Prop):Prop:=
 ∃W:Nat->Nat->List V->Hp->Prop,(∃m,W 0 m [] H1)/\∀i m ys H,W i m ys H →
  (J.stop i H/\Q ys H)∨
  (J.go i H/\ys.length<sizeLine/\∃N:List V->Hp->Prop,(∀ys' H',N ys' H'->∃m',m'<m/\W (i+1) m' ys' H') ∧
   ∀x H',J.yld i H x H'->g x (tZ js σ) H' fun σ2 H2=>tt σ2 H2 fun b H3=>if b=true then te σ2 H3 fun y H4=>N (ys++[y]) H4 else N ys H3)
def Sh (wi:TI) (js:List (Option Nat)) (g:TG) (tt:TT) (te:TE):TE:=fun σ H Q=>wi σ H fun J H1=>
 pM js g tt te σ J H1 fun ys H2=>∀p,H2 p=none->Q (.ref p) (aI H2 p (.lst ys))
def Si (i:Nat) (wi:TI) (js:List (Option Nat)) (g:TG) (tt:TT) (te:TE):TS:=fun D σ H=>wi σ H fun J H1=>
 pM js g tt te σ J H1 fun ys H2=>∀p,H2 p=none->D.nx (σ.set i (some (.ref p))) (aI H2 p (.lst ys))
section
variable {X:Cx} {tg iter elt:Expr} {ifs:List Expr} {scope:Scope} {N:List Str} {js:List (Option Nat)} {wi:TI} {g:TG} {tt:TT} {te:TE} {pos:Pos}
theorem pN {pins:List (Addr × Obj)} {σ:St} {H2:Hp} {s2:Shared} {it:Addr} {fp:List Addr} {tn:Nat->Heap->Prop} {J:It} {Qf:List V->Hp->Prop} {RR:Value->Addr->Result->Shared->Prop} {E:Value->Shared->Prop} (hc:X.calm=true) (S:CompScope X scope N js) (go:yP js g)
  (hb:∀(C:Addr) (s₂:Shared) (H₂:Hp) (fp:List Addr),PG (mL X scope C N s₂ H₂ fp) tg g/\Yk (mL X scope C N s₂ H₂ fp) ifs tt/\PE (mL X scope C N s₂ H₂ fp) elt te)
  (I2:Inv X pins σ H2 s2) (T:tH X.prog X.w X.K tg J fp it tn) (st2:tn 0 s2.heap) (f2:∀b∈fp,mP X pins H2 b) (hw:pM js g tt te σ J H2 Qf)
  (hRR:∀(C D:Addr) (ys:List V) (H3:Hp) (s3:Shared) (m:Str->Option Value),s2.heap.objs.size<=C->s2.heap.objs.size<=D->D≠C->Inv X pins σ (aI H3 D (.lst ys)) s3->H3 C=none->H3 D=none->s3.heap.Ns C m->Qf ys H3->RR (.ref D) C (.ok .next) s3) :
  wpAny (model X.prog X.w) X.A (newList []) (fun acc s₃=>wpAny (model X.prog X.w) X.A (newFunctionEnv scope X.env.globals (jL X.env scope.names []) [] X.env.qual none .none (some X.env)) (fun cenv s₄=>
   codeAny (model X.prog X.w) X.A (.compStart (.ListComp elt [⟨tg,iter,ifs,0⟩] scope pos) 0 (.ref it) acc {cenv with scope:=relabel scope X.env }) (RR acc cenv.locals) s₄) E s₃) E s2:=by
 obtain⟨W,⟨m0,w0⟩,turn⟩:=hw
 refine wpAny_newObj_type (wpAny_newFunctionEnv S.nocell (by intro y hy;simp at hy) (fun h₁ hns₁ hsb₁=>?_) S.kind)
 dsimp only at hns₁ hsb₁ ⊢
 generalize hH2:s2.heap.push {cls:=.type "list",dict:=none,data:=.seq ([]:List Value).toArray }=HP at hns₁ hsb₁ ⊢;have hC:HP.objs.size=s2.heap.objs.size+1:=by rw[<- hH2,Heap.size_push]
 have hDC:s2.heap.objs.size≠HP.objs.size:=by rw[hC];exact Nat.ne_of_lt (Nat.lt_succ_self _)
 have hCle:s2.heap.objs.size<=HP.objs.size:=by rw[hC];exact Nat.le_succ _
 have old:∀b o,s2.heap.get? b=some o->h₁.get? b=some o:=fun b o e=>hsb₁.extBut b o (by rw[hC];exact Nat.ne_of_lt (Nat.lt_succ_of_lt (Heap.lt_size e))) (eP _ (hH2 ▸ eP _ e))
 have hacc:h₁.get? s2.heap.objs.size=some {cls:=.type "list",data:=.seq ([]:List Value).toArray 0 }:=hsb₁.extBut _ _ hDC (eP _ (hH2 ▸ Heap.get?_push_size _ rfl))
 have hfl:∀b∈fp,b<s2.heap.objs.size:=fun b hb=>by
  obtain⟨o,e,_⟩:=T.obj _ _ st2 b hb
  exact Heap.lt_size e
 generalize hDn:s2.heap.objs.size=D at hDC hCle hacc ⊢;generalize hCn:HP.objs.size=C at hDC hCle hns₁ ⊢;have hCs:s2.heap.objs.size<=C:=by rw[hDn];exact hCle
 have hDs:s2.heap.objs.size<=D:=Nat.le_of_eq hDn
 obtain⟨pg,pt,pe⟩:=hb C s2 H2 fp
 have I0:=S.start (D:=D) (fp:=fp) (tk:=s2.toks+([]:List (Str × Value)).length) I2 hCs hDs hDC f2 hfl old hns₁ hacc (fun v z=>nomatch z)
 have fpY:∀ {H':Hp} {pl:List (Addr × Obj)},(∀b∈fp,H' b=none)->(∀p∈pl,p.1∉fp)->∀b∈fp,mP (mL X scope C N s2 H2 fp) pl H' b:=fun hn hp b hb=>
  ⟨hn b hb,Nat.ne_of_lt (Nat.lt_of_lt_of_le (hfl b hb) hCs),(S.ok I2 hCs f2 hfl).exfs b hb,.inl hb,fun x c e=>(f2 b hb).2.2.2.2.1 x c (dX e).1,fun p hm z=>by
   rcases Zma.mp hm with q | q
   ·exact absurd (show p∈([]:List (Addr × Obj)) from q) Zs
   ·exact hp p q (z ▸ hb)⟩
 have dfp:D∉fp:=fun z=>absurd (Nat.lt_of_lt_of_le (hfl D z) hDs) (Nat.lt_irrefl _)
 have one:∀ {ob:Obj},∀p∈[(D,ob)],p.1∉fp:=fun p hp=>by
  have e:=Zms.mp hp
  subst e;exact dfp
 have loop:∀s₃:Shared,s₃={s2 with heap:=h₁,toks:=s2.toks+([]:List (Str × Value)).length } →
   codeAny (model X.prog X.w) X.A (.compLoop (.ListComp elt [⟨tg,iter,ifs,0⟩] scope pos) 0 (.ref it) (.ref D) (compEnvC scope (jL X.env scope.names []) C X.env)) (RR (.ref D) C) s₃:=by
  rintro s₃ rfl
  refine codeAny_loop rfl (fun n s'=>∃(i:Nat) (ys:List V) (H':Hp) (its:List Value) (k:Nat),Inv (mL X scope C N s2 H2 fp) [(D,{cls:=.type "list",data:=.seq its.toArray k })] (tZ js σ) H' s'/\Vals ys its/\ys.length<=sizeLine/\tn i s'.heap/\(∀b∈fp,H' b=none)/\W i n ys H') ?_ m0 ?_
  ·rintro n s3 ⟨i,ys,H3,its,k,I3,rv,hz,st3,fr3,w3⟩
   show wpAny _ X.A ((compTurn (.ListComp elt [⟨tg,iter,ifs,0⟩] scope pos) 0 (.ref it) (.ref D) (compEnvC scope (jL X.env scope.names []) C X.env)).onRaise (fun x=>do noteFrame x _;theTreesLotGoes x)) _ _ s3
   refine wpAny_noted (wpAny_noRaise ?_)
   rw[compTurn_list];rcases turn i n ys H3 w3 with⟨stop,qn⟩ | ⟨goes,hlt,Nx,hN,step⟩
   ·refine wpAny_bind (wpAny_standAt (wpAny_bind (bU (T.done (mL X scope C N s2 H2 fp) rfl rfl rfl hc i _ s3 (tZ js σ) H3 (fun _ _=>False) I3 (fpY fr3 one) st3 stop) fun r s4 ⟨hr,I4⟩=>?_)))
    subst hr;refine wpAny_pure ?_
    have pD:=I4.pin (D,{cls:=.type "list",data:=.seq its.toArray k }) (by simp [mL])
    obtain⟨mC,hnC,_⟩:=id I4.loc
    have IX:Inv X pins σ (aI H3 D (.lst ys)) s4:=by
     refine I2.call' (ch:=fp) I4.os (Un.more I4.base (Heap.get?_none_of_le hDs) (I2.hok.fresh hDs)) (HOk.more I4.hok pD.2.1 ⟨hz,its,k,rv,pD.1⟩) I4.bare fun b hb=>?_
     obtain⟨_,f1,_,f3,f4,f5⟩:=f2 b hb
     exact⟨f3,f1,f4,f5⟩
    exact hRR C D ys H3 s4 mC hCs hDs hDC IX I4.free pD.2.1 hnC qn
   ·refine wpAny_bind (wpAny_standAt (wpAny_bind (bU (T.item (mL X scope C N s2 H2 fp) rfl rfl rfl hc i _ s3 (tZ js σ) H3 (fun _ _=>False) I3 (fpY fr3 one) st3 goes) fun r s4 ⟨u,hr,h4⟩=>?_)))
    subst hr;refine wpAny_bind (bU h4 fun _ s5 ⟨x,H5,I5,r5,y5,st5,fr5⟩=>?_)
    have I5':=I5.pinned (fpY fr5 one) (T.obj _ _ st5)
    refine wpAny_bind (bU (pg _ s5 (tZ js σ) H5 x u _ I5' r5 (go _ _ _ _ (step x H5 y5))) fun _ s6 ⟨σ6,H6,I6,⟨q6,l6,e6⟩⟩=>?_)
    have weak:∀ {pl:List (Addr × Obj)} {H7:Hp} {s7:Shared},Inv (mL X scope C N s2 H2 fp) pl σ6 H7 s7->Inv (mL X scope C N s2 H2 fp) pl (tZ js σ) H7 s7:=fun {pl H7 s7} I7=>by
     refine I7.weak l6.symm fun j v hj=>?_
     cases e:js[j]? with
     | none=>unfold tZ at hj;rw[jC,e]at hj;cases hj
     | some o=>
      cases o with
      | none=>unfold tZ at hj;rw[jC,e]at hj;cases hj
      | some j'=>rw[e6 j j' e];exact hj
    have keepN:∀ {H7:Hp} {s7:Shared} {pl:List (Addr × Obj)},Inv (mL X scope C N s2 H2 fp) (pl++pB fp s5.heap) (tZ js σ) H7 s7->tn (i+1) s7.heap/\∀b∈fp,H7 b=none:=fun {H7 s7 pl} I7=>by
     refine⟨T.keep _ _ _ st5 fun b hb o e=>(I7.pin (b,o) (List.mem_append_right _ (List.mem_append_right _ (iD hb e)))).1,fun b hb=>?_⟩
     obtain⟨o,e,d⟩:=T.obj _ _ st5 b hb
     exact(I7.pin (b,o) (List.mem_append_right _ (List.mem_append_right _ (iD hb e)))).2.1
    refine wpAny_bind (bU (pt _ s6 σ6 H6 _ _ I6 q6) fun ok s7 ⟨H7,I7,q7⟩=>?_)
    cases ok with
    | false=>
     rw[if_neg Bool.false_ne_true]at q7;refine wpAny_pure ⟨rfl,?_⟩
     obtain⟨m',hm,w7⟩:=hN ys H7 q7
     have I7':=weak I7
     obtain⟨k1,k2⟩:=keepN I7'
     exact⟨m',hm,i+1,ys,H7,its,k,I7'.unpinned,rv,hz,k1,k2,w7⟩
    | true=>
     rw[if_pos rfl]at q7;show wpAny _ _ ((eval elt _ >>= fun x=>call (.builtin "list.append") [.ref D,x] >>= fun _=>pure ()) >>= fun _=>again _) _ _ _
     refine wpAny_bind (wpAny_bind (bU (pe _ s7 σ6 H7 _ I7 q7) fun y s8 ⟨yv,H8,I8,r8,q8⟩=>?_))
     obtain⟨m',hm,w8⟩:=hN (ys++[yv]) H8 q8
     have I8':=weak I8
     obtain⟨k1,k2⟩:=keepN I8'
     have pD:=I8'.pin (D,{cls:=.type "list",data:=.seq its.toArray k }) (by simp [mL])
     have hln:=rv.length
     refine wpAny_bind (call_meets F.slot_list_append ⟨_,pD.1,rfl⟩ F.entry_list_append (F.args_list_append_2 _ _) (PySem.list_append D its.toArray k y (by rw[eB];omega)) ⟨pD.1,?_⟩)
     refine wpAny_pure (wpAny_pure ⟨rfl,m',hm,i+1,ys++[yv],H8,its++[y],?_⟩)
     have q:=PySem.IsL.update pD.1 (fun z=>z.push y)
     have eA:its.toArray.push y=(its++[y]).toArray:=by simp
     rw[eA]at q;have I9:Inv (mL X scope C N s2 H2 fp) [] (tZ js σ) H8 s8:=I8'.pins_of fun p hp=>absurd hp Zs
     have hob:∀b o,b≠D->s8.heap.get? b=some o->(s8.heap.update D (Obj.mapSeq fun z=>z.push y)).get? b=some o:=fun b o hb hu=>(Heap.get?_update_other s8.heap _ (Ne.symm hb)).trans hu
     have I10:Inv (mL X scope C N s2 H2 fp) [] (tZ js σ) H8 {s8 with heap:=s8.heap.update D (Obj.mapSeq fun z=>z.push y),toks:=s8.toks }:=I9.turned hob pD.2.1 pD.2.2.1 (.inr hDs)
      (fun x c e z=>by
       obtain⟨v,oc,q1,q2⟩:=I2.cell x c (dX e).1
       rw[z]at q1;exact absurd (Nat.lt_of_lt_of_le (Heap.lt_size q1) hDs) (Nat.lt_irrefl _))
      (fun p hp=>by
       rcases Zma.mp hp with q | q
       ·exact absurd (show p∈([]:List (Addr × Obj)) from q) Zs
       ·exact absurd q Zs)
     refine⟨(if ((its++[y]).toArray).size == its.toArray.size then k else k+1),I10.pins_of fun p hp=>?_,rv.append (.cons r8 .nil),?_,?_,k2,w8⟩
     ·have e:=Zms.mp hp
      subst e;exact⟨q,pD.2.1,pD.2.2.1,pD.2.2.2.1,fun v z=>nomatch z⟩
     ·rw[kM,List.length_singleton];omega
     ·exact T.keep _ _ _ k1 fun b hb o e=>hob b o (fun z=>dfp (z ▸ hb)) e
  ·exact⟨0,[],H2,[],0,I0,.nil,Nat.zero_le _,T.keep _ _ _ st2 fun b _ o e=>old b o e,fun b hb=>(f2 b hb).1,w0⟩
 exact codeAny_compStart_list (loop _ rfl) (T.self _ 0 _ _ _ (T.keep _ _ _ st2 fun b _ o e=>old b o e) (loop _ rfl))
theorem Op (hc:X.calm=true) (S:CompScope X scope N js) (go:yP js g) (hi:PI X tg iter wi)
  (hb:∀(C:Addr) (s₂:Shared) (H₂:Hp) (fp:List Addr),PG (mL X scope C N s₂ H₂ fp) tg g/\Yk (mL X scope C N s₂ H₂ fp) ifs tt/\PE (mL X scope C N s₂ H₂ fp) elt te)
  (hs:∀x,foldedSetIterable iter X.env x=pure x:=by intro _;rfl):PE X (.ListComp elt [⟨tg,iter,ifs,0⟩] scope pos) (Sh wi js g tt te):=by
 intro pins s σ H Q I h;rw[eval_ListComp];refine wpAny_comprehension_free (use:=none) rfl hs (pJ fun y hy hk=>I.ok.has y.1 (S.out y hy hk)) S.kind S.loc (bU (hi pins s σ H _ I h) fun v s1 h1=>bU h1 fun itv s2 h2=>?_)
 obtain⟨it,fp,tn,J,H2,e,I2,T,st2,f2,hw⟩:=h2
 subst e;refine pN (RR:=fun acc C=>compPost (model X.prog X.w) X.A X.xe none (EP X pins σ Q) acc C) hc S go hb I2 T st2 f2 hw ?_
 intro C D ys H3 s3 m hC hD hDC I3 fC fD hn q;refine⟨m,hn,fun h' hs'=>?_⟩
 refine⟨.ref D,aI H3 D (.lst ys),I3.turned (it:=C) (t':=s3.toks) (fun b o hb e=>(hs'.2 b hb).trans e) (by rw[aD (Ne.symm hDC)];exact fC) ?_ (.inr (kN I2.sz hC)) ?_ ?_,rfl,q D fD⟩
 ·exact Nat.ne_of_gt (Nat.lt_of_lt_of_le I2.lt hC)
 ·intro x c e z;obtain⟨v,oc,q1,q2⟩:=I2.cell x c e
  rw[z]at q1;exact absurd (Nat.lt_of_lt_of_le (Heap.lt_size q1) hC) (Nat.lt_irrefl _)
 ·intro p hp z;have:=Heap.lt_size (I2.pin p hp).1
  rw[z]at this;exact absurd (Nat.lt_of_lt_of_le this hC) (Nat.lt_irrefl _)
theorem Oq {i:Nat} {y:Str} {py spos:Pos} (hN:X.N.Nodup) (hy:X.N[i]?=some y) (hx:Fu X.env.scope y) (hc:X.calm=true) (S:CompScope X scope N js) (go:yP js g) (hi:PI X tg iter wi)
  (hb:∀(C:Addr) (s₂:Shared) (H₂:Hp) (fp:List Addr),PG (mL X scope C N s₂ H₂ fp) tg g/\Yk (mL X scope C N s₂ H₂ fp) ifs tt/\PE (mL X scope C N s₂ H₂ fp) elt te)
  (hsw:swapsWith (.ListComp elt [⟨tg,iter,ifs,0⟩] scope pos) (some (.Name y py)) spos.line X.env=pure true)
  (hs:∀x,foldedSetIterable iter X.env x=pure x:=by intro _;rfl) (hf:X.fn y=true∨X.env.scope.names.lookup y=some .local:=by first | exact .inl rfl | exact .inr rfl | assumption) :
  PS X (.Assign [.Name y py] (.ListComp elt [⟨tg,iter,ifs,0⟩] scope pos) spos) (Si i wi js g tt te):=by
 intro pins s σ H D I h;rw[exec_Assign_Name_used _ _ _ _ hsw];refine wpAny_bind (wpAny_standAt (wpAny_bind ?_))
 show wpAny _ X.A (do let _ ← comprehension (.ListComp elt [⟨tg,iter,ifs,0⟩] scope pos) scope X.env _ (newList []) false (eval iter X.env) (some (assign (.Name y py) X.env))) _ _ s
 refine wpAny_bind (bU (wpAny_comprehension_free (use:=some (assign (.Name y py) X.env)) (Q:=fun _ s'=>SP X pins D .next s') rfl hs (pJ fun y hy hk=>I.ok.has y.1 (S.out y hy hk)) S.kind S.loc
  (bU (hi pins s σ H _ I h) fun v s1 h1=>bU h1 fun itv s2 h2=>?_)) fun _ s' hq=>wpAny_pure (wpAny_pure hq))
 obtain⟨it,fp,tn,J,H2,e,I2,T,st2,f2,hw⟩:=h2
 subst e;refine pN (RR:=fun acc C=>compPost (model X.prog X.w) X.A X.xe (some (assign (.Name y py) X.env)) (fun _ s'=>SP X pins D .next s') acc C) hc S go hb I2 T st2 f2 hw ?_
 intro C Da ys H3 s3 m hC hD hDC I3 fC fD hn q;have cne:∀x c,X.env.cells.lookup x=some c->c≠C:=fun x c e z=>by
  obtain⟨v,oc,q1,q2⟩:=I2.cell x c e
  rw[z]at q1;exact absurd (Nat.lt_of_lt_of_le (Heap.lt_size q1) hC) (Nat.lt_irrefl _)
 have lne:C≠X.env.locals:=Nat.ne_of_gt (Nat.lt_of_lt_of_le I2.lt hC)
 show wpAny _ X.A (assign (.Name y py) X.env (.ref Da)) _ _ _
 refine wpAny_assign_Name (rQ (v:=.ref Da) I3 hN hy hx rfl (fun s4 I4 hs4=>?_) hf)
 obtain⟨a,hsb,ha⟩:=hs4
 have aC:C≠a:=by
  rcases ha with z | z
  ·rw[z];exact lne
  ·exact Ne.symm (cne y a z)
 refine⟨m,hn.sameBut hsb aC,fun h' hs'=>?_⟩
 refine⟨_,_,I4.turned (it:=C) (t':=s4.toks) (fun b o hb e=>(hs'.2 b hb).trans e) (by rw[aD (Ne.symm hDC)];exact fC) lne (.inr (kN I2.sz hC)) cne ?_,q Da fD⟩
 intro p hp z;have:=Heap.lt_size (I2.pin p hp).1
 rw[z]at this;exact absurd (Nat.lt_of_lt_of_le this hC) (Nat.lt_irrefl _)
end
end L2
namespace L2
open PySem PySem.Spec PyProof.Rows
def Its (x:Str):It:=⟨fun i _=>i<x.cps.size,fun i H v H'=>H'=H/\∃c,x.cps[i]?=some c/\v=.str ⟨#[c]⟩,fun i _=>x.cps.size<=i⟩
theorem yQ {P:Program} {w:World} {K:W.Frag} {tg:Expr} (it:Addr) (x:Str) (t:Tok):tH P w K tg (Its x) [it] it (fun i h=>h.IsStrIter it "str_ascii_iterator" x t i) where
 mem:=by simp
 obj:=fun i h st b hb=>by
  have e:b=it:=by simpa using hb
  subst e;obtain⟨o,e,c,d⟩:=st
  exact⟨o,e,fun v z=>by rw[d]at z;cases z⟩
 keep:=fun i h h' st k=>let ⟨o,ho,r⟩:=st;⟨o,k it Zs o ho,r⟩
 item:=by
  intro X hP hw hK hc i pins s σ H E I hf st hg;subst hP hw hK;obtain⟨f0,f1,f2,f3,f4,f5⟩:=hf it Zs
  have hi:i<x.cps.size:=hg
  refine wpAny_pyNext_ascii_item st (c:=x.cps[i]) (by simp [hi]) fun h' st' sb=>?_
  have I1:Inv X pins σ H {s with heap:=h',toks:=s.toks+1 }:=I.turned (fun b o hb e=>(sb.2 b hb).trans e) f0 f1 f3 f4 f5
  obtain⟨o,e,c,d⟩:=id st'
  exact⟨_,rfl,vW (s:={s with heap:=h',toks:=s.toks+1 }) e c d Zd ⟨.str ⟨#[x.cps[i]]⟩,H,I1,⟨_,rfl⟩,⟨rfl,_,by simp [hi],rfl⟩,st',fun b hb=>(hf b hb).1⟩⟩
 done:=by
  intro X hP hw hK hc i pins s σ H E I hf st hg;subst hP hw hK;obtain⟨f0,f1,f2,f3,f4,f5⟩:=hf it Zs
  have hi:x.cps.size<=i:=hg
  exact wpAny_pyNext_ascii_end (I.ok.hd hc) st (by simp [hi]) fun h' eb=>⟨rfl,I.turned (t':=s.toks) (fun b o hb e=>eb b o hb e) f0 f1 f3 f4 f5⟩
 self:=fun _ _ _ _ _ st h=>wpAny_pyIter_striter_ascii st h
theorem Dz {P:Program} {w:World} {K:W.Frag} {tg:Expr} (it:Addr) (x:Str) (t:Tok):tH P w K tg (Its x) [it] it (fun i h=>h.IsStrIter it "str_iterator" x t i) where
 mem:=by simp
 obj:=fun i h st b hb=>by
  have e:b=it:=by simpa using hb
  subst e;obtain⟨o,e,c,d⟩:=st
  exact⟨o,e,fun v z=>by rw[d]at z;cases z⟩
 keep:=fun i h h' st k=>let ⟨o,ho,r⟩:=st;⟨o,k it Zs o ho,r⟩
 item:=by
  intro X hP hw hK hc i pins s σ H E I hf st hg;subst hP hw hK;obtain⟨f0,f1,f2,f3,f4,f5⟩:=hf it Zs
  have hi:i<x.cps.size:=hg
  refine wpAny_pyNext_wide_item st (c:=x.cps[i]) (by simp [hi]) fun h' st' sb=>?_
  have I1:Inv X pins σ H {s with heap:=h',toks:=s.toks+1 }:=I.turned (fun b o hb e=>(sb.2 b hb).trans e) f0 f1 f3 f4 f5
  obtain⟨o,e,c,d⟩:=id st'
  exact⟨_,rfl,vW (s:={s with heap:=h',toks:=s.toks+1 }) e c d Zd ⟨.str ⟨#[x.cps[i]]⟩,H,I1,⟨_,rfl⟩,⟨rfl,_,by simp [hi],rfl⟩,st',fun b hb=>(hf b hb).1⟩⟩
 done:=by
  intro X hP hw hK hc i pins s σ H E I hf st hg;subst hP hw hK;obtain⟨f0,f1,f2,f3,f4,f5⟩:=hf it Zs
  have hi:x.cps.size<=i:=hg
  exact wpAny_pyNext_wide_end (I.ok.hd hc) st (by simp [hi]) fun h' eb=>⟨rfl,I.turned (t':=s.toks) (fun b o hb e=>eb b o hb e) f0 f1 f3 f4 f5⟩
 self:=fun _ _ _ _ _ st h=>wpAny_pyIter_striter_wide st h
section
variable {X:Cx} {tg:Expr}
def aAa (tl:TE):TI:=fun σ H R=>tl σ H fun x H1=>∃z,x=.str z/\R (Its z) H1
theorem Vi {l:Expr} {tl:TE} (hl:PE X l tl):PI X tg l (aAa tl):=by
 intro pins s σ H R I h;refine bU (hl pins s σ H _ I h) fun v s1 ⟨x,H1,I1,r1,q1⟩=>?_
 obtain⟨z,rfl,q⟩:=q1
 obtain⟨t,rfl⟩:=r1
 have fp:∀b∈[s1.heap.objs.size],mP X pins H1 b:=fun b hb=>by
  have e:b=s1.heap.objs.size:=by simpa using hb
  subst e;exact I1.fpOk (bQ _) (I1.hok.fresh (bQ _))
 cases ha:z.cps.all (·<128)
 ·refine wpAny_pyIter_wide ha ?_
  exact⟨s1.heap.objs.size,[s1.heap.objs.size],_,_,H1,rfl,I1.kept (t':=s1.toks) fun b o e=>eP _ e,Dz _ z t,⟨_,Heap.get?_push_size _ rfl,rfl,rfl⟩,fp,q⟩
 ·refine wpAny_pyIter_ascii ha ?_
  exact⟨s1.heap.objs.size,[s1.heap.objs.size],_,_,H1,rfl,I1.kept (t':=s1.toks) fun b o e=>eP _ e,yQ _ z t,⟨_,Heap.get?_push_size _ rfl,rfl,rfl⟩,fp,q⟩
end
abbrev tx (l:List Nat):Str:=⟨l.toArray⟩
theorem yR (x:Str):tx x.cps.toList=x:=by cases x;simp
theorem fY (l:List Nat):(tx l).length=l.length:=by simp [Str.length]
theorem uA (a b:List Nat):tx a++tx b=tx (a++b):=by
 show Str.append (tx a) (tx b)=_
 unfold Str.append;simp
def dO {α:Type} (xs:List α) (lo hi:Option Int):List α:=(xs.drop (HT.sIx xs.length 0 lo)).take (HT.sIx xs.length xs.length hi - HT.sIx xs.length 0 lo)
theorem lH {α:Type} (xs:List α) (lo hi:Option Int):(dO xs lo hi).length<=xs.length:=by
 unfold dO;rw[jD,List.length_drop];omega
theorem Ba (n d:Nat) (v:Option Int):(match v with | none=>(d:Int) | some i=>max 0 (min (if i<0 then i+(n:Int) else i) (n:Int)))=((HT.sIx n d v:Nat):Int):=by
 cases v with
 | none=>rfl
 | some i=>
  show max 0 (min (if i<0 then i+(n:Int) else i) (n:Int))=(((if i<0 then (i+(n:Int)).toNat else min i.toNat n):Nat):Int)
  by_cases h:i<0
  ·rw[if_pos h,if_pos h];omega
  ·rw[if_neg h,if_neg h];omega
theorem Id (lo hi:Option Int) (n:Nat):Builtin.Str.strSliceIndices lo hi 1 n=(List.range (HT.sIx n n hi - HT.sIx n 0 lo)).map (HT.sIx n 0 lo+·):=by
 rw[<- sliceRange_one,<- Ba n 0 lo,<- Ba n n hi];unfold Builtin.Str.strSliceIndices;simp only [show(1:Int) > 0 by decide,if_true]
 cases lo <;> cases hi <;> rfl
theorem Os (n d:Nat) (hd:d<=n) (v:Option Int):HT.sIx n d v<=n:=by
 cases v with
 | none=>exact hd
 | some i=>
  show(if i<0 then (i+(n:Int)).toNat else min i.toNat n)<=n
  split <;> omega
theorem Ea (x:Str) (lo hi:Option Int):(Txt.slice x lo hi).cps.toList=dO x.cps.toList lo hi:=by
 have hl:x.cps.toList.length=x.length:=by simp [Str.length]
 unfold Txt.slice dO;rw[hl,Id];have key:=pick_run x.cps (HT.sIx x.length 0 lo) (HT.sIx x.length x.length hi - HT.sIx x.length 0 lo)
 split
 ·rename_i h
  have h2:(HT.sIx x.length x.length hi - HT.sIx x.length 0 lo)=x.length:=by simpa using h
  have h3:=Os x.length x.length (bQ _) hi
  have h4:HT.sIx x.length 0 lo=0∨x.length=0:=by omega
  rw[h2];rcases h4 with h4 | h4
  ·rw[h4,List.drop_zero,vR (by rw[hl];exact bQ _)]
  ·have e:x.cps.toList=[]:=List.eq_nil_of_length_eq_zero (by rw[hl];exact h4)
   rw[e];simp
 ·simpa using key
theorem Ie (x:Str) (lo hi:Option Int):Txt.slice x lo hi=tx (dO x.cps.toList lo hi):=by
 rw[<- Ea,yR]
section
variable {X:Cx}
def aBy:V->Option Int->Option Int->Hp->VK->Prop:=fun x lo hi H Q=>∃z,x=.str z/\z.length<=sizeLine/\Q (.str (tx (dO z.cps.toList lo hi))) H
theorem yS {h:Heap} {sl:Addr} {vl vu:Value} {lo hi:Option Int} (hs:h.IsSliceOf sl vl vu .none) (pl:IsPart vl lo) (pu:IsPart vu hi):∃l u:Option (Int × Tok),h.IsSlice sl l u none/\l.map (·.1)=lo/\u.map (·.1)=hi:=by
 cases pl with
 | none=>
  cases pu with
  | none=>exact⟨none,none,hs,rfl,rfl⟩
  | int j t=>exact⟨none,some (j,t),hs,rfl,rfl⟩
 | int i t=>
  cases pu with
  | none=>exact⟨some (i,t),none,hs,rfl,rfl⟩
  | int j u=>exact⟨some (i,t),some (j,u),hs,rfl,rfl⟩
theorem Vj:SlR X aBy:=by
 intro pins s σ H x v vl vu lo hi sl Q I rx hs pl pu h;obtain⟨z,rfl,hz,q⟩:=h
 obtain⟨t,rfl⟩:=rx
 obtain⟨l,u,hS,e1,e2⟩:=yS hs pl pu
 refine⟨"str",_,F.slot_str_getitem.lookup,typeIs_str _ _ _,wpAny_getItem_str_slice hS rfl ?_⟩
 have fin:∀t' k,EP X pins σ Q (.str (Txt.slice z lo hi) t') {s with toks:=k }:=fun t' k=>⟨.str (tx (dO z.cps.toList lo hi)),H,I.tok _,⟨t',by rw[Ie]⟩,q⟩
 subst e1 e2;exact post_val_or_str ⟨kN (Txt.slice_le z _ _) hz,fun t' k=>fin t' k⟩
theorem kX {ns:List Str}:∀ {us:List Value},Vals (ns.map V.str) us->StrsAre us ns:=by
 induction ns with
 | nil=>intro us r;rw[List.map_nil]at r;cases r;exact .nil
 | cons n ns ih=>
  intro us r;rw[List.map_cons]at r;cases r with
  | cons r1 r2=>
   obtain⟨t,e⟩:=r1
   subst e;exact .cons n t (ih r2)
def Ig (K:W.Frag):V->List V->Hp->VK->Prop:=fun x vs H Q=>∃sep p ys,x=.str sep/\vs=[.ref p]/\SqL K H p (ys.map V.str)/\(ys.map (·.length)).sum+ys.length*sep.length<=16777216/\Q (.str (Txt.join sep ys)) H
theorem Ot:Zr X "str.join" (Ig X.K):=by
 intro pins s σ H x vs v us Q I rx rv h;obtain⟨sep,p,ys,rfl,rfl,hq,hz,q⟩:=h
 obtain⟨t,rfl⟩:=rx
 obtain⟨u,rfl,ru⟩:=rv.one
 cases ru
 obtain⟨its,r,pl,_⟩:=I.list hq
 exact join_list pl.isList (by simpa using kX r) hz fun t' k=>⟨.str _,H,I.tok _,⟨_,rfl⟩,q⟩
def aBz (K:W.Frag):List V->Hp->VK->Prop:=fun vs H Q=>∃x T t b,vs=[x,.ty T]/\lF K H x t/\W.kitOne K t (.type T)=some b/\Q (.bl b) H
theorem Ih:CallR X (.builtin "isinstance") (aBz X.K):=by
 intro pins s σ H xs us Q I r h;obtain⟨x,T,t,b,rfl,ty,e,q⟩:=h
 obtain⟨u,c,rfl,ru,rc⟩:∃u c,us=[u,c]/\RelV x u/\RelV (.ty T) c:=by
  cases r with
  | cons p q=>
   cases q with
   | cons p' q'=>
    cases q'
    exact⟨_,_,rfl,p,p'⟩
 cases (show c=Value.type T from rc)
 exact Dn I ru ty e fun tk=>⟨.bl b,H,I.tok _,rfl,q⟩
theorem wF {ns:List Bool}:∀ {us:List Value},Vals (ns.map V.bl) us->PyProof.Rows.LSm.BoolsAre us ns:=by
 induction ns with
 | nil=>intro us r;rw[List.map_nil]at r;cases r;exact .nil
 | cons n ns ih=>
  intro us r;rw[List.map_cons]at r;cases r with
  | cons r1 r2=>
   have e:=r1
   cases (show _=Value.bool n from e)
   exact .cons n (ih r2)
def Vk (K:W.Frag):List V->Hp->VK->Prop:=fun vs H Q=>∃(p:Addr) (bs:List Bool),vs=[.ref p]/\SqL K H p (bs.map V.bl)/\Q (.bl (bs.all id)) H
def Vl (K:W.Frag):List V->Hp->VK->Prop:=fun vs H Q=>∃(p:Addr) (ns:List Int),vs=[.ref p]/\SqL K H p (ns.map V.int)/\Q (.int (List.sum ns)) H
theorem Ii (hc:X.calm=true):CallR X (.builtin "all") (Vk X.K):=by
 intro pins s σ H xs us Q I r h;obtain⟨p,bs,rfl,hq,q⟩:=h
 obtain⟨u,rfl,ru⟩:=jE r
 cases ru
 obtain⟨its,rv,pl,hz⟩:=I.list hq
 have hl:=pl.isList
 have hb:=wF rv
 have hlt:p<s.heap.objs.size:=by obtain⟨_,e,_⟩:=hl;exact Heap.lt_size e
 refine call_all_walk (wpAny_pyIter_list hl ?_)
 refine⟨s.heap.objs.size,[s.heap.objs.size,p],[s.heap.objs.size],its.toArray.size,_,_,fun i=>(bs[i]?).getD true,rfl,Walks.list (A:=X.A.in1) (I.ok.hd hc) _ p (Nat.ne_of_lt hlt) its.toArray,
  ⟨⟨_,Heap.get?_push_size _ rfl,rfl,rfl⟩,hl.push _⟩,fun i v s' Q' E' hP hQ=>?_,fun h' tk hk=>?_⟩
 ·obtain⟨b,e,rfl⟩:=hb.get i v (by simpa using hP)
  simp only [e,Option.getD_some]at hQ
  exact wpAny_truthy_bool hQ
 ·have e:((List.range its.toArray.size).all fun i=>(bs[i]?).getD true)=bs.all id:=by
   rw[eB,hb.length];exact PyProof.Rows.LSm.range_all bs
  rw[e];exact⟨.bl _,H,I.kept (PyProof.Rows.LSm.kept_iter hk),rfl,q⟩
theorem Ij (hc:X.calm=true):CallR X (.builtin "sum") (Vl X.K):=by
 intro pins s σ H xs us Q I r h;obtain⟨p,ns,rfl,hq,q⟩:=h
 obtain⟨u,rfl,ru⟩:=jE r
 cases ru
 obtain⟨its,rv,pl,hz⟩:=I.list hq
 have hi:=pE rv
 obtain⟨xs,hx⟩:=hi.allInts.items
 have hl':s.heap.IsList p (intItems xs):=hx ▸ pl.isList
 refine sum_intListG (I.ok.hd hc) hl' fun h' tk t' hk=>?_
 have e1:ns=xs.toList.map (·.1):=by
  rw[<- nums_intItems,<- hx];exact(show numsOf its.toArray.toList=ns from hi.numsOf).symm
 have e2:preSum (numAt xs) xs.size=ns.sum:=by
  rw[preSum_eq,vR Zs,e1]
 rw[e2];exact⟨.int _,H,I.kept hk,⟨_,rfl⟩,q⟩
end
section
variable {X:Cx}
def nC (K:W.Frag) (neg:Bool):R2:=fun x y H Q=>∃(a b:Addr) (xs:List V),x=.ref a/\y=.ref b/\SqL K H a xs/\SqL K H b []/\Q (.bl (if neg then !xs.isEmpty else xs.isEmpty)) H
theorem jX {us:List Value} (r:Vals [] us):us=[]:=by cases r;rfl
theorem Ik (hu:X.A.units<cLine):OpR X (compareOp .Eq) (nC X.K false):=by
 intro pins s σ H x y v u Q I rx ry h;obtain⟨a,b,xs,rfl,rfl,h1,h2,q⟩:=h
 cases rx
 cases ry
 obtain⟨its,r1,p1,_⟩:=I.list h1
 obtain⟨its2,r2,p2,_⟩:=I.list h2
 have e2:=jX r2
 subst e2;have hl:=r1.length
 cases xs with
 | nil=>
  have e1:=jX r1
  subst e1;exact SeqAt.eq_listAt (e:=fun _=>true) p1.isList p2.isList rfl hu (fun j h=>absurd h Zs) ⟨.bl true,H,I,rfl,q⟩
 | cons z zs=>
  exact SeqAt.eq_list_lengthsAt p1.isList p2.isList (by simp only [eB,<- hl];simp) hu ⟨.bl false,H,I,rfl,q⟩
theorem Il (hu:X.A.units<cLine):OpR X (compareOp .NotEq) (nC X.K true):=by
 intro pins s σ H x y v u Q I rx ry h;obtain⟨a,b,xs,rfl,rfl,h1,h2,q⟩:=h
 cases rx
 cases ry
 obtain⟨its,r1,p1,_⟩:=I.list h1
 obtain⟨its2,r2,p2,_⟩:=I.list h2
 have e2:=jX r2
 subst e2;have hl:=r1.length
 cases xs with
 | nil=>
  have e1:=jX r1
  subst e1;exact SeqAt.RcNeAt.lists (e:=fun _=>true) p1.isList p2.isList rfl hu (fun j h=>absurd h Zs) _ _ _ _ ⟨.bl false,H,I,rfl,q⟩
 | cons z zs=>
  exact SeqAt.RcNeAt.lists_lengths p1.isList p2.isList (by simp only [eB,<- hl];simp) hu _ _ _ _ ⟨.bl true,H,I,rfl,q⟩
end
end L2
namespace L2
open PySem PySem.Spec PyProof.Rows
def mB (x:V) (k:Bool->Prop):Prop:=match x with | .bl b=>k b | _=>False
def mI (x:V) (k:Int->Prop):Prop:=match x with | .int b=>k b | _=>False
def mS (x:V) (k:Str->Prop):Prop:=match x with | .str b=>k b | _=>False
def mR (x:V) (k:Addr->Prop):Prop:=match x with | .ref b=>k b | _=>False
theorem sC (x:V) (k:Bool->Prop):mB x k=∃b,x=.bl b/\k b:=by
 cases x <;> simp [mB]
theorem lI (x:V) (k:Int->Prop):mI x k=∃b,x=.int b/\k b:=by
 cases x <;> simp [mI]
theorem pO (x:V) (k:Str->Prop):mS x k=∃b,x=.str b/\k b:=by
 cases x <;> simp [mS]
theorem dY (x:V) (k:Addr->Prop):mR x k=∃b,x=.ref b/\k b:=by
 cases x <;> simp [mR]
theorem eK {n:Nat} (h:Nat.ble n 1000=true):n<=sizeLine:=kN (Nat.le_of_ble_eq_true h) Zd
theorem fA {n:Nat} (h:n<=1000):n<=sizeLine:=kN h Zd
section
variable {X:Cx} {a b c e:Expr} {ta tb tc te:TE} {pos:Pos}
def vr (i:Nat):TE:=fun σ H Q=>match σ[i]? with | some (some v)=>Q v H | _=>False
theorem aAb (i:Nat):vr i=To i:=by
 funext σ H Q
 unfold vr To;apply propext
 cases σ[i]? with
 | none=>simp
 | some o=>cases o <;> simp
theorem xv (i:Nat) {x:Str} {pos:Pos} (hN:X.N[i]?=some x:=by rfl) (hv:Ys X.env.scope x:=by first | exact Or.inl rfl | exact Or.inr (Or.inl rfl) | exact Or.inr (Or.inr rfl)) (hd:(x == ("__debug__":Str))=false:=by decide)
  (hcd:(x == ("__classdict__":Str))=false:=by decide):PE X (.Name x pos) (vr i):=by
 rw[aAb];exact Tp hN hv hd hcd
theorem OpR.imp {f:Value->Value->Sem Value} {r r':R2} (h:OpR X f r) (hi:∀x y H Q,r' x y H Q->r x y H Q):OpR X f r':=fun pins s σ H x y v u Q I rx ry q=>h pins s σ H x y v u Q I rx ry (hi x y H Q q)
theorem UnR.imp {f:Value->Sem Value} {r r':V->Hp->VK->Prop} (h:UnR X f r) (hi:∀x H Q,r' x H Q->r x H Q):UnR X f r':=fun pins s σ H x v Q I rx q=>h pins s σ H x v Q I rx (hi x H Q q)
theorem CallR.imp {f:Value} {r r':List V->Hp->VK->Prop} (h:CallR X f r) (hi:∀xs H Q,r' xs H Q->r xs H Q):CallR X f r':=fun pins s σ H xs us Q I rs q=>h pins s σ H xs us Q I rs (hi xs H Q q)
theorem IxR.imp {r r':R2} (h:IxR X r) (hi:∀x y H Q,r' x y H Q->r x y H Q):IxR X r':=fun value slice pins s σ H x y v u Q I rx ry q=>h value slice pins s σ H x y v u Q I rx ry (hi x y H Q q)
theorem SlR.imp {r r':V->Option Int->Option Int->Hp->VK->Prop} (h:SlR X r) (hi:∀x l u H Q,r' x l u H Q->r x l u H Q):SlR X r':=fun pins s σ H x v vl vu lo hi' sl Q I rx hs pl pu q=>h pins s σ H x v vl vu lo hi' sl Q I rx hs pl pu (hi x lo hi' H Q q)
def m2 (C:Int->Int->Prop) (g:Int->Int->V):R2:=fun x y H Q=>mI x fun i=>mI y fun j=>C i j/\Q (g i j) H
def yT (g:Int->Int->V):R2:=fun x y H Q=>mI x fun i=>mI y fun j=>Q (g i j) H
theorem jY {g:Int->Int->V} (x y:V) (H:Hp) (Q:VK) (h:yT g x y H Q):No g x y H Q:=by
 unfold yT at h;rw[lI]at h;obtain⟨i,rfl,h⟩:=h
 rw[lI]at h;obtain⟨j,rfl,h⟩:=h
 exact⟨i,j,rfl,rfl,h⟩
theorem uB {C:Int->Int->Prop} {g:Int->Int->V} (x y:V) (H:Hp) (Q:VK) (h:m2 C g x y H Q):rI C g x y H Q:=by
 unfold m2 at h;rw[lI]at h;obtain⟨i,rfl,h⟩:=h
 rw[lI]at h;obtain⟨j,rfl,hc,h⟩:=h
 exact⟨i,j,rfl,rfl,hc,h⟩
theorem aAc:OpR X (binaryOp .Add) (yT fun i j=>.int (i+j)):=Um.imp jY
theorem aAd:OpR X (binaryOp .Sub) (yT fun i j=>.int (i - j)):=Uo.imp jY
theorem aAe:OpR X (binaryOp .Mult) (m2 CMul fun i j=>.int (i*j)):=Up.imp uB
theorem aAf:OpR X (binaryOp .Mod) (m2 (fun _ j=>0<j) fun i j=>.int (i % j)):=Uq.imp uB
theorem aAg:OpR X (binaryOp .Pow) (m2 Ul fun i j=>.int (i ^ j.toNat)):=Ur.imp uB
theorem aBA:OpR X (compareOp .Lt) (yT fun i j=>.bl (decide (i<j))):=Rz.imp jY
theorem aBB:OpR X (compareOp .LtE) (yT fun i j=>.bl (decide (i<=j))):=Zh.imp jY
theorem aBC:OpR X (compareOp .Gt) (yT fun i j=>.bl (decide (j<i))):=Zi.imp jY
theorem aBD:OpR X (compareOp .GtE) (yT fun i j=>.bl (decide (j<=i))):=Sb.imp jY
def Im:R2:=fun x y H Q=>mS x fun i=>mS y fun j=>i.length+j.length<=sizeLine/\Q (.str (i++j)) H
theorem Vm:OpR X (binaryOp .Add) Im:=yE.imp fun x y H Q h=>by
 unfold Im at h;rw[pO]at h;obtain⟨i,rfl,h⟩:=h
 rw[pO]at h;obtain⟨j,rfl,hc,h⟩:=h
 exact⟨i,j,rfl,rfl,hc,h⟩
def mEq:R2:=fun x y H Q=>match x,y with
 | .int i,.int j=>Q (.bl (decide (i=j))) H
 | .str i,.str j=>Q (.bl (decide (i=j))) H
 | .bl i,.bl j=>Q (.bl (decide (i=j))) H
 | .non,.non=>Q (.bl true) H
 | .int _,.non=>Q (.bl false) H | .non,.int _=>Q (.bl false) H
 | .str _,.non=>Q (.bl false) H | .non,.str _=>Q (.bl false) H
 | .bl _,.non=>Q (.bl false) H | .non,.bl _=>Q (.bl false) H
 | .int _,.str _=>Q (.bl false) H | .str _,.int _=>Q (.bl false) H
 | .bl _,.str _=>Q (.bl false) H | .str _,.bl _=>Q (.bl false) H
 | _,_=>False
def mNe:R2:=fun x y H Q=>match x,y with
 | .int i,.int j=>Q (.bl (!decide (i=j))) H
 | .str i,.str j=>Q (.bl (!decide (i=j))) H
 | .bl i,.bl j=>Q (.bl (!decide (i=j))) H
 | .non,.non=>Q (.bl false) H
 | .int _,.non=>Q (.bl true) H | .non,.int _=>Q (.bl true) H
 | .str _,.non=>Q (.bl true) H | .non,.str _=>Q (.bl true) H
 | .bl _,.non=>Q (.bl true) H | .non,.bl _=>Q (.bl true) H
 | .int _,.str _=>Q (.bl true) H | .str _,.int _=>Q (.bl true) H
 | .bl _,.str _=>Q (.bl true) H | .str _,.bl _=>Q (.bl true) H
 | _,_=>False
theorem aBF:OpR X (compareOp .Eq) mEq:=Rx.imp fun x y H Q h=>by
 unfold mEq at h;unfold rEq;split at h <;> first | exact h.elim | (refine⟨rfl,?_⟩;first | simpa using h | exact h)
theorem aBG:OpR X (compareOp .NotEq) mNe:=Ry.imp fun x y H Q h=>by
 unfold mNe at h;unfold rNe;split at h <;> first | exact h.elim | (refine⟨rfl,?_⟩;first | simpa using h | exact h)
def Vn (neg:Bool):R2:=fun x y H Q=>mS x fun i=>mS y fun j=>∃c,i=tx [c]/\Q (.bl (if neg then !decide (c∈j.cps.toList) else decide (c∈j.cps.toList))) H
theorem aAh:OpR X (compareOp .In) (Vn false):=Dh.imp fun x y H Q h=>by
 unfold Vn at h;rw[pO]at h;obtain⟨i,rfl,h⟩:=h
 rw[pO]at h;obtain⟨j,rfl,c,rfl,h⟩:=h
 refine⟨_,j,rfl,rfl,?_⟩
 have e:=StrLaws.found_one j c
 have e':(!(Builtin.Str.occurrences j (tx [c]) 0 j.length 1).isEmpty)=decide (c∈j.cps.toList):=e
 rw[e'];exact h
theorem aAi:OpR X (compareOp .Is) (fun x y H Q=>match y with | .non=>Q (.bl (decide (x=.non))) H | _=>False):=Ut.imp fun x y H Q h=>by
 cases y <;> first | exact⟨rfl,h⟩ | exact h.elim
theorem Vo:OpR X (compareOp .IsNot) (fun x y H Q=>match y with | .non=>Q (.bl (!decide (x=.non))) H | _=>False):=Nq.imp fun x y H Q h=>by
 cases y <;> first | exact⟨rfl,h⟩ | exact h.elim
def mT (t:TE):TT:=fun σ H Q=>t σ H fun x H'=>mB x fun k=>Q k H'
theorem Sj (t:TE):mT t=Ak t:=by
 funext σ H Q
 unfold mT Ak;congr 1
 funext x H'
 exact sC x _
theorem Vp (t:TE):mT t=tB t:=by
 funext σ H Q
 unfold mT tB;congr 1
 funext x H'
 exact sC x _
theorem aAj {op:CmpOp} {r:R2} (ho:OpR X (compareOp op) r) (ha:PE X a ta) (hb:PE X b tb) (hm:behindInMarks op b=false:=by first | exact tJ _ | rfl):PT X (.Compare a [op] [b] pos) (mT (Gj r ta tb)):=by
 rw[Sj];exact Nt ho ha hb hm
theorem aAk {op:CmpOp} {r:R2} (ho:OpR X (compareOp op) r) (ha:PE X a ta) (hb:PE X b tb) (hm:behindInMarks op b=false:=by first | exact tJ _ | rfl):PE X (.Compare a [op] [b] pos) (Gj r ta tb):=Nr ho ha hb hm
def nD (r r':R2) (ta tb tc:TE):TE:=fun σ H Q=>ta σ H fun x H1=>tb σ H1 fun y H2=>r x y H2 fun z H3=>mB z fun k=>(if k=true then tc σ H3 fun w' H4=>r' y w' H4 Q else Q (.bl false) H3)
theorem sD (r r':R2) (ta tb tc:TE):nD r r' ta tb tc=tK r r' ta tb tc:=by
 funext σ H Q
 unfold nD tK;congr 1
 funext x H1
 congr 1
 funext y H2
 congr 1
 funext z H3
 exact sC z _
theorem Ou {op op':CmpOp} {r r':R2} (ho:OpR X (compareOp op) r) (ho':OpR X (compareOp op') r') (ha:PE X a ta) (hb:PE X b tb) (hc:PE X c tc)
  (hm:lastMarks [op,op'] [b,c]=false:=by with_unfolding_all rfl):PE X (.Compare a [op,op'] [b,c] pos) (nD r r' ta tb tc):=by
 rw[sD];exact Gm ho ho' ha hb hc hm
theorem Ov {op op':CmpOp} {r r':R2} (ho:OpR X (compareOp op) r) (ho':OpR X (compareOp op') r') (ha:PE X a ta) (hb:PE X b tb) (hc:PE X c tc)
  (hm:lastMarks [op,op'] [b,c]=false:=by with_unfolding_all rfl):PT X (.Compare a [op,op'] [b,c] pos) (mT (nD r r' ta tb tc)):=by
 rw[Sj,sD];exact Gn ho ho' ha hb hc hm
theorem aAl {t:TE} (h:PE X e t) (he:∀whole,isTrue e X.env whole=(do let v ← whole;standAt e.pos;holding [v] (truthy v)):=by intro _;rfl):PT X e (mT t):=by
 rw[Vp];exact Tt h he
def Bb (ta tb:TE):TE:=fun σ H Q=>ta σ H fun x H1=>mB x fun c=>if c=true then tb σ H1 Q else Q (.bl false) H1
def Ow (ta tb:TE):TE:=fun σ H Q=>ta σ H fun x H1=>mB x fun c=>if c=true then Q (.bl true) H1 else tb σ H1 Q
def Bc (ta:TE):TE:=fun σ H Q=>ta σ H fun x H1=>mB x fun c=>Q (.bl (!c)) H1
theorem aAm {rest:List Expr} (ha:PE X a ta) (hb:PE X (.BoolOp .And (b::rest) pos) tb):PE X (.BoolOp .And (a::b::rest) pos) (Bb ta tb):=by
 have:Bb ta tb=Fy ta tb:=by
  funext σ H Q;unfold Bb Fy;congr 1;funext x H1;exact sC x _
 rw[this];exact Tz ha hb
theorem aBH {rest:List Expr} (ha:PE X a ta) (hb:PE X (.BoolOp .Or (b::rest) pos) tb):PE X (.BoolOp .Or (a::b::rest) pos) (Ow ta tb):=by
 have:Ow ta tb=Tx ta tb:=by
  funext σ H Q;unfold Ow Tx;congr 1;funext x H1;exact sC x _
 rw[this];exact Yw ha hb
theorem aAn (ha:PE X a ta):PE X (.UnaryOp .Not a pos) (Bc ta):=by
 have:Bc ta=Fz ta:=by
  funext σ H Q;unfold Bc Fz;congr 1;funext x H1;exact sC x _
 rw[this];exact Ua ha
theorem aAo (ha:PE X a ta):PE X (.UnaryOp .USub a pos) (tUn (fun x H Q=>mI x fun i=>Q (.int (-i)) H) ta):=Ze (Us.imp fun x H Q h=>by
 rw[lI]at h;obtain⟨i,rfl,h⟩:=h
 exact⟨i,rfl,h⟩) ha
def Ox (K:W.Frag):R2:=fun x y H Q=>mR x fun p=>mI y fun i=>∃xs,SqL K H p xs/\∃v,mW xs i=some v/\Q v H
def Oy (K:W.Frag):R2:=fun x y H Q=>mR x fun p=>mI y fun i=>∃xs,SqT K H p xs/\∃v,mW xs i=some v/\Q v H
def Vq:R2:=fun x y H Q=>mS x fun z=>mI y fun i=>z.length<=sizeLine/\∃c,mW z.cps.toList i=some c/\Q (.str (tx [c])) H
theorem Vr:IxR X (Ox X.K):=Oc.imp fun x y H Q h=>by
 unfold Ox at h;rw[dY]at h;obtain⟨p,rfl,h⟩:=h
 rw[lI]at h;obtain⟨i,rfl,xs,hq,v,hv,h⟩:=h
 exact⟨p,xs,i,v,rfl,rfl,hq,hv,h⟩
theorem aAp:IxR X (Oy X.K):=Va.imp fun x y H Q h=>by
 unfold Oy at h;rw[dY]at h;obtain⟨p,rfl,h⟩:=h
 rw[lI]at h;obtain⟨i,rfl,xs,hq,v,hv,h⟩:=h
 exact⟨p,xs,i,v,rfl,rfl,hq,hv,h⟩
theorem aAq:IxR X Vq:=Vb.imp fun x y H Q h=>by
 unfold Vq at h;rw[pO]at h;obtain⟨z,rfl,h⟩:=h
 rw[lI]at h;obtain⟨i,rfl,hz,c,hc,h⟩:=h
 exact⟨z,i,c,rfl,rfl,hz,hc,h⟩
theorem aBI {r:R2} (hr:IxR X r) (ha:PE X a ta) (hb:PE X b tb) (hs:tO b:=by exact fun _ _=>rfl):PE X (.Subscript a b pos) (Gj r ta tb):=Zt hr ha hb hs
def Bd (t:TE):TO:=fun σ H Q=>t σ H fun x H1=>mI x fun i=>Q (some i) H1
theorem Vs (h:PE X e te):PO X (some e) (Bd te):=by
 have:Bd te=Gw te:=by
  funext σ H Q;unfold Bd Gw;congr 1;funext x H1;exact lI x _
 rw[this];exact Oa h
def Vt:V->Option Int->Option Int->Hp->VK->Prop:=fun x lo hi H Q=>mS x fun z=>z.length<=sizeLine/\Q (.str (tx (dO z.cps.toList lo hi))) H
theorem aAr:SlR X Vt:=Vj.imp fun x l u H Q h=>by
 unfold Vt at h;rw[pO]at h;obtain⟨z,rfl,hz,h⟩:=h
 exact⟨z,rfl,hz,h⟩
def Oz (K:W.Frag):V->Option Int->Option Int->Hp->VK->Prop:=fun x lo hi H Q=>mR x fun a=>∃xs,SqL K H a xs/\∀p,H p=none->Q (.ref p) (aI H p (.lst (dO xs lo hi)))
theorem Vu:SlR X (Oz X.K):=Od.imp fun x l u H Q h=>by
 unfold Oz at h;rw[dY]at h;obtain⟨a,rfl,xs,hq,h⟩:=h
 exact⟨a,xs,rfl,hq,h⟩
theorem Vv:CallR X (.builtin "len") (fun vs H Q=>match vs with | [.str z]=>z.length<=sizeLine/\Q (.int z.length) H | _=>False):=tV.imp fun vs H Q h=>by
 split at h
 ·rename_i z
  exact⟨z,rfl,h.1,h.2⟩
 ·exact h.elim
theorem Vw:CallR X (.builtin "len") (fun vs H Q=>match vs with | [.ref p]=>∃ys,(SqL X.K H p ys∨SqT X.K H p ys)/\Q (.int ys.length) H | _=>False):=tT.imp fun vs H Q h=>by
 split at h
 ·rename_i p
  obtain⟨ys,hq,h⟩:=h
  exact⟨p,ys,rfl,hq,h⟩
 ·exact h.elim
theorem aAs:CallR X (.type "int") (fun vs H Q=>match vs with | [.bl k]=>Q (.int (if k then 1 else 0)) H | _=>False):=Dm.imp fun vs H Q h=>by
 split at h
 ·rename_i k
  exact .inr ⟨k,rfl,h⟩
 ·exact h.elim
end
inductive Kd where | non | bl | int | str | lst | tup | dct
def Pa:Kd->String | .non=>"NoneType" | .bl=>"bool" | .int=>"int" | .str=>"str" | .lst=>"list" | .tup=>"tuple" | .dct=>"dict"
def Sk (H:Hp):V->Kd->Prop
 | .non,.non=>True | .bl _,.bl=>True | .int _,.int=>True | .str _,.str=>True
 | .ref a,.lst=>(∃xs,H a=some (.lst xs))∨∃o xs,H a=some (.frz o (.lst xs))
 | .ref a,.tup=>∃xs,H a=some (.tup xs)
 | .ref a,.dct=>∃kvs,H a=some (.dK kvs)
 | _,_=>False
def isK:Kd->Kd->Bool | .non,.non=>true | .bl,.bl=>true | .int,.int=>true | .int,.bl=>true | .str,.str=>true | .lst,.lst=>true | .tup,.tup=>true | .dct,.dct=>true | _,_=>false
theorem aAu (K:W.Frag) (want k:Kd):W.kitOne K (.type (Pa k)) (.type (Pa want))=some (isK want k):=by
 cases want <;> cases k <;> first | rfl | kernel_rfl
theorem aBJ {K:W.Frag} {H:Hp} {x:V} {k:Kd} (h:Sk H x k):lF K H x (.type (Pa k)):=by
  cases x <;> cases k <;> first
    | exact h.elim
    | exact .non
    | exact .bl _
    | exact .int _
    | exact .str _
    | (obtain⟨xs,e⟩:=h;exact .tup e)
    | (obtain⟨xs,e⟩:=h;exact .dK e)
    | (rcases h with⟨xs,e⟩ | ⟨o,xs,e⟩
       . exact .lst e
       . exact .frz e)
def Vx (want:Kd):List V->Hp->VK->Prop:=fun vs H Q=>match vs with
 | [x,y]=>y=.ty (Pa want)/\∃k,Sk H x k/\Q (.bl (isK want k)) H
 | _=>False
section
variable {X:Cx}
theorem aAv (want:Kd):CallR X (.builtin "isinstance") (Vx want):=Ih.imp fun vs H Q h=>by
 unfold Vx at h;split at h
 ·rename_i x y
  obtain⟨rfl,k,hk,h⟩:=h
  exact⟨x,_,_,_,rfl,aBJ hk,aAu X.K want k,h⟩
 ·exact h.elim
variable {e:Expr} {te:TE} {p p2 pos:Pos} {T:Str}
def Vy (want:Kd) (te:TE):TE:=fun σ H Q=>te σ H fun x H1=>∃k,Sk H1 x k/\Q (.bl (isK want k)) H1
theorem aAw (want:Kd) (he:PE X e te) (hg:Gl X "isinstance") (hm:X.mg "isinstance"=none) (hgT:Gl X T) (hmT:X.mg T=none) (hT:bootBuiltins T=some (.type (Pa want)))
  (hs:starEach [e,.Name T p2] X.env=(false,eval e X.env)::starEach [.Name T p2] X.env:=by rfl) (hs2:starEach [.Name T p2] X.env=(false,eval (.Name T p2) X.env)::starEach [] X.env:=by rfl)
  (hn:T≠"__name__":=by decide) (hd:(T == ("__debug__":Str))=false:=by decide) (hpl:(backTo pos (starEach [.Name T p2] X.env)).any (·.1)=false:=by rfl) :
  PE X (.Call (.Name "isinstance" p) [e,.Name T p2] [] pos) (Vy want te):=by
 have h:=vZ (X:=X) (x:="isinstance") (p:=p) (pos:=pos) (aAv want) hg hm PyProof.Rows.boot_isinstance (tM he (tM (Af (v:=.ty (Pa want)) (pos:=p2) hgT hmT hT rfl hn hd) tL hs2) hs) Zd Zd hs hpl
 intro pins s σ H Q I q;exact h pins s σ H Q I (by
  show te σ H _
  have:(fun(x:V) (H1:Hp)=>Vx want [x,.ty (Pa want)] H1 Q)=(fun x H1=>∃k,Sk H1 x k/\Q (.bl (isK want k)) H1):=by
   funext x H1
   apply propext
   constructor
   ·rintro⟨_,z⟩;exact z
   ·intro z;exact⟨rfl,z⟩
  exact this ▸ q)
end
structure aG (P:Program) (w:World) (K:W.Frag) (mg:Str->Option Value) (base:Heap) (n:Nat) (x:Str) (ps:List Str) (sp:Sp):Prop where
 ex:∃(f:Addr) (fd:FuncData),iE P w K mg base qW n f fd ps sp/\mg x=some (.ref f)/\W.keepIn K (.ref f)=true/\Binds K fd ps []
section
variable {X:Cx} {n:Nat} {x:Str} {ps:List Str} {sp:Sp} {p pos:Pos} {e:Expr} {es:List Expr} {t:TA}
def tFn (sp:Sp) (t:TA):TE:=fun σ H Q=>t σ H fun vs H1=>sp vs H1 Q E0
theorem aBL (c:aG X.prog X.w X.K X.mg X.base n x ps sp) (hr:Room n X.A) (hg:Gl X x) (ha:PA X (e::es) t) (hdb:(x == ("__debug__":Str))=false:=by decide)
  (he:starEach (e::es) X.env=(false,eval e X.env)::starEach es X.env:=by rfl) (hpl:(backTo pos (starEach es X.env)).any (·.1)=false:=by rfl):PE X (.Call (.Name x p) (e::es) [] pos) (tFn sp t):=by
 obtain⟨f,fd,F,hm,hk,hb⟩:=c.ex
 have h:=Nw (X:=X) (p:=p) (pos:=pos) (E:=E0) F hr hg hm hk hb (dvs:=[]) .nil Av ha hdb he hpl
 intro pins s σ H Q I q;exact h pins s σ H Q I (by
  show t σ H _
  have:(fun(vs:List V) (H1:Hp)=>sp (vs++[]) H1 Q E0)=(fun vs H1=>sp vs H1 Q E0):=by
   funext vs H1;rw[List.append_nil]
  rw[this];exact q)
end
structure DefAt (K:W.Frag) (mg:Str->Option Value) (x:Str) (st:Stmt) (ps:List Str):Prop where
 ex:∃(f:Addr) (fd:FuncData),Fun K x x st f fd/\mg x=some (.ref f)/\Binds K fd ps []
theorem DefAt.ok {P:Program} {w:World} {K:W.Frag} {mg:Str->Option Value} {base:Heap} {x:Str} {st:Stmt} {N ps:List Str} {k:Nat} {sp:Sp} (D:DefAt K mg x st ps) (S:aJ N ps (aB st)) (len:∀vs H Q E,sp vs H Q E->vs.length=ps.length)
  (hbody:∀(f:Addr) (cdv:Value) (A:Around) (outer:List Env) (s:Shared) (H:Hp) (vs:List V) (Q:VK) (E:XK),Room k (A.deeper (envOfC x (aB st) s.heap.objs.size f cdv))->sp vs H Q E →
   ∃t,PSs (fL qW P w K mg base N x (aB st) f cdv A outer s H E).nox (aV st) t/\t {nx:=fun _ H'=>Q .non H',rt:=Q } (start N vs) H):aG P w K mg base (k+1) x ps sp:=by
 obtain⟨f,fd,F,hm,hb⟩:=D.ex
 exact⟨f,fd,F.ok S len (hbody f),hm,F.kp,hb⟩
def Io (sc0:Scope) (N0:List Str) (scope:Scope) (N:List Str) (js:List (Option Nat)):Bool:=
 (scope.kind == .function)&&scope.names.all (fun y=>y.2 != .cell)&&scope.names.all (fun y=>y.2 != .local||scope.names.lookup y.1 == some .local)&&(js.length == N.length)&&
 (List.range js.length).all (fun i=>match js[i]? with | some (some j)=>(match N[i]? with | some x=>N0[j]? == some x&&scope.names.lookup x == some .free | none=>false) | _=>true)&&
 scope.names.all (fun y=>y.2 != .free||sc0.names.lookup y.1 == some .cell||sc0.names.lookup y.1 == some .free)
theorem CompScope.by {X:Cx} {scope:Scope} {N:List Str} {js:List (Option Nat)} (sc0:Scope) (N0:List Str) (h0:X.env.scope=sc0) (hN:X.N=N0) (ok:Io sc0 N0 scope N js=true):CompScope X scope N js:=by
 unfold Io at ok;simp only [Bool.and_eq_true]at ok
 obtain⟨⟨⟨⟨⟨h1,h2⟩,h3⟩,h4⟩,h5⟩,h6⟩:=ok
 refine⟨by simpa using h1,fun y hy=>?_,fun y hy hk=>?_,by simpa using h4,fun i j e=>?_,fun y hy hk=>?_⟩
 ·have:=List.all_eq_true.mp h2 y hy
  simpa using this
 ·have:=List.all_eq_true.mp h3 y hy
  rw[hk]at this;simpa using this
 ·have hi:i<js.length:=(Zgs.mp e).1
  have:=List.all_eq_true.mp h5 i (List.mem_range.mpr hi)
  rw[e]at this;cases q:N[i]? with
  | none=>simp [q]at this
  | some x=>
   simp only [q,Bool.and_eq_true,beq_iff_eq]at this
   exact⟨x,rfl,by rw[hN];exact this.1,this.2⟩
 ·have:=List.all_eq_true.mp h6 y hy
  rw[hk]at this;have z:(sc0.names.lookup y.1 == some .cell)=true∨(sc0.names.lookup y.1 == some .free)=true:=by simpa using this
  have ek:X.env.kindOf y.1=sc0.names.lookup y.1:=by rw[<- h0];rfl
  rw[ek];rcases z with z | z
  ·exact .inl (by simpa using z)
  ·exact .inr (by simpa using z)
end L2
namespace L2
open PySem PySem.Spec PyProof.Rows
def aM:Expr->Bool | .Starred _ _=>false | _=>true
theorem bB {e:Expr} {es:List Expr} {env:Env} (h:aM e=true):starEach (e::es) env=(false,eval e env)::starEach es env:=by
 cases e <;> first | rfl | cases h
theorem fB {es:List Expr} {env:Env} {pos:Pos} (h:es.all aM=true):(backTo pos (starEach es env)).any (·.1)=false:=by
 induction es with
 | nil=>rfl
 | cons e es ih=>
  rw[List.all_cons,Bool.and_eq_true]at h;rw[bB h.1];have:=ih h.2
  show(false||(backTo pos (starEach es env)).any (·.1))=false
  rw[this];rfl
section
variable {X:Cx} {e o:Expr} {es:List Expr} {te to:TE} {t:TA} {x:Str} {p pos apos cpos:Pos} {id T:String} {r:List V->Hp->VK->Prop}
theorem uC (ha:PE X e te) (hr:PA X es t) (h:aM e=true:=by rfl):PA X (e::es) (nX te t):=tM ha hr (bB h)
theorem Pb (hc:CallR X (.builtin id) r) (hg:Gl X x) (hm:X.mg x=none) (hv:bootBuiltins x=some (.builtin id)) (ha:PA X (e::es) t) (hn:x≠"__name__":=by decide) (hdb:(x == ("__debug__":Str))=false:=by decide)
  (h1:aM e=true:=by rfl) (h2:es.all aM=true:=by rfl):PE X (.Call (.Name x p) (e::es) [] pos) (Yi r t):=vZ hc hg hm hv ha hn hdb (bB h1) (fB h2)
theorem Ip (hc:CallR X (.type T) r) (hg:Gl X x) (hm:X.mg x=none) (hv:bootBuiltins x=some (.type T)) (ha:PA X (e::es) t) (hn:x≠"__name__":=by decide) (hdb:(x == ("__debug__":Str))=false:=by decide)
  (h1:aM e=true:=by rfl) (h2:es.all aM=true:=by rfl):PE X (.Call (.Name x p) (e::es) [] pos) (Yi r t):=Dq hc hg hm hv ha hn hdb (bB h1) (fB h2)
theorem aAx {n:Nat} {ps:List Str} {sp:Sp} (c:aG X.prog X.w X.K X.mg X.base n x ps sp) (hr:Room n X.A) (hg:Gl X x) (ha:PA X (e::es) t) (hdb:(x == ("__debug__":Str))=false:=by decide)
  (h1:aM e=true:=by rfl) (h2:es.all aM=true:=by rfl):PE X (.Call (.Name x p) (e::es) [] pos) (tFn sp t):=aBL c hr hg ha hdb (bB h1) (fB h2)
theorem Iq {es:List Expr} {env:Env} {cpos:Pos} (h:es.all aM=true):(backTo cpos (starEach es env)).all (fun x=>!x.1)=true:=by
 induction es with
 | nil=>rfl
 | cons e es ih=>
  rw[List.all_cons,Bool.and_eq_true]at h;rw[bB h.1];show(!false&&(backTo cpos (starEach es env)).all (fun x=>!x.1))=true
  rw[ih h.2];rfl
theorem aBM {name:Str} {r:V->List V->Hp->VK->Prop} (pa:PlainAttrs T) (slot:Slot T name id) (hty:typeOf (.builtin id)=pure (.type "method_descriptor")) (hm:Zr X id r) (ho:PE X o to) (ha:PA X (e::es) t)
  (hbase:attributeBase o name X.env (eval o X.env)=eval o X.env:=by rfl) (hline:(apos.endLine == cpos.line)=true:=by rfl) (h1:aM e=true:=by rfl) (h2:es.all aM=true:=by rfl) (hn:es.length+1<30:=by decide) :
  PE X (.Call (.Attribute o name apos) (e::es) [] cpos) (tBM X.K T r to t):=by
 refine Zu pa slot hty hm ho ha hbase ?_ hline (bB h1) (fB h2)
 rw[Iq (by rw[List.all_cons,h1,h2];rfl)]
 show(true&&true&&decide (es.length+1+0+0<30))=true
 simp
 omega
theorem Vz {p2:Pos} {T:Str} (want:Kd) (he:PE X e te) (hg:Gl X "isinstance") (hm:X.mg "isinstance"=none) (hgT:Gl X T) (hmT:X.mg T=none) (hT:bootBuiltins T=some (.type (Pa want)))
  (hn:T≠"__name__":=by decide) (hd:(T == ("__debug__":Str))=false:=by decide) (h1:aM e=true:=by rfl):PE X (.Call (.Name "isinstance" p) [e,.Name T p2] [] pos) (Vy want te):=
 aAw want he hg hm hgT hmT hT (bB h1) (bB rfl) hn hd (fB rfl)
end
end L2
namespace L2
open PySem PySem.Spec PyProof.Rows
theorem aO:bootBuiltins "len"=some (.builtin "len"):=by decide +kernel
theorem eV:bootBuiltins "isinstance"=some (.builtin "isinstance"):=by decide +kernel
theorem Ir:bootBuiltins "all"=some (.builtin "all"):=by decide +kernel
theorem Wa:bootBuiltins "sum"=some (.builtin "sum"):=by decide +kernel
theorem Eb:bootBuiltins "sorted"=some (.builtin "sorted"):=by decide +kernel
theorem pP:bootBuiltins "max"=some (.builtin "max"):=by decide +kernel
theorem Be:bootBuiltins "list"=some (.type "list"):=by decide +kernel
theorem Iu:bootBuiltins "str"=some (.type "str"):=by decide +kernel
theorem uD:bootBuiltins "int"=some (.type "int"):=by decide +kernel
theorem uE:bootBuiltins "bool"=some (.type "bool"):=by decide +kernel
theorem wG:bootBuiltins "tuple"=some (.type "tuple"):=by decide +kernel
theorem Pd:bootBuiltins "dict"=some (.type "dict"):=by decide +kernel
structure Dk (H:Hp) (d b:Addr):Prop where
 ex:∃(ns:List Int) (s k:Int),H d=some (.lst [.ref b,.int s,.int k])/\H b=some (.lst (ns.map V.int))/\ns.length<=63
def Kp (d b:Addr) (H H':Hp):Prop:=∀c o,H c=some o->c≠d->c≠b->H' c=some o
theorem Kp.refl {d b:Addr} {H:Hp}:Kp d b H H:=fun _ _ e _ _=>e
theorem Kp.trans {d b:Addr} {H H1 H2:Hp} (x:Kp d b H H1) (y:Kp d b H1 H2):Kp d b H H2:=fun c o e h1 h2=>y c o (x c o e h1 h2) h1 h2
theorem Kp.new {d b p:Addr} {H:Hp} {o:HO} (h:H p=none):Kp d b H (aI H p o):=fun c u e _ _=>by rw[aD (aE e h)];exact e
theorem Dk.new {d b p:Addr} {H:Hp} {o:HO} (x:Dk H d b) (h:H p=none):Dk (aI H p o) d b:=by
 obtain⟨ns,s,k,h1,h2,h3⟩:=x.ex
 exact⟨ns,s,k,by rw[aD (aE h1 h)];exact h1,by rw[aD (aE h2 h)];exact h2,h3⟩
def Iv (K:W.Frag):Sp:=fun vs H Q _=>∃(a:Addr) (ns:List Int),vs=[.ref a]/\SqL K H a (ns.map V.int)/\∀d b H',H d=none->H b=none->Dk H' d b->Same H H'->Q (.ref d) H'
end L2
namespace L2
theorem Wb {c:Bool} {A B:Prop} (h:c=true) (k:A):if c=true then A else B:=by rw[if_pos h];exact k
theorem Wc {c:Bool} {A B:Prop} (h:c=false) (k:B):if c=true then A else B:=by rw[if_neg (by rw[h];exact Bool.false_ne_true)];exact k
theorem aQ {c:Bool} {A B:Prop} (ht:c=true->A) (hf:c=false->B):if c=true then A else B:=by
 cases h:c with
 | true=>rw[if_pos rfl];exact ht h
 | false=>rw[if_neg Bool.false_ne_true];exact hf h
end L2
namespace L2
open PySem PySem.Spec PyProof.Rows
structure yU (J:It) (xs:List V) (A:Hp->Prop):Prop where
 go:∀i H,i<xs.length->A H->J.go i H
 yld:∀i H x H',i<xs.length->A H->J.yld i H x H'->H'=H/\xs[i]?=some x
 stop:∀H,A H->J.stop xs.length H
def sE (x:Str):List V:=x.cps.toList.map fun c=>V.str (tx [c])
theorem Pe (x:Str):yU (Its x) (sE x) (fun _=>True):=by
 have hl:(sE x).length=x.cps.size:=by simp [sE]
 refine⟨fun i H hi _=>by rw[hl]at hi;exact hi,fun i H v H' _ _ ⟨e,c,hc,ev⟩=>⟨e,?_⟩,fun H _=>by rw[hl];exact bQ _⟩
 subst ev;unfold sE;rw[jC,Array.getElem?_toList,hc];rfl
def jM (lo:Int) (n:Nat):List V:=(List.range n).map fun(i:Nat)=>V.int (lo+(i:Int))
theorem dZ (lo:Int) (n:Nat):yU (Itr lo n) (jM lo n) (fun _=>True):=by
 have hl:(jM lo n).length=n:=by simp [jM]
 refine⟨fun i H hi _=>by rw[hl]at hi;exact hi,fun i H v H' hi _ ⟨e,ev⟩=>⟨e,?_⟩,fun H _=>by rw[hl];exact bQ _⟩
 subst ev;rw[hl]at hi;unfold jM;rw[jC,List.getElem?_range hi];rfl
theorem dB (K:W.Frag) (a:Addr) (xs:List V):yU (Itl K a) xs (fun H=>SqL K H a xs):=
 ⟨fun i H hi h=>⟨xs,xs[i],h,by simp [hi]⟩,fun i H x H' _ h ⟨e,y⟩=>⟨e,y xs h⟩,fun H h=>⟨xs,h,bQ _⟩⟩
theorem lJ (K:W.Frag) (a:Addr) (xs:List V):yU (Itt K a) xs (fun H=>SqT K H a xs):=
 ⟨fun i H hi h=>⟨xs,xs[i],h,by simp [hi]⟩,fun i H x H' _ h ⟨e,y⟩=>⟨e,y xs h⟩,fun H h=>⟨xs,h,bQ _⟩⟩
theorem bT {J:It} {xs:List V} {A:Hp->Prop} {js:List (Option Nat)} {g:TG} {tt:TT} {te:TE} {σ:St} {H:Hp} {Q:List V->Hp->Prop} (S:yU J xs A) (hz:xs.length<=100000) (Pv:Nat->List V->Hp->Prop) (hA:∀i ys H,Pv i ys H->A H/\ys.length<=i) (h0:Pv 0 [] H)
  (hs:∀i x ys H,xs[i]?=some x->Pv i ys H->g x (tZ js σ) H fun σ2 H2=>tt σ2 H2 fun b H3=>if b=true then te σ2 H3 fun y H4=>Pv (i+1) (ys++[y]) H4 else Pv (i+1) ys H3)
  (hd:∀ys H,Pv xs.length ys H->Q ys H):pM js g tt te σ J H Q:=by
 refine⟨fun i m ys H=>m=xs.length - i/\i<=xs.length/\Pv i ys H,⟨xs.length,Zs,Nat.zero_le _,h0⟩,?_⟩
 rintro i m ys H ⟨rfl,hi,p⟩
 obtain⟨pa,hy⟩:=hA i ys H p
 by_cases hlt:i<xs.length
 ·refine .inr ⟨S.go i H hlt pa,oZ (m:=100000) Zo Zd,Pv (i+1),fun ys' H' p'=>⟨xs.length - (i+1),Zo,rfl,hlt,p'⟩,fun x H' y=>?_⟩
  obtain⟨rfl,hx⟩:=S.yld i H x H' hlt pa y
  exact hs i x ys H' hx p
 ·have e:i=xs.length:=by omega
  subst e;exact .inl ⟨S.stop H pa,hd ys H p⟩
theorem Ec {J:It} {xs:List V} {A:Hp->Prop} {js:List (Option Nat)} {g:TG} {tt:TT} {te:TE} {σ:St} {H:Hp} {Q:List V->Hp->Prop} (S:yU J xs A) (hz:xs.length<=100000) (p:V->Bool) (f:V->V) (hA:A H)
  (hs:∀(x:V) (ys:List V) (N:List V->Hp->Prop),x∈xs->(p x=true->N (ys++[f x]) H)->(p x=false->N ys H)->g x (tZ js σ) H fun σ2 H2=>tt σ2 H2 fun b H3=>if b=true then te σ2 H3 fun y H4=>N (ys++[y]) H4 else N ys H3)
  (hd:Q ((xs.filter p).map f) H):pM js g tt te σ J H Q:=by
 refine bT S hz (fun i ys H'=>ys=((xs.take i).filter p).map f/\H'=H) (fun i ys H' ⟨e,e2⟩=>⟨by rw[e2];exact hA,?_⟩) ⟨Zs,rfl⟩ (fun i x ys H' hx ⟨e,e2⟩=>?_) (fun ys H' ⟨e,e2⟩=>?_)
 ·rw[e,aZ];exact kN (List.length_filter_le _ _) (by rw[jD];exact Nat.min_le_left _ _)
 ·subst e2;have key:(xs.take (i+1)).filter p=(xs.take i).filter p++(if p x=true then [x] else []):=take_succ_filter p xs i x hx
  refine hs x ys (fun ys' H3=>ys'=((xs.take (i+1)).filter p).map f/\H3=H') (jW hx) (fun h=>⟨?_,rfl⟩) (fun h=>⟨?_,rfl⟩)
  ·rw[key,if_pos h,iB,e];rfl
  ·rw[key,if_neg (by rw[h];exact Bool.false_ne_true),List.append_nil,e]
 ·subst e2;rw[e,vR (bQ _)];exact hd
theorem fN {J:It} {xs:List V} {A:Hp->Prop} {g:TG} {tb:TS} {D:kK} {σ:St} {H:Hp} (S:yU J xs A) (Pv:Nat->St->Hp->Prop) (hA:∀i σ H,Pv i σ H->A H) (h0:Pv 0 σ H)
  (hs:∀(i:Nat) (x:V) σ H,xs[i]?=some x->Pv i σ H->g x σ H fun σ2 H2=>tb {D with nx:=Pv (i+1),ct:=Pv (i+1),bk:=D.nx } σ2 H2) (hd:∀ σ H,Pv xs.length σ H->D.nx σ H) :
  ∃W:Nat->Nat->St->Hp->Prop,(∃m,W 0 m σ H)/\∀i m σ H,W i m σ H →
   (J.stop i H/\D.nx σ H)∨(J.go i H/\∃N:St->Hp->Prop,(∀ σ' H',N σ' H'->∃m',m'<m/\W (i+1) m' σ' H')/\∀x H',J.yld i H x H'->g x σ H' fun σ2 H2=>tb {D with nx:=N,ct:=N,bk:=D.nx } σ2 H2):=by
 refine⟨fun i m σ H=>m=xs.length - i/\i<=xs.length/\Pv i σ H,⟨xs.length,Zs,Nat.zero_le _,h0⟩,?_⟩
 rintro i m σ H ⟨rfl,hi,p⟩
 have pa:=hA i σ H p
 by_cases hlt:i<xs.length
 ·refine .inr ⟨S.go i H hlt pa,Pv (i+1),fun σ' H' p'=>⟨xs.length - (i+1),Zo,rfl,hlt,p'⟩,fun x H' y=>?_⟩
  obtain⟨rfl,hx⟩:=S.yld i H x H' hlt pa y
  exact hs i x σ H' hx p
 ·have e:i=xs.length:=by omega
  subst e;exact .inl ⟨S.stop H pa,hd σ H p⟩
end L2
namespace L2
open PySem
theorem aF {H:Hp} {p:Addr} {o:HO} (h:H p=none):Same H (aI H p o):=fun b u q=>by rw[aD (aE q h)];exact q
theorem pQ {α:Type} (xs:List α) (k:Nat):dO xs none (some (k:Int))=xs.take k:=by
 unfold dO;rw[HT.sIx_none,HT.sIx_nat,List.drop_zero,Nat.sub_zero,<- List.take_take,vR (bQ _)]
theorem lK {α:Type} (xs:List α) (k:Nat):dO xs (some (k:Int)) none=xs.drop k:=by
 unfold dO;rw[HT.sIx_none,HT.sIx_nat];by_cases h:k<=xs.length
 ·rw[Nat.min_eq_left h,vR (by rw[List.length_drop];exact bQ _)]
 ·rw[Nat.min_eq_right Zo,List.drop_of_length_le (bQ _),List.drop_of_length_le Zo,List.take_nil]
theorem uF {α β:Type} (f:α->β) (xs:List α) (lo hi:Option Int):dO (xs.map f) lo hi=(dO xs lo hi).map f:=by
 unfold dO;rw[aZ,<- List.map_drop,<- List.map_take]
end L2
namespace L2
open PySem PySem.Spec PyProof.Rows
theorem aN {H:Hp} {p q:Addr} {o u:HO} (h:H p=some o) (hq:H q=none):aI H q u p=some o:=by rw[aD (aE h hq)];exact h
theorem Iw {α:Type} {xs:List α} {i:Int} (h0:0<=i) (h1:i<xs.length):∃v,mW xs i=some v/\v∈xs:=by
 obtain⟨j,rfl⟩:=Int.eq_ofNat_of_zero_le h0
 have hj:j<xs.length:=by omega
 exact⟨xs[j],bJ (by simp [hj]),List.getElem_mem hj⟩
theorem Bf (g:Array Nat):∀(ps:List Str) (acc:Array Nat),(ps.foldl (fun acc p=>acc++g++p.cps) acc).toList=acc.toList++(ps.map fun p=>g.toList++p.cps.toList).flatten
 | [],acc=>by simp
 | p::ps,acc=>by
  rw[List.foldl_cons,Bf g ps];simp
theorem Ix (ps:List Str):(Txt.join (tx []) ps).cps.toList=(ps.map fun p=>p.cps.toList).flatten:=by
 unfold Txt.join Builtin.Str.glued;rw[Bf];cases ps with
 | nil=>simp [Str.empty]
 | cons p ps=>simp
theorem Pf (ps:List Str):Txt.join (tx []) ps=tx (ps.map fun p=>p.cps.toList).flatten:=by rw[<- Ix,yR]
theorem yV (ts:List Nat):Txt.join (tx []) (ts.map fun c=>tx [c])=tx ts:=by
 rw[Pf,List.map_map];congr 1
 congr 1
 induction ts with
 | nil=>rfl
 | cons c r ih=>rw[List.map_cons,List.flatten_cons,ih];rfl
theorem Iy:("":Str)=tx []:=by decide +kernel
end L2
namespace L2
open PySem
theorem Dk.ne {H:Hp} {d b p:Addr} (x:Dk H d b) (h:H p=none):p≠d/\p≠b:=by
 obtain⟨ns,s,k,h1,h2,h3⟩:=x.ex
 exact⟨(aE h1 h).symm,(aE h2 h).symm⟩
theorem pR (x:Str):x=tx x.cps.toList:=(yR x).symm
end L2
namespace L2
open PySem
theorem wH:∀ts:List Nat,((ts.map fun c=>tx [c]).map (·.length)).sum=ts.length
 | []=>rfl
 | c::ts=>by
  rw[List.map_cons,List.map_cons,List.sum_cons,wH ts,vS];show 1+ts.length=_
  omega
end L2
namespace L2
open PySem
theorem aAy {t:TT} {σ:St} {H:Hp} {Q:Bool->Hp->Prop} (R:Bool->Hp->Prop) (h:∀k:Bool->Hp->Prop,(∀v H',R v H'->k v H')->t σ H k) (h2:∀v H',R v H'->Q v H'):t σ H Q:=h Q h2
theorem aAz {t:TS} {D:kK} {σ:St} {H:Hp} (R:St->Hp->Prop) (h:∀nx:St->Hp->Prop,(∀ σ' H',R σ' H'->nx σ' H')->t {D with nx:=nx } σ H) (h2:∀ σ' H',R σ' H'->D.nx σ' H'):t D σ H:=h D.nx h2
theorem Dk.same {H H':Hp} {d b:Addr} (s:Same H H') (h:Dk H d b):Dk H' d b:=by
 obtain⟨ns,s0,k,h1,h2,h3⟩:=h.ex
 exact⟨ns,s0,k,s _ _ h1,s _ _ h2,h3⟩
end L2
namespace L2
open PySem PySem.Spec PyProof.Rows
structure XE (X:Cx) (e:Expr) (t:TE):Prop where
 h:PE X e t
structure XT (X:Cx) (e:Expr) (t:TT):Prop where
 h:PT X e t
structure XW (X:Cx) (e:Expr) (t:TT):Prop where
 h:PW X e t
structure XA (X:Cx) (es:List Expr) (t:TA):Prop where
 h:PA X es t
structure XS (X:Cx) (st:Stmt) (t:TS):Prop where
 h:PS X st t
structure XB (X:Cx) (st:List Stmt) (t:TS):Prop where
 h:PSs X st t
structure XI (X:Cx) (tg iter:Expr) (t:TI):Prop where
 h:PI X tg iter t
structure XG (X:Cx) (e:Expr) (t:TG):Prop where
 h:PG X e t
structure XGs (X:Cx) (es:List Expr) (t:Ag):Prop where
 h:Yz X es t
structure XO (X:Cx) (e:Option Expr) (t:TO):Prop where
 h:PO X e t
structure XTs (X:Cx) (cs:List Expr) (t:TT):Prop where
 h:Yk X cs t
structure Wd (X:Cx) (t:Cv):Prop where
 h:Nj X t
structure jF (X:Cx) (f:Value->Value->Sem Value) (r:R2):Prop where
 h:OpR X f r
structure We (X:Cx) (r:R2):Prop where
 h:IxR X r
structure XSl (X:Cx) (r:V->Option Int->Option Int->Hp->VK->Prop):Prop where
 h:SlR X r
structure XC (X:Cx) (f:Value) (r:List V->Hp->VK->Prop):Prop where
 h:CallR X f r
structure XM (X:Cx) (id:String) (r:V->List V->Hp->VK->Prop):Prop where
 h:Zr X id r
namespace R
section
variable {X:Cx} {a b c e o i:Expr} {es rest:List Expr} {ta tb tc te to ti:TE} {tA tB':TT} {t u:TA} {pos p p2 apos cpos pos':Pos} {x:Str} {n:Nat} {r r':R2}
theorem v (i:Nat) {x:Str} {pos:Pos} (hN:X.N[i]?=some x:=by rfl) (hv:Ys X.env.scope x:=by first | exact Or.inl rfl | exact Or.inr (Or.inl rfl) | exact Or.inr (Or.inr rfl)) (hd:(x == ("__debug__":Str))=false:=by decide)
  (hcd:(x == ("__classdict__":Str))=false:=by decide):XE X (.Name x pos) (vr i):=⟨xv i hN hv hd hcd⟩
theorem ac {i j pos}:XE X (.Constant (.int i) j pos) (tC (.int i)):=⟨Tq⟩
theorem bl {b j pos}:XE X (.Constant (.bool b) j pos) (tC (.bl b)):=⟨Yt⟩
theorem bu {j pos}:XE X (.Constant .none j pos) (tC .non):=⟨Tr⟩
theorem af {x j pos}:XE X (.Constant (.str x) j pos) (tC (.str x)):=⟨Ts⟩
theorem gS {z:Str} (hg:Gl X x) (hm:∃t,X.mg x=some (.str z t)) (hd:(x == ("__debug__":Str))=false:=by decide):XE X (.Name x pos) (tC (.str z)):=by
 obtain⟨t,hm⟩:=hm;exact⟨tG hg hm ⟨t,rfl⟩ hd⟩
theorem gI {z:Int} (hg:Gl X x) (hm:∃t,X.mg x=some (.int z t)) (hd:(x == ("__debug__":Str))=false:=by decide):XE X (.Name x pos) (tC (.int z)):=by
 obtain⟨t,hm⟩:=hm;exact⟨tG hg hm ⟨t,rfl⟩ hd⟩
theorem gR {a:Addr} (hg:Gl X x) (hm:X.mg x=some (.ref a)) (hd:(x == ("__debug__":Str))=false:=by decide):XE X (.Name x pos) (tC (.ref a)):=⟨tG hg hm rfl hd⟩
theorem op {op:Operator} (ho:jF X (binaryOp op) r) (ha:XE X a ta) (hb:XE X b tb):XE X (.BinOp a op b pos) (Gj r ta tb):=⟨Zc ho.h ha.h hb.h⟩
theorem ay:jF X (binaryOp .Add) (yT fun i j=>.int (i+j)):=⟨aAc⟩
theorem bv:jF X (binaryOp .Sub) (yT fun i j=>.int (i - j)):=⟨aAd⟩
theorem eg:jF X (binaryOp .Mult) (m2 CMul fun i j=>.int (i*j)):=⟨aAe⟩
theorem da:jF X (binaryOp .Mod) (m2 (fun _ j=>0<j) fun i j=>.int (i % j)):=⟨aAf⟩
theorem cn:jF X (binaryOp .Pow) (m2 Ul fun i j=>.int (i ^ j.toNat)):=⟨aAg⟩
theorem ic:jF X (binaryOp .Add) Im:=⟨Vm⟩
theorem lt:jF X (compareOp .Lt) (yT fun i j=>.bl (decide (i<j))):=⟨aBA⟩
theorem le:jF X (compareOp .LtE) (yT fun i j=>.bl (decide (i<=j))):=⟨aBB⟩
theorem gt:jF X (compareOp .Gt) (yT fun i j=>.bl (decide (j<i))):=⟨aBC⟩
theorem ge:jF X (compareOp .GtE) (yT fun i j=>.bl (decide (j<=i))):=⟨aBD⟩
theorem eq:jF X (compareOp .Eq) mEq:=⟨aBF⟩
theorem ne:jF X (compareOp .NotEq) mNe:=⟨aBG⟩
theorem jn:jF X (compareOp .In) (Vn false):=⟨aAh⟩
theorem inQ:jF X (compareOp .In) (rIn X.K false):=⟨Ds⟩
theorem jm:jF X (compareOp .Is) (fun x y H Q=>match y with | .non=>Q (.bl (decide (x=.non))) H | _=>False):=⟨aAi⟩
theorem fm:jF X (compareOp .IsNot) (fun x y H Q=>match y with | .non=>Q (.bl (!decide (x=.non))) H | _=>False):=⟨Vo⟩
theorem eqNil (hu:X.A.units<cLine):jF X (compareOp .Eq) (nC X.K false):=⟨Ik hu⟩
theorem neNil (hu:X.A.units<cLine):jF X (compareOp .NotEq) (nC X.K true):=⟨Il hu⟩
theorem aw {op:CmpOp} (ho:jF X (compareOp op) r) (ha:XE X a ta) (hb:XE X b tb) (hm:behindInMarks op b=false:=by first | exact tJ _ | rfl):XE X (.Compare a [op] [b] pos) (Gj r ta tb):=⟨aAk ho.h ha.h hb.h hm⟩
theorem al {op:CmpOp} (ho:jF X (compareOp op) r) (ha:XE X a ta) (hb:XE X b tb) (hm:behindInMarks op b=false:=by first | exact tJ _ | rfl):XT X (.Compare a [op] [b] pos) (mT (Gj r ta tb)):=⟨aAj ho.h ha.h hb.h hm⟩
theorem jg {op op':CmpOp} (ho:jF X (compareOp op) r) (ho':jF X (compareOp op') r') (ha:XE X a ta) (hb:XE X b tb) (hc:XE X c tc) (hm:lastMarks [op,op'] [b,c]=false:=by with_unfolding_all rfl):XE X (.Compare a [op,op'] [b,c] pos) (nD r r' ta tb tc):=⟨Ou ho.h ho'.h ha.h hb.h hc.h hm⟩
theorem je {op op':CmpOp} (ho:jF X (compareOp op) r) (ho':jF X (compareOp op') r') (ha:XE X a ta) (hb:XE X b tb) (hc:XE X c tc) (hm:lastMarks [op,op'] [b,c]=false:=by with_unfolding_all rfl):XT X (.Compare a [op,op'] [b,c] pos) (mT (nD r r' ta tb tc)):=⟨Ov ho.h ho'.h ha.h hb.h hc.h hm⟩
theorem bf (ha:XE X a ta):XE X (.UnaryOp .USub a pos) (tUn (fun x H Q=>mI x fun i=>Q (.int (-i)) H) ta):=⟨aAo ha.h⟩
theorem bn {t:TE} (h:XE X e t) (he:∀whole,isTrue e X.env whole=(do let v ← whole;standAt e.pos;holding [v] (truthy v)):=by intro _;rfl):XT X e (mT t):=⟨aAl h.h he⟩
theorem cf (ha:XT X a tA):XT X (.UnaryOp .Not a pos) (Yu tA):=⟨Tw ha.h⟩
theorem cj (ha:XT X a tA):XW X (.BoolOp .And [a] pos) tA:=⟨Nf ha.h⟩
theorem cg (ha:XT X a tA):XW X (.BoolOp .Or [a] pos) tA:=⟨Tu ha.h⟩
theorem bt (ha:XT X a tA) (hb:XW X (.BoolOp .And (b::rest) pos) tB'):XW X (.BoolOp .And (a::b::rest) pos) (Nd tA tB'):=⟨Tv ha.h hb.h⟩
theorem bo (ha:XT X a tA) (hb:XW X (.BoolOp .Or (b::rest) pos) tB'):XW X (.BoolOp .Or (a::b::rest) pos) (tOr tA tB'):=⟨Yv ha.h hb.h⟩
theorem tw (h:XW X e tA):XT X e tA:=⟨h.h.pt⟩
theorem bb {op} (h:XE X a ta):XE X (.BoolOp op [a] pos) ta:=⟨Ty h.h⟩
theorem be (ha:XE X a ta) (hb:XE X (.BoolOp .And (b::rest) pos) tb):XE X (.BoolOp .And (a::b::rest) pos) (Bb ta tb):=⟨aAm ha.h hb.h⟩
theorem or (ha:XE X a ta) (hb:XE X (.BoolOp .Or (b::rest) pos) tb):XE X (.BoolOp .Or (a::b::rest) pos) (Ow ta tb):=⟨aBH ha.h hb.h⟩
theorem ie (ha:XE X a ta):XE X (.UnaryOp .Not a pos) (Bc ta):=⟨aAn ha.h⟩
theorem ix (hr:We X r) (ha:XE X a ta) (hb:XE X b tb) (hs:tO b:=by exact fun _ _=>rfl):XE X (.Subscript a b pos) (Gj r ta tb):=⟨aBI hr.h ha.h hb.h hs⟩
theorem iL:We X (Ox X.K):=⟨Vr⟩
theorem iT:We X (Oy X.K):=⟨aAp⟩
theorem iS:We X Vq:=⟨aAq⟩
theorem pn:XO X none Ap:=⟨Nz⟩
theorem ps (h:XE X e te):XO X (some e) (Bd te):=⟨Vs h.h⟩
theorem sl {r:V->Option Int->Option Int->Hp->VK->Prop} {lo hi:Option Expr} {tl th:TO} (hr:XSl X r) (he:XE X e te) (hl:XO X lo tl) (hu:XO X hi th):XE X (.Subscript e (.Slice lo hi none p2) pos) (tSl r te tl th):=⟨Gx hr.h he.h hl.h hu.h⟩
theorem sS:XSl X Vt:=⟨aAr⟩
theorem sL:XSl X (Oz X.K):=⟨Vu⟩
theorem ad:XA X [] yK:=⟨tL⟩
theorem aa (ha:XE X e te) (hr:XA X es t) (h:aM e=true:=by rfl):XA X (e::es) (nX te t):=⟨uC ha.h hr.h h⟩
theorem ib {x1} (h:XA X es t):XE X (.Tuple es x1 pos) (Zl t):=⟨Uv h.h⟩
theorem az (h:XA X es t):XE X (.List es pos) (Zm t):=⟨Uw h.h⟩
theorem ax {id:String} {r:List V->Hp->VK->Prop} (hc:XC X (.builtin id) r) (hg:Gl X x) (hm:X.mg x=none) (hv:bootBuiltins x=some (.builtin id)) (ha:XA X (e::es) t) (hn:x≠"__name__":=by decide) (hdb:(x == ("__debug__":Str))=false:=by decide)
  (h1:aM e=true:=by rfl) (h2:es.all aM=true:=by rfl):XE X (.Call (.Name x p) (e::es) [] pos) (Yi r t):=⟨Pb hc.h hg hm hv ha.h hn hdb h1 h2⟩
theorem ee {T:String} {r:List V->Hp->VK->Prop} (hc:XC X (.type T) r) (hg:Gl X x) (hm:X.mg x=none) (hv:bootBuiltins x=some (.type T)) (ha:XA X (e::es) t) (hn:x≠"__name__":=by decide) (hdb:(x == ("__debug__":Str))=false:=by decide)
  (h1:aM e=true:=by rfl) (h2:es.all aM=true:=by rfl):XE X (.Call (.Name x p) (e::es) [] pos) (Yi r t):=⟨Ip hc.h hg hm hv ha.h hn hdb h1 h2⟩
theorem ft:XC X (.builtin "len") (fun vs H Q=>match vs with | [.str z]=>z.length<=sizeLine/\Q (.int z.length) H | _=>False):=⟨Vv⟩
theorem lenL:XC X (.builtin "len") (fun vs H Q=>match vs with | [.ref p]=>∃ys,(SqL X.K H p ys∨SqT X.K H p ys)/\Q (.int ys.length) H | _=>False):=⟨Vw⟩
theorem jj:XC X (.type "int") (fun vs H Q=>match vs with | [.bl k]=>Q (.int (if k then 1 else 0)) H | _=>False):=⟨aAs⟩
theorem all (hc:X.calm=true):XC X (.builtin "all") (Vk X.K):=⟨Ii hc⟩
theorem sum (hc:X.calm=true):XC X (.builtin "sum") (Vl X.K):=⟨Ij hc⟩
theorem fn {n:Nat} {ps:List Str} {sp:Sp} (c:aG X.prog X.w X.K X.mg X.base n x ps sp) (hr:Room n X.A) (hg:Gl X x) (ha:XA X (e::es) t) (hdb:(x == ("__debug__":Str))=false:=by decide)
  (h1:aM e=true:=by rfl) (h2:es.all aM=true:=by rfl):XE X (.Call (.Name x p) (e::es) [] pos) (tFn sp t):=⟨aAx c hr hg ha.h hdb h1 h2⟩
theorem bm {T id:String} {name:Str} {r:V->List V->Hp->VK->Prop} (pa:PlainAttrs T) (slot:Slot T name id) (hty:typeOf (.builtin id)=pure (.type "method_descriptor")) (hm:XM X id r) (ho:XE X o to) (ha:XA X (e::es) t)
  (hbase:attributeBase o name X.env (eval o X.env)=eval o X.env:=by rfl) (hline:(apos.endLine == cpos.line)=true:=by rfl) (h1:aM e=true:=by rfl) (h2:es.all aM=true:=by rfl) (hn:es.length+1<30:=by decide) :
  XE X (.Call (.Attribute o name apos) (e::es) [] cpos) (tBM X.K T r to t):=⟨aBM pa slot hty hm.h ho.h ha.h hbase hline h1 h2 hn⟩
theorem dl:XM X "list.append" Ar:=⟨Dt⟩
theorem jp:XM X "list.pop" Hr:=⟨Hs⟩
theorem join:XM X "str.join" (Ig X.K):=⟨Ot⟩
theorem dm {T:Str} (want:Kd) (he:XE X e te) (hg:Gl X "isinstance") (hm:X.mg "isinstance"=none) (hgT:Gl X T) (hmT:X.mg T=none) (hT:bootBuiltins T=some (.type (Pa want)))
  (hn:T≠"__name__":=by decide) (hd:(T == ("__debug__":Str))=false:=by decide) (h1:aM e=true:=by rfl):XE X (.Call (.Name "isinstance" p) [e,.Name T p2] [] pos) (Vy want te):=⟨Vz want he.h hg hm hgT hmT hT hn hd h1⟩
theorem dq:XE X (.Dict [] [] pos) (Hv):=⟨Hw⟩
variable {tg:Expr}
theorem wL (hl:XE X e te):XI X tg e (Gh X.K te):=⟨Nn hl.h⟩
theorem wT (hl:XE X e te):XI X tg e (Uh X.K te):=⟨Ui hl.h⟩
theorem wS (hl:XE X e te):XI X tg e (aAa te):=⟨Vi hl.h⟩
theorem dw (hg:Gl X "range") (hm:X.mg "range"=none) (ha:XA X [a] t) (h1:aM a=true:=by rfl):XI X tg (.Call (.Name "range" p) [a] [] pos) (Rw t):=⟨Cy hg hm ha.h (bB h1)⟩
theorem gn {i:Nat} (hN:X.N.Nodup) (hi:X.N[i]?=some x:=by rfl) (hx:Fu X.env.scope x:=by first | exact Or.inl rfl | exact Or.inr rfl) (hf:X.fn x=true∨X.env.scope.names.lookup x=some .local:=by first | exact .inl rfl | exact .inr rfl | assumption):XG X (.Name x pos) (aK i):=⟨Nk hN hi hx hf⟩
theorem du:XGs X [] Uc:=⟨Nl⟩
theorem bp {tg1:TG} {tgs:Ag} (h1:XG X e tg1) (h2:XGs X es tgs) (hs:(assignEach (e::es) X.env).map (·.2)=assign e X.env::(assignEach es X.env).map (·.2):=by rfl):XGs X (e::es) (Gc tg1 tgs):=⟨Gd h1.h h2.h hs⟩
theorem gt' {k:Nat} {tgs:Ag} (hc:X.calm=true) (h:XGs X es tgs) (hn:(assignEach es X.env).length=n:=by rfl) (hst:(assignEach es X.env).findIdx? (·.1)=none:=by rfl):XG X (.Tuple es k pos) (Nm X.K n tgs):=⟨Ud hc h.h hn hst⟩
theorem ji:Wd X Sc:=⟨Gy⟩
theorem de {ts:Cv} (ho:XE X o to) (hi:XE X i ti) (hs:Wd X ts) (ha:∀v,assign (.Subscript o i pos) X.env v=(do
   let ov ← holding [v] (eval o X.env)
   let iv ← holding [v,ov] (eval i X.env)
   standAt pos
   holding [v,ov,iv] (setItem ov iv v)
   release [v,ov,iv] []):=by intro _;rfl):XG X (.Subscript o i pos) (Za to ti ts):=⟨Ue ho.h hi.h hs.h ha⟩
end
section
variable {X:Cx} {c e tg iter elt:Expr} {ifs:List Expr} {te:TE} {tc tt:TT} {g:TG} {wi:TI} {st:Stmt} {ss sa sb:List Stmt} {t u:TS} {pos pos' spos py:Pos} {x y:Str} {scope:Scope} {N:List Str} {js:List (Option Nat)}
theorem dn:XTs X [] Sg:=⟨On⟩
theorem bq (h:XT X c tt) (hx:X.xe=fun _ _=>False:=by rfl):XTs X [c] tt:=⟨Oo h.h hx⟩
theorem bi (hc:X.calm=true) (S:CompScope X scope N js) (go:yP js g) (hi:XI X tg iter wi)
  (hb:∀(C:Addr) (s₂:Shared) (H₂:Hp) (fp:List Addr),XG (mL X scope C N s₂ H₂ fp) tg g/\XTs (mL X scope C N s₂ H₂ fp) ifs tt/\XE (mL X scope C N s₂ H₂ fp) elt te)
  (hs:∀x,foldedSetIterable iter X.env x=pure x:=by intro _;rfl):XE X (.ListComp elt [⟨tg,iter,ifs,0⟩] scope pos) (Sh wi js g tt te):=
 ⟨Op hc S go hi.h (fun C s₂ H₂ fp=>let ⟨a,b,c⟩:=hb C s₂ H₂ fp;⟨a.h,b.h,c.h⟩) hs⟩
theorem eh {i:Nat} (hN:X.N.Nodup) (hy:X.N[i]?=some y) (hx:Fu X.env.scope y) (hc:X.calm=true) (S:CompScope X scope N js) (go:yP js g) (hi:XI X tg iter wi)
  (hb:∀(C:Addr) (s₂:Shared) (H₂:Hp) (fp:List Addr),XG (mL X scope C N s₂ H₂ fp) tg g/\XTs (mL X scope C N s₂ H₂ fp) ifs tt/\XE (mL X scope C N s₂ H₂ fp) elt te)
  (hsw:swapsWith (.ListComp elt [⟨tg,iter,ifs,0⟩] scope pos) (some (.Name y py)) spos.line X.env=pure true)
  (hs:∀x,foldedSetIterable iter X.env x=pure x:=by intro _;rfl) (hf:X.fn y=true∨X.env.scope.names.lookup y=some .local:=by first | exact .inl rfl | exact .inr rfl | assumption) :
  XS X (.Assign [.Name y py] (.ListComp elt [⟨tg,iter,ifs,0⟩] scope pos) spos) (Si i wi js g tt te):=
 ⟨Oq hN hy hx hc S go hi.h (fun C s₂ H₂ fp=>let ⟨a,b,c⟩:=hb C s₂ H₂ fp;⟨a.h,b.h,c.h⟩) hsw hs hf⟩
theorem au:XB X [] kP:=⟨Ng⟩
theorem ah (h1:XS X st t):XB X [st] t:=⟨Nh h1.h⟩
theorem ae (h1:XS X st t) (h2:XB X ss u):XB X (st::ss) (yB t u):=⟨Ga h1.h h2.h⟩
theorem ai (he:XE X e te):XS X (.Return (some e) pos) (Yx te):=⟨Ub he.h⟩
theorem bz (he:XE X e te) (hs:swapsWith e none pos.line X.env=pure false:=by rfl):XS X (.Expr e pos) (Rv te):=⟨Ni he.h hs⟩
theorem ar (hc:XT X c tc) (ha:XB X sa t) (hb:XB X sb u):XS X (.If c sa sb pos) (Gb tc t u):=⟨Yy hc.h ha.h hb.h⟩
theorem ao {i:Nat} (hN:X.N.Nodup) (he:XE X e te) (hi:X.N[i]?=some x:=by rfl) (hx:Fu X.env.scope x:=by first | exact Or.inl rfl | exact Or.inr rfl) (hs:swapsWith e (some (.Name x pos')) pos.line X.env=pure false:=by rfl)
  (hf:X.fn x=true∨X.env.scope.names.lookup x=some .local:=by first | exact .inl rfl | exact .inr rfl | assumption):XS X (.Assign [.Name x pos'] e pos) (Ge te (aK i)):=⟨Ug hN hi hx he.h hs hf⟩
theorem db (he:XE X e te) (hg:XG X tg g) (hs:swapsWithSole [tg] e pos.line X.env=pure false:=by rfl) (hw:swappedStores [tg] e X.env=pure none:=by rfl) (h1:(assignEach [tg] X.env).map (·.2)=[assign tg X.env]:=by rfl) :
  XS X (.Assign [tg] e pos) (Ge te g):=⟨Uf he.h hg.h hs hw h1⟩
theorem dh (hp:PassesOwn (model X.prog X.w) X.A X.env X.xe) (hc:X.calm=true) (hi:XI X tg iter wi) (hg:XG X tg g) (hb:XB X ss t) (hs:∀x,foldedSetIterable iter X.env x=pure x:=by intro _;rfl):XS X (.For tg iter ss [] pos) (Zb wi g t):=⟨Uj hp hc hi.h hg.h hb.h hs⟩
theorem jt (hp:PassesOwn (model X.prog X.w) X.A X.env X.xe) (hc:XT X c tc) (hb:XB X ss t):XS X (.While c ss [] pos) (Gf tc t):=⟨Gg hp hc.h hb.h⟩
end
end R
theorem DefAt.go {P:Program} {w:World} {K:W.Frag} {mg:Str->Option Value} {base:Heap} {x:Str} {st:Stmt} {N ps:List Str} {k:Nat} {sp:Sp} (D:DefAt K mg x st ps) (S:aJ N ps (aB st)) (len:∀vs H Q E,sp vs H Q E->vs.length=ps.length)
  (hbody:∀(f:Addr) (cdv:Value) (A:Around) (outer:List Env) (s:Shared) (H:Hp) (vs:List V) (Q:VK) (E:XK),Room k (A.deeper (envOfC x (aB st) s.heap.objs.size f cdv))->sp vs H Q E →
   ∃t,XB (fL qW P w K mg base N x (aB st) f cdv A outer s H E).nox (aV st) t/\t {nx:=fun _ H'=>Q .non H',rt:=Q } (start N vs) H):aG P w K mg base (k+1) x ps sp:=
 D.ok S len fun f cdv A outer s H vs Q E hr h=>let ⟨t,h1,h2⟩:=hbody f cdv A outer s H vs Q E hr h;⟨t,h1.h,h2⟩
theorem Fun.go {P:Program} {w:World} {K:W.Frag} {mg:Str->Option Value} {base:Heap} {x qual:Str} {st:Stmt} {f:Addr} {fd:FuncData} {N ps:List Str} {k:Nat} {sp:Sp} (F:Fun K x qual st f fd) (S:aJ N ps (aB st)) (len:∀vs H Q E,sp vs H Q E->vs.length=ps.length)
  (hbody:∀(cdv:Value) (A:Around) (outer:List Env) (s:Shared) (H:Hp) (vs:List V) (Q:VK) (E:XK),Room k (A.deeper (envOfC qual (aB st) s.heap.objs.size f cdv))->sp vs H Q E →
   ∃t,XB (fL qW P w K mg base N qual (aB st) f cdv A outer s H E).nox (aV st) t/\t {nx:=fun _ H'=>Q .non H',rt:=Q } (start N vs) H):iE P w K mg base qW (k+1) f fd ps sp:=
 F.ok S len fun cdv A outer s H vs Q E hr h=>let ⟨t,h1,h2⟩:=hbody cdv A outer s H vs Q E hr h;⟨t,h1.h,h2⟩
theorem Wf {K:W.Frag} {h:Heap} {mg:Str->Option Value} {x:Str} {st:Stmt} {ps:List Str} {f:Addr} {od an:Option Addr} {sl:Array (Option Value)} {oc kV dc pm cd ct:Value} (X:K.In h) (G:h.Ns mainGlobals mg)
  (a:W.nsIn K mainGlobals x=some (some (.ref f))) (l:K.lookup f=some ⟨oc,od,.func (W.fnOf x x (bZ st) (aV st) (aB st) .none kV dc pm an cd ct),sl⟩) (c:W.codeIn K cd x=true) (k:W.keepIn K (.ref f)=true)
  (hb:∀(kV doc pm:Value) (an:Option Addr) (cdv ct:Value) (us:List Value),us.length=ps.length->bindArgs (W.fnOf x x (bZ st) (aV st) (aB st) .none kV doc pm an cdv ct) ⟨us,[]⟩=pure (ps.zip us)):DefAt K mg x st ps:=
 ⟨f,_,kU l c k,W.mg_of X G a,(kU (st:=st) l c k).binds hb⟩
namespace R
section
variable {X:Cx} {K:W.Frag} {a b c e o i tg:Expr} {es rest:List Expr} {te to:TE} {t:TA} {pos p p2 apos cpos:Pos} {x:Str} {n:Nat}
theorem av (hK:X.K=K:=by rfl):We X (Ox K):=hK ▸ iL
theorem ag (hK:X.K=K:=by rfl):We X (Oy K):=hK ▸ iT
theorem br (hK:X.K=K:=by rfl):XSl X (Oz K):=hK ▸ sL
theorem bc (hK:X.K=K:=by rfl):jF X (compareOp .In) (rIn K false):=hK ▸ inQ
theorem dy (hu:X.A.units<cLine) (hK:X.K=K:=by rfl):jF X (compareOp .Eq) (nC K false):=hK ▸ eqNil hu
theorem fk (hu:X.A.units<cLine) (hK:X.K=K:=by rfl):jF X (compareOp .NotEq) (nC K true):=hK ▸ neNil hu
theorem ba (hK:X.K=K:=by rfl):XC X (.builtin "len") (fun vs H Q=>match vs with | [.ref p]=>∃ys,(SqL K H p ys∨SqT K H p ys)/\Q (.int ys.length) H | _=>False):=hK ▸ lenL
theorem jf (hc:X.calm=true) (hK:X.K=K:=by rfl):XC X (.builtin "all") (Vk K):=hK ▸ all hc
theorem jo (hc:X.calm=true) (hK:X.K=K:=by rfl):XC X (.builtin "sum") (Vl K):=hK ▸ sum hc
theorem jq (hK:X.K=K:=by rfl):XM X "str.join" (Ig K):=hK ▸ join
theorem bw {T id:String} {name:Str} {r:V->List V->Hp->VK->Prop} (pa:PlainAttrs T) (slot:Slot T name id) (hty:typeOf (.builtin id)=pure (.type "method_descriptor")) (hm:XM X id r) (ho:XE X o to) (ha:XA X (e::es) t) (hK:X.K=K:=by rfl)
  (hbase:attributeBase o name X.env (eval o X.env)=eval o X.env:=by rfl) (hline:(apos.endLine == cpos.line)=true:=by rfl) (h1:aM e=true:=by rfl) (h2:es.all aM=true:=by rfl) (hn:es.length+1<30:=by decide) :
  XE X (.Call (.Attribute o name apos) (e::es) [] cpos) (tBM K T r to t):=hK ▸ bm pa slot hty hm ho ha hbase hline h1 h2 hn
theorem bj (hl:XE X e te) (hK:X.K=K:=by rfl):XI X tg e (Gh K te):=hK ▸ wL hl
theorem fj (hl:XE X e te) (hK:X.K=K:=by rfl):XI X tg e (Uh K te):=hK ▸ wT hl
theorem dt {k:Nat} {tgs:Ag} (hc:X.calm=true) (h:XGs X es tgs) (hK:X.K=K:=by rfl) (hn:(assignEach es X.env).length=n:=by rfl) (hst:(assignEach es X.env).findIdx? (·.1)=none:=by rfl):XG X (.Tuple es k pos) (Nm K n tgs):=hK ▸ gt' hc h hn hst
end
end R
end L2
namespace L2
open PySem PySem.Spec PyProof.Rows
section
variable {X:Cx}
def aBN:List V->Hp->VK->Prop:=fun vs H Q=>match vs with
 | [.int i]=>(0<=i/\i<10 ^ 40)/\Q (.str (Str.ofString (toString i))) H
 | [.str z]=>Q (.str z) H
 | _=>False
def aBZ:List V->Hp->VK->Prop:=fun vs H Q=>match vs with
 | [.str z]=>NumText.AllDigits z.cps.toList/\z.cps.toList≠[]/\z.length<=640/\Q (.int (NumText.digitsVal z.cps.toList:Nat)) H
 | _=>False
end
def LET:List Nat:=[97,98,99,100,101,102,103,104,105,106,107,108,109,110,111,112,113,114,115,116,117,118,119,120,121,122]
def FIG:List Nat:=[48,49,50,51,52,53,54,55,56,57]
theorem yW:(("abcdefghijklmnopqrstuvwxyz":Str)).cps.toList=LET:=by decide +kernel
theorem Wg:(("0123456789":Str)).cps.toList=FIG:=by decide +kernel
def jN (x:V) (cs:List Nat) (n:Int):Bool:=match x with | .str z=>decide (1<=(z.length:Int))&&decide ((z.length:Int)<=n)&&z.cps.toList.all (fun c=>decide (c∈cs)) | _=>false
theorem iF (z:Str) (cs:List Nat) (n:Int):jN (.str z) cs n=(decide (1<=(z.length:Int))&&decide ((z.length:Int)<=n)&&z.cps.toList.all (fun c=>decide (c∈cs))):=rfl
def Iz:Sp:=fun vs H Q _=>∃x sg n k,vs=[x,.str sg,.int n]/\Sk H x k/\(∀z,x=.str z->z.length<=1000)/\∀H',Same H H'->Q (.bl (jN x sg.cps.toList n)) H'
def Ja (cs:List Nat) (n:Int):Sp:=fun vs H Q _=>∃x k,vs=[x]/\Sk H x k/\(∀z,x=.str z->z.length<=1000)/\∀H',Same H H'->Q (.bl (jN x cs n)) H'
end L2
namespace L2
open PySem PySem.Spec PyProof.Rows
def fE (z:Str):Prop:=1<=z.length/\z.length<=8/\∀c∈z.cps.toList,c∈LET
theorem Bg (z:Str) (ns:List Str):gT (.str z) (ns.map V.str)=decide (z∈ns):=by
 unfold gT;rw[List.any_map,Bool.eq_iff_iff,List.any_eq_true,decide_eq_true_iff];constructor
 ·rintro⟨y,hy,e⟩
  have:y=z:=by simpa [qY]using e
  rw[<- this];exact hy
 ·intro h;exact⟨z,h,by simp [qY]⟩
theorem nE (ns:List Str):(ns.map V.str).all eC=true:=by
 rw[List.all_map];exact List.all_eq_true.mpr fun _ _=>rfl
namespace R
variable {X:Cx}
theorem jl (hc:X.calm=true):XC X (.builtin "max") (fun vs H Q=>match vs with | [.int i,.int j]=>Q (.int (if j > i then j else i)) H | _=>False):=⟨(Dl hc).imp fun vs H Q h=>by
 split at h
 ·rename_i i j
  exact⟨i,j,rfl,h⟩
 ·exact h.elim⟩
end R
end L2
namespace L2
open PySem PySem.Spec PyProof.Rows
section
variable {prog:Program} {w:World} {A:Around} {E:Value->Shared->Prop} {s:Shared}
theorem Ed {t:Addr} {items:Array Value} {Q:Bool->Shared->Prop} (ht:IsTup s.heap t items) (h:Q true s):wpAny (model prog w) A (Builtin.Tuple.tupleIsExact (.ref t)) Q E s:=by
 unfold Builtin.Tuple.tupleIsExact;refine wpAny_bind (wpAny_typeOf ht.typeIs ?_)
 exact wpAny_pure h
theorem kL {t sl:Addr} {items:Array Value} {vl vu:Value} {lo hi:Option Int} {Q:Value->Shared->Prop} (ht:IsTup s.heap t items) (hs:s.heap.IsSliceOf sl vl vu .none) (pl:IsPart vl lo) (pu:IsPart vu hi)
  (hw:HT.sIx items.size 0 lo=0/\HT.sIx items.size items.size hi=items.size) (h:Q (.ref t) s):wpAny (model prog w) A (getItem (.ref t) (.ref sl)) Q E s:=by
 obtain⟨os,hos,hcs,hds⟩:=id hs
 have hTs:s.TypeIs (.ref sl) "slice":=⟨os,hos,hcs⟩
 unfold getItem;try with_reducible refine wpAny_holding ?_
 first | refine wpAny_bind (wpAny_pure ?_) | skip
 refine wpAny_bind (wpAny_sequenceKey ht.typeIs Zd ?_)
 refine wpAny_bind (wpAny_callSpecial?_slot (name:=Str.ofString "__getitem__") ht.typeIs PyProof.Rows.slot_tuple_getitem
  (wpAny_call_entry PyProof.Rows.slot_tuple_getitem ht.typeIs entry_tuple_getitem ?_ (args_tuple_getitem _ _)))
 show wpAny _ _ (Builtin.Tuple.tupleItemsOf (.ref t) >>= _) _ _ s
 refine wpAny_bind (tupleItemsOf_ ht ?_)
 refine wpAny_bind (wpAny_typeOf hTs ?_)
 rw[if_pos Zd]
 refine wpAny_bind (HT.sliceApplied_gen hs pl pu ?_)
 have hyes:(((HT.sIx items.size 0 lo:Nat):Int) == 0&&(1:Int) == 1&&(HT.sIx items.size items.size hi - HT.sIx items.size 0 lo) == items.size)=true:=by
  rw[hw.1,hw.2];simp
 show wpAny _ _ (if (((HT.sIx items.size 0 lo:Nat):Int) == 0&&(1:Int) == 1&&(HT.sIx items.size items.size hi - HT.sIx items.size 0 lo) == items.size)=true then _ else _) _ _ s
 rw[if_pos hyes];refine wpAny_bind (Ed ht ?_)
 rw[if_pos rfl];exact wpAny_bind (wpAny_rule (wpAny_pure ⟨_,rfl,wpAny_pure h⟩))
theorem Jb {t b:Addr} {ws:List Value} {Q:Value->Shared->Prop} (ht:IsTup s.heap t ([]:List Value).toArray) (hb:IsTup s.heap b ws.toArray) (h1:Q (.ref b) s):wpAny (model prog w) A (binaryOp .Add (.ref t) (.ref b)) Q E s:=by
 obtain⟨⟨cls,dd,data,sl⟩,ho,hc,n,hd⟩:=id ht
 obtain⟨⟨cls2,dd2,data2,sl2⟩,ho2,hc2,n2,hd2⟩:=id hb
 simp only at hc hd hc2 hd2
 subst hc hd hc2 hd2;exact concat_meets ⟨_,ho,rfl⟩ ⟨_,ho2,rfl⟩ noFill_tuple_add seq_tuple_add PySem.F.slot_tuple_add PySem.F.entry_tuple_add (PySem.F.args_tuple_add_2 _ _)
   (tuple_addW0 t b _ ws.toArray n n2 dd dd2 sl sl2 Zs) ⟨ho,ho2,h1⟩
end
section
variable {X:Cx} {e o e1 e2:Expr} {te:TE} {pos p2 p3:Pos}
def Wh:V->Option Int->Option Int->Hp->VK->Prop:=fun x lo hi H Q=>mR x fun a=>∃xs,H a=some (.tup xs)/\∀p H',Same H H'->H' p=some (.tup (dO xs lo hi))->Q (.ref p) H'
theorem aAC:SlR X Wh:=by
 intro pins s σ H x v vl vu lo hi sl Q I rx hs pl pu h;unfold Wh at h;rw[dY]at h;obtain⟨a,rfl,xs,hx,q⟩:=h
 by_cases hw:HT.sIx xs.length 0 lo=0/\HT.sIx xs.length xs.length hi=xs.length
 ·cases rx
  obtain⟨its,r,ht,hz⟩:=I.tuple (SqT.of hx)
  have hlen:its.toArray.size=xs.length:=by rw[eB];exact r.length.symm
  refine⟨"tuple",_,PyProof.Rows.slot_tuple_getitem.lookup,ht.typeIs,?_⟩
  refine kL ht hs pl pu (by rw[hlen];exact hw) ⟨.ref a,H,I,rfl,q a H (Same.refl H) ?_⟩
  rw[hx];unfold dO;rw[hw.1,hw.2,List.drop_zero,Nat.sub_zero,vR (bQ _)]
 ·exact Uy pins s σ H (.ref a) v vl vu lo hi sl Q I rx hs pl pu ⟨a,xs,rfl,SqT.of hx,hw,fun p hp=>q p _ (aF hp) aA⟩
def Jc:R2:=fun x y H Q=>mR x fun a=>mR y fun b=>∃xs ys,H a=some (.tup xs)/\H b=some (.tup ys)/\xs.length+ys.length<=1000/\∀p H',Same H H'->H' p=some (.tup (xs++ys))->Q (.ref p) H'
theorem Wi:OpR X (binaryOp .Add) Jc:=by
 intro pins s σ H x y v u Q I rx ry h;unfold Jc at h;rw[dY]at h;obtain⟨a,rfl,h⟩:=h
 rw[dY]at h;obtain⟨b,rfl,xs,ys,ha,hb,hz,q⟩:=h
 by_cases h0:xs=[]
 ·subst h0;cases rx
  cases ry
  obtain⟨its,r1,p1,_⟩:=I.tuple (SqT.of ha)
  obtain⟨its2,r2,p2,_⟩:=I.tuple (SqT.of hb)
  cases r1
  exact Jb p1 p2 ⟨.ref b,H,I,rfl,q b H (Same.refl H) (by rw[hb];rfl)⟩
 ·exact Ob pins s σ H _ _ v u Q I rx ry ⟨a,b,xs,ys,rfl,rfl,SqT.of ha,SqT.of hb,h0,kN hz Zd,(fun h1=>q a H (Same.refl H) (by rw[ha,h1,List.append_nil])),fun _ p hp=>q p _ (aF hp) aA⟩
end
def Tab (P:Params):List DictEntry->List (Str × Int)->Prop
 | [],[]=>True
 | e::r,(x,i)::q=>(∃t,e.key=.str x t)/\e.hash=PyData.keyHash P x/\(∃t,e.val=.int i t)/\Tab P r q
 | _,_=>False
theorem Tab.keys {P:Params}:∀ {es:List DictEntry} {ws:List (Str × Int)},Tab P es ws->W.KeysLit P es
 | [],[],_=>trivial
 | e::r,(x,i)::q,h=>⟨let ⟨t,ht⟩:=h.1;⟨x,t,ht,h.2.1⟩,Tab.keys h.2.2.2⟩
 | [],_::_,h=>h.elim
 | _::_,[],h=>h.elim
theorem Tab.find {P:Params} (z:Str):∀ {es:List DictEntry} {ws:List (Str × Int)},Tab P es ws->(match ws.lookup z with | some i=>∃t,(es.find? fun e=>Value.isStrOf z e.key).map (·.val)=some (.int i t) | none=>(es.find? fun e=>Value.isStrOf z e.key).map (·.val)=none)
 | [],[],_=>rfl
 | [],_::_,h=>h.elim
 | _::_,[],h=>h.elim
 | e::r,(x,i)::q,h=>by
  obtain⟨⟨t,ht⟩,h2,⟨t',hv⟩,h4⟩:=h
  have ih:=Tab.find z h4
  rw[List.lookup_cons,List.find?_cons];have e1:Value.isStrOf z e.key=(z == x):=by
   rw[ht];show(x == z)=(z == x)
   exact Bool.beq_comm
  rw[e1];cases hz:z == x with
  | true=>exact⟨t',by rw[<- hv];rfl⟩
  | false=>exact ih
structure KTab (K:W.Frag) (P:Params) (a:Addr) (ws:List (Str × Int)):Prop where
 ex:∃es n,K.lookup a=some ⟨.type "dict",none,.dict (List.toArray es) n,#[]⟩/\Tab P es ws/\(a == sysModules)=false
theorem KTab.map {K:W.Frag} {prog:Program} {w:World} {a:Addr} {ws:List (Str × Int)} {h:Heap} (T:KTab K w.params a ws) (X:K.In h) :
  ∃f:Str->Option Value,h.MapOf (strKind prog w) a f/\(a == sysModules)=false/\∀z,(match ws.lookup z with | some i=>∃t,f z=some (.int i t) | none=>f z=none):=by
 obtain⟨es,n,hl,ht,lo⟩:=T.ex
 refine⟨_,W.mapOf_K (prog:=prog) X hl ht.keys,lo,fun z=>?_⟩
 have:=ht.find z
 unfold findBy;rw[List.find?_toArray];exact this
section
variable {X:Cx}
def Wj (K:W.Frag) (P:Params):R2:=fun x y H Q=>mR x fun a=>mS y fun z=>∃ws i,KTab K P a ws/\ws.lookup z=some i/\Q (.int i) H
theorem i_K:IxR X (Wj X.K X.w.params):=by
 intro value slice pins s σ H x y v u Q I rx ry h hs;unfold Wj at h;rw[dY]at h;obtain⟨a,rfl,h⟩:=h
 rw[pO]at h;obtain⟨z,rfl,ws,i,T,hi,h⟩:=h
 obtain⟨t,rfl⟩:=ry
 cases rx
 obtain⟨f,hm,lo,hf⟩:=T.map (prog:=X.prog) I.kIn
 have hz:=hf z
 rw[hi]at hz;obtain⟨t',hz⟩:=hz
 exact tail_any hm.typeIs slot_dict_getitem.lookup (wpAny_getItem_of (strKind_is X.prog X.w z t) hm hz ⟨.int i,H,I.tok _,⟨t',rfl⟩,h⟩) hs
end
structure XPs (X:Cx) (pos:Pos) (keys:List (Option Expr)) (values:List Expr) (trs:List (TE × TE)):Prop where
 h:Zz X pos keys values trs
namespace R
section
variable {X:Cx} {K:W.Frag} {P:Params} {e e1 k v o f:Expr} {te t1 tk tv td ty tx':TE} {pos p2 apos cpos:Pos} {ks:List (Option Expr)} {vs:List Expr} {trs:List (TE × TE)}
theorem sT:XSl X Wh:=⟨aAC⟩
theorem df:jF X (binaryOp .Add) Jc:=⟨Wi⟩
theorem jk (hK:X.K=K:=by rfl) (hP:X.w.params=P:=by rfl):We X (Wj K P):=hK ▸ hP ▸ ⟨i_K⟩
theorem jh (hK:X.K=K:=by rfl):XC X (.type "list") (fun vs H Q=>match vs with | [.ref p]=>∃ys,(SqL K H p ys∨SqT K H p ys)/\∀l,H l=none->Q (.ref l) (aI H l (.lst ys)) | _=>False):=hK ▸ ⟨tW.imp fun vs H Q h=>by
 split at h
 ·rename_i p
  obtain⟨ys,hq,h⟩:=h
  exact⟨p,ys,rfl,hq,h⟩
 ·exact h.elim⟩
theorem jw (hK:X.K=K:=by rfl):XC X (.type "tuple") (fun vs H Q=>match vs with | [.ref p]=>∃ys,SqL K H p ys/\∀l,H l=none->Q (.ref l) (aI H l (.tup ys)) | _=>False):=hK ▸ ⟨qZ.imp fun vs H Q h=>by
 split at h
 ·rename_i p
  obtain⟨ys,hq,h⟩:=h
  exact⟨p,ys,rfl,.inl ⟨hq,h⟩⟩
 ·exact h.elim⟩
theorem gs:XPs X pos [] [] []:=⟨Oj⟩
theorem cv (hk:XE X k tk) (hv:XE X v tv) (hr:XPs X pos ks vs trs):XPs X pos (some k::ks) (v::vs) ((tk,tv)::trs):=⟨Hx hk.h hv.h hr.h⟩
theorem fu (h:XPs X pos ks vs trs) (hall:ks.all (·.isSome)=true:=by rfl) (hl:ks.length=vs.length:=by rfl) (h0:ks≠[]:=by simp) (h15:ks.length<=15:=by decide):XE X (.Dict ks vs pos) (Sf trs):=⟨Ol h.h hall hl h0 h15⟩
theorem ju (hu:X.A.units+1<cLine) (ho:XE X o td) (he:XE X e ty) (hf:XE X f tx') (h1:attributeBase o "get" X.env (eval o X.env)=eval o X.env:=by rfl) (h3:(apos.endLine == cpos.line)=true:=by rfl)
  (h2:((backTo cpos (starEach [e,f] X.env)).all (fun x=>!x.1)&&(backToKw cpos (keywordEach [] X.env)).all (fun x=>x.1.isSome)
  && decide (([e,f]:List Expr).length+([]:List Keyword).length+(if ([]:List Keyword).isEmpty then 0 else 1)<30))=true:=by rfl)
  (h4:backTo cpos (starEach [e,f] X.env)=[(false,eval e X.env),(false,eval f X.env)]:=by rfl):XE X (.Call (.Attribute o "get" apos) [e,f] [] cpos) (Hy td ty tx'):=⟨Ia hu ho.h he.h hf.h ⟨h1,h2,h3,h4⟩⟩
end
end R
end L2
namespace L2
open PySem PySem.Spec PyProof.Rows
def Yl (x:V):Bool:=jN x LET 8
def yX (lo hi:Int) (x:V):Bool:=match x with | .int n=>decide (lo<=n)&&decide (n<=hi) | _=>false
def Pt (H:Hp) (x:V):Prop:=∃k,Sk H x k/\∀z,x=.str z->z.length<=1000
def Bh:Sp:=fun vs H Q _=>∃x lo hi,vs=[x,.int lo,.int hi]/\Pt H x/\∀H',Same H H'->Q (.bl (yX lo hi x)) H'
end L2
namespace L2
open PySem PySem.Spec PyProof.Rows
def aAD:R2:=fun x y H Q=>mR x fun l=>mR y fun b=>∃xs zs,H l=some (.lst xs)/\H b=some (.lst zs)/\xs.length+zs.length<=sizeLine/\∀p,H p=none->Q (.ref p) (aI H p (.lst (xs++zs)))
theorem R.bh {X:Cx}:jF X (binaryOp .Add) aAD:=⟨Vd.imp fun x y H Q h=>by
 unfold aAD at h;rw[dY]at h;obtain⟨a,rfl,h⟩:=h
 rw[dY]at h;obtain⟨b,rfl,xs,zs,h⟩:=h
 exact⟨a,b,xs,zs,rfl,rfl,h⟩⟩
end L2
namespace L2
open PySem PySem.Spec PyProof.Rows
theorem Wk {z:Str} (h:fE z):Yl (.str z)=true:=by
 unfold Yl;rw[iF,decide_eq_true (by have:=h.1;omega),decide_eq_true (by have:=h.2.1;omega),List.all_eq_true.mpr fun c hc=>decide_eq_true (h.2.2 c hc)]
 rfl
theorem Dk.tup_ne {H:Hp} {d b p:Addr} {xs:List V} (D:Dk H d b) (h:H p=some (.tup xs)):p≠d/\p≠b:=by
 obtain⟨ns,s,k,h1,h2,h3⟩:=D.ex
 exact⟨fun e=>(by rw[e,h1]at h;cases h),fun e=>(by rw[e,h2]at h;cases h)⟩
end L2
namespace L2
open PySem PySem.Spec PyProof.Rows
inductive TV where
 | sc (v:V)
 | tp (xs:List TV)
 | ls (xs:List TV)
def kY:V->Bool | .non=>true | .bl _=>true | .int _=>true | .str _=>true | _=>false
def Jd (H:Hp):Nat->TV->V->Prop
 | 0,.sc v,x=>x=v/\kY v=true
 | _+1,.sc v,x=>x=v/\kY v=true
 | n+1,.tp ts,x=>∃a xs,x=.ref a/\H a=some (.tup xs)/\Paired (Jd H n) ts xs
 | n+1,.ls ts,x=>∃a xs,x=.ref a/\H a=some (.lst xs)/\Paired (Jd H n) ts xs
 | 0,_,_=>False
theorem Paired.map' {α β:Type} {R S:α->β->Prop} (f:∀a b,R a b->S a b) {xs:List α} {ys:List β} (h:Paired R xs ys):Paired S xs ys:=by
 induction h with
 | nil=>exact .nil
 | cons h t ih=>exact .cons (f _ _ h) ih
theorem Paired.get' {α β:Type} {R:α->β->Prop}:∀ {xs:List α} {ys:List β} {j:Nat},Paired R xs ys->∀(h:j<ys.length),∃h':j<xs.length,R xs[j] ys[j]
 | _,_,0,.cons h t,_=>⟨Nat.succ_pos _,h⟩
 | _,_,j+1,.cons h t,hj=>let ⟨h',r⟩:=Paired.get' (j:=j) t (by simpa using hj);⟨by simpa using h',by simpa using r⟩
section
variable {X:Cx} {pins:List (Addr × Obj)} {s:Shared} {σ:St} {H:Hp}
theorem Pg (B:Around):B.in1.units=B.units+1:=rfl
theorem jO (n:Nat):(List.range n).all (fun _=>true)=true:=List.all_eq_true.mpr fun _ _=>rfl
theorem Je (I:Inv X pins σ H s):∀(n:Nat) {t:TV} {x y:V} {v u:Value} {A:Around},Jd H n t x->Jd H n t y->RelV x v->RelV y u->A.units+n<cLine->SeqAt.EqAt A s v u true:=by
 have sc:∀ {v:V} {x y:V} {v1 u1:Value} {A:Around},(x=v/\kY v=true)->(y=v/\kY v=true)->RelV x v1->RelV y u1->SeqAt.EqAt A s v1 u1 true:=by
  rintro v x y v1 u1 A ⟨rfl,hx⟩ ⟨rfl,_⟩ r1 r2
  cases y with
  | non=>cases r1;cases r2;exact SeqAt.EqAt.same _
  | bl i=>cases r1;cases r2;exact SeqAt.EqAt.same _
  | int i=>
   obtain⟨t1,rfl⟩:=r1
   obtain⟨t2,rfl⟩:=r2
   have:=SeqAt.EqAt.int_int (A:=A) (s:=s) i t1 i t2
   rwa [beq_self_eq_true]at this
  | str i=>
   obtain⟨t1,rfl⟩:=r1
   obtain⟨t2,rfl⟩:=r2
   have:=SeqAt.EqAt.str_str (A:=A) (s:=s) i t1 i t2
   rwa [beq_self_eq_true]at this
  | _=>cases hx
 intro n;induction n with
 | zero=>
  intro t x y v u A h1 h2 r1 r2 hu;cases t with
  | sc z=>exact sc h1 h2 r1 r2
  | _=>exact h1.elim
 | succ n ih=>
  intro t x y v u A h1 h2 r1 r2 hu;cases t with
  | sc z=>exact sc h1 h2 r1 r2
  | tp ts=>
   obtain⟨a,xs,rfl,g1,p1⟩:=h1
   obtain⟨b,ys,rfl,g2,p2⟩:=h2
   cases r1
   cases r2
   by_cases hab:a=b
   ·subst hab;exact SeqAt.EqAt.same _
   ·obtain⟨its,ri,ti,_⟩:=I.tuple (SqT.of g1)
    obtain⟨its2,ri2,ti2,_⟩:=I.tuple (SqT.of g2)
    have el1:its.length=ts.length:=by rw[<- ri.length,p1.length]
    have el2:its2.length=ts.length:=by rw[<- ri2.length,p2.length]
    have key:=SeqAt.RcAt.tuples (A:=A) (s:=s) (e:=fun _=>true) ti ti2 Zo (fun j h1 h2=>by
     rw[eB]at h1 h2;obtain⟨h1',q1⟩:=Paired.get' (j:=j) ri h1
     obtain⟨h2',q2⟩:=Paired.get' (j:=j) ri2 h2
     obtain⟨h3,q3⟩:=Paired.get' (j:=j) p1 h1'
     obtain⟨h4,q4⟩:=Paired.get' (j:=j) p2 h2'
     simpa using ih q3 q4 q1 q2 (by rw[Pg];omega))
    have e:((List.range (min its.toArray.size its2.toArray.size)).all (fun _=>true)&&its.toArray.size == its2.toArray.size)=true:=by
     rw[jO,eB,eB,el1,el2,beq_self_eq_true];rfl
    rw[e]at key;exact SeqAt.EqAt.of_refs hab key
  | ls ts=>
   obtain⟨a,xs,rfl,g1,p1⟩:=h1
   obtain⟨b,ys,rfl,g2,p2⟩:=h2
   cases r1
   cases r2
   by_cases hab:a=b
   ·subst hab;exact SeqAt.EqAt.same _
   ·obtain⟨its,ri,ti,_⟩:=I.list (SqL.of g1)
    obtain⟨its2,ri2,ti2,_⟩:=I.list (SqL.of g2)
    have el1:its.length=ts.length:=by rw[<- ri.length,p1.length]
    have el2:its2.length=ts.length:=by rw[<- ri2.length,p2.length]
    have key:=SeqAt.RcAt.lists (A:=A) (s:=s) (e:=fun _=>true) ti.isList ti2.isList (by rw[eB,eB,el1,el2]) Zo (fun j h1 h2=>by
     rw[eB]at h1 h2;obtain⟨h1',q1⟩:=Paired.get' (j:=j) ri h1
     obtain⟨h2',q2⟩:=Paired.get' (j:=j) ri2 h2
     obtain⟨h3,q3⟩:=Paired.get' (j:=j) p1 h1'
     obtain⟨h4,q4⟩:=Paired.get' (j:=j) p2 h2'
     simpa using ih q3 q4 q1 q2 (by rw[Pg];omega))
    rw[jO]at key;exact SeqAt.EqAt.of_refs hab key
end
section
variable {X:Cx}
def aAE (neg:Bool):R2:=fun x y H Q=>∃n t,n<=50/\Jd H n t x/\Jd H n t y/\Q (.bl (!neg)) H
theorem Ph (neg:Bool) {pins:List (Addr × Obj)} {s:Shared} {σ:St} {H:Hp} {x y:V} {v u:Value} {Q:VK} {op:CmpOp} (hop:op=if neg then .NotEq else .Eq) (hu:X.A.units+64<cLine) (I:Inv X pins σ H s) (rx:RelV x v) (ry:RelV y u) (h:aAE neg x y H Q) :
  wpAny (model X.prog X.w) X.A (compareOp op v u) (EP X pins σ Q) X.xe s:=by
 obtain⟨n,t,hn,h1,h2,q⟩:=h
 have sc:∀z,t=.sc z->wpAny (model X.prog X.w) X.A (compareOp op v u) (EP X pins σ Q) X.xe s:=by
  rintro z rfl
  have e1:x=z/\kY z=true:=by cases n <;> exact h1
  have e2:y=z/\kY z=true:=by cases n <;> exact h2
  obtain⟨rfl,hx⟩:=e1
  obtain⟨rfl,_⟩:=e2
  have hs:L2.scal y y=true:=by cases y <;> first | rfl | cases hx
  cases neg with
  | true=>
   subst hop;exact Ry pins s σ H y y v u Q I rx ry ⟨hs,by simpa using q⟩
  | false=>
   subst hop;exact Rx pins s σ H y y v u Q I rx ry ⟨hs,by simpa using q⟩
 cases n with
 | zero=>
  cases t with
  | sc z=>exact sc z rfl
  | _=>exact h1.elim
 | succ n=>
  cases t with
  | sc z=>exact sc z rfl
  | tp ts=>
   obtain⟨a,xs,rfl,g1,p1⟩:=h1
   obtain⟨b,ys,rfl,g2,p2⟩:=h2
   cases rx
   cases ry
   obtain⟨its,ri,ti,_⟩:=I.tuple (SqT.of g1)
   obtain⟨its2,ri2,ti2,_⟩:=I.tuple (SqT.of g2)
   have el1:its.length=ts.length:=by rw[<- ri.length,p1.length]
   have el2:its2.length=ts.length:=by rw[<- ri2.length,p2.length]
   have each:∀j (h1:j<its.toArray.size) (h2:j<its2.toArray.size),SeqAt.EqAt X.A.in1 s its.toArray[j] its2.toArray[j] true:=fun j h1 h2=>by
    rw[eB]at h1 h2;obtain⟨h1',q1⟩:=Paired.get' (j:=j) ri h1
    obtain⟨h2',q2⟩:=Paired.get' (j:=j) ri2 h2
    obtain⟨h3,q3⟩:=Paired.get' (j:=j) p1 h1'
    obtain⟨h4,q4⟩:=Paired.get' (j:=j) p2 h2'
    simpa using Je I n q3 q4 q1 q2 (by rw[Pg];omega)
   have e:((List.range (min its.toArray.size its2.toArray.size)).all (fun _=>true)&&its.toArray.size == its2.toArray.size)=true:=by
    rw[jO,eB,eB,el1,el2,beq_self_eq_true];rfl
   cases neg with
   | true=>
    subst hop;have key:=SeqAt.RcNeAt.tuples (A:=X.A) (s:=s) (e:=fun _=>true) ti ti2 Zo each
    rw[e]at key;exact key _ _ _ _ ⟨.bl false,H,I,rfl,q⟩
   | false=>
    subst hop;have key:=SeqAt.RcAt.tuples (A:=X.A) (s:=s) (e:=fun _=>true) ti ti2 Zo each
    rw[e]at key;exact key _ _ _ _ ⟨.bl true,H,I,rfl,q⟩
  | ls ts=>
   obtain⟨a,xs,rfl,g1,p1⟩:=h1
   obtain⟨b,ys,rfl,g2,p2⟩:=h2
   cases rx
   cases ry
   obtain⟨its,ri,ti,_⟩:=I.list (SqL.of g1)
   obtain⟨its2,ri2,ti2,_⟩:=I.list (SqL.of g2)
   have el1:its.length=ts.length:=by rw[<- ri.length,p1.length]
   have el2:its2.length=ts.length:=by rw[<- ri2.length,p2.length]
   have each:∀j (h1:j<its.toArray.size) (h2:j<its2.toArray.size),SeqAt.EqAt X.A.in1 s its.toArray[j] its2.toArray[j] true:=fun j h1 h2=>by
    rw[eB]at h1 h2;obtain⟨h1',q1⟩:=Paired.get' (j:=j) ri h1
    obtain⟨h2',q2⟩:=Paired.get' (j:=j) ri2 h2
    obtain⟨h3,q3⟩:=Paired.get' (j:=j) p1 h1'
    obtain⟨h4,q4⟩:=Paired.get' (j:=j) p2 h2'
    simpa using Je I n q3 q4 q1 q2 (by rw[Pg];omega)
   cases neg with
   | true=>
    subst hop;have key:=SeqAt.RcNeAt.lists (A:=X.A) (s:=s) (e:=fun _=>true) ti.isList ti2.isList (by rw[eB,eB,el1,el2]) Zo each
    rw[jO]at key;exact key _ _ _ _ ⟨.bl false,H,I,rfl,q⟩
   | false=>
    subst hop;have key:=SeqAt.RcAt.lists (A:=X.A) (s:=s) (e:=fun _=>true) ti.isList ti2.isList (by rw[eB,eB,el1,el2]) Zo each
    rw[jO]at key;exact key _ _ _ _ ⟨.bl true,H,I,rfl,q⟩
theorem R.ii (hu:X.A.units+64<cLine):jF X (compareOp .NotEq) (aAE true):=⟨fun pins s σ H x y v u Q I rx ry h=>Ph true rfl hu I rx ry h⟩
theorem R.ij {st:Stmt}:XS X st (fun _ _ _=>False):=⟨fun pins s σ H D I h=>h.elim⟩
end
end L2
namespace L2
open PySem PySem.Spec PyProof.Rows
theorem Wl (a b:Str):ltCps b.cps.toList a.cps.toList=false↔a.cps.toList<=b.cps.toList:=by
 rw[ltCps_eq,decide_eq_false_iff_not];exact Iff.rfl
theorem Jf {a b:Str} (h:a.cps.toList=b.cps.toList):a=b:=by rw[pR a,pR b,h]
theorem hJ:∀(l:List Str) (p:Str),risingS p l=true->(p::l).Pairwise (fun a b=>a.cps.toList<=b.cps.toList)
 | [],p,_=>List.pairwise_singleton _ _
 | x::r,p,h=>by
  unfold risingS at h;rw[Bool.and_eq_true]at h;obtain⟨h1,h2⟩:=h
  have ih:=hJ r x h2
  have hpx:p.cps.toList<=x.cps.toList:=(Wl p x).mp (by simpa using h1)
  refine List.pairwise_cons.mpr ⟨fun y hy=>?_,ih⟩
  rcases List.mem_cons.mp hy with rfl | hy
  ·exact hpx
  ·exact List.le_trans hpx ((List.pairwise_cons.mp ih).1 y hy)
theorem nF:∀(l:List Str),sortedS l=true->l.Pairwise (fun a b=>a.cps.toList<=b.cps.toList)
 | [],_=>List.Pairwise.nil
 | x::r,h=>hJ r x h
theorem oC:∀(l m:List Str),l.Perm m->l.Pairwise (fun a b=>a.cps.toList<=b.cps.toList)->m.Pairwise (fun a b=>a.cps.toList<=b.cps.toList)->l=m
 | [],m,hp,_,_=>(List.nil_perm.mp hp).symm
 | a::l,[],hp,_,_=>(List.perm_nil.mp hp)
 | a::l,b::m,hp,h1,h2=>by
  obtain⟨p1,p2⟩:=List.pairwise_cons.mp h1
  obtain⟨q1,q2⟩:=List.pairwise_cons.mp h2
  have e:a=b:=by
   have ma:a∈b::m:=hp.mem_iff.mp jI
   have mb:b∈a::l:=hp.mem_iff.mpr jI
   rcases List.mem_cons.mp ma with h | h
   ·exact h
   ·rcases List.mem_cons.mp mb with h' | h'
    ·exact h'.symm
    ·exact Jf (List.le_antisymm (p1 b h') (q1 a h))
  subst e;rw[oC l m (List.Perm.cons_inv hp) p2 q2]
def vT (ss:List Str):List Str:=ss.mergeSort (fun a b=>decide (a.cps.toList<=b.cps.toList))
theorem lM (ss:List Str):(vT ss).Perm ss:=List.mergeSort_perm _ _
theorem pS (ss:List Str):(vT ss).Pairwise (fun a b=>a.cps.toList<=b.cps.toList):=by
 have:=List.pairwise_mergeSort (le:=fun(a b:Str)=>decide (a.cps.toList<=b.cps.toList)) (fun a b c h1 h2=>decide_eq_true (List.le_trans (of_decide_eq_true h1) (of_decide_eq_true h2))) (fun a b=>by
  rcases List.le_total a.cps.toList b.cps.toList with h | h
  ·simp [h]
  ·simp [h]) ss
 exact this.imp fun h=>of_decide_eq_true h
theorem Wm {ss ss':List Str} (hp:ss'.Perm ss) (hs:sortedS ss'=true):ss'=vT ss:=
 oC _ _ (hp.trans (lM ss).symm) (nF _ hs) (pS ss)
theorem uG (ss:List Str):(vT ss).length=ss.length:=(lM ss).length_eq
section
variable {prog:Program} {w:World} {A:Around} {E:Value->Shared->Prop} {s:Shared}
theorem pT {l:Addr} {T:String} {o:Obj} {vs:List Value} {ss:List Str} {n:Nat} {Q:Value->Shared->Prop} (hT:T="list"∨T="tuple") (ho:s.heap.get? l=some o) (hc:o.cls=.type T) (hd:o.data=.seq vs.toArray n) (hS:StrsAre vs ss) (h64:vs.length<64)
  (h:∀(h1 h':Heap) (out:Array Value) (e:Nat),(∀b ob,s.heap.get? b=some ob->h1.get? b=some ob)->(∀b ob,h1.get? b=some ob->h'.get? b=some ob)->h'.get? h1.objs.size=some (seqObj "list" out e)->StrsAre out.toList (vT ss)->Q (.ref h1.objs.size) {s with heap:=h' }) :
  wpAny (model prog w) A (call (.builtin "sorted") [.ref l]) Q E s:=by
 apply Calls.call_function_entry kind_sorted plain_sorted entry_sorted (args_sorted1 _)
 unfold Builtin.«sorted»
 apply wpAny_bind (m:=checkCount "sorted" 1 1 _)
 apply wpAny_pure
 apply wpAny_bind
 refine wpAny_collect_seq l hT ho hc hd (fun h1 k1=>?_) (by rw[eB];exact kN (Nat.le_of_lt h64) Zd)
 have e1:vs.toArray.toList=vs:=by simp
 rw[e1];apply wpAny_bind
 apply wpAny_newList
 ·have g2:(h1.push (seqObj "list" vs.toArray 0)).get? h1.objs.size=some (seqObj "list" vs.toArray 0):=Heap.get?_push_size _ rfl
  apply wpAny_bind
  apply wpAny_holding
  refine wpAny_call_entry slot_list_sort ⟨_,g2,rfl⟩ entry_list_sort (list_sort_treeK strKind_oneLt g2 hS.keysOf (fun v₁ v₂ rest e=>keyKind_strs (by rw[<- e];exact hS)) h64 fun st' hp hs=>⟨_,rfl,wpAny_pure ⟨_,rfl,?_⟩⟩) (args_list_sort _)
  obtain⟨ss',q1,q2,q3⟩:=sorted_out_str hS hp hs
  obtain⟨e,he⟩:=sortedHeap_at (out:=(arrOf st').map (·.2)) g2
  refine h h1 _ _ e k1 (fun b ob hb1=>?_) he (Wm q2 q3 ▸ q1)
  have hlt:=Heap.lt_size hb1
  rw[sortedHeap_old (Nat.ne_of_lt hlt) (by rw[size_push'];exact Nat.lt_succ_of_lt hlt)]
  exact eP _ hb1
 ·exact kN (Nat.le_of_lt h64) Zd
end
theorem sF:∀ {vs:List Value} {ss:List Str},StrsAre vs ss->Vals (ss.map V.str) vs
 | _,_,.nil=>.nil
 | _,_,.cons x t h=>.cons ⟨t,rfl⟩ (sF h)
section
variable {X:Cx}
def uH (K:W.Frag):List V->Hp->VK->Prop:=fun vs H Q=>match vs with
 | [.ref a]=>∃ss:List Str,(SqL K H a (ss.map V.str)∨SqT K H a (ss.map V.str))/\ss.length<64/\∀l,H l=none->Q (.ref l) (aI H l (.lst ((vT ss).map V.str)))
 | _=>False
theorem Jg:CallR X (.builtin "sorted") (uH X.K):=by
 intro pins s σ H xs us Q I r h;unfold uH at h;split at h
 ·rename_i a
  obtain⟨ss,hq,h64,q⟩:=h
  obtain⟨u,rfl,ru⟩:=jE r
  cases ru
  have fin:∀(h1 h':Heap) (out:Array Value) (e:Nat),(∀c ob,s.heap.get? c=some ob->h1.get? c=some ob)->(∀c ob,h1.get? c=some ob->h'.get? c=some ob)->h'.get? h1.objs.size=some (seqObj "list" out e)->StrsAre out.toList (vT ss)->EP X pins σ Q (.ref h1.objs.size) {s with heap:=h' }:=fun h1 h' out e k1 k he hS=>by
   have I1:=I.kept (t':=s.toks) k1
   refine⟨.ref h1.objs.size,_,I1.laid (t':=s.toks) (o:=.lst ((vT ss).map V.str)) k (bQ _) ?_,rfl,q _ (I1.hok.fresh (bQ _))⟩
   refine⟨?_,out.toList,e,sF hS,he⟩
   rw[aZ,uG];exact kN (Nat.le_of_lt h64) Zd
  rcases hq with hq | hq
  ·obtain⟨its,r1,p1,_⟩:=I.list hq
   obtain⟨o,ho,hc,n,hd⟩:=p1.isList
   have hl:=r1.length
   rw[aZ]at hl;exact pT (.inl rfl) ho hc hd (kX r1) Zo fin
  ·obtain⟨its,r1,p1,_⟩:=I.tuple hq
   obtain⟨o,ho,hc,n,hd⟩:=p1
   have hl:=r1.length
   rw[aZ]at hl;exact pT (.inr rfl) ho hc hd (kX r1) Zo fin
 ·exact h.elim
theorem R.ik {K:W.Frag} (hK:X.K=K:=by rfl):XC X (.builtin "sorted") (uH K):=hK ▸ ⟨Jg⟩
end
end L2
namespace L2
open PySem PySem.Spec PyProof.Rows
def TK (H H':Hp):Prop:=∀a xs,H a=some (.tup xs)->H' a=some (.tup xs)
theorem TK.trans {H H1 H2:Hp} (a:TK H H1) (b:TK H1 H2):TK H H2:=fun p xs h=>b p xs (a p xs h)
theorem Same.tk {H H':Hp} (s:Same H H'):TK H H':=fun a xs h=>s _ _ h
theorem Kp.tk {H H':Hp} {d b:Addr} (D:Dk H d b) (k:Kp d b H H'):TK H H':=fun a xs h=>k _ _ h (D.tup_ne h).1 (D.tup_ne h).2
theorem fZ {H:Hp} {l:Addr} {xs ys:List V} (g:H l=some (.lst xs)):TK H (aI H l (.lst ys)):=fun a zs h=>by
 have:a≠l:=fun e=>by rw[e,g]at h;cases h
 rw[aD this];exact h
def RepT (H:Hp):Nat->TV->V->Prop
 | 0,.sc v,x=>x=v/\kY v=true
 | _+1,.sc v,x=>x=v/\kY v=true
 | n+1,.tp ts,x=>∃a xs,x=.ref a/\H a=some (.tup xs)/\Paired (RepT H n) ts xs
 | _,_,_=>False
theorem RepT.scal {H:Hp} {n:Nat} {v:V} (h:kY v=true):RepT H n (.sc v) v:=by
 cases n <;> exact⟨rfl,h⟩
theorem RepT.s {H:Hp} {n:Nat} {z:Str}:RepT H n (.sc (.str z)) (.str z):=.scal rfl
theorem RepT.i {H:Hp} {n:Nat} {z:Int}:RepT H n (.sc (.int z)) (.int z):=.scal rfl
section
variable {X:Cx} {es:List Expr} {t:TA} {pos:Pos}
def Sl (t:TA):TE:=fun σ H Q=>t σ H fun xs H1=>xs.length<=1000/\∀p H',Same H1 H'->H' p=some (.tup xs)->Q (.ref p) H'
theorem Pi {x1} (h:PA X es t):PE X (.Tuple es x1 pos) (Sl t):=by
 intro pins s σ H Q I hq;refine wpAny_Tuple_spliced (bU (h pos pins s σ H _ I hq) fun us s1 ⟨xs,H1,I1,r,z,q⟩=>⟨by rw[<- r.length];exact fA z,?_⟩)
 have hf:H1 s1.heap.objs.size=none:=I1.hok.fresh (bQ _)
 refine⟨.ref s1.heap.objs.size,aI H1 s1.heap.objs.size (.tup xs),I1.laid (t':=s1.toks) (fun b u e=>eP _ e) (bQ _) ?_,rfl,q _ _ (aF hf) aA⟩
 exact⟨fA z,us,r,⟨_,Heap.get?_push_size _ rfl,rfl,_,rfl⟩⟩
theorem R.aq {x1} (h:XA X es t):XE X (.Tuple es x1 pos) (Sl t):=⟨Pi h.h⟩
end
end L2
namespace L2
open PySem PySem.Spec PyProof.Rows
abbrev Z:=Addr × Str × Int
def Ee (H:Hp) (zs:List Z):Prop:=∀z∈zs,H z.1=some (.tup [.str z.2.1,.int z.2.2])
def fF (zs:List Z):List V:=zs.map fun z=>V.ref z.1
section
variable {X:Cx} {pins:List (Addr × Obj)} {σ:St} {H:Hp} {s:Shared}
theorem nG:∀ {xs:List V} {vs:List Value} (i:Nat),Vals xs vs->i<xs.length->∀x,xs[i]?=some x->RelV x (vs.getD i Value.none)
 | x::xs,v::vs,0,.cons r rs,_,y,hy=>by
  cases hy
  exact r
 | x::xs,v::vs,i+1,.cons r rs,hi,y,hy=>by
  have:=nG i rs (by simpa using hi) y (by simpa using hy)
  simpa using this
end
end L2
namespace L2
open PySem PySem.Spec PyProof.Rows
theorem uI:typeLookup (.type "list") "keys"=pure none:=am_miss_of_fast (by kernel_rfl)
theorem jZ:plainId "dict.update.loop"=true:=by decide +kernel
theorem sI:entryFor table "dict.update.loop"=some Builtin.«dict.update.loop»:=entryFor_of_tree (by kernel_rfl)
section
variable {prog:Program} {w:World} {A:Around} {E:Value->Shared->Prop} {s:Shared}
theorem Pj {a:Addr} {o:Obj} {xs:Array Value} {k:Nat} {Q:Option Value->Shared->Prop} (hx:s.heap.get? a=some o) (hc:o.cls=.type "list") (hdat:o.data=.seq xs k) (hd:o.dict=none) (hA:A.handled=none)
  (h:∀h' tk,(∀b ob,s.heap.get? b=some ob->h'.get? b=some ob)->Q none {s with heap:=h',toks:=tk }):wpAny (model prog w) A (getAttr? (.ref a) "keys") Q E s:=by
 obtain⟨c,dct,dat,sl⟩:=o
 simp only at hc hdat hd
 subst hc hdat hd;obtain⟨hp,g,d,tk,os⟩:=s
 have hT:∀tk',(⟨hp,g,d,tk',os⟩:Shared).TypeIs (.ref a) "list":=fun _=>⟨_,hx,rfl⟩
 have f1:=sub_AttributeError
 have f3:=F.slot_list_getattribute.lookup
 have f4:=F.slot_list_getattribute.bind (.ref a)
 have f5:=am_list_getattr_none
 have f6:=uI
 unfold getAttr? getAttrBy? getAttrBy
 repeat (any_goals (first | assumption | exact hT _ | ((with_reducible show wpAny _ _ (call (Value.builtin "list.__getattribute__") _ _) _ _ _);refine call_meets F.slot_list_getattribute (hT _) am_entry_list_getattribute (F.args_list_getattribute_2 _ _) (meets_getattribute_miss_list a xs k sl "keys" _ f6 Zk) ⟨hx,hA,fun h' tk' e hx'=>?_⟩) | wp_step))
 obtain⟨t',u',he⟩:=hx'.there
 show wpAny _ _ (getattributeRaised _ _ _ _ _ _ _) _ _ _
 unfold getattributeRaised;repeat (any_goals (first | assumption | wp_step))
 exact h _ _ hx'.keeps
def Sm (h:Heap) (v:Value) (q:bA × V):Prop:=∃a u x,v=Value.ref a/\IsTup h a #[u,x]/\RelV (kV q.1) u/\RelV q.2 x
theorem Jh (hh:A.handled=none) {I l d:Addr} {its:List Value} {qs:List (bA × V)} {R:Result->Shared->Prop} {res:Value} (hIl:I≠l) (hId:I≠d) (hld:l≠d) :
  ∀(k i:Nat) (s:Shared) (kvs:List (bA × V)) (vs:List (bA × Value)) (z:Int),its.length - i=k->i<=its.length->qs.length=its.length->s.heap.IsListIter I l i->s.heap.IsList l its.toArray->(∀(j:Nat) (v:Value) (q:bA × V),its[j]?=some v->qs[j]?=some q->Sm s.heap v q) →
  (∀(j:Nat) (v:Value) (a:Addr),its[j]?=some v->v=Value.ref a->a≠I/\a≠d)->s.heap.DictOf (aT prog w) d vs->KV kvs vs->kvs.length+k<=1000 →
  (∀h' tk vs',(∀b ob,b≠I->b≠d->s.heap.get? b=some ob->h'.get? b=some ob)->h'.DictOf (aT prog w) d vs'->KV (bD kvs (qs.drop i)) vs'->R (.ok (.ret res)) {s with heap:=h',toks:=tk }) →
  codeAny (model prog w) A (.builtin "dict.update.loop" ⟨[.ref d,.ref I,.int z 0,res],[]⟩) R s:=by
 intro k;induction k with
 | zero=>
  intro i s kvs vs z hk hi hql hit hl hp hne hd rel hz hR;obtain rfl:i=its.length:=by omega
  refine codeAny_builtin sI ?_
  rw[Around.under_plainId jZ _];show wpAny _ A.in1 (pyNext (.ref I) >>= _) _ _ s
  apply wpAny_bind
  refine wpAny_pyNext_list_end hh hit hl Zs fun h' eb=>?_
  show wpAny _ A.in1 (Builtin.Dict.addKeywords d [] >>= _) _ _ _
  apply wpAny_bind
  apply wpAny_pure
  apply wpAny_pure
  refine hR h' s.toks vs (fun b ob hb _ e=>eb b ob hb e) (hd.extBut eb hId.symm) ?_
  rw[<- hql,List.drop_length];exact rel
 | succ k ih=>
  intro i s kvs vs z hk hi hql hit hl hp hne hd rel hz hR;have hlt:i<its.length:=by omega
  obtain⟨v,hv⟩:∃v,its[i]?=some v:=⟨its[i],by simp [hlt]⟩
  obtain⟨q,hq⟩:∃q,qs[i]?=some q:=⟨qs[i],by simp [hql,hlt]⟩
  obtain⟨a,u,x,rfl,⟨ob,hob,hoc,n,hod⟩,ru,rx⟩:=hp i v q hv hq
  obtain⟨na,nd⟩:=hne i _ a hv rfl
  refine codeAny_builtin sI ?_
  rw[Around.under_plainId jZ _];show wpAny _ A.in1 (pyNext (.ref I) >>= _) _ _ s
  apply wpAny_bind
  refine wpAny_pyNext_list_item hit hl (x:=.ref a) (by simpa using hv) fun h' hit' sb=>?_
  have hob':h'.get? a=some ob:=(sb.2 a na).trans hob
  have hd':h'.DictOf (aT prog w) d vs:=hd.extBut sb.extBut hId.symm
  apply wpAny_bind
  apply wpAny_holding
  apply wpAny_bind
  apply wpAny_tryCatch
  unfold Builtin.Dict.pairItems;apply wpAny_bind
  refine wpAny_typeOf (T:="tuple") ⟨ob,hob',hoc⟩ ?_
  rw[if_pos Zd]
  apply wpAny_bind
  refine wpAny_seqItems hob' hod ?_
  apply wpAny_pure
  show wpAny _ _ (holding [u,x] (dictSet d u x)) _ _ _
  apply wpAny_holding
  have hvl:vs.length<=sizeLine:=by rw[<- rel.length];exact fA Zo
  refine wpAny_dictSet_pairs (s:={s with heap:=h' }) (nZ ru) hd' (fun h2 hd2 sb2=>?_) hvl
  apply wpAny_pure
  refine⟨plainId_quiet jZ _,?_⟩
  have hl0:=dW kvs q.1 q.2
  have ex:∀b o,b≠I->b≠d->s.heap.get? b=some o->h2.get? b=some o:=fun b o b1 b2 e=>(sb2.2 b b2).trans ((sb.2 b b1).trans e)
  refine ih (i+1) _ (bN kvs q.1 q.2) (stored vs q.1 x) _ Zo Zo hql ?_ ?_ ?_ hne hd2 (rel.put q.1 rx) Zo fun h3 tk vs' k3 hd3 rel3=>?_
  ·exact hit'.at fun o e=>(sb2.2 I hId).trans e
  ·obtain⟨o,e,r⟩:=hl
   exact⟨o,ex l o hIl.symm hld e,r⟩
  ·intro j v q' hj hq';obtain⟨a',u',x',rfl,⟨o',ho',r'⟩,rr⟩:=hp j v q' hj hq'
   obtain⟨n1,n2⟩:=hne j _ a' hj rfl
   exact⟨a',u',x',rfl,⟨o',ex a' o' n1 n2 ho',r'⟩,rr⟩
  ·refine hR h3 tk vs' (fun b o b1 b2 e=>k3 b o b1 b2 (ex b o b1 b2 e)) hd3 ?_
   have e1:qs.drop i=q::qs.drop (i+1):=by
    rw[List.drop_eq_getElem_cons Zo]
    congr 1
    have:qs[i]?=some qs[i]:=gZ Zo
    rw[this]at hq;exact Option.some.inj hq
   rw[e1];exact rel3
theorem wI (hh:A.handled=none) {l:Addr} {o:Obj} {n:Nat} {its:List Value} {qs:List (bA × V)} {Q:Value->Shared->Prop} (hlo:s.heap.get? l=some o) (hlc:o.cls=.type "list") (hld:o.data=.seq its.toArray n) (hldd:o.dict=none) (hql:qs.length=its.length)
  (hp:∀(j:Nat) (v:Value) (q:bA × V),its[j]?=some v->qs[j]?=some q->Sm s.heap v q) (hz:its.length<=1000)
  (h:∀h' tk vs',(∀b ob,s.heap.get? b=some ob->h'.get? b=some ob)->h'.DictOf (aT prog w) s.heap.objs.size vs'->KV (bD [] qs) vs'->Q (.ref s.heap.objs.size) {s with heap:=h',toks:=tk }) :
  wpAny (model prog w) A (call (.type "dict") [.ref l]) Q E s:=by
 refine callType_codes (Q₁:=fun obj s₁=>obj=.ref s.heap.objs.size/\s₁={s with heap:=s.heap.push {cls:=.type "dict",data:=.dict #[] } }) F.kt_called_dict (F.kt_typeCall_dict_1 _) F.entry_dict_init (kt_code_dict_new _ ⟨rfl,rfl⟩) ?_
 rintro obj s₁ ⟨rfl,rfl⟩
 have hnew:(s.heap.push {cls:=.type "dict",data:=.dict #[] }).DictOf (aT prog w) s.heap.objs.size []:=Heap.DictOf.new s.heap
 have hl1:(s.heap.push {cls:=.type "dict",data:=.dict #[] }).get? l=some o:=eP _ hlo
 refine⟨hnew.typeIs,F.args_dict_init_2 _ _,?_⟩
 unfold Builtin.«dict.__init__»
 apply wpAny_bind
 unfold Builtin.Dict.selfAndRest;apply wpAny_bind
 refine wpAny_notOrdered_dict hnew.typeIs ?_
 show wpAny _ _ (pure (s.heap.objs.size,[Value.ref l])) _ _ _
 apply wpAny_pure
 show wpAny _ _ (Builtin.Dict.updateFrom "dict.__init__" s.heap.objs.size (.ref l) [] .none) _ _ _
 unfold Builtin.Dict.updateFrom;apply wpAny_bind
 refine wpAny_typeOf (T:="list") ⟨o,hl1,hlc⟩ ?_
 rw[if_pos Zd]
 apply wpAny_bind
 refine Pj hl1 hlc hld hldd hh fun h1 tk k1=>?_
 rw[if_pos (show(none:Option Value).isNone=true from rfl)];apply wpAny_bind
 apply wpAny_rule
 have hl2:h1.get? l=some o:=k1 _ _ hl1
 have hL2:h1.IsList l its.toArray:=⟨o,hl2,hlc,n,hld⟩
 have hd2:h1.DictOf (aT prog w) s.heap.objs.size []:=by
  obtain⟨oo,es,ep,ho,r⟩:=hnew
  exact⟨oo,es,ep,k1 _ _ ho,r⟩
 have szl1:s.heap.objs.size<h1.objs.size:=by
  obtain⟨oo,es,ep,ho,r⟩:=hd2
  exact Heap.lt_size ho
 have ltl:l<s.heap.objs.size:=Heap.lt_size hlo
 apply wpAny_bind
 refine wpAny_pyIter_list (s:={s with heap:=h1,toks:=tk }) hL2 ?_
 apply wpAny_pure
 refine⟨plainId_quiet jZ _,?_⟩
 refine Jh (A:=A.in1) (s:={s with heap:=h1.push {cls:=.type "list_iterator",data:=.fields #[.ref l,.int 0 0] },toks:=tk }) (its:=its) (qs:=qs) (l:=l) hh (Nat.ne_of_gt (Nat.lt_trans ltl szl1)) (Nat.ne_of_gt szl1) (Nat.ne_of_lt ltl) its.length 0 [] [] 0 rfl (Nat.zero_le _) hql ⟨_,Heap.get?_push_size _ rfl,rfl,rfl⟩ ?_ ?_ ?_ (hd2.push _) .nil (by simpa using hz) ?_
 ·exact⟨o,eP _ hl2,hlc,n,hld⟩
 ·intro j v q hj hq;obtain⟨a,u,x,rfl,⟨ob,hob,r⟩,rr⟩:=hp j v q hj hq
  exact⟨a,u,x,rfl,⟨ob,eP _ (k1 _ _ (eP _ hob)),r⟩,rr⟩
 ·intro j v a hj e;obtain⟨q,hq⟩:∃q,qs[j]?=some q:=by
   have:j<its.length:=(Zgs.mp hj).1
   exact⟨qs[j],by simp [hql,this]⟩
  obtain⟨a',u,x,e',⟨ob,hob,r⟩,rr⟩:=hp j v q hj hq
  rw[e]at e';cases e'
  have:=Heap.lt_size hob
  exact⟨Nat.ne_of_lt (Nat.lt_trans this szl1),Nat.ne_of_lt this⟩
 ·intro h' tk' vs' k' hd' rel';refine⟨rfl,h h' tk' vs' (fun b ob e=>?_) hd' rel'⟩
  have:=Heap.lt_size e
  exact k' b ob (Nat.ne_of_lt (Nat.lt_trans this szl1)) (Nat.ne_of_lt this) (eP _ (k1 _ _ (eP _ e)))
end
section
variable {X:Cx}
abbrev W:=Addr × bA × V
def WAt (H:Hp) (zs:List W):Prop:=∀z∈zs,H z.1=some (.tup [kV z.2.1,z.2.2])
def uJ (K:W.Frag):List V->Hp->VK->Prop:=fun vs H Q=>match vs with
 | [.ref a]=>∃zs:List W,SqL K H a (zs.map fun z=>V.ref z.1)/\WAt H zs/\zs.length<=1000/\∀d,H d=none->Q (.ref d) (aI H d (.dK (bD [] (zs.map (·.2)))))
 | _=>False
theorem Ji (hcm:X.calm=true):CallR X (.type "dict") (uJ X.K):=by
 intro pins s σ H xs us Q I r h;unfold uJ at h;split at h
 ·rename_i a
  obtain⟨zs,hq,hz,h1000,q⟩:=h
  obtain⟨u,rfl,ru⟩:=jE r
  cases ru
  obtain⟨its,r1,p1,_⟩:=I.list hq
  obtain⟨o,n,ho,hc,hdd,hd⟩:=p1
  have hl:zs.length=its.length:=by
   have:=r1.length
   rw[aZ]at this;exact this
  refine wI (I.ok.hd hcm) ho hc hd hdd (qs:=zs.map (·.2)) (by rw[aZ];exact hl) (fun j v q' hj hq'=>?_) Zo fun h' tk vs' k hd rel=>?_
  ·rw[jC]at hq';cases hzj:zs[j]? with
   | none=>rw[hzj]at hq';cases hq'
   | some z=>
    rw[hzj]at hq';cases hq'
    have e:=hz z (jW hzj)
    obtain⟨_,its2,r2,it⟩:=(show ObjOk X.prog X.w H s.heap z.1 (.tup [kV z.2.1,z.2.2]) from I.hok _ _ e)
    have hj2:j<zs.length:=(Zgs.mp hzj).1
    have rv:RelV (V.ref z.1) (its.getD j Value.none):=nG j r1 (by rw[aZ];exact hj2) _ (by rw[jC,hzj];rfl)
    have ev:its.getD j Value.none=v:=by rw[List.getD_eq_getElem?_getD,hj];rfl
    rw[ev]at rv;cases rv
    cases r2 with
    | cons a1 r3=>
     cases r3 with
     | cons a2 r4=>
      cases r4
      exact⟨z.1,_,_,rfl,it,a1,a2⟩
  ·have hf:H s.heap.objs.size=none:=I.hok.fresh (bQ _)
   refine⟨.ref s.heap.objs.size,_,I.laid (t':=tk) (o:=.dK (bD [] (zs.map (·.2)))) k (bQ _) ⟨?_,?_,vs',rel,hd⟩,rfl,q _ hf⟩
   ·have:=eU (zs.map (·.2)) []
    rw[aZ]at this;exact fA (by simp at this;omega)
   ·have hb:=I.big
    exact beq_eq_false_iff_ne.mpr (Nat.ne_of_gt hb)
 ·exact h.elim
theorem R.il {K:W.Frag} (hcm:X.calm=true) (hK:X.K=K:=by rfl):XC X (.type "dict") (uJ K):=hK ▸ ⟨Ji hcm⟩
end
end L2
namespace L2
open PySem PySem.Spec PyProof.Rows
def aAF (K:W.Frag) (te:TE) (f:Str):TE:=fun σ H Q=>te σ H fun x H1=>mR x fun a=>∃C dx fs v,H1 a=some (.ins C dx fs)/\Cls K C/\NoAttr K C f/\fs.lookup f=some v/\Q v H1
def Sn (K:W.Frag) (ta tv:TE) (f:Str):TS:=fun D σ H=>tv σ H fun y H1=>ta σ H1 fun x H2=>mR x fun a=>∃C dx fs,H2 a=some (.ins C dx fs)/\Cls K C/\NoAttr K C f/\fs.length<1000/\D.nx σ (aI H2 a (.ins C dx (bL f y fs)))
section
variable {X:Cx} {e o value:Expr} {f:Str} {pos pos':Pos} {te ta tv:TE} {K:W.Frag}
theorem Pk (he:PE X e te) (hb:attributeBase e f X.env (eval e X.env)=eval e X.env):PE X (.Attribute e f pos) (aAF X.K te f):=by
 intro pins s σ H Q I h;refine Al hb (bU (he pins s σ H _ I h) fun u s1 ⟨x,H1,I1,rx,q1⟩=>?_)
 dsimp only at q1
 rw[dY]at q1;obtain⟨a,rfl,C,dx,fs,v,ea,c,n,l,q⟩:=q1
 obtain rfl:u=Value.ref a:=rx
 exact yF I1 ea c n l fun u' s2 I2 ru=>⟨v,H1,I2,ru,q⟩
theorem Pl (ha:PE X o ta) (hv:PE X value tv) (hs:swapsWith value (some (.Attribute o f pos')) pos.line X.env=pure false):PS X (.Assign [.Attribute o f pos'] value pos) (Sn X.K ta tv f):=by
 intro pins s σ H D I h;refine plainObj_wpAny_Assign_Attribute (bU (hv pins s σ H _ I h) fun u s1 ⟨y,H1,I1,ry,q⟩=>bU (ha pins s1 σ H1 _ I1 q) fun ov s2 ⟨x,H2,I2,rx,q1⟩=>?_) hs
 dsimp only at q1
 rw[dY]at q1;obtain⟨a,rfl,C,dx,fs,ea,c,n,l,q2⟩:=q1
 obtain rfl:ov=Value.ref a:=rx
 exact yH I2 ea c n l ry fun s3 I3=>⟨σ,_,I3,q2⟩
end
structure sJ (P:Program) (w:World) (K:W.Frag) (mg:Str->Option Value) (base:Heap) (n:Nat) (C:Addr) (m:Str) (ps:List Str) (sp:Sp):Prop where
 ex:∃f fd,Cls K C/\Uu K C m f/\iE P w K mg base qW n f fd ps sp/\Binds K fd ps []
structure Wn (P:Program) (w:World) (K:W.Frag) (mg:Str->Option Value) (base:Heap) (n:Nat) (x:Str) (C:Addr) (ps:List Str) (dvs:List V) (sp:Sp):Prop where
 ex:∃f fd ds,mg x=some (.ref C)/\Mk K C f/\iE P w K mg base qW n f fd ps sp/\Binds K fd ps ds/\Vals dvs ds
def So (C:Addr) (m:Str) (sp:Sp) (ta:TE) (t:TA):TE:=fun σ H Q=>ta σ H fun x H1=>mR x fun a=>∃dx fs,H1 a=some (.ins C dx fs)/\fs.lookup m=none/\t σ H1 fun vs H2=>sp (.ref a::vs) H2 Q E0
section
variable {X:Cx} {e o:Expr} {es:List Expr} {m x:Str} {p pos apos:Pos} {ta:TE} {t:TA} {C:Addr} {n:Nat} {ps:List Str} {sp:Sp} {dvs:List V}
theorem Jj {pl:Sem Bool} (he:PE X o ta) (c:sJ X.prog X.w X.K X.mg X.base n C m ps sp) (hr:Room n X.A) (ha:PA X (e::es) t) (hs:aM e=true) (hpl:(backTo pos (starEach es X.env)).any (·.1)=false)
  (ht:eval (.Call (.Attribute o m apos) (e::es) [] pos) X.env=(do
   let ov ← eval o X.env
   standAt apos.atName
   let (f,first) ← holding [ov] (getMethod ov m pl)
   callWith pos f first (backTo pos (starEach (e::es) X.env)) (backToKw pos (keywordEach [] X.env)))) :
  PE X (.Call (.Attribute o m apos) (e::es) [] pos) (So C m sp ta t):=by
 obtain⟨f,fd,cl,hm,F,hb⟩:=c.ex
 intro pins s σ H Q I h;refine W.methodCall_KW (pl:=pl) (bU (he pins s σ H _ I h) fun u s1 ⟨x,H1,I1,rx,q1⟩=>?_) ht
 dsimp only at q1
 rw[dY]at q1;obtain⟨a,rfl,dx,fs,ea,l,q⟩:=q1
 obtain rfl:u=Value.ref a:=rx
 refine yG I1 ea cl hm l ?_
 refine W.callWith_K (first:=[.ref a]) (h₀:=X.base) I.ok.mod.kin hm.kp (bU (ha pos pins s1 σ H1 _ I1 q) fun us s2 ⟨vs,H2,I2,r,q2⟩=>⟨I2.kIn,?_⟩) (bB hs) hpl
 exact Gr (us:=.ref a::us) (vs:=.ref a::vs) (dvs:=[]) (ds:=[]) F hr hb .nil Av I2 (.cons rfl r) (by rw[List.append_nil];exact q2)
end
structure FunD (K:W.Frag) (x qual:Str) (st:Stmt) (dv:Value) (f:Addr) (fd:FuncData):Prop where
 ex:∃(oc:Value) (od:Option Addr) (kV doc pm:Value) (an:Option Addr) (cdv ct:Value) (osl:Array (Option Value)),
  fd=W.fnOf x qual (bZ st) (aV st) (aB st) dv kV doc pm an cdv ct/\K.lookup f=some ⟨oc,od,.func fd,osl⟩/\W.codeIn K cdv qual=true
section
variable {P:Program} {w:World} {K:W.Frag} {mg:Str->Option Value} {base:Heap} {x qual:Str} {st:Stmt} {dv:Value} {f C:Addr} {fd:FuncData} {N ps:List Str} {k:Nat} {sp:Sp}
theorem FunD.go (F:FunD K x qual st dv f fd) (S:aJ N ps (aB st)) (len:∀vs H Q E,sp vs H Q E->vs.length=ps.length)
  (hbody:∀(cdv:Value) (A:Around) (outer:List Env) (s:Shared) (H:Hp) (vs:List V) (Q:VK) (E:XK),Room k (A.deeper (envOfC qual (aB st) s.heap.objs.size f cdv))->sp vs H Q E →
   ∃t,XB (fL qW P w K mg base N qual (aB st) f cdv A outer s H E).nox (aV st) t/\t {nx:=fun _ H'=>Q .non H',rt:=Q } (start N vs) H):iE P w K mg base qW (k+1) f fd ps sp:=by
 obtain⟨oc,od,kV,doc,pm,an,cdv,ct,osl,rfl,lk,hcd⟩:=F.ex
 refine Gu lk hcd S len fun A outer s H vs Q E hr hsp=>?_
 obtain⟨t,h,q⟩:=hbody cdv A outer s H vs Q E hr hsp
 exact⟨t,h.h.nox,q⟩
structure MethAt (K:W.Frag) (C:Addr) (m qual:Str) (st:Stmt) (ps:List Str):Prop where
 cl:Cls K C
 ex:∃f fd,Fun K m qual st f fd/\Uu K C m f/\Binds K fd ps []
theorem MethAt.go {m:Str} (D:MethAt K C m qual st ps) (S:aJ N ps (aB st)) (len:∀vs H Q E,sp vs H Q E->vs.length=ps.length)
  (hbody:∀(f:Addr) (cdv:Value) (A:Around) (outer:List Env) (s:Shared) (H:Hp) (vs:List V) (Q:VK) (E:XK),Room k (A.deeper (envOfC qual (aB st) s.heap.objs.size f cdv))->sp vs H Q E →
   ∃t,XB (fL qW P w K mg base N qual (aB st) f cdv A outer s H E).nox (aV st) t/\t {nx:=fun _ H'=>Q .non H',rt:=Q } (start N vs) H):sJ P w K mg base (k+1) C m ps sp:=by
 obtain⟨f,fd,F,hm,hb⟩:=D.ex
 exact⟨f,fd,D.cl,hm,F.go S len (hbody f),hb⟩
structure ClsAt (K:W.Frag) (mg:Str->Option Value) (x:Str) (C:Addr) (qual:Str) (st:Stmt) (ps:List Str) (dvs:List (List V)):Prop where
 ex:∃f fd dv,mg x=some (.ref C)/\FunD K "__init__" qual st dv f fd/\Mk K C f/\∀d∈dvs,∃ds,Binds K fd ps ds/\Vals d ds
theorem ClsAt.go {dvs:List (List V)} (D:ClsAt K mg x C qual st ps dvs) (S:aJ N ps (aB st)) (len:∀vs H Q E,sp vs H Q E->vs.length=ps.length)
  (hbody:∀(f:Addr) (cdv:Value) (A:Around) (outer:List Env) (s:Shared) (H:Hp) (vs:List V) (Q:VK) (E:XK),Room k (A.deeper (envOfC qual (aB st) s.heap.objs.size f cdv))->sp vs H Q E →
   ∃t,XB (fL qW P w K mg base N qual (aB st) f cdv A outer s H E).nox (aV st) t/\t {nx:=fun _ H'=>Q .non H',rt:=Q } (start N vs) H):∀d∈dvs,Wn P w K mg base (k+1) x C ps d sp:=by
 intro d hd;obtain⟨f,fd,dv,e,F,M,hb⟩:=D.ex
 obtain⟨ds,b,v⟩:=hb d hd
 exact⟨f,fd,ds,e,M,F.go S len (hbody f),b,v⟩
end
namespace R
section
variable {X:Cx} {e o i value:Expr} {es:List Expr} {m x f:Str} {p pos pos' apos:Pos} {te ta tv td ty:TE} {t:TA} {C:Addr} {n:Nat} {ps:List Str} {sp:Sp} {dvs:List V} {K:W.Frag} {tg:Expr}
theorem bg (he:XE X e te) (hK:X.K=K:=by rfl) (hb:attributeBase e f X.env (eval e X.env)=eval e X.env:=by rfl):XE X (.Attribute e f pos) (aAF K te f):=hK ▸ ⟨Pk he.h hb⟩
theorem di (ha:XE X o ta) (hv:XE X value tv) (hK:X.K=K:=by rfl) (hs:swapsWith value (some (.Attribute o f pos')) pos.line X.env=pure false:=by rfl):XS X (.Assign [.Attribute o f pos'] value pos) (Sn K ta tv f):=hK ▸ ⟨Pl ha.h hv.h hs⟩
theorem dz (hu:X.A.units+1<cLine) (ho:XE X o td) (hi:XE X i ty) (hs:Ve i:=by exact fun _ _=>rfl):XE X (.Subscript o i pos) (Se td ty):=⟨Oi hu ho.h hi.h hs⟩
theorem cq {pl:Sem Bool} (c:sJ X.prog X.w X.K X.mg X.base n C m ps sp) (hr:Room n X.A) (he:XE X o ta) (ha:XA X (e::es) t) (hs:aM e=true:=by rfl) (h2:es.all aM=true:=by rfl)
  (ht:eval (.Call (.Attribute o m apos) (e::es) [] pos) X.env=(do
   let ov ← eval o X.env
   standAt apos.atName
   let (f,first) ← holding [ov] (getMethod ov m pl)
   callWith pos f first (backTo pos (starEach (e::es) X.env)) (backToKw pos (keywordEach [] X.env))):=by rfl):XE X (.Call (.Attribute o m apos) (e::es) [] pos) (So C m sp ta t):=⟨Jj he.h c hr ha.h hs (fB h2) ht⟩
theorem jv (c:Wn X.prog X.w X.K X.mg X.base n x C ps [] sp) (hr:Room (n+1) X.A) (hg:Gl X x) (ha:XA X (e::es) t) (hdb:(x == ("__debug__":Str))=false:=by decide) (hs:aM e=true:=by rfl) (h2:es.all aM=true:=by rfl) :
  XE X (.Call (.Name x p) (e::es) [] pos) (Am C sp [] E0 t):=by
 obtain⟨f,fd,ds,hm,M,F,hb,hd⟩:=c.ex
 exact⟨Ny M F hr hg hm hb hd Av ha.h hdb (bB hs) (fB h2)⟩
theorem jr (c:Wn X.prog X.w X.K X.mg X.base n x C ps dvs sp) (hr:Room (n+1) X.A) (hg:Gl X x) (hdb:(x == ("__debug__":Str))=false:=by decide) :
  XE X (.Call (.Name x p) [] [] pos) (Am C sp dvs E0 yK):=by
 obtain⟨f,fd,ds,hm,M,F,hb,hd⟩:=c.ex
 exact⟨Gs M F hr hg hm hb hd Av hdb⟩
end
end R
end L2
namespace L2
open PySem PySem.Spec PyProof.Rows
def mM (prs:List (Str × Int)):List (bA × V):=prs.map fun q=>(Sum.inr q.1,V.int q.2)
def dM (prs:List (Str × Int)) (n:Str):Int:=(prs.lookup n).getD 0
theorem wJ (prs:List (Str × Int)):(mM prs).map (·.1)=(prs.map (·.1)).map Sum.inr:=by
 unfold mM;rw[List.map_map,List.map_map];rfl
theorem uK (n:Str):∀(prs:List (Str × Int)),bC (mM prs) (Sum.inr n)=(prs.lookup n).map V.int
 | []=>rfl
 | q::r=>by
  unfold mM;rw[List.map_cons,List.lookup_cons];by_cases h:n=q.1
  ·subst h;rw[cJ rfl];simp
  ·have hb:(n == q.1)=false:=beq_eq_false_iff_ne.mpr h
   rw[cK (by intro z;exact h (Sum.inr.inj z).symm),hb]
   exact uK n r
theorem oS (prs:List (Str × Int)) (n:Str):(bC (mM prs) (Sum.inr n)).getD (V.int 0)=V.int (dM prs n):=by
 rw[uK];unfold dM;cases prs.lookup n <;> rfl
theorem kA:∀(more kvs:List (bA × V)),(more.map (·.1)).Nodup->(∀k∈more.map (·.1),bC kvs k=none)->bD kvs more=kvs++more
 | [],kvs,_,_=>(List.append_nil _).symm
 | p::r,kvs,hn,h=>by
  obtain⟨h1,h2⟩:=List.nodup_cons.mp hn
  show bD (bN kvs p.1 p.2) r=_
  have e0:bC kvs p.1=none:=h p.1 Zs
  rw[kA r _ h2 fun k hk=>?_,wB _ e0]
  ·simp
  ·rw[cV,if_neg (fun(z:k=p.1)=>h1 (by dsimp only;rw[<- z];exact hk))]
   exact h k (oP _ hk)
theorem sK:∀ {l:List Str},l.Nodup->(l.map (Sum.inr:Str->bA)).Nodup
 | [],_=>List.nodup_nil
 | a::l,h=>by
  obtain⟨h1,h2⟩:=List.nodup_cons.mp h
  refine List.nodup_cons.mpr ⟨fun z=>?_,sK h2⟩
  obtain⟨b,hb,e⟩:=Zmm.mp z
  cases e
  exact h1 hb
theorem sM {prs:List (Str × Int)} (h:(prs.map (·.1)).Nodup):bD [] (mM prs)=mM prs:=by
 rw[kA _ _ (by rw[wJ];exact sK h) fun _ _=>rfl]
 rfl
theorem pU {n:Str}:∀ {prs:List (Str × Int)},n∈prs.map (·.1)->∃a,prs.lookup n=some a
 | q::r,h=>by
  rw[List.lookup_cons];by_cases e:n=q.1
  ·subst e;exact⟨q.2,Zs⟩
  ·have hb:(n == q.1)=false:=beq_eq_false_iff_ne.mpr e
   rw[hb];rcases List.mem_cons.mp h with z | z
   ·exact absurd z e
   ·exact pU z
structure Wo (K:W.Frag) (C:Addr):Prop where
 cl:Cls K C
 nA:NoAttr K C "amounts"
structure BookAt (C:Addr) (H:Hp) (p:Addr) (prs:List (Str × Int)):Prop where
 ex:∃dx d,H p=some (.ins C dx [("amounts",.ref d)])/\H d=some (.dK (mM prs))
 nd:(prs.map (·.1)).Nodup
theorem BookAt.same {C:Addr} {H H':Hp} {p:Addr} {prs:List (Str × Int)} (B:BookAt C H p prs) (s:Same H H'):BookAt C H' p prs:=by
 obtain⟨dx,d,h1,h2⟩:=B.ex
 exact⟨⟨dx,d,s _ _ h1,s _ _ h2⟩,B.nd⟩
def Wp (H:Hp) (r:V) (prs:List (Str × Int)):Prop:=(r=.non/\prs=[])∨∃l zs,r=.ref l/\H l=some (.lst (fF zs))/\Ee H zs/\zs.map (·.2)=prs
def iG (C:Addr):Sp:=fun vs H Q _=>∃(p:Addr) (n:Str) (prs:List (Str × Int)),vs=[.ref p,.str n]/\BookAt C H p prs/\Q (.int (dM prs n)) H
def wz (zs:List Z):List W:=zs.map fun z=>(z.1,Sum.inr z.2.1,V.int z.2.2)
theorem Wq (zs:List Z):((wz zs).map fun z=>V.ref z.1)=fF zs:=by
 unfold wz fF;rw[List.map_map];rfl
theorem aAG {H:Hp} {zs:List Z} (h:Ee H zs):WAt H (wz zs):=fun z hz=>by
 obtain⟨y,hy,rfl⟩:=Zmm.mp hz
 exact h y hy
theorem Wr (zs:List Z):(wz zs).map (·.2)=mM (zs.map (·.2)):=by
 unfold wz mM;rw[List.map_map,List.map_map];rfl
theorem aBO (y:V):bL "amounts" y []=[(("amounts":Str),y)]:=rfl
theorem put1 (x y:V):bL "amounts" y [(("amounts":Str),x)]=[(("amounts":Str),y)]:=by
 unfold bL;rw[if_pos rfl]
theorem oE (y:V):([(("amounts":Str),y)]:List (Str × V)).lookup ("amounts":Str)=some y:=by
 rw[List.lookup_cons];simp
theorem pV {m:Str} (y:V) (h:(m == ("amounts":Str))=false):([(("amounts":Str),y)]:List (Str × V)).lookup m=none:=by
 rw[List.lookup_cons,h];rfl
end L2
namespace L2
open PySem PySem.Spec PyProof.Rows
section
variable {M:Model} {A:Around} {E:Value->Shared->Prop} {s:Shared}
def Jk (e:Addr) (oe:Obj) (h':Heap):Prop:=∃oe',h'.get? e=some oe'/\oe'.dict=oe.dict
theorem Jl {base:Heap} {env:Env} {outer:List Env} {L e:Addr} {oe:Obj} {vs:Array Value} {head a0:Value} {hadNext:Bool} {Q:Unit->Shared->Prop}
  (hfr:A.frames=some (env::outer)) (hl:s.heap.FunFrames base (env::outer)) (hf:env.frame=some L) (he:s.heap.get? e=some oe) (hkb:base.StaysIn s.heap) (hen:base.get? e=none) (hd:oe.data=.fields vs) (hsz:1<vs.size) (h0:vs[0]?=some a0)
  (h:∀h',Heap.NotedW base (env::outer) e oe.cls a0 (rawInt L) s.heap h'->Jk e oe h'->Q () {s with heap:=h' }) :
  wpAny M A (do let a ← frameOf env;let pl ← entryPlaceOf L hadNext;let b ← EntryCells.newEntry head a .none (rawInt L) .none pl;setField (.ref e) 1 b) Q E s:=by
 have hene:e∉(env::outer).filterMap (·.frame):=fun hm=>by
  obtain⟨_,o,ho,hnf⟩:=hl.mem hm
  rw[he]at ho;cases ho;exact hnf vs hd
 refine wpAny_bind (wpAny_frameOf_fun hfr hl hf fun k1 s1=>wpAny_bind (wpAny_entryPlaceOf fun pl hpl=>?_))
 unfold EntryCells.newEntry newFields;refine wpAny_bind (wpAny_newObj_type ?_ (hpl.sizeOk5 _ _ _ _ _))
 have e1:k1.get? e=some oe:=(s1.2.1 e hene).trans he
 have b1:base.StaysIn k1:=fun b o hbo=>(s1.2.1 b fun hm=>by rw[(hl.mem hm).1]at hbo;cases hbo).trans (hkb b o hbo)
 have e2:=eP (h:=k1) {cls:=.type "traceback",dict:=none,data:=.fields ([head,.ref L,.none,rawInt L,.none]++(if pl.isEmpty then List.replicate 6 Value.none else pl)).toArray } e1
 have nTe:k1.objs.size≠e:=Nat.ne_of_gt (Heap.lt_size e1);have d3:=Obj.data_mapFields hd (·.setIfInBounds 1 (Value.ref k1.objs.size))
 have e3:=Heap.get?_update_self (Obj.mapFields (·.setIfInBounds 1 (Value.ref k1.objs.size))) e2 (Obj.isFreed_of_fields d3)
 have t3:=(Heap.get?_update_other (k1.push {cls:=.type "traceback",dict:=none,data:=.fields ([head,.ref L,.none,rawInt L,.none]++(if pl.isEmpty then List.replicate 6 Value.none else pl)).toArray }) (Obj.mapFields (·.setIfInBounds 1 (Value.ref k1.objs.size))) (Ne.symm nTe)).trans (Heap.get?_push_size k1 rfl)
 have kp:∀b o,b≠e->k1.get? b=some o->((k1.push {cls:=.type "traceback",dict:=none,data:=.fields ([head,.ref L,.none,rawInt L,.none]++(if pl.isEmpty then List.replicate 6 Value.none else pl)).toArray }).update e (Obj.mapFields (·.setIfInBounds 1 (Value.ref k1.objs.size)))).get? b=some o:=fun b o hbe hb=>by rw[Heap.get?_update_other _ _ (Ne.symm hbe)];exact eP _ hb
 have nr:∀b o,s.heap.get? b=some o->(∀vs,o.data≠.fields vs)->b≠e:=fun b o hb hnf q=>by rw[q,he]at hb;cases hb;exact hnf vs hd
 refine wpAny_setField e2 hd hsz (h _ ⟨fun b o hbo=>kp b o (fun q=>by rw[q,hen]at hbo;cases hbo) (b1 b o hbo),hl.of_keeps fun b o hb hnf=>?_,?_,fun b o hb hnf=>?_⟩ ⟨_,e3,?_⟩)
 ·obtain⟨sl,hs⟩:=s1.2.2 b o hb;exact⟨_,kp b _ (nr b o hb hnf) hs,rfl⟩
 ·exact⟨_,_,k1.objs.size,_,_,e3,⟨Obj.cls_mapFields _ _,by rw[Array.getElem?_setIfInBounds_ne Zd];exact h0⟩,d3,by simp [hsz],b1.fresh,nTe,t3,rfl,by first | (simp;done) | (rcases hpl with rfl | ⟨_,_,_,_,_,_,_,rfl⟩ <;> simp)⟩
 ·obtain⟨sl,hs⟩:=s1.2.2 b o hb;exact⟨sl,kp b _ (nr b o hb hnf) hs⟩
 ·obtain⟨oc,od,odt,osl⟩:=oe;cases hd;rfl
theorem aAH {base:Heap} {env:Env} {outer:List Env} {L e:Addr} {oe:Obj} {cls a0:Value} {Q:Unit->Shared->Prop} (hfr:A.frames=some (env::outer)) (hl:s.heap.FunFrames base (env::outer)) (hf:env.frame=some L) (he:s.heap.get? e=some oe) (ht:s.heap.TracedW base e cls a0) (hkb:base.StaysIn s.heap) (hen:base.get? e=none)
  (h:∀h',Heap.NotedW base (env::outer) e cls a0 (rawInt L) s.heap h'->Jk e oe h'->Q () {s with heap:=h' }):wpAny M A (noteFrame (.ref e) env) Q E s:=by
 obtain⟨oe',vs,T,oT,ts,he',⟨hcls,h0⟩,hd,h1,hnT,hTe,hT,hdT,h3⟩:=ht
 rw[he]at he';cases he';subst hcls
 unfold noteFrame;simp only [hf];refine wpAny_bind (wpAny_field he hd h1 ?_);rw[if_pos (show(Value.ref T != Value.none)=true from by simp)]
 refine wpAny_bind (wpAny_field hT hdT h3 ?_);rw[if_neg (show ¬ ((Value.none == rawInt L)=true) from by simp [rawInt])];refine wpAny_bind (wpAny_setField hT hdT (Array.getElem?_eq_some_iff.mp h3).1 ?_)
 have ot:∀b,b≠T->(s.heap.update T (Obj.mapFields (·.setIfInBounds 3 Value.none))).get? b=s.heap.get? b:=fun b hb=>Heap.get?_update_other _ _ (Ne.symm hb)
 have nr:∀b o,s.heap.get? b=some o->(∀vs,o.data≠.fields vs)->b≠T:=fun b o hb hnf q=>by rw[q,hT]at hb;cases hb;exact hnf ts hdT
 refine Jl hfr (hl.of_keeps fun b o hb hnf=>⟨o,(ot b (nr b o hb hnf)).trans hb,rfl⟩) hf ((ot e (Ne.symm hTe)).trans he) (fun b o hbo=>(ot b fun q=>by rw[q,hnT]at hbo;cases hbo).trans (hkb b o hbo)) hen hd (Array.getElem?_eq_some_iff.mp h1).1 h0
  fun h' ⟨x1,x2,x3,x4⟩ hD=>h h' ⟨x1,x2,x3,fun b o hb hnf=>x4 b o ((ot b (nr b o hb hnf)).trans hb) hnf⟩ hD
theorem Sq {base:Heap} {l:List Env} {e:Addr} {oe:Obj} {cls a0 fl:Value} {Q:Unit->Shared->Prop} (hkb:base.StaysIn s.heap) (hl:s.heap.FunFrames base l) (he:s.heap.get? e=some oe) (ht:s.heap.TracedAtW base e cls a0 fl)
  (h:∀h',base.StaysIn h'->h'.FunFrames base l->h'.TracedW base e cls a0->(∀b o,s.heap.get? b=some o->(∀vs,o.data≠.fields vs)->h'.get? b=some o)->h'.get? e=some oe->Q () {s with heap:=h' }):wpAny M A (setFlight (.ref e) none) Q E s:=by
 obtain⟨oe',vs,T,oT,ts,he',hcls,hd,h1,hnT,hTe,hT,hdT,h3⟩:=ht
 rw[he]at he';cases he'
 have z3:3<ts.size:=(Array.getElem?_eq_some_iff.mp h3).1
 have ot:∀b,b≠T->(s.heap.update T (Obj.mapFields (·.setIfInBounds 3 ((none:Option Addr).elim Value.none fun f=>rawInt f)))).get? b=s.heap.get? b:=fun b hb=>Heap.get?_update_other _ _ (Ne.symm hb)
 have nr:∀b o,s.heap.get? b=some o->(∀vs,o.data≠.fields vs)->b≠T:=fun b o hb hnf q=>by rw[q,hT]at hb;cases hb;exact hnf ts hdT
 unfold setFlight;refine wpAny_bind (wpAny_field he hd h1 ?_);rw[if_pos (show(Value.ref T != Value.none)=true from by simp)]
 refine wpAny_setField hT hdT z3 (h _ (fun b o hbo=>(ot b fun q=>by rw[q,hnT]at hbo;cases hbo).trans (hkb b o hbo)) (hl.of_keeps fun b o hb hnf=>⟨o,(ot b (nr b o hb hnf)).trans hb,rfl⟩) ?_ (fun b o hb hnf=>(ot b (nr b o hb hnf)).trans hb) ((ot e (Ne.symm hTe)).trans he))
 exact⟨oe,vs,T,_,_,(ot e (Ne.symm hTe)).trans he,hcls,hd,h1,hnT,hTe,Heap.get?_update_self _ hT (Obj.isFreed_of_fields (Obj.data_mapFields hdT _)),Obj.data_mapFields hdT _,by simp [z3]⟩
theorem Ws {base:Heap} {env:Env} {outer:List Env} {L e:Addr} {oe:Obj} {vs:Array Value} {a0:Value} {Q:Unit->Shared->Prop} (hfr:A.frames=some (env::outer)) (hl:s.heap.FunFrames base (env::outer)) (hf:env.frame=some L) (he:s.heap.get? e=some oe) (hkb:base.StaysIn s.heap) (hen:base.get? e=none) (hd:oe.data=.fields vs) (h1:vs[1]?=some .none) (h0:vs[0]?=some a0)
  (h:∀h',Heap.LeftW base (env::outer) e oe.cls a0 s.heap h'->Jk e oe h'->Q () {s with heap:=h' }):wpAny M A (leaving env (.ref e)) Q E s:=by
 unfold leaving noteFrame;simp only [hf];refine wpAny_bind (wpAny_bind (wpAny_field he hd h1 ?_));rw[if_neg Zd]
 refine Jl hfr hl hf he hkb hen hd (Array.getElem?_eq_some_iff.mp h1).1 h0 fun k ⟨x1,x2,x3,x4⟩ ⟨oe',y1,y2⟩=>?_
 exact Sq (s:={s with heap:=k }) x1 x2 y1 x3 fun h' z1 z2 z3 z4 z5=>h h' ⟨z1,z2,z3,fun b o hb hnf=>let ⟨sl,q⟩:=x4 b o hb hnf;⟨sl,z4 b _ q hnf⟩⟩ ⟨oe',z5,y2⟩
end
section
variable {P:Program} {w:World} {H H0:Hp} {h h1 h2:Heap} {a:Addr} {o:HO}
theorem ObjOk.has (x:ObjOk P w H h a o):∃ob,h.get? a=some ob:=by
 cases o with
 | lst xs=>obtain⟨_,_,_,_,e⟩:=x;exact⟨_,e⟩
 | tup xs=>obtain⟨_,_,_,ob,e,_⟩:=x;exact⟨_,e⟩
 | dK kvs=>obtain⟨_,_,_,_,ob,_,_,e,_⟩:=x;exact⟨_,e⟩
 | dT kvs=>obtain⟨_,_,_,_,ob,_,_,e,_⟩:=x;exact⟨_,e⟩
 | set S n=>obtain⟨ob,_,_,_,e,_⟩:=x;exact⟨_,e⟩
 | ins C dx fs=>obtain⟨_,_,_,e,_⟩:=x;exact⟨_,e⟩
 | own y=>exact x
 | xd fs=>obtain⟨_,⟨ob,_,_,e,_⟩,_⟩:=x;exact⟨_,e⟩
 | rng lo hi=>obtain⟨_,_,_,e⟩:=x;exact⟨_,e⟩
 | frz ob u=>exact⟨_,x.1⟩
 | tbl ps=>exact⟨_,x⟩
 | met f y=>exact⟨_,x⟩
 | ext φ=>exact x.2.1
theorem HOk.none_of (x:HOk P w H h) (e:h.get? a=none):H a=none:=by
 cases q:H a with
 | none=>rfl
 | some u=>
  obtain⟨ob,z⟩:=(x a u q).has
  rw[e]at z;cases z
theorem yY {fs hid:List Addr} {s0:Heap} (un:Un fs [] H0 H s0 h1) (hok:HOk P w H h1) (hh:∀b∈hid,b∈fs∨(s0.get? b=none/\H b=none)) (hsub:∀b∈fs,b∈hid) (hfr:∀b∈fs,H0 b=none/\∃o,s0.get? b=some o/\∀vs,o.data≠.fields vs)
  (hB:(W.hideAll h1 hid).StaysIn h2) (hS:∀b o,h1.get? b=some o->(∀vs,o.data≠.fields vs)->∃sl,h2.get? b=some {o with slots:=sl }):Un fs [] H0 H s0 h2/\HOk P w H h2:=by
 have kp:∀b ob,h1.get? b=some ob->b∉hid->h2.get? b=some ob:=fun b ob q n=>hB b ob (W.hideAll_get _ q n)
 have nh:∀b ob,s0.get? b=some ob->b∉fs->b∉hid:=fun b ob q n z=>by
  rcases hh b z with y | y
  ·exact n y
  ·rw[y.1]at q;cases q
 have sl:∀b ob,s0.get? b=some ob->b∈fs->∃sl,h2.get? b=some {ob with slots:=sl }:=fun b ob q hb=>by
  obtain⟨h0,o',q',nf⟩:=hfr b hb
  rw[q]at q';cases q'
  obtain⟨sl,e⟩:=un.slot b ob q h0 hb Zs
  obtain⟨sl2,e2⟩:=hS b {ob with slots:=sl } e nf
  exact⟨sl2,e2⟩
 refine⟨⟨fun b ob q n hb hx=>kp b ob (un.keep b ob q n hb hx) (nh b ob q hb),fun b ob q n hb hx=>sl b ob q hb,un.free,fun b ob q hx=>?_,un.tups,un.frzs,un.tbls⟩,fun b u e=>?_⟩
 ·by_cases hb:b∈fs
  ·obtain⟨_,z⟩:=sl b ob q hb
   exact⟨_,z⟩
  ·obtain⟨o',z⟩:=un.there b ob q hx
   exact⟨o',kp b o' z (nh b ob q hb)⟩
 ·have nt:∀c v,H c=some v->c∉hid:=fun c v hc z=>by
   rcases hh c z with y | y
   ·obtain⟨h0,o',q',_⟩:=hfr c y
    rw[un.free c o' q' h0 Zs]at hc
    cases hc
   ·rw[y.2]at hc;cases hc
  refine(hok b u e).stay (fun c v hc q=>kp c v q ?_) (fun _ q=>q) fun _ _ q=>q
  rcases hc with z | z
  ·rw[z];exact nt b u e
  ·exact nt c _ z
theorem uL {fs hid:List Addr} {s0:Heap} {T:Addr} {oT:Obj} {ts:Array Value} (un:Un fs [] H0 H s0 h1) (hok:HOk P w H h1) (hh:∀b∈hid,b∈fs∨(s0.get? b=none/\H b=none)) (hfr:∀b∈fs,H0 b=none/\∃o,s0.get? b=some o/\∀vs,o.data≠.fields vs)
  (hS:∀b o,h1.get? b=some o->(∀vs,o.data≠.fields vs)->∃sl,h2.get? b=some {o with slots:=sl }) (hn:(W.hideAll h1 hid).get? T=none) (hT:h2.get? T=some oT) (hd:oT.data=.fields ts):s0.get? T=none/\H T=none:=by
 by_cases hm:T∈hid
 ·rcases hh T hm with y | y
  ·obtain⟨h0,o',q',nf⟩:=hfr T y
   obtain⟨sl,e⟩:=un.slot T o' q' h0 y Zs
   obtain⟨sl2,e2⟩:=hS T _ e nf
   rw[hT]at e2;cases e2
   exact absurd hd (nf ts)
  ·exact y
 ·have z:h1.get? T=none:=by
   cases q:h1.get? T with
   | none=>rfl
   | some ob=>
    rw[W.hideAll_get _ q hm]at hn;cases hn
  refine⟨?_,hok.none_of z⟩
  cases q:s0.get? T with
  | none=>rfl
  | some ob=>
   obtain⟨o',e⟩:=un.there T ob q Zs
   rw[z]at e;cases e
end
def Trc (h:Heap) (a:Addr) (cls fl:Value) (T:Addr):Prop:=
 ∃oe vs a0 oT ts,h.get? a=some oe/\oe.cls=cls/\vs[0]?=some a0/\oe.data=.fields vs/\vs[1]?=some (.ref T)/\T≠a/\h.get? T=some oT/\oT.data=.fields ts/\ts[3]?=some fl
def DOf (h:Heap) (a:Addr) (od:Option Addr):Prop:=∀dx,od=some dx->∃oe,h.get? a=some oe/\oe.dict=some dx
structure Fly (P:Program) (w:World) (l:List Env) (H0:Hp) (s0:Shared) (H:Hp) (a:Addr) (cls:Value) (od:Option Addr) (fl:Value) (s:Shared):Prop where
 na:s0.heap.get? a=none
 os:s.os=s0.os
 bare:AllBare s.gens
 un:Un (jJ l) [] H0 H s0.heap s.heap
 hok:HOk P w H s.heap
 ha:H a=none
 tr:∃T,Trc s.heap a cls fl T/\s0.heap.get? T=none/\H T=none
 dd:DOf s.heap a od
def Bi (P:Program) (w:World):Gq:=fun outer H s E e s'=>∃a cls od H',e=Value.ref a/\Fly P w outer H s H' a cls od .none s'/\E cls od H'
section
variable {X:Cx} {pins:List (Addr × Obj)} {σ:St} {H H0:Hp} {s s0:Shared} {a:Addr} {cls fl:Value} {od:Option Addr} {M:Model} {A:Around} {E:Value->Shared->Prop} {Q:Unit->Shared->Prop}
theorem uM {l:List Env} {env:Env} {b:Addr} (he:env∈l) (hb:env.frame=some b):b∈jJ l:=List.mem_filterMap.mpr ⟨env,he,hb⟩
theorem Inv.frms (I:Inv X pins σ H s):∀b∈jJ X.stack,H b=none/\∃o,s.heap.get? b=some o/\∀vs,o.data≠.fields vs:=fun b hb=>
 ⟨I.stkFree b hb,(I.stack.mem hb).2⟩
theorem Fly.inv (F:Fly X.prog X.w X.stack H0 s0 H a cls od fl s) (I0:Inv X pins σ H0 s0):Inv X pins σ H s:=I0.call' F.os F.un F.hok F.bare (fun _ z=>nomatch z)
theorem Jm (I0:Inv X pins σ H0 s0) (F:Fly X.prog X.w X.stack H0 s0 H a cls od .none s) (hA:A.frames=some X.stack) (hst:X.stack=X.env::X.outer) (hf:X.env.frame=some X.env.locals)
  (k:∀s',Fly X.prog X.w X.stack H0 s0 H a cls od (rawInt X.env.locals) s'->Q () s'):wpAny M A (noteFrame (.ref a) X.env) Q E s:=by
 have I:=F.inv I0
 obtain⟨T,⟨oe,vs,a0,oT,ts,e1,e2,e3,e4,e5,e6,e7,e8,e9⟩,nT,hT⟩:=F.tr
 have hin:∀env∈X.stack,∀b,env.frame=some b->b∈jJ X.stack++[a,T]:=fun env he b hb=>List.mem_append_left _ (uM he hb)
 have hh:∀b∈jJ X.stack++[a,T],b∈jJ X.stack∨(s0.heap.get? b=none/\H b=none):=fun b hb=>by
  rcases Zma.mp hb with z | z
  ·exact .inl z
  ·rcases List.mem_cons.mp z with y | y
   ·rw[y];exact .inr ⟨F.na,F.ha⟩
   ·rw[Zms.mp y];exact .inr ⟨nT,hT⟩
 have hm1:a∈jJ X.stack++[a,T]:=List.mem_append_right _ jI
 have hm2:T∈jJ X.stack++[a,T]:=List.mem_append_right _ (oP _ jI)
 have ff:=W.funFrames_hide I.stack hin
 have go:=aAH (M:=M) (A:=A) (E:=E) (Q:=Q) (s:=s) (base:=W.hideAll s.heap (jJ X.stack++[a,T])) (env:=X.env) (outer:=X.outer) (L:=X.env.locals) (e:=a) (cls:=cls) (a0:=a0) (by rw[hA,hst]) (by rw[<- hst];exact ff) hf e1
  ⟨oe,vs,T,oT,ts,e1,⟨e2,e3⟩,e4,e5,W.hideAll_none _ hm2,e6,e7,e8,e9⟩ (fun b o q=>W.of_hideAll _ q) (W.hideAll_none _ hm1) ?_
 ·exact go
 ·rintro h' ⟨k1,k2,⟨oe',vs',T',oT',ts',q1,⟨q2,q3⟩,q4,q5,q6,q7,q8,q9,q10⟩,k4⟩ ⟨od',d1,d2⟩
  obtain⟨u2,ok2⟩:=yY F.un F.hok hh (fun b hb=>List.mem_append_left _ hb) I0.frms k1 k4
  obtain⟨n1,n2⟩:=uL F.un F.hok hh I0.frms k4 q6 q8 q9
  refine k _ ⟨F.na,F.os,F.bare,u2,ok2,F.ha,⟨T',⟨oe',vs',a0,oT',ts',q1,q2,q3,q4,q5,q7,q8,q9,q10⟩,n1,n2⟩,fun dx hdx=>?_⟩
  obtain⟨o1,z1,z2⟩:=F.dd dx hdx
  rw[e1]at z1;cases z1
  exact⟨od',d1,d2.trans z2⟩
theorem wK (I0:Inv X pins σ H0 s0) (F:Fly X.prog X.w X.stack H0 s0 H a cls od fl s) (k:∀s',Fly X.prog X.w X.stack H0 s0 H a cls od .none s'->Q () s'):wpAny M A (setFlight (.ref a) none) Q E s:=by
 have I:=F.inv I0
 obtain⟨T,⟨oe,vs,a0,oT,ts,e1,e2,e3,e4,e5,e6,e7,e8,e9⟩,nT,hT⟩:=F.tr
 have hin:∀env∈X.stack,∀b,env.frame=some b->b∈jJ X.stack++[a,T]:=fun env he b hb=>List.mem_append_left _ (uM he hb)
 have hh:∀b∈jJ X.stack++[a,T],b∈jJ X.stack∨(s0.heap.get? b=none/\H b=none):=fun b hb=>by
  rcases Zma.mp hb with z | z
  ·exact .inl z
  ·rcases List.mem_cons.mp z with y | y
   ·rw[y];exact .inr ⟨F.na,F.ha⟩
   ·rw[Zms.mp y];exact .inr ⟨nT,hT⟩
 have hm2:T∈jJ X.stack++[a,T]:=List.mem_append_right _ (oP _ jI)
 refine Sq (base:=W.hideAll s.heap (jJ X.stack++[a,T])) (l:=X.stack) (cls:=cls) (a0:=a0) (fl:=fl) (fun b o q=>W.of_hideAll _ q) (W.funFrames_hide I.stack hin) e1 ⟨oe,vs,T,oT,ts,e1,⟨e2,e3⟩,e4,e5,W.hideAll_none _ hm2,e6,e7,e8,e9⟩ ?_
 rintro h' k1 k2 ⟨oe',vs',T',oT',ts',q1,⟨q2,q3⟩,q4,q5,q6,q7,q8,q9,q10⟩ k4 kE
 have k5:∀b o,s.heap.get? b=some o->(∀vs,o.data≠.fields vs)->∃sl,h'.get? b=some {o with slots:=sl }:=fun b o q n=>⟨o.slots,k4 b o q n⟩
 obtain⟨u2,ok2⟩:=yY F.un F.hok hh (fun b hb=>List.mem_append_left _ hb) I0.frms k1 k5
 obtain⟨n1,n2⟩:=uL F.un F.hok hh I0.frms k5 q6 q8 q9
 refine k _ ⟨F.na,F.os,F.bare,u2,ok2,F.ha,⟨T',⟨oe',vs',a0,oT',ts',q1,q2,q3,q4,q5,q7,q8,q9,q10⟩,n1,n2⟩,fun dx hdx=>?_⟩
 obtain⟨o1,z1,z2⟩:=F.dd dx hdx
 rw[e1]at z1;cases z1
 exact⟨oe,kE,z2⟩
end
end L2
namespace L2
open PySem PySem.Spec PyProof.Rows
abbrev Sr:List Value:=[.type "ValueError",.type "Exception",.type "BaseException",.type "object"]
structure lN (P:Program) (w:World) (K:W.Frag) (mg:Str->Option Value) (base:Heap) (n:Nat) (x:Str) (ps:List Str) (sp:Sp):Prop where
 ex:∃f fd,mg x=some (.ref f)/\W.keepIn K (.ref f)=true/\iE P w K mg base (Bi P w) n f fd ps sp/\Binds K fd ps []
theorem DefAt.goX {P:Program} {w:World} {K:W.Frag} {mg:Str->Option Value} {base:Heap} {x:Str} {st:Stmt} {N ps:List Str} {k:Nat} {sp:Sp} (D:DefAt K mg x st ps) (S:aJ N ps (aB st)) (len:∀vs H Q E,sp vs H Q E->vs.length=ps.length)
  (hbody:∀(f:Addr) (cdv:Value) (A:Around) (outer:List Env) (s:Shared) (H:Hp) (vs:List V) (Q:VK) (E:XK),Room k (A.deeper (envOfC x (aB st) s.heap.objs.size f cdv))->sp vs H Q E →
   ∃t,XB (fL (Bi P w) P w K mg base N x (aB st) f cdv A outer s H E) (aV st) t/\t {nx:=fun _ H'=>Q .non H',rt:=Q } (start N vs) H):lN P w K mg base (k+1) x ps sp:=by
 obtain⟨f,fd,F,hm,hb⟩:=D.ex
 refine⟨f,fd,hm,F.kp,?_,hb⟩
 obtain⟨oc,od,kV,doc,pm,an,cdv,ct,osl,rfl,lk,hcd⟩:=F.ex
 refine Gu lk hcd S len fun A outer s H vs Q E hr hsp=>?_
 obtain⟨t,h,q⟩:=hbody f cdv A outer s H vs Q E hr hsp
 exact⟨t,h.h,q⟩
def Jn (X:Cx) (Ex:St->Value->Option Addr->Hp->Prop):Prop:=∀(pins:List (Addr × Obj)) (σ:St) (H:Hp) (s:Shared) (e:Value) (s':Shared),Inv X pins σ H s->Bi X.prog X.w X.stack H s (fun cls od H'=>Ex σ cls od H') e s'->X.xe e s'
def aAI (sp:Sp) (Ex:St->Value->Option Addr->Hp->Prop) (t:TA):TE:=fun σ H Q=>t σ H fun vs H1=>sp vs H1 Q (fun cls od H'=>Ex σ cls od H')
section
variable {X:Cx} {x:Str} {n:Nat} {ps:List Str} {sp:Sp} {Ex:St->Value->Option Addr->Hp->Prop} {e:Expr} {es:List Expr} {t:TA} {p pos:Pos}
theorem Wt (c:lN X.prog X.w X.K X.mg X.base n x ps sp) (hr:Room n X.A) (hg:Gl X x) (hx:Jn X Ex) (ha:PA X (e::es) t) (hs:aM e=true) (h2:es.all aM=true) (hdb:(x == ("__debug__":Str))=false) :
  PE X (.Call (.Name x p) (e::es) [] pos) (aAI sp Ex t):=by
 obtain⟨f,fd,hm,hk,F,hb⟩:=c.ex
 intro pins s σ H Q I h;refine wpAny_Call_Name_kw (iC I hg hm ?_ hdb)
 refine W.callWith_K (h₀:=X.base) I.ok.mod.kin hk (bU (ha pos pins s σ H _ I h) fun us s1 ⟨vs,H1,I1,r,q⟩=>⟨I1.kIn,?_⟩) (bB hs) (fB h2)
 have hl:us.length=ps.length:=by rw[<- r.length];exact F.len _ _ _ _ q
 have hb':=hb s1 us I1.kIn (by rw[List.append_nil];exact hl)
 rw[List.append_nil]at hb';refine wpAny_call (codeAny_mono (F.run X.A X.stack s1 H1 ⟨us,[]⟩ us vs Q _ hr I1.env0 hb' r q) fun rs s' hq=>?_)
 cases rs with
 | error e'=>exact hx pins σ H1 s1 e' s' I1 hq
 | ok fl=>
  cases fl with
  | ret u=>exact I1.after hq
  | next=>exact False.elim hq
  | brk=>exact False.elim hq
  | cont=>exact False.elim hq
end
def XF (X:Cx) (Ex:St->Value->Option Addr->Hp->Prop):Value->Shared->Prop:=fun e s'=>∃ σ H s,Inv X [] σ H s/\Bi X.prog X.w X.stack H s (fun cls od H'=>Ex σ cls od H') e s'
abbrev Cx.pin (X:Cx) (pn:List (Addr × Obj)):Cx:={X with pn:=pn }
abbrev Cx.trying (X:Cx) (pn:List (Addr × Obj)) (Ex:St->Value->Option Addr->Hp->Prop):Cx:={X with pn:=pn,xe:=XF (X.pin pn) Ex }
abbrev Cx.handling (X:Cx) (a:Addr):Cx:={X with A:=X.A.mark (some (.ref a)),calm:=false,xe:=fun _ _=>False }
section
variable {X:Cx} {pins pn:List (Addr × Obj)} {σ:St} {H:Hp} {s:Shared} {Ex:St->Value->Option Addr->Hp->Prop} {a:Addr}
theorem Cx.Ok.pin (ok:X.Ok):(X.pin pn).Ok:=⟨ok.mod,ok.kind,ok.glob,ok.blt,ok.above,ok.inj,ok.has,ok.cab,ok.hd,ok.frames,ok.stk,ok.exf,ok.bs,ok.bsz,ok.noex,ok.exfs,ok.funs,ok.frf⟩
theorem Cx.Ok.handling (ok:X.Ok):(X.handling a).Ok:=⟨ok.mod,ok.kind,ok.glob,ok.blt,ok.above,ok.inj,ok.has,ok.cab,(fun z=>nomatch z),ok.frames,ok.stk,ok.exf,ok.bs,ok.bsz,ok.noex,ok.exfs,ok.funs,ok.frf⟩
theorem Inv.pnIn (I:Inv X pins σ H s):Inv (X.pin (X.pn++pins)) [] σ H s:=⟨I.ok.pin,I.os,I.bare,I.base,I.loc,I.cell,I.free,I.freeC,fun p hp=>I.pin p (by rw[List.append_nil]at hp;exact hp),I.hok,I.len⟩
theorem Inv.pnOut (I:Inv (X.pin (X.pn++pins)) [] σ H s) (ok:X.Ok):Inv X pins σ H s:=⟨ok,I.os,I.bare,I.base,I.loc,I.cell,I.free,I.freeC,fun p hp=>I.pin p (by rw[List.append_nil];exact hp),I.hok,I.len⟩
theorem Inv.handling (I:Inv X pins σ H s):Inv (X.handling a) pins σ H s:=⟨I.ok.handling,I.os,I.bare,I.base,I.loc,I.cell,I.free,I.freeC,I.pin,I.hok,I.len⟩
theorem Inv.handled (I:Inv (X.handling a) pins σ H s) (ok:X.Ok):Inv X pins σ H s:=⟨ok,I.os,I.bare,I.base,I.loc,I.cell,I.free,I.freeC,I.pin,I.hok,I.len⟩
theorem Inv.trying (I:Inv (X.pin pn) pins σ H s):Inv (X.trying pn Ex) pins σ H s:=I.wish _
theorem Inv.tried (I:Inv (X.trying pn Ex) pins σ H s):Inv (X.pin pn) pins σ H s:=Inv.unwish (X:=X.pin pn) (E:=XF (X.pin pn) Ex) I
theorem uN:Jn (X.trying pn Ex) Ex:=fun pins σ H s e s' I h=>⟨σ,H,s,I.tried.pins_of (fun p hp=>nomatch hp),h⟩
def rA (a:Addr) (cls:Value) (od:Option Addr):Heap->Prop:=fun h=>∃o vs,h.get? a=some o/\o.cls=cls/\o.data=.fields vs/\∀dx,od=some dx->o.dict=some dx
theorem Inv.exc {cls:Value} {od:Option Addr} {H0:Hp} {s0:Shared} {σ0:St} (I:Inv X pins σ H s) (I0:Inv X pins σ0 H0 s0) (hex:X.ex=[]) (na:s0.heap.get? a=none) (ha:H a=none) (hx:rA a cls od s.heap):Inv X pins σ (aI H a (.ext (rA a cls od))) s where
 ok:=I.ok
 os:=I.os
 bare:=I.bare
 base:=by
  have n0:∀b ob,X.s₀.heap.get? b=some ob->b≠a:=fun b ob q z=>by
   obtain⟨o',y⟩:=I0.base.there b ob q (by rw[hex];simp)
   rw[z,na]at y;cases y
  refine⟨I.base.keep,I.base.slot,fun b ob q n hx=>?_,I.base.there,fun b xs q=>?_,fun b ob u q=>?_,fun b ps q=>?_⟩
  ·rw[aD (n0 b ob q)];exact I.base.free b ob q n hx
  ·have:=I.base.tups b xs q
   rw[aD (aE this ha)];exact this
  ·have:=I.base.frzs b ob u q
   rw[aD (aE this ha)];exact this
  ·obtain⟨more,z⟩:=I.base.tbls b ps q
   exact⟨more,by rw[aD (aE z ha)];exact z⟩
 loc:=I.loc
 cell:=I.cell
 free:=by
  have:X.env.locals≠a:=fun z=>by
   obtain⟨m,⟨o,_,_,ho,_⟩,_⟩:=I0.loc
   rw[z,na]at ho;cases ho
  rw[aD this];exact I.free
 freeC:=fun x c h=>by
  have:c≠a:=fun z=>by
   obtain⟨v,o,ho,_⟩:=I0.cell x c h
   rw[z,na]at ho;cases ho
  rw[aD this];exact I.freeC x c h
 pin:=fun p hp=>by
  obtain⟨p1,p2,p3⟩:=I.pin p hp
  have:p.1≠a:=fun z=>by
   have ho:=(I0.pin p hp).1
   rw[z,na]at ho;cases ho
  exact⟨p1,by rw[aD this];exact p2,p3⟩
 hok:=by
  intro b u hb;by_cases q:b=a
  ·subst q;rw[aA]at hb;cases hb
   obtain⟨o,vs,h1,h2,h3⟩:=hx
   refine⟨⟨o,vs,h1,h2,h3⟩,⟨o,h1⟩,?_⟩
   rintro ha hb2 ⟨o',vs',q1,q2,q3⟩ k
   exact⟨o',vs',k o' q1,q2,q3⟩
  ·rw[aD q]at hb;refine(I.hok b u hb).stay (fun c v _ h=>h) (fun c h=>?_) fun c xs h=>?_
   ·rw[aD (aE h ha)];exact h
   ·rw[aD (aE h ha)];exact h
 len:=I.len
theorem oU {M:Model} {A:Around} {E:Value->Shared->Prop} {i:Nat} {x:Str} {pos:Pos} {Q:Unit->Shared->Prop} (I:Inv X pins σ H s) (hN:X.N.Nodup) (hi:X.N[i]?=some x) (hx:X.env.kindOf x=some .local) (hl:Fu X.env.scope x) (hfn:X.fn x=true∨X.env.scope.names.lookup x=some .local)
  (h:∀s',Inv X pins (σ.set i none) H s'->Q () s'):wpAny M A (do bindName X.env x .none;unbindBehindTheSuite X.env x pos) Q E s:=by
 have hp:(X.env.scope.kind == .class||(X.env.scope.kind == .module&&X.env.locals != X.env.globals))=false:=by rw[I.ok.kind];rfl
 refine wpAny_bind (wpAny_bindName (lE (v:=.non) I hN hi hl rfl (fun s1 I1=>?_) hfn))
 unfold unbindBehindTheSuite;refine wpAny_onRaise ?_
 unfold unbindName;refine wpAny_bind (wpAny_point (wpAny_bind ?_))
 unfold deleteName;simp only [hx,hp]
 rw[if_neg Zd]
 obtain⟨m,hn,hl1⟩:=id I1.loc
 have hiσ:i<σ.length:=by rw[I.len];exact(Zgs.mp hi).1
 have cne:=I1.cne
 refine wpAny_bind (wpAny_nsDel_keeps hn fun h2 v hn2 hs=>?_)
 have hm:(m x).isSome=true:=by
  obtain⟨u,ru,lk⟩:=hl1 i x .non hi (List.getElem?_set_self hiσ) (Or.inl (by
   have:=hx
   unfold Env.kindOf at this;first | exact this | simpa using this))
  rcases lk with⟨_,e⟩ | ⟨k,_⟩
  ·rw[e];rfl
  ·rcases k with k | k
   ·have:=hx;simp_all
   ·have:=hx;simp_all
 simp only [hm,if_true,Bool.not_true,Bool.false_eq_true,if_false]
 have bl:∀b o,X.s₀.heap.get? b=some o->b≠X.env.locals:=fun b o e=>Nat.ne_of_lt (Nat.lt_of_lt_of_le (Heap.lt_size e) I.ok.above)
 obtain⟨oL,_,_,hoL,_⟩:=id hn
 refine wpAny_pure (wpAny_point (h _ ⟨I1.ok,I1.os,I1.bare,⟨fun b o e n hb hx'=>(hs.2 b (bl b o e)).trans (I1.base.keep b o e n hb hx'),fun b o e n hb hx'=>?_,I1.base.free,fun b o e hx'=>?_,I1.base.tups,I1.base.frzs,I1.base.tbls⟩,⟨_,hn2,fun j y v' e1 e2 e3=>?_⟩,fun y c e=>?_,I1.free,I1.freeC,fun p hp'=>?_,fun b u e=>?_,by simpa using I.len⟩))
 ·obtain⟨sl,z⟩:=I1.base.slot b o e n hb hx'
  exact⟨sl,(hs.2 b (bl b o e)).trans z⟩
 ·obtain⟨o',z⟩:=I1.base.there b o e hx'
  exact⟨o',(hs.2 b (bl b o e)).trans z⟩
 ·by_cases hj:j=i
  ·subst hj;rw[List.getElem?_set_self hiσ]at e2;cases e2
  ·rw[List.getElem?_set_ne (Ne.symm hj)]at e2;obtain⟨u,r,q⟩:=hl1 j y v' e1 (by rw[List.getElem?_set_ne (Ne.symm hj)];exact e2) e3
   refine⟨u,r,?_⟩
   rcases q with⟨k,e⟩ | ⟨k,c,e,z⟩
   ·have hne:y≠x:=fun e=>hj (pA hN e1 (e ▸ hi))
    exact .inl ⟨k,by dsimp only;rw[if_neg hne];exact e⟩
   ·exact .inr ⟨k,c,e,z.sameBut hs (cne y c e)⟩
 ·obtain⟨w',z⟩:=I1.cell y c e
  exact⟨w',z.sameBut hs (cne y c e)⟩
 ·obtain⟨e,n,ne,nf,d⟩:=I1.pin p hp'
  exact⟨(hs.2 p.1 ne).trans e,n,ne,nf,d⟩
 ·refine(I1.hok b u e).stay (fun c w' hc q=>(hs.2 c ?_).trans q) (fun _ q=>q) fun _ _ q=>q
  rintro rfl
  rcases hc with z | z
  ·rw[<- z,I1.free]at e;cases e
  ·rw[I1.free]at z;cases z
theorem SP.goes {M:Model} {A:Around} {E:Value->Shared->Prop} {i:Nat} {x:Str} {pos:Pos} {D:kK} {f:Flow} (hq:SP X pins {nx:=fun σ' H'=>D.nx (σ'.set i none) H',rt:=D.rt,bk:=fun σ' H'=>D.bk (σ'.set i none) H',ct:=fun σ' H'=>D.ct (σ'.set i none) H' } f s) (hN:X.N.Nodup) (hi:X.N[i]?=some x) (hx:X.env.kindOf x=some .local) (hl:Fu X.env.scope x) (hfn:X.fn x=true∨X.env.scope.names.lookup x=some .local) :
  wpAny M A (do bindName X.env x .none;unbindBehindTheSuite X.env x pos) (fun _ s'=>SP X pins D f s') E s:=by
 cases f with
 | next=>obtain⟨σ',H',I,q⟩:=hq;exact oU I hN hi hx hl hfn fun s' I'=>⟨_,H',I',q⟩
 | brk=>obtain⟨σ',H',I,q⟩:=hq;exact oU I hN hi hx hl hfn fun s' I'=>⟨_,H',I',q⟩
 | cont=>obtain⟨σ',H',I,q⟩:=hq;exact oU I hN hi hx hl hfn fun s' I'=>⟨_,H',I',q⟩
 | ret u=>obtain⟨v,σ',H',I,r,q⟩:=hq;exact oU I hN hi hx hl hfn fun s' I'=>⟨v,_,H',I',r,q⟩
theorem SP.handled {D:kK} {f:Flow} (h:SP (X.handling a) pins D f s) (ok:X.Ok):SP X pins D f s:=by
 cases f with
 | next=>obtain⟨σ',H',I,q⟩:=h;exact⟨σ',H',I.handled ok,q⟩
 | brk=>obtain⟨σ',H',I,q⟩:=h;exact⟨σ',H',I.handled ok,q⟩
 | cont=>obtain⟨σ',H',I,q⟩:=h;exact⟨σ',H',I.handled ok,q⟩
 | ret u=>obtain⟨v,σ',H',I,r,q⟩:=h;exact⟨v,σ',H',I.handled ok,r,q⟩
theorem SP.tried {D:kK} {f:Flow} (h:SP (X.trying (X.pn++pins) Ex) [] D f s) (ok:X.Ok):SP X pins D f s:=by
 cases f with
 | next=>obtain⟨σ',H',I,q⟩:=h;exact⟨σ',H',I.tried.pnOut ok,q⟩
 | brk=>obtain⟨σ',H',I,q⟩:=h;exact⟨σ',H',I.tried.pnOut ok,q⟩
 | cont=>obtain⟨σ',H',I,q⟩:=h;exact⟨σ',H',I.tried.pnOut ok,q⟩
 | ret u=>obtain⟨v,σ',H',I,r,q⟩:=h;exact⟨v,σ',H',I.tried.pnOut ok,r,q⟩
def aAJ (K:W.Frag) (C:Addr) (i:Nat) (tb:(St->Value->Option Addr->Hp->Prop)->TS) (th:TS):TS:=fun D σ H=>
 tb (fun σ' cls od H'=>W.exmOne K cls (.ref C)=some true/\∀a,H' a=none->th {nx:=fun σ'' H''=>D.nx (σ''.set i none) H'',rt:=D.rt,bk:=fun σ'' H''=>D.bk (σ''.set i none) H'',ct:=fun σ'' H''=>D.ct (σ''.set i none) H'' } (σ'.set i (some (.ref a))) (aI H' a (.ext (rA a cls od)))) D σ H
theorem Wu {C:Addr} {c n:Str} {i:Nat} {body suite:List Stmt} {s0:Stmt} {p hpos pos:Pos} {tb:(St->Value->Option Addr->Hp->Prop)->TS} {th:TS} (hN:X.N.Nodup) (hi:X.N[i]?=some n) (hx:X.env.kindOf n=some .local) (hl:Fu X.env.scope n) (hfn:X.fn n=true∨X.env.scope.names.lookup n=some .local) (hst:X.stack=X.env::X.outer) (hf:X.env.frame=some X.env.locals) (hex:X.ex=[])
  (hg:Gl X c) (hm:X.mg c=some (.ref C)) (hdb:(c == ("__debug__":Str))=false) (hb:∀pn Ex,PSs (X.trying pn Ex) body (tb Ex)) (hs:∀a,PSs (X.handling a) (s0::suite) th) :
  PS X (.Try body [.ExceptHandler (some (.Name c p)) (some n) (s0::suite) hpos] [] [] pos) (aAJ X.K C i tb th):=by
 intro pins s σ H D I h;refine wpAny_Try_except (wpAny_mono (hb (X.pn++pins) _ [] s σ H D I.pnIn.trying h) (fun f s1 q=>?_) fun e s1 q=>?_)
 ·have q':=q.tried I.ok
  cases f with
  | next=>exact wpAny_execs_nil q'
  | brk=>exact q'
  | cont=>exact q'
  | ret u=>exact q'
 ·obtain⟨σ',H0,sc,I0,a,cls,od,H',rfl,F,hx1,hw⟩:=q
  have I0':Inv X pins σ' H0 sc:=I0.pnOut I.ok
  have F':Fly X.prog X.w X.stack H0 sc H' a cls od .none s1:=F
  refine Jm I0' F' I.ok.frames hst hf fun s2 F2=>?_
  refine wK I0' F2 fun s3 F3=>?_
  have I3:=F3.inv I0'
  refine wpAny_handleBy_cons (codeAny_handlers_test ?_) (by intro q;cases q)
  refine iC (X:=X.handling a) (I3.handling (a:=a)) hg hm ?_ hdb
  obtain⟨T,⟨oe,vs,a0,oT,ts,e1,e2,_⟩,_⟩:=F3.tr
  have LT:W.Looks (model X.prog X.w) s3.heap (typeOf (.ref a)) cls:=e2 ▸ (W.Looks.ld e1).andThen .now
  refine(W.exm_one I3.kIn LT hx1).here ?_
  show codeAny _ _ _ _ _
  refine codeAny_handlers_suite_as ?_
  refine wK I0' F3 fun s4 F4=>?_
  have I4:=F4.inv I0'
  obtain⟨T4,⟨oe4,vs4,a04,oT4,ts4,q1,q2,q3,q4,_⟩,_⟩:=F4.tr
  have I5:=I4.exc I0' hex F4.na F4.ha (od:=od) ⟨oe4,vs4,q1,q2,q4,fun dx hdx=>by obtain⟨o1,z1,z2⟩:=F4.dd dx hdx;rw[q1]at z1;cases z1;exact z2⟩
  refine lE (v:=.ref a) I5 hN hi hl rfl (fun s5 I6=>?_) hfn
  refine wpAny_mono (hs a pins s5 _ _ _ (I6.handling (a:=a)) (hw a F4.ha)) (fun f s6 q=>?_) (fun _ _ z=>False.elim z)
  exact SP.goes (q.handled I.ok) hN hi hx hl hfn
end
end L2
namespace L2
open PySem PySem.Spec PyProof.Rows
structure oF (K:W.Frag) (D:Addr):Prop where
 ga:W.findIn K (.ref D) "__getattribute__"=some (some (.builtin "BaseException.__getattribute__"))
 gx:W.findIn K (.ref D) "__getattr__"=some none
 cl:W.findIn K (.ref D) "__class__"=some (some (.builtin "object.__class__"))
 gg:W.specialIn K (.builtin "object.__class__") "__get__"=some (some (.builtin "getset_descriptor.__get__"))
 tk:W.takesIn K (.builtin "object.__class__")=some true
 mo:W.mroIn K D (.type "object")=some true
 mb:W.mroIn K D (.type "BaseException")=some true
 ci:(W.clsIn K D).isSome=true
def OfCls (x D:Addr) (h:Heap):Prop:=∃o,h.get? x=some o/\o.cls=.ref D
section
variable {prog:Program} {w:World} {A:Around} {E:Value->Shared->Prop} {s:Shared} {K:W.Frag} {x D:Addr}
theorem OfCls.type {M:Model} {h:Heap} (c:OfCls x D h):W.Looks M h (typeOf (.ref x)) (.ref D):=by
 obtain⟨o,h1,h2⟩:=c
 exact h2 ▸ (W.Looks.ld h1).andThen .now
theorem sN {M:Model} {nameV:Value} {Q:Unit->Shared->Prop} (LI:W.Looks M s.heap (isInstance (.ref x) (.type "BaseException")) true) (h:Q () s):wpAny M A (checkBuiltinCall "BaseException.__getattribute__" ⟨[.ref x,nameV],[]⟩) Q E s:=by
 have hkd:builtinKind "BaseException.__getattribute__"=some .slot:=by decide +kernel
 have hsp:splitId "BaseException.__getattribute__"=some ("BaseException","__getattribute__"):=by decide +kernel
 have har:=F.args_bexc_ga (.ref x) nameV
 simp only [checkBuiltinCall,hkd,hsp]
 refine wpAny_bind (LI.here ?_)
 obtain⟨hh,g,d,t,os⟩:=s
 repeat (first | wp_step)
 exact h
theorem yZ {M:Model} {h:Heap} (X:K.In h) (k:oF K D):W.Looks M h (Builtin.ObjectAttr.find (.ref x) (.ref D) "__class__") (.bind (.builtin "getset_descriptor.__get__") (.builtin "object.__class__")):=by
 have l1:=W.looks_findIn (M:=M) X k.cl
 have l2:W.Looks M h (Builtin.ObjectAttr.getOf (some (.builtin "object.__class__"))) (some (.builtin "getset_descriptor.__get__")):=W.looks_specialIn X k.gg
 have l3:=W.looks_takesIn (M:=M) X k.tk
 refine l1.andThen (l2.andThen ?_)
 exact(show W.Looks M h (Builtin.ObjectAttr.dataDescriptor? (some (.builtin "object.__class__")) (some (.builtin "getset_descriptor.__get__"))) (some (.builtin "getset_descriptor.__get__",.builtin "object.__class__")) from l3.andThen .now).andThen (W.Looks.tag .now)
open PySem.W Builtin Builtin.ObjectAttr Builtin.Getset_descriptor in
theorem Ef {R:Result->Shared->Prop} {tp:Value} (X:K.In s.heap) (c:OfCls x D s.heap) (hm:W.mroIn K D (.type "object")=some true) (h:R (.ok (.ret (.ref D))) s) :
  codeAny (model prog w) A (.call (.builtin "getset_descriptor.__get__") ⟨[.builtin "object.__class__",.ref x,tp],[]⟩) R s:=by
 obtain⟨hh,g,dr,t,os⟩:=s
 have L0:=c.type (M:=model prog w)
 have L1:=W.looks_mroIn (M:=model prog w) X hm
 refine codeAny_call_builtin KF.slot_gs.plain KF.entry_gs (KF.slot_gs.check _ _ _ _ _ _ _ _ KF.type_class (KF.args_gs _ _ _) ?_)
 unfold Builtin.«getset_descriptor.__get__» descrGet
 rw[dga_obj];apply wpAny_bind
 apply wpAny_pure
 unfold descrGetter descrCheckInstance descrNameAndClass isInstance;simp only [KF.owner_class]
 repeat lk
 refine⟨Code.quiet_builtin _ Zk,codeAny_builtin KF.entry_class ?_⟩
 unfold Builtin.«object.__class__» shownTypeOf
 repeat lk
 exact h
theorem Eg {Q:Option Value->Shared->Prop} (X:K.In s.heap) (c:OfCls x D s.heap) (k:oF K D) (h:Q (some (.ref D)) {s with toks:=s.toks+1 }):wpAny (model prog w) A (getAttr? (.ref x) "__class__") Q E s:=by
 obtain⟨hh,g,d,t,os⟩:=s
 have L0:=c.type (M:=model prog w)
 have L1:=W.looks_findIn (M:=model prog w) X k.ga
 have L2:=W.looks_findIn (M:=model prog w) X k.gx
 have L3:=yZ (M:=model prog w) (x:=x) X k
 have LI:W.Looks (model prog w) hh (isInstance (.ref x) (.type "BaseException")) true:=L0.andThen (W.looks_mroIn X k.mb)
 unfold getAttr? getAttrBy? getAttrBy
 refine wpAny_bind (wpAny_mkText (wpAny_bind (wpAny_attempt (wpAny_holding (wpAny_bind (L0.at (wpAny_bind (L1.at ?_))))))))
 dsimp only;have hx0:(Value.builtin "BaseException.__getattribute__" == Value.builtin "object.__getattribute__")=false:=by decide +kernel
 have hx1:(onTheHeap (Value.ref D)&&Value.builtin "BaseException.__getattribute__" == Value.builtin "object.__getattribute__")=false:=by rw[hx0];rfl
 rw[if_neg (by rw[hx1];exact Bool.false_ne_true)]
 unfold getAttrByItsOwn hookBefore;rw[if_pos (show onTheHeap (Value.ref D)=true from rfl)];refine wpAny_bind (L2.at ?_)
 refine wpAny_bind (wpAny_attempt (wpAny_holding ?_))
 unfold callGetattribute;rw[if_neg Zd]
 unfold boundAndCalled;refine wpAny_bind (wpAny_of_eq (F.excAttr_ValueError.ga.bind _) ?_)
 show wpAny _ _ (call (.builtin "BaseException.__getattribute__") [.ref x,.str "__class__" t]) _ _ _
 refine wpAny_call (codeAny_call_builtin F.excAttr_ValueError.ga.plain F.entry_bexc_ga (sN LI ?_))
 unfold Builtin.«object.__getattribute__»
 refine wpAny_bind (wpAny_of_eq (a:=(Value.ref x,[Value.str "__class__" t])) rfl ?_)
 dsimp only;refine wpAny_bind (wpAny_pure (wpAny_bind (L0.at (wpAny_bind (L3.at ?_)))))
 dsimp only;show wpAny _ _ (holding [Value.builtin "object.__class__"] (call (.builtin "getset_descriptor.__get__") [.builtin "object.__class__",.ref x,.ref D]) >>= ret) _ _ _
 refine wpAny_bind (wpAny_holding (wpAny_call (Ef (s:=⟨hh,g,d,t+1,os⟩) X c k.mo ?_)))
 refine wpAny_pure ?_
 show wpAny _ _ (handedOut (.ref D)) _ _ _
 exact wpAny_pure (wpAny_pure h)
theorem pW (k:oF K D):W.KitX K (.ref x) (.ref D) (OfCls x D) where
 ty:=fun _ _ _ c=>c.type
 it:=fun _ _ X _=>by
  obtain⟨cdD,hcD⟩:=Option.isSome_iff_exists.mp k.ci
  unfold W.clsIn at hcD;split at hcD
  ·rename_i c' d' cd' sl' ho
   intro A' Q' E' s' k' q;unfold isType loadHead;exact wpAny_bind (wpAny_loadPart (k' _ _ (X _ _ ho)) (wpAny_pure q))
  ·cases hcD
 ne:=fun h tp dd its n sl X htp=>by
  obtain⟨cdD,hcD⟩:=Option.isSome_iff_exists.mp k.ci
  refine Bool.eq_false_iff.mpr fun q=>?_
  have e:D=tp:=Value.ref.inj (beq_iff_eq.mp q)
  subst e;unfold W.clsIn at hcD;split at hcD
  ·rename_i c' d' cd' sl' ho
   rw[X _ _ ho]at htp;cases htp
  ·cases hcD
 ca:=fun X c q=>Eg X c k q
end
def aAK (K:W.Frag) (H:Hp) (D:Addr) (c:V) (b:Bool):Prop:=match c with
 | .ref t=>(∃xs:List Addr,H t=some (.tup (xs.map V.ref))/\W.kitAny K (.ref D) (xs.map Value.ref)=some b)∨W.kitOne K (.ref D) (.ref t)=some b
 | .ty n=>W.kitOne K (.ref D) (.type n)=some b
 | _=>False
def Wv (K:W.Frag):List V->Hp->VK->Prop:=fun vs H Q=>match vs with
 | [.ref a,c]=>∃D b od,H a=some (.ext (rA a (.ref D) od))/\oF K D/\aAK K H D c b/\Q (.bl b) H
 | _=>False
theorem sO:∀ {xs:List Addr} {us:List Value},Vals (xs.map V.ref) us->us=xs.map Value.ref
 | [],[],_=>rfl
 | x::xs,u::us,.cons r rs=>by
  cases r
  rw[sO rs];rfl
section
variable {X:Cx}
theorem aAL:CallR X (.builtin "isinstance") (Wv X.K):=by
 intro pins s σ H xs us Q I r h;unfold Wv at h;split at h
 ·rename_i a c
  obtain⟨D,b,od,e,k,ans,q⟩:=h
  obtain⟨⟨o,vs,h1,h2,h3⟩,_⟩:=(show ObjOk X.prog X.w H s.heap a (.ext (rA a (.ref D) od)) from I.hok a _ e)
  have oc:OfCls a D s.heap:=⟨o,h1,h2⟩
  cases r with
  | cons ra r2=>
   cases r2 with
   | cons rc r3=>
    cases r3
    cases ra
    cases c with
    | ref t=>
     cases rc
     rcases ans with⟨ys,et,ka⟩ | ko
     ·obtain⟨_,its,rv,⟨ot,ht,hc,n,hd⟩⟩:=(show ObjOk X.prog X.w H s.heap t (.tup (ys.map V.ref)) from I.hok t _ et)
      obtain rfl:=sO rv
      obtain⟨c0,dd,dat,sl⟩:=ot
      dsimp only at hc hd
      subst hc hd;exact W.kia_tup (pW k) I.kIn oc ht ka (by intro z;cases z) fun tk=>⟨.bl b,H,I.tok _,rfl,q⟩
     ·exact W.kia_one (pW k) I.kIn oc ko (by intro z;cases z) fun tk=>⟨.bl b,H,I.tok _,rfl,q⟩
    | ty n=>
     cases rc
     exact W.kia_one (pW k) I.kIn oc ans (by intro z;cases z) fun tk=>⟨.bl b,H,I.tok _,rfl,q⟩
    | _=>exact ans.elim
 ·exact h.elim
end
namespace R
section
variable {X:Cx} {x n c:Str} {C:Addr} {E:XK} {e:Expr} {es:List Expr} {t:TA} {np cpos pos p hpos:Pos} {m i:Nat} {ps:List Str} {sp:Sp} {Ex:St->Value->Option Addr->Hp->Prop} {K:W.Frag} {body suite:List Stmt} {s0:Stmt} {tb:(St->Value->Option Addr->Hp->Prop)->TS} {th:TS}
theorem gu (hK:X.K=K:=by rfl):XC X (.builtin "isinstance") (Wv K):=hK ▸ ⟨aAL⟩
theorem jy (c:lN X.prog X.w X.K X.mg X.base m x ps sp) (hr:Room m X.A) (hg:Gl X x) (hx:Jn X Ex) (ha:XA X (e::es) t) (hs:aM e=true:=by rfl) (h2:es.all aM=true:=by rfl) (hdb:(x == ("__debug__":Str))=false:=by decide) :
  XE X (.Call (.Name x p) (e::es) [] pos) (aAI sp Ex t):=⟨Wt c hr hg hx ha.h hs h2 hdb⟩
theorem jx (hm:X.mg c=some (.ref C)) (hg:Gl X c) (hN:X.N.Nodup) (hb:∀pn Ex,XB (X.trying pn Ex) body (tb Ex)) (hs:∀a,XB (X.handling a) (s0::suite) th) (hK:X.K=K:=by rfl) (hi:X.N[i]?=some n:=by rfl) (hx:X.env.kindOf n=some .local:=by rfl) (hl:Fu X.env.scope n:=by first | exact Or.inl rfl | exact Or.inr rfl)
  (hfn:X.fn n=true∨X.env.scope.names.lookup n=some .local:=by first | exact .inl rfl | exact .inr rfl) (hst:X.stack=X.env::X.outer:=by rfl) (hf:X.env.frame=some X.env.locals:=by rfl) (hex:X.ex=[]:=by rfl) (hdb:(c == ("__debug__":Str))=false:=by decide) :
  XS X (.Try body [.ExceptHandler (some (.Name c p)) (some n) (s0::suite) hpos] [] [] pos) (aAJ K C i tb th):=hK ▸ ⟨Wu hN hi hx hl hfn hst hf hex hg hm hdb (fun pn Ex=>(hb pn Ex).h) fun a=>(hs a).h⟩
end
end R
end L2
namespace L2
open PySem PySem.Spec PyProof.Rows
theorem rB:bootBuiltins "ValueError"=some (.type "ValueError"):=by decide +kernel
theorem R.im {X:Cx} {x:Str} {n:String} {pos:Pos} (hg:Gl X x) (hm:X.mg x=none) (hv:bootBuiltins x=some (.type n)) (hn:x≠"__name__":=by decide) (hd:(x == ("__debug__":Str))=false:=by decide):XE X (.Name x pos) (tC (.ty n)):=⟨Af hg hm hv rfl hn hd⟩
end L2
namespace L2
open PySem PySem.Spec PyProof.Rows
inductive DW (one other nm:Str) (n:Int):Str->List V->List (Str × Int)->List (Str × List V)->Prop
 | add:DW one other nm n "add" [.str "add",.str nm,.int n] [(nm,n)] []
 | take:DW one other nm n "take" [.str "take",.str nm,.int n] [(nm,-n)] []
 | move:DW one other nm n "move" [.str "move",.str one,.str other,.int n] [(one,-n),(other,n)] []
 | send:DW one other nm n "send" [.str "send",.str one,.str nm,.int n] [(nm,-n)] [(one,[.str "add",.str nm,.int n])]
 | fetch:DW one other nm n "fetch" [.str "fetch",.str one,.str nm,.int n] [(nm,n)] [(one,[.str "take",.str nm,.int n])]
 | pass:DW one other nm n "pass" [.str "pass",.str one,.str other,.str nm,.int n] [] [(one,[.str "take",.str nm,.int n]),(other,[.str "add",.str nm,.int n])]
structure Ss (wd:Str) (xs:List V) (cs:List (Str × Int)) (as:List (Str × List V)):Prop where
 ex:∃one other nm n,DW one other nm n wd xs cs as
def aAM (H:Hp) (q:Str × List V) (v:V):Prop:=∃a d,v=.ref a/\H a=some (.tup [.str q.1,.ref d])/\H d=some (.tup q.2)
def nH:Sp:=fun vs H Q _=>∃p wd xs cs as,vs=[.ref p]/\H p=some (.tup xs)/\Ss wd xs cs as/\∀t zs H',Same H H'->H' t=some (.tup (fF zs))->Ee H' zs->zs.map (·.2)=cs->Q (.ref t) H'
def kZ:Sp:=fun vs H Q _=>∃p wd xs cs as,vs=[.ref p]/\H p=some (.tup xs)/\Ss wd xs cs as/\∀t us H',Same H H'->H' t=some (.tup us)->Paired (aAM H') as us->Q (.ref t) H'
abbrev tS (z:Str):TV:=.sc (.str z)
abbrev tI (n:Int):TV:=.sc (.int n)
def isT (f:Str->Int) (cs:List (Str × Int)):List V:=.str "is"::cs.map fun q=>V.int (f q.1+q.2)
def nJ (C:Addr):Sp:=fun vs H Q _=>∃b p wd xs cs as prs,vs=[.ref b,.ref p]/\BookAt C H b prs/\H p=some (.tup xs)/\Ss wd xs cs as/\∀t H',Same H H'->H' t=some (.tup (isT (dM prs) cs))->Q (.ref t) H'
def iH (f:Str->Int) (last:TV):List (Str × Int)->TV
 | []=>last
 | q::r=>if q.2<0/\f q.1+q.2<0 then .tp [tS "short",tI (f q.1)] else if 0<q.2/\1000000000000<f q.1+q.2 then .tp [tS "full",tI (f q.1)] else iH f last r
theorem wM (f:Str->Int) (last:TV) (q:Str × Int) (r:List (Str × Int)):iH f last (q::r)=if q.2<0/\f q.1+q.2<0 then .tp [tS "short",tI (f q.1)] else if 0<q.2/\1000000000000<f q.1+q.2 then .tp [tS "full",tI (f q.1)] else iH f last r:=rfl
def lO (f:Str->Int) (cs:List (Str × Int)) (as:List (Str × List V)):TV:=if as=[] then .tp ((isT f cs).map .sc) else .sc .non
def Bj (C:Addr):Sp:=fun vs H Q _=>∃b p wd xs cs as prs,vs=[.ref b,.ref p]/\BookAt C H b prs/\H p=some (.tup xs)/\Ss wd xs cs as/\∀v H',Same H H'->RepT H' 1 (iH (dM prs) (lO (dM prs) cs as) cs) v->Q v H'
theorem uO {H:Hp} {n:Nat}:∀ {xs:List V},(∀y∈xs,kY y=true)->Paired (RepT H n) (xs.map TV.sc) xs
 | [],_=>.nil
 | y::r,h=>.cons (RepT.scal (h y jI)) (uO fun z m=>h z (oP _ m))
theorem Jo (f:Str->Int) (cs:List (Str × Int)):∀y∈isT f cs,kY y=true:=fun y hy=>by
 rcases List.mem_cons.mp hy with rfl | h
 ·rfl
 ·obtain⟨q,_,rfl⟩:=Zmm.mp h
  rfl
end L2
namespace L2
open PySem PySem.Spec PyProof.Rows
def Jp:Bool->String | true=>"list_iterator" | false=>"tuple_iterator"
def lP (k:Bool) (a:Addr):Obj:={cls:=.type (Jp k),data:=.fields #[.ref a,.int 0 0] }
def ItAt (k:Bool) (h:Heap) (it a:Addr) (i:Nat):Prop:=∃o,h.get? it=some o/\o.cls=.type (Jp k)/\o.data=.fields #[.ref a,.int i 0]
def SeqIn (k:Bool) (h:Heap) (a:Addr) (vs:Array Value):Prop:=match k with | true=>h.IsList a vs | false=>h.IsTuple a vs
theorem ItAt.by {k:Bool} {h h':Heap} {it a:Addr} {i:Nat} (x:ItAt k h it a i) (g:∀o,h.get? it=some o->h'.get? it=some o):ItAt k h' it a i:=let ⟨o,e,r⟩:=x;⟨o,g o e,r⟩
theorem SeqIn.by {k:Bool} {h h':Heap} {a:Addr} {vs:Array Value} (x:SeqIn k h a vs) (g:∀o,h.get? a=some o->h'.get? a=some o):SeqIn k h' a vs:=by
 cases k
 ·obtain⟨o,e,r⟩:=x;exact⟨o,g o e,r⟩
 ·obtain⟨o,e,r⟩:=x;exact⟨o,g o e,r⟩
theorem SeqIn.lt {k:Bool} {h:Heap} {a:Addr} {vs:Array Value} (x:SeqIn k h a vs):a<h.objs.size:=by
 cases k
 ·obtain⟨o,e,r⟩:=x;exact Heap.lt_size e
 ·obtain⟨o,e,r⟩:=x;exact Heap.lt_size e
section
variable {prog:Program} {w:World} {A:Around} {E:Value->Shared->Prop} {s:Shared}
theorem Jq {k:Bool} {a:Addr} {vs:Array Value} {Q:Value->Shared->Prop} (h:SeqIn k s.heap a vs) (q:Q (.ref s.heap.objs.size) {s with heap:=s.heap.push (lP k a) }):wpAny (model prog w) A (pyIter (.ref a)) Q E s:=by
 cases k
 ·exact wpAny_pyIter_tuple (show s.heap.IsTuple a vs from h) q
 ·exact wpAny_pyIter_list (show s.heap.IsList a vs from h) q
theorem uP {k:Bool} {it a:Addr} {i:Nat} {vs:Array Value} {x:Value} {Q:Value->Shared->Prop} (hit:ItAt k s.heap it a i) (hs:SeqIn k s.heap a vs) (hx:vs[i]?=some x)
  (q:∀h',ItAt k h' it a (i+1)->Heap.SameBut it s.heap h'->Q x {s with heap:=h' }):wpAny (model prog w) A (Builtin.SmallTypes.nextOf (.ref it)) Q E s:=by
 cases k with
 | true=>exact wpAny_nextOf_list_item (show s.heap.IsListIter it a i from hit) (show s.heap.IsList a vs from hs) hx q
 | false=>
  have hit':s.heap.IsTupleIter it a i:=hit
  obtain⟨o,ho,hc,hd⟩:=hit
  obtain⟨ol,hol,_,nl,hdl⟩:=hs
  unfold Builtin.SmallTypes.nextOf;refine wpAny_bind (wpAny_callSpecial?_slot (name:=Str.ofString "__next__") hit'.typeIs F.slot_tuple_iterator_next (wpAny_call_entry F.slot_tuple_iterator_next hit'.typeIs F.entry_tuple_iterator_next ?_ (F.args_tuple_iterator_next_1 _)))
  show wpAny (model prog w) _ (field (.ref it) 0 >>= _) _ _ s
  refine wpAny_bind (wpAny_field ho hd (x:=.ref a) rfl ?_)
  show wpAny (model prog w) _ (if (Value.ref a == Value.none)=true then _ else _) _ _ s
  rw[if_neg (show ¬ ((Value.ref a == Value.none)=true) from Bool.false_ne_true)];show wpAny (model prog w) _ (field (.ref it) 1 >>= _) _ _ s
  refine wpAny_bind (wpAny_field (x:=.int i 0) ho hd rfl ?_)
  show wpAny (model prog w) _ (seqItems? (.ref a) >>= _) _ _ s
  refine wpAny_bind (wpAny_seqItems (hol) hdl ?_)
  simp only [hx,Int.toNat_natCast]
  refine wpAny_bind (wpAny_setField ho hd Zs (wpAny_pure ⟨x,rfl,wpAny_pure (q _ ?_ (Heap.SameBut.update ..))⟩))
  exact⟨_,Heap.get?_update_self _ ho (Obj.isFreed_of_fields (Obj.data_mapFields hd _)),(Obj.cls_mapFields ..).trans hc,by rw[Obj.data_mapFields hd];simp [rawInt]⟩
theorem Jr {k:Bool} {it a:Addr} {i:Nat} {vs:Array Value} {Q:Value->Shared->Prop} (hh:A.handled=none) (hit:ItAt k s.heap it a i) (hs:SeqIn k s.heap a vs) (hx:vs[i]?=none)
  (hE:∀h' e,Heap.ExtBut it s.heap h'->(∃o,h'.get? e=some o/\o.cls=.type "StopIteration")->E (.ref e) {s with heap:=h' }):wpAny (model prog w) A (Builtin.SmallTypes.nextOf (.ref it)) Q E s:=by
 cases k with
 | true=>exact wpAny_nextOf_list_end hh (show s.heap.IsListIter it a i from hit) (show s.heap.IsList a vs from hs) hx hE
 | false=>
  have hit':s.heap.IsTupleIter it a i:=hit
  obtain⟨o,ho,hc,hd⟩:=hit
  obtain⟨ol,hol,_,nl,hdl⟩:=hs
  unfold Builtin.SmallTypes.nextOf;refine wpAny_bind (wpAny_callSpecial?_slot (name:=Str.ofString "__next__") hit'.typeIs F.slot_tuple_iterator_next (wpAny_call_entry F.slot_tuple_iterator_next hit'.typeIs F.entry_tuple_iterator_next ?_ (F.args_tuple_iterator_next_1 _)))
  show wpAny (model prog w) _ (field (.ref it) 0 >>= _) _ _ s
  refine wpAny_bind (wpAny_field ho hd (x:=.ref a) rfl ?_)
  show wpAny (model prog w) _ (if (Value.ref a == Value.none)=true then _ else _) _ _ s
  rw[if_neg (show ¬ ((Value.ref a == Value.none)=true) from Bool.false_ne_true)];show wpAny (model prog w) _ (field (.ref it) 1 >>= _) _ _ s
  refine wpAny_bind (wpAny_field (x:=.int i 0) ho hd rfl ?_)
  show wpAny (model prog w) _ (seqItems? (.ref a) >>= _) _ _ s
  refine wpAny_bind (wpAny_seqItems (hol) hdl ?_)
  simp only [hx,Int.toNat_natCast]
  refine wpAny_bind (wpAny_rule (wpAny_bind (wpAny_setField (ho) hd Zs ?_)))
  show wpAny (model prog w) _ (newExc (.type "StopIteration") [] >>= _) _ _ _
  refine wpAny_bind ?_
  simp only [newTuple,newExc]
  refine wpAny_bind (wpAny_newObj_type ?_ (by size_fits))
  refine wpAny_bind (m:=firstArgMember _ _) (wpAny_of_eq (a:=Value.none) (by first | rfl | (simp only [firstArgMember];rfl)) ?_)
  refine wpAny_newObj_type ?_ (by size_fits)
  simp only [raiseNew]
  refine wpAny_bind (wpAny_handled ?_)
  first | rw[show A.in1.handled=none from(hh)] | rw[hh]
  refine wpAny_bind (wpAny_pure (wpAny_throw ?_))
  exact hE _ _ (((Heap.SameBut.update ..).extBut.push _).push _) ⟨_,Heap.get?_push_size _ rfl,rfl⟩
structure Pn (z ti to j1 j2 a1 a2:Addr):Prop where
 i:ti≠z
 o:to≠z
 p:j1≠z
 q:j2≠z
 io:ti≠to
 ip:ti≠j1
 iq:ti≠j2
 op:to≠j1
 oq:to≠j2
 pq:j1≠j2
 a:∀b,b=a1∨b=a2->b≠z/\b≠to/\b≠j1/\b≠j2
structure ZSt (k1 k2:Bool) (h:Heap) (z ti to j1 j2 a1 a2:Addr) (f0:Value) (n1 n2:Nat):Prop where
 z:IsZip h z ti to f0
 i:IsPair h ti (.ref j1) (.ref j2)
 o:∃a b,IsPair h to a b
 x:ItAt k1 h j1 a1 n1
 y:ItAt k2 h j2 a2 n2
theorem Po {k1 k2:Bool} {z ti to j1 j2 a1 a2:Addr} {n:Nat} {xs ys:Array Value} {x y:Value} {Q:Value->Shared->Prop} (D:Pn z ti to j1 j2 a1 a2) (S:ZSt k1 k2 s.heap z ti to j1 j2 a1 a2 .none n n)
  (hl1:SeqIn k1 s.heap a1 xs) (hl2:SeqIn k2 s.heap a2 ys) (hx:xs[n]?=some x) (hy:ys[n]?=some y)
  (hQ:∀h',ZSt k1 k2 h' z ti to j1 j2 a1 a2 (rawInt s.heap.objs.size) (n+1) (n+1)->IsPair h' s.heap.objs.size x y->h'.objs.size=s.heap.objs.size+1 →
   (∀c o,c≠z->c≠to->c≠j1->c≠j2->s.heap.get? c=some o->h'.get? c=some o)->Q (.ref s.heap.objs.size) {s with heap:=h' }) :
  wpAny (model prog w) A (Builtin.«zip.__next__» ⟨[.ref z],[]⟩) (fun fin s'=>∃v,fin=.done (.ret v)/\Q v s') E s:=by
 obtain⟨hz,hI,⟨u1,u2,hO⟩,h1,h2⟩:=S
 obtain⟨c1z,c1o,c1p,c1q⟩:=D.a a1 (.inl rfl)
 obtain⟨c2z,c2o,c2p,c2q⟩:=D.a a2 (.inr rfl)
 show wpAny (model prog w) _ (field (.ref z) 2 >>= _) _ _ _
 refine wpAny_bind (wpAny_field (x:=.bool false) hz rfl rfl ?_)
 show wpAny (model prog w) _ (field (.ref z) 3 >>= _) _ _ _
 refine wpAny_bind (wpAny_field (x:=.ref ti) hz rfl rfl ?_)
 refine wpAny_bind (wpAny_seqItems hI rfl ?_)
 show wpAny (model prog w) _ (Builtin.SmallTypes.ownedTupleIsFree (.ref z) >>= _) _ _ _
 refine wpAny_bind ?_
 unfold Builtin.SmallTypes.ownedTupleIsFree;refine wpAny_bind (wpAny_field (x:=.none) hz rfl rfl (wpAny_pure ?_))
 simp only [if_true]
 refine wpAny_bind (wpAny_rule ?_)
 refine wpAny_bind (wpAny_field (x:=.ref to) hz rfl rfl ?_)
 refine wpAny_bind (wpAny_setField_rec hz Zs fun g1 z1 b1=>?_)
 have z1:IsZip g1 z ti to .ellipsis:=z1
 refine wpAny_bind ?_
 simp only [List.zipIdx_nil,List.zipIdx_cons,List.forIn_nil,List.forIn_cons]
 refine wpAny_bind (wpAny_bind (wpAny_onRaise ?_))
 show wpAny (model prog w) _ (Builtin.SmallTypes.nextOf (.ref j1) >>= _) _ _ _
 refine wpAny_bind (uP (h1.by fun o e=>b1.extBut _ _ D.p e) (hl1.by fun o e=>b1.extBut _ _ c1z e) hx fun g2 i2 b2=>wpAny_pure ?_)
 have o2:IsPair g2 to u1 u2:=b2.extBut _ _ D.op (b1.extBut _ _ D.o hO)
 refine wpAny_bind (wpAny_seqItems o2 rfl ?_)
 refine wpAny_bind (wpAny_updateSeq_pair o2 fun g3 o3 b3=>?_)
 have o3:IsPair g3 to x u2:=o3
 refine wpAny_bind (wpAny_letGo (wpAny_pure ?_))
 refine wpAny_bind (wpAny_bind (wpAny_onRaise ?_))
 show wpAny (model prog w) _ (Builtin.SmallTypes.nextOf (.ref j2) >>= _) _ _ _
 refine wpAny_bind (uP (h2.by fun o e=>b3.extBut _ _ D.oq.symm (b2.extBut _ _ D.pq.symm (b1.extBut _ _ D.q e))) (hl2.by fun o e=>b3.extBut _ _ c2o (b2.extBut _ _ c2p (b1.extBut _ _ c2z e))) hy fun g4 i4 b4=>wpAny_pure ?_)
 have o4:IsPair g4 to x u2:=b4.extBut _ _ D.oq o3
 refine wpAny_bind (wpAny_seqItems o4 rfl ?_)
 refine wpAny_bind (wpAny_updateSeq_pair o4 fun g5 o5 b5=>?_)
 have o5:IsPair g5 to x y:=o5
 refine wpAny_bind (wpAny_letGo (wpAny_pure (wpAny_pure ?_)))
 refine wpAny_bind (wpAny_seqItems o5 rfl ?_)
 refine wpAny_bind (wpAny_newTuple ?_)
 have hsz:g5.objs.size=s.heap.objs.size:=by rw[b5.1,b4.1,b3.1,b2.1,b1.1]
 have z5:IsZip g5 z ti to .ellipsis:=b5.extBut _ _ D.o.symm (b4.extBut _ _ D.q.symm (b3.extBut _ _ D.o.symm (b2.extBut _ _ D.p.symm z1)))
 have hk5:∀c o,c≠z->c≠to->c≠j1->c≠j2->s.heap.get? c=some o->g5.get? c=some o:=fun c o n1 n2 n3 n4 e=>b5.extBut _ _ n2 (b4.extBut _ _ n4 (b3.extBut _ _ n2 (b2.extBut _ _ n3 (b1.extBut _ _ n1 e))))
 have i5:ItAt k1 g5 j1 a1 (n+1):=i2.by fun o e=>b5.extBut _ _ D.op.symm (b4.extBut _ _ D.pq (b3.extBut _ _ D.op.symm e))
 have j5:ItAt k2 g5 j2 a2 (n+1):=i4.by fun o e=>b5.extBut _ _ D.oq.symm e
 have zlt:z<g5.objs.size:=Heap.lt_size z5
 show wpAny (model prog w) _ (Builtin.SmallTypes.ownedTupleHandOut (.ref z) (.ref g5.objs.size) >>= _) _ _ _
 refine wpAny_bind ?_
 unfold Builtin.SmallTypes.ownedTupleHandOut;have z6:IsZip (g5.push {cls:=.type "tuple",data:=.seq #[x,y] }) z ti to .ellipsis:=eP _ z5
 refine wpAny_bind (wpAny_setField_rec z6 Zs fun g7 z7 b7=>?_)
 have z7:IsZip g7 z ti to (rawInt g5.objs.size):=z7
 refine wpAny_setField_rec z7 Zs fun g8 z8 b8=>?_
 have z8:IsZip g8 z ti to (rawInt g5.objs.size):=z8
 have up:∀c o,c≠z->g5.get? c=some o->g8.get? c=some o:=fun c o n1 e=>b8.extBut _ _ n1 (b7.extBut _ _ n1 (eP _ e))
 have t8:IsPair g8 g5.objs.size x y:=b8.extBut _ _ (Nat.ne_of_gt zlt) (b7.extBut _ _ (Nat.ne_of_gt zlt) (Heap.get?_push_size _ rfl))
 have s8:g8.objs.size=g5.objs.size+1:=by rw[b8.1,b7.1,Heap.size_push]
 rw[hsz]at z8 t8 s8;refine wpAny_pure ⟨_,rfl,?_⟩
 show Q (.ref g5.objs.size) _
 rw[hsz];exact hQ g8 ⟨z8,up _ _ D.i (hk5 _ _ D.i D.io D.ip D.iq hI),⟨_,_,up _ _ D.o o5⟩,i5.by fun o e=>up _ o D.p e,j5.by fun o e=>up _ o D.q e⟩ t8 s8 fun c o n1 n2 n3 n4 e=>up c o n1 (hk5 c o n1 n2 n3 n4 e)
theorem Ww {k1 k2:Bool} {z ti to j1 j2 a1 a2:Addr} {n:Nat} {xs ys:Array Value} {Q:Fin->Shared->Prop} (hh:A.handled=none) (D:Pn z ti to j1 j2 a1 a2) (S:ZSt k1 k2 s.heap z ti to j1 j2 a1 a2 .none n n)
  (hl1:SeqIn k1 s.heap a1 xs) (hl2:SeqIn k2 s.heap a2 ys) (hend:xs[n]?=none∨ys[n]?=none)
  (hE:∀h' e,(∀c o,c≠z->c≠to->c≠j1->c≠j2->s.heap.get? c=some o->h'.get? c=some o)->(∃o,h'.get? e=some o/\o.cls=.type "StopIteration")->E (.ref e) {s with heap:=h' }) :
  wpAny (model prog w) A (Builtin.«zip.__next__» ⟨[.ref z],[]⟩) Q E s:=by
 obtain⟨hz,hI,⟨u1,u2,hO⟩,h1,h2⟩:=S
 obtain⟨c1z,c1o,c1p,c1q⟩:=D.a a1 (.inl rfl)
 obtain⟨c2z,c2o,c2p,c2q⟩:=D.a a2 (.inr rfl)
 show wpAny (model prog w) _ (field (.ref z) 2 >>= _) _ _ _
 refine wpAny_bind (wpAny_field (x:=.bool false) hz rfl rfl ?_)
 show wpAny (model prog w) _ (field (.ref z) 3 >>= _) _ _ _
 refine wpAny_bind (wpAny_field (x:=.ref ti) hz rfl rfl ?_)
 refine wpAny_bind (wpAny_seqItems hI rfl ?_)
 show wpAny (model prog w) _ (Builtin.SmallTypes.ownedTupleIsFree (.ref z) >>= _) _ _ _
 refine wpAny_bind ?_
 unfold Builtin.SmallTypes.ownedTupleIsFree;refine wpAny_bind (wpAny_field (x:=.none) hz rfl rfl (wpAny_pure ?_))
 simp only [if_true]
 refine wpAny_bind (wpAny_rule ?_)
 refine wpAny_bind (wpAny_field (x:=.ref to) hz rfl rfl ?_)
 refine wpAny_bind (wpAny_setField_rec hz Zs fun g1 z1 b1=>?_)
 have z1:IsZip g1 z ti to .ellipsis:=z1
 refine wpAny_bind ?_
 simp only [List.zipIdx_nil,List.zipIdx_cons,List.forIn_nil,List.forIn_cons]
 refine wpAny_bind (wpAny_bind (wpAny_onRaise ?_))
 show wpAny (model prog w) _ (Builtin.SmallTypes.nextOf (.ref j1) >>= _) _ _ _
 cases hx:xs[n]? with
 | none=>
  refine wpAny_bind (Jr hh (h1.by fun o e=>b1.extBut _ _ D.p e) (hl1.by fun o e=>b1.extBut _ _ c1z e) hx fun g2 e b2 he=>?_)
  obtain⟨oe,hoe,hce⟩:=he
  have z2:IsZip g2 z ti to .ellipsis:=b2 _ _ D.p.symm z1
  have ne:e≠z:=fun(q:e=z)=>by subst q;rw[z2]at hoe;cases hoe;simp at hce
  exact wpAny_setField_rec z2 Zs fun g3 _ b3=>hE g3 e (fun c o n1 _ n3 _ q=>b3.extBut _ _ n1 (b2 _ _ n3 (b1.extBut _ _ n1 q))) ⟨oe,b3.extBut _ _ ne hoe,hce⟩
 | some x=>
  have hy:ys[n]?=none:=hend.resolve_left (by rw[hx];exact fun q=>nomatch q)
  refine wpAny_bind (uP (h1.by fun o e=>b1.extBut _ _ D.p e) (hl1.by fun o e=>b1.extBut _ _ c1z e) hx fun g2 i2 b2=>wpAny_pure ?_)
  have o2:IsPair g2 to u1 u2:=b2.extBut _ _ D.op (b1.extBut _ _ D.o hO)
  refine wpAny_bind (wpAny_seqItems o2 rfl ?_)
  refine wpAny_bind (wpAny_updateSeq_pair o2 fun g3 o3 b3=>?_)
  refine wpAny_bind (wpAny_letGo (wpAny_pure ?_))
  refine wpAny_bind (wpAny_bind (wpAny_onRaise ?_))
  show wpAny (model prog w) _ (Builtin.SmallTypes.nextOf (.ref j2) >>= _) _ _ _
  refine wpAny_bind (Jr hh (h2.by fun o e=>b3.extBut _ _ D.oq.symm (b2.extBut _ _ D.pq.symm (b1.extBut _ _ D.q e))) (hl2.by fun o e=>b3.extBut _ _ c2o (b2.extBut _ _ c2p (b1.extBut _ _ c2z e))) hy fun g4 e b4 he=>?_)
  obtain⟨oe,hoe,hce⟩:=he
  have z4:IsZip g4 z ti to .ellipsis:=b4 _ _ D.q.symm (b3.extBut _ _ D.o.symm (b2.extBut _ _ D.p.symm z1))
  have ne:e≠z:=fun(q:e=z)=>by subst q;rw[z4]at hoe;cases hoe;simp at hce
  exact wpAny_setField_rec z4 Zs fun g5 _ b5=>hE g5 e (fun c o n1 n2 n3 n4 q=>b5.extBut _ _ n1 (b4 _ _ n4 (b3.extBut _ _ n2 (b2.extBut _ _ n3 (b1.extBut _ _ n1 q))))) ⟨oe,b5.extBut _ _ ne hoe,hce⟩
end
section
variable {X:Cx} {pins:List (Addr × Obj)} {σ:List (Option V)} {H:Hp} {s:Shared} {h':Heap}
theorem Inv.turnLaid {t':Nat} {ch:List Addr} {a:Addr} {o:HO} (I:Inv X pins σ H s) (hf:∀b∈ch,mP X pins H b) (k:∀b u,b∉ch->s.heap.get? b=some u->h'.get? b=some u) (hp:s.heap.objs.size<=a) (new:ObjOk X.prog X.w (aI H a o) h' a o) :
  Inv X pins σ (aI H a o) {s with heap:=h',toks:=t' }:=by
 have hn:=I.hok.fresh hp
 have nch:∀b u,H b=some u->b∉ch:=fun b u e z=>by rw[(hf b z).1]at e;cases e
 refine I.step (g':=s.gens) (d':=s.drawn) (ch:=ch) (fun b hb=>⟨(hf b hb).2.2.2.1,(hf b hb).2.1,(hf b hb).2.2.2.2.1,(hf b hb).2.2.2.2.2⟩) (fun b u _ _ hc e _=>k b u hc e) (fun b u _ _ hc e _=>⟨u.slots,k b u hc e⟩)
  (fun b u _ e n=>by rw[aD (Nat.ne_of_lt (Nat.lt_of_lt_of_le (Heap.lt_size e) hp))];exact n) (fun b u hc e=>⟨u,k b u hc e⟩) (fun b xs e=>by rw[aD (aE e hn)];exact e) (fun b v u e=>by rw[aD (aE e hn)];exact e)
  (fun b ps e=>⟨#[],by rw[aD (aE e hn),e];simp⟩) (fun m hm=>?_) (fun b u e=>?_) I.bare
 ·obtain⟨u,es,ep,ho,r⟩:=hm
  exact⟨u,es,ep,k _ u (fun z=>(hf _ z).2.1 rfl) ho,r⟩
 ·by_cases hb:b=a
  ·subst hb;rw[aA]at e;cases e;exact new
  ·rw[aD hb]at e;refine(I.hok b u e).stay (fun c v hc q=>k c v ?_ q) (fun c q=>by rw[aD (aE q hn)];exact q) fun c xs q=>by rw[aD (aE q hn)];exact q
   rcases hc with z | z
   ·rw[z];exact nch b u e
   ·exact nch c _ z
theorem Inv.turnL {t':Nat} {ch:List Addr} (I:Inv X pins σ H s) (hf:∀b∈ch,mP X pins H b) (k:∀b u,b∉ch->s.heap.get? b=some u->h'.get? b=some u):Inv X pins σ H {s with heap:=h',toks:=t' }:=by
 have nch:∀b u,H b=some u->b∉ch:=fun b u e z=>by rw[(hf b z).1]at e;cases e
 refine I.step (g':=s.gens) (d':=s.drawn) (ch:=ch) (fun b hb=>⟨(hf b hb).2.2.2.1,(hf b hb).2.1,(hf b hb).2.2.2.2.1,(hf b hb).2.2.2.2.2⟩) (fun b u _ _ hc e _=>k b u hc e) (fun b u _ _ hc e _=>⟨u.slots,k b u hc e⟩)
  (fun _ _ _ _ n=>n) (fun b u hc e=>⟨u,k b u hc e⟩) (fun _ _ e=>e) (fun _ _ _ e=>e) (fun b ps e=>⟨#[],by rw[e];simp⟩) (fun m hm=>?_) (fun b u e=>?_) I.bare
 ·obtain⟨u,es,ep,ho,r⟩:=hm
  exact⟨u,es,ep,k _ u (fun z=>(hf _ z).2.1 rfl) ho,r⟩
 ·refine(I.hok b u e).stay (fun c v hc q=>k c v ?_ q) (fun _ q=>q) fun _ _ q=>q
  rcases hc with z | z
  ·rw[z];exact nch b u e
  ·exact nch c _ z
end
def zA (K:W.Frag) (k:Bool) (H:Hp) (a:Addr) (xs:List V):Prop:=match k with | true=>SqL K H a xs | false=>SqT K H a xs
def Itz (K:W.Frag) (k1 k2:Bool) (a1 a2:Addr):It:=
  ⟨fun i H=>∃xs ys x y,zA K k1 H a1 xs/\zA K k2 H a2 ys/\xs[i]?=some x/\ys[i]?=some y,
   fun i H v H'=>∃t x y,H t=none/\v=.ref t/\H'=aI H t (.tup [x,y])/\(∀xs,zA K k1 H a1 xs->xs[i]?=some x)/\∀ys,zA K k2 H a2 ys->ys[i]?=some y,
   fun i H=>∃xs ys,zA K k1 H a1 xs/\zA K k2 H a2 ys/\(xs.length<=i∨ys.length<=i)⟩
theorem Inv.sqk {X:Cx} {pins:List (Addr × Obj)} {σ:St} {H:Hp} {s:Shared} (I:Inv X pins σ H s) {k:Bool} {a:Addr} {xs:List V} (h:zA X.K k H a xs):∃its,Vals xs its/\SeqIn k s.heap a its.toArray:=by
 cases k
 ·obtain⟨its,r,p,_⟩:=I.tuple h
  exact⟨its,r,p⟩
 ·obtain⟨its,r,p,_⟩:=I.list h
  exact⟨its,r,p.isList⟩
theorem Inv.sqk_inj {X:Cx} {pins:List (Addr × Obj)} {σ:St} {H:Hp} {s:Shared} (I:Inv X pins σ H s) {k:Bool} {a:Addr} {xs ys:List V} (h:zA X.K k H a xs) (h2:zA X.K k H a ys):xs=ys:=by
 cases k
 ·exact I.tuple_inj h h2
 ·exact I.list_inj h h2
theorem Js {P:Program} {w:World} {K:W.Frag} {es:List Expr} {n:Nat} {pos:Pos} {k1 k2:Bool} {z ti to j1 j2 a1 a2:Addr} (D:Pn z ti to j1 j2 a1 a2) :
  tH P w K (.Tuple es n pos) (Itz K k1 k2 a1 a2) [z,ti,to,j1,j2] z (fun i h=>ZSt k1 k2 h z ti to j1 j2 a1 a2 .none i i) where
 mem:=by simp
 obj:=fun i h st b hb=>by
  obtain⟨u1,u2,hO⟩:=st.o
  obtain⟨o1,e1,_,d1⟩:=st.x
  obtain⟨o2,e2,_,d2⟩:=st.y
  simp only [List.mem_cons,List.not_mem_nil,or_false]at hb
  rcases hb with rfl | rfl | rfl | rfl | rfl
  ·exact⟨_,st.z,fun v q=>by have q':Data.fields _=Data.cell v:=q;cases q'⟩
  ·exact⟨_,st.i,fun v q=>by have q':Data.seq _ _=Data.cell v:=q;cases q'⟩
  ·exact⟨_,hO,fun v q=>by have q':Data.seq _ _=Data.cell v:=q;cases q'⟩
  ·exact⟨_,e1,fun v q=>by rw[d1]at q;cases q⟩
  ·exact⟨_,e2,fun v q=>by rw[d2]at q;cases q⟩
 keep:=fun i h h' st g=>by
  obtain⟨u1,u2,hO⟩:=st.o
  exact⟨g z Zs _ st.z,g ti Zs _ st.i,⟨u1,u2,g to Zs _ hO⟩,st.x.by fun o e=>g j1 Zs o e,st.y.by fun o e=>g j2 Zs o e⟩
 item:=by
  intro X hP hw hK hc i pins s σ H E I hf st hg;subst hP hw hK;obtain⟨xs,ys,x,y,hx,hy,ex,ey⟩:=hg
  obtain⟨its,rv,p⟩:=I.sqk hx
  obtain⟨jts,rw',p'⟩:=I.sqk hy
  obtain⟨u,hu,ru⟩:=rv.get ex
  obtain⟨v,hv,rv'⟩:=rw'.get ey
  have hT:s.TypeIs (.ref z) "zip":=⟨_,st.z,rfl⟩
  unfold pyNext;refine wpAny_bind (wpAny_attempt (wpAny_callSpecial?_slot (name:=Str.ofString "__next__") hT F.slot_zip_next (wpAny_call_entry F.slot_zip_next hT F.entry_zip_next (Po D st p p' (by simpa using hu) (by simpa using hv) fun h1 st1 t1 z1 k1'=>wpAny_pure ?_) (F.args_zip_next_1 _))))
  refine⟨_,rfl,?_⟩
  refine wpAny_letOwnedTupleGo_zip st1.z fun h2 z2 b2=>?_
  obtain⟨w1,w2,hO⟩:=st1.o
  have zlt:z<s.heap.objs.size:=Heap.lt_size st.z
  have t2:IsPair h2 s.heap.objs.size u v:=b2.extBut _ _ (Nat.ne_of_gt zlt) t1
  refine⟨.ref s.heap.objs.size,aI H s.heap.objs.size (.tup [x,y]),I.turnLaid (t':=s.toks) hf (fun b o hb e=>?_) (bQ _) ⟨by show 2<=sizeLine;decide,[u,v],.cons ru (.cons rv' .nil),⟨_,t2,rfl,_,rfl⟩⟩,rfl,?_,?_,fun b hb=>?_⟩
  ·have hb':b≠z/\b≠ti/\b≠to/\b≠j1/\b≠j2:=by simpa using hb
   exact b2.extBut _ _ hb'.1 (k1' b o hb'.1 hb'.2.2.1 hb'.2.2.2.1 hb'.2.2.2.2 e)
  ·exact⟨s.heap.objs.size,x,y,I.hok.fresh (bQ _),rfl,rfl,fun zs hz=>by rw[I.sqk_inj hz hx];exact ex,fun zs hz=>by rw[I.sqk_inj hz hy];exact ey⟩
  ·exact⟨z2,b2.extBut _ _ D.i st1.i,⟨_,_,b2.extBut _ _ D.o hO⟩,st1.x.by fun o e=>b2.extBut _ _ D.p e,st1.y.by fun o e=>b2.extBut _ _ D.q e⟩
  ·have hlt:b<s.heap.objs.size:=by
    obtain⟨u1,u2,hO'⟩:=st.o
    obtain⟨o1,e1,_⟩:=st.x
    obtain⟨o2,e2,_⟩:=st.y
    simp only [List.mem_cons,List.not_mem_nil,or_false]at hb
    rcases hb with rfl | rfl | rfl | rfl | rfl
    ·exact zlt
    ·exact Heap.lt_size st.i
    ·exact Heap.lt_size hO'
    ·exact Heap.lt_size e1
    ·exact Heap.lt_size e2
   rw[aD (Nat.ne_of_lt hlt)];exact(hf b hb).1
 done:=by
  intro X hP hw hK hc i pins s σ H E I hf st hg;subst hP hw hK;obtain⟨xs,ys,hx,hy,he⟩:=hg
  obtain⟨its,rv,p⟩:=I.sqk hx
  obtain⟨jts,rw',p'⟩:=I.sqk hy
  have hT:s.TypeIs (.ref z) "zip":=⟨_,st.z,rfl⟩
  have l1:=rv.length
  have l2:=rw'.length
  unfold pyNext;refine wpAny_bind (wpAny_attempt (wpAny_callSpecial?_slot (name:=Str.ofString "__next__") hT F.slot_zip_next (wpAny_call_entry F.slot_zip_next hT F.entry_zip_next (Ww (I.ok.hd hc) D st p p' (he.imp (fun h=>by simp;omega) (fun h=>by simp;omega)) fun h1 e k1' hx'=>?_) (F.args_zip_next_1 _))))
  obtain⟨o,ho,hcl⟩:=hx'
  refine wpAny_bind (wpAny_isInstance (T:="StopIteration") (b:=true) ⟨o,ho,hcl⟩ isSubtype_stop ?_)
  refine wpAny_pure ⟨rfl,I.turnL (t':=s.toks) hf fun b u hb e'=>?_⟩
  have hb':b≠z/\b≠ti/\b≠to/\b≠j1/\b≠j2:=by simpa using hb
  exact k1' b u hb'.1 hb'.2.2.1 hb'.2.2.2.1 hb'.2.2.2.2 e'
 self:=fun _ _ _ _ _ st h=>wpAny_pyIter_zip st.z h
def Ym (k1 k2:Bool) (h:Heap) (a1 a2:Addr):Heap:=
 ((((h.push (lP k1 a1)).push (lP k2 a2)).push {cls:=.type "tuple",data:=.seq #[.ref h.objs.size,.ref (h.objs.size+1)] }).push {cls:=.type "tuple",data:=.seq #[.none,.none] }).push {cls:=.type "zip",data:=.fields #[.none,.bool false,.bool false,.ref (h.objs.size+2),.ref (h.objs.size+3)] }
theorem Wx (k1 k2:Bool) (a1 a2:Addr) (xs ys:Array Value) :
  Meets (Builtin.«zip.__new__» ⟨[.type "zip",.ref a1,.ref a2],[]⟩) (fun _ R s=>SeqIn k1 s.heap a1 xs/\SeqIn k2 s.heap a2 ys/\R (.ok (.ret (.ref (s.heap.objs.size+4)))) {s with heap:=Ym k1 k2 s.heap a1 a2 }):=
 .of_wp fun prog w A R s h=>by
  obtain⟨hp,g,d,tk,os⟩:=s;obtain⟨hl1,hl2,h⟩:=h
  have hsub:=sub_zip
  have L1:SeqIn k1 (Shared.heap ⟨hp,g,d,tk,os⟩) a1 xs:=hl1
  have L2:SeqIn k2 (Shared.heap ⟨hp.push (lP k1 a1),g,d,tk,os⟩) a2 ys:=SeqIn.by hl2 fun o e=>eP _ e
  wp_walk using Jq L1,Jq L2
  refine⟨_,rfl,?_⟩
  simp only [Heap.size_push]
  exact h
theorem Wy {n a1 a2:Addr} (h1:a1<n) (h2:a2<n):Pn (n+4) (n+2) (n+3) n (n+1) a1 a2 where
 i:=Nat.ne_of_lt (Nat.add_lt_add_left Zd n)
 o:=Nat.ne_of_lt (Nat.add_lt_add_left Zd n)
 p:=Nat.ne_of_lt (Nat.lt_add_of_pos_right Zd)
 q:=Nat.ne_of_lt (Nat.add_lt_add_left Zd n)
 io:=Nat.ne_of_lt (Nat.add_lt_add_left Zd n)
 ip:=Nat.ne_of_gt (Nat.lt_add_of_pos_right Zd)
 iq:=Nat.ne_of_gt (Nat.add_lt_add_left Zd n)
 op:=Nat.ne_of_gt (Nat.lt_add_of_pos_right Zd)
 oq:=Nat.ne_of_gt (Nat.add_lt_add_left Zd n)
 pq:=Nat.ne_of_lt (Nat.lt_add_of_pos_right Zd)
 a:=fun b hb=>by
  have hlt:b<n:=by rcases hb with rfl | rfl <;> assumption
  exact⟨Nat.ne_of_lt (Nat.lt_of_lt_of_le hlt (Nat.le_add_right n 4)),Nat.ne_of_lt (Nat.lt_of_lt_of_le hlt (Nat.le_add_right n 3)),Nat.ne_of_lt hlt,Nat.ne_of_lt (Nat.lt_of_lt_of_le hlt (Nat.le_add_right n 1))⟩
section
variable {prog:Program} {w:World} {A:Around} {E:Value->Shared->Prop} {s:Shared}
theorem Pq {k1 k2:Bool} {a1 a2:Addr} {xs ys:Array Value} {Q:Value->Shared->Prop} (hl1:SeqIn k1 s.heap a1 xs) (hl2:SeqIn k2 s.heap a2 ys)
  (h:∀h',ZSt k1 k2 h' (s.heap.objs.size+4) (s.heap.objs.size+2) (s.heap.objs.size+3) s.heap.objs.size (s.heap.objs.size+1) a1 a2 .none 0 0->(∀c o,s.heap.get? c=some o->h'.get? c=some o)->Q (.ref (s.heap.objs.size+4)) {s with heap:=h' }) :
  wpAny (model prog w) A (call (.type "zip") [.ref a1,.ref a2]) Q E s:=by
 refine callType_new F.called_zip Zd (F.typeCall_zip_2 _ _) (F.newCall_zip_2 _ _) (fun obj=>F.args_object_init_3 obj _ _) F.entry_zip_new (Wx k1 k2 a1 a2 xs ys) ⟨hl1,hl2,?_⟩
 have n1:(s.heap.push (lP k1 a1)).objs.size=s.heap.objs.size+1:=Heap.size_push ..
 have n2:((s.heap.push (lP k1 a1)).push (lP k2 a2)).objs.size=s.heap.objs.size+2:=by rw[Heap.size_push,n1]
 have up:∀ {o1 o2 o3 o4 o5:Obj} {b:Addr} {o:Obj},s.heap.get? b=some o->(((((s.heap.push o1).push o2).push o3).push o4).push o5).get? b=some o:=fun e=>eP _ (eP _ (eP _ (eP _ (eP _ e))))
 have at5:∀ {h0:Heap} {o:Obj} {n:Nat},h0.objs.size=n->o.isFreed=false->(h0.push o).get? n=some o:=fun e f=>by subst e;exact Heap.get?_push_size _ f
 have g1:(Ym k1 k2 s.heap a1 a2).get? s.heap.objs.size=some (lP k1 a1):=eP _ (eP _ (eP _ (eP _ (Heap.get?_push_size _ rfl))))
 have g2:(Ym k1 k2 s.heap a1 a2).get? (s.heap.objs.size+1)=some (lP k2 a2):=eP _ (eP _ (eP _ (at5 n1 rfl)))
 have g3:IsPair (Ym k1 k2 s.heap a1 a2) (s.heap.objs.size+2) (.ref s.heap.objs.size) (.ref (s.heap.objs.size+1)):=eP _ (eP _ (at5 n2 rfl))
 have g4:IsPair (Ym k1 k2 s.heap a1 a2) (s.heap.objs.size+3) .none .none:=eP _ (at5 (by rw[Heap.size_push,n2]) rfl)
 have g5:IsZip (Ym k1 k2 s.heap a1 a2) (s.heap.objs.size+4) (s.heap.objs.size+2) (s.heap.objs.size+3) .none:=at5 (by rw[Heap.size_push,Heap.size_push,n2]) rfl
 exact⟨⟨_,g5,rfl⟩,h _ ⟨g5,g3,⟨_,_,g4⟩,⟨_,g1,rfl,rfl⟩,⟨_,g2,rfl,rfl⟩⟩ fun c o e=>up e⟩
end
section
variable {X:Cx} {a b:Expr} {ta tb:TE} {p pos tpos:Pos} {es:List Expr} {n:Nat}
def aAO (K:W.Frag) (ta tb:TE):TI:=fun σ H R=>ta σ H fun x H1=>tb σ H1 fun y H2=>mR x fun a1=>mR y fun a2=>∃k1 k2 xs ys,zA K k1 H2 a1 xs/\zA K k2 H2 a2 ys/\R (Itz K k1 k2 a1 a2) H2
theorem Jt:bootBuiltins "zip"=some (.type "zip"):=by decide +kernel
theorem Wz (hg:Gl X "zip") (hm:X.mg "zip"=none) (ha:PE X a ta) (hb:PE X b tb) (h1:aM a=true) (h2:aM b=true):PI X (.Tuple es n tpos) (.Call (.Name "zip" p) [a,b] [] pos) (aAO X.K ta tb):=by
 intro pins s σ H R I h;have hs:starEach [a,b] X.env=[(false,eval a X.env),(false,eval b X.env)]:=by rw[bB h1,bB h2];rfl
 have hs2:starEach [b] X.env=[(false,eval b X.env)]:=by rw[bB h2];rfl
 have hA:PA X [a,b] (nX ta (nX tb yK)):=uC ha (uC hb tL h2) h1
 refine Call_ (mO I hg hm Jt (PyProof.Rows.callWith_type1 (bU (hA pos pins s σ H (fun vs H2=>match vs with | [x,y]=>(mR x fun a1=>mR y fun a2=>∃k1 k2 xs ys,zA X.K k1 H2 a1 xs/\zA X.K k2 H2 a2 ys/\R (Itz X.K k1 k2 a1 a2) H2) | _=>False) I ?_) fun us s1 ⟨vs,H1,I1,r1,q1⟩=>?_) (by rw[hs,hs2]) (by rw[hs2];rfl)))
 ·exact h
 ·dsimp only at q1
  split at q1
  rotate_left
  ·exact q1.elim
  rename_i x y
  rw[dY]at q1;obtain⟨a1,rfl,q1⟩:=q1
  rw[dY]at q1;obtain⟨a2,rfl,k1,k2,xs,ys,q2,q3,q⟩:=q1
  cases r1 with
  | cons r rr=>
   cases rr with
   | cons r' rr=>
    cases rr
    cases r
    cases r'
    obtain⟨its,rv,p1⟩:=I1.sqk q2
    obtain⟨jts,rw',p2⟩:=I1.sqk q3
    refine Pq p1 p2 fun h' S k=>?_
    have I2:Inv X pins σ H1 {s1 with heap:=h' }:=I1.kept (t':=s1.toks) k
    refine wpAny_pyIter_zip (s:={s1 with heap:=h' }) S.z ?_
    refine⟨s1.heap.objs.size+4,_,_,_,H1,rfl,I2,Js (Wy p1.lt p2.lt),S,fun b hb=>?_,q⟩
    have hb':s1.heap.objs.size<=b:=by
     simp only [List.mem_cons,List.not_mem_nil,or_false]at hb
     rcases hb with rfl | rfl | rfl | rfl | rfl
     ·exact Nat.le_add_right _ 4
     ·exact Nat.le_add_right _ 2
     ·exact Nat.le_add_right _ 3
     ·exact bQ _
     ·exact Nat.le_add_right _ 1
    exact I1.fpOk hb' (I1.hok.fresh hb')
theorem R.ir {K:W.Frag} (hg:Gl X "zip") (hm:X.mg "zip"=none) (ha:XE X a ta) (hb:XE X b tb) (hK:X.K=K:=by rfl) (h1:aM a=true:=by rfl) (h2:aM b=true:=by rfl):XI X (.Tuple es n tpos) (.Call (.Name "zip" p) [a,b] [] pos) (aAO K ta tb):=
 hK ▸ ⟨Wz hg hm ha.h hb.h h1 h2⟩
end
theorem Ju {K:W.Frag} {k1 k2:Bool} {a1 a2:Addr} {xs ys:List V} {js:List (Option Nat)} {g:TG} {tt:TT} {te:TE} {σ:St} {H:Hp} {Q:List V->Hp->Prop} (hz:xs.length<=100000) (Pv:Nat->List V->Hp->Prop) (hA:∀i zs H,Pv i zs H->zA K k1 H a1 xs/\zA K k2 H a2 ys/\zs.length<=i) (h0:Pv 0 [] H)
  (hs:∀i x y zs H t,xs[i]?=some x->ys[i]?=some y->Pv i zs H->H t=none->g (.ref t) (tZ js σ) (aI H t (.tup [x,y])) fun σ2 H2=>tt σ2 H2 fun b H3=>if b=true then te σ2 H3 fun v H4=>Pv (i+1) (zs++[v]) H4 else Pv (i+1) zs H3)
  (hd:∀zs H,Pv (min xs.length ys.length) zs H->Q zs H):pM js g tt te σ (Itz K k1 k2 a1 a2) H Q:=by
 refine⟨fun i m zs H=>m=min xs.length ys.length - i/\i<=min xs.length ys.length/\Pv i zs H,⟨_,rfl,Nat.zero_le _,h0⟩,?_⟩
 rintro i m zs H ⟨rfl,hi,p⟩
 obtain⟨q1,q2,q3⟩:=hA i zs H p
 by_cases hlt:i<min xs.length ys.length
 ·have l1:i<xs.length:=Nat.lt_of_lt_of_le hlt (Nat.min_le_left _ _)
  have l2:i<ys.length:=Nat.lt_of_lt_of_le hlt (Nat.min_le_right _ _)
  refine .inr ⟨⟨xs,ys,xs[i],ys[i],q1,q2,by simp [l1],by simp [l2]⟩,oZ (m:=100000) Zo Zd,Pv (i+1),fun zs' H' p'=>⟨_,Zo,rfl,hlt,p'⟩,fun v H' y=>?_⟩
  obtain⟨t,x,y,ht,rfl,rfl,e1,e2⟩:=y
  exact hs i x y zs H t (e1 xs q1) (e2 ys q2) p ht
 ·have e:i=min xs.length ys.length:=by omega
  subst e;exact .inl ⟨⟨xs,ys,q1,q2,Zo⟩,hd zs H p⟩
end L2
namespace L2
open PySem PySem.Spec PyProof.Rows
def oK (x:V) (zs:List Str):Bool:=match x with | .str z=>decide (z∈zs) | _=>false
section
variable {X:Cx}
theorem Eh (A:Around):A.in1.units=A.units+1:=rfl
def kQ (xs ys:List V):Bool:=(List.range (min xs.length ys.length)).all (fun j=>qY (xs.getD j .non) (ys.getD j .non))&&xs.length == ys.length
end
def nIs:Option bA->Value->Bool
 | none,.none=>true
 | none,_=>false
 | some k,v=>kO k v
theorem cX:∀ {k:Option bA} {v:Value},nIs k v=true->(k=none/\v=.none)∨∃j,k=some j/\kO j v=true
 | none,v,h=>by cases v <;> first | exact .inl ⟨rfl,rfl⟩ | exact absurd (show false=true from h) Bool.false_ne_true
 | some j,v,h=>.inr ⟨j,rfl,h⟩
theorem pX {j:bA}:kO j .none=false:=by cases j <;> rfl
def wN:Int:=4238894112
section
variable {prog:Program} {w:World} {A:Around} {E:Value->Shared->Prop} {s:Shared}
theorem Ei {Q:Int->Shared->Prop} (h:Q wN {s with toks:=s.toks+1 }):wpAny (model prog w) A (PySem.pyHash .none) Q E s:=by
 have hT:s.TypeIs Value.none "NoneType":=rfl
 unfold PySem.pyHash;refine wpAny_bind ?_
 rw[cRoomFor,if_neg (show ¬ ([Value.none].any Value.onHeap=true) from Bool.false_ne_true)];refine wpAny_pure ?_
 refine wpAny_bind (wpAny_specialOf hT PySem.F.slot_NoneType_hash.lookup ?_)
 show wpAny (model prog w) A (if (some (Value.builtin "NoneType.__hash__") == some Value.none)=true then _ else _) Q E s
 rw[if_neg (show ¬ ((some (Value.builtin "NoneType.__hash__") == some Value.none)=true) from Bool.false_ne_true)];refine wpAny_bind (wpAny_specialOf hT PySem.F.slot_NoneType_hash.lookup ?_)
 show wpAny (model prog w) A (callSpecialIfBoundUnlessNone? Value.none "__hash__" _ >>= _) Q E s
 refine wpAny_bind (wpAny_callSpecialIfBoundUnlessNone?_slot hT PySem.F.slot_NoneType_hash (wpAny_call_entry PySem.F.slot_NoneType_hash hT PySem.F.entry_NoneType_hash (show wpAny (model prog w) _ (do ret (← mkInt wN)) _ _ s from wpAny_ret_mkInt ?_) (PySem.F.args_NoneType_hash_1 _)))
 show wpAny (model prog w) A (if (decide (-(2:Int) ^ 63<=wN)&&decide (wN<2 ^ 63))=true then _ else _) Q E _
 rw[if_pos Zd]
 exact wpAny_pure h
end
def Jv (prog:Program) (w:World):PySem.KeyKind prog w (Option bA) where
 is:=nIs
 hash:=fun k=>match k with | none=>wN | some j=>Yq w j
 inj:=fun v a b ha hb=>by
  rcases cX ha with⟨rfl,rfl⟩ | ⟨i,rfl,h1⟩
  ·rcases cX hb with⟨rfl,_⟩ | ⟨j,rfl,h2⟩
   ·rfl
   ·rw[pX]at h2;cases h2
  ·rcases cX hb with⟨rfl,rfl⟩ | ⟨j,rfl,h2⟩
   ·rw[pX]at h1;cases h1
   ·rw[(aT prog w).inj v i j h1 h2]
 byValue:=fun k v h=>by
  rcases cX h with⟨rfl,rfl⟩ | ⟨i,rfl,h1⟩
  ·rfl
  ·exact(aT prog w).byValue i v h1
 pyHash:=fun {A E s k v Q} hv h=>by
  rcases cX hv with⟨rfl,rfl⟩ | ⟨i,rfl,h1⟩
  ·exact Ei h
  ·exact(aT prog w).pyHash h1 h
 eqBool:=fun {A E s a b u v Q} hu hv h=>by
  rcases cX hu with⟨rfl,rfl⟩ | ⟨i,rfl,h1⟩
  ·rcases cX hv with⟨rfl,rfl⟩ | ⟨j,rfl,h2⟩
   ·exact SeqAt.EqAt.same _ _ _ _ _ (by simpa using h)
   ·have h':Q false s:=by simpa using h
    rcases bM h2 with⟨n,t,rfl,rfl⟩ | ⟨x,t,rfl,rfl⟩
    ·exact SeqAt.EqAt.none_int n t _ _ _ _ h'
    ·exact SeqAt.EqAt.none_str x t _ _ _ _ h'
  ·rcases cX hv with⟨rfl,rfl⟩ | ⟨j,rfl,h2⟩
   ·have h':Q false s:=by simpa using h
    rcases bM h1 with⟨n,t,rfl,rfl⟩ | ⟨x,t,rfl,rfl⟩
    ·exact SeqAt.EqAt.int_none n t _ _ _ _ h'
    ·exact SeqAt.EqAt.str_none x t _ _ _ _ h'
   ·refine(aT prog w).eqBool h1 h2 ?_
    have e:decide (some i=some j)=decide (i=j):=by simp
    rw[<- e];exact h
 «strs»:=fun k x t v h=>by
  rcases cX h with⟨rfl,e⟩ | ⟨i,rfl,h1⟩
  ·cases e
  ·exact(aT prog w).strs i x t v h1
theorem Jw {prog:Program} {w:World} {h:Heap} {a:Addr} {f:bA->Option Value} (m:h.MapOf (aT prog w) a f):∃g:Option bA->Option Value,h.MapOf (Jv prog w) a g/\g none=none:=by
 obtain⟨o,es,ep,ho,hx,hd,hk,hf⟩:=m
 refine⟨_,⟨o,es,ep,ho,hx,hd,fun e he=>?_,fun k=>rfl⟩,?_⟩
 ·obtain⟨k,h1,h2⟩:=hk e he
  exact⟨some k,h1,h2⟩
 ·show findBy nIs es none=none
  unfold findBy;have:es.find? (fun e=>nIs none e.key)=none:=by
   rw[Array.find?_eq_none];intro e he z;obtain⟨k,h1,h2⟩:=hk e he
   rcases cX z with⟨_,e1⟩ | ⟨_,e1,_⟩
   ·rw[e1]at h1;have h1':kO k .none=true:=h1
    rw[pX]at h1';cases h1'
   ·cases e1
  rw[this];rfl
section
variable {X:Cx}
def Xa (neg:Bool):R2:=fun x y H Q=>mR y fun a=>match x with
 | .non=>(∃kvs,H a=some (.dK kvs))/\Q (.bl neg) H
 | .str z=>∃kvs,H a=some (.dK kvs)/\Q (.bl (if neg then !(bC kvs (Sum.inr z)).isSome else (bC kvs (Sum.inr z)).isSome)) H
 | _=>False
theorem Xb (neg:Bool) (hu:X.A.units+1<cLine):OpR X (compareOp (if neg then .NotIn else .In)) (Xa neg):=by
 intro pins s σ H x y v u Q I rx ry h;unfold Xa at h;rw[dY]at h;obtain⟨a,rfl,h⟩:=h
 cases ry
 cases x with
 | non=>
  obtain⟨⟨kvs,e⟩,q⟩:=h
  cases rx
  obtain⟨z,hd,vs,rel,dd⟩:=Ht I.hok e
  obtain⟨g,hm,hg⟩:=Jw dd.mapOf
  cases neg
  ·refine wpAny_in_of (knd:=Jv X.prog X.w) (k:=none) rfl hd hm ⟨.bl _,H,I.tok _,rfl,?_⟩
   rw[hg];exact q
  ·refine wpAny_notIn_of (knd:=Jv X.prog X.w) (k:=none) rfl hd hm ⟨.bl _,H,I.tok _,rfl,?_⟩
   rw[hg];exact q
 | str z=>
  obtain⟨kvs,e,q⟩:=h
  cases neg
  ·exact Zx hu I (DGet.k (k:=Sum.inr z) e) rx fun s' I'=>⟨.bl _,H,I',rfl,q⟩
  ·exact As hu I (DGet.k (k:=Sum.inr z) e) rx fun s' I'=>⟨.bl _,H,I',rfl,q⟩
 | _=>exact h.elim
theorem R.iu (hu:X.A.units+1<cLine):jF X (compareOp .In) (Xa false):=⟨Xb false hu⟩
end
end L2
namespace L2
open PySem PySem.Spec PyProof.Rows
def Pc (H:Hp) (y:V):Prop:=(eC y=true/\∀z,y=.str z->z.length<=1000)∨(∃a ys,y=.ref a/\(H a=some (.lst ys)∨H a=some (.tup ys)))∨∃a kvs,y=.ref a/\H a=some (.dK kvs)
def Tg (H:Hp) (x:V):Prop:=Pc H x/\∀a xs,x=.ref a->H a=some (.tup xs)->xs.length<=1000/\∀y∈xs,Pc H y
theorem Pc.same {H H':Hp} {y:V} (s:Same H H') (h:Pc H y):Pc H' y:=by
 rcases h with h | ⟨a,ys,e,h⟩ | ⟨a,kvs,e,h⟩
 ·exact .inl h
 ·exact .inr (.inl ⟨a,ys,e,h.imp (s _ _) (s _ _)⟩)
 ·exact .inr (.inr ⟨a,kvs,e,s _ _ h⟩)
theorem Pc.kd {H:Hp} {y:V} (h:Pc H y):∃k,Sk H y k:=by
 rcases h with⟨h,_⟩ | ⟨a,ys,rfl,h | h⟩ | ⟨a,kvs,rfl,h⟩
 ·cases y with
  | non=>exact⟨.non,trivial⟩
  | bl _=>exact⟨.bl,trivial⟩
  | int _=>exact⟨.int,trivial⟩
  | str _=>exact⟨.str,trivial⟩
  | _=>exact absurd (show false=true from h) Bool.false_ne_true
 ·exact⟨.lst,.inl ⟨ys,h⟩⟩
 ·exact⟨.tup,⟨ys,h⟩⟩
 ·exact⟨.dct,⟨kvs,h⟩⟩
theorem Pc.pt {H:Hp} {y:V} (h:Pc H y):Pt H y:=by
 obtain⟨k,hk⟩:=h.kd
 refine⟨k,hk,fun z e=>?_⟩
 subst e;rcases h with⟨_,h⟩ | ⟨_,_,e,_⟩ | ⟨_,_,e,_⟩
 ·exact h z rfl
 ·cases e
 ·cases e
theorem Pc.int {H:Hp} {n:Int}:Pc H (.int n):=.inl ⟨rfl,fun _ e=>nomatch e⟩
theorem Pc.str {H:Hp} {z:Str} (h:z.length<=1000):Pc H (.str z):=.inl ⟨rfl,fun _ e=>by injection e with e;rw[<- e];exact h⟩
theorem Pc.tup {H:Hp} {a:Addr} {ys:List V} (h:H a=some (.tup ys)):Pc H (.ref a):=.inr (.inl ⟨a,ys,rfl,.inr h⟩)
theorem Tg.tup {H:Hp} {a:Addr} {xs:List V} (h:H a=some (.tup xs)) (hl:xs.length<=1000) (hx:∀y∈xs,Pc H y):Tg H (.ref a):=
 ⟨.tup h,fun b ys e g=>by cases e;rw[h]at g;cases g;exact⟨hl,hx⟩⟩
def jP (H:Hp) (x:V):Option (List V):=match x with | .ref a=>(match H a with | some (.tup xs)=>some xs | _=>none) | _=>none
def Su (xs:List V):V:=match xs with | .str u::_=>.str u | _=>.non
def jQ (H:Hp) (x:V):V:=match jP H x with | some xs=>Su xs | none=>.non
theorem pY {H:Hp} {a:Addr} {xs:List V} (h:H a=some (.tup xs)):jP H (.ref a)=some xs:=by unfold jP;dsimp only;rw[h]
def Jx (wd:Str) (n:Int):List (Str × List (Int × Int)):=
 if wd="pass" then [] else if wd="move" then [("is",[(0,1000000000000 - n),(n,1000000000000)]),("short",[(0,n - 1)]),("full",[(1000000000000 - n+1,1000000000000)])]
 else if wd="take"∨wd="send" then [("is",[(0,1000000000000 - n)]),("short",[(0,n - 1)])] else [("is",[(n,1000000000000)]),("full",[(1000000000000 - n+1,1000000000000)])]
def aW (xs:List V) (bs:List (Int × Int)):Bool:=decide (xs.length=bs.length)&&(xs.zip bs).all fun q=>yX q.2.1 q.2.2 q.1
def Ej (wd:Str) (hs:List Str) (n:Int) (xs:List V):Bool:=match xs with
 | .str u::r=>
  if u="no" then (match r with | [y]=>oK y hs | _=>false)
  else if u="ok" then decide (wd="pass")&&r.isEmpty
  else match (Jx wd n).lookup u with | some bs=>aW r bs | none=>false
 | _=>false
def zB (H:Hp) (wd:Str) (hs:List Str) (n:Int) (x:V):Bool:=match jP H x with | some xs=>Ej wd hs n xs | none=>false
abbrev B2:=Addr × Int × Int
def BAt (H:Hp) (bs:List B2):Prop:=∀z∈bs,H z.1=some (.tup [.int z.2.1,.int z.2.2])
def uQ (bs:List B2):List V:=bs.map fun z=>V.ref z.1
def wO (H:Hp) (o:Option (List (Int × Int))) (v:Option V):Prop:=match o with
 | some bs=>∃t zs,v=some (.ref t)/\H t=some (.tup (uQ zs))/\BAt H zs/\zs.map (·.2)=bs
 | none=>v=none
theorem BAt.same {H H':Hp} {bs:List B2} (s:Same H H') (h:BAt H bs):BAt H' bs:=fun z hz=>s _ _ (h z hz)
structure DWN (wd:Str) (n:Int) (xs:List V) (as:List (Str × List V)):Prop where
 ex:∃one other nm cs,DW one other nm n wd xs cs as
 nm:∀q∈as,fE q.1
theorem DWN.dwx {wd:Str} {n:Int} {xs:List V} {as:List (Str × List V)} (h:DWN wd n xs as):∃cs,Ss wd xs cs as:=by
 obtain⟨one,other,nm,cs,hd⟩:=h.ex
 exact⟨cs,one,other,nm,n,hd⟩
def wP:Sp:=fun vs H Q _=>∃x,vs=[x]/\Tg H x/\Q (jQ H x) H
def Sv (xs:List V):Bool:=match xs with | [_,y]=>Yl y | _=>false
def Jy:Sp:=fun vs H Q _=>∃a xs,vs=[.ref a]/\H a=some (.tup xs)/\(∀y∈xs,Pc H y)/\∀H',Same H H'->Q (.bl (Sv xs)) H'
def wQ:Sp:=fun vs H Q _=>∃p wd n xs as,vs=[.ref p]/\H p=some (.tup xs)/\DWN wd n xs as/\∀d kvs H',Same H H'->H' d=some (.dK kvs)->(∀u:Str,wO H' ((Jx wd n).lookup u) (bC kvs (Sum.inr u)))->Q (.ref d) H'
def wR:Sp:=fun vs H Q _=>∃a t xs bs,vs=[.ref a,.ref t]/\H a=some (.tup xs)/\xs.length<=1000/\(∀y∈xs,Pc H y)/\H t=some (.tup (uQ bs))/\BAt H bs/\∀H',Same H H'->Q (.bl (aW xs (bs.map (·.2)))) H'
def Bk:Sp:=fun vs H Q _=>∃p wd n xs as x,vs=[.ref p,x]/\H p=some (.tup xs)/\DWN wd n xs as/\Tg H x/\∀H',Same H H'->Q (.bl (zB H wd (as.map (·.1)) n x)) H'
end L2
namespace L2
open PySem PySem.Spec PyProof.Rows
section
variable {X:Cx} {o:Expr} {to:TE} {p pos apos cpos:Pos}
def Sw:Cv:=fun o i v H Q=>∃a H',o=.ref a/\DPut H a i v H'/\Q H'
theorem Jz (hu:X.A.units+1<cLine):Nj X Sw:=by
 intro pins s σ H o i v ov iv u Q I ro ri rv h;obtain⟨a,H',rfl,g,q⟩:=h
 cases ro
 exact Dv hu I g ri rv fun s' I'=>⟨H',I',q⟩
theorem R.dj (hu:X.A.units+1<cLine):Wd X Sw:=⟨Jz hu⟩
end
end L2
namespace L2
open PySem PySem.Spec PyProof.Rows
def Ka (prs:List (Str × Int)) (n:Str) (v:Int):List (Str × Int):=prs.map fun q=>if q.1=n then (q.1,v) else q
theorem Ek (prs:List (Str × Int)) (n:Str) (v:Int):(Ka prs n v).map (·.1)=prs.map (·.1):=by
 unfold Ka;rw[List.map_map];refine List.map_congr_left fun q _=>?_
 show(if q.1=n then (q.1,v) else q).1=q.1
 split <;> rfl
theorem Pr {prs:List (Str × Int)} {n:Str} {v:Int} (h:n∈prs.map (·.1)):bN (mM prs) (Sum.inr n) (.int v)=mM (Ka prs n v):=by
 unfold bN;rw[if_pos (by rw[fX,uK];obtain⟨a,ha⟩:=pU h;rw[ha];rfl)]
 unfold mM Ka;rw[List.map_map,List.map_map];refine List.map_congr_left fun q _=>?_
 show(if (Sum.inr q.1:bA)=Sum.inr n then (Sum.inr q.1,V.int v) else ((Sum.inr q.1:bA),V.int q.2))=((Sum.inr (if q.1=n then (q.1,v) else q).1:bA),V.int (if q.1=n then (q.1,v) else q).2)
 by_cases e:q.1=n
 ·rw[if_pos (by rw[e]),if_pos e]
 ·rw[if_neg (fun z=>e (Sum.inr.inj z)),if_neg e]
def Bl (C:Addr):Sp:=fun vs H Q _=>∃(p dx:Addr) (r:V) (prs:List (Str × Int)),vs=[.ref p,r]/\H p=some (.ins C dx [])/\Wp H r prs/\(prs.map (·.1)).Nodup/\prs.length<=1000 ∧
 ∀H' d,H d=none->H' p=some (.ins C dx [("amounts",.ref d)])->H' d=some (.dK (mM prs))->(∀b o,H b=some o->b≠p->H' b=some o)->Q .non H'
end L2
namespace L2
open PySem PySem.Spec PyProof.Rows
section
variable {X:Cx}
def Kb (i j:Int):Prop:=0<j/\j<2 ^ 64
theorem Ps:OpR X (binaryOp .FloorDiv) (m2 Kb fun i j=>.int (i / j)):=(opI (C:=Kb) (g:=fun i j=>i / j) fun i j _ _ s Q E hc q=>by
 have h1:i.fdiv j=i / j:=Int.fdiv_eq_ediv_of_nonneg _ (by have:=hc.1;omega)
 refine floordiv_int (by have:=hc.1;omega) (by rw[h1];exact q) (.inl (PyProof.noPylong_of_log2 ?_))
 have h2:j.natAbs<2 ^ 64:=by have:=hc.1;have:=hc.2;omega
 exact Nat.lt_of_lt_of_le (Nat.log2_lt (by have:=hc.1;omega) |>.mpr h2) Zd).imp uB
theorem R.gv:jF X (binaryOp .FloorDiv) (m2 Kb fun i j=>.int (i / j)):=⟨Ps⟩
end
def KLET:List Nat:=LET++FIG
def wU (z:Str):Prop:=1<=z.length/\z.length<=12/\∀c∈z.cps.toList,c∈KLET
end L2
namespace L2
open PySem PySem.Spec PyProof.Rows
def Yn (K:W.Frag) (a:Addr):It:=
  ⟨fun i H=>∃xs x,SqL K H a xs/\xs[i]?=some x,
   fun i H v H'=>∃t x,H t=none/\v=.ref t/\H'=aI H t (.tup [.int i,x])/\∀xs,SqL K H a xs->xs[i]?=some x,
   fun i H=>∃xs,SqL K H a xs/\xs.length<=i⟩
structure ESt (h:Heap) (e it a:Addr) (i:Nat):Prop where
 e:∃old,IsEnum h e it i old
 i:h.IsListIter it a i
theorem El {P:Program} {w:World} {K:W.Frag} {es:List Expr} {n:Nat} {pos:Pos} {e it a:Addr} (hne:e≠it) (hea:a≠e) (hia:a≠it) :
  tH P w K (.Tuple es n pos) (Yn K a) [e,it] e (fun i h=>ESt h e it a i) where
 mem:=by simp
 obj:=fun i h st b hb=>by
  obtain⟨old,he⟩:=st.e
  obtain⟨o1,e1,_,d1⟩:=st.i
  simp only [List.mem_cons,List.not_mem_nil,or_false]at hb
  rcases hb with rfl | rfl
  ·exact⟨_,he,fun v q=>by have q':Data.fields _=Data.cell v:=q;cases q'⟩
  ·exact⟨_,e1,fun v q=>by rw[d1]at q;cases q⟩
 keep:=fun i h h' st g=>by
  obtain⟨old,he⟩:=st.e
  obtain⟨o1,e1,r⟩:=st.i
  exact⟨⟨old,g e Zs _ he⟩,⟨o1,g it Zs _ e1,r⟩⟩
 item:=by
  intro X hP hw hK hc i pins s σ H E I hf st hg;subst hP hw hK;obtain⟨xs,x,hx,ex⟩:=hg
  obtain⟨its,rv,p,_⟩:=I.list hx
  obtain⟨u,hu,ru⟩:=rv.get ex
  obtain⟨old,he⟩:=st.e
  refine wpAny_pyNext_enum_item he st.i p.isList (by simpa using hu) hne fun h1 e1 i1 t1 z1 k1=>?_
  refine⟨_,rfl,?_⟩
  refine wpAny_letOwnedTupleGo_enum e1 fun h2 e2 b2=>?_
  have elt:e<s.heap.objs.size:=Heap.lt_size he
  have t2:h2.get? s.heap.objs.size=some {cls:=.type "tuple",data:=.seq #[.int i s.toks,u] }:=b2.extBut _ _ (Nat.ne_of_gt elt) t1
  refine⟨.ref s.heap.objs.size,aI H s.heap.objs.size (.tup [.int i,x]),I.turnLaid (t':=s.toks+1) hf (fun b o hb e'=>?_) (bQ _) ⟨by show 2<=sizeLine;decide,[.int i s.toks,u],.cons ⟨_,rfl⟩ (.cons ru .nil),⟨_,t2,rfl,_,rfl⟩⟩,rfl,?_,?_,fun b hb=>?_⟩
  ·have hb':b≠e/\b≠it:=by simpa using hb
   exact b2.extBut _ _ hb'.1 (k1 b o hb'.1 hb'.2 e')
  ·exact⟨s.heap.objs.size,x,I.hok.fresh (bQ _),rfl,rfl,fun zs hz=>by rw[I.list_inj hz hx];exact ex⟩
  ·obtain⟨o1,q1,r1⟩:=i1
   exact⟨⟨_,by simpa using e2⟩,⟨o1,b2.extBut _ _ hne.symm q1,r1⟩⟩
  ·have hlt:b<s.heap.objs.size:=by
    obtain⟨o1,q1,r1⟩:=st.i
    simp only [List.mem_cons,List.not_mem_nil,or_false]at hb
    rcases hb with rfl | rfl
    ·exact elt
    ·exact Heap.lt_size q1
   rw[aD (Nat.ne_of_lt hlt)];exact(hf b hb).1
 done:=by
  intro X hP hw hK hc i pins s σ H E I hf st hg;subst hP hw hK;obtain⟨xs,hx,hl⟩:=hg
  obtain⟨its,rv,p,_⟩:=I.list hx
  obtain⟨old,he⟩:=st.e
  have l1:=rv.length
  refine wpAny_pyNext_enum_end (I.ok.hd hc) he st.i p.isList (by simp;omega) fun h1 k1=>?_
  refine⟨rfl,I.turnL (t':=s.toks) hf fun b u hb e'=>?_⟩
  have hb':b≠e/\b≠it:=by simpa using hb
  exact k1 b u hb'.2 e'
 self:=fun _ _ _ _ _ st h=>by
  obtain⟨old,he⟩:=st.e
  exact wpAny_pyIter_enum he h
section
variable {X:Cx} {a b:Expr} {ta tb:TE} {p pos tpos:Pos} {es:List Expr} {n:Nat}
def Sx (K:W.Frag) (ta:TE):TI:=fun σ H R=>ta σ H fun x H1=>mR x fun a=>∃xs,SqL K H1 a xs/\R (Yn K a) H1
theorem Pu (hg:Gl X "enumerate") (hm:X.mg "enumerate"=none) (ha:PE X a ta) (h1:aM a=true):PI X (.Tuple es n tpos) (.Call (.Name "enumerate" p) [a] [] pos) (Sx X.K ta):=by
 intro pins s σ H R I h;have hs:starEach [a] X.env=[(false,eval a X.env)]:=by rw[bB h1];rfl
 have hA:PA X [a] (nX ta yK):=uC ha tL h1
 refine Call_ (mO I hg hm boot_enumerate (PyProof.Rows.callWith_type1 (bU (hA pos pins s σ H (fun vs H2=>match vs with | [x]=>(mR x fun a1=>∃xs,SqL X.K H2 a1 xs/\R (Yn X.K a1) H2) | _=>False) I ?_) fun us s1 ⟨vs,H1,I1,r1,q1⟩=>?_) (by rw[hs];rfl) rfl))
 ·exact h
 ·dsimp only at q1
  split at q1
  rotate_left
  ·exact q1.elim
  rename_i x
  rw[dY]at q1;obtain⟨a1,rfl,xs,q2,q⟩:=q1
  cases r1 with
  | cons r rr=>
   cases rr
   cases r
   obtain⟨its,rv,p1,_⟩:=I1.list q2
   refine call_enumerate_list p1.isList fun h' he hi hz k=>?_
   have I2:Inv X pins σ H1 {s1 with heap:=h' }:=I1.kept (t':=s1.toks) k
   have la:a1<s1.heap.objs.size:=by
    obtain⟨o,e',_⟩:=p1.isList
    exact Heap.lt_size e'
   refine wpAny_pyIter_enum (s:={s1 with heap:=h' }) he ?_
   refine⟨s1.heap.objs.size+1,_,_,_,H1,rfl,I2,El (Nat.ne_of_gt (Nat.lt_succ_self _)) (Nat.ne_of_lt (Nat.lt_succ_of_lt la)) (Nat.ne_of_lt la),⟨⟨_,he⟩,hi⟩,fun b hb=>?_,q⟩
   have hb':s1.heap.objs.size<=b:=by
    simp only [List.mem_cons,List.not_mem_nil,or_false]at hb
    rcases hb with rfl | rfl
    ·exact Nat.le_add_right _ 1
    ·exact bQ _
   exact I1.fpOk hb' (I1.hok.fresh hb')
theorem R.gw {K:W.Frag} (hg:Gl X "enumerate") (hm:X.mg "enumerate"=none) (ha:XE X a ta) (hK:X.K=K:=by rfl) (h1:aM a=true:=by rfl):XI X (.Tuple es n tpos) (.Call (.Name "enumerate" p) [a] [] pos) (Sx K ta):=
 hK ▸ ⟨Pu hg hm ha.h h1⟩
end
theorem wV {K:W.Frag} {a:Addr} {xs:List V} {g:TG} {tb:TS} {D:kK} {σ:St} {H:Hp} (Pv:Nat->St->Hp->Prop) (hA:∀i σ H,Pv i σ H->SqL K H a xs) (h0:Pv 0 σ H)
  (hs:∀(i:Nat) (x:V) σ H t,xs[i]?=some x->Pv i σ H->H t=none->g (.ref t) σ (aI H t (.tup [.int i,x])) fun σ2 H2=>tb {D with nx:=Pv (i+1),ct:=Pv (i+1),bk:=D.nx } σ2 H2) (hd:∀ σ H,Pv xs.length σ H->D.nx σ H) :
  ∃W:Nat->Nat->St->Hp->Prop,(∃m,W 0 m σ H)/\∀i m σ H,W i m σ H →
   ((Yn K a).stop i H/\D.nx σ H)∨((Yn K a).go i H/\∃N:St->Hp->Prop,(∀ σ' H',N σ' H'->∃m',m'<m/\W (i+1) m' σ' H')/\∀x H',(Yn K a).yld i H x H'->g x σ H' fun σ2 H2=>tb {D with nx:=N,ct:=N,bk:=D.nx } σ2 H2):=by
 refine⟨fun i m σ H=>m=xs.length - i/\i<=xs.length/\Pv i σ H,⟨_,rfl,Nat.zero_le _,h0⟩,?_⟩
 rintro i m σ H ⟨rfl,hi,p⟩
 have q1:=hA i σ H p
 by_cases hlt:i<xs.length
 ·refine .inr ⟨⟨xs,xs[i],q1,gZ hlt⟩,Pv (i+1),fun σ' H' n=>⟨xs.length - (i+1),Zo,rfl,hlt,n⟩,?_⟩
  rintro v H' ⟨t,x,ht,rfl,rfl,e1⟩
  exact hs i x σ H t (e1 xs q1) p ht
 ·have:i=xs.length:=by omega
  subst this;exact .inl ⟨⟨xs,q1,bQ _⟩,hd σ H p⟩
end L2
namespace L2
open PySem PySem.Spec PyProof.Rows
section
variable {P:Program} {w:World} {K:W.Frag} {mg:Str->Option Value} {base:Heap} {N:List Str} {qual:Str} {scope:Scope} {f:Addr} {cd:Value} {A:Around} {outer:List Env} {s:Shared} {H:Hp} {E:XK}
theorem Em:PassesOwn (model P w) (fL (Bi P w) P w K mg base N qual scope f cd A outer s H E).A (fL (Bi P w) P w K mg base N qual scope f cd A outer s H E).env (fL (Bi P w) P w K mg base N qual scope f cd A outer s H E).xe:=by
 unfold fL;dsimp only;passes_own
end
end L2
namespace L2
open PySem PySem.Spec PyProof.Rows
section
variable {prog:Program} {w:World} {A:Around} {E:Value->Shared->Prop} {h:Heap} {g:Array GenState} {d:Drawn} {t:Nat} {os:OsState}
variable {nm q:Str} {C N:Addr} {bs bm bmB:List Value} {hdct:Bool} {sn:List Str} {sub:List Value} {ab:Bool} {col:Option Bool} {dd:Option Addr} {k0 k1 k2 k3 k5:Option Value} {B newId initId:String}
abbrev eR (C t:Addr):Obj:={cls:=.ref C,data:=.fields #[.ref t,.none,.none,.none,.bool false,.none] }
abbrev jG (h:Heap) (C:Addr) (rest:List Value):Heap:=(h.push {cls:=.type "tuple",data:=.seq rest.toArray }).push (eR C h.objs.size)
theorem gA {rest:List Value} {b:Addr} {o:Obj} (e:h.get? b=some o):(jG h C rest).get? b=some o:=eP _ (eP _ e)
theorem wW {rest:List Value}:(jG h C rest).get? (h.objs.size+1)=some (eR C h.objs.size):=by
 have:=Heap.get?_push_size (h.push {cls:=.type "tuple",data:=.seq rest.toArray }) (o:=eR C h.objs.size) rfl
 rwa [Heap.size_push]at this
theorem wX (F:ExcBaseFacts B newId initId bmB) (T:OwnTail h bmB bm) {mN:Str->Option Value} {rest:List Value} {fI:Addr} {oI:Obj} {Q:Fin->Shared->Prop}
  (hC:h.get? C=some (excClassObj nm q C N bs bm hdct sn sub ab col dd k0 k1 k2 k3 k5 newId)) (hn:h.Ns N mN) (hi:mN "__init__"=some (.ref fI)) (hfI:h.get? fI=some oI) (hfc:oI.cls=.type "function")
  (go:wpAny (model prog w) A (call (.ref fI) (.ref (h.objs.size+1)::rest)) (fun r s'=>r=.none/\Q (.done (.ret (.ref (h.objs.size+1)))) s') E ⟨jG h C rest,g,d,t,os⟩) (hrest:rest.length<=sizeLine) :
  wpAny (model prog w) A (Builtin.«type.__call__» ⟨.ref C::rest,[]⟩) Q E ⟨h,g,d,t,os⟩:=by
 repeat (first | with_reducible refine wpAny_loadPart_at hC ?_ | with_reducible refine wpAny_madeBy_exc hC ?_ | wp_step)
 refine codeAny_call_builtin_code (Code.quiet_builtin _ F.quiet) (wpAny_check_new_subT F T hC (codeAny_exc_new_subT F T hC ?_ hrest));show wpAny _ _ _ _ _ _
 have cx:(jG h C rest).get? C=_:=gA hC;have fx:(jG h C rest).get? fI=_:=gA hfI;have nx:(jG h C rest).Ns N mN:=let ⟨o,es,ep,e,r⟩:=hn;⟨o,es,ep,gA e,r⟩
 have gx:(jG h C rest).get? (h.objs.size+1)=some (eR C h.objs.size):=wW;have me:(Value.ref C::bm).contains (.ref C)=true:=by simp
 have tx:=T.keeps (h':=jG h C rest) fun b o e=>gA e;unfold isInstance
 repeat (first | with_reducible refine wpAny_loadPart_at gx ?_ | (with_reducible refine wpAny_isSubtype_exc cx ?_;rw[me]) | wp_step)
 show wpAny _ _ (typeLookup (.ref C) _) _ _ _;refine wpAny_typeLookup_tail cx nx tx F.mroIs F.init.lookup ?_;rw[hi];refine wpAny_holding (wpAny_bind ?_);unfold bindSpecial
 refine wpAny_bind (wpAny_typeOf (T:="function") ⟨_,fx,hfc⟩ ?_);rw[if_pos Zd];refine wpAny_pure (wpAny_bind (wpAny_mono go (fun r s' hr=>?_) fun _ _ x=>x));obtain⟨rfl,hQ⟩:=hr
 wp_walk;exact hQ
theorem zC (F:ExcBaseFacts B newId initId bmB) (T:OwnTail h bmB bm) {mN:Str->Option Value} {rest:List Value} {fI:Addr} {oI:Obj} {Q:Value->Shared->Prop}
  (hC:h.get? C=some (excClassObj nm q C N bs bm hdct sn sub ab col dd k0 k1 k2 k3 k5 newId)) (hn:h.Ns N mN) (hi:mN "__init__"=some (.ref fI)) (hfI:h.get? fI=some oI) (hfc:oI.cls=.type "function")
  (go:wpAny (model prog w) (A.under (.builtin "type.__call__" ⟨.ref C::rest,[]⟩)) (call (.ref fI) (.ref (h.objs.size+1)::rest)) (fun r s'=>r=.none/\Q (.ref (h.objs.size+1)) s') E ⟨jG h C rest,g,d,t,os⟩) (hrest:rest.length<=sizeLine) :
  wpAny (model prog w) A (call (.ref C) rest) Q E ⟨h,g,d,t,os⟩:=by
 have f1:=tc_lookup;have f2:=tc_bind (.ref C);have hT:(⟨h,g,d,t,os⟩:Shared).TypeIs (.ref C) "type":=⟨_,hC,rfl⟩
 refine wpAny_call (codeAny_of_tree ?_);show wpAny _ _ (callAny (.ref C) _) _ _ _
 repeat (any_goals (first | assumption | with_reducible refine wpAny_loadPart_at hC ?_ | wp_step))
 refine⟨rfl,codeAny_call_builtin_at (Code.quiet_builtin _ Zk) entry_typeCall (wpAny_check_type_call_sub hC (wX F T hC hn hi hfI hfc ?_ hrest))⟩;exact go
end
end L2
namespace L2
open PySem PySem.Spec PyProof.Rows
section
variable {prog:Program} {w:World} {A:Around} {E:Value->Shared->Prop} {s:Shared} {env:Env}
variable {nm q:Str} {C N:Addr} {bs bm bmB:List Value} {hdct:Bool} {sn:List Str} {sub:List Value} {ab:Bool} {col:Option Bool} {dd:Option Addr} {k0 k1 k2 k3 k5:Option Value} {B newId initId:String}
theorem En {x:Sem Value} {Q:Flow->Shared->Prop} (hb:bm.contains (.type "BaseException")=true) (hh:A.handled=none)
  (h:wpAny (model prog w) A x (fun v s1=>∃e t dx sl,v=.ref e/\s1.heap.get? C=some (excClassObj nm q C N bs bm hdct sn sub ab col dd k0 k1 k2 k3 k5 newId) ∧
   s1.heap.get? e=some {cls:=.ref C,dict:=dx,data:=.fields #[.ref t,.none,.none,.none,.bool false,.none],slots:=sl }/\E (.ref e) s1) E s):wpAny (model prog w) A (raiseStmt env (some x) none) Q E s:=by
 have cB:(Value.ref C::bm).contains (.type "BaseException")=true:=by rw[List.contains_cons,hb,Bool.or_true]
 unfold raiseStmt;refine wpAny_bind (wpAny_mono h (fun v s1 h1=>?_) fun _ _ x=>x);obtain⟨e,t,dx,sl,rfl,hC,he,hE⟩:=h1;obtain⟨hp,g,d,tk,os⟩:=s1
 repeat (first | with_reducible refine wpAny_loadPart_at he ?_ | with_reducible refine wpAny_loadPart_at hC ?_ | (with_reducible refine wpAny_isSubtype_exc hC ?_;rw[cB]) | wp_step)
 exact wpAny_raiseNew_none hh hE
theorem wY (F:ExcBaseFacts B newId initId bmB) {mN:Str->Option Value} {x:Str} {np cpos pos:Pos} {args:List Expr} {fI:Addr} {oI:Obj} {Q:Flow->Shared->Prop}
  (hb:bm.contains (.type "BaseException")=true) (hh:A.handled=none) (hp:(backTo cpos (starEach args env)).any (·.1)=false) (hi:mN "__init__"=some (.ref fI)) (hfc:oI.cls=.type "function")
  (h:wpAny (model prog w) A (eval (.Name x np) env) (fun f s1=>f=.ref C/\wpAny (model prog w) A (evalArgs (.ref C) true (backTo cpos (starEach args env)) [])
   (fun a s2=>a.kw=[]/\a.pos.length<=sizeLine/\s2.heap.get? C=some (excClassObj nm q C N bs bm hdct sn sub ab col dd k0 k1 k2 k3 k5 newId)/\s2.heap.Ns N mN/\OwnTail s2.heap bmB bm/\s2.heap.get? fI=some oI ∧
    wpAny (model prog w) (A.under (.builtin "type.__call__" ⟨.ref C::a.pos,[]⟩)) (call (.ref fI) (.ref (s2.heap.objs.size+1)::a.pos)) (fun r s'=>r=.none/\∃t dx sl,s'.heap.get? C=some (excClassObj nm q C N bs bm hdct sn sub ab col dd k0 k1 k2 k3 k5 newId) ∧
     s'.heap.get? (s2.heap.objs.size+1)=some {cls:=.ref C,dict:=dx,data:=.fields #[.ref t,.none,.none,.none,.bool false,.none],slots:=sl }/\E (.ref (s2.heap.objs.size+1)) s') E {s2 with heap:=jG s2.heap C a.pos }) E s1) E s) :
  wpAny (model prog w) A (exec (.Raise (some (.Call (.Name x np) args [] cpos)) none pos) env) Q E s:=by
 rw[arm_exec_Raise];simp only [evalOpt,Option.map]
 refine wpAny_bind (wpAny_standAt (En (C:=C) (nm:=nm) (q:=q) (N:=N) (bs:=bs) (bm:=bm) (hdct:=hdct) (sn:=sn) (sub:=sub) (ab:=ab) (col:=col) (dd:=dd) (k0:=k0) (k1:=k1) (k2:=k2) (k3:=k3) (k5:=k5) (newId:=newId) hb hh (wpAny_bind (wpAny_mono (wpAny_Call_ofName (wpAny_mono h (fun f s1 h1=>?_) fun _ _ x=>x)) (fun v s3 h3=>wpAny_bind (wpAny_standAt (wpAny_pure h3))) fun _ _ x=>x))))
 obtain⟨rfl,h1⟩:=h1
 unfold callWith;refine wpAny_bind (wpAny_holding (wpAny_mono h1 (fun a s2 h2=>wpAny_bind (wpAny_standAt ?_)) fun _ _ x=>x))
 obtain⟨ap,ak⟩:=a;obtain⟨hkw,hlen,hC,hn,T,hf,h2⟩:=h2;obtain rfl:ak=[]:=hkw;obtain⟨hp',g,d,tk,os⟩:=s2
 simp only [hp];refine wpAny_bind (wpAny_keeperOf_exc hC (wpAny_bind (zC F T hC hn hi hf hfc (wpAny_mono h2 (fun r s' hr=>⟨hr.1,wpAny_bind (wpAny_holding (wpAny_point (wpAny_pure ?_)))⟩) fun _ _ x=>x) hlen)))
 obtain⟨t,dx,sl,g1,g2,g3⟩:=hr.2
 exact⟨_,t,dx,sl,rfl,g1,g2,g3⟩
end
end L2
namespace L2
open PySem PySem.Spec PyProof.Rows
def uR:List Value->Bool
 | .ref _::r=>uR r
 | [.type a,.type b,.type c,.type d]=>a == "ValueError"&&b == "Exception"&&c == "BaseException"&&d == "object"
 | _=>false
theorem kR (v:Value):∀ {l:List Value},uR l=true->refuseLoop v "__setattr__" l=pure ()/\l.contains (.type "object")=true
 | .ref _::r,h=>by
  have:=kR v (l:=r) h
  exact⟨by rw[refuseLoop_ref];exact this.1,by rw[List.contains_cons,this.2,Bool.or_true]⟩
 | [.type a,.type b,.type c,.type d],h=>by
  simp only [uR,Bool.and_eq_true,beq_iff_eq]at h
  obtain⟨⟨⟨rfl,rfl⟩,rfl⟩,rfl⟩:=h
  exact⟨PySem.F.store_ValueError.passes v,Zd⟩
def uS (K:W.Frag) (C:Addr):Bool:=(W.clsIn K C).any fun cd=>uR cd.mro&&cd.hasDict
section
variable {prog:Program} {w:World} {A:Around} {E:Value->Shared->Prop} {s:Shared} {K:W.Frag} {C x t:Addr} {name:Str} {v:Value}
theorem aBP {Q:Unit->Shared->Prop} (X:K.In s.heap) (gx:s.heap.get? x=some (eR C t)) (hs:W.findIn K (.ref C) "__setattr__"=some (some (.builtin "object.__setattr__"))) (ho:uS K C=true) (ht:W.takerIn K C name=some none)
  (h:∀h' tk',h'.get? x=some {eR C t with dict:=some s.heap.objs.size }->(∀b o,b≠x->s.heap.get? b=some o->h'.get? b=some o)->h'.Ns1 s.heap.objs.size (fun y=>if y=name then some v else none)->Q () {s with heap:=h',toks:=tk' }) :
  wpAny (model prog w) A (setAttr (.ref x) name v) Q E s:=by
 have J:W.InstAt s.heap x (eR C t) C none:=⟨gx,rfl,rfl,True.intro⟩
 obtain⟨cd,hc,hm⟩:=W.any_some ho
 obtain⟨hm,hdd⟩:=Bool.and_eq_true _ _ ▸ hm
 refine W.set_plain X J hs ?_
 have SF:=PySem.F.store_object
 obtain⟨p1,p2⟩:=kR (.ref x) hm
 have ne:cd.mro.isEmpty=false:=by cases q:cd.mro with | nil=>(rw[q]at p2;cases p2) | cons _ _=>rfl
 have sub:W.Looks (model prog w) s.heap (isInstance (.ref x) (.type "object")) true:=J.type.andThen (W.looks_mroIn X (by unfold W.mroIn;rw[hc,Option.bind_some,if_neg (by rw[ne];decide),p2]))
 have lm:W.Looks (model prog w) s.heap (mroOf (.ref C)) cd.mro:=(W.looks_clsIn X hc).andThen .now
 obtain⟨attr,ha,hr⟩:=Option.bind_eq_some_iff.mp ht
 have l3:W.Looks (model prog w) s.heap (Builtin.ObjectAttr.storeTaker? attr) none:=by
  cases attr with
  | none=>cases hr;exact .now
  | some a=>
   obtain⟨b,hb,e⟩:=Option.map_eq_some_iff.mp hr
   refine(W.looks_takesIn X hb).andThen ?_
   cases b with
   | true=>cases e
   | false=>exact .now
 refine codeAny_call_builtin SF.slot.plain SF.entry (@W.check_slot (model prog w) _ _ {s with toks:=s.toks+1 } "object.__setattr__" "object" "__setattr__" (.ref x) [.str name s.toks,v] [] _ SF.kind SF.split sub (SF.args (.ref x) (.str name s.toks) v) ?_)
 rw[W.osa_eq,refuse_eq];refine wpAny_bind (wpAny_bind (W.Looks.here (s:={s with toks:=s.toks+1 }) J.type (wpAny_bind (W.Looks.here (s:={s with toks:=s.toks+1 }) lm ?_))))
 rw[p1];refine wpAny_pure (wpAny_bind (W.Looks.here (s:={s with toks:=s.toks+1 }) J.type (wpAny_bind (W.Looks.here (s:={s with toks:=s.toks+1 }) (W.looks_findIn X ha) (wpAny_bind (W.Looks.here (s:={s with toks:=s.toks+1 }) l3 ?_))))))
 refine wpAny_bind (wpAny_pure (wpAny_bind (wpAny_bind (wpAny_loadPart (s:={s with toks:=s.toks+1 }) gx (wpAny_bind (W.Looks.here (s:={s with toks:=s.toks+1 }) (W.looks_clsIn X hc) ?_))))))
 rw[hdd];have hxs:x≠s.heap.objs.size:=Nat.ne_of_lt (Heap.lt_size gx)
 have g1:(s.heap.push {cls:=.type "dict",data:=.dict #[] }).get? x=some (eR C t):=eP _ gx
 refine wpAny_bind (wpAny_alloc' ?_)
 refine wpAny_bind (wpAny_update' g1 ?_)
 have gd:((s.heap.push {cls:=.type "dict",data:=.dict #[] }).update x fun o=>{o with dict:=some s.heap.objs.size }).get? s.heap.objs.size=some {cls:=.type "dict",data:=.dict #[] }:=(Heap.get?_update_ne _ _ _ _ hxs.symm).trans (Heap.get?_push_at rfl rfl)
 have nd:((s.heap.push {cls:=.type "dict",data:=.dict #[] }).update x fun o=>{o with dict:=some s.heap.objs.size }).Ns s.heap.objs.size (fun _=>none):=⟨_,#[],_,gd,rfl,fun e he=>absurd he Zs,fun _=>rfl⟩
 refine wpAny_pure ?_
 show wpAny _ _ (Builtin.ObjectAttr.storeInDict s.heap.objs.size (.str name s.toks) name v) _ _ _
 unfold Builtin.ObjectAttr.storeInDict Builtin.ObjectAttr.newKeyGuard;refine wpAny_bind (wpAny_pure (wpAny_bind (wpAny_nsSet1 (Heap.Ns1.of_empty nd) fun h' n1 b1=>?_)))
 obtain⟨oD,eD,pD,q1,q2,q3⟩:=n1.count (Within.cons name v Within.nil)
 refine wpAny_bind (wpAny_lookBehind q1 (by rw[q2];exact pastItsLine_dict (kN q3 (by rw[vS,List.length_nil,sizeLine_eq];omega))) (wpAny_pure ?_))
 refine h h' _ ((b1.2 x hxs).trans (Heap.get?_update_self _ g1 rfl)) (fun b o hb e=>?_) n1
 exact(b1.2 b (Nat.ne_of_lt (Heap.lt_size e))).trans ((Heap.get?_update_ne _ _ _ _ hb).trans (eP _ e))
end
end L2
namespace L2
open PySem PySem.Spec PyProof.Rows
def XN (e C t:Addr):Heap->Prop:=fun h=>h.get? e=some (eR C t)
def Yo (e C t dx:Addr):Heap->Prop:=fun h=>h.get? e=some {eR C t with dict:=some dx }
structure aAP (K:W.Frag) (C:Addr) (f:Str):Prop where
 sa:W.findIn K (.ref C) "__setattr__"=some (some (.builtin "object.__setattr__"))
 ov:uS K C=true
 tk:W.takerIn K C f=some none
section
variable {X:Cx} {pins:List (Addr × Obj)} {σ:St} {H:Hp} {s:Shared} {a e C t:Addr} {φ:Heap->Prop}
theorem aAQ {P:Program} {w:World} {h:Heap} (g:h.get? e=some (eR C t)):ObjOk P w H h e (.ext (XN e C t)):=⟨g,⟨_,g⟩,fun _ _ q k=>k _ q⟩
theorem aAR {P:Program} {w:World} {h:Heap} {dx:Addr} (g:h.get? e=some {eR C t with dict:=some dx }):ObjOk P w H h e (.ext (Yo e C t dx)):=⟨g,⟨_,g⟩,fun _ _ q k=>k _ q⟩
theorem Inv.drop (I:Inv X pins σ (aI H a (.ext φ)) s) (na:H a=none):Inv X pins σ H s:=by
 have back:∀b u,(aI H a (.ext φ)) b=some u->(∀ ψ,u≠.ext ψ)->H b=some u:=fun b u q n=>by
  by_cases z:b=a
  ·rw[z,aA]at q;cases q;exact absurd rfl (n φ)
  ·rw[aD z]at q;exact q
 have none':∀b,(aI H a (.ext φ)) b=none->H b=none:=fun b q=>by
  by_cases z:b=a
  ·rw[z,aA]at q;cases q
  ·rw[aD z]at q;exact q
 refine⟨I.ok,I.os,I.bare,⟨I.base.keep,I.base.slot,fun b ob q n hx=>none' _ (I.base.free b ob q n hx),I.base.there,fun b xs q=>back _ _ (I.base.tups b xs q) (fun _ z=>nomatch z),fun b ob u q=>back _ _ (I.base.frzs b ob u q) (fun _ z=>nomatch z),fun b ps q=>?_⟩,I.loc,I.cell,none' _ I.free,fun x c h=>none' _ (I.freeC x c h),fun p hp=>?_,fun b u q=>?_,I.len⟩
 ·obtain⟨more,z⟩:=I.base.tbls b ps q
  exact⟨more,back _ _ z (fun _ z=>nomatch z)⟩
 ·obtain⟨p1,p2,p3⟩:=I.pin p hp
  exact⟨p1,none' _ p2,p3⟩
 ·have nb:b≠a:=aE q na
  exact(I.hok b u (by rw[aD nb];exact q)).stay (fun c v _ h=>h) (fun c h=>back _ _ h (fun _ z=>nomatch z)) fun c xs h=>back _ _ h (fun _ z=>nomatch z)
variable {o value:Expr} {f:Str} {pos pos':Pos} {ta tv:TE} {K:W.Frag}
def Kc (K:W.Frag) (ta tv:TE) (f:Str):TS:=fun D σ H=>tv σ H fun y H1=>ta σ H1 fun x H2=>mR x fun e=>∃C t,H2 e=some (.ext (XN e C t))/\aAP K C f/\∀dx,H2 dx=none->dx≠e->D.nx σ (aI (aI H2 dx (.xd [(f,y)])) e (.ext (Yo e C t dx)))
theorem Ke (ha:PE X o ta) (hv:PE X value tv) (hs:swapsWith value (some (.Attribute o f pos')) pos.line X.env=pure false):PS X (.Assign [.Attribute o f pos'] value pos) (Kc X.K ta tv f):=by
 intro pins s σ H D I h;refine plainObj_wpAny_Assign_Attribute (bU (hv pins s σ H _ I h) fun u s1 ⟨y,H1,I1,ry,q⟩=>bU (ha pins s1 σ H1 _ I1 q) fun ov s2 ⟨x,H2,I2,rx,q1⟩=>?_) hs
 dsimp only at q1
 rw[dY]at q1;obtain⟨a,rfl,C,t,ea,c,q2⟩:=q1
 obtain rfl:ov=Value.ref a:=rx
 have gx:s2.heap.get? a=some (eR C t):=(show ObjOk X.prog X.w H2 s2.heap a (.ext (XN a C t)) from I2.hok a _ ea).1
 refine aBP I2.kIn gx c.sa c.ov c.tk fun h' tk' g1 k n1=>?_
 have n2:H2 s2.heap.objs.size=none:=I2.hok.fresh (bQ _)
 have nx:s2.heap.objs.size≠a:=(aE ea n2).symm
 obtain⟨oD,eD,pD,d1,d2⟩:=id n1
 have gD:(s2.heap.push oD).get? s2.heap.objs.size=some oD:=Heap.get?_push_size _ (Heap.get?_some_iff.mp d1).2
 have I3:=I2.laid (a:=s2.heap.objs.size) (o:=.xd [(f,y)]) (t':=tk') (h':=s2.heap.push oD) (fun b u q=>eP _ q) (bQ _) ⟨_,⟨oD,eD,pD,gD,d2⟩,fun g=>?_⟩
 ·have I4:=I3.write (x:=a) (e:=a) (o:=.ext (Yo a C t s2.heap.objs.size)) (t':=tk') (h':=h') (by rw[aD nx.symm,ea];exact True.intro) (.inl rfl) (fun b u hb q=>?_) ⟨_,g1⟩ (aAR g1)
  ·exact⟨σ,_,I4,q2 _ n2 nx⟩
  ·by_cases z:b=s2.heap.objs.size
   ·rw[z,show(s2.heap.push oD).get? s2.heap.objs.size=some oD from gD]at q;cases q
    rw[z];exact d1
   ·refine k b u hb ?_
    have lt:b<(s2.heap.push oD).objs.size:=Heap.lt_size q
    rw[Heap.size_push]at lt;rw[Heap.get?_push_ne]at q
    ·exact q
    ·omega
 ·show RelO (List.lookup g [(f,y)]) (if g=f then some u else none)
  by_cases z:g=f
  ·rw[z,if_pos rfl,List.lookup_cons,beq_self_eq_true];exact ry
  ·rw[if_neg z,List.lookup_cons,beq_eq_false_iff_ne.mpr z];exact trivial
theorem R.iw (ha:XE X o ta) (hv:XE X value tv) (hK:X.K=K:=by rfl) (hs:swapsWith value (some (.Attribute o f pos')) pos.line X.env=pure false:=by rfl):XS X (.Assign [.Attribute o f pos'] value pos) (Kc K ta tv f):=hK ▸ ⟨Ke ha.h hv.h hs⟩
end
end L2
namespace L2
open PySem PySem.Spec PyProof.Rows
def zD (K:W.Frag) (C fI:Addr) (bmB:List Value) (newId:String):Bool:=match K.lookup C with
 | some ⟨.type "type",_,.cls cd,sl⟩=>(match cd.mro,sl.toList with
  | .ref C'::bm,[_,_,_,_,some (.builtin n),_]=>C' == C&&n == newId&&!cd.hasDel&&W.tailIn K bmB bm&&W.nsOkIn K cd.ns&&(match W.nsIn K cd.ns "__init__" with | some (some (.ref f))=>f == fI | _=>false)
  | _,_=>false)
 | _=>false
structure XClsI (K:W.Frag) (mg:Str->Option Value) (x:Str) (C fI:Addr):Prop where
 at_:mg x=some (.ref C)
 ok:zD K C fI Sr "ValueError.__new__"=true
theorem zE {K:W.Frag} {h:Heap} {N:Addr} {mg:Str->Option Value} {n:Str} {v:Value} (X:K.In h) (G:h.Ns N mg) (e:W.nsIn K N n=some (some v)):mg n=some v:=by
 obtain⟨o,es,ep,ho,hd,_,hf⟩:=G
 unfold W.nsIn at e;split at e
 ·rename_i c d es' n' sl q
  have z:=X _ _ q
  rw[ho]at z;cases z;cases hd
  split at e
  ·rename_i en he
   cases e
   rw[<- hf];unfold nsFind findBy;rw[<- Array.find?_toList,he];rfl
  ·split at e <;> cases e
 ·cases e
theorem XClsI.obj {K:W.Frag} {mg:Str->Option Value} {x:Str} {C fI:Addr} {h:Heap} (c:XClsI K mg x C fI) (X:K.In h) :
  ∃bm N nm q bs hdct sn sub ab col dd k0 k1 k2 k3 k5 mN,h.get? C=some (excClassObj nm q C N bs bm hdct sn sub ab col dd k0 k1 k2 k3 k5 "ValueError.__new__")/\h.Ns N mN/\mN "__init__"=some (.ref fI)/\OwnTail h Sr bm:=by
 have q:=c.ok
 unfold zD at q;split at q
 ·rename_i dd cd sl ho
  split at q
  ·rename_i C' bm k0 k1 k2 k3 n k5 hm hs
   simp only [Bool.and_eq_true,beq_iff_eq,Bool.not_eq_true']at q
   obtain⟨⟨⟨⟨⟨e1,e2⟩,hdel⟩,ht⟩,hok⟩,hni⟩:=q
   subst e1 e2;obtain⟨nm,bs,mro,ns,qn,hd,sn,sub,ab,col,del⟩:=cd
   dsimp only at hm hdel hok hni
   subst hm hdel;have hsl:sl=#[k0,k1,k2,k3,some (.builtin "ValueError.__new__"),k5]:=by
    obtain⟨l⟩:=sl
    simp only at hs
    rw[hs]
   subst hsl;refine⟨bm,ns,nm,qn,bs,hd,sn,sub,ab,col,dd,k0,k1,k2,k3,k5,_,X _ _ ho,.of_isNs (W.isNs_of_in X hok),?_,W.tail_of_in X ht⟩
   split at hni
   ·rename_i f hf
    rw[<- eq_of_beq hni];exact zE X (.of_isNs (W.isNs_of_in X hok)) hf
   ·cases hni
  ·cases q
 ·cases q
def uT (X:Cx) (E:XK):Prop:=∀(pins:List (Addr × Obj)) (σ0 σ:St) (H0 H:Hp) (s s3:Shared) (e t:Addr) (cls:Value) (dx:Option Addr),Inv X pins σ0 H0 s->s.heap.get? e=none->H e=none->Inv X pins σ H s3->s3.heap.get? e=some {cls:=cls,dict:=dx,data:=.fields #[.ref t,.none,.none,.none,.bool false,.none] }->E cls dx H->X.xe (.ref e) s3
theorem Kf {pins:List (Addr × Obj)} {σ0 σ:St} {cls:Value} {P:Program} {w:World} {K:W.Frag} {mg:Str->Option Value} {base:Heap} {N:List Str} {qual:Str} {scope:Scope} {f:Addr} {cd:Value} {A:Around} {outer:List Env} {s s0 s1:Shared} {H H0 H1:Hp} {E:XK} {e t:Addr} {dx:Option Addr}
  (I0:Inv (fL (Bi P w) P w K mg base N qual scope f cd A outer s H E) pins σ0 H0 s0) (n0:s0.heap.get? e=none) (he1:H1 e=none) (I:Inv (fL (Bi P w) P w K mg base N qual scope f cd A outer s H E) pins σ H1 s1) (hf:(envOfC qual scope s.heap.objs.size f cd).frame=some (envOfC qual scope s.heap.objs.size f cd).locals)
  (he:s1.heap.get? e=some {cls:=cls,dict:=dx,data:=.fields #[.ref t,.none,.none,.none,.bool false,.none] }) (q:E cls dx H1) :
  (fL (Bi P w) P w K mg base N qual scope f cd A outer s H E).xe (.ref e) s1:=by
 have und:Un (jJ outer) [] H H1 s.heap s1.heap:=I.base
 have und0:Un (jJ outer) [] H H0 s.heap s0.heap:=I0.base
 have fr0:∀b∈jJ outer,H b=none/\∃o,s.heap.get? b=some o/\∀vs,o.data≠.fields vs:=fun b hb=>⟨I.ok.frf b hb,(I.ok.funs.mem hb).2⟩
 have st:(fL (Bi P w) P w K mg base N qual scope f cd A outer s H E).stack=envOfC qual scope s.heap.objs.size f cd::outer:=rfl
 have nL:s.heap.get? (envOfC qual scope s.heap.objs.size f cd).locals=none:=Heap.get?_none_of_le I.ok.above
 have ne0:s.heap.get? e=none:=by
  cases z:s.heap.get? e with
  | none=>rfl
  | some ob=>
   obtain⟨o',y⟩:=und0.there e ob z Zs
   rw[n0]at y;cases y
 have hin:∀env∈(envOfC qual scope s.heap.objs.size f cd::outer),∀b,env.frame=some b->b∈jJ (envOfC qual scope s.heap.objs.size f cd::outer)++[e]:=fun env he b hb=>List.mem_append_left _ (uM he hb)
 have hh:∀b∈jJ (envOfC qual scope s.heap.objs.size f cd::outer)++[e],b∈jJ outer∨(s.heap.get? b=none/\H1 b=none):=fun b hb=>by
  rcases Zma.mp hb with z | z
  ·unfold jJ at z;rw[List.filterMap_cons,hf]at z;rcases List.mem_cons.mp z with y | y
   ·rw[y];exact .inr ⟨nL,I.free⟩
   ·exact .inl y
  ·rw[Zms.mp z];exact .inr ⟨ne0,he1⟩
 have hsub:∀b∈jJ outer,b∈jJ (envOfC qual scope s.heap.objs.size f cd::outer)++[e]:=fun b hb=>by
  refine List.mem_append_left _ ?_
  unfold jJ;rw[List.filterMap_cons,hf];exact oP _ hb
 have hm1:e∈jJ (envOfC qual scope s.heap.objs.size f cd::outer)++[e]:=List.mem_append_right _ jI
 have ff0:s1.heap.FunFrames base (envOfC qual scope s.heap.objs.size f cd::outer):=I.stack
 have go:=Ws (M:=model P w) (A:=A.deeper (envOfC qual scope s.heap.objs.size f cd)) (E:=fun e' s''=>Bi P w outer H s E e' s'') (Q:=fun _ s''=>Bi P w outer H s E (.ref e) s'') (s:=s1) (base:=W.hideAll s1.heap (jJ (envOfC qual scope s.heap.objs.size f cd::outer)++[e])) (env:=envOfC qual scope s.heap.objs.size f cd) (outer:=outer) (e:=e) (a0:=.ref t)
  I.ok.frames (W.funFrames_hide ff0 hin) hf he (fun b o q=>W.of_hideAll _ q) (W.hideAll_none _ hm1) rfl rfl rfl ?_
 ·exact go
 ·rintro h2 ⟨k1,k2,⟨oe',vs',T',oT',ts',q1,⟨q2,q3⟩,q4,q5,q6,q7,q8,q9,q10⟩,k4⟩ ⟨od',d1,d2⟩
  obtain⟨u2,ok2⟩:=yY und I.hok hh hsub fr0 k1 k4
  obtain⟨n1,n2⟩:=uL und I.hok hh fr0 k4 q6 q8 q9
  exact⟨e,cls,dx,H1,rfl,⟨ne0,I.os,I.bare,u2,ok2,he1,⟨T',⟨oe',vs',_,oT',ts',q1,q2,q3,q4,q5,q7,q8,q9,q10⟩,n1,n2⟩,fun dx' hdx=>⟨od',d1,d2.trans hdx⟩⟩,q⟩
theorem wZ {P:Program} {w:World} {K:W.Frag} {mg:Str->Option Value} {base:Heap} {N:List Str} {qual:Str} {scope:Scope} {f:Addr} {cd:Value} {A:Around} {outer:List Env} {s:Shared} {H:Hp} {E:XK}
  (hf:(envOfC qual scope s.heap.objs.size f cd).frame=some (envOfC qual scope s.heap.objs.size f cd).locals:=by rfl):uT (fL (Bi P w) P w K mg base N qual scope f cd A outer s H E) E:=
 fun pins σ0 σ H0 H1 s0 s1 e t cls dx I0 n0 h1 I he q=>Kf I0 n0 h1 I hf he q
def Xc (C:Addr) (f:Str):Sp:=fun vs H Q _=>∃(e t:Addr) (v:V),vs=[.ref e,v]/\H e=some (.ext (XN e C t))/\∀dx,H dx=none->dx≠e->Q .non (aI (aI H dx (.xd [(f,v)])) e (.ext (Yo e C t dx)))
structure sP (P:Program) (w:World) (K:W.Frag) (mg:Str->Option Value) (base:Heap) (n:Nat) (C fI:Addr) (fl:Str):Prop where
 ex:∃fd ps,iE P w K mg base qW n fI fd ps (Xc C fl)/\Binds K fd ps []
 fn:W.isFn K (.ref fI)=true
section
variable {X:Cx} {x fl:Str} {C fI:Addr} {E:XK} {e:Expr} {t:TA} {np cpos pos:Pos} {n:Nat}
def Bm (C:Addr) (fl:Str) (E:XK) (t:TA):TS:=fun _ σ H=>t σ H fun vs H1=>∃v,vs=[v]/\∀dx,H1 dx=none->E (.ref C) (some dx) (aI H1 dx (.xd [(fl,v)]))
theorem Eo (c:XClsI X.K X.mg x C fI) (ci:sP X.prog X.w X.K X.mg X.base n C fI fl) (hr:Room (n+1) X.A) (hl:uT X E) (hc:X.calm=true) (hg:Gl X x) (ha:PA X [e] t) (hs:aM e=true) (hdb:(x == ("__debug__":Str))=false) :
  PS X (.Raise (some (.Call (.Name x np) [e] [] cpos)) none pos) (Bm C fl E t):=by
 intro pins s σ H D I h;obtain⟨tl,N,nm,q,bs,hdct,sn,sub,ab,col,dd,k0,k1,k2,k3,k5,mN,hC,hN,hni,T⟩:=c.obj I.mod.kin
 obtain⟨⟨fd,ps,F,hb⟩,hfn⟩:=ci
 have he:starEach [e] X.env=[(false,eval e X.env)]:=by rw[bB hs];rfl
 have hft:=beq_iff_eq.mp hfn
 obtain⟨oI,hoI,hoc⟩:∃oI,X.base.get? fI=some oI/\oI.cls=.type "function":=by
  obtain⟨oI,ho,e'⟩:=Option.map_eq_some_iff.mp (show(X.K.lookup fI).map (·.cls)=some (.type "function") from hft)
  exact⟨oI,I.mod.kin _ _ ho,e'⟩
 refine wY (C:=C) (nm:=nm) (q:=q) (N:=N) (bs:=bs) (bm:=tl) (hdct:=hdct) (sn:=sn) (sub:=sub) (ab:=ab) (col:=col) (dd:=dd) (k0:=k0) (k1:=k1) (k2:=k2) (k3:=k3) (k5:=k5) (fI:=fI) (oI:=oI)
  PySem.F.excBase_ValueError (mN:=mN) (T.hasType PySem.F.excBase_ValueError.hasBase) (I.ok.hd hc) (by rw[he];rfl) hni hoc (iC I hg c.at_ ⟨rfl,?_⟩ hdb)
 have hp:=ha cpos pins s σ H _ I h
 rw[he]at hp ⊢;refine Calls.evalArgs_plain (bU hp fun us s1 ⟨vs,H1,I1,r,v,ev,q⟩=>?_)
 subst ev;have hul:us.length=1:=r.length.symm
 refine⟨rfl,by rw[hul];decide,I1.bk _ _ hC,hN.keeps I1.bk,T.keeps I1.bk,I1.bk _ _ hoI,?_⟩
 have I2:=I1.laid (a:=s1.heap.objs.size+1) (o:=.ext (XN (s1.heap.objs.size+1) C s1.heap.objs.size)) (t':=s1.toks) (h':=jG s1.heap C us) (fun b u q=>gA q) (Nat.le_succ _) (aAQ wW)
 have n1:H1 (s1.heap.objs.size+1)=none:=I1.hok.fresh (Nat.le_succ _)
 have hq:Xc C fl (.ref (s1.heap.objs.size+1)::[v]) (aI H1 (s1.heap.objs.size+1) (.ext (XN (s1.heap.objs.size+1) C s1.heap.objs.size))) (fun u H2=>u=.non/\∃dx,H1 dx=none/\dx≠s1.heap.objs.size+1/\H2=aI (aI H1 dx (.xd [(fl,v)])) (s1.heap.objs.size+1) (.ext (Yo (s1.heap.objs.size+1) C s1.heap.objs.size dx))) E0:=by
  refine⟨_,_,v,rfl,aA,fun dx h0 hne=>⟨rfl,dx,by rw[aD hne]at h0;exact h0,hne,?_⟩⟩
  funext b
  unfold aI;by_cases z:b=s1.heap.objs.size+1
  ·rw[if_pos z,if_pos z]
  ·simp only [if_neg z]
 have hl2:(Value.ref (s1.heap.objs.size+1)::us).length=ps.length:=by
  have e1:=F.len _ _ _ _ hq
  rw[vS,hul,<- e1];rfl
 have hb':=hb {s1 with heap:=jG s1.heap C us } (Value.ref (s1.heap.objs.size+1)::us) I2.kIn (by rw[List.append_nil];exact hl2)
 rw[List.append_nil]at hb';refine wpAny_call (codeAny_mono (F.run _ X.stack _ _ ⟨Value.ref (s1.heap.objs.size+1)::us,[]⟩ (Value.ref (s1.heap.objs.size+1)::us) (.ref (s1.heap.objs.size+1)::[v]) _ E0 (hr.make C us []) (I2.env0.make C us []) hb' (.cons rfl r) hq) fun rs s' hq'=>?_)
 cases rs with
 | error e'=>exact False.elim hq'
 | ok fl=>
  cases fl with
  | ret u=>
   obtain⟨v',H',I3,rv,ev,dx,f0,hne,eH⟩:=I2.after hq'
   subst ev eH;have gx:=(show ObjOk X.prog X.w _ s'.heap _ (.ext (Yo (s1.heap.objs.size+1) C s1.heap.objs.size dx)) from I3.hok _ _ aA).1
   have n2:(aI H1 dx (.xd [(fl,v)])) (s1.heap.objs.size+1)=none:=by rw[aD hne.symm];exact n1
   have I4:=I3.drop n2
   exact⟨rv,s1.heap.objs.size,some dx,#[],I4.bk _ _ hC,gx,hl pins σ σ H1 _ s1 s' _ _ _ _ I1 (Heap.get?_none_of_le (Nat.le_succ _)) n2 I4 gx (q dx f0)⟩
  | next=>exact False.elim hq'
  | brk=>exact False.elim hq'
  | cont=>exact False.elim hq'
theorem R.iy (c:XClsI X.K X.mg x C fI) (ci:sP X.prog X.w X.K X.mg X.base n C fI fl) (hr:Room (n+1) X.A) (hl:uT X E) (hc:X.calm=true) (hg:Gl X x:=by rfl) (ha:XA X [e] t) (hs:aM e=true:=by rfl) (hdb:(x == ("__debug__":Str))=false:=by decide) :
  XS X (.Raise (some (.Call (.Name x np) [e] [] cpos)) none pos) (Bm C fl E t):=⟨Eo c ci hr hl hc hg ha.h hs hdb⟩
end
end L2
namespace L2
open PySem PySem.Spec PyProof.Rows
section
variable {prog:Program} {w:World} {A:Around} {E:Value->Shared->Prop} {s:Shared} {K:W.Frag} {x D:Addr}
theorem Kg {Q:Value->Shared->Prop} {f:Str} {ox od:Obj} {v:Value} {b:Bool} (X:K.In s.heap) (J:W.InstAt s.heap x ox D (some od)) (k:oF K D) (hd:W.hasDictIn K D=true) (hf:W.findIn K (.ref D) f=some none)
  (hl:W.lookIn f od=some (some v)) (hv:W.handedIn v=true) (h:Q v {s with toks:=s.toks+1 }):wpAny (model prog w) A (getAttr (.ref x) f b) Q E s:=by
 obtain⟨hh,g,d,t,os⟩:=s
 have c:OfCls x D hh:=⟨ox,J.at_,J.cls⟩
 have L0:=c.type (M:=model prog w)
 have L1:=W.looks_findIn (M:=model prog w) X k.ga
 have L2:=W.looks_findIn (M:=model prog w) X k.gx
 have L3:=W.looks_find (M:=model prog w) X J (W.findObj_own hd hf rfl hl)
 have LI:W.Looks (model prog w) hh (isInstance (.ref x) (.type "BaseException")) true:=L0.andThen (W.looks_mroIn X k.mb)
 unfold getAttr getAttrBy;refine wpAny_bind (wpAny_mkText (wpAny_holding (wpAny_bind (L0.at (wpAny_bind (L1.at ?_))))))
 dsimp only;have hx0:(Value.builtin "BaseException.__getattribute__" == Value.builtin "object.__getattribute__")=false:=by decide +kernel
 have hx1:(onTheHeap (Value.ref D)&&Value.builtin "BaseException.__getattribute__" == Value.builtin "object.__getattribute__")=false:=by rw[hx0];rfl
 rw[if_neg (by rw[hx1];exact Bool.false_ne_true)]
 unfold getAttrByItsOwn hookBefore;rw[if_pos (show onTheHeap (Value.ref D)=true from rfl)];refine wpAny_bind (L2.at ?_)
 refine wpAny_bind (wpAny_attempt (wpAny_holding ?_))
 unfold callGetattribute;rw[if_neg (by cases b <;> decide)]
 unfold boundAndCalled;refine wpAny_bind (wpAny_of_eq (F.excAttr_ValueError.ga.bind _) ?_)
 show wpAny _ _ (call (.builtin "BaseException.__getattribute__") [.ref x,.str f t]) _ _ _
 refine wpAny_call (codeAny_call_builtin F.excAttr_ValueError.ga.plain F.entry_bexc_ga (sN LI ?_))
 unfold Builtin.«object.__getattribute__»
 refine wpAny_bind (wpAny_of_eq (a:=(Value.ref x,[Value.str f t])) rfl ?_)
 dsimp only;refine wpAny_bind (wpAny_pure (wpAny_bind (L0.at (wpAny_bind (L3.at ?_)))))
 dsimp only;refine wpAny_pure ?_
 show wpAny _ _ (handedOut v) _ _ _
 rw[W.handedOut_of hv];exact wpAny_pure h
end
def mXF (K:W.Frag) (te:TE) (f:Str):TE:=fun σ H Q=>te σ H fun x H1=>∃a D dx fs v,x=.ref a/\H1 a=some (.ext (rA a (.ref D) (some dx)))/\H1 dx=some (.xd fs)/\oF K D/\W.hasDictIn K D=true/\W.findIn K (.ref D) f=some none/\fs.lookup f=some v/\Q v H1
section
variable {X:Cx} {e:Expr} {te:TE} {f:Str} {pos:Pos} {K:W.Frag}
theorem Xd (he:PE X e te) (hb:attributeBase e f X.env (eval e X.env)=eval e X.env):PE X (.Attribute e f pos) (mXF X.K te f):=by
 intro pins s σ H Q I h;refine Al hb (bU (he pins s σ H _ I h) fun u s1 ⟨x,H1,I1,rx,q1⟩=>?_)
 obtain⟨a,D,dx,fs,v,rfl,ea,ed,k,hd,hf,hl,q⟩:=q1
 cases rx
 obtain⟨⟨o,vs,h1,h2,h3,h4⟩,_⟩:=(show ObjOk X.prog X.w H1 s1.heap a (.ext (rA a (.ref D) (some dx))) from I1.hok a _ ea)
 obtain⟨mA,ns,r⟩:=(show ObjOk X.prog X.w H1 s1.heap dx (.xd fs) from I1.hok dx _ ed)
 obtain⟨od,ho,hlk⟩:=rR ns
 obtain⟨u,hu,ru⟩:=RelO.some_of (v:=v) (o:=mA f) (by rw[<- hl];exact r f)
 obtain⟨oc,odi,oda,osl⟩:=o
 have h4':=h4 dx rfl
 dsimp only at h2 h3 h4'
 subst h2 h3 h4';exact Kg I1.kIn ⟨h1,rfl,rfl,ho⟩ k hd hf (by rw[hlk,hu]) (rS ru) ⟨v,H1,I1.tok _,ru,q⟩
end
namespace R
theorem ig {X:Cx} {e:Expr} {te:TE} {f:Str} {pos:Pos} {K:W.Frag} (he:XE X e te) (hK:X.K=K:=by rfl) (hb:attributeBase e f X.env (eval e X.env)=eval e X.env:=by rfl):XE X (.Attribute e f pos) (mXF K te f):=hK ▸ ⟨Xd he.h hb⟩
end R
end L2
namespace L2
open PySem PySem.Spec PyProof.Rows
structure InitAt (K:W.Frag) (fI:Addr) (qual:Str) (st:Stmt) (ps:List Str):Prop where
 ex:∃fd,Fun K "__init__" qual st fI fd/\Binds K fd ps []
 fn:W.isFn K (.ref fI)=true
theorem InitAt.go {P:Program} {w:World} {K:W.Frag} {mg:Str->Option Value} {base:Heap} {qual fl:Str} {st:Stmt} {N ps:List Str} {k:Nat} {C fI:Addr} (D:InitAt K fI qual st ps) (S:aJ N ps (aB st)) (len:ps.length=2)
  (hbody:∀(cdv:Value) (A:Around) (outer:List Env) (s:Shared) (H:Hp) (vs:List V) (Q:VK) (E:XK),Room k (A.deeper (envOfC qual (aB st) s.heap.objs.size fI cdv))->Xc C fl vs H Q E →
   ∃t,XB (fL qW P w K mg base N qual (aB st) fI cdv A outer s H E).nox (aV st) t/\t {nx:=fun _ H'=>Q .non H',rt:=Q } (start N vs) H):sP P w K mg base (k+1) C fI fl:=by
 obtain⟨fd,F,hb⟩:=D.ex
 exact⟨⟨fd,ps,F.go S (fun vs H Q E h=>by obtain⟨e,t,v,rfl,_⟩:=h;rw[len];rfl) hbody,hb⟩,D.fn⟩
end L2
namespace L2
open PySem PySem.Spec PyProof.Rows
section
variable {X:Cx}
def uU {α:Type} (xs:List α) (k:Nat) (x:α):List α:=xs.take k++[x]++xs.drop k
def Bn:V->List V->Hp->VK->Prop:=fun x vs H Q=>∃(l:Addr) (xs:List V) (k:Nat) (y:V),x=.ref l/\vs=[.int (k:Int),y]/\H l=some (.lst xs)/\k<=xs.length/\xs.length<1000/\Q .non (aI H l (.lst (uU xs k y)))
theorem Kh {k:Nat} (h:k<1000):¬ (!Builtin.List.listFitsIndex (k:Int))=true:=by
 have e1:-(2 ^ 63)<=(k:Int):=by omega
 have e2:(k:Int)<2 ^ 63:=by omega
 rw[fitsIndex_both e1 e2];exact Bool.false_ne_true
theorem sQ:∀ {xs:List V} {its:List Value} (k:Nat),Vals xs its->Vals (xs.take k) (its.take k)
 | _,_,0,_=>by simp;exact .nil
 | _,_,k+1,.nil=>by simp;exact .nil
 | _,_,k+1,.cons h t=>by rw[List.take_succ_cons,List.take_succ_cons];exact .cons h (sQ k t)
theorem sR:∀ {xs:List V} {its:List Value} (k:Nat),Vals xs its->Vals (xs.drop k) (its.drop k)
 | _,_,0,h=>by simpa using h
 | _,_,k+1,.nil=>by simp;exact .nil
 | _,_,k+1,.cons h t=>by rw[List.drop_succ_cons,List.drop_succ_cons];exact sR k t
theorem Xe {s:Shared} {A:Around} {E:Value->Shared->Prop} {prog:Program} {w:World} {l:Addr} {its:List Value} {n:Nat} {k:Int} {t:Tok} {u2:Value} {Q:Value->Shared->Prop} (e:s.heap.get? l=some {cls:=.type "list",data:=.seq its.toArray n }) (f1:¬ (!Builtin.List.listFitsIndex k)=true) (f2:its.toArray.size<=sizeLine)
  (q:Q .none {s with heap:=s.heap.update l (Obj.mapSeq fun xs=>have k:=if k<0 then (k+(xs.size:Int)).toNat else min k.toNat xs.size;(xs.extract 0 k).push u2++xs.extract k),toks:=s.toks }) :
  wpAny (model prog w) A (call (.builtin "list.insert") [.ref l,.int k t,u2]) Q E s:=by
 have M:=AutoSeq1.list_insert_list_int_val_1 l its.toArray n k t u2 f1 f2
 exact call_meets PySem.F.slot_list_insert ⟨_,e,rfl⟩ PySem.F.entry_list_insert (PySem.F.args_list_insert_3 _ _ _) M ⟨e,q⟩
theorem Ep:Zv X "list.insert" Bn:=by
 intro pins s σ H x vs v us Q I rx rv h;obtain⟨l,xs,k,y,rfl,rfl,hH,hk,hz,q⟩:=h
 cases rx
 obtain⟨u1,u2,rfl,ru1,ru2⟩:=rv.two
 obtain⟨t,rfl⟩:=ru1
 obtain⟨z,its,n,r,hl,e⟩:=I.lstM hH
 have hlen:(uU xs k y).length=xs.length+1:=by unfold uU;simp;omega
 have hv:Vals (uU xs k y) (uU its k u2):=by
  unfold uU;exact((sQ k r).append (.cons ru2 .nil)).append (sR k r)
 have hle:(uU xs k y).length<=sizeLine:=fA (by rw[hlen];omega)
 refine Xe e (Kh (oZ hk hz)) (by rw[eB,<- hl];exact z) ?_
 refine⟨.non,_,I.lset (its':=uU its k u2) hH e ?_ hv hle,rfl,q⟩
 have h0:¬ ((k:Int)<0):=by omega
 have h1:min (k:Int).toNat its.toArray.size=k:=by rw[eB,<- hl];simp;omega
 simp only [h0,if_false,h1]
 unfold uU;simp
 exact vR Zs
theorem R.iz:XM X "list.insert" Bn:=⟨Ep⟩
end
end L2
namespace L2
open PySem PySem.Spec PyProof.Rows
section
open PySem.MeetsSeq PySem.SeqAt
open AutoSeq1 (wpAny_loadPart')
theorem rC (l:Addr) (items:Array Value) (n:Nat) (x:Value) (e:Value->Bool) (j:Nat) (hj:j<items.size) (hit:e items[j]=true) (k:Nat) (hs1:items.size<=sizeLine) :
  ∀i:Nat,j - i=k->i<=j->(∀m (hm:m<items.size),i<=m->m<j->e items[m]=false)->Meets (Builtin.«list.remove.loop» ⟨[.ref l,x,rawInt i],[]⟩)
   (fun A R s=>s.heap.get? l=some {cls:=.type "list",dict:=none,data:=.seq items n,slots:=#[] }/\(∀y,y∈items->EqAt A.in1 s y x (e y))/\R (.ok (.ret .none)) {s with heap:=s.heap.update l (Obj.mapSeq fun xs=>xs.eraseIdxIfInBounds j) }):=by
 induction k with
 | zero=>
  intro i hk hij hno prog w A R s h;obtain⟨hp,g,d,tk,os⟩:=s;obtain⟨hl,he,h⟩:=h
  obtain rfl:i=j:=by omega
  wp_walk using wpAny_loadPart' hl
  rw[show items[((i:Nat):Int).toNat]?=some items[i] by simp [hj]]
  refine wpAny_bind (he _ (Array.getElem_mem hj) prog w _ _ ?_)
  rw[hit];have hz':(items.eraseIdxIfInBounds i).size<=sizeLine+1:=kN (size_erased items _) (Nat.le_succ_of_le hs1)
  wp_walk using (wpAny_updateSeq hl rfl (hz:=hs1) (_hz':=hz')),wpAny_loadPart' hl
  simpa using h
 | succ k ih=>
  intro i hk hij hno prog w A R s h;obtain⟨hp,g,d,tk,os⟩:=s;obtain⟨hl,he,h⟩:=h
  have hlt:i<items.size:=by omega
  wp_walk using wpAny_loadPart' hl
  have hc:((i:Int)+1)=((i+1:Nat):Int):=by push_cast;rfl
  rw[show items[((i:Nat):Int).toNat]?=some items[i] by simp [hlt]]
  refine wpAny_bind (he _ (Array.getElem_mem hlt) prog w _ _ ?_)
  rw[hno i hlt (bQ _) Zo]
  wp_walk
  rw[hc];exact⟨plainId_quiet plain_remove_loop _,codeAny_builtin entry_remove_loop (by
   rw[Around.under_plainId plain_remove_loop _];exact ih (i+1) Zo Zo (fun m hm h1 h2=>hno m hm Zo h2) prog w A R _ ⟨hl,he,h⟩)⟩
theorem rD (l:Addr) (items:Array Value) (n:Nat) (x:Value) (e:Value->Bool) (j:Nat) (hj:j<items.size) (hit:e items[j]=true) (hno:∀m (hm:m<items.size),m<j->e items[m]=false) (hs1:items.size<=sizeLine) :
  Meets (Builtin.«list.remove» ⟨[.ref l,x],[]⟩)
   (fun A R s=>s.heap.get? l=some {cls:=.type "list",dict:=none,data:=.seq items n,slots:=#[] }/\(∀y,y∈items->EqAt A.in1 s y x (e y))/\R (.ok (.ret .none)) {s with heap:=s.heap.update l (Obj.mapSeq fun xs=>xs.eraseIdxIfInBounds j) }):=by
 intro prog w A R s h;obtain⟨hp,g,d,tk,os⟩:=s;obtain⟨hl,he,h⟩:=h
 wp_walk using wpAny_loadPart' hl
 exact⟨plainId_quiet plain_remove_loop _,codeAny_builtin entry_remove_loop (by
  rw[Around.under_plainId plain_remove_loop _];exact rC l items n x e j hj hit _ hs1 0 rfl (Nat.zero_le _) (fun m hm _ h2=>hno m hm h2) prog w A R _ ⟨hl,he,h⟩)⟩
end
def EQ (H:Hp) (u v:V):Prop:=(eC u=true/\eC v=true)∨∃b b' ps qs,u=.ref b/\v=.ref b'/\H b=some (.tup ps)/\H b'=some (.tup qs)/\∀(j:Nat) (x y:V),ps[j]?=some x->qs[j]?=some y->eC x=true/\eC y=true
section
variable {X:Cx} {pins:List (Addr × Obj)} {σ:St} {H:Hp} {s:Shared}
theorem EQ.at {A:Around} {x y:V} {u v:Value} (hu:A.units<cLine) (I:Inv X pins σ H s) (rx:RelV x u) (ry:RelV y v) (h:EQ H x y):∃b,SeqAt.EqAt A s u v b:=by
 rcases h with⟨f1,f2⟩ | ⟨b,b',ps,qs,rfl,rfl,g1,g2,fl⟩
 ·exact⟨_,pF rx ry f1 f2⟩
 ·cases rx
  cases ry
  by_cases e:b=b'
  ·subst e;exact⟨true,SeqAt.EqAt.same _⟩
  ·obtain⟨its,ri,ti,_⟩:=I.tuple (SqT.of g1)
   obtain⟨its2,ri2,ti2,_⟩:=I.tuple (SqT.of g2)
   have each:∀j (h1:j<its.toArray.size) (h2:j<its2.toArray.size),SeqAt.EqAt A.in1 s its.toArray[j] its2.toArray[j] (qY (ps.getD j .non) (qs.getD j .non)):=fun j h1 h2=>by
    rw[eB]at h1 h2;obtain⟨h1',q1⟩:=Paired.get' (j:=j) ri h1
    obtain⟨h2',q2⟩:=Paired.get' (j:=j) ri2 h2
    obtain⟨f1,f2⟩:=fl j ps[j] qs[j] (gZ h1') (gZ h2')
    have e1:ps.getD j .non=ps[j]:=by simp [List.getD,h1']
    have e2:qs.getD j .non=qs[j]:=by simp [List.getD,h2']
    rw[e1,e2];simpa using pF q1 q2 f1 f2
   exact⟨_,.of_refs e (SeqAt.RcAt.tuples ti ti2 hu each)⟩
theorem xA {A:Around} {c a:Addr} {n m:Int} {xs ys:List V} (hu:A.units+1<cLine) (I:Inv X pins σ H s) (hne:c≠a) (g1:H c=some (.lst (.int n::xs))) (g2:H a=some (.lst (.int m::ys))) (hnm:n≠m) (hl:xs.length=ys.length)
  (h:∀(j:Nat) (u v:V),xs[j]?=some u->ys[j]?=some v->EQ H u v):SeqAt.EqAt A s (.ref c) (.ref a) false:=by
 obtain⟨its,ri,ti,_⟩:=I.list (SqL.of g1)
 obtain⟨its2,ri2,ti2,_⟩:=I.list (SqL.of g2)
 have el1:its.length=xs.length+1:=ri.length.symm
 have el2:its2.length=ys.length+1:=ri2.length.symm
 have es:its.toArray.size=its2.toArray.size:=by rw[eB,eB];omega
 have each:∀j:Nat,∃b,(j=0->b=false)/\∀(h1:j<its.toArray.size) (h2:j<its2.toArray.size),SeqAt.EqAt A.in1 s its.toArray[j] its2.toArray[j] b:=fun j=>by
  by_cases h1:j<its.length
  ·have h2:j<its2.length:=by omega
   obtain⟨h1',q1⟩:=Paired.get' (j:=j) ri h1
   obtain⟨h2',q2⟩:=Paired.get' (j:=j) ri2 h2
   cases j with
   | zero=>
    have key:=pF (A:=A.in1) (s:=s) q1 q2 rfl rfl
    rw[show qY ((V.int n::xs)[0]) ((V.int m::ys)[0])=false from decide_eq_false hnm]at key;exact⟨false,fun _=>rfl,fun _ _=>by simpa using key⟩
   | succ j=>
    have q1':RelV (xs[j]'(by simpa using h1')) its[j+1]:=q1
    have q2':RelV (ys[j]'(by simpa using h2')) its2[j+1]:=q2
    obtain⟨b,hb⟩:=EQ.at (A:=A.in1) (by show A.units+1<cLine;exact hu) I q1' q2' (h j _ _ (gZ _) (gZ _))
    exact⟨b,fun e=>absurd e Zo,fun _ _=>by simpa using hb⟩
  ·exact⟨false,fun _=>rfl,fun h _=>absurd (by simpa using h) h1⟩
 obtain⟨e,he⟩:=Classical.axiomOfChoice each
 have key:=SeqAt.EqAt.of_refs hne (SeqAt.RcAt.lists (A:=A) (s:=s) (e:=e) ti.isList ti2.isList es Zo (fun j h1 h2=>(he j).2 h1 h2))
 have ef:(List.range its.toArray.size).all e=false:=by
  rw[eB,el1];rw[List.all_eq_false];exact⟨0,List.mem_range.mpr Zo,by rw[(he 0).1 rfl];decide⟩
 rw[ef]at key;exact key
end
def jR:V->List V->Hp->VK->Prop:=fun x vs H Q=>match x,vs with
 | .ref l,[.ref a]=>∃(us:List Addr) (j:Nat),H l=some (.lst (us.map V.ref))/\us[j]?=some a/\us.Nodup ∧
  (∀c∈us,c≠a->∃n m xs ys,H c=some (.lst (.int n::xs))/\H a=some (.lst (.int m::ys))/\n≠m/\xs.length=ys.length/\∀(j:Nat) (u v:V),xs[j]?=some u->ys[j]?=some v->EQ H u v) ∧
  Q .non (aI H l (.lst ((us.eraseIdx j).map V.ref)))
 | _,_=>False
theorem pZ:∀(ss:List Addr) (j:Nat),(ss.eraseIdx j).map V.ref=(ss.map V.ref).eraseIdx j
 | [],j=>by simp
 | s::r,0=>by simp
 | s::r,j+1=>by
  rw[List.eraseIdx_cons_succ,List.map_cons,List.map_cons,List.eraseIdx_cons_succ,pZ r j]
theorem zF {X:Cx} (hu:X.A.units+64<cLine):Zv X "list.remove" jR:=by
 intro pins s σ H x vs v us0 Q I rx rv h;unfold jR at h;split at h
 ·rename_i l a
  obtain⟨us,j,hl,hj,nd,ne,q⟩:=h
  cases rx
  obtain⟨u,rfl,ru⟩:=rv.one
  cases ru
  obtain⟨z0,its,n,r,hln,e⟩:=I.lstM hl
  rw[aZ]at hln;have hjl:j<us.length:=(Zgs.mp hj).1
  have at_:∀(m:Nat) (hm:m<its.length),∃hm':m<us.length,its[m]=Value.ref us[m]:=fun m hm=>by
   have hm':m<us.length:=by omega
   have rv:RelV (V.ref us[m]) (its.getD m Value.none):=nG m r (by rw[aZ];exact hm') _ (by rw[jC,gZ hm'];rfl)
   have e1:its.getD m Value.none=its[m]:=by rw[List.getD_eq_getElem?_getD,gZ hm];rfl
   rw[e1]at rv;exact⟨hm',rv⟩
  refine call_meets PySem.F.slot_list_remove ⟨_,e,rfl⟩ PySem.F.entry_list_remove (PySem.F.args_list_remove_2 _ _)
   (rD l its.toArray n (.ref a) (fun y=>y == Value.ref a) j (by simp;omega) ?_ ?_ (by rw[eB];rw[aZ]at z0;omega)) ⟨e,?_,?_⟩
  ·obtain⟨hm',ej⟩:=at_ j Zo
   simp only [List.getElem_toArray]
   rw[ej,(Zgs.mp hj).2];exact beq_self_eq_true _
  ·intro m hm hlt;have hm2:m<its.length:=by simpa using hm
   obtain⟨hm',ej⟩:=at_ m hm2
   simp only [List.getElem_toArray]
   rw[ej];refine beq_eq_false_iff_ne.mpr fun h=>?_
   injection h with h
   exact(List.pairwise_iff_getElem.mp nd) m j hm' hjl hlt (h.trans (Zgs.mp hj).2.symm)
  ·intro y hy;obtain⟨m,hm,rfl⟩:=List.getElem_of_mem (show y∈its by simpa using hy)
   obtain⟨hm',ej⟩:=at_ m hm
   rw[ej];by_cases ea:us[m]=a
   ·rw[ea,beq_self_eq_true];exact SeqAt.EqAt.same _
   ·obtain⟨n1,n2,xs,ys,g1,g2,hn,hlen,heq⟩:=ne us[m] (List.getElem_mem hm') ea
    rw[show(Value.ref us[m] == Value.ref a)=false from beq_eq_false_iff_ne.mpr fun h=>ea (by injection h)]
    exact xA (by show X.A.units+1+1<cLine;omega) I ea g1 g2 hn hlen heq
  ·have er:(us.eraseIdx j).map V.ref=(us.map V.ref).eraseIdx j:=pZ us j
   refine⟨.non,_,I.lset (its':=its.eraseIdx j) hl e ?_ (er ▸ r.eraseIdx j) ?_,rfl,q⟩
   ·show its.toArray.eraseIdxIfInBounds j=(its.eraseIdx j).toArray
    rw[List.eraseIdxIfInBounds_toArray]
   ·rw[er];have:=mY (us.map V.ref) j
    omega
 ·exact h.elim
theorem R.ja {X:Cx} (hu:X.A.units+64<cLine):XM X "list.remove" jR:=⟨zF hu⟩
end L2
namespace L2
open PySem PySem.Spec PyProof.Rows
section
variable {X:Cx}
def Sy (K:W.Frag):List V->Hp->VK->Prop:=fun vs H Q=>∃(p:Addr) (ns:List Int),vs=[.ref p]/\SqL K H p (ns.map V.int)/\0<ns.length/\∀M:Int,M∈ns->(∀a∈ns,a<=M)->Q (.int M) H
theorem Er (hc:X.calm=true):CallR X (.builtin "max") (Sy X.K):=by
 intro pins s σ H xs us Q I r h;obtain⟨p,ns,rfl,hq,hn,q⟩:=h
 obtain⟨u,rfl,ru⟩:=jE r
 cases ru
 obtain⟨its,rv,pl,hz⟩:=I.list hq
 have hi:=pE rv
 obtain⟨xs,hx⟩:=hi.allInts.items
 have hl':s.heap.IsList p (intItems xs):=hx ▸ pl.isList
 have e1:ns=xs.toList.map (·.1):=by
  rw[<- nums_intItems,<- hx];exact(show numsOf its.toArray.toList=ns from hi.numsOf).symm
 have hsz:ns.length=xs.size:=by rw[e1];simp
 refine max_intList (I.ok.hd hc) hl' Zo fun v h' tk hv hk=>?_
 obtain⟨hle,hmx⟩:=argBest_gt (numAt xs) (xs.size - 1)
 generalize argBest (fun i j=>decide (numAt xs i > numAt xs j)) (xs.size - 1)=k at hv hle hmx
 obtain⟨t,rfl⟩:=intItems_at hv
 have at_:∀j,j<ns.length->numAt xs j=ns.getD j 0:=fun j _=>by rw[numAt_eq,e1]
 refine⟨.int _,H,I.kept hk,⟨_,rfl⟩,q _ ?_ ?_⟩
 ·rw[at_ k Zo,List.getD_eq_getElem?_getD,gZ Zo]
  exact List.getElem_mem _
 ·intro a ha;obtain⟨j,hj,rfl⟩:=List.getElem_of_mem ha
  have:=hmx j Zo
  rw[at_ j hj,List.getD_eq_getElem?_getD,gZ hj]at this;exact this
theorem R.fq {K:W.Frag} (hc:X.calm=true) (hK:X.K=K:=by rfl):XC X (.builtin "max") (Sy K):=hK ▸ ⟨Er hc⟩
end
end L2
namespace L2
open PySem PySem.Spec PyProof.Rows
inductive Dd where
 | add (a:Str) (n:Nat)
 | take (a:Str) (n:Nat)
 | move (a b:Str) (n:Nat)
 | send (h a:Str) (n:Nat)
 | fetch (h a:Str) (n:Nat)
 | pass (h g a:Str) (n:Nat)
namespace Dd
def vs:Dd->List V
 | .add a n=>[.str "add",.str a,.int (n:Int)]
 | .take a n=>[.str "take",.str a,.int (n:Int)]
 | .move a b n=>[.str "move",.str a,.str b,.int (n:Int)]
 | .send h a n=>[.str "send",.str h,.str a,.int (n:Int)]
 | .fetch h a n=>[.str "fetch",.str h,.str a,.int (n:Int)]
 | .pass h g a n=>[.str "pass",.str h,.str g,.str a,.int (n:Int)]
def n:Dd->Nat
 | .add _ n=>n | .take _ n=>n | .move _ _ n=>n | .send _ _ n=>n | .fetch _ _ n=>n | .pass _ _ _ n=>n
def far:Dd->Bool
 | .send _ _ _=>true | .fetch _ _ _=>true | .pass _ _ _ _=>true | _=>false
def Ok:Dd->Prop
 | .add a n=>fE a/\1<=n/\n<=1000000000000
 | .take a n=>fE a/\1<=n/\n<=1000000000000
 | .move a b n=>fE a/\fE b/\a≠b/\1<=n/\n<=1000000000000
 | .send h a n=>fE h/\fE a/\1<=n/\n<=1000000000000
 | .fetch h a n=>fE h/\fE a/\1<=n/\n<=1000000000000
 | .pass h g a n=>fE h/\fE g/\fE a/\h≠g/\1<=n/\n<=1000000000000
theorem Ok.n {d:Dd} (h:d.Ok):1<=d.n/\d.n<=1000000000000:=by
 cases d <;> simp only [Ok]at h <;> simp only [Dd.n] <;> omega
def wd:Dd->Str
 | .add _ _=>"add" | .take _ _=>"take" | .move _ _ _=>"move" | .send _ _ _=>"send" | .fetch _ _ _=>"fetch" | .pass _ _ _ _=>"pass"
end Dd
inductive An where
 | is1 (m:Nat)
 | is2 (l m:Nat)
 | short (m:Nat)
 | full (m:Nat)
 | no (h:Str)
 | ok
namespace An
def vs:An->List V
 | .is1 m=>[.str "is",.int (m:Int)]
 | .is2 l m=>[.str "is",.int (l:Int),.int (m:Int)]
 | .short m=>[.str "short",.int (m:Int)]
 | .full m=>[.str "full",.int (m:Int)]
 | .no h=>[.str "no",.str h]
 | .ok=>[.str "ok"]
def early:An->Bool | .short _=>true | .full _=>true | _=>false
def Of:Dd->An->Prop
 | .add _ n,.is1 m=>n<=m/\m<=1000000000000
 | .add _ n,.full m=>1000000000000<m+n/\m<=1000000000000
 | .take _ n,.is1 m=>m+n<=1000000000000
 | .take _ n,.short m=>m<n
 | .move _ _ n,.is2 l m=>l+n<=1000000000000/\n<=m/\m<=1000000000000
 | .move _ _ n,.short m=>m<n
 | .move _ _ n,.full m=>1000000000000<m+n/\m<=1000000000000
 | .send _ _ n,.is1 m=>m+n<=1000000000000
 | .send _ _ n,.short m=>m<n
 | .send h _ _,.no g=>g=h
 | .fetch _ _ n,.is1 m=>n<=m/\m<=1000000000000
 | .fetch _ _ n,.full m=>1000000000000<m+n/\m<=1000000000000
 | .fetch h _ _,.no g=>g=h
 | .pass h g _ _,.no k=>k=h∨k=g
 | .pass _ _ _ _,.ok=>True
 | _,_=>False
end An
inductive RX where
 | next (n t:Nat)
 | has (z:Str) (m:Nat)
 | kept (n t:Nat) (p k:Str) (d:Dd) (y:An)
 | came (n t:Nat) (p k:Str) (d:Dd)
 | asked (n:Nat)
 | done (n t:Nat) (y:An)
namespace RX
def At (H:Hp) (a:Addr):RX->Prop
 | .next n t=>H a=some (.tup [.str "next",.int (n:Int),.int (t:Int)])
 | .has z m=>H a=some (.tup [.str "has",.str z,.int (m:Int)])
 | .kept n t p k d y=>∃b c,H a=some (.tup [.str "kept",.int (n:Int),.int (t:Int),.str p,.str k,.ref b,.ref c])/\H b=some (.tup d.vs)/\H c=some (.tup y.vs)
 | .came n t p k d=>∃b,H a=some (.tup [.str "came",.int (n:Int),.int (t:Int),.str p,.str k,.ref b])/\H b=some (.tup d.vs)
 | .asked n=>H a=some (.tup [.str "asked",.int (n:Int)])
 | .done n t y=>∃c,H a=some (.tup [.str "done",.int (n:Int),.int (t:Int),.ref c])/\H c=some (.tup y.vs)
theorem At.tk {H H':Hp} {a:Addr} {r:RX} (s:TK H H') (h:r.At H a):r.At H' a:=by
 cases r with
 | next n t=>exact s _ _ h
 | has z m=>exact s _ _ h
 | kept n t p k d y=>obtain⟨b,c,h1,h2,h3⟩:=h;exact⟨b,c,s _ _ h1,s _ _ h2,s _ _ h3⟩
 | came n t p k d=>obtain⟨b,h1,h2⟩:=h;exact⟨b,s _ _ h1,s _ _ h2⟩
 | asked n=>exact s _ _ h
 | done n t y=>obtain⟨b,h1,h2⟩:=h;exact⟨b,s _ _ h1,s _ _ h2⟩
def tvs:List V->TV:=fun xs=>.tp (xs.map TV.sc)
def tv:RX->TV
 | .next n t=>.tp [.sc (.str "next"),.sc (.int (n:Int)),.sc (.int (t:Int))]
 | .has z m=>.tp [.sc (.str "has"),.sc (.str z),.sc (.int (m:Int))]
 | .kept n t p k d y=>.tp [.sc (.str "kept"),.sc (.int (n:Int)),.sc (.int (t:Int)),.sc (.str p),.sc (.str k),tvs d.vs,tvs y.vs]
 | .came n t p k d=>.tp [.sc (.str "came"),.sc (.int (n:Int)),.sc (.int (t:Int)),.sc (.str p),.sc (.str k),tvs d.vs]
 | .asked n=>.tp [.sc (.str "asked"),.sc (.int (n:Int))]
 | .done n t y=>.tp [.sc (.str "done"),.sc (.int (n:Int)),.sc (.int (t:Int)),tvs y.vs]
theorem lQ {H:Hp} {b:Addr} {xs:List V} (g:H b=some (.tup xs)) (hf:∀x∈xs,kY x=true):Jd H 1 (tvs xs) (.ref b):=by
 refine⟨b,xs,rfl,g,?_⟩
 induction xs with
 | nil=>exact .nil
 | cons x xs ih=>
  clear g;refine .cons ⟨rfl,hf x jI⟩ ?_
  have:∀(ys:List V),(∀y∈ys,kY y=true)->Paired (Jd H 0) (ys.map TV.sc) ys:=fun ys h=>by
   induction ys with
   | nil=>exact .nil
   | cons y ys ih=>exact .cons ⟨rfl,h y jI⟩ (ih fun z hz=>h z (oP _ hz))
  exact this xs fun z hz=>hf z (oP _ hz)
theorem Sz (d:Dd):∀x∈d.vs,kY x=true:=by
 intro x hx;cases d <;> simp only [Dd.vs,List.mem_cons,List.not_mem_nil,or_false]at hx <;> rcases hx with rfl | rfl | rfl | rfl | rfl <;> rfl
theorem Ta (y:An):∀x∈y.vs,kY x=true:=by
 intro x hx;cases y <;> simp only [An.vs,List.mem_cons,List.not_mem_nil,or_false]at hx <;> rcases hx with rfl | rfl | rfl | rfl | rfl <;> rfl
theorem At.rep {H:Hp} {a:Addr} {r:RX} (h:r.At H a):Jd H 2 r.tv (.ref a):=by
 cases r with
 | next n t=>exact⟨a,_,rfl,h,.cons ⟨rfl,rfl⟩ (.cons ⟨rfl,rfl⟩ (.cons ⟨rfl,rfl⟩ .nil))⟩
 | has z m=>exact⟨a,_,rfl,h,.cons ⟨rfl,rfl⟩ (.cons ⟨rfl,rfl⟩ (.cons ⟨rfl,rfl⟩ .nil))⟩
 | kept n t p k d y=>
  obtain⟨b,c,h1,h2,h3⟩:=h
  exact⟨a,_,rfl,h1,.cons ⟨rfl,rfl⟩ (.cons ⟨rfl,rfl⟩ (.cons ⟨rfl,rfl⟩ (.cons ⟨rfl,rfl⟩ (.cons ⟨rfl,rfl⟩ (.cons (lQ h2 (Sz d)) (.cons (lQ h3 (Ta y)) .nil))))))⟩
 | came n t p k d=>
  obtain⟨b,h1,h2⟩:=h
  exact⟨a,_,rfl,h1,.cons ⟨rfl,rfl⟩ (.cons ⟨rfl,rfl⟩ (.cons ⟨rfl,rfl⟩ (.cons ⟨rfl,rfl⟩ (.cons ⟨rfl,rfl⟩ (.cons (lQ h2 (Sz d)) .nil)))))⟩
 | asked n=>exact⟨a,_,rfl,h,.cons ⟨rfl,rfl⟩ (.cons ⟨rfl,rfl⟩ .nil)⟩
 | done n t y=>
  obtain⟨b,h1,h2⟩:=h
  exact⟨a,_,rfl,h1,.cons ⟨rfl,rfl⟩ (.cons ⟨rfl,rfl⟩ (.cons ⟨rfl,rfl⟩ (.cons (lQ h2 (Ta y)) .nil)))⟩
def rank:RX->Nat | .next _ _=>0 | .has _ _=>1 | .kept _ _ _ _ _ _=>2 | _=>3
def turn:RX->Nat | .next _ t=>t | .came _ t _ _ _=>t | .done _ t _=>t | _=>0
def Fits (rs:List RX):RX->Prop
 | .next _ _=>rs=[]
 | .has z _=>(∀q∈rs,rank q<=1)/\(∃n t,.next n t∈rs)/\∀z' m,.has z' m∈rs->z'.cps.toList<z.cps.toList
 | .kept n t _ _ d y=>(∀q∈rs,rank q<=2)/\(∃n0 t0,.next n0 t0∈rs/\n<n0/\t<=t0)/\(∀n' t' p' k' d' y',.kept n' t' p' k' d' y'∈rs->n'<n)/\An.Of d y
 | .came n t _ _ _=>(∀n' t' p' k' d',.came n' t' p' k' d'∈rs->n'<n)/\(∀t' p' k' d' y',.kept n t' p' k' d' y'∉rs)/\∀q∈rs,turn q<=t
 | .asked n=>(∃t p k d,.came n t p k d∈rs/\d.far=true)/\.asked n∉rs/\∀t y,.done n t y∉rs
 | .done n t y=>(∀q∈rs,turn q<=t)/\(∀t y,.done n t y∉rs)/\∃t0 p k d,.came n t0 p k d∈rs/\An.Of d y/\(d.far=true->(.asked n∈rs↔y.early=false))
inductive Whole:List RX->Prop
 | nil:Whole []
 | snoc {rs:List RX} {r:RX}:Whole rs->Fits rs r->Whole (rs++[r])
def Ok:RX->Prop
 | .next n t=>1<=n/\n<=1000000/\t<=1000000000000
 | .has z m=>fE z/\1<=m/\m<=1000000000000
 | .kept n t p k d y=>1<=n/\n<=999999/\t<=1000000000000/\fE p/\wU k/\d.Ok/\An.Of d y
 | .came n t p k d=>1<=n/\n<=999999/\t<=1000000000000/\fE p/\wU k/\d.Ok
 | .asked n=>1<=n/\n<=999999
 | .done n t _=>1<=n/\n<=999999/\t<=1000000000000
end RX
structure RxsAt (H:Hp) (ra:Addr) (rs:List RX) (as:List Addr):Prop where
 lst:H ra=some (.lst (as.map V.ref))
 each:Paired (fun r a=>RX.At H a r) rs as
theorem RxsAt.len {H:Hp} {ra:Addr} {rs:List RX} {as:List Addr} (h:RxsAt H ra rs as):rs.length=as.length:=h.each.length
theorem RxsAt.keep {H H':Hp} {ra:Addr} {rs:List RX} {as:List Addr} (h:RxsAt H ra rs as) (s:TK H H') (e:H' ra=some (.lst (as.map V.ref))):RxsAt H' ra rs as:=⟨e,Paired.map' (fun _ _ x=>x.tk s) h.each⟩
theorem RxsAt.same {H H':Hp} {ra:Addr} {rs:List RX} {as:List Addr} (h:RxsAt H ra rs as) (s:Same H H'):RxsAt H' ra rs as:=h.keep s.tk (s _ _ h.lst)
theorem RxsAt.snoc {H H':Hp} {ra:Addr} {rs:List RX} {as:List Addr} {r:RX} {a:Addr} (h:RxsAt H ra rs as) (s:TK H H') (hr:r.At H' a) (e:H' ra=some (.lst (as.map V.ref++[.ref a]))):RxsAt H' ra (rs++[r]) (as++[a]):=
 ⟨by rw[e,iB];rfl,Paired.snoc (Paired.map' (fun _ _ x=>x.tk s) h.each) hr⟩
theorem RxsAt.get {H:Hp} {ra:Addr} {rs:List RX} {as:List Addr} (h:RxsAt H ra rs as) {i:Nat} {v:V} (e:(as.map V.ref)[i]?=some v):∃(a:Addr) (r:RX),v=.ref a/\as[i]?=some a/\rs[i]?=some r/\r.At H a:=by
 rw[jC]at e;cases ha:as[i]? with
 | none=>rw[ha]at e;cases e
 | some a=>
  rw[ha]at e;cases e
  obtain⟨hi,ei⟩:=Zgs.mp ha
  obtain⟨hi',hr⟩:=Paired.get' (j:=i) h.each hi
  rw[ei]at hr;exact⟨a,rs[i],rfl,rfl,gZ hi',hr⟩
theorem RxsAt.rep {H:Hp} {ra:Addr} {rs:List RX} {as:List Addr} (h:RxsAt H ra rs as):Jd H 3 (.ls (rs.map RX.tv)) (.ref ra):=by
 refine⟨ra,_,rfl,h.lst,?_⟩
 have:∀ {rs:List RX} {as:List Addr},Paired (fun r a=>RX.At H a r) rs as->Paired (Jd H 2) (rs.map RX.tv) (as.map V.ref):=by
  intro rs as p;induction p with
  | nil=>exact .nil
  | cons h t ih=>exact .cons h.rep ih
 exact this h.each
theorem RxsAt.nil {H:Hp} {ra:Addr} (h:H ra=some (.lst [])):RxsAt H ra [] []:=⟨h,.nil⟩
end L2
namespace L2
open PySem PySem.Spec PyProof.Rows
def Pw (l:List Stmt) (i:Nat):Stmt:=l.getD i (.Pass ⟨0,0,0,0⟩)
def stT:Stmt->List Stmt | .If _ a _ _=>a | _=>[]
def stE:Stmt->List Stmt | .If _ _ b _=>b | _=>[]
def stB:Stmt->List Stmt | .For _ _ ss _ _=>ss | .While _ ss _ _=>ss | _=>[]
theorem bK {t u:TS} {D:kK} {σ:St} {H:Hp} (R:St->Hp->Prop) (h:∀nx:St->Hp->Prop,(∀ σ' H',R σ' H'->nx σ' H')->t {D with nx:=nx } σ H) (h2:∀ σ' H',R σ' H'->u D σ' H'):yB t u D σ H:=h (u D) h2
theorem Ki {c:TT} {t u:TS} {D:kK} {σ:St} {H:Hp} (R:Bool->Hp->Prop) (h:∀k:Bool->Hp->Prop,(∀v H',R v H'->k v H')->c σ H k) (ht:∀H',R true H'->t D σ H') (hf:∀H',R false H'->u D σ H'):Gb c t u D σ H:=
 h (fun b H1=>if b=true then t D σ H1 else u D σ H1) fun v H' r=>match v,r with | true,r=>ht H' r | false,r=>hf H' r
theorem jS {c:TT} {t u x:TS} {D:kK} {σ:St} {H:Hp} (R:Bool->Hp->Prop) (h:∀k:Bool->Hp->Prop,(∀v H',R v H'->k v H')->c σ H k) (ht:∀H',R true H'->t {D with nx:=x D } σ H') (hf:∀H',R false H'->u {D with nx:=x D } σ H'):yB (Gb c t u) x D σ H:=
 h (fun b H1=>if b=true then t {D with nx:=x D } σ H1 else u {D with nx:=x D } σ H1) fun v H' r=>match v,r with | true,r=>ht H' r | false,r=>hf H' r
end L2
namespace L2
open PySem PySem.Spec PyProof.Rows
section
variable {X:Cx}
def Px (neg:Bool):R2:=fun x y H Q=>mR y fun a=>∃o,DGet H a x o/\Q (.bl (if neg then !o.isSome else o.isSome)) H
theorem Kj (neg:Bool) (hu:X.A.units+1<cLine):OpR X (compareOp (if neg then .NotIn else .In)) (Px neg):=by
 intro pins s σ H x y v u Q I rx ry h;unfold Px at h;rw[dY]at h;obtain⟨a,rfl,o,g,q⟩:=h
 cases ry
 cases neg
 ·exact Zx hu I g rx fun s' I'=>⟨.bl _,H,I',rfl,q⟩
 ·exact As hu I g rx fun s' I'=>⟨.bl _,H,I',rfl,q⟩
theorem R.fh (hu:X.A.units+1<cLine):jF X (compareOp .In) (Px false):=⟨Kj false hu⟩
theorem R.fi (hu:X.A.units+1<cLine):jF X (compareOp .NotIn) (Px true):=⟨Kj true hu⟩
end
end L2
namespace L2
open PySem PySem.Spec PyProof.Rows
def RKS:List (Str × Int):=[("next",0),("has",1),("kept",2),("came",3),("asked",3),("done",3)]
def UAW:List V:=[.str "short",.str "full"]
section
variable {X:Cx}
def Xf:R2:=fun x y H Q=>match x,y with | .int i,.int j=>Q (.bl (decide (i<j))) H | .str i,.str j=>Q (.bl (decide (i.cps.toList<j.cps.toList))) H | _,_=>False
theorem Xg:OpR X (compareOp .Lt) Xf:=by
 intro pins s σ H x y v u Q I rx ry h;unfold Xf at h;split at h
 ·exact Rz pins s σ H _ _ v u Q I rx ry ⟨_,_,rfl,rfl,h⟩
 ·exact Dg pins s σ H _ _ v u Q I rx ry ⟨_,_,rfl,rfl,h⟩
 ·exact h.elim
theorem R.jb:jF X (compareOp .Lt) Xf:=⟨Xg⟩
theorem R.jc:XC X (.builtin "len") (fun vs H Q=>match vs with | [.ref a]=>∃kvs,H a=some (.dK kvs)/\Q (.int kvs.length) H | _=>False):=⟨Dy.imp fun vs H Q h=>by
 split at h
 ·obtain⟨kvs,g,q⟩:=h
  exact⟨_,kvs,rfl,g,q⟩
 ·exact h.elim⟩
end
end L2
namespace L2
open PySem PySem.Spec PyProof.Rows
section
variable {X:Cx}
def Xh:R2:=fun x y H Q=>match x,y with | .int i,.int j=>Q (.bl (decide (j<=i))) H | .str i,.str j=>Q (.bl (!decide (i.cps.toList<j.cps.toList))) H | _,_=>False
theorem Xi:OpR X (compareOp .GtE) Xh:=by
 intro pins s σ H x y v u Q I rx ry h;unfold Xh at h;split at h
 ·exact Sb pins s σ H _ _ v u Q I rx ry ⟨_,_,rfl,rfl,h⟩
 ·obtain⟨t,rfl⟩:=rx
  obtain⟨t',rfl⟩:=ry
  exact P.ge_str (aX I h rfl)
 ·exact h.elim
theorem R.ia:jF X (compareOp .GtE) Xh:=⟨Xi⟩
end
end L2
namespace L2
open PySem PySem.Spec PyProof.Rows
def jT (xs ys:List V):Prop:=∀(j:Nat) (u v:V),xs[j]?=some u->ys[j]?=some v->eC u=true/\eC v=true
theorem zG {xs:List V} (h:jT xs xs):kQ xs xs=true:=by
 unfold kQ;rw[Bool.and_eq_true_iff];refine⟨List.all_eq_true.mpr fun j hj=>?_,Zs⟩
 have hj:j<xs.length:=by simpa using hj
 have e:xs.getD j .non=xs[j]:=by simp [List.getD,hj]
 rw[e];have:=(h j xs[j] xs[j] (gZ hj) (gZ hj)).1
 generalize xs[j]=v at this;cases v <;> first | exact absurd (show false=true from this) Bool.false_ne_true | simp [qY]
section
variable {X:Cx}
theorem Kk {pins:List (Addr × Obj)} {s:Shared} {σ:St} {H:Hp} {a b:Addr} {xs ys:List V} (I:Inv X pins σ H s) (hu:X.A.units+64<cLine) (g1:H a=some (.tup xs)) (g2:H b=some (.tup ys)) (fl:jT xs ys):SeqAt.EqAt X.A.in1 s (.ref a) (.ref b) (kQ xs ys):=by
 by_cases e:a=b
 ·subst e;rw[g1]at g2;cases g2
  rw[zG fl];exact SeqAt.EqAt.same _
 ·obtain⟨its,ri,ti,_⟩:=I.tuple (SqT.of g1)
  obtain⟨its2,ri2,ti2,_⟩:=I.tuple (SqT.of g2)
  have el1:its.length=xs.length:=ri.length.symm
  have el2:its2.length=ys.length:=ri2.length.symm
  have each:∀j (h1:j<its.toArray.size) (h2:j<its2.toArray.size),SeqAt.EqAt X.A.in1.in1 s its.toArray[j] its2.toArray[j] (qY (xs.getD j .non) (ys.getD j .non)):=fun j h1 h2=>by
   rw[eB]at h1 h2;obtain⟨h1',q1⟩:=Paired.get' (j:=j) ri h1
   obtain⟨h2',q2⟩:=Paired.get' (j:=j) ri2 h2
   obtain⟨f1,f2⟩:=fl j xs[j] ys[j] (gZ h1') (gZ h2')
   have e1:xs.getD j .non=xs[j]:=by simp [List.getD,h1']
   have e2:ys.getD j .non=ys[j]:=by simp [List.getD,h2']
   rw[e1,e2];simpa using pF q1 q2 f1 f2
  have e:((List.range (min its.toArray.size its2.toArray.size)).all (fun j=>qY (xs.getD j .non) (ys.getD j .non))&&its.toArray.size == its2.toArray.size)=kQ xs ys:=by
   rw[eB,eB,el1,el2];rfl
  have key:=SeqAt.RcAt.tuples (A:=X.A.in1) (s:=s) ti ti2 (by rw[Eh];omega) each
  rw[e]at key;intro prog w E Q h;unfold eqBool;refine wpAny_holding ?_
  refine wpAny_ite_split (fun hab=>absurd (eq_of_beq hab) (fun z=>by cases z;contradiction)) (fun _=>?_)
  exact wpAny_bind (key prog w E _ (wpAny_truthy_bool h))
def zH (xs:List V) (zs:List (Addr × List V)):Bool:=zs.any fun z=>kQ z.2 xs
def Xj (neg:Bool):R2:=fun x y H Q=>mR x fun a=>mR y fun p=>∃(xs:List V) (zs:List (Addr × List V)),H a=some (.tup xs)/\H p=some (.lst (zs.map fun z=>V.ref z.1))/\(∀z∈zs,H z.1=some (.tup z.2)/\jT z.2 xs)/\Q (.bl (if neg then !zH xs zs else zH xs zs)) H
def eqH (H:Hp) (xs:List V) (v:Value):Bool:=match v with | .ref b=>(match H b with | some (.tup ys)=>kQ ys xs | _=>false) | _=>false
theorem Kl {H:Hp} {xs ys:List V} {b:Addr} (g:H b=some (.tup ys)):eqH H xs (.ref b)=kQ ys xs:=by unfold eqH;dsimp only;rw[g]
theorem zI {zs:List (Addr × List V)}:∀ {us:List Value},Vals (zs.map fun z=>V.ref z.1) us->us=zs.map fun z=>Value.ref z.1:=by
 induction zs with
 | nil=>intro us r;cases r;rfl
 | cons z zs ih=>intro us r;cases r with | cons r t=>rw[ih t];cases r;rfl
theorem Xk (neg:Bool) (hu:X.A.units+64<cLine):OpR X (compareOp (if neg then .NotIn else .In)) (Xj neg):=by
  intro pins s σ H x y v u Q I rx ry h;unfold Xj at h;rw[dY]at h;obtain⟨a,rfl,h⟩:=h
  rw[dY]at h;obtain⟨p,rfl,xs,zs,g1,g2,hz,q⟩:=h
  cases rx
  cases ry
  obtain⟨its,r,pl,_⟩:=I.list (SqL.of g2)
  have ei:=zI r
  have he:∀w,w∈its.toArray->SeqAt.EqAt X.A.in1 s w (.ref a) (eqH H xs w):=fun w hw=>by
    have hw:w∈its:=by simpa using hw
    rw[ei]at hw;obtain⟨z,hm,rfl⟩:=Zmm.mp hw
    rw[Kl (hz z hm).1];exact Kk I hu (hz z hm).1 g1 (hz z hm).2
  have ea:its.toArray.any (eqH H xs)=zH xs zs:=by
    rw[ei];unfold zH;rw[List.any_toArray,List.any_map];have:∀zs:List (Addr × List V),(∀z∈zs,H z.1=some (.tup z.2)/\jT z.2 xs)->zs.any (eqH H xs∘fun z=>Value.ref z.1)=zs.any fun z=>kQ z.2 xs:=fun zs hz=>by
     induction zs with
     | nil=>rfl
     | cons z zs ih=>
      rw[List.any_cons,List.any_cons,ih fun y hy=>hz y (oP _ hy)]
      congr 1
      exact Kl (hz z jI).1
    exact this zs hz
  cases neg
  . refine SeqAt.in_listAt _ pl.isList he ⟨.bl _,H,I,rfl,?_⟩
    rw[ea];exact q
  . refine SeqAt.notIn_listAt _ pl.isList he ⟨.bl _,H,I,rfl,?_⟩
    rw[ea];exact q
theorem R.jd (hu:X.A.units+64<cLine):jF X (compareOp .NotIn) (Xj true):=⟨Xk true hu⟩
end
end L2
namespace KL
open PySem L2
def eL (i:Nat):Stmt:=PySem.Challenge.pw_oncedoor_k74_rows_not_whole.main.body.getD i (.Pass ⟨0,0,0,0⟩)
abbrev bG:Stmt:=eE (eL 19) 0
abbrev kB:Stmt:=eL 24
abbrev iI:Stmt:=eL 25
abbrev eF:Stmt:=eL 26
abbrev kC:Stmt:=eL 28
abbrev dC:Stmt:=eL 29
abbrev oV:Stmt:=eL 31
abbrev uV:Stmt:=eL 32
abbrev dP:Stmt:=eL 33
abbrev fO:Stmt:=eL 34
abbrev fG:Stmt:=eL 35
abbrev kF:Stmt:=eL 36
abbrev oW:Stmt:=eL 37
abbrev gE:Stmt:=eL 38
abbrev eG:Stmt:=eL 39
abbrev cC:Stmt:=eE (eL 41) 0
abbrev eW:Stmt:=eE (eL 41) 1
abbrev jU:Stmt:=eE (eL 41) 2
abbrev eX:Stmt:=eE (eL 41) 3
abbrev cD:Stmt:=eE (eL 45) 0
abbrev gF:Stmt:=eE (eL 45) 1
abbrev fP:Stmt:=eE (eL 45) 2
abbrev dH:Stmt:=eE (eL 45) 3
abbrev cS:Stmt:=eE (eL 45) 4
abbrev gG:Stmt:=eE (eL 45) 5
abbrev gH:Stmt:=eL 46
abbrev fQ:Stmt:=eL 47
abbrev eI:Stmt:=eL 48
abbrev eY:Stmt:=eL 50
abbrev cW:Stmt:=eL 51
abbrev iJ:Stmt:=eL 53
abbrev iK:Stmt:=eL 54
abbrev cT:Stmt:=eL 55
abbrev kG:Stmt:=eL 56
abbrev iM:Stmt:=eL 57
abbrev fH:Stmt:=eL 58
abbrev fR:Stmt:=eL 59
abbrev gJ:Stmt:=eL 60
abbrev iO:Stmt:=eL 61
abbrev iP:Stmt:=eL 62
abbrev iQ:Stmt:=eL 63
abbrev bR:Stmt:=eL 64
abbrev fS:Stmt:=eL 65
abbrev iR:Stmt:=eL 66
abbrev bS:Stmt:=eL 67
abbrev bI:Stmt:=eL 68
abbrev hU:Stmt:=eL 69
abbrev bX:Stmt:=eL 70
abbrev dI:Stmt:=eL 71
abbrev cM:Stmt:=eL 72
abbrev dR:Stmt:=eL 73
abbrev cN:Stmt:=eL 74
abbrev fT:Stmt:=eL 75
abbrev dJ:Stmt:=eL 76
abbrev gK:Stmt:=eL 77
abbrev lR:Stmt:=eL 78
theorem eO {N P:List Str} {sc:Scope} (a:sc.kind=.function:=by rfl) (b:sc.isCoroutine=false:=by rfl) (c:sc.isGenerator=false:=by rfl) (d:N.Nodup:=by decide +kernel) (e:N.take P.length=P:=by rfl) (f:∀x∈P,sc.names.lookup x=some .local∨sc.names.lookup x=some .cell:=by decide +kernel) (g:∀y∈sc.names,y.2≠.free:=by decide +kernel):aJ N P sc:=⟨a,b,c,d,e,f,g⟩
theorem lA:aJ ["self","row"] ["self","row"] (aB bG):=eO
theorem zJ:aJ ["thing"] ["thing"] (aB kB):=eO
theorem xB:aJ ["thing","least","most"] ["thing","least","most"] (aB iI):=eO
theorem rE:aJ ["thing","signs","longest"] ["thing","signs","longest"] (aB eF):=eO
theorem lB:aJ ["deed","add","take"] ["deed"] (aB kC):=eO
theorem jH:aJ ["deed"] ["deed"] (aB dC):=eO
theorem lS:aJ ["book","deed","name","by","amount"] ["book","deed"] (aB oV):=eO
theorem Bo:aJ ["book","deed","heard","asks"] ["book","deed","heard"] (aB uV):=eO
theorem qA:aJ ["book","deed"] ["book","deed"] (aB dP):=eO
theorem rF:aJ ["deed","answer"] ["deed","answer"] (aB fO):=eO
theorem iU:aJ ["deed","thing","word","bounds"] ["deed","thing"] (aB fG):=eO
theorem zK:aJ ["thing"] ["thing"] (aB kF):=eO
theorem Km:aJ ["answer"] ["answer"] (aB oW):=eO
theorem dL:aJ ["deed","n","left","come","short","full"] ["deed"] (aB gE):=eO
theorem rG:aJ ["things","bounds"] ["things","bounds"] (aB eG):=eO
theorem nK:aJ ["self","rows"] ["self","rows"] (aB cC):=eO
theorem qB:aJ ["self","name"] ["self","name"] (aB eW):=eO
theorem Py:aJ ["self"] ["self"] (aB jU):=eO
theorem dD:aJ ["self","changes","name","by"] ["self","changes"] (aB eX):=eO
theorem nM:aJ ["self"] ["self"] (aB cD):=eO
theorem lT:aJ ["self","row","word"] ["self","row"] (aB gF):=eO
theorem rH:aJ ["self","row"] ["self","row"] (aB fP):=eO
theorem gL:aJ ["self","row","ahead"] ["self","row"] (aB dH):=eO
theorem dN:aJ ["self","row","deed","was_asked"] ["self","row"] (aB cS):=eO
theorem lU:aJ ["self","row","word"] ["self","row"] (aB gG):=eO
theorem fU:aJ ["rows","walk","place","row"] ["rows"] (aB gH):=eO
theorem gU:aJ ["rows","word","told","row"] ["rows","word"] (aB fQ):=eO
theorem rJ:aJ ["rows"] ["rows"] (aB eI):=eO
theorem bY:aJ ["rows","odd","came","book","place","row","deed"] ["rows"] (aB eY):=eO
theorem hV:aJ ["book","deed","known"] ["book","deed"] (aB cW):=eO
theorem xC:aJ ["_law_script"] ["_law_script"] (aB iJ):=eO
theorem fJ:aJ ["_law_deck_here","_law_many","_law_cell","_law_number"] ["_law_deck_here","_law_many"] (aB iK):=eO
theorem cY:aJ ["_law_deck_here","_law_signs","_law_longest","_law_many","_law_word","_law_size","_law_at","_law_first","_law_ends"] ["_law_deck_here","_law_signs","_law_longest","_law_many"] (aB cT):=eO
theorem zL:aJ ["_law_deck_here","_law_many"] ["_law_deck_here","_law_many"] (aB kG):=eO
theorem bV:aJ ["_law_deck_here","_law_names","_law_houses","_law_amount","_law_at","_law_name","_law_other","_law_spot_here","_law_house","_law_there","_law_some"] ["_law_deck_here","_law_names","_law_houses"] (aB iM):=eO
theorem iV:aJ ["_law_deed_here","_law_asked","_law_words_here","_law_some"] ["_law_deed_here","_law_asked"] (aB fH):=eO
theorem eZ:aJ ["_law_deck_here","_law_deed_here","_law_word","_law_amount","_law_low","_law_high"] ["_law_deck_here","_law_deed_here","_law_word"] (aB fR):=eO
theorem iW:aJ ["_law_deck_here","_law_letters","_law_menus_here"] ["_law_deck_here"] (aB gJ):=eO
theorem xD:aJ ["_law_deck_here","_law_menus_here"] ["_law_deck_here","_law_menus_here"] (aB iO):=eO
theorem gM:aJ ["_law_deck_here","_law_menus_here","_law_number","_law_turn","_law_deed_here","_law_words_here","_law_answer_here"] ["_law_deck_here","_law_menus_here","_law_number","_law_turn"] (aB iP):=eO
theorem cR:aJ ["_law_deck_here","_law_menus_here","_law_number","_law_turn","_law_rows","_law_name","_law_last","_law_k"] ["_law_deck_here","_law_menus_here"] (aB iQ):=eO
theorem aY:aJ ["_law_deck_here","_law_rows","_law_menus_here","_law_many","_law_shut","_law_under","_law_number","_law_turn","_law_k","_law_way","_law_deed_here","_law_one","_law_words_here","_law_answer_here"] ["_law_deck_here","_law_rows","_law_menus_here","_law_many"] (aB bR):=eO
theorem gV:aJ ["_law_deck_here","_law_menus_here","_law_rows"] ["_law_deck_here","_law_menus_here"] (aB fS):=eO
theorem jV:aJ ["_law_deed_here","_law_answer_here","_law_amount","_law_word"] ["_law_deed_here","_law_answer_here"] (aB iR):=eO
theorem nN:aJ ["_law_row","_law_ahead"] ["_law_row","_law_ahead"] (aB bS):=eO
theorem bW:aJ ["_law_row","_law_ahead","_law_same","_law_came","_law_words_here","_law_deed_here","_law_far"] ["_law_row","_law_ahead"] (aB bI):=eO
theorem dE:aJ ["_law_rows","_law_k","_law_row","_law_ahead","_law_good","_law_turns"] ["_law_rows"] (aB hU):=eO
theorem fM:aJ ["_law_deck_here","_law_rows","_law_row","_law_some"] ["_law_deck_here","_law_rows","_law_row"] (aB bX):=eO
theorem gN:aJ ["_law_deck_here","_law_rows","_law_row","_law_turn"] ["_law_deck_here","_law_rows","_law_row"] (aB dI):=eO
theorem cF:aJ ["_law_deck_here","_law_rows","_law_row","_law_menus_here","_law_deeds","_law_deed_here","_law_words_here","_law_word"] ["_law_deck_here","_law_rows","_law_row","_law_menus_here"] (aB cM):=eO
theorem hW:aJ ["_law_deck_here","_law_rows","_law_row","_law_menus_here","_law_way"] ["_law_deck_here","_law_rows","_law_row","_law_menus_here"] (aB dR):=eO
theorem aS:aJ ["_law_deck_here","_law_rows","_law_menus_here","_law_numbers","_law_number","_law_turn","_law_name","_law_some","_law_deed_here","_law_words_here","_law_answer_here"] ["_law_deck_here","_law_rows","_law_menus_here"] (aB cN):=eO
theorem cZ:aJ ["_law_deck_here","_law_rows","_law_menus_here","_law_way","_law_at","_law_rest","_law_to","_law_other"] ["_law_deck_here","_law_rows","_law_menus_here"] (aB fT):=eO
theorem lV:aJ ["_law_error"] ["_law_error"] (aB dJ):=eO
theorem cG:aJ ["_law_rows","_law_due_here","_law_kept_here","_law_found","_law_error","e"] ["_law_rows"] (aB gK):=eO
theorem qC:aJ ["_law_script","_law_deck_here","_law_menus_here","_law_rows","_law_turn"] ["_law_script"] (aB lR):=eO
structure Txt (K:W.Frag) (mg:Str->Option Value):Prop where
 b_isinstance:mg "isinstance"=none
 b_int:mg "int"=none
 b_bool:mg "bool"=none
 b_str:mg "str"=none
 b_len:mg "len"=none
 b_all:mg "all"=none
 b_tuple:mg "tuple"=none
 b_zip:mg "zip"=none
 b_enumerate:mg "enumerate"=none
 b_sum:mg "sum"=none
 b_list:mg "list"=none
 b_range:mg "range"=none
 b_sorted:mg "sorted"=none
 b_max:mg "max"=none
 b_dict:mg "dict"=none
 b_ValueError:mg "ValueError"=none
 g_LETTERS:∃t,mg "LETTERS"=some (.str ("abcdefghijklmnopqrstuvwxyz") t)
 g_LONGEST_NAME:∃t,mg "LONGEST_NAME"=some (.int (8) t)
 g_MOST:∃t,mg "MOST"=some (.int (1000000000000) t)
structure Top (Pm:Params) (K:W.Frag) (mg:Str->Option Value):Prop where
 g_RANKS:∃a,mg "RANKS"=some (.ref a)/\KTab K Pm a (RKS)
 g_UNASKED_WORDS:∃a,mg "UNASKED_WORDS"=some (.ref a)/\∀H,SqT K H a (UAW)
section
variable {P:Program} {w:World} {K:W.Frag} {mg:Str->Option Value} {base:Heap}
theorem Pz (T:Txt K mg) (D:DefAt K mg "is_made_of" eF ["thing","signs","longest"]):aG P w K mg base 1 "is_made_of" ["thing","signs","longest"] Iz:=by
 refine D.go rE (fun vs H Q E h=>?_) (fun f cdv A outer s H vs Q E hr h=>?_)
 ·obtain⟨x,sg,n,k,rfl,_⟩:=h;rfl
 ·obtain⟨x,sg,n,k,rfl,hk,hz,q⟩:=h
  refine⟨_,(R.ae (R.ar (R.tw (R.bo (R.cf (R.bn (R.dm .str (R.v 0) rfl T.b_isinstance rfl T.b_str Iu))) (R.cg (R.cf (R.je R.le R.le R.ac (R.ax R.ft rfl T.b_len aO (R.aa (R.v 0) R.ad)) (R.v 2)))))) (R.ah (R.ai R.bl)) R.au) (R.ah (R.ai (R.ax (R.jf (K:=K) rfl) rfl T.b_all Ir (R.aa (R.bi rfl (js:=[none,some 1]) (N:=["sign","signs"]) (CompScope.by (aB eF) ["thing","signs","longest"] rfl rfl Zk) (aP rfl) (R.wS (R.v 0)) (fun C s₂ H₂ fp=>⟨(R.gn (i:=0) (show(["sign","signs"]:List Str).Nodup by decide +kernel)),R.dn,(R.aw R.jn (R.v 0) (R.v 1))⟩)) R.ad))))),?_⟩
  have no:isK .str k=false->jN x sg.cps.toList n=false:=fun e=>by
   cases x <;> first | rfl | (cases k <;> first | exact hk.elim | cases e)
  refine⟨k,hk,?_⟩
  cases x with
  | str z=>
   cases k <;> first | exact hk.elim | skip
   have hz1:=hz z rfl
   refine⟨fA hz1,?_⟩
   refine aQ (fun h1=>?_) (fun h1=>?_)
   ·refine aQ (fun h2=>?_) (fun h2=>?_)
    ·have e:jN (.str z) sg.cps.toList n=false:=by
      rw[iF];have h2':decide ((z.length:Int)<=n)=false:=by simpa using h2
      rw[h2'];simp
     have h:=q H (Same.refl H)
     rw[e]at h;exact h
    ·refine⟨z,rfl,Ec (Pe z) (by simp [sE,Str.length]at hz1 ⊢;omega) (fun _=>true) (fun v=>match v with | .str y=>.bl (decide (y.cps.toList.headD 0∈sg.cps.toList)) | _=>.non) trivial (fun v ys N hv ht hf=>?_) ?_⟩
     ·obtain⟨c,hc,rfl⟩:=Zmm.mp hv
      exact⟨c,rfl,ht rfl⟩
     ·intro p hp;refine⟨p,z.cps.toList.map (fun c=>decide (c∈sg.cps.toList)),rfl,SqL.of (by rw[aA,List.filter_eq_self.mpr (fun _ _=>rfl)];unfold sE;rw[List.map_map,List.map_map];rfl),?_⟩
      have e:jN (.str z) sg.cps.toList n=List.all (z.cps.toList.map (fun c=>decide (c∈sg.cps.toList))) id:=by
       rw[iF];have h2':decide ((z.length:Int)<=n)=true:=by simpa using h2
       have h1':decide (1<=(z.length:Int))=true:=h1
       rw[h2',h1',List.all_map];simp [Function.comp_def]
      rw[<- e];exact q _ (fun c o e=>by rw[aD (aE e hp)];exact e)
   ·have e:jN (.str z) sg.cps.toList n=false:=by
     rw[iF];have h1':decide (1<=(z.length:Int))=false:=h1
     rw[h1'];simp
    have h:=q H (Same.refl H)
    rw[e]at h;exact h
  | _=>
   cases k <;> first | exact hk.elim | exact q H (Same.refl H)
theorem zM (T:Txt K mg) (c_is_made_of:aG P w K mg base 1 "is_made_of" ["thing","signs","longest"] Iz) (D:DefAt K mg "is_name" kB ["thing"]):aG P w K mg base 2 "is_name" ["thing"] (Ja LET 8):=by
 refine D.go zJ (fun vs H Q E h=>?_) (fun f cdv A outer s H vs Q E hr h=>?_)
 ·obtain⟨x,k,rfl,_⟩:=h;rfl
 ·obtain⟨x,k,rfl,hk,hz,q⟩:=h
  have hr_is_made_of:=hr
  refine⟨_,(R.ah (R.ai (R.fn c_is_made_of hr_is_made_of rfl (R.aa (R.v 0) (R.aa (R.gS rfl T.g_LETTERS) (R.aa (R.gI rfl T.g_LONGEST_NAME) R.ad)))))),?_⟩
  refine⟨x,_,8,k,rfl,hk,hz,fun H' s'=>?_⟩
  rw[yW];exact q H' s'
theorem Kn (T:Txt K mg) (D:DefAt K mg "is_whole" iI ["thing","least","most"]):aG P w K mg base 1 "is_whole" ["thing","least","most"] Bh:=by
 refine D.go xB (fun vs H Q E h=>?_) (fun f cdv A outer s H vs Q E hr h=>?_)
 ·obtain⟨x,lo,hi,rfl,_⟩:=h;rfl
 ·obtain⟨x,lo,hi,rfl,⟨k,hk,hz⟩,q⟩:=h
  refine⟨_,(R.ae (R.ar (R.tw (R.bo (R.cf (R.bn (R.dm .int (R.v 0) rfl T.b_isinstance rfl T.b_int uD))) (R.cg (R.bn (R.dm .bl (R.v 0) rfl T.b_isinstance rfl T.b_bool uE))))) (R.ah (R.ai R.bl)) R.au) (R.ah (R.ai (R.jg R.le R.le (R.v 1) (R.v 0) (R.v 2))))),?_⟩
  have h:=q H (Same.refl H)
  refine⟨k,hk,?_⟩
  cases x with
  | int n=>
   cases k <;> first | exact hk.elim | skip
   refine⟨.int,trivial,?_⟩
   show if decide (lo<=n)=true then _ else _
   have e:yX lo hi (.int n)=(decide (lo<=n)&&decide (n<=hi)):=rfl
   refine aQ (fun h1=>?_) (fun h1=>?_)
   ·rw[e,h1,Bool.true_and]at h;exact h
   ·rw[e,h1,Bool.false_and]at h;exact h
  | bl b=>
   cases k <;> first | exact hk.elim | skip
   exact⟨.bl,trivial,h⟩
  | _=>cases k <;> first | exact hk.elim | exact h
theorem Qa (T:Txt K mg) (D:DefAt K mg "asks_of" kC ["deed"]):aG P w K mg base 1 "asks_of" ["deed"] kZ:=by
 refine D.go lB (fun vs H Q E h=>?_) (fun f cdv A outer s H vs Q E hr h=>?_)
 ·obtain⟨p,wd,xs,cs,as,rfl,_⟩:=h;rfl
 ·obtain⟨p,wd,xs,cs,as,rfl,hp,⟨one,other,nm,n,hd⟩,q⟩:=h
  refine⟨_,(R.ae (R.ao (i:=1) lB.nd (R.aq (R.aa R.af (R.aa (R.ix (R.ag (K:=K)) (R.v 0) (R.bf R.ac)) (R.aa (R.ix (R.ag (K:=K)) (R.v 0) (R.bf R.ac)) R.ad))))) (R.ae (R.ao (i:=2) lB.nd (R.aq (R.aa R.af (R.aa (R.ix (R.ag (K:=K)) (R.v 0) (R.bf R.ac)) (R.aa (R.ix (R.ag (K:=K)) (R.v 0) (R.bf R.ac)) R.ad))))) (R.ae (R.ar (R.al R.eq (R.ix (R.ag (K:=K)) (R.v 0) R.ac) R.af) (R.ah (R.ai (R.aq (R.aa (R.aq (R.aa (R.ix (R.ag (K:=K)) (R.v 0) R.ac) (R.aa (R.v 1) R.ad))) R.ad)))) R.au) (R.ae (R.ar (R.al R.eq (R.ix (R.ag (K:=K)) (R.v 0) R.ac) R.af) (R.ah (R.ai (R.aq (R.aa (R.aq (R.aa (R.ix (R.ag (K:=K)) (R.v 0) R.ac) (R.aa (R.v 2) R.ad))) R.ad)))) R.au) (R.ae (R.ar (R.al R.eq (R.ix (R.ag (K:=K)) (R.v 0) R.ac) R.af) (R.ah (R.ai (R.aq (R.aa (R.aq (R.aa (R.ix (R.ag (K:=K)) (R.v 0) R.ac) (R.aa (R.v 2) R.ad))) (R.aa (R.aq (R.aa (R.ix (R.ag (K:=K)) (R.v 0) R.ac) (R.aa (R.v 1) R.ad))) R.ad))))) R.au) (R.ah (R.ai (R.aq R.ad)))))))),?_⟩
  cases hd
  all_goals
   refine⟨_,SqT.of hp,_,rfl,_,SqT.of hp,_,rfl,Zs,fun p1 H1 s1 g1=>⟨_,SqT.of (s1 _ _ hp),_,rfl,_,SqT.of (s1 _ _ hp),_,rfl,Zs,fun p2 H2 s2 g2=>?_⟩⟩
   have hp2:=(s1.trans s2) _ _ hp
   refine⟨_,SqT.of hp2,_,rfl,?_⟩
  case send=>exact⟨_,SqT.of hp2,_,rfl,Zs,fun p3 H3 s3 g3=>⟨Zs,fun p4 H4 s4 g4=>q p4 _ H4 (((s1.trans s2).trans s3).trans s4) g4 (.cons ⟨p3,p1,rfl,s4 _ _ g3,s4 _ _ (s3 _ _ (s2 _ _ g1))⟩ .nil)⟩⟩
  all_goals refine⟨_,SqT.of hp2,_,rfl,?_⟩
  case fetch=>exact⟨_,SqT.of hp2,_,rfl,Zs,fun p3 H3 s3 g3=>⟨Zs,fun p4 H4 s4 g4=>q p4 _ H4 (((s1.trans s2).trans s3).trans s4) g4 (.cons ⟨p3,p2,rfl,s4 _ _ g3,s4 _ _ (s3 _ _ g2)⟩ .nil)⟩⟩
  all_goals refine⟨_,SqT.of hp2,_,rfl,?_⟩
  case pass=>
   refine⟨_,SqT.of hp2,_,rfl,Zs,fun p3 H3 s3 g3=>⟨_,SqT.of (s3 _ _ hp2),_,rfl,Zs,fun p4 H4 s4 g4=>⟨Zs,fun p5 H5 s5 g5=>?_⟩⟩⟩
   exact q p5 _ H5 ((((s1.trans s2).trans s3).trans s4).trans s5) g5 (.cons ⟨p3,p2,rfl,s5 _ _ (s4 _ _ g3),s5 _ _ (s4 _ _ (s3 _ _ g2))⟩ (.cons ⟨p4,p1,rfl,s5 _ _ g4,s5 _ _ (s4 _ _ (s3 _ _ (s2 _ _ g1)))⟩ .nil))
  all_goals exact⟨Zd,fun p3 H3 s3 g3=>q p3 [] H3 ((s1.trans s2).trans s3) g3 .nil⟩
theorem zN (T:Txt K mg) (D:DefAt K mg "word_of" kF ["thing"]):aG P w K mg base 1 "word_of" ["thing"] wP:=by
 refine D.go zK (fun vs H Q E h=>?_) (fun f cdv A outer s H vs Q E hr h=>?_)
 ·obtain⟨x,rfl,_⟩:=h;rfl
 ·obtain⟨x,rfl,hx,q⟩:=h
  refine⟨_,(R.ae (R.ar (R.tw (R.bo (R.cf (R.bn (R.dm .tup (R.v 0) rfl T.b_isinstance rfl T.b_tuple wG))) (R.bo (R.al R.eq (R.ax (R.ba (K:=K)) rfl T.b_len aO (R.aa (R.v 0) R.ad)) R.ac) (R.cg (R.cf (R.bn (R.dm .str (R.ix (R.ag (K:=K)) (R.v 0) R.ac) rfl T.b_isinstance rfl T.b_str Iu))))))) (R.ah (R.ai R.bu)) R.au) (R.ah (R.ai (R.ix (R.ag (K:=K)) (R.v 0) R.ac)))),?_⟩
  rcases hx.1 with⟨hf,_⟩ | ⟨a,ys,rfl,h | h⟩ | ⟨a,kvs,rfl,h⟩
  ·cases x with
   | non=>exact⟨.non,trivial,q⟩
   | bl _=>exact⟨.bl,trivial,q⟩
   | int _=>exact⟨.int,trivial,q⟩
   | str _=>exact⟨.str,trivial,q⟩
   | _=>exact absurd (show false=true from hf) Bool.false_ne_true
  ·refine⟨.lst,.inl ⟨ys,h⟩,?_⟩
   have e:jQ H (.ref a)=.non:=by unfold jQ jP;dsimp only;rw[h]
   rw[e]at q;exact q
  ·refine⟨.tup,⟨ys,h⟩,ys,.inr (SqT.of h),?_⟩
   have e0:jQ H (.ref a)=Su ys:=by unfold jQ;rw[pY h]
   rw[e0]at q;obtain⟨_,hp⟩:=hx.2 a ys rfl h
   cases ys with
   | nil=>exact q
   | cons y r=>
    have e1:mW (y::r) ((0:Nat):Int)=some y:=bJ rfl
    refine⟨y::r,SqT.of h,y,e1,?_⟩
    obtain⟨k,hk⟩:=(hp y jI).kd
    refine⟨k,hk,?_⟩
    cases y with
    | str u=>
     cases k <;> first | exact hk.elim | skip
     exact⟨_,SqT.of h,_,e1,q⟩
    | non=>cases k <;> first | exact hk.elim | exact q
    | bl _=>cases k <;> first | exact hk.elim | exact q
    | int _=>cases k <;> first | exact hk.elim | exact q
    | ref _=>cases k <;> first | exact hk.elim | exact q
    | _=>cases k <;> exact hk.elim
  ·refine⟨.dct,⟨kvs,h⟩,?_⟩
   have e:jQ H (.ref a)=.non:=by unfold jQ jP;dsimp only;rw[h]
   rw[e]at q;exact q
theorem Ko (T:Txt K mg) (c_is_name:aG P w K mg base 2 "is_name" ["thing"] (Ja LET 8)) (D:DefAt K mg "is_no" oW ["answer"]):aG P w K mg base 3 "is_no" ["answer"] Jy:=by
 refine D.go Km (fun vs H Q E h=>?_) (fun f cdv A outer s H vs Q E hr h=>?_)
 ·obtain⟨a,xs,rfl,_⟩:=h;rfl
 ·obtain⟨a,xs,rfl,h,hp,q⟩:=h
  have hr_is_name:=hr
  refine⟨_,(R.ah (R.ai (R.be (R.aw R.eq (R.ax (R.ba (K:=K)) rfl T.b_len aO (R.aa (R.v 0) R.ad)) R.ac) (R.bb (R.fn c_is_name hr_is_name rfl (R.aa (R.ix (R.ag (K:=K)) (R.v 0) R.ac) R.ad)))))),?_⟩
  refine⟨xs,.inr (SqT.of h),?_⟩
  match xs,h,hp,q with
  | [],h,hp,q=>exact q H (Same.refl _)
  | [_],h,hp,q=>exact q H (Same.refl _)
  | [x,y],h,hp,q=>
   obtain⟨k,hk⟩:=(hp y Zs).kd
   refine⟨_,SqT.of h,y,rfl,y,k,rfl,hk,?_,fun H' s'=>q H' s'⟩
   intro z e;subst e;rcases hp (.str z) Zs with⟨_,h⟩ | ⟨_,_,e,_⟩ | ⟨_,_,e,_⟩
   ·exact h z rfl
   ·cases e
   ·cases e
  | x::y::z::r,h,hp,q=>
   exact q H (Same.refl _)
theorem oX {H:Hp}:∀ {L:List (Str × List (Int × Int))} {kvs:List (bA × V)},Paired (fun a b=>b.1=Sum.inr a.1/\wO H (some a.2) (some b.2)) L kvs->∀u:Str,wO H (L.lookup u) (bC kvs (Sum.inr u))
 | _,_,.nil,u=>rfl
 | a::L,b::kvs,.cons h t,u=>by
  rw[List.lookup_cons];by_cases e:u=a.1
  ·subst e;rw[beq_self_eq_true,cJ h.1];exact h.2
  ·have hb:(u == a.1)=false:=beq_eq_false_iff_ne.mpr e
   rw[hb,cK (by rw[h.1];intro z;exact e (Sum.inr.inj z).symm)]
   exact oX t u
theorem mk2 {a b:Str} (h:([Sum.inr a,Sum.inr b]:List bA).Nodup) (x y:V):bD [] [(Sum.inr a,x),(Sum.inr b,y)]=[(Sum.inr a,x),(Sum.inr b,y)]:=kA _ _ h fun _ _=>rfl
theorem mk3 {a b c:Str} (h:([Sum.inr a,Sum.inr b,Sum.inr c]:List bA).Nodup) (x y z:V):bD [] [(Sum.inr a,x),(Sum.inr b,y),(Sum.inr c,z)]=[(Sum.inr a,x),(Sum.inr b,y),(Sum.inr c,z)]:=kA _ _ h fun _ _=>rfl
theorem Es (T:Txt K mg) (D:DefAt K mg "bounds_of" gE ["deed"]):aG P w K mg base 1 "bounds_of" ["deed"] wQ:=by
 refine D.go dL (fun vs H Q E h=>?_) (fun f cdv A outer s H vs Q E hr h=>?_)
 ·obtain⟨p,wd,n,xs,as,rfl,_⟩:=h;rfl
 ·obtain⟨p,wd,n,xs,as,rfl,hp,⟨⟨one,other,nm,cs,hd⟩,_⟩,q⟩:=h
  refine⟨_,(R.ae (R.ao (i:=1) dL.nd (R.ix (R.ag (K:=K)) (R.v 0) (R.bf R.ac))) (R.ae (R.ao (i:=2) dL.nd (R.aq (R.aa R.ac (R.aa (R.op R.bv (R.gI rfl T.g_MOST) (R.v 1)) R.ad)))) (R.ae (R.ao (i:=3) dL.nd (R.aq (R.aa (R.v 1) (R.aa (R.gI rfl T.g_MOST) R.ad)))) (R.ae (R.ao (i:=4) dL.nd (R.aq (R.aa R.ac (R.aa (R.op R.bv (R.v 1) R.ac) R.ad)))) (R.ae (R.ao (i:=5) dL.nd (R.aq (R.aa (R.op R.ay (R.op R.bv (R.gI rfl T.g_MOST) (R.v 1)) R.ac) (R.aa (R.gI rfl T.g_MOST) R.ad)))) (R.ae (R.ar (R.al R.eq (R.ix (R.ag (K:=K)) (R.v 0) R.ac) R.af) (R.ah (R.ai R.dq)) R.au) (R.ae (R.ar (R.al R.eq (R.ix (R.ag (K:=K)) (R.v 0) R.ac) R.af) (R.ah (R.ai (R.fu (R.cv R.af (R.aq (R.aa (R.v 2) (R.aa (R.v 3) R.ad))) (R.cv R.af (R.aq (R.aa (R.v 4) R.ad)) (R.cv R.af (R.aq (R.aa (R.v 5) R.ad)) R.gs)))))) R.au) (R.ae (R.ar (R.al (R.bc (K:=K)) (R.ix (R.ag (K:=K)) (R.v 0) R.ac) (R.aq (R.aa R.af (R.aa R.af R.ad)))) (R.ah (R.ai (R.fu (R.cv R.af (R.aq (R.aa (R.v 2) R.ad)) (R.cv R.af (R.aq (R.aa (R.v 4) R.ad)) R.gs))))) R.au) (R.ah (R.ai (R.fu (R.cv R.af (R.aq (R.aa (R.v 3) R.ad)) (R.cv R.af (R.aq (R.aa (R.v 5) R.ad)) R.gs))))))))))))),?_⟩
  have el:mW xs (-1)=some (.int n):=by cases hd <;> rfl
  refine⟨_,SqT.of hp,_,el,?_⟩
  dsimp only [aK];refine⟨Zs,fun p1 H1 s1 g1=>⟨Zs,fun p2 H2 s2 g2=>⟨Zs,fun p3 H3 s3 g3=>⟨Zs,fun p4 H4 s4 g4=>?_⟩⟩⟩⟩
  have s04:=((s1.trans s2).trans s3).trans s4
  have hp4:=s04 _ _ hp
  have g1':=s4 _ _ (s3 _ _ (s2 _ _ g1))
  have g2':=s4 _ _ (s3 _ _ g2)
  have g3':=s4 _ _ g3
  have fin:∀(H5:Hp) (pd:Addr) (G:Hp) (kvs:List (bA × V)),Same H H5->H5 pd=none->Same (aI H5 pd (.dK [])) G->(∀u:Str,wO (aI G pd (.dK kvs)) ((Jx wd n).lookup u) (bC kvs (Sum.inr u)))->Q (.ref pd) (aI G pd (.dK kvs)):=fun H5 pd G kvs sH hpd sG hb=>by
   refine q pd kvs _ (fun c o e=>?_) aA hb
   have e':=sH _ _ e
   rw[aD (aE e' hpd)];exact sG _ _ (aF hpd _ _ e')
  have at_:∀ {H5:Hp} {pd:Addr} {G:Hp} {kvs:List (bA × V)} {c:Addr} {ys:List V},Same (aI H5 pd (.dK [])) G->G c=some (.tup ys)->aI G pd (.dK kvs) c=some (.tup ys):=fun {H5 pd G kvs c ys} sG e=>by
   have:c≠pd:=fun z=>by have h:=sG _ _ aA;rw[<- z,e]at h;cases h
   rw[aD this];exact e
  have b1:∀ {G:Hp} {c t:Addr} {lo hi:Int},G t=some (.tup [.ref c])->G c=some (.tup [.int lo,.int hi])->wO G (some [(lo,hi)]) (some (.ref t)):=fun {G c t lo hi} h1 h2=>⟨t,[(c,lo,hi)],rfl,h1,fun z hz=>by rw[Zms.mp hz];exact h2,rfl⟩
  cases hd with
  | pass=>
   refine⟨_,SqT.of hp4,_,rfl,?_⟩
   intro d hd;exact q d [] _ (s04.trans (aF hd)) aA fun u=>rfl
  | move=>
   refine⟨_,SqT.of hp4,_,rfl,?_⟩
   refine⟨_,SqT.of hp4,_,rfl,?_⟩
   intro pd hpd;refine⟨Zs,fun q1 G1 r1 e1=>⟨Zs,fun q2 G2 r2 e2=>⟨Zs,fun q3 G3 r3 e3=>⟨r3 _ _ (r2 _ _ (r1 _ _ aA)),[(Sum.inr ("is":Str),.ref q1),(Sum.inr ("short":Str),.ref q2),(Sum.inr ("full":Str),.ref q3)],rfl,Zs,?_⟩⟩⟩⟩
   rw[mk3 Zk]
   have sG:=(r1.trans r2).trans r3
   have up:=fun {c:Addr} {ys:List V} (e:H4 c=some (.tup ys))=>sG _ _ (aF (o:=.dK []) hpd _ _ e)
   refine fin H4 pd G3 _ s04 hpd sG (oX (.cons ⟨rfl,?_⟩ (.cons ⟨rfl,b1 (at_ sG (r3 _ _ e2)) (at_ sG (up g3'))⟩ (.cons ⟨rfl,b1 (at_ sG e3) (at_ sG (up g4))⟩ .nil))))
   exact⟨q1,[(p1,_,_),(p2,_,_)],rfl,at_ sG (r3 _ _ (r2 _ _ e1)),fun z hz=>by
    simp only [List.mem_cons,List.not_mem_nil,or_false]at hz
    rcases hz with rfl | rfl
    ·exact at_ sG (up g1')
    ·exact at_ sG (up g2'),rfl⟩
  | take | send=>
   refine⟨_,SqT.of hp4,_,rfl,?_⟩
   refine⟨_,SqT.of hp4,_,rfl,?_⟩
   refine⟨_,SqT.of hp4,_,rfl,Zs,fun p5 H5 s5 g5=>⟨p5,_,rfl,.inr (SqT.of g5),rfl,rfl,?_⟩⟩
   intro pd hpd;refine⟨Zs,fun q1 G1 r1 e1=>⟨Zs,fun q2 G2 r2 e2=>⟨r2 _ _ (r1 _ _ aA),[(Sum.inr ("is":Str),.ref q1),(Sum.inr ("short":Str),.ref q2)],rfl,Zs,?_⟩⟩⟩
   rw[mk2 Zk]
   have sG:=r1.trans r2
   have up:=fun {c:Addr} {ys:List V} (e:H4 c=some (.tup ys))=>sG _ _ (aF (o:=.dK []) hpd _ _ (s5 _ _ e))
   exact fin H5 pd G2 _ (s04.trans s5) hpd sG (oX (.cons ⟨rfl,b1 (at_ sG (r2 _ _ e1)) (at_ sG (up g1'))⟩ (.cons ⟨rfl,b1 (at_ sG e2) (at_ sG (up g3'))⟩ .nil)))
  | add | fetch=>
   refine⟨_,SqT.of hp4,_,rfl,?_⟩
   refine⟨_,SqT.of hp4,_,rfl,?_⟩
   refine⟨_,SqT.of hp4,_,rfl,Zs,fun p5 H5 s5 g5=>⟨p5,_,rfl,.inr (SqT.of g5),rfl,rfl,?_⟩⟩
   intro pd hpd;refine⟨Zs,fun q1 G1 r1 e1=>⟨Zs,fun q2 G2 r2 e2=>⟨r2 _ _ (r1 _ _ aA),[(Sum.inr ("is":Str),.ref q1),(Sum.inr ("full":Str),.ref q2)],rfl,Zs,?_⟩⟩⟩
   rw[mk2 Zk]
   have sG:=r1.trans r2
   have up:=fun {c:Addr} {ys:List V} (e:H4 c=some (.tup ys))=>sG _ _ (aF (o:=.dK []) hpd _ _ (s5 _ _ e))
   exact fin H5 pd G2 _ (s04.trans s5) hpd sG (oX (.cons ⟨rfl,b1 (at_ sG (r2 _ _ e1)) (at_ sG (up g2'))⟩ (.cons ⟨rfl,b1 (at_ sG e2) (at_ sG (up g4))⟩ .nil)))
theorem xE {α:Type} {xs:List α} {i:Nat} {x:α} (h:xs[i]?=some x):xs.take (i+1)=xs.take i++[x]:=by
 rw[List.take_succ,h];rfl
theorem Et (T:Txt K mg) (c_is_whole:aG P w K mg base 1 "is_whole" ["thing","least","most"] Bh) (D:DefAt K mg "are_within" eG ["things","bounds"]):aG P w K mg base 2 "are_within" ["things","bounds"] wR:=by
 refine D.go rG (fun vs H Q E h=>?_) (fun f cdv A outer s H vs Q E hr h=>?_)
 ·obtain⟨a,t,xs,bs,rfl,_⟩:=h;rfl
 ·obtain⟨a,t,xs,bs,rfl,ha,hl,hx,ht,hb,q⟩:=h
  have hr_is_whole:=hr
  refine⟨_,(R.ae (R.ar (R.al R.ne (R.ax (R.ba (K:=K)) rfl T.b_len aO (R.aa (R.v 0) R.ad)) (R.ax (R.ba (K:=K)) rfl T.b_len aO (R.aa (R.v 1) R.ad))) (R.ah (R.ai R.bl)) R.au) (R.ah (R.ai (R.ax (R.jf (K:=K) rfl) rfl T.b_all Ir (R.aa (R.bi rfl (js:=[none,none]) (N:=["thing","least_most"]) (CompScope.by (aB eG) ["things","bounds"] rfl rfl Zk) (pL (eQ rfl (eQ rfl nB))) (R.ir (K:=K) rfl T.b_zip (R.v 0) (R.v 1)) (fun C s₂ H₂ fp=>⟨(R.dt (K:=K) (n:=2) rfl (R.bp (R.gn (i:=0) (show(["thing","least_most"]:List Str).Nodup by decide +kernel)) (R.bp (R.gn (i:=1) (show(["thing","least_most"]:List Str).Nodup by decide +kernel)) R.du))),R.dn,(R.fn c_is_whole hr_is_whole rfl (R.aa (R.v 0) (R.aa (R.ix (R.ag (K:=K)) (R.v 1) R.ac) (R.aa (R.ix (R.ag (K:=K)) (R.v 1) R.ac) R.ad))))⟩)) R.ad))))),?_⟩
  refine⟨xs,.inr (SqT.of ha),uQ bs,.inr (SqT.of ht),?_⟩
  have elb:(uQ bs).length=(bs.map (·.2)).length:=by unfold uQ;rw[aZ,aZ]
  dsimp only [mNe,mB];refine aQ (fun h=>?_) (fun h=>?_)
  ·have h':xs.length≠(bs.map (·.2)).length:=by
    rw[<- elb];intro e;rw[e]at h;simp at h
   have:=q H (Same.refl _)
   unfold aW at this;rw[decide_eq_false h',Bool.false_and]at this;exact this
  ·have h':xs.length=(bs.map (·.2)).length:=by
    rw[<- elb];have:((xs.length:Int)=((uQ bs).length:Int)):=by simpa using h
    omega
   have hlb:bs.length=xs.length:=by rw[h',aZ]
   refine⟨false,false,xs,uQ bs,SqT.of ha,SqT.of ht,?_⟩
   refine Ju Zo (fun i ys H'=>ys=(((xs.zip (bs.map (·.2))).take i).map fun q=>yX q.2.1 q.2.2 q.1).map V.bl/\Same H H') (fun i ys H' ⟨e,s'⟩=>⟨SqT.of (s' _ _ ha),SqT.of (s' _ _ ht),by rw[e,aZ,aZ,jD];exact Nat.min_le_left _ _⟩) ⟨rfl,Same.refl _⟩ (fun i x y ys H' t' hx' hy' ⟨e,s'⟩ ht'=>?_) (fun ys H' ⟨e,s'⟩=>?_)
   ·unfold uQ at hy';rw[jC]at hy';cases hn:bs[i]? with
    | none=>rw[hn]at hy';cases hy'
    | some z=>
     rw[hn]at hy';cases hy'
     have s2:=s'.trans (aF (o:=.tup [x,.ref z.1]) ht')
     have gz:=s2 _ _ (hb z (jW hn))
     have ez:(xs.zip (bs.map (·.2)))[i]?=some (x,z.2):=by
      rw[List.getElem?_zip_eq_some];exact⟨hx',by rw[jC,hn];rfl⟩
     refine⟨t',_,rfl,SqT.of aA,rfl,_,_,rfl,_,_,rfl,rfl,_,SqT.of gz,_,rfl,_,SqT.of gz,_,rfl,x,z.2.1,z.2.2,rfl,((hx x (jW hx')).same s2).pt,fun H'' s''=>⟨?_,s2.trans s''⟩⟩
     rw[xE ez,iB,iB,e];rfl
   ·intro l hl';refine⟨l,((xs.zip (bs.map (·.2))).map fun q=>yX q.2.1 q.2.2 q.1),rfl,SqL.of ?_,?_⟩
    ·rw[aA,e];have:(xs.zip (bs.map (·.2))).take (min xs.length (uQ bs).length)=xs.zip (bs.map (·.2)):=vR (by rw[List.length_zip,elb];exact bQ _)
     rw[this]
    ·have:=q (aI H' l (.lst ys)) (s'.trans (aF hl'))
     unfold aW at this;rw[decide_eq_true h',Bool.true_and]at this;rw[List.all_map];exact this
theorem Bp {wd:Str} {xs:List V} {cs:List (Str × Int)} {as:List (Str × List V)} (h:Ss wd xs cs as):mW xs 0=some (.str wd):=by
 obtain⟨one,other,nm,n,hd⟩:=h
 cases hd <;> rfl
theorem Eu (wd:Str) (hs:List Str) (n:Int) (u:Str) (r:List V):Ej wd hs n (.str u::r)=if u="no" then (match r with | [y]=>oK y hs | _=>false) else if u="ok" then decide (wd="pass")&&r.isEmpty else match (Jx wd n).lookup u with | some bs=>aW r bs | none=>false:=rfl
theorem Qb {hs:List Str} (h:∀z∈hs,fE z) (y:V) (m:oK y hs=true):Yl y=true:=by
 cases y with
 | str z=>exact Wk (h z (by simpa [oK]using m))
 | _=>cases m
theorem uW (T:Txt K mg) (c_word_of:aG P w K mg base 1 "word_of" ["thing"] wP) (c_is_no:aG P w K mg base 3 "is_no" ["answer"] Jy) (c_asks_of:aG P w K mg base 1 "asks_of" ["deed"] kZ) (c_bounds_of:aG P w K mg base 1 "bounds_of" ["deed"] wQ)
  (c_are_within:aG P w K mg base 2 "are_within" ["things","bounds"] wR) (D:DefAt K mg "is_answer" fG ["deed","thing"]):aG P w K mg base 4 "is_answer" ["deed","thing"] Bk:=by
 refine D.go iU (fun vs H Q E h=>?_) (fun f cdv A outer s H vs Q E hr h=>?_)
 ·obtain⟨p,wd,n,xs,as,x,rfl,_⟩:=h;rfl
 ·obtain⟨p,wd,n,xs,as,x,rfl,hp,hd,hx,q⟩:=h
  have hr_word_of:Room 1 _:=hr.mono Zd
  have hr_asks_of:Room 1 _:=hr.mono Zd
  have hr_bounds_of:Room 1 _:=hr.mono Zd
  have hr_are_within:Room 2 _:=hr.mono Zd
  have hr_is_no:=hr
  have hu1:=jK hr
  refine⟨_,(R.ae (R.ao (i:=2) iU.nd (R.fn c_word_of hr_word_of rfl (R.aa (R.v 1) R.ad))) (R.ae (R.ar (R.al R.eq (R.v 2) R.af) (R.ah (R.ai (R.be (R.fn c_is_no hr_is_no rfl (R.aa (R.v 1) R.ad)) (R.bb (R.aw (R.bc (K:=K)) (R.ix (R.ag (K:=K)) (R.v 1) R.ac) (R.bi rfl (js:=[none,none]) (N:=["house","there"]) (CompScope.by (aB fG) ["deed","thing","word","bounds"] rfl rfl Zk) (pL (eQ rfl (eQ rfl nB))) (R.fj (K:=K) (R.fn c_asks_of hr_asks_of rfl (R.aa (R.v 0) R.ad))) (fun C s₂ H₂ fp=>⟨(R.dt (K:=K) (n:=2) rfl (R.bp (R.gn (i:=0) (show(["house","there"]:List Str).Nodup by decide +kernel)) (R.bp (R.gn (i:=1) (show(["house","there"]:List Str).Nodup by decide +kernel)) R.du))),R.dn,(R.v 0)⟩))))))) R.au) (R.ae (R.ar (R.al R.eq (R.v 2) R.af) (R.ah (R.ai (R.be (R.aw R.eq (R.ix (R.ag (K:=K)) (R.v 0) R.ac) R.af) (R.bb (R.aw R.eq (R.ax (R.ba (K:=K)) rfl T.b_len aO (R.aa (R.v 1) R.ad)) R.ac))))) R.au) (R.ae (R.ao (i:=3) iU.nd (R.fn c_bounds_of hr_bounds_of rfl (R.aa (R.v 0) R.ad))) (R.ah (R.ai (R.be (R.aw (R.iu hu1) (R.v 2) (R.v 3)) (R.bb (R.fn c_are_within hr_are_within rfl (R.aa (R.sl R.sT (R.v 1) (R.ps R.ac) R.pn) (R.aa (R.dz hu1 (R.v 3) (R.v 2)) R.ad))))))))))),?_⟩
  refine⟨x,rfl,hx,?_⟩
  dsimp only [aK];obtain⟨cs,hdx⟩:=hd.dwx
  have none_case:jQ H x=.non->zB H wd (as.map (·.1)) n x=false->∀ {R:Prop},R=R->True:=fun _ _ _ _=>trivial
  have key:(jQ H x=.non/\zB H wd (as.map (·.1)) n x=false)∨∃a u r,x=.ref a/\H a=some (.tup (.str u::r))/\jQ H x=.str u/\zB H wd (as.map (·.1)) n x=Ej wd (as.map (·.1)) n (.str u::r):=by
   unfold jQ zB;cases e:jP H x with
   | none=>exact .inl ⟨rfl,rfl⟩
   | some ys=>
    have:∃a,x=.ref a/\H a=some (.tup ys):=by
     unfold jP at e;cases x with
     | ref a=>
      dsimp only at e
      refine⟨a,rfl,?_⟩
      split at e
      ·cases e;assumption
      ·cases e
     | _=>cases e
    obtain⟨a,rfl,h⟩:=this
    cases ys with
    | nil=>exact .inl ⟨rfl,rfl⟩
    | cons y r=>cases y with
     | str u=>exact .inr ⟨a,u,r,rfl,h,rfl,rfl⟩
     | _=>exact .inl ⟨rfl,rfl⟩
  rcases key with⟨ew,ea⟩ | ⟨a,u,r,rfl,h,ew,ea⟩
  ·rw[ew];refine⟨p,wd,n,xs,as,rfl,hp,hd,fun d kvs H1 s1 g1 hb=>?_⟩
   refine⟨⟨kvs,g1⟩,?_⟩
   have:=q H1 s1
   rw[ea]at this;exact this
  ·rw[ew];rw[ea,Eu]at q;obtain⟨hl,hpc⟩:=hx.2 a _ rfl h
   have hpr:∀y∈r,Pc H y:=fun y hy=>hpc y (oP _ hy)
   show if decide (u="no")=true then _ else _
   refine aQ (fun h0=>?_) (fun h0=>?_)
   ·rw[if_pos (of_decide_eq_true h0)]at q;refine⟨a,_,rfl,h,hpc,fun H1 s1=>?_⟩
    show if Sv (.str u::r)=true then _ else _
    refine aQ (fun h1=>?_) (fun h1=>?_)
    ·match r,h1,q,h,hpr with
     | [y],h1,q,h,hpr=>
      have hny:Yl y=true:=h1
      cases y with
      | str z=>
       refine⟨_,SqT.of (s1 _ _ h),_,rfl,p,wd,xs,cs,as,rfl,s1 _ _ hp,hdx,fun t us H2 s2 g2 ha=>⟨t,rfl,⟨_,SqT.of g2⟩,?_⟩⟩
       refine bT (lJ K t us) (by have:=ha.length;obtain⟨one,other,nm,n',hh⟩:=hdx;rw[<- this];cases hh <;> simp) (fun i ys H'=>H'=H2/\ys=((as.take i).map (·.1)).map V.str) (fun i ys H' ⟨e,e2⟩=>⟨by rw[e];exact SqT.of g2,by rw[e2,aZ,aZ,jD];exact Nat.min_le_left _ _⟩) ⟨rfl,rfl⟩ (fun i v ys H' hv ⟨e,e2⟩=>?_) (fun ys H' ⟨e,e2⟩=>?_)
       ·subst e;obtain⟨hi,ev⟩:=Zgs.mp hv
        obtain⟨hi2,a',d',ev',ga,gd⟩:=Paired.get' (j:=i) ha hi
        rw[ev]at ev';subst ev';refine⟨a',_,rfl,SqT.of ga,rfl,_,_,rfl,_,_,rfl,rfl,rfl,?_⟩
        rw[xE (gZ hi2),iB,iB,e2];rfl
       ·subst e;intro l hl';have e3:ys=(as.map (·.1)).map V.str:=by rw[e2,<- ha.length,List.take_length]
        refine⟨l,_,rfl,.inl (SqL.of aA),rfl,by rw[e3];exact nE _,?_⟩
        have:=q (aI H' l (.lst ys)) ((s1.trans s2).trans (aF hl'))
        show Q (.bl (gT (.str z) ys)) _
        rw[e3,Bg]at *;exact this
      | _=>cases hny
    ·have e:(match r with | [y]=>oK y (as.map (·.1)) | _=>false)=false:=by
      match r,h1 with
      | [],_=>rfl
      | [y],h1=>
       have h1':Yl y=false:=h1
       cases m:oK y (as.map (·.1)) with
       | false=>exact m
       | true=>
        have:=Qb (hs:=as.map (·.1)) (fun z hz=>by obtain⟨q',hq',rfl⟩:=Zmm.mp hz;exact hd.nm q' hq') y m
        rw[this]at h1';cases h1'
      | _::_::_,_=>rfl
     rw[e]at q;exact q H1 s1
   ·rw[if_neg (of_decide_eq_false h0)]at q;show if decide (u="ok")=true then _ else _
    refine aQ (fun h1=>?_) (fun h1=>?_)
    ·rw[if_pos (of_decide_eq_true h1)]at q;refine⟨_,SqT.of hp,_,Bp hdx,?_⟩
     show if decide (wd="pass")=true then _ else _
     have q':=q H (Same.refl _)
     refine aQ (fun h2=>?_) (fun h2=>?_)
     ·rw[h2,Bool.true_and]at q';refine⟨_,.inr (SqT.of h),?_⟩
      have e:r.isEmpty=decide ((((V.str u::r).length:Nat):Int)=1):=by
       cases r with
       | nil=>rfl
       | cons y r=>symm;exact decide_eq_false (by rw[vS,vS];omega)
      rw[e]at q';exact q'
     ·rw[h2,Bool.false_and]at q';exact q'
    ·rw[if_neg (of_decide_eq_false h1)]at q;refine⟨p,wd,n,xs,as,rfl,hp,hd,fun d kvs H1 s1 g1 hb=>?_⟩
     dsimp only [aK];have hbu:=hb u
     refine⟨kvs,g1,?_⟩
     show if (bC kvs (Sum.inr u)).isSome=true then _ else _
     cases eb:(Jx wd n).lookup u with
     | none=>
      rw[eb]at hbu q;have hv:bC kvs (Sum.inr u)=none:=hbu
      rw[hv];exact q H1 s1
     | some bs=>
      rw[eb]at hbu q;obtain⟨t,zs,hv,gt,hba,hm⟩:=hbu
      rw[hv];refine⟨_,s1 _ _ h,fun p2 H2 s2 g2=>⟨d,.ref t,rfl,?_,p2,t,r,zs,rfl,?_,?_,fun y hy=>(hpr y hy).same (s1.trans s2),s2 _ _ gt,hba.same s2,fun H3 s3=>?_⟩⟩
      ·have:=DGet.k (k:=Sum.inr u) (s2 _ _ g1)
       rw[hv]at this;exact this
      ·have ec:dO (V.str u::r) (some 1) none=r:=lK _ 1
       rw[ec]at g2;exact g2
      ·rw[vS]at hl;omega
      ·rw[hm];exact q H3 ((s1.trans s2).trans s3)
end
end KL
namespace KL
open PySem L2
section
variable {P:Program} {w:World} {K:W.Frag} {mg:Str->Option Value} {base:Heap}
def bF:Sp:=fun vs H Q _=>∃d b m,vs=[.ref d,.int m]/\Dk H d b/\0<m/\m<18446744073709551616/\∀r H',0<=r->r<m->Dk H' d b->Kp d b H H'->Q (.int r) H'
theorem Qc (T:Txt K mg) (D:DefAt K mg "_law_deck" iJ ["_law_script"]):aG P w K mg base 1 "_law_deck" ["_law_script"] (Iv K):=by
 refine D.go xC (fun vs H Q E h=>?_) (fun f cdv A outer s H vs Q E hr h=>?_)
 ·obtain⟨a,ns,rfl,_⟩:=h;rfl
 ·obtain⟨a,ns,rfl,hS,q⟩:=h
  refine⟨_,(R.ah (R.ai (R.az (R.aa (R.ee (R.jh (K:=K)) rfl T.b_list Be (R.aa (R.sl (R.br (K:=K)) (R.v 0) R.pn (R.ps R.ac)) R.ad)) (R.aa (R.op R.ay R.ac (R.op R.da (R.ax (R.jo (K:=K) rfl) rfl T.b_sum Wa (R.aa (R.sl (R.br (K:=K)) (R.v 0) R.pn (R.ps R.ac)) R.ad)) R.ac)) (R.aa R.ac R.ad)))))),?_⟩
  have hc:dO (ns.map V.int) none (some 63)=(ns.take 63).map V.int:=by rw[uF];exact congrArg _ (pQ ns 63)
  refine⟨_,hS,fun p1 hp1=>⟨_,.inl (SqL.of aA),fun b hb=>?_⟩⟩
  have s2:Same H (aI (aI H p1 (.lst (dO (ns.map V.int) none (some 63)))) b (.lst (dO (ns.map V.int) none (some 63)))):=(aF hp1).trans (aF hb)
  have g2:(aI (aI H p1 (.lst (dO (ns.map V.int) none (some 63)))) b (.lst (dO (ns.map V.int) none (some 63)))) b=some (.lst ((ns.take 63).map V.int)):=by rw[aA,hc]
  have hb0:H b=none:=(aF hp1).free hb
  show nX _ _ _ (aI (aI H p1 (.lst (dO (ns.map V.int) none (some 63)))) b (.lst (dO (ns.map V.int) none (some 63)))) _
  generalize aI (aI H p1 (.lst (dO (ns.map V.int) none (some 63)))) b (.lst (dO (ns.map V.int) none (some 63)))=H2 at s2 g2;refine⟨_,s2.seq hS,fun p2 hp2=>⟨p2,ns.take 63,rfl,SqL.of (by rw[aA,hc]),by show(0:Int)<2147483629;decide,eK rfl,fun d hd=>?_⟩⟩
  have s4:Same H (aI H2 p2 (.lst (dO (ns.map V.int) none (some 63)))):=s2.trans (aF hp2)
  have nbd:b≠d:=aE ((aF hp2) _ _ g2) hd
  refine q d b _ (s4.free hd) hb0 ⟨ns.take 63,_,_,aA,?_,?_⟩ (s4.trans (aF hd))
  ·rw[aD nbd];exact(aF hp2) _ _ g2
  ·rw[jD];exact Nat.min_le_left _ _
theorem Kq (D:DefAt K mg "_law_draw" iK ["_law_deck_here","_law_many"]) :
  aG P w K mg base 1 "_law_draw" ["_law_deck_here","_law_many"] bF:=by
 refine D.go fJ (fun vs H Q E h=>?_) (fun f cdv A outer s H vs Q E hr h=>?_)
 ·obtain⟨d,b,m,rfl,_⟩:=h;rfl
 ·obtain⟨d,b,m,rfl,dk,hm,hm2,q⟩:=h
  have hu:=hr.units0
  obtain⟨ns,s0,k0,h1,h2,h3⟩:=dk.ex
  have ndb:d≠b:=fW h1 h2 (by
   intro z;injection z with z
   cases ns with
   | nil=>cases z
   | cons z1 zs=>injection z with z _;cases z)
  refine⟨_,(R.ae (R.db (R.op R.ay (R.ix (R.av (K:=K)) (R.v 0) R.ac) R.ac) (R.de (R.v 0) R.ac R.ji)) (R.ae (R.ao (i:=2) fJ.nd (R.ix (R.av (K:=K)) (R.v 0) R.ac)) (R.ae (R.ar (R.al (R.fk (K:=K) hu) (R.ix (R.av (K:=K)) (R.v 0) R.ac) (R.az R.ad)) (R.ae (R.ao (i:=2) fJ.nd (R.bw (K:=K) PySem.F.plainAttrs_list PySem.F.slot_list_pop PySem.F.type_list_pop R.jp (R.ix (R.av (K:=K)) (R.v 0) R.ac) (R.aa R.ac R.ad))) (R.ah (R.ar (R.al R.ge (R.v 2) (R.op R.cn R.ac R.ac)) (R.ae (R.bz (R.bw (K:=K) PySem.F.plainAttrs_list PySem.F.slot_list_insert PySem.F.type_list_insert R.iz (R.ix (R.av (K:=K)) (R.v 0) R.ac) (R.aa R.ac (R.aa (R.op R.gv (R.v 2) (R.v 1)) R.ad)))) (R.ah (R.ai (R.op R.da (R.v 2) (R.v 1))))) R.au))) R.au) (R.ae (R.ao (i:=3) fJ.nd (R.op R.da (R.op R.ay (R.op R.ay (R.op R.eg (R.op R.da (R.v 2) R.ac) R.ac) (R.op R.eg R.ac (R.ix (R.av (K:=K)) (R.v 0) R.ac))) R.ac) R.ac)) (R.ae (R.ao (i:=3) fJ.nd (R.op R.da (R.op R.eg (R.v 3) (R.v 3)) R.ac)) (R.ah (R.ai (R.op R.da (R.op R.gv (R.op R.da (R.op R.eg (R.v 3) (R.op R.ay (R.v 3) R.ac)) R.ac) R.ac) (R.v 1))))))))),?_⟩
  refine⟨_,SqL.of h1,_,rfl,d,_,2,2,rfl,rfl,h1,rfl,?_⟩
  have g1:(aI H d (.lst [.ref b,.int s0,.int (k0+1)])) d=some (.lst [.ref b,.int s0,.int (k0+1)]):=aA
  have g2:(aI H d (.lst [.ref b,.int s0,.int (k0+1)])) b=some (.lst (ns.map V.int)):=by rw[aD ndb.symm];exact h2
  have kp1:Kp d b H (aI H d (.lst [.ref b,.int s0,.int (k0+1)])):=fun c o e n1 n2=>by rw[aD n1];exact e
  show yB _ _ _ _ (aI H d (.lst [.ref b,.int s0,.int (k0+1)]))
  generalize aI H d (.lst [.ref b,.int s0,.int (k0+1)])=H1 at g1 g2 kp1;refine⟨_,SqL.of g1,_,rfl,?_⟩
  dsimp only [aK];refine aAz (t:=Gb _ _ _) (fun σ' H'=>∃c:Int,σ'=[some (.ref d),some (.int m),some (.int c),none]/\(∃ns':List Int,H' d=some (.lst [.ref b,.int s0,.int (k0+1)])/\H' b=some (.lst (ns'.map V.int))/\ns'.length<=63)/\Kp d b H H') (fun nx hnx=>?_) ?_
  ·refine⟨_,SqL.of g1,_,rfl,eK rfl,fun p hp=>⟨b,p,_,rfl,rfl,SqL.of (by rw[aD (aE g2 hp)];exact g2),SqL.of aA,?_⟩⟩
   have e1:(aI H1 p (.lst [])) d=some (.lst [.ref b,.int s0,.int (k0+1)]):=by rw[aD (aE g1 hp)];exact g1
   have e2:(aI H1 p (.lst [])) b=some (.lst (ns.map V.int)):=by rw[aD (aE g2 hp)];exact g2
   have kp2:Kp d b H (aI H1 p (.lst [])):=kp1.trans (.new hp)
   generalize aI H1 p (.lst [])=H2 at e1 e2 kp2;cases ns with
   | nil=>
    exact hnx _ _ ⟨_,rfl,⟨[],e1,e2,h3⟩,kp2⟩
   | cons z ns=>
    have hl:ns.length+1<=63:=by simpa using h3
    refine⟨_,SqL.of e1,_,rfl,.inl ⟨rfl,_,SqL.of e2⟩,b,_,0,0,.int z,rfl,rfl,e2,Zd,Zd,by simp [seqIndex?],rfl,?_⟩
    have f1:(aI H2 b (.lst ((List.map V.int (z::ns)).eraseIdx 0))) d=some (.lst [.ref b,.int s0,.int (k0+1)]):=by rw[aD ndb];exact e1
    have f2:(aI H2 b (.lst ((List.map V.int (z::ns)).eraseIdx 0))) b=some (.lst (ns.map V.int)):=by rw[aA];rfl
    have kp3:Kp d b H (aI H2 b (.lst ((List.map V.int (z::ns)).eraseIdx 0))):=fun c o e n1 n2=>by rw[aD n2];exact kp2 c o e n1 n2
    dsimp only [aK];generalize aI H2 b (.lst ((List.map V.int (z::ns)).eraseIdx 0))=H3 at f1 f2 kp3;refine⟨⟨Zd,Zd,Zd⟩,?_⟩
    refine aQ (fun _=>?_) (fun _=>?_)
    ·refine⟨_,SqL.of f1,_,rfl,.inl ⟨rfl,_,SqL.of f2⟩,⟨hm,hm2⟩,b,_,0,_,rfl,rfl,f2,Nat.zero_le _,oZ (m:=63) (by rw[aZ];omega) Zd,hm,?_⟩
     refine q _ _ (Int.emod_nonneg _ Zo) (Int.emod_lt_of_pos _ hm) ⟨z / m::ns,s0,k0+1,by rw[aD ndb];exact f1,by rw[aA];rfl,by simpa using hl⟩ fun c o e n1 n2=>by rw[aD n2];exact kp3 c o e n1 n2
    ·exact hnx _ _ ⟨_,rfl,⟨ns,f1,f2,Zo⟩,kp3⟩
  ·rintro σ' H' ⟨c,rfl,⟨ns',f1,f2,f3⟩,kp⟩
   refine⟨by show(0:Int)<_;decide,.inr ⟨Zd,Zd⟩,_,SqL.of f1,_,rfl,.inl ⟨Zd,Zd⟩,by show(0:Int)<_;decide,?_⟩
   generalize hx:(c % 2147483629*16807+69621*(k0+1)+7919) % 2147483629=x;have hx0:0<=x:=by omega
   have hx1:x<2147483629:=by omega
   dsimp only [aK];refine⟨.inl ⟨Zo,Zo⟩,by show(0:Int)<_;decide,?_⟩
   generalize hy:x*x % 2147483587=y;have hy0:0<=y:=by omega
   have hy1:y<2147483587:=by omega
   dsimp only [aK];refine⟨.inl ⟨Zo,Zo⟩,by show(0:Int)<_;decide,⟨Zd,Zd⟩,hm,?_⟩
   exact q _ _ (Int.emod_nonneg _ Zo) (Int.emod_lt_of_pos _ hm) ⟨ns',s0,k0+1,f1,f2,f3⟩ kp
theorem Xl {r:Int} (h0:0<=r) (h1:r<4):r=0∨r=1∨r=2∨r=3:=by omega
theorem six {r:Int} (h0:0<=r) (h1:r<6):r=0∨r=1∨r=2∨r=3∨r=4∨r=5:=by omega
theorem Xm (T:Txt K mg) (cLdraw:aG P w K mg base 1 "_law_draw" ["_law_deck_here","_law_many"] bF) (D:DefAt K mg "_law_end" kG ["_law_deck_here","_law_many"]) :
  aG P w K mg base 2 "_law_end" ["_law_deck_here","_law_many"] bF:=by
 refine D.go zL (fun vs H Q E h=>?_) (fun f cdv A outer s H vs Q E hr h=>?_)
 ·obtain⟨d,b,m,rfl,_⟩:=h;rfl
 ·obtain⟨d,b,m,rfl,dk,hm,hm2,q⟩:=h
  have hLdraw:=hr
  refine⟨_,(R.ah (R.ai (R.ix (R.av (K:=K)) (R.az (R.aa R.ac (R.aa (R.op R.bv (R.v 1) R.ac) (R.aa (R.fn cLdraw hLdraw rfl (R.aa (R.v 0) (R.aa (R.v 1) R.ad))) (R.aa (R.fn cLdraw hLdraw rfl (R.aa (R.v 0) (R.aa (R.v 1) R.ad))) R.ad))))) (R.fn cLdraw hLdraw rfl (R.aa (R.v 0) (R.aa R.ac R.ad)))))),?_⟩
  refine⟨d,b,m,rfl,dk,hm,hm2,fun r1 H1 a0 a1 D1 k1=>⟨d,b,m,rfl,D1,hm,hm2,fun r2 H2 b0 b1 D2 k2=>⟨eK rfl,fun p hp=>⟨d,b,4,rfl,D2.new hp,Zd,Zd,fun r3 H3 c0 c1 D3 k3=>?_⟩⟩⟩⟩
  have hpd:=D2.ne hp
  have gp:=k3 p _ aA hpd.1 hpd.2
  have kk:=((k1.trans k2).trans (.new hp)).trans k3
  rcases Xl c0 c1 with rfl | rfl | rfl | rfl
  ·exact⟨_,SqL.of gp,_,rfl,q _ _ Zo Zo D3 kk⟩
  ·exact⟨_,SqL.of gp,_,rfl,q _ _ Zo Zo D3 kk⟩
  ·exact⟨_,SqL.of gp,_,rfl,q _ _ a0 a1 D3 kk⟩
  ·exact⟨_,SqL.of gp,_,rfl,q _ _ b0 b1 D3 kk⟩
structure WordsOf (L:List Nat) (g:Nat) (ws:List Str):Prop where
 nd:ws.Nodup
 of:∀z∈ws,1<=z.length/\z.length<=g/\∀c∈z.cps.toList,c∈L
def sU:Sp:=fun vs H Q _=>∃(d b:Addr) (L:List Nat) (g m:Nat),vs=[.ref d,.str (tx L),.int (g:Int),.int (m:Int)]/\Dk H d b/\1<=m/\m<=g/\g<=12/\L.Nodup/\m<=L.length/\L.length<=40 ∧
 ∀(l:Addr) (ws:List Str) (H':Hp),WordsOf L g ws->ws.length=m->H' l=some (.lst (ws.map V.str))->l≠d->l≠b->Dk H' d b->Kp d b H H'->Q (.ref l) H'
theorem Kr {α:Type} (xs:List α) {i j:Nat} (hi:i<=xs.length) (hj:j<=xs.length):dO xs (some (i:Int)) (some (j:Int))=(xs.drop i).take (j - i):=by
 unfold dO;rw[HT.sIx_nat,HT.sIx_nat,Nat.min_eq_left hi,Nat.min_eq_left hj]
def qD (L ts:List Nat) (a sz f k:Nat):List Nat:=ts.take a++[L.getD ((f+k) % L.length) 0]++(ts.drop (a+1)).take (sz - (a+1))
theorem Qd {L:List Nat} (hn:L.Nodup) {i j:Nat} (hi:i<L.length) (hj:j<L.length) (h:L.getD i 0=L.getD j 0):i=j:=by
 rw[List.getD_eq_getElem?_getD,List.getD_eq_getElem?_getD,gZ hi,gZ hj]at h;have h':L[i]=L[j]:=h
 have p:=List.pairwise_iff_getElem.mp hn
 rcases Nat.lt_trichotomy i j with z | z | z
 ·exact absurd h' (p i j hi hj z)
 ·exact z
 ·exact absurd h'.symm (p j i hj hi z)
theorem Qe {f k k' n:Nat} (hk:k<n) (hk':k'<n) (h:(f+k) % n=(f+k') % n):k=k':=by
 have h1:=Nat.mod_add_div (f+k) n
 have h2:=Nat.mod_add_div (f+k') n
 rw[h]at h1;generalize (f+k) / n=u at h1;generalize (f+k') / n=v at h2;rcases Nat.lt_trichotomy u v with z | z | z
 ·have:n*(u+1)<=n*v:=Nat.mul_le_mul_left n z
  rw[Nat.mul_add,Nat.mul_one]at this;omega
 ·subst z;omega
 ·have:n*(v+1)<=n*u:=Nat.mul_le_mul_left n z
  rw[Nat.mul_add,Nat.mul_one]at this;omega
theorem Ks {L ts:List Nat} (hn:L.Nodup) {a sz f k k':Nat} (h:qD L ts a sz f k=qD L ts a sz f k') (hk:k<L.length) (hk':k'<L.length):k=k':=by
 unfold qD at h;have h1:=List.append_inj_left' h rfl
 have h2:=List.append_inj_right' h1 rfl
 have h3:L.getD ((f+k) % L.length) 0=L.getD ((f+k') % L.length) 0:=by injection h2
 exact Qe hk hk' (Qd hn (Nat.mod_lt _ Zo) (Nat.mod_lt _ Zo) h3)
theorem aAT {L:List Nat} {i:Nat} (h:i<L.length):L.getD i 0∈L/\L[i]?=some (L.getD i 0):=by
 have e:L[i]?=some (L[i]):=gZ h
 have e2:L.getD i 0=L[i]:=by rw[List.getD_eq_getElem?_getD,e];rfl
 exact⟨e2 ▸ List.getElem_mem _,e2 ▸ e⟩
theorem Qg {L ts:List Nat} {g a sz f k:Nat} (h0:0<L.length) (hl:ts.length=g) (ht:∀c∈ts,c∈L) (ha:a<sz) (hs:sz<=g):1<=(qD L ts a sz f k).length/\(qD L ts a sz f k).length<=g/\∀c∈qD L ts a sz f k,c∈L:=by
 have e:(qD L ts a sz f k).length=sz:=by
  unfold qD;simp [hl]
  omega
 refine⟨Zo,Zo,fun c hc=>?_⟩
 unfold qD at hc;rcases Zma.mp hc with hc | hc
 ·rcases Zma.mp hc with hc | hc
  ·exact ht c (List.mem_of_mem_take hc)
  ·rw[Zms.mp hc];exact(aAT (Nat.mod_lt _ h0)).1
 ·exact ht c (List.mem_of_mem_drop (List.mem_of_mem_take hc))
theorem lC {n i:Nat} {x:V} (h:(jM 0 n)[i]?=some x):x=.int (i:Int)/\i<n:=by
 unfold jM at h;rw[jC]at h;cases hh:(List.range n)[i]? with
 | none=>rw[hh]at h;cases h
 | some y=>
  rw[hh]at h;obtain⟨h1,h2⟩:=Zgs.mp hh
  rw[List.getElem_range]at h2;cases h
  rw[<- h2];exact⟨Zs,by simpa using h1⟩
theorem eJ (n:Nat):(jM 0 n).length=n:=by simp [jM]
theorem xF {L:List Nat} {g m:Nat} {F:Nat->List Nat} (hi:∀k k',k<m->k'<m->F k=F k'->k=k') (ho:∀k,k<m->1<=(F k).length/\(F k).length<=g/\∀c∈F k,c∈L):WordsOf L g ((List.range m).map fun k=>tx (F k)):=by
 refine⟨?_,fun z hz=>?_⟩
 ·show List.Pairwise (·≠·) _
  rw[List.pairwise_map];refine List.Pairwise.imp_of_mem (fun {x y} hx hy hne exy=>hne ?_) List.nodup_range
  exact hi _ _ (List.mem_range.mp hx) (List.mem_range.mp hy) (by simpa using congrArg (fun z:Str=>z.cps.toList) exy)
 ·obtain⟨k,hk,rfl⟩:=Zmm.mp hz
  have:=ho k (List.mem_range.mp hk)
  exact⟨by rw[fY];exact this.1,by rw[fY];exact this.2.1,fun c hc=>this.2.2 c (by simpa using hc)⟩
theorem Ev (T:Txt K mg) (cLdraw:aG P w K mg base 1 "_law_draw" ["_law_deck_here","_law_many"] bF) (D:DefAt K mg "_law_unlike" cT ["_law_deck_here","_law_signs","_law_longest","_law_many"]) :
  aG P w K mg base 2 "_law_unlike" ["_law_deck_here","_law_signs","_law_longest","_law_many"] sU:=by
 refine D.go cY (fun vs H Q E h=>?_) (fun f cdv A outer s H vs Q E hr h=>?_)
 ·obtain⟨d,b,L,g,m,rfl,_⟩:=h;rfl
 ·obtain⟨d,b,L,g,m,rfl,dk,hm1,hmg,hg,hnd,hmL,hL40,q⟩:=h
  have hLdraw:=hr
  have lL:(tx L).length=L.length:=fY L
  have h40:(tx L).length<=sizeLine:=fA Zo
  have cL:(tx L).cps.toList=L:=by simp
  refine⟨_,(R.ae (R.ao (i:=4) cY.nd (R.bw (K:=K) PySem.F.plainAttrs_str PySem.F.slot_str_join PySem.F.type_str_join (R.jq (K:=K)) R.af (R.aa (R.bi rfl (js:=[none,some 0,some 1]) (N:=["_law_k","_law_deck_here","_law_signs"]) (CompScope.by (aB cT) ["_law_deck_here","_law_signs","_law_longest","_law_many","_law_word","_law_size","_law_at","_law_first","_law_ends"] rfl rfl Zk) (aP rfl) (R.dw rfl T.b_range (R.aa (R.v 2) R.ad)) (fun C s₂ H₂ fp=>⟨(R.gn (i:=0) (show(["_law_k","_law_deck_here","_law_signs"]:List Str).Nodup by decide +kernel)),R.dn,(R.ix R.iS (R.v 2) (R.fn cLdraw hLdraw rfl (R.aa (R.v 1) (R.aa (R.ax R.ft rfl T.b_len aO (R.aa (R.v 2) R.ad)) R.ad))))⟩)) R.ad))) (R.ae (R.ar (R.al R.eq (R.fn cLdraw hLdraw rfl (R.aa (R.v 0) (R.aa R.ac R.ad))) R.ac) (R.ah (R.ai (R.bi rfl (js:=[none,some 4]) (N:=["_law_k","_law_word"]) (CompScope.by (aB cT) ["_law_deck_here","_law_signs","_law_longest","_law_many","_law_word","_law_size","_law_at","_law_first","_law_ends"] rfl rfl Zk) (aP rfl) (R.dw rfl T.b_range (R.aa (R.v 3) R.ad)) (fun C s₂ H₂ fp=>⟨(R.gn (i:=0) (show(["_law_k","_law_word"]:List Str).Nodup by decide +kernel)),R.dn,(R.sl R.sS (R.v 1) R.pn (R.ps (R.op R.ay (R.v 0) R.ac)))⟩)))) R.au) (R.ae (R.ao (i:=5) cY.nd (R.op R.ay R.ac (R.fn cLdraw hLdraw rfl (R.aa (R.v 0) (R.aa (R.v 2) R.ad))))) (R.ae (R.ao (i:=6) cY.nd (R.fn cLdraw hLdraw rfl (R.aa (R.v 0) (R.aa (R.v 5) R.ad)))) (R.ae (R.ao (i:=7) cY.nd (R.fn cLdraw hLdraw rfl (R.aa (R.v 0) (R.aa (R.ax R.ft rfl T.b_len aO (R.aa (R.v 1) R.ad)) R.ad)))) (R.ae (R.ao (i:=8) cY.nd (R.ib (R.aa (R.sl R.sS (R.v 4) R.pn (R.ps (R.v 6))) (R.aa (R.sl R.sS (R.v 4) (R.ps (R.op R.ay (R.v 6) R.ac)) (R.ps (R.v 5))) R.ad)))) (R.ah (R.ai (R.bi rfl (js:=[none,some 1,some 7,some 8]) (N:=["_law_k","_law_signs","_law_first","_law_ends"]) (CompScope.by (aB cT) ["_law_deck_here","_law_signs","_law_longest","_law_many","_law_word","_law_size","_law_at","_law_first","_law_ends"] rfl rfl Zk) (aP rfl) (R.dw rfl T.b_range (R.aa (R.v 3) R.ad)) (fun C s₂ H₂ fp=>⟨(R.gn (i:=0) (show(["_law_k","_law_signs","_law_first","_law_ends"]:List Str).Nodup by decide +kernel)),R.dn,(R.op R.ic (R.op R.ic (R.ix (R.ag (K:=K)) (R.v 3) R.ac) (R.ix R.iS (R.v 1) (R.op R.da (R.op R.ay (R.v 2) (R.v 0)) (R.ax R.ft rfl T.b_len aO (R.aa (R.v 1) R.ad))))) (R.ix (R.ag (K:=K)) (R.v 3) R.ac))⟩)))))))))),?_⟩
  refine aAz (t:=Ge _ _) (fun σ' H'=>∃ts:List Nat,σ'=[some (.ref d),some (.str (tx L)),some (.int (g:Int)),some (.int m),some (.str (tx ts)),none,none,none,none]/\ts.length=g/\(∀c∈ts,c∈L)/\Dk H' d b/\Kp d b H H') (fun nx hnx=>?_) ?_
  ·refine⟨rfl,g,rfl,Zo,Zo,?_⟩
   refine bT (dZ 0 (g:Int).toNat) (by rw[eJ];omega) (fun i ys H'=>Dk H' d b/\Kp d b H H'/\∃ts:List Nat,ys=ts.map (fun c=>V.str (tx [c]))/\ts.length=i/\∀c∈ts,c∈L) (fun i ys H' ⟨_,_,ts,e,e2,_⟩=>⟨trivial,by rw[e,aZ,e2];exact bQ _⟩) ⟨dk,.refl,[],rfl,rfl,(fun _ h=>nomatch h)⟩ (fun i x ys H' hx ⟨Di,kpi,ts,e,e2,e3⟩=>?_) (fun ys H' ⟨Di,kpi,ts,e,e2,e3⟩=>?_)
   ·refine⟨h40,d,b,_,rfl,Di,Zo,Zo,fun r2 H'' r20 r21 Dj kpj=>⟨h40,?_⟩⟩
    obtain⟨c,hc,hm⟩:=Iw (xs:=(tx L).cps.toList) r20 (by rw[cL];omega)
    rw[cL]at hm;refine⟨c,hc,Dj,kpi.trans kpj,ts++[c],by rw[e,iB];rfl,by rw[kM,e2];rfl,fun c' hc'=>?_⟩
    rcases Zma.mp hc' with h | h
    ·exact e3 c' h
    ·rw[Zms.mp h];exact hm
   ·intro p hp;have hts:ts.length=g:=by rw[e2,eJ];omega
    refine⟨_,p,ts.map (fun c=>tx [c]),rfl,rfl,SqL.of (by rw[aA,e,List.map_map];rfl),?_,?_⟩
    ·rw[wH,aZ,Iy,fY];simp;omega
    ·refine hnx _ _ ⟨ts,?_,hts,e3,Di.new hp,kpi.trans (.new hp)⟩
     rw[Iy,yV];rfl
  ·rintro σ' H1 ⟨ts,rfl,hts,hlet,D1,k1⟩
   have hcl:(tx ts).cps.toList=ts:=by simp
   have em:((m:Int)).toNat=m:=by omega
   refine⟨d,b,3,rfl,D1,Zd,Zd,fun r H2 r0 r1 D2 k2=>?_⟩
   refine aQ (fun _=>?_) (fun _=>?_)
   ·refine⟨m,rfl,Zo,Zo,?_⟩
    refine bT (dZ 0 (m:Int).toNat) (by rw[eJ];omega) (fun i ys H'=>ys=((List.range i).map fun k=>tx (ts.take (k+1))).map V.str/\H'=H2) (fun i ys H' ⟨e,_⟩=>⟨trivial,by rw[e];simp⟩) ⟨rfl,rfl⟩ (fun i x ys H' hx ⟨e,e2⟩=>?_) (fun ys H' ⟨e,e2⟩=>?_)
    ·subst e2;obtain⟨rfl,hi⟩:=lC hx
     refine⟨fA (by rw[fY];omega),?_,rfl⟩
     rw[hcl,show((i:Nat):Int)+1=((i+1:Nat):Int) by omega,pQ,e,List.range_succ,iB,iB]
     rfl
    ·subst e2;intro p hp;rw[eJ,em]at e;have hd:=D2.ne hp
     refine q p ((List.range m).map fun k=>tx (ts.take (k+1))) _ (xF (fun k k' hk hk' e=>?_) (fun k hk=>?_)) Zs (by rw[aA,e]) hd.1 hd.2 (D2.new hp) ((k1.trans k2).trans (.new hp))
     ·have:=congrArg List.length e
      rw[jD,jD,hts]at this;omega
     ·exact⟨by rw[jD,hts];omega,by rw[jD,hts];omega,fun c hc=>hlet c (List.mem_of_mem_take hc)⟩
   ·refine⟨d,b,g,rfl,D2,Zo,Zo,fun r5 H3 s0 s1 D3 k3=>?_⟩
    dsimp only [aK];refine⟨d,b,1+r5,rfl,D3,Zo,Zo,fun ra H4 a0 a1 D4 k4=>?_⟩
    dsimp only [aK];refine⟨h40,d,b,_,rfl,D4,Zo,Zo,fun rf H5 f0 f1 D5 k5=>?_⟩
    rw[lL]at f1;dsimp only [aK];obtain⟨a,rfl⟩:∃a:Nat,ra=a:=⟨ra.toNat,Zo⟩
    obtain⟨z5,rfl⟩:∃z:Nat,r5=z:=⟨r5.toNat,Zo⟩
    obtain⟨fz,rfl⟩:∃z:Nat,rf=z:=⟨rf.toNat,Zo⟩
    refine⟨fA (by rw[fY];omega),fA (by rw[fY];omega),eK rfl,fun tp htp=>?_⟩
    have g5:(aI H5 tp (.tup [.str (tx (dO (tx ts).cps.toList none (some (a:Int)))),.str (tx (dO (tx ts).cps.toList (some ((a:Int)+1)) (some (1+(z5:Int)))))])) tp=some (.tup [.str (tx (ts.take a)),.str (tx ((ts.drop (a+1)).take (z5+1 - (a+1))))]):=by
     rw[aA,hcl,pQ,show(a:Int)+1=((a+1:Nat):Int) by omega,show 1+(z5:Int)=((z5+1:Nat):Int) by omega,Kr ts Zo Zo]
    have k6:Kp d b H (aI H5 tp (.tup [.str (tx (dO (tx ts).cps.toList none (some (a:Int)))),.str (tx (dO (tx ts).cps.toList (some ((a:Int)+1)) (some (1+(z5:Int)))))])):=((((k1.trans k2).trans k3).trans k4).trans k5).trans (.new htp)
    have D6:=D5.new (o:=.tup [.str (tx (dO (tx ts).cps.toList none (some (a:Int)))),.str (tx (dO (tx ts).cps.toList (some ((a:Int)+1)) (some (1+(z5:Int)))))]) htp
    dsimp only [aK];generalize aI H5 tp (.tup [.str (tx (dO (tx ts).cps.toList none (some (a:Int)))),.str (tx (dO (tx ts).cps.toList (some ((a:Int)+1)) (some (1+(z5:Int)))))])=H6 at g5 k6 D6;refine⟨m,rfl,Zo,Zo,?_⟩
    refine bT (dZ 0 (m:Int).toNat) (by rw[eJ];omega) (fun i ys H'=>ys=((List.range i).map fun k=>tx (qD L ts a (z5+1) fz k)).map V.str/\H'=H6) (fun i ys H' ⟨e,_⟩=>⟨trivial,by rw[e];simp⟩) ⟨rfl,rfl⟩ (fun i x ys H' hx ⟨e,e2⟩=>?_) (fun ys H' ⟨e,e2⟩=>?_)
    ·subst e2;obtain⟨rfl,hi⟩:=lC hx
     have h0:0<L.length:=by omega
     have hL:=aAT (L:=L) (Nat.mod_lt (fz+i) h0)
     have t1:(tx (ts.take a)).length<=12:=by rw[fY,jD];omega
     have t2:(tx ((ts.drop (a+1)).take (z5+1 - (a+1)))).length<=12:=by rw[fY,jD,List.length_drop];omega
     refine⟨_,SqT.of g5,_,rfl,h40,by rw[lL];omega,h40,L.getD ((fz+i) % L.length) 0,?_,fA (by have:=fY [L.getD ((fz+i) % L.length) 0];simp only [vS,List.length_nil]at this;omega),_,SqT.of g5,_,rfl,fA ?_,?_,rfl⟩
     ·rw[lL,cL,show((fz:Int)+(i:Int)) % (L.length:Int)=(((fz+i) % L.length:Nat):Int) by rw[Int.natCast_emod,Int.natCast_add]]
      exact bJ hL.2
     ·rw[uA,fY,kM,jD];simp only [vS,List.length_nil]
      omega
     ·rw[e,List.range_succ,iB,iB,uA,uA];rfl
    ·subst e2;intro p hp;rw[eJ,em]at e;have hd:=D6.ne hp
     refine q p ((List.range m).map fun k=>tx (qD L ts a (z5+1) fz k)) _ (xF (fun k k' hk hk' e=>?_) (fun k hk=>?_)) Zs (by rw[aA,e]) hd.1 hd.2 (D6.new hp) (k6.trans (.new hp))
     ·exact Ks hnd e Zo Zo
     ·exact Qg Zo hts hlet Zo Zo
end
end KL
namespace KL
open PySem L2
section
variable {P:Program} {w:World} {K:W.Frag} {mg:Str->Option Value} {base:Heap}
theorem aL {n:Nat} (h:Nat.ble n 1000=true):n<=1000:=Nat.le_of_ble_eq_true h
structure Fw (d b:Addr) (H H':Hp):Prop where
 d0:Dk H d b
 dk:Dk H' d b
 kp:Kp d b H H'
theorem Kp.same' {d b:Addr} {H H':Hp} (s:Same H H'):Kp d b H H':=fun c o e _ _=>s c o e
theorem Fw.refl {d b:Addr} {H:Hp} (D:Dk H d b):Fw d b H H:=⟨D,D,.refl⟩
theorem Fw.same {d b:Addr} {H H1 H2:Hp} (f:Fw d b H H1) (s:Same H1 H2):Fw d b H H2:=⟨f.d0,f.dk.same s,f.kp.trans (Kp.same' s)⟩
theorem Fw.new {d b p:Addr} {H H1:Hp} {o:HO} (f:Fw d b H H1) (h:H1 p=none):Fw d b H (aI H1 p o):=⟨f.d0,f.dk.new h,f.kp.trans (.new h)⟩
theorem Fw.draw {d b:Addr} {H H1 H2:Hp} (f:Fw d b H H1) (D:Dk H2 d b) (k:Kp d b H1 H2):Fw d b H H2:=⟨f.d0,D,f.kp.trans k⟩
theorem Fw.trans {d b:Addr} {H H1 H2:Hp} (f:Fw d b H H1) (g:Fw d b H1 H2):Fw d b H H2:=⟨f.d0,g.dk,f.kp.trans g.kp⟩
theorem Fw.tk {d b:Addr} {H H':Hp} (f:Fw d b H H'):TK H H':=Kp.tk f.d0 f.kp
theorem Fw.tup {d b a:Addr} {H H':Hp} {xs:List V} (f:Fw d b H H') (g:H a=some (.tup xs)):H' a=some (.tup xs):=f.tk _ _ g
theorem Fw.get {d b a:Addr} {H H':Hp} {o:HO} (f:Fw d b H H') (g:H a=some o) (n1:a≠d) (n2:a≠b):H' a=some o:=f.kp _ _ g n1 n2
theorem fK {ws:List Str} {r:Int} (h0:0<=r) (h1:r<ws.length):∃(i:Nat) (hi:i<ws.length),r=i/\mW (ws.map V.str) r=some (.str ws[i]):=by
 obtain⟨j,rfl⟩:=Int.eq_ofNat_of_zero_le h0
 have hj:j<ws.length:=by omega
 exact⟨j,hj,rfl,bJ (by rw[jC,gZ hj];rfl)⟩
theorem Bq {n i r:Nat} (hi:i<n) (hr:r+1<n):(i+1+r) % n<n/\(i+1+r) % n≠i:=by
 refine⟨Nat.mod_lt _ Zo,fun e=>?_⟩
 by_cases h:i+1+r<n
 ·rw[Nat.mod_eq_of_lt h]at e;omega
 ·rw[Nat.mod_eq_sub_mod Zo,Nat.mod_eq_of_lt Zo]at e;omega
theorem Tb {ws:List Str} (h:ws.Nodup) {i j:Nat} (hi:i<ws.length) (hj:j<ws.length) (hn:i≠j):ws[i]≠ws[j]:=by
 have p:=List.pairwise_iff_getElem.mp h
 rcases Nat.lt_or_gt_of_ne hn with z | z
 ·exact p i j hi hj z
 ·exact fun e=>p j i hj hi z e.symm
structure Menu (ws:List Str):Prop where
 of:WordsOf LET 8 ws
 two:2<=ws.length
 six:ws.length<=6
theorem Menu.nm {ws:List Str} (h:Menu ws) {i:Nat} (hi:i<ws.length):fE ws[i]:=h.of.of _ (List.getElem_mem hi)
def iX:Sp:=fun vs H Q _=>∃(d b la lb:Addr) (ws us:List Str),vs=[.ref d,.ref la,.ref lb]/\Dk H d b/\H la=some (.lst (ws.map V.str))/\H lb=some (.lst (us.map V.str))/\(la≠d/\la≠b/\lb≠d/\lb≠b)/\Menu ws/\Menu us ∧
 ∀(t:Addr) (x:Dd) (H':Hp),x.Ok->H' t=some (.tup x.vs)->Fw d b H H'->Q (.ref t) H'
theorem Qh (T:Txt K mg) (cLdraw:aG P w K mg base 1 "_law_draw" ["_law_deck_here","_law_many"] bF) (cLend:aG P w K mg base 2 "_law_end" ["_law_deck_here","_law_many"] bF)
  (D:DefAt K mg "_law_deed" iM ["_law_deck_here","_law_names","_law_houses"]):aG P w K mg base 3 "_law_deed" ["_law_deck_here","_law_names","_law_houses"] iX:=by
 refine D.go bV (fun vs H Q E h=>?_) (fun f cdv A outer s H vs Q E hr h=>?_)
 ·obtain⟨d,b,la,lb,ws,us,rfl,_⟩:=h;rfl
 ·obtain⟨d,b,la,lb,ws,us,rfl,dk,ga,gb,⟨n1,n2,n3,n4⟩,mw,mu,q⟩:=h
  have hLdraw:Room 1 _:=hr.mono Zd
  have hLend:Room 2 _:=hr.mono Zd
  have w2:=mw.two
  have w6:=mw.six
  have u2:=mu.two
  have u6:=mu.six
  refine⟨_,(R.ae (R.ao (i:=3) bV.nd (R.ix (R.av (K:=K)) (R.az (R.aa (R.op R.ay R.ac (R.fn cLdraw hLdraw rfl (R.aa (R.v 0) (R.aa R.ac R.ad)))) (R.aa (R.op R.ay R.ac (R.fn cLend hLend rfl (R.aa (R.v 0) (R.aa (R.op R.cn R.ac R.ac) R.ad)))) R.ad))) (R.fn cLdraw hLdraw rfl (R.aa (R.v 0) (R.aa R.ac R.ad))))) (R.ae (R.ao (i:=4) bV.nd (R.fn cLdraw hLdraw rfl (R.aa (R.v 0) (R.aa (R.ax (R.ba (K:=K)) rfl T.b_len aO (R.aa (R.v 1) R.ad)) R.ad)))) (R.ae (R.ao (i:=5) bV.nd (R.ix (R.av (K:=K)) (R.v 1) (R.v 4))) (R.ae (R.ao (i:=6) bV.nd (R.ix (R.av (K:=K)) (R.v 1) (R.op R.da (R.op R.ay (R.op R.ay (R.v 4) R.ac) (R.fn cLdraw hLdraw rfl (R.aa (R.v 0) (R.aa (R.op R.bv (R.ax (R.ba (K:=K)) rfl T.b_len aO (R.aa (R.v 1) R.ad)) R.ac) R.ad)))) (R.ax (R.ba (K:=K)) rfl T.b_len aO (R.aa (R.v 1) R.ad))))) (R.ae (R.ao (i:=7) bV.nd (R.fn cLdraw hLdraw rfl (R.aa (R.v 0) (R.aa (R.ax (R.ba (K:=K)) rfl T.b_len aO (R.aa (R.v 2) R.ad)) R.ad)))) (R.ae (R.ao (i:=8) bV.nd (R.ix (R.av (K:=K)) (R.v 2) (R.v 7))) (R.ae (R.ao (i:=9) bV.nd (R.ix (R.av (K:=K)) (R.v 2) (R.op R.da (R.op R.ay (R.op R.ay (R.v 7) R.ac) (R.fn cLdraw hLdraw rfl (R.aa (R.v 0) (R.aa (R.op R.bv (R.ax (R.ba (K:=K)) rfl T.b_len aO (R.aa (R.v 2) R.ad)) R.ac) R.ad)))) (R.ax (R.ba (K:=K)) rfl T.b_len aO (R.aa (R.v 2) R.ad))))) (R.ae (R.ao (i:=10) bV.nd (R.az (R.aa (R.aq (R.aa R.af (R.aa (R.v 5) (R.aa (R.v 3) R.ad)))) (R.aa (R.aq (R.aa R.af (R.aa (R.v 5) (R.aa (R.v 3) R.ad)))) (R.aa (R.aq (R.aa R.af (R.aa (R.v 5) (R.aa (R.v 6) (R.aa (R.v 3) R.ad))))) R.ad))))) (R.ae (R.ao (i:=10) bV.nd (R.op R.bh (R.v 10) (R.az (R.aa (R.aq (R.aa R.af (R.aa (R.v 8) (R.aa (R.v 5) (R.aa (R.v 3) R.ad))))) (R.aa (R.aq (R.aa R.af (R.aa (R.v 8) (R.aa (R.v 5) (R.aa (R.v 3) R.ad))))) (R.aa (R.aq (R.aa R.af (R.aa (R.v 8) (R.aa (R.v 9) (R.aa (R.v 5) (R.aa (R.v 3) R.ad)))))) R.ad)))))) (R.ah (R.ai (R.ix (R.av (K:=K)) (R.v 10) (R.fn cLdraw hLdraw rfl (R.aa (R.v 0) (R.aa R.ac R.ad))))))))))))))),?_⟩
  refine bK (fun σ' H'=>∃n:Nat,σ'=[some (.ref d),some (.ref la),some (.ref lb),some (.int (n:Int)),none,none,none,none,none,none,none]/\1<=n/\n<=1000000000000/\Fw d b H H') (fun nx hnx=>?_) ?_
  ·refine⟨d,b,9,rfl,dk,Zd,Zd,fun r1 H1 a0 a1 D1 k1=>⟨⟨Zd,Zd,Zd⟩,d,b,_,rfl,D1,Zd,Zd,fun r2 H2 b0 b1 D2 k2=>⟨eK rfl,fun p hp=>⟨d,b,2,rfl,D2.new hp,Zd,Zd,fun r3 H3 c0 c1 D3 k3=>?_⟩⟩⟩⟩
   have hpd:=D2.ne hp
   have gp:=k3 p _ aA hpd.1 hpd.2
   have ff:=((((Fw.refl dk).draw D1 k1).draw D2 k2).new hp).draw D3 k3
   have b1':r2<1000000000000:=b1
   rcases(by omega:r3=0∨r3=1) with rfl | rfl
   ·refine⟨_,SqL.of gp,_,rfl,hnx _ _ ⟨(1+r1).toNat,?_,Zo,Zo,ff⟩⟩
    rw[Int.toNat_of_nonneg Zo]
    rfl
   ·refine⟨_,SqL.of gp,_,rfl,hnx _ _ ⟨(1+r2).toNat,?_,Zo,Zo,ff⟩⟩
    rw[Int.toNat_of_nonneg Zo]
    rfl
  ·rintro σ' H1 ⟨n,rfl,hn1,hn2,f1⟩
   have ga1:=f1.get ga n1 n2
   have gb1:=f1.get gb n3 n4
   refine⟨_,.inl (SqL.of ga1),d,b,_,rfl,f1.dk,by rw[aZ];omega,by rw[aZ];omega,fun r2 H2 b0 b1 D2 k2=>?_⟩
   rw[aZ]at b1;have f2:=f1.draw D2 k2
   have ga2:=f2.get ga n1 n2
   obtain⟨i,hi,rfl,ei⟩:=fK b0 b1
   dsimp only [aK];refine⟨_,SqL.of ga2,_,ei,?_⟩
   dsimp only [aK];refine⟨_,.inl (SqL.of ga2),d,b,_,rfl,f2.dk,by rw[aZ];omega,by rw[aZ];omega,fun r3 H3 c0 c1 D3 k3=>?_⟩
   rw[aZ]at c1;have f3:=f2.draw D3 k3
   have ga3:=f3.get ga n1 n2
   obtain⟨r3,rfl⟩:∃z:Nat,r3=z:=⟨r3.toNat,Zo⟩
   obtain⟨hj,hji⟩:=Bq (r:=r3) hi Zo
   have ej:((i:Int)+1+(r3:Int)) % ((ws.map V.str).length:Int)=(((i+1+r3) % ws.length:Nat):Int):=by
    rw[aZ,Int.natCast_emod];rfl
   refine⟨_,.inl (SqL.of ga3),by rw[aZ];omega,_,SqL.of ga3,V.str ws[(i+1+r3) % ws.length],?_,?_⟩
   ·rw[ej];exact bJ (by rw[jC,gZ hj];rfl)
   have hne:=Tb mw.of.nd hi hj (fun e=>hji e.symm)
   have nmi:=mw.nm hi
   have nmj:=mw.nm hj
   generalize ws[(i+1+r3) % ws.length]=zb at hne nmj;generalize ws[i]=za at hne nmi;dsimp only [aK];have gb3:=f3.get gb n3 n4
   refine⟨_,.inl (SqL.of gb3),d,b,_,rfl,f3.dk,by rw[aZ];omega,by rw[aZ];omega,fun r4 H4 d0 d1 D4 k4=>?_⟩
   rw[aZ]at d1;have f4:=f3.draw D4 k4
   have gb4:=f4.get gb n3 n4
   obtain⟨u,hu',rfl,eu⟩:=fK d0 d1
   dsimp only [aK];refine⟨_,SqL.of gb4,_,eu,?_⟩
   dsimp only [aK];refine⟨_,.inl (SqL.of gb4),d,b,_,rfl,f4.dk,by rw[aZ];omega,by rw[aZ];omega,fun r5 H5 e0 e1 D5 k5=>?_⟩
   rw[aZ]at e1;have f5:=f4.draw D5 k5
   have gb5:=f5.get gb n3 n4
   obtain⟨r5,rfl⟩:∃z:Nat,r5=z:=⟨r5.toNat,Zo⟩
   obtain⟨hv,hvu⟩:=Bq (r:=r5) hu' Zo
   have ev:((u:Int)+1+(r5:Int)) % ((us.map V.str).length:Int)=(((u+1+r5) % us.length:Nat):Int):=by
    rw[aZ,Int.natCast_emod];rfl
   refine⟨_,.inl (SqL.of gb5),by rw[aZ];omega,_,SqL.of gb5,V.str us[(u+1+r5) % us.length],?_,?_⟩
   ·rw[ev];exact bJ (by rw[jC,gZ hv];rfl)
   have hne2:=Tb mu.of.nd hu' hv (fun e=>hvu e.symm)
   have nmu:=mu.nm hu'
   have nmv:=mu.nm hv
   generalize us[(u+1+r5) % us.length]=zv at hne2 nmv;generalize us[u]=zu at hne2 nmu;dsimp only [aK];refine⟨aL rfl,fun t1 H6 s6 g6=>⟨aL rfl,fun t2 H7 s7 g7=>⟨aL rfl,fun t3 H8 s8 g8=>⟨eK rfl,fun p hp=>?_⟩⟩⟩⟩
   have s58:Same H5 H8:=(s6.trans s7).trans s8
   have f8:=f5.same s58
   have h1:=s8 _ _ (s7 _ _ g6)
   have h2:=s8 _ _ g7
   have gp:(aI H8 p (.lst [.ref t1,.ref t2,.ref t3])) p=some (.lst [.ref t1,.ref t2,.ref t3]):=aA
   have sp:=aF (o:=.lst [.ref t1,.ref t2,.ref t3]) hp
   dsimp only [aK];generalize aI H8 p (.lst [.ref t1,.ref t2,.ref t3])=H9 at gp sp;refine⟨aL rfl,fun t4 Ha sa g4=>⟨aL rfl,fun t5 Hb sb g5=>⟨aL rfl,fun t6 Hc sc g9=>⟨eK rfl,fun p2 hp2=>?_⟩⟩⟩⟩
   have s9c:Same H9 Hc:=(sa.trans sb).trans sc
   have gp2:(aI Hc p2 (.lst [.ref t4,.ref t5,.ref t6])) p2=some (.lst [.ref t4,.ref t5,.ref t6]):=aA
   have sp2:=aF (o:=.lst [.ref t4,.ref t5,.ref t6]) hp2
   generalize aI Hc p2 (.lst [.ref t4,.ref t5,.ref t6])=Hd at gp2 sp2;have s9d:=s9c.trans sp2
   refine⟨_,_,s9d _ _ gp,gp2,eK rfl,fun p3 hp3=>?_⟩
   have fd:=f8.same (sp.trans s9d)
   have hp3d:=fd.dk.ne hp3
   have s8e:Same H8 (aI Hd p3 (.lst ([.ref t1,.ref t2,.ref t3]++[.ref t4,.ref t5,.ref t6]))):=(sp.trans s9d).trans (aF hp3)
   have gt3:(aI Hd p3 (.lst ([.ref t1,.ref t2,.ref t3]++[.ref t4,.ref t5,.ref t6]))) p3=some (.lst [.ref t1,.ref t2,.ref t3,.ref t4,.ref t5,.ref t6]):=aA
   have g4':=(sp2.trans (aF hp3 (o:=.lst ([.ref t1,.ref t2,.ref t3]++[.ref t4,.ref t5,.ref t6])))) _ _ (sc _ _ (sb _ _ g4))
   have g5':=(sp2.trans (aF hp3 (o:=.lst ([.ref t1,.ref t2,.ref t3]++[.ref t4,.ref t5,.ref t6])))) _ _ (sc _ _ g5)
   have g6':=(sp2.trans (aF hp3 (o:=.lst ([.ref t1,.ref t2,.ref t3]++[.ref t4,.ref t5,.ref t6])))) _ _ g9
   have f9:=f8.same s8e
   have h1':=s8e _ _ h1
   have h2':=s8e _ _ h2
   have h3':=s8e _ _ g8
   dsimp only [aK];generalize aI Hd p3 (.lst ([.ref t1,.ref t2,.ref t3]++[.ref t4,.ref t5,.ref t6]))=He at gt3 g4' g5' g6' f9 h1' h2' h3';refine⟨d,b,6,rfl,f9.dk,Zd,Zd,fun r6 Hf i0 i1 Df kf=>?_⟩
   have ff:=f9.draw Df kf
   have F1:=Fw.draw (.refl f9.dk) Df kf
   have gq:=kf _ _ gt3 hp3d.1 hp3d.2
   rcases six i0 i1 with rfl | rfl | rfl | rfl | rfl | rfl
   ·exact⟨_,SqL.of gq,_,rfl,q _ (.add za n) _ ⟨nmi,hn1,hn2⟩ (F1.tup h1') ff⟩
   ·exact⟨_,SqL.of gq,_,rfl,q _ (.take za n) _ ⟨nmi,hn1,hn2⟩ (F1.tup h2') ff⟩
   ·exact⟨_,SqL.of gq,_,rfl,q _ (.move za zb n) _ ⟨nmi,nmj,hne,hn1,hn2⟩ (F1.tup h3') ff⟩
   ·exact⟨_,SqL.of gq,_,rfl,q _ (.send zu za n) _ ⟨nmu,nmi,hn1,hn2⟩ (F1.tup g4') ff⟩
   ·exact⟨_,SqL.of gq,_,rfl,q _ (.fetch zu za n) _ ⟨nmu,nmi,hn1,hn2⟩ (F1.tup g5') ff⟩
   ·exact⟨_,SqL.of gq,_,rfl,q _ (.pass zu zv za n) _ ⟨nmu,nmv,nmi,hne2,hn1,hn2⟩ (F1.tup g6') ff⟩
end
end KL
namespace KL
open PySem L2
section
variable {P:Program} {w:World} {K:W.Frag} {mg:Str->Option Value} {base:Heap}
def gB:Dd->Bool->List Str
 | .add _ _,_=>["is","full"]
 | .take _ _,_=>["is","short"]
 | .move _ _ _,_=>["is","short","full"]
 | .send _ _ _,true=>["is","no"] | .send _ _ _,false=>["short"]
 | .fetch _ _ _,true=>["is","no"] | .fetch _ _ _,false=>["full"]
 | .pass _ _ _ _,true=>["ok","no"] | .pass _ _ _ _,false=>[]
def hX:Sp:=fun vs H Q _=>∃(t:Addr) (x:Dd) (q:Bool),vs=[.ref t,.bl q]/\H t=some (.tup x.vs)/\∀l H',H l=none->H' l=some (.lst ((gB x q).map V.str))->Same H H'->Q (.ref l) H'
def kv6 (v1 v2 v3 v4 v5 v6:V):List (bA × V):=bN (bN (bD [] [(Sum.inr ("add":Str),v1),(Sum.inr ("take":Str),v2),(Sum.inr ("move":Str),v3),(Sum.inr ("pass":Str),v4)]) (Sum.inr ("send":Str)) v5) (Sum.inr ("fetch":Str)) v6
theorem Xn (v1 v2 v3 v4 v5 v6:V) (x:Dd):bC (kv6 v1 v2 v3 v4 v5 v6) (Sum.inr x.wd)=some (match x with | .add _ _=>v1 | .take _ _=>v2 | .move _ _ _=>v3 | .pass _ _ _ _=>v4 | .send _ _ _=>v5 | .fetch _ _ _=>v6):=by
 cases x <;> rfl
theorem xG (x:Dd):mW x.vs 0=some (.str x.wd):=by cases x <;> rfl
theorem Xo (x:Dd):gT (.str x.wd) [.str "add",.str "take",.str "move"]=!x.far:=by cases x <;> rfl
def gW:Dd->List Str
 | .add _ _=>["is","full"] | .take _ _=>["is","short"] | .move _ _ _=>["is","short","full"] | .send _ _ _=>["is","short","no"] | .fetch _ _ _=>["is","full","no"] | .pass _ _ _ _=>["ok","no"]
theorem qF (x:Dd) (h:x.far=false) (q:Bool):gB x q=gW x:=by cases x <;> first | rfl | cases h
theorem oY (x:Dd) (h:x.far=true) (q:Bool):gB x q=(gW x).filter fun z=>(gT (.str z) [.str "short",.str "full"]) != q:=by cases x <;> cases q <;> first | rfl | cases h
theorem Kt (x:Dd):(gW x).length<=3:=by cases x <;> exact Nat.le_of_ble_eq_true rfl
theorem cU {H:Hp} {p:Addr} {kvs:List (bA × V)} (e:H p=some (.dK kvs)) (kvs':List (bA × V)) {c:Addr} {o:HO} (ec:H c=some o) (ne:∀z,o≠.dK z):(aI H p (.dK kvs')) c=some o:=by
 rw[aD (fun z=>by rw[z,e]at ec;cases ec;exact ne _ rfl)];exact ec
theorem cO {H H1:Hp} {p:Addr} {o:HO} (hp:H p=none) (s:Same H H1):Same H (aI H1 p o):=fun c u e=>by
 rw[aD (aE e hp)];exact s _ _ e
theorem Ku (T:Txt K mg) (D:DefAt K mg "_law_words" fH ["_law_deed_here","_law_asked"]):aG P w K mg base 1 "_law_words" ["_law_deed_here","_law_asked"] hX:=by
 refine D.go iV (fun vs H Q E h=>?_) (fun f cdv A outer s H vs Q E hr h=>?_)
 ·obtain⟨t,x,q,rfl,_⟩:=h;rfl
 ·obtain⟨t,x,qq,rfl,gt,q⟩:=h
  have hu1:=jK hr
  refine⟨_,(R.ae (R.ao (i:=2) iV.nd (R.fu (R.cv R.af (R.az (R.aa R.af (R.aa R.af R.ad))) (R.cv R.af (R.az (R.aa R.af (R.aa R.af R.ad))) (R.cv R.af (R.az (R.aa R.af (R.aa R.af (R.aa R.af R.ad)))) (R.cv R.af (R.az (R.aa R.af (R.aa R.af R.ad))) R.gs)))))) (R.ae (R.db (R.az (R.aa R.af (R.aa R.af (R.aa R.af R.ad)))) (R.de (R.v 2) R.af (R.dj hu1))) (R.ae (R.db (R.az (R.aa R.af (R.aa R.af (R.aa R.af R.ad)))) (R.de (R.v 2) R.af (R.dj hu1))) (R.ae (R.ao (i:=3) iV.nd (R.dz hu1 (R.v 2) (R.ix (R.ag (K:=K)) (R.v 0) R.ac))) (R.ae (R.ar (R.al (R.bc (K:=K)) (R.ix (R.ag (K:=K)) (R.v 0) R.ac) (R.aq (R.aa R.af (R.aa R.af (R.aa R.af R.ad))))) (R.ah (R.ai (R.v 3))) R.au) (R.ah (R.ai (R.bi rfl (js:=[none,some 1]) (N:=["_law_word","_law_asked"]) (CompScope.by (aB fH) ["_law_deed_here","_law_asked","_law_words_here","_law_some"] rfl rfl Zk) (aP rfl) (R.bj (K:=K) (R.v 3)) (fun C s₂ H₂ fp=>⟨(R.gn (i:=0) (show(["_law_word","_law_asked"]:List Str).Nodup by decide +kernel)),(R.bq (R.al R.ne (R.aw (R.bc (K:=K)) (R.v 0) (R.aq (R.aa R.af (R.aa R.af R.ad)))) (R.v 1))),(R.v 0)⟩))))))))),?_⟩
  refine fun p hp=>?_
  have g0:(aI H p (.dK [])) p=some (.dK []):=aA
  have s0:=aF (o:=.dK []) hp
  generalize aI H p (.dK [])=H0 at g0 s0;refine⟨eK rfl,fun p1 hp1=>⟨eK rfl,fun p2 hp2=>⟨eK rfl,fun p3 hp3=>⟨eK rfl,fun p4 hp4=>?_⟩⟩⟩⟩
  have s1:=aF (o:=.lst [.str "is",.str "full"]) hp1
  have i1:(aI H0 p1 (.lst [.str "is",.str "full"])) p1=_:=aA
  have f1:H p1=none:=s0.free hp1
  generalize aI H0 p1 (.lst [.str "is",.str "full"])=H1 at s1 i1 hp2 hp3 hp4 ⊢;have s2:=aF (o:=.lst [.str "is",.str "short"]) hp2
  have i2:(aI H1 p2 (.lst [.str "is",.str "short"])) p2=_:=aA
  have f2:H p2=none:=(s0.trans s1).free hp2
  generalize aI H1 p2 (.lst [.str "is",.str "short"])=H2 at s2 i2 hp3 hp4 ⊢;have s3:=aF (o:=.lst [.str "is",.str "short",.str "full"]) hp3
  have i3:(aI H2 p3 (.lst [.str "is",.str "short",.str "full"])) p3=_:=aA
  have f3:H p3=none:=((s0.trans s1).trans s2).free hp3
  generalize aI H2 p3 (.lst [.str "is",.str "short",.str "full"])=H3 at s3 i3 hp4 ⊢;have s4:=aF (o:=.lst [.str "ok",.str "no"]) hp4
  have i4:(aI H3 p4 (.lst [.str "ok",.str "no"])) p4=_:=aA
  have f4:H p4=none:=(((s0.trans s1).trans s2).trans s3).free hp4
  generalize aI H3 p4 (.lst [.str "ok",.str "no"])=H4 at s4 i4 ⊢;have S04:Same H0 H4:=((s1.trans s2).trans s3).trans s4
  have g4:=S04 _ _ g0
  refine⟨g4,[(Sum.inr ("add":Str),.ref p1),(Sum.inr ("take":Str),.ref p2),(Sum.inr ("move":Str),.ref p3),(Sum.inr ("pass":Str),.ref p4)],rfl,Nat.le_of_ble_eq_true rfl,?_⟩
  have S4:Same H H4:=s0.trans S04
  replace i1:=s4 _ _ (s3 _ _ (s2 _ _ i1))
  replace i2:=s4 _ _ (s3 _ _ i2)
  replace i3:=s4 _ _ i3
  show yB _ _ _ [some (.ref t),some (.bl qq),some (.ref p),none] (aI H4 p (.dK (bD [] [(Sum.inr ("add":Str),.ref p1),(Sum.inr ("take":Str),.ref p2),(Sum.inr ("move":Str),.ref p3),(Sum.inr ("pass":Str),.ref p4)])))
  generalize hk:bD [] [(Sum.inr ("add":Str),V.ref p1),(Sum.inr ("take":Str),.ref p2),(Sum.inr ("move":Str),.ref p3),(Sum.inr ("pass":Str),.ref p4)]=kv4;have l4:kv4.length=4:=by rw[<- hk];rfl
  have S5:Same H (aI H4 p (.dK kv4)):=cO hp S4
  have g5:(aI H4 p (.dK kv4)) p=_:=aA
  replace i1:=cU g4 kv4 i1 (fun _ z=>nomatch z)
  replace i2:=cU g4 kv4 i2 (fun _ z=>nomatch z)
  replace i3:=cU g4 kv4 i3 (fun _ z=>nomatch z)
  replace i4:=cU g4 kv4 i4 (fun _ z=>nomatch z)
  generalize aI H4 p (.dK kv4)=H5 at i1 i2 i3 i4 S5 g5 ⊢;refine⟨eK rfl,fun p5 hp5=>⟨p,_,rfl,DPut.k (k:=Sum.inr ("send":Str)) (aN g5 hp5) (oZ (m:=100) Zo Zd),?_⟩⟩
  have f5:H p5=none:=S5.free hp5
  have s6:=aF (o:=.lst [.str "is",.str "short",.str "no"]) hp5
  have i5:(aI H5 p5 (.lst [.str "is",.str "short",.str "no"])) p5=_:=aA
  have g6:=s6 _ _ g5
  generalize aI H5 p5 (.lst [.str "is",.str "short",.str "no"])=H6 at s6 i5 g6 ⊢;generalize hk5:bN kv4 (Sum.inr ("send":Str)) (V.ref p5)=kv5;have l5:kv5.length<=5:=by rw[<- hk5];exact kN (dW _ _ _) Zo
  have S7:Same H (aI H6 p (.dK kv5)):=cO hp (S5.trans s6)
  have g7:(aI H6 p (.dK kv5)) p=_:=aA
  replace i1:=cU g6 kv5 (s6 _ _ i1) (fun _ z=>nomatch z)
  replace i2:=cU g6 kv5 (s6 _ _ i2) (fun _ z=>nomatch z)
  replace i3:=cU g6 kv5 (s6 _ _ i3) (fun _ z=>nomatch z)
  replace i4:=cU g6 kv5 (s6 _ _ i4) (fun _ z=>nomatch z)
  replace i5:=cU g6 kv5 i5 (fun _ z=>nomatch z)
  generalize aI H6 p (.dK kv5)=H7 at i1 i2 i3 i4 i5 S7 g7 ⊢;refine⟨eK rfl,fun p6 hp6=>⟨p,_,rfl,DPut.k (k:=Sum.inr ("fetch":Str)) (aN g7 hp6) (oZ (m:=100) Zo Zd),?_⟩⟩
  have f6:H p6=none:=S7.free hp6
  have s8:=aF (o:=.lst [.str "is",.str "full",.str "no"]) hp6
  have i6:(aI H7 p6 (.lst [.str "is",.str "full",.str "no"])) p6=_:=aA
  have g8:=s8 _ _ g7
  generalize aI H7 p6 (.lst [.str "is",.str "full",.str "no"])=H8 at s8 i6 g8 ⊢;generalize hk6:bN kv5 (Sum.inr ("fetch":Str)) (V.ref p6)=kv6';have ek:kv6'=kv6 (.ref p1) (.ref p2) (.ref p3) (.ref p4) (.ref p5) (.ref p6):=by rw[<- hk6,<- hk5,<- hk];rfl
  have S9:Same H (aI H8 p (.dK kv6')):=cO hp (S7.trans s8)
  have g9:(aI H8 p (.dK kv6')) p=_:=aA
  replace i1:=cU g8 kv6' (s8 _ _ i1) (fun _ z=>nomatch z)
  replace i2:=cU g8 kv6' (s8 _ _ i2) (fun _ z=>nomatch z)
  replace i3:=cU g8 kv6' (s8 _ _ i3) (fun _ z=>nomatch z)
  replace i4:=cU g8 kv6' (s8 _ _ i4) (fun _ z=>nomatch z)
  replace i5:=cU g8 kv6' (s8 _ _ i5) (fun _ z=>nomatch z)
  replace i6:=cU g8 kv6' i6 (fun _ z=>nomatch z)
  generalize aI H8 p (.dK kv6')=H9 at i1 i2 i3 i4 i5 i6 S9 g9 ⊢;have key:∃pl:Addr,bC kv6' (Sum.inr x.wd)=some (.ref pl)/\H pl=none/\H9 pl=some (.lst ((gW x).map V.str)):=by
   rw[ek,Xn];cases x with
   | add a n=>exact⟨p1,rfl,f1,i1⟩
   | take a n=>exact⟨p2,rfl,f2,i2⟩
   | move a b n=>exact⟨p3,rfl,f3,i3⟩
   | send a b n=>exact⟨p5,rfl,f5,i5⟩
   | fetch a b n=>exact⟨p6,rfl,f6,i6⟩
   | pass a b c n=>exact⟨p4,rfl,f4,i4⟩
  obtain⟨pl,hv,fl,gl⟩:=key
  have dg:DGet H9 p (.str x.wd) (some (.ref pl)):=by rw[<- hv];exact DGet.k (k:=Sum.inr x.wd) g9
  have gt9:=S9 _ _ gt
  refine⟨_,SqT.of gt9,_,xG x,p,_,rfl,dg,?_⟩
  dsimp only [aK];refine⟨_,SqT.of gt9,_,xG x,aL rfl,fun tq Ha sa ga=>⟨tq,_,rfl,.inr (SqT.of ga),rfl,rfl,?_⟩⟩
  have Sa:Same H Ha:=S9.trans sa
  show if gT (.str x.wd) [.str "add",.str "take",.str "move"]=true then _ else _
  rw[Xo];cases hf:x.far with
  | false=>
   refine Wb rfl ?_
   refine q pl Ha fl ?_ Sa
   rw[qF x hf];exact sa _ _ gl
  | true=>
   refine Wc rfl ?_
   have gla:=sa _ _ gl
   refine⟨pl,rfl,⟨_,SqL.of gla⟩,?_⟩
   refine bT (dB K pl ((gW x).map V.str)) (by have:=Kt x;rw[aZ];omega) (fun i ys H'=>ys=(((gW x).take i).filter fun z=>(gT (.str z) [.str "short",.str "full"]) != qq).map V.str/\Same H H'/\H' pl=some (.lst ((gW x).map V.str))) (fun i ys H' ⟨e,_,gl'⟩=>⟨SqL.of gl',by rw[e,aZ];exact kN (List.length_filter_le _ _) (by rw[jD];omega)⟩) ⟨rfl,Sa,gla⟩ (fun i y ys H' hy ⟨e,S',gl'⟩=>?_) (fun ys H' ⟨e,S',gl'⟩=>?_)
   ·rw[jC]at hy;cases hz:(gW x)[i]? with
    | none=>rw[hz]at hy;cases hy
    | some z=>
     rw[hz]at hy;cases hy
     have key:=take_succ_filter (fun z=>(gT (.str z) [.str "short",.str "full"]) != qq) (gW x) i z hz
     refine⟨aL rfl,fun tp Hb sb gb=>⟨tp,_,rfl,.inr (SqT.of gb),rfl,rfl,?_⟩⟩
     show if (!decide (gT (.str z) [.str "short",.str "full"]=qq))=true then _ else _
     have eb:(!decide (gT (.str z) [.str "short",.str "full"]=qq))=(gT (.str z) [.str "short",.str "full"] != qq):=by cases gT (.str z) [.str "short",.str "full"] <;> cases qq <;> rfl
     rw[eb];refine aQ (fun h=>⟨?_,S'.trans sb,sb _ _ gl'⟩) (fun h=>⟨?_,S'.trans sb,sb _ _ gl'⟩)
     ·rw[key,if_pos h,iB,e];rfl
     ·rw[key,if_neg (by rw[h];exact Bool.false_ne_true),List.append_nil,e]
   ·intro pn hpn;refine q pn _ (S'.free hpn) ?_ (S'.trans (aF hpn))
    rw[aA,e,aZ,vR (bQ _),oY x hf]
end
end KL
namespace KL
open PySem L2
section
variable {P:Program} {w:World} {K:W.Frag} {mg:Str->Option Value} {base:Heap}
def uX:An->Str | .is1 _=>"is" | .is2 _ _=>"is" | .short _=>"short" | .full _=>"full" | .no _=>"no" | .ok=>"ok"
def nO:Sp:=fun vs H Q _=>∃(d b t:Addr) (x:Dd) (z:Str),vs=[.ref d,.ref t,.str z]/\Dk H d b/\H t=some (.tup x.vs)/\x.Ok/\z∈gW x ∧
 ∀(c:Addr) (y:An) (H':Hp),An.Of x y->uX y=z->H' c=some (.tup y.vs)->Fw d b H H'->Q (.ref c) H'
theorem aAU (x:Dd):mW x.vs (-1)=some (.int (x.n:Int)):=by cases x <;> rfl
theorem dF {r:Int} (h:0<=r):∃z:Nat,r=z:=⟨r.toNat,Zo⟩
theorem Ew (T:Txt K mg) (cLdraw:aG P w K mg base 1 "_law_draw" ["_law_deck_here","_law_many"] bF) (cLend:aG P w K mg base 2 "_law_end" ["_law_deck_here","_law_many"] bF)
  (D:DefAt K mg "_law_answer" fR ["_law_deck_here","_law_deed_here","_law_word"]):aG P w K mg base 3 "_law_answer" ["_law_deck_here","_law_deed_here","_law_word"] nO:=by
 refine D.go eZ (fun vs H Q E h=>?_) (fun f cdv A outer s H vs Q E hr h=>?_)
 ·obtain⟨d,b,t,x,z,rfl,_⟩:=h;rfl
 ·obtain⟨d,b,t,x,z,rfl,dk,gt,hx,hz,q⟩:=h
  have hLdraw:Room 1 _:=hr.mono Zd
  have hLend:Room 2 _:=hr.mono Zd
  have hn:=hx.n
  refine⟨_,(R.ae (R.ao (i:=3) eZ.nd (R.ix (R.ag (K:=K)) (R.v 1) (R.bf R.ac))) (R.ae (R.ao (i:=4) eZ.nd (R.fn cLend hLend rfl (R.aa (R.v 0) (R.aa (R.op R.ay (R.op R.bv (R.op R.cn R.ac R.ac) (R.v 3)) R.ac) R.ad)))) (R.ae (R.ao (i:=5) eZ.nd (R.op R.ay (R.v 3) (R.fn cLend hLend rfl (R.aa (R.v 0) (R.aa (R.op R.ay (R.op R.bv (R.op R.cn R.ac R.ac) (R.v 3)) R.ac) R.ad))))) (R.ae (R.ar (R.al R.eq (R.v 2) R.af) (R.ah (R.ai (R.aq (R.aa R.af (R.aa (R.ix (R.ag (K:=K)) (R.v 1) (R.op R.ay R.ac (R.op R.eg (R.fn cLdraw hLdraw rfl (R.aa (R.v 0) (R.aa R.ac R.ad))) (R.ee R.jj rfl T.b_int uD (R.aa (R.aw R.eq (R.ix (R.ag (K:=K)) (R.v 1) R.ac) R.af) R.ad))))) R.ad))))) R.au) (R.ae (R.ar (R.al R.eq (R.v 2) R.af) (R.ah (R.ai (R.aq (R.aa R.af R.ad)))) R.au) (R.ae (R.ar (R.al R.eq (R.v 2) R.af) (R.ah (R.ai (R.aq (R.aa R.af (R.aa (R.fn cLend hLend rfl (R.aa (R.v 0) (R.aa (R.v 3) R.ad))) R.ad))))) R.au) (R.ae (R.ar (R.al R.eq (R.v 2) R.af) (R.ah (R.ai (R.aq (R.aa R.af (R.aa (R.op R.bv (R.op R.cn R.ac R.ac) (R.fn cLend hLend rfl (R.aa (R.v 0) (R.aa (R.v 3) R.ad)))) R.ad))))) R.au) (R.ae (R.ar (R.al R.eq (R.ix (R.ag (K:=K)) (R.v 1) R.ac) R.af) (R.ah (R.ai (R.aq (R.aa R.af (R.aa (R.v 4) (R.aa (R.v 5) R.ad)))))) R.au) (R.ah (R.ai (R.aq (R.aa R.af (R.aa (R.ix (R.av (K:=K)) (R.az (R.aa (R.v 4) (R.aa (R.v 5) R.ad))) (R.ee R.jj rfl T.b_int uD (R.aa (R.aw (R.bc (K:=K)) (R.ix (R.ag (K:=K)) (R.v 1) R.ac) (R.aq (R.aa R.af (R.aa R.af R.ad)))) R.ad))) R.ad))))))))))))),?_⟩
  refine⟨_,SqT.of gt,_,aAU x,?_⟩
  dsimp only [aK];refine⟨⟨Zd,Zd,Zd⟩,d,b,1000000000000 - (x.n:Int)+1,rfl,dk,Zo,Zo,fun r1 H1 a0 a1 D1 k1=>?_⟩
  dsimp only [aK];refine⟨⟨Zd,Zd,Zd⟩,d,b,1000000000000 - (x.n:Int)+1,rfl,D1,Zo,Zo,fun r2 H2 b0 b1 D2 k2=>?_⟩
  dsimp only [aK];have f2:=((Fw.refl dk).draw D1 k1).draw D2 k2
  obtain⟨r1,rfl⟩:=dF a0
  obtain⟨r2,rfl⟩:=dF b0
  have gt2:=f2.tup gt
  have ff:=f2
  dsimp only [yT,mI];show yB _ _ _ [some (.ref d),some (.ref t),some (.str z),some (.int (x.n:Int)),some (.int (r1:Int)),some (.int ((x.n:Int)+(r2:Int)))] H2
  cases x with
  | add a n=>
   simp only [Dd.n]at hn a1 b1
   simp only [gW,List.mem_cons,List.not_mem_nil,or_false]at hz
   rcases hz with rfl | rfl
   ·refine⟨_,SqT.of gt2,_,rfl,⟨eK rfl,fun p hp=>⟨_,SqT.of (aN gt2 hp),_,rfl,aL rfl,fun tq Ha sa ga=>⟨tq,_,rfl,.inr (SqT.of ga),rfl,rfl,⟨_,SqL.of (sa _ _ aA),_,rfl,aL rfl,fun p' H' s' g'=>?_⟩⟩⟩⟩⟩
    refine q p' (.is1 (n+r2)) H' ⟨Zo,Zo⟩ rfl ?_ (((ff.new hp).same sa).same s')
    rw[g'];show some (HO.tup [V.str "is",.int ((n:Int)+(r2:Int))])=some (HO.tup [V.str "is",.int ((n+r2:Nat):Int)])
    rw[show((n+r2:Nat):Int)=(n:Int)+(r2:Int) by omega]
   ·refine⟨⟨Zd,Zd,Zd⟩,d,b,(n:Int),rfl,ff.dk,Zo,Zo,fun r3 H3 c0 c1 D3 k3=>⟨aL rfl,fun p H' s' g'=>?_⟩⟩
    obtain⟨r3,rfl⟩:=dF c0
    refine q p (.full (1000000000000 - r3)) H' ⟨Zo,Zo⟩ rfl ?_ ((ff.draw D3 k3).same s')
    rw[g'];show some (HO.tup [V.str "full",.int ((1000000000000:Int) - (r3:Int))])=some (HO.tup [V.str "full",.int ((1000000000000 - r3:Nat):Int)])
    rw[show((1000000000000 - r3:Nat):Int)=(1000000000000:Int) - (r3:Int) by omega]
  | take a n=>
   simp only [Dd.n]at hn a1 b1
   simp only [gW,List.mem_cons,List.not_mem_nil,or_false]at hz
   rcases hz with rfl | rfl
   ·refine⟨_,SqT.of gt2,_,rfl,⟨eK rfl,fun p hp=>⟨_,SqT.of (aN gt2 hp),_,rfl,aL rfl,fun tq Ha sa ga=>⟨tq,_,rfl,.inr (SqT.of ga),rfl,rfl,⟨_,SqL.of (sa _ _ aA),_,rfl,aL rfl,fun p' H' s' g'=>?_⟩⟩⟩⟩⟩
    exact q p' (.is1 r1) H' (by show r1+n<=1000000000000;omega) rfl g' (((ff.new hp).same sa).same s')
   ·refine⟨d,b,(n:Int),rfl,ff.dk,Zo,Zo,fun r3 H3 c0 c1 D3 k3=>⟨aL rfl,fun p H' s' g'=>?_⟩⟩
    obtain⟨r3,rfl⟩:=dF c0
    exact q p (.short r3) H' (by show r3<n;omega) rfl g' ((ff.draw D3 k3).same s')
  | move a b' n=>
   simp only [Dd.n]at hn a1 b1
   simp only [gW,List.mem_cons,List.not_mem_nil,or_false]at hz
   rcases hz with rfl | rfl | rfl
   ·refine⟨_,SqT.of gt2,_,rfl,aL rfl,fun p H' s' g'=>?_⟩
    refine q p (.is2 r1 (n+r2)) H' ⟨Zo,Zo,Zo⟩ rfl ?_ (ff.same s')
    rw[g'];show some (HO.tup [V.str "is",.int (r1:Int),.int ((n:Int)+(r2:Int))])=some (HO.tup [V.str "is",.int (r1:Int),.int ((n+r2:Nat):Int)])
    rw[show((n+r2:Nat):Int)=(n:Int)+(r2:Int) by omega]
   ·refine⟨d,b,(n:Int),rfl,ff.dk,Zo,Zo,fun r3 H3 c0 c1 D3 k3=>⟨aL rfl,fun p H' s' g'=>?_⟩⟩
    obtain⟨r3,rfl⟩:=dF c0
    exact q p (.short r3) H' (by show r3<n;omega) rfl g' ((ff.draw D3 k3).same s')
   ·refine⟨⟨Zd,Zd,Zd⟩,d,b,(n:Int),rfl,ff.dk,Zo,Zo,fun r3 H3 c0 c1 D3 k3=>⟨aL rfl,fun p H' s' g'=>?_⟩⟩
    obtain⟨r3,rfl⟩:=dF c0
    refine q p (.full (1000000000000 - r3)) H' ⟨Zo,Zo⟩ rfl ?_ ((ff.draw D3 k3).same s')
    rw[g'];show some (HO.tup [V.str "full",.int ((1000000000000:Int) - (r3:Int))])=some (HO.tup [V.str "full",.int ((1000000000000 - r3:Nat):Int)])
    rw[show((1000000000000 - r3:Nat):Int)=(1000000000000:Int) - (r3:Int) by omega]
  | send h a n=>
   simp only [Dd.n]at hn a1 b1
   simp only [gW,List.mem_cons,List.not_mem_nil,or_false]at hz
   rcases hz with rfl | rfl | rfl
   ·refine⟨_,SqT.of gt2,_,rfl,⟨eK rfl,fun p hp=>⟨_,SqT.of (aN gt2 hp),_,rfl,aL rfl,fun tq Ha sa ga=>⟨tq,_,rfl,.inr (SqT.of ga),rfl,rfl,⟨_,SqL.of (sa _ _ aA),_,rfl,aL rfl,fun p' H' s' g'=>?_⟩⟩⟩⟩⟩
    exact q p' (.is1 r1) H' (by show r1+n<=1000000000000;omega) rfl g' (((ff.new hp).same sa).same s')
   ·refine⟨d,b,(n:Int),rfl,ff.dk,Zo,Zo,fun r3 H3 c0 c1 D3 k3=>⟨aL rfl,fun p H' s' g'=>?_⟩⟩
    obtain⟨r3,rfl⟩:=dF c0
    exact q p (.short r3) H' (by show r3<n;omega) rfl g' ((ff.draw D3 k3).same s')
   ·refine⟨d,b,2,rfl,ff.dk,Zd,Zd,fun r3 H3 c0 c1 D3 k3=>⟨_,SqT.of ((ff.draw D3 k3).tup gt),_,rfl,.inl ⟨Zo,Zo⟩,_,SqT.of ((ff.draw D3 k3).tup gt),.str h,?_,aL rfl,fun p H' s' g'=>?_⟩⟩
    ·show mW _ (1+r3*0)=_
     rw[Int.mul_zero];rfl
    ·exact q p (.no h) H' rfl rfl g' ((ff.draw D3 k3).same s')
  | fetch h a n=>
   simp only [Dd.n]at hn a1 b1
   simp only [gW,List.mem_cons,List.not_mem_nil,or_false]at hz
   rcases hz with rfl | rfl | rfl
   ·refine⟨_,SqT.of gt2,_,rfl,⟨eK rfl,fun p hp=>⟨_,SqT.of (aN gt2 hp),_,rfl,aL rfl,fun tq Ha sa ga=>⟨tq,_,rfl,.inr (SqT.of ga),rfl,rfl,⟨_,SqL.of (sa _ _ aA),_,rfl,aL rfl,fun p' H' s' g'=>?_⟩⟩⟩⟩⟩
    refine q p' (.is1 (n+r2)) H' ⟨Zo,Zo⟩ rfl ?_ (((ff.new hp).same sa).same s')
    rw[g'];show some (HO.tup [V.str "is",.int ((n:Int)+(r2:Int))])=some (HO.tup [V.str "is",.int ((n+r2:Nat):Int)])
    rw[show((n+r2:Nat):Int)=(n:Int)+(r2:Int) by omega]
   ·refine⟨⟨Zd,Zd,Zd⟩,d,b,(n:Int),rfl,ff.dk,Zo,Zo,fun r3 H3 c0 c1 D3 k3=>⟨aL rfl,fun p H' s' g'=>?_⟩⟩
    obtain⟨r3,rfl⟩:=dF c0
    refine q p (.full (1000000000000 - r3)) H' ⟨Zo,Zo⟩ rfl ?_ ((ff.draw D3 k3).same s')
    rw[g'];show some (HO.tup [V.str "full",.int ((1000000000000:Int) - (r3:Int))])=some (HO.tup [V.str "full",.int ((1000000000000 - r3:Nat):Int)])
    rw[show((1000000000000 - r3:Nat):Int)=(1000000000000:Int) - (r3:Int) by omega]
   ·refine⟨d,b,2,rfl,ff.dk,Zd,Zd,fun r3 H3 c0 c1 D3 k3=>⟨_,SqT.of ((ff.draw D3 k3).tup gt),_,rfl,.inl ⟨Zo,Zo⟩,_,SqT.of ((ff.draw D3 k3).tup gt),.str h,?_,aL rfl,fun p H' s' g'=>?_⟩⟩
    ·show mW _ (1+r3*0)=_
     rw[Int.mul_zero];rfl
    ·exact q p (.no h) H' rfl rfl g' ((ff.draw D3 k3).same s')
  | pass h g a n=>
   simp only [Dd.n]at hn a1 b1
   simp only [gW,List.mem_cons,List.not_mem_nil,or_false]at hz
   rcases hz with rfl | rfl
   ·refine⟨aL rfl,fun p H' s' g'=>?_⟩
    exact q p .ok H' trivial rfl g' (ff.same s')
   ·refine⟨d,b,2,rfl,ff.dk,Zd,Zd,fun r3 H3 c0 c1 D3 k3=>?_⟩
    rcases(by omega:r3=0∨r3=1) with rfl | rfl
    ·refine⟨_,SqT.of ((ff.draw D3 k3).tup gt),_,rfl,.inl ⟨Zo,Zo⟩,_,SqT.of ((ff.draw D3 k3).tup gt),.str h,rfl,aL rfl,fun p H' s' g'=>?_⟩
     exact q p (.no h) H' (.inl rfl) rfl g' ((ff.draw D3 k3).same s')
    ·refine⟨_,SqT.of ((ff.draw D3 k3).tup gt),_,rfl,.inl ⟨Zo,Zo⟩,_,SqT.of ((ff.draw D3 k3).tup gt),.str g,rfl,aL rfl,fun p H' s' g'=>?_⟩
     exact q p (.no g) H' (.inr rfl) rfl g' ((ff.draw D3 k3).same s')
end
end KL
namespace KL
open PySem L2
section
variable {P:Program} {w:World} {K:W.Frag} {mg:Str->Option Value} {base:Heap}
structure MenusAt (H:Hp) (lm:Addr) (M:List Addr):Prop where
 ex:∃(a0 a1 a2 a3:Addr) (ws us ps ks:List Str),M=[lm,a0,a1,a2,a3]/\H lm=some (.lst [.ref a0,.ref a1,.ref a2,.ref a3])/\H a0=some (.lst (ws.map V.str))/\H a1=some (.lst (us.map V.str))/\H a2=some (.lst (ps.map V.str))/\H a3=some (.lst (ks.map V.str)) ∧
  Menu ws/\Menu us/\(1<=ps.length/\ps.length<=6/\∀z∈ps,fE z)/\1<=ks.length/\ks.length<=6/\∀z∈ks,wU z
theorem MenusAt.keep {H H':Hp} {lm:Addr} {M:List Addr} (h:MenusAt H lm M) (k:∀c∈M,∀o,H c=some o->H' c=some o):MenusAt H' lm M:=by
 obtain⟨a0,a1,a2,a3,ws,us,ps,ks,rfl,h0,h1,h2,h3,h4,r⟩:=h.ex
 exact⟨a0,a1,a2,a3,ws,us,ps,ks,rfl,k _ Zs _ h0,k _ Zs _ h1,k _ Zs _ h2,k _ Zs _ h3,k _ Zs _ h4,r⟩
theorem Fw.menus {d b:Addr} {H H':Hp} {lm:Addr} {M:List Addr} (f:Fw d b H H') (h1:d∉M) (h2:b∉M) (h:MenusAt H lm M):MenusAt H' lm M:=h.keep fun c hc o e=>f.get e (fun z=>h1 (z ▸ hc)) (fun z=>h2 (z ▸ hc))
theorem Fw.put {d b a:Addr} {H H':Hp} {o:HO} (f:Fw d b H H') (hn:H a=none):Fw d b H (aI H' a o):=by
 have hd:=f.d0.ne hn
 refine⟨f.d0,?_,fun c u e n1 n2=>?_⟩
 ·obtain⟨ns,s,k,h1,h2,h3⟩:=f.dk.ex
  exact⟨ns,s,k,by rw[aD (fun z=>hd.1 z.symm)];exact h1,by rw[aD (fun z=>hd.2 z.symm)];exact h2,h3⟩
 ·rw[aD (aE e hn)];exact f.kp _ _ e n1 n2
def lW:Sp:=fun vs H Q _=>∃(d b lm:Addr) (M:List Addr),vs=[.ref d,.ref lm]/\Dk H d b/\MenusAt H lm M/\d∉M/\b∉M/\∀(t:Addr) (p k:Str) (H':Hp),fE p->wU k->H' t=some (.tup [.str p,.str k])->Fw d b H H'->Q (.ref t) H'
theorem Qi (T:Txt K mg) (cLdraw:aG P w K mg base 1 "_law_draw" ["_law_deck_here","_law_many"] bF)
  (D:DefAt K mg "_law_spot" iO ["_law_deck_here","_law_menus_here"]):aG P w K mg base 2 "_law_spot" ["_law_deck_here","_law_menus_here"] lW:=by
 refine D.go xD (fun vs H Q E h=>?_) (fun f cdv A outer s H vs Q E hr h=>?_)
 ·obtain⟨d,b,lm,M,rfl,_⟩:=h;rfl
 ·obtain⟨d,b,lm,M,rfl,dk,hM,hd,hb,q⟩:=h
  have hLdraw:=hr
  obtain⟨a0,a1,a2,a3,ws,us,ps,ks,rfl,h0,h1,h2,h3,h4,mw,mu,⟨p1,p6,pn⟩,k1,k6,kn⟩:=hM.ex
  have nd:∀c∈[lm,a0,a1,a2,a3],c≠d/\c≠b:=fun c hc=>⟨fun z=>hd (z ▸ hc),fun z=>hb (z ▸ hc)⟩
  refine⟨_,(R.ah (R.ai (R.aq (R.aa (R.ix (R.av (K:=K)) (R.ix (R.av (K:=K)) (R.v 1) R.ac) (R.fn cLdraw hLdraw rfl (R.aa (R.v 0) (R.aa (R.ax (R.ba (K:=K)) rfl T.b_len aO (R.aa (R.ix (R.av (K:=K)) (R.v 1) R.ac) R.ad)) R.ad)))) (R.aa (R.ix (R.av (K:=K)) (R.ix (R.av (K:=K)) (R.v 1) R.ac) (R.fn cLdraw hLdraw rfl (R.aa (R.v 0) (R.aa (R.ax (R.ba (K:=K)) rfl T.b_len aO (R.aa (R.ix (R.av (K:=K)) (R.v 1) R.ac) R.ad)) R.ad)))) R.ad))))),?_⟩
  refine⟨_,SqL.of h0,_,rfl,_,SqL.of h0,_,rfl,_,.inl (SqL.of h3),d,b,(ps.length:Int),by rw[aZ],dk,Zo,Zo,fun r1 H1 x0 x1 D1 e1=>?_⟩
  have f1:=(Fw.refl dk).draw D1 e1
  have ge:∀c∈[lm,a0,a1,a2,a3],∀o,H c=some o->H1 c=some o:=fun c hc o e=>f1.get e (nd c hc).1 (nd c hc).2
  obtain⟨i,hi,rfl,ei⟩:=fK x0 x1
  refine⟨_,SqL.of (ge a2 Zs _ h3),_,ei,?_⟩
  refine⟨_,SqL.of (ge lm Zs _ h0),_,rfl,_,SqL.of (ge lm Zs _ h0),_,rfl,_,.inl (SqL.of (ge a3 Zs _ h4)),d,b,(ks.length:Int),by rw[aZ],D1,Zo,Zo,fun r2 H2 y0 y1 D2 e2=>?_⟩
  have f2:=f1.draw D2 e2
  obtain⟨j,hj,rfl,ej⟩:=fK y0 y1
  refine⟨_,SqL.of (f2.get h4 (nd a3 Zs).1 (nd a3 Zs).2),_,ej,aL rfl,fun t H' s' g'=>?_⟩
  exact q t _ _ H' (pn _ (List.getElem_mem hi)) (kn _ (List.getElem_mem hj)) g' (f2.same s')
def uY:Sp:=fun vs H Q _=>∃(d b lm:Addr) (M:List Addr) (n t:Nat),vs=[.ref d,.ref lm,.int (n:Int),.int (t:Int)]/\Dk H d b/\MenusAt H lm M/\d∉M/\b∉M ∧
 ∀(a:Addr) (p k:Str) (x:Dd) (y:An) (H':Hp),fE p->wU k->x.Ok->An.Of x y->RX.At H' a (.kept n t p k x y)->Fw d b H H'->Q (.ref a) H'
theorem kH (x:Dd) (q:Bool):∀z∈gB x q,z∈gW x:=by
 cases hf:x.far with
 | false=>rw[qF x hf];exact fun z h=>h
 | true=>rw[oY x hf];exact fun z h=>(List.mem_filter.mp h).1
theorem hZ (x:Dd):1<=(gB x true++gB x false).length/\(gB x true++gB x false).length<=6:=by cases x <;> exact⟨Nat.le_of_ble_eq_true rfl,Nat.le_of_ble_eq_true rfl⟩
theorem Qj (T:Txt K mg) (cLdraw:aG P w K mg base 1 "_law_draw" ["_law_deck_here","_law_many"] bF) (cLdeed:aG P w K mg base 3 "_law_deed" ["_law_deck_here","_law_names","_law_houses"] iX)
  (cLwords:aG P w K mg base 1 "_law_words" ["_law_deed_here","_law_asked"] hX) (cLanswer:aG P w K mg base 3 "_law_answer" ["_law_deck_here","_law_deed_here","_law_word"] nO) (cLspot:aG P w K mg base 2 "_law_spot" ["_law_deck_here","_law_menus_here"] lW)
  (D:DefAt K mg "_law_kept" iP ["_law_deck_here","_law_menus_here","_law_number","_law_turn"]):aG P w K mg base 4 "_law_kept" ["_law_deck_here","_law_menus_here","_law_number","_law_turn"] uY:=by
 refine D.go gM (fun vs H Q E h=>?_) (fun f cdv A outer s H vs Q E hr h=>?_)
 ·obtain⟨d,b,lm,M,n,t,rfl,_⟩:=h;rfl
 ·obtain⟨d,b,lm,M,n,t,rfl,dk,hM,hd,hb,q⟩:=h
  have hLdraw:Room 1 _:=hr.mono Zd
  have hLdeed:Room 3 _:=hr.mono Zd
  have hLwords:Room 1 _:=hr.mono Zd
  have hLanswer:Room 3 _:=hr.mono Zd
  have hLspot:Room 2 _:=hr.mono Zd
  have hM':=hM
  obtain⟨a0,a1,a2,a3,ws,us,ps,ks,rfl,h0,h1,h2,h3,h4,mw,mu,⟨p1,p6,pn⟩,k1,k6,kn⟩:=hM.ex
  have nd:∀c∈[lm,a0,a1,a2,a3],c≠d/\c≠b:=fun c hc=>⟨fun z=>hd (z ▸ hc),fun z=>hb (z ▸ hc)⟩
  refine⟨_,(R.ae (R.ao (i:=4) gM.nd (R.fn cLdeed hLdeed rfl (R.aa (R.v 0) (R.aa (R.ix (R.av (K:=K)) (R.v 1) R.ac) (R.aa (R.ix (R.av (K:=K)) (R.v 1) R.ac) R.ad))))) (R.ae (R.ao (i:=5) gM.nd (R.op R.bh (R.fn cLwords hLwords rfl (R.aa (R.v 4) (R.aa R.bl R.ad))) (R.fn cLwords hLwords rfl (R.aa (R.v 4) (R.aa R.bl R.ad))))) (R.ae (R.ao (i:=6) gM.nd (R.fn cLanswer hLanswer rfl (R.aa (R.v 0) (R.aa (R.v 4) (R.aa (R.ix (R.av (K:=K)) (R.v 5) (R.fn cLdraw hLdraw rfl (R.aa (R.v 0) (R.aa (R.ax (R.ba (K:=K)) rfl T.b_len aO (R.aa (R.v 5) R.ad)) R.ad)))) R.ad))))) (R.ah (R.ai (R.op R.df (R.op R.df (R.aq (R.aa R.af (R.aa (R.v 2) (R.aa (R.v 3) R.ad)))) (R.fn cLspot hLspot rfl (R.aa (R.v 0) (R.aa (R.v 1) R.ad)))) (R.aq (R.aa (R.v 4) (R.aa (R.v 6) R.ad))))))))),?_⟩
  refine⟨_,SqL.of h0,_,rfl,_,SqL.of h0,_,rfl,d,b,a0,a1,ws,us,rfl,dk,h1,h2,⟨(nd a0 Zs).1,(nd a0 Zs).2,(nd a1 Zs).1,(nd a1 Zs).2⟩,mw,mu,fun td x H1 hx gx f1=>?_⟩
  dsimp only [aK];refine⟨td,x,true,rfl,gx,fun l1 H2 n1 g1 s1=>⟨td,x,false,rfl,s1 _ _ gx,fun l2 H3 n2 g2 s2=>⟨_,_,s2 _ _ g1,g2,?_,fun l3 hl3=>?_⟩⟩⟩
  ·have:=hZ x
   rw[kM]at this;rw[aZ,aZ];exact fA Zo
  have s13:Same H1 (aI H3 l3 (.lst ((gB x true).map V.str++(gB x false).map V.str))):=(s1.trans s2).trans (aF hl3)
  have g3:(aI H3 l3 (.lst ((gB x true).map V.str++(gB x false).map V.str))) l3=some (.lst ((gB x true++gB x false).map V.str)):=by rw[aA,iB]
  have f3:=f1.same s13
  have l3d:=(f1.same (s1.trans s2)).dk.ne hl3
  have gx3:=s13 _ _ gx
  dsimp only [aK];generalize aI H3 l3 (.lst ((gB x true).map V.str++(gB x false).map V.str))=H4 at g3 f3 gx3;have w6:=hZ x
  refine⟨_,.inl (SqL.of g3),d,b,((gB x true++gB x false).length:Int),by rw[aZ],f3.dk,Zo,Zo,fun r H5 r0 r1 D5 e5=>?_⟩
  have f5:=f3.draw D5 e5
  have F5:=(Fw.refl f3.dk).draw D5 e5
  obtain⟨i,hi,rfl,ei⟩:=fK r0 r1
  have hz:(gB x true++gB x false)[i]∈gW x:=by
   rcases Zma.mp (List.getElem_mem hi) with h | h
   ·exact kH x _ _ h
   ·exact kH x _ _ h
  refine⟨_,SqL.of (F5.get g3 l3d.1 l3d.2),_,ei,d,b,td,x,_,rfl,D5,F5.tup gx3,hx,hz,fun c y H6 hy _ gy f6=>?_⟩
  have f06:=f5.trans f6
  dsimp only [aK];refine⟨aL rfl,fun t1 H7 s7 g7=>?_⟩
  have f07:=f06.same s7
  refine⟨d,b,lm,_,rfl,f07.dk,f07.menus hd hb hM',hd,hb,fun t2 p k H8 hp hk g8 f8=>?_⟩
  refine⟨_,_,f8.tup g7,g8,Nat.le_of_ble_eq_true rfl,fun t3 H9 s9 g9=>⟨aL rfl,fun t4 Ha sa ga=>⟨_,_,sa _ _ g9,ga,Nat.le_of_ble_eq_true rfl,fun t5 Hb sb gb=>?_⟩⟩⟩
  have tkb:TK H7 Hb:=f8.tk.trans (((Same.tk s9).trans (Same.tk sa)).trans (Same.tk sb))
  refine q t5 p k x y Hb hp hk hx hy ⟨td,c,gb,?_,?_⟩ (((((f07.trans f8).same s9).same sa).same sb))
  ·exact tkb _ _ (s7 _ _ (f6.tup (F5.tup gx3)))
  ·exact tkb _ _ (s7 _ _ gy)
end
end KL
namespace KL
open PySem L2
section
variable {P:Program} {w:World} {K:W.Frag} {mg:Str->Option Value} {base:Heap}
theorem Fw.free {d b a:Addr} {H H':Hp} (f:Fw d b H H') (h:H' a=none):H a=none:=by
 have hd:=f.dk.ne h
 cases e:H a with
 | none=>rfl
 | some o=>rw[f.kp _ _ e hd.1 hd.2]at h;cases h
structure uZ (rs:List RX):Prop where
 wh:RX.Whole rs
 ok:∀r∈rs,r.Ok
 rk:∀r∈rs,r.rank<=2
 len:rs.length<=13
 nx:∀n t,.next n t∈rs->n<=900006/\t<500000000000
structure Hd1 (n t:Nat) (zs:List Str) (rs:List RX):Prop where
 wh:RX.Whole rs
 ok:∀r∈rs,r.Ok
 nx:∀n' t',.next n' t'∈rs->n'=n/\t'=t
 one:.next n t∈rs
 rk:∀r∈rs,r.rank<=1
 hs:∀z m,.has z m∈rs->z∈zs
theorem aH {α:Type} {xs:List α} {x y:α} (h:y∈xs++[x]):y∈xs∨y=x:=by
 rcases Zma.mp h with h | h
 ·exact .inl h
 ·exact .inr (Zms.mp h)
theorem Hd1.skip {n t:Nat} {zs:List Str} {rs:List RX} (h:Hd1 n t zs rs) (z:Str):Hd1 n t (zs++[z]) rs:=⟨h.wh,h.ok,h.nx,h.one,h.rk,fun y m q=>List.mem_append_left _ (h.hs y m q)⟩
theorem Hd1.step {n t:Nat} {zs:List Str} {rs:List RX} (h:Hd1 n t zs rs) {z:Str} {m:Nat} (hz:∀y∈zs,y.cps.toList<z.cps.toList) (hn:fE z) (h1:1<=m) (h2:m<=1000000000000):Hd1 n t (zs++[z]) (rs++[.has z m]):=by
 refine⟨h.wh.snoc ⟨h.rk,⟨n,t,h.one⟩,fun z' m' q=>hz z' (h.hs _ _ q)⟩,fun r hr=>?_,fun n' t' hr=>?_,List.mem_append_left _ h.one,fun r hr=>?_,fun z' m' hr=>?_⟩
 ·rcases aH hr with hr | rfl
  ·exact h.ok r hr
  ·exact⟨hn,h1,h2⟩
 ·rcases aH hr with hr | hr
  ·exact h.nx _ _ hr
  ·cases hr
 ·rcases aH hr with hr | rfl
  ·exact h.rk r hr
  ·exact bQ _
 ·rcases aH hr with hr | hr
  ·exact List.mem_append_left _ (h.hs _ _ hr)
  ·cases hr;exact List.mem_append_right _ jI
structure Hd2 (n t last:Nat) (rs:List RX):Prop where
 wh:RX.Whole rs
 ok:∀r∈rs,r.Ok
 nx:∀n' t',.next n' t'∈rs->n'=n/\t'=t
 one:.next n t∈rs
 rk:∀r∈rs,r.rank<=2
 kp:∀n' t' p k x y,.kept n' t' p k x y∈rs->n'<=last
theorem Hd2.more {n t last last':Nat} {rs:List RX} (h:Hd2 n t last rs) (hl:last<=last'):Hd2 n t last' rs:=⟨h.wh,h.ok,h.nx,h.one,h.rk,fun n' t' p k x y q=>kN (h.kp n' t' p k x y q) hl⟩
theorem Hd2.step {n t last m u:Nat} {rs:List RX} (h:Hd2 n t last rs) {p k:Str} {x:Dd} {y:An} (hm:last<m) (hmn:m<n) (hn:n<=900006) (hu:u<=t) (ht:t<=1000000000000) (hp:fE p) (hk:wU k) (hx:x.Ok) (hy:An.Of x y):Hd2 n t m (rs++[.kept m u p k x y]):=by
 refine⟨h.wh.snoc ⟨h.rk,⟨n,t,h.one,hmn,hu⟩,fun n' t' p' k' d' y' q=>oZ (h.kp _ _ _ _ _ _ q) hm,hy⟩,fun r hr=>?_,fun n' t' hr=>?_,List.mem_append_left _ h.one,fun r hr=>?_,fun n' t' p' k' x' y' hr=>?_⟩
 ·rcases aH hr with hr | rfl
  ·exact h.ok r hr
  ·exact⟨Zo,Zo,Zo,hp,hk,hx,hy⟩
 ·rcases aH hr with hr | hr
  ·exact h.nx _ _ hr
  ·cases hr
 ·rcases aH hr with hr | rfl
  ·exact h.rk r hr
  ·exact bQ _
 ·rcases aH hr with hr | hr
  ·exact Nat.le_of_lt (oZ (h.kp _ _ _ _ _ _ hr) hm)
  ·cases hr;exact bQ _
theorem aAV {zs:List Str} (hs:zs.Pairwise fun a b=>a.cps.toList<=b.cps.toList) (hn:zs.Nodup) {i:Nat} {z:Str} (h:zs[i]?=some z):∀y∈zs.take i,y.cps.toList<z.cps.toList:=by
 intro y hy;obtain⟨hi,ei⟩:=Zgs.mp h
 obtain⟨j,hj,ej⟩:=List.getElem_of_mem hy
 rw[jD]at hj;rw[List.getElem_take]at ej;have h1:=(List.pairwise_iff_getElem.mp hs) j i Zo hi Zo
 have h2:=(List.pairwise_iff_getElem.mp hn) j i Zo hi Zo
 rw[ej,ei]at h1 h2;rcases List.le_iff_lt_or_eq.mp h1 with h3 | h3
 ·exact h3
 ·exact absurd (by rw[pR y,pR z,h3]) h2
def Br:Sp:=fun vs H Q _=>∃(d b lm:Addr) (M:List Addr),vs=[.ref d,.ref lm]/\Dk H d b/\MenusAt H lm M/\d∉M/\b∉M ∧
 ∀(ra:Addr) (rs:List RX) (as:List Addr) (H':Hp),H ra=none->RxsAt H' ra rs as->uZ rs->Fw d b H H'->Q (.ref ra) H'
theorem Qk (T:Txt K mg) (cLdraw:aG P w K mg base 1 "_law_draw" ["_law_deck_here","_law_many"] bF) (cLend:aG P w K mg base 2 "_law_end" ["_law_deck_here","_law_many"] bF)
  (cLkept:aG P w K mg base 4 "_law_kept" ["_law_deck_here","_law_menus_here","_law_number","_law_turn"] uY)
  (D:DefAt K mg "_law_head" iQ ["_law_deck_here","_law_menus_here"]):aG P w K mg base 5 "_law_head" ["_law_deck_here","_law_menus_here"] Br:=by
 refine D.go cR (fun vs H Q E h=>?_) (fun f cdv A outer s H vs Q E hr h=>?_)
 ·obtain⟨d,b,lm,M,rfl,_⟩:=h;rfl
 ·obtain⟨d,b,lm,M,rfl,dk,hM,hd,hb,q⟩:=h
  have hLdraw:Room 1 _:=hr.mono Zd
  have hLend:Room 2 _:=hr.mono Zd
  have hLkept:Room 4 _:=hr.mono Zd
  refine⟨_,(R.ae (R.ao (i:=2) cR.nd (R.ix (R.av (K:=K)) (R.az (R.aa (R.op R.ay R.ac (R.fn cLdraw hLdraw rfl (R.aa (R.v 0) (R.aa R.ac R.ad)))) (R.aa (R.op R.ay R.ac (R.fn cLdraw hLdraw rfl (R.aa (R.v 0) (R.aa R.ac R.ad)))) R.ad))) (R.fn cLdraw hLdraw rfl (R.aa (R.v 0) (R.aa R.ac R.ad))))) (R.ae (R.ao (i:=3) cR.nd (R.fn cLend hLend rfl (R.aa (R.v 0) (R.aa (R.op R.eg R.ac (R.op R.cn R.ac R.ac)) R.ad)))) (R.ae (R.ao (i:=4) cR.nd (R.az (R.aa (R.aq (R.aa R.af (R.aa (R.v 2) (R.aa (R.v 3) R.ad)))) R.ad))) (R.ae (R.dh PassesOwn.never rfl (R.bj (K:=K) (R.ax (R.ik (K:=K)) rfl T.b_sorted Eb (R.aa (R.ix (R.av (K:=K)) (R.v 1) R.ac) R.ad))) (R.gn (i:=5) cR.nd) (R.ah (R.ar (R.al R.gt (R.fn cLdraw hLdraw rfl (R.aa (R.v 0) (R.aa R.ac R.ad))) R.ac) (R.ah (R.bz (R.bw (K:=K) PySem.F.plainAttrs_list PySem.F.slot_list_append PySem.F.type_list_append R.dl (R.v 4) (R.aa (R.aq (R.aa R.af (R.aa (R.v 5) (R.aa (R.op R.ay R.ac (R.fn cLend hLend rfl (R.aa (R.v 0) (R.aa (R.op R.cn R.ac R.ac) R.ad)))) R.ad)))) R.ad)))) R.au))) (R.ae (R.ao (i:=6) cR.nd R.ac) (R.ae (R.dh PassesOwn.never rfl (R.dw rfl T.b_range (R.aa (R.fn cLdraw hLdraw rfl (R.aa (R.v 0) (R.aa R.ac R.ad))) R.ad)) (R.gn (i:=7) cR.nd) (R.ae (R.ao (i:=6) cR.nd (R.op R.ay (R.op R.ay (R.v 6) R.ac) (R.ix (R.av (K:=K)) (R.az (R.aa R.ac (R.aa R.ac (R.aa (R.fn cLdraw hLdraw rfl (R.aa (R.v 0) (R.aa R.ac R.ad))) R.ad)))) (R.fn cLdraw hLdraw rfl (R.aa (R.v 0) (R.aa R.ac R.ad)))))) (R.ah (R.ar (R.al R.lt (R.v 6) (R.v 2)) (R.ah (R.bz (R.bw (K:=K) PySem.F.plainAttrs_list PySem.F.slot_list_append PySem.F.type_list_append R.dl (R.v 4) (R.aa (R.fn cLkept hLkept rfl (R.aa (R.v 0) (R.aa (R.v 1) (R.aa (R.v 6) (R.aa (R.fn cLend hLend rfl (R.aa (R.v 0) (R.aa (R.op R.ay (R.v 3) R.ac) R.ad))) R.ad))))) R.ad)))) R.au)))) (R.ah (R.ai (R.v 4))))))))),?_⟩
  refine bK (fun σ' H'=>∃n:Nat,σ'=[some (.ref d),some (.ref lm),some (.int (n:Int)),none,none,none,none,none]/\1<=n/\n<=900006/\Fw d b H H') (fun nx hnx=>?_) ?_
  ·refine⟨d,b,12,rfl,dk,Zd,Zd,fun r1 H1 a0 a1 D1 k1=>⟨d,b,900000,rfl,D1,Zd,Zd,fun r2 H2 b0 b1 D2 k2=>⟨eK rfl,fun p hp=>⟨d,b,2,rfl,D2.new hp,Zd,Zd,fun r3 H3 c0 c1 D3 k3=>?_⟩⟩⟩⟩
   have hpd:=D2.ne hp
   have gp:=k3 p _ aA hpd.1 hpd.2
   have ff:=((((Fw.refl dk).draw D1 k1).draw D2 k2).new hp).draw D3 k3
   rcases(by omega:r3=0∨r3=1) with rfl | rfl
   ·refine⟨_,SqL.of gp,_,rfl,hnx _ _ ⟨(1+r1).toNat,?_,Zo,Zo,ff⟩⟩
    rw[Int.toNat_of_nonneg Zo]
    rfl
   ·refine⟨_,SqL.of gp,_,rfl,hnx _ _ ⟨(7+r2).toNat,?_,Zo,Zo,ff⟩⟩
    rw[Int.toNat_of_nonneg Zo]
    rfl
  ·rintro σ' H1 ⟨n,rfl,hn1,hn2,f1⟩
   refine⟨⟨Zd,Zd,Zd⟩,.inl ⟨Zd,Zd⟩,d,b,500000000000,rfl,f1.dk,Zd,Zd,fun t H2 t0 t1 D2 k2=>?_⟩
   obtain⟨t,rfl⟩:=dF t0
   have f2:=f1.draw D2 k2
   dsimp only [aK];refine⟨aL rfl,fun a1 H3 s3 g3=>⟨eK rfl,fun ra hra=>?_⟩⟩
   have f3:=f2.same s3
   have fra:=f3.free hra
   have f4:=f3.new (o:=.lst [.ref a1]) hra
   have R4:RxsAt (aI H3 ra (.lst [.ref a1])) ra [.next n t] [a1]:=⟨aA,.cons (aN g3 hra) .nil⟩
   dsimp only [aK];generalize aI H3 ra (.lst [.ref a1])=H4 at f4 R4;have hM4:=f4.menus hd hb hM
   have hM':=hM4
   obtain⟨a0,a1',a2,a3,ws,us,ps,ks,rfl,h0,h1,h2,h3,h4,mw,mu,⟨p1,p6,pn⟩,k1,k6,kn⟩:=hM4.ex
   refine bK (fun σ' H'=>∃(rs:List RX) (as:List Addr) (o5:Option V),σ'=[some (.ref d),some (.ref lm),some (.int (n:Int)),some (.int (t:Int)),some (.ref ra),o5,none,none]/\RxsAt H' ra rs as/\Fw d b H H'/\rs.length<=7/\Hd1 n t (vT ws) rs) (fun nx hnx=>?_) ?_
   ·refine⟨_,SqL.of h0,_,rfl,ws,.inl (SqL.of h1),by have:=mw.six;omega,fun ls hls=>⟨ls,rfl,⟨_,SqL.of aA⟩,?_⟩⟩
    have hlr:ls≠ra:=(aE R4.lst hls).symm
    have f5:=f4.new (o:=.lst ((vT ws).map V.str)) hls
    have R5:=R4.same (aF (o:=.lst ((vT ws).map V.str)) hls)
    have hld:=f4.dk.ne hls
    have w6:=mw.six
    have fls:=f4.free hls
    refine fN (dB K ls ((vT ws).map V.str)) (fun i σ' H'=>∃(rs:List RX) (as:List Addr) (o5:Option V),σ'=[some (.ref d),some (.ref lm),some (.int (n:Int)),some (.int (t:Int)),some (.ref ra),o5,none,none]/\RxsAt H' ra rs as/\Fw d b H H'/\H' ls=some (.lst ((vT ws).map V.str))/\rs.length<=1+i/\Hd1 n t ((vT ws).take i) rs) (fun i σ' H' ⟨_,_,_,_,_,_,e,_⟩=>SqL.of e)
     ⟨[.next n t],[a1],_,rfl,R5,f5,aA,bQ _,?_⟩ ?_ ?_
    ·refine⟨RX.Whole.snoc .nil rfl,fun r hr=>?_,fun n' t' hr=>?_,jI,fun r hr=>?_,fun z m hr=>?_⟩
     ·rw[Zms.mp hr];exact⟨hn1,Zo,Zo⟩
     ·cases Zms.mp hr;exact⟨rfl,rfl⟩
     ·rw[Zms.mp hr];exact Nat.zero_le _
     ·cases Zms.mp hr
    ·rintro i x σ' H6 hx ⟨rs,as,o5,rfl,R6,f6,g6,l6,hd6⟩
     rw[jC]at hx;cases hz:(vT ws)[i]? with
     | none=>rw[hz]at hx;cases hx
     | some z=>
      rw[hz]at hx;cases hx
      have hi:i<(vT ws).length:=(Zgs.mp hz).1
      rw[uG]at hi;have hzm:z∈ws:=(lM ws).mem_iff.mp (jW hz)
      have hrise:=aAV (pS ws) ((lM ws).nodup_iff.mpr mw.of.nd) hz
      have etk:(vT ws).take (i+1)=(vT ws).take i++[z]:=by rw[List.take_add_one,hz];rfl
      dsimp only [aK];refine⟨d,b,3,rfl,f6.dk,Zd,Zd,fun r H7 r0 r1 D7 k7=>?_⟩
      have f7:=f6.draw D7 k7
      have F7:=(Fw.refl f6.dk).draw D7 k7
      have hrd:=f6.d0.ne fra
      have R7:=R6.keep F7.tk (F7.get R6.lst hrd.1 hrd.2)
      have g7:=F7.get g6 hld.1 hld.2
      refine aQ (fun _=>?_) (fun _=>?_)
      ·refine⟨.inl ⟨rfl,_,SqL.of R7.lst⟩,⟨Zd,Zd,Zd⟩,d,b,1000000000000,rfl,D7,Zd,Zd,fun m H8 m0 m1 D8 k8=>⟨aL rfl,fun ta H9 s9 g9=>?_⟩⟩
       obtain⟨m,rfl⟩:=dF m0
       have f8:=f7.draw D8 k8
       have F8:=(Fw.refl D7).draw D8 k8
       have f9:=f8.same s9
       have R9:=(R7.keep F8.tk (F8.get R7.lst hrd.1 hrd.2)).same s9
       have g9':=s9 _ _ (F8.get g7 hld.1 hld.2)
       have lr:=R9.len
       refine⟨ra,_,_,rfl,rfl,R9.lst,by rw[aZ];exact oZ (m:=1000) Zo Zd,?_⟩
       refine⟨rs++[.has z (1+m)],as++[ta],_,rfl,R9.snoc (fZ R9.lst) ?_ aA,f9.put fra,by rw[aD hlr];exact g9',by simp;omega,?_⟩
       ·have:=fZ R9.lst (ys:=as.map V.ref++[.ref ta]) _ _ g9
        show _=some (HO.tup [V.str "has",.str z,.int ((1+m:Nat):Int)])
        rw[this,show((1+m:Nat):Int)=1+(m:Int) by omega]
       ·rw[etk];exact hd6.step hrise (mw.of.of z hzm) Zo Zo
      ·refine⟨rs,as,_,rfl,R7,f7,g7,Zo,?_⟩
       rw[etk];exact hd6.skip z
    ·rintro σ' H6 ⟨rs,as,o5,rfl,R6,f6,g6,l6,hd6⟩
     refine hnx _ _ ⟨rs,as,o5,rfl,R6,f6,?_,?_⟩
     ·rw[aZ,uG]at l6;omega
     ·rw[aZ,vR (bQ _)]at hd6;exact hd6
   ·rintro σ' H5 ⟨rs,as,o5,rfl,R5,f5,l5,hd5⟩
    have hrd:=f5.d0.ne fra
    refine⟨d,b,7,rfl,f5.dk,Zd,Zd,fun r7 H6 r0 r1 D6 k6=>⟨r7,rfl,Zo,Zo,?_⟩⟩
    have F6:=(Fw.refl f5.dk).draw D6 k6
    have f6:=f5.draw D6 k6
    have R6:=R5.keep F6.tk (F6.get R5.lst hrd.1 hrd.2)
    refine fN (dZ 0 r7.toNat) (fun i σ' H'=>∃(rs:List RX) (as:List Addr) (last:Nat) (o7:Option V),σ'=[some (.ref d),some (.ref lm),some (.int (n:Int)),some (.int (t:Int)),some (.ref ra),o5,some (.int (last:Int)),o7]/\RxsAt H' ra rs as/\Fw d b H H'/\rs.length<=7+i/\last<=9*i/\Hd2 n t last rs) (fun _ _ _ _=>trivial)
     ⟨rs,as,0,_,rfl,R6,f6,Zo,bQ _,⟨hd5.wh,hd5.ok,hd5.nx,hd5.one,fun r hr=>Nat.le_succ_of_le (hd5.rk r hr),fun n' t' p k x y q=>absurd (hd5.rk _ q) (by show ¬ (2<=1);decide)⟩⟩ ?_ ?_
    ·rintro i x σ' H7 hx ⟨rs,as,last,o7,rfl,R7,f7,l7,la7,hd7⟩
     obtain⟨rfl,hi⟩:=lC hx
     dsimp only [aK];refine bK (fun σ' H'=>∃(m:Nat),σ'=[some (.ref d),some (.ref lm),some (.int (n:Int)),some (.int (t:Int)),some (.ref ra),o5,some (.int (m:Int)),some (.int (i:Int))]/\last<m/\m<=last+9/\RxsAt H' ra rs as/\Fw d b H H') (fun nx' hnx'=>?_) ?_
     ·refine⟨d,b,9,rfl,f7.dk,Zd,Zd,fun r8 H8 x0 x1 D8 k8=>⟨eK rfl,fun p hp=>⟨d,b,3,rfl,D8.new hp,Zd,Zd,fun r9 H9 y0 y1 D9 k9=>?_⟩⟩⟩
      obtain⟨r8,rfl⟩:=dF x0
      have hpd:=D8.ne hp
      have gp:=k9 p _ aA hpd.1 hpd.2
      have F9:=(((Fw.refl f7.dk).draw D8 k8).new hp).draw D9 k9
      have R9:=R7.keep F9.tk (F9.get R7.lst hrd.1 hrd.2)
      have f9:=f7.trans F9
      rcases(by omega:r9=0∨r9=1∨r9=2) with rfl | rfl | rfl
      ·refine⟨_,SqL.of gp,_,rfl,hnx' _ _ ⟨last+1,?_,Zo,Zo,R9,f9⟩⟩
       rw[show((last+1:Nat):Int)=(last:Int)+1+0 by omega];rfl
      ·refine⟨_,SqL.of gp,_,rfl,hnx' _ _ ⟨last+1,?_,Zo,Zo,R9,f9⟩⟩
       rw[show((last+1:Nat):Int)=(last:Int)+1+0 by omega];rfl
      ·refine⟨_,SqL.of gp,_,rfl,hnx' _ _ ⟨last+1+r8,?_,Zo,Zo,R9,f9⟩⟩
       rw[show((last+1+r8:Nat):Int)=(last:Int)+1+(r8:Int) by omega];rfl
     ·rintro σ' H8 ⟨m,rfl,m1,m2,R8,f8⟩
      refine aQ (fun hlt=>?_) (fun _=>?_)
      ·have hmn:m<n:=by have:=of_decide_eq_true hlt;omega
       refine⟨.inl ⟨rfl,_,SqL.of R8.lst⟩,d,b,(t:Int)+1,rfl,f8.dk,Zo,Zo,fun u H9 u0 u1 D9 k9=>?_⟩
       obtain⟨u,rfl⟩:=dF u0
       have F9:=(Fw.refl f8.dk).draw D9 k9
       have f9:=f8.trans F9
       have R9:=R8.keep F9.tk (F9.get R8.lst hrd.1 hrd.2)
       refine⟨d,b,lm,_,m,u,rfl,D9,f9.menus hd hb hM,hd,hb,fun ta p k x y Ha hp hk hxo hy at_ fa=>?_⟩
       have Ra:=R9.keep fa.tk (fa.get R9.lst hrd.1 hrd.2)
       have lr:=Ra.len
       refine⟨ra,_,_,rfl,rfl,Ra.lst,by rw[aZ];exact oZ (m:=1000) Zo Zd,?_⟩
       refine⟨rs++[.kept m u p k x y],as++[ta],m,_,rfl,Ra.snoc (fZ Ra.lst) (at_.tk (fZ Ra.lst)) aA,(f9.trans fa).put fra,by simp;omega,Zo,?_⟩
       exact hd7.step m1 hmn hn2 Zo Zo hp hk hxo hy
      ·exact⟨rs,as,m,_,rfl,R8,f8,Zo,Zo,hd7.more (Nat.le_of_lt m1)⟩
    ·rintro σ' H7 ⟨rs,as,last,o7,rfl,R7,f7,l7,la7,hd7⟩
     refine q ra rs as H7 fra R7 ⟨hd7.wh,hd7.ok,hd7.rk,?_,fun n' t' hr=>?_⟩ f7
     ·rw[eJ]at l7;omega
     ·obtain⟨rfl,rfl⟩:=hd7.nx _ _ hr
      exact⟨Zo,Zo⟩
end
end KL
namespace KL
open PySem L2
section
variable {P:Program} {w:World} {K:W.Frag} {mg:Str->Option Value} {base:Heap}
theorem zO:("abcdefghijklmnopqrstuvwxyz":Str)=tx LET:=by rw[pR ("abcdefghijklmnopqrstuvwxyz":Str),yW]
theorem Ql:("abcdefghijklmnopqrstuvwxyz":Str)++("0123456789":Str)=tx KLET:=by rw[pR ("abcdefghijklmnopqrstuvwxyz":Str),yW,pR ("0123456789":Str),Wg,uA];rfl
theorem kI {H:Hp} {a l:Addr} {ws:List Str} {xs:List Addr} (h1:H a=some (.lst (ws.map V.str))) (h2:1<=ws.length) (h3:H l=some (.lst (xs.map V.ref))):a≠l:=by
 intro e;rw[e,h3]at h1;cases ws with
 | nil=>cases h2
 | cons w ws=>
  cases xs with
  | nil=>cases h1
  | cons x xs=>cases h1
theorem Xp:LET.Nodup:=by decide
theorem aAW:KLET.Nodup:=by decide
def xH:Sp:=fun vs H Q _=>∃(d b:Addr),vs=[.ref d]/\Dk H d b/\∀(lm:Addr) (M:List Addr) (H':Hp),MenusAt H' lm M->d∉M->b∉M->Fw d b H H'->Q (.ref lm) H'
theorem aAX {d a0 a1 a2 a3 a4:Addr} (h0:a0≠d) (h1:a1≠d) (h2:a2≠d) (h3:a3≠d) (h4:a4≠d):d∉[a0,a1,a2,a3,a4]:=by
 intro h;simp only [List.mem_cons,List.not_mem_nil,or_false]at h
 rcases h with h | h | h | h | h
 ·exact h0 h.symm
 ·exact h1 h.symm
 ·exact h2 h.symm
 ·exact h3 h.symm
 ·exact h4 h.symm
theorem WordsOf.nm {ws:List Str} (h:WordsOf LET 8 ws):∀z∈ws,fE z:=fun z hz=>h.of z hz
theorem WordsOf.ky {ws:List Str} (h:WordsOf KLET 12 ws):∀z∈ws,wU z:=fun z hz=>h.of z hz
theorem Kv (T:Txt K mg) (cLdraw:aG P w K mg base 1 "_law_draw" ["_law_deck_here","_law_many"] bF) (cLunlike:aG P w K mg base 2 "_law_unlike" ["_law_deck_here","_law_signs","_law_longest","_law_many"] sU)
  (D:DefAt K mg "_law_menus" gJ ["_law_deck_here"]):aG P w K mg base 3 "_law_menus" ["_law_deck_here"] xH:=by
 refine D.go iW (fun vs H Q E h=>?_) (fun f cdv A outer s H vs Q E hr h=>?_)
 ·obtain⟨d,b,rfl,_⟩:=h;rfl
 ·obtain⟨d,b,rfl,dk,q⟩:=h
  have hLdraw:Room 1 _:=hr.mono Zd
  have hLunlike:Room 2 _:=hr.mono Zd
  refine⟨_,(R.ae (R.ao (i:=1) iW.nd R.af) (R.ae (R.ao (i:=2) iW.nd (R.az (R.aa (R.fn cLunlike hLunlike rfl (R.aa (R.v 0) (R.aa (R.v 1) (R.aa R.ac (R.aa (R.op R.ay R.ac (R.fn cLdraw hLdraw rfl (R.aa (R.v 0) (R.aa R.ac R.ad)))) R.ad))))) R.ad))) (R.ae (R.bz (R.bw (K:=K) PySem.F.plainAttrs_list PySem.F.slot_list_append PySem.F.type_list_append R.dl (R.v 2) (R.aa (R.fn cLunlike hLunlike rfl (R.aa (R.v 0) (R.aa (R.v 1) (R.aa R.ac (R.aa (R.op R.ay R.ac (R.fn cLdraw hLdraw rfl (R.aa (R.v 0) (R.aa R.ac R.ad)))) R.ad))))) R.ad))) (R.ae (R.bz (R.bw (K:=K) PySem.F.plainAttrs_list PySem.F.slot_list_append PySem.F.type_list_append R.dl (R.v 2) (R.aa (R.fn cLunlike hLunlike rfl (R.aa (R.v 0) (R.aa (R.v 1) (R.aa R.ac (R.aa (R.op R.ay R.ac (R.fn cLdraw hLdraw rfl (R.aa (R.v 0) (R.aa R.ac R.ad)))) R.ad))))) R.ad))) (R.ae (R.bz (R.bw (K:=K) PySem.F.plainAttrs_list PySem.F.slot_list_append PySem.F.type_list_append R.dl (R.v 2) (R.aa (R.fn cLunlike hLunlike rfl (R.aa (R.v 0) (R.aa (R.op R.ic (R.v 1) R.af) (R.aa R.ac (R.aa (R.op R.ay R.ac (R.fn cLdraw hLdraw rfl (R.aa (R.v 0) (R.aa R.ac R.ad)))) R.ad))))) R.ad))) (R.ah (R.ai (R.v 2)))))))),?_⟩
  refine⟨d,b,5,rfl,dk,Zd,Zd,fun r1 H1 x0 x1 D1 e1=>?_⟩
  obtain⟨r1,rfl⟩:=dF x0
  refine⟨d,b,LET,8,2+r1,by rw[<- zO,show((2+r1:Nat):Int)=2+(r1:Int) by omega];rfl,D1,Zo,Zo,Zd,Xp,by show 2+r1<=26;omega,Zd,fun a0 ws H2 hw lw g0 n0 m0 D2 e2=>⟨eK rfl,fun lm hlm=>?_⟩⟩
  have f2:=((Fw.refl dk).draw D1 e1).draw D2 e2
  have nl:=D2.ne hlm
  have f3:=f2.new (o:=.lst [.ref a0]) hlm
  have gl:(aI H2 lm (.lst [.ref a0])) lm=some (.lst ([a0].map V.ref)):=aA
  replace g0:=aN (u:=.lst [.ref a0]) g0 hlm
  dsimp only [aK];generalize aI H2 lm (.lst [.ref a0])=H3 at f3 gl g0;refine⟨.inl ⟨rfl,_,SqL.of gl⟩,d,b,5,rfl,f3.dk,Zd,Zd,fun r2 H4 x0 x1 D4 e4=>?_⟩
  obtain⟨r2,rfl⟩:=dF x0
  refine⟨d,b,LET,8,2+r2,by rw[<- zO,show((2+r2:Nat):Int)=2+(r2:Int) by omega];rfl,D4,Zo,Zo,Zd,Xp,by show 2+r2<=26;omega,Zd,fun a1 us H5 hu lu g1 n1 m1 D5 e5=>?_⟩
  have f5:=(f3.draw D4 e4).draw D5 e5
  have F5:=((Fw.refl f3.dk).draw D4 e4).draw D5 e5
  replace gl:=F5.get gl nl.1 nl.2
  replace g0:=F5.get g0 n0 m0
  have w01:=kI g0 Zo gl
  have w11:=kI g1 Zo gl
  refine⟨lm,_,_,rfl,rfl,gl,oZ (m:=100) (Nat.le_of_ble_eq_true rfl) Zd,?_⟩
  have f6:=f5.put (f2.free hlm) (o:=.lst ([a0].map V.ref++[.ref a1]))
  replace gl:(aI H5 lm (.lst ([a0].map V.ref++[.ref a1]))) lm=some (.lst ([a0,a1].map V.ref)):=aA
  replace g0:(aI H5 lm (.lst ([a0].map V.ref++[.ref a1]))) a0=_:=(aD w01).trans g0
  replace g1:(aI H5 lm (.lst ([a0].map V.ref++[.ref a1]))) a1=_:=(aD w11).trans g1
  generalize aI H5 lm (.lst ([a0].map V.ref++[.ref a1]))=H6 at f6 gl g0 g1;refine⟨.inl ⟨rfl,_,SqL.of gl⟩,d,b,6,rfl,f6.dk,Zd,Zd,fun r3 H7 x0 x1 D7 e7=>?_⟩
  obtain⟨r3,rfl⟩:=dF x0
  refine⟨d,b,LET,8,1+r3,by rw[<- zO,show((1+r3:Nat):Int)=1+(r3:Int) by omega];rfl,D7,Zo,Zo,Zd,Xp,by show 1+r3<=26;omega,Zd,fun a2 ps H8 hp lp g2 n2 m2 D8 e8=>?_⟩
  have f8:=(f6.draw D7 e7).draw D8 e8
  have F8:=((Fw.refl f6.dk).draw D7 e7).draw D8 e8
  replace gl:=F8.get gl nl.1 nl.2
  replace g0:=F8.get g0 n0 m0
  replace g1:=F8.get g1 n1 m1
  have w21:=kI g2 Zo gl
  refine⟨lm,_,_,rfl,rfl,gl,oZ (m:=100) (Nat.le_of_ble_eq_true rfl) Zd,?_⟩
  have f9:=f8.put (f2.free hlm) (o:=.lst ([a0,a1].map V.ref++[.ref a2]))
  replace gl:(aI H8 lm (.lst ([a0,a1].map V.ref++[.ref a2]))) lm=some (.lst ([a0,a1,a2].map V.ref)):=aA
  replace g0:(aI H8 lm (.lst ([a0,a1].map V.ref++[.ref a2]))) a0=_:=(aD w01).trans g0
  replace g1:(aI H8 lm (.lst ([a0,a1].map V.ref++[.ref a2]))) a1=_:=(aD w11).trans g1
  replace g2:(aI H8 lm (.lst ([a0,a1].map V.ref++[.ref a2]))) a2=_:=(aD w21).trans g2
  generalize aI H8 lm (.lst ([a0,a1].map V.ref++[.ref a2]))=H9 at f9 gl g0 g1 g2;refine⟨.inl ⟨rfl,_,SqL.of gl⟩,fA Zk,d,b,6,rfl,f9.dk,Zd,Zd,fun r4 Ha x0 x1 Da ea=>?_⟩
  obtain⟨r4,rfl⟩:=dF x0
  refine⟨d,b,KLET,12,1+r4,by rw[<- Ql,show((1+r4:Nat):Int)=1+(r4:Int) by omega];rfl,Da,Zo,Zo,Zd,aAW,by show 1+r4<=36;omega,Zd,fun a3 ks Hb hk lk g3 n3 m3 Db eb=>?_⟩
  have fb:=(f9.draw Da ea).draw Db eb
  have Fb:=((Fw.refl f9.dk).draw Da ea).draw Db eb
  replace gl:=Fb.get gl nl.1 nl.2
  replace g0:=Fb.get g0 n0 m0
  replace g1:=Fb.get g1 n1 m1
  replace g2:=Fb.get g2 n2 m2
  have w31:=kI g3 Zo gl
  refine⟨lm,_,_,rfl,rfl,gl,oZ (m:=100) (Nat.le_of_ble_eq_true rfl) Zd,?_⟩
  have fc:=fb.put (f2.free hlm) (o:=.lst ([a0,a1,a2].map V.ref++[.ref a3]))
  replace gl:(aI Hb lm (.lst ([a0,a1,a2].map V.ref++[.ref a3]))) lm=some (.lst ([a0,a1,a2,a3].map V.ref)):=aA
  replace g0:(aI Hb lm (.lst ([a0,a1,a2].map V.ref++[.ref a3]))) a0=_:=(aD w01).trans g0
  replace g1:(aI Hb lm (.lst ([a0,a1,a2].map V.ref++[.ref a3]))) a1=_:=(aD w11).trans g1
  replace g2:(aI Hb lm (.lst ([a0,a1,a2].map V.ref++[.ref a3]))) a2=_:=(aD w21).trans g2
  replace g3:(aI Hb lm (.lst ([a0,a1,a2].map V.ref++[.ref a3]))) a3=_:=(aD w31).trans g3
  generalize aI Hb lm (.lst ([a0,a1,a2].map V.ref++[.ref a3]))=Hc at fc gl g0 g1 g2 g3;have mw:Menu ws:=⟨hw,Zo,Zo⟩
  have mu:Menu us:=⟨hu,Zo,Zo⟩
  have hM:MenusAt Hc lm [lm,a0,a1,a2,a3]:=⟨a0,a1,a2,a3,ws,us,ps,ks,rfl,gl,g0,g1,g2,g3,mw,mu,⟨Zo,Zo,hp.nm⟩,Zo,Zo,hk.ky⟩
  have od:=aAX nl.1 n0 n1 n2 n3
  have ob:=aAX nl.2 m0 m1 m2 m3
  exact q lm _ Hc hM od ob fc
end
end KL
namespace KL
open PySem L2
section
variable {P:Program} {w:World} {K:W.Frag} {mg:Str->Option Value} {base:Heap}
def Kw (H:Hp) (e:Addr) (n:Nat) (t:Addr) (x:Dd) (q:Bool):Prop:=H e=some (.lst [.int (n:Int),.ref t,.bl q])/\H t=some (.tup x.vs)
theorem Bs (x:Dd):gT (.str x.wd) [.str "send",.str "fetch",.str "pass"]=x.far:=by cases x <;> rfl
def bH:RX->Str | .next _ _=>"next" | .has _ _=>"has" | .kept _ _ _ _ _ _=>"kept" | .came _ _ _ _ _=>"came" | .asked _=>"asked" | .done _ _ _=>"done"
def Kx:RX->V | .next n _=>.int (n:Int) | .has z _=>.str z | .kept n _ _ _ _ _=>.int (n:Int) | .came n _ _ _ _=>.int (n:Int) | .asked n=>.int (n:Int) | .done n _ _=>.int (n:Int)
def Ky:RX->V | .next _ t=>.int (t:Int) | .has _ m=>.int (m:Int) | .kept _ t _ _ _ _=>.int (t:Int) | .came _ t _ _ _=>.int (t:Int) | .asked _=>.non | .done _ t _=>.int (t:Int)
theorem bO {H:Hp} {a:Addr} {r:RX} (h:r.At H a):∃xs,H a=some (.tup xs)/\mW xs 0=some (.str (bH r))/\mW xs 1=some (Kx r)/\(Ky r≠.non->mW xs 2=some (Ky r)):=by
 cases r with
 | next n t=>exact⟨_,h,rfl,rfl,fun _=>rfl⟩
 | has z m=>exact⟨_,h,rfl,rfl,fun _=>rfl⟩
 | kept n t p k d y=>obtain⟨b,c,h1,h2,h3⟩:=h;exact⟨_,h1,rfl,rfl,fun _=>rfl⟩
 | came n t p k d=>obtain⟨b,h1,h2⟩:=h;exact⟨_,h1,rfl,rfl,fun _=>rfl⟩
 | asked n=>exact⟨_,h,rfl,rfl,fun z=>absurd rfl z⟩
 | done n t y=>obtain⟨b,h1,h2⟩:=h;exact⟨_,h1,rfl,rfl,fun _=>rfl⟩
structure Un where
 n:Nat
 x:Dd
 q:Bool
 e:Addr
 t:Addr
theorem Kz {us:List Un} (h:(us.map (·.n)).Nodup) {i j:Nat} {u v:Un} (hi:us[i]?=some u) (hj:us[j]?=some v) (hn:i≠j):u.n≠v.n:=by
 intro e;obtain⟨hi1,hi2⟩:=Zgs.mp hi
 obtain⟨hj1,hj2⟩:=Zgs.mp hj
 have p:=List.pairwise_iff_getElem.mp h
 rcases Nat.lt_or_gt_of_ne hn with z | z
 ·have:=p i j (by simpa using hi1) (by simpa using hj1) z
  simp only [List.getElem_map,hi2,hj2]at this
  exact this e
 ·have:=p j i (by simpa using hj1) (by simpa using hi1) z
  simp only [List.getElem_map,hi2,hj2]at this
  exact this e.symm
theorem lX {α:Type} {us:List α} {j:Nat} {u v:α} (h:v∈us.set j u):v=u∨∃i,i≠j/\us[i]?=some v:=by
 obtain⟨i,hi,e⟩:=List.getElem_of_mem h
 rw[List.getElem_set]at e;split at e
 ·exact .inl e.symm
 ·rename_i hne
  rw[List.length_set]at hi;exact .inr ⟨i,fun z=>hne z.symm,by rw[gZ hi,e]⟩
theorem Bt (x:Dd):∀v∈x.vs,eC v=true:=by
 intro v hv;cases x <;> simp only [Dd.vs,List.mem_cons,List.not_mem_nil,or_false]at hv <;> rcases hv with rfl | rfl | rfl | rfl | rfl <;> rfl
theorem Dk.put' {H':Hp} {d b:Addr} {o:HO} {a:Addr} (D:Dk H' d b) (h1:a≠d) (h2:a≠b):Dk (aI H' a o) d b:=by
 obtain⟨ns,s,k,e1,e2,e3⟩:=D.ex
 exact⟨ns,s,k,by rw[aD h1.symm];exact e1,by rw[aD h2.symm];exact e2,e3⟩
theorem Xq {us:List Un} (h:(us.map (·.e)).Nodup) {i j:Nat} {u v:Un} (hi:us[i]?=some u) (hj:us[j]?=some v) (hn:i≠j):u.e≠v.e:=by
 intro e;obtain⟨hi1,hi2⟩:=Zgs.mp hi
 obtain⟨hj1,hj2⟩:=Zgs.mp hj
 have p:=List.pairwise_iff_getElem.mp h
 rcases Nat.lt_or_gt_of_ne hn with z | z
 ·have:=p i j (by simpa using hi1) (by simpa using hj1) z
  simp only [List.getElem_map,hi2,hj2]at this
  exact this e
 ·have:=p j i (by simpa using hj1) (by simpa using hi1) z
  simp only [List.getElem_map,hi2,hj2]at this
  exact this e.symm
theorem lY {r:RX} (h:bH r="next"):∃n t,r=.next n t:=by
 cases r with
 | next n t=>exact⟨n,t,rfl⟩
 | has z m=>exact absurd (show("has":Str)="next" from h) Zk
 | kept n t p k x y=>exact absurd (show("kept":Str)="next" from h) Zk
 | came n t p k x=>exact absurd (show("came":Str)="next" from h) Zk
 | asked n=>exact absurd (show("asked":Str)="next" from h) Zk
 | done n t y=>exact absurd (show("done":Str)="next" from h) Zk
theorem Bu {r:RX} (h:bH r="kept"):∃n t p k x y,r=.kept n t p k x y:=by
 cases r with
 | kept n t p k x y=>exact⟨n,t,p,k,x,y,rfl⟩
 | has z m=>exact absurd (show("has":Str)="kept" from h) Zk
 | next n t=>exact absurd (show("next":Str)="kept" from h) Zk
 | came n t p k x=>exact absurd (show("came":Str)="kept" from h) Zk
 | asked n=>exact absurd (show("asked":Str)="kept" from h) Zk
 | done n t y=>exact absurd (show("done":Str)="kept" from h) Zk
theorem zP {r:RX} (h:bH r="has"):∃z m,r=.has z m:=by
 cases r with
 | has z m=>exact⟨z,m,rfl⟩
 | next n t=>exact absurd (show("next":Str)="has" from h) Zk
 | kept n t p k x y=>exact absurd (show("kept":Str)="has" from h) Zk
 | came n t p k x=>exact absurd (show("came":Str)="has" from h) Zk
 | asked n=>exact absurd (show("asked":Str)="has" from h) Zk
 | done n t y=>exact absurd (show("done":Str)="has" from h) Zk
theorem vA {r:RX} (h:bH r="came"):∃n t p k x,r=.came n t p k x:=by
 cases r with
 | came n t p k x=>exact⟨n,t,p,k,x,rfl⟩
 | has z m=>exact absurd (show("has":Str)="came" from h) Zk
 | next n t=>exact absurd (show("next":Str)="came" from h) Zk
 | kept n t p k x y=>exact absurd (show("kept":Str)="came" from h) Zk
 | asked n=>exact absurd (show("asked":Str)="came" from h) Zk
 | done n t y=>exact absurd (show("done":Str)="came" from h) Zk
theorem Bv {r:RX} (h:bH r="done"):∃n t y,r=.done n t y:=by
 cases r with
 | done n t y=>exact⟨n,t,y,rfl⟩
 | has z m=>exact absurd (show("has":Str)="done" from h) Zk
 | next n t=>exact absurd (show("next":Str)="done" from h) Zk
 | kept n t p k x y=>exact absurd (show("kept":Str)="done" from h) Zk
 | asked n=>exact absurd (show("asked":Str)="done" from h) Zk
 | came n t p k x=>exact absurd (show("came":Str)="done" from h) Zk
theorem cE {α:Type} {xs:List α} {i:Nat} {x:α} (h:xs[i]?=some x):xs.take (i+1)=xs.take i++[x]:=by rw[List.take_add_one,h];rfl
theorem fV {rs:List RX} (h:RX.Whole rs) {n t t':Nat} {p k p' k':Str} {x x':Dd} (h1:.came n t p k x∈rs) (h2:.came n t' p' k' x'∈rs):RX.came n t p k x=.came n t' p' k' x':=by
 induction h with
 | nil=>cases h1
 | snoc hw hf ih=>
  rcases aH h1 with h1 | h1
  ·rcases aH h2 with h2 | h2
   ·exact ih h1 h2
   ·rw[<- h2]at hf;exact absurd (hf.1 _ _ _ _ _ h1) (Nat.lt_irrefl _)
  ·rcases aH h2 with h2 | h2
   ·rw[<- h1]at hf;exact absurd (hf.1 _ _ _ _ _ h2) (Nat.lt_irrefl _)
   ·rw[h1,h2]
end
end KL
namespace KL
open PySem L2
section
variable {P:Program} {w:World} {K:W.Frag} {mg:Str->Option Value} {base:Heap}
def dS (ps:List RX) (w:Str):Option RX:=ps.foldl (fun o r=>if bH r=w then some r else o) none
theorem dG (ps:List RX) (r:RX) (w:Str):dS (ps++[r]) w=if bH r=w then some r else dS ps w:=by
 unfold dS;rw[List.foldl_append];rfl
def cP (ps:List RX):Nat:=ps.foldl (fun _ r=>r.rank) 0
theorem gX (ps:List RX) (r:RX):cP (ps++[r])=r.rank:=by unfold cP;rw[List.foldl_append];rfl
def kS:RX->Bool | .next _ _=>true | .came _ _ _ _ _=>true | .done _ _ _=>true | _=>false
def cH (ps:List RX):Nat:=ps.foldl (fun t r=>if kS r=true then r.turn else t) 0
theorem kT (ps:List RX) (r:RX):cH (ps++[r])=if kS r=true then r.turn else cH ps:=by unfold cH;rw[List.foldl_append];rfl
theorem Bw {r:RX} (h:¬ kS r=true):r.turn=0:=by cases r <;> first | rfl | exact absurd rfl h
theorem qG {ps:List RX} (h:RX.Whole ps):∀ {w:Str} {r:RX},dS ps w=some r->r∈ps/\bH r=w:=by
 induction h with
 | nil=>intro w r e;cases e
 | @snoc rs q _ _ ih=>
  intro w r e;rw[dG]at e;split at e
  ·cases e;exact⟨List.mem_append_right _ jI,by assumption⟩
  ·exact⟨List.mem_append_left _ (ih e).1,(ih e).2⟩
theorem iA {ps:List RX} (h:RX.Whole ps):∀ {r:RX},r∈ps->dS ps (bH r)≠none:=by
 induction h with
 | nil=>intro r e;cases e
 | @snoc rs q _ _ ih=>
  intro r e;rw[dG];rcases aH e with e | rfl
  ·split
   ·intro z;cases z
   ·exact ih e
  ·rw[if_pos rfl];intro z;cases z
theorem Qm {ps:List RX} (h:RX.Whole ps):∀q∈ps,q.rank<=cP ps:=by
 induction h with
 | nil=>intro q e;cases e
 | @snoc rs r _ hf ih=>
  intro q e;rw[gX];rcases aH e with e1 | rfl
  ·cases r with
   | next n t=>rw[show rs=[] from hf]at e1;cases e1
   | has z m=>exact hf.1 q e1
   | kept n t p k d y=>exact hf.1 q e1
   | came n t p k d=>cases q <;> (show _<=3;exact Nat.le_of_ble_eq_true rfl)
   | asked n=>cases q <;> (show _<=3;exact Nat.le_of_ble_eq_true rfl)
   | done n t y=>cases q <;> (show _<=3;exact Nat.le_of_ble_eq_true rfl)
  ·exact bQ _
theorem gC {ps:List RX} (h:RX.Whole ps) (k:Nat):(∀q∈ps,q.rank<=k)↔cP ps<=k:=by
 refine⟨fun z=>?_,fun z q hq=>kN (Qm h q hq) z⟩
 cases h with
 | nil=>exact Nat.zero_le _
 | @snoc rs r _ _=>rw[gX];exact z r (List.mem_append_right _ jI)
theorem lZ {ps:List RX} (h:RX.Whole ps):∀k:Nat,(∀q∈ps,q.turn<=k)↔cH ps<=k:=by
 induction h with
 | nil=>intro k;exact⟨fun _=>Nat.zero_le _,fun _ q e=>nomatch e⟩
 | @snoc rs r hw hf ih=>
  intro k;rw[kT];refine⟨fun z=>?_,fun z q hq=>?_⟩
  ·split
   ·exact z r (List.mem_append_right _ jI)
   ·exact(ih k).mp fun q hq=>z q (List.mem_append_left _ hq)
  ·rcases aH hq with hq1 | rfl
   ·split at z
    ·cases r with
     | next n t=>rw[show rs=[] from hf]at hq1;cases hq1
     | came n t p k d=>exact kN (hf.2.2 q hq1) z
     | done n t y=>exact kN (hf.1 q hq1) z
     | _=>rename_i hh;cases hh
    ·exact(ih k).mpr z q hq1
   ·split at z
    ·exact z
    ·rename_i hh;rw[Bw hh];exact Nat.zero_le _
theorem kJ {ps:List RX} (h:RX.Whole ps):∀ {n t n' t':Nat},.next n t∈ps->.next n' t'∈ps->n=n'/\t=t':=by
 induction h with
 | nil=>intro n t n' t' e;cases e
 | @snoc rs r hw hf ih=>
  have no:∀ {n t n' t':Nat},r=.next n t->.next n' t'∉rs:=fun e m=>by rw[e]at hf;rw[show rs=[] from hf]at m;cases m
  intro n t n' t' e1 e2;rcases aH e1 with z1 | z1
  ·rcases aH e2 with z2 | z2
   ·exact ih z1 z2
   ·exact absurd z1 (no z2.symm)
  ·rcases aH e2 with z2 | z2
   ·exact absurd z2 (no z1.symm)
   ·rw[<- z1]at z2;cases z2;exact⟨rfl,rfl⟩
theorem Lk {ps:List RX} (h:RX.Whole ps):∀ {z:Str} {m:Nat},dS ps "has"=some (.has z m)->∀z' m',.has z' m'∈ps->z'=z∨z'.cps.toList<z.cps.toList:=by
 induction h with
 | nil=>intro z m e;cases e
 | @snoc rs r hw hf ih=>
  intro z m e z' m' hm;rw[dG]at e;split at e
  ·cases e
   rcases aH hm with hm | hm
   ·exact .inr (hf.2.2 _ _ hm)
   ·cases hm;exact .inl rfl
  ·rename_i hh
   rcases aH hm with hm | hm
   ·exact ih e _ _ hm
   ·subst hm;exact absurd rfl hh
theorem Ey {ps:List RX} (h:RX.Whole ps):∀ {n t:Nat} {p k:Str} {x:Dd} {y:An},dS ps "kept"=some (.kept n t p k x y)->∀n' t' p' k' x' y',.kept n' t' p' k' x' y'∈ps->n'<=n:=by
 induction h with
 | nil=>intro n t p k x y e;cases e
 | @snoc rs r hw hf ih=>
  intro n t p k x y e n' t' p' k' x' y' hm;rw[dG]at e;split at e
  ·cases e
   rcases aH hm with hm | hm
   ·exact Nat.le_of_lt (hf.2.2.1 _ _ _ _ _ _ hm)
   ·cases hm;exact bQ _
  ·rename_i hh
   rcases aH hm with hm | hm
   ·exact ih e _ _ _ _ _ _ hm
   ·subst hm;exact absurd rfl hh
theorem Ez {ps:List RX} (h:RX.Whole ps):∀ {n t:Nat} {p k:Str} {x:Dd},dS ps "came"=some (.came n t p k x)->∀n' t' p' k' x',.came n' t' p' k' x'∈ps->n'<=n:=by
 induction h with
 | nil=>intro n t p k x e;cases e
 | @snoc rs r hw hf ih=>
  intro n t p k x e n' t' p' k' x' hm;rw[dG]at e;split at e
  ·cases e
   rcases aH hm with hm | hm
   ·exact Nat.le_of_lt (hf.1 _ _ _ _ _ hm)
   ·cases hm;exact bQ _
  ·rename_i hh
   rcases aH hm with hm | hm
   ·exact ih e _ _ _ _ _ hm
   ·subst hm;exact absurd rfl hh
def qH (y:An):Prop:=∃x:Dd,x.Ok/\An.Of x y
def cI:RX->Prop
 | .kept _ _ _ _ d y=>d.Ok/\An.Of d y
 | .came _ _ _ _ d=>d.Ok
 | .done _ _ y=>qH y
 | .has _ m=>m<=1000000000000
 | _=>True
theorem Qn {y:An} (hy:qH y) {g:Str} (e:y=.no g):fE g:=by
 obtain⟨d,hd,h⟩:=hy
 subst e;cases d with
 | send u a n=>rw[show g=u from h];exact hd.1
 | fetch u a n=>rw[show g=u from h];exact hd.1
 | pass u g' a n=>
  rcases(show g=u∨g=g' from h) with rfl | rfl
  ·exact hd.1
  ·exact hd.2.1
 | _=>exact h.elim
theorem zQ {ps:List RX} (h:RX.Whole ps) (ho:∀r∈ps,r.Ok):∀r∈ps,cI r:=by
 induction h with
 | nil=>intro r e;cases e
 | @snoc rs r hw hf ih=>
  intro q hq;have ho':∀r∈rs,r.Ok:=fun r hr=>ho r (List.mem_append_left _ hr)
  rcases aH hq with hq | rfl
  ·exact ih ho' q hq
  ·have:=ho q (List.mem_append_right _ jI)
   cases q with
   | kept n t p k d y=>exact⟨this.2.2.2.2.2.1,this.2.2.2.2.2.2⟩
   | came n t p k d=>exact this.2.2.2.2.2
   | has z m=>exact this.2.2
   | done n t y=>
    obtain⟨_,_,t0,p,k,d,hm,hof,_⟩:=hf
    exact⟨d,(ho' _ hm).2.2.2.2.2,hof⟩
   | _=>trivial
def qI (rs:List RX):Option Nat->Prop
 | none=>RX.Whole rs
 | some i=>∃r,rs[i]?=some r/\RX.Whole (rs.take i)/\¬ RX.Fits (rs.take i) r
theorem mE {rs:List RX} (h:RX.Whole rs):∀ {i:Nat} {r:RX},rs[i]?=some r->RX.Whole (rs.take i)/\RX.Fits (rs.take i) r:=by
 induction h with
 | nil=>intro i r e;cases e
 | @snoc rs q hw hf ih=>
  intro i r e;by_cases hi:i<rs.length
  ·rw[List.getElem?_append_left hi]at e;rw[List.take_append_of_le_length (Nat.le_of_lt hi)];exact ih e
  ·rw[List.getElem?_append_right Zo]at e
   have:i=rs.length:=by
    have:=(Zgs.mp e).1
    simp at this;omega
   subst this;rw[Nat.sub_self]at e;cases e
   rw[List.take_left];exact⟨hw,hf⟩
theorem xI {rs:List RX} {o o':Option Nat} (h:qI rs o) (h':qI rs o'):o=o':=by
 have key:∀ {i j:Nat},qI rs (some i)->qI rs (some j)->¬ i<j:=fun {i j} hi hj hij=>by
  obtain⟨r,e1,_,n1⟩:=hi
  obtain⟨_,_,w2,_⟩:=hj
  have e:(rs.take j)[i]?=some r:=by rw[List.getElem?_take_of_lt hij];exact e1
  have:=(mE w2 e).2
  rw[List.take_take,Nat.min_eq_left (Nat.le_of_lt hij)]at this;exact n1 this
 cases o with
 | none=>cases o' with
  | none=>rfl
  | some j=>obtain⟨r,e,_,n⟩:=h';exact absurd (mE h e).2 n
 | some i=>cases o' with
  | none=>obtain⟨r,e,_,n⟩:=h;exact absurd (mE h' e).2 n
  | some j=>
   have h1:=key h h'
   have h2:=key h' h
   rw[show i=j by omega]
def Fa:Option Nat->V | none=>.non | some i=>.int (i:Int)
end
end KL
namespace KL
open PySem L2
section
variable {P:Program} {w:World} {K:W.Frag} {mg:Str->Option Value} {base:Heap}
def dQ:Dd->List (Str × List V)
 | .send h a n=>[(h,[.str "add",.str a,.int (n:Int)])]
 | .fetch h a n=>[(h,[.str "take",.str a,.int (n:Int)])]
 | .pass h g a n=>[(h,[.str "take",.str a,.int (n:Int)]),(g,[.str "add",.str a,.int (n:Int)])]
 | _=>[]
theorem zR {d:Dd} (h:d.Ok):DWN d.wd (d.n:Int) d.vs (dQ d):=by
 cases d with
 | add a n=>exact⟨⟨a,a,a,_,.add⟩,(fun q hq=>nomatch hq)⟩
 | take a n=>exact⟨⟨a,a,a,_,.take⟩,(fun q hq=>nomatch hq)⟩
 | move a b n=>exact⟨⟨a,b,a,_,.move⟩,(fun q hq=>nomatch hq)⟩
 | send g a n=>exact⟨⟨g,a,a,_,.send⟩,fun q hq=>by rw[Zms.mp hq];exact h.1⟩
 | fetch g a n=>exact⟨⟨g,a,a,_,.fetch⟩,fun q hq=>by rw[Zms.mp hq];exact h.1⟩
 | pass g g' a n=>exact⟨⟨g,g',a,_,.pass⟩,fun q hq=>by
   simp only [dQ,List.mem_cons,List.not_mem_nil,or_false]at hq
   rcases hq with rfl | rfl
   ·exact h.1
   ·exact h.2.1⟩
theorem xJ (d:Dd):(dQ d).length=0↔d.far=false:=by cases d <;> simp [dQ,Dd.far]
theorem Nb (a b:Int) (m:Nat):aW [.int (m:Int)] [(a,b)]=true↔a<=(m:Int)/\(m:Int)<=b:=by
 simp [aW,yX]
theorem wi2 (a b c d:Int) (l m:Nat):aW [.int (l:Int),.int (m:Int)] [(a,b),(c,d)]=true↔(a<=(l:Int)/\(l:Int)<=b)/\c<=(m:Int)/\(m:Int)<=d:=by
 simp [aW,yX]
theorem Qo (a b:Int) (l m:Nat):aW [.int (l:Int),.int (m:Int)] [(a,b)]=true↔False:=by simp [aW]
theorem aBQ (a b c d:Int) (m:Nat):aW [.int (m:Int)] [(a,b),(c,d)]=true↔False:=by simp [aW]
theorem Xr {d:Dd} {y:An} (hd:d.Ok):Ej d.wd ((dQ d).map (·.1)) (d.n:Int) y.vs=true↔An.Of d y:=by
 have hn:=hd.n
 have ff:∀ {p:Prop},¬ p->((false=true)↔p):=fun h=>⟨(fun z=>nomatch z),fun z=>absurd z h⟩
 cases d with
 | add a n=>cases y with
  | is1 m=>show aW [.int (m:Int)] [((n:Int),1000000000000)]=true↔n<=m/\m<=1000000000000;rw[Nb];omega
  | is2 l m=>show aW [.int (l:Int),.int (m:Int)] [((n:Int),1000000000000)]=true↔False;exact Qo ..
  | short m=>exact ff id
  | full m=>show aW [.int (m:Int)] [(1000000000000 - (n:Int)+1,1000000000000)]=true↔1000000000000<m+n/\m<=1000000000000;rw[Nb];omega
  | no h=>exact ff id
  | ok=>exact ff id
 | take a n=>cases y with
  | is1 m=>show aW [.int (m:Int)] [(0,1000000000000 - (n:Int))]=true↔m+n<=1000000000000;rw[Nb];omega
  | is2 l m=>show aW [.int (l:Int),.int (m:Int)] [(0,1000000000000 - (n:Int))]=true↔False;exact Qo ..
  | short m=>show aW [.int (m:Int)] [(0,(n:Int) - 1)]=true↔m<n;rw[Nb];omega
  | full m=>exact ff id
  | no h=>exact ff id
  | ok=>exact ff id
 | move a b n=>cases y with
  | is1 m=>show aW [.int (m:Int)] [(0,1000000000000 - (n:Int)),((n:Int),1000000000000)]=true↔False;exact aBQ ..
  | is2 l m=>
   have hn':1<=n/\n<=1000000000000:=hn
   show aW [.int (l:Int),.int (m:Int)] [(0,1000000000000 - (n:Int)),((n:Int),1000000000000)]=true↔l+n<=1000000000000/\n<=m/\m<=1000000000000
   rw[wi2];omega
  | short m=>show aW [.int (m:Int)] [(0,(n:Int) - 1)]=true↔m<n;rw[Nb];omega
  | full m=>show aW [.int (m:Int)] [(1000000000000 - (n:Int)+1,1000000000000)]=true↔1000000000000<m+n/\m<=1000000000000;rw[Nb];omega
  | no h=>exact ff id
  | ok=>exact ff id
 | send g a n=>cases y with
  | is1 m=>show aW [.int (m:Int)] [(0,1000000000000 - (n:Int))]=true↔m+n<=1000000000000;rw[Nb];omega
  | is2 l m=>show aW [.int (l:Int),.int (m:Int)] [(0,1000000000000 - (n:Int))]=true↔False;exact Qo ..
  | short m=>show aW [.int (m:Int)] [(0,(n:Int) - 1)]=true↔m<n;rw[Nb];omega
  | full m=>exact ff id
  | no h=>show oK (.str h) [g]=true↔h=g;simp [oK]
  | ok=>exact ff id
 | fetch g a n=>cases y with
  | is1 m=>show aW [.int (m:Int)] [((n:Int),1000000000000)]=true↔n<=m/\m<=1000000000000;rw[Nb];omega
  | is2 l m=>show aW [.int (l:Int),.int (m:Int)] [((n:Int),1000000000000)]=true↔False;exact Qo ..
  | short m=>exact ff id
  | full m=>show aW [.int (m:Int)] [(1000000000000 - (n:Int)+1,1000000000000)]=true↔1000000000000<m+n/\m<=1000000000000;rw[Nb];omega
  | no h=>show oK (.str h) [g]=true↔h=g;simp [oK]
  | ok=>exact ff id
 | pass g g' a n=>cases y with
  | is1 m=>exact ff id
  | is2 l m=>exact ff id
  | short m=>exact ff id
  | full m=>exact ff id
  | no h=>show oK (.str h) [g,g']=true↔h=g∨h=g';simp [oK]
  | ok=>exact⟨fun _=>trivial,fun _=>rfl⟩
theorem aAY {H:Hp} {c:Addr} {y:An} (h:H c=some (.tup y.vs)) (hf:qH y):Tg H (.ref c):=by
 refine .tup h (by cases y <;> exact Nat.le_of_ble_eq_true rfl) fun v hv=>?_
 cases y with
 | is1 m=>simp only [An.vs,List.mem_cons,List.not_mem_nil,or_false]at hv;rcases hv with rfl | rfl <;> first | exact .int | exact .str Zk
 | is2 l m=>simp only [An.vs,List.mem_cons,List.not_mem_nil,or_false]at hv;rcases hv with rfl | rfl | rfl <;> first | exact .int | exact .str Zk
 | short m=>simp only [An.vs,List.mem_cons,List.not_mem_nil,or_false]at hv;rcases hv with rfl | rfl <;> first | exact .int | exact .str Zk
 | full m=>simp only [An.vs,List.mem_cons,List.not_mem_nil,or_false]at hv;rcases hv with rfl | rfl <;> first | exact .int | exact .str Zk
 | no g=>
  have:=Qn hf rfl
  simp only [An.vs,List.mem_cons,List.not_mem_nil,or_false]at hv
  rcases hv with rfl | rfl
  ·exact .str Zk
  ·exact .str (by have:=this.2.1;omega)
 | ok=>simp only [An.vs,List.mem_cons,List.not_mem_nil,or_false]at hv;rw[hv];exact .str Zk
structure Xs (K:W.Frag) (C:Addr):Prop where
 cl:Cls K C
 n1:NoAttr K C "last_rows"
 n2:NoAttr K C "last_rank"
 n3:NoAttr K C "last_turn"
 n4:NoAttr K C "kept_numbers"
 n5:NoAttr K C "came_deeds"
 n6:NoAttr K C "asked_numbers"
 n7:NoAttr K C "done_numbers"
structure WA where
 dx:Addr
 d1:Addr
 d2:Addr
 d3:Addr
 d4:Addr
 d5:Addr
def Xt (A:WA) (rk tn:Nat):List (Str × V):=[("last_rows",.ref A.d1),("last_rank",.int (rk:Int)),("last_turn",.int (tn:Int)),("kept_numbers",.ref A.d2),("came_deeds",.ref A.d3),("asked_numbers",.ref A.d4),("done_numbers",.ref A.d5)]
def NumK (kvs:List (bA × V)) (p:Nat->Prop):Prop:=∀n:Nat,(bC kvs (Sum.inl (n:Int))).isSome=true↔p n
structure aAZ (H:Hp) (kvs:List (bA × V)) (ps:List RX):Prop where
 em:kvs.length=0↔ps=[]
 no:∀w:Str,dS ps w=none->bC kvs (Sum.inr w)=none
 yes:∀(w:Str) (r:RX),dS ps w=some r->∃b,bC kvs (Sum.inr w)=some (.ref b)/\r.At H b
structure aA0 (H:Hp) (kvs:List (bA × V)) (ps:List RX):Prop where
 no:∀n:Nat,bC kvs (Sum.inl (n:Int))=none->∀t p k x,.came n t p k x∉ps
 yes:∀(n:Nat) (v:V),bC kvs (Sum.inl (n:Int))=some v->∃b t p k x,v=.ref b/\H b=some (.tup x.vs)/\.came n t p k x∈ps
structure WkG (H:Hp) (C a:Addr) (A:WA) (rk tn:Nat) (k1 k2 k3 k4 k5:List (bA × V)):Prop where
 ins:H a=some (.ins C A.dx (Xt A rk tn))
 g1:H A.d1=some (.dK k1)
 g2:H A.d2=some (.dK k2)
 g3:H A.d3=some (.dK k3)
 g4:H A.d4=some (.dK k4)
 g5:H A.d5=some (.dK k5)
structure WkP (H:Hp) (ps:List RX) (k1 k2 k3 k4 k5:List (bA × V)):Prop where
 l1:k1.length<=ps.length
 l2:k2.length<=ps.length
 l3:k3.length<=ps.length
 l4:k4.length<=ps.length
 l5:k5.length<=ps.length
 last:aAZ H k1 ps
 kept:NumK k2 fun n=>∃t p k x y,.kept n t p k x y∈ps
 came:aA0 H k3 ps
 asked:NumK k4 fun n=>.asked n∈ps
 done:NumK k5 fun n=>∃t y,.done n t y∈ps
structure WkF (H0:Hp) (a:Addr) (A:WA):Prop where
 fa:H0 a=none
 f1:H0 A.d1=none
 f2:H0 A.d2=none
 f3:H0 A.d3=none
 f4:H0 A.d4=none
 f5:H0 A.d5=none
 nd:[A.d1,A.d2,A.d3,A.d4,A.d5].Nodup
def WkAt (H0 H:Hp) (C a:Addr) (A:WA) (ps:List RX):Prop:=WkF H0 a A/\Same H0 H/\∃k1 k2 k3 k4 k5,WkG H C a A (cP ps) (cH ps) k1 k2 k3 k4 k5/\WkP H ps k1 k2 k3 k4 k5
theorem WkG.same {H H':Hp} {C a:Addr} {A:WA} {rk tn:Nat} {k1 k2 k3 k4 k5:List (bA × V)} (h:WkG H C a A rk tn k1 k2 k3 k4 k5) (s:Same H H'):WkG H' C a A rk tn k1 k2 k3 k4 k5:=
 ⟨s _ _ h.ins,s _ _ h.g1,s _ _ h.g2,s _ _ h.g3,s _ _ h.g4,s _ _ h.g5⟩
theorem WkP.tk {H H':Hp} {ps:List RX} {k1 k2 k3 k4 k5:List (bA × V)} (h:WkP H ps k1 k2 k3 k4 k5) (s:TK H H'):WkP H' ps k1 k2 k3 k4 k5:=
 ⟨h.l1,h.l2,h.l3,h.l4,h.l5,⟨h.last.em,h.last.no,fun w r e=>by obtain⟨b,h1,h2⟩:=h.last.yes w r e;exact⟨b,h1,h2.tk s⟩⟩,h.kept,⟨h.came.no,fun n v e=>by obtain⟨b,t,p,k,x,h1,h2,h3⟩:=h.came.yes n v e;exact⟨b,t,p,k,x,h1,s _ _ h2,h3⟩⟩,h.asked,h.done⟩
theorem WkAt.same {H0 H H':Hp} {C a:Addr} {A:WA} {ps:List RX} (h:WkAt H0 H C a A ps) (s:Same H H'):WkAt H0 H' C a A ps:=by
 obtain⟨h1,h2,k1,k2,k3,k4,k5,h3,h4⟩:=h
 exact⟨h1,h2.trans s,k1,k2,k3,k4,k5,h3.same s,h4.tk s.tk⟩
section
variable {H:Hp} {C a:Addr} {A:WA} {rk tn:Nat} {k1 k2 k3 k4 k5:List (bA × V)}
theorem WkG.ne (h:WkG H C a A rk tn k1 k2 k3 k4 k5):a≠A.d1/\a≠A.d2/\a≠A.d3/\a≠A.d4/\a≠A.d5:=
 ⟨fW h.ins h.g1 (fun z=>nomatch z),fW h.ins h.g2 (fun z=>nomatch z),fW h.ins h.g3 (fun z=>nomatch z),fW h.ins h.g4 (fun z=>nomatch z),fW h.ins h.g5 (fun z=>nomatch z)⟩
theorem WkF.nn {H0:Hp} (f:WkF H0 a A):A.d1≠A.d2/\A.d1≠A.d3/\A.d1≠A.d4/\A.d1≠A.d5/\A.d2≠A.d3/\A.d2≠A.d4/\A.d2≠A.d5/\A.d3≠A.d4/\A.d3≠A.d5/\A.d4≠A.d5:=by
 have:=f.nd
 simp only [List.nodup_cons,List.mem_cons,List.not_mem_nil,or_false,not_or]at this
 obtain⟨⟨a1,a2,a3,a4⟩,⟨b1,b2,b3⟩,⟨c1,c2⟩,d1,_⟩:=this
 exact⟨a1,a2,a3,a4,b1,b2,b3,c1,c2,d1⟩
theorem WkG.put1 {H0:Hp} (f:WkF H0 a A) (h:WkG H C a A rk tn k1 k2 k3 k4 k5) (k:List (bA × V)):WkG (aI H A.d1 (.dK k)) C a A rk tn k k2 k3 k4 k5:=by
 obtain⟨a1,a2,a3,a4,a5⟩:=h.ne
 obtain⟨n12,n13,n14,n15,n23,n24,n25,n34,n35,n45⟩:=f.nn
 exact⟨by rw[aD a1];exact h.ins,aA,by rw[aD n12.symm];exact h.g2,by rw[aD n13.symm];exact h.g3,by rw[aD n14.symm];exact h.g4,by rw[aD n15.symm];exact h.g5⟩
theorem WkG.put2 {H0:Hp} (f:WkF H0 a A) (h:WkG H C a A rk tn k1 k2 k3 k4 k5) (k:List (bA × V)):WkG (aI H A.d2 (.dK k)) C a A rk tn k1 k k3 k4 k5:=by
 obtain⟨a1,a2,a3,a4,a5⟩:=h.ne
 obtain⟨n12,n13,n14,n15,n23,n24,n25,n34,n35,n45⟩:=f.nn
 exact⟨by rw[aD a2];exact h.ins,by rw[aD n12];exact h.g1,aA,by rw[aD n23.symm];exact h.g3,by rw[aD n24.symm];exact h.g4,by rw[aD n25.symm];exact h.g5⟩
theorem WkG.put3 {H0:Hp} (f:WkF H0 a A) (h:WkG H C a A rk tn k1 k2 k3 k4 k5) (k:List (bA × V)):WkG (aI H A.d3 (.dK k)) C a A rk tn k1 k2 k k4 k5:=by
 obtain⟨a1,a2,a3,a4,a5⟩:=h.ne
 obtain⟨n12,n13,n14,n15,n23,n24,n25,n34,n35,n45⟩:=f.nn
 exact⟨by rw[aD a3];exact h.ins,by rw[aD n13];exact h.g1,by rw[aD n23];exact h.g2,aA,by rw[aD n34.symm];exact h.g4,by rw[aD n35.symm];exact h.g5⟩
theorem WkG.put4 {H0:Hp} (f:WkF H0 a A) (h:WkG H C a A rk tn k1 k2 k3 k4 k5) (k:List (bA × V)):WkG (aI H A.d4 (.dK k)) C a A rk tn k1 k2 k3 k k5:=by
 obtain⟨a1,a2,a3,a4,a5⟩:=h.ne
 obtain⟨n12,n13,n14,n15,n23,n24,n25,n34,n35,n45⟩:=f.nn
 exact⟨by rw[aD a4];exact h.ins,by rw[aD n14];exact h.g1,by rw[aD n24];exact h.g2,by rw[aD n34];exact h.g3,aA,by rw[aD n45.symm];exact h.g5⟩
theorem WkG.put5 {H0:Hp} (f:WkF H0 a A) (h:WkG H C a A rk tn k1 k2 k3 k4 k5) (k:List (bA × V)):WkG (aI H A.d5 (.dK k)) C a A rk tn k1 k2 k3 k4 k:=by
 obtain⟨a1,a2,a3,a4,a5⟩:=h.ne
 obtain⟨n12,n13,n14,n15,n23,n24,n25,n34,n35,n45⟩:=f.nn
 exact⟨by rw[aD a5];exact h.ins,by rw[aD n15];exact h.g1,by rw[aD n25];exact h.g2,by rw[aD n35];exact h.g3,by rw[aD n45];exact h.g4,aA⟩
theorem WkG.fld (h:WkG H C a A rk tn k1 k2 k3 k4 k5) (rk' tn':Nat):WkG (aI H a (.ins C A.dx (Xt A rk' tn'))) C a A rk' tn' k1 k2 k3 k4 k5:=by
 obtain⟨a1,a2,a3,a4,a5⟩:=h.ne
 exact⟨aA,by rw[aD a1.symm];exact h.g1,by rw[aD a2.symm];exact h.g2,by rw[aD a3.symm];exact h.g3,by rw[aD a4.symm];exact h.g4,by rw[aD a5.symm];exact h.g5⟩
end
def Tc (ps:List RX):RX->Prop
 | .has z _=>∀z' m,.has z' m∈ps->z'.cps.toList<z.cps.toList
 | .kept n _ _ _ _ _=>∀n' t' p' k' d' y',.kept n' t' p' k' d' y'∈ps->n'<n
 | .came n _ _ _ _=>∀n' t' p' k' d',.came n' t' p' k' d'∈ps->n'<n
 | _=>False
def Qp:RX->Bool | .has _ _=>true | .kept _ _ _ _ _ _=>true | .came _ _ _ _ _=>true | _=>false
def qJ (C:Addr):Sp:=fun vs H Q _=>∃(a b:Addr) (H0:Hp) (A:WA) (ps:List RX) (r:RX),vs=[.ref a,.ref b]/\WkAt H0 H C a A ps/\r.At H b/\RX.Whole ps/\Qp r=true/\∀fb:Bool,(fb=true↔Tc ps r)->Q (.bl fb) H
theorem aA1 {a b c:Str} (h1:a=b∨a.cps.toList<b.cps.toList) (h2:b.cps.toList<c.cps.toList):a.cps.toList<c.cps.toList:=by
 rcases h1 with rfl | h1
 ·exact h2
 ·exact List.lt_trans h1 h2
theorem Fc {C:Addr} (B:Xs K C) (D:MethAt K C "rises" "Walk.rises" fP ["self","row"]):sJ P w K mg base 1 C "rises" ["self","row"] (qJ C):=by
 refine D.go rH (fun vs H Q E h=>?_) (fun f cdv A outer s H vs Q E hr h=>?_)
 ·obtain⟨a,b,H0,A,ps,r,rfl,_⟩:=h;rfl
 ·obtain⟨a,b,H0,A,ps,r,rfl,⟨_,_,k1,k2,k3,k4,k5,W,WP⟩,hat,hw,hri,q⟩:=h
  have hu1:=jK hr
  obtain⟨xs,g,x0,x1,x2⟩:=bO hat
  refine⟨_,(R.ah (R.ai (R.or (R.aw (R.fi hu1) (R.ix (R.ag (K:=K)) (R.v 1) R.ac) (R.bg (K:=K) (R.v 0))) (R.bb (R.aw R.jb (R.ix (R.ag (K:=K)) (R.dz hu1 (R.bg (K:=K) (R.v 0)) (R.ix (R.ag (K:=K)) (R.v 1) R.ac)) R.ac) (R.ix (R.ag (K:=K)) (R.v 1) R.ac)))))),?_⟩
  refine⟨_,SqT.of g,_,x0,C,A.dx,_,.ref A.d1,W.ins,B.cl,B.n1,rfl,_,DGet.k (k:=Sum.inr (bH r)) W.g1,?_⟩
  cases e:dS ps (bH r) with
  | none=>
   rw[WP.last.no _ e];refine q true ⟨fun _=>?_,fun _=>rfl⟩
   cases r with
   | has z m=>exact fun z' m' hm=>absurd e (iA (r:=.has z' m') hw hm)
   | kept n t p k d y=>exact fun n' t' p' k' d' y' hm=>absurd e (iA (r:=.kept n' t' p' k' d' y') hw hm)
   | came n t p k d=>exact fun n' t' p' k' d' hm=>absurd e (iA (r:=.came n' t' p' k' d') hw hm)
   | _=>cases hri
  | some r'=>
   obtain⟨b',hv,hat'⟩:=WP.last.yes _ _ e
   obtain⟨hm',hwd'⟩:=qG hw e
   obtain⟨xs',g',x0',x1',x2'⟩:=bO hat'
   have dg:=DGet.k (k:=Sum.inr (bH r)) W.g1
   rw[hv]at dg ⊢;refine⟨C,A.dx,_,.ref A.d1,W.ins,B.cl,B.n1,rfl,_,SqT.of g,_,x0,A.d1,_,rfl,dg,_,SqT.of g',_,x1',_,SqT.of g,_,x1,?_⟩
   cases r with
   | has z m=>
    obtain⟨z',m',rfl⟩:=zP hwd'
    refine q _ ⟨fun h z2 m2 hm2=>?_,fun h=>?_⟩
    ·exact aA1 (Lk hw e z2 m2 hm2) (of_decide_eq_true h)
    ·exact decide_eq_true (h _ _ hm')
   | kept n t p k d y=>
    obtain⟨n',t',p',k',d',y',rfl⟩:=Bu hwd'
    refine q _ ⟨fun h n2 t2 p2 k2 d2 y2 hm2=>?_,fun h=>?_⟩
    ·have:=Ey hw e _ _ _ _ _ _ hm2
     have h':(n':Int)<(n:Int):=of_decide_eq_true h
     omega
    ·exact decide_eq_true (by have:=h _ _ _ _ _ _ hm';omega)
   | came n t p k d=>
    obtain⟨n',t',p',k',d',rfl⟩:=vA hwd'
    refine q _ ⟨fun h n2 t2 p2 k2 d2 hm2=>?_,fun h=>?_⟩
    ·have:=Ez hw e _ _ _ _ _ hm2
     have h':(n':Int)<(n:Int):=of_decide_eq_true h
     omega
    ·exact decide_eq_true (by have:=h _ _ _ _ _ hm';omega)
   | _=>cases hri
end
end KL
namespace KL
open PySem L2
section
variable {P:Program} {w:World} {K:W.Frag} {mg:Str->Option Value} {base:Heap}
def Bx (C:Addr):Sp:=fun vs H Q _=>∃(a b:Addr) (H0:Hp) (A:WA) (ps:List RX) (n t:Nat) (p k:Str) (x:Dd) (y:An) (n0 t0:Nat),vs=[.ref a,.ref b]/\WkAt H0 H C a A ps/\RX.At H b (.kept n t p k x y)/\RX.Whole ps/\.next n0 t0∈ps/\∀fb:Bool,(fb=true↔Tc ps (.kept n t p k x y)/\n<n0/\t<=t0)->Q (.bl fb) H
theorem Ll {C:Addr} (B:Xs K C) (c_Walk_rises:sJ P w K mg base 1 C "rises" ["self","row"] (qJ C)) (D:MethAt K C "fits_kept" "Walk.fits_kept" dH ["self","row"]):sJ P w K mg base 2 C "fits_kept" ["self","row"] (Bx C):=by
 refine D.go gL (fun vs H Q E h=>?_) (fun f cdv A outer s H vs Q E hr h=>?_)
 ·obtain⟨a,b,H0,A,ps,n,t,p,k,x,y,n0,t0,rfl,_⟩:=h;rfl
 ·obtain⟨a,b,H0,A,ps,n,t,p,k,x,y,n0,t0,rfl,WW,hat,hw,hnx,q⟩:=h
  have⟨_,_,k1,k2,k3,k4,k5,W,WP⟩:=WW
  have hu1:=jK hr
  have hr_Walk_rises:Room 1 _:=hr
  obtain⟨b1,b2,g,_⟩:=id hat
  have hl:dS ps "next"=some (.next n0 t0):=by
   cases e:dS ps "next" with
   | none=>exact absurd e (iA hw hnx)
   | some r=>
    obtain⟨hm,hwd⟩:=qG hw e
    obtain⟨n',t',rfl⟩:=lY hwd
    obtain⟨rfl,rfl⟩:=kJ hw hm hnx
    rfl
  obtain⟨b',hv,gn⟩:=WP.last.yes _ _ hl
  have dg:=DGet.k (k:=Sum.inr ("next":Str)) W.g1
  rw[hv]at dg;refine⟨_,(R.ae (R.ao (i:=2) gL.nd (R.dz hu1 (R.bg (K:=K) (R.v 0)) R.af)) (R.ah (R.ai (R.be (R.cq c_Walk_rises hr_Walk_rises (R.v 0) (R.aa (R.v 1) R.ad)) (R.be (R.aw R.lt (R.ix (R.ag (K:=K)) (R.v 1) R.ac) (R.ix (R.ag (K:=K)) (R.v 2) R.ac)) (R.bb (R.aw R.le (R.ix (R.ag (K:=K)) (R.v 1) R.ac) (R.ix (R.ag (K:=K)) (R.v 2) R.ac)))))))),?_⟩
  refine⟨C,A.dx,_,.ref A.d1,W.ins,B.cl,B.n1,rfl,A.d1,_,rfl,dg,?_⟩
  dsimp only [aK];refine⟨A.dx,_,W.ins,rfl,a,b,H0,A,ps,_,rfl,WW,hat,hw,rfl,fun fb hfb=>?_⟩
  show if fb=true then _ else _
  cases fb with
  | false=>exact q false ⟨(fun z=>nomatch z),fun z=>hfb.mpr z.1⟩
  | true=>
   have hri:=hfb.mp rfl
   refine⟨_,SqT.of g,_,rfl,_,SqT.of gn,_,rfl,?_⟩
   refine aQ (fun h=>?_) (fun h=>?_)
   ·refine⟨_,SqT.of g,_,rfl,_,SqT.of gn,_,rfl,?_⟩
    refine q _ ⟨fun z=>⟨hri,?_,?_⟩,fun z=>?_⟩
    ·have:=of_decide_eq_true h;omega
    ·have:=of_decide_eq_true z;omega
    ·exact decide_eq_true (by have:=z.2.2;omega)
   ·exact q false ⟨(fun z=>nomatch z),fun z=>absurd (of_decide_eq_false h) (by have:=z.2.1;omega)⟩
def Lm (C:Addr):Sp:=fun vs H Q _=>∃(a b:Addr) (H0:Hp) (A:WA) (ps:List RX) (n t:Nat) (y:An) (t0:Nat) (p k:Str) (x:Dd),vs=[.ref a,.ref b]/\WkAt H0 H C a A ps/\RX.At H b (.done n t y)/\RX.Whole ps/\qH y/\x.Ok/\.came n t0 p k x∈ps/\∀(fb:Bool) (H':Hp),(fb=true↔An.Of x y/\(x.far=true->(.asked n∈ps↔y.early=false)))->Same H H'->Q (.bl fb) H'
theorem By {y:An}:∃u,mW y.vs 0=some (.str u)/\gT (.str u) UAW=y.early:=by
 cases y with
 | is1 m=>exact⟨"is",rfl,rfl⟩
 | is2 l m=>exact⟨"is",rfl,rfl⟩
 | short m=>exact⟨"short",rfl,rfl⟩
 | full m=>exact⟨"full",rfl,rfl⟩
 | no h=>exact⟨"no",rfl,rfl⟩
 | ok=>exact⟨"ok",rfl,rfl⟩
theorem Bz {H:Hp} {C a:Addr} {A:WA} {ps:List RX} {rk tn:Nat} {k1 k2 k3 k4 k5:List (bA × V)} (g:WkG H C a A rk tn k1 k2 k3 k4 k5) (h:WkP H ps k1 k2 k3 k4 k5) (hw:RX.Whole ps) {n t:Nat} {p k:Str} {x:Dd} (hm:.came n t p k x∈ps):∃b,DGet H A.d3 (.int (n:Int)) (some (.ref b))/\H b=some (.tup x.vs):=by
 have dg:=DGet.k (k:=Sum.inl (n:Int)) g.g3
 cases e:bC k3 (Sum.inl (n:Int)) with
 | none=>exact absurd hm (h.came.no n e t p k x)
 | some v=>
  obtain⟨b,t',p',k',x',rfl,h2,h3⟩:=h.came.yes n v e
  have:=fV hw hm h3
  cases this
  rw[e]at dg;exact⟨b,dg,h2⟩
theorem zS {b c:Bool} {p:Prop} (h:b=true↔p):(!decide (b=c))=true↔(p↔c=false):=by
 cases b <;> cases c <;> simp_all
theorem Qq {C:Addr} (T:Txt K mg) (U:Top w.params K mg) (B:Xs K C) (c_is_answer:aG P w K mg base 4 "is_answer" ["deed","thing"] Bk) (c_asks_of:aG P w K mg base 1 "asks_of" ["deed"] kZ)
  (D:MethAt K C "fits_answer" "Walk.fits_answer" cS ["self","row"]):sJ P w K mg base 5 C "fits_answer" ["self","row"] (Lm C):=by
 refine D.go dN (fun vs H Q E h=>?_) (fun f cdv A outer s H vs Q E hr h=>?_)
 ·obtain⟨a,b,H0,A,ps,n,t,y,t0,p,k,x,rfl,_⟩:=h;rfl
 ·obtain⟨a,b,H0,A,ps,n,t,y,t0,p,k,x,rfl,⟨_,_,k1,k2,k3,k4,k5,W,WP⟩,hat,hw,hy,hx,hm,q⟩:=h
  have hu1:=jK hr
  have hr_is_answer:Room 4 _:=hr
  have hr_asks_of:Room 1 _:=hr.mono Zd
  obtain⟨aU,m_UNASKED_WORDS,tU⟩:=U.g_UNASKED_WORDS
  obtain⟨c,g,gc⟩:=id hat
  obtain⟨bd,dg,gd⟩:=Bz W WP hw hm
  refine⟨_,(R.ae (R.ao (i:=2) dN.nd (R.dz hu1 (R.bg (K:=K) (R.v 0)) (R.ix (R.ag (K:=K)) (R.v 1) R.ac))) (R.ae (R.ar (R.cf (R.bn (R.fn c_is_answer hr_is_answer rfl (R.aa (R.v 2) (R.aa (R.ix (R.ag (K:=K)) (R.v 1) R.ac) R.ad))))) (R.ah (R.ai R.bl)) R.au) (R.ae (R.ao (i:=3) dN.nd (R.aw (R.fh hu1) (R.ix (R.ag (K:=K)) (R.v 1) R.ac) (R.bg (K:=K) (R.v 0)))) (R.ah (R.ai (R.or (R.aw R.eq (R.ax (R.ba (K:=K)) rfl T.b_len aO (R.aa (R.fn c_asks_of hr_asks_of rfl (R.aa (R.v 2) R.ad)) R.ad)) R.ac) (R.bb (R.aw R.ne (R.v 3) (R.aw (R.bc (K:=K)) (R.ix (R.ag (K:=K)) (R.ix (R.ag (K:=K)) (R.v 1) R.ac) R.ac) (R.gR rfl m_UNASKED_WORDS)))))))))),?_⟩
  refine⟨C,A.dx,_,.ref A.d3,W.ins,B.cl,B.n5,rfl,_,SqT.of g,_,rfl,A.d3,_,rfl,dg,?_⟩
  dsimp only [aK];refine⟨_,SqT.of g,_,rfl,bd,x.wd,x.n,x.vs,dQ x,.ref c,rfl,gd,zR hx,aAY gc hy,fun H1 s1=>?_⟩
  have ea:zB H x.wd ((dQ x).map (·.1)) (x.n:Int) (.ref c)=Ej x.wd ((dQ x).map (·.1)) (x.n:Int) y.vs:=by unfold zB;rw[pY gc]
  rw[ea];have hao:=Xr (y:=y) hx
  generalize Ej x.wd ((dQ x).map (·.1)) (x.n:Int) y.vs=ab at hao;cases ab with
  | false=>exact q false H1 ⟨(fun z=>nomatch z),fun z=>hao.mpr z.1⟩ s1
  | true=>
   have hof:=hao.mp rfl
   have W1:=W.same s1
   refine⟨_,SqT.of (s1 _ _ g),_,rfl,C,A.dx,_,.ref A.d4,W1.ins,B.cl,B.n6,rfl,_,DGet.k (k:=Sum.inl (n:Int)) W1.g4,?_⟩
   have hasked:=WP.asked n
   dsimp only [aK];obtain⟨cs,hdx⟩:=(zR hx).dwx
   refine⟨bd,x.wd,x.vs,cs,dQ x,rfl,s1 _ _ gd,hdx,fun tu us H2 s2 g2 ha=>⟨us,.inr (SqT.of g2),?_⟩⟩
   have s12:=s1.trans s2
   have hlen:=ha.length
   have hfar:=xJ x
   show if decide ((us.length:Int)=0)=true then _ else _
   refine aQ (fun h=>?_) (fun h=>?_)
   ·refine q true H2 ⟨fun _=>⟨hof,fun z=>?_⟩,fun _=>rfl⟩ s12
    have:=of_decide_eq_true h
    have:=hfar.mp Zo
    rw[this]at z;cases z
   ·have hf:x.far=true:=by
     cases e:x.far with
     | true=>rfl
     | false=>
      have:=hfar.mpr e
      exact absurd (of_decide_eq_false h) Zo
    obtain⟨u,hu0,hue⟩:=By (y:=y)
    refine⟨_,SqT.of (s12 _ _ g),_,rfl,_,SqT.of (s12 _ _ gc),_,hu0,aU,_,rfl,.inr (tU _),rfl,rfl,?_⟩
    refine q _ H2 ⟨fun z=>⟨hof,fun _=>?_⟩,fun z=>?_⟩ s12
    ·exact(zS hasked).mp (hue ▸ z)
    ·have:=(zS hasked).mpr (z.2 hf)
     rw[<- hue]at this;exact this
def Ca (C:Addr):Sp:=fun vs H Q _=>∃(a b:Addr) (H0:Hp) (A:WA) (ps:List RX) (r:RX),vs=[.ref a,.ref b]/\WkAt H0 H C a A ps/\r.At H b/\RX.Whole ps/\(∀q∈ps,cI q)/\cI r/\∀(fb:Bool) (H':Hp),(fb=true↔RX.Fits ps r)->Same H H'->Q (.bl fb) H'
theorem Qr (r:RX):RKS.lookup (bH r)=some (r.rank:Int):=by cases r <;> rfl
theorem Ln {C:Addr} (T:Txt K mg) (U:Top w.params K mg) (B:Xs K C) (c_Walk_rises:sJ P w K mg base 1 C "rises" ["self","row"] (qJ C)) (c_Walk_fits_kept:sJ P w K mg base 2 C "fits_kept" ["self","row"] (Bx C))
  (c_Walk_fits_answer:sJ P w K mg base 5 C "fits_answer" ["self","row"] (Lm C)) (c_asks_of:aG P w K mg base 1 "asks_of" ["deed"] kZ)
  (D:MethAt K C "fits" "Walk.fits" gF ["self","row"]):sJ P w K mg base 6 C "fits" ["self","row"] (Ca C):=by
 refine D.go lT (fun vs H Q E h=>?_) (fun f cdv A outer s H vs Q E hr h=>?_)
 ·obtain⟨a,b,H0,A,ps,r,rfl,_⟩:=h;rfl
 ·obtain⟨a,b,H0,A,ps,r,rfl,WW,hat,hw,hfp,hfr,q⟩:=h
  have⟨_,_,k1,k2,k3,k4,k5,W,WP⟩:=WW
  have hu1:=jK hr
  have hr_Walk_rises:Room 1 _:=hr.mono Zd
  have hr_Walk_fits_kept:Room 2 _:=hr.mono Zd
  have hr_Walk_fits_answer:Room 5 _:=hr
  have hr_asks_of:Room 1 _:=hr.mono Zd
  obtain⟨aR,m_RANKS,tR⟩:=U.g_RANKS
  have sr:=Same.refl H
  have hnx:(bC k1 (Sum.inr ("next":Str))).isSome=true↔∃n t,.next n t∈ps:=by
   constructor
   ·intro h;cases e:dS ps "next" with
    | none=>rw[WP.last.no _ e]at h;cases h
    | some r'=>
     obtain⟨hm,hwd⟩:=qG hw e
     obtain⟨n',t',rfl⟩:=lY hwd
     exact⟨n',t',hm⟩
   ·rintro⟨n,t,hm⟩
    cases e:dS ps "next" with
    | none=>exact absurd e (iA hw hm)
    | some r'=>obtain⟨b',hv,_⟩:=WP.last.yes _ _ e;rw[hv];rfl
  have hca:∀n:Nat,(bC k3 (Sum.inl (n:Int))).isSome=true↔∃t p k x,.came n t p k x∈ps:=fun n=>by
   constructor
   ·intro h;cases e:bC k3 (Sum.inl (n:Int)) with
    | none=>rw[e]at h;cases h
    | some v=>obtain⟨b,t,p,k,x,_,_,hm⟩:=WP.came.yes n v e;exact⟨t,p,k,x,hm⟩
   ·rintro⟨t,p,k,x,hm⟩
    cases e:bC k3 (Sum.inl (n:Int)) with
    | none=>exact absurd hm (WP.came.no n e _ _ _ _)
    | some v=>rfl
  refine⟨_,(R.ae (R.ao (i:=2) lT.nd (R.ix (R.ag (K:=K)) (R.v 1) R.ac)) (R.ae (R.ar (R.al R.eq (R.v 2) R.af) (R.ah (R.ai (R.aw R.eq (R.ax R.jc rfl T.b_len aO (R.aa (R.bg (K:=K) (R.v 0)) R.ad)) R.ac))) R.au) (R.ae (R.ar (R.al R.lt (R.ix (R.jk (K:=K) (P:=w.params)) (R.gR rfl m_RANKS) (R.v 2)) (R.bg (K:=K) (R.v 0))) (R.ah (R.ai R.bl)) R.au) (R.ae (R.ar (R.al R.eq (R.v 2) R.af) (R.ah (R.ai (R.be (R.aw (R.fh hu1) R.af (R.bg (K:=K) (R.v 0))) (R.bb (R.cq c_Walk_rises hr_Walk_rises (R.v 0) (R.aa (R.v 1) R.ad)))))) R.au) (R.ae (R.ar (R.al R.eq (R.v 2) R.af) (R.ah (R.ai (R.be (R.aw (R.fh hu1) R.af (R.bg (K:=K) (R.v 0))) (R.bb (R.cq c_Walk_fits_kept hr_Walk_fits_kept (R.v 0) (R.aa (R.v 1) R.ad)))))) R.au) (R.ae (R.ar (R.al R.eq (R.v 2) R.af) (R.ah (R.ai (R.be (R.cq c_Walk_rises hr_Walk_rises (R.v 0) (R.aa (R.v 1) R.ad)) (R.be (R.aw (R.fi hu1) (R.ix (R.ag (K:=K)) (R.v 1) R.ac) (R.bg (K:=K) (R.v 0))) (R.bb (R.aw R.ge (R.ix (R.ag (K:=K)) (R.v 1) R.ac) (R.bg (K:=K) (R.v 0)))))))) R.au) (R.ae (R.ar (R.tw (R.bo (R.al (R.fi hu1) (R.ix (R.ag (K:=K)) (R.v 1) R.ac) (R.bg (K:=K) (R.v 0))) (R.cg (R.al (R.fh hu1) (R.ix (R.ag (K:=K)) (R.v 1) R.ac) (R.bg (K:=K) (R.v 0)))))) (R.ah (R.ai R.bl)) R.au) (R.ae (R.ar (R.al R.eq (R.v 2) R.af) (R.ah (R.ai (R.be (R.aw (R.fi hu1) (R.ix (R.ag (K:=K)) (R.v 1) R.ac) (R.bg (K:=K) (R.v 0))) (R.bb (R.aw R.gt (R.ax (R.ba (K:=K)) rfl T.b_len aO (R.aa (R.fn c_asks_of hr_asks_of rfl (R.aa (R.dz hu1 (R.bg (K:=K) (R.v 0)) (R.ix (R.ag (K:=K)) (R.v 1) R.ac)) R.ad)) R.ad)) R.ac))))) R.au) (R.ah (R.ai (R.be (R.aw R.ge (R.ix (R.ag (K:=K)) (R.v 1) R.ac) (R.bg (K:=K) (R.v 0))) (R.bb (R.cq c_Walk_fits_answer hr_Walk_fits_answer (R.v 0) (R.aa (R.v 1) R.ad)))))))))))))),?_⟩
  cases r with
  | next n t=>
   refine⟨_,SqT.of hat,_,rfl,?_⟩
   dsimp only [aK];refine⟨C,A.dx,_,.ref A.d1,W.ins,B.cl,B.n1,rfl,_,W.g1,?_⟩
   refine q _ H ⟨fun z=>?_,fun z=>?_⟩ sr
   ·exact WP.last.em.mp (by have:=of_decide_eq_true z;omega)
   ·exact decide_eq_true (by have:=WP.last.em.mpr z;omega)
  | has z m=>
   refine⟨_,SqT.of hat,_,rfl,?_⟩
   dsimp only [aK];refine⟨RKS,1,tR,rfl,C,A.dx,_,.int (cP ps:Int),W.ins,B.cl,B.n2,rfl,?_⟩
   refine aQ (fun h=>?_) (fun h=>?_)
   ·refine q false H ⟨(fun z=>nomatch z),fun z=>?_⟩ sr
    have:=(gC hw 1).mp z.1
    exact absurd (of_decide_eq_true h) Zo
   ·have hrk:cP ps<=1:=by have:=of_decide_eq_false h;omega
    refine⟨C,A.dx,_,.ref A.d1,W.ins,B.cl,B.n1,rfl,_,DGet.k (k:=Sum.inr ("next":Str)) W.g1,?_⟩
    show if (bC k1 (Sum.inr ("next":Str))).isSome=true then _ else _
    refine aQ (fun h1=>?_) (fun h1=>?_)
    ·refine⟨A.dx,_,W.ins,rfl,a,b,H0,A,ps,_,rfl,WW,hat,hw,rfl,fun fb hfb=>?_⟩
     exact q fb H ⟨fun z=>⟨(gC hw 1).mpr hrk,hnx.mp h1,hfb.mp z⟩,fun z=>hfb.mpr z.2.2⟩ sr
    ·refine q false H ⟨(fun z=>nomatch z),fun z=>?_⟩ sr
     rw[hnx.mpr z.2.1]at h1;cases h1
  | kept n t p k x y=>
   obtain⟨b1,b2,g,_⟩:=id hat
   refine⟨_,SqT.of g,_,rfl,?_⟩
   dsimp only [aK];refine⟨RKS,2,tR,rfl,C,A.dx,_,.int (cP ps:Int),W.ins,B.cl,B.n2,rfl,?_⟩
   refine aQ (fun h=>?_) (fun h=>?_)
   ·refine q false H ⟨(fun z=>nomatch z),fun z=>?_⟩ sr
    have:=(gC hw 2).mp z.1
    exact absurd (of_decide_eq_true h) Zo
   ·have hrk:cP ps<=2:=by have:=of_decide_eq_false h;omega
    refine⟨C,A.dx,_,.ref A.d1,W.ins,B.cl,B.n1,rfl,_,DGet.k (k:=Sum.inr ("next":Str)) W.g1,?_⟩
    show if (bC k1 (Sum.inr ("next":Str))).isSome=true then _ else _
    refine aQ (fun h1=>?_) (fun h1=>?_)
    ·obtain⟨n0,t0,hm0⟩:=hnx.mp h1
     refine⟨A.dx,_,W.ins,rfl,a,b,H0,A,ps,n,t,p,k,x,y,n0,t0,rfl,WW,hat,hw,hm0,fun fb hfb=>?_⟩
     refine q fb H ⟨fun z=>?_,fun z=>hfb.mpr ?_⟩ sr
     ·obtain⟨h2,h3,h4⟩:=hfb.mp z
      exact⟨(gC hw 2).mpr hrk,⟨n0,t0,hm0,h3,h4⟩,h2,hfr.2⟩
     ·obtain⟨_,⟨n',t',hm',h3,h4⟩,h2,_⟩:=z
      obtain⟨rfl,rfl⟩:=kJ hw hm' hm0
      exact⟨h2,h3,h4⟩
    ·refine q false H ⟨(fun z=>nomatch z),fun z=>?_⟩ sr
     obtain⟨n',t',hm',_⟩:=z.2.1
     rw[hnx.mpr ⟨_,_,hm'⟩]at h1;cases h1
  | came n t p k x=>
   obtain⟨b1,g,_⟩:=id hat
   refine⟨_,SqT.of g,_,rfl,?_⟩
   dsimp only [aK];refine⟨RKS,3,tR,rfl,C,A.dx,_,.int (cP ps:Int),W.ins,B.cl,B.n2,rfl,?_⟩
   refine aQ (fun h=>?_) (fun h=>?_)
   ·exact absurd (of_decide_eq_true h) (by have:=(gC hw 3).mp (fun q _=>by cases q <;> exact Nat.le_of_ble_eq_true rfl);omega)
   ·refine⟨A.dx,_,W.ins,rfl,a,b,H0,A,ps,_,rfl,WW,hat,hw,rfl,fun fb hfb=>?_⟩
    show if fb=true then _ else _
    cases fb with
    | false=>exact q false H ⟨(fun z=>nomatch z),fun z=>hfb.mpr z.1⟩ sr
    | true=>
     refine⟨_,SqT.of g,_,rfl,C,A.dx,_,.ref A.d2,W.ins,B.cl,B.n4,rfl,_,DGet.k (k:=Sum.inl (n:Int)) W.g2,?_⟩
     have hk:=WP.kept n
     show if (!(bC k2 (Sum.inl (n:Int))).isSome)=true then _ else _
     refine aQ (fun h1=>?_) (fun h1=>?_)
     ·refine⟨_,SqT.of g,_,rfl,C,A.dx,_,.int (cH ps:Int),W.ins,B.cl,B.n3,rfl,?_⟩
      refine q _ H ⟨fun z=>⟨hfb.mp rfl,fun t' p' k' d' y' hm=>?_,?_⟩,fun z=>?_⟩ sr
      ·rw[hk.mpr ⟨_,_,_,_,_,hm⟩]at h1;cases h1
      ·exact(lZ hw t).mpr (by have:=of_decide_eq_true z;omega)
      ·exact decide_eq_true (by have:=(lZ hw t).mp z.2.2;omega)
     ·refine q false H ⟨(fun z=>nomatch z),fun z=>?_⟩ sr
      obtain⟨t',p',k',x',y',hm⟩:=hk.mp (by simpa using h1)
      exact absurd hm (z.2.1 _ _ _ _ _)
  | asked n=>
   refine⟨_,SqT.of hat,_,rfl,?_⟩
   dsimp only [aK];refine⟨RKS,3,tR,rfl,C,A.dx,_,.int (cP ps:Int),W.ins,B.cl,B.n2,rfl,?_⟩
   refine aQ (fun h=>?_) (fun h=>?_)
   ·exact absurd (of_decide_eq_true h) (by have:=(gC hw 3).mp (fun q _=>by cases q <;> exact Nat.le_of_ble_eq_true rfl);omega)
   ·refine⟨_,SqT.of hat,_,rfl,C,A.dx,_,.ref A.d3,W.ins,B.cl,B.n5,rfl,_,DGet.k (k:=Sum.inl (n:Int)) W.g3,?_⟩
    show if (!(bC k3 (Sum.inl (n:Int))).isSome)=true then _ else _
    refine aQ (fun h1=>?_) (fun h1=>?_)
    ·refine q false H ⟨(fun z=>nomatch z),fun z=>?_⟩ sr
     obtain⟨⟨t,p,k,x,hm,_⟩,_⟩:=z
     rw[(hca n).mpr ⟨_,_,_,_,hm⟩]at h1;cases h1
    ·obtain⟨t,p,k,x,hm⟩:=(hca n).mp (by simpa using h1)
     refine⟨_,SqT.of hat,_,rfl,C,A.dx,_,.ref A.d5,W.ins,B.cl,B.n7,rfl,_,DGet.k (k:=Sum.inl (n:Int)) W.g5,?_⟩
     have hd:=WP.done n
     show if (bC k5 (Sum.inl (n:Int))).isSome=true then _ else _
     refine aQ (fun h2=>?_) (fun h2=>?_)
     ·refine q false H ⟨(fun z=>nomatch z),fun z=>?_⟩ sr
      obtain⟨t',y',hm'⟩:=hd.mp h2
      exact absurd hm' (z.2.2 _ _)
     ·have nod:∀t y,.done n t y∉ps:=fun t y hm'=>by rw[hd.mpr ⟨_,_,hm'⟩]at h2;cases h2
      refine⟨_,SqT.of hat,_,rfl,C,A.dx,_,.ref A.d4,W.ins,B.cl,B.n6,rfl,_,DGet.k (k:=Sum.inl (n:Int)) W.g4,?_⟩
      have hk:=WP.asked n
      show if (!(bC k4 (Sum.inl (n:Int))).isSome)=true then _ else _
      refine aQ (fun h3=>?_) (fun h3=>?_)
      ·have noa:.asked n∉ps:=fun hm'=>by rw[hk.mpr hm']at h3;cases h3
       obtain⟨bd,dg,gd⟩:=Bz W WP hw hm
       have hx:x.Ok:=hfp _ hm
       obtain⟨cs,hdx⟩:=(zR hx).dwx
       refine⟨C,A.dx,_,.ref A.d3,W.ins,B.cl,B.n5,rfl,_,SqT.of hat,_,rfl,A.d3,_,rfl,dg,bd,x.wd,x.vs,cs,dQ x,rfl,gd,hdx,fun tu us H2 s2 g2 ha=>⟨us,.inr (SqT.of g2),?_⟩⟩
       have hlen:=ha.length
       have hfar:=xJ x
       refine q _ H2 ⟨fun z=>⟨⟨t,p,k,x,hm,?_⟩,noa,nod⟩,fun z=>?_⟩ s2
       ·cases e:x.far with
        | true=>rfl
        | false=>have:=hfar.mpr e;have:=of_decide_eq_true z;omega
       ·obtain⟨⟨t',p',k',x',hm',hf'⟩,_⟩:=z
        have:=fV hw hm hm'
        cases this
        refine decide_eq_true ?_
        have:(dQ x).length≠0:=fun z=>by rw[hfar.mp z]at hf';cases hf'
        omega
      ·refine q false H ⟨(fun z=>nomatch z),fun z=>?_⟩ sr
       exact absurd (hk.mp (by simpa using h3)) z.2.1
  | done n t y=>
   obtain⟨b1,g,_⟩:=id hat
   refine⟨_,SqT.of g,_,rfl,?_⟩
   dsimp only [aK];refine⟨RKS,3,tR,rfl,C,A.dx,_,.int (cP ps:Int),W.ins,B.cl,B.n2,rfl,?_⟩
   refine aQ (fun h=>?_) (fun h=>?_)
   ·exact absurd (of_decide_eq_true h) (by have:=(gC hw 3).mp (fun q _=>by cases q <;> exact Nat.le_of_ble_eq_true rfl);omega)
   ·refine⟨_,SqT.of g,_,rfl,C,A.dx,_,.ref A.d3,W.ins,B.cl,B.n5,rfl,_,DGet.k (k:=Sum.inl (n:Int)) W.g3,?_⟩
    show if (!(bC k3 (Sum.inl (n:Int))).isSome)=true then _ else _
    refine aQ (fun h1=>?_) (fun h1=>?_)
    ·refine q false H ⟨(fun z=>nomatch z),fun z=>?_⟩ sr
     obtain⟨_,_,t,p,k,x,hm,_⟩:=z
     rw[(hca n).mpr ⟨_,_,_,_,hm⟩]at h1;cases h1
    ·obtain⟨t0,p,k,x,hm⟩:=(hca n).mp (by simpa using h1)
     refine⟨_,SqT.of g,_,rfl,C,A.dx,_,.ref A.d5,W.ins,B.cl,B.n7,rfl,_,DGet.k (k:=Sum.inl (n:Int)) W.g5,?_⟩
     have hd:=WP.done n
     show if (bC k5 (Sum.inl (n:Int))).isSome=true then _ else _
     refine aQ (fun h2=>?_) (fun h2=>?_)
     ·refine q false H ⟨(fun z=>nomatch z),fun z=>?_⟩ sr
      obtain⟨t',y',hm'⟩:=hd.mp h2
      exact absurd hm' (z.2.1 _ _)
     ·have nod:∀t y,.done n t y∉ps:=fun t y hm'=>by rw[hd.mpr ⟨_,_,hm'⟩]at h2;cases h2
      refine⟨_,SqT.of g,_,rfl,C,A.dx,_,.int (cH ps:Int),W.ins,B.cl,B.n3,rfl,?_⟩
      refine aQ (fun h3=>?_) (fun h3=>?_)
      ·have ht:=(lZ hw t).mpr (by have:=of_decide_eq_true h3;omega)
       refine⟨A.dx,_,W.ins,rfl,a,b,H0,A,ps,n,t,y,t0,p,k,x,rfl,WW,hat,hw,hfr,hfp _ hm,hm,fun fb H' hfb s'=>?_⟩
       refine q fb H' ⟨fun z=>⟨ht,nod,t0,p,k,x,hm,hfb.mp z⟩,fun z=>?_⟩ s'
       obtain⟨_,_,t',p',k',x',hm',hz⟩:=z
       have:=fV hw hm hm'
       cases this
       exact hfb.mpr hz
      ·refine q false H ⟨(fun z=>nomatch z),fun z=>?_⟩ sr
       have:=(lZ hw t).mp z.1
       exact absurd (of_decide_eq_false h3) Zo
end
end KL
namespace KL
open PySem L2
section
variable {P:Program} {w:World} {K:W.Frag} {mg:Str->Option Value} {base:Heap}
def s2K (k:List (bA × V)):RX->List (bA × V) | .kept n _ _ _ _ _=>bN k (Sum.inl (n:Int)) (.bl true) | _=>k
def s3K (k:List (bA × V)) (bd:Addr):RX->List (bA × V) | .came n _ _ _ _=>bN k (Sum.inl (n:Int)) (.ref bd) | _=>k
def s4K (k:List (bA × V)):RX->List (bA × V) | .asked n=>bN k (Sum.inl (n:Int)) (.bl true) | _=>k
def s5K (k:List (bA × V)):RX->List (bA × V) | .done n _ _=>bN k (Sum.inl (n:Int)) (.bl true) | _=>k
theorem NumK.put {k:List (bA × V)} {p q:Nat->Prop} (h:NumK k p) (n:Nat) (v:V) (hq:∀m,q m↔p m∨m=n):NumK (bN k (Sum.inl (n:Int)) v) q:=by
 intro m;rw[cV,hq];by_cases e:m=n
 ·subst e;rw[if_pos rfl];simp
 ·rw[if_neg (fun z=>e (by have:=Sum.inl.inj z;omega)),h m]
  exact⟨.inl,fun z=>z.resolve_right e⟩
theorem NumK.iff {k:List (bA × V)} {p q:Nat->Prop} (h:NumK k p) (hq:∀m,q m↔p m):NumK k q:=fun m=>by rw[hq];exact h m
theorem Lo (k:List (bA × V)) (x:bA) (v:V):(bN k x v).length≠0:=by
 unfold bN;split
 ·rename_i h
  cases k with
  | nil=>cases h
  | cons y r=>simp
 ·simp
theorem bP {α:Type} {l:List α} {x y:α}:x∈l++[y]↔x∈l∨x=y:=by simp
theorem WkP.step {H H':Hp} {ps:List RX} {k1 k2 k3 k4 k5:List (bA × V)} (h:WkP H ps k1 k2 k3 k4 k5) (s:TK H H') {r:RX} {b bd:Addr} (hr:r.At H' b) (hb:∀n t p k x,r=.came n t p k x->H' bd=some (.tup x.vs))  :
  WkP H' (ps++[r]) (bN k1 (Sum.inr (bH r)) (.ref b)) (s2K k2 r) (s3K k3 bd r) (s4K k4 r) (s5K k5 r):=by
 have h':=h.tk s
 have lp:∀(k:List (bA × V)) (x:bA) (v:V),k.length<=ps.length->(bN k x v).length<=(ps++[r]).length:=fun k x v l=>by have:=dW k x v;rw[kM];simp;omega
 have ls:∀(k:List (bA × V)),k.length<=ps.length->k.length<=(ps++[r]).length:=fun k l=>by rw[kM];omega
 refine⟨lp _ _ _ h.l1,?_,?_,?_,?_,⟨⟨fun z=>absurd z (Lo _ _ _),fun z=>by simp at z⟩,fun w e=>?_,fun w q e=>?_⟩,?_,⟨fun n e t p k x hm=>?_,fun n v e=>?_⟩,?_,?_⟩
 ·cases r <;> first | exact lp _ _ _ h.l2 | exact ls _ h.l2
 ·cases r <;> first | exact lp _ _ _ h.l3 | exact ls _ h.l3
 ·cases r <;> first | exact lp _ _ _ h.l4 | exact ls _ h.l4
 ·cases r <;> first | exact lp _ _ _ h.l5 | exact ls _ h.l5
 ·rw[dG]at e;split at e
  ·cases e
  ·rename_i hne
   rw[cV,if_neg (fun z=>hne (Sum.inr.inj z).symm)]
   exact h'.last.no w e
 ·rw[dG]at e;split at e
  ·rename_i hw
   cases e
   rw[cV,if_pos (by rw[hw])]
   exact⟨b,rfl,hr⟩
  ·rename_i hne
   rw[cV,if_neg (fun z=>hne (Sum.inr.inj z).symm)]
   exact h'.last.yes w q e
 ·cases r with
  | kept n t p k x y=>
   refine h.kept.put n _ fun m=>⟨fun⟨t',p',k',x',y',hm⟩=>?_,fun z=>?_⟩
   ·rcases bP.mp hm with hm | hm
    ·exact .inl ⟨_,_,_,_,_,hm⟩
    ·cases hm;exact .inr rfl
   ·rcases z with⟨t',p',k',x',y',hm⟩ | rfl
    ·exact⟨_,_,_,_,_,bP.mpr (.inl hm)⟩
    ·exact⟨_,_,_,_,_,bP.mpr (.inr rfl)⟩
  | _=>
   refine h.kept.iff fun m=>⟨fun⟨t',p',k',x',y',hm⟩=>?_,fun⟨t',p',k',x',y',hm⟩=>⟨_,_,_,_,_,bP.mpr (.inl hm)⟩⟩
   rcases bP.mp hm with hm | hm
   ·exact⟨_,_,_,_,_,hm⟩
   ·cases hm
 ·cases r with
  | came n1 t1 p1 k1' x1=>
   change bC (bN k3 (Sum.inl (n1:Int)) (.ref bd)) _=none at e
   rw[cV]at e;split at e
   ·cases e
   ·rename_i hne
    rcases bP.mp hm with hm | hm
    ·exact h.came.no n e _ _ _ _ hm
    ·cases hm;exact hne rfl
  | _=>
   rcases bP.mp hm with hm | hm
   ·exact h.came.no n e _ _ _ _ hm
   ·cases hm
 ·cases r with
  | came n1 t1 p1 k1' x1=>
   change bC (bN k3 (Sum.inl (n1:Int)) (.ref bd)) _=some v at e
   rw[cV]at e;split at e
   ·rename_i he
    have:n=n1:=by have:=Sum.inl.inj he;omega
    subst this;cases e
    exact⟨bd,t1,p1,k1',x1,rfl,hb _ _ _ _ _ rfl,bP.mpr (.inr rfl)⟩
   ·obtain⟨b',t',p',k',x',h1,h2,h3⟩:=h'.came.yes n v e
    exact⟨b',t',p',k',x',h1,h2,bP.mpr (.inl h3)⟩
  | _=>
   obtain⟨b',t',p',k',x',h1,h2,h3⟩:=h'.came.yes n v e
   exact⟨b',t',p',k',x',h1,h2,bP.mpr (.inl h3)⟩
 ·cases r with
  | asked n=>
   refine h.asked.put n _ fun m=>⟨fun hm=>?_,fun z=>?_⟩
   ·rcases bP.mp hm with hm | hm
    ·exact .inl hm
    ·cases hm;exact .inr rfl
   ·rcases z with hm | rfl
    ·exact bP.mpr (.inl hm)
    ·exact bP.mpr (.inr rfl)
  | _=>
   refine h.asked.iff fun m=>⟨fun hm=>?_,fun hm=>bP.mpr (.inl hm)⟩
   rcases bP.mp hm with hm | hm
   ·exact hm
   ·cases hm
 ·cases r with
  | done n t y=>
   refine h.done.put n _ fun m=>⟨fun⟨t',y',hm⟩=>?_,fun z=>?_⟩
   ·rcases bP.mp hm with hm | hm
    ·exact .inl ⟨_,_,hm⟩
    ·cases hm;exact .inr rfl
   ·rcases z with⟨t',y',hm⟩ | rfl
    ·exact⟨_,_,bP.mpr (.inl hm)⟩
    ·exact⟨_,_,bP.mpr (.inr rfl)⟩
  | _=>
   refine h.done.iff fun m=>⟨fun⟨t',y',hm⟩=>?_,fun⟨t',y',hm⟩=>⟨_,_,bP.mpr (.inl hm)⟩⟩
   rcases bP.mp hm with hm | hm
   ·exact⟨_,_,hm⟩
   ·cases hm
def Cb (C:Addr):Sp:=fun vs H Q _=>∃(a b:Addr) (H0:Hp) (A:WA) (ps:List RX) (r:RX),vs=[.ref a,.ref b]/\WkAt H0 H C a A ps/\r.At H0 b/\ps.length<=200/\∀(v:V) (H':Hp),WkAt H0 H' C a A (ps++[r])->Q v H'
theorem qK {H:Hp} {a:Addr} {k:List (bA × V)} {o:HO} (h:H a=some (.dK k)):TK H (aI H a o):=fun b xs e=>by rw[aD (fW e h (fun z=>nomatch z))];exact e
theorem Lp {H:Hp} {a C dx:Addr} {fs:List (Str × V)} {o:HO} (h:H a=some (.ins C dx fs)):TK H (aI H a o):=fun b xs e=>by rw[aD (fW e h (fun z=>nomatch z))];exact e
theorem Lq {C:Addr} (T:Txt K mg) (U:Top w.params K mg) (B:Xs K C) (D:MethAt K C "step" "Walk.step" gG ["self","row"]):sJ P w K mg base 1 C "step" ["self","row"] (Cb C):=by
 refine D.go lU (fun vs H Q E h=>?_) (fun f cdv A outer s H vs Q E hr h=>?_)
 ·obtain⟨a,b,H0,A,ps,r,rfl,_⟩:=h;rfl
 ·obtain⟨a,b,H0,A,ps,r,rfl,⟨WF,s0,k1,k2,k3,k4,k5,W,WP⟩,hat0,hl,q⟩:=h
  have hu1:=jK hr
  obtain⟨aR,m_RANKS,tR⟩:=U.g_RANKS
  have hat:=hat0.tk s0.tk
  obtain⟨xs,g,x0,x1,x2⟩:=bO hat
  have hl1:=WP.l1
  have hl2:=WP.l2
  have hl3:=WP.l3
  have hl4:=WP.l4
  have hl5:=WP.l5
  have sz:∀(k:List (bA × V)),k.length<=ps.length->k.length<sizeLine:=fun k h=>oZ (m:=1000) Zo Zd
  refine⟨_,(R.ae (R.ao (i:=2) lU.nd (R.ix (R.ag (K:=K)) (R.v 1) R.ac)) (R.ae (R.db (R.v 1) (R.de (R.bg (K:=K) (R.v 0)) (R.v 2) (R.dj hu1))) (R.ae (R.di (K:=K) (R.v 0) (R.ix (R.jk (K:=K) (P:=w.params)) (R.gR rfl m_RANKS) (R.v 2))) (R.ae (R.ar (R.al (R.bc (K:=K)) (R.v 2) (R.aq (R.aa R.af (R.aa R.af (R.aa R.af R.ad))))) (R.ah (R.di (K:=K) (R.v 0) (R.ix (R.ag (K:=K)) (R.v 1) R.ac))) R.au) (R.ae (R.ar (R.al R.eq (R.v 2) R.af) (R.ah (R.db R.bl (R.de (R.bg (K:=K) (R.v 0)) (R.ix (R.ag (K:=K)) (R.v 1) R.ac) (R.dj hu1)))) R.au) (R.ae (R.ar (R.al R.eq (R.v 2) R.af) (R.ah (R.db (R.ix (R.ag (K:=K)) (R.v 1) R.ac) (R.de (R.bg (K:=K) (R.v 0)) (R.ix (R.ag (K:=K)) (R.v 1) R.ac) (R.dj hu1)))) R.au) (R.ae (R.ar (R.al R.eq (R.v 2) R.af) (R.ah (R.db R.bl (R.de (R.bg (K:=K) (R.v 0)) (R.ix (R.ag (K:=K)) (R.v 1) R.ac) (R.dj hu1)))) R.au) (R.ah (R.ar (R.al R.eq (R.v 2) R.af) (R.ah (R.db R.bl (R.de (R.bg (K:=K) (R.v 0)) (R.ix (R.ag (K:=K)) (R.v 1) R.ac) (R.dj hu1)))) R.au))))))))),?_⟩
  refine⟨_,SqT.of g,_,x0,?_⟩
  dsimp only [aK];refine⟨C,A.dx,_,.ref A.d1,W.ins,B.cl,B.n1,rfl,A.d1,_,rfl,DPut.k (k:=Sum.inr (bH r)) W.g1 (sz _ hl1),?_⟩
  have W1:=W.put1 WF (bN k1 (Sum.inr (bH r)) (.ref b))
  have t1:TK H (aI H A.d1 (.dK (bN k1 (Sum.inr (bH r)) (.ref b)))):=qK W.g1
  have s1:Same H0 (aI H A.d1 (.dK (bN k1 (Sum.inr (bH r)) (.ref b)))):=cO WF.f1 s0
  generalize aI H A.d1 (.dK (bN k1 (Sum.inr (bH r)) (.ref b)))=H1 at W1 t1 s1;refine⟨RKS,_,tR,Qr r,C,A.dx,_,W1.ins,B.cl,B.n2,Nat.le_of_ble_eq_true rfl,?_⟩
  have e2:bL "last_rank" (.int (r.rank:Int)) (Xt A (cP ps) (cH ps))=Xt A r.rank (cH ps):=rfl
  rw[e2];have W2:=W1.fld r.rank (cH ps)
  have t2:=t1.trans (Lp (o:=.ins C A.dx (Xt A r.rank (cH ps))) W1.ins)
  have s2:Same H0 (aI H1 a (.ins C A.dx (Xt A r.rank (cH ps)))):=cO WF.fa s1
  generalize aI H1 a (.ins C A.dx (Xt A r.rank (cH ps)))=H2 at W2 t2 s2;dsimp only;refine bK (fun σ' H'=>σ'=[some (.ref a),some (.ref b),some (.str (bH r))]/\WkG H' C a A r.rank (cH (ps++[r])) (bN k1 (Sum.inr (bH r)) (.ref b)) k2 k3 k4 k5/\TK H H'/\Same H0 H') (fun nx hnx=>?_) ?_
  ·refine⟨aL rfl,fun tp H3 s3 g3=>⟨tp,_,rfl,.inr (SqT.of g3),rfl,rfl,?_⟩⟩
   have W3:=W2.same s3
   have t3:=t2.trans s3.tk
   have s03:=s2.trans s3
   have et:gT (.str (bH r)) [.str "next",.str "came",.str "done"]=kS r:=by cases r <;> rfl
   rw[kT]at hnx;show if gT (.str (bH r)) [.str "next",.str "came",.str "done"]=true then _ else _
   rw[et];refine aQ (fun h=>?_) (fun h=>?_)
   ·rw[if_pos h]at hnx;have e2:Ky r=.int (r.turn:Int):=by cases r <;> first | rfl | cases h
    have x2':=x2 (by rw[e2];exact fun z=>nomatch z)
    rw[e2]at x2';refine⟨_,SqT.of (t3 _ _ g),_,x2',C,A.dx,_,W3.ins,B.cl,B.n3,Nat.le_of_ble_eq_true rfl,?_⟩
    exact hnx _ _ ⟨rfl,W3.fld r.rank r.turn,t3.trans (Lp W3.ins),cO WF.fa s03⟩
   ·rw[if_neg (by rw[h];exact Bool.false_ne_true)]at hnx
    exact hnx _ _ ⟨rfl,W3,t3,s03⟩
  rintro σ' H3 ⟨rfl,W3,t3,s3⟩
  have hat3:=hat.tk t3
  rw[<- gX ps r]at W3;cases r with
  | next n t=>exact q _ _ ⟨WF,s3,_,_,_,_,_,W3,WP.step (bd:=a) t3 hat3 (fun _ _ _ _ _ e=>nomatch e)⟩
  | has z m=>exact q _ _ ⟨WF,s3,_,_,_,_,_,W3,WP.step (bd:=a) t3 hat3 (fun _ _ _ _ _ e=>nomatch e)⟩
  | kept n t p k x y=>
   obtain⟨b1,b2,g',_⟩:=id hat3
   refine⟨C,A.dx,_,.ref A.d2,W3.ins,B.cl,B.n4,rfl,_,SqT.of g',_,rfl,A.d2,_,rfl,DPut.k (k:=Sum.inl (n:Int)) W3.g2 (sz _ hl2),?_⟩
   have t4:=t3.trans (qK (o:=.dK (bN k2 (Sum.inl (n:Int)) (.bl true))) W3.g2)
   exact q _ _ ⟨WF,cO WF.f2 s3,_,_,_,_,_,W3.put2 WF _,WP.step (bd:=a) t4 (hat.tk t4) (fun _ _ _ _ _ e=>nomatch e)⟩
  | came n t p k x=>
   obtain⟨b1,g',gd'⟩:=id hat3
   refine⟨_,SqT.of g',_,rfl,C,A.dx,_,.ref A.d3,W3.ins,B.cl,B.n5,rfl,_,SqT.of g',_,rfl,A.d3,_,rfl,DPut.k (k:=Sum.inl (n:Int)) W3.g3 (sz _ hl3),?_⟩
   have t5:=qK (o:=.dK (bN k3 (Sum.inl (n:Int)) (.ref b1))) W3.g3
   have t4:=t3.trans t5
   exact q _ _ ⟨WF,cO WF.f3 s3,_,_,_,_,_,W3.put3 WF _,WP.step (bd:=b1) t4 (hat.tk t4) (fun _ _ _ _ _ e=>by cases e;exact t5 _ _ gd')⟩
  | asked n=>
   refine⟨C,A.dx,_,.ref A.d4,W3.ins,B.cl,B.n6,rfl,_,SqT.of hat3,_,rfl,A.d4,_,rfl,DPut.k (k:=Sum.inl (n:Int)) W3.g4 (sz _ hl4),?_⟩
   have t4:=t3.trans (qK (o:=.dK (bN k4 (Sum.inl (n:Int)) (.bl true))) W3.g4)
   exact q _ _ ⟨WF,cO WF.f4 s3,_,_,_,_,_,W3.put4 WF _,WP.step (bd:=a) t4 (hat.tk t4) (fun _ _ _ _ _ e=>nomatch e)⟩
  | done n t y=>
   obtain⟨b1,g',_⟩:=id hat3
   refine⟨C,A.dx,_,.ref A.d5,W3.ins,B.cl,B.n7,rfl,_,SqT.of g',_,rfl,A.d5,_,rfl,DPut.k (k:=Sum.inl (n:Int)) W3.g5 (sz _ hl5),?_⟩
   have t4:=t3.trans (qK (o:=.dK (bN k5 (Sum.inl (n:Int)) (.bl true))) W3.g5)
   exact q _ _ ⟨WF,cO WF.f5 s3,_,_,_,_,_,W3.put5 WF _,WP.step (bd:=a) t4 (hat.tk t4) (fun _ _ _ _ _ e=>nomatch e)⟩
def Cc (C:Addr):Sp:=fun vs H Q _=>∃(p dx:Addr),vs=[.ref p]/\H p=some (.ins C dx [])/\∀(H':Hp) (A:WA),H A.d1=none->H A.d2=none->H A.d3=none->H A.d4=none->H A.d5=none->[A.d1,A.d2,A.d3,A.d4,A.d5].Nodup->WkG H' C p A 0 0 [] [] [] [] []->(∀b o,H b=some o->b≠p->H' b=some o)->Q .non H'
theorem Lr {C:Addr} (B:Xs K C) (D:ClsAt K mg "Walk" C "Walk.__init__" cD ["self"] [[]]):∀d∈([[]]:List (List V)),Wn P w K mg base 1 "Walk" C ["self"] d (Cc C):=by
 refine D.go nM (fun vs H Q E h=>?_) (fun f cdv A outer s H vs Q E hr h=>?_)
 ·obtain⟨p,dx,rfl,_⟩:=h;rfl
 ·obtain⟨p,dx,rfl,hp,q⟩:=h
  refine⟨_,(R.ae (R.di (K:=K) (R.v 0) R.dq) (R.ae (R.di (K:=K) (R.v 0) R.ac) (R.ae (R.di (K:=K) (R.v 0) R.ac) (R.ae (R.di (K:=K) (R.v 0) R.dq) (R.ae (R.di (K:=K) (R.v 0) R.dq) (R.ae (R.di (K:=K) (R.v 0) R.dq) (R.ah (R.di (K:=K) (R.v 0) R.dq)))))))),?_⟩
  have st:∀ {H1:Hp} {d:Addr} {o o':HO},(∀b u,H b=some u->b≠p->H1 b=some u)->H1 d=none->p≠d->(∀b u,H b=some u->b≠p->(aI (aI H1 d o) p o') b=some u)/\H d=none:=fun {H1 d o o'} k hd hpd=>by
   refine⟨fun b u e hb=>?_,?_⟩
   ·rw[aD hb,aD (aE (k b u e hb) hd)];exact k b u e hb
   ·cases e:H d with
    | none=>rfl
    | some u=>rw[k d u e hpd.symm]at hd;cases hd
  intro d1 hd1;have n1:=aE hp hd1
  refine⟨C,dx,_,(by rw[aD n1];exact hp),B.cl,B.n1,(by show 0<1000;decide),?_⟩
  obtain⟨k1,f1⟩:=st (o:=.dK []) (o':=.ins C dx (bL "last_rows" (.ref d1) [])) (fun b u e _=>e) hd1 n1
  have i1:(aI (aI H d1 (.dK [])) p (.ins C dx (bL "last_rows" (.ref d1) []))) p=some (.ins C dx [("last_rows",.ref d1)]):=aA
  have a1:(aI (aI H d1 (.dK [])) p (.ins C dx (bL "last_rows" (.ref d1) []))) d1=some (.dK []):=by rw[aD n1.symm];exact aA
  dsimp only;generalize aI (aI H d1 (.dK [])) p (.ins C dx (bL "last_rows" (.ref d1) []))=H1 at k1 i1 a1;refine⟨C,dx,_,i1,B.cl,B.n2,Nat.le_of_ble_eq_true rfl,?_⟩
  refine⟨C,dx,_,aA,B.cl,B.n3,Nat.le_of_ble_eq_true rfl,?_⟩
  have i2:(aI (aI H1 p (.ins C dx (bL "last_rank" (.int 0) [("last_rows",.ref d1)]))) p (.ins C dx (bL "last_turn" (.int 0) (bL "last_rank" (.int 0) [("last_rows",.ref d1)])))) p=some (.ins C dx [("last_rows",.ref d1),("last_rank",.int 0),("last_turn",.int 0)]):=aA
  have a2:(aI (aI H1 p (.ins C dx (bL "last_rank" (.int 0) [("last_rows",.ref d1)]))) p (.ins C dx (bL "last_turn" (.int 0) (bL "last_rank" (.int 0) [("last_rows",.ref d1)])))) d1=some (.dK []):=by rw[aD n1.symm,aD n1.symm];exact a1
  have k2:∀b u,H b=some u->b≠p->(aI (aI H1 p (.ins C dx (bL "last_rank" (.int 0) [("last_rows",.ref d1)]))) p (.ins C dx (bL "last_turn" (.int 0) (bL "last_rank" (.int 0) [("last_rows",.ref d1)])))) b=some u:=fun b u e hb=>by rw[aD hb,aD hb];exact k1 b u e hb
  generalize aI (aI H1 p (.ins C dx (bL "last_rank" (.int 0) [("last_rows",.ref d1)]))) p (.ins C dx (bL "last_turn" (.int 0) (bL "last_rank" (.int 0) [("last_rows",.ref d1)])))=H2 at i2 a2 k2;intro d2 hd2;have n2:=aE i2 hd2
  have m12:=aE a2 hd2
  refine⟨C,dx,_,(by rw[aD n2];exact i2),B.cl,B.n4,Nat.le_of_ble_eq_true rfl,?_⟩
  obtain⟨k3,f2⟩:=st (o:=.dK []) (o':=.ins C dx (bL "kept_numbers" (.ref d2) [("last_rows",.ref d1),("last_rank",.int 0),("last_turn",.int 0)])) k2 hd2 n2
  have i3:(aI (aI H2 d2 (.dK [])) p (.ins C dx (bL "kept_numbers" (.ref d2) [("last_rows",.ref d1),("last_rank",.int 0),("last_turn",.int 0)]))) p=some (.ins C dx [("last_rows",.ref d1),("last_rank",.int 0),("last_turn",.int 0),("kept_numbers",.ref d2)]):=aA
  have a3:(aI (aI H2 d2 (.dK [])) p (.ins C dx (bL "kept_numbers" (.ref d2) [("last_rows",.ref d1),("last_rank",.int 0),("last_turn",.int 0)]))) d1=some (.dK []):=by rw[aD n1.symm,aD m12];exact a2
  have c3:(aI (aI H2 d2 (.dK [])) p (.ins C dx (bL "kept_numbers" (.ref d2) [("last_rows",.ref d1),("last_rank",.int 0),("last_turn",.int 0)]))) d2=some (.dK []):=by rw[aD n2.symm];exact aA
  dsimp only;generalize aI (aI H2 d2 (.dK [])) p (.ins C dx (bL "kept_numbers" (.ref d2) [("last_rows",.ref d1),("last_rank",.int 0),("last_turn",.int 0)]))=H3 at k3 i3 a3 c3;intro d3 hd3;have n3:=aE i3 hd3
  have m13:=aE a3 hd3
  have m23:=aE c3 hd3
  refine⟨C,dx,_,(by rw[aD n3];exact i3),B.cl,B.n5,Nat.le_of_ble_eq_true rfl,?_⟩
  obtain⟨k4,f3⟩:=st (o:=.dK []) (o':=.ins C dx (bL "came_deeds" (.ref d3) [("last_rows",.ref d1),("last_rank",.int 0),("last_turn",.int 0),("kept_numbers",.ref d2)])) k3 hd3 n3
  have i4:(aI (aI H3 d3 (.dK [])) p (.ins C dx (bL "came_deeds" (.ref d3) [("last_rows",.ref d1),("last_rank",.int 0),("last_turn",.int 0),("kept_numbers",.ref d2)]))) p=some (.ins C dx [("last_rows",.ref d1),("last_rank",.int 0),("last_turn",.int 0),("kept_numbers",.ref d2),("came_deeds",.ref d3)]):=aA
  have a4:(aI (aI H3 d3 (.dK [])) p (.ins C dx (bL "came_deeds" (.ref d3) [("last_rows",.ref d1),("last_rank",.int 0),("last_turn",.int 0),("kept_numbers",.ref d2)]))) d1=some (.dK []):=by rw[aD n1.symm,aD m13];exact a3
  have c4:(aI (aI H3 d3 (.dK [])) p (.ins C dx (bL "came_deeds" (.ref d3) [("last_rows",.ref d1),("last_rank",.int 0),("last_turn",.int 0),("kept_numbers",.ref d2)]))) d2=some (.dK []):=by rw[aD n2.symm,aD m23];exact c3
  have e4:(aI (aI H3 d3 (.dK [])) p (.ins C dx (bL "came_deeds" (.ref d3) [("last_rows",.ref d1),("last_rank",.int 0),("last_turn",.int 0),("kept_numbers",.ref d2)]))) d3=some (.dK []):=by rw[aD n3.symm];exact aA
  dsimp only;generalize aI (aI H3 d3 (.dK [])) p (.ins C dx (bL "came_deeds" (.ref d3) [("last_rows",.ref d1),("last_rank",.int 0),("last_turn",.int 0),("kept_numbers",.ref d2)]))=H4 at k4 i4 a4 c4 e4;intro d4 hd4;have n4:=aE i4 hd4
  have m14:=aE a4 hd4
  have m24:=aE c4 hd4
  have m34:=aE e4 hd4
  refine⟨C,dx,_,(by rw[aD n4];exact i4),B.cl,B.n6,Nat.le_of_ble_eq_true rfl,?_⟩
  obtain⟨k5,f4⟩:=st (o:=.dK []) (o':=.ins C dx (bL "asked_numbers" (.ref d4) [("last_rows",.ref d1),("last_rank",.int 0),("last_turn",.int 0),("kept_numbers",.ref d2),("came_deeds",.ref d3)])) k4 hd4 n4
  have i5:(aI (aI H4 d4 (.dK [])) p (.ins C dx (bL "asked_numbers" (.ref d4) [("last_rows",.ref d1),("last_rank",.int 0),("last_turn",.int 0),("kept_numbers",.ref d2),("came_deeds",.ref d3)]))) p=some (.ins C dx [("last_rows",.ref d1),("last_rank",.int 0),("last_turn",.int 0),("kept_numbers",.ref d2),("came_deeds",.ref d3),("asked_numbers",.ref d4)]):=aA
  have a5:(aI (aI H4 d4 (.dK [])) p (.ins C dx (bL "asked_numbers" (.ref d4) [("last_rows",.ref d1),("last_rank",.int 0),("last_turn",.int 0),("kept_numbers",.ref d2),("came_deeds",.ref d3)]))) d1=some (.dK []):=by rw[aD n1.symm,aD m14];exact a4
  have c5:(aI (aI H4 d4 (.dK [])) p (.ins C dx (bL "asked_numbers" (.ref d4) [("last_rows",.ref d1),("last_rank",.int 0),("last_turn",.int 0),("kept_numbers",.ref d2),("came_deeds",.ref d3)]))) d2=some (.dK []):=by rw[aD n2.symm,aD m24];exact c4
  have e5:(aI (aI H4 d4 (.dK [])) p (.ins C dx (bL "asked_numbers" (.ref d4) [("last_rows",.ref d1),("last_rank",.int 0),("last_turn",.int 0),("kept_numbers",.ref d2),("came_deeds",.ref d3)]))) d3=some (.dK []):=by rw[aD n3.symm,aD m34];exact e4
  have g5:(aI (aI H4 d4 (.dK [])) p (.ins C dx (bL "asked_numbers" (.ref d4) [("last_rows",.ref d1),("last_rank",.int 0),("last_turn",.int 0),("kept_numbers",.ref d2),("came_deeds",.ref d3)]))) d4=some (.dK []):=by rw[aD n4.symm];exact aA
  dsimp only;generalize aI (aI H4 d4 (.dK [])) p (.ins C dx (bL "asked_numbers" (.ref d4) [("last_rows",.ref d1),("last_rank",.int 0),("last_turn",.int 0),("kept_numbers",.ref d2),("came_deeds",.ref d3)]))=H5 at k5 i5 a5 c5 e5 g5;intro d5 hd5;have n5:=aE i5 hd5
  have m15:=aE a5 hd5
  have m25:=aE c5 hd5
  have m35:=aE e5 hd5
  have m45:=aE g5 hd5
  refine⟨C,dx,_,(by rw[aD n5];exact i5),B.cl,B.n7,Nat.le_of_ble_eq_true rfl,?_⟩
  obtain⟨k6,f5⟩:=st (o:=.dK []) (o':=.ins C dx (bL "done_numbers" (.ref d5) [("last_rows",.ref d1),("last_rank",.int 0),("last_turn",.int 0),("kept_numbers",.ref d2),("came_deeds",.ref d3),("asked_numbers",.ref d4)])) k5 hd5 n5
  refine q _ ⟨dx,d1,d2,d3,d4,d5⟩ f1 f2 f3 f4 f5 ?_ ⟨aA,?_,?_,?_,?_,?_⟩ k6
  ·simp only [List.nodup_cons,List.mem_cons,List.not_mem_nil,or_false,not_or]
   exact⟨⟨m12,m13,m14,m15⟩,⟨m23,m24,m25⟩,⟨m34,m35⟩,m45,not_false,List.nodup_nil⟩
  ·show(aI _ p _) d1=_
   rw[aD n1.symm,aD m15];exact a5
  ·show(aI _ p _) d2=_
   rw[aD n2.symm,aD m25];exact c5
  ·show(aI _ p _) d3=_
   rw[aD n3.symm,aD m35];exact e5
  ·show(aI _ p _) d4=_
   rw[aD n4.symm,aD m45];exact g5
  ·show(aI _ p _) d5=_
   rw[aD n5.symm];exact aA
def Td:Sp:=fun vs H Q _=>∃(ra:Addr) (rs:List RX) (as:List Addr),vs=[.ref ra]/\RxsAt H ra rs as/\(∀r∈rs,cI r)/\rs.length<=100/\∀(o:Option Nat) (H':Hp),qI rs o->Same H H'->Q (Fa o) H'
theorem vB {C:Addr} (T:Txt K mg) (c_Walk0:Wn P w K mg base 1 "Walk" C ["self"] [] (Cc C)) (c_Walk_fits:sJ P w K mg base 6 C "fits" ["self","row"] (Ca C)) (c_Walk_step:sJ P w K mg base 1 C "step" ["self","row"] (Cb C))
  (D:DefAt K mg "first_odd" gH ["rows"]):aG P w K mg base 7 "first_odd" ["rows"] Td:=by
 refine D.go fU (fun vs H Q E h=>?_) (fun f cdv A outer s H vs Q E hr h=>?_)
 ·obtain⟨ra,rs,as,rfl,_⟩:=h;rfl
 ·obtain⟨ra,rs,as,rfl,RR,hf,hl,q⟩:=h
  have hr_Walk:Room 2 _:=hr.mono Zd
  have hr_Walk_fits:Room 6 _:=hr
  have hr_Walk_step:Room 1 _:=hr.mono Zd
  have le:=RR.len
  refine⟨_,(R.ae (R.ao (i:=1) fU.nd (R.jr c_Walk0 hr_Walk rfl)) (R.ae (R.dh PassesOwn.never rfl (R.gw (K:=K) rfl T.b_enumerate (R.v 0)) (R.dt (K:=K) (n:=2) rfl (R.bp (R.gn (i:=2) fU.nd) (R.bp (R.gn (i:=3) fU.nd) R.du))) (R.ae (R.ar (R.cf (R.bn (R.cq c_Walk_fits hr_Walk_fits (R.v 1) (R.aa (R.v 3) R.ad)))) (R.ah (R.ai (R.v 2))) R.au) (R.ah (R.bz (R.cq c_Walk_step hr_Walk_step (R.v 1) (R.aa (R.v 3) R.ad)))))) (R.ah (R.ai R.bu)))),?_⟩
  refine fun a dx ha hdx hne=>?_
  refine⟨a,dx,rfl,aA,fun H1 A f1 f2 f3 f4 f5 nd W1 k1=>⟨rfl,?_⟩⟩
  have fr:∀ {d:Addr},(aI (aI H dx (.own a)) a (.ins C dx [])) d=none->H d=none:=fun {d} e=>by
   by_cases h1:d=a
   ·rw[h1,aA]at e;cases e
   ·by_cases h2:d=dx
    ·rw[h2];exact hdx
    ·rw[aD h1,aD h2]at e;exact e
  have s1:Same H H1:=fun c o e=>k1 c o (by rw[aD (aE e ha),aD (aE e hdx)];exact e) (aE e ha)
  have WF:WkF H a A:=⟨ha,fr f1,fr f2,fr f3,fr f4,fr f5,nd⟩
  have W0:WkAt H H1 C a A []:=⟨WF,s1,[],[],[],[],[],W1,⟨bQ _,bQ _,bQ _,bQ _,bQ _,⟨⟨fun _=>rfl,fun _=>rfl⟩,fun _ _=>rfl,(fun _ _ e=>nomatch e)⟩,fun n=>⟨(fun z=>nomatch z),fun⟨_,_,_,_,_,z⟩=>nomatch z⟩,⟨(fun _ _ _ _ _ _ z=>nomatch z),(fun _ _ e=>nomatch e)⟩,fun n=>⟨(fun z=>nomatch z),(fun z=>nomatch z)⟩,fun n=>⟨(fun z=>nomatch z),fun⟨_,_,z⟩=>nomatch z⟩⟩⟩
  dsimp only [aK];refine bK (fun σ' H'=>RX.Whole rs/\Same H H') (fun nx hnx=>?_) ?_
  ·refine⟨_,SqL.of (s1 _ _ RR.lst),wV (xs:=as.map V.ref) (fun i σ' H'=>∃o2 o3,σ'=[some (.ref ra),some (.ref a),o2,o3]/\WkAt H H' C a A (rs.take i)/\RX.Whole (rs.take i)) (fun i σ' H' ⟨_,_,_,W',_⟩=>SqL.of (W'.2.1 _ _ RR.lst)) ⟨_,_,rfl,W0,.nil⟩ ?_ ?_⟩
   ·rintro i x σ' H2 te hx ⟨o2,o3,rfl,W2,hw⟩ hte
    obtain⟨b,r,rfl,hb,hrr,hat⟩:=RR.get hx
    have hil:i<rs.length:=(Zgs.mp hrr).1
    have se:=aF (o:=.tup [.int (i:Int),.ref b]) hte
    refine⟨te,_,rfl,SqT.of aA,rfl,_,_,rfl,_,_,rfl,rfl,?_⟩
    generalize aI H2 te (.tup [.int (i:Int),.ref b])=H3 at se;replace W2:=W2.same se
    have⟨_,s3,k1',k2',k3',k4',k5',WG,_⟩:=W2
    dsimp only [aK];refine⟨A.dx,_,WG.ins,rfl,a,b,H,A,rs.take i,r,rfl,W2,hat.tk s3.tk,hw,fun q hq=>hf q (List.mem_of_mem_take hq),hf r (jW hrr),fun fb H4 hfb s4=>?_⟩
    have W4:=W2.same s4
    have⟨_,s04,_,_,_,_,_,WG4,_⟩:=W4
    cases fb with
    | false=>exact q (some i) H4 ⟨r,hrr,hw,fun z=>by have:=hfb.mpr z;cases this⟩ s04
    | true=>
     have hfit:=hfb.mp rfl
     refine⟨A.dx,_,WG4.ins,rfl,a,b,H,A,rs.take i,r,rfl,W4,hat,by rw[jD];omega,fun v H5 W5=>?_⟩
     rw[<- cE hrr]at W5;exact⟨_,_,rfl,W5,by rw[cE hrr];exact hw.snoc hfit⟩
   ·rintro σ' H2 ⟨o2,o3,rfl,W2,hw⟩
    rw[aZ,<- le,vR (bQ _)]at hw;exact hnx _ _ ⟨hw,W2.2.1⟩
  ·rintro σ' H2 ⟨hw,s2⟩
   exact q none H2 hw s2
end
end KL
namespace KL
open PySem L2
section
variable {P:Program} {w:World} {K:W.Frag} {mg:Str->Option Value} {base:Heap}
structure BdP (rs:List RX) (sh:List Nat) (num turn:Nat) (us:List Un):Prop where
 wh:RX.Whole rs
 ok:∀r∈rs,r.Ok
 cnum:∀n t p k x,.came n t p k x∈rs->n<=num
 knum:∀n t p k x y,.kept n t p k x y∈rs->n∈sh
 trn:∀q∈rs,q.turn<=turn
 und:∀u∈us,u.x.Ok/\(∃t p k,.came u.n t p k u.x∈rs)/\(∀t y,.done u.n t y∉rs)/\(u.q=true↔.asked u.n∈rs)/\(u.q=true->u.x.far=true)
 nd:(us.map (·.n)).Nodup
 asn:∀n,.asked n∈rs->∃t p k x,.came n t p k x∈rs
 dnn:∀n t y,.done n t y∈rs->∃t p k x,.came n t p k x∈rs
theorem BdP.turn' {rs:List RX} {sh:List Nat} {num turn turn':Nat} {us:List Un} (h:BdP rs sh num turn us) (ht:turn<=turn'):BdP rs sh num turn' us:=
 ⟨h.wh,h.ok,h.cnum,h.knum,fun q hq=>kN (h.trn q hq) ht,h.und,h.nd,h.asn,h.dnn⟩
theorem BdP.came {rs:List RX} {sh:List Nat} {num turn n:Nat} {us:List Un} (h:BdP rs sh num turn us) (hn:num<n) (hns:n∉sh) (hn2:n<=999999) (ht:turn<=1000000000000) {p k:Str} {x:Dd} {e t:Addr} (hp:fE p) (hk:wU k) (hx:x.Ok) :
  BdP (rs++[.came n turn p k x]) sh n turn (us++[⟨n,x,false,e,t⟩]):=by
 have no1:.asked n∉rs:=fun m=>by obtain⟨t,p,k,x,m⟩:=h.asn n m;have:=h.cnum _ _ _ _ _ m;omega
 have no2:∀t y,.done n t y∉rs:=fun t y m=>by obtain⟨t,p,k,x,m⟩:=h.dnn n t y m;have:=h.cnum _ _ _ _ _ m;omega
 refine⟨h.wh.snoc ⟨fun n' t' p' k' d' m=>oZ (h.cnum _ _ _ _ _ m) hn,fun t' p' k' d' y' m=>absurd (h.knum _ _ _ _ _ _ m) hns,h.trn⟩,fun r hr=>?_,fun n' t' p' k' x' hr=>?_,fun n' t' p' k' x' y' hr=>?_,fun q hq=>?_,fun u hu=>?_,?_,fun n' hr=>?_,fun n' t' y' hr=>?_⟩
 ·rcases aH hr with hr | rfl
  ·exact h.ok r hr
  ·exact⟨Zo,hn2,ht,hp,hk,hx⟩
 ·rcases aH hr with hr | hr
  ·have:=h.cnum _ _ _ _ _ hr;omega
  ·cases hr;exact bQ _
 ·rcases aH hr with hr | hr
  ·exact h.knum _ _ _ _ _ _ hr
  ·cases hr
 ·rcases aH hq with hq | rfl
  ·exact h.trn q hq
  ·exact bQ _
 ·rcases aH hu with hu | rfl
  ·obtain⟨h1,⟨t1,p1,k1,h2⟩,h3,h4,h5⟩:=h.und u hu
   refine⟨h1,⟨t1,p1,k1,List.mem_append_left _ h2⟩,fun t' y' m=>?_,⟨fun z=>List.mem_append_left _ (h4.mp z),fun m=>?_⟩,h5⟩
   ·rcases aH m with m | m
    ·exact h3 _ _ m
    ·cases m
   ·rcases aH m with m | m
    ·exact h4.mpr m
    ·cases m
  ·refine⟨hx,⟨turn,p,k,List.mem_append_right _ jI⟩,fun t' y' m=>?_,⟨(fun z=>nomatch z),fun m=>?_⟩,(fun z=>nomatch z)⟩
   ·rcases aH m with m | m
    ·exact no2 _ _ m
    ·cases m
   ·rcases aH m with m | m
    ·exact absurd m no1
    ·cases m
 ·rw[iB];refine List.nodup_append.mpr ⟨h.nd,Zs,fun a ha b hb=>?_⟩
  obtain⟨u,hu,rfl⟩:=Zmm.mp ha
  obtain⟨_,⟨t1,p1,k1,h2⟩,_⟩:=h.und u hu
  have:=h.cnum _ _ _ _ _ h2
  have hb':b=n:=by simpa using hb
  omega
 ·rcases aH hr with hr | hr
  ·obtain⟨t,p,k,x,m⟩:=h.asn n' hr;exact⟨t,p,k,x,List.mem_append_left _ m⟩
  ·cases hr
 ·rcases aH hr with hr | hr
  ·obtain⟨t,p,k,x,m⟩:=h.dnn n' _ _ hr;exact⟨t,p,k,x,List.mem_append_left _ m⟩
  ·cases hr
theorem BdP.mark {rs:List RX} {sh:List Nat} {num turn j:Nat} {us:List Un} {u:Un} (h:BdP rs sh num turn us) (hu:us[j]?=some u) (hq:u.q=false) (hf:u.x.far=true) :
  BdP (rs++[.asked u.n]) sh num turn (us.set j {u with q:=true }):=by
 have hm:=jW hu
 obtain⟨g1,⟨t1,p1,k1,g2⟩,g3,g4,g5⟩:=h.und u hm
 have no:.asked u.n∉rs:=fun m=>by rw[g4.mpr m]at hq;cases hq
 have ok1:=h.ok _ g2
 refine⟨h.wh.snoc ⟨⟨t1,p1,k1,u.x,g2,hf⟩,no,g3⟩,fun r hr=>?_,fun n' t' p' k' x' hr=>?_,fun n' t' p' k' x' y' hr=>?_,fun q hq=>?_,fun v hv=>?_,?_,fun n' hr=>?_,fun n' t' y' hr=>?_⟩
 ·rcases aH hr with hr | rfl
  ·exact h.ok r hr
  ·exact⟨ok1.1,ok1.2.1⟩
 ·rcases aH hr with hr | hr
  ·exact h.cnum _ _ _ _ _ hr
  ·cases hr
 ·rcases aH hr with hr | hr
  ·exact h.knum _ _ _ _ _ _ hr
  ·cases hr
 ·rcases aH hq with hq | rfl
  ·exact h.trn q hq
  ·exact Nat.zero_le _
 ·rcases lX hv with rfl | ⟨i,hi,ei⟩
  ·refine⟨g1,⟨t1,p1,k1,List.mem_append_left _ g2⟩,fun t' y' m=>?_,⟨fun _=>List.mem_append_right _ jI,fun _=>rfl⟩,fun _=>hf⟩
   rcases aH m with m | m
   ·exact g3 _ _ m
   ·cases m
  ·obtain⟨h1,⟨t2,p2,k2,h2⟩,h3,h4,h5⟩:=h.und v (jW ei)
   have hne:=Kz h.nd ei hu hi
   refine⟨h1,⟨t2,p2,k2,List.mem_append_left _ h2⟩,fun t' y' m=>?_,⟨fun z=>List.mem_append_left _ (h4.mp z),fun m=>?_⟩,h5⟩
   ·rcases aH m with m | m
    ·exact h3 _ _ m
    ·cases m
   ·rcases aH m with m | m
    ·exact h4.mpr m
    ·injection m with m;exact absurd m hne
 ·have e:(us.set j {u with q:=true }).map (·.n)=us.map (·.n):=by
   obtain⟨hj1,hj2⟩:=Zgs.mp hu
   rw[List.map_set];apply List.ext_getElem Zs
   intro i h1 h2;rw[List.getElem_set];split
   ·rename_i z;subst z;simp [hj2]
   ·rfl
  rw[e];exact h.nd
 ·rcases aH hr with hr | hr
  ·obtain⟨t,p,k,x,m⟩:=h.asn n' hr;exact⟨t,p,k,x,List.mem_append_left _ m⟩
  ·cases hr;exact⟨t1,p1,k1,u.x,List.mem_append_left _ g2⟩
 ·rcases aH hr with hr | hr
  ·obtain⟨t,p,k,x,m⟩:=h.dnn n' _ _ hr;exact⟨t,p,k,x,List.mem_append_left _ m⟩
  ·cases hr
theorem BdP.done {rs:List RX} {sh:List Nat} {num turn j:Nat} {us:List Un} {u:Un} {y:An} (h:BdP rs sh num turn us) (hu:us[j]?=some u) (ht:turn<=1000000000000) (r1:An.Of u.x y) (r2:u.x.far=true->(u.q=true↔y.early=false)) :
  BdP (rs++[.done u.n turn y]) sh num turn (us.eraseIdx j):=by
 have hm:=jW hu
 obtain⟨g1,⟨t1,p1,k1,g2⟩,g3,g4,g5⟩:=h.und u hm
 have ok1:=h.ok _ g2
 refine⟨h.wh.snoc ⟨h.trn,g3,t1,p1,k1,u.x,g2,r1,fun z=>⟨fun m=>(r2 z).mp (g4.mpr m),fun m=>g4.mp ((r2 z).mpr m)⟩⟩,fun r hr=>?_,fun n' t' p' k' x' hr=>?_,fun n' t' p' k' x' y' hr=>?_,fun q hq=>?_,fun v hv=>?_,?_,fun n' hr=>?_,fun n' t' y' hr=>?_⟩
 ·rcases aH hr with hr | rfl
  ·exact h.ok r hr
  ·exact⟨ok1.1,ok1.2.1,ht⟩
 ·rcases aH hr with hr | hr
  ·exact h.cnum _ _ _ _ _ hr
  ·cases hr
 ·rcases aH hr with hr | hr
  ·exact h.knum _ _ _ _ _ _ hr
  ·cases hr
 ·rcases aH hq with hq | rfl
  ·exact h.trn q hq
  ·exact bQ _
 ·obtain⟨i,hi,ei⟩:=List.mem_eraseIdx_iff_getElem?.mp hv
  obtain⟨h1,⟨t2,p2,k2,h2⟩,h3,h4,h5⟩:=h.und v (jW ei)
  have hne:=Kz h.nd ei hu hi
  refine⟨h1,⟨t2,p2,k2,List.mem_append_left _ h2⟩,fun t' y' m=>?_,⟨fun z=>List.mem_append_left _ (h4.mp z),fun m=>?_⟩,h5⟩
  ·rcases aH m with m | m
   ·exact h3 _ _ m
   ·injection m with m;exact absurd m hne
  ·rcases aH m with m | m
   ·exact h4.mpr m
   ·cases m
 ·exact h.nd.sublist ((List.eraseIdx_sublist us j).map _)
 ·rcases aH hr with hr | hr
  ·obtain⟨t,p,k,x,m⟩:=h.asn n' hr;exact⟨t,p,k,x,List.mem_append_left _ m⟩
  ·cases hr
 ·rcases aH hr with hr | hr
  ·obtain⟨t,p,k,x,m⟩:=h.dnn n' _ _ hr;exact⟨t,p,k,x,List.mem_append_left _ m⟩
  ·cases hr;exact⟨t1,p1,k1,u.x,List.mem_append_left _ g2⟩
theorem BdP.start {rs:List RX} {sh:List Nat} {num turn:Nat} (h:uZ rs) (hk:∀n t p k x y,.kept n t p k x y∈rs->n∈sh) (ht:∀n t,.next n t∈rs->t<=turn):BdP rs sh num turn []:=by
 have no:∀r∈rs,r.rank=3->False:=fun r hr e=>by have:=h.rk r hr;omega
 refine⟨h.wh,h.ok,fun n t p k x m=>(no _ m rfl).elim,hk,fun q hq=>?_,(fun u hu=>nomatch hu),List.nodup_nil,fun n m=>(no _ m rfl).elim,fun n t y m=>(no _ m rfl).elim⟩
 cases q with
 | next n t=>exact ht _ _ hq
 | has z m=>exact Nat.zero_le _
 | kept n t p k x y=>exact Nat.zero_le _
 | came n t p k x=>exact(no _ hq rfl).elim
 | asked n=>exact(no _ hq rfl).elim
 | done n t y=>exact(no _ hq rfl).elim
def nI (ns:List Nat):List V:=ns.map fun n:Nat=>V.int (n:Int)
structure BdH (H:Hp) (d b ra bk ul:Addr) (H':Hp) (rs:List RX) (as:List Addr) (sh:List Nat) (us:List Un):Prop where
 d0:Dk H d b
 r0:∃xs,H ra=some (.lst xs)
 fbk:H bk=none
 ful:H ul=none
 fes:∀u∈us,H u.e=none
 nra:ra≠d/\ra≠b
 nbu:bk≠ul
 nue:∀u∈us,u.e≠ul/\u.e≠bk
 nde:(us.map (·.e)).Nodup
 dk:Dk H' d b
 rows:RxsAt H' ra rs as
 book:H' bk=some (.lst (nI sh))
 und:H' ul=some (.lst ((us.map (·.e)).map V.ref))
 ent:∀u∈us,Kw H' u.e u.n u.t u.x u.q
 fr:∀c o,H c=some o->c≠d->c≠b->c≠ra->H' c=some o
section
variable {H H' H'':Hp} {d b ra bk ul:Addr} {rs:List RX} {as:List Addr} {sh:List Nat} {us:List Un}
theorem BdH.ra_ne (h:BdH H d b ra bk ul H' rs as sh us):ra≠bk/\ra≠ul/\∀u∈us,ra≠u.e:=by
 obtain⟨xs,r0⟩:=h.r0
 exact⟨aE r0 h.fbk,aE r0 h.ful,fun u hu=>aE r0 (h.fes u hu)⟩
theorem BdH.ne_d (h:BdH H d b ra bk ul H' rs as sh us) {c:Addr} (hc:H c=none):c≠d/\c≠b:=h.d0.ne hc
theorem BdH.fw (h:BdH H d b ra bk ul H' rs as sh us) (F:Fw d b H' H''):BdH H d b ra bk ul H'' rs as sh us:=by
 have nb:=h.ne_d h.fbk
 have nu:=h.ne_d h.ful
 refine⟨h.d0,h.r0,h.fbk,h.ful,h.fes,h.nra,h.nbu,h.nue,h.nde,F.dk,h.rows.keep F.tk (F.get h.rows.lst h.nra.1 h.nra.2),F.get h.book nb.1 nb.2,F.get h.und nu.1 nu.2,fun u hu=>?_,fun c o e n1 n2 n3=>F.get (h.fr c o e n1 n2 n3) n1 n2⟩
 have ne:=h.ne_d (h.fes u hu)
 exact⟨F.get (h.ent u hu).1 ne.1 ne.2,F.tup (h.ent u hu).2⟩
theorem BdH.row (h:BdH H d b ra bk ul H' rs as sh us) {r:RX} {a:Addr} (hr:r.At H' a):BdH H d b ra bk ul (aI H' ra (.lst (as.map V.ref++[.ref a]))) (rs++[r]) (as++[a]) sh us:=by
 obtain⟨n1,n2,n3⟩:=h.ra_ne
 have tk:TK H' (aI H' ra (.lst (as.map V.ref++[.ref a]))):=fZ h.rows.lst
 refine⟨h.d0,h.r0,h.fbk,h.ful,h.fes,h.nra,h.nbu,h.nue,h.nde,Dk.put' h.dk h.nra.1 h.nra.2,h.rows.snoc tk (hr.tk tk) aA,by rw[aD n1.symm];exact h.book,by rw[aD n2.symm];exact h.und,fun u hu=>⟨by rw[aD (n3 u hu).symm];exact(h.ent u hu).1,tk _ _ (h.ent u hu).2⟩,fun c o e m1 m2 m3=>by rw[aD m3];exact h.fr c o e m1 m2 m3⟩
theorem BdH.push (h:BdH H d b ra bk ul H' rs as sh us) {n:Nat} {x:Dd} {q:Bool} {e t:Addr} (he:Kw H' e n t x q) (hf:H e=none) (h1:e≠ul) (h2:e≠bk) (h3:∀u∈us,u.e≠e) :
  BdH H d b ra bk ul (aI H' ul (.lst ((us.map (·.e)).map V.ref++[.ref e]))) rs as sh (us++[⟨n,x,q,e,t⟩]):=by
 obtain⟨n1,n2,n3⟩:=h.ra_ne
 have nu:=h.ne_d h.ful
 have tk:TK H' (aI H' ul (.lst ((us.map (·.e)).map V.ref++[.ref e]))):=fZ h.und
 refine⟨h.d0,h.r0,h.fbk,h.ful,fun u hu=>?_,h.nra,h.nbu,fun u hu=>?_,?_,Dk.put' h.dk nu.1 nu.2,h.rows.keep tk (by rw[aD n2];exact h.rows.lst),by rw[aD h.nbu];exact h.book,by rw[aA,iB,iB];rfl,fun u hu=>?_,fun c o e' m1 m2 m3=>by rw[aD (aE e' h.ful)];exact h.fr c o e' m1 m2 m3⟩
 ·rcases aH hu with hu | rfl
  ·exact h.fes u hu
  ·exact hf
 ·rcases aH hu with hu | rfl
  ·exact h.nue u hu
  ·exact⟨h1,h2⟩
 ·rw[iB];refine List.nodup_append.mpr ⟨h.nde,Zs,fun a ha c hc=>?_⟩
  obtain⟨u,hu,rfl⟩:=Zmm.mp ha
  have:c=e:=by simpa using hc
  rw[this];exact h3 u hu
 ·rcases aH hu with hu | rfl
  ·exact⟨by rw[aD (h.nue u hu).1];exact(h.ent u hu).1,tk _ _ (h.ent u hu).2⟩
  ·exact⟨by rw[aD h1];exact he.1,tk _ _ he.2⟩
theorem BdH.mark (h:BdH H d b ra bk ul H' rs as sh us) {j:Nat} {u:Un} (hu:us[j]?=some u) :
  BdH H d b ra bk ul (aI H' u.e (.lst [.int (u.n:Int),.ref u.t,.bl true])) rs as sh (us.set j {u with q:=true }):=by
 obtain⟨n1,n2,n3⟩:=h.ra_ne
 have hm:=jW hu
 have ne:=h.ne_d (h.fes u hm)
 have tk:TK H' (aI H' u.e (.lst [.int (u.n:Int),.ref u.t,.bl true])):=fZ (h.ent u hm).1
 have em:(us.set j {u with q:=true }).map (·.e)=us.map (·.e):=by
  obtain⟨hj1,hj2⟩:=Zgs.mp hu
  rw[List.map_set];apply List.ext_getElem Zs
  intro i h1 h2;rw[List.getElem_set];split
  ·rename_i z;subst z;simp [hj2]
  ·rfl
 refine⟨h.d0,h.r0,h.fbk,h.ful,fun v hv=>?_,h.nra,h.nbu,fun v hv=>?_,by rw[em];exact h.nde,Dk.put' h.dk ne.1 ne.2,h.rows.keep tk (by rw[aD (n3 u hm)];exact h.rows.lst),by rw[aD (h.nue u hm).2.symm];exact h.book,by rw[aD (h.nue u hm).1.symm,em];exact h.und,fun v hv=>?_,fun c o e' m1 m2 m3=>by rw[aD (aE e' (h.fes u hm))];exact h.fr c o e' m1 m2 m3⟩
 ·rcases lX hv with rfl | ⟨i,hi,ei⟩
  ·exact h.fes u hm
  ·exact h.fes v (jW ei)
 ·rcases lX hv with rfl | ⟨i,hi,ei⟩
  ·exact h.nue u hm
  ·exact h.nue v (jW ei)
 ·rcases lX hv with rfl | ⟨i,hi,ei⟩
  ·exact⟨aA,tk _ _ (h.ent u hm).2⟩
  ·have hv':=jW ei
   exact⟨by rw[aD (Xq h.nde ei hu hi)];exact(h.ent v hv').1,tk _ _ (h.ent v hv').2⟩
theorem BdH.drop (h:BdH H d b ra bk ul H' rs as sh us) (j:Nat):BdH H d b ra bk ul (aI H' ul (.lst (((us.map (·.e)).eraseIdx j).map V.ref))) rs as sh (us.eraseIdx j):=by
 obtain⟨n1,n2,n3⟩:=h.ra_ne
 have nu:=h.ne_d h.ful
 have tk:TK H' (aI H' ul (.lst (((us.map (·.e)).eraseIdx j).map V.ref))):=fZ h.und
 have sub:∀u∈us.eraseIdx j,u∈us:=fun u hu=>List.mem_of_mem_eraseIdx hu
 have em:(us.eraseIdx j).map (·.e)=(us.map (·.e)).eraseIdx j:=by
  have:∀(us:List Un) (j:Nat),(us.eraseIdx j).map (·.e)=(us.map (·.e)).eraseIdx j:=by
   intro us;induction us with
   | nil=>intro j;simp
   | cons u us ih=>
    intro j;cases j with
    | zero=>simp
    | succ j=>rw[List.eraseIdx_cons_succ,List.map_cons,List.map_cons,List.eraseIdx_cons_succ,ih]
  exact this us j
 refine⟨h.d0,h.r0,h.fbk,h.ful,fun u hu=>h.fes u (sub u hu),h.nra,h.nbu,fun u hu=>h.nue u (sub u hu),h.nde.sublist ((List.eraseIdx_sublist us j).map _),Dk.put' h.dk nu.1 nu.2,h.rows.keep tk (by rw[aD n2];exact h.rows.lst),by rw[aD h.nbu];exact h.book,by rw[aA,em],fun u hu=>⟨by rw[aD (h.nue u (sub u hu)).1];exact(h.ent u (sub u hu)).1,tk _ _ (h.ent u (sub u hu)).2⟩,fun c o e' m1 m2 m3=>by rw[aD (aE e' h.ful)];exact h.fr c o e' m1 m2 m3⟩
theorem BdH.rem (h:BdH H d b ra bk ul H' rs as sh us) (hn:(us.map (·.n)).Nodup) {j:Nat} {u:Un} (hu:us[j]?=some u) {Q:VK} (q:Q .non (aI H' ul (.lst (((us.map (·.e)).eraseIdx j).map V.ref)))):jR (.ref ul) [.ref u.e] H' Q:=by
 have hm:=jW hu
 refine⟨us.map (·.e),j,h.und,by rw[jC,hu];rfl,h.nde,fun c hc hne=>?_,q⟩
 obtain⟨v,hv,rfl⟩:=Zmm.mp hc
 obtain⟨i,hi,ei⟩:=List.getElem_of_mem hv
 have hv':us[i]?=some v:=by rw[gZ hi,ei]
 have hij:i≠j:=fun z=>hne (by rw[z]at hv';rw[hu]at hv';cases hv';rfl)
 refine⟨(v.n:Int),(u.n:Int),[.ref v.t,.bl v.q],[.ref u.t,.bl u.q],(h.ent v hv).1,(h.ent u hm).1,?_,rfl,fun i u' v' e1 e2=>?_⟩
 ·have:=Kz hn hv' hu hij;omega
 ·match i,e1,e2 with
  | 0,e1,e2=>
   cases e1;cases e2
   exact .inr ⟨v.t,u.t,_,_,rfl,rfl,(h.ent v hv).2,(h.ent u hm).2,fun j x y h1 h2=>⟨Bt v.x x (jW h1),Bt u.x y (jW h2)⟩⟩
  | 1,e1,e2=>cases e1;cases e2;exact .inl ⟨rfl,rfl⟩
  | i+2,e1,e2=>cases e1
end
end
end KL
namespace KL
open PySem L2
section
variable {P:Program} {w:World} {K:W.Frag} {mg:Str->Option Value} {base:Heap}
theorem Qs (ns:List Nat):(nI ns).all eC=true:=by unfold nI;rw[List.all_eq_true];intro v hv;obtain⟨n,_,rfl⟩:=Zmm.mp hv;rfl
theorem Ls (n:Nat):∀sh:List Nat,gT (.int (n:Int)) (nI sh)=decide (n∈sh)
 | []=>rfl
 | a::r=>by
  have h1:gT (.int (n:Int)) (nI (a::r))=(qY (.int (a:Int)) (.int (n:Int))||gT (.int (n:Int)) (nI r)):=rfl
  have e:qY (.int (a:Int)) (.int (n:Int))=decide (a=n):=by
   show((a:Int) == (n:Int))=_
   by_cases h:a=n
   ·subst h;simp
   ·rw[decide_eq_false h];exact beq_eq_false_iff_ne.mpr Zo
  rw[h1,e,Ls n r];by_cases h:a=n
  ·subst h;simp
  ·have h':n≠a:=fun z=>h z.symm
   simp [h,h']
def Fv (sh:List Nat) (m:Nat):Nat:=(sh.filter fun x=>decide (m<=x)).length
theorem mF (a:Nat) (r:List Nat) (m:Nat):Fv (a::r) m=Fv r m+(if m<=a then 1 else 0):=by
 unfold Fv;rw[List.filter_cons];by_cases h:m<=a
 ·rw[if_pos (decide_eq_true h),if_pos h];rfl
 ·rw[if_neg (by simpa using h),if_neg h];rfl
theorem Xu (m:Nat):∀sh,Fv sh m<=sh.length:=fun sh=>List.length_filter_le _ _
theorem xK (m:Nat):∀sh,Fv sh (m+1)<=Fv sh m
 | []=>bQ _
 | a::r=>by
  have:=xK m r
  rw[mF,mF];split <;> split <;> omega
theorem Lu {m:Nat}:∀ {sh:List Nat},m∈sh->Fv sh (m+1)<Fv sh m
 | a::r,h=>by
  rw[mF,mF];have h0:=xK m r
  by_cases e:a=m
  ·subst e;rw[if_neg Zo,if_pos (bQ _)];omega
  ·have hm:m∈r:=by
    rcases List.mem_cons.mp h with z | z
    ·exact absurd z.symm e
    ·exact z
   have:=Lu hm
   split <;> split <;> omega
theorem BdH.men {H H':Hp} {d b ra bk ul lm:Addr} {rs:List RX} {as:List Addr} {sh:List Nat} {us:List Un} {M:List Addr} (h:BdH H d b ra bk ul H' rs as sh us) (hM:MenusAt H lm M) (h1:d∉M) (h2:b∉M) (h3:ra∉M):MenusAt H' lm M:=
 hM.keep fun c hc o e=>h.fr c o e (fun z=>h1 (z ▸ hc)) (fun z=>h2 (z ▸ hc)) (fun z=>h3 (z ▸ hc))
theorem Lv (y:An):gT (.str (uX y)) [.str "short",.str "full"]=y.early:=by cases y <;> rfl
theorem Qt {x:Dd} {q:Bool} {z:Str} (h:z∈gB x q):z∈gW x:=by
 cases hf:x.far with
 | false=>rw[qF x hf]at h;exact h
 | true=>rw[oY x hf]at h;exact(List.mem_filter.mp h).1
theorem Fd {x:Dd} {q:Bool} {y:An} (h:uX y∈gB x q) (hf:x.far=true):q=true↔y.early=false:=by
 rw[oY x hf]at h;have:=(List.mem_filter.mp h).2
 rw[Lv]at this;revert this
 cases q <;> cases y.early <;> decide
def tB (i:Nat):Nat:=500000000000+1000000000*i
theorem Cd (i:Nat):tB (i+1)=tB i+1000000000:=by unfold tB;rw[Nat.mul_succ,Nat.add_assoc]
theorem Te {i:Nat} (h:i<=30):tB i<=600000000000:=kN (Nat.add_le_add_left (Nat.mul_le_mul_left _ h) _) (Nat.le_of_ble_eq_true rfl)
def Xv (H:Hp) (d b ra lm bk ul:Addr) (sh:List Nat) (many i:Nat) (σ':St) (H':Hp):Prop:=∃(rs:List RX) (as:List Addr) (us:List Un) (num turn:Nat) (o8 o9 o10 o11 o12 o13:Option V),σ'=[some (.ref d),some (.ref ra),some (.ref lm),some (.int (many:Int)),some (.ref bk),some (.ref ul),some (.int (num:Int)),some (.int (turn:Int)),o8,o9,o10,o11,o12,o13]/\BdH H d b ra bk ul H' rs as sh us/\BdP rs sh num turn us/\rs.length<=13+i/\num<=900006+22*i/\turn<=tB i/\us.length<=i
theorem Qu (T:Txt K mg) (cLdraw:aG P w K mg base 1 "_law_draw" ["_law_deck_here","_law_many"] bF) (cLdeed:aG P w K mg base 3 "_law_deed" ["_law_deck_here","_law_names","_law_houses"] iX) (cLspot:aG P w K mg base 2 "_law_spot" ["_law_deck_here","_law_menus_here"] lW)
  {fa:Addr} {cdv:Value} {A:Around} {outer:List Env} {s:Shared} {H0:Hp} {E:XK} (hr:Room 3 (A.deeper (PyProof.Rows.envOfC "_law_body" (aB bR) s.heap.objs.size fa cdv))) :
  ∃t,XB (fL qW P w K mg base ["_law_deck_here","_law_rows","_law_menus_here","_law_many","_law_shut","_law_under","_law_number","_law_turn","_law_k","_law_way","_law_deed_here","_law_one","_law_words_here","_law_answer_here"] "_law_body" (aB bR) fa cdv A outer s H0 E).nox (stT (Pw (stB (Pw (aV bR) 4)) 2)) t ∧
  ∀(D:kK) (H H9:Hp) (d b ra lm bk ul:Addr) (M:List Addr) (sh:List Nat) (many i way num turn turn':Nat) (rs:List RX) (as:List Addr) (us:List Un) (o10 o11 o12 o13:Option V),MenusAt H lm M->d∉M->b∉M->ra∉M->i<30->sh.length<=13->BdH H d b ra bk ul H9 rs as sh us->BdP rs sh num turn' us->rs.length<=13+i->num<=900006+22*i->turn<=tB i->us.length<=i->turn<=turn'->turn'<=turn+1000000000->(∀ σ' H',Xv H d b ra lm bk ul sh many (i+1) σ' H'->D.nx σ' H') →
   t D [some (.ref d),some (.ref ra),some (.ref lm),some (.int (many:Int)),some (.ref bk),some (.ref ul),some (.int (num:Int)),some (.int (turn':Int)),some (.int (i:Int)),some (.int (way:Int)),o10,o11,o12,o13] H9:=by
 have hLdraw:Room 1 _:=hr.mono Zd
 have hLdeed:Room 3 _:=hr.mono Zd
 have hLspot:Room 2 _:=hr.mono Zd
 have hu:=hr.units0
 have hu64:=hr.units
 refine⟨_,(R.ae (R.ao (i:=6) aY.nd (R.op R.ay (R.op R.ay (R.v 6) R.ac) (R.ix (R.av (K:=K)) (R.az (R.aa R.ac (R.aa R.ac (R.aa (R.fn cLdraw hLdraw rfl (R.aa (R.v 0) (R.aa R.ac R.ad))) R.ad)))) (R.fn cLdraw hLdraw rfl (R.aa (R.v 0) (R.aa R.ac R.ad)))))) (R.ae (R.jt PassesOwn.never (R.al (R.bc (K:=K)) (R.v 6) (R.v 4)) (R.ah (R.ao (i:=6) aY.nd (R.op R.ay (R.v 6) R.ac)))) (R.ae (R.ao (i:=10) aY.nd (R.fn cLdeed hLdeed rfl (R.aa (R.v 0) (R.aa (R.ix (R.av (K:=K)) (R.v 2) R.ac) (R.aa (R.ix (R.av (K:=K)) (R.v 2) R.ac) R.ad))))) (R.ae (R.bz (R.bw (K:=K) PySem.F.plainAttrs_list PySem.F.slot_list_append PySem.F.type_list_append R.dl (R.v 1) (R.aa (R.op R.df (R.op R.df (R.aq (R.aa R.af (R.aa (R.v 6) (R.aa (R.v 7) R.ad)))) (R.fn cLspot hLspot rfl (R.aa (R.v 0) (R.aa (R.v 2) R.ad)))) (R.aq (R.aa (R.v 10) R.ad))) R.ad))) (R.ah (R.bz (R.bw (K:=K) PySem.F.plainAttrs_list PySem.F.slot_list_append PySem.F.type_list_append R.dl (R.v 5) (R.aa (R.az (R.aa (R.v 6) (R.aa (R.v 10) (R.aa R.bl R.ad)))) R.ad)))))))),?_⟩
 intro D H H9 d b ra lm bk ul M sh many i way num turn turn' rs as us o10 o11 o12 o13 hM oD oB oR hi hsh L9 P8 l1 l2 l3 l5 t1 t2 nxt;have b3:turn'<=tB (i+1):=by have:=Cd i;omega
 have b4:turn'<=1000000000000:=by have:=Te (i:=i) Zo;omega
 refine bK (fun σ' H'=>∃(m:Nat),σ'=[some (.ref d),some (.ref ra),some (.ref lm),some (.int (many:Int)),some (.ref bk),some (.ref ul),some (.int (m:Int)),some (.int (turn':Int)),some (.int (i:Int)),some (.int (way:Int)),o10,o11,o12,o13]/\num<m/\m<=num+9/\BdH H d b ra bk ul H' rs as sh us) (fun nx' hnx'=>?_) ?_
 ·refine⟨d,b,9,rfl,L9.dk,Zd,Zd,fun r8 H8 x0 x1 D8 k8=>⟨eK rfl,fun p hp=>⟨d,b,3,rfl,D8.new hp,Zd,Zd,fun r9 Ha y0 y1 D9 k9=>?_⟩⟩⟩
  obtain⟨r8,rfl⟩:=dF x0
  have hpd:=D8.ne hp
  have gp:=k9 p _ aA hpd.1 hpd.2
  have La:=L9.fw ((((Fw.refl L9.dk).draw D8 k8).new hp).draw D9 k9)
  rcases(by omega:r9=0∨r9=1∨r9=2) with rfl | rfl | rfl
  ·exact⟨_,SqL.of gp,_,rfl,hnx' _ _ ⟨num+1,rfl,Zo,Zo,La⟩⟩
  ·exact⟨_,SqL.of gp,_,rfl,hnx' _ _ ⟨num+1,rfl,Zo,Zo,La⟩⟩
  ·exact⟨_,SqL.of gp,_,rfl,hnx' _ _ ⟨num+1+r8,rfl,Zo,Zo,La⟩⟩
 rintro σ' Hz ⟨m0,rfl,z1,z2,Lz⟩
 refine bK (fun σ' H'=>∃(m:Nat),σ'=[some (.ref d),some (.ref ra),some (.ref lm),some (.int (many:Int)),some (.ref bk),some (.ref ul),some (.int (m:Int)),some (.int (turn':Int)),some (.int (i:Int)),some (.int (way:Int)),o10,o11,o12,o13]/\num<m/\m<=num+22/\m∉sh/\BdH H d b ra bk ul H' rs as sh us) (fun nx' hnx'=>?_) ?_
 ·refine⟨fun k σ' H'=>∃(m:Nat),σ'=[some (.ref d),some (.ref ra),some (.ref lm),some (.int (many:Int)),some (.ref bk),some (.ref ul),some (.int (m:Int)),some (.int (turn':Int)),some (.int (i:Int)),some (.int (way:Int)),o10,o11,o12,o13]/\k=Fv sh m/\num<m/\m+Fv sh m<=num+22/\H'=Hz,⟨Fv sh m0,m0,rfl,rfl,z1,by have:=Xu m0 sh;omega,rfl⟩,?_⟩
  rintro k σ' H' ⟨m,rfl,rfl,q1,q2,rfl⟩
  refine⟨bk,_,rfl,.inl (SqL.of Lz.book),rfl,Qs _,?_⟩
  show if gT (.int (m:Int)) (nI sh)=true then _ else _
  rw[Ls];refine aQ (fun h=>?_) (fun h=>hnx' _ _ ⟨m,rfl,q1,Zo,of_decide_eq_false h,Lz⟩)
  have hlt:=Lu (of_decide_eq_true h)
  refine⟨fun σ'' H''=>σ''=[some (.ref d),some (.ref ra),some (.ref lm),some (.int (many:Int)),some (.ref bk),some (.ref ul),some (.int ((m+1:Nat):Int)),some (.int (turn':Int)),some (.int (i:Int)),some (.int (way:Int)),o10,o11,o12,o13]/\H''=H',fun σ'' H'' ⟨e1,e2⟩=>⟨Fv sh (m+1),hlt,m+1,e1,rfl,Zo,Zo,e2⟩,?_⟩
  exact⟨rfl,rfl⟩
 rintro σ' Ha ⟨m,rfl,m1,m2,mns,La⟩
 have hMa:=La.men hM oD oB oR
 obtain⟨a0,a1,a2,a3,ws,us',ps,ks,eM,h0,h1,h2,h3,h4,mw,mu,_⟩:=hMa.ex
 have nd:∀c∈M,c≠d/\c≠b:=fun c hc=>⟨(fun z=>oD (z ▸ hc)),(fun z=>oB (z ▸ hc))⟩
 have i0:a0∈M:=by rw[eM];simp
 have i1:a1∈M:=by rw[eM];simp
 refine⟨_,SqL.of h0,_,rfl,_,SqL.of h0,_,rfl,d,b,a0,a1,ws,us',rfl,La.dk,h1,h2,⟨(nd a0 i0).1,(nd a0 i0).2,(nd a1 i1).1,(nd a1 i1).2⟩,mw,mu,fun t' x' Hc hx' gx' fc=>?_⟩
 have Lc:=La.fw fc
 dsimp only [aK];refine⟨.inl ⟨rfl,_,SqL.of Lc.rows.lst⟩,aL rfl,fun q1 Hd sd gd=>?_⟩
 have Ld:=Lc.fw ((Fw.refl Lc.dk).same sd)
 refine⟨d,b,lm,M,rfl,Ld.dk,Ld.men hM oD oB oR,oD,oB,fun q2 pp kk He hpp hkk ge fe=>?_⟩
 refine⟨_,_,fe.tup gd,ge,Nat.le_of_ble_eq_true rfl,fun q3 Hf sf gf=>⟨aL rfl,fun q4 Hg sg gg=>⟨_,_,sg _ _ gf,gg,Nat.le_of_ble_eq_true rfl,fun q5 Hh sh' gh=>?_⟩⟩⟩
 have Fh:=(((fe.same sf).same sg).same sh')
 have Lh:=Ld.fw Fh
 have lr:=Lh.rows.len
 refine⟨ra,_,_,rfl,rfl,Lh.rows.lst,by rw[aZ];exact oZ (m:=1000) Zo Zd,?_⟩
 have Li:=Lh.row (r:=.came m turn' pp kk x') (a:=q5) ⟨t',gh,Fh.tup (sd _ _ gx')⟩
 have gti:(aI Hh ra (.lst (as.map V.ref++[.ref q5]))) t'=some (.tup x'.vs):=fZ Lh.rows.lst _ _ (Fh.tup (sd _ _ gx'))
 generalize aI Hh ra (.lst (as.map V.ref++[.ref q5]))=Hi at Li gti;refine⟨.inl ⟨rfl,_,SqL.of Li.und⟩,eK rfl,fun e he=>?_⟩
 have Lj:=Li.fw ((Fw.refl Li.dk).new (o:=.lst [.int (m:Int),.ref t',.bl false]) he)
 have ge':Kw (aI Hi e (.lst [.int (m:Int),.ref t',.bl false])) e m t' x' false:=⟨aA,aN gti he⟩
 have eul:e≠ul:=(aE Li.und he).symm
 have ebk:e≠bk:=(aE Li.book he).symm
 have eus:∀u∈us,u.e≠e:=fun u hu=>aE (Li.ent u hu).1 he
 have fe0:H e=none:=by
  cases hh:H e with
  | none=>rfl
  | some o=>
   have hed:=Li.dk.ne he
   have:e≠ra:=(aE Li.rows.lst he).symm
   rw[Li.fr e o hh hed.1 hed.2 this]at he;cases he
 refine⟨ul,_,_,rfl,rfl,Lj.und,by rw[aZ,aZ];exact oZ (m:=1000) Zo Zd,?_⟩
 exact nxt _ _ ⟨_,_,_,m,turn',_,_,_,_,_,_,rfl,Lj.push ge' fe0 eul ebk eus,P8.came m1 mns Zo b4 hpp hkk hx',by simp;omega,Zo,b3,by simp;omega⟩
theorem Qv (T:Txt K mg) (cLdraw:aG P w K mg base 1 "_law_draw" ["_law_deck_here","_law_many"] bF) (cLwords:aG P w K mg base 1 "_law_words" ["_law_deed_here","_law_asked"] hX) (cLanswer:aG P w K mg base 3 "_law_answer" ["_law_deck_here","_law_deed_here","_law_word"] nO)
  {fa:Addr} {cdv:Value} {A:Around} {outer:List Env} {s:Shared} {H0:Hp} {E:XK} (hr:Room 3 (A.deeper (PyProof.Rows.envOfC "_law_body" (aB bR) s.heap.objs.size fa cdv))) :
  ∃t,XB (fL qW P w K mg base ["_law_deck_here","_law_rows","_law_menus_here","_law_many","_law_shut","_law_under","_law_number","_law_turn","_law_k","_law_way","_law_deed_here","_law_one","_law_words_here","_law_answer_here"] "_law_body" (aB bR) fa cdv A outer s H0 E).nox (stE (Pw (stB (Pw (aV bR) 4)) 2)) t ∧
  ∀(D:kK) (H H9:Hp) (d b ra lm bk ul:Addr) (M:List Addr) (sh:List Nat) (many i way num turn turn':Nat) (rs:List RX) (as:List Addr) (us:List Un) (o10 o11 o12 o13:Option V),MenusAt H lm M->d∉M->b∉M->ra∉M->i<30->sh.length<=13->BdH H d b ra bk ul H9 rs as sh us->BdP rs sh num turn' us->rs.length<=13+i->num<=900006+22*i->turn<=tB i->us.length<=i->turn<=turn'->turn'<=turn+1000000000->us≠[]->(∀ σ' H',Xv H d b ra lm bk ul sh many (i+1) σ' H'->D.nx σ' H') →
   t D [some (.ref d),some (.ref ra),some (.ref lm),some (.int (many:Int)),some (.ref bk),some (.ref ul),some (.int (num:Int)),some (.int (turn':Int)),some (.int (i:Int)),some (.int (way:Int)),o10,o11,o12,o13] H9:=by
 have hLdraw:Room 1 _:=hr.mono Zd
 have hLwords:Room 1 _:=hr.mono Zd
 have hLanswer:Room 3 _:=hr.mono Zd
 have hu:=hr.units0
 have hu64:=hr.units
 refine⟨_,(R.ae (R.ao (i:=11) aY.nd (R.ix (R.av (K:=K)) (R.v 5) (R.fn cLdraw hLdraw rfl (R.aa (R.v 0) (R.aa (R.ax (R.ba (K:=K)) rfl T.b_len aO (R.aa (R.v 5) R.ad)) R.ad))))) (R.ae (R.ao (i:=12) aY.nd (R.fn cLwords hLwords rfl (R.aa (R.ix (R.av (K:=K)) (R.v 11) R.ac) (R.aa (R.ix (R.av (K:=K)) (R.v 11) R.ac) R.ad)))) (R.ah (R.ar (R.tw (R.bt (R.al R.eq (R.v 9) R.ac) (R.bt (R.cf (R.bn (R.ix (R.av (K:=K)) (R.v 11) R.ac))) (R.cj (R.al (R.bc (K:=K)) (R.ix (R.ag (K:=K)) (R.ix (R.av (K:=K)) (R.v 11) R.ac) R.ac) (R.aq (R.aa R.af (R.aa R.af (R.aa R.af R.ad))))))))) (R.ae (R.bz (R.bw (K:=K) PySem.F.plainAttrs_list PySem.F.slot_list_append PySem.F.type_list_append R.dl (R.v 1) (R.aa (R.aq (R.aa R.af (R.aa (R.ix (R.av (K:=K)) (R.v 11) R.ac) R.ad))) R.ad))) (R.ah (R.db R.bl (R.de (R.v 11) R.ac R.ji)))) (R.ah (R.ar (R.al (R.fk (K:=K) hu) (R.v 12) (R.az R.ad)) (R.ae (R.ao (i:=13) aY.nd (R.fn cLanswer hLanswer rfl (R.aa (R.v 0) (R.aa (R.ix (R.av (K:=K)) (R.v 11) R.ac) (R.aa (R.ix (R.av (K:=K)) (R.v 12) (R.fn cLdraw hLdraw rfl (R.aa (R.v 0) (R.aa (R.ax (R.ba (K:=K)) rfl T.b_len aO (R.aa (R.v 12) R.ad)) R.ad)))) R.ad))))) (R.ae (R.bz (R.bw (K:=K) PySem.F.plainAttrs_list PySem.F.slot_list_append PySem.F.type_list_append R.dl (R.v 1) (R.aa (R.aq (R.aa R.af (R.aa (R.ix (R.av (K:=K)) (R.v 11) R.ac) (R.aa (R.v 7) (R.aa (R.v 13) R.ad))))) R.ad))) (R.ah (R.bz (R.bw (K:=K) PySem.F.plainAttrs_list PySem.F.slot_list_remove PySem.F.type_list_remove (R.ja hu64) (R.v 5) (R.aa (R.v 11) R.ad)))))) R.au)))))),?_⟩
 intro D H H9 d b ra lm bk ul M sh many i way num turn turn' rs as us o10 o11 o12 o13 hM oD oB oR hi hsh L9 P8 l1 l2 l3 l5 t1 t2 hne nxt;have b3:turn'<=tB (i+1):=by have:=Cd i;omega
 have b4:turn'<=1000000000000:=by have:=Te (i:=i) Zo;omega
 have hpos:0<us.length:=by cases us with | nil=>exact absurd rfl hne | cons _ _=>exact Nat.succ_pos _
 refine⟨_,.inl (SqL.of L9.und),d,b,(us.length:Int),by rw[aZ,aZ],L9.dk,Zo,Zo,fun r Ha r0 r1 Da ka=>?_⟩
 have La:=L9.fw ((Fw.refl L9.dk).draw Da ka)
 obtain⟨j,rfl⟩:=dF r0
 have hj:j<us.length:=by omega
 obtain⟨u,huj⟩:∃u,us[j]?=some u:=⟨us[j],gZ hj⟩
 have hum:=jW huj
 obtain⟨g1,⟨tc,pc,kc,g2⟩,g3,g4,g5⟩:=P8.und u hum
 refine⟨_,SqL.of La.und,.ref u.e,bJ (by rw[jC,jC,huj];rfl),?_⟩
 dsimp only [aK];refine⟨_,SqL.of (La.ent u hum).1,_,rfl,_,SqL.of (La.ent u hum).1,_,rfl,u.t,u.x,u.q,rfl,(La.ent u hum).2,fun wl Hb fwl gwl sb=>?_⟩
 have nwl:=La.dk.ne fwl
 have nwr:wl≠ra:=(aE La.rows.lst fwl).symm
 have Lb:=La.fw ((Fw.refl La.dk).same sb)
 dsimp only [aK];refine Ki (fun c H'=>BdH H d b ra bk ul H' rs as sh us/\H' wl=some (.lst ((gB u.x u.q).map V.str))/\(c=true->u.q=false/\u.x.far=true)) (fun k hk=>?_) ?_ ?_
 ·have en:=(Lb.ent u hum)
  refine aQ (fun _=>?_) (fun _=>hk _ _ ⟨Lb,gwl,(fun z=>nomatch z)⟩)
  refine⟨_,SqL.of en.1,_,rfl,?_⟩
  show if (!u.q)=true then _ else _
  refine aQ (fun hq=>?_) (fun _=>hk _ _ ⟨Lb,gwl,(fun z=>nomatch z)⟩)
  refine⟨_,SqL.of en.1,_,rfl,_,SqT.of en.2,_,xG u.x,aL rfl,fun tq Hc sc gc=>⟨tq,_,rfl,.inr (SqT.of gc),rfl,rfl,?_⟩⟩
  refine hk _ _ ⟨Lb.fw ((Fw.refl Lb.dk).same sc),sc _ _ gwl,fun z=>⟨by simpa using hq,?_⟩⟩
  rw[<- Bs];exact z
 ·rintro Hc ⟨Lc,gwc,hc⟩
  obtain⟨hq,hf⟩:=hc rfl
  refine⟨.inl ⟨rfl,_,SqL.of Lc.rows.lst⟩,_,SqL.of (Lc.ent u hum).1,_,rfl,aL rfl,fun ta Hd sd gd=>?_⟩
  have Ld:=Lc.fw ((Fw.refl Lc.dk).same sd)
  have lr:=Ld.rows.len
  refine⟨ra,_,_,rfl,rfl,Ld.rows.lst,by rw[aZ];exact oZ (m:=1000) Zo Zd,?_⟩
  have Le:=Ld.row (r:=.asked u.n) (a:=ta) gd
  generalize aI Hd ra (.lst (as.map V.ref++[.ref ta]))=He at Le;refine⟨u.e,_,2,2,rfl,rfl,(Le.ent u hum).1,rfl,?_⟩
  exact nxt _ _ ⟨_,_,_,num,turn',_,_,_,_,_,_,rfl,Le.mark huj,P8.mark huj hq hf,by simp;omega,Zo,b3,by rw[List.length_set];omega⟩
 ·rintro Hc ⟨Lc,gwc,hc⟩
  refine Ki (fun c H'=>BdH H d b ra bk ul H' rs as sh us/\H' wl=some (.lst ((gB u.x u.q).map V.str))/\(c=true->gB u.x u.q≠[])) (fun k hk=>?_) ?_ ?_
  ·refine⟨eK rfl,fun p hp=>⟨wl,p,_,rfl,rfl,SqL.of (aN gwc hp),SqL.of aA,?_⟩⟩
   refine hk _ _ ⟨Lc.fw ((Fw.refl Lc.dk).new hp),aN gwc hp,fun e z=>?_⟩
   rw[z]at e;cases e
  ·rintro Hd ⟨Ld,gwd,hw⟩
   have hwne:=hw rfl
   have hwp:0<(gB u.x u.q).length:=List.length_pos_iff.mpr hwne
   have hw9:(gB u.x u.q).length<=9:=by cases u.x <;> cases u.q <;> exact Nat.le_of_ble_eq_true rfl
   refine⟨_,SqL.of (Ld.ent u hum).1,_,rfl,_,.inl (SqL.of gwd),d,b,((gB u.x u.q).length:Int),by rw[aZ],Ld.dk,Zo,Zo,fun r He r0 r1 De ke=>?_⟩
   obtain⟨jz,rfl⟩:=dF r0
   have Fe:=(Fw.refl Ld.dk).draw De ke
   have Le:=Ld.fw Fe
   have hjz:jz<(gB u.x u.q).length:=by omega
   have hzm:(gB u.x u.q)[jz]∈gB u.x u.q:=List.getElem_mem hjz
   refine⟨_,SqL.of (Fe.get gwd nwl.1 nwl.2),.str (gB u.x u.q)[jz],bJ (by rw[jC,gZ hjz];rfl),d,b,u.t,u.x,(gB u.x u.q)[jz],rfl,Le.dk,(Le.ent u hum).2,g1,Qt hzm,fun cc y Hf hof hwy gcc ff=>?_⟩
   have Lf:=Le.fw ff
   rw[<- hwy]at hzm;dsimp only [aK];refine⟨.inl ⟨rfl,_,SqL.of Lf.rows.lst⟩,_,SqL.of (Lf.ent u hum).1,_,rfl,aL rfl,fun ta Hg sg gg=>?_⟩
   have Lg:=Lf.fw ((Fw.refl Lf.dk).same sg)
   have lr:=Lg.rows.len
   have gcg:=sg _ _ gcc
   refine⟨ra,_,_,rfl,rfl,Lg.rows.lst,by rw[aZ];exact oZ (m:=1000) Zo Zd,?_⟩
   have Lh:=Lg.row (r:=.done u.n turn' y) (a:=ta) ⟨cc,gg,gcg⟩
   generalize aI Hg ra (.lst (as.map V.ref++[.ref ta]))=Hh at Lh;refine⟨.inl ⟨rfl,_,SqL.of Lh.und⟩,?_⟩
   dsimp only [nX,yK,vr];show jR (.ref ul) [.ref u.e] Hh _
   refine Lh.rem P8.nd huj ?_
   exact nxt _ _ ⟨_,_,_,num,turn',_,_,_,_,_,_,rfl,Lh.drop j,P8.done huj b4 hof (Fd hzm),by simp;omega,Zo,b3,by have:=List.length_eraseIdx_le us j;omega⟩
  ·rintro Hd ⟨Ld,_,_⟩
   exact nxt _ _ ⟨rs,as,us,num,turn',_,_,_,_,_,_,rfl,Ld,P8,Zo,Zo,b3,Zo⟩
end
end KL
namespace KL
open PySem L2
section
variable {P:Program} {w:World} {K:W.Frag} {mg:Str->Option Value} {base:Heap}
def vC:Sp:=fun vs H Q _=>∃(d b ra lm:Addr) (M:List Addr) (rs:List RX) (as:List Addr) (many:Nat),vs=[.ref d,.ref ra,.ref lm,.int (many:Int)]/\Dk H d b/\RxsAt H ra rs as/\uZ rs/\MenusAt H lm M/\d∉M/\b∉M/\ra∉M/\ra≠d/\ra≠b/\many<=30 ∧
 ∀(rs':List RX) (as':List Addr) (H':Hp),RxsAt H' ra rs' as'->RX.Whole rs'->(∀r∈rs',r.Ok)->rs'.length<=43->Dk H' d b->(∀c o,H c=some o->c≠d->c≠b->c≠ra->H' c=some o)->Q (.ref ra) H'
theorem Qw (T:Txt K mg) (cLdraw:aG P w K mg base 1 "_law_draw" ["_law_deck_here","_law_many"] bF) (cLdeed:aG P w K mg base 3 "_law_deed" ["_law_deck_here","_law_names","_law_houses"] iX)
  (cLspot:aG P w K mg base 2 "_law_spot" ["_law_deck_here","_law_menus_here"] lW) (cLwords:aG P w K mg base 1 "_law_words" ["_law_deed_here","_law_asked"] hX) (cLanswer:aG P w K mg base 3 "_law_answer" ["_law_deck_here","_law_deed_here","_law_word"] nO)
  (D:DefAt K mg "_law_body" bR ["_law_deck_here","_law_rows","_law_menus_here","_law_many"]):aG P w K mg base 4 "_law_body" ["_law_deck_here","_law_rows","_law_menus_here","_law_many"] vC:=by
 refine D.go aY (fun vs H Q E h=>?_) (fun f cdv A outer s H vs Q E hr h=>?_)
 ·obtain⟨d,b,ra,lm,M,rs,as,many,rfl,_⟩:=h;rfl
 ·obtain⟨d,b,ra,lm,M,rs0,as0,many,rfl,dk,R0,hd0,hM,oD,oB,oR,nrd,nrb,hmany,q⟩:=h
  have hLdraw:Room 1 _:=hr.mono Zd
  have hu:=hr.units0
  have hu64:=hr.units
  have l0:=hd0.len
  have la0:=R0.len
  obtain⟨tc1,h1,p1⟩:=Qu (P:=P) (w:=w) (base:=base) T cLdraw cLdeed cLspot (fa:=f) (outer:=outer) (H0:=H) (E:=E) hr
  obtain⟨tc2,h2,p2⟩:=Qv (P:=P) (w:=w) (base:=base) T cLdraw cLwords cLanswer (fa:=f) (outer:=outer) (H0:=H) (E:=E) hr
  refine⟨_,(R.ae (R.eh (i:=4) aY.nd rfl (Or.inl rfl) rfl (js:=[none]) (N:=["_law_row"]) (CompScope.by (aB bR) ["_law_deck_here","_law_rows","_law_menus_here","_law_many","_law_shut","_law_under","_law_number","_law_turn","_law_k","_law_way","_law_deed_here","_law_one","_law_words_here","_law_answer_here"] rfl rfl Zk) (aP rfl) (R.bj (K:=K) (R.v 1)) (fun C s₂ H₂ fp=>⟨(R.gn (i:=0) (show(["_law_row"]:List Str).Nodup by decide +kernel)),(R.bq (R.al R.eq (R.ix (R.ag (K:=K)) (R.v 0) R.ac) R.af)),(R.ix (R.ag (K:=K)) (R.v 0) R.ac)⟩) rfl) (R.ae (R.ao (i:=5) aY.nd (R.az R.ad)) (R.ae (R.ao (i:=6) aY.nd (R.fn cLdraw hLdraw rfl (R.aa (R.v 0) (R.aa (R.ix (R.av (K:=K)) (R.az (R.aa R.ac (R.aa R.ac R.ad))) (R.fn cLdraw hLdraw rfl (R.aa (R.v 0) (R.aa R.ac R.ad)))) R.ad)))) (R.ae (R.ao (i:=7) aY.nd (R.ax (R.fq (K:=K) rfl) rfl T.b_max pP (R.aa (R.op R.bh (R.bi rfl (js:=[none]) (N:=["_law_row"]) (CompScope.by (aB bR) ["_law_deck_here","_law_rows","_law_menus_here","_law_many","_law_shut","_law_under","_law_number","_law_turn","_law_k","_law_way","_law_deed_here","_law_one","_law_words_here","_law_answer_here"] rfl rfl Zk) (aP rfl) (R.bj (K:=K) (R.v 1)) (fun C s₂ H₂ fp=>⟨(R.gn (i:=0) (show(["_law_row"]:List Str).Nodup by decide +kernel)),(R.bq (R.al R.eq (R.ix (R.ag (K:=K)) (R.v 0) R.ac) R.af)),(R.ix (R.ag (K:=K)) (R.v 0) R.ac)⟩)) (R.az (R.aa R.ac R.ad))) R.ad))) (R.ae (R.dh PassesOwn.never rfl (R.dw rfl T.b_range (R.aa (R.v 3) R.ad)) (R.gn (i:=8) aY.nd) (R.ae (R.ao (i:=9) aY.nd (R.fn cLdraw hLdraw rfl (R.aa (R.v 0) (R.aa R.ac R.ad)))) (R.ae (R.ao (i:=7) aY.nd (R.op R.ay (R.v 7) (R.ix (R.av (K:=K)) (R.az (R.aa R.ac (R.aa R.ac (R.aa R.ac (R.aa (R.fn cLdraw hLdraw rfl (R.aa (R.v 0) (R.aa (R.op R.cn R.ac R.ac) R.ad))) R.ad))))) (R.fn cLdraw hLdraw rfl (R.aa (R.v 0) (R.aa R.ac R.ad)))))) (R.ah (R.ar (R.tw (R.bo (R.al R.lt (R.v 9) R.ac) (R.cg (R.al (R.dy (K:=K) hu) (R.v 5) (R.az R.ad)))))
   h1
   h2))))) (R.ah (R.ai (R.v 1)))))))),?_⟩
  refine bK (fun σ' H'=>∃(bk:Addr) (sh:List Nat),σ'=[some (.ref d),some (.ref ra),some (.ref lm),some (.int (many:Int)),some (.ref bk),none,none,none,none,none,none,none,none,none]/\H bk=none/\H' bk=some (.lst (nI sh))/\sh.length<=13/\(∀n t p k x y,.kept n t p k x y∈rs0->n∈sh)/\Same H H') (fun nx hnx=>?_) ?_
  ·refine⟨ra,rfl,⟨_,SqL.of R0.lst⟩,?_⟩
   refine bT (dB K ra (as0.map V.ref)) (by rw[aZ];omega) (fun i ys H'=>H'=H/\∃ns:List Nat,ys=nI ns/\ns.length<=i/\∀n t p k x y,.kept n t p k x y∈rs0.take i->n∈ns) (fun i ys H' ⟨e0,ns,e,l',_⟩=>⟨by rw[e0];exact SqL.of R0.lst,by rw[e];unfold nI;rw[aZ];exact l'⟩) ⟨rfl,[],rfl,bQ _,(fun _ _ _ _ _ _ h=>nomatch h)⟩ (fun i x ys H' hx ⟨e0,ns,e,l',hk'⟩=>?_) (fun ys H' ⟨e0,ns,e,l',hk'⟩=>?_)
   ·subst e0;obtain⟨a,r,rfl,ha,hrr,hat⟩:=R0.get hx
    obtain⟨xs,g,x0,x1,x2⟩:=bO hat
    have etk:=cE hrr
    dsimp only [aK];refine⟨_,SqT.of g,_,x0,?_⟩
    show if decide (bH r="kept")=true then _ else _
    refine aQ (fun h=>?_) (fun h=>?_)
    ·obtain⟨n,t,p,k,x,y,rfl⟩:=Bu (of_decide_eq_true h)
     refine⟨_,SqT.of g,_,x1,rfl,ns++[n],by rw[e];unfold nI;rw[iB];rfl,by simp;omega,fun n' t' p' k' x' y' hm=>?_⟩
     rw[etk]at hm;rcases aH hm with hm | hm
     ·exact List.mem_append_left _ (hk' _ _ _ _ _ _ hm)
     ·cases hm;exact List.mem_append_right _ jI
    ·refine⟨rfl,ns,e,Zo,fun n' t' p' k' x' y' hm=>?_⟩
     rw[etk]at hm;rcases aH hm with hm | hm
     ·exact hk' _ _ _ _ _ _ hm
     ·subst hm;exact absurd rfl (of_decide_eq_false h)
   ·subst e0;intro p hp;rw[aZ]at l' hk';rw[<- la0,vR (bQ _)]at hk';exact hnx _ _ ⟨p,ns,rfl,hp,by rw[aA,e],Zo,hk',aF hp⟩
  rintro σ' H1 ⟨bk,sh,rfl,fbk,gbk,lsh,hkn,s1⟩
  have f1:=(Fw.refl dk).same s1
  refine⟨eK rfl,fun ul hul=>?_⟩
  have ful:=s1.free hul
  have nbu:bk≠ul:=aE gbk hul
  have f2:=f1.new (o:=.lst []) hul
  have gul:(aI H1 ul (.lst [])) ul=some (.lst []):=aA
  replace gbk:=aN (u:=.lst []) gbk hul
  dsimp only [aK];generalize aI H1 ul (.lst [])=H2 at f2 gul gbk;refine bK (fun σ' H'=>∃(num:Nat),σ'=[some (.ref d),some (.ref ra),some (.ref lm),some (.int (many:Int)),some (.ref bk),some (.ref ul),some (.int (num:Int)),none,none,none,none,none,none,none]/\num<=900006/\Fw d b H2 H') (fun nx hnx=>?_) ?_
  ·refine⟨eK rfl,fun p hp=>⟨d,b,2,rfl,f2.dk.new hp,Zd,Zd,fun r H3 r0 r1 D3 k3=>?_⟩⟩
   have pd:=f2.dk.ne hp
   have F3:=((Fw.refl f2.dk).new (o:=.lst [.int 4,.int 900000]) hp).draw D3 k3
   have gp:=k3 p _ aA pd.1 pd.2
   rcases(by omega:r=0∨r=1) with rfl | rfl
   ·refine⟨_,SqL.of gp,_,rfl,d,b,4,rfl,F3.dk,Zd,Zd,fun r4 H4 x0 x1 D4 k4=>?_⟩
    obtain⟨n,rfl⟩:=dF x0
    exact hnx _ _ ⟨n,rfl,Zo,F3.draw D4 k4⟩
   ·refine⟨_,SqL.of gp,_,rfl,d,b,900000,rfl,F3.dk,Zd,Zd,fun r4 H4 x0 x1 D4 k4=>?_⟩
    obtain⟨n,rfl⟩:=dF x0
    exact hnx _ _ ⟨n,rfl,Zo,F3.draw D4 k4⟩
  rintro σ' H4 ⟨num,rfl,hnum,F4⟩
  have f4:=f2.trans F4
  have R4:=R0.keep f4.tk (f4.get R0.lst nrd nrb)
  refine bK (fun σ' H'=>∃(turn:Nat),σ'=[some (.ref d),some (.ref ra),some (.ref lm),some (.int (many:Int)),some (.ref bk),some (.ref ul),some (.int (num:Int)),some (.int (turn:Int)),none,none,none,none,none,none]/\turn<500000000000/\(∀n t,.next n t∈rs0->t<=turn)/\Fw d b H2 H') (fun nx hnx=>?_) ?_
  ·refine⟨ra,rfl,⟨_,SqL.of R4.lst⟩,?_⟩
   refine bT (dB K ra (as0.map V.ref)) (by rw[aZ];omega) (fun i ys H'=>H'=H4/\∃ns:List Nat,ys=ns.map (fun n:Nat=>V.int (n:Int))/\ns.length<=i/\(∀n∈ns,n<500000000000)/\∀n t,.next n t∈rs0.take i->t∈ns) (fun i ys H' ⟨e0,ns,e,l',_⟩=>⟨by rw[e0];exact SqL.of R4.lst,by rw[e,aZ];exact l'⟩) ⟨rfl,[],rfl,bQ _,(fun _ h=>nomatch h),(fun _ _ h=>nomatch h)⟩ (fun i x ys H' hx ⟨e0,ns,e,l',hb',hk'⟩=>?_) (fun ys H' ⟨e0,ns,e,l',hb',hk'⟩=>?_)
   ·subst e0;obtain⟨a,r,rfl,ha,hrr,hat⟩:=R4.get hx
    obtain⟨xs,g,x0,x1,x2⟩:=bO hat
    have etk:=cE hrr
    have hrm:r∈rs0:=jW hrr
    dsimp only [aK];refine⟨_,SqT.of g,_,x0,?_⟩
    show if decide (bH r="next")=true then _ else _
    refine aQ (fun h=>?_) (fun h=>?_)
    ·obtain⟨n,t,rfl⟩:=lY (of_decide_eq_true h)
     refine⟨_,SqT.of g,_,x2 (fun z=>nomatch z),rfl,ns++[t],by rw[e,iB];rfl,by simp;omega,fun m hm=>?_,fun n' t' hm=>?_⟩
     ·rcases aH hm with hm | rfl
      ·exact hb' m hm
      ·exact(hd0.nx _ _ hrm).2
     ·rw[etk]at hm;rcases aH hm with hm | hm
      ·exact List.mem_append_left _ (hk' _ _ hm)
      ·cases hm;exact List.mem_append_right _ jI
    ·refine⟨rfl,ns,e,Zo,hb',fun n' t' hm=>?_⟩
     rw[etk]at hm;rcases aH hm with hm | hm
     ·exact hk' _ _ hm
     ·subst hm;exact absurd rfl (of_decide_eq_false h)
   ·subst e0;intro p hp;rw[aZ]at l' hk';rw[<- la0,vR (bQ _)]at hk';refine⟨eK rfl,fun p2 hp2=>⟨_,_,aN aA hp2,aA,by rw[e,aZ];exact fA (by simp;omega),fun p3 hp3=>?_⟩⟩
    refine⟨p3,(ns.map (fun n:Nat=>(n:Int)))++[0],rfl,SqL.of (by rw[aA,e,iB,List.map_map];rfl),Zs,fun mx hmx hall=>?_⟩
    have nn:∃m:Nat,mx=m/\m<500000000000:=by
     rcases Zma.mp hmx with h | h
     ·obtain⟨n,hn,rfl⟩:=Zmm.mp h;exact⟨n,rfl,hb' n hn⟩
     ·rw[Zms.mp h];exact⟨0,rfl,Zo⟩
    obtain⟨m,rfl,hm⟩:=nn
    refine hnx _ _ ⟨m,rfl,hm,fun n t hh=>?_,((F4.new hp).new hp2).new hp3⟩
    have:=hall (t:Int) (List.mem_append_left _ (List.mem_map_of_mem (hk' _ _ hh)))
    omega
  rintro σ' H5 ⟨turn,rfl,hturn,htn,F5⟩
  have f5:=f2.trans F5
  have R5:=R0.keep f5.tk (f5.get R0.lst nrd nrb)
  have nbd:=dk.ne fbk
  have nud:=dk.ne ful
  have L5:BdH H d b ra bk ul H5 rs0 as0 sh []:=⟨dk,⟨_,R0.lst⟩,fbk,ful,(fun _ h=>nomatch h),⟨nrd,nrb⟩,nbu,(fun _ h=>nomatch h),List.nodup_nil,f5.dk,R5,F5.get gbk nbd.1 nbd.2,F5.get gul nud.1 nud.2,(fun _ h=>nomatch h),fun c o e n1 n2 _=>f5.get e n1 n2⟩
  have P5:=BdP.start (num:=num) (turn:=turn) hd0 hkn htn
  have b0:turn<=tB 0:=by show turn<=500000000000+1000000000*0;rw[Nat.mul_zero];omega
  refine bK (fun σ' H'=>∃(rs:List RX) (as:List Addr) (us:List Un) (num turn:Nat) (o8 o9 o10 o11 o12 o13:Option V),σ'=[some (.ref d),some (.ref ra),some (.ref lm),some (.int (many:Int)),some (.ref bk),some (.ref ul),some (.int (num:Int)),some (.int (turn:Int)),o8,o9,o10,o11,o12,o13]/\BdH H d b ra bk ul H' rs as sh us/\BdP rs sh num turn us/\rs.length<=43) (fun nx hnx=>?_) ?_
  ·refine⟨(many:Int),rfl,Zo,Zo,?_⟩
   have em:(many:Int).toNat=many:=by omega
   refine fN (dZ 0 (many:Int).toNat) (Xv H d b ra lm bk ul sh many) (fun _ _ _ _=>trivial)
    ⟨rs0,as0,[],num,turn,_,_,_,_,_,_,rfl,L5,P5,Zo,Zo,b0,bQ _⟩ ?_ ?_
   ·rintro i x σ' H6 hx ⟨rs,as,us,num,turn,o8,o9,o10,o11,o12,o13,rfl,L6,P6,l1,l2,l3,l5⟩
    obtain⟨rfl,hi⟩:=lC hx
    rw[em]at hi;dsimp only [aK];refine⟨d,b,4,rfl,L6.dk,Zd,Zd,fun way H7 w0 w1 D7 k7=>?_⟩
    obtain⟨way,rfl⟩:=dF w0
    have L7:=L6.fw ((Fw.refl L6.dk).draw D7 k7)
    dsimp only [aK];refine bK (fun σ' H'=>∃(turn':Nat),σ'=[some (.ref d),some (.ref ra),some (.ref lm),some (.int (many:Int)),some (.ref bk),some (.ref ul),some (.int (num:Int)),some (.int (turn':Int)),some (.int (i:Int)),some (.int (way:Int)),o10,o11,o12,o13]/\turn<=turn'/\turn'<=turn+1000000000/\BdH H d b ra bk ul H' rs as sh us) (fun nx' hnx'=>?_) ?_
    ·refine⟨⟨Zd,Zd,Zd⟩,d,b,1000000000,rfl,L7.dk,Zd,Zd,fun r8 H8 x0 x1 D8 k8=>⟨eK rfl,fun p hp=>⟨d,b,4,rfl,D8.new hp,Zd,Zd,fun r9 H9 y0 y1 D9 k9=>?_⟩⟩⟩
     obtain⟨r8,rfl⟩:=dF x0
     have hpd:=D8.ne hp
     have gp:=k9 p _ aA hpd.1 hpd.2
     have L9:=L7.fw ((((Fw.refl L7.dk).draw D8 k8).new hp).draw D9 k9)
     rcases Xl y0 y1 with rfl | rfl | rfl | rfl
     ·refine⟨_,SqL.of gp,_,rfl,hnx' _ _ ⟨turn,?_,Zo,Zo,L9⟩⟩
      rw[show(turn:Int)=(turn:Int)+0 by omega];rfl
     ·refine⟨_,SqL.of gp,_,rfl,hnx' _ _ ⟨turn,?_,Zo,Zo,L9⟩⟩
      rw[show(turn:Int)=(turn:Int)+0 by omega];rfl
     ·exact⟨_,SqL.of gp,_,rfl,hnx' _ _ ⟨turn+1,rfl,Zo,Zo,L9⟩⟩
     ·exact⟨_,SqL.of gp,_,rfl,hnx' _ _ ⟨turn+r8,rfl,Zo,Zo,L9⟩⟩
    ·rintro σ' H8 ⟨turn',rfl,t1,t2,L8⟩
     have P8:=P6.turn' t1
     refine Ki (fun v H'=>BdH H d b ra bk ul H' rs as sh us/\(v=false->us≠[])) (fun k hk=>?_) ?_ ?_
     ·refine aQ (fun _=>hk _ _ ⟨L8,(fun z=>nomatch z)⟩) (fun _=>?_)
      refine⟨eK rfl,fun p hp=>⟨ul,p,_,rfl,rfl,SqL.of (aN L8.und hp),SqL.of aA,?_⟩⟩
      refine hk _ _ ⟨L8.fw ((Fw.refl L8.dk).new hp),fun e z=>?_⟩
      subst z;cases e
     ·rintro H9 ⟨L9,hv⟩
      exact p1 _ H H9 d b ra lm bk ul M sh many i way num turn turn' rs as us o10 o11 o12 o13 hM oD oB oR Zo lsh L9 P8 l1 l2 l3 l5 t1 t2 (fun _ _ h=>h)
     ·rintro H9 ⟨L9,hv⟩
      exact p2 _ H H9 d b ra lm bk ul M sh many i way num turn turn' rs as us o10 o11 o12 o13 hM oD oB oR Zo lsh L9 P8 l1 l2 l3 l5 t1 t2 (hv rfl) (fun _ _ h=>h)
   ·rintro σ' H6 ⟨rs,as,us,num,turn,o8,o9,o10,o11,o12,o13,rfl,L6,P6,l1,l2,l3,l5⟩
    rw[eJ]at l1;exact hnx _ _ ⟨rs,as,us,num,turn,o8,o9,o10,o11,o12,o13,rfl,L6,P6,Zo⟩
  rintro σ' H6 ⟨rs,as,us,num,turn,o8,o9,o10,o11,o12,o13,rfl,L6,P6,l1⟩
  exact q rs as H6 L6.rows P6.wh P6.ok l1 L6.dk L6.fr
end
end KL
namespace KL
open PySem L2
section
variable {P:Program} {w:World} {K:W.Frag} {mg:Str->Option Value} {base:Heap}
def xL:Sp:=fun vs H Q _=>∃(d b lm:Addr) (M:List Addr),vs=[.ref d,.ref lm]/\Dk H d b/\MenusAt H lm M/\d∉M/\b∉M ∧
 ∀(ra:Addr) (rs:List RX) (as:List Addr) (H':Hp),H ra=none->RxsAt H' ra rs as->RX.Whole rs->(∀r∈rs,r.Ok)->rs.length<=43->Fw d b H H'->Q (.ref ra) H'
theorem MenusAt.new {H:Hp} {lm p:Addr} {M:List Addr} (h:MenusAt H lm M) (hp:H p=none):p∉M:=by
 obtain⟨a0,a1,a2,a3,ws,us,ps,ks,rfl,h0,h1,h2,h3,h4,_⟩:=h.ex
 intro hm;simp only [List.mem_cons,List.not_mem_nil,or_false]at hm
 rcases hm with rfl | rfl | rfl | rfl | rfl
 ·rw[h0]at hp;cases hp
 ·rw[h1]at hp;cases hp
 ·rw[h2]at hp;cases hp
 ·rw[h3]at hp;cases hp
 ·rw[h4]at hp;cases hp
theorem Fi (T:Txt K mg) (cLdraw:aG P w K mg base 1 "_law_draw" ["_law_deck_here","_law_many"] bF) (cLhead:aG P w K mg base 5 "_law_head" ["_law_deck_here","_law_menus_here"] Br)
  (cLbody:aG P w K mg base 4 "_law_body" ["_law_deck_here","_law_rows","_law_menus_here","_law_many"] vC) (D:DefAt K mg "_law_listed" fS ["_law_deck_here","_law_menus_here"]):aG P w K mg base 6 "_law_listed" ["_law_deck_here","_law_menus_here"] xL:=by
 refine D.go gV (fun vs H Q E h=>?_) (fun f cdv A outer s H vs Q E hr h=>?_)
 ·obtain⟨d,b,lm,M,rfl,_⟩:=h;rfl
 ·obtain⟨d,b,lm,M,rfl,dk,hM,hd,hb,q⟩:=h
  have hLdraw:Room 1 _:=hr.mono Zd
  have hLhead:Room 5 _:=hr
  have hLbody:Room 4 _:=hr.mono Zd
  refine⟨_,(R.ae (R.ao (i:=2) gV.nd (R.az R.ad)) (R.ae (R.ar (R.al R.eq (R.fn cLdraw hLdraw rfl (R.aa (R.v 0) (R.aa R.ac R.ad))) R.ac) (R.ah (R.ao (i:=2) gV.nd (R.fn cLhead hLhead rfl (R.aa (R.v 0) (R.aa (R.v 1) R.ad))))) R.au) (R.ah (R.ai (R.fn cLbody hLbody rfl (R.aa (R.v 0) (R.aa (R.v 2) (R.aa (R.v 1) (R.aa (R.ix (R.av (K:=K)) (R.az (R.aa (R.fn cLdraw hLdraw rfl (R.aa (R.v 0) (R.aa R.ac R.ad))) (R.aa (R.fn cLdraw hLdraw rfl (R.aa (R.v 0) (R.aa R.ac R.ad))) R.ad))) (R.fn cLdraw hLdraw rfl (R.aa (R.v 0) (R.aa R.ac R.ad)))) R.ad))))))))),?_⟩
  refine⟨eK rfl,fun p hp=>?_⟩
  have f1:=(Fw.refl dk).new (o:=.lst []) hp
  have g1:(aI H p (.lst [])) p=some (.lst []):=aA
  dsimp only [aK];generalize aI H p (.lst [])=H1 at f1 g1;refine bK (fun σ' H'=>∃(ra:Addr) (rs:List RX) (as:List Addr),σ'=[some (.ref d),some (.ref lm),some (.ref ra)]/\H ra=none/\RxsAt H' ra rs as/\uZ rs/\Fw d b H H') (fun nx hnx=>?_) ?_
  ·refine⟨d,b,2,rfl,f1.dk,Zd,Zd,fun r H2 r0 r1 D2 k2=>?_⟩
   have f2:=f1.draw D2 k2
   have F2:=(Fw.refl f1.dk).draw D2 k2
   refine aQ (fun _=>?_) (fun _=>?_)
   ·refine⟨d,b,lm,M,rfl,D2,f2.menus hd hb hM,hd,hb,fun ra rs as H3 fr R hk f3=>?_⟩
    exact hnx _ _ ⟨ra,rs,as,rfl,f2.free fr,R,hk,f2.trans f3⟩
   ·have pd:=dk.ne hp
    exact hnx _ _ ⟨p,[],[],rfl,hp,.nil (F2.get g1 pd.1 pd.2),⟨.nil,(fun _ h=>nomatch h),(fun _ h=>nomatch h),Nat.zero_le _,(fun _ _ h=>nomatch h)⟩,f2⟩
  rintro σ' H2 ⟨ra,rs,as,rfl,fra,R2,hk,f2⟩
  have nra:=dk.ne fra
  have oR:=hM.new fra
  refine⟨d,b,7,rfl,f2.dk,Zd,Zd,fun m1 Ha z0 z1 Da ea=>⟨d,b,25,rfl,Da,Zd,Zd,fun m2 Hb v0 v1 Db eb=>⟨eK rfl,fun p hp=>⟨d,b,2,rfl,Db.new hp,Zd,Zd,fun m3 Hc w0 w1 Dc ec=>?_⟩⟩⟩⟩
  have hpd:=Db.ne hp
  have gp:=ec p _ aA hpd.1 hpd.2
  obtain⟨m1,rfl⟩:=dF z0
  obtain⟨m2,rfl⟩:=dF v0
  have F:=(((((Fw.refl f2.dk).draw Da ea).draw Db eb).new (o:=.lst [.int (m1:Int),.int (m2:Int)]) hp).draw Dc ec)
  have fc:=f2.trans F
  have Rc:=R2.keep F.tk (F.get R2.lst nra.1 nra.2)
  have hMc:=fc.menus hd hb hM
  have fin:∀(many:Nat),many<=30->vC [.ref d,.ref ra,.ref lm,.int (many:Int)] Hc Q E0:=fun many hm=>
   ⟨d,b,ra,lm,M,rs,as,many,rfl,Dc,Rc,hk,hMc,hd,hb,oR,nra.1,nra.2,hm,fun rs' as' Hd Rd wd okd ld Dd' frd=>
    q ra rs' as' Hd fra Rd wd okd ld ⟨dk,Dd',fun c o e n1 n2=>frd c o (fc.get e n1 n2) n1 n2 (aE e fra)⟩⟩
  rcases(by omega:m3=0∨m3=1) with rfl | rfl
  ·exact⟨_,SqL.of gp,_,rfl,fin m1 Zo⟩
  ·exact⟨_,SqL.of gp,_,rfl,fin m2 Zo⟩
def Xw (m:Nat):RX->RX
 | .next _ t=>.next m t
 | .has z k=>.has z k
 | .kept _ t p k x y=>.kept m t p k x y
 | .came _ t p k x=>.came m t p k x
 | .asked _=>.asked m
 | .done _ t y=>.done m t y
def Xx (m:Nat):RX->RX
 | .next n _=>.next n m
 | .has z k=>.has z k
 | .kept n _ p k x y=>.kept n m p k x y
 | .came n _ p k x=>.came n m p k x
 | .asked n=>.asked n
 | .done n _ y=>.done n m y
theorem Fk {m:Nat} {r:RX} (h:cI r):cI (Xw m r):=by cases r <;> exact h
theorem Fl {m:Nat} {r:RX} (h:cI r):cI (Xx m r):=by cases r <;> exact h
def oG:RX->Bool | .has _ _=>true | _=>false
theorem zT {r:RX} (h:oG r=false):∃n:Nat,Kx r=.int (n:Int):=by cases r <;> first | exact⟨_,rfl⟩ | cases h
theorem Ce {r:RX}:bH r≠"has"↔oG r=false:=by
 constructor
 ·intro h;cases r <;> first | rfl | exact absurd rfl h
 ·intro h e;obtain⟨z,m,rfl⟩:=zP e;cases h
theorem zU {H:Hp} {a:Addr} {r:RX} {xs:List V} (h:r.At H a) (g:H a=some (.tup xs)):xs.length<=7:=by
 cases r with
 | next n t=>rw[show H a=_ from h]at g;cases g;exact Nat.le_of_ble_eq_true rfl
 | has z m=>rw[show H a=_ from h]at g;cases g;exact Nat.le_of_ble_eq_true rfl
 | kept n t p k x y=>obtain⟨b,c,h1,_⟩:=h;rw[h1]at g;cases g;exact Nat.le_of_ble_eq_true rfl
 | came n t p k x=>obtain⟨b,h1,_⟩:=h;rw[h1]at g;cases g;exact Nat.le_of_ble_eq_true rfl
 | asked n=>rw[show H a=_ from h]at g;cases g;exact Nat.le_of_ble_eq_true rfl
 | done n t y=>obtain⟨b,h1,_⟩:=h;rw[h1]at g;cases g;exact Nat.le_of_ble_eq_true rfl
theorem Qx {H H':Hp} {a a':Addr} {r:RX} {xs:List V} {m:Nat} (h:r.At H a) (g:H a=some (.tup xs)) (hno:oG r=false) (tk:TK H H') (g':H' a'=some (.tup ([.str (bH r),.int (m:Int)]++dO xs (some 2) none))):RX.At H' a' (Xw m r):=by
 have ec:dO xs (some 2) none=xs.drop 2:=lK xs 2
 rw[ec]at g';cases r with
 | next n t=>rw[show H a=_ from h]at g;cases g;exact g'
 | has z m=>cases hno
 | kept n t p k x y=>obtain⟨b,c,h1,h2,h3⟩:=h;rw[h1]at g;cases g;exact⟨b,c,g',tk _ _ h2,tk _ _ h3⟩
 | came n t p k x=>obtain⟨b,h1,h2⟩:=h;rw[h1]at g;cases g;exact⟨b,g',tk _ _ h2⟩
 | asked n=>rw[show H a=_ from h]at g;cases g;exact g'
 | done n t y=>obtain⟨b,h1,h2⟩:=h;rw[h1]at g;cases g;exact⟨b,g',tk _ _ h2⟩
def zV:Sp:=fun vs H Q _=>∃(d b ra a:Addr) (rs:List RX) (as:List Addr) (r:RX),vs=[.ref d,.ref ra,.ref a]/\Dk H d b/\RxsAt H ra rs as/\rs.length<=43/\r.At H a/\oG r=false ∧
 ∀(a':Addr) (m:Nat) (H':Hp),RX.At H' a' (Xw m r)->Fw d b H H'->Q (.ref a') H'
theorem oM (T:Txt K mg) (cLdraw:aG P w K mg base 1 "_law_draw" ["_law_deck_here","_law_many"] bF) (D:DefAt K mg "_law_number_other" bX ["_law_deck_here","_law_rows","_law_row"]):aG P w K mg base 2 "_law_number_other" ["_law_deck_here","_law_rows","_law_row"] zV:=by
 refine D.go fM (fun vs H Q E h=>?_) (fun f cdv A outer s H vs Q E hr h=>?_)
 ·obtain⟨d,b,ra,a,rs,as,r,rfl,_⟩:=h;rfl
 ·obtain⟨d,b,ra,a,rs,as,r,rfl,dk,RR,hl,hat,hno,q⟩:=h
  have hLdraw:Room 1 _:=hr
  have le:=RR.len
  refine⟨_,(R.ae (R.ao (i:=3) fM.nd (R.op R.bh (R.bi rfl (js:=[none]) (N:=["_law_one"]) (CompScope.by (aB bX) ["_law_deck_here","_law_rows","_law_row","_law_some"] rfl rfl Zk) (aP rfl) (R.bj (K:=K) (R.v 1)) (fun C s₂ H₂ fp=>⟨(R.gn (i:=0) (show(["_law_one"]:List Str).Nodup by decide +kernel)),(R.bq (R.al R.ne (R.ix (R.ag (K:=K)) (R.v 0) R.ac) R.af)),(R.ix (R.ag (K:=K)) (R.v 0) R.ac)⟩)) (R.az (R.aa (R.op R.ay (R.ix (R.ag (K:=K)) (R.v 2) R.ac) R.ac) (R.aa (R.ax (R.jl rfl) rfl T.b_max pP (R.aa R.ac (R.aa (R.op R.bv (R.ix (R.ag (K:=K)) (R.v 2) R.ac) R.ac) R.ad))) (R.aa R.ac R.ad)))))) (R.ah (R.ai (R.op R.df (R.aq (R.aa (R.ix (R.ag (K:=K)) (R.v 2) R.ac) (R.aa (R.ix (R.av (K:=K)) (R.v 3) (R.fn cLdraw hLdraw rfl (R.aa (R.v 0) (R.aa (R.ax (R.ba (K:=K)) rfl T.b_len aO (R.aa (R.v 3) R.ad)) R.ad)))) R.ad))) (R.sl R.sT (R.v 2) (R.ps R.ac) R.pn))))),?_⟩
  refine bK (fun σ' H'=>∃(l:Addr) (ns:List Nat),σ'=[some (.ref d),some (.ref ra),some (.ref a),some (.ref l)]/\H l=none/\H' l=some (.lst (nI ns))/\1<=ns.length/\ns.length<=100/\Same H H') (fun nx hnx=>?_) ?_
  ·refine⟨ra,rfl,⟨_,SqL.of RR.lst⟩,?_⟩
   refine bT (dB K ra (as.map V.ref)) (by rw[aZ];omega) (fun i ys H'=>H'=H/\∃ns:List Nat,ys=nI ns/\ns.length<=i) (fun i ys H' ⟨e0,ns,e,l'⟩=>⟨by rw[e0];exact SqL.of RR.lst,by rw[e];unfold nI;rw[aZ];exact l'⟩) ⟨rfl,[],rfl,bQ _⟩ (fun i x ys H' hx ⟨e0,ns,e,l'⟩=>?_) (fun ys H' ⟨e0,ns,e,l'⟩=>?_)
   ·subst e0;obtain⟨a1,r1,rfl,ha,hrr,hat1⟩:=RR.get hx
    obtain⟨xs,g,x0,x1,x2⟩:=bO hat1
    dsimp only [aK];refine⟨_,SqT.of g,_,x0,?_⟩
    show if (!decide (bH r1="has"))=true then _ else _
    refine aQ (fun h=>?_) (fun h=>?_)
    ·obtain⟨n,en⟩:=zT (Ce.mp (by simpa using h))
     rw[en]at x1;exact⟨_,SqT.of g,_,x1,rfl,ns++[n],by rw[e];unfold nI;rw[iB];rfl,by simp;omega⟩
    ·exact⟨rfl,ns,e,Zo⟩
   ·subst e0;intro p hp;rw[aZ]at l';obtain⟨xs,g,x0,x1,x2⟩:=bO hat
    obtain⟨n,en⟩:=zT hno
    rw[en]at x1;have s1:=aF (o:=.lst ys) hp
    have gp:(aI H' p (.lst ys)) p=some (.lst (nI ns)):=by rw[aA,e]
    generalize aI H' p (.lst ys)=H1 at s1 gp;have em:(if (n:Int) - 1 > 1 then (n:Int) - 1 else 1)=((max 1 (n - 1):Nat):Int):=by split <;> omega
    refine⟨_,SqT.of (s1 _ _ g),_,x1,_,SqT.of (s1 _ _ g),_,x1,eK rfl,fun p2 hp2=>⟨_,_,aN gp hp2,aA,by unfold nI;rw[aZ];exact fA (by simp;omega),fun p3 hp3=>?_⟩⟩
    refine hnx _ _ ⟨p3,ns++[n+1,max 1 (n - 1),999999],rfl,(s1.trans (aF hp2)).free hp3,?_,Zs,by simp;omega,(s1.trans (aF hp2)).trans (aF hp3)⟩
    rw[aA,em];unfold nI;rw[iB];rfl
  rintro σ' H1 ⟨l,ns,rfl,fl,gl,l1,l2,s1⟩
  have f1:=(Fw.refl dk).same s1
  have ld:=dk.ne fl
  obtain⟨xs,g,x0,x1,x2⟩:=bO hat
  have en:(nI ns).length=ns.length:=by unfold nI;rw[aZ]
  refine⟨_,SqT.of (s1 _ _ g),_,x0,_,.inl (SqL.of gl),d,b,(ns.length:Int),by rw[en],f1.dk,Zo,Zo,fun k H2 k0 k1 D2 e2=>?_⟩
  obtain⟨k,rfl⟩:=dF k0
  have hk:k<ns.length:=by omega
  have F2:=(Fw.refl f1.dk).draw D2 e2
  have g2:=F2.tup (s1 _ _ g)
  refine⟨_,SqL.of (F2.get gl ld.1 ld.2),.int (ns[k]:Int),bJ (by unfold nI;rw[jC,gZ hk];rfl),aL rfl,fun t1 H3 s3 g3=>⟨_,s3 _ _ g2,fun t2 H4 s4 g4=>⟨_,_,s4 _ _ g3,g4,?_,fun t3 H5 s5 g5=>?_⟩⟩⟩
  ·have:=lH xs (some 2) none
   have hx8:xs.length<=7:=zU hat g
   show 2+_<=1000
   omega
  ·have ff:=((((f1.draw D2 e2).same s3).same s4).same s5)
   refine q t3 ns[k] H5 ?_ ff
   exact Qx hat g hno ff.tk g5
end
end KL
namespace KL
open PySem L2
section
variable {P:Program} {w:World} {K:W.Frag} {mg:Str->Option Value} {base:Heap}
def Qy:RX->Bool | .next _ _=>true | .kept _ _ _ _ _ _=>true | .came _ _ _ _ _=>true | .done _ _ _=>true | _=>false
theorem Xy {r:RX} (h:Qy r=true):∃n:Nat,Ky r=.int (n:Int):=by cases r <;> first | exact⟨_,rfl⟩ | cases h
theorem Qz {H H':Hp} {a a':Addr} {r:RX} {xs:List V} {m:Nat} (h:r.At H a) (g:H a=some (.tup xs)) (hno:Qy r=true) (tk:TK H H') (g':H' a'=some (.tup ((dO xs none (some 2)++[.int (m:Int)])++dO xs (some 3) none))):RX.At H' a' (Xx m r):=by
 have ec:dO xs (some 3) none=xs.drop 3:=lK xs 3
 have ed:dO xs none (some 2)=xs.take 2:=pQ xs 2
 rw[ec,ed]at g';cases r with
 | next n t=>rw[show H a=_ from h]at g;cases g;exact g'
 | has z m=>cases hno
 | kept n t p k x y=>obtain⟨b,c,h1,h2,h3⟩:=h;rw[h1]at g;cases g;exact⟨b,c,g',tk _ _ h2,tk _ _ h3⟩
 | came n t p k x=>obtain⟨b,h1,h2⟩:=h;rw[h1]at g;cases g;exact⟨b,g',tk _ _ h2⟩
 | asked n=>cases hno
 | done n t y=>obtain⟨b,h1,h2⟩:=h;rw[h1]at g;cases g;exact⟨b,g',tk _ _ h2⟩
def vD:Sp:=fun vs H Q _=>∃(d b ra a:Addr) (r:RX),vs=[.ref d,.ref ra,.ref a]/\Dk H d b/\r.At H a/\Qy r=true ∧
 ∀(a':Addr) (m:Nat) (H':Hp),RX.At H' a' (Xx m r)->Fw d b H H'->Q (.ref a') H'
theorem rK (T:Txt K mg) (cLdraw:aG P w K mg base 1 "_law_draw" ["_law_deck_here","_law_many"] bF) (D:DefAt K mg "_law_turn_other" dI ["_law_deck_here","_law_rows","_law_row"]):aG P w K mg base 2 "_law_turn_other" ["_law_deck_here","_law_rows","_law_row"] vD:=by
 refine D.go gN (fun vs H Q E h=>?_) (fun f cdv A outer s H vs Q E hr h=>?_)
 ·obtain⟨d,b,ra,a,r,rfl,_⟩:=h;rfl
 ·obtain⟨d,b,ra,a,r,rfl,dk,hat,hno,q⟩:=h
  have hLdraw:Room 1 _:=hr
  obtain⟨xs,g,x0,x1,x2⟩:=bO hat
  obtain⟨n,en⟩:=Xy hno
  have x2':=x2 (by rw[en];exact fun z=>nomatch z)
  rw[en]at x2';have em:(if (n:Int) - 1 > 0 then (n:Int) - 1 else 0)=((n - 1:Nat):Int):=by split <;> omega
  refine⟨_,(R.ae (R.ao (i:=3) gN.nd (R.ix (R.av (K:=K)) (R.az (R.aa (R.ax (R.jl rfl) rfl T.b_max pP (R.aa R.ac (R.aa (R.op R.bv (R.ix (R.ag (K:=K)) (R.v 2) R.ac) R.ac) R.ad))) (R.aa (R.op R.ay (R.ix (R.ag (K:=K)) (R.v 2) R.ac) R.ac) (R.aa R.ac (R.aa (R.op R.cn R.ac R.ac) R.ad))))) (R.fn cLdraw hLdraw rfl (R.aa (R.v 0) (R.aa R.ac R.ad))))) (R.ah (R.ai (R.op R.df (R.op R.df (R.sl R.sT (R.v 2) R.pn (R.ps R.ac)) (R.aq (R.aa (R.v 3) R.ad))) (R.sl R.sT (R.v 2) (R.ps R.ac) R.pn))))),?_⟩
  refine bK (fun σ' H'=>∃(m:Nat),σ'=[some (.ref d),some (.ref ra),some (.ref a),some (.int (m:Int))]/\Fw d b H H') (fun nx hnx=>?_) ?_
  ·refine⟨_,SqT.of g,_,x2',_,SqT.of g,_,x2',⟨Zd,Zd,Zd⟩,eK rfl,fun p hp=>⟨d,b,4,rfl,dk.new hp,Zd,Zd,fun r3 H3 c0 c1 D3 k3=>?_⟩⟩
   have hpd:=dk.ne hp
   have gp:=k3 p _ aA hpd.1 hpd.2
   have f3:=((Fw.refl dk).new hp).draw D3 k3
   rcases Xl c0 c1 with rfl | rfl | rfl | rfl
   ·refine⟨_,SqL.of gp,_,rfl,hnx _ _ ⟨n - 1,?_,f3⟩⟩
    rw[<- em];rfl
   ·exact⟨_,SqL.of gp,_,rfl,hnx _ _ ⟨n+1,rfl,f3⟩⟩
   ·exact⟨_,SqL.of gp,_,rfl,hnx _ _ ⟨0,rfl,f3⟩⟩
   ·exact⟨_,SqL.of gp,_,rfl,hnx _ _ ⟨1000000000000,rfl,f3⟩⟩
  rintro σ' H1 ⟨m,rfl,f1⟩
  have g1:=f1.tup g
  refine⟨_,g1,fun t1 H2 s2 g2=>⟨aL rfl,fun t2 H3 s3 g3=>⟨_,_,s3 _ _ g2,g3,?_,fun t3 H4 s4 g4=>⟨_,s4 _ _ (s3 _ _ (s2 _ _ g1)),fun t5 H5 s5 g5=>⟨_,_,s5 _ _ g4,g5,?_,fun t6 H6 s6 g6=>?_⟩⟩⟩⟩⟩
  ·have:=lH xs none (some 2)
   have:=zU hat g
   show _+1<=1000
   omega
  ·have:=lH xs none (some 2)
   have:=lH xs (some 3) none
   have:=zU hat g
   rw[kM];show _+1+_<=1000
   omega
  ·have ff:=(((((f1.same s2).same s3).same s4).same s5).same s6)
   exact q t6 m H6 (Qz hat g hno ff.tk g6) ff
def Cf:Sp:=fun vs H Q _=>∃(d b ra a lm:Addr) (M:List Addr) (rs:List RX) (as:List Addr) (n t:Nat) (y:An),vs=[.ref d,.ref ra,.ref a,.ref lm]/\Dk H d b/\RxsAt H ra rs as/\rs.length<=43/\(∀r∈rs,cI r)/\RX.At H a (.done n t y)/\MenusAt H lm M/\d∉M/\b∉M ∧
 ∀(a':Addr) (y':An) (H':Hp),qH y'->RX.At H' a' (.done n t y')->Fw d b H H'->Q (.ref a') H'
def Lw (H:Hp) (zs:List Addr):Prop:=∀z∈zs,∃x:Dd,x.Ok/\H z=some (.tup x.vs)
theorem rL (T:Txt K mg) (cLdraw:aG P w K mg base 1 "_law_draw" ["_law_deck_here","_law_many"] bF) (cLdeed:aG P w K mg base 3 "_law_deed" ["_law_deck_here","_law_names","_law_houses"] iX)
  (cLwords:aG P w K mg base 1 "_law_words" ["_law_deed_here","_law_asked"] hX) (cLanswer:aG P w K mg base 3 "_law_answer" ["_law_deck_here","_law_deed_here","_law_word"] nO)
  (D:DefAt K mg "_law_done_other" cM ["_law_deck_here","_law_rows","_law_row","_law_menus_here"]):aG P w K mg base 4 "_law_done_other" ["_law_deck_here","_law_rows","_law_row","_law_menus_here"] Cf:=by
 refine D.go cF (fun vs H Q E h=>?_) (fun f cdv A outer s H vs Q E hr h=>?_)
 ·obtain⟨d,b,ra,a,lm,M,rs,as,n,t,y,rfl,_⟩:=h;rfl
 ·obtain⟨d,b,ra,a,lm,M,rs,as,n,t,y,rfl,dk,RR,hl,hf,⟨cy,g,gy⟩,hM,hd,hb,q⟩:=h
  have hLdraw:Room 1 _:=hr.mono Zd
  have hLwords:Room 1 _:=hr.mono Zd
  have hLdeed:Room 3 _:=hr
  have hLanswer:Room 3 _:=hr
  have le:=RR.len
  refine⟨_,(R.ae (R.eh (i:=4) cF.nd rfl (Or.inl rfl) rfl (js:=[none,some 2]) (N:=["_law_one","_law_row"]) (CompScope.by (aB cM) ["_law_deck_here","_law_rows","_law_row","_law_menus_here","_law_deeds","_law_deed_here","_law_words_here","_law_word"] rfl rfl Zk) (aP rfl) (R.bj (K:=K) (R.v 1)) (fun C s₂ H₂ fp=>⟨(R.gn (i:=0) (show(["_law_one","_law_row"]:List Str).Nodup by decide +kernel)),(R.bq (R.tw (R.bt (R.al R.eq (R.ix (R.ag (K:=K)) (R.v 0) R.ac) R.af) (R.cj (R.al R.eq (R.ix (R.ag (K:=K)) (R.v 0) R.ac) (R.ix (R.ag (K:=K)) (R.v 1) R.ac)))))),(R.ix (R.ag (K:=K)) (R.v 0) R.ac)⟩) rfl) (R.ae (R.ao (i:=5) cF.nd (R.ix (R.av (K:=K)) (R.op R.bh (R.v 4) (R.az (R.aa (R.fn cLdeed hLdeed rfl (R.aa (R.v 0) (R.aa (R.ix (R.av (K:=K)) (R.v 3) R.ac) (R.aa (R.ix (R.av (K:=K)) (R.v 3) R.ac) R.ad)))) R.ad))) (R.op R.da (R.fn cLdraw hLdraw rfl (R.aa (R.v 0) (R.aa R.ac R.ad))) (R.op R.ay (R.ax (R.ba (K:=K)) rfl T.b_len aO (R.aa (R.v 4) R.ad)) R.ac)))) (R.ae (R.ao (i:=6) cF.nd (R.op R.bh (R.fn cLwords hLwords rfl (R.aa (R.v 5) (R.aa R.bl R.ad))) (R.fn cLwords hLwords rfl (R.aa (R.v 5) (R.aa R.bl R.ad))))) (R.ae (R.ao (i:=7) cF.nd (R.ix (R.av (K:=K)) (R.v 6) (R.fn cLdraw hLdraw rfl (R.aa (R.v 0) (R.aa (R.ax (R.ba (K:=K)) rfl T.b_len aO (R.aa (R.v 6) R.ad)) R.ad))))) (R.ah (R.ai (R.op R.df (R.sl R.sT (R.v 2) R.pn (R.ps R.ac)) (R.aq (R.aa (R.fn cLanswer hLanswer rfl (R.aa (R.v 0) (R.aa (R.v 5) (R.aa (R.v 7) R.ad)))) R.ad))))))))),?_⟩
  refine bK (fun σ' H'=>∃(l:Addr) (zs:List Addr),σ'=[some (.ref d),some (.ref ra),some (.ref a),some (.ref lm),some (.ref l),none,none,none]/\H l=none/\H' l=some (.lst (zs.map V.ref))/\zs.length<=43/\Lw H zs/\Same H H') (fun nx hnx=>?_) ?_
  ·refine⟨ra,rfl,⟨_,SqL.of RR.lst⟩,?_⟩
   refine bT (dB K ra (as.map V.ref)) (by rw[aZ];omega) (fun i ys H'=>H'=H/\∃zs:List Addr,ys=zs.map V.ref/\zs.length<=i/\Lw H zs) (fun i ys H' ⟨e0,ns,e,l',_⟩=>⟨by rw[e0];exact SqL.of RR.lst,by rw[e];rw[aZ];exact l'⟩) ⟨rfl,[],rfl,bQ _,(fun _ h=>nomatch h)⟩ (fun i x ys H' hx ⟨e0,zs,e,l',hz⟩=>?_) (fun ys H' ⟨e0,zs,e,l',hz⟩=>?_)
   ·subst e0;obtain⟨a1,r1,rfl,ha,hrr,hat1⟩:=RR.get hx
    obtain⟨xs,g1,x0,x1,x2⟩:=bO hat1
    dsimp only [aK];refine⟨_,SqT.of g1,_,x0,?_⟩
    show if decide (bH r1="came")=true then _ else _
    refine aQ (fun h=>?_) (fun h=>?_)
    ·obtain⟨n1,t1,p1,k1,x1',rfl⟩:=vA (of_decide_eq_true h)
     obtain⟨bd,h1,h2⟩:=hat1
     refine⟨_,SqT.of h1,_,rfl,_,SqT.of g,_,rfl,?_⟩
     refine aQ (fun h3=>?_) (fun h3=>?_)
     ·refine⟨_,SqT.of h1,_,rfl,rfl,zs++[bd],by rw[e,iB];rfl,by simp;omega,fun z hz'=>?_⟩
      rcases aH hz' with hz' | rfl
      ·exact hz z hz'
      ·exact⟨x1',hf _ (jW hrr),h2⟩
     ·exact⟨rfl,zs,e,Zo,hz⟩
    ·exact⟨rfl,zs,e,Zo,hz⟩
   ·subst e0;intro p hp;rw[aZ]at l';exact hnx _ _ ⟨p,zs,rfl,hp,by rw[aA,e],Zo,hz,aF hp⟩
  rintro σ' H1 ⟨l,zs,rfl,fl,gl,lz,hz,s1⟩
  have f1:=(Fw.refl dk).same s1
  have ld:=dk.ne fl
  have hM1:=f1.menus hd hb hM
  obtain⟨a0,a1,a2,a3,ws,us,ps,ks,rfl,h0,h1,h2,h3,h4,mw,mu,_⟩:=hM1.ex
  have nd:∀x∈[lm,a0,a1,a2,a3],x≠d/\x≠b:=fun x hx=>⟨fun z=>hd (z ▸ hx),fun z=>hb (z ▸ hx)⟩
  refine bK (fun σ' H'=>∃(td:Addr) (x:Dd),σ'=[some (.ref d),some (.ref ra),some (.ref a),some (.ref lm),some (.ref l),some (.ref td),none,none]/\x.Ok/\H' td=some (.tup x.vs)/\Fw d b H H') (fun nx hnx=>?_) ?_
  ·refine⟨_,SqL.of h0,_,rfl,_,SqL.of h0,_,rfl,d,b,a0,a1,ws,us,rfl,f1.dk,h1,h2,⟨(nd a0 Zs).1,(nd a0 Zs).2,(nd a1 Zs).1,(nd a1 Zs).2⟩,mw,mu,fun td x H2 hx gx f2=>?_⟩
   have gl2:=f2.get gl ld.1 ld.2
   refine⟨eK rfl,fun p hp=>⟨_,_,aN gl2 hp,aA,by rw[aZ];exact fA (by simp;omega),fun p2 hp2=>?_⟩⟩
   have f3:=((f1.trans f2).new (o:=.lst [.ref td]) hp).new (o:=.lst (zs.map V.ref++[.ref td])) hp2
   have hp2d:=((f1.trans f2).new (o:=.lst [.ref td]) hp).dk.ne hp2
   have gp2:(aI (aI H2 p (.lst [.ref td])) p2 (.lst (zs.map V.ref++[.ref td]))) p2=some (.lst ((zs++[td]).map V.ref)):=by rw[aA,iB];rfl
   have gl3:=aN (u:=.lst (zs.map V.ref++[.ref td])) (aN (u:=.lst [.ref td]) gl2 hp) hp2
   have gx3:=aN (u:=.lst (zs.map V.ref++[.ref td])) (aN (u:=.lst [.ref td]) gx hp) hp2
   have hz3:Lw (aI (aI H2 p (.lst [.ref td])) p2 (.lst (zs.map V.ref++[.ref td]))) (zs++[td]):=fun z hm=>by
    rcases aH hm with hm | rfl
    ·obtain⟨x',hx',gx'⟩:=hz z hm;exact⟨x',hx',f3.tup gx'⟩
    ·exact⟨x,hx,gx3⟩
   generalize aI (aI H2 p (.lst [.ref td])) p2 (.lst (zs.map V.ref++[.ref td]))=H3 at f3 gp2 gl3 gx3 hz3;refine⟨d,b,2,rfl,f3.dk,Zd,Zd,fun k H4 k0 k1 D4 e4=>?_⟩
   obtain⟨k,rfl⟩:=dF k0
   have F4:=(Fw.refl f3.dk).draw D4 e4
   have hj:k % (zs.length+1)<(zs++[td]).length:=by rw[kM];exact Nat.mod_lt _ (Nat.succ_pos _)
   have ej:(k:Int) % (((zs.map V.ref).length:Int)+1)=((k % (zs.length+1):Nat):Int):=by rw[aZ];rfl
   refine⟨_,.inl (SqL.of (F4.get gl3 ld.1 ld.2)),by show(0:Int)<_+1;omega,_,SqL.of (F4.get gp2 hp2d.1 hp2d.2),.ref (zs++[td])[k % (zs.length+1)],?_,?_⟩
   ·show mW _ ((k:Int) % (((zs.map V.ref).length:Int)+1))=_
    rw[ej];exact bJ (by rw[jC,gZ hj];rfl)
   ·obtain⟨x',hx',gx'⟩:=hz3 _ (List.getElem_mem hj)
    exact hnx _ _ ⟨_,x',rfl,hx',F4.tup gx',f3.draw D4 e4⟩
  rintro σ' H2 ⟨td,x,rfl,hx,gx,f2⟩
  refine bK (fun σ' H'=>∃(l3:Addr),σ'=[some (.ref d),some (.ref ra),some (.ref a),some (.ref lm),some (.ref l),some (.ref td),some (.ref l3),none]/\H l3=none/\H' l3=some (.lst ((gB x true++gB x false).map V.str))/\H' td=some (.tup x.vs)/\Fw d b H H') (fun nx hnx=>?_) ?_
  ·refine⟨td,x,true,rfl,gx,fun l1 H3 n1 g1 s1=>⟨td,x,false,rfl,s1 _ _ gx,fun l2 H4 n2 g2 s2=>⟨_,_,s2 _ _ g1,g2,?_,fun l3 hl3=>?_⟩⟩⟩
   ·have:=hZ x
    rw[kM]at this;rw[aZ,aZ];exact fA Zo
   ·have f4:=(f2.same (s1.trans s2))
    refine hnx _ _ ⟨l3,rfl,f4.free hl3,by rw[aA,iB],aN (s2 _ _ (s1 _ _ gx)) hl3,f4.new hl3⟩
  rintro σ' H3 ⟨l3,rfl,fl3,g3,gx3,f3⟩
  have w6:=hZ x
  have l3d:=dk.ne fl3
  refine⟨_,.inl (SqL.of g3),d,b,((gB x true++gB x false).length:Int),by rw[aZ],f3.dk,Zo,Zo,fun r H5 r0 r1 D5 e5=>?_⟩
  have f5:=f3.draw D5 e5
  have F5:=(Fw.refl f3.dk).draw D5 e5
  obtain⟨i,hi,rfl,ei⟩:=fK r0 r1
  have hz:(gB x true++gB x false)[i]∈gW x:=by
   rcases Zma.mp (List.getElem_mem hi) with h | h
   ·exact kH x _ _ h
   ·exact kH x _ _ h
  refine⟨_,SqL.of (F5.get g3 l3d.1 l3d.2),_,ei,?_⟩
  dsimp only [aK];refine⟨_,f5.tup g,fun t1 H6 s6 g6=>⟨d,b,td,x,_,rfl,D5.same s6,s6 _ _ (F5.tup gx3),hx,hz,fun c y' H7 hy _ gy f7=>⟨aL rfl,fun t2 H8 s8 g8=>⟨_,_,s8 _ _ (f7.tup g6),g8,Nat.le_of_ble_eq_true rfl,fun t3 H9 s9 g9=>?_⟩⟩⟩⟩
  refine q t3 y' H9 ⟨x,hx,hy⟩ ⟨c,g9,s9 _ _ (s8 _ _ gy)⟩ (((((f5.same s6).trans f7).same s8).same s9))
def Lx:Sp:=fun vs H Q _=>∃(d b ra a lm:Addr) (M:List Addr) (rs:List RX) (as:List Addr) (r:RX),vs=[.ref d,.ref ra,.ref a,.ref lm]/\Dk H d b/\RxsAt H ra rs as/\(ra≠d/\ra≠b)/\rs.length<=43/\(∀r∈rs,cI r)/\r.At H a/\cI r/\MenusAt H lm M/\d∉M/\b∉M ∧
 ∀(a':Addr) (r':RX) (H':Hp),cI r'->r'.At H' a'->Fw d b H H'->Q (.ref a') H'
theorem vE (T:Txt K mg) (cLdraw:aG P w K mg base 1 "_law_draw" ["_law_deck_here","_law_many"] bF) (cLdeed:aG P w K mg base 3 "_law_deed" ["_law_deck_here","_law_names","_law_houses"] iX)
  (cLnumber_other:aG P w K mg base 2 "_law_number_other" ["_law_deck_here","_law_rows","_law_row"] zV) (cLturn_other:aG P w K mg base 2 "_law_turn_other" ["_law_deck_here","_law_rows","_law_row"] vD)
  (cLdone_other:aG P w K mg base 4 "_law_done_other" ["_law_deck_here","_law_rows","_law_row","_law_menus_here"] Cf)
  (D:DefAt K mg "_law_row_other" dR ["_law_deck_here","_law_rows","_law_row","_law_menus_here"]):aG P w K mg base 5 "_law_row_other" ["_law_deck_here","_law_rows","_law_row","_law_menus_here"] Lx:=by
 refine D.go hW (fun vs H Q E h=>?_) (fun f cdv A outer s H vs Q E hr h=>?_)
 ·obtain⟨d,b,ra,a,lm,M,rs,as,r,rfl,_⟩:=h;rfl
 ·obtain⟨d,b,ra,a,lm,M,rs,as,r,rfl,dk,RR,nra,hl,hf,hat,hfr,hM,hd,hb,q⟩:=h
  have hLdraw:Room 1 _:=hr.mono Zd
  have hLdeed:Room 3 _:=hr.mono Zd
  have hLnumber_other:Room 2 _:=hr.mono Zd
  have hLturn_other:Room 2 _:=hr.mono Zd
  have hLdone_other:Room 4 _:=hr
  refine⟨_,(R.ae (R.ao (i:=4) hW.nd (R.fn cLdraw hLdraw rfl (R.aa (R.v 0) (R.aa R.ac R.ad)))) (R.ae (R.ar (R.al R.eq (R.ix (R.ag (K:=K)) (R.v 2) R.ac) R.af) (R.ah (R.ai (R.aq (R.aa R.af (R.aa (R.ix (R.av (K:=K)) (R.ix (R.av (K:=K)) (R.v 3) R.ac) (R.fn cLdraw hLdraw rfl (R.aa (R.v 0) (R.aa (R.ax (R.ba (K:=K)) rfl T.b_len aO (R.aa (R.ix (R.av (K:=K)) (R.v 3) R.ac) R.ad)) R.ad)))) (R.aa (R.ix (R.ag (K:=K)) (R.v 2) R.ac) R.ad)))))) R.au) (R.ae (R.ar (R.tw (R.bt (R.al R.eq (R.ix (R.ag (K:=K)) (R.v 2) R.ac) R.af) (R.cj (R.al R.eq (R.v 4) R.ac)))) (R.ah (R.ai (R.fn cLdone_other hLdone_other rfl (R.aa (R.v 0) (R.aa (R.v 1) (R.aa (R.v 2) (R.aa (R.v 3) R.ad))))))) R.au) (R.ae (R.ar (R.tw (R.bt (R.al R.eq (R.ix (R.ag (K:=K)) (R.v 2) R.ac) R.af) (R.cj (R.al R.eq (R.v 4) R.ac)))) (R.ah (R.ai (R.op R.df (R.sl R.sT (R.v 2) R.pn (R.ps R.ac)) (R.aq (R.aa (R.fn cLdeed hLdeed rfl (R.aa (R.v 0) (R.aa (R.ix (R.av (K:=K)) (R.v 3) R.ac) (R.aa (R.ix (R.av (K:=K)) (R.v 3) R.ac) R.ad)))) R.ad))))) R.au) (R.ae (R.ar (R.tw (R.bo (R.al R.eq (R.ix (R.ag (K:=K)) (R.v 2) R.ac) R.af) (R.cg (R.al R.eq (R.v 4) R.ac)))) (R.ah (R.ai (R.fn cLnumber_other hLnumber_other rfl (R.aa (R.v 0) (R.aa (R.v 1) (R.aa (R.v 2) R.ad)))))) R.au) (R.ah (R.ai (R.fn cLturn_other hLturn_other rfl (R.aa (R.v 0) (R.aa (R.v 1) (R.aa (R.v 2) R.ad))))))))))),?_⟩
  refine⟨d,b,3,rfl,dk,Zd,Zd,fun way H1 w0 w1 D1 e1=>?_⟩
  obtain⟨way,rfl⟩:=dF w0
  have f1:=(Fw.refl dk).draw D1 e1
  have R1:=RR.keep f1.tk (f1.get RR.lst nra.1 nra.2)
  have hM1:=f1.menus hd hb hM
  have hat1:=hat.tk f1.tk
  obtain⟨xs,g,x0,x1,x2⟩:=bO hat1
  dsimp only [aK];obtain⟨a0,a1,a2,a3,ws,us,ps,ks,rfl,h0,h1,h2,h3,h4,mw,mu,_⟩:=hM1.ex
  have nd:∀x∈[lm,a0,a1,a2,a3],x≠d/\x≠b:=fun x hx=>⟨fun z=>hd (z ▸ hx),fun z=>hb (z ▸ hx)⟩
  have numO:oG r=false->zV [.ref d,.ref ra,.ref a] H1 Q E0:=fun hh=>⟨d,b,ra,a,rs,as,r,rfl,D1,R1,hl,hat1,hh,fun a' m H' h' f'=>q a' _ H' (Fk hfr) h' (f1.trans f')⟩
  have turnO:Qy r=true->vD [.ref d,.ref ra,.ref a] H1 Q E0:=fun hh=>⟨d,b,ra,a,r,rfl,D1,hat1,hh,fun a' m H' h' f'=>q a' _ H' (Fl hfr) h' (f1.trans f')⟩
  refine⟨_,SqT.of g,_,x0,?_⟩
  cases r with
  | has z m=>
   have w2:=mw.two
   refine⟨_,SqL.of h0,_,rfl,_,SqL.of h0,_,rfl,_,.inl (SqL.of h1),d,b,(ws.length:Int),by rw[aZ],D1,Zo,by have:=mw.six;omega,fun k H2 k0 k1 D2 e2=>?_⟩
   have F2:=(Fw.refl D1).draw D2 e2
   obtain⟨i,hi,rfl,ei⟩:=fK k0 k1
   refine⟨_,SqL.of (F2.get h1 (nd a0 Zs).1 (nd a0 Zs).2),_,ei,_,SqT.of (F2.tup g),_,x2 (fun z=>nomatch z),aL rfl,fun t3 H3 s3 g3=>?_⟩
   exact q t3 (.has ws[i] m) H3 hfr g3 ((f1.trans F2).same s3)
  | done n t y=>
   refine⟨_,SqT.of g,_,x0,?_⟩
   rcases(by omega:way=0∨way=1∨way=2) with rfl | rfl | rfl
   ·exact⟨_,SqT.of g,_,x0,_,SqT.of g,_,x0,numO rfl⟩
   ·exact⟨_,SqT.of g,_,x0,_,SqT.of g,_,x0,turnO rfl⟩
   ·exact⟨d,b,ra,a,lm,_,rs,as,n,t,y,rfl,D1,R1,hl,hf,hat1,hM1,hd,hb,fun a' y' H' hy' h' f'=>q a' (.done n t y') H' hy' h' (f1.trans f')⟩
  | came n t p k x=>
   obtain⟨bd,gr,gd⟩:=id hat1
   refine⟨_,SqT.of g,_,x0,?_⟩
   refine⟨_,SqT.of g,_,x0,?_⟩
   rcases(by omega:way=0∨way=1∨way=2) with rfl | rfl | rfl
   ·exact⟨_,SqT.of g,_,x0,numO rfl⟩
   ·exact⟨_,SqT.of g,_,x0,turnO rfl⟩
   ·refine⟨_,gr,fun t1 H2 s2 g2=>⟨_,SqL.of (s2 _ _ h0),_,rfl,_,SqL.of (s2 _ _ h0),_,rfl,d,b,a0,a1,ws,us,rfl,D1.same s2,s2 _ _ h1,s2 _ _ h2,⟨(nd a0 Zs).1,(nd a0 Zs).2,(nd a1 Zs).1,(nd a1 Zs).2⟩,mw,mu,fun td x' H3 hx' gx' f3=>?_⟩⟩
    refine⟨aL rfl,fun t2 H4 s4 g4=>⟨_,_,s4 _ _ (f3.tup g2),g4,Nat.le_of_ble_eq_true rfl,fun t5 H5 s5 g5=>?_⟩⟩
    exact q t5 (.came n t p k x') H5 hx' ⟨td,g5,s5 _ _ (s4 _ _ gx')⟩ ((((f1.same s2).trans f3).same s4).same s5)
  | next n t=>
   refine⟨_,SqT.of g,_,x0,?_⟩
   refine⟨_,SqT.of g,_,x0,?_⟩
   refine⟨_,SqT.of g,_,x0,?_⟩
   refine aQ (fun _=>numO rfl) (fun _=>turnO rfl)
  | kept n t p k x y=>
   refine⟨_,SqT.of g,_,x0,?_⟩
   refine⟨_,SqT.of g,_,x0,?_⟩
   refine⟨_,SqT.of g,_,x0,?_⟩
   refine aQ (fun _=>numO rfl) (fun _=>turnO rfl)
  | asked n=>
   refine⟨_,SqT.of g,_,x0,?_⟩
   refine⟨_,SqT.of g,_,x0,?_⟩
   exact⟨_,SqT.of g,_,x0,numO rfl⟩
end
end KL
namespace KL
open PySem L2
section
variable {P:Program} {w:World} {K:W.Frag} {mg:Str->Option Value} {base:Heap}
def Ly:Sp:=fun vs H Q _=>∃(d b ra lm:Addr) (M:List Addr) (rs:List RX) (as:List Addr),vs=[.ref d,.ref ra,.ref lm]/\Dk H d b/\RxsAt H ra rs as/\(ra≠d/\ra≠b)/\rs.length<=43/\(∀r∈rs,r.turn<=1000000000000)/\MenusAt H lm M/\d∉M/\b∉M ∧
 ∀(a':Addr) (r':RX) (H':Hp),cI r'->r'.At H' a'->Fw d b H H'->Q (.ref a') H'
theorem Re {r:RX} (h:r.Ok):r.turn<=1000000000000:=by
 cases r with
 | next n t=>exact h.2.2
 | came n t p k x=>exact h.2.2.1
 | done n t y=>exact h.2.2
 | _=>exact Nat.zero_le _
theorem qL (r:RX):gT (.str (bH r)) [.str "next",.str "came",.str "done"]=kS r:=by cases r <;> rfl
theorem qM {r:RX} (h:kS r=true):Ky r=.int (r.turn:Int):=by cases r <;> first | rfl | cases h
theorem xM (T:Txt K mg) (cLdraw:aG P w K mg base 1 "_law_draw" ["_law_deck_here","_law_many"] bF) (cLend:aG P w K mg base 2 "_law_end" ["_law_deck_here","_law_many"] bF) (cLdeed:aG P w K mg base 3 "_law_deed" ["_law_deck_here","_law_names","_law_houses"] iX)
  (cLwords:aG P w K mg base 1 "_law_words" ["_law_deed_here","_law_asked"] hX) (cLanswer:aG P w K mg base 3 "_law_answer" ["_law_deck_here","_law_deed_here","_law_word"] nO)
  (cLkept:aG P w K mg base 4 "_law_kept" ["_law_deck_here","_law_menus_here","_law_number","_law_turn"] uY) (cLspot:aG P w K mg base 2 "_law_spot" ["_law_deck_here","_law_menus_here"] lW)
  (D:DefAt K mg "_law_row_more" cN ["_law_deck_here","_law_rows","_law_menus_here"]):aG P w K mg base 5 "_law_row_more" ["_law_deck_here","_law_rows","_law_menus_here"] Ly:=by
 refine D.go aS (fun vs H Q E h=>?_) (fun f cdv A outer s H vs Q E hr h=>?_)
 ·obtain⟨d,b,ra,lm,M,rs,as,rfl,_⟩:=h;rfl
 ·obtain⟨d,b,ra,lm,M,rs,as,rfl,dk,RR,nra,hl,htn,hM,hd,hb,q⟩:=h
  have hLdraw:Room 1 _:=hr.mono Zd
  have hLend:Room 2 _:=hr.mono Zd
  have hLdeed:Room 3 _:=hr.mono Zd
  have hLwords:Room 1 _:=hr.mono Zd
  have hLanswer:Room 3 _:=hr.mono Zd
  have hLkept:Room 4 _:=hr
  have hLspot:Room 2 _:=hr.mono Zd
  have le:=RR.len
  refine⟨_,(R.ae (R.ao (i:=3) aS.nd (R.op R.bh (R.bi rfl (js:=[none]) (N:=["_law_row"]) (CompScope.by (aB cN) ["_law_deck_here","_law_rows","_law_menus_here","_law_numbers","_law_number","_law_turn","_law_name","_law_some","_law_deed_here","_law_words_here","_law_answer_here"] rfl rfl Zk) (aP rfl) (R.bj (K:=K) (R.v 1)) (fun C s₂ H₂ fp=>⟨(R.gn (i:=0) (show(["_law_row"]:List Str).Nodup by decide +kernel)),(R.bq (R.al R.ne (R.ix (R.ag (K:=K)) (R.v 0) R.ac) R.af)),(R.ix (R.ag (K:=K)) (R.v 0) R.ac)⟩)) (R.az (R.aa R.ac (R.aa R.ac R.ad))))) (R.ae (R.ao (i:=4) aS.nd (R.ix (R.av (K:=K)) (R.v 3) (R.fn cLdraw hLdraw rfl (R.aa (R.v 0) (R.aa (R.ax (R.ba (K:=K)) rfl T.b_len aO (R.aa (R.v 3) R.ad)) R.ad))))) (R.ae (R.ao (i:=5) aS.nd (R.ax (R.fq (K:=K) rfl) rfl T.b_max pP (R.aa (R.op R.bh (R.az (R.aa R.ac R.ad)) (R.bi rfl (js:=[none]) (N:=["_law_row"]) (CompScope.by (aB cN) ["_law_deck_here","_law_rows","_law_menus_here","_law_numbers","_law_number","_law_turn","_law_name","_law_some","_law_deed_here","_law_words_here","_law_answer_here"] rfl rfl Zk) (aP rfl) (R.bj (K:=K) (R.v 1)) (fun C s₂ H₂ fp=>⟨(R.gn (i:=0) (show(["_law_row"]:List Str).Nodup by decide +kernel)),(R.bq (R.al (R.bc (K:=K)) (R.ix (R.ag (K:=K)) (R.v 0) R.ac) (R.aq (R.aa R.af (R.aa R.af (R.aa R.af R.ad)))))),(R.ix (R.ag (K:=K)) (R.v 0) R.ac)⟩))) R.ad))) (R.ae (R.ao (i:=6) aS.nd (R.ix (R.av (K:=K)) (R.ix (R.av (K:=K)) (R.v 2) R.ac) (R.fn cLdraw hLdraw rfl (R.aa (R.v 0) (R.aa (R.ax (R.ba (K:=K)) rfl T.b_len aO (R.aa (R.ix (R.av (K:=K)) (R.v 2) R.ac) R.ad)) R.ad))))) (R.ae (R.ao (i:=7) aS.nd (R.az (R.aa (R.aq (R.aa R.af (R.aa (R.v 4) (R.aa (R.v 5) R.ad)))) (R.aa (R.aq (R.aa R.af (R.aa (R.v 6) (R.aa (R.op R.ay R.ac (R.fn cLdraw hLdraw rfl (R.aa (R.v 0) (R.aa R.ac R.ad)))) R.ad)))) R.ad)))) (R.ae (R.ao (i:=8) aS.nd (R.fn cLdeed hLdeed rfl (R.aa (R.v 0) (R.aa (R.ix (R.av (K:=K)) (R.v 2) R.ac) (R.aa (R.ix (R.av (K:=K)) (R.v 2) R.ac) R.ad))))) (R.ae (R.ao (i:=9) aS.nd (R.op R.bh (R.fn cLwords hLwords rfl (R.aa (R.v 8) (R.aa R.bl R.ad))) (R.fn cLwords hLwords rfl (R.aa (R.v 8) (R.aa R.bl R.ad))))) (R.ae (R.ao (i:=10) aS.nd (R.fn cLanswer hLanswer rfl (R.aa (R.v 0) (R.aa (R.v 8) (R.aa (R.ix (R.av (K:=K)) (R.v 9) R.ac) R.ad))))) (R.ae (R.ao (i:=7) aS.nd (R.op R.bh (R.v 7) (R.az (R.aa (R.aq (R.aa R.af (R.aa (R.v 4) R.ad))) (R.aa (R.aq (R.aa R.af (R.aa (R.v 4) (R.aa (R.v 5) (R.aa (R.v 10) R.ad))))) R.ad))))) (R.ae (R.ao (i:=7) aS.nd (R.op R.bh (R.v 7) (R.az (R.aa (R.fn cLkept hLkept rfl (R.aa (R.v 0) (R.aa (R.v 2) (R.aa (R.v 4) (R.aa (R.fn cLend hLend rfl (R.aa (R.v 0) (R.aa (R.op R.ay (R.v 5) R.ac) R.ad))) R.ad))))) R.ad)))) (R.ae (R.bz (R.bw (K:=K) PySem.F.plainAttrs_list PySem.F.slot_list_append PySem.F.type_list_append R.dl (R.v 7) (R.aa (R.op R.df (R.op R.df (R.aq (R.aa R.af (R.aa (R.v 4) (R.aa (R.v 5) R.ad)))) (R.fn cLspot hLspot rfl (R.aa (R.v 0) (R.aa (R.v 2) R.ad)))) (R.aq (R.aa (R.v 8) R.ad))) R.ad))) (R.ah (R.ai (R.ix (R.av (K:=K)) (R.v 7) (R.fn cLdraw hLdraw rfl (R.aa (R.v 0) (R.aa R.ac R.ad))))))))))))))))),?_⟩
  refine bK (fun σ' H'=>∃(l:Addr) (ns:List Nat),σ'=[some (.ref d),some (.ref ra),some (.ref lm),some (.ref l),none,none,none,none,none,none,none]/\H l=none/\H' l=some (.lst (nI ns))/\1<=ns.length/\ns.length<=100/\Same H H') (fun nx hnx=>?_) ?_
  ·refine⟨ra,rfl,⟨_,SqL.of RR.lst⟩,?_⟩
   refine bT (dB K ra (as.map V.ref)) (by rw[aZ];omega) (fun i ys H'=>H'=H/\∃ns:List Nat,ys=nI ns/\ns.length<=i) (fun i ys H' ⟨e0,ns,e,l'⟩=>⟨by rw[e0];exact SqL.of RR.lst,by rw[e];unfold nI;rw[aZ];exact l'⟩) ⟨rfl,[],rfl,bQ _⟩ (fun i x ys H' hx ⟨e0,ns,e,l'⟩=>?_) (fun ys H' ⟨e0,ns,e,l'⟩=>?_)
   ·subst e0;obtain⟨a1,r1,rfl,ha,hrr,hat1⟩:=RR.get hx
    obtain⟨xs,g,x0,x1,x2⟩:=bO hat1
    dsimp only [aK];refine⟨_,SqT.of g,_,x0,?_⟩
    show if (!decide (bH r1="has"))=true then _ else _
    refine aQ (fun h=>?_) (fun h=>?_)
    ·obtain⟨n,en⟩:=zT (Ce.mp (by simpa using h))
     rw[en]at x1;exact⟨_,SqT.of g,_,x1,rfl,ns++[n],by rw[e];unfold nI;rw[iB];rfl,by simp;omega⟩
    ·exact⟨rfl,ns,e,Zo⟩
   ·subst e0;intro p hp;rw[aZ]at l';refine⟨eK rfl,fun p2 hp2=>⟨_,_,aN aA hp2,aA,by rw[e];unfold nI;rw[aZ];exact fA (by simp;omega),fun p3 hp3=>?_⟩⟩
    have s1:Same H' (aI H' p (.lst ys)):=aF hp
    refine hnx _ _ ⟨p3,ns++[1,5],rfl,(s1.trans (aF hp2)).free hp3,?_,Zs,by simp;omega,(s1.trans (aF hp2)).trans (aF hp3)⟩
    rw[aA,e];unfold nI;rw[iB];rfl
  rintro σ' H1 ⟨l,ns,rfl,fl,gl,l1,l2,s1⟩
  have f1:=(Fw.refl dk).same s1
  have ld:=dk.ne fl
  have en:(nI ns).length=ns.length:=by unfold nI;rw[aZ]
  refine⟨_,.inl (SqL.of gl),d,b,(ns.length:Int),by rw[en],f1.dk,Zo,Zo,fun k H2 k0 k1 D2 e2=>?_⟩
  obtain⟨k,rfl⟩:=dF k0
  have hk:k<ns.length:=by omega
  have F2:=(Fw.refl f1.dk).draw D2 e2
  have f2:=f1.draw D2 e2
  refine⟨_,SqL.of (F2.get gl ld.1 ld.2),.int (ns[k]:Int),bJ (by unfold nI;rw[jC,gZ hk];rfl),?_⟩
  dsimp only [aK];generalize ns[k]=num;have R2:=RR.keep f2.tk (f2.get RR.lst nra.1 nra.2)
  refine bK (fun σ' H'=>∃(turn:Nat),σ'=[some (.ref d),some (.ref ra),some (.ref lm),some (.ref l),some (.int (num:Int)),some (.int (turn:Int)),none,none,none,none,none]/\turn<=1000000000000/\Fw d b H H') (fun nx hnx=>?_) ?_
  ·refine⟨eK rfl,fun p0 hp0=>?_⟩
   have s3:=aF (o:=.lst [.int 0]) hp0
   have g0:(aI H2 p0 (.lst [.int 0])) p0=some (.lst [.int 0]):=aA
   have f3:=f2.new (o:=.lst [.int 0]) hp0
   generalize aI H2 p0 (.lst [.int 0])=H3 at s3 g0 f3;have R3:=R2.same s3
   refine⟨ra,rfl,⟨_,SqL.of R3.lst⟩,?_⟩
   refine bT (dB K ra (as.map V.ref)) (by rw[aZ];omega) (fun i ys H'=>Same H3 H'/\∃ns:List Nat,ys=nI ns/\ns.length<=i/\∀n∈ns,n<=1000000000000) (fun i ys H' ⟨e0,ns,e,l',_⟩=>⟨SqL.of (e0 _ _ R3.lst),by rw[e];unfold nI;rw[aZ];exact l'⟩) ⟨Same.refl _,[],rfl,bQ _,(fun _ h=>nomatch h)⟩ (fun i x ys H' hx ⟨e0,ns,e,l',hn⟩=>?_) (fun ys H' ⟨e0,ns,e,l',hn⟩=>?_)
   ·obtain⟨a1,r1,rfl,ha,hrr,hat1⟩:=(R3.same e0).get hx
    obtain⟨xs,g,x0,x1,x2⟩:=bO hat1
    dsimp only [aK];refine⟨_,SqT.of g,_,x0,aL rfl,fun tp H4 s4 g4=>⟨tp,_,rfl,.inr (SqT.of g4),rfl,rfl,?_⟩⟩
    show if gT (.str (bH r1)) [.str "next",.str "came",.str "done"]=true then _ else _
    rw[qL];refine aQ (fun h=>?_) (fun h=>?_)
    ·have e2':=qM h
     have x2':=x2 (by rw[e2'];exact fun z=>nomatch z)
     rw[e2']at x2';refine⟨_,SqT.of (s4 _ _ g),_,x2',e0.trans s4,ns++[r1.turn],by rw[e];unfold nI;rw[iB];rfl,by simp;omega,fun n hn'=>?_⟩
     rcases aH hn' with hn' | rfl
     ·exact hn n hn'
     ·exact htn _ (jW hrr)
    ·exact⟨e0.trans s4,ns,e,Zo,hn⟩
   ·intro p hp;rw[aZ]at l';refine⟨_,_,aN (e0 _ _ g0) hp,aA,by rw[e];unfold nI;rw[aZ];exact fA (by simp;omega),fun p3 hp3=>?_⟩
    refine⟨p3,(0:Int)::(ns.map (fun n:Nat=>(n:Int))),rfl,SqL.of (by rw[aA,e];unfold nI;rw[List.map_cons,List.map_map];rfl),Zs,fun mx hmx hall=>?_⟩
    have nn:∃m:Nat,mx=m/\m<=1000000000000:=by
     rcases List.mem_cons.mp hmx with rfl | h
     ·exact⟨0,rfl,Zo⟩
     ·obtain⟨n,hn',rfl⟩:=Zmm.mp h;exact⟨n,rfl,hn n hn'⟩
    obtain⟨m,rfl,hm⟩:=nn
    exact hnx _ _ ⟨m,rfl,hm,((f3.same e0).new hp).new hp3⟩
  rintro σ' H3 ⟨turn,rfl,hturn,f3⟩
  have hMx:=hM
  obtain⟨a0,a1,a2,a3,ws,us,ps,ks,rfl,h0,h1,h2,h3,h4,mw,mu,_⟩:=hM.ex
  have nd:∀x∈[lm,a0,a1,a2,a3],x≠d/\x≠b:=fun x hx=>⟨fun z=>hd (z ▸ hx),fun z=>hb (z ▸ hx)⟩
  have nl:=nd lm Zs
  have n0:=nd a0 Zs
  have n1:=nd a1 Zs
  have w2:=mw.two
  refine⟨_,SqL.of (f3.get h0 nl.1 nl.2),_,rfl,_,SqL.of (f3.get h0 nl.1 nl.2),_,rfl,_,.inl (SqL.of (f3.get h1 n0.1 n0.2)),d,b,(ws.length:Int),by rw[aZ],f3.dk,Zo,by have:=mw.six;omega,fun k H4 k0 k1 D4 e4=>?_⟩
  have F4:=(Fw.refl f3.dk).draw D4 e4
  have f4:=f3.trans F4
  obtain⟨i,hi,rfl,ei⟩:=fK k0 k1
  refine⟨_,SqL.of (f4.get h1 n0.1 n0.2),_,ei,?_⟩
  dsimp only [aK];generalize ws[i]=nm;refine⟨aL rfl,fun tn H5 s5 g5=>⟨d,b,9,rfl,f4.dk.same s5,Zd,Zd,fun k9 H6 k90 k91 D6 e6=>⟨aL rfl,fun th H7 s7 g7=>⟨eK rfl,fun ls hls=>?_⟩⟩⟩⟩
  obtain⟨k9,rfl⟩:=dF k90
  have f7:=((f4.same s5).draw D6 e6).same s7
  have F57:=((Fw.refl (f4.dk.same s5)).draw D6 e6).same s7
  have f8:=f7.new (o:=.lst [.ref tn,.ref th]) hls
  have fls:=f7.free hls
  have lsd:=dk.ne fls
  have R8:RxsAt (aI H7 ls (.lst [.ref tn,.ref th])) ls [.next num turn,.has nm (1+k9)] [tn,th]:=by
   refine⟨aA,.cons (aN (F57.tup g5) hls) (.cons ?_ .nil)⟩
   have:=aN (u:=.lst [.ref tn,.ref th]) g7 hls
   show _=some (HO.tup [V.str "has",.str nm,.int ((1+k9:Nat):Int)])
   rw[this,show((1+k9:Nat):Int)=1+(k9:Int) by omega]
  dsimp only [aK];generalize aI H7 ls (.lst [.ref tn,.ref th])=H8 at f8 R8;refine⟨_,SqL.of (f8.get h0 nl.1 nl.2),_,rfl,_,SqL.of (f8.get h0 nl.1 nl.2),_,rfl,d,b,a0,a1,ws,us,rfl,f8.dk,f8.get h1 n0.1 n0.2,f8.get h2 n1.1 n1.2,⟨n0.1,n0.2,n1.1,n1.2⟩,mw,mu,fun td x H9 hx gx F9=>?_⟩
  have f9:=f8.trans F9
  have R9:=R8.keep F9.tk (F9.get R8.lst lsd.1 lsd.2)
  dsimp only [aK];refine bK (fun σ' H'=>∃(l3:Addr),σ'=[some (.ref d),some (.ref ra),some (.ref lm),some (.ref l),some (.int (num:Int)),some (.int (turn:Int)),some (.str nm),some (.ref ls),some (.ref td),some (.ref l3),none]/\H l3=none/\H' l3=some (.lst ((gB x false++gB x true).map V.str))/\Same H9 H') (fun nx hnx=>?_) ?_
  ·refine⟨td,x,false,rfl,gx,fun l1 H3 n1 g1 s1=>⟨td,x,true,rfl,s1 _ _ gx,fun l2 H4 n2 g2 s2=>⟨_,_,s2 _ _ g1,g2,?_,fun l3 hl3=>?_⟩⟩⟩
   ·have:=hZ x
    rw[kM]at this;rw[aZ,aZ];exact fA Zo
   ·exact hnx _ _ ⟨l3,rfl,(f9.same (s1.trans s2)).free hl3,by rw[aA,iB],(s1.trans s2).trans (aF hl3)⟩
  rintro σ' Ha ⟨l3,rfl,fl3,g3,sa⟩
  have fa:=f9.same sa
  have Ra:=R9.same sa
  have hw0:0<(gB x false++gB x true).length:=by have:=hZ x;rw[kM]at this ⊢;omega
  have hz:(gB x false++gB x true)[0]∈gW x:=by
   rcases Zma.mp (List.getElem_mem hw0) with h | h
   ·exact kH x _ _ h
   ·exact kH x _ _ h
  refine⟨_,SqL.of g3,.str (gB x false++gB x true)[0],bJ (j:=0) (by rw[jC,gZ hw0];rfl),d,b,td,x,_,rfl,fa.dk,sa _ _ gx,hx,hz,fun c y Hb hy _ gy Fb=>?_⟩
  have fb:=fa.trans Fb
  have Rb:=Ra.keep Fb.tk (Fb.get Ra.lst lsd.1 lsd.2)
  have gxb:=Fb.tup (sa _ _ gx)
  dsimp only [aK];refine⟨aL rfl,fun t1 Hc sc gc=>⟨aL rfl,fun t2 Hd sd gd=>⟨eK rfl,fun p2 hp2=>⟨_,_,aN (sd _ _ (sc _ _ Rb.lst)) hp2,aA,fA Zs,fun l4 hl4=>?_⟩⟩⟩⟩
  have s24:=(sc.trans sd).trans ((aF (o:=.lst [.ref t1,.ref t2]) hp2).trans (aF (o:=.lst ([tn,th].map V.ref++[.ref t1,.ref t2])) hl4))
  have f4':=fb.same s24
  have fl4:=(((fb.same sc).same sd).new (o:=.lst [.ref t1,.ref t2]) hp2).free hl4
  have l4d:=dk.ne fl4
  have Rc:RxsAt (aI (aI Hd p2 (.lst [.ref t1,.ref t2])) l4 (.lst ([tn,th].map V.ref++[.ref t1,.ref t2]))) l4 [.next num turn,.has nm (1+k9),.asked num,.done num turn y] [tn,th,t1,t2]:=by
   refine⟨aA,?_⟩
   have:=(Rb.same s24).each
   cases this with
   | cons i1 i2=>cases i2 with
    | cons i2 i3=>exact .cons i1 (.cons i2 (.cons (aN (aN (sd _ _ gc) hp2) hl4) (.cons ⟨c,aN (aN gd hp2) hl4,s24 _ _ gy⟩ .nil)))
  have gx4:=s24 _ _ gxb
  dsimp only [aK];generalize aI (aI Hd p2 (.lst [.ref t1,.ref t2])) l4 (.lst ([tn,th].map V.ref++[.ref t1,.ref t2]))=He at s24 f4' Rc gx4;refine⟨d,b,(turn:Int)+1,rfl,f4'.dk,Zo,Zo,fun u Hf u0 u1 Df ef=>?_⟩
  obtain⟨u,rfl⟩:=dF u0
  have Ff:=(Fw.refl f4'.dk).draw Df ef
  refine⟨d,b,lm,_,num,u,rfl,Df,(f4'.trans Ff).menus hd hb hMx,hd,hb,fun tk p k x' y' Hg hp hk hx' hy' at_ fg=>?_⟩
  have Fg:=Ff.trans fg
  have f5':=f4'.trans Fg
  have Rg:=Rc.keep Fg.tk (Fg.get Rc.lst l4d.1 l4d.2)
  refine⟨eK rfl,fun p3 hp3=>⟨_,_,aN Rg.lst hp3,aA,fA Zs,fun l5 hl5=>?_⟩⟩
  have s6:=(aF (o:=.lst [.ref tk]) hp3).trans (aF (o:=.lst ([tn,th,t1,t2].map V.ref++[.ref tk])) hl5)
  have fl5:=(f5'.new (o:=.lst [.ref tk]) hp3).free hl5
  have l5d:=dk.ne fl5
  have f6':=f5'.same s6
  have Rh:RxsAt (aI (aI Hg p3 (.lst [.ref tk])) l5 (.lst ([tn,th,t1,t2].map V.ref++[.ref tk]))) l5 ([.next num turn,.has nm (1+k9),.asked num,.done num turn y]++[.kept num u p k x' y']) ([tn,th,t1,t2]++[tk]):=by
   refine⟨aA,Paired.snoc ?_ (at_.tk s6.tk)⟩
   exact(Rg.same s6).each
  have gx5:=s6 _ _ (Fg.tup gx4)
  dsimp only [aK];generalize aI (aI Hg p3 (.lst [.ref tk])) l5 (.lst ([tn,th,t1,t2].map V.ref++[.ref tk]))=Hh at s6 f6' Rh gx5;refine⟨.inl ⟨rfl,_,SqL.of Rh.lst⟩,aL rfl,fun c1 Hi si gi=>?_⟩
  have f7':=f6'.same si
  refine⟨d,b,lm,_,rfl,f7'.dk,f7'.menus hd hb hMx,hd,hb,fun c2 p' k' Hj hp' hk' gj Fj=>?_⟩
  refine⟨_,_,Fj.tup gi,gj,Nat.le_of_ble_eq_true rfl,fun c3 Hk sk gk=>⟨aL rfl,fun c4 Hl sl gl'=>⟨_,_,sl _ _ gk,gl',Nat.le_of_ble_eq_true rfl,fun c5 Hm sm gm=>?_⟩⟩⟩
  have Fm:=(((((Fw.refl f6'.dk).same si).trans Fj).same sk).same sl).same sm
  have f8':=f6'.trans Fm
  have Rm:=Rh.keep Fm.tk (Fm.get Rh.lst l5d.1 l5d.2)
  refine⟨l5,_,_,rfl,rfl,Rm.lst,oZ (m:=1000) (Nat.le_of_ble_eq_true rfl) Zd,?_⟩
  have f9':=f8'.put (o:=.lst (([tn,th,t1,t2]++[tk]).map V.ref++[.ref c5])) fl5
  have Rn:=Rm.snoc (r:=.came num turn p' k' x) (a:=c5) (fZ (ys:=([tn,th,t1,t2]++[tk]).map V.ref++[.ref c5]) Rm.lst) (RX.At.tk (fZ Rm.lst) (show RX.At Hm c5 (.came num turn p' k' x) from⟨td,gm,Fm.tup gx5⟩)) aA
  generalize aI Hm l5 (.lst (([tn,th,t1,t2]++[tk]).map V.ref++[.ref c5]))=Hn at f9' Rn;refine⟨d,b,6,rfl,f9'.dk,Zd,Zd,fun k6 Ho k60 k61 Do eo=>?_⟩
  have Fo:=(Fw.refl f9'.dk).draw Do eo
  have Ro:=Rn.keep Fo.tk (Fo.get Rn.lst l5d.1 l5d.2)
  have fo:=f9'.trans Fo
  obtain⟨j,rfl⟩:=dF k60
  have hj:j<6:=by omega
  have hfine:∀r∈([.next num turn,.has nm (1+k9),.asked num,.done num turn y]++[.kept num u p k x' y']++[.came num turn p' k' x]:List RX),cI r:=by
   intro r hr;simp only [List.cons_append,List.nil_append,List.mem_cons,List.not_mem_nil,or_false]at hr
   rcases hr with rfl | rfl | rfl | rfl | rfl | rfl
   ·trivial
   ·show 1+k9<=1000000000000;omega
   ·trivial
   ·exact⟨x,hx,hy⟩
   ·exact⟨hx',hy'⟩
   ·exact hx
  have hv:(([tn,th,t1,t2]++[tk]++[c5]).map V.ref)[j]?=some (.ref ([tn,th,t1,t2]++[tk]++[c5])[j]):=by rw[jC,gZ (by simpa using hj)];rfl
  obtain⟨a',r',ea,_,hrr,hat⟩:=Ro.get hv
  refine⟨_,SqL.of Ro.lst,.ref a',?_,q a' r' Ho (hfine r' (jW hrr)) hat fo⟩
  rw[<- ea];exact bJ hv
end
end KL
namespace KL
open PySem L2
section
variable {P:Program} {w:World} {K:W.Frag} {mg:Str->Option Value} {base:Heap}
theorem Paired.take {α β:Type} {R:α->β->Prop}:∀ {xs:List α} {ys:List β} (k:Nat),Paired R xs ys->Paired R (xs.take k) (ys.take k)
 | _,_,0,_=>by simp only [List.take_zero];exact .nil
 | _,_,k+1,.nil=>.nil
 | _,_,k+1,.cons h t=>.cons h (Paired.take k t)
theorem Paired.drop {α β:Type} {R:α->β->Prop}:∀ {xs:List α} {ys:List β} (k:Nat),Paired R xs ys->Paired R (xs.drop k) (ys.drop k)
 | _,_,0,h=>h
 | _,_,k+1,.nil=>.nil
 | _,_,k+1,.cons h t=>Paired.drop k t
theorem Paired.app {α β:Type} {R:α->β->Prop}:∀ {xs:List α} {ys:List β} {xs':List α} {ys':List β},Paired R xs ys->Paired R xs' ys'->Paired R (xs++xs') (ys++ys')
 | _,_,_,_,.nil,h=>h
 | _,_,_,_,.cons h t,h'=>.cons h (Paired.app t h')
theorem Ma {H:Hp} {ra p:Addr} {rs:List RX} {as:List Addr} (h:RxsAt H ra rs as) (k:Nat) (g:H p=some (.lst (dO (as.map V.ref) none (some (k:Int))))):RxsAt H p (rs.take k) (as.take k):=
 ⟨by rw[g,uF,pQ],Paired.take k h.each⟩
theorem Mb {H:Hp} {ra p:Addr} {rs:List RX} {as:List Addr} (h:RxsAt H ra rs as) (k:Nat) (g:H p=some (.lst (dO (as.map V.ref) (some (k:Int)) none))):RxsAt H p (rs.drop k) (as.drop k):=
 ⟨by rw[g,uF,lK],Paired.drop k h.each⟩
theorem Rf {H:Hp} {p p' q:Addr} {rs rs':List RX} {as as':List Addr} (h:RxsAt H p rs as) (h':RxsAt H p' rs' as') (g:H q=some (.lst (as.map V.ref++as'.map V.ref))):RxsAt H q (rs++rs') (as++as'):=
 ⟨by rw[g,iB],Paired.app h.each h'.each⟩
theorem vF {H:Hp} {p a:Addr} {r:RX} (h:r.At H a) (g:H p=some (.lst [.ref a])):RxsAt H p [r] [a]:=⟨g,.cons h .nil⟩
theorem Xz {H:Hp} {ra p:Addr} {rs:List RX} {as:List Addr} (h:RxsAt H ra rs as) (hp:H p=none) (k:Nat):Same H (aI H p (.lst (dO (as.map V.ref) none (some (k:Int)))))/\RxsAt (aI H p (.lst (dO (as.map V.ref) none (some (k:Int))))) p (rs.take k) (as.take k):=⟨aF hp,Ma (h.same (aF hp)) k aA⟩
theorem Yp {H:Hp} {ra p:Addr} {rs:List RX} {as:List Addr} (h:RxsAt H ra rs as) (hp:H p=none) (k:Nat):Same H (aI H p (.lst (dO (as.map V.ref) (some (k:Int)) none)))/\RxsAt (aI H p (.lst (dO (as.map V.ref) (some (k:Int)) none))) p (rs.drop k) (as.drop k):=⟨aF hp,Mb (h.same (aF hp)) k aA⟩
theorem vG {H:Hp} {p p' l:Addr} {rs rs':List RX} {as as':List Addr} (h:RxsAt H p rs as) (h':RxsAt H p' rs' as') (hl:H l=none):Same H (aI H l (.lst (as.map V.ref++as'.map V.ref)))/\RxsAt (aI H l (.lst (as.map V.ref++as'.map V.ref))) l (rs++rs') (as++as'):=⟨aF hl,Rf (h.same (aF hl)) (h'.same (aF hl)) aA⟩
theorem vH {H H':Hp} {p p':Addr} {rs rs':List RX} {as as':List Addr} (h:RxsAt H p rs as) (h':RxsAt H' p' rs' as') (hl:rs.length+rs'.length<=200):(as.map V.ref).length+(as'.map V.ref).length<=sizeLine:=by
 have:=h.len;have:=h'.len;rw[aZ,aZ];exact fA Zo
def xN:Sp:=fun vs H Q _=>∃(d b ra lm:Addr) (M:List Addr) (rs:List RX) (as:List Addr),vs=[.ref d,.ref ra,.ref lm]/\Dk H d b/\RxsAt H ra rs as/\(ra≠d/\ra≠b)/\rs.length<=43/\(∀r∈rs,cI r)/\(∀r∈rs,r.turn<=1000000000000)/\MenusAt H lm M/\d∉M/\b∉M ∧
 ∀(la:Addr) (rs':List RX) (as':List Addr) (H':Hp),H la=none->RxsAt H' la rs' as'->(∀r∈rs',cI r)->rs'.length<=44->Fw d b H H'->Q (.ref la) H'
theorem Fn (T:Txt K mg) (cLdraw:aG P w K mg base 1 "_law_draw" ["_law_deck_here","_law_many"] bF) (cLrow_more:aG P w K mg base 5 "_law_row_more" ["_law_deck_here","_law_rows","_law_menus_here"] Ly)
  (cLrow_other:aG P w K mg base 5 "_law_row_other" ["_law_deck_here","_law_rows","_law_row","_law_menus_here"] Lx)
  (D:DefAt K mg "_law_spoilt" fT ["_law_deck_here","_law_rows","_law_menus_here"]):aG P w K mg base 6 "_law_spoilt" ["_law_deck_here","_law_rows","_law_menus_here"] xN:=by
 refine D.go cZ (fun vs H Q E h=>?_) (fun f cdv A outer s H vs Q E hr h=>?_)
 ·obtain⟨d,b,ra,lm,M,rs,as,rfl,_⟩:=h;rfl
 ·obtain⟨d,b,ra,lm,M,rs,as,rfl,dk,RR,nra,hl,hf,htn,hM,hd,hb,q⟩:=h
  have hLdraw:Room 1 _:=hr.mono Zd
  have hLrow_more:Room 5 _:=hr
  have hLrow_other:Room 5 _:=hr
  have le:=RR.len
  have ela:(as.map V.ref).length=rs.length:=by rw[aZ];omega
  refine⟨_,(R.ae (R.ao (i:=3) cZ.nd (R.fn cLdraw hLdraw rfl (R.aa (R.v 0) (R.aa R.ac R.ad)))) (R.ae (R.ao (i:=4) cZ.nd (R.fn cLdraw hLdraw rfl (R.aa (R.v 0) (R.aa (R.op R.ay (R.ax (R.ba (K:=K)) rfl T.b_len aO (R.aa (R.v 1) R.ad)) R.ac) R.ad)))) (R.ae (R.ar (R.tw (R.bo (R.al R.lt (R.v 3) R.ac) (R.cg (R.al R.eq (R.v 4) (R.ax (R.ba (K:=K)) rfl T.b_len aO (R.aa (R.v 1) R.ad)))))) (R.ah (R.ai (R.op R.bh (R.op R.bh (R.sl (R.br (K:=K)) (R.v 1) R.pn (R.ps (R.v 4))) (R.az (R.aa (R.fn cLrow_more hLrow_more rfl (R.aa (R.v 0) (R.aa (R.v 1) (R.aa (R.v 2) R.ad)))) R.ad))) (R.sl (R.br (K:=K)) (R.v 1) (R.ps (R.v 4)) R.pn)))) R.au) (R.ae (R.ar (R.al R.eq (R.v 3) R.ac) (R.ah (R.ai (R.op R.bh (R.sl (R.br (K:=K)) (R.v 1) R.pn (R.ps (R.op R.ay (R.v 4) R.ac))) (R.sl (R.br (K:=K)) (R.v 1) (R.ps (R.v 4)) R.pn)))) R.au) (R.ae (R.ar (R.al R.eq (R.v 3) R.ac) (R.ah (R.ai (R.op R.bh (R.sl (R.br (K:=K)) (R.v 1) R.pn (R.ps (R.v 4))) (R.sl (R.br (K:=K)) (R.v 1) (R.ps (R.op R.ay (R.v 4) R.ac)) R.pn)))) R.au) (R.ae (R.ar (R.al R.eq (R.v 3) R.ac) (R.ae (R.ao (i:=5) cZ.nd (R.op R.bh (R.sl (R.br (K:=K)) (R.v 1) R.pn (R.ps (R.v 4))) (R.sl (R.br (K:=K)) (R.v 1) (R.ps (R.op R.ay (R.v 4) R.ac)) R.pn))) (R.ae (R.ao (i:=6) cZ.nd (R.fn cLdraw hLdraw rfl (R.aa (R.v 0) (R.aa (R.op R.ay (R.ax (R.ba (K:=K)) rfl T.b_len aO (R.aa (R.v 5) R.ad)) R.ac) R.ad)))) (R.ah (R.ai (R.op R.bh (R.op R.bh (R.sl (R.br (K:=K)) (R.v 5) R.pn (R.ps (R.v 6))) (R.az (R.aa (R.ix (R.av (K:=K)) (R.v 1) (R.v 4)) R.ad))) (R.sl (R.br (K:=K)) (R.v 5) (R.ps (R.v 6)) R.pn)))))) R.au) (R.ae (R.ao (i:=7) cZ.nd (R.fn cLrow_other hLrow_other rfl (R.aa (R.v 0) (R.aa (R.v 1) (R.aa (R.ix (R.av (K:=K)) (R.v 1) (R.v 4)) (R.aa (R.v 2) R.ad)))))) (R.ah (R.ai (R.op R.bh (R.op R.bh (R.sl (R.br (K:=K)) (R.v 1) R.pn (R.ps (R.v 4))) (R.az (R.aa (R.v 7) R.ad))) (R.sl (R.br (K:=K)) (R.v 1) (R.ps (R.op R.ay (R.v 4) R.ac)) R.pn))))))))))),?_⟩
  refine⟨d,b,8,rfl,dk,Zd,Zd,fun way H1 w0 w1 D1 e1=>?_⟩
  obtain⟨way,rfl⟩:=dF w0
  have f1:=(Fw.refl dk).draw D1 e1
  have R1:=RR.keep f1.tk (f1.get RR.lst nra.1 nra.2)
  dsimp only [aK];refine⟨_,.inl (SqL.of R1.lst),d,b,(rs.length:Int)+1,by rw[ela],f1.dk,Zo,Zo,fun k H2 k0 k1 D2 e2=>?_⟩
  obtain⟨k,rfl⟩:=dF k0
  have hk:k<=rs.length:=by omega
  have f2:=f1.draw D2 e2
  have R2:=RR.keep f2.tk (f2.get RR.lst nra.1 nra.2)
  dsimp only [aK];have szr:∀ {n m:Nat},n<=44->m<=44->n+m<=sizeLine:=fun h1 h2=>fA Zo
  have clen:∀lo hi,(dO (as.map V.ref) lo hi).length<=43:=fun lo hi=>by have:=lH (as.map V.ref) lo hi;omega
  have mt:∀ {k:Nat} {r:RX},r∈rs.take k->cI r:=fun h=>hf _ (List.mem_of_mem_take h)
  have md:∀ {k:Nat} {r:RX},r∈rs.drop k->cI r:=fun h=>hf _ (List.mem_of_mem_drop h)
  refine jS (fun v H'=>H'=H2/\(v=false->k<rs.length)) (fun kk hkk=>?_) ?_ ?_
  ·refine aQ (fun _=>hkk _ _ ⟨rfl,(fun z=>nomatch z)⟩) (fun _=>⟨_,.inl (SqL.of R2.lst),hkk _ _ ⟨rfl,fun z=>?_⟩⟩)
   have:=of_decide_eq_false z
   rw[ela]at this;omega
  ·rintro G ⟨rfl,_⟩
   refine⟨_,SqL.of R2.lst,fun p1 fp1=>?_⟩
   obtain⟨s3,T3⟩:=Xz R2 fp1 k
   generalize aI G p1 (.lst (dO (as.map V.ref) none (some (k:Int))))=H3 at s3 T3 ⊢;have f3:=f2.same s3
   have p1d:=dk.ne (f2.free fp1)
   have R3:=R2.same s3
   refine⟨d,b,ra,lm,M,rs,as,rfl,f3.dk,R3,nra,hl,htn,f3.menus hd hb hM,hd,hb,fun a' r' H4 hr' hat' F4=>?_⟩
   have f4:=f3.trans F4
   have T4:=T3.keep F4.tk (F4.get T3.lst p1d.1 p1d.2)
   have R4:=R3.keep F4.tk (F4.get R3.lst nra.1 nra.2)
   refine⟨eK rfl,fun p2 hp2=>?_⟩
   have s5:=aF (o:=.lst [.ref a']) hp2
   have O5:=vF (hat'.tk s5.tk) (aA (H:=H4) (a:=p2) (o:=.lst [.ref a']))
   have T5:=T4.same s5
   have R5:=R4.same s5
   have f5:=f4.same s5
   generalize aI H4 p2 (.lst [.ref a'])=H5 at s5 O5 T5 R5 f5;have cz:=vH T5 O5 (by rw[jD];simp;omega)
   refine⟨_,_,(T5).lst,(O5).lst,cz,fun p3 fp3=>?_⟩
   obtain⟨s6,A6⟩:=vG T5 O5 fp3
   generalize aI _ p3 _=H6 at s6 A6 ⊢;refine⟨_,SqL.of (R5.same s6).lst,fun p4 fp4=>?_⟩
   obtain⟨s7,B7⟩:=Yp (R5.same s6) fp4 k
   generalize aI H6 p4 (.lst (dO (as.map V.ref) (some (k:Int)) none))=H7 at s7 B7 ⊢;have cz:=vH (A6.same s7) B7 (by rw[kM,jD,List.length_drop];simp;omega)
   refine⟨_,_,((A6.same s7)).lst,(B7).lst,cz,fun p5 fp5=>?_⟩
   obtain⟨s8,A8⟩:=vG (A6.same s7) B7 fp5
   generalize aI _ p5 _=H8 at s8 A8 ⊢;refine q p5 _ _ H8 (((f5.same s6).same s7).free fp5) A8 (fun r hr=>?_) (by rw[kM,kM,jD,List.length_drop];simp;omega) (((f5.same s6).same s7).same s8)
   rcases Zma.mp hr with hr | hr
   ·rcases aH hr with hr | rfl
    ·exact mt hr
    ·exact hr'
   ·exact md hr
  ·rintro G ⟨rfl,hkl⟩
   have hkl:=hkl rfl
   refine aQ (fun _=>?_) (fun _=>?_)
   ·refine⟨_,SqL.of R2.lst,fun p1 fp1=>?_⟩
    obtain⟨s3,T3⟩:=Xz R2 fp1 (k+1)
    rw[Int.natCast_add]at s3 T3;generalize aI G p1 (.lst (dO (as.map V.ref) none (some ((k:Int)+((1:Nat):Int):Int))))=H3 at s3 T3 ⊢;refine⟨_,SqL.of (R2.same s3).lst,fun p4 fp4=>?_⟩
    obtain⟨s4,B4⟩:=Yp (R2.same s3) fp4 k
    generalize aI H3 p4 (.lst (dO (as.map V.ref) (some (k:Int)) none))=H4 at s4 B4 ⊢;have cz:=vH (T3.same s4) B4 (by rw[jD,List.length_drop];omega)
    refine⟨_,_,((T3.same s4)).lst,(B4).lst,cz,fun p5 fp5=>?_⟩
    obtain⟨s5,A5⟩:=vG (T3.same s4) B4 fp5
    generalize aI _ p5 _=H5 at s5 A5 ⊢;refine q p5 _ _ H5 (((f2.same s3).same s4).free fp5) A5 (fun r hr=>?_) (by rw[kM,jD,List.length_drop];omega) (((f2.same s3).same s4).same s5)
    rcases Zma.mp hr with hr | hr
    ·exact mt hr
    ·exact md hr
   refine aQ (fun _=>?_) (fun _=>?_)
   ·refine⟨_,SqL.of R2.lst,fun p1 fp1=>?_⟩
    obtain⟨s3,T3⟩:=Xz R2 fp1 k
    generalize aI G p1 (.lst (dO (as.map V.ref) none (some (k:Int))))=H3 at s3 T3 ⊢;refine⟨_,SqL.of (R2.same s3).lst,fun p4 fp4=>?_⟩
    obtain⟨s4,B4⟩:=Yp (R2.same s3) fp4 (k+1)
    rw[Int.natCast_add]at s4 B4;generalize aI H3 p4 (.lst (dO (as.map V.ref) (some ((k:Int)+((1:Nat):Int):Int)) none))=H4 at s4 B4 ⊢;have cz:=vH (T3.same s4) B4 (by rw[jD,List.length_drop];omega)
    refine⟨_,_,((T3.same s4)).lst,(B4).lst,cz,fun p5 fp5=>?_⟩
    obtain⟨s5,A5⟩:=vG (T3.same s4) B4 fp5
    generalize aI _ p5 _=H5 at s5 A5 ⊢;refine q p5 _ _ H5 (((f2.same s3).same s4).free fp5) A5 (fun r hr=>?_) (by rw[kM,jD,List.length_drop];omega) (((f2.same s3).same s4).same s5)
    rcases Zma.mp hr with hr | hr
    ·exact mt hr
    ·exact md hr
   have hv:(as.map V.ref)[k]?=some (.ref (as[k]'Zo)):=by rw[jC,gZ Zo];rfl
   obtain⟨ak,rk,eak,_,hrk,hatk⟩:=R2.get hv
   rw[eak]at hv;have hfk:cI rk:=hf _ (jW hrk)
   refine aQ (fun _=>?_) (fun _=>?_)
   ·refine bK (fun σ' H'=>∃(p5:Addr) (rs':List RX) (as':List Addr),σ'=[some (.ref d),some (.ref ra),some (.ref lm),some (.int (way:Int)),some (.int (k:Int)),some (.ref p5),none,none]/\H p5=none/\RxsAt H' p5 rs' as'/\(∀r∈rs',cI r)/\rs'.length<=43/\Same G H') (fun nx hnx=>?_) ?_
    ·refine⟨_,SqL.of R2.lst,fun p1 fp1=>?_⟩
     obtain⟨s3,T3⟩:=Xz R2 fp1 k
     generalize aI G p1 (.lst (dO (as.map V.ref) none (some (k:Int))))=H3 at s3 T3 ⊢;refine⟨_,SqL.of (R2.same s3).lst,fun p4 fp4=>?_⟩
     obtain⟨s4,B4⟩:=Yp (R2.same s3) fp4 (k+1)
     rw[Int.natCast_add]at s4 B4;generalize aI H3 p4 (.lst (dO (as.map V.ref) (some ((k:Int)+((1:Nat):Int):Int)) none))=H4 at s4 B4 ⊢;have cz:=vH (T3.same s4) B4 (by rw[jD,List.length_drop];omega)
     refine⟨_,_,((T3.same s4)).lst,(B4).lst,cz,fun p5 fp5=>?_⟩
     obtain⟨s5,A5⟩:=vG (T3.same s4) B4 fp5
     generalize aI _ p5 _=H5 at s5 A5 ⊢;refine hnx _ _ ⟨p5,_,_,rfl,((f2.same s3).same s4).free fp5,A5,fun r hr=>?_,by rw[kM,jD,List.length_drop];omega,(s3.trans s4).trans s5⟩
     rcases Zma.mp hr with hr | hr
     ·exact mt hr
     ·exact md hr
    rintro σ' H3 ⟨p5,rs',as',rfl,fp5,T3,hf',l',s3⟩
    have f3:=f2.same s3
    have p5d:=dk.ne fp5
    have le':=T3.len
    have ela':(as'.map V.ref).length=rs'.length:=by rw[aZ];omega
    refine⟨_,.inl (SqL.of T3.lst),d,b,(rs'.length:Int)+1,by rw[ela'],f3.dk,Zo,Zo,fun j H4 j0 j1 D4 e4=>?_⟩
    obtain⟨j,rfl⟩:=dF j0
    have F4:=(Fw.refl f3.dk).draw D4 e4
    have f4:=f3.draw D4 e4
    have T4:=T3.keep F4.tk (F4.get T3.lst p5d.1 p5d.2)
    have R4:=RR.keep f4.tk (f4.get RR.lst nra.1 nra.2)
    have hat4:=hatk.tk (s3.tk.trans F4.tk)
    dsimp only [aK];refine⟨_,SqL.of T4.lst,fun p1 fp1=>?_⟩
    obtain⟨s5,T5⟩:=Xz T4 fp1 j
    generalize aI H4 p1 (.lst (dO (as'.map V.ref) none (some (j:Int))))=H5 at s5 T5 ⊢;refine⟨_,SqL.of (s5 _ _ R4.lst),.ref ak,bJ hv,eK rfl,fun p2 hp2=>?_⟩
    have s6:=aF (o:=.lst [.ref ak]) hp2
    have O6:=vF (hat4.tk (s5.trans s6).tk) (aA (H:=H5) (a:=p2) (o:=.lst [.ref ak]))
    generalize aI H5 p2 (.lst [.ref ak])=H6 at s6 O6;have cz:=vH (T5.same s6) O6 (by rw[jD];simp;omega)
    refine⟨_,_,((T5.same s6)).lst,(O6).lst,cz,fun p3 fp3=>?_⟩
    obtain⟨s7,A7⟩:=vG (T5.same s6) O6 fp3
    generalize aI _ p3 _=H7 at s7 A7 ⊢;refine⟨_,SqL.of (((T4.same s5).same s6).same s7).lst,fun p4 fp4=>?_⟩
    obtain⟨s8,B8⟩:=Yp (((T4.same s5).same s6).same s7) fp4 j
    generalize aI H7 p4 (.lst (dO (as'.map V.ref) (some (j:Int)) none))=H8 at s8 B8 ⊢;have cz:=vH (A7.same s8) B8 (by rw[kM,jD,List.length_drop];simp;omega)
    refine⟨_,_,((A7.same s8)).lst,(B8).lst,cz,fun p9 fp9=>?_⟩
    obtain⟨s9,A9⟩:=vG (A7.same s8) B8 fp9
    generalize aI _ p9 _=H9 at s9 A9 ⊢;refine q p9 _ _ H9 (((((f4.same s5).same s6).same s7).same s8).free fp9) A9 (fun r hr=>?_) (by rw[kM,kM,jD,List.length_drop];simp;omega) (((((f4.same s5).same s6).same s7).same s8).same s9)
    rcases Zma.mp hr with hr | hr
    ·rcases aH hr with hr | rfl
     ·exact hf' _ (List.mem_of_mem_take hr)
     ·exact hfk
    ·exact hf' _ (List.mem_of_mem_drop hr)
   ·refine⟨_,SqL.of R2.lst,.ref ak,bJ hv,d,b,ra,ak,lm,M,rs,as,rk,rfl,f2.dk,R2,nra,hl,hf,hatk,hfk,f2.menus hd hb hM,hd,hb,fun a' r' H4 hr' hat' F4=>?_⟩
    have f4:=f2.trans F4
    have R4:=R2.keep F4.tk (F4.get R2.lst nra.1 nra.2)
    dsimp only [aK];refine⟨_,SqL.of R4.lst,fun p1 fp1=>?_⟩
    obtain⟨s5,T5⟩:=Xz R4 fp1 k
    generalize aI H4 p1 (.lst (dO (as.map V.ref) none (some (k:Int))))=H5 at s5 T5 ⊢;refine⟨eK rfl,fun p2 hp2=>?_⟩
    have s6:=aF (o:=.lst [.ref a']) hp2
    have O6:=vF (hat'.tk (s5.trans s6).tk) (aA (H:=H5) (a:=p2) (o:=.lst [.ref a']))
    generalize aI H5 p2 (.lst [.ref a'])=H6 at s6 O6;have cz:=vH (T5.same s6) O6 (by rw[jD];simp;omega)
    refine⟨_,_,((T5.same s6)).lst,(O6).lst,cz,fun p3 fp3=>?_⟩
    obtain⟨s7,A7⟩:=vG (T5.same s6) O6 fp3
    generalize aI _ p3 _=H7 at s7 A7 ⊢;refine⟨_,SqL.of (((R4.same s5).same s6).same s7).lst,fun p4 fp4=>?_⟩
    obtain⟨s8,B8⟩:=Yp (((R4.same s5).same s6).same s7) fp4 (k+1)
    rw[Int.natCast_add]at s8 B8;generalize aI H7 p4 (.lst (dO (as.map V.ref) (some ((k:Int)+((1:Nat):Int):Int)) none))=H8 at s8 B8 ⊢;have cz:=vH (A7.same s8) B8 (by rw[kM,jD,List.length_drop];simp;omega)
    refine⟨_,_,((A7.same s8)).lst,(B8).lst,cz,fun p9 fp9=>?_⟩
    obtain⟨s9,A9⟩:=vG (A7.same s8) B8 fp9
    generalize aI _ p9 _=H9 at s9 A9 ⊢;refine q p9 _ _ H9 (((((f4.same s5).same s6).same s7).same s8).free fp9) A9 (fun r hr=>?_) (by rw[kM,kM,jD,List.length_drop];simp;omega) (((((f4.same s5).same s6).same s7).same s8).same s9)
    rcases Zma.mp hr with hr | hr
    ·rcases aH hr with hr | rfl
     ·exact mt hr
     ·exact hr'
    ·exact md hr
end
end KL
namespace KL
open PySem L2
section
variable {P:Program} {w:World} {K:W.Frag} {mg:Str->Option Value} {base:Heap}
theorem Ri {y:An} (h:qH y):(∀m,y=.is1 m->m<=1000000000000)/\(∀l m,y=.is2 l m->l<=1000000000000/\m<=1000000000000)/\(∀m,y=.full m->m<=1000000000000):=by
 obtain⟨x,hx,ho⟩:=h
 have hn:=hx.n
 refine⟨fun m e=>?_,fun l m e=>?_,fun m e=>?_⟩ <;> subst e <;> cases x <;> simp only [An.Of]at ho <;> simp only [Dd.n]at hn <;> omega
def Cg:Sp:=fun vs H Q _=>∃(t c:Addr) (x:Dd) (y:An),vs=[.ref t,.ref c]/\H t=some (.tup x.vs)/\H c=some (.tup y.vs)/\x.Ok/\qH y/\∀(fb:Bool) (H':Hp),(fb=true↔An.Of x y)->Same H H'->Q (.bl fb) H'
theorem Mc (T:Txt K mg) (D:DefAt K mg "_law_fits" iR ["_law_deed_here","_law_answer_here"]):aG P w K mg base 1 "_law_fits" ["_law_deed_here","_law_answer_here"] Cg:=by
 refine D.go jV (fun vs H Q E h=>?_) (fun f cdv A outer s H vs Q E hr h=>?_)
 ·obtain⟨t,c,x,y,rfl,_⟩:=h;rfl
 ·obtain⟨t,c,x,y,rfl,gx,gy,hx,hy,q⟩:=h
  have hn:=hx.n
  have⟨b1,b2,b3⟩:=Ri hy
  have sr:=Same.refl H
  have no:∀ {p:Prop},¬ p->((false=true)↔p):=fun h=>⟨(fun z=>nomatch z),fun z=>absurd z h⟩
  refine⟨_,(R.ae (R.ao (i:=2) jV.nd (R.ix (R.ag (K:=K)) (R.v 0) (R.bf R.ac))) (R.ae (R.ao (i:=3) jV.nd (R.ix (R.ag (K:=K)) (R.v 0) R.ac)) (R.ae (R.ar (R.al R.eq (R.ix (R.ag (K:=K)) (R.v 1) R.ac) R.af) (R.ah (R.ai (R.aw R.eq (R.v 3) R.af))) R.au) (R.ae (R.ar (R.al R.eq (R.ix (R.ag (K:=K)) (R.v 1) R.ac) R.af) (R.ah (R.ai (R.or (R.be (R.aw (R.bc (K:=K)) (R.v 3) (R.aq (R.aa R.af (R.aa R.af R.ad)))) (R.bb (R.aw R.eq (R.ix (R.ag (K:=K)) (R.v 1) R.ac) (R.ix (R.ag (K:=K)) (R.v 0) R.ac)))) (R.bb (R.be (R.aw R.eq (R.v 3) R.af) (R.bb (R.aw (R.bc (K:=K)) (R.ix (R.ag (K:=K)) (R.v 1) R.ac) (R.sl R.sT (R.v 0) (R.ps R.ac) (R.ps R.ac))))))))) R.au) (R.ae (R.ar (R.al R.eq (R.ix (R.ag (K:=K)) (R.v 1) R.ac) R.af) (R.ah (R.ai (R.be (R.aw (R.bc (K:=K)) (R.v 3) (R.aq (R.aa R.af (R.aa R.af (R.aa R.af R.ad))))) (R.bb (R.aw R.lt (R.ix (R.ag (K:=K)) (R.v 1) R.ac) (R.v 2)))))) R.au) (R.ae (R.ar (R.al R.eq (R.ix (R.ag (K:=K)) (R.v 1) R.ac) R.af) (R.ah (R.ai (R.be (R.aw (R.bc (K:=K)) (R.v 3) (R.aq (R.aa R.af (R.aa R.af (R.aa R.af R.ad))))) (R.bb (R.aw R.gt (R.ix (R.ag (K:=K)) (R.v 1) R.ac) (R.op R.bv (R.op R.cn R.ac R.ac) (R.v 2))))))) R.au) (R.ae (R.ar (R.al R.eq (R.v 3) R.af) (R.ah (R.ai (R.be (R.aw R.eq (R.ax (R.ba (K:=K)) rfl T.b_len aO (R.aa (R.v 1) R.ad)) R.ac) (R.be (R.aw R.le (R.ix (R.ag (K:=K)) (R.v 1) R.ac) (R.op R.bv (R.op R.cn R.ac R.ac) (R.v 2))) (R.bb (R.aw R.ge (R.ix (R.ag (K:=K)) (R.v 1) R.ac) (R.v 2))))))) R.au) (R.ae (R.ar (R.al (R.bc (K:=K)) (R.v 3) (R.aq (R.aa R.af (R.aa R.af R.ad)))) (R.ah (R.ai (R.be (R.aw R.eq (R.ax (R.ba (K:=K)) rfl T.b_len aO (R.aa (R.v 1) R.ad)) R.ac) (R.bb (R.aw R.ge (R.ix (R.ag (K:=K)) (R.v 1) R.ac) (R.v 2)))))) R.au) (R.ah (R.ai (R.be (R.aw (R.bc (K:=K)) (R.v 3) (R.aq (R.aa R.af (R.aa R.af R.ad)))) (R.be (R.aw R.eq (R.ax (R.ba (K:=K)) rfl T.b_len aO (R.aa (R.v 1) R.ad)) R.ac) (R.bb (R.aw R.le (R.ix (R.ag (K:=K)) (R.v 1) R.ac) (R.op R.bv (R.op R.cn R.ac R.ac) (R.v 2)))))))))))))))),?_⟩
  refine⟨_,SqT.of gx,_,aAU x,?_⟩
  dsimp only [aK];refine⟨_,SqT.of gx,_,xG x,?_⟩
  dsimp only [aK];cases y with
  | ok=>
   refine⟨_,SqT.of gy,_,rfl,?_⟩
   cases x with
   | add a n=>
    exact q false H (no id) sr
   | take a n=>
    exact q false H (no id) sr
   | move a b n=>
    exact q false H (no id) sr
   | send g a n=>
    exact q false H (no id) sr
   | fetch g a n=>
    exact q false H (no id) sr
   | pass g gg a n=>
    exact q true H ⟨fun _=>trivial,fun _=>rfl⟩ sr
  | no h=>
   refine⟨_,SqT.of gy,_,rfl,?_⟩
   refine⟨_,SqT.of gy,_,rfl,?_⟩
   cases x with
   | add a n=>
    refine⟨aL rfl,fun tp1 H1 s1 g1=>⟨tp1,_,rfl,.inr (SqT.of g1),rfl,rfl,?_⟩⟩
    exact q false H1 (no id) s1
   | take a n=>
    refine⟨aL rfl,fun tp1 H1 s1 g1=>⟨tp1,_,rfl,.inr (SqT.of g1),rfl,rfl,?_⟩⟩
    exact q false H1 (no id) s1
   | move a b n=>
    refine⟨aL rfl,fun tp1 H1 s1 g1=>⟨tp1,_,rfl,.inr (SqT.of g1),rfl,rfl,?_⟩⟩
    exact q false H1 (no id) s1
   | send g a n=>
    refine⟨aL rfl,fun tp1 H1 s1 g1=>⟨tp1,_,rfl,.inr (SqT.of g1),rfl,rfl,?_⟩⟩
    refine⟨_,SqT.of (s1 _ _ gy),_,rfl,_,SqT.of (s1 _ _ gx),_,rfl,?_⟩
    show if decide (h=g)=true then _ else _
    refine aQ (fun h1=>?_) (fun h1=>?_)
    ·have h2:h=g:=of_decide_eq_true h1
     exact q true H1 ⟨fun _=>h2,fun _=>rfl⟩ s1
    ·have h2:¬ h=g:=of_decide_eq_false h1
     exact q false H1 (no h2) s1
   | fetch g a n=>
    refine⟨aL rfl,fun tp1 H1 s1 g1=>⟨tp1,_,rfl,.inr (SqT.of g1),rfl,rfl,?_⟩⟩
    refine⟨_,SqT.of (s1 _ _ gy),_,rfl,_,SqT.of (s1 _ _ gx),_,rfl,?_⟩
    show if decide (h=g)=true then _ else _
    refine aQ (fun h1=>?_) (fun h1=>?_)
    ·have h2:h=g:=of_decide_eq_true h1
     exact q true H1 ⟨fun _=>h2,fun _=>rfl⟩ s1
    ·have h2:¬ h=g:=of_decide_eq_false h1
     exact q false H1 (no h2) s1
   | pass g gg a n=>
    refine⟨aL rfl,fun tp1 H1 s1 g1=>⟨tp1,_,rfl,.inr (SqT.of g1),rfl,rfl,?_⟩⟩
    refine⟨_,SqT.of (s1 _ _ gy),_,rfl,_,s1 _ _ gx,fun t2 H2 s2 g2=>⟨t2,_,rfl,.inr (SqT.of g2),rfl,rfl,?_⟩⟩
    refine q _ H2 ?_ (s1.trans s2)
    show gT (.str h) [.str g,.str gg]=true↔(h=g∨h=gg)
    simp [gT,qY]
    exact⟨fun z=>z.imp Eq.symm Eq.symm,fun z=>z.imp Eq.symm Eq.symm⟩
  | short m=>
   refine⟨_,SqT.of gy,_,rfl,?_⟩
   refine⟨_,SqT.of gy,_,rfl,?_⟩
   refine⟨_,SqT.of gy,_,rfl,?_⟩
   cases x with
   | add a n=>
    refine⟨aL rfl,fun tp1 H1 s1 g1=>⟨tp1,_,rfl,.inr (SqT.of g1),rfl,rfl,?_⟩⟩
    exact q false H1 (no id) s1
   | take a n=>
    refine⟨aL rfl,fun tp1 H1 s1 g1=>⟨tp1,_,rfl,.inr (SqT.of g1),rfl,rfl,?_⟩⟩
    refine⟨_,SqT.of (s1 _ _ gy),_,rfl,?_⟩
    exact q _ H1 ⟨fun z=>(by have:=of_decide_eq_true z;exact Int.ofNat_lt.mp this),fun z=>decide_eq_true (Int.ofNat_lt.mpr z)⟩ s1
   | move a b n=>
    refine⟨aL rfl,fun tp1 H1 s1 g1=>⟨tp1,_,rfl,.inr (SqT.of g1),rfl,rfl,?_⟩⟩
    refine⟨_,SqT.of (s1 _ _ gy),_,rfl,?_⟩
    exact q _ H1 ⟨fun z=>(by have:=of_decide_eq_true z;exact Int.ofNat_lt.mp this),fun z=>decide_eq_true (Int.ofNat_lt.mpr z)⟩ s1
   | send g a n=>
    refine⟨aL rfl,fun tp1 H1 s1 g1=>⟨tp1,_,rfl,.inr (SqT.of g1),rfl,rfl,?_⟩⟩
    refine⟨_,SqT.of (s1 _ _ gy),_,rfl,?_⟩
    exact q _ H1 ⟨fun z=>(by have:=of_decide_eq_true z;exact Int.ofNat_lt.mp this),fun z=>decide_eq_true (Int.ofNat_lt.mpr z)⟩ s1
   | fetch g a n=>
    refine⟨aL rfl,fun tp1 H1 s1 g1=>⟨tp1,_,rfl,.inr (SqT.of g1),rfl,rfl,?_⟩⟩
    exact q false H1 (no id) s1
   | pass g gg a n=>
    refine⟨aL rfl,fun tp1 H1 s1 g1=>⟨tp1,_,rfl,.inr (SqT.of g1),rfl,rfl,?_⟩⟩
    exact q false H1 (no id) s1
  | full m=>
   refine⟨_,SqT.of gy,_,rfl,?_⟩
   refine⟨_,SqT.of gy,_,rfl,?_⟩
   refine⟨_,SqT.of gy,_,rfl,?_⟩
   refine⟨_,SqT.of gy,_,rfl,?_⟩
   cases x with
   | add a n=>
    refine⟨aL rfl,fun tp1 H1 s1 g1=>⟨tp1,_,rfl,.inr (SqT.of g1),rfl,rfl,?_⟩⟩
    refine⟨_,SqT.of (s1 _ _ gy),_,rfl,⟨Zd,Zd,Zd⟩,?_⟩
    have hb:=b3 m rfl
    exact q _ H1 ⟨fun z=>(by have h1:(m:Int) > 1000000000000 - (n:Int):=of_decide_eq_true z;exact⟨Zo,hb⟩),fun z=>decide_eq_true (by have h1:1000000000000<m+n:=z.1;show(m:Int) > 1000000000000 - (n:Int);omega)⟩ s1
   | take a n=>
    refine⟨aL rfl,fun tp1 H1 s1 g1=>⟨tp1,_,rfl,.inr (SqT.of g1),rfl,rfl,?_⟩⟩
    exact q false H1 (no id) s1
   | move a b n=>
    refine⟨aL rfl,fun tp1 H1 s1 g1=>⟨tp1,_,rfl,.inr (SqT.of g1),rfl,rfl,?_⟩⟩
    refine⟨_,SqT.of (s1 _ _ gy),_,rfl,⟨Zd,Zd,Zd⟩,?_⟩
    have hb:=b3 m rfl
    exact q _ H1 ⟨fun z=>(by have h1:(m:Int) > 1000000000000 - (n:Int):=of_decide_eq_true z;exact⟨Zo,hb⟩),fun z=>decide_eq_true (by have h1:1000000000000<m+n:=z.1;show(m:Int) > 1000000000000 - (n:Int);omega)⟩ s1
   | send g a n=>
    refine⟨aL rfl,fun tp1 H1 s1 g1=>⟨tp1,_,rfl,.inr (SqT.of g1),rfl,rfl,?_⟩⟩
    exact q false H1 (no id) s1
   | fetch g a n=>
    refine⟨aL rfl,fun tp1 H1 s1 g1=>⟨tp1,_,rfl,.inr (SqT.of g1),rfl,rfl,?_⟩⟩
    refine⟨_,SqT.of (s1 _ _ gy),_,rfl,⟨Zd,Zd,Zd⟩,?_⟩
    have hb:=b3 m rfl
    exact q _ H1 ⟨fun z=>(by have h1:(m:Int) > 1000000000000 - (n:Int):=of_decide_eq_true z;exact⟨Zo,hb⟩),fun z=>decide_eq_true (by have h1:1000000000000<m+n:=z.1;show(m:Int) > 1000000000000 - (n:Int);omega)⟩ s1
   | pass g gg a n=>
    refine⟨aL rfl,fun tp1 H1 s1 g1=>⟨tp1,_,rfl,.inr (SqT.of g1),rfl,rfl,?_⟩⟩
    exact q false H1 (no id) s1
  | is1 m=>
   refine⟨_,SqT.of gy,_,rfl,?_⟩
   refine⟨_,SqT.of gy,_,rfl,?_⟩
   refine⟨_,SqT.of gy,_,rfl,?_⟩
   refine⟨_,SqT.of gy,_,rfl,?_⟩
   cases x with
   | add a n=>
    refine⟨aL rfl,fun tp1 H1 s1 g1=>⟨tp1,_,rfl,.inr (SqT.of g1),rfl,rfl,?_⟩⟩
    refine⟨_,.inr (SqT.of (s1 _ _ gy)),?_⟩
    have hb:=b1 m rfl
    refine⟨_,SqT.of (s1 _ _ gy),_,rfl,?_⟩
    exact q _ H1 ⟨fun z=>(by have h2:(m:Int) ≥ (n:Int):=of_decide_eq_true z;exact⟨Zo,hb⟩),fun z=>decide_eq_true (by have h2:=z.1;show(m:Int) ≥ (n:Int);omega)⟩ s1
   | take a n=>
    refine⟨aL rfl,fun tp1 H1 s1 g1=>⟨tp1,_,rfl,.inr (SqT.of g1),rfl,rfl,?_⟩⟩
    refine⟨aL rfl,fun tp2 H2 s2 g2=>⟨tp2,_,rfl,.inr (SqT.of g2),rfl,rfl,?_⟩⟩
    refine⟨_,.inr (SqT.of (s2 _ _ (s1 _ _ gy))),?_⟩
    have hn':n<=1000000000000:=hn.2
    refine⟨_,SqT.of (s2 _ _ (s1 _ _ gy)),_,rfl,⟨Zd,Zd,Zd⟩,?_⟩
    exact q _ H2 ⟨fun z=>(by have h2:(m:Int)<=1000000000000 - (n:Int):=of_decide_eq_true z;show m+n<=1000000000000;omega),fun z=>decide_eq_true (by have h2:m+n<=1000000000000:=z;show(m:Int)<=1000000000000 - (n:Int);omega)⟩ (s1.trans s2)
   | move a b n=>
    refine⟨_,.inr (SqT.of gy),?_⟩
    exact q false H (no id) sr
   | send g a n=>
    refine⟨aL rfl,fun tp1 H1 s1 g1=>⟨tp1,_,rfl,.inr (SqT.of g1),rfl,rfl,?_⟩⟩
    refine⟨aL rfl,fun tp2 H2 s2 g2=>⟨tp2,_,rfl,.inr (SqT.of g2),rfl,rfl,?_⟩⟩
    refine⟨_,.inr (SqT.of (s2 _ _ (s1 _ _ gy))),?_⟩
    have hn':n<=1000000000000:=hn.2
    refine⟨_,SqT.of (s2 _ _ (s1 _ _ gy)),_,rfl,⟨Zd,Zd,Zd⟩,?_⟩
    exact q _ H2 ⟨fun z=>(by have h2:(m:Int)<=1000000000000 - (n:Int):=of_decide_eq_true z;show m+n<=1000000000000;omega),fun z=>decide_eq_true (by have h2:m+n<=1000000000000:=z;show(m:Int)<=1000000000000 - (n:Int);omega)⟩ (s1.trans s2)
   | fetch g a n=>
    refine⟨aL rfl,fun tp1 H1 s1 g1=>⟨tp1,_,rfl,.inr (SqT.of g1),rfl,rfl,?_⟩⟩
    refine⟨_,.inr (SqT.of (s1 _ _ gy)),?_⟩
    have hb:=b1 m rfl
    refine⟨_,SqT.of (s1 _ _ gy),_,rfl,?_⟩
    exact q _ H1 ⟨fun z=>(by have h2:(m:Int) ≥ (n:Int):=of_decide_eq_true z;exact⟨Zo,hb⟩),fun z=>decide_eq_true (by have h2:=z.1;show(m:Int) ≥ (n:Int);omega)⟩ s1
   | pass g gg a n=>
    refine⟨aL rfl,fun tp1 H1 s1 g1=>⟨tp1,_,rfl,.inr (SqT.of g1),rfl,rfl,?_⟩⟩
    refine⟨aL rfl,fun tp2 H2 s2 g2=>⟨tp2,_,rfl,.inr (SqT.of g2),rfl,rfl,?_⟩⟩
    exact q false H2 (no id) (s1.trans s2)
  | is2 l m=>
   refine⟨_,SqT.of gy,_,rfl,?_⟩
   refine⟨_,SqT.of gy,_,rfl,?_⟩
   refine⟨_,SqT.of gy,_,rfl,?_⟩
   refine⟨_,SqT.of gy,_,rfl,?_⟩
   cases x with
   | add a n=>
    refine⟨aL rfl,fun tp1 H1 s1 g1=>⟨tp1,_,rfl,.inr (SqT.of g1),rfl,rfl,?_⟩⟩
    refine⟨_,.inr (SqT.of (s1 _ _ gy)),?_⟩
    exact q false H1 (no id) s1
   | take a n=>
    refine⟨aL rfl,fun tp1 H1 s1 g1=>⟨tp1,_,rfl,.inr (SqT.of g1),rfl,rfl,?_⟩⟩
    refine⟨aL rfl,fun tp2 H2 s2 g2=>⟨tp2,_,rfl,.inr (SqT.of g2),rfl,rfl,?_⟩⟩
    refine⟨_,.inr (SqT.of (s2 _ _ (s1 _ _ gy))),?_⟩
    exact q false H2 (no id) (s1.trans s2)
   | move a b n=>
    refine⟨_,.inr (SqT.of gy),?_⟩
    have hb:=b2 l m rfl
    refine⟨_,SqT.of gy,_,rfl,⟨Zd,Zd,Zd⟩,?_⟩
    show if decide ((l:Int)<=1000000000000 - (n:Int))=true then _ else _
    refine aQ (fun h1=>?_) (fun h1=>?_)
    ·have h1:=of_decide_eq_true h1
     refine⟨_,SqT.of gy,_,rfl,?_⟩
     exact q _ H ⟨fun z=>(by have h2:(m:Int) ≥ (n:Int):=of_decide_eq_true z;exact⟨Zo,Zo,hb.2⟩),fun z=>decide_eq_true (by have h2:=z.2.1;show(m:Int) ≥ (n:Int);omega)⟩ sr
    ·have h1:=of_decide_eq_false h1
     exact q false H (no fun z=>by have h2:l+n<=1000000000000:=z.1;omega) sr
   | send g a n=>
    refine⟨aL rfl,fun tp1 H1 s1 g1=>⟨tp1,_,rfl,.inr (SqT.of g1),rfl,rfl,?_⟩⟩
    refine⟨aL rfl,fun tp2 H2 s2 g2=>⟨tp2,_,rfl,.inr (SqT.of g2),rfl,rfl,?_⟩⟩
    refine⟨_,.inr (SqT.of (s2 _ _ (s1 _ _ gy))),?_⟩
    exact q false H2 (no id) (s1.trans s2)
   | fetch g a n=>
    refine⟨aL rfl,fun tp1 H1 s1 g1=>⟨tp1,_,rfl,.inr (SqT.of g1),rfl,rfl,?_⟩⟩
    refine⟨_,.inr (SqT.of (s1 _ _ gy)),?_⟩
    exact q false H1 (no id) s1
   | pass g gg a n=>
    refine⟨aL rfl,fun tp1 H1 s1 g1=>⟨tp1,_,rfl,.inr (SqT.of g1),rfl,rfl,?_⟩⟩
    refine⟨aL rfl,fun tp2 H2 s2 g2=>⟨tp2,_,rfl,.inr (SqT.of g2),rfl,rfl,?_⟩⟩
    exact q false H2 (no id) (s1.trans s2)
end
end KL
namespace KL
open PySem L2
section
variable {P:Program} {w:World} {K:W.Frag} {mg:Str->Option Value} {base:Heap}
theorem gO {K:W.Frag} {js:List (Option Nat)} {tt:TT} {te:TE} {σ:St} {H:Hp} {Q:List V->Hp->Prop} {ra:Addr} {rs:List RX} {as:List Addr} (RR:RxsAt H ra rs as) (hl:rs.length<=100) (Pp:RX->Bool) (f:RX->Addr->V)
  (ht:∀(a:Addr) (r:RX) (H':Hp) (k:Bool->Hp->Prop),r∈rs->r.At H' a->Same H H'->(∀H'',Same H' H''->k (Pp r) H'')->tt ((tZ js σ).set 0 (some (.ref a))) H' k)
  (he:∀(a:Addr) (r:RX) (H':Hp) (Q':VK),r∈rs->Pp r=true->r.At H' a->Q' (f r a) H'->te ((tZ js σ).set 0 (some (.ref a))) H' Q')
  (hd:∀(prs:List (RX × Addr)) (H':Hp),Same H H'->(∀p∈prs,p.1∈rs/\Pp p.1=true/\p.1.At H' p.2)->(∀r∈rs,Pp r=true->∃a,(r,a)∈prs)->prs.length<=rs.length->Q (prs.map fun p=>f p.1 p.2) H') :
  pM js (aK 0) tt te σ (Itl K ra) H Q:=by
 have le:=RR.len
 refine bT (dB K ra (as.map V.ref)) (by rw[aZ];omega) (fun i ys H'=>∃prs:List (RX × Addr),ys=prs.map (fun p=>f p.1 p.2)/\prs.length<=i/\(∀p∈prs,p.1∈rs/\Pp p.1=true/\p.1.At H' p.2)/\(∀r∈rs.take i,Pp r=true->∃a,(r,a)∈prs)/\Same H H')
  (fun i ys H' ⟨prs,e,l',_,_,s'⟩=>⟨SqL.of (s' _ _ RR.lst),by rw[e,aZ];exact l'⟩) ⟨[],rfl,bQ _,(fun _ h=>nomatch h),(fun _ h=>by simp at h),Same.refl _⟩ (fun i x ys H' hx ⟨prs,e,l',h1,h2,s'⟩=>?_) (fun ys H' ⟨prs,e,l',h1,h2,s'⟩=>?_)
 ·obtain⟨a,r,rfl,ha,hrr,hat⟩:=(RR.same s').get hx
  have hm:=jW hrr
  have etk:rs.take (i+1)=rs.take i++[r]:=cE hrr
  refine ht a r H' _ hm hat s' fun H'' s''=>?_
  have h1':∀p∈prs,p.1∈rs/\Pp p.1=true/\p.1.At H'' p.2:=fun p hp=>⟨(h1 p hp).1,(h1 p hp).2.1,(h1 p hp).2.2.tk s''.tk⟩
  cases hp:Pp r with
  | true=>
   refine he a r H'' _ hm hp (hat.tk s''.tk) ⟨prs++[(r,a)],by rw[e,iB];rfl,by simp;omega,fun p hp'=>?_,fun r' hr' hpr=>?_,s'.trans s''⟩
   ·rcases aH hp' with hp' | rfl
    ·exact h1' p hp'
    ·exact⟨hm,hp,hat.tk s''.tk⟩
   ·rw[etk]at hr';rcases aH hr' with hr' | rfl
    ·obtain⟨a',ha'⟩:=h2 r' hr' hpr;exact⟨a',List.mem_append_left _ ha'⟩
    ·exact⟨a,List.mem_append_right _ jI⟩
  | false=>
   refine⟨prs,e,Zo,h1',fun r' hr' hpr=>?_,s'.trans s''⟩
   rw[etk]at hr';rcases aH hr' with hr' | rfl
   ·exact h2 r' hr' hpr
   ·rw[hp]at hpr;cases hpr
 ·rw[aZ,<- le,vR (bQ _)]at h2;rw[aZ,<- le]at l';rw[e];exact hd prs H' s' h1 h2 l'
theorem iY {rs:List RX} {Pp:RX->Bool} {prs:List (RX × Addr)} {H:Hp} (h1:∀p∈prs,p.1∈rs/\Pp p.1=true/\p.1.At H p.2) (h2:∀r∈rs,Pp r=true->∃a,(r,a)∈prs):prs=[]↔∀r∈rs,Pp r=false:=by
 constructor
 ·intro e r hr;cases hp:Pp r with
  | false=>rfl
  | true=>obtain⟨a,ha⟩:=h2 r hr hp;rw[e]at ha;cases ha
 ·intro h;cases prs with
  | nil=>rfl
  | cons p prs=>have:=h1 p jI;rw[h _ this.1]at this;cases this.2.1
theorem cQ {α:Type} {l:List α} {f:α->V}:(l.map f).isEmpty=true↔l=[]:=by cases l <;> simp
theorem zW {ps:List RX} (h:RX.Whole ps) {n t:Nat} (hm:.next n t∈ps):ps[0]?=some (.next n t):=by
 obtain⟨i,hi,e⟩:=List.getElem_of_mem hm
 have e':ps[i]?=some (.next n t):=by rw[gZ hi,e]
 have:=(mE h e').2
 have h0:ps.take i=[]:=this
 have:i=0:=by
  have:=congrArg List.length h0
  rw[jD,List.length_nil]at this;omega
 subst this;exact e'
def sV:RX->Bool | .came _ _ _ _ _=>true | .asked _=>true | .done _ _ _=>true | _=>false
theorem Md (r:RX):gT (.str (bH r)) [.str "came",.str "asked",.str "done"]=sV r:=by cases r <;> rfl
theorem qN (r:RX):sV r=false↔r.rank<=2:=by cases r <;> simp [sV,RX.rank]
def Ya:RX->Bool | .next _ _=>true | .has _ _=>true | .kept _ _ _ _ _ _=>true | _=>false
def Ch:Sp:=fun vs H Q _=>∃(b la:Addr) (r:RX) (ps:List RX) (as:List Addr),vs=[.ref b,.ref la]/\r.At H b/\RxsAt H la ps as/\RX.Whole ps/\ps.length<=60/\Ya r=true/\cI r/\∀(fb:Bool) (H':Hp),(fb=true↔RX.Fits ps r)->Same H H'->Q (.bl fb) H'
theorem vI (T:Txt K mg) (D:DefAt K mg "_law_head_good" bS ["_law_row","_law_ahead"]):aG P w K mg base 1 "_law_head_good" ["_law_row","_law_ahead"] Ch:=by
 refine D.go nN (fun vs H Q E h=>?_) (fun f cdv A outer s H vs Q E hr h=>?_)
 ·obtain⟨b,la,r,ps,as,rfl,_⟩:=h;rfl
 ·obtain⟨b,la,r,ps,as,rfl,hat,RR,hw,hl,hh,hf,q⟩:=h
  have hu:=hr.units0
  have le:=RR.len
  obtain⟨xs,g,x0,x1,x2⟩:=bO hat
  refine⟨_,(R.ae (R.ar (R.al R.eq (R.ix (R.ag (K:=K)) (R.v 0) R.ac) R.af) (R.ah (R.ai (R.aw (R.dy (K:=K) hu) (R.v 1) (R.az R.ad)))) R.au) (R.ae (R.ar (R.tw (R.bo (R.al (R.dy (K:=K) hu) (R.v 1) (R.az R.ad)) (R.bo (R.al R.ne (R.ix (R.ag (K:=K)) (R.ix (R.av (K:=K)) (R.v 1) R.ac) R.ac) R.af) (R.cg (R.al (R.fk (K:=K) hu) (R.bi rfl (js:=[none]) (N:=["_law_one"]) (CompScope.by (aB bS) ["_law_row","_law_ahead"] rfl rfl Zk) (aP rfl) (R.bj (K:=K) (R.v 1)) (fun C s₂ H₂ fp=>⟨(R.gn (i:=0) (show(["_law_one"]:List Str).Nodup by decide +kernel)),(R.bq (R.al (R.bc (K:=K)) (R.ix (R.ag (K:=K)) (R.v 0) R.ac) (R.aq (R.aa R.af (R.aa R.af (R.aa R.af R.ad)))))),(R.v 0)⟩)) (R.az R.ad)))))) (R.ah (R.ai R.bl)) R.au) (R.ae (R.ar (R.al R.eq (R.ix (R.ag (K:=K)) (R.v 0) R.ac) R.af) (R.ah (R.ai (R.aw (R.dy (K:=K) hu) (R.bi rfl (js:=[none,some 0]) (N:=["_law_one","_law_row"]) (CompScope.by (aB bS) ["_law_row","_law_ahead"] rfl rfl Zk) (aP rfl) (R.bj (K:=K) (R.v 1)) (fun C s₂ H₂ fp=>⟨(R.gn (i:=0) (show(["_law_one","_law_row"]:List Str).Nodup by decide +kernel)),(R.bq (R.tw (R.bo (R.al R.eq (R.ix (R.ag (K:=K)) (R.v 0) R.ac) R.af) (R.cg (R.tw (R.bt (R.al R.eq (R.ix (R.ag (K:=K)) (R.v 0) R.ac) R.af) (R.cj (R.al R.ia (R.ix (R.ag (K:=K)) (R.v 0) R.ac) (R.ix (R.ag (K:=K)) (R.v 1) R.ac))))))))),(R.v 0)⟩)) (R.az R.ad)))) R.au) (R.ae (R.ar (R.al (R.fk (K:=K) hu) (R.bi rfl (js:=[none,some 0]) (N:=["_law_one","_law_row"]) (CompScope.by (aB bS) ["_law_row","_law_ahead"] rfl rfl Zk) (aP rfl) (R.bj (K:=K) (R.v 1)) (fun C s₂ H₂ fp=>⟨(R.gn (i:=0) (show(["_law_one","_law_row"]:List Str).Nodup by decide +kernel)),(R.bq (R.tw (R.bt (R.al R.eq (R.ix (R.ag (K:=K)) (R.v 0) R.ac) R.af) (R.cj (R.al R.ia (R.ix (R.ag (K:=K)) (R.v 0) R.ac) (R.ix (R.ag (K:=K)) (R.v 1) R.ac)))))),(R.v 0)⟩)) (R.az R.ad)) (R.ah (R.ai R.bl)) R.au) (R.ah (R.ai (R.be (R.aw R.lt (R.ix (R.ag (K:=K)) (R.v 0) R.ac) (R.ix (R.ag (K:=K)) (R.ix (R.av (K:=K)) (R.v 1) R.ac) R.ac)) (R.bb (R.aw R.le (R.ix (R.ag (K:=K)) (R.v 0) R.ac) (R.ix (R.ag (K:=K)) (R.ix (R.av (K:=K)) (R.v 1) R.ac) R.ac)))))))))),?_⟩
  refine jS (fun v H'=>H'=H/\(v=true↔∃n t,r=.next n t)) (fun kk hkk=>⟨_,SqT.of g,_,x0,hkk _ _ ⟨rfl,?_⟩⟩) ?_ ?_
  ·constructor
   ·intro h;exact lY (of_decide_eq_true h)
   ·rintro⟨n,t,rfl⟩;rfl
  ·rintro _ ⟨rfl,h⟩
   obtain⟨n,t,rfl⟩:=h.mp rfl
   refine⟨eK rfl,fun p hp=>⟨la,p,_,rfl,rfl,SqL.of (aN RR.lst hp),SqL.of aA,?_⟩⟩
   refine q _ _ ?_ (aF hp)
   show(as.map V.ref).isEmpty=true↔ps=[]
   rw[cQ];constructor
   ·intro e;rw[e]at le;exact List.eq_nil_of_length_eq_zero le
   ·intro e;rw[e]at le;exact List.eq_nil_of_length_eq_zero le.symm
  rintro G ⟨rfl,hnn⟩
  have hnn:∀n t,r≠.next n t:=fun n t e=>by have:=hnn.mpr ⟨n,t,e⟩;cases this
  dsimp only [kP];refine jS (fun v H'=>Same G H'/\(v=false->∃n t,ps[0]?=some (.next n t)/\∀q∈ps,q.rank<=2)/\(v=true->¬ ((∃n t,.next n t∈ps)/\∀q∈ps,q.rank<=2))) (fun kk hkk=>?_) ?_ ?_
  ·refine⟨eK rfl,fun p hp=>⟨la,p,_,rfl,rfl,SqL.of (aN RR.lst hp),SqL.of aA,?_⟩⟩
   have s1:=aF (o:=.lst []) hp
   generalize aI G p (.lst [])=H1 at s1 ⊢;cases hps:ps with
   | nil=>
    subst hps;have:as=[]:=List.eq_nil_of_length_eq_zero le.symm
    subst this;exact hkk _ _ ⟨s1,(fun z=>nomatch z),fun _ z=>by obtain⟨⟨n,t,hm⟩,_⟩:=z;cases hm⟩
   | cons p0 pr=>
    have hv:(as.map V.ref)[0]?=some (.ref (as[0]'(by rw[<- le,hps];simp))):=by rw[jC,gZ];rfl
    obtain⟨a0,r0,ea,_,hr0,hat0⟩:=(RR.same s1).get hv
    rw[ea]at hv;obtain⟨xs0,g0,y0,y1,y2⟩:=bO hat0
    have ne:(as.map V.ref).isEmpty=false:=by cases as with | nil=>rw[hps]at le;cases le | cons _ _=>rfl
    show if (as.map V.ref).isEmpty=true then _ else _
    rw[ne];refine⟨_,SqL.of (RR.same s1).lst,.ref a0,bJ hv,_,SqT.of g0,_,y0,?_⟩
    show if (!decide (bH r0="next"))=true then _ else _
    refine aQ (fun h=>?_) (fun h=>?_)
    ·refine hkk _ _ ⟨s1,(fun z=>nomatch z),fun _ z=>?_⟩
     obtain⟨⟨n,t,hm⟩,_⟩:=z
     have:=zW hw hm
     rw[hr0]at this;cases this
     simp [bH]at h
    ·obtain⟨n,t,rfl⟩:=lY (r:=r0) (by simpa using h)
     refine⟨la,rfl,⟨_,SqL.of (RR.same s1).lst⟩,?_⟩
     refine gO (RR.same s1) Zo sV (fun _ a=>.ref a) (fun a1 r1 H' k1 hm1 hat1 s' hk1=>?_) (fun a1 r1 H' Q' _ _ _ h'=>h') (fun prs H' s' h1 h2 l'=>?_)
     ·obtain⟨xs1,g1,z0,_,_⟩:=bO hat1
      refine⟨_,SqT.of g1,_,z0,aL rfl,fun tp H4 s4 g4=>⟨tp,_,rfl,.inr (SqT.of g4),rfl,rfl,?_⟩⟩
      have:=hk1 H4 s4
      rw[<- Md]at this;exact this
     ·intro p2 hp2;have s2:=aF (o:=.lst (prs.map fun p=>V.ref p.2)) hp2
      have g2:(aI H' p2 (.lst (prs.map fun p=>V.ref p.2))) p2=_:=aA
      generalize aI H' p2 (.lst (prs.map fun p=>V.ref p.2))=H5 at s2 g2 ⊢
      refine⟨eK rfl,fun p3 hp3=>⟨p2,p3,_,rfl,rfl,SqL.of (aN g2 hp3),SqL.of aA,?_⟩⟩
      have hpn:=iY h1 h2
      refine hkk _ _ ⟨((s1.trans s').trans s2).trans (aF hp3),fun z=>⟨n,t,hr0,fun q hq=>?_⟩,fun z zz=>?_⟩
      ·have e:(prs.map fun p=>V.ref p.2).isEmpty=true:=by simpa using z
       exact(qN q).mp (hpn.mp (cQ.mp e) q hq)
      ·have e:(prs.map fun p=>V.ref p.2).isEmpty=false:=by simpa using z
       have:=(cQ (f:=fun p:RX × Addr=>V.ref p.2)).mpr (hpn.mpr fun r hr=>(qN r).mpr (zz.2 r hr))
       rw[e]at this;cases this
  ·rintro H1 ⟨s1,_,hv⟩
   refine q false H1 ⟨(fun z=>nomatch z),fun z=>?_⟩ s1
   refine absurd ?_ (hv rfl)
   cases r with
   | next n t=>exact absurd rfl (hnn n t)
   | has z' m=>exact⟨z.2.1,fun q hq=>Nat.le_succ_of_le (z.1 q hq)⟩
   | kept n t p k x y=>exact⟨by obtain⟨n0,t0,h0,_⟩:=z.2.1;exact⟨n0,t0,h0⟩,z.1⟩
   | _=>cases hh
  rintro H1 ⟨s1,hv,_⟩
  obtain⟨n0,t0,hp0,hrk⟩:=hv rfl
  have hm0:.next n0 t0∈ps:=jW hp0
  dsimp only [kP];have R1:=RR.same s1
  have hat1:=hat.tk s1.tk
  obtain⟨ys,g',x0',x1',x2'⟩:=bO hat1
  refine jS (fun v H'=>H'=H1/\(v=true↔oG r=true)) (fun kk hkk=>⟨_,SqT.of g',_,x0',hkk _ _ ⟨rfl,?_⟩⟩) ?_ ?_
  ·cases r <;> exact Iff.rfl
  ·rintro _ ⟨rfl,hv⟩
   obtain⟨z,m,rfl⟩:∃z m,r=.has z m:=by have:=hv.mp rfl;cases r <;> first | exact⟨_,_,rfl⟩ | cases this
   refine⟨la,rfl,⟨_,SqL.of R1.lst⟩,?_⟩
   refine gO R1 Zo (fun r=>match r with | .kept _ _ _ _ _ _=>true | .has z' _=>!decide (z'.cps.toList<z.cps.toList) | _=>false) (fun _ a=>.ref a) (fun a1 r1 H' k1 hm1 hat1' s' hk1=>?_) (fun a1 r1 H' Q' _ _ _ h'=>h') (fun prs H' s' h1 h2 l'=>?_)
   ·obtain⟨xs1,g1,z0,z1,_⟩:=bO hat1'
    have hk:=hk1 H' (Same.refl _)
    refine⟨_,SqT.of g1,_,z0,?_⟩
    cases r1 with
    | kept n t p k x y=>exact hk
    | has z' m'=>exact⟨_,SqT.of g1,_,z0,_,SqT.of g1,_,z1,_,SqT.of (s' _ _ g'),_,x1',hk⟩
    | next n t=>exact⟨_,SqT.of g1,_,z0,hk⟩
    | came n t p k x=>exact⟨_,SqT.of g1,_,z0,hk⟩
    | asked n=>exact⟨_,SqT.of g1,_,z0,hk⟩
    | done n t y=>exact⟨_,SqT.of g1,_,z0,hk⟩
   ·intro p2 hp2;have s2:=aF (o:=.lst (prs.map fun p=>V.ref p.2)) hp2
    have g2:(aI H' p2 (.lst (prs.map fun p=>V.ref p.2))) p2=_:=aA
    generalize aI H' p2 (.lst (prs.map fun p=>V.ref p.2))=H5 at s2 g2 ⊢
    refine⟨eK rfl,fun p3 hp3=>⟨p2,p3,_,rfl,rfl,SqL.of (aN g2 hp3),SqL.of aA,?_⟩⟩
    have hpn:=iY h1 h2
    refine q _ _ ?_ (((s1.trans s').trans s2).trans (aF hp3))
    show(prs.map fun p=>V.ref p.2).isEmpty=true↔_
    rw[cQ,hpn];constructor
    ·intro hz;refine⟨fun q hq=>?_,⟨n0,t0,hm0⟩,fun z' m' hm'=>?_⟩
     ·have:=hz q hq
      have:=hrk q hq
      cases q <;> first | exact Nat.le_of_ble_eq_true rfl | (exact absurd this Zd) | contradiction
     ·have:=hz _ hm'
      simpa using this
    ·intro hz r1 hr1;cases r1 with
     | kept n t p k x y=>exact absurd (hz.1 _ hr1) (by show ¬ (2<=1);decide)
     | has z' m'=>have:=hz.2.2 _ _ hr1;simpa using this
     | _=>rfl
  ·rintro _ ⟨rfl,hv⟩
   obtain⟨n,t,p,k,x,y,rfl⟩:∃n t p k x y,r=.kept n t p k x y:=by
    cases r with
    | kept n t p k x y=>exact⟨_,_,_,_,_,_,rfl⟩
    | next n t=>exact absurd rfl (hnn n t)
    | has z m=>have:=hv.mpr rfl;cases this
    | _=>cases hh
   dsimp only [kP];refine jS (fun v H'=>Same G H'/\(v=false↔∀n' t' p' k' x' y',.kept n' t' p' k' x' y'∈ps->n'<n)) (fun kk hkk=>?_) ?_ ?_
   ·refine⟨la,rfl,⟨_,SqL.of R1.lst⟩,?_⟩
    refine gO R1 Zo (fun r=>match r with | .kept n' _ _ _ _ _=>decide ((n:Int)<=(n':Int)) | _=>false) (fun _ a=>.ref a) (fun a1 r1 H' k1 hm1 hat1' s' hk1=>?_) (fun a1 r1 H' Q' _ _ _ h'=>h') (fun prs H' s' h1 h2 l'=>?_)
    ·obtain⟨xs1,g1,z0,z1,_⟩:=bO hat1'
     have hk:=hk1 H' (Same.refl _)
     refine⟨_,SqT.of g1,_,z0,?_⟩
     cases r1 with
     | kept n' t' p' k' x' y'=>exact⟨_,SqT.of g1,_,z1,_,SqT.of (s' _ _ g'),_,x1',hk⟩
     | _=>exact hk
    ·intro p2 hp2;have s2:=aF (o:=.lst (prs.map fun p=>V.ref p.2)) hp2
     have g2:(aI H' p2 (.lst (prs.map fun p=>V.ref p.2))) p2=_:=aA
     generalize aI H' p2 (.lst (prs.map fun p=>V.ref p.2))=H5 at s2 g2 ⊢
     refine⟨eK rfl,fun p3 hp3=>⟨p2,p3,_,rfl,rfl,SqL.of (aN g2 hp3),SqL.of aA,?_⟩⟩
     have hpn:=iY h1 h2
     refine hkk _ _ ⟨((s1.trans s').trans s2).trans (aF hp3),?_⟩
     show(!(prs.map fun p=>V.ref p.2).isEmpty)=false↔_
     rw[Bool.not_eq_false',cQ,hpn];constructor
     ·intro hz n' t' p' k' x' y' hm';have:=of_decide_eq_false (hz _ hm')
      omega
     ·intro hz r1 hr1;cases r1 with
      | kept n' t' p' k' x' y'=>exact decide_eq_false (by have:=hz _ _ _ _ _ _ hr1;omega)
      | _=>rfl
   ·rintro H2 ⟨s2,hv⟩
    refine q false H2 ⟨(fun z=>nomatch z),fun z=>?_⟩ s2
    have:=hv.mpr z.2.2.1
    cases this
   rintro H2 ⟨s2,hv⟩
   dsimp only [kP];have hri:=hv.mp rfl
   have R2:=RR.same s2
   obtain⟨ys2,g2,w0,w1,w2⟩:=bO (hat.tk s2.tk)
   have hv0:(as.map V.ref)[0]?=some (.ref (as[0]'(by have:=(Zgs.mp hp0).1;omega))):=by rw[jC,gZ];rfl
   obtain⟨a0,r0,ea,_,hr0,hat0⟩:=R2.get hv0
   rw[hp0]at hr0;cases hr0
   rw[ea]at hv0;refine⟨_,SqT.of g2,_,w1,_,SqL.of R2.lst,.ref a0,bJ hv0,_,SqT.of hat0,_,rfl,?_⟩
   refine aQ (fun h=>?_) (fun h=>?_)
   ·refine⟨_,SqT.of g2,_,w2 (fun z=>nomatch z),_,SqL.of R2.lst,.ref a0,bJ hv0,_,SqT.of hat0,_,rfl,?_⟩
    refine q _ H2 ⟨fun z=>⟨hrk,⟨n0,t0,hm0,?_,?_⟩,hri,hf.2⟩,fun z=>?_⟩ s2
    ·have:=of_decide_eq_true h;omega
    ·have:=of_decide_eq_true z;omega
    ·obtain⟨n1,t1,hm1,h3,h4⟩:=z.2.1
     obtain⟨rfl,rfl⟩:=kJ hw hm1 hm0
     exact decide_eq_true Zo
   ·refine q false H2 ⟨(fun z=>nomatch z),fun z=>?_⟩ s2
    obtain⟨n1,t1,hm1,h3,h4⟩:=z.2.1
    obtain⟨rfl,rfl⟩:=kJ hw hm1 hm0
    exact absurd (of_decide_eq_false h) Zo
end
end KL
namespace KL
open PySem L2
section
variable {P:Program} {w:World} {K:W.Frag} {mg:Str->Option Value} {base:Heap}
def Me (ps:List RX):RX->Prop
 | .came n _ _ _ _=>(∀n' t' p' k' d',.came n' t' p' k' d'∈ps->n'<n)/\(∀t' p' k' d' y',.kept n t' p' k' d' y'∉ps)
 | .done n _ y=>(∀t y,.done n t y∉ps)/\∃t0 p k d,.came n t0 p k d∈ps/\An.Of d y/\(d.far=true->(.asked n∈ps↔y.early=false))
 | r=>RX.Fits ps r
theorem mG {ps:List RX} {r:RX}:RX.Fits ps r↔Me ps r/\(kS r=true->∀q∈ps,q.turn<=r.turn):=by
 cases r with
 | came n t p k x=>exact⟨fun h=>⟨⟨h.1,h.2.1⟩,fun _=>h.2.2⟩,fun h=>⟨h.1.1,h.1.2,h.2 rfl⟩⟩
 | done n t y=>exact⟨fun h=>⟨⟨h.2.1,h.2.2⟩,fun _=>h.1⟩,fun h=>⟨h.2 rfl,h.1.1,h.1.2⟩⟩
 | next n t=>exact⟨fun h=>⟨h,fun _ q hq=>by rw[show ps=[] from h]at hq;cases hq⟩,fun h=>h.1⟩
 | has z m=>exact⟨fun h=>⟨h,(fun z=>nomatch z)⟩,fun h=>h.1⟩
 | kept n t p k x y=>exact⟨fun h=>⟨h,(fun z=>nomatch z)⟩,fun h=>h.1⟩
 | asked n=>exact⟨fun h=>⟨h,(fun z=>nomatch z)⟩,fun h=>h.1⟩
def dA:RX->Nat | .next n _=>n | .has _ _=>0 | .kept n _ _ _ _ _=>n | .came n _ _ _ _=>n | .asked n=>n | .done n _ _=>n
theorem qO {r:RX} (h:oG r=false):Kx r=.int (dA r:Int):=by cases r <;> first | rfl | cases h
def Mf:RX->Bool | .came _ _ _ _ _=>true | .kept _ _ _ _ _ _=>true | _=>false
def Yb:RX->Bool | .came _ _ _ _ _=>true | _=>false
def Mg:RX->Bool | .asked _=>true | .done _ _ _=>true | _=>false
theorem Rj (r:RX):gT (.str (bH r)) [.str "came",.str "kept"]=Mf r:=by cases r <;> rfl
theorem Rk (r:RX):gT (.str (bH r)) [.str "asked",.str "done"]=Mg r:=by cases r <;> rfl
theorem vJ (r:RX):decide (bH r="came")=Yb r:=by cases r <;> rfl
def Ci:Sp:=fun vs H Q _=>∃(b la:Addr) (r:RX) (ps:List RX) (as:List Addr),vs=[.ref b,.ref la]/\r.At H b/\RxsAt H la ps as/\RX.Whole ps/\(∀q∈ps,cI q)/\ps.length<=60/\sV r=true/\cI r/\∀(fb:Bool) (H':Hp),(fb=true↔Me ps r)->Same H H'->Q (.bl fb) H'
theorem vK (T:Txt K mg) (cLfits:aG P w K mg base 1 "_law_fits" ["_law_deed_here","_law_answer_here"] Cg) (D:DefAt K mg "_law_body_good" bI ["_law_row","_law_ahead"]):aG P w K mg base 2 "_law_body_good" ["_law_row","_law_ahead"] Ci:=by
 refine D.go bW (fun vs H Q E h=>?_) (fun f cdv A outer s H vs Q E hr h=>?_)
 ·obtain⟨b,la,r,ps,as,rfl,_⟩:=h;rfl
 ·obtain⟨b,la,r,ps,as,rfl,hat,RR,hw,hfp,hl,hh,hf,q⟩:=h
  have hu:=hr.units0
  have hLfits:Room 1 _:=hr
  have le:=RR.len
  obtain⟨xs,g,x0,x1,x2⟩:=bO hat
  have hnh:oG r=false:=by cases r <;> first | rfl | cases hh
  rw[qO hnh]at x1;refine⟨_,(R.ae (R.ar (R.al R.eq (R.ix (R.ag (K:=K)) (R.v 0) R.ac) R.af) (R.ae (R.eh (i:=2) bW.nd rfl (Or.inl rfl) rfl (js:=[none,some 0]) (N:=["_law_one","_law_row"]) (CompScope.by (aB bI) ["_law_row","_law_ahead","_law_same","_law_came","_law_words_here","_law_deed_here","_law_far"] rfl rfl Zk) (aP rfl) (R.bj (K:=K) (R.v 1)) (fun C s₂ H₂ fp=>⟨(R.gn (i:=0) (show(["_law_one","_law_row"]:List Str).Nodup by decide +kernel)),(R.bq (R.tw (R.bt (R.al (R.bc (K:=K)) (R.ix (R.ag (K:=K)) (R.v 0) R.ac) (R.aq (R.aa R.af (R.aa R.af R.ad)))) (R.cj (R.al R.eq (R.ix (R.ag (K:=K)) (R.v 0) R.ac) (R.ix (R.ag (K:=K)) (R.v 1) R.ac)))))),(R.v 0)⟩) rfl) (R.ah (R.ai (R.be (R.aw (R.dy (K:=K) hu) (R.v 2) (R.az R.ad)) (R.bb (R.aw (R.dy (K:=K) hu) (R.bi rfl (js:=[none,some 0]) (N:=["_law_one","_law_row"]) (CompScope.by (aB bI) ["_law_row","_law_ahead","_law_same","_law_came","_law_words_here","_law_deed_here","_law_far"] rfl rfl Zk) (aP rfl) (R.bj (K:=K) (R.v 1)) (fun C s₂ H₂ fp=>⟨(R.gn (i:=0) (show(["_law_one","_law_row"]:List Str).Nodup by decide +kernel)),(R.bq (R.tw (R.bt (R.al R.eq (R.ix (R.ag (K:=K)) (R.v 0) R.ac) R.af) (R.cj (R.al R.gt (R.ix (R.ag (K:=K)) (R.v 0) R.ac) (R.ix (R.ag (K:=K)) (R.v 1) R.ac)))))),(R.v 0)⟩)) (R.az R.ad))))))) R.au) (R.ae (R.eh (i:=3) bW.nd rfl (Or.inl rfl) rfl (js:=[none,some 0]) (N:=["_law_one","_law_row"]) (CompScope.by (aB bI) ["_law_row","_law_ahead","_law_same","_law_came","_law_words_here","_law_deed_here","_law_far"] rfl rfl Zk) (aP rfl) (R.bj (K:=K) (R.v 1)) (fun C s₂ H₂ fp=>⟨(R.gn (i:=0) (show(["_law_one","_law_row"]:List Str).Nodup by decide +kernel)),(R.bq (R.tw (R.bt (R.al R.eq (R.ix (R.ag (K:=K)) (R.v 0) R.ac) R.af) (R.cj (R.al R.eq (R.ix (R.ag (K:=K)) (R.v 0) R.ac) (R.ix (R.ag (K:=K)) (R.v 1) R.ac)))))),(R.v 0)⟩) rfl) (R.ae (R.eh (i:=4) bW.nd rfl (Or.inl rfl) rfl (js:=[none,some 0]) (N:=["_law_one","_law_row"]) (CompScope.by (aB bI) ["_law_row","_law_ahead","_law_same","_law_came","_law_words_here","_law_deed_here","_law_far"] rfl rfl Zk) (aP rfl) (R.bj (K:=K) (R.v 1)) (fun C s₂ H₂ fp=>⟨(R.gn (i:=0) (show(["_law_one","_law_row"]:List Str).Nodup by decide +kernel)),(R.bq (R.tw (R.bt (R.al (R.bc (K:=K)) (R.ix (R.ag (K:=K)) (R.v 0) R.ac) (R.aq (R.aa R.af (R.aa R.af R.ad)))) (R.cj (R.al R.eq (R.ix (R.ag (K:=K)) (R.v 0) R.ac) (R.ix (R.ag (K:=K)) (R.v 1) R.ac)))))),(R.ix (R.ag (K:=K)) (R.v 0) R.ac)⟩) rfl) (R.ae (R.ar (R.tw (R.bo (R.al (R.dy (K:=K) hu) (R.v 3) (R.az R.ad)) (R.cg (R.al (R.bc (K:=K)) R.af (R.v 4))))) (R.ah (R.ai R.bl)) R.au) (R.ae (R.ao (i:=5) bW.nd (R.ix (R.ag (K:=K)) (R.ix (R.av (K:=K)) (R.v 3) R.ac) R.ac)) (R.ae (R.ao (i:=6) bW.nd (R.aw (R.bc (K:=K)) (R.ix (R.ag (K:=K)) (R.v 5) R.ac) (R.aq (R.aa R.af (R.aa R.af (R.aa R.af R.ad)))))) (R.ae (R.ar (R.al R.eq (R.ix (R.ag (K:=K)) (R.v 0) R.ac) R.af) (R.ah (R.ai (R.be (R.aw (R.dy (K:=K) hu) (R.v 4) (R.az R.ad)) (R.bb (R.v 6))))) R.au) (R.ah (R.ai (R.be (R.fn cLfits hLfits rfl (R.aa (R.v 5) (R.aa (R.ix (R.ag (K:=K)) (R.v 0) R.ac) R.ad))) (R.bb (R.or (R.ie (R.v 6)) (R.bb (R.aw R.ne (R.aw (R.bc (K:=K)) R.af (R.v 4)) (R.aw (R.bc (K:=K)) (R.ix (R.ag (K:=K)) (R.ix (R.ag (K:=K)) (R.v 0) R.ac) R.ac) (R.aq (R.aa R.af (R.aa R.af R.ad)))))))))))))))))),?_⟩
  refine jS (fun v H'=>H'=H/\v=Yb r) (fun kk hkk=>⟨_,SqT.of g,_,x0,hkk _ _ ⟨rfl,vJ r⟩⟩) ?_ ?_
  ·rintro G ⟨e,hv⟩
   obtain rfl:H=G:=e.symm
   obtain⟨n,t,p,k,x,rfl⟩:∃n t p k x,r=.came n t p k x:=by cases r <;> first | exact⟨_,_,_,_,_,rfl⟩ | cases hv
   refine bK (fun σ' H'=>∃(l:Addr) (zs:List V),σ'=[some (.ref b),some (.ref la),some (.ref l),none,none,none,none]/\H' l=some (.lst zs)/\(zs.isEmpty=true↔∀q∈ps,Mf q=true->dA q≠n)/\Same H H') (fun nx hnx=>?_) ?_
   ·refine⟨la,rfl,⟨_,SqL.of RR.lst⟩,?_⟩
    refine gO RR Zo (fun r=>Mf r&&decide ((dA r:Int)=(n:Int))) (fun _ a=>.ref a) (fun a1 r1 H' k1 hm1 hat1 s' hk1=>?_) (fun a1 r1 H' Q' _ _ _ h'=>h') (fun prs H' s' h1 h2 l'=>?_)
    ·obtain⟨xs1,g1,z0,z1,_⟩:=bO hat1
     refine⟨_,SqT.of g1,_,z0,aL rfl,fun tp H4 s4 g4=>⟨tp,_,rfl,.inr (SqT.of g4),rfl,rfl,?_⟩⟩
     have hk:=hk1 H4 s4
     show if gT (.str (bH r1)) [.str "came",.str "kept"]=true then _ else _
     rw[Rj];refine aQ (fun h=>?_) (fun h=>?_)
     ·rw[qO (by cases r1 <;> first | rfl | cases h)]at z1
      rw[h,Bool.true_and]at hk;exact⟨_,SqT.of (s4 _ _ g1),_,z1,_,SqT.of (s4 _ _ (s' _ _ g)),_,x1,hk⟩
     ·rw[h,Bool.false_and]at hk;exact hk
    ·intro p2 hp2;have hpn:=iY h1 h2
     refine hnx _ _ ⟨p2,_,rfl,aA,?_,s'.trans (aF hp2)⟩
     rw[cQ,hpn];constructor
     ·intro hz q hq hc en;have:=hz q hq
      rw[hc,Bool.true_and]at this;exact absurd (of_decide_eq_false this) Zo
     ·intro hz q hq;show(Mf q&&decide ((dA q:Int)=(n:Int)))=false
      cases hc:Mf q with
      | false=>rfl
      | true=>exact decide_eq_false (by have:=hz q hq hc;omega)
   rintro σ' H1 ⟨l,zs,rfl,gl,hz,s1⟩
   refine⟨eK rfl,fun p1 hp1=>⟨l,p1,_,rfl,rfl,SqL.of (aN gl hp1),SqL.of aA,?_⟩⟩
   have s2:=s1.trans (aF (o:=.lst []) hp1)
   generalize aI H1 p1 (.lst [])=H2 at s2 ⊢;show if zs.isEmpty=true then _ else _
   refine aQ (fun h=>?_) (fun h=>?_)
   ·have hz:=hz.mp h
    refine⟨la,rfl,⟨_,SqL.of (RR.same s2).lst⟩,?_⟩
    refine gO (RR.same s2) Zo (fun r=>Yb r&&decide ((n:Int)<(dA r:Int))) (fun _ a=>.ref a) (fun a1 r1 H' k1 hm1 hat1 s' hk1=>?_) (fun a1 r1 H' Q' _ _ _ h'=>h') (fun prs H' s' h1 h2 l'=>?_)
    ·obtain⟨xs1,g1,z0,z1,_⟩:=bO hat1
     refine⟨_,SqT.of g1,_,z0,?_⟩
     have hk:=hk1 H' (Same.refl _)
     show if decide (bH r1="came")=true then _ else _
     rw[vJ];refine aQ (fun h=>?_) (fun h=>?_)
     ·rw[qO (by cases r1 <;> first | rfl | cases h)]at z1
      rw[h,Bool.true_and]at hk;exact⟨_,SqT.of g1,_,z1,_,SqT.of (s' _ _ (s2 _ _ g)),_,x1,hk⟩
     ·rw[h,Bool.false_and]at hk;exact hk
    ·intro p2 hp2;have hpn:=iY h1 h2
     have s3:=aF (o:=.lst (prs.map fun p=>V.ref p.2)) hp2
     have g3:(aI H' p2 (.lst (prs.map fun p=>V.ref p.2))) p2=_:=aA
     generalize aI H' p2 (.lst (prs.map fun p=>V.ref p.2))=H5 at s3 g3 ⊢
     refine⟨eK rfl,fun p3 hp3=>⟨p2,p3,_,rfl,rfl,SqL.of (aN g3 hp3),SqL.of aA,?_⟩⟩
     refine q _ _ ?_ (((s2.trans s').trans s3).trans (aF hp3))
     show(prs.map fun p=>V.ref p.2).isEmpty=true↔_
     rw[cQ,hpn];constructor
     ·intro hy;refine⟨fun n' t' p' k' d' hm'=>?_,fun t' p' k' d' y' hm'=>absurd rfl (hz _ hm' rfl)⟩
      have e1:=hy _ hm'
      have e2:=hz _ hm' rfl
      have e1:=of_decide_eq_false (show decide ((n:Int)<(n':Int))=false from e1)
      have e2:n'≠n:=e2
      omega
     ·intro hy q hq;show(Yb q&&decide ((n:Int)<(dA q:Int)))=false
      cases q with
      | came n' t' p' k' d'=>exact decide_eq_false (by have:=hy.1 _ _ _ _ _ hq;show ¬ (n:Int)<(n':Int);omega)
      | _=>rfl
   ·refine q false H2 ⟨(fun z=>nomatch z),fun z=>?_⟩ s2
    have:zs.isEmpty=true:=hz.mpr fun q1 hq hc en=>by
     subst en;cases q1 with
     | came n' t' p' k' d'=>have:=z.1 _ _ _ _ _ hq;exact Nat.lt_irrefl _ this
     | kept n' t' p' k' d' y'=>exact z.2 _ _ _ _ _ hq
     | _=>cases hc
    rw[h]at this;cases this
  rintro G ⟨e,hv⟩
  obtain rfl:H=G:=e.symm
  dsimp only [kP];refine bK (fun σ' H'=>∃(l:Addr) (prs:List (RX × Addr)),σ'=[some (.ref b),some (.ref la),none,some (.ref l),none,none,none]/\H' l=some (.lst (prs.map fun p=>V.ref p.2))/\(∀p∈prs,p.1∈ps/\(Yb p.1&&decide ((dA p.1:Int)=(dA r:Int)))=true/\p.1.At H' p.2)/\(prs=[]↔∀t p k x,.came (dA r) t p k x∉ps)/\Same H H') (fun nx hnx=>?_) ?_
  ·refine⟨la,rfl,⟨_,SqL.of RR.lst⟩,?_⟩
   refine gO RR Zo (fun r1=>Yb r1&&decide ((dA r1:Int)=(dA r:Int))) (fun _ a=>.ref a) (fun a1 r1 H' k1 hm1 hat1 s' hk1=>?_) (fun a1 r1 H' Q' _ _ _ h'=>h') (fun prs H' s' h1 h2 l'=>?_)
   ·obtain⟨xs1,g1,z0,z1,_⟩:=bO hat1
    refine⟨_,SqT.of g1,_,z0,?_⟩
    have hk:=hk1 H' (Same.refl _)
    show if decide (bH r1="came")=true then _ else _
    rw[vJ];refine aQ (fun h=>?_) (fun h=>?_)
    ·rw[qO (by cases r1 <;> first | rfl | cases h)]at z1
     rw[h,Bool.true_and]at hk;exact⟨_,SqT.of g1,_,z1,_,SqT.of (s' _ _ g),_,x1,hk⟩
    ·rw[h,Bool.false_and]at hk;exact hk
   ·intro p2 hp2;have hpn:=iY h1 h2
    refine hnx _ _ ⟨p2,prs,rfl,aA,fun p hp=>⟨(h1 p hp).1,(h1 p hp).2.1,(h1 p hp).2.2.tk (aF hp2).tk⟩,?_,s'.trans (aF hp2)⟩
    rw[hpn];constructor
    ·intro hz t p k x hm;have:=hz _ hm
     exact absurd rfl (of_decide_eq_false (show decide ((dA r:Int)=(dA r:Int))=false from this))
    ·intro hz q1 hq1;show(Yb q1&&decide ((dA q1:Int)=(dA r:Int)))=false
     cases q1 with
     | came n' t' p' k' d'=>
      refine decide_eq_false fun e=>?_
      have e:(n':Int)=(dA r:Int):=e
      have e:n'=dA r:=by omega
      subst e;exact hz _ _ _ _ hq1
     | _=>rfl
  rintro σ' H1 ⟨l,prs,rfl,gl,hprs,hpn,s1⟩
  refine bK (fun σ' H'=>∃(l4:Addr) (ws:List Str),σ'=[some (.ref b),some (.ref la),none,some (.ref l),some (.ref l4),none,none]/\H' l4=some (.lst (ws.map V.str))/\(("done":Str)∈ws↔∃t y,.done (dA r) t y∈ps)/\(("asked":Str)∈ws↔.asked (dA r)∈ps)/\(ws=[]↔(.asked (dA r)∉ps/\∀t y,.done (dA r) t y∉ps))/\Same H1 H') (fun nx hnx=>?_) ?_
  ·have R1:=RR.same s1
   refine⟨la,rfl,⟨_,SqL.of R1.lst⟩,?_⟩
   refine gO R1 Zo (fun r1=>Mg r1&&decide ((dA r1:Int)=(dA r:Int))) (fun r1 _=>.str (bH r1)) (fun a1 r1 H' k1 hm1 hat1 s' hk1=>?_) (fun a1 r1 H' Q' _ _ hat1 h'=>?_) (fun prs4 H' s' h1 h2 l'=>?_)
   ·obtain⟨xs1,g1,z0,z1,_⟩:=bO hat1
    refine⟨_,SqT.of g1,_,z0,aL rfl,fun tp H4 s4 g4=>⟨tp,_,rfl,.inr (SqT.of g4),rfl,rfl,?_⟩⟩
    have hk:=hk1 H4 s4
    show if gT (.str (bH r1)) [.str "asked",.str "done"]=true then _ else _
    rw[Rk];refine aQ (fun h=>?_) (fun h=>?_)
    ·rw[qO (by cases r1 <;> first | rfl | cases h)]at z1
     rw[h,Bool.true_and]at hk;exact⟨_,SqT.of (s4 _ _ g1),_,z1,_,SqT.of (s4 _ _ (s' _ _ (s1 _ _ g))),_,x1,hk⟩
    ·rw[h,Bool.false_and]at hk;exact hk
   ·obtain⟨xs1,g1,z0,z1,_⟩:=bO hat1
    exact⟨_,SqT.of g1,_,z0,h'⟩
   ·intro p2 hp2;have hpn4:=iY h1 h2
    have hin:∀r1∈ps,Mg r1=true->dA r1=dA r->∃a,(r1,a)∈prs4:=fun r1 hr1 ha hn=>h2 r1 hr1 (by show(Mg r1&&decide ((dA r1:Int)=(dA r:Int)))=true;rw[ha,hn];simp)
    have hou:∀p∈prs4,p.1∈ps/\Mg p.1=true/\dA p.1=dA r:=fun p hp=>by
     have:=(h1 p hp).2.1
     have h3:=(Bool.and_eq_true_iff.mp this).2
     refine⟨(h1 p hp).1,(Bool.and_eq_true_iff.mp this).1,?_⟩
     have:=of_decide_eq_true h3
     omega
    refine hnx _ _ ⟨p2,prs4.map fun p=>bH p.1,rfl,by rw[aA,List.map_map];rfl,?_,?_,?_,s'.trans (aF hp2)⟩
    ·constructor
     ·intro hm;obtain⟨⟨r1,a1⟩,hp,e⟩:=Zmm.mp hm
      obtain⟨h3,h4,h5⟩:=hou _ hp
      obtain⟨n,t,y,rfl⟩:=Bv (r:=r1) e
      rw[<- show n=dA r from h5];exact⟨t,y,h3⟩
     ·rintro⟨t,y,hm⟩
      obtain⟨a1,hp⟩:=hin _ hm rfl rfl
      exact Zmm.mpr ⟨_,hp,rfl⟩
    ·constructor
     ·intro hm;obtain⟨⟨r1,a1⟩,hp,e⟩:=Zmm.mp hm
      obtain⟨h3,h4,h5⟩:=hou _ hp
      cases r1 with
      | asked n=>rw[<- show n=dA r from h5];exact h3
      | done n t y=>exact absurd (show("done":Str)="asked" from e) Zk
      | _=>cases h4
     ·intro hm;obtain⟨a1,hp⟩:=hin _ hm rfl rfl
      exact Zmm.mpr ⟨_,hp,rfl⟩
    ·rw[List.map_eq_nil_iff];constructor
     ·intro e;refine⟨fun hm=>?_,fun t y hm=>?_⟩
      ·obtain⟨a1,hp⟩:=hin _ hm rfl rfl;rw[e]at hp;cases hp
      ·obtain⟨a1,hp⟩:=hin _ hm rfl rfl;rw[e]at hp;cases hp
     ·intro hz;cases prs4 with
      | nil=>rfl
      | cons p pr=>
       obtain⟨h3,h4,h5⟩:=hou p jI
       obtain⟨r1,a1⟩:=p
       cases r1 with
       | asked n=>rw[show n=dA r from h5]at h3;exact absurd h3 hz.1
       | done n t y=>rw[show n=dA r from h5]at h3;exact absurd h3 (hz.2 _ _)
       | _=>cases h4
  rintro σ' H2 ⟨l4,ws,rfl,gl4,hdn,has,hws,s2⟩
  have s02:=s1.trans s2
  have inS:∀z:Str,gT (.str z) (ws.map V.str)=decide (z∈ws):=fun z=>by rw[Bg]
  refine jS (fun v H'=>Same H2 H'/\(v=false->prs≠[]/\∀t y,.done (dA r) t y∉ps)/\(v=true->prs=[]∨∃t y,.done (dA r) t y∈ps)) (fun kk hkk=>?_) ?_ ?_
  ·refine⟨eK rfl,fun p1 hp1=>⟨l,p1,_,rfl,rfl,SqL.of (aN (s2 _ _ gl) hp1),SqL.of aA,?_⟩⟩
   have s3:=aF (o:=.lst []) hp1
   generalize aI H2 p1 (.lst [])=H3 at s3 ⊢;show if (prs.map fun p=>V.ref p.2).isEmpty=true then _ else _
   refine aQ (fun h=>?_) (fun h=>?_)
   ·exact hkk _ _ ⟨s3,(fun z=>nomatch z),fun _=>.inl (cQ.mp h)⟩
   ·refine⟨l4,_,rfl,.inl (SqL.of (s3 _ _ gl4)),rfl,nE _,?_⟩
    refine hkk _ _ ⟨s3,fun z=>⟨fun e=>?_,fun t y hm=>?_⟩,fun z=>.inr ?_⟩
    ·have:=(cQ (f:=fun p:RX × Addr=>V.ref p.2)).mpr e;rw[h]at this;cases this
    ·have z:gT (.str "done") (ws.map V.str)=false:=z
     rw[inS]at z;exact absurd (hdn.mpr ⟨t,y,hm⟩) (of_decide_eq_false z)
    ·have z:gT (.str "done") (ws.map V.str)=true:=z
     rw[inS]at z;exact hdn.mp (of_decide_eq_true z)
  ·rintro H3 ⟨s3,_,hv3⟩
   refine q false H3 ⟨(fun z=>nomatch z),fun z=>?_⟩ (s02.trans s3)
   rcases hv3 rfl with e | ⟨t,y,hm⟩
   ·have:=hpn.mp e
    cases r with
    | asked n=>obtain⟨⟨t,p,k,d,hm,_⟩,_⟩:=z;exact absurd hm (this _ _ _ _)
    | done n t y=>obtain⟨_,t0,p,k,d,hm,_⟩:=z;exact absurd hm (this _ _ _ _)
    | came n t p k x=>cases hv
    | _=>cases hh
   ·cases r with
    | asked n=>exact absurd hm (z.2.2 _ _)
    | done n t' y'=>exact absurd hm (z.1 _ _)
    | came n t p k x=>cases hv
    | _=>cases hh
  rintro H3 ⟨s3,hv3,_⟩
  obtain⟨hpne,hnd⟩:=hv3 rfl
  dsimp only [kP];have s03:=s02.trans s3
  obtain⟨⟨r0,a0⟩,pr,rfl⟩:∃p pr,prs=p::pr:=by cases prs with | nil=>exact absurd rfl hpne | cons p pr=>exact⟨p,pr,rfl⟩
  obtain⟨hm0,hc0,hat0⟩:=hprs _ jI
  have hc1:=(Bool.and_eq_true_iff.mp hc0).1
  have hc2:=of_decide_eq_true (Bool.and_eq_true_iff.mp hc0).2
  obtain⟨n0,t0,p0,k0,x,rfl⟩:∃n t p k x,r0=.came n t p k x:=by cases r0 <;> first | exact⟨_,_,_,_,_,rfl⟩ | cases hc1
  have en:n0=dA r:=by have:(n0:Int)=(dA r:Int):=hc2;omega
  have hx:x.Ok:=hfp _ hm0
  obtain⟨bd,gr0,gd0⟩:=id hat0
  have s23:=s2.trans s3
  have gr:=s23 _ _ gr0
  have gd:=s23 _ _ gd0
  refine⟨_,SqL.of (s3 _ _ (s2 _ _ gl)),.ref a0,bJ (j:=0) rfl,_,SqT.of gr,_,rfl,?_⟩
  dsimp only [aK];refine⟨_,SqT.of gd,_,xG x,aL rfl,fun tp H4 s4 g4=>⟨tp,_,rfl,.inr (SqT.of g4),rfl,rfl,?_⟩⟩
  have efar:gT (.str x.wd) [.str "send",.str "fetch",.str "pass"]=x.far:=Bs x
  dsimp only [aK];have s04:=s03.trans s4
  obtain⟨ys,g',x0',x1',x2'⟩:=bO (hat.tk s04.tk)
  have uniq:∀ {t p k d},.came n0 t p k d∈ps->d=x:=fun hm=>by have:=fV hw hm hm0;cases this;rfl
  refine⟨_,SqT.of g',_,x0',?_⟩
  cases r with
  | asked n=>
   obtain rfl:n0=n:=en
   refine⟨eK rfl,fun p1 hp1=>⟨l4,p1,_,rfl,rfl,SqL.of (aN (s4 _ _ (s3 _ _ gl4)) hp1),SqL.of aA,?_⟩⟩
   have s5:=s04.trans (aF (o:=.lst []) hp1)
   generalize aI H4 p1 (.lst [])=H5 at s5 ⊢;show if (ws.map V.str).isEmpty=true then _ else _
   have hwe:(ws.map V.str).isEmpty=true↔ws=[]:=cQ
   refine aQ (fun h=>?_) (fun h=>?_)
   ·have hz:=hws.mp (hwe.mp h)
    refine q _ H5 ?_ s5
    show gT (.str x.wd) [.str "send",.str "fetch",.str "pass"]=true↔_
    rw[efar];exact⟨fun z=>⟨⟨t0,p0,k0,x,hm0,z⟩,hz.1,hz.2⟩,fun z=>by obtain⟨⟨t,p,k,d,hm,hfd⟩,_⟩:=z;rw[uniq hm]at hfd;exact hfd⟩
   ·refine q false H5 ⟨(fun z=>nomatch z),fun z=>?_⟩ s5
    have:=hwe.mpr (hws.mpr ⟨z.2.1,hnd⟩)
    rw[h]at this;cases this
  | done n t y=>
   obtain rfl:n0=n:=en
   obtain⟨cy,gy1,gy2⟩:=hat.tk s04.tk
   refine⟨_,SqT.of gy1,_,rfl,bd,cy,x,y,rfl,s4 _ _ gd,gy2,hx,hf,fun fb H5 hfb s5=>?_⟩
   have s05:=s04.trans s5
   show if fb=true then _ else _
   cases fb with
   | false=>
    refine q false H5 ⟨(fun z=>nomatch z),fun z=>?_⟩ s05
    obtain⟨_,t',p',k',d',hm',ho',_⟩:=z
    rw[uniq hm']at ho';exact hfb.mpr ho'
   | true=>
    have hof:=hfb.mp rfl
    show if (!gT (.str x.wd) [.str "send",.str "fetch",.str "pass"])=true then _ else _
    rw[efar];refine aQ (fun h=>?_) (fun h=>?_)
    ·have hnf:x.far=false:=by simpa using h
     refine q true H5 ⟨fun _=>⟨hnd,t0,p0,k0,x,hm0,hof,fun z=>by rw[hnf]at z;cases z⟩,fun _=>rfl⟩ s05
    ·have hfar:x.far=true:=by simpa using h
     obtain⟨u,hu0,hue⟩:=By (y:=y)
     refine⟨l4,_,rfl,.inl (SqL.of (s5 _ _ (s4 _ _ (s3 _ _ gl4)))),rfl,nE _,_,SqT.of (s5 _ _ gy1),_,rfl,_,SqT.of (s5 _ _ gy2),_,hu0,aL rfl,fun t6 H6 s6 g6=>⟨t6,_,rfl,.inr (SqT.of g6),rfl,rfl,?_⟩⟩
     have hasb:decide (("asked":Str)∈ws)=true↔.asked n0∈ps:=by rw[decide_eq_true_iff];exact has
     refine q _ H6 ?_ (s05.trans s6)
     show(!decide (gT (.str "asked") (ws.map V.str)=gT (.str u) UAW))=true↔_
     rw[inS,hue,zS hasb];constructor
     ·intro z;exact⟨hnd,t0,p0,k0,x,hm0,hof,fun _=>z⟩
     ·intro z;obtain⟨_,t',p',k',d',hm',ho',hz'⟩:=z
      rw[uniq hm']at hz';exact hz' hfar
  | came n t p k x=>cases hv
  | _=>cases hh
end
end KL
namespace KL
open PySem L2
section
variable {P:Program} {w:World} {K:W.Frag} {mg:Str->Option Value} {base:Heap}
theorem Rl (r:RX):gT (.str (bH r)) [.str "next",.str "has",.str "kept"]=Ya r:=by cases r <;> rfl
theorem Rp {r:RX} (h:Ya r=false):sV r=true:=by cases r <;> first | rfl | cases h
def Cj:Sp:=fun vs H Q _=>∃(ra:Addr) (rs:List RX) (as:List Addr),vs=[.ref ra]/\RxsAt H ra rs as/\(∀r∈rs,cI r)/\rs.length<=60/\∀(o:Option Nat) (H':Hp),qI rs o->Same H H'->Q (Fa o) H'
theorem Mh (T:Txt K mg) (cLhead_good:aG P w K mg base 1 "_law_head_good" ["_law_row","_law_ahead"] Ch) (cLbody_good:aG P w K mg base 2 "_law_body_good" ["_law_row","_law_ahead"] Ci)
  (D:DefAt K mg "_law_due" hU ["_law_rows"]):aG P w K mg base 3 "_law_due" ["_law_rows"] Cj:=by
 refine D.go dE (fun vs H Q E h=>?_) (fun f cdv A outer s H vs Q E hr h=>?_)
 ·obtain⟨ra,rs,as,rfl,_⟩:=h;rfl
 ·obtain⟨ra,rs,as,rfl,RR,hf,hl,q⟩:=h
  have hu:=hr.units0
  have hLhead_good:Room 1 _:=hr.mono Zd
  have hLbody_good:Room 2 _:=hr
  have le:=RR.len
  have ela:(as.map V.ref).length=rs.length:=by rw[aZ];omega
  refine⟨_,(R.ae (R.dh PassesOwn.never rfl (R.dw rfl T.b_range (R.aa (R.ax (R.ba (K:=K)) rfl T.b_len aO (R.aa (R.v 0) R.ad)) R.ad)) (R.gn (i:=1) dE.nd) (R.ae (R.ao (i:=2) dE.nd (R.ix (R.av (K:=K)) (R.v 0) (R.v 1))) (R.ae (R.ao (i:=3) dE.nd (R.sl (R.br (K:=K)) (R.v 0) R.pn (R.ps (R.v 1)))) (R.ae (R.ar (R.al (R.bc (K:=K)) (R.ix (R.ag (K:=K)) (R.v 2) R.ac) (R.aq (R.aa R.af (R.aa R.af (R.aa R.af R.ad))))) (R.ah (R.ao (i:=4) dE.nd (R.fn cLhead_good hLhead_good rfl (R.aa (R.v 2) (R.aa (R.v 3) R.ad))))) (R.ah (R.ao (i:=4) dE.nd (R.fn cLbody_good hLbody_good rfl (R.aa (R.v 2) (R.aa (R.v 3) R.ad)))))) (R.ae (R.eh (i:=5) dE.nd rfl (Or.inl rfl) rfl (js:=[none]) (N:=["_law_one"]) (CompScope.by (aB hU) ["_law_rows","_law_k","_law_row","_law_ahead","_law_good","_law_turns"] rfl rfl Zk) (aP rfl) (R.bj (K:=K) (R.v 3)) (fun C s₂ H₂ fp=>⟨(R.gn (i:=0) (show(["_law_one"]:List Str).Nodup by decide +kernel)),(R.bq (R.al (R.bc (K:=K)) (R.ix (R.ag (K:=K)) (R.v 0) R.ac) (R.aq (R.aa R.af (R.aa R.af (R.aa R.af R.ad)))))),(R.ix (R.ag (K:=K)) (R.v 0) R.ac)⟩) rfl) (R.ae (R.ar (R.tw (R.bt (R.al (R.bc (K:=K)) (R.ix (R.ag (K:=K)) (R.v 2) R.ac) (R.aq (R.aa R.af (R.aa R.af (R.aa R.af R.ad))))) (R.bt (R.al (R.fk (K:=K) hu) (R.v 5) (R.az R.ad)) (R.cj (R.al R.lt (R.ix (R.ag (K:=K)) (R.v 2) R.ac) (R.ax (R.fq (K:=K) rfl) rfl T.b_max pP (R.aa (R.v 5) R.ad))))))) (R.ah (R.ao (i:=4) dE.nd R.bl)) R.au) (R.ah (R.ar (R.cf (R.bn (R.v 4))) (R.ah (R.ai (R.v 1))) R.au)))))))) (R.ah (R.ai R.bu))),?_⟩
  refine bK (fun σ' H'=>RX.Whole rs/\Same H H') (fun nx hnx=>?_) ?_
  ·refine⟨_,.inl (SqL.of RR.lst),(rs.length:Int),by rw[ela],Zo,Zo,?_⟩
   refine fN (dZ 0 (rs.length:Int).toNat) (fun i σ' H'=>∃o1 o2 o3 o4 o5,σ'=[some (.ref ra),o1,o2,o3,o4,o5]/\RX.Whole (rs.take i)/\Same H H') (fun _ _ _ _=>trivial) ⟨_,_,_,_,_,rfl,.nil,Same.refl _⟩ ?_ ?_
   ·rintro k x σ' H1 hx ⟨o1,o2,o3,o4,o5,rfl,hw,s1⟩
    obtain⟨rfl,hk⟩:=lC hx
    have hk:k<rs.length:=by omega
    have hv:(as.map V.ref)[k]?=some (.ref (as[k]'Zo)):=by rw[jC,gZ];rfl
    obtain⟨a,r,ea,_,hrr,hat0⟩:=RR.get hv
    rw[ea]at hv;have hfr:cI r:=hf _ (jW hrr)
    dsimp only [aK];refine⟨_,SqL.of (s1 _ _ RR.lst),.ref a,bJ hv,?_⟩
    dsimp only [aK];refine⟨_,SqL.of (s1 _ _ RR.lst),fun p1 fp1=>?_⟩
    obtain⟨s2,T2⟩:=Xz (RR.same s1) fp1 k
    generalize aI H1 p1 (.lst (dO (as.map V.ref) none (some (k:Int))))=H2 at s2 T2 ⊢;dsimp only [aK];have s02:=s1.trans s2
    have hlt:(rs.take k).length<=60:=by rw[jD];omega
    refine bK (fun σ' H'=>∃gb:Bool,σ'=[some (.ref ra),some (.int (k:Int)),some (.ref a),some (.ref p1),some (.bl gb),o5]/\(gb=true↔Me (rs.take k) r)/\Same H2 H') (fun nx hnx=>?_) ?_
    ·obtain⟨xs,g,x0,_,_⟩:=bO (hat0.tk s02.tk)
     refine⟨_,SqT.of g,_,x0,aL rfl,fun tp H3 s3 g3=>⟨tp,_,rfl,.inr (SqT.of g3),rfl,rfl,?_⟩⟩
     show if gT (.str (bH r)) [.str "next",.str "has",.str "kept"]=true then _ else _
     rw[Rl];refine aQ (fun h=>?_) (fun h=>?_)
     ·refine⟨a,p1,r,_,_,rfl,hat0.tk (s02.trans s3).tk,T2.same s3,hw,hlt,h,hfr,fun fb H4 hfb s4=>?_⟩
      refine hnx _ _ ⟨fb,rfl,?_,s3.trans s4⟩
      rw[hfb];cases r <;> first | exact Iff.rfl | cases h
     ·refine⟨a,p1,r,_,_,rfl,hat0.tk (s02.trans s3).tk,T2.same s3,hw,fun q hq=>hf q (List.mem_of_mem_take hq),hlt,Rp h,hfr,fun fb H4 hfb s4=>?_⟩
      exact hnx _ _ ⟨fb,rfl,hfb,s3.trans s4⟩
    rintro σ' H3 ⟨gb,rfl,hgb,s3⟩
    have s03:=s02.trans s3
    have T3:=T2.same s3
    refine bK (fun σ' H'=>∃(l:Addr) (ns:List Nat),σ'=[some (.ref ra),some (.int (k:Int)),some (.ref a),some (.ref p1),some (.bl gb),some (.ref l)]/\H' l=some (.lst (nI ns))/\(∀n∈ns,∃q∈rs.take k,q.turn=n)/\(∀q∈rs.take k,kS q=true->q.turn∈ns)/\Same H3 H') (fun nx hnx=>?_) ?_
    ·refine⟨p1,rfl,⟨_,SqL.of T3.lst⟩,?_⟩
     refine gO T3 Zo kS (fun r1 _=>.int (r1.turn:Int)) (fun a1 r1 H' k1 hm1 hat1 s' hk1=>?_) (fun a1 r1 H' Q' _ hp1 hat1 h'=>?_) (fun prs H' s' h1 h2 l'=>?_)
     ·obtain⟨xs1,g1,z0,z1,_⟩:=bO hat1
      refine⟨_,SqT.of g1,_,z0,aL rfl,fun tp H4 s4 g4=>⟨tp,_,rfl,.inr (SqT.of g4),rfl,rfl,?_⟩⟩
      have hk:=hk1 H4 s4
      rw[<- qL]at hk;exact hk
     ·obtain⟨xs1,g1,z0,z1,z2⟩:=bO hat1
      have e2:=qM hp1
      have z2':=z2 (by rw[e2];exact fun z=>nomatch z)
      rw[e2]at z2';exact⟨_,SqT.of g1,_,z2',h'⟩
     ·intro p2 hp2;refine hnx _ _ ⟨p2,prs.map fun p=>p.1.turn,rfl,by rw[aA];unfold nI;rw[List.map_map];rfl,fun n hn=>?_,fun q hq ht=>?_,s'.trans (aF hp2)⟩
      ·obtain⟨p,hp,rfl⟩:=Zmm.mp hn;exact⟨p.1,(h1 p hp).1,rfl⟩
      ·obtain⟨a1,hp⟩:=h2 q hq ht;exact Zmm.mpr ⟨_,hp,rfl⟩
    rintro σ' H4 ⟨l,ns,rfl,gl,hn1,hn2,s4⟩
    have s04:=s03.trans s4
    have allT:∀t:Nat,(∀n∈ns,n<=t)↔∀q∈rs.take k,q.turn<=t:=fun t=>by
     constructor
     ·intro h q hq;cases ht:kS q with
      | true=>exact h _ (hn2 q hq ht)
      | false=>rw[Bw (by rw[ht];exact Bool.false_ne_true)];exact Nat.zero_le _
     ·intro h n hn;obtain⟨q,hq,rfl⟩:=hn1 n hn;exact h q hq
    refine bK (fun σ' H'=>∃gb':Bool,σ'=[some (.ref ra),some (.int (k:Int)),some (.ref a),some (.ref p1),some (.bl gb'),some (.ref l)]/\(gb'=true↔RX.Fits (rs.take k) r)/\Same H H') (fun nx hnx=>?_) ?_
    ·obtain⟨xs,g,x0,x1,x2⟩:=bO (hat0.tk s04.tk)
     refine⟨_,SqT.of g,_,x0,aL rfl,fun tp H5 s5 g5=>⟨tp,_,rfl,.inr (SqT.of g5),rfl,rfl,?_⟩⟩
     have s05:=s04.trans s5
     show if gT (.str (bH r)) [.str "next",.str "came",.str "done"]=true then _ else _
     rw[qL];refine aQ (fun ht=>?_) (fun ht=>?_)
     ·refine⟨eK rfl,fun p3 hp3=>⟨l,p3,_,rfl,rfl,SqL.of (aN (s5 _ _ gl) hp3),SqL.of aA,?_⟩⟩
      have s6:=s05.trans (aF (o:=.lst []) hp3)
      have gl6:=aN (u:=.lst []) (s5 _ _ gl) hp3
      have g6:=aN (u:=.lst []) (s5 _ _ g) hp3
      generalize aI H5 p3 (.lst [])=H6 at s6 gl6 g6 ⊢;have hem:(nI ns).isEmpty=true↔ns=[]:=cQ
      show if (!(nI ns).isEmpty)=true then _ else _
      refine aQ (fun he=>?_) (fun he=>?_)
      ·have e2:=qM ht
       have x2':=x2 (by rw[e2];exact fun z=>nomatch z)
       rw[e2]at x2';refine⟨_,SqT.of g6,_,x2',l,ns.map (fun n:Nat=>(n:Int)),rfl,SqL.of (by rw[gl6];unfold nI;rw[List.map_map];rfl),?_,fun mx hmx hall=>?_⟩
       ·have:ns≠[]:=fun e=>by rw[hem.mpr e]at he;cases he
        have:=List.length_pos_iff.mpr this
        simpa using this
       ·obtain⟨m,hm,rfl⟩:=Zmm.mp hmx
        have hmax:(∀n∈ns,n<=r.turn)↔m<=r.turn:=⟨fun h=>h m hm,fun h n hn=>by have:=hall _ (List.mem_map_of_mem (f:=fun n:Nat=>(n:Int)) hn);omega⟩
        refine aQ (fun h=>?_) (fun h=>?_)
        ·refine hnx _ _ ⟨false,rfl,⟨(fun z=>nomatch z),fun z=>?_⟩,s6⟩
         have h3:=(mG.mp z).2 ht
         have:=hmax.mp ((allT _).mpr h3)
         have:=of_decide_eq_true h
         omega
        ·refine hnx _ _ ⟨gb,rfl,?_,s6⟩
         rw[hgb,mG];refine⟨fun z=>⟨z,fun _=>(allT _).mp (hmax.mpr ?_)⟩,fun z=>z.1⟩
         have:=of_decide_eq_false h
         omega
      ·have hne:ns=[]:=hem.mp (by simpa using he)
       refine hnx _ _ ⟨gb,rfl,?_,s6⟩
       rw[hgb,mG];exact⟨fun z=>⟨z,fun _=>(allT _).mp (by rw[hne];exact fun _ h=>nomatch h)⟩,fun z=>z.1⟩
     ·refine hnx _ _ ⟨gb,rfl,?_,s05⟩
      rw[hgb,mG];exact⟨fun z=>⟨z,fun h=>by rw[ht]at h;cases h⟩,fun z=>z.1⟩
    rintro σ' H5 ⟨gb',rfl,hgb',s5⟩
    cases gb' with
    | false=>exact q (some k) H5 ⟨r,hrr,hw,fun z=>by have:=hgb'.mpr z;cases this⟩ s5
    | true=>exact⟨_,_,_,_,_,rfl,by rw[cE hrr];exact hw.snoc (hgb'.mp rfl),s5⟩
   ·rintro σ' H1 ⟨o1,o2,o3,o4,o5,rfl,hw,s1⟩
    rw[eJ,show(rs.length:Int).toNat=rs.length by omega,vR (bQ _)]at hw
    exact hnx _ _ ⟨hw,s1⟩
  rintro σ' H1 ⟨hw,s1⟩
  exact q none H1 hw s1
end
end KL
namespace KL
open PySem L2
section
variable {P:Program} {w:World} {K:W.Frag} {mg:Str->Option Value} {base:Heap}
def eS (f:Str->Nat) (z:Str) (v:Nat):Str->Nat:=fun y=>if y=z then v else f y
def bE (f:Str->Nat):Dd->Option An
 | .add a n=>if 1000000000000<f a+n then some (.full (f a)) else some (.is1 (f a+n))
 | .take a n=>if f a<n then some (.short (f a)) else some (.is1 (f a - n))
 | .move a b n=>if f a<n then some (.short (f a)) else if 1000000000000<f b+n then some (.full (f b)) else some (.is2 (f a - n) (f b+n))
 | .send _ a n=>if f a<n then some (.short (f a)) else none
 | .fetch _ a n=>if 1000000000000<f a+n then some (.full (f a)) else none
 | .pass _ _ _ _=>none
def cA (f:Str->Nat):Dd->List An
 | .send h a n=>[.no h,.is1 (f a - n)]
 | .fetch h a n=>[.no h,.is1 (f a+n)]
 | .pass h g _ _=>[.no h,.no g,.ok]
 | _=>[]
def after (f:Str->Nat):Dd->An->(Str->Nat)
 | .add a n,.is1 _=>eS f a (f a+n)
 | .take a n,.is1 _=>eS f a (f a - n)
 | .move a b n,.is2 _ _=>eS (eS f a (f a - n)) b (f b+n)
 | .send _ a n,.is1 _=>eS f a (f a - n)
 | .fetch _ a n,.is1 _=>eS f a (f a+n)
 | _,_=>f
def vL (f:Str->Nat) (x:Dd) (q:Bool) (y:An):Prop:=(q=false/\bE f x=some y)∨(q=true/\bE f x=none/\y∈cA f x)
def BookIs (kvs:List (bA × V)) (f:Str->Nat):Prop:=∀z:Str,(bC kvs (Sum.inr z)).getD (.int 0)=.int (f z:Int)
theorem iZ {f:Str->Nat} {z:Str} {v:Nat} (hf:∀z,f z<=1000000000000) (hv:v<=1000000000000):∀y,eS f z v y<=1000000000000:=fun y=>by
 unfold eS;split
 ·exact hv
 ·exact hf y
theorem Mi {f:Str->Nat} (hf:∀z,f z<=1000000000000) {x:Dd} {q:Bool} {y:An} (h:vL f x q y):∀z,after f x y z<=1000000000000:=by
 rcases h with⟨rfl,h⟩ | ⟨rfl,h1,h2⟩
 ·cases x with
  | add a n=>
   simp only [bE]at h
   split at h <;> cases h
   ·exact hf
   ·exact iZ hf Zo
  | take a n=>
   simp only [bE]at h
   have:=hf a
   split at h <;> cases h
   ·exact hf
   ·exact iZ hf Zo
  | move a b n=>
   simp only [bE]at h
   have:=hf a
   split at h
   ·cases h;exact hf
   ·split at h <;> cases h
    ·exact hf
    ·exact iZ (iZ hf Zo) Zo
  | send g a n=>
   simp only [bE]at h
   split at h <;> cases h
   exact hf
  | fetch g a n=>
   simp only [bE]at h
   split at h <;> cases h
   exact hf
  | pass g k a n=>cases h
 ·cases x with
  | add a n=>cases h2
  | take a n=>cases h2
  | move a b n=>cases h2
  | send g a n=>
   have:=hf a
   simp only [cA,List.mem_cons,List.not_mem_nil,or_false]at h2
   rcases h2 with rfl | rfl
   ·exact hf
   ·exact iZ hf Zo
  | fetch g a n=>
   simp only [bE]at h1
   simp only [cA,List.mem_cons,List.not_mem_nil,or_false]at h2
   have hn:¬ 1000000000000<f a+n:=by
    intro hh;rw[if_pos hh]at h1;cases h1
   rcases h2 with rfl | rfl
   ·exact hf
   ·exact iZ hf Zo
  | pass g k a n=>
   simp only [cA,List.mem_cons,List.not_mem_nil,or_false]at h2
   rcases h2 with rfl | rfl | rfl <;> exact hf
theorem BookIs.put {kvs:List (bA × V)} {f:Str->Nat} (h:BookIs kvs f) (z:Str) (v:Nat):BookIs (bN kvs (Sum.inr z) (.int (v:Int))) (eS f z v):=fun y=>by
 rw[cV];unfold eS;by_cases e:y=z
 ·rw[if_pos (by rw[e]),if_pos e];rfl
 ·rw[if_neg (fun c=>e (by injection c)),if_neg e];exact h y
def Rq:Dd->An->List (Str × Int)
 | .add a n,.is1 _=>[(a,(n:Int))]
 | .take a n,.is1 _=>[(a,-(n:Int))]
 | .move a b n,.is2 _ _=>[(a,-(n:Int)),(b,(n:Int))]
 | .send _ a n,.is1 _=>[(a,-(n:Int))]
 | .fetch _ a n,.is1 _=>[(a,(n:Int))]
 | _,_=>[]
theorem aA2 (y:An):mW y.vs 0=some (.str (uX y)):=by cases y <;> rfl
theorem aA3 {y:An} (h:uX y="is"):(∃m,y=.is1 m)∨∃l m,y=.is2 l m:=by
 cases y with
 | is1 m=>exact .inl ⟨m,rfl⟩
 | is2 l m=>exact .inr ⟨l,m,rfl⟩
 | short m=>exact absurd (show("short":Str)="is" from h) Zk
 | full m=>exact absurd (show("full":Str)="is" from h) Zk
 | no m=>exact absurd (show("no":Str)="is" from h) Zk
 | ok=>exact absurd (show("ok":Str)="is" from h) Zk
def eT (f:Str->Nat) (c:Str × Int):Str->Nat:=eS f c.1 ((f c.1:Int)+c.2).toNat
def Mj (f:Str->Nat) (cs:List (Str × Int)):Str->Nat:=cs.foldl eT f
def Ml:(Str->Nat)->List (Str × Int)->Prop
 | _,[]=>True
 | f,c::cs=>0<=(f c.1:Int)+c.2/\Ml (eT f c) cs
theorem xO {f:Str->Nat} {x:Dd} {q:Bool} {y:An} (hx:x.Ok) (h:vL f x q y):Mj f (Rq x y)=after f x y/\Ml f (Rq x y):=by
 rcases h with⟨rfl,h⟩ | ⟨rfl,h1,h2⟩
 ·cases x with
  | add a n=>
   simp only [bE]at h
   split at h <;> cases h
   ·exact⟨rfl,trivial⟩
   ·refine⟨?_,by show(0:Int)<=_+_;omega,trivial⟩
    show eS f a ((f a:Int)+(n:Int)).toNat=eS f a (f a+n)
    rw[show((f a:Int)+(n:Int)).toNat=f a+n by omega]
  | take a n=>
   simp only [bE]at h
   split at h <;> cases h
   ·exact⟨rfl,trivial⟩
   ·refine⟨?_,by show(0:Int)<=(f a:Int)+-(n:Int);omega,trivial⟩
    show eS f a ((f a:Int)+-(n:Int)).toNat=eS f a (f a - n)
    rw[show((f a:Int)+-(n:Int)).toNat=f a - n by omega]
  | move a b n=>
   have hab:b≠a:=fun z=>hx.2.2.1 z.symm
   simp only [bE]at h
   split at h
   ·cases h;exact⟨rfl,trivial⟩
   ·split at h <;> cases h
    ·exact⟨rfl,trivial⟩
    ·have eb:eT f (a,-(n:Int)) b=f b:=by unfold eT eS;exact if_neg hab
     refine⟨?_,by show(0:Int)<=(f a:Int)+-(n:Int);omega,?_,trivial⟩
     ·show eT (eT f (a,-(n:Int))) (b,(n:Int))=eS (eS f a (f a - n)) b (f b+n)
      have e1:eT f (a,-(n:Int))=eS f a (f a - n):=by
       unfold eT;rw[show((f a:Int)+-(n:Int)).toNat=f a - n by omega]
      unfold eT at eb ⊢
      dsimp only at eb ⊢
      rw[eb,show((f b:Int)+(n:Int)).toNat=f b+n by omega]
      unfold eT at e1;rw[e1]
     ·show(0:Int)<=(eT f (a,-(n:Int)) b:Int)+(n:Int)
      omega
  | send g a n=>
   simp only [bE]at h
   split at h <;> cases h
   exact⟨rfl,trivial⟩
  | fetch g a n=>
   simp only [bE]at h
   split at h <;> cases h
   exact⟨rfl,trivial⟩
  | pass g k a n=>cases h
 ·cases x with
  | add a n=>cases h2
  | take a n=>cases h2
  | move a b n=>cases h2
  | send g a n=>
   simp only [bE]at h1
   simp only [cA,List.mem_cons,List.not_mem_nil,or_false]at h2
   have hn:¬ f a<n:=by
    intro hh;rw[if_pos hh]at h1;cases h1
   rcases h2 with rfl | rfl
   ·exact⟨rfl,trivial⟩
   ·refine⟨?_,by show(0:Int)<=(f a:Int)+-(n:Int);omega,trivial⟩
    show eS f a ((f a:Int)+-(n:Int)).toNat=eS f a (f a - n)
    rw[show((f a:Int)+-(n:Int)).toNat=f a - n by omega]
  | fetch g a n=>
   simp only [cA,List.mem_cons,List.not_mem_nil,or_false]at h2
   rcases h2 with rfl | rfl
   ·exact⟨rfl,trivial⟩
   ·refine⟨?_,by show(0:Int)<=(f a:Int)+(n:Int);omega,trivial⟩
    show eS f a ((f a:Int)+(n:Int)).toNat=eS f a (f a+n)
    rw[show((f a:Int)+(n:Int)).toNat=f a+n by omega]
  | pass g k a n=>
   simp only [cA,List.mem_cons,List.not_mem_nil,or_false]at h2
   rcases h2 with rfl | rfl | rfl <;> exact⟨rfl,trivial⟩
theorem Ck (x:Dd) (y:An):(Rq x y).length<=2:=by cases x <;> cases y <;> exact Nat.le_of_ble_eq_true rfl
def vM (rs:List RX):Str->Nat:=rs.foldl (fun f r=>match r with | .has z m=>eS f z m | _=>f) (fun _=>0)
def oH (rs:List RX):List (bA × V):=rs.filterMap fun r=>match r with | .has z m=>some (Sum.inr z,.int (m:Int)) | _=>none
theorem dU:∀(rs:List RX) (kvs:List (bA × V)) (f:Str->Nat),BookIs kvs f->BookIs (bD kvs (oH rs)) (rs.foldl (fun f r=>match r with | .has z m=>eS f z m | _=>f) f)
 | [],kvs,f,h=>h
 | r::rs,kvs,f,h=>by
  cases r with
  | has z m=>exact dU rs _ _ (h.put z m)
  | next n t=>exact dU rs _ _ h
  | kept n t p k x y=>exact dU rs _ _ h
  | came n t p k x=>exact dU rs _ _ h
  | asked n=>exact dU rs _ _ h
  | done n t y=>exact dU rs _ _ h
def mH:RX->bA | .next n _=>Sum.inl (n:Int) | .has z _=>Sum.inr z | .kept n _ _ _ _ _=>Sum.inl (n:Int) | .came n _ _ _ _=>Sum.inl (n:Int) | .asked n=>Sum.inl (n:Int) | .done n _ _=>Sum.inl (n:Int)
theorem Yc (r:RX):Kx r=kV (mH r):=by cases r <;> rfl
def lD (wd:Str) (r:RX) (a:Addr):List (bA × V):=if bH r=wd then [(mH r,.ref a)] else []
def jA (wd:Str) (rs:List RX) (as:List Addr):Nat->List (bA × V)
 | 0=>[]
 | i+1=>jA wd rs as i++(match rs[i]?,as[i]? with | some r,some a=>lD wd r a | _,_=>[])
theorem nP {wd:Str} {rs:List RX} {as:List Addr} {i:Nat} {r:RX} {a:Addr} (h1:rs[i]?=some r) (h2:as[i]?=some a):jA wd rs as (i+1)=jA wd rs as i++lD wd r a:=by
 simp only [jA,h1,h2]
theorem xP (wd:Str) (rs:List RX) (as:List Addr):∀i,(jA wd rs as i).length<=i
 | 0=>bQ _
 | i+1=>by
  have:=xP wd rs as i
  unfold jA;rw[kM];split
  ·unfold lD;split <;> simp <;> omega
  ·simp;omega
theorem xQ {wd:Str} {rs:List RX} {as:List Addr} {k:bA} {v:V}:∀ {i:Nat},(k,v)∈jA wd rs as i->∃j r a,j<i/\rs[j]?=some r/\as[j]?=some a/\bH r=wd/\k=mH r/\v=.ref a
 | 0,h=>nomatch h
 | i+1,h=>by
  unfold jA at h;rcases Zma.mp h with h | h
  ·obtain⟨j,r,a,h1,h2⟩:=xQ h;exact⟨j,r,a,Zo,h2⟩
  ·split at h
   ·rename_i r a e1 e2
    unfold lD at h;split at h
    ·rename_i e3
     have:=Zms.mp h
     injection this with h1 h2
     exact⟨i,r,a,Nat.lt_succ_self _,e1,e2,e3,h1,h2⟩
    ·cases h
   ·cases h
theorem xR {wd:Str} {rs:List RX} {as:List Addr} {j:Nat} {r:RX} {a:Addr} (h1:rs[j]?=some r) (h2:as[j]?=some a) (h3:bH r=wd):∀ {i:Nat},j<i->(mH r,V.ref a)∈jA wd rs as i
 | 0,h=>nomatch h
 | i+1,h=>by
  by_cases e:j=i
  ·subst e;rw[nP h1 h2];refine List.mem_append_right _ ?_
   unfold lD;rw[if_pos h3];exact jI
  ·unfold jA;exact List.mem_append_left _ (xR h1 h2 h3 Zo)
theorem zX (kvs l:List (bA × V)) (k:bA) (v:V):bD kvs (l++[(k,v)])=bN (bD kvs l) k v:=by unfold bD;rw[List.foldl_append];rfl
theorem qP {k:bA} {v:V}:∀ {l kvs:List (bA × V)},bC (bD kvs l) k=some v->(k,v)∈l∨bC kvs k=some v
 | [],kvs,h=>.inr h
 | (k',v')::l,kvs,h=>by
  have h':bC (bD (bN kvs k' v') l) k=some v:=h
  rcases qP h' with h1 | h1
  ·exact .inl (oP _ h1)
  ·rw[cV]at h1;by_cases e:k=k'
   ·rw[if_pos e]at h1;injection h1 with h1
    rw[<- h1,e];exact .inl jI
   ·rw[if_neg e]at h1;exact .inr h1
theorem xS {k:bA}:∀ {l kvs:List (bA × V)},(k∈l.map (·.1)∨∃v,bC kvs k=some v)->∃v,bC (bD kvs l) k=some v
 | [],kvs,h=>by
  rcases h with h | h
  ·cases h
  ·exact h
 | (k',v')::l,kvs,h=>by
  refine xS (l:=l) (kvs:=bN kvs k' v') ?_
  rcases h with h | ⟨v,h⟩
  ·rcases List.mem_cons.mp h with h | h
   ·right
    rw[cV,if_pos h];exact⟨_,rfl⟩
   ·exact .inl h
  ·right
   rw[cV];split
   ·exact⟨_,rfl⟩
   ·exact⟨v,h⟩
theorem Mm {wd:Str} {rs:List RX} {as:List Addr} (hl:rs.length=as.length) {r:RX} (hm:r∈rs) (hw:bH r=wd):∃(j:Nat) (r':RX) (a:Addr),bC (bD [] (jA wd rs as rs.length)) (mH r)=some (.ref a)/\rs[j]?=some r'/\as[j]?=some a/\bH r'=wd/\mH r=mH r':=by
 obtain⟨j,hj,ej⟩:=List.getElem_of_mem hm
 have h1:rs[j]?=some r:=by rw[gZ hj,ej]
 have h2:as[j]?=some as[j]:=gZ Zo
 have h3:=xR h1 h2 hw hj
 obtain⟨v,hv⟩:=xS (kvs:=[]) (k:=mH r) (l:=jA wd rs as rs.length) (.inl (List.mem_map_of_mem h3))
 rcases qP hv with h4 | h4
 ·obtain⟨j',r',a',_,g1,g2,g3,g4,g5⟩:=xQ h4
  rw[g5]at hv;exact⟨j',r',a',hv,g1,g2,g3,g4⟩
 ·cases h4
def Cl:Sp:=fun vs H Q _=>∃(ra:Addr) (wd:Str) (rs:List RX) (as:List Addr),vs=[.ref ra,.str wd]/\RxsAt H ra rs as/\rs.length<=100/\∀(p:Addr) (H':Hp),H p=none->H' p=some (.dK (bD [] (jA wd rs as rs.length)))->Same H H'->Q (.ref p) H'
theorem rM (D:DefAt K mg "by_numbers" fQ ["rows","word"]):aG P w K mg base 1 "by_numbers" ["rows","word"] Cl:=by
 refine D.go gU (fun vs H Q E h=>?_) (fun f cdv A outer s H vs Q E hr h=>?_)
 ·obtain⟨ra,wd,rs,as,rfl,_⟩:=h;rfl
 ·obtain⟨ra,wd,rs,as,rfl,RR,hl,q⟩:=h
  have hu1:=jK hr
  have le:=RR.len
  refine⟨_,(R.ae (R.ao (i:=2) gU.nd R.dq) (R.ae (R.dh PassesOwn.never rfl (R.bj (K:=K) (R.v 0)) (R.gn (i:=3) gU.nd) (R.ah (R.ar (R.al R.eq (R.ix (R.ag (K:=K)) (R.v 3) R.ac) (R.v 1)) (R.ah (R.db (R.v 3) (R.de (R.v 2) (R.ix (R.ag (K:=K)) (R.v 3) R.ac) (R.dj hu1)))) R.au))) (R.ah (R.ai (R.v 2))))),?_⟩
  refine fun p hp=>?_
  have nr:p≠ra:=(aE RR.lst hp).symm
  dsimp only [aK];refine bK (fun σ' H'=>∃o3,σ'=[some (.ref ra),some (.str wd),some (.ref p),o3]/\H' p=some (.dK (bD [] (jA wd rs as rs.length)))/\Same H H') (fun nx hnx=>?_) ?_
  ·refine⟨ra,rfl,⟨_,SqL.of (aN RR.lst hp)⟩,fN (dB K ra (as.map V.ref)) (fun i σ' H'=>∃o3,σ'=[some (.ref ra),some (.str wd),some (.ref p),o3]/\H' p=some (.dK (bD [] (jA wd rs as i)))/\Same H H') (fun i σ' H' ⟨_,_,_,s'⟩=>SqL.of (s' _ _ RR.lst))
    ⟨_,rfl,aA,aF hp⟩ ?_ ?_⟩
   ·rintro i x σ' H1 hx ⟨o3,rfl,g1,s1⟩
    obtain⟨a,r,rfl,ha,hrr,hat⟩:=(RR.same s1).get hx
    obtain⟨xs,g,x0,x1,x2⟩:=bO hat
    have hi:=(Zgs.mp ha).1
    have ln:=xP wd rs as i
    have lm:=eU (jA wd rs as i) []
    dsimp only [aK];refine⟨_,SqT.of g,_,x0,?_⟩
    show if decide (bH r=wd)=true then _ else _
    refine aQ (fun h=>?_) (fun h=>?_)
    ·have dp:DPut H1 p (Kx r) (.ref a) (aI H1 p (.dK (bN (bD [] (jA wd rs as i)) (mH r) (.ref a)))):=by
      rw[Yc];exact DPut.k g1 (oZ (m:=1000) (by simp at lm;omega) Zd)
     refine⟨_,SqT.of g,_,x1,p,_,rfl,dp,?_⟩
     ·refine⟨_,rfl,?_,cO hp s1⟩
      rw[aA,nP hrr ha];unfold lD;rw[if_pos (of_decide_eq_true h),zX]
    ·refine⟨_,rfl,?_,s1⟩
     rw[nP hrr ha];unfold lD;rw[if_neg (of_decide_eq_false h),List.append_nil];exact g1
   ·rintro σ' H1 ⟨o3,rfl,g1,s1⟩
    rw[aZ,<- le]at g1;exact hnx _ _ ⟨o3,rfl,g1,s1⟩
  ·rintro σ' H1 ⟨o3,rfl,g1,s1⟩
   exact q p H1 hp g1 s1
theorem sW {rs:List RX} (h:RX.Whole rs) {n t:Nat} {y:An} (h1:.done n t y∈rs):∃t0 p k x,RX.came n t0 p k x∈rs/\An.Of x y:=by
 induction h with
 | nil=>cases h1
 | snoc hw hf ih=>
  rcases aH h1 with h1 | h1
  ·obtain⟨t0,p,k,x,h2,h3⟩:=ih h1;exact⟨t0,p,k,x,List.mem_append_left _ h2,h3⟩
  ·rw[<- h1]at hf;obtain⟨_,_,t0,p,k,x,h2,h3,_⟩:=hf
   exact⟨t0,p,k,x,List.mem_append_left _ h2,h3⟩
def gP (rs:List RX):List Nat:=rs.filterMap fun r=>match r with | .done n _ _=>some n | _=>none
def Cm (rs:List RX):List Nat:=rs.filterMap fun r=>match r with | .came n _ _ _ _=>some n | _=>none
theorem sX {rs:List RX} {n:Nat} (h:n∈gP rs):∃t y,.done n t y∈rs:=by
 obtain⟨r,hr,e⟩:=List.mem_filterMap.mp h
 cases r <;> cases e
 exact⟨_,_,hr⟩
theorem Fp {rs:List RX} {n t:Nat} {p k:Str} {x:Dd} (h:.came n t p k x∈rs):n∈Cm rs:=List.mem_filterMap.mpr ⟨_,h,rfl⟩
theorem Mn {rs:List RX} (h:RX.Whole rs):(gP rs).Nodup:=by
 induction h with
 | nil=>exact List.nodup_nil
 | @snoc rs r hw hf ih=>
  unfold gP at ih ⊢
  rw[List.filterMap_append];cases r with
  | done n t y=>
   refine List.nodup_append.mpr ⟨ih,Zs,fun a ha b hb=>?_⟩
   have hb':b=n:=by simpa using hb
   subst hb';rintro rfl
   obtain⟨t',y',hm⟩:=sX ha
   exact hf.2.1 _ _ hm
  | _=>simpa using ih
theorem Yd {xs:List Nat}:∀ {ys:List Nat},xs.Nodup->(∀x∈xs,x∈ys)->xs.length<=ys.length:=by
 induction xs with
 | nil=>exact fun _ _=>Nat.zero_le _
 | cons x r ih=>
  intro ys hn h;obtain⟨h1,h2⟩:=List.nodup_cons.mp hn
  have hx:=h x jI
  have:=ih (ys:=ys.erase x) h2 fun y hy=>(List.mem_erase_of_ne (fun e=>h1 (by rw[<- e];exact hy))).mpr (h y (oP _ hy))
  rw[List.length_erase_of_mem hx]at this;have hp:0<ys.length:=List.length_pos_of_mem hx
  rw[vS];omega
theorem xT (rs:List RX):(oH rs).length+(gP rs).length+(Cm rs).length<=rs.length:=by
 induction rs with
 | nil=>exact bQ _
 | cons r rs ih=>
  unfold oH gP Cm at ih ⊢
  cases r <;> simp only [List.filterMap_cons,vS] <;> omega
theorem Fq {rs:List RX} (h:RX.Whole rs):(oH rs).length+2*(gP rs).length<=rs.length:=by
 have h1:=xT rs
 have h2:=Yd (Mn h) (ys:=Cm rs) fun n hn=>by
  obtain⟨t,y,hm⟩:=sX hn
  obtain⟨t0,p,k,x,hc,_⟩:=sW h hm
  exact Fp hc
 omega
theorem zY (rs:List RX) (i:Nat):(gP (rs.take i)).length<=(gP rs).length:=by
 unfold gP;exact((List.take_sublist i rs).filterMap _).length_le
def mJ:Dd->List (Str × Int)
 | .add a n=>[(a,(n:Int))]
 | .take a n=>[(a,-(n:Int))]
 | .move a b n=>[(a,-(n:Int)),(b,(n:Int))]
 | .send _ a n=>[(a,-(n:Int))]
 | .fetch _ a n=>[(a,(n:Int))]
 | .pass _ _ _ _=>[]
theorem Mo {x:Dd} {y:An} (hy:An.Of x y) (h:uX y="is"):Rq x y=mJ x:=by
 rcases aA3 h with⟨m,rfl⟩ | ⟨l,m,rfl⟩ <;> cases x <;> first | rfl | exact hy.elim
theorem Ye {x:Dd} {y:An} (h:uX y≠"is"):Rq x y=[]:=by cases x <;> cases y <;> first | rfl | exact absurd rfl h
def Cn:Sp:=fun vs H Q _=>∃(t:Addr) (x:Dd),vs=[.ref t]/\H t=some (.tup x.vs)/\∀(tp:Addr) (zs:List Z) (H':Hp),Same H H'->H' tp=some (.tup (fF zs))->Ee H' zs->zs.map (·.2)=mJ x->Q (.ref tp) H'
theorem oN (T:Txt K mg) (D:DefAt K mg "done_changes" dC ["deed"]):aG P w K mg base 1 "done_changes" ["deed"] Cn:=by
 refine D.go jH (fun vs H Q E h=>?_) (fun f cdv A outer s H vs Q E hr h=>?_)
 ·obtain⟨t,x,rfl,_⟩:=h;rfl
 ·obtain⟨p,x,rfl,hp,q⟩:=h
  refine⟨_,(R.ae (R.ar (R.al R.eq (R.ix (R.ag (K:=K)) (R.v 0) R.ac) R.af) (R.ah (R.ai (R.aq R.ad))) R.au) (R.ae (R.ar (R.al R.eq (R.ix (R.ag (K:=K)) (R.v 0) R.ac) R.af) (R.ah (R.ai (R.aq (R.aa (R.aq (R.aa (R.ix (R.ag (K:=K)) (R.v 0) R.ac) (R.aa (R.bf (R.ix (R.ag (K:=K)) (R.v 0) (R.bf R.ac))) R.ad))) (R.aa (R.aq (R.aa (R.ix (R.ag (K:=K)) (R.v 0) R.ac) (R.aa (R.ix (R.ag (K:=K)) (R.v 0) (R.bf R.ac)) R.ad))) R.ad))))) R.au) (R.ae (R.ar (R.al (R.bc (K:=K)) (R.ix (R.ag (K:=K)) (R.v 0) R.ac) (R.aq (R.aa R.af (R.aa R.af R.ad)))) (R.ah (R.ai (R.aq (R.aa (R.aq (R.aa (R.ix (R.ag (K:=K)) (R.v 0) (R.bf R.ac)) (R.aa (R.bf (R.ix (R.ag (K:=K)) (R.v 0) (R.bf R.ac))) R.ad))) R.ad)))) R.au) (R.ah (R.ai (R.aq (R.aa (R.aq (R.aa (R.ix (R.ag (K:=K)) (R.v 0) (R.bf R.ac)) (R.aa (R.ix (R.ag (K:=K)) (R.v 0) (R.bf R.ac)) R.ad))) R.ad))))))),?_⟩
  have z1:∀ {H':Hp} {a:Addr} {x:Str} {i:Int},H' a=some (.tup [.str x,.int i])->Ee H' [(a,x,i)]:=fun h z hz=>by
   rw[Zms.mp hz];exact h
  cases x with
  | add a n=>
   refine⟨_,SqT.of hp,_,rfl,_,SqT.of hp,_,rfl,_,SqT.of hp,_,rfl,aL rfl,fun p1 H1 s1 g1=>⟨p1,_,rfl,.inr (SqT.of g1),rfl,rfl,?_⟩⟩
   exact⟨_,SqT.of (s1 _ _ hp),_,rfl,_,SqT.of (s1 _ _ hp),_,rfl,aL rfl,fun p2 H2 s2 g2=>⟨aL rfl,fun p3 H3 s3 g3=>q p3 [(p2,a,(n:Int))] H3 ((s1.trans s2).trans s3) g3 (z1 (s3 _ _ g2)) rfl⟩⟩
  | take a n=>
   refine⟨_,SqT.of hp,_,rfl,_,SqT.of hp,_,rfl,_,SqT.of hp,_,rfl,aL rfl,fun p1 H1 s1 g1=>⟨p1,_,rfl,.inr (SqT.of g1),rfl,rfl,?_⟩⟩
   exact⟨_,SqT.of (s1 _ _ hp),_,rfl,_,SqT.of (s1 _ _ hp),_,rfl,aL rfl,fun p2 H2 s2 g2=>⟨aL rfl,fun p3 H3 s3 g3=>q p3 [(p2,a,-(n:Int))] H3 ((s1.trans s2).trans s3) g3 (z1 (s3 _ _ g2)) rfl⟩⟩
  | send h a n=>
   refine⟨_,SqT.of hp,_,rfl,_,SqT.of hp,_,rfl,_,SqT.of hp,_,rfl,aL rfl,fun p1 H1 s1 g1=>⟨p1,_,rfl,.inr (SqT.of g1),rfl,rfl,?_⟩⟩
   exact⟨_,SqT.of (s1 _ _ hp),_,rfl,_,SqT.of (s1 _ _ hp),_,rfl,aL rfl,fun p2 H2 s2 g2=>⟨aL rfl,fun p3 H3 s3 g3=>q p3 [(p2,a,-(n:Int))] H3 ((s1.trans s2).trans s3) g3 (z1 (s3 _ _ g2)) rfl⟩⟩
  | fetch h a n=>
   refine⟨_,SqT.of hp,_,rfl,_,SqT.of hp,_,rfl,_,SqT.of hp,_,rfl,aL rfl,fun p1 H1 s1 g1=>⟨p1,_,rfl,.inr (SqT.of g1),rfl,rfl,?_⟩⟩
   exact⟨_,SqT.of (s1 _ _ hp),_,rfl,_,SqT.of (s1 _ _ hp),_,rfl,aL rfl,fun p2 H2 s2 g2=>⟨aL rfl,fun p3 H3 s3 g3=>q p3 [(p2,a,(n:Int))] H3 ((s1.trans s2).trans s3) g3 (z1 (s3 _ _ g2)) rfl⟩⟩
  | move a b n=>
   refine⟨_,SqT.of hp,_,rfl,_,SqT.of hp,_,rfl,_,SqT.of hp,_,rfl,_,SqT.of hp,_,rfl,aL rfl,fun p2 H2 s2 g2=>⟨_,SqT.of (s2 _ _ hp),_,rfl,_,SqT.of (s2 _ _ hp),_,rfl,aL rfl,fun p3 H3 s3 g3=>⟨aL rfl,fun p4 H4 s4 g4=>?_⟩⟩⟩
   refine q p4 [(p2,a,-(n:Int)),(p3,b,(n:Int))] H4 ((s2.trans s3).trans s4) g4 (fun z hz=>?_) rfl
   rcases List.mem_cons.mp hz with rfl | hz
   ·exact s4 _ _ (s3 _ _ g2)
   ·rw[Zms.mp hz];exact s4 _ _ g3
  | pass h g a n=>
   refine⟨_,SqT.of hp,_,rfl,?_⟩
   exact⟨aL rfl,fun p1 H1 s1 g1=>q p1 [] H1 s1 g1 (fun _ h=>nomatch h) rfl⟩
def Tf:Sp:=fun vs H Q _=>∃(t c:Addr) (x:Dd) (y:An),vs=[.ref t,.ref c]/\H t=some (.tup x.vs)/\H c=some (.tup y.vs)/\An.Of x y/\∀(tp:Addr) (zs:List Z) (H':Hp),Same H H'->H' tp=some (.tup (fF zs))->Ee H' zs->zs.map (·.2)=Rq x y->Q (.ref tp) H'
theorem rN (T:Txt K mg) (c_done_changes:aG P w K mg base 1 "done_changes" ["deed"] Cn) (D:DefAt K mg "changes_of" fO ["deed","answer"]):aG P w K mg base 2 "changes_of" ["deed","answer"] Tf:=by
 refine D.go rF (fun vs H Q E h=>?_) (fun f cdv A outer s H vs Q E hr h=>?_)
 ·obtain⟨t,c,x,y,rfl,_⟩:=h;rfl
 ·obtain⟨t,c,x,y,rfl,gt,gc,hy,q⟩:=h
  have hr_done_changes:=hr
  refine⟨_,(R.ae (R.ar (R.al R.ne (R.ix (R.ag (K:=K)) (R.v 1) R.ac) R.af) (R.ah (R.ai (R.aq R.ad))) R.au) (R.ah (R.ai (R.fn c_done_changes hr_done_changes rfl (R.aa (R.v 0) R.ad))))),?_⟩
  refine⟨_,SqT.of gc,_,aA2 y,?_⟩
  show if (!decide (uX y="is"))=true then _ else _
  by_cases hw:uX y="is"
  ·refine Wc (by rw[decide_eq_true hw];rfl) ?_
   exact⟨t,x,rfl,gt,fun tp zs H' s' g z e=>q tp zs H' s' g z (by rw[e,Mo hy hw])⟩
  ·refine Wb (by rw[decide_eq_false hw];rfl) ?_
   exact⟨aL rfl,fun p1 H1 s1 g1=>q p1 [] H1 s1 g1 (fun _ h=>nomatch h) (by rw[Ye hw];rfl)⟩
theorem Mp {C:Addr} (T:Txt K mg) (B:Wo K C) (D:ClsAt K mg "Book" C "Book.__init__" cC ["self","rows"] [[],[.non]]):∀d∈([[],[.non]]:List (List V)),Wn P w K mg base 1 "Book" C ["self","rows"] d (Bl C):=by
 refine D.go nK (fun vs H Q E h=>?_) (fun f cdv A outer s H vs Q E hr h=>?_)
 ·obtain⟨p,dx,r,prs,rfl,_⟩:=h;rfl
 ·obtain⟨p,dx,r,prs,rfl,hp,hR,nd,hz,q⟩:=h
  refine⟨_,(R.ae (R.di (K:=K) (R.v 0) R.dq) (R.ah (R.ar (R.al R.fm (R.v 1) R.bu) (R.ah (R.di (K:=K) (R.v 0) (R.ee (R.il (K:=K) rfl) rfl T.b_dict Pd (R.aa (R.v 1) R.ad)))) R.au))),?_⟩
  intro d1 hd1;have np:=aE hp hd1
  refine⟨C,dx,[],(by rw[aD np];exact hp),B.cl,B.nA,(by show 0<1000;decide),?_⟩
  have g1:(aI (aI H d1 (.dK [])) p (.ins C dx [("amounts",.ref d1)])) p=some (.ins C dx [("amounts",.ref d1)]):=aA
  have g2:(aI (aI H d1 (.dK [])) p (.ins C dx [("amounts",.ref d1)])) d1=some (.dK []):=by rw[aD np.symm];exact aA
  have k1:∀b o,H b=some o->b≠p->(aI (aI H d1 (.dK [])) p (.ins C dx [("amounts",.ref d1)])) b=some o:=fun b o e hb=>by rw[aD hb,aD (aE e hd1)];exact e
  dsimp only;rw[aBO];generalize aI (aI H d1 (.dK [])) p (.ins C dx [("amounts",.ref d1)])=H1 at g1 g2 k1;rcases hR with⟨rfl,rfl⟩ | ⟨l,zs,rfl,hl,hza,rfl⟩
  ·exact q H1 d1 hd1 g1 g2 k1
  ·have nl:l≠p:=fW hl hp (fun z=>nomatch z)
   have hza1:Ee H1 zs:=fun z hz=>k1 _ _ (hza z hz) (fW (hza z hz) hp (fun z=>nomatch z))
   refine⟨wz zs,by rw[Wq];exact SqL.of (k1 _ _ hl nl),aAG hza1,by unfold wz;rw[aZ];simpa using hz,fun d hd=>?_⟩
   have hd0:H d=none:=by
    cases e:H d with
    | none=>rfl
    | some o=>
     by_cases z:d=p
     ·rw[z,g1]at hd;cases hd
     ·rw[k1 d o e z]at hd;cases hd
   rw[Wr,sM nd];refine⟨C,dx,_,(by rw[aD (aE g1 hd)];exact g1),B.cl,B.nA,(by show 1<1000;decide),?_⟩
   refine q _ d hd0 (by rw[aA,put1]) (by rw[aD (aE g1 hd).symm];exact aA) fun b o e hb=>?_
   rw[aD hb,aD (aE (k1 b o e hb) hd)];exact k1 b o e hb
theorem vN {C:Addr} (B:Wo K C) (D:MethAt K C "amount" "Book.amount" eW ["self","name"]):sJ P w K mg base 1 C "amount" ["self","name"] (iG C):=by
 refine D.go qB (fun vs H Q E h=>?_) (fun f cdv A outer s H vs Q E hr h=>?_)
 ·obtain⟨p,n,prs,rfl,_⟩:=h;rfl
 ·obtain⟨p,n,prs,rfl,bk,q⟩:=h
  have hu1:=jK hr
  obtain⟨dx,d,h1,h2⟩:=bk.ex
  refine⟨_,(R.ah (R.ai (R.ju hu1 (R.bg (K:=K) (R.v 0)) (R.v 1) R.ac))),?_⟩
  refine⟨C,dx,_,.ref d,h1,B.cl,B.nA,oE _,d,rfl,.inl ⟨_,.inl h2⟩,_,DGet.k (k:=Sum.inr n) h2,?_⟩
  rw[oS];exact q
def nQ (prs:List (Str × Int)) (n:Str) (v:Int):List (Str × Int):=if n∈prs.map (·.1) then Ka prs n v else prs++[(n,v)]
def oO:List (Str × Int)->List (Str × Int)->List (Str × Int)
 | prs,[]=>prs
 | prs,q::r=>oO (nQ prs q.1 (dM prs q.1+q.2)) r
theorem sY:∀(cs prs:List (Str × Int)) (q:Str × Int),oO prs (cs++[q])=nQ (oO prs cs) q.1 (dM (oO prs cs) q.1+q.2)
 | [],_,_=>rfl
 | p::r,prs,q=>sY r _ q
theorem xU {prs:List (Str × Int)} {n:Str} {v:Int}:bN (mM prs) (Sum.inr n) (.int v)=mM (nQ prs n v):=by
 unfold nQ;by_cases h:n∈prs.map (·.1)
 ·rw[if_pos h];exact Pr h
 ·rw[if_neg h];have hv:bC (mM prs) (Sum.inr n)=none:=by
   cases e:bC (mM prs) (Sum.inr n) with
   | none=>rfl
   | some x=>
    have:=Om e
    rw[wJ]at this;obtain⟨m,hm,e2⟩:=Zmm.mp this
    cases e2
    exact absurd hm h
  rw[wB _ hv];unfold mM;rw[iB];rfl
theorem sZ {prs:List (Str × Int)} {n:Str} {v:Int}:(nQ prs n v).map (·.1)=if n∈prs.map (·.1) then prs.map (·.1) else prs.map (·.1)++[n]:=by
 unfold nQ;by_cases h:n∈prs.map (·.1)
 ·rw[if_pos h,if_pos h];exact Ek _ _ _
 ·rw[if_neg h,if_neg h,iB];rfl
theorem Rr {prs:List (Str × Int)} {n:Str} {v:Int} (h:(prs.map (·.1)).Nodup):((nQ prs n v).map (·.1)).Nodup:=by
 rw[sZ];split
 ·exact h
 ·rename_i hn;exact Aw h hn
theorem vO:∀(cs prs:List (Str × Int)),(prs.map (·.1)).Nodup->((oO prs cs).map (·.1)).Nodup
 | [],_,h=>h
 | _::r,_,h=>vO r _ (Rr h)
def Th (prs:List (Str × Int)) (q:Str × Int):Prop:=0<=dM prs q.1+q.2/\dM prs q.1+q.2<=1000000000000
theorem Co {H:Hp} {zs:List Z} {i:Nat} {x:V} (hz:Ee H zs) (hx:(fF zs)[i]?=some x):∃z,zs[i]?=some z/\x=.ref z.1/\H z.1=some (.tup [.str z.2.1,.int z.2.2]):=by
 unfold fF at hx;rw[jC]at hx;obtain⟨z,hn,rfl⟩:=Option.map_eq_some_iff.mp hx
 exact⟨z,hn,rfl,hz z (jW hn)⟩
theorem qQ:∀(cs prs:List (Str × Int)),(oO prs cs).length<=prs.length+cs.length
 | [],prs=>bQ _
 | q::r,prs=>by
  have h:=qQ r (nQ prs q.1 (dM prs q.1+q.2))
  have h2:(nQ prs q.1 (dM prs q.1+q.2)).length<=prs.length+1:=by
   have:=congrArg List.length (sZ (prs:=prs) (n:=q.1) (v:=dM prs q.1+q.2))
   rw[aZ]at this;rw[this];split <;> simp
  show(oO (nQ prs q.1 (dM prs q.1+q.2)) r).length<=_
  rw[vS];omega
def tD (C:Addr):Sp:=fun vs H Q E=>∃(p dx d t:Addr) (prs:List (Str × Int)) (zs:List Z),vs=[.ref p,.ref t]/\H p=some (.ins C dx [("amounts",.ref d)])/\H d=some (.dK (mM prs))/\(prs.map (·.1)).Nodup/\H t=some (.tup (fF zs))/\Ee H zs/\prs.length+zs.length<=100 ∧
 (∀q∈zs.map (·.2),Th prs q)/\∀H',H' d=some (.dK (mM (oO prs (zs.map (·.2)))))->(∀b o,H b=some o->b≠d->H' b=some o)->Q .non H'
theorem zZ {C:Addr} (T:Txt K mg) (B:Wo K C) (c_Book_amount:sJ P w K mg base 1 C "amount" ["self","name"] (iG C)) (D:MethAt K C "change" "Book.change" eX ["self","changes"]):sJ P w K mg base 2 C "change" ["self","changes"] (tD C):=by
 refine D.go dD (fun vs H Q E h=>?_) (fun f cdv A outer s H vs Q E hr h=>?_)
 ·obtain⟨p,dx,d,t,prs,zs,rfl,_⟩:=h;rfl
 ·obtain⟨p,dx,d,t,prs,zs,rfl,hp,hd,nd,ht,hz,hl,hg,Q0⟩:=h
  have hr_Book_amount:=hr
  have hu1:=jK hr
  have hlz:(fF zs).length=zs.length:=by unfold fF;rw[aZ]
  refine⟨_,(R.ae (R.dh PassesOwn.never rfl (R.fj (K:=K) (R.v 1)) (R.dt (K:=K) (n:=2) rfl (R.bp (R.gn (i:=2) dD.nd) (R.bp (R.gn (i:=3) dD.nd) R.du))) (R.ah (R.ar (R.cf (R.je R.le R.le R.ac (R.op R.ay (R.cq c_Book_amount hr_Book_amount (R.v 0) (R.aa (R.v 2) R.ad)) (R.v 3)) (R.gI rfl T.g_MOST))) (R.ah R.ij) R.au))) (R.ah (R.dh PassesOwn.never rfl (R.fj (K:=K) (R.v 1)) (R.dt (K:=K) (n:=2) rfl (R.bp (R.gn (i:=2) dD.nd) (R.bp (R.gn (i:=3) dD.nd) R.du))) (R.ah (R.db (R.op R.ay (R.cq c_Book_amount hr_Book_amount (R.v 0) (R.aa (R.v 2) R.ad)) (R.v 3)) (R.de (R.bg (K:=K) (R.v 0)) (R.v 2) (R.dj hu1))))))),?_⟩
  refine bK (fun σ' H'=>H'=H/\∃o2 o3,σ'=[some (.ref p),some (.ref t),o2,o3]) (fun nx hnx=>?_) ?_
  ·refine⟨t,rfl,⟨_,SqT.of ht⟩,fN (lJ K t (fF zs)) (fun i σ H'=>H'=H/\∃o2 o3,σ=[some (.ref p),some (.ref t),o2,o3]) (fun i σ H' ⟨e,_⟩=>by rw[e];exact SqT.of ht) ⟨rfl,_,_,rfl⟩ ?_ (fun σ H' h=>hnx σ H' h)⟩
   rintro i x σ H' hx ⟨rfl,o2,o3,rfl⟩
   obtain⟨z,hn,rfl,gz⟩:=Co hz hx
   have hgz:=hg z.2 (List.mem_map_of_mem (jW hn))
   refine⟨z.1,_,rfl,SqT.of gz,rfl,_,_,rfl,_,_,rfl,rfl,dx,_,hp,pV _ Zk,p,z.2.1,prs,rfl,⟨⟨dx,d,hp,hd⟩,nd⟩,?_⟩
   refine Wb (decide_eq_true hgz.1) ?_
   show if (!decide (dM prs z.2.1+z.2.2<=1000000000000))=true then _ else _
   refine Wc (by rw[decide_eq_true hgz.2];rfl) ?_
   exact⟨rfl,_,_,rfl⟩
  ·rintro σ H' ⟨rfl,o2,o3,rfl⟩
   have ntd:t≠d:=fW ht hd (fun z=>nomatch z)
   refine⟨t,rfl,⟨_,SqT.of ht⟩,fN (lJ K t (fF zs)) (fun i σ H''=>H'' d=some (.dK (mM (oO prs ((zs.map (·.2)).take i))))/\(∀b o,H' b=some o->b≠d->H'' b=some o)/\∃o2 o3,σ=[some (.ref p),some (.ref t),o2,o3]) (fun i σ H'' ⟨_,k,_⟩=>SqT.of (k _ _ ht ntd)) ⟨hd,fun b o e _=>e,_,_,rfl⟩ ?_ ?_⟩
   ·rintro i x σ H'' hx ⟨g,k,o2,o3,rfl⟩
    obtain⟨z,hn,rfl,gz⟩:=Co (fun z m=>k _ _ (hz z m) (fW (hz z m) hd (fun z=>nomatch z))) hx
    have hni:(zs.map (·.2))[i]?=some z.2:=by rw[jC,hn];rfl
    have hp':=k _ _ hp (fW hp hd (fun z=>nomatch z))
    have nd':=vO ((zs.map (·.2)).take i) prs nd
    have hle:=qQ ((zs.map (·.2)).take i) prs
    have hle2:((zs.map (·.2)).take i).length<=zs.length:=by rw[jD,aZ];exact Nat.min_le_right _ _
    refine⟨z.1,_,rfl,SqT.of gz,rfl,_,_,rfl,_,_,rfl,rfl,dx,_,hp',pV _ Zk,p,z.2.1,oO prs ((zs.map (·.2)).take i),rfl,⟨⟨dx,d,hp',g⟩,nd'⟩,?_⟩
    refine⟨C,dx,_,.ref d,hp',B.cl,B.nA,oE _,d,_,rfl,DPut.k (k:=Sum.inr z.2.1) g ?_,?_,fun b o e hb=>?_,_,_,rfl⟩
    ·unfold mM;rw[aZ];exact oZ (m:=1000) Zo Zd
    ·rw[aA,xU,cE hni,sY]
    ·rw[aD hb];exact k b o e hb
   ·rintro σ H'' ⟨g,k,o2,o3,rfl⟩
    refine Q0 _ ?_ k
    rw[g,hlz,vR (by rw[aZ];exact bQ _)]
def gY (rs:List RX):List (Str × Int):=rs.filterMap fun r=>match r with | .has z m=>some (z,(m:Int)) | _=>none
theorem nR:∀rs:List RX,oH rs=mM (gY rs)
 | []=>rfl
 | r::rs=>by
  have ih:=nR rs
  unfold oH gY mM at ih ⊢
  cases r <;> simp only [List.filterMap_cons,List.map_cons] <;> first | exact ih | rw[ih]
theorem Mq (rs:List RX):(gY rs).length=(oH rs).length:=by rw[nR];unfold mM;rw[aZ]
theorem Mr {rs:List RX} {z:Str} {m:Int} (h:(z,m)∈gY rs):∃m',.has z m'∈rs:=by
 obtain⟨r,hr,e⟩:=List.mem_filterMap.mp h
 cases r <;> cases e
 exact⟨_,hr⟩
theorem vP {rs:List RX} (h:RX.Whole rs):((gY rs).map (·.1)).Nodup:=by
 induction h with
 | nil=>exact List.nodup_nil
 | @snoc rs r hw hf ih=>
  have e:gY (rs++[r])=gY rs++gY [r]:=by unfold gY;rw[List.filterMap_append]
  rw[e,iB];cases r with
  | has z m=>
   refine List.nodup_append.mpr ⟨ih,by simp [gY],fun a ha b hb=>?_⟩
   have hb':b=z:=by simpa [gY]using hb
   subst hb';rintro rfl
   obtain⟨q,hq,rfl⟩:=Zmm.mp ha
   obtain⟨m',hm⟩:=Mr (z:=q.1) (m:=q.2) hq
   exact absurd (hf.2.2 _ _ hm) (List.lt_irrefl _)
  | _=>simpa [gY]using ih
theorem Ms {rs:List RX} (h:RX.Whole rs) (z:Str):dM (gY rs) z=(vM rs z:Int):=by
 have h1:=dU rs [] (fun _=>0) (fun _=>rfl) z
 rw[nR,sM (vP h),oS]at h1;injection h1
theorem Mt (prs:List (Str × Int)) (n m:Str) (v:Int):dM (nQ prs n v) m=if m=n then v else dM prs m:=by
 have h1:=oS (nQ prs n v) m
 rw[<- xU,cV]at h1;by_cases e:m=n
 ·rw[if_pos (by rw[e])]at h1
  rw[if_pos e];injection h1 with h1
  exact h1.symm
 ·rw[if_neg (fun c=>e (by injection c)),oS]at h1
  rw[if_neg e];injection h1 with h1
  exact h1.symm
theorem xV:∀(cs:List (Str × Int)) (prs:List (Str × Int)) (g:Str->Nat),Ml g cs->(∀z,dM prs z=(g z:Int))->∀z,dM (oO prs cs) z=(Mj g cs z:Int)
 | [],prs,g,_,h=>h
 | c::cs,prs,g,hG,h=>by
  refine xV cs (nQ prs c.1 (dM prs c.1+c.2)) (eT g c) hG.2 (fun z=>?_)
  rw[Mt,h];unfold eT eS;by_cases e:z=c.1
  ·rw[if_pos e,if_pos e,Int.toNat_of_nonneg hG.1]
  ·rw[if_neg e,if_neg e];exact h z
theorem Mu {f:Str->Nat} (hf:∀z,f z<=1000000000000) {x:Dd} {q:Bool} {y:An} (hx:x.Ok) (h:vL f x q y):∀c∈Rq x y,0<=(f c.1:Int)+c.2/\(f c.1:Int)+c.2<=1000000000000:=by
 have hn:=hx.n
 rcases h with⟨rfl,h⟩ | ⟨rfl,h1,h2⟩
 ·cases x with
  | add a n=>
   have:=hf a
   simp only [bE]at h
   split at h <;> cases h
   ·exact fun c hc=>nomatch hc
   ·intro c hc;rw[Zms.mp hc];exact⟨by show(0:Int)<=(f a:Int)+(n:Int);omega,by show(f a:Int)+(n:Int)<=_;omega⟩
  | take a n=>
   have:=hf a
   simp only [bE]at h
   split at h <;> cases h
   ·exact fun c hc=>nomatch hc
   ·intro c hc;rw[Zms.mp hc];exact⟨by show(0:Int)<=(f a:Int)+-(n:Int);omega,by show(f a:Int)+-(n:Int)<=_;omega⟩
  | move a b n=>
   have:=hf a
   have:=hf b
   simp only [bE]at h
   split at h
   ·cases h;exact fun c hc=>nomatch hc
   ·split at h <;> cases h
    ·exact fun c hc=>nomatch hc
    ·intro c hc;rcases List.mem_cons.mp hc with rfl | hc
     ·exact⟨by show(0:Int)<=(f a:Int)+-(n:Int);omega,by show(f a:Int)+-(n:Int)<=_;omega⟩
     ·rw[Zms.mp hc];exact⟨by show(0:Int)<=(f b:Int)+(n:Int);omega,by show(f b:Int)+(n:Int)<=_;omega⟩
  | send g a n=>
   simp only [bE]at h
   split at h <;> cases h
   exact fun c hc=>nomatch hc
  | fetch g a n=>
   simp only [bE]at h
   split at h <;> cases h
   exact fun c hc=>nomatch hc
  | pass g k a n=>cases h
 ·cases x with
  | add a n=>cases h2
  | take a n=>cases h2
  | move a b n=>cases h2
  | send g a n=>
   have:=hf a
   simp only [bE]at h1
   simp only [cA,List.mem_cons,List.not_mem_nil,or_false]at h2
   have hh:¬ f a<n:=fun hh=>by rw[if_pos hh]at h1;cases h1
   rcases h2 with rfl | rfl
   ·exact fun c hc=>nomatch hc
   ·intro c hc;rw[Zms.mp hc];exact⟨by show(0:Int)<=(f a:Int)+-(n:Int);omega,by show(f a:Int)+-(n:Int)<=_;omega⟩
  | fetch g a n=>
   have:=hf a
   simp only [bE]at h1
   simp only [cA,List.mem_cons,List.not_mem_nil,or_false]at h2
   have hh:¬ 1000000000000<f a+n:=fun hh=>by rw[if_pos hh]at h1;cases h1
   rcases h2 with rfl | rfl
   ·exact fun c hc=>nomatch hc
   ·intro c hc;rw[Zms.mp hc];exact⟨by show(0:Int)<=(f a:Int)+(n:Int);omega,by show(f a:Int)+(n:Int)<=_;omega⟩
  | pass g k a n=>
   simp only [cA,List.mem_cons,List.not_mem_nil,or_false]at h2
   rcases h2 with rfl | rfl | rfl <;> exact fun c hc=>nomatch hc
def Cp (C:Addr):Sp:=fun vs H Q _=>∃(ra:Addr) (rs:List RX) (as:List Addr),vs=[.ref ra]/\RxsAt H ra rs as/\rs.length<=100/\RX.Whole rs ∧
 ∀(p dx d:Addr) (H':Hp),H p=none->H d=none->H' p=some (.ins C dx [("amounts",.ref d)])->H' d=some (.dK (mM (gY rs)))->Same H H'->Q (.ref p) H'
theorem rO {C:Addr} (T:Txt K mg) (c_Book:Wn P w K mg base 1 "Book" C ["self","rows"] [] (Bl C)) (D:DefAt K mg "first_book" eI ["rows"]):aG P w K mg base 3 "first_book" ["rows"] (Cp C):=by
 refine D.go rJ (fun vs H Q E h=>?_) (fun f cdv A outer s H vs Q E hr h=>?_)
 ·obtain⟨ra,rs,as,rfl,_⟩:=h;rfl
 ·obtain⟨ra,rs,as,rfl,RR,hl,hw,q⟩:=h
  have hr_Book:Room 2 _:=hr.mono Zd
  have le:=RR.len
  refine⟨_,(R.ah (R.ai (R.jv c_Book hr_Book rfl (R.aa (R.bi rfl (js:=[none]) (N:=["row"]) (CompScope.by (aB eI) ["rows"] rfl rfl Zk) (aP rfl) (R.bj (K:=K) (R.v 0)) (fun C s₂ H₂ fp=>⟨(R.gn (i:=0) (show(["row"]:List Str).Nodup by decide +kernel)),(R.bq (R.al R.eq (R.ix (R.ag (K:=K)) (R.v 0) R.ac) R.af)),(R.sl R.sT (R.v 0) (R.ps R.ac) R.pn)⟩)) R.ad)))),?_⟩
  refine⟨ra,rfl,⟨_,SqL.of RR.lst⟩,?_⟩
  refine bT (dB K ra (as.map V.ref)) (by rw[aZ];omega) (fun i ys H'=>∃zs:List Z,ys=fF zs/\Ee H' zs/\zs.map (·.2)=gY (rs.take i)/\Same H H'/\zs.length<=i) (fun i ys H' ⟨zs,e,_,_,s',l'⟩=>⟨SqL.of (s' _ _ RR.lst),by rw[e];unfold fF;rw[aZ];exact l'⟩) ⟨[],rfl,(fun _ h=>nomatch h),rfl,(fun _ _ e=>e),bQ _⟩ (fun i x ys H' hx ⟨zs,e,hz,ez,s',l'⟩=>?_) (fun ys H' ⟨zs,e,hz,ez,s',l'⟩=>?_)
  ·obtain⟨a,r,rfl,ha,hrr,hat⟩:=(RR.same s').get hx
   obtain⟨xs,g,x0,x1,x2⟩:=bO hat
   have etk:=cE hrr
   have esn:gY (rs.take i++[r])=gY (rs.take i)++gY [r]:=by unfold gY;rw[List.filterMap_append]
   dsimp only [aK];refine⟨_,SqT.of g,_,x0,?_⟩
   show if decide (bH r="has")=true then _ else _
   refine aQ (fun h=>?_) (fun h=>?_)
   ·obtain⟨z,m,rfl⟩:=zP (of_decide_eq_true h)
    refine⟨_,hat,fun tp H2 s2 g2=>⟨zs++[(tp,z,(m:Int))],by rw[e];unfold fF;rw[iB];rfl,fun y hy=>?_,?_,s'.trans s2,by simp;omega⟩⟩
    ·rcases aH hy with hy | rfl
     ·exact s2 _ _ (hz y hy)
     ·exact g2
    ·rw[iB,ez,etk,esn];rfl
   ·refine⟨zs,e,hz,?_,s',Zo⟩
    rw[ez,etk,esn];have:gY [r]=[]:=by
     cases r with
     | has z m=>exact absurd rfl (of_decide_eq_false h)
     | _=>rfl
    rw[this,List.append_nil]
  ·intro l hll;rw[aZ]at l' ez;rw[<- le,vR (bQ _)]at ez;have s1:Same H (aI H' l (.lst ys)):=s'.trans (aF hll)
   have gl:(aI H' l (.lst ys)) l=some (.lst (fF zs)):=by rw[aA,e]
   have hz1:Ee (aI H' l (.lst ys)) zs:=fun z hzz=>aN (hz z hzz) hll
   generalize aI H' l (.lst ys)=H1 at s1 gl hz1;intro x dx hx hdx hne;have sB:Same H1 (aI (aI H1 dx (.own x)) x (.ins C dx [])):=fun c o e=>by
    rw[aD (aE e hx),aD (aE e hdx)];exact e
   refine⟨x,dx,.ref l,zs.map (·.2),rfl,aA,.inr ⟨l,zs,rfl,sB _ _ gl,fun z hzz=>sB _ _ (hz1 z hzz),rfl⟩,by rw[ez];exact vP hw,by rw[aZ];omega,fun H2 d hd h1 h2 k=>⟨rfl,?_⟩⟩
   rw[ez]at h2;refine q x dx d H2 (s1.free hx) (s1.free (sB.free hd)) h1 h2 (fun c o e=>k _ _ (sB _ _ (s1 _ _ e)) (aE (s1 _ _ e) hx))
theorem Rs {H:Hp} {ra:Addr} {rs:List RX} {as:List Addr} (hw:RX.Whole rs) (RR:RxsAt H ra rs as) {n t:Nat} {p k:Str} {x:Dd} (hm:.came n t p k x∈rs):∃(a b:Addr) (t':Nat),bC (bD [] (jA "came" rs as rs.length)) (Sum.inl (n:Int))=some (.ref a)/\H a=some (.tup [.str "came",.int (n:Int),.int (t':Int),.str p,.str k,.ref b])/\H b=some (.tup x.vs):=by
 obtain⟨j,r',a',hv,hj1,hj2,hj3,hj4⟩:=Mm RR.len hm (wd:="came") rfl
 obtain⟨n',t',p',k',x',rfl⟩:=vA hj3
 have en:n=n':=by
  have:(Sum.inl (n:Int):bA)=Sum.inl (n':Int):=hj4
  injection this with this
  omega
 subst en;have ecm:=fV hw hm (jW hj1)
 injection ecm with _ _ e1 e2 e3
 subst e1;subst e2;subst e3
 obtain⟨aj,rj,e0,hj2',hj1',hatj⟩:=RR.get (i:=j) (v:=.ref a') (by rw[jC,hj2];rfl)
 injection e0 with e0
 subst e0;rw[hj1]at hj1';injection hj1' with e0
 subst e0;obtain⟨bx,gj,gj2⟩:=hatj
 exact⟨a',bx,t',hv,gj,gj2⟩
theorem qR (rs:List RX) (r:RX):gP (rs++[r])=gP rs++gP [r]:=by unfold gP;rw[List.filterMap_append]
end
end KL
namespace KL
open PySem L2
section
variable {P:Program} {w:World} {K:W.Frag} {mg:Str->Option Value} {base:Heap}
theorem Aa (T:Txt K mg) (D:DefAt K mg "done_changes" dC ["deed"]):aG P w K mg base 1 "done_changes" ["deed"] nH:=by
 refine D.go jH (fun vs H Q E h=>?_) (fun f cdv A outer s H vs Q E hr h=>?_)
 ·obtain⟨p,wd,xs,cs,as,rfl,_⟩:=h;rfl
 ·obtain⟨p,wd,xs,cs,as,rfl,hp,⟨one,other,nm,n,hd⟩,q⟩:=h
  refine⟨_,(R.ae (R.ar (R.al R.eq (R.ix (R.ag (K:=K)) (R.v 0) R.ac) R.af) (R.ah (R.ai (R.aq R.ad))) R.au) (R.ae (R.ar (R.al R.eq (R.ix (R.ag (K:=K)) (R.v 0) R.ac) R.af) (R.ah (R.ai (R.aq (R.aa (R.aq (R.aa (R.ix (R.ag (K:=K)) (R.v 0) R.ac) (R.aa (R.bf (R.ix (R.ag (K:=K)) (R.v 0) (R.bf R.ac))) R.ad))) (R.aa (R.aq (R.aa (R.ix (R.ag (K:=K)) (R.v 0) R.ac) (R.aa (R.ix (R.ag (K:=K)) (R.v 0) (R.bf R.ac)) R.ad))) R.ad))))) R.au) (R.ae (R.ar (R.al (R.bc (K:=K)) (R.ix (R.ag (K:=K)) (R.v 0) R.ac) (R.aq (R.aa R.af (R.aa R.af R.ad)))) (R.ah (R.ai (R.aq (R.aa (R.aq (R.aa (R.ix (R.ag (K:=K)) (R.v 0) (R.bf R.ac)) (R.aa (R.bf (R.ix (R.ag (K:=K)) (R.v 0) (R.bf R.ac))) R.ad))) R.ad)))) R.au) (R.ah (R.ai (R.aq (R.aa (R.aq (R.aa (R.ix (R.ag (K:=K)) (R.v 0) (R.bf R.ac)) (R.aa (R.ix (R.ag (K:=K)) (R.v 0) (R.bf R.ac)) R.ad))) R.ad))))))),?_⟩
  have z1:∀ {H':Hp} {a:Addr} {x:Str} {i:Int},H' a=some (.tup [.str x,.int i])->Ee H' [(a,x,i)]:=fun h z hz=>by
   rw[Zms.mp hz];exact h
  have two:∀(nm:Str) (i:Int),H p=some (.tup xs)->mW xs (-2)=some (.str nm)->mW xs (-1)=some (.int i)->True:=fun _ _ _ _ _=>trivial
  cases hd with
  | add=>
   refine⟨_,SqT.of hp,_,rfl,?_⟩
   refine⟨_,SqT.of hp,_,rfl,?_⟩
   refine⟨_,SqT.of hp,_,rfl,Zs,fun p1 H1 s1 g1=>⟨p1,_,rfl,.inr (SqT.of g1),rfl,rfl,?_⟩⟩
   refine⟨_,SqT.of (s1 _ _ hp),_,rfl,_,SqT.of (s1 _ _ hp),_,rfl,Zs,fun p2 H2 s2 g2=>⟨Zs,fun p3 H3 s3 g3=>q p3 [(p2,nm,n)] H3 ((s1.trans s2).trans s3) g3 (z1 (s3 _ _ g2)) rfl⟩⟩
  | take=>
   refine⟨_,SqT.of hp,_,rfl,?_⟩
   refine⟨_,SqT.of hp,_,rfl,?_⟩
   refine⟨_,SqT.of hp,_,rfl,Zs,fun p1 H1 s1 g1=>⟨p1,_,rfl,.inr (SqT.of g1),rfl,rfl,?_⟩⟩
   refine⟨_,SqT.of (s1 _ _ hp),_,rfl,_,SqT.of (s1 _ _ hp),_,rfl,Zs,fun p2 H2 s2 g2=>⟨Zs,fun p3 H3 s3 g3=>q p3 [(p2,nm,-n)] H3 ((s1.trans s2).trans s3) g3 (z1 (s3 _ _ g2)) rfl⟩⟩
  | move=>
   refine⟨_,SqT.of hp,_,rfl,?_⟩
   refine⟨_,SqT.of hp,_,rfl,?_⟩
   refine⟨_,SqT.of hp,_,rfl,_,SqT.of hp,_,rfl,Zs,fun p2 H2 s2 g2=>⟨_,SqT.of (s2 _ _ hp),_,rfl,_,SqT.of (s2 _ _ hp),_,rfl,Zs,fun p3 H3 s3 g3=>⟨Zs,fun p4 H4 s4 g4=>?_⟩⟩⟩
   refine q p4 [(p2,one,-n),(p3,other,n)] H4 ((s2.trans s3).trans s4) g4 (fun z hz=>?_) rfl
   rcases List.mem_cons.mp hz with rfl | hz
   ·exact s4 _ _ (s3 _ _ g2)
   ·rw[Zms.mp hz];exact s4 _ _ g3
  | send=>
   refine⟨_,SqT.of hp,_,rfl,?_⟩
   refine⟨_,SqT.of hp,_,rfl,?_⟩
   refine⟨_,SqT.of hp,_,rfl,Zs,fun p1 H1 s1 g1=>⟨p1,_,rfl,.inr (SqT.of g1),rfl,rfl,?_⟩⟩
   refine⟨_,SqT.of (s1 _ _ hp),_,rfl,_,SqT.of (s1 _ _ hp),_,rfl,Zs,fun p2 H2 s2 g2=>⟨Zs,fun p3 H3 s3 g3=>q p3 [(p2,nm,-n)] H3 ((s1.trans s2).trans s3) g3 (z1 (s3 _ _ g2)) rfl⟩⟩
  | fetch=>
   refine⟨_,SqT.of hp,_,rfl,?_⟩
   refine⟨_,SqT.of hp,_,rfl,?_⟩
   refine⟨_,SqT.of hp,_,rfl,Zs,fun p1 H1 s1 g1=>⟨p1,_,rfl,.inr (SqT.of g1),rfl,rfl,?_⟩⟩
   refine⟨_,SqT.of (s1 _ _ hp),_,rfl,_,SqT.of (s1 _ _ hp),_,rfl,Zs,fun p2 H2 s2 g2=>⟨Zs,fun p3 H3 s3 g3=>q p3 [(p2,nm,n)] H3 ((s1.trans s2).trans s3) g3 (z1 (s3 _ _ g2)) rfl⟩⟩
  | pass=>
   refine⟨_,SqT.of hp,_,rfl,?_⟩
   exact⟨Zd,fun p1 H1 s1 g1=>q p1 [] H1 s1 g1 (fun _ h=>nomatch h) rfl⟩
theorem xW {H:Hp} {zs:List Z} (h:Ee H zs) {i:Nat} {x:V} (hx:(fF zs)[i]?=some x):∃z,zs[i]?=some z/\x=.ref z.1/\H z.1=some (.tup [.str z.2.1,.int z.2.2]):=by
 unfold fF at hx;rw[jC]at hx;cases hn:zs[i]? with
 | none=>rw[hn]at hx;cases hx
 | some z=>
  rw[hn]at hx;cases hx
  exact⟨z,rfl,rfl,h z (jW hn)⟩
theorem qS {C:Addr} (T:Txt K mg) (B:Wo K C) (c_done_changes:aG P w K mg base 1 "done_changes" ["deed"] nH) (c_Book_amount:sJ P w K mg base 1 C "amount" ["self","name"] (iG C))
  (D:DefAt K mg "done_answer" dP ["book","deed"]):aG P w K mg base 2 "done_answer" ["book","deed"] (nJ C):=by
 refine D.go qA (fun vs H Q E h=>?_) (fun f cdv A outer s H vs Q E hr h=>?_)
 ·obtain⟨b,p,wd,xs,cs,as,prs,rfl,_⟩:=h;rfl
 ·obtain⟨b,p,wd,xs,cs,as,prs,rfl,bk,hp,hd,q⟩:=h
  have hr_done_changes:=hr
  have hr_Book_amount:=hr
  refine⟨_,(R.ah (R.ai (R.ee (R.jw (K:=K)) rfl T.b_tuple wG (R.aa (R.op R.bh (R.az (R.aa R.af R.ad)) (R.bi rfl (js:=[none,none,some 0]) (N:=["name","by","book"]) (CompScope.by (aB dP) ["book","deed"] rfl rfl Zk) (pL (eQ rfl (eQ rfl nB))) (R.fj (K:=K) (R.fn c_done_changes hr_done_changes rfl (R.aa (R.v 1) R.ad))) (fun C s₂ H₂ fp=>⟨(R.dt (K:=K) (n:=2) rfl (R.bp (R.gn (i:=0) (show(["name","by","book"]:List Str).Nodup by decide +kernel)) (R.bp (R.gn (i:=1) (show(["name","by","book"]:List Str).Nodup by decide +kernel)) R.du))),R.dn,(R.op R.ay (R.cq c_Book_amount hr_Book_amount (R.v 2) (R.aa (R.v 0) R.ad)) (R.v 1))⟩))) R.ad)))),?_⟩
  refine⟨eK rfl,fun l0 h0=>⟨p,wd,xs,cs,as,rfl,aF h0 _ _ hp,hd,fun t zs H1 s1 g1 hz hm=>⟨t,rfl,⟨_,SqT.of g1⟩,?_⟩⟩⟩
  have s01:Same H H1:=(aF h0).trans s1
  have bk1:=bk.same s01
  have hlen:zs.length<=2:=by
   obtain⟨one,other,nm,n,hd⟩:=hd
   have:=congrArg List.length hm
   rw[aZ]at this;rw[this];cases hd <;> simp
  refine bT (lJ K t (fF zs)) (by unfold fF;rw[aZ];omega) (fun i ys H'=>H'=H1/\ys=((zs.map (·.2)).take i).map fun q=>V.int (dM prs q.1+q.2)) (fun i ys H' ⟨e,e2⟩=>⟨by rw[e];exact SqT.of g1,by rw[e2,aZ,jD];exact Nat.min_le_left _ _⟩) ⟨rfl,rfl⟩ (fun i x ys H' hx ⟨e,e2⟩=>?_) (fun ys H' ⟨e,e2⟩=>?_)
  ·subst e;obtain⟨z,hn,rfl,gz⟩:=xW hz hx
   obtain⟨dx,d,h1,h2⟩:=id bk1.ex
   refine⟨z.1,_,rfl,SqT.of gz,rfl,_,_,rfl,_,_,rfl,rfl,dx,_,h1,pV _ Zk,b,z.2.1,prs,rfl,bk1,rfl,?_⟩
   rw[cE (x:=z.2) (by rw[jC,hn];rfl),iB,e2]
   rfl
  ·subst e;intro l1 h1;have e3:ys=cs.map fun q=>V.int (dM prs q.1+q.2):=by
    rw[e2,hm];have:(fF zs).length=cs.length:=by rw[<- hm];unfold fF;rw[aZ,aZ]
    rw[this,List.take_length]
   have gl0:H' l0=some (.lst [.str "is"]):=s1 _ _ aA
   refine⟨[.str "is"],ys,aF h1 _ _ gl0,aA,fA (by rw[e3,aZ,<- hm,aZ];simp;omega),fun l2 h2=>⟨_,SqL.of aA,fun t2 ht2=>?_⟩⟩
   refine q t2 _ (((s01.trans (aF h1)).trans (aF h2)).trans (aF ht2)) ?_
   rw[aA,e3];rfl
theorem Mv {C:Addr} (T:Txt K mg) (B:Wo K C) (c_done_changes:aG P w K mg base 1 "done_changes" ["deed"] nH) (c_asks_of:aG P w K mg base 1 "asks_of" ["deed"] kZ) (c_Book_amount:sJ P w K mg base 1 C "amount" ["self","name"] (iG C))
  (c_done_answer:aG P w K mg base 2 "done_answer" ["book","deed"] (nJ C)) (D:DefAt K mg "early" oV ["book","deed"]):aG P w K mg base 3 "early" ["book","deed"] (Bj C):=by
 refine D.go lS (fun vs H Q E h=>?_) (fun f cdv A outer s H vs Q E hr h=>?_)
 ·obtain⟨b,p,wd,xs,cs,as,prs,rfl,_⟩:=h;rfl
 ·obtain⟨b,p,wd,xs,cs,as,prs,rfl,bk,hp,hd,q⟩:=h
  have hr_done_changes:Room 1 _:=hr.mono Zd
  have hr_asks_of:Room 1 _:=hr.mono Zd
  have hr_Book_amount:Room 1 _:=hr.mono Zd
  have hr_done_answer:=hr
  refine⟨_,(R.ae (R.dh PassesOwn.never rfl (R.fj (K:=K) (R.fn c_done_changes hr_done_changes rfl (R.aa (R.v 1) R.ad))) (R.dt (K:=K) (n:=2) rfl (R.bp (R.gn (i:=2) lS.nd) (R.bp (R.gn (i:=3) lS.nd) R.du))) (R.ae (R.ao (i:=4) lS.nd (R.cq c_Book_amount hr_Book_amount (R.v 0) (R.aa (R.v 2) R.ad))) (R.ae (R.ar (R.tw (R.bt (R.al R.lt (R.v 3) R.ac) (R.cj (R.al R.lt (R.op R.ay (R.v 4) (R.v 3)) R.ac)))) (R.ah (R.ai (R.aq (R.aa R.af (R.aa (R.v 4) R.ad))))) R.au) (R.ah (R.ar (R.tw (R.bt (R.al R.gt (R.v 3) R.ac) (R.cj (R.al R.gt (R.op R.ay (R.v 4) (R.v 3)) (R.gI rfl T.g_MOST))))) (R.ah (R.ai (R.aq (R.aa R.af (R.aa (R.v 4) R.ad))))) R.au))))) (R.ae (R.ar (R.al R.gt (R.ax (R.ba (K:=K)) rfl T.b_len aO (R.aa (R.fn c_asks_of hr_asks_of rfl (R.aa (R.v 1) R.ad)) R.ad)) R.ac) (R.ah (R.ai R.bu)) R.au) (R.ah (R.ai (R.fn c_done_answer hr_done_answer rfl (R.aa (R.v 0) (R.aa (R.v 1) R.ad))))))),?_⟩
  refine⟨p,wd,xs,cs,as,rfl,hp,hd,fun t zs H1 s1 g1 hz hm=>⟨t,rfl,⟨_,SqT.of g1⟩,?_⟩⟩
  have bk1:=bk.same s1
  have hp1:=s1 _ _ hp
  refine fN (lJ K t (fF zs)) (fun i σ H'=>Same H1 H'/\(∃o2 o3 o4:Option V,σ=[some (.ref b),some (.ref p),o2,o3,o4])/\iH (dM prs) (lO (dM prs) cs as) cs=iH (dM prs) (lO (dM prs) cs as) (cs.drop i)) (fun i σ H' ⟨s',_⟩=>SqT.of (s' _ _ g1)) ⟨Same.refl _,⟨_,_,_,rfl⟩,rfl⟩ ?_ ?_
  ·rintro i x σ H2 hx ⟨s2,⟨o2,o3,o4,rfl⟩,he⟩
   obtain⟨z,hn,rfl,gz⟩:=xW (fun z m=>s2 _ _ (hz z m)) hx
   have bk2:=bk1.same s2
   obtain⟨dx,d,h1,h2⟩:=id bk2.ex
   have hcs:cs.drop i=z.2::cs.drop (i+1):=by
    have:cs[i]?=some z.2:=by rw[<- hm,jC,hn];rfl
    obtain⟨hi,e⟩:=Zgs.mp this
    rw[List.drop_eq_getElem_cons hi,e]
   rw[hcs,wM]at he;refine⟨z.1,_,rfl,SqT.of gz,rfl,_,_,rfl,_,_,rfl,rfl,dx,_,h1,pV _ Zk,b,z.2.1,prs,rfl,bk2,?_⟩
   dsimp only [aK];have fin:∀u:TV,iH (dM prs) (lO (dM prs) cs as) cs=u->∀v H',Same H2 H'->RepT H' 1 u v->Q v H':=fun u e v H' s' r=>q v H' ((s1.trans s2).trans s') (by rw[e];exact r)
   refine aAy (t:=Nd _ _) (fun v H'=>v=decide (z.2.2<0/\dM prs z.2.1+z.2.2<0)/\H'=H2) (fun k hk=>?_) ?_
   ·refine aQ (fun h=>?_) (fun h=>?_)
    ·exact hk _ _ ⟨by rw[Bool.decide_and,h];rfl,rfl⟩
    ·exact hk _ _ ⟨by rw[Bool.decide_and,h];rfl,rfl⟩
   rintro v H' ⟨rfl,rfl⟩
   refine aQ (fun h=>?_) (fun h=>?_)
   ·rw[if_pos (of_decide_eq_true h)]at he;exact⟨Zs,fun t2 H3 s3 g3=>fin _ he _ H3 s3 ⟨t2,_,rfl,g3,.cons .s (.cons .i .nil)⟩⟩
   rw[if_neg (of_decide_eq_false h)]at he;dsimp only [kP];refine aAy (t:=Nd _ _) (fun v H''=>v=decide (0<z.2.2/\1000000000000<dM prs z.2.1+z.2.2)/\H''=H') (fun k hk=>?_) ?_
   ·refine aQ (fun h=>?_) (fun h=>?_)
    ·exact hk _ _ ⟨by rw[Bool.decide_and,h];rfl,rfl⟩
    ·exact hk _ _ ⟨by rw[Bool.decide_and,h];rfl,rfl⟩
   rintro v H'' ⟨rfl,rfl⟩
   refine aQ (fun h=>?_) (fun h=>?_)
   ·rw[if_pos (of_decide_eq_true h)]at he;exact⟨Zs,fun t2 H3 s3 g3=>fin _ he _ H3 s3 ⟨t2,_,rfl,g3,.cons .s (.cons .i .nil)⟩⟩
   rw[if_neg (of_decide_eq_false h)]at he;exact⟨s2,⟨_,_,_,rfl⟩,he⟩
  ·rintro σ H2 ⟨s2,⟨o2,o3,o4,rfl⟩,he⟩
   have el:(fF zs).length=cs.length:=by rw[<- hm];unfold fF;rw[aZ,aZ]
   rw[el,List.drop_length]at he;have he':iH (dM prs) (lO (dM prs) cs as) cs=lO (dM prs) cs as:=he
   refine⟨p,wd,xs,cs,as,rfl,s2 _ _ hp1,hd,fun t2 us H3 s3 g3 ha=>⟨us,.inr (SqT.of g3),?_⟩⟩
   have el2:us.length=as.length:=ha.length.symm
   refine aQ (fun h=>?_) (fun h=>?_)
   ·have h':0<us.length:=by have:=of_decide_eq_true h;omega
    refine q _ H3 ((s1.trans s2).trans s3) ?_
    rw[he'];unfold lO;rw[if_neg (fun e=>by rw[el2,e]at h';exact absurd h' (Nat.lt_irrefl _))]
    exact RepT.scal rfl
   ·have h':¬ 0<us.length:=by have:=of_decide_eq_false h;omega
    have e0:as=[]:=List.length_eq_zero_iff.mp Zo
    refine⟨b,p,wd,xs,cs,as,prs,rfl,bk1.same (s2.trans s3),s3 _ _ (s2 _ _ hp1),hd,fun t4 H4 s4 g4=>?_⟩
    refine q _ H4 (((s1.trans s2).trans s3).trans s4) ?_
    rw[he'];unfold lO;rw[if_pos e0];exact⟨t4,_,rfl,g4,uO (Jo _ _)⟩
def xX (f:Str->Int) (wd:Str) (cs:List (Str × Int)) (as:List (Str × List V)) (h:Nat):TV:=match as[h]? with
 | some q=>.tp [tS "no",tS q.1]
 | none=>if wd="pass" then .tp [tS "ok"] else .tp ((isT f cs).map .sc)
def Mw (C:Addr):Sp:=fun vs H Q _=>∃b p wd xs cs as prs,∃h:Nat,vs=[.ref b,.ref p,.int h]/\BookAt C H b prs/\H p=some (.tup xs)/\Ss wd xs cs as/\∀v H',Same H H'->RepT H' 1 (xX (dM prs) wd cs as h) v->Q v H'
theorem Rt {C:Addr} (T:Txt K mg) (B:Wo K C) (c_asks_of:aG P w K mg base 1 "asks_of" ["deed"] kZ) (c_done_answer:aG P w K mg base 2 "done_answer" ["book","deed"] (nJ C)) (D:DefAt K mg "late" uV ["book","deed","heard"]):aG P w K mg base 3 "late" ["book","deed","heard"] (Mw C):=by
 refine D.go Bo (fun vs H Q E h=>?_) (fun f cdv A outer s H vs Q E hr h=>?_)
 ·obtain⟨b,p,wd,xs,cs,as,prs,hh,rfl,_⟩:=h;rfl
 ·obtain⟨b,p,wd,xs,cs,as,prs,hh,rfl,bk,hp,hd,q⟩:=h
  have hr_asks_of:Room 1 _:=hr.mono Zd
  have hr_done_answer:=hr
  refine⟨_,(R.ae (R.ao (i:=3) Bo.nd (R.fn c_asks_of hr_asks_of rfl (R.aa (R.v 1) R.ad))) (R.ae (R.ar (R.al R.lt (R.v 2) (R.ax (R.ba (K:=K)) rfl T.b_len aO (R.aa (R.v 3) R.ad))) (R.ah (R.ai (R.aq (R.aa R.af (R.aa (R.ix (R.ag (K:=K)) (R.ix (R.ag (K:=K)) (R.v 3) (R.v 2)) R.ac) R.ad))))) R.au) (R.ae (R.ar (R.al R.eq (R.ix (R.ag (K:=K)) (R.v 1) R.ac) R.af) (R.ah (R.ai (R.aq (R.aa R.af R.ad)))) R.au) (R.ah (R.ai (R.fn c_done_answer hr_done_answer rfl (R.aa (R.v 0) (R.aa (R.v 1) R.ad)))))))),?_⟩
  refine⟨p,wd,xs,cs,as,rfl,hp,hd,fun t us H1 s1 g1 ha=>?_⟩
  dsimp only [aK];have el:=ha.length
  refine⟨us,.inr (SqT.of g1),?_⟩
  refine aQ (fun h=>?_) (fun h=>?_)
  ·have h':hh<us.length:=by have:=of_decide_eq_true h;omega
   obtain⟨h2,a,d,e,ga,gd⟩:=Paired.get' (j:=hh) ha h'
   have e':us[hh]?=some (.ref a):=by rw[gZ h',e]
   refine⟨us,SqT.of g1,_,bJ e',_,SqT.of ga,_,rfl,Zs,fun t2 H2 s2 g2=>q _ H2 (s1.trans s2) ?_⟩
   unfold xX;rw[gZ h2];exact⟨t2,_,rfl,g2,.cons .s (.cons .s .nil)⟩
  ·have h':¬ hh<us.length:=by have:=of_decide_eq_false h;omega
   have en:as[hh]?=none:=List.getElem?_eq_none Zo
   have hp1:=s1 _ _ hp
   refine⟨_,SqT.of hp1,_,Bp hd,?_⟩
   show if decide (wd="pass")=true then _ else _
   refine aQ (fun h=>?_) (fun h=>?_)
   ·refine⟨Zs,fun t2 H2 s2 g2=>q _ H2 (s1.trans s2) ?_⟩
    unfold xX;rw[en];dsimp only;rw[if_pos (of_decide_eq_true h)];exact⟨t2,_,rfl,g2,.cons .s .nil⟩
   ·refine⟨b,p,wd,xs,cs,as,prs,rfl,bk.same s1,hp1,hd,fun t2 H2 s2 g2=>q _ H2 (s1.trans s2) ?_⟩
    unfold xX;rw[en];dsimp only;rw[if_neg (of_decide_eq_false h)];exact⟨t2,_,rfl,g2,uO (Jo _ _)⟩
end
end KL
namespace KL
open PySem L2
section
variable {P:Program} {w:World} {K:W.Frag} {mg:Str->Option Value} {base:Heap}
def jB (f:Str->Nat) (x:Dd):List An:=match bE f x with | some y=>[y] | none=>cA f x
theorem Mx {f:Str->Nat} {x:Dd} {y:An} (h:y∈jB f x):∃q,vL f x q y:=by
 unfold jB at h;cases e:bE f x with
 | some y'=>rw[e]at h;rw[Zms.mp h];exact⟨false,.inl ⟨rfl,e⟩⟩
 | none=>rw[e]at h;exact⟨true,.inr ⟨rfl,e,h⟩⟩
theorem Ab (x:Dd):Ss x.wd x.vs (mJ x) (dQ x):=by
 cases x with
 | add a n=>exact⟨a,a,a,_,.add⟩
 | take a n=>exact⟨a,a,a,_,.take⟩
 | move a b n=>exact⟨a,b,a,_,.move⟩
 | send g a n=>exact⟨g,a,a,_,.send⟩
 | fetch g a n=>exact⟨g,a,a,_,.fetch⟩
 | pass g g' a n=>exact⟨g,g',a,_,.pass⟩
theorem Ac {prs:List (Str × Int)} {f:Str->Nat} (am:∀z,dM prs z=(f z:Int)) {x:Dd} (hx:x.Ok) :
  iH (dM prs) (lO (dM prs) (mJ x) (dQ x)) (mJ x)=(match bE f x with | some y=>RX.tvs y.vs | none=>.sc .non):=by
 have hn:=hx.n
 cases x with
 | add a n=>
  have hn:1<=n/\n<=1000000000000:=hn
  show(if (n:Int)<0/\dM prs a+(n:Int)<0 then _ else if 0<(n:Int)/\1000000000000<dM prs a+(n:Int) then TV.tp [tS "full",tI (dM prs a)] else TV.tp [tS "is",tI (dM prs a+(n:Int))])=(match (if 1000000000000<f a+n then some (An.full (f a)) else some (.is1 (f a+n))) with | some y=>RX.tvs y.vs | none=>.sc .non)
  rw[if_neg Zo,am]
  by_cases h:1000000000000<f a+n
  ·rw[if_pos h,if_pos Zo];rfl
  ·rw[if_neg h,if_neg Zo];rfl
 | take a n=>
  have hn:1<=n/\n<=1000000000000:=hn
  show(if -(n:Int)<0/\dM prs a+-(n:Int)<0 then TV.tp [tS "short",tI (dM prs a)] else if 0 < -(n:Int)/\1000000000000<dM prs a+-(n:Int) then _ else TV.tp [tS "is",tI (dM prs a+-(n:Int))])=(match (if f a<n then some (An.short (f a)) else some (.is1 (f a - n))) with | some y=>RX.tvs y.vs | none=>.sc .non)
  rw[am];by_cases h:f a<n
  ·rw[if_pos h,if_pos Zo];rfl
  ·rw[if_neg h,if_neg Zo,if_neg Zo,show(f a:Int)+-(n:Int)=((f a - n:Nat):Int) by omega];rfl
 | move a b n=>
  have hn:1<=n/\n<=1000000000000:=hn
  show(if -(n:Int)<0/\dM prs a+-(n:Int)<0 then TV.tp [tS "short",tI (dM prs a)] else if 0 < -(n:Int)/\1000000000000<dM prs a+-(n:Int) then TV.tp [tS "full",tI (dM prs a)] else if (n:Int)<0/\dM prs b+(n:Int)<0 then TV.tp [tS "short",tI (dM prs b)] else if 0<(n:Int)/\1000000000000<dM prs b+(n:Int) then TV.tp [tS "full",tI (dM prs b)] else TV.tp [tS "is",tI (dM prs a+-(n:Int)),tI (dM prs b+(n:Int))])=(match (if f a<n then some (An.short (f a)) else if 1000000000000<f b+n then some (.full (f b)) else some (.is2 (f a - n) (f b+n))) with | some y=>RX.tvs y.vs | none=>.sc .non)
  rw[am,am];by_cases h:f a<n
  ·rw[if_pos h,if_pos Zo];rfl
  ·rw[if_neg h,if_neg Zo,if_neg Zo,if_neg Zo]
   by_cases h2:1000000000000<f b+n
   ·rw[if_pos h2,if_pos Zo];rfl
   ·rw[if_neg h2,if_neg Zo,show(f a:Int)+-(n:Int)=((f a - n:Nat):Int) by omega];rfl
 | send g a n=>
  have hn:1<=n/\n<=1000000000000:=hn
  show(if -(n:Int)<0/\dM prs a+-(n:Int)<0 then TV.tp [tS "short",tI (dM prs a)] else if 0 < -(n:Int)/\1000000000000<dM prs a+-(n:Int) then _ else TV.sc .non)=(match (if f a<n then some (An.short (f a)) else none) with | some y=>RX.tvs y.vs | none=>.sc .non)
  rw[am];by_cases h:f a<n
  ·rw[if_pos h,if_pos Zo];rfl
  ·rw[if_neg h,if_neg Zo,if_neg Zo]
 | fetch g a n=>
  have hn:1<=n/\n<=1000000000000:=hn
  show(if (n:Int)<0/\dM prs a+(n:Int)<0 then _ else if 0<(n:Int)/\1000000000000<dM prs a+(n:Int) then TV.tp [tS "full",tI (dM prs a)] else TV.sc .non)=(match (if 1000000000000<f a+n then some (An.full (f a)) else none) with | some y=>RX.tvs y.vs | none=>.sc .non)
  rw[if_neg Zo,am]
  by_cases h:1000000000000<f a+n
  ·rw[if_pos h,if_pos Zo];rfl
  ·rw[if_neg h,if_neg Zo]
 | pass g g' a n=>rfl
theorem Fs {prs:List (Str × Int)} {f:Str->Nat} (am:∀z,dM prs z=(f z:Int)) {x:Dd} (hx:x.Ok) (he:bE f x=none) {h:Nat} {y:An} (hy:(cA f x)[h]?=some y) :
  xX (dM prs) x.wd (mJ x) (dQ x) h=RX.tvs y.vs:=by
 cases x with
 | send g a n=>
  have hn:n<=f a:=by
   by_cases hh:f a<n
   ·rw[show bE f (.send g a n)=some (.short (f a)) from if_pos hh]at he;cases he
   ·omega
  match h,hy with
  | 0,hy=>cases hy;rfl
  | 1,hy=>
   cases hy
   show TV.tp [tS "is",tI (dM prs a+-(n:Int))]=_
   rw[am,show(f a:Int)+-(n:Int)=((f a - n:Nat):Int) by omega];rfl
  | h+2,hy=>cases hy
 | fetch g a n=>
  match h,hy with
  | 0,hy=>cases hy;rfl
  | 1,hy=>
   cases hy
   show TV.tp [tS "is",tI (dM prs a+(n:Int))]=_
   rw[am];rfl
  | h+2,hy=>cases hy
 | pass g g' a n=>
  match h,hy with
  | 0,hy=>cases hy;rfl
  | 1,hy=>cases hy;rfl
  | 2,hy=>cases hy;rfl
  | h+3,hy=>cases hy
 | _=>cases hy
theorem Cq {H:Hp} {xs:List V} {v:V} (h:RepT H 1 (RX.tvs xs) v):∃a,v=.ref a/\H a=some (.tup xs):=by
 obtain⟨a,ys,rfl,g,p⟩:=h
 have:∀ {xs ys:List V},Paired (RepT H 0) (xs.map TV.sc) ys->ys=xs:=by
  intro xs;induction xs with
  | nil=>intro ys p;cases p;rfl
  | cons x xs ih=>intro ys p;cases p with | cons h t=>rw[ih t,h.1]
 rw[this p]at g;exact⟨a,rfl,g⟩
theorem nS {f:Str->Nat} {x:Dd} (he:bE f x=none):(cA f x).length=(dQ x).length+1:=by
 cases x with
 | add a n=>simp only [bE]at he;split at he <;> cases he
 | take a n=>simp only [bE]at he;split at he <;> cases he
 | move a b n=>simp only [bE]at he;split at he <;> first | cases he | (split at he <;> cases he)
 | _=>rfl
def Ti (H:Hp) (zs:List (Addr × An)):Prop:=∀z∈zs,H z.1=some (.tup z.2.vs)
def aA4 (C:Addr):Sp:=fun vs H Q _=>∃(b p:Addr) (x:Dd) (prs:List (Str × Int)) (f:Str->Nat),vs=[.ref b,.ref p]/\BookAt C H b prs/\H p=some (.tup x.vs)/\x.Ok/\(∀z,dM prs z=(f z:Int)) ∧
 ∀(l:Addr) (zs:List (Addr × An)) (H':Hp),H' l=some (.lst (zs.map fun z=>V.ref z.1))->Ti H' zs->zs.map (·.2)=jB f x->Same H H'->Q (.ref l) H'
theorem nU {C:Addr} (T:Txt K mg) (c_early:aG P w K mg base 3 "early" ["book","deed"] (Bj C)) (c_late:aG P w K mg base 3 "late" ["book","deed","heard"] (Mw C)) (c_asks_of:aG P w K mg base 1 "asks_of" ["deed"] kZ)
  (D:DefAt K mg "right_answers" cW ["book","deed"]):aG P w K mg base 4 "right_answers" ["book","deed"] (aA4 C):=by
 refine D.go hV (fun vs H Q E h=>?_) (fun f cdv A outer s H vs Q E hr h=>?_)
 ·obtain⟨b,p,x,prs,f,rfl,_⟩:=h;rfl
 ·obtain⟨b,p,x,prs,f,rfl,bk,gp,hx,am,q⟩:=h
  have hr_early:Room 3 _:=hr
  have hr_late:Room 3 _:=hr
  have hr_asks_of:Room 1 _:=hr.mono Zd
  refine⟨_,(R.ae (R.ao (i:=2) hV.nd (R.fn c_early hr_early rfl (R.aa (R.v 0) (R.aa (R.v 1) R.ad)))) (R.ae (R.ar (R.al R.fm (R.v 2) R.bu) (R.ah (R.ai (R.az (R.aa (R.v 2) R.ad)))) R.au) (R.ah (R.ai (R.bi rfl (js:=[none,some 0,some 1]) (N:=["heard","book","deed"]) (CompScope.by (aB cW) ["book","deed","known"] rfl rfl Zk) (aP rfl) (R.dw rfl T.b_range (R.aa (R.op R.ay (R.ax (R.ba (K:=K)) rfl T.b_len aO (R.aa (R.fn c_asks_of hr_asks_of rfl (R.aa (R.v 1) R.ad)) R.ad)) R.ac) R.ad)) (fun C s₂ H₂ fp=>⟨(R.gn (i:=0) (show(["heard","book","deed"]:List Str).Nodup by decide +kernel)),R.dn,(R.fn c_late hr_late rfl (R.aa (R.v 1) (R.aa (R.v 2) (R.aa (R.v 0) R.ad))))⟩)))))),?_⟩
  refine⟨b,p,x.wd,x.vs,mJ x,dQ x,prs,rfl,bk,gp,Ab x,fun v H1 s1 hv=>?_⟩
  rw[Ac am hx]at hv;dsimp only [aK];cases e:bE f x with
  | some y=>
   rw[e]at hv;obtain⟨a,rfl,ga⟩:=Cq hv
   refine⟨eK rfl,fun l hl=>q l [(a,y)] _ aA (fun z hz=>?_) ?_ (s1.trans (aF hl))⟩
   ·rw[Zms.mp hz];exact aN ga hl
   ·unfold jB;rw[e];rfl
  | none=>
   rw[e]at hv;obtain⟨rfl,_⟩:=hv
   refine⟨p,x.wd,x.vs,mJ x,dQ x,rfl,s1 _ _ gp,Ab x,fun t us H2 s2 g2 ha=>⟨us,.inr (SqT.of g2),((cA f x).length:Int),?_,Zo,?_,?_⟩⟩
   ·rw[nS e,ha.length];rfl
   ·have:=nS e
    have:(dQ x).length<=2:=by cases x <;> exact Nat.le_of_ble_eq_true rfl
    omega
   ·have hll:(cA f x).length<=3:=by
     have:=nS e
     have:(dQ x).length<=2:=by cases x <;> exact Nat.le_of_ble_eq_true rfl
     omega
    have eN:((cA f x).length:Int).toNat=(cA f x).length:=by omega
    refine bT (dZ 0 ((cA f x).length:Int).toNat) (by rw[eJ];omega) (fun i ys H'=>∃zs:List (Addr × An),ys=zs.map (fun z=>V.ref z.1)/\Ti H' zs/\zs.map (·.2)=(cA f x).take i/\Same H H') (fun i ys H' ⟨zs,e1,_,e2,_⟩=>⟨trivial,?_⟩) ⟨[],rfl,(fun _ h=>nomatch h),rfl,s1.trans s2⟩ (fun i v ys H' hv' ⟨zs,e1,hz,e2,s'⟩=>?_) (fun ys H' ⟨zs,e1,hz,e2,s'⟩=>?_)
    ·have:=congrArg List.length e2
     rw[aZ,jD]at this;rw[e1,aZ];omega
    ·obtain⟨rfl,hi⟩:=lC hv'
     rw[eN]at hi;have hy:(cA f x)[i]?=some (cA f x)[i]:=gZ hi
     dsimp only [aK];refine⟨b,p,x.wd,x.vs,mJ x,dQ x,prs,i,rfl,bk.same s',s' _ _ gp,Ab x,fun v' H'' s'' hv''=>?_⟩
     rw[Fs am hx e hy]at hv'';obtain⟨a,rfl,ga⟩:=Cq hv''
     refine⟨zs++[(a,(cA f x)[i])],by rw[e1,iB];rfl,fun z hz'=>?_,by rw[iB,e2,cE hy];rfl,s'.trans s''⟩
     rcases aH hz' with hz' | rfl
     ·exact s'' _ _ (hz z hz')
     ·exact ga
    ·intro l hl;rw[eJ,eN,vR (bQ _)]at e2;refine q l zs _ (by rw[aA,e1]) (fun z hz'=>aN (hz z hz') hl) ?_ (s'.trans (aF hl))
     rw[e2];unfold jB;rw[e]
end
end KL
namespace KL
open PySem L2
section
variable {P:Program} {w:World} {K:W.Frag} {mg:Str->Option Value} {base:Heap}
def qT (rs:List RX) (n:Nat):Option Dd:=rs.findSome? fun r=>match r with | .came m _ _ _ x=>if m=n then some x else none | _=>none
theorem xY {rs:List RX} (hw:RX.Whole rs) {n t:Nat} {p k:Str} {x:Dd} (hm:.came n t p k x∈rs):qT rs n=some x:=by
 unfold qT;cases e:rs.findSome? (fun r=>match r with | .came m _ _ _ x=>if m=n then some x else none | _=>none) with
 | none=>
  have:=List.findSome?_eq_none_iff.mp e _ hm
  simp at this
 | some x'=>
  obtain⟨r,hr,er⟩:=List.exists_of_findSome?_eq_some e
  cases r with
  | came m t' p' k' x''=>
   dsimp only at er
   split at er
   ·rename_i hmn
    cases er
    subst hmn;have:=fV hw hm hr
    cases this
    rfl
   ·cases er
  | _=>cases er
def Tj (rs:List RX) (f:Str->Nat):RX->(Str->Nat)
 | .done n _ y=>(match qT rs n with | some x=>after f x y | none=>f)
 | _=>f
def gQ (rs:List RX) (i:Nat):Str->Nat:=(rs.take i).foldl (Tj rs) (vM rs)
theorem qU {rs:List RX} {i:Nat} {r:RX} (h:rs[i]?=some r):gQ rs (i+1)=Tj rs (gQ rs i) r:=by
 unfold gQ;rw[cE h,List.foldl_append];rfl
def mK (rs:List RX) (i:Nat):RX->Prop
 | .done n _ y=>∀x,qT rs n=some x->y∈jB (gQ rs i) x
 | _=>True
def vQ (rs:List RX):Option Nat->Prop
 | none=>∀i r,rs[i]?=some r->mK rs i r
 | some i=>(∃r,rs[i]?=some r/\¬ mK rs i r)/\∀j r,j<i->rs[j]?=some r->mK rs j r
theorem Ft {rs:List RX} (h:∀r∈rs,cI r):∀z,vM rs z<=1000000000000:=by
 unfold vM;have:∀(rs:List RX) (f:Str->Nat),(∀r∈rs,cI r)->(∀z,f z<=1000000000000)->∀z,rs.foldl (fun f r=>match r with | .has z m=>eS f z m | _=>f) f z<=1000000000000:=by
  intro rs;induction rs with
  | nil=>intro f _ hf z;exact hf z
  | cons r rs ih=>
   intro f h hf;refine ih _ (fun q hq=>h q (oP _ hq)) ?_
   have hr:=h r jI
   cases r with
   | has z m=>exact iZ hf hr
   | _=>exact hf
 exact this rs _ h fun _=>Nat.zero_le _
theorem Mz {u v:V} (hu:(∃z,u=.str z)∨∃n,u=.int n) (hv:(∃z,v=.str z)∨∃n,v=.int n):qY u v=true↔u=v:=by
 rcases hu with⟨z,rfl⟩ | ⟨n,rfl⟩ <;> rcases hv with⟨z',rfl⟩ | ⟨n',rfl⟩ <;> simp [qY]
theorem xZ {xs ys:List V} (hx:∀u∈xs,(∃z,u=.str z)∨∃n,u=.int n) (hy:∀u∈ys,(∃z,u=.str z)∨∃n,u=.int n):kQ xs ys=true↔xs=ys:=by
 unfold kQ;rw[Bool.and_eq_true_iff];constructor
 ·rintro⟨h1,h2⟩
  have hl:xs.length=ys.length:=by simpa using h2
  refine List.ext_getElem hl fun j a b=>?_
  have:=List.all_eq_true.mp h1 j (by simp;omega)
  have e1:xs.getD j .non=xs[j]:=by simp [List.getD,a]
  have e2:ys.getD j .non=ys[j]:=by simp [List.getD,b]
  rw[e1,e2]at this;exact(Mz (hx _ (List.getElem_mem a)) (hy _ (List.getElem_mem b))).mp this
 ·rintro rfl
  refine⟨List.all_eq_true.mpr fun j hj=>?_,Zs⟩
  have hj:j<xs.length:=by simpa using hj
  have e:xs.getD j .non=xs[j]:=by simp [List.getD,hj]
  rw[e];exact(Mz (hx _ (List.getElem_mem hj)) (hx _ (List.getElem_mem hj))).mpr rfl
theorem yA (y:An):∀u∈y.vs,(∃z,u=.str z)∨∃n,u=.int n:=by
 intro u hu;cases y <;> simp only [An.vs,List.mem_cons,List.not_mem_nil,or_false]at hu <;> rcases hu with rfl | rfl | rfl <;> first | exact .inl ⟨_,rfl⟩ | exact .inr ⟨_,rfl⟩
theorem Yf {y y':An} (h:y.vs=y'.vs):y=y':=by
 cases y <;> cases y' <;> simp only [An.vs]at h <;> first
  | rfl
  | (injection h with h1 h2;injection h1 with h1;exact absurd h1 Zk)
  | (simp at h;rw[An.is1.injEq];omega)
  | (simp at h;rw[An.is2.injEq];omega)
  | (simp at h;rw[An.short.injEq];omega)
  | (simp at h;rw[An.full.injEq];omega)
  | (simp at h;rw[h])
  | (simp at h)
theorem aA5 {y:An} {zs:List (Addr × An)}:zH y.vs (zs.map fun z=>(z.1,z.2.vs))=true↔y∈zs.map (·.2):=by
 unfold zH;rw[List.any_map,List.any_eq_true];constructor
 ·rintro⟨z,hz,e⟩
  have:=Yf ((xZ (yA _) (yA _)).mp e)
  rw[<- this];exact List.mem_map_of_mem hz
 ·intro h;obtain⟨z,hz,e⟩:=Zmm.mp h
  exact⟨z,hz,(xZ (yA _) (yA _)).mpr (by rw[e])⟩
theorem Ru (y y':An):jT y.vs y'.vs:=fun j u v h1 h2=>by
 have f:∀ {y:An} {u:V},u∈y.vs->eC u=true:=fun {y u} hu=>by rcases yA y u hu with⟨z,rfl⟩ | ⟨n,rfl⟩ <;> rfl
 exact⟨f (jW h1),f (jW h2)⟩
theorem Na {CN fI:Addr} (XA:aAP K CN "row") (D:InitAt K fI "NoRows.__init__" bG ["self","row"]):sP P w K mg base 1 CN fI "row":=by
 refine D.go lA rfl (fun cdv A outer s H vs Q E hr h=>?_)
 obtain⟨e,t,v,rfl,he,q⟩:=h
 exact⟨_,(R.ah (R.iw (K:=K) (R.v 0) (R.v 1))),CN,t,he,XA,q⟩
def aA6 (CR:Addr):Sp:=fun vs H Q E=>∃(ra:Addr) (rs:List RX) (as:List Addr),vs=[.ref ra]/\RxsAt H ra rs as/\(∀r∈rs,cI r)/\rs.length<=60 ∧
 (∀(o:Option Nat) (H':Hp),RX.Whole rs->vQ rs o->Same H H'->Q (Fa o) H') ∧
 (∀(i:Nat) (dx:Addr) (H':Hp),qI rs (some i)->Same H H'->H' dx=some (.xd [("row",.int (i:Int))])->E (.ref CR) (some dx) H')
theorem qV {C CR fI:Addr} (T:Txt K mg) (X_NoRows:XClsI K mg "NoRows" CR fI) (i_NoRows:sP P w K mg base 1 CR fI "row") (c_first_odd:aG P w K mg base 7 "first_odd" ["rows"] Td) (c_by_numbers:aG P w K mg base 1 "by_numbers" ["rows","word"] Cl)
  (c_first_book:aG P w K mg base 3 "first_book" ["rows"] (Cp C)) (c_right_answers:aG P w K mg base 4 "right_answers" ["book","deed"] (aA4 C)) (c_changes_of:aG P w K mg base 2 "changes_of" ["deed","answer"] Tf) (c_Book_change:sJ P w K mg base 2 C "change" ["self","changes"] (tD C))
  (D:DefAt K mg "first_wrong" eY ["rows"]):lN P w K mg base 8 "first_wrong" ["rows"] (aA6 CR):=by
 refine D.goX bY (fun vs H Q E h=>?_) (fun f cdv A outer s H vs Q E hr h=>?_)
 ·obtain⟨ra,rs,as,rfl,_⟩:=h;rfl
 ·obtain⟨ra,rs,as,rfl,RR,hf,hl,q,qE⟩:=h
  have hr_first_odd:Room 7 _:=hr
  have hr_by_numbers:Room 1 _:=hr.mono Zd
  have hr_first_book:Room 3 _:=hr.mono Zd
  have hr_right_answers:Room 4 _:=hr.mono Zd
  have hr_changes_of:Room 2 _:=hr.mono Zd
  have hr_Book_change:Room 2 _:=hr.mono Zd
  have hr_NoRows:Room 2 _:=hr.mono Zd
  have hu1:=jK hr
  have hu64:=hr.units
  have le:=RR.len
  refine⟨_,(R.ae (R.ao (i:=1) bY.nd (R.fn c_first_odd hr_first_odd rfl (R.aa (R.v 0) R.ad))) (R.ae (R.ar (R.al R.fm (R.v 1) R.bu) (R.ah (R.iy X_NoRows i_NoRows hr_NoRows wZ rfl rfl (R.aa (R.v 1) R.ad))) R.au) (R.ae (R.ao (i:=2) bY.nd (R.fn c_by_numbers hr_by_numbers rfl (R.aa (R.v 0) (R.aa R.af R.ad)))) (R.ae (R.ao (i:=3) bY.nd (R.fn c_first_book hr_first_book rfl (R.aa (R.v 0) R.ad))) (R.ae (R.dh Em rfl (R.gw (K:=K) rfl T.b_enumerate (R.v 0)) (R.dt (K:=K) (n:=2) rfl (R.bp (R.gn (i:=4) bY.nd) (R.bp (R.gn (i:=5) bY.nd) R.du))) (R.ah (R.ar (R.al R.eq (R.ix (R.ag (K:=K)) (R.v 5) R.ac) R.af) (R.ae (R.ao (i:=6) bY.nd (R.ix (R.ag (K:=K)) (R.dz hu1 (R.v 2) (R.ix (R.ag (K:=K)) (R.v 5) R.ac)) R.ac)) (R.ae (R.ar (R.al (R.jd hu64) (R.ix (R.ag (K:=K)) (R.v 5) R.ac) (R.fn c_right_answers hr_right_answers rfl (R.aa (R.v 3) (R.aa (R.v 6) R.ad)))) (R.ah (R.ai (R.v 4))) R.au) (R.ah (R.bz (R.cq c_Book_change hr_Book_change (R.v 3) (R.aa (R.fn c_changes_of hr_changes_of rfl (R.aa (R.v 6) (R.aa (R.ix (R.ag (K:=K)) (R.v 5) R.ac) R.ad))) R.ad)))))) R.au))) (R.ah (R.ai R.bu))))))),?_⟩
  refine⟨ra,rs,as,rfl,RR,hf,Zo,fun o H1 ho s1=>?_⟩
  dsimp only [aK];cases o with
  | some i=>
   refine⟨_,rfl,fun dx hdx=>?_⟩
   exact qE i dx _ ho (s1.trans (aF hdx)) aA
  | none=>
   have hw:RX.Whole rs:=ho
   have hct:=Fq hw
   refine⟨ra,"came",rs,as,rfl,RR.same s1,Zo,fun cd H2 fcd gcd s2=>?_⟩
   dsimp only [aK];have s02:=s1.trans s2
   refine⟨ra,rs,as,rfl,RR.same s02,Zo,hw,fun p dx d H3 fp fd gp gd s3=>?_⟩
   have npd:p≠d:=fW gp gd (fun z=>nomatch z)
   have s03:=s02.trans s3
   have fp0:=s02.free fp
   have fd0:=s02.free fd
   have gcd3:=s3 _ _ gcd
   have ncd:cd≠d:=aE gcd fd
   have ncp:cd≠p:=aE gcd fp
   dsimp only [aK];refine bK (fun σ' H'=>vQ rs none/\Same H H') (fun nx hnx=>?_) ?_
   ·refine⟨_,SqL.of (s03 _ _ RR.lst),wV (xs:=as.map V.ref) (fun i σ' H'=>∃(prs:List (Str × Int)) (o4 o5 o6:Option V),σ'=[some (.ref ra),some .non,some (.ref cd),some (.ref p),o4,o5,o6]/\H' p=some (.ins C dx [("amounts",.ref d)])/\H' d=some (.dK (mM prs))/\H' cd=some (.dK (bD [] (jA "came" rs as rs.length)))/\(prs.map (·.1)).Nodup/\(∀z,dM prs z=(gQ rs i z:Int))/\(∀z,gQ rs i z<=1000000000000)/\prs.length<=(oH rs).length+2*(gP (rs.take i)).length/\(∀j r,j<i->rs[j]?=some r->mK rs j r)/\Same H H') (fun i σ' H' ⟨_,_,_,_,_,_,_,_,_,_,_,_,_,s'⟩=>SqL.of (s' _ _ RR.lst))
     ⟨gY rs,_,_,_,rfl,gp,gd,gcd3,vP hw,fun z=>Ms hw z,Ft hf,by rw[Mq];omega,fun j r hj=>absurd hj (Nat.not_lt_zero _),s03⟩ ?_ ?_⟩
    ·rintro i x σ' H4 te hx ⟨prs,o4,o5,o6,rfl,gp4,gd4,gcd4,nd4,am4,le4,ln4,ri4,s4⟩ hte
     obtain⟨a,r,rfl,ha,hrr,hat⟩:=(RR.same s4).get hx
     have hil:i<rs.length:=(Zgs.mp hrr).1
     have se:=aF (o:=.tup [.int (i:Int),.ref a]) hte
     refine⟨te,_,rfl,SqT.of aA,rfl,_,_,rfl,_,_,rfl,rfl,?_⟩
     generalize aI H4 te (.tup [.int (i:Int),.ref a])=H5 at se;replace gp4:=se _ _ gp4
     replace gd4:=se _ _ gd4
     replace gcd4:=se _ _ gcd4
     replace s4:=s4.trans se
     replace hat:=hat.tk se.tk
     obtain⟨xs,g,x0,x1,x2⟩:=bO hat
     have etk:=cE hrr
     dsimp only [aK];refine⟨_,SqT.of g,_,x0,?_⟩
     show if decide (bH r="done")=true then _ else _
     refine aQ (fun h=>?_) (fun h=>?_)
     ·obtain⟨n,t,y,rfl⟩:=Bv (of_decide_eq_true h)
      obtain⟨cy,gr,gy⟩:=hat
      obtain⟨t0,pp,kk,xd,hcm,hof⟩:=sW hw (jW hrr)
      have hxok:xd.Ok:=hf _ hcm
      have edo:=xY hw hcm
      obtain⟨ca,cb,ct,hv,gca,gcb⟩:=Rs hw (RR.same s4) hcm
      have dg':DGet H5 cd (.int (n:Int)) (some (.ref ca)):=by rw[<- hv];exact DGet.k (k:=Sum.inl (n:Int)) gcd4
      refine⟨_,SqT.of gr,_,rfl,cd,_,rfl,dg',_,SqT.of gca,_,rfl,?_⟩
      dsimp only [aK];have bkA:BookAt C H5 p prs:=⟨⟨dx,d,gp4,gd4⟩,nd4⟩
      refine⟨_,SqT.of gr,_,rfl,p,cb,xd,prs,gQ rs i,rfl,bkA,gcb,hxok,am4,fun l zs H6 gl hz ez s6=>?_⟩
      refine⟨y.vs,zs.map (fun z=>(z.1,z.2.vs)),s6 _ _ gy,by rw[gl,List.map_map];rfl,fun z hz'=>?_,?_⟩
      ·obtain⟨z',hz'',rfl⟩:=Zmm.mp hz'
       exact⟨hz z' hz'',Ru _ _⟩
      ·have hin:=aA5 (y:=y) (zs:=zs)
       rw[ez]at hin;show if (!zH y.vs (zs.map fun z=>(z.1,z.2.vs)))=true then _ else _
       refine aQ (fun hi=>?_) (fun hi=>?_)
       ·refine q (some i) H6 hw ⟨⟨_,hrr,fun hra=>?_⟩,ri4⟩ (s4.trans s6)
        have:=hin.mpr (hra xd edo)
        rw[this]at hi;cases hi
       ·have hri:y∈jB (gQ rs i) xd:=hin.mp (by simpa using hi)
        obtain⟨qq,hR⟩:=Mx hri
        obtain⟨ea,hG⟩:=xO hxok hR
        have hrat:mK rs i (.done n t y):=fun x' hx'=>by rw[edo]at hx';cases hx';exact hri
        refine⟨dx,_,s6 _ _ gp4,pV _ Zk,_,SqT.of (s6 _ _ gr),_,rfl,cb,cy,xd,y,rfl,s6 _ _ gcb,s6 _ _ gy,hof,fun tp zs2 H7 s7 g7 hz2 ez2=>?_⟩
        have lz:zs2.length<=2:=by
         have:=congrArg List.length ez2
         rw[aZ]at this;have:=Ck xd y
         omega
        have s67:=s6.trans s7
        refine⟨p,dx,d,tp,prs,zs2,rfl,s67 _ _ gp4,s67 _ _ gd4,nd4,g7,hz2,?_,fun qc hq=>?_,fun H8 g8 k8=>?_⟩
        ·have:=zY rs i
         omega
        ·rw[ez2]at hq;have:=Mu le4 hxok hR qc hq
         unfold Th;rw[am4];exact this
        ·rw[ez2]at g8;have ebk:gQ rs (i+1)=after (gQ rs i) xd y:=by rw[qU hrr];show(match qT rs n with | some x=>after (gQ rs i) x y | none=>gQ rs i)=_;rw[edo]
         refine⟨oO prs (Rq xd y),_,_,_,rfl,k8 _ _ (s67 _ _ gp4) npd,g8,k8 _ _ (s67 _ _ gcd4) ncd,vO _ _ nd4,fun z=>?_,?_,?_,fun j r' hj hr'=>?_,fun c o e=>k8 _ _ (s67 _ _ (s4 _ _ e)) (aE e fd0)⟩
         ·rw[xV _ _ _ hG am4,ea,ebk]
         ·rw[ebk];exact Mi le4 hR
         ·have h1:=qQ (Rq xd y) prs
          have h2:=Ck xd y
          rw[etk,qR,kM];show _<=_+2*(_+1)
          omega
         ·rcases Nat.lt_or_ge j i with hji | hji
          ·exact ri4 j r' hji hr'
          ·have:j=i:=by omega
           subst this;rw[hrr]at hr';cases hr'
           exact hrat
     ·have ebk:gQ rs (i+1)=gQ rs i:=by
       rw[qU hrr];cases r with
       | done n t y=>exact absurd rfl (of_decide_eq_false h)
       | _=>rfl
      refine⟨prs,_,_,_,rfl,gp4,gd4,gcd4,nd4,fun z=>by rw[ebk];exact am4 z,by rw[ebk];exact le4,?_,fun j r' hj hr'=>?_,s4⟩
      ·rw[etk,qR,kM];omega
      ·rcases Nat.lt_or_ge j i with hji | hji
       ·exact ri4 j r' hji hr'
       ·have:j=i:=by omega
        subst this;rw[hrr]at hr';cases hr'
        cases r with
        | done n t y=>exact absurd rfl (of_decide_eq_false h)
        | _=>trivial
    ·rintro σ' H4 ⟨prs,o4,o5,o6,rfl,gp4,gd4,gcd4,nd4,am4,le4,ln4,ri4,s4⟩
     rw[aZ,<- le]at ri4;exact hnx _ _ ⟨fun i r hr'=>ri4 i r (Zgs.mp hr').1 hr',s4⟩
   rintro σ' H4 ⟨hri,s4⟩
   exact q none H4 hw hri s4
end
end KL
namespace KL
open PySem L2
section
variable {P:Program} {w:World} {K:W.Frag} {mg:Str->Option Value} {base:Heap}
structure Ad (K:W.Frag) (mg:Str->Option Value) (CN CD:Addr) (as bs:List Addr):Prop where
 mC:mg "NoRows"=some (.ref CN)
 mD:mg "DoorError"=some (.ref CD)
 xm:W.exmOne K (.ref CN) (.ref CN)=some true
 xk:oF K CN
 k1:W.kitAny K (.ref CN) (as.map Value.ref)=some false
 k2:W.kitAny K (.ref CN) (bs.map Value.ref)=some false
 kD:W.kitOne K (.ref CN) (.ref CD)=some true
 kV:W.kitOne K (.ref CN) (.type "ValueError")=some true
 hd:W.hasDictIn K CN=true
 nu:W.findIn K (.ref CN) "row"=some none
def aA7 (CN:Addr):Sp:=fun vs H Q _=>∃(e dx:Addr),vs=[.ref e]/\H e=some (.ext (rA e (.ref CN) (some dx)))/\∀H',Same H H'->Q (.bl false) H'
theorem rP {CN CD a1 a2 a3 a4 a5 a6 a7 a8 a9 a10 a11 b1 b2 b3 b4 b5 b6:Addr} (T:Txt K mg) (M:Ad K mg CN CD [a1,a2,a3,a4,a5,a6,a7,a8,a9,a10,a11] [b1,b2,b3,b4,b5,b6])
  (M_Busy:mg "Busy"=some (.ref a1)) (M_Down:mg "Down"=some (.ref a2)) (M_Late:mg "Late"=some (.ref a3)) (M_NoAsk:mg "NoAsk"=some (.ref a4)) (M_NoChange:mg "NoChange"=some (.ref a5)) (M_NoDeed:mg "NoDeed"=some (.ref a6)) (M_NoHouse:mg "NoHouse"=some (.ref a7)) (M_NoJournal:mg "NoJournal"=some (.ref a8)) (M_NoKey:mg "NoKey"=some (.ref a9)) (M_NoLine:mg "NoLine"=some (.ref a10)) (M_NoName:mg "NoName"=some (.ref a11))
  (M_NoNumber:mg "NoNumber"=some (.ref b1)) (M_NoRow:mg "NoRow"=some (.ref b2)) (M_NoWay:mg "NoWay"=some (.ref b3)) (M_Other:mg "Other"=some (.ref b4)) (M_Unsafe:mg "Unsafe"=some (.ref b5)) (M_Up:mg "Up"=some (.ref b6))
  (D:DefAt K mg "_law_other_word" dJ ["_law_error"]):aG P w K mg base 1 "_law_other_word" ["_law_error"] (aA7 CN):=by
 have M_DoorError:=M.mD
 refine D.go lV (fun vs H Q E h=>?_) (fun f cdv A outer s H vs Q E hr h=>?_)
 ·obtain⟨e,dx,rfl,_⟩:=h;rfl
 ·obtain⟨e,dx,rfl,ge,q⟩:=h
  refine⟨_,(R.ae (R.ar (R.bn (R.ax (R.gu (K:=K)) rfl T.b_isinstance eV (R.aa (R.v 0) (R.aa (R.ib (R.aa (R.gR rfl M_Busy) (R.aa (R.gR rfl M_Down) (R.aa (R.gR rfl M_Late) (R.aa (R.gR rfl M_NoAsk) (R.aa (R.gR rfl M_NoChange) (R.aa (R.gR rfl M_NoDeed) (R.aa (R.gR rfl M_NoHouse) (R.aa (R.gR rfl M_NoJournal) (R.aa (R.gR rfl M_NoKey) (R.aa (R.gR rfl M_NoLine) (R.aa (R.gR rfl M_NoName) R.ad)))))))))))) R.ad)))) (R.ah (R.ai R.bl)) R.au) (R.ae (R.ar (R.bn (R.ax (R.gu (K:=K)) rfl T.b_isinstance eV (R.aa (R.v 0) (R.aa (R.ib (R.aa (R.gR rfl M_NoNumber) (R.aa (R.gR rfl M_NoRow) (R.aa (R.gR rfl M_NoWay) (R.aa (R.gR rfl M_Other) (R.aa (R.gR rfl M_Unsafe) (R.aa (R.gR rfl M_Up) R.ad))))))) R.ad)))) (R.ah (R.ai R.bl)) R.au) (R.ah (R.ai (R.or (R.ie (R.ax (R.gu (K:=K)) rfl T.b_isinstance eV (R.aa (R.v 0) (R.aa (R.gR rfl M_DoorError) R.ad)))) (R.bb (R.ie (R.ax (R.gu (K:=K)) rfl T.b_isinstance eV (R.aa (R.v 0) (R.aa (R.im rfl T.b_ValueError rB) R.ad)))))))))),?_⟩
  refine⟨eK rfl,fun q1 hq1=>⟨CN,false,_,aF hq1 _ _ ge,M.xk,.inl ⟨[a1,a2,a3,a4,a5,a6,a7,a8,a9,a10,a11],aA,M.k1⟩,?_⟩⟩
  have s1:=aF (o:=.tup [.ref a1,.ref a2,.ref a3,.ref a4,.ref a5,.ref a6,.ref a7,.ref a8,.ref a9,.ref a10,.ref a11]) hq1
  generalize aI H q1 (.tup [.ref a1,.ref a2,.ref a3,.ref a4,.ref a5,.ref a6,.ref a7,.ref a8,.ref a9,.ref a10,.ref a11])=H1 at s1;refine⟨eK rfl,fun q2 hq2=>⟨CN,false,_,aF hq2 _ _ (s1 _ _ ge),M.xk,.inl ⟨[b1,b2,b3,b4,b5,b6],aA,M.k2⟩,?_⟩⟩
  have s2:=s1.trans (aF (o:=.tup [.ref b1,.ref b2,.ref b3,.ref b4,.ref b5,.ref b6]) hq2)
  generalize aI H1 q2 (.tup [.ref b1,.ref b2,.ref b3,.ref b4,.ref b5,.ref b6])=H2 at s2;have ge2:=s2 _ _ ge
  exact⟨CN,true,_,ge2,M.xk,.inr M.kD,CN,true,_,ge2,M.xk,M.kV,q _ s2⟩
def tE:Sp:=fun vs H Q _=>∃(ra:Addr) (rs:List RX) (as:List Addr),vs=[.ref ra]/\RxsAt H ra rs as/\(∀r∈rs,cI r)/\rs.length<=60/\∀(H':Hp),Same H H'->Q (.bl true) H'
theorem Ae {CN CD:Addr} {a5 b5:List Addr} (T:Txt K mg) (M:Ad K mg CN CD a5 b5) (cLdue:aG P w K mg base 3 "_law_due" ["_law_rows"] Cj) (c_first_wrong:lN P w K mg base 8 "first_wrong" ["rows"] (aA6 CN)) (cLother_word:aG P w K mg base 1 "_law_other_word" ["_law_error"] (aA7 CN))
  (D:DefAt K mg "_law_right" gK ["_law_rows"]):aG P w K mg base 9 "_law_right" ["_law_rows"] tE:=by
 have M_NoRows:=M.mC
 refine D.go cG (fun vs H Q E h=>?_) (fun f cdv A outer s H vs Q E hr h=>?_)
 ·obtain⟨ra,rs,as,rfl,_⟩:=h;rfl
 ·obtain⟨ra,rs,as,rfl,RR,hf,hl,q⟩:=h
  have hLdue:Room 3 _:=hr.mono Zd
  have hr_first_wrong:Room 8 _:=hr
  have hLother_word:Room 1 _:=hr.mono Zd
  have hu64:=hr.units
  have le:=RR.len
  refine⟨_,(R.ae (R.ao (i:=1) cG.nd (R.fn cLdue hLdue rfl (R.aa (R.v 0) R.ad))) (R.ae (R.ao (i:=2) cG.nd (R.ee (R.jh (K:=K)) rfl T.b_list Be (R.aa (R.v 0) R.ad))) (R.ae (R.ao (i:=3) cG.nd R.bu) (R.ae (R.ao (i:=4) cG.nd R.bu) (R.ae (R.jx (K:=K) (i:=5) M_NoRows rfl cG.nd (fun pn Ex=>(R.ah (R.ao (i:=3) cG.nd (R.jy c_first_wrong hr_first_wrong rfl uN (R.aa (R.v 0) R.ad))))) (fun a=>(R.ah (R.ao (i:=4) cG.nd (R.v 5))))) (R.ae (R.ar (R.al (R.ii hu64) (R.v 0) (R.v 2)) (R.ah (R.ai R.bl)) R.au) (R.ae (R.ar (R.al R.fm (R.v 1) R.bu) (R.ae (R.ar (R.tw (R.bo (R.al R.jm (R.v 4) R.bu) (R.bo (R.bn (R.fn cLother_word hLother_word rfl (R.aa (R.v 4) R.ad))) (R.cg (R.bn (R.dm .bl (R.ig (K:=K) (R.v 4)) rfl T.b_isinstance rfl T.b_bool uE)))))) (R.ah (R.ai R.bl)) R.au) (R.ah (R.ai (R.be (R.dm .int (R.ig (K:=K) (R.v 4)) rfl T.b_isinstance rfl T.b_int uD) (R.bb (R.aw R.eq (R.ig (K:=K) (R.v 4)) (R.v 1))))))) R.au) (R.ae (R.ar (R.tw (R.bo (R.al R.fm (R.v 4) R.bu) (R.cg (R.bn (R.dm .bl (R.v 3) rfl T.b_isinstance rfl T.b_bool uE))))) (R.ah (R.ai R.bl)) R.au) (R.ah (R.ai (R.or (R.aw R.jm (R.v 3) R.bu) (R.bb (R.be (R.jg R.le R.lt R.ac (R.v 3) (R.ax (R.ba (K:=K)) rfl T.b_len aO (R.aa (R.v 0) R.ad))) (R.bb (R.aw R.eq (R.ix (R.ag (K:=K)) (R.ix (R.av (K:=K)) (R.v 0) (R.v 3)) R.ac) R.af))))))))))))))),?_⟩
  refine⟨ra,rs,as,rfl,RR,hf,hl,fun o H1 ho s1=>?_⟩
  dsimp only [aK];refine⟨_,.inl (SqL.of (s1 _ _ RR.lst)),fun cp hcp=>?_⟩
  have s2:=s1.trans (aF (o:=.lst (as.map V.ref)) hcp)
  have gcp:(aI H1 cp (.lst (as.map V.ref))) cp=_:=aA
  dsimp only [aK];generalize aI H1 cp (.lst (as.map V.ref))=H2 at s2 gcp ⊢;refine bK (fun σ' H'=>σ'=[some (.ref ra),some (Fa o),some (.ref cp),some .non,none,none]/\H2=H') (fun nx hnx=>hnx _ _ ⟨rfl,rfl⟩) ?_
  rintro _ _ ⟨rfl,rfl⟩
  refine bK (fun σ' H'=>σ'=[some (.ref ra),some (Fa o),some (.ref cp),some .non,some .non,none]/\H2=H') (fun nx hnx=>hnx _ _ ⟨rfl,rfl⟩) ?_
  rintro _ _ ⟨rfl,rfl⟩
  refine bK (fun σ' H'=>(∃(i:Nat) (e dx:Addr) (o5:Option V),o=some i/\σ'=[some (.ref ra),some (.int (i:Int)),some (.ref cp),some .non,some (.ref e),o5]/\H' e=some (.ext (rA e (.ref CN) (some dx)))/\H' dx=some (.xd [("row",.int (i:Int))])/\Same H2 H')∨(∃(o2:Option Nat) (o5:Option V),o=none/\vQ rs o2/\σ'=[some (.ref ra),some .non,some (.ref cp),some (Fa o2),some .non,o5]/\Same H2 H')) (fun nx hnx=>?_) ?_
  ·refine⟨ra,rs,as,rfl,RR.same s2,hf,hl,fun o2 H3 hw ho2 s3=>?_,fun i dx' G hoi sG gx=>⟨M.xm,fun e he=>?_⟩⟩
   ·have e:=xI (o':=none) ho hw
    subst e;exact hnx _ _ (.inr ⟨o2,_,rfl,ho2,rfl,s3⟩)
   ·have e':=xI ho hoi
    subst e';have s4:=aF (o:=.ext (rA e (.ref CN) (some dx'))) he
    exact hnx _ _ (.inl ⟨i,e,dx',_,rfl,rfl,aA,s4 _ _ gx,sG.trans s4⟩)
  rintro σ' H3 (⟨i,e,dx,o5,rfl,rfl,ge,gx,s3⟩ | ⟨o2,o5,rfl,ho2,rfl,s3⟩)
  ·have R3:=(RR.same s2).same s3
   have C3:RxsAt H3 cp rs as:=⟨s3 _ _ gcp,R3.each⟩
   have lk1:([(("row":Str),V.int (i:Int))]).lookup ("row":Str)=some (.int (i:Int)):=by rw[List.lookup_cons];simp
   refine⟨3,_,Zd,R3.rep,C3.rep,?_⟩
   refine⟨e,dx,rfl,ge,fun H4 s4=>?_⟩
   have ge4:=s4 _ _ ge
   have gx4:=s4 _ _ gx
   refine⟨e,CN,dx,_,.int (i:Int),rfl,ge4,gx4,M.xk,M.hd,M.nu,lk1,.int,trivial,?_⟩
   refine⟨e,CN,dx,_,.int (i:Int),rfl,ge4,gx4,M.xk,M.hd,M.nu,lk1,.int,trivial,?_⟩
   refine⟨e,CN,dx,_,.int (i:Int),rfl,ge4,gx4,M.xk,M.hd,M.nu,lk1,?_⟩
   have:=q H4 ((s2.trans s3).trans s4)
   rw[<- decide_eq_true (rfl:(i:Int)=(i:Int))]at this;exact this
  ·have R3:=(RR.same s2).same s3
   have C3:RxsAt H3 cp rs as:=⟨s3 _ _ gcp,R3.each⟩
   refine⟨3,_,Zd,R3.rep,C3.rep,?_⟩
   have fin:=q H3 (s2.trans s3)
   cases o2 with
   | none=>exact⟨.non,trivial,fin⟩
   | some j=>
    obtain⟨⟨r,hrr,hnr⟩,_⟩:=ho2
    have hj:=(Zgs.mp hrr).1
    have ela:(as.map V.ref).length=rs.length:=by rw[aZ];omega
    refine⟨.int,trivial,_,.inl (SqL.of R3.lst),?_⟩
    show if decide ((j:Int)<((as.map V.ref).length:Int))=true then _ else _
    refine aQ (fun _=>?_) (fun h=>absurd (of_decide_eq_false h) (by rw[ela];omega))
    have hv:(as.map V.ref)[j]?=some (.ref (as[j]'Zo)):=by rw[jC,gZ];rfl
    obtain⟨a,r',ea,_,hrr',hat⟩:=R3.get hv
    rw[hrr]at hrr';cases hrr'
    rw[ea]at hv;obtain⟨xs,g,x0,_,_⟩:=bO hat
    refine⟨_,SqL.of R3.lst,.ref a,bJ hv,_,SqT.of g,_,x0,?_⟩
    have:decide (bH r="done")=true:=by
     cases r with
     | done n t y=>rfl
     | _=>exact absurd trivial hnr
    show Q (.bl (decide (bH r="done"))) H3
    rw[this];exact fin
def Cr (K:W.Frag):Sp:=fun vs H Q _=>∃(a:Addr) (ns:List Int),vs=[.ref a]/\SqL K H a (ns.map V.int)/\ns.length<=63/\∀H',Q (.bl true) H'
theorem Yg (T:Txt K mg) (cLdeck:aG P w K mg base 1 "_law_deck" ["_law_script"] (Iv K)) (cLmenus:aG P w K mg base 3 "_law_menus" ["_law_deck_here"] xH) (cLlisted:aG P w K mg base 6 "_law_listed" ["_law_deck_here","_law_menus_here"] xL)
  (cLright:aG P w K mg base 9 "_law_right" ["_law_rows"] tE) (cLspoilt:aG P w K mg base 6 "_law_spoilt" ["_law_deck_here","_law_rows","_law_menus_here"] xN)
  {f:Addr} {fd:FuncData} (F:Fun K "law" "law" lR f fd):iE P w K mg base qW 10 f fd ["_law_script"] (Cr K):=by
 refine F.go qC (fun vs H Q E h=>?_) (fun cdv A outer s H vs Q E hr h=>?_)
 ·obtain⟨a,ns,rfl,_⟩:=h;rfl
 ·obtain⟨a,ns,rfl,hS,hlen,q⟩:=h
  have hLdeck:Room 1 _:=hr.mono Zd
  have hLmenus:Room 3 _:=hr.mono Zd
  have hLlisted:Room 6 _:=hr.mono Zd
  have hLright:Room 9 _:=hr
  have hLspoilt:Room 6 _:=hr.mono Zd
  refine⟨_,(R.ae (R.ao (i:=1) qC.nd (R.fn cLdeck hLdeck rfl (R.aa (R.v 0) R.ad))) (R.ae (R.ao (i:=2) qC.nd (R.fn cLmenus hLmenus rfl (R.aa (R.v 1) R.ad))) (R.ae (R.ao (i:=3) qC.nd (R.fn cLlisted hLlisted rfl (R.aa (R.v 1) (R.aa (R.v 2) R.ad)))) (R.ae (R.ar (R.tw (R.bo (R.cf (R.bn (R.fn cLright hLright rfl (R.aa (R.v 3) R.ad)))) (R.cg (R.cf (R.bn (R.fn cLright hLright rfl (R.aa (R.az R.ad) R.ad))))))) (R.ah (R.ai R.bl)) R.au) (R.ae (R.dh PassesOwn.never rfl (R.dw rfl T.b_range (R.aa R.ac R.ad)) (R.gn (i:=4) qC.nd) (R.ah (R.ar (R.cf (R.bn (R.fn cLright hLright rfl (R.aa (R.fn cLspoilt hLspoilt rfl (R.aa (R.v 1) (R.aa (R.v 3) (R.aa (R.v 2) R.ad)))) R.ad)))) (R.ah (R.ai R.bl)) R.au))) (R.ah (R.ai (R.fn cLright hLright rfl (R.aa (R.v 3) R.ad))))))))),?_⟩
  refine⟨a,ns,rfl,hS,fun d b H1 nd nb D1 s1=>?_⟩
  dsimp only [aK];refine⟨d,b,rfl,D1,fun lm M H2 hM oD oB f2=>?_⟩
  dsimp only [aK];refine⟨d,b,lm,M,rfl,f2.dk,hM,oD,oB,fun ra rs as H3 fra R3 hw hok hl F3=>?_⟩
  have hf:=zQ hw hok
  have htn:∀r∈rs,r.turn<=1000000000000:=fun r hr=>Re (hok r hr)
  have nra:=f2.dk.ne fra
  dsimp only [aK];refine jS (fun v H'=>Same H3 H'/\v=false) (fun kk hkk=>?_) ?_ ?_
  ·refine⟨ra,rs,as,rfl,R3,hf,Zo,fun H4 s4=>?_⟩
   refine⟨eK rfl,fun p hp=>⟨p,[],[],rfl,.nil aA,(fun _ h=>nomatch h),Nat.zero_le _,fun H5 s5=>?_⟩⟩
   exact hkk _ _ ⟨(s4.trans (aF hp)).trans s5,rfl⟩
  ·rintro _ ⟨_,z⟩;cases z
  rintro H4 ⟨s4,_⟩
  dsimp only [kP];have F4:=F3.same s4
  refine bK (fun σ' H'=>∃o4,σ'=[some (.ref a),some (.ref d),some (.ref lm),some (.ref ra),o4]/\RxsAt H' ra rs as) (fun nx hnx=>?_) ?_
  ·refine⟨8,rfl,Zd,Zd,fN (dZ 0 (8:Int).toNat) (fun i σ' H'=>∃o4,σ'=[some (.ref a),some (.ref d),some (.ref lm),some (.ref ra),o4]/\RxsAt H' ra rs as/\Fw d b H2 H') (fun _ _ _ _=>trivial) ⟨_,rfl,R3.same s4,F4⟩ ?_ ?_⟩
   ·rintro i x σ' H5 hx ⟨o4,rfl,R5,F5⟩
    obtain⟨rfl,hi⟩:=lC hx
    dsimp only [aK];refine⟨d,b,ra,lm,M,rs,as,rfl,F5.dk,R5,nra,hl,hf,htn,F5.menus oD oB hM,oD,oB,fun la rs' as' H6 fla T6 hf' hl' G6=>?_⟩
    have F6:=F5.trans G6
    have R6:=R5.keep G6.tk (G6.get R5.lst nra.1 nra.2)
    refine⟨la,rs',as',rfl,T6,hf',Zo,fun H7 s7=>?_⟩
    exact⟨_,rfl,R6.same s7,F6.same s7⟩
   ·rintro σ' H5 ⟨o4,rfl,R5,F5⟩
    exact hnx _ _ ⟨_,rfl,R5⟩
  rintro σ' H5 ⟨o4,rfl,R5⟩
  exact⟨ra,rs,as,rfl,R5,hf,Zo,fun H6 s6=>q H6⟩
end
end KL
namespace KL
open PySem L2
structure FA (K:W.Frag) (x:Str) (st:Stmt):Prop where
 ex:∃(f:Addr) (od an:Option Addr) (sl:Array (Option Value)) (oc kV dc pm cd ct:Value),W.nsIn K mainGlobals x=some (some (.ref f))/\K.lookup f=some ⟨oc,od,.func (W.fnOf x x (bZ st) (aV st) (aB st) .none kV dc pm an cd ct),sl⟩/\W.codeIn K cd x=true/\W.keepIn K (.ref f)=true
theorem FA.of {K:W.Frag} {x:Str} {st:Stmt} {f:Addr} {od an:Option Addr} {sl:Array (Option Value)} {oc kV dc pm cd ct:Value} (a:W.nsIn K mainGlobals x=some (some (.ref f))) (l:K.lookup f=some ⟨oc,od,.func (W.fnOf x x (bZ st) (aV st) (aB st) .none kV dc pm an cd ct),sl⟩) (c:W.codeIn K cd x=true) (k:W.keepIn K (.ref f)=true):FA K x st:=⟨f,od,an,sl,oc,kV,dc,pm,cd,ct,a,l,c,k⟩
theorem FA.at {K:W.Frag} {x:Str} {st:Stmt} {ps:List Str} {h:Heap} {mg:Str->Option Value} (F:FA K x st) (X:K.In h) (G:h.Ns mainGlobals mg) (hb:∀(kV doc pm:Value) (an:Option Addr) (cdv ct:Value) (us:List Value),us.length=ps.length->bindArgs (W.fnOf x x (bZ st) (aV st) (aB st) .none kV doc pm an cdv ct) ⟨us,[]⟩=pure (ps.zip us)):DefAt K mg x st ps:=by
 obtain⟨f,od,an,sl,oc,kV,dc,pm,cd,ct,a,l,c,k⟩:=F.ex
 exact Wf X G a l c k hb
structure MA (K:W.Frag) (C:Addr) (m qual:Str) (st:Stmt):Prop where
 ex:∃(f:Addr) (od an:Option Addr) (sl:Array (Option Value)) (oc kV dc pm cd ct:Value),W.findIn K (.ref C) m=some (some (.ref f))/\W.isFn K (.ref f)=true/\K.lookup f=some ⟨oc,od,.func (W.fnOf m qual (bZ st) (aV st) (aB st) .none kV dc pm an cd ct),sl⟩/\W.codeIn K cd qual=true/\W.keepIn K (.ref f)=true
theorem MA.of {K:W.Frag} {C:Addr} {m qual:Str} {st:Stmt} {f:Addr} {od an:Option Addr} {sl:Array (Option Value)} {oc kV dc pm cd ct:Value} (a:W.findIn K (.ref C) m=some (some (.ref f))) (i:W.isFn K (.ref f)=true) (l:K.lookup f=some ⟨oc,od,.func (W.fnOf m qual (bZ st) (aV st) (aB st) .none kV dc pm an cd ct),sl⟩) (c:W.codeIn K cd qual=true) (k:W.keepIn K (.ref f)=true):MA K C m qual st:=⟨f,od,an,sl,oc,kV,dc,pm,cd,ct,a,i,l,c,k⟩
theorem MA.at {K:W.Frag} {C:Addr} {m qual:Str} {st:Stmt} {ps:List Str} (F:MA K C m qual st) (cl:Cls K C) (hb:∀(kV doc pm:Value) (an:Option Addr) (cdv ct:Value) (us:List Value),us.length=ps.length->bindArgs (W.fnOf m qual (bZ st) (aV st) (aB st) .none kV doc pm an cdv ct) ⟨us,[]⟩=pure (ps.zip us)):MethAt K C m qual st ps:=by
 obtain⟨f,od,an,sl,oc,kV,dc,pm,cd,ct,a,i,l,c,k⟩:=F.ex
 exact⟨cl,_,_,kU l c k,⟨a,i,k⟩,(kU (st:=st) l c k).binds hb⟩
theorem Yh {l:W.OpenLaw} {w:World} {K:W.Frag} {h:Heap} {mg:Str->Option Value} {fa f_law:Addr} (X:K.In h) (G:h.Ns mainGlobals mg) (hfa:mg "law"=some (.ref fa))
  {od_law an_law:Option Addr} {sl_law:Array (Option Value)} {oc_law kV_law dc_law pm_law cd_law ct_law:Value}
  (a_is_name:FA K "is_name" kB)
  (a_is_whole:FA K "is_whole" iI)
  (a_is_made_of:FA K "is_made_of" eF)
  (a_asks_of:FA K "asks_of" kC)
  (a_done_changes:FA K "done_changes" dC)
  (a_early:FA K "early" oV)
  (a_late:FA K "late" uV)
  (a_done_answer:FA K "done_answer" dP)
  (a_changes_of:FA K "changes_of" fO)
  (a_is_answer:FA K "is_answer" fG)
  (a_word_of:FA K "word_of" kF)
  (a_is_no:FA K "is_no" oW)
  (a_bounds_of:FA K "bounds_of" gE)
  (a_are_within:FA K "are_within" eG)
  (a_first_odd:FA K "first_odd" gH)
  (a_by_numbers:FA K "by_numbers" fQ)
  (a_first_book:FA K "first_book" eI)
  (a_first_wrong:FA K "first_wrong" eY)
  (a_right_answers:FA K "right_answers" cW)
  (a_law_deck:FA K "_law_deck" iJ)
  (a_law_draw:FA K "_law_draw" iK)
  (a_law_unlike:FA K "_law_unlike" cT)
  (a_law_end:FA K "_law_end" kG)
  (a_law_deed:FA K "_law_deed" iM)
  (a_law_words:FA K "_law_words" fH)
  (a_law_answer:FA K "_law_answer" fR)
  (a_law_menus:FA K "_law_menus" gJ)
  (a_law_spot:FA K "_law_spot" iO)
  (a_law_kept:FA K "_law_kept" iP)
  (a_law_head:FA K "_law_head" iQ)
  (a_law_body:FA K "_law_body" bR)
  (a_law_listed:FA K "_law_listed" fS)
  (a_law_fits:FA K "_law_fits" iR)
  (a_law_head_good:FA K "_law_head_good" bS)
  (a_law_body_good:FA K "_law_body_good" bI)
  (a_law_due:FA K "_law_due" hU)
  (a_law_number_other:FA K "_law_number_other" bX)
  (a_law_turn_other:FA K "_law_turn_other" dI)
  (a_law_done_other:FA K "_law_done_other" cM)
  (a_law_row_other:FA K "_law_row_other" dR)
  (a_law_row_more:FA K "_law_row_more" cN)
  (a_law_spoilt:FA K "_law_spoilt" fT)
  (a_law_other_word:FA K "_law_other_word" dJ)
  (a_law_right:FA K "_law_right" gK)
  (a_law:W.nsIn K mainGlobals "law"=some (some (.ref f_law))) (l_law:K.lookup f_law=some ⟨oc_law,od_law,.func (W.fnOf "law" "law" (bZ lR) (aV lR) (aB lR) .none kV_law dc_law pm_law an_law cd_law ct_law),sl_law⟩) (c_law:W.codeIn K cd_law "law"=true) (k_law:W.keepIn K (.ref f_law)=true)
  {C_Walk:Addr} (aC_Walk:W.nsIn K mainGlobals "Walk"=some (some (.ref C_Walk))) (pg_Walk:W.plainGet K C_Walk Str.empty=true) (hd_Walk:W.hasDictIn K C_Walk=true) (po_Walk:W.plainOver K C_Walk=true) (sa_Walk:W.findIn K (.ref C_Walk) "__setattr__"=some (some (.builtin "object.__setattr__"))) (mk_Walk:W.makesIn K C_Walk=true) (kc_Walk:W.keepIn K (.ref C_Walk)=true)
  (n_Walk_last_rows:W.findIn K (.ref C_Walk) "last_rows"=some none)
  (n_Walk_last_rank:W.findIn K (.ref C_Walk) "last_rank"=some none)
  (n_Walk_last_turn:W.findIn K (.ref C_Walk) "last_turn"=some none)
  (n_Walk_kept_numbers:W.findIn K (.ref C_Walk) "kept_numbers"=some none)
  (n_Walk_came_deeds:W.findIn K (.ref C_Walk) "came_deeds"=some none)
  (n_Walk_asked_numbers:W.findIn K (.ref C_Walk) "asked_numbers"=some none)
  (n_Walk_done_numbers:W.findIn K (.ref C_Walk) "done_numbers"=some none)
  {f_Walk___init__:Addr} {od_Walk___init__ an_Walk___init__:Option Addr} {sl_Walk___init__:Array (Option Value)} {oc_Walk___init__ kV_Walk___init__ dc_Walk___init__ pm_Walk___init__ cd_Walk___init__ ct_Walk___init__:Value}
  (a_Walk___init__:W.findIn K (.ref C_Walk) "__init__"=some (some (.ref f_Walk___init__))) (i_Walk___init__:W.isFn K (.ref f_Walk___init__)=true) (l_Walk___init__:K.lookup f_Walk___init__=some ⟨oc_Walk___init__,od_Walk___init__,.func (W.fnOf "__init__" "Walk.__init__" (bZ cD) (aV cD) (aB cD) .none kV_Walk___init__ dc_Walk___init__ pm_Walk___init__ an_Walk___init__ cd_Walk___init__ ct_Walk___init__),sl_Walk___init__⟩) (c_Walk___init__:W.codeIn K cd_Walk___init__ "Walk.__init__"=true) (k_Walk___init__:W.keepIn K (.ref f_Walk___init__)=true)
  (a_Walk_fits:MA K C_Walk "fits" "Walk.fits" gF)
  (a_Walk_rises:MA K C_Walk "rises" "Walk.rises" fP)
  (a_Walk_fits_kept:MA K C_Walk "fits_kept" "Walk.fits_kept" dH)
  (a_Walk_fits_answer:MA K C_Walk "fits_answer" "Walk.fits_answer" cS)
  (a_Walk_step:MA K C_Walk "step" "Walk.step" gG)
  {C_Book:Addr} (aC_Book:W.nsIn K mainGlobals "Book"=some (some (.ref C_Book))) (pg_Book:W.plainGet K C_Book Str.empty=true) (hd_Book:W.hasDictIn K C_Book=true) (po_Book:W.plainOver K C_Book=true) (sa_Book:W.findIn K (.ref C_Book) "__setattr__"=some (some (.builtin "object.__setattr__"))) (mk_Book:W.makesIn K C_Book=true) (kc_Book:W.keepIn K (.ref C_Book)=true)
  (n_Book_amounts:W.findIn K (.ref C_Book) "amounts"=some none)
  {f_Book___init__:Addr} {od_Book___init__ an_Book___init__:Option Addr} {sl_Book___init__:Array (Option Value)} {oc_Book___init__ kV_Book___init__ dc_Book___init__ pm_Book___init__ cd_Book___init__ ct_Book___init__:Value} {T_Book:Addr}
  (a_Book___init__:W.findIn K (.ref C_Book) "__init__"=some (some (.ref f_Book___init__))) (i_Book___init__:W.isFn K (.ref f_Book___init__)=true) (l_Book___init__:K.lookup f_Book___init__=some ⟨oc_Book___init__,od_Book___init__,.func (W.fnOf "__init__" "Book.__init__" (bZ cC) (aV cC) (aB cC) (.ref T_Book) kV_Book___init__ dc_Book___init__ pm_Book___init__ an_Book___init__ cd_Book___init__ ct_Book___init__),sl_Book___init__⟩) (c_Book___init__:W.codeIn K cd_Book___init__ "Book.__init__"=true) (k_Book___init__:W.keepIn K (.ref f_Book___init__)=true)
  (a_Book_amount:MA K C_Book "amount" "Book.amount" eW)
  (a_Book_rows:MA K C_Book "rows" "Book.rows" jU)
  (a_Book_change:MA K C_Book "change" "Book.change" eX)
  {dT_Book:Option Addr} {itsT_Book:List Value} {nT_Book:Nat} {slT_Book:Array (Option Value)} (lT_Book:K.lookup T_Book=some ⟨.type "tuple",dT_Book,.seq (List.toArray itsT_Book) nT_Book,slT_Book⟩) (vT_Book:itsT_Book=[.none])
  {C_DoorError:Addr} (aC_DoorError:W.nsIn K mainGlobals "DoorError"=some (some (.ref C_DoorError)))
  {C_NoRows:Addr} (aC_NoRows:W.nsIn K mainGlobals "NoRows"=some (some (.ref C_NoRows)))
  {C_Busy:Addr} (aC_Busy:W.nsIn K mainGlobals "Busy"=some (some (.ref C_Busy)))
  {C_Down:Addr} (aC_Down:W.nsIn K mainGlobals "Down"=some (some (.ref C_Down)))
  {C_Late:Addr} (aC_Late:W.nsIn K mainGlobals "Late"=some (some (.ref C_Late)))
  {C_NoAsk:Addr} (aC_NoAsk:W.nsIn K mainGlobals "NoAsk"=some (some (.ref C_NoAsk)))
  {C_NoChange:Addr} (aC_NoChange:W.nsIn K mainGlobals "NoChange"=some (some (.ref C_NoChange)))
  {C_NoDeed:Addr} (aC_NoDeed:W.nsIn K mainGlobals "NoDeed"=some (some (.ref C_NoDeed)))
  {C_NoHouse:Addr} (aC_NoHouse:W.nsIn K mainGlobals "NoHouse"=some (some (.ref C_NoHouse)))
  {C_NoJournal:Addr} (aC_NoJournal:W.nsIn K mainGlobals "NoJournal"=some (some (.ref C_NoJournal)))
  {C_NoKey:Addr} (aC_NoKey:W.nsIn K mainGlobals "NoKey"=some (some (.ref C_NoKey)))
  {C_NoLine:Addr} (aC_NoLine:W.nsIn K mainGlobals "NoLine"=some (some (.ref C_NoLine)))
  {C_NoName:Addr} (aC_NoName:W.nsIn K mainGlobals "NoName"=some (some (.ref C_NoName)))
  {C_NoNumber:Addr} (aC_NoNumber:W.nsIn K mainGlobals "NoNumber"=some (some (.ref C_NoNumber)))
  {C_NoRow:Addr} (aC_NoRow:W.nsIn K mainGlobals "NoRow"=some (some (.ref C_NoRow)))
  {C_NoWay:Addr} (aC_NoWay:W.nsIn K mainGlobals "NoWay"=some (some (.ref C_NoWay)))
  {C_Other:Addr} (aC_Other:W.nsIn K mainGlobals "Other"=some (some (.ref C_Other)))
  {C_Unsafe:Addr} (aC_Unsafe:W.nsIn K mainGlobals "Unsafe"=some (some (.ref C_Unsafe)))
  {C_Up:Addr} (aC_Up:W.nsIn K mainGlobals "Up"=some (some (.ref C_Up)))
  {f_NoRows___init__:Addr} {od_NoRows___init__ an_NoRows___init__:Option Addr} {sl_NoRows___init__:Array (Option Value)} {oc_NoRows___init__ kV_NoRows___init__ dc_NoRows___init__ pm_NoRows___init__ cd_NoRows___init__ ct_NoRows___init__:Value}
  (a_NoRows___init__:W.findIn K (.ref C_NoRows) "__init__"=some (some (.ref f_NoRows___init__))) (i_NoRows___init__:W.isFn K (.ref f_NoRows___init__)=true) (l_NoRows___init__:K.lookup f_NoRows___init__=some ⟨oc_NoRows___init__,od_NoRows___init__,.func (W.fnOf "__init__" "NoRows.__init__" (bZ bG) (aV bG) (aB bG) .none kV_NoRows___init__ dc_NoRows___init__ pm_NoRows___init__ an_NoRows___init__ cd_NoRows___init__ ct_NoRows___init__),sl_NoRows___init__⟩) (c_NoRows___init__:W.codeIn K cd_NoRows___init__ "NoRows.__init__"=true) (k_NoRows___init__:W.keepIn K (.ref f_NoRows___init__)=true)
  (x_ga:W.findIn K (.ref C_NoRows) "__getattribute__"=some (some (.builtin "BaseException.__getattribute__")))
  (x_gx:W.findIn K (.ref C_NoRows) "__getattr__"=some none)
  (x_cl:W.findIn K (.ref C_NoRows) "__class__"=some (some (.builtin "object.__class__")))
  (x_gg:W.specialIn K (.builtin "object.__class__") "__get__"=some (some (.builtin "getset_descriptor.__get__")))
  (x_tk:W.takesIn K (.builtin "object.__class__")=some true)
  (x_mo:W.mroIn K C_NoRows (.type "object")=some true)
  (x_mb:W.mroIn K C_NoRows (.type "BaseException")=some true)
  (x_ci:W.isClsIn K C_NoRows=true)
  (x_kV:W.kitOne K (.ref C_NoRows) (.type "ValueError")=some true)
  (x_exc:zD K C_NoRows f_NoRows___init__ [.type "ValueError",.type "Exception",.type "BaseException",.type "object"] "ValueError.__new__"=true)
  (x_sa:W.findIn K (.ref C_NoRows) "__setattr__"=some (some (.builtin "object.__setattr__")))
  (x_ov:uS K C_NoRows=true)
  (x_hd:W.hasDictIn K C_NoRows=true)
  (x_xm:W.exmOne K (.ref C_NoRows) (.ref C_NoRows)=some true)
  (x_any1:W.kitAny K (.ref C_NoRows) [.ref C_Busy,.ref C_Down,.ref C_Late,.ref C_NoAsk,.ref C_NoChange,.ref C_NoDeed,.ref C_NoHouse,.ref C_NoJournal,.ref C_NoKey,.ref C_NoLine,.ref C_NoName]=some false)
  (x_any2:W.kitAny K (.ref C_NoRows) [.ref C_NoNumber,.ref C_NoRow,.ref C_NoWay,.ref C_Other,.ref C_Unsafe,.ref C_Up]=some false)
  (x_kD:W.kitOne K (.ref C_NoRows) (.ref C_DoorError)=some true)
  (x_ta:W.takerIn K C_NoRows "row"=some none)
  (x_num:W.findIn K (.ref C_NoRows) "row"=some none)
  (z_isinstance:W.nsIn K mainGlobals "isinstance"=some none)
  (z_int:W.nsIn K mainGlobals "int"=some none)
  (z_bool:W.nsIn K mainGlobals "bool"=some none)
  (z_str:W.nsIn K mainGlobals "str"=some none)
  (z_len:W.nsIn K mainGlobals "len"=some none)
  (z_all:W.nsIn K mainGlobals "all"=some none)
  (z_tuple:W.nsIn K mainGlobals "tuple"=some none)
  (z_zip:W.nsIn K mainGlobals "zip"=some none)
  (z_enumerate:W.nsIn K mainGlobals "enumerate"=some none)
  (z_sum:W.nsIn K mainGlobals "sum"=some none)
  (z_list:W.nsIn K mainGlobals "list"=some none)
  (z_range:W.nsIn K mainGlobals "range"=some none)
  (z_sorted:W.nsIn K mainGlobals "sorted"=some none)
  (z_max:W.nsIn K mainGlobals "max"=some none)
  (z_dict:W.nsIn K mainGlobals "dict"=some none)
  (z_ValueError:W.nsIn K mainGlobals "ValueError"=some none)
  {t_LETTERS:Tok} (y_LETTERS:W.nsIn K mainGlobals "LETTERS"=some (some (.str ("abcdefghijklmnopqrstuvwxyz") t_LETTERS)))
  {t_LONGEST_NAME:Tok} (y_LONGEST_NAME:W.nsIn K mainGlobals "LONGEST_NAME"=some (some (.int (8) t_LONGEST_NAME)))
  {t_MOST:Tok} (y_MOST:W.nsIn K mainGlobals "MOST"=some (some (.int (1000000000000) t_MOST)))
  {a_RANKS:Addr} {es_RANKS:List DictEntry} {n_RANKS:Nat} (y_RANKS:W.nsIn K mainGlobals "RANKS"=some (some (.ref a_RANKS))) (l_RANKS:K.lookup a_RANKS=some ⟨.type "dict",none,.dict (List.toArray es_RANKS) n_RANKS,#[]⟩) (t_RANKS:Tab w.params es_RANKS (RKS)) (o_RANKS:(a_RANKS == sysModules)=false)
  {a_UNASKED_WORDS:Addr} {its_UNASKED_WORDS:List Value} {dd_UNASKED_WORDS:Option Addr} {n_UNASKED_WORDS:Nat} {sl_UNASKED_WORDS:Array (Option Value)} (y_UNASKED_WORDS:W.nsIn K mainGlobals "UNASKED_WORDS"=some (some (.ref a_UNASKED_WORDS))) (l_UNASKED_WORDS:K.lookup a_UNASKED_WORDS=some ⟨.type "tuple",dd_UNASKED_WORDS,.seq (List.toArray its_UNASKED_WORDS) n_UNASKED_WORDS,sl_UNASKED_WORDS⟩) (v_UNASKED_WORDS:Vals (UAW) its_UNASKED_WORDS)
  : ∃fd:FuncData,(∀(s:Shared) (v:Value),BindsTo s fd ⟨[v],[]⟩ [("_law_script",v)])/\∀base:Heap,K.In base->base.Ns mainGlobals mg->iE l.prog w K mg base qW 10 fa fd ["_law_script"] (Cr K):=by
 have e:=hfa.symm.trans (W.mg_of X G a_law)
 cases e
 have T:Txt K mg:=⟨W.mg_none_of X G z_isinstance,W.mg_none_of X G z_int,W.mg_none_of X G z_bool,W.mg_none_of X G z_str,W.mg_none_of X G z_len,W.mg_none_of X G z_all,W.mg_none_of X G z_tuple,W.mg_none_of X G z_zip,W.mg_none_of X G z_enumerate,W.mg_none_of X G z_sum,W.mg_none_of X G z_list,W.mg_none_of X G z_range,W.mg_none_of X G z_sorted,W.mg_none_of X G z_max,W.mg_none_of X G z_dict,W.mg_none_of X G z_ValueError,⟨_,W.mg_of X G y_LETTERS⟩,⟨_,W.mg_of X G y_LONGEST_NAME⟩,⟨_,W.mg_of X G y_MOST⟩⟩
 have U:Top w.params K mg:=⟨⟨_,W.mg_of X G y_RANKS,⟨_,_,l_RANKS,t_RANKS,o_RANKS⟩⟩,⟨_,W.mg_of X G y_UNASKED_WORDS,fun _=>.inr ⟨_,_,_,l_UNASKED_WORDS,rfl,rfl,by rw[eB,<- v_UNASKED_WORDS.length];decide,v_UNASKED_WORDS⟩⟩⟩
 have D_is_name:DefAt K mg "is_name" kB ["thing"]:=a_is_name.at X G fun _ _ _ _ _ _ us hl=>match us,hl with | [_],_=>rfl
 have D_is_whole:DefAt K mg "is_whole" iI ["thing","least","most"]:=a_is_whole.at X G fun _ _ _ _ _ _ us hl=>match us,hl with | [_,_,_],_=>rfl
 have D_is_made_of:DefAt K mg "is_made_of" eF ["thing","signs","longest"]:=a_is_made_of.at X G fun _ _ _ _ _ _ us hl=>match us,hl with | [_,_,_],_=>rfl
 have D_asks_of:DefAt K mg "asks_of" kC ["deed"]:=a_asks_of.at X G fun _ _ _ _ _ _ us hl=>match us,hl with | [_],_=>rfl
 have D_done_changes:DefAt K mg "done_changes" dC ["deed"]:=a_done_changes.at X G fun _ _ _ _ _ _ us hl=>match us,hl with | [_],_=>rfl
 have D_early:DefAt K mg "early" oV ["book","deed"]:=a_early.at X G fun _ _ _ _ _ _ us hl=>match us,hl with | [_,_],_=>rfl
 have D_late:DefAt K mg "late" uV ["book","deed","heard"]:=a_late.at X G fun _ _ _ _ _ _ us hl=>match us,hl with | [_,_,_],_=>rfl
 have D_done_answer:DefAt K mg "done_answer" dP ["book","deed"]:=a_done_answer.at X G fun _ _ _ _ _ _ us hl=>match us,hl with | [_,_],_=>rfl
 have D_changes_of:DefAt K mg "changes_of" fO ["deed","answer"]:=a_changes_of.at X G fun _ _ _ _ _ _ us hl=>match us,hl with | [_,_],_=>rfl
 have D_is_answer:DefAt K mg "is_answer" fG ["deed","thing"]:=a_is_answer.at X G fun _ _ _ _ _ _ us hl=>match us,hl with | [_,_],_=>rfl
 have D_word_of:DefAt K mg "word_of" kF ["thing"]:=a_word_of.at X G fun _ _ _ _ _ _ us hl=>match us,hl with | [_],_=>rfl
 have D_is_no:DefAt K mg "is_no" oW ["answer"]:=a_is_no.at X G fun _ _ _ _ _ _ us hl=>match us,hl with | [_],_=>rfl
 have D_bounds_of:DefAt K mg "bounds_of" gE ["deed"]:=a_bounds_of.at X G fun _ _ _ _ _ _ us hl=>match us,hl with | [_],_=>rfl
 have D_are_within:DefAt K mg "are_within" eG ["things","bounds"]:=a_are_within.at X G fun _ _ _ _ _ _ us hl=>match us,hl with | [_,_],_=>rfl
 have D_first_odd:DefAt K mg "first_odd" gH ["rows"]:=a_first_odd.at X G fun _ _ _ _ _ _ us hl=>match us,hl with | [_],_=>rfl
 have D_by_numbers:DefAt K mg "by_numbers" fQ ["rows","word"]:=a_by_numbers.at X G fun _ _ _ _ _ _ us hl=>match us,hl with | [_,_],_=>rfl
 have D_first_book:DefAt K mg "first_book" eI ["rows"]:=a_first_book.at X G fun _ _ _ _ _ _ us hl=>match us,hl with | [_],_=>rfl
 have D_first_wrong:DefAt K mg "first_wrong" eY ["rows"]:=a_first_wrong.at X G fun _ _ _ _ _ _ us hl=>match us,hl with | [_],_=>rfl
 have D_right_answers:DefAt K mg "right_answers" cW ["book","deed"]:=a_right_answers.at X G fun _ _ _ _ _ _ us hl=>match us,hl with | [_,_],_=>rfl
 have D_law_deck:DefAt K mg "_law_deck" iJ ["_law_script"]:=a_law_deck.at X G fun _ _ _ _ _ _ us hl=>match us,hl with | [_],_=>rfl
 have D_law_draw:DefAt K mg "_law_draw" iK ["_law_deck_here","_law_many"]:=a_law_draw.at X G fun _ _ _ _ _ _ us hl=>match us,hl with | [_,_],_=>rfl
 have D_law_unlike:DefAt K mg "_law_unlike" cT ["_law_deck_here","_law_signs","_law_longest","_law_many"]:=a_law_unlike.at X G fun _ _ _ _ _ _ us hl=>match us,hl with | [_,_,_,_],_=>rfl
 have D_law_end:DefAt K mg "_law_end" kG ["_law_deck_here","_law_many"]:=a_law_end.at X G fun _ _ _ _ _ _ us hl=>match us,hl with | [_,_],_=>rfl
 have D_law_deed:DefAt K mg "_law_deed" iM ["_law_deck_here","_law_names","_law_houses"]:=a_law_deed.at X G fun _ _ _ _ _ _ us hl=>match us,hl with | [_,_,_],_=>rfl
 have D_law_words:DefAt K mg "_law_words" fH ["_law_deed_here","_law_asked"]:=a_law_words.at X G fun _ _ _ _ _ _ us hl=>match us,hl with | [_,_],_=>rfl
 have D_law_answer:DefAt K mg "_law_answer" fR ["_law_deck_here","_law_deed_here","_law_word"]:=a_law_answer.at X G fun _ _ _ _ _ _ us hl=>match us,hl with | [_,_,_],_=>rfl
 have D_law_menus:DefAt K mg "_law_menus" gJ ["_law_deck_here"]:=a_law_menus.at X G fun _ _ _ _ _ _ us hl=>match us,hl with | [_],_=>rfl
 have D_law_spot:DefAt K mg "_law_spot" iO ["_law_deck_here","_law_menus_here"]:=a_law_spot.at X G fun _ _ _ _ _ _ us hl=>match us,hl with | [_,_],_=>rfl
 have D_law_kept:DefAt K mg "_law_kept" iP ["_law_deck_here","_law_menus_here","_law_number","_law_turn"]:=a_law_kept.at X G fun _ _ _ _ _ _ us hl=>match us,hl with | [_,_,_,_],_=>rfl
 have D_law_head:DefAt K mg "_law_head" iQ ["_law_deck_here","_law_menus_here"]:=a_law_head.at X G fun _ _ _ _ _ _ us hl=>match us,hl with | [_,_],_=>rfl
 have D_law_body:DefAt K mg "_law_body" bR ["_law_deck_here","_law_rows","_law_menus_here","_law_many"]:=a_law_body.at X G fun _ _ _ _ _ _ us hl=>match us,hl with | [_,_,_,_],_=>rfl
 have D_law_listed:DefAt K mg "_law_listed" fS ["_law_deck_here","_law_menus_here"]:=a_law_listed.at X G fun _ _ _ _ _ _ us hl=>match us,hl with | [_,_],_=>rfl
 have D_law_fits:DefAt K mg "_law_fits" iR ["_law_deed_here","_law_answer_here"]:=a_law_fits.at X G fun _ _ _ _ _ _ us hl=>match us,hl with | [_,_],_=>rfl
 have D_law_head_good:DefAt K mg "_law_head_good" bS ["_law_row","_law_ahead"]:=a_law_head_good.at X G fun _ _ _ _ _ _ us hl=>match us,hl with | [_,_],_=>rfl
 have D_law_body_good:DefAt K mg "_law_body_good" bI ["_law_row","_law_ahead"]:=a_law_body_good.at X G fun _ _ _ _ _ _ us hl=>match us,hl with | [_,_],_=>rfl
 have D_law_due:DefAt K mg "_law_due" hU ["_law_rows"]:=a_law_due.at X G fun _ _ _ _ _ _ us hl=>match us,hl with | [_],_=>rfl
 have D_law_number_other:DefAt K mg "_law_number_other" bX ["_law_deck_here","_law_rows","_law_row"]:=a_law_number_other.at X G fun _ _ _ _ _ _ us hl=>match us,hl with | [_,_,_],_=>rfl
 have D_law_turn_other:DefAt K mg "_law_turn_other" dI ["_law_deck_here","_law_rows","_law_row"]:=a_law_turn_other.at X G fun _ _ _ _ _ _ us hl=>match us,hl with | [_,_,_],_=>rfl
 have D_law_done_other:DefAt K mg "_law_done_other" cM ["_law_deck_here","_law_rows","_law_row","_law_menus_here"]:=a_law_done_other.at X G fun _ _ _ _ _ _ us hl=>match us,hl with | [_,_,_,_],_=>rfl
 have D_law_row_other:DefAt K mg "_law_row_other" dR ["_law_deck_here","_law_rows","_law_row","_law_menus_here"]:=a_law_row_other.at X G fun _ _ _ _ _ _ us hl=>match us,hl with | [_,_,_,_],_=>rfl
 have D_law_row_more:DefAt K mg "_law_row_more" cN ["_law_deck_here","_law_rows","_law_menus_here"]:=a_law_row_more.at X G fun _ _ _ _ _ _ us hl=>match us,hl with | [_,_,_],_=>rfl
 have D_law_spoilt:DefAt K mg "_law_spoilt" fT ["_law_deck_here","_law_rows","_law_menus_here"]:=a_law_spoilt.at X G fun _ _ _ _ _ _ us hl=>match us,hl with | [_,_,_],_=>rfl
 have D_law_other_word:DefAt K mg "_law_other_word" dJ ["_law_error"]:=a_law_other_word.at X G fun _ _ _ _ _ _ us hl=>match us,hl with | [_],_=>rfl
 have D_law_right:DefAt K mg "_law_right" gK ["_law_rows"]:=a_law_right.at X G fun _ _ _ _ _ _ us hl=>match us,hl with | [_],_=>rfl
 have cl_Walk:Cls K C_Walk:=⟨pg_Walk,hd_Walk,po_Walk,sa_Walk⟩
 have M_Walk_fits:MethAt K C_Walk "fits" "Walk.fits" gF ["self","row"]:=a_Walk_fits.at cl_Walk fun _ _ _ _ _ _ us hl=>match us,hl with | [_,_],_=>rfl
 have M_Walk_rises:MethAt K C_Walk "rises" "Walk.rises" fP ["self","row"]:=a_Walk_rises.at cl_Walk fun _ _ _ _ _ _ us hl=>match us,hl with | [_,_],_=>rfl
 have M_Walk_fits_kept:MethAt K C_Walk "fits_kept" "Walk.fits_kept" dH ["self","row"]:=a_Walk_fits_kept.at cl_Walk fun _ _ _ _ _ _ us hl=>match us,hl with | [_,_],_=>rfl
 have M_Walk_fits_answer:MethAt K C_Walk "fits_answer" "Walk.fits_answer" cS ["self","row"]:=a_Walk_fits_answer.at cl_Walk fun _ _ _ _ _ _ us hl=>match us,hl with | [_,_],_=>rfl
 have M_Walk_step:MethAt K C_Walk "step" "Walk.step" gG ["self","row"]:=a_Walk_step.at cl_Walk fun _ _ _ _ _ _ us hl=>match us,hl with | [_,_],_=>rfl
 have I_Walk:ClsAt K mg "Walk" C_Walk "Walk.__init__" cD ["self"] [[]]:=⟨f_Walk___init__,_,_,W.mg_of X G aC_Walk,⟨_,_,_,_,_,_,_,_,_,rfl,l_Walk___init__,c_Walk___init__⟩,⟨mk_Walk,a_Walk___init__,i_Walk___init__,kc_Walk⟩,by
  intro d hd;obtain rfl:=Zms.mp hd
  exact⟨[],fun s us KI hl=>match us,(show us.length=1 by simpa using hl) with | [_],_=>BindsTo.of_eq rfl,.nil⟩⟩
 have cl_Book:Cls K C_Book:=⟨pg_Book,hd_Book,po_Book,sa_Book⟩
 have M_Book_amount:MethAt K C_Book "amount" "Book.amount" eW ["self","name"]:=a_Book_amount.at cl_Book fun _ _ _ _ _ _ us hl=>match us,hl with | [_,_],_=>rfl
 have M_Book_rows:MethAt K C_Book "rows" "Book.rows" jU ["self"]:=a_Book_rows.at cl_Book fun _ _ _ _ _ _ us hl=>match us,hl with | [_],_=>rfl
 have M_Book_change:MethAt K C_Book "change" "Book.change" eX ["self","changes"]:=a_Book_change.at cl_Book fun _ _ _ _ _ _ us hl=>match us,hl with | [_,_],_=>rfl
 subst vT_Book;have I_Book:ClsAt K mg "Book" C_Book "Book.__init__" cC ["self","rows"] [[],[.non]]:=⟨f_Book___init__,_,_,W.mg_of X G aC_Book,⟨_,_,_,_,_,_,_,_,_,rfl,l_Book___init__,c_Book___init__⟩,⟨mk_Book,a_Book___init__,i_Book___init__,kc_Book⟩,by
  intro d hd;rcases List.mem_cons.mp hd with rfl | hd
  ·exact⟨[],fun s us KI hl=>match us,(show us.length=2 by simpa using hl) with | [_,_],_=>BindsTo.of_defaults (T:=T_Book) rfl (KI _ _ lT_Book) rfl rfl rfl,.nil⟩
  obtain rfl:=Zms.mp hd
  ·exact⟨[.none],fun s us KI hl=>match us,(show us.length=1 by simpa using hl) with | [_],_=>BindsTo.of_defaults (T:=T_Book) rfl (KI _ _ lT_Book) rfl rfl rfl,(.cons rfl .nil)⟩⟩
 have N_NoRows:InitAt K f_NoRows___init__ "NoRows.__init__" bG ["self","row"]:=⟨⟨_,kU l_NoRows___init__ c_NoRows___init__ k_NoRows___init__,(kU (st:=bG) l_NoRows___init__ c_NoRows___init__ k_NoRows___init__).binds (fun _ _ _ _ _ _ us hl=>match us,hl with | [_,_],_=>rfl)⟩,i_NoRows___init__⟩
 refine⟨W.fnOf "law" "law" (bZ lR) (aV lR) (aB lR) .none kV_law dc_law pm_law an_law cd_law ct_law,fun s v=>.of_eq rfl,fun base _ _=>?_⟩
 have F_law:=kU (st:=lR) l_law c_law k_law
 have WT:Xs K C_Walk:=⟨cl_Walk,n_Walk_last_rows,n_Walk_last_rank,n_Walk_last_turn,n_Walk_kept_numbers,n_Walk_came_deeds,n_Walk_asked_numbers,n_Walk_done_numbers⟩
 have cd:=Qc (P:=l.prog) (w:=w) (base:=base) T D_law_deck
 have cr:=Kq (P:=l.prog) (w:=w) (base:=base) D_law_draw
 have ce:=Xm T cr D_law_end
 have cu:=Ev T cr D_law_unlike
 have cde:=Qh T cr ce D_law_deed
 have cw:=Ku (P:=l.prog) (w:=w) (base:=base) T D_law_words
 have ca:=Ew T cr ce D_law_answer
 have csp:=Qi T cr D_law_spot
 have ck:=Qj T cr cde cw ca csp D_law_kept
 have ch:=Qk T cr ce ck D_law_head
 have cm:=Kv T cr cu D_law_menus
 have cbo:=Qw T cr cde csp cw ca D_law_body
 have c3:=Pz (P:=l.prog) (w:=w) (base:=base) T D_is_made_of
 have c4:=zM T c3 D_is_name
 have c5:=Kn (P:=l.prog) (w:=w) (base:=base) T D_is_whole
 have cas:=Qa (P:=l.prog) (w:=w) (base:=base) T D_asks_of
 have cwo:=zN (P:=l.prog) (w:=w) (base:=base) T D_word_of
 have cno:=Ko T c4 D_is_no
 have cb:=Es (P:=l.prog) (w:=w) (base:=base) T D_bounds_of
 have cwi:=Et T c5 D_are_within
 have cia:=uW T cwo cno cas cb cwi D_is_answer
 have cwr:=Fc (P:=l.prog) (w:=w) (mg:=mg) (base:=base) WT M_Walk_rises
 have cwk:=Ll WT cwr M_Walk_fits_kept
 have cwa:=Qq T U WT cia cas M_Walk_fits_answer
 have cwf:=Ln T U WT cwr cwk cwa cas M_Walk_fits
 have cws:=Lq (P:=l.prog) (base:=base) T U WT M_Walk_step
 have cwn:=Lr (P:=l.prog) (w:=w) (base:=base) WT I_Walk
 have cfo:=vB T (cwn _ Zs) cwf cws D_first_odd
 have cli:=Fi T cr ch cbo D_law_listed
 have cnu:=oM T cr D_law_number_other
 have ctu:=rK T cr D_law_turn_other
 have cdo:=rL T cr cde cw ca D_law_done_other
 have cro:=vE T cr cde cnu ctu cdo D_law_row_other
 have crm:=xM T cr ce cde cw ca ck csp D_law_row_more
 have csl:=Fn T cr crm cro D_law_spoilt
 have clf:=Mc (P:=l.prog) (w:=w) (base:=base) T D_law_fits
 have chg:=vI (P:=l.prog) (w:=w) (base:=base) T D_law_head_good
 have cbd:=vK T clf D_law_body_good
 have cdu:=Mh T chg cbd D_law_due
 have BT:Wo K C_Book:=⟨cl_Book,n_Book_amounts⟩
 have ci:=Mp (P:=l.prog) (w:=w) (base:=base) T BT I_Book
 have cam:=vN (P:=l.prog) (w:=w) (mg:=mg) (base:=base) BT M_Book_amount
 have cgn:=zZ T BT cam M_Book_change
 have cdc:=oN (P:=l.prog) (w:=w) (base:=base) T D_done_changes
 have cco:=rN T cdc D_changes_of
 have cfb:=rO T (ci _ Zs) D_first_book
 have cbn:=rM (P:=l.prog) (w:=w) (base:=base) D_by_numbers
 have ccx:=Aa (P:=l.prog) (w:=w) (base:=base) T D_done_changes
 have cda:=qS T BT ccx cam D_done_answer
 have cea:=Mv T BT ccx cas cam cda D_early
 have clt:=Rt T BT cas cda D_late
 have cra:=nU T cea clt cas D_right_answers
 have XQ:oF K C_NoRows:=⟨x_ga,x_gx,x_cl,x_gg,x_tk,x_mo,x_mb,x_ci⟩
 have XI:XClsI K mg "NoRows" C_NoRows f_NoRows___init__:=⟨W.mg_of X G aC_NoRows,x_exc⟩
 have iN:sP l.prog w K mg base 1 C_NoRows f_NoRows___init__ "row":=Na ⟨x_sa,x_ov,x_ta⟩ N_NoRows
 have cfw:=qV T XI iN cfo cbn cfb cra cco cgn D_first_wrong
 have MT:Ad K mg C_NoRows C_DoorError [C_Busy,C_Down,C_Late,C_NoAsk,C_NoChange,C_NoDeed,C_NoHouse,C_NoJournal,C_NoKey,C_NoLine,C_NoName] [C_NoNumber,C_NoRow,C_NoWay,C_Other,C_Unsafe,C_Up]:=⟨W.mg_of X G aC_NoRows,W.mg_of X G aC_DoorError,x_xm,XQ,x_any1,x_any2,x_kD,x_kV,x_hd,x_num⟩
 have cow:=rP (P:=l.prog) (w:=w) (base:=base) T MT (W.mg_of X G aC_Busy) (W.mg_of X G aC_Down) (W.mg_of X G aC_Late) (W.mg_of X G aC_NoAsk) (W.mg_of X G aC_NoChange) (W.mg_of X G aC_NoDeed) (W.mg_of X G aC_NoHouse) (W.mg_of X G aC_NoJournal) (W.mg_of X G aC_NoKey) (W.mg_of X G aC_NoLine) (W.mg_of X G aC_NoName) (W.mg_of X G aC_NoNumber) (W.mg_of X G aC_NoRow) (W.mg_of X G aC_NoWay) (W.mg_of X G aC_Other) (W.mg_of X G aC_Unsafe) (W.mg_of X G aC_Up) D_law_other_word
 have crt:=Ae T MT cdu cfw cow D_law_right
 exact Yg T cd cm cli crt csl F_law
theorem aBR {l:W.OpenLaw} {q:Program} {loose:List Str} {XP:(Str->Option Value)->Heap->Prop} {YP:World->Heap->Prop} {d:DefRec} {K:Params->W.Frag} (hn:l.most=some 63) (hdf:d.params.defaults=[])
  (hY:∀(w:World) (h:Heap),YP w h->(K w.params).In h)
  (F:∀(w:World) (mg:Str->Option Value) (fa:Addr) (h:Heap),(K w.params).In h->h.Ns mainGlobals mg->mg d.name=some (.ref fa) →
   ∃fd:FuncData,(∀(s:Shared) (u:Value),BindsTo s fd ⟨[u],[]⟩ [("_law_script",u)])/\∀base:Heap,(K w.params).In base->base.Ns mainGlobals mg->iE l.prog w (K w.params) mg base qW 10 fa fd ["_law_script"] (Cr (K w.params))) :
  W.WalkO q loose XP YP l.row.toRowW d [] (fun f vs=>PySem.call f vs):=
 L2.Au (n:=63) (k:=10) (x:="_law_script") (CX:=fun _=>qW) (sp:=fun w=>Cr (K w.params)) hn Zd hdf ⟨rfl,Zd,Zd⟩ hY F (fun _ _ a ns hl _ hS=>⟨a,ns,rfl,hS,hl,fun _=>rfl⟩) fun _ _ _ _ _ z=>z
end KL
def PySem.W.Fast.tw8534631087294500977:Nat:=0
def PySem.W.Fast.tw7102772987062898983:Nat:=0
def PySem.W.Fast.tw11105104716845612437:Nat:=0
def PySem.W.Fast.tw4776119355158453096:Nat:=0
def PySem.W.Fast.tw10343180128226453753:Nat:=0
def PySem.W.Fast.tw12734003339336521460:Nat:=0
def PySem.W.Fast.tw15767571265852467126:Nat:=0
def PySem.W.Fast.tw7966301349869000268:Nat:=0
def PySem.W.Fast.tw14370960326158923639:Nat:=0
def PySem.W.Fast.tw16242459451228860331:Nat:=0
def PySem.W.Fast.tw5854270873395901321:Nat:=0
def PySem.W.Fast.tw5845128234764604026:Nat:=0
def PySem.W.Fast.tw6595664678136673144:Nat:=0
def PySem.W.Fast.tw17637332269750197159:Nat:=0
def PySem.W.Fast.tw6002383380566810113:Nat:=0
def PySem.W.Fast.tw335473176150621763:Nat:=0
def PySem.W.Fast.tw3667356479545992816:Nat:=0
def PySem.W.Fast.tw11887465676178249060:Nat:=0
def PySem.W.Fast.tw17241367329377206605:Nat:=0
def PySem.W.Fast.tw2071440801774248610:Nat:=0
def PySem.W.Fast.tw15956601441505555836:Nat:=0
def PySem.W.Fast.tw16608913921091775511:Nat:=0
def PySem.W.Fast.tw10939117183714971851:Nat:=0
def PySem.W.Fast.tw14507746549110902772:Nat:=0
def PySem.W.Fast.tw18321794476203585234:Nat:=0
def PySem.W.Fast.tw16378250813187720411:Nat:=0
def PySem.W.Fast.tw6863484569855157671:Nat:=0
def PySem.W.Fast.tw18083259800734107250:Nat:=0
open PySem PySem.W PyProof.Rows
set_option maxRecDepth 100000 in
set_option maxHeartbeats 0 in
theorem PySem.Challenge.cw_oncedoor_k74_rows_not_whole_holds : PySem.Challenge.rw_oncedoor_k74_rows_not_whole.Holds := by
 w_on;o_law;k_head;(case hw=>w_witness2)
 k_fill
 refine KL.aBR (l:=PySem.Challenge.rw_oncedoor_k74_rows_not_whole) rfl rfl (fun w h Y=>W.kIn_of Y) ?F
 case F=>
  intro w mg fa h KX G hmg;refine' KL.Yh KX G hmg ?a_is_name ?a_is_whole ?a_is_made_of ?a_asks_of ?a_done_changes ?a_early ?a_late ?a_done_answer ?a_changes_of ?a_is_answer ?a_word_of ?a_is_no ?a_bounds_of ?a_are_within ?a_first_odd ?a_by_numbers ?a_first_book ?a_first_wrong ?a_right_answers ?a_law_deck ?a_law_draw ?a_law_unlike ?a_law_end ?a_law_deed ?a_law_words ?a_law_answer ?a_law_menus ?a_law_spot ?a_law_kept ?a_law_head ?a_law_body ?a_law_listed ?a_law_fits ?a_law_head_good ?a_law_body_good ?a_law_due ?a_law_number_other ?a_law_turn_other ?a_law_done_other ?a_law_row_other ?a_law_row_more ?a_law_spoilt ?a_law_other_word ?a_law_right ?a_law ?l_law ?c_law ?k_law ?aC_Walk ?pg_Walk ?hd_Walk ?po_Walk ?sa_Walk ?mk_Walk ?kc_Walk ?n_Walk_last_rows ?n_Walk_last_rank ?n_Walk_last_turn ?n_Walk_kept_numbers ?n_Walk_came_deeds ?n_Walk_asked_numbers ?n_Walk_done_numbers ?a_Walk___init__ ?i_Walk___init__ ?l_Walk___init__ ?c_Walk___init__ ?k_Walk___init__ ?a_Walk_fits ?a_Walk_rises ?a_Walk_fits_kept ?a_Walk_fits_answer ?a_Walk_step ?aC_Book ?pg_Book ?hd_Book ?po_Book ?sa_Book ?mk_Book ?kc_Book ?n_Book_amounts ?a_Book___init__ ?i_Book___init__ ?l_Book___init__ ?c_Book___init__ ?k_Book___init__ ?a_Book_amount ?a_Book_rows ?a_Book_change ?lT_Book ?vT_Book ?aC_DoorError ?aC_NoRows ?aC_Busy ?aC_Down ?aC_Late ?aC_NoAsk ?aC_NoChange ?aC_NoDeed ?aC_NoHouse ?aC_NoJournal ?aC_NoKey ?aC_NoLine ?aC_NoName ?aC_NoNumber ?aC_NoRow ?aC_NoWay ?aC_Other ?aC_Unsafe ?aC_Up ?a_NoRows___init__ ?i_NoRows___init__ ?l_NoRows___init__ ?c_NoRows___init__ ?k_NoRows___init__ ?x_ga ?x_gx ?x_cl ?x_gg ?x_tk ?x_mo ?x_mb ?x_ci ?x_kV ?x_exc ?x_sa ?x_ov ?x_hd ?x_xm ?x_any1 ?x_any2 ?x_kD ?x_ta ?x_num ?z_isinstance ?z_int ?z_bool ?z_str ?z_len ?z_all ?z_tuple ?z_zip ?z_enumerate ?z_sum ?z_list ?z_range ?z_sorted ?z_max ?z_dict ?z_ValueError ?y_LETTERS ?y_LONGEST_NAME ?y_MOST ?y_RANKS ?l_RANKS ?t_RANKS ?o_RANKS ?y_UNASKED_WORDS ?l_UNASKED_WORDS ?v_UNASKED_WORDS
  (case a_is_name=>refine' KL.FA.of ?a ?l ?c ?k;(case a=>k_is);(case l=>k_is);(case c=>k_is);case k=>k_is)
  (case a_is_whole=>refine' KL.FA.of ?a ?l ?c ?k;(case a=>k_is);(case l=>k_is);(case c=>k_is);case k=>k_is)
  (case a_is_made_of=>refine' KL.FA.of ?a ?l ?c ?k;(case a=>k_is);(case l=>k_is);(case c=>k_is);case k=>k_is)
  (case a_asks_of=>refine' KL.FA.of ?a ?l ?c ?k;(case a=>k_is);(case l=>k_is);(case c=>k_is);case k=>k_is)
  (case a_done_changes=>refine' KL.FA.of ?a ?l ?c ?k;(case a=>k_is);(case l=>k_is);(case c=>k_is);case k=>k_is)
  (case a_early=>refine' KL.FA.of ?a ?l ?c ?k;(case a=>k_is);(case l=>k_is);(case c=>k_is);case k=>k_is)
  (case a_late=>refine' KL.FA.of ?a ?l ?c ?k;(case a=>k_is);(case l=>k_is);(case c=>k_is);case k=>k_is)
  (case a_done_answer=>refine' KL.FA.of ?a ?l ?c ?k;(case a=>k_is);(case l=>k_is);(case c=>k_is);case k=>k_is)
  (case a_changes_of=>refine' KL.FA.of ?a ?l ?c ?k;(case a=>k_is);(case l=>k_is);(case c=>k_is);case k=>k_is)
  (case a_is_answer=>refine' KL.FA.of ?a ?l ?c ?k;(case a=>k_is);(case l=>k_is);(case c=>k_is);case k=>k_is)
  (case a_word_of=>refine' KL.FA.of ?a ?l ?c ?k;(case a=>k_is);(case l=>k_is);(case c=>k_is);case k=>k_is)
  (case a_is_no=>refine' KL.FA.of ?a ?l ?c ?k;(case a=>k_is);(case l=>k_is);(case c=>k_is);case k=>k_is)
  (case a_bounds_of=>refine' KL.FA.of ?a ?l ?c ?k;(case a=>k_is);(case l=>k_is);(case c=>k_is);case k=>k_is)
  (case a_are_within=>refine' KL.FA.of ?a ?l ?c ?k;(case a=>k_is);(case l=>k_is);(case c=>k_is);case k=>k_is)
  (case a_first_odd=>refine' KL.FA.of ?a ?l ?c ?k;(case a=>k_is);(case l=>k_is);(case c=>k_is);case k=>k_is)
  (case a_by_numbers=>refine' KL.FA.of ?a ?l ?c ?k;(case a=>k_is);(case l=>k_is);(case c=>k_is);case k=>k_is)
  (case a_first_book=>refine' KL.FA.of ?a ?l ?c ?k;(case a=>k_is);(case l=>k_is);(case c=>k_is);case k=>k_is)
  (case a_first_wrong=>refine' KL.FA.of ?a ?l ?c ?k;(case a=>k_is);(case l=>k_is);(case c=>k_is);case k=>k_is)
  (case a_right_answers=>refine' KL.FA.of ?a ?l ?c ?k;(case a=>k_is);(case l=>k_is);(case c=>k_is);case k=>k_is)
  (case a_law_deck=>refine' KL.FA.of ?a ?l ?c ?k;(case a=>k_is);(case l=>k_is);(case c=>k_is);case k=>k_is)
  (case a_law_draw=>refine' KL.FA.of ?a ?l ?c ?k;(case a=>k_is);(case l=>k_is);(case c=>k_is);case k=>k_is)
  (case a_law_unlike=>refine' KL.FA.of ?a ?l ?c ?k;(case a=>k_is);(case l=>k_is);(case c=>k_is);case k=>k_is)
  (case a_law_end=>refine' KL.FA.of ?a ?l ?c ?k;(case a=>k_is);(case l=>k_is);(case c=>k_is);case k=>k_is)
  (case a_law_deed=>refine' KL.FA.of ?a ?l ?c ?k;(case a=>k_is);(case l=>k_is);(case c=>k_is);case k=>k_is)
  (case a_law_words=>refine' KL.FA.of ?a ?l ?c ?k;(case a=>k_is);(case l=>k_is);(case c=>k_is);case k=>k_is)
  (case a_law_answer=>refine' KL.FA.of ?a ?l ?c ?k;(case a=>k_is);(case l=>k_is);(case c=>k_is);case k=>k_is)
  (case a_law_menus=>refine' KL.FA.of ?a ?l ?c ?k;(case a=>k_is);(case l=>k_is);(case c=>k_is);case k=>k_is)
  (case a_law_spot=>refine' KL.FA.of ?a ?l ?c ?k;(case a=>k_is);(case l=>k_is);(case c=>k_is);case k=>k_is)
  (case a_law_kept=>refine' KL.FA.of ?a ?l ?c ?k;(case a=>k_is);(case l=>k_is);(case c=>k_is);case k=>k_is)
  (case a_law_head=>refine' KL.FA.of ?a ?l ?c ?k;(case a=>k_is);(case l=>k_is);(case c=>k_is);case k=>k_is)
  (case a_law_body=>refine' KL.FA.of ?a ?l ?c ?k;(case a=>k_is);(case l=>k_is);(case c=>k_is);case k=>k_is)
  (case a_law_listed=>refine' KL.FA.of ?a ?l ?c ?k;(case a=>k_is);(case l=>k_is);(case c=>k_is);case k=>k_is)
  (case a_law_fits=>refine' KL.FA.of ?a ?l ?c ?k;(case a=>k_is);(case l=>k_is);(case c=>k_is);case k=>k_is)
  (case a_law_head_good=>refine' KL.FA.of ?a ?l ?c ?k;(case a=>k_is);(case l=>k_is);(case c=>k_is);case k=>k_is)
  (case a_law_body_good=>refine' KL.FA.of ?a ?l ?c ?k;(case a=>k_is);(case l=>k_is);(case c=>k_is);case k=>k_is)
  (case a_law_due=>refine' KL.FA.of ?a ?l ?c ?k;(case a=>k_is);(case l=>k_is);(case c=>k_is);case k=>k_is)
  (case a_law_number_other=>refine' KL.FA.of ?a ?l ?c ?k;(case a=>k_is);(case l=>k_is);(case c=>k_is);case k=>k_is)
  (case a_law_turn_other=>refine' KL.FA.of ?a ?l ?c ?k;(case a=>k_is);(case l=>k_is);(case c=>k_is);case k=>k_is)
  (case a_law_done_other=>refine' KL.FA.of ?a ?l ?c ?k;(case a=>k_is);(case l=>k_is);(case c=>k_is);case k=>k_is)
  (case a_law_row_other=>refine' KL.FA.of ?a ?l ?c ?k;(case a=>k_is);(case l=>k_is);(case c=>k_is);case k=>k_is)
  (case a_law_row_more=>refine' KL.FA.of ?a ?l ?c ?k;(case a=>k_is);(case l=>k_is);(case c=>k_is);case k=>k_is)
  (case a_law_spoilt=>refine' KL.FA.of ?a ?l ?c ?k;(case a=>k_is);(case l=>k_is);(case c=>k_is);case k=>k_is)
  (case a_law_other_word=>refine' KL.FA.of ?a ?l ?c ?k;(case a=>k_is);(case l=>k_is);(case c=>k_is);case k=>k_is)
  (case a_law_right=>refine' KL.FA.of ?a ?l ?c ?k;(case a=>k_is);(case l=>k_is);(case c=>k_is);case k=>k_is)
  (case a_law=>k_is)
  (case l_law=>k_is)
  (case c_law=>k_is)
  (case k_law=>k_is)
  (case aC_Walk=>k_is)
  (case pg_Walk=>k_is)
  (case hd_Walk=>k_is)
  (case po_Walk=>k_is)
  (case sa_Walk=>k_is)
  (case mk_Walk=>k_is)
  (case kc_Walk=>k_is)
  (case n_Walk_last_rows=>k_is)
  (case n_Walk_last_rank=>k_is)
  (case n_Walk_last_turn=>k_is)
  (case n_Walk_kept_numbers=>k_is)
  (case n_Walk_came_deeds=>k_is)
  (case n_Walk_asked_numbers=>k_is)
  (case n_Walk_done_numbers=>k_is)
  (case a_Walk___init__=>k_is)
  (case i_Walk___init__=>k_is)
  (case l_Walk___init__=>k_is)
  (case c_Walk___init__=>k_is)
  (case k_Walk___init__=>k_is)
  (case a_Walk_fits=>refine' KL.MA.of ?a ?i ?l ?c ?k;(case a=>k_is);(case i=>k_is);(case l=>k_is);(case c=>k_is);case k=>k_is)
  (case a_Walk_rises=>refine' KL.MA.of ?a ?i ?l ?c ?k;(case a=>k_is);(case i=>k_is);(case l=>k_is);(case c=>k_is);case k=>k_is)
  (case a_Walk_fits_kept=>refine' KL.MA.of ?a ?i ?l ?c ?k;(case a=>k_is);(case i=>k_is);(case l=>k_is);(case c=>k_is);case k=>k_is)
  (case a_Walk_fits_answer=>refine' KL.MA.of ?a ?i ?l ?c ?k;(case a=>k_is);(case i=>k_is);(case l=>k_is);(case c=>k_is);case k=>k_is)
  (case a_Walk_step=>refine' KL.MA.of ?a ?i ?l ?c ?k;(case a=>k_is);(case i=>k_is);(case l=>k_is);(case c=>k_is);case k=>k_is)
  (case aC_Book=>k_is)
  (case pg_Book=>k_is)
  (case hd_Book=>k_is)
  (case po_Book=>k_is)
  (case sa_Book=>k_is)
  (case mk_Book=>k_is)
  (case kc_Book=>k_is)
  (case n_Book_amounts=>k_is)
  (case a_Book___init__=>k_is)
  (case i_Book___init__=>k_is)
  (case l_Book___init__=>k_is)
  (case c_Book___init__=>k_is)
  (case k_Book___init__=>k_is)
  (case a_Book_amount=>refine' KL.MA.of ?a ?i ?l ?c ?k;(case a=>k_is);(case i=>k_is);(case l=>k_is);(case c=>k_is);case k=>k_is)
  (case a_Book_rows=>refine' KL.MA.of ?a ?i ?l ?c ?k;(case a=>k_is);(case i=>k_is);(case l=>k_is);(case c=>k_is);case k=>k_is)
  (case a_Book_change=>refine' KL.MA.of ?a ?i ?l ?c ?k;(case a=>k_is);(case i=>k_is);(case l=>k_is);(case c=>k_is);case k=>k_is)
  (case lT_Book=>k_is)
  (case vT_Book=>exact rfl)
  (case aC_DoorError=>k_is)
  (case aC_NoRows=>k_is)
  (case aC_Busy=>k_is)
  (case aC_Down=>k_is)
  (case aC_Late=>k_is)
  (case aC_NoAsk=>k_is)
  (case aC_NoChange=>k_is)
  (case aC_NoDeed=>k_is)
  (case aC_NoHouse=>k_is)
  (case aC_NoJournal=>k_is)
  (case aC_NoKey=>k_is)
  (case aC_NoLine=>k_is)
  (case aC_NoName=>k_is)
  (case aC_NoNumber=>k_is)
  (case aC_NoRow=>k_is)
  (case aC_NoWay=>k_is)
  (case aC_Other=>k_is)
  (case aC_Unsafe=>k_is)
  (case aC_Up=>k_is)
  (case a_NoRows___init__=>k_is)
  (case i_NoRows___init__=>k_is)
  (case l_NoRows___init__=>k_is)
  (case c_NoRows___init__=>k_is)
  (case k_NoRows___init__=>k_is)
  (case x_ga=>k_is)
  (case x_gx=>k_is)
  (case x_cl=>k_is)
  (case x_gg=>k_is)
  (case x_tk=>k_is)
  (case x_mo=>k_is)
  (case x_mb=>k_is)
  (case x_ci=>k_is)
  (case x_kV=>kit_is)
  (case x_exc=>kernel_rfl)
  (case x_sa=>k_is)
  (case x_ov=>kernel_rfl)
  (case x_hd=>k_is)
  (case x_xm=>kts_exm)
  (case x_any1=>kit_is)
  (case x_any2=>kit_is)
  (case x_kD=>kit_is)
  (case x_ta=>kernel_rfl)
  (case x_num=>k_is)
  (case z_isinstance=>k_is)
  (case z_int=>k_is)
  (case z_bool=>k_is)
  (case z_str=>k_is)
  (case z_len=>k_is)
  (case z_all=>k_is)
  (case z_tuple=>k_is)
  (case z_zip=>k_is)
  (case z_enumerate=>k_is)
  (case z_sum=>k_is)
  (case z_list=>k_is)
  (case z_range=>k_is)
  (case z_sorted=>k_is)
  (case z_max=>k_is)
  (case z_dict=>k_is)
  (case z_ValueError=>k_is)
  (case y_LETTERS=>k_is)
  (case y_LONGEST_NAME=>k_is)
  (case y_MOST=>k_is)
  (case y_RANKS=>k_is)
  (case l_RANKS=>k_is)
  (case t_RANKS=>repeat (first | exact True.intro | refine And.intro ⟨_,rfl⟩ (And.intro rfl (And.intro ⟨_,rfl⟩ ?_))))
  (case o_RANKS=>decide)
  (case y_UNASKED_WORDS=>k_is)
  (case l_UNASKED_WORDS=>k_is)
  (case v_UNASKED_WORDS=>repeat (first | exact .nil | refine .cons ⟨_,rfl⟩ ?_))
