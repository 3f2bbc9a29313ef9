import PyProof.Rows.All
import Wide.All
import OpenK.AllK
import Wide.FinOn
import Lean
import PyProof.EqAt
import PyProof.EqKinds
import PyProof.TupleCall
import KE.KSortTup
import KE.KDictSum
import KE.KDictOf
import PyProof.AttrMissHeap
import OpenK.KRaise
import KE.KIsAll
import KE.KEqDict
import KE.KTryMore
import KE.RegKIsAll
import KE.RegKTryMore
import PyProof.NsDelKeeps
import PyProof.ExcArgs
import PyProof.FitsReplace
import PyProof.Rows.StrJoin2
import PySem.Challenge.RW_oncedoor_k62_holds_and_waits
set_option Elab.async false
set_option linter.all false
set_option maxRecDepth 100000
set_option maxHeartbeats 4000000
theorem Zk {p:Prop} (h:p:=by decide +kernel):p:=h
theorem Zo {p:Prop} (h:p:=by omega):p:=h
theorem Zs {p:Prop} (h:p:=by simp):p:=h
theorem Zd {p:Prop} (h:p:=by decide):p:=h
def bN:=@List.length_map
def iO:=@PySem.Heap.get?_push_of_some
def Zgs:=@List.getElem?_eq_some_iff
def lO:=@List.getElem?_eq_getElem
def jM:=@List.mem_cons_of_mem
def Zmm:=@List.mem_map
def iG:=@List.map_append
def wC:=@List.length_append
def gQ:=@List.getElem?_map
def fU:=@Nat.le_trans
def pR:=@List.mem_cons_self
def dF:=@List.size_toArray
def oC:=@List.length_take
def Jb:=@List.take_of_length_le
def Zma:=@List.mem_append
def Zms:=@List.mem_singleton
def wG:=@List.length_cons
def wH:=@Nat.lt_of_le_of_lt
def cA:=@Nat.le_refl
def kK:=@List.mem_of_getElem?
namespace L2
open PySem PySem.Spec PyProof.Rows
abbrev aZ:=Sum Int Str
def kL:aZ->Value->Bool
 | .inl k,v=>Value.isInt k v
 | .inr x,v=>Value.isStrOf x v
def Wq (w:World):aZ->Int
 | .inl k=>hashInt k
 | .inr x=>hashStr w x
theorem bD:∀ {k:aZ} {v:Value},kL k v=true->(∃i t,k=Sum.inl i/\v=Value.int i t)∨(∃x t,k=Sum.inr x/\v=Value.str x t)
 | .inl i,v,h=>by
  obtain⟨t,e⟩:=Value.isInt_shape (k:=i) (v:=v) h
  exact .inl ⟨i,t,rfl,e⟩
 | .inr x,v,h=>by
  obtain⟨t,e⟩:=Value.isStrOf_shape (x:=x) (v:=v) h
  exact .inr ⟨x,t,rfl,e⟩
theorem Ar (i:Int) (t:Tok):kL (.inl i) (.int i t)=true:=by simp [kL,Value.isInt]
theorem As (x:Str) (t:Tok):kL (.inr x) (.str x t)=true:=by simp [kL,Value.isStrOf]
theorem On (a b:Int):decide ((Sum.inl a:aZ)=Sum.inl b)=(a == b):=by
 by_cases e:a=b
 ·subst e;simp
 ·have h:¬ (Sum.inl a:aZ)=Sum.inl b:=fun q=>e (Sum.inl.inj q)
  rw[decide_eq_false h];exact(beq_eq_false_iff_ne.mpr e).symm
theorem Oo (a b:Str):decide ((Sum.inr a:aZ)=Sum.inr b)=decide (a=b):=by
 by_cases e:a=b
 ·subst e;simp
 ·have h:¬ (Sum.inr a:aZ)=Sum.inr b:=fun q=>e (Sum.inr.inj q)
  rw[decide_eq_false h,decide_eq_false e]
theorem Op (a:Int) (b:Str):decide ((Sum.inl a:aZ)=Sum.inr b)=false:=decide_eq_false (fun q=>nomatch q)
theorem Oq (a:Str) (b:Int):decide ((Sum.inr a:aZ)=Sum.inl b)=false:=decide_eq_false (fun q=>nomatch q)
def aS (prog:Program) (w:World):PySem.KeyKind prog w aZ where
 is:=kL
 hash:=Wq w
 inj:=fun v a b ha hb=>by
  rcases bD ha with⟨i,t,rfl,rfl⟩ | ⟨x,t,rfl,rfl⟩
  ·rcases bD hb with⟨j,u,rfl,e⟩ | ⟨y,u,rfl,e⟩
   ·injection e with e1 _;rw[e1]
   ·exact nomatch e
  ·rcases bD hb with⟨j,u,rfl,e⟩ | ⟨y,u,rfl,e⟩
   ·exact nomatch e
   ·injection e with e1 _;rw[e1]
 byValue:=fun k v h=>by
  rcases bD h with⟨i,t,rfl,rfl⟩ | ⟨x,t,rfl,rfl⟩ <;> rfl
 pyHash:=fun hv h=>by
  rcases bD hv with⟨i,t,rfl,rfl⟩ | ⟨x,t,rfl,rfl⟩
  ·exact wpAny_pyHash_int h
  ·exact wpAny_pyHash_str h
 eqBool:=fun hu hv h=>by
  rcases bD hu with⟨i,t,rfl,rfl⟩ | ⟨x,t,rfl,rfl⟩
  ·rcases bD hv with⟨j,u,rfl,rfl⟩ | ⟨y,u,rfl,rfl⟩
   ·rw[On]at h;exact wpAny_eqBool_int h
   ·rw[Op]at h;exact SeqAt.EqAt.int_str i t y u _ _ _ _ h
  ·rcases bD hv with⟨j,u,rfl,rfl⟩ | ⟨y,u,rfl,rfl⟩
   ·rw[Oq]at h;exact SeqAt.EqAt.str_int x t j u _ _ _ _ h
   ·rw[Oo]at h;exact wpAny_eqBool_str h
 «strs»:=fun k x t v h=>by
  rcases bD h with⟨i,u,rfl,e⟩ | ⟨y,u,rfl,e⟩
  ·exact nomatch e
  ·injection e with e1 _
   subst e1;cases v <;> rfl
theorem tZ (prog:Program) (w:World) (i:Int) (t:Tok):(aS prog w).is (.inl i) (.int i t)=true:=Ar i t
theorem uA (prog:Program) (w:World) (x:Str) (t:Tok):(aS prog w).is (.inr x) (.str x t)=true:=As x t
end L2
namespace L2
open PySem PySem.Spec PyProof.Rows
inductive V where
 | non | bl (b:Bool) | int (i:Int) | str (x:Str) | byt (b:Array UInt8) | flt (b:UInt64) | ref (a:Addr) | ty (n:String)
 deriving DecidableEq
def RelV:V->Value->Prop
 | .non,u=>u=Value.none
 | .bl b,u=>u=Value.bool b
 | .int i,u=>∃t,u=Value.int i t
 | .str x,u=>∃t,u=Value.str x t
 | .byt b,u=>∃t,u=Value.bytes b t
 | .flt b,u=>∃t,u=Value.float b t
 | .ref a,u=>u=Value.ref a
 | .ty n,u=>u=Value.type n
abbrev Vals:List V->List Value->Prop:=Paired RelV
theorem Vals.length {xs:List V} {us:List Value} (r:Vals xs us):xs.length=us.length:=Paired.length r
theorem Vals.get:∀ {xs:List V} {us:List Value} {i:Nat} {x:V},Vals xs us->xs[i]?=some x->∃u,us[i]?=some u/\RelV x u
 | _,_,_,_,.nil,e=>by simp at e
 | _,_,0,_,.cons r _,e=>by simp at e;subst e;exact⟨_,rfl,r⟩
 | _,_,i+1,x,.cons _ t,e=>by
  obtain⟨u,h1,h2⟩:=Vals.get (i:=i) (x:=x) t (by simpa using e)
  exact⟨u,by simpa using h1,h2⟩
theorem Vals.set {x:V} {u:Value} (r:RelV x u):∀ {xs:List V} {us:List Value} (i:Nat),Vals xs us->Vals (xs.set i x) (us.set i u)
 | _,_,_,.nil=>.nil
 | _,_,0,.cons _ t=>.cons r t
 | _,_,i+1,.cons q t=>.cons q (Vals.set r i t)
theorem Vals.append:∀ {xs ys:List V} {us ws:List Value},Vals xs us->Vals ys ws->Vals (xs++ys) (us++ws)
 | _,_,_,_,.nil,s=>s
 | _,_,_,_,.cons r t,s=>.cons r (Vals.append t s)
theorem Vals.take:∀ {xs:List V} {us:List Value} (n:Nat),Vals xs us->Vals (xs.take n) (us.take n)
 | _,_,0,_=>.nil
 | _,_,_+1,.nil=>.nil
 | _,_,n+1,.cons r t=>.cons r (Vals.take n t)
theorem Vals.drop:∀ {xs:List V} {us:List Value} (n:Nat),Vals xs us->Vals (xs.drop n) (us.drop n)
 | _,_,0,r=>r
 | _,_,_+1,.nil=>.nil
 | _,_,n+1,.cons _ t=>Vals.drop n t
def RelO:Option V->Option Value->Prop
 | some v,some u=>RelV v u
 | none,none=>True
 | _,_=>False
def KV {κ:Type}:List (κ × V)->List (κ × Value)->Prop:=Paired fun(p:κ × V) (q:κ × Value)=>p.1=q.1/\RelV p.2 q.2
def kV:aZ->V
 | .inl i=>.int i
 | .inr x=>.str x
inductive HO where
 /-- a list -/
 | lst (xs:List V)
 /-- a tuple (never changes) -/
 | tup (xs:List V)
 /-- a dict whose keys are ints and texts;one whose keys are tuples of ints and texts (the empty one is both) -/
 | dK (kvs:List (aZ × V)) | dT (kvs:List (List aZ × V))
 /-- a set of ints: its members,its size -/
 | set (S:Int->Bool) (n:Nat)
 /-- an instance of the class at C,its dict at dx,its attributes -/
 | ins (C dx:Addr) (fs:List (Str × V))
 /-- the dict of the instance at x -/
 | own (x:Addr)
 /-- the dict of an exception -/
 | xd (fs:List (Str × V))
 /-- a bound method,f of x -/
 | met (f x:Addr)
 /-- a range object lo,lo+1,.. below hi -/
 | rng (lo hi:Int)
 /-- a thing that is known to the object (the script;a dict while a loop walks it): read,never written while it is so -/
 | frz (o:Obj) (u:HO)
 /-- a code object's table -/
 | tbl (ps:Array Value)
 /-- any other thing,by what is true of its one object (a def of one's own: SetO a S n:=HO.ext fun h=>..) -/
 | ext (φ:Heap->Prop)
abbrev Hp:=Addr->Option HO
def aH (H:Hp) (a:Addr) (o:HO):Hp:=fun b=>if b=a then some o else H b
theorem aA {H:Hp} {a:Addr} {o:HO}:aH H a o a=some o:=by unfold aH;rw[if_pos rfl]
theorem aD {H:Hp} {a b:Addr} {o:HO} (h:b≠a):aH H a o b=H b:=by unfold aH;rw[if_neg h]
theorem gV {H:Hp} {a:Addr} {o u:HO}:aH (aH H a o) a u=aH H a u:=by
 funext b;unfold aH;split <;> rfl
theorem aK {H:Hp} {a b:Addr} {o u:HO} (h:H a=some o) (h':H b=some u) (d:o≠u):a≠b:=by
 intro e;subst e;rw[h]at h';exact d (Option.some.inj h')
theorem aE {H:Hp} {a b:Addr} {o:HO} (h:H a=some o) (h':H b=none):a≠b:=by
 intro e;subst e;rw[h]at h';cases h'
section
variable (P:Program) (w:World)
def ObjOk (H:Hp) (h:Heap) (a:Addr):HO->Prop
 | .lst xs=>xs.length<=sizeLine/\∃(its:List Value) (n:Nat),Vals xs its/\h.get? a=some {cls:=.type "list",data:=.seq its.toArray n }
 | .tup xs=>xs.length<=sizeLine/\∃its:List Value,Vals xs its/\IsTup h a its.toArray
 | .dK kvs=>kvs.length<=sizeLine/\(a == sysModules)=false/\∃vs,KV kvs vs/\h.DictOf (aS P w) a vs
 | .dT kvs=>kvs.length<=sizeLine/\(a == sysModules)=false/\∃xs:List (List aZ × Addr × Value),
   Paired (fun(p:List aZ × V) (q:List aZ × Addr × Value)=>p.1=q.1/\H q.2.1=some (.tup (p.1.map kV))/\RelV p.2 q.2.2) kvs xs ∧
   ∃o es ep,h.get? a=some o/\o.ExactDict/\o.data=.dict es ep/\es.toList=xs.map (entryOfKey (tupleKind (aS P w)))/\(xs.map (·.1)).Nodup
 | .set S n=>h.SetOf (intKind P w) a S n
 | .ins C dx fs=>H dx=some (.own a)/\fs.length<=1000/\dx≠a/\h.get? a=some (W.instObj C dx) ∧
   ∃mA,h.Ns1 dx mA/\(∀f,RelO (fs.lookup f) (mA f))/\PySem.Within mA (fs.map (·.1))
 | .own _=>∃o,h.get? a=some o
 | .xd fs=>∃mA,h.Ns1 a mA/\∀f,RelO (fs.lookup f) (mA f)
 | .rng lo hi=>∃t u v,h.get? a=some {cls:=.type "range",data:=.fields #[.int lo t,.int hi u,.int 1 v] }
 | .frz o u=>h.get? a=some o/\ObjOk H h a u
 | .tbl ps=>h.get? a=some {cls:=.none,data:=.fields ps }
 | .met f x=>h.get? a=some (W.methodObj (.ref f) (.ref x))
 | .ext φ=>φ h/\(∃o,h.get? a=some o)/\∀h1 h2:Heap,φ h1->(∀o,h1.get? a=some o->h2.get? a=some o)->φ h2
def HOk (H:Hp) (h:Heap):Prop:=∀a o,H a=some o->ObjOk P w H h a o
end
section
variable {P:Program} {w:World} {H H':Hp} {h h':Heap} {a:Addr} {o:HO}
theorem ObjOk.lt (x:ObjOk P w H h a o):a<h.objs.size:=by
 cases o with
 | lst xs=>obtain⟨_,_,_,_,e⟩:=x;exact Heap.lt_size e
 | tup xs=>obtain⟨_,_,_,p⟩:=x;exact p.lt
 | dK kvs=>obtain⟨_,_,_,_,o,_,_,e,_⟩:=x;exact Heap.lt_size e
 | dT kvs=>obtain⟨_,_,_,_,o,_,_,e,_⟩:=x;exact Heap.lt_size e
 | set S n=>obtain⟨o,_,_,_,e,_⟩:=x;exact Heap.lt_size e
 | ins C dx fs=>obtain⟨_,_,_,e,_⟩:=x;exact Heap.lt_size e
 | own y=>obtain⟨_,e⟩:=x;exact Heap.lt_size e
 | xd fs=>obtain⟨_,⟨_,_,_,e,_⟩,_⟩:=x;exact Heap.lt_size e
 | rng lo hi=>obtain⟨_,_,_,e⟩:=x;exact Heap.lt_size e
 | frz ob u=>obtain⟨e,_⟩:=x;exact Heap.lt_size e
 | tbl ps=>exact Heap.lt_size (show h.get? a=some _ from x)
 | met f y=>exact Heap.lt_size (show h.get? a=some _ from x)
 | ext φ=>obtain⟨_,⟨_,e⟩,_⟩:=x;exact Heap.lt_size e
theorem Paired.mapP {α β:Type} {F G:α->β->Prop}:∀ {l₁:List α} {l₂:List β},Paired F l₁ l₂->(∀a b,F a b->G a b)->Paired G l₁ l₂
 | _,_,.nil,_=>.nil
 | _,_,.cons r t,f=>.cons (f _ _ r) (Paired.mapP t f)
theorem ObjOk.stay (x:ObjOk P w H h a o) (k:∀b u,(b=a∨H b=some (.own a))->h.get? b=some u->h'.get? b=some u)
  (ho:∀b,H b=some (.own a)->H' b=some (.own a)) (ht:∀b xs,H b=some (.tup xs)->H' b=some (.tup xs)):ObjOk P w H' h' a o:=by
 induction o with
 | lst xs=>obtain⟨z,its,n,r,e⟩:=x;exact⟨z,its,n,r,k _ _ (.inl rfl) e⟩
 | tup xs=>obtain⟨z,its,r,ob,e,c⟩:=x;exact⟨z,its,r,ob,k _ _ (.inl rfl) e,c⟩
 | dK kvs=>obtain⟨z,y,vs,r,ob,es,ep,e,c⟩:=x;exact⟨z,y,vs,r,ob,es,ep,k _ _ (.inl rfl) e,c⟩
 | dT kvs=>
  obtain⟨z,y,xs,r,ob,es,ep,e,c⟩:=x
  exact⟨z,y,xs,Paired.mapP r fun p q z=>⟨z.1,ht _ _ z.2.1,z.2.2⟩,ob,es,ep,k _ _ (.inl rfl) e,c⟩
 | set S n=>obtain⟨ob,es,ep,t,e,c⟩:=x;exact⟨ob,es,ep,t,k _ _ (.inl rfl) e,c⟩
 | ins C dx fs=>
  obtain⟨d,z,ne,e,mA,⟨od,es,ep,e2,c⟩,r⟩:=x
  exact⟨ho _ d,z,ne,k _ _ (.inl rfl) e,mA,⟨od,es,ep,k _ _ (.inr d) e2,c⟩,r⟩
 | own y=>obtain⟨ob,e⟩:=x;exact⟨ob,k _ _ (.inl rfl) e⟩
 | xd fs=>obtain⟨mA,⟨od,es,ep,e,c⟩,r⟩:=x;exact⟨mA,⟨od,es,ep,k _ _ (.inl rfl) e,c⟩,r⟩
 | rng lo hi=>obtain⟨t,u,v,e⟩:=x;exact⟨t,u,v,k _ _ (.inl rfl) e⟩
 | frz ob u ih=>obtain⟨e,q⟩:=x;exact⟨k _ _ (.inl rfl) e,ih q⟩
 | tbl ps=>
  have e:h.get? a=some {cls:=.none,data:=.fields ps }:=x
  show h'.get? a=some {cls:=.none,data:=.fields ps }
  exact k a _ (.inl rfl) e
 | met f y=>
  have e:h.get? a=some (W.methodObj (.ref f) (.ref y)):=x
  show h'.get? a=some (W.methodObj (.ref f) (.ref y))
  exact k a _ (.inl rfl) e
 | ext φ=>obtain⟨p,⟨o,e⟩,st⟩:=x;exact⟨st _ _ p fun o q=>k _ _ (.inl rfl) q,⟨o,k _ _ (.inl rfl) e⟩,st⟩
theorem HOk.lt (x:HOk P w H h) (e:H a=some o):a<h.objs.size:=(x a o e).lt
theorem HOk.fresh (x:HOk P w H h) (e:h.objs.size<=a):H a=none:=by
 cases q:H a with
 | none=>rfl
 | some u=>exact absurd (Nat.lt_of_lt_of_le (x.lt q) e) (Nat.lt_irrefl _)
theorem HOk.kept (x:HOk P w H h) (k:∀b u,h.get? b=some u->h'.get? b=some u):HOk P w H h':=fun a o e=>
 (x a o e).stay (fun b u _ q=>k b u q) (fun _ q=>q) fun _ _ q=>q
theorem HOk.laid (x:HOk P w H h) (k:∀b u,h.get? b=some u->h'.get? b=some u) (hp:h.objs.size<=a) (new:ObjOk P w (aH H a o) h' a o):HOk P w (aH H a o) h':=fun b u e=>by
 have hn:=x.fresh hp
 by_cases hb:b=a
 ·subst hb;rw[aA]at e;cases e;exact new
 ·rw[aD hb]at e;exact(x b u e).stay (fun c v _ q=>k c v q) (fun c q=>by rw[aD (aE q hn)];exact q) fun c xs q=>by rw[aD (aE q hn)];exact q
end
def Rd (H:Hp) (a:Addr) (u:HO):Prop:=H a=some u∨∃o,H a=some (.frz o u)
theorem Rd.ok {P:Program} {w:World} {H:Hp} {h:Heap} {a:Addr} {u:HO} (r:Rd H a u) (x:HOk P w H h):ObjOk P w H h a u:=by
 rcases r with r | ⟨o,r⟩
 ·exact x a u r
 ·obtain⟨_,q⟩:=x a _ r
  exact q
def Tl:Option HO->Prop
 | some (.lst _)=>True
 | some (.dK _)=>True
 | some (.dT _)=>True
 | some (.set _ _)=>True
 | some (.ins _ _ _)=>True
 | some (.ext _)=>True
 | _=>False
section
variable {P:Program} {w:World} {H:Hp} {h h':Heap} {x e:Addr} {o':HO}
theorem HOk.write (ok:HOk P w H h) (mu:Tl (H x)) (he:e=x∨H e=some (.own x)) (k:∀b u,b≠e->h.get? b=some u->h'.get? b=some u) (heo:∃u,h'.get? e=some u)
  (new:ObjOk P w (aH H x o') h' x o'):HOk P w (aH H x o') h':=fun b u q=>by
 have nown:∀c y,H c=some (.own y)->c≠x:=fun c y r z=>by subst z;rw[r]at mu;exact mu
 have ntup:∀c xs,H c=some (.tup xs)->c≠x:=fun c xs r z=>by subst z;rw[r]at mu;exact mu
 by_cases hb:b=x
 ·subst hb;rw[aA]at q;cases q;exact new
 ·rw[aD hb]at q;by_cases hbe:b=e
  ·have q':H b=some (.own x):=by
    rcases he with z | z
    ·exact absurd (hbe.trans z) hb
    ·rw[hbe];exact z
   rw[q]at q';cases q'
   obtain⟨v,hv⟩:=heo
   exact⟨v,by rw[hbe];exact hv⟩
  ·refine(ok b u q).stay (fun c v hc r=>k c v ?_ r) (fun c r=>by rw[aD (nown c b r)];exact r) fun c xs r=>by rw[aD (ntup c xs r)];exact r
   rcases hc with rfl | hc
   ·exact hbe
   ·rintro rfl
    rcases he with z | z
    ·exact nown c b hc z
    ·rw[hc]at z;cases z;exact hb rfl
end
structure Un (fs ex:List Addr) (H H':Hp) (h h':Heap):Prop where
 keep:∀b o,h.get? b=some o->H b=none->b∉fs->b∉ex->h'.get? b=some o
 slot:∀b o,h.get? b=some o->H b=none->b∈fs->b∉ex->∃sl,h'.get? b=some {o with slots:=sl }
 free:∀b o,h.get? b=some o->H b=none->b∉ex->H' b=none
 there:∀b o,h.get? b=some o->b∉ex->∃o',h'.get? b=some o'
 tups:∀b xs,H b=some (.tup xs)->H' b=some (.tup xs)
 frzs:∀b o u,H b=some (.frz o u)->H' b=some (.frz o u)
 tbls:∀b ps,H b=some (.tbl ps)->∃more,H' b=some (.tbl (ps++more))
section
variable {fs fs' ex ex':List Addr} {H H1 H2:Hp} {h h1 h2 h':Heap} {a x e:Addr} {o:HO}
theorem Un.any (u:Un fs ex H H1 h h1) {b:Addr} {ob:Obj} (q:h.get? b=some ob) (n:H b=none) (hx:b∉ex):∃sl,h1.get? b=some {ob with slots:=sl }:=by
 by_cases hb:b∈fs
 ·exact u.slot b ob q n hb hx
 ·exact⟨ob.slots,u.keep b ob q n hb hx⟩
theorem Un.kept (k:∀b u,h.get? b=some u->h'.get? b=some u):Un fs ex H H h h':=
 ⟨fun b ob q _ _ _=>k b ob q,fun b ob q _ _ _=>⟨ob.slots,k b ob q⟩,fun _ _ _ n _=>n,fun b ob q _=>⟨ob,k b ob q⟩,fun _ _ q=>q,fun _ _ _ q=>q,fun _ ps q=>⟨#[],by rw[q];simp⟩⟩
theorem Un.refl:Un fs ex H H h h:=Un.kept fun _ _ q=>q
theorem Un.laid (k:∀b u,h.get? b=some u->h'.get? b=some u) (hp:h.objs.size<=a) (hn:H a=none):Un fs ex H (aH H a o) h h' where
 keep:=fun b u q _ _ _=>k b u q
 slot:=fun b u q _ _ _=>⟨u.slots,k b u q⟩
 free:=fun b u q n _=>by rw[aD (Nat.ne_of_lt (Nat.lt_of_lt_of_le (Heap.lt_size q) hp))];exact n
 there:=fun b u q _=>⟨u,k b u q⟩
 tups:=fun b xs q=>by rw[aD (aE q hn)];exact q
 frzs:=fun b u xs q=>by rw[aD (aE q hn)];exact q
 tbls:=fun b ps q=>⟨#[],by rw[aD (aE q hn),q];simp⟩
theorem Un.write (mu:Tl (H x)) (he:e=x∨H e=some (.own x)) (k:∀b u,b≠e->h.get? b=some u->h'.get? b=some u) (heo:∃u,h'.get? e=some u):Un fs ex H (aH H x o) h h':=by
 have hx:∀b,H b=none->b≠x:=fun b n z=>by subst z;rw[n]at mu;exact mu
 have hb:∀b,H b=none->b≠e:=fun b n z=>by
  subst z;rcases he with r | r
  ·exact hx b n r
  ·rw[n]at r;cases r
 have hm:∀b u,H b=some u->¬ Tl (some u)->b≠x:=fun b u q nm z=>by subst z;rw[q]at mu;exact nm mu
 refine⟨fun b u q n _ _=>k b u (hb b n) q,fun b u q n _ _=>⟨u.slots,k b u (hb b n) q⟩,fun b u q n _=>by rw[aD (hx b n)];exact n,fun b u q _=>?_,
  fun b xs q=>by rw[aD (hm b _ q fun z=>z)];exact q,fun b u xs q=>by rw[aD (hm b _ q fun z=>z)];exact q,fun b ps q=>⟨#[],by rw[aD (hm b _ q fun z=>z),q];simp⟩⟩
 by_cases hbe:b=e
 ·subst hbe;exact heo
 ·exact⟨u,k b u hbe q⟩
end
def Wh (h:Heap) (H:Hp):List Addr:=(List.range h.objs.size).filter fun a=>(H a).isSome
def rM (h:Heap) (H:Hp):Heap:=W.hideAll h (Wh h H)
theorem At (h:Heap) (H:Hp):(rM h H).objs.size=h.objs.size:=W.hideAll_size _ _
theorem De {h:Heap} {H:Hp} {b:Addr} {o:Obj} (e:h.get? b=some o) (n:H b=none):(rM h H).get? b=some o:=
 W.hideAll_get _ e fun hm=>by
  have q:(H b).isSome=true:=(List.mem_filter.mp hm).2
  rw[n]at q;simp at q
theorem Jc {h:Heap} {H:Hp} {b:Addr} {o:Obj} (e:(rM h H).get? b=some o):h.get? b=some o/\H b=none:=by
 have e':h.get? b=some o:=W.of_hideAll (Wh h H) e
 refine⟨e',?_⟩
 cases q:H b with
 | none=>rfl
 | some x=>
  have hm:b∈Wh h H:=List.mem_filter.mpr ⟨List.mem_range.mpr (Heap.lt_size e'),by simp [q]⟩
  have z:(rM h H).get? b=none:=W.hideAll_none (Wh h H) hm
  rw[z]at e;cases e
end L2
namespace L2
open PySem PySem.Spec PyProof.Rows
structure Mod (K:W.Frag) (mg:Str->Option Value) (base:Heap):Prop where
 kin:K.In base
 glob:base.Ns mainGlobals mg
 blt:∃mb,base.Ns builtinsNs mb/\∀x:Str,x≠"__name__"->mb x=bootBuiltins x
 nolimit:base.NoLimit
structure Cx where
 prog:Program
 w:World
 K:W.Frag
 mg:Str->Option Value
 base:Heap
 A:Around
 N:List Str
 s₀:Shared
 H₀:Hp
 env:Env
 outer:List Env
 stack:List Env
 ex:List Addr
 fn:Str->Bool
 calm:Bool
 pn:List (Addr × Obj)
 xe:Value->Shared->Prop
def Df (l:List Env):List Addr:=l.filterMap (·.frame)
abbrev Cx.fs (X:Cx):List Addr:=Df X.outer
def Tm (sc:Scope) (x:Str):Prop:=sc.names.lookup x=some .local∨sc.names.lookup x=some .cell∨sc.names.lookup x=some .free
def Na (sc:Scope) (x:Str):Prop:=sc.names.lookup x=some .local∨sc.names.lookup x=some .cell
def Wr (env:Env) (h:Heap) (m:Str->Option Value) (x:Str) (u:Value):Prop:=
 (env.kindOf x=some .local/\m x=some u)∨((env.kindOf x=some .cell∨env.kindOf x=some .free)/\∃c,env.cells.lookup x=some c/\h.IsCell c (some u))
structure Cx.Ok (X:Cx):Prop where
 mod:Mod X.K X.mg X.base
 kind:X.env.scope.kind=.function
 glob:X.env.globals=mainGlobals
 blt:X.env.builtins=builtinsNs
 above:X.s₀.heap.objs.size<=X.env.locals
 inj:∀x y c,X.env.cells.lookup x=some c->X.env.cells.lookup y=some c->x=y
 has:∀x,(X.env.kindOf x=some .cell∨X.env.kindOf x=some .free)->∃c,X.env.cells.lookup x=some c
 cab:∀x c,X.fn x=true->X.env.cells.lookup x=some c->X.s₀.heap.objs.size<=c
 hd:X.calm=true->X.A.handled=none
 frames:X.A.frames=some X.stack
 stk:X.stack=X.outer∨(X.stack=X.env::X.outer/\X.env.frame=some X.env.locals)
 exf:∀b∈X.ex,b≠X.env.locals/\∀x c,X.env.cells.lookup x=some c->c≠b
 bs:∀b o,X.base.get? b=some o->X.s₀.heap.get? b=some o/\X.H₀ b=none
 bsz:X.base.objs.size<=X.s₀.heap.objs.size
 noex:∀b o,X.base.get? b=some o->b∉X.ex
 exfs:∀b∈X.ex,b∉X.fs
 funs:X.s₀.heap.FunFrames X.base X.outer
 frf:∀b∈X.fs,X.H₀ b=none
structure Inv (X:Cx) (pins:List (Addr × Obj)) (σ:List (Option V)) (H:Hp) (s:Shared):Prop where
 ok:X.Ok
 os:s.os=X.s₀.os
 bare:AllBare s.gens
 base:Un X.fs X.ex X.H₀ H X.s₀.heap s.heap
 loc:∃m,s.heap.Ns X.env.locals m/\∀(i:Nat) (x:Str) (v:V),X.N[i]?=some x->σ[i]?=some (some v)->Tm X.env.scope x->∃u,RelV v u/\Wr X.env s.heap m x u
 cell:∀x c,X.env.cells.lookup x=some c->∃v,s.heap.IsCell c v
 free:H X.env.locals=none
 freeC:∀x c,X.env.cells.lookup x=some c->H c=none
 pin:∀p∈X.pn++pins,s.heap.get? p.1=some p.2/\H p.1=none/\p.1≠X.env.locals/\p.1∉X.fs/\∀v,p.2.data≠.cell v
 hok:HOk X.prog X.w H s.heap
 len:σ.length=X.N.length
section
variable {X:Cx} {pins:List (Addr × Obj)} {σ:List (Option V)} {H H':Hp} {s:Shared} {h':Heap}
theorem Cx.Ok.nofr (ok:X.Ok) {b:Addr} {o:Obj} (e:X.base.get? b=some o):b∉X.fs:=fun hb=>by
 have:=(ok.funs.mem hb).1
 rw[e]at this;cases this
theorem Inv.bs (I:Inv X pins σ H s):∀b o,X.base.get? b=some o->s.heap.get? b=some o/\H b=none:=fun b o e=>
 ⟨I.base.keep b o (I.ok.bs b o e).1 (I.ok.bs b o e).2 (I.ok.nofr e) (I.ok.noex b o e),I.base.free b o (I.ok.bs b o e).1 (I.ok.bs b o e).2 (I.ok.noex b o e)⟩
theorem Inv.bk (I:Inv X pins σ H s):∀b o,X.base.get? b=some o->s.heap.get? b=some o:=fun b o e=>(I.bs b o e).1
theorem Inv.mod (I:Inv X pins σ H s):Mod X.K X.mg X.base:=I.ok.mod
theorem Inv.kIn (I:Inv X pins σ H s):X.K.In s.heap:=I.ok.mod.kin.keeps I.bk
theorem Inv.fr (I:Inv X pins σ H s):∃m,Fr X.base X.env.locals s.heap m:=
 let ⟨m,hn,_⟩:=I.loc
 ⟨m,hn,I.bk,fU I.ok.bsz I.ok.above⟩
theorem Inv.lt (I:Inv X pins σ H s):X.env.locals<s.heap.objs.size:=let ⟨_,hn,_⟩:=I.loc;hn.lt
theorem Inv.sz (I:Inv X pins σ H s):X.s₀.heap.objs.size<=s.heap.objs.size:=fU I.ok.above (Nat.le_of_lt I.lt)
theorem Inv.nofs (I:Inv X pins σ H s) {a:Addr} (h:s.heap.objs.size<=a):a∉X.fs:=fun hb=>by
 obtain⟨_,o,ho,_⟩:=I.ok.funs.mem hb
 exact absurd (Nat.lt_of_lt_of_le (Heap.lt_size ho) (fU I.sz h)) (Nat.lt_irrefl _)
theorem Inv.cne (I:Inv X pins σ H s):∀x c,X.env.cells.lookup x=some c->c≠X.env.locals:=fun x c e z=>by
 obtain⟨v,o,ho,hd⟩:=I.cell x c e
 obtain⟨m,⟨o',es,ep,ho',hd',_⟩,_⟩:=I.loc
 rw[z,ho']at ho;cases ho;rw[hd']at hd;cases hd
theorem Inv.funs (I:Inv X pins σ H s):s.heap.FunFrames X.base X.outer:=by
 have all:∀(l:List Env),(∀b∈Df l,b∈X.fs)->X.s₀.heap.FunFrames X.base l->s.heap.FunFrames X.base l:=by
  intro l;induction l with
  | nil=>intro _ _;trivial
  | cons env r ih=>
   intro hs hl;obtain⟨hk,⟨L,o,hf,hn,ho,hd⟩,hr⟩:=hl
   have hL:L∈X.fs:=hs L (by unfold Df;rw[List.filterMap_cons,hf];exact pR)
   obtain⟨sl,e⟩:=I.base.slot L o ho (I.ok.frf L hL) hL fun z=>I.ok.exfs L z hL
   exact⟨hk,⟨L,_,hf,hn,e,hd⟩,ih (fun b hb=>hs b (by unfold Df;rw[List.filterMap_cons,hf];exact jM _ hb)) hr⟩
 exact all X.outer (fun _ hb=>hb) I.ok.funs
theorem Inv.stack (I:Inv X pins σ H s):s.heap.FunFrames X.base X.stack:=by
 rcases I.ok.stk with e | ⟨e,hf⟩
 ·rw[e];exact I.funs
 ·rw[e];obtain⟨m,hn,_⟩:=I.loc
  refine .cons (by rw[I.ok.kind];decide) hf hn ?_ I.funs
  exact Heap.get?_none_of_le (fU I.ok.bsz I.ok.above)
theorem Inv.stkSub (I:Inv X pins σ H s):∀b∈Df X.stack,b∈X.env.locals::X.fs:=fun b hb=>by
 rcases I.ok.stk with e | ⟨e,hf⟩
 ·rw[e]at hb;exact jM _ hb
 ·rw[e]at hb;unfold Df at hb;rw[List.filterMap_cons,hf]at hb;exact hb
theorem Inv.stkFree (I:Inv X pins σ H s):∀b∈Df X.stack,H b=none:=fun b hb=>by
 rcases List.mem_cons.mp (I.stkSub b hb) with e | hb
 ·rw[e];exact I.free
 ·obtain⟨_,o,ho,_⟩:=I.ok.funs.mem hb
  exact I.base.free b o ho (I.ok.frf b hb) fun z=>I.ok.exfs b z hb
theorem Inv.step {g':Array GenState} {t':Nat} {d':Drawn} {ch:List Addr} (I:Inv X pins σ H s)
  (hch:∀b∈ch,(b∈X.ex∨X.s₀.heap.objs.size<=b)/\b≠X.env.locals/\(∀x c,X.env.cells.lookup x=some c->c≠b)/\∀p∈X.pn++pins,p.1≠b)
  (keep:∀b o,b≠X.env.locals->b∉X.fs->b∉ch->s.heap.get? b=some o->H b=none->h'.get? b=some o)
  (slot:∀b o,b≠X.env.locals->b∈X.fs->b∉ch->s.heap.get? b=some o->H b=none->∃sl,h'.get? b=some {o with slots:=sl }) (free:∀b o,b∉ch->s.heap.get? b=some o->H b=none->H' b=none)
  (there:∀b o,b∉ch->s.heap.get? b=some o->∃o',h'.get? b=some o')
  (tups:∀b xs,H b=some (.tup xs)->H' b=some (.tup xs)) (frzs:∀b o u,H b=some (.frz o u)->H' b=some (.frz o u)) (tbls:∀b ps,H b=some (.tbl ps)->∃more,H' b=some (.tbl (ps++more)))
  (ns:∀m,s.heap.Ns X.env.locals m->h'.Ns X.env.locals m) (hok:HOk X.prog X.w H' h') (hg:AllBare g') :
  Inv X pins σ H' {s with heap:=h',gens:=g',drawn:=d',toks:=t' }:=by
 have neL:∀b o,X.s₀.heap.get? b=some o->b≠X.env.locals:=fun b o e=>Nat.ne_of_lt (Nat.lt_of_lt_of_le (Heap.lt_size e) I.ok.above)
 have neC:∀b o,X.s₀.heap.get? b=some o->b∉X.ex->b∉ch:=fun b o e hx hb=>by
  rcases(hch b hb).1 with z | z
  ·exact hx z
  ·exact absurd (Nat.lt_of_lt_of_le (Heap.lt_size e) z) (Nat.lt_irrefl _)
 have cellK:∀x c,X.env.cells.lookup x=some c->∀v,s.heap.IsCell c v->h'.IsCell c v:=fun x c e v ⟨o,ho,hd⟩=>by
  have nch:c∉ch:=fun z=>(hch c z).2.2.1 x c e rfl
  by_cases hc:c∈X.fs
  ·obtain⟨sl,q⟩:=slot c o (I.cne x c e) hc nch ho (I.freeC x c e)
   exact⟨_,q,hd⟩
  ·exact⟨o,keep c o (I.cne x c e) hc nch ho (I.freeC x c e),hd⟩
 refine⟨I.ok,I.os,hg,⟨fun b o e n hb hx=>?_,fun b o e n hb hx=>?_,fun b o e n hx=>?_,fun b o e hx=>?_,fun b xs e=>tups b xs (I.base.tups b xs e),fun b o xs e=>frzs b o xs (I.base.frzs b o xs e),fun b ps e=>?_⟩,?_,fun x c e=>?_,?_,fun x c e=>?_,fun p hp=>?_,hok,I.len⟩
 ·exact keep b o (neL b o e) hb (neC b o e hx) (I.base.keep b o e n hb hx) (I.base.free b o e n hx)
 ·obtain⟨sl,e1⟩:=I.base.slot b o e n hb hx
  obtain⟨sl',e2⟩:=slot b _ (neL b o e) hb (neC b o e hx) e1 (I.base.free b o e n hx)
  exact⟨sl',e2⟩
 ·obtain⟨o',e1⟩:=I.base.there b o e hx
  exact free b o' (neC b o e hx) e1 (I.base.free b o e n hx)
 ·obtain⟨o',e1⟩:=I.base.there b o e hx
  exact there b o' (neC b o e hx) e1
 ·obtain⟨m1,e1⟩:=I.base.tbls b ps e
  obtain⟨m2,e2⟩:=tbls b _ e1
  exact⟨m1++m2,by rw[e2,Array.append_assoc]⟩
 ·obtain⟨m,hn,hl⟩:=I.loc
  refine⟨m,ns m hn,fun i x v e1 e2 e3=>?_⟩
  obtain⟨u,r,l⟩:=hl i x v e1 e2 e3
  refine⟨u,r,?_⟩
  rcases l with l | ⟨k,c,e,z⟩
  ·exact .inl l
  ·exact .inr ⟨k,c,e,cellK x c e _ z⟩
 ·obtain⟨v,z⟩:=I.cell x c e
  exact⟨v,cellK x c e v z⟩
 ·obtain⟨m,⟨o,_,_,ho,_⟩,_⟩:=I.loc
  exact free _ o (fun z=>(hch _ z).2.1 rfl) ho I.free
 ·obtain⟨v,o,ho,hd⟩:=I.cell x c e
  exact free c o (fun z=>(hch c z).2.2.1 x c e rfl) ho (I.freeC x c e)
 ·obtain⟨e,n,ne,nf,d⟩:=I.pin p hp
  have nch:p.1∉ch:=fun z=>(hch p.1 z).2.2.2 p hp rfl
  exact⟨keep p.1 p.2 ne nf nch e n,free p.1 p.2 nch e n,ne,nf,d⟩
theorem Inv.un {t':Nat} (I:Inv X pins σ H s) (u:Un X.fs [] H H' s.heap h') (hok:HOk X.prog X.w H' h'):Inv X pins σ H' {s with heap:=h',toks:=t' }:=by
 obtain⟨m,⟨o,es,ep,ho,r⟩,_⟩:=id I.loc
 obtain⟨sl,hL⟩:=u.any ho I.free Zs
 exact I.step (g':=s.gens) (d':=s.drawn) (ch:=[]) (fun _ z=>nomatch z) (fun b o _ hb _ e n=>u.keep b o e n hb Zs) (fun b o _ hb _ e n=>u.slot b o e n hb Zs) (fun b o _ e n=>u.free b o e n Zs) (fun b o _ e=>u.there b o e Zs) u.tups u.frzs u.tbls (fun m' hm=>by
  obtain⟨o',es',ep',ho',r'⟩:=hm
  rw[ho]at ho';cases ho'
  exact⟨_,es',ep',hL,r'⟩) hok I.bare
theorem Inv.call {g':Array GenState} {t':Nat} {d':Drawn} {ch:List Addr} (I:Inv X pins σ H s) (u:Un (Df X.stack) ch H H' s.heap h') (hok:HOk X.prog X.w H' h') (hg:AllBare g')
  (hch:∀b∈ch,(b∈X.ex∨X.s₀.heap.objs.size<=b)/\b≠X.env.locals/\(∀x c,X.env.cells.lookup x=some c->c≠b)/\∀p∈X.pn++pins,p.1≠b) :
  Inv X pins σ H' {s with heap:=h',gens:=g',drawn:=d',toks:=t' }:=by
 obtain⟨m,⟨o,es,ep,ho,r⟩,_⟩:=id I.loc
 obtain⟨sl,hL⟩:=u.any ho I.free fun z=>(hch _ z).2.1 rfl
 exact I.step (ch:=ch) hch (fun b o hL hb hc e n=>u.keep b o e n (fun z=>(List.mem_cons.mp (I.stkSub b z)).elim hL hb) hc) (fun b o _ _ hc e n=>u.any e n hc) (fun b o hc e n=>u.free b o e n hc) (fun b o hc e=>u.there b o e hc) u.tups u.frzs u.tbls (fun m' hm=>by
  obtain⟨o',es',ep',ho',r'⟩:=hm
  rw[ho]at ho';cases ho'
  exact⟨_,es',ep',hL,r'⟩) hok hg
theorem Inv.turned {t':Nat} {it:Addr} (I:Inv X pins σ H s) (k:∀b o,b≠it->s.heap.get? b=some o->h'.get? b=some o) (hn:H it=none) (hL:it≠X.env.locals)
  (h1:it∈X.ex∨X.s₀.heap.objs.size<=it) (h2:∀x c,X.env.cells.lookup x=some c->c≠it) (h3:∀p∈X.pn++pins,p.1≠it):Inv X pins σ H {s with heap:=h',toks:=t' }:=by
 have nit:∀b u,H b=some u->b≠it:=fun b u e z=>by rw[z,hn]at e;cases e
 refine I.step (g':=s.gens) (d':=s.drawn) (ch:=[it]) (fun b hb=>?_) (fun b o _ _ hc e _=>k b o (fun z=>hc (by simp [z])) e) (fun b o _ _ hc e _=>⟨o.slots,k b o (fun z=>hc (by simp [z])) e⟩) (fun _ _ _ _ n=>n)
  (fun b o hc e=>⟨o,k b o (fun z=>hc (by simp [z])) e⟩) (fun _ _ e=>e) (fun _ _ _ e=>e) (fun b ps e=>⟨#[],by rw[e];simp⟩) (fun m hm=>?_) (fun b u e=>?_) I.bare
 ·have e:b=it:=by simpa using hb
  subst e;exact⟨h1,hL,h2,h3⟩
 ·obtain⟨o,es,ep,ho,r⟩:=hm
  exact⟨o,es,ep,k _ o (Ne.symm hL) ho,r⟩
 ·refine(I.hok b u e).stay (fun c v hc q=>k c v ?_ q) (fun _ q=>q) fun _ _ q=>q
  rcases hc with z | z
  ·rw[z];exact nit b u e
  ·exact nit c _ z
theorem Inv.tok (I:Inv X pins σ H s) (t:Nat):Inv X pins σ H {s with toks:=t }:=I.un (h':=s.heap) (t':=t) Un.refl I.hok
theorem Inv.kept {t':Nat} (I:Inv X pins σ H s) (k:∀b u,s.heap.get? b=some u->h'.get? b=some u):Inv X pins σ H {s with heap:=h',toks:=t' }:=I.un (Un.kept k) (I.hok.kept k)
theorem Inv.laid {a:Addr} {o:HO} {t':Nat} (I:Inv X pins σ H s) (k:∀b u,s.heap.get? b=some u->h'.get? b=some u) (hp:s.heap.objs.size<=a) (new:ObjOk X.prog X.w (aH H a o) h' a o) :
  Inv X pins σ (aH H a o) {s with heap:=h',toks:=t' }:=I.un (Un.laid k hp (I.hok.fresh hp)) (I.hok.laid k hp new)
theorem Inv.write {x e:Addr} {o:HO} {t':Nat} (I:Inv X pins σ H s) (mu:Tl (H x)) (he:e=x∨H e=some (.own x)) (k:∀b u,b≠e->s.heap.get? b=some u->h'.get? b=some u) (heo:∃u,h'.get? e=some u)
  (new:ObjOk X.prog X.w (aH H x o) h' x o):Inv X pins σ (aH H x o) {s with heap:=h',toks:=t' }:=I.un (Un.write mu he k heo) (I.hok.write mu he k heo new)
theorem Inv.weak {σ':List (Option V)} (I:Inv X pins σ H s) (hl:σ'.length=σ.length) (w:∀(i:Nat) v,σ'[i]?=some (some v)->σ[i]?=some (some v)):Inv X pins σ' H s:=
 ⟨I.ok,I.os,I.bare,I.base,let ⟨m,hn,hl'⟩:=I.loc;⟨m,hn,fun i x v e1 e2 e3=>hl' i x v e1 (w i v e2) e3⟩,I.cell,I.free,I.freeC,I.pin,I.hok,hl.trans I.len⟩
theorem Inv.pins_of {pins':List (Addr × Obj)} (I:Inv X pins σ H s) (h:∀p∈pins',s.heap.get? p.1=some p.2/\H p.1=none/\p.1≠X.env.locals/\p.1∉X.fs/\∀v,p.2.data≠.cell v):Inv X pins' σ H s:=
 ⟨I.ok,I.os,I.bare,I.base,I.loc,I.cell,I.free,I.freeC,fun p hp=>(Zma.mp hp).elim (fun z=>I.pin p (List.mem_append_left _ z)) (h p),I.hok,I.len⟩
theorem uB {N:List Str} (hN:N.Nodup) {i j:Nat} {x:Str} (a:N[i]?=some x) (b:N[j]?=some x):i=j:=by
 obtain⟨h1,e1⟩:=Zgs.mp a
 obtain⟨h2,e2⟩:=Zgs.mp b
 exact(List.getElem_inj hN).mp (e1.trans e2.symm)
theorem qB {M:Model} {A:Around} {E:Value->Shared->Prop} {i:Nat} {x:Str} {v:V} {u:Value} {Q:Unit->Shared->Prop} (I:Inv X pins σ H s) (hN:X.N.Nodup) (hi:X.N[i]?=some x) (hx:Na X.env.scope x) (r:RelV v u)
  (h:∀s',Inv X pins (σ.set i (some v)) H s'->(∃a,Heap.SameBut a s.heap s'.heap/\(a=X.env.locals∨X.env.cells.lookup x=some a))->Q () s') (hf:X.fn x=true∨X.env.scope.names.lookup x=some .local:=by first | exact .inl rfl | exact .inr rfl | assumption):wpAny M A (storeName X.env x u) Q E s:=by
 obtain⟨m,hn,hl⟩:=id I.loc
 have hcls:(X.env.scope.kind == .class||(X.env.scope.kind == .module&&X.env.locals != X.env.globals))=false:=by rw[I.ok.kind];rfl
 have hiσ:i<σ.length:=by rw[I.len];exact(Zgs.mp hi).1
 have cne:=I.cne
 have tracked:∀ {a:Addr} {h':Heap},(∃o,s.heap.get? a=some o/\H a=none)->Heap.SameBut a s.heap h'->HOk X.prog X.w H h':=fun {a h'} ha hs b ob e=>by
  obtain⟨_,_,hfree⟩:=ha
  refine(I.hok b ob e).stay (fun c w' hc q=>(hs.2 c ?_).trans q) (fun _ q=>q) fun _ _ q=>q
  rintro rfl
  rcases hc with rfl | hc
  ·rw[hfree]at e;cases e
  ·rw[hfree]at hc;cases hc
 rcases hx with hk | hk
 ·refine wpAny_storeName_local hk hn (fun h' hn' hs=>?_) hcls
  obtain⟨oL,_,_,hoL,_⟩:=id hn
  refine h _ ⟨I.ok,I.os,I.bare,⟨fun b o e n hb hx=>?_,fun b o e n hb hx=>?_,I.base.free,fun b o e hx=>?_,I.base.tups,I.base.frzs,I.base.tbls⟩,⟨_,hn',fun j y v' e1 e2 e3=>?_⟩,fun y c e=>?_,I.free,I.freeC,fun p hp=>?_,tracked ⟨oL,hoL,I.free⟩ hs,by simpa using I.len⟩ ⟨_,hs,.inl rfl⟩
  ·exact(hs.2 b (Nat.ne_of_lt (Nat.lt_of_lt_of_le (Heap.lt_size e) I.ok.above))).trans (I.base.keep b o e n hb hx)
  ·obtain⟨sl,e1⟩:=I.base.slot b o e n hb hx
   exact⟨sl,(hs.2 b (Nat.ne_of_lt (Nat.lt_of_lt_of_le (Heap.lt_size e) I.ok.above))).trans e1⟩
  ·obtain⟨o',e1⟩:=I.base.there b o e hx
   exact⟨o',(hs.2 b (Nat.ne_of_lt (Nat.lt_of_lt_of_le (Heap.lt_size e) I.ok.above))).trans e1⟩
  ·by_cases hj:j=i
   ·subst hj;rw[hi]at e1;cases e1
    rw[List.getElem?_set_self hiσ]at e2;cases e2
    exact⟨u,r,.inl ⟨hk,Zs⟩⟩
   ·rw[List.getElem?_set_ne (Ne.symm hj)]at e2;obtain⟨u',r',q⟩:=hl j y v' e1 e2 e3
    refine⟨u',r',?_⟩
    rcases q with⟨k,e⟩ | ⟨k,c,e,z⟩
    ·refine .inl ⟨k,?_⟩
     have:y≠x:=fun e=>hj (uB hN e1 (e ▸ hi))
     simp [this,e]
    ·exact .inr ⟨k,c,e,z.sameBut hs (cne y c e)⟩
  ·obtain⟨w',z⟩:=I.cell y c e
   exact⟨w',z.sameBut hs (cne y c e)⟩
  ·obtain⟨e,n,ne,nf,d⟩:=I.pin p hp
   exact⟨(hs.2 p.1 ne).trans e,n,ne,nf,d⟩
 ·have hfn:X.fn x=true:=by
   rcases hf with z | z
   ·exact z
   ·rw[z]at hk;cases hk
  obtain⟨c,hc⟩:=I.ok.has x (.inl hk)
  obtain⟨w',z⟩:=I.cell x c hc
  refine wpAny_storeName_cell I.ok.kind hk hc z (fun h' hc' hs=>?_)
  obtain⟨oc,hoc,hocd⟩:=id z
  refine h {s with heap:=h' } ⟨I.ok,I.os,I.bare,⟨fun b o e n hb hx=>?_,fun b o e n hb hx=>?_,I.base.free,fun b o e hx=>?_,I.base.tups,I.base.frzs,I.base.tbls⟩,⟨m,hn.sameBut hs (Ne.symm (cne x c hc)),fun j y v' e1 e2 e3=>?_⟩,fun y c' e=>?_,I.free,I.freeC,fun p hp=>?_,tracked ⟨oc,hoc,I.freeC x c hc⟩ hs,by simpa using I.len⟩ ⟨c,hs,.inr hc⟩
  ·exact(hs.2 b (Nat.ne_of_lt (Nat.lt_of_lt_of_le (Heap.lt_size e) (I.ok.cab x c hfn hc)))).trans (I.base.keep b o e n hb hx)
  ·obtain⟨sl,e1⟩:=I.base.slot b o e n hb hx
   exact⟨sl,(hs.2 b (Nat.ne_of_lt (Nat.lt_of_lt_of_le (Heap.lt_size e) (I.ok.cab x c hfn hc)))).trans e1⟩
  ·obtain⟨o',e1⟩:=I.base.there b o e hx
   exact⟨o',(hs.2 b (Nat.ne_of_lt (Nat.lt_of_lt_of_le (Heap.lt_size e) (I.ok.cab x c hfn hc)))).trans e1⟩
  ·by_cases hj:j=i
   ·subst hj;rw[hi]at e1;cases e1
    rw[List.getElem?_set_self hiσ]at e2;cases e2
    exact⟨u,r,.inr ⟨.inl hk,c,hc,hc'⟩⟩
   ·rw[List.getElem?_set_ne (Ne.symm hj)]at e2;obtain⟨u',r',q⟩:=hl j y v' e1 e2 e3
    refine⟨u',r',?_⟩
    rcases q with q | ⟨k,c',e,z'⟩
    ·exact .inl q
    ·refine .inr ⟨k,c',e,z'.sameBut hs ?_⟩
     rintro rfl
     exact hj (uB hN e1 (I.ok.inj _ _ _ e hc ▸ hi))
  ·by_cases hcc:c'=c
   ·subst hcc;exact⟨_,hc'⟩
   ·obtain⟨w2,z2⟩:=I.cell y c' e
    exact⟨w2,z2.sameBut hs hcc⟩
  ·obtain⟨e,n,ne,nf,d⟩:=I.pin p hp
   refine⟨(hs.2 p.1 ?_).trans e,n,ne,nf,d⟩
   intro q;rw[q,hoc]at e;have q':oc=p.2:=Option.some.inj e
   exact d w' (by rw[<- q'];exact hocd)
theorem uC {M:Model} {A:Around} {E:Value->Shared->Prop} {i:Nat} {x:Str} {v:V} {u:Value} {Q:Unit->Shared->Prop} (I:Inv X pins σ H s) (hN:X.N.Nodup) (hi:X.N[i]?=some x) (hx:Na X.env.scope x) (r:RelV v u)
  (h:∀s',Inv X pins (σ.set i (some v)) H s'->Q () s') (hf:X.fn x=true∨X.env.scope.names.lookup x=some .local:=by first | exact .inl rfl | exact .inr rfl | assumption):wpAny M A (storeName X.env x u) Q E s:=
 qB I hN hi hx r (fun s' I' _=>h s' I') hf
theorem Inv.call' {s':Shared} {ch:List Addr} (I:Inv X pins σ H s) (ho:s'.os=s.os) (u:Un (Df X.stack) ch H H' s.heap s'.heap) (hok:HOk X.prog X.w H' s'.heap) (hg:AllBare s'.gens)
  (hch:∀b∈ch,(b∈X.ex∨X.s₀.heap.objs.size<=b)/\b≠X.env.locals/\(∀x c,X.env.cells.lookup x=some c->c≠b)/\∀p∈X.pn++pins,p.1≠b):Inv X pins σ H' s':=by
 obtain⟨h',g',d',t',o'⟩:=s'
 have e:o'=s.os:=ho
 subst e;exact I.call (g':=g') (t':=t') (d':=d') u hok hg hch
end
abbrev XK:=Value->Option Addr->Hp->Prop
abbrev St:=List (Option V)
abbrev VK:=V->Hp->Prop
abbrev TE:=St->Hp->VK->Prop
abbrev TT:=St->Hp->(Bool->Hp->Prop)->Prop
abbrev TA:=St->Hp->(List V->Hp->Prop)->Prop
structure gK where
 nx:St->Hp->Prop
 rt:VK
 bk:St->Hp->Prop:=fun _ _=>False
 ct:St->Hp->Prop:=fun _ _=>False
abbrev TS:=gK->St->Hp->Prop
def EP (X:Cx) (pins:List (Addr × Obj)) (σ:St) (Q:VK) (u:Value) (s':Shared):Prop:=∃v H',Inv X pins σ H' s'/\RelV v u/\Q v H'
def TP (X:Cx) (pins:List (Addr × Obj)) (σ:St) (Q:Bool->Hp->Prop) (b:Bool) (s':Shared):Prop:=∃H',Inv X pins σ H' s'/\Q b H'
def AP (X:Cx) (pins:List (Addr × Obj)) (σ:St) (Q:List V->Hp->Prop) (us:List Value) (s':Shared):Prop:=∃vs H',Inv X pins σ H' s'/\Vals vs us/\Q vs H'
def SP (X:Cx) (pins:List (Addr × Obj)) (D:gK) (f:Flow) (s':Shared):Prop:=
 match f with
 | .next=>∃ σ' H',Inv X pins σ' H' s'/\D.nx σ' H'
 | .brk=>∃ σ' H',Inv X pins σ' H' s'/\D.bk σ' H'
 | .cont=>∃ σ' H',Inv X pins σ' H' s'/\D.ct σ' H'
 | .ret u=>∃v σ' H',Inv X pins σ' H' s'/\RelV v u/\D.rt v H'
def PE (X:Cx) (e:Expr) (t:TE):Prop:=
 ∀(pins:List (Addr × Obj)) (s:Shared) (σ:St) (H:Hp) (Q:VK),Inv X pins σ H s->t σ H Q->wpAny (model X.prog X.w) X.A (eval e X.env) (EP X pins σ Q) X.xe s
def PT (X:Cx) (e:Expr) (t:TT):Prop:=
 ∀(pins:List (Addr × Obj)) (s:Shared) (σ:St) (H:Hp) (Q:Bool->Hp->Prop),Inv X pins σ H s->t σ H Q->wpAny (model X.prog X.w) X.A (isTrue e X.env (eval e X.env)) (TP X pins σ Q) X.xe s
def PW (X:Cx) (e:Expr) (t:TT):Prop:=
 ∀(whole:Sem Value) (pins:List (Addr × Obj)) (s:Shared) (σ:St) (H:Hp) (Q:Bool->Hp->Prop),Inv X pins σ H s->t σ H Q->wpAny (model X.prog X.w) X.A (isTrue e X.env whole) (TP X pins σ Q) X.xe s
theorem PW.pt {X:Cx} {e:Expr} {t:TT} (h:PW X e t):PT X e t:=h _
def PA (X:Cx) (es:List Expr) (t:TA):Prop:=
 ∀(pos:Pos) (pins:List (Addr × Obj)) (s:Shared) (σ:St) (H:Hp) (Q:List V->Hp->Prop),Inv X pins σ H s->t σ H Q->wpAny (model X.prog X.w) X.A (spliced (backTo pos (starEach es X.env))) (AP X pins σ Q) X.xe s
def PS (X:Cx) (st:Stmt) (t:TS):Prop:=
 ∀(pins:List (Addr × Obj)) (s:Shared) (σ:St) (H:Hp) (D:gK),Inv X pins σ H s->t D σ H->wpAny (model X.prog X.w) X.A (exec st X.env) (SP X pins D) X.xe s
def PSs (X:Cx) (st:List Stmt) (t:TS):Prop:=
 ∀(pins:List (Addr × Obj)) (s:Shared) (σ:St) (H:Hp) (D:gK),Inv X pins σ H s->t D σ H->wpAny (model X.prog X.w) X.A (execs st X.env) (SP X pins D) X.xe s
theorem bK {α:Type} {t:Sem α} {Q Q':α->Shared->Prop} {M:Model} {A:Around} {E:Value->Shared->Prop} {s:Shared} (h:wpAny M A t Q E s) (hQ:∀a s,Q a s->Q' a s):wpAny M A t Q' E s:=wpAny_mono h hQ fun _ _ x=>x
end L2
namespace L2
open PySem PySem.Spec PyProof.Rows
section
variable {X:Cx}
theorem Ys {a b:Expr} {ta tb:TE} (ha:PE X a ta) (hb:PE X b tb) {pins:List (Addr × Obj)} {s:Shared} {σ:St} {H:Hp} {R:V->V->Hp->Prop} (I:Inv X pins σ H s) (h:ta σ H fun x H1=>tb σ H1 fun y H2=>R x y H2)
  {α:Type} {Q:α->Shared->Prop} {f:Value->Value->Sem α}
  (hf:∀v u s2 x y H2,Inv X pins σ H2 s2->RelV x v->RelV y u->R x y H2->wpAny (model X.prog X.w) X.A (f v u) Q X.xe s2) :
  wpAny (model X.prog X.w) X.A (eval a X.env) (fun v s₁=>wpAny (model X.prog X.w) X.A (eval b X.env) (fun u s₂=>wpAny (model X.prog X.w) X.A (f v u) Q X.xe s₂) X.xe s₁) X.xe s:=by
 refine bK (ha pins s σ H _ I h) fun v s1 ⟨x,H1,I1,r1,q1⟩=>?_
 refine bK (hb pins s1 σ H1 _ I1 q1) fun u s2 ⟨y,H2,I2,r2,q2⟩=>?_
 exact hf v u s2 x y H2 I2 r1 r2 q2
def Os (i:Nat):TE:=fun σ H Q=>∃v,σ[i]?=some (some v)/\Q v H
def tC (v:V):TE:=fun _ H Q=>Q v H
theorem Ot {i:Nat} {x:Str} {pos:Pos} (hN:X.N[i]?=some x) (hv:Tm X.env.scope x) (hd:(x == ("__debug__":Str))=false:=by decide) (hcd:(x == ("__classdict__":Str))=false:=by decide):PE X (.Name x pos) (Os i):=by
 intro pins s σ H Q I h;obtain⟨v,e,h⟩:=h
 obtain⟨m,hn,hl⟩:=I.loc
 obtain⟨u,r,l⟩:=hl i x v hN e hv
 have fin:EP X pins σ Q u s:=⟨v,H,I,r,h⟩
 rcases l with⟨hk,hm⟩ | ⟨hk,c,hc,hcell⟩
 ·exact wpAny_Name (wpAny_loadName_local I.ok.kind hk hn hm fin) hd
 ·rcases hk with hk | hk
  ·exact wpAny_Name (wpAny_loadName_cell I.ok.kind hk hc hcell fin) hd
  ·exact wpAny_Name (wpAny_loadName_free I.ok.kind hk hc hcell fin hcd) hd
theorem Ou {i j pos}:PE X (.Constant (.int i) j pos) (tC (.int i)):=fun _ _ _ H _ I h=>wpAny_Constant_int ⟨.int i,H,I.tok _,⟨_,rfl⟩,h⟩
theorem Tn {b j pos}:PE X (.Constant (.bool b) j pos) (tC (.bl b)):=fun _ _ _ H _ I h=>Constant_bool ⟨.bl b,H,I,rfl,h⟩
theorem Ov {j pos}:PE X (.Constant .none j pos) (tC .non):=fun _ _ _ H _ I h=>Constant_none ⟨.non,H,I,rfl,h⟩
theorem Ow {x j pos}:PE X (.Constant (.str x) j pos) (tC (.str x)):=fun _ _ _ H _ I h=>Calls.Constant_str ⟨.str x,H,I.tok _,⟨_,rfl⟩,h⟩
def Gl (X:Cx) (x:Str):Prop:=X.env.kindOf x=some .globalImplicit
theorem oE {E:Value->Shared->Prop} {pins:List (Addr × Obj)} {s:Shared} {σ:St} {H:Hp} {x:Str} {u:Value} {pos:Pos} {Q:Value->Shared->Prop} (I:Inv X pins σ H s) (hg:Gl X x) (hm:X.mg x=some u) (h:Q u s)
  (hd:(x == ("__debug__":Str))=false:=by decide):wpAny (model X.prog X.w) X.A (eval (.Name x pos) X.env) Q E s:=
 Calls.Name_function_global I.ok.kind hg (Calls.loadGlobal_global (by rw[I.ok.glob];exact I.mod.glob.keeps I.bk) hm h) hd
theorem oK {E:Value->Shared->Prop} {pins:List (Addr × Obj)} {s:Shared} {σ:St} {H:Hp} {x:Str} {u:Value} {pos:Pos} {Q:Value->Shared->Prop} (I:Inv X pins σ H s) (hg:Gl X x) (hm:X.mg x=none) (hv:bootBuiltins x=some u) (h:Q u s)
  (hn:x≠"__name__":=by decide) (hd:(x == ("__debug__":Str))=false:=by decide):wpAny (model X.prog X.w) X.A (eval (.Name x pos) X.env) Q E s:=by
 obtain⟨mb,h1,h2⟩:=I.mod.blt
 exact Calls.Name_function_global I.ok.kind hg (Calls.loadGlobal_builtin (by rw[I.ok.glob];exact I.mod.glob.keeps I.bk) hm (by rw[I.ok.blt];exact h1.keeps I.bk) ((h2 x hn).trans hv) h) hd
theorem rN {x:Str} {v:V} {u:Value} {pos:Pos} (hg:Gl X x) (hm:X.mg x=some u) (r:RelV v u) (hd:(x == ("__debug__":Str))=false:=by decide):PE X (.Name x pos) (tC v):=
 fun _ _ _ H _ I h=>oE I hg hm ⟨v,H,I,r,h⟩ hd
theorem Jd {x:Str} {v:V} {u:Value} {pos:Pos} (hg:Gl X x) (hm:X.mg x=none) (hv:bootBuiltins x=some u) (r:RelV v u) (hn:x≠"__name__":=by decide) (hd:(x == ("__debug__":Str))=false:=by decide):PE X (.Name x pos) (tC v):=
 fun _ _ _ H _ I h=>oK I hg hm hv ⟨v,H,I,r,h⟩ hn hd
variable {a b:Expr} {ta tb:TE} {pos:Pos}
def PC (X:Cx) (op:CmpOp) (a b:Expr) (t:TE):Prop:=
 ∀(pins:List (Addr × Obj)) (s:Shared) (σ:St) (H:Hp) (Q:VK),Inv X pins σ H s->t σ H Q →
  wpAny (model X.prog X.w) X.A (eval a X.env) (fun v s₁=>wpAny (model X.prog X.w) X.A (eval b X.env) (fun u s₂=>wpAny (model X.prog X.w) X.A (compareOp op v u) (EP X pins σ Q) X.xe s₂) X.xe s₁) X.xe s
def tB (t:TE):TT:=fun σ H Q=>t σ H fun x H1=>∃c,x=.bl c/\Q c H1
theorem Ws {op:CmpOp} {t:TE} (h:PC X op a b t) (h1:behindInMarks op b=false:=by first | exact nobehind _ Zd Zd | rfl):PT X (.Compare a [op] [b] pos) (tB t):=by
 intro pins s σ H Q I hw;refine wpAny_isTrue_Compare1 (bK (h pins s σ H _ I hw) fun v s1 h1=>bK h1 fun u s2 h2=>bK h2 fun c s3 ⟨x,H1,I1,r1,q1⟩=>?_) h1
 obtain⟨d,rfl,q⟩:=q1
 cases r1
 exact wpAny_truthy_bool ⟨H1,I1,q⟩
theorem Ox {e:Expr} {t:TE} (h:PE X e t) (he:∀whole,isTrue e X.env whole=(do let v ← whole;standAt e.pos;holding [v] (truthy v)):=by intro _;rfl):PT X e (tB t):=by
 intro pins s σ H Q I hw;refine isTrue_plain (bK (h pins s σ H _ I hw) fun v s1 ⟨x,H1,I1,r1,q1⟩=>?_) (he _)
 obtain⟨d,rfl,q⟩:=q1
 cases r1
 exact wpAny_truthy_bool ⟨H1,I1,q⟩
variable {tA tB':TT} {rest:List Expr}
def Je (t u:TT):TT:=fun σ H Q=>t σ H fun c H1=>if c=true then u σ H1 Q else Q false H1
def Ye (t u:TT):TT:=fun σ H Q=>t σ H fun c H1=>if c=true then Q true H1 else u σ H1 Q
def To (t:TT):TT:=fun σ H Q=>t σ H fun c H1=>Q (!c) H1
theorem Jf (ha:PT X a tA):PW X (.BoolOp .And [a] pos) tA:=by
 intro wh pins s σ H Q I h;refine isTrue_and (bK (ha pins s σ H Q I h) fun c s1 e=>?_)
 cases c with
 | true=>exact isTrue_and_nil e
 | false=>exact e
theorem Oy (ha:PT X a tA):PW X (.BoolOp .Or [a] pos) tA:=by
 intro wh pins s σ H Q I h;refine isTrue_or (bK (ha pins s σ H Q I h) fun c s1 e=>?_)
 cases c with
 | false=>exact isTrue_or_nil e
 | true=>exact e
theorem Oz (ha:PT X a tA) (hb:PW X (.BoolOp .And (b::rest) pos) tB'):PW X (.BoolOp .And (a::b::rest) pos) (Je tA tB'):=by
 intro wh pins s σ H Q I h;refine isTrue_and (bK (ha pins s σ H _ I h) fun c s1 ⟨H1,I1,q1⟩=>?_)
 cases c with
 | true=>exact hb wh pins s1 σ H1 Q I1 q1
 | false=>exact⟨H1,I1,q1⟩
theorem Tp (ha:PT X a tA) (hb:PW X (.BoolOp .Or (b::rest) pos) tB'):PW X (.BoolOp .Or (a::b::rest) pos) (Ye tA tB'):=by
 intro wh pins s σ H Q I h;refine isTrue_or (bK (ha pins s σ H _ I h) fun c s1 ⟨H1,I1,q1⟩=>?_)
 cases c with
 | true=>exact⟨H1,I1,q1⟩
 | false=>exact hb wh pins s1 σ H1 Q I1 q1
theorem Pa (ha:PT X a tA):PT X (.UnaryOp .Not a pos) (To tA):=by
 intro pins s σ H Q I h;exact isTrue_not (ha pins s σ H (fun c H1=>Q (!c) H1) I h)
def Dg (ta tb:TE):TE:=fun σ H Q=>ta σ H fun x H1=>∃c,x=.bl c/\if c=true then tb σ H1 Q else Q (.bl false) H1
def Pb (ta tb:TE):TE:=fun σ H Q=>ta σ H fun x H1=>∃c,x=.bl c/\if c=true then Q (.bl true) H1 else tb σ H1 Q
theorem Pc {op} {t:TE} (h:PE X a t):PE X (.BoolOp op [a] pos) t:=fun pins s σ H Q I hw=>BoolOp_one (h pins s σ H Q I hw)
theorem Pd (ha:PE X a ta) (hb:PE X (.BoolOp .And (b::rest) pos) tb):PE X (.BoolOp .And (a::b::rest) pos) (Dg ta tb):=by
 intro pins s σ H Q I h;refine BoolOp_and (bK (ha pins s σ H _ I h) fun v s1 ⟨x,H1,I1,r1,q1⟩=>?_)
 obtain⟨c,rfl,q1⟩:=q1
 cases r1
 refine wpAny_truthy_bool ?_
 cases c with
 | true=>exact hb pins s1 σ H1 Q I1 q1
 | false=>exact⟨.bl false,H1,I1,rfl,q1⟩
theorem Tq (ha:PE X a ta) (hb:PE X (.BoolOp .Or (b::rest) pos) tb):PE X (.BoolOp .Or (a::b::rest) pos) (Pb ta tb):=by
 intro pins s σ H Q I h;refine BoolOp_or (bK (ha pins s σ H _ I h) fun v s1 ⟨x,H1,I1,r1,q1⟩=>?_)
 obtain⟨c,rfl,q1⟩:=q1
 cases r1
 refine wpAny_truthy_bool ?_
 cases c with
 | false=>exact hb pins s1 σ H1 Q I1 q1
 | true=>exact⟨.bl true,H1,I1,rfl,q1⟩
end
end L2
namespace L2
open PySem PySem.Spec PyProof.Rows
def SqL (K:W.Frag) (H:Hp) (a:Addr) (xs:List V):Prop:=
 Rd H a (.lst xs)∨
  ∃(o:Obj) (its:Array Value) (n:Nat),K.lookup a=some o/\o.cls=.type "list"/\o.dict=none/\o.data=.seq its n/\its.size<=sizeLine/\Vals xs its.toList
def SqT (K:W.Frag) (H:Hp) (a:Addr) (xs:List V):Prop:=
 Rd H a (.tup xs)∨
  ∃(o:Obj) (its:Array Value) (n:Nat),K.lookup a=some o/\o.cls=.type "tuple"/\o.data=.seq its n/\its.size<=sizeLine/\Vals xs its.toList
def Wt:Value->Option V
 | .none=>some .non
 | .bool b=>some (.bl b)
 | .int i _=>some (.int i)
 | .str x _=>some (.str x)
 | .bytes b _=>some (.byt b)
 | .float b _=>some (.flt b)
 | .ref a=>some (.ref a)
 | .type n=>some (.ty n)
 | _=>none
theorem RelV.abs {x:V} {u:Value} (r:RelV x u):Wt u=some x:=by
 cases x with
 | non=>cases r;rfl
 | bl _=>cases r;rfl
 | int _=>obtain⟨t,rfl⟩:=r;rfl
 | str _=>obtain⟨t,rfl⟩:=r;rfl
 | byt _=>obtain⟨t,rfl⟩:=r;rfl
 | flt _=>obtain⟨t,rfl⟩:=r;rfl
 | ref _=>cases r;rfl
 | ty _=>cases r;rfl
theorem RelV.inj {x y:V} {u:Value} (r:RelV x u) (q:RelV y u):x=y:=Option.some.inj (r.abs.symm.trans q.abs)
theorem Vals.inj:∀ {xs ys:List V} {us:List Value},Vals xs us->Vals ys us->xs=ys
 | _,_,_,.nil,.nil=>rfl
 | _,_,_,.cons r t,.cons r' t'=>by rw[r.inj r',Vals.inj t t']
section
variable {X:Cx} {pins:List (Addr × Obj)} {σ:St} {H:Hp} {s:Shared} {a:Addr} {xs ys:List V}
theorem SqL.of {K:W.Frag} (h:H a=some (.lst xs)):SqL K H a xs:=.inl (.inl h)
theorem SqT.of {K:W.Frag} (h:H a=some (.tup xs)):SqT K H a xs:=.inl (.inl h)
theorem Inv.list (I:Inv X pins σ H s) (h:SqL X.K H a xs):∃its:List Value,Vals xs its/\PlainL s.heap a its.toArray/\xs.length<=sizeLine:=by
 rcases h with h | ⟨o,its,n,hk,hc,hd,hs,hz,r⟩
 ·obtain⟨z,its,n,r,e⟩:=h.ok I.hok
  exact⟨its,r,⟨_,n,e,rfl,rfl,rfl⟩,z⟩
 ·refine⟨its.toList,r,⟨o,n,I.kIn a o hk,hc,hd,by simpa using hs⟩,?_⟩
  have e:=r.length
  simp only [Array.length_toList]at e
  omega
theorem Inv.tuple (I:Inv X pins σ H s) (h:SqT X.K H a xs):∃its:List Value,Vals xs its/\IsTup s.heap a its.toArray/\xs.length<=sizeLine:=by
 rcases h with h | ⟨o,its,n,hk,hc,hs,hz,r⟩
 ·obtain⟨z,its,r,p⟩:=h.ok I.hok
  exact⟨its,r,p,z⟩
 ·refine⟨its.toList,r,⟨o,I.kIn a o hk,hc,n,by simpa using hs⟩,?_⟩
  have e:=r.length
  simp only [Array.length_toList]at e
  omega
theorem Inv.list_inj (I:Inv X pins σ H s) (h:SqL X.K H a xs) (h':SqL X.K H a ys):xs=ys:=by
 obtain⟨its,r,⟨o,n,e,_,_,d⟩,_⟩:=I.list h
 obtain⟨its',r',⟨o',n',e',_,_,d'⟩,_⟩:=I.list h'
 rw[e]at e';cases e'
 rw[d]at d';injection d' with d1 _
 have:its=its':=by simpa using congrArg Array.toList d1
 subst this;exact r.inj r'
theorem Inv.tuple_inj (I:Inv X pins σ H s) (h:SqT X.K H a xs) (h':SqT X.K H a ys):xs=ys:=by
 obtain⟨its,r,⟨o,e,_,n,d⟩,_⟩:=I.tuple h
 obtain⟨its',r',⟨o',e',_,n',d'⟩,_⟩:=I.tuple h'
 rw[e]at e';cases e'
 rw[d]at d';injection d' with d1 _
 have:its=its':=by simpa using congrArg Array.toList d1
 subst this;exact r.inj r'
end
abbrev Cx.wish (X:Cx) (E:Value->Shared->Prop):Cx:={X with xe:=E }
abbrev Cx.nox (X:Cx):Cx:=X.wish fun _ _=>False
theorem Cx.Ok.wish {X:Cx} (ok:X.Ok) (E:Value->Shared->Prop):(X.wish E).Ok:=
 ⟨ok.mod,ok.kind,ok.glob,ok.blt,ok.above,ok.inj,ok.has,ok.cab,ok.hd,ok.frames,ok.stk,ok.exf,ok.bs,ok.bsz,ok.noex,ok.exfs,ok.funs,ok.frf⟩
theorem Cx.Ok.unwish {X:Cx} {E:Value->Shared->Prop} (ok:(X.wish E).Ok):X.Ok:=
 ⟨ok.mod,ok.kind,ok.glob,ok.blt,ok.above,ok.inj,ok.has,ok.cab,ok.hd,ok.frames,ok.stk,ok.exf,ok.bs,ok.bsz,ok.noex,ok.exfs,ok.funs,ok.frf⟩
section
variable {X:Cx} {pins:List (Addr × Obj)} {σ:St} {H:Hp} {s:Shared} {E:Value->Shared->Prop}
theorem Inv.wish (I:Inv X pins σ H s) (E:Value->Shared->Prop):Inv (X.wish E) pins σ H s:=⟨I.ok.wish E,I.os,I.bare,I.base,I.loc,I.cell,I.free,I.freeC,I.pin,I.hok,I.len⟩
theorem Inv.unwish (I:Inv (X.wish E) pins σ H s):Inv X pins σ H s:=⟨I.ok.unwish,I.os,I.bare,I.base,I.loc,I.cell,I.free,I.freeC,I.pin,I.hok,I.len⟩
theorem SP.unwish {D:gK} {f:Flow} {s':Shared} (h:SP (X.wish E) pins D f s'):SP X pins D f s':=by
 cases f with
 | next=>obtain⟨σ',H',I,q⟩:=h;exact⟨σ',H',I.unwish,q⟩
 | brk=>obtain⟨σ',H',I,q⟩:=h;exact⟨σ',H',I.unwish,q⟩
 | cont=>obtain⟨σ',H',I,q⟩:=h;exact⟨σ',H',I.unwish,q⟩
 | ret u=>obtain⟨v,σ',H',I,r,q⟩:=h;exact⟨v,σ',H',I.unwish,r,q⟩
theorem PSs.nox {st:List Stmt} {t:TS} (h:PSs X.nox st t):PSs X st t:=fun pins s σ H D I hw=>
 wpAny_mono (h pins s σ H D (I.wish _) hw) (fun _ _ q=>q.unwish) fun _ _ z=>False.elim z
end
section
variable {X:Cx} {st:Stmt} {rest:List Stmt} {t u:TS} {e:Expr} {te:TE} {pos:Pos}
def iP:TS:=fun D σ H=>D.nx σ H
def Jg (t u:TS):TS:=fun D σ H=>t {D with nx:=u D } σ H
theorem Jh:PSs X [] iP:=fun _ _ σ H _ I h=>wpAny_execs_nil ⟨σ,H,I,h⟩
theorem Dh (h1:PS X st t) (h2:PSs X rest u):PSs X (st::rest) (Jg t u):=by
 intro pins s σ H D I h;refine wpAny_execs_cons (bK (h1 pins s σ H {D with nx:=u D } I h) fun f s1 q=>?_)
 cases f with
 | next=>
  obtain⟨σ',H',I',q⟩:=q
  exact h2 pins s1 σ' H' D I' q
 | ret v=>exact q
 | brk=>exact q
 | cont=>exact q
theorem Ji (h1:PS X st t):PSs X [st] t:=by
 intro pins s σ H D I h;refine wpAny_execs_cons (bK (h1 pins s σ H D I h) fun f s1 q=>?_)
 cases f with
 | next=>exact wpAny_execs_nil q
 | ret v=>exact q
 | brk=>exact q
 | cont=>exact q
theorem Inv.quiet {pins:List (Addr × Obj)} {σ:St} {H:Hp} {s:Shared} (I:Inv X pins σ H s):interactive X.env=false:=by simp [interactive,I.ok.kind]
def Nb (te:TE):TS:=fun D σ H=>te σ H fun _ H1=>D.nx σ H1
theorem Jj (he:PE X e te) (hs:swapsWith e none pos.line X.env=pure false:=by rfl):PS X (.Expr e pos) (Nb te):=by
 intro pins s σ H D I h;exact wpAny_Expr_any (bK (he pins s σ H _ I h) fun v s1 ⟨x,H1,I1,r1,q1⟩=>⟨σ,H1,I1,q1⟩) I.quiet hs
def Tr (te:TE):TS:=fun D σ H=>te σ H D.rt
theorem Pe (he:PE X e te):PS X (.Return (some e) pos) (Tr te):=by
 intro pins s σ H D I h;exact wpAny_Return_some (bK (he pins s σ H _ I h) fun v s1 ⟨x,H1,I1,r1,q1⟩=>⟨x,σ,H1,I1,r1,q1⟩)
def Jk (c:TT) (t u:TS):TS:=fun D σ H=>c σ H fun b H1=>if b=true then t D σ H1 else u D σ H1
theorem Ts {c:Expr} {a b:List Stmt} {tc:TT} (hc:PT X c tc) (ha:PSs X a t) (hb:PSs X b u):PS X (.If c a b pos) (Jk tc t u):=by
 intro pins s σ H D I h;refine wpAny_If (bK (hc pins s σ H _ I h) fun d s1 ⟨H1,I1,q1⟩=>?_)
 cases d with
 | true=>exact ha pins s1 σ H1 D I1 q1
 | false=>exact hb pins s1 σ H1 D I1 q1
end
abbrev TG:=V->St->Hp->(St->Hp->Prop)->Prop
abbrev yM:=List V->St->Hp->(St->Hp->Prop)->Prop
def PG (X:Cx) (target:Expr) (t:TG):Prop:=
 ∀(pins:List (Addr × Obj)) (s:Shared) (σ:St) (H:Hp) (v:V) (u:Value) (Q:St->Hp->Prop),Inv X pins σ H s->RelV v u->t v σ H Q →
  wpAny (model X.prog X.w) X.A (assign target X.env u) (fun _ s'=>∃ σ' H',Inv X pins σ' H' s'/\Q σ' H') X.xe s
def Tt (X:Cx) (ts:List Expr) (t:yM):Prop:=
 ∀(pins:List (Addr × Obj)) (s:Shared) (σ:St) (H:Hp) (vs:List V) (us:List Value) (Q:St->Hp->Prop),Inv X pins σ H s->Vals vs us->t vs σ H Q →
  wpAny (model X.prog X.w) X.A (assignInOrder ((assignEach ts X.env).map (·.2)) us) (fun _ s'=>∃ σ' H',Inv X pins σ' H' s'/\Q σ' H') X.xe s
abbrev Au:=V->V->V->Hp->(Hp->Prop)->Prop
def Jl (X:Cx) (t:Au):Prop:=
 ∀(pins:List (Addr × Obj)) (s:Shared) (σ:St) (H:Hp) (o i v:V) (ov iv u:Value) (Q:Hp->Prop),Inv X pins σ H s->RelV o ov->RelV i iv->RelV v u->t o i v H Q →
  wpAny (model X.prog X.w) X.A (setItem ov iv u) (fun _ s'=>∃H',Inv X pins σ H' s'/\Q H') X.xe s
section
variable {X:Cx} {pos:Pos}
def aJ (i:Nat):TG:=fun v σ H Q=>Q (σ.set i (some v)) H
theorem Jm {i:Nat} {x:Str} (hN:X.N.Nodup) (hi:X.N[i]?=some x) (hx:Na X.env.scope x) (hf:X.fn x=true∨X.env.scope.names.lookup x=some .local:=by first | exact .inl rfl | exact .inr rfl | assumption):PG X (.Name x pos) (aJ i):=by
 intro pins s σ H v u Q I r h;exact wpAny_assign_Name (uC I hN hi hx r (fun s' I'=>⟨_,H,I',h⟩) hf)
def Pf:yM:=fun vs σ H Q=>vs=[]/\Q σ H
def Dl (t:TG) (u:yM):yM:=fun vs σ H Q=>∃v r,vs=v::r/\t v σ H fun σ' H'=>u r σ' H' Q
theorem Jn:Tt X [] Pf:=by
 intro pins s σ H vs us Q I r h;obtain⟨e,h⟩:=h
 subst e;cases r
 exact assignInOrder_nil ⟨σ,H,I,h⟩
theorem Dm {e:Expr} {es:List Expr} {t:TG} {u:yM} (h1:PG X e t) (h2:Tt X es u)
  (hs:(assignEach (e::es) X.env).map (·.2)=assign e X.env::(assignEach es X.env).map (·.2):=by rfl):Tt X (e::es) (Dl t u):=by
 intro pins s σ H vs us Q I r h;obtain⟨v,vr,e1,h⟩:=h
 subst e1;cases r with
 | cons r rr=>
  rw[hs];refine assignInOrder_cons (bK (h1 pins s σ H _ _ _ I r h) fun _ s1 ⟨σ1,H1,I1,q1⟩=>?_)
  exact h2 pins s1 σ1 H1 _ _ Q I1 rr q1
def Jo (K:W.Frag) (n:Nat) (t:yM):TG:=fun v σ H Q=>∃a xs,v=.ref a/\SqT K H a xs/\xs.length=n/\t xs σ H Q
theorem Pg {es:List Expr} {k:Nat} {t:yM} {n:Nat} (hc:X.calm=true) (h:Tt X es t)
  (hn:(assignEach es X.env).length=n:=by rfl) (hst:(assignEach es X.env).findIdx? (·.1)=none:=by rfl):PG X (.Tuple es k pos) (Jo X.K n t):=by
 intro pins s σ H v u Q I r hw;obtain⟨a,xs,e1,hq,hl,hw⟩:=hw
 subst e1;cases r
 obtain⟨its,rv,ht,hz⟩:=I.tuple hq
 refine assign_Tuple_tuple (I.ok.hd hc) ht (by simp [hn,<- hl,rv.length]) hst fun h' hx=>?_
 have I1:Inv X pins σ H {s with heap:=h' }:=I.kept (t':=s.toks) fun b o e=>hx b o (Nat.ne_of_lt (Heap.lt_size e)) e
 exact h pins _ σ H xs _ Q I1 (by simpa using rv) hw
def Ph (to ti:TE) (t:Au):TG:=fun v σ H Q=>to σ H fun o H1=>ti σ H1 fun i H2=>t o i v H2 fun H3=>Q σ H3
theorem Pi {o i:Expr} {to ti:TE} {t:Au} (ho:PE X o to) (hi:PE X i ti) (hs:Jl X t)
  (ha:∀v,assign (.Subscript o i pos) X.env v=(do
   let ov ← holding [v] (eval o X.env)
   let iv ← holding [v,ov] (eval i X.env)
   standAt pos
   holding [v,ov,iv] (setItem ov iv v)
   release [v,ov,iv] []):=by intro _;rfl):PG X (.Subscript o i pos) (Ph to ti t):=by
 intro pins s σ H v u Q I r h;rw[ha];refine wpAny_bind (wpAny_holding (bK (ho pins s σ H _ I h) fun ov s1 ⟨x,H1,I1,r1,q1⟩=>?_))
 refine wpAny_bind (wpAny_holding (bK (hi pins s1 σ H1 _ I1 q1) fun iv s2 ⟨y,H2,I2,r2,q2⟩=>?_))
 refine wpAny_bind (wpAny_standAt (wpAny_bind (wpAny_holding (bK (hs pins s2 σ H2 x y v ov iv u _ I2 r1 r2 r q2) fun _ s3 ⟨H3,I3,q3⟩=>?_))))
 exact wpAny_release ⟨σ,H3,I3,q3⟩
def Dn (te:TE) (g:TG):TS:=fun D σ H=>te σ H fun x H1=>g x σ H1 D.nx
theorem Pj {tg e:Expr} {te:TE} {g:TG} (he:PE X e te) (hg:PG X tg g) (hs:swapsWithSole [tg] e pos.line X.env=pure false:=by rfl) (hw:swappedStores [tg] e X.env=pure none:=by rfl)
  (h1:(assignEach [tg] X.env).map (·.2)=[assign tg X.env]:=by rfl):PS X (.Assign [tg] e pos) (Dn te g):=by
 intro pins s σ H D I h;refine wpAny_Assign_stores (bK (he pins s σ H _ I h) fun v s1 ⟨x,H1,I1,r1,q1⟩=>?_) hs hw
 rw[h1];exact bK (hg pins s1 σ H1 x v _ I1 r1 q1) fun _ s2 q=>q
theorem Pk {i:Nat} {x:Str} {e:Expr} {te:TE} {pos':Pos} (hN:X.N.Nodup) (hi:X.N[i]?=some x) (hx:Na X.env.scope x) (he:PE X e te) (hs:swapsWith e (some (.Name x pos')) pos.line X.env=pure false:=by rfl) (hf:X.fn x=true∨X.env.scope.names.lookup x=some .local:=by first | exact .inl rfl | exact .inr rfl | assumption) :
  PS X (.Assign [.Name x pos'] e pos) (Dn te (aJ i)):=by
 intro pins s σ H D I h;refine wpAny_Assign_Name (bK (he pins s σ H _ I h) fun v s1 ⟨y,H1,I1,r1,q1⟩=>?_) hs
 exact uC I1 hN hi hx r1 (fun s2 I2=>⟨_,H1,I2,q1⟩) hf
end
structure It where
 go:Nat->Hp->Prop
 yld:Nat->Hp->V->Hp->Prop
 stop:Nat->Hp->Prop
def lP (X:Cx) (pins:List (Addr × Obj)) (H:Hp) (b:Addr):Prop:=
 H b=none/\b≠X.env.locals/\b∉X.fs/\(b∈X.ex∨X.s₀.heap.objs.size<=b)/\(∀x c,X.env.cells.lookup x=some c->c≠b)/\∀p∈X.pn++pins,p.1≠b
theorem Inv.fpOk {X:Cx} {pins:List (Addr × Obj)} {σ:St} {H H':Hp} {s:Shared} {b:Addr} (I:Inv X pins σ H s) (hb:s.heap.objs.size<=b) (hn:H' b=none):lP X pins H' b:=by
 refine⟨hn,Nat.ne_of_gt (Nat.lt_of_lt_of_le I.lt hb),I.nofs hb,.inr (fU I.sz hb),fun x c e z=>?_,fun p hp z=>?_⟩
 ·obtain⟨v,q⟩:=I.cell x c e
  exact absurd (Nat.lt_of_lt_of_le q.lt (by rw[z];exact hb)) (Nat.lt_irrefl _)
 ·exact absurd (Nat.lt_of_lt_of_le (Heap.lt_size (I.pin p hp).1) (by rw[z];exact hb)) (Nat.lt_irrefl _)
structure rO (P:Program) (w:World) (K:W.Frag) (tg:Expr) (J:It) (fp:List Addr) (it:Addr) (tn:Nat->Heap->Prop):Prop where
 mem:it∈fp
 obj:∀i h,tn i h->∀b∈fp,∃o,h.get? b=some o/\∀v,o.data≠.cell v
 keep:∀i h h',tn i h->(∀b∈fp,∀o,h.get? b=some o->h'.get? b=some o)->tn i h'
 item:∀(X:Cx),X.prog=P->X.w=w->X.K=K->X.calm=true->∀(i:Nat) (pins:List (Addr × Obj)) (s:Shared) (σ:St) (H:Hp) (E:Value->Shared->Prop),Inv X pins σ H s->(∀b∈fp,lP X pins H b)->tn i s.heap->J.go i H →
  wpAny (model P w) X.A (pyNext (.ref it)) (fun r s1=>∃u,r=some u ∧
   wpAny (model P w) X.A (letOwnedTupleGo tg (.ref it) u) (fun _ s2=>∃x H',Inv X pins σ H' s2/\RelV x u/\J.yld i H x H'/\tn (i+1) s2.heap/\∀b∈fp,H' b=none) E s1) E s
 done:∀(X:Cx),X.prog=P->X.w=w->X.K=K->X.calm=true->∀(i:Nat) (pins:List (Addr × Obj)) (s:Shared) (σ:St) (H:Hp) (E:Value->Shared->Prop),Inv X pins σ H s->(∀b∈fp,lP X pins H b)->tn i s.heap->J.stop i H →
  wpAny (model P w) X.A (pyNext (.ref it)) (fun r s1=>r=none/\Inv X pins σ H s1) E s
 self:∀(A:Around) (i:Nat) (s:Shared) (Q:Value->Shared->Prop) (E:Value->Shared->Prop),tn i s.heap->Q (.ref it) s->wpAny (model P w) A (pyIter (.ref it)) Q E s
abbrev TI:=St->Hp->(It->Hp->Prop)->Prop
def Yf (X:Cx) (pins:List (Addr × Obj)) (σ:St) (tg:Expr) (R:It->Hp->Prop) (itv:Value) (s2:Shared):Prop:=
 ∃(it:Addr) (fp:List Addr) (tn:Nat->Heap->Prop) (J:It) (H':Hp),itv=.ref it/\Inv X pins σ H' s2/\rO X.prog X.w X.K tg J fp it tn/\tn 0 s2.heap/\(∀b∈fp,lP X pins H' b)/\R J H'
def PI (X:Cx) (tg iter:Expr) (wi:TI):Prop:=
 ∀(pins:List (Addr × Obj)) (s:Shared) (σ:St) (H:Hp) (R:It->Hp->Prop),Inv X pins σ H s->wi σ H R →
  wpAny (model X.prog X.w) X.A (eval iter X.env) (fun v s1=>wpAny (model X.prog X.w) X.A (pyIter v) (Yf X pins σ tg R) X.xe s1) X.xe s
theorem qC {M:Model} {A:Around} {E:Value->Shared->Prop} {s:Shared} {tg:Expr} {it:Addr} {u:Value} {o:Obj} {n:String} {vs:Array Value} {Q:Unit->Shared->Prop} (ho:s.heap.get? it=some o) (hc:o.cls=.type n) (hd:o.data=.fields vs)
    (hn:["enumerate","zip","dict_itemiterator","dict_reverseitemiterator","odict_iterator","itertools.zip_longest","itertools.pairwise"].contains n=false) (hQ:Q () s):wpAny M A (letOwnedTupleGo tg (.ref it) u) Q E s:=by
  unfold letOwnedTupleGo;cases tg <;> first
    | exact wpAny_pure hQ
    | (cases u <;> first
        | exact wpAny_pure hQ
        | (refine wpAny_bind (wpAny_load ho ?_)
           rw[hc,hd];show wpAny M A (if (["enumerate","zip","dict_itemiterator","dict_reverseitemiterator","odict_iterator","itertools.zip_longest","itertools.pairwise"].contains n&&vs[0]? == some (rawInt _))=true then _ else _) Q E s
           rw[if_neg (by intro h;rw[hn,Bool.false_and]at h;cases h)]
           exact wpAny_pure hQ))
def Pl (K:W.Frag) (a:Addr):It:=
 ⟨fun i H=>∃xs x,SqL K H a xs/\xs[i]?=some x,fun i H x H'=>H'=H/\∀xs,SqL K H a xs->xs[i]?=some x,fun i H=>∃xs,SqL K H a xs/\xs.length<=i⟩
def Wu (K:W.Frag) (a:Addr):It:=
 ⟨fun i H=>∃xs x,SqT K H a xs/\xs[i]?=some x,fun i H x H'=>H'=H/\∀xs,SqT K H a xs->xs[i]?=some x,fun i H=>∃xs,SqT K H a xs/\xs.length<=i⟩
def Wi (lo:Int) (n:Nat):It:=⟨fun i _=>i<n,fun i H x H'=>H'=H/\x=.int (lo+i),fun i _=>n<=i⟩
theorem Av {P:Program} {w:World} {K:W.Frag} {tg:Expr} (a it:Addr):rO P w K tg (Pl K a) [it] it (fun i h=>h.IsListIter it a i) where
 mem:=by simp
 obj:=fun i h st b hb=>by
  have e:b=it:=by simpa using hb
  subst e;obtain⟨o,e,c,d⟩:=st
  exact⟨o,e,fun v z=>by rw[d]at z;cases z⟩
 keep:=fun i h h' st k=>st.at fun o e=>k it Zs o e
 item:=by
  intro X hP hw hK hc i pins s σ H E I hf st hg;subst hP hw hK;obtain⟨xs,x,hq,hx⟩:=hg
  obtain⟨its,rv,p,hz⟩:=I.list hq
  obtain⟨u,hu,ru⟩:=rv.get hx
  obtain⟨f0,f1,f2,f3,f4,f5⟩:=hf it Zs
  refine wpAny_pyNext_list_item st p.isList (x:=u) (by simpa using hu) fun h' st' sb=>?_
  have I1:Inv X pins σ H {s with heap:=h' }:=I.turned (t':=s.toks) (fun b o hb e=>(sb.2 b hb).trans e) f0 f1 f3 f4 f5
  obtain⟨o,e,c,d⟩:=id st'
  exact⟨u,rfl,qC (s:={s with heap:=h' }) e c d Zd ⟨x,H,I1,ru,⟨rfl,fun ys hy=>by rw[I.list_inj hy hq];exact hx⟩,st',fun b hb=>(hf b hb).1⟩⟩
 done:=by
  intro X hP hw hK hc i pins s σ H E I hf st hg;subst hP hw hK;obtain⟨xs,hq,hx⟩:=hg
  obtain⟨its,rv,p,hz⟩:=I.list hq
  obtain⟨f0,f1,f2,f3,f4,f5⟩:=hf it Zs
  have hl:=rv.length
  exact wpAny_pyNext_list_end (I.ok.hd hc) st p.isList (by simp;omega) fun h' eb=>⟨rfl,I.turned (t':=s.toks) (fun b o hb e=>eb b o hb e) f0 f1 f3 f4 f5⟩
 self:=fun _ _ _ _ _ st h=>wpAny_pyIter_listiter st h
theorem wI {P:Program} {w:World} {K:W.Frag} {tg:Expr} (a it:Addr):rO P w K tg (Wu K a) [it] it (fun i h=>h.IsTupleIter it a i) where
 mem:=by simp
 obj:=fun i h st b hb=>by
  have e:b=it:=by simpa using hb
  subst e;obtain⟨o,e,c,d⟩:=st
  exact⟨o,e,fun v z=>by rw[d]at z;cases z⟩
 keep:=fun i h h' st k=>st.at fun o e=>k it Zs o e
 item:=by
  intro X hP hw hK hc i pins s σ H E I hf st hg;subst hP hw hK;obtain⟨xs,x,hq,hx⟩:=hg
  obtain⟨its,rv,p,hz⟩:=I.tuple hq
  obtain⟨u,hu,ru⟩:=rv.get hx
  obtain⟨f0,f1,f2,f3,f4,f5⟩:=hf it Zs
  refine wpAny_pyNext_tuple_item st (show s.heap.IsTuple a its.toArray from p) (x:=u) (by simpa using hu) fun h' st' sb=>?_
  have I1:Inv X pins σ H {s with heap:=h' }:=I.turned (t':=s.toks) (fun b o hb e=>(sb.2 b hb).trans e) f0 f1 f3 f4 f5
  obtain⟨o,e,c,d⟩:=id st'
  exact⟨u,rfl,qC (s:={s with heap:=h' }) e c d Zd ⟨x,H,I1,ru,⟨rfl,fun ys hy=>by rw[I.tuple_inj hy hq];exact hx⟩,st',fun b hb=>(hf b hb).1⟩⟩
 done:=by
  intro X hP hw hK hc i pins s σ H E I hf st hg;subst hP hw hK;obtain⟨xs,hq,hx⟩:=hg
  obtain⟨its,rv,p,hz⟩:=I.tuple hq
  obtain⟨f0,f1,f2,f3,f4,f5⟩:=hf it Zs
  have hl:=rv.length
  exact wpAny_pyNext_tuple_end (I.ok.hd hc) st (show s.heap.IsTuple a its.toArray from p) (by simp;omega) fun h' eb=>⟨rfl,I.turned (t':=s.toks) (fun b o hb e=>eb b o hb e) f0 f1 f3 f4 f5⟩
 self:=fun _ _ _ _ _ st h=>wpAny_pyIter_tupleiter st h
theorem wJ {P:Program} {w:World} {K:W.Frag} {tg:Expr} (it:Addr) (lo:Int) (n:Nat):rO P w K tg (Wi lo n) [it] it (fun i h=>IsRangeIter h it (lo+(i:Nat)*1) ((n:Int) - (i:Nat)) 1) where
 mem:=by simp
 obj:=fun i h st b hb=>by
  have e:b=it:=by simpa using hb
  subst e;exact⟨_,st,fun v z=>by
   have z':Data.fields _=Data.cell v:=z
   cases z'⟩
 keep:=fun i h h' st k=>k it Zs _ st
 item:=by
  intro X hP hw hK hc i pins s σ H E I hf st hg;subst hP hw hK;obtain⟨f0,f1,f2,f3,f4,f5⟩:=hf it Zs
  have W:=Walks.range (prog:=X.prog) (w:=X.w) (I.ok.hd hc) it lo 1 n
  refine W.item i s _ _ hg st fun v h' tk hv st' kk=>?_
  obtain⟨t,rfl⟩:=hv
  have I1:Inv X pins σ H {s with heap:=h',toks:=tk }:=I.turned (fun b o hb e=>kk b o (by simpa using hb) e) f0 f1 f3 f4 f5
  refine⟨_,rfl,qC (s:={s with heap:=h',toks:=tk }) (n:="range_iterator") st' rfl rfl Zd ⟨.int (lo+i),H,I1,⟨t,?_⟩,⟨rfl,rfl⟩,st',fun b hb=>(hf b hb).1⟩⟩
  rw[Int.mul_one]
 done:=by
  intro X hP hw hK hc i pins s σ H E I hf st hg;subst hP hw hK;obtain⟨f0,f1,f2,f3,f4,f5⟩:=hf it Zs
  exact wpAny_pyNext_range_end (I.ok.hd hc) st (by have:n<=i:=hg;omega) fun h' eb=>⟨rfl,I.turned (t':=s.toks) (fun b o hb e=>eb b o hb e) f0 f1 f3 f4 f5⟩
 self:=fun _ _ _ _ _ st h=>wpAny_pyIter_rangeiter st h
end L2
namespace L2
open PySem PySem.Spec PyProof.Rows
section
variable {X:Cx} {tg:Expr}
def Do (K:W.Frag) (tl:TE):TI:=fun σ H R=>tl σ H fun x H1=>∃a,x=.ref a/\(∃xs,SqL K H1 a xs)/\R (Pl K a) H1
def Pn (K:W.Frag) (tl:TE):TI:=fun σ H R=>tl σ H fun x H1=>∃a,x=.ref a/\(∃xs,SqT K H1 a xs)/\R (Wu K a) H1
theorem Jp {l:Expr} {tl:TE} (hl:PE X l tl):PI X tg l (Do X.K tl):=by
 intro pins s σ H R I h;refine bK (hl pins s σ H _ I h) fun v s1 ⟨x,H1,I1,r1,q1⟩=>?_
 obtain⟨a,e,⟨xs,hq⟩,q⟩:=q1
 subst e;cases r1
 obtain⟨its,rv,p,hz⟩:=I1.list hq
 refine wpAny_pyIter_list p.isList ?_
 refine⟨s1.heap.objs.size,[s1.heap.objs.size],_,_,H1,rfl,I1.kept (t':=s1.toks) fun b o e=>iO _ e,Av a _,⟨_,Heap.get?_push_size _ rfl,rfl,rfl⟩,fun b hb=>?_,q⟩
 have e:b=s1.heap.objs.size:=by simpa using hb
 subst e;exact I1.fpOk (cA _) (I1.hok.fresh (cA _))
theorem Po {l:Expr} {tl:TE} (hl:PE X l tl):PI X tg l (Pn X.K tl):=by
 intro pins s σ H R I h;refine bK (hl pins s σ H _ I h) fun v s1 ⟨x,H1,I1,r1,q1⟩=>?_
 obtain⟨a,e,⟨xs,hq⟩,q⟩:=q1
 subst e;cases r1
 obtain⟨its,rv,p,hz⟩:=I1.tuple hq
 refine wpAny_pyIter_tuple (show s1.heap.IsTuple a its.toArray from p) ?_
 refine⟨s1.heap.objs.size,[s1.heap.objs.size],_,_,H1,rfl,I1.kept (t':=s1.toks) fun b o e=>iO _ e,wI a _,⟨_,Heap.get?_push_size _ rfl,rfl,rfl⟩,fun b hb=>?_,q⟩
 have e:b=s1.heap.objs.size:=by simpa using hb
 subst e;exact I1.fpOk (cA _) (I1.hok.fresh (cA _))
theorem Dp {pins:List (Addr × Obj)} {σ:St} {H:Hp} {s:Shared} {R:It->Hp->Prop} {E:Value->Shared->Prop} {lo hi:Int} {t u v:Tok} {tk:Nat} (I:Inv X pins σ H s) (h1:-(2 ^ 62)<=lo) (h2:lo<2 ^ 62) (h3:-(2 ^ 62)<=hi) (h4:hi<2 ^ 62)
  (q:R (Wi lo (hi - lo).toNat) H):wpAny (model X.prog X.w) X.A (pyIter (.ref s.heap.objs.size)) (Yf X pins σ tg R) E {s with heap:=s.heap.push {cls:=.type "range",data:=.fields #[.int lo t,.int hi u,.int 1 v] },toks:=tk }:=by
 refine wpAny_pyIter_range (IsRange.new ..) (small_one h1 h2 h3 h4) ?_
 have I1:Inv X pins σ H {s with heap:=s.heap.push {cls:=.type "range",data:=.fields #[.int lo t,.int hi u,.int 1 v] },toks:=tk }:=I.kept fun b o e=>iO _ e
 refine⟨(s.heap.push {cls:=.type "range",data:=.fields #[.int lo t,.int hi u,.int 1 v] }).objs.size,[(s.heap.push {cls:=.type "range",data:=.fields #[.int lo t,.int hi u,.int 1 v] }).objs.size],_,_,H,rfl,
  I1.kept (t':=tk) fun b o e=>iO _ e,wJ _ lo (hi - lo).toNat,?_,fun b hb=>?_,q⟩
 ·have e1:lo+((0:Nat):Int)*1=lo:=by simp
  have e2:(((hi - lo).toNat:Nat):Int) - ((0:Nat):Int)=Builtin.Range.rangeSize lo hi 1:=by rw[rangeSize_one];split <;> omega
  show IsRangeIter _ _ (lo+((0:Nat):Int)*1) ((((hi - lo).toNat:Nat):Int) - ((0:Nat):Int)) 1
  rw[e1,e2];exact Heap.get?_push_size _ rfl
 ·have e:b=(s.heap.push {cls:=.type "range",data:=.fields #[.int lo t,.int hi u,.int 1 v] }).objs.size:=by simpa using hb
  subst e;exact I1.fpOk (cA _) (I1.hok.fresh (cA _))
def Nc (ta:TA):TI:=fun σ H R=>ta σ H fun vs H1=>∃j:Int,vs=[.int j]/\-(2 ^ 62)<=j/\j<2 ^ 62/\R (Wi 0 j.toNat) H1
theorem Aw {a:Expr} {ta:TA} {p pos:Pos} (hg:Gl X "range") (hm:X.mg "range"=none) (ha:PA X [a] ta) (hs:starEach [a] X.env=[(false,eval a X.env)]:=by rfl):PI X tg (.Call (.Name "range" p) [a] [] pos) (Nc ta):=by
 intro pins s σ H R I h;refine Call_ (oK I hg hm boot_range (PyProof.Rows.callWith_type1 (bK (ha pos pins s σ H _ I h) fun us s1 ⟨vs,H1,I1,r1,q1⟩=>?_) hs rfl))
 obtain⟨j,e,q1,q2,q⟩:=q1
 subst e;cases r1 with
 | cons r rr=>
  cases rr
  obtain⟨t,rfl⟩:=r
  exact call_range_1 (Dp I1 Zo Zo q1 q2 (by simpa using q))
def Tu (wi:TI) (g:TG) (tb:TS):TS:=fun D σ H=>wi σ H fun J H1=>∃W:Nat->Nat->St->Hp->Prop,(∃m,W 0 m σ H1)/\∀i m σ H,W i m σ H →
 (J.stop i H/\D.nx σ H)∨(J.go i H/\∃N:St->Hp->Prop,(∀ σ' H',N σ' H'->∃m',m'<m/\W (i+1) m' σ' H')/\∀x H',J.yld i H x H'->g x σ H' fun σ2 H2=>tb {D with nx:=N,ct:=N,bk:=D.nx } σ2 H2)
def oM (fp:List Addr) (h:Heap):List (Addr × Obj):=fp.filterMap fun b=>(h.get? b).map fun o=>(b,o)
theorem gW {fp:List Addr} {h:Heap} {b:Addr} {o:Obj} (hb:b∈fp) (e:h.get? b=some o):(b,o)∈oM fp h:=List.mem_filterMap.mpr ⟨b,hb,by rw[e];rfl⟩
theorem Ax {fp:List Addr} {h:Heap} {p:Addr × Obj} (hp:p∈oM fp h):p.1∈fp/\h.get? p.1=some p.2:=by
 obtain⟨b,hb,e⟩:=List.mem_filterMap.mp hp
 cases q:h.get? b with
 | none=>rw[q]at e;cases e
 | some o=>
  rw[q]at e;have e':(b,o)=p:=Option.some.inj e
  subst e';exact⟨hb,q⟩
theorem Inv.pinned {pins:List (Addr × Obj)} {σ:St} {H:Hp} {s:Shared} {fp:List Addr} (I:Inv X pins σ H s) (hf:∀b∈fp,lP X pins H b) (ho:∀b∈fp,∃o,s.heap.get? b=some o/\∀v,o.data≠.cell v):Inv X (pins++oM fp s.heap) σ H s:=
 I.pins_of fun p hp=>(Zma.mp hp).elim (fun z=>I.pin p (List.mem_append_right _ z)) fun z=>by
  obtain⟨hb,e⟩:=Ax z
  obtain⟨f0,f1,f2,_⟩:=hf p.1 hb
  obtain⟨o,e',d⟩:=ho p.1 hb
  rw[e]at e';cases e'
  exact⟨e,f0,f1,f2,d⟩
theorem Inv.unpinned {pins pl:List (Addr × Obj)} {σ:St} {H:Hp} {s:Shared} (I:Inv X (pins++pl) σ H s):Inv X pins σ H s:=I.pins_of fun p hp=>I.pin p (List.mem_append_right _ (List.mem_append_left _ hp))
theorem Pp {iter:Expr} {body:List Stmt} {wi:TI} {g:TG} {tb:TS} {pos:Pos} (hp:PassesOwn (model X.prog X.w) X.A X.env X.xe) (hc:X.calm=true) (hi:PI X tg iter wi) (hg:PG X tg g) (hb:PSs X body tb)
  (hs:∀x,foldedSetIterable iter X.env x=pure x:=by intro _;rfl):PS X (.For tg iter body [] pos) (Tu wi g tb):=by
 intro pins s σ H D I h;refine wpAny_For (bK (hi pins s σ H _ I h) fun v s1 h1=>bK h1 fun itv s2 h2=>?_) hs
 obtain⟨it,fp,tn,J,H2,e,I2,T,st2,f2,W,⟨m0,w0⟩,turn⟩:=h2
 subst e;have stat:∀ {H':Hp},(∀b∈fp,H' b=none)->∀b∈fp,lP X pins H' b:=fun hn b hb=>⟨hn b hb,(f2 b hb).2⟩
 refine codeAny_forLoop_any (fun n s'=>∃i σ' H',Inv X pins σ' H' s'/\tn i s'.heap/\(∀b∈fp,H' b=none)/\W i n σ' H') ?_ m0 ⟨0,σ,H2,I2,st2,fun b hb=>(f2 b hb).1,w0⟩
 rintro n s3 ⟨i,σ3,H3,I3,st3,fr3,w3⟩
 rcases turn i n σ3 H3 w3 with⟨stop,qn⟩ | ⟨go,N,hN,step⟩
 ·refine wpAny_passesOwn hp (bK (T.done X rfl rfl rfl hc i pins s3 σ3 H3 X.xe I3 (stat fr3) st3 stop) fun r s4 ⟨hr,I4⟩=>?_)
  subst hr;exact wpAny_execs_nil ⟨σ3,H3,I4,qn⟩
 ·refine wpAny_passesOwn hp (bK (T.item X rfl rfl rfl hc i pins s3 σ3 H3 X.xe I3 (stat fr3) st3 go) fun r s4 ⟨u,hr,h4⟩=>?_)
  subst hr;refine wpAny_passesOwn hp (bK h4 fun _ s5 ⟨x,H5,I5,r5,y5,st5,fr5⟩=>?_)
  have I5':=I5.pinned (stat fr5) (T.obj _ _ st5)
  refine wpAny_passesOwn hp (bK (hg _ s5 σ3 H5 x u _ I5' r5 (step x H5 y5)) fun _ s6 ⟨σ6,H6,I6,q6⟩=>?_)
  refine wpAny_passesOwn hp (bK (hb _ s6 σ6 H6 _ I6 q6) fun f s7 q7=>?_)
  have again:∀ {σ7:St} {H7:Hp},Inv X (pins++oM fp s5.heap) σ7 H7 s7->N σ7 H7->∃m,m<n/\∃i σ' H',Inv X pins σ' H' s7/\tn i s7.heap/\(∀b∈fp,H' b=none)/\W i m σ' H':=fun {σ7 H7} I7 n7=>by
   obtain⟨m',hm,w7⟩:=hN σ7 H7 n7
   refine⟨m',hm,i+1,σ7,H7,I7.unpinned,T.keep _ _ _ st5 fun b hb o e=>(I7.pin (b,o) (List.mem_append_right _ (List.mem_append_right _ (gW hb e)))).1,fun b hb=>?_,w7⟩
   obtain⟨o,e,d⟩:=T.obj _ _ st5 b hb
   exact(I7.pin (b,o) (List.mem_append_right _ (List.mem_append_right _ (gW hb e)))).2.1
  cases f with
  | next=>obtain⟨σ7,H7,I7,n7⟩:=q7;exact again I7 n7
  | cont=>obtain⟨σ7,H7,I7,n7⟩:=q7;exact again I7 n7
  | brk=>obtain⟨σ7,H7,I7,q7⟩:=q7;exact⟨σ7,H7,I7.unpinned,q7⟩
  | ret v=>obtain⟨x7,σ7,H7,I7,r7,q7⟩:=q7;exact⟨x7,σ7,H7,I7.unpinned,r7,q7⟩
end
end L2
namespace L2
open PySem PySem.Spec PyProof.Rows
abbrev R2:=V->V->Hp->VK->Prop
def OpR (X:Cx) (f:Value->Value->Sem Value) (r:R2):Prop:=
 ∀(pins:List (Addr × Obj)) (s:Shared) (σ:St) (H:Hp) (x y:V) (v u:Value) (Q:VK),Inv X pins σ H s->RelV x v->RelV y u->r x y H Q →
  wpAny (model X.prog X.w) X.A (f v u) (EP X pins σ Q) X.xe s
def UnR (X:Cx) (f:Value->Sem Value) (r:V->Hp->VK->Prop):Prop:=
 ∀(pins:List (Addr × Obj)) (s:Shared) (σ:St) (H:Hp) (x:V) (v:Value) (Q:VK),Inv X pins σ H s->RelV x v->r x H Q →
  wpAny (model X.prog X.w) X.A (f v) (EP X pins σ Q) X.xe s
def CallR (X:Cx) (f:Value) (r:List V->Hp->VK->Prop):Prop:=
 ∀(pins:List (Addr × Obj)) (s:Shared) (σ:St) (H:Hp) (xs:List V) (us:List Value) (Q:VK),Inv X pins σ H s->Vals xs us->r xs H Q →
  wpAny (model X.prog X.w) X.A (call f us) (EP X pins σ Q) X.xe s
def Dq (r:R2) (ta tb:TE):TE:=fun σ H Q=>ta σ H fun x H1=>tb σ H1 fun y H2=>r x y H2 Q
def Wv (r:V->Hp->VK->Prop) (ta:TE):TE:=fun σ H Q=>ta σ H fun x H1=>r x H1 Q
def rI (C:Int->Int->Prop) (g:Int->Int->V):R2:=fun x y H Q=>∃i j,x=.int i/\y=.int j/\C i j/\Q (g i j) H
def Jq (g:Int->Int->V):R2:=fun x y H Q=>∃i j,x=.int i/\y=.int j/\Q (g i j) H
def rU (g:Int->V):V->Hp->VK->Prop:=fun x H Q=>∃i,x=.int i/\Q (g i) H
section
variable {X:Cx} {a b c:Expr} {ta tb tc:TE} {pos:Pos}
theorem Pq (ha:PE X a ta) (hb:PE X b tb) {pins:List (Addr × Obj)} {s:Shared} {σ:St} {H:Hp} {R:V->V->Hp->Prop} (I:Inv X pins σ H s)
  (h:ta σ H fun x H1=>tb σ H1 fun y H2=>R x y H2) {Q:Value->Shared->Prop} {f:Value->Value->Sem Value}
  (hf:∀v u s2 x y H2,Inv X pins σ H2 s2->RelV x v->RelV y u->R x y H2->wpAny (model X.prog X.w) X.A (f v u) Q X.xe s2) :
  wpAny (model X.prog X.w) X.A (eval a X.env) (fun v s₁=>wpAny (model X.prog X.w) X.A (eval b X.env) (fun u s₂=>wpAny (model X.prog X.w) X.A (f v u) Q X.xe s₂) X.xe s₁) X.xe s:=by
 refine bK (ha pins s σ H _ I h) fun v s1 ⟨x,H1,I1,r1,q1⟩=>?_
 refine bK (hb pins s1 σ H1 _ I1 q1) fun u s2 ⟨y,H2,I2,r2,q2⟩=>?_
 exact hf v u s2 x y H2 I2 r1 r2 q2
theorem Tv {op:Operator} {r:R2} (ho:OpR X (binaryOp op) r) (ha:PE X a ta) (hb:PE X b tb):PE X (.BinOp a op b pos) (Dq r ta tb):=by
 intro pins s σ H Q I h;exact wpAny_BinOp (Pq ha hb I h fun v u s2 x y H2 I2 rx ry q=>ho pins s2 σ H2 x y v u Q I2 rx ry q)
theorem Tw {op:UnaryOp} {r:V->Hp->VK->Prop} (ho:UnR X (unaryOp op) r) (ha:PE X a ta):PE X (.UnaryOp op a pos) (Wv r ta):=by
 intro pins s σ H Q I h;exact UnaryOp_ (bK (ha pins s σ H _ I h) fun v s1 ⟨x,H1,I1,r1,q1⟩=>ho pins s1 σ H1 x v Q I1 r1 q1)
theorem Wj {f:Value->Value->Sem Value} {C:Int->Int->Prop} {g:Int->Int->Int}
  (rule:∀(i j:Int) (t u:Tok) (s:Shared) (Q:Value->Shared->Prop) (E:Value->Shared->Prop),C i j->Q (.int (g i j) s.toks) {s with toks:=s.toks+1 }->wpAny (model X.prog X.w) X.A (f (.int i t) (.int j u)) Q E s) :
  OpR X f (rI C fun i j=>.int (g i j)):=by
 intro pins s σ H x y v u Q I rx ry h;obtain⟨i,j,rfl,rfl,hc,q⟩:=h
 obtain⟨t,rfl⟩:=rx
 obtain⟨t',rfl⟩:=ry
 exact rule i j t t' s _ _ hc ⟨.int (g i j),H,I.tok _,⟨_,rfl⟩,q⟩
theorem Tx {f:Value->Value->Sem Value} {g:Int->Int->Int}
  (rule:∀(i j:Int) (t u:Tok) (s:Shared) (Q:Value->Shared->Prop) (E:Value->Shared->Prop),Q (.int (g i j) s.toks) {s with toks:=s.toks+1 }->wpAny (model X.prog X.w) X.A (f (.int i t) (.int j u)) Q E s) :
  OpR X f (Jq fun i j=>.int (g i j)):=by
 intro pins s σ H x y v u Q I rx ry h;obtain⟨i,j,rfl,rfl,q⟩:=h
 obtain⟨t,rfl⟩:=rx
 obtain⟨t',rfl⟩:=ry
 exact rule i j t t' s _ _ ⟨.int (g i j),H,I.tok _,⟨_,rfl⟩,q⟩
theorem Jr {f:Value->Value->Sem Value} {g:Int->Int->Bool}
  (rule:∀(i j:Int) (t u:Tok) (s:Shared) (Q:Value->Shared->Prop) (E:Value->Shared->Prop),Q (.bool (g i j)) s->wpAny (model X.prog X.w) X.A (f (.int i t) (.int j u)) Q E s) :
  OpR X f (Jq fun i j=>.bl (g i j)):=by
 intro pins s σ H x y v u Q I rx ry h;obtain⟨i,j,rfl,rfl,q⟩:=h
 obtain⟨t,rfl⟩:=rx
 obtain⟨t',rfl⟩:=ry
 exact rule i j t t' s _ _ ⟨.bl (g i j),H,I,rfl,q⟩
def Pr (i j:Int):Prop:=0<=j/\j<=1000000/\i.natAbs<2 ^ 64
def CMul (i j:Int):Prop:=(-(2 ^ 64)<i/\i<2 ^ 64)∨(-(2 ^ 64)<j/\j<2 ^ 64)
theorem CMul.ok {i j:Int} (h:CMul i j):IntMulOk i j:=by
 rcases h with⟨h1,h2⟩ | ⟨h1,h2⟩
 ·exact .of_left (intBits_le_64 h1 h2)
 ·exact .of_right (intBits_le_64 h1 h2)
theorem Ps:OpR X (binaryOp .Add) (Jq fun i j=>.int (i+j)):=Tx fun _ _ _ _ _ _ _ q=>add_int q
theorem Pu:OpR X (binaryOp .Sub) (Jq fun i j=>.int (i - j)):=Tx fun _ _ _ _ _ _ _ q=>sub_int q
theorem Pw:OpR X (binaryOp .Mult) (rI CMul fun i j=>.int (i*j)):=Wj fun _ _ _ _ _ _ _ hc q=>mul_int q hc.ok
theorem Px:OpR X (binaryOp .Mod) (rI (fun _ j=>0<j) fun i j=>.int (i % j)):=Wj fun i j _ _ _ _ _ hc q=>by
 have h1:(0:Int)<j:=hc
 exact mod_int' Zo (by rw[Int.fmod_eq_emod_of_nonneg i Zo];exact q)
theorem Py:OpR X (binaryOp .Pow) (rI Pr fun i j=>.int (i ^ j.toNat)):=Wj fun _ _ _ _ _ _ _ hc q=>pow_int_small hc.1 hc.2.1 hc.2.2 q
theorem Yl {f:Value->Sem Value} {g:Int->Int}
  (rule:∀(i:Int) (t:Tok) (s:Shared) (Q:Value->Shared->Prop) (E:Value->Shared->Prop),Q (.int (g i) s.toks) {s with toks:=s.toks+1 }->wpAny (model X.prog X.w) X.A (f (.int i t)) Q E s) :
  UnR X f (rU fun i=>.int (g i)):=by
 intro pins s σ H x v Q I rx h;obtain⟨i,rfl,q⟩:=h
 obtain⟨t,rfl⟩:=rx
 exact rule i t s _ _ ⟨.int (g i),H,I.tok _,⟨_,rfl⟩,q⟩
theorem Pz:UnR X (unaryOp .USub) (rU fun i=>.int (-i)):=Yl fun _ _ _ _ _ q=>neg_int q
end
def scal:V->V->Bool
 | .non,.non=>true | .non,.int _=>true | .int _,.non=>true | .non,.bl _=>true | .bl _,.non=>true | .non,.str _=>true | .str _,.non=>true
 | .int _,.int _=>true | .bl _,.bl _=>true | .str _,.str _=>true | .byt _,.byt _=>true
 | .int _,.str _=>true | .str _,.int _=>true | .bl _,.str _=>true | .str _,.bl _=>true
 | _,_=>false
def Yg:R2:=fun x y H Q=>scal x y=true/\Q (.bl (decide (x=y))) H
def Yh:R2:=fun x y H Q=>scal x y=true/\Q (.bl (!decide (x=y))) H
theorem yN {i j:Int}:decide (V.int i=V.int j)=(i == j):=by
 rw[Bool.eq_iff_iff];simp
theorem Dr {i j:Bool}:decide (V.bl i=V.bl j)=(i == j):=by
 rw[Bool.eq_iff_iff];simp
theorem yO {i j:Str}:decide (V.str i=V.str j)=(i == j):=by
 rw[Bool.eq_iff_iff];simp
theorem yP {i j:Array UInt8}:decide (V.byt i=V.byt j)=(i.toList == j.toList):=by
 rw[Bool.eq_iff_iff];cases i
 cases j
 simp
section
variable {X:Cx} {a b c:Expr} {ta tb tc:TE} {pos:Pos}
theorem aT {pins:List (Addr × Obj)} {σ:St} {H:Hp} {s:Shared} {Q:VK} {k k':Bool} (I:Inv X pins σ H s) (q:Q (.bl k) H) (e:k=k'):EP X pins σ Q (.bool k') s:=by
 subst e;exact⟨.bl k,H,I,rfl,q⟩
theorem Nd:OpR X (compareOp .Eq) Yg:=by
 intro pins s σ H x y v u Q I rx ry h;obtain⟨hs,q⟩:=h
 cases x with
 | non=>
  cases rx
  cases y with
  | non=>cases ry;exact PySem.EqNone.eq_none_none (aT I q Zs)
  | bl j=>cases ry;exact PySem.EqNone.eq_none_bool (aT I q Zs)
  | int j=>obtain⟨t',rfl⟩:=ry;exact PySem.EqNone.eq_none_int (aT I q Zs)
  | str j=>obtain⟨t',rfl⟩:=ry;exact PySem.EqNone.eq_none_str (aT I q Zs)
  | _=>exact absurd (show false=true from hs) Bool.false_ne_true
 | bl i=>
  cases rx
  cases y with
  | non=>cases ry;exact PySem.EqNone.eq_bool_none (aT I q Zs)
  | bl j=>cases ry;exact eq_bool (aT I q Dr)
  | str j=>obtain⟨t',rfl⟩:=ry;exact PySem.EqMixed.eq_bool_str (aT I q Zs)
  | _=>exact absurd (show false=true from hs) Bool.false_ne_true
 | int i=>
  obtain⟨t,rfl⟩:=rx
  cases y with
  | non=>cases ry;exact PySem.EqNone.eq_int_none (aT I q Zs)
  | int j=>obtain⟨t',rfl⟩:=ry;exact eq_int (aT I q yN)
  | str j=>obtain⟨t',rfl⟩:=ry;exact PySem.EqMixed.eq_int_str (aT I q Zs)
  | _=>exact absurd (show false=true from hs) Bool.false_ne_true
 | str i=>
  obtain⟨t,rfl⟩:=rx
  cases y with
  | non=>cases ry;exact PySem.EqNone.eq_str_none (aT I q Zs)
  | bl j=>cases ry;exact PySem.EqMixed.eq_str_bool (aT I q Zs)
  | int j=>obtain⟨t',rfl⟩:=ry;exact PySem.EqMixed.eq_str_int (aT I q Zs)
  | str j=>obtain⟨t',rfl⟩:=ry;exact eq_str (aT I q yO)
  | _=>exact absurd (show false=true from hs) Bool.false_ne_true
 | byt i=>
  obtain⟨t,rfl⟩:=rx
  cases y with
  | byt j=>obtain⟨t',rfl⟩:=ry;exact W.eq_bytes (aT I q yP)
  | _=>exact absurd (show false=true from hs) Bool.false_ne_true
 | _=>cases y <;> exact absurd (show false=true from hs) Bool.false_ne_true
theorem Nf:OpR X (compareOp .NotEq) Yh:=by
 intro pins s σ H x y v u Q I rx ry h;obtain⟨hs,q⟩:=h
 cases x with
 | non=>
  cases rx
  cases y with
  | non=>cases ry;exact PySem.EqNone.ne_none_none (aT I q Zs)
  | bl j=>cases ry;exact PySem.EqNone.ne_none_bool (aT I q Zs)
  | int j=>obtain⟨t',rfl⟩:=ry;exact PySem.EqNone.ne_none_int (aT I q Zs)
  | str j=>obtain⟨t',rfl⟩:=ry;exact PySem.EqNone.ne_none_str (aT I q Zs)
  | _=>exact absurd (show false=true from hs) Bool.false_ne_true
 | bl i=>
  cases rx
  cases y with
  | non=>cases ry;exact PySem.EqNone.ne_bool_none (aT I q Zs)
  | bl j=>cases ry;exact ne_bool (aT I q (congrArg not Dr))
  | str j=>obtain⟨t',rfl⟩:=ry;exact PySem.EqMixed.ne_bool_str (aT I q Zs)
  | _=>exact absurd (show false=true from hs) Bool.false_ne_true
 | int i=>
  obtain⟨t,rfl⟩:=rx
  cases y with
  | non=>cases ry;exact PySem.EqNone.ne_int_none (aT I q Zs)
  | int j=>obtain⟨t',rfl⟩:=ry;exact ne_int (aT I q (congrArg not yN))
  | str j=>obtain⟨t',rfl⟩:=ry;exact PySem.EqMixed.ne_int_str (aT I q Zs)
  | _=>exact absurd (show false=true from hs) Bool.false_ne_true
 | str i=>
  obtain⟨t,rfl⟩:=rx
  cases y with
  | non=>cases ry;exact PySem.EqNone.ne_str_none (aT I q Zs)
  | bl j=>cases ry;exact PySem.EqMixed.ne_str_bool (aT I q Zs)
  | int j=>obtain⟨t',rfl⟩:=ry;exact PySem.EqMixed.ne_str_int (aT I q Zs)
  | str j=>obtain⟨t',rfl⟩:=ry;exact ne_str (aT I q (congrArg not yO))
  | _=>exact absurd (show false=true from hs) Bool.false_ne_true
 | byt i=>
  obtain⟨t,rfl⟩:=rx
  cases y with
  | byt j=>obtain⟨t',rfl⟩:=ry;exact W.ne_bytes (aT I q (congrArg not yP))
  | _=>exact absurd (show false=true from hs) Bool.false_ne_true
 | _=>cases y <;> exact absurd (show false=true from hs) Bool.false_ne_true
theorem Ty:OpR X (compareOp .Lt) (Jq fun i j=>.bl (decide (i<j))):=Jr fun _ _ _ _ _ _ _ q=>lt_int q
theorem Tz:OpR X (compareOp .LtE) (Jq fun i j=>.bl (decide (i<=j))):=Jr fun _ _ _ _ _ _ _ q=>le_int q
theorem Ua:OpR X (compareOp .Gt) (Jq fun i j=>.bl (decide (j<i))):=Jr fun _ _ _ _ _ _ _ q=>gt_int q
theorem Ub:OpR X (compareOp .GtE) (Jq fun i j=>.bl (decide (j<=i))):=Jr fun _ _ _ _ _ _ _ q=>ge_int q
theorem Ay:OpR X (compareOp .In) (fun x y H Q=>∃i j,x=.str i/\y=.str j/\Q (.bl (!(Builtin.Str.occurrences j i 0 j.length 1).isEmpty)) H):=by
 intro pins s σ H x y v u Q I rx ry h;obtain⟨i,j,rfl,rfl,q⟩:=h
 obtain⟨t,rfl⟩:=rx
 obtain⟨t',rfl⟩:=ry
 exact in_str (aT I q rfl)
theorem Qa:OpR X (compareOp .Is) (fun x y H Q=>y=.non/\Q (.bl (decide (x=.non))) H):=by
 intro pins s σ H x y v u Q I rx ry h;obtain⟨rfl,q⟩:=h
 cases ry
 refine is_none_gen (aT I q ?_)
 cases x <;> first
  | (cases rx;rfl)
  | (obtain⟨t,rfl⟩:=rx;rfl)
theorem Js:OpR X (compareOp .IsNot) (fun x y H Q=>y=.non/\Q (.bl (!decide (x=.non))) H):=by
 intro pins s σ H x y v u Q I rx ry h;obtain⟨rfl,q⟩:=h
 cases ry
 refine isnot_none_gen (aT I q ?_)
 cases x <;> first
  | (cases rx;rfl)
  | (obtain⟨t,rfl⟩:=rx;rfl)
theorem rP (b:Expr) {op:CmpOp} (h:op≠.In:=by decide) (h2:op≠.NotIn:=by decide):behindInMarks op b=false:=by
 have e1:(op == CmpOp.In)=false:=by cases op <;> first | rfl | exact absurd rfl h
 have e2:(op == CmpOp.NotIn)=false:=by cases op <;> first | rfl | exact absurd rfl h2
 cases b <;> simp [behindInMarks,e1,e2]
theorem Jt {op:CmpOp} {r:R2} (ho:OpR X (compareOp op) r) (ha:PE X a ta) (hb:PE X b tb) (hm:behindInMarks op b=false):PE X (.Compare a [op] [b] pos) (Dq r ta tb):=by
 intro pins s σ H Q I h;exact wpAny_Compare1 (Pq ha hb I h fun v u s2 x y H2 I2 rx ry q=>ho pins s2 σ H2 x y v u Q I2 rx ry q) hm
def yQ (t:TE):TT:=fun σ H Q=>t σ H fun x H'=>∃k,x=.bl k/\Q k H'
theorem Ju {op:CmpOp} {r:R2} (ho:OpR X (compareOp op) r) (ha:PE X a ta) (hb:PE X b tb) (hm:behindInMarks op b=false):PT X (.Compare a [op] [b] pos) (yQ (Dq r ta tb)):=by
 intro pins s σ H Q I h;refine wpAny_isTrue_Compare1 (bK (ha pins s σ H _ I h) fun v s1 ⟨x,H1,I1,r1,q1⟩=>bK (hb pins s1 σ H1 _ I1 q1) fun u s2 ⟨y,H2,I2,r2,q2⟩=>
  bK (ho pins s2 σ H2 x y v u _ I2 r1 r2 q2) fun c s3 ⟨z,H3,I3,r3,k,e,q3⟩=>?_) hm
 subst e;cases r3
 exact wpAny_truthy_bool ⟨H3,I3,q3⟩
def rQ (r r':R2) (ta tb tc:TE):TE:=fun σ H Q=>ta σ H fun x H1=>tb σ H1 fun y H2=>r x y H2 fun z H3=>∃k,z=.bl k ∧
 (if k=true then tc σ H3 fun w' H4=>r' y w' H4 Q else Q (.bl false) H3)
theorem Ds {op op':CmpOp} {r r':R2} (ho:OpR X (compareOp op) r) (ho':OpR X (compareOp op') r') (ha:PE X a ta) (hb:PE X b tb) (hc:PE X c tc)
  (hm:lastMarks [op,op'] [b,c]=false:=by with_unfolding_all rfl):PE X (.Compare a [op,op'] [b,c] pos) (rQ r r' ta tb tc):=by
 intro pins s σ H Q I h;refine Compare_chain (bK (ha pins s σ H _ I h) fun v s1 ⟨x,H1,I1,r1,q1⟩=>chain_link (bK (hb pins s1 σ H1 _ I1 q1) fun u s2 ⟨y,H2,I2,r2,q2⟩=>
  bK (ho pins s2 σ H2 x y v u _ I2 r1 r2 q2) fun d s3 ⟨z,H3,I3,r3,k,e,q3⟩=>?_)) hm
 subst e;cases r3
 refine wpAny_truthy_bool ?_
 cases k with
 | false=>exact ite_ff ⟨.bl false,H3,I3,rfl,q3⟩
 | true=>exact ite_tt (chain_last (bK (hc pins s3 σ H3 _ I3 q3) fun w' s4 ⟨z',H4,I4,r4,q4⟩=>ho' pins s4 σ H4 y z' u w' Q I4 r2 r4 q4))
theorem Dt {op op':CmpOp} {r r':R2} (ho:OpR X (compareOp op) r) (ho':OpR X (compareOp op') r') (ha:PE X a ta) (hb:PE X b tb) (hc:PE X c tc)
  (hm:lastMarks [op,op'] [b,c]=false:=by with_unfolding_all rfl):PT X (.Compare a [op,op'] [b,c] pos) (yQ (rQ r r' ta tb tc)):=by
 intro pins s σ H Q I h;refine isTrue_chain (bK (ha pins s σ H _ I h) fun v s1 ⟨x,H1,I1,r1,q1⟩=>test_link (bK (hb pins s1 σ H1 _ I1 q1) fun u s2 ⟨y,H2,I2,r2,q2⟩=>
  bK (ho pins s2 σ H2 x y v u _ I2 r1 r2 q2) fun d s3 ⟨z,H3,I3,r3,k,e,q3⟩=>?_)) hm
 subst e;cases r3
 refine wpAny_truthy_bool ?_
 cases k with
 | false=>
  obtain⟨k',e',q'⟩:=q3
  cases e'
  exact ite_ff ⟨H3,I3,q'⟩
 | true=>
  refine ite_tt (test_last (bK (hc pins s3 σ H3 _ I3 q3) fun w' s4 ⟨z',H4,I4,r4,q4⟩=>bK (ho' pins s4 σ H4 y z' u w' _ I4 r2 r4 q4) fun d' s5 ⟨z2,H5,I5,r5,k2,e2,q5⟩=>?_))
  subst e2;cases r5
  exact wpAny_truthy_bool ⟨H5,I5,q5⟩
theorem lQ:(sizeLine:Nat)<2 ^ 63:=by rw[sizeLine_eq];decide
theorem wK:OpR X (binaryOp .Add) (fun x y H Q=>∃i j,x=.str i/\y=.str j/\i.length+j.length<=sizeLine/\Q (.str (i++j)) H):=by
 intro pins s σ H x y v u Q I rx ry h;obtain⟨i,j,rfl,rfl,hz,q⟩:=h
 obtain⟨t,rfl⟩:=rx
 obtain⟨t',rfl⟩:=ry
 exact add_str (fun t' tk=>⟨.str (i++j),H,I.tok _,⟨_,rfl⟩,q⟩) hz
theorem fG {x:V} {us:List Value} (r:Vals [x] us):∃u,us=[u]/\RelV x u:=by
 cases r with
 | cons r1 r2=>cases r2;exact⟨_,rfl,r1⟩
theorem rR:CallR X (.type "str") (fun xs H Q=>∃i,xs=[.int i]/\i.natAbs.log2<1920/\Q (.str (toString i)) H):=by
 intro pins s σ H xs us Q I r h;obtain⟨i,rfl,hz,q⟩:=h
 obtain⟨u,rfl,t,rfl⟩:=fG r
 exact PySem.P.str_of_int hz ⟨.str _,H,I.tok _,⟨_,rfl⟩,q⟩
end
end L2
namespace L2
open PySem PySem.Spec PyProof.Rows
structure ObjM (h:Heap) (x dx C:Addr) (mA:Str->Option Value):Prop where
 obj:h.get? x=some (W.instObj C dx)
 ns:h.Ns1 dx mA
 ne:dx≠x
theorem Az {h:Heap} {dx:Addr} {mA:Str->Option Value} (n:h.Ns1 dx mA):∃od,h.get? dx=some od/\∀name,W.lookIn name od=some (mA name):=by
 obtain⟨o,es,ep,ho,hd,hk,_,hm⟩:=n
 refine⟨o,ho,fun name=>?_⟩
 have e:=hm name
 unfold nsFind findBy at e;rw[<- Array.find?_toList]at e;unfold W.lookIn;rw[hd];dsimp only;split
 ·rename_i y q
  rw[q]at e;exact congrArg some e
 ·rename_i q
  rw[q]at e;have a:es.toList.any (·.refKey)=false:=by
   rw[List.any_eq_false];intro y hy;obtain⟨z,t,hkey⟩:=hk y (Array.mem_toList_iff.mp hy)
   simp [DictEntry.refKey,hkey]
  have a':¬ es.toList.any (·.refKey)=true:=by rw[a];exact Bool.false_ne_true
  rw[if_neg a'];exact congrArg some e
theorem ObjM.look {h:Heap} {x dx C:Addr} {mA:Str->Option Value} (I:ObjM h x dx C mA):∃od,W.InstAt h x (W.instObj C dx) C (some od)/\∀name,W.lookIn name od=some (mA name):=
 let ⟨od,ho,hl⟩:=Az I.ns
 ⟨od,⟨I.obj,rfl,rfl,ho⟩,hl⟩
section
variable {prog:Program} {w:World} {A:Around} {E:Value->Shared->Prop} {s:Shared} {K:W.Frag} {x dx C f:Addr} {mA:Str->Option Value} {name:Str} {v:Value}
theorem Jv {expr:Bool} {Q:Value->Shared->Prop} (X:K.In s.heap) (I:ObjM s.heap x dx C mA) (hg:W.plainGet K C name=true) (hh:W.hasDictIn K C=true)
  (ha:W.findIn K (.ref C) name=some none) (hv:mA name=some v) (hv':W.handedIn v=true) (h:Q v {s with toks:=s.toks+1 }) :
  wpAny (model prog w) A (getAttr (.ref x) name expr) Q E s:=by
 obtain⟨od,J,hl⟩:=I.look
 exact W.get_value X J (W.plainGet_of hg).1 (W.findObj_own hh ha rfl (by rw[hl,hv])) hv' h
theorem Du {pl:Sem Bool} {Q:Value × List Value->Shared->Prop} (X:K.In s.heap) (I:ObjM s.heap x dx C mA) (hg:W.plainGet K C name=true)
  (hf:W.findIn K (.ref C) name=some (some (.ref f))) (ht:W.isFn K (.ref f)=true) (hv:mA name=none) (h:Q (.ref f,[.ref x]) s) :
  wpAny (model prog w) A (getMethod (.ref x) name pl) Q E s:=by
 obtain⟨od,J,hl⟩:=I.look
 exact W.method_fn X J (W.plainGet_of hg).1 (W.plainGet_of hg).2 hf (beq_iff_eq.mp ht) (by show(W.lookIn name od).map (·.isSome)=some false;rw[hl,hv];rfl) h
theorem Jw {ns:List Str} {Q:Unit->Shared->Prop} (X:K.In s.heap) (I:ObjM s.heap x dx C mA)
  (hs:W.findIn K (.ref C) "__setattr__"=some (some (.builtin "object.__setattr__"))) (hp:W.plainOver K C=true) (ht:W.takerIn K C name=some none) (hh:W.hasDictIn K C=true)
  (hw:PySem.Within mA ns) (hsz:ns.length<=sizeLine)
  (h:∀h',ObjM h' x dx C (fun y=>if y=name then some v else mA y)->Heap.SameBut dx s.heap h'->Q () {s with heap:=h',toks:=s.toks+2 }) :
  wpAny (model prog w) A (setAttr (.ref x) name v) Q E s:=by
 obtain⟨od,J,hl⟩:=I.look
 refine W.set_plain X J hs (W.osa_open (s:={s with toks:=s.toks+1 }) (r:=none) X J hp ht fun b=>?_)
 obtain⟨cd,hc,hd'⟩:=W.any_some hh
 have hx:s.heap.get? x=some ⟨.ref C,some dx,.plain,#[]⟩:=I.obj
 refine wpAny_bind (wpAny_pure (wpAny_bind (wpAny_bind (wpAny_loadPart hx (wpAny_bind (W.Looks.here (s:={s with toks:=s.toks+1 }) (W.looks_clsIn X hc) ?_))))))
 rw[hd'];refine wpAny_pure (a:=some dx) (wpAny_bind (wpAny_pure (wpAny_bind ?_)))
 refine wpAny_nsSet1 (s:={s with toks:=s.toks+1 }) I.ns fun h' hn2 hs2=>?_
 obtain⟨oD,esD,epD,hoD,hdD,hcD⟩:=hn2.count (PySem.Within.cons name v hw)
 refine wpAny_bind (wpAny_lookBehind hoD (by rw[hdD];exact pastItsLine_dict (fU hcD (by rw[wG];omega))) ?_)
 exact wpAny_pure (h _ ⟨(hs2.2 _ (Ne.symm I.ne)).trans I.obj,hn2,I.ne⟩ hs2)
theorem Dv {R:Result->Shared->Prop} {vs:List Value} {kw:List (Str × Value)} (X:K.In s.heap) (hm:W.makesIn K C=true)
  (hi:W.findIn K (.ref C) "__init__"=some (some (.ref f))) (hf:W.typeIn K (.ref f)=some (.type "function"))
  (h:codeAny (model prog w) (A.under (.builtin "type.__call__" ⟨.ref C::vs,kw⟩)) (.call (.ref f) ⟨.ref (s.heap.objs.size+1)::vs,kw⟩) (W.InitBack (s.heap.objs.size+1) R)
   {s with heap:=(s.heap.push W.emptyDict).push (W.instObj C s.heap.objs.size) }) :
  codeAny (model prog w) A (.call (.ref C) ⟨vs,kw⟩) R s:=by
 obtain⟨hh,g,d,t,os⟩:=s
 exact W.make_core (W.makes_of X hm) (W.looks_findIn X hi) (fun self=>W.bind_fn X self hf) (.inl rfl) h
end
def bG (f:Str) (v:V):List (Str × V)->List (Str × V)
 | []=>[(f,v)]
 | (g,x)::r=>if g=f then (g,v)::r else (g,x)::bG f v r
theorem mW (f g:Str) (v:V):∀fs:List (Str × V),(bG f v fs).lookup g=if g=f then some v else fs.lookup g
 | []=>by
  show List.lookup g [(f,v)]=_
  by_cases h:g=f
  ·have hb:(g == f)=true:=beq_iff_eq.mpr h
   simp only [List.lookup,hb,if_pos h]
  ·have hb:(g == f)=false:=beq_eq_false_iff_ne.mpr h
   simp only [List.lookup,hb,if_neg h]
 | (k,x)::r=>by
  have ih:=mW f g v r
  rw[show bG f v ((k,x)::r)=(if k=f then (k,v)::r else (k,x)::bG f v r) from rfl];by_cases hk:k=f
  ·rw[if_pos hk];by_cases h:g=k
   ·have hb:(g == k)=true:=beq_iff_eq.mpr h
    simp only [List.lookup,hb,if_pos (h.trans hk)]
   ·have hb:(g == k)=false:=beq_eq_false_iff_ne.mpr h
    simp only [List.lookup,hb,if_neg (fun e:g=f=>h (e.trans hk.symm))]
  ·rw[if_neg hk];by_cases h:g=k
   ·have hb:(g == k)=true:=beq_iff_eq.mpr h
    simp only [List.lookup,hb,if_neg (fun e:g=f=>hk (h.symm.trans e))]
   ·have hb:(g == k)=false:=beq_eq_false_iff_ne.mpr h
    simp only [List.lookup,hb]
    exact ih
theorem lR (f:Str) (v:V):∀fs:List (Str × V),f∈(bG f v fs).map (·.1)/\∀g,g∈fs.map (·.1)->g∈(bG f v fs).map (·.1)
 | []=>⟨by simp [bG],fun g h=>by simp at h⟩
 | (k,x)::r=>by
  obtain⟨i1,i2⟩:=lR f v r
  rw[show bG f v ((k,x)::r)=(if k=f then (k,v)::r else (k,x)::bG f v r) from rfl];by_cases hk:k=f
  ·rw[if_pos hk];subst hk;exact⟨Zs,fun g h=>by simpa using h⟩
  ·rw[if_neg hk];refine⟨?_,fun g h=>?_⟩
   ·rw[List.map_cons];exact jM _ i1
   ·rw[List.map_cons]at h ⊢;rcases List.mem_cons.mp h with e | e
    ·exact List.mem_cons.mpr (.inl e)
    ·exact jM _ (i2 g e)
theorem mY (f:Str) (v:V):∀fs:List (Str × V),(bG f v fs).length<=fs.length+1
 | []=>by simp [bG]
 | (k,x)::r=>by
  have ih:=mY f v r
  rw[show bG f v ((k,x)::r)=(if k=f then (k,v)::r else (k,x)::bG f v r) from rfl];by_cases hk:k=f
  ·rw[if_pos hk,wG,wG];omega
  ·rw[if_neg hk,wG,wG];omega
theorem RelO.some_of {v:V} {o:Option Value} (r:RelO (some v) o):∃u,o=some u/\RelV v u:=by
 cases o with
 | none=>exact(show False from r).elim
 | some u=>exact⟨u,rfl,r⟩
theorem RelO.none_of {o:Option Value} (r:RelO none o):o=none:=by
 cases o with
 | none=>rfl
 | some u=>exact(show False from r).elim
theorem Ba {v:V} {u:Value} (r:RelV v u):W.handedIn u=true:=by
 cases v with
 | non=>cases (show u=Value.none from r);rfl
 | bl b=>cases (show u=Value.bool b from r);rfl
 | int i=>obtain⟨t,e⟩:=(show ∃t,u=Value.int i t from r);cases e;rfl
 | str x=>obtain⟨t,e⟩:=(show ∃t,u=Value.str x t from r);cases e;rfl
 | byt b=>obtain⟨t,e⟩:=(show ∃t,u=Value.bytes b t from r);cases e;rfl
 | flt b=>obtain⟨t,e⟩:=(show ∃t,u=Value.float b t from r);cases e;rfl
 | ref a=>cases (show u=Value.ref a from r);rfl
 | ty n=>cases (show u=Value.type n from r);rfl
section
variable {P:Program} {w:World} {H H':Hp} {h h':Heap} {a C dx:Addr} {fs fs':List (Str × V)}
theorem oF (hok:HOk P w H h) (e:H a=some (.ins C dx fs)):∃mA,ObjM h a dx C mA/\(∀f,RelO (fs.lookup f) (mA f))/\PySem.Within mA (fs.map (·.1))/\fs.length<=1000/\H dx=some (.own a):=by
 obtain⟨d,z,ne,ob,mA,n,r,q⟩:=(show ObjOk P w H h a (.ins C dx fs) from hok a _ e)
 exact⟨mA,⟨ob,n,ne⟩,r,q,z,d⟩
end
structure Cls (K:W.Frag) (C:Addr):Prop where
 pg:W.plainGet K C Str.empty=true
 hd:W.hasDictIn K C=true
 po:W.plainOver K C=true
 sa:W.findIn K (.ref C) "__setattr__"=some (some (.builtin "object.__setattr__"))
theorem Cls.get {K:W.Frag} {C:Addr} (c:Cls K C) (f:Str):W.plainGet K C f=true:=c.pg
def NoAttr (K:W.Frag) (C:Addr) (f:Str):Prop:=W.findIn K (.ref C) f=some none
theorem NoAttr.taker {K:W.Frag} {C:Addr} {f:Str} (n:NoAttr K C f):W.takerIn K C f=some none:=by
 unfold W.takerIn;rw[show W.findIn K (.ref C) f=some none from n];rfl
structure Dw (K:W.Frag) (C:Addr) (m:Str) (f:Addr):Prop where
 at_:W.findIn K (.ref C) m=some (some (.ref f))
 fn:W.isFn K (.ref f)=true
 kp:W.keepIn K (.ref f)=true
section
variable {X:Cx} {pins:List (Addr × Obj)} {σ:St} {H:Hp} {s:Shared} {a C dx:Addr} {fs:List (Str × V)} {f:Str} {v:V} {A:Around} {E:Value->Shared->Prop}
theorem wM {b:Bool} {Q:Value->Shared->Prop} (I:Inv X pins σ H s) (e:H a=some (.ins C dx fs)) (c:Cls X.K C) (n:NoAttr X.K C f) (l:fs.lookup f=some v)
  (h:∀u s',Inv X pins σ H s'->RelV v u->Q u s'):wpAny (model X.prog X.w) A (getAttr (.ref a) f b) Q E s:=by
 obtain⟨mA,O,r,_,_,_⟩:=oF I.hok e
 obtain⟨u,hu,ru⟩:=RelO.some_of (v:=v) (o:=mA f) (by rw[<- l];exact r f)
 exact Jv I.kIn O (c.get f) c.hd n hu (Ba ru) (h u _ (I.tok _) ru)
theorem jX {m:Str} {g:Addr} {pl:Sem Bool} {Q:Value × List Value->Shared->Prop} (I:Inv X pins σ H s) (e:H a=some (.ins C dx fs)) (c:Cls X.K C) (k:Dw X.K C m g) (l:fs.lookup m=none)
  (h:Q (.ref g,[.ref a]) s):wpAny (model X.prog X.w) A (getMethod (.ref a) m pl) Q E s:=by
 obtain⟨mA,O,r,_,_,_⟩:=oF I.hok e
 have hn:mA m=none:=RelO.none_of (by rw[<- l];exact r m)
 exact Du I.kIn O (c.get m) k.at_ k.fn hn h
theorem wN {y:V} {u:Value} {Q:Unit->Shared->Prop} (I:Inv X pins σ H s) (e:H a=some (.ins C dx fs)) (c:Cls X.K C) (n:NoAttr X.K C f) (hl:fs.length<1000) (ry:RelV y u)
  (h:∀s',Inv X pins σ (aH H a (.ins C dx (bG f y fs))) s'->Q () s'):wpAny (model X.prog X.w) A (setAttr (.ref a) f u) Q E s:=by
 obtain⟨mA,O,r,wi,_,ho⟩:=oF I.hok e
 have hz:(fs.map (·.1)).length<=sizeLine:=by rw[bN,sizeLine_eq];omega
 refine Jw I.kIn O c.sa c.po n.taker c.hd wi hz fun h' O' sb=>h _ ?_
 have hd:∃o,h'.get? dx=some o:=let ⟨o,_,_,e',_⟩:=O'.ns;⟨o,e'⟩
 refine I.write (x:=a) (e:=dx) (by rw[e];exact True.intro) (.inr ho) (fun b q hb z=>(sb.2 b hb).trans z) hd ?_
 refine⟨by rw[aD O.ne];exact ho,?_,O.ne,O'.obj,_,O'.ns,fun g=>?_,fun g hg=>?_⟩
 ·have:=mY f y fs;omega
 ·show RelO ((bG f y fs).lookup g) (if g=f then some u else mA g)
  rw[mW];by_cases q:g=f
  ·rw[if_pos q,if_pos q];exact ry
  ·rw[if_neg q,if_neg q];exact r g
 ·by_cases q:g=f
  ·rw[q];exact(lR f y fs).1
  ·refine(lR f y fs).2 g (wi g fun z=>hg ?_)
   show(if g=f then some u else mA g)=none
   rw[if_neg q];exact z
theorem Inv.made (I:Inv X pins σ H s):Inv X pins σ (aH (aH H s.heap.objs.size (.own (s.heap.objs.size+1))) (s.heap.objs.size+1) (.ins C s.heap.objs.size []))
  {s with heap:=(s.heap.push W.emptyDict).push (W.instObj C s.heap.objs.size) }:=by
 have e1:(s.heap.push W.emptyDict).get? s.heap.objs.size=some W.emptyDict:=Heap.get?_push_size s.heap rfl
 have e2:((s.heap.push W.emptyDict).push (W.instObj C s.heap.objs.size)).get? (s.heap.objs.size+1)=some (W.instObj C s.heap.objs.size):=by
  have:=Heap.get?_push_size (s.heap.push W.emptyDict) (o:=W.instObj C s.heap.objs.size) rfl
  rwa [Heap.size_push]at this
 have e3:(s.heap.push W.emptyDict).Ns s.heap.objs.size (fun _=>none):=⟨W.emptyDict,#[],_,e1,rfl,(fun e he=>absurd he Zs),fun _=>rfl⟩
 have I1:=I.laid (a:=s.heap.objs.size) (o:=.own (s.heap.objs.size+1)) (h':=s.heap.push W.emptyDict) (t':=s.toks) (fun b u q=>iO _ q) (cA _) ⟨_,e1⟩
 refine I1.laid (a:=s.heap.objs.size+1) (o:=.ins C s.heap.objs.size []) (t':=s.toks) (fun b u q=>iO _ q) (Nat.le_of_eq (Heap.size_push _ _)) ?_
 have ne:s.heap.objs.size≠s.heap.objs.size+1:=Nat.ne_of_lt (Nat.lt_succ_self _)
 refine⟨by rw[aD ne,aA],Nat.zero_le _,ne,e2,fun _=>none,(Heap.Ns1.of_empty e3).at fun o q=>iO _ q,fun _=>True.intro,fun y hy=>absurd rfl hy⟩
theorem Jx {prog:Program} {w:World} {env:Env} {e:Expr} {f:Str} {pos:Pos} {s:Shared} {Q:Value->Shared->Prop} (hb:attributeBase e f env (eval e env)=eval e env)
  (h:wpAny (model prog w) A (eval e env) (fun o s₁=>wpAny (model prog w) A (getAttr o f true) Q E s₁) E s):wpAny (model prog w) A (eval (.Attribute e f pos) env) Q E s:=
 Attribute_any_ h (by rw[arm_eval_Attribute,hb])
end
section
variable {X:Cx} {pins:List (Addr × Obj)} {σ:St} {H:Hp} {s:Shared} {A:Around} {E:Value->Shared->Prop} {Q:Value->Shared->Prop} {c:Value} {b:Bool}
inductive kM (K:W.Frag) (H:Hp):V->Value->Prop where
 | non:kM K H .non (.type "NoneType")
 | bl (x:Bool):kM K H (.bl x) (.type "bool")
 | int (i:Int):kM K H (.int i) (.type "int")
 | str (x:Str):kM K H (.str x) (.type "str")
 | flt (x:UInt64):kM K H (.flt x) (.type "float")
 | lst {a:Addr} {xs:List V} (e:H a=some (.lst xs)):kM K H (.ref a) (.type "list")
 | frz {a:Addr} {o:Obj} {xs:List V} (e:H a=some (.frz o (.lst xs))):kM K H (.ref a) (.type "list")
 | tup {a:Addr} {xs:List V} (e:H a=some (.tup xs)):kM K H (.ref a) (.type "tuple")
 | dK {a:Addr} {kvs:List (aZ × V)} (e:H a=some (.dK kvs)):kM K H (.ref a) (.type "dict")
 | dT {a:Addr} {kvs:List (List aZ × V)} (e:H a=some (.dT kvs)):kM K H (.ref a) (.type "dict")
 | ins {a C dx:Addr} {fs:List (Str × V)} (e:H a=some (.ins C dx fs)) (cl:Cls K C) (ha:W.findIn K (.ref C) "__class__"=some (some (.builtin "object.__class__")))
   (hn:W.specialIn K (.builtin "object.__class__") "__get__"=some (some (.builtin "getset_descriptor.__get__"))) (htk:W.takesIn K (.builtin "object.__class__")=some true)
   (hm:W.mroIn K C (.type "object")=some true):kM K H (.ref a) (.ref C)
theorem Bb {x:V} {u t:Value} (I:Inv X pins σ H s) (rx:RelV x u) (ty:kM X.K H x t) (e:W.kitOne X.K t c=some b) (h:∀tk,Q (.bool b) {s with toks:=tk }) :
  wpAny (model X.prog X.w) A (call (.builtin "isinstance") [u,c]) Q E s:=by
 cases ty with
 | non=>cases (show u=Value.none from rx);exact W.kia_one W.kitx_none I.kIn True.intro e (fun z=>nomatch z) h
 | bl y=>cases (show u=Value.bool y from rx);exact W.kia_one W.kitx_bool I.kIn True.intro e (fun z=>nomatch z) h
 | int i=>obtain⟨t,q⟩:=(show ∃t,u=Value.int i t from rx);cases q;exact W.kia_one W.kitx_int I.kIn True.intro e (fun z=>nomatch z) h
 | str y=>obtain⟨t,q⟩:=(show ∃t,u=Value.str y t from rx);cases q;exact W.kia_one W.kitx_str I.kIn True.intro e (fun z=>nomatch z) h
 | flt y=>obtain⟨t,q⟩:=(show ∃t,u=Value.float y t from rx);cases q;exact W.kia_one W.kitx_float I.kIn True.intro e (fun z=>nomatch z) h
 | @lst a xs ea=>
  cases (show u=Value.ref a from rx)
  obtain⟨_,_,n,_,h1⟩:=(show ObjOk X.prog X.w H s.heap a (.lst xs) from I.hok a _ ea)
  exact W.kia_one W.kitx_list I.kIn ⟨_,h1,rfl⟩ e (fun z=>nomatch z) h
 | @frz a ob xs ea=>
  cases (show u=Value.ref a from rx)
  obtain⟨_,_,_,n,_,h1⟩:=(show ObjOk X.prog X.w H s.heap a (.frz ob (.lst xs)) from I.hok a _ ea)
  exact W.kia_one W.kitx_list I.kIn ⟨_,h1,rfl⟩ e (fun z=>nomatch z) h
 | @tup a xs ea=>
  cases (show u=Value.ref a from rx)
  obtain⟨_,_,_,p⟩:=(show ObjOk X.prog X.w H s.heap a (.tup xs) from I.hok a _ ea)
  obtain⟨o,h1,h2,_⟩:=p
  exact W.kia_one W.kitx_tuple I.kIn ⟨o,h1,h2⟩ e (fun z=>nomatch z) h
 | @dK a kvs ea=>
  cases (show u=Value.ref a from rx)
  obtain⟨_,_,vs,_,p⟩:=(show ObjOk X.prog X.w H s.heap a (.dK kvs) from I.hok a _ ea)
  obtain⟨o,es,ep,h1,h2,_⟩:=p
  exact W.kia_one W.kitx_dict I.kIn ⟨o,h1,h2.1⟩ e (fun z=>nomatch z) h
 | @dT a kvs ea=>
  cases (show u=Value.ref a from rx)
  obtain⟨_,_,xs,_,o,es,ep,h1,h2,_⟩:=(show ObjOk X.prog X.w H s.heap a (.dT kvs) from I.hok a _ ea)
  exact W.kia_one W.kitx_dict I.kIn ⟨o,h1,h2.1⟩ e (fun z=>nomatch z) h
 | @ins a C dx fs ea cl ha hn htk hm=>
  cases (show u=Value.ref a from rx)
  obtain⟨mA,O,_⟩:=oF I.hok ea
  obtain⟨od,J,_⟩:=O.look
  exact W.kia_one (W.kitx_own (cl.get _) cl.hd ha hn htk hm) I.kIn J e (fun z=>nomatch z) h
end
end L2
namespace L2
open PySem PySem.Spec PyProof.Rows
structure Room (k:Nat) (A:Around):Prop where
 hd:A.handled=none
 dp:A.depth+3*k+5<recursionLimit
 un:A.units+16*k+200<cLine
theorem Room.mono {j k:Nat} {A:Around} (r:Room k A) (h:j<=k):Room j A:=⟨r.hd,by have:=r.dp;omega,by have:=r.un;omega⟩
theorem Room.deeper {k:Nat} {A:Around} (r:Room (k+1) A) (env:Env):Room k (A.deeper env):=
 ⟨r.hd,by have:=r.dp;show A.depth+1+3*k+5<_;omega,by have:=r.un;show A.units+3+16*k+200<_;omega⟩
theorem wO {A:Around} {C:Addr} {us:List Value} {kw:List (Str × Value)}:(A.under (.builtin "type.__call__" ⟨.ref C::us,kw⟩)).depth=A.depth+1:=by
 first | rfl | simp [Around.under,Code.weight,Code.isCreation,Code.isGuard,Code.isCaller,Code.frames,Code.isFrame,guardIds]
theorem wP {A:Around} {C:Addr} {us:List Value} {kw:List (Str × Value)}:(A.under (.builtin "type.__call__" ⟨.ref C::us,kw⟩)).units=A.units+1:=by
 first | rfl | simp [Around.under,Code.cUnits,Code.frames,Code.isFrame]
theorem Room.make {k:Nat} {A:Around} (r:Room (k+1) A) (C:Addr) (us:List Value) (kw:List (Str × Value)):Room k (A.under (.builtin "type.__call__" ⟨.ref C::us,kw⟩)):=
 ⟨r.hd,by have:=r.dp;rw[wO];omega,by have:=r.un;rw[wP];omega⟩
theorem Room.depth {k:Nat} {A:Around} (r:Room k A):A.depth<recursionLimit:=by have:=r.dp;omega
theorem Room.units {k:Nat} {A:Around} (r:Room k A):A.units+64<cLine:=by have:=r.un;omega
theorem Room.units0 {k:Nat} {A:Around} (r:Room k A):A.units<cLine:=by have:=r.un;omega
def wQ:TA:=fun _ H Q=>Q [] H
def uD (ta:TE) (tr:TA):TA:=fun σ H Q=>ta σ H fun x H1=>tr σ H1 fun xs H2=>Q (x::xs) H2
section
variable {X:Cx} {e:Expr} {es:List Expr} {te:TE} {t:TA} {pos:Pos}
theorem wR:PA X [] wQ:=fun _ _ _ _ H Q I h=>Calls.spliced_nil ⟨[],H,I,.nil,h⟩
theorem rS (ha:PE X e te) (hr:PA X es t) (hs:starEach (e::es) X.env=(false,eval e X.env)::starEach es X.env:=by rfl):PA X (e::es) (uD te t):=by
 intro pos pins s σ H Q I h;rw[hs];show wpAny _ _ (spliced ((false,eval e X.env)::backTo pos (starEach es X.env))) _ _ s
 refine Calls.spliced_cons (bK (ha pins s σ H _ I h) fun u s1 ⟨x,H1,I1,r1,q1⟩=>?_)
 exact bK (hr pos pins s1 σ H1 _ I1 q1) fun us s2 ⟨xs,H2,I2,r2,q2⟩=>⟨x::xs,H2,I2,.cons r1 r2,q2⟩
def Uc (t:TA):TE:=fun σ H Q=>t σ H fun xs H1=>xs.length<=sizeLine/\∀p,H1 p=none->Q (.ref p) (aH H1 p (.tup xs))
def Ud (t:TA):TE:=fun σ H Q=>t σ H fun xs H1=>xs.length<=sizeLine/\∀p,H1 p=none->Q (.ref p) (aH H1 p (.lst xs))
theorem Qb {x1} (h:PA X es t):PE X (.Tuple es x1 pos) (Uc t):=by
 intro pins s σ H Q I hq;refine wpAny_Tuple_spliced (bK (h pos pins s σ H _ I hq) fun us s1 ⟨xs,H1,I1,r,z,q⟩=>⟨by rw[<- r.length];exact z,?_⟩)
 have hf:H1 s1.heap.objs.size=none:=I1.hok.fresh (cA _)
 refine⟨.ref s1.heap.objs.size,aH H1 s1.heap.objs.size (.tup xs),I1.laid (t':=s1.toks) (fun b u e=>iO _ e) (cA _) ?_,rfl,q _ hf⟩
 exact⟨z,us,r,⟨_,Heap.get?_push_size _ rfl,rfl,_,rfl⟩⟩
theorem Qc (h:PA X es t):PE X (.List es pos) (Ud t):=by
 intro pins s σ H Q I hq;refine wpAny_List_spliced (bK (h pos pins s σ H _ I hq) fun us s1 ⟨xs,H1,I1,r,z,q⟩=>⟨by rw[<- r.length];exact z,?_⟩)
 have hf:H1 s1.heap.objs.size=none:=I1.hok.fresh (cA _)
 refine⟨.ref s1.heap.objs.size,aH H1 s1.heap.objs.size (.lst xs),I1.laid (t':=s1.toks) (fun b u e=>iO _ e) (cA _) ?_,rfl,q _ hf⟩
 exact⟨z,us,0,r,Heap.get?_push_size _ rfl⟩
end
abbrev Sp:=List V->Hp->VK->XK->Prop
abbrev Iz:=List Env->Hp->Shared->XK->Value->Shared->Prop
structure Env0 (P:Program) (w:World) (K:W.Frag) (mg:Str->Option Value) (base:Heap) (A:Around) (outer:List Env) (s:Shared) (H:Hp):Prop where
 frames:A.frames=some outer
 mod:Mod K mg base
 bs:∀b o,base.get? b=some o->s.heap.get? b=some o/\H b=none
 bsz:base.objs.size<=s.heap.objs.size
 funs:s.heap.FunFrames base outer
 frf:∀b∈Df outer,H b=none
 hok:HOk P w H s.heap
 bare:AllBare s.gens
def CE (outer:List Env) (P:Program) (w:World) (H:Hp) (s:Shared) (Q:VK) (u:Value) (s':Shared):Prop:=
 ∃v H',s'.os=s.os/\AllBare s'.gens/\Un (Df outer) [] H H' s.heap s'.heap/\HOk P w H' s'.heap/\RelV v u/\Q v H'
def CR (CX:Iz) (outer:List Env) (P:Program) (w:World) (H:Hp) (s:Shared) (Q:VK) (E:XK) (r:Result) (s':Shared):Prop:=
 match r with
 | .ok (.ret u)=>CE outer P w H s Q u s'
 | .ok _=>False
 | .error e=>CX outer H s E e s'
structure iM (P:Program) (w:World) (K:W.Frag) (mg:Str->Option Value) (base:Heap) (CX:Iz) (k:Nat) (f:Addr) (fd:FuncData) (ps:List Str) (sp:Sp):Prop where
 len:∀vs H Q E,sp vs H Q E->vs.length=ps.length
 run:∀(A:Around) (outer:List Env) (s:Shared) (H:Hp) (args:Args) (us:List Value) (vs:List V) (Q:VK) (E:XK),Room k A->Env0 P w K mg base A outer s H->BindsTo s fd args (ps.zip us)->Vals vs us->sp vs H Q E →
  codeAny (model P w) A (.call (.ref f) args) (CR CX outer P w H s Q E) s
theorem Env0.make {P:Program} {w:World} {K:W.Frag} {mg:Str->Option Value} {base:Heap} {A:Around} {outer:List Env} {s:Shared} {H:Hp} (e:Env0 P w K mg base A outer s H) (C:Addr) (us:List Value) (kw:List (Str × Value)) :
  Env0 P w K mg base (A.under (.builtin "type.__call__" ⟨.ref C::us,kw⟩)) outer s H:=⟨by first | exact e.frames | (simpa [Around.under,Code.envs,Code.isFrame,pushEnvs]using e.frames),e.mod,e.bs,e.bsz,e.funs,e.frf,e.hok,e.bare⟩
section
variable {X:Cx} {pins:List (Addr × Obj)} {σ:St} {H:Hp} {s s':Shared}
theorem Inv.env0 (I:Inv X pins σ H s):Env0 X.prog X.w X.K X.mg X.base X.A X.stack s H:=
 ⟨I.ok.frames,I.ok.mod,I.bs,fU I.ok.bsz I.sz,I.stack,I.stkFree,I.hok,I.bare⟩
theorem Inv.after {Q:VK} {u:Value} (I:Inv X pins σ H s) (h:CE X.stack X.prog X.w H s Q u s'):EP X pins σ Q u s':=by
 obtain⟨v,H',os,bare,un,hok,r,q⟩:=h
 obtain⟨hh,g,d,t,os'⟩:=s'
 obtain rfl:os'=s.os:=os
 exact⟨v,H',I.call (h':=hh) (g':=g) (d':=d) (t':=t) (ch:=[]) un hok bare (fun b z=>absurd z Zs),r,q⟩
end
def Ue (sp:Sp) (dvs:List V) (E:XK) (t:TA):TE:=fun σ H Q=>t σ H fun vs H1=>sp (vs++dvs) H1 Q E
def yR (C:Addr) (sp:Sp) (dvs:List V) (E:XK) (t:TA):TE:=fun σ H Q=>t σ H fun vs H1=>∀x dx,H1 x=none->H1 dx=none->dx≠x →
 sp (.ref x::(vs++dvs)) (aH (aH H1 dx (.own x)) x (.ins C dx [])) (fun v H2=>v=.non/\Q (.ref x) H2) E
def Binds (K:W.Frag) (fd:FuncData) (ps:List Str) (ds:List Value):Prop:=
 ∀(s:Shared) (us:List Value),K.In s.heap->(us++ds).length=ps.length->BindsTo s fd ⟨us,[]⟩ (ps.zip (us++ds))
theorem Binds.all {K:W.Frag} {fd:FuncData} {ps:List Str} (h:∀us:List Value,us.length=ps.length->bindArgs fd ⟨us,[]⟩=pure (ps.zip us)):Binds K fd ps []:=fun s us _ hl=>by
 rw[List.append_nil]at hl ⊢;exact .of_eq (h us hl)
def lS (CX:Iz) (X:Cx) (E:XK):Prop:=∀(pins:List (Addr × Obj)) (σ:St) (H:Hp) (s:Shared) (e:Value) (s':Shared),Inv X pins σ H s->CX X.stack H s E e s'->X.xe e s'
section
variable {X:Cx} {CX:Iz} {k:Nat} {f C:Addr} {fd:FuncData} {ps:List Str} {sp:Sp} {dvs:List V} {ds:List Value} {E:XK} {x m:Str} {p pos apos:Pos} {e o:Expr} {es:List Expr} {ta:TE} {t:TA}
theorem rT {pins:List (Addr × Obj)} {σ:St} {H:Hp} {s:Shared} {Q:VK} {us:List Value} {vs:List V} (F:iM X.prog X.w X.K X.mg X.base CX k f fd ps sp) (hr:Room k X.A) (hb:Binds X.K fd ps ds) (hd:Vals dvs ds) (hx:lS CX X E)
  (I:Inv X pins σ H s) (r:Vals vs us) (h:sp (vs++dvs) H Q E):wpAny (model X.prog X.w) X.A (call (.ref f) us) (EP X pins σ Q) X.xe s:=by
 have r2:Vals (vs++dvs) (us++ds):=r.append hd
 have hl:(us++ds).length=ps.length:=by rw[<- r2.length];exact F.len _ _ _ _ h
 refine wpAny_call (codeAny_mono (F.run X.A X.stack s H ⟨us,[]⟩ (us++ds) (vs++dvs) Q E hr I.env0 (hb s us I.kIn hl) r2 h) fun r s' hq=>?_)
 cases r with
 | error e=>exact hx pins σ H s e s' I hq
 | ok fl=>
  cases fl with
  | ret u=>exact I.after hq
  | next=>exact False.elim hq
  | brk=>exact False.elim hq
  | cont=>exact False.elim hq
theorem Jy (F:iM X.prog X.w X.K X.mg X.base CX k f fd ps sp) (hr:Room k X.A) (hg:Gl X x) (hm:X.mg x=some (.ref f)) (hk:W.keepIn X.K (.ref f)=true) (hb:Binds X.K fd ps ds) (hd:Vals dvs ds) (hx:lS CX X E)
  (ha:PA X (e::es) t) (hdb:(x == ("__debug__":Str))=false:=by decide) (he:starEach (e::es) X.env=(false,eval e X.env)::starEach es X.env:=by rfl) (hpl:(backTo pos (starEach es X.env)).any (·.1)=false:=by rfl) :
  PE X (.Call (.Name x p) (e::es) [] pos) (Ue sp dvs E t):=by
 intro pins s σ H Q I h;refine wpAny_Call_Name_kw (oE I hg hm ?_ hdb)
 refine W.callWith_K (h₀:=X.base) I.ok.mod.kin hk (bK (ha pos pins s σ H _ I h) fun us s1 ⟨vs,H1,I1,r,q⟩=>⟨I1.kIn,?_⟩) he hpl
 exact rT F hr hb hd hx I1 r q
structure Mk (K:W.Frag) (C f:Addr):Prop where
 makes:W.makesIn K C=true
 init:W.findIn K (.ref C) "__init__"=some (some (.ref f))
 fn:W.isFn K (.ref f)=true
 kp:W.keepIn K (.ref C)=true
theorem uE {pins:List (Addr × Obj)} {σ:St} {H:Hp} {s:Shared} {Q:VK} {us:List Value} {vs:List V} (M:Mk X.K C f) (F:iM X.prog X.w X.K X.mg X.base CX k f fd ps sp) (hr:Room (k+1) X.A) (hb:Binds X.K fd ps ds) (hd:Vals dvs ds)
  (hx:lS CX X E) (I:Inv X pins σ H s) (r:Vals vs us)
  (h:∀x dx,H x=none->H dx=none->dx≠x->sp (.ref x::(vs++dvs)) (aH (aH H dx (.own x)) x (.ins C dx [])) (fun v H2=>v=.non/\Q (.ref x) H2) E) :
  wpAny (model X.prog X.w) X.A (call (.ref C) us) (EP X pins σ Q) X.xe s:=by
 have hq:=h (s.heap.objs.size+1) s.heap.objs.size (I.hok.fresh (Nat.le_succ _)) (I.hok.fresh (cA _)) (Nat.ne_of_lt (Nat.lt_succ_self _))
 have I2:=Inv.made (C:=C) I
 have r2:Vals (V.ref (s.heap.objs.size+1)::(vs++dvs)) (Value.ref (s.heap.objs.size+1)::(us++ds)):=.cons rfl (r.append hd)
 have hl:(Value.ref (s.heap.objs.size+1)::us++ds).length=ps.length:=by
  have e:=r2.length
  rw[F.len _ _ _ _ hq]at e;exact e.symm
 refine wpAny_call (Dv (f:=f) I.kIn M.makes M.init (beq_iff_eq.mp M.fn) (codeAny_mono (F.run _ X.stack _ _ ⟨Value.ref (s.heap.objs.size+1)::us,[]⟩ (Value.ref (s.heap.objs.size+1)::(us++ds)) _ _ E (hr.make C us [])
  (I2.env0.make C us []) (hb _ (Value.ref (s.heap.objs.size+1)::us) I2.kIn hl) r2 hq) fun r s' hq'=>?_))
 cases r with
 | error e=>exact hx pins σ _ _ e s' I2 hq'
 | ok fl=>
  cases fl with
  | ret u=>
   obtain⟨v,H',I3,rv,ev,q3⟩:=I2.after hq'
   subst ev;exact⟨rv,⟨V.ref (s.heap.objs.size+1),H',I3,rfl,q3⟩⟩
  | next=>exact False.elim hq'
  | brk=>exact False.elim hq'
  | cont=>exact False.elim hq'
theorem Jz (M:Mk X.K C f) (F:iM X.prog X.w X.K X.mg X.base CX k f fd ps sp) (hr:Room (k+1) X.A) (hg:Gl X x) (hm:X.mg x=some (.ref C)) (hb:Binds X.K fd ps ds) (hd:Vals dvs ds) (hx:lS CX X E)
  (ha:PA X (e::es) t) (hdb:(x == ("__debug__":Str))=false:=by decide) (he:starEach (e::es) X.env=(false,eval e X.env)::starEach es X.env:=by rfl) (hpl:(backTo pos (starEach es X.env)).any (·.1)=false:=by rfl) :
  PE X (.Call (.Name x p) (e::es) [] pos) (yR C sp dvs E t):=by
 intro pins s σ H Q I h;refine wpAny_Call_Name_kw (oE I hg hm ?_ hdb)
 refine W.callWith_K (h₀:=X.base) I.ok.mod.kin M.kp (bK (ha pos pins s σ H _ I h) fun us s1 ⟨vs,H1,I1,r,q⟩=>⟨I1.kIn,?_⟩) he hpl
 exact uE M F hr hb hd hx I1 r q
theorem Dx (M:Mk X.K C f) (F:iM X.prog X.w X.K X.mg X.base CX k f fd ps sp) (hr:Room (k+1) X.A) (hg:Gl X x) (hm:X.mg x=some (.ref C)) (hb:Binds X.K fd ps ds) (hd:Vals dvs ds) (hx:lS CX X E)
  (hdb:(x == ("__debug__":Str))=false:=by decide):PE X (.Call (.Name x p) [] [] pos) (yR C sp dvs E wQ):=by
 intro pins s σ H Q I h;refine wpAny_Call_Name_kw (oE I hg hm ?_ hdb)
 exact W.callWith_K0 I.kIn M.kp (uE (us:=[]) M F hr hb hd hx I .nil h)
end
structure aG (N P:List Str) (sc:Scope):Prop where
 kind:sc.kind=.function
 co:sc.isCoroutine=false
 gen:sc.isGenerator=false
 nd:N.Nodup
 pre:N.take P.length=P
 par:∀x∈P,sc.names.lookup x=some .local∨sc.names.lookup x=some .cell
 nofree:∀y∈sc.names,y.2≠.free
theorem qD {kindOf:Str->Option NameKind} {x:Str}:∀ {binds:List (Str × Value)} {m:Str->Option Value},(∀v,(x,v)∉binds)->bindL kindOf binds m x=m x
 | [],_,_=>rfl
 | (n,v)::r,m,h=>by
  unfold bindL;rw[qD fun w hw=>h w (jM _ hw)]
  split
  ·have:x≠n:=by rintro rfl;exact h v pR
   simp [this]
  ·rfl
theorem qE {kindOf:Str->Option NameKind} {x:Str}:∀ {binds:List (Str × Value)} {m:Str->Option Value},(∀v,(x,v)∉binds)->bindC kindOf binds m x=m x
 | [],_,_=>rfl
 | (n,v)::r,m,h=>by
  unfold bindC;rw[qE fun w hw=>h w (jM _ hw)]
  split
  ·rfl
  ·have:x≠n:=by rintro rfl;exact h v pR
   simp [this]
theorem qF {kindOf:Str->Option NameKind} {x:Str} {v:Value}:∀ {P:List Str} {vs:List Value} {i:Nat} {m:Str->Option Value},P.Nodup->P[i]?=some x->vs[i]?=some v->kindOf x=some .local →
  bindL kindOf (P.zip vs) m x=some v
 | [],_,_,_,_,h,_,_=>by simp at h
 | _::_,[],_,_,_,_,h,_=>by simp at h
 | p::P,w::vs,0,m,nd,h1,h2,hk=>by
  simp at h1 h2;subst h1;subst h2
  show bindL kindOf ((p,w)::P.zip vs) m p=_
  unfold bindL;rw[qD fun v hv=>(List.nodup_cons.mp nd).1 (List.of_mem_zip hv).1,if_pos hk]
  simp
 | p::P,w::vs,i+1,m,nd,h1,h2,hk=>by
  show bindL kindOf ((p,w)::P.zip vs) m x=_
  unfold bindL;exact qF (i:=i) (List.nodup_cons.mp nd).2 (by simpa using h1) (by simpa using h2) hk
theorem qG {kindOf:Str->Option NameKind} {x:Str} {v:Value}:∀ {P:List Str} {vs:List Value} {i:Nat} {m:Str->Option Value},P.Nodup->P[i]?=some x->vs[i]?=some v->kindOf x≠some .local →
  bindC kindOf (P.zip vs) m x=some v
 | [],_,_,_,_,h,_,_=>by simp at h
 | _::_,[],_,_,_,_,h,_=>by simp at h
 | p::P,w::vs,0,m,nd,h1,h2,hk=>by
  simp at h1 h2;subst h1;subst h2
  show bindC kindOf ((p,w)::P.zip vs) m p=_
  unfold bindC;rw[qE fun v hv=>(List.nodup_cons.mp nd).1 (List.of_mem_zip hv).1,if_neg hk]
  simp
 | p::P,w::vs,i+1,m,nd,h1,h2,hk=>by
  show bindC kindOf ((p,w)::P.zip vs) m x=_
  unfold bindC;exact qG (i:=i) (List.nodup_cons.mp nd).2 (by simpa using h1) (by simpa using h2) hk
def start (N:List Str) (vs:List V):St:=vs.map some++List.replicate (N.length - vs.length) none
def lT (CX:Iz) (P:Program) (w:World) (K:W.Frag) (mg:Str->Option Value) (base:Heap) (N:List Str) (qual:Str) (scope:Scope) (f:Addr) (cd:Value) (A:Around) (outer:List Env) (s:Shared) (H:Hp) (E:XK):Cx where
 prog:=P
 w:=w
 K:=K
 mg:=mg
 base:=base
 A:=A.deeper (envOfC qual scope s.heap.objs.size f cd)
 N:=N
 s₀:=s
 H₀:=H
 env:=envOfC qual scope s.heap.objs.size f cd
 outer:=outer
 stack:=envOfC qual scope s.heap.objs.size f cd::outer
 ex:=[]
 calm:=true
 fn:=fun _=>true
 pn:=[]
 xe:=fun e s'=>wpAny (model P w) (A.deeper (envOfC qual scope s.heap.objs.size f cd)) (leaving (envOfC qual scope s.heap.objs.size f cd) e) (fun _ s''=>CX outer H s E e s'') (fun e' s''=>CX outer H s E e' s'') s'
theorem uF {sc:Scope} {n:Nat} {x:Str} (h:sc.names.lookup x=some .cell):∃c,(cellsFrom n sc.names []).lookup x=some c:=by
 have q:=W.cellsFrom_some sc.names n [] (.inl h)
 exact Option.isSome_iff_exists.mp q
theorem Bc {CX:Iz} {P:Program} {w:World} {K:W.Frag} {mg:Str->Option Value} {base:Heap} {N ps:List Str} {qual:Str} {scope:Scope} {f:Addr} {cd:Value} {A:Around} {outer:List Env} {s s1:Shared} {H:Hp} {E:XK} {us:List Value} {vs:List V}
  (S:aG N ps scope) (hd:A.handled=none) (e0:Env0 P w K mg base A outer s H) (hl:vs.length=ps.length) (r:Vals vs us)
  (x:InCallC s s.heap.objs.size (bindL (envOfC qual scope s.heap.objs.size f cd).kindOf (ps.zip us) fun _=>none) (cellsFrom (s.heap.objs.size+1) scope.names []) (bindC (envOfC qual scope s.heap.objs.size f cd).kindOf (ps.zip us) fun _=>none) s1) :
  Inv (lT CX P w K mg base N qual scope f cd A outer s H E) [] (start N vs) H s1:=by
 have hpl:ps.length<=N.length:=by have:=congrArg List.length S.pre;rw[oC]at this;omega
 obtain⟨h1,tk,rfl,hk⟩:=x.done
 have noA:∀b:Addr,b∉(lT CX P w K mg base N qual scope f cd A outer s H E).ex:=fun b z=>absurd (show b∈([]:List Addr) from z) Zs
 refine⟨⟨e0.mod,S.kind,rfl,rfl,cA _,fun y z c h1 h2=>?_,fun y hy=>?_,fun y c _ h=>?_,fun _=>hd,Around.frames_deeper e0.frames,.inr ⟨rfl,rfl⟩,fun b z=>absurd z (noA b),e0.bs,e0.bsz,fun b _ _=>noA b,fun b z=>absurd z (noA b),e0.funs,e0.frf⟩,
  rfl,e0.bare,Un.kept hk,⟨_,x.toInCall.ns,fun i y v h1 h2 h3=>?_⟩,fun y c h=>⟨_,x.cell y c h⟩,e0.hok.fresh (cA _),fun y c h=>?_,fun p hp=>absurd (show p∈([]:List (Addr × Obj)) from hp) Zs,e0.hok.kept hk,?_⟩
 ·exact name_of_addr x.apart (PySem.mem_of_lookup h1) (PySem.mem_of_lookup h2)
 ·have hy:scope.names.lookup y=some .cell∨scope.names.lookup y=some .free:=hy
  rcases hy with hy | hy
  ·exact uF hy
  ·exact absurd rfl (S.nofree _ (PySem.mem_of_lookup hy))
 ·exact Nat.le_of_lt (x.above y c (PySem.mem_of_lookup h))
 ·have hi:i<vs.length:=by
   unfold start at h2;by_cases hi:i<vs.length
   ·exact hi
   ·rw[List.getElem?_append_right (by simpa using hi)]at h2
    rw[List.getElem?_replicate]at h2;split at h2 <;> cases h2
  have ha:vs[i]?=some v:=by
   unfold start at h2;rw[List.getElem?_append_left (by simpa using hi),gQ]at h2
   cases e:vs[i]? with
   | none=>rw[e]at h2;cases h2
   | some a=>rw[e]at h2;cases h2;rfl
  obtain⟨u,hu,rv⟩:=r.get ha
  have hp:ps[i]?=some y:=by
   rw[<- S.pre,List.getElem?_take_of_lt Zo];exact h1
  have ndP:ps.Nodup:=by rw[<- S.pre];exact S.nd.sublist (List.take_sublist _ _)
  refine⟨u,rv,?_⟩
  rcases S.par y (kK hp) with k | k
  ·exact .inl ⟨k,qF ndP hp hu k⟩
  ·obtain⟨c,e⟩:=uF (n:=s.heap.objs.size+1) k
   refine .inr ⟨.inl k,c,e,?_⟩
   have q:=x.cell y c e
   rw[qG ndP hp hu (by show scope.names.lookup y≠_;rw[k];decide)]at q
   exact q
 ·exact e0.hok.fresh (Nat.le_of_lt (x.above y c (PySem.mem_of_lookup h)))
 ·unfold start;show _=N.length
  rw[wC,bN,List.length_replicate];omega
theorem Ng {CX:Iz} {P:Program} {w:World} {K:W.Frag} {mg:Str->Option Value} {base:Heap} {k:Nat} {f:Addr} {name qual:Str} {params:Arguments} {body:List Stmt} {scope:Scope} {dV kV doc pm cdv ct oc:Value} {an od:Option Addr}
  {osl:Array (Option Value)} {N ps:List Str} {sp:Sp} (lk:K.lookup f=some ⟨oc,od,.func (W.fnOf name qual params body scope dV kV doc pm an cdv ct),osl⟩) (hcd:W.codeIn K cdv qual=true) (S:aG N ps scope)
  (len:∀vs H Q E,sp vs H Q E->vs.length=ps.length)
  (hbody:∀(A:Around) (outer:List Env) (s:Shared) (H:Hp) (vs:List V) (Q:VK) (E:XK),Room k (A.deeper (envOfC qual scope s.heap.objs.size f cdv))->sp vs H Q E →
   ∃t,PSs (lT CX P w K mg base N qual scope f cdv A outer s H E) body t/\t {nx:=fun _ H'=>Q .non H',rt:=Q } (start N vs) H) :
  iM P w K mg base CX (k+1) f (W.fnOf name qual params body scope dV kV doc pm an cdv ct) ps sp:=by
 refine⟨len,fun A outer s H args us vs Q E hr e0 hb r hsp=>?_⟩
 have hl:=len _ _ _ _ hsp
 have KX:K.In s.heap:=e0.mod.kin.keeps fun b o e=>(e0.bs b o e).1
 have lim:s.heap.NoLimit:=e0.mod.nolimit.keeps fun b o e=>(e0.bs b o e).1
 have hkind:∀y∈ps.zip us,scope.names.lookup y.1=some .local∨(scope.names.lookup y.1=some .cell/\((cellsFrom (s.heap.objs.size+1) scope.names []).lookup y.1).isSome=true):=fun⟨n,v⟩ hy=>by
  rcases S.par n (List.of_mem_zip hy).1 with q | q
  ·exact .inl q
  ·exact .inr ⟨q,W.cellsFrom_some _ _ _ (.inl q)⟩
 refine codeAny_call_function hr.depth (KX _ _ lk) rfl S.co S.gen rfl (W.codeRec_of KX hcd) (hb _ _ _ _ ?_)
 refine wpAny_newFunctionEnv_cells S.kind hkind fun env he s1 x=>?_
 subst he;refine⟨lim.keeps x.toInCall.keep,codeAny_func ?_⟩
 obtain⟨t,ht,hq⟩:=hbody A outer s H vs Q E (hr.deeper _) hsp
 have I:Inv (lT CX P w K mg base N qual scope f cdv A outer s H E) [] (start N vs) H s1:=Bc S hr.hd e0 hl r x
 refine wpAny_mono (ht [] s1 (start N vs) H _ I hq) (fun fl s' hs=>?_) fun e s' hs=>hs
 have fin:∀ {σ':St} {H':Hp} {v:V} {u:Value},Inv (lT CX P w K mg base N qual scope f cdv A outer s H E) [] σ' H' s'->RelV v u->Q v H'->CE outer P w H s Q u s':=
  fun {σ' H' v u} J rv q=>⟨v,H',J.os,J.bare,J.base,J.hok,rv,q⟩
 cases fl with
 | ret u=>
  obtain⟨v,σ',H',J,rv,q⟩:=hs
  exact fin J rv q
 | next=>
  obtain⟨σ',H',J,q⟩:=hs
  exact fin (v:=V.non) (u:=Value.none) J rfl q
 | brk=>
  obtain⟨_,_,_,q⟩:=hs
  exact False.elim q
 | cont=>
  obtain⟨_,_,_,q⟩:=hs
  exact False.elim q
end L2
namespace L2
open PySem PySem.Spec PyProof.Rows
section
variable {X:Cx} {x:Str} {p pos:Pos} {e:Expr} {es:List Expr} {t:TA} {id T:String} {r:List V->Hp->VK->Prop}
def Td (r:List V->Hp->VK->Prop) (t:TA):TE:=fun σ H Q=>t σ H fun vs H1=>r vs H1 Q
theorem uG (hc:CallR X (.builtin id) r) (hg:Gl X x) (hm:X.mg x=none) (hv:bootBuiltins x=some (.builtin id)) (ha:PA X (e::es) t) (hn:x≠"__name__":=by decide) (hdb:(x == ("__debug__":Str))=false:=by decide)
  (he:starEach (e::es) X.env=(false,eval e X.env)::starEach es X.env:=by rfl) (hpl:(backTo pos (starEach es X.env)).any (·.1)=false:=by rfl):PE X (.Call (.Name x p) (e::es) [] pos) (Td r t):=by
 intro pins s σ H Q I h;refine wpAny_Call_Name_kw (oK I hg hm hv ?_ hn hdb)
 exact PyProof.Rows.callWith_builtin1 (bK (ha pos pins s σ H _ I h) fun us s1 ⟨vs,H1,I1,r1,q1⟩=>hc pins s1 σ H1 vs us Q I1 r1 q1) he hpl
theorem Bd (hc:CallR X (.type T) r) (hg:Gl X x) (hm:X.mg x=none) (hv:bootBuiltins x=some (.type T)) (ha:PA X (e::es) t) (hn:x≠"__name__":=by decide) (hdb:(x == ("__debug__":Str))=false:=by decide)
  (he:starEach (e::es) X.env=(false,eval e X.env)::starEach es X.env:=by rfl) (hpl:(backTo pos (starEach es X.env)).any (·.1)=false:=by rfl):PE X (.Call (.Name x p) (e::es) [] pos) (Td r t):=by
 intro pins s σ H Q I h;refine wpAny_Call_Name_kw (oK I hg hm hv ?_ hn hdb)
 exact PyProof.Rows.callWith_type1 (bK (ha pos pins s σ H _ I h) fun us s1 ⟨vs,H1,I1,r1,q1⟩=>hc pins s1 σ H1 vs us Q I1 r1 q1) he hpl
end
end L2
namespace HT
open PySem PyProof.Rows
section
variable {prog:Program} {w:World} {A:Around} {E:Value->Shared->Prop} {s:Shared}
theorem cat_tup {t b:Addr} {vs ws:List Value} {Q:Value->Shared->Prop} (ht:IsTup s.heap t vs.toArray) (hb:IsTup s.heap b ws.toArray) (hv:vs≠[])
  (h1:ws=[]->Q (.ref t) s) (h2:ws≠[]->Q (.ref s.heap.objs.size) {s with heap:=s.heap.push {cls:=.type "tuple",data:=.seq (vs++ws).toArray } })
  (hsz:vs.length+ws.length<=sizeLine):wpAny (model prog w) A (binaryOp .Add (.ref t) (.ref b)) Q E s:=by
 obtain⟨⟨cls,dd,data,sl⟩,ho,hc,n,hd⟩:=id ht
 obtain⟨⟨cls2,dd2,data2,sl2⟩,ho2,hc2,n2,hd2⟩:=id hb
 simp only at hc hd hc2 hd2
 subst hc hd hc2 hd2;have e:vs.toArray++ws.toArray=(vs++ws).toArray:=by simp
 by_cases hw:ws=[]
 ·exact concat_meets ⟨_,ho,rfl⟩ ⟨_,ho2,rfl⟩ noFill_tuple_add seq_tuple_add PySem.F.slot_tuple_add PySem.F.entry_tuple_add (PySem.F.args_tuple_add_2 _ _)
   (tuple_addW1 t b vs.toArray ws.toArray n n2 dd dd2 sl sl2 (by simpa using hv) (by simp [hw])) ⟨ho,ho2,h1 hw⟩
 ·refine concat_meets ⟨_,ho,rfl⟩ ⟨_,ho2,rfl⟩ noFill_tuple_add seq_tuple_add PySem.F.slot_tuple_add PySem.F.entry_tuple_add (PySem.F.args_tuple_add_2 _ _)
   (tuple_addW2 t b vs.toArray ws.toArray n n2 dd dd2 sl sl2 (by simpa using hv) (by simpa using hw) (by rw[dF,dF];exact hsz)) ⟨ho,ho2,?_⟩
  rw[e];exact h2 hw
def sIx (n d:Nat):Option Int->Nat
 | none=>d
 | some v=>if v<0 then (v+(n:Int)).toNat else min v.toNat n
theorem sIx_none (n d:Nat):sIx n d none=d:=rfl
theorem sIx_nat (n d k:Nat):sIx n d (some (k:Int))=min k n:=by
 show(if (k:Int)<0 then ((k:Int)+(n:Int)).toNat else min (k:Int).toNat n)=min k n
 rw[if_neg Zo,Int.toNat_natCast]
theorem Qd (n d:Nat) (hd:d<=n) (o:Option Int):sIx n d o<=n:=by
 cases o with
 | none=>exact hd
 | some v=>
  show(if v<0 then (v+(n:Int)).toNat else min v.toNat n)<=n
  by_cases hv:v<0
  ·rw[if_pos hv];omega
  ·rw[if_neg hv];exact Nat.min_le_right _ _
theorem yS (v:Int) (n d:Nat):(if v<0 then max (v+(n:Int)) 0 else min v (n:Int))=((sIx n d (some v):Nat):Int):=by
 show(if v<0 then max (v+(n:Int)) 0 else min v (n:Int))=(((if v<0 then (v+(n:Int)).toNat else min v.toNat n):Nat):Int)
 by_cases hv:v<0
 ·simp only [if_pos hv];omega
 ·simp only [if_neg hv];omega
theorem wU (lo hi:Option Int) (n:Nat):Builtin.Slice.sliceAdjust lo hi 1 (n:Int)=(((sIx n 0 lo:Nat):Int),((sIx n n hi:Nat):Int)):=by
 have h1:¬ ((1:Int)<0):=by omega
 unfold Builtin.Slice.sliceAdjust;simp only [h1,if_false]
 refine Prod.ext ?_ ?_
 ·cases lo with
  | none=>rfl
  | some v=>exact yS v n 0
 ·cases hi with
  | none=>rfl
  | some v=>exact yS v n n
theorem wV (i j:Nat):Builtin.Slice.slicePlaces (i:Int) (j:Int) 1=j - i:=by
 unfold Builtin.Slice.slicePlaces;have h1:(1:Int) > 0:=by omega
 simp only [h1,if_true,Int.ediv_one]
 split <;> omega
theorem oN {v:Value} {o:Option Int} {Q:Option Int->Shared->Prop} (p:IsPart v o) (h:Q o s):wpAny (model prog w) A (Builtin.Slice.slicePartIndex v) Q E s:=by
 cases p with
 | none=>exact slicePart_none h
 | int i t=>exact slicePart_int h
theorem sliceApplied_gen {sl:Addr} {vl vu:Value} {lo hi:Option Int} {n:Nat} {Q:Int × Int × Nat->Shared->Prop} (hs:s.heap.IsSliceOf sl vl vu .none) (pl:IsPart vl lo) (pu:IsPart vu hi)
  (h:Q (((sIx n 0 lo:Nat):Int),1,sIx n n hi - sIx n 0 lo) s):wpAny (model prog w) A (Builtin.Slice.sliceApplied (.ref sl) (pure (n:Int))) Q E s:=by
 obtain⟨os,hos,hcs,hds⟩:=id hs
 unfold Builtin.Slice.sliceApplied Builtin.Slice.sliceFields;refine wpAny_bind (wpAny_bind (wpAny_field hos hds (x:=vl) rfl (wpAny_bind (wpAny_field hos hds (x:=vu) rfl (wpAny_bind (wpAny_field hos hds (x:=.none) rfl (wpAny_pure ?_)))))))
 refine wpAny_bind (slicePart_none ?_)
 show wpAny _ _ (if ((1:Int) == 0)=true then _ else _) _ _ s
 rw[if_neg Zd]
 refine wpAny_bind (oN pl (wpAny_bind (oN pu (wpAny_bind (wpAny_pure ?_)))))
 show wpAny _ _ (match Builtin.Slice.sliceAdjust lo hi 1 (n:Int) with | (lo,hi)=>pure (lo,(1:Int),Builtin.Slice.slicePlaces lo hi 1)) _ _ s
 rw[wU lo hi n];show wpAny _ _ (pure (((sIx n 0 lo:Nat):Int),(1:Int),Builtin.Slice.slicePlaces ((sIx n 0 lo:Nat):Int) ((sIx n n hi:Nat):Int) 1)) _ _ s
 rw[wV];exact wpAny_pure h
theorem Dy (xs:Array Value) (i k:Nat):((List.range k).filterMap fun(m:Nat)=>xs[((i:Int)+(m:Int)*1).toNat]?).toArray=((xs.toList.drop i).take k).toArray:=by
 have e:(fun(m:Nat)=>xs[((i:Int)+(m:Int)*1).toNat]?)=fun m=>xs[i+m]?:=by
  funext m
  have:((i:Int)+(m:Int)*1).toNat=i+m:=by omega
  rw[this]
 rw[e];have:=pick_run xs i k
 rw[List.filterMap_map]at this;have e2:((fun x=>xs[x]?)∘fun x=>i+x)=fun m=>xs[i+m]?:=rfl
 rw[e2]at this;rw[this]
theorem getItem_tuple_cut {t sl:Addr} {items:Array Value} {vl vu:Value} {lo hi:Option Int} {Q:Value->Shared->Prop} (ht:IsTup s.heap t items) (hs:s.heap.IsSliceOf sl vl vu .none) (pl:IsPart vl lo) (pu:IsPart vu hi)
  (hw:¬ (sIx items.size 0 lo=0/\sIx items.size items.size hi=items.size))
  (h:Q (.ref s.heap.objs.size) {s with heap:=s.heap.push {cls:=.type "tuple",data:=.seq ((items.toList.drop (sIx items.size 0 lo)).take (sIx items.size items.size hi - sIx items.size 0 lo)).toArray } })
  (hsz:items.size<=sizeLine):wpAny (model prog w) A (getItem (.ref t) (.ref sl)) Q E s:=by
 have htake:sizeOk (.seq ((items.toList.drop (sIx items.size 0 lo)).take (sIx items.size items.size hi - sIx items.size 0 lo)).toArray):=by
  show((items.toList.drop (sIx items.size 0 lo)).take (sIx items.size items.size hi - sIx items.size 0 lo)).toArray.size<=sizeLine
  rw[dF,oC,List.length_drop,Array.length_toList];omega
 have hj:sIx items.size items.size hi<=items.size:=Qd _ _ (cA _) hi
 obtain⟨os,hos,hcs,hds⟩:=id hs
 have hTs:s.TypeIs (.ref sl) "slice":=⟨os,hos,hcs⟩
 unfold getItem;try with_reducible refine wpAny_holding ?_
 first | refine wpAny_bind (wpAny_pure ?_) | skip
 refine wpAny_bind (wpAny_sequenceKey ht.typeIs Zd ?_)
 refine wpAny_bind (wpAny_callSpecial?_slot (name:=Str.ofString "__getitem__") ht.typeIs PyProof.Rows.slot_tuple_getitem
  (wpAny_call_entry PyProof.Rows.slot_tuple_getitem ht.typeIs entry_tuple_getitem ?_ (args_tuple_getitem _ _)))
 show wpAny _ _ (Builtin.Tuple.tupleItemsOf (.ref t) >>= _) _ _ s
 refine wpAny_bind (tupleItemsOf_ ht ?_)
 refine wpAny_bind (wpAny_typeOf hTs ?_)
 rw[if_pos Zd]
 refine wpAny_bind (sliceApplied_gen hs pl pu ?_)
 have hno:¬ ((((sIx items.size 0 lo:Nat):Int) == 0&&(1:Int) == 1&&(sIx items.size items.size hi - sIx items.size 0 lo) == items.size)=true):=by
  intro q;rw[Bool.and_eq_true,Bool.and_eq_true]at q;have q1:((sIx items.size 0 lo:Nat):Int)=0:=eq_of_beq q.1.1
  have q2:sIx items.size items.size hi - sIx items.size 0 lo=items.size:=eq_of_beq q.2
  exact hw ⟨Zo,Zo⟩
 show wpAny _ _ (if (((sIx items.size 0 lo:Nat):Int) == 0&&(1:Int) == 1&&(sIx items.size items.size hi - sIx items.size 0 lo) == items.size)=true then _ else _) _ _ s
 rw[if_neg hno,Dy];first
  | exact wpAny_bind (m:=Builtin.Tuple.tupleExact _) (wpAny_newObj_type (wpAny_pure ⟨_,rfl,wpAny_pure h⟩) htake)
  | exact wpAny_bind (m:=Builtin.Tuple.tupleExact _) (wpAny_newObj_type (wpAny_bind (wpAny_pure (wpAny_pure ⟨_,rfl,wpAny_pure h⟩))) htake)
  | exact wpAny_bind (wpAny_bind (m:=Builtin.Tuple.tupleExact _) (wpAny_newObj_type (wpAny_pure (wpAny_pure ⟨_,rfl,wpAny_pure h⟩)) htake))
  | exact wpAny_bind (wpAny_bind (m:=Builtin.Tuple.tupleExact _) (wpAny_newObj_type (wpAny_pure ⟨_,rfl,wpAny_pure h⟩) htake))
end
end HT
namespace L2
open PySem PySem.Spec PyProof.Rows
abbrev TO:=St->Hp->(Option Int->Hp->Prop)->Prop
def PO (X:Cx) (e:Option Expr) (t:TO):Prop:=
 ∀(pins:List (Addr × Obj)) (s:Shared) (σ:St) (H:Hp) (Q:Option Int->Hp->Prop),Inv X pins σ H s->t σ H Q →
  wpAny (model X.prog X.w) X.A (evalPart e X.env) (fun u s'=>∃o H',Inv X pins σ H' s'/\IsPart u o/\Q o H') X.xe s
def yT:TO:=fun _ H Q=>Q none H
def Dz (t:TE):TO:=fun σ H Q=>t σ H fun x H1=>∃i,x=.int i/\Q (some i) H1
theorem jY {ns:List Int}:∀ {us:List Value},Vals (ns.map V.int) us->IntsAre us ns:=by
 induction ns with
 | nil=>intro us r;rw[List.map_nil]at r;cases r;exact .nil
 | cons n ns ih=>
  intro us r;rw[List.map_cons]at r;cases r with
  | cons r1 r2=>
   obtain⟨t,e⟩:=r1
   subst e;exact .cons n t (ih r2)
section
variable {X:Cx} {e:Expr} {te:TE} {lo hi:Option Expr} {tl th:TO} {pos p2:Pos}
theorem Ka:PO X none yT:=by
 intro pins s σ H Q I h;rw[evalPart_none];exact wpAny_pure ⟨none,H,I,.none,h⟩
theorem Kb (h:PE X e te):PO X (some e) (Dz te):=by
 intro pins s σ H Q I hw;rw[evalPart_some];refine bK (h pins s σ H _ I hw) fun u s1 ⟨x,H1,I1,r1,q1⟩=>?_
 obtain⟨i,rfl,q⟩:=q1
 obtain⟨t,rfl⟩:=r1
 exact⟨some i,H1,I1,.int i t,q⟩
def SlR (X:Cx) (r:V->Option Int->Option Int->Hp->VK->Prop):Prop:=
 ∀(pins:List (Addr × Obj)) (s:Shared) (σ:St) (H:Hp) (x:V) (v vl vu:Value) (lo hi:Option Int) (sl:Addr) (Q:VK),Inv X pins σ H s->RelV x v->s.heap.IsSliceOf sl vl vu .none->IsPart vl lo->IsPart vu hi->r x lo hi H Q →
  ∃T id,typeLookup (.type T) "__getitem__"=pure (some (.builtin id))/\s.TypeIs v T/\wpAny (model X.prog X.w) X.A (getItem v (.ref sl)) (EP X pins σ Q) X.xe s
def Yi (r:V->Option Int->Option Int->Hp->VK->Prop) (te:TE) (tl th:TO):TE:=fun σ H Q=>te σ H fun x H1=>tl σ H1 fun l H2=>th σ H2 fun u H3=>r x l u H3 Q
theorem Ea {r:V->Option Int->Option Int->Hp->VK->Prop} (hr:SlR X r) (he:PE X e te) (hl:PO X lo tl) (hu:PO X hi th):PE X (.Subscript e (.Slice lo hi none p2) pos) (Yi r te tl th):=by
 intro pins s σ H Q I h;refine Subscript_ (bK (he pins s σ H _ I h) fun v s1 ⟨x,H1,I1,r1,q1⟩=>?_)
 refine wpAny_Slice (bK (hl pins s1 σ H1 _ I1 q1) fun vl s2 ⟨l,H2,I2,pl,q2⟩=>bK (hu pins s2 σ H2 _ I2 q2) fun vu s3 ⟨u,H3,I3,pu,q3⟩=>?_)
 rw[evalPart_none];refine wpAny_pure ?_
 have I4:Inv X pins σ H3 {s3 with heap:=s3.heap.push {cls:=.type "slice",data:=.fields #[vl,vu,.none] } }:=I3.kept (t':=s3.toks) fun b ob q=>iO _ q
 obtain⟨T,id,hT,ht,hg⟩:=hr pins {s3 with heap:=s3.heap.push {cls:=.type "slice",data:=.fields #[vl,vu,.none] } } σ H3 x v vl vu l u s3.heap.objs.size Q I4 r1 (Heap.IsSliceOf.new ..) pl pu q3
 show wpAny (model X.prog X.w) X.A (subscriptTail e (.Slice lo hi none p2) v (.ref s3.heap.objs.size)) (EP X pins σ Q) X.xe {s3 with heap:=s3.heap.push {cls:=.type "slice",data:=.fields #[vl,vu,.none] } }
 exact tail_any (ops:=[.ref s3.heap.objs.size,v]) ht hT hg (by with_unfolding_all rfl)
def Be (xs:List V) (lo hi:Option Int):List V:=(xs.drop (HT.sIx xs.length 0 lo)).take (HT.sIx xs.length xs.length hi - HT.sIx xs.length 0 lo)
theorem mZ (xs:List V) (lo hi:Option Int):(Be xs lo hi).length<=xs.length:=by
 unfold Be;rw[oC,List.length_drop];omega
def Ww (K:W.Frag):V->Option Int->Option Int->Hp->VK->Prop:=fun x lo hi H Q=>∃a xs,x=.ref a/\SqT K H a xs ∧
 ¬ (HT.sIx xs.length 0 lo=0/\HT.sIx xs.length xs.length hi=xs.length)/\∀p,H p=none->Q (.ref p) (aH H p (.tup (Be xs lo hi)))
theorem Qe:SlR X (Ww X.K):=by
 intro pins s σ H x v vl vu lo hi sl Q I rx hs pl pu h;obtain⟨a,xs,rfl,hx,hw,q⟩:=h
 cases rx
 obtain⟨its,r,ht,hz⟩:=I.tuple hx
 have hlen:its.toArray.size=xs.length:=by rw[dF];exact r.length.symm
 refine⟨"tuple",_,PyProof.Rows.slot_tuple_getitem.lookup,ht.typeIs,?_⟩
 refine HT.getItem_tuple_cut ht hs pl pu (by rw[hlen];exact hw) ?_ (by rw[hlen];exact hz)
 rw[hlen];refine⟨.ref s.heap.objs.size,_,I.laid (t':=s.toks) (o:=.tup (Be xs lo hi)) (fun b ob q=>iO _ q) (cA _) ?_,rfl,q _ (I.hok.fresh (cA _))⟩
 exact⟨fU (mZ xs lo hi) hz,_,(r.drop (HT.sIx xs.length 0 lo)).take (HT.sIx xs.length xs.length hi - HT.sIx xs.length 0 lo),IsTup.new _ _⟩
def Uf (K:W.Frag):R2:=fun x y H Q=>∃a b xs ys,x=.ref a/\y=.ref b/\SqT K H a xs/\SqT K H b ys/\xs≠[]/\xs.length+ys.length<=sizeLine ∧
 (ys=[]->Q (.ref a) H)/\(ys≠[]->∀p,H p=none->Q (.ref p) (aH H p (.tup (xs++ys))))
theorem Vals.nil_iff {xs:List V} {us:List Value} (r:Vals xs us):us=[]↔xs=[]:=by
 cases r with
 | nil=>simp
 | cons _ _=>simp
theorem Kc:OpR X (binaryOp .Add) (Uf X.K):=by
 intro pins s σ H x y v u Q I rx ry h;obtain⟨a,b,xs,ys,rfl,rfl,ha,hb,hx,hz,q1,q2⟩:=h
 cases rx
 cases ry
 obtain⟨its,r1,p1,_⟩:=I.tuple ha
 obtain⟨its2,r2,p2,_⟩:=I.tuple hb
 refine HT.cat_tup p1 p2 (fun z=>hx (r1.nil_iff.mp z)) (fun z=>⟨.ref a,H,I,rfl,q1 (r2.nil_iff.mp z)⟩) (fun z=>?_) (by rw[<- r1.length,<- r2.length];exact hz)
 refine⟨.ref s.heap.objs.size,_,I.laid (t':=s.toks) (o:=.tup (xs++ys)) (fun b ob q=>iO _ q) (cA _) ?_,rfl,q2 (fun w=>z (r2.nil_iff.mpr w)) _ (I.hok.fresh (cA _))⟩
 exact⟨by rw[wC];exact hz,_,r1.append r2,IsTup.new _ _⟩
end
end L2
namespace L2
open PySem PySem.Spec PyProof.Rows
def Nh (n:Nat) (i:Int):Option Nat:=if 0<=i then (if i<n then some i.toNat else none) else if -(n:Int)<=i then some (i+n).toNat else none
def lM {α:Type} (xs:List α) (i:Int):Option α:=(Nh xs.length i).bind fun j=>xs[j]?
theorem yU {n:Nat} {i:Int} {j:Nat} (h:Nh n i=some j):seqIndex? i n=some j/\j<n/\-(n:Int)<=i/\i<n:=by
 unfold Nh at h;by_cases h0:0<=i
 ·rw[if_pos h0]at h;by_cases h1:i<n
  ·rw[if_pos h1]at h;have e:i.toNat=j:=Option.some.inj h
   exact⟨by rw[seqIndex_of h0 h1,e],Zo,Zo,h1⟩
  ·rw[if_neg h1]at h;cases h
 ·rw[if_neg h0]at h;by_cases h1:-(n:Int)<=i
  ·rw[if_pos h1]at h;have e:(i+n).toNat=j:=Option.some.inj h
   exact⟨by rw[seqIndex_neg Zo h1,e],Zo,h1,Zo⟩
  ·rw[if_neg h1]at h;cases h
theorem rV {α:Type} {xs:List α} {i:Int} {v:α} (h:lM xs i=some v):∃j,seqIndex? i xs.length=some j/\xs[j]?=some v/\j<xs.length/\-(xs.length:Int)<=i/\i<xs.length:=by
 unfold lM at h;cases e:Nh xs.length i with
 | none=>rw[e]at h;cases h
 | some j=>
  rw[e]at h;obtain⟨h1,h2,h3,h4⟩:=yU e
  exact⟨j,h1,h,h2,h3,h4⟩
theorem gA {α:Type} {xs:List α} {j:Nat} {v:α} (h:xs[j]?=some v):lM xs (j:Int)=some v:=by
 have hj:j<xs.length:=(Zgs.mp h).1
 have e:Nh xs.length (j:Int)=some j:=by
  unfold Nh;rw[if_pos Zo,if_pos Zo];simp
 unfold lM;rw[e];exact h
def rW (b:Expr):Prop:=∀o i,subscripted b false o i=operate [o,i] (getItem o i)
def IxR (X:Cx) (r:R2):Prop:=
 ∀(value slice:Expr) (pins:List (Addr × Obj)) (s:Shared) (σ:St) (H:Hp) (x y:V) (v u:Value) (Q:VK),Inv X pins σ H s->RelV x v->RelV y u->r x y H Q →
  subscripted slice false v u=operate [v,u] (getItem v u)->wpAny (model X.prog X.w) X.A (subscriptTail value slice v u) (EP X pins σ Q) X.xe s
def Qg (X:Cx) (id:String) (r:V->List V->Hp->VK->Prop):Prop:=
 ∀(pins:List (Addr × Obj)) (s:Shared) (σ:St) (H:Hp) (x:V) (xs:List V) (v:Value) (us:List Value) (Q:VK),Inv X pins σ H s->RelV x v->Vals xs us->r x xs H Q →
  wpAny (model X.prog X.w) X.A (call (.builtin id) (v::us)) (EP X pins σ Q) X.xe s
section
variable {X:Cx} {a b:Expr} {ta tb:TE} {pos:Pos}
theorem Ug {r:R2} (hr:IxR X r) (ha:PE X a ta) (hb:PE X b tb) (hs:rW b):PE X (.Subscript a b pos) (Dq r ta tb):=by
 intro pins s σ H Q I h;exact Subscript_ (Pq ha hb I h fun v u s2 x y H2 I2 rx ry q=>hr a b pins s2 σ H2 x y v u Q I2 rx ry q (hs _ _))
def Wx (K:W.Frag):R2:=fun x y H Q=>∃p xs i v,x=.ref p/\y=.int i/\SqL K H p xs/\lM xs i=some v/\Q v H
def Wy (K:W.Frag):R2:=fun x y H Q=>∃p xs i v,x=.ref p/\y=.int i/\SqT K H p xs/\lM xs i=some v/\Q v H
def Wz:R2:=fun x y H Q=>∃z i c,x=.str z/\y=.int i/\z.length<=sizeLine/\lM z.cps.toList i=some c/\Q (.str ⟨#[c]⟩) H
theorem Ke:IxR X (Wx X.K):=by
 intro value slice pins s σ H x y v u Q I rx ry h hs;obtain⟨p,xs,i,z,rfl,rfl,hq,he,q⟩:=h
 cases rx
 obtain⟨t,rfl⟩:=ry
 obtain⟨its,r,pl,hz⟩:=I.list hq
 obtain⟨j,h1,h2,h3,h4,h5⟩:=rV he
 obtain⟨w,ew,rw'⟩:=r.get h2
 have hl:=r.length
 have hn:=lQ
 have fin:EP X pins σ Q w s:=⟨z,H,I,rw',q⟩
 by_cases h0:0<=i
 ·have hj:i.toNat=j:=by
   rw[seqIndex_of h0 h5]at h1;exact Option.some.inj h1
  exact item_listR pl.isList h0 Zo (by rw[hj];simpa using ew) fin hs
 ·have hj:(i+(its.toArray.size:Int)).toNat=j:=by
   rw[seqIndex_neg Zo h4]at h1
   rw[dF,<- hl];exact Option.some.inj h1
  exact subscriptTail_builtinR (x:=w) pl.isList.typeIs slot_list_getitem.lookup
   (wpAny_getItem_list_neg (Q:=fun r s'=>r=w/\EP X pins σ Q r s') pl.isList Zo (by rw[dF] <;> omega) Zo (by rw[hj];simpa using ew) ⟨rfl,fin⟩) hs
theorem Qh:IxR X (Wy X.K):=by
 intro value slice pins s σ H x y v u Q I rx ry h hs;obtain⟨p,xs,i,z,rfl,rfl,hq,he,q⟩:=h
 cases rx
 obtain⟨t,rfl⟩:=ry
 obtain⟨its,r,pl,hz⟩:=I.tuple hq
 obtain⟨j,h1,h2,h3,h4,h5⟩:=rV he
 obtain⟨w,ew,rw'⟩:=r.get h2
 have hl:=r.length
 have hn:=lQ
 have fin:EP X pins σ Q w s:=⟨z,H,I,rw',q⟩
 exact subscriptTail_builtinR (x:=w) pl.typeIs slot_tuple_getitem.lookup
  (getItem_tuple (j:=j) (Q:=fun r s'=>r=w/\EP X pins σ Q r s') pl Zo Zo (by rw[dF,<- hl];exact h1) (by simpa using ew) ⟨rfl,fin⟩) hs
theorem Qi:IxR X Wz:=by
 intro value slice pins s σ H x y v u Q I rx ry h hs;obtain⟨z,i,c,rfl,rfl,hz,he,q⟩:=h
 obtain⟨t,rfl⟩:=rx
 obtain⟨t',rfl⟩:=ry
 obtain⟨j,h1,h2,h3,h4,h5⟩:=rV he
 have hl:z.cps.toList.length=z.length:=by simp [Str.length]
 rw[hl]at h1 h4 h5;have hn:=lQ
 exact tail_any (typeIs_str s z t) slot_str_getitem.lookup (getItem_str (c:=c) (by
  have e1:decide (i < -(2 ^ 63:Int))=false:=decide_eq_false Zo
  have e2:decide (i ≥ 2 ^ 63)=false:=decide_eq_false Zo
  rw[e1,e2,Bool.or_false]) (by rw[h1];simpa using h2) ⟨.str ⟨#[c]⟩,H,I.tok _,⟨_,rfl⟩,q⟩) hs
theorem wW (its:List Value) (n j:Nat) (u:Value):Obj.mapSeq (·.setIfInBounds j u) {cls:=.type "list",data:=.seq its.toArray n }={cls:=.type "list",data:=.seq (its.set j u).toArray n }:=by
 simp [Obj.mapSeq]
theorem Inv.lst {pins:List (Addr × Obj)} {σ:St} {H:Hp} {s:Shared} {p:Addr} {xs:List V} (I:Inv X pins σ H s) (h:H p=some (.lst xs)) :
  ∃(its:List Value) (n:Nat),Vals xs its/\s.heap.get? p=some {cls:=.type "list",data:=.seq its.toArray n }/\xs.length<=sizeLine:=by
 obtain⟨z,its,n,r,e⟩:=I.hok p _ h
 exact⟨its,n,r,e,z⟩
theorem Inv.lstUpd {pins:List (Addr × Obj)} {σ:St} {H:Hp} {s:Shared} {p:Addr} {xs ys:List V} {its its':List Value} {n n':Nat} {f:Obj->Obj} (I:Inv X pins σ H s) (h:H p=some (.lst xs))
  (ho:s.heap.get? p=some {cls:=.type "list",data:=.seq its.toArray n }) (hf:f {cls:=.type "list",data:=.seq its.toArray n }={cls:=.type "list",data:=.seq its'.toArray n' }) (r:Vals ys its') (hz:ys.length<=sizeLine) (t:Nat) :
  Inv X pins σ (aH H p (.lst ys)) {s with heap:=s.heap.update p f,toks:=t }:=by
 have e:(s.heap.update p f).get? p=some {cls:=.type "list",data:=.seq its'.toArray n' }:=by
  rw[Heap.get?_update_self f ho (by rw[hf] <;> rfl),hf]
 refine I.write (x:=p) (e:=p) (by rw[h];trivial) (.inl rfl) (fun b u hb q=>(Heap.get?_update_other _ _ (Ne.symm hb)).trans q) ⟨_,e⟩ ?_
 exact⟨hz,its',n',r,e⟩
def Ni:V->V->V->Hp->(Hp->Prop)->Prop:=fun o i v H Q=>∃p xs k j,o=.ref p/\i=.int k/\H p=some (.lst xs)/\Nh xs.length k=some j/\Q (aH H p (.lst (xs.set j v)))
theorem Eb:Jl X Ni:=by
 intro pins s σ H o i v ov iv u Q I ro ri rv h;obtain⟨p,xs,k,j,rfl,rfl,hp,hj,q⟩:=h
 cases ro
 obtain⟨t,rfl⟩:=ri
 obtain⟨its,n,r,ho,hz⟩:=I.lst hp
 obtain⟨h1,h2,h3,h4⟩:=yU hj
 have hl:=r.length
 have hn:=lQ
 have I':Inv X pins σ (aH H p (.lst (xs.set j v))) {s with heap:=s.heap.update p (Obj.mapSeq (·.setIfInBounds j u)) }:=
  I.lstUpd hp ho (wW its n j u) (r.set rv j) (by rw[List.length_set];exact hz) s.toks
 by_cases h0:0<=k
 ·have hk:k.toNat=j:=by
   rw[seqIndex_of h0 h4]at h1;exact Option.some.inj h1
  exact W.ki_setAt ho h0 Zo (by rw[dF,<- hl];exact h4) (by rw[hk];exact⟨_,I',q⟩)
 ·have hk:(k+(its.toArray.size:Int)).toNat=j:=by
   rw[seqIndex_neg Zo h3]at h1
   rw[dF,<- hl];exact Option.some.inj h1
  exact W.ki_setBack ho Zo (by rw[dF,<- hl];exact h3) Zo (by rw[hk];exact⟨_,I',q⟩)
theorem rX (lo hi:Option Int) (n:Nat):(sliceBounds lo hi none n).1=((HT.sIx n 0 lo:Nat):Int)/\(sliceBounds lo hi none n).2.1=((HT.sIx n n hi:Nat):Int)/\(sliceBounds lo hi none n).2.2=1:=by
 refine⟨?_,?_,rfl⟩
 ·cases lo with
  | none=>simp [sliceBounds,HT.sIx]
  | some i=>
   simp only [sliceBounds,HT.sIx,Option.getD_none,show(1:Int) > 0 by decide,if_true]
   by_cases h:i<0
   ·simp only [h,if_true] <;> omega
   ·simp only [h,if_false] <;> omega
 ·cases hi with
  | none=>simp [sliceBounds,HT.sIx]
  | some i=>
   simp only [sliceBounds,HT.sIx,Option.getD_none,show(1:Int) > 0 by decide,if_true]
   by_cases h:i<0
   ·simp only [h,if_true] <;> omega
   ·simp only [h,if_false] <;> omega
theorem pS (its:List Value) (lo hi:Option Int):slicePick its.toArray lo hi none=((its.drop (HT.sIx its.length 0 lo)).take (HT.sIx its.length its.length hi - HT.sIx its.length 0 lo)).toArray:=by
 obtain⟨h1,h2,h3⟩:=rX lo hi its.toArray.size
 unfold slicePick;rw[h1,h2,h3];simp only [sliceRange_one,pick_run,dF] <;> rfl
def Xa (K:W.Frag):V->Option Int->Option Int->Hp->VK->Prop:=fun x lo hi H Q=>∃a xs,x=.ref a/\SqL K H a xs/\∀p,H p=none->Q (.ref p) (aH H p (.lst (Be xs lo hi)))
theorem Kf:SlR X (Xa X.K):=by
 intro pins s σ H x v vl vu lo hi sl Q I rx hs pl pu h;obtain⟨a,xs,rfl,hx,q⟩:=h
 cases rx
 obtain⟨its,r,ht,hz⟩:=I.list hx
 have hlen:=r.length
 refine⟨"list",_,slot_list_getitem.lookup,ht.isList.typeIs,?_⟩
 refine wpAny_getItem_list_slice ht.isList hs pl pu .none Zs ?_ (by rw[dF] <;> omega)
 rw[pS,<- hlen];refine⟨.ref s.heap.objs.size,_,I.laid (t':=s.toks) (o:=.lst (Be xs lo hi)) (fun b ob q=>iO _ q) (cA _) ?_,rfl,q _ (I.hok.fresh (cA _))⟩
 exact⟨fU (mZ xs lo hi) hz,_,0,(r.drop (HT.sIx xs.length 0 lo)).take (HT.sIx xs.length xs.length hi - HT.sIx xs.length 0 lo),Heap.get?_push_size _ rfl⟩
def eN:V->Bool
 | .non=>true
 | .bl _=>true
 | .int _=>true
 | .str _=>true
 | _=>false
def uH:V->V->Bool
 | .non,.non=>true
 | .bl a,.bl b=>a == b
 | .bl a,.int b=>(if a then 1 else 0) == b
 | .int a,.bl b=>a == (if b then 1 else 0)
 | .int a,.int b=>a == b
 | .str a,.str b=>a == b
 | _,_=>false
theorem wX {A:Around} {s:Shared} {y x:V} {u v:Value} (ry:RelV y u) (rx:RelV x v) (fy:eN y=true) (fx:eN x=true):SeqAt.EqAt A s u v (uH y x):=by
 cases y with
 | non=>
  cases ry
  cases x with
  | non=>cases rx;exact SeqAt.EqAt.same _
  | bl b=>cases rx;exact SeqAt.EqAt.none_bool b
  | int b=>obtain⟨t,rfl⟩:=rx;exact SeqAt.EqAt.none_int b t
  | str b=>obtain⟨t,rfl⟩:=rx;exact SeqAt.EqAt.none_str b t
  | _=>exact absurd (show false=true from fx) Bool.false_ne_true
 | bl a=>
  cases ry
  cases x with
  | non=>cases rx;exact SeqAt.EqAt.bool_none a
  | bl b=>cases rx;exact SeqAt.EqAt.bool_bool a b
  | int b=>obtain⟨t,rfl⟩:=rx;exact SeqAt.EqAt.bool_int a b t
  | str b=>obtain⟨t,rfl⟩:=rx;exact SeqAt.EqAt.bool_str a b t
  | _=>exact absurd (show false=true from fx) Bool.false_ne_true
 | int a=>
  obtain⟨t',rfl⟩:=ry
  cases x with
  | non=>cases rx;exact SeqAt.EqAt.int_none a t'
  | bl b=>cases rx;exact SeqAt.EqAt.int_bool a t' b
  | int b=>obtain⟨t,rfl⟩:=rx;exact SeqAt.EqAt.int_int a t' b t
  | str b=>obtain⟨t,rfl⟩:=rx;exact SeqAt.EqAt.int_str a t' b t
  | _=>exact absurd (show false=true from fx) Bool.false_ne_true
 | str a=>
  obtain⟨t',rfl⟩:=ry
  cases x with
  | non=>cases rx;exact SeqAt.EqAt.str_none a t'
  | bl b=>cases rx;exact SeqAt.EqAt.str_bool a t' b
  | int b=>obtain⟨t,rfl⟩:=rx;exact SeqAt.EqAt.str_int a t' b t
  | str b=>obtain⟨t,rfl⟩:=rx;exact SeqAt.EqAt.str_str a t' b t
  | _=>exact absurd (show false=true from fx) Bool.false_ne_true
 | _=>exact absurd (show false=true from fy) Bool.false_ne_true
def wY (x:V) (u:Value):Bool:=match u with
 | .none=>uH .non x
 | .bool b=>uH (.bl b) x
 | .int i _=>uH (.int i) x
 | .str z _=>uH (.str z) x
 | _=>false
theorem Ec {x y:V} {u:Value} (r:RelV y u) (f:eN y=true):wY x u=uH y x:=by
 cases y with
 | non=>cases r;rfl
 | bl b=>cases r;rfl
 | int i=>obtain⟨t,rfl⟩:=r;rfl
 | str z=>obtain⟨t,rfl⟩:=r;rfl
 | _=>exact absurd (show false=true from f) Bool.false_ne_true
theorem kN {x:V}:∀ {xs:List V} {us:List Value},Vals xs us->xs.all eN=true->us.any (wY x)=xs.any fun y=>uH y x
 | _,_,.nil,_=>rfl
 | y::xs,u::us,.cons r t,f=>by
  rw[List.all_cons,Bool.and_eq_true]at f;rw[List.any_cons,List.any_cons,Ec r f.1,kN t f.2]
theorem iQ {A:Around} {s:Shared} {x:V} {v:Value} (rx:RelV x v) (fx:eN x=true):∀ {xs:List V} {us:List Value},Vals xs us->xs.all eN=true->∀u∈us,SeqAt.EqAt A s u v (wY x u)
 | _,_,.nil,_=>fun u hu=>by cases hu
 | y::xs,u::us,.cons r t,f=>fun u' hu=>by
  rw[List.all_cons,Bool.and_eq_true]at f;rcases List.mem_cons.mp hu with rfl | hu
  ·rw[Ec r f.1];exact wX r rx f.1 fx
  ·exact iQ rx fx t f.2 u' hu
def rY (x:V) (xs:List V):Bool:=xs.any fun y=>uH y x
def Te (K:W.Frag) (neg:Bool):R2:=fun x y H Q=>∃p xs,y=.ref p/\(SqL K H p xs∨SqT K H p xs)/\eN x=true/\xs.all eN=true/\Q (.bl (if neg then !rY x xs else rY x xs)) H
theorem Bf:OpR X (compareOp .In) (Te X.K false):=by
 intro pins s σ H x y v u Q I rx ry h;obtain⟨p,xs,rfl,hq,fx,fs,q⟩:=h
 cases ry
 rcases hq with hq | hq
 ·obtain⟨its,r,pl,hz⟩:=I.list hq
  refine SeqAt.in_listAt (wY x) pl.isList (fun w hw=>iQ rx fx r fs w (by simpa using hw)) ⟨.bl _,H,I,rfl,?_⟩
  rw[show its.toArray.any (wY x)=its.any (wY x) by simp,kN r fs]
  exact q
 ·obtain⟨its,r,pl,hz⟩:=I.tuple hq
  refine SeqAt.in_tupleAt (wY x) pl (fun w hw=>iQ rx fx r fs w (by simpa using hw)) ⟨.bl _,H,I,rfl,?_⟩
  rw[show its.toArray.any (wY x)=its.any (wY x) by simp,kN r fs]
  exact q
theorem rZ:OpR X (compareOp .NotIn) (Te X.K true):=by
 intro pins s σ H x y v u Q I rx ry h;obtain⟨p,xs,rfl,hq,fx,fs,q⟩:=h
 cases ry
 rcases hq with hq | hq
 ·obtain⟨its,r,pl,hz⟩:=I.list hq
  refine SeqAt.notIn_listAt (wY x) pl.isList (fun w hw=>iQ rx fx r fs w (by simpa using hw)) ⟨.bl _,H,I,rfl,?_⟩
  rw[show its.toArray.any (wY x)=its.any (wY x) by simp,kN r fs]
  exact q
 ·obtain⟨its,r,pl,hz⟩:=I.tuple hq
  refine SeqAt.notIn_tupleAt (wY x) pl (fun w hw=>iQ rx fx r fs w (by simpa using hw)) ⟨.bl _,H,I,rfl,?_⟩
  rw[show its.toArray.any (wY x)=its.any (wY x) by simp,kN r fs]
  exact q
theorem sM:CallR X (.builtin "len") (fun xs H Q=>∃p ys,xs=[.ref p]/\(SqL X.K H p ys∨SqT X.K H p ys)/\Q (.int ys.length) H):=by
 intro pins s σ H xs us Q I r h;obtain⟨p,ys,rfl,hq,q⟩:=h
 obtain⟨u,rfl,rx⟩:=fG r
 cases rx
 have hn:=lQ
 rcases hq with hq | hq
 ·obtain⟨its,r',pl,hz⟩:=I.list hq
  have hlen:=r'.length
  exact Calls.call_len_list pl.isList (by simp only [dF] <;> omega) ⟨.int ys.length,H,I.tok _,⟨s.toks+1,by rw[dF,hlen]⟩,q⟩
 ·obtain⟨its,r',pl,hz⟩:=I.tuple hq
  have hlen:=r'.length
  exact len_tuple pl (by simp only [dF] <;> omega) ⟨.int ys.length,H,I.tok _,⟨s.toks+1,by rw[dF,hlen]⟩,q⟩
theorem sN:CallR X (.builtin "len") (fun xs H Q=>∃z,xs=[.str z]/\z.length<=sizeLine/\Q (.int z.length) H):=by
 intro pins s σ H xs us Q I r h;obtain⟨z,rfl,hz,q⟩:=h
 obtain⟨u,rfl,t,rfl⟩:=fG r
 have hn:=lQ
 exact len_str Zo ⟨.int z.length,H,I.tok _,⟨_,rfl⟩,q⟩
theorem sO:CallR X (.type "list") (fun xs H Q=>∃p ys,xs=[.ref p]/\(SqL X.K H p ys∨SqT X.K H p ys)/\∀l,H l=none->Q (.ref l) (aH H l (.lst ys))):=by
 intro pins s σ H xs us Q I r h;obtain⟨p,ys,rfl,hq,q⟩:=h
 obtain⟨u,rfl,rx⟩:=fG r
 cases rx
 have fin:∀(its:List Value),Vals ys its->ys.length<=sizeLine->∀(h':Heap) (c':Nat),(∀b o',s.heap.get? b=some o'->h'.get? b=some o') →
   h'.get? s.heap.objs.size=some {cls:=.type "list",dict:=none,data:=.seq its.toArray c',slots:=#[] }->EP X pins σ Q (.ref s.heap.objs.size) {s with heap:=h' }:=fun its r' hz h' c' kp e=>
  ⟨.ref s.heap.objs.size,_,I.laid (t':=s.toks) kp (cA _) (show ObjOk X.prog X.w _ h' _ (.lst ys) from⟨hz,its,c',r',e⟩),rfl,q _ (I.hok.fresh (cA _))⟩
 rcases hq with hq | hq
 ·obtain⟨its,r',pl,hz⟩:=I.list hq
  have hlen:=r'.length
  obtain⟨o,ho,hc,n,hd⟩:=pl.isList
  exact call_list_seq p (.inl rfl) ho hc hd (fun h' c' kp e=>fin its r' hz h' c' kp e) (by simp only [dF] <;> omega)
 ·obtain⟨its,r',pl,hz⟩:=I.tuple hq
  have hlen:=r'.length
  obtain⟨o,ho,hc,n,hd⟩:=pl
  exact call_list_seq p (.inr rfl) ho hc hd (fun h' c' kp e=>fin its r' hz h' c' kp e) (by simp only [dF] <;> omega)
theorem pT:CallR X (.type "tuple") (fun xs H Q=>∃p ys,xs=[.ref p]/\((SqL X.K H p ys/\∀l,H l=none->Q (.ref l) (aH H l (.tup ys)))∨(SqT X.K H p ys/\Q (.ref p) H))):=by
 intro pins s σ H xs us Q I r h;obtain⟨p,ys,rfl,h⟩:=h
 obtain⟨u,rfl,rx⟩:=fG r
 cases rx
 rcases h with⟨hq,q⟩ | ⟨hq,q⟩
 ·obtain⟨its,r',pl,hz⟩:=I.list hq
  have hlen:=r'.length
  refine call_tuple_list pl.isList (fun h' kp=>?_) (by simp only [dF] <;> omega)
  have I1:Inv X pins σ H {s with heap:=h' }:=I.kept (t':=s.toks) kp
  have I2:Inv X pins σ (aH H h'.objs.size (.tup ys)) {s with heap:=h'.push {cls:=.type "tuple",data:=.seq its.toArray } }:=
   I1.laid (t':=s.toks) (fun b o e=>iO _ e) (cA _) (show ObjOk X.prog X.w _ _ _ (.tup ys) from⟨hz,its,r',IsTup.new _ _⟩)
  exact⟨.ref h'.objs.size,_,I2,rfl,q _ (I1.hok.fresh (cA _))⟩
 ·obtain⟨its,r',pl,hz⟩:=I.tuple hq
  exact call_tuple_same pl ⟨.ref p,H,I,rfl,q⟩
def Xb (K:W.Frag) (T:String) (x:V) (H:Hp):Prop:=match x with
 | .str _=>T="str"
 | .int _=>T="int"
 | .ref p=>(T="list"/\∃xs,SqL K H p xs)∨(T="tuple"/\∃o,K.lookup p=some o/\o.cls=.type "tuple"/\o.dict=none)∨
   (T="dict"/\((∃kvs,H p=some (.dK kvs))∨∃kvs,H p=some (.dT kvs)))∨(T="set"/\∃S n,H p=some (.set S n))
 | _=>False
theorem Ed {pins:List (Addr × Obj)} {σ:St} {H:Hp} {s:Shared} {T:String} {x:V} {v:Value} (I:Inv X pins σ H s) (r:RelV x v) (ty:Xb X.K T x H) :
  s.TypeIs v T/\∀a,v=.ref a->∃ob,s.heap.get? a=some ob/\ob.dict=none:=by
 cases x with
 | str z=>
  obtain⟨t,rfl⟩:=r
  cases (show T="str" from ty)
  exact⟨typeIs_str s z t,fun _ e=>nomatch e⟩
 | int i=>
  obtain⟨t,rfl⟩:=r
  cases (show T="int" from ty)
  exact⟨typeIs_int s i t,fun _ e=>nomatch e⟩
 | ref p=>
  cases r
  rcases ty with⟨rfl,xs,hq⟩ | ⟨rfl,o,hk,hc,hd⟩ | ⟨rfl,hk⟩ | ⟨rfl,S,n,hk⟩
  ·obtain⟨its,_,pl,_⟩:=I.list hq
   refine⟨pl.isList.typeIs,fun a e=>?_⟩
   cases e
   obtain⟨o,n,e,c,hd,_⟩:=pl
   exact⟨o,e,hd⟩
  ·refine⟨⟨o,I.kIn p o hk,hc⟩,fun a e=>?_⟩
   cases e
   exact⟨o,I.kIn _ o hk,hd⟩
  ·have z:∃o,s.heap.get? p=some o/\o.ExactDict:=by
    rcases hk with⟨kvs,hk⟩ | ⟨kvs,hk⟩
    ·obtain⟨_,_,_,_,o,_,_,e,ex,_⟩:=I.hok p _ hk
     exact⟨o,e,ex⟩
    ·obtain⟨_,_,_,_,o,_,_,e,ex,_⟩:=I.hok p _ hk
     exact⟨o,e,ex⟩
   obtain⟨o,e,ex⟩:=z
   refine⟨⟨o,e,ex.1⟩,fun a e2=>?_⟩
   cases e2
   exact⟨o,e,ex.2.1⟩
  ·obtain⟨o,_,_,_,e,ex,_⟩:=I.hok p _ hk
   refine⟨⟨o,e,ex.1⟩,fun a e2=>?_⟩
   cases e2
   exact⟨o,e,ex.2.1⟩
 | _=>exact False.elim ty
def Qj (K:W.Frag) (T:String) (r:V->List V->Hp->VK->Prop) (to:TE):TE:=fun σ H Q=>to σ H fun x H1=>Xb K T x H1/\r x [] H1 Q
def Wk (K:W.Frag) (T:String) (r:V->List V->Hp->VK->Prop) (to:TE) (t:TA):TE:=fun σ H Q=>to σ H fun x H1=>Xb K T x H1/\t σ H1 fun xs H2=>r x xs H2 Q
variable {o e:Expr} {es:List Expr} {to:TE} {t:TA} {name:Str} {apos cpos:Pos} {T id:String} {r:V->List V->Hp->VK->Prop}
theorem Qk (pa:PlainAttrs T) (slot:Slot T name id) (hty:typeOf (.builtin id)=pure (.type "method_descriptor")) (hm:Qg X id r) (ho:PE X o to)
  (hbase:attributeBase o name X.env (eval o X.env)=eval o X.env:=by rfl) (hline:(apos.endLine == cpos.line)=true:=by rfl):PE X (.Call (.Attribute o name apos) [] [] cpos) (Qj X.K T r to):=by
 intro pins s σ H Q I h;refine wpAny_Call_method0_late hbase hline (bK (ho pins s σ H _ I h) fun v s1 ⟨x,H1,I1,r1,ty,q1⟩=>?_)
 obtain⟨h1,h2⟩:=Ed I1 r1 ty
 exact⟨T,id,pa,slot,hty,h1,h2,Calls.callWith_builtin rfl (PySem.evalArgs_none (hm pins s1 σ H1 x [] v [] Q I1 r1 .nil q1))⟩
theorem Uh (pa:PlainAttrs T) (slot:Slot T name id) (hty:typeOf (.builtin id)=pure (.type "method_descriptor")) (hm:Qg X id r) (ho:PE X o to) (ha:PA X (e::es) t)
  (hbase:attributeBase o name X.env (eval o X.env)=eval o X.env:=by rfl)
  (hfew:((backTo cpos (starEach (e::es) X.env)).all (fun x=>!x.1)&&(backToKw cpos (keywordEach [] X.env)).all (fun x=>x.1.isSome)
   && decide ((e::es).length+([]:List Keyword).length+(if ([]:List Keyword).isEmpty then 0 else 1)<30))=true:=by rfl)
  (hline:(apos.endLine == cpos.line)=true:=by rfl) (hs:starEach (e::es) X.env=(false,eval e X.env)::starEach es X.env:=by rfl) (hplain:(backTo cpos (starEach es X.env)).any (·.1)=false:=by rfl) :
  PE X (.Call (.Attribute o name apos) (e::es) [] cpos) (Wk X.K T r to t):=by
 intro pins s σ H Q I h;refine wpAny_Call_method_late hbase hfew hline rfl (bK (ho pins s σ H _ I h) fun v s1 ⟨x,H1,I1,r1,ty,q1⟩=>?_)
 obtain⟨h1,h2⟩:=Ed I1 r1 ty
 refine⟨T,id,pa,slot,hty,h1,h2,?_⟩
 have hA:=ha cpos pins s1 σ H1 _ I1 q1
 rw[hs]at hA ⊢;refine Calls.callWith_builtin (by show(false||(backTo cpos (starEach es X.env)).any (·.1))=false;rw[hplain] <;> rfl) (Calls.evalArgs_plain ?_)
 exact bK hA fun us s2 ⟨vs,H2,I2,r2,q2⟩=>hm pins s2 σ H2 x vs v us Q I2 r1 r2 q2
/- xs.append(e),list.index on a module's tuple .. are Qg facts of 06m -/
end
end L2
namespace L2
open PySem PySem.Spec PyProof.Rows
def Tf (X:Cx) (id:String) (r:V->List V->Hp->VK->Prop):Prop:=
 ∀(pins:List (Addr × Obj)) (s:Shared) (σ:St) (H:Hp) (x:V) (xs:List V) (v:Value) (us:List Value) (Q:VK),Inv X pins σ H s->RelV x v->Vals xs us->r x xs H Q →
  wpAny (model X.prog X.w) X.A (call (.builtin id) (v::us)) (EP X pins σ Q) X.xe s
theorem Vals.one:∀ {x:V} {us:List Value},Vals [x] us->∃u,us=[u]/\RelV x u
 | _,_,.cons r .nil=>⟨_,rfl,r⟩
theorem Vals.two:∀ {x y:V} {us:List Value},Vals [x,y] us->∃u v,us=[u,v]/\RelV x u/\RelV y v
 | _,_,_,.cons r (.cons q .nil)=>⟨_,_,rfl,r,q⟩
theorem Vals.zero:∀ {us:List Value},Vals [] us->us=[]
 | _,.nil=>rfl
theorem Vals.dropLast {xs:List V} {us:List Value} (h:Vals xs us):Vals xs.dropLast us.dropLast:=by
 induction h with
 | nil=>exact .nil
 | cons r t ih=>
  cases t with
  | nil=>exact .nil
  | cons q t'=>exact .cons r ih
theorem Vals.eraseIdx:∀ {xs:List V} {us:List Value} (i:Nat),Vals xs us->Vals (xs.eraseIdx i) (us.eraseIdx i)
 | _,_,_,.nil=>.nil
 | _,_,0,.cons _ t=>t
 | _,_,i+1,.cons r t=>.cons r (Vals.eraseIdx i t)
theorem wZ {α:Type} (l:List α):l.eraseIdx (l.length - 1)=l.dropLast:=by
 induction l with
 | nil=>rfl
 | cons a r ih=>
  cases r with
  | nil=>rfl
  | cons b r=>
   have e:(a::b::r).length - 1=((b::r).length - 1)+1:=by
    have h1:(a::b::r).length=r.length+2:=rfl
    have h2:(b::r).length=r.length+1:=rfl
    omega
   rw[e,List.eraseIdx_cons_succ,ih];all_goals rfl
theorem qH {α:Type}:∀(l:List α) (i:Nat),(l.eraseIdx i).length<=l.length
 | [],_=>cA _
 | _::_,0=>Nat.le_succ _
 | _::r,i+1=>Nat.succ_le_succ (qH r i)
section
variable {X:Cx} {pins:List (Addr × Obj)} {σ:St} {H:Hp} {s:Shared} {l b:Addr} {xs ys zs:List V}
theorem Inv.lset {its its':List Value} {n:Nat} {f:Array Value->Array Value} {t':Nat} (I:Inv X pins σ H s) (hH:H l=some (.lst xs))
  (e:s.heap.get? l=some {cls:=.type "list",data:=.seq its.toArray n }) (hf:f its.toArray=its'.toArray) (hv:Vals ys its') (hz:ys.length<=sizeLine) :
  Inv X pins σ (aH H l (.lst ys)) {s with heap:=s.heap.update l (Obj.mapSeq f),toks:=t' }:=by
 have q:=PySem.IsL.update e f
 rw[hf]at q;refine I.write (x:=l) (e:=l) (by rw[hH];exact trivial) (.inl rfl) (fun b' u hb hu=>(Heap.get?_update_other s.heap (Obj.mapSeq f) (Ne.symm hb)).trans hu) ⟨_,q⟩ ?_
 exact⟨hz,its',_,hv,q⟩
theorem Inv.lnew {its:List Value} {t':Nat} (I:Inv X pins σ H s) (hv:Vals ys its) (hz:ys.length<=sizeLine) :
  Inv X pins σ (aH H s.heap.objs.size (.lst ys)) {s with heap:=s.heap.push {cls:=.type "list",data:=.seq its.toArray },toks:=t' }:=
 I.laid (fun _ _ q=>iO _ q) (cA _) ⟨hz,its,0,hv,Heap.get?_push_size _ rfl⟩
theorem Inv.fresh (I:Inv X pins σ H s):H s.heap.objs.size=none:=I.hok.fresh (cA _)
theorem Inv.lstM (I:Inv X pins σ H s) (hH:H l=some (.lst xs)):xs.length<=sizeLine/\∃(its:List Value) (n:Nat),Vals xs its/\xs.length=its.length/\s.heap.get? l=some {cls:=.type "list",data:=.seq its.toArray n }:=by
 obtain⟨z,its,n,r,e⟩:=I.hok l _ hH
 exact⟨z,its,n,r,r.length,e⟩
theorem Ee {n:Nat} (h:n<=sizeLine):Builtin.List.listTooLong n=false:=by
 unfold Builtin.List.listTooLong;exact decide_eq_false Zo
end
section
variable {X:Cx}
def yV:V->List V->Hp->VK->Prop:=fun x vs H Q=>∃l xs y,x=.ref l/\vs=[y]/\H l=some (.lst xs)/\xs.length<sizeLine/\Q .non (aH H l (.lst (xs++[y])))
theorem Bg:Tf X "list.append" yV:=by
 intro pins s σ H x vs v us Q I rx rv h;obtain⟨l,xs,y,rfl,rfl,hH,hz,q⟩:=h
 cases rx
 obtain⟨u,rfl,ru⟩:=rv.one
 obtain⟨z,its,n,r,hl,e⟩:=I.lstM hH
 refine call_meets F.slot_list_append ⟨_,e,rfl⟩ F.entry_list_append (F.args_list_append_2 _ _) (PySem.list_append l its.toArray n u (by rw[dF];omega)) ⟨e,?_⟩
 refine⟨.non,_,I.lset (its':=its++[u]) hH e Zs (r.append (.cons ru .nil)) ?_,rfl,q⟩
 rw[wC,List.length_singleton];omega
def Kg:V->List V->Hp->VK->Prop:=fun x vs H Q=>∃l b xs zs,x=.ref l/\vs=[.ref b]/\H l=some (.lst xs)/\H b=some (.lst zs)/\xs.length+zs.length<=sizeLine/\Q .non (aH H l (.lst (xs++zs)))
theorem Tg:Tf X "list.extend" Kg:=by
 intro pins s σ H x vs v us Q I rx rv h;obtain⟨l,b,xs,zs,rfl,rfl,hH,hB,hz,q⟩:=h
 cases rx
 obtain⟨u,rfl,ru⟩:=rv.one
 cases ru
 obtain⟨z,its,n,r,hl,e⟩:=I.lstM hH
 obtain⟨z2,its2,n2,r2,hl2,e2⟩:=I.lstM hB
 have hsz:its.toArray.size+its2.toArray.size<=sizeLine:=by rw[dF,dF];omega
 have hlong:¬ (!its.toArray.isEmpty&&Builtin.List.listTooLong (its.toArray.size+its2.toArray.size))=true:=by
  rw[Ee hsz,Bool.and_false];exact Bool.false_ne_true
 refine call_meets F.slot_list_extend ⟨_,e,rfl⟩ F.entry_list_extend (F.args_list_extend_2 _ _)
  (AutoSeq1.list_extend_list_list_0 l its.toArray n b its2.toArray n2 hlong (by rw[dF];omega) Zo) ⟨e,e2,?_⟩
 refine⟨.non,_,I.lset (its':=its++its2) hH e Zs (r.append r2) ?_,rfl,q⟩
 rw[wC];omega
def Xc:V->List V->Hp->VK->Prop:=fun x vs H Q=>∃l xs y,x=.ref l/\vs=[]/\H l=some (.lst xs)/\xs[xs.length - 1]?=some y/\Q y (aH H l (.lst xs.dropLast))
theorem Xd:Tf X "list.pop" Xc:=by
 intro pins s σ H x vs v us Q I rx rv h;obtain⟨l,xs,y,rfl,rfl,hH,hy,q⟩:=h
 cases rx
 have hus:=rv.zero
 subst hus;obtain⟨z,its,n,r,hl,e⟩:=I.lstM hH
 obtain⟨u,hu,ru⟩:=r.get hy
 have hy':its.toArray[its.toArray.size - 1]?=some u:=by
  show its.toArray[its.length - 1]?=some u
  rw[<- Array.getElem?_toList,<- hl];exact hu
 refine call_meets F.slot_list_pop ⟨_,e,rfl⟩ F.entry_list_pop (F.args_list_pop_1 _) (MeetsSeq.list_pop_last l its.toArray n u hy' (by rw[dF];omega)) ⟨e,?_⟩
 refine⟨y,_,I.lset (its':=its.dropLast) hH e ?_ r.dropLast ?_,ru,q⟩
 ·show its.toArray.eraseIdxIfInBounds (its.toArray.size - 1)=its.dropLast.toArray
  rw[dF,List.eraseIdxIfInBounds_toArray,wZ]
 ·rw[List.length_dropLast];omega
def Ef:V->List V->Hp->VK->Prop:=fun x vs H Q=>∃l xs i k y,x=.ref l/\vs=[.int i]/\H l=some (.lst xs)/\-(2 ^ 63)<=i/\i<2 ^ 63/\seqIndex? i xs.length=some k/\xs[k]?=some y/\Q y (aH H l (.lst (xs.eraseIdx k)))
theorem Eg:Tf X "list.pop" Ef:=by
 intro pins s σ H x vs v us Q I rx rv h;obtain⟨l,xs,i,k,y,rfl,rfl,hH,h1,h2,hk,hy,q⟩:=h
 cases rx
 obtain⟨u,rfl,ru⟩:=rv.one
 obtain⟨t,rfl⟩:=ru
 obtain⟨z,its,n,r,hl,e⟩:=I.lstM hH
 obtain⟨w,hw,rw'⟩:=r.get hy
 refine call_meets F.slot_list_pop ⟨_,e,rfl⟩ F.entry_list_pop (F.args_list_pop_2 _ _)
  (MeetsSeq.list_pop_at l its.toArray n i t k w (fitsIndex_both h1 h2) (by rw[dF,<- hl];exact hk) (by rw[<- Array.getElem?_toList];exact hw) (by rw[dF];omega)) ⟨e,?_⟩
 refine⟨y,_,I.lset (its':=its.eraseIdx k) hH e ?_ (r.eraseIdx k) ?_,rw',q⟩
 ·show its.toArray.eraseIdxIfInBounds k=(its.eraseIdx k).toArray
  rw[List.eraseIdxIfInBounds_toArray]
 ·have:=qH xs k
  omega
def Eh:V->List V->Hp->VK->Prop:=fun x vs H Q=>∃l xs,x=.ref l/\vs=[]/\H l=some (.lst xs)/\Q .non (aH H l (.lst []))
theorem Ei:Tf X "list.clear" Eh:=by
 intro pins s σ H x vs v us Q I rx rv h;obtain⟨l,xs,rfl,rfl,hH,q⟩:=h
 cases rx
 have hus:=rv.zero
 subst hus;obtain⟨z,its,n,r,hl,e⟩:=I.lstM hH
 refine call_meets F.slot_list_clear ⟨_,e,rfl⟩ F.entry_list_clear (F.args_list_clear_1 _) (AutoSeq1.list_clear_list_0 l its.toArray n (by rw[dF];omega)) ⟨e,?_⟩
 exact⟨.non,_,I.lset (its':=[]) (ys:=[]) hH e rfl .nil (Nat.zero_le _),rfl,q⟩
def Xe:R2:=fun x y H Q=>∃l b xs zs,x=.ref l/\y=.ref b/\H l=some (.lst xs)/\H b=some (.lst zs)/\xs.length+zs.length<=sizeLine/\∀p,H p=none->Q (.ref p) (aH H p (.lst (xs++zs)))
theorem Ql:OpR X (binaryOp .Add) Xe:=by
 intro pins s σ H x y v u Q I rx ry h;obtain⟨l,b,xs,zs,rfl,rfl,hH,hB,hz,q⟩:=h
 cases rx
 cases ry
 obtain⟨z,its,n,r,hl,e⟩:=I.lstM hH
 obtain⟨z2,its2,n2,r2,hl2,e2⟩:=I.lstM hB
 refine PySem.P.add_list e e2 ?_ (by rw[dF,dF];omega)
 have ea:its.toArray++its2.toArray=(its++its2).toArray:=by simp
 rw[ea];exact⟨.ref _,_,I.lnew (t':=s.toks) (r.append r2) (by rw[wC];omega),rfl,q _ I.fresh⟩
end
end L2
namespace L2
open PySem PySem.Spec PyProof.Rows
section
variable {κ:Type} [DecidableEq κ]
def aX (kvs:List (κ × V)) (k:κ):Option V:=(kvs.find? fun kv=>decide (kv.1=k)).map (·.2)
def bF (kvs:List (κ × V)) (k:κ) (v:V):List (κ × V):=
 if (kvs.any fun kv=>decide (kv.1=k))=true then kvs.map (fun kv=>if kv.1=k then (kv.1,v) else kv) else kvs++[(k,v)]
def bV (kvs:List (κ × V)) (k:κ):List (κ × V):=kvs.filter fun kv=>decide (kv.1≠k)
theorem bP {p:κ × V} {r:List (κ × V)} {k:κ} (e:p.1=k):aX (p::r) k=some p.2:=by simp [aX,List.find?_cons,e]
theorem bQ {p:κ × V} {r:List (κ × V)} {k:κ} (e:¬ p.1=k):aX (p::r) k=aX r k:=by simp [aX,List.find?_cons,e]
theorem cB (k:κ):∀kvs:List (κ × V),(kvs.any fun kv=>decide (kv.1=k))=(aX kvs k).isSome
 | []=>rfl
 | p::r=>by
  rw[List.any_cons];by_cases e:p.1=k
  ·simp only [bP e,decide_eq_true e,Bool.true_or,Option.isSome_some]
  ·rw[bQ e,decide_eq_false e,Bool.false_or];exact cB k r
theorem uI (k j:κ) (y:V):∀kvs:List (κ × V),aX (kvs.map fun kv=>if kv.1=k then (kv.1,y) else kv) j=(aX kvs j).map fun x=>if j=k then y else x
 | []=>rfl
 | p::r=>by
  have ih:=uI k j y r
  rw[List.map_cons];by_cases h:p.1=k
  ·rw[if_pos h];by_cases e:p.1=j
   ·rw[bP (p:=(p.1,y)) e,bP e,Option.map_some,if_pos (e.symm.trans h)]
   ·rw[bQ (p:=(p.1,y)) e,bQ e,ih]
  ·rw[if_neg h];by_cases e:p.1=j
   ·rw[bP (p:=p) e,bP e,Option.map_some,if_neg (fun z=>h (e.trans z))]
   ·rw[bQ (p:=p) e,bQ e,ih]
theorem qI (k j:κ) (y:V):∀kvs:List (κ × V),aX kvs k=none->aX (kvs++[(k,y)]) j=if j=k then some y else aX kvs j
 | [],_=>by
  by_cases e:k=j
  ·rw[if_pos e.symm];exact bP (p:=(k,y)) e
  ·rw[if_neg (fun z=>e z.symm)];exact bQ (p:=(k,y)) e
 | p::r,hn=>by
  rw[List.cons_append];have hk:¬ p.1=k:=fun z=>by rw[bP z]at hn;cases hn
  rw[bQ hk]at hn;have ih:=qI k j y r hn
  by_cases e:p.1=j
  ·rw[bP e,bP e,if_neg (fun z=>hk (e.trans z))]
  ·rw[bQ e,bQ e,ih]
theorem uJ (kvs:List (κ × V)) (k j:κ) (y:V):aX (bF kvs k y) j=if j=k then some y else aX kvs j:=by
 unfold bF;by_cases a:(kvs.any fun kv=>decide (kv.1=k))=true
 ·rw[if_pos a,uI];rw[cB]at a;by_cases e:j=k
  ·obtain⟨x,hx⟩:=Option.isSome_iff_exists.mp a
   rw[if_pos e,e,hx,Option.map_some,if_pos rfl]
  ·rw[if_neg e];cases aX kvs j with
   | none=>rfl
   | some x=>rw[Option.map_some,if_neg e]
 ·rw[if_neg a];refine qI k j y kvs ?_
  rw[cB]at a;cases q:aX kvs k with
  | none=>rfl
  | some x=>rw[q]at a;exact(a rfl).elim
theorem eP (kvs:List (κ × V)) (k:κ) (v:V):(bF kvs k v).length<=kvs.length+1:=by
 unfold bF;split
 ·rw[bN];omega
 ·rw[wC,wG,List.length_nil];omega
theorem fV {kvs:List (κ × V)} {k:κ} (v:V) (h:aX kvs k=none):bF kvs k v=kvs++[(k,v)]:=by
 unfold bF;rw[cB,h];exact if_neg Zd
theorem RelO.isSome_eq {o:Option V} {u:Option Value} (r:RelO o u):o.isSome=u.isSome:=by
 cases o with
 | none=>cases u with
  | none=>rfl
  | some _=>exact(show False from r).elim
 | some _=>cases u with
  | none=>exact(show False from r).elim
  | some _=>rfl
theorem RelO.getD {o:Option V} {u:Option Value} {d:V} {d':Value} (r:RelO o u) (rd:RelV d d'):RelV (o.getD d) (u.getD d'):=by
 cases o with
 | none=>cases u with
  | none=>exact rd
  | some _=>exact(show False from r).elim
 | some _=>cases u with
  | none=>exact(show False from r).elim
  | some _=>exact r
theorem KV.val {kvs:List (κ × V)} {vs:List (κ × Value)} (r:KV kvs vs) (k:κ):RelO (aX kvs k) (valueAt vs k):=by
 unfold KV at r;induction r with
 | nil=>exact True.intro
 | @cons p q ps qs h t ih=>
  obtain⟨h1,h2⟩:=h
  by_cases e:p.1=k
  ·have e':q.1=k:=h1.symm.trans e
   have b:valueAt (q::qs) k=some q.2:=by simp [valueAt,List.find?_cons,e']
   rw[bP e,b];exact h2
  ·have e':¬ q.1=k:=fun z=>e (h1.trans z)
   have b:valueAt (q::qs) k=valueAt qs k:=by simp [valueAt,List.find?_cons,e']
   rw[bQ e,b];exact ih
theorem KV.any {kvs:List (κ × V)} {vs:List (κ × Value)} (r:KV kvs vs) (k:κ):(kvs.any fun kv=>decide (kv.1=k))=vs.any fun kv=>decide (kv.1=k):=by
 unfold KV at r;induction r with
 | nil=>rfl
 | cons h t ih=>rw[List.any_cons,List.any_cons,ih,h.1]
theorem KV.repl {kvs:List (κ × V)} {vs:List (κ × Value)} (r:KV kvs vs) (k:κ) {y:V} {u:Value} (ry:RelV y u) :
  KV (kvs.map fun kv=>if kv.1=k then (kv.1,y) else kv) (vs.map fun kv=>if kv.1=k then (kv.1,u) else kv):=by
 unfold KV at r ⊢
 induction r with
 | nil=>exact .nil
 | @cons p q ps qs h t ih=>
  rw[List.map_cons,List.map_cons];refine .cons ?_ ih
  obtain⟨h1,h2⟩:=h
  by_cases e:p.1=k
  ·rw[if_pos e,if_pos (h1.symm.trans e)];exact⟨h1,ry⟩
  ·rw[if_neg e,if_neg (fun z=>e (h1.trans z))];exact⟨h1,h2⟩
theorem KV.put {kvs:List (κ × V)} {vs:List (κ × Value)} (r:KV kvs vs) (k:κ) {y:V} {u:Value} (ry:RelV y u):KV (bF kvs k y) (stored vs k u):=by
 unfold bF stored;rw[r.any k];by_cases e:(vs.any fun kv=>decide (kv.1=k))=true
 ·rw[if_pos e,if_pos e];exact r.repl k ry
 ·rw[if_neg e,if_neg e];exact Paired.snoc r ⟨rfl,ry⟩
theorem KV.drop {kvs:List (κ × V)} {vs:List (κ × Value)} (r:KV kvs vs) (k:κ):KV (bV kvs k) (without vs k):=by
 unfold KV at r ⊢
 unfold bV without;induction r with
 | nil=>exact .nil
 | @cons p q ps qs h t ih=>
  obtain⟨h1,h2⟩:=h
  rw[List.filter_cons,List.filter_cons];by_cases e:p.1=k
  ·have a:¬ decide (p.1≠k)=true:=by simp [e]
   have b:¬ decide (q.1≠k)=true:=by simp [h1.symm.trans e]
   rw[if_neg a,if_neg b];exact ih
  ·have e':¬ q.1=k:=fun z=>e (h1.trans z)
   have a:decide (p.1≠k)=true:=by simp [e]
   have b:decide (q.1≠k)=true:=by simp [e']
   rw[if_pos a,if_pos b];exact .cons ⟨h1,h2⟩ ih
theorem KV.keys {kvs:List (κ × V)} {vs:List (κ × Value)} (r:KV kvs vs):kvs.map (·.1)=vs.map (·.1):=by
 unfold KV at r;induction r with
 | nil=>rfl
 | cons h t ih=>rw[List.map_cons,List.map_cons,ih,h.1]
theorem KV.length {kvs:List (κ × V)} {vs:List (κ × Value)} (r:KV kvs vs):kvs.length=vs.length:=Paired.length r
theorem kO (kvs:List (κ × V)) (k:κ):(bV kvs k).length<=kvs.length:=List.length_filter_le _ _
end
theorem kP {P:Program} {w:World} {k:aZ} {u:Value} (r:RelV (kV k) u):(aS P w).is k u=true:=by
 cases k with
 | inl i=>obtain⟨t,e⟩:=(show ∃t,u=Value.int i t from r);subst e;exact tZ P w i t
 | inr x=>obtain⟨t,e⟩:=(show ∃t,u=Value.str x t from r);subst e;exact uA P w x t
theorem qJ {P:Program} {w:World}:∀ {ks:List aZ} {us:List Value},Vals (ks.map kV) us->ItemsAre (aS P w) ks us
 | [],_,r=>by rw[List.map_nil]at r;cases r;exact .nil
 | k::ks,_,r=>by
  rw[List.map_cons]at r;cases r with
  | cons h t=>exact .cons (kP h) (qJ t)
abbrev KT (H:Hp):List (List aZ × V)->List (List aZ × Addr × Value)->Prop:=Paired fun p q=>p.1=q.1/\H q.2.1=some (.tup (p.1.map kV))/\RelV p.2 q.2.2
theorem KT.val {H:Hp} {kvs:List (List aZ × V)} {xs:List (List aZ × Addr × Value)} (r:KT H kvs xs) (k:List aZ):RelO (aX kvs k) ((atKey xs k).map (·.2)):=by
 induction r with
 | nil=>exact True.intro
 | @cons p q ps qs h t ih=>
  obtain⟨h1,_,h2⟩:=h
  by_cases e:p.1=k
  ·have e':q.1=k:=h1.symm.trans e
   have b:atKey (q::qs) k=some q.2:=by simp [atKey,List.find?_cons,e']
   rw[bP e,b];exact h2
  ·have e':¬ q.1=k:=fun z=>e (h1.trans z)
   have b:atKey (q::qs) k=atKey qs k:=by simp [atKey,List.find?_cons,e']
   rw[bQ e,b];exact ih
theorem KT.repl {H:Hp} {kvs:List (List aZ × V)} {xs:List (List aZ × Addr × Value)} (r:KT H kvs xs) (k:List aZ) {y:V} {u:Value} (ry:RelV y u) :
  KT H (kvs.map fun kv=>if kv.1=k then (kv.1,y) else kv) (xs.map (putAt k u)):=by
 induction r with
 | nil=>exact .nil
 | @cons p q ps qs h t ih=>
  rw[List.map_cons,List.map_cons];refine .cons ?_ ih
  obtain⟨h1,h2,h3⟩:=h
  unfold putAt;by_cases e:p.1=k
  ·rw[if_pos e,if_pos (h1.symm.trans e)];exact⟨h1,h2,ry⟩
  ·rw[if_neg e,if_neg (fun z=>e (h1.trans z))];exact⟨h1,h2,h3⟩
theorem KT.put {H:Hp} {kvs:List (List aZ × V)} {xs:List (List aZ × Addr × Value)} (r:KT H kvs xs) (k:List aZ) {b:Addr} {y:V} {u:Value} (hb:H b=some (.tup (k.map kV))) (ry:RelV y u) :
  KT H (bF kvs k y) (storedH xs k b u):=by
 have e:(kvs.any fun kv=>decide (kv.1=k))=(atKey xs k).isSome:=by
  rw[cB,(r.val k).isSome_eq,Option.isSome_map]
 unfold bF storedH;rw[e];by_cases q:(atKey xs k).isSome=true
 ·rw[if_pos q,if_pos q];exact r.repl k ry
 ·rw[if_neg q,if_neg q];exact Paired.snoc r ⟨rfl,hb,ry⟩
theorem KT.keeps {H H':Hp} {kvs:List (List aZ × V)} {xs:List (List aZ × Addr × Value)} (r:KT H kvs xs) (ht:∀b ys,H b=some (.tup ys)->H' b=some (.tup ys)):KT H' kvs xs:=
 Paired.mapP r fun _ _ z=>⟨z.1,ht _ _ z.2.1,z.2.2⟩
section
variable {P:Program} {w:World} {H:Hp} {h:Heap} {a:Addr}
theorem Nj {u:HO} (ok:HOk P w H h) (e:Rd H a u):ObjOk P w H h a u:=e.ok ok
theorem jP {kvs:List (aZ × V)} (ok:HOk P w H h) (e:Rd H a (.dK kvs)):kvs.length<=sizeLine/\(a == sysModules)=false/\∃vs,KV kvs vs/\h.DictOf (aS P w) a vs:=
 show ObjOk P w H h a (.dK kvs) from Nj ok e
theorem qK {kvs:List (aZ × V)} (ok:HOk P w H h) (e:H a=some (.dK kvs)):kvs.length<=sizeLine/\(a == sysModules)=false/\∃vs,KV kvs vs/\h.DictOf (aS P w) a vs:=jP ok (.inl e)
theorem iR {ks:List aZ} (ok:HOk P w H h) (e:H a=some (.tup (ks.map kV))):(tupleKind (aS P w)).is h ks a:=by
 obtain⟨_,its,r,o,h1,h2,n,h3⟩:=(show ObjOk P w H h a (.tup (ks.map kV)) from ok a _ e)
 exact⟨o,its.toArray,n,h1,h2,h3,by simpa using qJ r⟩
theorem oO {kvs:List (List aZ × V)} (ok:HOk P w H h) (e:Rd H a (.dT kvs)):kvs.length<=sizeLine/\(a == sysModules)=false ∧
  ∃xs,KT H kvs xs/\h.DictOfH (tupleKind (aS P w)) a xs:=by
 obtain⟨z,y,xs,r,o,es,ep,h1,h2,h3,h4,h5⟩:=(show ObjOk P w H h a (.dT kvs) from Nj ok e)
 refine⟨z,y,xs,r,o,es,ep,h1,h2,h3,h4,fun x hx=>?_,h5⟩
 have all:∀ {l:List (List aZ × V)} {m:List (List aZ × Addr × Value)},KT H l m->∀x∈m,(tupleKind (aS P w)).is h x.1 x.2.1:=by
  intro l m q;induction q with
  | nil=>intro x hx;exact nomatch hx
  | @cons p q ps qs hq t ih=>
   intro x hx;rcases List.mem_cons.mp hx with e | hx
   ·subst e;exact iR ok (by rw[<- hq.1];exact hq.2.1)
   ·exact ih x hx
 exact all r x hx
theorem Ej {kvs:List (List aZ × V)} (ok:HOk P w H h) (e:H a=some (.dT kvs)):kvs.length<=sizeLine/\(a == sysModules)=false ∧
  ∃xs,KT H kvs xs/\h.DictOfH (tupleKind (aS P w)) a xs:=oO ok (.inl e)
end
def DGet (H:Hp) (a:Addr) (y:V) (r:Option V):Prop:=
 (∃kvs k,Rd H a (.dK kvs)/\y=kV k/\r=aX kvs k)∨∃kvs k b,Rd H a (.dT kvs)/\y=.ref b/\H b=some (.tup (k.map kV))/\r=aX kvs k
def DPut (H:Hp) (a:Addr) (y v:V) (H':Hp):Prop:=
 (∃kvs k,H a=some (.dK kvs)/\y=kV k/\kvs.length<sizeLine/\H'=aH H a (.dK (bF kvs k v)))∨
 ∃kvs k b,H a=some (.dT kvs)/\y=.ref b/\H b=some (.tup (k.map kV))/\kvs.length<sizeLine/\H'=aH H a (.dT (bF kvs k v))
theorem DGet.k {H:Hp} {a:Addr} {kvs:List (aZ × V)} {k:aZ} (e:H a=some (.dK kvs)):DGet H a (kV k) (aX kvs k):=.inl ⟨kvs,k,.inl e,rfl,rfl⟩
theorem DGet.t {H:Hp} {a b:Addr} {kvs:List (List aZ × V)} {k:List aZ} (e:H a=some (.dT kvs)) (eb:H b=some (.tup (k.map kV))):DGet H a (.ref b) (aX kvs k):=.inr ⟨kvs,k,b,.inl e,rfl,eb,rfl⟩
theorem DPut.k {H:Hp} {a:Addr} {kvs:List (aZ × V)} {k:aZ} {v:V} (e:H a=some (.dK kvs)) (hl:kvs.length<sizeLine):DPut H a (kV k) v (aH H a (.dK (bF kvs k v))):=.inl ⟨kvs,k,e,rfl,hl,rfl⟩
theorem DPut.t {H:Hp} {a b:Addr} {kvs:List (List aZ × V)} {k:List aZ} {v:V} (e:H a=some (.dT kvs)) (eb:H b=some (.tup (k.map kV))) (hl:kvs.length<sizeLine) :
  DPut H a (.ref b) v (aH H a (.dT (bF kvs k v))):=.inr ⟨kvs,k,b,e,rfl,eb,hl,rfl⟩
section
variable {X:Cx} {pins:List (Addr × Obj)} {σ:St} {H:Hp} {s:Shared} {a:Addr} {y v:V} {u r:Value} {o:Option V} {A:Around} {E:Value->Shared->Prop}
theorem Inv.big (I:Inv X pins σ H s):sysModules<s.heap.objs.size:=by
 have h:mainGlobals<s.heap.objs.size:=(I.mod.glob.keeps I.bk).lt
 exact Nat.lt_trans Zd h
theorem Bh {Q:Value->Shared->Prop} (hu:A.units+1<cLine) (I:Inv X pins σ H s) (g:DGet H a y (some v)) (ry:RelV y u) (h:∀w' s',Inv X pins σ H s'->RelV v w'->Q w' s') :
  wpAny (model X.prog X.w) A (getItem (.ref a) u) Q E s:=by
 rcases g with⟨kvs,k,e,ey,l⟩ | ⟨kvs,k,b,e,ey,eb,l⟩
 ·subst ey;obtain⟨z,hd,vs,rel,dd⟩:=jP I.hok e
  obtain⟨w',hw,rw'⟩:=RelO.some_of (v:=v) (o:=valueAt vs k) (by rw[l];exact rel.val k)
  exact wpAny_getItem_of (kP ry) dd.mapOf hw (h w' _ (I.tok _) rw')
 ·subst ey;cases (show u=Value.ref b from ry)
  obtain⟨z,hd,xs,rel,dd⟩:=oO I.hok e
  obtain⟨w',hw,rw'⟩:=RelO.some_of (v:=v) (o:=(atKey xs k).map (·.2)) (by rw[l];exact rel.val k)
  obtain⟨p,hp,hp2⟩:=Option.map_eq_some_iff.mp hw
  refine wpAny_getItem_heap (tupleKind_room_in1 hu) (iR I.hok eb) dd hp ?_
  rw[hp2];exact h w' _ (I.tok _) rw'
theorem Ui {Q:Value->Shared->Prop} (hu:A.units+1<cLine) (I:Inv X pins σ H s) (g:DGet H a y o) (ry:RelV y u) (h:∀s',Inv X pins σ H s'->Q (.bool o.isSome) s') :
  wpAny (model X.prog X.w) A (compareOp .In u (.ref a)) Q E s:=by
 rcases g with⟨kvs,k,e,ey,l⟩ | ⟨kvs,k,b,e,ey,eb,l⟩
 ·subst ey;obtain⟨z,hd,vs,rel,dd⟩:=jP I.hok e
  refine wpAny_in_of (kP ry) hd dd.mapOf ?_
  rw[<- (rel.val k).isSome_eq,<- l];exact h _ (I.tok _)
 ·subst ey;cases (show u=Value.ref b from ry)
  obtain⟨z,hd,xs,rel,dd⟩:=oO I.hok e
  refine wpAny_in_heap (tupleKind_room_in1 hu) (iR I.hok eb) hd dd ?_
  have q:=(rel.val k).isSome_eq
  rw[Option.isSome_map]at q;rw[<- q,<- l];exact h _ (I.tok _)
theorem yW {Q:Value->Shared->Prop} (hu:A.units+1<cLine) (I:Inv X pins σ H s) (g:DGet H a y o) (ry:RelV y u) (h:∀s',Inv X pins σ H s'->Q (.bool (!o.isSome)) s') :
  wpAny (model X.prog X.w) A (compareOp .NotIn u (.ref a)) Q E s:=by
 rcases g with⟨kvs,k,e,ey,l⟩ | ⟨kvs,k,b,e,ey,eb,l⟩
 ·subst ey;obtain⟨z,hd,vs,rel,dd⟩:=jP I.hok e
  refine wpAny_notIn_of (kP ry) hd dd.mapOf ?_
  rw[<- (rel.val k).isSome_eq,<- l];exact h _ (I.tok _)
 ·subst ey;cases (show u=Value.ref b from ry)
  obtain⟨z,hd,xs,rel,dd⟩:=oO I.hok e
  refine wpAny_notIn_heap (tupleKind_room_in1 hu) (iR I.hok eb) hd dd ?_
  have q:=(rel.val k).isSome_eq
  rw[Option.isSome_map]at q;rw[<- q,<- l];exact h _ (I.tok _)
theorem kQ {h':Heap} {t':Nat} {ob:HO} (I:Inv X pins σ H s) (mu:Tl (H a)) (hs:Heap.SameBut a s.heap h') (he:∃q,h'.get? a=some q) (new:ObjOk X.prog X.w (aH H a ob) h' a ob) :
  Inv X pins σ (aH H a ob) {s with heap:=h',toks:=t' }:=
 I.write (x:=a) (e:=a) mu (.inl rfl) (fun b q hb z=>(hs.2 b hb).trans z) he new
theorem xA {P:Program} {w:World} {H':Hp} {h':Heap} {kvs:List (aZ × V)} {vs:List (aZ × Value)} (z:kvs.length<=sizeLine) (hd:(a == sysModules)=false) (rel:KV kvs vs) (dd:h'.DictOf (aS P w) a vs) :
  ObjOk P w H' h' a (.dK kvs):=⟨z,hd,vs,rel,dd⟩
theorem Bi {H':Hp} {Q:Unit->Shared->Prop} (hu:A.units+1<cLine) (I:Inv X pins σ H s) (g:DPut H a y v H') (ry:RelV y u) (rv:RelV v r) (h:∀s',Inv X pins σ H' s'->Q () s') :
  wpAny (model X.prog X.w) A (setItem (.ref a) u r) Q E s:=by
 rcases g with⟨kvs,k,e,ey,l,eH⟩ | ⟨kvs,k,b,e,ey,eb,l,eH⟩
 ·subst ey eH;obtain⟨z,hd,vs,rel,dd⟩:=qK I.hok e
  have hz:vs.length<=sizeLine:=by rw[<- rel.length];exact z
  have hl:(bF kvs k v).length<=sizeLine:=by have:=eP kvs k v;omega
  refine wpAny_setItem_pairs (hsz:=hz) (kP ry) dd fun h' dd' hs=>h _ ?_
  have he:∃q,h'.get? a=some q:=let ⟨q,_,_,hq,_⟩:=dd';⟨q,hq⟩
  exact kQ I (by rw[e];exact True.intro) hs he (xA hl hd (rel.put k rv) dd')
 ·subst ey eH;cases (show u=Value.ref b from ry)
  obtain⟨z,hd,xs,rel,dd⟩:=Ej I.hok e
  have hz:xs.length<=sizeLine:=by rw[<- Paired.length rel];exact z
  have hl:(bF kvs k v).length<=sizeLine:=by have:=eP kvs k v;omega
  refine wpAny_setItem_heap (hsz:=hz) (tupleKind_room_in1 hu) (iR I.hok eb) dd fun h' dd' hs=>h _ ?_
  obtain⟨q,es,ep,hq,h2,h3,h4,_,h5⟩:=dd'
  refine kQ I (by rw[e];exact True.intro) hs ⟨q,hq⟩ ⟨hl,hd,_,(rel.put k eb rv).keeps fun c ys ec=>?_,q,es,ep,hq,h2,h3,h4,h5⟩
  rw[aD (aK ec e (fun z=>nomatch z))]
  exact ec
end
section
variable {X:Cx} {pins:List (Addr × Obj)} {σ:St} {H:Hp} {s:Shared} {a:Addr} {kvs:List (aZ × V)} {k:aZ} {u:Value} {A:Around} {E:Value->Shared->Prop}
theorem Ti {Q:Unit->Shared->Prop} (I:Inv X pins σ H s) (e:H a=some (.dK kvs)) (ry:RelV (kV k) u) (l:(aX kvs k).isSome=true) (h:∀s',Inv X pins σ (aH H a (.dK (bV kvs k))) s'->Q () s') :
  wpAny (model X.prog X.w) A (delItem (.ref a) u) Q E s:=by
 obtain⟨z,hd,vs,rel,dd⟩:=qK I.hok e
 refine wpAny_delItem_slot dd.typeIs Zd PySem.F.slot_dict_delitem
  (call_meetsIn PySem.F.slot_dict_delitem dd.typeIs PySem.F.entry_dict_delitem (PySem.F.args_dict_delitem_2 _ _) (meets_dict_delitem_pairs (aS X.prog X.w) a (kP ry)) ⟨vs,dd,by rw[<- rel.length];exact z,by rw[<- (rel.val k).isSome_eq];exact l,fun h' dd' hs=>h _ ?_⟩)
 have he:∃q,h'.get? a=some q:=let ⟨q,_,_,hq,_⟩:=dd';⟨q,hq⟩
 exact kQ I (by rw[e];exact True.intro) hs he (xA (fU (kO kvs k) z) hd (rel.drop k) dd')
theorem Uj {v:V} {more:List Value} {Q:Value->Shared->Prop} (I:Inv X pins σ H s) (e:H a=some (.dK kvs)) (ry:RelV (kV k) u) (l:aX kvs k=some v) (hm:more=[]∨∃x,more=[x])
  (h:∀w' s',Inv X pins σ (aH H a (.dK (bV kvs k))) s'->RelV v w'->Q w' s'):wpAny (model X.prog X.w) A (call (.builtin "dict.pop") (.ref a::u::more)) Q E s:=by
 obtain⟨z,hd,vs,rel,dd⟩:=qK I.hok e
 obtain⟨w',hw,rw'⟩:=RelO.some_of (v:=v) (o:=valueAt vs k) (by rw[<- l];exact rel.val k)
 have hp:(keyPart u).isSome=true:=by
  cases k with
  | inl i=>obtain⟨t,q⟩:=(show ∃t,u=Value.int i t from ry);subst q;rfl
  | inr x=>obtain⟨t,q⟩:=(show ∃t,u=Value.str x t from ry);subst q;rfl
 have ha:argsOk "dict.pop" ⟨.ref a::u::more,[]⟩:=by
  rcases hm with q | ⟨x,q⟩
  ·subst q;exact PySem.F.args_dict_pop_2 _ _
  ·subst q;exact PySem.F.args_dict_pop_3 _ _ _
 refine call_meetsIn PySem.F.slot_dict_pop dd.typeIs PySem.F.entry_dict_pop ha (meets_dict_pop_there (aS X.prog X.w) a (kP ry) more hm hp)
  ⟨vs,w',dd,by rw[<- rel.length];exact z,hw,fun h' dd' hs=>h w' _ ?_ rw'⟩
 have he:∃q,h'.get? a=some q:=let ⟨q,_,_,hq,_⟩:=dd';⟨q,hq⟩
 exact kQ I (by rw[e];exact True.intro) hs he (xA (fU (kO kvs k) z) hd (rel.drop k) dd')
theorem Uk {Q:Value->Shared->Prop} (I:Inv X pins σ H s) (e:Rd H a (.dK kvs)) (h:∀t s',Inv X pins σ H s'->Q (.int kvs.length t) s'):wpAny (model X.prog X.w) A (call (.builtin "len") [.ref a]) Q E s:=by
 obtain⟨z,hd,vs,rel,dd⟩:=jP I.hok e
 refine call_len_dict hd dd (by rw[<- rel.length];rw[sizeLine_eq]at z;omega) ?_
 rw[<- rel.length];exact h _ _ (I.tok _)
end
def Qm (i:Expr):Prop:=∀ov iv,subscripted i false ov iv=operate [ov,iv] (getItem ov iv)
theorem Kh {prog:Program} {w:World} {A:Around} {E:Value->Shared->Prop} {s:Shared} {env:Env} {value slice:Expr} {pos:Pos} {T id:String} {Q:Value->Shared->Prop}
  (hl:typeLookup (.type T) "__getitem__"=pure (some (.builtin id))) (hs:Qm slice)
  (h:wpAny (model prog w) A (eval value env) (fun o s₁=>wpAny (model prog w) A (eval slice env) (fun i s₂=>s₂.TypeIs o T/\wpAny (model prog w) A (getItem o i) Q E s₂) E s₁) E s) :
  wpAny (model prog w) A (eval (.Subscript value slice pos) env) Q E s:=by
 refine Subscript_ (wpAny_mono h (fun o s₁ h₁=>wpAny_mono h₁ (fun i s₂ h₂=>?_) fun _ _ x=>x) fun _ _ x=>x)
 obtain⟨hT,h₂⟩:=h₂
 unfold subscriptTail;refine wpAny_bind ?_
 rw[getitemInPython_of_ne hT.not_modules];refine wpAny_bind (wpAny_specialOf hT hl ?_)
 have fin:wpAny (model prog w) A (subscripted slice false o i) (fun r s₃=>wpAny (model prog w) A (letTemporaryGo value o r >>= fun _=>pure r) Q E s₃) E s₂:=by
  rw[hs o i];exact wpAny_operating (wpAny_mono h₂ (fun r s₃ h₃=>wpAny_bind (wpAny_letTemporaryGo (wpAny_pure h₃))) fun _ _ x=>x)
 first
  | exact wpAny_pure (wpAny_bind fin)
  | exact wpAny_bind (wpAny_pure (wpAny_bind fin))
  | exact wpAny_bind fin
theorem uK {X:Cx} {pins:List (Addr × Obj)} {σ:St} {H:Hp} {s:Shared} {a:Addr} {y:V} {o:Option V} (I:Inv X pins σ H s) (g:DGet H a y o):s.TypeIs (.ref a) "dict":=by
 rcases g with⟨kvs,k,e,_,_⟩ | ⟨kvs,k,b,e,_,_,_⟩
 ·obtain⟨_,_,vs,_,dd⟩:=jP I.hok e
  exact dd.typeIs
 ·obtain⟨_,_,xs,_,dd⟩:=oO I.hok e
  exact dd.typeIs
def Nk (td ty:TE):TE:=fun σ H Q=>td σ H fun x H1=>ty σ H1 fun y H2=>∃a v,x=.ref a/\DGet H2 a y (some v)/\Q v H2
section
variable {X:Cx} {o i e value:Expr} {pos pos' tpos:Pos} {td ty tv:TE}
theorem Ki (hu:X.A.units+1<cLine) (ho:PE X o td) (hi:PE X i ty) (hs:Qm i):PE X (.Subscript o i pos) (Nk td ty):=by
 intro pins s σ H Q I h;refine Kh PySem.F.slot_dict_getitem.lookup hs (bK (ho pins s σ H _ I h) fun u s1 ⟨x,H1,I1,rx,q1⟩=>bK (hi pins s1 σ H1 _ I1 q1) fun iv s2 ⟨y,H2,I2,ry,a,v,ex,g,q2⟩=>?_)
 subst ex;obtain rfl:u=Value.ref a:=rx
 exact⟨uK I2 g,Bh hu I2 g ry fun w' s3 I3 rw'=>⟨v,H2,I3,rw',q2⟩⟩
end
theorem Ek {P:Program} {w:World} {H:Hp} (h:Heap) (hb:sysModules<h.objs.size):ObjOk P w H (h.push {cls:=.type "dict",data:=.dict #[] }) h.objs.size (.dK []):=
 ⟨Nat.zero_le _,beq_eq_false_iff_ne.mpr (Ne.symm (Nat.ne_of_lt hb)),[],.nil,Heap.DictOf.new h⟩
theorem El {P:Program} {w:World} {H:Hp} (h:Heap) (hb:sysModules<h.objs.size):ObjOk P w H (h.push {cls:=.type "dict",data:=.dict #[] }) h.objs.size (.dT []):=
 ⟨Nat.zero_le _,beq_eq_false_iff_ne.mpr (Ne.symm (Nat.ne_of_lt hb)),[],.nil,_,#[],0,Heap.get?_push_size _ rfl,⟨rfl,rfl,rfl⟩,rfl,rfl,List.nodup_nil⟩
def Em:TE:=fun _ H Q=>∀p,H p=none->Q (.ref p) (aH H p (.dK []))
def En:TE:=fun _ H Q=>∀p,H p=none->Q (.ref p) (aH H p (.dT []))
section
variable {X:Cx} {pos:Pos}
theorem Eo:PE X (.Dict [] [] pos) Em:=fun pins s σ H Q I h=>
 wpAny_Dict_empty ⟨.ref s.heap.objs.size,_,I.laid (a:=s.heap.objs.size) (o:=.dK []) (t':=s.toks) (fun _ _ q=>iO _ q) (cA _) (Ek s.heap I.big),rfl,h _ (I.hok.fresh (cA _))⟩
theorem Ep:PE X (.Dict [] [] pos) En:=fun pins s σ H Q I h=>
 wpAny_Dict_empty ⟨.ref s.heap.objs.size,_,I.laid (a:=s.heap.objs.size) (o:=.dT []) (t':=s.toks) (fun _ _ q=>iO _ q) (cA _) (El s.heap I.big),rfl,h _ (I.hok.fresh (cA _))⟩
end
def dU (kvs more:List (aZ × V)):List (aZ × V):=more.foldl (fun acc kv=>bF acc kv.1 kv.2) kvs
theorem jQ:∀(more kvs:List (aZ × V)),(dU kvs more).length<=kvs.length+more.length
 | [],kvs=>by show kvs.length<=kvs.length+0;omega
 | p::r,kvs=>by
  have h1:=jQ r (bF kvs p.1 p.2)
  have h2:=eP kvs p.1 p.2
  show(dU (bF kvs p.1 p.2) r).length<=_
  rw[wG];omega
structure M1 (X:Cx) (o:Expr) (m:Str) (apos:Pos) (e:Expr) (cpos:Pos):Prop where
 base:attributeBase o m X.env (eval o X.env)=eval o X.env
 few:((backTo cpos (starEach [e] X.env)).all (fun x=>!x.1)&&(backToKw cpos (keywordEach [] X.env)).all (fun x=>x.1.isSome)
  && decide (([e]:List Expr).length+([]:List Keyword).length+(if ([]:List Keyword).isEmpty then 0 else 1)<30))=true
 line:(apos.endLine == cpos.line)=true
 trees:backTo cpos (starEach [e] X.env)=[(false,eval e X.env)]
structure M2 (X:Cx) (o:Expr) (m:Str) (apos:Pos) (e f:Expr) (cpos:Pos):Prop where
 base:attributeBase o m X.env (eval o X.env)=eval o X.env
 few:((backTo cpos (starEach [e,f] X.env)).all (fun x=>!x.1)&&(backToKw cpos (keywordEach [] X.env)).all (fun x=>x.1.isSome)
  && decide (([e,f]:List Expr).length+([]:List Keyword).length+(if ([]:List Keyword).isEmpty then 0 else 1)<30))=true
 line:(apos.endLine == cpos.line)=true
 trees:backTo cpos (starEach [e,f] X.env)=[(false,eval e X.env),(false,eval f X.env)]
def Ul (H:Hp) (a:Addr):Prop:=(∃kvs,Rd H a (.dK kvs))∨∃kvs,Rd H a (.dT kvs)
theorem sP {X:Cx} {pins:List (Addr × Obj)} {σ:St} {H:Hp} {s:Shared} {a:Addr} (I:Inv X pins σ H s) (d:Ul H a) :
  s.TypeIs (.ref a) "dict"/\(∀b,Value.ref a=.ref b->∃ob,s.heap.get? b=some ob/\ob.dict=none)/\(a == sysModules)=false:=by
 rcases d with⟨kvs,e⟩ | ⟨kvs,e⟩
 ·obtain⟨_,hd,vs,_,dd⟩:=jP I.hok e
  refine⟨dd.typeIs,fun b q=>?_,hd⟩
  cases q
  obtain⟨ob,_,_,h1,h2,_⟩:=dd
  exact⟨ob,h1,h2.2.1⟩
 ·obtain⟨_,hd,xs,_,dd⟩:=oO I.hok e
  refine⟨dd.typeIs,fun b q=>?_,hd⟩
  cases q
  obtain⟨ob,_,_,h1,h2,_⟩:=dd
  exact⟨ob,h1,h2.2.1⟩
section
variable {X:Cx} {pins:List (Addr × Obj)} {σ:St} {H:Hp} {s:Shared} {a:Addr} {y d:V} {u r:Value} {o:Option V} {A:Around} {E:Value->Shared->Prop}
theorem Qn {Q:Value->Shared->Prop} (hu:A.units+1<cLine) (I:Inv X pins σ H s) (g:DGet H a y o) (ry:RelV y u) (rd:RelV d r) (h:∀w' s',Inv X pins σ H s'->RelV (o.getD d) w'->Q w' s') :
  wpAny (model X.prog X.w) A (call (.builtin "dict.get") [.ref a,u,r]) Q E s:=by
 rcases g with⟨kvs,k,e,ey,l⟩ | ⟨kvs,k,b,e,ey,eb,l⟩
 ·subst ey;obtain⟨z,hd,vs,rel,dd⟩:=jP I.hok e
  refine call_meetsIn PySem.F.slot_dict_get dd.typeIs PySem.F.entry_dict_get (PySem.F.args_dict_get_3 _ _ _) (meets_dict_get_default (aS X.prog X.w) a (kP ry) hd r) ⟨_,dd.mapOf,h _ _ (I.tok _) ?_⟩
  rw[l];exact(rel.val k).getD rd
 ·subst ey;cases (show u=Value.ref b from ry)
  obtain⟨z,hd,xs,rel,dd⟩:=oO I.hok e
  refine call_meetsIn PySem.F.slot_dict_get dd.typeIs PySem.F.entry_dict_get (PySem.F.args_dict_get_3 _ _ _) (meetsH_dict_get_default (tupleKind (aS X.prog X.w)) a b hd r) ⟨tupleKind_room_in1 hu,k,xs,iR I.hok eb,dd,h _ _ (I.tok _) ?_⟩
  rw[l];exact(rel.val k).getD rd
end
def Er (td ty tx:TE):TE:=fun σ H Q=>td σ H fun x H1=>∃a,x=.ref a/\Ul H1 a/\ty σ H1 fun y H2=>tx σ H2 fun z H3=>∃o,DGet H3 a y o/\Q (o.getD z) H3
def Es (td ty:TE):TE:=fun σ H Q=>td σ H fun x H1=>∃a,x=.ref a/\Ul H1 a/\ty σ H1 fun y H2=>∃kvs k v,H2 a=some (.dK kvs)/\y=kV k/\aX kvs k=some v/\Q v (aH H2 a (.dK (bV kvs k)))
section
variable {X:Cx} {o e f:Expr} {apos cpos:Pos} {td ty tx:TE}
theorem Et (hu:X.A.units+1<cLine) (ho:PE X o td) (he:PE X e ty) (hf:PE X f tx) (m:M2 X o "get" apos e f cpos):PE X (.Call (.Attribute o "get" apos) [e,f] [] cpos) (Er td ty tx):=by
 intro pins s σ H Q I h;refine wpAny_Call_method m.base m.few m.line PySem.F.plainAttrs_dict PySem.F.slot_dict_get PySem.F.type_dict_get (bK (ho pins s σ H _ I h) fun u s1 ⟨x,H1,I1,rx,a,ex,d,q1⟩=>?_)
 subst ex;obtain rfl:u=Value.ref a:=rx
 obtain⟨t1,t2,_⟩:=sP I1 d
 refine⟨t1,t2,?_⟩
 rw[m.trees];refine Calls.callWith_builtin rfl (Calls.evalArgs_plain (Calls.spliced_cons (bK (he pins s1 σ H1 _ I1 q1) fun iv s2 ⟨y,H2,I2,ry,q2⟩=>
  Calls.spliced_cons (bK (hf pins s2 σ H2 _ I2 q2) fun fv s3 ⟨z,H3,I3,rz,ov,g,q3⟩=>Calls.spliced_nil ?_))))
 exact Qn hu I3 g ry rz fun w' s4 I4 rw'=>⟨_,H3,I4,rw',q3⟩
theorem Eu (ho:PE X o td) (he:PE X e ty) (m:M1 X o "pop" apos e cpos):PE X (.Call (.Attribute o "pop" apos) [e] [] cpos) (Es td ty):=by
 intro pins s σ H Q I h;refine wpAny_Call_method m.base m.few m.line PySem.F.plainAttrs_dict PySem.F.slot_dict_pop PySem.F.type_dict_pop (bK (ho pins s σ H _ I h) fun u s1 ⟨x,H1,I1,rx,a,ex,d,q1⟩=>?_)
 subst ex;obtain rfl:u=Value.ref a:=rx
 obtain⟨t1,t2,_⟩:=sP I1 d
 refine⟨t1,t2,?_⟩
 rw[m.trees];refine Calls.callWith_builtin rfl (Calls.evalArgs_plain (Calls.spliced_cons (bK (he pins s1 σ H1 _ I1 q1) fun iv s2 ⟨y,H2,I2,ry,kvs,k,v,ea,ey,l,q2⟩=>Calls.spliced_nil ?_)))
 subst ey;exact Uj I2 ea ry l (.inl rfl) fun w' s3 I3 rw'=>⟨v,_,I3,rw',q2⟩
end
end L2
namespace Att
open PySem PySem.W PySem.Calls PyProof.Rows
theorem nO {P:Params} {h:Heap}:∀(ns:List Int) (vs:List Value),WellAll P h vs (ns.map WData.int)->IntsAre vs ns:=by
 intro ns;induction ns with
 | nil=>
  intro vs w;rw[List.map_nil]at w;cases w
  exact .nil
 | cons n ns ih=>
  intro vs w;rw[List.map_cons]at w;cases w with
  | cons a b=>
   cases a
   exact .cons _ _ (ih _ b)
theorem Bj {l:OpenLaw} {n:Nat} (hn:l.most=some n) {P:Params} {h:Heap} {args:List WData} {vals:List Value}
  (hpre:l.row.toRowW.claim.pre args=true) (hwl:WellAll P h vals args) :
  ∃a vs ns,vals=[Value.ref a]/\args=[WData.list (ns.map WData.int)]/\h.get? a=some {cls:=.type "list",data:=.seq vs.toArray }/\IntsAre vs ns/\ns.length<=n:=by
 have hsh:WShape.hasAll [] args [.list .int]=true:=(pre_splitW hpre).1
 have hc:l.pre.holds [] {args:=args }=true:=(pre_splitW hpre).2
 obtain⟨d,r,rfl,h1,h2⟩:=hasAllW_cons hsh
 obtain rfl:=hasAllW_nil h2
 obtain⟨xs,rfl,h3⟩:=hasW_list h1
 obtain⟨ns,rfl⟩:=items_int h3
 have hlen:ns.length<=n:=by
  unfold OpenLaw.pre at hc;have h4:(WTm.not (.lt (.lit (.int (n:Int))) (.len (.arg 0)))).holds [] {args:=[.list (ns.map .int)] }=true:=by
   have h4:=(holds_andW hc).1
   rw[hn]at h4;exact h4
  have h5:=condW_of h4 (w_not (w_lt w_lit (w_len_list (w_arg rfl))))
  rw[bN]at h5;refine Nat.le_of_not_lt fun q=>?_
  have q':(n:Int)<((ns.length:Nat):Int):=by omega
  first
   | (rw[decide_eq_true q']at h5;exact absurd h5 Zd)
   | (simp at h5;omega)
 cases hwl with
 | cons w1 w2=>
  cases w2
  cases w1 with
  | list ho hall=>exact⟨_,_,ns,rfl,rfl,ho,nO ns _ hall,hlen⟩
theorem Bk (l:OpenLaw) (args:List WData):l.row.toRowW.claim.post args (.bool true) args=true:=
 postW_of (r:=l.row.toRowW) (X:=(true == true))
  (show WShape.has [] (.bool true) .bool=true by first | rfl | decide | simp [WShape.has,WShape.arms,WShape.armsAll])
  (show(WTm.eq .res (.lit (.bool true))).value [] {args:=args,res:=some (.bool true),after:=args }=some (.bool (true == true)) from w_eq_bool (w_res rfl) w_lit) rfl
theorem attach_call {l:OpenLaw} {n:Nat} {q:Program} {loose:List Str} {XP:(Str->Option Value)->Heap->Prop} {YP:World->Heap->Prop} {d:DefRec}
  (hn:l.most=some n) (hdf:d.params.defaults=[])
  (call:∀(w:World) (s₀ s₁:Shared) (mg mb:Str->Option Value) (fa:Addr) (o:Obj) (pm cd doc:Value) (a:Addr) (vs:List Value) (ns:List Int),
   Ground q loose [] XP w s₀ mg mb s₁.heap->YP w s₁.heap →
   s₁.heap.get? fa=some o->o.data=.func (docDef d.name d.params d.body d.scope pm cd doc)->s₁.heap.CodeRec cd d.name->mg d.name=some (.ref fa) →
   s₁.heap.get? a=some {cls:=.type "list",data:=.seq vs.toArray }->IntsAre vs ns->ns.length<=n->s₁.gens=#[] →
   codeAny (model l.prog w) callerA (.call (.ref fa) ⟨[.ref a],[]⟩) (fun r s'=>r=.ok (.ret (.bool true))/\OldK s₁.heap s'.heap/\s'.os=s₁.os/\AllBare s'.gens) s₁) :
  WalkO q loose XP YP l.row.toRowW d [] (fun f vs=>PySem.call f vs):=by
 intro w s₀ s₁ mg mb G Y fa o pm cd doc dV kV ho hd hcd hD hmg hg args vals as hpre hlay hrd hwl hlo;obtain rfl:dV=.none:=Dflts.none hD hdf
 obtain rfl:kV=.none:=Dflts.noKw hD
 obtain⟨a,vs,ns,rfl,rfl,hobj,hints,hlen⟩:=Bj hn hpre hwl
 refine enter_call (codeAny_mono (call w s₀ s₁ mg mb fa o pm cd doc a vs ns G Y ho (fd_plain hd) hcd hmg hobj hints hlen hg) fun r s' hq=>?_)
 obtain⟨rfl,h2,h3,h4⟩:=hq
 exact⟨.inl ⟨.bool true,.bool true,[],rfl,fun _=>rfl,.bool true,Bk l _,fun _=>⟨List.Pairwise.nil,fun _ hm=>(nomatch hm)⟩⟩,h2,h3,h4⟩
end Att
namespace L2
open PySem PySem.Spec PyProof.Rows
theorem qL:∀ {vs:List Value} {ns:List Int},IntsAre vs ns->Vals (ns.map V.int) vs
 | _,_,.nil=>.nil
 | _,_,.cons n t h=>.cons ⟨t,rfl⟩ (qL h)
def Qo (H:Hp):Prop:=∀b,H b=none∨∃o xs,H b=some (.frz o (.lst xs))
theorem Ev {P:Program} {w:World} {K:W.Frag} {mg mb:Str->Option Value} {CX:Iz} {k:Nat} {fa a:Addr} {fd:FuncData} {x:Str} {sp:Sp} {s₁:Shared} {vs:List Value} {ns:List Int}
  (KX:K.In s₁.heap) (hns:s₁.heap.Ns mainGlobals mg) (hb:s₁.heap.Ns builtinsNs mb) (hbb:∀x:Str,x≠"__name__"->mb x=bootBuiltins x) (hlim:s₁.heap.NoLimit) (hg:s₁.gens=#[])
  (ha:s₁.heap.get? a=some {cls:=.type "list",data:=.seq vs.toArray }) (hi:IntsAre vs ns) (hl:ns.length<=sizeLine) (hr:Room k callerA)
  (F:∀base:Heap,K.In base->base.Ns mainGlobals mg->iM P w K mg base CX k fa fd [x] sp) (hbind:∀(s:Shared) (u:Value),BindsTo s fd ⟨[u],[]⟩ [(x,u)])
  (hsp:∀H:Hp,Qo H->SqL K H a (ns.map V.int)->sp [.ref a] H (fun v _=>v=.bl true) fun _ _ _=>False)
  (hCX:∀H e s',CX [] H s₁ (fun _ _ _=>False) e s'->False) :
  codeAny (model P w) callerA (.call (.ref fa) ⟨[.ref a],[]⟩) (fun r s'=>r=.ok (.ret (.bool true))/\OldK s₁.heap s'.heap/\s'.os=s₁.os/\AllBare s'.gens) s₁:=by
 have rv:=qL hi
 have lenV:=hi.length
 have core:∀H:Hp,Qo H->SqL K H a (ns.map V.int)->HOk P w H s₁.heap->(∀b,H b≠none->b=a)->(H a≠none->K.lookup a=none) →
   codeAny (model P w) callerA (.call (.ref fa) ⟨[.ref a],[]⟩) (fun r s'=>r=.ok (.ret (.bool true))/\OldK s₁.heap s'.heap/\s'.os=s₁.os/\AllBare s'.gens) s₁:=by
  intro H hO hS hok hA hK;have base_of:∀ {b:Addr} {o:Obj},s₁.heap.get? b=some o->H b=none->(rM s₁.heap H).get? b=some o:=fun e n=>De e n
  have noA:∀ {b:Addr} {o:Obj} {es:Array DictEntry} {ep:Nat},s₁.heap.get? b=some o->o.data=.dict es ep->H b=none:=fun {b o es ep} e d=>by
   cases q:H b with
   | none=>rfl
   | some u=>
    have e':b=a:=hA b (by rw[q];simp)
    subst e';rw[ha]at e;cases e
    have d':Data.seq vs.toArray _=Data.dict es ep:=d
    cases d'
  have nsK:∀ {b:Addr} {m:Str->Option Value},s₁.heap.Ns b m->(rM s₁.heap H).Ns b m:=fun {b m} ⟨o,es,ep,e,d,r⟩=>⟨o,es,ep,base_of e (noA e d),d,r⟩
  have hKb:K.In (rM s₁.heap H):=fun b o e=>base_of (KX b o e) (by
   cases q:H b with
   | none=>rfl
   | some u=>
    have e':b=a:=hA b (by rw[q];simp)
    subst e';rw[hK (by rw[q];simp)]at e;cases e)
  have hM:Mod K mg (rM s₁.heap H):=⟨hKb,nsK hns,⟨mb,nsK hb,hbb⟩,let ⟨mc,h1,h2⟩:=hlim;⟨mc,nsK h1,h2⟩⟩
  have e0:Env0 P w K mg (rM s₁.heap H) callerA [] s₁ H:=⟨rfl,hM,fun b o e=>Jc e,Nat.le_of_eq (At _ _),trivial,fun b hb=>absurd (show b∈([]:List Addr) from hb) Zs,hok,.of_eq hg⟩
  refine codeAny_mono ((F _ hKb (nsK hns)).run callerA [] s₁ H ⟨[.ref a],[]⟩ [.ref a] [.ref a] _ _ hr e0 (hbind s₁ (.ref a)) (.cons rfl .nil) (hsp H hO hS)) fun r s' h=>?_
  cases r with
  | error e=>exact(hCX H e s' h).elim
  | ok fl=>
   cases fl with
   | next=>exact False.elim h
   | brk=>exact False.elim h
   | cont=>exact False.elim h
   | ret u=>
    obtain⟨v,H',os,bare,un,hok',r',q⟩:=h
    have q':v=.bl true:=q
    subst q';obtain rfl:u=Value.bool true:=r'
    refine⟨rfl,OldK.of_keep fun b o e=>?_,os,bare⟩
    cases q:H b with
    | none=>exact un.keep b o e q (by intro z;exact absurd (show b∈([]:List Addr) from z) Zs) Zs
    | some u=>
     rcases hO b with z | ⟨ob,xs,z⟩
     ·rw[q]at z;cases z
     ·have z2:=un.frzs b ob _ z
      obtain⟨e1,_⟩:=hok b _ z
      obtain⟨e2,_⟩:=hok' b _ z2
      rw[e]at e1;cases e1
      exact e2
 cases hk:K.lookup a with
 | some o=>
  have e:=KX a o hk
  rw[ha]at e;cases e
  refine core (fun _=>none) (fun _=>.inl rfl) (.inr ⟨_,vs.toArray,_,hk,rfl,rfl,rfl,by rw[dF,lenV];exact hl,by simpa using rv⟩) (fun b u z=>by have z':(none:Option HO)=some u:=z;cases z') (fun b z=>absurd rfl z) fun z=>absurd rfl z
 | none=>
  refine core (fun b=>if b=a then some (.frz {cls:=.type "list",data:=.seq vs.toArray } (.lst (ns.map V.int))) else none) (fun b=>?_) (.inl (.inr ⟨{cls:=.type "list",data:=.seq vs.toArray },if_pos rfl⟩)) (fun b u z=>?_) (fun b z=>?_) fun _=>hk
  ·by_cases hb:b=a
   ·exact .inr ⟨_,_,if_pos hb⟩
   ·exact .inl (if_neg hb)
  ·by_cases hb:b=a
   ·have z':=(if_pos hb).symm.trans z
    cases z'
    subst hb;exact⟨ha,by rw[bN];exact hl,vs,_,rv,ha⟩
   ·have z':=(if_neg hb).symm.trans z
    cases z'
  ·by_cases hb:b=a
   ·exact hb
   ·exact absurd (if_neg hb) z
end L2
namespace L2
open PySem PySem.Spec PyProof.Rows
theorem yX {l:W.OpenLaw} {n k:Nat} {q:Program} {loose:List Str} {XP:(Str->Option Value)->Heap->Prop} {YP:World->Heap->Prop} {d:DefRec} {K:Params->W.Frag} {CX:World->Iz} {sp:World->Sp} {x:Str}
  (hn:l.most=some n) (hn2:n<=sizeLine) (hdf:d.params.defaults=[]) (hr:Room k callerA)
  (hY:∀(w:World) (h:Heap),YP w h->(K w.params).In h)
  (F:∀(w:World) (mg:Str->Option Value) (fa:Addr) (h:Heap),(K w.params).In h->h.Ns mainGlobals mg->mg d.name=some (.ref fa) →
   ∃fd:FuncData,(∀(s:Shared) (u:Value),BindsTo s fd ⟨[u],[]⟩ [(x,u)]) ∧
    ∀base:Heap,(K w.params).In base->base.Ns mainGlobals mg->iM l.prog w (K w.params) mg base (CX w) k fa fd [x] (sp w))
  (hsp:∀(w:World) (H:Hp) (a:Addr) (ns:List Int),ns.length<=n->Qo H->SqL (K w.params) H a (ns.map V.int)->sp w [.ref a] H (fun v _=>v=.bl true) fun _ _ _=>False)
  (hCX:∀(w:World) (H:Hp) (s:Shared) (e:Value) (s':Shared),CX w [] H s (fun _ _ _=>False) e s'->False) :
  W.WalkO q loose XP YP l.row.toRowW d [] (fun f vs=>PySem.call f vs):=by
 refine Att.attach_call hn hdf fun w s₀ s₁ mg mb fa o pm cd doc a vs ns G Y ho hd hcd hmg hobj hints hlen hg=>?_
 have KX:=hY w _ Y
 obtain⟨fd,hb,hF⟩:=F w mg fa _ KX G.T.g hmg
 exact Ev KX G.T.g G.T.b G.T.builtins G.T.nolimit hg hobj hints (fU hlen hn2) hr hF hb (fun H hO hS=>hsp w H a ns hlen hO hS) fun H e s'=>hCX w H s₁ e s'
end L2
/- THE LAST THEOREM (shape;LID,My.* are yours):
   My.Adr: a structure of the addresses that your layer names (classes,functions);My.Txt K t: a structure (Prop) of the equations over K;
   My.txt_mk:{K} {implicit addresses ..} (e1:nsIn K mainGlobals "law"=some (some (.ref f))) (e2:K.lookup f=some ⟨oc,od,.func (fnOf "law" "law" params body scope dV kV doc pm an cdv ct),sl⟩) (e3:codeIn K cdv "law"=true) ..:∃t,My.Txt K t
set_option maxRecDepth 100000 in
set_option maxHeartbeats 0 in
theorem PySem.Challenge.cw_LID_holds : PySem.Challenge.rw_LID.Holds := by
 w_on;o_law;k_head;(case hw=>w_witness2)
 k_fill
 refine L2.yX (l:=PySem.Challenge.rw_LID) (n:=63) (k:=40) (x:="script") (CX:=fun w=>..) (sp:=fun _=>My.sp_law) rfl Zd rfl ⟨rfl,Zd,Zd⟩ (fun w h Y=>W.kIn_of Y) ?F ?S ?C
 case F=>
  intro w mg fa h KX G hmg;have T:∃t,My.Txt (L2.KOf KX) t:=by
   dsimp only [L2.KOf]                          -- K must stand as «<heap const> w.params» for k_is
   refine' My.txt_mk ?e1 ?e2 ?e3 ..
   (case e1=>W.k_is)                    -- in the order: a name->its address->its object->its parts
   (case e2=>W.k_is)
   ..
  obtain⟨t,T⟩:=T
  have e0:=hmg.symm.trans (W.mg_of KX G T.law)
  cases e0                                       -- fa is the law's own address
  exact⟨_,fun s u=>.of_eq rfl,fun base kb nb=>My.law_fn T kb nb⟩     -- if «.of_eq rfl» comes too early: refine' ⟨_,?b,fun base kb nb=>My.law_fn T kb nb⟩;exact fun s u=>.of_eq rfl
 case S=>exact fun w H a ns hl hO hS=>..
 case C=>exact ..
(the tactic k_is has no namespace: write k_is) -/
namespace L2
open PySem PySem.Spec PyProof.Rows
def aP (s:Stmt) (j:Nat):Stmt:=match s with
 | .ClassDef _ _ _ body _ _ _ _ _ _ _=>body.getD j (.Pass ⟨0,0,0,0⟩)
 | _=>.Pass ⟨0,0,0,0⟩
def bA (s:Stmt):Arguments:=match s with
 | .FunctionDef _ a _ _ _ _ _ _ _ _=>a
 | _=>{posonlyargs:=[],args:=[],vararg:=none,kwonlyargs:=[],kw_defaults:=[],kwarg:=none,defaults:=[] }
def aR (s:Stmt):List Stmt:=match s with
 | .FunctionDef _ _ b _ _ _ _ _ _ _=>b
 | _=>[]
def aB (s:Stmt):Scope:=match s with
 | .FunctionDef _ _ _ _ _ _ sc _ _ _=>sc
 | _=>{kind:=.function,names:=[],isGenerator:=false,isCoroutine:=false }
abbrev qM:Iz:=fun _ _ _ _ _ _=>False
abbrev E0:XK:=fun _ _ _=>False
theorem qN {X:Cx}:lS qM X E0:=fun _ _ _ _ _ _ _ h=>h.elim
structure Fun (K:W.Frag) (x qual:Str) (st:Stmt) (f:Addr) (fd:FuncData):Prop where
 ex:∃(oc:Value) (od:Option Addr) (kV doc pm:Value) (an:Option Addr) (cdv ct:Value) (osl:Array (Option Value)),
  fd=W.fnOf x qual (bA st) (aR st) (aB st) .none kV doc pm an cdv ct/\K.lookup f=some ⟨oc,od,.func fd,osl⟩/\W.codeIn K cdv qual=true
 kp:W.keepIn K (.ref f)=true
section
variable {P:Program} {w:World} {K:W.Frag} {mg:Str->Option Value} {base:Heap}
theorem Fun.ok {x qual:Str} {st:Stmt} {f:Addr} {fd:FuncData} {N ps:List Str} {k:Nat} {sp:Sp} (F:Fun K x qual st f fd) (S:aG N ps (aB st)) (len:∀vs H Q E,sp vs H Q E->vs.length=ps.length)
  (hbody:∀(cdv:Value) (A:Around) (outer:List Env) (s:Shared) (H:Hp) (vs:List V) (Q:VK) (E:XK),Room k (A.deeper (envOfC qual (aB st) s.heap.objs.size f cdv))->sp vs H Q E →
   ∃t,PSs (lT qM P w K mg base N qual (aB st) f cdv A outer s H E).nox (aR st) t/\t {nx:=fun _ H'=>Q .non H',rt:=Q } (start N vs) H):iM P w K mg base qM (k+1) f fd ps sp:=by
 obtain⟨oc,od,kV,doc,pm,an,cdv,ct,osl,rfl,lk,hcd⟩:=F.ex
 refine Ng lk hcd S len fun A outer s H vs Q E hr hsp=>?_
 obtain⟨t,h,q⟩:=hbody cdv A outer s H vs Q E hr hsp
 exact⟨t,h.nox,q⟩
theorem Fun.binds {x qual:Str} {st:Stmt} {f:Addr} {fd:FuncData} {ps:List Str} (F:Fun K x qual st f fd)
  (h:∀(kV doc pm:Value) (an:Option Addr) (cdv ct:Value) (us:List Value),us.length=ps.length->bindArgs (W.fnOf x qual (bA st) (aR st) (aB st) .none kV doc pm an cdv ct) ⟨us,[]⟩=pure (ps.zip us)):Binds K fd ps []:=by
 obtain⟨oc,od,kV,doc,pm,an,cdv,ct,osl,rfl,lk,hcd⟩:=F.ex
 exact .all (h kV doc pm an cdv ct)
theorem oP {x qual:Str} {st:Stmt} {f:Addr} {oc:Value} {od an:Option Addr} {osl:Array (Option Value)} {kV doc pm cdv ct:Value} (l:K.lookup f=some ⟨oc,od,.func (W.fnOf x qual (bA st) (aR st) (aB st) .none kV doc pm an cdv ct),osl⟩)
  (c:W.codeIn K cdv qual=true) (k:W.keepIn K (.ref f)=true):Fun K x qual st f (W.fnOf x qual (bA st) (aR st) (aB st) .none kV doc pm an cdv ct):=⟨⟨oc,od,kV,doc,pm,an,cdv,ct,osl,rfl,l,c⟩,k⟩
end
theorem cS {A:Around} {k:Nat} (hr:Room k A):A.units+1<cLine:=wH (Nat.add_le_add_left (by decide:1<=64) _) hr.units
section
variable {X:Cx}
theorem Bl:CallR X (.builtin "len") (fun xs H Q=>∃a kvs,xs=[V.ref a]/\H a=some (.dK kvs)/\Q (.int kvs.length) H):=by
 intro pins s σ H xs us Q I r h;obtain⟨a,kvs,rfl,ha,q⟩:=h
 obtain⟨u,rfl,ru⟩:=fG r
 cases ru
 exact Uk I (.inl ha) fun t s' I'=>⟨.int kvs.length,H,I',⟨t,rfl⟩,q⟩
end
def Same (H H':Hp):Prop:=∀b o,H b=some o->H' b=some o
theorem Same.refl (H:Hp):Same H H:=fun _ _ h=>h
theorem Same.trans {H H1 H2:Hp} (a:Same H H1) (b:Same H1 H2):Same H H2:=fun c o h=>b c o (a c o h)
theorem Same.free {H H':Hp} (e:Same H H') {l:Addr} (h:H' l=Option.none):H l=Option.none:=by
 cases q:H l with
 | none=>rfl
 | some o=>
  rw[e l o q]at h;cases h
theorem Same.seq {K:W.Frag} {H H':Hp} {a:Addr} {xs:List V} (e:Same H H') (h:SqL K H a xs):SqL K H' a xs:=by
 rcases h with(h | ⟨o,h⟩) | h
 ·exact .inl (.inl (e _ _ h))
 ·exact .inl (.inr ⟨o,e _ _ h⟩)
 ·exact .inr h
section
variable {κ:Type} [DecidableEq κ]
theorem gL {kvs:List (κ × V)} {k:κ} (h:aX kvs k=none):¬ k∈kvs.map (·.1):=by
 intro m;obtain⟨p,hp,e⟩:=Zmm.mp m
 have q:(kvs.any fun kv=>decide (kv.1=k))=true:=List.any_eq_true.mpr ⟨p,hp,decide_eq_true e⟩
 rw[cB,h]at q;exact absurd q Zs
theorem sQ {kvs:List (κ × V)} {k:κ} {v:V} (h:aX kvs k=some v):k∈kvs.map (·.1):=by
 have q:(kvs.any fun kv=>decide (kv.1=k))=true:=by
  rw[cB,h];all_goals rfl
 obtain⟨p,hp,e⟩:=List.any_eq_true.mp q
 exact Zmm.mpr ⟨p,hp,of_decide_eq_true e⟩
theorem sR:∀ {l:List κ} {k:κ},l.Nodup->¬ k∈l->(l++[k]).Nodup
 | [],k,_,_=>by simp
 | a::r,k,h,hk=>by
  obtain⟨h1,h2⟩:=List.nodup_cons.mp h
  show(a::(r++[k])).Nodup
  refine List.nodup_cons.mpr ⟨fun m=>?_,sR h2 fun m=>hk (List.mem_cons.mpr (Or.inr m))⟩
  rcases Zma.mp m with q | q
  ·exact h1 q
  ·exact hk (List.mem_cons.mpr (Or.inl (Zms.mp q).symm))
theorem Kj {kvs:List (κ × V)} {k:κ} (v:V) (hn:(kvs.map (·.1)).Nodup) (h:aX kvs k=none):((bF kvs k v).map (·.1)).Nodup:=by
 rw[fV v h,iG];exact sR hn (gL h)
theorem qO {p:κ × V} {r:List (κ × V)} {k:κ} (e:p.1=k):bV (p::r) k=bV r k:=by
 unfold bV;rw[List.filter_cons,if_neg (by simp [e])]
theorem lU {p:κ × V} {r:List (κ × V)} {k:κ} (e:¬ p.1=k):bV (p::r) k=p::bV r k:=by
 unfold bV;rw[List.filter_cons,if_pos (by simp [e])]
theorem oQ:∀ {kvs:List (κ × V)} {k:κ},¬ k∈kvs.map (·.1)->bV kvs k=kvs
 | [],_,_=>rfl
 | p::r,k,h=>by
  have h':¬ k∈r.map (·.1):=fun m=>by
   obtain⟨q,hq,e⟩:=Zmm.mp m
   exact h (Zmm.mpr ⟨q,List.mem_cons.mpr (Or.inr hq),e⟩)
  rw[lU fun e=>h (Zmm.mpr ⟨p,List.mem_cons.mpr (Or.inl rfl),e⟩),oQ h']
theorem qP {kvs:List (κ × V)} {k:κ} {p:κ × V} (h:p∈bV kvs k):p∈kvs:=(List.mem_filter.mp h).1
theorem oR:∀ {kvs:List (κ × V)} {k:κ},(kvs.map (·.1)).Nodup->((bV kvs k).map (·.1)).Nodup
 | [],_,_=>List.nodup_nil
 | p::r,k,h=>by
  have h:(p.1::r.map (·.1)).Nodup:=h
  obtain⟨h1,h2⟩:=List.nodup_cons.mp h
  by_cases e:p.1=k
  ·rw[qO e];exact oR h2
  ·rw[lU e];show(p.1::(bV r k).map (·.1)).Nodup
   refine List.nodup_cons.mpr ⟨fun m=>h1 ?_,oR h2⟩
   obtain⟨q,hq,eq⟩:=Zmm.mp m
   exact Zmm.mpr ⟨q,qP hq,eq⟩
end
end L2
namespace L2
open PySem PySem.Spec PyProof.Rows
def iU (env:Env):List (Str × NameKind)->List (Str × Addr)->List (Str × Addr)
 | [],cs=>cs
 | (n,k)::r,cs=>iU env r (if k=.free then (match env.cells.lookup n with | some c=>(n,c)::cs | none=>cs) else cs)
theorem jZ {env:Env}:∀(names:List (Str × NameKind)) (cs:List (Str × Addr)),(∀x∈names,x.2=.free->∃c,env.cells.lookup x.1=some c) →
  (forIn names cs fun(x:Str × NameKind) (r:List (Str × Addr))=>(do
   if x.2 == .free then do
    let c ← cellOf env x.1
    pure (ForInStep.yield ((x.1,c)::r))
   else pure (ForInStep.yield r):Sem _))=pure (iU env names cs)
 | [],cs,_=>rfl
 | (n,k)::r,cs,h=>by
  rw[List.forIn_cons];by_cases hk:k=.free
  ·subst hk;obtain⟨c,hc⟩:=h (n,.free) pR rfl
   have hc':env.cells.lookup n=some c:=hc
   have e1:cellOf env n=pure c:=by unfold cellOf;rw[hc']
   simp only [beq_self_eq_true,if_true,e1,pure_bind]
   rw[jZ r ((n,c)::cs) fun x hx=>h x (jM _ hx)]
   simp [iU,hc']
  ·have hb:(k == NameKind.free)=false:=by simpa using hk
   simp only [hb,Bool.false_eq_true,if_false,pure_bind]
   rw[jZ r cs fun x hx=>h x (jM _ hx)]
   simp [iU,hk]
theorem oS {scope:Scope} {env:Env} (h:∀x∈scope.names,x.2=.free->∃c,env.cells.lookup x.1=some c):closureFor scope env=pure (iU env scope.names []):=by
 have e:=jZ scope.names [] h
 unfold closureFor;exact(congrArg (fun z=>z >>= fun(r:List (Str × Addr))=>(pure r:Sem _)) e).trans (pure_bind _ _)
theorem uL {env:Env}:∀(names:List (Str × NameKind)) (cs:List (Str × Addr)),(∀y d,(y,d)∈cs->env.cells.lookup y=some d)->∀y d,(y,d)∈iU env names cs->env.cells.lookup y=some d
 | [],_,h=>h
 | (n,k)::r,cs,h=>by
  unfold iU;refine uL r _ fun y d hm=>?_
  split at hm
  ·split at hm
   ·rename_i c hc
    rcases List.mem_cons.mp hm with e | e
    ·cases e;exact hc
    ·exact h y d e
   ·exact h y d hm
  ·exact h y d hm
theorem yY {env:Env}:∀(names:List (Str × NameKind)) (cs:List (Str × Addr)) (y:Str) (d:Addr),(y,d)∈iU env names cs->(y,.free)∈names∨(y,d)∈cs
 | [],_,_,_,h=>.inr h
 | (n,k)::r,cs,y,d,h=>by
  unfold iU at h;rcases yY r _ y d h with e | hm
  ·exact .inl (jM _ e)
  ·split at hm
   ·rename_i hk
    split at hm
    ·rcases List.mem_cons.mp hm with e | e
     ·cases e;subst hk;exact .inl pR
     ·exact .inr e
    ·exact .inr hm
   ·exact .inr hm
theorem Ew {env:Env}:∀(names:List (Str × NameKind)) (cs:List (Str × Addr)) (y:Str),((∃d,(y,d)∈cs)∨(y,.free)∈names)->(∀x∈names,x.2=.free->∃c,env.cells.lookup x.1=some c)->∃d,(y,d)∈iU env names cs
 | [],_,_,h,_=>by
  rcases h with h | h
  ·exact h
  ·cases h
 | (n,k)::r,cs,y,h,hf=>by
  unfold iU;refine Ew r _ y ?_ fun x hx=>hf x (jM _ hx)
  rcases h with⟨d,hd⟩ | h
  ·refine .inl ⟨d,?_⟩
   split
   ·split
    ·exact jM _ hd
    ·exact hd
   ·exact hd
  ·rcases List.mem_cons.mp h with e | e
   ·have e1:y=n:=congrArg Prod.fst e
    have e2:NameKind.free=k:=congrArg Prod.snd e
    subst e1 e2;obtain⟨c,hc⟩:=hf (y,.free) pR rfl
    have hc':env.cells.lookup y=some c:=hc
    refine .inl ⟨c,?_⟩
    rw[if_pos rfl,hc'];exact pR
   ·exact .inr e
theorem oT {α:Type}:∀ {l:List (Str × α)} {y:Str} {d:α},(y,d)∈l->∃d',l.lookup y=some d'/\(y,d')∈l
 | (n,c)::r,y,d,h=>by
  by_cases e:y=n
  ·subst e;exact⟨c,by simp [List.lookup_cons],pR⟩
  ·rcases List.mem_cons.mp h with q | q
   ·cases q;exact absurd rfl e
   ·obtain⟨d',h1,h2⟩:=oT q
    have hb:(y == n)=false:=by simpa using e
    exact⟨d',by rw[List.lookup_cons,hb];exact h1,jM _ h2⟩
theorem dG {env:Env} {names:List (Str × NameKind)} {y:Str} {c:Addr} (h:(iU env names []).lookup y=some c):env.cells.lookup y=some c/\(y,.free)∈names:=by
 have hm:=PySem.mem_of_lookup h
 refine⟨uL names [] (fun _ _ z=>nomatch z) y c hm,?_⟩
 rcases yY names [] y c hm with e | e
 ·exact e
 ·cases e
theorem yZ {env:Env} {names:List (Str × NameKind)} {y:Str} (h:(y,.free)∈names) (hf:∀x∈names,x.2=.free->∃c,env.cells.lookup x.1=some c):∃c,(iU env names []).lookup y=some c/\env.cells.lookup y=some c:=by
 obtain⟨d,hd⟩:=Ew names [] y (.inr h) hf
 obtain⟨c,hc,_⟩:=oT hd
 exact⟨c,hc,(dG hc).1⟩
theorem sU {scope:Scope} {env:Env} (hcell:∀y∈scope.names,y.2≠.cell) {x:Str} (h:(relabel scope env).names.lookup x=some .cell∨(relabel scope env).names.lookup x=some .free):(x,.free)∈scope.names:=by
 have go:∀ {k:NameKind},k=.cell∨k=.free->(relabel scope env).names.lookup x=some k->(x,.free)∈scope.names:=fun {k} hk h=>by
  have hm:=PySem.mem_of_lookup h
  unfold relabel at hm;obtain⟨⟨n,j⟩,hp,e⟩:=Zmm.mp hm
  dsimp only at e
  split at e
  ·rename_i hc
   cases e
   have:j=.free:=by
    have:=(Bool.and_eq_true_iff.mp (Bool.and_eq_true_iff.mp hc).1).1
    simpa using this
   subst this;exact hp
  ·cases e
   rcases hk with q | q
   ·exact absurd q (hcell _ hp)
   ·subst q;exact hp
 rcases h with h | h
 ·exact go (.inl rfl) h
 ·exact go (.inr rfl) h
theorem kR {env:Env}:∀ {names:List (Str × NameKind)} {x:Str},names.lookup x=some .free →
  (names.map fun(n,k)=>if (k == NameKind.free&&env.scope.kind == .function&&env.kindOf n == some .cell) then (n,NameKind.cell) else (n,k)).lookup x=some .cell∨
  (names.map fun(n,k)=>if (k == NameKind.free&&env.scope.kind == .function&&env.kindOf n == some .cell) then (n,NameKind.cell) else (n,k)).lookup x=some .free
 | [],_,h=>by simp at h
 | (n,k)::r,x,h=>by
  have ih:=@kR env r x
  rw[List.map_cons];dsimp only;cases hx:x == n with
  | true=>
   simp only [List.lookup_cons,hx]at h
   cases h
   split
   ·left;simp [List.lookup_cons,hx]
   ·right;simp [List.lookup_cons,hx]
  | false=>
   simp only [List.lookup_cons,hx]at h
   split
   ·simp only [List.lookup_cons,hx];exact ih h
   ·simp only [List.lookup_cons,hx];exact ih h
def lN (X:Cx) (scope:Scope) (C:Addr) (N:List Str) (s₂:Shared) (H₂:Hp) (fp:List Addr):Cx where
 prog:=X.prog
 w:=X.w
 K:=X.K
 mg:=X.mg
 base:=X.base
 A:=X.A
 N:=N
 s₀:=s₂
 H₀:=H₂
 env:=compEnvC scope (iU X.env scope.names []) C X.env
 outer:=X.stack
 stack:=X.stack
 ex:=fp
 fn:=fun _=>false
 calm:=X.calm
 pn:=[]
 xe:=fun _ _=>False
def wE (js:List (Option Nat)) (σ:St):St:=js.map fun o=>match o with | some j=>(σ[j]?).getD none | none=>none
structure CompScope (X:Cx) (scope:Scope) (N:List Str) (js:List (Option Nat)):Prop where
 kind:scope.kind=.function
 nocell:∀y∈scope.names,y.2≠.cell
 loc:∀y∈scope.names,y.2=.local->scope.names.lookup y.1=some .local
 len:js.length=N.length
 cap:∀(i j:Nat),js[i]?=some (some j)->∃x,N[i]?=some x/\X.N[j]?=some x/\scope.names.lookup x=some .free
 out:∀y∈scope.names,y.2=.free->X.env.kindOf y.1=some .cell∨X.env.kindOf y.1=some .free
def xB (js:List (Option Nat)) (g:TG):Prop:=∀x σ H Q,g x σ H Q->g x σ H fun σ2 H2=>Q σ2 H2/\σ2.length=σ.length/\∀(i j:Nat),js[i]?=some (some j)->σ2[i]?=σ[i]?
def zA (js:List (Option Nat)) (g:yM):Prop:=∀xs σ H Q,g xs σ H Q->g xs σ H fun σ2 H2=>Q σ2 H2/\σ2.length=σ.length/\∀(i j:Nat),js[i]?=some (some j)->σ2[i]?=σ[i]?
theorem aO {js:List (Option Nat)} {k:Nat} (h:js[k]?=some none):xB js (aJ k):=fun x σ H Q q=>by
 refine⟨q,Zs,fun i j e=>?_⟩
 have:k≠i:=fun z=>by subst z;rw[h]at e;cases e
 rw[List.getElem?_set_ne this]
theorem Bm {js:List (Option Nat)}:zA js Pf:=fun xs σ H Q q=>⟨q.1,q.2,rfl,fun _ _ _=>rfl⟩
theorem oU {js:List (Option Nat)} {k:Nat} {u:yM} (h:js[k]?=some none) (hu:zA js u):zA js (Dl (aJ k) u):=fun xs σ H Q q=>by
 obtain⟨v,r,e,q⟩:=q
 refine⟨v,r,e,?_⟩
 obtain⟨_,h2⟩:=aO h v σ H (fun _ _=>True) trivial
 have q2:=hu r _ _ _ q
 have e2:(fun σ2 H2=>Q σ2 H2/\σ2.length=(σ.set k (some v)).length/\∀(i j:Nat),js[i]?=some (some j)->σ2[i]?=(σ.set k (some v))[i]?)=(fun σ2 (H2:Hp)=>Q σ2 H2/\σ2.length=σ.length/\∀(i j:Nat),js[i]?=some (some j)->σ2[i]?=σ[i]?):=by
  funext σ2 H2
  have e3:∀(i j:Nat),js[i]?=some (some j)->(σ.set k (some v))[i]?=σ[i]?:=h2.2
  apply propext
  constructor
  ·rintro⟨a,b,c⟩
   exact⟨a,by simpa using b,fun i j e=>(c i j e).trans (e3 i j e)⟩
  ·rintro⟨a,b,c⟩
   exact⟨a,by simpa using b,fun i j e=>(c i j e).trans (e3 i j e).symm⟩
 show u r (σ.set k (some v)) H _
 rw[<- e2];exact q2
theorem Ex {K:W.Frag} {n:Nat} {js:List (Option Nat)} {t:yM} (h:zA js t):xB js (Jo K n t):=fun x σ H Q q=>by
 obtain⟨a,xs,e,hq,hl,q⟩:=q
 exact⟨a,xs,e,hq,hl,h xs σ H Q q⟩
section
variable {X:Cx} {pins:List (Addr × Obj)} {σ:St} {H H':Hp} {s:Shared}
theorem Un.more {fs ex:List Addr} {H H':Hp} {h h':Heap} {D:Addr} {o:HO} (u:Un fs ex H H' h h') (hD:h.get? D=none) (hH:H D=none):Un fs ex H (aH H' D o) h h' where
 keep:=u.keep
 slot:=u.slot
 free:=fun b ob q n hx=>by
  have:b≠D:=fun z=>by rw[z,hD]at q;cases q
  rw[aD this];exact u.free b ob q n hx
 there:=u.there
 tups:=fun b xs q=>by rw[aD (aE q hH)];exact u.tups b xs q
 frzs:=fun b ob xs q=>by rw[aD (aE q hH)];exact u.frzs b ob xs q
 tbls:=fun b ps q=>by rw[aD (aE q hH)];exact u.tbls b ps q
theorem HOk.more {P:Program} {w:World} {h:Heap} {D:Addr} {o:HO} (k:HOk P w H h) (hH:H D=none) (new:ObjOk P w (aH H D o) h D o):HOk P w (aH H D o) h:=fun b u e=>by
 by_cases hb:b=D
 ·subst hb;rw[aA]at e;cases e;exact new
 ·rw[aD hb]at e;exact(k b u e).stay (fun _ _ _ q=>q) (fun c q=>by rw[aD (aE q hH)];exact q) fun c xs q=>by rw[aD (aE q hH)];exact q
theorem CompScope.ok {scope:Scope} {N:List Str} {js:List (Option Nat)} {C:Addr} {fp:List Addr} (S:CompScope X scope N js) (I:Inv X pins σ H s) (hC:s.heap.objs.size<=C) (hf:∀b∈fp,lP X pins H b) (hl:∀b∈fp,b<s.heap.objs.size) :
  (lN X scope C N s H fp).Ok where
 mod:=I.ok.mod
 kind:=S.kind
 glob:=I.ok.glob
 blt:=I.ok.blt
 above:=hC
 inj:=fun x y c h1 h2=>I.ok.inj x y c (dG h1).1 (dG h2).1
 has:=fun x hx=>by
  have hm:(x,.free)∈scope.names:=sU S.nocell hx
  obtain⟨c,h1,_⟩:=yZ (env:=X.env) hm fun y hy hk=>I.ok.has y.1 (S.out y hy hk)
  exact⟨c,h1⟩
 cab:=fun x c z=>nomatch z
 hd:=I.ok.hd
 frames:=I.ok.frames
 stk:=.inl rfl
 exf:=fun b hb=>⟨Nat.ne_of_lt (Nat.lt_of_lt_of_le (hl b hb) hC),fun x c e=>(hf b hb).2.2.2.2.1 x c (dG e).1⟩
 bs:=I.bs
 bsz:=fU I.ok.bsz I.sz
 noex:=fun b o e hb=>by
  rcases(hf b hb).2.2.2.1 with z | z
  ·exact I.ok.noex b o e z
  ·exact absurd (Nat.lt_of_lt_of_le (Heap.lt_size e) (fU I.ok.bsz z)) (Nat.lt_irrefl _)
 exfs:=fun b hb hm=>by
  rcases List.mem_cons.mp (I.stkSub b hm) with z | z
  ·exact(hf b hb).2.1 z
  ·exact(hf b hb).2.2.1 z
 funs:=I.stack
 frf:=I.stkFree
theorem CompScope.start {scope:Scope} {N:List Str} {js:List (Option Nat)} {C D:Addr} {fp:List Addr} {ob:Obj} {h₁:Heap} {m:Str->Option Value} {tk:Nat} (S:CompScope X scope N js) (I:Inv X pins σ H s) (hC:s.heap.objs.size<=C) (hD:s.heap.objs.size<=D) (hDC:D≠C)
  (hf:∀b∈fp,lP X pins H b) (hl:∀b∈fp,b<s.heap.objs.size) (k:∀b o,s.heap.get? b=some o->h₁.get? b=some o) (hns:h₁.Ns C m) (eD:h₁.get? D=some ob) (nc:∀v,ob.data≠.cell v) :
  Inv (lN X scope C N s H fp) [(D,ob)] (wE js σ) H {s with heap:=h₁,toks:=tk } where
 ok:=S.ok I hC hf hl
 os:=rfl
 bare:=I.bare
 base:=Un.kept k
 loc:=by
  refine⟨m,hns,fun i x v h1 h2 h3=>?_⟩
  have h1:N[i]?=some x:=h1
  unfold wE at h2;rw[gQ]at h2;cases e:js[i]? with
  | none=>rw[e]at h2;cases h2
  | some o=>
   rw[e]at h2;cases o with
   | none=>cases h2
   | some j=>
    have h2':(σ[j]?).getD none=some v:=Option.some.inj h2
    have hσ:σ[j]?=some (some v):=by
     cases q:σ[j]? with
     | none=>rw[q]at h2';cases h2'
     | some z=>rw[q]at h2';exact congrArg some h2'
    obtain⟨y,e1,e2,e3⟩:=S.cap i j e
    rw[h1]at e1;cases e1
    have hfree:(x,.free)∈scope.names:=PySem.mem_of_lookup e3
    have ho:=S.out (x,.free) hfree rfl
    obtain⟨mX,_,hlX⟩:=I.loc
    have hvX:Tm X.env.scope x:=by
     rcases ho with z | z
     ·exact .inr (.inl z)
     ·exact .inr (.inr z)
    obtain⟨u,r,l⟩:=hlX j x v e2 hσ hvX
    refine⟨u,r,.inr ?_⟩
    rcases l with⟨hk,_⟩ | ⟨hk,c,hc,hcell⟩
    ·rcases ho with z | z
     ·have z':X.env.kindOf x=some .cell:=z
      rw[hk]at z';cases z'
     ·have z':X.env.kindOf x=some .free:=z
      rw[hk]at z';cases z'
    ·obtain⟨c',h1',h2''⟩:=yZ (env:=X.env) hfree fun y hy hk=>I.ok.has y.1 (S.out y hy hk)
     rw[hc]at h2'';cases h2''
     refine⟨kR e3,c,h1',?_⟩
     obtain⟨oc,q1,q2⟩:=hcell
     exact⟨oc,k c oc q1,q2⟩
 cell:=fun x c e=>by
  obtain⟨v,oc,q1,q2⟩:=I.cell x c (dG e).1
  exact⟨v,oc,k c oc q1,q2⟩
 free:=I.hok.fresh hC
 freeC:=fun x c e=>I.freeC x c (dG e).1
 pin:=fun p hp=>by
  have e:p=(D,ob):=by
   rcases Zma.mp hp with z | z
   ·exact absurd (show p∈([]:List (Addr × Obj)) from z) Zs
   ·simpa using z
  subst e;refine⟨eD,I.hok.fresh hD,hDC,fun hm=>?_,nc⟩
  rcases List.mem_cons.mp (I.stkSub D hm) with z | z
  ·have z:D=X.env.locals:=z
   have:=I.lt
   rw[<- z]at this;exact absurd (Nat.lt_of_lt_of_le this hD) (Nat.lt_irrefl _)
  ·exact I.nofs hD z
 hok:=I.hok.kept k
 len:=by
  unfold wE;rw[bN];exact S.len
end
def Tj (X:Cx) (cs:List Expr) (t:TT):Prop:=
 ∀(pins:List (Addr × Obj)) (s:Shared) (σ:St) (H:Hp) (Q:Bool->Hp->Prop) (E:Value->Shared->Prop),Inv X pins σ H s->t σ H Q →
  wpAny (model X.prog X.w) X.A (forIn cs true fun c r=>if r=true then do let ok ← isTrue c X.env (eval c X.env);pure (ForInStep.yield ok) else pure (ForInStep.yield r)) (TP X pins σ Q) E s
def Nl:TT:=fun _ H Q=>Q true H
theorem Kk {X:Cx}:Tj X [] Nl:=fun pins s σ H Q E I h=>wpAny_tests_nil ⟨H,I,h⟩
theorem Kl {X:Cx} {c:Expr} {t:TT} (h:PT X c t) (hx:X.xe=fun _ _=>False:=by rfl):Tj X [c] t:=fun pins s σ H Q E I q=>
 wpAny_tests_one (wpAny_mono (h pins s σ H Q I q) (fun _ _ z=>z) fun e s' z=>by rw[hx]at z;exact z.elim)
def oV (js:List (Option Nat)) (g:TG) (tt:TT) (te:TE) (σ:St) (J:It) (H1:Hp) (Q:List V->Hp->Prop):Prop:=
 ∃W:Nat->Nat->List V->Hp->Prop,(∃m,W 0 m [] H1)/\∀i m ys H,W i m ys H →
  (J.stop i H/\Q ys H)∨
  (J.go i H/\ys.length<sizeLine/\∃N:List V->Hp->Prop,(∀ys' H',N ys' H'->∃m',m'<m/\W (i+1) m' ys' H') ∧
   ∀x H',J.yld i H x H'->g x (wE js σ) H' fun σ2 H2=>tt σ2 H2 fun b H3=>if b=true then te σ2 H3 fun y H4=>N (ys++[y]) H4 else N ys H3)
def Nm (wi:TI) (js:List (Option Nat)) (g:TG) (tt:TT) (te:TE):TE:=fun σ H Q=>wi σ H fun J H1=>
 oV js g tt te σ J H1 fun ys H2=>∀p,H2 p=none->Q (.ref p) (aH H2 p (.lst ys))
def Nn (i:Nat) (wi:TI) (js:List (Option Nat)) (g:TG) (tt:TT) (te:TE):TS:=fun D σ H=>wi σ H fun J H1=>
 oV js g tt te σ J H1 fun ys H2=>∀p,H2 p=none->D.nx (σ.set i (some (.ref p))) (aH H2 p (.lst ys))
section
variable {X:Cx} {tg iter elt:Expr} {ifs:List Expr} {scope:Scope} {N:List Str} {js:List (Option Nat)} {wi:TI} {g:TG} {tt:TT} {te:TE} {pos:Pos}
theorem oW {pins:List (Addr × Obj)} {σ:St} {H2:Hp} {s2:Shared} {it:Addr} {fp:List Addr} {tn:Nat->Heap->Prop} {J:It} {Qf:List V->Hp->Prop} {RR:Value->Addr->Result->Shared->Prop} {E:Value->Shared->Prop} (hc:X.calm=true) (S:CompScope X scope N js) (go:xB js g)
  (hb:∀(C:Addr) (s₂:Shared) (H₂:Hp) (fp:List Addr),PG (lN X scope C N s₂ H₂ fp) tg g/\Tj (lN X scope C N s₂ H₂ fp) ifs tt/\PE (lN X scope C N s₂ H₂ fp) elt te)
  (I2:Inv X pins σ H2 s2) (T:rO X.prog X.w X.K tg J fp it tn) (st2:tn 0 s2.heap) (f2:∀b∈fp,lP X pins H2 b) (hw:oV js g tt te σ J H2 Qf)
  (hRR:∀(C D:Addr) (ys:List V) (H3:Hp) (s3:Shared) (m:Str->Option Value),s2.heap.objs.size<=C->s2.heap.objs.size<=D->D≠C->Inv X pins σ (aH H3 D (.lst ys)) s3->H3 C=none->H3 D=none->s3.heap.Ns C m->Qf ys H3->RR (.ref D) C (.ok .next) s3) :
  wpAny (model X.prog X.w) X.A (newList []) (fun acc s₃=>wpAny (model X.prog X.w) X.A (newFunctionEnv scope X.env.globals (iU X.env scope.names []) [] X.env.qual none .none (some X.env)) (fun cenv s₄=>
   codeAny (model X.prog X.w) X.A (.compStart (.ListComp elt [⟨tg,iter,ifs,0⟩] scope pos) 0 (.ref it) acc {cenv with scope:=relabel scope X.env }) (RR acc cenv.locals) s₄) E s₃) E s2:=by
 obtain⟨W,⟨m0,w0⟩,turn⟩:=hw
 refine wpAny_newObj_type (wpAny_newFunctionEnv S.nocell (by intro y hy;simp at hy) (fun h₁ hns₁ hsb₁=>?_) S.kind)
 dsimp only at hns₁ hsb₁ ⊢
 generalize hH2:s2.heap.push {cls:=.type "list",dict:=none,data:=.seq ([]:List Value).toArray }=HP at hns₁ hsb₁ ⊢;have hC:HP.objs.size=s2.heap.objs.size+1:=by rw[<- hH2,Heap.size_push]
 have hDC:s2.heap.objs.size≠HP.objs.size:=by rw[hC];exact Nat.ne_of_lt (Nat.lt_succ_self _)
 have hCle:s2.heap.objs.size<=HP.objs.size:=by rw[hC];exact Nat.le_succ _
 have old:∀b o,s2.heap.get? b=some o->h₁.get? b=some o:=fun b o e=>hsb₁.extBut b o (by rw[hC];exact Nat.ne_of_lt (Nat.lt_succ_of_lt (Heap.lt_size e))) (iO _ (hH2 ▸ iO _ e))
 have hacc:h₁.get? s2.heap.objs.size=some {cls:=.type "list",data:=.seq ([]:List Value).toArray 0 }:=hsb₁.extBut _ _ hDC (iO _ (hH2 ▸ Heap.get?_push_size _ rfl))
 have hfl:∀b∈fp,b<s2.heap.objs.size:=fun b hb=>by
  obtain⟨o,e,_⟩:=T.obj _ _ st2 b hb
  exact Heap.lt_size e
 generalize hDn:s2.heap.objs.size=D at hDC hCle hacc ⊢;generalize hCn:HP.objs.size=C at hDC hCle hns₁ ⊢;have hCs:s2.heap.objs.size<=C:=by rw[hDn];exact hCle
 have hDs:s2.heap.objs.size<=D:=Nat.le_of_eq hDn
 obtain⟨pg,pt,pe⟩:=hb C s2 H2 fp
 have I0:=S.start (D:=D) (fp:=fp) (tk:=s2.toks+([]:List (Str × Value)).length) I2 hCs hDs hDC f2 hfl old hns₁ hacc (fun v z=>nomatch z)
 have fpY:∀ {H':Hp} {pl:List (Addr × Obj)},(∀b∈fp,H' b=none)->(∀p∈pl,p.1∉fp)->∀b∈fp,lP (lN X scope C N s2 H2 fp) pl H' b:=fun hn hp b hb=>
  ⟨hn b hb,Nat.ne_of_lt (Nat.lt_of_lt_of_le (hfl b hb) hCs),(S.ok I2 hCs f2 hfl).exfs b hb,.inl hb,fun x c e=>(f2 b hb).2.2.2.2.1 x c (dG e).1,fun p hm z=>by
   rcases Zma.mp hm with q | q
   ·exact absurd (show p∈([]:List (Addr × Obj)) from q) Zs
   ·exact hp p q (z ▸ hb)⟩
 have dfp:D∉fp:=fun z=>absurd (Nat.lt_of_lt_of_le (hfl D z) hDs) (Nat.lt_irrefl _)
 have one:∀ {ob:Obj},∀p∈[(D,ob)],p.1∉fp:=fun p hp=>by
  have e:=Zms.mp hp
  subst e;exact dfp
 have loop:∀s₃:Shared,s₃={s2 with heap:=h₁,toks:=s2.toks+([]:List (Str × Value)).length } →
   codeAny (model X.prog X.w) X.A (.compLoop (.ListComp elt [⟨tg,iter,ifs,0⟩] scope pos) 0 (.ref it) (.ref D) (compEnvC scope (iU X.env scope.names []) C X.env)) (RR (.ref D) C) s₃:=by
  rintro s₃ rfl
  refine codeAny_loop rfl (fun n s'=>∃(i:Nat) (ys:List V) (H':Hp) (its:List Value) (k:Nat),Inv (lN X scope C N s2 H2 fp) [(D,{cls:=.type "list",data:=.seq its.toArray k })] (wE js σ) H' s'/\Vals ys its/\ys.length<=sizeLine/\tn i s'.heap/\(∀b∈fp,H' b=none)/\W i n ys H') ?_ m0 ?_
  ·rintro n s3 ⟨i,ys,H3,its,k,I3,rv,hz,st3,fr3,w3⟩
   show wpAny _ X.A ((compTurn (.ListComp elt [⟨tg,iter,ifs,0⟩] scope pos) 0 (.ref it) (.ref D) (compEnvC scope (iU X.env scope.names []) C X.env)).onRaise (fun x=>do noteFrame x _;theTreesLotGoes x)) _ _ s3
   refine wpAny_noted (wpAny_noRaise ?_)
   rw[compTurn_list];rcases turn i n ys H3 w3 with⟨stop,qn⟩ | ⟨goes,hlt,Nx,hN,step⟩
   ·refine wpAny_bind (wpAny_standAt (wpAny_bind (bK (T.done (lN X scope C N s2 H2 fp) rfl rfl rfl hc i _ s3 (wE js σ) H3 (fun _ _=>False) I3 (fpY fr3 one) st3 stop) fun r s4 ⟨hr,I4⟩=>?_)))
    subst hr;refine wpAny_pure ?_
    have pD:=I4.pin (D,{cls:=.type "list",data:=.seq its.toArray k }) (by simp [lN])
    obtain⟨mC,hnC,_⟩:=id I4.loc
    have IX:Inv X pins σ (aH H3 D (.lst ys)) s4:=by
     refine I2.call' (ch:=fp) I4.os (Un.more I4.base (Heap.get?_none_of_le hDs) (I2.hok.fresh hDs)) (HOk.more I4.hok pD.2.1 ⟨hz,its,k,rv,pD.1⟩) I4.bare fun b hb=>?_
     obtain⟨_,f1,_,f3,f4,f5⟩:=f2 b hb
     exact⟨f3,f1,f4,f5⟩
    exact hRR C D ys H3 s4 mC hCs hDs hDC IX I4.free pD.2.1 hnC qn
   ·refine wpAny_bind (wpAny_standAt (wpAny_bind (bK (T.item (lN X scope C N s2 H2 fp) rfl rfl rfl hc i _ s3 (wE js σ) H3 (fun _ _=>False) I3 (fpY fr3 one) st3 goes) fun r s4 ⟨u,hr,h4⟩=>?_)))
    subst hr;refine wpAny_bind (bK h4 fun _ s5 ⟨x,H5,I5,r5,y5,st5,fr5⟩=>?_)
    have I5':=I5.pinned (fpY fr5 one) (T.obj _ _ st5)
    refine wpAny_bind (bK (pg _ s5 (wE js σ) H5 x u _ I5' r5 (go _ _ _ _ (step x H5 y5))) fun _ s6 ⟨σ6,H6,I6,⟨q6,l6,e6⟩⟩=>?_)
    have weak:∀ {pl:List (Addr × Obj)} {H7:Hp} {s7:Shared},Inv (lN X scope C N s2 H2 fp) pl σ6 H7 s7->Inv (lN X scope C N s2 H2 fp) pl (wE js σ) H7 s7:=fun {pl H7 s7} I7=>by
     refine I7.weak l6.symm fun j v hj=>?_
     cases e:js[j]? with
     | none=>unfold wE at hj;rw[gQ,e]at hj;cases hj
     | some o=>
      cases o with
      | none=>unfold wE at hj;rw[gQ,e]at hj;cases hj
      | some j'=>rw[e6 j j' e];exact hj
    have keepN:∀ {H7:Hp} {s7:Shared} {pl:List (Addr × Obj)},Inv (lN X scope C N s2 H2 fp) (pl++oM fp s5.heap) (wE js σ) H7 s7->tn (i+1) s7.heap/\∀b∈fp,H7 b=none:=fun {H7 s7 pl} I7=>by
     refine⟨T.keep _ _ _ st5 fun b hb o e=>(I7.pin (b,o) (List.mem_append_right _ (List.mem_append_right _ (gW hb e)))).1,fun b hb=>?_⟩
     obtain⟨o,e,d⟩:=T.obj _ _ st5 b hb
     exact(I7.pin (b,o) (List.mem_append_right _ (List.mem_append_right _ (gW hb e)))).2.1
    refine wpAny_bind (bK (pt _ s6 σ6 H6 _ _ I6 q6) fun ok s7 ⟨H7,I7,q7⟩=>?_)
    cases ok with
    | false=>
     rw[if_neg Bool.false_ne_true]at q7;refine wpAny_pure ⟨rfl,?_⟩
     obtain⟨m',hm,w7⟩:=hN ys H7 q7
     have I7':=weak I7
     obtain⟨k1,k2⟩:=keepN I7'
     exact⟨m',hm,i+1,ys,H7,its,k,I7'.unpinned,rv,hz,k1,k2,w7⟩
    | true=>
     rw[if_pos rfl]at q7;show wpAny _ _ ((eval elt _ >>= fun x=>call (.builtin "list.append") [.ref D,x] >>= fun _=>pure ()) >>= fun _=>again _) _ _ _
     refine wpAny_bind (wpAny_bind (bK (pe _ s7 σ6 H7 _ I7 q7) fun y s8 ⟨yv,H8,I8,r8,q8⟩=>?_))
     obtain⟨m',hm,w8⟩:=hN (ys++[yv]) H8 q8
     have I8':=weak I8
     obtain⟨k1,k2⟩:=keepN I8'
     have pD:=I8'.pin (D,{cls:=.type "list",data:=.seq its.toArray k }) (by simp [lN])
     have hln:=rv.length
     refine wpAny_bind (call_meets F.slot_list_append ⟨_,pD.1,rfl⟩ F.entry_list_append (F.args_list_append_2 _ _) (PySem.list_append D its.toArray k y (by rw[dF];omega)) ⟨pD.1,?_⟩)
     refine wpAny_pure (wpAny_pure ⟨rfl,m',hm,i+1,ys++[yv],H8,its++[y],?_⟩)
     have q:=PySem.IsL.update pD.1 (fun z=>z.push y)
     have eA:its.toArray.push y=(its++[y]).toArray:=by simp
     rw[eA]at q;have I9:Inv (lN X scope C N s2 H2 fp) [] (wE js σ) H8 s8:=I8'.pins_of fun p hp=>absurd hp Zs
     have hob:∀b o,b≠D->s8.heap.get? b=some o->(s8.heap.update D (Obj.mapSeq fun z=>z.push y)).get? b=some o:=fun b o hb hu=>(Heap.get?_update_other s8.heap _ (Ne.symm hb)).trans hu
     have I10:Inv (lN X scope C N s2 H2 fp) [] (wE js σ) H8 {s8 with heap:=s8.heap.update D (Obj.mapSeq fun z=>z.push y),toks:=s8.toks }:=I9.turned hob pD.2.1 pD.2.2.1 (.inr hDs)
      (fun x c e z=>by
       obtain⟨v,oc,q1,q2⟩:=I2.cell x c (dG e).1
       rw[z]at q1;exact absurd (Nat.lt_of_lt_of_le (Heap.lt_size q1) hDs) (Nat.lt_irrefl _))
      (fun p hp=>by
       rcases Zma.mp hp with q | q
       ·exact absurd (show p∈([]:List (Addr × Obj)) from q) Zs
       ·exact absurd q Zs)
     refine⟨(if ((its++[y]).toArray).size == its.toArray.size then k else k+1),I10.pins_of fun p hp=>?_,rv.append (.cons r8 .nil),?_,?_,k2,w8⟩
     ·have e:=Zms.mp hp
      subst e;exact⟨q,pD.2.1,pD.2.2.1,pD.2.2.2.1,fun v z=>nomatch z⟩
     ·rw[wC,List.length_singleton];omega
     ·exact T.keep _ _ _ k1 fun b hb o e=>hob b o (fun z=>dfp (z ▸ hb)) e
  ·exact⟨0,[],H2,[],0,I0,.nil,Nat.zero_le _,T.keep _ _ _ st2 fun b _ o e=>old b o e,fun b hb=>(f2 b hb).1,w0⟩
 exact codeAny_compStart_list (loop _ rfl) (T.self _ 0 _ _ _ (T.keep _ _ _ st2 fun b _ o e=>old b o e) (loop _ rfl))
theorem Km (hc:X.calm=true) (S:CompScope X scope N js) (go:xB js g) (hi:PI X tg iter wi)
  (hb:∀(C:Addr) (s₂:Shared) (H₂:Hp) (fp:List Addr),PG (lN X scope C N s₂ H₂ fp) tg g/\Tj (lN X scope C N s₂ H₂ fp) ifs tt/\PE (lN X scope C N s₂ H₂ fp) elt te)
  (hs:∀x,foldedSetIterable iter X.env x=pure x:=by intro _;rfl):PE X (.ListComp elt [⟨tg,iter,ifs,0⟩] scope pos) (Nm wi js g tt te):=by
 intro pins s σ H Q I h;rw[eval_ListComp];refine wpAny_comprehension_free (use:=none) rfl hs (oS fun y hy hk=>I.ok.has y.1 (S.out y hy hk)) S.kind S.loc (bK (hi pins s σ H _ I h) fun v s1 h1=>bK h1 fun itv s2 h2=>?_)
 obtain⟨it,fp,tn,J,H2,e,I2,T,st2,f2,hw⟩:=h2
 subst e;refine oW (RR:=fun acc C=>compPost (model X.prog X.w) X.A X.xe none (EP X pins σ Q) acc C) hc S go hb I2 T st2 f2 hw ?_
 intro C D ys H3 s3 m hC hD hDC I3 fC fD hn q;refine⟨m,hn,fun h' hs'=>?_⟩
 refine⟨.ref D,aH H3 D (.lst ys),I3.turned (it:=C) (t':=s3.toks) (fun b o hb e=>(hs'.2 b hb).trans e) (by rw[aD (Ne.symm hDC)];exact fC) ?_ (.inr (fU I2.sz hC)) ?_ ?_,rfl,q D fD⟩
 ·exact Nat.ne_of_gt (Nat.lt_of_lt_of_le I2.lt hC)
 ·intro x c e z;obtain⟨v,oc,q1,q2⟩:=I2.cell x c e
  rw[z]at q1;exact absurd (Nat.lt_of_lt_of_le (Heap.lt_size q1) hC) (Nat.lt_irrefl _)
 ·intro p hp z;have:=Heap.lt_size (I2.pin p hp).1
  rw[z]at this;exact absurd (Nat.lt_of_lt_of_le this hC) (Nat.lt_irrefl _)
theorem Kn {i:Nat} {y:Str} {py spos:Pos} (hN:X.N.Nodup) (hy:X.N[i]?=some y) (hx:Na X.env.scope y) (hc:X.calm=true) (S:CompScope X scope N js) (go:xB js g) (hi:PI X tg iter wi)
  (hb:∀(C:Addr) (s₂:Shared) (H₂:Hp) (fp:List Addr),PG (lN X scope C N s₂ H₂ fp) tg g/\Tj (lN X scope C N s₂ H₂ fp) ifs tt/\PE (lN X scope C N s₂ H₂ fp) elt te)
  (hsw:swapsWith (.ListComp elt [⟨tg,iter,ifs,0⟩] scope pos) (some (.Name y py)) spos.line X.env=pure true)
  (hs:∀x,foldedSetIterable iter X.env x=pure x:=by intro _;rfl) (hf:X.fn y=true∨X.env.scope.names.lookup y=some .local:=by first | exact .inl rfl | exact .inr rfl | assumption) :
  PS X (.Assign [.Name y py] (.ListComp elt [⟨tg,iter,ifs,0⟩] scope pos) spos) (Nn i wi js g tt te):=by
 intro pins s σ H D I h;rw[exec_Assign_Name_used _ _ _ _ hsw];refine wpAny_bind (wpAny_standAt (wpAny_bind ?_))
 show wpAny _ X.A (do let _ ← comprehension (.ListComp elt [⟨tg,iter,ifs,0⟩] scope pos) scope X.env _ (newList []) false (eval iter X.env) (some (assign (.Name y py) X.env))) _ _ s
 refine wpAny_bind (bK (wpAny_comprehension_free (use:=some (assign (.Name y py) X.env)) (Q:=fun _ s'=>SP X pins D .next s') rfl hs (oS fun y hy hk=>I.ok.has y.1 (S.out y hy hk)) S.kind S.loc
  (bK (hi pins s σ H _ I h) fun v s1 h1=>bK h1 fun itv s2 h2=>?_)) fun _ s' hq=>wpAny_pure (wpAny_pure hq))
 obtain⟨it,fp,tn,J,H2,e,I2,T,st2,f2,hw⟩:=h2
 subst e;refine oW (RR:=fun acc C=>compPost (model X.prog X.w) X.A X.xe (some (assign (.Name y py) X.env)) (fun _ s'=>SP X pins D .next s') acc C) hc S go hb I2 T st2 f2 hw ?_
 intro C Da ys H3 s3 m hC hD hDC I3 fC fD hn q;have cne:∀x c,X.env.cells.lookup x=some c->c≠C:=fun x c e z=>by
  obtain⟨v,oc,q1,q2⟩:=I2.cell x c e
  rw[z]at q1;exact absurd (Nat.lt_of_lt_of_le (Heap.lt_size q1) hC) (Nat.lt_irrefl _)
 have lne:C≠X.env.locals:=Nat.ne_of_gt (Nat.lt_of_lt_of_le I2.lt hC)
 show wpAny _ X.A (assign (.Name y py) X.env (.ref Da)) _ _ _
 refine wpAny_assign_Name (qB (v:=.ref Da) I3 hN hy hx rfl (fun s4 I4 hs4=>?_) hf)
 obtain⟨a,hsb,ha⟩:=hs4
 have aC:C≠a:=by
  rcases ha with z | z
  ·rw[z];exact lne
  ·exact Ne.symm (cne y a z)
 refine⟨m,hn.sameBut hsb aC,fun h' hs'=>?_⟩
 refine⟨_,_,I4.turned (it:=C) (t':=s4.toks) (fun b o hb e=>(hs'.2 b hb).trans e) (by rw[aD (Ne.symm hDC)];exact fC) lne (.inr (fU I2.sz hC)) cne ?_,q Da fD⟩
 intro p hp z;have:=Heap.lt_size (I2.pin p hp).1
 rw[z]at this;exact absurd (Nat.lt_of_lt_of_le this hC) (Nat.lt_irrefl _)
end
end L2
namespace L2
open PySem PySem.Spec PyProof.Rows
def Wl (x:Str):It:=⟨fun i _=>i<x.cps.size,fun i H v H'=>H'=H/\∃c,x.cps[i]?=some c/\v=.str ⟨#[c]⟩,fun i _=>x.cps.size<=i⟩
theorem xC {P:Program} {w:World} {K:W.Frag} {tg:Expr} (it:Addr) (x:Str) (t:Tok):rO P w K tg (Wl x) [it] it (fun i h=>h.IsStrIter it "str_ascii_iterator" x t i) where
 mem:=by simp
 obj:=fun i h st b hb=>by
  have e:b=it:=by simpa using hb
  subst e;obtain⟨o,e,c,d⟩:=st
  exact⟨o,e,fun v z=>by rw[d]at z;cases z⟩
 keep:=fun i h h' st k=>let ⟨o,ho,r⟩:=st;⟨o,k it Zs o ho,r⟩
 item:=by
  intro X hP hw hK hc i pins s σ H E I hf st hg;subst hP hw hK;obtain⟨f0,f1,f2,f3,f4,f5⟩:=hf it Zs
  have hi:i<x.cps.size:=hg
  refine wpAny_pyNext_ascii_item st (c:=x.cps[i]) (by simp [hi]) fun h' st' sb=>?_
  have I1:Inv X pins σ H {s with heap:=h',toks:=s.toks+1 }:=I.turned (fun b o hb e=>(sb.2 b hb).trans e) f0 f1 f3 f4 f5
  obtain⟨o,e,c,d⟩:=id st'
  exact⟨_,rfl,qC (s:={s with heap:=h',toks:=s.toks+1 }) e c d Zd ⟨.str ⟨#[x.cps[i]]⟩,H,I1,⟨_,rfl⟩,⟨rfl,_,by simp [hi],rfl⟩,st',fun b hb=>(hf b hb).1⟩⟩
 done:=by
  intro X hP hw hK hc i pins s σ H E I hf st hg;subst hP hw hK;obtain⟨f0,f1,f2,f3,f4,f5⟩:=hf it Zs
  have hi:x.cps.size<=i:=hg
  exact wpAny_pyNext_ascii_end (I.ok.hd hc) st (by simp [hi]) fun h' eb=>⟨rfl,I.turned (t':=s.toks) (fun b o hb e=>eb b o hb e) f0 f1 f3 f4 f5⟩
 self:=fun _ _ _ _ _ st h=>wpAny_pyIter_striter_ascii st h
theorem Bn {P:Program} {w:World} {K:W.Frag} {tg:Expr} (it:Addr) (x:Str) (t:Tok):rO P w K tg (Wl x) [it] it (fun i h=>h.IsStrIter it "str_iterator" x t i) where
 mem:=by simp
 obj:=fun i h st b hb=>by
  have e:b=it:=by simpa using hb
  subst e;obtain⟨o,e,c,d⟩:=st
  exact⟨o,e,fun v z=>by rw[d]at z;cases z⟩
 keep:=fun i h h' st k=>let ⟨o,ho,r⟩:=st;⟨o,k it Zs o ho,r⟩
 item:=by
  intro X hP hw hK hc i pins s σ H E I hf st hg;subst hP hw hK;obtain⟨f0,f1,f2,f3,f4,f5⟩:=hf it Zs
  have hi:i<x.cps.size:=hg
  refine wpAny_pyNext_wide_item st (c:=x.cps[i]) (by simp [hi]) fun h' st' sb=>?_
  have I1:Inv X pins σ H {s with heap:=h',toks:=s.toks+1 }:=I.turned (fun b o hb e=>(sb.2 b hb).trans e) f0 f1 f3 f4 f5
  obtain⟨o,e,c,d⟩:=id st'
  exact⟨_,rfl,qC (s:={s with heap:=h',toks:=s.toks+1 }) e c d Zd ⟨.str ⟨#[x.cps[i]]⟩,H,I1,⟨_,rfl⟩,⟨rfl,_,by simp [hi],rfl⟩,st',fun b hb=>(hf b hb).1⟩⟩
 done:=by
  intro X hP hw hK hc i pins s σ H E I hf st hg;subst hP hw hK;obtain⟨f0,f1,f2,f3,f4,f5⟩:=hf it Zs
  have hi:x.cps.size<=i:=hg
  exact wpAny_pyNext_wide_end (I.ok.hd hc) st (by simp [hi]) fun h' eb=>⟨rfl,I.turned (t':=s.toks) (fun b o hb e=>eb b o hb e) f0 f1 f3 f4 f5⟩
 self:=fun _ _ _ _ _ st h=>wpAny_pyIter_striter_wide st h
section
variable {X:Cx} {tg:Expr}
def Um (tl:TE):TI:=fun σ H R=>tl σ H fun x H1=>∃z,x=.str z/\R (Wl z) H1
theorem Qp {l:Expr} {tl:TE} (hl:PE X l tl):PI X tg l (Um tl):=by
 intro pins s σ H R I h;refine bK (hl pins s σ H _ I h) fun v s1 ⟨x,H1,I1,r1,q1⟩=>?_
 obtain⟨z,rfl,q⟩:=q1
 obtain⟨t,rfl⟩:=r1
 have fp:∀b∈[s1.heap.objs.size],lP X pins H1 b:=fun b hb=>by
  have e:b=s1.heap.objs.size:=by simpa using hb
  subst e;exact I1.fpOk (cA _) (I1.hok.fresh (cA _))
 cases ha:z.cps.all (·<128)
 ·refine wpAny_pyIter_wide ha ?_
  exact⟨s1.heap.objs.size,[s1.heap.objs.size],_,_,H1,rfl,I1.kept (t':=s1.toks) fun b o e=>iO _ e,Bn _ z t,⟨_,Heap.get?_push_size _ rfl,rfl,rfl⟩,fp,q⟩
 ·refine wpAny_pyIter_ascii ha ?_
  exact⟨s1.heap.objs.size,[s1.heap.objs.size],_,_,H1,rfl,I1.kept (t':=s1.toks) fun b o e=>iO _ e,xC _ z t,⟨_,Heap.get?_push_size _ rfl,rfl,rfl⟩,fp,q⟩
end
abbrev tx (l:List Nat):Str:=⟨l.toArray⟩
theorem xD (x:Str):tx x.cps.toList=x:=by cases x;simp
theorem fW (l:List Nat):(tx l).length=l.length:=by simp [Str.length]
theorem xE (a b:List Nat):tx a++tx b=tx (a++b):=by
 show Str.append (tx a) (tx b)=_
 unfold Str.append;simp
theorem Ko (x y:Str):(x++y).cps.toList=x.cps.toList++y.cps.toList:=by
 show(Str.append x y).cps.toList=_
 unfold Str.append;simp
def gT {α:Type} (xs:List α) (lo hi:Option Int):List α:=(xs.drop (HT.sIx xs.length 0 lo)).take (HT.sIx xs.length xs.length hi - HT.sIx xs.length 0 lo)
theorem zB (n d:Nat) (v:Option Int):(match v with | none=>(d:Int) | some i=>max 0 (min (if i<0 then i+(n:Int) else i) (n:Int)))=((HT.sIx n d v:Nat):Int):=by
 cases v with
 | none=>rfl
 | some i=>
  show max 0 (min (if i<0 then i+(n:Int) else i) (n:Int))=(((if i<0 then (i+(n:Int)).toNat else min i.toNat n):Nat):Int)
  by_cases h:i<0
  ·rw[if_pos h,if_pos h];omega
  ·rw[if_neg h,if_neg h];omega
theorem Ey (lo hi:Option Int) (n:Nat):Builtin.Str.strSliceIndices lo hi 1 n=(List.range (HT.sIx n n hi - HT.sIx n 0 lo)).map (HT.sIx n 0 lo+·):=by
 rw[<- sliceRange_one,<- zB n 0 lo,<- zB n n hi];unfold Builtin.Str.strSliceIndices;simp only [show(1:Int) > 0 by decide,if_true]
 cases lo <;> cases hi <;> rfl
theorem Kq (n d:Nat) (hd:d<=n) (v:Option Int):HT.sIx n d v<=n:=by
 cases v with
 | none=>exact hd
 | some i=>
  show(if i<0 then (i+(n:Int)).toNat else min i.toNat n)<=n
  split <;> omega
theorem Bo (x:Str) (lo hi:Option Int):(Txt.slice x lo hi).cps.toList=gT x.cps.toList lo hi:=by
 have hl:x.cps.toList.length=x.length:=by simp [Str.length]
 unfold Txt.slice gT;rw[hl,Ey];have key:=pick_run x.cps (HT.sIx x.length 0 lo) (HT.sIx x.length x.length hi - HT.sIx x.length 0 lo)
 split
 ·rename_i h
  have h2:(HT.sIx x.length x.length hi - HT.sIx x.length 0 lo)=x.length:=by simpa using h
  have h3:=Kq x.length x.length (cA _) hi
  have h4:HT.sIx x.length 0 lo=0∨x.length=0:=by omega
  rw[h2];rcases h4 with h4 | h4
  ·rw[h4,List.drop_zero,Jb (by rw[hl];exact cA _)]
  ·have e:x.cps.toList=[]:=List.eq_nil_of_length_eq_zero (by rw[hl];exact h4)
   rw[e];simp
 ·simpa using key
theorem Ez (x:Str) (lo hi:Option Int):Txt.slice x lo hi=tx (gT x.cps.toList lo hi):=by
 rw[<- Bo,xD]
section
variable {X:Cx}
def Xf:V->Option Int->Option Int->Hp->VK->Prop:=fun x lo hi H Q=>∃z,x=.str z/\z.length<=sizeLine/\Q (.str (tx (gT z.cps.toList lo hi))) H
theorem xF {h:Heap} {sl:Addr} {vl vu:Value} {lo hi:Option Int} (hs:h.IsSliceOf sl vl vu .none) (pl:IsPart vl lo) (pu:IsPart vu hi):∃l u:Option (Int × Tok),h.IsSlice sl l u none/\l.map (·.1)=lo/\u.map (·.1)=hi:=by
 cases pl with
 | none=>
  cases pu with
  | none=>exact⟨none,none,hs,rfl,rfl⟩
  | int j t=>exact⟨none,some (j,t),hs,rfl,rfl⟩
 | int i t=>
  cases pu with
  | none=>exact⟨some (i,t),none,hs,rfl,rfl⟩
  | int j u=>exact⟨some (i,t),some (j,u),hs,rfl,rfl⟩
theorem Qq:SlR X Xf:=by
 intro pins s σ H x v vl vu lo hi sl Q I rx hs pl pu h;obtain⟨z,rfl,hz,q⟩:=h
 obtain⟨t,rfl⟩:=rx
 obtain⟨l,u,hS,e1,e2⟩:=xF hs pl pu
 refine⟨"str",_,F.slot_str_getitem.lookup,typeIs_str _ _ _,wpAny_getItem_str_slice hS rfl ?_⟩
 have fin:∀t' k,EP X pins σ Q (.str (Txt.slice z lo hi) t') {s with toks:=k }:=fun t' k=>⟨.str (tx (gT z.cps.toList lo hi)),H,I.tok _,⟨t',by rw[Ez]⟩,q⟩
 subst e1 e2;exact post_val_or_str ⟨fU (Txt.slice_le z _ _) hz,fun t' k=>fin t' k⟩
theorem kA {ns:List Str}:∀ {us:List Value},Vals (ns.map V.str) us->StrsAre us ns:=by
 induction ns with
 | nil=>intro us r;rw[List.map_nil]at r;cases r;exact .nil
 | cons n ns ih=>
  intro us r;rw[List.map_cons]at r;cases r with
  | cons r1 r2=>
   obtain⟨t,e⟩:=r1
   subst e;exact .cons n t (ih r2)
def Fa (K:W.Frag):V->List V->Hp->VK->Prop:=fun x vs H Q=>∃sep p ys,x=.str sep/\vs=[.ref p]/\SqL K H p (ys.map V.str)/\(ys.map (·.length)).sum+ys.length*sep.length<=16777216/\Q (.str (Txt.join sep ys)) H
theorem Kr:Qg X "str.join" (Fa X.K):=by
 intro pins s σ H x vs v us Q I rx rv h;obtain⟨sep,p,ys,rfl,rfl,hq,hz,q⟩:=h
 obtain⟨t,rfl⟩:=rx
 obtain⟨u,rfl,ru⟩:=rv.one
 cases ru
 obtain⟨its,r,pl,_⟩:=I.list hq
 exact join_list pl.isList (by simpa using kA r) hz fun t' k=>⟨.str _,H,I.tok _,⟨_,rfl⟩,q⟩
def Xg (K:W.Frag):List V->Hp->VK->Prop:=fun vs H Q=>∃x T t b,vs=[x,.ty T]/\kM K H x t/\W.kitOne K t (.type T)=some b/\Q (.bl b) H
theorem Fb:CallR X (.builtin "isinstance") (Xg X.K):=by
 intro pins s σ H xs us Q I r h;obtain⟨x,T,t,b,rfl,ty,e,q⟩:=h
 obtain⟨u,c,rfl,ru,rc⟩:∃u c,us=[u,c]/\RelV x u/\RelV (.ty T) c:=by
  cases r with
  | cons p q=>
   cases q with
   | cons p' q'=>
    cases q'
    exact⟨_,_,rfl,p,p'⟩
 cases (show c=Value.type T from rc)
 exact Bb I ru ty e fun tk=>⟨.bl b,H,I.tok _,rfl,q⟩
theorem nF {ns:List Bool}:∀ {us:List Value},Vals (ns.map V.bl) us->PyProof.Rows.LSm.BoolsAre us ns:=by
 induction ns with
 | nil=>intro us r;rw[List.map_nil]at r;cases r;exact .nil
 | cons n ns ih=>
  intro us r;rw[List.map_cons]at r;cases r with
  | cons r1 r2=>
   have e:=r1
   cases (show _=Value.bool n from e)
   exact .cons n (ih r2)
def Qr (K:W.Frag):List V->Hp->VK->Prop:=fun vs H Q=>∃(p:Addr) (bs:List Bool),vs=[.ref p]/\SqL K H p (bs.map V.bl)/\Q (.bl (bs.all id)) H
def Qs (K:W.Frag):List V->Hp->VK->Prop:=fun vs H Q=>∃(p:Addr) (bs:List Bool),vs=[.ref p]/\SqL K H p (bs.map V.bl)/\Q (.bl (bs.any id)) H
def Qt (K:W.Frag):List V->Hp->VK->Prop:=fun vs H Q=>∃(p:Addr) (ns:List Int),vs=[.ref p]/\SqL K H p (ns.map V.int)/\Q (.int (List.sum ns)) H
theorem Fc (hc:X.calm=true):CallR X (.builtin "all") (Qr X.K):=by
 intro pins s σ H xs us Q I r h;obtain⟨p,bs,rfl,hq,q⟩:=h
 obtain⟨u,rfl,ru⟩:=fG r
 cases ru
 obtain⟨its,rv,pl,hz⟩:=I.list hq
 have hl:=pl.isList
 have hb:=nF rv
 have hlt:p<s.heap.objs.size:=by obtain⟨_,e,_⟩:=hl;exact Heap.lt_size e
 refine call_all_walk (wpAny_pyIter_list hl ?_)
 refine⟨s.heap.objs.size,[s.heap.objs.size,p],[s.heap.objs.size],its.toArray.size,_,_,fun i=>(bs[i]?).getD true,rfl,Walks.list (A:=X.A.in1) (I.ok.hd hc) _ p (Nat.ne_of_lt hlt) its.toArray,
  ⟨⟨_,Heap.get?_push_size _ rfl,rfl,rfl⟩,hl.push _⟩,fun i v s' Q' E' hP hQ=>?_,fun h' tk hk=>?_⟩
 ·obtain⟨b,e,rfl⟩:=hb.get i v (by simpa using hP)
  simp only [e,Option.getD_some]at hQ
  exact wpAny_truthy_bool hQ
 ·have e:((List.range its.toArray.size).all fun i=>(bs[i]?).getD true)=bs.all id:=by
   rw[dF,hb.length];exact PyProof.Rows.LSm.range_all bs
  rw[e];exact⟨.bl _,H,I.kept (PyProof.Rows.LSm.kept_iter hk),rfl,q⟩
theorem Fd (hc:X.calm=true):CallR X (.builtin "any") (Qs X.K):=by
 intro pins s σ H xs us Q I r h;obtain⟨p,bs,rfl,hq,q⟩:=h
 obtain⟨u,rfl,ru⟩:=fG r
 cases ru
 obtain⟨its,rv,pl,hz⟩:=I.list hq
 have hl:=pl.isList
 have hb:=nF rv
 have hlt:p<s.heap.objs.size:=by obtain⟨_,e,_⟩:=hl;exact Heap.lt_size e
 refine call_any_walk (wpAny_pyIter_list hl ?_)
 refine⟨s.heap.objs.size,[s.heap.objs.size,p],[s.heap.objs.size],its.toArray.size,_,_,fun i=>(bs[i]?).getD false,rfl,Walks.list (A:=X.A.in1) (I.ok.hd hc) _ p (Nat.ne_of_lt hlt) its.toArray,
  ⟨⟨_,Heap.get?_push_size _ rfl,rfl,rfl⟩,hl.push _⟩,fun i v s' Q' E' hP hQ=>?_,fun h' tk hk=>?_⟩
 ·obtain⟨b,e,rfl⟩:=hb.get i v (by simpa using hP)
  simp only [e,Option.getD_some]at hQ
  exact wpAny_truthy_bool hQ
 ·have e:((List.range its.toArray.size).any fun i=>(bs[i]?).getD false)=bs.any id:=by
   rw[dF,hb.length];exact PyProof.Rows.LSm.range_any bs
  rw[e];exact⟨.bl _,H,I.kept (PyProof.Rows.LSm.kept_iter hk),rfl,q⟩
theorem Fe (hc:X.calm=true):CallR X (.builtin "sum") (Qt X.K):=by
 intro pins s σ H xs us Q I r h;obtain⟨p,ns,rfl,hq,q⟩:=h
 obtain⟨u,rfl,ru⟩:=fG r
 cases ru
 obtain⟨its,rv,pl,hz⟩:=I.list hq
 have hi:=jY rv
 obtain⟨xs,hx⟩:=hi.allInts.items
 have hl':s.heap.IsList p (intItems xs):=hx ▸ pl.isList
 refine sum_intListG (I.ok.hd hc) hl' fun h' tk t' hk=>?_
 have e1:ns=xs.toList.map (·.1):=by
  rw[<- nums_intItems,<- hx];exact(show numsOf its.toArray.toList=ns from hi.numsOf).symm
 have e2:preSum (numAt xs) xs.size=ns.sum:=by
  rw[preSum_eq,Jb Zs,e1]
 rw[e2];exact⟨.int _,H,I.kept hk,⟨_,rfl⟩,q⟩
end
section
variable {X:Cx}
def xG (K:W.Frag) (neg:Bool):R2:=fun x y H Q=>∃(a b:Addr) (xs:List V),x=.ref a/\y=.ref b/\SqL K H a xs/\SqL K H b []/\Q (.bl (if neg then !xs.isEmpty else xs.isEmpty)) H
theorem qQ {us:List Value} (r:Vals [] us):us=[]:=by cases r;rfl
theorem Ff (hu:X.A.units<cLine):OpR X (compareOp .NotEq) (xG X.K true):=by
 intro pins s σ H x y v u Q I rx ry h;obtain⟨a,b,xs,rfl,rfl,h1,h2,q⟩:=h
 cases rx
 cases ry
 obtain⟨its,r1,p1,_⟩:=I.list h1
 obtain⟨its2,r2,p2,_⟩:=I.list h2
 have e2:=qQ r2
 subst e2;have hl:=r1.length
 cases xs with
 | nil=>
  have e1:=qQ r1
  subst e1;exact SeqAt.RcNeAt.lists (e:=fun _=>true) p1.isList p2.isList rfl hu (fun j h=>absurd h Zs) _ _ _ _ ⟨.bl false,H,I,rfl,q⟩
 | cons z zs=>
  exact SeqAt.RcNeAt.lists_lengths p1.isList p2.isList (by simp only [dF,<- hl];simp) hu _ _ _ _ ⟨.bl true,H,I,rfl,q⟩
end
end L2
namespace L2
open PySem PySem.Spec PyProof.Rows
def mB (x:V) (k:Bool->Prop):Prop:=match x with | .bl b=>k b | _=>False
def mI (x:V) (k:Int->Prop):Prop:=match x with | .int b=>k b | _=>False
def mS (x:V) (k:Str->Prop):Prop:=match x with | .str b=>k b | _=>False
def mR (x:V) (k:Addr->Prop):Prop:=match x with | .ref b=>k b | _=>False
theorem uM (x:V) (k:Bool->Prop):mB x k=∃b,x=.bl b/\k b:=by
 cases x <;> simp [mB]
theorem kS (x:V) (k:Int->Prop):mI x k=∃b,x=.int b/\k b:=by
 cases x <;> simp [mI]
theorem kT (x:V) (k:Str->Prop):mS x k=∃b,x=.str b/\k b:=by
 cases x <;> simp [mS]
theorem cC (x:V) (k:Addr->Prop):mR x k=∃b,x=.ref b/\k b:=by
 cases x <;> simp [mR]
theorem kJ {n:Nat} (h:Nat.ble n 1000=true):n<=sizeLine:=fU (Nat.le_of_ble_eq_true h) Zd
theorem kB {n:Nat} (h:n<=1000):n<=sizeLine:=fU h Zd
section
variable {X:Cx} {a b c e:Expr} {ta tb tc te:TE} {pos:Pos}
def vr (i:Nat):TE:=fun σ H Q=>match σ[i]? with | some (some v)=>Q v H | _=>False
theorem Uo (i:Nat):vr i=Os i:=by
 funext σ H Q
 unfold vr Os;apply propext
 cases σ[i]? with
 | none=>simp
 | some o=>cases o <;> simp
theorem xv (i:Nat) {x:Str} {pos:Pos} (hN:X.N[i]?=some x:=by rfl) (hv:Tm X.env.scope x:=by first | exact Or.inl rfl | exact Or.inr (Or.inl rfl) | exact Or.inr (Or.inr rfl)) (hd:(x == ("__debug__":Str))=false:=by decide)
  (hcd:(x == ("__classdict__":Str))=false:=by decide):PE X (.Name x pos) (vr i):=by
 rw[Uo];exact Ot hN hv hd hcd
theorem OpR.imp {f:Value->Value->Sem Value} {r r':R2} (h:OpR X f r) (hi:∀x y H Q,r' x y H Q->r x y H Q):OpR X f r':=fun pins s σ H x y v u Q I rx ry q=>h pins s σ H x y v u Q I rx ry (hi x y H Q q)
theorem UnR.imp {f:Value->Sem Value} {r r':V->Hp->VK->Prop} (h:UnR X f r) (hi:∀x H Q,r' x H Q->r x H Q):UnR X f r':=fun pins s σ H x v Q I rx q=>h pins s σ H x v Q I rx (hi x H Q q)
theorem CallR.imp {f:Value} {r r':List V->Hp->VK->Prop} (h:CallR X f r) (hi:∀xs H Q,r' xs H Q->r xs H Q):CallR X f r':=fun pins s σ H xs us Q I rs q=>h pins s σ H xs us Q I rs (hi xs H Q q)
theorem IxR.imp {r r':R2} (h:IxR X r) (hi:∀x y H Q,r' x y H Q->r x y H Q):IxR X r':=fun value slice pins s σ H x y v u Q I rx ry q=>h value slice pins s σ H x y v u Q I rx ry (hi x y H Q q)
theorem SlR.imp {r r':V->Option Int->Option Int->Hp->VK->Prop} (h:SlR X r) (hi:∀x l u H Q,r' x l u H Q->r x l u H Q):SlR X r':=fun pins s σ H x v vl vu lo hi' sl Q I rx hs pl pu q=>h pins s σ H x v vl vu lo hi' sl Q I rx hs pl pu (hi x lo hi' H Q q)
def m2 (C:Int->Int->Prop) (g:Int->Int->V):R2:=fun x y H Q=>mI x fun i=>mI y fun j=>C i j/\Q (g i j) H
def zC (g:Int->Int->V):R2:=fun x y H Q=>mI x fun i=>mI y fun j=>Q (g i j) H
theorem jC {g:Int->Int->V} (x y:V) (H:Hp) (Q:VK) (h:zC g x y H Q):Jq g x y H Q:=by
 unfold zC at h;rw[kS]at h;obtain⟨i,rfl,h⟩:=h
 rw[kS]at h;obtain⟨j,rfl,h⟩:=h
 exact⟨i,j,rfl,rfl,h⟩
theorem sV {C:Int->Int->Prop} {g:Int->Int->V} (x y:V) (H:Hp) (Q:VK) (h:m2 C g x y H Q):rI C g x y H Q:=by
 unfold m2 at h;rw[kS]at h;obtain⟨i,rfl,h⟩:=h
 rw[kS]at h;obtain⟨j,rfl,hc,h⟩:=h
 exact⟨i,j,rfl,rfl,hc,h⟩
theorem Up:OpR X (binaryOp .Add) (zC fun i j=>.int (i+j)):=Ps.imp jC
theorem Uq:OpR X (binaryOp .Sub) (zC fun i j=>.int (i - j)):=Pu.imp jC
theorem Ur:OpR X (binaryOp .Mult) (m2 CMul fun i j=>.int (i*j)):=Pw.imp sV
theorem Us:OpR X (binaryOp .Mod) (m2 (fun _ j=>0<j) fun i j=>.int (i % j)):=Px.imp sV
theorem Ut:OpR X (binaryOp .Pow) (m2 Pr fun i j=>.int (i ^ j.toNat)):=Py.imp sV
theorem Xh:OpR X (compareOp .Lt) (zC fun i j=>.bl (decide (i<j))):=Ty.imp jC
theorem Xi:OpR X (compareOp .LtE) (zC fun i j=>.bl (decide (i<=j))):=Tz.imp jC
theorem Xj:OpR X (compareOp .Gt) (zC fun i j=>.bl (decide (j<i))):=Ua.imp jC
theorem Xk:OpR X (compareOp .GtE) (zC fun i j=>.bl (decide (j<=i))):=Ub.imp jC
def Fg:R2:=fun x y H Q=>mS x fun i=>mS y fun j=>i.length+j.length<=sizeLine/\Q (.str (i++j)) H
theorem Qu:OpR X (binaryOp .Add) Fg:=wK.imp fun x y H Q h=>by
 unfold Fg at h;rw[kT]at h;obtain⟨i,rfl,h⟩:=h
 rw[kT]at h;obtain⟨j,rfl,hc,h⟩:=h
 exact⟨i,j,rfl,rfl,hc,h⟩
def Xl:R2:=fun x y H Q=>match x,y with
 | .int i,.int j=>Q (.bl (decide (i=j))) H
 | .str i,.str j=>Q (.bl (decide (i=j))) H
 | .bl i,.bl j=>Q (.bl (decide (i=j))) H
 | .non,.non=>Q (.bl true) H
 | .int _,.non=>Q (.bl false) H | .non,.int _=>Q (.bl false) H
 | .str _,.non=>Q (.bl false) H | .non,.str _=>Q (.bl false) H
 | .bl _,.non=>Q (.bl false) H | .non,.bl _=>Q (.bl false) H
 | .int _,.str _=>Q (.bl false) H | .str _,.int _=>Q (.bl false) H
 | .bl _,.str _=>Q (.bl false) H | .str _,.bl _=>Q (.bl false) H
 | _,_=>False
def Xm:R2:=fun x y H Q=>match x,y with
 | .int i,.int j=>Q (.bl (!decide (i=j))) H
 | .str i,.str j=>Q (.bl (!decide (i=j))) H
 | .bl i,.bl j=>Q (.bl (!decide (i=j))) H
 | .non,.non=>Q (.bl false) H
 | .int _,.non=>Q (.bl true) H | .non,.int _=>Q (.bl true) H
 | .str _,.non=>Q (.bl true) H | .non,.str _=>Q (.bl true) H
 | .bl _,.non=>Q (.bl true) H | .non,.bl _=>Q (.bl true) H
 | .int _,.str _=>Q (.bl true) H | .str _,.int _=>Q (.bl true) H
 | .bl _,.str _=>Q (.bl true) H | .str _,.bl _=>Q (.bl true) H
 | _,_=>False
theorem Xn:OpR X (compareOp .Eq) Xl:=Nd.imp fun x y H Q h=>by
 unfold Xl at h;unfold Yg;split at h <;> first | exact h.elim | (refine⟨rfl,?_⟩;first | simpa using h | exact h)
theorem Xo:OpR X (compareOp .NotEq) Xm:=Nf.imp fun x y H Q h=>by
 unfold Xm at h;unfold Yh;split at h <;> first | exact h.elim | (refine⟨rfl,?_⟩;first | simpa using h | exact h)
def Qv (neg:Bool):R2:=fun x y H Q=>mS x fun i=>mS y fun j=>∃c,i=tx [c]/\Q (.bl (if neg then !decide (c∈j.cps.toList) else decide (c∈j.cps.toList))) H
theorem Uu:OpR X (compareOp .In) (Qv false):=Ay.imp fun x y H Q h=>by
 unfold Qv at h;rw[kT]at h;obtain⟨i,rfl,h⟩:=h
 rw[kT]at h;obtain⟨j,rfl,c,rfl,h⟩:=h
 refine⟨_,j,rfl,rfl,?_⟩
 have e:=StrLaws.found_one j c
 have e':(!(Builtin.Str.occurrences j (tx [c]) 0 j.length 1).isEmpty)=decide (c∈j.cps.toList):=e
 rw[e'];exact h
theorem Uv:OpR X (compareOp .Is) (fun x y H Q=>match y with | .non=>Q (.bl (decide (x=.non))) H | _=>False):=Qa.imp fun x y H Q h=>by
 cases y <;> first | exact⟨rfl,h⟩ | exact h.elim
theorem Qw:OpR X (compareOp .IsNot) (fun x y H Q=>match y with | .non=>Q (.bl (!decide (x=.non))) H | _=>False):=Js.imp fun x y H Q h=>by
 cases y <;> first | exact⟨rfl,h⟩ | exact h.elim
def mT (t:TE):TT:=fun σ H Q=>t σ H fun x H'=>mB x fun k=>Q k H'
theorem No (t:TE):mT t=yQ t:=by
 funext σ H Q
 unfold mT yQ;congr 1
 funext x H'
 exact uM x _
theorem Qx (t:TE):mT t=tB t:=by
 funext σ H Q
 unfold mT tB;congr 1
 funext x H'
 exact uM x _
theorem Uw {op:CmpOp} {r:R2} (ho:OpR X (compareOp op) r) (ha:PE X a ta) (hb:PE X b tb) (hm:behindInMarks op b=false:=by first | exact rP _ | rfl):PT X (.Compare a [op] [b] pos) (mT (Dq r ta tb)):=by
 rw[No];exact Ju ho ha hb hm
theorem Ux {op:CmpOp} {r:R2} (ho:OpR X (compareOp op) r) (ha:PE X a ta) (hb:PE X b tb) (hm:behindInMarks op b=false:=by first | exact rP _ | rfl):PE X (.Compare a [op] [b] pos) (Dq r ta tb):=Jt ho ha hb hm
def lV (r r':R2) (ta tb tc:TE):TE:=fun σ H Q=>ta σ H fun x H1=>tb σ H1 fun y H2=>r x y H2 fun z H3=>mB z fun k=>(if k=true then tc σ H3 fun w' H4=>r' y w' H4 Q else Q (.bl false) H3)
theorem qR (r r':R2) (ta tb tc:TE):lV r r' ta tb tc=rQ r r' ta tb tc:=by
 funext σ H Q
 unfold lV rQ;congr 1
 funext x H1
 congr 1
 funext y H2
 congr 1
 funext z H3
 exact uM z _
theorem Kt {op op':CmpOp} {r r':R2} (ho:OpR X (compareOp op) r) (ho':OpR X (compareOp op') r') (ha:PE X a ta) (hb:PE X b tb) (hc:PE X c tc)
  (hm:lastMarks [op,op'] [b,c]=false:=by with_unfolding_all rfl):PE X (.Compare a [op,op'] [b,c] pos) (lV r r' ta tb tc):=by
 rw[qR];exact Ds ho ho' ha hb hc hm
theorem Ku {op op':CmpOp} {r r':R2} (ho:OpR X (compareOp op) r) (ho':OpR X (compareOp op') r') (ha:PE X a ta) (hb:PE X b tb) (hc:PE X c tc)
  (hm:lastMarks [op,op'] [b,c]=false:=by with_unfolding_all rfl):PT X (.Compare a [op,op'] [b,c] pos) (mT (lV r r' ta tb tc)):=by
 rw[No,qR];exact Dt ho ho' ha hb hc hm
theorem Uy {t:TE} (h:PE X e t) (he:∀whole,isTrue e X.env whole=(do let v ← whole;standAt e.pos;holding [v] (truthy v)):=by intro _;rfl):PT X e (mT t):=by
 rw[Qx];exact Ox h he
def zD (ta tb:TE):TE:=fun σ H Q=>ta σ H fun x H1=>mB x fun c=>if c=true then tb σ H1 Q else Q (.bl false) H1
def Kv (ta tb:TE):TE:=fun σ H Q=>ta σ H fun x H1=>mB x fun c=>if c=true then Q (.bl true) H1 else tb σ H1 Q
theorem Uz {rest:List Expr} (ha:PE X a ta) (hb:PE X (.BoolOp .And (b::rest) pos) tb):PE X (.BoolOp .And (a::b::rest) pos) (zD ta tb):=by
 have:zD ta tb=Dg ta tb:=by
  funext σ H Q;unfold zD Dg;congr 1;funext x H1;exact uM x _
 rw[this];exact Pd ha hb
theorem Xp {rest:List Expr} (ha:PE X a ta) (hb:PE X (.BoolOp .Or (b::rest) pos) tb):PE X (.BoolOp .Or (a::b::rest) pos) (Kv ta tb):=by
 have:Kv ta tb=Pb ta tb:=by
  funext σ H Q;unfold Kv Pb;congr 1;funext x H1;exact uM x _
 rw[this];exact Tq ha hb
theorem Va (ha:PE X a ta):PE X (.UnaryOp .USub a pos) (Wv (fun x H Q=>mI x fun i=>Q (.int (-i)) H) ta):=Tw (Pz.imp fun x H Q h=>by
 rw[kS]at h;obtain⟨i,rfl,h⟩:=h
 exact⟨i,rfl,h⟩) ha
def Kw (K:W.Frag):R2:=fun x y H Q=>mR x fun p=>mI y fun i=>∃xs,SqL K H p xs/\∃v,lM xs i=some v/\Q v H
def Kx (K:W.Frag):R2:=fun x y H Q=>mR x fun p=>mI y fun i=>∃xs,SqT K H p xs/\∃v,lM xs i=some v/\Q v H
def Qy:R2:=fun x y H Q=>mS x fun z=>mI y fun i=>z.length<=sizeLine/\∃c,lM z.cps.toList i=some c/\Q (.str (tx [c])) H
theorem Qz:IxR X (Kw X.K):=Ke.imp fun x y H Q h=>by
 unfold Kw at h;rw[cC]at h;obtain⟨p,rfl,h⟩:=h
 rw[kS]at h;obtain⟨i,rfl,xs,hq,v,hv,h⟩:=h
 exact⟨p,xs,i,v,rfl,rfl,hq,hv,h⟩
theorem Vb:IxR X (Kx X.K):=Qh.imp fun x y H Q h=>by
 unfold Kx at h;rw[cC]at h;obtain⟨p,rfl,h⟩:=h
 rw[kS]at h;obtain⟨i,rfl,xs,hq,v,hv,h⟩:=h
 exact⟨p,xs,i,v,rfl,rfl,hq,hv,h⟩
theorem Vc:IxR X Qy:=Qi.imp fun x y H Q h=>by
 unfold Qy at h;rw[kT]at h;obtain⟨z,rfl,h⟩:=h
 rw[kS]at h;obtain⟨i,rfl,hz,c,hc,h⟩:=h
 exact⟨z,i,c,rfl,rfl,hz,hc,h⟩
theorem Xq {r:R2} (hr:IxR X r) (ha:PE X a ta) (hb:PE X b tb) (hs:rW b:=by exact fun _ _=>rfl):PE X (.Subscript a b pos) (Dq r ta tb):=Ug hr ha hb hs
def zE (t:TE):TO:=fun σ H Q=>t σ H fun x H1=>mI x fun i=>Q (some i) H1
theorem Ra (h:PE X e te):PO X (some e) (zE te):=by
 have:zE te=Dz te:=by
  funext σ H Q;unfold zE Dz;congr 1;funext x H1;exact kS x _
 rw[this];exact Kb h
def Rb:V->Option Int->Option Int->Hp->VK->Prop:=fun x lo hi H Q=>mS x fun z=>z.length<=sizeLine/\Q (.str (tx (gT z.cps.toList lo hi))) H
theorem Vd:SlR X Rb:=Qq.imp fun x l u H Q h=>by
 unfold Rb at h;rw[kT]at h;obtain⟨z,rfl,hz,h⟩:=h
 exact⟨z,rfl,hz,h⟩
def Ky (K:W.Frag):V->Option Int->Option Int->Hp->VK->Prop:=fun x lo hi H Q=>mR x fun a=>∃xs,SqL K H a xs/\∀p,H p=none->Q (.ref p) (aH H p (.lst (gT xs lo hi)))
theorem Rc:SlR X (Ky X.K):=Kf.imp fun x l u H Q h=>by
 unfold Ky at h;rw[cC]at h;obtain⟨a,rfl,xs,hq,h⟩:=h
 exact⟨a,xs,rfl,hq,h⟩
theorem Re:CallR X (.builtin "len") (fun vs H Q=>match vs with | [.str z]=>z.length<=sizeLine/\Q (.int z.length) H | _=>False):=sN.imp fun vs H Q h=>by
 split at h
 ·rename_i z
  exact⟨z,rfl,h.1,h.2⟩
 ·exact h.elim
theorem Rf:CallR X (.builtin "len") (fun vs H Q=>match vs with | [.ref p]=>∃ys,(SqL X.K H p ys∨SqT X.K H p ys)/\Q (.int ys.length) H | _=>False):=sM.imp fun vs H Q h=>by
 split at h
 ·rename_i p
  obtain⟨ys,hq,h⟩:=h
  exact⟨p,ys,rfl,hq,h⟩
 ·exact h.elim
end
inductive Kd where | non | bl | int | str | lst | tup | dct
def Kz:Kd->String | .non=>"NoneType" | .bl=>"bool" | .int=>"int" | .str=>"str" | .lst=>"list" | .tup=>"tuple" | .dct=>"dict"
def Kof (H:Hp):V->Kd->Prop
 | .non,.non=>True | .bl _,.bl=>True | .int _,.int=>True | .str _,.str=>True
 | .ref a,.lst=>(∃xs,H a=some (.lst xs))∨∃o xs,H a=some (.frz o (.lst xs))
 | .ref a,.tup=>∃xs,H a=some (.tup xs)
 | .ref a,.dct=>∃kvs,H a=some (.dK kvs)
 | _,_=>False
def Ve:Kd->Kd->Bool | .non,.non=>true | .bl,.bl=>true | .int,.int=>true | .int,.bl=>true | .str,.str=>true | .lst,.lst=>true | .tup,.tup=>true | .dct,.dct=>true | _,_=>false
theorem Vf (K:W.Frag) (want k:Kd):W.kitOne K (.type (Kz k)) (.type (Kz want))=some (Ve want k):=by
 cases want <;> cases k <;> first | rfl | kernel_rfl
theorem Xr {K:W.Frag} {H:Hp} {x:V} {k:Kd} (h:Kof H x k):kM K H x (.type (Kz k)):=by
  cases x <;> cases k <;> first
    | exact h.elim
    | exact .non
    | exact .bl _
    | exact .int _
    | exact .str _
    | (obtain⟨xs,e⟩:=h;exact .tup e)
    | (obtain⟨xs,e⟩:=h;exact .dK e)
    | (rcases h with⟨xs,e⟩ | ⟨o,xs,e⟩
       . exact .lst e
       . exact .frz e)
def Rg (want:Kd):List V->Hp->VK->Prop:=fun vs H Q=>match vs with
 | [x,y]=>y=.ty (Kz want)/\∃k,Kof H x k/\Q (.bl (Ve want k)) H
 | _=>False
section
variable {X:Cx}
theorem Vg (want:Kd):CallR X (.builtin "isinstance") (Rg want):=Fb.imp fun vs H Q h=>by
 unfold Rg at h;split at h
 ·rename_i x y
  obtain⟨rfl,k,hk,h⟩:=h
  exact⟨x,_,_,_,rfl,Xr hk,Vf X.K want k,h⟩
 ·exact h.elim
variable {e:Expr} {te:TE} {p p2 pos:Pos} {T:Str}
def Rh (want:Kd) (te:TE):TE:=fun σ H Q=>te σ H fun x H1=>∃k,Kof H1 x k/\Q (.bl (Ve want k)) H1
theorem Vh (want:Kd) (he:PE X e te) (hg:Gl X "isinstance") (hm:X.mg "isinstance"=none) (hgT:Gl X T) (hmT:X.mg T=none) (hT:bootBuiltins T=some (.type (Kz want)))
  (hs:starEach [e,.Name T p2] X.env=(false,eval e X.env)::starEach [.Name T p2] X.env:=by rfl) (hs2:starEach [.Name T p2] X.env=(false,eval (.Name T p2) X.env)::starEach [] X.env:=by rfl)
  (hn:T≠"__name__":=by decide) (hd:(T == ("__debug__":Str))=false:=by decide) (hpl:(backTo pos (starEach [.Name T p2] X.env)).any (·.1)=false:=by rfl) :
  PE X (.Call (.Name "isinstance" p) [e,.Name T p2] [] pos) (Rh want te):=by
 have h:=uG (X:=X) (x:="isinstance") (p:=p) (pos:=pos) (Vg want) hg hm PyProof.Rows.boot_isinstance (rS he (rS (Jd (v:=.ty (Kz want)) (pos:=p2) hgT hmT hT rfl hn hd) wR hs2) hs) Zd Zd hs hpl
 intro pins s σ H Q I q;exact h pins s σ H Q I (by
  show te σ H _
  have:(fun(x:V) (H1:Hp)=>Rg want [x,.ty (Kz want)] H1 Q)=(fun x H1=>∃k,Kof H1 x k/\Q (.bl (Ve want k)) H1):=by
   funext x H1
   apply propext
   constructor
   ·rintro⟨_,z⟩;exact z
   ·intro z;exact⟨rfl,z⟩
  exact this ▸ q)
end
structure aI (P:Program) (w:World) (K:W.Frag) (mg:Str->Option Value) (base:Heap) (n:Nat) (x:Str) (ps:List Str) (sp:Sp):Prop where
 ex:∃(f:Addr) (fd:FuncData),iM P w K mg base qM n f fd ps sp/\mg x=some (.ref f)/\W.keepIn K (.ref f)=true/\Binds K fd ps []
section
variable {X:Cx} {n:Nat} {x:Str} {ps:List Str} {sp:Sp} {p pos:Pos} {e:Expr} {es:List Expr} {t:TA}
def Xs (sp:Sp) (t:TA):TE:=fun σ H Q=>t σ H fun vs H1=>sp vs H1 Q E0
theorem Xt (c:aI X.prog X.w X.K X.mg X.base n x ps sp) (hr:Room n X.A) (hg:Gl X x) (ha:PA X (e::es) t) (hdb:(x == ("__debug__":Str))=false:=by decide)
  (he:starEach (e::es) X.env=(false,eval e X.env)::starEach es X.env:=by rfl) (hpl:(backTo pos (starEach es X.env)).any (·.1)=false:=by rfl):PE X (.Call (.Name x p) (e::es) [] pos) (Xs sp t):=by
 obtain⟨f,fd,F,hm,hk,hb⟩:=c.ex
 have h:=Jy (X:=X) (p:=p) (pos:=pos) (E:=E0) F hr hg hm hk hb (dvs:=[]) .nil qN ha hdb he hpl
 intro pins s σ H Q I q;exact h pins s σ H Q I (by
  show t σ H _
  have:(fun(vs:List V) (H1:Hp)=>sp (vs++[]) H1 Q E0)=(fun vs H1=>sp vs H1 Q E0):=by
   funext vs H1;rw[List.append_nil]
  rw[this];exact q)
end
structure DefAt (K:W.Frag) (mg:Str->Option Value) (x:Str) (st:Stmt) (ps:List Str):Prop where
 ex:∃(f:Addr) (fd:FuncData),Fun K x x st f fd/\mg x=some (.ref f)/\Binds K fd ps []
theorem DefAt.ok {P:Program} {w:World} {K:W.Frag} {mg:Str->Option Value} {base:Heap} {x:Str} {st:Stmt} {N ps:List Str} {k:Nat} {sp:Sp} (D:DefAt K mg x st ps) (S:aG N ps (aB st)) (len:∀vs H Q E,sp vs H Q E->vs.length=ps.length)
  (hbody:∀(f:Addr) (cdv:Value) (A:Around) (outer:List Env) (s:Shared) (H:Hp) (vs:List V) (Q:VK) (E:XK),Room k (A.deeper (envOfC x (aB st) s.heap.objs.size f cdv))->sp vs H Q E →
   ∃t,PSs (lT qM P w K mg base N x (aB st) f cdv A outer s H E).nox (aR st) t/\t {nx:=fun _ H'=>Q .non H',rt:=Q } (start N vs) H):aI P w K mg base (k+1) x ps sp:=by
 obtain⟨f,fd,F,hm,hb⟩:=D.ex
 exact⟨f,fd,F.ok S len (hbody f),hm,F.kp,hb⟩
def Fh (sc0:Scope) (N0:List Str) (scope:Scope) (N:List Str) (js:List (Option Nat)):Bool:=
 (scope.kind == .function)&&scope.names.all (fun y=>y.2 != .cell)&&scope.names.all (fun y=>y.2 != .local||scope.names.lookup y.1 == some .local)&&(js.length == N.length)&&
 (List.range js.length).all (fun i=>match js[i]? with | some (some j)=>(match N[i]? with | some x=>N0[j]? == some x&&scope.names.lookup x == some .free | none=>false) | _=>true)&&
 scope.names.all (fun y=>y.2 != .free||sc0.names.lookup y.1 == some .cell||sc0.names.lookup y.1 == some .free)
theorem CompScope.by {X:Cx} {scope:Scope} {N:List Str} {js:List (Option Nat)} (sc0:Scope) (N0:List Str) (h0:X.env.scope=sc0) (hN:X.N=N0) (ok:Fh sc0 N0 scope N js=true):CompScope X scope N js:=by
 unfold Fh at ok;simp only [Bool.and_eq_true]at ok
 obtain⟨⟨⟨⟨⟨h1,h2⟩,h3⟩,h4⟩,h5⟩,h6⟩:=ok
 refine⟨by simpa using h1,fun y hy=>?_,fun y hy hk=>?_,by simpa using h4,fun i j e=>?_,fun y hy hk=>?_⟩
 ·have:=List.all_eq_true.mp h2 y hy
  simpa using this
 ·have:=List.all_eq_true.mp h3 y hy
  rw[hk]at this;simpa using this
 ·have hi:i<js.length:=(Zgs.mp e).1
  have:=List.all_eq_true.mp h5 i (List.mem_range.mpr hi)
  rw[e]at this;cases q:N[i]? with
  | none=>simp [q]at this
  | some x=>
   simp only [q,Bool.and_eq_true,beq_iff_eq]at this
   exact⟨x,rfl,by rw[hN];exact this.1,this.2⟩
 ·have:=List.all_eq_true.mp h6 y hy
  rw[hk]at this;have z:(sc0.names.lookup y.1 == some .cell)=true∨(sc0.names.lookup y.1 == some .free)=true:=by simpa using this
  have ek:X.env.kindOf y.1=sc0.names.lookup y.1:=by rw[<- h0];rfl
  rw[ek];rcases z with z | z
  ·exact .inl (by simpa using z)
  ·exact .inr (by simpa using z)
end L2
namespace L2
open PySem PySem.Spec PyProof.Rows
def aM:Expr->Bool | .Starred _ _=>false | _=>true
theorem bI {e:Expr} {es:List Expr} {env:Env} (h:aM e=true):starEach (e::es) env=(false,eval e env)::starEach es env:=by
 cases e <;> first | rfl | cases h
theorem eQ {es:List Expr} {env:Env} {pos:Pos} (h:es.all aM=true):(backTo pos (starEach es env)).any (·.1)=false:=by
 induction es with
 | nil=>rfl
 | cons e es ih=>
  rw[List.all_cons,Bool.and_eq_true]at h;rw[bI h.1];have:=ih h.2
  show(false||(backTo pos (starEach es env)).any (·.1))=false
  rw[this];rfl
section
variable {X:Cx} {e o:Expr} {es:List Expr} {te to:TE} {t:TA} {x:Str} {p pos apos cpos:Pos} {id T:String} {r:List V->Hp->VK->Prop}
theorem Fi (ha:PE X e te) (hr:PA X es t) (h:aM e=true:=by rfl):PA X (e::es) (uD te t):=rS ha hr (bI h)
theorem La (hc:CallR X (.builtin id) r) (hg:Gl X x) (hm:X.mg x=none) (hv:bootBuiltins x=some (.builtin id)) (ha:PA X (e::es) t) (hn:x≠"__name__":=by decide) (hdb:(x == ("__debug__":Str))=false:=by decide)
  (h1:aM e=true:=by rfl) (h2:es.all aM=true:=by rfl):PE X (.Call (.Name x p) (e::es) [] pos) (Td r t):=uG hc hg hm hv ha hn hdb (bI h1) (eQ h2)
theorem Fj (hc:CallR X (.type T) r) (hg:Gl X x) (hm:X.mg x=none) (hv:bootBuiltins x=some (.type T)) (ha:PA X (e::es) t) (hn:x≠"__name__":=by decide) (hdb:(x == ("__debug__":Str))=false:=by decide)
  (h1:aM e=true:=by rfl) (h2:es.all aM=true:=by rfl):PE X (.Call (.Name x p) (e::es) [] pos) (Td r t):=Bd hc hg hm hv ha hn hdb (bI h1) (eQ h2)
theorem Vi {n:Nat} {ps:List Str} {sp:Sp} (c:aI X.prog X.w X.K X.mg X.base n x ps sp) (hr:Room n X.A) (hg:Gl X x) (ha:PA X (e::es) t) (hdb:(x == ("__debug__":Str))=false:=by decide)
  (h1:aM e=true:=by rfl) (h2:es.all aM=true:=by rfl):PE X (.Call (.Name x p) (e::es) [] pos) (Xs sp t):=Xt c hr hg ha hdb (bI h1) (eQ h2)
theorem Fk {es:List Expr} {env:Env} {cpos:Pos} (h:es.all aM=true):(backTo cpos (starEach es env)).all (fun x=>!x.1)=true:=by
 induction es with
 | nil=>rfl
 | cons e es ih=>
  rw[List.all_cons,Bool.and_eq_true]at h;rw[bI h.1];show(!false&&(backTo cpos (starEach es env)).all (fun x=>!x.1))=true
  rw[ih h.2];rfl
theorem Xu {name:Str} {r:V->List V->Hp->VK->Prop} (pa:PlainAttrs T) (slot:Slot T name id) (hty:typeOf (.builtin id)=pure (.type "method_descriptor")) (hm:Qg X id r) (ho:PE X o to) (ha:PA X (e::es) t)
  (hbase:attributeBase o name X.env (eval o X.env)=eval o X.env:=by rfl) (hline:(apos.endLine == cpos.line)=true:=by rfl) (h1:aM e=true:=by rfl) (h2:es.all aM=true:=by rfl) (hn:es.length+1<30:=by decide) :
  PE X (.Call (.Attribute o name apos) (e::es) [] cpos) (Wk X.K T r to t):=by
 refine Uh pa slot hty hm ho ha hbase ?_ hline (bI h1) (eQ h2)
 rw[Fk (by rw[List.all_cons,h1,h2];rfl)]
 show(true&&true&&decide (es.length+1+0+0<30))=true
 simp
 omega
theorem Ri {p2:Pos} {T:Str} (want:Kd) (he:PE X e te) (hg:Gl X "isinstance") (hm:X.mg "isinstance"=none) (hgT:Gl X T) (hmT:X.mg T=none) (hT:bootBuiltins T=some (.type (Kz want)))
  (hn:T≠"__name__":=by decide) (hd:(T == ("__debug__":Str))=false:=by decide) (h1:aM e=true:=by rfl):PE X (.Call (.Name "isinstance" p) [e,.Name T p2] [] pos) (Rh want te):=
 Vh want he hg hm hgT hmT hT (bI h1) (bI rfl) hn hd (eQ rfl)
end
end L2
namespace L2
open PySem PySem.Spec PyProof.Rows
theorem cH:bootBuiltins "len"=some (.builtin "len"):=by decide +kernel
theorem Fl:bootBuiltins "all"=some (.builtin "all"):=by decide +kernel
theorem Rj:bootBuiltins "any"=some (.builtin "any"):=by decide +kernel
theorem Rk:bootBuiltins "sum"=some (.builtin "sum"):=by decide +kernel
theorem cO:bootBuiltins "sorted"=some (.builtin "sorted"):=by decide +kernel
theorem Fm:bootBuiltins "max"=some (.builtin "max"):=by decide +kernel
theorem zF:bootBuiltins "list"=some (.type "list"):=by decide +kernel
theorem sW:bootBuiltins "str"=some (.type "str"):=by decide +kernel
theorem Rl:bootBuiltins "int"=some (.type "int"):=by decide +kernel
theorem Lb:bootBuiltins "bool"=some (.type "bool"):=by decide +kernel
theorem oX:bootBuiltins "tuple"=some (.type "tuple"):=by decide +kernel
theorem zG:bootBuiltins "dict"=some (.type "dict"):=by decide +kernel
structure Dk (H:Hp) (d b:Addr):Prop where
 ex:∃(ns:List Int) (s k:Int),H d=some (.lst [.ref b,.int s,.int k])/\H b=some (.lst (ns.map V.int))/\ns.length<=63
def Kp (d b:Addr) (H H':Hp):Prop:=∀c o,H c=some o->c≠d->c≠b->H' c=some o
theorem Kp.refl {d b:Addr} {H:Hp}:Kp d b H H:=fun _ _ e _ _=>e
theorem Kp.trans {d b:Addr} {H H1 H2:Hp} (x:Kp d b H H1) (y:Kp d b H1 H2):Kp d b H H2:=fun c o e h1 h2=>y c o (x c o e h1 h2) h1 h2
theorem Kp.new {d b p:Addr} {H:Hp} {o:HO} (h:H p=none):Kp d b H (aH H p o):=fun c u e _ _=>by rw[aD (aE e h)];exact e
theorem Dk.new {d b p:Addr} {H:Hp} {o:HO} (x:Dk H d b) (h:H p=none):Dk (aH H p o) d b:=by
 obtain⟨ns,s,k,h1,h2,h3⟩:=x.ex
 exact⟨ns,s,k,by rw[aD (aE h1 h)];exact h1,by rw[aD (aE h2 h)];exact h2,h3⟩
def Fn (K:W.Frag):Sp:=fun vs H Q _=>∃(a:Addr) (ns:List Int),vs=[.ref a]/\SqL K H a (ns.map V.int)/\∀d b H',H d=none->H b=none->Dk H' d b->Same H H'->Q (.ref d) H'
end L2
namespace L2
theorem xH {c:Bool} {A B:Prop} (h:c=true) (k:A):if c=true then A else B:=by rw[if_pos h];exact k
theorem oY {c:Bool} {A B:Prop} (h:c=false) (k:B):if c=true then A else B:=by rw[if_neg (by rw[h];exact Bool.false_ne_true)];exact k
theorem fX {c:Bool} {A B:Prop} (ht:c=true->A) (hf:c=false->B):if c=true then A else B:=by
 cases h:c with
 | true=>rw[if_pos rfl];exact ht h
 | false=>rw[if_neg Bool.false_ne_true];exact hf h
end L2
namespace L2
open PySem PySem.Spec PyProof.Rows
structure uN (J:It) (xs:List V) (A:Hp->Prop):Prop where
 go:∀i H,i<xs.length->A H->J.go i H
 yld:∀i H x H',i<xs.length->A H->J.yld i H x H'->H'=H/\xs[i]?=some x
 stop:∀H,A H->J.stop xs.length H
def qS (x:Str):List V:=x.cps.toList.map fun c=>V.str (tx [c])
theorem Lc (x:Str):uN (Wl x) (qS x) (fun _=>True):=by
 have hl:(qS x).length=x.cps.size:=by simp [qS]
 refine⟨fun i H hi _=>by rw[hl]at hi;exact hi,fun i H v H' _ _ ⟨e,c,hc,ev⟩=>⟨e,?_⟩,fun H _=>by rw[hl];exact cA _⟩
 subst ev;unfold qS;rw[gQ,Array.getElem?_toList,hc];rfl
def iV (lo:Int) (n:Nat):List V:=(List.range n).map fun(i:Nat)=>V.int (lo+(i:Int))
theorem jD (lo:Int) (n:Nat):uN (Wi lo n) (iV lo n) (fun _=>True):=by
 have hl:(iV lo n).length=n:=by simp [iV]
 refine⟨fun i H hi _=>by rw[hl]at hi;exact hi,fun i H v H' hi _ ⟨e,ev⟩=>⟨e,?_⟩,fun H _=>by rw[hl];exact cA _⟩
 subst ev;rw[hl]at hi;unfold iV;rw[gQ,List.getElem?_range hi];rfl
theorem bR (K:W.Frag) (a:Addr) (xs:List V):uN (Pl K a) xs (fun H=>SqL K H a xs):=
 ⟨fun i H hi h=>⟨xs,xs[i],h,by simp [hi]⟩,fun i H x H' _ h ⟨e,y⟩=>⟨e,y xs h⟩,fun H h=>⟨xs,h,cA _⟩⟩
theorem gX (K:W.Frag) (a:Addr) (xs:List V):uN (Wu K a) xs (fun H=>SqT K H a xs):=
 ⟨fun i H hi h=>⟨xs,xs[i],h,by simp [hi]⟩,fun i H x H' _ h ⟨e,y⟩=>⟨e,y xs h⟩,fun H h=>⟨xs,h,cA _⟩⟩
theorem bB {J:It} {xs:List V} {A:Hp->Prop} {js:List (Option Nat)} {g:TG} {tt:TT} {te:TE} {σ:St} {H:Hp} {Q:List V->Hp->Prop} (S:uN J xs A) (hz:xs.length<=100000) (Pv:Nat->List V->Hp->Prop) (hA:∀i ys H,Pv i ys H->A H/\ys.length<=i) (h0:Pv 0 [] H)
  (hs:∀i x ys H,xs[i]?=some x->Pv i ys H->g x (wE js σ) H fun σ2 H2=>tt σ2 H2 fun b H3=>if b=true then te σ2 H3 fun y H4=>Pv (i+1) (ys++[y]) H4 else Pv (i+1) ys H3)
  (hd:∀ys H,Pv xs.length ys H->Q ys H):oV js g tt te σ J H Q:=by
 refine⟨fun i m ys H=>m=xs.length - i/\i<=xs.length/\Pv i ys H,⟨xs.length,Zs,Nat.zero_le _,h0⟩,?_⟩
 rintro i m ys H ⟨rfl,hi,p⟩
 obtain⟨pa,hy⟩:=hA i ys H p
 by_cases hlt:i<xs.length
 ·refine .inr ⟨S.go i H hlt pa,wH (m:=100000) Zo Zd,Pv (i+1),fun ys' H' p'=>⟨xs.length - (i+1),Zo,rfl,hlt,p'⟩,fun x H' y=>?_⟩
  obtain⟨rfl,hx⟩:=S.yld i H x H' hlt pa y
  exact hs i x ys H' hx p
 ·have e:i=xs.length:=by omega
  subst e;exact .inl ⟨S.stop H pa,hd ys H p⟩
theorem Bp {J:It} {xs:List V} {A:Hp->Prop} {js:List (Option Nat)} {g:TG} {tt:TT} {te:TE} {σ:St} {H:Hp} {Q:List V->Hp->Prop} (S:uN J xs A) (hz:xs.length<=100000) (p:V->Bool) (f:V->V) (hA:A H)
  (hs:∀(x:V) (ys:List V) (N:List V->Hp->Prop),x∈xs->(p x=true->N (ys++[f x]) H)->(p x=false->N ys H)->g x (wE js σ) H fun σ2 H2=>tt σ2 H2 fun b H3=>if b=true then te σ2 H3 fun y H4=>N (ys++[y]) H4 else N ys H3)
  (hd:Q ((xs.filter p).map f) H):oV js g tt te σ J H Q:=by
 refine bB S hz (fun i ys H'=>ys=((xs.take i).filter p).map f/\H'=H) (fun i ys H' ⟨e,e2⟩=>⟨by rw[e2];exact hA,?_⟩) ⟨Zs,rfl⟩ (fun i x ys H' hx ⟨e,e2⟩=>?_) (fun ys H' ⟨e,e2⟩=>?_)
 ·rw[e,bN];exact fU (List.length_filter_le _ _) (by rw[oC];exact Nat.min_le_left _ _)
 ·subst e2;have key:(xs.take (i+1)).filter p=(xs.take i).filter p++(if p x=true then [x] else []):=take_succ_filter p xs i x hx
  refine hs x ys (fun ys' H3=>ys'=((xs.take (i+1)).filter p).map f/\H3=H') (kK hx) (fun h=>⟨?_,rfl⟩) (fun h=>⟨?_,rfl⟩)
  ·rw[key,if_pos h,iG,e];rfl
  ·rw[key,if_neg (by rw[h];exact Bool.false_ne_true),List.append_nil,e]
 ·subst e2;rw[e,Jb (cA _)];exact hd
theorem eC {J:It} {xs:List V} {A:Hp->Prop} {g:TG} {tb:TS} {D:gK} {σ:St} {H:Hp} (S:uN J xs A) (Pv:Nat->St->Hp->Prop) (hA:∀i σ H,Pv i σ H->A H) (h0:Pv 0 σ H)
  (hs:∀(i:Nat) (x:V) σ H,xs[i]?=some x->Pv i σ H->g x σ H fun σ2 H2=>tb {D with nx:=Pv (i+1),ct:=Pv (i+1),bk:=D.nx } σ2 H2) (hd:∀ σ H,Pv xs.length σ H->D.nx σ H) :
  ∃W:Nat->Nat->St->Hp->Prop,(∃m,W 0 m σ H)/\∀i m σ H,W i m σ H →
   (J.stop i H/\D.nx σ H)∨(J.go i H/\∃N:St->Hp->Prop,(∀ σ' H',N σ' H'->∃m',m'<m/\W (i+1) m' σ' H')/\∀x H',J.yld i H x H'->g x σ H' fun σ2 H2=>tb {D with nx:=N,ct:=N,bk:=D.nx } σ2 H2):=by
 refine⟨fun i m σ H=>m=xs.length - i/\i<=xs.length/\Pv i σ H,⟨xs.length,Zs,Nat.zero_le _,h0⟩,?_⟩
 rintro i m σ H ⟨rfl,hi,p⟩
 have pa:=hA i σ H p
 by_cases hlt:i<xs.length
 ·refine .inr ⟨S.go i H hlt pa,Pv (i+1),fun σ' H' p'=>⟨xs.length - (i+1),Zo,rfl,hlt,p'⟩,fun x H' y=>?_⟩
  obtain⟨rfl,hx⟩:=S.yld i H x H' hlt pa y
  exact hs i x σ H' hx p
 ·have e:i=xs.length:=by omega
  subst e;exact .inl ⟨S.stop H pa,hd σ H p⟩
end L2
namespace L2
open PySem
theorem aF {H:Hp} {p:Addr} {o:HO} (h:H p=none):Same H (aH H p o):=fun b u q=>by rw[aD (aE q h)];exact q
theorem sX {α:Type} (xs:List α) (k:Nat):gT xs none (some (k:Int))=xs.take k:=by
 unfold gT;rw[HT.sIx_none,HT.sIx_nat,List.drop_zero,Nat.sub_zero,<- List.take_take,Jb (cA _)]
theorem Fo {α:Type} (xs:List α) (k:Nat):gT xs (some (k:Int)) none=xs.drop k:=by
 unfold gT;rw[HT.sIx_none,HT.sIx_nat];by_cases h:k<=xs.length
 ·rw[Nat.min_eq_left h,Jb (by rw[List.length_drop];exact cA _)]
 ·rw[Nat.min_eq_right Zo,List.drop_of_length_le (cA _),List.drop_of_length_le Zo,List.take_nil]
theorem Ld {α β:Type} (f:α->β) (xs:List α) (lo hi:Option Int):gT (xs.map f) lo hi=(gT xs lo hi).map f:=by
 unfold gT;rw[bN,<- List.map_drop,<- List.map_take]
end L2
namespace L2
open PySem PySem.Spec PyProof.Rows
theorem kU {α:Type} {xs:List α} {i:Int} (h0:0<=i) (h1:i<xs.length):∃v,lM xs i=some v/\v∈xs:=by
 obtain⟨j,rfl⟩:=Int.eq_ofNat_of_zero_le h0
 have hj:j<xs.length:=by omega
 exact⟨xs[j],gA (by simp [hj]),List.getElem_mem hj⟩
theorem zH (g:Array Nat):∀(ps:List Str) (acc:Array Nat),(ps.foldl (fun acc p=>acc++g++p.cps) acc).toList=acc.toList++(ps.map fun p=>g.toList++p.cps.toList).flatten
 | [],acc=>by simp
 | p::ps,acc=>by
  rw[List.foldl_cons,zH g ps];simp
theorem Fp (ps:List Str):(Txt.join (tx []) ps).cps.toList=(ps.map fun p=>p.cps.toList).flatten:=by
 unfold Txt.join Builtin.Str.glued;rw[zH];cases ps with
 | nil=>simp [Str.empty]
 | cons p ps=>simp
theorem Le (ps:List Str):Txt.join (tx []) ps=tx (ps.map fun p=>p.cps.toList).flatten:=by rw[<- Fp,xD]
theorem xI (ts:List Nat):Txt.join (tx []) (ts.map fun c=>tx [c])=tx ts:=by
 rw[Le,List.map_map];congr 1
 congr 1
 induction ts with
 | nil=>rfl
 | cons c r ih=>rw[List.map_cons,List.flatten_cons,ih];rfl
theorem Fq:("":Str)=tx []:=by decide +kernel
end L2
namespace L2
open PySem
theorem Dk.ne {H:Hp} {d b p:Addr} (x:Dk H d b) (h:H p=none):p≠d/\p≠b:=by
 obtain⟨ns,s,k,h1,h2,h3⟩:=x.ex
 exact⟨(aE h1 h).symm,(aE h2 h).symm⟩
theorem Fs (x:Str):x=tx x.cps.toList:=(xD x).symm
end L2
namespace L2
open PySem
theorem uO:∀ts:List Nat,((ts.map fun c=>tx [c]).map (·.length)).sum=ts.length
 | []=>rfl
 | c::ts=>by
  rw[List.map_cons,List.map_cons,List.sum_cons,uO ts,wG];show 1+ts.length=_
  omega
end L2
namespace L2
open PySem
theorem Vj {t:TT} {σ:St} {H:Hp} {Q:Bool->Hp->Prop} (R:Bool->Hp->Prop) (h:∀k:Bool->Hp->Prop,(∀v H',R v H'->k v H')->t σ H k) (h2:∀v H',R v H'->Q v H'):t σ H Q:=h Q h2
theorem Vk {t:TS} {D:gK} {σ:St} {H:Hp} (R:St->Hp->Prop) (h:∀nx:St->Hp->Prop,(∀ σ' H',R σ' H'->nx σ' H')->t {D with nx:=nx } σ H) (h2:∀ σ' H',R σ' H'->D.nx σ' H'):t D σ H:=h D.nx h2
theorem Kof.same {H H':Hp} {x:V} {k:Kd} (s:Same H H') (h:Kof H x k):Kof H' x k:=by
  cases x <;> cases k <;> first
    | exact h
    | (obtain⟨xs,e⟩:=h;exact⟨xs,s _ _ e⟩)
    | (rcases h with⟨xs,e⟩ | ⟨o,xs,e⟩
       . exact .inl ⟨xs,s _ _ e⟩
       . exact .inr ⟨o,xs,s _ _ e⟩)
theorem Dk.same {H H':Hp} {d b:Addr} (s:Same H H') (h:Dk H d b):Dk H' d b:=by
 obtain⟨ns,s0,k,h1,h2,h3⟩:=h.ex
 exact⟨ns,s0,k,s _ _ h1,s _ _ h2,h3⟩
end L2
namespace L2
open PySem PySem.Spec PyProof.Rows
structure XE (X:Cx) (e:Expr) (t:TE):Prop where
 h:PE X e t
structure XT (X:Cx) (e:Expr) (t:TT):Prop where
 h:PT X e t
structure XW (X:Cx) (e:Expr) (t:TT):Prop where
 h:PW X e t
structure XA (X:Cx) (es:List Expr) (t:TA):Prop where
 h:PA X es t
structure XS (X:Cx) (st:Stmt) (t:TS):Prop where
 h:PS X st t
structure XB (X:Cx) (st:List Stmt) (t:TS):Prop where
 h:PSs X st t
structure XI (X:Cx) (tg iter:Expr) (t:TI):Prop where
 h:PI X tg iter t
structure XG (X:Cx) (e:Expr) (t:TG):Prop where
 h:PG X e t
structure Vl (X:Cx) (es:List Expr) (t:yM):Prop where
 h:Tt X es t
structure XO (X:Cx) (e:Option Expr) (t:TO):Prop where
 h:PO X e t
structure Wm (X:Cx) (cs:List Expr) (t:TT):Prop where
 h:Tj X cs t
structure Rm (X:Cx) (t:Au):Prop where
 h:Jl X t
structure gU (X:Cx) (f:Value->Value->Sem Value) (r:R2):Prop where
 h:OpR X f r
structure Ro (X:Cx) (r:R2):Prop where
 h:IxR X r
structure Vm (X:Cx) (r:V->Option Int->Option Int->Hp->VK->Prop):Prop where
 h:SlR X r
structure XC (X:Cx) (f:Value) (r:List V->Hp->VK->Prop):Prop where
 h:CallR X f r
structure XM (X:Cx) (id:String) (r:V->List V->Hp->VK->Prop):Prop where
 h:Qg X id r
namespace R
section
variable {X:Cx} {a b c e o i:Expr} {es rest:List Expr} {ta tb tc te to ti:TE} {tA tB':TT} {t u:TA} {pos p p2 apos cpos pos':Pos} {x:Str} {n:Nat} {r r':R2}
theorem v (i:Nat) {x:Str} {pos:Pos} (hN:X.N[i]?=some x:=by rfl) (hv:Tm X.env.scope x:=by first | exact Or.inl rfl | exact Or.inr (Or.inl rfl) | exact Or.inr (Or.inr rfl)) (hd:(x == ("__debug__":Str))=false:=by decide)
  (hcd:(x == ("__classdict__":Str))=false:=by decide):XE X (.Name x pos) (vr i):=⟨xv i hN hv hd hcd⟩
theorem ac {i j pos}:XE X (.Constant (.int i) j pos) (tC (.int i)):=⟨Ou⟩
theorem bl {b j pos}:XE X (.Constant (.bool b) j pos) (tC (.bl b)):=⟨Tn⟩
theorem cf {j pos}:XE X (.Constant .none j pos) (tC .non):=⟨Ov⟩
theorem ah {x j pos}:XE X (.Constant (.str x) j pos) (tC (.str x)):=⟨Ow⟩
theorem gS {z:Str} (hg:Gl X x) (hm:∃t,X.mg x=some (.str z t)) (hd:(x == ("__debug__":Str))=false:=by decide):XE X (.Name x pos) (tC (.str z)):=by
 obtain⟨t,hm⟩:=hm;exact⟨rN hg hm ⟨t,rfl⟩ hd⟩
theorem gI {z:Int} (hg:Gl X x) (hm:∃t,X.mg x=some (.int z t)) (hd:(x == ("__debug__":Str))=false:=by decide):XE X (.Name x pos) (tC (.int z)):=by
 obtain⟨t,hm⟩:=hm;exact⟨rN hg hm ⟨t,rfl⟩ hd⟩
theorem gR {a:Addr} (hg:Gl X x) (hm:X.mg x=some (.ref a)) (hd:(x == ("__debug__":Str))=false:=by decide):XE X (.Name x pos) (tC (.ref a)):=⟨rN hg hm rfl hd⟩
theorem op {op:Operator} (ho:gU X (binaryOp op) r) (ha:XE X a ta) (hb:XE X b tb):XE X (.BinOp a op b pos) (Dq r ta tb):=⟨Tv ho.h ha.h hb.h⟩
theorem ba:gU X (binaryOp .Add) (zC fun i j=>.int (i+j)):=⟨Up⟩
theorem et:gU X (binaryOp .Sub) (zC fun i j=>.int (i - j)):=⟨Uq⟩
theorem du:gU X (binaryOp .Mult) (m2 CMul fun i j=>.int (i*j)):=⟨Ur⟩
theorem cg:gU X (binaryOp .Mod) (m2 (fun _ j=>0<j) fun i j=>.int (i % j)):=⟨Us⟩
theorem dt:gU X (binaryOp .Pow) (m2 Pr fun i j=>.int (i ^ j.toNat)):=⟨Ut⟩
theorem eh:gU X (binaryOp .Add) Fg:=⟨Qu⟩
theorem lt:gU X (compareOp .Lt) (zC fun i j=>.bl (decide (i<j))):=⟨Xh⟩
theorem le:gU X (compareOp .LtE) (zC fun i j=>.bl (decide (i<=j))):=⟨Xi⟩
theorem gt:gU X (compareOp .Gt) (zC fun i j=>.bl (decide (j<i))):=⟨Xj⟩
theorem ge:gU X (compareOp .GtE) (zC fun i j=>.bl (decide (j<=i))):=⟨Xk⟩
theorem eq:gU X (compareOp .Eq) Xl:=⟨Xn⟩
theorem ne:gU X (compareOp .NotEq) Xm:=⟨Xo⟩
theorem ic:gU X (compareOp .In) (Qv false):=⟨Uu⟩
theorem inQ:gU X (compareOp .In) (Te X.K false):=⟨Bf⟩
theorem notInQ:gU X (compareOp .NotIn) (Te X.K true):=⟨rZ⟩
theorem iu:gU X (compareOp .Is) (fun x y H Q=>match y with | .non=>Q (.bl (decide (x=.non))) H | _=>False):=⟨Uv⟩
theorem dl:gU X (compareOp .IsNot) (fun x y H Q=>match y with | .non=>Q (.bl (!decide (x=.non))) H | _=>False):=⟨Qw⟩
theorem neNil (hu:X.A.units<cLine):gU X (compareOp .NotEq) (xG X.K true):=⟨Ff hu⟩
theorem bv {op:CmpOp} (ho:gU X (compareOp op) r) (ha:XE X a ta) (hb:XE X b tb) (hm:behindInMarks op b=false:=by first | exact rP _ | rfl):XE X (.Compare a [op] [b] pos) (Dq r ta tb):=⟨Ux ho.h ha.h hb.h hm⟩
theorem aj {op:CmpOp} (ho:gU X (compareOp op) r) (ha:XE X a ta) (hb:XE X b tb) (hm:behindInMarks op b=false:=by first | exact rP _ | rfl):XT X (.Compare a [op] [b] pos) (mT (Dq r ta tb)):=⟨Uw ho.h ha.h hb.h hm⟩
theorem ie {op op':CmpOp} (ho:gU X (compareOp op) r) (ho':gU X (compareOp op') r') (ha:XE X a ta) (hb:XE X b tb) (hc:XE X c tc) (hm:lastMarks [op,op'] [b,c]=false:=by with_unfolding_all rfl):XE X (.Compare a [op,op'] [b,c] pos) (lV r r' ta tb tc):=⟨Kt ho.h ho'.h ha.h hb.h hc.h hm⟩
theorem fw {op op':CmpOp} (ho:gU X (compareOp op) r) (ho':gU X (compareOp op') r') (ha:XE X a ta) (hb:XE X b tb) (hc:XE X c tc) (hm:lastMarks [op,op'] [b,c]=false:=by with_unfolding_all rfl):XT X (.Compare a [op,op'] [b,c] pos) (mT (lV r r' ta tb tc)):=⟨Ku ho.h ho'.h ha.h hb.h hc.h hm⟩
theorem bb (ha:XE X a ta):XE X (.UnaryOp .USub a pos) (Wv (fun x H Q=>mI x fun i=>Q (.int (-i)) H) ta):=⟨Va ha.h⟩
theorem bn {t:TE} (h:XE X e t) (he:∀whole,isTrue e X.env whole=(do let v ← whole;standAt e.pos;holding [v] (truthy v)):=by intro _;rfl):XT X e (mT t):=⟨Uy h.h he⟩
theorem bp (ha:XT X a tA):XT X (.UnaryOp .Not a pos) (To tA):=⟨Pa ha.h⟩
theorem cu (ha:XT X a tA):XW X (.BoolOp .And [a] pos) tA:=⟨Jf ha.h⟩
theorem ck (ha:XT X a tA):XW X (.BoolOp .Or [a] pos) tA:=⟨Oy ha.h⟩
theorem cr (ha:XT X a tA) (hb:XW X (.BoolOp .And (b::rest) pos) tB'):XW X (.BoolOp .And (a::b::rest) pos) (Je tA tB'):=⟨Oz ha.h hb.h⟩
theorem cj (ha:XT X a tA) (hb:XW X (.BoolOp .Or (b::rest) pos) tB'):XW X (.BoolOp .Or (a::b::rest) pos) (Ye tA tB'):=⟨Tp ha.h hb.h⟩
theorem tw (h:XW X e tA):XT X e tA:=⟨h.h.pt⟩
theorem gg {op} (h:XE X a ta):XE X (.BoolOp op [a] pos) ta:=⟨Pc h.h⟩
theorem ij (ha:XE X a ta) (hb:XE X (.BoolOp .And (b::rest) pos) tb):XE X (.BoolOp .And (a::b::rest) pos) (zD ta tb):=⟨Uz ha.h hb.h⟩
theorem or (ha:XE X a ta) (hb:XE X (.BoolOp .Or (b::rest) pos) tb):XE X (.BoolOp .Or (a::b::rest) pos) (Kv ta tb):=⟨Xp ha.h hb.h⟩
theorem ix (hr:Ro X r) (ha:XE X a ta) (hb:XE X b tb) (hs:rW b:=by exact fun _ _=>rfl):XE X (.Subscript a b pos) (Dq r ta tb):=⟨Xq hr.h ha.h hb.h hs⟩
theorem iL:Ro X (Kw X.K):=⟨Qz⟩
theorem iT:Ro X (Kx X.K):=⟨Vb⟩
theorem iS:Ro X Qy:=⟨Vc⟩
theorem pn:XO X none yT:=⟨Ka⟩
theorem ps (h:XE X e te):XO X (some e) (zE te):=⟨Ra h.h⟩
theorem sl {r:V->Option Int->Option Int->Hp->VK->Prop} {lo hi:Option Expr} {tl th:TO} (hr:Vm X r) (he:XE X e te) (hl:XO X lo tl) (hu:XO X hi th):XE X (.Subscript e (.Slice lo hi none p2) pos) (Yi r te tl th):=⟨Ea hr.h he.h hl.h hu.h⟩
theorem sS:Vm X Rb:=⟨Vd⟩
theorem sL:Vm X (Ky X.K):=⟨Rc⟩
theorem ab:XA X [] wQ:=⟨wR⟩
theorem aa (ha:XE X e te) (hr:XA X es t) (h:aM e=true:=by rfl):XA X (e::es) (uD te t):=⟨Fi ha.h hr.h h⟩
theorem gm {x1} (h:XA X es t):XE X (.Tuple es x1 pos) (Uc t):=⟨Qb h.h⟩
theorem bj (h:XA X es t):XE X (.List es pos) (Ud t):=⟨Qc h.h⟩
theorem ax {id:String} {r:List V->Hp->VK->Prop} (hc:XC X (.builtin id) r) (hg:Gl X x) (hm:X.mg x=none) (hv:bootBuiltins x=some (.builtin id)) (ha:XA X (e::es) t) (hn:x≠"__name__":=by decide) (hdb:(x == ("__debug__":Str))=false:=by decide)
  (h1:aM e=true:=by rfl) (h2:es.all aM=true:=by rfl):XE X (.Call (.Name x p) (e::es) [] pos) (Td r t):=⟨La hc.h hg hm hv ha.h hn hdb h1 h2⟩
theorem cm {T:String} {r:List V->Hp->VK->Prop} (hc:XC X (.type T) r) (hg:Gl X x) (hm:X.mg x=none) (hv:bootBuiltins x=some (.type T)) (ha:XA X (e::es) t) (hn:x≠"__name__":=by decide) (hdb:(x == ("__debug__":Str))=false:=by decide)
  (h1:aM e=true:=by rfl) (h2:es.all aM=true:=by rfl):XE X (.Call (.Name x p) (e::es) [] pos) (Td r t):=⟨Fj hc.h hg hm hv ha.h hn hdb h1 h2⟩
theorem de:XC X (.builtin "len") (fun vs H Q=>match vs with | [.str z]=>z.length<=sizeLine/\Q (.int z.length) H | _=>False):=⟨Re⟩
theorem lenL:XC X (.builtin "len") (fun vs H Q=>match vs with | [.ref p]=>∃ys,(SqL X.K H p ys∨SqT X.K H p ys)/\Q (.int ys.length) H | _=>False):=⟨Rf⟩
theorem all (hc:X.calm=true):XC X (.builtin "all") (Qr X.K):=⟨Fc hc⟩
theorem any (hc:X.calm=true):XC X (.builtin "any") (Qs X.K):=⟨Fd hc⟩
theorem sum (hc:X.calm=true):XC X (.builtin "sum") (Qt X.K):=⟨Fe hc⟩
theorem fn {n:Nat} {ps:List Str} {sp:Sp} (c:aI X.prog X.w X.K X.mg X.base n x ps sp) (hr:Room n X.A) (hg:Gl X x) (ha:XA X (e::es) t) (hdb:(x == ("__debug__":Str))=false:=by decide)
  (h1:aM e=true:=by rfl) (h2:es.all aM=true:=by rfl):XE X (.Call (.Name x p) (e::es) [] pos) (Xs sp t):=⟨Vi c hr hg ha.h hdb h1 h2⟩
theorem bm {T id:String} {name:Str} {r:V->List V->Hp->VK->Prop} (pa:PlainAttrs T) (slot:Slot T name id) (hty:typeOf (.builtin id)=pure (.type "method_descriptor")) (hm:XM X id r) (ho:XE X o to) (ha:XA X (e::es) t)
  (hbase:attributeBase o name X.env (eval o X.env)=eval o X.env:=by rfl) (hline:(apos.endLine == cpos.line)=true:=by rfl) (h1:aM e=true:=by rfl) (h2:es.all aM=true:=by rfl) (hn:es.length+1<30:=by decide) :
  XE X (.Call (.Attribute o name apos) (e::es) [] cpos) (Wk X.K T r to t):=⟨Xu pa slot hty hm.h ho.h ha.h hbase hline h1 h2 hn⟩
theorem bm0 {T id:String} {name:Str} {r:V->List V->Hp->VK->Prop} (pa:PlainAttrs T) (slot:Slot T name id) (hty:typeOf (.builtin id)=pure (.type "method_descriptor")) (hm:XM X id r) (ho:XE X o to)
  (hbase:attributeBase o name X.env (eval o X.env)=eval o X.env:=by rfl) (hline:(apos.endLine == cpos.line)=true:=by rfl):XE X (.Call (.Attribute o name apos) [] [] cpos) (Qj X.K T r to):=⟨Qk pa slot hty hm.h ho.h hbase hline⟩
theorem gy:XM X "list.append" yV:=⟨Bg⟩
theorem im:XM X "list.pop" Ef:=⟨Eg⟩
theorem iy:XM X "list.clear" Eh:=⟨Ei⟩
theorem join:XM X "str.join" (Fa X.K):=⟨Kr⟩
theorem cz {T:Str} (want:Kd) (he:XE X e te) (hg:Gl X "isinstance") (hm:X.mg "isinstance"=none) (hgT:Gl X T) (hmT:X.mg T=none) (hT:bootBuiltins T=some (.type (Kz want)))
  (hn:T≠"__name__":=by decide) (hd:(T == ("__debug__":Str))=false:=by decide) (h1:aM e=true:=by rfl):XE X (.Call (.Name "isinstance" p) [e,.Name T p2] [] pos) (Rh want te):=⟨Ri want he.h hg hm hgT hmT hT hn hd h1⟩
theorem cn:XE X (.Dict [] [] pos) (Em):=⟨Eo⟩
variable {tg:Expr}
theorem wL (hl:XE X e te):XI X tg e (Do X.K te):=⟨Jp hl.h⟩
theorem wT (hl:XE X e te):XI X tg e (Pn X.K te):=⟨Po hl.h⟩
theorem wS (hl:XE X e te):XI X tg e (Um te):=⟨Qp hl.h⟩
theorem dw (hg:Gl X "range") (hm:X.mg "range"=none) (ha:XA X [a] t) (h1:aM a=true:=by rfl):XI X tg (.Call (.Name "range" p) [a] [] pos) (Nc t):=⟨Aw hg hm ha.h (bI h1)⟩
theorem gn {i:Nat} (hN:X.N.Nodup) (hi:X.N[i]?=some x:=by rfl) (hx:Na X.env.scope x:=by first | exact Or.inl rfl | exact Or.inr rfl) (hf:X.fn x=true∨X.env.scope.names.lookup x=some .local:=by first | exact .inl rfl | exact .inr rfl | assumption):XG X (.Name x pos) (aJ i):=⟨Jm hN hi hx hf⟩
theorem cb:Vl X [] Pf:=⟨Jn⟩
theorem ay {tg1:TG} {tgs:yM} (h1:XG X e tg1) (h2:Vl X es tgs) (hs:(assignEach (e::es) X.env).map (·.2)=assign e X.env::(assignEach es X.env).map (·.2):=by rfl):Vl X (e::es) (Dl tg1 tgs):=⟨Dm h1.h h2.h hs⟩
theorem gt' {k:Nat} {tgs:yM} (hc:X.calm=true) (h:Vl X es tgs) (hn:(assignEach es X.env).length=n:=by rfl) (hst:(assignEach es X.env).findIdx? (·.1)=none:=by rfl):XG X (.Tuple es k pos) (Jo X.K n tgs):=⟨Pg hc h.h hn hst⟩
theorem il:Rm X Ni:=⟨Eb⟩
theorem ce {ts:Au} (ho:XE X o to) (hi:XE X i ti) (hs:Rm X ts) (ha:∀v,assign (.Subscript o i pos) X.env v=(do
   let ov ← holding [v] (eval o X.env)
   let iv ← holding [v,ov] (eval i X.env)
   standAt pos
   holding [v,ov,iv] (setItem ov iv v)
   release [v,ov,iv] []):=by intro _;rfl):XG X (.Subscript o i pos) (Ph to ti ts):=⟨Pi ho.h hi.h hs.h ha⟩
end
section
variable {X:Cx} {c e tg iter elt:Expr} {ifs:List Expr} {te:TE} {tc tt:TT} {g:TG} {wi:TI} {st:Stmt} {ss sa sb:List Stmt} {t u:TS} {pos pos' spos py:Pos} {x y:Str} {scope:Scope} {N:List Str} {js:List (Option Nat)}
theorem br:Wm X [] Nl:=⟨Kk⟩
theorem bt (h:XT X c tt) (hx:X.xe=fun _ _=>False:=by rfl):Wm X [c] tt:=⟨Kl h.h hx⟩
theorem bi (hc:X.calm=true) (S:CompScope X scope N js) (go:xB js g) (hi:XI X tg iter wi)
  (hb:∀(C:Addr) (s₂:Shared) (H₂:Hp) (fp:List Addr),XG (lN X scope C N s₂ H₂ fp) tg g/\Wm (lN X scope C N s₂ H₂ fp) ifs tt/\XE (lN X scope C N s₂ H₂ fp) elt te)
  (hs:∀x,foldedSetIterable iter X.env x=pure x:=by intro _;rfl):XE X (.ListComp elt [⟨tg,iter,ifs,0⟩] scope pos) (Nm wi js g tt te):=
 ⟨Km hc S go hi.h (fun C s₂ H₂ fp=>let ⟨a,b,c⟩:=hb C s₂ H₂ fp;⟨a.h,b.h,c.h⟩) hs⟩
theorem dm {i:Nat} (hN:X.N.Nodup) (hy:X.N[i]?=some y) (hx:Na X.env.scope y) (hc:X.calm=true) (S:CompScope X scope N js) (go:xB js g) (hi:XI X tg iter wi)
  (hb:∀(C:Addr) (s₂:Shared) (H₂:Hp) (fp:List Addr),XG (lN X scope C N s₂ H₂ fp) tg g/\Wm (lN X scope C N s₂ H₂ fp) ifs tt/\XE (lN X scope C N s₂ H₂ fp) elt te)
  (hsw:swapsWith (.ListComp elt [⟨tg,iter,ifs,0⟩] scope pos) (some (.Name y py)) spos.line X.env=pure true)
  (hs:∀x,foldedSetIterable iter X.env x=pure x:=by intro _;rfl) (hf:X.fn y=true∨X.env.scope.names.lookup y=some .local:=by first | exact .inl rfl | exact .inr rfl | assumption) :
  XS X (.Assign [.Name y py] (.ListComp elt [⟨tg,iter,ifs,0⟩] scope pos) spos) (Nn i wi js g tt te):=
 ⟨Kn hN hy hx hc S go hi.h (fun C s₂ H₂ fp=>let ⟨a,b,c⟩:=hb C s₂ H₂ fp;⟨a.h,b.h,c.h⟩) hsw hs hf⟩
theorem au:XB X [] iP:=⟨Jh⟩
theorem ae (h1:XS X st t):XB X [st] t:=⟨Ji h1.h⟩
theorem ad (h1:XS X st t) (h2:XB X ss u):XB X (st::ss) (Jg t u):=⟨Dh h1.h h2.h⟩
theorem af (he:XE X e te):XS X (.Return (some e) pos) (Tr te):=⟨Pe he.h⟩
theorem bo (he:XE X e te) (hs:swapsWith e none pos.line X.env=pure false:=by rfl):XS X (.Expr e pos) (Nb te):=⟨Jj he.h hs⟩
theorem ar (hc:XT X c tc) (ha:XB X sa t) (hb:XB X sb u):XS X (.If c sa sb pos) (Jk tc t u):=⟨Ts hc.h ha.h hb.h⟩
theorem av {i:Nat} (hN:X.N.Nodup) (he:XE X e te) (hi:X.N[i]?=some x:=by rfl) (hx:Na X.env.scope x:=by first | exact Or.inl rfl | exact Or.inr rfl) (hs:swapsWith e (some (.Name x pos')) pos.line X.env=pure false:=by rfl)
  (hf:X.fn x=true∨X.env.scope.names.lookup x=some .local:=by first | exact .inl rfl | exact .inr rfl | assumption):XS X (.Assign [.Name x pos'] e pos) (Dn te (aJ i)):=⟨Pk hN hi hx he.h hs hf⟩
theorem bz (he:XE X e te) (hg:XG X tg g) (hs:swapsWithSole [tg] e pos.line X.env=pure false:=by rfl) (hw:swappedStores [tg] e X.env=pure none:=by rfl) (h1:(assignEach [tg] X.env).map (·.2)=[assign tg X.env]:=by rfl) :
  XS X (.Assign [tg] e pos) (Dn te g):=⟨Pj he.h hg.h hs hw h1⟩
theorem bq (hp:PassesOwn (model X.prog X.w) X.A X.env X.xe) (hc:X.calm=true) (hi:XI X tg iter wi) (hg:XG X tg g) (hb:XB X ss t) (hs:∀x,foldedSetIterable iter X.env x=pure x:=by intro _;rfl):XS X (.For tg iter ss [] pos) (Tu wi g t):=⟨Pp hp hc hi.h hg.h hb.h hs⟩
end
end R
theorem DefAt.go {P:Program} {w:World} {K:W.Frag} {mg:Str->Option Value} {base:Heap} {x:Str} {st:Stmt} {N ps:List Str} {k:Nat} {sp:Sp} (D:DefAt K mg x st ps) (S:aG N ps (aB st)) (len:∀vs H Q E,sp vs H Q E->vs.length=ps.length)
  (hbody:∀(f:Addr) (cdv:Value) (A:Around) (outer:List Env) (s:Shared) (H:Hp) (vs:List V) (Q:VK) (E:XK),Room k (A.deeper (envOfC x (aB st) s.heap.objs.size f cdv))->sp vs H Q E →
   ∃t,XB (lT qM P w K mg base N x (aB st) f cdv A outer s H E).nox (aR st) t/\t {nx:=fun _ H'=>Q .non H',rt:=Q } (start N vs) H):aI P w K mg base (k+1) x ps sp:=
 D.ok S len fun f cdv A outer s H vs Q E hr h=>let ⟨t,h1,h2⟩:=hbody f cdv A outer s H vs Q E hr h;⟨t,h1.h,h2⟩
theorem Fun.go {P:Program} {w:World} {K:W.Frag} {mg:Str->Option Value} {base:Heap} {x qual:Str} {st:Stmt} {f:Addr} {fd:FuncData} {N ps:List Str} {k:Nat} {sp:Sp} (F:Fun K x qual st f fd) (S:aG N ps (aB st)) (len:∀vs H Q E,sp vs H Q E->vs.length=ps.length)
  (hbody:∀(cdv:Value) (A:Around) (outer:List Env) (s:Shared) (H:Hp) (vs:List V) (Q:VK) (E:XK),Room k (A.deeper (envOfC qual (aB st) s.heap.objs.size f cdv))->sp vs H Q E →
   ∃t,XB (lT qM P w K mg base N qual (aB st) f cdv A outer s H E).nox (aR st) t/\t {nx:=fun _ H'=>Q .non H',rt:=Q } (start N vs) H):iM P w K mg base qM (k+1) f fd ps sp:=
 F.ok S len fun cdv A outer s H vs Q E hr h=>let ⟨t,h1,h2⟩:=hbody cdv A outer s H vs Q E hr h;⟨t,h1.h,h2⟩
theorem Rp {K:W.Frag} {h:Heap} {mg:Str->Option Value} {x:Str} {st:Stmt} {ps:List Str} {f:Addr} {od an:Option Addr} {sl:Array (Option Value)} {oc kV dc pm cd ct:Value} (X:K.In h) (G:h.Ns mainGlobals mg)
  (a:W.nsIn K mainGlobals x=some (some (.ref f))) (l:K.lookup f=some ⟨oc,od,.func (W.fnOf x x (bA st) (aR st) (aB st) .none kV dc pm an cd ct),sl⟩) (c:W.codeIn K cd x=true) (k:W.keepIn K (.ref f)=true)
  (hb:∀(kV doc pm:Value) (an:Option Addr) (cdv ct:Value) (us:List Value),us.length=ps.length->bindArgs (W.fnOf x x (bA st) (aR st) (aB st) .none kV doc pm an cdv ct) ⟨us,[]⟩=pure (ps.zip us)):DefAt K mg x st ps:=
 ⟨f,_,oP l c k,W.mg_of X G a,(oP (st:=st) l c k).binds hb⟩
namespace R
section
variable {X:Cx} {K:W.Frag} {a b c e o i tg:Expr} {es rest:List Expr} {te to:TE} {t:TA} {pos p p2 apos cpos:Pos} {x:Str} {n:Nat}
theorem be (hK:X.K=K:=by rfl):Ro X (Kw K):=hK ▸ iL
theorem ag (hK:X.K=K:=by rfl):Ro X (Kx K):=hK ▸ iT
theorem di (hK:X.K=K:=by rfl):Vm X (Ky K):=hK ▸ sL
theorem dj (hK:X.K=K:=by rfl):gU X (compareOp .In) (Te K false):=hK ▸ inQ
theorem eo (hK:X.K=K:=by rfl):gU X (compareOp .NotIn) (Te K true):=hK ▸ notInQ
theorem er (hu:X.A.units<cLine) (hK:X.K=K:=by rfl):gU X (compareOp .NotEq) (xG K true):=hK ▸ neNil hu
theorem bw (hK:X.K=K:=by rfl):XC X (.builtin "len") (fun vs H Q=>match vs with | [.ref p]=>∃ys,(SqL K H p ys∨SqT K H p ys)/\Q (.int ys.length) H | _=>False):=hK ▸ lenL
theorem gf (hc:X.calm=true) (hK:X.K=K:=by rfl):XC X (.builtin "all") (Qr K):=hK ▸ all hc
theorem ir (hc:X.calm=true) (hK:X.K=K:=by rfl):XC X (.builtin "any") (Qs K):=hK ▸ any hc
theorem ik (hc:X.calm=true) (hK:X.K=K:=by rfl):XC X (.builtin "sum") (Qt K):=hK ▸ sum hc
theorem io (hK:X.K=K:=by rfl):XM X "str.join" (Fa K):=hK ▸ join
theorem cv {T id:String} {name:Str} {r:V->List V->Hp->VK->Prop} (pa:PlainAttrs T) (slot:Slot T name id) (hty:typeOf (.builtin id)=pure (.type "method_descriptor")) (hm:XM X id r) (ho:XE X o to) (ha:XA X (e::es) t) (hK:X.K=K:=by rfl)
  (hbase:attributeBase o name X.env (eval o X.env)=eval o X.env:=by rfl) (hline:(apos.endLine == cpos.line)=true:=by rfl) (h1:aM e=true:=by rfl) (h2:es.all aM=true:=by rfl) (hn:es.length+1<30:=by decide) :
  XE X (.Call (.Attribute o name apos) (e::es) [] cpos) (Wk K T r to t):=hK ▸ bm pa slot hty hm ho ha hbase hline h1 h2 hn
theorem iw {T id:String} {name:Str} {r:V->List V->Hp->VK->Prop} (pa:PlainAttrs T) (slot:Slot T name id) (hty:typeOf (.builtin id)=pure (.type "method_descriptor")) (hm:XM X id r) (ho:XE X o to) (hK:X.K=K:=by rfl)
  (hbase:attributeBase o name X.env (eval o X.env)=eval o X.env:=by rfl) (hline:(apos.endLine == cpos.line)=true:=by rfl):XE X (.Call (.Attribute o name apos) [] [] cpos) (Qj K T r to):=hK ▸ bm0 pa slot hty hm ho hbase hline
theorem bf (hl:XE X e te) (hK:X.K=K:=by rfl):XI X tg e (Do K te):=hK ▸ wL hl
theorem cq (hl:XE X e te) (hK:X.K=K:=by rfl):XI X tg e (Pn K te):=hK ▸ wT hl
theorem ca {k:Nat} {tgs:yM} (hc:X.calm=true) (h:Vl X es tgs) (hK:X.K=K:=by rfl) (hn:(assignEach es X.env).length=n:=by rfl) (hst:(assignEach es X.env).findIdx? (·.1)=none:=by rfl):XG X (.Tuple es k pos) (Jo K n tgs):=hK ▸ gt' hc h hn hst
end
end R
end L2
namespace L2
open PySem PySem.Spec PyProof.Rows
section
variable {X:Cx}
def xJ:List V->Hp->VK->Prop:=fun vs H Q=>match vs with
 | [.int i]=>(0<=i/\i<10 ^ 40)/\Q (.str (Str.ofString (toString i))) H
 | [.str z]=>Q (.str z) H
 | _=>False
theorem Vn:CallR X (.type "str") xJ:=by
 intro pins s σ H xs us Q I r h;unfold xJ at h;split at h
 ·rename_i i
  refine rR pins s σ H [.int i] us Q I r ⟨i,rfl,?_,h.2⟩
  have h1:i.natAbs<2 ^ 1920:=by
   have e:(10:Nat) ^ 40<=2 ^ 1920:=by decide +kernel
   have e2:i.natAbs<10 ^ 40:=by
    have:=h.1
    omega
   omega
  rcases Nat.eq_zero_or_pos i.natAbs with z | z
  ·rw[z];decide
  ·exact(Nat.log2_lt Zo).mpr h1
 ·rename_i z
  obtain⟨u,rfl,t,rfl⟩:=fG r
  exact PySem.P.str_of_str ⟨.str z,H,I,⟨t,rfl⟩,h⟩
 ·exact h.elim
def Yj:List V->Hp->VK->Prop:=fun vs H Q=>match vs with
 | [.str z]=>NumText.AllDigits z.cps.toList/\z.cps.toList≠[]/\z.length<=640/\Q (.int (NumText.digitsVal z.cps.toList:Nat)) H
 | _=>False
end
namespace R
variable {X:Cx}
theorem ib:XC X (.type "str") xJ:=⟨Vn⟩
end R
def LET:List Nat:=[97,98,99,100,101,102,103,104,105,106,107,108,109,110,111,112,113,114,115,116,117,118,119,120,121,122]
def Np:List Nat:=[48,49,50,51,52,53,54,55,56,57]
theorem xK:(("abcdefghijklmnopqrstuvwxyz":Str)).cps.toList=LET:=by decide +kernel
theorem Rq:(("0123456789":Str)).cps.toList=Np:=by decide +kernel
def dW (x:V) (cs:List Nat) (n:Int):Bool:=match x with | .str z=>decide (1<=(z.length:Int))&&decide ((z.length:Int)<=n)&&z.cps.toList.all (fun c=>decide (c∈cs)) | _=>false
theorem fY (z:Str) (cs:List Nat) (n:Int):dW (.str z) cs n=(decide (1<=(z.length:Int))&&decide ((z.length:Int)<=n)&&z.cps.toList.all (fun c=>decide (c∈cs))):=rfl
def xL:Sp:=fun vs H Q _=>∃x sg n k,vs=[x,.str sg,.int n]/\Kof H x k/\(∀z,x=.str z->z.length<=1000)/\∀H',Same H H'->Q (.bl (dW x sg.cps.toList n)) H'
def lW (cs:List Nat) (n:Int):Sp:=fun vs H Q _=>∃x k,vs=[x]/\Kof H x k/\(∀z,x=.str z->z.length<=1000)/\∀H',Same H H'->Q (.bl (dW x cs n)) H'
theorem Lf (c:Nat):c∈Np↔48<=c/\c<=57:=by
 unfold Np;simp only [List.mem_cons,List.not_mem_nil,or_false]
 omega
theorem zI:∀(k m:Nat),m<10 ^ (k+1)->(Nat.toDigits 10 m).length<=k+1
 | 0,m,h=>by rw[Nat.toDigits_of_lt_base (by simpa using h)];exact cA _
 | k+1,m,h=>by
  by_cases hm:m<10
  ·rw[Nat.toDigits_of_lt_base hm];simp
  ·have h10:m % 10<10:=Nat.mod_lt m Zd
   have t:Nat.toDigits 10 (m / 10)++Nat.toDigits 10 (m % 10)=Nat.toDigits 10 (10*(m / 10)+m % 10):=Nat.toDigits_append_toDigits Zd Zo h10
   rw[Nat.div_add_mod]at t;rw[<- t,wC,Nat.toDigits_of_lt_base h10];have:=zI k (m / 10) (by rw[Nat.pow_succ]at h;omega)
   simp
   omega
def dI (m:Nat):Str:=Str.ofString (toString ((m:Nat):Int))
theorem oZ (m:Nat):(dI m).cps.toList=(Nat.toDigits 10 m).map Char.toNat:=W.KIN.signs_num m
theorem uP (m:Nat):NumText.AllDigits (dI m).cps.toList:=by
 intro c hc;rw[oZ]at hc;obtain⟨ch,hch,e⟩:=Zmm.mp hc
 have r:=PyProof.Rows.digit_range (Nat.isDigit_of_mem_toDigits Zd Zd hch)
 rw[<- e];exact r
theorem uQ (m:Nat):NumText.digitsVal (dI m).cps.toList=m:=by rw[oZ,W.KIN.val_back]
theorem uR (m:Nat):(dI m).length=(Nat.toDigits 10 m).length:=by
 have:(dI m).cps.toList.length=(dI m).length:=by simp [Str.length]
 rw[<- this,oZ,bN]
theorem Ft (m:Nat):1<=(dI m).length:=by rw[uR];exact PySem.toDigits_len_ge 10 m
theorem Lg {m k:Nat} (h:m<10 ^ (k+1)):(dI m).length<=k+1:=by rw[uR];exact zI k m h
end L2
namespace L2
open PySem PySem.Spec PyProof.Rows
def isNm (z:Str):Prop:=1<=z.length/\z.length<=8/\∀c∈z.cps.toList,c∈LET
end L2
namespace L2
open PySem PySem.Spec PyProof.Rows
section
variable {prog:Program} {w:World} {A:Around} {E:Value->Shared->Prop} {s:Shared}
theorem Bq {t:Addr} {items:Array Value} {Q:Bool->Shared->Prop} (ht:IsTup s.heap t items) (h:Q true s):wpAny (model prog w) A (Builtin.Tuple.tupleIsExact (.ref t)) Q E s:=by
 unfold Builtin.Tuple.tupleIsExact;refine wpAny_bind (wpAny_typeOf ht.typeIs ?_)
 exact wpAny_pure h
theorem jN {t sl:Addr} {items:Array Value} {vl vu:Value} {lo hi:Option Int} {Q:Value->Shared->Prop} (ht:IsTup s.heap t items) (hs:s.heap.IsSliceOf sl vl vu .none) (pl:IsPart vl lo) (pu:IsPart vu hi)
  (hw:HT.sIx items.size 0 lo=0/\HT.sIx items.size items.size hi=items.size) (h:Q (.ref t) s):wpAny (model prog w) A (getItem (.ref t) (.ref sl)) Q E s:=by
 obtain⟨os,hos,hcs,hds⟩:=id hs
 have hTs:s.TypeIs (.ref sl) "slice":=⟨os,hos,hcs⟩
 unfold getItem;try with_reducible refine wpAny_holding ?_
 first | refine wpAny_bind (wpAny_pure ?_) | skip
 refine wpAny_bind (wpAny_sequenceKey ht.typeIs Zd ?_)
 refine wpAny_bind (wpAny_callSpecial?_slot (name:=Str.ofString "__getitem__") ht.typeIs PyProof.Rows.slot_tuple_getitem
  (wpAny_call_entry PyProof.Rows.slot_tuple_getitem ht.typeIs entry_tuple_getitem ?_ (args_tuple_getitem _ _)))
 show wpAny _ _ (Builtin.Tuple.tupleItemsOf (.ref t) >>= _) _ _ s
 refine wpAny_bind (tupleItemsOf_ ht ?_)
 refine wpAny_bind (wpAny_typeOf hTs ?_)
 rw[if_pos Zd]
 refine wpAny_bind (HT.sliceApplied_gen hs pl pu ?_)
 have hyes:(((HT.sIx items.size 0 lo:Nat):Int) == 0&&(1:Int) == 1&&(HT.sIx items.size items.size hi - HT.sIx items.size 0 lo) == items.size)=true:=by
  rw[hw.1,hw.2];simp
 show wpAny _ _ (if (((HT.sIx items.size 0 lo:Nat):Int) == 0&&(1:Int) == 1&&(HT.sIx items.size items.size hi - HT.sIx items.size 0 lo) == items.size)=true then _ else _) _ _ s
 rw[if_pos hyes];refine wpAny_bind (Bq ht ?_)
 rw[if_pos rfl];exact wpAny_bind (wpAny_rule (wpAny_pure ⟨_,rfl,wpAny_pure h⟩))
theorem Fu {t b:Addr} {ws:List Value} {Q:Value->Shared->Prop} (ht:IsTup s.heap t ([]:List Value).toArray) (hb:IsTup s.heap b ws.toArray) (h1:Q (.ref b) s):wpAny (model prog w) A (binaryOp .Add (.ref t) (.ref b)) Q E s:=by
 obtain⟨⟨cls,dd,data,sl⟩,ho,hc,n,hd⟩:=id ht
 obtain⟨⟨cls2,dd2,data2,sl2⟩,ho2,hc2,n2,hd2⟩:=id hb
 simp only at hc hd hc2 hd2
 subst hc hd hc2 hd2;exact concat_meets ⟨_,ho,rfl⟩ ⟨_,ho2,rfl⟩ noFill_tuple_add seq_tuple_add PySem.F.slot_tuple_add PySem.F.entry_tuple_add (PySem.F.args_tuple_add_2 _ _)
   (tuple_addW0 t b _ ws.toArray n n2 dd dd2 sl sl2 Zs) ⟨ho,ho2,h1⟩
end
section
variable {X:Cx} {e o e1 e2:Expr} {te:TE} {pos p2 p3:Pos}
def Rr:V->Option Int->Option Int->Hp->VK->Prop:=fun x lo hi H Q=>mR x fun a=>∃xs,H a=some (.tup xs)/\∀p H',Same H H'->H' p=some (.tup (gT xs lo hi))->Q (.ref p) H'
theorem Vo:SlR X Rr:=by
 intro pins s σ H x v vl vu lo hi sl Q I rx hs pl pu h;unfold Rr at h;rw[cC]at h;obtain⟨a,rfl,xs,hx,q⟩:=h
 by_cases hw:HT.sIx xs.length 0 lo=0/\HT.sIx xs.length xs.length hi=xs.length
 ·cases rx
  obtain⟨its,r,ht,hz⟩:=I.tuple (SqT.of hx)
  have hlen:its.toArray.size=xs.length:=by rw[dF];exact r.length.symm
  refine⟨"tuple",_,PyProof.Rows.slot_tuple_getitem.lookup,ht.typeIs,?_⟩
  refine jN ht hs pl pu (by rw[hlen];exact hw) ⟨.ref a,H,I,rfl,q a H (Same.refl H) ?_⟩
  rw[hx];unfold gT;rw[hw.1,hw.2,List.drop_zero,Nat.sub_zero,Jb (cA _)]
 ·exact Qe pins s σ H (.ref a) v vl vu lo hi sl Q I rx hs pl pu ⟨a,xs,rfl,SqT.of hx,hw,fun p hp=>q p _ (aF hp) aA⟩
def Fv:R2:=fun x y H Q=>mR x fun a=>mR y fun b=>∃xs ys,H a=some (.tup xs)/\H b=some (.tup ys)/\xs.length+ys.length<=1000/\∀p H',Same H H'->H' p=some (.tup (xs++ys))->Q (.ref p) H'
theorem Rs:OpR X (binaryOp .Add) Fv:=by
 intro pins s σ H x y v u Q I rx ry h;unfold Fv at h;rw[cC]at h;obtain⟨a,rfl,h⟩:=h
 rw[cC]at h;obtain⟨b,rfl,xs,ys,ha,hb,hz,q⟩:=h
 by_cases h0:xs=[]
 ·subst h0;cases rx
  cases ry
  obtain⟨its,r1,p1,_⟩:=I.tuple (SqT.of ha)
  obtain⟨its2,r2,p2,_⟩:=I.tuple (SqT.of hb)
  cases r1
  exact Fu p1 p2 ⟨.ref b,H,I,rfl,q b H (Same.refl H) (by rw[hb];rfl)⟩
 ·exact Kc pins s σ H _ _ v u Q I rx ry ⟨a,b,xs,ys,rfl,rfl,SqT.of ha,SqT.of hb,h0,fU hz Zd,(fun h1=>q a H (Same.refl H) (by rw[ha,h1,List.append_nil])),fun _ p hp=>q p _ (aF hp) aA⟩
end
def Tab (P:Params):List DictEntry->List (Str × Int)->Prop
 | [],[]=>True
 | e::r,(x,i)::q=>(∃t,e.key=.str x t)/\e.hash=PyData.keyHash P x/\(∃t,e.val=.int i t)/\Tab P r q
 | _,_=>False
theorem Tab.keys {P:Params}:∀ {es:List DictEntry} {ws:List (Str × Int)},Tab P es ws->W.KeysLit P es
 | [],[],_=>trivial
 | e::r,(x,i)::q,h=>⟨let ⟨t,ht⟩:=h.1;⟨x,t,ht,h.2.1⟩,Tab.keys h.2.2.2⟩
 | [],_::_,h=>h.elim
 | _::_,[],h=>h.elim
theorem Tab.find {P:Params} (z:Str):∀ {es:List DictEntry} {ws:List (Str × Int)},Tab P es ws->(match ws.lookup z with | some i=>∃t,(es.find? fun e=>Value.isStrOf z e.key).map (·.val)=some (.int i t) | none=>(es.find? fun e=>Value.isStrOf z e.key).map (·.val)=none)
 | [],[],_=>rfl
 | [],_::_,h=>h.elim
 | _::_,[],h=>h.elim
 | e::r,(x,i)::q,h=>by
  obtain⟨⟨t,ht⟩,h2,⟨t',hv⟩,h4⟩:=h
  have ih:=Tab.find z h4
  rw[List.lookup_cons,List.find?_cons];have e1:Value.isStrOf z e.key=(z == x):=by
   rw[ht];show(x == z)=(z == x)
   exact Bool.beq_comm
  rw[e1];cases hz:z == x with
  | true=>exact⟨t',by rw[<- hv];rfl⟩
  | false=>exact ih
structure KTab (K:W.Frag) (P:Params) (a:Addr) (ws:List (Str × Int)):Prop where
 ex:∃es n,K.lookup a=some ⟨.type "dict",none,.dict (List.toArray es) n,#[]⟩/\Tab P es ws/\(a == sysModules)=false
theorem KTab.map {K:W.Frag} {prog:Program} {w:World} {a:Addr} {ws:List (Str × Int)} {h:Heap} (T:KTab K w.params a ws) (X:K.In h) :
  ∃f:Str->Option Value,h.MapOf (strKind prog w) a f/\(a == sysModules)=false/\∀z,(match ws.lookup z with | some i=>∃t,f z=some (.int i t) | none=>f z=none):=by
 obtain⟨es,n,hl,ht,lo⟩:=T.ex
 refine⟨_,W.mapOf_K (prog:=prog) X hl ht.keys,lo,fun z=>?_⟩
 have:=ht.find z
 unfold findBy;rw[List.find?_toArray];exact this
section
variable {X:Cx}
def Rt (K:W.Frag) (P:Params) (neg:Bool):R2:=fun x y H Q=>mS x fun z=>mR y fun a=>∃ws,KTab K P a ws/\Q (.bl (if neg then !(ws.lookup z).isSome else (ws.lookup z).isSome)) H
theorem Br {f:Option Value} {o:Option Int} (h:match o with | some i=>∃t,f=some (.int i t) | none=>f=none):f.isSome=o.isSome:=by
 cases o with
 | none=>rw[h];rfl
 | some i=>obtain⟨t,h⟩:=h;rw[h];rfl
theorem Fw:OpR X (compareOp .NotIn) (Rt X.K X.w.params true):=by
 intro pins s σ H x y v u Q I rx ry h;unfold Rt at h;rw[kT]at h;obtain⟨z,rfl,h⟩:=h
 rw[cC]at h;obtain⟨a,rfl,ws,T,h⟩:=h
 obtain⟨t,rfl⟩:=rx
 cases ry
 obtain⟨f,hm,lo,hf⟩:=T.map (prog:=X.prog) I.kIn
 exact wpAny_notIn_of (strKind_is X.prog X.w z t) lo hm ⟨.bl (!(ws.lookup z).isSome),H,I.tok _,by rw[Br (hf z)];rfl,h⟩
def Ru (K:W.Frag) (P:Params):R2:=fun x y H Q=>mR x fun a=>mS y fun z=>∃ws i,KTab K P a ws/\ws.lookup z=some i/\Q (.int i) H
theorem Ym:IxR X (Ru X.K X.w.params):=by
 intro value slice pins s σ H x y v u Q I rx ry h hs;unfold Ru at h;rw[cC]at h;obtain⟨a,rfl,h⟩:=h
 rw[kT]at h;obtain⟨z,rfl,ws,i,T,hi,h⟩:=h
 obtain⟨t,rfl⟩:=ry
 cases rx
 obtain⟨f,hm,lo,hf⟩:=T.map (prog:=X.prog) I.kIn
 have hz:=hf z
 rw[hi]at hz;obtain⟨t',hz⟩:=hz
 exact tail_any hm.typeIs slot_dict_getitem.lookup (wpAny_getItem_of (strKind_is X.prog X.w z t) hm hz ⟨.int i,H,I.tok _,⟨t',rfl⟩,h⟩) hs
end
namespace R
section
variable {X:Cx} {K:W.Frag} {P:Params} {e e1 k v o f:Expr} {te t1 tk tv td ty tx':TE} {pos p2 apos cpos:Pos} {ks:List (Option Expr)} {vs:List Expr} {trs:List (TE × TE)}
theorem sT:Vm X Rr:=⟨Vo⟩
theorem dh:gU X (binaryOp .Add) Fv:=⟨Rs⟩
theorem ig (hK:X.K=K:=by rfl) (hP:X.w.params=P:=by rfl):gU X (compareOp .NotIn) (Rt K P true):=hK ▸ hP ▸ ⟨Fw⟩
theorem ii (hK:X.K=K:=by rfl) (hP:X.w.params=P:=by rfl):Ro X (Ru K P):=hK ▸ hP ▸ ⟨Ym⟩
theorem gi (hK:X.K=K:=by rfl):XC X (.type "list") (fun vs H Q=>match vs with | [.ref p]=>∃ys,(SqL K H p ys∨SqT K H p ys)/\∀l,H l=none->Q (.ref l) (aH H l (.lst ys)) | _=>False):=hK ▸ ⟨sO.imp fun vs H Q h=>by
 split at h
 ·rename_i p
  obtain⟨ys,hq,h⟩:=h
  exact⟨p,ys,rfl,hq,h⟩
 ·exact h.elim⟩
theorem gq (hK:X.K=K:=by rfl):XC X (.type "tuple") (fun vs H Q=>match vs with | [.ref p]=>∃ys,SqL K H p ys/\∀l,H l=none->Q (.ref l) (aH H l (.tup ys)) | _=>False):=hK ▸ ⟨pT.imp fun vs H Q h=>by
 split at h
 ·rename_i p
  obtain⟨ys,hq,h⟩:=h
  exact⟨p,ys,rfl,.inl ⟨hq,h⟩⟩
 ·exact h.elim⟩
theorem ip (hu:X.A.units+1<cLine) (ho:XE X o td) (he:XE X e ty) (hf:XE X f tx') (h1:attributeBase o "get" X.env (eval o X.env)=eval o X.env:=by rfl) (h3:(apos.endLine == cpos.line)=true:=by rfl)
  (h2:((backTo cpos (starEach [e,f] X.env)).all (fun x=>!x.1)&&(backToKw cpos (keywordEach [] X.env)).all (fun x=>x.1.isSome)
  && decide (([e,f]:List Expr).length+([]:List Keyword).length+(if ([]:List Keyword).isEmpty then 0 else 1)<30))=true:=by rfl)
  (h4:backTo cpos (starEach [e,f] X.env)=[(false,eval e X.env),(false,eval f X.env)]:=by rfl):XE X (.Call (.Attribute o "get" apos) [e,f] [] cpos) (Er td ty tx'):=⟨Et hu ho.h he.h hf.h ⟨h1,h2,h3,h4⟩⟩
end
end R
end L2
namespace L2
open PySem PySem.Spec PyProof.Rows
def WS:List (Str × Int):=[("add",1),("take",1),("move",2),("send",2),("fetch",2),("pass",3)]
def UW:List V:=[.str "move",.str "pass"]
def qT (x:V):Bool:=dW x LET 8
def uS (lo hi:Int) (x:V):Bool:=match x with | .int n=>decide (lo<=n)&&decide (n<=hi) | _=>false
def eR (x:V) (ns:List V):Bool:=match x with
 | .str z=>(match WS.lookup z with
  | some i=>decide ((ns.length:Int)=i)&&ns.all qT&&(!rY (.str z) UW||!decide (lM ns 0=lM ns 1))
  | none=>false)
 | _=>false
def sY (xs:List V):List V:=gT xs (some 1) (some (-1))
def jR (xs:List V):Bool:=decide (3<=xs.length)&&eR ((lM xs 0).getD .non) (sY xs)&&uS 1 1000000000000 ((lM xs (-1)).getD .non)
def Pt (H:Hp) (x:V):Prop:=∃k,Kof H x k/\∀z,x=.str z->z.length<=1000
theorem Pt.same {H H':Hp} {x:V} (s:Same H H') (h:Pt H x):Pt H' x:=let ⟨k,h1,h2⟩:=h;⟨k,h1.same s,h2⟩
def pA (H:Hp) (x:V):Bool:=match x with | .ref a=>(match H a with | some (.tup xs)=>jR xs | _=>false) | _=>false
def Th (H:Hp) (x:V):Prop:=Pt H x/\∀a xs,x=.ref a->H a=some (.tup xs)->∀y∈xs,Pt H y
def zJ:Sp:=fun vs H Q _=>∃x lo hi,vs=[x,.int lo,.int hi]/\Pt H x/\∀H',Same H H'->Q (.bl (uS lo hi x)) H'
def Fx:Sp:=fun vs H Q _=>∃x a ns,vs=[x,.ref a]/\Pt H x/\H a=some (.tup ns)/\ns.length<=1000/\(∀y∈ns,Pt H y)/\∀H',Same H H'->Q (.bl (eR x ns)) H'
def uT:Sp:=fun vs H Q _=>∃x,vs=[x]/\Th H x/\(∀a xs,x=.ref a->H a=some (.tup xs)->xs.length<=1000)/\∀H',Same H H'->Q (.bl (pA H x)) H'
theorem Vp {z:Str} {i:Int} (h:WS.lookup z=some i) (u:rY (.str z) UW=true):2<=i:=by
 have e:z="move"∨z="pass":=by
  unfold rY UW at u;simp only [List.any_cons,List.any_nil,Bool.or_false,Bool.or_eq_true,uH,beq_iff_eq,decide_eq_true_iff]at u
  rcases u with u | u
  ·exact .inl u.symm
  ·exact .inr u.symm
 rcases e with rfl | rfl
 ·have:WS.lookup ("move":Str)=some 2:=by decide +kernel
  rw[this]at h;injection h with h;omega
 ·have:WS.lookup ("pass":Str)=some 3:=by decide +kernel
  rw[this]at h;injection h with h;omega
theorem zK {xs:List V} (h:3<=xs.length):sY xs=(xs.drop 1).take (xs.length - 2):=by
 unfold sY gT HT.sIx;simp only [Int.reduceNeg,Int.reduceLT,if_true,if_false]
 have e1:min (Int.toNat 1) xs.length=1:=by
  show min 1 xs.length=1
  omega
 have e2:((-1:Int)+(xs.length:Int)).toNat=xs.length - 1:=by omega
 rw[e2];show((xs.drop (min (Int.toNat 1) xs.length)).take (xs.length - 1 - min (Int.toNat 1) xs.length))=_
 rw[e1];congr 1
theorem Lh {xs:List V} (h:3<=xs.length):(sY xs).length=xs.length - 2:=by
 rw[zK h,oC,List.length_drop];omega
theorem Li {xs:List V} {y:V} (h:3<=xs.length) (m:y∈sY xs):y∈xs:=by
 rw[zK h]at m;exact List.mem_of_mem_drop (List.mem_of_mem_take m)
end L2
namespace L2
open PySem PySem.Spec PyProof.Rows
def Vq:R2:=fun x y H Q=>mR x fun l=>mR y fun b=>∃xs zs,H l=some (.lst xs)/\H b=some (.lst zs)/\xs.length+zs.length<=sizeLine/\∀p,H p=none->Q (.ref p) (aH H p (.lst (xs++zs)))
theorem R.ci {X:Cx}:gU X (binaryOp .Add) Vq:=⟨Ql.imp fun x y H Q h=>by
 unfold Vq at h;rw[cC]at h;obtain⟨a,rfl,h⟩:=h
 rw[cC]at h;obtain⟨b,rfl,xs,zs,h⟩:=h
 exact⟨a,b,xs,zs,rfl,rfl,h⟩⟩
end L2
namespace L2
open PySem PySem.Spec PyProof.Rows
inductive DeedIs:List V->Prop
 | one (z a:Str) (n:Int):(z="add"∨z="take")->isNm a->1<=n->n<=1000000000000->DeedIs [.str z,.str a,.int n]
 | two (z a b:Str) (n:Int):(z="move"∨z="send"∨z="fetch")->isNm a->isNm b->a≠b->1<=n->n<=1000000000000->DeedIs [.str z,.str a,.str b,.int n]
 | three (a b c:Str) (n:Int):isNm a->isNm b->isNm c->a≠b->1<=n->n<=1000000000000->DeedIs [.str "pass",.str a,.str b,.str c,.int n]
theorem fZ {z:Str} (h:isNm z):qT (.str z)=true:=by
 unfold qT;rw[fY,decide_eq_true (by have:=h.1;omega),decide_eq_true (by have:=h.2.1;omega),List.all_eq_true.mpr fun c hc=>decide_eq_true (h.2.2 c hc)]
 rfl
theorem DeedIs.ok {xs:List V} (h:DeedIs xs):jR xs=true:=by
 cases h with
 | one z a n hz ha h1 h2=>
  show(eR (.str z) [.str a]&&uS 1 1000000000000 (.int n))=true
  have e:eR (.str z) [.str a]=true:=by
   rcases hz with rfl | rfl
   ·show(true&&(qT (.str a)&&true)&&_)=true
    rw[fZ ha];rfl
   ·show(true&&(qT (.str a)&&true)&&_)=true
    rw[fZ ha];rfl
  rw[e];show(decide (1<=n)&&decide (n<=1000000000000))=true
  rw[decide_eq_true h1,decide_eq_true h2];rfl
 | two z a b n hz ha hb hn h1 h2=>
  show(eR (.str z) [.str a,.str b]&&uS 1 1000000000000 (.int n))=true
  have ne:decide (some (V.str a)=some (V.str b))=false:=decide_eq_false fun e=>hn (by injection e with e;injection e)
  have e:eR (.str z) [.str a,.str b]=true:=by
   rcases hz with rfl | rfl | rfl
   all_goals
    show(true&&(qT (.str a)&&(qT (.str b)&&true))&&(_||!decide (some (V.str a)=some (V.str b))))=true
    rw[fZ ha,fZ hb,ne,Bool.not_false,Bool.or_true];rfl
  rw[e];show(decide (1<=n)&&decide (n<=1000000000000))=true
  rw[decide_eq_true h1,decide_eq_true h2];rfl
 | three a b c n ha hb hc hn h1 h2=>
  show(eR (.str "pass") [.str a,.str b,.str c]&&uS 1 1000000000000 (.int n))=true
  have ne:decide (some (V.str a)=some (V.str b))=false:=decide_eq_false fun e=>hn (by injection e with e;injection e)
  have e:eR (.str "pass") [.str a,.str b,.str c]=true:=by
   show(true&&(qT (.str a)&&(qT (.str b)&&(qT (.str c)&&true)))&&(_||!decide (some (V.str a)=some (V.str b))))=true
   rw[fZ ha,fZ hb,fZ hc,ne,Bool.not_false,Bool.or_true];rfl
  rw[e];show(decide (1<=n)&&decide (n<=1000000000000))=true
  rw[decide_eq_true h1,decide_eq_true h2];rfl
theorem isNm.len {z:Str} (h:isNm z):z.length<=1000:=fU h.2.1 Zd
theorem Fy:("add":Str).length<=1000/\("take":Str).length<=1000/\("move":Str).length<=1000/\("send":Str).length<=1000/\("fetch":Str).length<=1000/\("pass":Str).length<=1000:=by decide +kernel
end L2
namespace L2
open PySem PySem.Spec PyProof.Rows
inductive TV where
 | sc (v:V)
 | tp (xs:List TV)
 | ls (xs:List TV)
def kW:V->Bool | .non=>true | .bl _=>true | .int _=>true | .str _=>true | _=>false
def Dc (H:Hp):Nat->TV->V->Prop
 | 0,.sc v,x=>x=v/\kW v=true
 | _+1,.sc v,x=>x=v/\kW v=true
 | n+1,.tp ts,x=>∃a xs,x=.ref a/\H a=some (.tup xs)/\Paired (Dc H n) ts xs
 | n+1,.ls ts,x=>∃a xs,x=.ref a/\H a=some (.lst xs)/\Paired (Dc H n) ts xs
 | 0,_,_=>False
theorem Paired.map' {α β:Type} {R S:α->β->Prop} (f:∀a b,R a b->S a b) {xs:List α} {ys:List β} (h:Paired R xs ys):Paired S xs ys:=by
 induction h with
 | nil=>exact .nil
 | cons h t ih=>exact .cons (f _ _ h) ih
theorem Paired.get' {α β:Type} {R:α->β->Prop}:∀ {xs:List α} {ys:List β} {j:Nat},Paired R xs ys->∀(h:j<ys.length),∃h':j<xs.length,R xs[j] ys[j]
 | _,_,0,.cons h t,_=>⟨Nat.succ_pos _,h⟩
 | _,_,j+1,.cons h t,hj=>let ⟨h',r⟩:=Paired.get' (j:=j) t (by simpa using hj);⟨by simpa using h',by simpa using r⟩
section
variable {X:Cx} {pins:List (Addr × Obj)} {s:Shared} {σ:St} {H:Hp}
theorem Lj (B:Around):B.in1.units=B.units+1:=rfl
theorem iW (n:Nat):(List.range n).all (fun _=>true)=true:=List.all_eq_true.mpr fun _ _=>rfl
theorem Fz (I:Inv X pins σ H s):∀(n:Nat) {t:TV} {x y:V} {v u:Value} {A:Around},Dc H n t x->Dc H n t y->RelV x v->RelV y u->A.units+n<cLine->SeqAt.EqAt A s v u true:=by
 have sc:∀ {v:V} {x y:V} {v1 u1:Value} {A:Around},(x=v/\kW v=true)->(y=v/\kW v=true)->RelV x v1->RelV y u1->SeqAt.EqAt A s v1 u1 true:=by
  rintro v x y v1 u1 A ⟨rfl,hx⟩ ⟨rfl,_⟩ r1 r2
  cases y with
  | non=>cases r1;cases r2;exact SeqAt.EqAt.same _
  | bl i=>cases r1;cases r2;exact SeqAt.EqAt.same _
  | int i=>
   obtain⟨t1,rfl⟩:=r1
   obtain⟨t2,rfl⟩:=r2
   have:=SeqAt.EqAt.int_int (A:=A) (s:=s) i t1 i t2
   rwa [beq_self_eq_true]at this
  | str i=>
   obtain⟨t1,rfl⟩:=r1
   obtain⟨t2,rfl⟩:=r2
   have:=SeqAt.EqAt.str_str (A:=A) (s:=s) i t1 i t2
   rwa [beq_self_eq_true]at this
  | _=>cases hx
 intro n;induction n with
 | zero=>
  intro t x y v u A h1 h2 r1 r2 hu;cases t with
  | sc z=>exact sc h1 h2 r1 r2
  | _=>exact h1.elim
 | succ n ih=>
  intro t x y v u A h1 h2 r1 r2 hu;cases t with
  | sc z=>exact sc h1 h2 r1 r2
  | tp ts=>
   obtain⟨a,xs,rfl,g1,p1⟩:=h1
   obtain⟨b,ys,rfl,g2,p2⟩:=h2
   cases r1
   cases r2
   by_cases hab:a=b
   ·subst hab;exact SeqAt.EqAt.same _
   ·obtain⟨its,ri,ti,_⟩:=I.tuple (SqT.of g1)
    obtain⟨its2,ri2,ti2,_⟩:=I.tuple (SqT.of g2)
    have el1:its.length=ts.length:=by rw[<- ri.length,p1.length]
    have el2:its2.length=ts.length:=by rw[<- ri2.length,p2.length]
    have key:=SeqAt.RcAt.tuples (A:=A) (s:=s) (e:=fun _=>true) ti ti2 Zo (fun j h1 h2=>by
     rw[dF]at h1 h2;obtain⟨h1',q1⟩:=Paired.get' (j:=j) ri h1
     obtain⟨h2',q2⟩:=Paired.get' (j:=j) ri2 h2
     obtain⟨h3,q3⟩:=Paired.get' (j:=j) p1 h1'
     obtain⟨h4,q4⟩:=Paired.get' (j:=j) p2 h2'
     simpa using ih q3 q4 q1 q2 (by rw[Lj];omega))
    have e:((List.range (min its.toArray.size its2.toArray.size)).all (fun _=>true)&&its.toArray.size == its2.toArray.size)=true:=by
     rw[iW,dF,dF,el1,el2,beq_self_eq_true];rfl
    rw[e]at key;exact SeqAt.EqAt.of_refs hab key
  | ls ts=>
   obtain⟨a,xs,rfl,g1,p1⟩:=h1
   obtain⟨b,ys,rfl,g2,p2⟩:=h2
   cases r1
   cases r2
   by_cases hab:a=b
   ·subst hab;exact SeqAt.EqAt.same _
   ·obtain⟨its,ri,ti,_⟩:=I.list (SqL.of g1)
    obtain⟨its2,ri2,ti2,_⟩:=I.list (SqL.of g2)
    have el1:its.length=ts.length:=by rw[<- ri.length,p1.length]
    have el2:its2.length=ts.length:=by rw[<- ri2.length,p2.length]
    have key:=SeqAt.RcAt.lists (A:=A) (s:=s) (e:=fun _=>true) ti.isList ti2.isList (by rw[dF,dF,el1,el2]) Zo (fun j h1 h2=>by
     rw[dF]at h1 h2;obtain⟨h1',q1⟩:=Paired.get' (j:=j) ri h1
     obtain⟨h2',q2⟩:=Paired.get' (j:=j) ri2 h2
     obtain⟨h3,q3⟩:=Paired.get' (j:=j) p1 h1'
     obtain⟨h4,q4⟩:=Paired.get' (j:=j) p2 h2'
     simpa using ih q3 q4 q1 q2 (by rw[Lj];omega))
    rw[iW]at key;exact SeqAt.EqAt.of_refs hab key
end
section
variable {X:Cx}
def Vr (neg:Bool):R2:=fun x y H Q=>∃n t,n<=50/\Dc H n t x/\Dc H n t y/\Q (.bl (!neg)) H
theorem Lk (neg:Bool) {pins:List (Addr × Obj)} {s:Shared} {σ:St} {H:Hp} {x y:V} {v u:Value} {Q:VK} {op:CmpOp} (hop:op=if neg then .NotEq else .Eq) (hu:X.A.units+64<cLine) (I:Inv X pins σ H s) (rx:RelV x v) (ry:RelV y u) (h:Vr neg x y H Q) :
  wpAny (model X.prog X.w) X.A (compareOp op v u) (EP X pins σ Q) X.xe s:=by
 obtain⟨n,t,hn,h1,h2,q⟩:=h
 have sc:∀z,t=.sc z->wpAny (model X.prog X.w) X.A (compareOp op v u) (EP X pins σ Q) X.xe s:=by
  rintro z rfl
  have e1:x=z/\kW z=true:=by cases n <;> exact h1
  have e2:y=z/\kW z=true:=by cases n <;> exact h2
  obtain⟨rfl,hx⟩:=e1
  obtain⟨rfl,_⟩:=e2
  have hs:L2.scal y y=true:=by cases y <;> first | rfl | cases hx
  cases neg with
  | true=>
   subst hop;exact Nf pins s σ H y y v u Q I rx ry ⟨hs,by simpa using q⟩
  | false=>
   subst hop;exact Nd pins s σ H y y v u Q I rx ry ⟨hs,by simpa using q⟩
 cases n with
 | zero=>
  cases t with
  | sc z=>exact sc z rfl
  | _=>exact h1.elim
 | succ n=>
  cases t with
  | sc z=>exact sc z rfl
  | tp ts=>
   obtain⟨a,xs,rfl,g1,p1⟩:=h1
   obtain⟨b,ys,rfl,g2,p2⟩:=h2
   cases rx
   cases ry
   obtain⟨its,ri,ti,_⟩:=I.tuple (SqT.of g1)
   obtain⟨its2,ri2,ti2,_⟩:=I.tuple (SqT.of g2)
   have el1:its.length=ts.length:=by rw[<- ri.length,p1.length]
   have el2:its2.length=ts.length:=by rw[<- ri2.length,p2.length]
   have each:∀j (h1:j<its.toArray.size) (h2:j<its2.toArray.size),SeqAt.EqAt X.A.in1 s its.toArray[j] its2.toArray[j] true:=fun j h1 h2=>by
    rw[dF]at h1 h2;obtain⟨h1',q1⟩:=Paired.get' (j:=j) ri h1
    obtain⟨h2',q2⟩:=Paired.get' (j:=j) ri2 h2
    obtain⟨h3,q3⟩:=Paired.get' (j:=j) p1 h1'
    obtain⟨h4,q4⟩:=Paired.get' (j:=j) p2 h2'
    simpa using Fz I n q3 q4 q1 q2 (by rw[Lj];omega)
   have e:((List.range (min its.toArray.size its2.toArray.size)).all (fun _=>true)&&its.toArray.size == its2.toArray.size)=true:=by
    rw[iW,dF,dF,el1,el2,beq_self_eq_true];rfl
   cases neg with
   | true=>
    subst hop;have key:=SeqAt.RcNeAt.tuples (A:=X.A) (s:=s) (e:=fun _=>true) ti ti2 Zo each
    rw[e]at key;exact key _ _ _ _ ⟨.bl false,H,I,rfl,q⟩
   | false=>
    subst hop;have key:=SeqAt.RcAt.tuples (A:=X.A) (s:=s) (e:=fun _=>true) ti ti2 Zo each
    rw[e]at key;exact key _ _ _ _ ⟨.bl true,H,I,rfl,q⟩
  | ls ts=>
   obtain⟨a,xs,rfl,g1,p1⟩:=h1
   obtain⟨b,ys,rfl,g2,p2⟩:=h2
   cases rx
   cases ry
   obtain⟨its,ri,ti,_⟩:=I.list (SqL.of g1)
   obtain⟨its2,ri2,ti2,_⟩:=I.list (SqL.of g2)
   have el1:its.length=ts.length:=by rw[<- ri.length,p1.length]
   have el2:its2.length=ts.length:=by rw[<- ri2.length,p2.length]
   have each:∀j (h1:j<its.toArray.size) (h2:j<its2.toArray.size),SeqAt.EqAt X.A.in1 s its.toArray[j] its2.toArray[j] true:=fun j h1 h2=>by
    rw[dF]at h1 h2;obtain⟨h1',q1⟩:=Paired.get' (j:=j) ri h1
    obtain⟨h2',q2⟩:=Paired.get' (j:=j) ri2 h2
    obtain⟨h3,q3⟩:=Paired.get' (j:=j) p1 h1'
    obtain⟨h4,q4⟩:=Paired.get' (j:=j) p2 h2'
    simpa using Fz I n q3 q4 q1 q2 (by rw[Lj];omega)
   cases neg with
   | true=>
    subst hop;have key:=SeqAt.RcNeAt.lists (A:=X.A) (s:=s) (e:=fun _=>true) ti.isList ti2.isList (by rw[dF,dF,el1,el2]) Zo each
    rw[iW]at key;exact key _ _ _ _ ⟨.bl false,H,I,rfl,q⟩
   | false=>
    subst hop;have key:=SeqAt.RcAt.lists (A:=X.A) (s:=s) (e:=fun _=>true) ti.isList ti2.isList (by rw[dF,dF,el1,el2]) Zo each
    rw[iW]at key;exact key _ _ _ _ ⟨.bl true,H,I,rfl,q⟩
theorem R.cx (hu:X.A.units+64<cLine):gU X (compareOp .NotEq) (Vr true):=⟨fun pins s σ H x y v u Q I rx ry h=>Lk true rfl hu I rx ry h⟩
theorem R.az {st:Stmt}:XS X st (fun _ _ _=>False):=⟨fun pins s σ H D I h=>h.elim⟩
end
end L2
namespace L2
open PySem PySem.Spec PyProof.Rows PySem.Builtin PySem.Builtin.Str
theorem zL:∀l:List (Str × Tok),Vals ((l.map (·.1)).map V.str) (strValues l)
 | []=>.nil
 | p::l=>.cons ⟨p.2,rfl⟩ (zL l)
section
variable {X:Cx}
def xM:V->List V->Hp->VK->Prop:=fun x vs H Q=>mS x fun z=>match vs with
 | [.str y]=>(y.length == 0)=false/\z.length<=1000/\∀l,H l=none->Q (.ref l) (aH H l (.lst ((Txt.split z y).map V.str)))
 | _=>False
theorem Ga:Qg X "str.split" xM:=by
 intro pins s σ H x vs v us Q I rx rv h;unfold xM at h;rw[kT]at h;obtain⟨z,rfl,h⟩:=h
 split at h
 ·rename_i y
  obtain⟨hy,hz,q⟩:=h
  obtain⟨t,rfl⟩:=rx
  obtain⟨uu,rfl,u,rfl⟩:=rv.one
  have fin:∀(l:List (Str × Tok)) (k:Nat),l.map (·.1)=Txt.split z y->EP X pins σ Q (.ref s.heap.objs.size) {s with heap:=s.heap.push {cls:=.type "list",data:=.seq (strValues l).toArray },toks:=k }:=fun l k e=>by
   refine⟨.ref s.heap.objs.size,_,I.laid (t':=k) (o:=.lst ((Txt.split z y).map V.str)) (fun b ob q=>iO _ q) (cA _) ?_,rfl,q _ (I.hok.fresh (cA _))⟩
   refine⟨?_,strValues l,0,by rw[<- e];exact zL l,Heap.get?_push_size _ rfl⟩
   rw[bN];have:=split_le z y
   exact fU this (fU (show z.length+2<=1002 by omega) Zd)
  have hsz:z.length<=sizeLine:=kB hz
  have hsz2:(partsBetween z (occurrences z y 0 z.length (z.length+1)) y.length).length<=sizeLine:=by
   rw[length_partsBetween];have:=StrLaws.occ_length_le z y 0 z.length (z.length+1)
   exact fU (show _<=1002 by omega) Zd
  cases h1:(decide (z.length<y.length)||decide (strKind z<strKind y))
  ·cases hf:(occurrences z y 0 z.length (z.length+1)).isEmpty
   ·refine call_meets F.slot_str_split (typeIs_str _ _ _) F.entry_str_split (F.args_str_split_2 _ _) (meets_str_split_sep z y t u h1 hy hf hsz hsz2) ?_
    show wants (EP X pins σ Q) X.xe _ {s with toks:=_,heap:=s.heap.push {cls:=.type "list",data:=.seq (strsFrom s.toks (partsBetween z (occurrences z y 0 z.length (z.length+1)) y.length)).toArray } }
    rw[strsFrom_eq];exact fin (numbered s.toks _) _ ((numbered_texts _ _).trans ((if_neg (ne_true_of_eq_false h1)).trans (if_neg (ne_true_of_eq_false hf))).symm)
   ·exact call_meets F.slot_str_split (typeIs_str _ _ _) F.entry_str_split (F.args_str_split_2 _ _) (meets_str_split_not_found z y t u h1 hy hf)
     (fin [(z,t)] s.toks ((if_neg (ne_true_of_eq_false h1)).trans (if_pos hf)).symm)
  ·exact call_meets F.slot_str_split (typeIs_str _ _ _) F.entry_str_split (F.args_str_split_2 _ _) (meets_str_split_cannot_occur z y t u h1)
    (fin [(z,t)] s.toks (if_pos h1).symm)
 ·exact h.elim
theorem R.eu:XM X "str.split" xM:=⟨Ga⟩
end
end L2
namespace L2
open PySem PySem.Spec PyProof.Rows
theorem Rv (a b:Str):ltCps b.cps.toList a.cps.toList=false↔a.cps.toList<=b.cps.toList:=by
 rw[ltCps_eq,decide_eq_false_iff_not];exact Iff.rfl
theorem Gb {a b:Str} (h:a.cps.toList=b.cps.toList):a=b:=by rw[Fs a,Fs b,h]
theorem gM:∀(l:List Str) (p:Str),risingS p l=true->(p::l).Pairwise (fun a b=>a.cps.toList<=b.cps.toList)
 | [],p,_=>List.pairwise_singleton _ _
 | x::r,p,h=>by
  unfold risingS at h;rw[Bool.and_eq_true]at h;obtain⟨h1,h2⟩:=h
  have ih:=gM r x h2
  have hpx:p.cps.toList<=x.cps.toList:=(Rv p x).mp (by simpa using h1)
  refine List.pairwise_cons.mpr ⟨fun y hy=>?_,ih⟩
  rcases List.mem_cons.mp hy with rfl | hy
  ·exact hpx
  ·exact List.le_trans hpx ((List.pairwise_cons.mp ih).1 y hy)
theorem lX:∀(l:List Str),sortedS l=true->l.Pairwise (fun a b=>a.cps.toList<=b.cps.toList)
 | [],_=>List.Pairwise.nil
 | x::r,h=>gM r x h
theorem nG:∀(l m:List Str),l.Perm m->l.Pairwise (fun a b=>a.cps.toList<=b.cps.toList)->m.Pairwise (fun a b=>a.cps.toList<=b.cps.toList)->l=m
 | [],m,hp,_,_=>(List.nil_perm.mp hp).symm
 | a::l,[],hp,_,_=>(List.perm_nil.mp hp)
 | a::l,b::m,hp,h1,h2=>by
  obtain⟨p1,p2⟩:=List.pairwise_cons.mp h1
  obtain⟨q1,q2⟩:=List.pairwise_cons.mp h2
  have e:a=b:=by
   have ma:a∈b::m:=hp.mem_iff.mp pR
   have mb:b∈a::l:=hp.mem_iff.mpr pR
   rcases List.mem_cons.mp ma with h | h
   ·exact h
   ·rcases List.mem_cons.mp mb with h' | h'
    ·exact h'.symm
    ·exact Gb (List.le_antisymm (p1 b h') (q1 a h))
  subst e;rw[nG l m (List.Perm.cons_inv hp) p2 q2]
def pB (ss:List Str):List Str:=ss.mergeSort (fun a b=>decide (a.cps.toList<=b.cps.toList))
theorem kX (ss:List Str):(pB ss).Perm ss:=List.mergeSort_perm _ _
theorem xN (ss:List Str):(pB ss).Pairwise (fun a b=>a.cps.toList<=b.cps.toList):=by
 have:=List.pairwise_mergeSort (le:=fun(a b:Str)=>decide (a.cps.toList<=b.cps.toList)) (fun a b c h1 h2=>decide_eq_true (List.le_trans (of_decide_eq_true h1) (of_decide_eq_true h2))) (fun a b=>by
  rcases List.le_total a.cps.toList b.cps.toList with h | h
  ·simp [h]
  ·simp [h]) ss
 exact this.imp fun h=>of_decide_eq_true h
theorem Gc {ss ss':List Str} (hp:ss'.Perm ss) (hs:sortedS ss'=true):ss'=pB ss:=
 nG _ _ (hp.trans (kX ss).symm) (lX _ hs) (xN ss)
theorem kY (ss:List Str):(pB ss).length=ss.length:=(kX ss).length_eq
section
variable {prog:Program} {w:World} {A:Around} {E:Value->Shared->Prop} {s:Shared}
theorem pC {l:Addr} {T:String} {o:Obj} {vs:List Value} {ss:List Str} {n:Nat} {Q:Value->Shared->Prop} (hT:T="list"∨T="tuple") (ho:s.heap.get? l=some o) (hc:o.cls=.type T) (hd:o.data=.seq vs.toArray n) (hS:StrsAre vs ss) (h64:vs.length<64)
  (h:∀(h1 h':Heap) (out:Array Value) (e:Nat),(∀b ob,s.heap.get? b=some ob->h1.get? b=some ob)->(∀b ob,h1.get? b=some ob->h'.get? b=some ob)->h'.get? h1.objs.size=some (seqObj "list" out e)->StrsAre out.toList (pB ss)->Q (.ref h1.objs.size) {s with heap:=h' }) :
  wpAny (model prog w) A (call (.builtin "sorted") [.ref l]) Q E s:=by
 apply Calls.call_function_entry kind_sorted plain_sorted entry_sorted (args_sorted1 _)
 unfold Builtin.«sorted»
 apply wpAny_bind (m:=checkCount "sorted" 1 1 _)
 apply wpAny_pure
 apply wpAny_bind
 refine wpAny_collect_seq l hT ho hc hd (fun h1 k1=>?_) (by rw[dF];exact fU (Nat.le_of_lt h64) Zd)
 have e1:vs.toArray.toList=vs:=by simp
 rw[e1];apply wpAny_bind
 apply wpAny_newList
 ·have g2:(h1.push (seqObj "list" vs.toArray 0)).get? h1.objs.size=some (seqObj "list" vs.toArray 0):=Heap.get?_push_size _ rfl
  apply wpAny_bind
  apply wpAny_holding
  refine wpAny_call_entry slot_list_sort ⟨_,g2,rfl⟩ entry_list_sort (list_sort_treeK strKind_oneLt g2 hS.keysOf (fun v₁ v₂ rest e=>keyKind_strs (by rw[<- e];exact hS)) h64 fun st' hp hs=>⟨_,rfl,wpAny_pure ⟨_,rfl,?_⟩⟩) (args_list_sort _)
  obtain⟨ss',q1,q2,q3⟩:=sorted_out_str hS hp hs
  obtain⟨e,he⟩:=sortedHeap_at (out:=(arrOf st').map (·.2)) g2
  refine h h1 _ _ e k1 (fun b ob hb1=>?_) he (Gc q2 q3 ▸ q1)
  have hlt:=Heap.lt_size hb1
  rw[sortedHeap_old (Nat.ne_of_lt hlt) (by rw[size_push'];exact Nat.lt_succ_of_lt hlt)]
  exact iO _ hb1
 ·exact fU (Nat.le_of_lt h64) Zd
end
theorem lY:∀ {vs:List Value} {ss:List Str},StrsAre vs ss->Vals (ss.map V.str) vs
 | _,_,.nil=>.nil
 | _,_,.cons x t h=>.cons ⟨t,rfl⟩ (lY h)
section
variable {X:Cx}
def sZ (K:W.Frag):List V->Hp->VK->Prop:=fun vs H Q=>match vs with
 | [.ref a]=>∃ss:List Str,(SqL K H a (ss.map V.str)∨SqT K H a (ss.map V.str))/\ss.length<64/\∀l,H l=none->Q (.ref l) (aH H l (.lst ((pB ss).map V.str)))
 | _=>False
theorem Gd:CallR X (.builtin "sorted") (sZ X.K):=by
 intro pins s σ H xs us Q I r h;unfold sZ at h;split at h
 ·rename_i a
  obtain⟨ss,hq,h64,q⟩:=h
  obtain⟨u,rfl,ru⟩:=fG r
  cases ru
  have fin:∀(h1 h':Heap) (out:Array Value) (e:Nat),(∀c ob,s.heap.get? c=some ob->h1.get? c=some ob)->(∀c ob,h1.get? c=some ob->h'.get? c=some ob)->h'.get? h1.objs.size=some (seqObj "list" out e)->StrsAre out.toList (pB ss)->EP X pins σ Q (.ref h1.objs.size) {s with heap:=h' }:=fun h1 h' out e k1 k he hS=>by
   have I1:=I.kept (t':=s.toks) k1
   refine⟨.ref h1.objs.size,_,I1.laid (t':=s.toks) (o:=.lst ((pB ss).map V.str)) k (cA _) ?_,rfl,q _ (I1.hok.fresh (cA _))⟩
   refine⟨?_,out.toList,e,lY hS,he⟩
   rw[bN,kY];exact fU (Nat.le_of_lt h64) Zd
  rcases hq with hq | hq
  ·obtain⟨its,r1,p1,_⟩:=I.list hq
   obtain⟨o,ho,hc,n,hd⟩:=p1.isList
   have hl:=r1.length
   rw[bN]at hl;exact pC (.inl rfl) ho hc hd (kA r1) Zo fin
  ·obtain⟨its,r1,p1,_⟩:=I.tuple hq
   obtain⟨o,ho,hc,n,hd⟩:=p1
   have hl:=r1.length
   rw[bN]at hl;exact pC (.inr rfl) ho hc hd (kA r1) Zo fin
 ·exact h.elim
theorem R.fb {K:W.Frag} (hK:X.K=K:=by rfl):XC X (.builtin "sorted") (sZ K):=hK ▸ ⟨Gd⟩
end
end L2
namespace L2
open PySem PySem.Spec PyProof.Rows
def TK (H H':Hp):Prop:=∀a xs,H a=some (.tup xs)->H' a=some (.tup xs)
theorem TK.trans {H H1 H2:Hp} (a:TK H H1) (b:TK H1 H2):TK H H2:=fun p xs h=>b p xs (a p xs h)
def RepT (H:Hp):Nat->TV->V->Prop
 | 0,.sc v,x=>x=v/\kW v=true
 | _+1,.sc v,x=>x=v/\kW v=true
 | n+1,.tp ts,x=>∃a xs,x=.ref a/\H a=some (.tup xs)/\Paired (RepT H n) ts xs
 | _,_,_=>False
theorem RepT.scal {H:Hp} {n:Nat} {v:V} (h:kW v=true):RepT H n (.sc v) v:=by
 cases n <;> exact⟨rfl,h⟩
theorem RepT.s {H:Hp} {n:Nat} {z:Str}:RepT H n (.sc (.str z)) (.str z):=.scal rfl
theorem RepT.i {H:Hp} {n:Nat} {z:Int}:RepT H n (.sc (.int z)) (.int z):=.scal rfl
section
variable {X:Cx} {es:List Expr} {t:TA} {pos:Pos}
def Nq (t:TA):TE:=fun σ H Q=>t σ H fun xs H1=>xs.length<=1000/\∀p H',Same H1 H'->H' p=some (.tup xs)->Q (.ref p) H'
theorem Ll {x1} (h:PA X es t):PE X (.Tuple es x1 pos) (Nq t):=by
 intro pins s σ H Q I hq;refine wpAny_Tuple_spliced (bK (h pos pins s σ H _ I hq) fun us s1 ⟨xs,H1,I1,r,z,q⟩=>⟨by rw[<- r.length];exact kB z,?_⟩)
 have hf:H1 s1.heap.objs.size=none:=I1.hok.fresh (cA _)
 refine⟨.ref s1.heap.objs.size,aH H1 s1.heap.objs.size (.tup xs),I1.laid (t':=s1.toks) (fun b u e=>iO _ e) (cA _) ?_,rfl,q _ _ (aF hf) aA⟩
 exact⟨kB z,us,r,⟨_,Heap.get?_push_size _ rfl,rfl,_,rfl⟩⟩
theorem R.ap {x1} (h:XA X es t):XE X (.Tuple es x1 pos) (Nq t):=⟨Ll h.h⟩
end
end L2
namespace L2
open PySem PySem.Spec PyProof.Rows
abbrev Z:=Addr × Str × Int
def Yn (x y:Z):Prop:=x.2.1.cps.toList<=y.2.1.cps.toList
def ZAt (H:Hp) (zs:List Z):Prop:=∀z∈zs,H z.1=some (.tup [.str z.2.1,.int z.2.2])
theorem ZAt.same {H H':Hp} {zs:List Z} (h:ZAt H zs) (s:Same H H'):ZAt H' zs:=fun z hz=>s _ _ (h z hz)
def dS (zs:List Z):List V:=zs.map fun z=>V.ref z.1
section
variable {X:Cx} {pins:List (Addr × Obj)} {σ:St} {H:Hp} {s:Shared}
theorem qU:∀ {xs:List V} {vs:List Value} (i:Nat),Vals xs vs->i<xs.length->∀x,xs[i]?=some x->RelV x (vs.getD i Value.none)
 | x::xs,v::vs,0,.cons r rs,_,y,hy=>by
  cases hy
  exact r
 | x::xs,v::vs,i+1,.cons r rs,hi,y,hy=>by
  have:=qU i rs (by simpa using hi) y (by simpa using hy)
  simpa using this
def Vs (K:W.Frag):List V->Hp->VK->Prop:=fun vs H Q=>match vs with
 | [.ref a]=>∃zs:List Z,SqL K H a (dS zs)/\ZAt H zs/\(zs.map (·.2.1)).Nodup/\zs.length<64/\∀l zs',H l=none->zs'.Perm zs->zs'.Pairwise Yn->Q (.ref l) (aH H l (.lst (dS zs')))
 | _=>False
end
theorem pE:∀ {ks:List Str} {vs:List Value},vs.length=ks.length->(∀(i:Nat) (v:Value),vs[i]?=some v->∃x t,ks[i]?=some x/\v=Value.str x t)->StrsAre vs ks
 | [],[],_,_=>.nil
 | k::ks,v::vs,hl,h=>by
  obtain⟨x,t,e1,rfl⟩:=h 0 v rfl
  cases e1
  exact .cons k t (pE (by simpa using hl) fun i v hv=>by simpa using h (i+1) v (by simpa using hv))
section
variable {prog:Program} {w:World} {A:Around} {E:Value->Shared->Prop} {s:Shared}
theorem uU {d:Addr} {ss:List Str} {kvs:List (aZ × Value)} {Q:Value->Shared->Prop} (hh:A.handled=none) (lo:(d == sysModules)=false) (hd:s.heap.DictOf (aS prog w) d kvs) (hk:kvs.map (·.1)=ss.map Sum.inr) (h64:ss.length<64)
  (h:∀(h1 h':Heap) (tk:Nat) (out:Array Value) (e:Nat),(∀b ob,s.heap.get? b=some ob->h1.get? b=some ob)->(∀b ob,h1.get? b=some ob->h'.get? b=some ob)->h'.get? h1.objs.size=some (seqObj "list" out e)->StrsAre out.toList (pB ss)->Q (.ref h1.objs.size) {s with heap:=h',toks:=tk }) :
  wpAny (model prog w) A (call (.builtin "sorted") [.ref d]) Q E s:=by
 have hl:kvs.length=ss.length:=by simpa using congrArg List.length hk
 obtain⟨ep,hm⟩:=hd.dictAt
 apply Calls.call_function_entry kind_sorted plain_sorted entry_sorted (args_sorted1 _)
 unfold Builtin.«sorted»
 apply wpAny_bind (m:=checkCount "sorted" 1 1 _)
 apply wpAny_pure
 apply wpAny_bind
 refine W.kdu_collect (W.kdl_dict lo) hh hm (by rw[hl];exact fU (Nat.le_of_lt h64) Zd) fun h1 tk acc k1 hacc=>?_
 have hS:StrsAre acc.toList ss:=pE (by rw[Array.length_toList,hacc.1,hl]) fun i v hv=>by
  obtain⟨k,x,e1,e2⟩:=hacc.2 i v (by simpa using hv)
  have e3:(kvs.map (·.1))[i]?=some k:=by rw[gQ,e1];rfl
  rw[hk,gQ]at e3;cases e4:ss[i]? with
  | none=>rw[e4]at e3;cases e3
  | some y=>
   rw[e4]at e3;cases e3
   rcases bD (show kL (Sum.inr y) v=true from e2) with⟨_,_,e,_⟩ | ⟨z,t,e,ev⟩
   ·cases e
   ·cases e
    exact⟨_,t,rfl,ev⟩
 generalize acc.toList=vs at hS;have hvl:vs.length<64:=by rw[hS.length];exact h64
 apply wpAny_bind
 apply wpAny_newList
 ·have g2:(h1.push (seqObj "list" vs.toArray 0)).get? h1.objs.size=some (seqObj "list" vs.toArray 0):=Heap.get?_push_size _ rfl
  apply wpAny_bind
  apply wpAny_holding
  refine wpAny_call_entry slot_list_sort ⟨_,g2,rfl⟩ entry_list_sort (list_sort_treeK (s:={s with heap:=h1.push (seqObj "list" vs.toArray 0),toks:=tk }) strKind_oneLt g2 hS.keysOf (fun v₁ v₂ rest e=>keyKind_strs (by rw[<- e];exact hS)) hvl fun st' hp hs=>⟨_,rfl,wpAny_pure ⟨_,rfl,?_⟩⟩) (args_list_sort _)
  obtain⟨ss',q1,q2,q3⟩:=sorted_out_str hS hp hs
  obtain⟨e,he⟩:=sortedHeap_at (out:=(arrOf st').map (·.2)) g2
  refine h h1 _ _ _ e k1 (fun b ob hb1=>?_) he (Gc q2 q3 ▸ q1)
  have hlt:=Heap.lt_size hb1
  rw[sortedHeap_old (Nat.ne_of_lt hlt) (by rw[size_push'];exact Nat.lt_succ_of_lt hlt)]
  exact iO _ hb1
 ·exact fU (Nat.le_of_lt hvl) Zd
end
section
variable {X:Cx}
def pF:List V->Hp->VK->Prop:=fun vs H Q=>match vs with
 | [.ref a]=>∃(ss:List Str) (kvs:List (aZ × V)),Rd H a (.dK kvs)/\kvs.map (·.1)=ss.map Sum.inr/\ss.length<64/\∀l,H l=none->Q (.ref l) (aH H l (.lst ((pB ss).map V.str)))
 | _=>False
theorem Bs (hcm:X.calm=true):CallR X (.builtin "sorted") pF:=by
 intro pins s σ H xs us Q I r h;unfold pF at h;split at h
 ·rename_i a
  obtain⟨ss,kvs,hq,hk,h64,q⟩:=h
  obtain⟨u,rfl,ru⟩:=fG r
  cases ru
  obtain⟨_,hd,vs,rel,dd⟩:=jP I.hok hq
  refine uU (I.ok.hd hcm) hd dd (by rw[<- rel.keys];exact hk) h64 fun h1 h' tk out e k1 k he hS=>?_
  have I1:=I.kept (t':=s.toks) k1
  refine⟨.ref h1.objs.size,_,I1.laid (t':=tk) (o:=.lst ((pB ss).map V.str)) k (cA _) ⟨?_,out.toList,e,lY hS,he⟩,rfl,q _ (I1.hok.fresh (cA _))⟩
  rw[bN,kY];exact fU (Nat.le_of_lt h64) Zd
 ·exact h.elim
theorem R.fe (hcm:X.calm=true):XC X (.builtin "sorted") pF:=⟨Bs hcm⟩
end
end L2
namespace L2
open PySem PySem.Spec PyProof.Rows
theorem tD:typeLookup (.type "list") "keys"=pure none:=am_miss_of_fast (by kernel_rfl)
theorem jE:plainId "dict.update.loop"=true:=by decide +kernel
theorem qV:entryFor table "dict.update.loop"=some Builtin.«dict.update.loop»:=entryFor_of_tree (by kernel_rfl)
section
variable {prog:Program} {w:World} {A:Around} {E:Value->Shared->Prop} {s:Shared}
theorem Lm {a:Addr} {o:Obj} {xs:Array Value} {k:Nat} {Q:Option Value->Shared->Prop} (hx:s.heap.get? a=some o) (hc:o.cls=.type "list") (hdat:o.data=.seq xs k) (hd:o.dict=none) (hA:A.handled=none)
  (h:∀h' tk,(∀b ob,s.heap.get? b=some ob->h'.get? b=some ob)->Q none {s with heap:=h',toks:=tk }):wpAny (model prog w) A (getAttr? (.ref a) "keys") Q E s:=by
 obtain⟨c,dct,dat,sl⟩:=o
 simp only at hc hdat hd
 subst hc hdat hd;obtain⟨hp,g,d,tk,os⟩:=s
 have hT:∀tk',(⟨hp,g,d,tk',os⟩:Shared).TypeIs (.ref a) "list":=fun _=>⟨_,hx,rfl⟩
 have f1:=sub_AttributeError
 have f3:=F.slot_list_getattribute.lookup
 have f4:=F.slot_list_getattribute.bind (.ref a)
 have f5:=am_list_getattr_none
 have f6:=tD
 unfold getAttr? getAttrBy? getAttrBy
 repeat (any_goals (first | assumption | exact hT _ | ((with_reducible show wpAny _ _ (call (Value.builtin "list.__getattribute__") _ _) _ _ _);refine call_meets F.slot_list_getattribute (hT _) am_entry_list_getattribute (F.args_list_getattribute_2 _ _) (meets_getattribute_miss_list a xs k sl "keys" _ f6 Zk) ⟨hx,hA,fun h' tk' e hx'=>?_⟩) | wp_step))
 obtain⟨t',u',he⟩:=hx'.there
 show wpAny _ _ (getattributeRaised _ _ _ _ _ _ _) _ _ _
 unfold getattributeRaised;repeat (any_goals (first | assumption | wp_step))
 exact h _ _ hx'.keeps
def Nr (h:Heap) (v:Value) (q:aZ × V):Prop:=∃a u x,v=Value.ref a/\IsTup h a #[u,x]/\RelV (kV q.1) u/\RelV q.2 x
theorem Ge (hh:A.handled=none) {I l d:Addr} {its:List Value} {qs:List (aZ × V)} {R:Result->Shared->Prop} {res:Value} (hIl:I≠l) (hId:I≠d) (hld:l≠d) :
  ∀(k i:Nat) (s:Shared) (kvs:List (aZ × V)) (vs:List (aZ × Value)) (z:Int),its.length - i=k->i<=its.length->qs.length=its.length->s.heap.IsListIter I l i->s.heap.IsList l its.toArray->(∀(j:Nat) (v:Value) (q:aZ × V),its[j]?=some v->qs[j]?=some q->Nr s.heap v q) →
  (∀(j:Nat) (v:Value) (a:Addr),its[j]?=some v->v=Value.ref a->a≠I/\a≠d)->s.heap.DictOf (aS prog w) d vs->KV kvs vs->kvs.length+k<=1000 →
  (∀h' tk vs',(∀b ob,b≠I->b≠d->s.heap.get? b=some ob->h'.get? b=some ob)->h'.DictOf (aS prog w) d vs'->KV (dU kvs (qs.drop i)) vs'->R (.ok (.ret res)) {s with heap:=h',toks:=tk }) →
  codeAny (model prog w) A (.builtin "dict.update.loop" ⟨[.ref d,.ref I,.int z 0,res],[]⟩) R s:=by
 intro k;induction k with
 | zero=>
  intro i s kvs vs z hk hi hql hit hl hp hne hd rel hz hR;obtain rfl:i=its.length:=by omega
  refine codeAny_builtin qV ?_
  rw[Around.under_plainId jE _];show wpAny _ A.in1 (pyNext (.ref I) >>= _) _ _ s
  apply wpAny_bind
  refine wpAny_pyNext_list_end hh hit hl Zs fun h' eb=>?_
  show wpAny _ A.in1 (Builtin.Dict.addKeywords d [] >>= _) _ _ _
  apply wpAny_bind
  apply wpAny_pure
  apply wpAny_pure
  refine hR h' s.toks vs (fun b ob hb _ e=>eb b ob hb e) (hd.extBut eb hId.symm) ?_
  rw[<- hql,List.drop_length];exact rel
 | succ k ih=>
  intro i s kvs vs z hk hi hql hit hl hp hne hd rel hz hR;have hlt:i<its.length:=by omega
  obtain⟨v,hv⟩:∃v,its[i]?=some v:=⟨its[i],by simp [hlt]⟩
  obtain⟨q,hq⟩:∃q,qs[i]?=some q:=⟨qs[i],by simp [hql,hlt]⟩
  obtain⟨a,u,x,rfl,⟨ob,hob,hoc,n,hod⟩,ru,rx⟩:=hp i v q hv hq
  obtain⟨na,nd⟩:=hne i _ a hv rfl
  refine codeAny_builtin qV ?_
  rw[Around.under_plainId jE _];show wpAny _ A.in1 (pyNext (.ref I) >>= _) _ _ s
  apply wpAny_bind
  refine wpAny_pyNext_list_item hit hl (x:=.ref a) (by simpa using hv) fun h' hit' sb=>?_
  have hob':h'.get? a=some ob:=(sb.2 a na).trans hob
  have hd':h'.DictOf (aS prog w) d vs:=hd.extBut sb.extBut hId.symm
  apply wpAny_bind
  apply wpAny_holding
  apply wpAny_bind
  apply wpAny_tryCatch
  unfold Builtin.Dict.pairItems;apply wpAny_bind
  refine wpAny_typeOf (T:="tuple") ⟨ob,hob',hoc⟩ ?_
  rw[if_pos Zd]
  apply wpAny_bind
  refine wpAny_seqItems hob' hod ?_
  apply wpAny_pure
  show wpAny _ _ (holding [u,x] (dictSet d u x)) _ _ _
  apply wpAny_holding
  have hvl:vs.length<=sizeLine:=by rw[<- rel.length];exact kB Zo
  refine wpAny_dictSet_pairs (s:={s with heap:=h' }) (kP ru) hd' (fun h2 hd2 sb2=>?_) hvl
  apply wpAny_pure
  refine⟨plainId_quiet jE _,?_⟩
  have hl0:=eP kvs q.1 q.2
  have ex:∀b o,b≠I->b≠d->s.heap.get? b=some o->h2.get? b=some o:=fun b o b1 b2 e=>(sb2.2 b b2).trans ((sb.2 b b1).trans e)
  refine ih (i+1) _ (bF kvs q.1 q.2) (stored vs q.1 x) _ Zo Zo hql ?_ ?_ ?_ hne hd2 (rel.put q.1 rx) Zo fun h3 tk vs' k3 hd3 rel3=>?_
  ·exact hit'.at fun o e=>(sb2.2 I hId).trans e
  ·obtain⟨o,e,r⟩:=hl
   exact⟨o,ex l o hIl.symm hld e,r⟩
  ·intro j v q' hj hq';obtain⟨a',u',x',rfl,⟨o',ho',r'⟩,rr⟩:=hp j v q' hj hq'
   obtain⟨n1,n2⟩:=hne j _ a' hj rfl
   exact⟨a',u',x',rfl,⟨o',ex a' o' n1 n2 ho',r'⟩,rr⟩
  ·refine hR h3 tk vs' (fun b o b1 b2 e=>k3 b o b1 b2 (ex b o b1 b2 e)) hd3 ?_
   have e1:qs.drop i=q::qs.drop (i+1):=by
    rw[List.drop_eq_getElem_cons Zo]
    congr 1
    have:qs[i]?=some qs[i]:=lO Zo
    rw[this]at hq;exact Option.some.inj hq
   rw[e1];exact rel3
theorem uV (hh:A.handled=none) {l:Addr} {o:Obj} {n:Nat} {its:List Value} {qs:List (aZ × V)} {Q:Value->Shared->Prop} (hlo:s.heap.get? l=some o) (hlc:o.cls=.type "list") (hld:o.data=.seq its.toArray n) (hldd:o.dict=none) (hql:qs.length=its.length)
  (hp:∀(j:Nat) (v:Value) (q:aZ × V),its[j]?=some v->qs[j]?=some q->Nr s.heap v q) (hz:its.length<=1000)
  (h:∀h' tk vs',(∀b ob,s.heap.get? b=some ob->h'.get? b=some ob)->h'.DictOf (aS prog w) s.heap.objs.size vs'->KV (dU [] qs) vs'->Q (.ref s.heap.objs.size) {s with heap:=h',toks:=tk }) :
  wpAny (model prog w) A (call (.type "dict") [.ref l]) Q E s:=by
 refine callType_codes (Q₁:=fun obj s₁=>obj=.ref s.heap.objs.size/\s₁={s with heap:=s.heap.push {cls:=.type "dict",data:=.dict #[] } }) F.kt_called_dict (F.kt_typeCall_dict_1 _) F.entry_dict_init (kt_code_dict_new _ ⟨rfl,rfl⟩) ?_
 rintro obj s₁ ⟨rfl,rfl⟩
 have hnew:(s.heap.push {cls:=.type "dict",data:=.dict #[] }).DictOf (aS prog w) s.heap.objs.size []:=Heap.DictOf.new s.heap
 have hl1:(s.heap.push {cls:=.type "dict",data:=.dict #[] }).get? l=some o:=iO _ hlo
 refine⟨hnew.typeIs,F.args_dict_init_2 _ _,?_⟩
 unfold Builtin.«dict.__init__»
 apply wpAny_bind
 unfold Builtin.Dict.selfAndRest;apply wpAny_bind
 refine wpAny_notOrdered_dict hnew.typeIs ?_
 show wpAny _ _ (pure (s.heap.objs.size,[Value.ref l])) _ _ _
 apply wpAny_pure
 show wpAny _ _ (Builtin.Dict.updateFrom "dict.__init__" s.heap.objs.size (.ref l) [] .none) _ _ _
 unfold Builtin.Dict.updateFrom;apply wpAny_bind
 refine wpAny_typeOf (T:="list") ⟨o,hl1,hlc⟩ ?_
 rw[if_pos Zd]
 apply wpAny_bind
 refine Lm hl1 hlc hld hldd hh fun h1 tk k1=>?_
 rw[if_pos (show(none:Option Value).isNone=true from rfl)];apply wpAny_bind
 apply wpAny_rule
 have hl2:h1.get? l=some o:=k1 _ _ hl1
 have hL2:h1.IsList l its.toArray:=⟨o,hl2,hlc,n,hld⟩
 have hd2:h1.DictOf (aS prog w) s.heap.objs.size []:=by
  obtain⟨oo,es,ep,ho,r⟩:=hnew
  exact⟨oo,es,ep,k1 _ _ ho,r⟩
 have szl1:s.heap.objs.size<h1.objs.size:=by
  obtain⟨oo,es,ep,ho,r⟩:=hd2
  exact Heap.lt_size ho
 have ltl:l<s.heap.objs.size:=Heap.lt_size hlo
 apply wpAny_bind
 refine wpAny_pyIter_list (s:={s with heap:=h1,toks:=tk }) hL2 ?_
 apply wpAny_pure
 refine⟨plainId_quiet jE _,?_⟩
 refine Ge (A:=A.in1) (s:={s with heap:=h1.push {cls:=.type "list_iterator",data:=.fields #[.ref l,.int 0 0] },toks:=tk }) (its:=its) (qs:=qs) (l:=l) hh (Nat.ne_of_gt (Nat.lt_trans ltl szl1)) (Nat.ne_of_gt szl1) (Nat.ne_of_lt ltl) its.length 0 [] [] 0 rfl (Nat.zero_le _) hql ⟨_,Heap.get?_push_size _ rfl,rfl,rfl⟩ ?_ ?_ ?_ (hd2.push _) .nil (by simpa using hz) ?_
 ·exact⟨o,iO _ hl2,hlc,n,hld⟩
 ·intro j v q hj hq;obtain⟨a,u,x,rfl,⟨ob,hob,r⟩,rr⟩:=hp j v q hj hq
  exact⟨a,u,x,rfl,⟨ob,iO _ (k1 _ _ (iO _ hob)),r⟩,rr⟩
 ·intro j v a hj e;obtain⟨q,hq⟩:∃q,qs[j]?=some q:=by
   have:j<its.length:=(Zgs.mp hj).1
   exact⟨qs[j],by simp [hql,this]⟩
  obtain⟨a',u,x,e',⟨ob,hob,r⟩,rr⟩:=hp j v q hj hq
  rw[e]at e';cases e'
  have:=Heap.lt_size hob
  exact⟨Nat.ne_of_lt (Nat.lt_trans this szl1),Nat.ne_of_lt this⟩
 ·intro h' tk' vs' k' hd' rel';refine⟨rfl,h h' tk' vs' (fun b ob e=>?_) hd' rel'⟩
  have:=Heap.lt_size e
  exact k' b ob (Nat.ne_of_lt (Nat.lt_trans this szl1)) (Nat.ne_of_lt this) (iO _ (k1 _ _ (iO _ e)))
end
section
variable {X:Cx}
abbrev W:=Addr × aZ × V
def Vt (H:Hp) (zs:List W):Prop:=∀z∈zs,H z.1=some (.tup [kV z.2.1,z.2.2])
def tE (K:W.Frag):List V->Hp->VK->Prop:=fun vs H Q=>match vs with
 | [.ref a]=>∃zs:List W,SqL K H a (zs.map fun z=>V.ref z.1)/\Vt H zs/\zs.length<=1000/\∀d,H d=none->Q (.ref d) (aH H d (.dK (dU [] (zs.map (·.2)))))
 | _=>False
theorem Gf (hcm:X.calm=true):CallR X (.type "dict") (tE X.K):=by
 intro pins s σ H xs us Q I r h;unfold tE at h;split at h
 ·rename_i a
  obtain⟨zs,hq,hz,h1000,q⟩:=h
  obtain⟨u,rfl,ru⟩:=fG r
  cases ru
  obtain⟨its,r1,p1,_⟩:=I.list hq
  obtain⟨o,n,ho,hc,hdd,hd⟩:=p1
  have hl:zs.length=its.length:=by
   have:=r1.length
   rw[bN]at this;exact this
  refine uV (I.ok.hd hcm) ho hc hd hdd (qs:=zs.map (·.2)) (by rw[bN];exact hl) (fun j v q' hj hq'=>?_) Zo fun h' tk vs' k hd rel=>?_
  ·rw[gQ]at hq';cases hzj:zs[j]? with
   | none=>rw[hzj]at hq';cases hq'
   | some z=>
    rw[hzj]at hq';cases hq'
    have e:=hz z (kK hzj)
    obtain⟨_,its2,r2,it⟩:=(show ObjOk X.prog X.w H s.heap z.1 (.tup [kV z.2.1,z.2.2]) from I.hok _ _ e)
    have hj2:j<zs.length:=(Zgs.mp hzj).1
    have rv:RelV (V.ref z.1) (its.getD j Value.none):=qU j r1 (by rw[bN];exact hj2) _ (by rw[gQ,hzj];rfl)
    have ev:its.getD j Value.none=v:=by rw[List.getD_eq_getElem?_getD,hj];rfl
    rw[ev]at rv;cases rv
    cases r2 with
    | cons a1 r3=>
     cases r3 with
     | cons a2 r4=>
      cases r4
      exact⟨z.1,_,_,rfl,it,a1,a2⟩
  ·have hf:H s.heap.objs.size=none:=I.hok.fresh (cA _)
   refine⟨.ref s.heap.objs.size,_,I.laid (t':=tk) (o:=.dK (dU [] (zs.map (·.2)))) k (cA _) ⟨?_,?_,vs',rel,hd⟩,rfl,q _ hf⟩
   ·have:=jQ (zs.map (·.2)) []
    rw[bN]at this;exact kB (by simp at this;omega)
   ·have hb:=I.big
    exact beq_eq_false_iff_ne.mpr (Nat.ne_of_gt hb)
 ·exact h.elim
theorem R.dy {K:W.Frag} (hcm:X.calm=true) (hK:X.K=K:=by rfl):XC X (.type "dict") (tE K):=hK ▸ ⟨Gf hcm⟩
end
end L2
namespace L2
open PySem PySem.Spec PyProof.Rows
def Wn (a:Addr) (o:Obj) (kvs:List (aZ × V)):It:=
 ⟨fun i H=>H a=some (.frz o (.dK kvs))/\i<kvs.length,fun i H x H'=>H'=H/\(kvs.map fun q=>kV q.1)[i]?=some x,fun i H=>H a=some (.frz o (.dK kvs))/\kvs.length<=i⟩
theorem zM (a:Addr) (o:Obj) (kvs:List (aZ × V)):uN (Wn a o kvs) (kvs.map fun q=>kV q.1) (fun H=>H a=some (.frz o (.dK kvs))):=
 ⟨fun i H hi e=>⟨e,by rwa [bN]at hi⟩,fun i H x H' _ _ y=>y,fun H e=>⟨e,by rw[bN];exact cA _⟩⟩
section
variable {X:Cx} {pins:List (Addr × Obj)} {σ:St} {H:Hp} {s:Shared} {a:Addr} {o:Obj} {kvs:List (aZ × V)}
theorem xO {P:Program} {w:World} {h:Heap} (ok:HOk P w H h) (e:H a=some (.frz o (.dK kvs))):h.get? a=some o/\(a == sysModules)=false/\∃vs ep,KV kvs vs/\(∃es,o.data=.dict es ep)/\h.DictAt (aS P w) a vs ep:=by
 obtain⟨h1,z,hd,vs,rel,dd⟩:=(show ObjOk P w H h a (.frz o (.dK kvs)) from ok a _ e)
 obtain⟨ep,d2⟩:=dd.dictAt
 obtain⟨o',es,g,r1,r2,r3⟩:=id d2
 rw[h1]at g;cases g
 exact⟨h1,hd,vs,ep,rel,⟨es,r2⟩,d2⟩
theorem Gg {P:Program} {w:World} {K:W.Frag} {tg:Expr} (a it:Addr) {ep:Nat} (he:∃es,o.data=.dict es ep):rO P w K tg (Wn a o kvs) [it] it (fun i h=>h.IsKeyIter it a i kvs.length ep) where
 mem:=by simp
 obj:=fun i h st b hb=>by
  obtain rfl:b=it:=by simpa using hb
  obtain⟨ob,e,c,d⟩:=st
  exact⟨ob,e,fun v z=>by rw[d]at z;cases z⟩
 keep:=fun i h h' st k=>st.at fun ob e=>k it Zs ob e
 item:=by
  intro X hP hw hK hc i pins s σ H E I hf st hg;subst hP hw hK;obtain⟨ef,hi⟩:=hg
  obtain⟨h1,lo,vs,ep',rel,⟨es',e'⟩,dd⟩:=xO I.hok ef
  obtain⟨es,e0⟩:=he
  obtain rfl:ep'=ep:=by
   rw[e0]at e';cases e'
   rfl
  have hl:=rel.length
  obtain⟨⟨k,x⟩,hx⟩:∃p,vs[i]?=some p:=⟨vs[i],lO Zo⟩
  have hk:(kvs.map (·.1))[i]?=some k:=by rw[rel.keys,gQ,hx];rfl
  obtain⟨f0,f1,f2,f3,f4,f5⟩:=hf it Zs
  rw[hl]at st;refine wpAny_pyNext_dict_item st dd hx fun key h' hkey st' sb=>?_
  have I1:Inv X pins σ H {s with heap:=h' }:=I.turned (t':=s.toks) (fun b ob hb e=>(sb.2 b hb).trans e) f0 f1 f3 f4 f5
  obtain⟨ob,e,c,d⟩:=id st'
  have rk:RelV (kV k) key:=by
   rcases bD (show kL k key=true from hkey) with⟨j,t,rfl,rfl⟩ | ⟨z,t,rfl,rfl⟩
   ·exact⟨t,rfl⟩
   ·exact⟨t,rfl⟩
  refine⟨key,rfl,qC (s:={s with heap:=h' }) e c d Zd ⟨kV k,H,I1,rk,⟨rfl,?_⟩,by rw[hl];exact st',fun b hb=>(hf b hb).1⟩⟩
  rw[gQ]at hk ⊢;cases z:kvs[i]? with
  | none=>rw[z]at hk;cases hk
  | some q=>rw[z]at hk;cases hk;rfl
 done:=by
  intro X hP hw hK hc i pins s σ H E I hf st hg;subst hP hw hK;obtain⟨ef,hi⟩:=hg
  obtain⟨h1,lo,vs,ep',rel,⟨es',e'⟩,dd⟩:=xO I.hok ef
  obtain⟨es,e0⟩:=he
  obtain rfl:ep'=ep:=by
   rw[e0]at e';cases e'
   rfl
  have hl:=rel.length
  rw[hl]at st;obtain⟨f0,f1,f2,f3,f4,f5⟩:=hf it Zs
  exact wpAny_pyNext_dict_end (I.ok.hd hc) st dd (List.getElem?_eq_none Zo) fun h' eb=>⟨rfl,I.turned (t':=s.toks) (fun b ob hb e=>eb b ob hb e) f0 f1 f3 f4 f5⟩
 self:=fun _ _ _ _ _ st h=>wpAny_pyIter_keyiter st h
theorem Inv.freeze (I:Inv X pins σ H s) (e:H a=some (.dK kvs)):∃ob,s.heap.get? a=some ob/\Inv X pins σ (aH H a (.frz ob (.dK kvs))) s:=by
 obtain⟨z,hd,vs,rel,dd⟩:=qK I.hok e
 obtain⟨ob,es,ep,g,r⟩:=id dd
 refine⟨ob,g,?_⟩
 have:=I.write (t':=s.toks) (h':=s.heap) (x:=a) (e:=a) (o:=.frz ob (.dK kvs)) (by rw[e];exact True.intro) (.inl rfl) (fun b u _ q=>q) ⟨ob,g⟩ ⟨g,z,hd,vs,rel,dd⟩
 exact this
theorem Inv.thaw (I:Inv X pins σ H s) (e:H a=some (.frz o (.dK kvs))) (hn:∀o' u,X.H₀ a≠some (.frz o' u)):Inv X pins σ (aH H a (.dK kvs)) s where
 ok:=I.ok
 os:=I.os
 bare:=I.bare
 base:=by
  have na:∀b,H b=none->b≠a:=fun b z q=>by rw[q,e]at z;cases z
  refine⟨I.base.keep,I.base.slot,fun b ob q n hx=>?_,I.base.there,fun b xs q=>?_,fun b ob u q=>?_,fun b ps q=>?_⟩
  ·have:=I.base.free b ob q n hx
   rw[aD (na b this)];exact this
  ·have:=I.base.tups b xs q
   rw[aD (aK this e (fun z=>nomatch z))]
   exact this
  ·have:=I.base.frzs b ob u q
   by_cases hb:b=a
   ·subst hb;exact absurd q (hn ob u)
   ·rw[aD hb];exact this
  ·obtain⟨more,q2⟩:=I.base.tbls b ps q
   exact⟨more,by rw[aD (aK q2 e (fun z=>nomatch z))];exact q2⟩
 loc:=I.loc
 cell:=I.cell
 free:=by
  have z:=I.free
  rw[aD (fun q=>by rw[q,e]at z;cases z)]
  exact z
 freeC:=fun x c h=>by
  have z:=I.freeC x c h
  rw[aD (fun q=>by rw[q,e]at z;cases z)]
  exact z
 pin:=fun p hp=>by
  obtain⟨p1,p2,p3⟩:=I.pin p hp
  refine⟨p1,?_,p3⟩
  rw[aD (fun q=>by rw[q,e]at p2;cases p2)]
  exact p2
 hok:=by
  intro b u hb;by_cases q:b=a
  ·subst q;rw[aA]at hb;cases hb
   exact(show ObjOk X.prog X.w H s.heap b (.frz o (.dK kvs)) from I.hok b _ e).2
  ·rw[aD q]at hb;refine(I.hok b u hb).stay (fun c v _ h=>h) (fun c h=>?_) fun c xs h=>?_
   ·rw[aD (aK h e (fun z=>nomatch z))];exact h
   ·rw[aD (aK h e (fun z=>nomatch z))];exact h
 len:=I.len
def Vu (te:TE):TI:=fun σ H R=>te σ H fun x H1=>mR x fun a=>∃kvs,H1 a=some (.dK kvs)/\∀o,R (Wn a o kvs) (aH H1 a (.frz o (.dK kvs)))
theorem Rw {tg l:Expr} {tl:TE} (hl:PE X l tl):PI X tg l (Vu tl):=by
 intro pins s σ H R I h;refine bK (hl pins s σ H _ I h) fun v s1 ⟨x,H1,I1,r1,q1⟩=>?_
 dsimp only at q1
 rw[cC]at q1;obtain⟨a,rfl,kvs,e,q⟩:=q1
 cases r1
 obtain⟨ob,g,I2⟩:=I1.freeze e
 obtain⟨h1,lo,vs,ep,rel,he,dd⟩:=xO I2.hok (aA (a:=a))
 have hn:(aH H1 a (.frz ob (.dK kvs))) s1.heap.objs.size=none:=I2.hok.fresh (cA _)
 refine wpAny_pyIter_dict lo dd ?_
 refine⟨s1.heap.objs.size,[s1.heap.objs.size],_,_,_,rfl,I2.kept (t':=s1.toks) fun b o e=>iO _ e,Gg a _ he,⟨_,Heap.get?_push_size _ rfl,rfl,?_⟩,fun b hb=>?_,q ob⟩
 ·rw[rel.length];rfl
 ·obtain rfl:b=s1.heap.objs.size:=by simpa using hb
  exact I2.fpOk (cA _) hn
def Nt (t:TE):TE:=fun σ H Q=>t σ H fun v H2=>∃a kvs o,(∃kvs0,H a=some (.dK kvs0))/\H2 a=some (.frz o (.dK kvs))/\Q v (aH H2 a (.dK kvs))
theorem Ln {e:Expr} {t:TE} (he:PE X e t):PE X e (Nt t):=by
 intro pins s σ H Q I h;refine bK (he pins s σ H _ I h) fun u s1 ⟨v,H2,I2,rv,a,kvs,o,⟨kvs0,e0⟩,e2,q⟩=>⟨v,_,I2.thaw e2 (fun o' u' z=>?_),rv,q⟩
 have:=I.base.frzs a o' u' z
 rw[e0]at this;cases this
end
def Vv (K:W.Frag) (te:TE) (f:Str):TE:=fun σ H Q=>te σ H fun x H1=>mR x fun a=>∃C dx fs v,H1 a=some (.ins C dx fs)/\Cls K C/\NoAttr K C f/\fs.lookup f=some v/\Q v H1
def Nu (K:W.Frag) (ta tv:TE) (f:Str):TS:=fun D σ H=>tv σ H fun y H1=>ta σ H1 fun x H2=>mR x fun a=>∃C dx fs,H2 a=some (.ins C dx fs)/\Cls K C/\NoAttr K C f/\fs.length<1000/\D.nx σ (aH H2 a (.ins C dx (bG f y fs)))
section
variable {X:Cx} {e o value:Expr} {f:Str} {pos pos':Pos} {te ta tv:TE} {K:W.Frag}
theorem Lo (he:PE X e te) (hb:attributeBase e f X.env (eval e X.env)=eval e X.env):PE X (.Attribute e f pos) (Vv X.K te f):=by
 intro pins s σ H Q I h;refine Jx hb (bK (he pins s σ H _ I h) fun u s1 ⟨x,H1,I1,rx,q1⟩=>?_)
 dsimp only at q1
 rw[cC]at q1;obtain⟨a,rfl,C,dx,fs,v,ea,c,n,l,q⟩:=q1
 obtain rfl:u=Value.ref a:=rx
 exact wM I1 ea c n l fun u' s2 I2 ru=>⟨v,H1,I2,ru,q⟩
theorem Lp (ha:PE X o ta) (hv:PE X value tv) (hs:swapsWith value (some (.Attribute o f pos')) pos.line X.env=pure false):PS X (.Assign [.Attribute o f pos'] value pos) (Nu X.K ta tv f):=by
 intro pins s σ H D I h;refine plainObj_wpAny_Assign_Attribute (bK (hv pins s σ H _ I h) fun u s1 ⟨y,H1,I1,ry,q⟩=>bK (ha pins s1 σ H1 _ I1 q) fun ov s2 ⟨x,H2,I2,rx,q1⟩=>?_) hs
 dsimp only at q1
 rw[cC]at q1;obtain⟨a,rfl,C,dx,fs,ea,c,n,l,q2⟩:=q1
 obtain rfl:ov=Value.ref a:=rx
 exact wN I2 ea c n l ry fun s3 I3=>⟨σ,_,I3,q2⟩
end
structure cT (P:Program) (w:World) (K:W.Frag) (mg:Str->Option Value) (base:Heap) (n:Nat) (C:Addr) (m:Str) (ps:List Str) (sp:Sp):Prop where
 ex:∃f fd,Cls K C/\Dw K C m f/\iM P w K mg base qM n f fd ps sp/\Binds K fd ps []
structure tY (P:Program) (w:World) (K:W.Frag) (mg:Str->Option Value) (base:Heap) (n:Nat) (x:Str) (C:Addr) (ps:List Str) (dvs:List V) (sp:Sp):Prop where
 ex:∃f fd ds,mg x=some (.ref C)/\Mk K C f/\iM P w K mg base qM n f fd ps sp/\Binds K fd ps ds/\Vals dvs ds
def zN (C:Addr) (m:Str) (sp:Sp) (ta:TE) (t:TA):TE:=fun σ H Q=>ta σ H fun x H1=>mR x fun a=>∃dx fs,H1 a=some (.ins C dx fs)/\fs.lookup m=none/\t σ H1 fun vs H2=>sp (.ref a::vs) H2 Q E0
section
variable {X:Cx} {e o:Expr} {es:List Expr} {m x:Str} {p pos apos:Pos} {ta:TE} {t:TA} {C:Addr} {n:Nat} {ps:List Str} {sp:Sp} {dvs:List V}
theorem Gh {pl:Sem Bool} (he:PE X o ta) (c:cT X.prog X.w X.K X.mg X.base n C m ps sp) (hr:Room n X.A) (ha:PA X (e::es) t) (hs:aM e=true) (hpl:(backTo pos (starEach es X.env)).any (·.1)=false)
  (ht:eval (.Call (.Attribute o m apos) (e::es) [] pos) X.env=(do
   let ov ← eval o X.env
   standAt apos.atName
   let (f,first) ← holding [ov] (getMethod ov m pl)
   callWith pos f first (backTo pos (starEach (e::es) X.env)) (backToKw pos (keywordEach [] X.env)))) :
  PE X (.Call (.Attribute o m apos) (e::es) [] pos) (zN C m sp ta t):=by
 obtain⟨f,fd,cl,hm,F,hb⟩:=c.ex
 intro pins s σ H Q I h;refine W.methodCall_KW (pl:=pl) (bK (he pins s σ H _ I h) fun u s1 ⟨x,H1,I1,rx,q1⟩=>?_) ht
 dsimp only at q1
 rw[cC]at q1;obtain⟨a,rfl,dx,fs,ea,l,q⟩:=q1
 obtain rfl:u=Value.ref a:=rx
 refine jX I1 ea cl hm l ?_
 refine W.callWith_K (first:=[.ref a]) (h₀:=X.base) I.ok.mod.kin hm.kp (bK (ha pos pins s1 σ H1 _ I1 q) fun us s2 ⟨vs,H2,I2,r,q2⟩=>⟨I2.kIn,?_⟩) (bI hs) hpl
 exact rT (us:=.ref a::us) (vs:=.ref a::vs) (dvs:=[]) (ds:=[]) F hr hb .nil qN I2 (.cons rfl r) (by rw[List.append_nil];exact q2)
theorem Bt {pl:Sem Bool} (he:PE X o ta) (c:cT X.prog X.w X.K X.mg X.base n C m ps sp) (hr:Room n X.A)
  (ht:eval (.Call (.Attribute o m apos) [] [] pos) X.env=(do
   let ov ← eval o X.env
   standAt apos.atName
   let (f,first) ← holding [ov] (getMethod ov m pl)
   callWith pos f first (backTo pos (starEach [] X.env)) (backToKw pos (keywordEach [] X.env)))) :
  PE X (.Call (.Attribute o m apos) [] [] pos) (zN C m sp ta wQ):=by
 obtain⟨f,fd,cl,hm,F,hb⟩:=c.ex
 intro pins s σ H Q I h;refine W.methodCall_KW (pl:=pl) (bK (he pins s σ H _ I h) fun u s1 ⟨x,H1,I1,rx,q1⟩=>?_) ht
 dsimp only at q1
 rw[cC]at q1;obtain⟨a,rfl,dx,fs,ea,l,q⟩:=q1
 obtain rfl:u=Value.ref a:=rx
 refine jX I1 ea cl hm l ?_
 exact W.callWith_K0 (first:=[.ref a]) I1.kIn hm.kp (rT (us:=[.ref a]) (vs:=[.ref a]) (dvs:=[]) (ds:=[]) F hr hb .nil qN I1 (.cons rfl .nil) (by rw[List.append_nil];exact q))
end
structure FunD (K:W.Frag) (x qual:Str) (st:Stmt) (dv:Value) (f:Addr) (fd:FuncData):Prop where
 ex:∃(oc:Value) (od:Option Addr) (kV doc pm:Value) (an:Option Addr) (cdv ct:Value) (osl:Array (Option Value)),
  fd=W.fnOf x qual (bA st) (aR st) (aB st) dv kV doc pm an cdv ct/\K.lookup f=some ⟨oc,od,.func fd,osl⟩/\W.codeIn K cdv qual=true
section
variable {P:Program} {w:World} {K:W.Frag} {mg:Str->Option Value} {base:Heap} {x qual:Str} {st:Stmt} {dv:Value} {f C:Addr} {fd:FuncData} {N ps:List Str} {k:Nat} {sp:Sp}
theorem FunD.go (F:FunD K x qual st dv f fd) (S:aG N ps (aB st)) (len:∀vs H Q E,sp vs H Q E->vs.length=ps.length)
  (hbody:∀(cdv:Value) (A:Around) (outer:List Env) (s:Shared) (H:Hp) (vs:List V) (Q:VK) (E:XK),Room k (A.deeper (envOfC qual (aB st) s.heap.objs.size f cdv))->sp vs H Q E →
   ∃t,XB (lT qM P w K mg base N qual (aB st) f cdv A outer s H E).nox (aR st) t/\t {nx:=fun _ H'=>Q .non H',rt:=Q } (start N vs) H):iM P w K mg base qM (k+1) f fd ps sp:=by
 obtain⟨oc,od,kV,doc,pm,an,cdv,ct,osl,rfl,lk,hcd⟩:=F.ex
 refine Ng lk hcd S len fun A outer s H vs Q E hr hsp=>?_
 obtain⟨t,h,q⟩:=hbody cdv A outer s H vs Q E hr hsp
 exact⟨t,h.h.nox,q⟩
structure MethAt (K:W.Frag) (C:Addr) (m qual:Str) (st:Stmt) (ps:List Str):Prop where
 cl:Cls K C
 ex:∃f fd,Fun K m qual st f fd/\Dw K C m f/\Binds K fd ps []
theorem MethAt.go {m:Str} (D:MethAt K C m qual st ps) (S:aG N ps (aB st)) (len:∀vs H Q E,sp vs H Q E->vs.length=ps.length)
  (hbody:∀(f:Addr) (cdv:Value) (A:Around) (outer:List Env) (s:Shared) (H:Hp) (vs:List V) (Q:VK) (E:XK),Room k (A.deeper (envOfC qual (aB st) s.heap.objs.size f cdv))->sp vs H Q E →
   ∃t,XB (lT qM P w K mg base N qual (aB st) f cdv A outer s H E).nox (aR st) t/\t {nx:=fun _ H'=>Q .non H',rt:=Q } (start N vs) H):cT P w K mg base (k+1) C m ps sp:=by
 obtain⟨f,fd,F,hm,hb⟩:=D.ex
 exact⟨f,fd,D.cl,hm,F.go S len (hbody f),hb⟩
structure ClsAt (K:W.Frag) (mg:Str->Option Value) (x:Str) (C:Addr) (qual:Str) (st:Stmt) (ps:List Str) (dvs:List (List V)):Prop where
 ex:∃f fd dv,mg x=some (.ref C)/\FunD K "__init__" qual st dv f fd/\Mk K C f/\∀d∈dvs,∃ds,Binds K fd ps ds/\Vals d ds
theorem ClsAt.go {dvs:List (List V)} (D:ClsAt K mg x C qual st ps dvs) (S:aG N ps (aB st)) (len:∀vs H Q E,sp vs H Q E->vs.length=ps.length)
  (hbody:∀(f:Addr) (cdv:Value) (A:Around) (outer:List Env) (s:Shared) (H:Hp) (vs:List V) (Q:VK) (E:XK),Room k (A.deeper (envOfC qual (aB st) s.heap.objs.size f cdv))->sp vs H Q E →
   ∃t,XB (lT qM P w K mg base N qual (aB st) f cdv A outer s H E).nox (aR st) t/\t {nx:=fun _ H'=>Q .non H',rt:=Q } (start N vs) H):∀d∈dvs,tY P w K mg base (k+1) x C ps d sp:=by
 intro d hd;obtain⟨f,fd,dv,e,F,M,hb⟩:=D.ex
 obtain⟨ds,b,v⟩:=hb d hd
 exact⟨f,fd,ds,e,M,F.go S len (hbody f),b,v⟩
end
namespace R
section
variable {X:Cx} {e o i value:Expr} {es:List Expr} {m x f:Str} {p pos pos' apos:Pos} {te ta tv td ty:TE} {t:TA} {C:Addr} {n:Nat} {ps:List Str} {sp:Sp} {dvs:List V} {K:W.Frag} {tg:Expr}
theorem wD (hl:XE X e te):XI X tg e (Vu te):=⟨Rw hl.h⟩
theorem gv (he:XE X e te):XE X e (Nt te):=⟨Ln he.h⟩
theorem aq (he:XE X e te) (hK:X.K=K:=by rfl) (hb:attributeBase e f X.env (eval e X.env)=eval e X.env:=by rfl):XE X (.Attribute e f pos) (Vv K te f):=hK ▸ ⟨Lo he.h hb⟩
theorem aw (ha:XE X o ta) (hv:XE X value tv) (hK:X.K=K:=by rfl) (hs:swapsWith value (some (.Attribute o f pos')) pos.line X.env=pure false:=by rfl):XS X (.Assign [.Attribute o f pos'] value pos) (Nu K ta tv f):=hK ▸ ⟨Lp ha.h hv.h hs⟩
theorem bh (hu:X.A.units+1<cLine) (ho:XE X o td) (hi:XE X i ty) (hs:Qm i:=by exact fun _ _=>rfl):XE X (.Subscript o i pos) (Nk td ty):=⟨Ki hu ho.h hi.h hs⟩
theorem bc {pl:Sem Bool} (c:cT X.prog X.w X.K X.mg X.base n C m ps sp) (hr:Room n X.A) (he:XE X o ta) (ha:XA X (e::es) t) (hs:aM e=true:=by rfl) (h2:es.all aM=true:=by rfl)
  (ht:eval (.Call (.Attribute o m apos) (e::es) [] pos) X.env=(do
   let ov ← eval o X.env
   standAt apos.atName
   let (f,first) ← holding [ov] (getMethod ov m pl)
   callWith pos f first (backTo pos (starEach (e::es) X.env)) (backToKw pos (keywordEach [] X.env))):=by rfl):XE X (.Call (.Attribute o m apos) (e::es) [] pos) (zN C m sp ta t):=⟨Gh he.h c hr ha.h hs (eQ h2) ht⟩
theorem bu {pl:Sem Bool} (c:cT X.prog X.w X.K X.mg X.base n C m ps sp) (hr:Room n X.A) (he:XE X o ta)
  (ht:eval (.Call (.Attribute o m apos) [] [] pos) X.env=(do
   let ov ← eval o X.env
   standAt apos.atName
   let (f,first) ← holding [ov] (getMethod ov m pl)
   callWith pos f first (backTo pos (starEach [] X.env)) (backToKw pos (keywordEach [] X.env))):=by rfl):XE X (.Call (.Attribute o m apos) [] [] pos) (zN C m sp ta wQ):=⟨Bt he.h c hr ht⟩
theorem cw (c:tY X.prog X.w X.K X.mg X.base n x C ps [] sp) (hr:Room (n+1) X.A) (hg:Gl X x) (ha:XA X (e::es) t) (hdb:(x == ("__debug__":Str))=false:=by decide) (hs:aM e=true:=by rfl) (h2:es.all aM=true:=by rfl) :
  XE X (.Call (.Name x p) (e::es) [] pos) (yR C sp [] E0 t):=by
 obtain⟨f,fd,ds,hm,M,F,hb,hd⟩:=c.ex
 exact⟨Jz M F hr hg hm hb hd qN ha.h hdb (bI hs) (eQ h2)⟩
theorem ia (c:tY X.prog X.w X.K X.mg X.base n x C ps dvs sp) (hr:Room (n+1) X.A) (hg:Gl X x) (hdb:(x == ("__debug__":Str))=false:=by decide) :
  XE X (.Call (.Name x p) [] [] pos) (yR C sp dvs E0 wQ):=by
 obtain⟨f,fd,ds,hm,M,F,hb,hd⟩:=c.ex
 exact⟨Dx M F hr hg hm hb hd qN hdb⟩
end
end R
end L2
namespace L2
open PySem PySem.Spec PyProof.Rows
def lZ (prs:List (Str × Int)):List (aZ × V):=prs.map fun q=>(Sum.inr q.1,V.int q.2)
def cD (prs:List (Str × Int)) (n:Str):Int:=(prs.lookup n).getD 0
theorem pG (prs:List (Str × Int)):(lZ prs).map (·.1)=(prs.map (·.1)).map Sum.inr:=by
 unfold lZ;rw[List.map_map,List.map_map];rfl
theorem oG (n:Str):∀(prs:List (Str × Int)),aX (lZ prs) (Sum.inr n)=(prs.lookup n).map V.int
 | []=>rfl
 | q::r=>by
  unfold lZ;rw[List.map_cons,List.lookup_cons];by_cases h:n=q.1
  ·subst h;rw[bP rfl];simp
  ·have hb:(n == q.1)=false:=beq_eq_false_iff_ne.mpr h
   rw[bQ (by intro z;exact h (Sum.inr.inj z).symm),hb]
   exact oG n r
theorem tF (prs:List (Str × Int)) (n:Str):(aX (lZ prs) (Sum.inr n)).getD (V.int 0)=V.int (cD prs n):=by
 rw[oG];unfold cD;cases prs.lookup n <;> rfl
theorem mD:∀(more kvs:List (aZ × V)),(more.map (·.1)).Nodup->(∀k∈more.map (·.1),aX kvs k=none)->dU kvs more=kvs++more
 | [],kvs,_,_=>(List.append_nil _).symm
 | p::r,kvs,hn,h=>by
  obtain⟨h1,h2⟩:=List.nodup_cons.mp hn
  show dU (bF kvs p.1 p.2) r=_
  have e0:aX kvs p.1=none:=h p.1 Zs
  rw[mD r _ h2 fun k hk=>?_,fV _ e0]
  ·simp
  ·rw[uJ,if_neg (fun(z:k=p.1)=>h1 (by dsimp only;rw[<- z];exact hk))]
   exact h k (jM _ hk)
theorem mE:∀ {l:List Str},l.Nodup->(l.map (Sum.inr:Str->aZ)).Nodup
 | [],_=>List.nodup_nil
 | a::l,h=>by
  obtain⟨h1,h2⟩:=List.nodup_cons.mp h
  refine List.nodup_cons.mpr ⟨fun z=>?_,mE h2⟩
  obtain⟨b,hb,e⟩:=Zmm.mp z
  cases e
  exact h1 hb
theorem Bu {prs:List (Str × Int)} (h:(prs.map (·.1)).Nodup):dU [] (lZ prs)=lZ prs:=by
 rw[mD _ _ (by rw[pG];exact mE h) fun _ _=>rfl]
 rfl
def Gi (prs:List (Str × Int)):List (Str × Int):=((pB (prs.map (·.1))).filter fun n=>decide (0<cD prs n)).map fun n=>(n,cD prs n)
theorem kC {n:Str}:∀ {prs:List (Str × Int)},n∈prs.map (·.1)->∃a,prs.lookup n=some a
 | q::r,h=>by
  rw[List.lookup_cons];by_cases e:n=q.1
  ·subst e;exact⟨q.2,Zs⟩
  ·have hb:(n == q.1)=false:=beq_eq_false_iff_ne.mpr e
   rw[hb];rcases List.mem_cons.mp h with z | z
   ·exact absurd z e
   ·exact kC z
structure Nv (K:W.Frag) (C:Addr):Prop where
 cl:Cls K C
 nA:NoAttr K C "amounts"
structure BookAt (C:Addr) (H:Hp) (p:Addr) (prs:List (Str × Int)):Prop where
 ex:∃dx d,H p=some (.ins C dx [("amounts",.ref d)])/\H d=some (.dK (lZ prs))
 nd:(prs.map (·.1)).Nodup
theorem BookAt.same {C:Addr} {H H':Hp} {p:Addr} {prs:List (Str × Int)} (B:BookAt C H p prs) (s:Same H H'):BookAt C H' p prs:=by
 obtain⟨dx,d,h1,h2⟩:=B.ex
 exact⟨⟨dx,d,s _ _ h1,s _ _ h2⟩,B.nd⟩
def Rx (H:Hp) (r:V) (prs:List (Str × Int)):Prop:=(r=.non/\prs=[])∨∃l zs,r=.ref l/\H l=some (.lst (dS zs))/\ZAt H zs/\zs.map (·.2)=prs
def gY (C:Addr):Sp:=fun vs H Q _=>∃(p:Addr) (n:Str) (prs:List (Str × Int)),vs=[.ref p,.str n]/\BookAt C H p prs/\Q (.int (cD prs n)) H
def uW (C:Addr):Sp:=fun vs H Q _=>∃(p:Addr) (prs:List (Str × Int)),vs=[.ref p]/\BookAt C H p prs/\prs.length<64 ∧
 ∀(l:Addr) (zs:List Z) (H':Hp),Same H H'->H l=none->H' l=some (.lst (dS zs))->ZAt H' zs->zs.map (·.2)=Gi prs->Q (.ref l) H'
def wz (zs:List Z):List W:=zs.map fun z=>(z.1,Sum.inr z.2.1,V.int z.2.2)
theorem Ry (zs:List Z):((wz zs).map fun z=>V.ref z.1)=dS zs:=by
 unfold wz dS;rw[List.map_map];rfl
theorem Vw {H:Hp} {zs:List Z} (h:ZAt H zs):Vt H (wz zs):=fun z hz=>by
 obtain⟨y,hy,rfl⟩:=Zmm.mp hz
 exact h y hy
theorem Rz (zs:List Z):(wz zs).map (·.2)=lZ (zs.map (·.2)):=by
 unfold wz lZ;rw[List.map_map,List.map_map];rfl
theorem Xv (y:V):bG "amounts" y []=[(("amounts":Str),y)]:=rfl
theorem Xw (x y:V):bG "amounts" y [(("amounts":Str),x)]=[(("amounts":Str),y)]:=by
 unfold bG;rw[if_pos rfl]
theorem eS (y:V):([(("amounts":Str),y)]:List (Str × V)).lookup ("amounts":Str)=some y:=by
 rw[List.lookup_cons];simp
theorem tG {m:Str} (y:V) (h:(m == ("amounts":Str))=false):([(("amounts":Str),y)]:List (Str × V)).lookup m=none:=by
 rw[List.lookup_cons,h];rfl
end L2
namespace L2
open PySem PySem.Spec PyProof.Rows
inductive DW (one other nm:Str) (n:Int):Str->List V->List (Str × Int)->List (Str × List V)->Prop
 | add:DW one other nm n "add" [.str "add",.str nm,.int n] [(nm,n)] []
 | take:DW one other nm n "take" [.str "take",.str nm,.int n] [(nm,-n)] []
 | move:DW one other nm n "move" [.str "move",.str one,.str other,.int n] [(one,-n),(other,n)] []
 | send:DW one other nm n "send" [.str "send",.str one,.str nm,.int n] [(nm,-n)] [(one,[.str "add",.str nm,.int n])]
 | fetch:DW one other nm n "fetch" [.str "fetch",.str one,.str nm,.int n] [(nm,n)] [(one,[.str "take",.str nm,.int n])]
 | pass:DW one other nm n "pass" [.str "pass",.str one,.str other,.str nm,.int n] [] [(one,[.str "take",.str nm,.int n]),(other,[.str "add",.str nm,.int n])]
structure Vx (wd:Str) (xs:List V) (cs:List (Str × Int)) (as:List (Str × List V)):Prop where
 ex:∃one other nm n,DW one other nm n wd xs cs as
def Vy (H:Hp) (q:Str × List V) (v:V):Prop:=∃a d,v=.ref a/\H a=some (.tup [.str q.1,.ref d])/\H d=some (.tup q.2)
def mF:Sp:=fun vs H Q _=>∃p wd xs cs as,vs=[.ref p]/\H p=some (.tup xs)/\Vx wd xs cs as/\∀t zs H',Same H H'->H' t=some (.tup (dS zs))->ZAt H' zs->zs.map (·.2)=cs->Q (.ref t) H'
def xP:Sp:=fun vs H Q _=>∃p wd xs cs as,vs=[.ref p]/\H p=some (.tup xs)/\Vx wd xs cs as/\∀t us H',Same H H'->H' t=some (.tup us)->Paired (Vy H') as us->Q (.ref t) H'
abbrev tS (z:Str):TV:=.sc (.str z)
abbrev tI (n:Int):TV:=.sc (.int n)
def Xx (f:Str->Int) (cs:List (Str × Int)):List V:=.str "is"::cs.map fun q=>V.int (f q.1+q.2)
def qW (C:Addr):Sp:=fun vs H Q _=>∃b p wd xs cs as prs,vs=[.ref b,.ref p]/\BookAt C H b prs/\H p=some (.tup xs)/\Vx wd xs cs as/\∀t H',Same H H'->H' t=some (.tup (Xx (cD prs) cs))->Q (.ref t) H'
def gZ (f:Str->Int) (last:TV):List (Str × Int)->TV
 | []=>last
 | q::r=>if q.2<0/\f q.1+q.2<0 then .tp [tS "short",tI (f q.1)] else if 0<q.2/\1000000000000<f q.1+q.2 then .tp [tS "full",tI (f q.1)] else gZ f last r
theorem uX (f:Str->Int) (last:TV) (q:Str × Int) (r:List (Str × Int)):gZ f last (q::r)=if q.2<0/\f q.1+q.2<0 then .tp [tS "short",tI (f q.1)] else if 0<q.2/\1000000000000<f q.1+q.2 then .tp [tS "full",tI (f q.1)] else gZ f last r:=rfl
def kZ (f:Str->Int) (cs:List (Str × Int)) (as:List (Str × List V)):TV:=if as=[] then .tp ((Xx f cs).map .sc) else .sc .non
def zO (C:Addr):Sp:=fun vs H Q _=>∃b p wd xs cs as prs,vs=[.ref b,.ref p]/\BookAt C H b prs/\H p=some (.tup xs)/\Vx wd xs cs as/\∀v H',Same H H'->RepT H' 1 (gZ (cD prs) (kZ (cD prs) cs as) cs) v->Q v H'
theorem zP {H:Hp} {n:Nat}:∀ {xs:List V},(∀y∈xs,kW y=true)->Paired (RepT H n) (xs.map TV.sc) xs
 | [],_=>.nil
 | y::r,h=>.cons (RepT.scal (h y pR)) (zP fun z m=>h z (jM _ m))
theorem Sa (f:Str->Int) (cs:List (Str × Int)):∀y∈Xx f cs,kW y=true:=fun y hy=>by
 rcases List.mem_cons.mp hy with rfl | h
 ·rfl
 ·obtain⟨q,_,rfl⟩:=Zmm.mp h
  rfl
end L2
namespace L2
open PySem PySem.Spec PyProof.Rows
section
variable {X:Cx} {pins:List (Addr × Obj)} {σ:List (Option V)} {H:Hp} {s:Shared} {h':Heap}
theorem Inv.turnLaid {t':Nat} {ch:List Addr} {a:Addr} {o:HO} (I:Inv X pins σ H s) (hf:∀b∈ch,lP X pins H b) (k:∀b u,b∉ch->s.heap.get? b=some u->h'.get? b=some u) (hp:s.heap.objs.size<=a) (new:ObjOk X.prog X.w (aH H a o) h' a o) :
  Inv X pins σ (aH H a o) {s with heap:=h',toks:=t' }:=by
 have hn:=I.hok.fresh hp
 have nch:∀b u,H b=some u->b∉ch:=fun b u e z=>by rw[(hf b z).1]at e;cases e
 refine I.step (g':=s.gens) (d':=s.drawn) (ch:=ch) (fun b hb=>⟨(hf b hb).2.2.2.1,(hf b hb).2.1,(hf b hb).2.2.2.2.1,(hf b hb).2.2.2.2.2⟩) (fun b u _ _ hc e _=>k b u hc e) (fun b u _ _ hc e _=>⟨u.slots,k b u hc e⟩)
  (fun b u _ e n=>by rw[aD (Nat.ne_of_lt (Nat.lt_of_lt_of_le (Heap.lt_size e) hp))];exact n) (fun b u hc e=>⟨u,k b u hc e⟩) (fun b xs e=>by rw[aD (aE e hn)];exact e) (fun b v u e=>by rw[aD (aE e hn)];exact e)
  (fun b ps e=>⟨#[],by rw[aD (aE e hn),e];simp⟩) (fun m hm=>?_) (fun b u e=>?_) I.bare
 ·obtain⟨u,es,ep,ho,r⟩:=hm
  exact⟨u,es,ep,k _ u (fun z=>(hf _ z).2.1 rfl) ho,r⟩
 ·by_cases hb:b=a
  ·subst hb;rw[aA]at e;cases e;exact new
  ·rw[aD hb]at e;refine(I.hok b u e).stay (fun c v hc q=>k c v ?_ q) (fun c q=>by rw[aD (aE q hn)];exact q) fun c xs q=>by rw[aD (aE q hn)];exact q
   rcases hc with z | z
   ·rw[z];exact nch b u e
   ·exact nch c _ z
theorem Inv.turnL {t':Nat} {ch:List Addr} (I:Inv X pins σ H s) (hf:∀b∈ch,lP X pins H b) (k:∀b u,b∉ch->s.heap.get? b=some u->h'.get? b=some u):Inv X pins σ H {s with heap:=h',toks:=t' }:=by
 have nch:∀b u,H b=some u->b∉ch:=fun b u e z=>by rw[(hf b z).1]at e;cases e
 refine I.step (g':=s.gens) (d':=s.drawn) (ch:=ch) (fun b hb=>⟨(hf b hb).2.2.2.1,(hf b hb).2.1,(hf b hb).2.2.2.2.1,(hf b hb).2.2.2.2.2⟩) (fun b u _ _ hc e _=>k b u hc e) (fun b u _ _ hc e _=>⟨u.slots,k b u hc e⟩)
  (fun _ _ _ _ n=>n) (fun b u hc e=>⟨u,k b u hc e⟩) (fun _ _ e=>e) (fun _ _ _ e=>e) (fun b ps e=>⟨#[],by rw[e];simp⟩) (fun m hm=>?_) (fun b u e=>?_) I.bare
 ·obtain⟨u,es,ep,ho,r⟩:=hm
  exact⟨u,es,ep,k _ u (fun z=>(hf _ z).2.1 rfl) ho,r⟩
 ·refine(I.hok b u e).stay (fun c v hc q=>k c v ?_ q) (fun _ q=>q) fun _ _ q=>q
  rcases hc with z | z
  ·rw[z];exact nch b u e
  ·exact nch c _ z
end
end L2
namespace L2
open PySem PySem.Spec PyProof.Rows
section
variable {X:Cx}
theorem Bv (A:Around):A.in1.units=A.units+1:=rfl
def fH (xs ys:List V):Bool:=(List.range (min xs.length ys.length)).all (fun j=>uH (xs.getD j .non) (ys.getD j .non))&&xs.length == ys.length
def Sb (neg:Bool):R2:=fun x y H Q=>mR x fun a=>mR y fun b=>∃xs ys,H a=some (.tup xs)/\H b=some (.tup ys)/\(∀(j:Nat) (u v:V),xs[j]?=some u->ys[j]?=some v->eN u=true/\eN v=true)/\Q (.bl (if neg then !fH xs ys else fH xs ys)) H
theorem Sc (neg:Bool) (hu:X.A.units+64<cLine):OpR X (compareOp (if neg then .NotEq else .Eq)) (Sb neg):=by
 intro pins s σ H x y v u Q I rx ry h;unfold Sb at h;rw[cC]at h;obtain⟨a,rfl,h⟩:=h
 rw[cC]at h;obtain⟨b,rfl,xs,ys,g1,g2,fl,q⟩:=h
 cases rx
 cases ry
 obtain⟨its,ri,ti,_⟩:=I.tuple (SqT.of g1)
 obtain⟨its2,ri2,ti2,_⟩:=I.tuple (SqT.of g2)
 have el1:its.length=xs.length:=ri.length.symm
 have el2:its2.length=ys.length:=ri2.length.symm
 have each:∀j (h1:j<its.toArray.size) (h2:j<its2.toArray.size),SeqAt.EqAt X.A.in1 s its.toArray[j] its2.toArray[j] (uH (xs.getD j .non) (ys.getD j .non)):=fun j h1 h2=>by
  rw[dF]at h1 h2;obtain⟨h1',q1⟩:=Paired.get' (j:=j) ri h1
  obtain⟨h2',q2⟩:=Paired.get' (j:=j) ri2 h2
  obtain⟨f1,f2⟩:=fl j xs[j] ys[j] (lO h1') (lO h2')
  have e1:xs.getD j .non=xs[j]:=by simp [List.getD,h1']
  have e2:ys.getD j .non=ys[j]:=by simp [List.getD,h2']
  rw[e1,e2];simpa using wX q1 q2 f1 f2
 have e:((List.range (min its.toArray.size its2.toArray.size)).all (fun j=>uH (xs.getD j .non) (ys.getD j .non))&&its.toArray.size == its2.toArray.size)=fH xs ys:=by
  rw[dF,dF,el1,el2];rfl
 cases neg with
 | true=>
  have key:=SeqAt.RcNeAt.tuples (A:=X.A) (s:=s) ti ti2 Zo each
  rw[e]at key;exact key _ _ _ _ ⟨.bl _,H,I,rfl,q⟩
 | false=>
  have key:=SeqAt.RcAt.tuples (A:=X.A) (s:=s) ti ti2 Zo each
  rw[e]at key;exact key _ _ _ _ ⟨.bl _,H,I,rfl,q⟩
theorem R.cy (hu:X.A.units+64<cLine):gU X (compareOp .Eq) (Sb false):=⟨Sc false hu⟩
end
end L2
namespace L2
open PySem PySem.Spec PyProof.Rows
section
variable {X:Cx} {o:Expr} {to:TE} {p pos apos cpos:Pos}
def Nw:Au:=fun o i v H Q=>∃a H',o=.ref a/\DPut H a i v H'/\Q H'
theorem Gj (hu:X.A.units+1<cLine):Jl X Nw:=by
 intro pins s σ H o i v ov iv u Q I ro ri rv h;obtain⟨a,H',rfl,g,q⟩:=h
 cases ro
 exact Bi hu I g ri rv fun s' I'=>⟨H',I',q⟩
theorem R.cc (hu:X.A.units+1<cLine):Rm X Nw:=⟨Gj hu⟩
end
end L2
namespace L2
open PySem PySem.Spec PyProof.Rows
def Gk (prs:List (Str × Int)) (n:Str) (v:Int):List (Str × Int):=prs.map fun q=>if q.1=n then (q.1,v) else q
theorem Bw (prs:List (Str × Int)) (n:Str) (v:Int):(Gk prs n v).map (·.1)=prs.map (·.1):=by
 unfold Gk;rw[List.map_map];refine List.map_congr_left fun q _=>?_
 show(if q.1=n then (q.1,v) else q).1=q.1
 split <;> rfl
theorem Lq {prs:List (Str × Int)} {n:Str} {v:Int} (h:n∈prs.map (·.1)):bF (lZ prs) (Sum.inr n) (.int v)=lZ (Gk prs n v):=by
 unfold bF;rw[if_pos (by rw[cB,oG];obtain⟨a,ha⟩:=kC h;rw[ha];rfl)]
 unfold lZ Gk;rw[List.map_map,List.map_map];refine List.map_congr_left fun q _=>?_
 show(if (Sum.inr q.1:aZ)=Sum.inr n then (Sum.inr q.1,V.int v) else ((Sum.inr q.1:aZ),V.int q.2))=((Sum.inr (if q.1=n then (q.1,v) else q).1:aZ),V.int (if q.1=n then (q.1,v) else q).2)
 by_cases e:q.1=n
 ·rw[if_pos (by rw[e]),if_pos e]
 ·rw[if_neg (fun z=>e (Sum.inr.inj z)),if_neg e]
def tH (C:Addr):Sp:=fun vs H Q _=>∃(p dx:Addr) (r:V) (prs:List (Str × Int)),vs=[.ref p,r]/\H p=some (.ins C dx [])/\Rx H r prs/\(prs.map (·.1)).Nodup/\prs.length<=1000 ∧
 ∀H' d,H d=none->H' p=some (.ins C dx [("amounts",.ref d)])->H' d=some (.dK (lZ prs))->(∀b o,H b=some o->b≠p->H' b=some o)->Q .non H'
end L2
namespace L2
open PySem PySem.Spec PyProof.Rows
section
variable {X:Cx}
def Gm (i j:Int):Prop:=0<j/\j<2 ^ 64
theorem Lr:OpR X (binaryOp .FloorDiv) (m2 Gm fun i j=>.int (i / j)):=(Wj (C:=Gm) (g:=fun i j=>i / j) fun i j _ _ s Q E hc q=>by
 have h1:i.fdiv j=i / j:=Int.fdiv_eq_ediv_of_nonneg _ (by have:=hc.1;omega)
 refine floordiv_int (by have:=hc.1;omega) (by rw[h1];exact q) (.inl (PyProof.noPylong_of_log2 ?_))
 have h2:j.natAbs<2 ^ 64:=by have:=hc.1;have:=hc.2;omega
 exact Nat.lt_of_lt_of_le (Nat.log2_lt (by have:=hc.1;omega) |>.mpr h2) Zd).imp sV
theorem R.dz:gU X (binaryOp .FloorDiv) (m2 Gm fun i j=>.int (i / j)):=⟨Lr⟩
end
def Xy:List Nat:=LET++Np
def isKy (z:Str):Prop:=1<=z.length/\z.length<=12/\∀c∈z.cps.toList,c∈Xy
end L2
namespace L2
open PySem PySem.Spec PyProof.Rows
def Tk (K:W.Frag) (a:Addr):It:=
  ⟨fun i H=>∃xs x,SqL K H a xs/\xs[i]?=some x,
   fun i H v H'=>∃t x,H t=none/\v=.ref t/\H'=aH H t (.tup [.int i,x])/\∀xs,SqL K H a xs->xs[i]?=some x,
   fun i H=>∃xs,SqL K H a xs/\xs.length<=i⟩
structure Yo (h:Heap) (e it a:Addr) (i:Nat):Prop where
 e:∃old,IsEnum h e it i old
 i:h.IsListIter it a i
theorem Bx {P:Program} {w:World} {K:W.Frag} {es:List Expr} {n:Nat} {pos:Pos} {e it a:Addr} (hne:e≠it) (hea:a≠e) (hia:a≠it) :
  rO P w K (.Tuple es n pos) (Tk K a) [e,it] e (fun i h=>Yo h e it a i) where
 mem:=by simp
 obj:=fun i h st b hb=>by
  obtain⟨old,he⟩:=st.e
  obtain⟨o1,e1,_,d1⟩:=st.i
  simp only [List.mem_cons,List.not_mem_nil,or_false]at hb
  rcases hb with rfl | rfl
  ·exact⟨_,he,fun v q=>by have q':Data.fields _=Data.cell v:=q;cases q'⟩
  ·exact⟨_,e1,fun v q=>by rw[d1]at q;cases q⟩
 keep:=fun i h h' st g=>by
  obtain⟨old,he⟩:=st.e
  obtain⟨o1,e1,r⟩:=st.i
  exact⟨⟨old,g e Zs _ he⟩,⟨o1,g it Zs _ e1,r⟩⟩
 item:=by
  intro X hP hw hK hc i pins s σ H E I hf st hg;subst hP hw hK;obtain⟨xs,x,hx,ex⟩:=hg
  obtain⟨its,rv,p,_⟩:=I.list hx
  obtain⟨u,hu,ru⟩:=rv.get ex
  obtain⟨old,he⟩:=st.e
  refine wpAny_pyNext_enum_item he st.i p.isList (by simpa using hu) hne fun h1 e1 i1 t1 z1 k1=>?_
  refine⟨_,rfl,?_⟩
  refine wpAny_letOwnedTupleGo_enum e1 fun h2 e2 b2=>?_
  have elt:e<s.heap.objs.size:=Heap.lt_size he
  have t2:h2.get? s.heap.objs.size=some {cls:=.type "tuple",data:=.seq #[.int i s.toks,u] }:=b2.extBut _ _ (Nat.ne_of_gt elt) t1
  refine⟨.ref s.heap.objs.size,aH H s.heap.objs.size (.tup [.int i,x]),I.turnLaid (t':=s.toks+1) hf (fun b o hb e'=>?_) (cA _) ⟨by show 2<=sizeLine;decide,[.int i s.toks,u],.cons ⟨_,rfl⟩ (.cons ru .nil),⟨_,t2,rfl,_,rfl⟩⟩,rfl,?_,?_,fun b hb=>?_⟩
  ·have hb':b≠e/\b≠it:=by simpa using hb
   exact b2.extBut _ _ hb'.1 (k1 b o hb'.1 hb'.2 e')
  ·exact⟨s.heap.objs.size,x,I.hok.fresh (cA _),rfl,rfl,fun zs hz=>by rw[I.list_inj hz hx];exact ex⟩
  ·obtain⟨o1,q1,r1⟩:=i1
   exact⟨⟨_,by simpa using e2⟩,⟨o1,b2.extBut _ _ hne.symm q1,r1⟩⟩
  ·have hlt:b<s.heap.objs.size:=by
    obtain⟨o1,q1,r1⟩:=st.i
    simp only [List.mem_cons,List.not_mem_nil,or_false]at hb
    rcases hb with rfl | rfl
    ·exact elt
    ·exact Heap.lt_size q1
   rw[aD (Nat.ne_of_lt hlt)];exact(hf b hb).1
 done:=by
  intro X hP hw hK hc i pins s σ H E I hf st hg;subst hP hw hK;obtain⟨xs,hx,hl⟩:=hg
  obtain⟨its,rv,p,_⟩:=I.list hx
  obtain⟨old,he⟩:=st.e
  have l1:=rv.length
  refine wpAny_pyNext_enum_end (I.ok.hd hc) he st.i p.isList (by simp;omega) fun h1 k1=>?_
  refine⟨rfl,I.turnL (t':=s.toks) hf fun b u hb e'=>?_⟩
  have hb':b≠e/\b≠it:=by simpa using hb
  exact k1 b u hb'.2 e'
 self:=fun _ _ _ _ _ st h=>by
  obtain⟨old,he⟩:=st.e
  exact wpAny_pyIter_enum he h
section
variable {X:Cx} {a b:Expr} {ta tb:TE} {p pos tpos:Pos} {es:List Expr} {n:Nat}
def Ny (K:W.Frag) (ta:TE):TI:=fun σ H R=>ta σ H fun x H1=>mR x fun a=>∃xs,SqL K H1 a xs/\R (Tk K a) H1
theorem Ls (hg:Gl X "enumerate") (hm:X.mg "enumerate"=none) (ha:PE X a ta) (h1:aM a=true):PI X (.Tuple es n tpos) (.Call (.Name "enumerate" p) [a] [] pos) (Ny X.K ta):=by
 intro pins s σ H R I h;have hs:starEach [a] X.env=[(false,eval a X.env)]:=by rw[bI h1];rfl
 have hA:PA X [a] (uD ta wQ):=Fi ha wR h1
 refine Call_ (oK I hg hm boot_enumerate (PyProof.Rows.callWith_type1 (bK (hA pos pins s σ H (fun vs H2=>match vs with | [x]=>(mR x fun a1=>∃xs,SqL X.K H2 a1 xs/\R (Tk X.K a1) H2) | _=>False) I ?_) fun us s1 ⟨vs,H1,I1,r1,q1⟩=>?_) (by rw[hs];rfl) rfl))
 ·exact h
 ·dsimp only at q1
  split at q1
  rotate_left
  ·exact q1.elim
  rename_i x
  rw[cC]at q1;obtain⟨a1,rfl,xs,q2,q⟩:=q1
  cases r1 with
  | cons r rr=>
   cases rr
   cases r
   obtain⟨its,rv,p1,_⟩:=I1.list q2
   refine call_enumerate_list p1.isList fun h' he hi hz k=>?_
   have I2:Inv X pins σ H1 {s1 with heap:=h' }:=I1.kept (t':=s1.toks) k
   have la:a1<s1.heap.objs.size:=by
    obtain⟨o,e',_⟩:=p1.isList
    exact Heap.lt_size e'
   refine wpAny_pyIter_enum (s:={s1 with heap:=h' }) he ?_
   refine⟨s1.heap.objs.size+1,_,_,_,H1,rfl,I2,Bx (Nat.ne_of_gt (Nat.lt_succ_self _)) (Nat.ne_of_lt (Nat.lt_succ_of_lt la)) (Nat.ne_of_lt la),⟨⟨_,he⟩,hi⟩,fun b hb=>?_,q⟩
   have hb':s1.heap.objs.size<=b:=by
    simp only [List.mem_cons,List.not_mem_nil,or_false]at hb
    rcases hb with rfl | rfl
    ·exact Nat.le_add_right _ 1
    ·exact cA _
   exact I1.fpOk hb' (I1.hok.fresh hb')
theorem R.ff {K:W.Frag} (hg:Gl X "enumerate") (hm:X.mg "enumerate"=none) (ha:XE X a ta) (hK:X.K=K:=by rfl) (h1:aM a=true:=by rfl):XI X (.Tuple es n tpos) (.Call (.Name "enumerate" p) [a] [] pos) (Ny K ta):=
 hK ▸ ⟨Ls hg hm ha.h h1⟩
end
theorem Gn {K:W.Frag} {a:Addr} {xs:List V} {g:TG} {tb:TS} {D:gK} {σ:St} {H:Hp} (Pv:Nat->St->Hp->Prop) (hA:∀i σ H,Pv i σ H->SqL K H a xs) (h0:Pv 0 σ H)
  (hs:∀(i:Nat) (x:V) σ H t,xs[i]?=some x->Pv i σ H->H t=none->g (.ref t) σ (aH H t (.tup [.int i,x])) fun σ2 H2=>tb {D with nx:=Pv (i+1),ct:=Pv (i+1),bk:=D.nx } σ2 H2) (hd:∀ σ H,Pv xs.length σ H->D.nx σ H) :
  ∃W:Nat->Nat->St->Hp->Prop,(∃m,W 0 m σ H)/\∀i m σ H,W i m σ H →
   ((Tk K a).stop i H/\D.nx σ H)∨((Tk K a).go i H/\∃N:St->Hp->Prop,(∀ σ' H',N σ' H'->∃m',m'<m/\W (i+1) m' σ' H')/\∀x H',(Tk K a).yld i H x H'->g x σ H' fun σ2 H2=>tb {D with nx:=N,ct:=N,bk:=D.nx } σ2 H2):=by
 refine⟨fun i m σ H=>m=xs.length - i/\i<=xs.length/\Pv i σ H,⟨_,rfl,Nat.zero_le _,h0⟩,?_⟩
 rintro i m σ H ⟨rfl,hi,p⟩
 have q1:=hA i σ H p
 by_cases hlt:i<xs.length
 ·refine .inr ⟨⟨xs,xs[i],q1,lO hlt⟩,Pv (i+1),fun σ' H' n=>⟨xs.length - (i+1),Zo,rfl,hlt,n⟩,?_⟩
  rintro v H' ⟨t,x,ht,rfl,rfl,e1⟩
  exact hs i x σ H t (e1 xs q1) p ht
 ·have:i=xs.length:=by omega
  subst this;exact .inl ⟨⟨xs,q1,cA _⟩,hd σ H p⟩
end L2
namespace L2
open PySem PySem.Spec PyProof.Rows
section
variable {X:Cx} {pins:List (Addr × Obj)} {σ:St} {H:Hp} {s:Shared} {a:Addr} {o:Obj} {kvs:List (aZ × V)}
def Nz (t:TS):TS:=fun D σ H=>t {nx:=fun σ' H2=>∃a kvs o,(∃kvs0,H a=some (.dK kvs0))/\H2 a=some (.frz o (.dK kvs))/\D.nx σ' (aH H2 a (.dK kvs)),rt:=fun _ _=>False } σ H
theorem Lu {e:Stmt} {t:TS} (he:PS X e t):PS X e (Nz t):=by
 intro pins s σ H D I h;refine bK (he pins s σ H _ I h) fun f s1 q=>?_
 cases f with
 | next=>
  obtain⟨σ',H2,I2,a,kvs,o,⟨kvs0,e0⟩,e2,q⟩:=q
  refine⟨σ',_,I2.thaw e2 (fun o' u' z=>?_),q⟩
  have:=I.base.frzs a o' u' z
  rw[e0]at this;cases this
 | brk=>obtain⟨_,_,_,q⟩:=q;exact q.elim
 | cont=>obtain⟨_,_,_,q⟩:=q;exact q.elim
 | ret u=>obtain⟨_,_,_,_,_,q⟩:=q;exact q.elim
end
namespace R
section
variable {X:Cx} {tg l:Expr} {tl:TE} {apos cpos:Pos} {e:Stmt} {t:TS}
theorem iq (h:XS X e t):XS X e (Nz t):=⟨Lu h.h⟩
end
end R
end L2
namespace L2
open PySem PySem.Spec PyProof.Rows
section
variable {prog:Program} {w:World} {K:Type} [DecidableEq K] {knd:HeapKind prog w K} {A:Around} {E:Value->Shared->Prop} {s:Shared} {d a:Addr} {k:K}
def pH (xs:List (K × Addr × Value)) (k:K):List (K × Addr × Value):=xs.filter fun x=>decide (x.1≠k)
theorem Go {xs:List (K × Addr × Value)} (h:k∉xs.map (·.1)):pH xs k=xs:=by
 unfold pH;rw[List.filter_eq_self];intro x hx;exact decide_eq_true fun e=>h (Zmm.mpr ⟨x,hx,e⟩)
theorem nI:∀ {xs:List (K × Addr × Value)} {j:Nat} {p:Addr × Value},(xs.map (·.1)).Nodup->xs[j]?=some (k,p)->pH xs k=xs.eraseIdx j
 | [],j,p,_,h=>by simp at h
 | x::r,0,p,hn,h=>by
  rw[List.map_cons,List.nodup_cons]at hn;have hx:x=(k,p):=by simpa using h
  subst hx;show List.filter _ _=r
  rw[List.filter_cons_of_neg Zs]
  exact Go hn.1
 | x::r,j+1,p,hn,h=>by
  rw[List.map_cons,List.nodup_cons]at hn;have h':r[j]?=some (k,p):=by simpa using h
  have hne:x.1≠k:=fun e=>hn.1 (e ▸ Zmm.mpr ⟨(k,p),kK h',rfl⟩)
  show List.filter _ _=x::r.eraseIdx j
  rw[List.filter_cons_of_pos (by simpa using hne),<- nI hn.2 h']
  rfl
theorem jS {α β:Type} (f:α->β):∀(l:List α) (i:Nat),(l.map f).eraseIdx i=(l.eraseIdx i).map f
 | [],_=>rfl
 | _::_,0=>rfl
 | x::r,i+1=>by rw[List.map_cons,List.eraseIdx_cons_succ,List.eraseIdx_cons_succ,List.map_cons,jS f r i]
theorem hJ {xs:List (K × Addr × Value)} {Q:Option DictEntry->Shared->Prop} (hu:knd.room A) (hkey:knd.is s.heap k a) (hm:s.heap.DictOfH knd d xs)
  (hnone:atKey xs k=none->Q none {s with toks:=s.toks+knd.draws k })
  (hsome:∀e p,atKey xs k=some p->e.val=p.2->∀h',h'.DictOfH knd d (pH xs k)->Heap.SameBut d s.heap h'->Q (some e) {s with heap:=h',toks:=s.toks+knd.draws k })
  (hsz:xs.length<=sizeLine):wpAny (model prog w) A (Builtin.Dict.takeOut d (.ref a)) Q E s:=by
 obtain⟨o,es,ep,ho,hc,hd,he,his,hn⟩:=hm
 unfold Builtin.Dict.takeOut;try with_reducible refine wpAny_holding ?_
 refine wpAny_bind (knd.pyHash hu hkey ?_)
 refine wpAny_bind (wpAny_dictFind_heap (s:={s with toks:=s.toks+knd.draws k }) hu hkey ho hd he his hn ?_ ?_)
 ·intro hno;exact wpAny_pure (hnone (atKey_none_of_get hno))
 ·intro j p hj;refine wpAny_bind (wpAny_dictEntries (s:={s with toks:=s.toks+knd.draws k }) ho hd ?_)
  rw[entry_at he j,hj];refine wpAny_bind (wpAny_updateDictKeys (hz:=by have e:=size_of_entries he;omega) (s:={s with toks:=s.toks+knd.draws k }) ho hd (wpAny_pure (hsome _ p (atKey_of_get hn hj) rfl _ ⟨_,_,ep+1,Heap.get?_update_self _ ho (Obj.isFreed_of_dict (Obj.data_mapDictKeys hd _)),
   hc.mapDictKeys _,Obj.data_mapDictKeys hd _,?_,?_,?_⟩ (Heap.SameBut.update ..))))
  ·rw[nI hn hj,<- jS,<- he];obtain⟨l⟩:=es
   simp
  ·intro x hx;exact knd.keeps (his x (List.mem_filter.mp hx).1) ho hd (Heap.SameBut.update ..)
  ·exact List.Nodup.sublist (List.Sublist.map _ List.filter_sublist) hn
variable (knd)
theorem iH (hd:(d == sysModules)=false) (rest:List Value) (hrest:rest=[]∨∃dflt,rest=[dflt]) :
    MeetsIn prog w (Builtin.«dict.pop» ⟨.ref d::.ref a::rest,[]⟩) (fun A R s=>knd.room A.in1/\∃k xs,knd.is s.heap k a/\s.heap.DictOfH knd d xs/\xs.length<=sizeLine ∧
      ((∃p,atKey xs k=some p/\∀h' t',h'.DictOfH knd d (pH xs k)->Heap.SameBut d s.heap h'->R (.ok (.ret p.2)) {s with heap:=h',toks:=t' })∨
       (∃x,rest=[x]/\atKey xs k=none/\∀t',R (.ok (.ret x)) {s with toks:=t' }))):=
  .of_wp fun A R s ⟨hu,k,xs,hkey,hm,hsz,h⟩=>by
    have hm':=hm
    obtain⟨o,es,ep,ho,hc,hdd,he,his,hn⟩:=hm'
    unfold Builtin.«dict.pop»
    refine wpAny_bind ?_
    unfold Builtin.Dict.keyAndDefault;refine wpAny_bind (wpAny_notOrdered_dict hm.typeIs ?_)
    have hsz':es.size=xs.length:=size_of_entries he
    rcases hrest with rfl | ⟨dflt,rfl⟩
    . obtain⟨p,hp,h⟩ | ⟨x,hx,_⟩:=h
      . show wpAny _ _ (pure (d,Value.ref a,none)) _ _ s
        refine wpAny_pure ?_
        have hE:es.isEmpty=false:=by
          cases xs with
          | nil=>cases hp
          | cons x r=>rw[Array.isEmpty_eq_false_iff];intro e;rw[e]at hsz';simp at hsz'
        simp only [keyPart,Option.isSome_none,Bool.false_eq_true,if_false]
        refine wpAny_bind (wpAny_dictEntries ho hdd (wpAny_bind (wpAny_pure ?_)))
        rw[hE];simp only [Bool.false_eq_true,if_false]
        refine wpAny_bind (hJ hu hkey hm (fun hn=>by rw[hn]at hp;cases hp) (fun e p' hp' hv h' d' hs=>?_) hsz)
        rw[hp]at hp';cases hp'
        simp only [Option.isNone_some,Bool.false_eq_true,if_false]
        exact wpAny_bind (wpAny_letGo (wpAny_pure ⟨e.val,rfl,by rw[hv];exact h h' _ d' hs⟩))
      . cases hx
    . show wpAny _ _ (pure (d,Value.ref a,some dflt)) _ _ s
      refine wpAny_pure ?_
      simp only [keyPart,Option.isSome_none,Bool.false_eq_true,if_false]
      refine wpAny_bind (wpAny_dictEntries ho hdd (wpAny_bind (wpAny_pure ?_)))
      obtain⟨p,hp,h⟩ | ⟨x,hx,hno,h⟩:=h
      . have hE:es.isEmpty=false:=by
          cases xs with
          | nil=>cases hp
          | cons x r=>rw[Array.isEmpty_eq_false_iff];intro e;rw[e]at hsz';simp at hsz'
        rw[hE];simp only [Bool.false_eq_true,if_false]
        refine wpAny_bind (hJ hu hkey hm (fun hn=>by rw[hn]at hp;cases hp) (fun e p' hp' hv h' d' hs=>?_) hsz)
        rw[hp]at hp';cases hp'
        simp only [Option.isNone_some,Bool.false_eq_true,if_false]
        exact wpAny_bind (wpAny_letGo (wpAny_pure ⟨e.val,rfl,by rw[hv];exact h h' _ d' hs⟩))
      . cases hx
        cases hE:es.isEmpty with
        | true=>
          simp only [if_true]
          refine wpAny_bind (wpAny_rule (wpAny_bind (wpAny_pure ?_)))
          simp only [Option.isNone_none,if_true]
          refine wpAny_bind (wpAny_missedRemoval_other hd ?_)
          exact wpAny_bind (wpAny_rule (wpAny_pure ⟨dflt,rfl,h s.toks⟩))
        | false=>
          simp only [Bool.false_eq_true,if_false]
          refine wpAny_bind (hJ hu hkey hm (fun hn=>?_) (fun e p' hp' hv h' d' hs=>by rw[hno]at hp';cases hp') hsz)
          simp only [Option.isNone_none,if_true]
          refine wpAny_bind (wpAny_missedRemoval_other hd ?_)
          exact wpAny_bind (wpAny_rule (wpAny_pure ⟨dflt,rfl,h _⟩))
end
section
variable {X:Cx} {pins:List (Addr × Obj)} {σ:St} {H:Hp} {s:Shared} {a b:Addr} {kvs:List (List aZ × V)} {k:List aZ} {A:Around} {E:Value->Shared->Prop}
theorem KT.drop {kvs:List (List aZ × V)} {xs:List (List aZ × Addr × Value)} (r:KT H kvs xs) (k:List aZ):KT H (bV kvs k) (pH xs k):=by
 induction r with
 | nil=>exact .nil
 | @cons p q ps qs h t ih=>
  unfold bV pH;by_cases e:p.1=k
  ·rw[List.filter_cons_of_neg (by simpa using e),List.filter_cons_of_neg (by rw[<- h.1];simpa using e)]
   exact ih
  ·rw[List.filter_cons_of_pos (by simpa using e),List.filter_cons_of_pos (by rw[<- h.1];simpa using e)]
   exact .cons h ih
theorem Gp {v:V} {more:List Value} {Q:Value->Shared->Prop} (hu:A.units+1<cLine) (I:Inv X pins σ H s) (e:H a=some (.dT kvs)) (eb:H b=some (.tup (k.map kV))) (l:aX kvs k=some v) (hm:more=[]∨∃x,more=[x])
  (h:∀w' s',Inv X pins σ (aH H a (.dT (bV kvs k))) s'->RelV v w'->Q w' s'):wpAny (model X.prog X.w) A (call (.builtin "dict.pop") (.ref a::.ref b::more)) Q E s:=by
 obtain⟨z,hd,xs,rel,dd⟩:=Ej I.hok e
 obtain⟨w',hw,rw'⟩:=RelO.some_of (v:=v) (o:=(atKey xs k).map (·.2)) (by rw[<- l];exact rel.val k)
 obtain⟨p,hp,rfl⟩:=Option.map_eq_some_iff.mp hw
 have ha:argsOk "dict.pop" ⟨.ref a::.ref b::more,[]⟩:=by
  rcases hm with q | ⟨x,q⟩
  ·subst q;exact PySem.F.args_dict_pop_2 _ _
  ·subst q;exact PySem.F.args_dict_pop_3 _ _ _
 refine call_meetsIn PySem.F.slot_dict_pop dd.typeIs PySem.F.entry_dict_pop ha (iH (tupleKind (aS X.prog X.w)) hd more hm)
  ⟨tupleKind_room_in1 hu,k,xs,iR I.hok eb,dd,by rw[<- Paired.length rel];exact z,.inl ⟨p,hp,fun h' t' dd' hs=>h _ _ ?_ rw'⟩⟩
 obtain⟨q,es,ep,hq,h2,h3,h4,_,h5⟩:=dd'
 refine kQ I (by rw[e];exact True.intro) hs ⟨q,hq⟩ ⟨fU (kO kvs k) z,hd,_,(rel.drop k).keeps fun c ys ec=>?_,q,es,ep,hq,h2,h3,h4,h5⟩
 rw[aD (aK ec e (fun z=>nomatch z))]
 exact ec
theorem Lv {r:Value} {Q:Value->Shared->Prop} (hu:A.units+1<cLine) (I:Inv X pins σ H s) (e:H a=some (.dT kvs)) (eb:H b=some (.tup (k.map kV))) (l:aX kvs k=none) (h:∀s',Inv X pins σ H s'->Q r s') :
  wpAny (model X.prog X.w) A (call (.builtin "dict.pop") [.ref a,.ref b,r]) Q E s:=by
 obtain⟨z,hd,xs,rel,dd⟩:=Ej I.hok e
 have hn:(atKey xs k).map (·.2)=none:=RelO.none_of (by rw[<- l];exact rel.val k)
 have hn':atKey xs k=none:=by
  cases q:atKey xs k with
  | none=>rfl
  | some p=>rw[q]at hn;cases hn
 exact call_meetsIn PySem.F.slot_dict_pop dd.typeIs PySem.F.entry_dict_pop (PySem.F.args_dict_pop_3 _ _ _) (iH (tupleKind (aS X.prog X.w)) hd [r] (.inr ⟨r,rfl⟩))
  ⟨tupleKind_room_in1 hu,k,xs,iR I.hok eb,dd,by rw[<- Paired.length rel];exact z,.inr ⟨r,rfl,hn',fun t'=>h _ (I.tok _)⟩⟩
end
def zQ (td ty:TE):TE:=fun σ H Q=>td σ H fun x H1=>∃a,x=.ref a/\Ul H1 a/\ty σ H1 fun y H2=>∃kvs k b v,H2 a=some (.dT kvs)/\y=.ref b/\H2 b=some (.tup (k.map kV))/\aX kvs k=some v/\Q v (aH H2 a (.dT (bV kvs k)))
def zR (td ty tx:TE):TE:=fun σ H Q=>td σ H fun x H1=>∃a,x=.ref a/\Ul H1 a/\ty σ H1 fun y H2=>tx σ H2 fun z H3=>∃kvs k b,H3 a=some (.dT kvs)/\y=.ref b/\H3 b=some (.tup (k.map kV)) ∧
 (∀v,aX kvs k=some v->Q v (aH H3 a (.dT (bV kvs k))))/\(aX kvs k=none->Q z H3)
section
variable {X:Cx} {o e f:Expr} {apos cpos:Pos} {td ty tx:TE}
theorem By (hu:X.A.units+1<cLine) (ho:PE X o td) (he:PE X e ty) (m:M1 X o "pop" apos e cpos):PE X (.Call (.Attribute o "pop" apos) [e] [] cpos) (zQ td ty):=by
 intro pins s σ H Q I h;refine wpAny_Call_method m.base m.few m.line PySem.F.plainAttrs_dict PySem.F.slot_dict_pop PySem.F.type_dict_pop (bK (ho pins s σ H _ I h) fun u s1 ⟨x,H1,I1,rx,a,ex,d,q1⟩=>?_)
 subst ex;obtain rfl:u=Value.ref a:=rx
 obtain⟨t1,t2,_⟩:=sP I1 d
 refine⟨t1,t2,?_⟩
 rw[m.trees];refine Calls.callWith_builtin rfl (Calls.evalArgs_plain (Calls.spliced_cons (bK (he pins s1 σ H1 _ I1 q1) fun iv s2 ⟨y,H2,I2,ry,kvs,k,b,v,ea,ey,eb,l,q2⟩=>Calls.spliced_nil ?_)))
 subst ey;obtain rfl:iv=Value.ref b:=ry
 exact Gp hu I2 ea eb l (.inl rfl) fun w' s3 I3 rw'=>⟨v,_,I3,rw',q2⟩
theorem Bz (hu:X.A.units+1<cLine) (ho:PE X o td) (he:PE X e ty) (hf:PE X f tx) (m:M2 X o "pop" apos e f cpos):PE X (.Call (.Attribute o "pop" apos) [e,f] [] cpos) (zR td ty tx):=by
 intro pins s σ H Q I h;refine wpAny_Call_method m.base m.few m.line PySem.F.plainAttrs_dict PySem.F.slot_dict_pop PySem.F.type_dict_pop (bK (ho pins s σ H _ I h) fun u s1 ⟨x,H1,I1,rx,a,ex,d,q1⟩=>?_)
 subst ex;obtain rfl:u=Value.ref a:=rx
 obtain⟨t1,t2,_⟩:=sP I1 d
 refine⟨t1,t2,?_⟩
 rw[m.trees];refine Calls.callWith_builtin rfl (Calls.evalArgs_plain (Calls.spliced_cons (bK (he pins s1 σ H1 _ I1 q1) fun iv s2 ⟨y,H2,I2,ry,q2⟩=>
  Calls.spliced_cons (bK (hf pins s2 σ H2 _ I2 q2) fun fv s3 ⟨z,H3,I3,rz,kvs,k,b,ea,ey,eb,q3,q4⟩=>Calls.spliced_nil ?_))))
 subst ey;obtain rfl:iv=Value.ref b:=ry
 cases l:aX kvs k with
 | some v=>exact Gp hu I3 ea eb l (.inr ⟨fv,rfl⟩) fun w' s4 I4 rw'=>⟨v,_,I4,rw',q3 v l⟩
 | none=>exact Lv hu I3 ea eb l fun s4 I4=>⟨z,H3,I4,rz,q4 l⟩
theorem R.fg (hu:X.A.units+1<cLine) (ho:XE X o td) (he:XE X e ty) (h1:attributeBase o "pop" X.env (eval o X.env)=eval o X.env:=by rfl) (h3:(apos.endLine == cpos.line)=true:=by rfl)
  (h2:((backTo cpos (starEach [e] X.env)).all (fun x=>!x.1)&&(backToKw cpos (keywordEach [] X.env)).all (fun x=>x.1.isSome)
  && decide (([e]:List Expr).length+([]:List Keyword).length+(if ([]:List Keyword).isEmpty then 0 else 1)<30))=true:=by rfl)
  (h4:backTo cpos (starEach [e] X.env)=[(false,eval e X.env)]:=by rfl):XE X (.Call (.Attribute o "pop" apos) [e] [] cpos) (zQ td ty):=⟨By hu ho.h he.h ⟨h1,h2,h3,h4⟩⟩
theorem R.fh (hu:X.A.units+1<cLine) (ho:XE X o td) (he:XE X e ty) (hf:XE X f tx) (h1:attributeBase o "pop" X.env (eval o X.env)=eval o X.env:=by rfl) (h3:(apos.endLine == cpos.line)=true:=by rfl)
  (h2:((backTo cpos (starEach [e,f] X.env)).all (fun x=>!x.1)&&(backToKw cpos (keywordEach [] X.env)).all (fun x=>x.1.isSome)
  && decide (([e,f]:List Expr).length+([]:List Keyword).length+(if ([]:List Keyword).isEmpty then 0 else 1)<30))=true:=by rfl)
  (h4:backTo cpos (starEach [e,f] X.env)=[(false,eval e X.env),(false,eval f X.env)]:=by rfl):XE X (.Call (.Attribute o "pop" apos) [e,f] [] cpos) (zR td ty tx):=⟨Bz hu ho.h he.h hf.h ⟨h1,h2,h3,h4⟩⟩
theorem R.ed {pos:Pos}:XE X (.Dict [] [] pos) En:=⟨Ep⟩
end
end L2
namespace L2
open PySem PySem.Spec PyProof.Rows
section
variable {X:Cx}
def Lw (neg:Bool):R2:=fun x y H Q=>mR y fun a=>∃o,DGet H a x o/\Q (.bl (if neg then !o.isSome else o.isSome)) H
theorem Gq (neg:Bool) (hu:X.A.units+1<cLine):OpR X (compareOp (if neg then .NotIn else .In)) (Lw neg):=by
 intro pins s σ H x y v u Q I rx ry h;unfold Lw at h;rw[cC]at h;obtain⟨a,rfl,o,g,q⟩:=h
 cases ry
 cases neg
 ·exact Ui hu I g rx fun s' I'=>⟨.bl _,H,I',rfl,q⟩
 ·exact yW hu I g rx fun s' I'=>⟨.bl _,H,I',rfl,q⟩
theorem R.dn (hu:X.A.units+1<cLine):gU X (compareOp .In) (Lw false):=⟨Gq false hu⟩
theorem R.fi (hu:X.A.units+1<cLine):gU X (compareOp .NotIn) (Lw true):=⟨Gq true hu⟩
end
inductive KE where
 | busy (n:Int) (d:Addr)
 | kept (n t:Int) (d a:Addr)
abbrev KM:=Str × Str->Option KE
def KM.set (m:KM) (q:Str × Str) (e:Option KE):KM:=fun r=>if r=q then e else m r
theorem KM.set_same {m:KM} {q:Str × Str} {e:Option KE}:m.set q e q=e:=if_pos rfl
theorem KM.set_ne {m:KM} {q r:Str × Str} {e:Option KE} (h:r≠q):m.set q e r=m r:=if_neg h
def pk (q:Str × Str):List aZ:=[Sum.inr q.1,Sum.inr q.2]
theorem Gr {q r:Str × Str} (h:pk q=pk r):q=r:=by
 obtain⟨a,b⟩:=q
 obtain⟨c,d⟩:=r
 unfold pk at h;simp only [List.cons.injEq,Sum.inr.injEq,and_true]at h
 rw[h.1,h.2]
theorem gG {H:Hp} {t:Addr} {q:Str × Str} (h:H t=some (.tup [.str q.1,.str q.2])):H t=some (.tup ((pk q).map kV)):=h
def fB:KE->Option (List V)
 | .busy n d=>some [.int n,.ref d]
 | .kept ..=>none
def fS:KE->Option (List V)
 | .busy ..=>none
 | .kept n t d a=>some [.int n,.int t,.ref d,.ref a]
structure Dic (H:Hp) (kvs:List (List aZ × V)) (m:KM) (f:KE->Option (List V)) (L:Nat):Prop where
 nd:(kvs.map (·.1)).Nodup
 all:∀p∈kvs,∃q e xs t,p=(pk q,V.ref t)/\m q=some e/\f e=some xs/\H t=some (.tup xs)
 has:∀q e xs,m q=some e->f e=some xs->pk q∈kvs.map (·.1)
 len:kvs.length<=L
section
variable {κ:Type} [DecidableEq κ]
theorem uY {kvs:List (κ × V)} {k:κ} {v:V} (h:aX kvs k=some v):(k,v)∈kvs:=by
 induction kvs with
 | nil=>cases h
 | cons p r ih=>
  by_cases e:p.1=k
  ·rw[bP e]at h;cases h
   cases e
   exact pR
  ·rw[bQ e]at h;exact jM _ (ih h)
theorem Gs {kvs:List (κ × V)} {k:κ} {v:V} {p:κ × V} (h:p∈bF kvs k v):p=(k,v)∨(p∈kvs/\p.1≠k):=by
 cases hv:aX kvs k with
 | none=>
  rw[fV v hv]at h;rcases Zma.mp h with h | h
  ·exact .inr ⟨h,fun e=>gL hv (e ▸ Zmm.mpr ⟨p,h,rfl⟩)⟩
  ·exact .inl (Zms.mp h)
 | some x=>
  unfold bF at h;rw[cB,hv]at h;simp only [Option.isSome_some,if_true]at h
  obtain⟨p',hp',rfl⟩:=Zmm.mp h
  by_cases e:p'.1=k
  ·rw[if_pos e];left;rw[e]
  ·rw[if_neg e];exact .inr ⟨hp',e⟩
theorem Ca {kvs:List (κ × V)} {k:κ} {v:V} (j:κ):j∈(bF kvs k v).map (·.1)↔j=k∨j∈kvs.map (·.1):=by
 cases hv:aX kvs k with
 | none=>
  rw[fV v hv,iG,Zma];simp only [List.map_cons,List.map_nil,Zms]
  exact Or.comm
 | some x=>
  have e:(bF kvs k v).map (·.1)=kvs.map (·.1):=by
   unfold bF;rw[cB,hv];simp only [Option.isSome_some,if_true,List.map_map]
   refine List.map_congr_left fun p _=>?_
   simp only [Function.comp]
   split <;> rfl
  rw[e];exact⟨.inr,fun z=>z.elim (fun z=>z ▸ sQ hv) id⟩
theorem Lx {kvs:List (κ × V)} {k:κ} {v:V} (hn:(kvs.map (·.1)).Nodup):((bF kvs k v).map (·.1)).Nodup:=by
 cases hv:aX kvs k with
 | none=>exact Kj v hn hv
 | some x=>
  have e:(bF kvs k v).map (·.1)=kvs.map (·.1):=by
   unfold bF;rw[cB,hv];simp only [Option.isSome_some,if_true,List.map_map]
   refine List.map_congr_left fun p _=>?_
   simp only [Function.comp]
   split <;> rfl
  rw[e];exact hn
theorem xQ {kvs:List (κ × V)} {k j:κ} (h:j∈kvs.map (·.1)) (hne:j≠k):j∈(bV kvs k).map (·.1):=by
 obtain⟨p,hp,rfl⟩:=Zmm.mp h
 exact Zmm.mpr ⟨p,List.mem_filter.mpr ⟨hp,decide_eq_true hne⟩,rfl⟩
theorem Gu {kvs:List (κ × V)} {k:κ} {p:κ × V} (h:p∈bV kvs k):p.1≠k:=of_decide_eq_true (List.mem_filter.mp h).2
end
section
variable {H H':Hp} {kvs:List (List aZ × V)} {m m':KM} {f:KE->Option (List V)} {L:Nat} {q:Str × Str}
theorem Dic.keep (h:Dic H kvs m f L) (k:∀b xs,H b=some (.tup xs)->H' b=some (.tup xs)):Dic H' kvs m f L:=
 ⟨h.nd,fun p hp=>let ⟨q,e,xs,t,h1,h2,h3,h4⟩:=h.all p hp;⟨q,e,xs,t,h1,h2,h3,k _ _ h4⟩,h.has,h.len⟩
theorem Dic.more (h:Dic H kvs m f L):Dic H kvs m f (L+1):=⟨h.nd,h.all,h.has,Nat.le_succ_of_le h.len⟩
theorem Dic.get (h:Dic H kvs m f L) (q:Str × Str):(∃t e xs,aX kvs (pk q)=some (.ref t)/\m q=some e/\f e=some xs/\H t=some (.tup xs))∨(aX kvs (pk q)=none/\∀e,m q=some e->f e=none):=by
 cases hv:aX kvs (pk q) with
 | none=>
  refine .inr ⟨rfl,fun e he=>?_⟩
  cases hf:f e with
  | none=>rfl
  | some xs=>exact absurd (h.has q e xs he hf) (gL hv)
 | some v=>
  obtain⟨q',e,xs,t,h1,h2,h3,h4⟩:=h.all _ (uY hv)
  cases Gr (congrArg Prod.fst h1)
  cases (congrArg Prod.snd h1:v=V.ref t)
  exact .inl ⟨t,e,xs,rfl,h2,h3,h4⟩
theorem Dic.at (h:Dic H kvs m f L) {e:KE} {xs:List V} (hm:m q=some e) (hf:f e=some xs):∃t,aX kvs (pk q)=some (.ref t)/\H t=some (.tup xs):=by
 rcases h.get q with⟨t,e',xs',h1,h2,h3,h4⟩ | ⟨_,h2⟩
 ·rw[hm]at h2;cases h2;rw[hf]at h3;cases h3
  exact⟨t,h1,h4⟩
 ·rw[h2 e hm]at hf;cases hf
theorem Dic.no (h:Dic H kvs m f L) (hm:∀e,m q=some e->f e=none):aX kvs (pk q)=none:=by
 rcases h.get q with⟨t,e',xs',h1,h2,h3,h4⟩ | ⟨h1,_⟩
 ·rw[hm _ h2]at h3;cases h3
 ·exact h1
theorem Dic.put (h:Dic H kvs m f L) {e:KE} {xs:List V} {t:Addr} (hf:f e=some xs) (ht:H t=some (.tup xs)) (h1:m' q=some e) (h2:∀r,r≠q->m' r=m r):Dic H (bF kvs (pk q) (.ref t)) m' f (L+1):=by
 refine⟨Lx h.nd,fun p hp=>?_,fun r e' xs' hr hf'=>?_,fU (eP _ _ _) (Nat.succ_le_succ h.len)⟩
 ·rcases Gs hp with rfl | ⟨hp,hne⟩
  ·exact⟨q,e,xs,t,rfl,h1,hf,ht⟩
  ·obtain⟨r,e',xs',t',rfl,g2,g3,g4⟩:=h.all p hp
   exact⟨r,e',xs',t',rfl,by rw[h2 r (fun z=>hne (by rw[z]))];exact g2,g3,g4⟩
 ·rw[Ca];by_cases z:r=q
  ·exact .inl (by rw[z])
  ·exact .inr (h.has r e' xs' (by rw[<- h2 r z];exact hr) hf')
theorem Dic.drop (h:Dic H kvs m f L) (h1:∀e,m' q=some e->f e=none) (h2:∀r,r≠q->m' r=m r):Dic H (bV kvs (pk q)) m' f L:=by
 refine⟨oR h.nd,fun p hp=>?_,fun r e' xs' hr hf'=>?_,fU (kO _ _) h.len⟩
 ·obtain⟨r,e',xs',t',rfl,g2,g3,g4⟩:=h.all p (qP hp)
  exact⟨r,e',xs',t',rfl,by rw[h2 r (fun z=>Gu hp (by rw[z]))];exact g2,g3,g4⟩
 ·have z:r≠q:=fun z=>by rw[z]at hr;rw[h1 _ hr]at hf';cases hf'
  exact xQ (h.has r e' xs' (by rw[<- h2 r z];exact hr) hf') (fun e=>z (Gr e))
theorem Dic.skip (h:Dic H kvs m f L) (h0:∀e,m q=some e->f e=none) (h1:∀e,m' q=some e->f e=none) (h2:∀r,r≠q->m' r=m r):Dic H kvs m' f L:=by
 have:=h.drop h1 h2
 rwa [oQ (gL (h.no h0))]at this
theorem Dic.nil:Dic H [] (fun _=>none) f L:=⟨List.nodup_nil,fun p hp=>absurd hp (List.not_mem_nil),fun q e xs he=>(by cases he),Nat.zero_le _⟩
end
structure KF where
 dx:Addr
 db:Addr
 ds:Addr
def zS (a:KF) (life:Int):List (Str × V):=[("life",.int life),("begun_ones",.ref a.db),("settled_ones",.ref a.ds)]
structure KyAt (C:Addr) (H:Hp) (p:Addr) (a:KF) (life:Int) (m:KM) (L:Nat):Prop where
 hp:H p=some (.ins C a.dx (zS a life))
 hb:∃kvs,H a.db=some (.dT kvs)/\Dic H kvs m fB L
 hs:∃kvs,H a.ds=some (.dT kvs)/\Dic H kvs m fS L
 ne:a.db≠a.ds
structure Sd (K:W.Frag) (C:Addr):Prop where
 cl:Cls K C
 nL:NoAttr K C "life"
 nB:NoAttr K C "begun_ones"
 nS:NoAttr K C "settled_ones"
theorem Xz (a:KF) (l:Int):(zS a l).lookup ("life":Str)=some (.int l):=by unfold zS;rw[List.lookup_cons];simp
theorem tJ (a:KF) (l:Int):(zS a l).lookup ("begun_ones":Str)=some (.ref a.db):=by
 unfold zS;rw[List.lookup_cons,(by decide +kernel:(("begun_ones":Str) == ("life":Str))=false)]
 show List.lookup ("begun_ones":Str) [(("begun_ones":Str),V.ref a.db),(("settled_ones":Str),V.ref a.ds)]=_
 rw[List.lookup_cons];simp
theorem Cb (a:KF) (l:Int):(zS a l).lookup ("settled_ones":Str)=some (.ref a.ds):=by
 unfold zS;rw[List.lookup_cons,(by decide +kernel:(("settled_ones":Str) == ("life":Str))=false)]
 show List.lookup ("settled_ones":Str) [(("begun_ones":Str),V.ref a.db),(("settled_ones":Str),V.ref a.ds)]=_
 rw[List.lookup_cons,(by decide +kernel:(("settled_ones":Str) == ("begun_ones":Str))=false)]
 show List.lookup ("settled_ones":Str) [(("settled_ones":Str),V.ref a.ds)]=_
 rw[List.lookup_cons];simp
theorem uZ {m:Str} (a:KF) (l:Int) (h1:(m == ("life":Str))=false) (h2:(m == ("begun_ones":Str))=false) (h3:(m == ("settled_ones":Str))=false):(zS a l).lookup m=none:=by
 unfold zS;rw[List.lookup_cons,h1];show List.lookup m [(("begun_ones":Str),V.ref a.db),(("settled_ones":Str),V.ref a.ds)]=none
 rw[List.lookup_cons,h2];show List.lookup m [(("settled_ones":Str),V.ref a.ds)]=none
 rw[List.lookup_cons,h3];rfl
section
variable {C:Addr} {H H':Hp} {p:Addr} {a:KF} {life:Int} {m:KM} {L:Nat}
theorem KyAt.keep (h:KyAt C H p a life m L) (k:∀b o,H b=some o->(∀xs,o≠.lst xs)->H' b=some o):KyAt C H' p a life m L:=by
 obtain⟨b1,g1,d1⟩:=h.hb
 obtain⟨b2,g2,d2⟩:=h.hs
 have kt:∀b xs,H b=some (.tup xs)->H' b=some (.tup xs):=fun b xs e=>k _ _ e (fun _ z=>nomatch z)
 exact⟨k _ _ h.hp (fun _ z=>nomatch z),⟨b1,k _ _ g1 (fun _ z=>nomatch z),d1.keep kt⟩,⟨b2,k _ _ g2 (fun _ z=>nomatch z),d2.keep kt⟩,h.ne⟩
theorem KyAt.same (h:KyAt C H p a life m L) (s:Same H H'):KyAt C H' p a life m L:=h.keep fun b o e _=>s _ _ e
theorem KyAt.new (h:KyAt C H p a life m L) {m':KM} {L':Nat} {b1 b2:List (List aZ × V)} (hp:H' p=H p) (g1:H' a.db=some (.dT b1)) (g2:H' a.ds=some (.dT b2)) (kt:∀b xs,H b=some (.tup xs)->H' b=some (.tup xs)) (d1:Dic H' b1 m' fB L') (d2:Dic H' b2 m' fS L'):KyAt C H' p a life m' L':=
 ⟨hp.trans h.hp,⟨b1,g1,d1⟩,⟨b2,g2,d2⟩,h.ne⟩
end
def Oa (life turn:Int):Option KE->List V
 | none=>[.str "free"]
 | some (.busy n d)=>[.str "busy",.int n,.ref d]
 | some (.kept n t d a)=>if t+life > turn then [.str "kept",.int n,.ref d,.ref a] else [.str "free"]
def Wo (H H':Hp) (a:KF):Prop:=∀c o,H c=some o->c≠a.db->c≠a.ds->H' c=some o
def zT (C:Addr):Sp:=fun vs H Q _=>∃(p dx:Addr) (life:Int),vs=[.ref p,.int life]/\H p=some (.ins C dx []) ∧
 ∀H' a,H a.db=none->H a.ds=none->KyAt C H' p a life (fun _=>none) 0->(∀b o,H b=some o->b≠p->H' b=some o)->Q .non H'
def zU:Sp:=fun vs H Q _=>∃t l n:Int,vs=[.int t,.int l,.int n]/\Q (.bl (decide (t+l > n))) H
def Gv (C:Addr):Sp:=fun vs H Q _=>∃p a life m L q now,vs=[.ref p,.str q.1,.str q.2,.int now]/\KyAt C H p a life m L/\∀t H',Same H H'->H' t=some (.tup (Oa life now (m q)))->Q (.ref t) H'
def zV (C:Addr):Sp:=fun vs H Q _=>∃p a life m L q n d,vs=[.ref p,.str q.1,.str q.2,.int n,.ref d]/\KyAt C H p a life m L/\L<=500/\(∀n' d',m q≠some (.busy n' d')) ∧
 ∀H',KyAt C H' p a life (m.set q (some (.busy n d))) (L+1)->Wo H H' a->Q .non H'
def Ob (C:Addr):Sp:=fun vs H Q _=>∃p a life m L t q n d,vs=[.ref p,.ref t]/\KyAt C H p a life m L/\H t=some (.tup [.str q.1,.str q.2])/\m q=some (.busy n d) ∧
 ∀u H',KyAt C H' p a life (m.set q none) L->Wo H H' a->H' u=some (.tup [.int n,.ref d])->Q (.ref u) H'
def vA (C:Addr):Sp:=fun vs H Q _=>∃p a life m L q n d w z,vs=[.ref p,.str q.1,.str q.2,.int w,.ref z]/\KyAt C H p a life m L/\L<=500/\m q=some (.busy n d) ∧
 ∀H',KyAt C H' p a life (m.set q (some (.kept n w d z))) (L+1)->Wo H H' a->Q .non H'
end L2
namespace L2
open PySem PySem.Spec PyProof.Rows
section
variable {prog:Program} {w:World} {A:Around} {E:Value->Shared->Prop} {s:Shared}
theorem vB {l:Addr} {o:Obj} {vs:List Value} {ns:List Int} {n:Nat} {Q:Value->Shared->Prop} (ho:s.heap.get? l=some o) (hc:o.cls=.type "list") (hd:o.data=.seq vs.toArray n) (hI:IntsAre vs ns) (h64:vs.length<64)
  (h:∀(h1 h':Heap) (out:Array Value) (e:Nat) (ns':List Int),(∀b ob,s.heap.get? b=some ob->h1.get? b=some ob)->(∀b ob,h1.get? b=some ob->h'.get? b=some ob)->h'.get? h1.objs.size=some (seqObj "list" out e)->IntsAre out.toList ns'->ns'.Perm ns->ns'.Pairwise (·<=·)->Q (.ref h1.objs.size) {s with heap:=h' }) :
  wpAny (model prog w) A (call (.builtin "sorted") [.ref l]) Q E s:=by
 apply Calls.call_function_entry kind_sorted plain_sorted entry_sorted (args_sorted1 _)
 unfold Builtin.«sorted»
 apply wpAny_bind (m:=checkCount "sorted" 1 1 _)
 apply wpAny_pure
 apply wpAny_bind
 refine wpAny_collect_seq l (.inl rfl) ho hc hd (fun h1 k1=>?_) (by rw[dF];exact fU (Nat.le_of_lt h64) Zd)
 rw[show vs.toArray.toList=vs by simp]
 apply wpAny_bind
 apply wpAny_newList
 ·have g2:(h1.push (seqObj "list" vs.toArray 0)).get? h1.objs.size=some (seqObj "list" vs.toArray 0):=Heap.get?_push_size _ rfl
  apply wpAny_bind
  apply wpAny_holding
  refine wpAny_call_entry slot_list_sort ⟨_,g2,rfl⟩ entry_list_sort (list_sort_tree g2 hI h64 fun out ns' a1 a2 a3=>⟨_,rfl,wpAny_pure ⟨_,rfl,?_⟩⟩) (args_list_sort _)
  obtain⟨e,he⟩:=sortedHeap_at (out:=out) g2
  refine h h1 _ _ e ns' k1 (fun b ob hb1=>?_) he a1 a2 a3
  have hlt:=Heap.lt_size hb1
  rw[sortedHeap_old (Nat.ne_of_lt hlt) (by rw[size_push'];exact Nat.lt_succ_of_lt hlt)]
  exact iO _ hb1
 ·exact fU (Nat.le_of_lt h64) Zd
end
theorem mG:∀ {vs:List Value} {ns:List Int},IntsAre vs ns->Vals (ns.map V.int) vs
 | _,_,.nil=>.nil
 | _,_,.cons x t h=>.cons ⟨t,rfl⟩ (mG h)
section
variable {X:Cx}
def pI (K:W.Frag):List V->Hp->VK->Prop:=fun vs H Q=>match vs with
 | [.ref a]=>∃ns:List Int,SqL K H a (ns.map V.int)/\ns.length<64/\∀(l:Addr) (ns':List Int),H l=none->ns'.Perm ns->ns'.Pairwise (·<=·)->Q (.ref l) (aH H l (.lst (ns'.map V.int)))
 | _=>False
theorem Cc:CallR X (.builtin "sorted") (pI X.K):=by
 intro pins s σ H xs us Q I r h;unfold pI at h;split at h
 ·rename_i a
  obtain⟨ns,hq,h64,q⟩:=h
  obtain⟨u,rfl,ru⟩:=fG r
  cases ru
  obtain⟨its,r1,p1,_⟩:=I.list hq
  obtain⟨o,ho,hc,n,hd⟩:=p1.isList
  have hl:=r1.length
  rw[bN]at hl;refine vB ho hc hd (jY r1) Zo fun h1 h' out e ns' k1 k he hS hp hs=>?_
  have I1:=I.kept (t':=s.toks) k1
  refine⟨.ref h1.objs.size,_,I1.laid (t':=s.toks) (o:=.lst (ns'.map V.int)) k (cA _) ?_,rfl,q _ _ (I1.hok.fresh (cA _)) hp hs⟩
  refine⟨?_,out.toList,e,mG hS,he⟩
  rw[bN,hp.length_eq];exact fU (Nat.le_of_lt h64) Zd
 ·exact h.elim
theorem R.fj {K:W.Frag} (hK:X.K=K:=by rfl):XC X (.builtin "sorted") (pI K):=hK ▸ ⟨Cc⟩
end
end L2
namespace L2
open PySem PySem.Spec PyProof.Rows
section
variable {X:Cx}
def tK {α:Type} (xs:List α) (k:Nat) (x:α):List α:=xs.take k++[x]++xs.drop k
def zW:V->List V->Hp->VK->Prop:=fun x vs H Q=>∃(l:Addr) (xs:List V) (k:Nat) (y:V),x=.ref l/\vs=[.int (k:Int),y]/\H l=some (.lst xs)/\k<=xs.length/\xs.length<1000/\Q .non (aH H l (.lst (tK xs k y)))
theorem Gx {k:Nat} (h:k<1000):¬ (!Builtin.List.listFitsIndex (k:Int))=true:=by
 have e1:-(2 ^ 63)<=(k:Int):=by omega
 have e2:(k:Int)<2 ^ 63:=by omega
 rw[fitsIndex_both e1 e2];exact Bool.false_ne_true
theorem qX:∀ {xs:List V} {its:List Value} (k:Nat),Vals xs its->Vals (xs.take k) (its.take k)
 | _,_,0,_=>by simp;exact .nil
 | _,_,k+1,.nil=>by simp;exact .nil
 | _,_,k+1,.cons h t=>by rw[List.take_succ_cons,List.take_succ_cons];exact .cons h (qX k t)
theorem qY:∀ {xs:List V} {its:List Value} (k:Nat),Vals xs its->Vals (xs.drop k) (its.drop k)
 | _,_,0,h=>by simpa using h
 | _,_,k+1,.nil=>by simp;exact .nil
 | _,_,k+1,.cons h t=>by rw[List.drop_succ_cons,List.drop_succ_cons];exact qY k t
theorem Se {s:Shared} {A:Around} {E:Value->Shared->Prop} {prog:Program} {w:World} {l:Addr} {its:List Value} {n:Nat} {k:Int} {t:Tok} {u2:Value} {Q:Value->Shared->Prop} (e:s.heap.get? l=some {cls:=.type "list",data:=.seq its.toArray n }) (f1:¬ (!Builtin.List.listFitsIndex k)=true) (f2:its.toArray.size<=sizeLine)
  (q:Q .none {s with heap:=s.heap.update l (Obj.mapSeq fun xs=>have k:=if k<0 then (k+(xs.size:Int)).toNat else min k.toNat xs.size;(xs.extract 0 k).push u2++xs.extract k),toks:=s.toks }) :
  wpAny (model prog w) A (call (.builtin "list.insert") [.ref l,.int k t,u2]) Q E s:=by
 have M:=AutoSeq1.list_insert_list_int_val_1 l its.toArray n k t u2 f1 f2
 exact call_meets PySem.F.slot_list_insert ⟨_,e,rfl⟩ PySem.F.entry_list_insert (PySem.F.args_list_insert_3 _ _ _) M ⟨e,q⟩
theorem Cd:Tf X "list.insert" zW:=by
 intro pins s σ H x vs v us Q I rx rv h;obtain⟨l,xs,k,y,rfl,rfl,hH,hk,hz,q⟩:=h
 cases rx
 obtain⟨u1,u2,rfl,ru1,ru2⟩:=rv.two
 obtain⟨t,rfl⟩:=ru1
 obtain⟨z,its,n,r,hl,e⟩:=I.lstM hH
 have hlen:(tK xs k y).length=xs.length+1:=by unfold tK;simp;omega
 have hv:Vals (tK xs k y) (tK its k u2):=by
  unfold tK;exact((qX k r).append (.cons ru2 .nil)).append (qY k r)
 have hle:(tK xs k y).length<=sizeLine:=kB (by rw[hlen];omega)
 refine Se e (Gx (wH hk hz)) (by rw[dF,<- hl];exact z) ?_
 refine⟨.non,_,I.lset (its':=tK its k u2) hH e ?_ hv hle,rfl,q⟩
 have h0:¬ ((k:Int)<0):=by omega
 have h1:min (k:Int).toNat its.toArray.size=k:=by rw[dF,<- hl];simp;omega
 simp only [h0,if_false,h1]
 unfold tK;simp
 exact Jb Zs
theorem R.fk:XM X "list.insert" zW:=⟨Cd⟩
end
end L2
namespace L2
open PySem PySem.Spec PyProof.Rows
theorem isKy.len {z:Str} (h:isKy z):z.length<=1000:=fU h.2.1 Zd
end L2
namespace L2
open PySem PySem.Spec PyProof.Rows
section
variable {X:Cx}
def Oc (K:W.Frag):List V->Hp->VK->Prop:=fun vs H Q=>∃(p:Addr) (ns:List Int),vs=[.ref p]/\SqL K H p (ns.map V.int)/\0<ns.length/\∀M:Int,M∈ns->(∀a∈ns,a<=M)->Q (.int M) H
theorem Ce (hc:X.calm=true):CallR X (.builtin "max") (Oc X.K):=by
 intro pins s σ H xs us Q I r h;obtain⟨p,ns,rfl,hq,hn,q⟩:=h
 obtain⟨u,rfl,ru⟩:=fG r
 cases ru
 obtain⟨its,rv,pl,hz⟩:=I.list hq
 have hi:=jY rv
 obtain⟨xs,hx⟩:=hi.allInts.items
 have hl':s.heap.IsList p (intItems xs):=hx ▸ pl.isList
 have e1:ns=xs.toList.map (·.1):=by
  rw[<- nums_intItems,<- hx];exact(show numsOf its.toArray.toList=ns from hi.numsOf).symm
 have hsz:ns.length=xs.size:=by rw[e1];simp
 refine max_intList (I.ok.hd hc) hl' Zo fun v h' tk hv hk=>?_
 obtain⟨hle,hmx⟩:=argBest_gt (numAt xs) (xs.size - 1)
 generalize argBest (fun i j=>decide (numAt xs i > numAt xs j)) (xs.size - 1)=k at hv hle hmx
 obtain⟨t,rfl⟩:=intItems_at hv
 have at_:∀j,j<ns.length->numAt xs j=ns.getD j 0:=fun j _=>by rw[numAt_eq,e1]
 refine⟨.int _,H,I.kept hk,⟨_,rfl⟩,q _ ?_ ?_⟩
 ·rw[at_ k Zo,List.getD_eq_getElem?_getD,lO Zo]
  exact List.getElem_mem _
 ·intro a ha;obtain⟨j,hj,rfl⟩:=List.getElem_of_mem ha
  have:=hmx j Zo
  rw[at_ j hj,List.getD_eq_getElem?_getD,lO hj]at this;exact this
theorem R.ee {K:W.Frag} (hc:X.calm=true) (hK:X.K=K:=by rfl):XC X (.builtin "max") (Oc K):=hK ▸ ⟨Ce hc⟩
end
end L2
namespace L2
open PySem PySem.Spec PyProof.Rows
inductive Dd where
 | add (a:Str) (n:Nat)
 | take (a:Str) (n:Nat)
 | move (a b:Str) (n:Nat)
 | send (h a:Str) (n:Nat)
 | fetch (h a:Str) (n:Nat)
 | pass (h g a:Str) (n:Nat)
namespace Dd
def vs:Dd->List V
 | .add a n=>[.str "add",.str a,.int (n:Int)]
 | .take a n=>[.str "take",.str a,.int (n:Int)]
 | .move a b n=>[.str "move",.str a,.str b,.int (n:Int)]
 | .send h a n=>[.str "send",.str h,.str a,.int (n:Int)]
 | .fetch h a n=>[.str "fetch",.str h,.str a,.int (n:Int)]
 | .pass h g a n=>[.str "pass",.str h,.str g,.str a,.int (n:Int)]
def n:Dd->Nat
 | .add _ n=>n | .take _ n=>n | .move _ _ n=>n | .send _ _ n=>n | .fetch _ _ n=>n | .pass _ _ _ n=>n
def far:Dd->Bool
 | .send _ _ _=>true | .fetch _ _ _=>true | .pass _ _ _ _=>true | _=>false
def Ok:Dd->Prop
 | .add a n=>isNm a/\1<=n/\n<=1000000000000
 | .take a n=>isNm a/\1<=n/\n<=1000000000000
 | .move a b n=>isNm a/\isNm b/\a≠b/\1<=n/\n<=1000000000000
 | .send h a n=>isNm h/\isNm a/\1<=n/\n<=1000000000000
 | .fetch h a n=>isNm h/\isNm a/\1<=n/\n<=1000000000000
 | .pass h g a n=>isNm h/\isNm g/\isNm a/\h≠g/\1<=n/\n<=1000000000000
theorem Ok.n {d:Dd} (h:d.Ok):1<=d.n/\d.n<=1000000000000:=by
 cases d <;> simp only [Ok]at h <;> simp only [Dd.n] <;> omega
def wd:Dd->Str
 | .add _ _=>"add" | .take _ _=>"take" | .move _ _ _=>"move" | .send _ _ _=>"send" | .fetch _ _ _=>"fetch" | .pass _ _ _ _=>"pass"
end Dd
inductive An where
 | is1 (m:Nat)
 | is2 (l m:Nat)
 | short (m:Nat)
 | full (m:Nat)
 | no (h:Str)
 | ok
namespace An
def vs:An->List V
 | .is1 m=>[.str "is",.int (m:Int)]
 | .is2 l m=>[.str "is",.int (l:Int),.int (m:Int)]
 | .short m=>[.str "short",.int (m:Int)]
 | .full m=>[.str "full",.int (m:Int)]
 | .no h=>[.str "no",.str h]
 | .ok=>[.str "ok"]
def early:An->Bool | .short _=>true | .full _=>true | _=>false
def Of:Dd->An->Prop
 | .add _ n,.is1 m=>n<=m/\m<=1000000000000
 | .add _ n,.full m=>1000000000000<m+n/\m<=1000000000000
 | .take _ n,.is1 m=>m+n<=1000000000000
 | .take _ n,.short m=>m<n
 | .move _ _ n,.is2 l m=>l+n<=1000000000000/\n<=m/\m<=1000000000000
 | .move _ _ n,.short m=>m<n
 | .move _ _ n,.full m=>1000000000000<m+n/\m<=1000000000000
 | .send _ _ n,.is1 m=>m+n<=1000000000000
 | .send _ _ n,.short m=>m<n
 | .send h _ _,.no g=>g=h
 | .fetch _ _ n,.is1 m=>n<=m/\m<=1000000000000
 | .fetch _ _ n,.full m=>1000000000000<m+n/\m<=1000000000000
 | .fetch h _ _,.no g=>g=h
 | .pass h g _ _,.no k=>k=h∨k=g
 | .pass _ _ _ _,.ok=>True
 | _,_=>False
end An
inductive RX where
 | next (n t:Nat)
 | has (z:Str) (m:Nat)
 | kept (n t:Nat) (p k:Str) (d:Dd) (y:An)
 | came (n t:Nat) (p k:Str) (d:Dd)
 | asked (n:Nat)
 | done (n t:Nat) (y:An)
namespace RX
def tvs:List V->TV:=fun xs=>.tp (xs.map TV.sc)
theorem rep_flat {H:Hp} {b:Addr} {xs:List V} (g:H b=some (.tup xs)) (hf:∀x∈xs,kW x=true):Dc H 1 (tvs xs) (.ref b):=by
 refine⟨b,xs,rfl,g,?_⟩
 induction xs with
 | nil=>exact .nil
 | cons x xs ih=>
  clear g;refine .cons ⟨rfl,hf x pR⟩ ?_
  have:∀(ys:List V),(∀y∈ys,kW y=true)->Paired (Dc H 0) (ys.map TV.sc) ys:=fun ys h=>by
   induction ys with
   | nil=>exact .nil
   | cons y ys ih=>exact .cons ⟨rfl,h y pR⟩ (ih fun z hz=>h z (jM _ hz))
  exact this xs fun z hz=>hf z (jM _ hz)
theorem sc_dd (d:Dd):∀x∈d.vs,kW x=true:=by
 intro x hx;cases d <;> simp only [Dd.vs,List.mem_cons,List.not_mem_nil,or_false]at hx <;> rcases hx with rfl | rfl | rfl | rfl | rfl <;> rfl
end RX
end L2
namespace L2
open PySem PySem.Spec PyProof.Rows
theorem qZ {t u:TS} {D:gK} {σ:St} {H:Hp} (R:St->Hp->Prop) (h:∀nx:St->Hp->Prop,(∀ σ' H',R σ' H'->nx σ' H')->t {D with nx:=nx } σ H) (h2:∀ σ' H',R σ' H'->u D σ' H'):Jg t u D σ H:=h (u D) h2
theorem Gy {c:TT} {t u:TS} {D:gK} {σ:St} {H:Hp} (R:Bool->Hp->Prop) (h:∀k:Bool->Hp->Prop,(∀v H',R v H'->k v H')->c σ H k) (ht:∀H',R true H'->t D σ H') (hf:∀H',R false H'->u D σ H'):Jk c t u D σ H:=
 h (fun b H1=>if b=true then t D σ H1 else u D σ H1) fun v H' r=>match v,r with | true,r=>ht H' r | false,r=>hf H' r
end L2
namespace L2
open PySem PySem.Spec PyProof.Rows
theorem pJ:∀ {ks:List Int} {vs:List Value},vs.length=ks.length->(∀(i:Nat) (v:Value),vs[i]?=some v->∃x t,ks[i]?=some x/\v=Value.int x t)->IntsAre vs ks
 | [],[],_,_=>.nil
 | k::ks,v::vs,hl,h=>by
  obtain⟨x,t,e1,rfl⟩:=h 0 v rfl
  cases e1
  exact .cons k t (pJ (by simpa using hl) fun i v hv=>by simpa using h (i+1) v (by simpa using hv))
section
variable {prog:Program} {w:World} {A:Around} {E:Value->Shared->Prop} {s:Shared}
theorem tL {d:Addr} {ss:List Int} {kvs:List (aZ × Value)} {Q:Value->Shared->Prop} (hh:A.handled=none) (lo:(d == sysModules)=false) (hd:s.heap.DictOf (aS prog w) d kvs) (hk:kvs.map (·.1)=ss.map Sum.inl) (h64:ss.length<64)
  (h:∀(h1 h':Heap) (tk:Nat) (out:Array Value) (e:Nat) (ns':List Int),(∀b ob,s.heap.get? b=some ob->h1.get? b=some ob)->(∀b ob,h1.get? b=some ob->h'.get? b=some ob)->h'.get? h1.objs.size=some (seqObj "list" out e)->IntsAre out.toList ns'->ns'.Perm ss->ns'.Pairwise (·<=·)->Q (.ref h1.objs.size) {s with heap:=h',toks:=tk }) :
  wpAny (model prog w) A (call (.builtin "sorted") [.ref d]) Q E s:=by
 have hl:kvs.length=ss.length:=by simpa using congrArg List.length hk
 obtain⟨ep,hm⟩:=hd.dictAt
 apply Calls.call_function_entry kind_sorted plain_sorted entry_sorted (args_sorted1 _)
 unfold Builtin.«sorted»
 apply wpAny_bind (m:=checkCount "sorted" 1 1 _)
 apply wpAny_pure
 apply wpAny_bind
 refine W.kdu_collect (W.kdl_dict lo) hh hm (by rw[hl];exact fU (Nat.le_of_lt h64) Zd) fun h1 tk acc k1 hacc=>?_
 have hS:IntsAre acc.toList ss:=pJ (by rw[Array.length_toList,hacc.1,hl]) fun i v hv=>by
  obtain⟨k,x,e1,e2⟩:=hacc.2 i v (by simpa using hv)
  have e3:(kvs.map (·.1))[i]?=some k:=by rw[gQ,e1];rfl
  rw[hk,gQ]at e3;cases e4:ss[i]? with
  | none=>rw[e4]at e3;cases e3
  | some y=>
   rw[e4]at e3;cases e3
   rcases bD (show kL (Sum.inl y) v=true from e2) with⟨z,t,e,ev⟩ | ⟨_,_,e,_⟩
   ·cases e
    exact⟨_,t,rfl,ev⟩
   ·cases e
 generalize acc.toList=vs at hS;have hvl:vs.length<64:=by rw[hS.length];exact h64
 apply wpAny_bind
 apply wpAny_newList
 ·have g2:(h1.push (seqObj "list" vs.toArray 0)).get? h1.objs.size=some (seqObj "list" vs.toArray 0):=Heap.get?_push_size _ rfl
  apply wpAny_bind
  apply wpAny_holding
  refine wpAny_call_entry slot_list_sort ⟨_,g2,rfl⟩ entry_list_sort (list_sort_tree (s:={s with heap:=h1.push (seqObj "list" vs.toArray 0),toks:=tk }) g2 hS hvl fun out ns' a1 a2 a3=>⟨_,rfl,wpAny_pure ⟨_,rfl,?_⟩⟩) (args_list_sort _)
  obtain⟨e,he⟩:=sortedHeap_at (out:=out) g2
  refine h h1 _ _ _ e ns' k1 (fun b ob hb1=>?_) he a1 a2 a3
  have hlt:=Heap.lt_size hb1
  rw[sortedHeap_old (Nat.ne_of_lt hlt) (by rw[size_push'];exact Nat.lt_succ_of_lt hlt)]
  exact iO _ hb1
 ·exact fU (Nat.le_of_lt hvl) Zd
end
section
variable {X:Cx}
def mH:List V->Hp->VK->Prop:=fun vs H Q=>match vs with
 | [.ref a]=>∃(ss:List Int) (kvs:List (aZ × V)),Rd H a (.dK kvs)/\kvs.map (·.1)=ss.map Sum.inl/\ss.length<64/\∀(l:Addr) (ns':List Int),H l=none->ns'.Perm ss->ns'.Pairwise (·<=·)->Q (.ref l) (aH H l (.lst (ns'.map V.int)))
 | _=>False
theorem xR (hcm:X.calm=true):CallR X (.builtin "sorted") mH:=by
 intro pins s σ H xs us Q I r h;unfold mH at h;split at h
 ·rename_i a
  obtain⟨ss,kvs,hq,hk,h64,q⟩:=h
  obtain⟨u,rfl,ru⟩:=fG r
  cases ru
  obtain⟨_,hd,vs,rel,dd⟩:=jP I.hok hq
  refine tL (I.ok.hd hcm) hd dd (by rw[<- rel.keys];exact hk) h64 fun h1 h' tk out e ns' k1 k he hS hp hs=>?_
  have I1:=I.kept (t':=s.toks) k1
  refine⟨.ref h1.objs.size,_,I1.laid (t':=tk) (o:=.lst (ns'.map V.int)) k (cA _) ⟨?_,out.toList,e,mG hS,he⟩,rfl,q _ _ (I1.hok.fresh (cA _)) hp hs⟩
  rw[bN,hp.length_eq];exact fU (Nat.le_of_lt h64) Zd
 ·exact h.elim
theorem R.cp (hcm:X.calm=true):XC X (.builtin "sorted") mH:=⟨xR hcm⟩
end
end L2
namespace L2
open PySem PySem.Spec PyProof.Rows
section
variable {X:Cx}
def Ly (neg:Bool):R2:=fun x y H Q=>mR y fun a=>∃o,DGet H a x o/\Q (.bl (if neg then !o.isSome else o.isSome)) H
theorem Gz (neg:Bool) (hu:X.A.units+1<cLine):OpR X (compareOp (if neg then .NotIn else .In)) (Ly neg):=by
 intro pins s σ H x y v u Q I rx ry h;unfold Ly at h;rw[cC]at h;obtain⟨a,rfl,o,g,q⟩:=h
 cases ry
 cases neg
 ·exact Ui hu I g rx fun s' I'=>⟨.bl _,H,I',rfl,q⟩
 ·exact yW hu I g rx fun s' I'=>⟨.bl _,H,I',rfl,q⟩
theorem R.fm (hu:X.A.units+1<cLine):gU X (compareOp .In) (Ly false):=⟨Gz false hu⟩
theorem R.dq (hu:X.A.units+1<cLine):gU X (compareOp .NotIn) (Ly true):=⟨Gz true hu⟩
end
end L2
namespace L2
open PySem PySem.Spec PyProof.Rows
section
variable {X:Cx}
theorem R.fo:XC X (.builtin "len") (fun vs H Q=>match vs with | [.ref a]=>∃kvs,H a=some (.dK kvs)/\Q (.int kvs.length) H | _=>False):=⟨Bl.imp fun vs H Q h=>by
 split at h
 ·obtain⟨kvs,g,q⟩:=h
  exact⟨_,kvs,rfl,g,q⟩
 ·exact h.elim⟩
end
end L2
namespace L2
open PySem PySem.Spec PyProof.Rows
def eT (xs ys:List V):Prop:=∀(j:Nat) (u v:V),xs[j]?=some u->ys[j]?=some v->eN u=true/\eN v=true
theorem dX {xs:List V} (h:eT xs xs):fH xs xs=true:=by
 unfold fH;rw[Bool.and_eq_true_iff];refine⟨List.all_eq_true.mpr fun j hj=>?_,Zs⟩
 have hj:j<xs.length:=by simpa using hj
 have e:xs.getD j .non=xs[j]:=by simp [List.getD,hj]
 rw[e];have:=(h j xs[j] xs[j] (lO hj) (lO hj)).1
 generalize xs[j]=v at this;cases v <;> first | exact absurd (show false=true from this) Bool.false_ne_true | simp [uH]
section
variable {X:Cx}
theorem Ha {pins:List (Addr × Obj)} {s:Shared} {σ:St} {H:Hp} {a b:Addr} {xs ys:List V} (I:Inv X pins σ H s) (hu:X.A.units+64<cLine) (g1:H a=some (.tup xs)) (g2:H b=some (.tup ys)) (fl:eT xs ys):SeqAt.EqAt X.A.in1 s (.ref a) (.ref b) (fH xs ys):=by
 by_cases e:a=b
 ·subst e;rw[g1]at g2;cases g2
  rw[dX fl];exact SeqAt.EqAt.same _
 ·obtain⟨its,ri,ti,_⟩:=I.tuple (SqT.of g1)
  obtain⟨its2,ri2,ti2,_⟩:=I.tuple (SqT.of g2)
  have el1:its.length=xs.length:=ri.length.symm
  have el2:its2.length=ys.length:=ri2.length.symm
  have each:∀j (h1:j<its.toArray.size) (h2:j<its2.toArray.size),SeqAt.EqAt X.A.in1.in1 s its.toArray[j] its2.toArray[j] (uH (xs.getD j .non) (ys.getD j .non)):=fun j h1 h2=>by
   rw[dF]at h1 h2;obtain⟨h1',q1⟩:=Paired.get' (j:=j) ri h1
   obtain⟨h2',q2⟩:=Paired.get' (j:=j) ri2 h2
   obtain⟨f1,f2⟩:=fl j xs[j] ys[j] (lO h1') (lO h2')
   have e1:xs.getD j .non=xs[j]:=by simp [List.getD,h1']
   have e2:ys.getD j .non=ys[j]:=by simp [List.getD,h2']
   rw[e1,e2];simpa using wX q1 q2 f1 f2
  have e:((List.range (min its.toArray.size its2.toArray.size)).all (fun j=>uH (xs.getD j .non) (ys.getD j .non))&&its.toArray.size == its2.toArray.size)=fH xs ys:=by
   rw[dF,dF,el1,el2];rfl
  have key:=SeqAt.RcAt.tuples (A:=X.A.in1) (s:=s) ti ti2 (by rw[Bv];omega) each
  rw[e]at key;intro prog w E Q h;unfold eqBool;refine wpAny_holding ?_
  refine wpAny_ite_split (fun hab=>absurd (eq_of_beq hab) (fun z=>by cases z;contradiction)) (fun _=>?_)
  exact wpAny_bind (key prog w E _ (wpAny_truthy_bool h))
def xS (xs:List V) (zs:List (Addr × List V)):Bool:=zs.any fun z=>fH z.2 xs
def Sf (neg:Bool):R2:=fun x y H Q=>mR x fun a=>mR y fun p=>∃(xs:List V) (zs:List (Addr × List V)),H a=some (.tup xs)/\H p=some (.lst (zs.map fun z=>V.ref z.1))/\(∀z∈zs,H z.1=some (.tup z.2)/\eT z.2 xs)/\Q (.bl (if neg then !xS xs zs else xS xs zs)) H
def Vz (H:Hp) (xs:List V) (v:Value):Bool:=match v with | .ref b=>(match H b with | some (.tup ys)=>fH ys xs | _=>false) | _=>false
theorem Hb {H:Hp} {xs ys:List V} {b:Addr} (g:H b=some (.tup ys)):Vz H xs (.ref b)=fH ys xs:=by unfold Vz;dsimp only;rw[g]
theorem xT {zs:List (Addr × List V)}:∀ {us:List Value},Vals (zs.map fun z=>V.ref z.1) us->us=zs.map fun z=>Value.ref z.1:=by
 induction zs with
 | nil=>intro us r;cases r;rfl
 | cons z zs ih=>intro us r;cases r with | cons r t=>rw[ih t];cases r;rfl
theorem Sg (neg:Bool) (hu:X.A.units+64<cLine):OpR X (compareOp (if neg then .NotIn else .In)) (Sf neg):=by
  intro pins s σ H x y v u Q I rx ry h;unfold Sf at h;rw[cC]at h;obtain⟨a,rfl,h⟩:=h
  rw[cC]at h;obtain⟨p,rfl,xs,zs,g1,g2,hz,q⟩:=h
  cases rx
  cases ry
  obtain⟨its,r,pl,_⟩:=I.list (SqL.of g2)
  have ei:=xT r
  have he:∀w,w∈its.toArray->SeqAt.EqAt X.A.in1 s w (.ref a) (Vz H xs w):=fun w hw=>by
    have hw:w∈its:=by simpa using hw
    rw[ei]at hw;obtain⟨z,hm,rfl⟩:=Zmm.mp hw
    rw[Hb (hz z hm).1];exact Ha I hu (hz z hm).1 g1 (hz z hm).2
  have ea:its.toArray.any (Vz H xs)=xS xs zs:=by
    rw[ei];unfold xS;rw[List.any_toArray,List.any_map];have:∀zs:List (Addr × List V),(∀z∈zs,H z.1=some (.tup z.2)/\eT z.2 xs)->zs.any (Vz H xs∘fun z=>Value.ref z.1)=zs.any fun z=>fH z.2 xs:=fun zs hz=>by
     induction zs with
     | nil=>rfl
     | cons z zs ih=>
      rw[List.any_cons,List.any_cons,ih fun y hy=>hz y (jM _ hy)]
      congr 1
      exact Hb (hz z pR).1
    exact this zs hz
  cases neg
  . refine SeqAt.in_listAt _ pl.isList he ⟨.bl _,H,I,rfl,?_⟩
    rw[ea];exact q
  . refine SeqAt.notIn_listAt _ pl.isList he ⟨.bl _,H,I,rfl,?_⟩
    rw[ea];exact q
theorem R.fq (hu:X.A.units+64<cLine):gU X (compareOp .In) (Sf false):=⟨Sg false hu⟩
end
end L2
namespace L2
open PySem PySem.Spec PyProof.Rows
section
variable {X:Cx} {e o:Expr} {es:List Expr} {m:Str} {pos apos cpos:Pos} {ta td ty:TE} {t:TA} {C:Addr} {n:Nat} {ps:List Str} {sp:Sp} {dvs:List V}
theorem R.eg (ho:XE X o td) (he:XE X e ty) (h1:attributeBase o "pop" X.env (eval o X.env)=eval o X.env:=by rfl) (h3:(apos.endLine == cpos.line)=true:=by rfl)
  (h2:((backTo cpos (starEach [e] X.env)).all (fun x=>!x.1)&&(backToKw cpos (keywordEach [] X.env)).all (fun x=>x.1.isSome)
  && decide (([e]:List Expr).length+([]:List Keyword).length+(if ([]:List Keyword).isEmpty then 0 else 1)<30))=true:=by rfl)
  (h4:backTo cpos (starEach [e] X.env)=[(false,eval e X.env)]:=by rfl):XE X (.Call (.Attribute o "pop" apos) [e] [] cpos) (Es td ty):=⟨Eu ho.h he.h ⟨h1,h2,h3,h4⟩⟩
structure Hc (P:Program) (w:World) (K:W.Frag) (mg:Str->Option Value) (base:Heap) (n:Nat) (C:Addr) (m:Str) (ps:List Str) (dvs:List V) (sp:Sp):Prop where
 ex:∃f fd ds,Cls K C/\Dw K C m f/\iM P w K mg base qM n f fd ps sp/\Binds K fd ps ds/\Vals dvs ds
def Hd (C:Addr) (m:Str) (sp:Sp) (dvs:List V) (ta:TE) (t:TA):TE:=fun σ H Q=>ta σ H fun x H1=>mR x fun a=>∃dx fs,H1 a=some (.ins C dx fs)/\fs.lookup m=none/\t σ H1 fun vs H2=>sp (.ref a::vs++dvs) H2 Q E0
theorem Cf {pl:Sem Bool} (he:PE X o ta) (c:Hc X.prog X.w X.K X.mg X.base n C m ps dvs sp) (hr:Room n X.A) (ha:PA X (e::es) t) (hs:aM e=true) (hpl:(backTo pos (starEach es X.env)).any (·.1)=false)
  (ht:eval (.Call (.Attribute o m apos) (e::es) [] pos) X.env=(do
   let ov ← eval o X.env
   standAt apos.atName
   let (f,first) ← holding [ov] (getMethod ov m pl)
   callWith pos f first (backTo pos (starEach (e::es) X.env)) (backToKw pos (keywordEach [] X.env)))) :
  PE X (.Call (.Attribute o m apos) (e::es) [] pos) (Hd C m sp dvs ta t):=by
 obtain⟨f,fd,ds,cl,hm,F,hb,hd⟩:=c.ex
 intro pins s σ H Q I h;refine W.methodCall_KW (pl:=pl) (bK (he pins s σ H _ I h) fun u s1 ⟨x,H1,I1,rx,q1⟩=>?_) ht
 dsimp only at q1
 rw[cC]at q1;obtain⟨a,rfl,dx,fs,ea,l,q⟩:=q1
 obtain rfl:u=Value.ref a:=rx
 refine jX I1 ea cl hm l ?_
 refine W.callWith_K (first:=[.ref a]) (h₀:=X.base) I.ok.mod.kin hm.kp (bK (ha pos pins s1 σ H1 _ I1 q) fun us s2 ⟨vs,H2,I2,r,q2⟩=>⟨I2.kIn,?_⟩) (bI hs) hpl
 exact rT (us:=.ref a::us) (vs:=.ref a::vs) (dvs:=dvs) (ds:=ds) F hr hb hd qN I2 (.cons rfl r) q2
theorem R.ft {pl:Sem Bool} (c:Hc X.prog X.w X.K X.mg X.base n C m ps dvs sp) (hr:Room n X.A) (he:XE X o ta) (ha:XA X (e::es) t) (hs:aM e=true:=by rfl) (h2:es.all aM=true:=by rfl)
  (ht:eval (.Call (.Attribute o m apos) (e::es) [] pos) X.env=(do
   let ov ← eval o X.env
   standAt apos.atName
   let (f,first) ← holding [ov] (getMethod ov m pl)
   callWith pos f first (backTo pos (starEach (e::es) X.env)) (backToKw pos (keywordEach [] X.env))):=by rfl):XE X (.Call (.Attribute o m apos) (e::es) [] pos) (Hd C m sp dvs ta t):=⟨Cf he.h c hr ha.h hs (eQ h2) ht⟩
end
section
variable {P:Program} {w:World} {K:W.Frag} {mg:Str->Option Value} {base:Heap} {qual m:Str} {st:Stmt} {C:Addr} {N ps:List Str} {k:Nat} {sp:Sp}
structure MethAtD (K:W.Frag) (C:Addr) (m qual:Str) (st:Stmt) (ps:List Str) (dvs:List (List V)):Prop where
 cl:Cls K C
 ex:∃f fd dv,FunD K m qual st dv f fd/\Dw K C m f/\∀d∈dvs,∃ds,Binds K fd ps ds/\Vals d ds
theorem MethAtD.go {dvs:List (List V)} (D:MethAtD K C m qual st ps dvs) (S:aG N ps (aB st)) (len:∀vs H Q E,sp vs H Q E->vs.length=ps.length)
  (hbody:∀(f:Addr) (cdv:Value) (A:Around) (outer:List Env) (s:Shared) (H:Hp) (vs:List V) (Q:VK) (E:XK),Room k (A.deeper (envOfC qual (aB st) s.heap.objs.size f cdv))->sp vs H Q E →
   ∃t,XB (lT qM P w K mg base N qual (aB st) f cdv A outer s H E).nox (aR st) t/\t {nx:=fun _ H'=>Q .non H',rt:=Q } (start N vs) H):∀d∈dvs,Hc P w K mg base (k+1) C m ps d sp:=by
 intro d hd;obtain⟨f,fd,dv,F,hm,hb⟩:=D.ex
 obtain⟨ds,b,v⟩:=hb d hd
 exact⟨f,fd,ds,D.cl,hm,F.go S len (hbody f),b,v⟩
end
end L2
namespace L2
open PySem PySem.Spec PyProof.Rows
section
variable {X:Cx}
def Sh (neg:Bool):R2:=fun x y H Q=>mR x fun a=>mR y fun b=>∃kvs,H a=some (.dK kvs)/\H b=some (.dK [])/\Q (.bl (if neg then !decide (kvs=[]) else decide (kvs=[]))) H
theorem Si (neg:Bool) (hu:X.A.units+64<cLine):OpR X (compareOp (if neg then .NotEq else .Eq)) (Sh neg):=by
 intro pins s σ H x y v u Q I rx ry h;unfold Sh at h;rw[cC]at h;obtain⟨a,rfl,h⟩:=h
 rw[cC]at h;obtain⟨b,rfl,kvs,ga,gb,q⟩:=h
 cases rx
 cases ry
 obtain⟨_,ha,va,ra,da⟩:=qK I.hok ga
 obtain⟨_,hb,vb,rb,db⟩:=qK I.hok gb
 have eb:vb=[]:=List.length_eq_zero_iff.mp (by rw[<- rb.length];rfl)
 subst eb;have el:=ra.length
 have ev:(va.length == ([]:List (aZ × Value)).length&&true)=decide (kvs=[]):=by
  rw[<- el,Bool.and_true];cases kvs <;> simp
 have hits:va.length=([]:List (aZ × Value)).length->W.KeqHits X.A.in1 s [] va true:=fun e=>by
  have:va=[]:=List.length_eq_zero_iff.mp e
  subst this;exact .nil
 cases neg with
 | false=>exact W.keq_eq ha hb da db Zo hits ⟨.bl (decide (kvs=[])),H,I,by rw[ev];rfl,q⟩
 | true=>exact W.keq_ne ha hb da db Zo hits ⟨.bl (!decide (kvs=[])),H,I,by rw[ev];rfl,q⟩
theorem R.fu (hu:X.A.units+64<cLine):gU X (compareOp .Eq) (Sh false):=⟨Si false hu⟩
end
end L2
namespace KL
open PySem L2
def cU (i:Nat):Stmt:=PySem.Challenge.pw_oncedoor_k62_holds_and_waits.main.body.getD i (.Pass ⟨0,0,0,0⟩)
abbrev jF:Stmt:=cU 24
abbrev lA:Stmt:=cU 25
abbrev hU:Stmt:=cU 28
abbrev dJ:Stmt:=cU 29
abbrev jG:Stmt:=cU 33
abbrev eU:Stmt:=cU 34
abbrev hV:Stmt:=cU 36
abbrev jH:Stmt:=cU 37
abbrev cI:Stmt:=cU 38
abbrev oH:Stmt:=cU 40
abbrev cV:Stmt:=cU 42
abbrev fJ:Stmt:=cU 43
abbrev bS:Stmt:=aP (cU 52) 0
abbrev gB:Stmt:=aP (cU 52) 1
abbrev fK:Stmt:=aP (cU 52) 2
abbrev eE:Stmt:=aP (cU 52) 4
abbrev hW:Stmt:=aP (cU 52) 7
abbrev dL:Stmt:=aP (cU 52) 8
abbrev hX:Stmt:=cU 53
abbrev bT:Stmt:=aP (cU 55) 0
abbrev eF:Stmt:=aP (cU 55) 1
abbrev eW:Stmt:=aP (cU 55) 2
abbrev eG:Stmt:=aP (cU 55) 3
abbrev fL:Stmt:=cU 57
abbrev fM:Stmt:=cU 58
abbrev dM:Stmt:=cU 59
abbrev fN:Stmt:=cU 60
abbrev cP:Stmt:=cU 61
abbrev bE:Stmt:=aP (cU 72) 0
abbrev dA:Stmt:=aP (cU 72) 1
abbrev dB:Stmt:=aP (cU 72) 2
abbrev dN:Stmt:=aP (cU 72) 4
abbrev dO:Stmt:=aP (cU 72) 6
abbrev cF:Stmt:=aP (cU 72) 7
abbrev jI:Stmt:=cU 74
abbrev bX:Stmt:=aP (cU 79) 0
abbrev dP:Stmt:=aP (cU 79) 1
abbrev bL:Stmt:=aP (cU 79) 4
abbrev bJ:Stmt:=aP (cU 80) 0
abbrev fO:Stmt:=aP (cU 80) 1
abbrev dQ:Stmt:=aP (cU 80) 2
abbrev cW:Stmt:=aP (cU 80) 3
abbrev fP:Stmt:=aP (cU 80) 4
abbrev bU:Stmt:=aP (cU 84) 0
abbrev gC:Stmt:=aP (cU 84) 1
abbrev dH:Stmt:=aP (cU 84) 2
abbrev bY:Stmt:=aP (cU 84) 3
abbrev cG:Stmt:=aP (cU 84) 4
abbrev dC:Stmt:=aP (cU 84) 5
abbrev fQ:Stmt:=aP (cU 84) 7
abbrev dR:Stmt:=aP (cU 84) 17
abbrev dD:Stmt:=aP (cU 84) 18
abbrev fR:Stmt:=aP (cU 84) 19
abbrev bO:Stmt:=aP (cU 88) 0
abbrev hZ:Stmt:=cU 91
abbrev iA:Stmt:=cU 92
abbrev bZ:Stmt:=cU 93
abbrev fT:Stmt:=cU 94
abbrev iB:Stmt:=cU 95
abbrev gD:Stmt:=cU 96
abbrev cX:Stmt:=cU 97
abbrev eI:Stmt:=cU 98
abbrev cQ:Stmt:=cU 99
abbrev eX:Stmt:=cU 100
abbrev iI:Stmt:=cU 101
theorem cY {N P:List Str} {sc:Scope} (a:sc.kind=.function:=by rfl) (b:sc.isCoroutine=false:=by rfl) (c:sc.isGenerator=false:=by rfl) (d:N.Nodup:=by decide +kernel) (e:N.take P.length=P:=by rfl) (f:∀x∈P,sc.names.lookup x=some .local∨sc.names.lookup x=some .cell:=by decide +kernel) (g:∀y∈sc.names,y.2≠.free:=by decide +kernel):aG N P sc:=⟨a,b,c,d,e,f,g⟩
theorem xU:aG ["thing"] ["thing"] (aB jF):=cY
theorem Cg:aG ["thing"] ["thing"] (aB lA):=cY
theorem vC:aG ["thing","least","most"] ["thing","least","most"] (aB hU):=cY
theorem pU:aG ["thing","signs","longest"] ["thing","signs","longest"] (aB dJ):=cY
theorem xV:aG ["thing"] ["thing"] (aB jG):=cY
theorem tM:aG ["word","names"] ["word","names"] (aB eU):=cY
theorem vD:aG ["deed"] ["deed"] (aB hV):=cY
theorem kD:aG ["deed","add","take"] ["deed"] (aB jH):=cY
theorem iJ:aG ["deed"] ["deed"] (aB cI):=cY
theorem lB:aG ["book","deed","name","by","amount"] ["book","deed"] (aB oH):=cY
theorem pK:aG ["book","deed"] ["book","deed"] (aB cV):=cY
theorem pV:aG ["deed","answer"] ["deed","answer"] (aB fJ):=cY
theorem mJ:aG ["self","life"] ["self","life"] (aB bS):=cY
theorem iC:aG ["self","asker","key","turn","pair","entry"] ["self","asker","key","turn"] (aB gB):=cY
theorem jT:aG ["self","asker","key","number","deed","pair"] ["self","asker","key","number","deed"] (aB fK):=cY
theorem iX:aG ["self","asker","key","turn","answer","entry"] ["self","asker","key","turn","answer"] (aB eE):=cY
theorem vE:aG ["self","pair"] ["self","pair"] (aB hW):=cY
theorem nQ:aG ["self","pair","turn"] ["self","pair","turn"] (aB dL):=cY
theorem vF:aG ["since","life","turn"] ["since","life","turn"] (aB hX):=cY
theorem mK:aG ["self","rows"] ["self","rows"] (aB bT):=cY
theorem pL:aG ["self","name"] ["self","name"] (aB eF):=cY
theorem tO:aG ["self"] ["self"] (aB eW):=cY
theorem cJ:aG ["self","changes","name","by"] ["self","changes"] (aB eG):=cY
theorem iY:aG ["rows","done","asked","came","still"] ["rows"] (aB fL):=cY
theorem gH:aG ["rows","word","told","row"] ["rows","word"] (aB fM):=cY
theorem pW:aG ["rows"] ["rows"] (aB dM):=cY
theorem gJ:aG ["rows","came","book","row"] ["rows","came"] (aB fN):=cY
theorem jU:aG ["rows","came","kept"] ["rows","came"] (aB cP):=cY
theorem jO:aG ["self","text"] ["self","text"] (aB bE):=cY
theorem mL:aG ["self","row"] ["self","row"] (aB dA):=cY
theorem mM:aG ["self"] ["self"] (aB dB):=cY
theorem nV:aG ["self"] ["self"] (aB dN):=cY
theorem nX:aG ["self"] ["self"] (aB dO):=cY
theorem kE:aG ["self","row"] ["self","row"] (aB cF):=cY
theorem iD:aG ["text","rows","place","line"] ["text"] (aB jI):=cY
theorem nY:aG ["self","number","asker","key","deed","stage"] ["self","number","asker","key","deed","stage"] (aB bX):=cY
theorem nZ:aG ["self"] ["self"] (aB dP):=cY
theorem iZ:aG ["self","other"] ["self","other"] (aB bL):=cY
theorem aL:aG ["self","life","turn","up","number","since","asker","key","deed","answer"] ["self","life","turn","up"] (aB bJ):=cY
theorem pX:aG ["self","number","asker","key","deed","stage"] ["self","number","asker","key","deed","stage"] (aB fO):=cY
theorem iK:aG ["self","asker","key","deed","number"] ["self","asker","key","deed"] (aB dQ):=cY
theorem jA:aG ["self","run","holders"] ["self","run"] (aB cW):=cY
theorem jV:aG ["self","number","turn","answer","run"] ["self","number","turn","answer"] (aB fP):=cY
theorem mN:aG ["self","name","life","houses"] ["self","name","life","houses"] (aB bU):=cY
theorem cR:aG ["self","turn","asker","key","deed","memory","house","there","seen","number"] ["self","turn","asker","key","deed"] (aB gC):=cY
theorem iE:aG ["self","number","way","memory","run"] ["self","number","way"] (aB dH):=cY
theorem fI:aG ["self","run","answer"] ["self","run"] (aB bY):=cY
theorem kG:aG ["self","run","answer"] ["self","run","answer"] (aB cG):=cY
theorem mO:aG ["self","run","way","ask","word"] ["self","run","way"] (aB dC):=cY
theorem cZ:aG ["self","memory","safe","told","row"] ["self"] (aB fQ):=cY
theorem jW:aG ["self","runs"] ["self"] (aB dR):=cY
theorem mP:aG ["self","name"] ["self","name"] (aB dD):=cY
theorem pY:aG ["self"] ["self"] (aB fR):=cY
theorem lC:aG ["self","rows","closed","name"] ["self","rows","closed"] (aB bO):=cY
theorem vG:aG ["_law_script"] ["_law_script"] (aB hZ):=cY
theorem eY:aG ["_law_deck_here","_law_many","_law_cell","_law_number"] ["_law_deck_here","_law_many"] (aB iA):=cY
theorem cE:aG ["_law_deck_here","_law_signs","_law_longest","_law_many","_law_word","_law_size","_law_at","_law_first","_law_ends"] ["_law_deck_here","_law_signs","_law_longest","_law_many"] (aB bZ):=cY
theorem pZ:aG ["_law_deck_here"] ["_law_deck_here"] (aB fT):=cY
theorem cK:aG ["_law_deck_here","_law_names_here","_law_houses","_law_one","_law_there","_law_at","_law_amount_here","_law_some"] ["_law_deck_here","_law_names_here","_law_houses"] (aB iB):=cY
theorem tP:aG ["_law_deed_here"] ["_law_deed_here"] (aB gD):=cY
theorem jB:aG ["_law_table","_law_number","_law_other"] ["_law_table","_law_number"] (aB cX):=cY
theorem bC:aG ["_law_door","_law_table","_law_number","_law_asker","_law_key","_law_deed_here","_law_stage","_law_found","_law_other","_law_word","_law_then"] ["_law_door","_law_table","_law_number"] (aB eI):=cY
theorem eJ:aG ["_law_door","_law_table","_law_due","_law_told","_law_row"] ["_law_door","_law_table"] (aB cQ):=cY
theorem lD:aG ["_law_door","_law_table","_law_told"] ["_law_door","_law_table"] (aB eX):=cY
theorem dE:aG ["_law_script","_law_deck_here","_law_letters","_law_names_here","_law_houses","_law_door","_law_table","_law_count","_law_asked","_law_begun","_law_k","_law_deed_here","_law_some"] ["_law_script"] (aB iI):=cY
structure Txt (K:W.Frag) (mg:Str->Option Value):Prop where
 b_any:mg "any"=none
 b_isinstance:mg "isinstance"=none
 b_int:mg "int"=none
 b_bool:mg "bool"=none
 b_str:mg "str"=none
 b_len:mg "len"=none
 b_all:mg "all"=none
 b_tuple:mg "tuple"=none
 b_dict:mg "dict"=none
 b_sorted:mg "sorted"=none
 b_max:mg "max"=none
 b_list:mg "list"=none
 b_enumerate:mg "enumerate"=none
 b_sum:mg "sum"=none
 b_range:mg "range"=none
 g_LETTERS:∃t,mg "LETTERS"=some (.str ("abcdefghijklmnopqrstuvwxyz") t)
 g_FIGURES:∃t,mg "FIGURES"=some (.str ("0123456789") t)
 g_LONGEST_NAME:∃t,mg "LONGEST_NAME"=some (.int (8) t)
 g_LONGEST_KEY:∃t,mg "LONGEST_KEY"=some (.int (12) t)
 g_MOST:∃t,mg "MOST"=some (.int (1000000000000) t)
 g_LONGEST_DOOR_NAME:∃t,mg "LONGEST_DOOR_NAME"=some (.int (5) t)
structure Ya (Pm:Params) (K:W.Frag) (mg:Str->Option Value):Prop where
 g_NAME_COUNTS:∃a,mg "NAME_COUNTS"=some (.ref a)/\KTab K Pm a (WS)
 g_UNLIKE_WORDS:∃a,mg "UNLIKE_WORDS"=some (.ref a)/\∀H,SqT K H a (UW)
 g_WAYS:∃a,mg "WAYS"=some (.ref a)/\∀H,SqT K H a ([V.str "through",V.str "lost",V.str "unheard"])
section
variable {P:Program} {w:World} {K:W.Frag} {mg:Str->Option Value} {base:Heap}
theorem Lz (T:Txt K mg) (D:DefAt K mg "is_made_of" dJ ["thing","signs","longest"]):aI P w K mg base 1 "is_made_of" ["thing","signs","longest"] xL:=by
 refine D.go pU (fun vs H Q E h=>?_) (fun f cdv A outer s H vs Q E hr h=>?_)
 ·obtain⟨x,sg,n,k,rfl,_⟩:=h;rfl
 ·obtain⟨x,sg,n,k,rfl,hk,hz,q⟩:=h
  refine⟨_,(R.ad (R.ar (R.tw (R.cj (R.bp (R.bn (R.cz .str (R.v 0) rfl T.b_isinstance rfl T.b_str sW))) (R.ck (R.bp (R.fw R.le R.le R.ac (R.ax R.de rfl T.b_len cH (R.aa (R.v 0) R.ab)) (R.v 2)))))) (R.ae (R.af R.bl)) R.au) (R.ae (R.af (R.ax (R.gf (K:=K) rfl) rfl T.b_all Fl (R.aa (R.bi rfl (js:=[none,some 1]) (N:=["sign","signs"]) (CompScope.by (aB dJ) ["thing","signs","longest"] rfl rfl Zk) (aO rfl) (R.wS (R.v 0)) (fun C s₂ H₂ fp=>⟨(R.gn (i:=0) (show(["sign","signs"]:List Str).Nodup by decide +kernel)),R.br,(R.bv R.ic (R.v 0) (R.v 1))⟩)) R.ab))))),?_⟩
  have no:Ve .str k=false->dW x sg.cps.toList n=false:=fun e=>by
   cases x <;> first | rfl | (cases k <;> first | exact hk.elim | cases e)
  refine⟨k,hk,?_⟩
  cases x with
  | str z=>
   cases k <;> first | exact hk.elim | skip
   have hz1:=hz z rfl
   refine⟨kB hz1,?_⟩
   refine fX (fun h1=>?_) (fun h1=>?_)
   ·refine fX (fun h2=>?_) (fun h2=>?_)
    ·have e:dW (.str z) sg.cps.toList n=false:=by
      rw[fY];have h2':decide ((z.length:Int)<=n)=false:=by simpa using h2
      rw[h2'];simp
     have h:=q H (Same.refl H)
     rw[e]at h;exact h
    ·refine⟨z,rfl,Bp (Lc z) (by simp [qS,Str.length]at hz1 ⊢;omega) (fun _=>true) (fun v=>match v with | .str y=>.bl (decide (y.cps.toList.headD 0∈sg.cps.toList)) | _=>.non) trivial (fun v ys N hv ht hf=>?_) ?_⟩
     ·obtain⟨c,hc,rfl⟩:=Zmm.mp hv
      exact⟨c,rfl,ht rfl⟩
     ·intro p hp;refine⟨p,z.cps.toList.map (fun c=>decide (c∈sg.cps.toList)),rfl,SqL.of (by rw[aA,List.filter_eq_self.mpr (fun _ _=>rfl)];unfold qS;rw[List.map_map,List.map_map];rfl),?_⟩
      have e:dW (.str z) sg.cps.toList n=List.all (z.cps.toList.map (fun c=>decide (c∈sg.cps.toList))) id:=by
       rw[fY];have h2':decide ((z.length:Int)<=n)=true:=by simpa using h2
       have h1':decide (1<=(z.length:Int))=true:=h1
       rw[h2',h1',List.all_map];simp [Function.comp_def]
      rw[<- e];exact q _ (fun c o e=>by rw[aD (aE e hp)];exact e)
   ·have e:dW (.str z) sg.cps.toList n=false:=by
     rw[fY];have h1':decide (1<=(z.length:Int))=false:=h1
     rw[h1'];simp
    have h:=q H (Same.refl H)
    rw[e]at h;exact h
  | _=>
   cases k <;> first | exact hk.elim | exact q H (Same.refl H)
theorem xW (T:Txt K mg) (c_is_made_of:aI P w K mg base 1 "is_made_of" ["thing","signs","longest"] xL) (D:DefAt K mg "is_name" jF ["thing"]):aI P w K mg base 2 "is_name" ["thing"] (lW LET 8):=by
 refine D.go xU (fun vs H Q E h=>?_) (fun f cdv A outer s H vs Q E hr h=>?_)
 ·obtain⟨x,k,rfl,_⟩:=h;rfl
 ·obtain⟨x,k,rfl,hk,hz,q⟩:=h
  have hr_is_made_of:=hr
  refine⟨_,(R.ae (R.af (R.fn c_is_made_of hr_is_made_of rfl (R.aa (R.v 0) (R.aa (R.gS rfl T.g_LETTERS) (R.aa (R.gI rfl T.g_LONGEST_NAME) R.ab)))))),?_⟩
  refine⟨x,_,8,k,rfl,hk,hz,fun H' s'=>?_⟩
  rw[xK];exact q H' s'
theorem Ch (T:Txt K mg) (c_is_made_of:aI P w K mg base 1 "is_made_of" ["thing","signs","longest"] xL) (D:DefAt K mg "is_key" lA ["thing"]):aI P w K mg base 2 "is_key" ["thing"] (lW (LET++Np) 12):=by
 refine D.go Cg (fun vs H Q E h=>?_) (fun f cdv A outer s H vs Q E hr h=>?_)
 ·obtain⟨x,k,rfl,_⟩:=h;rfl
 ·obtain⟨x,k,rfl,hk,hz,q⟩:=h
  have hr_is_made_of:=hr
  refine⟨_,(R.ae (R.af (R.fn c_is_made_of hr_is_made_of rfl (R.aa (R.v 0) (R.aa (R.op R.eh (R.gS rfl T.g_LETTERS) (R.gS rfl T.g_FIGURES)) (R.aa (R.gI rfl T.g_LONGEST_KEY) R.ab)))))),?_⟩
  refine⟨Zk,x,_,12,k,rfl,hk,hz,fun H' s'=>?_⟩
  rw[Ko,xK,Rq];exact q H' s'
theorem He (T:Txt K mg) (D:DefAt K mg "is_whole" hU ["thing","least","most"]):aI P w K mg base 1 "is_whole" ["thing","least","most"] zJ:=by
 refine D.go vC (fun vs H Q E h=>?_) (fun f cdv A outer s H vs Q E hr h=>?_)
 ·obtain⟨x,lo,hi,rfl,_⟩:=h;rfl
 ·obtain⟨x,lo,hi,rfl,⟨k,hk,hz⟩,q⟩:=h
  refine⟨_,(R.ad (R.ar (R.tw (R.cj (R.bp (R.bn (R.cz .int (R.v 0) rfl T.b_isinstance rfl T.b_int Rl))) (R.ck (R.bn (R.cz .bl (R.v 0) rfl T.b_isinstance rfl T.b_bool Lb))))) (R.ae (R.af R.bl)) R.au) (R.ae (R.af (R.ie R.le R.le (R.v 1) (R.v 0) (R.v 2))))),?_⟩
  have h:=q H (Same.refl H)
  refine⟨k,hk,?_⟩
  cases x with
  | int n=>
   cases k <;> first | exact hk.elim | skip
   refine⟨.int,trivial,?_⟩
   show if decide (lo<=n)=true then _ else _
   have e:uS lo hi (.int n)=(decide (lo<=n)&&decide (n<=hi)):=rfl
   refine fX (fun h1=>?_) (fun h1=>?_)
   ·rw[e,h1,Bool.true_and]at h;exact h
   ·rw[e,h1,Bool.false_and]at h;exact h
  | bl b=>
   cases k <;> first | exact hk.elim | skip
   exact⟨.bl,trivial,h⟩
  | _=>cases k <;> first | exact hk.elim | exact h
theorem Ma (T:Txt K mg) (U:Ya w.params K mg) (c_is_name:aI P w K mg base 2 "is_name" ["thing"] (lW LET 8)) (D:DefAt K mg "fits_word" eU ["word","names"]):aI P w K mg base 3 "fits_word" ["word","names"] Fx:=by
 refine D.go tM (fun vs H Q E h=>?_) (fun f cdv A outer s H vs Q E hr h=>?_)
 ·obtain⟨x,a,ns,rfl,_⟩:=h;rfl
 ·obtain⟨x,a,ns,rfl,⟨k,hk,hz⟩,ha,hns,hp,q⟩:=h
  have hr_is_name:=hr
  obtain⟨aN,m_NAME_COUNTS,tN⟩:=U.g_NAME_COUNTS
  obtain⟨aU,m_UNLIKE_WORDS,tU⟩:=U.g_UNLIKE_WORDS
  refine⟨_,(R.ad (R.ar (R.tw (R.cj (R.bp (R.bn (R.cz .str (R.v 0) rfl T.b_isinstance rfl T.b_str sW))) (R.ck (R.aj (R.ig (K:=K) (P:=w.params)) (R.v 0) (R.gR rfl m_NAME_COUNTS))))) (R.ae (R.af R.bl)) R.au) (R.ad (R.ar (R.tw (R.cj (R.aj R.ne (R.ax (R.bw (K:=K)) rfl T.b_len cH (R.aa (R.v 1) R.ab)) (R.ix (R.ii (K:=K) (P:=w.params)) (R.gR rfl m_NAME_COUNTS) (R.v 0))) (R.ck (R.bp (R.bn (R.ax (R.gf (K:=K) rfl) rfl T.b_all Fl (R.aa (R.bi rfl (js:=[none]) (N:=["name"]) (CompScope.by (aB eU) ["word","names"] rfl rfl Zk) (aO rfl) (R.cq (K:=K) (R.v 1)) (fun C s₂ H₂ fp=>⟨(R.gn (i:=0) (show(["name"]:List Str).Nodup by decide +kernel)),R.br,(R.fn c_is_name hr_is_name rfl (R.aa (R.v 0) R.ab))⟩)) R.ab))))))) (R.ae (R.af R.bl)) R.au) (R.ae (R.af (R.or (R.bv (R.eo (K:=K)) (R.v 0) (R.gR rfl m_UNLIKE_WORDS)) (R.gg (R.bv R.ne (R.ix (R.ag (K:=K)) (R.v 1) R.ac) (R.ix (R.ag (K:=K)) (R.v 1) R.ac)))))))),?_⟩
  have h:=q H (Same.refl H)
  refine⟨k,hk,?_⟩
  cases x with
  | str z=>
   cases k <;> first | exact hk.elim | skip
   refine⟨WS,tN,?_⟩
   show if (!(WS.lookup z).isSome)=true then _ else _
   cases e:WS.lookup z with
   | none=>
    have e2:eR (.str z) ns=false:=by unfold eR;simp only [e]
    rw[e2]at h;exact h
   | some i=>
    have e2:eR (.str z) ns=(decide ((ns.length:Int)=i)&&ns.all qT&&(!rY (.str z) UW||!decide (lM ns 0=lM ns 1))):=by unfold eR;simp only [e]
    refine⟨ns,.inr (SqT.of ha),WS,i,tN,e,?_⟩
    refine fX (fun h1=>?_) (fun h1=>?_)
    ·have h1':decide ((ns.length:Int)=i)=false:=by simpa using h1
     rw[e2,h1']at h;exact h
    ·have h1':decide ((ns.length:Int)=i)=true:=by simpa using h1
     refine⟨a,rfl,⟨_,SqT.of ha⟩,?_⟩
     refine bB (gX K a ns) Zo (fun j ys H'=>ys=(ns.take j).map (fun y=>V.bl (qT y))/\Same H H') (fun j ys H' ⟨e3,s3⟩=>⟨SqT.of (s3 _ _ ha),by rw[e3,bN,oC];omega⟩) ⟨rfl,Same.refl H⟩ (fun j y ys H' hy ⟨e3,s3⟩=>?_) (fun ys H' ⟨e3,s3⟩=>?_)
     ·obtain⟨ky,hky,hzy⟩:=(hp y (kK hy)).same s3
      refine⟨y,ky,rfl,hky,hzy,fun H'' s''=>⟨?_,s3.trans s''⟩⟩
      rw[List.take_add_one,hy,iG,e3];rfl
     ·intro p hpn;rw[Jb (cA _)]at e3;have hs:Same H (aH H' p (.lst ys)):=s3.trans (aF hpn)
      refine⟨p,ns.map qT,rfl,SqL.of (by rw[aA,e3,List.map_map];rfl),?_⟩
      have e4:List.all (ns.map qT) id=ns.all qT:=by rw[List.all_map];rfl
      have h5:=q _ hs
      dsimp only;rw[e4];cases e5:ns.all qT with
      | false=>
       rw[e2,h1',e5]at h5;exact h5
      | true=>
       rw[e2,h1',e5]at h5;refine⟨aU,UW,rfl,.inr (tU _),rfl,rfl,?_⟩
       show if (!rY (.str z) UW)=true then _ else _
       cases e6:rY (.str z) UW with
       | false=>
        rw[e6]at h5;exact h5
       | true=>
        rw[e6]at h5;have i2:=Vp e e6
        have hl:(ns.length:Int)=i:=of_decide_eq_true h1'
        obtain⟨y0,hy0,m0⟩:=kU (xs:=ns) (i:=0) Zd Zo
        obtain⟨y1,hy1,m1⟩:=kU (xs:=ns) (i:=1) Zd Zo
        have n0:=List.all_eq_true.mp e5 y0 m0
        have n1:=List.all_eq_true.mp e5 y1 m1
        refine⟨ns,SqT.of (hs _ _ ha),y0,hy0,ns,SqT.of (hs _ _ ha),y1,hy1,?_⟩
        rw[hy0,hy1]at h5;cases y0 <;> first | (unfold qT dW at n0;exact absurd n0 Bool.false_ne_true) | skip
        cases y1 <;> first | (unfold qT dW at n1;exact absurd n1 Bool.false_ne_true) | skip
        rename_i z0 z1
        have e7:decide (some (V.str z0)=some (V.str z1))=decide (z0=z1):=by
         rw[decide_eq_decide];constructor
         ·intro e8;injection e8 with e8;injection e8
         ·intro e8;rw[e8]
        rw[e7]at h5;exact h5
  | _=>cases k <;> first | exact hk.elim | exact h
theorem xX (T:Txt K mg) (c_fits_word:aI P w K mg base 3 "fits_word" ["word","names"] Fx) (c_is_whole:aI P w K mg base 1 "is_whole" ["thing","least","most"] zJ) (D:DefAt K mg "is_deed" jG ["thing"]):aI P w K mg base 4 "is_deed" ["thing"] uT:=by
 refine D.go xV (fun vs H Q E h=>?_) (fun f cdv A outer s H vs Q E hr h=>?_)
 ·obtain⟨x,rfl,_⟩:=h;rfl
 ·obtain⟨x,rfl,⟨⟨k,hk,hz⟩,hp⟩,hlen,q⟩:=h
  have hr_fits_word:=hr
  have hr_is_whole:Room 1 _:=hr.mono Zd
  refine⟨_,(R.ad (R.ar (R.tw (R.cj (R.bp (R.bn (R.cz .tup (R.v 0) rfl T.b_isinstance rfl T.b_tuple oX))) (R.ck (R.aj R.lt (R.ax (R.bw (K:=K)) rfl T.b_len cH (R.aa (R.v 0) R.ab)) R.ac)))) (R.ae (R.af R.bl)) R.au) (R.ae (R.af (R.ij (R.fn c_fits_word hr_fits_word rfl (R.aa (R.ix (R.ag (K:=K)) (R.v 0) R.ac) (R.aa (R.sl R.sT (R.v 0) (R.ps R.ac) (R.ps (R.bb R.ac))) R.ab))) (R.gg (R.fn c_is_whole hr_is_whole rfl (R.aa (R.ix (R.ag (K:=K)) (R.v 0) (R.bb R.ac)) (R.aa R.ac (R.aa (R.gI rfl T.g_MOST) R.ab))))))))),?_⟩
  have h:=q H (Same.refl H)
  refine⟨k,hk,?_⟩
  cases x with
  | ref a=>
   cases k <;> first | exact hk.elim | skip
   case tup=>
    obtain⟨xs,hx⟩:=hk
    have hpx:=hp a xs rfl hx
    have hlx:=hlen a xs rfl hx
    have eV:pA H (.ref a)=jR xs:=by unfold pA;simp only [hx]
    refine⟨xs,.inr (SqT.of hx),?_⟩
    refine fX (fun h1=>?_) (fun h1=>?_)
    ·have h1':((xs.length:Int)<3):=of_decide_eq_true h1
     have e1:jR xs=false:=by
      unfold jR;rw[decide_eq_false Zo];rfl
     rw[eV,e1]at h;exact h
    ·have h1':¬ ((xs.length:Int)<3):=of_decide_eq_false h1
     have h3:3<=xs.length:=by omega
     obtain⟨y0,hy0,m0⟩:=kU (xs:=xs) (i:=0) Zd Zo
     refine⟨xs,SqT.of hx,y0,hy0,xs,hx,fun p H1 s1 g1=>?_⟩
     refine⟨y0,p,_,rfl,(hpx y0 m0).same s1,g1,?_,fun y hy=>(hpx y (Li h3 hy)).same s1,fun H2 s2=>?_⟩
     ·have:=Lh h3
      unfold sY at this;omega
     have e2:jR xs=(eR y0 (sY xs)&&uS 1 1000000000000 ((lM xs (-1)).getD .non)):=by
      unfold jR;rw[decide_eq_true h3,hy0];rfl
     have hs:=s1.trans s2
     have h5:=q H2 hs
     show if eR y0 (sY xs)=true then _ else _
     cases e3:eR y0 (sY xs) with
     | false=>
      rw[eV,e2,e3]at h5;exact h5
     | true=>
      rw[eV,e2,e3]at h5;obtain⟨yl,hyl,ml⟩:∃v,lM xs (-1)=some v/\v∈xs:=by
       have hj:xs.length - 1<xs.length:=by omega
       refine⟨xs[xs.length - 1],?_,List.getElem_mem hj⟩
       unfold lM Nh;rw[if_neg Zd,if_pos Zo]
       have:((-1:Int)+(xs.length:Int)).toNat=xs.length - 1:=by omega
       simp [this,hj]
      refine⟨xs,SqT.of (hs _ _ hx),yl,hyl,?_⟩
      refine⟨yl,1,1000000000000,rfl,(hpx yl ml).same hs,fun H3 s3=>?_⟩
      have h6:=q H3 (hs.trans s3)
      rw[eV,e2,e3,hyl]at h6;exact h6
   all_goals
    have e1:pA H (.ref a)=false:=by
     unfold pA;first
      | (rcases hk with⟨xs,e⟩ | ⟨o,xs,e⟩ <;> simp only [e])
      | (obtain⟨kvs,e⟩:=hk;simp only [e])
    rw[e1]at h;exact h
  | _=>cases k <;> first | exact hk.elim | exact h
theorem Mb (T:Txt K mg) (D:DefAt K mg "asks_of" jH ["deed"]):aI P w K mg base 1 "asks_of" ["deed"] xP:=by
 refine D.go kD (fun vs H Q E h=>?_) (fun f cdv A outer s H vs Q E hr h=>?_)
 ·obtain⟨p,wd,xs,cs,as,rfl,_⟩:=h;rfl
 ·obtain⟨p,wd,xs,cs,as,rfl,hp,⟨one,other,nm,n,hd⟩,q⟩:=h
  refine⟨_,(R.ad (R.av (i:=1) kD.nd (R.ap (R.aa R.ah (R.aa (R.ix (R.ag (K:=K)) (R.v 0) (R.bb R.ac)) (R.aa (R.ix (R.ag (K:=K)) (R.v 0) (R.bb R.ac)) R.ab))))) (R.ad (R.av (i:=2) kD.nd (R.ap (R.aa R.ah (R.aa (R.ix (R.ag (K:=K)) (R.v 0) (R.bb R.ac)) (R.aa (R.ix (R.ag (K:=K)) (R.v 0) (R.bb R.ac)) R.ab))))) (R.ad (R.ar (R.aj R.eq (R.ix (R.ag (K:=K)) (R.v 0) R.ac) R.ah) (R.ae (R.af (R.ap (R.aa (R.ap (R.aa (R.ix (R.ag (K:=K)) (R.v 0) R.ac) (R.aa (R.v 1) R.ab))) R.ab)))) R.au) (R.ad (R.ar (R.aj R.eq (R.ix (R.ag (K:=K)) (R.v 0) R.ac) R.ah) (R.ae (R.af (R.ap (R.aa (R.ap (R.aa (R.ix (R.ag (K:=K)) (R.v 0) R.ac) (R.aa (R.v 2) R.ab))) R.ab)))) R.au) (R.ad (R.ar (R.aj R.eq (R.ix (R.ag (K:=K)) (R.v 0) R.ac) R.ah) (R.ae (R.af (R.ap (R.aa (R.ap (R.aa (R.ix (R.ag (K:=K)) (R.v 0) R.ac) (R.aa (R.v 2) R.ab))) (R.aa (R.ap (R.aa (R.ix (R.ag (K:=K)) (R.v 0) R.ac) (R.aa (R.v 1) R.ab))) R.ab))))) R.au) (R.ae (R.af (R.ap R.ab)))))))),?_⟩
  cases hd
  all_goals
   refine⟨_,SqT.of hp,_,rfl,_,SqT.of hp,_,rfl,Zs,fun p1 H1 s1 g1=>⟨_,SqT.of (s1 _ _ hp),_,rfl,_,SqT.of (s1 _ _ hp),_,rfl,Zs,fun p2 H2 s2 g2=>?_⟩⟩
   have hp2:=(s1.trans s2) _ _ hp
   refine⟨_,SqT.of hp2,_,rfl,?_⟩
  case send=>exact⟨_,SqT.of hp2,_,rfl,Zs,fun p3 H3 s3 g3=>⟨Zs,fun p4 H4 s4 g4=>q p4 _ H4 (((s1.trans s2).trans s3).trans s4) g4 (.cons ⟨p3,p1,rfl,s4 _ _ g3,s4 _ _ (s3 _ _ (s2 _ _ g1))⟩ .nil)⟩⟩
  all_goals refine⟨_,SqT.of hp2,_,rfl,?_⟩
  case fetch=>exact⟨_,SqT.of hp2,_,rfl,Zs,fun p3 H3 s3 g3=>⟨Zs,fun p4 H4 s4 g4=>q p4 _ H4 (((s1.trans s2).trans s3).trans s4) g4 (.cons ⟨p3,p2,rfl,s4 _ _ g3,s4 _ _ (s3 _ _ g2)⟩ .nil)⟩⟩
  all_goals refine⟨_,SqT.of hp2,_,rfl,?_⟩
  case pass=>
   refine⟨_,SqT.of hp2,_,rfl,Zs,fun p3 H3 s3 g3=>⟨_,SqT.of (s3 _ _ hp2),_,rfl,Zs,fun p4 H4 s4 g4=>⟨Zs,fun p5 H5 s5 g5=>?_⟩⟩⟩
   exact q p5 _ H5 ((((s1.trans s2).trans s3).trans s4).trans s5) g5 (.cons ⟨p3,p2,rfl,s5 _ _ (s4 _ _ g3),s5 _ _ (s4 _ _ (s3 _ _ g2))⟩ (.cons ⟨p4,p1,rfl,s5 _ _ g4,s5 _ _ (s4 _ _ (s3 _ _ (s2 _ _ g1)))⟩ .nil))
  all_goals exact⟨Zd,fun p3 H3 s3 g3=>q p3 [] H3 ((s1.trans s2).trans s3) g3 .nil⟩
theorem Hf {C:Addr} (B:Sd K C) (D:ClsAt K mg "Keys" C "Keys.__init__" bS ["self","life"] [[]]):∀d∈([[]]:List (List V)),tY P w K mg base 1 "Keys" C ["self","life"] d (zT C):=by
 refine D.go mJ (fun vs H Q E h=>?_) (fun f cdv A outer s H vs Q E hr h=>?_)
 ·obtain⟨p,dx,life,rfl,_⟩:=h;rfl
 ·obtain⟨p,dx,life,rfl,hp,q⟩:=h
  refine⟨_,(R.ad (R.aw (K:=K) (R.v 0) (R.v 1)) (R.ad (R.aw (K:=K) (R.v 0) R.ed) (R.ae (R.aw (K:=K) (R.v 0) R.ed)))),?_⟩
  refine⟨C,dx,[],hp,B.cl,B.nL,(by show 0<1000;decide),?_⟩
  have e0:bG "life" (.int life) []=[(("life":Str),V.int life)]:=rfl
  dsimp only;rw[e0];intro d1 hd1;have g0:(aH H p (.ins C dx [("life",.int life)])) p=some (.ins C dx [("life",.int life)]):=aA
  have k0:∀b o,H b=some o->b≠p->(aH H p (.ins C dx [("life",.int life)])) b=some o:=fun b o e hb=>by rw[aD hb];exact e
  have f1:H d1=none:=by
   cases e:H d1 with
   | none=>rfl
   | some o=>
    by_cases z:d1=p
    ·rw[z,g0]at hd1;cases hd1
    ·rw[k0 _ _ e z]at hd1;cases hd1
  generalize aH H p (.ins C dx [("life",.int life)])=H0 at g0 k0 hd1 ⊢;have np1:=aE g0 hd1
  refine⟨C,dx,_,(by rw[aD np1];exact g0),B.cl,B.nB,(by show 1<1000;decide),?_⟩
  have e1:bG "begun_ones" (.ref d1) [(("life":Str),V.int life)]=[(("life":Str),V.int life),("begun_ones",.ref d1)]:=by
   unfold bG;rw[if_neg Zk];rfl
  dsimp only;rw[e1];have g1:(aH (aH H0 d1 (.dT [])) p (.ins C dx [("life",.int life),("begun_ones",.ref d1)])) p=some (.ins C dx [("life",.int life),("begun_ones",.ref d1)]):=aA
  have a1:(aH (aH H0 d1 (.dT [])) p (.ins C dx [("life",.int life),("begun_ones",.ref d1)])) d1=some (.dT []):=by rw[aD np1.symm];exact aA
  have k1:∀b o,H0 b=some o->b≠p->(aH (aH H0 d1 (.dT [])) p (.ins C dx [("life",.int life),("begun_ones",.ref d1)])) b=some o:=fun b o e hb=>by rw[aD hb,aD (aE e hd1)];exact e
  generalize aH (aH H0 d1 (.dT [])) p (.ins C dx [("life",.int life),("begun_ones",.ref d1)])=H1 at g1 a1 k1 ⊢;intro d2 hd2;have np2:=aE g1 hd2
  refine⟨C,dx,_,(by rw[aD np2];exact g1),B.cl,B.nS,(by show 2<1000;decide),?_⟩
  have e2:bG "settled_ones" (.ref d2) [(("life":Str),V.int life),("begun_ones",.ref d1)]=[(("life":Str),V.int life),("begun_ones",.ref d1),("settled_ones",.ref d2)]:=by
   unfold bG;rw[if_neg Zk];unfold bG;rw[if_neg Zk];rfl
  dsimp only;rw[e2];have n12:d1≠d2:=aE a1 hd2
  have f2:H d2=none:=by
   cases e:H d2 with
   | none=>rfl
   | some o=>rw[k1 _ _ (k0 _ _ e np2.symm) np2.symm]at hd2;cases hd2
  refine q _ ⟨dx,d1,d2⟩ f1 f2 ⟨aA,⟨[],?_,Dic.nil⟩,⟨[],?_,Dic.nil⟩,n12⟩ (fun b o e hb=>?_)
  ·show(aH _ p _) d1=_
   rw[aD np1.symm,aD n12];exact a1
  ·show(aH _ p _) d2=_
   rw[aD np2.symm];exact aA
  ·rw[aD hb,aD (aE (k1 _ _ (k0 _ _ e hb) hb) hd2)];exact k1 _ _ (k0 _ _ e hb) hb
theorem Hg (D:DefAt K mg "is_alive" hX ["since","life","turn"]):aI P w K mg base 1 "is_alive" ["since","life","turn"] zU:=by
 refine D.go vF (fun vs H Q E h=>?_) (fun f cdv A outer s H vs Q E hr h=>?_)
 ·obtain⟨t,l,n,rfl,_⟩:=h;rfl
 ·obtain⟨t,l,n,rfl,q⟩:=h
  refine⟨_,(R.ae (R.af (R.bv R.gt (R.op R.ba (R.v 0) (R.v 1)) (R.v 2)))),?_⟩
  exact q
def rA (C:Addr):Sp:=fun vs H Q _=>∃(p:Addr) (a:KF) (life:Int) (m:KM) (L:Nat) (sk:List (List aZ × V)) (t:Addr) (q:Str × Str) (now n w:Int) (d z:Addr),vs=[.ref p,.ref t,.int now]/\H p=some (.ins C a.dx (zS a life))/\Rd H a.ds (.dT sk)/\Dic H sk m fS L/\H t=some (.tup [.str q.1,.str q.2])/\m q=some (.kept n w d z)/\Q (.bl (decide (w+life > now))) H
theorem DGet.rd {H:Hp} {a b:Addr} {kvs:List (List aZ × V)} {k:List aZ} (e:Rd H a (.dT kvs)) (eb:H b=some (.tup (k.map kV))):DGet H a (.ref b) (aX kvs k):=.inr ⟨kvs,k,b,e,rfl,eb,rfl⟩
theorem Ci {C:Addr} (B:Sd K C) (c_is_alive:aI P w K mg base 1 "is_alive" ["since","life","turn"] zU) (D:MethAt K C "is_kept" "Keys.is_kept" dL ["self","pair","turn"]):cT P w K mg base 2 C "is_kept" ["self","pair","turn"] (rA C):=by
 refine D.go nQ (fun vs H Q E h=>?_) (fun f cdv A outer s H vs Q E hr h=>?_)
 ·obtain⟨p,a,life,m,L,sk,t,q,now,n,w',d,z,rfl,_⟩:=h;rfl
 ·obtain⟨p,a,life,m,L,sk,t,q,now,n,w',d,z,rfl,hp,gs,ds,gt,hm,Q0⟩:=h
  obtain⟨u,hv,gu⟩:=ds.at hm (rfl:fS (.kept n w' d z)=some _)
  have hu1:=cS hr
  have hr_is_alive:=hr
  have dg:=DGet.rd gs (gG gt)
  rw[hv]at dg;refine⟨_,(R.ae (R.af (R.fn c_is_alive hr_is_alive rfl (R.aa (R.ix (R.ag (K:=K)) (R.bh hu1 (R.aq (K:=K) (R.v 0)) (R.v 1)) R.ac) (R.aa (R.aq (K:=K) (R.v 0)) (R.aa (R.v 2) R.ab)))))),?_⟩
  exact⟨C,a.dx,_,.ref a.ds,hp,B.cl,B.nS,Cb a life,a.ds,.ref u,rfl,dg,_,SqT.of gu,_,rfl,C,a.dx,_,.int life,hp,B.cl,B.nL,Xz a life,w',life,now,rfl,Q0⟩
theorem Mc {C:Addr} (B:Sd K C) (c_Keys_is_kept:cT P w K mg base 2 C "is_kept" ["self","pair","turn"] (rA C)) (D:MethAt K C "look" "Keys.look" gB ["self","asker","key","turn"]):cT P w K mg base 3 C "look" ["self","asker","key","turn"] (Gv C):=by
 refine D.go iC (fun vs H Q E h=>?_) (fun f cdv A outer s H vs Q E hr h=>?_)
 ·obtain⟨p,a,life,m,L,q,now,rfl,_⟩:=h;rfl
 ·obtain⟨p,a,life,m,L,q,now,rfl,ht,Q0⟩:=h
  have hu1:=cS hr
  have hr_Keys_is_kept:=hr
  refine⟨_,(R.ad (R.av (i:=4) iC.nd (R.ap (R.aa (R.v 1) (R.aa (R.v 2) R.ab)))) (R.ad (R.ar (R.aj (R.dn hu1) (R.v 4) (R.aq (K:=K) (R.v 0))) (R.ae (R.af (R.op R.dh (R.ap (R.aa R.ah R.ab)) (R.bh hu1 (R.aq (K:=K) (R.v 0)) (R.v 4))))) R.au) (R.ad (R.ar (R.tw (R.cr (R.aj (R.dn hu1) (R.v 4) (R.aq (K:=K) (R.v 0))) (R.cu (R.bn (R.bc c_Keys_is_kept hr_Keys_is_kept (R.v 0) (R.aa (R.v 4) (R.aa (R.v 3) R.ab))))))) (R.ad (R.av (i:=5) iC.nd (R.bh hu1 (R.aq (K:=K) (R.v 0)) (R.v 4))) (R.ae (R.af (R.ap (R.aa R.ah (R.aa (R.ix (R.ag (K:=K)) (R.v 5) R.ac) (R.aa (R.ix (R.ag (K:=K)) (R.v 5) R.ac) (R.aa (R.ix (R.ag (K:=K)) (R.v 5) R.ac) R.ab)))))))) R.au) (R.ae (R.af (R.ap (R.aa R.ah R.ab))))))),?_⟩
  refine⟨Zs,fun t G s1 gt=>?_⟩
  dsimp only [aJ];have ht1:=ht.same s1
  obtain⟨bk,gb,db⟩:=ht1.hb
  obtain⟨sk,gs,ds⟩:=ht1.hs
  have dgb:=DGet.t gb (gG gt)
  have dgs:=DGet.t gs (gG gt)
  cases hm:m q with
  | none=>
   rw[db.no (fun e z=>by rw[hm]at z;cases z)]at dgb
   rw[ds.no (fun e z=>by rw[hm]at z;cases z)]at dgs
   rw[hm]at Q0;refine⟨C,a.dx,_,.ref a.db,ht1.hp,B.cl,B.nB,tJ a life,none,dgb,?_⟩
   refine⟨C,a.dx,_,.ref a.ds,ht1.hp,B.cl,B.nS,Cb a life,none,dgs,?_⟩
   exact⟨Zs,fun t2 G2 s2 g2=>Q0 t2 G2 (s1.trans s2) g2⟩
  | some e=>
   rw[hm]at Q0;cases e with
   | busy n d=>
    obtain⟨u,hv,gu⟩:=db.at hm (rfl:fB (.busy n d)=some _)
    rw[hv]at dgb;refine⟨C,a.dx,_,.ref a.db,ht1.hp,B.cl,B.nB,tJ a life,_,dgb,?_⟩
    refine⟨Zs,fun t2 G2 s2 g2=>⟨C,a.dx,_,.ref a.db,s2 _ _ ht1.hp,B.cl,B.nB,tJ a life,a.db,.ref u,rfl,?_,_,_,g2,s2 _ _ gu,Zs,fun t3 G3 s3 g3=>Q0 t3 G3 ((s1.trans s2).trans s3) g3⟩⟩
    have:=DGet.t (s2 _ _ gb) (gG (s2 _ _ gt))
    rw[hv]at this;exact this
   | kept n w' d z=>
    obtain⟨u,hv,gu⟩:=ds.at hm (rfl:fS (.kept n w' d z)=some _)
    rw[hv]at dgs;rw[db.no (fun e h=>by rw[hm]at h;cases h;rfl)]at dgb
    refine⟨C,a.dx,_,.ref a.db,ht1.hp,B.cl,B.nB,tJ a life,none,dgb,?_⟩
    refine⟨C,a.dx,_,.ref a.ds,ht1.hp,B.cl,B.nS,Cb a life,_,dgs,?_⟩
    refine⟨a.dx,_,ht1.hp,uZ a life Zk Zk Zk,p,a,life,m,L,sk,t,q,now,n,w',d,z,rfl,ht1.hp,.inl gs,ds,gt,hm,?_⟩
    show if decide (w'+life > now)=true then _ else _
    refine fX (fun hb=>?_) (fun hb=>?_)
    ·have hb':=of_decide_eq_true hb
     refine⟨C,a.dx,_,.ref a.ds,ht1.hp,B.cl,B.nS,Cb a life,a.ds,.ref u,rfl,dgs,?_⟩
     dsimp only [aJ];refine⟨_,SqT.of gu,_,rfl,_,SqT.of gu,_,rfl,_,SqT.of gu,_,rfl,Zs,fun t2 G2 s2 g2=>Q0 t2 G2 (s1.trans s2) ?_⟩
     show G2 t2=some (.tup (if w'+life > now then _ else _))
     rw[if_pos hb'];exact g2
    ·have hb':=of_decide_eq_false hb
     refine⟨Zs,fun t2 G2 s2 g2=>Q0 t2 G2 (s1.trans s2) ?_⟩
     show G2 t2=some (.tup (if w'+life > now then _ else _))
     rw[if_neg hb'];exact g2
theorem Sj {C:Addr} (B:Sd K C) (D:MethAt K C "end" "Keys.end" hW ["self","pair"]):cT P w K mg base 1 C "end" ["self","pair"] (Ob C):=by
 refine D.go vE (fun vs H Q E h=>?_) (fun f cdv A outer s H vs Q E hr h=>?_)
 ·obtain⟨p,a,life,m,L,t,q,n,d,rfl,_⟩:=h;rfl
 ·obtain⟨p,a,life,m,L,t,q,n,d,rfl,ht,gt,hm,Q0⟩:=h
  have hu1:=cS hr
  obtain⟨bk,gb,db⟩:=ht.hb
  obtain⟨sk,gs,ds⟩:=ht.hs
  obtain⟨u,hv,gu⟩:=db.at hm (rfl:fB (.busy n d)=some _)
  have dgb:=DGet.t gb (gG gt)
  rw[hv]at dgb;refine⟨_,(R.ad (R.ar (R.aj (R.fi hu1) (R.v 1) (R.aq (K:=K) (R.v 0))) (R.ae R.az) R.au) (R.ae (R.af (R.fg hu1 (R.aq (K:=K) (R.v 0)) (R.v 1))))),?_⟩
  refine⟨C,a.dx,_,.ref a.db,ht.hp,B.cl,B.nB,tJ a life,_,dgb,?_⟩
  refine⟨C,a.dx,_,.ref a.db,ht.hp,B.cl,B.nB,tJ a life,a.db,rfl,.inr ⟨bk,.inl gb⟩,bk,pk q,t,.ref u,gb,rfl,gG gt,hv,?_⟩
  have kt:∀b xs,H b=some (.tup xs)->(aH H a.db (.dT (bV bk (pk q)))) b=some (.tup xs):=fun b xs e=>by rw[aD (aK e gb (fun z=>nomatch z))];exact e
  have h2:∀r,r≠q->(m.set q none) r=m r:=fun r hr=>KM.set_ne hr
  have h1:∀e,(m.set q none) q=some e->False:=fun e he=>by rw[KM.set_same]at he;cases he
  refine Q0 u _ (ht.new (by rw[aD (aK ht.hp gb (fun z=>nomatch z))]) aA (by rw[aD ht.ne.symm];exact gs) kt ((db.drop (fun e he=>(h1 e he).elim) h2).keep kt) ((ds.skip (fun e he=>?_) (fun e he=>(h1 e he).elim) h2).keep kt)) (fun c o e n1 n2=>by rw[aD n1];exact e) (kt _ _ gu)
  rw[hm]at he;cases he
  rfl
theorem Cj {C:Addr} (B:Sd K C) (c_Keys_end:cT P w K mg base 1 C "end" ["self","pair"] (Ob C)) (D:MethAt K C "settle" "Keys.settle" eE ["self","asker","key","turn","answer"]):cT P w K mg base 2 C "settle" ["self","asker","key","turn","answer"] (vA C):=by
 refine D.go iX (fun vs H Q E h=>?_) (fun f cdv A outer s H vs Q E hr h=>?_)
 ·obtain⟨p,a,life,m,L,q,n,d,w',z,rfl,_⟩:=h;rfl
 ·obtain⟨p,a,life,m,L,q,n,d,w',z,rfl,ht,hL,hm,Q0⟩:=h
  have hu1:=cS hr
  have hr_Keys_end:=hr
  refine⟨_,(R.ad (R.av (i:=5) iX.nd (R.bc c_Keys_end hr_Keys_end (R.v 0) (R.aa (R.ap (R.aa (R.v 1) (R.aa (R.v 2) R.ab))) R.ab))) (R.ae (R.bz (R.ap (R.aa (R.ix (R.ag (K:=K)) (R.v 5) R.ac) (R.aa (R.v 3) (R.aa (R.ix (R.ag (K:=K)) (R.v 5) R.ac) (R.aa (R.v 4) R.ab))))) (R.ce (R.aq (K:=K) (R.v 0)) (R.ap (R.aa (R.v 1) (R.aa (R.v 2) R.ab))) (R.cc hu1))))),?_⟩
  refine⟨a.dx,_,ht.hp,uZ a life Zk Zk Zk,Zs,fun t G s1 gt=>⟨p,a,life,m,L,t,q,n,d,rfl,ht.same s1,gt,hm,fun u G2 h2 fr gu=>?_⟩⟩
  dsimp only [aJ];refine⟨_,SqT.of gu,_,rfl,_,SqT.of gu,_,rfl,Zs,fun t3 G3 s3 g3=>?_⟩
  have h3:=h2.same s3
  obtain⟨bk,gb,db⟩:=h3.hb
  obtain⟨sk,gs,ds⟩:=h3.hs
  refine⟨C,a.dx,_,.ref a.ds,h3.hp,B.cl,B.nS,Cb a life,Zs,fun t4 G4 s4 g4=>⟨a.ds,_,rfl,DPut.t (s4 _ _ gs) (gG g4) (wH ds.len (wH hL Zd)),?_⟩⟩
  have kt:∀b xs,G4 b=some (.tup xs)->(aH G4 a.ds (.dT (bF sk (pk q) (.ref t3)))) b=some (.tup xs):=fun b xs e=>by rw[aD (aK e (s4 _ _ gs) (fun z=>nomatch z))];exact e
  have kt':∀b xs,G3 b=some (.tup xs)->(aH G4 a.ds (.dT (bF sk (pk q) (.ref t3)))) b=some (.tup xs):=fun b xs e=>kt _ _ (s4 _ _ e)
  have e2:∀r,r≠q->(m.set q (some (.kept n w' d z))) r=(m.set q none) r:=fun r hr=>by rw[KM.set_ne hr,KM.set_ne hr]
  refine Q0 _ (h3.new (by rw[aD (aK (s4 _ _ h3.hp) (s4 _ _ gs) (fun z=>nomatch z)),s4 _ _ h3.hp,h3.hp]) (by rw[aD h3.ne];exact s4 _ _ gb) aA kt' (((db.skip (fun e he=>?_) (fun e he=>?_) e2).more).keep kt') (((ds.keep (fun b xs e=>s4 _ _ e)).put (rfl:fS (.kept n w' d z)=some _) (s4 _ _ g3) KM.set_same e2).keep kt)) (fun c o e n1 n2=>by rw[aD n2];exact s4 _ _ (s3 _ _ (fr _ _ (s1 _ _ e) n1 n2)))
  ·rw[KM.set_same]at he;cases he
  ·rw[KM.set_same]at he;cases he;rfl
theorem Hh {C:Addr} (B:Sd K C) (D:MethAt K C "begin" "Keys.begin" fK ["self","asker","key","number","deed"]):cT P w K mg base 1 C "begin" ["self","asker","key","number","deed"] (zV C):=by
 refine D.go jT (fun vs H Q E h=>?_) (fun f cdv A outer s H vs Q E hr h=>?_)
 ·obtain⟨p,a,life,m,L,q,n,d,rfl,_⟩:=h;rfl
 ·obtain⟨p,a,life,m,L,q,n,d,rfl,ht,hL,hm,Q0⟩:=h
  have hu1:=cS hr
  refine⟨_,(R.ad (R.av (i:=5) jT.nd (R.ap (R.aa (R.v 1) (R.aa (R.v 2) R.ab)))) (R.ad (R.ar (R.aj (R.dn hu1) (R.v 5) (R.aq (K:=K) (R.v 0))) (R.ae R.az) R.au) (R.ad (R.bo (R.fh hu1 (R.aq (K:=K) (R.v 0)) (R.v 5) R.cf)) (R.ae (R.bz (R.ap (R.aa (R.v 3) (R.aa (R.v 4) R.ab))) (R.ce (R.aq (K:=K) (R.v 0)) (R.v 5) (R.cc hu1))))))),?_⟩
  refine⟨Zs,fun t G s1 gt=>?_⟩
  dsimp only [aJ];have ht1:=ht.same s1
  obtain⟨bk,gb,db⟩:=ht1.hb
  obtain⟨sk,gs,ds⟩:=ht1.hs
  have hB:∀e,m q=some e->fB e=none:=fun e he=>by
   cases e with
   | busy n' d'=>exact absurd he (hm n' d')
   | kept=>rfl
  have dgb:=DGet.t gb (gG gt)
  rw[db.no hB]at dgb;refine⟨C,a.dx,_,.ref a.db,ht1.hp,B.cl,B.nB,tJ a life,none,dgb,?_⟩
  have nn:∀e,(m.set q none) q=some e->False:=fun e he=>by rw[KM.set_same]at he;cases he
  have ne0:∀r,r≠q->(m.set q none) r=m r:=fun r hr=>KM.set_ne hr
  have step:∀sk' G',G'=aH G a.ds (.dT sk')∨(G'=G/\sk'=sk)->Dic G sk' (m.set q none) fS L->∃_:True,KyAt C G' p a life (m.set q none) L/\G' a.ds=some (.dT sk')/\(∀c o,G c=some o->c≠a.ds->G' c=some o):=by
   intro sk' G' hG d';rcases hG with rfl | ⟨rfl,rfl⟩
   ·have kt:∀b xs,G b=some (.tup xs)->(aH G a.ds (.dT sk')) b=some (.tup xs):=fun b xs e=>by rw[aD (aK e gs (fun z=>nomatch z))];exact e
    exact⟨trivial,ht1.new (by rw[aD (aK ht1.hp gs (fun z=>nomatch z))]) (by rw[aD ht1.ne];exact gb) aA kt ((db.skip hB (fun e he=>(nn e he).elim) ne0).keep kt) (d'.keep kt),aA,fun c o e hn=>by rw[aD hn];exact e⟩
   ·exact⟨trivial,ht1.new rfl gb gs (fun b xs e=>e) (db.skip hB (fun e he=>(nn e he).elim) ne0) d',gs,fun c o e _=>e⟩
  have fin:∀sk' G',KyAt C G' p a life (m.set q none) L->G' a.ds=some (.dT sk')->(∀c o,G c=some o->c≠a.ds->G' c=some o)->5<=5->∀t2 G2,Same G' G2->G2 t2=some (.tup [.int n,.ref d]) →
    ∃bk',DPut G2 a.db (.ref t) (.ref t2) (aH G2 a.db (.dT bk'))/\Q .non (aH G2 a.db (.dT bk')):=by
   intro sk' G' h' gs' fr _ t2 G2 s2 g2;obtain⟨bk',gb',db'⟩:=h'.hb
   have h2:=h'.same s2
   have gt2:=s2 _ _ (fr _ _ gt (aK gt gs (fun z=>nomatch z)))
   refine⟨_,DPut.t (s2 _ _ gb') (gG gt2) (wH db'.len (wH hL Zd)),?_⟩
   have kt:∀b xs,G2 b=some (.tup xs)->(aH G2 a.db (.dT (bF bk' (pk q) (.ref t2)))) b=some (.tup xs):=fun b xs e=>by rw[aD (aK e (s2 _ _ gb') (fun z=>nomatch z))];exact e
   obtain⟨sk2,gs2,ds2⟩:=h2.hs
   have e2:∀r,r≠q->(m.set q (some (.busy n d))) r=(m.set q none) r:=fun r hr=>by rw[KM.set_ne hr,KM.set_ne hr]
   refine Q0 _ (h2.new (by rw[aD (aK h2.hp (s2 _ _ gb') (fun z=>nomatch z))]) aA (by rw[aD h2.ne.symm];exact gs2) kt (((db'.keep (fun b xs e=>s2 _ _ e)).put (rfl:fB (.busy n d)=some _) g2 KM.set_same e2).keep kt) (((ds2.skip (fun e he=>(nn e he).elim) (fun e he=>?_) e2).more).keep kt)) (fun c o e n1 n2=>by rw[aD n1];exact s2 _ _ (fr _ _ (s1 _ _ e) n2))
   rw[KM.set_same]at he;cases he;rfl
  refine⟨C,a.dx,_,.ref a.ds,ht1.hp,B.cl,B.nS,Cb a life,a.ds,rfl,.inr ⟨sk,.inl gs⟩,sk,pk q,t,gs,rfl,gG gt,fun v hv=>?_,fun hv=>?_⟩
  ·obtain⟨_,h',gs',fr⟩:=step _ _ (.inl rfl) (ds.drop (fun e he=>(nn e he).elim) ne0)
   refine⟨Zs,fun t2 G2 s2 g2=>?_⟩
   obtain⟨bk',dp,hq⟩:=fin _ _ h' gs' fr Zd t2 G2 s2 g2
   exact⟨C,a.dx,_,.ref a.db,s2 _ _ h'.hp,B.cl,B.nB,tJ a life,a.db,_,rfl,dp,hq⟩
  ·have d':Dic G sk (m.set q none) fS L:=by
    have:=ds.drop (m':=m.set q none) (fun e he=>(nn e he).elim) ne0
    rwa [oQ (gL hv)]at this
   obtain⟨_,h',gs',fr⟩:=step _ _ (.inr ⟨rfl,rfl⟩) d'
   refine⟨Zs,fun t2 G2 s2 g2=>?_⟩
   obtain⟨bk',dp,hq⟩:=fin _ _ h' gs' fr Zd t2 G2 s2 g2
   exact⟨C,a.dx,_,.ref a.db,s2 _ _ h'.hp,B.cl,B.nB,tJ a life,a.db,_,rfl,dp,hq⟩
end
end KL
namespace KL
open PySem L2
section
variable {P:Program} {w:World} {K:W.Frag} {mg:Str->Option Value} {base:Heap}
def lE:Sp:=fun vs H Q _=>∃d b m,vs=[.ref d,.int m]/\Dk H d b/\0<m/\m<18446744073709551616/\∀r H',0<=r->r<m->Dk H' d b->Kp d b H H'->Q (.int r) H'
theorem Md (T:Txt K mg) (D:DefAt K mg "_law_deck" hZ ["_law_script"]):aI P w K mg base 1 "_law_deck" ["_law_script"] (Fn K):=by
 refine D.go vG (fun vs H Q E h=>?_) (fun f cdv A outer s H vs Q E hr h=>?_)
 ·obtain⟨a,ns,rfl,_⟩:=h;rfl
 ·obtain⟨a,ns,rfl,hS,q⟩:=h
  refine⟨_,(R.ae (R.af (R.bj (R.aa (R.cm (R.gi (K:=K)) rfl T.b_list zF (R.aa (R.sl (R.di (K:=K)) (R.v 0) R.pn (R.ps R.ac)) R.ab)) (R.aa (R.op R.ba R.ac (R.op R.cg (R.ax (R.ik (K:=K) rfl) rfl T.b_sum Rk (R.aa (R.sl (R.di (K:=K)) (R.v 0) R.pn (R.ps R.ac)) R.ab)) R.ac)) (R.aa R.ac R.ab)))))),?_⟩
  have hc:gT (ns.map V.int) none (some 63)=(ns.take 63).map V.int:=by rw[Ld];exact congrArg _ (sX ns 63)
  refine⟨_,hS,fun p1 hp1=>⟨_,.inl (SqL.of aA),fun b hb=>?_⟩⟩
  have s2:Same H (aH (aH H p1 (.lst (gT (ns.map V.int) none (some 63)))) b (.lst (gT (ns.map V.int) none (some 63)))):=(aF hp1).trans (aF hb)
  have g2:(aH (aH H p1 (.lst (gT (ns.map V.int) none (some 63)))) b (.lst (gT (ns.map V.int) none (some 63)))) b=some (.lst ((ns.take 63).map V.int)):=by rw[aA,hc]
  have hb0:H b=none:=(aF hp1).free hb
  show uD _ _ _ (aH (aH H p1 (.lst (gT (ns.map V.int) none (some 63)))) b (.lst (gT (ns.map V.int) none (some 63)))) _
  generalize aH (aH H p1 (.lst (gT (ns.map V.int) none (some 63)))) b (.lst (gT (ns.map V.int) none (some 63)))=H2 at s2 g2;refine⟨_,s2.seq hS,fun p2 hp2=>⟨p2,ns.take 63,rfl,SqL.of (by rw[aA,hc]),by show(0:Int)<2147483629;decide,kJ rfl,fun d hd=>?_⟩⟩
  have s4:Same H (aH H2 p2 (.lst (gT (ns.map V.int) none (some 63)))):=s2.trans (aF hp2)
  have nbd:b≠d:=aE ((aF hp2) _ _ g2) hd
  refine q d b _ (s4.free hd) hb0 ⟨ns.take 63,_,_,aA,?_,?_⟩ (s4.trans (aF hd))
  ·rw[aD nbd];exact(aF hp2) _ _ g2
  ·rw[oC];exact Nat.min_le_left _ _
theorem Hi (D:DefAt K mg "_law_draw" iA ["_law_deck_here","_law_many"]) :
  aI P w K mg base 1 "_law_draw" ["_law_deck_here","_law_many"] lE:=by
 refine D.go eY (fun vs H Q E h=>?_) (fun f cdv A outer s H vs Q E hr h=>?_)
 ·obtain⟨d,b,m,rfl,_⟩:=h;rfl
 ·obtain⟨d,b,m,rfl,dk,hm,hm2,q⟩:=h
  have hu:=hr.units0
  obtain⟨ns,s0,k0,h1,h2,h3⟩:=dk.ex
  have ndb:d≠b:=aK h1 h2 (by
   intro z;injection z with z
   cases ns with
   | nil=>cases z
   | cons z1 zs=>injection z with z _;cases z)
  refine⟨_,(R.ad (R.bz (R.op R.ba (R.ix (R.be (K:=K)) (R.v 0) R.ac) R.ac) (R.ce (R.v 0) R.ac R.il)) (R.ad (R.av (i:=2) eY.nd (R.ix (R.be (K:=K)) (R.v 0) R.ac)) (R.ad (R.ar (R.aj (R.er (K:=K) hu) (R.ix (R.be (K:=K)) (R.v 0) R.ac) (R.bj R.ab)) (R.ad (R.av (i:=2) eY.nd (R.cv (K:=K) PySem.F.plainAttrs_list PySem.F.slot_list_pop PySem.F.type_list_pop R.im (R.ix (R.be (K:=K)) (R.v 0) R.ac) (R.aa R.ac R.ab))) (R.ae (R.ar (R.aj R.ge (R.v 2) (R.op R.dt R.ac R.ac)) (R.ad (R.bo (R.cv (K:=K) PySem.F.plainAttrs_list PySem.F.slot_list_insert PySem.F.type_list_insert R.fk (R.ix (R.be (K:=K)) (R.v 0) R.ac) (R.aa R.ac (R.aa (R.op R.dz (R.v 2) (R.v 1)) R.ab)))) (R.ae (R.af (R.op R.cg (R.v 2) (R.v 1))))) R.au))) R.au) (R.ad (R.av (i:=3) eY.nd (R.op R.cg (R.op R.ba (R.op R.ba (R.op R.du (R.op R.cg (R.v 2) R.ac) R.ac) (R.op R.du R.ac (R.ix (R.be (K:=K)) (R.v 0) R.ac))) R.ac) R.ac)) (R.ad (R.av (i:=3) eY.nd (R.op R.cg (R.op R.du (R.v 3) (R.v 3)) R.ac)) (R.ae (R.af (R.op R.cg (R.op R.dz (R.op R.cg (R.op R.du (R.v 3) (R.op R.ba (R.v 3) R.ac)) R.ac) R.ac) (R.v 1))))))))),?_⟩
  refine⟨_,SqL.of h1,_,rfl,d,_,2,2,rfl,rfl,h1,rfl,?_⟩
  have g1:(aH H d (.lst [.ref b,.int s0,.int (k0+1)])) d=some (.lst [.ref b,.int s0,.int (k0+1)]):=aA
  have g2:(aH H d (.lst [.ref b,.int s0,.int (k0+1)])) b=some (.lst (ns.map V.int)):=by rw[aD ndb.symm];exact h2
  have kp1:Kp d b H (aH H d (.lst [.ref b,.int s0,.int (k0+1)])):=fun c o e n1 n2=>by rw[aD n1];exact e
  show Jg _ _ _ _ (aH H d (.lst [.ref b,.int s0,.int (k0+1)]))
  generalize aH H d (.lst [.ref b,.int s0,.int (k0+1)])=H1 at g1 g2 kp1;refine⟨_,SqL.of g1,_,rfl,?_⟩
  dsimp only [aJ];refine Vk (t:=Jk _ _ _) (fun σ' H'=>∃c:Int,σ'=[some (.ref d),some (.int m),some (.int c),none]/\(∃ns':List Int,H' d=some (.lst [.ref b,.int s0,.int (k0+1)])/\H' b=some (.lst (ns'.map V.int))/\ns'.length<=63)/\Kp d b H H') (fun nx hnx=>?_) ?_
  ·refine⟨_,SqL.of g1,_,rfl,kJ rfl,fun p hp=>⟨b,p,_,rfl,rfl,SqL.of (by rw[aD (aE g2 hp)];exact g2),SqL.of aA,?_⟩⟩
   have e1:(aH H1 p (.lst [])) d=some (.lst [.ref b,.int s0,.int (k0+1)]):=by rw[aD (aE g1 hp)];exact g1
   have e2:(aH H1 p (.lst [])) b=some (.lst (ns.map V.int)):=by rw[aD (aE g2 hp)];exact g2
   have kp2:Kp d b H (aH H1 p (.lst [])):=kp1.trans (.new hp)
   generalize aH H1 p (.lst [])=H2 at e1 e2 kp2;cases ns with
   | nil=>
    exact hnx _ _ ⟨_,rfl,⟨[],e1,e2,h3⟩,kp2⟩
   | cons z ns=>
    have hl:ns.length+1<=63:=by simpa using h3
    refine⟨_,SqL.of e1,_,rfl,.inl ⟨rfl,_,SqL.of e2⟩,b,_,0,0,.int z,rfl,rfl,e2,Zd,Zd,by simp [seqIndex?],rfl,?_⟩
    have f1:(aH H2 b (.lst ((List.map V.int (z::ns)).eraseIdx 0))) d=some (.lst [.ref b,.int s0,.int (k0+1)]):=by rw[aD ndb];exact e1
    have f2:(aH H2 b (.lst ((List.map V.int (z::ns)).eraseIdx 0))) b=some (.lst (ns.map V.int)):=by rw[aA];rfl
    have kp3:Kp d b H (aH H2 b (.lst ((List.map V.int (z::ns)).eraseIdx 0))):=fun c o e n1 n2=>by rw[aD n2];exact kp2 c o e n1 n2
    dsimp only [aJ];generalize aH H2 b (.lst ((List.map V.int (z::ns)).eraseIdx 0))=H3 at f1 f2 kp3;refine⟨⟨Zd,Zd,Zd⟩,?_⟩
    refine fX (fun _=>?_) (fun _=>?_)
    ·refine⟨_,SqL.of f1,_,rfl,.inl ⟨rfl,_,SqL.of f2⟩,⟨hm,hm2⟩,b,_,0,_,rfl,rfl,f2,Nat.zero_le _,wH (m:=63) (by rw[bN];omega) Zd,hm,?_⟩
     refine q _ _ (Int.emod_nonneg _ Zo) (Int.emod_lt_of_pos _ hm) ⟨z / m::ns,s0,k0+1,by rw[aD ndb];exact f1,by rw[aA];rfl,by simpa using hl⟩ fun c o e n1 n2=>by rw[aD n2];exact kp3 c o e n1 n2
    ·exact hnx _ _ ⟨_,rfl,⟨ns,f1,f2,Zo⟩,kp3⟩
  ·rintro σ' H' ⟨c,rfl,⟨ns',f1,f2,f3⟩,kp⟩
   refine⟨by show(0:Int)<_;decide,.inr ⟨Zd,Zd⟩,_,SqL.of f1,_,rfl,.inl ⟨Zd,Zd⟩,by show(0:Int)<_;decide,?_⟩
   generalize hx:(c % 2147483629*16807+69621*(k0+1)+7919) % 2147483629=x;have hx0:0<=x:=by omega
   have hx1:x<2147483629:=by omega
   dsimp only [aJ];refine⟨.inl ⟨Zo,Zo⟩,by show(0:Int)<_;decide,?_⟩
   generalize hy:x*x % 2147483587=y;have hy0:0<=y:=by omega
   have hy1:y<2147483587:=by omega
   dsimp only [aJ];refine⟨.inl ⟨Zo,Zo⟩,by show(0:Int)<_;decide,⟨Zd,Zd⟩,hm,?_⟩
   exact q _ _ (Int.emod_nonneg _ Zo) (Int.emod_lt_of_pos _ hm) ⟨ns',s0,k0+1,f1,f2,f3⟩ kp
theorem Yb {r:Int} (h0:0<=r) (h1:r<4):r=0∨r=1∨r=2∨r=3:=by omega
theorem Yp {r:Int} (h0:0<=r) (h1:r<6):r=0∨r=1∨r=2∨r=3∨r=4∨r=5:=by omega
structure WordsOf (L:List Nat) (g:Nat) (ws:List Str):Prop where
 nd:ws.Nodup
 of:∀z∈ws,1<=z.length/\z.length<=g/\∀c∈z.cps.toList,c∈L
def rB:Sp:=fun vs H Q _=>∃(d b:Addr) (L:List Nat) (g m:Nat),vs=[.ref d,.str (tx L),.int (g:Int),.int (m:Int)]/\Dk H d b/\1<=m/\m<=g/\g<=12/\L.Nodup/\m<=L.length/\L.length<=40 ∧
 ∀(l:Addr) (ws:List Str) (H':Hp),WordsOf L g ws->ws.length=m->H' l=some (.lst (ws.map V.str))->l≠d->l≠b->Dk H' d b->Kp d b H H'->Q (.ref l) H'
theorem Hj {α:Type} (xs:List α) {i j:Nat} (hi:i<=xs.length) (hj:j<=xs.length):gT xs (some (i:Int)) (some (j:Int))=(xs.drop i).take (j - i):=by
 unfold gT;rw[HT.sIx_nat,HT.sIx_nat,Nat.min_eq_left hi,Nat.min_eq_left hj]
def pM (L ts:List Nat) (a sz f k:Nat):List Nat:=ts.take a++[L.getD ((f+k) % L.length) 0]++(ts.drop (a+1)).take (sz - (a+1))
theorem Me {L:List Nat} (hn:L.Nodup) {i j:Nat} (hi:i<L.length) (hj:j<L.length) (h:L.getD i 0=L.getD j 0):i=j:=by
 rw[List.getD_eq_getElem?_getD,List.getD_eq_getElem?_getD,lO hi,lO hj]at h;have h':L[i]=L[j]:=h
 have p:=List.pairwise_iff_getElem.mp hn
 rcases Nat.lt_trichotomy i j with z | z | z
 ·exact absurd h' (p i j hi hj z)
 ·exact z
 ·exact absurd h'.symm (p j i hj hi z)
theorem Mf {f k k' n:Nat} (hk:k<n) (hk':k'<n) (h:(f+k) % n=(f+k') % n):k=k':=by
 have h1:=Nat.mod_add_div (f+k) n
 have h2:=Nat.mod_add_div (f+k') n
 rw[h]at h1;generalize (f+k) / n=u at h1;generalize (f+k') / n=v at h2;rcases Nat.lt_trichotomy u v with z | z | z
 ·have:n*(u+1)<=n*v:=Nat.mul_le_mul_left n z
  rw[Nat.mul_add,Nat.mul_one]at this;omega
 ·subst z;omega
 ·have:n*(v+1)<=n*u:=Nat.mul_le_mul_left n z
  rw[Nat.mul_add,Nat.mul_one]at this;omega
theorem Hk {L ts:List Nat} (hn:L.Nodup) {a sz f k k':Nat} (h:pM L ts a sz f k=pM L ts a sz f k') (hk:k<L.length) (hk':k'<L.length):k=k':=by
 unfold pM at h;have h1:=List.append_inj_left' h rfl
 have h2:=List.append_inj_right' h1 rfl
 have h3:L.getD ((f+k) % L.length) 0=L.getD ((f+k') % L.length) 0:=by injection h2
 exact Mf hk hk' (Me hn (Nat.mod_lt _ Zo) (Nat.mod_lt _ Zo) h3)
theorem Wa {L:List Nat} {i:Nat} (h:i<L.length):L.getD i 0∈L/\L[i]?=some (L.getD i 0):=by
 have e:L[i]?=some (L[i]):=lO h
 have e2:L.getD i 0=L[i]:=by rw[List.getD_eq_getElem?_getD,e];rfl
 exact⟨e2 ▸ List.getElem_mem _,e2 ▸ e⟩
theorem Mg {L ts:List Nat} {g a sz f k:Nat} (h0:0<L.length) (hl:ts.length=g) (ht:∀c∈ts,c∈L) (ha:a<sz) (hs:sz<=g):1<=(pM L ts a sz f k).length/\(pM L ts a sz f k).length<=g/\∀c∈pM L ts a sz f k,c∈L:=by
 have e:(pM L ts a sz f k).length=sz:=by
  unfold pM;simp [hl]
  omega
 refine⟨Zo,Zo,fun c hc=>?_⟩
 unfold pM at hc;rcases Zma.mp hc with hc | hc
 ·rcases Zma.mp hc with hc | hc
  ·exact ht c (List.mem_of_mem_take hc)
  ·rw[Zms.mp hc];exact(Wa (Nat.mod_lt _ h0)).1
 ·exact ht c (List.mem_of_mem_drop (List.mem_of_mem_take hc))
theorem xY {n i:Nat} {x:V} (h:(iV 0 n)[i]?=some x):x=.int (i:Int)/\i<n:=by
 unfold iV at h;rw[gQ]at h;cases hh:(List.range n)[i]? with
 | none=>rw[hh]at h;cases h
 | some y=>
  rw[hh]at h;obtain⟨h1,h2⟩:=Zgs.mp hh
  rw[List.getElem_range]at h2;cases h
  rw[<- h2];exact⟨Zs,by simpa using h1⟩
theorem jJ (n:Nat):(iV 0 n).length=n:=by simp [iV]
theorem vH {L:List Nat} {g m:Nat} {F:Nat->List Nat} (hi:∀k k',k<m->k'<m->F k=F k'->k=k') (ho:∀k,k<m->1<=(F k).length/\(F k).length<=g/\∀c∈F k,c∈L):WordsOf L g ((List.range m).map fun k=>tx (F k)):=by
 refine⟨?_,fun z hz=>?_⟩
 ·show List.Pairwise (·≠·) _
  rw[List.pairwise_map];refine List.Pairwise.imp_of_mem (fun {x y} hx hy hne exy=>hne ?_) List.nodup_range
  exact hi _ _ (List.mem_range.mp hx) (List.mem_range.mp hy) (by simpa using congrArg (fun z:Str=>z.cps.toList) exy)
 ·obtain⟨k,hk,rfl⟩:=Zmm.mp hz
  have:=ho k (List.mem_range.mp hk)
  exact⟨by rw[fW];exact this.1,by rw[fW];exact this.2.1,fun c hc=>this.2.2 c (by simpa using hc)⟩
theorem Ck (T:Txt K mg) (cLdraw:aI P w K mg base 1 "_law_draw" ["_law_deck_here","_law_many"] lE) (D:DefAt K mg "_law_unlike" bZ ["_law_deck_here","_law_signs","_law_longest","_law_many"]) :
  aI P w K mg base 2 "_law_unlike" ["_law_deck_here","_law_signs","_law_longest","_law_many"] rB:=by
 refine D.go cE (fun vs H Q E h=>?_) (fun f cdv A outer s H vs Q E hr h=>?_)
 ·obtain⟨d,b,L,g,m,rfl,_⟩:=h;rfl
 ·obtain⟨d,b,L,g,m,rfl,dk,hm1,hmg,hg,hnd,hmL,hL40,q⟩:=h
  have hLdraw:=hr
  have lL:(tx L).length=L.length:=fW L
  have h40:(tx L).length<=sizeLine:=kB Zo
  have cL:(tx L).cps.toList=L:=by simp
  refine⟨_,(R.ad (R.av (i:=4) cE.nd (R.cv (K:=K) PySem.F.plainAttrs_str PySem.F.slot_str_join PySem.F.type_str_join (R.io (K:=K)) R.ah (R.aa (R.bi rfl (js:=[none,some 0,some 1]) (N:=["_law_k","_law_deck_here","_law_signs"]) (CompScope.by (aB bZ) ["_law_deck_here","_law_signs","_law_longest","_law_many","_law_word","_law_size","_law_at","_law_first","_law_ends"] rfl rfl Zk) (aO rfl) (R.dw rfl T.b_range (R.aa (R.v 2) R.ab)) (fun C s₂ H₂ fp=>⟨(R.gn (i:=0) (show(["_law_k","_law_deck_here","_law_signs"]:List Str).Nodup by decide +kernel)),R.br,(R.ix R.iS (R.v 2) (R.fn cLdraw hLdraw rfl (R.aa (R.v 1) (R.aa (R.ax R.de rfl T.b_len cH (R.aa (R.v 2) R.ab)) R.ab))))⟩)) R.ab))) (R.ad (R.ar (R.aj R.eq (R.fn cLdraw hLdraw rfl (R.aa (R.v 0) (R.aa R.ac R.ab))) R.ac) (R.ae (R.af (R.bi rfl (js:=[none,some 4]) (N:=["_law_k","_law_word"]) (CompScope.by (aB bZ) ["_law_deck_here","_law_signs","_law_longest","_law_many","_law_word","_law_size","_law_at","_law_first","_law_ends"] rfl rfl Zk) (aO rfl) (R.dw rfl T.b_range (R.aa (R.v 3) R.ab)) (fun C s₂ H₂ fp=>⟨(R.gn (i:=0) (show(["_law_k","_law_word"]:List Str).Nodup by decide +kernel)),R.br,(R.sl R.sS (R.v 1) R.pn (R.ps (R.op R.ba (R.v 0) R.ac)))⟩)))) R.au) (R.ad (R.av (i:=5) cE.nd (R.op R.ba R.ac (R.fn cLdraw hLdraw rfl (R.aa (R.v 0) (R.aa (R.v 2) R.ab))))) (R.ad (R.av (i:=6) cE.nd (R.fn cLdraw hLdraw rfl (R.aa (R.v 0) (R.aa (R.v 5) R.ab)))) (R.ad (R.av (i:=7) cE.nd (R.fn cLdraw hLdraw rfl (R.aa (R.v 0) (R.aa (R.ax R.de rfl T.b_len cH (R.aa (R.v 1) R.ab)) R.ab)))) (R.ad (R.av (i:=8) cE.nd (R.gm (R.aa (R.sl R.sS (R.v 4) R.pn (R.ps (R.v 6))) (R.aa (R.sl R.sS (R.v 4) (R.ps (R.op R.ba (R.v 6) R.ac)) (R.ps (R.v 5))) R.ab)))) (R.ae (R.af (R.bi rfl (js:=[none,some 1,some 7,some 8]) (N:=["_law_k","_law_signs","_law_first","_law_ends"]) (CompScope.by (aB bZ) ["_law_deck_here","_law_signs","_law_longest","_law_many","_law_word","_law_size","_law_at","_law_first","_law_ends"] rfl rfl Zk) (aO rfl) (R.dw rfl T.b_range (R.aa (R.v 3) R.ab)) (fun C s₂ H₂ fp=>⟨(R.gn (i:=0) (show(["_law_k","_law_signs","_law_first","_law_ends"]:List Str).Nodup by decide +kernel)),R.br,(R.op R.eh (R.op R.eh (R.ix (R.ag (K:=K)) (R.v 3) R.ac) (R.ix R.iS (R.v 1) (R.op R.cg (R.op R.ba (R.v 2) (R.v 0)) (R.ax R.de rfl T.b_len cH (R.aa (R.v 1) R.ab))))) (R.ix (R.ag (K:=K)) (R.v 3) R.ac))⟩)))))))))),?_⟩
  refine Vk (t:=Dn _ _) (fun σ' H'=>∃ts:List Nat,σ'=[some (.ref d),some (.str (tx L)),some (.int (g:Int)),some (.int m),some (.str (tx ts)),none,none,none,none]/\ts.length=g/\(∀c∈ts,c∈L)/\Dk H' d b/\Kp d b H H') (fun nx hnx=>?_) ?_
  ·refine⟨rfl,g,rfl,Zo,Zo,?_⟩
   refine bB (jD 0 (g:Int).toNat) (by rw[jJ];omega) (fun i ys H'=>Dk H' d b/\Kp d b H H'/\∃ts:List Nat,ys=ts.map (fun c=>V.str (tx [c]))/\ts.length=i/\∀c∈ts,c∈L) (fun i ys H' ⟨_,_,ts,e,e2,_⟩=>⟨trivial,by rw[e,bN,e2];exact cA _⟩) ⟨dk,.refl,[],rfl,rfl,(fun _ h=>nomatch h)⟩ (fun i x ys H' hx ⟨Di,kpi,ts,e,e2,e3⟩=>?_) (fun ys H' ⟨Di,kpi,ts,e,e2,e3⟩=>?_)
   ·refine⟨h40,d,b,_,rfl,Di,Zo,Zo,fun r2 H'' r20 r21 Dj kpj=>⟨h40,?_⟩⟩
    obtain⟨c,hc,hm⟩:=kU (xs:=(tx L).cps.toList) r20 (by rw[cL];omega)
    rw[cL]at hm;refine⟨c,hc,Dj,kpi.trans kpj,ts++[c],by rw[e,iG];rfl,by rw[wC,e2];rfl,fun c' hc'=>?_⟩
    rcases Zma.mp hc' with h | h
    ·exact e3 c' h
    ·rw[Zms.mp h];exact hm
   ·intro p hp;have hts:ts.length=g:=by rw[e2,jJ];omega
    refine⟨_,p,ts.map (fun c=>tx [c]),rfl,rfl,SqL.of (by rw[aA,e,List.map_map];rfl),?_,?_⟩
    ·rw[uO,bN,Fq,fW];simp;omega
    ·refine hnx _ _ ⟨ts,?_,hts,e3,Di.new hp,kpi.trans (.new hp)⟩
     rw[Fq,xI];rfl
  ·rintro σ' H1 ⟨ts,rfl,hts,hlet,D1,k1⟩
   have hcl:(tx ts).cps.toList=ts:=by simp
   have em:((m:Int)).toNat=m:=by omega
   refine⟨d,b,3,rfl,D1,Zd,Zd,fun r H2 r0 r1 D2 k2=>?_⟩
   refine fX (fun _=>?_) (fun _=>?_)
   ·refine⟨m,rfl,Zo,Zo,?_⟩
    refine bB (jD 0 (m:Int).toNat) (by rw[jJ];omega) (fun i ys H'=>ys=((List.range i).map fun k=>tx (ts.take (k+1))).map V.str/\H'=H2) (fun i ys H' ⟨e,_⟩=>⟨trivial,by rw[e];simp⟩) ⟨rfl,rfl⟩ (fun i x ys H' hx ⟨e,e2⟩=>?_) (fun ys H' ⟨e,e2⟩=>?_)
    ·subst e2;obtain⟨rfl,hi⟩:=xY hx
     refine⟨kB (by rw[fW];omega),?_,rfl⟩
     rw[hcl,show((i:Nat):Int)+1=((i+1:Nat):Int) by omega,sX,e,List.range_succ,iG,iG]
     rfl
    ·subst e2;intro p hp;rw[jJ,em]at e;have hd:=D2.ne hp
     refine q p ((List.range m).map fun k=>tx (ts.take (k+1))) _ (vH (fun k k' hk hk' e=>?_) (fun k hk=>?_)) Zs (by rw[aA,e]) hd.1 hd.2 (D2.new hp) ((k1.trans k2).trans (.new hp))
     ·have:=congrArg List.length e
      rw[oC,oC,hts]at this;omega
     ·exact⟨by rw[oC,hts];omega,by rw[oC,hts];omega,fun c hc=>hlet c (List.mem_of_mem_take hc)⟩
   ·refine⟨d,b,g,rfl,D2,Zo,Zo,fun r5 H3 s0 s1 D3 k3=>?_⟩
    dsimp only [aJ];refine⟨d,b,1+r5,rfl,D3,Zo,Zo,fun ra H4 a0 a1 D4 k4=>?_⟩
    dsimp only [aJ];refine⟨h40,d,b,_,rfl,D4,Zo,Zo,fun rf H5 f0 f1 D5 k5=>?_⟩
    rw[lL]at f1;dsimp only [aJ];obtain⟨a,rfl⟩:∃a:Nat,ra=a:=⟨ra.toNat,Zo⟩
    obtain⟨z5,rfl⟩:∃z:Nat,r5=z:=⟨r5.toNat,Zo⟩
    obtain⟨fz,rfl⟩:∃z:Nat,rf=z:=⟨rf.toNat,Zo⟩
    refine⟨kB (by rw[fW];omega),kB (by rw[fW];omega),kJ rfl,fun tp htp=>?_⟩
    have g5:(aH H5 tp (.tup [.str (tx (gT (tx ts).cps.toList none (some (a:Int)))),.str (tx (gT (tx ts).cps.toList (some ((a:Int)+1)) (some (1+(z5:Int)))))])) tp=some (.tup [.str (tx (ts.take a)),.str (tx ((ts.drop (a+1)).take (z5+1 - (a+1))))]):=by
     rw[aA,hcl,sX,show(a:Int)+1=((a+1:Nat):Int) by omega,show 1+(z5:Int)=((z5+1:Nat):Int) by omega,Hj ts Zo Zo]
    have k6:Kp d b H (aH H5 tp (.tup [.str (tx (gT (tx ts).cps.toList none (some (a:Int)))),.str (tx (gT (tx ts).cps.toList (some ((a:Int)+1)) (some (1+(z5:Int)))))])):=((((k1.trans k2).trans k3).trans k4).trans k5).trans (.new htp)
    have D6:=D5.new (o:=.tup [.str (tx (gT (tx ts).cps.toList none (some (a:Int)))),.str (tx (gT (tx ts).cps.toList (some ((a:Int)+1)) (some (1+(z5:Int)))))]) htp
    dsimp only [aJ];generalize aH H5 tp (.tup [.str (tx (gT (tx ts).cps.toList none (some (a:Int)))),.str (tx (gT (tx ts).cps.toList (some ((a:Int)+1)) (some (1+(z5:Int)))))])=H6 at g5 k6 D6;refine⟨m,rfl,Zo,Zo,?_⟩
    refine bB (jD 0 (m:Int).toNat) (by rw[jJ];omega) (fun i ys H'=>ys=((List.range i).map fun k=>tx (pM L ts a (z5+1) fz k)).map V.str/\H'=H6) (fun i ys H' ⟨e,_⟩=>⟨trivial,by rw[e];simp⟩) ⟨rfl,rfl⟩ (fun i x ys H' hx ⟨e,e2⟩=>?_) (fun ys H' ⟨e,e2⟩=>?_)
    ·subst e2;obtain⟨rfl,hi⟩:=xY hx
     have h0:0<L.length:=by omega
     have hL:=Wa (L:=L) (Nat.mod_lt (fz+i) h0)
     have t1:(tx (ts.take a)).length<=12:=by rw[fW,oC];omega
     have t2:(tx ((ts.drop (a+1)).take (z5+1 - (a+1)))).length<=12:=by rw[fW,oC,List.length_drop];omega
     refine⟨_,SqT.of g5,_,rfl,h40,by rw[lL];omega,h40,L.getD ((fz+i) % L.length) 0,?_,kB (by have:=fW [L.getD ((fz+i) % L.length) 0];simp only [wG,List.length_nil]at this;omega),_,SqT.of g5,_,rfl,kB ?_,?_,rfl⟩
     ·rw[lL,cL,show((fz:Int)+(i:Int)) % (L.length:Int)=(((fz+i) % L.length:Nat):Int) by rw[Int.natCast_emod,Int.natCast_add]]
      exact gA hL.2
     ·rw[xE,fW,wC,oC];simp only [wG,List.length_nil]
      omega
     ·rw[e,List.range_succ,iG,iG,xE,xE];rfl
    ·subst e2;intro p hp;rw[jJ,em]at e;have hd:=D6.ne hp
     refine q p ((List.range m).map fun k=>tx (pM L ts a (z5+1) fz k)) _ (vH (fun k k' hk hk' e=>?_) (fun k hk=>?_)) Zs (by rw[aA,e]) hd.1 hd.2 (D6.new hp) (k6.trans (.new hp))
     ·exact Hk hnd e Zo Zo
     ·exact Mg Zo hts hlet Zo Zo
end
end KL
namespace KL
open PySem L2
section
variable {P:Program} {w:World} {K:W.Frag} {mg:Str->Option Value} {base:Heap}
theorem bH {n:Nat} (h:Nat.ble n 1000=true):n<=1000:=Nat.le_of_ble_eq_true h
def Cl:An->Str | .is1 _=>"is" | .is2 _ _=>"is" | .short _=>"short" | .full _=>"full" | .no _=>"no" | .ok=>"ok"
theorem tQ {C:Addr} (B:Nv K C) (D:MethAt K C "amount" "Book.amount" eF ["self","name"]):cT P w K mg base 1 C "amount" ["self","name"] (gY C):=by
 refine D.go pL (fun vs H Q E h=>?_) (fun f cdv A outer s H vs Q E hr h=>?_)
 ·obtain⟨p,n,prs,rfl,_⟩:=h;rfl
 ·obtain⟨p,n,prs,rfl,bk,q⟩:=h
  have hu1:=cS hr
  obtain⟨dx,d,h1,h2⟩:=bk.ex
  refine⟨_,(R.ae (R.af (R.ip hu1 (R.aq (K:=K) (R.v 0)) (R.v 1) R.ac))),?_⟩
  refine⟨C,dx,_,.ref d,h1,B.cl,B.nA,eS _,d,rfl,.inl ⟨_,.inl h2⟩,_,DGet.k (k:=Sum.inr n) h2,?_⟩
  rw[tF];exact q
theorem aY {α:Type} {xs:List α} {i:Nat} {x:α} (h:xs[i]?=some x):xs.take (i+1)=xs.take i++[x]:=by
 rw[List.take_succ,h];rfl
theorem xZ {C:Addr} (T:Txt K mg) (B:Nv K C) (D:MethAt K C "rows" "Book.rows" eW ["self"]):cT P w K mg base 1 C "rows" ["self"] (uW C):=by
 refine D.go tO (fun vs H Q E h=>?_) (fun f cdv A outer s H vs Q E hr h=>?_)
 ·obtain⟨p,prs,rfl,_⟩:=h;rfl
 ·obtain⟨p,prs,rfl,bk,hz,q⟩:=h
  have hu1:=cS hr
  obtain⟨dx,d,h1,h2⟩:=bk.ex
  refine⟨_,(R.ae (R.af (R.bi rfl (js:=[none,some 0]) (N:=["name","self"]) (CompScope.by (aB eW) ["self"] rfl rfl Zk) (aO rfl) (R.bf (K:=K) (R.ax (R.fe rfl) rfl T.b_sorted cO (R.aa (R.aq (K:=K) (R.v 0)) R.ab))) (fun C s₂ H₂ fp=>⟨(R.gn (i:=0) (show(["name","self"]:List Str).Nodup by decide +kernel)),(R.bt (R.aj R.gt (R.bh hu1 (R.aq (K:=K) (R.v 1)) (R.v 0)) R.ac)),(R.gm (R.aa (R.v 0) (R.aa (R.bh hu1 (R.aq (K:=K) (R.v 1)) (R.v 0)) R.ab)))⟩)))),?_⟩
  refine⟨C,dx,_,.ref d,h1,B.cl,B.nA,eS _,prs.map (·.1),_,.inl h2,pG prs,by rw[bN];exact hz,fun l hl=>⟨l,rfl,⟨_,SqL.of aA⟩,?_⟩⟩
  have s1:Same H (aH H l (.lst ((pB (prs.map (·.1))).map V.str))):=aF hl
  have g1:(aH H l (.lst ((pB (prs.map (·.1))).map V.str))) l=some (.lst ((pB (prs.map (·.1))).map V.str)):=aA
  generalize aH H l (.lst ((pB (prs.map (·.1))).map V.str))=H1 at s1 g1;have hlen:(pB (prs.map (·.1))).length<64:=by rw[kY,bN];exact hz
  refine bB (bR K l ((pB (prs.map (·.1))).map V.str)) (by rw[bN];omega) (fun i ys H'=>∃zs:List Z,ys=dS zs/\Same H1 H'/\ZAt H' zs/\zs.length<=i/\zs.map (·.2)=(((pB (prs.map (·.1))).take i).filter fun n=>decide (0<cD prs n)).map fun n=>(n,cD prs n))
   (fun i ys H' ⟨zs,e,s',_,hl',_⟩=>⟨SqL.of (s' _ _ g1),by rw[e];unfold dS;rw[bN];exact hl'⟩) ⟨[],rfl,Same.refl _,(fun _ h=>nomatch h),cA _,rfl⟩ (fun i x ys H' hx ⟨zs,e,s',hza,hzl,hzm⟩=>?_) (fun ys H' ⟨zs,e,s',hza,hzl,hzm⟩=>?_)
  ·rw[gQ]at hx;cases hn:(pB (prs.map (·.1)))[i]? with
   | none=>rw[hn]at hx;cases hx
   | some n=>
    rw[hn]at hx;cases hx
    have hmem:n∈prs.map (·.1):=(kX _).mem_iff.mp (kK hn)
    obtain⟨a,ha⟩:=kC hmem
    have ea:cD prs n=a:=by unfold cD;rw[ha];rfl
    have gd:∀H'',Same H1 H''->DGet H'' d (.str n) (some (.int a)):=fun H'' s''=>by
     have:=DGet.k (k:=Sum.inr n) (s''  _ _ (s1 _ _ h2))
     rw[oG,ha]at this;exact this
    have h1':=s' _ _ (s1 _ _ h1)
    refine⟨C,dx,_,.ref d,h1',B.cl,B.nA,eS _,d,_,rfl,gd H' s',?_⟩
    refine fX (fun hb=>?_) (fun hb=>?_)
    ·have hb':0<a:=by simpa using hb
     refine⟨C,dx,_,.ref d,h1',B.cl,B.nA,eS _,d,_,rfl,gd H' s',kJ rfl,fun t ht=>⟨zs++[(t,n,a)],by rw[e];unfold dS;rw[iG];rfl,s'.trans (aF ht),?_,by rw[wC];simpa using hzl,?_⟩⟩
     ·intro z hz';rcases Zma.mp hz' with m | m
      ·exact(hza.same (aF ht)) z m
      ·rw[Zms.mp m];exact aA
     ·rw[iG,hzm,aY hn,List.filter_append,iG];congr 1
      rw[List.filter_cons,if_pos (by rw[ea];exact decide_eq_true hb')]
      rw[<- ea];rfl
    ·have hb':¬ 0<a:=by simpa using hb
     refine⟨zs,e,s',hza,Zo,?_⟩
     rw[hzm,aY hn,List.filter_append,List.filter_cons,if_neg (by rw[ea];simpa using hb')]
     simp
  ·intro l2 hl2;subst e;refine q l2 zs _ (s1.trans (s'.trans (aF hl2))) ?_ aA (hza.same (aF hl2)) ?_
   ·exact s1.free (s'.free hl2)
   ·rw[hzm,bN,List.take_length];rfl
def eZ (f:Str->Nat) (z:Str) (v:Nat):Str->Nat:=fun y=>if y=z then v else f y
def aQ (f:Str->Nat):Dd->Option An
 | .add a n=>if 1000000000000<f a+n then some (.full (f a)) else some (.is1 (f a+n))
 | .take a n=>if f a<n then some (.short (f a)) else some (.is1 (f a - n))
 | .move a b n=>if f a<n then some (.short (f a)) else if 1000000000000<f b+n then some (.full (f b)) else some (.is2 (f a - n) (f b+n))
 | .send _ a n=>if f a<n then some (.short (f a)) else none
 | .fetch _ a n=>if 1000000000000<f a+n then some (.full (f a)) else none
 | .pass _ _ _ _=>none
def dY (f:Str->Nat):Dd->List An
 | .send h a n=>[.no h,.is1 (f a - n)]
 | .fetch h a n=>[.no h,.is1 (f a+n)]
 | .pass h g _ _=>[.no h,.no g,.ok]
 | _=>[]
def after (f:Str->Nat):Dd->An->(Str->Nat)
 | .add a n,.is1 _=>eZ f a (f a+n)
 | .take a n,.is1 _=>eZ f a (f a - n)
 | .move a b n,.is2 _ _=>eZ (eZ f a (f a - n)) b (f b+n)
 | .send _ a n,.is1 _=>eZ f a (f a - n)
 | .fetch _ a n,.is1 _=>eZ f a (f a+n)
 | _,_=>f
def pN (f:Str->Nat) (x:Dd) (q:Bool) (y:An):Prop:=(q=false/\aQ f x=some y)∨(q=true/\aQ f x=none/\y∈dY f x)
theorem Hl {f:Str->Nat} (hf:∀z,f z<=1000000000000) {x:Dd} (hx:x.Ok) {q:Bool} {y:An} (h:pN f x q y) (hq:q=true->x.far=true):An.Of x y/\(x.far=true->(q=true↔y.early=false)):=by
 rcases h with⟨rfl,h⟩ | ⟨rfl,h1,h2⟩
 ·cases x with
  | add a n=>
   simp only [aQ]at h
   have:=hf a
   split at h <;> cases h
   ·exact⟨⟨Zo,Zo⟩,fun z=>nomatch z⟩
   ·exact⟨⟨Zo,Zo⟩,fun z=>nomatch z⟩
  | take a n=>
   simp only [aQ]at h
   have:=hf a
   split at h <;> cases h
   ·exact⟨by show f a<n;omega,fun z=>nomatch z⟩
   ·exact⟨by show f a - n+n<=1000000000000;omega,fun z=>nomatch z⟩
  | move a b n=>
   simp only [aQ]at h
   have:=hf a
   have:=hf b
   split at h
   ·cases h;exact⟨by show f a<n;omega,fun z=>nomatch z⟩
   ·split at h <;> cases h
    ·exact⟨⟨Zo,Zo⟩,fun z=>nomatch z⟩
    ·exact⟨⟨Zo,Zo,Zo⟩,fun z=>nomatch z⟩
  | send g a n=>
   simp only [aQ]at h
   split at h <;> cases h
   exact⟨by show f a<n;omega,fun _=>⟨(fun z=>nomatch z),(fun z=>nomatch z)⟩⟩
  | fetch g a n=>
   simp only [aQ]at h
   have:=hf a
   split at h <;> cases h
   exact⟨⟨Zo,Zo⟩,fun _=>⟨(fun z=>nomatch z),(fun z=>nomatch z)⟩⟩
  | pass g k a n=>cases h
 ·cases x with
  | add a n=>cases hq rfl
  | take a n=>cases hq rfl
  | move a b n=>cases hq rfl
  | send g a n=>
   have:=hf a
   simp only [aQ]at h1
   simp only [dY,List.mem_cons,List.not_mem_nil,or_false]at h2
   have hn:n<=f a:=by
    by_cases hh:f a<n
    ·rw[if_pos hh]at h1;cases h1
    ·omega
   rcases h2 with rfl | rfl
   ·exact⟨rfl,fun _=>⟨fun _=>rfl,fun _=>rfl⟩⟩
   ·exact⟨by show f a - n+n<=1000000000000;omega,fun _=>⟨fun _=>rfl,fun _=>rfl⟩⟩
  | fetch g a n=>
   simp only [aQ]at h1
   simp only [dY,List.mem_cons,List.not_mem_nil,or_false]at h2
   have hn:¬ 1000000000000<f a+n:=by
    intro hh;rw[if_pos hh]at h1;cases h1
   rcases h2 with rfl | rfl
   ·exact⟨rfl,fun _=>⟨fun _=>rfl,fun _=>rfl⟩⟩
   ·exact⟨⟨Zo,Zo⟩,fun _=>⟨fun _=>rfl,fun _=>rfl⟩⟩
  | pass g k a n=>
   simp only [dY,List.mem_cons,List.not_mem_nil,or_false]at h2
   rcases h2 with rfl | rfl | rfl
   ·exact⟨.inl rfl,fun _=>⟨fun _=>rfl,fun _=>rfl⟩⟩
   ·exact⟨.inr rfl,fun _=>⟨fun _=>rfl,fun _=>rfl⟩⟩
   ·exact⟨trivial,fun _=>⟨fun _=>rfl,fun _=>rfl⟩⟩
theorem jK {f:Str->Nat} {z:Str} {v:Nat} (hf:∀z,f z<=1000000000000) (hv:v<=1000000000000):∀y,eZ f z v y<=1000000000000:=fun y=>by
 unfold eZ;split
 ·exact hv
 ·exact hf y
theorem Hm {f:Str->Nat} (hf:∀z,f z<=1000000000000) {x:Dd} {q:Bool} {y:An} (h:pN f x q y):∀z,after f x y z<=1000000000000:=by
 rcases h with⟨rfl,h⟩ | ⟨rfl,h1,h2⟩
 ·cases x with
  | add a n=>
   simp only [aQ]at h
   split at h <;> cases h
   ·exact hf
   ·exact jK hf Zo
  | take a n=>
   simp only [aQ]at h
   have:=hf a
   split at h <;> cases h
   ·exact hf
   ·exact jK hf Zo
  | move a b n=>
   simp only [aQ]at h
   have:=hf a
   split at h
   ·cases h;exact hf
   ·split at h <;> cases h
    ·exact hf
    ·exact jK (jK hf Zo) Zo
  | send g a n=>
   simp only [aQ]at h
   split at h <;> cases h
   exact hf
  | fetch g a n=>
   simp only [aQ]at h
   split at h <;> cases h
   exact hf
  | pass g k a n=>cases h
 ·cases x with
  | add a n=>cases h2
  | take a n=>cases h2
  | move a b n=>cases h2
  | send g a n=>
   have:=hf a
   simp only [dY,List.mem_cons,List.not_mem_nil,or_false]at h2
   rcases h2 with rfl | rfl
   ·exact hf
   ·exact jK hf Zo
  | fetch g a n=>
   simp only [aQ]at h1
   simp only [dY,List.mem_cons,List.not_mem_nil,or_false]at h2
   have hn:¬ 1000000000000<f a+n:=by
    intro hh;rw[if_pos hh]at h1;cases h1
   rcases h2 with rfl | rfl
   ·exact hf
   ·exact jK hf Zo
  | pass g k a n=>
   simp only [dY,List.mem_cons,List.not_mem_nil,or_false]at h2
   rcases h2 with rfl | rfl | rfl <;> exact hf
def wF:Dd->An->List (Str × Int)
 | .add a n,.is1 _=>[(a,(n:Int))]
 | .take a n,.is1 _=>[(a,-(n:Int))]
 | .move a b n,.is2 _ _=>[(a,-(n:Int)),(b,(n:Int))]
 | .send _ a n,.is1 _=>[(a,-(n:Int))]
 | .fetch _ a n,.is1 _=>[(a,(n:Int))]
 | _,_=>[]
theorem Wb (y:An):lM y.vs 0=some (.str (Cl y)):=by cases y <;> rfl
theorem Wc {y:An} (h:Cl y="is"):(∃m,y=.is1 m)∨∃l m,y=.is2 l m:=by
 cases y with
 | is1 m=>exact .inl ⟨m,rfl⟩
 | is2 l m=>exact .inr ⟨l,m,rfl⟩
 | short m=>exact absurd (show("short":Str)="is" from h) Zk
 | full m=>exact absurd (show("full":Str)="is" from h) Zk
 | no m=>exact absurd (show("no":Str)="is" from h) Zk
 | ok=>exact absurd (show("ok":Str)="is" from h) Zk
def dZ (f:Str->Nat) (c:Str × Int):Str->Nat:=eZ f c.1 ((f c.1:Int)+c.2).toNat
def Hn (f:Str->Nat) (cs:List (Str × Int)):Str->Nat:=cs.foldl dZ f
def Ho:(Str->Nat)->List (Str × Int)->Prop
 | _,[]=>True
 | f,c::cs=>0<=(f c.1:Int)+c.2/\Ho (dZ f c) cs
theorem vI {f:Str->Nat} {x:Dd} {q:Bool} {y:An} (hx:x.Ok) (h:pN f x q y):Hn f (wF x y)=after f x y/\Ho f (wF x y):=by
 rcases h with⟨rfl,h⟩ | ⟨rfl,h1,h2⟩
 ·cases x with
  | add a n=>
   simp only [aQ]at h
   split at h <;> cases h
   ·exact⟨rfl,trivial⟩
   ·refine⟨?_,by show(0:Int)<=_+_;omega,trivial⟩
    show eZ f a ((f a:Int)+(n:Int)).toNat=eZ f a (f a+n)
    rw[show((f a:Int)+(n:Int)).toNat=f a+n by omega]
  | take a n=>
   simp only [aQ]at h
   split at h <;> cases h
   ·exact⟨rfl,trivial⟩
   ·refine⟨?_,by show(0:Int)<=(f a:Int)+-(n:Int);omega,trivial⟩
    show eZ f a ((f a:Int)+-(n:Int)).toNat=eZ f a (f a - n)
    rw[show((f a:Int)+-(n:Int)).toNat=f a - n by omega]
  | move a b n=>
   have hab:b≠a:=fun z=>hx.2.2.1 z.symm
   simp only [aQ]at h
   split at h
   ·cases h;exact⟨rfl,trivial⟩
   ·split at h <;> cases h
    ·exact⟨rfl,trivial⟩
    ·have eb:dZ f (a,-(n:Int)) b=f b:=by unfold dZ eZ;exact if_neg hab
     refine⟨?_,by show(0:Int)<=(f a:Int)+-(n:Int);omega,?_,trivial⟩
     ·show dZ (dZ f (a,-(n:Int))) (b,(n:Int))=eZ (eZ f a (f a - n)) b (f b+n)
      have e1:dZ f (a,-(n:Int))=eZ f a (f a - n):=by
       unfold dZ;rw[show((f a:Int)+-(n:Int)).toNat=f a - n by omega]
      unfold dZ at eb ⊢
      dsimp only at eb ⊢
      rw[eb,show((f b:Int)+(n:Int)).toNat=f b+n by omega]
      unfold dZ at e1;rw[e1]
     ·show(0:Int)<=(dZ f (a,-(n:Int)) b:Int)+(n:Int)
      omega
  | send g a n=>
   simp only [aQ]at h
   split at h <;> cases h
   exact⟨rfl,trivial⟩
  | fetch g a n=>
   simp only [aQ]at h
   split at h <;> cases h
   exact⟨rfl,trivial⟩
  | pass g k a n=>cases h
 ·cases x with
  | add a n=>cases h2
  | take a n=>cases h2
  | move a b n=>cases h2
  | send g a n=>
   simp only [aQ]at h1
   simp only [dY,List.mem_cons,List.not_mem_nil,or_false]at h2
   have hn:¬ f a<n:=by
    intro hh;rw[if_pos hh]at h1;cases h1
   rcases h2 with rfl | rfl
   ·exact⟨rfl,trivial⟩
   ·refine⟨?_,by show(0:Int)<=(f a:Int)+-(n:Int);omega,trivial⟩
    show eZ f a ((f a:Int)+-(n:Int)).toNat=eZ f a (f a - n)
    rw[show((f a:Int)+-(n:Int)).toNat=f a - n by omega]
  | fetch g a n=>
   simp only [dY,List.mem_cons,List.not_mem_nil,or_false]at h2
   rcases h2 with rfl | rfl
   ·exact⟨rfl,trivial⟩
   ·refine⟨?_,by show(0:Int)<=(f a:Int)+(n:Int);omega,trivial⟩
    show eZ f a ((f a:Int)+(n:Int)).toNat=eZ f a (f a+n)
    rw[show((f a:Int)+(n:Int)).toNat=f a+n by omega]
  | pass g k a n=>
   simp only [dY,List.mem_cons,List.not_mem_nil,or_false]at h2
   rcases h2 with rfl | rfl | rfl <;> exact⟨rfl,trivial⟩
def bW:Dd->List (Str × Int)
 | .add a n=>[(a,(n:Int))]
 | .take a n=>[(a,-(n:Int))]
 | .move a b n=>[(a,-(n:Int)),(b,(n:Int))]
 | .send _ a n=>[(a,-(n:Int))]
 | .fetch _ a n=>[(a,(n:Int))]
 | .pass _ _ _ _=>[]
theorem Hq {x:Dd} {y:An} (hy:An.Of x y) (h:Cl y="is"):wF x y=bW x:=by
 rcases Wc h with⟨m,rfl⟩ | ⟨l,m,rfl⟩ <;> cases x <;> first | rfl | exact hy.elim
theorem Sk {x:Dd} {y:An} (h:Cl y≠"is"):wF x y=[]:=by cases x <;> cases y <;> first | rfl | exact absurd rfl h
def zX:Sp:=fun vs H Q _=>∃(t:Addr) (x:Dd),vs=[.ref t]/\H t=some (.tup x.vs)/\∀(tp:Addr) (zs:List Z) (H':Hp),Same H H'->H' tp=some (.tup (dS zs))->ZAt H' zs->zs.map (·.2)=bW x->Q (.ref tp) H'
theorem oA (T:Txt K mg) (D:DefAt K mg "done_changes" cI ["deed"]):aI P w K mg base 1 "done_changes" ["deed"] zX:=by
 refine D.go iJ (fun vs H Q E h=>?_) (fun f cdv A outer s H vs Q E hr h=>?_)
 ·obtain⟨t,x,rfl,_⟩:=h;rfl
 ·obtain⟨p,x,rfl,hp,q⟩:=h
  refine⟨_,(R.ad (R.ar (R.aj R.eq (R.ix (R.ag (K:=K)) (R.v 0) R.ac) R.ah) (R.ae (R.af (R.ap R.ab))) R.au) (R.ad (R.ar (R.aj R.eq (R.ix (R.ag (K:=K)) (R.v 0) R.ac) R.ah) (R.ae (R.af (R.ap (R.aa (R.ap (R.aa (R.ix (R.ag (K:=K)) (R.v 0) R.ac) (R.aa (R.bb (R.ix (R.ag (K:=K)) (R.v 0) (R.bb R.ac))) R.ab))) (R.aa (R.ap (R.aa (R.ix (R.ag (K:=K)) (R.v 0) R.ac) (R.aa (R.ix (R.ag (K:=K)) (R.v 0) (R.bb R.ac)) R.ab))) R.ab))))) R.au) (R.ad (R.ar (R.aj (R.dj (K:=K)) (R.ix (R.ag (K:=K)) (R.v 0) R.ac) (R.ap (R.aa R.ah (R.aa R.ah R.ab)))) (R.ae (R.af (R.ap (R.aa (R.ap (R.aa (R.ix (R.ag (K:=K)) (R.v 0) (R.bb R.ac)) (R.aa (R.bb (R.ix (R.ag (K:=K)) (R.v 0) (R.bb R.ac))) R.ab))) R.ab)))) R.au) (R.ae (R.af (R.ap (R.aa (R.ap (R.aa (R.ix (R.ag (K:=K)) (R.v 0) (R.bb R.ac)) (R.aa (R.ix (R.ag (K:=K)) (R.v 0) (R.bb R.ac)) R.ab))) R.ab))))))),?_⟩
  have z1:∀ {H':Hp} {a:Addr} {x:Str} {i:Int},H' a=some (.tup [.str x,.int i])->ZAt H' [(a,x,i)]:=fun h z hz=>by
   rw[Zms.mp hz];exact h
  cases x with
  | add a n=>
   refine⟨_,SqT.of hp,_,rfl,_,SqT.of hp,_,rfl,_,SqT.of hp,_,rfl,bH rfl,fun p1 H1 s1 g1=>⟨p1,_,rfl,.inr (SqT.of g1),rfl,rfl,?_⟩⟩
   exact⟨_,SqT.of (s1 _ _ hp),_,rfl,_,SqT.of (s1 _ _ hp),_,rfl,bH rfl,fun p2 H2 s2 g2=>⟨bH rfl,fun p3 H3 s3 g3=>q p3 [(p2,a,(n:Int))] H3 ((s1.trans s2).trans s3) g3 (z1 (s3 _ _ g2)) rfl⟩⟩
  | take a n=>
   refine⟨_,SqT.of hp,_,rfl,_,SqT.of hp,_,rfl,_,SqT.of hp,_,rfl,bH rfl,fun p1 H1 s1 g1=>⟨p1,_,rfl,.inr (SqT.of g1),rfl,rfl,?_⟩⟩
   exact⟨_,SqT.of (s1 _ _ hp),_,rfl,_,SqT.of (s1 _ _ hp),_,rfl,bH rfl,fun p2 H2 s2 g2=>⟨bH rfl,fun p3 H3 s3 g3=>q p3 [(p2,a,-(n:Int))] H3 ((s1.trans s2).trans s3) g3 (z1 (s3 _ _ g2)) rfl⟩⟩
  | send h a n=>
   refine⟨_,SqT.of hp,_,rfl,_,SqT.of hp,_,rfl,_,SqT.of hp,_,rfl,bH rfl,fun p1 H1 s1 g1=>⟨p1,_,rfl,.inr (SqT.of g1),rfl,rfl,?_⟩⟩
   exact⟨_,SqT.of (s1 _ _ hp),_,rfl,_,SqT.of (s1 _ _ hp),_,rfl,bH rfl,fun p2 H2 s2 g2=>⟨bH rfl,fun p3 H3 s3 g3=>q p3 [(p2,a,-(n:Int))] H3 ((s1.trans s2).trans s3) g3 (z1 (s3 _ _ g2)) rfl⟩⟩
  | fetch h a n=>
   refine⟨_,SqT.of hp,_,rfl,_,SqT.of hp,_,rfl,_,SqT.of hp,_,rfl,bH rfl,fun p1 H1 s1 g1=>⟨p1,_,rfl,.inr (SqT.of g1),rfl,rfl,?_⟩⟩
   exact⟨_,SqT.of (s1 _ _ hp),_,rfl,_,SqT.of (s1 _ _ hp),_,rfl,bH rfl,fun p2 H2 s2 g2=>⟨bH rfl,fun p3 H3 s3 g3=>q p3 [(p2,a,(n:Int))] H3 ((s1.trans s2).trans s3) g3 (z1 (s3 _ _ g2)) rfl⟩⟩
  | move a b n=>
   refine⟨_,SqT.of hp,_,rfl,_,SqT.of hp,_,rfl,_,SqT.of hp,_,rfl,_,SqT.of hp,_,rfl,bH rfl,fun p2 H2 s2 g2=>⟨_,SqT.of (s2 _ _ hp),_,rfl,_,SqT.of (s2 _ _ hp),_,rfl,bH rfl,fun p3 H3 s3 g3=>⟨bH rfl,fun p4 H4 s4 g4=>?_⟩⟩⟩
   refine q p4 [(p2,a,-(n:Int)),(p3,b,(n:Int))] H4 ((s2.trans s3).trans s4) g4 (fun z hz=>?_) rfl
   rcases List.mem_cons.mp hz with rfl | hz
   ·exact s4 _ _ (s3 _ _ g2)
   ·rw[Zms.mp hz];exact s4 _ _ g3
  | pass h g a n=>
   refine⟨_,SqT.of hp,_,rfl,?_⟩
   exact⟨bH rfl,fun p1 H1 s1 g1=>q p1 [] H1 s1 g1 (fun _ h=>nomatch h) rfl⟩
def Hr:Sp:=fun vs H Q _=>∃(t c:Addr) (x:Dd) (y:An),vs=[.ref t,.ref c]/\H t=some (.tup x.vs)/\H c=some (.tup y.vs)/\An.Of x y/\∀(tp:Addr) (zs:List Z) (H':Hp),Same H H'->H' tp=some (.tup (dS zs))->ZAt H' zs->zs.map (·.2)=wF x y->Q (.ref tp) H'
theorem qA (T:Txt K mg) (c_done_changes:aI P w K mg base 1 "done_changes" ["deed"] zX) (D:DefAt K mg "changes_of" fJ ["deed","answer"]):aI P w K mg base 2 "changes_of" ["deed","answer"] Hr:=by
 refine D.go pV (fun vs H Q E h=>?_) (fun f cdv A outer s H vs Q E hr h=>?_)
 ·obtain⟨t,c,x,y,rfl,_⟩:=h;rfl
 ·obtain⟨t,c,x,y,rfl,gt,gc,hy,q⟩:=h
  have hr_done_changes:=hr
  refine⟨_,(R.ad (R.ar (R.aj R.ne (R.ix (R.ag (K:=K)) (R.v 1) R.ac) R.ah) (R.ae (R.af (R.ap R.ab))) R.au) (R.ae (R.af (R.fn c_done_changes hr_done_changes rfl (R.aa (R.v 0) R.ab))))),?_⟩
  refine⟨_,SqT.of gc,_,Wb y,?_⟩
  show if (!decide (Cl y="is"))=true then _ else _
  by_cases hw:Cl y="is"
  ·refine oY (by rw[decide_eq_true hw];rfl) ?_
   exact⟨t,x,rfl,gt,fun tp zs H' s' g z e=>q tp zs H' s' g z (by rw[e,Hq hy hw])⟩
  ·refine xH (by rw[decide_eq_false hw];rfl) ?_
   exact⟨bH rfl,fun p1 H1 s1 g1=>q p1 [] H1 s1 g1 (fun _ h=>nomatch h) (by rw[Sk hw];rfl)⟩
theorem Hs {C:Addr} (T:Txt K mg) (B:Nv K C) (D:ClsAt K mg "Book" C "Book.__init__" bT ["self","rows"] [[],[.non]]):∀d∈([[],[.non]]:List (List V)),tY P w K mg base 1 "Book" C ["self","rows"] d (tH C):=by
 refine D.go mK (fun vs H Q E h=>?_) (fun f cdv A outer s H vs Q E hr h=>?_)
 ·obtain⟨p,dx,r,prs,rfl,_⟩:=h;rfl
 ·obtain⟨p,dx,r,prs,rfl,hp,hR,nd,hz,q⟩:=h
  refine⟨_,(R.ad (R.aw (K:=K) (R.v 0) R.cn) (R.ae (R.ar (R.aj R.dl (R.v 1) R.cf) (R.ae (R.aw (K:=K) (R.v 0) (R.cm (R.dy (K:=K) rfl) rfl T.b_dict zG (R.aa (R.v 1) R.ab)))) R.au))),?_⟩
  intro d1 hd1;have np:=aE hp hd1
  refine⟨C,dx,[],(by rw[aD np];exact hp),B.cl,B.nA,(by show 0<1000;decide),?_⟩
  have g1:(aH (aH H d1 (.dK [])) p (.ins C dx [("amounts",.ref d1)])) p=some (.ins C dx [("amounts",.ref d1)]):=aA
  have g2:(aH (aH H d1 (.dK [])) p (.ins C dx [("amounts",.ref d1)])) d1=some (.dK []):=by rw[aD np.symm];exact aA
  have k1:∀b o,H b=some o->b≠p->(aH (aH H d1 (.dK [])) p (.ins C dx [("amounts",.ref d1)])) b=some o:=fun b o e hb=>by rw[aD hb,aD (aE e hd1)];exact e
  dsimp only;rw[Xv];generalize aH (aH H d1 (.dK [])) p (.ins C dx [("amounts",.ref d1)])=H1 at g1 g2 k1;rcases hR with⟨rfl,rfl⟩ | ⟨l,zs,rfl,hl,hza,rfl⟩
  ·exact q H1 d1 hd1 g1 g2 k1
  ·have nl:l≠p:=aK hl hp (fun z=>nomatch z)
   have hza1:ZAt H1 zs:=fun z hz=>k1 _ _ (hza z hz) (aK (hza z hz) hp (fun z=>nomatch z))
   refine⟨wz zs,by rw[Ry];exact SqL.of (k1 _ _ hl nl),Vw hza1,by unfold wz;rw[bN];simpa using hz,fun d hd=>?_⟩
   have hd0:H d=none:=by
    cases e:H d with
    | none=>rfl
    | some o=>
     by_cases z:d=p
     ·rw[z,g1]at hd;cases hd
     ·rw[k1 d o e z]at hd;cases hd
   rw[Rz,Bu nd];refine⟨C,dx,_,(by rw[aD (aE g1 hd)];exact g1),B.cl,B.nA,(by show 1<1000;decide),?_⟩
   refine q _ d hd0 (by rw[aA,Xw]) (by rw[aD (aE g1 hd).symm];exact aA) fun b o e hb=>?_
   rw[aD hb,aD (aE (k1 b o e hb) hd)];exact k1 b o e hb
def lF (prs:List (Str × Int)) (n:Str) (v:Int):List (Str × Int):=if n∈prs.map (·.1) then Gk prs n v else prs++[(n,v)]
def iN:List (Str × Int)->List (Str × Int)->List (Str × Int)
 | prs,[]=>prs
 | prs,q::r=>iN (lF prs q.1 (cD prs q.1+q.2)) r
theorem rC:∀(cs prs:List (Str × Int)) (q:Str × Int),iN prs (cs++[q])=lF (iN prs cs) q.1 (cD (iN prs cs) q.1+q.2)
 | [],_,_=>rfl
 | p::r,prs,q=>rC r _ q
theorem vJ {prs:List (Str × Int)} {n:Str} {v:Int}:bF (lZ prs) (Sum.inr n) (.int v)=lZ (lF prs n v):=by
 unfold lF;by_cases h:n∈prs.map (·.1)
 ·rw[if_pos h];exact Lq h
 ·rw[if_neg h];have hv:aX (lZ prs) (Sum.inr n)=none:=by
   cases e:aX (lZ prs) (Sum.inr n) with
   | none=>rfl
   | some x=>
    have:=sQ e
    rw[pG]at this;obtain⟨m,hm,e2⟩:=Zmm.mp this
    cases e2
    exact absurd hm h
  rw[fV _ hv];unfold lZ;rw[iG];rfl
theorem mQ {prs:List (Str × Int)} {n:Str} {v:Int}:(lF prs n v).map (·.1)=if n∈prs.map (·.1) then prs.map (·.1) else prs.map (·.1)++[n]:=by
 unfold lF;by_cases h:n∈prs.map (·.1)
 ·rw[if_pos h,if_pos h];exact Bw _ _ _
 ·rw[if_neg h,if_neg h,iG];rfl
theorem Mh {prs:List (Str × Int)} {n:Str} {v:Int} (h:(prs.map (·.1)).Nodup):((lF prs n v).map (·.1)).Nodup:=by
 rw[mQ];split
 ·exact h
 ·rename_i hn;exact sR h hn
theorem oI:∀(cs prs:List (Str × Int)),(prs.map (·.1)).Nodup->((iN prs cs).map (·.1)).Nodup
 | [],_,h=>h
 | _::r,_,h=>oI r _ (Mh h)
def Ht (prs:List (Str × Int)) (q:Str × Int):Prop:=0<=cD prs q.1+q.2/\cD prs q.1+q.2<=1000000000000
theorem zY {H:Hp} {zs:List Z} {i:Nat} {x:V} (hz:ZAt H zs) (hx:(dS zs)[i]?=some x):∃z,zs[i]?=some z/\x=.ref z.1/\H z.1=some (.tup [.str z.2.1,.int z.2.2]):=by
 unfold dS at hx;rw[gQ]at hx;obtain⟨z,hn,rfl⟩:=Option.map_eq_some_iff.mp hx
 exact⟨z,hn,rfl,hz z (kK hn)⟩
theorem vK:∀(cs prs:List (Str × Int)),(iN prs cs).length<=prs.length+cs.length
 | [],prs=>cA _
 | q::r,prs=>by
  have h:=vK r (lF prs q.1 (cD prs q.1+q.2))
  have h2:(lF prs q.1 (cD prs q.1+q.2)).length<=prs.length+1:=by
   have:=congrArg List.length (mQ (prs:=prs) (n:=q.1) (v:=cD prs q.1+q.2))
   rw[bN]at this;rw[this];split <;> simp
  show(iN (lF prs q.1 (cD prs q.1+q.2)) r).length<=_
  rw[wG];omega
def mU (C:Addr):Sp:=fun vs H Q E=>∃(p dx d t:Addr) (prs:List (Str × Int)) (zs:List Z),vs=[.ref p,.ref t]/\H p=some (.ins C dx [("amounts",.ref d)])/\H d=some (.dK (lZ prs))/\(prs.map (·.1)).Nodup/\H t=some (.tup (dS zs))/\ZAt H zs/\prs.length+zs.length<=100 ∧
 (∀q∈zs.map (·.2),Ht prs q)/\∀H',H' d=some (.dK (lZ (iN prs (zs.map (·.2)))))->(∀b o,H b=some o->b≠d->H' b=some o)->Q .non H'
theorem yA {C:Addr} (T:Txt K mg) (B:Nv K C) (c_Book_amount:cT P w K mg base 1 C "amount" ["self","name"] (gY C)) (D:MethAt K C "change" "Book.change" eG ["self","changes"]):cT P w K mg base 2 C "change" ["self","changes"] (mU C):=by
 refine D.go cJ (fun vs H Q E h=>?_) (fun f cdv A outer s H vs Q E hr h=>?_)
 ·obtain⟨p,dx,d,t,prs,zs,rfl,_⟩:=h;rfl
 ·obtain⟨p,dx,d,t,prs,zs,rfl,hp,hd,nd,ht,hz,hl,hg,Q0⟩:=h
  have hr_Book_amount:=hr
  have hu1:=cS hr
  have hlz:(dS zs).length=zs.length:=by unfold dS;rw[bN]
  refine⟨_,(R.ad (R.bq PassesOwn.never rfl (R.cq (K:=K) (R.v 1)) (R.ca (K:=K) (n:=2) rfl (R.ay (R.gn (i:=2) cJ.nd) (R.ay (R.gn (i:=3) cJ.nd) R.cb))) (R.ae (R.ar (R.bp (R.fw R.le R.le R.ac (R.op R.ba (R.bc c_Book_amount hr_Book_amount (R.v 0) (R.aa (R.v 2) R.ab)) (R.v 3)) (R.gI rfl T.g_MOST))) (R.ae R.az) R.au))) (R.ae (R.bq PassesOwn.never rfl (R.cq (K:=K) (R.v 1)) (R.ca (K:=K) (n:=2) rfl (R.ay (R.gn (i:=2) cJ.nd) (R.ay (R.gn (i:=3) cJ.nd) R.cb))) (R.ae (R.bz (R.op R.ba (R.bc c_Book_amount hr_Book_amount (R.v 0) (R.aa (R.v 2) R.ab)) (R.v 3)) (R.ce (R.aq (K:=K) (R.v 0)) (R.v 2) (R.cc hu1))))))),?_⟩
  refine qZ (fun σ' H'=>H'=H/\∃o2 o3,σ'=[some (.ref p),some (.ref t),o2,o3]) (fun nx hnx=>?_) ?_
  ·refine⟨t,rfl,⟨_,SqT.of ht⟩,eC (gX K t (dS zs)) (fun i σ H'=>H'=H/\∃o2 o3,σ=[some (.ref p),some (.ref t),o2,o3]) (fun i σ H' ⟨e,_⟩=>by rw[e];exact SqT.of ht) ⟨rfl,_,_,rfl⟩ ?_ (fun σ H' h=>hnx σ H' h)⟩
   rintro i x σ H' hx ⟨rfl,o2,o3,rfl⟩
   obtain⟨z,hn,rfl,gz⟩:=zY hz hx
   have hgz:=hg z.2 (List.mem_map_of_mem (kK hn))
   refine⟨z.1,_,rfl,SqT.of gz,rfl,_,_,rfl,_,_,rfl,rfl,dx,_,hp,tG _ Zk,p,z.2.1,prs,rfl,⟨⟨dx,d,hp,hd⟩,nd⟩,?_⟩
   refine xH (decide_eq_true hgz.1) ?_
   show if (!decide (cD prs z.2.1+z.2.2<=1000000000000))=true then _ else _
   refine oY (by rw[decide_eq_true hgz.2];rfl) ?_
   exact⟨rfl,_,_,rfl⟩
  ·rintro σ H' ⟨rfl,o2,o3,rfl⟩
   have ntd:t≠d:=aK ht hd (fun z=>nomatch z)
   refine⟨t,rfl,⟨_,SqT.of ht⟩,eC (gX K t (dS zs)) (fun i σ H''=>H'' d=some (.dK (lZ (iN prs ((zs.map (·.2)).take i))))/\(∀b o,H' b=some o->b≠d->H'' b=some o)/\∃o2 o3,σ=[some (.ref p),some (.ref t),o2,o3]) (fun i σ H'' ⟨_,k,_⟩=>SqT.of (k _ _ ht ntd)) ⟨hd,fun b o e _=>e,_,_,rfl⟩ ?_ ?_⟩
   ·rintro i x σ H'' hx ⟨g,k,o2,o3,rfl⟩
    obtain⟨z,hn,rfl,gz⟩:=zY (fun z m=>k _ _ (hz z m) (aK (hz z m) hd (fun z=>nomatch z))) hx
    have hni:(zs.map (·.2))[i]?=some z.2:=by rw[gQ,hn];rfl
    have hp':=k _ _ hp (aK hp hd (fun z=>nomatch z))
    have nd':=oI ((zs.map (·.2)).take i) prs nd
    have hle:=vK ((zs.map (·.2)).take i) prs
    have hle2:((zs.map (·.2)).take i).length<=zs.length:=by rw[oC,bN];exact Nat.min_le_right _ _
    refine⟨z.1,_,rfl,SqT.of gz,rfl,_,_,rfl,_,_,rfl,rfl,dx,_,hp',tG _ Zk,p,z.2.1,iN prs ((zs.map (·.2)).take i),rfl,⟨⟨dx,d,hp',g⟩,nd'⟩,?_⟩
    refine⟨C,dx,_,.ref d,hp',B.cl,B.nA,eS _,d,_,rfl,DPut.k (k:=Sum.inr z.2.1) g ?_,?_,fun b o e hb=>?_,_,_,rfl⟩
    ·unfold lZ;rw[bN];exact wH (m:=1000) Zo Zd
    ·rw[aA,vJ,aY hni,rC]
    ·rw[aD hb];exact k b o e hb
   ·rintro σ H'' ⟨g,k,o2,o3,rfl⟩
    refine Q0 _ ?_ k
    rw[g,hlz,Jb (by rw[bN];exact cA _)]
theorem Hu (prs:List (Str × Int)) (n m:Str) (v:Int):cD (lF prs n v) m=if m=n then v else cD prs m:=by
 have h1:=tF (lF prs n v) m
 rw[<- vJ,uJ]at h1;by_cases e:m=n
 ·rw[if_pos (by rw[e])]at h1
  rw[if_pos e];injection h1 with h1
  exact h1.symm
 ·rw[if_neg (fun c=>e (by injection c)),tF]at h1
  rw[if_neg e];injection h1 with h1
  exact h1.symm
theorem vL:∀(cs:List (Str × Int)) (prs:List (Str × Int)) (g:Str->Nat),Ho g cs->(∀z,cD prs z=(g z:Int))->∀z,cD (iN prs cs) z=(Hn g cs z:Int)
 | [],prs,g,_,h=>h
 | c::cs,prs,g,hG,h=>by
  refine vL cs (lF prs c.1 (cD prs c.1+c.2)) (dZ g c) hG.2 (fun z=>?_)
  rw[Hu,h];unfold dZ eZ;by_cases e:z=c.1
  ·rw[if_pos e,if_pos e,Int.toNat_of_nonneg hG.1]
  ·rw[if_neg e,if_neg e];exact h z
theorem Hv {f:Str->Nat} (hf:∀z,f z<=1000000000000) {x:Dd} {q:Bool} {y:An} (hx:x.Ok) (h:pN f x q y):∀c∈wF x y,0<=(f c.1:Int)+c.2/\(f c.1:Int)+c.2<=1000000000000:=by
 have hn:=hx.n
 rcases h with⟨rfl,h⟩ | ⟨rfl,h1,h2⟩
 ·cases x with
  | add a n=>
   have:=hf a
   simp only [aQ]at h
   split at h <;> cases h
   ·exact fun c hc=>nomatch hc
   ·intro c hc;rw[Zms.mp hc];exact⟨by show(0:Int)<=(f a:Int)+(n:Int);omega,by show(f a:Int)+(n:Int)<=_;omega⟩
  | take a n=>
   have:=hf a
   simp only [aQ]at h
   split at h <;> cases h
   ·exact fun c hc=>nomatch hc
   ·intro c hc;rw[Zms.mp hc];exact⟨by show(0:Int)<=(f a:Int)+-(n:Int);omega,by show(f a:Int)+-(n:Int)<=_;omega⟩
  | move a b n=>
   have:=hf a
   have:=hf b
   simp only [aQ]at h
   split at h
   ·cases h;exact fun c hc=>nomatch hc
   ·split at h <;> cases h
    ·exact fun c hc=>nomatch hc
    ·intro c hc;rcases List.mem_cons.mp hc with rfl | hc
     ·exact⟨by show(0:Int)<=(f a:Int)+-(n:Int);omega,by show(f a:Int)+-(n:Int)<=_;omega⟩
     ·rw[Zms.mp hc];exact⟨by show(0:Int)<=(f b:Int)+(n:Int);omega,by show(f b:Int)+(n:Int)<=_;omega⟩
  | send g a n=>
   simp only [aQ]at h
   split at h <;> cases h
   exact fun c hc=>nomatch hc
  | fetch g a n=>
   simp only [aQ]at h
   split at h <;> cases h
   exact fun c hc=>nomatch hc
  | pass g k a n=>cases h
 ·cases x with
  | add a n=>cases h2
  | take a n=>cases h2
  | move a b n=>cases h2
  | send g a n=>
   have:=hf a
   simp only [aQ]at h1
   simp only [dY,List.mem_cons,List.not_mem_nil,or_false]at h2
   have hh:¬ f a<n:=fun hh=>by rw[if_pos hh]at h1;cases h1
   rcases h2 with rfl | rfl
   ·exact fun c hc=>nomatch hc
   ·intro c hc;rw[Zms.mp hc];exact⟨by show(0:Int)<=(f a:Int)+-(n:Int);omega,by show(f a:Int)+-(n:Int)<=_;omega⟩
  | fetch g a n=>
   have:=hf a
   simp only [aQ]at h1
   simp only [dY,List.mem_cons,List.not_mem_nil,or_false]at h2
   have hh:¬ 1000000000000<f a+n:=fun hh=>by rw[if_pos hh]at h1;cases h1
   rcases h2 with rfl | rfl
   ·exact fun c hc=>nomatch hc
   ·intro c hc;rw[Zms.mp hc];exact⟨by show(0:Int)<=(f a:Int)+(n:Int);omega,by show(f a:Int)+(n:Int)<=_;omega⟩
  | pass g k a n=>
   simp only [dY,List.mem_cons,List.not_mem_nil,or_false]at h2
   rcases h2 with rfl | rfl | rfl <;> exact fun c hc=>nomatch hc
def pO:Dd->List (Str × List V)
 | .send h a n=>[(h,[.str "add",.str a,.int (n:Int)])]
 | .fetch h a n=>[(h,[.str "take",.str a,.int (n:Int)])]
 | .pass h g a n=>[(h,[.str "take",.str a,.int (n:Int)]),(g,[.str "add",.str a,.int (n:Int)])]
 | _=>[]
theorem yB (T:Txt K mg) (D:DefAt K mg "done_changes" cI ["deed"]):aI P w K mg base 1 "done_changes" ["deed"] mF:=by
 refine D.go iJ (fun vs H Q E h=>?_) (fun f cdv A outer s H vs Q E hr h=>?_)
 ·obtain⟨p,wd,xs,cs,as,rfl,_⟩:=h;rfl
 ·obtain⟨p,wd,xs,cs,as,rfl,hp,⟨one,other,nm,n,hd⟩,q⟩:=h
  refine⟨_,(R.ad (R.ar (R.aj R.eq (R.ix (R.ag (K:=K)) (R.v 0) R.ac) R.ah) (R.ae (R.af (R.ap R.ab))) R.au) (R.ad (R.ar (R.aj R.eq (R.ix (R.ag (K:=K)) (R.v 0) R.ac) R.ah) (R.ae (R.af (R.ap (R.aa (R.ap (R.aa (R.ix (R.ag (K:=K)) (R.v 0) R.ac) (R.aa (R.bb (R.ix (R.ag (K:=K)) (R.v 0) (R.bb R.ac))) R.ab))) (R.aa (R.ap (R.aa (R.ix (R.ag (K:=K)) (R.v 0) R.ac) (R.aa (R.ix (R.ag (K:=K)) (R.v 0) (R.bb R.ac)) R.ab))) R.ab))))) R.au) (R.ad (R.ar (R.aj (R.dj (K:=K)) (R.ix (R.ag (K:=K)) (R.v 0) R.ac) (R.ap (R.aa R.ah (R.aa R.ah R.ab)))) (R.ae (R.af (R.ap (R.aa (R.ap (R.aa (R.ix (R.ag (K:=K)) (R.v 0) (R.bb R.ac)) (R.aa (R.bb (R.ix (R.ag (K:=K)) (R.v 0) (R.bb R.ac))) R.ab))) R.ab)))) R.au) (R.ae (R.af (R.ap (R.aa (R.ap (R.aa (R.ix (R.ag (K:=K)) (R.v 0) (R.bb R.ac)) (R.aa (R.ix (R.ag (K:=K)) (R.v 0) (R.bb R.ac)) R.ab))) R.ab))))))),?_⟩
  have z1:∀ {H':Hp} {a:Addr} {x:Str} {i:Int},H' a=some (.tup [.str x,.int i])->ZAt H' [(a,x,i)]:=fun h z hz=>by
   rw[Zms.mp hz];exact h
  have two:∀(nm:Str) (i:Int),H p=some (.tup xs)->lM xs (-2)=some (.str nm)->lM xs (-1)=some (.int i)->True:=fun _ _ _ _ _=>trivial
  cases hd with
  | add=>
   refine⟨_,SqT.of hp,_,rfl,?_⟩
   refine⟨_,SqT.of hp,_,rfl,?_⟩
   refine⟨_,SqT.of hp,_,rfl,Zs,fun p1 H1 s1 g1=>⟨p1,_,rfl,.inr (SqT.of g1),rfl,rfl,?_⟩⟩
   refine⟨_,SqT.of (s1 _ _ hp),_,rfl,_,SqT.of (s1 _ _ hp),_,rfl,Zs,fun p2 H2 s2 g2=>⟨Zs,fun p3 H3 s3 g3=>q p3 [(p2,nm,n)] H3 ((s1.trans s2).trans s3) g3 (z1 (s3 _ _ g2)) rfl⟩⟩
  | take=>
   refine⟨_,SqT.of hp,_,rfl,?_⟩
   refine⟨_,SqT.of hp,_,rfl,?_⟩
   refine⟨_,SqT.of hp,_,rfl,Zs,fun p1 H1 s1 g1=>⟨p1,_,rfl,.inr (SqT.of g1),rfl,rfl,?_⟩⟩
   refine⟨_,SqT.of (s1 _ _ hp),_,rfl,_,SqT.of (s1 _ _ hp),_,rfl,Zs,fun p2 H2 s2 g2=>⟨Zs,fun p3 H3 s3 g3=>q p3 [(p2,nm,-n)] H3 ((s1.trans s2).trans s3) g3 (z1 (s3 _ _ g2)) rfl⟩⟩
  | move=>
   refine⟨_,SqT.of hp,_,rfl,?_⟩
   refine⟨_,SqT.of hp,_,rfl,?_⟩
   refine⟨_,SqT.of hp,_,rfl,_,SqT.of hp,_,rfl,Zs,fun p2 H2 s2 g2=>⟨_,SqT.of (s2 _ _ hp),_,rfl,_,SqT.of (s2 _ _ hp),_,rfl,Zs,fun p3 H3 s3 g3=>⟨Zs,fun p4 H4 s4 g4=>?_⟩⟩⟩
   refine q p4 [(p2,one,-n),(p3,other,n)] H4 ((s2.trans s3).trans s4) g4 (fun z hz=>?_) rfl
   rcases List.mem_cons.mp hz with rfl | hz
   ·exact s4 _ _ (s3 _ _ g2)
   ·rw[Zms.mp hz];exact s4 _ _ g3
  | send=>
   refine⟨_,SqT.of hp,_,rfl,?_⟩
   refine⟨_,SqT.of hp,_,rfl,?_⟩
   refine⟨_,SqT.of hp,_,rfl,Zs,fun p1 H1 s1 g1=>⟨p1,_,rfl,.inr (SqT.of g1),rfl,rfl,?_⟩⟩
   refine⟨_,SqT.of (s1 _ _ hp),_,rfl,_,SqT.of (s1 _ _ hp),_,rfl,Zs,fun p2 H2 s2 g2=>⟨Zs,fun p3 H3 s3 g3=>q p3 [(p2,nm,-n)] H3 ((s1.trans s2).trans s3) g3 (z1 (s3 _ _ g2)) rfl⟩⟩
  | fetch=>
   refine⟨_,SqT.of hp,_,rfl,?_⟩
   refine⟨_,SqT.of hp,_,rfl,?_⟩
   refine⟨_,SqT.of hp,_,rfl,Zs,fun p1 H1 s1 g1=>⟨p1,_,rfl,.inr (SqT.of g1),rfl,rfl,?_⟩⟩
   refine⟨_,SqT.of (s1 _ _ hp),_,rfl,_,SqT.of (s1 _ _ hp),_,rfl,Zs,fun p2 H2 s2 g2=>⟨Zs,fun p3 H3 s3 g3=>q p3 [(p2,nm,n)] H3 ((s1.trans s2).trans s3) g3 (z1 (s3 _ _ g2)) rfl⟩⟩
  | pass=>
   refine⟨_,SqT.of hp,_,rfl,?_⟩
   exact⟨Zd,fun p1 H1 s1 g1=>q p1 [] H1 s1 g1 (fun _ h=>nomatch h) rfl⟩
theorem vM {H:Hp} {zs:List Z} (h:ZAt H zs) {i:Nat} {x:V} (hx:(dS zs)[i]?=some x):∃z,zs[i]?=some z/\x=.ref z.1/\H z.1=some (.tup [.str z.2.1,.int z.2.2]):=by
 unfold dS at hx;rw[gQ]at hx;cases hn:zs[i]? with
 | none=>rw[hn]at hx;cases hx
 | some z=>
  rw[hn]at hx;cases hx
  exact⟨z,rfl,rfl,h z (kK hn)⟩
theorem pP {C:Addr} (T:Txt K mg) (B:Nv K C) (c_done_changes:aI P w K mg base 1 "done_changes" ["deed"] mF) (c_Book_amount:cT P w K mg base 1 C "amount" ["self","name"] (gY C))
  (D:DefAt K mg "done_answer" cV ["book","deed"]):aI P w K mg base 2 "done_answer" ["book","deed"] (qW C):=by
 refine D.go pK (fun vs H Q E h=>?_) (fun f cdv A outer s H vs Q E hr h=>?_)
 ·obtain⟨b,p,wd,xs,cs,as,prs,rfl,_⟩:=h;rfl
 ·obtain⟨b,p,wd,xs,cs,as,prs,rfl,bk,hp,hd,q⟩:=h
  have hr_done_changes:=hr
  have hr_Book_amount:=hr
  refine⟨_,(R.ae (R.af (R.cm (R.gq (K:=K)) rfl T.b_tuple oX (R.aa (R.op R.ci (R.bj (R.aa R.ah R.ab)) (R.bi rfl (js:=[none,none,some 0]) (N:=["name","by","book"]) (CompScope.by (aB cV) ["book","deed"] rfl rfl Zk) (Ex (oU rfl (oU rfl Bm))) (R.cq (K:=K) (R.fn c_done_changes hr_done_changes rfl (R.aa (R.v 1) R.ab))) (fun C s₂ H₂ fp=>⟨(R.ca (K:=K) (n:=2) rfl (R.ay (R.gn (i:=0) (show(["name","by","book"]:List Str).Nodup by decide +kernel)) (R.ay (R.gn (i:=1) (show(["name","by","book"]:List Str).Nodup by decide +kernel)) R.cb))),R.br,(R.op R.ba (R.bc c_Book_amount hr_Book_amount (R.v 2) (R.aa (R.v 0) R.ab)) (R.v 1))⟩))) R.ab)))),?_⟩
  refine⟨kJ rfl,fun l0 h0=>⟨p,wd,xs,cs,as,rfl,aF h0 _ _ hp,hd,fun t zs H1 s1 g1 hz hm=>⟨t,rfl,⟨_,SqT.of g1⟩,?_⟩⟩⟩
  have s01:Same H H1:=(aF h0).trans s1
  have bk1:=bk.same s01
  have hlen:zs.length<=2:=by
   obtain⟨one,other,nm,n,hd⟩:=hd
   have:=congrArg List.length hm
   rw[bN]at this;rw[this];cases hd <;> simp
  refine bB (gX K t (dS zs)) (by unfold dS;rw[bN];omega) (fun i ys H'=>H'=H1/\ys=((zs.map (·.2)).take i).map fun q=>V.int (cD prs q.1+q.2)) (fun i ys H' ⟨e,e2⟩=>⟨by rw[e];exact SqT.of g1,by rw[e2,bN,oC];exact Nat.min_le_left _ _⟩) ⟨rfl,rfl⟩ (fun i x ys H' hx ⟨e,e2⟩=>?_) (fun ys H' ⟨e,e2⟩=>?_)
  ·subst e;obtain⟨z,hn,rfl,gz⟩:=vM hz hx
   obtain⟨dx,d,h1,h2⟩:=id bk1.ex
   refine⟨z.1,_,rfl,SqT.of gz,rfl,_,_,rfl,_,_,rfl,rfl,dx,_,h1,tG _ Zk,b,z.2.1,prs,rfl,bk1,rfl,?_⟩
   rw[aY (x:=z.2) (by rw[gQ,hn];rfl),iG,e2]
   rfl
  ·subst e;intro l1 h1;have e3:ys=cs.map fun q=>V.int (cD prs q.1+q.2):=by
    rw[e2,hm];have:(dS zs).length=cs.length:=by rw[<- hm];unfold dS;rw[bN,bN]
    rw[this,List.take_length]
   have gl0:H' l0=some (.lst [.str "is"]):=s1 _ _ aA
   refine⟨[.str "is"],ys,aF h1 _ _ gl0,aA,kB (by rw[e3,bN,<- hm,bN];simp;omega),fun l2 h2=>⟨_,SqL.of aA,fun t2 ht2=>?_⟩⟩
   refine q t2 _ (((s01.trans (aF h1)).trans (aF h2)).trans (aF ht2)) ?_
   rw[aA,e3];rfl
theorem Cm {C:Addr} (T:Txt K mg) (B:Nv K C) (c_done_changes:aI P w K mg base 1 "done_changes" ["deed"] mF) (c_asks_of:aI P w K mg base 1 "asks_of" ["deed"] xP) (c_Book_amount:cT P w K mg base 1 C "amount" ["self","name"] (gY C))
  (c_done_answer:aI P w K mg base 2 "done_answer" ["book","deed"] (qW C)) (D:DefAt K mg "early" oH ["book","deed"]):aI P w K mg base 3 "early" ["book","deed"] (zO C):=by
 refine D.go lB (fun vs H Q E h=>?_) (fun f cdv A outer s H vs Q E hr h=>?_)
 ·obtain⟨b,p,wd,xs,cs,as,prs,rfl,_⟩:=h;rfl
 ·obtain⟨b,p,wd,xs,cs,as,prs,rfl,bk,hp,hd,q⟩:=h
  have hr_done_changes:Room 1 _:=hr.mono Zd
  have hr_asks_of:Room 1 _:=hr.mono Zd
  have hr_Book_amount:Room 1 _:=hr.mono Zd
  have hr_done_answer:=hr
  refine⟨_,(R.ad (R.bq PassesOwn.never rfl (R.cq (K:=K) (R.fn c_done_changes hr_done_changes rfl (R.aa (R.v 1) R.ab))) (R.ca (K:=K) (n:=2) rfl (R.ay (R.gn (i:=2) lB.nd) (R.ay (R.gn (i:=3) lB.nd) R.cb))) (R.ad (R.av (i:=4) lB.nd (R.bc c_Book_amount hr_Book_amount (R.v 0) (R.aa (R.v 2) R.ab))) (R.ad (R.ar (R.tw (R.cr (R.aj R.lt (R.v 3) R.ac) (R.cu (R.aj R.lt (R.op R.ba (R.v 4) (R.v 3)) R.ac)))) (R.ae (R.af (R.ap (R.aa R.ah (R.aa (R.v 4) R.ab))))) R.au) (R.ae (R.ar (R.tw (R.cr (R.aj R.gt (R.v 3) R.ac) (R.cu (R.aj R.gt (R.op R.ba (R.v 4) (R.v 3)) (R.gI rfl T.g_MOST))))) (R.ae (R.af (R.ap (R.aa R.ah (R.aa (R.v 4) R.ab))))) R.au))))) (R.ad (R.ar (R.aj R.gt (R.ax (R.bw (K:=K)) rfl T.b_len cH (R.aa (R.fn c_asks_of hr_asks_of rfl (R.aa (R.v 1) R.ab)) R.ab)) R.ac) (R.ae (R.af R.cf)) R.au) (R.ae (R.af (R.fn c_done_answer hr_done_answer rfl (R.aa (R.v 0) (R.aa (R.v 1) R.ab))))))),?_⟩
  refine⟨p,wd,xs,cs,as,rfl,hp,hd,fun t zs H1 s1 g1 hz hm=>⟨t,rfl,⟨_,SqT.of g1⟩,?_⟩⟩
  have bk1:=bk.same s1
  have hp1:=s1 _ _ hp
  refine eC (gX K t (dS zs)) (fun i σ H'=>Same H1 H'/\(∃o2 o3 o4:Option V,σ=[some (.ref b),some (.ref p),o2,o3,o4])/\gZ (cD prs) (kZ (cD prs) cs as) cs=gZ (cD prs) (kZ (cD prs) cs as) (cs.drop i)) (fun i σ H' ⟨s',_⟩=>SqT.of (s' _ _ g1)) ⟨Same.refl _,⟨_,_,_,rfl⟩,rfl⟩ ?_ ?_
  ·rintro i x σ H2 hx ⟨s2,⟨o2,o3,o4,rfl⟩,he⟩
   obtain⟨z,hn,rfl,gz⟩:=vM (fun z m=>s2 _ _ (hz z m)) hx
   have bk2:=bk1.same s2
   obtain⟨dx,d,h1,h2⟩:=id bk2.ex
   have hcs:cs.drop i=z.2::cs.drop (i+1):=by
    have:cs[i]?=some z.2:=by rw[<- hm,gQ,hn];rfl
    obtain⟨hi,e⟩:=Zgs.mp this
    rw[List.drop_eq_getElem_cons hi,e]
   rw[hcs,uX]at he;refine⟨z.1,_,rfl,SqT.of gz,rfl,_,_,rfl,_,_,rfl,rfl,dx,_,h1,tG _ Zk,b,z.2.1,prs,rfl,bk2,?_⟩
   dsimp only [aJ];have fin:∀u:TV,gZ (cD prs) (kZ (cD prs) cs as) cs=u->∀v H',Same H2 H'->RepT H' 1 u v->Q v H':=fun u e v H' s' r=>q v H' ((s1.trans s2).trans s') (by rw[e];exact r)
   refine Vj (t:=Je _ _) (fun v H'=>v=decide (z.2.2<0/\cD prs z.2.1+z.2.2<0)/\H'=H2) (fun k hk=>?_) ?_
   ·refine fX (fun h=>?_) (fun h=>?_)
    ·exact hk _ _ ⟨by rw[Bool.decide_and,h];rfl,rfl⟩
    ·exact hk _ _ ⟨by rw[Bool.decide_and,h];rfl,rfl⟩
   rintro v H' ⟨rfl,rfl⟩
   refine fX (fun h=>?_) (fun h=>?_)
   ·rw[if_pos (of_decide_eq_true h)]at he;exact⟨Zs,fun t2 H3 s3 g3=>fin _ he _ H3 s3 ⟨t2,_,rfl,g3,.cons .s (.cons .i .nil)⟩⟩
   rw[if_neg (of_decide_eq_false h)]at he;dsimp only [iP];refine Vj (t:=Je _ _) (fun v H''=>v=decide (0<z.2.2/\1000000000000<cD prs z.2.1+z.2.2)/\H''=H') (fun k hk=>?_) ?_
   ·refine fX (fun h=>?_) (fun h=>?_)
    ·exact hk _ _ ⟨by rw[Bool.decide_and,h];rfl,rfl⟩
    ·exact hk _ _ ⟨by rw[Bool.decide_and,h];rfl,rfl⟩
   rintro v H'' ⟨rfl,rfl⟩
   refine fX (fun h=>?_) (fun h=>?_)
   ·rw[if_pos (of_decide_eq_true h)]at he;exact⟨Zs,fun t2 H3 s3 g3=>fin _ he _ H3 s3 ⟨t2,_,rfl,g3,.cons .s (.cons .i .nil)⟩⟩
   rw[if_neg (of_decide_eq_false h)]at he;exact⟨s2,⟨_,_,_,rfl⟩,he⟩
  ·rintro σ H2 ⟨s2,⟨o2,o3,o4,rfl⟩,he⟩
   have el:(dS zs).length=cs.length:=by rw[<- hm];unfold dS;rw[bN,bN]
   rw[el,List.drop_length]at he;have he':gZ (cD prs) (kZ (cD prs) cs as) cs=kZ (cD prs) cs as:=he
   refine⟨p,wd,xs,cs,as,rfl,s2 _ _ hp1,hd,fun t2 us H3 s3 g3 ha=>⟨us,.inr (SqT.of g3),?_⟩⟩
   have el2:us.length=as.length:=ha.length.symm
   refine fX (fun h=>?_) (fun h=>?_)
   ·have h':0<us.length:=by have:=of_decide_eq_true h;omega
    refine q _ H3 ((s1.trans s2).trans s3) ?_
    rw[he'];unfold kZ;rw[if_neg (fun e=>by rw[el2,e]at h';exact absurd h' (Nat.lt_irrefl _))]
    exact RepT.scal rfl
   ·have h':¬ 0<us.length:=by have:=of_decide_eq_false h;omega
    have e0:as=[]:=List.length_eq_zero_iff.mp Zo
    refine⟨b,p,wd,xs,cs,as,prs,rfl,bk1.same (s2.trans s3),s3 _ _ (s2 _ _ hp1),hd,fun t4 H4 s4 g4=>?_⟩
    refine q _ H4 (((s1.trans s2).trans s3).trans s4) ?_
    rw[he'];unfold kZ;rw[if_pos e0];exact⟨t4,_,rfl,g4,zP (Sa _ _)⟩
theorem Hw (x:Dd):Vx x.wd x.vs (bW x) (pO x):=by
 cases x with
 | add a n=>exact⟨a,a,a,_,.add⟩
 | take a n=>exact⟨a,a,a,_,.take⟩
 | move a b n=>exact⟨a,b,a,_,.move⟩
 | send g a n=>exact⟨g,a,a,_,.send⟩
 | fetch g a n=>exact⟨g,a,a,_,.fetch⟩
 | pass g g' a n=>exact⟨g,g',a,_,.pass⟩
theorem yC {prs:List (Str × Int)} {f:Str->Nat} (am:∀z,cD prs z=(f z:Int)) {x:Dd} (hx:x.Ok) :
  gZ (cD prs) (kZ (cD prs) (bW x) (pO x)) (bW x)=(match aQ f x with | some y=>RX.tvs y.vs | none=>.sc .non):=by
 have hn:=hx.n
 cases x with
 | add a n=>
  have hn:1<=n/\n<=1000000000000:=hn
  show(if (n:Int)<0/\cD prs a+(n:Int)<0 then _ else if 0<(n:Int)/\1000000000000<cD prs a+(n:Int) then TV.tp [tS "full",tI (cD prs a)] else TV.tp [tS "is",tI (cD prs a+(n:Int))])=(match (if 1000000000000<f a+n then some (An.full (f a)) else some (.is1 (f a+n))) with | some y=>RX.tvs y.vs | none=>.sc .non)
  rw[if_neg Zo,am]
  by_cases h:1000000000000<f a+n
  ·rw[if_pos h,if_pos Zo];rfl
  ·rw[if_neg h,if_neg Zo];rfl
 | take a n=>
  have hn:1<=n/\n<=1000000000000:=hn
  show(if -(n:Int)<0/\cD prs a+-(n:Int)<0 then TV.tp [tS "short",tI (cD prs a)] else if 0 < -(n:Int)/\1000000000000<cD prs a+-(n:Int) then _ else TV.tp [tS "is",tI (cD prs a+-(n:Int))])=(match (if f a<n then some (An.short (f a)) else some (.is1 (f a - n))) with | some y=>RX.tvs y.vs | none=>.sc .non)
  rw[am];by_cases h:f a<n
  ·rw[if_pos h,if_pos Zo];rfl
  ·rw[if_neg h,if_neg Zo,if_neg Zo,show(f a:Int)+-(n:Int)=((f a - n:Nat):Int) by omega];rfl
 | move a b n=>
  have hn:1<=n/\n<=1000000000000:=hn
  show(if -(n:Int)<0/\cD prs a+-(n:Int)<0 then TV.tp [tS "short",tI (cD prs a)] else if 0 < -(n:Int)/\1000000000000<cD prs a+-(n:Int) then TV.tp [tS "full",tI (cD prs a)] else if (n:Int)<0/\cD prs b+(n:Int)<0 then TV.tp [tS "short",tI (cD prs b)] else if 0<(n:Int)/\1000000000000<cD prs b+(n:Int) then TV.tp [tS "full",tI (cD prs b)] else TV.tp [tS "is",tI (cD prs a+-(n:Int)),tI (cD prs b+(n:Int))])=(match (if f a<n then some (An.short (f a)) else if 1000000000000<f b+n then some (.full (f b)) else some (.is2 (f a - n) (f b+n))) with | some y=>RX.tvs y.vs | none=>.sc .non)
  rw[am,am];by_cases h:f a<n
  ·rw[if_pos h,if_pos Zo];rfl
  ·rw[if_neg h,if_neg Zo,if_neg Zo,if_neg Zo]
   by_cases h2:1000000000000<f b+n
   ·rw[if_pos h2,if_pos Zo];rfl
   ·rw[if_neg h2,if_neg Zo,show(f a:Int)+-(n:Int)=((f a - n:Nat):Int) by omega];rfl
 | send g a n=>
  have hn:1<=n/\n<=1000000000000:=hn
  show(if -(n:Int)<0/\cD prs a+-(n:Int)<0 then TV.tp [tS "short",tI (cD prs a)] else if 0 < -(n:Int)/\1000000000000<cD prs a+-(n:Int) then _ else TV.sc .non)=(match (if f a<n then some (An.short (f a)) else none) with | some y=>RX.tvs y.vs | none=>.sc .non)
  rw[am];by_cases h:f a<n
  ·rw[if_pos h,if_pos Zo];rfl
  ·rw[if_neg h,if_neg Zo,if_neg Zo]
 | fetch g a n=>
  have hn:1<=n/\n<=1000000000000:=hn
  show(if (n:Int)<0/\cD prs a+(n:Int)<0 then _ else if 0<(n:Int)/\1000000000000<cD prs a+(n:Int) then TV.tp [tS "full",tI (cD prs a)] else TV.sc .non)=(match (if 1000000000000<f a+n then some (An.full (f a)) else none) with | some y=>RX.tvs y.vs | none=>.sc .non)
  rw[if_neg Zo,am]
  by_cases h:1000000000000<f a+n
  ·rw[if_pos h,if_pos Zo];rfl
  ·rw[if_neg h,if_neg Zo]
 | pass g g' a n=>rfl
abbrev sS (z:Str):TV:=.sc (.str z)
abbrev sI (n:Int):TV:=.sc (.int n)
inductive vN (one other nm:Str) (n:Int):List V->TV->TV->Prop
 | add:vN one other nm n [.str "add",.str nm,.int n] (.tp [sS nm]) (.tp [])
 | take:vN one other nm n [.str "take",.str nm,.int n] (.tp [sS nm]) (.tp [])
 | move:vN one other nm n [.str "move",.str one,.str other,.int n] (.tp ((pB [one,other]).map sS)) (.tp [])
 | send:vN one other nm n [.str "send",.str one,.str nm,.int n] (.tp [sS nm]) (.tp [.tp [sS one,.tp [sS "add",sS nm,sI n]]])
 | fetch:vN one other nm n [.str "fetch",.str one,.str nm,.int n] (.tp [sS nm]) (.tp [.tp [sS one,.tp [sS "take",sS nm,sI n]]])
 | pass:vN one other nm n [.str "pass",.str one,.str other,.str nm,.int n] (.tp []) (.tp [.tp [sS one,.tp [sS "take",sS nm,sI n]],.tp [sS other,.tp [sS "add",sS nm,sI n]]])
def rD:Sp:=fun vs H Q _=>∃p xs tN tA one other nm n,vs=[.ref p]/\H p=some (.tup xs)/\vN one other nm n xs tN tA/\∀v H',Same H H'->RepT H' 1 tN v->Q v H'
theorem zZ {H:Hp} {n:Nat}:∀ss:List Str,Paired (RepT H n) (ss.map sS) (ss.map V.str)
 | []=>.nil
 | z::r=>.cons .s (zZ r)
theorem vO (T:Txt K mg) (D:DefAt K mg "names_of" hV ["deed"]):aI P w K mg base 1 "names_of" ["deed"] rD:=by
 refine D.go vD (fun vs H Q E h=>?_) (fun f cdv A outer s H vs Q E hr h=>?_)
 ·obtain⟨p,xs,tN,tA,one,other,nm,n,rfl,_⟩:=h;rfl
 ·obtain⟨p,xs,tN,tA,one,other,nm,n,rfl,hp,hd,q⟩:=h
  refine⟨_,(R.ad (R.ar (R.aj R.eq (R.ix (R.ag (K:=K)) (R.v 0) R.ac) R.ah) (R.ae (R.af (R.ap R.ab))) R.au) (R.ad (R.ar (R.aj R.eq (R.ix (R.ag (K:=K)) (R.v 0) R.ac) R.ah) (R.ae (R.af (R.cm (R.gq (K:=K)) rfl T.b_tuple oX (R.aa (R.ax (R.fb (K:=K)) rfl T.b_sorted cO (R.aa (R.sl R.sT (R.v 0) (R.ps R.ac) (R.ps R.ac)) R.ab)) R.ab)))) R.au) (R.ae (R.af (R.ap (R.aa (R.ix (R.ag (K:=K)) (R.v 0) (R.bb R.ac)) R.ab)))))),?_⟩
  cases hd with
  | add=>
   refine⟨_,SqT.of hp,_,rfl,?_⟩
   refine⟨_,SqT.of hp,_,rfl,?_⟩
   exact⟨_,SqT.of hp,_,rfl,Zs,fun p1 H1 s1 g1=>q _ H1 s1 ⟨p1,_,rfl,g1,.cons .s .nil⟩⟩
  | take=>
   refine⟨_,SqT.of hp,_,rfl,?_⟩
   refine⟨_,SqT.of hp,_,rfl,?_⟩
   exact⟨_,SqT.of hp,_,rfl,Zs,fun p1 H1 s1 g1=>q _ H1 s1 ⟨p1,_,rfl,g1,.cons .s .nil⟩⟩
  | move=>
   refine⟨_,SqT.of hp,_,rfl,?_⟩
   refine⟨_,SqT.of hp,_,rfl,?_⟩
   refine⟨_,hp,fun p1 H1 s1 g1=>⟨[one,other],.inr (SqT.of g1),Zs,fun l hl=>⟨_,SqL.of aA,fun l2 hl2=>?_⟩⟩⟩
   exact q _ _ ((s1.trans (aF hl)).trans (aF hl2)) ⟨l2,_,rfl,aA,zZ _⟩
  | send=>
   refine⟨_,SqT.of hp,_,rfl,?_⟩
   refine⟨_,SqT.of hp,_,rfl,?_⟩
   exact⟨_,SqT.of hp,_,rfl,Zs,fun p1 H1 s1 g1=>q _ H1 s1 ⟨p1,_,rfl,g1,.cons .s .nil⟩⟩
  | fetch=>
   refine⟨_,SqT.of hp,_,rfl,?_⟩
   refine⟨_,SqT.of hp,_,rfl,?_⟩
   exact⟨_,SqT.of hp,_,rfl,Zs,fun p1 H1 s1 g1=>q _ H1 s1 ⟨p1,_,rfl,g1,.cons .s .nil⟩⟩
  | pass=>
   refine⟨_,SqT.of hp,_,rfl,?_⟩
   exact⟨Zd,fun p1 H1 s1 g1=>q _ H1 s1 ⟨p1,_,rfl,g1,.nil⟩⟩
end
end KL
namespace KL
open PySem L2
section
variable {P:Program} {w:World} {K:W.Frag} {mg:Str->Option Value} {base:Heap}
theorem Aa {α:Type} {N:List α} (hN:N.Nodup) {i j:Nat} {x:α} (a:N[i]?=some x) (b:N[j]?=some x):i=j:=by
 obtain⟨hi,ei⟩:=Zgs.mp a
 obtain⟨hj,ej⟩:=Zgs.mp b
 have h:=List.pairwise_iff_getElem.mp hN
 rcases Nat.lt_trichotomy i j with z | z | z
 ·exact absurd (ei.trans ej.symm) (h i j hi hj z)
 ·exact z
 ·exact absurd (ej.trans ei.symm) (h j i hj hi z)
def Own (H:Hp) (L:List (Addr × HO)):Prop:=(L.map (·.1)).Nodup/\∀q∈L,H q.1=some q.2
theorem Own.get {H:Hp} {L:List (Addr × HO)} (h:Own H L) (i:Nat) {a:Addr} {o:HO} (e:L[i]?=some (a,o)):H a=some o:=h.2 _ (kK e)
theorem Own.same {H H':Hp} {L:List (Addr × HO)} (s:Same H H') (h:Own H L):Own H' L:=⟨h.1,fun q hq=>s _ _ (h.2 q hq)⟩
theorem Own.keys {H:Hp} {L:List (Addr × HO)} (h:Own H L) {b:Addr} (hb:H b=none):b∉L.map (·.1):=fun m=>by
 obtain⟨q,hq,e⟩:=Zmm.mp m
 rw[<- e,h.2 q hq]at hb;cases hb
theorem Own.set {H:Hp} {L:List (Addr × HO)} (h:Own H L) (i:Nat) {a:Addr} {o:HO} (e:L[i]?=some (a,o)) (o':HO):Own (aH H a o') (L.set i (a,o')):=by
 obtain⟨hi,ei⟩:=Zgs.mp e
 refine⟨?_,fun q hq=>?_⟩
 ·have:(L.set i (a,o')).map (·.1)=L.map (·.1):=by
   rw[List.map_set];apply List.ext_getElem Zs
   intro j h1 h2;rw[List.getElem_set];split
   ·rename_i z;subst z;simp [ei]
   ·rfl
  rw[this];exact h.1
 ·obtain⟨j,hj,ej⟩:=List.mem_iff_getElem.mp hq
  rw[List.getElem_set]at ej;split at ej
  ·rw[<- ej];exact aA
  ·rename_i hne
   rw[List.length_set]at hj;have hq':L[j]∈L:=List.getElem_mem hj
   have:q.1≠a:=fun z=>by
    have n:=Aa h.1 (i:=i) (j:=j) (x:=a) (by rw[gQ,e];rfl) (by rw[gQ,lO hj,ej,<- z];rfl)
    exact hne n
   rw[aD this,<- ej];exact h.2 _ hq'
theorem fE {H:Hp} {a:Addr} {o o':HO} (g:H a=some o) (ho:∀xs,o≠.tup xs):TK H (aH H a o'):=fun c xs e=>by
 rw[aD (fun z=>by rw[z,g]at e;exact ho xs (Option.some.inj e))];exact e
theorem TK.of {H H':Hp} (s:Same H H'):TK H H':=fun c xs e=>s _ _ e
theorem Own.ne {H:Hp} {L:List (Addr × HO)} (h:Own H L) {i j:Nat} {a b:Addr} {o o':HO} (ei:L[i]?=some (a,o)) (ej:L[j]?=some (b,o')) (hij:i≠j):a≠b:=fun e=>
 hij (Aa h.1 (x:=a) (by rw[gQ,ei];rfl) (by rw[gQ,ej,e];rfl))
theorem Own.at {H H':Hp} {L:List (Addr × HO)} (h:Own H L) (i:Nat) {a:Addr} {o o':HO} (e:L[i]?=some (a,o)) (g:H' a=some o') (k:∀b u,H b=some u->b≠a->H' b=some u):Own H' (L.set i (a,o')):=by
 have h1:=h.set i e o'
 refine⟨h1.1,fun q hq=>?_⟩
 by_cases z:q.1=a
 ·have:=h1.2 q hq
  rw[z,aA]at this;rw[z,g];exact this
 ·have:=h1.2 q hq
  rw[aD z]at this;exact k _ _ this z
theorem Own.sub {H:Hp} {L L':List (Addr × HO)} (h:Own H L) (s:L'.Sublist L):Own H L':=⟨h.1.sublist (s.map _),fun q hq=>h.2 q (s.subset hq)⟩
theorem Own.snoc {H:Hp} {L:List (Addr × HO)} (h:Own H L) {a:Addr} {o:HO} (ha:a∉L.map (·.1)) (g:H a=some o):Own H (L++[(a,o)]):=by
 refine⟨?_,fun q hq=>(Zma.mp hq).elim (h.2 q) fun z=>by rw[Zms.mp z];exact g⟩
 rw[iG];exact List.nodup_append.mpr ⟨h.1,Zs,fun x hx y hy e=>ha ((show y=a by simpa using hy) ▸ e ▸ hx)⟩
structure CK where
 (D M R J B Ks:Addr)
structure Rn where
 (p dx:Addr)
 (n:Nat)
 (q:Str × Str)
 (d:Addr)
 (x:Dd)
 (st:Str)
 (pl un:Int)
def Rn.fs (r:Rn):List (Str × V):=[("number",.int r.n),("asker",.str r.q.1),("key",.str r.q.2),("deed",.ref r.d),("stage",.str r.st),("place",.int r.pl),("undos",.int r.un)]
structure DA where
 (dr dx hd j jx jl me mx bk bx bd ks rn:Addr)
 (kf:KF)
structure DS where
 (name:Str)
 (life turn:Int)
 (next:Nat)
 (hs:List (aZ × V))
 (prs:List (Str × Int))
 (m:KM)
 (L:Nat)
 (runs:List Rn)
 (rows:List V)
 (safe:Int)
def jf (lw:Addr) (n:Int):List (Str × V):=[("written",.ref lw),("safe_count",.int n)]
def df (a:DA) (s:DS):List (Str × V):=[("name",.str s.name),("life",.int s.life),("houses",.ref a.hd),("journal",.ref a.j),("memory",.ref a.me)]
def mf (a:DA) (turn:Int) (next:Int):List (Str × V):=[("turn",.int turn),("book",.ref a.bk),("standing",.ref a.ks),("runs",.ref a.rn),("next_number",.int next)]
def aV (rs:List Rn):List (aZ × V):=rs.map fun r=>(Sum.inl (r.n:Int),.ref r.p)
def oB (c:CK) (r:Rn):Addr × HO:=(r.p,.ins c.R r.dx r.fs)
def DA.fix (a:DA):List Addr:=[a.dr,a.hd,a.j,a.jl,a.me,a.bk,a.bd,a.ks,a.kf.db,a.kf.ds,a.rn]
def DA.objs (c:CK) (a:DA) (s:DS) (bs ss:List (List aZ × V)):List (Addr × HO):=
  [(a.dr,.ins c.D a.dx (df a s)),(a.hd,.dK s.hs),(a.j,.ins c.J a.jx (jf a.jl s.safe)),(a.jl,.lst s.rows),(a.me,.ins c.M a.mx (mf a s.turn s.next)),(a.bk,.ins c.B a.bx [("amounts",.ref a.bd)]),(a.bd,.dK (lZ s.prs)),
   (a.ks,.ins c.Ks a.kf.dx (zS a.kf s.life)),(a.kf.db,.dT bs),(a.kf.ds,.dT ss),(a.rn,.dK (aV s.runs))]
def DA.all (c:CK) (a:DA) (s:DS) (bs ss:List (List aZ × V)):List (Addr × HO):=a.objs c s bs ss++s.runs.map (oB c)
structure DAt (c:CK) (H:Hp) (a:DA) (s:DS):Prop where
 own:∃bs ss,Own H (a.all c s bs ss)/\Dic H bs s.m fB s.L/\Dic H ss s.m fS s.L
 nd:(s.prs.map (·.1)).Nodup
 up:s.runs.Pairwise fun r r'=>r.n<r'.n
 dd:∀r∈s.runs,H r.d=some (.tup r.x.vs)
theorem gN (c:CK) (a:DA) (s:DS) (bs ss:List (List aZ × V)):(a.all c s bs ss).map (·.1)=a.fix++s.runs.map (·.p):=by
 unfold DA.all;rw[iG,List.map_map];rfl
theorem Ab {c:CK} {a:DA} {s:DS} {bs ss:List (List aZ × V)}:∀q∈a.all c s bs ss,∀xs,q.2≠.tup xs:=by
 intro q hq xs;rcases Zma.mp hq with m | m
 ·simp only [DA.objs,List.mem_cons,List.not_mem_nil,or_false]at m
  rcases m with rfl | rfl | rfl | rfl | rfl | rfl | rfl | rfl | rfl | rfl | rfl <;> exact fun z=>nomatch z
 ·obtain⟨r,_,rfl⟩:=Zmm.mp m
  exact fun z=>nomatch z
structure Mv (a:DA) (s s':DS) (H H':Hp):Prop where
 fr:∀c o,H c=some o->c∉a.fix++s.runs.map (·.p)->H' c=some o
 nw:∀r∈s'.runs,r.p∈s.runs.map (·.p)∨H r.p=none
 gr:∀c,H' c=none->H c=none
theorem Same.gr {H H':Hp} (k:Same H H') (c:Addr) (e:H' c=none):H c=none:=by
 cases z:H c with
 | none=>rfl
 | some o=>rw[k _ _ z]at e;cases e
theorem Mv.same {a:DA} {s:DS} {H H':Hp} (k:Same H H'):Mv a s s H H':=⟨fun c o e _=>k c o e,fun r hr=>.inl (List.mem_map_of_mem hr),fun c e=>Same.gr k c e⟩
theorem Mv.trans {a:DA} {s s1 s2:DS} {H H1 H2:Hp} (x:Mv a s s1 H H1) (y:Mv a s1 s2 H1 H2):Mv a s s2 H H2:=by
 refine⟨fun c o e hc=>y.fr c o (x.fr c o e hc) fun m=>?_,fun r hr=>?_,fun c e=>x.gr c (y.gr c e)⟩
 ·rcases Zma.mp m with m | m
  ·exact hc (List.mem_append_left _ m)
  ·obtain⟨r,hr,rfl⟩:=Zmm.mp m
   rcases x.nw r hr with z | z
   ·exact hc (List.mem_append_right _ z)
   ·rw[z]at e;cases e
 ·rcases y.nw r hr with z | z
  ·obtain⟨r',hr',e⟩:=Zmm.mp z
   rw[<- e];exact x.nw r' hr'
  ·exact .inr (x.gr _ z)
section
variable {c:CK} {H H':Hp} {a:DA} {s s':DS}
theorem DAt.out (h:DAt c H a s) {b:Addr} {o:HO} (hb:H b=some o) (ht:∃xs,o=.tup xs):b∉a.fix++s.runs.map (·.p):=by
 obtain⟨bs,ss,ho,_,_⟩:=h.own
 obtain⟨xs,rfl⟩:=ht
 intro m;rw[<- gN c a s bs ss]at m;obtain⟨q,hq,rfl⟩:=Zmm.mp m
 have:=ho.2 q hq
 rw[hb]at this;exact Ab q hq xs (Option.some.inj this).symm
theorem DAt.fresh (h:DAt c H a s) {b:Addr} (hb:H b=none):b∉a.fix++s.runs.map (·.p):=by
 obtain⟨bs,ss,ho,_,_⟩:=h.own
 have:=ho.keys hb
 rwa [gN]at this
theorem Mv.tk (m:Mv a s s' H H') (h:DAt c H a s):TK H H':=fun b xs e=>m.fr _ _ e (h.out e ⟨xs,rfl⟩)
theorem DAt.keep (h:DAt c H a s) (k:∀b o,H b=some o->b∈a.fix++s.runs.map (·.p)->H' b=some o) (t:TK H H'):DAt c H' a s:=by
 obtain⟨bs,ss,ho,d1,d2⟩:=h.own
 refine⟨⟨bs,ss,⟨ho.1,fun q hq=>k _ _ (ho.2 q hq) ?_⟩,d1.keep t,d2.keep t⟩,h.nd,h.up,fun r hr=>t _ _ (h.dd r hr)⟩
 rw[<- gN c a s bs ss];exact List.mem_map_of_mem hq
theorem DAt.same (h:DAt c H a s) (k:Same H H'):DAt c H' a s:=h.keep (fun b o e _=>k b o e) (TK.of k)
theorem DAt.put (h:DAt c H a s) (i:Nat) {p:Addr} {o o':HO} (s':DS) (e:∀bs ss,(a.all c s bs ss)[i]?=some (p,o)) (e':∀bs ss,(a.all c s bs ss).set i (p,o')=a.all c s' bs ss) (g:H' p=some o') (k:∀b u,H b=some u->b≠p->H' b=some u) (hm:s'.m=s.m) (hL:s'.L=s.L) (hn:(s'.prs.map (·.1)).Nodup) (hr:s'.runs=s.runs) :
  DAt c H' a s'/\Mv a s s' H H':=by
 obtain⟨bs,ss,ho,d1,d2⟩:=h.own
 have hp:p∈a.fix++s.runs.map (·.p):=by
  rw[<- gN c a s bs ss];exact List.mem_map_of_mem (kK (e bs ss))
 have t:TK H H':=fun b xs z=>k _ _ z fun w=>Ab (p,o) (kK (e bs ss)) xs (Option.some.inj ((ho.2 _ (kK (e bs ss))).symm.trans (w ▸ z)))
 have ho':=ho.at i (e bs ss) g k
 rw[e' bs ss]at ho';refine⟨⟨⟨bs,ss,ho',?_,?_⟩,hn,by rw[hr];exact h.up,by rw[hr];exact fun r m=>t _ _ (h.dd r m)⟩,⟨fun b u z hb=>k b u z fun w=>hb (w ▸ hp),fun r m=>.inl (by rw[hr]at m;exact List.mem_map_of_mem m),fun b z=>?_⟩⟩
 ·rw[hm,hL];exact d1.keep t
 ·rw[hm,hL];exact d2.keep t
 ·cases w:H b with
  | none=>rfl
  | some u=>
   by_cases q:b=p
   ·rw[q,g]at z;cases z
   ·rw[k b u w q]at z;cases z
theorem DAt.dr (h:DAt c H a s):H a.dr=some (.ins c.D a.dx (df a s)):=let ⟨_,_,ho,_⟩:=h.own;ho.get 0 rfl
theorem DAt.hd (h:DAt c H a s):H a.hd=some (.dK s.hs):=let ⟨_,_,ho,_⟩:=h.own;ho.get 1 rfl
theorem DAt.j (h:DAt c H a s):H a.j=some (.ins c.J a.jx (jf a.jl s.safe)):=let ⟨_,_,ho,_⟩:=h.own;ho.get 2 rfl
theorem DAt.jl (h:DAt c H a s):H a.jl=some (.lst s.rows):=let ⟨_,_,ho,_⟩:=h.own;ho.get 3 rfl
theorem DAt.me (h:DAt c H a s):H a.me=some (.ins c.M a.mx (mf a s.turn s.next)):=let ⟨_,_,ho,_⟩:=h.own;ho.get 4 rfl
theorem DAt.bk (h:DAt c H a s):H a.bk=some (.ins c.B a.bx [("amounts",.ref a.bd)]):=let ⟨_,_,ho,_⟩:=h.own;ho.get 5 rfl
theorem DAt.bd (h:DAt c H a s):H a.bd=some (.dK (lZ s.prs)):=let ⟨_,_,ho,_⟩:=h.own;ho.get 6 rfl
theorem DAt.ks (h:DAt c H a s):H a.ks=some (.ins c.Ks a.kf.dx (zS a.kf s.life)):=let ⟨_,_,ho,_⟩:=h.own;ho.get 7 rfl
theorem DAt.rn (h:DAt c H a s):H a.rn=some (.dK (aV s.runs)):=let ⟨_,_,ho,_⟩:=h.own;ho.get 10 rfl
theorem DAt.run (h:DAt c H a s) {r:Rn} (hr:r∈s.runs):H r.p=some (.ins c.R r.dx r.fs):=let ⟨_,_,ho,_⟩:=h.own;ho.2 (oB c r) (List.mem_append_right _ (List.mem_map_of_mem hr))
theorem DAt.book (h:DAt c H a s):BookAt c.B H a.bk s.prs:=⟨⟨_,_,h.bk,h.bd⟩,h.nd⟩
theorem DAt.ky (h:DAt c H a s):KyAt c.Ks H a.ks a.kf s.life s.m s.L:=by
 obtain⟨bs,ss,ho,d1,d2⟩:=h.own
 exact⟨ho.get 7 rfl,⟨bs,ho.get 8 rfl,d1⟩,⟨ss,ho.get 9 rfl,d2⟩,ho.ne (i:=8) (j:=9) rfl rfl Zd⟩
theorem DAt.keys (h:DAt c H a s) {m':KM} {L':Nat} (k:KyAt c.Ks H' a.ks a.kf s.life m' L') (fr:Wo H H' a.kf):DAt c H' a {s with m:=m',L:=L' }/\Mv a s {s with m:=m',L:=L' } H H':=by
 obtain⟨bs,ss,ho,d1,d2⟩:=h.own
 obtain⟨b1,g1,e1⟩:=k.hb
 obtain⟨b2,g2,e2⟩:=k.hs
 have gb:=ho.get 8 rfl
 have gs:=ho.get 9 rfl
 have t:TK H H':=fun b xs z=>fr _ _ z (aK z gb fun w=>nomatch w) (aK z gs fun w=>nomatch w)
 have kp:∀q∈a.all c s bs ss,(∀kv,q.2≠.dT kv)->H' q.1=some q.2:=fun q hq hn=>fr _ _ (ho.2 q hq) (aK (ho.2 q hq) gb (hn _)) (aK (ho.2 q hq) gs (hn _))
 have ownN:Own H' (a.all c {s with m:=m',L:=L' } b1 b2):=by
  refine⟨by rw[gN];have:=ho.1;rwa [gN]at this,fun q hq=>?_⟩
  rcases Zma.mp hq with m | m
  ·simp only [DA.objs,List.mem_cons,List.not_mem_nil,or_false]at m
   have z:∀(i:Nat) (q:Addr × HO),(a.all c s bs ss)[i]?=some q->(∀kv,q.2≠.dT kv)->H' q.1=some q.2:=fun i q e hn=>kp q (kK e) hn
   rcases m with rfl | rfl | rfl | rfl | rfl | rfl | rfl | rfl | rfl | rfl | rfl
   ·exact z 0 _ rfl fun _ w=>nomatch w
   ·exact z 1 _ rfl fun _ w=>nomatch w
   ·exact z 2 _ rfl fun _ w=>nomatch w
   ·exact z 3 _ rfl fun _ w=>nomatch w
   ·exact z 4 _ rfl fun _ w=>nomatch w
   ·exact z 5 _ rfl fun _ w=>nomatch w
   ·exact z 6 _ rfl fun _ w=>nomatch w
   ·exact z 7 _ rfl fun _ w=>nomatch w
   ·exact g1
   ·exact g2
   ·exact z 10 _ rfl fun _ w=>nomatch w
  ·obtain⟨r,hr,rfl⟩:=Zmm.mp m
   exact kp (oB c r) (List.mem_append_right _ (List.mem_map_of_mem hr)) fun _ w=>nomatch w
 refine⟨⟨⟨b1,b2,ownN,e1,e2⟩,h.nd,h.up,fun r hr=>t _ _ (h.dd r hr)⟩,⟨fun b o z hb=>fr b o z ?_ ?_,fun r hr=>.inl (List.mem_map_of_mem hr),fun b z=>?_⟩⟩
 ·exact fun w=>hb (by rw[w];simp [DA.fix])
 ·exact fun w=>hb (by rw[w];simp [DA.fix])
 ·cases w:H b with
  | none=>rfl
  | some u=>
   by_cases q1:b=a.kf.db
   ·rw[q1,g1]at z;cases z
   ·by_cases q2:b=a.kf.ds
    ·rw[q2,g2]at z;cases z
    ·rw[fr b u w q1 q2]at z;cases z
theorem DAt.rput {pre post:List Rn} {r r':Rn} (h:DAt c H a s) (hs:s.runs=pre++r::post) (h1:r'.p=r.p) (h3:r'.n=r.n) (h5:r'.d=r.d) (h6:r'.x=r.x) :
  DAt c (aH H r.p (.ins c.R r'.dx r'.fs)) a {s with runs:=pre++r'::post }/\Mv a s {s with runs:=pre++r'::post } H (aH H r.p (.ins c.R r'.dx r'.fs)):=by
 obtain⟨bs,ss,ho,d1,d2⟩:=h.own
 have hr:r∈s.runs:=by rw[hs];simp
 have gr:=h.run hr
 have t:TK H (aH H r.p (.ins c.R r'.dx r'.fs)):=fE gr fun _ z=>nomatch z
 have el:(a.objs c s bs ss++pre.map (oB c)).length=11+pre.length:=by simp [DA.objs];omega
 have eA:a.all c s bs ss=(a.objs c s bs ss++pre.map (oB c))++oB c r::post.map (oB c):=by
  unfold DA.all;rw[hs,iG,List.map_cons,List.append_assoc]
 have eK:aV (pre++r'::post)=aV s.runs:=by rw[hs];unfold aV;simp [h1,h3]
 have eO:a.objs c {s with runs:=pre++r'::post } bs ss=a.objs c s bs ss:=by unfold DA.objs df;dsimp only;rw[eK]
 have e0:(a.all c s bs ss)[11+pre.length]?=some (r.p,.ins c.R r.dx r.fs):=by
  rw[eA,List.getElem?_append_right Zo,el,Nat.sub_self];rfl
 have ho':=ho.set _ e0 (.ins c.R r'.dx r'.fs)
 have e1:(a.all c s bs ss).set (11+pre.length) (r.p,.ins c.R r'.dx r'.fs)=a.all c {s with runs:=pre++r'::post } bs ss:=by
  rw[eA,List.set_append_right _ _ Zo,el,Nat.sub_self,List.set_cons_zero]
  unfold DA.all;rw[eO];show _=a.objs c s bs ss++List.map (oB c) (pre++r'::post)
  rw[iG,List.map_cons,List.append_assoc];have:oB c r'=(r.p,.ins c.R r'.dx r'.fs):=by unfold oB;rw[h1]
  rw[this]
 rw[e1]at ho';refine⟨⟨⟨bs,ss,ho',d1.keep t,d2.keep t⟩,h.nd,?_,fun q hq=>?_⟩,⟨fun b o z hb=>?_,fun q hq=>.inl ?_,fun b z=>?_⟩⟩
 ·have:=h.up
  rw[hs]at this;have e:(pre++r'::post).map (·.n)=(pre++r::post).map (·.n):=by simp [h3]
  have:=(List.pairwise_map (f:=fun(r:Rn)=>r.n) (R:=fun(x y:Nat)=>x<y)).mpr this
  rw[<- e]at this;exact List.pairwise_map.mp this
 ·rcases Zma.mp hq with m | m
  ·exact t _ _ (h.dd q (by rw[hs];exact List.mem_append_left _ m))
  ·rcases List.mem_cons.mp m with rfl | m
   ·rw[h5,h6];exact t _ _ (h.dd r hr)
   ·exact t _ _ (h.dd q (by rw[hs];simp [m]))
 ·rw[aD fun w=>hb (by rw[w];exact List.mem_append_right _ (List.mem_map_of_mem hr))];exact z
 ·rw[hs];rcases Zma.mp hq with m | m
  ·exact List.mem_map_of_mem (List.mem_append_left _ m)
  ·rcases List.mem_cons.mp m with rfl | m
   ·rw[h1];exact List.mem_map_of_mem Zs
   ·exact List.mem_map_of_mem (by simp [m])
 ·cases w:H b with
  | none=>rfl
  | some u=>
   by_cases q:b=r.p
   ·rw[q,aA]at z;cases z
   ·rw[aD q,w]at z;cases z
end
end
end KL
namespace KL
open PySem L2
section
variable {P:Program} {w:World} {K:W.Frag} {mg:Str->Option Value} {base:Heap}
theorem gO {js:List (Option Nat)} {g:TG} {tt:TT} {te:TE} {σ:St} {H:Hp} {a:Addr} {Q:List V->Hp->Prop} (e:SqL K H a []) (h:Q [] H):oV js g tt te σ (Pl K a) H Q:=
 bB (bR K a []) Zs (fun i ys H'=>H'=H/\ys=[]) (fun i ys H' ⟨e1,e2⟩=>⟨by rw[e1];exact e,by rw[e2];simp⟩) ⟨rfl,rfl⟩ (fun i x ys H' hx _=>by simp at hx) (fun ys H' ⟨e1,e2⟩=>by subst e1;subst e2;exact h)
theorem rE {js:List (Option Nat)} {g:TG} {tt:TT} {te:TE} {σ:St} {H:Hp} {a:Addr} {o:Obj} {Q:List V->Hp->Prop} (e:H a=some (.frz o (.dK []))) (h:Q [] H):oV js g tt te σ (Wn a o []) H Q:=
 bB (zM a o []) Zs (fun i ys H'=>H'=H/\ys=[]) (fun i ys H' ⟨e1,e2⟩=>⟨by rw[e1];exact e,by rw[e2];simp⟩) ⟨rfl,rfl⟩ (fun i x ys H' hx _=>by simp at hx) (fun ys H' ⟨e1,e2⟩=>by subst e1;subst e2;exact h)
theorem oJ {g:TG} {tb:TS} {D:gK} {σ:St} {H:Hp} {a:Addr} (e:SqL K H a []) (h:D.nx σ H) :
  ∃W:Nat->Nat->St->Hp->Prop,(∃m,W 0 m σ H)/\∀i m σ H,W i m σ H →
   ((Pl K a).stop i H/\D.nx σ H)∨((Pl K a).go i H/\∃N:St->Hp->Prop,(∀ σ' H',N σ' H'->∃m',m'<m/\W (i+1) m' σ' H')/\∀x H',(Pl K a).yld i H x H'->g x σ H' fun σ2 H2=>tb {D with nx:=N,ct:=N,bk:=D.nx } σ2 H2):=
 eC (bR K a []) (fun i σ' H'=>H'=H/\σ'=σ) (fun i σ' H' ⟨e1,_⟩=>by rw[e1];exact e) ⟨rfl,rfl⟩ (fun i x σ' H' hx _=>by simp at hx) (fun σ' H' ⟨e1,e2⟩=>by subst e1;subst e2;exact h)
theorem kH {H:Hp} {d x:Addr} {o:Obj} {kvs:List (aZ × V)} {u:HO} (g:H d=some (.dK kvs)) (h:(aH H d (.frz o (.dK kvs))) x=none):Same H (aH (aH (aH H d (.frz o (.dK kvs))) x u) d (.dK kvs)):=fun c v e=>by
 by_cases z:c=d
 ·rw[z,aA,<- g,<- z,e]
 ·have n:c≠x:=fun w=>by rw[<- w,aD z,e]at h;cases h
  rw[aD z,aD n,aD z];exact e
def Od:Sp:=fun vs H Q _=>∃(ra:Addr) (w:Str),vs=[.ref ra,.str w]/\H ra=some (.lst [])/\∀d,H d=none->Q (.ref d) (aH H d (.dK []))
theorem Sl (D:DefAt K mg "by_numbers" fM ["rows","word"]):aI P w K mg base 1 "by_numbers" ["rows","word"] Od:=by
 refine D.go gH (fun vs H Q E h=>?_) (fun f cdv A outer s H vs Q E hr h=>?_)
 ·obtain⟨ra,w,rfl,_⟩:=h;rfl
 ·obtain⟨ra,w,rfl,g,q⟩:=h
  have hu1:=cS hr
  refine⟨_,(R.ad (R.av (i:=2) gH.nd R.cn) (R.ad (R.bq PassesOwn.never rfl (R.bf (K:=K) (R.v 0)) (R.gn (i:=3) gH.nd) (R.ae (R.ar (R.aj R.eq (R.ix (R.ag (K:=K)) (R.v 3) R.ac) (R.v 1)) (R.ae (R.bz (R.v 3) (R.ce (R.v 2) (R.ix (R.ag (K:=K)) (R.v 3) R.ac) (R.cc hu1)))) R.au))) (R.ae (R.af (R.v 2))))),?_⟩
  intro d hd;dsimp only [aJ];have g':=aF (o:=.dK []) hd _ _ g
  exact⟨ra,rfl,⟨_,SqL.of g'⟩,oJ (SqL.of g') (q d hd)⟩
def Ac (C:Addr):Sp:=fun vs H Q _=>∃ra:Addr,vs=[.ref ra]/\H ra=some (.lst [])/\∀(b bx bd:Addr) (H':Hp),H b=none->H bd=none->H' b=some (.ins C bx [("amounts",.ref bd)])->H' bd=some (.dK [])->Same H H'->Q (.ref b) H'
theorem Sm {C:Addr} (c_Book:tY P w K mg base 1 "Book" C ["self","rows"] [] (tH C)) (D:DefAt K mg "first_book" dM ["rows"]):aI P w K mg base 3 "first_book" ["rows"] (Ac C):=by
 refine D.go pW (fun vs H Q E h=>?_) (fun f cdv A outer s H vs Q E hr h=>?_)
 ·obtain⟨ra,rfl,_⟩:=h;rfl
 ·obtain⟨ra,rfl,g,q⟩:=h
  have hr_Book:=hr
  refine⟨_,(R.ae (R.af (R.cw c_Book hr_Book rfl (R.aa (R.bi rfl (js:=[none]) (N:=["row"]) (CompScope.by (aB dM) ["rows"] rfl rfl Zk) (aO rfl) (R.bf (K:=K) (R.v 0)) (fun C s₂ H₂ fp=>⟨(R.gn (i:=0) (show(["row"]:List Str).Nodup by decide +kernel)),(R.bt (R.aj R.eq (R.ix (R.ag (K:=K)) (R.v 0) R.ac) R.ah)),(R.sl R.sT (R.v 0) (R.ps R.ac) R.pn)⟩)) R.ab)))),?_⟩
  refine⟨ra,rfl,⟨_,SqL.of g⟩,gO (SqL.of g) fun l hl=>?_⟩
  intro b bx hb hbx hne;have s1:=aF (o:=.lst []) hl
  refine⟨b,bx,_,[],rfl,aA,.inr ⟨l,[],rfl,?_,(fun _ h=>nomatch h),rfl⟩,List.nodup_nil,Zs,fun H' d hd g1 g2 k=>⟨rfl,?_⟩⟩
  ·rw[aD (aE aA hb),aD (aE aA hbx)];exact aA
  ·have s2:Same (aH H l (.lst [])) H':=fun c o e=>k _ _ (by rw[aD (aE e hb),aD (aE e hbx)];exact e) (aE e hb)
   refine q b bx d H' (s1.free hb) ?_ g1 g2 (s1.trans s2)
   cases e:H d with
   | none=>rfl
   | some o=>have e':=s1 _ _ e;rw[aD (aE e' hb),aD (aE e' hbx),e']at hd;cases hd
theorem Sn {C:Addr} (c_first_book:aI P w K mg base 3 "first_book" ["rows"] (Ac C)) (c_changes_of:aI P w K mg base 2 "changes_of" ["deed","answer"] Hr) (c_Book_change:cT P w K mg base 2 C "change" ["self","changes"] (mU C)) (D:DefAt K mg "risen_book" fN ["rows","came"]) :
  aI P w K mg base 4 "risen_book" ["rows","came"] (fun vs H Q E=>∃ra v,vs=[ra,v]/\Ac C [ra] H Q E):=by
 refine D.go gJ (fun vs H Q E h=>?_) (fun f cdv A outer s H vs Q E hr h=>?_)
 ·obtain⟨ra,v,rfl,_⟩:=h;rfl
 ·obtain⟨_,v,rfl,ra,e,g,q⟩:=h
  cases e
  have hr_first_book:=hr
  have hr_changes_of:Room 2 _:=hr.mono Zd
  have hr_Book_change:Room 2 _:=hr.mono Zd
  have hu1:=cS hr
  refine⟨_,(R.ad (R.av (i:=2) gJ.nd (R.fn c_first_book hr_first_book rfl (R.aa (R.v 0) R.ab))) (R.ad (R.bq PassesOwn.never rfl (R.bf (K:=K) (R.v 0)) (R.gn (i:=3) gJ.nd) (R.ae (R.ar (R.aj R.eq (R.ix (R.ag (K:=K)) (R.v 3) R.ac) R.ah) (R.ae (R.bo (R.bc c_Book_change hr_Book_change (R.v 2) (R.aa (R.fn c_changes_of hr_changes_of rfl (R.aa (R.ix (R.ag (K:=K)) (R.bh hu1 (R.v 1) (R.ix (R.ag (K:=K)) (R.v 3) R.ac)) R.ac) (R.aa (R.ix (R.ag (K:=K)) (R.v 3) R.ac) R.ab))) R.ab)))) R.au))) (R.ae (R.af (R.v 2))))),?_⟩
  refine⟨ra,rfl,g,fun b bx bd H' h1 h2 g1 g2 s1=>?_⟩
  dsimp only [aJ];exact⟨ra,rfl,⟨_,SqL.of (s1 _ _ g)⟩,oJ (SqL.of (s1 _ _ g)) (q b bx bd H' h1 h2 g1 g2 s1)⟩
def Oe:Sp:=fun vs H Q _=>∃(ra:Addr) (v:V),vs=[.ref ra,v]/\H ra=some (.lst [])/\∀l H',Same H H'->H' l=some (.lst [])->Q (.ref l) H'
theorem So (D:DefAt K mg "risen_kept" cP ["rows","came"]):aI P w K mg base 1 "risen_kept" ["rows","came"] Oe:=by
 refine D.go jU (fun vs H Q E h=>?_) (fun f cdv A outer s H vs Q E hr h=>?_)
 ·obtain⟨ra,v,rfl,_⟩:=h;rfl
 ·obtain⟨ra,v,rfl,g,q⟩:=h
  have hu1:=cS hr
  refine⟨_,(R.ad (R.dm (i:=2) jU.nd rfl (Or.inl rfl) rfl (js:=[none]) (N:=["row"]) (CompScope.by (aB cP) ["rows","came","kept"] rfl rfl Zk) (aO rfl) (R.bf (K:=K) (R.v 0)) (fun C s₂ H₂ fp=>⟨(R.gn (i:=0) (show(["row"]:List Str).Nodup by decide +kernel)),(R.bt (R.aj R.eq (R.ix (R.ag (K:=K)) (R.v 0) R.ac) R.ah)),(R.sl R.sT (R.v 0) (R.ps R.ac) R.pn)⟩) rfl) (R.ae (R.af (R.op R.ci (R.v 2) (R.bi rfl (js:=[none,some 1]) (N:=["row","came"]) (CompScope.by (aB cP) ["rows","came","kept"] rfl rfl Zk) (aO rfl) (R.bf (K:=K) (R.v 0)) (fun C s₂ H₂ fp=>⟨(R.gn (i:=0) (show(["row","came"]:List Str).Nodup by decide +kernel)),(R.bt (R.aj R.eq (R.ix (R.ag (K:=K)) (R.v 0) R.ac) R.ah)),(R.op R.dh (R.op R.dh (R.sl R.sT (R.v 0) (R.ps R.ac) (R.ps R.ac)) (R.sl R.sT (R.bh hu1 (R.v 1) (R.ix (R.ag (K:=K)) (R.v 0) R.ac)) (R.ps R.ac) R.pn)) (R.sl R.sT (R.v 0) (R.ps R.ac) R.pn))⟩)))))),?_⟩
  refine⟨ra,rfl,⟨_,SqL.of g⟩,gO (SqL.of g) fun l hl=>?_⟩
  dsimp only [aJ];have s1:=aF (o:=.lst []) hl
  refine⟨ra,rfl,⟨_,SqL.of (s1 _ _ g)⟩,gO (SqL.of (s1 _ _ g)) fun l2 hl2=>?_⟩
  have s2:=aF (o:=.lst []) hl2
  exact⟨[],[],s2 _ _ aA,aA,kJ rfl,fun l3 hl3=>q l3 _ ((s1.trans s2).trans (aF hl3)) aA⟩
def Hx:Sp:=fun vs H Q _=>∃ra:Addr,vs=[.ref ra]/\H ra=some (.lst [])/\∀t b l o H',Same H H'->H' t=some (.tup [.ref b,.ref l,.ref o,.int 1,.int 0])->H' b=some (.lst [])->H' l=some (.lst [])->H' o=some (.lst [])->Q (.ref t) H'
theorem Mi {C:Addr} (T:Txt K mg) (c_by_numbers:aI P w K mg base 1 "by_numbers" ["rows","word"] Od) (c_risen_book:aI P w K mg base 4 "risen_book" ["rows","came"] (fun vs H Q E=>∃ra v,vs=[ra,v]/\Ac C [ra] H Q E)) (c_risen_kept:aI P w K mg base 1 "risen_kept" ["rows","came"] Oe) (c_Book_rows:cT P w K mg base 1 C "rows" ["self"] (uW C)) (D:DefAt K mg "risen" fL ["rows"]) :
  aI P w K mg base 5 "risen" ["rows"] Hx:=by
 refine D.go iY (fun vs H Q E h=>?_) (fun f cdv A outer s H vs Q E hr h=>?_)
 ·obtain⟨ra,rfl,_⟩:=h;rfl
 ·obtain⟨ra,rfl,g,q⟩:=h
  have hu1:=cS hr
  have hr_by_numbers:Room 1 _:=hr.mono Zd
  have hr_risen_book:Room 4 _:=hr
  have hr_Book_rows:Room 1 _:=hr.mono Zd
  have hr_risen_kept:Room 1 _:=hr.mono Zd
  refine⟨_,(R.ad (R.av (i:=1) iY.nd (R.fn c_by_numbers hr_by_numbers rfl (R.aa (R.v 0) (R.aa R.ah R.ab)))) (R.ad (R.av (i:=2) iY.nd (R.fn c_by_numbers hr_by_numbers rfl (R.aa (R.v 0) (R.aa R.ah R.ab)))) (R.ad (R.av (i:=3) iY.nd (R.fn c_by_numbers hr_by_numbers rfl (R.aa (R.v 0) (R.aa R.ah R.ab)))) (R.ad (R.iq (R.dm (i:=4) iY.nd rfl (Or.inl rfl) rfl (js:=[none,some 1,some 2,some 3]) (N:=["number","done","asked","came"]) (CompScope.by (aB fL) ["rows","done","asked","came","still"] rfl rfl Zk) (aO rfl) (R.wD (R.v 3)) (fun C s₂ H₂ fp=>⟨(R.gn (i:=0) (show(["number","done","asked","came"]:List Str).Nodup by decide +kernel)),(R.bt (R.tw (R.cr (R.aj (R.fm hu1) (R.v 0) (R.v 2)) (R.cu (R.aj (R.dq hu1) (R.v 0) (R.v 1)))))),(R.bh hu1 (R.v 3) (R.v 0))⟩) rfl)) (R.ae (R.af (R.ap (R.aa (R.bu c_Book_rows hr_Book_rows (R.fn c_risen_book hr_risen_book rfl (R.aa (R.v 0) (R.aa (R.v 3) R.ab)))) (R.aa (R.fn c_risen_kept hr_risen_kept rfl (R.aa (R.v 0) (R.aa (R.v 3) R.ab))) (R.aa (R.bi rfl (js:=[none]) (N:=["row"]) (CompScope.by (aB fL) ["rows","done","asked","came","still"] rfl rfl Zk) (aO rfl) (R.bf (K:=K) (R.v 4)) (fun C s₂ H₂ fp=>⟨(R.gn (i:=0) (show(["row"]:List Str).Nodup by decide +kernel)),R.br,(R.op R.dh (R.sl R.sT (R.v 0) (R.ps R.ac) (R.ps R.ac)) (R.sl R.sT (R.v 0) (R.ps R.ac) R.pn))⟩)) (R.aa (R.ax (R.ee (K:=K) rfl) rfl T.b_max Fm (R.aa (R.op R.ci (R.op R.ci (R.bj (R.aa R.ac R.ab)) (R.bi rfl (js:=[none]) (N:=["row"]) (CompScope.by (aB fL) ["rows","done","asked","came","still"] rfl rfl Zk) (aO rfl) (R.bf (K:=K) (R.v 0)) (fun C s₂ H₂ fp=>⟨(R.gn (i:=0) (show(["row"]:List Str).Nodup by decide +kernel)),(R.bt (R.aj R.eq (R.ix (R.ag (K:=K)) (R.v 0) R.ac) R.ah)),(R.ix (R.ag (K:=K)) (R.v 0) R.ac)⟩))) (R.gv (R.bi rfl (js:=[none]) (N:=["number"]) (CompScope.by (aB fL) ["rows","done","asked","came","still"] rfl rfl Zk) (aO rfl) (R.wD (R.v 3)) (fun C s₂ H₂ fp=>⟨(R.gn (i:=0) (show(["number"]:List Str).Nodup by decide +kernel)),R.br,(R.op R.ba (R.v 0) R.ac)⟩)))) R.ab)) (R.aa (R.ax (R.ee (K:=K) rfl) rfl T.b_max Fm (R.aa (R.op R.ci (R.bj (R.aa R.ac R.ab)) (R.bi rfl (js:=[none]) (N:=["row"]) (CompScope.by (aB fL) ["rows","done","asked","came","still"] rfl rfl Zk) (aO rfl) (R.bf (K:=K) (R.v 0)) (fun C s₂ H₂ fp=>⟨(R.gn (i:=0) (show(["row"]:List Str).Nodup by decide +kernel)),(R.bt (R.aj (R.dj (K:=K)) (R.ix (R.ag (K:=K)) (R.v 0) R.ac) (R.ap (R.aa R.ah (R.aa R.ah (R.aa R.ah R.ab)))))),(R.ix (R.ag (K:=K)) (R.v 0) R.ac)⟩))) R.ab)) R.ab)))))))))))),?_⟩
  refine⟨ra,"done",rfl,g,fun d1 h1=>?_⟩
  dsimp only [aJ];have s1:=aF (o:=.dK []) h1
  generalize aH H d1 (.dK [])=H1 at s1 ⊢;refine⟨ra,"asked",rfl,s1 _ _ g,fun d2 h2=>?_⟩
  dsimp only [aJ];have s2:=s1.trans (aF (o:=.dK []) h2)
  generalize aH H1 d2 (.dK [])=H2 at s2 ⊢;refine⟨ra,"came",rfl,s2 _ _ g,fun d3 h3=>?_⟩
  dsimp only [aJ];have s3:=s2.trans (aF (o:=.dK []) h3)
  have g3:(aH H2 d3 (.dK [])) d3=some (.dK []):=aA
  generalize aH H2 d3 (.dK [])=H3 at s3 g3 ⊢;refine qZ (fun σ' H'=>∃sl:Addr,σ'=[some (.ref ra),some (.ref d1),some (.ref d2),some (.ref d3),some (.ref sl)]/\H' sl=some (.lst [])/\Same H3 H') (fun nx hnx=>?_) ?_
  ·refine⟨_,g3,fun o=>rE aA fun sl hsl=>?_⟩
   have nds:d3≠sl:=aE aA hsl
   exact⟨d3,[],o,⟨_,g3⟩,by rw[aD nds];exact aA,hnx _ _ ⟨sl,rfl,by rw[aD nds.symm];exact aA,kH g3 hsl⟩⟩
  ·rintro σ' H4 ⟨sl,rfl,gsl,s4⟩
   have sA:=s3.trans s4
   refine⟨.ref ra,.ref d3,rfl,ra,rfl,sA _ _ g,fun b bx bd H5 hb hbd gb gd s5=>?_⟩
   refine⟨bx,_,gb,by kernel_rfl,b,[],rfl,⟨⟨bx,bd,gb,gd⟩,List.nodup_nil⟩,Zd,fun bl zs H6 s6 fbl gbl hz ez=>?_⟩
   have ez':zs=[]:=by
    have e0:pB (([]:List (Str × Int)).map (·.1))=[]:=List.length_eq_zero_iff.mp (by rw[kY];rfl)
    unfold Gi at ez;rw[e0]at ez;exact List.map_eq_nil_iff.mp ez
   subst ez';have sB:=(sA.trans s5).trans s6
   refine⟨ra,.ref d3,rfl,sB _ _ g,fun kl H7 s7 gkl=>?_⟩
   have sC:=sB.trans s7
   have gs7:=s7 _ _ (s6 _ _ (s5 _ _ gsl))
   refine⟨sl,rfl,⟨_,SqL.of gs7⟩,gO (SqL.of gs7) fun ol hol=>?_⟩
   have sD:=sC.trans (aF (o:=.lst []) hol)
   have gbl8:=aF (o:=.lst []) hol _ _ (s7 _ _ gbl)
   have gkl8:=aF (o:=.lst []) hol _ _ gkl
   have gol8:(aH H7 ol (.lst [])) ol=some (.lst []):=aA
   have gd8:=aF (o:=.lst []) hol _ _ (s7 _ _ (s6 _ _ (s5 _ _ (s4 _ _ g3))))
   generalize aH H7 ol (.lst [])=H8 at sD gbl8 gkl8 gol8 gd8 ⊢;refine⟨kJ rfl,fun x1 hx1=>?_⟩
   have sE:=aF (o:=.lst [.int 1]) hx1
   have gx1:(aH H8 x1 (.lst [.int 1])) x1=some (.lst [.int 1]):=aA
   generalize aH H8 x1 (.lst [.int 1])=H9 at sE gx1 ⊢;refine⟨ra,rfl,⟨_,SqL.of (sE _ _ (sD _ _ g))⟩,gO (SqL.of (sE _ _ (sD _ _ g))) fun x2 hx2=>?_⟩
   have sF:=sE.trans (aF (o:=.lst []) hx2)
   refine⟨_,_,aF hx2 _ _ gx1,aA,kJ rfl,fun x3 hx3=>?_⟩
   have gx3:(aH (aH H9 x2 (.lst [])) x3 (.lst ([.int 1]++[]))) x3=some (.lst ([.int 1]++[])):=aA
   have sG:=sF.trans (aF (o:=.lst ([.int 1]++[])) hx3)
   generalize aH (aH H9 x2 (.lst [])) x3 (.lst ([.int 1]++[]))=H10 at sG gx3 ⊢;have g10:=sG _ _ gd8
   refine⟨_,g10,fun o=>rE aA fun x4 hx4=>?_⟩
   have nds:d3≠x4:=aE aA hx4
   refine⟨d3,[],o,⟨_,g10⟩,by rw[aD nds];exact aA,?_⟩
   have sH:=kH (u:=.lst []) g10 hx4
   have gx4:(aH (aH (aH H10 d3 (.frz o (.dK []))) x4 (.lst [])) d3 (.dK [])) x4=some (.lst []):=by rw[aD nds.symm];exact aA
   generalize aH (aH (aH H10 d3 (.frz o (.dK []))) x4 (.lst [])) d3 (.dK [])=H11 at sH gx4 ⊢;refine⟨_,_,sH _ _ gx3,gx4,kJ rfl,fun x5 hx5=>⟨x5,[1],rfl,SqL.of aA,Zd,fun M hM _=>?_⟩⟩
   have eM:M=1:=by simpa using hM
   subst eM;have sI:=(sG.trans sH).trans (aF (o:=.lst ([.int 1]++[]++[])) hx5)
   generalize aH H11 x5 (.lst ([.int 1]++[]++[]))=H12 at sI ⊢;refine⟨kJ rfl,fun y1 hy1=>?_⟩
   have sJ:=sI.trans (aF (o:=.lst [.int 0]) hy1)
   have gy1:(aH H12 y1 (.lst [.int 0])) y1=some (.lst [.int 0]):=aA
   generalize aH H12 y1 (.lst [.int 0])=H13 at sJ gy1 ⊢;have gr13:=sJ _ _ (sD _ _ g)
   refine⟨ra,rfl,⟨_,SqL.of gr13⟩,gO (SqL.of gr13) fun y2 hy2=>?_⟩
   refine⟨_,_,aF hy2 _ _ gy1,aA,kJ rfl,fun y3 hy3=>⟨y3,[0],rfl,SqL.of aA,Zd,fun M hM _=>?_⟩⟩
   have eM:M=0:=by simpa using hM
   subst eM;have sK:=(sJ.trans (aF (o:=.lst []) hy2)).trans (aF (o:=.lst ([.int 0]++[])) hy3)
   refine⟨bH rfl,fun t H' sL gt=>q t bl kl ol H' ((sD.trans sK).trans sL) gt (sL _ _ (sK _ _ gbl8)) (sL _ _ (sK _ _ gkl8)) (sL _ _ (sK _ _ gol8))⟩
end
end KL
namespace KL
open PySem L2
section
variable {P:Program} {w:World} {K:W.Frag} {mg:Str->Option Value} {base:Heap}
structure JT (K:W.Frag) (C:Addr):Prop where
 cl:Cls K C
 nW:NoAttr K C "written"
 nS:NoAttr K C "safe_count"
def rF:Sp:=fun vs H Q _=>vs=[.str ("":Str)]/\∀l H',H l=none->H' l=some (.lst [])->Same H H'->Q (.ref l) H'
theorem vP (T:Txt K mg) (D:DefAt K mg "rows_of" jI ["text"]):aI P w K mg base 1 "rows_of" ["text"] rF:=by
 refine D.go iD (fun vs H Q E h=>?_) (fun f cdv A outer s H vs Q E hr h=>?_)
 ·obtain⟨rfl,_⟩:=h;rfl
 ·obtain⟨rfl,q⟩:=h
  refine⟨_,(R.ad (R.av (i:=1) iD.nd (R.bj R.ab)) (R.ad (R.bq PassesOwn.never rfl (R.ff (K:=K) rfl T.b_enumerate (R.sl (R.di (K:=K)) (R.cv (K:=K) PySem.F.plainAttrs_str PySem.F.slot_str_split PySem.F.type_str_split R.eu (R.v 0) (R.aa R.ah R.ab)) R.pn (R.ps (R.bb R.ac)))) (R.ca (K:=K) (n:=2) rfl (R.ay (R.gn (i:=2) iD.nd) (R.ay (R.gn (i:=3) iD.nd) R.cb))) (R.ae R.az)) (R.ae (R.af (R.v 1))))),?_⟩
  refine⟨kJ rfl,fun l hl=>?_⟩
  dsimp only [aJ];have s1:=aF (o:=.lst []) hl
  have g1:(aH H l (.lst [])) l=some (.lst []):=aA
  generalize aH H l (.lst [])=H1 at s1 g1 ⊢;refine⟨rfl,Zk,Zk,fun l2 h2=>?_⟩
  have e2:(Txt.split ("":Str) ("\n":Str)).map V.str=[V.str ("":Str)]:=by kernel_rfl
  rw[e2];have s2:=s1.trans (aF (o:=.lst [V.str ("":Str)]) h2)
  have g2:=aF (o:=.lst [V.str ("":Str)]) h2 _ _ g1
  have gl2:(aH H1 l2 (.lst [V.str ("":Str)])) l2=some (.lst [V.str ("":Str)]):=aA
  generalize aH H1 l2 (.lst [V.str ("":Str)])=H2 at s2 g2 gl2 ⊢;refine⟨_,SqL.of gl2,fun l3 h3=>?_⟩
  rw[show gT [V.str ("":Str)] none (some (-1))=[] by kernel_rfl]
  have s3:=s2.trans (aF (o:=.lst []) h3)
  have g3:=aF (o:=.lst []) h3 _ _ g2
  have gl3:(aH H2 l3 (.lst [])) l3=some (.lst []):=aA
  generalize aH H2 l3 (.lst [])=H3 at s3 g3 gl3 ⊢;refine⟨_,SqL.of gl3,?_⟩
  refine Gn (K:=K) (a:=l3) (xs:=[]) (tb:=fun _ _ _=>False) (fun i σ H'=>H'=H3/\σ=[some (.str ("":Str)),some (.ref l),none,none]) (fun i σ H' h=>by rw[h.1];exact SqL.of gl3) ⟨rfl,rfl⟩ (fun i x σ H' t hx=>by simp at hx) fun σ H' h=>?_
  rw[h.1,h.2];exact q l H3 hl g3 s3
def Og (C:Addr):Sp:=fun vs H Q _=>∃p dx,vs=[.ref p,.str ("":Str)]/\H p=some (.ins C dx [])/\∀H' lw,H lw=none->H' p=some (.ins C dx (jf lw 0))->H' lw=some (.lst [])->(∀c o,H c=some o->c≠p->H' c=some o)->Q .non H'
theorem Cn {C:Addr} (T:Txt K mg) (B:JT K C) (c_rows_of:aI P w K mg base 1 "rows_of" ["text"] rF) (D:ClsAt K mg "Journal" C "Journal.__init__" bE ["self","text"] [[],[.str ("":Str)]]):∀d∈([[],[.str ("":Str)]]:List (List V)),tY P w K mg base 2 "Journal" C ["self","text"] d (Og C):=by
 refine D.go jO (fun vs H Q E h=>?_) (fun f cdv A outer s H vs Q E hr h=>?_)
 ·obtain⟨p,dx,rfl,_⟩:=h;rfl
 ·obtain⟨p,dx,rfl,hp,q⟩:=h
  have hr_rows_of:=hr
  refine⟨_,(R.ad (R.aw (K:=K) (R.v 0) (R.fn c_rows_of hr_rows_of rfl (R.aa (R.v 1) R.ab))) (R.ae (R.aw (K:=K) (R.v 0) (R.ax (R.bw (K:=K)) rfl T.b_len cH (R.aa (R.aq (K:=K) (R.v 0)) R.ab))))),?_⟩
  refine⟨rfl,fun l H1 hl g1 s1=>?_⟩
  have npl:p≠l:=aE hp hl
  refine⟨C,dx,[],s1 _ _ hp,B.cl,B.nW,(by show 0<1000;decide),?_⟩
  dsimp only;rw[show bG "written" (.ref l) []=([("written",.ref l)]:List (Str × V)) from rfl];have g2:(aH H1 p (.ins C dx [("written",.ref l)])) p=some (.ins C dx [("written",.ref l)]):=aA
  have gl2:(aH H1 p (.ins C dx [("written",.ref l)])) l=some (.lst []):=by rw[aD npl.symm];exact g1
  have k2:∀c o,H1 c=some o->c≠p->(aH H1 p (.ins C dx [("written",.ref l)])) c=some o:=fun c o e hc=>by rw[aD hc];exact e
  generalize aH H1 p (.ins C dx [("written",.ref l)])=H2 at g2 gl2 k2 ⊢;refine⟨C,dx,_,.ref l,g2,B.cl,B.nW,by kernel_rfl,_,.inl (SqL.of gl2),?_⟩
  refine⟨C,dx,_,g2,B.cl,B.nS,(by show 1<1000;decide),?_⟩
  refine q _ l hl (by rw[aA];congr 1) (by rw[aD npl.symm];exact gl2) fun c o e hc=>?_
  rw[aD hc];exact k2 _ _ (s1 _ _ e) hc
def lG (C:Addr):Sp:=fun vs H Q _=>∃(x lw dx:Addr) (n:Int) (us:List V) (v:V),vs=[.ref x,v]/\H x=some (.ins C dx (jf lw n))/\H lw=some (.lst us)/\us.length<=1000/\Q .non (aH H lw (.lst (us++[v])))
def vQ (C:Addr):Sp:=fun vs H Q _=>∃(x lw dx:Addr) (n:Int) (us:List V),vs=[.ref x]/\H x=some (.ins C dx (jf lw n))/\H lw=some (.lst us)/\Q .non (aH H x (.ins C dx (jf lw us.length)))
def Ad (C:Addr):Sp:=fun vs H Q _=>∃(x lw dx:Addr) (n:Int) (us:List V),vs=[.ref x]/\H x=some (.ins C dx (jf lw n))/\H lw=some (.lst us)/\∀l,H l=none->Q (.ref l) (aH H l (.lst us))
def Ae (C:Addr):Sp:=fun vs H Q _=>∃(x lw dx:Addr) (n:Int),vs=[.ref x]/\H x=some (.ins C dx (jf lw n))/\Q (.int n) H
theorem Co {C:Addr} (B:JT K C) (D:MethAt K C "write" "Journal.write" dA ["self","row"]):cT P w K mg base 1 C "write" ["self","row"] (lG C):=by
 refine D.go mL (fun vs H Q E h=>?_) (fun f cdv A outer s H vs Q E hr h=>?_)
 ·obtain⟨x,lw,dx,n,us,v,rfl,_⟩:=h;rfl
 ·obtain⟨x,lw,dx,n,us,v,rfl,hx,hl,hn,q⟩:=h
  refine⟨_,(R.ae (R.bo (R.cv (K:=K) PySem.F.plainAttrs_list PySem.F.slot_list_append PySem.F.type_list_append R.gy (R.aq (K:=K) (R.v 0)) (R.aa (R.v 1) R.ab)))),?_⟩
  exact⟨C,dx,_,.ref lw,hx,B.cl,B.nW,by kernel_rfl,.inl ⟨rfl,_,SqL.of hl⟩,lw,us,v,rfl,rfl,hl,wH hn Zd,q⟩
theorem Cp {C:Addr} (T:Txt K mg) (B:JT K C) (D:MethAt K C "force" "Journal.force" dB ["self"]):cT P w K mg base 1 C "force" ["self"] (vQ C):=by
 refine D.go mM (fun vs H Q E h=>?_) (fun f cdv A outer s H vs Q E hr h=>?_)
 ·obtain⟨x,lw,dx,n,us,rfl,_⟩:=h;rfl
 ·obtain⟨x,lw,dx,n,us,rfl,hx,hl,q⟩:=h
  refine⟨_,(R.ae (R.aw (K:=K) (R.v 0) (R.ax (R.bw (K:=K)) rfl T.b_len cH (R.aa (R.aq (K:=K) (R.v 0)) R.ab)))),?_⟩
  refine⟨C,dx,_,.ref lw,hx,B.cl,B.nW,by kernel_rfl,_,.inl (SqL.of hl),?_⟩
  refine⟨C,dx,_,hx,B.cl,B.nS,(by show 2<1000;decide),?_⟩
  dsimp only;rw[show bG "safe_count" (.int us.length) (jf lw n)=jf lw us.length by kernel_rfl]
  exact q
theorem Hy {C:Addr} (T:Txt K mg) (B:JT K C) (D:MethAt K C "rows" "Journal.rows" dN ["self"]):cT P w K mg base 1 C "rows" ["self"] (Ad C):=by
 refine D.go nV (fun vs H Q E h=>?_) (fun f cdv A outer s H vs Q E hr h=>?_)
 ·obtain⟨x,lw,dx,n,us,rfl,_⟩:=h;rfl
 ·obtain⟨x,lw,dx,n,us,rfl,hx,hl,q⟩:=h
  refine⟨_,(R.ae (R.af (R.cm (R.gi (K:=K)) rfl T.b_list zF (R.aa (R.aq (K:=K) (R.v 0)) R.ab)))),?_⟩
  exact⟨C,dx,_,.ref lw,hx,B.cl,B.nW,by kernel_rfl,_,.inl (SqL.of hl),q⟩
theorem Hz {C:Addr} (B:JT K C) (D:MethAt K C "safe" "Journal.safe" dO ["self"]):cT P w K mg base 1 C "safe" ["self"] (Ae C):=by
 refine D.go nX (fun vs H Q E h=>?_) (fun f cdv A outer s H vs Q E hr h=>?_)
 ·obtain⟨x,lw,dx,n,rfl,_⟩:=h;rfl
 ·obtain⟨x,lw,dx,n,rfl,hx,q⟩:=h
  refine⟨_,(R.ae (R.af (R.aq (K:=K) (R.v 0)))),?_⟩
  exact⟨C,dx,_,.int n,hx,B.cl,B.nS,by kernel_rfl,q⟩
def vR (C:Addr):Sp:=fun vs H Q _=>∃(x lw dx t:Addr) (k:Nat) (us:List V) (zs:List (Addr × List V)) (xs:List V),vs=[.ref x,.ref t]/\H x=some (.ins C dx (jf lw k))/\H lw=some (.lst us)/\H t=some (.tup xs)/\us.take k=zs.map (fun z=>V.ref z.1)/\(∀z∈zs,H z.1=some (.tup z.2)/\eT z.2 xs)/\∀H',Same H H'->Q (.bl (xS xs zs)) H'
theorem Cq {C:Addr} (B:JT K C) (D:MethAt K C "is_safe" "Journal.is_safe" cF ["self","row"]):cT P w K mg base 1 C "is_safe" ["self","row"] (vR C):=by
 refine D.go kE (fun vs H Q E h=>?_) (fun f cdv A outer s H vs Q E hr h=>?_)
 ·obtain⟨x,lw,dx,t,k,us,zs,xs,rfl,_⟩:=h;rfl
 ·obtain⟨x,lw,dx,t,k,us,zs,xs,rfl,hx,hl,ht,hz,hf,q⟩:=h
  have hu64:=hr.units
  refine⟨_,(R.ae (R.af (R.bv (R.fq hu64) (R.v 1) (R.sl (R.di (K:=K)) (R.aq (K:=K) (R.v 0)) R.pn (R.ps (R.aq (K:=K) (R.v 0))))))),?_⟩
  refine⟨C,dx,_,.ref lw,hx,B.cl,B.nW,by kernel_rfl,C,dx,_,.int k,hx,B.cl,B.nS,by kernel_rfl,_,SqL.of hl,fun l hlf=>?_⟩
  rw[sX,hz];have s1:=aF (o:=.lst (zs.map fun z=>V.ref z.1)) hlf
  exact⟨xs,zs,s1 _ _ ht,aA,fun z m=>⟨s1 _ _ (hf z m).1,(hf z m).2⟩,q _ s1⟩
end
end KL
namespace KL
open PySem L2
section
variable {P:Program} {w:World} {K:W.Frag} {mg:Str->Option Value} {base:Heap}
structure Ja (K:W.Frag) (C:Addr):Prop where
 cl:Cls K C
 nN:NoAttr K C "number"
 nA:NoAttr K C "asker"
 nK:NoAttr K C "key"
 nD:NoAttr K C "deed"
 nS:NoAttr K C "stage"
 nP:NoAttr K C "place"
 nU:NoAttr K C "undos"
structure Ia (K:W.Frag) (C:Addr):Prop where
 cl:Cls K C
 nT:NoAttr K C "turn"
 nB:NoAttr K C "book"
 nS:NoAttr K C "standing"
 nR:NoAttr K C "runs"
 nN:NoAttr K C "next_number"
def Ib (C:Addr):Sp:=fun vs H Q _=>∃r:Rn,vs=[.ref r.p,.int r.n,.str r.q.1,.str r.q.2,.ref r.d,.str r.st]/\r.pl=0/\r.un=0/\H r.p=some (.ins C r.dx [])/\Q .non (aH H r.p (.ins C r.dx r.fs))
theorem Mj {C:Addr} (B:Ja K C) (D:ClsAt K mg "Run" C "Run.__init__" bX ["self","number","asker","key","deed","stage"] [[]]):∀d∈([[]]:List (List V)),tY P w K mg base 1 "Run" C ["self","number","asker","key","deed","stage"] d (Ib C):=by
 refine D.go nY (fun vs H Q E h=>?_) (fun f cdv A outer s H vs Q E hr h=>?_)
 ·obtain⟨r,rfl,_⟩:=h;rfl
 ·obtain⟨⟨p,dx,n,q,d,x,st,pl,un⟩,rfl,rfl,rfl,hp,q0⟩:=h
  refine⟨_,(R.ad (R.aw (K:=K) (R.v 0) (R.v 1)) (R.ad (R.aw (K:=K) (R.v 0) (R.v 2)) (R.ad (R.aw (K:=K) (R.v 0) (R.v 3)) (R.ad (R.aw (K:=K) (R.v 0) (R.v 4)) (R.ad (R.aw (K:=K) (R.v 0) (R.v 5)) (R.ad (R.aw (K:=K) (R.v 0) R.ac) (R.ae (R.aw (K:=K) (R.v 0) R.ac)))))))),?_⟩
  refine⟨C,dx,[],hp,B.cl,B.nN,(by show 0<1000;decide),?_⟩
  dsimp only;rw[show bG "number" (.int n) []=([("number",.int n)]:List (Str × V)) by kernel_rfl]
  refine⟨C,dx,_,aA,B.cl,B.nA,(by show 1<1000;decide),?_⟩
  dsimp only;rw[gV,show bG "asker" (.str q.1) ([("number",.int n)]:List (Str × V))=([("number",.int n),("asker",.str q.1)]:List (Str × V)) by kernel_rfl]
  refine⟨C,dx,_,aA,B.cl,B.nK,(by show 2<1000;decide),?_⟩
  dsimp only;rw[gV,show bG "key" (.str q.2) ([("number",.int n),("asker",.str q.1)]:List (Str × V))=([("number",.int n),("asker",.str q.1),("key",.str q.2)]:List (Str × V)) by kernel_rfl]
  refine⟨C,dx,_,aA,B.cl,B.nD,(by show 3<1000;decide),?_⟩
  dsimp only;rw[gV,show bG "deed" (.ref d) ([("number",.int n),("asker",.str q.1),("key",.str q.2)]:List (Str × V))=([("number",.int n),("asker",.str q.1),("key",.str q.2),("deed",.ref d)]:List (Str × V)) by kernel_rfl]
  refine⟨C,dx,_,aA,B.cl,B.nS,(by show 4<1000;decide),?_⟩
  dsimp only;rw[gV,show bG "stage" (.str st) ([("number",.int n),("asker",.str q.1),("key",.str q.2),("deed",.ref d)]:List (Str × V))=([("number",.int n),("asker",.str q.1),("key",.str q.2),("deed",.ref d),("stage",.str st)]:List (Str × V)) by kernel_rfl]
  refine⟨C,dx,_,aA,B.cl,B.nP,(by show 5<1000;decide),?_⟩
  dsimp only;rw[gV,show bG "place" (.int 0) ([("number",.int n),("asker",.str q.1),("key",.str q.2),("deed",.ref d),("stage",.str st)]:List (Str × V))=([("number",.int n),("asker",.str q.1),("key",.str q.2),("deed",.ref d),("stage",.str st),("place",.int 0)]:List (Str × V)) by kernel_rfl]
  refine⟨C,dx,_,aA,B.cl,B.nU,(by show 6<1000;decide),?_⟩
  dsimp only;rw[gV,show bG "undos" (.int 0) ([("number",.int n),("asker",.str q.1),("key",.str q.2),("deed",.ref d),("stage",.str st),("place",.int 0)]:List (Str × V))=([("number",.int n),("asker",.str q.1),("key",.str q.2),("deed",.ref d),("stage",.str st),("place",.int 0),("undos",.int 0)]:List (Str × V)) by kernel_rfl]
  exact q0
def Wd (r:Rn):List V:=[.int r.n,.str r.q.1,.str r.q.2,.ref r.d,.str r.st]
def Oh (C:Addr):Sp:=fun vs H Q _=>∃r:Rn,vs=[.ref r.p]/\H r.p=some (.ins C r.dx r.fs)/\∀t H',Same H H'->H' t=some (.tup (Wd r))->Q (.ref t) H'
theorem Sq {C:Addr} (B:Ja K C) (D:MethAt K C "as_tuple" "Run.as_tuple" dP ["self"]):cT P w K mg base 1 C "as_tuple" ["self"] (Oh C):=by
 refine D.go nZ (fun vs H Q E h=>?_) (fun f cdv A outer s H vs Q E hr h=>?_)
 ·obtain⟨r,rfl,_⟩:=h;rfl
 ·obtain⟨r,rfl,hp,q⟩:=h
  refine⟨_,(R.ae (R.af (R.ap (R.aa (R.aq (K:=K) (R.v 0)) (R.aa (R.aq (K:=K) (R.v 0)) (R.aa (R.aq (K:=K) (R.v 0)) (R.aa (R.aq (K:=K) (R.v 0)) (R.aa (R.aq (K:=K) (R.v 0)) R.ab)))))))),?_⟩
  exact⟨C,_,_,.int r.n,hp,B.cl,B.nN,by kernel_rfl,C,_,_,.str r.q.1,hp,B.cl,B.nA,by kernel_rfl,C,_,_,.str r.q.2,hp,B.cl,B.nK,by kernel_rfl,C,_,_,.ref r.d,hp,B.cl,B.nD,by kernel_rfl,C,_,_,.str r.st,hp,B.cl,B.nS,by kernel_rfl,bH rfl,q⟩
theorem lH {rs:List Rn} (hu:rs.Pairwise fun r r'=>r.n<r'.n) {r:Rn} (hr:r∈rs):aX (aV rs) (Sum.inl (r.n:Int))=some (.ref r.p):=by
 induction rs with
 | nil=>cases hr
 | cons z zs ih=>
  obtain⟨h1,h2⟩:=List.pairwise_cons.mp hu
  unfold aV;rw[List.map_cons];rcases List.mem_cons.mp hr with rfl | m
  ·exact bP rfl
  ·have hlt:=h1 r m
   rw[bQ (fun e=>by have e':(z.n:Int)=(r.n:Int):=Sum.inl.inj e;omega)]
   exact ih h2 m
theorem Cr {rs:List Rn} {n:Nat} (h:∀r∈rs,r.n<n):aX (aV rs) (Sum.inl (n:Int))=none:=by
 cases e:aX (aV rs) (Sum.inl (n:Int)) with
 | none=>rfl
 | some v=>
  have:=uY e
  unfold aV at this;obtain⟨r,hr,e2⟩:=Zmm.mp this
  have e3:(r.n:Int)=(n:Int):=Sum.inl.inj (congrArg Prod.fst e2)
  have:=h r hr
  omega
theorem Cs {pre post:List Rn} {r:Rn} (hu:(pre++r::post).Pairwise fun r r'=>r.n<r'.n):bV (aV (pre++r::post)) (Sum.inl (r.n:Int))=aV (pre++post):=by
 have h1:=List.pairwise_append.mp hu
 have h2:=List.pairwise_cons.mp h1.2.1
 unfold aV bV;rw[iG,List.map_cons,List.filter_append,List.filter_cons,if_neg Zs,iG]
 congr 1
 ·rw[List.filter_eq_self];intro kv hkv;obtain⟨z,hz,rfl⟩:=Zmm.mp hkv
  have:=h1.2.2 z hz r pR
  exact decide_eq_true fun e=>by have e':(z.n:Int)=(r.n:Int):=Sum.inl.inj e;omega
 ·rw[List.filter_eq_self];intro kv hkv;obtain⟨z,hz,rfl⟩:=Zmm.mp hkv
  have:=h2.1 z hz
  exact decide_eq_true fun e=>by have e':(z.n:Int)=(r.n:Int):=Sum.inl.inj e;omega
theorem DAt.radd (h:DAt c H a s) {r:Rn} (hp:H r.p=none) (hx:H r.dx=none) (hne:r.dx≠r.p) (hd:H r.d=some (.tup r.x.vs)) (hu:∀r'∈s.runs,r'.n<r.n) :
  DAt c (aH (aH (aH H r.dx (.own r.p)) r.p (.ins c.R r.dx r.fs)) a.rn (.dK (aV (s.runs++[r])))) a {s with runs:=s.runs++[r] }/\Mv a s {s with runs:=s.runs++[r] } H (aH (aH (aH H r.dx (.own r.p)) r.p (.ins c.R r.dx r.fs)) a.rn (.dK (aV (s.runs++[r])))):=by
 have k1:Same H (aH (aH H r.dx (.own r.p)) r.p (.ins c.R r.dx r.fs)):=fun b o e=>by rw[aD (aE e hp),aD (aE e hx)];exact e
 have g1:(aH (aH H r.dx (.own r.p)) r.p (.ins c.R r.dx r.fs)) r.p=some (.ins c.R r.dx r.fs):=aA
 generalize aH (aH H r.dx (.own r.p)) r.p (.ins c.R r.dx r.fs)=H1 at k1 g1 ⊢;obtain⟨bs,ss,ho,d1,d2⟩:=h.own
 have grn:=ho.get 10 rfl
 have npr:r.p≠a.rn:=(aE grn hp).symm
 have t:TK H (aH H1 a.rn (.dK (aV (s.runs++[r])))):=fun b xs e=>by rw[aD (aK e grn fun z=>nomatch z)];exact k1 _ _ e
 have ho1:=(ho.same k1).set 10 rfl (.dK (aV (s.runs++[r])))
 have hk:r.p∉((a.all c s bs ss).set 10 (a.rn,.dK (aV (s.runs++[r])))).map (·.1):=by
  rw[List.map_set];intro m;rcases List.mem_or_eq_of_mem_set m with z | z
  ·exact ho.keys hp z
  ·exact npr z
 have ho2:=ho1.snoc hk (o:=.ins c.R r.dx r.fs) (by rw[aD npr];exact g1)
 have e:(a.all c s bs ss).set 10 (a.rn,.dK (aV (s.runs++[r])))++[(r.p,.ins c.R r.dx r.fs)]=a.all c {s with runs:=s.runs++[r] } bs ss:=by
  unfold DA.all;show _=a.objs c {s with runs:=s.runs++[r] } bs ss++(s.runs++[r]).map (oB c)
  rw[iG,<- List.append_assoc];rfl
 rw[e]at ho2;refine⟨⟨⟨bs,ss,ho2,d1.keep t,d2.keep t⟩,h.nd,?_,fun q hq=>?_⟩,⟨fun b o z hb=>?_,fun q hq=>?_,fun b z=>?_⟩⟩
 ·exact List.pairwise_append.mpr ⟨h.up,Zs,fun x hx y hy=>by rw[Zms.mp hy];exact hu x hx⟩
 ·rcases Zma.mp hq with m | m
  ·exact t _ _ (h.dd q m)
  ·rw[Zms.mp m];exact t _ _ hd
 ·rw[aD fun w=>hb (by rw[w];simp [DA.fix])];exact k1 _ _ z
 ·rcases Zma.mp hq with m | m
  ·exact .inl (List.mem_map_of_mem m)
  ·rw[Zms.mp m];exact .inr hp
 ·by_cases q:b=a.rn
  ·rw[q,aA]at z;cases z
  ·rw[aD q]at z;exact Same.gr k1 b z
theorem DAt.rdrop {pre post:List Rn} {r:Rn} (h:DAt c H a s) (hs:s.runs=pre++r::post):DAt c (aH H a.rn (.dK (aV (pre++post)))) a {s with runs:=pre++post }/\Mv a s {s with runs:=pre++post } H (aH H a.rn (.dK (aV (pre++post)))):=by
 obtain⟨bs,ss,ho,d1,d2⟩:=h.own
 have grn:=ho.get 10 rfl
 have t:TK H (aH H a.rn (.dK (aV (pre++post)))):=fE grn fun _ z=>nomatch z
 have ho1:=ho.set 10 rfl (.dK (aV (pre++post)))
 have sub:(pre++post).Sublist s.runs:=by rw[hs];exact List.Sublist.append_left (List.sublist_cons_self _ _) _
 have e:(a.all c s bs ss).set 10 (a.rn,.dK (aV (pre++post)))=a.objs c {s with runs:=pre++post } bs ss++s.runs.map (oB c):=rfl
 rw[e]at ho1;have ho2:Own _ (a.all c {s with runs:=pre++post } bs ss):=ho1.sub (List.Sublist.append_left (sub.map _) _)
 refine⟨⟨⟨bs,ss,ho2,d1.keep t,d2.keep t⟩,h.nd,h.up.sublist sub,fun q hq=>t _ _ (h.dd q (sub.subset hq))⟩,⟨fun b o z hb=>?_,fun q hq=>.inl (List.mem_map_of_mem (sub.subset hq)),fun b z=>?_⟩⟩
 ·rw[aD fun w=>hb (by rw[w];simp [DA.fix])];exact z
 ·by_cases q:b=a.rn
  ·rw[q,aA]at z;cases z
  ·rw[aD q]at z;exact z
def lI (p dx:Addr) (n:Nat) (q:Str × Str) (d:Addr) (x:Dd) (st:Str):Rn:=⟨p,dx,n,q,d,x,st,0,0⟩
def Oi (c:CK):Sp:=fun vs H Q _=>∃(a:DA) (s:DS) (n:Nat) (q:Str × Str) (d:Addr) (x:Dd) (st:Str),vs=[.ref a.me,.int n,.str q.1,.str q.2,.ref d,.str st]/\DAt c H a s/\s.L<=500/\(∀n' d',s.m q≠some (.busy n' d'))/\H d=some (.tup x.vs)/\(∀r∈s.runs,r.n<n)/\s.runs.length<=500 ∧
 ∀p dx H',DAt c H' a {s with m:=s.m.set q (some (.busy n d)),L:=s.L+1,runs:=s.runs++[lI p dx n q d x st] }->Mv a s {s with m:=s.m.set q (some (.busy n d)),L:=s.L+1,runs:=s.runs++[lI p dx n q d x st] } H H'->Q .non H'
theorem Sr {c:CK} (BM:Ia K c.M) (c_Keys_begin:cT P w K mg base 1 c.Ks "begin" ["self","asker","key","number","deed"] (zV c.Ks)) (c_Run:tY P w K mg base 1 "Run" c.R ["self","number","asker","key","deed","stage"] [] (Ib c.R)) (D:MethAt K c.M "put" "Memory.put" fO ["self","number","asker","key","deed","stage"]) :
  cT P w K mg base 3 c.M "put" ["self","number","asker","key","deed","stage"] (Oi c):=by
 refine D.go pX (fun vs H Q E h=>?_) (fun f cdv A outer s H vs Q E hr h=>?_)
 ·obtain⟨a,s,n,q,d,x,st,rfl,_⟩:=h;rfl
 ·obtain⟨a,s,n,q,d,x,st,rfl,h,hL,hm,hd,hu,hl,q0⟩:=h
  have hu1:=cS hr
  have hr_Keys_begin:Room 1 _:=hr.mono Zd
  have hr_Run:=hr
  refine⟨_,(R.ad (R.bo (R.bc c_Keys_begin hr_Keys_begin (R.aq (K:=K) (R.v 0)) (R.aa (R.v 2) (R.aa (R.v 3) (R.aa (R.v 1) (R.aa (R.v 4) R.ab)))))) (R.ae (R.bz (R.cw c_Run hr_Run rfl (R.aa (R.v 1) (R.aa (R.v 2) (R.aa (R.v 3) (R.aa (R.v 4) (R.aa (R.v 5) R.ab)))))) (R.ce (R.aq (K:=K) (R.v 0)) (R.v 1) (R.cc hu1))))),?_⟩
  refine⟨c.M,_,_,.ref a.ks,h.me,BM.cl,BM.nS,by kernel_rfl,a.kf.dx,_,h.ks,uZ _ _ Zk Zk Zk,a.ks,a.kf,s.life,s.m,s.L,q,n,d,rfl,h.ky,hL,hm,fun H1 k1 f1=>?_⟩
  obtain⟨h1,v1⟩:=h.keys k1 f1
  dsimp only [aJ];intro p dx hp hdx hne;refine⟨lI p dx n q d x st,rfl,rfl,rfl,aA,rfl,?_⟩
  obtain⟨h2,v2⟩:=h1.radd (r:=lI p dx n q d x st) hp hdx hne (v1.tk h _ _ hd) hu
  show Ph _ _ _ _ _ (aH (aH (aH H1 dx (.own p)) p (.ins c.R dx [])) p (.ins c.R dx (lI p dx n q d x st).fs)) _
  rw[gV];have gme:(aH (aH H1 dx (.own p)) p (.ins c.R dx (lI p dx n q d x st).fs)) a.me=some (.ins c.M a.mx (mf a s.turn s.next)):=by rw[aD (aE h1.me hp),aD (aE h1.me hdx)];exact h1.me
  have grn:(aH (aH H1 dx (.own p)) p (.ins c.R dx (lI p dx n q d x st).fs)) a.rn=some (.dK (aV s.runs)):=by rw[aD (aE h1.rn hp),aD (aE h1.rn hdx)];exact h1.rn
  refine⟨c.M,_,_,.ref a.rn,gme,BM.cl,BM.nR,by kernel_rfl,a.rn,_,rfl,DPut.k (k:=Sum.inl (n:Int)) grn (by unfold aV;rw[bN];exact wH hl Zd),?_⟩
  rw[fV _ (Cr hu)];have e:aV s.runs++[(Sum.inl (n:Int),V.ref p)]=aV (s.runs++[lI p dx n q d x st]):=by unfold aV;rw[iG];rfl
  rw[e];exact q0 p dx _ h2 (v1.trans v2)
def vS (c:CK):Sp:=fun vs H Q _=>∃(a:DA) (s:DS) (q:Str × Str) (d:Addr) (x:Dd),vs=[.ref a.me,.str q.1,.str q.2,.ref d]/\DAt c H a s/\s.L<=500/\(∀n' d',s.m q≠some (.busy n' d'))/\H d=some (.tup x.vs)/\(∀r∈s.runs,r.n<s.next)/\s.runs.length<=500 ∧
 ∀p dx H',DAt c H' a {s with m:=s.m.set q (some (.busy s.next d)),L:=s.L+1,runs:=s.runs++[lI p dx s.next q d x "new"],next:=s.next+1 }->Mv a s {s with m:=s.m.set q (some (.busy s.next d)),L:=s.L+1,runs:=s.runs++[lI p dx s.next q d x "new"],next:=s.next+1 } H H'->Q (.int s.next) H'
theorem Ct {c:CK} (BM:Ia K c.M) (c_Memory_put:cT P w K mg base 3 c.M "put" ["self","number","asker","key","deed","stage"] (Oi c)) (D:MethAt K c.M "begin" "Memory.begin" dQ ["self","asker","key","deed"]):cT P w K mg base 4 c.M "begin" ["self","asker","key","deed"] (vS c):=by
 refine D.go iK (fun vs H Q E h=>?_) (fun f cdv A outer s H vs Q E hr h=>?_)
 ·obtain⟨a,s,q,d,x,rfl,_⟩:=h;rfl
 ·obtain⟨a,s,q,d,x,rfl,h,hL,hm,hd,hu,hl,q0⟩:=h
  have hr_Memory_put:=hr
  refine⟨_,(R.ad (R.av (i:=4) iK.nd (R.aq (K:=K) (R.v 0))) (R.ad (R.aw (K:=K) (R.v 0) (R.op R.ba (R.v 4) R.ac)) (R.ad (R.bo (R.bc c_Memory_put hr_Memory_put (R.v 0) (R.aa (R.v 4) (R.aa (R.v 1) (R.aa (R.v 2) (R.aa (R.v 3) (R.aa R.ah R.ab))))))) (R.ae (R.af (R.v 4)))))),?_⟩
  refine⟨c.M,_,_,.int s.next,h.me,BM.cl,BM.nN,by kernel_rfl,?_⟩
  dsimp only [aJ];refine⟨c.M,a.mx,_,h.me,BM.cl,BM.nN,(by show 5<1000;decide),?_⟩
  dsimp only;rw[show bG "next_number" (.int (s.next+1)) (mf a s.turn s.next)=mf a s.turn ((s.next+1:Nat):Int) by kernel_rfl]
  obtain⟨h1,v1⟩:=h.put (H':=aH H a.me (.ins c.M a.mx (mf a s.turn ((s.next+1:Nat):Int)))) 4 {s with next:=s.next+1 } (fun _ _=>rfl) (fun _ _=>rfl) aA (fun b u e hb=>by rw[aD hb];exact e) rfl rfl h.nd rfl
  generalize aH H a.me (.ins c.M a.mx (mf a s.turn ((s.next+1:Nat):Int)))=H1 at h1 v1 ⊢;refine⟨a.mx,_,h1.me,by kernel_rfl,a,_,s.next,q,d,x,"new",rfl,h1,hL,hm,v1.tk h _ _ hd,hu,hl,fun p dx H2 h2 v2=>?_⟩
  exact q0 p dx H2 h2 (v1.trans v2)
def fF:Dd->List Str
 | .add a _=>[a]
 | .take a _=>[a]
 | .move a b _=>pB [a,b]
 | .send _ a _=>[a]
 | .fetch _ a _=>[a]
 | .pass _ _ _ _=>[]
theorem Af (x:Dd):∃tA one other nm n,vN one other nm n x.vs (.tp ((fF x).map sS)) tA:=by
 cases x with
 | add a n=>exact⟨_,a,a,a,_,.add⟩
 | take a n=>exact⟨_,a,a,a,_,.take⟩
 | move a b n=>exact⟨_,a,b,a,_,.move⟩
 | send g a n=>exact⟨_,g,a,a,_,.send⟩
 | fetch g a n=>exact⟨_,g,a,a,_,.fetch⟩
 | pass g g' a n=>exact⟨_,g,g',a,_,.pass⟩
theorem vT {H:Hp} {ss:List Str} {v:V} (h:RepT H 1 (.tp (ss.map sS)) v):∃z,v=.ref z/\H z=some (.tup (ss.map V.str)):=by
 obtain⟨z,xs,rfl,g,p⟩:=h
 refine⟨z,rfl,?_⟩
 have:∀ {ss:List Str} {xs:List V},Paired (RepT H 0) (ss.map sS) xs->xs=ss.map V.str:=by
  intro ss;induction ss with
  | nil=>intro xs h;cases h;rfl
  | cons t ts ih=>
   intro xs h;cases h with
   | cons h1 h2=>rw[ih h2,h1.1];rfl
 rw[g,this p]
def gE (x y:Dd):Bool:=(fF x).any fun z=>decide (z∈fF y)
def bM (r r':Rn):Bool:=!decide (r'.st="new")&&gE r.x r'.x
theorem vU (z:Str) (ss:List Str):rY (.str z) (ss.map V.str)=decide (z∈ss):=by
 induction ss with
 | nil=>rfl
 | cons s ss ih=>
  have e:rY (.str z) ((s::ss).map V.str)=(decide (s=z)||rY (.str z) (ss.map V.str)):=by
   unfold rY;rw[List.map_cons,List.any_cons];congr 1
  rw[e,ih,<- Bool.decide_or];congr 1
  rw[List.mem_cons];exact propext ⟨fun h=>h.imp Eq.symm id,fun h=>h.imp Eq.symm id⟩
theorem Cu (x:Dd):(fF x).length<=2:=by
 cases x <;> simp [fF,kY]
def Ic (C:Addr):Sp:=fun vs H Q _=>∃(r r':Rn),vs=[.ref r.p,.ref r'.p]/\H r.p=some (.ins C r.dx r.fs)/\H r'.p=some (.ins C r'.dx r'.fs)/\H r.d=some (.tup r.x.vs)/\H r'.d=some (.tup r'.x.vs)/\∀H',Same H H'->Q (.bl (bM r r')) H'
theorem Ml {C:Addr} (T:Txt K mg) (B:Ja K C) (c_names_of:aI P w K mg base 1 "names_of" ["deed"] rD) (D:MethAt K C "is_held_up_by" "Run.is_held_up_by" bL ["self","other"]):cT P w K mg base 2 C "is_held_up_by" ["self","other"] (Ic C):=by
 refine D.go iZ (fun vs H Q E h=>?_) (fun f cdv A outer s H vs Q E hr h=>?_)
 ·obtain⟨r,r',rfl,_⟩:=h;rfl
 ·obtain⟨r,r',rfl,hp,hp',hd,hd',q⟩:=h
  have hr_names_of:=hr
  refine⟨_,(R.ad (R.ar (R.aj R.eq (R.aq (K:=K) (R.v 1)) R.ah) (R.ae (R.af R.bl)) R.au) (R.ae (R.af (R.ax (R.ir (K:=K) rfl) rfl T.b_any Rj (R.aa (R.bi rfl (js:=[none,some 1]) (N:=["name","other"]) (CompScope.by (aB bL) ["self","other"] rfl rfl Zk) (aO rfl) (R.cq (K:=K) (R.fn c_names_of hr_names_of rfl (R.aa (R.aq (K:=K) (R.v 0)) R.ab))) (fun C s₂ H₂ fp=>⟨(R.gn (i:=0) (show(["name","other"]:List Str).Nodup by decide +kernel)),R.br,(R.bv (R.dj (K:=K)) (R.v 0) (R.fn c_names_of hr_names_of rfl (R.aa (R.aq (K:=K) (R.v 1)) R.ab)))⟩)) R.ab))))),?_⟩
  refine⟨C,_,_,.str r'.st,hp',B.cl,B.nS,by kernel_rfl,?_⟩
  show if decide (r'.st="new")=true then _ else _
  refine fX (fun hb=>?_) (fun hb=>?_)
  ·have h:=q H (Same.refl H)
   unfold bM at h;rw[hb]at h;exact h
  ·obtain⟨tA,one,other,nm,n,hr1⟩:=Af r.x
   obtain⟨tA',one',other',nm',n',hr2⟩:=Af r'.x
   refine⟨C,_,_,.ref r.d,hp,B.cl,B.nD,by kernel_rfl,r.d,_,_,_,_,_,_,_,rfl,hd,hr1,fun v H1 s1 hv=>?_⟩
   obtain⟨t,rfl,gt⟩:=vT hv
   have hl:=Cu r.x
   refine⟨t,rfl,⟨_,SqT.of gt⟩,?_⟩
   refine bB (gX K t ((fF r.x).map V.str)) (by rw[bN];omega) (fun j ys H'=>ys=((fF r.x).take j).map (fun z=>V.bl (decide (z∈fF r'.x)))/\Same H1 H') (fun j ys H' ⟨e,s'⟩=>⟨SqT.of (s' _ _ gt),by rw[e,bN,oC];omega⟩) ⟨rfl,Same.refl _⟩ (fun j y ys H' hy ⟨e,s'⟩=>?_) (fun ys H' ⟨e,s'⟩=>?_)
   ·rw[gQ]at hy;obtain⟨z,hz,rfl⟩:=Option.map_eq_some_iff.mp hy
    have k':=s1.trans s'
    dsimp only [aJ];refine⟨C,_,_,.ref r'.d,k' _ _ hp',B.cl,B.nD,by kernel_rfl,r'.d,_,_,_,_,_,_,_,rfl,k' _ _ hd',hr2,fun v2 H2 s2 hv2=>?_⟩
    obtain⟨t2,rfl,gt2⟩:=vT hv2
    refine⟨t2,_,rfl,.inr (SqT.of gt2),rfl,by simp [eN],?_,s'.trans s2⟩
    rw[aY hz,iG,e];show _++[V.bl (rY (.str z) ((fF r'.x).map V.str))]=_
    rw[vU];rfl
   ·rw[bN,List.take_length]at e;intro l hlf;refine⟨l,(fF r.x).map fun z=>decide (z∈fF r'.x),rfl,SqL.of (by rw[aA,e,List.map_map];rfl),?_⟩
    have h:=q _ ((s1.trans s').trans (aF (o:=.lst ys) hlf))
    unfold bM gE at h;rw[hb,Bool.not_false,Bool.true_and]at h;rw[List.any_map];exact h
end
end KL
namespace KL
open PySem L2
section
variable {P:Program} {w:World} {K:W.Frag} {mg:Str->Option Value} {base:Heap}
theorem fA:∀ {xs ys:List Int},xs.Pairwise (·<=·)->ys.Pairwise (·<=·)->xs.Perm ys->xs=ys
 | [],ys,_,_,p=>(List.nil_perm.mp p).symm
 | x::xs,[],_,_,p=>absurd (List.perm_nil.mp p) Zs
 | x::xs,y::ys,h1,h2,p=>by
  have a1:=List.pairwise_cons.mp h1
  have a2:=List.pairwise_cons.mp h2
  have e:x=y:=by
   have hx:x∈y::ys:=p.mem_iff.mp pR
   have hy:y∈x::xs:=p.mem_iff.mpr pR
   rcases List.mem_cons.mp hx with z | z
   ·exact z
   ·rcases List.mem_cons.mp hy with z' | z'
    ·exact z'.symm
    ·have:=a2.1 _ z;have:=a1.1 _ z';omega
  subst e;rw[fA a1.2 a2.2 ((List.perm_cons x).mp p)]
def eB (s:DS) (r:Rn):List Rn:=s.runs.filter fun r'=>bM r r'
def Id (c:CK):Sp:=fun vs H Q _=>∃(a:DA) (s:DS) (pre post:List Rn) (r:Rn),vs=[.ref a.me,.ref r.p]/\DAt c H a s/\s.runs=pre++r::post/\s.runs.length<64 ∧
 (∀r' rest,eB s r=r'::rest->∀t H',Same H H'->H' t=some (.tup [.str "waits",.int r'.n])->Q (.ref t) H') ∧
 (eB s r=[]->∀t H',DAt c H' a {s with runs:=pre++{r with st:="held" }::post }->Mv a s {s with runs:=pre++{r with st:="held" }::post } H H'->H' t=some (.tup [.str "holds"])->Q (.ref t) H')
theorem Mm {c:CK} (T:Txt K mg) (BM:Ia K c.M) (BR:Ja K c.R) (c_Run_is_held_up_by:cT P w K mg base 2 c.R "is_held_up_by" ["self","other"] (Ic c.R)) (D:MethAt K c.M "hold" "Memory.hold" cW ["self","run"]):cT P w K mg base 3 c.M "hold" ["self","run"] (Id c):=by
 refine D.go jA (fun vs H Q E h=>?_) (fun f cdv A outer s H vs Q E hr h=>?_)
 ·obtain⟨a,s,pre,post,r,rfl,_⟩:=h;rfl
 ·obtain⟨a,s,pre,post,r,rfl,h,hs,hl,qw,q0⟩:=h
  have hu1:=cS hr
  have hr_Run_is_held_up_by:=hr
  have hrm:r∈s.runs:=by rw[hs];simp
  refine⟨_,(R.ad (R.dm (i:=2) jA.nd rfl (Or.inl rfl) rfl (js:=[none,some 0,some 1]) (N:=["other","self","run"]) (CompScope.by (aB cW) ["self","run","holders"] rfl rfl Zk) (aO rfl) (R.bf (K:=K) (R.ax (R.cp rfl) rfl T.b_sorted cO (R.aa (R.aq (K:=K) (R.v 0)) R.ab))) (fun C s₂ H₂ fp=>⟨(R.gn (i:=0) (show(["other","self","run"]:List Str).Nodup by decide +kernel)),(R.bt (R.bn (R.bc c_Run_is_held_up_by hr_Run_is_held_up_by (R.v 2) (R.aa (R.bh hu1 (R.aq (K:=K) (R.v 1)) (R.v 0)) R.ab)))),(R.v 0)⟩) rfl) (R.ad (R.ar (R.aj R.gt (R.ax (R.bw (K:=K)) rfl T.b_len cH (R.aa (R.v 2) R.ab)) R.ac) (R.ae (R.af (R.ap (R.aa R.ah (R.aa (R.ix (R.be (K:=K)) (R.v 2) R.ac) R.ab))))) R.au) (R.ad (R.aw (K:=K) (R.v 1) R.ah) (R.ae (R.af (R.ap (R.aa R.ah R.ab))))))),?_⟩
  refine⟨c.M,_,_,.ref a.rn,h.me,BM.cl,BM.nR,by kernel_rfl,s.runs.map fun r=>(r.n:Int),_,.inl h.rn,by unfold aV;rw[List.map_map,List.map_map];rfl,by rw[bN];exact hl,fun l ns hlf hp hso=>⟨l,rfl,⟨_,SqL.of aA⟩,?_⟩⟩
  have ens:ns=s.runs.map fun r=>(r.n:Int):=fA hso (List.pairwise_map.mpr (h.up.imp fun z=>by omega)) hp
  subst ens;have k1:=aF (o:=.lst ((s.runs.map fun r=>(r.n:Int)).map V.int)) hlf
  have gl:(aH H l (.lst ((s.runs.map fun r=>(r.n:Int)).map V.int))) l=some (.lst ((s.runs.map fun r=>(r.n:Int)).map V.int)):=aA
  generalize aH H l (.lst ((s.runs.map fun r=>(r.n:Int)).map V.int))=H1 at k1 gl ⊢
  have eL:((s.runs.map fun r=>(r.n:Int)).map V.int).length=s.runs.length:=by rw[bN,bN]
  have h1:=h.same k1
  refine bB (bR K l ((s.runs.map fun r=>(r.n:Int)).map V.int)) (by rw[eL];omega) (fun i ys H'=>Same H1 H'/\ys=((s.runs.take i).filter fun r'=>bM r r').map fun r'=>V.int (r'.n:Int)) (fun i ys H' ⟨e1,e2⟩=>⟨SqL.of (e1 _ _ gl),by rw[e2,bN];exact fU (List.length_filter_le _ _) (by rw[oC];omega)⟩) ⟨Same.refl _,rfl⟩ (fun i x ys H' hx ⟨e1,e2⟩=>?_) (fun ys H' ⟨e1,e2⟩=>?_)
  ·rw[List.map_map,gQ]at hx;obtain⟨r',hr',rfl⟩:=Option.map_eq_some_iff.mp hx
   have hm:=kK hr'
   have h2:=h1.same e1
   dsimp only [aJ];have dg:=DGet.k (k:=Sum.inl (r'.n:Int)) h2.rn
   rw[lH h.up hm]at dg;refine⟨r.dx,_,h2.run hrm,by kernel_rfl,c.M,_,_,.ref a.rn,h2.me,BM.cl,BM.nR,by kernel_rfl,a.rn,.ref r'.p,rfl,dg,r,r',rfl,h2.run hrm,h2.run hm,h2.dd r hrm,h2.dd r' hm,fun H3 s3=>?_⟩
   rw[aY hr',List.filter_append,iG,e2];show if bM r r'=true then _ else _
   refine fX (fun hb=>?_) (fun hb=>?_)
   ·exact⟨e1.trans s3,by rw[List.filter_cons,if_pos hb];rfl⟩
   ·exact⟨e1.trans s3,by rw[List.filter_cons,if_neg (by rw[hb];exact Bool.false_ne_true)];simp⟩
  ·rw[eL,List.take_length]at e2;intro l2 hl2;dsimp only [aJ];have k2:=(k1.trans e1).trans (aF (o:=.lst ys) hl2)
   have gl2:(aH H' l2 (.lst ys)) l2=some (.lst ys):=aA
   generalize aH H' l2 (.lst ys)=H2 at k2 gl2 ⊢;have h2:=h.same k2
   refine⟨_,.inl (SqL.of gl2),?_⟩
   cases hh:eB s r with
   | nil=>
    have ey:ys=[]:=by rw[e2];show(eB s r).map _=_;rw[hh];rfl
    subst ey;refine⟨c.R,r.dx,_,h2.run hrm,BR.cl,BR.nS,(by show 7<1000;decide),?_⟩
    dsimp only;rw[show bG "stage" (.str "held") r.fs={r with st:="held" }.fs by kernel_rfl]
    obtain⟨h3,v3⟩:=h2.rput (r':={r with st:="held" }) hs rfl rfl rfl rfl
    exact⟨bH rfl,fun t H3 k3 gt=>q0 hh t H3 (h3.same k3) (((Mv.same k2).trans v3).trans (.same k3)) gt⟩
   | cons r' rest=>
    have ey:ys=.int (r'.n:Int)::rest.map fun r'=>V.int (r'.n:Int):=by rw[e2];show(eB s r).map _=_;rw[hh];rfl
    subst ey;show if decide (0<((V.int (r'.n:Int)::rest.map fun r'=>V.int (r'.n:Int)).length:Int))=true then _ else _
    refine xH (by rw[decide_eq_true];simp) ?_
    exact⟨_,SqL.of gl2,.int (r'.n:Int),gA (show(V.int (r'.n:Int)::_)[0]?=some _ from rfl),bH rfl,fun t H3 k3 gt=>qw r' rest hh t H3 (k2.trans k3) gt⟩
def Ie (c:CK):Sp:=fun vs H Q _=>∃(a:DA) (s:DS) (pre post:List Rn) (r:Rn) (w:Int) (z:Addr) (y:An),vs=[.ref a.me,.int r.n,.int w,.ref z]/\DAt c H a s/\s.runs=pre++r::post/\H z=some (.tup y.vs)/\An.Of r.x y/\(∀q∈wF r.x y,Ht s.prs q)/\s.prs.length<=90/\s.L<=500/\s.m r.q=some (.busy r.n r.d) ∧
 ∀t H',DAt c H' a {s with runs:=pre++post,prs:=iN s.prs (wF r.x y),m:=s.m.set r.q (some (.kept r.n w r.d z)),L:=s.L+1 }->Mv a s {s with runs:=pre++post,prs:=iN s.prs (wF r.x y),m:=s.m.set r.q (some (.kept r.n w r.d z)),L:=s.L+1 } H H'->H' t=some (.tup [.int r.n,.str r.q.1,.str r.q.2,.ref z])->Q (.ref t) H'
theorem Mn {c:CK} (BM:Ia K c.M) (BR:Ja K c.R) (BB:Nv K c.B) (c_changes_of:aI P w K mg base 2 "changes_of" ["deed","answer"] Hr) (c_Book_change:cT P w K mg base 2 c.B "change" ["self","changes"] (mU c.B)) (c_Keys_settle:cT P w K mg base 2 c.Ks "settle" ["self","asker","key","turn","answer"] (vA c.Ks)) (D:MethAt K c.M "end" "Memory.end" fP ["self","number","turn","answer"]) :
  cT P w K mg base 3 c.M "end" ["self","number","turn","answer"] (Ie c):=by
 refine D.go jV (fun vs H Q E h=>?_) (fun f cdv A outer s H vs Q E hr h=>?_)
 ·obtain⟨a,s,pre,post,r,w',z,y,rfl,_⟩:=h;rfl
 ·obtain⟨a,s,pre,post,r,w',z,y,rfl,h,hs,hz,hof,hg,hp90,hL,hm,q0⟩:=h
  have hr_changes_of:=hr
  have hr_Book_change:=hr
  have hr_Keys_settle:=hr
  have hrm:r∈s.runs:=by rw[hs];simp
  refine⟨_,(R.ad (R.av (i:=4) jV.nd (R.eg (R.aq (K:=K) (R.v 0)) (R.v 1))) (R.ad (R.bo (R.bc c_Book_change hr_Book_change (R.aq (K:=K) (R.v 0)) (R.aa (R.fn c_changes_of hr_changes_of rfl (R.aa (R.aq (K:=K) (R.v 4)) (R.aa (R.v 3) R.ab))) R.ab))) (R.ad (R.bo (R.bc c_Keys_settle hr_Keys_settle (R.aq (K:=K) (R.v 0)) (R.aa (R.aq (K:=K) (R.v 4)) (R.aa (R.aq (K:=K) (R.v 4)) (R.aa (R.v 2) (R.aa (R.v 3) R.ab)))))) (R.ae (R.af (R.ap (R.aa (R.v 1) (R.aa (R.aq (K:=K) (R.v 4)) (R.aa (R.aq (K:=K) (R.v 4)) (R.aa (R.v 3) R.ab)))))))))),?_⟩
  refine⟨c.M,_,_,.ref a.rn,h.me,BM.cl,BM.nR,by kernel_rfl,a.rn,rfl,.inl ⟨_,.inl h.rn⟩,_,Sum.inl (r.n:Int),.ref r.p,h.rn,rfl,lH h.up hrm,?_⟩
  rw[hs,Cs (by rw[<- hs];exact h.up)]
  obtain⟨h1,v1⟩:=h.rdrop hs
  have nrp:r.p≠a.rn:=aK (h.run hrm) h.rn fun z=>nomatch z
  have gr1:(aH H a.rn (.dK (aV (pre++post)))) r.p=some (.ins c.R r.dx r.fs):=by rw[aD nrp];exact h.run hrm
  have hz1:=v1.tk h _ _ hz
  have hd1:=v1.tk h _ _ (h.dd r hrm)
  generalize aH H a.rn (.dK (aV (pre++post)))=H1 at h1 v1 gr1 hz1 hd1 ⊢;dsimp only [aJ];refine⟨c.M,_,_,.ref a.bk,h1.me,BM.cl,BM.nB,by kernel_rfl,a.bx,_,h1.bk,by kernel_rfl,c.R,_,_,.ref r.d,gr1,BR.cl,BR.nD,by kernel_rfl,r.d,z,r.x,y,rfl,hd1,hz1,hof,fun tp zs H2 s2 gtp hza hzs=>?_⟩
  have h2:=h1.same s2
  have hzl:zs.length<=2:=by
   have:=congrArg List.length hzs
   rw[bN]at this;rw[this];cases r.x <;> cases y <;> simp [wF]
  refine⟨a.bk,a.bx,a.bd,tp,s.prs,zs,rfl,h2.bk,h2.bd,h.nd,gtp,hza,Zo,by rw[hzs];exact hg,fun H3 g3 k3=>?_⟩
  rw[hzs]at g3;obtain⟨h3,v3⟩:=h2.put (H':=H3) 6 {s with runs:=pre++post,prs:=iN s.prs (wF r.x y) } (fun _ _=>rfl) (fun _ _=>rfl) g3 k3 rfl rfl (oI _ _ h.nd) rfl
  have gr3:=k3 _ _ (s2 _ _ gr1) (aK (s2 _ _ gr1) h2.bd fun z=>nomatch z)
  refine⟨c.M,_,_,.ref a.ks,h3.me,BM.cl,BM.nS,by kernel_rfl,a.kf.dx,_,h3.ks,uZ _ _ Zk Zk Zk,c.R,_,_,.str r.q.1,gr3,BR.cl,BR.nA,by kernel_rfl,c.R,_,_,.str r.q.2,gr3,BR.cl,BR.nK,by kernel_rfl,a.ks,a.kf,s.life,s.m,s.L,r.q,r.n,r.d,w',z,rfl,h3.ky,hL,hm,fun H4 k4 f4=>?_⟩
  obtain⟨h4,v4⟩:=h3.keys k4 f4
  have gr4:H4 r.p=some (.ins c.R r.dx r.fs):=by
   have e:=h3.ky
   obtain⟨b1,e1,_⟩:=e.hb
   obtain⟨b2,e2,_⟩:=e.hs
   exact f4 _ _ gr3 (aK gr3 e1 fun z=>nomatch z) (aK gr3 e2 fun z=>nomatch z)
  refine⟨c.R,_,_,.str r.q.1,gr4,BR.cl,BR.nA,by kernel_rfl,c.R,_,_,.str r.q.2,gr4,BR.cl,BR.nK,by kernel_rfl,bH rfl,fun t H5 s5 gt=>q0 t H5 (h4.same s5) ((((v1.trans (.same s2)).trans v3).trans v4).trans (.same s5)) gt⟩
end
end KL
namespace KL
open PySem L2
section
variable {P:Program} {w:World} {K:W.Frag} {mg:Str->Option Value} {base:Heap}
theorem Own.rev {H:Hp} {L:List (Addr × HO)} (h:Own H L):Own H L.reverse:=⟨by rw[List.map_reverse];exact List.pairwise_reverse.mpr (h.1.imp fun z=>Ne.symm z),fun q hq=>h.2 q (List.mem_reverse.mp hq)⟩
structure Gw (p:Addr) (H0:Hp) (L:List (Addr × HO)) (H:Hp):Prop where
 own:Own H L
 fr:∀c o,H0 c=some o->c≠p->H c=some o
 nw:∀q∈L,q.1=p∨H0 q.1=none
 hp:∃o,H p=some o
section
variable {p:Addr} {H0 H H':Hp} {L:List (Addr × HO)}
theorem Gw.free (g:Gw p H0 L H) {b:Addr} (hb:H b=none):H0 b=none:=by
 obtain⟨o,e⟩:=g.hp
 cases z:H0 b with
 | none=>rfl
 | some u=>rw[g.fr b u z (fun w=>by rw[w,e]at hb;cases hb)]at hb;cases hb
theorem Gw.same (g:Gw p H0 L H) (k:Same H H'):Gw p H0 L H':=⟨g.own.same k,fun c o e n=>k _ _ (g.fr c o e n),g.nw,let ⟨o,e⟩:=g.hp;⟨o,k _ _ e⟩⟩
theorem Gw.set (g:Gw p H0 L H) (i:Nat) {o:HO} (e:L[i]?=some (p,o)) (o':HO):Gw p H0 (L.set i (p,o')) (aH H p o'):=
 ⟨g.own.set i e o',fun c u z n=>by rw[aD n];exact g.fr c u z n,fun q hq=>(List.mem_or_eq_of_mem_set hq).elim (g.nw q) fun z=>.inl (by rw[z]),⟨o',aA⟩⟩
theorem Gw.add (g:Gw p H0 L H) (M:List (Addr × HO)) (k:Same H H') (hn:(M.map (·.1)).Nodup) (hM:∀q∈M,H q.1=none/\H' q.1=some q.2):Gw p H0 (M++L) H':=by
 have g':=g.same k
 refine⟨⟨?_,fun q hq=>(Zma.mp hq).elim (fun m=>(hM q m).2) (g'.own.2 q)⟩,g'.fr,fun q hq=>(Zma.mp hq).elim (fun m=>.inr (g.free (hM q m).1)) (g.nw q),g'.hp⟩
 rw[iG];refine List.nodup_append.mpr ⟨hn,g.own.1,fun x hx y hy e=>?_⟩
 obtain⟨q,hq,rfl⟩:=Zmm.mp hx
 exact g.own.keys (hM q hq).1 (by rw[e];exact hy)
theorem Gw.add1 (g:Gw p H0 L H) {b:Addr} (o:HO) (hb:H b=none):Gw p H0 ((b,o)::L) (aH H b o):=g.add [(b,o)] (aF hb) Zs (fun q hq=>by rw[Zms.mp hq];exact⟨hb,aA⟩)
end
def Oj (c:CK):Sp:=fun vs H Q _=>∃(p dx:Addr) (life:Int) (t b l o:Addr),vs=[.ref p,.int life,.int 0,.ref t]/\H p=some (.ins c.M dx [])/\H t=some (.tup [.ref b,.ref l,.ref o,.int 1,.int 0])/\H b=some (.lst [])/\H l=some (.lst [])/\H o=some (.lst []) ∧
 ∀(bk bx bd ks rn:Addr) (kf:KF) (bs ss:List (List aZ × V)) (H':Hp),Gw p H [(rn,.dK []),(kf.ds,.dT ss),(kf.db,.dT bs),(ks,.ins c.Ks kf.dx (zS kf life)),(bd,.dK (lZ [])),(bk,.ins c.B bx [("amounts",.ref bd)]),(p,.ins c.M dx [("turn",.int 0),("book",.ref bk),("standing",.ref ks),("runs",.ref rn),("next_number",.int 1)])] H' →
  Dic H' bs (fun _=>none) fB 0->Dic H' ss (fun _=>none) fS 0->Q .non H'
theorem Ss {c:CK} (BM:Ia K c.M) (c_Book:tY P w K mg base 1 "Book" c.B ["self","rows"] [] (tH c.B)) (c_Keys:tY P w K mg base 1 "Keys" c.Ks ["self","life"] [] (zT c.Ks)) (D:ClsAt K mg "Memory" c.M "Memory.__init__" bJ ["self","life","turn","up"] [[]]) :
  ∀d∈([[]]:List (List V)),tY P w K mg base 3 "Memory" c.M ["self","life","turn","up"] d (Oj c):=by
 refine D.go aL (fun vs H Q E h=>?_) (fun f cdv A outer s H vs Q E hr h=>?_)
 ·obtain⟨p,dx,life,t,b,l,o,rfl,_⟩:=h;rfl
 ·obtain⟨p,dx,life,t,b,l,o,rfl,hp,ht,hb,hl,ho,q⟩:=h
  have hr_Book:=hr
  have hr_Keys:=hr
  refine⟨_,(R.ad (R.aw (K:=K) (R.v 0) (R.v 2)) (R.ad (R.aw (K:=K) (R.v 0) (R.cw c_Book hr_Book rfl (R.aa (R.ix (R.ag (K:=K)) (R.v 3) R.ac) R.ab))) (R.ad (R.aw (K:=K) (R.v 0) (R.cw c_Keys hr_Keys rfl (R.aa (R.v 1) R.ab))) (R.ad (R.aw (K:=K) (R.v 0) R.cn) (R.ad (R.aw (K:=K) (R.v 0) (R.ix (R.ag (K:=K)) (R.v 3) R.ac)) (R.ad (R.bq PassesOwn.never rfl (R.bf (K:=K) (R.ix (R.ag (K:=K)) (R.v 3) R.ac)) (R.ca (K:=K) (n:=6) rfl (R.ay (R.gn (i:=4) aL.nd) (R.ay (R.gn (i:=5) aL.nd) (R.ay (R.gn (i:=6) aL.nd) (R.ay (R.gn (i:=7) aL.nd) (R.ay (R.gn (i:=8) aL.nd) (R.ay (R.gn (i:=9) aL.nd) R.cb))))))) (R.ad R.az (R.ae R.az))) (R.ae (R.bq PassesOwn.never rfl (R.bf (K:=K) (R.ix (R.ag (K:=K)) (R.v 3) R.ac)) (R.ca (K:=K) (n:=4) rfl (R.ay (R.gn (i:=4) aL.nd) (R.ay (R.gn (i:=6) aL.nd) (R.ay (R.gn (i:=7) aL.nd) (R.ay (R.gn (i:=8) aL.nd) R.cb))))) (R.ae R.az))))))))),?_⟩
  have g0:Gw p H [(p,.ins c.M dx [])] H:=⟨⟨Zs,fun q hq=>by rw[Zms.mp hq];exact hp⟩,fun _ _ e _=>e,fun q hq=>.inl (by rw[Zms.mp hq]),⟨_,hp⟩⟩
  have ntp:t≠p:=aK ht hp fun z=>nomatch z
  have nbp:b≠p:=aK hb hp fun z=>nomatch z
  have nlp:l≠p:=aK hl hp fun z=>nomatch z
  have nop:o≠p:=aK ho hp fun z=>nomatch z
  refine⟨c.M,dx,[],hp,BM.cl,BM.nT,(by show 0<1000;decide),?_⟩
  dsimp only;rw[show bG "turn" (.int 0) []=([("turn",.int 0)]:List (Str × V)) by kernel_rfl]
  have g1:=g0.set 0 rfl (.ins c.M dx [("turn",.int 0)])
  generalize aH H p (.ins c.M dx [("turn",.int 0)])=H1 at g1 ⊢;refine⟨_,SqT.of (g1.fr _ _ ht ntp),_,rfl,fun bk bx hbk hbx hne=>?_⟩
  have nb:H1 b=some (.lst []):=g1.fr _ _ hb nbp
  refine⟨bk,bx,_,[],rfl,aA,.inr ⟨b,[],rfl,by rw[aD (aE nb hbk),aD (aE nb hbx)];exact nb,(fun _ h=>nomatch h),rfl⟩,List.nodup_nil,Zs,fun H2 bd hbd gbk gbd k2=>⟨rfl,?_⟩⟩
  have s2:Same H1 H2:=fun c o e=>k2 _ _ (by rw[aD (aE e hbk),aD (aE e hbx)];exact e) (aE e hbk)
  have hbd1:H1 bd=none:=by
   cases e:H1 bd with
   | none=>rfl
   | some u=>rw[aD (aE e hbk),aD (aE e hbx),e]at hbd;cases hbd
  have nbk:bd≠bk:=aK gbd gbk fun z=>nomatch z
  have g2:=g1.add [(bd,.dK (lZ [])),(bk,.ins c.B bx [("amounts",.ref bd)])] s2 (by simp [nbk]) (fun q hq=>by
   simp only [List.mem_cons,List.not_mem_nil,or_false]at hq
   rcases hq with rfl | rfl
   ·exact⟨hbd1,gbd⟩
   ·exact⟨hbk,gbk⟩)
  refine⟨c.M,dx,_,g2.own.get 2 rfl,BM.cl,BM.nB,(by show 1<1000;decide),?_⟩
  dsimp only;rw[show bG "book" (.ref bk) ([("turn",.int 0)]:List (Str × V))=([("turn",.int 0),("book",.ref bk)]:List (Str × V)) by kernel_rfl]
  have g3:=g2.set 2 rfl (.ins c.M dx [("turn",.int 0),("book",.ref bk)])
  generalize aH H2 p (.ins c.M dx [("turn",.int 0),("book",.ref bk)])=H3 at g3 ⊢;intro ks kx hks hkx hnk;refine⟨ks,kx,life,rfl,aA,fun H4 kf fdb fds ky k4=>⟨rfl,?_⟩⟩
  have s4:Same H3 H4:=fun c o e=>k4 _ _ (by rw[aD (aE e hks),aD (aE e hkx)];exact e) (aE e hks)
  have fr3:∀d,(aH (aH H3 kx (.own ks)) ks (.ins c.Ks kx [])) d=none->H3 d=none:=fun d hd=>by
   cases e:H3 d with
   | none=>rfl
   | some u=>rw[aD (aE e hks),aD (aE e hkx),e]at hd;cases hd
  obtain⟨bs,gdb,db⟩:=ky.hb
  obtain⟨ss,gds,ds⟩:=ky.hs
  have n1:kf.ds≠kf.db:=ky.ne.symm
  have n2:kf.ds≠ks:=aK gds ky.hp fun z=>nomatch z
  have n3:kf.db≠ks:=aK gdb ky.hp fun z=>nomatch z
  have g4:=g3.add [(kf.ds,.dT ss),(kf.db,.dT bs),(ks,.ins c.Ks kf.dx (zS kf life))] s4 (by simp [n1,n2,n3]) (fun q hq=>by
   simp only [List.mem_cons,List.not_mem_nil,or_false]at hq
   rcases hq with rfl | rfl | rfl
   ·exact⟨fr3 _ fds,gds⟩
   ·exact⟨fr3 _ fdb,gdb⟩
   ·exact⟨hks,ky.hp⟩)
  refine⟨c.M,dx,_,g4.own.get 5 rfl,BM.cl,BM.nS,(by show 2<1000;decide),?_⟩
  dsimp only;rw[show bG "standing" (.ref ks) ([("turn",.int 0),("book",.ref bk)]:List (Str × V))=([("turn",.int 0),("book",.ref bk),("standing",.ref ks)]:List (Str × V)) by kernel_rfl]
  have g5:=g4.set 5 rfl (.ins c.M dx [("turn",.int 0),("book",.ref bk),("standing",.ref ks)])
  have t5:TK H4 (aH H4 p (.ins c.M dx [("turn",.int 0),("book",.ref bk),("standing",.ref ks)])):=fE (g4.own.get 5 rfl) fun _ z=>nomatch z
  generalize aH H4 p (.ins c.M dx [("turn",.int 0),("book",.ref bk),("standing",.ref ks)])=H5 at g5 t5 ⊢;intro rn hrn;have g6:=g5.add1 (.dK []) hrn
  have t6:=t5.trans (TK.of (aF (o:=.dK []) hrn))
  generalize aH H5 rn (.dK [])=H6 at g6 t6 ⊢;refine⟨c.M,dx,_,g6.own.get 6 rfl,BM.cl,BM.nR,(by show 3<1000;decide),?_⟩
  dsimp only;rw[show bG "runs" (.ref rn) ([("turn",.int 0),("book",.ref bk),("standing",.ref ks)]:List (Str × V))=([("turn",.int 0),("book",.ref bk),("standing",.ref ks),("runs",.ref rn)]:List (Str × V)) by kernel_rfl]
  have g7:=g6.set 6 rfl (.ins c.M dx [("turn",.int 0),("book",.ref bk),("standing",.ref ks),("runs",.ref rn)])
  have t7:=t6.trans (fE (g6.own.get 6 rfl) (o':=.ins c.M dx [("turn",.int 0),("book",.ref bk),("standing",.ref ks),("runs",.ref rn)]) fun _ z=>nomatch z)
  generalize aH H6 p (.ins c.M dx [("turn",.int 0),("book",.ref bk),("standing",.ref ks),("runs",.ref rn)])=H7 at g7 t7 ⊢;refine⟨_,SqT.of (g7.fr _ _ ht ntp),_,rfl,?_⟩
  refine⟨c.M,dx,_,g7.own.get 6 rfl,BM.cl,BM.nN,(by show 4<1000;decide),?_⟩
  dsimp only;rw[show bG "next_number" (.int 1) ([("turn",.int 0),("book",.ref bk),("standing",.ref ks),("runs",.ref rn)]:List (Str × V))=([("turn",.int 0),("book",.ref bk),("standing",.ref ks),("runs",.ref rn),("next_number",.int 1)]:List (Str × V)) by kernel_rfl]
  have g8:=g7.set 6 rfl (.ins c.M dx [("turn",.int 0),("book",.ref bk),("standing",.ref ks),("runs",.ref rn),("next_number",.int 1)])
  have t8:=t7.trans (fE (g7.own.get 6 rfl) (o':=.ins c.M dx [("turn",.int 0),("book",.ref bk),("standing",.ref ks),("runs",.ref rn),("next_number",.int 1)]) fun _ z=>nomatch z)
  generalize aH H7 p (.ins c.M dx [("turn",.int 0),("book",.ref bk),("standing",.ref ks),("runs",.ref rn),("next_number",.int 1)])=H8 at g8 t8 ⊢;have gl8:=g8.fr _ _ hl nlp
  have go8:=g8.fr _ _ ho nop
  refine⟨_,SqT.of (g8.fr _ _ ht ntp),_,rfl,l,rfl,⟨_,SqL.of gl8⟩,?_⟩
  refine oJ (tb:=fun _ _ _=>False) (SqL.of gl8) ?_
  refine⟨_,SqT.of (g8.fr _ _ ht ntp),_,rfl,o,rfl,⟨_,SqL.of go8⟩,?_⟩
  exact oJ (tb:=fun _ _ _=>False) (SqL.of go8) (q bk bx bd ks rn kf bs ss H8 g8 (db.keep t8) (ds.keep t8))
end
end KL
namespace KL
open PySem L2
section
variable {P:Program} {w:World} {K:W.Frag} {mg:Str->Option Value} {base:Heap}
theorem Ig {z a:Str} {n:Int} (hz:z="add"∨z="take") (ha:isNm a) (h1:1<=n) (h2:n<=1000000000000):jR [.str z,.str a,.int n]=true:=(DeedIs.one z a n hz ha h1 h2).ok
theorem Ih {z a b:Str} {n:Int} (hz:z="send"∨z="fetch") (ha:isNm a) (hb:isNm b) (h1:1<=n) (h2:n<=1000000000000):jR [.str z,.str a,.str b,.int n]=true:=by
 show(eR (.str z) [.str a,.str b]&&uS 1 1000000000000 (.int n))=true
 have e:eR (.str z) [.str a,.str b]=true:=by
  rcases hz with rfl | rfl
  all_goals
   show(true&&(qT (.str a)&&(qT (.str b)&&true))&&(true||_))=true
   rw[fZ ha,fZ hb];rfl
 rw[e];show(decide (1<=n)&&decide (n<=1000000000000))=true
 rw[decide_eq_true h1,decide_eq_true h2];rfl
theorem Mo {x:Dd} (h:x.Ok):jR x.vs=true:=by
 cases x with
 | add a n=>exact Ig (.inl rfl) h.1 (by have:=h.2.1;omega) (by have:=h.2.2;omega)
 | take a n=>exact Ig (.inr rfl) h.1 (by have:=h.2.1;omega) (by have:=h.2.2;omega)
 | move a b n=>exact(DeedIs.two "move" a b n (.inl rfl) h.1 h.2.1 h.2.2.1 (by have:=h.2.2.2.1;omega) (by have:=h.2.2.2.2;omega)).ok
 | send g a n=>exact Ih (.inl rfl) h.1 h.2.1 (by have:=h.2.2.1;omega) (by have:=h.2.2.2;omega)
 | fetch g a n=>exact Ih (.inr rfl) h.1 h.2.1 (by have:=h.2.2.1;omega) (by have:=h.2.2.2;omega)
 | pass g g' a n=>exact(DeedIs.three g g' a n h.1 h.2.1 h.2.2.1 h.2.2.2.1 (by have:=h.2.2.2.2.1;omega) (by have:=h.2.2.2.2.2;omega)).ok
theorem We {z:Str} (h:isKy z):dW (.str z) (LET++Np) 12=true:=by
 rw[fY,decide_eq_true (by have:=h.1;omega),decide_eq_true (by have:=h.2.1;omega),List.all_eq_true.mpr fun c hc=>decide_eq_true (show c∈LET++Np from h.2.2 c hc)]
 rfl
theorem cM {H:Hp} {z:Str} (h:z.length<=1000):Pt H (.str z):=⟨.str,trivial,fun y e=>by cases e;exact h⟩
theorem mV {H:Hp} {n:Int}:Pt H (.int n):=⟨.int,trivial,fun y e=>nomatch e⟩
theorem Wf {H:Hp} {d:Addr} {x:Dd} (h:x.Ok) (g:H d=some (.tup x.vs)):Th H (.ref d):=by
 refine⟨⟨.tup,⟨_,g⟩,fun y e=>nomatch e⟩,fun a xs e g' y hy=>?_⟩
 cases e
 rw[g]at g';cases g'
 obtain⟨w1,w2,w3,w4,w5,w6⟩:=Fy
 cases x <;> simp only [Dd.vs,List.mem_cons,List.not_mem_nil,or_false]at hy
 case add=>rcases hy with rfl | rfl | rfl <;> first | exact mV | exact cM w1 | exact cM h.1.len
 case take=>rcases hy with rfl | rfl | rfl <;> first | exact mV | exact cM w2 | exact cM h.1.len
 case move=>rcases hy with rfl | rfl | rfl | rfl <;> first | exact mV | exact cM w3 | exact cM h.1.len | exact cM h.2.1.len
 case send=>rcases hy with rfl | rfl | rfl | rfl <;> first | exact mV | exact cM w4 | exact cM h.1.len | exact cM h.2.1.len
 case fetch=>rcases hy with rfl | rfl | rfl | rfl <;> first | exact mV | exact cM w5 | exact cM h.1.len | exact cM h.2.1.len
 case pass=>rcases hy with rfl | rfl | rfl | rfl | rfl <;> first | exact mV | exact cM w6 | exact cM h.1.len | exact cM h.2.1.len | exact cM h.2.2.1.len
structure Mp (K:W.Frag) (C:Addr):Prop where
 cl:Cls K C
 nN:NoAttr K C "name"
 nL:NoAttr K C "life"
 nH:NoAttr K C "houses"
 nJ:NoAttr K C "journal"
 nM:NoAttr K C "memory"
def Wp (name:Str) (life:Int) (hs:List (aZ × V)):DS:=⟨name,life,0,1,hs,[],fun _=>none,0,[],[],0⟩
def Ag (c:CK):Sp:=fun vs H Q _=>∃(p dx l:Addr) (name:Str) (life:Int) (zs:List W),vs=[.ref p,.str name,.int life,.ref l]/\H p=some (.ins c.D dx [])/\isNm name/\name.length<=5/\H l=some (.lst (zs.map fun z=>V.ref z.1))/\Vt H zs/\zs.length<=6 ∧
 ∀(a:DA) (H':Hp),a.dr=p->DAt c H' a (Wp name life (dU [] (zs.map (·.2))))->(∀b∈a.fix,b=p∨H b=none)->(∀b o,H b=some o->b≠p->H' b=some o)->Q .non H'
theorem Ii {c:CK} (T:Txt K mg) (BD:Mp K c.D) (c_is_name:aI P w K mg base 2 "is_name" ["thing"] (lW LET 8)) (c_Journal0:tY P w K mg base 2 "Journal" c.J ["self","text"] [.str ("":Str)] (Og c.J)) (c_risen:aI P w K mg base 5 "risen" ["rows"] Hx) (c_Memory:tY P w K mg base 3 "Memory" c.M ["self","life","turn","up"] [] (Oj c))
  (D:ClsAt K mg "Door" c.D "Door.__init__" bU ["self","name","life","houses"] [[]]):∀d∈([[]]:List (List V)),tY P w K mg base 6 "Door" c.D ["self","name","life","houses"] d (Ag c):=by
 refine D.go mN (fun vs H Q E h=>?_) (fun f cdv A outer s H vs Q E hr h=>?_)
 ·obtain⟨p,dx,l,name,life,zs,rfl,_⟩:=h;rfl
 ·obtain⟨p,dx,l,name,life,zs,rfl,hp,hnm,hn5,hl,hza,hzl,q⟩:=h
  have hr_is_name:Room 2 _:=hr.mono Zd
  have hr_Journal:Room 3 _:=hr.mono Zd
  have hr_risen:Room 5 _:=hr
  have hr_Memory:Room 4 _:=hr.mono Zd
  refine⟨_,(R.ad (R.ar (R.tw (R.cj (R.bp (R.bn (R.fn c_is_name hr_is_name rfl (R.aa (R.v 1) R.ab)))) (R.ck (R.aj R.gt (R.ax R.de rfl T.b_len cH (R.aa (R.v 1) R.ab)) (R.gI rfl T.g_LONGEST_DOOR_NAME))))) (R.ae R.az) R.au) (R.ad (R.aw (K:=K) (R.v 0) (R.v 1)) (R.ad (R.aw (K:=K) (R.v 0) (R.v 2)) (R.ad (R.aw (K:=K) (R.v 0) (R.cm (R.dy (K:=K) rfl) rfl T.b_dict zG (R.aa (R.v 3) R.ab))) (R.ad (R.aw (K:=K) (R.v 0) (R.ia c_Journal0 hr_Journal rfl)) (R.ae (R.aw (K:=K) (R.v 0) (R.cw c_Memory hr_Memory rfl (R.aa (R.v 2) (R.aa R.ac (R.aa (R.fn c_risen hr_risen rfl (R.aa (R.bj R.ab) R.ab)) R.ab))))))))))),?_⟩
  refine⟨.str name,.str,rfl,trivial,fun z e=>by cases e;exact hnm.len,fun H1 s1=>?_⟩
  rw[show dW (.str name) LET 8=true from fZ hnm];refine⟨kB hnm.len,?_⟩
  refine oY (by rw[decide_eq_false];omega) ?_
  have g0:Gw p H [(p,.ins c.D dx [])] H1:=⟨⟨Zs,fun q hq=>by rw[Zms.mp hq];exact s1 _ _ hp⟩,fun _ _ e _=>s1 _ _ e,fun q hq=>.inl (by rw[Zms.mp hq]),⟨_,s1 _ _ hp⟩⟩
  dsimp only [iP];refine⟨c.D,dx,_,s1 _ _ hp,BD.cl,BD.nN,(by show 0<1000;decide),?_⟩
  dsimp only;rw[show bG "name" (.str name) []=([("name",.str name)]:List (Str × V)) by kernel_rfl]
  have g1:=g0.set 0 rfl (.ins c.D dx [("name",.str name)])
  generalize aH H1 p (.ins c.D dx [("name",.str name)])=H2 at g1 ⊢;refine⟨c.D,dx,_,g1.own.get 0 rfl,BD.cl,BD.nL,(by show 1<1000;decide),?_⟩
  dsimp only;rw[show bG "life" (.int life) ([("name",.str name)]:List (Str × V))=([("name",.str name),("life",.int life)]:List (Str × V)) by kernel_rfl]
  have g2:=g1.set 0 rfl (.ins c.D dx [("name",.str name),("life",.int life)])
  generalize aH H2 p (.ins c.D dx [("name",.str name),("life",.int life)])=H3 at g2 ⊢;have nlp:l≠p:=aK hl hp fun z=>nomatch z
  refine⟨zs,SqL.of (g2.fr _ _ hl nlp),fun z hz=>g2.fr _ _ (hza z hz) (aK (hza z hz) hp fun z=>nomatch z),Zo,fun hd hhd=>?_⟩
  have g3:=g2.add1 (.dK (dU [] (zs.map (·.2)))) hhd
  generalize aH H3 hd (.dK (dU [] (zs.map (·.2))))=H4 at g3 ⊢;refine⟨c.D,dx,_,g3.own.get 1 rfl,BD.cl,BD.nH,(by show 2<1000;decide),?_⟩
  dsimp only;rw[show bG "houses" (.ref hd) ([("name",.str name),("life",.int life)]:List (Str × V))=([("name",.str name),("life",.int life),("houses",.ref hd)]:List (Str × V)) by kernel_rfl]
  have g4:=g3.set 1 rfl (.ins c.D dx [("name",.str name),("life",.int life),("houses",.ref hd)])
  generalize aH H4 p (.ins c.D dx [("name",.str name),("life",.int life),("houses",.ref hd)])=H5 at g4 ⊢;intro j jx hj hjx hjn;refine⟨j,jx,rfl,aA,fun H6 jl hjl gj gjl k6=>⟨rfl,?_⟩⟩
  have s6:Same H5 H6:=fun c o e=>k6 _ _ (by rw[aD (aE e hj),aD (aE e hjx)];exact e) (aE e hj)
  have hjl5:H5 jl=none:=by
   cases e:H5 jl with
   | none=>rfl
   | some u=>rw[aD (aE e hj),aD (aE e hjx),e]at hjl;cases hjl
  have njl:jl≠j:=aK gjl gj fun z=>nomatch z
  have g5:=g4.add [(jl,.lst []),(j,.ins c.J jx (jf jl 0))] s6 (by simp [njl]) (fun q hq=>by
   simp only [List.mem_cons,List.not_mem_nil,or_false]at hq
   rcases hq with rfl | rfl
   ·exact⟨hjl5,gjl⟩
   ·exact⟨hj,gj⟩)
  refine⟨c.D,dx,_,g5.own.get 3 rfl,BD.cl,BD.nJ,(by show 3<1000;decide),?_⟩
  dsimp only;rw[show bG "journal" (.ref j) ([("name",.str name),("life",.int life),("houses",.ref hd)]:List (Str × V))=([("name",.str name),("life",.int life),("houses",.ref hd),("journal",.ref j)]:List (Str × V)) by kernel_rfl]
  have g6:=g5.set 3 rfl (.ins c.D dx [("name",.str name),("life",.int life),("houses",.ref hd),("journal",.ref j)])
  generalize aH H6 p (.ins c.D dx [("name",.str name),("life",.int life),("houses",.ref hd),("journal",.ref j)])=H7 at g6 ⊢;refine⟨kJ rfl,fun e he=>?_⟩
  have g7:=g6.same (aF (o:=.lst []) he)
  refine⟨e,rfl,aA,fun t b kl ol H8 s8 gt gb gkl gol=>?_⟩
  have g8:=g7.same s8
  intro me mx hme hmx hmn;have nn:∀ {b u},H8 b=some u->(aH (aH H8 mx (.own me)) me (.ins c.M mx [])) b=some u:=fun e=>by rw[aD (aE e hme),aD (aE e hmx)];exact e
  refine⟨me,mx,life,t,b,kl,ol,rfl,aA,nn gt,nn gb,nn gkl,nn gol,fun bk bx bd ks rn kf bs ss H9 G db ds=>⟨rfl,?_⟩⟩
  have s9:Same H8 H9:=fun b u e=>G.fr _ _ (nn e) (aE e hme)
  have fr8:∀b,(aH (aH H8 mx (.own me)) me (.ins c.M mx [])) b=none->H8 b=none:=fun b e=>by
   cases z:H8 b with
   | none=>rfl
   | some u=>rw[nn z]at e;cases e
  have g9:=g8.add _ s9 G.own.1 fun q hq=>⟨(G.nw q hq).elim (fun e=>by rw[e];exact hme) (fr8 _),G.own.2 q hq⟩
  refine⟨c.D,dx,_,g9.own.get 10 rfl,BD.cl,BD.nM,(by show 4<1000;decide),?_⟩
  dsimp only;rw[show bG "memory" (.ref me) ([("name",.str name),("life",.int life),("houses",.ref hd),("journal",.ref j)]:List (Str × V))=([("name",.str name),("life",.int life),("houses",.ref hd),("journal",.ref j),("memory",.ref me)]:List (Str × V)) by kernel_rfl]
  have t10:TK H9 (aH H9 p (.ins c.D dx [("name",.str name),("life",.int life),("houses",.ref hd),("journal",.ref j),("memory",.ref me)])):=fE (g9.own.get 10 rfl) fun _ z=>nomatch z
  have g10:=g9.set 10 rfl (.ins c.D dx [("name",.str name),("life",.int life),("houses",.ref hd),("journal",.ref j),("memory",.ref me)])
  generalize aH H9 p (.ins c.D dx [("name",.str name),("life",.int life),("houses",.ref hd),("journal",.ref j),("memory",.ref me)])=H10 at t10 g10 ⊢;refine q ⟨p,dx,hd,j,jx,jl,me,mx,bk,bx,bd,ks,rn,kf⟩ H10 rfl ⟨⟨bs,ss,g10.own.rev,db.keep t10,ds.keep t10⟩,List.nodup_nil,List.Pairwise.nil,fun r hr=>nomatch hr⟩ (fun b hb=>?_) g10.fr
  simp only [DA.fix,List.mem_cons,List.not_mem_nil,or_false]at hb
  rcases hb with rfl | rfl | rfl | rfl | rfl | rfl | rfl | rfl | rfl | rfl | rfl
  ·exact .inl rfl
  ·exact g10.nw _ (kK (i:=9) rfl)
  ·exact g10.nw _ (kK (i:=8) rfl)
  ·exact g10.nw _ (kK (i:=7) rfl)
  ·exact g10.nw _ (kK (i:=6) rfl)
  ·exact g10.nw _ (kK (i:=5) rfl)
  ·exact g10.nw _ (kK (i:=4) rfl)
  ·exact g10.nw _ (kK (i:=3) rfl)
  ·exact g10.nw _ (kK (i:=2) rfl)
  ·exact g10.nw _ (kK (i:=1) rfl)
  ·exact g10.nw _ (kK (i:=0) rfl)
end
end KL
namespace KL
open PySem L2
section
variable {P:Program} {w:World} {K:W.Frag} {mg:Str->Option Value} {base:Heap}
def lJ (c:CK):Sp:=fun vs H Q _=>∃(a:DA) (s:DS),vs=[.ref a.dr]/\DAt c H a s/\Q (.ref a.me) H
theorem Ij {c:CK} (BD:Mp K c.D) (D:MethAt K c.D "known" "Door.known" fR ["self"]):cT P w K mg base 1 c.D "known" ["self"] (lJ c):=by
 refine D.go pY (fun vs H Q E h=>?_) (fun f cdv A outer s H vs Q E hr h=>?_)
 ·obtain⟨a,s,rfl,_⟩:=h;rfl
 ·obtain⟨a,s,rfl,h,q⟩:=h
  refine⟨_,(R.ad (R.ar (R.aj R.iu (R.aq (K:=K) (R.v 0)) R.cf) (R.ae R.az) R.au) (R.ae (R.af (R.aq (K:=K) (R.v 0))))),?_⟩
  exact⟨c.D,_,_,.ref a.me,h.dr,BD.cl,BD.nM,by kernel_rfl,c.D,_,_,.ref a.me,h.dr,BD.cl,BD.nM,by kernel_rfl,q⟩
def Ik (H:Hp) (r:Rn) (v:V):Prop:=∃t,v=.ref t/\H t=some (.tup (Wd r))
def Ah (c:CK):Sp:=fun vs H Q _=>∃(a:DA) (s:DS),vs=[.ref a.dr]/\DAt c H a s/\s.runs.length<64/\∀l us H',H l=none->Same H H'->H' l=some (.lst us)->Paired (Ik H') s.runs us->Q (.ref l) H'
theorem Il {c:CK} (T:Txt K mg) (BM:Ia K c.M) (c_Door_known:cT P w K mg base 1 c.D "known" ["self"] (lJ c)) (c_Run_as_tuple:cT P w K mg base 1 c.R "as_tuple" ["self"] (Oh c.R)) (D:MethAt K c.D "under" "Door.under" dR ["self"]):cT P w K mg base 2 c.D "under" ["self"] (Ah c):=by
 refine D.go jW (fun vs H Q E h=>?_) (fun f cdv A outer s H vs Q E hr h=>?_)
 ·obtain⟨a,s,rfl,_⟩:=h;rfl
 ·obtain⟨a,s,rfl,h,hl,q⟩:=h
  have hu1:=cS hr
  have hr_Door_known:=hr
  have hr_Run_as_tuple:=hr
  refine⟨_,(R.ad (R.av (i:=1) jW.nd (R.aq (K:=K) (R.bu c_Door_known hr_Door_known (R.v 0)))) (R.ae (R.af (R.bi rfl (js:=[none,some 1]) (N:=["number","runs"]) (CompScope.by (aB dR) ["self","runs"] rfl rfl Zk) (aO rfl) (R.bf (K:=K) (R.ax (R.cp rfl) rfl T.b_sorted cO (R.aa (R.v 1) R.ab))) (fun C s₂ H₂ fp=>⟨(R.gn (i:=0) (show(["number","runs"]:List Str).Nodup by decide +kernel)),R.br,(R.bu c_Run_as_tuple hr_Run_as_tuple (R.bh hu1 (R.v 1) (R.v 0)))⟩))))),?_⟩
  refine⟨_,_,h.dr,by kernel_rfl,a,s,rfl,h,c.M,_,_,.ref a.rn,h.me,BM.cl,BM.nR,by kernel_rfl,?_⟩
  dsimp only [aJ];refine⟨s.runs.map fun r=>(r.n:Int),_,.inl h.rn,by unfold aV;rw[List.map_map,List.map_map];rfl,by rw[bN];exact hl,fun l ns hlf hp hso=>⟨l,rfl,⟨_,SqL.of aA⟩,?_⟩⟩
  have ens:ns=s.runs.map fun r=>(r.n:Int):=fA hso (List.pairwise_map.mpr (h.up.imp fun z=>by omega)) hp
  subst ens;have k1:=aF (o:=.lst ((s.runs.map fun r=>(r.n:Int)).map V.int)) hlf
  have gl:(aH H l (.lst ((s.runs.map fun r=>(r.n:Int)).map V.int))) l=some (.lst ((s.runs.map fun r=>(r.n:Int)).map V.int)):=aA
  generalize aH H l (.lst ((s.runs.map fun r=>(r.n:Int)).map V.int))=H1 at k1 gl ⊢
  have h1:=h.same k1
  have eL:((s.runs.map fun r=>(r.n:Int)).map V.int).length=s.runs.length:=by rw[bN,bN]
  refine bB (bR K l ((s.runs.map fun r=>(r.n:Int)).map V.int)) (by rw[eL];omega) (fun i ys H'=>Same H1 H'/\ys.length<=i/\Paired (Ik H') (s.runs.take i) ys) (fun i ys H' ⟨e1,e2,_⟩=>⟨SqL.of (e1 _ _ gl),e2⟩) ⟨Same.refl _,cA _,.nil⟩ (fun i x ys H' hx ⟨e1,e2,e3⟩=>?_) (fun ys H' ⟨e1,e2,e3⟩=>?_)
  ·rw[List.map_map,gQ]at hx;obtain⟨r,hr',rfl⟩:=Option.map_eq_some_iff.mp hx
   have hm:=kK hr'
   have h2:=h1.same e1
   dsimp only [aJ];have dg:=DGet.k (k:=Sum.inl (r.n:Int)) h2.rn
   rw[lH h.up hm]at dg;refine⟨a.rn,.ref r.p,rfl,dg,r.dx,_,h2.run hm,by kernel_rfl,r,rfl,h2.run hm,fun t H3 s3 gt=>⟨e1.trans s3,by rw[wC];simpa using e2,?_⟩⟩
   rw[aY hr'];exact Paired.snoc (Paired.map' (fun _ _ ⟨t,e,g⟩=>⟨t,e,s3 _ _ g⟩) e3) ⟨t,rfl,gt⟩
  ·rw[eL,List.take_length]at e3;intro l2 hl2;have s3:=aF (o:=.lst ys) hl2
   exact q l2 ys _ (k1.free (e1.free hl2)) ((k1.trans e1).trans s3) aA (Paired.map' (fun _ _ ⟨t,e,g⟩=>⟨t,e,s3 _ _ g⟩) e3)
def Im (life turn:Int):Option KE->Bool
 | none=>true
 | some (.busy _ _)=>false
 | some (.kept _ w _ _)=>!decide (w+life > turn)
theorem Cv {life turn:Int} {o:Option KE} (h:Im life turn o=true):Oa life turn o=[.str "free"]:=by
 match o,h with
 | none,_=>rfl
 | some (.kept n w d z),h=>
  have h':¬ w+life > turn:=by simpa [Im]using h
  show(if w+life > turn then _ else _)=_
  rw[if_neg h']
structure Yk (K:W.Frag) (C:Addr):Prop where
 cl:Cls K C
 nA:NoAttr K C "amounts"
 nC:NoAttr K C "closed_names"
 nE:NoAttr K C "entries"
def rG (C:Addr):Sp:=fun vs H Q _=>∃p dx:Addr,vs=[.ref p,.non,.non]/\H p=some (.ins C dx [])/\∀H',(∀b o,H b=some o->b≠p->H' b=some o)->(∃o,H' p=some o)->Q .non H'
theorem yD {C:Addr} (B:Yk K C) (D:ClsAt K mg "House" C "House.__init__" bO ["self","rows","closed"] [[.non,.non]]):∀d∈([[.non,.non]]:List (List V)),tY P w K mg base 1 "House" C ["self","rows","closed"] d (rG C):=by
 refine D.go lC (fun vs H Q E h=>?_) (fun f cdv A outer s H vs Q E hr h=>?_)
 ·obtain⟨p,dx,rfl,_⟩:=h;rfl
 ·obtain⟨p,dx,rfl,hp,q⟩:=h
  refine⟨_,(R.ad (R.aw (K:=K) (R.v 0) R.cn) (R.ad (R.aw (K:=K) (R.v 0) R.cn) (R.ad (R.aw (K:=K) (R.v 0) R.cn) (R.ad (R.ar (R.aj R.dl (R.v 1) R.cf) (R.ae R.az) R.au) (R.ae (R.ar (R.aj R.dl (R.v 2) R.cf) (R.ae R.az) R.au)))))),?_⟩
  have step:∀(H:Hp) (fs:List (Str × V)) (d:Addr) (o:HO) (fs':List (Str × V)),H p=some (.ins C dx fs)->H d=none->(aH H d o) p=some (.ins C dx fs)/\(∀b u,H b=some u->b≠p->(aH (aH H d o) p (.ins C dx fs')) b=some u):=fun H fs d o fs' g hd=>
   ⟨by rw[aD (aE g hd)];exact g,fun b u e hb=>by rw[aD hb,aD (aE e hd)];exact e⟩
  intro d1 h1;obtain⟨g1,k1⟩:=step H [] d1 (.dK []) ([("amounts",.ref d1)]:List (Str × V)) hp h1
  refine⟨C,dx,_,g1,B.cl,B.nA,(by show 0<1000;decide),?_⟩
  dsimp only;rw[show bG "amounts" (.ref d1) []=([("amounts",.ref d1)]:List (Str × V)) by kernel_rfl]
  have e1:(aH (aH H d1 (.dK [])) p (.ins C dx [("amounts",.ref d1)])) p=some (.ins C dx [("amounts",.ref d1)]):=aA
  generalize aH (aH H d1 (.dK [])) p (.ins C dx [("amounts",.ref d1)])=H1 at k1 e1 ⊢;intro d2 h2;obtain⟨g2,k2⟩:=step H1 _ d2 (.dK []) ([("amounts",.ref d1),("closed_names",.ref d2)]:List (Str × V)) e1 h2
  refine⟨C,dx,_,g2,B.cl,B.nC,(by show 1<1000;decide),?_⟩
  dsimp only;rw[show bG "closed_names" (.ref d2) ([("amounts",.ref d1)]:List (Str × V))=([("amounts",.ref d1),("closed_names",.ref d2)]:List (Str × V)) by kernel_rfl]
  have e2:(aH (aH H1 d2 (.dK [])) p (.ins C dx [("amounts",.ref d1),("closed_names",.ref d2)])) p=some (.ins C dx [("amounts",.ref d1),("closed_names",.ref d2)]):=aA
  generalize aH (aH H1 d2 (.dK [])) p (.ins C dx [("amounts",.ref d1),("closed_names",.ref d2)])=H2 at k2 e2 ⊢;intro d3 h3;obtain⟨g3,k3⟩:=step H2 _ d3 (.dK []) ([("amounts",.ref d1),("closed_names",.ref d2),("entries",.ref d3)]:List (Str × V)) e2 h3
  refine⟨C,dx,_,g3,B.cl,B.nE,(by show 2<1000;decide),?_⟩
  dsimp only;rw[show bG "entries" (.ref d3) ([("amounts",.ref d1),("closed_names",.ref d2)]:List (Str × V))=([("amounts",.ref d1),("closed_names",.ref d2),("entries",.ref d3)]:List (Str × V)) by kernel_rfl]
  exact q _ (fun b o e hb=>k3 _ _ (k2 _ _ (k1 _ _ e hb) hb) hb) ⟨_,aA⟩
def rH (c:CK):Sp:=fun vs H Q _=>∃(a:DA) (s:DS) (z:Str) (v:V),vs=[.ref a.dr,.str z]/\DAt c H a s/\aX s.hs (Sum.inr z)=some v/\Q v H
theorem yE {c:CK} (BD:Mp K c.D) (D:MethAt K c.D "house_of" "Door.house_of" dD ["self","name"]):cT P w K mg base 1 c.D "house_of" ["self","name"] (rH c):=by
 refine D.go mP (fun vs H Q E h=>?_) (fun f cdv A outer s H vs Q E hr h=>?_)
 ·obtain⟨a,s,z,v,rfl,_⟩:=h;rfl
 ·obtain⟨a,s,z,v,rfl,h,hv,q⟩:=h
  have hu1:=cS hr
  refine⟨_,(R.ad (R.ar (R.aj (R.dq hu1) (R.v 1) (R.aq (K:=K) (R.v 0))) (R.ae R.az) R.au) (R.ae (R.af (R.bh hu1 (R.aq (K:=K) (R.v 0)) (R.v 1))))),?_⟩
  have dg:=DGet.k (k:=Sum.inr z) h.hd
  rw[hv]at dg;exact⟨c.D,_,_,.ref a.hd,h.dr,BD.cl,BD.nH,by kernel_rfl,_,dg,c.D,_,_,.ref a.hd,h.dr,BD.cl,BD.nH,by kernel_rfl,a.hd,v,rfl,dg,q⟩
end
end KL
namespace KL
open PySem L2
section
variable {P:Program} {w:World} {K:W.Frag} {mg:Str->Option Value} {base:Heap}
def kI (s:DS) (turn:Int) (q:Str × Str) (d:Addr) (x:Dd) (p dx ra:Addr):DS:={s with turn:=turn,m:=s.m.set q (some (.busy s.next d)),L:=s.L+1,runs:=s.runs++[lI p dx s.next q d x "new"],next:=s.next+1,rows:=s.rows++[.ref ra] }
def Ai (c:CK):Sp:=fun vs H Q E=>∃(a:DA) (s:DS) (turn:Int) (q:Str × Str) (d:Addr) (x:Dd),vs=[.ref a.dr,.int turn,.str q.1,.str q.2,.ref d]/\DAt c H a s/\isNm q.1/\isKy q.2/\x.Ok/\(∀p∈pO x,∃v,aX s.hs (Sum.inr p.1)=some v)/\H d=some (.tup x.vs)/\s.L<=500/\(∀r∈s.runs,r.n<s.next)/\s.runs.length<=500/\s.rows.length<=1000/\s.turn<=turn/\Im s.life turn (s.m q)=true ∧
 ∀t p dx ra H',DAt c H' a (kI s turn q d x p dx ra)->Mv a s (kI s turn q d x p dx ra) H H'->H' ra=some (.tup [.str "came",.int s.next,.int turn,.str q.1,.str q.2,.ref d])->H' t=some (.tup [.str "begun",.int s.next])->Q (.ref t) H'
theorem Io {c:CK} (T:Txt K mg) (BD:Mp K c.D) (BM:Ia K c.M) (c_Door_known:cT P w K mg base 1 c.D "known" ["self"] (lJ c)) (c_is_name:aI P w K mg base 2 "is_name" ["thing"] (lW LET 8)) (c_is_key:aI P w K mg base 2 "is_key" ["thing"] (lW (LET++Np) 12)) (c_is_deed:aI P w K mg base 4 "is_deed" ["thing"] uT) (c_asks_of:aI P w K mg base 1 "asks_of" ["deed"] xP) (c_Door_house_of:cT P w K mg base 1 c.D "house_of" ["self","name"] (rH c))
  (c_Keys_look:cT P w K mg base 3 c.Ks "look" ["self","asker","key","turn"] (Gv c.Ks)) (c_Memory_begin:cT P w K mg base 4 c.M "begin" ["self","asker","key","deed"] (vS c)) (c_Journal_write:cT P w K mg base 1 c.J "write" ["self","row"] (lG c.J))
  (D:MethAt K c.D "come" "Door.come" gC ["self","turn","asker","key","deed"]):cT P w K mg base 5 c.D "come" ["self","turn","asker","key","deed"] (Ai c):=by
 refine D.go cR (fun vs H Q E h=>?_) (fun f cdv A outer s H vs Q E hr h=>?_)
 ·obtain⟨a,s,turn,q,d,x,rfl,_⟩:=h;rfl
 ·obtain⟨a,s,turn,q,d,x,rfl,h,hq1,hq2,hx,hho,hd,hL,hrn,hrl,hro,hle,hfr,QB⟩:=h
  have hr_Door_known:Room 1 _:=hr.mono Zd
  have hr_is_name:Room 2 _:=hr.mono Zd
  have hr_is_key:Room 2 _:=hr.mono Zd
  have hr_is_deed:Room 4 _:=hr
  have hr_asks_of:Room 1 _:=hr.mono Zd
  have hr_Door_house_of:Room 1 _:=hr.mono Zd
  have hr_Keys_look:Room 3 _:=hr.mono Zd
  have hr_Memory_begin:Room 4 _:=hr
  have hr_Journal_write:Room 1 _:=hr.mono Zd
  refine⟨_,(R.ad (R.av (i:=5) cR.nd (R.bu c_Door_known hr_Door_known (R.v 0))) (R.ad (R.ar (R.tw (R.cj (R.bp (R.bn (R.fn c_is_name hr_is_name rfl (R.aa (R.v 2) R.ab)))) (R.ck (R.bp (R.bn (R.fn c_is_key hr_is_key rfl (R.aa (R.v 3) R.ab))))))) (R.ae R.az) R.au) (R.ad (R.ar (R.bp (R.bn (R.fn c_is_deed hr_is_deed rfl (R.aa (R.v 4) R.ab)))) (R.ae R.az) R.au) (R.ad (R.bq PassesOwn.never rfl (R.cq (K:=K) (R.fn c_asks_of hr_asks_of rfl (R.aa (R.v 4) R.ab))) (R.ca (K:=K) (n:=2) rfl (R.ay (R.gn (i:=6) cR.nd) (R.ay (R.gn (i:=7) cR.nd) R.cb))) (R.ae (R.bo (R.bc c_Door_house_of hr_Door_house_of (R.v 0) (R.aa (R.v 6) R.ab))))) (R.ad (R.ar (R.aj R.lt (R.v 1) (R.aq (K:=K) (R.v 5))) (R.ae R.az) R.au) (R.ad (R.aw (K:=K) (R.v 5) (R.v 1)) (R.ad (R.av (i:=8) cR.nd (R.bc c_Keys_look hr_Keys_look (R.aq (K:=K) (R.v 5)) (R.aa (R.v 2) (R.aa (R.v 3) (R.aa (R.v 1) R.ab))))) (R.ad (R.ar (R.aj R.ne (R.ix (R.ag (K:=K)) (R.v 8) R.ac) R.ah) (R.ae R.az) R.au) (R.ad (R.av (i:=9) cR.nd (R.bc c_Memory_begin hr_Memory_begin (R.v 5) (R.aa (R.v 2) (R.aa (R.v 3) (R.aa (R.v 4) R.ab))))) (R.ad (R.bo (R.bc c_Journal_write hr_Journal_write (R.aq (K:=K) (R.v 0)) (R.aa (R.ap (R.aa R.ah (R.aa (R.v 9) (R.aa (R.v 1) (R.aa (R.v 2) (R.aa (R.v 3) (R.aa (R.v 4) R.ab))))))) R.ab))) (R.ae (R.af (R.ap (R.aa R.ah (R.aa (R.v 9) R.ab))))))))))))))),?_⟩
  refine⟨_,_,h.dr,by kernel_rfl,a,s,rfl,h,?_⟩
  dsimp only [aJ];refine⟨.str q.1,.str,rfl,trivial,fun z e=>by cases e;exact hq1.len,fun H1 s1=>?_⟩
  rw[show dW (.str q.1) LET 8=true from fZ hq1];refine⟨.str q.2,.str,rfl,trivial,fun z e=>by cases e;exact hq2.len,fun H2 s2=>?_⟩
  rw[We hq2];have k2:=s1.trans s2
  refine⟨.ref d,rfl,Wf hx (k2 _ _ hd),fun b xs e g=>?_,fun H3 s3=>?_⟩
  ·cases e
   rw[k2 _ _ hd]at g;cases g
   cases x <;> exact bH rfl
  have k3:=k2.trans s3
  rw[show pA H2 (.ref d)=true by unfold pA;simp only [k2 _ _ hd];exact Mo hx]
  refine⟨d,x.wd,x.vs,bW x,pO x,rfl,k3 _ _ hd,Hw x,fun ta us H4 s4 gta pus=>?_⟩
  have k4:=k3.trans s4
  have h4:=h.same k4
  refine⟨ta,rfl,⟨_,SqT.of gta⟩,eC (gX K ta us) (fun i σ H'=>H'=H4/\∃o6 o7,σ=[some (.ref a.dr),some (.int turn),some (.str q.1),some (.str q.2),some (.ref d),some (.ref a.me),o6,o7,none,none]) (fun i σ H' e=>by rw[e.1];exact SqT.of gta) ⟨rfl,_,_,rfl⟩ ?_ fun σ H' e=>?_⟩
  ·rintro i v σ H' hv ⟨rfl,o6,o7,rfl⟩
   obtain⟨hi,ei⟩:=Zgs.mp hv
   obtain⟨hi',b,dd,e,gb,gd⟩:=Paired.get' (j:=i) pus hi
   rw[ei]at e;subst e;obtain⟨hv',hval⟩:=hho _ (List.getElem_mem hi')
   refine⟨b,_,rfl,SqT.of gb,rfl,_,_,rfl,_,_,rfl,rfl,?_⟩
   dsimp only [aJ];exact⟨_,_,h4.dr,by kernel_rfl,a,s,_,hv',rfl,h4,hval,rfl,_,_,rfl⟩
  obtain⟨rfl,o6,o7,rfl⟩:=e
  refine⟨c.M,_,_,.int s.turn,h4.me,BM.cl,BM.nT,by kernel_rfl,?_⟩
  show if decide (turn<s.turn)=true then _ else _
  refine oY (decide_eq_false Zo) ?_
  dsimp only [iP];refine⟨c.M,a.mx,_,h4.me,BM.cl,BM.nT,(by show 5<1000;decide),?_⟩
  dsimp only;rw[show bG "turn" (.int turn) (mf a s.turn s.next)=mf a turn s.next by kernel_rfl]
  obtain⟨h5,v5⟩:=h4.put (H':=aH H' a.me (.ins c.M a.mx (mf a turn s.next))) 4 {s with turn:=turn } (fun _ _=>rfl) (fun _ _=>rfl) aA (fun b u e hb=>by rw[aD hb];exact e) rfl rfl h.nd rfl
  have w5:=(Mv.same (a:=a) (s:=s) k4).trans v5
  generalize aH H' a.me (.ins c.M a.mx (mf a turn s.next))=H5 at h5 v5 w5 ⊢;refine⟨c.M,_,_,.ref a.ks,h5.me,BM.cl,BM.nS,by kernel_rfl,a.kf.dx,_,h5.ks,uZ _ _ Zk Zk Zk,a.ks,a.kf,s.life,s.m,s.L,q,turn,rfl,h5.ky,fun sn H6 s6 gsn=>?_⟩
  dsimp only [aJ];have h6:=h5.same s6
  have w6:=w5.trans (.same s6)
  have hd6:=w6.tk h _ _ hd
  rw[Cv hfr]at gsn;refine⟨_,SqT.of gsn,_,rfl,?_⟩
  dsimp only [iP];have hnb:∀n' d',s.m q≠some (.busy n' d'):=fun n' d' e=>by rw[e]at hfr;cases hfr
  refine⟨_,_,h6.me,by kernel_rfl,a,_,q,d,x,rfl,h6,hL,hnb,hd6,hrn,hrl,fun p dx H7 h7 v7=>?_⟩
  dsimp only [aJ];have w7:=w6.trans v7
  refine⟨c.D,_,_,.ref a.j,h7.dr,BD.cl,BD.nJ,by kernel_rfl,_,_,h7.j,by kernel_rfl,bH rfl,fun ra H8 s8 gra=>?_⟩
  have h8:=h7.same s8
  refine⟨a.j,a.jl,a.jx,s.safe,s.rows,.ref ra,rfl,h8.j,h8.jl,hro,?_⟩
  obtain⟨h9,v9⟩:=h8.put (H':=aH H8 a.jl (.lst (s.rows++[.ref ra]))) 3 (kI s turn q d x p dx ra) (fun _ _=>rfl) (fun _ _=>rfl) aA (fun b u e hb=>by rw[aD hb];exact e) rfl rfl h.nd rfl
  have g9:=v9.tk h8 _ _ gra
  have w9:=(w7.trans (.same s8)).trans v9
  generalize aH H8 a.jl (.lst (s.rows++[.ref ra]))=H9 at h9 g9 w9 ⊢;exact⟨bH rfl,fun t H10 s10 gt=>QB t p dx ra H10 (h9.same s10) (w9.trans (.same s10)) (s10 _ _ g9) gt⟩
def cN (s:DS) (pre post:List Rn) (r:Rn) (st:Str):DS:={s with runs:=pre++{r with st:=st }::post }
def Aj (c:CK):Sp:=fun vs H Q _=>∃(a:DA) (s:DS) (pre post:List Rn) (r:Rn) (z:Addr),vs=[.ref a.dr,.ref r.p,.ref z]/\DAt c H a s/\s.runs=pre++r::post/\s.rows.length<=1000 ∧
 ∀t ra H',DAt c H' a {cN s pre post r "written" with rows:=s.rows++[.ref ra] }->Mv a s {cN s pre post r "written" with rows:=s.rows++[.ref ra] } H H'->H' ra=some (.tup [.str "done",.int r.n,.int s.turn,.ref z])->H' t=some (.tup [.str "writes",.str "done"])->Q (.ref t) H'
theorem Ip {c:CK} (BD:Mp K c.D) (BM:Ia K c.M) (BR:Ja K c.R) (c_Journal_write:cT P w K mg base 1 c.J "write" ["self","row"] (lG c.J)) (D:MethAt K c.D "write_done" "Door.write_done" cG ["self","run","answer"]):cT P w K mg base 2 c.D "write_done" ["self","run","answer"] (Aj c):=by
 refine D.go kG (fun vs H Q E h=>?_) (fun f cdv A outer s H vs Q E hr h=>?_)
 ·obtain⟨a,s,pre,post,r,z,rfl,_⟩:=h;rfl
 ·obtain⟨a,s,pre,post,r,z,rfl,h,hs,hro,q⟩:=h
  have hr_Journal_write:=hr
  have hrm:r∈s.runs:=by rw[hs];simp
  refine⟨_,(R.ad (R.bo (R.bc c_Journal_write hr_Journal_write (R.aq (K:=K) (R.v 0)) (R.aa (R.ap (R.aa R.ah (R.aa (R.aq (K:=K) (R.v 1)) (R.aa (R.aq (K:=K) (R.aq (K:=K) (R.v 0))) (R.aa (R.v 2) R.ab))))) R.ab))) (R.ad (R.aw (K:=K) (R.v 1) R.ah) (R.ae (R.af (R.ap (R.aa R.ah (R.aa R.ah R.ab))))))),?_⟩
  refine⟨c.D,_,_,.ref a.j,h.dr,BD.cl,BD.nJ,by kernel_rfl,_,_,h.j,by kernel_rfl,c.R,_,_,.int r.n,h.run hrm,BR.cl,BR.nN,by kernel_rfl,c.D,_,_,.ref a.me,h.dr,BD.cl,BD.nM,by kernel_rfl,c.M,_,_,.int s.turn,h.me,BM.cl,BM.nT,by kernel_rfl,bH rfl,fun ra H1 s1 gra=>?_⟩
  have h1:=h.same s1
  refine⟨a.j,a.jl,a.jx,s.safe,s.rows,.ref ra,rfl,h1.j,h1.jl,hro,?_⟩
  obtain⟨h2,v2⟩:=h1.put (H':=aH H1 a.jl (.lst (s.rows++[.ref ra]))) 3 {s with rows:=s.rows++[.ref ra] } (fun _ _=>rfl) (fun _ _=>rfl) aA (fun b u e hb=>by rw[aD hb];exact e) rfl rfl h.nd rfl
  have g2:=v2.tk h1 _ _ gra
  generalize aH H1 a.jl (.lst (s.rows++[.ref ra]))=H2 at h2 v2 g2 ⊢;dsimp only;refine⟨c.R,r.dx,_,h2.run hrm,BR.cl,BR.nS,(by show 7<1000;decide),?_⟩
  dsimp only;rw[show bG "stage" (.str "written") r.fs={r with st:="written" }.fs by kernel_rfl]
  obtain⟨h3,v3⟩:=h2.rput (r':={r with st:="written" }) hs rfl rfl rfl rfl
  have g3:=v3.tk h2 _ _ g2
  exact⟨bH rfl,fun t H4 s4 gt=>q t ra H4 (h3.same s4) ((((Mv.same s1).trans v2).trans v3).trans (.same s4)) (s4 _ _ g3) gt⟩
end
end KL
namespace KL
open PySem L2
section
variable {P:Program} {w:World} {K:W.Frag} {mg:Str->Option Value} {base:Heap}
theorem Su {H:Hp} {y:An} {v:V} (h:RepT H 1 (RX.tvs y.vs) v):∃z,v=.ref z/\H z=some (.tup y.vs):=by
 obtain⟨z,xs,rfl,g,p⟩:=h
 refine⟨z,rfl,?_⟩
 have:∀ {ts:List V} {xs:List V},Paired (RepT H 0) (ts.map TV.sc) xs->xs=ts:=by
  intro ts;induction ts with
  | nil=>intro xs h;cases h;rfl
  | cons t ts ih=>
   intro xs h;cases h with
   | cons h1 h2=>rw[ih h2,h1.1]
 rw[g,this p]
def vV (c:CK):Sp:=fun vs H Q _=>∃(a:DA) (s:DS) (pre post:List Rn) (r:Rn) (f:Str->Nat),vs=[.ref a.dr,.ref r.p]/\DAt c H a s/\s.runs=pre++r::post/\r.x.Ok/\(∀z,cD s.prs z=(f z:Int))/\s.rows.length<=1000 ∧
 (∀y,aQ f r.x=some y->∀t ra z H',DAt c H' a {cN s pre post r "written" with rows:=s.rows++[.ref ra] }->Mv a s {cN s pre post r "written" with rows:=s.rows++[.ref ra] } H H'->H' ra=some (.tup [.str "done",.int r.n,.int s.turn,.ref z])->H' z=some (.tup y.vs)->H' t=some (.tup [.str "writes",.str "done"])->Q (.ref t) H') ∧
 (aQ f r.x=none->∀t ra H',DAt c H' a {cN s pre post r "asked" with rows:=s.rows++[.ref ra] }->Mv a s {cN s pre post r "asked" with rows:=s.rows++[.ref ra] } H H'->H' ra=some (.tup [.str "asked",.int r.n])->H' t=some (.tup [.str "writes",.str "asked"])->Q (.ref t) H')
theorem Cw {c:CK} (BD:Mp K c.D) (BM:Ia K c.M) (BR:Ja K c.R) (c_early:aI P w K mg base 3 "early" ["book","deed"] (zO c.B)) (c_Door_write_done:cT P w K mg base 2 c.D "write_done" ["self","run","answer"] (Aj c)) (c_Journal_write:cT P w K mg base 1 c.J "write" ["self","row"] (lG c.J)) (D:MethAt K c.D "write_first" "Door.write_first" bY ["self","run"]):cT P w K mg base 4 c.D "write_first" ["self","run"] (vV c):=by
 refine D.go fI (fun vs H Q E h=>?_) (fun f cdv A outer s H vs Q E hr h=>?_)
 ·obtain⟨a,s,pre,post,r,f,rfl,_⟩:=h;rfl
 ·obtain⟨a,s,pre,post,r,f,rfl,h,hs,hx,hf,hro,qd,qa⟩:=h
  have hr_early:=hr
  have hr_Door_write_done:Room 2 _:=hr.mono Zd
  have hr_Journal_write:Room 1 _:=hr.mono Zd
  have hrm:r∈s.runs:=by rw[hs];simp
  refine⟨_,(R.ad (R.av (i:=2) fI.nd (R.fn c_early hr_early rfl (R.aa (R.aq (K:=K) (R.aq (K:=K) (R.v 0))) (R.aa (R.aq (K:=K) (R.v 1)) R.ab)))) (R.ad (R.ar (R.aj R.dl (R.v 2) R.cf) (R.ae (R.af (R.bc c_Door_write_done hr_Door_write_done (R.v 0) (R.aa (R.v 1) (R.aa (R.v 2) R.ab))))) R.au) (R.ad (R.bo (R.bc c_Journal_write hr_Journal_write (R.aq (K:=K) (R.v 0)) (R.aa (R.ap (R.aa R.ah (R.aa (R.aq (K:=K) (R.v 1)) R.ab))) R.ab))) (R.ad (R.aw (K:=K) (R.v 1) R.ah) (R.ae (R.af (R.ap (R.aa R.ah (R.aa R.ah R.ab))))))))),?_⟩
  refine⟨c.D,_,_,.ref a.me,h.dr,BD.cl,BD.nM,by kernel_rfl,c.M,_,_,.ref a.bk,h.me,BM.cl,BM.nB,by kernel_rfl,c.R,_,_,.ref r.d,h.run hrm,BR.cl,BR.nD,by kernel_rfl,a.bk,r.d,r.x.wd,r.x.vs,bW r.x,pO r.x,s.prs,rfl,h.book,h.dd r hrm,Hw r.x,fun v H1 s1 hv=>?_⟩
  rw[yC hf hx]at hv;have h1:=h.same s1
  dsimp only [aJ];cases hy:aQ f r.x with
  | some y=>
   rw[hy]at hv;obtain⟨z,rfl,gz⟩:=Su hv
   exact⟨_,_,h1.dr,by kernel_rfl,a,s,pre,post,r,z,rfl,h1,hs,hro,fun t ra H2 h2 v2 gra gt=>qd y hy t ra z H2 h2 ((Mv.same s1).trans v2) gra (v2.tk h1 _ _ gz) gt⟩
  | none=>
   rw[hy]at hv;obtain rfl:v=.non:=hv.1
   refine⟨c.D,_,_,.ref a.j,h1.dr,BD.cl,BD.nJ,by kernel_rfl,_,_,h1.j,by kernel_rfl,c.R,_,_,.int r.n,h1.run hrm,BR.cl,BR.nN,by kernel_rfl,bH rfl,fun ra H2 s2 gra=>?_⟩
   have h2:=h1.same s2
   refine⟨a.j,a.jl,a.jx,s.safe,s.rows,.ref ra,rfl,h2.j,h2.jl,hro,?_⟩
   obtain⟨h3,v3⟩:=h2.put (H':=aH H2 a.jl (.lst (s.rows++[.ref ra]))) 3 {s with rows:=s.rows++[.ref ra] } (fun _ _=>rfl) (fun _ _=>rfl) aA (fun b u e hb=>by rw[aD hb];exact e) rfl rfl h.nd rfl
   have g3:=v3.tk h2 _ _ gra
   generalize aH H2 a.jl (.lst (s.rows++[.ref ra]))=H3 at h3 v3 g3 ⊢;dsimp only;refine⟨c.R,r.dx,_,h3.run hrm,BR.cl,BR.nS,(by show 7<1000;decide),?_⟩
   dsimp only;rw[show bG "stage" (.str "asked") r.fs={r with st:="asked" }.fs by kernel_rfl]
   obtain⟨h4,v4⟩:=h3.rput (r':={r with st:="asked" }) hs rfl rfl rfl rfl
   have g4:=v4.tk h3 _ _ g3
   exact⟨bH rfl,fun t H5 s5 gt=>qa hy t ra H5 (h4.same s5) ((((Mv.same (s1.trans s2)).trans v3).trans v4).trans (.same s5)) (s5 _ _ g4) gt⟩
structure tR (H:Hp) (s:DS) (n:Nat):Prop where
 ex:∃(k:Nat) (zs:List (Addr × List V)),s.safe=(k:Int)/\s.rows.take k=zs.map (fun z=>V.ref z.1)/\(∀z∈zs,H z.1=some (.tup z.2)/\eT z.2 [.str "asked",.int n])/\xS [.str "asked",.int n] zs=false
def Iq (c:CK):Sp:=fun vs H Q _=>∃(a:DA) (s:DS) (r:Rn) (way:Str),vs=[.ref a.dr,.ref r.p,.str way]/\DAt c H a s/\r∈s.runs/\tR H s r.n/\∀t H',Same H H'->H' t=some (.tup [.str "unsafe"])->Q (.ref t) H'
theorem Mq {c:CK} (BD:Mp K c.D) (BR:Ja K c.R) (c_Journal_is_safe:cT P w K mg base 1 c.J "is_safe" ["self","row"] (vR c.J)) (D:MethAt K c.D "ask_next" "Door.ask_next" dC ["self","run","way"]):cT P w K mg base 2 c.D "ask_next" ["self","run","way"] (Iq c):=by
 refine D.go mO (fun vs H Q E h=>?_) (fun f cdv A outer s H vs Q E hr h=>?_)
 ·obtain⟨a,s,r,way,rfl,_⟩:=h;rfl
 ·obtain⟨a,s,r,way,rfl,h,hrm,hns,q⟩:=h
  obtain⟨k,zs,hk,hz,hfl,hno⟩:=hns.ex
  have hr_Journal_is_safe:=hr
  refine⟨_,(R.ad (R.ar (R.bp (R.bn (R.bc c_Journal_is_safe hr_Journal_is_safe (R.aq (K:=K) (R.v 0)) (R.aa (R.ap (R.aa R.ah (R.aa (R.aq (K:=K) (R.v 1)) R.ab))) R.ab)))) (R.ae (R.af (R.ap (R.aa R.ah R.ab)))) R.au) (R.ad R.az (R.ad R.az (R.ad R.az (R.ad R.az (R.ad R.az (R.ae R.az))))))),?_⟩
  refine⟨c.D,_,_,.ref a.j,h.dr,BD.cl,BD.nJ,by kernel_rfl,_,_,h.j,by kernel_rfl,c.R,_,_,.int r.n,h.run hrm,BR.cl,BR.nN,by kernel_rfl,bH rfl,fun t1 H1 s1 g1=>?_⟩
  have h1:=h.same s1
  have gj:=h1.j
  rw[hk]at gj;refine⟨a.j,a.jl,a.jx,t1,k,s.rows,zs,_,rfl,gj,h1.jl,g1,hz,fun z m=>⟨s1 _ _ (hfl z m).1,(hfl z m).2⟩,fun H2 s2=>?_⟩
  rw[hno];exact⟨bH rfl,fun t H3 s3 gt=>q t H3 ((s1.trans s2).trans s3) gt⟩
def Ir (c:CK):Sp:=fun vs H Q _=>∃(a:DA) (s:DS) (pre post:List Rn) (r:Rn),vs=[.ref a.dr,.int r.n,.str "through"]/\DAt c H a s/\s.runs=pre++r::post/\s.runs.length<64 ∧
  ((r.st="new"/\(∀r' rest,eB s r=r'::rest->∀t H',Same H H'->H' t=some (.tup [.str "waits",.int r'.n])->Q (.ref t) H')/\(eB s r=[]->∀t H',DAt c H' a (cN s pre post r "held")->Mv a s (cN s pre post r "held") H H'->H' t=some (.tup [.str "holds"])->Q (.ref t) H'))∨
   (r.st="held"/\r.x.Ok/\s.rows.length<=1000/\∃f:Str->Nat,(∀z,cD s.prs z=(f z:Int)) ∧
     (∀y,aQ f r.x=some y->∀t ra z H',DAt c H' a {cN s pre post r "written" with rows:=s.rows++[.ref ra] }->Mv a s {cN s pre post r "written" with rows:=s.rows++[.ref ra] } H H'->H' ra=some (.tup [.str "done",.int r.n,.int s.turn,.ref z])->H' z=some (.tup y.vs)->H' t=some (.tup [.str "writes",.str "done"])->Q (.ref t) H') ∧
     (aQ f r.x=none->∀t ra H',DAt c H' a {cN s pre post r "asked" with rows:=s.rows++[.ref ra] }->Mv a s {cN s pre post r "asked" with rows:=s.rows++[.ref ra] } H H'->H' ra=some (.tup [.str "asked",.int r.n])->H' t=some (.tup [.str "writes",.str "asked"])->Q (.ref t) H'))∨
   ((r.st="written"∨r.st="asked"/\tR H s r.n)/\∀t H',Same H H'->H' t=some (.tup [.str "unsafe"])->Q (.ref t) H'))
theorem Mr {c:CK} (U:Ya w.params K mg) (BM:Ia K c.M) (BR:Ja K c.R) (c_Door_known:cT P w K mg base 1 c.D "known" ["self"] (lJ c)) (c_Memory_hold:cT P w K mg base 3 c.M "hold" ["self","run"] (Id c)) (c_Door_write_first:cT P w K mg base 4 c.D "write_first" ["self","run"] (vV c)) (c_Door_ask_next:cT P w K mg base 2 c.D "ask_next" ["self","run","way"] (Iq c)) (D:MethAtD K c.D "work" "Door.work" dH ["self","number","way"] [[],[.str ("through":Str)]]) :
  ∀d∈([[],[.str ("through":Str)]]:List (List V)),Hc P w K mg base 5 c.D "work" ["self","number","way"] d (Ir c):=by
 refine D.go iE (fun vs H Q E h=>?_) (fun f cdv A outer s H vs Q E hr h=>?_)
 ·obtain⟨a,s,pre,post,r,rfl,_⟩:=h;rfl
 ·obtain⟨a,s,pre,post,r,rfl,h,hs,hl,hc⟩:=h
  have hu1:=cS hr
  obtain⟨aW,m_WAYS,tW⟩:=U.g_WAYS
  have hr_Door_known:Room 1 _:=hr.mono Zd
  have hr_Memory_hold:Room 3 _:=hr.mono Zd
  have hr_Door_write_first:Room 4 _:=hr
  have hr_Door_ask_next:Room 2 _:=hr.mono Zd
  have hrm:r∈s.runs:=by rw[hs];simp
  refine⟨_,(R.ad (R.av (i:=3) iE.nd (R.bu c_Door_known hr_Door_known (R.v 0))) (R.ad (R.ar (R.aj (R.dq hu1) (R.v 1) (R.aq (K:=K) (R.v 3))) (R.ae R.az) R.au) (R.ad (R.ar (R.aj (R.eo (K:=K)) (R.v 2) (R.gR rfl m_WAYS)) (R.ae R.az) R.au) (R.ad (R.av (i:=4) iE.nd (R.bh hu1 (R.aq (K:=K) (R.v 3)) (R.v 1))) (R.ad (R.ar (R.aj R.eq (R.aq (K:=K) (R.v 4)) R.ah) (R.ae (R.af (R.bc c_Memory_hold hr_Memory_hold (R.v 3) (R.aa (R.v 4) R.ab)))) R.au) (R.ad (R.ar (R.aj R.eq (R.aq (K:=K) (R.v 4)) R.ah) (R.ae (R.af (R.bc c_Door_write_first hr_Door_write_first (R.v 0) (R.aa (R.v 4) R.ab)))) R.au) (R.ad (R.ar (R.aj R.eq (R.aq (K:=K) (R.v 4)) R.ah) (R.ae (R.af (R.bc c_Door_ask_next hr_Door_ask_next (R.v 0) (R.aa (R.v 4) (R.aa (R.v 2) R.ab))))) R.au) (R.ad (R.ar (R.aj R.eq (R.aq (K:=K) (R.v 4)) R.ah) (R.ae R.az) R.au) (R.ad (R.ar (R.aj R.eq (R.aq (K:=K) (R.v 4)) R.ah) (R.ae R.az) R.au) (R.ae (R.af (R.ap (R.aa R.ah R.ab))))))))))))),?_⟩
  refine⟨_,_,h.dr,by kernel_rfl,a,s,rfl,h,?_⟩
  dsimp only [aJ];have dg:=DGet.k (k:=Sum.inl (r.n:Int)) h.rn
  rw[lH h.up hrm]at dg;refine⟨c.M,_,_,.ref a.rn,h.me,BM.cl,BM.nR,by kernel_rfl,_,dg,?_⟩
  dsimp only [iP];refine⟨aW,_,rfl,.inr (tW _),by kernel_rfl,by kernel_rfl,?_⟩
  refine⟨c.M,_,_,.ref a.rn,h.me,BM.cl,BM.nR,by kernel_rfl,a.rn,.ref r.p,rfl,dg,?_⟩
  dsimp only [aJ];rcases hc with⟨e,qw,q⟩ | ⟨e,hx,hro,f,hf,qd,qa⟩ | ⟨e | ⟨e,hns⟩,q⟩
  ·refine⟨c.R,_,_,.str r.st,h.run hrm,BR.cl,BR.nS,by kernel_rfl,?_⟩
   rw[e];exact⟨_,_,h.me,by kernel_rfl,a,s,pre,post,r,rfl,h,hs,hl,qw,q⟩
  ·refine⟨c.R,_,_,.str r.st,h.run hrm,BR.cl,BR.nS,by kernel_rfl,?_⟩
   rw[e];refine⟨c.R,_,_,.str r.st,h.run hrm,BR.cl,BR.nS,by kernel_rfl,?_⟩
   rw[e];exact⟨_,_,h.dr,by kernel_rfl,a,s,pre,post,r,f,rfl,h,hs,hx,hf,hro,qd,qa⟩
  ·refine⟨c.R,_,_,.str r.st,h.run hrm,BR.cl,BR.nS,by kernel_rfl,?_⟩
   rw[e];refine⟨c.R,_,_,.str r.st,h.run hrm,BR.cl,BR.nS,by kernel_rfl,?_⟩
   rw[e];refine⟨c.R,_,_,.str r.st,h.run hrm,BR.cl,BR.nS,by kernel_rfl,?_⟩
   rw[e];refine⟨c.R,_,_,.str r.st,h.run hrm,BR.cl,BR.nS,by kernel_rfl,?_⟩
   rw[e];refine⟨c.R,_,_,.str r.st,h.run hrm,BR.cl,BR.nS,by kernel_rfl,?_⟩
   rw[e];exact⟨bH rfl,fun t H' s' g=>q t H' s' g⟩
  ·refine⟨c.R,_,_,.str r.st,h.run hrm,BR.cl,BR.nS,by kernel_rfl,?_⟩
   rw[e];refine⟨c.R,_,_,.str r.st,h.run hrm,BR.cl,BR.nS,by kernel_rfl,?_⟩
   rw[e];refine⟨c.R,_,_,.str r.st,h.run hrm,BR.cl,BR.nS,by kernel_rfl,?_⟩
   rw[e];exact⟨_,_,h.dr,by kernel_rfl,a,s,r,_,rfl,h,hrm,hns,q⟩
end
end KL
namespace KL
open PySem L2
section
variable {P:Program} {w:World} {K:W.Frag} {mg:Str->Option Value} {base:Heap}
theorem DAt.outside (h:DAt c H a s) {b:Addr} {o:HO} (hb:b∉a.fix++s.runs.map (·.p)) (g:H b=some o) (ho:∀xs,o≠.tup xs) (o':HO):DAt c (aH H b o') a s:=
 h.keep (fun d u e hd=>by rw[aD (fun(z:d=b)=>hb (z ▸ hd))];exact e) (fE g ho)
theorem Mv.out (m:Mv a s s' H H') {b:Addr} (hb:H b=none) (o':HO):Mv a s s' H (aH H' b o'):=
 ⟨fun d u e hd=>by rw[aD (aE e hb)];exact m.fr d u e hd,m.nw,fun d e=>by
  by_cases z:d=b
  ·rw[z];exact hb
  ·rw[aD z]at e;exact m.gr d e⟩
theorem Mv.stay (m:Mv a s s' H H') {b:Addr} {o:HO} (hb:b∉a.fix++s.runs.map (·.p)) (g:H b=some o):b∉a.fix++s'.runs.map (·.p):=fun z=>by
 rcases Zma.mp z with z | z
 ·exact hb (List.mem_append_left _ z)
 ·obtain⟨r,hr,e⟩:=Zmm.mp z
  rcases m.nw r hr with w | w
  ·exact hb (List.mem_append_right _ (e ▸ w))
  ·rw[e,g]at w;cases w
inductive gK (H:Hp):DS->List V->DS->List (Rn × Addr)->Prop
 | nil {s:DS}:gK H s [] s []
 | skip {s s':DS} {t:Addr} {wd:Str} {xs:List V} {vs:List V} {ts:List (Rn × Addr)}:H t=some (.tup (.str wd::xs))->wd≠"done"->gK H s vs s' ts->gK H s (.ref t::vs) s' ts
 | done {s s':DS} {t z:Addr} {pre post:List Rn} {r:Rn} {w:Int} {y:An} {vs:List V} {ts:List (Rn × Addr)}:H t=some (.tup [.str "done",.int r.n,.int w,.ref z])->s.runs=pre++r::post->H z=some (.tup y.vs)->An.Of r.x y->(∀q∈wF r.x y,Ht s.prs q)->s.prs.length<=90->s.L<=500->s.m r.q=some (.busy r.n r.d) →
   gK H {s with runs:=pre++post,prs:=iN s.prs (wF r.x y),m:=s.m.set r.q (some (.kept r.n w r.d z)),L:=s.L+1 } vs s' ts->gK H s (.ref t::vs) s' ((r,z)::ts)
def yF (H:Hp) (q:Rn × Addr) (v:V):Prop:=∃t,v=.ref t/\H t=some (.tup [.int q.1.n,.str q.1.q.1,.str q.1.q.2,.ref q.2])
def Ak (c:CK):Sp:=fun vs H Q _=>∃(a:DA) (s s':DS) (old news:List V) (ts:List (Rn × Addr)),vs=[.ref a.dr]/\DAt c H a s/\s.rows=old++news/\s.safe=(old.length:Int)/\s.rows.length<=1000/\gK H {s with safe:=s.rows.length } news s' ts/\ts.length<=500 ∧
 ∀l us H',DAt c H' a s'->Mv a s s' H H'->H l=none->H' l=some (.lst us)->Paired (yF H') ts us->l∉a.fix++s'.runs.map (·.p)->Q (.ref l) H'
theorem Iu {c:CK} (BD:Mp K c.D) (c_Door_known:cT P w K mg base 1 c.D "known" ["self"] (lJ c)) (c_Journal_safe:cT P w K mg base 1 c.J "safe" ["self"] (Ae c.J)) (c_Journal_force:cT P w K mg base 1 c.J "force" ["self"] (vQ c.J)) (c_Journal_rows:cT P w K mg base 1 c.J "rows" ["self"] (Ad c.J)) (c_Memory_end:cT P w K mg base 3 c.M "end" ["self","number","turn","answer"] (Ie c))
  (D:MethAt K c.D "force" "Door.force" fQ ["self"]):cT P w K mg base 4 c.D "force" ["self"] (Ak c):=by
 refine D.go cZ (fun vs H Q E h=>?_) (fun f cdv A outer s H vs Q E hr h=>?_)
 ·obtain⟨a,s,s',old,news,ts,rfl,_⟩:=h;rfl
 ·obtain⟨a,s,s',old,news,ts,rfl,h,hrows,hsafe,hro,hE,hts,q⟩:=h
  have hr_Door_known:Room 1 _:=hr.mono Zd
  have hr_Journal_safe:Room 1 _:=hr.mono Zd
  have hr_Journal_force:Room 1 _:=hr.mono Zd
  have hr_Journal_rows:Room 1 _:=hr.mono Zd
  have hr_Memory_end:Room 3 _:=hr
  refine⟨_,(R.ad (R.av (i:=1) cZ.nd (R.bu c_Door_known hr_Door_known (R.v 0))) (R.ad (R.av (i:=2) cZ.nd (R.bu c_Journal_safe hr_Journal_safe (R.aq (K:=K) (R.v 0)))) (R.ad (R.bo (R.bu c_Journal_force hr_Journal_force (R.aq (K:=K) (R.v 0)))) (R.ad (R.av (i:=3) cZ.nd (R.bj R.ab)) (R.ad (R.bq PassesOwn.never rfl (R.bf (K:=K) (R.sl (R.di (K:=K)) (R.bu c_Journal_rows hr_Journal_rows (R.aq (K:=K) (R.v 0))) (R.ps (R.v 2)) R.pn)) (R.gn (i:=4) cZ.nd) (R.ae (R.ar (R.aj R.eq (R.ix (R.ag (K:=K)) (R.v 4) R.ac) R.ah) (R.ae (R.bo (R.cv (K:=K) PySem.F.plainAttrs_list PySem.F.slot_list_append PySem.F.type_list_append R.gy (R.v 3) (R.aa (R.bc c_Memory_end hr_Memory_end (R.v 1) (R.aa (R.ix (R.ag (K:=K)) (R.v 4) R.ac) (R.aa (R.ix (R.ag (K:=K)) (R.v 4) R.ac) (R.aa (R.ix (R.ag (K:=K)) (R.v 4) R.ac) R.ab)))) R.ab)))) R.au))) (R.ae (R.af (R.v 3)))))))),?_⟩
  refine⟨_,_,h.dr,by kernel_rfl,a,s,rfl,h,?_⟩
  dsimp only [aJ];refine⟨c.D,_,_,.ref a.j,h.dr,BD.cl,BD.nJ,by kernel_rfl,_,_,h.j,by kernel_rfl,a.j,a.jl,a.jx,s.safe,rfl,h.j,?_⟩
  dsimp only [aJ];refine⟨c.D,_,_,.ref a.j,h.dr,BD.cl,BD.nJ,by kernel_rfl,_,_,h.j,by kernel_rfl,a.j,a.jl,a.jx,s.safe,s.rows,rfl,h.j,h.jl,?_⟩
  obtain⟨h1,v1⟩:=h.put (H':=aH H a.j (.ins c.J a.jx (jf a.jl s.rows.length))) 2 {s with safe:=s.rows.length } (fun _ _=>rfl) (fun _ _=>rfl) aA (fun b u e hb=>by rw[aD hb];exact e) rfl rfl h.nd rfl
  generalize aH H a.j (.ins c.J a.jx (jf a.jl s.rows.length))=H1 at h1 v1 ⊢;refine⟨kJ rfl,fun lt hlt=>?_⟩
  dsimp only [aJ];have s2:=aF (o:=.lst []) hlt
  have glt:(aH H1 lt (.lst [])) lt=some (.lst []):=aA
  generalize aH H1 lt (.lst [])=H2 at s2 glt ⊢;have h2:=h1.same s2
  refine⟨c.D,_,_,.ref a.j,h2.dr,BD.cl,BD.nJ,by kernel_rfl,_,_,h2.j,by kernel_rfl,a.j,a.jl,a.jx,_,s.rows,rfl,h2.j,h2.jl,fun lr hlr=>?_⟩
  have s3:=aF (o:=.lst s.rows) hlr
  have glr:(aH H2 lr (.lst s.rows)) lr=some (.lst s.rows):=aA
  generalize aH H2 lr (.lst s.rows)=H3 at s3 glr ⊢;refine⟨_,SqL.of glr,fun ls hls=>?_⟩
  have ecut:gT s.rows (some s.safe) none=news:=by
   rw[hsafe,Fo,hrows,List.drop_left]
  rw[ecut];have s4:=aF (o:=.lst news) hls
  have gls:(aH H3 ls (.lst news)) ls=some (.lst news):=aA
  have k4:=(s2.trans s3).trans s4
  have hls1:H1 ls=none:=s2.free (s3.free hls)
  have nlt:lt≠ls:=aE (s3 _ _ glt) hls
  generalize aH H3 ls (.lst news)=H4 at s4 gls k4 ⊢;have h4:=h1.same k4
  have w4:=v1.trans (.same k4)
  have glt4:=s4 _ _ (s3 _ _ glt)
  have olt:lt∉a.fix++s.runs.map (·.p):=h1.fresh hlt
  have ols:ls∉a.fix++s.runs.map (·.p):=h1.fresh hls1
  have hlt0:H lt=none:=v1.gr _ hlt
  have hls0:H ls=none:=v1.gr _ hls1
  refine⟨ls,rfl,⟨_,SqL.of gls⟩,eC (bR K ls news) (fun i σ H'=>∃(o:Option V) (si:DS) (t1 t2:List (Rn × Addr)) (us:List V),σ=[some (.ref a.dr),some (.ref a.me),some (.int s.safe),some (.ref lt),o]/\H' ls=some (.lst news)/\H' lt=some (.lst us)/\t1++t2=ts/\Paired (yF H') t1 us/\gK H si (news.drop i) s' t2/\DAt c H' a si/\Mv a s si H H'/\lt∉a.fix++si.runs.map (·.p)/\ls∉a.fix++si.runs.map (·.p))
   (fun i σ H' ⟨_,_,_,_,_,_,e,_⟩=>SqL.of e) ⟨_,_,[],ts,[],rfl,gls,glt4,rfl,.nil,hE,h4,w4,olt,ols⟩ ?_ ?_⟩
  ·rintro i x σ H' hx ⟨o,si,t1,t2,us,rfl,gl,gt,ht,pu,hE',hi,wi,ol1,ol2⟩
   obtain⟨hil,ex⟩:=Zgs.mp hx
   rw[List.drop_eq_getElem_cons hil,ex]at hE';dsimp only [aJ];cases hE' with
   | @skip _ _ t wd xs _ _ gx hne hE2=>
    have gx':=wi.tk h _ _ gx
    refine⟨_,SqT.of gx',.str wd,gA (show(V.str wd::xs)[0]?=some _ from rfl),?_⟩
    show if decide (wd="done")=true then _ else _
    refine oY (decide_eq_false hne) ?_
    exact⟨_,si,t1,t2,us,rfl,gl,gt,ht,pu,hE2,hi,wi,ol1,ol2⟩
   | @done _ _ t z pre post r w' y _ ts' gx hs hz hof hg hp90 hL hm hE2=>
    have gx':=wi.tk h _ _ gx
    have ul:us.length<=500:=by
     rw[<- pu.length];have:=congrArg List.length ht
     rw[wC]at this;omega
    refine⟨_,SqT.of gx',_,rfl,?_⟩
    refine⟨.inl ⟨rfl,_,SqL.of gt⟩,_,_,hi.me,by kernel_rfl,_,SqT.of gx',_,rfl,_,SqT.of gx',_,rfl,_,SqT.of gx',_,rfl,a,si,pre,post,r,w',z,y,rfl,hi,hs,wi.tk h _ _ hz,hof,hg,hp90,hL,hm,fun tt H5 h5 v5 gtt=>?_⟩
    have gt5:=v5.fr _ _ gt ol1
    have gl5:=v5.fr _ _ gl ol2
    have ol15:=v5.stay ol1 gt
    have ol25:=v5.stay ol2 gl
    refine⟨lt,us,.ref tt,rfl,rfl,gt5,wH ul Zd,?_⟩
    have kt:TK H5 (aH H5 lt (.lst (us++[.ref tt]))):=fE gt5 fun _ z=>nomatch z
    refine⟨_,_,t1++[(r,z)],ts',us++[.ref tt],rfl,by rw[aD nlt.symm];exact gl5,aA,by rw[<- ht,List.append_assoc];rfl,Paired.snoc (Paired.map' (fun _ _ ⟨t,e,g⟩=>⟨t,e,kt _ _ (v5.tk hi _ _ g)⟩) pu) ⟨tt,rfl,kt _ _ gtt⟩,hE2,h5.outside ol15 gt5 (fun _ z=>nomatch z) _,(wi.trans v5).out hlt0 _,ol15,ol25⟩
  ·rintro σ H' ⟨o,si,t1,t2,us,rfl,gl,gt,ht,pu,hE',hi,wi,ol1,ol2⟩
   rw[List.drop_length]at hE';cases hE'
   rw[List.append_nil]at ht;subst ht;exact q lt us H' hi wi hlt0 gt pu ol1
end
end KL
namespace KL
open PySem L2
section
variable {P:Program} {w:World} {K:W.Frag} {mg:Str->Option Value} {base:Heap}
theorem Ms {r:Int} (h:0<=r):∃z:Nat,r=z:=⟨r.toNat,Zo⟩
theorem yG:("abcdefghijklmnopqrstuvwxyz":Str)=tx LET:=by rw[Fs ("abcdefghijklmnopqrstuvwxyz":Str),xK]
theorem Sv:LET.Nodup:=by decide
theorem WordsOf.nm {ws:List Str} (h:WordsOf LET 8 ws):∀z∈ws,isNm z:=fun z hz=>h.of z hz
def vW:Sp:=fun vs H Q _=>∃d b,vs=[.ref d]/\Dk H d b/\∀(n:Nat) H',1<=n->n<=1000000000000->Dk H' d b->Kp d b H H'->Q (.int (n:Int)) H'
theorem Cy (T:Txt K mg) (cLdraw:aI P w K mg base 1 "_law_draw" ["_law_deck_here","_law_many"] lE) (D:DefAt K mg "_law_amount" fT ["_law_deck_here"]):aI P w K mg base 2 "_law_amount" ["_law_deck_here"] vW:=by
 refine D.go pZ (fun vs H Q E h=>?_) (fun f cdv A outer s H vs Q E hr h=>?_)
 ·obtain⟨d,b,rfl,_⟩:=h;rfl
 ·obtain⟨d,b,rfl,dk,q⟩:=h
  have hLdraw:=hr
  refine⟨_,(R.ae (R.af (R.ix (R.be (K:=K)) (R.bj (R.aa (R.op R.ba R.ac (R.fn cLdraw hLdraw rfl (R.aa (R.v 0) (R.aa R.ac R.ab)))) (R.aa (R.op R.ba R.ac (R.fn cLdraw hLdraw rfl (R.aa (R.v 0) (R.aa R.ac R.ab)))) (R.aa (R.op R.et (R.op R.dt R.ac R.ac) (R.fn cLdraw hLdraw rfl (R.aa (R.v 0) (R.aa R.ac R.ab)))) (R.aa (R.op R.ba R.ac (R.fn cLdraw hLdraw rfl (R.aa (R.v 0) (R.aa (R.op R.dt R.ac R.ac) R.ab)))) R.ab))))) (R.fn cLdraw hLdraw rfl (R.aa (R.v 0) (R.aa R.ac R.ab)))))),?_⟩
  refine⟨d,b,9,rfl,dk,Zd,Zd,fun r1 H1 a0 a1 D1 k1=>⟨d,b,99,rfl,D1,Zd,Zd,fun r2 H2 b0 b1 D2 k2=>⟨⟨Zd,Zd,Zd⟩,d,b,3,rfl,D2,Zd,Zd,fun r3 H3 c0 c1 D3 k3=>⟨⟨Zd,Zd,Zd⟩,d,b,_,rfl,D3,Zd,Zd,fun r4 H4 d0 d1 D4 k4=>⟨kJ rfl,fun p hp=>⟨d,b,4,rfl,D4.new hp,Zd,Zd,fun r5 H5 e0 e1 D5 k5=>?_⟩⟩⟩⟩⟩⟩
  have hpd:=D4.ne hp
  have gp:=k5 p _ aA hpd.1 hpd.2
  have kk:=((((k1.trans k2).trans k3).trans k4).trans (.new hp)).trans k5
  have d1':r4<1000000000000:=d1
  have fin:∀m:Int,1<=m->m<=1000000000000->Q (.int m) H5:=fun m h1 h2=>by
   have:=q m.toNat H5 Zo Zo D5 kk
   rwa [Int.toNat_of_nonneg Zo]at this
  rcases Yb e0 e1 with rfl | rfl | rfl | rfl
  ·exact⟨_,SqL.of gp,_,rfl,fin _ Zo Zo⟩
  ·exact⟨_,SqL.of gp,_,rfl,fin _ Zo Zo⟩
  ·exact⟨_,SqL.of gp,_,rfl,fin (10 ^ (12:Int).toNat - r3) (by show(1:Int)<=1000000000000 - r3;omega) (by show(1000000000000:Int) - r3<=_;omega)⟩
  ·exact⟨_,SqL.of gp,_,rfl,fin _ Zo Zo⟩
def Ol (zs:List Str):Prop:=zs.Nodup/\(∀z∈zs,isNm z)/\2<=zs.length/\zs.length<=20
theorem Mt {d b:Addr} {H H':Hp} (s:Same H H'):Kp d b H H':=fun c o e _ _=>s c o e
theorem Al {H H':Hp} {d b:Addr} (D:Dk H d b) (k:Kp d b H H'):TK H H':=by
 obtain⟨ns0,s0,k0,gd,gb,_⟩:=D.ex
 exact fun t xs e=>k _ _ e (aK e gd fun z=>nomatch z) (aK e gb fun z=>nomatch z)
structure Yc (zs hs:List Str) (x:Dd):Prop where
 ok:x.Ok
 nm:∀q∈bW x,q.1∈zs
 ho:∀p∈pO x,p.1∈hs
def vX:Sp:=fun vs H Q _=>∃(d b l lh:Addr) (zs hs:List Str),vs=[.ref d,.ref l,.ref lh]/\Dk H d b/\H l=some (.lst (zs.map V.str))/\l≠d/\l≠b/\Ol zs/\H lh=some (.lst (hs.map V.str))/\lh≠d/\lh≠b/\hs.length=2/\hs.Nodup/\(∀z∈hs,isNm z)/\∀(t:Addr) (x:Dd) H',Yc zs hs x->H' t=some (.tup x.vs)->Dk H' d b->Kp d b H H'->Q (.ref t) H'
theorem Cz (T:Txt K mg) (cLdraw:aI P w K mg base 1 "_law_draw" ["_law_deck_here","_law_many"] lE) (cLamount:aI P w K mg base 2 "_law_amount" ["_law_deck_here"] vW) (D:DefAt K mg "_law_deed" iB ["_law_deck_here","_law_names_here","_law_houses"]):aI P w K mg base 3 "_law_deed" ["_law_deck_here","_law_names_here","_law_houses"] vX:=by
 refine D.go cK (fun vs H Q E h=>?_) (fun f cdv A outer s H vs Q E hr h=>?_)
 ·obtain⟨d,b,l,lh,zs,hs,rfl,_⟩:=h;rfl
 ·obtain⟨d,b,l,lh,zs,hs,rfl,dk,gl,nd,nb,hz,gh,hd',hb',hh2,hhn,hhm,q⟩:=h
  have hLdraw:Room 1 _:=hr.mono Zd
  have hLamount:=hr
  obtain⟨hnd,hnm,h2,h20⟩:=hz
  have el:(zs.map V.str).length=zs.length:=bN ..
  obtain⟨g0,g1,rfl⟩:∃g0 g1,hs=[g0,g1]:=by
   match hs,hh2 with
   | [g0,g1],_=>exact⟨g0,g1,rfl⟩
  have ng:g0≠g1:=by simpa using hhn
  have hg0:=hhm g0 Zs
  have hg1:=hhm g1 Zs
  refine⟨_,(R.ad (R.av (i:=3) cK.nd (R.fn cLdraw hLdraw rfl (R.aa (R.v 0) (R.aa (R.ax (R.bw (K:=K)) rfl T.b_len cH (R.aa (R.v 1) R.ab)) R.ab)))) (R.ad (R.av (i:=4) cK.nd (R.ix (R.be (K:=K)) (R.v 1) (R.op R.cg (R.op R.ba (R.op R.ba (R.v 3) R.ac) (R.fn cLdraw hLdraw rfl (R.aa (R.v 0) (R.aa (R.op R.et (R.ax (R.bw (K:=K)) rfl T.b_len cH (R.aa (R.v 1) R.ab)) R.ac) R.ab)))) (R.ax (R.bw (K:=K)) rfl T.b_len cH (R.aa (R.v 1) R.ab))))) (R.ad (R.av (i:=5) cK.nd (R.fn cLdraw hLdraw rfl (R.aa (R.v 0) (R.aa R.ac R.ab)))) (R.ad (R.av (i:=6) cK.nd (R.fn cLamount hLamount rfl (R.aa (R.v 0) R.ab))) (R.ad (R.av (i:=7) cK.nd (R.bj (R.aa (R.ap (R.aa R.ah (R.aa (R.ix (R.be (K:=K)) (R.v 1) (R.v 3)) (R.aa (R.v 6) R.ab)))) (R.aa (R.ap (R.aa R.ah (R.aa (R.ix (R.be (K:=K)) (R.v 1) (R.v 3)) (R.aa (R.v 6) R.ab)))) (R.aa (R.ap (R.aa R.ah (R.aa (R.ix (R.be (K:=K)) (R.v 1) (R.v 3)) (R.aa (R.v 4) (R.aa (R.v 6) R.ab))))) R.ab))))) (R.ad (R.av (i:=7) cK.nd (R.op R.ci (R.v 7) (R.bj (R.aa (R.ap (R.aa R.ah (R.aa (R.ix (R.be (K:=K)) (R.v 2) (R.v 5)) (R.aa (R.ix (R.be (K:=K)) (R.v 1) (R.v 3)) (R.aa (R.v 6) R.ab))))) (R.aa (R.ap (R.aa R.ah (R.aa (R.ix (R.be (K:=K)) (R.v 2) (R.v 5)) (R.aa (R.ix (R.be (K:=K)) (R.v 1) (R.v 3)) (R.aa (R.v 6) R.ab))))) R.ab))))) (R.ae (R.af (R.ix (R.be (K:=K)) (R.op R.ci (R.v 7) (R.bj (R.aa (R.ap (R.aa R.ah (R.aa (R.ix (R.be (K:=K)) (R.v 2) (R.v 5)) (R.aa (R.ix (R.be (K:=K)) (R.v 2) (R.op R.et R.ac (R.v 5))) (R.aa (R.ix (R.be (K:=K)) (R.v 1) (R.v 3)) (R.aa (R.v 6) R.ab)))))) R.ab))) (R.fn cLdraw hLdraw rfl (R.aa (R.v 0) (R.aa R.ac R.ab)))))))))))),?_⟩
  refine⟨_,.inl (SqL.of gl),d,b,_,rfl,dk,by rw[el];omega,by rw[el];omega,fun r1 H1 a0 a1 D1 k1=>?_⟩
  rw[el]at a1;dsimp only [aJ];have gl1:=k1 _ _ gl nd nb
  refine⟨_,.inl (SqL.of gl1),d,b,_,rfl,D1,by rw[el];omega,by rw[el];omega,fun r2 H2 b0 b1 D2 k2=>?_⟩
  rw[el]at b1;have gl2:=k2 _ _ gl1 nd nb
  refine⟨_,.inl (SqL.of gl2),by rw[el];omega,?_⟩
  rw[el];obtain⟨i,rfl⟩:=Int.eq_ofNat_of_zero_le a0
  have hi:i<zs.length:=by omega
  have ho0:0<=(((i:Int)+1+r2) % (zs.length:Int)):=Int.emod_nonneg _ Zo
  have ho1:(((i:Int)+1+r2) % (zs.length:Int))<zs.length:=Int.emod_lt_of_pos _ Zo
  have hon:(((i:Int)+1+r2) % (zs.length:Int))≠(i:Int):=by
   by_cases hlt:(i:Int)+1+r2<zs.length
   ·rw[Int.emod_eq_of_lt Zo hlt];omega
   ·have:((i:Int)+1+r2) % (zs.length:Int)=(i:Int)+1+r2 - zs.length:=by
     rw[<- Int.sub_emod_right,Int.emod_eq_of_lt Zo Zo]
    rw[this];omega
  obtain⟨o,ho⟩:=Int.eq_ofNat_of_zero_le ho0
  have hoe:((i:Int)+1+r2) % (zs.length:Int)=((o:Nat):Int):=ho
  dsimp only;rw[hoe];have ho':o<zs.length:=by omega
  have hio:i≠o:=by omega
  have ai:lM (zs.map V.str) (i:Int)=some (.str zs[i]):=gA (by rw[gQ,lO hi];rfl)
  have ao:lM (zs.map V.str) (o:Int)=some (.str zs[o]):=gA (by rw[gQ,lO ho'];rfl)
  have mi:=List.getElem_mem hi
  have mo:=List.getElem_mem ho'
  have nio:zs[i]≠zs[o]:=fun e=>hio (Aa hnd (by rw[lO hi]) (by rw[lO ho',e]))
  refine⟨_,SqL.of gl2,_,ao,?_⟩
  dsimp only [aJ];refine⟨d,b,2,rfl,D2,Zd,Zd,fun r3 H3 c0 c1 D3 k3=>?_⟩
  dsimp only [aJ];refine⟨d,b,rfl,D3,fun n H4 n1 n2 D4 k4=>?_⟩
  dsimp only [aJ];have k04:=((k1.trans k2).trans k3).trans k4
  have gl4:=k04 _ _ gl nd nb
  have gh4:=k04 _ _ gh hd' hb'
  obtain⟨ga,gb,hga,hgb,nab,ma,mb,hna,hnb⟩:∃ga gb:Str,lM ([g0,g1].map V.str) r3=some (.str ga)/\lM ([g0,g1].map V.str) (1 - r3)=some (.str gb)/\ga≠gb/\ga∈[g0,g1]/\gb∈[g0,g1]/\isNm ga/\isNm gb:=by
   have:r3=0∨r3=1:=by omega
   rcases this with rfl | rfl
   ·exact⟨g0,g1,rfl,rfl,ng,Zs,Zs,hg0,hg1⟩
   ·exact⟨g1,g0,rfl,rfl,ng.symm,Zs,Zs,hg1,hg0⟩
  refine⟨_,SqL.of gl4,_,ai,bH rfl,fun t1 H5 s5 e1=>⟨_,SqL.of (s5 _ _ gl4),_,ai,bH rfl,fun t2 H6 s6 e2=>⟨_,SqL.of (s6 _ _ (s5 _ _ gl4)),_,ai,bH rfl,fun t3 H7 s7 e3=>⟨kJ rfl,fun p hp=>?_⟩⟩⟩⟩
  have s57:=(s5.trans s6).trans s7
  dsimp only [aJ];have s8:=s57.trans (aF (o:=.lst [.ref t1,.ref t2,.ref t3]) hp)
  have e1':=(s6.trans s7).trans (aF (o:=.lst [.ref t1,.ref t2,.ref t3]) hp) _ _ e1
  have e2':=s7.trans (aF (o:=.lst [.ref t1,.ref t2,.ref t3]) hp) _ _ e2
  have e3':=aF (o:=.lst [.ref t1,.ref t2,.ref t3]) hp _ _ e3
  have gp:(aH H7 p (.lst [.ref t1,.ref t2,.ref t3])) p=some (.lst [.ref t1,.ref t2,.ref t3]):=aA
  generalize aH H7 p (.lst [.ref t1,.ref t2,.ref t3])=H8 at s8 e1' e2' e3' gp ⊢;refine⟨_,SqL.of (s8 _ _ gh4),_,hga,_,SqL.of (s8 _ _ gl4),_,ai,bH rfl,fun t4 H9 s9 e4=>⟨_,SqL.of (s9 _ _ (s8 _ _ gh4)),_,hga,_,SqL.of (s9 _ _ (s8 _ _ gl4)),_,ai,bH rfl,fun t5 H10 s10 e5=>⟨kJ rfl,fun p2 hp2=>⟨_,_,aF hp2 _ _ (s10 _ _ (s9 _ _ gp)),aA,kJ rfl,fun p3 hp3=>?_⟩⟩⟩⟩
  dsimp only [aJ];have s11:=(aF (o:=.lst [.ref t4,.ref t5]) hp2).trans (aF (o:=.lst ([.ref t1,.ref t2,.ref t3]++[.ref t4,.ref t5])) hp3)
  have gp3:(aH (aH H10 p2 (.lst [.ref t4,.ref t5])) p3 (.lst ([.ref t1,.ref t2,.ref t3]++[.ref t4,.ref t5]))) p3=some (.lst ([.ref t1,.ref t2,.ref t3]++[.ref t4,.ref t5])):=aA
  generalize aH (aH H10 p2 (.lst [.ref t4,.ref t5])) p3 (.lst ([.ref t1,.ref t2,.ref t3]++[.ref t4,.ref t5]))=H11 at s11 gp3 ⊢;have s811:=(s9.trans s10).trans s11
  have k11:=s8.trans s811
  refine⟨_,SqL.of (k11 _ _ gh4),_,hga,_,SqL.of (k11 _ _ gh4),_,hgb,_,SqL.of (k11 _ _ gl4),_,ai,bH rfl,fun t6 H12 s12 e6=>⟨kJ rfl,fun p4 hp4=>⟨_,_,aF hp4 _ _ (s12 _ _ gp3),aA,kJ rfl,fun p5 hp5=>?_⟩⟩⟩
  have s13:=(aF (o:=.lst [.ref t6]) hp4).trans (aF (o:=.lst ([.ref t1,.ref t2,.ref t3]++[.ref t4,.ref t5]++[.ref t6])) hp5)
  have gp5:(aH (aH H12 p4 (.lst [.ref t6])) p5 (.lst ([.ref t1,.ref t2,.ref t3]++[.ref t4,.ref t5]++[.ref t6]))) p5=some (.lst ([.ref t1,.ref t2,.ref t3]++[.ref t4,.ref t5]++[.ref t6])):=aA
  have D12:=D4.same (k11.trans s12)
  have np5:=(D12.new (o:=.lst [.ref t6]) hp4).ne hp5
  generalize aH (aH H12 p4 (.lst [.ref t6])) p5 (.lst ([.ref t1,.ref t2,.ref t3]++[.ref t4,.ref t5]++[.ref t6]))=H13 at s13 gp5 ⊢;have D13:=D12.same s13
  refine⟨d,b,6,rfl,D13,Zd,Zd,fun r5 H14 f0 f1 D14 k14=>?_⟩
  have gp14:=k14 _ _ gp5 np5.1 np5.2
  have kk:Kp d b H H14:=((k04.trans (Mt ((k11.trans s12).trans s13)))).trans k14
  have tk:=Al D13 k14
  have one:∀(g:Int) (q:Str × Int),q∈[(zs[i],g)]->q.1∈zs:=fun g q hq=>by rw[Zms.mp hq];exact mi
  have s8_13:=(s811.trans s12).trans s13
  rcases Yp f0 f1 with rfl | rfl | rfl | rfl | rfl | rfl
  ·exact⟨_,SqL.of gp14,_,rfl,q t1 (.add zs[i] n) H14 ⟨⟨hnm _ mi,n1,n2⟩,one _,fun p hp=>nomatch hp⟩ (tk _ _ (s8_13 _ _ e1')) D14 kk⟩
  ·exact⟨_,SqL.of gp14,_,rfl,q t2 (.take zs[i] n) H14 ⟨⟨hnm _ mi,n1,n2⟩,one _,fun p hp=>nomatch hp⟩ (tk _ _ (s8_13 _ _ e2')) D14 kk⟩
  ·refine⟨_,SqL.of gp14,_,rfl,q t3 (.move zs[i] zs[o] n) H14 ⟨⟨hnm _ mi,hnm _ mo,nio,n1,n2⟩,fun q hq=>?_,fun p hp=>nomatch hp⟩ (tk _ _ (s8_13 _ _ e3')) D14 kk⟩
   simp only [bW,List.mem_cons,List.not_mem_nil,or_false]at hq
   rcases hq with rfl | rfl
   ·exact mi
   ·exact mo
  ·exact⟨_,SqL.of gp14,_,rfl,q t4 (.send ga zs[i] n) H14 ⟨⟨hna,hnm _ mi,n1,n2⟩,one _,fun p hp=>by rw[Zms.mp hp];exact ma⟩ (tk _ _ (((s10.trans s11).trans s12).trans s13 _ _ e4)) D14 kk⟩
  ·exact⟨_,SqL.of gp14,_,rfl,q t5 (.fetch ga zs[i] n) H14 ⟨⟨hna,hnm _ mi,n1,n2⟩,one _,fun p hp=>by rw[Zms.mp hp];exact ma⟩ (tk _ _ ((s11.trans s12).trans s13 _ _ e5)) D14 kk⟩
  ·refine⟨_,SqL.of gp14,_,rfl,q t6 (.pass ga gb zs[i] n) H14 ⟨⟨hna,hnb,hnm _ mi,nab,n1,n2⟩,(fun q hq=>nomatch hq),fun p hp=>?_⟩ (tk _ _ (s13 _ _ e6)) D14 kk⟩
   simp only [pO,List.mem_cons,List.not_mem_nil,or_false]at hp
   rcases hp with rfl | rfl
   ·exact ma
   ·exact mb
end
end KL
namespace KL
open PySem L2
section
variable {P:Program} {w:World} {K:W.Frag} {mg:Str->Option Value} {base:Heap}
def tT:Dd->List Str
 | .add a _=>[a]
 | .take a _=>[a]
 | .move a b _=>[a,b]
 | .send _ a _=>[a]
 | .fetch _ a _=>[a]
 | .pass _ _ _ _=>[]
theorem tV (x:Dd) (z:Str):z∈tT x↔z∈fF x:=by
 cases x with
 | move a b n=>exact(kX [a,b]).mem_iff.symm
 | _=>exact Iff.rfl
theorem Sw (x:Dd):(tT x).length<=2:=by cases x <;> simp [tT]
theorem gP (x y:Dd):gE x y=true↔∃z,z∈tT x/\z∈tT y:=by
 unfold gE;rw[List.any_eq_true];constructor
 ·rintro⟨z,h1,h2⟩
  exact⟨z,(tV x z).mpr h1,(tV y z).mpr (of_decide_eq_true h2)⟩
 ·rintro⟨z,h1,h2⟩
  exact⟨z,(tV x z).mp h1,decide_eq_true ((tV y z).mp h2)⟩
def rJ:Sp:=fun vs H Q _=>∃(t:Addr) (x:Dd),vs=[.ref t]/\H t=some (.tup x.vs)/\∀l H',Same H H'->H' l=some (.lst ((tT x).map V.str))->Q (.ref l) H'
theorem yH (D:DefAt K mg "_law_names" gD ["_law_deed_here"]):aI P w K mg base 1 "_law_names" ["_law_deed_here"] rJ:=by
 refine D.go tP (fun vs H Q E h=>?_) (fun f cdv A outer s H vs Q E hr h=>?_)
 ·obtain⟨t,x,rfl,_⟩:=h;rfl
 ·obtain⟨t,x,rfl,g,q⟩:=h
  refine⟨_,(R.ad (R.ar (R.aj R.eq (R.ix (R.ag (K:=K)) (R.v 0) R.ac) R.ah) (R.ae (R.af (R.bj (R.aa (R.ix (R.ag (K:=K)) (R.v 0) R.ac) (R.aa (R.ix (R.ag (K:=K)) (R.v 0) R.ac) R.ab))))) R.au) (R.ad (R.ar (R.aj R.eq (R.ix (R.ag (K:=K)) (R.v 0) R.ac) R.ah) (R.ae (R.af (R.bj R.ab))) R.au) (R.ae (R.af (R.bj (R.aa (R.ix (R.ag (K:=K)) (R.v 0) (R.bb R.ac)) R.ab)))))),?_⟩
  cases x with
  | move a b n=>exact⟨_,SqT.of g,_,rfl,_,SqT.of g,_,rfl,_,SqT.of g,_,rfl,kJ rfl,fun p hp=>q p _ (aF hp) aA⟩
  | pass a b c n=>exact⟨_,SqT.of g,_,rfl,_,SqT.of g,_,rfl,kJ rfl,fun p hp=>q p _ (aF hp) aA⟩
  | add a n=>exact⟨_,SqT.of g,_,rfl,_,SqT.of g,_,rfl,_,SqT.of g,_,rfl,kJ rfl,fun p hp=>q p _ (aF hp) aA⟩
  | take a n=>exact⟨_,SqT.of g,_,rfl,_,SqT.of g,_,rfl,_,SqT.of g,_,rfl,kJ rfl,fun p hp=>q p _ (aF hp) aA⟩
  | send g0 a n=>exact⟨_,SqT.of g,_,rfl,_,SqT.of g,_,rfl,_,SqT.of g,_,rfl,kJ rfl,fun p hp=>q p _ (aF hp) aA⟩
  | fetch g0 a n=>exact⟨_,SqT.of g,_,rfl,_,SqT.of g,_,rfl,_,SqT.of g,_,rfl,kJ rfl,fun p hp=>q p _ (aF hp) aA⟩
def Sx (r:Rn):List V:=[.str r.q.1,.str r.q.2,.ref r.d,.str r.st]
def TbAt (H:Hp) (r:Rn) (kv:aZ × V):Prop:=kv.1=Sum.inl (r.n:Int)/\∃t,kv.2=.ref t/\H t=some (.tup (Sx r))
theorem TbAt.tk {H H':Hp} {r:Rn} {kv:aZ × V} (h:TbAt H r kv) (k:TK H H'):TbAt H' r kv:=let ⟨e,t,e2,g⟩:=h;⟨e,t,e2,k _ _ g⟩
theorem lK {H:Hp} {rs:List Rn} {kvs:List (aZ × V)} (h:Paired (TbAt H) rs kvs):kvs.map (·.1)=(rs.map fun r=>(r.n:Int)).map Sum.inl:=by
 induction h with
 | nil=>rfl
 | cons h t ih=>rw[List.map_cons,ih,h.1];rfl
theorem iF {H:Hp} {rs:List Rn} {kvs:List (aZ × V)} (h:Paired (TbAt H) rs kvs) (hu:rs.Pairwise fun r r'=>r.n<r'.n) {r:Rn} (hr:r∈rs):∃t,aX kvs (Sum.inl (r.n:Int))=some (.ref t)/\H t=some (.tup (Sx r)):=by
 induction h with
 | nil=>cases hr
 | @cons r0 kv rs kvs h t ih=>
  obtain⟨h1,h2⟩:=List.pairwise_cons.mp hu
  rcases List.mem_cons.mp hr with rfl | m
  ·obtain⟨e,t0,e2,g⟩:=h
   exact⟨t0,by rw[bP e,e2],g⟩
  ·have hlt:=h1 r m
   rw[bQ (fun e=>by rw[h.1]at e;have e':(r0.n:Int)=(r.n:Int):=Sum.inl.inj e;omega)]
   exact ih h2 m
theorem Sy {H:Hp} {pre post:List Rn} {r r':Rn} {kvs:List (aZ × V)} {t:Addr} (h:Paired (TbAt H) (pre++r::post) kvs) (hu:(pre++r::post).Pairwise fun r r'=>r.n<r'.n) (hn:r'.n=r.n) (g:H t=some (.tup (Sx r'))):Paired (TbAt H) (pre++r'::post) (bF kvs (Sum.inl (r.n:Int)) (.ref t)):=by
 obtain⟨t0,hv,_⟩:=iF h hu (r:=r) Zs
 unfold bF;rw[if_pos (by rw[cB,hv];rfl)]
 clear hv;induction pre generalizing kvs with
 | nil=>
  cases h with
  | cons h1 h2=>
   have hu':=(List.pairwise_cons.mp hu).1
   rw[List.map_cons,if_pos h1.1];refine .cons ⟨by rw[h1.1,hn],t,rfl,g⟩ ?_
   have:∀ {rs:List Rn} {kvs:List (aZ × V)},Paired (TbAt H) rs kvs->(∀a∈rs,r.n<a.n)->Paired (TbAt H) rs (kvs.map fun kv=>if kv.1=Sum.inl (r.n:Int) then (kv.1,V.ref t) else kv):=by
    intro rs kvs p;induction p with
    | nil=>intro _;exact .nil
    | @cons a kv rs kvs h t ih=>
     intro hl;rw[List.map_cons,if_neg (fun e=>by rw[h.1]at e;have e':(a.n:Int)=(r.n:Int):=Sum.inl.inj e;have:=hl a Zs;omega)]
     exact .cons h (ih fun b hb=>hl b (jM _ hb))
   exact this h2 hu'
 | cons a pre ih=>
  cases h with
  | cons h1 h2=>
   obtain⟨u1,u2⟩:=List.pairwise_cons.mp hu
   rw[List.map_cons,if_neg (fun e=>by rw[h1.1]at e;have e':(a.n:Int)=(r.n:Int):=Sum.inl.inj e;have:=u1 r Zs;omega)]
   exact .cons h1 (ih h2 u2)
theorem Mu {H:Hp} {rs:List Rn} {kvs:List (aZ × V)} (h:Paired (TbAt H) rs kvs) (n:Nat):Paired (TbAt H) (rs.filter fun r=>decide (r.n≠n)) (bV kvs (Sum.inl (n:Int))):=by
 induction h with
 | nil=>exact .nil
 | @cons r kv rs kvs h t ih=>
  by_cases e:r.n=n
  ·rw[qO (by rw[h.1,e]),List.filter_cons,if_neg (by simp [e])];exact ih
  ·rw[lU (by rw[h.1];intro z;have:=Sum.inl.inj z;omega),List.filter_cons,if_pos (by simp [e])];exact .cons h ih
theorem tX {rs:List Rn} (hu:rs.Pairwise fun r r'=>r.n<r'.n) {r r':Rn} (h:r∈rs) (h':r'∈rs) (e:r.n=r'.n):r=r':=by
 obtain⟨i,hi,rfl⟩:=List.mem_iff_getElem.mp h
 obtain⟨j,hj,rfl⟩:=List.mem_iff_getElem.mp h'
 have p:=List.pairwise_iff_getElem.mp hu
 rcases Nat.lt_trichotomy i j with z | z | z
 ·have:=p i j hi hj z;omega
 ·subst z;rfl
 ·have:=p j i hj hi z;omega
def Yq (rs:List Rn):V:=match rs with | []=>.non | r::_=>.int (r.n:Int)
def jL:Sp:=fun vs H Q _=>∃(tb:Addr) (rs:List Rn) (kvs:List (aZ × V)) (r:Rn),vs=[.ref tb,.int r.n]/\H tb=some (.dK kvs)/\Paired (TbAt H) rs kvs/\rs.Pairwise (fun r r'=>r.n<r'.n)/\(∀r∈rs,H r.d=some (.tup r.x.vs))/\r∈rs/\r.st="new"/\rs.length<64/\∀H',Same H H'->Q (Yq (rs.filter fun r'=>bM r r')) H'
theorem yI (T:Txt K mg) (cLnames:aI P w K mg base 1 "_law_names" ["_law_deed_here"] rJ) (D:DefAt K mg "_law_blocked" cX ["_law_table","_law_number"]):aI P w K mg base 2 "_law_blocked" ["_law_table","_law_number"] jL:=by
 refine D.go jB (fun vs H Q E h=>?_) (fun f cdv A outer s H vs Q E hr h=>?_)
 ·obtain⟨tb,rs,kvs,r,rfl,_⟩:=h;rfl
 ·obtain⟨tb,rs,kvs,r,rfl,gtb,tab,hasc,hdd,hrm,hst,hl,q⟩:=h
  have hu1:=cS hr
  have hu:=hr.units0
  have hLnames:=hr
  obtain⟨t0,hv0,g0⟩:=iF tab hasc hrm
  refine⟨_,(R.ad (R.bq PassesOwn.never rfl (R.bf (K:=K) (R.ax (R.cp rfl) rfl T.b_sorted cO (R.aa (R.v 0) R.ab))) (R.gn (i:=2) jB.nd) (R.ae (R.ar (R.tw (R.cr (R.aj R.ne (R.v 2) (R.v 1)) (R.cu (R.aj R.ne (R.ix (R.ag (K:=K)) (R.bh hu1 (R.v 0) (R.v 2)) R.ac) R.ah)))) (R.ae (R.ar (R.aj (R.er (K:=K) hu) (R.bi rfl (js:=[none,some 0,some 1]) (N:=["_law_name","_law_table","_law_number"]) (CompScope.by (aB cX) ["_law_table","_law_number","_law_other"] rfl rfl Zk) (aO rfl) (R.bf (K:=K) (R.fn cLnames hLnames rfl (R.aa (R.ix (R.ag (K:=K)) (R.bh hu1 (R.v 0) (R.v 2)) R.ac) R.ab))) (fun C s₂ H₂ fp=>⟨(R.gn (i:=0) (show(["_law_name","_law_table","_law_number"]:List Str).Nodup by decide +kernel)),(R.bt (R.aj (R.dj (K:=K)) (R.v 0) (R.fn cLnames hLnames rfl (R.aa (R.ix (R.ag (K:=K)) (R.bh hu1 (R.v 1) (R.v 2)) R.ac) R.ab)))),(R.v 0)⟩)) (R.bj R.ab)) (R.ae (R.af (R.v 2))) R.au)) R.au))) (R.ae (R.af R.cf))),?_⟩
  refine⟨rs.map fun r=>(r.n:Int),_,.inl gtb,lK tab,by rw[bN];exact hl,fun l ns hlf hp hso=>⟨l,rfl,⟨_,SqL.of aA⟩,?_⟩⟩
  have ens:ns=rs.map fun r=>(r.n:Int):=fA hso (List.pairwise_map.mpr (hasc.imp fun z=>by omega)) hp
  subst ens;have k1:=aF (o:=.lst ((rs.map fun r=>(r.n:Int)).map V.int)) hlf
  have gl:(aH H l (.lst ((rs.map fun r=>(r.n:Int)).map V.int))) l=some (.lst ((rs.map fun r=>(r.n:Int)).map V.int)):=aA
  generalize aH H l (.lst ((rs.map fun r=>(r.n:Int)).map V.int))=H1 at k1 gl ⊢
  have eL:((rs.map fun r=>(r.n:Int)).map V.int).length=rs.length:=by rw[bN,bN]
  refine eC (bR K l ((rs.map fun r=>(r.n:Int)).map V.int)) (fun i σ H'=>Same H1 H'/\(∃o,σ=[some (.ref tb),some (.int r.n),o])/\(rs.take i).filter (fun r'=>bM r r')=[]) (fun i σ H' e=>SqL.of (e.1 _ _ gl)) ⟨Same.refl _,⟨_,rfl⟩,rfl⟩ ?_ ?_
  ·rintro i x σ H' hx ⟨s1,⟨o,rfl⟩,hno⟩
   rw[List.map_map,gQ]at hx;obtain⟨r',hr',rfl⟩:=Option.map_eq_some_iff.mp hx
   have hm:=kK hr'
   have k':=k1.trans s1
   have gtb':=k' _ _ gtb
   obtain⟨t1,hv1,g1⟩:=iF tab hasc hm
   have dg1:=DGet.k (k:=Sum.inl (r'.n:Int)) gtb'
   rw[hv1]at dg1;have skip:∀H2,Same H' H2->bM r r'=false->Same H1 H2/\(∃o,([some (.ref tb),some (.int r.n),some (.int (r'.n:Int))]:St)=[some (.ref tb),some (.int r.n),o])/\(rs.take (i+1)).filter (fun r'=>bM r r')=[]:=fun H2 s2 hb=>by
    refine⟨s1.trans s2,⟨_,rfl⟩,?_⟩
    rw[aY hr',List.filter_append,hno,List.filter_cons,if_neg (by rw[hb];exact Bool.false_ne_true)]
    rfl
   dsimp only [aJ];refine Gy (fun v H2=>H2=H'/\v=decide (r'.n≠r.n/\r'.st≠"new")) (fun k hk=>?_) (fun H2 e=>?_) (fun H2 e=>?_)
   ·show if (!decide ((r'.n:Int)=(r.n:Int)))=true then _ else _
    refine fX (fun h1=>?_) (fun h1=>?_)
    ·have hne:r'.n≠r.n:=fun e=>(show ¬ (r'.n:Int)=(r.n:Int) by simpa using h1) (by rw[e])
     refine⟨tb,.ref t1,rfl,dg1,_,SqT.of (k' _ _ g1),_,rfl,?_⟩
     refine hk _ _ ⟨rfl,?_⟩
     rw[show(decide (r'.n≠r.n/\r'.st≠"new"))=(!decide (r'.st="new")) by simp [hne]]
    ·have heq:r'.n=r.n:=Int.ofNat.inj (show(r'.n:Int)=(r.n:Int) by simpa using h1)
     refine hk _ _ ⟨rfl,?_⟩
     rw[decide_eq_false (fun z=>z.1 heq)]
   ·obtain⟨rfl,e⟩:=e
    obtain⟨hne,hsn⟩:=of_decide_eq_true e.symm
    have hl2:=Sw r'.x
    refine⟨tb,.ref t1,rfl,dg1,_,SqT.of (k' _ _ g1),_,rfl,r'.d,r'.x,rfl,k' _ _ (hdd r' hm),fun l1 H3 s3 gl1=>⟨l1,rfl,⟨_,SqL.of gl1⟩,?_⟩⟩
    refine bB (bR K l1 ((tT r'.x).map V.str)) (by rw[bN];omega) (fun j ys H4=>Same H3 H4/\ys=(((tT r'.x).take j).filter fun z=>decide (z∈tT r.x)).map V.str) (fun j ys H4 ⟨e1,e2⟩=>⟨SqL.of (e1 _ _ gl1),by rw[e2,bN];exact fU (List.length_filter_le _ _) (by rw[oC];omega)⟩) ⟨Same.refl _,rfl⟩ (fun j y ys H4 hy ⟨e1,e2⟩=>?_) (fun ys H4 ⟨e1,e2⟩=>?_)
    ·rw[gQ]at hy;obtain⟨z,hz,rfl⟩:=Option.map_eq_some_iff.mp hy
     have k4:=(k'.trans s3).trans e1
     have dg0:=DGet.k (k:=Sum.inl (r.n:Int)) (k4 _ _ gtb)
     rw[hv0]at dg0;dsimp only [aJ];refine⟨tb,.ref t0,rfl,dg0,_,SqT.of (k4 _ _ g0),_,rfl,r.d,r.x,rfl,k4 _ _ (hdd r hrm),fun l2 H5 s5 gl2=>⟨l2,_,rfl,.inl (SqL.of gl2),rfl,by simp [eN],?_⟩⟩
     show if rY (.str z) ((tT r.x).map V.str)=true then _ else _
     rw[vU,aY hz,List.filter_append,iG,e2];refine fX (fun hb=>?_) (fun hb=>?_)
     ·exact⟨e1.trans s5,by rw[List.filter_cons,if_pos hb];rfl⟩
     ·exact⟨e1.trans s5,by rw[List.filter_cons,if_neg (by rw[hb];exact Bool.false_ne_true)];simp⟩
    ·rw[bN,List.take_length]at e2;intro l3 hl3;have s5:=aF (o:=.lst ys) hl3
     have gl3:(aH H4 l3 (.lst ys)) l3=some (.lst ys):=aA
     generalize aH H4 l3 (.lst ys)=H5 at s5 gl3 ⊢;refine⟨kJ rfl,fun l4 hl4=>⟨l3,l4,ys,rfl,rfl,SqL.of (aF hl4 _ _ gl3),SqL.of aA,?_⟩⟩
     have k6:=((s3.trans e1).trans s5).trans (aF (o:=.lst []) hl4)
     have hh:bM r r'=gE r.x r'.x:=by unfold bM;rw[decide_eq_false hsn];rfl
     cases hy:(tT r'.x).filter (fun z=>decide (z∈tT r.x)) with
     | nil=>
      rw[hy]at e2;subst e2;have ht:gE r.x r'.x=false:=by
       cases h:gE r.x r'.x with
       | false=>rfl
       | true=>
        obtain⟨z,z1,z2⟩:=(gP _ _).mp h
        have:z∈(tT r'.x).filter (fun z=>decide (z∈tT r.x)):=List.mem_filter.mpr ⟨z2,decide_eq_true z1⟩
        rw[hy]at this;cases this
      exact skip _ k6 (hh.trans ht)
     | cons z zs=>
      rw[hy]at e2;subst e2;have hz:z∈(tT r'.x).filter (fun z=>decide (z∈tT r.x)):=by rw[hy];simp
      obtain⟨z1,z2⟩:=List.mem_filter.mp hz
      have ht:gE r.x r'.x=true:=(gP _ _).mpr ⟨z,of_decide_eq_true z2,z1⟩
      have h:=q _ (k'.trans k6)
      have hi:i<rs.length:=(Zgs.mp hr').1
      have ef:rs.filter (fun r'=>bM r r')=r'::(rs.drop (i+1)).filter (fun r'=>bM r r'):=by
       conv=>lhs;rw[<- List.take_append_drop (i+1) rs,aY hr']
       rw[List.filter_append,List.filter_append,hno,List.filter_cons,if_pos (hh.trans ht)];rfl
      rw[ef]at h;exact h
   ·obtain⟨rfl,e⟩:=e
    have hb:bM r r'=false:=by
     unfold bM;by_cases hs:r'.st="new"
     ·rw[decide_eq_true hs];rfl
     ·have hn:r'.n=r.n:=Decidable.byContradiction fun z=>of_decide_eq_false e.symm ⟨z,hs⟩
      exact absurd (by rw[tX hasc hm hrm hn];exact hst) hs
    exact skip _ (Same.refl _) hb
  ·rintro σ H' ⟨s1,⟨o,rfl⟩,hno⟩
   rw[eL,List.take_length]at hno;have h:=q H' (k1.trans s1)
   rw[hno]at h;exact h
end
end KL
namespace KL
open PySem L2
section
variable {P:Program} {w:World} {K:W.Frag} {mg:Str->Option Value} {base:Heap}
theorem Mw {prs:List (Str × Int)} {n:Str} {v:Int} {zn:List Str} (h:∀m∈prs.map (·.1),m∈zn) (hn:n∈zn):∀m∈(lF prs n v).map (·.1),m∈zn:=by
 rw[mQ];split
 ·exact h
 ·intro m hm;rcases Zma.mp hm with hm | hm
  ·exact h m hm
  ·cases Zms.mp hm;exact hn
theorem Am {zn:List Str}:∀(cs prs:List (Str × Int)),(∀m∈prs.map (·.1),m∈zn)->(∀q∈cs,q.1∈zn)->∀m∈(iN prs cs).map (·.1),m∈zn
 | [],_,h,_=>h
 | q::r,_,h,hc=>Am r _ (Mw h (hc q pR)) fun p hp=>hc p (jM _ hp)
theorem Wg {xs:List Str}:∀ {ys:List Str},xs.Nodup->(∀x∈xs,x∈ys)->xs.length<=ys.length:=by
 induction xs with
 | nil=>exact fun _ _=>Nat.zero_le _
 | cons x r ih=>
  intro ys hn h;obtain⟨h1,h2⟩:=List.nodup_cons.mp hn
  have hx:=h x pR
  have:=ih (ys:=ys.erase x) h2 fun y hy=>(List.mem_erase_of_ne (fun e=>h1 (by rw[<- e];exact hy))).mpr (h y (jM _ hy))
  rw[List.length_erase_of_mem hx]at this;have hp:0<ys.length:=List.length_pos_of_mem hx
  rw[wG];omega
def RowOk (H:Hp) (v:V):Prop:=∃(t:Addr) (wd:Str) (n:Nat) (xs:List V),v=.ref t/\H t=some (.tup (.str wd::.int (n:Int)::xs))
def AskRow (H:Hp) (v:V) (n:Nat):Prop:=∃t,v=.ref t/\H t=some (.tup [.str "asked",.int (n:Int)])
inductive NewsOk (H:Hp) (f:Str->Nat):List V->List Rn->Prop
 | nil:NewsOk H f [] []
 | skip {t:Addr} {wd:Str} {xs vs:List V} {ws:List Rn}:H t=some (.tup (.str wd::xs))->wd≠"done"->NewsOk H f vs ws->NewsOk H f (.ref t::vs) ws
 | done {t z:Addr} {r:Rn} {w:Int} {y:An} {vs:List V} {ws:List Rn}:H t=some (.tup [.str "done",.int r.n,.int w,.ref z])->H z=some (.tup y.vs)->aQ f r.x=some y->NewsOk H f vs ws->NewsOk H f (.ref t::vs) (r::ws)
theorem NewsOk.tk {H H':Hp} {f:Str->Nat} {vs:List V} {ws:List Rn} (h:NewsOk H f vs ws) (k:TK H H'):NewsOk H' f vs ws:=by
 induction h with
 | nil=>exact .nil
 | skip g hne _ ih=>exact .skip (k _ _ g) hne ih
 | done g gz hy _ ih=>exact .done (k _ _ g) (k _ _ gz) hy ih
theorem NewsOk.app {H:Hp} {f:Str->Nat} {vs vs':List V} {ws ws':List Rn} (h:NewsOk H f vs ws) (h':NewsOk H f vs' ws'):NewsOk H f (vs++vs') (ws++ws'):=by
 induction h with
 | nil=>exact h'
 | skip g hne _ ih=>exact .skip g hne ih
 | done g gz hy _ ih=>exact .done g gz hy ih
theorem yJ {f g:Str->Nat} {x:Dd} (h:∀q∈bW x,f q.1=g q.1):aQ f x=aQ g x:=by
 cases x with
 | add a n=>have:=h (a,(n:Int)) (by simp [bW]);simp only [aQ];simp only at this;rw[this]
 | take a n=>have:=h (a,-(n:Int)) (by simp [bW]);simp only [aQ];simp only at this;rw[this]
 | move a b n=>
  have h1:=h (a,-(n:Int)) (by simp [bW])
  have h2:=h (b,(n:Int)) (by simp [bW])
  simp only at h1 h2
  simp only [aQ];rw[h1,h2]
 | send g0 a n=>have:=h (a,-(n:Int)) (by simp [bW]);simp only [aQ];simp only at this;rw[this]
 | fetch g0 a n=>have:=h (a,(n:Int)) (by simp [bW]);simp only [aQ];simp only at this;rw[this]
 | pass g0 g1 a n=>rfl
theorem Db {f:Str->Nat} {x:Dd} {y:An} {z:Str} (h:∀q∈bW x,q.1≠z):after f x y z=f z:=by
 have o:∀ {a:Str} {g:Str->Nat} {v:Nat},a≠z->eZ g a v z=g z:=fun hne=>by unfold eZ;rw[if_neg fun e=>hne e.symm]
 cases x with
 | add a n=>cases y <;> first | rfl | exact o (h (a,(n:Int)) (by simp [bW]))
 | take a n=>cases y <;> first | rfl | exact o (h (a,-(n:Int)) (by simp [bW]))
 | move a b n=>
  cases y with
  | is2 l m=>
   show eZ (eZ f a _) b _ z=f z
   rw[o (h (b,(n:Int)) (by simp [bW])),o (h (a,-(n:Int)) (by simp [bW]))]
  | _=>rfl
 | send g a n=>cases y <;> first | rfl | exact o (h (a,-(n:Int)) (by simp [bW]))
 | fetch g a n=>cases y <;> first | rfl | exact o (h (a,(n:Int)) (by simp [bW]))
 | pass g g' a n=>cases y <;> rfl
theorem Ao {x:Dd} {q:Str × Int} (h:q∈bW x):q.1∈tT x:=by
 cases x <;> simp only [bW,List.mem_cons,List.not_mem_nil,or_false]at h
 case move a b n=>rcases h with rfl | rfl <;> simp [tT]
 all_goals (subst h;simp [tT])
theorem Sz {x:Dd} {y:An} {q:Str × Int} (h:q∈wF x y):q∈bW x:=by
 cases x <;> cases y <;> first | exact h | exact nomatch h
structure Om (zs:List Str) (s s':DS) (ws:List Rn):Prop where
 runs:s'.runs=s.runs.filter fun r=>decide (r.n∉ws.map (·.n))
 life:s'.life=s.life
 turn:s'.turn=s.turn
 next:s'.next=s.next
 hs:s'.hs=s.hs
 rows:s'.rows=s.rows
 safe:s'.safe=s.safe
 L:s'.L+s'.runs.length=s.L+s.runs.length
 m:∀q,(∀r∈ws,r.q≠q)->s'.m q=s.m q
 mo:∀q e,s'.m q=some e->(∃r∈ws,r.q=q)∨s.m q=some e
 pl:∀z∈s'.prs.map (·.1),z∈zs
 bk:∃f:Str->Nat,(∀z,cD s'.prs z=(f z:Int))/\∀z,f z<=1000000000000
theorem Mx {H:Hp} {f:Str->Nat} {zs:List Str} (hz:zs.length<=20) {news:List V} {ws:List Rn} (h:NewsOk H f news ws):∀(s:DS) (fc:Str->Nat),(ws.map (·.n)).Nodup->(∀r∈ws,r∈s.runs)->(s.runs.Pairwise fun r r'=>r.n<r'.n)->(s.prs.map (·.1)).Nodup->(∀z∈s.prs.map (·.1),z∈zs)->s.L+ws.length<=500->(∀r∈ws,s.m r.q=some (.busy r.n r.d)/\r.x.Ok/\∀q∈bW r.x,q.1∈zs) →
  (∀r∈ws,∀r'∈ws,r.n≠r'.n->gE r.x r'.x=false)->(∀z,cD s.prs z=(fc z:Int))->(∀z,fc z<=1000000000000)->(∀r∈ws,∀q∈bW r.x,fc q.1=f q.1)->∃s' ts,gK H s news s' ts/\ts.map (·.1)=ws/\Om zs s s' ws:=by
 induction h with
 | nil=>
  intro s fc _ _ _ _ hpl _ _ _ hf hf12 _;exact⟨s,[],.nil,rfl,⟨(List.filter_eq_self.mpr fun a _=>decide_eq_true (fun m=>nomatch m)).symm,rfl,rfl,rfl,rfl,rfl,rfl,rfl,fun _ _=>rfl,fun _ _ h=>.inr h,hpl,⟨fc,hf,hf12⟩⟩⟩
 | skip g hne _ ih=>
  intro s fc h1 h2 h3 h4 h5 h6 h7 h8 h9 h10 h11;obtain⟨s',ts,e1,e2,e3⟩:=ih s fc h1 h2 h3 h4 h5 h6 h7 h8 h9 h10 h11
  exact⟨s',ts,.skip g hne e1,e2,e3⟩
 | @done t z r w y vs ws g gz hy _ ih=>
  intro s fc hnd hin hup hpn hpl hL hws htc hf hf12 hag;rw[List.map_cons]at hnd;obtain⟨hn1,hn2⟩:=List.nodup_cons.mp hnd
  have hrm:=hin r Zs
  obtain⟨hm,hx,hxz⟩:=hws r Zs
  obtain⟨pre,post,hs⟩:=List.append_of_mem hrm
  have hR:pN fc r.x false y:=.inl ⟨rfl,by rw[yJ (g:=f) (hag r Zs)];exact hy⟩
  have hof:=(Hl hf12 hx hR (fun z=>nomatch z)).1
  have hap:=vI hx hR
  have hple:s.prs.length<=90:=by
   have:=Wg hpn hpl
   rw[bN]at this;omega
  have hlt:∀r'∈ws,r'.n≠r.n:=fun r' h' e=>hn1 (by rw[<- e];exact List.mem_map_of_mem h')
  have hq:∀r'∈ws,r'.q≠r.q:=fun r' h' e=>by
   have z1:=(hws r' (jM _ h')).1
   rw[e,hm]at z1;have z2:r.n=r'.n:=by injection z1 with z1;injection z1 with z1;omega
   exact hlt r' h' z2.symm
  have hup':=hup
  rw[hs]at hup';have sub:(pre++post).Sublist s.runs:=by rw[hs];exact List.Sublist.append_left (List.sublist_cons_self _ _) _
  have hfil:pre++post=s.runs.filter fun r'=>decide (r'.n≠r.n):=by
   have p1:=List.pairwise_append.mp hup'
   have p2:=List.pairwise_cons.mp p1.2.1
   rw[hs,List.filter_append,List.filter_cons,if_neg Zs]
   congr 1
   ·exact(List.filter_eq_self.mpr fun a ha=>decide_eq_true (by have:=p1.2.2 a ha r Zs;omega)).symm
   ·exact(List.filter_eq_self.mpr fun a ha=>decide_eq_true (by have:=p2.1 a ha;omega)).symm
  obtain⟨s',ts,e1,e2,e3⟩:=ih {s with runs:=pre++post,prs:=iN s.prs (wF r.x y),m:=s.m.set r.q (some (.kept r.n w r.d z)),L:=s.L+1 } (after fc r.x y) hn2 (fun r' h'=>by
    show r'∈pre++post
    rw[hfil];exact List.mem_filter.mpr ⟨hin r' (jM _ h'),decide_eq_true (hlt r' h')⟩) (hup.sublist sub) (oI _ _ hpn) (Am _ _ hpl fun q hq=>hxz q (Sz hq)) (by show s.L+1+ws.length<=500;rw[wG]at hL;omega) (fun r' h'=>by
    obtain⟨z1,z2,z3⟩:=hws r' (jM _ h')
    exact⟨by show(s.m.set r.q _) r'.q=_;rw[KM.set_ne (hq r' h')];exact z1,z2,z3⟩) (fun r1 h1 r2 h2=>htc r1 (jM _ h1) r2 (jM _ h2)) (fun u=>by
    show cD (iN s.prs (wF r.x y)) u=_
    rw[vL _ _ fc hap.2 hf,hap.1]) (Hm hf12 hR) (fun r' h' q hq'=>by
    rw[Db fun q0 h0 e0=>?_]
    ·exact hag r' (jM _ h') q hq'
    ·have ht:=htc r Zs r' (jM _ h') (hlt r' h').symm
     rw[(gP r.x r'.x).mpr ⟨q.1,by rw[<- e0];exact Ao h0,Ao hq'⟩]at ht
     cases ht)
  refine⟨s',(r,z)::ts,.done g hs gz hof (fun q hq'=>?_) hple (by rw[wG]at hL;omega) hm e1,by rw[List.map_cons,e2],?_⟩
  ·have:=Hv hf12 hx hR q hq'
   show 0<=cD s.prs q.1+q.2/\cD s.prs q.1+q.2<=1000000000000
   rw[hf];exact this
  ·refine⟨?_,e3.life,e3.turn,e3.next,e3.hs,e3.rows,e3.safe,?_,fun q hq'=>?_,fun q e he=>?_,e3.pl,e3.bk⟩
   ·rw[e3.runs];show(pre++post).filter _=_
    rw[hfil,List.filter_filter];congr 1
    funext a
    rw[<- Bool.decide_and,List.map_cons];congr 1
    rw[List.mem_cons,not_or];exact propext ⟨fun h=>⟨h.2,h.1⟩,fun h=>⟨h.2,h.1⟩⟩
   ·rw[e3.L];show s.L+1+(pre++post).length=_
    rw[hs];simp;omega
   ·rw[e3.m q fun r' h'=>hq' r' (jM _ h')]
    show(s.m.set r.q _) q=_
    rw[KM.set_ne fun e=>hq' r Zs e.symm]
   ·rcases e3.mo q e he with⟨r',h',e'⟩ | he'
    ·exact .inl ⟨r',jM _ h',e'⟩
    ·by_cases zq:q=r.q
     ·exact .inl ⟨r,Zs,zq.symm⟩
     ·have he2:(s.m.set r.q _) q=some e:=he'
      rw[KM.set_ne zq]at he2;exact .inr he2
end
end KL
namespace KL
open PySem L2
section
variable {P:Program} {w:World} {K:W.Frag} {mg:Str->Option Value} {base:Heap}
structure LI (c:CK) (H:Hp) (i:Nat) (d b ln lh tb lk:Addr) (zs hs:List Str) (a:DA) (s:DS) (tkv:List (aZ × V)) (al:List Nat):Prop where
 dk:Dk H d b
 gn:H ln=some (.lst (zs.map V.str))
 gh:H lh=some (.lst (hs.map V.str))
 gk:H lk=some (.lst (al.map fun(n:Nat)=>V.int (n:Int)))
 nn:ln≠d/\ln≠b
 nh:lh≠d/\lh≠b
 nk:lk≠d/\lk≠b
 gt:H tb=some (.dK tkv)
 tab:Paired (TbAt H) s.runs tkv
 h:DAt c H a s
 out:∀p∈[d,b,ln,lh,tb,lk],p∉a.fix++s.runs.map (·.p)
 hL:s.L+s.runs.length+2<=2*s.next
 hx:1<=s.next/\s.next<=i+1
 hr:s.runs.length<=i
 ho:s.rows.length<=i
 hn:∀r∈s.runs,r.n<s.next
 all:∀r∈s.runs,s.m r.q=some (.busy r.n r.d)/\Yc zs hs r.x/\(r.st="new"∨r.st="held"∨r.st="written"∨r.st="asked")
 mo:∀q e,s.m q=some e->∃n,n<s.next/\q.2=dI n
 pl:∀z∈s.prs.map (·.1),z∈zs
 ex:∀r∈s.runs,∀r'∈s.runs,r.n≠r'.n->r.st≠"new"->r'.st≠"new"->gE r.x r'.x=false
 hv:∀z∈hs,∃v,aX s.hs (Sum.inr z)=some v
 ro:∀v∈s.rows,RowOk H v
 ak:∀v∈s.rows,∀n,AskRow H v n->∃r∈s.runs,r.n=n/\r.st="asked"
 rw:∃(f:Str->Nat) (old news:List V) (ws:List Rn),(∀z,cD s.prs z=(f z:Int))/\(∀z,f z<=1000000000000)/\s.rows=old++news/\s.safe=(old.length:Int)/\NewsOk H f news ws/\(ws.map (·.n)).Nodup/\(∀r,r∈ws↔r∈s.runs/\r.st="written")/\∀v∈old,∀n,AskRow H v n->n∈al
section
variable {c:CK} {H H':Hp} {i:Nat} {d b ln lh tb lk:Addr} {zs hs:List Str} {a:DA} {s s':DS} {tkv tkv':List (aZ × V)} {al:List Nat}
theorem AskRow.back (k:TK H H') {v:V} (r:RowOk H v) {n:Nat} (h:AskRow H' v n):AskRow H v n:=by
 obtain⟨t,wd,m,xs,rfl,g⟩:=r
 obtain⟨t',e,g'⟩:=h
 cases e
 rw[k _ _ g]at g';cases g'
 exact⟨t,rfl,g⟩
theorem RowOk.tk (k:TK H H') {v:V} (r:RowOk H v):RowOk H' v:=let ⟨t,wd,m,xs,e,g⟩:=r;⟨t,wd,m,xs,e,k _ _ g⟩
theorem LI.move (L:LI c H i d b ln lh tb lk zs hs a s tkv al) (k:TK H H') (dk:Dk H' d b) (gn:H' ln=some (.lst (zs.map V.str))) (gh:H' lh=some (.lst (hs.map V.str))) (gk:H' lk=some (.lst (al.map fun(n:Nat)=>V.int (n:Int)))) (gt:H' tb=some (.dK tkv)) (h:DAt c H' a s):LI c H' i d b ln lh tb lk zs hs a s tkv al where
 dk:=dk
 gn:=gn
 gh:=gh
 gk:=gk
 nn:=L.nn
 nh:=L.nh
 nk:=L.nk
 gt:=gt
 tab:=Paired.map' (fun _ _ x=>x.tk k) L.tab
 h:=h
 out:=L.out
 hL:=L.hL
 hx:=L.hx
 hr:=L.hr
 ho:=L.ho
 hn:=L.hn
 all:=L.all
 mo:=L.mo
 pl:=L.pl
 ex:=L.ex
 hv:=L.hv
 ro:=fun v hv=>(L.ro v hv).tk k
 ak:=fun v hv n hn=>L.ak v hv n (AskRow.back k (L.ro v hv) hn)
 rw:=by
  obtain⟨f,old,news,ws,h1,h2,h3,h4,h5,h6,h7,h8⟩:=L.rw
  exact⟨f,old,news,ws,h1,h2,h3,h4,h5.tk k,h6,h7,fun v hv n hn=>h8 v hv n (AskRow.back k (L.ro v (by rw[h3];exact List.mem_append_left _ hv)) hn)⟩
theorem LI.same (L:LI c H i d b ln lh tb lk zs hs a s tkv al) (k:Same H H'):LI c H' i d b ln lh tb lk zs hs a s tkv al:=
 L.move (TK.of k) (L.dk.same k) (k _ _ L.gn) (k _ _ L.gh) (k _ _ L.gk) (k _ _ L.gt) (L.h.same k)
theorem LI.draw (L:LI c H i d b ln lh tb lk zs hs a s tkv al) (D:Dk H' d b) (k:Kp d b H H'):LI c H' i d b ln lh tb lk zs hs a s tkv al:=by
 obtain⟨ns,s0,k0,e1,e2,_⟩:=L.dk.ex
 refine L.move (Al L.dk k) D (k _ _ L.gn L.nn.1 L.nn.2) (k _ _ L.gh L.nh.1 L.nh.2) (k _ _ L.gk L.nk.1 L.nk.2) (k _ _ L.gt (aK L.gt e1 fun z=>nomatch z) (aK L.gt e2 fun z=>nomatch z)) (L.h.keep (fun p o e hp=>k _ _ e (fun z=>L.out d Zs (z ▸ hp)) fun z=>L.out b Zs (z ▸ hp)) (Al L.dk k))
theorem LI.left (L:LI c H i d b ln lh tb lk zs hs a s tkv al) (m:Mv a s s' H H'):Dk H' d b/\H' ln=some (.lst (zs.map V.str))/\H' lh=some (.lst (hs.map V.str))/\H' lk=some (.lst (al.map fun(n:Nat)=>V.int (n:Int)))/\H' tb=some (.dK tkv)/\∀p∈[d,b,ln,lh,tb,lk],p∉a.fix++s'.runs.map (·.p):=by
 obtain⟨ns,s0,k0,h1,h2,h3⟩:=L.dk.ex
 refine⟨⟨ns,s0,k0,m.fr _ _ h1 (L.out d Zs),m.fr _ _ h2 (L.out b Zs),h3⟩,m.fr _ _ L.gn (L.out ln Zs),m.fr _ _ L.gh (L.out lh Zs),m.fr _ _ L.gk (L.out lk Zs),m.fr _ _ L.gt (L.out tb Zs),fun p hp=>?_⟩
 have g:∃o,H p=some o:=by
  simp only [List.mem_cons,List.not_mem_nil,or_false]at hp
  rcases hp with rfl | rfl | rfl | rfl | rfl | rfl
  ·exact⟨_,h1⟩
  ·exact⟨_,h2⟩
  ·exact⟨_,L.gn⟩
  ·exact⟨_,L.gh⟩
  ·exact⟨_,L.gt⟩
  ·exact⟨_,L.gk⟩
 obtain⟨o,g⟩:=g
 exact m.stay (L.out p hp) g
theorem LI.more (L:LI c H i d b ln lh tb lk zs hs a s tkv al):LI c H (i+1) d b ln lh tb lk zs hs a s tkv al:=
 {L with hx:=⟨L.hx.1,by have:=L.hx.2;omega⟩,hr:=by have:=L.hr;omega,ho:=by have:=L.ho;omega }
theorem LI.beside (L:LI c H i d b ln lh tb lk zs hs a s tkv al) (m:Mv a s s' H H') {H2:Hp} (s2:Same H' H2) (kv:List (aZ × V)):Dk (aH H2 tb (.dK kv)) d b/\(aH H2 tb (.dK kv)) ln=some (.lst (zs.map V.str))/\(aH H2 tb (.dK kv)) lh=some (.lst (hs.map V.str))/\(aH H2 tb (.dK kv)) lk=some (.lst (al.map fun(n:Nat)=>V.int (n:Int)))/\TK H' (aH H2 tb (.dK kv))/\(DAt c H' a s'->DAt c (aH H2 tb (.dK kv)) a s'):=by
 obtain⟨e1,e2,e3,e4,e5,e6⟩:=L.left m
 obtain⟨ns,s0,k0,h1,h2,h3⟩:=e1.ex
 have gtb2:=s2 _ _ e5
 have ki:∀ {p o},H' p=some o->p≠tb->(aH H2 tb (.dK kv)) p=some o:=fun e n=>by rw[aD n];exact s2 _ _ e
 exact⟨⟨ns,s0,k0,ki h1 (aK h1 e5 fun z=>nomatch z),ki h2 (aK h2 e5 fun z=>nomatch z),h3⟩,ki e2 (aK e2 e5 fun z=>nomatch z),ki e3 (aK e3 e5 fun z=>nomatch z),ki e4 (aK e4 e5 fun z=>nomatch z),(TK.of s2).trans (fE gtb2 fun _ z=>nomatch z),fun h=>(h.same s2).outside (e6 tb Zs) gtb2 (fun _ z=>nomatch z) _⟩
theorem LI.stage (L:LI c H i d b ln lh tb lk zs hs a s tkv al) {pre post:List Rn} {r:Rn} {st:Str} {add:List V} (hs0:s.runs=pre++r::post) (hst:st="held"∨st="written"∨st="asked") (hw:r.st≠"written") (hna:r.st≠"asked") (hfree:r.st="new"->∀r'∈s.runs,bM r r'=false) (hadd:s.rows.length+add.length<=i+1) (hd:DAt c H' a {cN s pre post r st with rows:=s.rows++add }) (m:Mv a s {cN s pre post r st with rows:=s.rows++add } H H') {H2:Hp} (s2:Same H' H2) {t:Addr} (gt:H2 t=some (.tup (Sx {r with st:=st })))
  (hro:∀v∈add,RowOk H' v) (hak:∀v∈add,∀n,AskRow H' v n->n=r.n/\st="asked")
  (hnw:∀f:Str->Nat,(∀z,cD s.prs z=(f z:Int))->(st="written"->NewsOk H' f add [{r with st:=st }])/\(st≠"written"->NewsOk H' f add [])) :
  LI c (aH H2 tb (.dK (bF tkv (Sum.inl (r.n:Int)) (.ref t)))) (i+1) d b ln lh tb lk zs hs a {cN s pre post r st with rows:=s.rows++add } (bF tkv (Sum.inl (r.n:Int)) (.ref t)) al:=by
 obtain⟨b1,b2,b3,b4,k2,bd⟩:=L.beside m s2 (bF tkv (Sum.inl (r.n:Int)) (.ref t))
 have kk:=(m.tk L.h).trans k2
 have hrm:r∈s.runs:=by rw[hs0];simp
 have hasc:=L.h.up
 have hmem:∀r'∈pre++{r with st:=st }::post,r'={r with st:=st }∨(r'∈s.runs/\r'.n≠r.n):=fun r' h'=>by
  have hasc':=hasc
  rw[hs0]at hasc';have p1:=List.pairwise_append.mp hasc'
  have p2:=List.pairwise_cons.mp p1.2.1
  rcases Zma.mp h' with z | z
  ·exact .inr ⟨by rw[hs0];exact List.mem_append_left _ z,by have:=p1.2.2 r' z r Zs;omega⟩
  ·rcases List.mem_cons.mp z with z | z
   ·exact .inl z
   ·exact .inr ⟨by rw[hs0];simp [z],by have:=p2.1 r' z;omega⟩
 have hback:∀r'∈s.runs,r'.n≠r.n->r'∈pre++{r with st:=st }::post:=fun r' h' hne=>by
  rw[hs0]at h';rcases Zma.mp h' with z | z
  ·exact List.mem_append_left _ z
  ·rcases List.mem_cons.mp z with z | z
   ·exact absurd (by rw[z]) hne
   ·simp [z]
 have hin:{r with st:=st }∈pre++{r with st:=st }::post:=by simp
 have elen:(pre++{r with st:=st }::post).length=s.runs.length:=by rw[hs0];simp
 have stn:st≠"new":=by rcases hst with rfl | rfl | rfl <;> decide +kernel
 have htouch:∀r'∈s.runs,r'.n≠r.n->r'.st≠"new"->gE r.x r'.x=false:=fun r' h' hne hn=>by
  by_cases hr0:r.st="new"
  ·have:=hfree hr0 r' h'
   unfold bM at this;rw[decide_eq_false hn]at this;simpa using this
  ·exact L.ex r hrm r' h' hne.symm hr0 hn
 have tsym:∀x y:Dd,gE x y=false->gE y x=false:=fun x y h=>by
  cases e:gE y x with
  | false=>rfl
  | true=>
   obtain⟨z,z1,z2⟩:=(gP _ _).mp e
   rw[(gP x y).mpr ⟨z,z2,z1⟩]at h;cases h
 refine⟨b1,b2,b3,b4,L.nn,L.nh,L.nk,aA,?_,bd hd,(L.left m).2.2.2.2.2,?_,⟨L.hx.1,by have:=L.hx.2;show s.next<=_;omega⟩,?_,?_,?_,?_,L.mo,L.pl,?_,L.hv,?_,?_,?_⟩
 ·have tab':=Paired.map' (fun _ _ x=>TbAt.tk x kk) L.tab
  rw[hs0]at tab' hasc;exact Sy tab' hasc rfl (by rw[aD (aK gt (s2 _ _ (L.left m).2.2.2.2.1) fun z=>nomatch z)];exact gt)
 ·show s.L+(pre++{r with st:=st }::post).length+2<=2*s.next;rw[elen];exact L.hL
 ·show(pre++{r with st:=st }::post).length<=_;rw[elen];have:=L.hr;omega
 ·show(s.rows++add).length<=_;rw[wC];exact hadd
 ·intro r' h';rcases hmem r' h' with rfl | ⟨z,_⟩
  ·exact L.hn r hrm
  ·exact L.hn r' z
 ·intro r' h';rcases hmem r' h' with rfl | ⟨z,_⟩
  ·obtain⟨z1,z2,_⟩:=L.all r hrm
   exact⟨z1,z2,.inr hst⟩
  ·exact L.all r' z
 ·intro r1 h1 r2 h2 hne n1 n2;rcases hmem r1 h1 with rfl | ⟨z1,w1⟩
  ·rcases hmem r2 h2 with rfl | ⟨z2,w2⟩
   ·exact absurd rfl hne
   ·exact htouch r2 z2 w2 n2
  ·rcases hmem r2 h2 with rfl | ⟨z2,w2⟩
   ·exact tsym _ _ (htouch r1 z1 w1 n1)
   ·exact L.ex r1 z1 r2 z2 hne n1 n2
 ·intro v hv;rcases Zma.mp hv with z | z
  ·exact(L.ro v z).tk kk
  ·exact(hro v z).tk k2
 ·intro v hv n hn;rcases Zma.mp hv with z | z
  ·obtain⟨r',h',e1,e2⟩:=L.ak v z n (AskRow.back kk (L.ro v z) hn)
   have hne:r'.n≠r.n:=fun e=>hna (by rw[<- tX L.h.up h' hrm e];exact e2)
   exact⟨r',hback r' h' hne,e1,e2⟩
  ·obtain⟨e1,e2⟩:=hak v z n (AskRow.back k2 (hro v z) hn)
   exact⟨_,hin,e1.symm,e2⟩
 ·obtain⟨f,old,news,ws,h1,h2,h3,h4,h5,h6,h7,h8⟩:=L.rw
  obtain⟨nw1,nw2⟩:=hnw f h1
  have hold:∀v∈old,∀n,AskRow (aH H2 tb (.dK (bF tkv (Sum.inl (r.n:Int)) (.ref t)))) v n->n∈al:=fun v hv n hn=>h8 v hv n (AskRow.back kk (L.ro v (by rw[h3];exact List.mem_append_left _ hv)) hn)
  have hwr:∀r'∈ws,r'.n≠r.n:=fun r' h' e=>by
   obtain⟨z1,z2⟩:=(h7 r').mp h'
   exact hw (by rw[<- tX L.h.up z1 hrm e];exact z2)
  have hrows:s.rows++add=old++(news++add):=by rw[h3,List.append_assoc]
  by_cases hwst:st="written"
  ·refine⟨f,old,news++add,ws++[{r with st:=st }],h1,h2,hrows,h4,(h5.tk kk).app ((nw1 hwst).tk k2),?_,fun r'=>?_,hold⟩
   ·rw[iG];refine List.nodup_append.mpr ⟨h6,Zs,fun x hx y hy e=>?_⟩
    obtain⟨r',h',rfl⟩:=Zmm.mp hx
    have hy':y=r.n:=by simpa using hy
    exact hwr r' h' (by rw[e,hy'])
   ·constructor
    ·intro h';rcases Zma.mp h' with z | z
     ·obtain⟨z1,z2⟩:=(h7 r').mp z
      exact⟨hback r' z1 (hwr r' z),z2⟩
     ·rw[Zms.mp z];exact⟨hin,hwst⟩
    ·rintro⟨z1,z2⟩
     rcases hmem r' z1 with rfl | ⟨z3,_⟩
     ·simp
     ·exact List.mem_append_left _ ((h7 r').mpr ⟨z3,z2⟩)
  ·refine⟨f,old,news++add,ws,h1,h2,hrows,h4,?_,h6,fun r'=>?_,hold⟩
   ·have:=(h5.tk kk).app ((nw2 hwst).tk k2)
    rwa [List.append_nil]at this
   ·constructor
    ·intro h';obtain⟨z1,z2⟩:=(h7 r').mp h'
     exact⟨hback r' z1 (hwr r' h'),z2⟩
    ·rintro⟨z1,z2⟩
     rcases hmem r' z1 with rfl | ⟨z3,_⟩
     ·exact absurd z2 hwst
     ·exact(h7 r').mpr ⟨z3,z2⟩
end
end
end KL
namespace KL
open PySem L2
section
variable {P:Program} {w:World} {K:W.Frag} {mg:Str->Option Value} {base:Heap}
theorem Iv {u v:V} (hu:(∃z,u=.str z)∨∃n,u=.int n) (hv:(∃z,v=.str z)∨∃n,v=.int n):uH u v=true↔u=v:=by
 rcases hu with⟨z,rfl⟩ | ⟨n,rfl⟩ <;> rcases hv with⟨z',rfl⟩ | ⟨n',rfl⟩ <;> simp [uH]
theorem vY {xs ys:List V} (hx:∀u∈xs,(∃z,u=.str z)∨∃n,u=.int n) (hy:∀u∈ys,(∃z,u=.str z)∨∃n,u=.int n):fH xs ys=true↔xs=ys:=by
 unfold fH;rw[Bool.and_eq_true_iff];constructor
 ·rintro⟨h1,h2⟩
  have hl:xs.length=ys.length:=by simpa using h2
  refine List.ext_getElem hl fun j a b=>?_
  have:=List.all_eq_true.mp h1 j (by simp;omega)
  have e1:xs.getD j .non=xs[j]:=by simp [List.getD,a]
  have e2:ys.getD j .non=ys[j]:=by simp [List.getD,b]
  rw[e1,e2]at this;exact(Iv (hx _ (List.getElem_mem a)) (hy _ (List.getElem_mem b))).mp this
 ·rintro rfl
  refine⟨List.all_eq_true.mpr fun j hj=>?_,Zs⟩
  have hj:j<xs.length:=by simpa using hj
  have e:xs.getD j .non=xs[j]:=by simp [List.getD,hj]
  rw[e];exact(Iv (hx _ (List.getElem_mem hj)) (hx _ (List.getElem_mem hj))).mpr rfl
theorem Ap {H:Hp}:∀ {old:List V},(∀v∈old,RowOk H v)->∃zs:List (Addr × List V),old=zs.map (fun z=>V.ref z.1)/\∀z∈zs,H z.1=some (.tup z.2)/\∃(wd:Str) (n:Nat) (xs:List V),z.2=.str wd::.int (n:Int)::xs
 | [],_=>⟨[],rfl,fun z hz=>nomatch hz⟩
 | v::old,h=>by
  obtain⟨zs,e,hz⟩:=Ap fun u hu=>h u (jM _ hu)
  obtain⟨t,wd,n,xs,rfl,g⟩:=h v pR
  refine⟨(t,.str wd::.int (n:Int)::xs)::zs,by rw[e];rfl,fun z hz'=>?_⟩
  rcases List.mem_cons.mp hz' with rfl | m
  ·exact⟨g,wd,n,xs,rfl⟩
  ·exact hz z m
theorem LI.notSafe {c:CK} {H:Hp} {i:Nat} {d b ln lh tb lk:Addr} {zs hs:List Str} {a:DA} {s:DS} {tkv:List (aZ × V)} {al:List Nat} (L:LI c H i d b ln lh tb lk zs hs a s tkv al) {m:Nat} (hm:m∉al):tR H s m:=by
 obtain⟨f,old,news,ws,h1,h2,h3,h4,h5,h6,h7,h8⟩:=L.rw
 obtain⟨us,e,hz⟩:=Ap (old:=old) fun v hv=>L.ro v (by rw[h3];exact List.mem_append_left _ hv)
 refine⟨old.length,us,h4,by rw[h3,List.take_left,<- e],fun z hz'=>?_,?_⟩
 ·obtain⟨g,wd,n,xs,ez⟩:=hz z hz'
  refine⟨g,fun j u v hu hv=>?_⟩
  rw[ez]at hu;match j,hu,hv with
  | 0,hu,hv=>cases hu;cases hv;exact⟨rfl,rfl⟩
  | 1,hu,hv=>cases hu;cases hv;exact⟨rfl,rfl⟩
  | j+2,hu,hv=>cases hv
 ·unfold xS;rw[List.any_eq_false];intro z hz' hq;obtain⟨g,wd,n,xs,ez⟩:=hz z hz'
  rw[ez]at hq g;have hx:xs=[]:=by
   unfold fH at hq;rw[Bool.and_eq_true]at hq;have:=hq.2
   cases xs with
   | nil=>rfl
   | cons a b=>simp at this
  subst hx;have e2:=(vY (xs:=[.str wd,.int (n:Int)]) (ys:=[.str "asked",.int (m:Int)]) Zs Zs).mp hq
  injection e2 with e3 e4
  injection e3 with e3
  injection e4 with e4 _
  injection e4 with e4
  have e5:n=m:=by omega
  subst e5;exact hm (h8 (.ref z.1) (by rw[e];exact List.mem_map_of_mem hz') n ⟨z.1,rfl,by rw[g,e3]⟩)
def rK (c:CK):Sp:=fun vs H Q _=>∃(i:Nat) (d b ln lh tb lk:Addr) (zs hs:List Str) (a:DA) (s:DS) (tkv:List (aZ × V)) (al:List Nat) (r:Rn),vs=[.ref a.dr,.ref tb,.int r.n]/\LI c H i d b ln lh tb lk zs hs a s tkv al/\r∈s.runs/\i<=60/\r.n∉al ∧
 ∀s' tkv' H',LI c H' (i+1) d b ln lh tb lk zs hs a s' tkv' al->s'.next=s.next->s'.turn=s.turn->s'.life=s.life->Q (.bl true) H'
theorem yK {c:CK} (T:Txt K mg) (c_Door_work:Hc P w K mg base 5 c.D "work" ["self","number","way"] [.str ("through":Str)] (Ir c)) (cLblocked:aI P w K mg base 2 "_law_blocked" ["_law_table","_law_number"] jL) (D:DefAt K mg "_law_stepped" eI ["_law_door","_law_table","_law_number"]):aI P w K mg base 6 "_law_stepped" ["_law_door","_law_table","_law_number"] (rK c):=by
 refine D.go bC (fun vs H Q E h=>?_) (fun f cdv A outer s H vs Q E hr h=>?_)
 ·obtain⟨i,d,b,ln,lh,tb,lk,zs,hs,a,s,tkv,al,r,rfl,_⟩:=h;rfl
 ·obtain⟨i,d,b,ln,lh,tb,lk,zs,hs,a,s,tkv,al,r,rfl,L,hrm,hi,hal,q⟩:=h
  have hu1:=cS hr
  have hu64:=hr.units
  have hr_Door_work:=hr
  have hLblocked:Room 2 _:=hr.mono Zd
  obtain⟨pre,post,hs0⟩:=List.append_of_mem hrm
  obtain⟨t0,hv0,g0⟩:=iF L.tab L.h.up hrm
  have dg:=DGet.k (k:=Sum.inl (r.n:Int)) L.gt
  rw[hv0]at dg;have hr64:s.runs.length<64:=by have:=L.hr;omega
  refine⟨_,(R.ad (R.bz (R.bh hu1 (R.v 1) (R.v 2)) (R.ca (K:=K) (n:=4) rfl (R.ay (R.gn (i:=3) bC.nd) (R.ay (R.gn (i:=4) bC.nd) (R.ay (R.gn (i:=5) bC.nd) (R.ay (R.gn (i:=6) bC.nd) R.cb)))))) (R.ad (R.av (i:=7) bC.nd (R.ft c_Door_work hr_Door_work (R.v 0) (R.aa (R.v 2) R.ab))) (R.ad (R.ar (R.aj R.eq (R.v 6) R.ah) (R.ad (R.av (i:=8) bC.nd (R.fn cLblocked hLblocked rfl (R.aa (R.v 1) (R.aa (R.v 2) R.ab)))) (R.ad (R.ar (R.aj R.dl (R.v 8) R.cf) (R.ae (R.af (R.bv (R.cy hu64) (R.v 7) (R.ap (R.aa R.ah (R.aa (R.v 8) R.ab)))))) R.au) (R.ad (R.bz (R.ap (R.aa (R.v 3) (R.aa (R.v 4) (R.aa (R.v 5) (R.aa R.ah R.ab))))) (R.ce (R.v 1) (R.v 2) (R.cc hu1))) (R.ae (R.af (R.bv (R.cy hu64) (R.v 7) (R.ap (R.aa R.ah R.ab)))))))) R.au) (R.ad (R.ar (R.aj R.eq (R.v 6) R.ah) (R.ad (R.bq PassesOwn.never rfl (R.bf (K:=K) (R.bj (R.aa (R.ap (R.aa R.ah (R.aa R.ah R.ab))) (R.aa (R.ap (R.aa R.ah (R.aa R.ah R.ab))) R.ab)))) (R.ca (K:=K) (n:=2) rfl (R.ay (R.gn (i:=9) bC.nd) (R.ay (R.gn (i:=10) bC.nd) R.cb))) (R.ae (R.ar (R.aj (R.cy hu64) (R.v 7) (R.ap (R.aa R.ah (R.aa (R.v 9) R.ab)))) (R.ae (R.bz (R.ap (R.aa (R.v 3) (R.aa (R.v 4) (R.aa (R.v 5) (R.aa (R.v 10) R.ab))))) (R.ce (R.v 1) (R.v 2) (R.cc hu1)))) R.au))) (R.ae (R.af (R.bv R.ne (R.ix (R.ag (K:=K)) (R.bh hu1 (R.v 1) (R.v 2)) R.ac) R.ah)))) R.au) (R.ae (R.af (R.bv (R.cy hu64) (R.v 7) (R.ap (R.aa R.ah R.ab))))))))),?_⟩
  refine⟨tb,.ref t0,rfl,dg,t0,_,rfl,SqT.of g0,rfl,_,_,rfl,_,_,rfl,_,_,rfl,_,_,rfl,rfl,?_⟩
  dsimp only [aJ];have fl1:∀(z:Str) (n m:V),eT [.str z] [.str z]:=fun z n m j u v h1 h2=>by
   match j,h1,h2 with
   | 0,h1,h2=>cases h1;cases h2;exact⟨rfl,rfl⟩
  have fl2:∀(z w:Str) (x y:V),eN x=true->eN y=true->eT [.str z,x] [.str w,y]:=fun z w x y fx fy j u v h1 h2=>by
   match j,h1,h2 with
   | 0,h1,h2=>cases h1;cases h2;exact⟨rfl,rfl⟩
   | 1,h1,h2=>cases h1;cases h2;exact⟨fx,fy⟩
  obtain⟨hmb,hfar,hst⟩:=L.all r hrm
  rcases hst with hst | hst | hst | hst
  ·-- new
   have hget:∀G,Same H G->jL [.ref tb,.int r.n] G=jL [.ref tb,.int r.n] G:=fun _ _=>rfl
   refine⟨_,_,L.h.dr,by kernel_rfl,a,s,pre,post,r,rfl,L.h,hs0,hr64,.inl ⟨hst,fun r' rest hh t G s1 gt=>?_,fun hh t G h1 v1 gt=>?_⟩⟩
   ·dsimp only [aJ];have L1:=L.same s1
    show if decide (r.st="new")=true then _ else _
    refine xH (decide_eq_true hst) ?_
    refine⟨tb,s.runs,tkv,r,rfl,L1.gt,L1.tab,L1.h.up,L1.h.dd,hrm,hst,hr64,fun G2 s2=>?_⟩
    rw[show s.runs.filter (fun r'=>bM r r')=r'::rest from hh]
    refine⟨bH rfl,fun t2 G3 s3 gt2=>?_⟩
    refine⟨_,_,s3 _ _ (s2 _ _ gt),gt2,fl2 _ _ _ _ rfl rfl,?_⟩
    have:=q s tkv G3 ((L1.same s2).same s3).more rfl rfl rfl
    rw[<- dX (fl2 "waits" "waits" (.int (r'.n:Int)) (.int (r'.n:Int)) rfl rfl)]at this;exact this
   ·dsimp only [aJ];show if decide (r.st="new")=true then _ else _
    refine xH (decide_eq_true hst) ?_
    obtain⟨e1,e2,e3,e4,e5,e6⟩:=L.left v1
    have tab1:=Paired.map' (fun _ _ x=>TbAt.tk x (v1.tk L.h)) L.tab
    refine⟨tb,s.runs,tkv,r,rfl,e5,tab1,L.h.up,fun r' h'=>v1.tk L.h _ _ (L.h.dd r' h'),hrm,hst,hr64,fun G2 s2=>?_⟩
    rw[show s.runs.filter (fun r'=>bM r r')=[] from hh]
    refine⟨bH rfl,fun t2 G3 s3 gt2=>?_⟩
    refine⟨tb,_,rfl,DPut.k (k:=Sum.inl (r.n:Int)) (s3 _ _ (s2 _ _ e5)) (wH (m:=1000) (by have:=L.hr;rw[<- L.tab.length];omega) Zd),?_⟩
    have hno:∀r'∈s.runs,bM r r'=false:=fun r' h'=>by
     cases e:bM r r' with
     | false=>rfl
     | true=>
      have:r'∈s.runs.filter (fun r'=>bM r r'):=List.mem_filter.mpr ⟨h',e⟩
      rw[show s.runs.filter (fun r'=>bM r r')=[] from hh]at this
      cases this
    have hd1:DAt c G a {cN s pre post r "held" with rows:=s.rows++[] }:=by rw[List.append_nil];exact h1
    have vd1:Mv a s {cN s pre post r "held" with rows:=s.rows++[] } H G:=by rw[List.append_nil];exact v1
    have L4:=L.stage hs0 (.inl rfl) (by rw[hst];decide +kernel) (by rw[hst];decide +kernel) (fun _=>hno) (by have:=L.ho;simp;omega) hd1 vd1 (s2.trans s3) gt2 (fun v hv=>nomatch hv) (fun v hv=>nomatch hv) (fun f _=>⟨fun z=>absurd z Zk,fun _=>.nil⟩)
    have gtf:(aH G3 tb (.dK (bF tkv (Sum.inl (r.n:Int)) (.ref t2)))) t=some (.tup [.str "holds"]):=by rw[aD (aK (s3 _ _ (s2 _ _ gt)) (s3 _ _ (s2 _ _ e5)) fun z=>nomatch z)];exact s3 _ _ (s2 _ _ gt)
    generalize aH G3 tb (.dK (bF tkv (Sum.inl (r.n:Int)) (.ref t2)))=G4 at L4 gtf ⊢;refine⟨bH rfl,fun t3 G5 s5 gt3=>⟨_,_,s5 _ _ gtf,gt3,fl1 _ .non .non,?_⟩⟩
    have:=q _ _ G5 (L4.same s5) rfl rfl rfl
    rw[<- dX (fl1 "holds" .non .non)]at this;exact this
  ·-- held
   obtain⟨f0,old0,news0,ws0,hf,_,_,_,_,_,_,_⟩:=L.rw
   refine qZ (fun σ' G=>∃(t ra:Addr) (w0 st0:Str),((w0="done"/\st0="written")∨(w0="asked"/\st0="asked"))/\σ'=[some (.ref a.dr),some (.ref tb),some (.int r.n),some (.str r.q.1),some (.str r.q.2),some (.ref r.d),some (.str r.st),some (.ref t),none,none,none]/\DAt c G a {cN s pre post r st0 with rows:=s.rows++[.ref ra] }/\Mv a s {cN s pre post r st0 with rows:=s.rows++[.ref ra] } H G/\G t=some (.tup [.str "writes",.str w0])/\RowOk G (.ref ra)/\(∀n,AskRow G (.ref ra) n->n=r.n/\st0="asked")/\(∀f:Str->Nat,(∀z,cD s.prs z=(f z:Int))->(st0="written"->NewsOk G f [.ref ra] [{r with st:=st0 }])/\(st0≠"written"->NewsOk G f [.ref ra] []))) (fun nx hnx=>?_) ?_
   ·refine⟨_,_,L.h.dr,by kernel_rfl,a,s,pre,post,r,rfl,L.h,hs0,hr64,.inr (.inl ⟨hst,hfar.ok,by have:=L.ho;omega,f0,hf,fun y hy t ra z G h1 v1 gra gz gt=>?_,fun hy t ra G h1 v1 gra gt=>?_⟩)⟩
    ·refine hnx _ _ ⟨t,ra,"done","written",.inl ⟨rfl,rfl⟩,rfl,h1,v1,gt,⟨ra,"done",r.n,_,rfl,gra⟩,fun n ⟨t',e,g⟩=>?_,fun f hf'=>⟨fun _=>?_,fun z=>absurd rfl z⟩⟩
     ·cases e;rw[gra]at g;injection g with g;injection g with g;injection g with g;injection g with g;exact absurd g Zk
     ·have hff:f=f0:=funext fun z=>by have:=(hf' z).symm.trans (hf z);omega
      rw[hff];exact .done gra gz hy .nil
    ·refine hnx _ _ ⟨t,ra,"asked","asked",.inr ⟨rfl,rfl⟩,rfl,h1,v1,gt,⟨ra,"asked",r.n,_,rfl,gra⟩,fun n ⟨t',e,g⟩=>?_,fun f hf'=>⟨fun z=>absurd z Zk,fun _=>.skip gra Zk .nil⟩⟩
     cases e;rw[gra]at g;injection g with g;injection g with g;injection g with _ g;injection g with g _;injection g with g;exact⟨Zo,rfl⟩
   rintro σ' G ⟨t,ra,w0,st0,hws,rfl,h1,v1,gt,hrow,hask,hnw⟩
   show if decide (r.st="new")=true then _ else _
   refine oY (decide_eq_false (by rw[hst];decide +kernel)) ?_
   dsimp only [iP];show if decide (r.st="held")=true then _ else _
   refine xH (decide_eq_true hst) ?_
   obtain⟨e1,e2,e3,e4,e5,e6⟩:=L.left v1
   have stn:st0="held"∨st0="written"∨st0="asked":=by rcases hws with⟨_,e⟩ | ⟨_,e⟩ <;> simp [e]
   have sth:st0≠"held":=by rcases hws with⟨_,e⟩ | ⟨_,e⟩ <;> rw[e] <;> decide +kernel
   refine qZ (fun σ' G'=>(∃o9 o10,σ'=[some (.ref a.dr),some (.ref tb),some (.int r.n),some (.str r.q.1),some (.str r.q.2),some (.ref r.d),some (.str r.st),some (.ref t),none,o9,o10])/\∃tkv',LI c G' (i+1) d b ln lh tb lk zs hs a {cN s pre post r st0 with rows:=s.rows++[.ref ra] } tkv' al) (fun nx hnx=>?_) ?_
   ·refine⟨bH rfl,fun u1 G1 s1 f1=>⟨bH rfl,fun u2 G2 s2 f2=>⟨kJ rfl,fun l hl=>?_⟩⟩⟩
    have s3:=(s1.trans s2).trans (aF (o:=.lst [.ref u1,.ref u2]) hl)
    have g1':=(s2.trans (aF (o:=.lst [.ref u1,.ref u2]) hl)) _ _ f1
    have g2':=aF (o:=.lst [.ref u1,.ref u2]) hl _ _ f2
    have gl:(aH G2 l (.lst [.ref u1,.ref u2])) l=some (.lst [.ref u1,.ref u2]):=aA
    generalize aH G2 l (.lst [.ref u1,.ref u2])=G3 at s3 g1' g2' gl ⊢;have gt3:=s3 _ _ gt
    have gtb3:=s3 _ _ e5
    have ntl:tb≠l:=aK gtb3 gl fun z=>nomatch z
    have put:∀G4,Same G3 G4->∀t4,G4 t4=some (.tup (Sx {r with st:=st0 }))->LI c (aH G4 tb (.dK (bF tkv (Sum.inl (r.n:Int)) (.ref t4)))) (i+1) d b ln lh tb lk zs hs a {cN s pre post r st0 with rows:=s.rows++[.ref ra] } (bF tkv (Sum.inl (r.n:Int)) (.ref t4)) al:=fun G4 s4 t4 g4=>
     L.stage hs0 stn (by rw[hst];decide +kernel) (by rw[hst];decide +kernel) (fun e=>absurd (hst.symm.trans e) Zk) (by have:=L.ho;simp;omega) h1 v1 (s3.trans s4) g4 (fun v hv=>by rw[Zms.mp hv];exact hrow) (fun v hv=>by rw[Zms.mp hv];exact hask) hnw
    have tl1000:tkv.length<sizeLine:=wH (m:=1000) (by have:=L.hr;rw[<- L.tab.length];omega) Zd
    refine⟨l,rfl,⟨_,SqL.of gl⟩,eC (bR K l [.ref u1,.ref u2]) (fun j σ G'=>G' l=some (.lst [.ref u1,.ref u2])/\TK G3 G'/\(∃o9 o10,σ=[some (.ref a.dr),some (.ref tb),some (.int r.n),some (.str r.q.1),some (.str r.q.2),some (.ref r.d),some (.str r.st),some (.ref t),none,o9,o10])/\(((w0="done"->j=0)/\(w0="asked"->j<=1)/\Same G3 G')∨((w0="done"->0<j)/\(w0="asked"->1<j)/\∃tkv',LI c G' (i+1) d b ln lh tb lk zs hs a {cN s pre post r st0 with rows:=s.rows++[.ref ra] } tkv' al))) (fun j σ G' e=>SqL.of e.1) ⟨gl,fun _ _ e=>e,⟨_,_,rfl⟩,.inl ⟨fun _=>rfl,fun _=>Nat.zero_le _,Same.refl _⟩⟩ ?_ ?_⟩
    ·rintro j x σ G' hx ⟨gl',tk',⟨o9,o10,rfl⟩,hc⟩
     obtain⟨u,wu,su,rfl,gu,hju⟩:∃u wu su,x=.ref u/\G3 u=some (.tup [.str wu,.str su])/\((j=0/\wu="done"/\su="written")∨(j=1/\wu="asked"/\su="asked")):=by
      match j,hx with
      | 0,hx=>cases hx;exact⟨u1,_,_,rfl,g1',.inl ⟨rfl,rfl,rfl⟩⟩
      | 1,hx=>cases hx;exact⟨u2,_,_,rfl,g2',.inr ⟨rfl,rfl,rfl⟩⟩
      | j+2,hx=>cases hx
     refine⟨u,_,rfl,SqT.of (tk' _ _ gu),rfl,_,_,rfl,_,_,rfl,rfl,?_⟩
     dsimp only [aJ];refine⟨bH rfl,fun t4 G4 s4 g4=>⟨_,_,s4 _ _ (tk' _ _ gt3),g4,fl2 _ _ _ _ rfl rfl,?_⟩⟩
     have tk4:=tk'.trans (TK.of s4)
     show if fH [.str "writes",.str w0] [.str "writes",.str wu]=true then _ else _
     have hcase:(w0=wu/\su=st0)∨w0≠wu:=by
      rcases hws with⟨rfl,rfl⟩ | ⟨rfl,rfl⟩ <;> rcases hju with⟨_,rfl,rfl⟩ | ⟨_,rfl,rfl⟩
      ·exact .inl ⟨rfl,rfl⟩
      ·exact .inr Zk
      ·exact .inr Zk
      ·exact .inl ⟨rfl,rfl⟩
     rcases hcase with⟨rfl,rfl⟩ | hne
     ·refine xH (dX (fl2 _ _ _ _ rfl rfl)) ?_
      rcases hc with⟨c1,c2,sm⟩ | ⟨c1,c2,_⟩
      ·have sm4:=sm.trans s4
       refine⟨bH rfl,fun t5 G5 s5 g5=>⟨tb,_,rfl,DPut.k (k:=Sum.inl (r.n:Int)) (s5 _ _ (sm4 _ _ gtb3)) tl1000,?_⟩⟩
       refine⟨by rw[aD ntl.symm];exact s5 _ _ (s4 _ _ gl'),(tk4.trans (TK.of s5)).trans (fE (s5 _ _ (sm4 _ _ gtb3)) fun _ z=>nomatch z),⟨_,_,rfl⟩,.inr ⟨fun e=>by omega,fun e=>?_,_,put _ (sm4.trans s5) t5 g5⟩⟩
       rcases hju with⟨_,e2,_⟩ | ⟨e1,_,_⟩
       ·rw[e2]at e;exact absurd e Zk
       ·omega
      ·exfalso
       rcases hju with⟨e1,e2,_⟩ | ⟨e1,e2,_⟩
       ·have:=c1 e2;omega
       ·have:=c2 e2;omega
     ·refine oY ?_ ?_
      ·cases e:fH [.str "writes",.str w0] [.str "writes",.str wu]with
       | false=>rfl
       | true=>
        have:=(vY (xs:=[.str "writes",.str w0]) (ys:=[.str "writes",.str wu]) Zs Zs).mp e
        injection this with _ this
        injection this with this _
        injection this with this
        exact absurd this hne
      ·refine⟨s4 _ _ gl',tk4,⟨_,_,rfl⟩,?_⟩
       rcases hc with⟨c1,c2,sm⟩ | ⟨c1,c2,tk0,L0⟩
       ·refine .inl ⟨fun e=>?_,fun e=>?_,sm.trans s4⟩
        ·have:=c1 e
         rcases hju with⟨_,e2,_⟩ | ⟨e1,_,_⟩
         ·exact absurd (e.trans e2.symm) hne
         ·omega
        ·have:=c2 e
         rcases hju with⟨e1,_,_⟩ | ⟨_,e2,_⟩
         ·omega
         ·exact absurd (e.trans e2.symm) hne
       ·exact .inr ⟨fun e=>by have:=c1 e;omega,fun e=>by have:=c2 e;omega,tk0,L0.same s4⟩
    ·rintro σ G' ⟨gl',tk',hσ,hc⟩
     rcases hc with⟨c1,c2,_⟩ | ⟨_,_,L0⟩
     ·exfalso
      rcases hws with⟨e,_⟩ | ⟨e,_⟩
      ·have:(2:Nat)=0:=c1 e;omega
      ·have:(2:Nat)<=1:=c2 e;omega
     ·exact hnx _ _ ⟨hσ,L0⟩
   ·rintro σ' G' ⟨⟨o9,o10,rfl⟩,tkv',L'⟩
    have hrm':{r with st:=st0 }∈({cN s pre post r st0 with rows:=s.rows++[.ref ra] }:DS).runs:=by show _∈pre++_::post;simp
    obtain⟨t9,hv9,g9⟩:=iF L'.tab L'.h.up hrm'
    have dg9:=DGet.k (k:=Sum.inl (r.n:Int)) L'.gt
    rw[show aX tkv' (Sum.inl (r.n:Int))=some (.ref t9) from hv9]at dg9;refine⟨tb,.ref t9,rfl,dg9,_,SqT.of g9,.str st0,rfl,?_⟩
    have:=q _ _ G' L' rfl rfl rfl
    rw[show true=!decide (st0="held") by rw[decide_eq_false sth];rfl]at this
    exact this
  ·-- written
   refine⟨_,_,L.h.dr,by kernel_rfl,a,s,pre,post,r,rfl,L.h,hs0,hr64,.inr (.inr ⟨.inl hst,fun t G s1 gt=>?_⟩)⟩
   dsimp only [aJ];show if decide (r.st="new")=true then _ else _
   refine oY (decide_eq_false (by rw[hst];decide +kernel)) ?_
   dsimp only [iP];show if decide (r.st="held")=true then _ else _
   refine oY (decide_eq_false (by rw[hst];decide +kernel)) ?_
   refine⟨bH rfl,fun t3 G5 s5 gt3=>⟨_,_,s5 _ _ gt,gt3,fl1 _ .non .non,?_⟩⟩
   have:=q s tkv G5 ((L.same s1).same s5).more rfl rfl rfl
   rw[<- dX (fl1 "unsafe" .non .non)]at this;exact this
  ·-- asked
   refine⟨_,_,L.h.dr,by kernel_rfl,a,s,pre,post,r,rfl,L.h,hs0,hr64,.inr (.inr ⟨.inr ⟨hst,L.notSafe hal⟩,fun t G s1 gt=>?_⟩)⟩
   dsimp only [aJ];show if decide (r.st="new")=true then _ else _
   refine oY (decide_eq_false (by rw[hst];decide +kernel)) ?_
   dsimp only [iP];show if decide (r.st="held")=true then _ else _
   refine oY (decide_eq_false (by rw[hst];decide +kernel)) ?_
   refine⟨bH rfl,fun t3 G5 s5 gt3=>⟨_,_,s5 _ _ gt,gt3,fl1 _ .non .non,?_⟩⟩
   have:=q s tkv G5 ((L.same s1).same s5).more rfl rfl rfl
   rw[<- dX (fl1 "unsafe" .non .non)]at this;exact this
end
end KL
namespace KL
open PySem L2
section
variable {P:Program} {w:World} {K:W.Frag} {mg:Str->Option Value} {base:Heap}
section
variable {c:CK} {H H':Hp} {i:Nat} {d b ln lh tb lk lk':Addr} {zs hs:List Str} {a:DA} {s s':DS} {tkv tkv':List (aZ × V)} {al al':List Nat}
theorem LI.relist (L:LI c H i d b ln lh tb lk zs hs a s tkv al) (gk:H lk'=some (.lst (al'.map fun(n:Nat)=>V.int (n:Int)))) (ho:lk'∉a.fix++s.runs.map (·.p)) (hn:lk'≠d/\lk'≠b) (ha:∀r∈s.runs,r.st="asked"->r.n∈al'):LI c H i d b ln lh tb lk' zs hs a s tkv al':=
 {L with
  gk:=gk
  nk:=hn
  out:=fun p hp=>by
   simp only [List.mem_cons,List.not_mem_nil,or_false]at hp
   rcases hp with rfl | rfl | rfl | rfl | rfl | rfl
   ·exact L.out _ Zs
   ·exact L.out _ Zs
   ·exact L.out _ Zs
   ·exact L.out _ Zs
   ·exact L.out _ Zs
   ·exact ho
  rw:=by
   obtain⟨f,old,news,ws,h1,h2,h3,h4,h5,h6,h7,h8⟩:=L.rw
   refine⟨f,old,news,ws,h1,h2,h3,h4,h5,h6,h7,fun v hv n hn=>?_⟩
   obtain⟨r,hr,e1,e2⟩:=L.ak v (by rw[h3];exact List.mem_append_left _ hv) n hn
   rw[<- e1];exact ha r hr e2 }
theorem LI.forced (L:LI c H i d b ln lh tb lk zs hs a s tkv al) (hal:∀r∈s.runs,r.st="asked"->r.n∈al) {ws:List Rn} (hws:∀r,r∈ws↔r∈s.runs/\r.st="written") (E:Om zs {s with safe:=s.rows.length } s' ws) (hd:DAt c H' a s') (m:Mv a s s' H H') {G:Hp} (fr:∀p o,H' p=some o->p≠tb->G p=some o) {kv:List (aZ × V)} (gt:G tb=some (.dK kv)) (tab:Paired (TbAt G) s'.runs kv):LI c G (i+1) d b ln lh tb lk zs hs a s' kv al:=by
 obtain⟨e1,e2,e3,e4,e5,e6⟩:=L.left m
 obtain⟨ns,s0,k0,h1,h2,h3⟩:=e1.ex
 have k2:TK H' G:=fun b xs e=>fr _ _ e (aK e e5 fun z=>nomatch z)
 have kk:=(m.tk L.h).trans k2
 have hrun:∀r,r∈s'.runs↔r∈s.runs/\r.n∉ws.map (·.n):=fun r=>by
  rw[E.runs];exact⟨fun h=>⟨(List.mem_filter.mp h).1,of_decide_eq_true (List.mem_filter.mp h).2⟩,fun h=>List.mem_filter.mpr ⟨h.1,decide_eq_true h.2⟩⟩
 have hq:∀r∈s'.runs,∀r'∈ws,r'.q≠r.q:=fun r hr r' hr' e=>by
  obtain⟨z1,z2⟩:=(hrun r).mp hr
  have w1:=(L.all r z1).1
  have w2:=(L.all r' ((hws r').mp hr').1).1
  rw[e,w1]at w2;injection w2 with w2
  injection w2 with w2
  exact z2 (Zmm.mpr ⟨r',hr',Zo⟩)
 have hnw:∀r∈s.runs,r.st≠"written"->r∈s'.runs:=fun r hr hst=>by
  refine(hrun r).mpr ⟨hr,fun hm=>?_⟩
  obtain⟨r',h',e⟩:=Zmm.mp hm
  obtain⟨z1,z2⟩:=(hws r').mp h'
  exact hst (by rw[<- tX L.h.up z1 hr e];exact z2)
 have hle:s'.runs.length<=s.runs.length:=by rw[E.runs];exact List.length_filter_le _ _
 refine⟨⟨ns,s0,k0,fr _ _ h1 (aK h1 e5 fun z=>nomatch z),fr _ _ h2 (aK h2 e5 fun z=>nomatch z),h3⟩,fr _ _ e2 (aK e2 e5 fun z=>nomatch z),fr _ _ e3 (aK e3 e5 fun z=>nomatch z),fr _ _ e4 (aK e4 e5 fun z=>nomatch z),L.nn,L.nh,L.nk,gt,tab,hd.keep (fun p o e hp=>fr _ _ e fun z=>e6 tb Zs (z ▸ hp)) k2,e6,?_,?_,?_,?_,?_,?_,?_,E.pl,?_,?_,?_,?_,?_⟩
 ·have:=L.hL;rw[E.L,E.next];exact this
 ·rw[E.next];exact⟨L.hx.1,by have:=L.hx.2;show s.next<=_;omega⟩
 ·have:=L.hr;omega
 ·rw[E.rows];have:=L.ho;show s.rows.length<=_;omega
 ·intro r hr;rw[E.next];exact L.hn r ((hrun r).mp hr).1
 ·intro r hr;obtain⟨z1,z2,z3⟩:=L.all r ((hrun r).mp hr).1
  exact⟨by rw[E.m r.q (hq r hr)];exact z1,z2,z3⟩
 ·intro q e he;rw[E.next];rcases E.mo q e he with⟨r,hr,rfl⟩ | he'
  ·exact L.mo r.q _ (L.all r ((hws r).mp hr).1).1
  ·exact L.mo q e he'
 ·intro r hr r' hr';exact L.ex r ((hrun r).mp hr).1 r' ((hrun r').mp hr').1
 ·rw[E.hs];exact L.hv
 ·rw[E.rows];exact fun v hv=>(L.ro v hv).tk kk
 ·rw[E.rows];intro v hv n hn;obtain⟨r,hr,e1,e2⟩:=L.ak v hv n (AskRow.back kk (L.ro v hv) hn)
  exact⟨r,hnw r hr (by rw[e2];decide +kernel),e1,e2⟩
 ·obtain⟨f,hf,hf12⟩:=E.bk
  refine⟨f,s.rows,[],[],hf,hf12,by rw[E.rows];simp,by rw[E.safe],.nil,List.nodup_nil,fun r=>⟨fun h=>(nomatch h),fun⟨z1,z2⟩=>?_⟩,fun v hv n hn=>?_⟩
  ·obtain⟨w1,w2⟩:=(hrun r).mp z1
   exact absurd (List.mem_map_of_mem ((hws r).mpr ⟨w1,z2⟩)) w2
  ·obtain⟨r,hr,e1,e2⟩:=L.ak v hv n (AskRow.back kk (L.ro v hv) hn)
   rw[<- e1];exact hal r hr e2
theorem LI.begun (L:LI c H i d b ln lh tb lk zs hs a s tkv al) {turn:Int} {nm:Str} {dd:Addr} {x:Dd} {p dx ra:Addr} (hx:Yc zs hs x) (hd:DAt c H' a (kI s turn (nm,dI s.next) dd x p dx ra)) (m:Mv a s (kI s turn (nm,dI s.next) dd x p dx ra) H H') (gra:H' ra=some (.tup [.str "came",.int s.next,.int turn,.str nm,.str (dI s.next),.ref dd])) (hfree:s.m (nm,dI s.next)=none)
  {t:Addr} {H2:Hp} (s2:Same H' H2) (gt:H2 t=some (.tup (Sx (lI p dx s.next (nm,dI s.next) dd x "new")))):LI c (aH H2 tb (.dK (bF tkv (Sum.inl (s.next:Int)) (.ref t)))) (i+1) d b ln lh tb lk zs hs a (kI s turn (nm,dI s.next) dd x p dx ra) (bF tkv (Sum.inl (s.next:Int)) (.ref t)) al:=by
 obtain⟨b1,b2,b3,b4,k2,bd⟩:=L.beside m s2 (bF tkv (Sum.inl (s.next:Int)) (.ref t))
 have kk:=(m.tk L.h).trans k2
 have hb:∀r∈s.runs,r.q≠(nm,dI s.next):=fun r hr e=>by
  have:=(L.all r hr).1
  rw[e,hfree]at this;cases this
 refine⟨b1,b2,b3,b4,L.nn,L.nh,L.nk,aA,?_,bd hd,(L.left m).2.2.2.2.2,?_,?_,?_,?_,?_,?_,?_,L.pl,?_,L.hv,?_,?_,?_⟩
 ·have e0:aX tkv (Sum.inl (s.next:Int))=none:=by
   cases e:aX tkv (Sum.inl (s.next:Int)) with
   | none=>rfl
   | some v=>
    have hm:=sQ e
    rw[lK L.tab,List.map_map]at hm;obtain⟨r,hr,e1⟩:=Zmm.mp hm
    have e2:(r.n:Int)=(s.next:Int):=Sum.inl.inj e1
    have:=L.hn r hr
    omega
  have gt2:(aH H2 tb (.dK (bF tkv (Sum.inl (s.next:Int)) (.ref t)))) t=some (.tup (Sx (lI p dx s.next (nm,dI s.next) dd x "new"))):=by rw[aD (aK gt (s2 _ _ (L.left m).2.2.2.2.1) fun z=>nomatch z)];exact gt
  have tab':Paired (TbAt (aH H2 tb (.dK (bF tkv (Sum.inl (s.next:Int)) (.ref t))))) s.runs tkv:=Paired.map' (fun _ _ x=>TbAt.tk x kk) L.tab
  generalize aH H2 tb (.dK (bF tkv (Sum.inl (s.next:Int)) (.ref t)))=G at gt2 tab' ⊢;rw[fV _ e0];exact Paired.snoc (a:=lI p dx s.next (nm,dI s.next) dd x "new") tab' ⟨rfl,t,rfl,gt2⟩
 ·have:=L.hL;show s.L+1+(s.runs++[_]).length+2<=2*(s.next+1);simp;omega
 ·have:=L.hx;exact⟨by show 1<=s.next+1;omega,by show s.next+1<=_;omega⟩
 ·have:=L.hr;show(s.runs++[_]).length<=_;simp;omega
 ·have:=L.ho;show(s.rows++[_]).length<=_;simp;omega
 ·intro r hr;show r.n<s.next+1
  rcases Zma.mp hr with z | z
  ·have:=L.hn r z;omega
  ·rw[Zms.mp z];show s.next<s.next+1;omega
 ·intro r hr;rcases Zma.mp hr with z | z
  ·obtain⟨z1,z2,z3⟩:=L.all r z
   exact⟨by show(s.m.set _ _) r.q=_;rw[KM.set_ne (hb r z)];exact z1,z2,z3⟩
  ·rw[Zms.mp z];exact⟨by show(s.m.set (nm,dI s.next) _) (nm,dI s.next)=_;rw[KM.set_same];rfl,hx,.inl rfl⟩
 ·intro q e he;by_cases zq:q=(nm,dI s.next)
  ·exact⟨s.next,by show s.next<s.next+1;omega,by rw[zq]⟩
  ·have he':(s.m.set (nm,dI s.next) _) q=some e:=he
   rw[KM.set_ne zq]at he';obtain⟨n,h1,h2⟩:=L.mo q e he'
   exact⟨n,by show n<s.next+1;omega,h2⟩
 ·intro r hr r' hr' hne n1 n2;rcases Zma.mp hr with z | z
  ·rcases Zma.mp hr' with z' | z'
   ·exact L.ex r z r' z' hne n1 n2
   ·rw[Zms.mp z']at n2;exact absurd rfl n2
  ·rw[Zms.mp z]at n1;exact absurd rfl n1
 ·intro v hv;rcases Zma.mp hv with z | z
  ·exact(L.ro v z).tk kk
  ·exact⟨ra,"came",s.next,_,Zms.mp z,k2 _ _ gra⟩
 ·intro v hv n hn;rcases Zma.mp hv with z | z
  ·obtain⟨r,hr,e1,e2⟩:=L.ak v z n (AskRow.back kk (L.ro v z) hn)
   exact⟨r,List.mem_append_left _ hr,e1,e2⟩
  ·obtain⟨t',e,g⟩:=hn
   rw[Zms.mp z]at e;cases e
   rw[k2 _ _ gra]at g;injection g with g;injection g with g;injection g with g;injection g with g
   exact absurd g Zk
 ·obtain⟨f,old,news,ws,h1,h2,h3,h4,h5,h6,h7,h8⟩:=L.rw
  refine⟨f,old,news++[.ref ra],ws,h1,h2,by show s.rows++[_]=_;rw[h3,List.append_assoc],h4,?_,h6,fun r=>?_,fun v hv n hn=>h8 v hv n (AskRow.back kk (L.ro v (by rw[h3];exact List.mem_append_left _ hv)) hn)⟩
  ·have:=(h5.tk kk).app (.skip (k2 _ _ gra) Zk .nil)
   rwa [List.append_nil]at this
  ·constructor
   ·intro h;obtain⟨z1,z2⟩:=(h7 r).mp h
    exact⟨List.mem_append_left _ z1,z2⟩
   ·rintro⟨z1,z2⟩
    rcases Zma.mp z1 with z | z
    ·exact(h7 r).mpr ⟨z,z2⟩
    ·rw[Zms.mp z]at z2;exact absurd z2 (by show ¬ ("new":Str)="written";decide +kernel)
end
end
end KL
namespace KL
open PySem L2
section
variable {P:Program} {w:World} {K:W.Frag} {mg:Str->Option Value} {base:Heap}
theorem Iw {xs:List Nat}:∀ {ys:List Nat},xs.Nodup->(∀x∈xs,x∈ys)->xs.length<=ys.length:=by
 induction xs with
 | nil=>exact fun _ _=>Nat.zero_le _
 | cons x r ih=>
  intro ys hn h;obtain⟨h1,h2⟩:=List.nodup_cons.mp hn
  have hx:=h x pR
  have:=ih (ys:=ys.erase x) h2 fun y hy=>(List.mem_erase_of_ne (fun e=>h1 (by rw[<- e];exact hy))).mpr (h y (jM _ hy))
  rw[List.length_erase_of_mem hx]at this;have hp:0<ys.length:=List.length_pos_of_mem hx
  rw[wG];omega
theorem vZ {H:Hp} {l:Addr} {ns:List Int} (g:H l=some (.lst (ns.map V.int))):Dc H 1 (.ls (ns.map fun n=>.sc (.int n))) (.ref l):=by
 refine⟨l,_,rfl,g,?_⟩
 clear g;induction ns with
 | nil=>exact .nil
 | cons n ns ih=>exact .cons ⟨rfl,rfl⟩ ih
def pQ (c:CK):Sp:=fun vs H Q _=>∃(i:Nat) (d b ln lh tb lk:Addr) (zs hs:List Str) (a:DA) (s:DS) (tkv:List (aZ × V)) (al:List Nat),vs=[.ref a.dr,.ref tb]/\LI c H i d b ln lh tb lk zs hs a s tkv al/\i<=60/\zs.length<=20/\(∀r∈s.runs,r.st="asked"->r.n∈al) ∧
 ∀s' tkv' H',LI c H' (i+1) d b ln lh tb lk zs hs a s' tkv' al->s'.next=s.next->s'.turn=s.turn->s'.life=s.life->Q (.bl true) H'
theorem wA {c:CK} (T:Txt K mg) (c_Door_force:cT P w K mg base 4 c.D "force" ["self"] (Ak c)) (D:DefAt K mg "_law_forced" cQ ["_law_door","_law_table"]):aI P w K mg base 5 "_law_forced" ["_law_door","_law_table"] (pQ c):=by
 refine D.go eJ (fun vs H Q E h=>?_) (fun f cdv A outer s H vs Q E hr h=>?_)
 ·obtain⟨i,d,b,ln,lh,tb,lk,zs,hs,a,s,tkv,al,rfl,_⟩:=h;rfl
 ·obtain⟨i,d,b,ln,lh,tb,lk,zs,hs,a,s,tkv,al,rfl,L,hi,hz20,hal,q⟩:=h
  have hu1:=cS hr
  have hu64:=hr.units
  have hr_Door_force:=hr
  have hr64:s.runs.length<64:=by have:=L.hr;omega
  have hasc:=L.h.up
  obtain⟨f,old,news,ws,h1,h2,h3,h4,h5,h6,h7,h8⟩:=L.rw
  refine⟨_,(R.ad (R.dm (i:=2) eJ.nd rfl (Or.inl rfl) rfl (js:=[none,some 1]) (N:=["_law_number","_law_table"]) (CompScope.by (aB cQ) ["_law_door","_law_table","_law_due","_law_told","_law_row"] rfl rfl Zk) (aO rfl) (R.bf (K:=K) (R.ax (R.cp rfl) rfl T.b_sorted cO (R.aa (R.v 1) R.ab))) (fun C s₂ H₂ fp=>⟨(R.gn (i:=0) (show(["_law_number","_law_table"]:List Str).Nodup by decide +kernel)),(R.bt (R.aj R.eq (R.ix (R.ag (K:=K)) (R.bh hu1 (R.v 1) (R.v 0)) R.ac) R.ah)),(R.v 0)⟩) rfl) (R.ad (R.av (i:=3) eJ.nd (R.bu c_Door_force hr_Door_force (R.v 0))) (R.ad (R.ar (R.aj (R.cx hu64) (R.ax (R.fj (K:=K)) rfl T.b_sorted cO (R.aa (R.bi rfl (js:=[none]) (N:=["_law_row"]) (CompScope.by (aB cQ) ["_law_door","_law_table","_law_due","_law_told","_law_row"] rfl rfl Zk) (aO rfl) (R.bf (K:=K) (R.v 3)) (fun C s₂ H₂ fp=>⟨(R.gn (i:=0) (show(["_law_row"]:List Str).Nodup by decide +kernel)),R.br,(R.ix (R.ag (K:=K)) (R.v 0) R.ac)⟩)) R.ab)) (R.v 2)) (R.ae (R.af R.bl)) R.au) (R.ad (R.bq PassesOwn.never rfl (R.bf (K:=K) (R.v 3)) (R.gn (i:=4) eJ.nd) (R.ad (R.ar (R.aj (R.cx hu64) (R.sl R.sT (R.v 4) (R.ps R.ac) (R.ps R.ac)) (R.sl R.sT (R.bh hu1 (R.v 1) (R.ix (R.ag (K:=K)) (R.v 4) R.ac)) R.pn (R.ps R.ac))) (R.ae (R.af R.bl)) R.au) (R.ae (R.bo (R.eg (R.v 1) (R.ix (R.ag (K:=K)) (R.v 4) R.ac)))))) (R.ae (R.af R.bl)))))),?_⟩
  refine⟨s.runs.map fun r=>(r.n:Int),_,.inl L.gt,lK L.tab,by rw[bN];exact hr64,fun l ns hlf hp hso=>⟨l,rfl,⟨_,SqL.of aA⟩,?_⟩⟩
  have ens:ns=s.runs.map fun r=>(r.n:Int):=fA hso (List.pairwise_map.mpr (hasc.imp fun z=>by omega)) hp
  subst ens;have k1:=aF (o:=.lst ((s.runs.map fun r=>(r.n:Int)).map V.int)) hlf
  have gl:(aH H l (.lst ((s.runs.map fun r=>(r.n:Int)).map V.int))) l=some (.lst ((s.runs.map fun r=>(r.n:Int)).map V.int)):=aA
  generalize aH H l (.lst ((s.runs.map fun r=>(r.n:Int)).map V.int))=H1 at k1 gl ⊢
  have eL:((s.runs.map fun r=>(r.n:Int)).map V.int).length=s.runs.length:=by rw[bN,bN]
  refine bB (bR K l ((s.runs.map fun r=>(r.n:Int)).map V.int)) (by rw[eL];omega) (fun j ys H'=>H'=H1/\ys=((s.runs.take j).filter fun(r:Rn)=>decide (r.st=("written":Str))).map fun(r:Rn)=>V.int (r.n:Int)) (fun j ys H' ⟨e1,e2⟩=>⟨by rw[e1];exact SqL.of gl,by rw[e2,bN];exact fU (List.length_filter_le _ _) (by rw[oC];omega)⟩) ⟨rfl,rfl⟩ (fun j x ys H' hx ⟨e1,e2⟩=>?_) (fun ys H' ⟨e1,e2⟩=>?_)
  ·subst e1;rw[List.map_map,gQ]at hx;obtain⟨r,hr',rfl⟩:=Option.map_eq_some_iff.mp hx
   have hm:=kK hr'
   obtain⟨t0,hv0,g0⟩:=iF L.tab hasc hm
   have dg:=DGet.k (k:=Sum.inl (r.n:Int)) (k1 _ _ L.gt)
   rw[hv0]at dg;dsimp only [aJ];refine⟨tb,.ref t0,rfl,dg,_,SqT.of (k1 _ _ g0),.str r.st,rfl,?_⟩
   rw[aY hr',List.filter_append,iG,e2];show if decide (r.st="written")=true then _ else _
   refine fX (fun hb=>?_) (fun hb=>?_)
   ·exact⟨rfl,by rw[List.filter_cons,if_pos hb];rfl⟩
   ·exact⟨rfl,by rw[List.filter_cons,if_neg (by rw[hb];exact Bool.false_ne_true)];simp⟩
  subst e1;rw[eL,List.take_length]at e2;intro ld hld;dsimp only [aJ];have k2:=k1.trans (aF (o:=.lst ys) hld)
  have gld:(aH H' ld (.lst ys)) ld=some (.lst ys):=aA
  generalize aH H' ld (.lst ys)=H2 at k2 gld ⊢;have L2:=L.same k2
  have h5':=h5.tk (TK.of k2)
  have hL500:s.L+ws.length<=500:=by
   have w1:ws.length<=s.runs.length:=by
    have:=Iw h6 (ys:=s.runs.map (·.n)) fun n hn=>by
     obtain⟨r,hr,rfl⟩:=Zmm.mp hn
     exact List.mem_map_of_mem ((h7 r).mp hr).1
    rwa [bN,bN]at this
   have:=L.hL
   have:=L.hx.2
   have:=L.hr
   omega
  obtain⟨s',ts,en,ets,E0⟩:=Mx hz20 h5' {s with safe:=s.rows.length } f h6 (fun r hr=>((h7 r).mp hr).1) hasc L.h.nd L.pl hL500 (fun r hr=>let ⟨z1,z2,_⟩:=L.all r ((h7 r).mp hr).1;⟨z1,z2.ok,z2.nm⟩) (fun r hr r' hr' hne=>L.ex r ((h7 r).mp hr).1 r' ((h7 r').mp hr').1 hne (by rw[((h7 r).mp hr).2];decide +kernel) (by rw[((h7 r').mp hr').2];decide +kernel)) h1 h2 (fun _ _ _ _=>rfl)
  have hwl:ts.length=ws.length:=by rw[<- ets,bN]
  refine⟨_,_,L2.h.dr,by kernel_rfl,a,s,s',old,news,ts,rfl,L2.h,h3,h4,by have:=L.ho;omega,en,Zo,fun lt us H3 hd3 v3 hlt0 glt pus olt=>?_⟩
  dsimp only [aJ];have oldd:ld∉a.fix++s.runs.map (·.p):=(L.h.same k1).fresh hld
  have gld3:H3 ld=some (.lst ys):=v3.fr _ _ gld oldd
  have hus:us.length=ts.length:=pus.length.symm
  have hw64:ws.length<64:=by
   have:=Iw h6 (ys:=s.runs.map (·.n)) fun n hn=>by
    obtain⟨r,hr,rfl⟩:=Zmm.mp hn
    exact List.mem_map_of_mem ((h7 r).mp hr).1
   rw[bN,bN]at this;omega
  refine⟨lt,rfl,⟨_,SqL.of glt⟩,?_⟩
  refine bB (bR K lt us) Zo (fun j ys2 G=>G=H3/\ys2=((ts.take j).map fun p=>(p.1.n:Int)).map V.int) (fun j ys2 G ⟨e1,e2⟩=>⟨by rw[e1];exact SqL.of glt,by rw[e2,bN,bN,oC];omega⟩) ⟨rfl,rfl⟩ (fun j x ys2 G hx ⟨e1,e2⟩=>?_) (fun ys2 G ⟨e1,e2'⟩=>?_)
  ·subst e1;obtain⟨hj,ej⟩:=Zgs.mp hx
   obtain⟨hj',tt,e,gtt⟩:=Paired.get' (j:=j) pus hj
   rw[ej]at e;subst e;dsimp only [aJ];refine⟨_,SqT.of gtt,_,rfl,rfl,?_⟩
   rw[aY (lO hj'),iG,iG,e2];rfl
  subst e1;rw[hus,List.take_length]at e2';subst e2';intro lq hlq;refine⟨_,SqL.of aA,by rw[bN,hwl];exact hw64,fun lo ns' hlo hp' hso'=>?_⟩
  have hdue:ns'=(s.runs.filter fun(r:Rn)=>decide (r.st=("written":Str))).map fun r=>(r.n:Int):=by
   refine fA hso' (List.pairwise_map.mpr ((hasc.filter _).imp fun z=>by omega)) (hp'.trans ?_)
   have e3:(ts.map fun p=>(p.1.n:Int))=(ws.map (fun r:Rn=>r.n)).map (fun n:Nat=>(n:Int)):=by rw[<- ets,List.map_map,List.map_map];rfl
   have e4:((s.runs.filter fun(r:Rn)=>decide (r.st=("written":Str))).map fun r=>(r.n:Int))=((s.runs.filter fun(r:Rn)=>decide (r.st=("written":Str))).map (fun r:Rn=>r.n)).map (fun n:Nat=>(n:Int)):=by rw[List.map_map];rfl
   rw[e3,e4];refine List.Perm.map _ ((List.perm_ext_iff_of_nodup h6 ?_).mpr fun n=>?_)
   ·exact List.pairwise_map.mpr ((hasc.filter _).imp fun z=>Nat.ne_of_lt z)
   ·constructor
    ·intro h;obtain⟨r,hr,rfl⟩:=Zmm.mp h
     obtain⟨z1,z2⟩:=(h7 r).mp hr
     exact List.mem_map_of_mem (List.mem_filter.mpr ⟨z1,decide_eq_true z2⟩)
    ·intro h;obtain⟨r,hr,rfl⟩:=Zmm.mp h
     obtain⟨z1,z2⟩:=List.mem_filter.mp hr
     exact List.mem_map_of_mem ((h7 r).mpr ⟨z1,of_decide_eq_true z2⟩)
  have eys:ys=ns'.map V.int:=by rw[e2,hdue,List.map_map];rfl
  have s4:=(aF (o:=.lst ((ts.map fun p=>(p.1.n:Int)).map V.int)) hlq).trans (aF (o:=.lst (ns'.map V.int)) hlo)
  have glo:(aH (aH G lq (.lst ((ts.map fun p=>(p.1.n:Int)).map V.int))) lo (.lst (ns'.map V.int))) lo=some (.lst (ns'.map V.int)):=aA
  generalize aH (aH G lq (.lst ((ts.map fun p=>(p.1.n:Int)).map V.int))) lo (.lst (ns'.map V.int))=H4 at s4 glo ⊢
  have gld4:=s4 _ _ gld3
  rw[eys]at gld4;refine⟨1,_,Zd,vZ glo,vZ gld4,?_⟩
  have gtb3:=(L2.left v3).2.2.2.2.1
  have tab3:Paired (TbAt H4) s.runs tkv:=Paired.map' (fun _ _ x=>TbAt.tk x ((v3.tk L2.h).trans (TK.of s4))) L2.tab
  have glt4:=s4 _ _ glt
  have pus4:=Paired.map' (fun _ _ ⟨t,e,g⟩=>(⟨t,e,s4 _ _ g⟩:yF H4 _ _)) pus
  have ef0:(s.runs.filter fun r=>decide (r.n∉(ws.take 0).map (·.n)))=s.runs:=List.filter_eq_self.mpr fun a _=>decide_eq_true (fun m=>by simp at m)
  have ntl:lt≠tb:=aK glt4 (s4 _ _ gtb3) fun z=>nomatch z
  refine⟨lt,rfl,⟨_,SqL.of glt4⟩,eC (bR K lt us) (fun j σ G'=>(∃o4,σ=[some (.ref a.dr),some (.ref tb),some (.ref ld),some (.ref lt),o4])/\(∀p o,H4 p=some o->p≠tb->G' p=some o)/\∃kv,G' tb=some (.dK kv)/\Paired (TbAt G') (s.runs.filter fun r=>decide (r.n∉(ws.take j).map (·.n))) kv) (fun j σ G' e=>SqL.of (e.2.1 _ _ glt4 ntl)) ⟨⟨_,rfl⟩,fun _ _ e _=>e,tkv,s4 _ _ gtb3,by rw[ef0];exact tab3⟩ ?_ ?_⟩
  ·rintro j x σ G' hx ⟨⟨o4,rfl⟩,fr,kv,gkv,tabj⟩
   obtain⟨hj,ej⟩:=Zgs.mp hx
   obtain⟨hj',tt,e,gtt⟩:=Paired.get' (j:=j) pus4 hj
   rw[ej]at e;subst e;have tkG:TK H4 G':=fun p xs e=>fr _ _ e (aK e (s4 _ _ gtb3) fun z=>nomatch z)
   have gtt':=tkG _ _ gtt
   have hjw:j<ws.length:=by omega
   have ew:ws[j]=ts[j].1:=by
    have:(ts.map (·.1))[j]?=ws[j]?:=by rw[ets]
    rw[gQ,lO hj',lO hjw]at this;exact(Option.some.inj this).symm
   rw[<- ew]at gtt';have hwm:ws[j]∈ws:=List.getElem_mem hjw
   obtain⟨hrm,_⟩:=(h7 ws[j]).mp hwm
   have hnotin:ws[j].n∉(ws.take j).map (·.n):=fun hm=>by
    rw[List.map_take]at hm;obtain⟨j2,hj2,e2⟩:=List.mem_iff_getElem.mp hm
    have l2:j2<j:=by rw[oC]at hj2;omega
    rw[List.getElem_take]at e2;have:=Aa h6 (i:=j2) (j:=j) (x:=ws[j].n) (by rw[lO (by rw[bN];omega),e2]) (by rw[gQ,lO hjw];rfl)
    omega
   have hrf:ws[j]∈s.runs.filter fun r=>decide (r.n∉(ws.take j).map (·.n)):=List.mem_filter.mpr ⟨hrm,decide_eq_true hnotin⟩
   obtain⟨t0,hv0,g0⟩:=iF tabj (hasc.filter _) hrf
   have dg:=DGet.k (k:=Sum.inl (ws[j].n:Int)) gkv
   rw[hv0]at dg;dsimp only [aJ];refine⟨_,gtt',fun p1 G1 s1 gp1=>⟨_,SqT.of (s1 _ _ gtt'),_,rfl,?_⟩⟩
   have dg1:=DGet.k (k:=Sum.inl (ws[j].n:Int)) (s1 _ _ gkv)
   rw[hv0]at dg1;refine⟨tb,.ref t0,rfl,dg1,_,s1 _ _ g0,fun p2 G2 s2 gp2=>?_⟩
   have gp1':G2 p1=some (.tup [.str ws[j].q.1,.str ws[j].q.2]):=by rw[s2 _ _ gp1];rfl
   have gp2':G2 p2=some (.tup [.str ws[j].q.1,.str ws[j].q.2]):=by rw[gp2];rfl
   have rp:∀u,G2 u=some (.tup [.str ws[j].q.1,.str ws[j].q.2])->Dc G2 1 (.tp [.sc (.str ws[j].q.1),.sc (.str ws[j].q.2)]) (.ref u):=fun u g=>⟨u,_,rfl,g,.cons ⟨rfl,rfl⟩ (.cons ⟨rfl,rfl⟩ .nil)⟩
   refine⟨1,_,Zd,rp p1 gp1',rp p2 gp2',?_⟩
   have k12:=s1.trans s2
   refine⟨tb,rfl,.inl ⟨_,.inl (k12 _ _ gkv)⟩,_,SqT.of (k12 _ _ gtt'),_,rfl,kv,Sum.inl (ws[j].n:Int),_,k12 _ _ gkv,rfl,hv0,?_⟩
   refine⟨⟨_,rfl⟩,fun p o e hp=>by rw[aD hp];exact k12 _ _ (fr _ _ e hp),_,aA,?_⟩
   have tk2:TK G' (aH G2 tb (.dK (bV kv (Sum.inl (ws[j].n:Int))))):=(TK.of k12).trans (fE (k12 _ _ gkv) fun _ z=>nomatch z)
   have:=Mu (Paired.map' (fun _ _ x=>TbAt.tk x tk2) tabj) ws[j].n
   rw[List.filter_filter]at this;have e9:(s.runs.filter fun r=>(decide (r.n≠ws[j].n)&&decide (r.n∉(ws.take j).map (·.n))))=s.runs.filter fun r=>decide (r.n∉(ws.take (j+1)).map (·.n)):=by
    congr 1
    funext r
    rw[<- Bool.decide_and];congr 1
    rw[aY (lO hjw),iG,Zma,not_or];exact propext ⟨fun h=>⟨h.2,by simpa using h.1⟩,fun h=>⟨by simpa using h.2,h.1⟩⟩
   rw[e9]at this;exact this
  ·rintro σ G' ⟨⟨o4,rfl⟩,fr,kv,gkv,tabj⟩
   rw[hus,hwl,List.take_length]at tabj;have L9:=L2.forced (H':=G) hal h7 E0 hd3 v3 (G:=G') (fun p o e hp=>fr _ _ (s4 _ _ e) hp) gkv (by rw[E0.runs];exact tabj)
   exact q s' kv G' L9 E0.next E0.turn E0.life
end
end KL
namespace KL
open PySem L2
section
variable {P:Program} {w:World} {K:W.Frag} {mg:Str->Option Value} {base:Heap}
def Yr (r:Rn):TV:=.tp [.sc (.int r.n),.sc (.str r.q.1),.sc (.str r.q.2),RX.tvs r.x.vs,.sc (.str r.st)]
theorem wB {H:Hp} {l:Addr} {us:List V} {rs:List Rn} (g:H l=some (.lst us)) (p:Paired (Ik H) rs us) (hd:∀r∈rs,H r.d=some (.tup r.x.vs)):Dc H 3 (.ls (rs.map Yr)) (.ref l):=by
 refine⟨l,_,rfl,g,?_⟩
 clear g;induction p with
 | nil=>exact .nil
 | @cons r v rs us h t ih=>
  obtain⟨t0,rfl,g⟩:=h
  exact .cons ⟨t0,_,rfl,g,.cons ⟨rfl,rfl⟩ (.cons ⟨rfl,rfl⟩ (.cons ⟨rfl,rfl⟩ (.cons (RX.rep_flat (hd r Zs) (RX.sc_dd r.x)) (.cons ⟨rfl,rfl⟩ .nil))))⟩ (ih fun r' h'=>hd r' (jM _ h'))
def rL (c:CK):Sp:=fun vs H Q _=>∃(i:Nat) (d b ln lh tb lk:Addr) (zs hs:List Str) (a:DA) (s:DS) (tkv:List (aZ × V)) (al:List Nat),vs=[.ref a.dr,.ref tb]/\LI c H i d b ln lh tb lk zs hs a s tkv al/\i<=62/\∀H',LI c H' i d b ln lh tb lk zs hs a s tkv al->Q (.bl true) H'
theorem yL {c:CK} (T:Txt K mg) (c_Door_under:cT P w K mg base 2 c.D "under" ["self"] (Ah c)) (D:DefAt K mg "_law_right" eX ["_law_door","_law_table"]):aI P w K mg base 3 "_law_right" ["_law_door","_law_table"] (rL c):=by
 refine D.go lD (fun vs H Q E h=>?_) (fun f cdv A outer s H vs Q E hr h=>?_)
 ·obtain⟨i,d,b,ln,lh,tb,lk,zs,hs,a,s,tkv,al,rfl,_⟩:=h;rfl
 ·obtain⟨i,d,b,ln,lh,tb,lk,zs,hs,a,s,tkv,al,rfl,L,hi,q⟩:=h
  have hu1:=cS hr
  have hu64:=hr.units
  have hr_Door_under:=hr
  have hr64:s.runs.length<64:=by have:=L.hr;omega
  have hasc:=L.h.up
  refine⟨_,(R.ad (R.av (i:=2) lD.nd (R.bu c_Door_under hr_Door_under (R.v 0))) (R.ad (R.ar (R.aj (R.cx hu64) (R.v 2) (R.bi rfl (js:=[none,some 1]) (N:=["_law_number","_law_table"]) (CompScope.by (aB eX) ["_law_door","_law_table","_law_told"] rfl rfl Zk) (aO rfl) (R.bf (K:=K) (R.ax (R.cp rfl) rfl T.b_sorted cO (R.aa (R.v 1) R.ab))) (fun C s₂ H₂ fp=>⟨(R.gn (i:=0) (show(["_law_number","_law_table"]:List Str).Nodup by decide +kernel)),R.br,(R.op R.dh (R.ap (R.aa (R.v 0) R.ab)) (R.bh hu1 (R.v 1) (R.v 0)))⟩))) (R.ae (R.af R.bl)) R.au) (R.ad (R.bo (R.iw (K:=K) PySem.F.plainAttrs_list PySem.F.slot_list_clear PySem.F.type_list_clear R.iy (R.v 2))) (R.ae (R.af (R.bv R.eq (R.ax (R.bw (K:=K)) rfl T.b_len cH (R.aa (R.bu c_Door_under hr_Door_under (R.v 0)) R.ab)) (R.ax R.fo rfl T.b_len cH (R.aa (R.v 1) R.ab)))))))),?_⟩
  refine⟨_,_,L.h.dr,by kernel_rfl,a,s,rfl,L.h,hr64,fun l us H1 hl0 s1 gl pus=>?_⟩
  dsimp only [aJ];have L1:=L.same s1
  refine⟨s.runs.map fun r=>(r.n:Int),_,.inl L1.gt,lK L.tab,by rw[bN];exact hr64,fun l2 ns hl2 hp hso=>⟨l2,rfl,⟨_,SqL.of aA⟩,?_⟩⟩
  have ens:ns=s.runs.map fun r=>(r.n:Int):=fA hso (List.pairwise_map.mpr (hasc.imp fun z=>by omega)) hp
  subst ens;have k2:=aF (o:=.lst ((s.runs.map fun r=>(r.n:Int)).map V.int)) hl2
  have gl2:(aH H1 l2 (.lst ((s.runs.map fun r=>(r.n:Int)).map V.int))) l2=some (.lst ((s.runs.map fun r=>(r.n:Int)).map V.int)):=aA
  generalize aH H1 l2 (.lst ((s.runs.map fun r=>(r.n:Int)).map V.int))=H2 at k2 gl2 ⊢
  have eL:((s.runs.map fun r=>(r.n:Int)).map V.int).length=s.runs.length:=by rw[bN,bN]
  refine bB (bR K l2 ((s.runs.map fun r=>(r.n:Int)).map V.int)) (by rw[eL];omega) (fun j ys H'=>Same H2 H'/\ys.length<=j/\Paired (Ik H') (s.runs.take j) ys) (fun j ys H' ⟨e1,e2,_⟩=>⟨SqL.of (e1 _ _ gl2),e2⟩) ⟨Same.refl _,cA _,.nil⟩ (fun j x ys H' hx ⟨e1,e2,e3⟩=>?_) (fun ys H' ⟨e1,e2,e3⟩=>?_)
  ·rw[List.map_map,gQ]at hx;obtain⟨r,hr',rfl⟩:=Option.map_eq_some_iff.mp hx
   have hm:=kK hr'
   have kk:=k2.trans e1
   obtain⟨t0,hv0,g0⟩:=iF L1.tab hasc hm
   dsimp only [aJ];refine⟨bH rfl,fun p1 G1 f1 gp1=>?_⟩
   have dg:=DGet.k (k:=Sum.inl (r.n:Int)) (f1 _ _ (kk _ _ L1.gt))
   rw[hv0]at dg;refine⟨tb,.ref t0,rfl,dg,_,_,gp1,f1 _ _ (kk _ _ g0),bH rfl,fun p2 G2 f2 gp2=>⟨(e1.trans f1).trans f2,by rw[wC];simpa using e2,?_⟩⟩
   rw[aY hr'];exact Paired.snoc (Paired.map' (fun _ _ ⟨t,e,g⟩=>⟨t,e,f2 _ _ (f1 _ _ g)⟩) e3) ⟨p2,rfl,gp2⟩
  rw[eL,List.take_length]at e3;intro l3 hl3;have k3:=(k2.trans e1).trans (aF (o:=.lst ys) hl3)
  have gl3:(aH H' l3 (.lst ys)) l3=some (.lst ys):=aA
  have e3':=Paired.map' (fun _ _ ⟨t,e,g⟩=>(⟨t,e,aF (o:=.lst ys) hl3 _ _ g⟩:Ik (aH H' l3 (.lst ys)) _ _)) e3
  generalize aH H' l3 (.lst ys)=H3 at k3 gl3 e3' ⊢;have L3:=L1.same k3
  refine⟨3,_,Zd,wB (k3 _ _ gl) (Paired.map' (fun _ _ ⟨t,e,g⟩=>⟨t,e,k3 _ _ g⟩) pus) (fun r h'=>L3.h.dd r h'),wB gl3 e3' (fun r h'=>L3.h.dd r h'),?_⟩
  dsimp only [iP];have gl3':=k3 _ _ gl
  refine⟨.inl ⟨rfl,_,SqL.of gl3'⟩,l,us,rfl,rfl,gl3',?_⟩
  have ol:l∉a.fix++s.runs.map (·.p):=L.h.fresh hl0
  have tk4:TK H3 (aH H3 l (.lst [])):=fE gl3' fun _ z=>nomatch z
  have ne0:∀ {p o},H p=some o->(aH H3 l (.lst [])) p=some o:=fun e=>by rw[aD (aE e hl0)];exact k3 _ _ (s1 _ _ e)
  have L4:LI c (aH H3 l (.lst [])) i d b ln lh tb lk zs hs a s tkv al:=by
   obtain⟨ns,s0,k0,h1,h2,h3⟩:=L.dk.ex
   exact L3.move tk4 ⟨ns,s0,k0,ne0 h1,ne0 h2,h3⟩ (ne0 L.gn) (ne0 L.gh) (ne0 L.gk) (ne0 L.gt) (L3.h.outside ol gl3' (fun _ z=>nomatch z) _)
  dsimp only;generalize aH H3 l (.lst [])=H4 at L4 ⊢;refine⟨_,_,L4.h.dr,by kernel_rfl,a,s,rfl,L4.h,hr64,fun l5 us5 H5 hl5 s5 gl5 pus5=>⟨_,.inl (SqL.of gl5),_,s5 _ _ L4.gt,?_⟩⟩
  have el5:us5.length=tkv.length:=by rw[<- pus5.length,L.tab.length]
  have:=q H5 (L4.same s5)
  rw[show true=decide ((us5.length:Int)=(tkv.length:Int)) by rw[el5,decide_eq_true rfl]]at this
  exact this
end
end KL
namespace KL
open PySem L2
section
variable {P:Program} {w:World} {K:W.Frag} {mg:Str->Option Value} {base:Heap}
def Aq (K:W.Frag):Sp:=fun vs H Q _=>∃(a:Addr) (ns:List Int),vs=[.ref a]/\SqL K H a (ns.map V.int)/\ns.length<=63/\∀H',Q (.bl true) H'
theorem Ta {kvs:List (aZ × V)} {k:aZ} (h:k∈kvs.map (·.1)):∃v,aX kvs k=some v:=by
 cases e:aX kvs k with
 | some v=>exact⟨v,rfl⟩
 | none=>exact absurd h (gL e)
theorem Ix (n:Nat) (al:List Nat):rY (.int (n:Int)) (al.map fun(n:Nat)=>V.int (n:Int))=decide (n∈al):=by
 induction al with
 | nil=>rfl
 | cons a al ih=>
  have e:rY (.int (n:Int)) ((a::al).map fun(n:Nat)=>V.int (n:Int))=(decide ((a:Int)=(n:Int))||rY (.int (n:Int)) (al.map fun(n:Nat)=>V.int (n:Int))):=by
   unfold rY;rw[List.map_cons,List.any_cons];congr 1
  rw[e,ih,<- Bool.decide_or];congr 1
  rw[List.mem_cons];exact propext ⟨fun h=>h.imp (fun z=>by omega) id,fun h=>h.imp (fun z=>by omega) id⟩
theorem Iy {m n:Nat} (h:dI m=dI n):m=n:=by rw[<- uQ m,h,uQ]
theorem Mz {m:Nat} (h:m<100):isKy (dI m):=by
 refine⟨Ft m,fU (Lg (k:=1) h) Zd,fun c hc=>List.mem_append_right _ ((Lf c).mpr ?_)⟩
 have:=uP m c hc
 exact this
theorem Tb {c:CK} {CH:Addr} (T:Txt K mg) (cLdeck:aI P w K mg base 1 "_law_deck" ["_law_script"] (Fn K)) (cLdraw:aI P w K mg base 1 "_law_draw" ["_law_deck_here","_law_many"] lE) (cLunlike:aI P w K mg base 2 "_law_unlike" ["_law_deck_here","_law_signs","_law_longest","_law_many"] rB) (c_Door:tY P w K mg base 6 "Door" c.D ["self","name","life","houses"] [] (Ag c)) (c_House0:tY P w K mg base 1 "House" CH ["self","rows","closed"] [.non,.non] (rG CH)) (cLdeed:aI P w K mg base 3 "_law_deed" ["_law_deck_here","_law_names_here","_law_houses"] vX)
  (c_Door_come:cT P w K mg base 5 c.D "come" ["self","turn","asker","key","deed"] (Ai c)) (cLforced:aI P w K mg base 5 "_law_forced" ["_law_door","_law_table"] (pQ c)) (cLstepped:aI P w K mg base 6 "_law_stepped" ["_law_door","_law_table","_law_number"] (rK c)) (cLright:aI P w K mg base 3 "_law_right" ["_law_door","_law_table"] (rL c))
  {f:Addr} {fd:FuncData} (F:Fun K "law" "law" iI f fd):iM P w K mg base qM 8 f fd ["_law_script"] (Aq K):=by
 refine F.go dE (fun vs H Q E h=>?_) (fun cdv A outer s H vs Q E hr h=>?_)
 ·obtain⟨a,ns,rfl,_⟩:=h;rfl
 ·obtain⟨sa,ns,rfl,hS,hlen,Q0⟩:=h
  have hu:=hr.units0
  have hu1:=cS hr
  have hu64:=hr.units
  have hLdeck:Room 1 _:=hr.mono Zd
  have hLdraw:Room 1 _:=hr.mono Zd
  have hLunlike:Room 2 _:=hr.mono Zd
  have hr_Door:Room 7 _:=hr
  have hr_House:Room 2 _:=hr.mono Zd
  have hLdeed:Room 3 _:=hr.mono Zd
  have hr_Door_come:Room 5 _:=hr.mono Zd
  have hLforced:Room 5 _:=hr.mono Zd
  have hLstepped:Room 6 _:=hr.mono Zd
  have hLright:Room 3 _:=hr.mono Zd
  refine⟨_,(R.ad (R.av (i:=1) dE.nd (R.fn cLdeck hLdeck rfl (R.aa (R.v 0) R.ab))) (R.ad (R.av (i:=2) dE.nd R.ah) (R.ad (R.av (i:=3) dE.nd (R.fn cLunlike hLunlike rfl (R.aa (R.v 1) (R.aa (R.v 2) (R.aa R.ac (R.aa (R.op R.ba R.ac (R.fn cLdraw hLdraw rfl (R.aa (R.v 1) (R.aa R.ac R.ab)))) R.ab)))))) (R.ad (R.av (i:=4) dE.nd (R.fn cLunlike hLunlike rfl (R.aa (R.v 1) (R.aa (R.v 2) (R.aa R.ac (R.aa R.ac R.ab)))))) (R.ad (R.av (i:=5) dE.nd (R.cw c_Door hr_Door rfl (R.aa (R.ix (R.be (K:=K)) (R.fn cLunlike hLunlike rfl (R.aa (R.v 1) (R.aa (R.v 2) (R.aa R.ac (R.aa R.ac R.ab))))) R.ac) (R.aa (R.op R.dt R.ac R.ac) (R.aa (R.bi rfl (js:=[none]) (N:=["_law_house"]) (CompScope.by (aB iI) ["_law_script","_law_deck_here","_law_letters","_law_names_here","_law_houses","_law_door","_law_table","_law_count","_law_asked","_law_begun","_law_k","_law_deed_here","_law_some"] rfl rfl Zk) (aO rfl) (R.bf (K:=K) (R.v 4)) (fun C s₂ H₂ fp=>⟨(R.gn (i:=0) (show(["_law_house"]:List Str).Nodup by decide +kernel)),R.br,(R.ap (R.aa (R.v 0) (R.aa (R.ia c_House0 hr_House rfl) R.ab)))⟩)) R.ab))))) (R.ad (R.av (i:=6) dE.nd R.cn) (R.ad (R.av (i:=7) dE.nd (R.op R.ba R.ac (R.fn cLdraw hLdraw rfl (R.aa (R.v 1) (R.aa R.ac R.ab))))) (R.ad (R.av (i:=8) dE.nd (R.bj R.ab)) (R.ad (R.av (i:=9) dE.nd R.ac) (R.ad (R.bq PassesOwn.never rfl (R.dw rfl T.b_range (R.aa (R.op R.ba R.ac (R.fn cLdraw hLdraw rfl (R.aa (R.v 1) (R.aa R.ac R.ab)))) R.ab)) (R.gn (i:=10) dE.nd) (R.ad (R.ar (R.tw (R.cr (R.aj R.lt (R.v 9) (R.v 7)) (R.cu (R.tw (R.cj (R.aj (R.fu hu64) (R.v 6) R.cn) (R.ck (R.aj R.eq (R.fn cLdraw hLdraw rfl (R.aa (R.v 1) (R.aa R.ac R.ab))) R.ac))))))) (R.ad (R.av (i:=9) dE.nd (R.op R.ba (R.v 9) R.ac)) (R.ad (R.av (i:=11) dE.nd (R.fn cLdeed hLdeed rfl (R.aa (R.v 1) (R.aa (R.v 3) (R.aa (R.v 4) R.ab))))) (R.ad (R.ar (R.aj (R.cx hu64) (R.bc c_Door_come hr_Door_come (R.v 5) (R.aa (R.v 10) (R.aa (R.ix (R.be (K:=K)) (R.v 3) R.ac) (R.aa (R.cm R.ib rfl T.b_str sW (R.aa (R.v 9) R.ab)) (R.aa (R.v 11) R.ab))))) (R.ap (R.aa R.ah (R.aa (R.v 9) R.ab)))) (R.ae (R.af R.bl)) R.au) (R.ae (R.bz (R.ap (R.aa (R.ix (R.be (K:=K)) (R.v 3) R.ac) (R.aa (R.cm R.ib rfl T.b_str sW (R.aa (R.v 9) R.ab)) (R.aa (R.v 11) (R.aa R.ah R.ab))))) (R.ce (R.v 6) (R.v 9) (R.cc hu1))))))) (R.ae (R.ar (R.aj R.eq (R.fn cLdraw hLdraw rfl (R.aa (R.v 1) (R.aa R.ac R.ab))) R.ac) (R.ad (R.av (i:=8) dE.nd (R.gv (R.bi rfl (js:=[none,some 6]) (N:=["_law_number","_law_table"]) (CompScope.by (aB iI) ["_law_script","_law_deck_here","_law_letters","_law_names_here","_law_houses","_law_door","_law_table","_law_count","_law_asked","_law_begun","_law_k","_law_deed_here","_law_some"] rfl rfl Zk) (aO rfl) (R.wD (R.v 6)) (fun C s₂ H₂ fp=>⟨(R.gn (i:=0) (show(["_law_number","_law_table"]:List Str).Nodup by decide +kernel)),(R.bt (R.aj R.eq (R.ix (R.ag (K:=K)) (R.bh hu1 (R.v 1) (R.v 0)) R.ac) R.ah)),(R.v 0)⟩)))) (R.ae (R.ar (R.bp (R.bn (R.fn cLforced hLforced rfl (R.aa (R.v 5) (R.aa (R.v 6) R.ab))))) (R.ae (R.af R.bl)) R.au))) (R.ad (R.dm (i:=12) dE.nd rfl (Or.inl rfl) rfl (js:=[none,some 8]) (N:=["_law_number","_law_asked"]) (CompScope.by (aB iI) ["_law_script","_law_deck_here","_law_letters","_law_names_here","_law_houses","_law_door","_law_table","_law_count","_law_asked","_law_begun","_law_k","_law_deed_here","_law_some"] rfl rfl Zk) (aO rfl) (R.bf (K:=K) (R.ax (R.cp rfl) rfl T.b_sorted cO (R.aa (R.v 6) R.ab))) (fun C s₂ H₂ fp=>⟨(R.gn (i:=0) (show(["_law_number","_law_asked"]:List Str).Nodup by decide +kernel)),(R.bt (R.aj (R.eo (K:=K)) (R.v 0) (R.v 1))),(R.v 0)⟩) rfl) (R.ae (R.ar (R.tw (R.cr (R.aj (R.er (K:=K) hu) (R.v 12) (R.bj R.ab)) (R.cu (R.bp (R.bn (R.fn cLstepped hLstepped rfl (R.aa (R.v 5) (R.aa (R.v 6) (R.aa (R.ix (R.be (K:=K)) (R.v 12) (R.fn cLdraw hLdraw rfl (R.aa (R.v 1) (R.aa (R.ax (R.bw (K:=K)) rfl T.b_len cH (R.aa (R.v 12) R.ab)) R.ab)))) R.ab))))))))) (R.ae (R.af R.bl)) R.au)))))) (R.ae (R.ar (R.bp (R.bn (R.fn cLright hLright rfl (R.aa (R.v 5) (R.aa (R.v 6) R.ab))))) (R.ae (R.af R.bl)) R.au)))) (R.ae (R.af R.bl)))))))))))),?_⟩
  refine⟨sa,ns,rfl,hS,fun d b H1 hd0 hb0 D1 s1=>?_⟩
  dsimp only [aJ];refine⟨d,b,5,rfl,D1,Zd,Zd,fun r1 H2 a0 a1 D2 k2=>?_⟩
  obtain⟨r1,rfl⟩:=Ms a0
  refine⟨d,b,LET,8,2+r1,by rw[<- yG,show((2+r1:Nat):Int)=2+(r1:Int) by omega];rfl,D2,Zo,Zo,Zd,Sv,by show 2+r1<=26;omega,Zd,fun ln zs H3 wz hzl gn nn nn' D3 k3=>?_⟩
  dsimp only [aJ];have hzs:Ol zs:=⟨wz.nd,wz.nm,Zo,Zo⟩
  refine⟨d,b,LET,8,2,by rw[<- yG];rfl,D3,Zd,Zd,Zd,Sv,Zd,Zd,fun lh hs H4 wh hhl gh nh nh' D4 k4=>?_⟩
  dsimp only [aJ];have gn4:=k4 _ _ gn nn nn'
  refine⟨d,b,LET,5,1,by rw[<- yG];rfl,D4,Zd,Zd,Zd,Sv,Zd,Zd,fun lnm ws H5 ww hwl gw nw nw' D5 k5=>?_⟩
  obtain⟨nm,rfl⟩:∃nm,ws=[nm]:=by
   match ws,hwl with
   | [nm],_=>exact⟨nm,rfl⟩
  have hnm:=ww.of nm Zs
  have gn5:=k5 _ _ gn4 nn nn'
  have gh5:=k5 _ _ gh nh nh'
  refine⟨_,SqL.of gw,_,rfl,⟨Zd,Zd,Zd⟩,lh,rfl,⟨_,SqL.of gh5⟩,?_⟩
  refine bB (bR K lh (hs.map V.str)) (by rw[bN];omega) (fun j ys G=>Same H5 G/\∃us:List W,ys=us.map (fun z=>V.ref z.1)/\us.length<=j/\Vt G us/\us.map (fun z=>z.2.1)=(hs.take j).map Sum.inr) (fun j ys G ⟨e1,us,e2,e3,_⟩=>⟨SqL.of (e1 _ _ gh5),by rw[e2,bN];exact e3⟩) ⟨Same.refl _,[],rfl,cA _,(fun _ h=>nomatch h),rfl⟩ (fun j x ys G hx ⟨e1,us,e2,e3,e4,e5⟩=>?_) (fun ys G ⟨e1,us,e2,e3,e4,e5⟩=>?_)
  ·rw[gQ]at hx;obtain⟨hname,hhj,rfl⟩:=Option.map_eq_some_iff.mp hx
   dsimp only [aJ];intro x dx hx0 hdx0 hne;refine⟨x,dx,rfl,aA,fun G1 f1 f2=>⟨rfl,?_⟩⟩
   have sG:Same G G1:=fun p o e=>f1 _ _ (by rw[aD (aE e hx0),aD (aE e hdx0)];exact e) (aE e hx0)
   refine⟨bH rfl,fun t G2 s2 gt=>⟨(e1.trans sG).trans s2,us++[(t,Sum.inr hname,.ref x)],by rw[e2,iG];rfl,by rw[wC];simpa using e3,fun z hz=>?_,?_⟩⟩
   ·rcases Zma.mp hz with m | m
    ·exact s2 _ _ (sG _ _ (e4 z m))
    ·rw[Zms.mp m];exact gt
   ·rw[iG,e5,aY hhj,iG];rfl
  rw[bN,List.take_length]at e5;intro lhh hlhh;have s6:=e1.trans (aF (o:=.lst ys) hlhh)
  have glhh:(aH G lhh (.lst ys)) lhh=some (.lst (us.map fun z=>V.ref z.1)):=by rw[aA,e2]
  have wat:Vt (aH G lhh (.lst ys)) us:=fun z hz=>aF hlhh _ _ (e4 z hz)
  generalize aH G lhh (.lst ys)=H6 at s6 glhh wat ⊢;have hul:us.length=2:=by
   have:=congrArg List.length e5
   rw[bN,bN]at this;omega
  intro p dx hp hdx hne;have nn6:∀ {q u},H6 q=some u->(aH (aH H6 dx (.own p)) p (.ins c.D dx [])) q=some u:=fun e=>by rw[aD (aE e hp),aD (aE e hdx)];exact e
  refine⟨p,dx,lhh,nm,_,us,rfl,aA,⟨hnm.1,fU hnm.2.1 Zd,hnm.2.2⟩,hnm.2.1,nn6 glhh,(fun z hz=>nn6 (wat z hz)),Zo,fun a H7 hdr h7 hfx k7=>⟨rfl,?_⟩⟩
  have s7:Same H6 H7:=fun q u e=>k7 _ _ (nn6 e) (aE e hp)
  have ekv:dU [] (us.map (·.2))=us.map (·.2):=by
   rw[mD _ _ ?_ fun _ _=>rfl]
   ·rfl
   ·rw[List.map_map];show(us.map fun z=>z.2.1).Nodup
    rw[e5];exact mE wh.nd
  have hvs:∀z∈hs,∃v,aX (us.map (·.2)) (Sum.inr z)=some v:=fun z hz=>Ta (by
   rw[List.map_map];show Sum.inr z∈us.map fun z=>z.2.1
   rw[e5];exact List.mem_map_of_mem hz)
  rw[ekv]at h7;obtain⟨life,hlife⟩:∃life:Int,life=10 ^ (12:Int).toNat:=⟨_,rfl⟩
  rw[<- hlife]at h7;have out7:∀q u,H6 q=some u->q∉a.fix++(Wp nm life (us.map (·.2))).runs.map (·.p):=fun q u e m=>by
   have m':q∈a.fix:=by
    rcases Zma.mp m with z | z
    ·exact z
    ·exact nomatch z
   rcases hfx q m' with z | z
   ·rw[z]at e;rw[e]at hp;cases hp
   ·rw[nn6 e]at z;cases z
  dsimp only [aJ];intro tb htb;dsimp only [aJ];have s8:=aF (o:=.dK []) htb
  have gtb:(aH H7 tb (.dK [])) tb=some (.dK []):=aA
  have otb:=h7.fresh htb
  generalize aH H7 tb (.dK [])=H8 at s8 gtb ⊢;have s58:=(s6.trans s7).trans s8
  refine⟨d,b,9,rfl,D5.same s58,Zd,Zd,fun r2 H9 b0 b1 D9 k9=>?_⟩
  obtain⟨r2,rfl⟩:=Ms b0
  dsimp only [aJ];refine⟨kJ rfl,fun lk hlk=>?_⟩
  dsimp only [aJ];have L0:LI c (aH H9 lk (.lst [])) 0 d b ln lh tb lk zs hs a (Wp nm life (us.map (·.2))) [] []:=by
   obtain⟨ns0,s0,k0,gd,gb,_⟩:=(D5.same s58).ex
   have kk9:∀ {q u},H8 q=some u->q≠d->q≠b->(aH H9 lk (.lst [])) q=some u:=fun e h1 h2=>aF hlk _ _ (k9 _ _ e h1 h2)
   have hgn:=s58 _ _ gn5
   have hgh:=s58 _ _ gh5
   have h9:DAt c (aH H9 lk (.lst [])) a (Wp nm life (us.map (·.2))):=((h7.same s8).keep (fun q u e hq=>k9 _ _ e (fun z=>out7 d _ (s6 _ _ (D5.ex.choose_spec.choose_spec.choose_spec.1)) (z ▸ hq)) (fun z=>out7 b _ (s6 _ _ (D5.ex.choose_spec.choose_spec.choose_spec.2.1)) (z ▸ hq))) (Al (D5.same s58) k9)).same (aF hlk)
   refine⟨D9.new hlk,kk9 hgn nn nn',kk9 hgh nh nh',aA,⟨nn,nn'⟩,⟨nh,nh'⟩,D9.ne hlk,kk9 gtb (aK gtb gd fun z=>nomatch z) (aK gtb gb fun z=>nomatch z),.nil,h9,fun q hq=>?_,by show 0+0+2<=2*1;decide,⟨by show 1<=1;decide,by show 1<=0+1;decide⟩,cA _,cA _,(fun r hr=>nomatch hr),(fun r hr=>nomatch hr),(fun q e he=>nomatch he),(fun z hz=>nomatch hz),(fun r hr=>nomatch hr),hvs,(fun v hv=>nomatch hv),(fun v hv=>nomatch hv),⟨fun _=>0,[],[],[],fun _=>rfl,fun _=>Nat.zero_le _,rfl,rfl,.nil,List.nodup_nil,fun r=>⟨fun h=>(nomatch h),fun h=>(nomatch h.1)⟩,fun v hv=>nomatch hv⟩⟩
   simp only [List.mem_cons,List.not_mem_nil,or_false]at hq
   rcases hq with rfl | rfl | rfl | rfl | rfl | rfl
   ·exact out7 _ _ (s6 _ _ D5.ex.choose_spec.choose_spec.choose_spec.1)
   ·exact out7 _ _ (s6 _ _ D5.ex.choose_spec.choose_spec.choose_spec.2.1)
   ·exact out7 _ _ (s6 _ _ gn5)
   ·exact out7 _ _ (s6 _ _ gh5)
   ·exact otb
   ·exact fun m=>(h7.same s8).fresh (by
     cases e:H8 q with
     | none=>rfl
     | some u=>
      by_cases z1:q=d
      ·obtain⟨x1,x2,x3,g1,_⟩:=D9.ex
       rw[z1,g1]at hlk;cases hlk
      ·by_cases z2:q=b
       ·obtain⟨x1,x2,x3,_,g2,_⟩:=D9.ex
        rw[z2,g2]at hlk;cases hlk
       ·rw[k9 _ _ e z1 z2]at hlk;cases hlk) m
  generalize aH H9 lk (.lst [])=H10 at L0 ⊢;refine⟨d,b,41,rfl,L0.dk,Zd,Zd,fun r3 H11 c0 c1 D11 k11=>?_⟩
  obtain⟨r3,rfl⟩:=Ms c0
  have L1:=L0.draw D11 k11
  refine⟨10+(r3:Int),rfl,Zo,Zo,?_⟩
  refine eC (jD 0 (10+(r3:Int)).toNat) (fun i σ G=>∃(s:DS) (tkv:List (aZ × V)) (al:List Nat) (lk:Addr) (bg:Nat) (o10 o11 o12:Option V),σ=[some (.ref sa),some (.ref d),some (.str "abcdefghijklmnopqrstuvwxyz"),some (.ref ln),some (.ref lh),some (.ref a.dr),some (.ref tb),some (.int (2+(r2:Int))),some (.ref lk),some (.int (bg:Int)),o10,o11,o12]/\s.next=bg+1/\s.turn<=(i:Int)/\LI c G i d b ln lh tb lk zs hs a s tkv al) (fun _ _ _ _=>trivial)
   ⟨_,_,_,lk,0,_,_,_,by rw[<- hdr];rfl,rfl,by show(0:Int)<=0;omega,L1⟩ ?_ (fun σ G _=>Q0 G)
  rintro i x σ G hx ⟨s,tkv,al,lk,bg,o10,o11,o12,rfl,hnx',htn,L⟩
  obtain⟨rfl,hi⟩:=xY hx
  have hi50:i<=50:=by omega
  dsimp only [aJ];refine qZ (fun σ' G'=>∃(s:DS) (tkv:List (aZ × V)) (al:List Nat) (lk:Addr) (bg:Nat) (o11 o12:Option V),σ'=[some (.ref sa),some (.ref d),some (.str "abcdefghijklmnopqrstuvwxyz"),some (.ref ln),some (.ref lh),some (.ref a.dr),some (.ref tb),some (.int (2+(r2:Int))),some (.ref lk),some (.int (bg:Int)),some (.int (i:Int)),o11,o12]/\s.next=bg+1/\s.turn<=(i:Int)/\LI c G' (i+1) d b ln lh tb lk zs hs a s tkv al) (fun nx hnx=>?_) ?_
  ·refine Gy (fun v G'=>LI c G' i d b ln lh tb lk zs hs a s tkv al) (fun k hk=>?_) (fun G1 L=>?_) (fun G1 L=>?_)
   ·show if decide ((bg:Int)<2+(r2:Int))=true then _ else _
    refine fX (fun _=>?_) (fun _=>hk _ _ L)
    intro e he;have L':=L.same (aF (o:=.dK []) he)
    refine⟨tkv,L'.gt,aA,?_⟩
    show if decide (tkv=[])=true then _ else _
    refine fX (fun _=>hk _ _ L') (fun _=>?_)
    refine⟨d,b,3,rfl,L'.dk,Zd,Zd,fun v1 G2 h0 h1 D2' j2=>?_⟩
    exact hk _ _ (L'.draw D2' j2)
   ·have eb:(bg:Int)+1=(s.next:Int):=by rw[hnx'];omega
    refine qZ (fun σ' G'=>σ'=[some (.ref sa),some (.ref d),some (.str "abcdefghijklmnopqrstuvwxyz"),some (.ref ln),some (.ref lh),some (.ref a.dr),some (.ref tb),some (.int (2+(r2:Int))),some (.ref lk),some (.int (s.next:Int)),some (.int (i:Int)),o11,o12]/\G'=G1) (fun nx2 hnx2=>?_) ?_
    ·refine hnx2 _ _ ⟨?_,rfl⟩
     rw[<- eb];rfl
    rintro _ _ ⟨rfl,rfl⟩
    refine⟨d,b,ln,lh,zs,hs,rfl,L.dk,L.gn,L.nn.1,L.nn.2,hzs,L.gh,L.nh.1,L.nh.2,hhl,wh.nd,wh.nm,fun dd x G2 hx gdd D2' j2=>?_⟩
    dsimp only [aJ];have L2:=L.draw D2' j2
    obtain⟨z0,zr,hz0⟩:∃z0 zr,zs=z0::zr:=by
     cases zs with
     | nil=>exact absurd hzl (by simp;omega)
     | cons z0 zr=>exact⟨z0,zr,rfl⟩
    have at0:lM (zs.map V.str) 0=some (.str z0):=by rw[hz0];exact gA (show(V.str z0::zr.map V.str)[0]?=some _ from rfl)
    have hnx52:s.next<=52:=by have:=L.hx.2;omega
    have hbd:0<=(s.next:Int)/\(s.next:Int)<10 ^ 40:=⟨Zo,Zo⟩
    have hmq:s.m (z0,dI s.next)=none:=by
     cases e:s.m (z0,dI s.next) with
     | none=>rfl
     | some v=>
      obtain⟨n,h1,h2⟩:=L.mo _ _ e
      have:=Iy h2
      omega
    have hlen:=L.hL
    have hrl:=L.hr
    have hol:=L.ho
    refine⟨_,_,L2.h.dr,by kernel_rfl,_,SqL.of L2.gn,_,at0,hbd,a,s,(i:Int),(z0,dI s.next),dd,x,rfl,L2.h,hzs.2.1 z0 (by rw[hz0];simp),Mz Zo,hx.ok,fun p hp=>L.hv _ (hx.ho p hp),gdd,Zo,L.hn,Zo,Zo,htn,by rw[hmq];rfl,fun t p6 dx6 ra6 G3 h3 v3 gra gt=>?_⟩
    refine⟨bH rfl,fun t2 G4 s4 gt2=>?_⟩
    have rp:∀u,G4 u=some (.tup [.str "begun",.int s.next])->Dc G4 1 (.tp [.sc (.str "begun"),.sc (.int s.next)]) (.ref u):=fun u g=>⟨u,_,rfl,g,.cons ⟨rfl,rfl⟩ (.cons ⟨rfl,rfl⟩ .nil)⟩
    refine⟨1,_,Zd,rp t (s4 _ _ gt),rp t2 gt2,?_⟩
    obtain⟨e1,e2,e3,e4,e5,e6⟩:=L2.left v3
    refine⟨_,SqL.of (s4 _ _ e2),_,at0,hbd,bH rfl,fun t3 G5 s5 gt3=>⟨tb,_,rfl,DPut.k (k:=Sum.inl (s.next:Int)) (s5 _ _ (s4 _ _ e5)) (wH (m:=1000) (by rw[<- L.tab.length];omega) Zd),?_⟩⟩
    refine hnx _ _ ⟨kI s (i:Int) (z0,dI s.next) dd x p6 dx6 ra6,_,al,lk,bg+1,some (.ref dd),o12,?_,by show s.next+1=bg+1+1;omega,Int.le_refl _,L2.begun hx h3 v3 gra hmq (s4.trans s5) gt3⟩
    rw[show((bg+1:Nat):Int)=(s.next:Int) by rw[hnx']]
    rfl
   ·refine Gy (fun v G'=>LI c G' i d b ln lh tb lk zs hs a s tkv al) (fun k hk=>?_) (fun G2 L=>?_) (fun G2 L=>?_)
    ·refine⟨d,b,8,rfl,L.dk,Zd,Zd,fun v1 G2 h0 h1 D2' j2=>?_⟩
     exact hk _ _ (L.draw D2' j2)
    ·have hasc:=L.h.up
     have htl:=L.tab.length
     have hrl:=L.hr
     refine⟨tkv,L.gt,fun o=>?_⟩
     have gF:(aH G2 tb (.frz o (.dK tkv))) tb=some (.frz o (.dK tkv)):=aA
     have kF:∀q u,G2 q=some u->q≠tb->(aH G2 tb (.frz o (.dK tkv))) q=some u:=fun q u e hq=>by rw[aD hq];exact e
     refine bB (zM tb o tkv) (by rw[bN];omega) (fun j ys G3=>G3=aH G2 tb (.frz o (.dK tkv))/\ys=(((s.runs.take j).filter fun(r:Rn)=>decide (r.st=("asked":Str))).map (fun(r:Rn)=>r.n)).map fun(n:Nat)=>V.int (n:Int)) (fun j ys G3 ⟨e1,e2⟩=>⟨by rw[e1];exact gF,by rw[e2,bN,bN];exact fU (List.length_filter_le _ _) (by rw[oC];omega)⟩) ⟨rfl,rfl⟩ (fun j x ys G3 hx ⟨e1,e2⟩=>?_) (fun ys G3 ⟨e1,e2⟩=>?_)
     ·subst e1;rw[gQ]at hx;obtain⟨kv,hkv,rfl⟩:=Option.map_eq_some_iff.mp hx
      obtain⟨hj,ej⟩:=Zgs.mp hkv
      obtain⟨hj',hk1,_⟩:=Paired.get' (j:=j) L.tab hj
      rw[ej]at hk1;have hrj:s.runs[j]?=some s.runs[j]:=lO hj'
      have hm:=List.getElem_mem hj'
      generalize s.runs[j]=r at hk1 hrj hm;obtain⟨t0,hv0,g0⟩:=iF L.tab hasc hm
      dsimp only [aJ];rw[hk1];refine⟨tb,.ref t0,rfl,.inl ⟨_,Sum.inl (r.n:Int),.inr ⟨o,gF⟩,rfl,hv0.symm⟩,_,SqT.of (kF _ _ g0 (aK g0 L.gt fun z=>nomatch z)),.str r.st,rfl,?_⟩
      rw[aY hrj,List.filter_append,iG,iG,e2];show if decide (r.st="asked")=true then _ else _
      refine fX (fun hb=>?_) (fun hb=>?_)
      ·exact⟨rfl,by rw[List.filter_cons,if_pos hb];rfl⟩
      ·exact⟨rfl,by rw[List.filter_cons,if_neg (by rw[hb];exact Bool.false_ne_true)];simp⟩
     subst e1;rw[bN,<- htl,List.take_length]at e2;intro l hl;have ntl:tb≠l:=aE gF hl
     refine⟨tb,tkv,o,⟨_,L.gt⟩,by rw[aD ntl];exact gF,?_⟩
     have sT:=kH (u:=.lst ys) L.gt hl
     have gl:(aH (aH (aH G2 tb (.frz o (.dK tkv))) l (.lst ys)) tb (.dK tkv)) l=some (.lst ys):=by rw[aD ntl.symm];exact aA
     have hl0:G2 l=none:=by rw[aD ntl.symm]at hl;exact hl
     generalize aH (aH (aH G2 tb (.frz o (.dK tkv))) l (.lst ys)) tb (.dK tkv)=G4 at sT gl ⊢;have L4:=L.same sT
     rw[e2]at gl;have L5:=L4.relist gl (L.h.fresh hl0) (L.dk.ne hl0) (fun r hr' hst=>List.mem_map_of_mem (List.mem_filter.mpr ⟨hr',decide_eq_true hst⟩))
     dsimp only [aJ];refine⟨i,d,b,ln,lh,tb,l,zs,hs,a,s,tkv,_,rfl,L5,Zo,by have:=hzs.2.2.2;omega,(fun r hr' hst=>List.mem_map_of_mem (List.mem_filter.mpr ⟨hr',decide_eq_true hst⟩)),fun s' tkv' G5 L6 n1 n2 n3=>?_⟩
     exact hnx _ _ ⟨s',tkv',_,l,bg,_,_,rfl,by rw[n1];exact hnx',by rw[n2];exact htn,L6⟩
    ·have hasc:=L.h.up
     have hrl:=L.hr
     refine⟨s.runs.map fun r=>(r.n:Int),_,.inl L.gt,lK L.tab,by rw[bN];omega,fun l ns hlf hp hso=>⟨l,rfl,⟨_,SqL.of aA⟩,?_⟩⟩
     have ens:ns=s.runs.map fun r=>(r.n:Int):=fA hso (List.pairwise_map.mpr (hasc.imp fun z=>by omega)) hp
     subst ens;have k1:=aF (o:=.lst ((s.runs.map fun r=>(r.n:Int)).map V.int)) hlf
     have gl:(aH G2 l (.lst ((s.runs.map fun r=>(r.n:Int)).map V.int))) l=some (.lst ((s.runs.map fun r=>(r.n:Int)).map V.int)):=aA
     generalize aH G2 l (.lst ((s.runs.map fun r=>(r.n:Int)).map V.int))=G3 at k1 gl ⊢
     have L3:=L.same k1
     have eL:((s.runs.map fun r=>(r.n:Int)).map V.int).length=s.runs.length:=by rw[bN,bN]
     refine bB (bR K l ((s.runs.map fun r=>(r.n:Int)).map V.int)) (by rw[eL];omega) (fun j ys G4=>G4=G3/\ys=((s.runs.take j).filter fun(r:Rn)=>!decide (r.n∈al)).map fun(r:Rn)=>V.int (r.n:Int)) (fun j ys G4 ⟨e1,e2⟩=>⟨by rw[e1];exact SqL.of gl,by rw[e2,bN];exact fU (List.length_filter_le _ _) (by rw[oC];omega)⟩) ⟨rfl,rfl⟩ (fun j x ys G4 hx ⟨e1,e2⟩=>?_) (fun ys G4 ⟨e1,e2⟩=>?_)
     ·subst e1;rw[List.map_map,gQ]at hx;obtain⟨r,hr',rfl⟩:=Option.map_eq_some_iff.mp hx
      dsimp only [aJ];refine⟨lk,_,rfl,.inl (SqL.of L3.gk),rfl,by simp [eN],?_⟩
      show if (!rY (.int (r.n:Int)) (al.map fun(n:Nat)=>V.int (n:Int)))=true then _ else _
      rw[Ix,aY hr',List.filter_append,iG,e2];refine fX (fun hb=>?_) (fun hb=>?_)
      ·exact⟨rfl,by rw[List.filter_cons,if_pos hb];rfl⟩
      ·exact⟨rfl,by rw[List.filter_cons,if_neg (by rw[hb];exact Bool.false_ne_true)];simp⟩
     subst e1;rw[eL,List.take_length]at e2;intro l2 hl2;dsimp only [aJ];have L5:=L3.same (aF (o:=.lst ys) hl2)
     have gl2:(aH G4 l2 (.lst ys)) l2=some (.lst ys):=aA
     have nl2:=L3.dk.ne hl2
     generalize aH G4 l2 (.lst ys)=G5 at L5 gl2 ⊢;refine⟨kJ rfl,fun l3 hl3=>⟨l2,l3,ys,rfl,rfl,SqL.of (aF hl3 _ _ gl2),SqL.of aA,?_⟩⟩
     have L6:=L5.same (aF (o:=.lst []) hl3)
     have gl6:=aF (o:=.lst []) hl3 _ _ gl2
     generalize aH G5 l3 (.lst [])=G6 at L6 gl6 ⊢;cases hfl:s.runs.filter (fun(r:Rn)=>!decide (r.n∈al)) with
     | nil=>
      rw[hfl]at e2;subst e2;exact hnx _ _ ⟨s,tkv,al,lk,bg,_,_,rfl,hnx',htn,L6.more⟩
     | cons r0 rest=>
      rw[hfl]at e2;have e2':=e2
      subst e2;refine⟨_,.inl (SqL.of gl6),d,b,_,rfl,L6.dk,Zs,?_,fun v2 G7 h0 h1 D7 j7=>?_⟩
      ·have:=List.length_filter_le (fun(r:Rn)=>!decide (r.n∈al)) s.runs
       rw[hfl]at this;rw[bN];omega
      have L7:=L6.draw D7 j7
      have gl7:=j7 _ _ gl6 nl2.1 nl2.2
      obtain⟨v2,rfl⟩:=Ms h0
      rw[bN]at h1;have hv2:v2<(r0::rest).length:=by omega
      have hrm:(r0::rest)[v2]∈s.runs.filter (fun(r:Rn)=>!decide (r.n∈al)):=by rw[hfl];exact List.getElem_mem hv2
      obtain⟨hr1,hr2⟩:=List.mem_filter.mp hrm
      refine⟨_,SqL.of gl7,.int ((r0::rest)[v2].n:Int),gA (by rw[gQ,lO hv2];rfl),i,d,b,ln,lh,tb,lk,zs,hs,a,s,tkv,al,(r0::rest)[v2],rfl,L7,hr1,Zo,by simpa using hr2,fun s' tkv' G8 L8 n1 n2 n3=>?_⟩
      exact hnx _ _ ⟨s',tkv',al,lk,bg,_,_,rfl,by rw[n1];exact hnx',by rw[n2];exact htn,L8⟩
  ·rintro σ' G1 ⟨s,tkv,al,lk,bg,o11,o12,rfl,hnx,htn,L⟩
   refine⟨i+1,d,b,ln,lh,tb,lk,zs,hs,a,s,tkv,al,rfl,L,Zo,fun G2 L2=>?_⟩
   exact⟨s,tkv,al,lk,bg,_,_,_,rfl,hnx,by push_cast;omega,L2⟩
end
end KL
namespace KL
open PySem L2
structure FA (K:W.Frag) (x:Str) (st:Stmt):Prop where
 ex:∃(f:Addr) (od an:Option Addr) (sl:Array (Option Value)) (oc kV dc pm cd ct:Value),W.nsIn K mainGlobals x=some (some (.ref f))/\K.lookup f=some ⟨oc,od,.func (W.fnOf x x (bA st) (aR st) (aB st) .none kV dc pm an cd ct),sl⟩/\W.codeIn K cd x=true/\W.keepIn K (.ref f)=true
theorem FA.of {K:W.Frag} {x:Str} {st:Stmt} {f:Addr} {od an:Option Addr} {sl:Array (Option Value)} {oc kV dc pm cd ct:Value} (a:W.nsIn K mainGlobals x=some (some (.ref f))) (l:K.lookup f=some ⟨oc,od,.func (W.fnOf x x (bA st) (aR st) (aB st) .none kV dc pm an cd ct),sl⟩) (c:W.codeIn K cd x=true) (k:W.keepIn K (.ref f)=true):FA K x st:=⟨f,od,an,sl,oc,kV,dc,pm,cd,ct,a,l,c,k⟩
theorem FA.at {K:W.Frag} {x:Str} {st:Stmt} {ps:List Str} {h:Heap} {mg:Str->Option Value} (F:FA K x st) (X:K.In h) (G:h.Ns mainGlobals mg) (hb:∀(kV doc pm:Value) (an:Option Addr) (cdv ct:Value) (us:List Value),us.length=ps.length->bindArgs (W.fnOf x x (bA st) (aR st) (aB st) .none kV doc pm an cdv ct) ⟨us,[]⟩=pure (ps.zip us)):DefAt K mg x st ps:=by
 obtain⟨f,od,an,sl,oc,kV,dc,pm,cd,ct,a,l,c,k⟩:=F.ex
 exact Rp X G a l c k hb
structure MA (K:W.Frag) (C:Addr) (m qual:Str) (st:Stmt):Prop where
 ex:∃(f:Addr) (od an:Option Addr) (sl:Array (Option Value)) (oc kV dc pm cd ct:Value),W.findIn K (.ref C) m=some (some (.ref f))/\W.isFn K (.ref f)=true/\K.lookup f=some ⟨oc,od,.func (W.fnOf m qual (bA st) (aR st) (aB st) .none kV dc pm an cd ct),sl⟩/\W.codeIn K cd qual=true/\W.keepIn K (.ref f)=true
theorem MA.of {K:W.Frag} {C:Addr} {m qual:Str} {st:Stmt} {f:Addr} {od an:Option Addr} {sl:Array (Option Value)} {oc kV dc pm cd ct:Value} (a:W.findIn K (.ref C) m=some (some (.ref f))) (i:W.isFn K (.ref f)=true) (l:K.lookup f=some ⟨oc,od,.func (W.fnOf m qual (bA st) (aR st) (aB st) .none kV dc pm an cd ct),sl⟩) (c:W.codeIn K cd qual=true) (k:W.keepIn K (.ref f)=true):MA K C m qual st:=⟨f,od,an,sl,oc,kV,dc,pm,cd,ct,a,i,l,c,k⟩
theorem MA.at {K:W.Frag} {C:Addr} {m qual:Str} {st:Stmt} {ps:List Str} (F:MA K C m qual st) (cl:Cls K C) (hb:∀(kV doc pm:Value) (an:Option Addr) (cdv ct:Value) (us:List Value),us.length=ps.length->bindArgs (W.fnOf m qual (bA st) (aR st) (aB st) .none kV doc pm an cdv ct) ⟨us,[]⟩=pure (ps.zip us)):MethAt K C m qual st ps:=by
 obtain⟨f,od,an,sl,oc,kV,dc,pm,cd,ct,a,i,l,c,k⟩:=F.ex
 exact⟨cl,_,_,oP l c k,⟨a,i,k⟩,(oP (st:=st) l c k).binds hb⟩
theorem Tc {l:W.OpenLaw} {w:World} {K:W.Frag} {h:Heap} {mg:Str->Option Value} {fa f_law:Addr} (X:K.In h) (G:h.Ns mainGlobals mg) (hfa:mg "law"=some (.ref fa))
  {od_law an_law:Option Addr} {sl_law:Array (Option Value)} {oc_law kV_law dc_law pm_law cd_law ct_law:Value}
  (a_is_name:FA K "is_name" jF)
  (a_is_key:FA K "is_key" lA)
  (a_is_whole:FA K "is_whole" hU)
  (a_is_made_of:FA K "is_made_of" dJ)
  (a_is_deed:FA K "is_deed" jG)
  (a_fits_word:FA K "fits_word" eU)
  (a_names_of:FA K "names_of" hV)
  (a_asks_of:FA K "asks_of" jH)
  (a_done_changes:FA K "done_changes" cI)
  (a_early:FA K "early" oH)
  (a_done_answer:FA K "done_answer" cV)
  (a_changes_of:FA K "changes_of" fJ)
  (a_is_alive:FA K "is_alive" hX)
  (a_risen:FA K "risen" fL)
  (a_by_numbers:FA K "by_numbers" fM)
  (a_first_book:FA K "first_book" dM)
  (a_risen_book:FA K "risen_book" fN)
  (a_risen_kept:FA K "risen_kept" cP)
  (a_rows_of:FA K "rows_of" jI)
  (a_law_deck:FA K "_law_deck" hZ)
  (a_law_draw:FA K "_law_draw" iA)
  (a_law_unlike:FA K "_law_unlike" bZ)
  (a_law_amount:FA K "_law_amount" fT)
  (a_law_deed:FA K "_law_deed" iB)
  (a_law_names:FA K "_law_names" gD)
  (a_law_blocked:FA K "_law_blocked" cX)
  (a_law_stepped:FA K "_law_stepped" eI)
  (a_law_forced:FA K "_law_forced" cQ)
  (a_law_right:FA K "_law_right" eX)
  (a_law:W.nsIn K mainGlobals "law"=some (some (.ref f_law))) (l_law:K.lookup f_law=some ⟨oc_law,od_law,.func (W.fnOf "law" "law" (bA iI) (aR iI) (aB iI) .none kV_law dc_law pm_law an_law cd_law ct_law),sl_law⟩) (c_law:W.codeIn K cd_law "law"=true) (k_law:W.keepIn K (.ref f_law)=true)
  {C_Keys:Addr} (aC_Keys:W.nsIn K mainGlobals "Keys"=some (some (.ref C_Keys))) (pg_Keys:W.plainGet K C_Keys Str.empty=true) (hd_Keys:W.hasDictIn K C_Keys=true) (po_Keys:W.plainOver K C_Keys=true) (sa_Keys:W.findIn K (.ref C_Keys) "__setattr__"=some (some (.builtin "object.__setattr__"))) (mk_Keys:W.makesIn K C_Keys=true) (kc_Keys:W.keepIn K (.ref C_Keys)=true)
  (n_Keys_life:W.findIn K (.ref C_Keys) "life"=some none)
  (n_Keys_begun_ones:W.findIn K (.ref C_Keys) "begun_ones"=some none)
  (n_Keys_settled_ones:W.findIn K (.ref C_Keys) "settled_ones"=some none)
  {f_Keys___init__:Addr} {od_Keys___init__ an_Keys___init__:Option Addr} {sl_Keys___init__:Array (Option Value)} {oc_Keys___init__ kV_Keys___init__ dc_Keys___init__ pm_Keys___init__ cd_Keys___init__ ct_Keys___init__:Value}
  (a_Keys___init__:W.findIn K (.ref C_Keys) "__init__"=some (some (.ref f_Keys___init__))) (i_Keys___init__:W.isFn K (.ref f_Keys___init__)=true) (l_Keys___init__:K.lookup f_Keys___init__=some ⟨oc_Keys___init__,od_Keys___init__,.func (W.fnOf "__init__" "Keys.__init__" (bA bS) (aR bS) (aB bS) .none kV_Keys___init__ dc_Keys___init__ pm_Keys___init__ an_Keys___init__ cd_Keys___init__ ct_Keys___init__),sl_Keys___init__⟩) (c_Keys___init__:W.codeIn K cd_Keys___init__ "Keys.__init__"=true) (k_Keys___init__:W.keepIn K (.ref f_Keys___init__)=true)
  (a_Keys_look:MA K C_Keys "look" "Keys.look" gB)
  (a_Keys_begin:MA K C_Keys "begin" "Keys.begin" fK)
  (a_Keys_settle:MA K C_Keys "settle" "Keys.settle" eE)
  (a_Keys_end:MA K C_Keys "end" "Keys.end" hW)
  (a_Keys_is_kept:MA K C_Keys "is_kept" "Keys.is_kept" dL)
  {C_Book:Addr} (aC_Book:W.nsIn K mainGlobals "Book"=some (some (.ref C_Book))) (pg_Book:W.plainGet K C_Book Str.empty=true) (hd_Book:W.hasDictIn K C_Book=true) (po_Book:W.plainOver K C_Book=true) (sa_Book:W.findIn K (.ref C_Book) "__setattr__"=some (some (.builtin "object.__setattr__"))) (mk_Book:W.makesIn K C_Book=true) (kc_Book:W.keepIn K (.ref C_Book)=true)
  (n_Book_amounts:W.findIn K (.ref C_Book) "amounts"=some none)
  {f_Book___init__:Addr} {od_Book___init__ an_Book___init__:Option Addr} {sl_Book___init__:Array (Option Value)} {oc_Book___init__ kV_Book___init__ dc_Book___init__ pm_Book___init__ cd_Book___init__ ct_Book___init__:Value} {T_Book:Addr}
  (a_Book___init__:W.findIn K (.ref C_Book) "__init__"=some (some (.ref f_Book___init__))) (i_Book___init__:W.isFn K (.ref f_Book___init__)=true) (l_Book___init__:K.lookup f_Book___init__=some ⟨oc_Book___init__,od_Book___init__,.func (W.fnOf "__init__" "Book.__init__" (bA bT) (aR bT) (aB bT) (.ref T_Book) kV_Book___init__ dc_Book___init__ pm_Book___init__ an_Book___init__ cd_Book___init__ ct_Book___init__),sl_Book___init__⟩) (c_Book___init__:W.codeIn K cd_Book___init__ "Book.__init__"=true) (k_Book___init__:W.keepIn K (.ref f_Book___init__)=true)
  (a_Book_amount:MA K C_Book "amount" "Book.amount" eF)
  (a_Book_rows:MA K C_Book "rows" "Book.rows" eW)
  (a_Book_change:MA K C_Book "change" "Book.change" eG)
  {dT_Book:Option Addr} {itsT_Book:List Value} {nT_Book:Nat} {slT_Book:Array (Option Value)} (lT_Book:K.lookup T_Book=some ⟨.type "tuple",dT_Book,.seq (List.toArray itsT_Book) nT_Book,slT_Book⟩) (vT_Book:itsT_Book=[.none])
  {C_Journal:Addr} (aC_Journal:W.nsIn K mainGlobals "Journal"=some (some (.ref C_Journal))) (pg_Journal:W.plainGet K C_Journal Str.empty=true) (hd_Journal:W.hasDictIn K C_Journal=true) (po_Journal:W.plainOver K C_Journal=true) (sa_Journal:W.findIn K (.ref C_Journal) "__setattr__"=some (some (.builtin "object.__setattr__"))) (mk_Journal:W.makesIn K C_Journal=true) (kc_Journal:W.keepIn K (.ref C_Journal)=true)
  (n_Journal_written:W.findIn K (.ref C_Journal) "written"=some none)
  (n_Journal_safe_count:W.findIn K (.ref C_Journal) "safe_count"=some none)
  {f_Journal___init__:Addr} {od_Journal___init__ an_Journal___init__:Option Addr} {sl_Journal___init__:Array (Option Value)} {oc_Journal___init__ kV_Journal___init__ dc_Journal___init__ pm_Journal___init__ cd_Journal___init__ ct_Journal___init__:Value} {T_Journal:Addr}
  (a_Journal___init__:W.findIn K (.ref C_Journal) "__init__"=some (some (.ref f_Journal___init__))) (i_Journal___init__:W.isFn K (.ref f_Journal___init__)=true) (l_Journal___init__:K.lookup f_Journal___init__=some ⟨oc_Journal___init__,od_Journal___init__,.func (W.fnOf "__init__" "Journal.__init__" (bA bE) (aR bE) (aB bE) (.ref T_Journal) kV_Journal___init__ dc_Journal___init__ pm_Journal___init__ an_Journal___init__ cd_Journal___init__ ct_Journal___init__),sl_Journal___init__⟩) (c_Journal___init__:W.codeIn K cd_Journal___init__ "Journal.__init__"=true) (k_Journal___init__:W.keepIn K (.ref f_Journal___init__)=true)
  (a_Journal_write:MA K C_Journal "write" "Journal.write" dA)
  (a_Journal_force:MA K C_Journal "force" "Journal.force" dB)
  (a_Journal_rows:MA K C_Journal "rows" "Journal.rows" dN)
  (a_Journal_safe:MA K C_Journal "safe" "Journal.safe" dO)
  (a_Journal_is_safe:MA K C_Journal "is_safe" "Journal.is_safe" cF)
  {tk0_Journal:Tok}
  {dT_Journal:Option Addr} {itsT_Journal:List Value} {nT_Journal:Nat} {slT_Journal:Array (Option Value)} (lT_Journal:K.lookup T_Journal=some ⟨.type "tuple",dT_Journal,.seq (List.toArray itsT_Journal) nT_Journal,slT_Journal⟩) (vT_Journal:itsT_Journal=[.str ("") tk0_Journal])
  {C_Run:Addr} (aC_Run:W.nsIn K mainGlobals "Run"=some (some (.ref C_Run))) (pg_Run:W.plainGet K C_Run Str.empty=true) (hd_Run:W.hasDictIn K C_Run=true) (po_Run:W.plainOver K C_Run=true) (sa_Run:W.findIn K (.ref C_Run) "__setattr__"=some (some (.builtin "object.__setattr__"))) (mk_Run:W.makesIn K C_Run=true) (kc_Run:W.keepIn K (.ref C_Run)=true)
  (n_Run_number:W.findIn K (.ref C_Run) "number"=some none)
  (n_Run_asker:W.findIn K (.ref C_Run) "asker"=some none)
  (n_Run_key:W.findIn K (.ref C_Run) "key"=some none)
  (n_Run_deed:W.findIn K (.ref C_Run) "deed"=some none)
  (n_Run_stage:W.findIn K (.ref C_Run) "stage"=some none)
  (n_Run_place:W.findIn K (.ref C_Run) "place"=some none)
  (n_Run_undos:W.findIn K (.ref C_Run) "undos"=some none)
  {f_Run___init__:Addr} {od_Run___init__ an_Run___init__:Option Addr} {sl_Run___init__:Array (Option Value)} {oc_Run___init__ kV_Run___init__ dc_Run___init__ pm_Run___init__ cd_Run___init__ ct_Run___init__:Value}
  (a_Run___init__:W.findIn K (.ref C_Run) "__init__"=some (some (.ref f_Run___init__))) (i_Run___init__:W.isFn K (.ref f_Run___init__)=true) (l_Run___init__:K.lookup f_Run___init__=some ⟨oc_Run___init__,od_Run___init__,.func (W.fnOf "__init__" "Run.__init__" (bA bX) (aR bX) (aB bX) .none kV_Run___init__ dc_Run___init__ pm_Run___init__ an_Run___init__ cd_Run___init__ ct_Run___init__),sl_Run___init__⟩) (c_Run___init__:W.codeIn K cd_Run___init__ "Run.__init__"=true) (k_Run___init__:W.keepIn K (.ref f_Run___init__)=true)
  (a_Run_as_tuple:MA K C_Run "as_tuple" "Run.as_tuple" dP)
  (a_Run_is_held_up_by:MA K C_Run "is_held_up_by" "Run.is_held_up_by" bL)
  {C_Memory:Addr} (aC_Memory:W.nsIn K mainGlobals "Memory"=some (some (.ref C_Memory))) (pg_Memory:W.plainGet K C_Memory Str.empty=true) (hd_Memory:W.hasDictIn K C_Memory=true) (po_Memory:W.plainOver K C_Memory=true) (sa_Memory:W.findIn K (.ref C_Memory) "__setattr__"=some (some (.builtin "object.__setattr__"))) (mk_Memory:W.makesIn K C_Memory=true) (kc_Memory:W.keepIn K (.ref C_Memory)=true)
  (n_Memory_turn:W.findIn K (.ref C_Memory) "turn"=some none)
  (n_Memory_book:W.findIn K (.ref C_Memory) "book"=some none)
  (n_Memory_standing:W.findIn K (.ref C_Memory) "standing"=some none)
  (n_Memory_runs:W.findIn K (.ref C_Memory) "runs"=some none)
  (n_Memory_next_number:W.findIn K (.ref C_Memory) "next_number"=some none)
  {f_Memory___init__:Addr} {od_Memory___init__ an_Memory___init__:Option Addr} {sl_Memory___init__:Array (Option Value)} {oc_Memory___init__ kV_Memory___init__ dc_Memory___init__ pm_Memory___init__ cd_Memory___init__ ct_Memory___init__:Value}
  (a_Memory___init__:W.findIn K (.ref C_Memory) "__init__"=some (some (.ref f_Memory___init__))) (i_Memory___init__:W.isFn K (.ref f_Memory___init__)=true) (l_Memory___init__:K.lookup f_Memory___init__=some ⟨oc_Memory___init__,od_Memory___init__,.func (W.fnOf "__init__" "Memory.__init__" (bA bJ) (aR bJ) (aB bJ) .none kV_Memory___init__ dc_Memory___init__ pm_Memory___init__ an_Memory___init__ cd_Memory___init__ ct_Memory___init__),sl_Memory___init__⟩) (c_Memory___init__:W.codeIn K cd_Memory___init__ "Memory.__init__"=true) (k_Memory___init__:W.keepIn K (.ref f_Memory___init__)=true)
  (a_Memory_put:MA K C_Memory "put" "Memory.put" fO)
  (a_Memory_begin:MA K C_Memory "begin" "Memory.begin" dQ)
  (a_Memory_hold:MA K C_Memory "hold" "Memory.hold" cW)
  (a_Memory_end:MA K C_Memory "end" "Memory.end" fP)
  {C_Door:Addr} (aC_Door:W.nsIn K mainGlobals "Door"=some (some (.ref C_Door))) (pg_Door:W.plainGet K C_Door Str.empty=true) (hd_Door:W.hasDictIn K C_Door=true) (po_Door:W.plainOver K C_Door=true) (sa_Door:W.findIn K (.ref C_Door) "__setattr__"=some (some (.builtin "object.__setattr__"))) (mk_Door:W.makesIn K C_Door=true) (kc_Door:W.keepIn K (.ref C_Door)=true)
  (n_Door_name:W.findIn K (.ref C_Door) "name"=some none)
  (n_Door_life:W.findIn K (.ref C_Door) "life"=some none)
  (n_Door_houses:W.findIn K (.ref C_Door) "houses"=some none)
  (n_Door_journal:W.findIn K (.ref C_Door) "journal"=some none)
  (n_Door_memory:W.findIn K (.ref C_Door) "memory"=some none)
  {f_Door___init__:Addr} {od_Door___init__ an_Door___init__:Option Addr} {sl_Door___init__:Array (Option Value)} {oc_Door___init__ kV_Door___init__ dc_Door___init__ pm_Door___init__ cd_Door___init__ ct_Door___init__:Value}
  (a_Door___init__:W.findIn K (.ref C_Door) "__init__"=some (some (.ref f_Door___init__))) (i_Door___init__:W.isFn K (.ref f_Door___init__)=true) (l_Door___init__:K.lookup f_Door___init__=some ⟨oc_Door___init__,od_Door___init__,.func (W.fnOf "__init__" "Door.__init__" (bA bU) (aR bU) (aB bU) .none kV_Door___init__ dc_Door___init__ pm_Door___init__ an_Door___init__ cd_Door___init__ ct_Door___init__),sl_Door___init__⟩) (c_Door___init__:W.codeIn K cd_Door___init__ "Door.__init__"=true) (k_Door___init__:W.keepIn K (.ref f_Door___init__)=true)
  (a_Door_come:MA K C_Door "come" "Door.come" gC)
  {f_Door_work:Addr} {od_Door_work an_Door_work:Option Addr} {sl_Door_work:Array (Option Value)} {oc_Door_work kV_Door_work dc_Door_work pm_Door_work cd_Door_work ct_Door_work:Value} {T_Door_work:Addr}
  (a_Door_work:W.findIn K (.ref C_Door) "work"=some (some (.ref f_Door_work))) (i_Door_work:W.isFn K (.ref f_Door_work)=true) (l_Door_work:K.lookup f_Door_work=some ⟨oc_Door_work,od_Door_work,.func (W.fnOf "work" "Door.work" (bA dH) (aR dH) (aB dH) (.ref T_Door_work) kV_Door_work dc_Door_work pm_Door_work an_Door_work cd_Door_work ct_Door_work),sl_Door_work⟩) (c_Door_work:W.codeIn K cd_Door_work "Door.work"=true) (k_Door_work:W.keepIn K (.ref f_Door_work)=true)
  {tk0_Door_work:Tok}
  {dT_Door_work:Option Addr} {itsT_Door_work:List Value} {nT_Door_work:Nat} {slT_Door_work:Array (Option Value)} (lT_Door_work:K.lookup T_Door_work=some ⟨.type "tuple",dT_Door_work,.seq (List.toArray itsT_Door_work) nT_Door_work,slT_Door_work⟩) (vT_Door_work:itsT_Door_work=[.str ("through") tk0_Door_work])
  (a_Door_write_first:MA K C_Door "write_first" "Door.write_first" bY)
  (a_Door_write_done:MA K C_Door "write_done" "Door.write_done" cG)
  (a_Door_ask_next:MA K C_Door "ask_next" "Door.ask_next" dC)
  (a_Door_force:MA K C_Door "force" "Door.force" fQ)
  (a_Door_under:MA K C_Door "under" "Door.under" dR)
  (a_Door_house_of:MA K C_Door "house_of" "Door.house_of" dD)
  (a_Door_known:MA K C_Door "known" "Door.known" fR)
  {C_House:Addr} (aC_House:W.nsIn K mainGlobals "House"=some (some (.ref C_House))) (pg_House:W.plainGet K C_House Str.empty=true) (hd_House:W.hasDictIn K C_House=true) (po_House:W.plainOver K C_House=true) (sa_House:W.findIn K (.ref C_House) "__setattr__"=some (some (.builtin "object.__setattr__"))) (mk_House:W.makesIn K C_House=true) (kc_House:W.keepIn K (.ref C_House)=true)
  (n_House_amounts:W.findIn K (.ref C_House) "amounts"=some none)
  (n_House_closed_names:W.findIn K (.ref C_House) "closed_names"=some none)
  (n_House_entries:W.findIn K (.ref C_House) "entries"=some none)
  {f_House___init__:Addr} {od_House___init__ an_House___init__:Option Addr} {sl_House___init__:Array (Option Value)} {oc_House___init__ kV_House___init__ dc_House___init__ pm_House___init__ cd_House___init__ ct_House___init__:Value} {T_House:Addr}
  (a_House___init__:W.findIn K (.ref C_House) "__init__"=some (some (.ref f_House___init__))) (i_House___init__:W.isFn K (.ref f_House___init__)=true) (l_House___init__:K.lookup f_House___init__=some ⟨oc_House___init__,od_House___init__,.func (W.fnOf "__init__" "House.__init__" (bA bO) (aR bO) (aB bO) (.ref T_House) kV_House___init__ dc_House___init__ pm_House___init__ an_House___init__ cd_House___init__ ct_House___init__),sl_House___init__⟩) (c_House___init__:W.codeIn K cd_House___init__ "House.__init__"=true) (k_House___init__:W.keepIn K (.ref f_House___init__)=true)
  {dT_House:Option Addr} {itsT_House:List Value} {nT_House:Nat} {slT_House:Array (Option Value)} (lT_House:K.lookup T_House=some ⟨.type "tuple",dT_House,.seq (List.toArray itsT_House) nT_House,slT_House⟩) (vT_House:itsT_House=[.none,.none])
  (z_any:W.nsIn K mainGlobals "any"=some none)
  (z_isinstance:W.nsIn K mainGlobals "isinstance"=some none)
  (z_int:W.nsIn K mainGlobals "int"=some none)
  (z_bool:W.nsIn K mainGlobals "bool"=some none)
  (z_str:W.nsIn K mainGlobals "str"=some none)
  (z_len:W.nsIn K mainGlobals "len"=some none)
  (z_all:W.nsIn K mainGlobals "all"=some none)
  (z_tuple:W.nsIn K mainGlobals "tuple"=some none)
  (z_dict:W.nsIn K mainGlobals "dict"=some none)
  (z_sorted:W.nsIn K mainGlobals "sorted"=some none)
  (z_max:W.nsIn K mainGlobals "max"=some none)
  (z_list:W.nsIn K mainGlobals "list"=some none)
  (z_enumerate:W.nsIn K mainGlobals "enumerate"=some none)
  (z_sum:W.nsIn K mainGlobals "sum"=some none)
  (z_range:W.nsIn K mainGlobals "range"=some none)
  {t_LETTERS:Tok} (y_LETTERS:W.nsIn K mainGlobals "LETTERS"=some (some (.str ("abcdefghijklmnopqrstuvwxyz") t_LETTERS)))
  {t_FIGURES:Tok} (y_FIGURES:W.nsIn K mainGlobals "FIGURES"=some (some (.str ("0123456789") t_FIGURES)))
  {t_LONGEST_NAME:Tok} (y_LONGEST_NAME:W.nsIn K mainGlobals "LONGEST_NAME"=some (some (.int (8) t_LONGEST_NAME)))
  {t_LONGEST_KEY:Tok} (y_LONGEST_KEY:W.nsIn K mainGlobals "LONGEST_KEY"=some (some (.int (12) t_LONGEST_KEY)))
  {t_MOST:Tok} (y_MOST:W.nsIn K mainGlobals "MOST"=some (some (.int (1000000000000) t_MOST)))
  {t_LONGEST_DOOR_NAME:Tok} (y_LONGEST_DOOR_NAME:W.nsIn K mainGlobals "LONGEST_DOOR_NAME"=some (some (.int (5) t_LONGEST_DOOR_NAME)))
  {a_NAME_COUNTS:Addr} {es_NAME_COUNTS:List DictEntry} {n_NAME_COUNTS:Nat} (y_NAME_COUNTS:W.nsIn K mainGlobals "NAME_COUNTS"=some (some (.ref a_NAME_COUNTS))) (l_NAME_COUNTS:K.lookup a_NAME_COUNTS=some ⟨.type "dict",none,.dict (List.toArray es_NAME_COUNTS) n_NAME_COUNTS,#[]⟩) (t_NAME_COUNTS:Tab w.params es_NAME_COUNTS (WS)) (o_NAME_COUNTS:(a_NAME_COUNTS == sysModules)=false)
  {a_UNLIKE_WORDS:Addr} {its_UNLIKE_WORDS:List Value} {dd_UNLIKE_WORDS:Option Addr} {n_UNLIKE_WORDS:Nat} {sl_UNLIKE_WORDS:Array (Option Value)} (y_UNLIKE_WORDS:W.nsIn K mainGlobals "UNLIKE_WORDS"=some (some (.ref a_UNLIKE_WORDS))) (l_UNLIKE_WORDS:K.lookup a_UNLIKE_WORDS=some ⟨.type "tuple",dd_UNLIKE_WORDS,.seq (List.toArray its_UNLIKE_WORDS) n_UNLIKE_WORDS,sl_UNLIKE_WORDS⟩) (v_UNLIKE_WORDS:Vals (UW) its_UNLIKE_WORDS)
  {a_WAYS:Addr} {its_WAYS:List Value} {dd_WAYS:Option Addr} {n_WAYS:Nat} {sl_WAYS:Array (Option Value)} (y_WAYS:W.nsIn K mainGlobals "WAYS"=some (some (.ref a_WAYS))) (l_WAYS:K.lookup a_WAYS=some ⟨.type "tuple",dd_WAYS,.seq (List.toArray its_WAYS) n_WAYS,sl_WAYS⟩) (v_WAYS:Vals ([V.str "through",V.str "lost",V.str "unheard"]) its_WAYS)
  : ∃fd:FuncData,(∀(s:Shared) (v:Value),BindsTo s fd ⟨[v],[]⟩ [("_law_script",v)])/\∀base:Heap,K.In base->base.Ns mainGlobals mg->iM l.prog w K mg base qM 8 fa fd ["_law_script"] (Aq K):=by
 have e:=hfa.symm.trans (W.mg_of X G a_law)
 cases e
 have T:Txt K mg:=⟨W.mg_none_of X G z_any,W.mg_none_of X G z_isinstance,W.mg_none_of X G z_int,W.mg_none_of X G z_bool,W.mg_none_of X G z_str,W.mg_none_of X G z_len,W.mg_none_of X G z_all,W.mg_none_of X G z_tuple,W.mg_none_of X G z_dict,W.mg_none_of X G z_sorted,W.mg_none_of X G z_max,W.mg_none_of X G z_list,W.mg_none_of X G z_enumerate,W.mg_none_of X G z_sum,W.mg_none_of X G z_range,⟨_,W.mg_of X G y_LETTERS⟩,⟨_,W.mg_of X G y_FIGURES⟩,⟨_,W.mg_of X G y_LONGEST_NAME⟩,⟨_,W.mg_of X G y_LONGEST_KEY⟩,⟨_,W.mg_of X G y_MOST⟩,⟨_,W.mg_of X G y_LONGEST_DOOR_NAME⟩⟩
 have U:Ya w.params K mg:=⟨⟨_,W.mg_of X G y_NAME_COUNTS,⟨_,_,l_NAME_COUNTS,t_NAME_COUNTS,o_NAME_COUNTS⟩⟩,⟨_,W.mg_of X G y_UNLIKE_WORDS,fun _=>.inr ⟨_,_,_,l_UNLIKE_WORDS,rfl,rfl,by rw[dF,<- v_UNLIKE_WORDS.length];decide,v_UNLIKE_WORDS⟩⟩,⟨_,W.mg_of X G y_WAYS,fun _=>.inr ⟨_,_,_,l_WAYS,rfl,rfl,by rw[dF,<- v_WAYS.length];decide,v_WAYS⟩⟩⟩
 have D_is_name:DefAt K mg "is_name" jF ["thing"]:=a_is_name.at X G fun _ _ _ _ _ _ us hl=>match us,hl with | [_],_=>rfl
 have D_is_key:DefAt K mg "is_key" lA ["thing"]:=a_is_key.at X G fun _ _ _ _ _ _ us hl=>match us,hl with | [_],_=>rfl
 have D_is_whole:DefAt K mg "is_whole" hU ["thing","least","most"]:=a_is_whole.at X G fun _ _ _ _ _ _ us hl=>match us,hl with | [_,_,_],_=>rfl
 have D_is_made_of:DefAt K mg "is_made_of" dJ ["thing","signs","longest"]:=a_is_made_of.at X G fun _ _ _ _ _ _ us hl=>match us,hl with | [_,_,_],_=>rfl
 have D_is_deed:DefAt K mg "is_deed" jG ["thing"]:=a_is_deed.at X G fun _ _ _ _ _ _ us hl=>match us,hl with | [_],_=>rfl
 have D_fits_word:DefAt K mg "fits_word" eU ["word","names"]:=a_fits_word.at X G fun _ _ _ _ _ _ us hl=>match us,hl with | [_,_],_=>rfl
 have D_names_of:DefAt K mg "names_of" hV ["deed"]:=a_names_of.at X G fun _ _ _ _ _ _ us hl=>match us,hl with | [_],_=>rfl
 have D_asks_of:DefAt K mg "asks_of" jH ["deed"]:=a_asks_of.at X G fun _ _ _ _ _ _ us hl=>match us,hl with | [_],_=>rfl
 have D_done_changes:DefAt K mg "done_changes" cI ["deed"]:=a_done_changes.at X G fun _ _ _ _ _ _ us hl=>match us,hl with | [_],_=>rfl
 have D_early:DefAt K mg "early" oH ["book","deed"]:=a_early.at X G fun _ _ _ _ _ _ us hl=>match us,hl with | [_,_],_=>rfl
 have D_done_answer:DefAt K mg "done_answer" cV ["book","deed"]:=a_done_answer.at X G fun _ _ _ _ _ _ us hl=>match us,hl with | [_,_],_=>rfl
 have D_changes_of:DefAt K mg "changes_of" fJ ["deed","answer"]:=a_changes_of.at X G fun _ _ _ _ _ _ us hl=>match us,hl with | [_,_],_=>rfl
 have D_is_alive:DefAt K mg "is_alive" hX ["since","life","turn"]:=a_is_alive.at X G fun _ _ _ _ _ _ us hl=>match us,hl with | [_,_,_],_=>rfl
 have D_risen:DefAt K mg "risen" fL ["rows"]:=a_risen.at X G fun _ _ _ _ _ _ us hl=>match us,hl with | [_],_=>rfl
 have D_by_numbers:DefAt K mg "by_numbers" fM ["rows","word"]:=a_by_numbers.at X G fun _ _ _ _ _ _ us hl=>match us,hl with | [_,_],_=>rfl
 have D_first_book:DefAt K mg "first_book" dM ["rows"]:=a_first_book.at X G fun _ _ _ _ _ _ us hl=>match us,hl with | [_],_=>rfl
 have D_risen_book:DefAt K mg "risen_book" fN ["rows","came"]:=a_risen_book.at X G fun _ _ _ _ _ _ us hl=>match us,hl with | [_,_],_=>rfl
 have D_risen_kept:DefAt K mg "risen_kept" cP ["rows","came"]:=a_risen_kept.at X G fun _ _ _ _ _ _ us hl=>match us,hl with | [_,_],_=>rfl
 have D_rows_of:DefAt K mg "rows_of" jI ["text"]:=a_rows_of.at X G fun _ _ _ _ _ _ us hl=>match us,hl with | [_],_=>rfl
 have D_law_deck:DefAt K mg "_law_deck" hZ ["_law_script"]:=a_law_deck.at X G fun _ _ _ _ _ _ us hl=>match us,hl with | [_],_=>rfl
 have D_law_draw:DefAt K mg "_law_draw" iA ["_law_deck_here","_law_many"]:=a_law_draw.at X G fun _ _ _ _ _ _ us hl=>match us,hl with | [_,_],_=>rfl
 have D_law_unlike:DefAt K mg "_law_unlike" bZ ["_law_deck_here","_law_signs","_law_longest","_law_many"]:=a_law_unlike.at X G fun _ _ _ _ _ _ us hl=>match us,hl with | [_,_,_,_],_=>rfl
 have D_law_amount:DefAt K mg "_law_amount" fT ["_law_deck_here"]:=a_law_amount.at X G fun _ _ _ _ _ _ us hl=>match us,hl with | [_],_=>rfl
 have D_law_deed:DefAt K mg "_law_deed" iB ["_law_deck_here","_law_names_here","_law_houses"]:=a_law_deed.at X G fun _ _ _ _ _ _ us hl=>match us,hl with | [_,_,_],_=>rfl
 have D_law_names:DefAt K mg "_law_names" gD ["_law_deed_here"]:=a_law_names.at X G fun _ _ _ _ _ _ us hl=>match us,hl with | [_],_=>rfl
 have D_law_blocked:DefAt K mg "_law_blocked" cX ["_law_table","_law_number"]:=a_law_blocked.at X G fun _ _ _ _ _ _ us hl=>match us,hl with | [_,_],_=>rfl
 have D_law_stepped:DefAt K mg "_law_stepped" eI ["_law_door","_law_table","_law_number"]:=a_law_stepped.at X G fun _ _ _ _ _ _ us hl=>match us,hl with | [_,_,_],_=>rfl
 have D_law_forced:DefAt K mg "_law_forced" cQ ["_law_door","_law_table"]:=a_law_forced.at X G fun _ _ _ _ _ _ us hl=>match us,hl with | [_,_],_=>rfl
 have D_law_right:DefAt K mg "_law_right" eX ["_law_door","_law_table"]:=a_law_right.at X G fun _ _ _ _ _ _ us hl=>match us,hl with | [_,_],_=>rfl
 have cl_Keys:Cls K C_Keys:=⟨pg_Keys,hd_Keys,po_Keys,sa_Keys⟩
 have M_Keys_look:MethAt K C_Keys "look" "Keys.look" gB ["self","asker","key","turn"]:=a_Keys_look.at cl_Keys fun _ _ _ _ _ _ us hl=>match us,hl with | [_,_,_,_],_=>rfl
 have M_Keys_begin:MethAt K C_Keys "begin" "Keys.begin" fK ["self","asker","key","number","deed"]:=a_Keys_begin.at cl_Keys fun _ _ _ _ _ _ us hl=>match us,hl with | [_,_,_,_,_],_=>rfl
 have M_Keys_settle:MethAt K C_Keys "settle" "Keys.settle" eE ["self","asker","key","turn","answer"]:=a_Keys_settle.at cl_Keys fun _ _ _ _ _ _ us hl=>match us,hl with | [_,_,_,_,_],_=>rfl
 have M_Keys_end:MethAt K C_Keys "end" "Keys.end" hW ["self","pair"]:=a_Keys_end.at cl_Keys fun _ _ _ _ _ _ us hl=>match us,hl with | [_,_],_=>rfl
 have M_Keys_is_kept:MethAt K C_Keys "is_kept" "Keys.is_kept" dL ["self","pair","turn"]:=a_Keys_is_kept.at cl_Keys fun _ _ _ _ _ _ us hl=>match us,hl with | [_,_,_],_=>rfl
 have I_Keys:ClsAt K mg "Keys" C_Keys "Keys.__init__" bS ["self","life"] [[]]:=⟨f_Keys___init__,_,_,W.mg_of X G aC_Keys,⟨_,_,_,_,_,_,_,_,_,rfl,l_Keys___init__,c_Keys___init__⟩,⟨mk_Keys,a_Keys___init__,i_Keys___init__,kc_Keys⟩,by
  intro d hd;obtain rfl:=Zms.mp hd
  exact⟨[],fun s us KI hl=>match us,(show us.length=2 by simpa using hl) with | [_,_],_=>BindsTo.of_eq rfl,.nil⟩⟩
 have cl_Book:Cls K C_Book:=⟨pg_Book,hd_Book,po_Book,sa_Book⟩
 have M_Book_amount:MethAt K C_Book "amount" "Book.amount" eF ["self","name"]:=a_Book_amount.at cl_Book fun _ _ _ _ _ _ us hl=>match us,hl with | [_,_],_=>rfl
 have M_Book_rows:MethAt K C_Book "rows" "Book.rows" eW ["self"]:=a_Book_rows.at cl_Book fun _ _ _ _ _ _ us hl=>match us,hl with | [_],_=>rfl
 have M_Book_change:MethAt K C_Book "change" "Book.change" eG ["self","changes"]:=a_Book_change.at cl_Book fun _ _ _ _ _ _ us hl=>match us,hl with | [_,_],_=>rfl
 subst vT_Book;have I_Book:ClsAt K mg "Book" C_Book "Book.__init__" bT ["self","rows"] [[],[.non]]:=⟨f_Book___init__,_,_,W.mg_of X G aC_Book,⟨_,_,_,_,_,_,_,_,_,rfl,l_Book___init__,c_Book___init__⟩,⟨mk_Book,a_Book___init__,i_Book___init__,kc_Book⟩,by
  intro d hd;rcases List.mem_cons.mp hd with rfl | hd
  ·exact⟨[],fun s us KI hl=>match us,(show us.length=2 by simpa using hl) with | [_,_],_=>BindsTo.of_defaults (T:=T_Book) rfl (KI _ _ lT_Book) rfl rfl rfl,.nil⟩
  obtain rfl:=Zms.mp hd
  ·exact⟨[.none],fun s us KI hl=>match us,(show us.length=1 by simpa using hl) with | [_],_=>BindsTo.of_defaults (T:=T_Book) rfl (KI _ _ lT_Book) rfl rfl rfl,(.cons rfl .nil)⟩⟩
 have cl_Journal:Cls K C_Journal:=⟨pg_Journal,hd_Journal,po_Journal,sa_Journal⟩
 have M_Journal_write:MethAt K C_Journal "write" "Journal.write" dA ["self","row"]:=a_Journal_write.at cl_Journal fun _ _ _ _ _ _ us hl=>match us,hl with | [_,_],_=>rfl
 have M_Journal_force:MethAt K C_Journal "force" "Journal.force" dB ["self"]:=a_Journal_force.at cl_Journal fun _ _ _ _ _ _ us hl=>match us,hl with | [_],_=>rfl
 have M_Journal_rows:MethAt K C_Journal "rows" "Journal.rows" dN ["self"]:=a_Journal_rows.at cl_Journal fun _ _ _ _ _ _ us hl=>match us,hl with | [_],_=>rfl
 have M_Journal_safe:MethAt K C_Journal "safe" "Journal.safe" dO ["self"]:=a_Journal_safe.at cl_Journal fun _ _ _ _ _ _ us hl=>match us,hl with | [_],_=>rfl
 have M_Journal_is_safe:MethAt K C_Journal "is_safe" "Journal.is_safe" cF ["self","row"]:=a_Journal_is_safe.at cl_Journal fun _ _ _ _ _ _ us hl=>match us,hl with | [_,_],_=>rfl
 subst vT_Journal;have I_Journal:ClsAt K mg "Journal" C_Journal "Journal.__init__" bE ["self","text"] [[],[.str ("":Str)]]:=⟨f_Journal___init__,_,_,W.mg_of X G aC_Journal,⟨_,_,_,_,_,_,_,_,_,rfl,l_Journal___init__,c_Journal___init__⟩,⟨mk_Journal,a_Journal___init__,i_Journal___init__,kc_Journal⟩,by
  intro d hd;rcases List.mem_cons.mp hd with rfl | hd
  ·exact⟨[],fun s us KI hl=>match us,(show us.length=2 by simpa using hl) with | [_,_],_=>BindsTo.of_defaults (T:=T_Journal) rfl (KI _ _ lT_Journal) rfl rfl rfl,.nil⟩
  obtain rfl:=Zms.mp hd
  ·exact⟨[.str ("":Str) tk0_Journal],fun s us KI hl=>match us,(show us.length=1 by simpa using hl) with | [_],_=>BindsTo.of_defaults (T:=T_Journal) rfl (KI _ _ lT_Journal) rfl rfl rfl,(.cons ⟨_,rfl⟩ .nil)⟩⟩
 have cl_Run:Cls K C_Run:=⟨pg_Run,hd_Run,po_Run,sa_Run⟩
 have M_Run_as_tuple:MethAt K C_Run "as_tuple" "Run.as_tuple" dP ["self"]:=a_Run_as_tuple.at cl_Run fun _ _ _ _ _ _ us hl=>match us,hl with | [_],_=>rfl
 have M_Run_is_held_up_by:MethAt K C_Run "is_held_up_by" "Run.is_held_up_by" bL ["self","other"]:=a_Run_is_held_up_by.at cl_Run fun _ _ _ _ _ _ us hl=>match us,hl with | [_,_],_=>rfl
 have I_Run:ClsAt K mg "Run" C_Run "Run.__init__" bX ["self","number","asker","key","deed","stage"] [[]]:=⟨f_Run___init__,_,_,W.mg_of X G aC_Run,⟨_,_,_,_,_,_,_,_,_,rfl,l_Run___init__,c_Run___init__⟩,⟨mk_Run,a_Run___init__,i_Run___init__,kc_Run⟩,by
  intro d hd;obtain rfl:=Zms.mp hd
  exact⟨[],fun s us KI hl=>match us,(show us.length=6 by simpa using hl) with | [_,_,_,_,_,_],_=>BindsTo.of_eq rfl,.nil⟩⟩
 have cl_Memory:Cls K C_Memory:=⟨pg_Memory,hd_Memory,po_Memory,sa_Memory⟩
 have M_Memory_put:MethAt K C_Memory "put" "Memory.put" fO ["self","number","asker","key","deed","stage"]:=a_Memory_put.at cl_Memory fun _ _ _ _ _ _ us hl=>match us,hl with | [_,_,_,_,_,_],_=>rfl
 have M_Memory_begin:MethAt K C_Memory "begin" "Memory.begin" dQ ["self","asker","key","deed"]:=a_Memory_begin.at cl_Memory fun _ _ _ _ _ _ us hl=>match us,hl with | [_,_,_,_],_=>rfl
 have M_Memory_hold:MethAt K C_Memory "hold" "Memory.hold" cW ["self","run"]:=a_Memory_hold.at cl_Memory fun _ _ _ _ _ _ us hl=>match us,hl with | [_,_],_=>rfl
 have M_Memory_end:MethAt K C_Memory "end" "Memory.end" fP ["self","number","turn","answer"]:=a_Memory_end.at cl_Memory fun _ _ _ _ _ _ us hl=>match us,hl with | [_,_,_,_],_=>rfl
 have I_Memory:ClsAt K mg "Memory" C_Memory "Memory.__init__" bJ ["self","life","turn","up"] [[]]:=⟨f_Memory___init__,_,_,W.mg_of X G aC_Memory,⟨_,_,_,_,_,_,_,_,_,rfl,l_Memory___init__,c_Memory___init__⟩,⟨mk_Memory,a_Memory___init__,i_Memory___init__,kc_Memory⟩,by
  intro d hd;obtain rfl:=Zms.mp hd
  exact⟨[],fun s us KI hl=>match us,(show us.length=4 by simpa using hl) with | [_,_,_,_],_=>BindsTo.of_eq rfl,.nil⟩⟩
 have cl_Door:Cls K C_Door:=⟨pg_Door,hd_Door,po_Door,sa_Door⟩
 have M_Door_come:MethAt K C_Door "come" "Door.come" gC ["self","turn","asker","key","deed"]:=a_Door_come.at cl_Door fun _ _ _ _ _ _ us hl=>match us,hl with | [_,_,_,_,_],_=>rfl
 subst vT_Door_work;have M_Door_work:MethAtD K C_Door "work" "Door.work" dH ["self","number","way"] [[],[.str ("through":Str)]]:=⟨cl_Door,f_Door_work,_,_,⟨_,_,_,_,_,_,_,_,_,rfl,l_Door_work,c_Door_work⟩,⟨a_Door_work,i_Door_work,k_Door_work⟩,by
  intro d hd;rcases List.mem_cons.mp hd with rfl | hd
  ·exact⟨[],fun s us KI hl=>match us,(show us.length=3 by simpa using hl) with | [_,_,_],_=>BindsTo.of_defaults (T:=T_Door_work) rfl (KI _ _ lT_Door_work) rfl rfl rfl,.nil⟩
  obtain rfl:=Zms.mp hd
  ·exact⟨[.str ("through":Str) tk0_Door_work],fun s us KI hl=>match us,(show us.length=2 by simpa using hl) with | [_,_],_=>BindsTo.of_defaults (T:=T_Door_work) rfl (KI _ _ lT_Door_work) rfl rfl rfl,(.cons ⟨_,rfl⟩ .nil)⟩⟩
 have M_Door_write_first:MethAt K C_Door "write_first" "Door.write_first" bY ["self","run"]:=a_Door_write_first.at cl_Door fun _ _ _ _ _ _ us hl=>match us,hl with | [_,_],_=>rfl
 have M_Door_write_done:MethAt K C_Door "write_done" "Door.write_done" cG ["self","run","answer"]:=a_Door_write_done.at cl_Door fun _ _ _ _ _ _ us hl=>match us,hl with | [_,_,_],_=>rfl
 have M_Door_ask_next:MethAt K C_Door "ask_next" "Door.ask_next" dC ["self","run","way"]:=a_Door_ask_next.at cl_Door fun _ _ _ _ _ _ us hl=>match us,hl with | [_,_,_],_=>rfl
 have M_Door_force:MethAt K C_Door "force" "Door.force" fQ ["self"]:=a_Door_force.at cl_Door fun _ _ _ _ _ _ us hl=>match us,hl with | [_],_=>rfl
 have M_Door_under:MethAt K C_Door "under" "Door.under" dR ["self"]:=a_Door_under.at cl_Door fun _ _ _ _ _ _ us hl=>match us,hl with | [_],_=>rfl
 have M_Door_house_of:MethAt K C_Door "house_of" "Door.house_of" dD ["self","name"]:=a_Door_house_of.at cl_Door fun _ _ _ _ _ _ us hl=>match us,hl with | [_,_],_=>rfl
 have M_Door_known:MethAt K C_Door "known" "Door.known" fR ["self"]:=a_Door_known.at cl_Door fun _ _ _ _ _ _ us hl=>match us,hl with | [_],_=>rfl
 have I_Door:ClsAt K mg "Door" C_Door "Door.__init__" bU ["self","name","life","houses"] [[]]:=⟨f_Door___init__,_,_,W.mg_of X G aC_Door,⟨_,_,_,_,_,_,_,_,_,rfl,l_Door___init__,c_Door___init__⟩,⟨mk_Door,a_Door___init__,i_Door___init__,kc_Door⟩,by
  intro d hd;obtain rfl:=Zms.mp hd
  exact⟨[],fun s us KI hl=>match us,(show us.length=4 by simpa using hl) with | [_,_,_,_],_=>BindsTo.of_eq rfl,.nil⟩⟩
 have cl_House:Cls K C_House:=⟨pg_House,hd_House,po_House,sa_House⟩
 subst vT_House;have I_House:ClsAt K mg "House" C_House "House.__init__" bO ["self","rows","closed"] [[.non,.non]]:=⟨f_House___init__,_,_,W.mg_of X G aC_House,⟨_,_,_,_,_,_,_,_,_,rfl,l_House___init__,c_House___init__⟩,⟨mk_House,a_House___init__,i_House___init__,kc_House⟩,by
  intro d hd;obtain rfl:=Zms.mp hd
  ·exact⟨[.none,.none],fun s us KI hl=>match us,(show us.length=1 by simpa using hl) with | [_],_=>BindsTo.of_defaults (T:=T_House) rfl (KI _ _ lT_House) rfl rfl rfl,(.cons rfl (.cons rfl .nil))⟩⟩
 refine⟨W.fnOf "law" "law" (bA iI) (aR iI) (aB iI) .none kV_law dc_law pm_law an_law cd_law ct_law,fun s v=>.of_eq rfl,fun base _ _=>?_⟩
 have F_law:=oP (st:=iI) l_law c_law k_law
 have BD:Mp K C_Door:=⟨cl_Door,n_Door_name,n_Door_life,n_Door_houses,n_Door_journal,n_Door_memory⟩
 have BM:Ia K C_Memory:=⟨cl_Memory,n_Memory_turn,n_Memory_book,n_Memory_standing,n_Memory_runs,n_Memory_next_number⟩
 have BR:Ja K C_Run:=⟨cl_Run,n_Run_number,n_Run_asker,n_Run_key,n_Run_deed,n_Run_stage,n_Run_place,n_Run_undos⟩
 have JB:JT K C_Journal:=⟨cl_Journal,n_Journal_written,n_Journal_safe_count⟩
 have BB:Nv K C_Book:=⟨cl_Book,n_Book_amounts⟩
 have KT:Sd K C_Keys:=⟨cl_Keys,n_Keys_life,n_Keys_begun_ones,n_Keys_settled_ones⟩
 have HB:Yk K C_House:=⟨cl_House,n_House_amounts,n_House_closed_names,n_House_entries⟩
 have cmade:=Lz (P:=l.prog) (w:=w) (mg:=mg) (base:=base) T D_is_made_of
 have cname:=xW T cmade D_is_name
 have ckey:=Ch T cmade D_is_key
 have cwh:=He (P:=l.prog) (w:=w) (mg:=mg) (base:=base) T D_is_whole
 have cfit:=Ma T U cname D_fits_word
 have cdeed:=xX T cfit cwh D_is_deed
 have casks:=Mb (P:=l.prog) (w:=w) (mg:=mg) (base:=base) T D_asks_of
 have cdc:=yB (P:=l.prog) (w:=w) (mg:=mg) (base:=base) T D_done_changes
 have cdd:=oA (P:=l.prog) (w:=w) (mg:=mg) (base:=base) T D_done_changes
 have cam:=tQ (P:=l.prog) (w:=w) (mg:=mg) (base:=base) BB M_Book_amount
 have cbr:=xZ (P:=l.prog) (w:=w) (mg:=mg) (base:=base) T BB M_Book_rows
 have cbc:=yA T BB cam M_Book_change
 have cda:=pP T BB cdc cam D_done_answer
 have cea:=Cm T BB cdc casks cam cda D_early
 have cco:=qA T cdd D_changes_of
 have cbi:=Hs (P:=l.prog) (w:=w) (mg:=mg) (base:=base) T BB I_Book
 have cal:=Hg (P:=l.prog) (w:=w) (mg:=mg) (base:=base) D_is_alive
 have cik:=Ci KT cal M_Keys_is_kept
 have clo:=Mc KT cik M_Keys_look
 have cen:=Sj (P:=l.prog) (w:=w) (mg:=mg) (base:=base) KT M_Keys_end
 have cse:=Cj KT cen M_Keys_settle
 have cbe:=Hh (P:=l.prog) (w:=w) (mg:=mg) (base:=base) KT M_Keys_begin
 have cki:=Hf (P:=l.prog) (w:=w) (mg:=mg) (base:=base) KT I_Keys
 have cby:=Sl (P:=l.prog) (w:=w) (mg:=mg) (base:=base) D_by_numbers
 have cfb:=Sm (cbi [] Zs) D_first_book
 have crb:=Sn cfb cco cbc D_risen_book
 have crk:=So (P:=l.prog) (w:=w) (mg:=mg) (base:=base) D_risen_kept
 have cri:=Mi T cby crb crk cbr D_risen
 have cro:=vP (P:=l.prog) (w:=w) (mg:=mg) (base:=base) T D_rows_of
 have cji:=Cn T JB cro I_Journal
 have cjw:=Co (P:=l.prog) (w:=w) (mg:=mg) (base:=base) JB M_Journal_write
 have cjf:=Cp (P:=l.prog) (w:=w) (mg:=mg) (base:=base) T JB M_Journal_force
 have cjr:=Hy (P:=l.prog) (w:=w) (mg:=mg) (base:=base) T JB M_Journal_rows
 have cjs:=Hz (P:=l.prog) (w:=w) (mg:=mg) (base:=base) JB M_Journal_safe
 have cis:=Cq (P:=l.prog) (w:=w) (mg:=mg) (base:=base) JB M_Journal_is_safe
 have crun:=Mj (P:=l.prog) (w:=w) (mg:=mg) (base:=base) BR I_Run
 have cas:=Sq (P:=l.prog) (w:=w) (mg:=mg) (base:=base) BR M_Run_as_tuple
 have cno:=vO (P:=l.prog) (w:=w) (mg:=mg) (base:=base) T D_names_of
 have che:=Ml T BR cno M_Run_is_held_up_by
 have cpu:=Sr (c:=⟨C_Door,C_Memory,C_Run,C_Journal,C_Book,C_Keys⟩) BM cbe (crun [] Zs) M_Memory_put
 have cmb:=Ct (c:=⟨C_Door,C_Memory,C_Run,C_Journal,C_Book,C_Keys⟩) BM cpu M_Memory_begin
 have chd:=Mm (c:=⟨C_Door,C_Memory,C_Run,C_Journal,C_Book,C_Keys⟩) T BM BR che M_Memory_hold
 have cme:=Mn (c:=⟨C_Door,C_Memory,C_Run,C_Journal,C_Book,C_Keys⟩) BM BR BB cco cbc cse M_Memory_end
 have cmi:=Ss (c:=⟨C_Door,C_Memory,C_Run,C_Journal,C_Book,C_Keys⟩) BM (cbi [] Zs) (cki [] Zs) I_Memory
 have cdi:=Ii (c:=⟨C_Door,C_Memory,C_Run,C_Journal,C_Book,C_Keys⟩) T BD cname (cji [.str ("":Str)] Zs) cri (cmi [] Zs) I_Door
 have ckn:=Ij (P:=l.prog) (w:=w) (mg:=mg) (base:=base) (c:=⟨C_Door,C_Memory,C_Run,C_Journal,C_Book,C_Keys⟩) BD M_Door_known
 have cun:=Il (c:=⟨C_Door,C_Memory,C_Run,C_Journal,C_Book,C_Keys⟩) T BM ckn cas M_Door_under
 have cho:=yD (P:=l.prog) (w:=w) (mg:=mg) (base:=base) HB I_House
 have chf:=yE (P:=l.prog) (w:=w) (mg:=mg) (base:=base) (c:=⟨C_Door,C_Memory,C_Run,C_Journal,C_Book,C_Keys⟩) BD M_Door_house_of
 have ccm:=Io (c:=⟨C_Door,C_Memory,C_Run,C_Journal,C_Book,C_Keys⟩) T BD BM ckn cname ckey cdeed casks chf clo cmb cjw M_Door_come
 have cwd:=Ip (c:=⟨C_Door,C_Memory,C_Run,C_Journal,C_Book,C_Keys⟩) BD BM BR cjw M_Door_write_done
 have cwf:=Cw (c:=⟨C_Door,C_Memory,C_Run,C_Journal,C_Book,C_Keys⟩) BD BM BR cea cwd cjw M_Door_write_first
 have cau:=Mq (c:=⟨C_Door,C_Memory,C_Run,C_Journal,C_Book,C_Keys⟩) BD BR cis M_Door_ask_next
 have cwk:=Mr (c:=⟨C_Door,C_Memory,C_Run,C_Journal,C_Book,C_Keys⟩) U BM BR ckn chd cwf cau M_Door_work
 have cfo:=Iu (c:=⟨C_Door,C_Memory,C_Run,C_Journal,C_Book,C_Keys⟩) BD ckn cjs cjf cjr cme M_Door_force
 have cdk:=Md (P:=l.prog) (w:=w) (mg:=mg) (base:=base) T D_law_deck
 have cdr:=Hi (P:=l.prog) (w:=w) (mg:=mg) (base:=base) D_law_draw
 have cul:=Ck T cdr D_law_unlike
 have cams:=Cy T cdr D_law_amount
 have cde6:=Cz T cdr cams D_law_deed
 have cnm6:=yH (P:=l.prog) (w:=w) (mg:=mg) (base:=base) D_law_names
 have cbk6:=yI T cnm6 D_law_blocked
 have cst6:=yK (c:=⟨C_Door,C_Memory,C_Run,C_Journal,C_Book,C_Keys⟩) T (cwk [.str ("through":Str)] Zs) cbk6 D_law_stepped
 have cfd6:=wA (c:=⟨C_Door,C_Memory,C_Run,C_Journal,C_Book,C_Keys⟩) T cfo D_law_forced
 have crt6:=yL (c:=⟨C_Door,C_Memory,C_Run,C_Journal,C_Book,C_Keys⟩) T cun D_law_right
 exact Tb (c:=⟨C_Door,C_Memory,C_Run,C_Journal,C_Book,C_Keys⟩) T cdk cdr cul (cdi [] Zs) (cho [.non,.non] Zs) cde6 ccm cfd6 cst6 crt6 F_law
theorem Yd {l:W.OpenLaw} {q:Program} {loose:List Str} {XP:(Str->Option Value)->Heap->Prop} {YP:World->Heap->Prop} {d:DefRec} {K:Params->W.Frag} (hn:l.most=some 63) (hdf:d.params.defaults=[])
  (hY:∀(w:World) (h:Heap),YP w h->(K w.params).In h)
  (F:∀(w:World) (mg:Str->Option Value) (fa:Addr) (h:Heap),(K w.params).In h->h.Ns mainGlobals mg->mg d.name=some (.ref fa) →
   ∃fd:FuncData,(∀(s:Shared) (u:Value),BindsTo s fd ⟨[u],[]⟩ [("_law_script",u)])/\∀base:Heap,(K w.params).In base->base.Ns mainGlobals mg->iM l.prog w (K w.params) mg base qM 8 fa fd ["_law_script"] (Aq (K w.params))) :
  W.WalkO q loose XP YP l.row.toRowW d [] (fun f vs=>PySem.call f vs):=
 L2.yX (n:=63) (k:=8) (x:="_law_script") (CX:=fun _=>qM) (sp:=fun w=>Aq (K w.params)) hn Zd hdf ⟨rfl,Zd,Zd⟩ hY F (fun _ _ a ns hl _ hS=>⟨a,ns,rfl,hS,hl,fun _=>rfl⟩) fun _ _ _ _ _ z=>z
end KL
def PySem.W.Fast.tw10102290673353923058:Nat:=0
def PySem.W.Fast.tw10117803377996987470:Nat:=0
def PySem.W.Fast.tw10178345412068862880:Nat:=0
def PySem.W.Fast.tw10431751788386507952:Nat:=0
def PySem.W.Fast.tw10527721487236403928:Nat:=0
def PySem.W.Fast.tw10595607316651344740:Nat:=0
def PySem.W.Fast.tw10600637519622613297:Nat:=0
def PySem.W.Fast.tw10608386966169958947:Nat:=0
def PySem.W.Fast.tw1061475608322595096:Nat:=0
def PySem.W.Fast.tw10637571146413401404:Nat:=0
def PySem.W.Fast.tw10652549341682438452:Nat:=0
def PySem.W.Fast.tw10719679006026481650:Nat:=0
def PySem.W.Fast.tw10754219635222925019:Nat:=0
def PySem.W.Fast.tw10806829181826902724:Nat:=0
def PySem.W.Fast.tw10853722130383567559:Nat:=0
def PySem.W.Fast.tw11056522601247608242:Nat:=0
def PySem.W.Fast.tw11361001010876745639:Nat:=0
def PySem.W.Fast.tw11362041067175898505:Nat:=0
def PySem.W.Fast.tw11433132422983142113:Nat:=0
def PySem.W.Fast.tw11542434589502829023:Nat:=0
def PySem.W.Fast.tw11546228203363721118:Nat:=0
def PySem.W.Fast.tw11666986955485047682:Nat:=0
def PySem.W.Fast.tw11750338447701703012:Nat:=0
def PySem.W.Fast.tw11816210597583271671:Nat:=0
def PySem.W.Fast.tw11860785974402148411:Nat:=0
def PySem.W.Fast.tw11917126207142700692:Nat:=0
def PySem.W.Fast.tw11922050096903173265:Nat:=0
def PySem.W.Fast.tw12069327164751563875:Nat:=0
def PySem.W.Fast.tw1207562996595131574:Nat:=0
def PySem.W.Fast.tw12085273691022708216:Nat:=0
def PySem.W.Fast.tw12098183685603379837:Nat:=0
def PySem.W.Fast.tw121697121696522865:Nat:=0
def PySem.W.Fast.tw12214755193782030156:Nat:=0
def PySem.W.Fast.tw12214887342214238326:Nat:=0
def PySem.W.Fast.tw12218232919926625758:Nat:=0
def PySem.W.Fast.tw12233519656458785459:Nat:=0
def PySem.W.Fast.tw12254611265726506323:Nat:=0
def PySem.W.Fast.tw12272689524608425341:Nat:=0
def PySem.W.Fast.tw12296486436855233410:Nat:=0
def PySem.W.Fast.tw12351342115256692879:Nat:=0
def PySem.W.Fast.tw12354871945373205726:Nat:=0
def PySem.W.Fast.tw12426058103932922252:Nat:=0
def PySem.W.Fast.tw12474411835323924916:Nat:=0
def PySem.W.Fast.tw12524258105202135320:Nat:=0
def PySem.W.Fast.tw1257989574838131319:Nat:=0
def PySem.W.Fast.tw12619292924365055563:Nat:=0
def PySem.W.Fast.tw12634079529575458915:Nat:=0
def PySem.W.Fast.tw12727627148589724278:Nat:=0
def PySem.W.Fast.tw12729938392315644858:Nat:=0
def PySem.W.Fast.tw12812631476378254512:Nat:=0
def PySem.W.Fast.tw12976741550596141043:Nat:=0
def PySem.W.Fast.tw13034613125997844800:Nat:=0
def PySem.W.Fast.tw13039547492914015752:Nat:=0
def PySem.W.Fast.tw13050677922732035556:Nat:=0
def PySem.W.Fast.tw13055627479191185666:Nat:=0
def PySem.W.Fast.tw13070406759424742682:Nat:=0
def PySem.W.Fast.tw13095020680637703815:Nat:=0
def PySem.W.Fast.tw13175994446125745949:Nat:=0
def PySem.W.Fast.tw1317606362037845890:Nat:=0
def PySem.W.Fast.tw13262875628600435956:Nat:=0
def PySem.W.Fast.tw13299963616436030603:Nat:=0
def PySem.W.Fast.tw13303377537793742752:Nat:=0
def PySem.W.Fast.tw13320929393277356153:Nat:=0
def PySem.W.Fast.tw1337703321874144413:Nat:=0
def PySem.W.Fast.tw13409904550792402501:Nat:=0
def PySem.W.Fast.tw1342554808657006893:Nat:=0
def PySem.W.Fast.tw13491311721682027743:Nat:=0
def PySem.W.Fast.tw13523861097335834048:Nat:=0
def PySem.W.Fast.tw13543452772024197291:Nat:=0
def PySem.W.Fast.tw13584169529961791924:Nat:=0
def PySem.W.Fast.tw13716577639936040629:Nat:=0
def PySem.W.Fast.tw13852537933138393511:Nat:=0
def PySem.W.Fast.tw13894180343385384016:Nat:=0
def PySem.W.Fast.tw13939642247228167999:Nat:=0
def PySem.W.Fast.tw13967964934878223750:Nat:=0
def PySem.W.Fast.tw13985892785329981606:Nat:=0
def PySem.W.Fast.tw1398877378174668037:Nat:=0
def PySem.W.Fast.tw14016767836387187604:Nat:=0
def PySem.W.Fast.tw14017451359312251530:Nat:=0
def PySem.W.Fast.tw1401852629140692611:Nat:=0
def PySem.W.Fast.tw14102961216252983211:Nat:=0
def PySem.W.Fast.tw14119469926220930505:Nat:=0
def PySem.W.Fast.tw14134906402214444710:Nat:=0
def PySem.W.Fast.tw14150653922152066567:Nat:=0
def PySem.W.Fast.tw14224535816518454708:Nat:=0
def PySem.W.Fast.tw14252864179867662341:Nat:=0
def PySem.W.Fast.tw14317645344685173347:Nat:=0
def PySem.W.Fast.tw14374913237914236568:Nat:=0
def PySem.W.Fast.tw14406594442114412993:Nat:=0
def PySem.W.Fast.tw14415816197829969744:Nat:=0
def PySem.W.Fast.tw14444857152302390934:Nat:=0
def PySem.W.Fast.tw1447943835353085462:Nat:=0
def PySem.W.Fast.tw14500434189897439723:Nat:=0
def PySem.W.Fast.tw14520338780818383413:Nat:=0
def PySem.W.Fast.tw14587603125157655862:Nat:=0
def PySem.W.Fast.tw14590830404205945417:Nat:=0
def PySem.W.Fast.tw14681426233105240318:Nat:=0
def PySem.W.Fast.tw14814839068793503178:Nat:=0
def PySem.W.Fast.tw14838174374678761312:Nat:=0
def PySem.W.Fast.tw14890038677948906583:Nat:=0
def PySem.W.Fast.tw15136830170072049038:Nat:=0
def PySem.W.Fast.tw1519430876281064504:Nat:=0
def PySem.W.Fast.tw15397671238122754485:Nat:=0
def PySem.W.Fast.tw15741925529959427857:Nat:=0
def PySem.W.Fast.tw15782024903966987207:Nat:=0
def PySem.W.Fast.tw15857917943338706482:Nat:=0
def PySem.W.Fast.tw15873905615742987327:Nat:=0
def PySem.W.Fast.tw1596125446409919368:Nat:=0
def PySem.W.Fast.tw15982428244472408391:Nat:=0
def PySem.W.Fast.tw16116427951344074257:Nat:=0
def PySem.W.Fast.tw16197260683329692669:Nat:=0
def PySem.W.Fast.tw16298145284453771837:Nat:=0
def PySem.W.Fast.tw1635041791900066625:Nat:=0
def PySem.W.Fast.tw16412599072043474751:Nat:=0
def PySem.W.Fast.tw16418838930608130784:Nat:=0
def PySem.W.Fast.tw1645428616845377362:Nat:=0
def PySem.W.Fast.tw16482523770375208345:Nat:=0
def PySem.W.Fast.tw16490446912920017591:Nat:=0
def PySem.W.Fast.tw16503445913384403259:Nat:=0
def PySem.W.Fast.tw16537618589194542854:Nat:=0
def PySem.W.Fast.tw16603555124188772925:Nat:=0
def PySem.W.Fast.tw16641207013488071306:Nat:=0
def PySem.W.Fast.tw16765553418094332593:Nat:=0
def PySem.W.Fast.tw16828630173317619182:Nat:=0
def PySem.W.Fast.tw16935481383741408216:Nat:=0
def PySem.W.Fast.tw16971430442989582758:Nat:=0
def PySem.W.Fast.tw17041849312507548938:Nat:=0
def PySem.W.Fast.tw17102945282176299797:Nat:=0
def PySem.W.Fast.tw17163548254537795835:Nat:=0
def PySem.W.Fast.tw17163852673844811148:Nat:=0
def PySem.W.Fast.tw17287244611990553600:Nat:=0
def PySem.W.Fast.tw17302234951521018479:Nat:=0
def PySem.W.Fast.tw17392464618540518566:Nat:=0
def PySem.W.Fast.tw17830435386985546454:Nat:=0
def PySem.W.Fast.tw17840332243447949454:Nat:=0
def PySem.W.Fast.tw17857907133652295716:Nat:=0
def PySem.W.Fast.tw17910373306263022144:Nat:=0
def PySem.W.Fast.tw17948434767210073272:Nat:=0
def PySem.W.Fast.tw18016058913132683544:Nat:=0
def PySem.W.Fast.tw18161416361996443466:Nat:=0
def PySem.W.Fast.tw18191322763956898801:Nat:=0
def PySem.W.Fast.tw18376569461200375401:Nat:=0
def PySem.W.Fast.tw18425928409560499256:Nat:=0
def PySem.W.Fast.tw1843629135103330874:Nat:=0
def PySem.W.Fast.tw1863130940835216680:Nat:=0
def PySem.W.Fast.tw189524637855719093:Nat:=0
def PySem.W.Fast.tw1913778187984516578:Nat:=0
def PySem.W.Fast.tw1931358722284483092:Nat:=0
def PySem.W.Fast.tw1952812350518364681:Nat:=0
def PySem.W.Fast.tw2024581030286078029:Nat:=0
def PySem.W.Fast.tw2046539958777692752:Nat:=0
def PySem.W.Fast.tw2176472588907015851:Nat:=0
def PySem.W.Fast.tw2201592931965261934:Nat:=0
def PySem.W.Fast.tw2225812945661097863:Nat:=0
def PySem.W.Fast.tw2260105742633793265:Nat:=0
def PySem.W.Fast.tw2289356424334927414:Nat:=0
def PySem.W.Fast.tw2314879211025721419:Nat:=0
def PySem.W.Fast.tw2332294563808905243:Nat:=0
def PySem.W.Fast.tw2354216436135622895:Nat:=0
def PySem.W.Fast.tw2409374907093889730:Nat:=0
def PySem.W.Fast.tw2433368094050786843:Nat:=0
def PySem.W.Fast.tw2510491519226705105:Nat:=0
def PySem.W.Fast.tw2545998897431491948:Nat:=0
def PySem.W.Fast.tw2586221327032734578:Nat:=0
def PySem.W.Fast.tw2725373880237119477:Nat:=0
def PySem.W.Fast.tw2768923165468934344:Nat:=0
def PySem.W.Fast.tw2844419142990915528:Nat:=0
def PySem.W.Fast.tw284700076078066098:Nat:=0
def PySem.W.Fast.tw2888940436690536575:Nat:=0
def PySem.W.Fast.tw2929484069771282938:Nat:=0
def PySem.W.Fast.tw2954162335419259613:Nat:=0
def PySem.W.Fast.tw2968445680542655405:Nat:=0
def PySem.W.Fast.tw3042931916614594838:Nat:=0
def PySem.W.Fast.tw3123132097766951753:Nat:=0
def PySem.W.Fast.tw3140325035279891640:Nat:=0
def PySem.W.Fast.tw3295885402371556627:Nat:=0
def PySem.W.Fast.tw3305698703884048819:Nat:=0
def PySem.W.Fast.tw3351102986771576387:Nat:=0
def PySem.W.Fast.tw3408972184248917702:Nat:=0
def PySem.W.Fast.tw3481172932540782658:Nat:=0
def PySem.W.Fast.tw3492339089627210658:Nat:=0
def PySem.W.Fast.tw3576454163558686680:Nat:=0
def PySem.W.Fast.tw368049986232782697:Nat:=0
def PySem.W.Fast.tw3753416031583911293:Nat:=0
def PySem.W.Fast.tw3814149780943687430:Nat:=0
def PySem.W.Fast.tw3867548053048907616:Nat:=0
def PySem.W.Fast.tw3897873178860424141:Nat:=0
def PySem.W.Fast.tw3966950752856401903:Nat:=0
def PySem.W.Fast.tw4076864510893204585:Nat:=0
def PySem.W.Fast.tw4130582597164897763:Nat:=0
def PySem.W.Fast.tw4198274316655050647:Nat:=0
def PySem.W.Fast.tw4251833872346589673:Nat:=0
def PySem.W.Fast.tw4276004075750290726:Nat:=0
def PySem.W.Fast.tw427991718372766164:Nat:=0
def PySem.W.Fast.tw4419073921495184661:Nat:=0
def PySem.W.Fast.tw4452465872138771466:Nat:=0
def PySem.W.Fast.tw4626804509353512135:Nat:=0
def PySem.W.Fast.tw4695404635966579368:Nat:=0
def PySem.W.Fast.tw4710306531382211048:Nat:=0
def PySem.W.Fast.tw4727405117914110957:Nat:=0
def PySem.W.Fast.tw4790536121613201707:Nat:=0
def PySem.W.Fast.tw4837419362748808203:Nat:=0
def PySem.W.Fast.tw4874339782192835286:Nat:=0
def PySem.W.Fast.tw497433635984963297:Nat:=0
def PySem.W.Fast.tw5084425044501735537:Nat:=0
def PySem.W.Fast.tw5242638274115065548:Nat:=0
def PySem.W.Fast.tw5363592116490268005:Nat:=0
def PySem.W.Fast.tw5429901502661569035:Nat:=0
def PySem.W.Fast.tw5517312525021945260:Nat:=0
def PySem.W.Fast.tw5521280234897262628:Nat:=0
def PySem.W.Fast.tw5557318763526315065:Nat:=0
def PySem.W.Fast.tw5581240246163816022:Nat:=0
def PySem.W.Fast.tw5611763384936645922:Nat:=0
def PySem.W.Fast.tw5618526788029384641:Nat:=0
def PySem.W.Fast.tw5664113601241005003:Nat:=0
def PySem.W.Fast.tw5666227667938261119:Nat:=0
def PySem.W.Fast.tw5732765197752685210:Nat:=0
def PySem.W.Fast.tw5745190103519278833:Nat:=0
def PySem.W.Fast.tw5845371502365920232:Nat:=0
def PySem.W.Fast.tw5866060381991821954:Nat:=0
def PySem.W.Fast.tw6023613973507227529:Nat:=0
def PySem.W.Fast.tw6035609144201651478:Nat:=0
def PySem.W.Fast.tw603765001453169147:Nat:=0
def PySem.W.Fast.tw6045332736890678354:Nat:=0
def PySem.W.Fast.tw6052112136532508309:Nat:=0
def PySem.W.Fast.tw6113557878789888517:Nat:=0
def PySem.W.Fast.tw6162313080069994627:Nat:=0
def PySem.W.Fast.tw617797364026946656:Nat:=0
def PySem.W.Fast.tw6260314204578484194:Nat:=0
def PySem.W.Fast.tw6312840141652689978:Nat:=0
def PySem.W.Fast.tw6373357275717189350:Nat:=0
def PySem.W.Fast.tw6452760819072305785:Nat:=0
def PySem.W.Fast.tw6556595154788936110:Nat:=0
def PySem.W.Fast.tw6559275002876256601:Nat:=0
def PySem.W.Fast.tw6603493569701857052:Nat:=0
def PySem.W.Fast.tw6604170390526975402:Nat:=0
def PySem.W.Fast.tw6604943318966288710:Nat:=0
def PySem.W.Fast.tw6614393381567230373:Nat:=0
def PySem.W.Fast.tw665509321721953104:Nat:=0
def PySem.W.Fast.tw6698887759541938244:Nat:=0
def PySem.W.Fast.tw6716610605239977415:Nat:=0
def PySem.W.Fast.tw6896811830835441300:Nat:=0
def PySem.W.Fast.tw6997335404022978568:Nat:=0
def PySem.W.Fast.tw7049058223802543030:Nat:=0
def PySem.W.Fast.tw7097058671674761352:Nat:=0
def PySem.W.Fast.tw7101510535382916355:Nat:=0
def PySem.W.Fast.tw712113292450794809:Nat:=0
def PySem.W.Fast.tw7223448685624600728:Nat:=0
def PySem.W.Fast.tw7290814380149915729:Nat:=0
def PySem.W.Fast.tw7292451146853606901:Nat:=0
def PySem.W.Fast.tw7312657146584017461:Nat:=0
def PySem.W.Fast.tw7331522788952733495:Nat:=0
def PySem.W.Fast.tw7351021035246187872:Nat:=0
def PySem.W.Fast.tw7379558344467597110:Nat:=0
def PySem.W.Fast.tw738272048815478039:Nat:=0
def PySem.W.Fast.tw742868259802434436:Nat:=0
def PySem.W.Fast.tw745195443026685628:Nat:=0
def PySem.W.Fast.tw7462233024101256965:Nat:=0
def PySem.W.Fast.tw760353265781804950:Nat:=0
def PySem.W.Fast.tw7620460970952437779:Nat:=0
def PySem.W.Fast.tw7628913082627126595:Nat:=0
def PySem.W.Fast.tw764766352153858816:Nat:=0
def PySem.W.Fast.tw7672031239618808800:Nat:=0
def PySem.W.Fast.tw7673642608438989509:Nat:=0
def PySem.W.Fast.tw7856751652820769141:Nat:=0
def PySem.W.Fast.tw797881028269559883:Nat:=0
def PySem.W.Fast.tw8006299362536218635:Nat:=0
def PySem.W.Fast.tw8108586575524447147:Nat:=0
def PySem.W.Fast.tw8262518664377856036:Nat:=0
def PySem.W.Fast.tw8343042155556709884:Nat:=0
def PySem.W.Fast.tw8348965756663826314:Nat:=0
def PySem.W.Fast.tw8354760697299424731:Nat:=0
def PySem.W.Fast.tw83658205674029336:Nat:=0
def PySem.W.Fast.tw8367822559192404823:Nat:=0
def PySem.W.Fast.tw8440180433602719013:Nat:=0
def PySem.W.Fast.tw8539217630038032999:Nat:=0
def PySem.W.Fast.tw8571385421414954391:Nat:=0
def PySem.W.Fast.tw8733099919612399778:Nat:=0
def PySem.W.Fast.tw9011498295467989157:Nat:=0
def PySem.W.Fast.tw9021238565753873131:Nat:=0
def PySem.W.Fast.tw9040825478167744273:Nat:=0
def PySem.W.Fast.tw9070215660914541992:Nat:=0
def PySem.W.Fast.tw9145683336425101942:Nat:=0
def PySem.W.Fast.tw9179133714731318974:Nat:=0
def PySem.W.Fast.tw9191266937017082954:Nat:=0
def PySem.W.Fast.tw9204509000237633673:Nat:=0
def PySem.W.Fast.tw9263507323275991765:Nat:=0
def PySem.W.Fast.tw9291151573035746473:Nat:=0
def PySem.W.Fast.tw9320138332107672562:Nat:=0
def PySem.W.Fast.tw9414627481896686296:Nat:=0
def PySem.W.Fast.tw9466253264810612217:Nat:=0
def PySem.W.Fast.tw9492787116491784978:Nat:=0
def PySem.W.Fast.tw9613413580288223171:Nat:=0
def PySem.W.Fast.tw9652798073015039756:Nat:=0
def PySem.W.Fast.tw9673859980663901831:Nat:=0
def PySem.W.Fast.tw9682731802956565219:Nat:=0
def PySem.W.Fast.tw9695283572209962634:Nat:=0
def PySem.W.Fast.tw9721208027075309067:Nat:=0
def PySem.W.Fast.tw9765988830207026742:Nat:=0
def PySem.W.Fast.tw9797749253931160778:Nat:=0
def PySem.W.Fast.tw9950032800541496781:Nat:=0
open PySem PySem.W PyProof.Rows
set_option maxRecDepth 100000 in
set_option maxHeartbeats 0 in
theorem PySem.Challenge.cw_oncedoor_k62_holds_and_waits_holds : PySem.Challenge.rw_oncedoor_k62_holds_and_waits.Holds := by
 w_on;o_law;k_head;(case hw=>w_witness2)
 k_fill
 refine KL.Yd (l:=PySem.Challenge.rw_oncedoor_k62_holds_and_waits) rfl rfl (fun w h Y=>W.kIn_of Y) ?F
 case F=>
  intro w mg fa h KX G hmg;refine' KL.Tc KX G hmg ?a_is_name ?a_is_key ?a_is_whole ?a_is_made_of ?a_is_deed ?a_fits_word ?a_names_of ?a_asks_of ?a_done_changes ?a_early ?a_done_answer ?a_changes_of ?a_is_alive ?a_risen ?a_by_numbers ?a_first_book ?a_risen_book ?a_risen_kept ?a_rows_of ?a_law_deck ?a_law_draw ?a_law_unlike ?a_law_amount ?a_law_deed ?a_law_names ?a_law_blocked ?a_law_stepped ?a_law_forced ?a_law_right ?a_law ?l_law ?c_law ?k_law ?aC_Keys ?pg_Keys ?hd_Keys ?po_Keys ?sa_Keys ?mk_Keys ?kc_Keys ?n_Keys_life ?n_Keys_begun_ones ?n_Keys_settled_ones ?a_Keys___init__ ?i_Keys___init__ ?l_Keys___init__ ?c_Keys___init__ ?k_Keys___init__ ?a_Keys_look ?a_Keys_begin ?a_Keys_settle ?a_Keys_end ?a_Keys_is_kept ?aC_Book ?pg_Book ?hd_Book ?po_Book ?sa_Book ?mk_Book ?kc_Book ?n_Book_amounts ?a_Book___init__ ?i_Book___init__ ?l_Book___init__ ?c_Book___init__ ?k_Book___init__ ?a_Book_amount ?a_Book_rows ?a_Book_change ?lT_Book ?vT_Book ?aC_Journal ?pg_Journal ?hd_Journal ?po_Journal ?sa_Journal ?mk_Journal ?kc_Journal ?n_Journal_written ?n_Journal_safe_count ?a_Journal___init__ ?i_Journal___init__ ?l_Journal___init__ ?c_Journal___init__ ?k_Journal___init__ ?a_Journal_write ?a_Journal_force ?a_Journal_rows ?a_Journal_safe ?a_Journal_is_safe ?lT_Journal ?vT_Journal ?aC_Run ?pg_Run ?hd_Run ?po_Run ?sa_Run ?mk_Run ?kc_Run ?n_Run_number ?n_Run_asker ?n_Run_key ?n_Run_deed ?n_Run_stage ?n_Run_place ?n_Run_undos ?a_Run___init__ ?i_Run___init__ ?l_Run___init__ ?c_Run___init__ ?k_Run___init__ ?a_Run_as_tuple ?a_Run_is_held_up_by ?aC_Memory ?pg_Memory ?hd_Memory ?po_Memory ?sa_Memory ?mk_Memory ?kc_Memory ?n_Memory_turn ?n_Memory_book ?n_Memory_standing ?n_Memory_runs ?n_Memory_next_number ?a_Memory___init__ ?i_Memory___init__ ?l_Memory___init__ ?c_Memory___init__ ?k_Memory___init__ ?a_Memory_put ?a_Memory_begin ?a_Memory_hold ?a_Memory_end ?aC_Door ?pg_Door ?hd_Door ?po_Door ?sa_Door ?mk_Door ?kc_Door ?n_Door_name ?n_Door_life ?n_Door_houses ?n_Door_journal ?n_Door_memory ?a_Door___init__ ?i_Door___init__ ?l_Door___init__ ?c_Door___init__ ?k_Door___init__ ?a_Door_come ?a_Door_work ?i_Door_work ?l_Door_work ?c_Door_work ?k_Door_work ?lT_Door_work ?vT_Door_work ?a_Door_write_first ?a_Door_write_done ?a_Door_ask_next ?a_Door_force ?a_Door_under ?a_Door_house_of ?a_Door_known ?aC_House ?pg_House ?hd_House ?po_House ?sa_House ?mk_House ?kc_House ?n_House_amounts ?n_House_closed_names ?n_House_entries ?a_House___init__ ?i_House___init__ ?l_House___init__ ?c_House___init__ ?k_House___init__ ?lT_House ?vT_House ?z_any ?z_isinstance ?z_int ?z_bool ?z_str ?z_len ?z_all ?z_tuple ?z_dict ?z_sorted ?z_max ?z_list ?z_enumerate ?z_sum ?z_range ?y_LETTERS ?y_FIGURES ?y_LONGEST_NAME ?y_LONGEST_KEY ?y_MOST ?y_LONGEST_DOOR_NAME ?y_NAME_COUNTS ?l_NAME_COUNTS ?t_NAME_COUNTS ?o_NAME_COUNTS ?y_UNLIKE_WORDS ?l_UNLIKE_WORDS ?v_UNLIKE_WORDS ?y_WAYS ?l_WAYS ?v_WAYS
  (case a_is_name=>refine' KL.FA.of ?a ?l ?c ?k;(case a=>k_is);(case l=>k_is);(case c=>k_is);case k=>k_is)
  (case a_is_key=>refine' KL.FA.of ?a ?l ?c ?k;(case a=>k_is);(case l=>k_is);(case c=>k_is);case k=>k_is)
  (case a_is_whole=>refine' KL.FA.of ?a ?l ?c ?k;(case a=>k_is);(case l=>k_is);(case c=>k_is);case k=>k_is)
  (case a_is_made_of=>refine' KL.FA.of ?a ?l ?c ?k;(case a=>k_is);(case l=>k_is);(case c=>k_is);case k=>k_is)
  (case a_is_deed=>refine' KL.FA.of ?a ?l ?c ?k;(case a=>k_is);(case l=>k_is);(case c=>k_is);case k=>k_is)
  (case a_fits_word=>refine' KL.FA.of ?a ?l ?c ?k;(case a=>k_is);(case l=>k_is);(case c=>k_is);case k=>k_is)
  (case a_names_of=>refine' KL.FA.of ?a ?l ?c ?k;(case a=>k_is);(case l=>k_is);(case c=>k_is);case k=>k_is)
  (case a_asks_of=>refine' KL.FA.of ?a ?l ?c ?k;(case a=>k_is);(case l=>k_is);(case c=>k_is);case k=>k_is)
  (case a_done_changes=>refine' KL.FA.of ?a ?l ?c ?k;(case a=>k_is);(case l=>k_is);(case c=>k_is);case k=>k_is)
  (case a_early=>refine' KL.FA.of ?a ?l ?c ?k;(case a=>k_is);(case l=>k_is);(case c=>k_is);case k=>k_is)
  (case a_done_answer=>refine' KL.FA.of ?a ?l ?c ?k;(case a=>k_is);(case l=>k_is);(case c=>k_is);case k=>k_is)
  (case a_changes_of=>refine' KL.FA.of ?a ?l ?c ?k;(case a=>k_is);(case l=>k_is);(case c=>k_is);case k=>k_is)
  (case a_is_alive=>refine' KL.FA.of ?a ?l ?c ?k;(case a=>k_is);(case l=>k_is);(case c=>k_is);case k=>k_is)
  (case a_risen=>refine' KL.FA.of ?a ?l ?c ?k;(case a=>k_is);(case l=>k_is);(case c=>k_is);case k=>k_is)
  (case a_by_numbers=>refine' KL.FA.of ?a ?l ?c ?k;(case a=>k_is);(case l=>k_is);(case c=>k_is);case k=>k_is)
  (case a_first_book=>refine' KL.FA.of ?a ?l ?c ?k;(case a=>k_is);(case l=>k_is);(case c=>k_is);case k=>k_is)
  (case a_risen_book=>refine' KL.FA.of ?a ?l ?c ?k;(case a=>k_is);(case l=>k_is);(case c=>k_is);case k=>k_is)
  (case a_risen_kept=>refine' KL.FA.of ?a ?l ?c ?k;(case a=>k_is);(case l=>k_is);(case c=>k_is);case k=>k_is)
  (case a_rows_of=>refine' KL.FA.of ?a ?l ?c ?k;(case a=>k_is);(case l=>k_is);(case c=>k_is);case k=>k_is)
  (case a_law_deck=>refine' KL.FA.of ?a ?l ?c ?k;(case a=>k_is);(case l=>k_is);(case c=>k_is);case k=>k_is)
  (case a_law_draw=>refine' KL.FA.of ?a ?l ?c ?k;(case a=>k_is);(case l=>k_is);(case c=>k_is);case k=>k_is)
  (case a_law_unlike=>refine' KL.FA.of ?a ?l ?c ?k;(case a=>k_is);(case l=>k_is);(case c=>k_is);case k=>k_is)
  (case a_law_amount=>refine' KL.FA.of ?a ?l ?c ?k;(case a=>k_is);(case l=>k_is);(case c=>k_is);case k=>k_is)
  (case a_law_deed=>refine' KL.FA.of ?a ?l ?c ?k;(case a=>k_is);(case l=>k_is);(case c=>k_is);case k=>k_is)
  (case a_law_names=>refine' KL.FA.of ?a ?l ?c ?k;(case a=>k_is);(case l=>k_is);(case c=>k_is);case k=>k_is)
  (case a_law_blocked=>refine' KL.FA.of ?a ?l ?c ?k;(case a=>k_is);(case l=>k_is);(case c=>k_is);case k=>k_is)
  (case a_law_stepped=>refine' KL.FA.of ?a ?l ?c ?k;(case a=>k_is);(case l=>k_is);(case c=>k_is);case k=>k_is)
  (case a_law_forced=>refine' KL.FA.of ?a ?l ?c ?k;(case a=>k_is);(case l=>k_is);(case c=>k_is);case k=>k_is)
  (case a_law_right=>refine' KL.FA.of ?a ?l ?c ?k;(case a=>k_is);(case l=>k_is);(case c=>k_is);case k=>k_is)
  (case a_law=>k_is)
  (case l_law=>k_is)
  (case c_law=>k_is)
  (case k_law=>k_is)
  (case aC_Keys=>k_is)
  (case pg_Keys=>k_is)
  (case hd_Keys=>k_is)
  (case po_Keys=>k_is)
  (case sa_Keys=>k_is)
  (case mk_Keys=>k_is)
  (case kc_Keys=>k_is)
  (case n_Keys_life=>k_is)
  (case n_Keys_begun_ones=>k_is)
  (case n_Keys_settled_ones=>k_is)
  (case a_Keys___init__=>k_is)
  (case i_Keys___init__=>k_is)
  (case l_Keys___init__=>k_is)
  (case c_Keys___init__=>k_is)
  (case k_Keys___init__=>k_is)
  (case a_Keys_look=>refine' KL.MA.of ?a ?i ?l ?c ?k;(case a=>k_is);(case i=>k_is);(case l=>k_is);(case c=>k_is);case k=>k_is)
  (case a_Keys_begin=>refine' KL.MA.of ?a ?i ?l ?c ?k;(case a=>k_is);(case i=>k_is);(case l=>k_is);(case c=>k_is);case k=>k_is)
  (case a_Keys_settle=>refine' KL.MA.of ?a ?i ?l ?c ?k;(case a=>k_is);(case i=>k_is);(case l=>k_is);(case c=>k_is);case k=>k_is)
  (case a_Keys_end=>refine' KL.MA.of ?a ?i ?l ?c ?k;(case a=>k_is);(case i=>k_is);(case l=>k_is);(case c=>k_is);case k=>k_is)
  (case a_Keys_is_kept=>refine' KL.MA.of ?a ?i ?l ?c ?k;(case a=>k_is);(case i=>k_is);(case l=>k_is);(case c=>k_is);case k=>k_is)
  (case aC_Book=>k_is)
  (case pg_Book=>k_is)
  (case hd_Book=>k_is)
  (case po_Book=>k_is)
  (case sa_Book=>k_is)
  (case mk_Book=>k_is)
  (case kc_Book=>k_is)
  (case n_Book_amounts=>k_is)
  (case a_Book___init__=>k_is)
  (case i_Book___init__=>k_is)
  (case l_Book___init__=>k_is)
  (case c_Book___init__=>k_is)
  (case k_Book___init__=>k_is)
  (case a_Book_amount=>refine' KL.MA.of ?a ?i ?l ?c ?k;(case a=>k_is);(case i=>k_is);(case l=>k_is);(case c=>k_is);case k=>k_is)
  (case a_Book_rows=>refine' KL.MA.of ?a ?i ?l ?c ?k;(case a=>k_is);(case i=>k_is);(case l=>k_is);(case c=>k_is);case k=>k_is)
  (case a_Book_change=>refine' KL.MA.of ?a ?i ?l ?c ?k;(case a=>k_is);(case i=>k_is);(case l=>k_is);(case c=>k_is);case k=>k_is)
  (case lT_Book=>k_is)
  (case vT_Book=>exact rfl)
  (case aC_Journal=>k_is)
  (case pg_Journal=>k_is)
  (case hd_Journal=>k_is)
  (case po_Journal=>k_is)
  (case sa_Journal=>k_is)
  (case mk_Journal=>k_is)
  (case kc_Journal=>k_is)
  (case n_Journal_written=>k_is)
  (case n_Journal_safe_count=>k_is)
  (case a_Journal___init__=>k_is)
  (case i_Journal___init__=>k_is)
  (case l_Journal___init__=>k_is)
  (case c_Journal___init__=>k_is)
  (case k_Journal___init__=>k_is)
  (case a_Journal_write=>refine' KL.MA.of ?a ?i ?l ?c ?k;(case a=>k_is);(case i=>k_is);(case l=>k_is);(case c=>k_is);case k=>k_is)
  (case a_Journal_force=>refine' KL.MA.of ?a ?i ?l ?c ?k;(case a=>k_is);(case i=>k_is);(case l=>k_is);(case c=>k_is);case k=>k_is)
  (case a_Journal_rows=>refine' KL.MA.of ?a ?i ?l ?c ?k;(case a=>k_is);(case i=>k_is);(case l=>k_is);(case c=>k_is);case k=>k_is)
  (case a_Journal_safe=>refine' KL.MA.of ?a ?i ?l ?c ?k;(case a=>k_is);(case i=>k_is);(case l=>k_is);(case c=>k_is);case k=>k_is)
  (case a_Journal_is_safe=>refine' KL.MA.of ?a ?i ?l ?c ?k;(case a=>k_is);(case i=>k_is);(case l=>k_is);(case c=>k_is);case k=>k_is)
  (case lT_Journal=>k_is)
  (case vT_Journal=>exact rfl)
  (case aC_Run=>k_is)
  (case pg_Run=>k_is)
  (case hd_Run=>k_is)
  (case po_Run=>k_is)
  (case sa_Run=>k_is)
  (case mk_Run=>k_is)
  (case kc_Run=>k_is)
  (case n_Run_number=>k_is)
  (case n_Run_asker=>k_is)
  (case n_Run_key=>k_is)
  (case n_Run_deed=>k_is)
  (case n_Run_stage=>k_is)
  (case n_Run_place=>k_is)
  (case n_Run_undos=>k_is)
  (case a_Run___init__=>k_is)
  (case i_Run___init__=>k_is)
  (case l_Run___init__=>k_is)
  (case c_Run___init__=>k_is)
  (case k_Run___init__=>k_is)
  (case a_Run_as_tuple=>refine' KL.MA.of ?a ?i ?l ?c ?k;(case a=>k_is);(case i=>k_is);(case l=>k_is);(case c=>k_is);case k=>k_is)
  (case a_Run_is_held_up_by=>refine' KL.MA.of ?a ?i ?l ?c ?k;(case a=>k_is);(case i=>k_is);(case l=>k_is);(case c=>k_is);case k=>k_is)
  (case aC_Memory=>k_is)
  (case pg_Memory=>k_is)
  (case hd_Memory=>k_is)
  (case po_Memory=>k_is)
  (case sa_Memory=>k_is)
  (case mk_Memory=>k_is)
  (case kc_Memory=>k_is)
  (case n_Memory_turn=>k_is)
  (case n_Memory_book=>k_is)
  (case n_Memory_standing=>k_is)
  (case n_Memory_runs=>k_is)
  (case n_Memory_next_number=>k_is)
  (case a_Memory___init__=>k_is)
  (case i_Memory___init__=>k_is)
  (case l_Memory___init__=>k_is)
  (case c_Memory___init__=>k_is)
  (case k_Memory___init__=>k_is)
  (case a_Memory_put=>refine' KL.MA.of ?a ?i ?l ?c ?k;(case a=>k_is);(case i=>k_is);(case l=>k_is);(case c=>k_is);case k=>k_is)
  (case a_Memory_begin=>refine' KL.MA.of ?a ?i ?l ?c ?k;(case a=>k_is);(case i=>k_is);(case l=>k_is);(case c=>k_is);case k=>k_is)
  (case a_Memory_hold=>refine' KL.MA.of ?a ?i ?l ?c ?k;(case a=>k_is);(case i=>k_is);(case l=>k_is);(case c=>k_is);case k=>k_is)
  (case a_Memory_end=>refine' KL.MA.of ?a ?i ?l ?c ?k;(case a=>k_is);(case i=>k_is);(case l=>k_is);(case c=>k_is);case k=>k_is)
  (case aC_Door=>k_is)
  (case pg_Door=>k_is)
  (case hd_Door=>k_is)
  (case po_Door=>k_is)
  (case sa_Door=>k_is)
  (case mk_Door=>k_is)
  (case kc_Door=>k_is)
  (case n_Door_name=>k_is)
  (case n_Door_life=>k_is)
  (case n_Door_houses=>k_is)
  (case n_Door_journal=>k_is)
  (case n_Door_memory=>k_is)
  (case a_Door___init__=>k_is)
  (case i_Door___init__=>k_is)
  (case l_Door___init__=>k_is)
  (case c_Door___init__=>k_is)
  (case k_Door___init__=>k_is)
  (case a_Door_come=>refine' KL.MA.of ?a ?i ?l ?c ?k;(case a=>k_is);(case i=>k_is);(case l=>k_is);(case c=>k_is);case k=>k_is)
  (case a_Door_work=>k_is)
  (case i_Door_work=>k_is)
  (case l_Door_work=>k_is)
  (case c_Door_work=>k_is)
  (case k_Door_work=>k_is)
  (case lT_Door_work=>k_is)
  (case vT_Door_work=>exact rfl)
  (case a_Door_write_first=>refine' KL.MA.of ?a ?i ?l ?c ?k;(case a=>k_is);(case i=>k_is);(case l=>k_is);(case c=>k_is);case k=>k_is)
  (case a_Door_write_done=>refine' KL.MA.of ?a ?i ?l ?c ?k;(case a=>k_is);(case i=>k_is);(case l=>k_is);(case c=>k_is);case k=>k_is)
  (case a_Door_ask_next=>refine' KL.MA.of ?a ?i ?l ?c ?k;(case a=>k_is);(case i=>k_is);(case l=>k_is);(case c=>k_is);case k=>k_is)
  (case a_Door_force=>refine' KL.MA.of ?a ?i ?l ?c ?k;(case a=>k_is);(case i=>k_is);(case l=>k_is);(case c=>k_is);case k=>k_is)
  (case a_Door_under=>refine' KL.MA.of ?a ?i ?l ?c ?k;(case a=>k_is);(case i=>k_is);(case l=>k_is);(case c=>k_is);case k=>k_is)
  (case a_Door_house_of=>refine' KL.MA.of ?a ?i ?l ?c ?k;(case a=>k_is);(case i=>k_is);(case l=>k_is);(case c=>k_is);case k=>k_is)
  (case a_Door_known=>refine' KL.MA.of ?a ?i ?l ?c ?k;(case a=>k_is);(case i=>k_is);(case l=>k_is);(case c=>k_is);case k=>k_is)
  (case aC_House=>k_is)
  (case pg_House=>k_is)
  (case hd_House=>k_is)
  (case po_House=>k_is)
  (case sa_House=>k_is)
  (case mk_House=>k_is)
  (case kc_House=>k_is)
  (case n_House_amounts=>k_is)
  (case n_House_closed_names=>k_is)
  (case n_House_entries=>k_is)
  (case a_House___init__=>k_is)
  (case i_House___init__=>k_is)
  (case l_House___init__=>k_is)
  (case c_House___init__=>k_is)
  (case k_House___init__=>k_is)
  (case lT_House=>k_is)
  (case vT_House=>exact rfl)
  (case z_any=>k_is)
  (case z_isinstance=>k_is)
  (case z_int=>k_is)
  (case z_bool=>k_is)
  (case z_str=>k_is)
  (case z_len=>k_is)
  (case z_all=>k_is)
  (case z_tuple=>k_is)
  (case z_dict=>k_is)
  (case z_sorted=>k_is)
  (case z_max=>k_is)
  (case z_list=>k_is)
  (case z_enumerate=>k_is)
  (case z_sum=>k_is)
  (case z_range=>k_is)
  (case y_LETTERS=>k_is)
  (case y_FIGURES=>k_is)
  (case y_LONGEST_NAME=>k_is)
  (case y_LONGEST_KEY=>k_is)
  (case y_MOST=>k_is)
  (case y_LONGEST_DOOR_NAME=>k_is)
  (case y_NAME_COUNTS=>k_is)
  (case l_NAME_COUNTS=>k_is)
  (case t_NAME_COUNTS=>repeat (first | exact True.intro | refine And.intro ⟨_,rfl⟩ (And.intro rfl (And.intro ⟨_,rfl⟩ ?_))))
  (case o_NAME_COUNTS=>decide)
  (case y_UNLIKE_WORDS=>k_is)
  (case l_UNLIKE_WORDS=>k_is)
  (case v_UNLIKE_WORDS=>repeat (first | exact .nil | refine .cons ⟨_,rfl⟩ ?_))
  (case y_WAYS=>k_is)
  (case l_WAYS=>k_is)
  (case v_WAYS=>repeat (first | exact .nil | refine .cons ⟨_,rfl⟩ ?_))
