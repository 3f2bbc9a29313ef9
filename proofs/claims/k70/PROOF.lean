import PyProof.Rows.All
import Wide.All
import OpenK.AllK
import Wide.FinOn
import Lean
import PyProof.EqAt
import PyProof.EqKinds
import PyProof.TupleCall
import KE.KSortTup
import KE.KDictSum
import KE.KDictOf
import PyProof.AttrMissHeap
import OpenK.KRaise
import KE.KIsAll
import KE.KTryMore
import KE.RegKIsAll
import KE.RegKTryMore
import PyProof.NsDelKeeps
import PyProof.ExcArgs
import PyProof.FitsReplace
import PyProof.Rows.StrJoin2
import PySem.Challenge.RW_oncedoor_k70_wrong_answers_told
set_option Elab.async false
set_option linter.all false
set_option maxRecDepth 100000
set_option maxHeartbeats 4000000
theorem Zk {p:Prop} (h:p:=by decide +kernel):p:=h
theorem Zo {p:Prop} (h:p:=by omega):p:=h
theorem Zs {p:Prop} (h:p:=by simp):p:=h
theorem Zd {p:Prop} (h:p:=by decide):p:=h
def bG:=@List.length_map
def fP:=@PySem.Heap.get?_push_of_some
def Zgs:=@List.getElem?_eq_some_iff
def iA:=@List.getElem?_eq_getElem
def nY:=@List.mem_cons_of_mem
def Zmm:=@List.mem_map
def jF:=@List.map_append
def sK:=@List.length_append
def kE:=@List.getElem?_map
def kK:=@Nat.le_trans
def kG:=@List.mem_cons_self
def dS:=@List.size_toArray
def nF:=@List.length_take
def rA:=@List.take_of_length_le
def Zma:=@List.mem_append
def Zms:=@List.mem_singleton
def uR:=@List.length_cons
def oK:=@Nat.lt_of_le_of_lt
def bM:=@Nat.le_refl
def gX:=@List.mem_of_getElem?
namespace L2
open PySem PySem.Spec PyProof.Rows
abbrev aT:=Sum Int Str
def kH:aT->Value->Bool
 | .inl k,v=>Value.isInt k v
 | .inr x,v=>Value.isStrOf x v
def Va (w:World):aT->Int
 | .inl k=>hashInt k
 | .inr x=>hashStr w x
theorem bQ:∀ {k:aT} {v:Value},kH k v=true->(∃i t,k=Sum.inl i/\v=Value.int i t)∨(∃x t,k=Sum.inr x/\v=Value.str x t)
 | .inl i,v,h=>by
  obtain⟨t,e⟩:=Value.isInt_shape (k:=i) (v:=v) h
  exact .inl ⟨i,t,rfl,e⟩
 | .inr x,v,h=>by
  obtain⟨t,e⟩:=Value.isStrOf_shape (x:=x) (v:=v) h
  exact .inr ⟨x,t,rfl,e⟩
theorem Be (i:Int) (t:Tok):kH (.inl i) (.int i t)=true:=by simp [kH,Value.isInt]
theorem Bf (x:Str) (t:Tok):kH (.inr x) (.str x t)=true:=by simp [kH,Value.isStrOf]
theorem Qd (a b:Int):decide ((Sum.inl a:aT)=Sum.inl b)=(a == b):=by
 by_cases e:a=b
 ·subst e;simp
 ·have h:¬ (Sum.inl a:aT)=Sum.inl b:=fun q=>e (Sum.inl.inj q)
  rw[decide_eq_false h];exact(beq_eq_false_iff_ne.mpr e).symm
theorem Qe (a b:Str):decide ((Sum.inr a:aT)=Sum.inr b)=decide (a=b):=by
 by_cases e:a=b
 ·subst e;simp
 ·have h:¬ (Sum.inr a:aT)=Sum.inr b:=fun q=>e (Sum.inr.inj q)
  rw[decide_eq_false h,decide_eq_false e]
theorem Qg (a:Int) (b:Str):decide ((Sum.inl a:aT)=Sum.inr b)=false:=decide_eq_false (fun q=>nomatch q)
theorem Qh (a:Str) (b:Int):decide ((Sum.inr a:aT)=Sum.inl b)=false:=decide_eq_false (fun q=>nomatch q)
def aV (prog:Program) (w:World):PySem.KeyKind prog w aT where
 is:=kH
 hash:=Va w
 inj:=fun v a b ha hb=>by
  rcases bQ ha with⟨i,t,rfl,rfl⟩ | ⟨x,t,rfl,rfl⟩
  ·rcases bQ hb with⟨j,u,rfl,e⟩ | ⟨y,u,rfl,e⟩
   ·injection e with e1 _;rw[e1]
   ·exact nomatch e
  ·rcases bQ hb with⟨j,u,rfl,e⟩ | ⟨y,u,rfl,e⟩
   ·exact nomatch e
   ·injection e with e1 _;rw[e1]
 byValue:=fun k v h=>by
  rcases bQ h with⟨i,t,rfl,rfl⟩ | ⟨x,t,rfl,rfl⟩ <;> rfl
 pyHash:=fun hv h=>by
  rcases bQ hv with⟨i,t,rfl,rfl⟩ | ⟨x,t,rfl,rfl⟩
  ·exact wpAny_pyHash_int h
  ·exact wpAny_pyHash_str h
 eqBool:=fun hu hv h=>by
  rcases bQ hu with⟨i,t,rfl,rfl⟩ | ⟨x,t,rfl,rfl⟩
  ·rcases bQ hv with⟨j,u,rfl,rfl⟩ | ⟨y,u,rfl,rfl⟩
   ·rw[Qd]at h;exact wpAny_eqBool_int h
   ·rw[Qg]at h;exact SeqAt.EqAt.int_str i t y u _ _ _ _ h
  ·rcases bQ hv with⟨j,u,rfl,rfl⟩ | ⟨y,u,rfl,rfl⟩
   ·rw[Qh]at h;exact SeqAt.EqAt.str_int x t j u _ _ _ _ h
   ·rw[Qe]at h;exact wpAny_eqBool_str h
 «strs»:=fun k x t v h=>by
  rcases bQ h with⟨i,u,rfl,e⟩ | ⟨y,u,rfl,e⟩
  ·exact nomatch e
  ·injection e with e1 _
   subst e1;cases v <;> rfl
theorem uS (prog:Program) (w:World) (i:Int) (t:Tok):(aV prog w).is (.inl i) (.int i t)=true:=Be i t
theorem uT (prog:Program) (w:World) (x:Str) (t:Tok):(aV prog w).is (.inr x) (.str x t)=true:=Bf x t
end L2
namespace L2
open PySem PySem.Spec PyProof.Rows
inductive V where
 | non | bl (b:Bool) | int (i:Int) | str (x:Str) | byt (b:Array UInt8) | flt (b:UInt64) | ref (a:Addr) | ty (n:String)
 deriving DecidableEq
def RelV:V->Value->Prop
 | .non,u=>u=Value.none
 | .bl b,u=>u=Value.bool b
 | .int i,u=>∃t,u=Value.int i t
 | .str x,u=>∃t,u=Value.str x t
 | .byt b,u=>∃t,u=Value.bytes b t
 | .flt b,u=>∃t,u=Value.float b t
 | .ref a,u=>u=Value.ref a
 | .ty n,u=>u=Value.type n
abbrev Vals:List V->List Value->Prop:=Paired RelV
theorem Vals.length {xs:List V} {us:List Value} (r:Vals xs us):xs.length=us.length:=Paired.length r
theorem Vals.get:∀ {xs:List V} {us:List Value} {i:Nat} {x:V},Vals xs us->xs[i]?=some x->∃u,us[i]?=some u/\RelV x u
 | _,_,_,_,.nil,e=>by simp at e
 | _,_,0,_,.cons r _,e=>by simp at e;subst e;exact⟨_,rfl,r⟩
 | _,_,i+1,x,.cons _ t,e=>by
  obtain⟨u,h1,h2⟩:=Vals.get (i:=i) (x:=x) t (by simpa using e)
  exact⟨u,by simpa using h1,h2⟩
theorem Vals.set {x:V} {u:Value} (r:RelV x u):∀ {xs:List V} {us:List Value} (i:Nat),Vals xs us->Vals (xs.set i x) (us.set i u)
 | _,_,_,.nil=>.nil
 | _,_,0,.cons _ t=>.cons r t
 | _,_,i+1,.cons q t=>.cons q (Vals.set r i t)
theorem Vals.append:∀ {xs ys:List V} {us ws:List Value},Vals xs us->Vals ys ws->Vals (xs++ys) (us++ws)
 | _,_,_,_,.nil,s=>s
 | _,_,_,_,.cons r t,s=>.cons r (Vals.append t s)
theorem Vals.take:∀ {xs:List V} {us:List Value} (n:Nat),Vals xs us->Vals (xs.take n) (us.take n)
 | _,_,0,_=>.nil
 | _,_,_+1,.nil=>.nil
 | _,_,n+1,.cons r t=>.cons r (Vals.take n t)
theorem Vals.drop:∀ {xs:List V} {us:List Value} (n:Nat),Vals xs us->Vals (xs.drop n) (us.drop n)
 | _,_,0,r=>r
 | _,_,_+1,.nil=>.nil
 | _,_,n+1,.cons _ t=>Vals.drop n t
def RelO:Option V->Option Value->Prop
 | some v,some u=>RelV v u
 | none,none=>True
 | _,_=>False
def KV {κ:Type}:List (κ × V)->List (κ × Value)->Prop:=Paired fun(p:κ × V) (q:κ × Value)=>p.1=q.1/\RelV p.2 q.2
def kV:aT->V
 | .inl i=>.int i
 | .inr x=>.str x
inductive HO where
 /-- a list -/
 | lst (xs:List V)
 /-- a tuple (never changes) -/
 | tup (xs:List V)
 /-- a dict whose keys are ints and texts;one whose keys are tuples of ints and texts (the empty one is both) -/
 | dK (kvs:List (aT × V)) | dT (kvs:List (List aT × V))
 /-- a set of ints: its members,its size -/
 | set (S:Int->Bool) (n:Nat)
 /-- an instance of the class at C,its dict at dx,its attributes -/
 | ins (C dx:Addr) (fs:List (Str × V))
 /-- the dict of the instance at x -/
 | own (x:Addr)
 /-- the dict of an exception -/
 | xd (fs:List (Str × V))
 /-- a bound method,f of x -/
 | met (f x:Addr)
 /-- a range object lo,lo+1,.. below hi -/
 | rng (lo hi:Int)
 /-- a thing that is known to the object (the script;a dict while a loop walks it): read,never written while it is so -/
 | frz (o:Obj) (u:HO)
 /-- a code object's table -/
 | tbl (ps:Array Value)
 /-- any other thing,by what is true of its one object (a def of one's own: SetO a S n:=HO.ext fun h=>..) -/
 | ext (φ:Heap->Prop)
abbrev Hp:=Addr->Option HO
def aJ (H:Hp) (a:Addr) (o:HO):Hp:=fun b=>if b=a then some o else H b
theorem aA {H:Hp} {a:Addr} {o:HO}:aJ H a o a=some o:=by unfold aJ;rw[if_pos rfl]
theorem aD {H:Hp} {a b:Addr} {o:HO} (h:b≠a):aJ H a o b=H b:=by unfold aJ;rw[if_neg h]
theorem eY {H:Hp} {a b:Addr} {o u:HO} (h:H a=some o) (h':H b=some u) (d:o≠u):a≠b:=by
 intro e;subst e;rw[h]at h';exact d (Option.some.inj h')
theorem aE {H:Hp} {a b:Addr} {o:HO} (h:H a=some o) (h':H b=none):a≠b:=by
 intro e;subst e;rw[h]at h';cases h'
section
variable (P:Program) (w:World)
def ObjOk (H:Hp) (h:Heap) (a:Addr):HO->Prop
 | .lst xs=>xs.length<=sizeLine/\∃(its:List Value) (n:Nat),Vals xs its/\h.get? a=some {cls:=.type "list",data:=.seq its.toArray n }
 | .tup xs=>xs.length<=sizeLine/\∃its:List Value,Vals xs its/\IsTup h a its.toArray
 | .dK kvs=>kvs.length<=sizeLine/\(a == sysModules)=false/\∃vs,KV kvs vs/\h.DictOf (aV P w) a vs
 | .dT kvs=>kvs.length<=sizeLine/\(a == sysModules)=false/\∃xs:List (List aT × Addr × Value),
   Paired (fun(p:List aT × V) (q:List aT × Addr × Value)=>p.1=q.1/\H q.2.1=some (.tup (p.1.map kV))/\RelV p.2 q.2.2) kvs xs ∧
   ∃o es ep,h.get? a=some o/\o.ExactDict/\o.data=.dict es ep/\es.toList=xs.map (entryOfKey (tupleKind (aV P w)))/\(xs.map (·.1)).Nodup
 | .set S n=>h.SetOf (intKind P w) a S n
 | .ins C dx fs=>H dx=some (.own a)/\fs.length<=1000/\dx≠a/\h.get? a=some (W.instObj C dx) ∧
   ∃mA,h.Ns1 dx mA/\(∀f,RelO (fs.lookup f) (mA f))/\PySem.Within mA (fs.map (·.1))
 | .own _=>∃o,h.get? a=some o
 | .xd fs=>∃mA,h.Ns1 a mA/\∀f,RelO (fs.lookup f) (mA f)
 | .rng lo hi=>∃t u v,h.get? a=some {cls:=.type "range",data:=.fields #[.int lo t,.int hi u,.int 1 v] }
 | .frz o u=>h.get? a=some o/\ObjOk H h a u
 | .tbl ps=>h.get? a=some {cls:=.none,data:=.fields ps }
 | .met f x=>h.get? a=some (W.methodObj (.ref f) (.ref x))
 | .ext φ=>φ h/\(∃o,h.get? a=some o)/\∀h1 h2:Heap,φ h1->(∀o,h1.get? a=some o->h2.get? a=some o)->φ h2
def HOk (H:Hp) (h:Heap):Prop:=∀a o,H a=some o->ObjOk P w H h a o
end
section
variable {P:Program} {w:World} {H H':Hp} {h h':Heap} {a:Addr} {o:HO}
theorem ObjOk.lt (x:ObjOk P w H h a o):a<h.objs.size:=by
 cases o with
 | lst xs=>obtain⟨_,_,_,_,e⟩:=x;exact Heap.lt_size e
 | tup xs=>obtain⟨_,_,_,p⟩:=x;exact p.lt
 | dK kvs=>obtain⟨_,_,_,_,o,_,_,e,_⟩:=x;exact Heap.lt_size e
 | dT kvs=>obtain⟨_,_,_,_,o,_,_,e,_⟩:=x;exact Heap.lt_size e
 | set S n=>obtain⟨o,_,_,_,e,_⟩:=x;exact Heap.lt_size e
 | ins C dx fs=>obtain⟨_,_,_,e,_⟩:=x;exact Heap.lt_size e
 | own y=>obtain⟨_,e⟩:=x;exact Heap.lt_size e
 | xd fs=>obtain⟨_,⟨_,_,_,e,_⟩,_⟩:=x;exact Heap.lt_size e
 | rng lo hi=>obtain⟨_,_,_,e⟩:=x;exact Heap.lt_size e
 | frz ob u=>obtain⟨e,_⟩:=x;exact Heap.lt_size e
 | tbl ps=>exact Heap.lt_size (show h.get? a=some _ from x)
 | met f y=>exact Heap.lt_size (show h.get? a=some _ from x)
 | ext φ=>obtain⟨_,⟨_,e⟩,_⟩:=x;exact Heap.lt_size e
theorem Paired.mapP {α β:Type} {F G:α->β->Prop}:∀ {l₁:List α} {l₂:List β},Paired F l₁ l₂->(∀a b,F a b->G a b)->Paired G l₁ l₂
 | _,_,.nil,_=>.nil
 | _,_,.cons r t,f=>.cons (f _ _ r) (Paired.mapP t f)
theorem ObjOk.stay (x:ObjOk P w H h a o) (k:∀b u,(b=a∨H b=some (.own a))->h.get? b=some u->h'.get? b=some u)
  (ho:∀b,H b=some (.own a)->H' b=some (.own a)) (ht:∀b xs,H b=some (.tup xs)->H' b=some (.tup xs)):ObjOk P w H' h' a o:=by
 induction o with
 | lst xs=>obtain⟨z,its,n,r,e⟩:=x;exact⟨z,its,n,r,k _ _ (.inl rfl) e⟩
 | tup xs=>obtain⟨z,its,r,ob,e,c⟩:=x;exact⟨z,its,r,ob,k _ _ (.inl rfl) e,c⟩
 | dK kvs=>obtain⟨z,y,vs,r,ob,es,ep,e,c⟩:=x;exact⟨z,y,vs,r,ob,es,ep,k _ _ (.inl rfl) e,c⟩
 | dT kvs=>
  obtain⟨z,y,xs,r,ob,es,ep,e,c⟩:=x
  exact⟨z,y,xs,Paired.mapP r fun p q z=>⟨z.1,ht _ _ z.2.1,z.2.2⟩,ob,es,ep,k _ _ (.inl rfl) e,c⟩
 | set S n=>obtain⟨ob,es,ep,t,e,c⟩:=x;exact⟨ob,es,ep,t,k _ _ (.inl rfl) e,c⟩
 | ins C dx fs=>
  obtain⟨d,z,ne,e,mA,⟨od,es,ep,e2,c⟩,r⟩:=x
  exact⟨ho _ d,z,ne,k _ _ (.inl rfl) e,mA,⟨od,es,ep,k _ _ (.inr d) e2,c⟩,r⟩
 | own y=>obtain⟨ob,e⟩:=x;exact⟨ob,k _ _ (.inl rfl) e⟩
 | xd fs=>obtain⟨mA,⟨od,es,ep,e,c⟩,r⟩:=x;exact⟨mA,⟨od,es,ep,k _ _ (.inl rfl) e,c⟩,r⟩
 | rng lo hi=>obtain⟨t,u,v,e⟩:=x;exact⟨t,u,v,k _ _ (.inl rfl) e⟩
 | frz ob u ih=>obtain⟨e,q⟩:=x;exact⟨k _ _ (.inl rfl) e,ih q⟩
 | tbl ps=>
  have e:h.get? a=some {cls:=.none,data:=.fields ps }:=x
  show h'.get? a=some {cls:=.none,data:=.fields ps }
  exact k a _ (.inl rfl) e
 | met f y=>
  have e:h.get? a=some (W.methodObj (.ref f) (.ref y)):=x
  show h'.get? a=some (W.methodObj (.ref f) (.ref y))
  exact k a _ (.inl rfl) e
 | ext φ=>obtain⟨p,⟨o,e⟩,st⟩:=x;exact⟨st _ _ p fun o q=>k _ _ (.inl rfl) q,⟨o,k _ _ (.inl rfl) e⟩,st⟩
theorem HOk.lt (x:HOk P w H h) (e:H a=some o):a<h.objs.size:=(x a o e).lt
theorem HOk.fresh (x:HOk P w H h) (e:h.objs.size<=a):H a=none:=by
 cases q:H a with
 | none=>rfl
 | some u=>exact absurd (Nat.lt_of_lt_of_le (x.lt q) e) (Nat.lt_irrefl _)
theorem HOk.kept (x:HOk P w H h) (k:∀b u,h.get? b=some u->h'.get? b=some u):HOk P w H h':=fun a o e=>
 (x a o e).stay (fun b u _ q=>k b u q) (fun _ q=>q) fun _ _ q=>q
theorem HOk.laid (x:HOk P w H h) (k:∀b u,h.get? b=some u->h'.get? b=some u) (hp:h.objs.size<=a) (new:ObjOk P w (aJ H a o) h' a o):HOk P w (aJ H a o) h':=fun b u e=>by
 have hn:=x.fresh hp
 by_cases hb:b=a
 ·subst hb;rw[aA]at e;cases e;exact new
 ·rw[aD hb]at e;exact(x b u e).stay (fun c v _ q=>k c v q) (fun c q=>by rw[aD (aE q hn)];exact q) fun c xs q=>by rw[aD (aE q hn)];exact q
end
def Rd (H:Hp) (a:Addr) (u:HO):Prop:=H a=some u∨∃o,H a=some (.frz o u)
theorem Rd.ok {P:Program} {w:World} {H:Hp} {h:Heap} {a:Addr} {u:HO} (r:Rd H a u) (x:HOk P w H h):ObjOk P w H h a u:=by
 rcases r with r | ⟨o,r⟩
 ·exact x a u r
 ·obtain⟨_,q⟩:=x a _ r
  exact q
def Vb:Option HO->Prop
 | some (.lst _)=>True
 | some (.dK _)=>True
 | some (.dT _)=>True
 | some (.set _ _)=>True
 | some (.ins _ _ _)=>True
 | some (.ext _)=>True
 | _=>False
section
variable {P:Program} {w:World} {H:Hp} {h h':Heap} {x e:Addr} {o':HO}
theorem HOk.write (ok:HOk P w H h) (mu:Vb (H x)) (he:e=x∨H e=some (.own x)) (k:∀b u,b≠e->h.get? b=some u->h'.get? b=some u) (heo:∃u,h'.get? e=some u)
  (new:ObjOk P w (aJ H x o') h' x o'):HOk P w (aJ H x o') h':=fun b u q=>by
 have nown:∀c y,H c=some (.own y)->c≠x:=fun c y r z=>by subst z;rw[r]at mu;exact mu
 have ntup:∀c xs,H c=some (.tup xs)->c≠x:=fun c xs r z=>by subst z;rw[r]at mu;exact mu
 by_cases hb:b=x
 ·subst hb;rw[aA]at q;cases q;exact new
 ·rw[aD hb]at q;by_cases hbe:b=e
  ·have q':H b=some (.own x):=by
    rcases he with z | z
    ·exact absurd (hbe.trans z) hb
    ·rw[hbe];exact z
   rw[q]at q';cases q'
   obtain⟨v,hv⟩:=heo
   exact⟨v,by rw[hbe];exact hv⟩
  ·refine(ok b u q).stay (fun c v hc r=>k c v ?_ r) (fun c r=>by rw[aD (nown c b r)];exact r) fun c xs r=>by rw[aD (ntup c xs r)];exact r
   rcases hc with rfl | hc
   ·exact hbe
   ·rintro rfl
    rcases he with z | z
    ·exact nown c b hc z
    ·rw[hc]at z;cases z;exact hb rfl
end
structure Un (fs ex:List Addr) (H H':Hp) (h h':Heap):Prop where
 keep:∀b o,h.get? b=some o->H b=none->b∉fs->b∉ex->h'.get? b=some o
 slot:∀b o,h.get? b=some o->H b=none->b∈fs->b∉ex->∃sl,h'.get? b=some {o with slots:=sl }
 free:∀b o,h.get? b=some o->H b=none->b∉ex->H' b=none
 there:∀b o,h.get? b=some o->b∉ex->∃o',h'.get? b=some o'
 tups:∀b xs,H b=some (.tup xs)->H' b=some (.tup xs)
 frzs:∀b o u,H b=some (.frz o u)->H' b=some (.frz o u)
 tbls:∀b ps,H b=some (.tbl ps)->∃more,H' b=some (.tbl (ps++more))
section
variable {fs fs' ex ex':List Addr} {H H1 H2:Hp} {h h1 h2 h':Heap} {a x e:Addr} {o:HO}
theorem Un.any (u:Un fs ex H H1 h h1) {b:Addr} {ob:Obj} (q:h.get? b=some ob) (n:H b=none) (hx:b∉ex):∃sl,h1.get? b=some {ob with slots:=sl }:=by
 by_cases hb:b∈fs
 ·exact u.slot b ob q n hb hx
 ·exact⟨ob.slots,u.keep b ob q n hb hx⟩
theorem Un.kept (k:∀b u,h.get? b=some u->h'.get? b=some u):Un fs ex H H h h':=
 ⟨fun b ob q _ _ _=>k b ob q,fun b ob q _ _ _=>⟨ob.slots,k b ob q⟩,fun _ _ _ n _=>n,fun b ob q _=>⟨ob,k b ob q⟩,fun _ _ q=>q,fun _ _ _ q=>q,fun _ ps q=>⟨#[],by rw[q];simp⟩⟩
theorem Un.refl:Un fs ex H H h h:=Un.kept fun _ _ q=>q
theorem Un.laid (k:∀b u,h.get? b=some u->h'.get? b=some u) (hp:h.objs.size<=a) (hn:H a=none):Un fs ex H (aJ H a o) h h' where
 keep:=fun b u q _ _ _=>k b u q
 slot:=fun b u q _ _ _=>⟨u.slots,k b u q⟩
 free:=fun b u q n _=>by rw[aD (Nat.ne_of_lt (Nat.lt_of_lt_of_le (Heap.lt_size q) hp))];exact n
 there:=fun b u q _=>⟨u,k b u q⟩
 tups:=fun b xs q=>by rw[aD (aE q hn)];exact q
 frzs:=fun b u xs q=>by rw[aD (aE q hn)];exact q
 tbls:=fun b ps q=>⟨#[],by rw[aD (aE q hn),q];simp⟩
theorem Un.write (mu:Vb (H x)) (he:e=x∨H e=some (.own x)) (k:∀b u,b≠e->h.get? b=some u->h'.get? b=some u) (heo:∃u,h'.get? e=some u):Un fs ex H (aJ H x o) h h':=by
 have hx:∀b,H b=none->b≠x:=fun b n z=>by subst z;rw[n]at mu;exact mu
 have hb:∀b,H b=none->b≠e:=fun b n z=>by
  subst z;rcases he with r | r
  ·exact hx b n r
  ·rw[n]at r;cases r
 have hm:∀b u,H b=some u->¬ Vb (some u)->b≠x:=fun b u q nm z=>by subst z;rw[q]at mu;exact nm mu
 refine⟨fun b u q n _ _=>k b u (hb b n) q,fun b u q n _ _=>⟨u.slots,k b u (hb b n) q⟩,fun b u q n _=>by rw[aD (hx b n)];exact n,fun b u q _=>?_,
  fun b xs q=>by rw[aD (hm b _ q fun z=>z)];exact q,fun b u xs q=>by rw[aD (hm b _ q fun z=>z)];exact q,fun b ps q=>⟨#[],by rw[aD (hm b _ q fun z=>z),q];simp⟩⟩
 by_cases hbe:b=e
 ·subst hbe;exact heo
 ·exact⟨u,k b u hbe q⟩
end
def Yd (h:Heap) (H:Hp):List Addr:=(List.range h.objs.size).filter fun a=>(H a).isSome
def sM (h:Heap) (H:Hp):Heap:=W.hideAll h (Yd h H)
theorem Bg (h:Heap) (H:Hp):(sM h H).objs.size=h.objs.size:=W.hideAll_size _ _
theorem Du {h:Heap} {H:Hp} {b:Addr} {o:Obj} (e:h.get? b=some o) (n:H b=none):(sM h H).get? b=some o:=
 W.hideAll_get _ e fun hm=>by
  have q:(H b).isSome=true:=(List.mem_filter.mp hm).2
  rw[n]at q;simp at q
theorem Jw {h:Heap} {H:Hp} {b:Addr} {o:Obj} (e:(sM h H).get? b=some o):h.get? b=some o/\H b=none:=by
 have e':h.get? b=some o:=W.of_hideAll (Yd h H) e
 refine⟨e',?_⟩
 cases q:H b with
 | none=>rfl
 | some x=>
  have hm:b∈Yd h H:=List.mem_filter.mpr ⟨List.mem_range.mpr (Heap.lt_size e'),by simp [q]⟩
  have z:(sM h H).get? b=none:=W.hideAll_none (Yd h H) hm
  rw[z]at e;cases e
end L2
namespace L2
open PySem PySem.Spec PyProof.Rows
structure Mod (K:W.Frag) (mg:Str->Option Value) (base:Heap):Prop where
 kin:K.In base
 glob:base.Ns mainGlobals mg
 blt:∃mb,base.Ns builtinsNs mb/\∀x:Str,x≠"__name__"->mb x=bootBuiltins x
 nolimit:base.NoLimit
structure Cx where
 prog:Program
 w:World
 K:W.Frag
 mg:Str->Option Value
 base:Heap
 A:Around
 N:List Str
 s₀:Shared
 H₀:Hp
 env:Env
 outer:List Env
 stack:List Env
 ex:List Addr
 fn:Str->Bool
 calm:Bool
 pn:List (Addr × Obj)
 xe:Value->Shared->Prop
def Dv (l:List Env):List Addr:=l.filterMap (·.frame)
abbrev Cx.fs (X:Cx):List Addr:=Dv X.outer
def Vc (sc:Scope) (x:Str):Prop:=sc.names.lookup x=some .local∨sc.names.lookup x=some .cell∨sc.names.lookup x=some .free
def On (sc:Scope) (x:Str):Prop:=sc.names.lookup x=some .local∨sc.names.lookup x=some .cell
def Yp (env:Env) (h:Heap) (m:Str->Option Value) (x:Str) (u:Value):Prop:=
 (env.kindOf x=some .local/\m x=some u)∨((env.kindOf x=some .cell∨env.kindOf x=some .free)/\∃c,env.cells.lookup x=some c/\h.IsCell c (some u))
structure Cx.Ok (X:Cx):Prop where
 mod:Mod X.K X.mg X.base
 kind:X.env.scope.kind=.function
 glob:X.env.globals=mainGlobals
 blt:X.env.builtins=builtinsNs
 above:X.s₀.heap.objs.size<=X.env.locals
 inj:∀x y c,X.env.cells.lookup x=some c->X.env.cells.lookup y=some c->x=y
 has:∀x,(X.env.kindOf x=some .cell∨X.env.kindOf x=some .free)->∃c,X.env.cells.lookup x=some c
 cab:∀x c,X.fn x=true->X.env.cells.lookup x=some c->X.s₀.heap.objs.size<=c
 hd:X.calm=true->X.A.handled=none
 frames:X.A.frames=some X.stack
 stk:X.stack=X.outer∨(X.stack=X.env::X.outer/\X.env.frame=some X.env.locals)
 exf:∀b∈X.ex,b≠X.env.locals/\∀x c,X.env.cells.lookup x=some c->c≠b
 bs:∀b o,X.base.get? b=some o->X.s₀.heap.get? b=some o/\X.H₀ b=none
 bsz:X.base.objs.size<=X.s₀.heap.objs.size
 noex:∀b o,X.base.get? b=some o->b∉X.ex
 exfs:∀b∈X.ex,b∉X.fs
 funs:X.s₀.heap.FunFrames X.base X.outer
 frf:∀b∈X.fs,X.H₀ b=none
structure Inv (X:Cx) (pins:List (Addr × Obj)) (σ:List (Option V)) (H:Hp) (s:Shared):Prop where
 ok:X.Ok
 os:s.os=X.s₀.os
 bare:AllBare s.gens
 base:Un X.fs X.ex X.H₀ H X.s₀.heap s.heap
 loc:∃m,s.heap.Ns X.env.locals m/\∀(i:Nat) (x:Str) (v:V),X.N[i]?=some x->σ[i]?=some (some v)->Vc X.env.scope x->∃u,RelV v u/\Yp X.env s.heap m x u
 cell:∀x c,X.env.cells.lookup x=some c->∃v,s.heap.IsCell c v
 free:H X.env.locals=none
 freeC:∀x c,X.env.cells.lookup x=some c->H c=none
 pin:∀p∈X.pn++pins,s.heap.get? p.1=some p.2/\H p.1=none/\p.1≠X.env.locals/\p.1∉X.fs/\∀v,p.2.data≠.cell v
 hok:HOk X.prog X.w H s.heap
 len:σ.length=X.N.length
section
variable {X:Cx} {pins:List (Addr × Obj)} {σ:List (Option V)} {H H':Hp} {s:Shared} {h':Heap}
theorem Cx.Ok.nofr (ok:X.Ok) {b:Addr} {o:Obj} (e:X.base.get? b=some o):b∉X.fs:=fun hb=>by
 have:=(ok.funs.mem hb).1
 rw[e]at this;cases this
theorem Inv.bs (I:Inv X pins σ H s):∀b o,X.base.get? b=some o->s.heap.get? b=some o/\H b=none:=fun b o e=>
 ⟨I.base.keep b o (I.ok.bs b o e).1 (I.ok.bs b o e).2 (I.ok.nofr e) (I.ok.noex b o e),I.base.free b o (I.ok.bs b o e).1 (I.ok.bs b o e).2 (I.ok.noex b o e)⟩
theorem Inv.bk (I:Inv X pins σ H s):∀b o,X.base.get? b=some o->s.heap.get? b=some o:=fun b o e=>(I.bs b o e).1
theorem Inv.mod (I:Inv X pins σ H s):Mod X.K X.mg X.base:=I.ok.mod
theorem Inv.kIn (I:Inv X pins σ H s):X.K.In s.heap:=I.ok.mod.kin.keeps I.bk
theorem Inv.fr (I:Inv X pins σ H s):∃m,Fr X.base X.env.locals s.heap m:=
 let ⟨m,hn,_⟩:=I.loc
 ⟨m,hn,I.bk,kK I.ok.bsz I.ok.above⟩
theorem Inv.lt (I:Inv X pins σ H s):X.env.locals<s.heap.objs.size:=let ⟨_,hn,_⟩:=I.loc;hn.lt
theorem Inv.sz (I:Inv X pins σ H s):X.s₀.heap.objs.size<=s.heap.objs.size:=kK I.ok.above (Nat.le_of_lt I.lt)
theorem Inv.nofs (I:Inv X pins σ H s) {a:Addr} (h:s.heap.objs.size<=a):a∉X.fs:=fun hb=>by
 obtain⟨_,o,ho,_⟩:=I.ok.funs.mem hb
 exact absurd (Nat.lt_of_lt_of_le (Heap.lt_size ho) (kK I.sz h)) (Nat.lt_irrefl _)
theorem Inv.cne (I:Inv X pins σ H s):∀x c,X.env.cells.lookup x=some c->c≠X.env.locals:=fun x c e z=>by
 obtain⟨v,o,ho,hd⟩:=I.cell x c e
 obtain⟨m,⟨o',es,ep,ho',hd',_⟩,_⟩:=I.loc
 rw[z,ho']at ho;cases ho;rw[hd']at hd;cases hd
theorem Inv.funs (I:Inv X pins σ H s):s.heap.FunFrames X.base X.outer:=by
 have all:∀(l:List Env),(∀b∈Dv l,b∈X.fs)->X.s₀.heap.FunFrames X.base l->s.heap.FunFrames X.base l:=by
  intro l;induction l with
  | nil=>intro _ _;trivial
  | cons env r ih=>
   intro hs hl;obtain⟨hk,⟨L,o,hf,hn,ho,hd⟩,hr⟩:=hl
   have hL:L∈X.fs:=hs L (by unfold Dv;rw[List.filterMap_cons,hf];exact kG)
   obtain⟨sl,e⟩:=I.base.slot L o ho (I.ok.frf L hL) hL fun z=>I.ok.exfs L z hL
   exact⟨hk,⟨L,_,hf,hn,e,hd⟩,ih (fun b hb=>hs b (by unfold Dv;rw[List.filterMap_cons,hf];exact nY _ hb)) hr⟩
 exact all X.outer (fun _ hb=>hb) I.ok.funs
theorem Inv.stack (I:Inv X pins σ H s):s.heap.FunFrames X.base X.stack:=by
 rcases I.ok.stk with e | ⟨e,hf⟩
 ·rw[e];exact I.funs
 ·rw[e];obtain⟨m,hn,_⟩:=I.loc
  refine .cons (by rw[I.ok.kind];decide) hf hn ?_ I.funs
  exact Heap.get?_none_of_le (kK I.ok.bsz I.ok.above)
theorem Inv.stkSub (I:Inv X pins σ H s):∀b∈Dv X.stack,b∈X.env.locals::X.fs:=fun b hb=>by
 rcases I.ok.stk with e | ⟨e,hf⟩
 ·rw[e]at hb;exact nY _ hb
 ·rw[e]at hb;unfold Dv at hb;rw[List.filterMap_cons,hf]at hb;exact hb
theorem Inv.stkFree (I:Inv X pins σ H s):∀b∈Dv X.stack,H b=none:=fun b hb=>by
 rcases List.mem_cons.mp (I.stkSub b hb) with e | hb
 ·rw[e];exact I.free
 ·obtain⟨_,o,ho,_⟩:=I.ok.funs.mem hb
  exact I.base.free b o ho (I.ok.frf b hb) fun z=>I.ok.exfs b z hb
theorem Inv.step {g':Array GenState} {t':Nat} {d':Drawn} {ch:List Addr} (I:Inv X pins σ H s)
  (hch:∀b∈ch,(b∈X.ex∨X.s₀.heap.objs.size<=b)/\b≠X.env.locals/\(∀x c,X.env.cells.lookup x=some c->c≠b)/\∀p∈X.pn++pins,p.1≠b)
  (keep:∀b o,b≠X.env.locals->b∉X.fs->b∉ch->s.heap.get? b=some o->H b=none->h'.get? b=some o)
  (slot:∀b o,b≠X.env.locals->b∈X.fs->b∉ch->s.heap.get? b=some o->H b=none->∃sl,h'.get? b=some {o with slots:=sl }) (free:∀b o,b∉ch->s.heap.get? b=some o->H b=none->H' b=none)
  (there:∀b o,b∉ch->s.heap.get? b=some o->∃o',h'.get? b=some o')
  (tups:∀b xs,H b=some (.tup xs)->H' b=some (.tup xs)) (frzs:∀b o u,H b=some (.frz o u)->H' b=some (.frz o u)) (tbls:∀b ps,H b=some (.tbl ps)->∃more,H' b=some (.tbl (ps++more)))
  (ns:∀m,s.heap.Ns X.env.locals m->h'.Ns X.env.locals m) (hok:HOk X.prog X.w H' h') (hg:AllBare g') :
  Inv X pins σ H' {s with heap:=h',gens:=g',drawn:=d',toks:=t' }:=by
 have neL:∀b o,X.s₀.heap.get? b=some o->b≠X.env.locals:=fun b o e=>Nat.ne_of_lt (Nat.lt_of_lt_of_le (Heap.lt_size e) I.ok.above)
 have neC:∀b o,X.s₀.heap.get? b=some o->b∉X.ex->b∉ch:=fun b o e hx hb=>by
  rcases(hch b hb).1 with z | z
  ·exact hx z
  ·exact absurd (Nat.lt_of_lt_of_le (Heap.lt_size e) z) (Nat.lt_irrefl _)
 have cellK:∀x c,X.env.cells.lookup x=some c->∀v,s.heap.IsCell c v->h'.IsCell c v:=fun x c e v ⟨o,ho,hd⟩=>by
  have nch:c∉ch:=fun z=>(hch c z).2.2.1 x c e rfl
  by_cases hc:c∈X.fs
  ·obtain⟨sl,q⟩:=slot c o (I.cne x c e) hc nch ho (I.freeC x c e)
   exact⟨_,q,hd⟩
  ·exact⟨o,keep c o (I.cne x c e) hc nch ho (I.freeC x c e),hd⟩
 refine⟨I.ok,I.os,hg,⟨fun b o e n hb hx=>?_,fun b o e n hb hx=>?_,fun b o e n hx=>?_,fun b o e hx=>?_,fun b xs e=>tups b xs (I.base.tups b xs e),fun b o xs e=>frzs b o xs (I.base.frzs b o xs e),fun b ps e=>?_⟩,?_,fun x c e=>?_,?_,fun x c e=>?_,fun p hp=>?_,hok,I.len⟩
 ·exact keep b o (neL b o e) hb (neC b o e hx) (I.base.keep b o e n hb hx) (I.base.free b o e n hx)
 ·obtain⟨sl,e1⟩:=I.base.slot b o e n hb hx
  obtain⟨sl',e2⟩:=slot b _ (neL b o e) hb (neC b o e hx) e1 (I.base.free b o e n hx)
  exact⟨sl',e2⟩
 ·obtain⟨o',e1⟩:=I.base.there b o e hx
  exact free b o' (neC b o e hx) e1 (I.base.free b o e n hx)
 ·obtain⟨o',e1⟩:=I.base.there b o e hx
  exact there b o' (neC b o e hx) e1
 ·obtain⟨m1,e1⟩:=I.base.tbls b ps e
  obtain⟨m2,e2⟩:=tbls b _ e1
  exact⟨m1++m2,by rw[e2,Array.append_assoc]⟩
 ·obtain⟨m,hn,hl⟩:=I.loc
  refine⟨m,ns m hn,fun i x v e1 e2 e3=>?_⟩
  obtain⟨u,r,l⟩:=hl i x v e1 e2 e3
  refine⟨u,r,?_⟩
  rcases l with l | ⟨k,c,e,z⟩
  ·exact .inl l
  ·exact .inr ⟨k,c,e,cellK x c e _ z⟩
 ·obtain⟨v,z⟩:=I.cell x c e
  exact⟨v,cellK x c e v z⟩
 ·obtain⟨m,⟨o,_,_,ho,_⟩,_⟩:=I.loc
  exact free _ o (fun z=>(hch _ z).2.1 rfl) ho I.free
 ·obtain⟨v,o,ho,hd⟩:=I.cell x c e
  exact free c o (fun z=>(hch c z).2.2.1 x c e rfl) ho (I.freeC x c e)
 ·obtain⟨e,n,ne,nf,d⟩:=I.pin p hp
  have nch:p.1∉ch:=fun z=>(hch p.1 z).2.2.2 p hp rfl
  exact⟨keep p.1 p.2 ne nf nch e n,free p.1 p.2 nch e n,ne,nf,d⟩
theorem Inv.un {t':Nat} (I:Inv X pins σ H s) (u:Un X.fs [] H H' s.heap h') (hok:HOk X.prog X.w H' h'):Inv X pins σ H' {s with heap:=h',toks:=t' }:=by
 obtain⟨m,⟨o,es,ep,ho,r⟩,_⟩:=id I.loc
 obtain⟨sl,hL⟩:=u.any ho I.free Zs
 exact I.step (g':=s.gens) (d':=s.drawn) (ch:=[]) (fun _ z=>nomatch z) (fun b o _ hb _ e n=>u.keep b o e n hb Zs) (fun b o _ hb _ e n=>u.slot b o e n hb Zs) (fun b o _ e n=>u.free b o e n Zs) (fun b o _ e=>u.there b o e Zs) u.tups u.frzs u.tbls (fun m' hm=>by
  obtain⟨o',es',ep',ho',r'⟩:=hm
  rw[ho]at ho';cases ho'
  exact⟨_,es',ep',hL,r'⟩) hok I.bare
theorem Inv.call {g':Array GenState} {t':Nat} {d':Drawn} {ch:List Addr} (I:Inv X pins σ H s) (u:Un (Dv X.stack) ch H H' s.heap h') (hok:HOk X.prog X.w H' h') (hg:AllBare g')
  (hch:∀b∈ch,(b∈X.ex∨X.s₀.heap.objs.size<=b)/\b≠X.env.locals/\(∀x c,X.env.cells.lookup x=some c->c≠b)/\∀p∈X.pn++pins,p.1≠b) :
  Inv X pins σ H' {s with heap:=h',gens:=g',drawn:=d',toks:=t' }:=by
 obtain⟨m,⟨o,es,ep,ho,r⟩,_⟩:=id I.loc
 obtain⟨sl,hL⟩:=u.any ho I.free fun z=>(hch _ z).2.1 rfl
 exact I.step (ch:=ch) hch (fun b o hL hb hc e n=>u.keep b o e n (fun z=>(List.mem_cons.mp (I.stkSub b z)).elim hL hb) hc) (fun b o _ _ hc e n=>u.any e n hc) (fun b o hc e n=>u.free b o e n hc) (fun b o hc e=>u.there b o e hc) u.tups u.frzs u.tbls (fun m' hm=>by
  obtain⟨o',es',ep',ho',r'⟩:=hm
  rw[ho]at ho';cases ho'
  exact⟨_,es',ep',hL,r'⟩) hok hg
theorem Inv.turned {t':Nat} {it:Addr} (I:Inv X pins σ H s) (k:∀b o,b≠it->s.heap.get? b=some o->h'.get? b=some o) (hn:H it=none) (hL:it≠X.env.locals)
  (h1:it∈X.ex∨X.s₀.heap.objs.size<=it) (h2:∀x c,X.env.cells.lookup x=some c->c≠it) (h3:∀p∈X.pn++pins,p.1≠it):Inv X pins σ H {s with heap:=h',toks:=t' }:=by
 have nit:∀b u,H b=some u->b≠it:=fun b u e z=>by rw[z,hn]at e;cases e
 refine I.step (g':=s.gens) (d':=s.drawn) (ch:=[it]) (fun b hb=>?_) (fun b o _ _ hc e _=>k b o (fun z=>hc (by simp [z])) e) (fun b o _ _ hc e _=>⟨o.slots,k b o (fun z=>hc (by simp [z])) e⟩) (fun _ _ _ _ n=>n)
  (fun b o hc e=>⟨o,k b o (fun z=>hc (by simp [z])) e⟩) (fun _ _ e=>e) (fun _ _ _ e=>e) (fun b ps e=>⟨#[],by rw[e];simp⟩) (fun m hm=>?_) (fun b u e=>?_) I.bare
 ·have e:b=it:=by simpa using hb
  subst e;exact⟨h1,hL,h2,h3⟩
 ·obtain⟨o,es,ep,ho,r⟩:=hm
  exact⟨o,es,ep,k _ o (Ne.symm hL) ho,r⟩
 ·refine(I.hok b u e).stay (fun c v hc q=>k c v ?_ q) (fun _ q=>q) fun _ _ q=>q
  rcases hc with z | z
  ·rw[z];exact nit b u e
  ·exact nit c _ z
theorem Inv.tok (I:Inv X pins σ H s) (t:Nat):Inv X pins σ H {s with toks:=t }:=I.un (h':=s.heap) (t':=t) Un.refl I.hok
theorem Inv.kept {t':Nat} (I:Inv X pins σ H s) (k:∀b u,s.heap.get? b=some u->h'.get? b=some u):Inv X pins σ H {s with heap:=h',toks:=t' }:=I.un (Un.kept k) (I.hok.kept k)
theorem Inv.laid {a:Addr} {o:HO} {t':Nat} (I:Inv X pins σ H s) (k:∀b u,s.heap.get? b=some u->h'.get? b=some u) (hp:s.heap.objs.size<=a) (new:ObjOk X.prog X.w (aJ H a o) h' a o) :
  Inv X pins σ (aJ H a o) {s with heap:=h',toks:=t' }:=I.un (Un.laid k hp (I.hok.fresh hp)) (I.hok.laid k hp new)
theorem Inv.write {x e:Addr} {o:HO} {t':Nat} (I:Inv X pins σ H s) (mu:Vb (H x)) (he:e=x∨H e=some (.own x)) (k:∀b u,b≠e->s.heap.get? b=some u->h'.get? b=some u) (heo:∃u,h'.get? e=some u)
  (new:ObjOk X.prog X.w (aJ H x o) h' x o):Inv X pins σ (aJ H x o) {s with heap:=h',toks:=t' }:=I.un (Un.write mu he k heo) (I.hok.write mu he k heo new)
theorem Inv.weak {σ':List (Option V)} (I:Inv X pins σ H s) (hl:σ'.length=σ.length) (w:∀(i:Nat) v,σ'[i]?=some (some v)->σ[i]?=some (some v)):Inv X pins σ' H s:=
 ⟨I.ok,I.os,I.bare,I.base,let ⟨m,hn,hl'⟩:=I.loc;⟨m,hn,fun i x v e1 e2 e3=>hl' i x v e1 (w i v e2) e3⟩,I.cell,I.free,I.freeC,I.pin,I.hok,hl.trans I.len⟩
theorem Inv.pins_of {pins':List (Addr × Obj)} (I:Inv X pins σ H s) (h:∀p∈pins',s.heap.get? p.1=some p.2/\H p.1=none/\p.1≠X.env.locals/\p.1∉X.fs/\∀v,p.2.data≠.cell v):Inv X pins' σ H s:=
 ⟨I.ok,I.os,I.bare,I.base,I.loc,I.cell,I.free,I.freeC,fun p hp=>(Zma.mp hp).elim (fun z=>I.pin p (List.mem_append_left _ z)) (h p),I.hok,I.len⟩
theorem uU {N:List Str} (hN:N.Nodup) {i j:Nat} {x:Str} (a:N[i]?=some x) (b:N[j]?=some x):i=j:=by
 obtain⟨h1,e1⟩:=Zgs.mp a
 obtain⟨h2,e2⟩:=Zgs.mp b
 exact(List.getElem_inj hN).mp (e1.trans e2.symm)
theorem rB {M:Model} {A:Around} {E:Value->Shared->Prop} {i:Nat} {x:Str} {v:V} {u:Value} {Q:Unit->Shared->Prop} (I:Inv X pins σ H s) (hN:X.N.Nodup) (hi:X.N[i]?=some x) (hx:On X.env.scope x) (r:RelV v u)
  (h:∀s',Inv X pins (σ.set i (some v)) H s'->(∃a,Heap.SameBut a s.heap s'.heap/\(a=X.env.locals∨X.env.cells.lookup x=some a))->Q () s') (hf:X.fn x=true∨X.env.scope.names.lookup x=some .local:=by first | exact .inl rfl | exact .inr rfl | assumption):wpAny M A (storeName X.env x u) Q E s:=by
 obtain⟨m,hn,hl⟩:=id I.loc
 have hcls:(X.env.scope.kind == .class||(X.env.scope.kind == .module&&X.env.locals != X.env.globals))=false:=by rw[I.ok.kind];rfl
 have hiσ:i<σ.length:=by rw[I.len];exact(Zgs.mp hi).1
 have cne:=I.cne
 have tracked:∀ {a:Addr} {h':Heap},(∃o,s.heap.get? a=some o/\H a=none)->Heap.SameBut a s.heap h'->HOk X.prog X.w H h':=fun {a h'} ha hs b ob e=>by
  obtain⟨_,_,hfree⟩:=ha
  refine(I.hok b ob e).stay (fun c w' hc q=>(hs.2 c ?_).trans q) (fun _ q=>q) fun _ _ q=>q
  rintro rfl
  rcases hc with rfl | hc
  ·rw[hfree]at e;cases e
  ·rw[hfree]at hc;cases hc
 rcases hx with hk | hk
 ·refine wpAny_storeName_local hk hn (fun h' hn' hs=>?_) hcls
  obtain⟨oL,_,_,hoL,_⟩:=id hn
  refine h _ ⟨I.ok,I.os,I.bare,⟨fun b o e n hb hx=>?_,fun b o e n hb hx=>?_,I.base.free,fun b o e hx=>?_,I.base.tups,I.base.frzs,I.base.tbls⟩,⟨_,hn',fun j y v' e1 e2 e3=>?_⟩,fun y c e=>?_,I.free,I.freeC,fun p hp=>?_,tracked ⟨oL,hoL,I.free⟩ hs,by simpa using I.len⟩ ⟨_,hs,.inl rfl⟩
  ·exact(hs.2 b (Nat.ne_of_lt (Nat.lt_of_lt_of_le (Heap.lt_size e) I.ok.above))).trans (I.base.keep b o e n hb hx)
  ·obtain⟨sl,e1⟩:=I.base.slot b o e n hb hx
   exact⟨sl,(hs.2 b (Nat.ne_of_lt (Nat.lt_of_lt_of_le (Heap.lt_size e) I.ok.above))).trans e1⟩
  ·obtain⟨o',e1⟩:=I.base.there b o e hx
   exact⟨o',(hs.2 b (Nat.ne_of_lt (Nat.lt_of_lt_of_le (Heap.lt_size e) I.ok.above))).trans e1⟩
  ·by_cases hj:j=i
   ·subst hj;rw[hi]at e1;cases e1
    rw[List.getElem?_set_self hiσ]at e2;cases e2
    exact⟨u,r,.inl ⟨hk,Zs⟩⟩
   ·rw[List.getElem?_set_ne (Ne.symm hj)]at e2;obtain⟨u',r',q⟩:=hl j y v' e1 e2 e3
    refine⟨u',r',?_⟩
    rcases q with⟨k,e⟩ | ⟨k,c,e,z⟩
    ·refine .inl ⟨k,?_⟩
     have:y≠x:=fun e=>hj (uU hN e1 (e ▸ hi))
     simp [this,e]
    ·exact .inr ⟨k,c,e,z.sameBut hs (cne y c e)⟩
  ·obtain⟨w',z⟩:=I.cell y c e
   exact⟨w',z.sameBut hs (cne y c e)⟩
  ·obtain⟨e,n,ne,nf,d⟩:=I.pin p hp
   exact⟨(hs.2 p.1 ne).trans e,n,ne,nf,d⟩
 ·have hfn:X.fn x=true:=by
   rcases hf with z | z
   ·exact z
   ·rw[z]at hk;cases hk
  obtain⟨c,hc⟩:=I.ok.has x (.inl hk)
  obtain⟨w',z⟩:=I.cell x c hc
  refine wpAny_storeName_cell I.ok.kind hk hc z (fun h' hc' hs=>?_)
  obtain⟨oc,hoc,hocd⟩:=id z
  refine h {s with heap:=h' } ⟨I.ok,I.os,I.bare,⟨fun b o e n hb hx=>?_,fun b o e n hb hx=>?_,I.base.free,fun b o e hx=>?_,I.base.tups,I.base.frzs,I.base.tbls⟩,⟨m,hn.sameBut hs (Ne.symm (cne x c hc)),fun j y v' e1 e2 e3=>?_⟩,fun y c' e=>?_,I.free,I.freeC,fun p hp=>?_,tracked ⟨oc,hoc,I.freeC x c hc⟩ hs,by simpa using I.len⟩ ⟨c,hs,.inr hc⟩
  ·exact(hs.2 b (Nat.ne_of_lt (Nat.lt_of_lt_of_le (Heap.lt_size e) (I.ok.cab x c hfn hc)))).trans (I.base.keep b o e n hb hx)
  ·obtain⟨sl,e1⟩:=I.base.slot b o e n hb hx
   exact⟨sl,(hs.2 b (Nat.ne_of_lt (Nat.lt_of_lt_of_le (Heap.lt_size e) (I.ok.cab x c hfn hc)))).trans e1⟩
  ·obtain⟨o',e1⟩:=I.base.there b o e hx
   exact⟨o',(hs.2 b (Nat.ne_of_lt (Nat.lt_of_lt_of_le (Heap.lt_size e) (I.ok.cab x c hfn hc)))).trans e1⟩
  ·by_cases hj:j=i
   ·subst hj;rw[hi]at e1;cases e1
    rw[List.getElem?_set_self hiσ]at e2;cases e2
    exact⟨u,r,.inr ⟨.inl hk,c,hc,hc'⟩⟩
   ·rw[List.getElem?_set_ne (Ne.symm hj)]at e2;obtain⟨u',r',q⟩:=hl j y v' e1 e2 e3
    refine⟨u',r',?_⟩
    rcases q with q | ⟨k,c',e,z'⟩
    ·exact .inl q
    ·refine .inr ⟨k,c',e,z'.sameBut hs ?_⟩
     rintro rfl
     exact hj (uU hN e1 (I.ok.inj _ _ _ e hc ▸ hi))
  ·by_cases hcc:c'=c
   ·subst hcc;exact⟨_,hc'⟩
   ·obtain⟨w2,z2⟩:=I.cell y c' e
    exact⟨w2,z2.sameBut hs hcc⟩
  ·obtain⟨e,n,ne,nf,d⟩:=I.pin p hp
   refine⟨(hs.2 p.1 ?_).trans e,n,ne,nf,d⟩
   intro q;rw[q,hoc]at e;have q':oc=p.2:=Option.some.inj e
   exact d w' (by rw[<- q'];exact hocd)
theorem uV {M:Model} {A:Around} {E:Value->Shared->Prop} {i:Nat} {x:Str} {v:V} {u:Value} {Q:Unit->Shared->Prop} (I:Inv X pins σ H s) (hN:X.N.Nodup) (hi:X.N[i]?=some x) (hx:On X.env.scope x) (r:RelV v u)
  (h:∀s',Inv X pins (σ.set i (some v)) H s'->Q () s') (hf:X.fn x=true∨X.env.scope.names.lookup x=some .local:=by first | exact .inl rfl | exact .inr rfl | assumption):wpAny M A (storeName X.env x u) Q E s:=
 rB I hN hi hx r (fun s' I' _=>h s' I') hf
theorem Inv.call' {s':Shared} {ch:List Addr} (I:Inv X pins σ H s) (ho:s'.os=s.os) (u:Un (Dv X.stack) ch H H' s.heap s'.heap) (hok:HOk X.prog X.w H' s'.heap) (hg:AllBare s'.gens)
  (hch:∀b∈ch,(b∈X.ex∨X.s₀.heap.objs.size<=b)/\b≠X.env.locals/\(∀x c,X.env.cells.lookup x=some c->c≠b)/\∀p∈X.pn++pins,p.1≠b):Inv X pins σ H' s':=by
 obtain⟨h',g',d',t',o'⟩:=s'
 have e:o'=s.os:=ho
 subst e;exact I.call (g':=g') (t':=t') (d':=d') u hok hg hch
end
abbrev XK:=Value->Option Addr->Hp->Prop
abbrev St:=List (Option V)
abbrev VK:=V->Hp->Prop
abbrev TE:=St->Hp->VK->Prop
abbrev TT:=St->Hp->(Bool->Hp->Prop)->Prop
abbrev TA:=St->Hp->(List V->Hp->Prop)->Prop
structure nS where
 nx:St->Hp->Prop
 rt:VK
 bk:St->Hp->Prop:=fun _ _=>False
 ct:St->Hp->Prop:=fun _ _=>False
abbrev TS:=nS->St->Hp->Prop
def EP (X:Cx) (pins:List (Addr × Obj)) (σ:St) (Q:VK) (u:Value) (s':Shared):Prop:=∃v H',Inv X pins σ H' s'/\RelV v u/\Q v H'
def TP (X:Cx) (pins:List (Addr × Obj)) (σ:St) (Q:Bool->Hp->Prop) (b:Bool) (s':Shared):Prop:=∃H',Inv X pins σ H' s'/\Q b H'
def AP (X:Cx) (pins:List (Addr × Obj)) (σ:St) (Q:List V->Hp->Prop) (us:List Value) (s':Shared):Prop:=∃vs H',Inv X pins σ H' s'/\Vals vs us/\Q vs H'
def SP (X:Cx) (pins:List (Addr × Obj)) (D:nS) (f:Flow) (s':Shared):Prop:=
 match f with
 | .next=>∃ σ' H',Inv X pins σ' H' s'/\D.nx σ' H'
 | .brk=>∃ σ' H',Inv X pins σ' H' s'/\D.bk σ' H'
 | .cont=>∃ σ' H',Inv X pins σ' H' s'/\D.ct σ' H'
 | .ret u=>∃v σ' H',Inv X pins σ' H' s'/\RelV v u/\D.rt v H'
def PE (X:Cx) (e:Expr) (t:TE):Prop:=
 ∀(pins:List (Addr × Obj)) (s:Shared) (σ:St) (H:Hp) (Q:VK),Inv X pins σ H s->t σ H Q->wpAny (model X.prog X.w) X.A (eval e X.env) (EP X pins σ Q) X.xe s
def PT (X:Cx) (e:Expr) (t:TT):Prop:=
 ∀(pins:List (Addr × Obj)) (s:Shared) (σ:St) (H:Hp) (Q:Bool->Hp->Prop),Inv X pins σ H s->t σ H Q->wpAny (model X.prog X.w) X.A (isTrue e X.env (eval e X.env)) (TP X pins σ Q) X.xe s
def PW (X:Cx) (e:Expr) (t:TT):Prop:=
 ∀(whole:Sem Value) (pins:List (Addr × Obj)) (s:Shared) (σ:St) (H:Hp) (Q:Bool->Hp->Prop),Inv X pins σ H s->t σ H Q->wpAny (model X.prog X.w) X.A (isTrue e X.env whole) (TP X pins σ Q) X.xe s
theorem PW.pt {X:Cx} {e:Expr} {t:TT} (h:PW X e t):PT X e t:=h _
def PA (X:Cx) (es:List Expr) (t:TA):Prop:=
 ∀(pos:Pos) (pins:List (Addr × Obj)) (s:Shared) (σ:St) (H:Hp) (Q:List V->Hp->Prop),Inv X pins σ H s->t σ H Q->wpAny (model X.prog X.w) X.A (spliced (backTo pos (starEach es X.env))) (AP X pins σ Q) X.xe s
def PS (X:Cx) (st:Stmt) (t:TS):Prop:=
 ∀(pins:List (Addr × Obj)) (s:Shared) (σ:St) (H:Hp) (D:nS),Inv X pins σ H s->t D σ H->wpAny (model X.prog X.w) X.A (exec st X.env) (SP X pins D) X.xe s
def PSs (X:Cx) (st:List Stmt) (t:TS):Prop:=
 ∀(pins:List (Addr × Obj)) (s:Shared) (σ:St) (H:Hp) (D:nS),Inv X pins σ H s->t D σ H->wpAny (model X.prog X.w) X.A (execs st X.env) (SP X pins D) X.xe s
theorem bV {α:Type} {t:Sem α} {Q Q':α->Shared->Prop} {M:Model} {A:Around} {E:Value->Shared->Prop} {s:Shared} (h:wpAny M A t Q E s) (hQ:∀a s,Q a s->Q' a s):wpAny M A t Q' E s:=wpAny_mono h hQ fun _ _ x=>x
end L2
namespace L2
open PySem PySem.Spec PyProof.Rows
section
variable {X:Cx}
theorem bin {a b:Expr} {ta tb:TE} (ha:PE X a ta) (hb:PE X b tb) {pins:List (Addr × Obj)} {s:Shared} {σ:St} {H:Hp} {R:V->V->Hp->Prop} (I:Inv X pins σ H s) (h:ta σ H fun x H1=>tb σ H1 fun y H2=>R x y H2)
  {α:Type} {Q:α->Shared->Prop} {f:Value->Value->Sem α}
  (hf:∀v u s2 x y H2,Inv X pins σ H2 s2->RelV x v->RelV y u->R x y H2->wpAny (model X.prog X.w) X.A (f v u) Q X.xe s2) :
  wpAny (model X.prog X.w) X.A (eval a X.env) (fun v s₁=>wpAny (model X.prog X.w) X.A (eval b X.env) (fun u s₂=>wpAny (model X.prog X.w) X.A (f v u) Q X.xe s₂) X.xe s₁) X.xe s:=by
 refine bV (ha pins s σ H _ I h) fun v s1 ⟨x,H1,I1,r1,q1⟩=>?_
 refine bV (hb pins s1 σ H1 _ I1 q1) fun u s2 ⟨y,H2,I2,r2,q2⟩=>?_
 exact hf v u s2 x y H2 I2 r1 r2 q2
def Qi (i:Nat):TE:=fun σ H Q=>∃v,σ[i]?=some (some v)/\Q v H
def tC (v:V):TE:=fun _ H Q=>Q v H
theorem Qj {i:Nat} {x:Str} {pos:Pos} (hN:X.N[i]?=some x) (hv:Vc X.env.scope x) (hd:(x == ("__debug__":Str))=false:=by decide) (hcd:(x == ("__classdict__":Str))=false:=by decide):PE X (.Name x pos) (Qi i):=by
 intro pins s σ H Q I h;obtain⟨v,e,h⟩:=h
 obtain⟨m,hn,hl⟩:=I.loc
 obtain⟨u,r,l⟩:=hl i x v hN e hv
 have fin:EP X pins σ Q u s:=⟨v,H,I,r,h⟩
 rcases l with⟨hk,hm⟩ | ⟨hk,c,hc,hcell⟩
 ·exact wpAny_Name (wpAny_loadName_local I.ok.kind hk hn hm fin) hd
 ·rcases hk with hk | hk
  ·exact wpAny_Name (wpAny_loadName_cell I.ok.kind hk hc hcell fin) hd
  ·exact wpAny_Name (wpAny_loadName_free I.ok.kind hk hc hcell fin hcd) hd
theorem Qk {i j pos}:PE X (.Constant (.int i) j pos) (tC (.int i)):=fun _ _ _ H _ I h=>wpAny_Constant_int ⟨.int i,H,I.tok _,⟨_,rfl⟩,h⟩
theorem Vd {b j pos}:PE X (.Constant (.bool b) j pos) (tC (.bl b)):=fun _ _ _ H _ I h=>Constant_bool ⟨.bl b,H,I,rfl,h⟩
theorem Ql {j pos}:PE X (.Constant .none j pos) (tC .non):=fun _ _ _ H _ I h=>Constant_none ⟨.non,H,I,rfl,h⟩
theorem Qm {x j pos}:PE X (.Constant (.str x) j pos) (tC (.str x)):=fun _ _ _ H _ I h=>Calls.Constant_str ⟨.str x,H,I.tok _,⟨_,rfl⟩,h⟩
def Gl (X:Cx) (x:Str):Prop:=X.env.kindOf x=some .globalImplicit
theorem nZ {E:Value->Shared->Prop} {pins:List (Addr × Obj)} {s:Shared} {σ:St} {H:Hp} {x:Str} {u:Value} {pos:Pos} {Q:Value->Shared->Prop} (I:Inv X pins σ H s) (hg:Gl X x) (hm:X.mg x=some u) (h:Q u s)
  (hd:(x == ("__debug__":Str))=false:=by decide):wpAny (model X.prog X.w) X.A (eval (.Name x pos) X.env) Q E s:=
 Calls.Name_function_global I.ok.kind hg (Calls.loadGlobal_global (by rw[I.ok.glob];exact I.mod.glob.keeps I.bk) hm h) hd
theorem lX {E:Value->Shared->Prop} {pins:List (Addr × Obj)} {s:Shared} {σ:St} {H:Hp} {x:Str} {u:Value} {pos:Pos} {Q:Value->Shared->Prop} (I:Inv X pins σ H s) (hg:Gl X x) (hm:X.mg x=none) (hv:bootBuiltins x=some u) (h:Q u s)
  (hn:x≠"__name__":=by decide) (hd:(x == ("__debug__":Str))=false:=by decide):wpAny (model X.prog X.w) X.A (eval (.Name x pos) X.env) Q E s:=by
 obtain⟨mb,h1,h2⟩:=I.mod.blt
 exact Calls.Name_function_global I.ok.kind hg (Calls.loadGlobal_builtin (by rw[I.ok.glob];exact I.mod.glob.keeps I.bk) hm (by rw[I.ok.blt];exact h1.keeps I.bk) ((h2 x hn).trans hv) h) hd
theorem sN {x:Str} {v:V} {u:Value} {pos:Pos} (hg:Gl X x) (hm:X.mg x=some u) (r:RelV v u) (hd:(x == ("__debug__":Str))=false:=by decide):PE X (.Name x pos) (tC v):=
 fun _ _ _ H _ I h=>nZ I hg hm ⟨v,H,I,r,h⟩ hd
theorem Jx {x:Str} {v:V} {u:Value} {pos:Pos} (hg:Gl X x) (hm:X.mg x=none) (hv:bootBuiltins x=some u) (r:RelV v u) (hn:x≠"__name__":=by decide) (hd:(x == ("__debug__":Str))=false:=by decide):PE X (.Name x pos) (tC v):=
 fun _ _ _ H _ I h=>lX I hg hm hv ⟨v,H,I,r,h⟩ hn hd
variable {a b:Expr} {ta tb:TE} {pos:Pos}
def PC (X:Cx) (op:CmpOp) (a b:Expr) (t:TE):Prop:=
 ∀(pins:List (Addr × Obj)) (s:Shared) (σ:St) (H:Hp) (Q:VK),Inv X pins σ H s->t σ H Q →
  wpAny (model X.prog X.w) X.A (eval a X.env) (fun v s₁=>wpAny (model X.prog X.w) X.A (eval b X.env) (fun u s₂=>wpAny (model X.prog X.w) X.A (compareOp op v u) (EP X pins σ Q) X.xe s₂) X.xe s₁) X.xe s
def tB (t:TE):TT:=fun σ H Q=>t σ H fun x H1=>∃c,x=.bl c/\Q c H1
theorem Yq {op:CmpOp} {t:TE} (h:PC X op a b t) (h1:behindInMarks op b=false:=by first | exact nobehind _ Zd Zd | rfl):PT X (.Compare a [op] [b] pos) (tB t):=by
 intro pins s σ H Q I hw;refine wpAny_isTrue_Compare1 (bV (h pins s σ H _ I hw) fun v s1 h1=>bV h1 fun u s2 h2=>bV h2 fun c s3 ⟨x,H1,I1,r1,q1⟩=>?_) h1
 obtain⟨d,rfl,q⟩:=q1
 cases r1
 exact wpAny_truthy_bool ⟨H1,I1,q⟩
theorem Qn {e:Expr} {t:TE} (h:PE X e t) (he:∀whole,isTrue e X.env whole=(do let v ← whole;standAt e.pos;holding [v] (truthy v)):=by intro _;rfl):PT X e (tB t):=by
 intro pins s σ H Q I hw;refine isTrue_plain (bV (h pins s σ H _ I hw) fun v s1 ⟨x,H1,I1,r1,q1⟩=>?_) (he _)
 obtain⟨d,rfl,q⟩:=q1
 cases r1
 exact wpAny_truthy_bool ⟨H1,I1,q⟩
variable {tA tB':TT} {rest:List Expr}
def Jy (t u:TT):TT:=fun σ H Q=>t σ H fun c H1=>if c=true then u σ H1 Q else Q false H1
def tOr (t u:TT):TT:=fun σ H Q=>t σ H fun c H1=>if c=true then Q true H1 else u σ H1 Q
def Ve (t:TT):TT:=fun σ H Q=>t σ H fun c H1=>Q (!c) H1
theorem Jz (ha:PT X a tA):PW X (.BoolOp .And [a] pos) tA:=by
 intro wh pins s σ H Q I h;refine isTrue_and (bV (ha pins s σ H Q I h) fun c s1 e=>?_)
 cases c with
 | true=>exact isTrue_and_nil e
 | false=>exact e
theorem Qo (ha:PT X a tA):PW X (.BoolOp .Or [a] pos) tA:=by
 intro wh pins s σ H Q I h;refine isTrue_or (bV (ha pins s σ H Q I h) fun c s1 e=>?_)
 cases c with
 | false=>exact isTrue_or_nil e
 | true=>exact e
theorem Qp (ha:PT X a tA) (hb:PW X (.BoolOp .And (b::rest) pos) tB'):PW X (.BoolOp .And (a::b::rest) pos) (Jy tA tB'):=by
 intro wh pins s σ H Q I h;refine isTrue_and (bV (ha pins s σ H _ I h) fun c s1 ⟨H1,I1,q1⟩=>?_)
 cases c with
 | true=>exact hb wh pins s1 σ H1 Q I1 q1
 | false=>exact⟨H1,I1,q1⟩
theorem Vf (ha:PT X a tA) (hb:PW X (.BoolOp .Or (b::rest) pos) tB'):PW X (.BoolOp .Or (a::b::rest) pos) (tOr tA tB'):=by
 intro wh pins s σ H Q I h;refine isTrue_or (bV (ha pins s σ H _ I h) fun c s1 ⟨H1,I1,q1⟩=>?_)
 cases c with
 | true=>exact⟨H1,I1,q1⟩
 | false=>exact hb wh pins s1 σ H1 Q I1 q1
theorem Qq (ha:PT X a tA):PT X (.UnaryOp .Not a pos) (Ve tA):=by
 intro pins s σ H Q I h;exact isTrue_not (ha pins s σ H (fun c H1=>Q (!c) H1) I h)
def Dw (ta tb:TE):TE:=fun σ H Q=>ta σ H fun x H1=>∃c,x=.bl c/\if c=true then tb σ H1 Q else Q (.bl false) H1
def Qr (ta tb:TE):TE:=fun σ H Q=>ta σ H fun x H1=>∃c,x=.bl c/\if c=true then Q (.bl true) H1 else tb σ H1 Q
theorem Qs {op} {t:TE} (h:PE X a t):PE X (.BoolOp op [a] pos) t:=fun pins s σ H Q I hw=>BoolOp_one (h pins s σ H Q I hw)
theorem Qt (ha:PE X a ta) (hb:PE X (.BoolOp .And (b::rest) pos) tb):PE X (.BoolOp .And (a::b::rest) pos) (Dw ta tb):=by
 intro pins s σ H Q I h;refine BoolOp_and (bV (ha pins s σ H _ I h) fun v s1 ⟨x,H1,I1,r1,q1⟩=>?_)
 obtain⟨c,rfl,q1⟩:=q1
 cases r1
 refine wpAny_truthy_bool ?_
 cases c with
 | true=>exact hb pins s1 σ H1 Q I1 q1
 | false=>exact⟨.bl false,H1,I1,rfl,q1⟩
theorem Vg (ha:PE X a ta) (hb:PE X (.BoolOp .Or (b::rest) pos) tb):PE X (.BoolOp .Or (a::b::rest) pos) (Qr ta tb):=by
 intro pins s σ H Q I h;refine BoolOp_or (bV (ha pins s σ H _ I h) fun v s1 ⟨x,H1,I1,r1,q1⟩=>?_)
 obtain⟨c,rfl,q1⟩:=q1
 cases r1
 refine wpAny_truthy_bool ?_
 cases c with
 | false=>exact hb pins s1 σ H1 Q I1 q1
 | true=>exact⟨.bl true,H1,I1,rfl,q1⟩
end
end L2
namespace L2
open PySem PySem.Spec PyProof.Rows
def SqL (K:W.Frag) (H:Hp) (a:Addr) (xs:List V):Prop:=
 Rd H a (.lst xs)∨
  ∃(o:Obj) (its:Array Value) (n:Nat),K.lookup a=some o/\o.cls=.type "list"/\o.dict=none/\o.data=.seq its n/\its.size<=sizeLine/\Vals xs its.toList
def SqT (K:W.Frag) (H:Hp) (a:Addr) (xs:List V):Prop:=
 Rd H a (.tup xs)∨
  ∃(o:Obj) (its:Array Value) (n:Nat),K.lookup a=some o/\o.cls=.type "tuple"/\o.data=.seq its n/\its.size<=sizeLine/\Vals xs its.toList
def Yr:Value->Option V
 | .none=>some .non
 | .bool b=>some (.bl b)
 | .int i _=>some (.int i)
 | .str x _=>some (.str x)
 | .bytes b _=>some (.byt b)
 | .float b _=>some (.flt b)
 | .ref a=>some (.ref a)
 | .type n=>some (.ty n)
 | _=>none
theorem RelV.abs {x:V} {u:Value} (r:RelV x u):Yr u=some x:=by
 cases x with
 | non=>cases r;rfl
 | bl _=>cases r;rfl
 | int _=>obtain⟨t,rfl⟩:=r;rfl
 | str _=>obtain⟨t,rfl⟩:=r;rfl
 | byt _=>obtain⟨t,rfl⟩:=r;rfl
 | flt _=>obtain⟨t,rfl⟩:=r;rfl
 | ref _=>cases r;rfl
 | ty _=>cases r;rfl
theorem RelV.inj {x y:V} {u:Value} (r:RelV x u) (q:RelV y u):x=y:=Option.some.inj (r.abs.symm.trans q.abs)
theorem Vals.inj:∀ {xs ys:List V} {us:List Value},Vals xs us->Vals ys us->xs=ys
 | _,_,_,.nil,.nil=>rfl
 | _,_,_,.cons r t,.cons r' t'=>by rw[r.inj r',Vals.inj t t']
section
variable {X:Cx} {pins:List (Addr × Obj)} {σ:St} {H:Hp} {s:Shared} {a:Addr} {xs ys:List V}
theorem SqL.of {K:W.Frag} (h:H a=some (.lst xs)):SqL K H a xs:=.inl (.inl h)
theorem SqT.of {K:W.Frag} (h:H a=some (.tup xs)):SqT K H a xs:=.inl (.inl h)
theorem Inv.list (I:Inv X pins σ H s) (h:SqL X.K H a xs):∃its:List Value,Vals xs its/\PlainL s.heap a its.toArray/\xs.length<=sizeLine:=by
 rcases h with h | ⟨o,its,n,hk,hc,hd,hs,hz,r⟩
 ·obtain⟨z,its,n,r,e⟩:=h.ok I.hok
  exact⟨its,r,⟨_,n,e,rfl,rfl,rfl⟩,z⟩
 ·refine⟨its.toList,r,⟨o,n,I.kIn a o hk,hc,hd,by simpa using hs⟩,?_⟩
  have e:=r.length
  simp only [Array.length_toList]at e
  omega
theorem Inv.tuple (I:Inv X pins σ H s) (h:SqT X.K H a xs):∃its:List Value,Vals xs its/\IsTup s.heap a its.toArray/\xs.length<=sizeLine:=by
 rcases h with h | ⟨o,its,n,hk,hc,hs,hz,r⟩
 ·obtain⟨z,its,r,p⟩:=h.ok I.hok
  exact⟨its,r,p,z⟩
 ·refine⟨its.toList,r,⟨o,I.kIn a o hk,hc,n,by simpa using hs⟩,?_⟩
  have e:=r.length
  simp only [Array.length_toList]at e
  omega
theorem Inv.list_inj (I:Inv X pins σ H s) (h:SqL X.K H a xs) (h':SqL X.K H a ys):xs=ys:=by
 obtain⟨its,r,⟨o,n,e,_,_,d⟩,_⟩:=I.list h
 obtain⟨its',r',⟨o',n',e',_,_,d'⟩,_⟩:=I.list h'
 rw[e]at e';cases e'
 rw[d]at d';injection d' with d1 _
 have:its=its':=by simpa using congrArg Array.toList d1
 subst this;exact r.inj r'
theorem Inv.tuple_inj (I:Inv X pins σ H s) (h:SqT X.K H a xs) (h':SqT X.K H a ys):xs=ys:=by
 obtain⟨its,r,⟨o,e,_,n,d⟩,_⟩:=I.tuple h
 obtain⟨its',r',⟨o',e',_,n',d'⟩,_⟩:=I.tuple h'
 rw[e]at e';cases e'
 rw[d]at d';injection d' with d1 _
 have:its=its':=by simpa using congrArg Array.toList d1
 subst this;exact r.inj r'
end
abbrev Cx.wish (X:Cx) (E:Value->Shared->Prop):Cx:={X with xe:=E }
abbrev Cx.nox (X:Cx):Cx:=X.wish fun _ _=>False
theorem Cx.Ok.wish {X:Cx} (ok:X.Ok) (E:Value->Shared->Prop):(X.wish E).Ok:=
 ⟨ok.mod,ok.kind,ok.glob,ok.blt,ok.above,ok.inj,ok.has,ok.cab,ok.hd,ok.frames,ok.stk,ok.exf,ok.bs,ok.bsz,ok.noex,ok.exfs,ok.funs,ok.frf⟩
theorem Cx.Ok.unwish {X:Cx} {E:Value->Shared->Prop} (ok:(X.wish E).Ok):X.Ok:=
 ⟨ok.mod,ok.kind,ok.glob,ok.blt,ok.above,ok.inj,ok.has,ok.cab,ok.hd,ok.frames,ok.stk,ok.exf,ok.bs,ok.bsz,ok.noex,ok.exfs,ok.funs,ok.frf⟩
section
variable {X:Cx} {pins:List (Addr × Obj)} {σ:St} {H:Hp} {s:Shared} {E:Value->Shared->Prop}
theorem Inv.wish (I:Inv X pins σ H s) (E:Value->Shared->Prop):Inv (X.wish E) pins σ H s:=⟨I.ok.wish E,I.os,I.bare,I.base,I.loc,I.cell,I.free,I.freeC,I.pin,I.hok,I.len⟩
theorem Inv.unwish (I:Inv (X.wish E) pins σ H s):Inv X pins σ H s:=⟨I.ok.unwish,I.os,I.bare,I.base,I.loc,I.cell,I.free,I.freeC,I.pin,I.hok,I.len⟩
theorem SP.unwish {D:nS} {f:Flow} {s':Shared} (h:SP (X.wish E) pins D f s'):SP X pins D f s':=by
 cases f with
 | next=>obtain⟨σ',H',I,q⟩:=h;exact⟨σ',H',I.unwish,q⟩
 | brk=>obtain⟨σ',H',I,q⟩:=h;exact⟨σ',H',I.unwish,q⟩
 | cont=>obtain⟨σ',H',I,q⟩:=h;exact⟨σ',H',I.unwish,q⟩
 | ret u=>obtain⟨v,σ',H',I,r,q⟩:=h;exact⟨v,σ',H',I.unwish,r,q⟩
theorem PSs.nox {st:List Stmt} {t:TS} (h:PSs X.nox st t):PSs X st t:=fun pins s σ H D I hw=>
 wpAny_mono (h pins s σ H D (I.wish _) hw) (fun _ _ q=>q.unwish) fun _ _ z=>False.elim z
end
section
variable {X:Cx} {st:Stmt} {rest:List Stmt} {t u:TS} {e:Expr} {te:TE} {pos:Pos}
def Dx:TS:=fun D σ H=>D.nx σ H
def sO (t u:TS):TS:=fun D σ H=>t {D with nx:=u D } σ H
theorem Ka:PSs X [] Dx:=fun _ _ σ H _ I h=>wpAny_execs_nil ⟨σ,H,I,h⟩
theorem Dy (h1:PS X st t) (h2:PSs X rest u):PSs X (st::rest) (sO t u):=by
 intro pins s σ H D I h;refine wpAny_execs_cons (bV (h1 pins s σ H {D with nx:=u D } I h) fun f s1 q=>?_)
 cases f with
 | next=>
  obtain⟨σ',H',I',q⟩:=q
  exact h2 pins s1 σ' H' D I' q
 | ret v=>exact q
 | brk=>exact q
 | cont=>exact q
theorem Kb (h1:PS X st t):PSs X [st] t:=by
 intro pins s σ H D I h;refine wpAny_execs_cons (bV (h1 pins s σ H D I h) fun f s1 q=>?_)
 cases f with
 | next=>exact wpAny_execs_nil q
 | ret v=>exact q
 | brk=>exact q
 | cont=>exact q
theorem Inv.quiet {pins:List (Addr × Obj)} {σ:St} {H:Hp} {s:Shared} (I:Inv X pins σ H s):interactive X.env=false:=by simp [interactive,I.ok.kind]
def Oo (te:TE):TS:=fun D σ H=>te σ H fun _ H1=>D.nx σ H1
theorem Kc (he:PE X e te) (hs:swapsWith e none pos.line X.env=pure false:=by rfl):PS X (.Expr e pos) (Oo te):=by
 intro pins s σ H D I h;exact wpAny_Expr_any (bV (he pins s σ H _ I h) fun v s1 ⟨x,H1,I1,r1,q1⟩=>⟨σ,H1,I1,q1⟩) I.quiet hs
def Vh (te:TE):TS:=fun D σ H=>te σ H D.rt
theorem Qu (he:PE X e te):PS X (.Return (some e) pos) (Vh te):=by
 intro pins s σ H D I h;exact wpAny_Return_some (bV (he pins s σ H _ I h) fun v s1 ⟨x,H1,I1,r1,q1⟩=>⟨x,σ,H1,I1,r1,q1⟩)
def Dz (c:TT) (t u:TS):TS:=fun D σ H=>c σ H fun b H1=>if b=true then t D σ H1 else u D σ H1
theorem Vi {c:Expr} {a b:List Stmt} {tc:TT} (hc:PT X c tc) (ha:PSs X a t) (hb:PSs X b u):PS X (.If c a b pos) (Dz tc t u):=by
 intro pins s σ H D I h;refine wpAny_If (bV (hc pins s σ H _ I h) fun d s1 ⟨H1,I1,q1⟩=>?_)
 cases d with
 | true=>exact ha pins s1 σ H1 D I1 q1
 | false=>exact hb pins s1 σ H1 D I1 q1
end
abbrev TG:=V->St->Hp->(St->Hp->Prop)->Prop
abbrev yS:=List V->St->Hp->(St->Hp->Prop)->Prop
def PG (X:Cx) (target:Expr) (t:TG):Prop:=
 ∀(pins:List (Addr × Obj)) (s:Shared) (σ:St) (H:Hp) (v:V) (u:Value) (Q:St->Hp->Prop),Inv X pins σ H s->RelV v u->t v σ H Q →
  wpAny (model X.prog X.w) X.A (assign target X.env u) (fun _ s'=>∃ σ' H',Inv X pins σ' H' s'/\Q σ' H') X.xe s
def Vj (X:Cx) (ts:List Expr) (t:yS):Prop:=
 ∀(pins:List (Addr × Obj)) (s:Shared) (σ:St) (H:Hp) (vs:List V) (us:List Value) (Q:St->Hp->Prop),Inv X pins σ H s->Vals vs us->t vs σ H Q →
  wpAny (model X.prog X.w) X.A (assignInOrder ((assignEach ts X.env).map (·.2)) us) (fun _ s'=>∃ σ' H',Inv X pins σ' H' s'/\Q σ' H') X.xe s
abbrev Bh:=V->V->V->Hp->(Hp->Prop)->Prop
def Ke (X:Cx) (t:Bh):Prop:=
 ∀(pins:List (Addr × Obj)) (s:Shared) (σ:St) (H:Hp) (o i v:V) (ov iv u:Value) (Q:Hp->Prop),Inv X pins σ H s->RelV o ov->RelV i iv->RelV v u->t o i v H Q →
  wpAny (model X.prog X.w) X.A (setItem ov iv u) (fun _ s'=>∃H',Inv X pins σ H' s'/\Q H') X.xe s
section
variable {X:Cx} {pos:Pos}
def aK (i:Nat):TG:=fun v σ H Q=>Q (σ.set i (some v)) H
theorem Kf {i:Nat} {x:Str} (hN:X.N.Nodup) (hi:X.N[i]?=some x) (hx:On X.env.scope x) (hf:X.fn x=true∨X.env.scope.names.lookup x=some .local:=by first | exact .inl rfl | exact .inr rfl | assumption):PG X (.Name x pos) (aK i):=by
 intro pins s σ H v u Q I r h;exact wpAny_assign_Name (uV I hN hi hx r (fun s' I'=>⟨_,H,I',h⟩) hf)
def Qv:yS:=fun vs σ H Q=>vs=[]/\Q σ H
def Ea (t:TG) (u:yS):yS:=fun vs σ H Q=>∃v r,vs=v::r/\t v σ H fun σ' H'=>u r σ' H' Q
theorem Kg:Vj X [] Qv:=by
 intro pins s σ H vs us Q I r h;obtain⟨e,h⟩:=h
 subst e;cases r
 exact assignInOrder_nil ⟨σ,H,I,h⟩
theorem Eb {e:Expr} {es:List Expr} {t:TG} {u:yS} (h1:PG X e t) (h2:Vj X es u)
  (hs:(assignEach (e::es) X.env).map (·.2)=assign e X.env::(assignEach es X.env).map (·.2):=by rfl):Vj X (e::es) (Ea t u):=by
 intro pins s σ H vs us Q I r h;obtain⟨v,vr,e1,h⟩:=h
 subst e1;cases r with
 | cons r rr=>
  rw[hs];refine assignInOrder_cons (bV (h1 pins s σ H _ _ _ I r h) fun _ s1 ⟨σ1,H1,I1,q1⟩=>?_)
  exact h2 pins s1 σ1 H1 _ _ Q I1 rr q1
def Kh (K:W.Frag) (n:Nat) (t:yS):TG:=fun v σ H Q=>∃a xs,v=.ref a/\SqT K H a xs/\xs.length=n/\t xs σ H Q
theorem Qw {es:List Expr} {k:Nat} {t:yS} {n:Nat} (hc:X.calm=true) (h:Vj X es t)
  (hn:(assignEach es X.env).length=n:=by rfl) (hst:(assignEach es X.env).findIdx? (·.1)=none:=by rfl):PG X (.Tuple es k pos) (Kh X.K n t):=by
 intro pins s σ H v u Q I r hw;obtain⟨a,xs,e1,hq,hl,hw⟩:=hw
 subst e1;cases r
 obtain⟨its,rv,ht,hz⟩:=I.tuple hq
 refine assign_Tuple_tuple (I.ok.hd hc) ht (by simp [hn,<- hl,rv.length]) hst fun h' hx=>?_
 have I1:Inv X pins σ H {s with heap:=h' }:=I.kept (t':=s.toks) fun b o e=>hx b o (Nat.ne_of_lt (Heap.lt_size e)) e
 exact h pins _ σ H xs _ Q I1 (by simpa using rv) hw
def Vk (to ti:TE) (t:Bh):TG:=fun v σ H Q=>to σ H fun o H1=>ti σ H1 fun i H2=>t o i v H2 fun H3=>Q σ H3
theorem Qx {o i:Expr} {to ti:TE} {t:Bh} (ho:PE X o to) (hi:PE X i ti) (hs:Ke X t)
  (ha:∀v,assign (.Subscript o i pos) X.env v=(do
   let ov ← holding [v] (eval o X.env)
   let iv ← holding [v,ov] (eval i X.env)
   standAt pos
   holding [v,ov,iv] (setItem ov iv v)
   release [v,ov,iv] []):=by intro _;rfl):PG X (.Subscript o i pos) (Vk to ti t):=by
 intro pins s σ H v u Q I r h;rw[ha];refine wpAny_bind (wpAny_holding (bV (ho pins s σ H _ I h) fun ov s1 ⟨x,H1,I1,r1,q1⟩=>?_))
 refine wpAny_bind (wpAny_holding (bV (hi pins s1 σ H1 _ I1 q1) fun iv s2 ⟨y,H2,I2,r2,q2⟩=>?_))
 refine wpAny_bind (wpAny_standAt (wpAny_bind (wpAny_holding (bV (hs pins s2 σ H2 x y v ov iv u _ I2 r1 r2 r q2) fun _ s3 ⟨H3,I3,q3⟩=>?_))))
 exact wpAny_release ⟨σ,H3,I3,q3⟩
def Ec (te:TE) (g:TG):TS:=fun D σ H=>te σ H fun x H1=>g x σ H1 D.nx
theorem Qy {tg e:Expr} {te:TE} {g:TG} (he:PE X e te) (hg:PG X tg g) (hs:swapsWithSole [tg] e pos.line X.env=pure false:=by rfl) (hw:swappedStores [tg] e X.env=pure none:=by rfl)
  (h1:(assignEach [tg] X.env).map (·.2)=[assign tg X.env]:=by rfl):PS X (.Assign [tg] e pos) (Ec te g):=by
 intro pins s σ H D I h;refine wpAny_Assign_stores (bV (he pins s σ H _ I h) fun v s1 ⟨x,H1,I1,r1,q1⟩=>?_) hs hw
 rw[h1];exact bV (hg pins s1 σ H1 x v _ I1 r1 q1) fun _ s2 q=>q
theorem Qz {i:Nat} {x:Str} {e:Expr} {te:TE} {pos':Pos} (hN:X.N.Nodup) (hi:X.N[i]?=some x) (hx:On X.env.scope x) (he:PE X e te) (hs:swapsWith e (some (.Name x pos')) pos.line X.env=pure false:=by rfl) (hf:X.fn x=true∨X.env.scope.names.lookup x=some .local:=by first | exact .inl rfl | exact .inr rfl | assumption) :
  PS X (.Assign [.Name x pos'] e pos) (Ec te (aK i)):=by
 intro pins s σ H D I h;refine wpAny_Assign_Name (bV (he pins s σ H _ I h) fun v s1 ⟨y,H1,I1,r1,q1⟩=>?_) hs
 exact uV I1 hN hi hx r1 (fun s2 I2=>⟨_,H1,I2,q1⟩) hf
end
structure It where
 go:Nat->Hp->Prop
 yld:Nat->Hp->V->Hp->Prop
 stop:Nat->Hp->Prop
def lY (X:Cx) (pins:List (Addr × Obj)) (H:Hp) (b:Addr):Prop:=
 H b=none/\b≠X.env.locals/\b∉X.fs/\(b∈X.ex∨X.s₀.heap.objs.size<=b)/\(∀x c,X.env.cells.lookup x=some c->c≠b)/\∀p∈X.pn++pins,p.1≠b
theorem Inv.fpOk {X:Cx} {pins:List (Addr × Obj)} {σ:St} {H H':Hp} {s:Shared} {b:Addr} (I:Inv X pins σ H s) (hb:s.heap.objs.size<=b) (hn:H' b=none):lY X pins H' b:=by
 refine⟨hn,Nat.ne_of_gt (Nat.lt_of_lt_of_le I.lt hb),I.nofs hb,.inr (kK I.sz hb),fun x c e z=>?_,fun p hp z=>?_⟩
 ·obtain⟨v,q⟩:=I.cell x c e
  exact absurd (Nat.lt_of_lt_of_le q.lt (by rw[z];exact hb)) (Nat.lt_irrefl _)
 ·exact absurd (Nat.lt_of_lt_of_le (Heap.lt_size (I.pin p hp).1) (by rw[z];exact hb)) (Nat.lt_irrefl _)
structure sP (P:Program) (w:World) (K:W.Frag) (tg:Expr) (J:It) (fp:List Addr) (it:Addr) (tn:Nat->Heap->Prop):Prop where
 mem:it∈fp
 obj:∀i h,tn i h->∀b∈fp,∃o,h.get? b=some o/\∀v,o.data≠.cell v
 keep:∀i h h',tn i h->(∀b∈fp,∀o,h.get? b=some o->h'.get? b=some o)->tn i h'
 item:∀(X:Cx),X.prog=P->X.w=w->X.K=K->X.calm=true->∀(i:Nat) (pins:List (Addr × Obj)) (s:Shared) (σ:St) (H:Hp) (E:Value->Shared->Prop),Inv X pins σ H s->(∀b∈fp,lY X pins H b)->tn i s.heap->J.go i H →
  wpAny (model P w) X.A (pyNext (.ref it)) (fun r s1=>∃u,r=some u ∧
   wpAny (model P w) X.A (letOwnedTupleGo tg (.ref it) u) (fun _ s2=>∃x H',Inv X pins σ H' s2/\RelV x u/\J.yld i H x H'/\tn (i+1) s2.heap/\∀b∈fp,H' b=none) E s1) E s
 done:∀(X:Cx),X.prog=P->X.w=w->X.K=K->X.calm=true->∀(i:Nat) (pins:List (Addr × Obj)) (s:Shared) (σ:St) (H:Hp) (E:Value->Shared->Prop),Inv X pins σ H s->(∀b∈fp,lY X pins H b)->tn i s.heap->J.stop i H →
  wpAny (model P w) X.A (pyNext (.ref it)) (fun r s1=>r=none/\Inv X pins σ H s1) E s
 self:∀(A:Around) (i:Nat) (s:Shared) (Q:Value->Shared->Prop) (E:Value->Shared->Prop),tn i s.heap->Q (.ref it) s->wpAny (model P w) A (pyIter (.ref it)) Q E s
abbrev TI:=St->Hp->(It->Hp->Prop)->Prop
def PIE (X:Cx) (pins:List (Addr × Obj)) (σ:St) (tg:Expr) (R:It->Hp->Prop) (itv:Value) (s2:Shared):Prop:=
 ∃(it:Addr) (fp:List Addr) (tn:Nat->Heap->Prop) (J:It) (H':Hp),itv=.ref it/\Inv X pins σ H' s2/\sP X.prog X.w X.K tg J fp it tn/\tn 0 s2.heap/\(∀b∈fp,lY X pins H' b)/\R J H'
def PI (X:Cx) (tg iter:Expr) (wi:TI):Prop:=
 ∀(pins:List (Addr × Obj)) (s:Shared) (σ:St) (H:Hp) (R:It->Hp->Prop),Inv X pins σ H s->wi σ H R →
  wpAny (model X.prog X.w) X.A (eval iter X.env) (fun v s1=>wpAny (model X.prog X.w) X.A (pyIter v) (PIE X pins σ tg R) X.xe s1) X.xe s
theorem uW {M:Model} {A:Around} {E:Value->Shared->Prop} {s:Shared} {tg:Expr} {it:Addr} {u:Value} {o:Obj} {n:String} {vs:Array Value} {Q:Unit->Shared->Prop} (ho:s.heap.get? it=some o) (hc:o.cls=.type n) (hd:o.data=.fields vs)
    (hn:["enumerate","zip","dict_itemiterator","dict_reverseitemiterator","odict_iterator","itertools.zip_longest","itertools.pairwise"].contains n=false) (hQ:Q () s):wpAny M A (letOwnedTupleGo tg (.ref it) u) Q E s:=by
  unfold letOwnedTupleGo;cases tg <;> first
    | exact wpAny_pure hQ
    | (cases u <;> first
        | exact wpAny_pure hQ
        | (refine wpAny_bind (wpAny_load ho ?_)
           rw[hc,hd];show wpAny M A (if (["enumerate","zip","dict_itemiterator","dict_reverseitemiterator","odict_iterator","itertools.zip_longest","itertools.pairwise"].contains n&&vs[0]? == some (rawInt _))=true then _ else _) Q E s
           rw[if_neg (by intro h;rw[hn,Bool.false_and]at h;cases h)]
           exact wpAny_pure hQ))
def Re (K:W.Frag) (a:Addr):It:=
 ⟨fun i H=>∃xs x,SqL K H a xs/\xs[i]?=some x,fun i H x H'=>H'=H/\∀xs,SqL K H a xs->xs[i]?=some x,fun i H=>∃xs,SqL K H a xs/\xs.length<=i⟩
def Ys (K:W.Frag) (a:Addr):It:=
 ⟨fun i H=>∃xs x,SqT K H a xs/\xs[i]?=some x,fun i H x H'=>H'=H/\∀xs,SqT K H a xs->xs[i]?=some x,fun i H=>∃xs,SqT K H a xs/\xs.length<=i⟩
def Ye (lo:Int) (n:Nat):It:=⟨fun i _=>i<n,fun i H x H'=>H'=H/\x=.int (lo+i),fun i _=>n<=i⟩
theorem Bi {P:Program} {w:World} {K:W.Frag} {tg:Expr} (a it:Addr):sP P w K tg (Re K a) [it] it (fun i h=>h.IsListIter it a i) where
 mem:=by simp
 obj:=fun i h st b hb=>by
  have e:b=it:=by simpa using hb
  subst e;obtain⟨o,e,c,d⟩:=st
  exact⟨o,e,fun v z=>by rw[d]at z;cases z⟩
 keep:=fun i h h' st k=>st.at fun o e=>k it Zs o e
 item:=by
  intro X hP hw hK hc i pins s σ H E I hf st hg;subst hP hw hK;obtain⟨xs,x,hq,hx⟩:=hg
  obtain⟨its,rv,p,hz⟩:=I.list hq
  obtain⟨u,hu,ru⟩:=rv.get hx
  obtain⟨f0,f1,f2,f3,f4,f5⟩:=hf it Zs
  refine wpAny_pyNext_list_item st p.isList (x:=u) (by simpa using hu) fun h' st' sb=>?_
  have I1:Inv X pins σ H {s with heap:=h' }:=I.turned (t':=s.toks) (fun b o hb e=>(sb.2 b hb).trans e) f0 f1 f3 f4 f5
  obtain⟨o,e,c,d⟩:=id st'
  exact⟨u,rfl,uW (s:={s with heap:=h' }) e c d Zd ⟨x,H,I1,ru,⟨rfl,fun ys hy=>by rw[I.list_inj hy hq];exact hx⟩,st',fun b hb=>(hf b hb).1⟩⟩
 done:=by
  intro X hP hw hK hc i pins s σ H E I hf st hg;subst hP hw hK;obtain⟨xs,hq,hx⟩:=hg
  obtain⟨its,rv,p,hz⟩:=I.list hq
  obtain⟨f0,f1,f2,f3,f4,f5⟩:=hf it Zs
  have hl:=rv.length
  exact wpAny_pyNext_list_end (I.ok.hd hc) st p.isList (by simp;omega) fun h' eb=>⟨rfl,I.turned (t':=s.toks) (fun b o hb e=>eb b o hb e) f0 f1 f3 f4 f5⟩
 self:=fun _ _ _ _ _ st h=>wpAny_pyIter_listiter st h
theorem wW {P:Program} {w:World} {K:W.Frag} {tg:Expr} (a it:Addr):sP P w K tg (Ys K a) [it] it (fun i h=>h.IsTupleIter it a i) where
 mem:=by simp
 obj:=fun i h st b hb=>by
  have e:b=it:=by simpa using hb
  subst e;obtain⟨o,e,c,d⟩:=st
  exact⟨o,e,fun v z=>by rw[d]at z;cases z⟩
 keep:=fun i h h' st k=>st.at fun o e=>k it Zs o e
 item:=by
  intro X hP hw hK hc i pins s σ H E I hf st hg;subst hP hw hK;obtain⟨xs,x,hq,hx⟩:=hg
  obtain⟨its,rv,p,hz⟩:=I.tuple hq
  obtain⟨u,hu,ru⟩:=rv.get hx
  obtain⟨f0,f1,f2,f3,f4,f5⟩:=hf it Zs
  refine wpAny_pyNext_tuple_item st (show s.heap.IsTuple a its.toArray from p) (x:=u) (by simpa using hu) fun h' st' sb=>?_
  have I1:Inv X pins σ H {s with heap:=h' }:=I.turned (t':=s.toks) (fun b o hb e=>(sb.2 b hb).trans e) f0 f1 f3 f4 f5
  obtain⟨o,e,c,d⟩:=id st'
  exact⟨u,rfl,uW (s:={s with heap:=h' }) e c d Zd ⟨x,H,I1,ru,⟨rfl,fun ys hy=>by rw[I.tuple_inj hy hq];exact hx⟩,st',fun b hb=>(hf b hb).1⟩⟩
 done:=by
  intro X hP hw hK hc i pins s σ H E I hf st hg;subst hP hw hK;obtain⟨xs,hq,hx⟩:=hg
  obtain⟨its,rv,p,hz⟩:=I.tuple hq
  obtain⟨f0,f1,f2,f3,f4,f5⟩:=hf it Zs
  have hl:=rv.length
  exact wpAny_pyNext_tuple_end (I.ok.hd hc) st (show s.heap.IsTuple a its.toArray from p) (by simp;omega) fun h' eb=>⟨rfl,I.turned (t':=s.toks) (fun b o hb e=>eb b o hb e) f0 f1 f3 f4 f5⟩
 self:=fun _ _ _ _ _ st h=>wpAny_pyIter_tupleiter st h
theorem wX {P:Program} {w:World} {K:W.Frag} {tg:Expr} (it:Addr) (lo:Int) (n:Nat):sP P w K tg (Ye lo n) [it] it (fun i h=>IsRangeIter h it (lo+(i:Nat)*1) ((n:Int) - (i:Nat)) 1) where
 mem:=by simp
 obj:=fun i h st b hb=>by
  have e:b=it:=by simpa using hb
  subst e;exact⟨_,st,fun v z=>by
   have z':Data.fields _=Data.cell v:=z
   cases z'⟩
 keep:=fun i h h' st k=>k it Zs _ st
 item:=by
  intro X hP hw hK hc i pins s σ H E I hf st hg;subst hP hw hK;obtain⟨f0,f1,f2,f3,f4,f5⟩:=hf it Zs
  have W:=Walks.range (prog:=X.prog) (w:=X.w) (I.ok.hd hc) it lo 1 n
  refine W.item i s _ _ hg st fun v h' tk hv st' kk=>?_
  obtain⟨t,rfl⟩:=hv
  have I1:Inv X pins σ H {s with heap:=h',toks:=tk }:=I.turned (fun b o hb e=>kk b o (by simpa using hb) e) f0 f1 f3 f4 f5
  refine⟨_,rfl,uW (s:={s with heap:=h',toks:=tk }) (n:="range_iterator") st' rfl rfl Zd ⟨.int (lo+i),H,I1,⟨t,?_⟩,⟨rfl,rfl⟩,st',fun b hb=>(hf b hb).1⟩⟩
  rw[Int.mul_one]
 done:=by
  intro X hP hw hK hc i pins s σ H E I hf st hg;subst hP hw hK;obtain⟨f0,f1,f2,f3,f4,f5⟩:=hf it Zs
  exact wpAny_pyNext_range_end (I.ok.hd hc) st (by have:n<=i:=hg;omega) fun h' eb=>⟨rfl,I.turned (t':=s.toks) (fun b o hb e=>eb b o hb e) f0 f1 f3 f4 f5⟩
 self:=fun _ _ _ _ _ st h=>wpAny_pyIter_rangeiter st h
end L2
namespace L2
open PySem PySem.Spec PyProof.Rows
section
variable {X:Cx} {tg:Expr}
def Ed (K:W.Frag) (tl:TE):TI:=fun σ H R=>tl σ H fun x H1=>∃a,x=.ref a/\(∃xs,SqL K H1 a xs)/\R (Re K a) H1
def Rf (K:W.Frag) (tl:TE):TI:=fun σ H R=>tl σ H fun x H1=>∃a,x=.ref a/\(∃xs,SqT K H1 a xs)/\R (Ys K a) H1
theorem Ki {l:Expr} {tl:TE} (hl:PE X l tl):PI X tg l (Ed X.K tl):=by
 intro pins s σ H R I h;refine bV (hl pins s σ H _ I h) fun v s1 ⟨x,H1,I1,r1,q1⟩=>?_
 obtain⟨a,e,⟨xs,hq⟩,q⟩:=q1
 subst e;cases r1
 obtain⟨its,rv,p,hz⟩:=I1.list hq
 refine wpAny_pyIter_list p.isList ?_
 refine⟨s1.heap.objs.size,[s1.heap.objs.size],_,_,H1,rfl,I1.kept (t':=s1.toks) fun b o e=>fP _ e,Bi a _,⟨_,Heap.get?_push_size _ rfl,rfl,rfl⟩,fun b hb=>?_,q⟩
 have e:b=s1.heap.objs.size:=by simpa using hb
 subst e;exact I1.fpOk (bM _) (I1.hok.fresh (bM _))
theorem Rg {l:Expr} {tl:TE} (hl:PE X l tl):PI X tg l (Rf X.K tl):=by
 intro pins s σ H R I h;refine bV (hl pins s σ H _ I h) fun v s1 ⟨x,H1,I1,r1,q1⟩=>?_
 obtain⟨a,e,⟨xs,hq⟩,q⟩:=q1
 subst e;cases r1
 obtain⟨its,rv,p,hz⟩:=I1.tuple hq
 refine wpAny_pyIter_tuple (show s1.heap.IsTuple a its.toArray from p) ?_
 refine⟨s1.heap.objs.size,[s1.heap.objs.size],_,_,H1,rfl,I1.kept (t':=s1.toks) fun b o e=>fP _ e,wW a _,⟨_,Heap.get?_push_size _ rfl,rfl,rfl⟩,fun b hb=>?_,q⟩
 have e:b=s1.heap.objs.size:=by simpa using hb
 subst e;exact I1.fpOk (bM _) (I1.hok.fresh (bM _))
theorem Ee {pins:List (Addr × Obj)} {σ:St} {H:Hp} {s:Shared} {R:It->Hp->Prop} {E:Value->Shared->Prop} {lo hi:Int} {t u v:Tok} {tk:Nat} (I:Inv X pins σ H s) (h1:-(2 ^ 62)<=lo) (h2:lo<2 ^ 62) (h3:-(2 ^ 62)<=hi) (h4:hi<2 ^ 62)
  (q:R (Ye lo (hi - lo).toNat) H):wpAny (model X.prog X.w) X.A (pyIter (.ref s.heap.objs.size)) (PIE X pins σ tg R) E {s with heap:=s.heap.push {cls:=.type "range",data:=.fields #[.int lo t,.int hi u,.int 1 v] },toks:=tk }:=by
 refine wpAny_pyIter_range (IsRange.new ..) (small_one h1 h2 h3 h4) ?_
 have I1:Inv X pins σ H {s with heap:=s.heap.push {cls:=.type "range",data:=.fields #[.int lo t,.int hi u,.int 1 v] },toks:=tk }:=I.kept fun b o e=>fP _ e
 refine⟨(s.heap.push {cls:=.type "range",data:=.fields #[.int lo t,.int hi u,.int 1 v] }).objs.size,[(s.heap.push {cls:=.type "range",data:=.fields #[.int lo t,.int hi u,.int 1 v] }).objs.size],_,_,H,rfl,
  I1.kept (t':=tk) fun b o e=>fP _ e,wX _ lo (hi - lo).toNat,?_,fun b hb=>?_,q⟩
 ·have e1:lo+((0:Nat):Int)*1=lo:=by simp
  have e2:(((hi - lo).toNat:Nat):Int) - ((0:Nat):Int)=Builtin.Range.rangeSize lo hi 1:=by rw[rangeSize_one];split <;> omega
  show IsRangeIter _ _ (lo+((0:Nat):Int)*1) ((((hi - lo).toNat:Nat):Int) - ((0:Nat):Int)) 1
  rw[e1,e2];exact Heap.get?_push_size _ rfl
 ·have e:b=(s.heap.push {cls:=.type "range",data:=.fields #[.int lo t,.int hi u,.int 1 v] }).objs.size:=by simpa using hb
  subst e;exact I1.fpOk (bM _) (I1.hok.fresh (bM _))
def Op (ta:TA):TI:=fun σ H R=>ta σ H fun vs H1=>∃j:Int,vs=[.int j]/\-(2 ^ 62)<=j/\j<2 ^ 62/\R (Ye 0 j.toNat) H1
theorem Bj {a:Expr} {ta:TA} {p pos:Pos} (hg:Gl X "range") (hm:X.mg "range"=none) (ha:PA X [a] ta) (hs:starEach [a] X.env=[(false,eval a X.env)]:=by rfl):PI X tg (.Call (.Name "range" p) [a] [] pos) (Op ta):=by
 intro pins s σ H R I h;refine Call_ (lX I hg hm boot_range (PyProof.Rows.callWith_type1 (bV (ha pos pins s σ H _ I h) fun us s1 ⟨vs,H1,I1,r1,q1⟩=>?_) hs rfl))
 obtain⟨j,e,q1,q2,q⟩:=q1
 subst e;cases r1 with
 | cons r rr=>
  cases rr
  obtain⟨t,rfl⟩:=r
  exact call_range_1 (Ee I1 Zo Zo q1 q2 (by simpa using q))
def Vl (wi:TI) (g:TG) (tb:TS):TS:=fun D σ H=>wi σ H fun J H1=>∃W:Nat->Nat->St->Hp->Prop,(∃m,W 0 m σ H1)/\∀i m σ H,W i m σ H →
 (J.stop i H/\D.nx σ H)∨(J.go i H/\∃N:St->Hp->Prop,(∀ σ' H',N σ' H'->∃m',m'<m/\W (i+1) m' σ' H')/\∀x H',J.yld i H x H'->g x σ H' fun σ2 H2=>tb {D with nx:=N,ct:=N,bk:=D.nx } σ2 H2)
def oM (fp:List Addr) (h:Heap):List (Addr × Obj):=fp.filterMap fun b=>(h.get? b).map fun o=>(b,o)
theorem iB {fp:List Addr} {h:Heap} {b:Addr} {o:Obj} (hb:b∈fp) (e:h.get? b=some o):(b,o)∈oM fp h:=List.mem_filterMap.mpr ⟨b,hb,by rw[e];rfl⟩
theorem Bk {fp:List Addr} {h:Heap} {p:Addr × Obj} (hp:p∈oM fp h):p.1∈fp/\h.get? p.1=some p.2:=by
 obtain⟨b,hb,e⟩:=List.mem_filterMap.mp hp
 cases q:h.get? b with
 | none=>rw[q]at e;cases e
 | some o=>
  rw[q]at e;have e':(b,o)=p:=Option.some.inj e
  subst e';exact⟨hb,q⟩
theorem Inv.pinned {pins:List (Addr × Obj)} {σ:St} {H:Hp} {s:Shared} {fp:List Addr} (I:Inv X pins σ H s) (hf:∀b∈fp,lY X pins H b) (ho:∀b∈fp,∃o,s.heap.get? b=some o/\∀v,o.data≠.cell v):Inv X (pins++oM fp s.heap) σ H s:=
 I.pins_of fun p hp=>(Zma.mp hp).elim (fun z=>I.pin p (List.mem_append_right _ z)) fun z=>by
  obtain⟨hb,e⟩:=Bk z
  obtain⟨f0,f1,f2,_⟩:=hf p.1 hb
  obtain⟨o,e',d⟩:=ho p.1 hb
  rw[e]at e';cases e'
  exact⟨e,f0,f1,f2,d⟩
theorem Inv.unpinned {pins pl:List (Addr × Obj)} {σ:St} {H:Hp} {s:Shared} (I:Inv X (pins++pl) σ H s):Inv X pins σ H s:=I.pins_of fun p hp=>I.pin p (List.mem_append_right _ (List.mem_append_left _ hp))
theorem Rh {iter:Expr} {body:List Stmt} {wi:TI} {g:TG} {tb:TS} {pos:Pos} (hp:PassesOwn (model X.prog X.w) X.A X.env X.xe) (hc:X.calm=true) (hi:PI X tg iter wi) (hg:PG X tg g) (hb:PSs X body tb)
  (hs:∀x,foldedSetIterable iter X.env x=pure x:=by intro _;rfl):PS X (.For tg iter body [] pos) (Vl wi g tb):=by
 intro pins s σ H D I h;refine wpAny_For (bV (hi pins s σ H _ I h) fun v s1 h1=>bV h1 fun itv s2 h2=>?_) hs
 obtain⟨it,fp,tn,J,H2,e,I2,T,st2,f2,W,⟨m0,w0⟩,turn⟩:=h2
 subst e;have stat:∀ {H':Hp},(∀b∈fp,H' b=none)->∀b∈fp,lY X pins H' b:=fun hn b hb=>⟨hn b hb,(f2 b hb).2⟩
 refine codeAny_forLoop_any (fun n s'=>∃i σ' H',Inv X pins σ' H' s'/\tn i s'.heap/\(∀b∈fp,H' b=none)/\W i n σ' H') ?_ m0 ⟨0,σ,H2,I2,st2,fun b hb=>(f2 b hb).1,w0⟩
 rintro n s3 ⟨i,σ3,H3,I3,st3,fr3,w3⟩
 rcases turn i n σ3 H3 w3 with⟨stop,qn⟩ | ⟨go,N,hN,step⟩
 ·refine wpAny_passesOwn hp (bV (T.done X rfl rfl rfl hc i pins s3 σ3 H3 X.xe I3 (stat fr3) st3 stop) fun r s4 ⟨hr,I4⟩=>?_)
  subst hr;exact wpAny_execs_nil ⟨σ3,H3,I4,qn⟩
 ·refine wpAny_passesOwn hp (bV (T.item X rfl rfl rfl hc i pins s3 σ3 H3 X.xe I3 (stat fr3) st3 go) fun r s4 ⟨u,hr,h4⟩=>?_)
  subst hr;refine wpAny_passesOwn hp (bV h4 fun _ s5 ⟨x,H5,I5,r5,y5,st5,fr5⟩=>?_)
  have I5':=I5.pinned (stat fr5) (T.obj _ _ st5)
  refine wpAny_passesOwn hp (bV (hg _ s5 σ3 H5 x u _ I5' r5 (step x H5 y5)) fun _ s6 ⟨σ6,H6,I6,q6⟩=>?_)
  refine wpAny_passesOwn hp (bV (hb _ s6 σ6 H6 _ I6 q6) fun f s7 q7=>?_)
  have again:∀ {σ7:St} {H7:Hp},Inv X (pins++oM fp s5.heap) σ7 H7 s7->N σ7 H7->∃m,m<n/\∃i σ' H',Inv X pins σ' H' s7/\tn i s7.heap/\(∀b∈fp,H' b=none)/\W i m σ' H':=fun {σ7 H7} I7 n7=>by
   obtain⟨m',hm,w7⟩:=hN σ7 H7 n7
   refine⟨m',hm,i+1,σ7,H7,I7.unpinned,T.keep _ _ _ st5 fun b hb o e=>(I7.pin (b,o) (List.mem_append_right _ (List.mem_append_right _ (iB hb e)))).1,fun b hb=>?_,w7⟩
   obtain⟨o,e,d⟩:=T.obj _ _ st5 b hb
   exact(I7.pin (b,o) (List.mem_append_right _ (List.mem_append_right _ (iB hb e)))).2.1
  cases f with
  | next=>obtain⟨σ7,H7,I7,n7⟩:=q7;exact again I7 n7
  | cont=>obtain⟨σ7,H7,I7,n7⟩:=q7;exact again I7 n7
  | brk=>obtain⟨σ7,H7,I7,q7⟩:=q7;exact⟨σ7,H7,I7.unpinned,q7⟩
  | ret v=>obtain⟨x7,σ7,H7,I7,r7,q7⟩:=q7;exact⟨x7,σ7,H7,I7.unpinned,r7,q7⟩
end
end L2
namespace L2
open PySem PySem.Spec PyProof.Rows
abbrev R2:=V->V->Hp->VK->Prop
def OpR (X:Cx) (f:Value->Value->Sem Value) (r:R2):Prop:=
 ∀(pins:List (Addr × Obj)) (s:Shared) (σ:St) (H:Hp) (x y:V) (v u:Value) (Q:VK),Inv X pins σ H s->RelV x v->RelV y u->r x y H Q →
  wpAny (model X.prog X.w) X.A (f v u) (EP X pins σ Q) X.xe s
def UnR (X:Cx) (f:Value->Sem Value) (r:V->Hp->VK->Prop):Prop:=
 ∀(pins:List (Addr × Obj)) (s:Shared) (σ:St) (H:Hp) (x:V) (v:Value) (Q:VK),Inv X pins σ H s->RelV x v->r x H Q →
  wpAny (model X.prog X.w) X.A (f v) (EP X pins σ Q) X.xe s
def CallR (X:Cx) (f:Value) (r:List V->Hp->VK->Prop):Prop:=
 ∀(pins:List (Addr × Obj)) (s:Shared) (σ:St) (H:Hp) (xs:List V) (us:List Value) (Q:VK),Inv X pins σ H s->Vals xs us->r xs H Q →
  wpAny (model X.prog X.w) X.A (call f us) (EP X pins σ Q) X.xe s
def sQ (r:R2) (ta tb:TE):TE:=fun σ H Q=>ta σ H fun x H1=>tb σ H1 fun y H2=>r x y H2 Q
def Yt (r:V->Hp->VK->Prop) (ta:TE):TE:=fun σ H Q=>ta σ H fun x H1=>r x H1 Q
def rI (C:Int->Int->Prop) (g:Int->Int->V):R2:=fun x y H Q=>∃i j,x=.int i/\y=.int j/\C i j/\Q (g i j) H
def Kj (g:Int->Int->V):R2:=fun x y H Q=>∃i j,x=.int i/\y=.int j/\Q (g i j) H
def rU (g:Int->V):V->Hp->VK->Prop:=fun x H Q=>∃i,x=.int i/\Q (g i) H
section
variable {X:Cx} {a b c:Expr} {ta tb tc:TE} {pos:Pos}
theorem Ri (ha:PE X a ta) (hb:PE X b tb) {pins:List (Addr × Obj)} {s:Shared} {σ:St} {H:Hp} {R:V->V->Hp->Prop} (I:Inv X pins σ H s)
  (h:ta σ H fun x H1=>tb σ H1 fun y H2=>R x y H2) {Q:Value->Shared->Prop} {f:Value->Value->Sem Value}
  (hf:∀v u s2 x y H2,Inv X pins σ H2 s2->RelV x v->RelV y u->R x y H2->wpAny (model X.prog X.w) X.A (f v u) Q X.xe s2) :
  wpAny (model X.prog X.w) X.A (eval a X.env) (fun v s₁=>wpAny (model X.prog X.w) X.A (eval b X.env) (fun u s₂=>wpAny (model X.prog X.w) X.A (f v u) Q X.xe s₂) X.xe s₁) X.xe s:=by
 refine bV (ha pins s σ H _ I h) fun v s1 ⟨x,H1,I1,r1,q1⟩=>?_
 refine bV (hb pins s1 σ H1 _ I1 q1) fun u s2 ⟨y,H2,I2,r2,q2⟩=>?_
 exact hf v u s2 x y H2 I2 r1 r2 q2
theorem Vm {op:Operator} {r:R2} (ho:OpR X (binaryOp op) r) (ha:PE X a ta) (hb:PE X b tb):PE X (.BinOp a op b pos) (sQ r ta tb):=by
 intro pins s σ H Q I h;exact wpAny_BinOp (Ri ha hb I h fun v u s2 x y H2 I2 rx ry q=>ho pins s2 σ H2 x y v u Q I2 rx ry q)
theorem Vn {op:UnaryOp} {r:V->Hp->VK->Prop} (ho:UnR X (unaryOp op) r) (ha:PE X a ta):PE X (.UnaryOp op a pos) (Yt r ta):=by
 intro pins s σ H Q I h;exact UnaryOp_ (bV (ha pins s σ H _ I h) fun v s1 ⟨x,H1,I1,r1,q1⟩=>ho pins s1 σ H1 x v Q I1 r1 q1)
theorem Yf {f:Value->Value->Sem Value} {C:Int->Int->Prop} {g:Int->Int->Int}
  (rule:∀(i j:Int) (t u:Tok) (s:Shared) (Q:Value->Shared->Prop) (E:Value->Shared->Prop),C i j->Q (.int (g i j) s.toks) {s with toks:=s.toks+1 }->wpAny (model X.prog X.w) X.A (f (.int i t) (.int j u)) Q E s) :
  OpR X f (rI C fun i j=>.int (g i j)):=by
 intro pins s σ H x y v u Q I rx ry h;obtain⟨i,j,rfl,rfl,hc,q⟩:=h
 obtain⟨t,rfl⟩:=rx
 obtain⟨t',rfl⟩:=ry
 exact rule i j t t' s _ _ hc ⟨.int (g i j),H,I.tok _,⟨_,rfl⟩,q⟩
theorem Vo {f:Value->Value->Sem Value} {g:Int->Int->Int}
  (rule:∀(i j:Int) (t u:Tok) (s:Shared) (Q:Value->Shared->Prop) (E:Value->Shared->Prop),Q (.int (g i j) s.toks) {s with toks:=s.toks+1 }->wpAny (model X.prog X.w) X.A (f (.int i t) (.int j u)) Q E s) :
  OpR X f (Kj fun i j=>.int (g i j)):=by
 intro pins s σ H x y v u Q I rx ry h;obtain⟨i,j,rfl,rfl,q⟩:=h
 obtain⟨t,rfl⟩:=rx
 obtain⟨t',rfl⟩:=ry
 exact rule i j t t' s _ _ ⟨.int (g i j),H,I.tok _,⟨_,rfl⟩,q⟩
theorem Kk {f:Value->Value->Sem Value} {g:Int->Int->Bool}
  (rule:∀(i j:Int) (t u:Tok) (s:Shared) (Q:Value->Shared->Prop) (E:Value->Shared->Prop),Q (.bool (g i j)) s->wpAny (model X.prog X.w) X.A (f (.int i t) (.int j u)) Q E s) :
  OpR X f (Kj fun i j=>.bl (g i j)):=by
 intro pins s σ H x y v u Q I rx ry h;obtain⟨i,j,rfl,rfl,q⟩:=h
 obtain⟨t,rfl⟩:=rx
 obtain⟨t',rfl⟩:=ry
 exact rule i j t t' s _ _ ⟨.bl (g i j),H,I,rfl,q⟩
def Rj (i j:Int):Prop:=0<=j/\j<=1000000/\i.natAbs<2 ^ 64
def CMul (i j:Int):Prop:=(-(2 ^ 64)<i/\i<2 ^ 64)∨(-(2 ^ 64)<j/\j<2 ^ 64)
theorem CMul.ok {i j:Int} (h:CMul i j):IntMulOk i j:=by
 rcases h with⟨h1,h2⟩ | ⟨h1,h2⟩
 ·exact .of_left (intBits_le_64 h1 h2)
 ·exact .of_right (intBits_le_64 h1 h2)
theorem Rk:OpR X (binaryOp .Add) (Kj fun i j=>.int (i+j)):=Vo fun _ _ _ _ _ _ _ q=>add_int q
theorem Rl:OpR X (binaryOp .Sub) (Kj fun i j=>.int (i - j)):=Vo fun _ _ _ _ _ _ _ q=>sub_int q
theorem Rm:OpR X (binaryOp .Mult) (rI CMul fun i j=>.int (i*j)):=Yf fun _ _ _ _ _ _ _ hc q=>mul_int q hc.ok
theorem Rn:OpR X (binaryOp .Mod) (rI (fun _ j=>0<j) fun i j=>.int (i % j)):=Yf fun i j _ _ _ _ _ hc q=>by
 have h1:(0:Int)<j:=hc
 exact mod_int' Zo (by rw[Int.fmod_eq_emod_of_nonneg i Zo];exact q)
theorem Ro:OpR X (binaryOp .Pow) (rI Rj fun i j=>.int (i ^ j.toNat)):=Yf fun _ _ _ _ _ _ _ hc q=>pow_int_small hc.1 hc.2.1 hc.2.2 q
theorem unI {f:Value->Sem Value} {g:Int->Int}
  (rule:∀(i:Int) (t:Tok) (s:Shared) (Q:Value->Shared->Prop) (E:Value->Shared->Prop),Q (.int (g i) s.toks) {s with toks:=s.toks+1 }->wpAny (model X.prog X.w) X.A (f (.int i t)) Q E s) :
  UnR X f (rU fun i=>.int (g i)):=by
 intro pins s σ H x v Q I rx h;obtain⟨i,rfl,q⟩:=h
 obtain⟨t,rfl⟩:=rx
 exact rule i t s _ _ ⟨.int (g i),H,I.tok _,⟨_,rfl⟩,q⟩
theorem Rp:UnR X (unaryOp .USub) (rU fun i=>.int (-i)):=unI fun _ _ _ _ _ q=>neg_int q
end
def scal:V->V->Bool
 | .non,.non=>true | .non,.int _=>true | .int _,.non=>true | .non,.bl _=>true | .bl _,.non=>true | .non,.str _=>true | .str _,.non=>true
 | .int _,.int _=>true | .bl _,.bl _=>true | .str _,.str _=>true | .byt _,.byt _=>true
 | .int _,.str _=>true | .str _,.int _=>true | .bl _,.str _=>true | .str _,.bl _=>true
 | _,_=>false
def rEq:R2:=fun x y H Q=>scal x y=true/\Q (.bl (decide (x=y))) H
def rNe:R2:=fun x y H Q=>scal x y=true/\Q (.bl (!decide (x=y))) H
theorem yT {i j:Int}:decide (V.int i=V.int j)=(i == j):=by
 rw[Bool.eq_iff_iff];simp
theorem Ef {i j:Bool}:decide (V.bl i=V.bl j)=(i == j):=by
 rw[Bool.eq_iff_iff];simp
theorem yU {i j:Str}:decide (V.str i=V.str j)=(i == j):=by
 rw[Bool.eq_iff_iff];simp
theorem yV {i j:Array UInt8}:decide (V.byt i=V.byt j)=(i.toList == j.toList):=by
 rw[Bool.eq_iff_iff];cases i
 cases j
 simp
section
variable {X:Cx} {a b c:Expr} {ta tb tc:TE} {pos:Pos}
theorem aZ {pins:List (Addr × Obj)} {σ:St} {H:Hp} {s:Shared} {Q:VK} {k k':Bool} (I:Inv X pins σ H s) (q:Q (.bl k) H) (e:k=k'):EP X pins σ Q (.bool k') s:=by
 subst e;exact⟨.bl k,H,I,rfl,q⟩
theorem Oq:OpR X (compareOp .Eq) rEq:=by
 intro pins s σ H x y v u Q I rx ry h;obtain⟨hs,q⟩:=h
 cases x with
 | non=>
  cases rx
  cases y with
  | non=>cases ry;exact PySem.EqNone.eq_none_none (aZ I q Zs)
  | bl j=>cases ry;exact PySem.EqNone.eq_none_bool (aZ I q Zs)
  | int j=>obtain⟨t',rfl⟩:=ry;exact PySem.EqNone.eq_none_int (aZ I q Zs)
  | str j=>obtain⟨t',rfl⟩:=ry;exact PySem.EqNone.eq_none_str (aZ I q Zs)
  | _=>exact absurd (show false=true from hs) Bool.false_ne_true
 | bl i=>
  cases rx
  cases y with
  | non=>cases ry;exact PySem.EqNone.eq_bool_none (aZ I q Zs)
  | bl j=>cases ry;exact eq_bool (aZ I q Ef)
  | str j=>obtain⟨t',rfl⟩:=ry;exact PySem.EqMixed.eq_bool_str (aZ I q Zs)
  | _=>exact absurd (show false=true from hs) Bool.false_ne_true
 | int i=>
  obtain⟨t,rfl⟩:=rx
  cases y with
  | non=>cases ry;exact PySem.EqNone.eq_int_none (aZ I q Zs)
  | int j=>obtain⟨t',rfl⟩:=ry;exact eq_int (aZ I q yT)
  | str j=>obtain⟨t',rfl⟩:=ry;exact PySem.EqMixed.eq_int_str (aZ I q Zs)
  | _=>exact absurd (show false=true from hs) Bool.false_ne_true
 | str i=>
  obtain⟨t,rfl⟩:=rx
  cases y with
  | non=>cases ry;exact PySem.EqNone.eq_str_none (aZ I q Zs)
  | bl j=>cases ry;exact PySem.EqMixed.eq_str_bool (aZ I q Zs)
  | int j=>obtain⟨t',rfl⟩:=ry;exact PySem.EqMixed.eq_str_int (aZ I q Zs)
  | str j=>obtain⟨t',rfl⟩:=ry;exact eq_str (aZ I q yU)
  | _=>exact absurd (show false=true from hs) Bool.false_ne_true
 | byt i=>
  obtain⟨t,rfl⟩:=rx
  cases y with
  | byt j=>obtain⟨t',rfl⟩:=ry;exact W.eq_bytes (aZ I q yV)
  | _=>exact absurd (show false=true from hs) Bool.false_ne_true
 | _=>cases y <;> exact absurd (show false=true from hs) Bool.false_ne_true
theorem Os:OpR X (compareOp .NotEq) rNe:=by
 intro pins s σ H x y v u Q I rx ry h;obtain⟨hs,q⟩:=h
 cases x with
 | non=>
  cases rx
  cases y with
  | non=>cases ry;exact PySem.EqNone.ne_none_none (aZ I q Zs)
  | bl j=>cases ry;exact PySem.EqNone.ne_none_bool (aZ I q Zs)
  | int j=>obtain⟨t',rfl⟩:=ry;exact PySem.EqNone.ne_none_int (aZ I q Zs)
  | str j=>obtain⟨t',rfl⟩:=ry;exact PySem.EqNone.ne_none_str (aZ I q Zs)
  | _=>exact absurd (show false=true from hs) Bool.false_ne_true
 | bl i=>
  cases rx
  cases y with
  | non=>cases ry;exact PySem.EqNone.ne_bool_none (aZ I q Zs)
  | bl j=>cases ry;exact ne_bool (aZ I q (congrArg not Ef))
  | str j=>obtain⟨t',rfl⟩:=ry;exact PySem.EqMixed.ne_bool_str (aZ I q Zs)
  | _=>exact absurd (show false=true from hs) Bool.false_ne_true
 | int i=>
  obtain⟨t,rfl⟩:=rx
  cases y with
  | non=>cases ry;exact PySem.EqNone.ne_int_none (aZ I q Zs)
  | int j=>obtain⟨t',rfl⟩:=ry;exact ne_int (aZ I q (congrArg not yT))
  | str j=>obtain⟨t',rfl⟩:=ry;exact PySem.EqMixed.ne_int_str (aZ I q Zs)
  | _=>exact absurd (show false=true from hs) Bool.false_ne_true
 | str i=>
  obtain⟨t,rfl⟩:=rx
  cases y with
  | non=>cases ry;exact PySem.EqNone.ne_str_none (aZ I q Zs)
  | bl j=>cases ry;exact PySem.EqMixed.ne_str_bool (aZ I q Zs)
  | int j=>obtain⟨t',rfl⟩:=ry;exact PySem.EqMixed.ne_str_int (aZ I q Zs)
  | str j=>obtain⟨t',rfl⟩:=ry;exact ne_str (aZ I q (congrArg not yU))
  | _=>exact absurd (show false=true from hs) Bool.false_ne_true
 | byt i=>
  obtain⟨t,rfl⟩:=rx
  cases y with
  | byt j=>obtain⟨t',rfl⟩:=ry;exact W.ne_bytes (aZ I q (congrArg not yV))
  | _=>exact absurd (show false=true from hs) Bool.false_ne_true
 | _=>cases y <;> exact absurd (show false=true from hs) Bool.false_ne_true
theorem Ot:OpR X (compareOp .Lt) (Kj fun i j=>.bl (decide (i<j))):=Kk fun _ _ _ _ _ _ _ q=>lt_int q
theorem Vp:OpR X (compareOp .LtE) (Kj fun i j=>.bl (decide (i<=j))):=Kk fun _ _ _ _ _ _ _ q=>le_int q
theorem Vq:OpR X (compareOp .Gt) (Kj fun i j=>.bl (decide (j<i))):=Kk fun _ _ _ _ _ _ _ q=>gt_int q
theorem Vr:OpR X (compareOp .GtE) (Kj fun i j=>.bl (decide (j<=i))):=Kk fun _ _ _ _ _ _ _ q=>ge_int q
theorem Bl:OpR X (compareOp .Lt) (fun x y H Q=>∃i j,x=.str i/\y=.str j/\Q (.bl (decide (i.cps.toList<j.cps.toList))) H):=by
 intro pins s σ H x y v u Q I rx ry h;obtain⟨i,j,rfl,rfl,q⟩:=h
 obtain⟨t,rfl⟩:=rx
 obtain⟨t',rfl⟩:=ry
 exact lt_str (aZ I q rfl)
theorem Bm:OpR X (compareOp .In) (fun x y H Q=>∃i j,x=.str i/\y=.str j/\Q (.bl (!(Builtin.Str.occurrences j i 0 j.length 1).isEmpty)) H):=by
 intro pins s σ H x y v u Q I rx ry h;obtain⟨i,j,rfl,rfl,q⟩:=h
 obtain⟨t,rfl⟩:=rx
 obtain⟨t',rfl⟩:=ry
 exact in_str (aZ I q rfl)
theorem Rq:OpR X (compareOp .Is) (fun x y H Q=>y=.non/\Q (.bl (decide (x=.non))) H):=by
 intro pins s σ H x y v u Q I rx ry h;obtain⟨rfl,q⟩:=h
 cases ry
 refine is_none_gen (aZ I q ?_)
 cases x <;> first
  | (cases rx;rfl)
  | (obtain⟨t,rfl⟩:=rx;rfl)
theorem Kl:OpR X (compareOp .IsNot) (fun x y H Q=>y=.non/\Q (.bl (!decide (x=.non))) H):=by
 intro pins s σ H x y v u Q I rx ry h;obtain⟨rfl,q⟩:=h
 cases ry
 refine isnot_none_gen (aZ I q ?_)
 cases x <;> first
  | (cases rx;rfl)
  | (obtain⟨t,rfl⟩:=rx;rfl)
theorem sR (b:Expr) {op:CmpOp} (h:op≠.In:=by decide) (h2:op≠.NotIn:=by decide):behindInMarks op b=false:=by
 have e1:(op == CmpOp.In)=false:=by cases op <;> first | rfl | exact absurd rfl h
 have e2:(op == CmpOp.NotIn)=false:=by cases op <;> first | rfl | exact absurd rfl h2
 cases b <;> simp [behindInMarks,e1,e2]
theorem Km {op:CmpOp} {r:R2} (ho:OpR X (compareOp op) r) (ha:PE X a ta) (hb:PE X b tb) (hm:behindInMarks op b=false):PE X (.Compare a [op] [b] pos) (sQ r ta tb):=by
 intro pins s σ H Q I h;exact wpAny_Compare1 (Ri ha hb I h fun v u s2 x y H2 I2 rx ry q=>ho pins s2 σ H2 x y v u Q I2 rx ry q) hm
def yW (t:TE):TT:=fun σ H Q=>t σ H fun x H'=>∃k,x=.bl k/\Q k H'
theorem Kn {op:CmpOp} {r:R2} (ho:OpR X (compareOp op) r) (ha:PE X a ta) (hb:PE X b tb) (hm:behindInMarks op b=false):PT X (.Compare a [op] [b] pos) (yW (sQ r ta tb)):=by
 intro pins s σ H Q I h;refine wpAny_isTrue_Compare1 (bV (ha pins s σ H _ I h) fun v s1 ⟨x,H1,I1,r1,q1⟩=>bV (hb pins s1 σ H1 _ I1 q1) fun u s2 ⟨y,H2,I2,r2,q2⟩=>
  bV (ho pins s2 σ H2 x y v u _ I2 r1 r2 q2) fun c s3 ⟨z,H3,I3,r3,k,e,q3⟩=>?_) hm
 subst e;cases r3
 exact wpAny_truthy_bool ⟨H3,I3,q3⟩
def sU (r r':R2) (ta tb tc:TE):TE:=fun σ H Q=>ta σ H fun x H1=>tb σ H1 fun y H2=>r x y H2 fun z H3=>∃k,z=.bl k ∧
 (if k=true then tc σ H3 fun w' H4=>r' y w' H4 Q else Q (.bl false) H3)
theorem Eg {op op':CmpOp} {r r':R2} (ho:OpR X (compareOp op) r) (ho':OpR X (compareOp op') r') (ha:PE X a ta) (hb:PE X b tb) (hc:PE X c tc)
  (hm:lastMarks [op,op'] [b,c]=false:=by with_unfolding_all rfl):PE X (.Compare a [op,op'] [b,c] pos) (sU r r' ta tb tc):=by
 intro pins s σ H Q I h;refine Compare_chain (bV (ha pins s σ H _ I h) fun v s1 ⟨x,H1,I1,r1,q1⟩=>chain_link (bV (hb pins s1 σ H1 _ I1 q1) fun u s2 ⟨y,H2,I2,r2,q2⟩=>
  bV (ho pins s2 σ H2 x y v u _ I2 r1 r2 q2) fun d s3 ⟨z,H3,I3,r3,k,e,q3⟩=>?_)) hm
 subst e;cases r3
 refine wpAny_truthy_bool ?_
 cases k with
 | false=>exact ite_ff ⟨.bl false,H3,I3,rfl,q3⟩
 | true=>exact ite_tt (chain_last (bV (hc pins s3 σ H3 _ I3 q3) fun w' s4 ⟨z',H4,I4,r4,q4⟩=>ho' pins s4 σ H4 y z' u w' Q I4 r2 r4 q4))
theorem Eh {op op':CmpOp} {r r':R2} (ho:OpR X (compareOp op) r) (ho':OpR X (compareOp op') r') (ha:PE X a ta) (hb:PE X b tb) (hc:PE X c tc)
  (hm:lastMarks [op,op'] [b,c]=false:=by with_unfolding_all rfl):PT X (.Compare a [op,op'] [b,c] pos) (yW (sU r r' ta tb tc)):=by
 intro pins s σ H Q I h;refine isTrue_chain (bV (ha pins s σ H _ I h) fun v s1 ⟨x,H1,I1,r1,q1⟩=>test_link (bV (hb pins s1 σ H1 _ I1 q1) fun u s2 ⟨y,H2,I2,r2,q2⟩=>
  bV (ho pins s2 σ H2 x y v u _ I2 r1 r2 q2) fun d s3 ⟨z,H3,I3,r3,k,e,q3⟩=>?_)) hm
 subst e;cases r3
 refine wpAny_truthy_bool ?_
 cases k with
 | false=>
  obtain⟨k',e',q'⟩:=q3
  cases e'
  exact ite_ff ⟨H3,I3,q'⟩
 | true=>
  refine ite_tt (test_last (bV (hc pins s3 σ H3 _ I3 q3) fun w' s4 ⟨z',H4,I4,r4,q4⟩=>bV (ho' pins s4 σ H4 y z' u w' _ I4 r2 r4 q4) fun d' s5 ⟨z2,H5,I5,r5,k2,e2,q5⟩=>?_))
  subst e2;cases r5
  exact wpAny_truthy_bool ⟨H5,I5,q5⟩
theorem lZ:(sizeLine:Nat)<2 ^ 63:=by rw[sizeLine_eq];decide
theorem wY:OpR X (binaryOp .Add) (fun x y H Q=>∃i j,x=.str i/\y=.str j/\i.length+j.length<=sizeLine/\Q (.str (i++j)) H):=by
 intro pins s σ H x y v u Q I rx ry h;obtain⟨i,j,rfl,rfl,hz,q⟩:=h
 obtain⟨t,rfl⟩:=rx
 obtain⟨t',rfl⟩:=ry
 exact add_str (fun t' tk=>⟨.str (i++j),H,I.tok _,⟨_,rfl⟩,q⟩) hz
theorem jA {x:V} {us:List Value} (r:Vals [x] us):∃u,us=[u]/\RelV x u:=by
 cases r with
 | cons r1 r2=>cases r2;exact⟨_,rfl,r1⟩
theorem Ou {x y:V} {us:List Value} (r:Vals [x,y] us):∃u w',us=[u,w']/\RelV x u/\RelV y w':=by
 cases r with
 | cons r1 r2=>
  cases r2 with
  | cons r3 r4=>cases r4;exact⟨_,_,rfl,r1,r3⟩
theorem Bn (hc:X.calm=true):CallR X (.builtin "max") (fun xs H Q=>∃i j,xs=[.int i,.int j]/\Q (.int (if j > i then j else i)) H):=by
 intro pins s σ H xs us Q I r h;obtain⟨i,j,rfl,q⟩:=h
 obtain⟨u,w',rfl,⟨t,rfl⟩,⟨t',rfl⟩⟩:=Ou r
 refine max_two_ints (I.ok.hd hc) fun h' tk k=>⟨_,H,I.kept k,?_,q⟩
 by_cases hj:j > i
 ·rw[if_pos hj,if_pos hj];exact⟨_,rfl⟩
 ·rw[if_neg hj,if_neg hj];exact⟨_,rfl⟩
theorem Bo (hc:X.calm=true):CallR X (.builtin "min") (fun xs H Q=>∃i j,xs=[.int i,.int j]/\Q (.int (if j<i then j else i)) H):=by
 intro pins s σ H xs us Q I r h;obtain⟨i,j,rfl,q⟩:=h
 obtain⟨u,w',rfl,⟨t,rfl⟩,⟨t',rfl⟩⟩:=Ou r
 refine min_two_ints (I.ok.hd hc) fun h' tk k=>⟨_,H,I.kept k,?_,q⟩
 by_cases hj:j<i
 ·rw[if_pos hj,if_pos hj];exact⟨_,rfl⟩
 ·rw[if_neg hj,if_neg hj];exact⟨_,rfl⟩
theorem Bp:CallR X (.type "int") (fun xs H Q=>(∃i,xs=[.int i]/\Q (.int i) H)∨∃k,xs=[.bl k]/\Q (.int (if k then 1 else 0)) H):=by
 intro pins s σ H xs us Q I r h;rcases h with⟨i,rfl,q⟩ | ⟨k,rfl,q⟩
 ·obtain⟨u,rfl,t,rfl⟩:=jA r
  exact call_int_int ⟨.int i,H,I,⟨_,rfl⟩,q⟩
 ·obtain⟨u,rfl,r1⟩:=jA r
  cases r1
  exact call_int_bool ⟨.int (if k then 1 else 0),H,I.tok _,⟨_,rfl⟩,q⟩
end
end L2
namespace L2
open PySem PySem.Spec PyProof.Rows
structure ObjM (h:Heap) (x dx C:Addr) (mA:Str->Option Value):Prop where
 obj:h.get? x=some (W.instObj C dx)
 ns:h.Ns1 dx mA
 ne:dx≠x
theorem Bq {h:Heap} {dx:Addr} {mA:Str->Option Value} (n:h.Ns1 dx mA):∃od,h.get? dx=some od/\∀name,W.lookIn name od=some (mA name):=by
 obtain⟨o,es,ep,ho,hd,hk,_,hm⟩:=n
 refine⟨o,ho,fun name=>?_⟩
 have e:=hm name
 unfold nsFind findBy at e;rw[<- Array.find?_toList]at e;unfold W.lookIn;rw[hd];dsimp only;split
 ·rename_i y q
  rw[q]at e;exact congrArg some e
 ·rename_i q
  rw[q]at e;have a:es.toList.any (·.refKey)=false:=by
   rw[List.any_eq_false];intro y hy;obtain⟨z,t,hkey⟩:=hk y (Array.mem_toList_iff.mp hy)
   simp [DictEntry.refKey,hkey]
  have a':¬ es.toList.any (·.refKey)=true:=by rw[a];exact Bool.false_ne_true
  rw[if_neg a'];exact congrArg some e
theorem ObjM.look {h:Heap} {x dx C:Addr} {mA:Str->Option Value} (I:ObjM h x dx C mA):∃od,W.InstAt h x (W.instObj C dx) C (some od)/\∀name,W.lookIn name od=some (mA name):=
 let ⟨od,ho,hl⟩:=Bq I.ns
 ⟨od,⟨I.obj,rfl,rfl,ho⟩,hl⟩
section
variable {prog:Program} {w:World} {A:Around} {E:Value->Shared->Prop} {s:Shared} {K:W.Frag} {x dx C f:Addr} {mA:Str->Option Value} {name:Str} {v:Value}
theorem Ko {expr:Bool} {Q:Value->Shared->Prop} (X:K.In s.heap) (I:ObjM s.heap x dx C mA) (hg:W.plainGet K C name=true) (hh:W.hasDictIn K C=true)
  (ha:W.findIn K (.ref C) name=some none) (hv:mA name=some v) (hv':W.handedIn v=true) (h:Q v {s with toks:=s.toks+1 }) :
  wpAny (model prog w) A (getAttr (.ref x) name expr) Q E s:=by
 obtain⟨od,J,hl⟩:=I.look
 exact W.get_value X J (W.plainGet_of hg).1 (W.findObj_own hh ha rfl (by rw[hl,hv])) hv' h
theorem Ei {pl:Sem Bool} {Q:Value × List Value->Shared->Prop} (X:K.In s.heap) (I:ObjM s.heap x dx C mA) (hg:W.plainGet K C name=true)
  (hf:W.findIn K (.ref C) name=some (some (.ref f))) (ht:W.isFn K (.ref f)=true) (hv:mA name=none) (h:Q (.ref f,[.ref x]) s) :
  wpAny (model prog w) A (getMethod (.ref x) name pl) Q E s:=by
 obtain⟨od,J,hl⟩:=I.look
 exact W.method_fn X J (W.plainGet_of hg).1 (W.plainGet_of hg).2 hf (beq_iff_eq.mp ht) (by show(W.lookIn name od).map (·.isSome)=some false;rw[hl,hv];rfl) h
theorem Kq {ns:List Str} {Q:Unit->Shared->Prop} (X:K.In s.heap) (I:ObjM s.heap x dx C mA)
  (hs:W.findIn K (.ref C) "__setattr__"=some (some (.builtin "object.__setattr__"))) (hp:W.plainOver K C=true) (ht:W.takerIn K C name=some none) (hh:W.hasDictIn K C=true)
  (hw:PySem.Within mA ns) (hsz:ns.length<=sizeLine)
  (h:∀h',ObjM h' x dx C (fun y=>if y=name then some v else mA y)->Heap.SameBut dx s.heap h'->Q () {s with heap:=h',toks:=s.toks+2 }) :
  wpAny (model prog w) A (setAttr (.ref x) name v) Q E s:=by
 obtain⟨od,J,hl⟩:=I.look
 refine W.set_plain X J hs (W.osa_open (s:={s with toks:=s.toks+1 }) (r:=none) X J hp ht fun b=>?_)
 obtain⟨cd,hc,hd'⟩:=W.any_some hh
 have hx:s.heap.get? x=some ⟨.ref C,some dx,.plain,#[]⟩:=I.obj
 refine wpAny_bind (wpAny_pure (wpAny_bind (wpAny_bind (wpAny_loadPart hx (wpAny_bind (W.Looks.here (s:={s with toks:=s.toks+1 }) (W.looks_clsIn X hc) ?_))))))
 rw[hd'];refine wpAny_pure (a:=some dx) (wpAny_bind (wpAny_pure (wpAny_bind ?_)))
 refine wpAny_nsSet1 (s:={s with toks:=s.toks+1 }) I.ns fun h' hn2 hs2=>?_
 obtain⟨oD,esD,epD,hoD,hdD,hcD⟩:=hn2.count (PySem.Within.cons name v hw)
 refine wpAny_bind (wpAny_lookBehind hoD (by rw[hdD];exact pastItsLine_dict (kK hcD (by rw[uR];omega))) ?_)
 exact wpAny_pure (h _ ⟨(hs2.2 _ (Ne.symm I.ne)).trans I.obj,hn2,I.ne⟩ hs2)
theorem Ej {R:Result->Shared->Prop} {vs:List Value} {kw:List (Str × Value)} (X:K.In s.heap) (hm:W.makesIn K C=true)
  (hi:W.findIn K (.ref C) "__init__"=some (some (.ref f))) (hf:W.typeIn K (.ref f)=some (.type "function"))
  (h:codeAny (model prog w) (A.under (.builtin "type.__call__" ⟨.ref C::vs,kw⟩)) (.call (.ref f) ⟨.ref (s.heap.objs.size+1)::vs,kw⟩) (W.InitBack (s.heap.objs.size+1) R)
   {s with heap:=(s.heap.push W.emptyDict).push (W.instObj C s.heap.objs.size) }) :
  codeAny (model prog w) A (.call (.ref C) ⟨vs,kw⟩) R s:=by
 obtain⟨hh,g,d,t,os⟩:=s
 exact W.make_core (W.makes_of X hm) (W.looks_findIn X hi) (fun self=>W.bind_fn X self hf) (.inl rfl) h
end
def bN (f:Str) (v:V):List (Str × V)->List (Str × V)
 | []=>[(f,v)]
 | (g,x)::r=>if g=f then (g,v)::r else (g,x)::bN f v r
theorem nG (f g:Str) (v:V):∀fs:List (Str × V),(bN f v fs).lookup g=if g=f then some v else fs.lookup g
 | []=>by
  show List.lookup g [(f,v)]=_
  by_cases h:g=f
  ·have hb:(g == f)=true:=beq_iff_eq.mpr h
   simp only [List.lookup,hb,if_pos h]
  ·have hb:(g == f)=false:=beq_eq_false_iff_ne.mpr h
   simp only [List.lookup,hb,if_neg h]
 | (k,x)::r=>by
  have ih:=nG f g v r
  rw[show bN f v ((k,x)::r)=(if k=f then (k,v)::r else (k,x)::bN f v r) from rfl];by_cases hk:k=f
  ·rw[if_pos hk];by_cases h:g=k
   ·have hb:(g == k)=true:=beq_iff_eq.mpr h
    simp only [List.lookup,hb,if_pos (h.trans hk)]
   ·have hb:(g == k)=false:=beq_eq_false_iff_ne.mpr h
    simp only [List.lookup,hb,if_neg (fun e:g=f=>h (e.trans hk.symm))]
  ·rw[if_neg hk];by_cases h:g=k
   ·have hb:(g == k)=true:=beq_iff_eq.mpr h
    simp only [List.lookup,hb,if_neg (fun e:g=f=>hk (h.symm.trans e))]
   ·have hb:(g == k)=false:=beq_eq_false_iff_ne.mpr h
    simp only [List.lookup,hb]
    exact ih
theorem mD (f:Str) (v:V):∀fs:List (Str × V),f∈(bN f v fs).map (·.1)/\∀g,g∈fs.map (·.1)->g∈(bN f v fs).map (·.1)
 | []=>⟨by simp [bN],fun g h=>by simp at h⟩
 | (k,x)::r=>by
  obtain⟨i1,i2⟩:=mD f v r
  rw[show bN f v ((k,x)::r)=(if k=f then (k,v)::r else (k,x)::bN f v r) from rfl];by_cases hk:k=f
  ·rw[if_pos hk];subst hk;exact⟨Zs,fun g h=>by simpa using h⟩
  ·rw[if_neg hk];refine⟨?_,fun g h=>?_⟩
   ·rw[List.map_cons];exact nY _ i1
   ·rw[List.map_cons]at h ⊢;rcases List.mem_cons.mp h with e | e
    ·exact List.mem_cons.mpr (.inl e)
    ·exact nY _ (i2 g e)
theorem nH (f:Str) (v:V):∀fs:List (Str × V),(bN f v fs).length<=fs.length+1
 | []=>by simp [bN]
 | (k,x)::r=>by
  have ih:=nH f v r
  rw[show bN f v ((k,x)::r)=(if k=f then (k,v)::r else (k,x)::bN f v r) from rfl];by_cases hk:k=f
  ·rw[if_pos hk,uR,uR];omega
  ·rw[if_neg hk,uR,uR];omega
theorem RelO.some_of {v:V} {o:Option Value} (r:RelO (some v) o):∃u,o=some u/\RelV v u:=by
 cases o with
 | none=>exact(show False from r).elim
 | some u=>exact⟨u,rfl,r⟩
theorem RelO.none_of {o:Option Value} (r:RelO none o):o=none:=by
 cases o with
 | none=>rfl
 | some u=>exact(show False from r).elim
theorem Br {v:V} {u:Value} (r:RelV v u):W.handedIn u=true:=by
 cases v with
 | non=>cases (show u=Value.none from r);rfl
 | bl b=>cases (show u=Value.bool b from r);rfl
 | int i=>obtain⟨t,e⟩:=(show ∃t,u=Value.int i t from r);cases e;rfl
 | str x=>obtain⟨t,e⟩:=(show ∃t,u=Value.str x t from r);cases e;rfl
 | byt b=>obtain⟨t,e⟩:=(show ∃t,u=Value.bytes b t from r);cases e;rfl
 | flt b=>obtain⟨t,e⟩:=(show ∃t,u=Value.float b t from r);cases e;rfl
 | ref a=>cases (show u=Value.ref a from r);rfl
 | ty n=>cases (show u=Value.type n from r);rfl
section
variable {P:Program} {w:World} {H H':Hp} {h h':Heap} {a C dx:Addr} {fs fs':List (Str × V)}
theorem oA (hok:HOk P w H h) (e:H a=some (.ins C dx fs)):∃mA,ObjM h a dx C mA/\(∀f,RelO (fs.lookup f) (mA f))/\PySem.Within mA (fs.map (·.1))/\fs.length<=1000/\H dx=some (.own a):=by
 obtain⟨d,z,ne,ob,mA,n,r,q⟩:=(show ObjOk P w H h a (.ins C dx fs) from hok a _ e)
 exact⟨mA,⟨ob,n,ne⟩,r,q,z,d⟩
end
structure Cls (K:W.Frag) (C:Addr):Prop where
 pg:W.plainGet K C Str.empty=true
 hd:W.hasDictIn K C=true
 po:W.plainOver K C=true
 sa:W.findIn K (.ref C) "__setattr__"=some (some (.builtin "object.__setattr__"))
theorem Cls.get {K:W.Frag} {C:Addr} (c:Cls K C) (f:Str):W.plainGet K C f=true:=c.pg
def NoAttr (K:W.Frag) (C:Addr) (f:Str):Prop:=W.findIn K (.ref C) f=some none
theorem NoAttr.taker {K:W.Frag} {C:Addr} {f:Str} (n:NoAttr K C f):W.takerIn K C f=some none:=by
 unfold W.takerIn;rw[show W.findIn K (.ref C) f=some none from n];rfl
structure Rr (K:W.Frag) (C:Addr) (m:Str) (f:Addr):Prop where
 at_:W.findIn K (.ref C) m=some (some (.ref f))
 fn:W.isFn K (.ref f)=true
 kp:W.keepIn K (.ref f)=true
section
variable {X:Cx} {pins:List (Addr × Obj)} {σ:St} {H:Hp} {s:Shared} {a C dx:Addr} {fs:List (Str × V)} {f:Str} {v:V} {A:Around} {E:Value->Shared->Prop}
theorem wZ {b:Bool} {Q:Value->Shared->Prop} (I:Inv X pins σ H s) (e:H a=some (.ins C dx fs)) (c:Cls X.K C) (n:NoAttr X.K C f) (l:fs.lookup f=some v)
  (h:∀u s',Inv X pins σ H s'->RelV v u->Q u s'):wpAny (model X.prog X.w) A (getAttr (.ref a) f b) Q E s:=by
 obtain⟨mA,O,r,_,_,_⟩:=oA I.hok e
 obtain⟨u,hu,ru⟩:=RelO.some_of (v:=v) (o:=mA f) (by rw[<- l];exact r f)
 exact Ko I.kIn O (c.get f) c.hd n hu (Br ru) (h u _ (I.tok _) ru)
theorem xA {m:Str} {g:Addr} {pl:Sem Bool} {Q:Value × List Value->Shared->Prop} (I:Inv X pins σ H s) (e:H a=some (.ins C dx fs)) (c:Cls X.K C) (k:Rr X.K C m g) (l:fs.lookup m=none)
  (h:Q (.ref g,[.ref a]) s):wpAny (model X.prog X.w) A (getMethod (.ref a) m pl) Q E s:=by
 obtain⟨mA,O,r,_,_,_⟩:=oA I.hok e
 have hn:mA m=none:=RelO.none_of (by rw[<- l];exact r m)
 exact Ei I.kIn O (c.get m) k.at_ k.fn hn h
theorem xB {y:V} {u:Value} {Q:Unit->Shared->Prop} (I:Inv X pins σ H s) (e:H a=some (.ins C dx fs)) (c:Cls X.K C) (n:NoAttr X.K C f) (hl:fs.length<1000) (ry:RelV y u)
  (h:∀s',Inv X pins σ (aJ H a (.ins C dx (bN f y fs))) s'->Q () s'):wpAny (model X.prog X.w) A (setAttr (.ref a) f u) Q E s:=by
 obtain⟨mA,O,r,wi,_,ho⟩:=oA I.hok e
 have hz:(fs.map (·.1)).length<=sizeLine:=by rw[bG,sizeLine_eq];omega
 refine Kq I.kIn O c.sa c.po n.taker c.hd wi hz fun h' O' sb=>h _ ?_
 have hd:∃o,h'.get? dx=some o:=let ⟨o,_,_,e',_⟩:=O'.ns;⟨o,e'⟩
 refine I.write (x:=a) (e:=dx) (by rw[e];exact True.intro) (.inr ho) (fun b q hb z=>(sb.2 b hb).trans z) hd ?_
 refine⟨by rw[aD O.ne];exact ho,?_,O.ne,O'.obj,_,O'.ns,fun g=>?_,fun g hg=>?_⟩
 ·have:=nH f y fs;omega
 ·show RelO ((bN f y fs).lookup g) (if g=f then some u else mA g)
  rw[nG];by_cases q:g=f
  ·rw[if_pos q,if_pos q];exact ry
  ·rw[if_neg q,if_neg q];exact r g
 ·by_cases q:g=f
  ·rw[q];exact(mD f y fs).1
  ·refine(mD f y fs).2 g (wi g fun z=>hg ?_)
   show(if g=f then some u else mA g)=none
   rw[if_neg q];exact z
theorem Inv.made (I:Inv X pins σ H s):Inv X pins σ (aJ (aJ H s.heap.objs.size (.own (s.heap.objs.size+1))) (s.heap.objs.size+1) (.ins C s.heap.objs.size []))
  {s with heap:=(s.heap.push W.emptyDict).push (W.instObj C s.heap.objs.size) }:=by
 have e1:(s.heap.push W.emptyDict).get? s.heap.objs.size=some W.emptyDict:=Heap.get?_push_size s.heap rfl
 have e2:((s.heap.push W.emptyDict).push (W.instObj C s.heap.objs.size)).get? (s.heap.objs.size+1)=some (W.instObj C s.heap.objs.size):=by
  have:=Heap.get?_push_size (s.heap.push W.emptyDict) (o:=W.instObj C s.heap.objs.size) rfl
  rwa [Heap.size_push]at this
 have e3:(s.heap.push W.emptyDict).Ns s.heap.objs.size (fun _=>none):=⟨W.emptyDict,#[],_,e1,rfl,(fun e he=>absurd he Zs),fun _=>rfl⟩
 have I1:=I.laid (a:=s.heap.objs.size) (o:=.own (s.heap.objs.size+1)) (h':=s.heap.push W.emptyDict) (t':=s.toks) (fun b u q=>fP _ q) (bM _) ⟨_,e1⟩
 refine I1.laid (a:=s.heap.objs.size+1) (o:=.ins C s.heap.objs.size []) (t':=s.toks) (fun b u q=>fP _ q) (Nat.le_of_eq (Heap.size_push _ _)) ?_
 have ne:s.heap.objs.size≠s.heap.objs.size+1:=Nat.ne_of_lt (Nat.lt_succ_self _)
 refine⟨by rw[aD ne,aA],Nat.zero_le _,ne,e2,fun _=>none,(Heap.Ns1.of_empty e3).at fun o q=>fP _ q,fun _=>True.intro,fun y hy=>absurd rfl hy⟩
theorem Kr {prog:Program} {w:World} {env:Env} {e:Expr} {f:Str} {pos:Pos} {s:Shared} {Q:Value->Shared->Prop} (hb:attributeBase e f env (eval e env)=eval e env)
  (h:wpAny (model prog w) A (eval e env) (fun o s₁=>wpAny (model prog w) A (getAttr o f true) Q E s₁) E s):wpAny (model prog w) A (eval (.Attribute e f pos) env) Q E s:=
 Attribute_any_ h (by rw[arm_eval_Attribute,hb])
end
section
variable {X:Cx} {pins:List (Addr × Obj)} {σ:St} {H:Hp} {s:Shared} {A:Around} {E:Value->Shared->Prop} {Q:Value->Shared->Prop} {c:Value} {b:Bool}
inductive kW (K:W.Frag) (H:Hp):V->Value->Prop where
 | non:kW K H .non (.type "NoneType")
 | bl (x:Bool):kW K H (.bl x) (.type "bool")
 | int (i:Int):kW K H (.int i) (.type "int")
 | str (x:Str):kW K H (.str x) (.type "str")
 | flt (x:UInt64):kW K H (.flt x) (.type "float")
 | lst {a:Addr} {xs:List V} (e:H a=some (.lst xs)):kW K H (.ref a) (.type "list")
 | frz {a:Addr} {o:Obj} {xs:List V} (e:H a=some (.frz o (.lst xs))):kW K H (.ref a) (.type "list")
 | tup {a:Addr} {xs:List V} (e:H a=some (.tup xs)):kW K H (.ref a) (.type "tuple")
 | dK {a:Addr} {kvs:List (aT × V)} (e:H a=some (.dK kvs)):kW K H (.ref a) (.type "dict")
 | dT {a:Addr} {kvs:List (List aT × V)} (e:H a=some (.dT kvs)):kW K H (.ref a) (.type "dict")
 | ins {a C dx:Addr} {fs:List (Str × V)} (e:H a=some (.ins C dx fs)) (cl:Cls K C) (ha:W.findIn K (.ref C) "__class__"=some (some (.builtin "object.__class__")))
   (hn:W.specialIn K (.builtin "object.__class__") "__get__"=some (some (.builtin "getset_descriptor.__get__"))) (htk:W.takesIn K (.builtin "object.__class__")=some true)
   (hm:W.mroIn K C (.type "object")=some true):kW K H (.ref a) (.ref C)
theorem Bs {x:V} {u t:Value} (I:Inv X pins σ H s) (rx:RelV x u) (ty:kW X.K H x t) (e:W.kitOne X.K t c=some b) (h:∀tk,Q (.bool b) {s with toks:=tk }) :
  wpAny (model X.prog X.w) A (call (.builtin "isinstance") [u,c]) Q E s:=by
 cases ty with
 | non=>cases (show u=Value.none from rx);exact W.kia_one W.kitx_none I.kIn True.intro e (fun z=>nomatch z) h
 | bl y=>cases (show u=Value.bool y from rx);exact W.kia_one W.kitx_bool I.kIn True.intro e (fun z=>nomatch z) h
 | int i=>obtain⟨t,q⟩:=(show ∃t,u=Value.int i t from rx);cases q;exact W.kia_one W.kitx_int I.kIn True.intro e (fun z=>nomatch z) h
 | str y=>obtain⟨t,q⟩:=(show ∃t,u=Value.str y t from rx);cases q;exact W.kia_one W.kitx_str I.kIn True.intro e (fun z=>nomatch z) h
 | flt y=>obtain⟨t,q⟩:=(show ∃t,u=Value.float y t from rx);cases q;exact W.kia_one W.kitx_float I.kIn True.intro e (fun z=>nomatch z) h
 | @lst a xs ea=>
  cases (show u=Value.ref a from rx)
  obtain⟨_,_,n,_,h1⟩:=(show ObjOk X.prog X.w H s.heap a (.lst xs) from I.hok a _ ea)
  exact W.kia_one W.kitx_list I.kIn ⟨_,h1,rfl⟩ e (fun z=>nomatch z) h
 | @frz a ob xs ea=>
  cases (show u=Value.ref a from rx)
  obtain⟨_,_,_,n,_,h1⟩:=(show ObjOk X.prog X.w H s.heap a (.frz ob (.lst xs)) from I.hok a _ ea)
  exact W.kia_one W.kitx_list I.kIn ⟨_,h1,rfl⟩ e (fun z=>nomatch z) h
 | @tup a xs ea=>
  cases (show u=Value.ref a from rx)
  obtain⟨_,_,_,p⟩:=(show ObjOk X.prog X.w H s.heap a (.tup xs) from I.hok a _ ea)
  obtain⟨o,h1,h2,_⟩:=p
  exact W.kia_one W.kitx_tuple I.kIn ⟨o,h1,h2⟩ e (fun z=>nomatch z) h
 | @dK a kvs ea=>
  cases (show u=Value.ref a from rx)
  obtain⟨_,_,vs,_,p⟩:=(show ObjOk X.prog X.w H s.heap a (.dK kvs) from I.hok a _ ea)
  obtain⟨o,es,ep,h1,h2,_⟩:=p
  exact W.kia_one W.kitx_dict I.kIn ⟨o,h1,h2.1⟩ e (fun z=>nomatch z) h
 | @dT a kvs ea=>
  cases (show u=Value.ref a from rx)
  obtain⟨_,_,xs,_,o,es,ep,h1,h2,_⟩:=(show ObjOk X.prog X.w H s.heap a (.dT kvs) from I.hok a _ ea)
  exact W.kia_one W.kitx_dict I.kIn ⟨o,h1,h2.1⟩ e (fun z=>nomatch z) h
 | @ins a C dx fs ea cl ha hn htk hm=>
  cases (show u=Value.ref a from rx)
  obtain⟨mA,O,_⟩:=oA I.hok ea
  obtain⟨od,J,_⟩:=O.look
  exact W.kia_one (W.kitx_own (cl.get _) cl.hd ha hn htk hm) I.kIn J e (fun z=>nomatch z) h
end
end L2
namespace L2
open PySem PySem.Spec PyProof.Rows
structure Room (k:Nat) (A:Around):Prop where
 hd:A.handled=none
 dp:A.depth+3*k+5<recursionLimit
 un:A.units+16*k+200<cLine
theorem Room.mono {j k:Nat} {A:Around} (r:Room k A) (h:j<=k):Room j A:=⟨r.hd,by have:=r.dp;omega,by have:=r.un;omega⟩
theorem Room.deeper {k:Nat} {A:Around} (r:Room (k+1) A) (env:Env):Room k (A.deeper env):=
 ⟨r.hd,by have:=r.dp;show A.depth+1+3*k+5<_;omega,by have:=r.un;show A.units+3+16*k+200<_;omega⟩
theorem xC {A:Around} {C:Addr} {us:List Value} {kw:List (Str × Value)}:(A.under (.builtin "type.__call__" ⟨.ref C::us,kw⟩)).depth=A.depth+1:=by
 first | rfl | simp [Around.under,Code.weight,Code.isCreation,Code.isGuard,Code.isCaller,Code.frames,Code.isFrame,guardIds]
theorem xD {A:Around} {C:Addr} {us:List Value} {kw:List (Str × Value)}:(A.under (.builtin "type.__call__" ⟨.ref C::us,kw⟩)).units=A.units+1:=by
 first | rfl | simp [Around.under,Code.cUnits,Code.frames,Code.isFrame]
theorem Room.make {k:Nat} {A:Around} (r:Room (k+1) A) (C:Addr) (us:List Value) (kw:List (Str × Value)):Room k (A.under (.builtin "type.__call__" ⟨.ref C::us,kw⟩)):=
 ⟨r.hd,by have:=r.dp;rw[xC];omega,by have:=r.un;rw[xD];omega⟩
theorem Room.depth {k:Nat} {A:Around} (r:Room k A):A.depth<recursionLimit:=by have:=r.dp;omega
theorem Room.units {k:Nat} {A:Around} (r:Room k A):A.units+64<cLine:=by have:=r.un;omega
theorem Room.units0 {k:Nat} {A:Around} (r:Room k A):A.units<cLine:=by have:=r.un;omega
def sV:TA:=fun _ H Q=>Q [] H
def jB (ta:TE) (tr:TA):TA:=fun σ H Q=>ta σ H fun x H1=>tr σ H1 fun xs H2=>Q (x::xs) H2
section
variable {X:Cx} {e:Expr} {es:List Expr} {te:TE} {t:TA} {pos:Pos}
theorem sW:PA X [] sV:=fun _ _ _ _ H Q I h=>Calls.spliced_nil ⟨[],H,I,.nil,h⟩
theorem sX (ha:PE X e te) (hr:PA X es t) (hs:starEach (e::es) X.env=(false,eval e X.env)::starEach es X.env:=by rfl):PA X (e::es) (jB te t):=by
 intro pos pins s σ H Q I h;rw[hs];show wpAny _ _ (spliced ((false,eval e X.env)::backTo pos (starEach es X.env))) _ _ s
 refine Calls.spliced_cons (bV (ha pins s σ H _ I h) fun u s1 ⟨x,H1,I1,r1,q1⟩=>?_)
 exact bV (hr pos pins s1 σ H1 _ I1 q1) fun us s2 ⟨xs,H2,I2,r2,q2⟩=>⟨x::xs,H2,I2,.cons r1 r2,q2⟩
def Vs (t:TA):TE:=fun σ H Q=>t σ H fun xs H1=>xs.length<=sizeLine/\∀p,H1 p=none->Q (.ref p) (aJ H1 p (.tup xs))
def Vt (t:TA):TE:=fun σ H Q=>t σ H fun xs H1=>xs.length<=sizeLine/\∀p,H1 p=none->Q (.ref p) (aJ H1 p (.lst xs))
theorem Rs {x1} (h:PA X es t):PE X (.Tuple es x1 pos) (Vs t):=by
 intro pins s σ H Q I hq;refine wpAny_Tuple_spliced (bV (h pos pins s σ H _ I hq) fun us s1 ⟨xs,H1,I1,r,z,q⟩=>⟨by rw[<- r.length];exact z,?_⟩)
 have hf:H1 s1.heap.objs.size=none:=I1.hok.fresh (bM _)
 refine⟨.ref s1.heap.objs.size,aJ H1 s1.heap.objs.size (.tup xs),I1.laid (t':=s1.toks) (fun b u e=>fP _ e) (bM _) ?_,rfl,q _ hf⟩
 exact⟨z,us,r,⟨_,Heap.get?_push_size _ rfl,rfl,_,rfl⟩⟩
theorem Rt (h:PA X es t):PE X (.List es pos) (Vt t):=by
 intro pins s σ H Q I hq;refine wpAny_List_spliced (bV (h pos pins s σ H _ I hq) fun us s1 ⟨xs,H1,I1,r,z,q⟩=>⟨by rw[<- r.length];exact z,?_⟩)
 have hf:H1 s1.heap.objs.size=none:=I1.hok.fresh (bM _)
 refine⟨.ref s1.heap.objs.size,aJ H1 s1.heap.objs.size (.lst xs),I1.laid (t':=s1.toks) (fun b u e=>fP _ e) (bM _) ?_,rfl,q _ hf⟩
 exact⟨z,us,0,r,Heap.get?_push_size _ rfl⟩
end
abbrev Sp:=List V->Hp->VK->XK->Prop
abbrev Ju:=List Env->Hp->Shared->XK->Value->Shared->Prop
structure Env0 (P:Program) (w:World) (K:W.Frag) (mg:Str->Option Value) (base:Heap) (A:Around) (outer:List Env) (s:Shared) (H:Hp):Prop where
 frames:A.frames=some outer
 mod:Mod K mg base
 bs:∀b o,base.get? b=some o->s.heap.get? b=some o/\H b=none
 bsz:base.objs.size<=s.heap.objs.size
 funs:s.heap.FunFrames base outer
 frf:∀b∈Dv outer,H b=none
 hok:HOk P w H s.heap
 bare:AllBare s.gens
def CE (outer:List Env) (P:Program) (w:World) (H:Hp) (s:Shared) (Q:VK) (u:Value) (s':Shared):Prop:=
 ∃v H',s'.os=s.os/\AllBare s'.gens/\Un (Dv outer) [] H H' s.heap s'.heap/\HOk P w H' s'.heap/\RelV v u/\Q v H'
def CR (CX:Ju) (outer:List Env) (P:Program) (w:World) (H:Hp) (s:Shared) (Q:VK) (E:XK) (r:Result) (s':Shared):Prop:=
 match r with
 | .ok (.ret u)=>CE outer P w H s Q u s'
 | .ok _=>False
 | .error e=>CX outer H s E e s'
structure jG (P:Program) (w:World) (K:W.Frag) (mg:Str->Option Value) (base:Heap) (CX:Ju) (k:Nat) (f:Addr) (fd:FuncData) (ps:List Str) (sp:Sp):Prop where
 len:∀vs H Q E,sp vs H Q E->vs.length=ps.length
 run:∀(A:Around) (outer:List Env) (s:Shared) (H:Hp) (args:Args) (us:List Value) (vs:List V) (Q:VK) (E:XK),Room k A->Env0 P w K mg base A outer s H->BindsTo s fd args (ps.zip us)->Vals vs us->sp vs H Q E →
  codeAny (model P w) A (.call (.ref f) args) (CR CX outer P w H s Q E) s
theorem Env0.make {P:Program} {w:World} {K:W.Frag} {mg:Str->Option Value} {base:Heap} {A:Around} {outer:List Env} {s:Shared} {H:Hp} (e:Env0 P w K mg base A outer s H) (C:Addr) (us:List Value) (kw:List (Str × Value)) :
  Env0 P w K mg base (A.under (.builtin "type.__call__" ⟨.ref C::us,kw⟩)) outer s H:=⟨by first | exact e.frames | (simpa [Around.under,Code.envs,Code.isFrame,pushEnvs]using e.frames),e.mod,e.bs,e.bsz,e.funs,e.frf,e.hok,e.bare⟩
section
variable {X:Cx} {pins:List (Addr × Obj)} {σ:St} {H:Hp} {s s':Shared}
theorem Inv.env0 (I:Inv X pins σ H s):Env0 X.prog X.w X.K X.mg X.base X.A X.stack s H:=
 ⟨I.ok.frames,I.ok.mod,I.bs,kK I.ok.bsz I.sz,I.stack,I.stkFree,I.hok,I.bare⟩
theorem Inv.after {Q:VK} {u:Value} (I:Inv X pins σ H s) (h:CE X.stack X.prog X.w H s Q u s'):EP X pins σ Q u s':=by
 obtain⟨v,H',os,bare,un,hok,r,q⟩:=h
 obtain⟨hh,g,d,t,os'⟩:=s'
 obtain rfl:os'=s.os:=os
 exact⟨v,H',I.call (h':=hh) (g':=g) (d':=d) (t':=t) (ch:=[]) un hok bare (fun b z=>absurd z Zs),r,q⟩
end
def Vu (sp:Sp) (dvs:List V) (E:XK) (t:TA):TE:=fun σ H Q=>t σ H fun vs H1=>sp (vs++dvs) H1 Q E
def yX (C:Addr) (sp:Sp) (dvs:List V) (E:XK) (t:TA):TE:=fun σ H Q=>t σ H fun vs H1=>∀x dx,H1 x=none->H1 dx=none->dx≠x →
 sp (.ref x::(vs++dvs)) (aJ (aJ H1 dx (.own x)) x (.ins C dx [])) (fun v H2=>v=.non/\Q (.ref x) H2) E
def Binds (K:W.Frag) (fd:FuncData) (ps:List Str) (ds:List Value):Prop:=
 ∀(s:Shared) (us:List Value),K.In s.heap->(us++ds).length=ps.length->BindsTo s fd ⟨us,[]⟩ (ps.zip (us++ds))
theorem Binds.all {K:W.Frag} {fd:FuncData} {ps:List Str} (h:∀us:List Value,us.length=ps.length->bindArgs fd ⟨us,[]⟩=pure (ps.zip us)):Binds K fd ps []:=fun s us _ hl=>by
 rw[List.append_nil]at hl ⊢;exact .of_eq (h us hl)
def mE (CX:Ju) (X:Cx) (E:XK):Prop:=∀(pins:List (Addr × Obj)) (σ:St) (H:Hp) (s:Shared) (e:Value) (s':Shared),Inv X pins σ H s->CX X.stack H s E e s'->X.xe e s'
section
variable {X:Cx} {CX:Ju} {k:Nat} {f C:Addr} {fd:FuncData} {ps:List Str} {sp:Sp} {dvs:List V} {ds:List Value} {E:XK} {x m:Str} {p pos apos:Pos} {e o:Expr} {es:List Expr} {ta:TE} {t:TA}
theorem Ek {pins:List (Addr × Obj)} {σ:St} {H:Hp} {s:Shared} {Q:VK} {us:List Value} {vs:List V} (F:jG X.prog X.w X.K X.mg X.base CX k f fd ps sp) (hr:Room k X.A) (hb:Binds X.K fd ps ds) (hd:Vals dvs ds) (hx:mE CX X E)
  (I:Inv X pins σ H s) (r:Vals vs us) (h:sp (vs++dvs) H Q E):wpAny (model X.prog X.w) X.A (call (.ref f) us) (EP X pins σ Q) X.xe s:=by
 have r2:Vals (vs++dvs) (us++ds):=r.append hd
 have hl:(us++ds).length=ps.length:=by rw[<- r2.length];exact F.len _ _ _ _ h
 refine wpAny_call (codeAny_mono (F.run X.A X.stack s H ⟨us,[]⟩ (us++ds) (vs++dvs) Q E hr I.env0 (hb s us I.kIn hl) r2 h) fun r s' hq=>?_)
 cases r with
 | error e=>exact hx pins σ H s e s' I hq
 | ok fl=>
  cases fl with
  | ret u=>exact I.after hq
  | next=>exact False.elim hq
  | brk=>exact False.elim hq
  | cont=>exact False.elim hq
theorem Ks (F:jG X.prog X.w X.K X.mg X.base CX k f fd ps sp) (hr:Room k X.A) (hg:Gl X x) (hm:X.mg x=some (.ref f)) (hk:W.keepIn X.K (.ref f)=true) (hb:Binds X.K fd ps ds) (hd:Vals dvs ds) (hx:mE CX X E)
  (ha:PA X (e::es) t) (hdb:(x == ("__debug__":Str))=false:=by decide) (he:starEach (e::es) X.env=(false,eval e X.env)::starEach es X.env:=by rfl) (hpl:(backTo pos (starEach es X.env)).any (·.1)=false:=by rfl) :
  PE X (.Call (.Name x p) (e::es) [] pos) (Vu sp dvs E t):=by
 intro pins s σ H Q I h;refine wpAny_Call_Name_kw (nZ I hg hm ?_ hdb)
 refine W.callWith_K (h₀:=X.base) I.ok.mod.kin hk (bV (ha pos pins s σ H _ I h) fun us s1 ⟨vs,H1,I1,r,q⟩=>⟨I1.kIn,?_⟩) he hpl
 exact Ek F hr hb hd hx I1 r q
structure Mk (K:W.Frag) (C f:Addr):Prop where
 makes:W.makesIn K C=true
 init:W.findIn K (.ref C) "__init__"=some (some (.ref f))
 fn:W.isFn K (.ref f)=true
 kp:W.keepIn K (.ref C)=true
theorem uX {pins:List (Addr × Obj)} {σ:St} {H:Hp} {s:Shared} {Q:VK} {us:List Value} {vs:List V} (M:Mk X.K C f) (F:jG X.prog X.w X.K X.mg X.base CX k f fd ps sp) (hr:Room (k+1) X.A) (hb:Binds X.K fd ps ds) (hd:Vals dvs ds)
  (hx:mE CX X E) (I:Inv X pins σ H s) (r:Vals vs us)
  (h:∀x dx,H x=none->H dx=none->dx≠x->sp (.ref x::(vs++dvs)) (aJ (aJ H dx (.own x)) x (.ins C dx [])) (fun v H2=>v=.non/\Q (.ref x) H2) E) :
  wpAny (model X.prog X.w) X.A (call (.ref C) us) (EP X pins σ Q) X.xe s:=by
 have hq:=h (s.heap.objs.size+1) s.heap.objs.size (I.hok.fresh (Nat.le_succ _)) (I.hok.fresh (bM _)) (Nat.ne_of_lt (Nat.lt_succ_self _))
 have I2:=Inv.made (C:=C) I
 have r2:Vals (V.ref (s.heap.objs.size+1)::(vs++dvs)) (Value.ref (s.heap.objs.size+1)::(us++ds)):=.cons rfl (r.append hd)
 have hl:(Value.ref (s.heap.objs.size+1)::us++ds).length=ps.length:=by
  have e:=r2.length
  rw[F.len _ _ _ _ hq]at e;exact e.symm
 refine wpAny_call (Ej (f:=f) I.kIn M.makes M.init (beq_iff_eq.mp M.fn) (codeAny_mono (F.run _ X.stack _ _ ⟨Value.ref (s.heap.objs.size+1)::us,[]⟩ (Value.ref (s.heap.objs.size+1)::(us++ds)) _ _ E (hr.make C us [])
  (I2.env0.make C us []) (hb _ (Value.ref (s.heap.objs.size+1)::us) I2.kIn hl) r2 hq) fun r s' hq'=>?_))
 cases r with
 | error e=>exact hx pins σ _ _ e s' I2 hq'
 | ok fl=>
  cases fl with
  | ret u=>
   obtain⟨v,H',I3,rv,ev,q3⟩:=I2.after hq'
   subst ev;exact⟨rv,⟨V.ref (s.heap.objs.size+1),H',I3,rfl,q3⟩⟩
  | next=>exact False.elim hq'
  | brk=>exact False.elim hq'
  | cont=>exact False.elim hq'
theorem Kt (M:Mk X.K C f) (F:jG X.prog X.w X.K X.mg X.base CX k f fd ps sp) (hr:Room (k+1) X.A) (hg:Gl X x) (hm:X.mg x=some (.ref C)) (hb:Binds X.K fd ps ds) (hd:Vals dvs ds) (hx:mE CX X E)
  (ha:PA X (e::es) t) (hdb:(x == ("__debug__":Str))=false:=by decide) (he:starEach (e::es) X.env=(false,eval e X.env)::starEach es X.env:=by rfl) (hpl:(backTo pos (starEach es X.env)).any (·.1)=false:=by rfl) :
  PE X (.Call (.Name x p) (e::es) [] pos) (yX C sp dvs E t):=by
 intro pins s σ H Q I h;refine wpAny_Call_Name_kw (nZ I hg hm ?_ hdb)
 refine W.callWith_K (h₀:=X.base) I.ok.mod.kin M.kp (bV (ha pos pins s σ H _ I h) fun us s1 ⟨vs,H1,I1,r,q⟩=>⟨I1.kIn,?_⟩) he hpl
 exact uX M F hr hb hd hx I1 r q
theorem El (M:Mk X.K C f) (F:jG X.prog X.w X.K X.mg X.base CX k f fd ps sp) (hr:Room (k+1) X.A) (hg:Gl X x) (hm:X.mg x=some (.ref C)) (hb:Binds X.K fd ps ds) (hd:Vals dvs ds) (hx:mE CX X E)
  (hdb:(x == ("__debug__":Str))=false:=by decide):PE X (.Call (.Name x p) [] [] pos) (yX C sp dvs E sV):=by
 intro pins s σ H Q I h;refine wpAny_Call_Name_kw (nZ I hg hm ?_ hdb)
 exact W.callWith_K0 I.kIn M.kp (uX (us:=[]) M F hr hb hd hx I .nil h)
end
structure aI (N P:List Str) (sc:Scope):Prop where
 kind:sc.kind=.function
 co:sc.isCoroutine=false
 gen:sc.isGenerator=false
 nd:N.Nodup
 pre:N.take P.length=P
 par:∀x∈P,sc.names.lookup x=some .local∨sc.names.lookup x=some .cell
 nofree:∀y∈sc.names,y.2≠.free
theorem rC {kindOf:Str->Option NameKind} {x:Str}:∀ {binds:List (Str × Value)} {m:Str->Option Value},(∀v,(x,v)∉binds)->bindL kindOf binds m x=m x
 | [],_,_=>rfl
 | (n,v)::r,m,h=>by
  unfold bindL;rw[rC fun w hw=>h w (nY _ hw)]
  split
  ·have:x≠n:=by rintro rfl;exact h v kG
   simp [this]
  ·rfl
theorem rD {kindOf:Str->Option NameKind} {x:Str}:∀ {binds:List (Str × Value)} {m:Str->Option Value},(∀v,(x,v)∉binds)->bindC kindOf binds m x=m x
 | [],_,_=>rfl
 | (n,v)::r,m,h=>by
  unfold bindC;rw[rD fun w hw=>h w (nY _ hw)]
  split
  ·rfl
  ·have:x≠n:=by rintro rfl;exact h v kG
   simp [this]
theorem rE {kindOf:Str->Option NameKind} {x:Str} {v:Value}:∀ {P:List Str} {vs:List Value} {i:Nat} {m:Str->Option Value},P.Nodup->P[i]?=some x->vs[i]?=some v->kindOf x=some .local →
  bindL kindOf (P.zip vs) m x=some v
 | [],_,_,_,_,h,_,_=>by simp at h
 | _::_,[],_,_,_,_,h,_=>by simp at h
 | p::P,w::vs,0,m,nd,h1,h2,hk=>by
  simp at h1 h2;subst h1;subst h2
  show bindL kindOf ((p,w)::P.zip vs) m p=_
  unfold bindL;rw[rC fun v hv=>(List.nodup_cons.mp nd).1 (List.of_mem_zip hv).1,if_pos hk]
  simp
 | p::P,w::vs,i+1,m,nd,h1,h2,hk=>by
  show bindL kindOf ((p,w)::P.zip vs) m x=_
  unfold bindL;exact rE (i:=i) (List.nodup_cons.mp nd).2 (by simpa using h1) (by simpa using h2) hk
theorem rF {kindOf:Str->Option NameKind} {x:Str} {v:Value}:∀ {P:List Str} {vs:List Value} {i:Nat} {m:Str->Option Value},P.Nodup->P[i]?=some x->vs[i]?=some v->kindOf x≠some .local →
  bindC kindOf (P.zip vs) m x=some v
 | [],_,_,_,_,h,_,_=>by simp at h
 | _::_,[],_,_,_,_,h,_=>by simp at h
 | p::P,w::vs,0,m,nd,h1,h2,hk=>by
  simp at h1 h2;subst h1;subst h2
  show bindC kindOf ((p,w)::P.zip vs) m p=_
  unfold bindC;rw[rD fun v hv=>(List.nodup_cons.mp nd).1 (List.of_mem_zip hv).1,if_neg hk]
  simp
 | p::P,w::vs,i+1,m,nd,h1,h2,hk=>by
  show bindC kindOf ((p,w)::P.zip vs) m x=_
  unfold bindC;exact rF (i:=i) (List.nodup_cons.mp nd).2 (by simpa using h1) (by simpa using h2) hk
def start (N:List Str) (vs:List V):St:=vs.map some++List.replicate (N.length - vs.length) none
def kX (CX:Ju) (P:Program) (w:World) (K:W.Frag) (mg:Str->Option Value) (base:Heap) (N:List Str) (qual:Str) (scope:Scope) (f:Addr) (cd:Value) (A:Around) (outer:List Env) (s:Shared) (H:Hp) (E:XK):Cx where
 prog:=P
 w:=w
 K:=K
 mg:=mg
 base:=base
 A:=A.deeper (envOfC qual scope s.heap.objs.size f cd)
 N:=N
 s₀:=s
 H₀:=H
 env:=envOfC qual scope s.heap.objs.size f cd
 outer:=outer
 stack:=envOfC qual scope s.heap.objs.size f cd::outer
 ex:=[]
 calm:=true
 fn:=fun _=>true
 pn:=[]
 xe:=fun e s'=>wpAny (model P w) (A.deeper (envOfC qual scope s.heap.objs.size f cd)) (leaving (envOfC qual scope s.heap.objs.size f cd) e) (fun _ s''=>CX outer H s E e s'') (fun e' s''=>CX outer H s E e' s'') s'
theorem uY {sc:Scope} {n:Nat} {x:Str} (h:sc.names.lookup x=some .cell):∃c,(cellsFrom n sc.names []).lookup x=some c:=by
 have q:=W.cellsFrom_some sc.names n [] (.inl h)
 exact Option.isSome_iff_exists.mp q
theorem Bt {CX:Ju} {P:Program} {w:World} {K:W.Frag} {mg:Str->Option Value} {base:Heap} {N ps:List Str} {qual:Str} {scope:Scope} {f:Addr} {cd:Value} {A:Around} {outer:List Env} {s s1:Shared} {H:Hp} {E:XK} {us:List Value} {vs:List V}
  (S:aI N ps scope) (hd:A.handled=none) (e0:Env0 P w K mg base A outer s H) (hl:vs.length=ps.length) (r:Vals vs us)
  (x:InCallC s s.heap.objs.size (bindL (envOfC qual scope s.heap.objs.size f cd).kindOf (ps.zip us) fun _=>none) (cellsFrom (s.heap.objs.size+1) scope.names []) (bindC (envOfC qual scope s.heap.objs.size f cd).kindOf (ps.zip us) fun _=>none) s1) :
  Inv (kX CX P w K mg base N qual scope f cd A outer s H E) [] (start N vs) H s1:=by
 have hpl:ps.length<=N.length:=by have:=congrArg List.length S.pre;rw[nF]at this;omega
 obtain⟨h1,tk,rfl,hk⟩:=x.done
 have noA:∀b:Addr,b∉(kX CX P w K mg base N qual scope f cd A outer s H E).ex:=fun b z=>absurd (show b∈([]:List Addr) from z) Zs
 refine⟨⟨e0.mod,S.kind,rfl,rfl,bM _,fun y z c h1 h2=>?_,fun y hy=>?_,fun y c _ h=>?_,fun _=>hd,Around.frames_deeper e0.frames,.inr ⟨rfl,rfl⟩,fun b z=>absurd z (noA b),e0.bs,e0.bsz,fun b _ _=>noA b,fun b z=>absurd z (noA b),e0.funs,e0.frf⟩,
  rfl,e0.bare,Un.kept hk,⟨_,x.toInCall.ns,fun i y v h1 h2 h3=>?_⟩,fun y c h=>⟨_,x.cell y c h⟩,e0.hok.fresh (bM _),fun y c h=>?_,fun p hp=>absurd (show p∈([]:List (Addr × Obj)) from hp) Zs,e0.hok.kept hk,?_⟩
 ·exact name_of_addr x.apart (PySem.mem_of_lookup h1) (PySem.mem_of_lookup h2)
 ·have hy:scope.names.lookup y=some .cell∨scope.names.lookup y=some .free:=hy
  rcases hy with hy | hy
  ·exact uY hy
  ·exact absurd rfl (S.nofree _ (PySem.mem_of_lookup hy))
 ·exact Nat.le_of_lt (x.above y c (PySem.mem_of_lookup h))
 ·have hi:i<vs.length:=by
   unfold start at h2;by_cases hi:i<vs.length
   ·exact hi
   ·rw[List.getElem?_append_right (by simpa using hi)]at h2
    rw[List.getElem?_replicate]at h2;split at h2 <;> cases h2
  have ha:vs[i]?=some v:=by
   unfold start at h2;rw[List.getElem?_append_left (by simpa using hi),kE]at h2
   cases e:vs[i]? with
   | none=>rw[e]at h2;cases h2
   | some a=>rw[e]at h2;cases h2;rfl
  obtain⟨u,hu,rv⟩:=r.get ha
  have hp:ps[i]?=some y:=by
   rw[<- S.pre,List.getElem?_take_of_lt Zo];exact h1
  have ndP:ps.Nodup:=by rw[<- S.pre];exact S.nd.sublist (List.take_sublist _ _)
  refine⟨u,rv,?_⟩
  rcases S.par y (gX hp) with k | k
  ·exact .inl ⟨k,rE ndP hp hu k⟩
  ·obtain⟨c,e⟩:=uY (n:=s.heap.objs.size+1) k
   refine .inr ⟨.inl k,c,e,?_⟩
   have q:=x.cell y c e
   rw[rF ndP hp hu (by show scope.names.lookup y≠_;rw[k];decide)]at q
   exact q
 ·exact e0.hok.fresh (Nat.le_of_lt (x.above y c (PySem.mem_of_lookup h)))
 ·unfold start;show _=N.length
  rw[sK,bG,List.length_replicate];omega
theorem Ov {CX:Ju} {P:Program} {w:World} {K:W.Frag} {mg:Str->Option Value} {base:Heap} {k:Nat} {f:Addr} {name qual:Str} {params:Arguments} {body:List Stmt} {scope:Scope} {dV kV doc pm cdv ct oc:Value} {an od:Option Addr}
  {osl:Array (Option Value)} {N ps:List Str} {sp:Sp} (lk:K.lookup f=some ⟨oc,od,.func (W.fnOf name qual params body scope dV kV doc pm an cdv ct),osl⟩) (hcd:W.codeIn K cdv qual=true) (S:aI N ps scope)
  (len:∀vs H Q E,sp vs H Q E->vs.length=ps.length)
  (hbody:∀(A:Around) (outer:List Env) (s:Shared) (H:Hp) (vs:List V) (Q:VK) (E:XK),Room k (A.deeper (envOfC qual scope s.heap.objs.size f cdv))->sp vs H Q E →
   ∃t,PSs (kX CX P w K mg base N qual scope f cdv A outer s H E) body t/\t {nx:=fun _ H'=>Q .non H',rt:=Q } (start N vs) H) :
  jG P w K mg base CX (k+1) f (W.fnOf name qual params body scope dV kV doc pm an cdv ct) ps sp:=by
 refine⟨len,fun A outer s H args us vs Q E hr e0 hb r hsp=>?_⟩
 have hl:=len _ _ _ _ hsp
 have KX:K.In s.heap:=e0.mod.kin.keeps fun b o e=>(e0.bs b o e).1
 have lim:s.heap.NoLimit:=e0.mod.nolimit.keeps fun b o e=>(e0.bs b o e).1
 have hkind:∀y∈ps.zip us,scope.names.lookup y.1=some .local∨(scope.names.lookup y.1=some .cell/\((cellsFrom (s.heap.objs.size+1) scope.names []).lookup y.1).isSome=true):=fun⟨n,v⟩ hy=>by
  rcases S.par n (List.of_mem_zip hy).1 with q | q
  ·exact .inl q
  ·exact .inr ⟨q,W.cellsFrom_some _ _ _ (.inl q)⟩
 refine codeAny_call_function hr.depth (KX _ _ lk) rfl S.co S.gen rfl (W.codeRec_of KX hcd) (hb _ _ _ _ ?_)
 refine wpAny_newFunctionEnv_cells S.kind hkind fun env he s1 x=>?_
 subst he;refine⟨lim.keeps x.toInCall.keep,codeAny_func ?_⟩
 obtain⟨t,ht,hq⟩:=hbody A outer s H vs Q E (hr.deeper _) hsp
 have I:Inv (kX CX P w K mg base N qual scope f cdv A outer s H E) [] (start N vs) H s1:=Bt S hr.hd e0 hl r x
 refine wpAny_mono (ht [] s1 (start N vs) H _ I hq) (fun fl s' hs=>?_) fun e s' hs=>hs
 have fin:∀ {σ':St} {H':Hp} {v:V} {u:Value},Inv (kX CX P w K mg base N qual scope f cdv A outer s H E) [] σ' H' s'->RelV v u->Q v H'->CE outer P w H s Q u s':=
  fun {σ' H' v u} J rv q=>⟨v,H',J.os,J.bare,J.base,J.hok,rv,q⟩
 cases fl with
 | ret u=>
  obtain⟨v,σ',H',J,rv,q⟩:=hs
  exact fin J rv q
 | next=>
  obtain⟨σ',H',J,q⟩:=hs
  exact fin (v:=V.non) (u:=Value.none) J rfl q
 | brk=>
  obtain⟨_,_,_,q⟩:=hs
  exact False.elim q
 | cont=>
  obtain⟨_,_,_,q⟩:=hs
  exact False.elim q
end L2
namespace L2
open PySem PySem.Spec PyProof.Rows
section
variable {X:Cx} {x:Str} {p pos:Pos} {e:Expr} {es:List Expr} {t:TA} {id T:String} {r:List V->Hp->VK->Prop}
def Ut (r:List V->Hp->VK->Prop) (t:TA):TE:=fun σ H Q=>t σ H fun vs H1=>r vs H1 Q
theorem uZ (hc:CallR X (.builtin id) r) (hg:Gl X x) (hm:X.mg x=none) (hv:bootBuiltins x=some (.builtin id)) (ha:PA X (e::es) t) (hn:x≠"__name__":=by decide) (hdb:(x == ("__debug__":Str))=false:=by decide)
  (he:starEach (e::es) X.env=(false,eval e X.env)::starEach es X.env:=by rfl) (hpl:(backTo pos (starEach es X.env)).any (·.1)=false:=by rfl):PE X (.Call (.Name x p) (e::es) [] pos) (Ut r t):=by
 intro pins s σ H Q I h;refine wpAny_Call_Name_kw (lX I hg hm hv ?_ hn hdb)
 exact PyProof.Rows.callWith_builtin1 (bV (ha pos pins s σ H _ I h) fun us s1 ⟨vs,H1,I1,r1,q1⟩=>hc pins s1 σ H1 vs us Q I1 r1 q1) he hpl
theorem Bu (hc:CallR X (.type T) r) (hg:Gl X x) (hm:X.mg x=none) (hv:bootBuiltins x=some (.type T)) (ha:PA X (e::es) t) (hn:x≠"__name__":=by decide) (hdb:(x == ("__debug__":Str))=false:=by decide)
  (he:starEach (e::es) X.env=(false,eval e X.env)::starEach es X.env:=by rfl) (hpl:(backTo pos (starEach es X.env)).any (·.1)=false:=by rfl):PE X (.Call (.Name x p) (e::es) [] pos) (Ut r t):=by
 intro pins s σ H Q I h;refine wpAny_Call_Name_kw (lX I hg hm hv ?_ hn hdb)
 exact PyProof.Rows.callWith_type1 (bV (ha pos pins s σ H _ I h) fun us s1 ⟨vs,H1,I1,r1,q1⟩=>hc pins s1 σ H1 vs us Q I1 r1 q1) he hpl
end
end L2
namespace HT
open PySem PyProof.Rows
section
variable {prog:Program} {w:World} {A:Around} {E:Value->Shared->Prop} {s:Shared}
theorem cat_tup {t b:Addr} {vs ws:List Value} {Q:Value->Shared->Prop} (ht:IsTup s.heap t vs.toArray) (hb:IsTup s.heap b ws.toArray) (hv:vs≠[])
  (h1:ws=[]->Q (.ref t) s) (h2:ws≠[]->Q (.ref s.heap.objs.size) {s with heap:=s.heap.push {cls:=.type "tuple",data:=.seq (vs++ws).toArray } })
  (hsz:vs.length+ws.length<=sizeLine):wpAny (model prog w) A (binaryOp .Add (.ref t) (.ref b)) Q E s:=by
 obtain⟨⟨cls,dd,data,sl⟩,ho,hc,n,hd⟩:=id ht
 obtain⟨⟨cls2,dd2,data2,sl2⟩,ho2,hc2,n2,hd2⟩:=id hb
 simp only at hc hd hc2 hd2
 subst hc hd hc2 hd2;have e:vs.toArray++ws.toArray=(vs++ws).toArray:=by simp
 by_cases hw:ws=[]
 ·exact concat_meets ⟨_,ho,rfl⟩ ⟨_,ho2,rfl⟩ noFill_tuple_add seq_tuple_add PySem.F.slot_tuple_add PySem.F.entry_tuple_add (PySem.F.args_tuple_add_2 _ _)
   (tuple_addW1 t b vs.toArray ws.toArray n n2 dd dd2 sl sl2 (by simpa using hv) (by simp [hw])) ⟨ho,ho2,h1 hw⟩
 ·refine concat_meets ⟨_,ho,rfl⟩ ⟨_,ho2,rfl⟩ noFill_tuple_add seq_tuple_add PySem.F.slot_tuple_add PySem.F.entry_tuple_add (PySem.F.args_tuple_add_2 _ _)
   (tuple_addW2 t b vs.toArray ws.toArray n n2 dd dd2 sl sl2 (by simpa using hv) (by simpa using hw) (by rw[dS,dS];exact hsz)) ⟨ho,ho2,?_⟩
  rw[e];exact h2 hw
def sIx (n d:Nat):Option Int->Nat
 | none=>d
 | some v=>if v<0 then (v+(n:Int)).toNat else min v.toNat n
theorem sIx_none (n d:Nat):sIx n d none=d:=rfl
theorem sIx_nat (n d k:Nat):sIx n d (some (k:Int))=min k n:=by
 show(if (k:Int)<0 then ((k:Int)+(n:Int)).toNat else min (k:Int).toNat n)=min k n
 rw[if_neg Zo,Int.toNat_natCast]
theorem Ru (n d:Nat) (hd:d<=n) (o:Option Int):sIx n d o<=n:=by
 cases o with
 | none=>exact hd
 | some v=>
  show(if v<0 then (v+(n:Int)).toNat else min v.toNat n)<=n
  by_cases hv:v<0
  ·rw[if_pos hv];omega
  ·rw[if_neg hv];exact Nat.min_le_right _ _
theorem yY (v:Int) (n d:Nat):(if v<0 then max (v+(n:Int)) 0 else min v (n:Int))=((sIx n d (some v):Nat):Int):=by
 show(if v<0 then max (v+(n:Int)) 0 else min v (n:Int))=(((if v<0 then (v+(n:Int)).toNat else min v.toNat n):Nat):Int)
 by_cases hv:v<0
 ·simp only [if_pos hv];omega
 ·simp only [if_neg hv];omega
theorem xE (lo hi:Option Int) (n:Nat):Builtin.Slice.sliceAdjust lo hi 1 (n:Int)=(((sIx n 0 lo:Nat):Int),((sIx n n hi:Nat):Int)):=by
 have h1:¬ ((1:Int)<0):=by omega
 unfold Builtin.Slice.sliceAdjust;simp only [h1,if_false]
 refine Prod.ext ?_ ?_
 ·cases lo with
  | none=>rfl
  | some v=>exact yY v n 0
 ·cases hi with
  | none=>rfl
  | some v=>exact yY v n n
theorem xF (i j:Nat):Builtin.Slice.slicePlaces (i:Int) (j:Int) 1=j - i:=by
 unfold Builtin.Slice.slicePlaces;have h1:(1:Int) > 0:=by omega
 simp only [h1,if_true,Int.ediv_one]
 split <;> omega
theorem oN {v:Value} {o:Option Int} {Q:Option Int->Shared->Prop} (p:IsPart v o) (h:Q o s):wpAny (model prog w) A (Builtin.Slice.slicePartIndex v) Q E s:=by
 cases p with
 | none=>exact slicePart_none h
 | int i t=>exact slicePart_int h
theorem sliceApplied_gen {sl:Addr} {vl vu:Value} {lo hi:Option Int} {n:Nat} {Q:Int × Int × Nat->Shared->Prop} (hs:s.heap.IsSliceOf sl vl vu .none) (pl:IsPart vl lo) (pu:IsPart vu hi)
  (h:Q (((sIx n 0 lo:Nat):Int),1,sIx n n hi - sIx n 0 lo) s):wpAny (model prog w) A (Builtin.Slice.sliceApplied (.ref sl) (pure (n:Int))) Q E s:=by
 obtain⟨os,hos,hcs,hds⟩:=id hs
 unfold Builtin.Slice.sliceApplied Builtin.Slice.sliceFields;refine wpAny_bind (wpAny_bind (wpAny_field hos hds (x:=vl) rfl (wpAny_bind (wpAny_field hos hds (x:=vu) rfl (wpAny_bind (wpAny_field hos hds (x:=.none) rfl (wpAny_pure ?_)))))))
 refine wpAny_bind (slicePart_none ?_)
 show wpAny _ _ (if ((1:Int) == 0)=true then _ else _) _ _ s
 rw[if_neg Zd]
 refine wpAny_bind (oN pl (wpAny_bind (oN pu (wpAny_bind (wpAny_pure ?_)))))
 show wpAny _ _ (match Builtin.Slice.sliceAdjust lo hi 1 (n:Int) with | (lo,hi)=>pure (lo,(1:Int),Builtin.Slice.slicePlaces lo hi 1)) _ _ s
 rw[xE lo hi n];show wpAny _ _ (pure (((sIx n 0 lo:Nat):Int),(1:Int),Builtin.Slice.slicePlaces ((sIx n 0 lo:Nat):Int) ((sIx n n hi:Nat):Int) 1)) _ _ s
 rw[xF];exact wpAny_pure h
theorem Em (xs:Array Value) (i k:Nat):((List.range k).filterMap fun(m:Nat)=>xs[((i:Int)+(m:Int)*1).toNat]?).toArray=((xs.toList.drop i).take k).toArray:=by
 have e:(fun(m:Nat)=>xs[((i:Int)+(m:Int)*1).toNat]?)=fun m=>xs[i+m]?:=by
  funext m
  have:((i:Int)+(m:Int)*1).toNat=i+m:=by omega
  rw[this]
 rw[e];have:=pick_run xs i k
 rw[List.filterMap_map]at this;have e2:((fun x=>xs[x]?)∘fun x=>i+x)=fun m=>xs[i+m]?:=rfl
 rw[e2]at this;rw[this]
theorem getItem_tuple_cut {t sl:Addr} {items:Array Value} {vl vu:Value} {lo hi:Option Int} {Q:Value->Shared->Prop} (ht:IsTup s.heap t items) (hs:s.heap.IsSliceOf sl vl vu .none) (pl:IsPart vl lo) (pu:IsPart vu hi)
  (hw:¬ (sIx items.size 0 lo=0/\sIx items.size items.size hi=items.size))
  (h:Q (.ref s.heap.objs.size) {s with heap:=s.heap.push {cls:=.type "tuple",data:=.seq ((items.toList.drop (sIx items.size 0 lo)).take (sIx items.size items.size hi - sIx items.size 0 lo)).toArray } })
  (hsz:items.size<=sizeLine):wpAny (model prog w) A (getItem (.ref t) (.ref sl)) Q E s:=by
 have htake:sizeOk (.seq ((items.toList.drop (sIx items.size 0 lo)).take (sIx items.size items.size hi - sIx items.size 0 lo)).toArray):=by
  show((items.toList.drop (sIx items.size 0 lo)).take (sIx items.size items.size hi - sIx items.size 0 lo)).toArray.size<=sizeLine
  rw[dS,nF,List.length_drop,Array.length_toList];omega
 have hj:sIx items.size items.size hi<=items.size:=Ru _ _ (bM _) hi
 obtain⟨os,hos,hcs,hds⟩:=id hs
 have hTs:s.TypeIs (.ref sl) "slice":=⟨os,hos,hcs⟩
 unfold getItem;try with_reducible refine wpAny_holding ?_
 first | refine wpAny_bind (wpAny_pure ?_) | skip
 refine wpAny_bind (wpAny_sequenceKey ht.typeIs Zd ?_)
 refine wpAny_bind (wpAny_callSpecial?_slot (name:=Str.ofString "__getitem__") ht.typeIs PyProof.Rows.slot_tuple_getitem
  (wpAny_call_entry PyProof.Rows.slot_tuple_getitem ht.typeIs entry_tuple_getitem ?_ (args_tuple_getitem _ _)))
 show wpAny _ _ (Builtin.Tuple.tupleItemsOf (.ref t) >>= _) _ _ s
 refine wpAny_bind (tupleItemsOf_ ht ?_)
 refine wpAny_bind (wpAny_typeOf hTs ?_)
 rw[if_pos Zd]
 refine wpAny_bind (sliceApplied_gen hs pl pu ?_)
 have hno:¬ ((((sIx items.size 0 lo:Nat):Int) == 0&&(1:Int) == 1&&(sIx items.size items.size hi - sIx items.size 0 lo) == items.size)=true):=by
  intro q;rw[Bool.and_eq_true,Bool.and_eq_true]at q;have q1:((sIx items.size 0 lo:Nat):Int)=0:=eq_of_beq q.1.1
  have q2:sIx items.size items.size hi - sIx items.size 0 lo=items.size:=eq_of_beq q.2
  exact hw ⟨Zo,Zo⟩
 show wpAny _ _ (if (((sIx items.size 0 lo:Nat):Int) == 0&&(1:Int) == 1&&(sIx items.size items.size hi - sIx items.size 0 lo) == items.size)=true then _ else _) _ _ s
 rw[if_neg hno,Em];first
  | exact wpAny_bind (m:=Builtin.Tuple.tupleExact _) (wpAny_newObj_type (wpAny_pure ⟨_,rfl,wpAny_pure h⟩) htake)
  | exact wpAny_bind (m:=Builtin.Tuple.tupleExact _) (wpAny_newObj_type (wpAny_bind (wpAny_pure (wpAny_pure ⟨_,rfl,wpAny_pure h⟩))) htake)
  | exact wpAny_bind (wpAny_bind (m:=Builtin.Tuple.tupleExact _) (wpAny_newObj_type (wpAny_pure (wpAny_pure ⟨_,rfl,wpAny_pure h⟩)) htake))
  | exact wpAny_bind (wpAny_bind (m:=Builtin.Tuple.tupleExact _) (wpAny_newObj_type (wpAny_pure ⟨_,rfl,wpAny_pure h⟩) htake))
end
end HT
namespace L2
open PySem PySem.Spec PyProof.Rows
abbrev TO:=St->Hp->(Option Int->Hp->Prop)->Prop
def PO (X:Cx) (e:Option Expr) (t:TO):Prop:=
 ∀(pins:List (Addr × Obj)) (s:Shared) (σ:St) (H:Hp) (Q:Option Int->Hp->Prop),Inv X pins σ H s->t σ H Q →
  wpAny (model X.prog X.w) X.A (evalPart e X.env) (fun u s'=>∃o H',Inv X pins σ H' s'/\IsPart u o/\Q o H') X.xe s
def yZ:TO:=fun _ H Q=>Q none H
def En (t:TE):TO:=fun σ H Q=>t σ H fun x H1=>∃i,x=.int i/\Q (some i) H1
theorem oO {ns:List Int}:∀ {us:List Value},Vals (ns.map V.int) us->IntsAre us ns:=by
 induction ns with
 | nil=>intro us r;rw[List.map_nil]at r;cases r;exact .nil
 | cons n ns ih=>
  intro us r;rw[List.map_cons]at r;cases r with
  | cons r1 r2=>
   obtain⟨t,e⟩:=r1
   subst e;exact .cons n t (ih r2)
section
variable {X:Cx} {e:Expr} {te:TE} {lo hi:Option Expr} {tl th:TO} {pos p2:Pos}
theorem Ku:PO X none yZ:=by
 intro pins s σ H Q I h;rw[evalPart_none];exact wpAny_pure ⟨none,H,I,.none,h⟩
theorem Kv (h:PE X e te):PO X (some e) (En te):=by
 intro pins s σ H Q I hw;rw[evalPart_some];refine bV (h pins s σ H _ I hw) fun u s1 ⟨x,H1,I1,r1,q1⟩=>?_
 obtain⟨i,rfl,q⟩:=q1
 obtain⟨t,rfl⟩:=r1
 exact⟨some i,H1,I1,.int i t,q⟩
def SlR (X:Cx) (r:V->Option Int->Option Int->Hp->VK->Prop):Prop:=
 ∀(pins:List (Addr × Obj)) (s:Shared) (σ:St) (H:Hp) (x:V) (v vl vu:Value) (lo hi:Option Int) (sl:Addr) (Q:VK),Inv X pins σ H s->RelV x v->s.heap.IsSliceOf sl vl vu .none->IsPart vl lo->IsPart vu hi->r x lo hi H Q →
  ∃T id,typeLookup (.type T) "__getitem__"=pure (some (.builtin id))/\s.TypeIs v T/\wpAny (model X.prog X.w) X.A (getItem v (.ref sl)) (EP X pins σ Q) X.xe s
def tSl (r:V->Option Int->Option Int->Hp->VK->Prop) (te:TE) (tl th:TO):TE:=fun σ H Q=>te σ H fun x H1=>tl σ H1 fun l H2=>th σ H2 fun u H3=>r x l u H3 Q
theorem Eo {r:V->Option Int->Option Int->Hp->VK->Prop} (hr:SlR X r) (he:PE X e te) (hl:PO X lo tl) (hu:PO X hi th):PE X (.Subscript e (.Slice lo hi none p2) pos) (tSl r te tl th):=by
 intro pins s σ H Q I h;refine Subscript_ (bV (he pins s σ H _ I h) fun v s1 ⟨x,H1,I1,r1,q1⟩=>?_)
 refine wpAny_Slice (bV (hl pins s1 σ H1 _ I1 q1) fun vl s2 ⟨l,H2,I2,pl,q2⟩=>bV (hu pins s2 σ H2 _ I2 q2) fun vu s3 ⟨u,H3,I3,pu,q3⟩=>?_)
 rw[evalPart_none];refine wpAny_pure ?_
 have I4:Inv X pins σ H3 {s3 with heap:=s3.heap.push {cls:=.type "slice",data:=.fields #[vl,vu,.none] } }:=I3.kept (t':=s3.toks) fun b ob q=>fP _ q
 obtain⟨T,id,hT,ht,hg⟩:=hr pins {s3 with heap:=s3.heap.push {cls:=.type "slice",data:=.fields #[vl,vu,.none] } } σ H3 x v vl vu l u s3.heap.objs.size Q I4 r1 (Heap.IsSliceOf.new ..) pl pu q3
 show wpAny (model X.prog X.w) X.A (subscriptTail e (.Slice lo hi none p2) v (.ref s3.heap.objs.size)) (EP X pins σ Q) X.xe {s3 with heap:=s3.heap.push {cls:=.type "slice",data:=.fields #[vl,vu,.none] } }
 exact tail_any (ops:=[.ref s3.heap.objs.size,v]) ht hT hg (by with_unfolding_all rfl)
def Bv (xs:List V) (lo hi:Option Int):List V:=(xs.drop (HT.sIx xs.length 0 lo)).take (HT.sIx xs.length xs.length hi - HT.sIx xs.length 0 lo)
theorem nJ (xs:List V) (lo hi:Option Int):(Bv xs lo hi).length<=xs.length:=by
 unfold Bv;rw[nF,List.length_drop];omega
def Yu (K:W.Frag):V->Option Int->Option Int->Hp->VK->Prop:=fun x lo hi H Q=>∃a xs,x=.ref a/\SqT K H a xs ∧
 ¬ (HT.sIx xs.length 0 lo=0/\HT.sIx xs.length xs.length hi=xs.length)/\∀p,H p=none->Q (.ref p) (aJ H p (.tup (Bv xs lo hi)))
theorem Rv:SlR X (Yu X.K):=by
 intro pins s σ H x v vl vu lo hi sl Q I rx hs pl pu h;obtain⟨a,xs,rfl,hx,hw,q⟩:=h
 cases rx
 obtain⟨its,r,ht,hz⟩:=I.tuple hx
 have hlen:its.toArray.size=xs.length:=by rw[dS];exact r.length.symm
 refine⟨"tuple",_,PyProof.Rows.slot_tuple_getitem.lookup,ht.typeIs,?_⟩
 refine HT.getItem_tuple_cut ht hs pl pu (by rw[hlen];exact hw) ?_ (by rw[hlen];exact hz)
 rw[hlen];refine⟨.ref s.heap.objs.size,_,I.laid (t':=s.toks) (o:=.tup (Bv xs lo hi)) (fun b ob q=>fP _ q) (bM _) ?_,rfl,q _ (I.hok.fresh (bM _))⟩
 exact⟨kK (nJ xs lo hi) hz,_,(r.drop (HT.sIx xs.length 0 lo)).take (HT.sIx xs.length xs.length hi - HT.sIx xs.length 0 lo),IsTup.new _ _⟩
def Vv (K:W.Frag):R2:=fun x y H Q=>∃a b xs ys,x=.ref a/\y=.ref b/\SqT K H a xs/\SqT K H b ys/\xs≠[]/\xs.length+ys.length<=sizeLine ∧
 (ys=[]->Q (.ref a) H)/\(ys≠[]->∀p,H p=none->Q (.ref p) (aJ H p (.tup (xs++ys))))
theorem Vals.nil_iff {xs:List V} {us:List Value} (r:Vals xs us):us=[]↔xs=[]:=by
 cases r with
 | nil=>simp
 | cons _ _=>simp
theorem Kw:OpR X (binaryOp .Add) (Vv X.K):=by
 intro pins s σ H x y v u Q I rx ry h;obtain⟨a,b,xs,ys,rfl,rfl,ha,hb,hx,hz,q1,q2⟩:=h
 cases rx
 cases ry
 obtain⟨its,r1,p1,_⟩:=I.tuple ha
 obtain⟨its2,r2,p2,_⟩:=I.tuple hb
 refine HT.cat_tup p1 p2 (fun z=>hx (r1.nil_iff.mp z)) (fun z=>⟨.ref a,H,I,rfl,q1 (r2.nil_iff.mp z)⟩) (fun z=>?_) (by rw[<- r1.length,<- r2.length];exact hz)
 refine⟨.ref s.heap.objs.size,_,I.laid (t':=s.toks) (o:=.tup (xs++ys)) (fun b ob q=>fP _ q) (bM _) ?_,rfl,q2 (fun w=>z (r2.nil_iff.mpr w)) _ (I.hok.fresh (bM _))⟩
 exact⟨by rw[sK];exact hz,_,r1.append r2,IsTup.new _ _⟩
end
end L2
namespace L2
open PySem PySem.Spec PyProof.Rows
def Rw (n:Nat) (i:Int):Option Nat:=if 0<=i then (if i<n then some i.toNat else none) else if -(n:Int)<=i then some (i+n).toNat else none
def kT {α:Type} (xs:List α) (i:Int):Option α:=(Rw xs.length i).bind fun j=>xs[j]?
theorem zA {n:Nat} {i:Int} {j:Nat} (h:Rw n i=some j):seqIndex? i n=some j/\j<n/\-(n:Int)<=i/\i<n:=by
 unfold Rw at h;by_cases h0:0<=i
 ·rw[if_pos h0]at h;by_cases h1:i<n
  ·rw[if_pos h1]at h;have e:i.toNat=j:=Option.some.inj h
   exact⟨by rw[seqIndex_of h0 h1,e],Zo,Zo,h1⟩
  ·rw[if_neg h1]at h;cases h
 ·rw[if_neg h0]at h;by_cases h1:-(n:Int)<=i
  ·rw[if_pos h1]at h;have e:(i+n).toNat=j:=Option.some.inj h
   exact⟨by rw[seqIndex_neg Zo h1,e],Zo,h1,Zo⟩
  ·rw[if_neg h1]at h;cases h
theorem sY {α:Type} {xs:List α} {i:Int} {v:α} (h:kT xs i=some v):∃j,seqIndex? i xs.length=some j/\xs[j]?=some v/\j<xs.length/\-(xs.length:Int)<=i/\i<xs.length:=by
 unfold kT at h;cases e:Rw xs.length i with
 | none=>rw[e]at h;cases h
 | some j=>
  rw[e]at h;obtain⟨h1,h2,h3,h4⟩:=zA e
  exact⟨j,h1,h,h2,h3,h4⟩
theorem cE {α:Type} {xs:List α} {j:Nat} {v:α} (h:xs[j]?=some v):kT xs (j:Int)=some v:=by
 have hj:j<xs.length:=(Zgs.mp h).1
 have e:Rw xs.length (j:Int)=some j:=by
  unfold Rw;rw[if_pos Zo,if_pos Zo];simp
 unfold kT;rw[e];exact h
def sZ (b:Expr):Prop:=∀o i,subscripted b false o i=operate [o,i] (getItem o i)
def IxR (X:Cx) (r:R2):Prop:=
 ∀(value slice:Expr) (pins:List (Addr × Obj)) (s:Shared) (σ:St) (H:Hp) (x y:V) (v u:Value) (Q:VK),Inv X pins σ H s->RelV x v->RelV y u->r x y H Q →
  subscripted slice false v u=operate [v,u] (getItem v u)->wpAny (model X.prog X.w) X.A (subscriptTail value slice v u) (EP X pins σ Q) X.xe s
def Vw (X:Cx) (id:String) (r:V->List V->Hp->VK->Prop):Prop:=
 ∀(pins:List (Addr × Obj)) (s:Shared) (σ:St) (H:Hp) (x:V) (xs:List V) (v:Value) (us:List Value) (Q:VK),Inv X pins σ H s->RelV x v->Vals xs us->r x xs H Q →
  wpAny (model X.prog X.w) X.A (call (.builtin id) (v::us)) (EP X pins σ Q) X.xe s
section
variable {X:Cx} {a b:Expr} {ta tb:TE} {pos:Pos}
theorem Vx {r:R2} (hr:IxR X r) (ha:PE X a ta) (hb:PE X b tb) (hs:sZ b):PE X (.Subscript a b pos) (sQ r ta tb):=by
 intro pins s σ H Q I h;exact Subscript_ (Ri ha hb I h fun v u s2 x y H2 I2 rx ry q=>hr a b pins s2 σ H2 x y v u Q I2 rx ry q (hs _ _))
def Yv (K:W.Frag):R2:=fun x y H Q=>∃p xs i v,x=.ref p/\y=.int i/\SqL K H p xs/\kT xs i=some v/\Q v H
def Yw (K:W.Frag):R2:=fun x y H Q=>∃p xs i v,x=.ref p/\y=.int i/\SqT K H p xs/\kT xs i=some v/\Q v H
def Yx:R2:=fun x y H Q=>∃z i c,x=.str z/\y=.int i/\z.length<=sizeLine/\kT z.cps.toList i=some c/\Q (.str ⟨#[c]⟩) H
theorem Kx:IxR X (Yv X.K):=by
 intro value slice pins s σ H x y v u Q I rx ry h hs;obtain⟨p,xs,i,z,rfl,rfl,hq,he,q⟩:=h
 cases rx
 obtain⟨t,rfl⟩:=ry
 obtain⟨its,r,pl,hz⟩:=I.list hq
 obtain⟨j,h1,h2,h3,h4,h5⟩:=sY he
 obtain⟨w,ew,rw'⟩:=r.get h2
 have hl:=r.length
 have hn:=lZ
 have fin:EP X pins σ Q w s:=⟨z,H,I,rw',q⟩
 by_cases h0:0<=i
 ·have hj:i.toNat=j:=by
   rw[seqIndex_of h0 h5]at h1;exact Option.some.inj h1
  exact item_listR pl.isList h0 Zo (by rw[hj];simpa using ew) fin hs
 ·have hj:(i+(its.toArray.size:Int)).toNat=j:=by
   rw[seqIndex_neg Zo h4]at h1
   rw[dS,<- hl];exact Option.some.inj h1
  exact subscriptTail_builtinR (x:=w) pl.isList.typeIs slot_list_getitem.lookup
   (wpAny_getItem_list_neg (Q:=fun r s'=>r=w/\EP X pins σ Q r s') pl.isList Zo (by rw[dS] <;> omega) Zo (by rw[hj];simpa using ew) ⟨rfl,fin⟩) hs
theorem Rx:IxR X (Yw X.K):=by
 intro value slice pins s σ H x y v u Q I rx ry h hs;obtain⟨p,xs,i,z,rfl,rfl,hq,he,q⟩:=h
 cases rx
 obtain⟨t,rfl⟩:=ry
 obtain⟨its,r,pl,hz⟩:=I.tuple hq
 obtain⟨j,h1,h2,h3,h4,h5⟩:=sY he
 obtain⟨w,ew,rw'⟩:=r.get h2
 have hl:=r.length
 have hn:=lZ
 have fin:EP X pins σ Q w s:=⟨z,H,I,rw',q⟩
 exact subscriptTail_builtinR (x:=w) pl.typeIs slot_tuple_getitem.lookup
  (getItem_tuple (j:=j) (Q:=fun r s'=>r=w/\EP X pins σ Q r s') pl Zo Zo (by rw[dS,<- hl];exact h1) (by simpa using ew) ⟨rfl,fin⟩) hs
theorem Ry:IxR X Yx:=by
 intro value slice pins s σ H x y v u Q I rx ry h hs;obtain⟨z,i,c,rfl,rfl,hz,he,q⟩:=h
 obtain⟨t,rfl⟩:=rx
 obtain⟨t',rfl⟩:=ry
 obtain⟨j,h1,h2,h3,h4,h5⟩:=sY he
 have hl:z.cps.toList.length=z.length:=by simp [Str.length]
 rw[hl]at h1 h4 h5;have hn:=lZ
 exact tail_any (typeIs_str s z t) slot_str_getitem.lookup (getItem_str (c:=c) (by
  have e1:decide (i < -(2 ^ 63:Int))=false:=decide_eq_false Zo
  have e2:decide (i ≥ 2 ^ 63)=false:=decide_eq_false Zo
  rw[e1,e2,Bool.or_false]) (by rw[h1];simpa using h2) ⟨.str ⟨#[c]⟩,H,I.tok _,⟨_,rfl⟩,q⟩) hs
theorem xG (its:List Value) (n j:Nat) (u:Value):Obj.mapSeq (·.setIfInBounds j u) {cls:=.type "list",data:=.seq its.toArray n }={cls:=.type "list",data:=.seq (its.set j u).toArray n }:=by
 simp [Obj.mapSeq]
theorem Inv.lst {pins:List (Addr × Obj)} {σ:St} {H:Hp} {s:Shared} {p:Addr} {xs:List V} (I:Inv X pins σ H s) (h:H p=some (.lst xs)) :
  ∃(its:List Value) (n:Nat),Vals xs its/\s.heap.get? p=some {cls:=.type "list",data:=.seq its.toArray n }/\xs.length<=sizeLine:=by
 obtain⟨z,its,n,r,e⟩:=I.hok p _ h
 exact⟨its,n,r,e,z⟩
theorem Inv.lstUpd {pins:List (Addr × Obj)} {σ:St} {H:Hp} {s:Shared} {p:Addr} {xs ys:List V} {its its':List Value} {n n':Nat} {f:Obj->Obj} (I:Inv X pins σ H s) (h:H p=some (.lst xs))
  (ho:s.heap.get? p=some {cls:=.type "list",data:=.seq its.toArray n }) (hf:f {cls:=.type "list",data:=.seq its.toArray n }={cls:=.type "list",data:=.seq its'.toArray n' }) (r:Vals ys its') (hz:ys.length<=sizeLine) (t:Nat) :
  Inv X pins σ (aJ H p (.lst ys)) {s with heap:=s.heap.update p f,toks:=t }:=by
 have e:(s.heap.update p f).get? p=some {cls:=.type "list",data:=.seq its'.toArray n' }:=by
  rw[Heap.get?_update_self f ho (by rw[hf] <;> rfl),hf]
 refine I.write (x:=p) (e:=p) (by rw[h];trivial) (.inl rfl) (fun b u hb q=>(Heap.get?_update_other _ _ (Ne.symm hb)).trans q) ⟨_,e⟩ ?_
 exact⟨hz,its',n',r,e⟩
def Ow:V->V->V->Hp->(Hp->Prop)->Prop:=fun o i v H Q=>∃p xs k j,o=.ref p/\i=.int k/\H p=some (.lst xs)/\Rw xs.length k=some j/\Q (aJ H p (.lst (xs.set j v)))
theorem Ep:Ke X Ow:=by
 intro pins s σ H o i v ov iv u Q I ro ri rv h;obtain⟨p,xs,k,j,rfl,rfl,hp,hj,q⟩:=h
 cases ro
 obtain⟨t,rfl⟩:=ri
 obtain⟨its,n,r,ho,hz⟩:=I.lst hp
 obtain⟨h1,h2,h3,h4⟩:=zA hj
 have hl:=r.length
 have hn:=lZ
 have I':Inv X pins σ (aJ H p (.lst (xs.set j v))) {s with heap:=s.heap.update p (Obj.mapSeq (·.setIfInBounds j u)) }:=
  I.lstUpd hp ho (xG its n j u) (r.set rv j) (by rw[List.length_set];exact hz) s.toks
 by_cases h0:0<=k
 ·have hk:k.toNat=j:=by
   rw[seqIndex_of h0 h4]at h1;exact Option.some.inj h1
  exact W.ki_setAt ho h0 Zo (by rw[dS,<- hl];exact h4) (by rw[hk];exact⟨_,I',q⟩)
 ·have hk:(k+(its.toArray.size:Int)).toNat=j:=by
   rw[seqIndex_neg Zo h3]at h1
   rw[dS,<- hl];exact Option.some.inj h1
  exact W.ki_setBack ho Zo (by rw[dS,<- hl];exact h3) Zo (by rw[hk];exact⟨_,I',q⟩)
theorem tD (lo hi:Option Int) (n:Nat):(sliceBounds lo hi none n).1=((HT.sIx n 0 lo:Nat):Int)/\(sliceBounds lo hi none n).2.1=((HT.sIx n n hi:Nat):Int)/\(sliceBounds lo hi none n).2.2=1:=by
 refine⟨?_,?_,rfl⟩
 ·cases lo with
  | none=>simp [sliceBounds,HT.sIx]
  | some i=>
   simp only [sliceBounds,HT.sIx,Option.getD_none,show(1:Int) > 0 by decide,if_true]
   by_cases h:i<0
   ·simp only [h,if_true] <;> omega
   ·simp only [h,if_false] <;> omega
 ·cases hi with
  | none=>simp [sliceBounds,HT.sIx]
  | some i=>
   simp only [sliceBounds,HT.sIx,Option.getD_none,show(1:Int) > 0 by decide,if_true]
   by_cases h:i<0
   ·simp only [h,if_true] <;> omega
   ·simp only [h,if_false] <;> omega
theorem qM (its:List Value) (lo hi:Option Int):slicePick its.toArray lo hi none=((its.drop (HT.sIx its.length 0 lo)).take (HT.sIx its.length its.length hi - HT.sIx its.length 0 lo)).toArray:=by
 obtain⟨h1,h2,h3⟩:=tD lo hi its.toArray.size
 unfold slicePick;rw[h1,h2,h3];simp only [sliceRange_one,pick_run,dS] <;> rfl
def Yy (K:W.Frag):V->Option Int->Option Int->Hp->VK->Prop:=fun x lo hi H Q=>∃a xs,x=.ref a/\SqL K H a xs/\∀p,H p=none->Q (.ref p) (aJ H p (.lst (Bv xs lo hi)))
theorem Ky:SlR X (Yy X.K):=by
 intro pins s σ H x v vl vu lo hi sl Q I rx hs pl pu h;obtain⟨a,xs,rfl,hx,q⟩:=h
 cases rx
 obtain⟨its,r,ht,hz⟩:=I.list hx
 have hlen:=r.length
 refine⟨"list",_,slot_list_getitem.lookup,ht.isList.typeIs,?_⟩
 refine wpAny_getItem_list_slice ht.isList hs pl pu .none Zs ?_ (by rw[dS] <;> omega)
 rw[qM,<- hlen];refine⟨.ref s.heap.objs.size,_,I.laid (t':=s.toks) (o:=.lst (Bv xs lo hi)) (fun b ob q=>fP _ q) (bM _) ?_,rfl,q _ (I.hok.fresh (bM _))⟩
 exact⟨kK (nJ xs lo hi) hz,_,0,(r.drop (HT.sIx xs.length 0 lo)).take (HT.sIx xs.length xs.length hi - HT.sIx xs.length 0 lo),Heap.get?_push_size _ rfl⟩
def dP:V->Bool
 | .non=>true
 | .bl _=>true
 | .int _=>true
 | .str _=>true
 | _=>false
def uP:V->V->Bool
 | .non,.non=>true
 | .bl a,.bl b=>a == b
 | .bl a,.int b=>(if a then 1 else 0) == b
 | .int a,.bl b=>a == (if b then 1 else 0)
 | .int a,.int b=>a == b
 | .str a,.str b=>a == b
 | _,_=>false
theorem oP {A:Around} {s:Shared} {y x:V} {u v:Value} (ry:RelV y u) (rx:RelV x v) (fy:dP y=true) (fx:dP x=true):SeqAt.EqAt A s u v (uP y x):=by
 cases y with
 | non=>
  cases ry
  cases x with
  | non=>cases rx;exact SeqAt.EqAt.same _
  | bl b=>cases rx;exact SeqAt.EqAt.none_bool b
  | int b=>obtain⟨t,rfl⟩:=rx;exact SeqAt.EqAt.none_int b t
  | str b=>obtain⟨t,rfl⟩:=rx;exact SeqAt.EqAt.none_str b t
  | _=>exact absurd (show false=true from fx) Bool.false_ne_true
 | bl a=>
  cases ry
  cases x with
  | non=>cases rx;exact SeqAt.EqAt.bool_none a
  | bl b=>cases rx;exact SeqAt.EqAt.bool_bool a b
  | int b=>obtain⟨t,rfl⟩:=rx;exact SeqAt.EqAt.bool_int a b t
  | str b=>obtain⟨t,rfl⟩:=rx;exact SeqAt.EqAt.bool_str a b t
  | _=>exact absurd (show false=true from fx) Bool.false_ne_true
 | int a=>
  obtain⟨t',rfl⟩:=ry
  cases x with
  | non=>cases rx;exact SeqAt.EqAt.int_none a t'
  | bl b=>cases rx;exact SeqAt.EqAt.int_bool a t' b
  | int b=>obtain⟨t,rfl⟩:=rx;exact SeqAt.EqAt.int_int a t' b t
  | str b=>obtain⟨t,rfl⟩:=rx;exact SeqAt.EqAt.int_str a t' b t
  | _=>exact absurd (show false=true from fx) Bool.false_ne_true
 | str a=>
  obtain⟨t',rfl⟩:=ry
  cases x with
  | non=>cases rx;exact SeqAt.EqAt.str_none a t'
  | bl b=>cases rx;exact SeqAt.EqAt.str_bool a t' b
  | int b=>obtain⟨t,rfl⟩:=rx;exact SeqAt.EqAt.str_int a t' b t
  | str b=>obtain⟨t,rfl⟩:=rx;exact SeqAt.EqAt.str_str a t' b t
  | _=>exact absurd (show false=true from fx) Bool.false_ne_true
 | _=>exact absurd (show false=true from fy) Bool.false_ne_true
def Kz (x:V) (u:Value):Bool:=match u with
 | .none=>uP .non x
 | .bool b=>uP (.bl b) x
 | .int i _=>uP (.int i) x
 | .str z _=>uP (.str z) x
 | _=>false
theorem Er {x y:V} {u:Value} (r:RelV y u) (f:dP y=true):Kz x u=uP y x:=by
 cases y with
 | non=>cases r;rfl
 | bl b=>cases r;rfl
 | int i=>obtain⟨t,rfl⟩:=r;rfl
 | str z=>obtain⟨t,rfl⟩:=r;rfl
 | _=>exact absurd (show false=true from f) Bool.false_ne_true
theorem tE {x:V}:∀ {xs:List V} {us:List Value},Vals xs us->xs.all dP=true->us.any (Kz x)=xs.any fun y=>uP y x
 | _,_,.nil,_=>rfl
 | y::xs,u::us,.cons r t,f=>by
  rw[List.all_cons,Bool.and_eq_true]at f;rw[List.any_cons,List.any_cons,Er r f.1,tE t f.2]
theorem oQ {A:Around} {s:Shared} {x:V} {v:Value} (rx:RelV x v) (fx:dP x=true):∀ {xs:List V} {us:List Value},Vals xs us->xs.all dP=true->∀u∈us,SeqAt.EqAt A s u v (Kz x u)
 | _,_,.nil,_=>fun u hu=>by cases hu
 | y::xs,u::us,.cons r t,f=>fun u' hu=>by
  rw[List.all_cons,Bool.and_eq_true]at f;rcases List.mem_cons.mp hu with rfl | hu
  ·rw[Er r f.1];exact oP r rx f.1 fx
  ·exact oQ rx fx t f.2 u' hu
def kU (x:V) (xs:List V):Bool:=xs.any fun y=>uP y x
def Yz (K:W.Frag) (neg:Bool):R2:=fun x y H Q=>∃p xs,y=.ref p/\(SqL K H p xs∨SqT K H p xs)/\dP x=true/\xs.all dP=true/\Q (.bl (if neg then !kU x xs else kU x xs)) H
theorem Bw:OpR X (compareOp .In) (Yz X.K false):=by
 intro pins s σ H x y v u Q I rx ry h;obtain⟨p,xs,rfl,hq,fx,fs,q⟩:=h
 cases ry
 rcases hq with hq | hq
 ·obtain⟨its,r,pl,hz⟩:=I.list hq
  refine SeqAt.in_listAt (Kz x) pl.isList (fun w hw=>oQ rx fx r fs w (by simpa using hw)) ⟨.bl _,H,I,rfl,?_⟩
  rw[show its.toArray.any (Kz x)=its.any (Kz x) by simp,tE r fs]
  exact q
 ·obtain⟨its,r,pl,hz⟩:=I.tuple hq
  refine SeqAt.in_tupleAt (Kz x) pl (fun w hw=>oQ rx fx r fs w (by simpa using hw)) ⟨.bl _,H,I,rfl,?_⟩
  rw[show its.toArray.any (Kz x)=its.any (Kz x) by simp,tE r fs]
  exact q
theorem tF:CallR X (.builtin "len") (fun xs H Q=>∃p ys,xs=[.ref p]/\(SqL X.K H p ys∨SqT X.K H p ys)/\Q (.int ys.length) H):=by
 intro pins s σ H xs us Q I r h;obtain⟨p,ys,rfl,hq,q⟩:=h
 obtain⟨u,rfl,rx⟩:=jA r
 cases rx
 have hn:=lZ
 rcases hq with hq | hq
 ·obtain⟨its,r',pl,hz⟩:=I.list hq
  have hlen:=r'.length
  exact Calls.call_len_list pl.isList (by simp only [dS] <;> omega) ⟨.int ys.length,H,I.tok _,⟨s.toks+1,by rw[dS,hlen]⟩,q⟩
 ·obtain⟨its,r',pl,hz⟩:=I.tuple hq
  have hlen:=r'.length
  exact len_tuple pl (by simp only [dS] <;> omega) ⟨.int ys.length,H,I.tok _,⟨s.toks+1,by rw[dS,hlen]⟩,q⟩
theorem tG:CallR X (.builtin "len") (fun xs H Q=>∃z,xs=[.str z]/\z.length<=sizeLine/\Q (.int z.length) H):=by
 intro pins s σ H xs us Q I r h;obtain⟨z,rfl,hz,q⟩:=h
 obtain⟨u,rfl,t,rfl⟩:=jA r
 have hn:=lZ
 exact len_str Zo ⟨.int z.length,H,I.tok _,⟨_,rfl⟩,q⟩
theorem tH:CallR X (.type "list") (fun xs H Q=>∃p ys,xs=[.ref p]/\(SqL X.K H p ys∨SqT X.K H p ys)/\∀l,H l=none->Q (.ref l) (aJ H l (.lst ys))):=by
 intro pins s σ H xs us Q I r h;obtain⟨p,ys,rfl,hq,q⟩:=h
 obtain⟨u,rfl,rx⟩:=jA r
 cases rx
 have fin:∀(its:List Value),Vals ys its->ys.length<=sizeLine->∀(h':Heap) (c':Nat),(∀b o',s.heap.get? b=some o'->h'.get? b=some o') →
   h'.get? s.heap.objs.size=some {cls:=.type "list",dict:=none,data:=.seq its.toArray c',slots:=#[] }->EP X pins σ Q (.ref s.heap.objs.size) {s with heap:=h' }:=fun its r' hz h' c' kp e=>
  ⟨.ref s.heap.objs.size,_,I.laid (t':=s.toks) kp (bM _) (show ObjOk X.prog X.w _ h' _ (.lst ys) from⟨hz,its,c',r',e⟩),rfl,q _ (I.hok.fresh (bM _))⟩
 rcases hq with hq | hq
 ·obtain⟨its,r',pl,hz⟩:=I.list hq
  have hlen:=r'.length
  obtain⟨o,ho,hc,n,hd⟩:=pl.isList
  exact call_list_seq p (.inl rfl) ho hc hd (fun h' c' kp e=>fin its r' hz h' c' kp e) (by simp only [dS] <;> omega)
 ·obtain⟨its,r',pl,hz⟩:=I.tuple hq
  have hlen:=r'.length
  obtain⟨o,ho,hc,n,hd⟩:=pl
  exact call_list_seq p (.inr rfl) ho hc hd (fun h' c' kp e=>fin its r' hz h' c' kp e) (by simp only [dS] <;> omega)
theorem qN:CallR X (.type "tuple") (fun xs H Q=>∃p ys,xs=[.ref p]/\((SqL X.K H p ys/\∀l,H l=none->Q (.ref l) (aJ H l (.tup ys)))∨(SqT X.K H p ys/\Q (.ref p) H))):=by
 intro pins s σ H xs us Q I r h;obtain⟨p,ys,rfl,h⟩:=h
 obtain⟨u,rfl,rx⟩:=jA r
 cases rx
 rcases h with⟨hq,q⟩ | ⟨hq,q⟩
 ·obtain⟨its,r',pl,hz⟩:=I.list hq
  have hlen:=r'.length
  refine call_tuple_list pl.isList (fun h' kp=>?_) (by simp only [dS] <;> omega)
  have I1:Inv X pins σ H {s with heap:=h' }:=I.kept (t':=s.toks) kp
  have I2:Inv X pins σ (aJ H h'.objs.size (.tup ys)) {s with heap:=h'.push {cls:=.type "tuple",data:=.seq its.toArray } }:=
   I1.laid (t':=s.toks) (fun b o e=>fP _ e) (bM _) (show ObjOk X.prog X.w _ _ _ (.tup ys) from⟨hz,its,r',IsTup.new _ _⟩)
  exact⟨.ref h'.objs.size,_,I2,rfl,q _ (I1.hok.fresh (bM _))⟩
 ·obtain⟨its,r',pl,hz⟩:=I.tuple hq
  exact call_tuple_same pl ⟨.ref p,H,I,rfl,q⟩
def tyV (K:W.Frag) (T:String) (x:V) (H:Hp):Prop:=match x with
 | .str _=>T="str"
 | .int _=>T="int"
 | .ref p=>(T="list"/\∃xs,SqL K H p xs)∨(T="tuple"/\∃o,K.lookup p=some o/\o.cls=.type "tuple"/\o.dict=none)∨
   (T="dict"/\((∃kvs,H p=some (.dK kvs))∨∃kvs,H p=some (.dT kvs)))∨(T="set"/\∃S n,H p=some (.set S n))
 | _=>False
theorem Rz {pins:List (Addr × Obj)} {σ:St} {H:Hp} {s:Shared} {T:String} {x:V} {v:Value} (I:Inv X pins σ H s) (r:RelV x v) (ty:tyV X.K T x H) :
  s.TypeIs v T/\∀a,v=.ref a->∃ob,s.heap.get? a=some ob/\ob.dict=none:=by
 cases x with
 | str z=>
  obtain⟨t,rfl⟩:=r
  cases (show T="str" from ty)
  exact⟨typeIs_str s z t,fun _ e=>nomatch e⟩
 | int i=>
  obtain⟨t,rfl⟩:=r
  cases (show T="int" from ty)
  exact⟨typeIs_int s i t,fun _ e=>nomatch e⟩
 | ref p=>
  cases r
  rcases ty with⟨rfl,xs,hq⟩ | ⟨rfl,o,hk,hc,hd⟩ | ⟨rfl,hk⟩ | ⟨rfl,S,n,hk⟩
  ·obtain⟨its,_,pl,_⟩:=I.list hq
   refine⟨pl.isList.typeIs,fun a e=>?_⟩
   cases e
   obtain⟨o,n,e,c,hd,_⟩:=pl
   exact⟨o,e,hd⟩
  ·refine⟨⟨o,I.kIn p o hk,hc⟩,fun a e=>?_⟩
   cases e
   exact⟨o,I.kIn _ o hk,hd⟩
  ·have z:∃o,s.heap.get? p=some o/\o.ExactDict:=by
    rcases hk with⟨kvs,hk⟩ | ⟨kvs,hk⟩
    ·obtain⟨_,_,_,_,o,_,_,e,ex,_⟩:=I.hok p _ hk
     exact⟨o,e,ex⟩
    ·obtain⟨_,_,_,_,o,_,_,e,ex,_⟩:=I.hok p _ hk
     exact⟨o,e,ex⟩
   obtain⟨o,e,ex⟩:=z
   refine⟨⟨o,e,ex.1⟩,fun a e2=>?_⟩
   cases e2
   exact⟨o,e,ex.2.1⟩
  ·obtain⟨o,_,_,_,e,ex,_⟩:=I.hok p _ hk
   refine⟨⟨o,e,ex.1⟩,fun a e2=>?_⟩
   cases e2
   exact⟨o,e,ex.2.1⟩
 | _=>exact False.elim ty
def Yg (K:W.Frag) (T:String) (r:V->List V->Hp->VK->Prop) (to:TE) (t:TA):TE:=fun σ H Q=>to σ H fun x H1=>tyV K T x H1/\t σ H1 fun xs H2=>r x xs H2 Q
variable {o e:Expr} {es:List Expr} {to:TE} {t:TA} {name:Str} {apos cpos:Pos} {T id:String} {r:V->List V->Hp->VK->Prop}
theorem Vy (pa:PlainAttrs T) (slot:Slot T name id) (hty:typeOf (.builtin id)=pure (.type "method_descriptor")) (hm:Vw X id r) (ho:PE X o to) (ha:PA X (e::es) t)
  (hbase:attributeBase o name X.env (eval o X.env)=eval o X.env:=by rfl)
  (hfew:((backTo cpos (starEach (e::es) X.env)).all (fun x=>!x.1)&&(backToKw cpos (keywordEach [] X.env)).all (fun x=>x.1.isSome)
   && decide ((e::es).length+([]:List Keyword).length+(if ([]:List Keyword).isEmpty then 0 else 1)<30))=true:=by rfl)
  (hline:(apos.endLine == cpos.line)=true:=by rfl) (hs:starEach (e::es) X.env=(false,eval e X.env)::starEach es X.env:=by rfl) (hplain:(backTo cpos (starEach es X.env)).any (·.1)=false:=by rfl) :
  PE X (.Call (.Attribute o name apos) (e::es) [] cpos) (Yg X.K T r to t):=by
 intro pins s σ H Q I h;refine wpAny_Call_method_late hbase hfew hline rfl (bV (ho pins s σ H _ I h) fun v s1 ⟨x,H1,I1,r1,ty,q1⟩=>?_)
 obtain⟨h1,h2⟩:=Rz I1 r1 ty
 refine⟨T,id,pa,slot,hty,h1,h2,?_⟩
 have hA:=ha cpos pins s1 σ H1 _ I1 q1
 rw[hs]at hA ⊢;refine Calls.callWith_builtin (by show(false||(backTo cpos (starEach es X.env)).any (·.1))=false;rw[hplain] <;> rfl) (Calls.evalArgs_plain ?_)
 exact bV hA fun us s2 ⟨vs,H2,I2,r2,q2⟩=>hm pins s2 σ H2 x vs v us Q I2 r1 r2 q2
/- xs.append(e),list.index on a module's tuple .. are Vw facts of 06m -/
end
end L2
namespace L2
open PySem PySem.Spec PyProof.Rows
def Vz (X:Cx) (id:String) (r:V->List V->Hp->VK->Prop):Prop:=
 ∀(pins:List (Addr × Obj)) (s:Shared) (σ:St) (H:Hp) (x:V) (xs:List V) (v:Value) (us:List Value) (Q:VK),Inv X pins σ H s->RelV x v->Vals xs us->r x xs H Q →
  wpAny (model X.prog X.w) X.A (call (.builtin id) (v::us)) (EP X pins σ Q) X.xe s
theorem Vals.one:∀ {x:V} {us:List Value},Vals [x] us->∃u,us=[u]/\RelV x u
 | _,_,.cons r .nil=>⟨_,rfl,r⟩
theorem Vals.two:∀ {x y:V} {us:List Value},Vals [x,y] us->∃u v,us=[u,v]/\RelV x u/\RelV y v
 | _,_,_,.cons r (.cons q .nil)=>⟨_,_,rfl,r,q⟩
theorem Vals.eraseIdx:∀ {xs:List V} {us:List Value} (i:Nat),Vals xs us->Vals (xs.eraseIdx i) (us.eraseIdx i)
 | _,_,_,.nil=>.nil
 | _,_,0,.cons _ t=>t
 | _,_,i+1,.cons r t=>.cons r (Vals.eraseIdx i t)
theorem mF {α:Type}:∀(l:List α) (i:Nat),(l.eraseIdx i).length<=l.length
 | [],_=>bM _
 | _::_,0=>Nat.le_succ _
 | _::r,i+1=>Nat.succ_le_succ (mF r i)
section
variable {X:Cx} {pins:List (Addr × Obj)} {σ:St} {H:Hp} {s:Shared} {l b:Addr} {xs ys zs:List V}
theorem Inv.lset {its its':List Value} {n:Nat} {f:Array Value->Array Value} {t':Nat} (I:Inv X pins σ H s) (hH:H l=some (.lst xs))
  (e:s.heap.get? l=some {cls:=.type "list",data:=.seq its.toArray n }) (hf:f its.toArray=its'.toArray) (hv:Vals ys its') (hz:ys.length<=sizeLine) :
  Inv X pins σ (aJ H l (.lst ys)) {s with heap:=s.heap.update l (Obj.mapSeq f),toks:=t' }:=by
 have q:=PySem.IsL.update e f
 rw[hf]at q;refine I.write (x:=l) (e:=l) (by rw[hH];exact trivial) (.inl rfl) (fun b' u hb hu=>(Heap.get?_update_other s.heap (Obj.mapSeq f) (Ne.symm hb)).trans hu) ⟨_,q⟩ ?_
 exact⟨hz,its',_,hv,q⟩
theorem Inv.lnew {its:List Value} {t':Nat} (I:Inv X pins σ H s) (hv:Vals ys its) (hz:ys.length<=sizeLine) :
  Inv X pins σ (aJ H s.heap.objs.size (.lst ys)) {s with heap:=s.heap.push {cls:=.type "list",data:=.seq its.toArray },toks:=t' }:=
 I.laid (fun _ _ q=>fP _ q) (bM _) ⟨hz,its,0,hv,Heap.get?_push_size _ rfl⟩
theorem Inv.fresh (I:Inv X pins σ H s):H s.heap.objs.size=none:=I.hok.fresh (bM _)
theorem Inv.lstM (I:Inv X pins σ H s) (hH:H l=some (.lst xs)):xs.length<=sizeLine/\∃(its:List Value) (n:Nat),Vals xs its/\xs.length=its.length/\s.heap.get? l=some {cls:=.type "list",data:=.seq its.toArray n }:=by
 obtain⟨z,its,n,r,e⟩:=I.hok l _ hH
 exact⟨z,its,n,r,r.length,e⟩
theorem Es {n:Nat} (h:n<=sizeLine):Builtin.List.listTooLong n=false:=by
 unfold Builtin.List.listTooLong;exact decide_eq_false Zo
end
section
variable {X:Cx}
def zB:V->List V->Hp->VK->Prop:=fun x vs H Q=>∃l xs y,x=.ref l/\vs=[y]/\H l=some (.lst xs)/\xs.length<sizeLine/\Q .non (aJ H l (.lst (xs++[y])))
theorem Bx:Vz X "list.append" zB:=by
 intro pins s σ H x vs v us Q I rx rv h;obtain⟨l,xs,y,rfl,rfl,hH,hz,q⟩:=h
 cases rx
 obtain⟨u,rfl,ru⟩:=rv.one
 obtain⟨z,its,n,r,hl,e⟩:=I.lstM hH
 refine call_meets F.slot_list_append ⟨_,e,rfl⟩ F.entry_list_append (F.args_list_append_2 _ _) (PySem.list_append l its.toArray n u (by rw[dS];omega)) ⟨e,?_⟩
 refine⟨.non,_,I.lset (its':=its++[u]) hH e Zs (r.append (.cons ru .nil)) ?_,rfl,q⟩
 rw[sK,List.length_singleton];omega
def Lg:V->List V->Hp->VK->Prop:=fun x vs H Q=>∃l b xs zs,x=.ref l/\vs=[.ref b]/\H l=some (.lst xs)/\H b=some (.lst zs)/\xs.length+zs.length<=sizeLine/\Q .non (aJ H l (.lst (xs++zs)))
theorem Uu:Vz X "list.extend" Lg:=by
 intro pins s σ H x vs v us Q I rx rv h;obtain⟨l,b,xs,zs,rfl,rfl,hH,hB,hz,q⟩:=h
 cases rx
 obtain⟨u,rfl,ru⟩:=rv.one
 cases ru
 obtain⟨z,its,n,r,hl,e⟩:=I.lstM hH
 obtain⟨z2,its2,n2,r2,hl2,e2⟩:=I.lstM hB
 have hsz:its.toArray.size+its2.toArray.size<=sizeLine:=by rw[dS,dS];omega
 have hlong:¬ (!its.toArray.isEmpty&&Builtin.List.listTooLong (its.toArray.size+its2.toArray.size))=true:=by
  rw[Es hsz,Bool.and_false];exact Bool.false_ne_true
 refine call_meets F.slot_list_extend ⟨_,e,rfl⟩ F.entry_list_extend (F.args_list_extend_2 _ _)
  (AutoSeq1.list_extend_list_list_0 l its.toArray n b its2.toArray n2 hlong (by rw[dS];omega) Zo) ⟨e,e2,?_⟩
 refine⟨.non,_,I.lset (its':=its++its2) hH e Zs (r.append r2) ?_,rfl,q⟩
 rw[sK];omega
def Et:V->List V->Hp->VK->Prop:=fun x vs H Q=>∃l xs i k y,x=.ref l/\vs=[.int i]/\H l=some (.lst xs)/\-(2 ^ 63)<=i/\i<2 ^ 63/\seqIndex? i xs.length=some k/\xs[k]?=some y/\Q y (aJ H l (.lst (xs.eraseIdx k)))
theorem Eu:Vz X "list.pop" Et:=by
 intro pins s σ H x vs v us Q I rx rv h;obtain⟨l,xs,i,k,y,rfl,rfl,hH,h1,h2,hk,hy,q⟩:=h
 cases rx
 obtain⟨u,rfl,ru⟩:=rv.one
 obtain⟨t,rfl⟩:=ru
 obtain⟨z,its,n,r,hl,e⟩:=I.lstM hH
 obtain⟨w,hw,rw'⟩:=r.get hy
 refine call_meets F.slot_list_pop ⟨_,e,rfl⟩ F.entry_list_pop (F.args_list_pop_2 _ _)
  (MeetsSeq.list_pop_at l its.toArray n i t k w (fitsIndex_both h1 h2) (by rw[dS,<- hl];exact hk) (by rw[<- Array.getElem?_toList];exact hw) (by rw[dS];omega)) ⟨e,?_⟩
 refine⟨y,_,I.lset (its':=its.eraseIdx k) hH e ?_ (r.eraseIdx k) ?_,rw',q⟩
 ·show its.toArray.eraseIdxIfInBounds k=(its.eraseIdx k).toArray
  rw[List.eraseIdxIfInBounds_toArray]
 ·have:=mF xs k
  omega
def Za:R2:=fun x y H Q=>∃l b xs zs,x=.ref l/\y=.ref b/\H l=some (.lst xs)/\H b=some (.lst zs)/\xs.length+zs.length<=sizeLine/\∀p,H p=none->Q (.ref p) (aJ H p (.lst (xs++zs)))
theorem Sb:OpR X (binaryOp .Add) Za:=by
 intro pins s σ H x y v u Q I rx ry h;obtain⟨l,b,xs,zs,rfl,rfl,hH,hB,hz,q⟩:=h
 cases rx
 cases ry
 obtain⟨z,its,n,r,hl,e⟩:=I.lstM hH
 obtain⟨z2,its2,n2,r2,hl2,e2⟩:=I.lstM hB
 refine PySem.P.add_list e e2 ?_ (by rw[dS,dS];omega)
 have ea:its.toArray++its2.toArray=(its++its2).toArray:=by simp
 rw[ea];exact⟨.ref _,_,I.lnew (t':=s.toks) (r.append r2) (by rw[sK];omega),rfl,q _ I.fresh⟩
end
end L2
namespace L2
open PySem PySem.Spec PyProof.Rows
section
variable {κ:Type} [DecidableEq κ]
def bE (kvs:List (κ × V)) (k:κ):Option V:=(kvs.find? fun kv=>decide (kv.1=k)).map (·.2)
def bO (kvs:List (κ × V)) (k:κ) (v:V):List (κ × V):=
 if (kvs.any fun kv=>decide (kv.1=k))=true then kvs.map (fun kv=>if kv.1=k then (kv.1,v) else kv) else kvs++[(k,v)]
theorem cF {p:κ × V} {r:List (κ × V)} {k:κ} (e:p.1=k):bE (p::r) k=some p.2:=by simp [bE,List.find?_cons,e]
theorem cG {p:κ × V} {r:List (κ × V)} {k:κ} (e:¬ p.1=k):bE (p::r) k=bE r k:=by simp [bE,List.find?_cons,e]
theorem fR (k:κ):∀kvs:List (κ × V),(kvs.any fun kv=>decide (kv.1=k))=(bE kvs k).isSome
 | []=>rfl
 | p::r=>by
  rw[List.any_cons];by_cases e:p.1=k
  ·simp only [cF e,decide_eq_true e,Bool.true_or,Option.isSome_some]
  ·rw[cG e,decide_eq_false e,Bool.false_or];exact fR k r
theorem vA (k j:κ) (y:V):∀kvs:List (κ × V),bE (kvs.map fun kv=>if kv.1=k then (kv.1,y) else kv) j=(bE kvs j).map fun x=>if j=k then y else x
 | []=>rfl
 | p::r=>by
  have ih:=vA k j y r
  rw[List.map_cons];by_cases h:p.1=k
  ·rw[if_pos h];by_cases e:p.1=j
   ·rw[cF (p:=(p.1,y)) e,cF e,Option.map_some,if_pos (e.symm.trans h)]
   ·rw[cG (p:=(p.1,y)) e,cG e,ih]
  ·rw[if_neg h];by_cases e:p.1=j
   ·rw[cF (p:=p) e,cF e,Option.map_some,if_neg (fun z=>h (e.trans z))]
   ·rw[cG (p:=p) e,cG e,ih]
theorem rG (k j:κ) (y:V):∀kvs:List (κ × V),bE kvs k=none->bE (kvs++[(k,y)]) j=if j=k then some y else bE kvs j
 | [],_=>by
  by_cases e:k=j
  ·rw[if_pos e.symm];exact cF (p:=(k,y)) e
  ·rw[if_neg (fun z=>e z.symm)];exact cG (p:=(k,y)) e
 | p::r,hn=>by
  rw[List.cons_append];have hk:¬ p.1=k:=fun z=>by rw[cF z]at hn;cases hn
  rw[cG hk]at hn;have ih:=rG k j y r hn
  by_cases e:p.1=j
  ·rw[cF e,cF e,if_neg (fun z=>hk (e.trans z))]
  ·rw[cG e,cG e,ih]
theorem cP (kvs:List (κ × V)) (k j:κ) (y:V):bE (bO kvs k y) j=if j=k then some y else bE kvs j:=by
 unfold bO;by_cases a:(kvs.any fun kv=>decide (kv.1=k))=true
 ·rw[if_pos a,vA];rw[fR]at a;by_cases e:j=k
  ·obtain⟨x,hx⟩:=Option.isSome_iff_exists.mp a
   rw[if_pos e,e,hx,Option.map_some,if_pos rfl]
  ·rw[if_neg e];cases bE kvs j with
   | none=>rfl
   | some x=>rw[Option.map_some,if_neg e]
 ·rw[if_neg a];refine rG k j y kvs ?_
  rw[fR]at a;cases q:bE kvs k with
  | none=>rfl
  | some x=>rw[q]at a;exact(a rfl).elim
theorem cJ (kvs:List (κ × V)) (k:κ) (v:V):(bO kvs k v).length<=kvs.length+1:=by
 unfold bO;split
 ·rw[bG];omega
 ·rw[sK,uR,List.length_nil];omega
theorem vB {kvs:List (κ × V)} {k:κ} (v:V) (h:bE kvs k=none):bO kvs k v=kvs++[(k,v)]:=by
 unfold bO;rw[fR,h];exact if_neg Zd
theorem RelO.isSome_eq {o:Option V} {u:Option Value} (r:RelO o u):o.isSome=u.isSome:=by
 cases o with
 | none=>cases u with
  | none=>rfl
  | some _=>exact(show False from r).elim
 | some _=>cases u with
  | none=>exact(show False from r).elim
  | some _=>rfl
theorem RelO.getD {o:Option V} {u:Option Value} {d:V} {d':Value} (r:RelO o u) (rd:RelV d d'):RelV (o.getD d) (u.getD d'):=by
 cases o with
 | none=>cases u with
  | none=>exact rd
  | some _=>exact(show False from r).elim
 | some _=>cases u with
  | none=>exact(show False from r).elim
  | some _=>exact r
theorem KV.val {kvs:List (κ × V)} {vs:List (κ × Value)} (r:KV kvs vs) (k:κ):RelO (bE kvs k) (valueAt vs k):=by
 unfold KV at r;induction r with
 | nil=>exact True.intro
 | @cons p q ps qs h t ih=>
  obtain⟨h1,h2⟩:=h
  by_cases e:p.1=k
  ·have e':q.1=k:=h1.symm.trans e
   have b:valueAt (q::qs) k=some q.2:=by simp [valueAt,List.find?_cons,e']
   rw[cF e,b];exact h2
  ·have e':¬ q.1=k:=fun z=>e (h1.trans z)
   have b:valueAt (q::qs) k=valueAt qs k:=by simp [valueAt,List.find?_cons,e']
   rw[cG e,b];exact ih
theorem KV.any {kvs:List (κ × V)} {vs:List (κ × Value)} (r:KV kvs vs) (k:κ):(kvs.any fun kv=>decide (kv.1=k))=vs.any fun kv=>decide (kv.1=k):=by
 unfold KV at r;induction r with
 | nil=>rfl
 | cons h t ih=>rw[List.any_cons,List.any_cons,ih,h.1]
theorem KV.repl {kvs:List (κ × V)} {vs:List (κ × Value)} (r:KV kvs vs) (k:κ) {y:V} {u:Value} (ry:RelV y u) :
  KV (kvs.map fun kv=>if kv.1=k then (kv.1,y) else kv) (vs.map fun kv=>if kv.1=k then (kv.1,u) else kv):=by
 unfold KV at r ⊢
 induction r with
 | nil=>exact .nil
 | @cons p q ps qs h t ih=>
  rw[List.map_cons,List.map_cons];refine .cons ?_ ih
  obtain⟨h1,h2⟩:=h
  by_cases e:p.1=k
  ·rw[if_pos e,if_pos (h1.symm.trans e)];exact⟨h1,ry⟩
  ·rw[if_neg e,if_neg (fun z=>e (h1.trans z))];exact⟨h1,h2⟩
theorem KV.put {kvs:List (κ × V)} {vs:List (κ × Value)} (r:KV kvs vs) (k:κ) {y:V} {u:Value} (ry:RelV y u):KV (bO kvs k y) (stored vs k u):=by
 unfold bO stored;rw[r.any k];by_cases e:(vs.any fun kv=>decide (kv.1=k))=true
 ·rw[if_pos e,if_pos e];exact r.repl k ry
 ·rw[if_neg e,if_neg e];exact Paired.snoc r ⟨rfl,ry⟩
theorem KV.length {kvs:List (κ × V)} {vs:List (κ × Value)} (r:KV kvs vs):kvs.length=vs.length:=Paired.length r
end
theorem nK {P:Program} {w:World} {k:aT} {u:Value} (r:RelV (kV k) u):(aV P w).is k u=true:=by
 cases k with
 | inl i=>obtain⟨t,e⟩:=(show ∃t,u=Value.int i t from r);subst e;exact uS P w i t
 | inr x=>obtain⟨t,e⟩:=(show ∃t,u=Value.str x t from r);subst e;exact uT P w x t
theorem rH {P:Program} {w:World}:∀ {ks:List aT} {us:List Value},Vals (ks.map kV) us->ItemsAre (aV P w) ks us
 | [],_,r=>by rw[List.map_nil]at r;cases r;exact .nil
 | k::ks,_,r=>by
  rw[List.map_cons]at r;cases r with
  | cons h t=>exact .cons (nK h) (rH t)
abbrev KT (H:Hp):List (List aT × V)->List (List aT × Addr × Value)->Prop:=Paired fun p q=>p.1=q.1/\H q.2.1=some (.tup (p.1.map kV))/\RelV p.2 q.2.2
theorem KT.val {H:Hp} {kvs:List (List aT × V)} {xs:List (List aT × Addr × Value)} (r:KT H kvs xs) (k:List aT):RelO (bE kvs k) ((atKey xs k).map (·.2)):=by
 induction r with
 | nil=>exact True.intro
 | @cons p q ps qs h t ih=>
  obtain⟨h1,_,h2⟩:=h
  by_cases e:p.1=k
  ·have e':q.1=k:=h1.symm.trans e
   have b:atKey (q::qs) k=some q.2:=by simp [atKey,List.find?_cons,e']
   rw[cF e,b];exact h2
  ·have e':¬ q.1=k:=fun z=>e (h1.trans z)
   have b:atKey (q::qs) k=atKey qs k:=by simp [atKey,List.find?_cons,e']
   rw[cG e,b];exact ih
theorem KT.repl {H:Hp} {kvs:List (List aT × V)} {xs:List (List aT × Addr × Value)} (r:KT H kvs xs) (k:List aT) {y:V} {u:Value} (ry:RelV y u) :
  KT H (kvs.map fun kv=>if kv.1=k then (kv.1,y) else kv) (xs.map (putAt k u)):=by
 induction r with
 | nil=>exact .nil
 | @cons p q ps qs h t ih=>
  rw[List.map_cons,List.map_cons];refine .cons ?_ ih
  obtain⟨h1,h2,h3⟩:=h
  unfold putAt;by_cases e:p.1=k
  ·rw[if_pos e,if_pos (h1.symm.trans e)];exact⟨h1,h2,ry⟩
  ·rw[if_neg e,if_neg (fun z=>e (h1.trans z))];exact⟨h1,h2,h3⟩
theorem KT.put {H:Hp} {kvs:List (List aT × V)} {xs:List (List aT × Addr × Value)} (r:KT H kvs xs) (k:List aT) {b:Addr} {y:V} {u:Value} (hb:H b=some (.tup (k.map kV))) (ry:RelV y u) :
  KT H (bO kvs k y) (storedH xs k b u):=by
 have e:(kvs.any fun kv=>decide (kv.1=k))=(atKey xs k).isSome:=by
  rw[fR,(r.val k).isSome_eq,Option.isSome_map]
 unfold bO storedH;rw[e];by_cases q:(atKey xs k).isSome=true
 ·rw[if_pos q,if_pos q];exact r.repl k ry
 ·rw[if_neg q,if_neg q];exact Paired.snoc r ⟨rfl,hb,ry⟩
theorem KT.keeps {H H':Hp} {kvs:List (List aT × V)} {xs:List (List aT × Addr × Value)} (r:KT H kvs xs) (ht:∀b ys,H b=some (.tup ys)->H' b=some (.tup ys)):KT H' kvs xs:=
 Paired.mapP r fun _ _ z=>⟨z.1,ht _ _ z.2.1,z.2.2⟩
section
variable {P:Program} {w:World} {H:Hp} {h:Heap} {a:Addr}
theorem Ox {u:HO} (ok:HOk P w H h) (e:Rd H a u):ObjOk P w H h a u:=e.ok ok
theorem nL {kvs:List (aT × V)} (ok:HOk P w H h) (e:Rd H a (.dK kvs)):kvs.length<=sizeLine/\(a == sysModules)=false/\∃vs,KV kvs vs/\h.DictOf (aV P w) a vs:=
 show ObjOk P w H h a (.dK kvs) from Ox ok e
theorem Ev {kvs:List (aT × V)} (ok:HOk P w H h) (e:H a=some (.dK kvs)):kvs.length<=sizeLine/\(a == sysModules)=false/\∃vs,KV kvs vs/\h.DictOf (aV P w) a vs:=nL ok (.inl e)
theorem mG {ks:List aT} (ok:HOk P w H h) (e:H a=some (.tup (ks.map kV))):(tupleKind (aV P w)).is h ks a:=by
 obtain⟨_,its,r,o,h1,h2,n,h3⟩:=(show ObjOk P w H h a (.tup (ks.map kV)) from ok a _ e)
 exact⟨o,its.toArray,n,h1,h2,h3,by simpa using rH r⟩
theorem oS {kvs:List (List aT × V)} (ok:HOk P w H h) (e:Rd H a (.dT kvs)):kvs.length<=sizeLine/\(a == sysModules)=false ∧
  ∃xs,KT H kvs xs/\h.DictOfH (tupleKind (aV P w)) a xs:=by
 obtain⟨z,y,xs,r,o,es,ep,h1,h2,h3,h4,h5⟩:=(show ObjOk P w H h a (.dT kvs) from Ox ok e)
 refine⟨z,y,xs,r,o,es,ep,h1,h2,h3,h4,fun x hx=>?_,h5⟩
 have all:∀ {l:List (List aT × V)} {m:List (List aT × Addr × Value)},KT H l m->∀x∈m,(tupleKind (aV P w)).is h x.1 x.2.1:=by
  intro l m q;induction q with
  | nil=>intro x hx;exact nomatch hx
  | @cons p q ps qs hq t ih=>
   intro x hx;rcases List.mem_cons.mp hx with e | hx
   ·subst e;exact mG ok (by rw[<- hq.1];exact hq.2.1)
   ·exact ih x hx
 exact all r x hx
theorem Wa {kvs:List (List aT × V)} (ok:HOk P w H h) (e:H a=some (.dT kvs)):kvs.length<=sizeLine/\(a == sysModules)=false ∧
  ∃xs,KT H kvs xs/\h.DictOfH (tupleKind (aV P w)) a xs:=oS ok (.inl e)
end
def DGet (H:Hp) (a:Addr) (y:V) (r:Option V):Prop:=
 (∃kvs k,Rd H a (.dK kvs)/\y=kV k/\r=bE kvs k)∨∃kvs k b,Rd H a (.dT kvs)/\y=.ref b/\H b=some (.tup (k.map kV))/\r=bE kvs k
def DPut (H:Hp) (a:Addr) (y v:V) (H':Hp):Prop:=
 (∃kvs k,H a=some (.dK kvs)/\y=kV k/\kvs.length<sizeLine/\H'=aJ H a (.dK (bO kvs k v)))∨
 ∃kvs k b,H a=some (.dT kvs)/\y=.ref b/\H b=some (.tup (k.map kV))/\kvs.length<sizeLine/\H'=aJ H a (.dT (bO kvs k v))
theorem DGet.k {H:Hp} {a:Addr} {kvs:List (aT × V)} {k:aT} (e:H a=some (.dK kvs)):DGet H a (kV k) (bE kvs k):=.inl ⟨kvs,k,.inl e,rfl,rfl⟩
theorem DPut.k {H:Hp} {a:Addr} {kvs:List (aT × V)} {k:aT} {v:V} (e:H a=some (.dK kvs)) (hl:kvs.length<sizeLine):DPut H a (kV k) v (aJ H a (.dK (bO kvs k v))):=.inl ⟨kvs,k,e,rfl,hl,rfl⟩
section
variable {X:Cx} {pins:List (Addr × Obj)} {σ:St} {H:Hp} {s:Shared} {a:Addr} {y v:V} {u r:Value} {o:Option V} {A:Around} {E:Value->Shared->Prop}
theorem Inv.big (I:Inv X pins σ H s):sysModules<s.heap.objs.size:=by
 have h:mainGlobals<s.heap.objs.size:=(I.mod.glob.keeps I.bk).lt
 exact Nat.lt_trans Zd h
theorem By {Q:Value->Shared->Prop} (hu:A.units+1<cLine) (I:Inv X pins σ H s) (g:DGet H a y (some v)) (ry:RelV y u) (h:∀w' s',Inv X pins σ H s'->RelV v w'->Q w' s') :
  wpAny (model X.prog X.w) A (getItem (.ref a) u) Q E s:=by
 rcases g with⟨kvs,k,e,ey,l⟩ | ⟨kvs,k,b,e,ey,eb,l⟩
 ·subst ey;obtain⟨z,hd,vs,rel,dd⟩:=nL I.hok e
  obtain⟨w',hw,rw'⟩:=RelO.some_of (v:=v) (o:=valueAt vs k) (by rw[l];exact rel.val k)
  exact wpAny_getItem_of (nK ry) dd.mapOf hw (h w' _ (I.tok _) rw')
 ·subst ey;cases (show u=Value.ref b from ry)
  obtain⟨z,hd,xs,rel,dd⟩:=oS I.hok e
  obtain⟨w',hw,rw'⟩:=RelO.some_of (v:=v) (o:=(atKey xs k).map (·.2)) (by rw[l];exact rel.val k)
  obtain⟨p,hp,hp2⟩:=Option.map_eq_some_iff.mp hw
  refine wpAny_getItem_heap (tupleKind_room_in1 hu) (mG I.hok eb) dd hp ?_
  rw[hp2];exact h w' _ (I.tok _) rw'
theorem Wb {Q:Value->Shared->Prop} (hu:A.units+1<cLine) (I:Inv X pins σ H s) (g:DGet H a y o) (ry:RelV y u) (h:∀s',Inv X pins σ H s'->Q (.bool o.isSome) s') :
  wpAny (model X.prog X.w) A (compareOp .In u (.ref a)) Q E s:=by
 rcases g with⟨kvs,k,e,ey,l⟩ | ⟨kvs,k,b,e,ey,eb,l⟩
 ·subst ey;obtain⟨z,hd,vs,rel,dd⟩:=nL I.hok e
  refine wpAny_in_of (nK ry) hd dd.mapOf ?_
  rw[<- (rel.val k).isSome_eq,<- l];exact h _ (I.tok _)
 ·subst ey;cases (show u=Value.ref b from ry)
  obtain⟨z,hd,xs,rel,dd⟩:=oS I.hok e
  refine wpAny_in_heap (tupleKind_room_in1 hu) (mG I.hok eb) hd dd ?_
  have q:=(rel.val k).isSome_eq
  rw[Option.isSome_map]at q;rw[<- q,<- l];exact h _ (I.tok _)
theorem zC {Q:Value->Shared->Prop} (hu:A.units+1<cLine) (I:Inv X pins σ H s) (g:DGet H a y o) (ry:RelV y u) (h:∀s',Inv X pins σ H s'->Q (.bool (!o.isSome)) s') :
  wpAny (model X.prog X.w) A (compareOp .NotIn u (.ref a)) Q E s:=by
 rcases g with⟨kvs,k,e,ey,l⟩ | ⟨kvs,k,b,e,ey,eb,l⟩
 ·subst ey;obtain⟨z,hd,vs,rel,dd⟩:=nL I.hok e
  refine wpAny_notIn_of (nK ry) hd dd.mapOf ?_
  rw[<- (rel.val k).isSome_eq,<- l];exact h _ (I.tok _)
 ·subst ey;cases (show u=Value.ref b from ry)
  obtain⟨z,hd,xs,rel,dd⟩:=oS I.hok e
  refine wpAny_notIn_heap (tupleKind_room_in1 hu) (mG I.hok eb) hd dd ?_
  have q:=(rel.val k).isSome_eq
  rw[Option.isSome_map]at q;rw[<- q,<- l];exact h _ (I.tok _)
theorem tJ {h':Heap} {t':Nat} {ob:HO} (I:Inv X pins σ H s) (mu:Vb (H a)) (hs:Heap.SameBut a s.heap h') (he:∃q,h'.get? a=some q) (new:ObjOk X.prog X.w (aJ H a ob) h' a ob) :
  Inv X pins σ (aJ H a ob) {s with heap:=h',toks:=t' }:=
 I.write (x:=a) (e:=a) mu (.inl rfl) (fun b q hb z=>(hs.2 b hb).trans z) he new
theorem Ew {P:Program} {w:World} {H':Hp} {h':Heap} {kvs:List (aT × V)} {vs:List (aT × Value)} (z:kvs.length<=sizeLine) (hd:(a == sysModules)=false) (rel:KV kvs vs) (dd:h'.DictOf (aV P w) a vs) :
  ObjOk P w H' h' a (.dK kvs):=⟨z,hd,vs,rel,dd⟩
theorem Bz {H':Hp} {Q:Unit->Shared->Prop} (hu:A.units+1<cLine) (I:Inv X pins σ H s) (g:DPut H a y v H') (ry:RelV y u) (rv:RelV v r) (h:∀s',Inv X pins σ H' s'->Q () s') :
  wpAny (model X.prog X.w) A (setItem (.ref a) u r) Q E s:=by
 rcases g with⟨kvs,k,e,ey,l,eH⟩ | ⟨kvs,k,b,e,ey,eb,l,eH⟩
 ·subst ey eH;obtain⟨z,hd,vs,rel,dd⟩:=Ev I.hok e
  have hz:vs.length<=sizeLine:=by rw[<- rel.length];exact z
  have hl:(bO kvs k v).length<=sizeLine:=by have:=cJ kvs k v;omega
  refine wpAny_setItem_pairs (hsz:=hz) (nK ry) dd fun h' dd' hs=>h _ ?_
  have he:∃q,h'.get? a=some q:=let ⟨q,_,_,hq,_⟩:=dd';⟨q,hq⟩
  exact tJ I (by rw[e];exact True.intro) hs he (Ew hl hd (rel.put k rv) dd')
 ·subst ey eH;cases (show u=Value.ref b from ry)
  obtain⟨z,hd,xs,rel,dd⟩:=Wa I.hok e
  have hz:xs.length<=sizeLine:=by rw[<- Paired.length rel];exact z
  have hl:(bO kvs k v).length<=sizeLine:=by have:=cJ kvs k v;omega
  refine wpAny_setItem_heap (hsz:=hz) (tupleKind_room_in1 hu) (mG I.hok eb) dd fun h' dd' hs=>h _ ?_
  obtain⟨q,es,ep,hq,h2,h3,h4,_,h5⟩:=dd'
  refine tJ I (by rw[e];exact True.intro) hs ⟨q,hq⟩ ⟨hl,hd,_,(rel.put k eb rv).keeps fun c ys ec=>?_,q,es,ep,hq,h2,h3,h4,h5⟩
  rw[aD (eY ec e (fun z=>nomatch z))]
  exact ec
end
section
variable {X:Cx} {pins:List (Addr × Obj)} {σ:St} {H:Hp} {s:Shared} {a:Addr} {kvs:List (aT × V)} {k:aT} {u:Value} {A:Around} {E:Value->Shared->Prop}
theorem Wc {Q:Value->Shared->Prop} (I:Inv X pins σ H s) (e:Rd H a (.dK kvs)) (h:∀t s',Inv X pins σ H s'->Q (.int kvs.length t) s'):wpAny (model X.prog X.w) A (call (.builtin "len") [.ref a]) Q E s:=by
 obtain⟨z,hd,vs,rel,dd⟩:=nL I.hok e
 refine call_len_dict hd dd (by rw[<- rel.length];rw[sizeLine_eq]at z;omega) ?_
 rw[<- rel.length];exact h _ _ (I.tok _)
end
def Sc (i:Expr):Prop:=∀ov iv,subscripted i false ov iv=operate [ov,iv] (getItem ov iv)
theorem Lk {prog:Program} {w:World} {A:Around} {E:Value->Shared->Prop} {s:Shared} {env:Env} {value slice:Expr} {pos:Pos} {T id:String} {Q:Value->Shared->Prop}
  (hl:typeLookup (.type T) "__getitem__"=pure (some (.builtin id))) (hs:Sc slice)
  (h:wpAny (model prog w) A (eval value env) (fun o s₁=>wpAny (model prog w) A (eval slice env) (fun i s₂=>s₂.TypeIs o T/\wpAny (model prog w) A (getItem o i) Q E s₂) E s₁) E s) :
  wpAny (model prog w) A (eval (.Subscript value slice pos) env) Q E s:=by
 refine Subscript_ (wpAny_mono h (fun o s₁ h₁=>wpAny_mono h₁ (fun i s₂ h₂=>?_) fun _ _ x=>x) fun _ _ x=>x)
 obtain⟨hT,h₂⟩:=h₂
 unfold subscriptTail;refine wpAny_bind ?_
 rw[getitemInPython_of_ne hT.not_modules];refine wpAny_bind (wpAny_specialOf hT hl ?_)
 have fin:wpAny (model prog w) A (subscripted slice false o i) (fun r s₃=>wpAny (model prog w) A (letTemporaryGo value o r >>= fun _=>pure r) Q E s₃) E s₂:=by
  rw[hs o i];exact wpAny_operating (wpAny_mono h₂ (fun r s₃ h₃=>wpAny_bind (wpAny_letTemporaryGo (wpAny_pure h₃))) fun _ _ x=>x)
 first
  | exact wpAny_pure (wpAny_bind fin)
  | exact wpAny_bind (wpAny_pure (wpAny_bind fin))
  | exact wpAny_bind fin
theorem vC {X:Cx} {pins:List (Addr × Obj)} {σ:St} {H:Hp} {s:Shared} {a:Addr} {y:V} {o:Option V} (I:Inv X pins σ H s) (g:DGet H a y o):s.TypeIs (.ref a) "dict":=by
 rcases g with⟨kvs,k,e,_,_⟩ | ⟨kvs,k,b,e,_,_,_⟩
 ·obtain⟨_,_,vs,_,dd⟩:=nL I.hok e
  exact dd.typeIs
 ·obtain⟨_,_,xs,_,dd⟩:=oS I.hok e
  exact dd.typeIs
def Oy (td ty:TE):TE:=fun σ H Q=>td σ H fun x H1=>ty σ H1 fun y H2=>∃a v,x=.ref a/\DGet H2 a y (some v)/\Q v H2
section
variable {X:Cx} {o i e value:Expr} {pos pos' tpos:Pos} {td ty tv:TE}
theorem Ll (hu:X.A.units+1<cLine) (ho:PE X o td) (hi:PE X i ty) (hs:Sc i):PE X (.Subscript o i pos) (Oy td ty):=by
 intro pins s σ H Q I h;refine Lk PySem.F.slot_dict_getitem.lookup hs (bV (ho pins s σ H _ I h) fun u s1 ⟨x,H1,I1,rx,q1⟩=>bV (hi pins s1 σ H1 _ I1 q1) fun iv s2 ⟨y,H2,I2,ry,a,v,ex,g,q2⟩=>?_)
 subst ex;obtain rfl:u=Value.ref a:=rx
 exact⟨vC I2 g,By hu I2 g ry fun w' s3 I3 rw'=>⟨v,H2,I3,rw',q2⟩⟩
end
theorem vD {P:Program} {w:World} {H:Hp} (h:Heap) (hb:sysModules<h.objs.size):ObjOk P w H (h.push {cls:=.type "dict",data:=.dict #[] }) h.objs.size (.dK []):=
 ⟨Nat.zero_le _,beq_eq_false_iff_ne.mpr (Ne.symm (Nat.ne_of_lt hb)),[],.nil,Heap.DictOf.new h⟩
def Ex:TE:=fun _ H Q=>∀p,H p=none->Q (.ref p) (aJ H p (.dK []))
section
variable {X:Cx} {pos:Pos}
theorem Ey:PE X (.Dict [] [] pos) Ex:=fun pins s σ H Q I h=>
 wpAny_Dict_empty ⟨.ref s.heap.objs.size,_,I.laid (a:=s.heap.objs.size) (o:=.dK []) (t':=s.toks) (fun _ _ q=>fP _ q) (bM _) (vD s.heap I.big),rfl,h _ (I.hok.fresh (bM _))⟩
end
def xH:List (TE × TE)->St->Hp->(List (V × V)->Hp->Prop)->Prop
 | [],_,H,Q=>Q [] H
 | (tk,tv)::r,σ,H,Q=>tk σ H fun x H1=>tv σ H1 fun y H2=>xH r σ H2 fun ps H3=>Q ((x,y)::ps) H3
abbrev VV:List (V × V)->List (Value × Value)->Prop:=Paired fun p q=>RelV p.1 q.1/\RelV p.2 q.2
def Wd (X:Cx) (pos:Pos) (keys:List (Option Expr)) (values:List Expr) (trs:List (TE × TE)):Prop:=
 ∀(pins:List (Addr × Obj)) (s:Shared) (σ:St) (H:Hp) (Q:List (V × V)->Hp->Prop),Inv X pins σ H s->xH trs σ H Q →
  wpAny (model X.prog X.w) X.A (evalPairs (pairTrees keys values X.env pos)) (fun vs s'=>∃ps H',Inv X pins σ H' s'/\VV ps vs/\Q ps H') X.xe s
theorem Lm {X:Cx} {pos:Pos}:Wd X pos [] [] []:=fun pins s σ H Q I h=>pairTrees_nil_walk ⟨[],H,I,.nil,h⟩
theorem Ez {X:Cx} {pos:Pos} {k v:Expr} {ks:List (Option Expr)} {vs:List Expr} {tk tv:TE} {trs:List (TE × TE)} (hk:PE X k tk) (hv:PE X v tv) (hr:Wd X pos ks vs trs) :
  Wd X pos (some k::ks) (v::vs) ((tk,tv)::trs):=fun pins s σ H Q I h=>
 pairTrees_cons_walk (bV (hk pins s σ H _ I h) fun u s1 ⟨x,H1,I1,rx,q1⟩=>bV (hv pins s1 σ H1 _ I1 q1) fun w2 s2 ⟨y,H2,I2,ry,q2⟩=>
  bV (hr pins s2 σ H2 _ I2 q2) fun ws s3 ⟨ps,H3,I3,rel,q3⟩=>⟨(x,y)::ps,H3,I3,.cons ⟨rx,ry⟩ rel,q3⟩)
def aS (kvs more:List (aT × V)):List (aT × V):=more.foldl (fun acc kv=>bO acc kv.1 kv.2) kvs
theorem KV.merge:∀ {more:List (aT × V)} {rs:List (aT × Value)} {kvs:List (aT × V)} {vs:List (aT × Value)},KV more rs->KV kvs vs->KV (aS kvs more) (merged vs rs):=by
 intro more rs kvs vs r;unfold KV at r;induction r generalizing kvs vs with
 | nil=>intro q;exact q
 | @cons p q ps qs h t ih=>
  intro r0;have e:KV (bO kvs p.1 p.2) (stored vs q.1 q.2):=by
   have:=r0.put p.1 h.2
   rw[<- h.1];exact this
  exact ih e
theorem dH:∀(more kvs:List (aT × V)),(aS kvs more).length<=kvs.length+more.length
 | [],kvs=>by show kvs.length<=kvs.length+0;omega
 | p::r,kvs=>by
  have h1:=dH r (bO kvs p.1 p.2)
  have h2:=cJ kvs p.1 p.2
  show(aS (bO kvs p.1 p.2) r).length<=_
  rw[uR];omega
theorem oT {P:Program} {w:World}:∀ {kvs:List (aT × V)} {ws:List (Value × Value)},VV (kvs.map fun kv=>(kV kv.1,kv.2)) ws->∃rs,Carries (aV P w) ws rs/\KV kvs rs
 | [],_,r=>by rw[List.map_nil]at r;cases r;exact⟨[],True.intro,.nil⟩
 | p::kvs,_,r=>by
  rw[List.map_cons]at r;cases r with
  | @cons a b as bs h t=>
   obtain⟨rs,c,q⟩:=oT (P:=P) (w:=w) t
   obtain⟨b1,b2⟩:=b
   exact⟨(p.1,b2)::rs,⟨nK h.1,rfl,c⟩,.cons ⟨rfl,h.2⟩ q⟩
def Oz (trs:List (TE × TE)):TE:=fun σ H Q=>∀p,H p=none->xH trs σ (aJ H p (.dK [])) fun ps H2=>H2 p=some (.dK [])/\∃kvs:List (aT × V),ps=kvs.map (fun kv=>(kV kv.1,kv.2))/\kvs.length<=15/\Q (.ref p) (aJ H2 p (.dK (aS [] kvs)))
theorem Ln {X:Cx} {pos:Pos} {keys:List (Option Expr)} {values:List Expr} {trs:List (TE × TE)} (h:Wd X pos keys values trs) (hall:keys.all (·.isSome)=true) (hl:keys.length=values.length) (h0:keys≠[])
  (h15:keys.length<=15):PE X (.Dict keys values pos) (Oz trs):=by
 intro pins s σ H Q I q;have hn:=I.hok.fresh (bM s.heap.objs.size)
 have I1:=I.laid (a:=s.heap.objs.size) (o:=.dK []) (h':=s.heap.push {cls:=.type "dict",data:=.dict #[] }) (t':=s.toks) (fun _ _ q=>fP _ q) (bM _) (vD s.heap I.big)
 refine wpAny_Dict_walk (knd:=aV X.prog X.w) hall hl h0 h15 (bV (h pins _ σ _ _ I1 (q _ hn)) fun ws s2 ⟨ps,H2,I2,rel,e,kvs,ep,lk,q2⟩=>?_)
 subst ep;obtain⟨rs,c,rk⟩:=oT (P:=X.prog) (w:=X.w) rel
 obtain⟨z,hd,vs0,r0,dd⟩:=Ev I2.hok e
 cases r0
 refine⟨rs,c,dd,fun h' dd' hs=>⟨.ref s.heap.objs.size,_,?_,rfl,q2⟩⟩
 have hz:(aS [] kvs).length<=sizeLine:=by
  have h1:=dH kvs []
  rw[List.length_nil]at h1;rw[sizeLine_eq];omega
 have he:∃q,h'.get? s.heap.objs.size=some q:=let ⟨q,_,_,hq,_⟩:=dd';⟨q,hq⟩
 exact tJ I2 (by rw[e];exact True.intro) hs he (Ew hz hd (rk.merge .nil) dd')
structure M2 (X:Cx) (o:Expr) (m:Str) (apos:Pos) (e f:Expr) (cpos:Pos):Prop where
 base:attributeBase o m X.env (eval o X.env)=eval o X.env
 few:((backTo cpos (starEach [e,f] X.env)).all (fun x=>!x.1)&&(backToKw cpos (keywordEach [] X.env)).all (fun x=>x.1.isSome)
  && decide (([e,f]:List Expr).length+([]:List Keyword).length+(if ([]:List Keyword).isEmpty then 0 else 1)<30))=true
 line:(apos.endLine == cpos.line)=true
 trees:backTo cpos (starEach [e,f] X.env)=[(false,eval e X.env),(false,eval f X.env)]
def Zb (H:Hp) (a:Addr):Prop:=(∃kvs,Rd H a (.dK kvs))∨∃kvs,Rd H a (.dT kvs)
theorem Sd {X:Cx} {pins:List (Addr × Obj)} {σ:St} {H:Hp} {s:Shared} {a:Addr} (I:Inv X pins σ H s) (d:Zb H a) :
  s.TypeIs (.ref a) "dict"/\(∀b,Value.ref a=.ref b->∃ob,s.heap.get? b=some ob/\ob.dict=none)/\(a == sysModules)=false:=by
 rcases d with⟨kvs,e⟩ | ⟨kvs,e⟩
 ·obtain⟨_,hd,vs,_,dd⟩:=nL I.hok e
  refine⟨dd.typeIs,fun b q=>?_,hd⟩
  cases q
  obtain⟨ob,_,_,h1,h2,_⟩:=dd
  exact⟨ob,h1,h2.2.1⟩
 ·obtain⟨_,hd,xs,_,dd⟩:=oS I.hok e
  refine⟨dd.typeIs,fun b q=>?_,hd⟩
  cases q
  obtain⟨ob,_,_,h1,h2,_⟩:=dd
  exact⟨ob,h1,h2.2.1⟩
section
variable {X:Cx} {pins:List (Addr × Obj)} {σ:St} {H:Hp} {s:Shared} {a:Addr} {y d:V} {u r:Value} {o:Option V} {A:Around} {E:Value->Shared->Prop}
theorem Se {Q:Value->Shared->Prop} (hu:A.units+1<cLine) (I:Inv X pins σ H s) (g:DGet H a y o) (ry:RelV y u) (rd:RelV d r) (h:∀w' s',Inv X pins σ H s'->RelV (o.getD d) w'->Q w' s') :
  wpAny (model X.prog X.w) A (call (.builtin "dict.get") [.ref a,u,r]) Q E s:=by
 rcases g with⟨kvs,k,e,ey,l⟩ | ⟨kvs,k,b,e,ey,eb,l⟩
 ·subst ey;obtain⟨z,hd,vs,rel,dd⟩:=nL I.hok e
  refine call_meetsIn PySem.F.slot_dict_get dd.typeIs PySem.F.entry_dict_get (PySem.F.args_dict_get_3 _ _ _) (meets_dict_get_default (aV X.prog X.w) a (nK ry) hd r) ⟨_,dd.mapOf,h _ _ (I.tok _) ?_⟩
  rw[l];exact(rel.val k).getD rd
 ·subst ey;cases (show u=Value.ref b from ry)
  obtain⟨z,hd,xs,rel,dd⟩:=oS I.hok e
  refine call_meetsIn PySem.F.slot_dict_get dd.typeIs PySem.F.entry_dict_get (PySem.F.args_dict_get_3 _ _ _) (meetsH_dict_get_default (tupleKind (aV X.prog X.w)) a b hd r) ⟨tupleKind_room_in1 hu,k,xs,mG I.hok eb,dd,h _ _ (I.tok _) ?_⟩
  rw[l];exact(rel.val k).getD rd
end
def Fa (td ty tx:TE):TE:=fun σ H Q=>td σ H fun x H1=>∃a,x=.ref a/\Zb H1 a/\ty σ H1 fun y H2=>tx σ H2 fun z H3=>∃o,DGet H3 a y o/\Q (o.getD z) H3
section
variable {X:Cx} {o e f:Expr} {apos cpos:Pos} {td ty tx:TE}
theorem Fd (hu:X.A.units+1<cLine) (ho:PE X o td) (he:PE X e ty) (hf:PE X f tx) (m:M2 X o "get" apos e f cpos):PE X (.Call (.Attribute o "get" apos) [e,f] [] cpos) (Fa td ty tx):=by
 intro pins s σ H Q I h;refine wpAny_Call_method m.base m.few m.line PySem.F.plainAttrs_dict PySem.F.slot_dict_get PySem.F.type_dict_get (bV (ho pins s σ H _ I h) fun u s1 ⟨x,H1,I1,rx,a,ex,d,q1⟩=>?_)
 subst ex;obtain rfl:u=Value.ref a:=rx
 obtain⟨t1,t2,_⟩:=Sd I1 d
 refine⟨t1,t2,?_⟩
 rw[m.trees];refine Calls.callWith_builtin rfl (Calls.evalArgs_plain (Calls.spliced_cons (bV (he pins s1 σ H1 _ I1 q1) fun iv s2 ⟨y,H2,I2,ry,q2⟩=>
  Calls.spliced_cons (bV (hf pins s2 σ H2 _ I2 q2) fun fv s3 ⟨z,H3,I3,rz,ov,g,q3⟩=>Calls.spliced_nil ?_))))
 exact Se hu I3 g ry rz fun w' s4 I4 rw'=>⟨_,H3,I4,rw',q3⟩
end
end L2
namespace Att
open PySem PySem.W PySem.Calls PyProof.Rows
theorem nT {P:Params} {h:Heap}:∀(ns:List Int) (vs:List Value),WellAll P h vs (ns.map WData.int)->IntsAre vs ns:=by
 intro ns;induction ns with
 | nil=>
  intro vs w;rw[List.map_nil]at w;cases w
  exact .nil
 | cons n ns ih=>
  intro vs w;rw[List.map_cons]at w;cases w with
  | cons a b=>
   cases a
   exact .cons _ _ (ih _ b)
theorem Ca {l:OpenLaw} {n:Nat} (hn:l.most=some n) {P:Params} {h:Heap} {args:List WData} {vals:List Value}
  (hpre:l.row.toRowW.claim.pre args=true) (hwl:WellAll P h vals args) :
  ∃a vs ns,vals=[Value.ref a]/\args=[WData.list (ns.map WData.int)]/\h.get? a=some {cls:=.type "list",data:=.seq vs.toArray }/\IntsAre vs ns/\ns.length<=n:=by
 have hsh:WShape.hasAll [] args [.list .int]=true:=(pre_splitW hpre).1
 have hc:l.pre.holds [] {args:=args }=true:=(pre_splitW hpre).2
 obtain⟨d,r,rfl,h1,h2⟩:=hasAllW_cons hsh
 obtain rfl:=hasAllW_nil h2
 obtain⟨xs,rfl,h3⟩:=hasW_list h1
 obtain⟨ns,rfl⟩:=items_int h3
 have hlen:ns.length<=n:=by
  unfold OpenLaw.pre at hc;have h4:(WTm.not (.lt (.lit (.int (n:Int))) (.len (.arg 0)))).holds [] {args:=[.list (ns.map .int)] }=true:=by
   have h4:=(holds_andW hc).1
   rw[hn]at h4;exact h4
  have h5:=condW_of h4 (w_not (w_lt w_lit (w_len_list (w_arg rfl))))
  rw[bG]at h5;refine Nat.le_of_not_lt fun q=>?_
  have q':(n:Int)<((ns.length:Nat):Int):=by omega
  first
   | (rw[decide_eq_true q']at h5;exact absurd h5 Zd)
   | (simp at h5;omega)
 cases hwl with
 | cons w1 w2=>
  cases w2
  cases w1 with
  | list ho hall=>exact⟨_,_,ns,rfl,rfl,ho,nT ns _ hall,hlen⟩
theorem Cb (l:OpenLaw) (args:List WData):l.row.toRowW.claim.post args (.bool true) args=true:=
 postW_of (r:=l.row.toRowW) (X:=(true == true))
  (show WShape.has [] (.bool true) .bool=true by first | rfl | decide | simp [WShape.has,WShape.arms,WShape.armsAll])
  (show(WTm.eq .res (.lit (.bool true))).value [] {args:=args,res:=some (.bool true),after:=args }=some (.bool (true == true)) from w_eq_bool (w_res rfl) w_lit) rfl
theorem attach_call {l:OpenLaw} {n:Nat} {q:Program} {loose:List Str} {XP:(Str->Option Value)->Heap->Prop} {YP:World->Heap->Prop} {d:DefRec}
  (hn:l.most=some n) (hdf:d.params.defaults=[])
  (call:∀(w:World) (s₀ s₁:Shared) (mg mb:Str->Option Value) (fa:Addr) (o:Obj) (pm cd doc:Value) (a:Addr) (vs:List Value) (ns:List Int),
   Ground q loose [] XP w s₀ mg mb s₁.heap->YP w s₁.heap →
   s₁.heap.get? fa=some o->o.data=.func (docDef d.name d.params d.body d.scope pm cd doc)->s₁.heap.CodeRec cd d.name->mg d.name=some (.ref fa) →
   s₁.heap.get? a=some {cls:=.type "list",data:=.seq vs.toArray }->IntsAre vs ns->ns.length<=n->s₁.gens=#[] →
   codeAny (model l.prog w) callerA (.call (.ref fa) ⟨[.ref a],[]⟩) (fun r s'=>r=.ok (.ret (.bool true))/\OldK s₁.heap s'.heap/\s'.os=s₁.os/\AllBare s'.gens) s₁) :
  WalkO q loose XP YP l.row.toRowW d [] (fun f vs=>PySem.call f vs):=by
 intro w s₀ s₁ mg mb G Y fa o pm cd doc dV kV ho hd hcd hD hmg hg args vals as hpre hlay hrd hwl hlo;obtain rfl:dV=.none:=Dflts.none hD hdf
 obtain rfl:kV=.none:=Dflts.noKw hD
 obtain⟨a,vs,ns,rfl,rfl,hobj,hints,hlen⟩:=Ca hn hpre hwl
 refine enter_call (codeAny_mono (call w s₀ s₁ mg mb fa o pm cd doc a vs ns G Y ho (fd_plain hd) hcd hmg hobj hints hlen hg) fun r s' hq=>?_)
 obtain⟨rfl,h2,h3,h4⟩:=hq
 exact⟨.inl ⟨.bool true,.bool true,[],rfl,fun _=>rfl,.bool true,Cb l _,fun _=>⟨List.Pairwise.nil,fun _ hm=>(nomatch hm)⟩⟩,h2,h3,h4⟩
end Att
namespace L2
open PySem PySem.Spec PyProof.Rows
theorem rJ:∀ {vs:List Value} {ns:List Int},IntsAre vs ns->Vals (ns.map V.int) vs
 | _,_,.nil=>.nil
 | _,_,.cons n t h=>.cons ⟨t,rfl⟩ (rJ h)
def Sf (H:Hp):Prop:=∀b,H b=none∨∃o xs,H b=some (.frz o (.lst xs))
theorem Fe {P:Program} {w:World} {K:W.Frag} {mg mb:Str->Option Value} {CX:Ju} {k:Nat} {fa a:Addr} {fd:FuncData} {x:Str} {sp:Sp} {s₁:Shared} {vs:List Value} {ns:List Int}
  (KX:K.In s₁.heap) (hns:s₁.heap.Ns mainGlobals mg) (hb:s₁.heap.Ns builtinsNs mb) (hbb:∀x:Str,x≠"__name__"->mb x=bootBuiltins x) (hlim:s₁.heap.NoLimit) (hg:s₁.gens=#[])
  (ha:s₁.heap.get? a=some {cls:=.type "list",data:=.seq vs.toArray }) (hi:IntsAre vs ns) (hl:ns.length<=sizeLine) (hr:Room k callerA)
  (F:∀base:Heap,K.In base->base.Ns mainGlobals mg->jG P w K mg base CX k fa fd [x] sp) (hbind:∀(s:Shared) (u:Value),BindsTo s fd ⟨[u],[]⟩ [(x,u)])
  (hsp:∀H:Hp,Sf H->SqL K H a (ns.map V.int)->sp [.ref a] H (fun v _=>v=.bl true) fun _ _ _=>False)
  (hCX:∀H e s',CX [] H s₁ (fun _ _ _=>False) e s'->False) :
  codeAny (model P w) callerA (.call (.ref fa) ⟨[.ref a],[]⟩) (fun r s'=>r=.ok (.ret (.bool true))/\OldK s₁.heap s'.heap/\s'.os=s₁.os/\AllBare s'.gens) s₁:=by
 have rv:=rJ hi
 have lenV:=hi.length
 have core:∀H:Hp,Sf H->SqL K H a (ns.map V.int)->HOk P w H s₁.heap->(∀b,H b≠none->b=a)->(H a≠none->K.lookup a=none) →
   codeAny (model P w) callerA (.call (.ref fa) ⟨[.ref a],[]⟩) (fun r s'=>r=.ok (.ret (.bool true))/\OldK s₁.heap s'.heap/\s'.os=s₁.os/\AllBare s'.gens) s₁:=by
  intro H hO hS hok hA hK;have base_of:∀ {b:Addr} {o:Obj},s₁.heap.get? b=some o->H b=none->(sM s₁.heap H).get? b=some o:=fun e n=>Du e n
  have noA:∀ {b:Addr} {o:Obj} {es:Array DictEntry} {ep:Nat},s₁.heap.get? b=some o->o.data=.dict es ep->H b=none:=fun {b o es ep} e d=>by
   cases q:H b with
   | none=>rfl
   | some u=>
    have e':b=a:=hA b (by rw[q];simp)
    subst e';rw[ha]at e;cases e
    have d':Data.seq vs.toArray _=Data.dict es ep:=d
    cases d'
  have nsK:∀ {b:Addr} {m:Str->Option Value},s₁.heap.Ns b m->(sM s₁.heap H).Ns b m:=fun {b m} ⟨o,es,ep,e,d,r⟩=>⟨o,es,ep,base_of e (noA e d),d,r⟩
  have hKb:K.In (sM s₁.heap H):=fun b o e=>base_of (KX b o e) (by
   cases q:H b with
   | none=>rfl
   | some u=>
    have e':b=a:=hA b (by rw[q];simp)
    subst e';rw[hK (by rw[q];simp)]at e;cases e)
  have hM:Mod K mg (sM s₁.heap H):=⟨hKb,nsK hns,⟨mb,nsK hb,hbb⟩,let ⟨mc,h1,h2⟩:=hlim;⟨mc,nsK h1,h2⟩⟩
  have e0:Env0 P w K mg (sM s₁.heap H) callerA [] s₁ H:=⟨rfl,hM,fun b o e=>Jw e,Nat.le_of_eq (Bg _ _),trivial,fun b hb=>absurd (show b∈([]:List Addr) from hb) Zs,hok,.of_eq hg⟩
  refine codeAny_mono ((F _ hKb (nsK hns)).run callerA [] s₁ H ⟨[.ref a],[]⟩ [.ref a] [.ref a] _ _ hr e0 (hbind s₁ (.ref a)) (.cons rfl .nil) (hsp H hO hS)) fun r s' h=>?_
  cases r with
  | error e=>exact(hCX H e s' h).elim
  | ok fl=>
   cases fl with
   | next=>exact False.elim h
   | brk=>exact False.elim h
   | cont=>exact False.elim h
   | ret u=>
    obtain⟨v,H',os,bare,un,hok',r',q⟩:=h
    have q':v=.bl true:=q
    subst q';obtain rfl:u=Value.bool true:=r'
    refine⟨rfl,OldK.of_keep fun b o e=>?_,os,bare⟩
    cases q:H b with
    | none=>exact un.keep b o e q (by intro z;exact absurd (show b∈([]:List Addr) from z) Zs) Zs
    | some u=>
     rcases hO b with z | ⟨ob,xs,z⟩
     ·rw[q]at z;cases z
     ·have z2:=un.frzs b ob _ z
      obtain⟨e1,_⟩:=hok b _ z
      obtain⟨e2,_⟩:=hok' b _ z2
      rw[e]at e1;cases e1
      exact e2
 cases hk:K.lookup a with
 | some o=>
  have e:=KX a o hk
  rw[ha]at e;cases e
  refine core (fun _=>none) (fun _=>.inl rfl) (.inr ⟨_,vs.toArray,_,hk,rfl,rfl,rfl,by rw[dS,lenV];exact hl,by simpa using rv⟩) (fun b u z=>by have z':(none:Option HO)=some u:=z;cases z') (fun b z=>absurd rfl z) fun z=>absurd rfl z
 | none=>
  refine core (fun b=>if b=a then some (.frz {cls:=.type "list",data:=.seq vs.toArray } (.lst (ns.map V.int))) else none) (fun b=>?_) (.inl (.inr ⟨{cls:=.type "list",data:=.seq vs.toArray },if_pos rfl⟩)) (fun b u z=>?_) (fun b z=>?_) fun _=>hk
  ·by_cases hb:b=a
   ·exact .inr ⟨_,_,if_pos hb⟩
   ·exact .inl (if_neg hb)
  ·by_cases hb:b=a
   ·have z':=(if_pos hb).symm.trans z
    cases z'
    subst hb;exact⟨ha,by rw[bG];exact hl,vs,_,rv,ha⟩
   ·have z':=(if_neg hb).symm.trans z
    cases z'
  ·by_cases hb:b=a
   ·exact hb
   ·exact absurd (if_neg hb) z
end L2
namespace L2
open PySem PySem.Spec PyProof.Rows
theorem zD {l:W.OpenLaw} {n k:Nat} {q:Program} {loose:List Str} {XP:(Str->Option Value)->Heap->Prop} {YP:World->Heap->Prop} {d:DefRec} {K:Params->W.Frag} {CX:World->Ju} {sp:World->Sp} {x:Str}
  (hn:l.most=some n) (hn2:n<=sizeLine) (hdf:d.params.defaults=[]) (hr:Room k callerA)
  (hY:∀(w:World) (h:Heap),YP w h->(K w.params).In h)
  (F:∀(w:World) (mg:Str->Option Value) (fa:Addr) (h:Heap),(K w.params).In h->h.Ns mainGlobals mg->mg d.name=some (.ref fa) →
   ∃fd:FuncData,(∀(s:Shared) (u:Value),BindsTo s fd ⟨[u],[]⟩ [(x,u)]) ∧
    ∀base:Heap,(K w.params).In base->base.Ns mainGlobals mg->jG l.prog w (K w.params) mg base (CX w) k fa fd [x] (sp w))
  (hsp:∀(w:World) (H:Hp) (a:Addr) (ns:List Int),ns.length<=n->Sf H->SqL (K w.params) H a (ns.map V.int)->sp w [.ref a] H (fun v _=>v=.bl true) fun _ _ _=>False)
  (hCX:∀(w:World) (H:Hp) (s:Shared) (e:Value) (s':Shared),CX w [] H s (fun _ _ _=>False) e s'->False) :
  W.WalkO q loose XP YP l.row.toRowW d [] (fun f vs=>PySem.call f vs):=by
 refine Att.attach_call hn hdf fun w s₀ s₁ mg mb fa o pm cd doc a vs ns G Y ho hd hcd hmg hobj hints hlen hg=>?_
 have KX:=hY w _ Y
 obtain⟨fd,hb,hF⟩:=F w mg fa _ KX G.T.g hmg
 exact Fe KX G.T.g G.T.b G.T.builtins G.T.nolimit hg hobj hints (kK hlen hn2) hr hF hb (fun H hO hS=>hsp w H a ns hlen hO hS) fun H e s'=>hCX w H s₁ e s'
end L2
/- THE LAST THEOREM (shape;LID,My.* are yours):
   My.Adr: a structure of the addresses that your layer names (classes,functions);My.Txt K t: a structure (Prop) of the equations over K;
   My.txt_mk:{K} {implicit addresses ..} (e1:nsIn K mainGlobals "law"=some (some (.ref f))) (e2:K.lookup f=some ⟨oc,od,.func (fnOf "law" "law" params body scope dV kV doc pm an cdv ct),sl⟩) (e3:codeIn K cdv "law"=true) ..:∃t,My.Txt K t
set_option maxRecDepth 100000 in
set_option maxHeartbeats 0 in
theorem PySem.Challenge.cw_LID_holds : PySem.Challenge.rw_LID.Holds := by
 w_on;o_law;k_head;(case hw=>w_witness2)
 k_fill
 refine L2.zD (l:=PySem.Challenge.rw_LID) (n:=63) (k:=40) (x:="script") (CX:=fun w=>..) (sp:=fun _=>My.sp_law) rfl Zd rfl ⟨rfl,Zd,Zd⟩ (fun w h Y=>W.kIn_of Y) ?F ?S ?C
 case F=>
  intro w mg fa h KX G hmg;have T:∃t,My.Txt (L2.KOf KX) t:=by
   dsimp only [L2.KOf]                          -- K must stand as «<heap const> w.params» for k_is
   refine' My.txt_mk ?e1 ?e2 ?e3 ..
   (case e1=>W.k_is)                    -- in the order: a name->its address->its object->its parts
   (case e2=>W.k_is)
   ..
  obtain⟨t,T⟩:=T
  have e0:=hmg.symm.trans (W.mg_of KX G T.law)
  cases e0                                       -- fa is the law's own address
  exact⟨_,fun s u=>.of_eq rfl,fun base kb nb=>My.law_fn T kb nb⟩     -- if «.of_eq rfl» comes too early: refine' ⟨_,?b,fun base kb nb=>My.law_fn T kb nb⟩;exact fun s u=>.of_eq rfl
 case S=>exact fun w H a ns hl hO hS=>..
 case C=>exact ..
(the tactic k_is has no namespace: write k_is) -/
namespace L2
open PySem PySem.Spec PyProof.Rows
def eO (s:Stmt) (j:Nat):Stmt:=match s with
 | .ClassDef _ _ _ body _ _ _ _ _ _ _=>body.getD j (.Pass ⟨0,0,0,0⟩)
 | _=>.Pass ⟨0,0,0,0⟩
def cA (s:Stmt):Arguments:=match s with
 | .FunctionDef _ a _ _ _ _ _ _ _ _=>a
 | _=>{posonlyargs:=[],args:=[],vararg:=none,kwonlyargs:=[],kw_defaults:=[],kwarg:=none,defaults:=[] }
def bD (s:Stmt):List Stmt:=match s with
 | .FunctionDef _ _ b _ _ _ _ _ _ _=>b
 | _=>[]
def aB (s:Stmt):Scope:=match s with
 | .FunctionDef _ _ _ _ _ _ sc _ _ _=>sc
 | _=>{kind:=.function,names:=[],isGenerator:=false,isCoroutine:=false }
abbrev rK:Ju:=fun _ _ _ _ _ _=>False
abbrev E0:XK:=fun _ _ _=>False
theorem zE {X:Cx}:mE rK X E0:=fun _ _ _ _ _ _ _ h=>h.elim
structure Fun (K:W.Frag) (x qual:Str) (st:Stmt) (f:Addr) (fd:FuncData):Prop where
 ex:∃(oc:Value) (od:Option Addr) (kV doc pm:Value) (an:Option Addr) (cdv ct:Value) (osl:Array (Option Value)),
  fd=W.fnOf x qual (cA st) (bD st) (aB st) .none kV doc pm an cdv ct/\K.lookup f=some ⟨oc,od,.func fd,osl⟩/\W.codeIn K cdv qual=true
 kp:W.keepIn K (.ref f)=true
section
variable {P:Program} {w:World} {K:W.Frag} {mg:Str->Option Value} {base:Heap}
theorem Fun.ok {x qual:Str} {st:Stmt} {f:Addr} {fd:FuncData} {N ps:List Str} {k:Nat} {sp:Sp} (F:Fun K x qual st f fd) (S:aI N ps (aB st)) (len:∀vs H Q E,sp vs H Q E->vs.length=ps.length)
  (hbody:∀(cdv:Value) (A:Around) (outer:List Env) (s:Shared) (H:Hp) (vs:List V) (Q:VK) (E:XK),Room k (A.deeper (envOfC qual (aB st) s.heap.objs.size f cdv))->sp vs H Q E →
   ∃t,PSs (kX rK P w K mg base N qual (aB st) f cdv A outer s H E).nox (bD st) t/\t {nx:=fun _ H'=>Q .non H',rt:=Q } (start N vs) H):jG P w K mg base rK (k+1) f fd ps sp:=by
 obtain⟨oc,od,kV,doc,pm,an,cdv,ct,osl,rfl,lk,hcd⟩:=F.ex
 refine Ov lk hcd S len fun A outer s H vs Q E hr hsp=>?_
 obtain⟨t,h,q⟩:=hbody cdv A outer s H vs Q E hr hsp
 exact⟨t,h.nox,q⟩
theorem Fun.binds {x qual:Str} {st:Stmt} {f:Addr} {fd:FuncData} {ps:List Str} (F:Fun K x qual st f fd)
  (h:∀(kV doc pm:Value) (an:Option Addr) (cdv ct:Value) (us:List Value),us.length=ps.length->bindArgs (W.fnOf x qual (cA st) (bD st) (aB st) .none kV doc pm an cdv ct) ⟨us,[]⟩=pure (ps.zip us)):Binds K fd ps []:=by
 obtain⟨oc,od,kV,doc,pm,an,cdv,ct,osl,rfl,lk,hcd⟩:=F.ex
 exact .all (h kV doc pm an cdv ct)
theorem oU {x qual:Str} {st:Stmt} {f:Addr} {oc:Value} {od an:Option Addr} {osl:Array (Option Value)} {kV doc pm cdv ct:Value} (l:K.lookup f=some ⟨oc,od,.func (W.fnOf x qual (cA st) (bD st) (aB st) .none kV doc pm an cdv ct),osl⟩)
  (c:W.codeIn K cdv qual=true) (k:W.keepIn K (.ref f)=true):Fun K x qual st f (W.fnOf x qual (cA st) (bD st) (aB st) .none kV doc pm an cdv ct):=⟨⟨oc,od,kV,doc,pm,an,cdv,ct,osl,rfl,l,c⟩,k⟩
end
theorem eG {A:Around} {k:Nat} (hr:Room k A):A.units+1<cLine:=oK (Nat.add_le_add_left (by decide:1<=64) _) hr.units
section
variable {X:Cx}
theorem Cc:CallR X (.builtin "len") (fun xs H Q=>∃a kvs,xs=[V.ref a]/\H a=some (.dK kvs)/\Q (.int kvs.length) H):=by
 intro pins s σ H xs us Q I r h;obtain⟨a,kvs,rfl,ha,q⟩:=h
 obtain⟨u,rfl,ru⟩:=jA r
 cases ru
 exact Wc I (.inl ha) fun t s' I'=>⟨.int kvs.length,H,I',⟨t,rfl⟩,q⟩
end
def Same (H H':Hp):Prop:=∀b o,H b=some o->H' b=some o
theorem Same.refl (H:Hp):Same H H:=fun _ _ h=>h
theorem Same.trans {H H1 H2:Hp} (a:Same H H1) (b:Same H1 H2):Same H H2:=fun c o h=>b c o (a c o h)
theorem Same.free {H H':Hp} (e:Same H H') {l:Addr} (h:H' l=Option.none):H l=Option.none:=by
 cases q:H l with
 | none=>rfl
 | some o=>
  rw[e l o q]at h;cases h
theorem Same.seq {K:W.Frag} {H H':Hp} {a:Addr} {xs:List V} (e:Same H H') (h:SqL K H a xs):SqL K H' a xs:=by
 rcases h with(h | ⟨o,h⟩) | h
 ·exact .inl (.inl (e _ _ h))
 ·exact .inl (.inr ⟨o,e _ _ h⟩)
 ·exact .inr h
section
variable {κ:Type} [DecidableEq κ]
theorem Lo {kvs:List (κ × V)} {k:κ} {v:V} (h:bE kvs k=some v):k∈kvs.map (·.1):=by
 have q:(kvs.any fun kv=>decide (kv.1=k))=true:=by
  rw[fR,h];all_goals rfl
 obtain⟨p,hp,e⟩:=List.any_eq_true.mp q
 exact Zmm.mpr ⟨p,hp,of_decide_eq_true e⟩
theorem zF:∀ {l:List κ} {k:κ},l.Nodup->¬ k∈l->(l++[k]).Nodup
 | [],k,_,_=>by simp
 | a::r,k,h,hk=>by
  obtain⟨h1,h2⟩:=List.nodup_cons.mp h
  show(a::(r++[k])).Nodup
  refine List.nodup_cons.mpr ⟨fun m=>?_,zF h2 fun m=>hk (List.mem_cons.mpr (Or.inr m))⟩
  rcases Zma.mp m with q | q
  ·exact h1 q
  ·exact hk (List.mem_cons.mpr (Or.inl (Zms.mp q).symm))
end
end L2
namespace L2
open PySem PySem.Spec PyProof.Rows
def jH (env:Env):List (Str × NameKind)->List (Str × Addr)->List (Str × Addr)
 | [],cs=>cs
 | (n,k)::r,cs=>jH env r (if k=.free then (match env.cells.lookup n with | some c=>(n,c)::cs | none=>cs) else cs)
theorem kL {env:Env}:∀(names:List (Str × NameKind)) (cs:List (Str × Addr)),(∀x∈names,x.2=.free->∃c,env.cells.lookup x.1=some c) →
  (forIn names cs fun(x:Str × NameKind) (r:List (Str × Addr))=>(do
   if x.2 == .free then do
    let c ← cellOf env x.1
    pure (ForInStep.yield ((x.1,c)::r))
   else pure (ForInStep.yield r):Sem _))=pure (jH env names cs)
 | [],cs,_=>rfl
 | (n,k)::r,cs,h=>by
  rw[List.forIn_cons];by_cases hk:k=.free
  ·subst hk;obtain⟨c,hc⟩:=h (n,.free) kG rfl
   have hc':env.cells.lookup n=some c:=hc
   have e1:cellOf env n=pure c:=by unfold cellOf;rw[hc']
   simp only [beq_self_eq_true,if_true,e1,pure_bind]
   rw[kL r ((n,c)::cs) fun x hx=>h x (nY _ hx)]
   simp [jH,hc']
  ·have hb:(k == NameKind.free)=false:=by simpa using hk
   simp only [hb,Bool.false_eq_true,if_false,pure_bind]
   rw[kL r cs fun x hx=>h x (nY _ hx)]
   simp [jH,hk]
theorem oV {scope:Scope} {env:Env} (h:∀x∈scope.names,x.2=.free->∃c,env.cells.lookup x.1=some c):closureFor scope env=pure (jH env scope.names []):=by
 have e:=kL scope.names [] h
 unfold closureFor;exact(congrArg (fun z=>z >>= fun(r:List (Str × Addr))=>(pure r:Sem _)) e).trans (pure_bind _ _)
theorem vE {env:Env}:∀(names:List (Str × NameKind)) (cs:List (Str × Addr)),(∀y d,(y,d)∈cs->env.cells.lookup y=some d)->∀y d,(y,d)∈jH env names cs->env.cells.lookup y=some d
 | [],_,h=>h
 | (n,k)::r,cs,h=>by
  unfold jH;refine vE r _ fun y d hm=>?_
  split at hm
  ·split at hm
   ·rename_i c hc
    rcases List.mem_cons.mp hm with e | e
    ·cases e;exact hc
    ·exact h y d e
   ·exact h y d hm
  ·exact h y d hm
theorem zG {env:Env}:∀(names:List (Str × NameKind)) (cs:List (Str × Addr)) (y:Str) (d:Addr),(y,d)∈jH env names cs->(y,.free)∈names∨(y,d)∈cs
 | [],_,_,_,h=>.inr h
 | (n,k)::r,cs,y,d,h=>by
  unfold jH at h;rcases zG r _ y d h with e | hm
  ·exact .inl (nY _ e)
  ·split at hm
   ·rename_i hk
    split at hm
    ·rcases List.mem_cons.mp hm with e | e
     ·cases e;subst hk;exact .inl kG
     ·exact .inr e
    ·exact .inr hm
   ·exact .inr hm
theorem Ff {env:Env}:∀(names:List (Str × NameKind)) (cs:List (Str × Addr)) (y:Str),((∃d,(y,d)∈cs)∨(y,.free)∈names)->(∀x∈names,x.2=.free->∃c,env.cells.lookup x.1=some c)->∃d,(y,d)∈jH env names cs
 | [],_,_,h,_=>by
  rcases h with h | h
  ·exact h
  ·cases h
 | (n,k)::r,cs,y,h,hf=>by
  unfold jH;refine Ff r _ y ?_ fun x hx=>hf x (nY _ hx)
  rcases h with⟨d,hd⟩ | h
  ·refine .inl ⟨d,?_⟩
   split
   ·split
    ·exact nY _ hd
    ·exact hd
   ·exact hd
  ·rcases List.mem_cons.mp h with e | e
   ·have e1:y=n:=congrArg Prod.fst e
    have e2:NameKind.free=k:=congrArg Prod.snd e
    subst e1 e2;obtain⟨c,hc⟩:=hf (y,.free) kG rfl
    have hc':env.cells.lookup y=some c:=hc
    refine .inl ⟨c,?_⟩
    rw[if_pos rfl,hc'];exact kG
   ·exact .inr e
theorem oW {α:Type}:∀ {l:List (Str × α)} {y:Str} {d:α},(y,d)∈l->∃d',l.lookup y=some d'/\(y,d')∈l
 | (n,c)::r,y,d,h=>by
  by_cases e:y=n
  ·subst e;exact⟨c,by simp [List.lookup_cons],kG⟩
  ·rcases List.mem_cons.mp h with q | q
   ·cases q;exact absurd rfl e
   ·obtain⟨d',h1,h2⟩:=oW q
    have hb:(y == n)=false:=by simpa using e
    exact⟨d',by rw[List.lookup_cons,hb];exact h1,nY _ h2⟩
theorem dQ {env:Env} {names:List (Str × NameKind)} {y:Str} {c:Addr} (h:(jH env names []).lookup y=some c):env.cells.lookup y=some c/\(y,.free)∈names:=by
 have hm:=PySem.mem_of_lookup h
 refine⟨vE names [] (fun _ _ z=>nomatch z) y c hm,?_⟩
 rcases zG names [] y c hm with e | e
 ·exact e
 ·cases e
theorem zH {env:Env} {names:List (Str × NameKind)} {y:Str} (h:(y,.free)∈names) (hf:∀x∈names,x.2=.free->∃c,env.cells.lookup x.1=some c):∃c,(jH env names []).lookup y=some c/\env.cells.lookup y=some c:=by
 obtain⟨d,hd⟩:=Ff names [] y (.inr h) hf
 obtain⟨c,hc,_⟩:=oW hd
 exact⟨c,hc,(dQ hc).1⟩
theorem tK {scope:Scope} {env:Env} (hcell:∀y∈scope.names,y.2≠.cell) {x:Str} (h:(relabel scope env).names.lookup x=some .cell∨(relabel scope env).names.lookup x=some .free):(x,.free)∈scope.names:=by
 have go:∀ {k:NameKind},k=.cell∨k=.free->(relabel scope env).names.lookup x=some k->(x,.free)∈scope.names:=fun {k} hk h=>by
  have hm:=PySem.mem_of_lookup h
  unfold relabel at hm;obtain⟨⟨n,j⟩,hp,e⟩:=Zmm.mp hm
  dsimp only at e
  split at e
  ·rename_i hc
   cases e
   have:j=.free:=by
    have:=(Bool.and_eq_true_iff.mp (Bool.and_eq_true_iff.mp hc).1).1
    simpa using this
   subst this;exact hp
  ·cases e
   rcases hk with q | q
   ·exact absurd q (hcell _ hp)
   ·subst q;exact hp
 rcases h with h | h
 ·exact go (.inl rfl) h
 ·exact go (.inr rfl) h
theorem kY {env:Env}:∀ {names:List (Str × NameKind)} {x:Str},names.lookup x=some .free →
  (names.map fun(n,k)=>if (k == NameKind.free&&env.scope.kind == .function&&env.kindOf n == some .cell) then (n,NameKind.cell) else (n,k)).lookup x=some .cell∨
  (names.map fun(n,k)=>if (k == NameKind.free&&env.scope.kind == .function&&env.kindOf n == some .cell) then (n,NameKind.cell) else (n,k)).lookup x=some .free
 | [],_,h=>by simp at h
 | (n,k)::r,x,h=>by
  have ih:=@kY env r x
  rw[List.map_cons];dsimp only;cases hx:x == n with
  | true=>
   simp only [List.lookup_cons,hx]at h
   cases h
   split
   ·left;simp [List.lookup_cons,hx]
   ·right;simp [List.lookup_cons,hx]
  | false=>
   simp only [List.lookup_cons,hx]at h
   split
   ·simp only [List.lookup_cons,hx];exact ih h
   ·simp only [List.lookup_cons,hx];exact ih h
def lV (X:Cx) (scope:Scope) (C:Addr) (N:List Str) (s₂:Shared) (H₂:Hp) (fp:List Addr):Cx where
 prog:=X.prog
 w:=X.w
 K:=X.K
 mg:=X.mg
 base:=X.base
 A:=X.A
 N:=N
 s₀:=s₂
 H₀:=H₂
 env:=compEnvC scope (jH X.env scope.names []) C X.env
 outer:=X.stack
 stack:=X.stack
 ex:=fp
 fn:=fun _=>false
 calm:=X.calm
 pn:=[]
 xe:=fun _ _=>False
def qO (js:List (Option Nat)) (σ:St):St:=js.map fun o=>match o with | some j=>(σ[j]?).getD none | none=>none
structure CompScope (X:Cx) (scope:Scope) (N:List Str) (js:List (Option Nat)):Prop where
 kind:scope.kind=.function
 nocell:∀y∈scope.names,y.2≠.cell
 loc:∀y∈scope.names,y.2=.local->scope.names.lookup y.1=some .local
 len:js.length=N.length
 cap:∀(i j:Nat),js[i]?=some (some j)->∃x,N[i]?=some x/\X.N[j]?=some x/\scope.names.lookup x=some .free
 out:∀y∈scope.names,y.2=.free->X.env.kindOf y.1=some .cell∨X.env.kindOf y.1=some .free
def xI (js:List (Option Nat)) (g:TG):Prop:=∀x σ H Q,g x σ H Q->g x σ H fun σ2 H2=>Q σ2 H2/\σ2.length=σ.length/\∀(i j:Nat),js[i]?=some (some j)->σ2[i]?=σ[i]?
def zI (js:List (Option Nat)) (g:yS):Prop:=∀xs σ H Q,g xs σ H Q->g xs σ H fun σ2 H2=>Q σ2 H2/\σ2.length=σ.length/\∀(i j:Nat),js[i]?=some (some j)->σ2[i]?=σ[i]?
theorem bA {js:List (Option Nat)} {k:Nat} (h:js[k]?=some none):xI js (aK k):=fun x σ H Q q=>by
 refine⟨q,Zs,fun i j e=>?_⟩
 have:k≠i:=fun z=>by subst z;rw[h]at e;cases e
 rw[List.getElem?_set_ne this]
theorem mH {js:List (Option Nat)}:zI js Qv:=fun xs σ H Q q=>⟨q.1,q.2,rfl,fun _ _ _=>rfl⟩
theorem eI {js:List (Option Nat)} {k:Nat} {u:yS} (h:js[k]?=some none) (hu:zI js u):zI js (Ea (aK k) u):=fun xs σ H Q q=>by
 obtain⟨v,r,e,q⟩:=q
 refine⟨v,r,e,?_⟩
 obtain⟨_,h2⟩:=bA h v σ H (fun _ _=>True) trivial
 have q2:=hu r _ _ _ q
 have e2:(fun σ2 H2=>Q σ2 H2/\σ2.length=(σ.set k (some v)).length/\∀(i j:Nat),js[i]?=some (some j)->σ2[i]?=(σ.set k (some v))[i]?)=(fun σ2 (H2:Hp)=>Q σ2 H2/\σ2.length=σ.length/\∀(i j:Nat),js[i]?=some (some j)->σ2[i]?=σ[i]?):=by
  funext σ2 H2
  have e3:∀(i j:Nat),js[i]?=some (some j)->(σ.set k (some v))[i]?=σ[i]?:=h2.2
  apply propext
  constructor
  ·rintro⟨a,b,c⟩
   exact⟨a,by simpa using b,fun i j e=>(c i j e).trans (e3 i j e)⟩
  ·rintro⟨a,b,c⟩
   exact⟨a,by simpa using b,fun i j e=>(c i j e).trans (e3 i j e).symm⟩
 show u r (σ.set k (some v)) H _
 rw[<- e2];exact q2
theorem oX {K:W.Frag} {n:Nat} {js:List (Option Nat)} {t:yS} (h:zI js t):xI js (Kh K n t):=fun x σ H Q q=>by
 obtain⟨a,xs,e,hq,hl,q⟩:=q
 exact⟨a,xs,e,hq,hl,h xs σ H Q q⟩
section
variable {X:Cx} {pins:List (Addr × Obj)} {σ:St} {H H':Hp} {s:Shared}
theorem Un.more {fs ex:List Addr} {H H':Hp} {h h':Heap} {D:Addr} {o:HO} (u:Un fs ex H H' h h') (hD:h.get? D=none) (hH:H D=none):Un fs ex H (aJ H' D o) h h' where
 keep:=u.keep
 slot:=u.slot
 free:=fun b ob q n hx=>by
  have:b≠D:=fun z=>by rw[z,hD]at q;cases q
  rw[aD this];exact u.free b ob q n hx
 there:=u.there
 tups:=fun b xs q=>by rw[aD (aE q hH)];exact u.tups b xs q
 frzs:=fun b ob xs q=>by rw[aD (aE q hH)];exact u.frzs b ob xs q
 tbls:=fun b ps q=>by rw[aD (aE q hH)];exact u.tbls b ps q
theorem HOk.more {P:Program} {w:World} {h:Heap} {D:Addr} {o:HO} (k:HOk P w H h) (hH:H D=none) (new:ObjOk P w (aJ H D o) h D o):HOk P w (aJ H D o) h:=fun b u e=>by
 by_cases hb:b=D
 ·subst hb;rw[aA]at e;cases e;exact new
 ·rw[aD hb]at e;exact(k b u e).stay (fun _ _ _ q=>q) (fun c q=>by rw[aD (aE q hH)];exact q) fun c xs q=>by rw[aD (aE q hH)];exact q
theorem CompScope.ok {scope:Scope} {N:List Str} {js:List (Option Nat)} {C:Addr} {fp:List Addr} (S:CompScope X scope N js) (I:Inv X pins σ H s) (hC:s.heap.objs.size<=C) (hf:∀b∈fp,lY X pins H b) (hl:∀b∈fp,b<s.heap.objs.size) :
  (lV X scope C N s H fp).Ok where
 mod:=I.ok.mod
 kind:=S.kind
 glob:=I.ok.glob
 blt:=I.ok.blt
 above:=hC
 inj:=fun x y c h1 h2=>I.ok.inj x y c (dQ h1).1 (dQ h2).1
 has:=fun x hx=>by
  have hm:(x,.free)∈scope.names:=tK S.nocell hx
  obtain⟨c,h1,_⟩:=zH (env:=X.env) hm fun y hy hk=>I.ok.has y.1 (S.out y hy hk)
  exact⟨c,h1⟩
 cab:=fun x c z=>nomatch z
 hd:=I.ok.hd
 frames:=I.ok.frames
 stk:=.inl rfl
 exf:=fun b hb=>⟨Nat.ne_of_lt (Nat.lt_of_lt_of_le (hl b hb) hC),fun x c e=>(hf b hb).2.2.2.2.1 x c (dQ e).1⟩
 bs:=I.bs
 bsz:=kK I.ok.bsz I.sz
 noex:=fun b o e hb=>by
  rcases(hf b hb).2.2.2.1 with z | z
  ·exact I.ok.noex b o e z
  ·exact absurd (Nat.lt_of_lt_of_le (Heap.lt_size e) (kK I.ok.bsz z)) (Nat.lt_irrefl _)
 exfs:=fun b hb hm=>by
  rcases List.mem_cons.mp (I.stkSub b hm) with z | z
  ·exact(hf b hb).2.1 z
  ·exact(hf b hb).2.2.1 z
 funs:=I.stack
 frf:=I.stkFree
theorem CompScope.start {scope:Scope} {N:List Str} {js:List (Option Nat)} {C D:Addr} {fp:List Addr} {ob:Obj} {h₁:Heap} {m:Str->Option Value} {tk:Nat} (S:CompScope X scope N js) (I:Inv X pins σ H s) (hC:s.heap.objs.size<=C) (hD:s.heap.objs.size<=D) (hDC:D≠C)
  (hf:∀b∈fp,lY X pins H b) (hl:∀b∈fp,b<s.heap.objs.size) (k:∀b o,s.heap.get? b=some o->h₁.get? b=some o) (hns:h₁.Ns C m) (eD:h₁.get? D=some ob) (nc:∀v,ob.data≠.cell v) :
  Inv (lV X scope C N s H fp) [(D,ob)] (qO js σ) H {s with heap:=h₁,toks:=tk } where
 ok:=S.ok I hC hf hl
 os:=rfl
 bare:=I.bare
 base:=Un.kept k
 loc:=by
  refine⟨m,hns,fun i x v h1 h2 h3=>?_⟩
  have h1:N[i]?=some x:=h1
  unfold qO at h2;rw[kE]at h2;cases e:js[i]? with
  | none=>rw[e]at h2;cases h2
  | some o=>
   rw[e]at h2;cases o with
   | none=>cases h2
   | some j=>
    have h2':(σ[j]?).getD none=some v:=Option.some.inj h2
    have hσ:σ[j]?=some (some v):=by
     cases q:σ[j]? with
     | none=>rw[q]at h2';cases h2'
     | some z=>rw[q]at h2';exact congrArg some h2'
    obtain⟨y,e1,e2,e3⟩:=S.cap i j e
    rw[h1]at e1;cases e1
    have hfree:(x,.free)∈scope.names:=PySem.mem_of_lookup e3
    have ho:=S.out (x,.free) hfree rfl
    obtain⟨mX,_,hlX⟩:=I.loc
    have hvX:Vc X.env.scope x:=by
     rcases ho with z | z
     ·exact .inr (.inl z)
     ·exact .inr (.inr z)
    obtain⟨u,r,l⟩:=hlX j x v e2 hσ hvX
    refine⟨u,r,.inr ?_⟩
    rcases l with⟨hk,_⟩ | ⟨hk,c,hc,hcell⟩
    ·rcases ho with z | z
     ·have z':X.env.kindOf x=some .cell:=z
      rw[hk]at z';cases z'
     ·have z':X.env.kindOf x=some .free:=z
      rw[hk]at z';cases z'
    ·obtain⟨c',h1',h2''⟩:=zH (env:=X.env) hfree fun y hy hk=>I.ok.has y.1 (S.out y hy hk)
     rw[hc]at h2'';cases h2''
     refine⟨kY e3,c,h1',?_⟩
     obtain⟨oc,q1,q2⟩:=hcell
     exact⟨oc,k c oc q1,q2⟩
 cell:=fun x c e=>by
  obtain⟨v,oc,q1,q2⟩:=I.cell x c (dQ e).1
  exact⟨v,oc,k c oc q1,q2⟩
 free:=I.hok.fresh hC
 freeC:=fun x c e=>I.freeC x c (dQ e).1
 pin:=fun p hp=>by
  have e:p=(D,ob):=by
   rcases Zma.mp hp with z | z
   ·exact absurd (show p∈([]:List (Addr × Obj)) from z) Zs
   ·simpa using z
  subst e;refine⟨eD,I.hok.fresh hD,hDC,fun hm=>?_,nc⟩
  rcases List.mem_cons.mp (I.stkSub D hm) with z | z
  ·have z:D=X.env.locals:=z
   have:=I.lt
   rw[<- z]at this;exact absurd (Nat.lt_of_lt_of_le this hD) (Nat.lt_irrefl _)
  ·exact I.nofs hD z
 hok:=I.hok.kept k
 len:=by
  unfold qO;rw[bG];exact S.len
end
def Uv (X:Cx) (cs:List Expr) (t:TT):Prop:=
 ∀(pins:List (Addr × Obj)) (s:Shared) (σ:St) (H:Hp) (Q:Bool->Hp->Prop) (E:Value->Shared->Prop),Inv X pins σ H s->t σ H Q →
  wpAny (model X.prog X.w) X.A (forIn cs true fun c r=>if r=true then do let ok ← isTrue c X.env (eval c X.env);pure (ForInStep.yield ok) else pure (ForInStep.yield r)) (TP X pins σ Q) E s
def Pa:TT:=fun _ H Q=>Q true H
theorem Lp {X:Cx}:Uv X [] Pa:=fun pins s σ H Q E I h=>wpAny_tests_nil ⟨H,I,h⟩
theorem Lq {X:Cx} {c:Expr} {t:TT} (h:PT X c t) (hx:X.xe=fun _ _=>False:=by rfl):Uv X [c] t:=fun pins s σ H Q E I q=>
 wpAny_tests_one (wpAny_mono (h pins s σ H Q I q) (fun _ _ z=>z) fun e s' z=>by rw[hx]at z;exact z.elim)
def kI (js:List (Option Nat)) (g:TG) (tt:TT) (te:TE) (σ:St) (J:It) (H1:Hp) (Q:List V->Hp->Prop):Prop:=
 ∃W:Nat->Nat->List V->Hp->Prop,(∃m,W 0 m [] H1)/\∀i m ys H,W i m ys H →
  (J.stop i H/\Q ys H)∨
  (J.go i H/\ys.length<sizeLine/\∃N:List V->Hp->Prop,(∀ys' H',N ys' H'->∃m',m'<m/\W (i+1) m' ys' H') ∧
   ∀x H',J.yld i H x H'->g x (qO js σ) H' fun σ2 H2=>tt σ2 H2 fun b H3=>if b=true then te σ2 H3 fun y H4=>N (ys++[y]) H4 else N ys H3)
def Pb (wi:TI) (js:List (Option Nat)) (g:TG) (tt:TT) (te:TE):TE:=fun σ H Q=>wi σ H fun J H1=>
 kI js g tt te σ J H1 fun ys H2=>∀p,H2 p=none->Q (.ref p) (aJ H2 p (.lst ys))
def Pd (i:Nat) (wi:TI) (js:List (Option Nat)) (g:TG) (tt:TT) (te:TE):TS:=fun D σ H=>wi σ H fun J H1=>
 kI js g tt te σ J H1 fun ys H2=>∀p,H2 p=none->D.nx (σ.set i (some (.ref p))) (aJ H2 p (.lst ys))
section
variable {X:Cx} {tg iter elt:Expr} {ifs:List Expr} {scope:Scope} {N:List Str} {js:List (Option Nat)} {wi:TI} {g:TG} {tt:TT} {te:TE} {pos:Pos}
theorem oY {pins:List (Addr × Obj)} {σ:St} {H2:Hp} {s2:Shared} {it:Addr} {fp:List Addr} {tn:Nat->Heap->Prop} {J:It} {Qf:List V->Hp->Prop} {RR:Value->Addr->Result->Shared->Prop} {E:Value->Shared->Prop} (hc:X.calm=true) (S:CompScope X scope N js) (go:xI js g)
  (hb:∀(C:Addr) (s₂:Shared) (H₂:Hp) (fp:List Addr),PG (lV X scope C N s₂ H₂ fp) tg g/\Uv (lV X scope C N s₂ H₂ fp) ifs tt/\PE (lV X scope C N s₂ H₂ fp) elt te)
  (I2:Inv X pins σ H2 s2) (T:sP X.prog X.w X.K tg J fp it tn) (st2:tn 0 s2.heap) (f2:∀b∈fp,lY X pins H2 b) (hw:kI js g tt te σ J H2 Qf)
  (hRR:∀(C D:Addr) (ys:List V) (H3:Hp) (s3:Shared) (m:Str->Option Value),s2.heap.objs.size<=C->s2.heap.objs.size<=D->D≠C->Inv X pins σ (aJ H3 D (.lst ys)) s3->H3 C=none->H3 D=none->s3.heap.Ns C m->Qf ys H3->RR (.ref D) C (.ok .next) s3) :
  wpAny (model X.prog X.w) X.A (newList []) (fun acc s₃=>wpAny (model X.prog X.w) X.A (newFunctionEnv scope X.env.globals (jH X.env scope.names []) [] X.env.qual none .none (some X.env)) (fun cenv s₄=>
   codeAny (model X.prog X.w) X.A (.compStart (.ListComp elt [⟨tg,iter,ifs,0⟩] scope pos) 0 (.ref it) acc {cenv with scope:=relabel scope X.env }) (RR acc cenv.locals) s₄) E s₃) E s2:=by
 obtain⟨W,⟨m0,w0⟩,turn⟩:=hw
 refine wpAny_newObj_type (wpAny_newFunctionEnv S.nocell (by intro y hy;simp at hy) (fun h₁ hns₁ hsb₁=>?_) S.kind)
 dsimp only at hns₁ hsb₁ ⊢
 generalize hH2:s2.heap.push {cls:=.type "list",dict:=none,data:=.seq ([]:List Value).toArray }=HP at hns₁ hsb₁ ⊢;have hC:HP.objs.size=s2.heap.objs.size+1:=by rw[<- hH2,Heap.size_push]
 have hDC:s2.heap.objs.size≠HP.objs.size:=by rw[hC];exact Nat.ne_of_lt (Nat.lt_succ_self _)
 have hCle:s2.heap.objs.size<=HP.objs.size:=by rw[hC];exact Nat.le_succ _
 have old:∀b o,s2.heap.get? b=some o->h₁.get? b=some o:=fun b o e=>hsb₁.extBut b o (by rw[hC];exact Nat.ne_of_lt (Nat.lt_succ_of_lt (Heap.lt_size e))) (fP _ (hH2 ▸ fP _ e))
 have hacc:h₁.get? s2.heap.objs.size=some {cls:=.type "list",data:=.seq ([]:List Value).toArray 0 }:=hsb₁.extBut _ _ hDC (fP _ (hH2 ▸ Heap.get?_push_size _ rfl))
 have hfl:∀b∈fp,b<s2.heap.objs.size:=fun b hb=>by
  obtain⟨o,e,_⟩:=T.obj _ _ st2 b hb
  exact Heap.lt_size e
 generalize hDn:s2.heap.objs.size=D at hDC hCle hacc ⊢;generalize hCn:HP.objs.size=C at hDC hCle hns₁ ⊢;have hCs:s2.heap.objs.size<=C:=by rw[hDn];exact hCle
 have hDs:s2.heap.objs.size<=D:=Nat.le_of_eq hDn
 obtain⟨pg,pt,pe⟩:=hb C s2 H2 fp
 have I0:=S.start (D:=D) (fp:=fp) (tk:=s2.toks+([]:List (Str × Value)).length) I2 hCs hDs hDC f2 hfl old hns₁ hacc (fun v z=>nomatch z)
 have fpY:∀ {H':Hp} {pl:List (Addr × Obj)},(∀b∈fp,H' b=none)->(∀p∈pl,p.1∉fp)->∀b∈fp,lY (lV X scope C N s2 H2 fp) pl H' b:=fun hn hp b hb=>
  ⟨hn b hb,Nat.ne_of_lt (Nat.lt_of_lt_of_le (hfl b hb) hCs),(S.ok I2 hCs f2 hfl).exfs b hb,.inl hb,fun x c e=>(f2 b hb).2.2.2.2.1 x c (dQ e).1,fun p hm z=>by
   rcases Zma.mp hm with q | q
   ·exact absurd (show p∈([]:List (Addr × Obj)) from q) Zs
   ·exact hp p q (z ▸ hb)⟩
 have dfp:D∉fp:=fun z=>absurd (Nat.lt_of_lt_of_le (hfl D z) hDs) (Nat.lt_irrefl _)
 have one:∀ {ob:Obj},∀p∈[(D,ob)],p.1∉fp:=fun p hp=>by
  have e:=Zms.mp hp
  subst e;exact dfp
 have loop:∀s₃:Shared,s₃={s2 with heap:=h₁,toks:=s2.toks+([]:List (Str × Value)).length } →
   codeAny (model X.prog X.w) X.A (.compLoop (.ListComp elt [⟨tg,iter,ifs,0⟩] scope pos) 0 (.ref it) (.ref D) (compEnvC scope (jH X.env scope.names []) C X.env)) (RR (.ref D) C) s₃:=by
  rintro s₃ rfl
  refine codeAny_loop rfl (fun n s'=>∃(i:Nat) (ys:List V) (H':Hp) (its:List Value) (k:Nat),Inv (lV X scope C N s2 H2 fp) [(D,{cls:=.type "list",data:=.seq its.toArray k })] (qO js σ) H' s'/\Vals ys its/\ys.length<=sizeLine/\tn i s'.heap/\(∀b∈fp,H' b=none)/\W i n ys H') ?_ m0 ?_
  ·rintro n s3 ⟨i,ys,H3,its,k,I3,rv,hz,st3,fr3,w3⟩
   show wpAny _ X.A ((compTurn (.ListComp elt [⟨tg,iter,ifs,0⟩] scope pos) 0 (.ref it) (.ref D) (compEnvC scope (jH X.env scope.names []) C X.env)).onRaise (fun x=>do noteFrame x _;theTreesLotGoes x)) _ _ s3
   refine wpAny_noted (wpAny_noRaise ?_)
   rw[compTurn_list];rcases turn i n ys H3 w3 with⟨stop,qn⟩ | ⟨goes,hlt,Nx,hN,step⟩
   ·refine wpAny_bind (wpAny_standAt (wpAny_bind (bV (T.done (lV X scope C N s2 H2 fp) rfl rfl rfl hc i _ s3 (qO js σ) H3 (fun _ _=>False) I3 (fpY fr3 one) st3 stop) fun r s4 ⟨hr,I4⟩=>?_)))
    subst hr;refine wpAny_pure ?_
    have pD:=I4.pin (D,{cls:=.type "list",data:=.seq its.toArray k }) (by simp [lV])
    obtain⟨mC,hnC,_⟩:=id I4.loc
    have IX:Inv X pins σ (aJ H3 D (.lst ys)) s4:=by
     refine I2.call' (ch:=fp) I4.os (Un.more I4.base (Heap.get?_none_of_le hDs) (I2.hok.fresh hDs)) (HOk.more I4.hok pD.2.1 ⟨hz,its,k,rv,pD.1⟩) I4.bare fun b hb=>?_
     obtain⟨_,f1,_,f3,f4,f5⟩:=f2 b hb
     exact⟨f3,f1,f4,f5⟩
    exact hRR C D ys H3 s4 mC hCs hDs hDC IX I4.free pD.2.1 hnC qn
   ·refine wpAny_bind (wpAny_standAt (wpAny_bind (bV (T.item (lV X scope C N s2 H2 fp) rfl rfl rfl hc i _ s3 (qO js σ) H3 (fun _ _=>False) I3 (fpY fr3 one) st3 goes) fun r s4 ⟨u,hr,h4⟩=>?_)))
    subst hr;refine wpAny_bind (bV h4 fun _ s5 ⟨x,H5,I5,r5,y5,st5,fr5⟩=>?_)
    have I5':=I5.pinned (fpY fr5 one) (T.obj _ _ st5)
    refine wpAny_bind (bV (pg _ s5 (qO js σ) H5 x u _ I5' r5 (go _ _ _ _ (step x H5 y5))) fun _ s6 ⟨σ6,H6,I6,⟨q6,l6,e6⟩⟩=>?_)
    have weak:∀ {pl:List (Addr × Obj)} {H7:Hp} {s7:Shared},Inv (lV X scope C N s2 H2 fp) pl σ6 H7 s7->Inv (lV X scope C N s2 H2 fp) pl (qO js σ) H7 s7:=fun {pl H7 s7} I7=>by
     refine I7.weak l6.symm fun j v hj=>?_
     cases e:js[j]? with
     | none=>unfold qO at hj;rw[kE,e]at hj;cases hj
     | some o=>
      cases o with
      | none=>unfold qO at hj;rw[kE,e]at hj;cases hj
      | some j'=>rw[e6 j j' e];exact hj
    have keepN:∀ {H7:Hp} {s7:Shared} {pl:List (Addr × Obj)},Inv (lV X scope C N s2 H2 fp) (pl++oM fp s5.heap) (qO js σ) H7 s7->tn (i+1) s7.heap/\∀b∈fp,H7 b=none:=fun {H7 s7 pl} I7=>by
     refine⟨T.keep _ _ _ st5 fun b hb o e=>(I7.pin (b,o) (List.mem_append_right _ (List.mem_append_right _ (iB hb e)))).1,fun b hb=>?_⟩
     obtain⟨o,e,d⟩:=T.obj _ _ st5 b hb
     exact(I7.pin (b,o) (List.mem_append_right _ (List.mem_append_right _ (iB hb e)))).2.1
    refine wpAny_bind (bV (pt _ s6 σ6 H6 _ _ I6 q6) fun ok s7 ⟨H7,I7,q7⟩=>?_)
    cases ok with
    | false=>
     rw[if_neg Bool.false_ne_true]at q7;refine wpAny_pure ⟨rfl,?_⟩
     obtain⟨m',hm,w7⟩:=hN ys H7 q7
     have I7':=weak I7
     obtain⟨k1,k2⟩:=keepN I7'
     exact⟨m',hm,i+1,ys,H7,its,k,I7'.unpinned,rv,hz,k1,k2,w7⟩
    | true=>
     rw[if_pos rfl]at q7;show wpAny _ _ ((eval elt _ >>= fun x=>call (.builtin "list.append") [.ref D,x] >>= fun _=>pure ()) >>= fun _=>again _) _ _ _
     refine wpAny_bind (wpAny_bind (bV (pe _ s7 σ6 H7 _ I7 q7) fun y s8 ⟨yv,H8,I8,r8,q8⟩=>?_))
     obtain⟨m',hm,w8⟩:=hN (ys++[yv]) H8 q8
     have I8':=weak I8
     obtain⟨k1,k2⟩:=keepN I8'
     have pD:=I8'.pin (D,{cls:=.type "list",data:=.seq its.toArray k }) (by simp [lV])
     have hln:=rv.length
     refine wpAny_bind (call_meets F.slot_list_append ⟨_,pD.1,rfl⟩ F.entry_list_append (F.args_list_append_2 _ _) (PySem.list_append D its.toArray k y (by rw[dS];omega)) ⟨pD.1,?_⟩)
     refine wpAny_pure (wpAny_pure ⟨rfl,m',hm,i+1,ys++[yv],H8,its++[y],?_⟩)
     have q:=PySem.IsL.update pD.1 (fun z=>z.push y)
     have eA:its.toArray.push y=(its++[y]).toArray:=by simp
     rw[eA]at q;have I9:Inv (lV X scope C N s2 H2 fp) [] (qO js σ) H8 s8:=I8'.pins_of fun p hp=>absurd hp Zs
     have hob:∀b o,b≠D->s8.heap.get? b=some o->(s8.heap.update D (Obj.mapSeq fun z=>z.push y)).get? b=some o:=fun b o hb hu=>(Heap.get?_update_other s8.heap _ (Ne.symm hb)).trans hu
     have I10:Inv (lV X scope C N s2 H2 fp) [] (qO js σ) H8 {s8 with heap:=s8.heap.update D (Obj.mapSeq fun z=>z.push y),toks:=s8.toks }:=I9.turned hob pD.2.1 pD.2.2.1 (.inr hDs)
      (fun x c e z=>by
       obtain⟨v,oc,q1,q2⟩:=I2.cell x c (dQ e).1
       rw[z]at q1;exact absurd (Nat.lt_of_lt_of_le (Heap.lt_size q1) hDs) (Nat.lt_irrefl _))
      (fun p hp=>by
       rcases Zma.mp hp with q | q
       ·exact absurd (show p∈([]:List (Addr × Obj)) from q) Zs
       ·exact absurd q Zs)
     refine⟨(if ((its++[y]).toArray).size == its.toArray.size then k else k+1),I10.pins_of fun p hp=>?_,rv.append (.cons r8 .nil),?_,?_,k2,w8⟩
     ·have e:=Zms.mp hp
      subst e;exact⟨q,pD.2.1,pD.2.2.1,pD.2.2.2.1,fun v z=>nomatch z⟩
     ·rw[sK,List.length_singleton];omega
     ·exact T.keep _ _ _ k1 fun b hb o e=>hob b o (fun z=>dfp (z ▸ hb)) e
  ·exact⟨0,[],H2,[],0,I0,.nil,Nat.zero_le _,T.keep _ _ _ st2 fun b _ o e=>old b o e,fun b hb=>(f2 b hb).1,w0⟩
 exact codeAny_compStart_list (loop _ rfl) (T.self _ 0 _ _ _ (T.keep _ _ _ st2 fun b _ o e=>old b o e) (loop _ rfl))
theorem Lr (hc:X.calm=true) (S:CompScope X scope N js) (go:xI js g) (hi:PI X tg iter wi)
  (hb:∀(C:Addr) (s₂:Shared) (H₂:Hp) (fp:List Addr),PG (lV X scope C N s₂ H₂ fp) tg g/\Uv (lV X scope C N s₂ H₂ fp) ifs tt/\PE (lV X scope C N s₂ H₂ fp) elt te)
  (hs:∀x,foldedSetIterable iter X.env x=pure x:=by intro _;rfl):PE X (.ListComp elt [⟨tg,iter,ifs,0⟩] scope pos) (Pb wi js g tt te):=by
 intro pins s σ H Q I h;rw[eval_ListComp];refine wpAny_comprehension_free (use:=none) rfl hs (oV fun y hy hk=>I.ok.has y.1 (S.out y hy hk)) S.kind S.loc (bV (hi pins s σ H _ I h) fun v s1 h1=>bV h1 fun itv s2 h2=>?_)
 obtain⟨it,fp,tn,J,H2,e,I2,T,st2,f2,hw⟩:=h2
 subst e;refine oY (RR:=fun acc C=>compPost (model X.prog X.w) X.A X.xe none (EP X pins σ Q) acc C) hc S go hb I2 T st2 f2 hw ?_
 intro C D ys H3 s3 m hC hD hDC I3 fC fD hn q;refine⟨m,hn,fun h' hs'=>?_⟩
 refine⟨.ref D,aJ H3 D (.lst ys),I3.turned (it:=C) (t':=s3.toks) (fun b o hb e=>(hs'.2 b hb).trans e) (by rw[aD (Ne.symm hDC)];exact fC) ?_ (.inr (kK I2.sz hC)) ?_ ?_,rfl,q D fD⟩
 ·exact Nat.ne_of_gt (Nat.lt_of_lt_of_le I2.lt hC)
 ·intro x c e z;obtain⟨v,oc,q1,q2⟩:=I2.cell x c e
  rw[z]at q1;exact absurd (Nat.lt_of_lt_of_le (Heap.lt_size q1) hC) (Nat.lt_irrefl _)
 ·intro p hp z;have:=Heap.lt_size (I2.pin p hp).1
  rw[z]at this;exact absurd (Nat.lt_of_lt_of_le this hC) (Nat.lt_irrefl _)
theorem Ls {i:Nat} {y:Str} {py spos:Pos} (hN:X.N.Nodup) (hy:X.N[i]?=some y) (hx:On X.env.scope y) (hc:X.calm=true) (S:CompScope X scope N js) (go:xI js g) (hi:PI X tg iter wi)
  (hb:∀(C:Addr) (s₂:Shared) (H₂:Hp) (fp:List Addr),PG (lV X scope C N s₂ H₂ fp) tg g/\Uv (lV X scope C N s₂ H₂ fp) ifs tt/\PE (lV X scope C N s₂ H₂ fp) elt te)
  (hsw:swapsWith (.ListComp elt [⟨tg,iter,ifs,0⟩] scope pos) (some (.Name y py)) spos.line X.env=pure true)
  (hs:∀x,foldedSetIterable iter X.env x=pure x:=by intro _;rfl) (hf:X.fn y=true∨X.env.scope.names.lookup y=some .local:=by first | exact .inl rfl | exact .inr rfl | assumption) :
  PS X (.Assign [.Name y py] (.ListComp elt [⟨tg,iter,ifs,0⟩] scope pos) spos) (Pd i wi js g tt te):=by
 intro pins s σ H D I h;rw[exec_Assign_Name_used _ _ _ _ hsw];refine wpAny_bind (wpAny_standAt (wpAny_bind ?_))
 show wpAny _ X.A (do let _ ← comprehension (.ListComp elt [⟨tg,iter,ifs,0⟩] scope pos) scope X.env _ (newList []) false (eval iter X.env) (some (assign (.Name y py) X.env))) _ _ s
 refine wpAny_bind (bV (wpAny_comprehension_free (use:=some (assign (.Name y py) X.env)) (Q:=fun _ s'=>SP X pins D .next s') rfl hs (oV fun y hy hk=>I.ok.has y.1 (S.out y hy hk)) S.kind S.loc
  (bV (hi pins s σ H _ I h) fun v s1 h1=>bV h1 fun itv s2 h2=>?_)) fun _ s' hq=>wpAny_pure (wpAny_pure hq))
 obtain⟨it,fp,tn,J,H2,e,I2,T,st2,f2,hw⟩:=h2
 subst e;refine oY (RR:=fun acc C=>compPost (model X.prog X.w) X.A X.xe (some (assign (.Name y py) X.env)) (fun _ s'=>SP X pins D .next s') acc C) hc S go hb I2 T st2 f2 hw ?_
 intro C Da ys H3 s3 m hC hD hDC I3 fC fD hn q;have cne:∀x c,X.env.cells.lookup x=some c->c≠C:=fun x c e z=>by
  obtain⟨v,oc,q1,q2⟩:=I2.cell x c e
  rw[z]at q1;exact absurd (Nat.lt_of_lt_of_le (Heap.lt_size q1) hC) (Nat.lt_irrefl _)
 have lne:C≠X.env.locals:=Nat.ne_of_gt (Nat.lt_of_lt_of_le I2.lt hC)
 show wpAny _ X.A (assign (.Name y py) X.env (.ref Da)) _ _ _
 refine wpAny_assign_Name (rB (v:=.ref Da) I3 hN hy hx rfl (fun s4 I4 hs4=>?_) hf)
 obtain⟨a,hsb,ha⟩:=hs4
 have aC:C≠a:=by
  rcases ha with z | z
  ·rw[z];exact lne
  ·exact Ne.symm (cne y a z)
 refine⟨m,hn.sameBut hsb aC,fun h' hs'=>?_⟩
 refine⟨_,_,I4.turned (it:=C) (t':=s4.toks) (fun b o hb e=>(hs'.2 b hb).trans e) (by rw[aD (Ne.symm hDC)];exact fC) lne (.inr (kK I2.sz hC)) cne ?_,q Da fD⟩
 intro p hp z;have:=Heap.lt_size (I2.pin p hp).1
 rw[z]at this;exact absurd (Nat.lt_of_lt_of_le this hC) (Nat.lt_irrefl _)
end
end L2
namespace L2
open PySem PySem.Spec PyProof.Rows
def Yh (x:Str):It:=⟨fun i _=>i<x.cps.size,fun i H v H'=>H'=H/\∃c,x.cps[i]?=some c/\v=.str ⟨#[c]⟩,fun i _=>x.cps.size<=i⟩
theorem xJ {P:Program} {w:World} {K:W.Frag} {tg:Expr} (it:Addr) (x:Str) (t:Tok):sP P w K tg (Yh x) [it] it (fun i h=>h.IsStrIter it "str_ascii_iterator" x t i) where
 mem:=by simp
 obj:=fun i h st b hb=>by
  have e:b=it:=by simpa using hb
  subst e;obtain⟨o,e,c,d⟩:=st
  exact⟨o,e,fun v z=>by rw[d]at z;cases z⟩
 keep:=fun i h h' st k=>let ⟨o,ho,r⟩:=st;⟨o,k it Zs o ho,r⟩
 item:=by
  intro X hP hw hK hc i pins s σ H E I hf st hg;subst hP hw hK;obtain⟨f0,f1,f2,f3,f4,f5⟩:=hf it Zs
  have hi:i<x.cps.size:=hg
  refine wpAny_pyNext_ascii_item st (c:=x.cps[i]) (by simp [hi]) fun h' st' sb=>?_
  have I1:Inv X pins σ H {s with heap:=h',toks:=s.toks+1 }:=I.turned (fun b o hb e=>(sb.2 b hb).trans e) f0 f1 f3 f4 f5
  obtain⟨o,e,c,d⟩:=id st'
  exact⟨_,rfl,uW (s:={s with heap:=h',toks:=s.toks+1 }) e c d Zd ⟨.str ⟨#[x.cps[i]]⟩,H,I1,⟨_,rfl⟩,⟨rfl,_,by simp [hi],rfl⟩,st',fun b hb=>(hf b hb).1⟩⟩
 done:=by
  intro X hP hw hK hc i pins s σ H E I hf st hg;subst hP hw hK;obtain⟨f0,f1,f2,f3,f4,f5⟩:=hf it Zs
  have hi:x.cps.size<=i:=hg
  exact wpAny_pyNext_ascii_end (I.ok.hd hc) st (by simp [hi]) fun h' eb=>⟨rfl,I.turned (t':=s.toks) (fun b o hb e=>eb b o hb e) f0 f1 f3 f4 f5⟩
 self:=fun _ _ _ _ _ st h=>wpAny_pyIter_striter_ascii st h
theorem Cd {P:Program} {w:World} {K:W.Frag} {tg:Expr} (it:Addr) (x:Str) (t:Tok):sP P w K tg (Yh x) [it] it (fun i h=>h.IsStrIter it "str_iterator" x t i) where
 mem:=by simp
 obj:=fun i h st b hb=>by
  have e:b=it:=by simpa using hb
  subst e;obtain⟨o,e,c,d⟩:=st
  exact⟨o,e,fun v z=>by rw[d]at z;cases z⟩
 keep:=fun i h h' st k=>let ⟨o,ho,r⟩:=st;⟨o,k it Zs o ho,r⟩
 item:=by
  intro X hP hw hK hc i pins s σ H E I hf st hg;subst hP hw hK;obtain⟨f0,f1,f2,f3,f4,f5⟩:=hf it Zs
  have hi:i<x.cps.size:=hg
  refine wpAny_pyNext_wide_item st (c:=x.cps[i]) (by simp [hi]) fun h' st' sb=>?_
  have I1:Inv X pins σ H {s with heap:=h',toks:=s.toks+1 }:=I.turned (fun b o hb e=>(sb.2 b hb).trans e) f0 f1 f3 f4 f5
  obtain⟨o,e,c,d⟩:=id st'
  exact⟨_,rfl,uW (s:={s with heap:=h',toks:=s.toks+1 }) e c d Zd ⟨.str ⟨#[x.cps[i]]⟩,H,I1,⟨_,rfl⟩,⟨rfl,_,by simp [hi],rfl⟩,st',fun b hb=>(hf b hb).1⟩⟩
 done:=by
  intro X hP hw hK hc i pins s σ H E I hf st hg;subst hP hw hK;obtain⟨f0,f1,f2,f3,f4,f5⟩:=hf it Zs
  have hi:x.cps.size<=i:=hg
  exact wpAny_pyNext_wide_end (I.ok.hd hc) st (by simp [hi]) fun h' eb=>⟨rfl,I.turned (t':=s.toks) (fun b o hb e=>eb b o hb e) f0 f1 f3 f4 f5⟩
 self:=fun _ _ _ _ _ st h=>wpAny_pyIter_striter_wide st h
section
variable {X:Cx} {tg:Expr}
def We (tl:TE):TI:=fun σ H R=>tl σ H fun x H1=>∃z,x=.str z/\R (Yh z) H1
theorem Sg {l:Expr} {tl:TE} (hl:PE X l tl):PI X tg l (We tl):=by
 intro pins s σ H R I h;refine bV (hl pins s σ H _ I h) fun v s1 ⟨x,H1,I1,r1,q1⟩=>?_
 obtain⟨z,rfl,q⟩:=q1
 obtain⟨t,rfl⟩:=r1
 have fp:∀b∈[s1.heap.objs.size],lY X pins H1 b:=fun b hb=>by
  have e:b=s1.heap.objs.size:=by simpa using hb
  subst e;exact I1.fpOk (bM _) (I1.hok.fresh (bM _))
 cases ha:z.cps.all (·<128)
 ·refine wpAny_pyIter_wide ha ?_
  exact⟨s1.heap.objs.size,[s1.heap.objs.size],_,_,H1,rfl,I1.kept (t':=s1.toks) fun b o e=>fP _ e,Cd _ z t,⟨_,Heap.get?_push_size _ rfl,rfl,rfl⟩,fp,q⟩
 ·refine wpAny_pyIter_ascii ha ?_
  exact⟨s1.heap.objs.size,[s1.heap.objs.size],_,_,H1,rfl,I1.kept (t':=s1.toks) fun b o e=>fP _ e,xJ _ z t,⟨_,Heap.get?_push_size _ rfl,rfl,rfl⟩,fp,q⟩
end
abbrev tx (l:List Nat):Str:=⟨l.toArray⟩
theorem xK (x:Str):tx x.cps.toList=x:=by cases x;simp
theorem fS (l:List Nat):(tx l).length=l.length:=by simp [Str.length]
theorem tL (a b:List Nat):tx a++tx b=tx (a++b):=by
 show Str.append (tx a) (tx b)=_
 unfold Str.append;simp
def fI {α:Type} (xs:List α) (lo hi:Option Int):List α:=(xs.drop (HT.sIx xs.length 0 lo)).take (HT.sIx xs.length xs.length hi - HT.sIx xs.length 0 lo)
theorem Lu {α:Type} (xs:List α) (lo hi:Option Int):(fI xs lo hi).length<=xs.length:=by
 unfold fI;rw[nF,List.length_drop];omega
theorem zJ (n d:Nat) (v:Option Int):(match v with | none=>(d:Int) | some i=>max 0 (min (if i<0 then i+(n:Int) else i) (n:Int)))=((HT.sIx n d v:Nat):Int):=by
 cases v with
 | none=>rfl
 | some i=>
  show max 0 (min (if i<0 then i+(n:Int) else i) (n:Int))=(((if i<0 then (i+(n:Int)).toNat else min i.toNat n):Nat):Int)
  by_cases h:i<0
  ·rw[if_pos h,if_pos h];omega
  ·rw[if_neg h,if_neg h];omega
theorem Fg (lo hi:Option Int) (n:Nat):Builtin.Str.strSliceIndices lo hi 1 n=(List.range (HT.sIx n n hi - HT.sIx n 0 lo)).map (HT.sIx n 0 lo+·):=by
 rw[<- sliceRange_one,<- zJ n 0 lo,<- zJ n n hi];unfold Builtin.Str.strSliceIndices;simp only [show(1:Int) > 0 by decide,if_true]
 cases lo <;> cases hi <;> rfl
theorem Lv (n d:Nat) (hd:d<=n) (v:Option Int):HT.sIx n d v<=n:=by
 cases v with
 | none=>exact hd
 | some i=>
  show(if i<0 then (i+(n:Int)).toNat else min i.toNat n)<=n
  split <;> omega
theorem Ce (x:Str) (lo hi:Option Int):(Txt.slice x lo hi).cps.toList=fI x.cps.toList lo hi:=by
 have hl:x.cps.toList.length=x.length:=by simp [Str.length]
 unfold Txt.slice fI;rw[hl,Fg];have key:=pick_run x.cps (HT.sIx x.length 0 lo) (HT.sIx x.length x.length hi - HT.sIx x.length 0 lo)
 split
 ·rename_i h
  have h2:(HT.sIx x.length x.length hi - HT.sIx x.length 0 lo)=x.length:=by simpa using h
  have h3:=Lv x.length x.length (bM _) hi
  have h4:HT.sIx x.length 0 lo=0∨x.length=0:=by omega
  rw[h2];rcases h4 with h4 | h4
  ·rw[h4,List.drop_zero,rA (by rw[hl];exact bM _)]
  ·have e:x.cps.toList=[]:=List.eq_nil_of_length_eq_zero (by rw[hl];exact h4)
   rw[e];simp
 ·simpa using key
theorem Fi (x:Str) (lo hi:Option Int):Txt.slice x lo hi=tx (fI x.cps.toList lo hi):=by
 rw[<- Ce,xK]
section
variable {X:Cx}
def Zc:V->Option Int->Option Int->Hp->VK->Prop:=fun x lo hi H Q=>∃z,x=.str z/\z.length<=sizeLine/\Q (.str (tx (fI z.cps.toList lo hi))) H
theorem xL {h:Heap} {sl:Addr} {vl vu:Value} {lo hi:Option Int} (hs:h.IsSliceOf sl vl vu .none) (pl:IsPart vl lo) (pu:IsPart vu hi):∃l u:Option (Int × Tok),h.IsSlice sl l u none/\l.map (·.1)=lo/\u.map (·.1)=hi:=by
 cases pl with
 | none=>
  cases pu with
  | none=>exact⟨none,none,hs,rfl,rfl⟩
  | int j t=>exact⟨none,some (j,t),hs,rfl,rfl⟩
 | int i t=>
  cases pu with
  | none=>exact⟨some (i,t),none,hs,rfl,rfl⟩
  | int j u=>exact⟨some (i,t),some (j,u),hs,rfl,rfl⟩
theorem Sh:SlR X Zc:=by
 intro pins s σ H x v vl vu lo hi sl Q I rx hs pl pu h;obtain⟨z,rfl,hz,q⟩:=h
 obtain⟨t,rfl⟩:=rx
 obtain⟨l,u,hS,e1,e2⟩:=xL hs pl pu
 refine⟨"str",_,F.slot_str_getitem.lookup,typeIs_str _ _ _,wpAny_getItem_str_slice hS rfl ?_⟩
 have fin:∀t' k,EP X pins σ Q (.str (Txt.slice z lo hi) t') {s with toks:=k }:=fun t' k=>⟨.str (tx (fI z.cps.toList lo hi)),H,I.tok _,⟨t',by rw[Fi]⟩,q⟩
 subst e1 e2;exact post_val_or_str ⟨kK (Txt.slice_le z _ _) hz,fun t' k=>fin t' k⟩
theorem kM {ns:List Str}:∀ {us:List Value},Vals (ns.map V.str) us->StrsAre us ns:=by
 induction ns with
 | nil=>intro us r;rw[List.map_nil]at r;cases r;exact .nil
 | cons n ns ih=>
  intro us r;rw[List.map_cons]at r;cases r with
  | cons r1 r2=>
   obtain⟨t,e⟩:=r1
   subst e;exact .cons n t (ih r2)
def Fj (K:W.Frag):V->List V->Hp->VK->Prop:=fun x vs H Q=>∃sep p ys,x=.str sep/\vs=[.ref p]/\SqL K H p (ys.map V.str)/\(ys.map (·.length)).sum+ys.length*sep.length<=16777216/\Q (.str (Txt.join sep ys)) H
theorem Lw:Vw X "str.join" (Fj X.K):=by
 intro pins s σ H x vs v us Q I rx rv h;obtain⟨sep,p,ys,rfl,rfl,hq,hz,q⟩:=h
 obtain⟨t,rfl⟩:=rx
 obtain⟨u,rfl,ru⟩:=rv.one
 cases ru
 obtain⟨its,r,pl,_⟩:=I.list hq
 exact join_list pl.isList (by simpa using kM r) hz fun t' k=>⟨.str _,H,I.tok _,⟨_,rfl⟩,q⟩
def Ze (K:W.Frag):List V->Hp->VK->Prop:=fun vs H Q=>∃x T t b,vs=[x,.ty T]/\kW K H x t/\W.kitOne K t (.type T)=some b/\Q (.bl b) H
theorem Fk:CallR X (.builtin "isinstance") (Ze X.K):=by
 intro pins s σ H xs us Q I r h;obtain⟨x,T,t,b,rfl,ty,e,q⟩:=h
 obtain⟨u,c,rfl,ru,rc⟩:∃u c,us=[u,c]/\RelV x u/\RelV (.ty T) c:=by
  cases r with
  | cons p q=>
   cases q with
   | cons p' q'=>
    cases q'
    exact⟨_,_,rfl,p,p'⟩
 cases (show c=Value.type T from rc)
 exact Bs I ru ty e fun tk=>⟨.bl b,H,I.tok _,rfl,q⟩
theorem vF {ns:List Bool}:∀ {us:List Value},Vals (ns.map V.bl) us->PyProof.Rows.LSm.BoolsAre us ns:=by
 induction ns with
 | nil=>intro us r;rw[List.map_nil]at r;cases r;exact .nil
 | cons n ns ih=>
  intro us r;rw[List.map_cons]at r;cases r with
  | cons r1 r2=>
   have e:=r1
   cases (show _=Value.bool n from e)
   exact .cons n (ih r2)
def Si (K:W.Frag):List V->Hp->VK->Prop:=fun vs H Q=>∃(p:Addr) (bs:List Bool),vs=[.ref p]/\SqL K H p (bs.map V.bl)/\Q (.bl (bs.all id)) H
def Sj (K:W.Frag):List V->Hp->VK->Prop:=fun vs H Q=>∃(p:Addr) (ns:List Int),vs=[.ref p]/\SqL K H p (ns.map V.int)/\Q (.int (List.sum ns)) H
theorem Fl (hc:X.calm=true):CallR X (.builtin "all") (Si X.K):=by
 intro pins s σ H xs us Q I r h;obtain⟨p,bs,rfl,hq,q⟩:=h
 obtain⟨u,rfl,ru⟩:=jA r
 cases ru
 obtain⟨its,rv,pl,hz⟩:=I.list hq
 have hl:=pl.isList
 have hb:=vF rv
 have hlt:p<s.heap.objs.size:=by obtain⟨_,e,_⟩:=hl;exact Heap.lt_size e
 refine call_all_walk (wpAny_pyIter_list hl ?_)
 refine⟨s.heap.objs.size,[s.heap.objs.size,p],[s.heap.objs.size],its.toArray.size,_,_,fun i=>(bs[i]?).getD true,rfl,Walks.list (A:=X.A.in1) (I.ok.hd hc) _ p (Nat.ne_of_lt hlt) its.toArray,
  ⟨⟨_,Heap.get?_push_size _ rfl,rfl,rfl⟩,hl.push _⟩,fun i v s' Q' E' hP hQ=>?_,fun h' tk hk=>?_⟩
 ·obtain⟨b,e,rfl⟩:=hb.get i v (by simpa using hP)
  simp only [e,Option.getD_some]at hQ
  exact wpAny_truthy_bool hQ
 ·have e:((List.range its.toArray.size).all fun i=>(bs[i]?).getD true)=bs.all id:=by
   rw[dS,hb.length];exact PyProof.Rows.LSm.range_all bs
  rw[e];exact⟨.bl _,H,I.kept (PyProof.Rows.LSm.kept_iter hk),rfl,q⟩
theorem Fm (hc:X.calm=true):CallR X (.builtin "sum") (Sj X.K):=by
 intro pins s σ H xs us Q I r h;obtain⟨p,ns,rfl,hq,q⟩:=h
 obtain⟨u,rfl,ru⟩:=jA r
 cases ru
 obtain⟨its,rv,pl,hz⟩:=I.list hq
 have hi:=oO rv
 obtain⟨xs,hx⟩:=hi.allInts.items
 have hl':s.heap.IsList p (intItems xs):=hx ▸ pl.isList
 refine sum_intListG (I.ok.hd hc) hl' fun h' tk t' hk=>?_
 have e1:ns=xs.toList.map (·.1):=by
  rw[<- nums_intItems,<- hx];exact(show numsOf its.toArray.toList=ns from hi.numsOf).symm
 have e2:preSum (numAt xs) xs.size=ns.sum:=by
  rw[preSum_eq,rA Zs,e1]
 rw[e2];exact⟨.int _,H,I.kept hk,⟨_,rfl⟩,q⟩
end
section
variable {X:Cx}
def mJ (K:W.Frag) (neg:Bool):R2:=fun x y H Q=>∃(a b:Addr) (xs:List V),x=.ref a/\y=.ref b/\SqL K H a xs/\SqL K H b []/\Q (.bl (if neg then !xs.isEmpty else xs.isEmpty)) H
theorem jT {us:List Value} (r:Vals [] us):us=[]:=by cases r;rfl
theorem Fn (hu:X.A.units<cLine):OpR X (compareOp .Eq) (mJ X.K false):=by
 intro pins s σ H x y v u Q I rx ry h;obtain⟨a,b,xs,rfl,rfl,h1,h2,q⟩:=h
 cases rx
 cases ry
 obtain⟨its,r1,p1,_⟩:=I.list h1
 obtain⟨its2,r2,p2,_⟩:=I.list h2
 have e2:=jT r2
 subst e2;have hl:=r1.length
 cases xs with
 | nil=>
  have e1:=jT r1
  subst e1;exact SeqAt.eq_listAt (e:=fun _=>true) p1.isList p2.isList rfl hu (fun j h=>absurd h Zs) ⟨.bl true,H,I,rfl,q⟩
 | cons z zs=>
  exact SeqAt.eq_list_lengthsAt p1.isList p2.isList (by simp only [dS,<- hl];simp) hu ⟨.bl false,H,I,rfl,q⟩
theorem Fo (hu:X.A.units<cLine):OpR X (compareOp .NotEq) (mJ X.K true):=by
 intro pins s σ H x y v u Q I rx ry h;obtain⟨a,b,xs,rfl,rfl,h1,h2,q⟩:=h
 cases rx
 cases ry
 obtain⟨its,r1,p1,_⟩:=I.list h1
 obtain⟨its2,r2,p2,_⟩:=I.list h2
 have e2:=jT r2
 subst e2;have hl:=r1.length
 cases xs with
 | nil=>
  have e1:=jT r1
  subst e1;exact SeqAt.RcNeAt.lists (e:=fun _=>true) p1.isList p2.isList rfl hu (fun j h=>absurd h Zs) _ _ _ _ ⟨.bl false,H,I,rfl,q⟩
 | cons z zs=>
  exact SeqAt.RcNeAt.lists_lengths p1.isList p2.isList (by simp only [dS,<- hl];simp) hu _ _ _ _ ⟨.bl true,H,I,rfl,q⟩
end
end L2
namespace L2
open PySem PySem.Spec PyProof.Rows
def mB (x:V) (k:Bool->Prop):Prop:=match x with | .bl b=>k b | _=>False
def mI (x:V) (k:Int->Prop):Prop:=match x with | .int b=>k b | _=>False
def mS (x:V) (k:Str->Prop):Prop:=match x with | .str b=>k b | _=>False
def mR (x:V) (k:Addr->Prop):Prop:=match x with | .ref b=>k b | _=>False
theorem vG (x:V) (k:Bool->Prop):mB x k=∃b,x=.bl b/\k b:=by
 cases x <;> simp [mB]
theorem kZ (x:V) (k:Int->Prop):mI x k=∃b,x=.int b/\k b:=by
 cases x <;> simp [mI]
theorem oZ (x:V) (k:Str->Prop):mS x k=∃b,x=.str b/\k b:=by
 cases x <;> simp [mS]
theorem dU (x:V) (k:Addr->Prop):mR x k=∃b,x=.ref b/\k b:=by
 cases x <;> simp [mR]
theorem dR {n:Nat} (h:Nat.ble n 1000=true):n<=sizeLine:=kK (Nat.le_of_ble_eq_true h) Zd
theorem gY {n:Nat} (h:n<=1000):n<=sizeLine:=kK h Zd
section
variable {X:Cx} {a b c e:Expr} {ta tb tc te:TE} {pos:Pos}
def vr (i:Nat):TE:=fun σ H Q=>match σ[i]? with | some (some v)=>Q v H | _=>False
theorem Wf (i:Nat):vr i=Qi i:=by
 funext σ H Q
 unfold vr Qi;apply propext
 cases σ[i]? with
 | none=>simp
 | some o=>cases o <;> simp
theorem xv (i:Nat) {x:Str} {pos:Pos} (hN:X.N[i]?=some x:=by rfl) (hv:Vc X.env.scope x:=by first | exact Or.inl rfl | exact Or.inr (Or.inl rfl) | exact Or.inr (Or.inr rfl)) (hd:(x == ("__debug__":Str))=false:=by decide)
  (hcd:(x == ("__classdict__":Str))=false:=by decide):PE X (.Name x pos) (vr i):=by
 rw[Wf];exact Qj hN hv hd hcd
theorem OpR.imp {f:Value->Value->Sem Value} {r r':R2} (h:OpR X f r) (hi:∀x y H Q,r' x y H Q->r x y H Q):OpR X f r':=fun pins s σ H x y v u Q I rx ry q=>h pins s σ H x y v u Q I rx ry (hi x y H Q q)
theorem UnR.imp {f:Value->Sem Value} {r r':V->Hp->VK->Prop} (h:UnR X f r) (hi:∀x H Q,r' x H Q->r x H Q):UnR X f r':=fun pins s σ H x v Q I rx q=>h pins s σ H x v Q I rx (hi x H Q q)
theorem CallR.imp {f:Value} {r r':List V->Hp->VK->Prop} (h:CallR X f r) (hi:∀xs H Q,r' xs H Q->r xs H Q):CallR X f r':=fun pins s σ H xs us Q I rs q=>h pins s σ H xs us Q I rs (hi xs H Q q)
theorem IxR.imp {r r':R2} (h:IxR X r) (hi:∀x y H Q,r' x y H Q->r x y H Q):IxR X r':=fun value slice pins s σ H x y v u Q I rx ry q=>h value slice pins s σ H x y v u Q I rx ry (hi x y H Q q)
theorem SlR.imp {r r':V->Option Int->Option Int->Hp->VK->Prop} (h:SlR X r) (hi:∀x l u H Q,r' x l u H Q->r x l u H Q):SlR X r':=fun pins s σ H x v vl vu lo hi' sl Q I rx hs pl pu q=>h pins s σ H x v vl vu lo hi' sl Q I rx hs pl pu (hi x lo hi' H Q q)
def m2 (C:Int->Int->Prop) (g:Int->Int->V):R2:=fun x y H Q=>mI x fun i=>mI y fun j=>C i j/\Q (g i j) H
def xM (g:Int->Int->V):R2:=fun x y H Q=>mI x fun i=>mI y fun j=>Q (g i j) H
theorem jU {g:Int->Int->V} (x y:V) (H:Hp) (Q:VK) (h:xM g x y H Q):Kj g x y H Q:=by
 unfold xM at h;rw[kZ]at h;obtain⟨i,rfl,h⟩:=h
 rw[kZ]at h;obtain⟨j,rfl,h⟩:=h
 exact⟨i,j,rfl,rfl,h⟩
theorem tM {C:Int->Int->Prop} {g:Int->Int->V} (x y:V) (H:Hp) (Q:VK) (h:m2 C g x y H Q):rI C g x y H Q:=by
 unfold m2 at h;rw[kZ]at h;obtain⟨i,rfl,h⟩:=h
 rw[kZ]at h;obtain⟨j,rfl,hc,h⟩:=h
 exact⟨i,j,rfl,rfl,hc,h⟩
theorem Wg:OpR X (binaryOp .Add) (xM fun i j=>.int (i+j)):=Rk.imp jU
theorem Wh:OpR X (binaryOp .Sub) (xM fun i j=>.int (i - j)):=Rl.imp jU
theorem Wi:OpR X (binaryOp .Mult) (m2 CMul fun i j=>.int (i*j)):=Rm.imp tM
theorem Wj:OpR X (binaryOp .Mod) (m2 (fun _ j=>0<j) fun i j=>.int (i % j)):=Rn.imp tM
theorem Wk:OpR X (binaryOp .Pow) (m2 Rj fun i j=>.int (i ^ j.toNat)):=Ro.imp tM
theorem Zf:OpR X (compareOp .Lt) (xM fun i j=>.bl (decide (i<j))):=Ot.imp jU
theorem Zh:OpR X (compareOp .LtE) (xM fun i j=>.bl (decide (i<=j))):=Vp.imp jU
theorem Zi:OpR X (compareOp .Gt) (xM fun i j=>.bl (decide (j<i))):=Vq.imp jU
theorem Zj:OpR X (compareOp .GtE) (xM fun i j=>.bl (decide (j<=i))):=Vr.imp jU
def Fp:R2:=fun x y H Q=>mS x fun i=>mS y fun j=>i.length+j.length<=sizeLine/\Q (.str (i++j)) H
theorem Sk:OpR X (binaryOp .Add) Fp:=wY.imp fun x y H Q h=>by
 unfold Fp at h;rw[oZ]at h;obtain⟨i,rfl,h⟩:=h
 rw[oZ]at h;obtain⟨j,rfl,hc,h⟩:=h
 exact⟨i,j,rfl,rfl,hc,h⟩
def Wl:R2:=fun x y H Q=>match x,y with
 | .int i,.int j=>Q (.bl (decide (i=j))) H
 | .str i,.str j=>Q (.bl (decide (i=j))) H
 | .bl i,.bl j=>Q (.bl (decide (i=j))) H
 | .non,.non=>Q (.bl true) H
 | .int _,.non=>Q (.bl false) H | .non,.int _=>Q (.bl false) H
 | .str _,.non=>Q (.bl false) H | .non,.str _=>Q (.bl false) H
 | .bl _,.non=>Q (.bl false) H | .non,.bl _=>Q (.bl false) H
 | .int _,.str _=>Q (.bl false) H | .str _,.int _=>Q (.bl false) H
 | .bl _,.str _=>Q (.bl false) H | .str _,.bl _=>Q (.bl false) H
 | _,_=>False
def Wm:R2:=fun x y H Q=>match x,y with
 | .int i,.int j=>Q (.bl (!decide (i=j))) H
 | .str i,.str j=>Q (.bl (!decide (i=j))) H
 | .bl i,.bl j=>Q (.bl (!decide (i=j))) H
 | .non,.non=>Q (.bl false) H
 | .int _,.non=>Q (.bl true) H | .non,.int _=>Q (.bl true) H
 | .str _,.non=>Q (.bl true) H | .non,.str _=>Q (.bl true) H
 | .bl _,.non=>Q (.bl true) H | .non,.bl _=>Q (.bl true) H
 | .int _,.str _=>Q (.bl true) H | .str _,.int _=>Q (.bl true) H
 | .bl _,.str _=>Q (.bl true) H | .str _,.bl _=>Q (.bl true) H
 | _,_=>False
theorem Zl:OpR X (compareOp .Eq) Wl:=Oq.imp fun x y H Q h=>by
 unfold Wl at h;unfold rEq;split at h <;> first | exact h.elim | (refine⟨rfl,?_⟩;first | simpa using h | exact h)
theorem Zm:OpR X (compareOp .NotEq) Wm:=Os.imp fun x y H Q h=>by
 unfold Wm at h;unfold rNe;split at h <;> first | exact h.elim | (refine⟨rfl,?_⟩;first | simpa using h | exact h)
def Sl (neg:Bool):R2:=fun x y H Q=>mS x fun i=>mS y fun j=>∃c,i=tx [c]/\Q (.bl (if neg then !decide (c∈j.cps.toList) else decide (c∈j.cps.toList))) H
theorem Wn:OpR X (compareOp .In) (Sl false):=Bm.imp fun x y H Q h=>by
 unfold Sl at h;rw[oZ]at h;obtain⟨i,rfl,h⟩:=h
 rw[oZ]at h;obtain⟨j,rfl,c,rfl,h⟩:=h
 refine⟨_,j,rfl,rfl,?_⟩
 have e:=StrLaws.found_one j c
 have e':(!(Builtin.Str.occurrences j (tx [c]) 0 j.length 1).isEmpty)=decide (c∈j.cps.toList):=e
 rw[e'];exact h
theorem Wo:OpR X (compareOp .Is) (fun x y H Q=>match y with | .non=>Q (.bl (decide (x=.non))) H | _=>False):=Rq.imp fun x y H Q h=>by
 cases y <;> first | exact⟨rfl,h⟩ | exact h.elim
theorem Sm:OpR X (compareOp .IsNot) (fun x y H Q=>match y with | .non=>Q (.bl (!decide (x=.non))) H | _=>False):=Kl.imp fun x y H Q h=>by
 cases y <;> first | exact⟨rfl,h⟩ | exact h.elim
def mT (t:TE):TT:=fun σ H Q=>t σ H fun x H'=>mB x fun k=>Q k H'
theorem Pe (t:TE):mT t=yW t:=by
 funext σ H Q
 unfold mT yW;congr 1
 funext x H'
 exact vG x _
theorem Sn (t:TE):mT t=tB t:=by
 funext σ H Q
 unfold mT tB;congr 1
 funext x H'
 exact vG x _
theorem Wp {op:CmpOp} {r:R2} (ho:OpR X (compareOp op) r) (ha:PE X a ta) (hb:PE X b tb) (hm:behindInMarks op b=false:=by first | exact sR _ | rfl):PT X (.Compare a [op] [b] pos) (mT (sQ r ta tb)):=by
 rw[Pe];exact Kn ho ha hb hm
theorem Wq {op:CmpOp} {r:R2} (ho:OpR X (compareOp op) r) (ha:PE X a ta) (hb:PE X b tb) (hm:behindInMarks op b=false:=by first | exact sR _ | rfl):PE X (.Compare a [op] [b] pos) (sQ r ta tb):=Km ho ha hb hm
def mK (r r':R2) (ta tb tc:TE):TE:=fun σ H Q=>ta σ H fun x H1=>tb σ H1 fun y H2=>r x y H2 fun z H3=>mB z fun k=>(if k=true then tc σ H3 fun w' H4=>r' y w' H4 Q else Q (.bl false) H3)
theorem rL (r r':R2) (ta tb tc:TE):mK r r' ta tb tc=sU r r' ta tb tc:=by
 funext σ H Q
 unfold mK sU;congr 1
 funext x H1
 congr 1
 funext y H2
 congr 1
 funext z H3
 exact vG z _
theorem Lx {op op':CmpOp} {r r':R2} (ho:OpR X (compareOp op) r) (ho':OpR X (compareOp op') r') (ha:PE X a ta) (hb:PE X b tb) (hc:PE X c tc)
  (hm:lastMarks [op,op'] [b,c]=false:=by with_unfolding_all rfl):PE X (.Compare a [op,op'] [b,c] pos) (mK r r' ta tb tc):=by
 rw[rL];exact Eg ho ho' ha hb hc hm
theorem Ly {op op':CmpOp} {r r':R2} (ho:OpR X (compareOp op) r) (ho':OpR X (compareOp op') r') (ha:PE X a ta) (hb:PE X b tb) (hc:PE X c tc)
  (hm:lastMarks [op,op'] [b,c]=false:=by with_unfolding_all rfl):PT X (.Compare a [op,op'] [b,c] pos) (mT (mK r r' ta tb tc)):=by
 rw[Pe,rL];exact Eh ho ho' ha hb hc hm
theorem Wr {t:TE} (h:PE X e t) (he:∀whole,isTrue e X.env whole=(do let v ← whole;standAt e.pos;holding [v] (truthy v)):=by intro _;rfl):PT X e (mT t):=by
 rw[Sn];exact Qn h he
def zK (ta tb:TE):TE:=fun σ H Q=>ta σ H fun x H1=>mB x fun c=>if c=true then tb σ H1 Q else Q (.bl false) H1
def Lz (ta tb:TE):TE:=fun σ H Q=>ta σ H fun x H1=>mB x fun c=>if c=true then Q (.bl true) H1 else tb σ H1 Q
theorem Ws {rest:List Expr} (ha:PE X a ta) (hb:PE X (.BoolOp .And (b::rest) pos) tb):PE X (.BoolOp .And (a::b::rest) pos) (zK ta tb):=by
 have:zK ta tb=Dw ta tb:=by
  funext σ H Q;unfold zK Dw;congr 1;funext x H1;exact vG x _
 rw[this];exact Qt ha hb
theorem Zp {rest:List Expr} (ha:PE X a ta) (hb:PE X (.BoolOp .Or (b::rest) pos) tb):PE X (.BoolOp .Or (a::b::rest) pos) (Lz ta tb):=by
 have:Lz ta tb=Qr ta tb:=by
  funext σ H Q;unfold Lz Qr;congr 1;funext x H1;exact vG x _
 rw[this];exact Vg ha hb
theorem Wt (ha:PE X a ta):PE X (.UnaryOp .USub a pos) (Yt (fun x H Q=>mI x fun i=>Q (.int (-i)) H) ta):=Vn (Rp.imp fun x H Q h=>by
 rw[kZ]at h;obtain⟨i,rfl,h⟩:=h
 exact⟨i,rfl,h⟩) ha
def Ma (K:W.Frag):R2:=fun x y H Q=>mR x fun p=>mI y fun i=>∃xs,SqL K H p xs/\∃v,kT xs i=some v/\Q v H
def qP (K:W.Frag):R2:=fun x y H Q=>mR x fun p=>mI y fun i=>∃xs,SqT K H p xs/\∃v,kT xs i=some v/\Q v H
def So:R2:=fun x y H Q=>mS x fun z=>mI y fun i=>z.length<=sizeLine/\∃c,kT z.cps.toList i=some c/\Q (.str (tx [c])) H
theorem Sq:IxR X (Ma X.K):=Kx.imp fun x y H Q h=>by
 unfold Ma at h;rw[dU]at h;obtain⟨p,rfl,h⟩:=h
 rw[kZ]at h;obtain⟨i,rfl,xs,hq,v,hv,h⟩:=h
 exact⟨p,xs,i,v,rfl,rfl,hq,hv,h⟩
theorem Wu:IxR X (qP X.K):=Rx.imp fun x y H Q h=>by
 unfold qP at h;rw[dU]at h;obtain⟨p,rfl,h⟩:=h
 rw[kZ]at h;obtain⟨i,rfl,xs,hq,v,hv,h⟩:=h
 exact⟨p,xs,i,v,rfl,rfl,hq,hv,h⟩
theorem Wv:IxR X So:=Ry.imp fun x y H Q h=>by
 unfold So at h;rw[oZ]at h;obtain⟨z,rfl,h⟩:=h
 rw[kZ]at h;obtain⟨i,rfl,hz,c,hc,h⟩:=h
 exact⟨z,i,c,rfl,rfl,hz,hc,h⟩
theorem Zq {r:R2} (hr:IxR X r) (ha:PE X a ta) (hb:PE X b tb) (hs:sZ b:=by exact fun _ _=>rfl):PE X (.Subscript a b pos) (sQ r ta tb):=Vx hr ha hb hs
def zL (t:TE):TO:=fun σ H Q=>t σ H fun x H1=>mI x fun i=>Q (some i) H1
theorem Sr (h:PE X e te):PO X (some e) (zL te):=by
 have:zL te=En te:=by
  funext σ H Q;unfold zL En;congr 1;funext x H1;exact kZ x _
 rw[this];exact Kv h
def Ss:V->Option Int->Option Int->Hp->VK->Prop:=fun x lo hi H Q=>mS x fun z=>z.length<=sizeLine/\Q (.str (tx (fI z.cps.toList lo hi))) H
theorem Ww:SlR X Ss:=Sh.imp fun x l u H Q h=>by
 unfold Ss at h;rw[oZ]at h;obtain⟨z,rfl,hz,h⟩:=h
 exact⟨z,rfl,hz,h⟩
def Mb (K:W.Frag):V->Option Int->Option Int->Hp->VK->Prop:=fun x lo hi H Q=>mR x fun a=>∃xs,SqL K H a xs/\∀p,H p=none->Q (.ref p) (aJ H p (.lst (fI xs lo hi)))
theorem Su:SlR X (Mb X.K):=Ky.imp fun x l u H Q h=>by
 unfold Mb at h;rw[dU]at h;obtain⟨a,rfl,xs,hq,h⟩:=h
 exact⟨a,xs,rfl,hq,h⟩
theorem Sv:CallR X (.builtin "len") (fun vs H Q=>match vs with | [.str z]=>z.length<=sizeLine/\Q (.int z.length) H | _=>False):=tG.imp fun vs H Q h=>by
 split at h
 ·rename_i z
  exact⟨z,rfl,h.1,h.2⟩
 ·exact h.elim
theorem Sw:CallR X (.builtin "len") (fun vs H Q=>match vs with | [.ref p]=>∃ys,(SqL X.K H p ys∨SqT X.K H p ys)/\Q (.int ys.length) H | _=>False):=tF.imp fun vs H Q h=>by
 split at h
 ·rename_i p
  obtain⟨ys,hq,h⟩:=h
  exact⟨p,ys,rfl,hq,h⟩
 ·exact h.elim
theorem Wx:CallR X (.type "int") (fun vs H Q=>match vs with | [.bl k]=>Q (.int (if k then 1 else 0)) H | _=>False):=Bp.imp fun vs H Q h=>by
 split at h
 ·rename_i k
  exact .inr ⟨k,rfl,h⟩
 ·exact h.elim
end
inductive Kd where | non | bl | int | str | lst | tup | dct
def Mc:Kd->String | .non=>"NoneType" | .bl=>"bool" | .int=>"int" | .str=>"str" | .lst=>"list" | .tup=>"tuple" | .dct=>"dict"
def Pf (H:Hp):V->Kd->Prop
 | .non,.non=>True | .bl _,.bl=>True | .int _,.int=>True | .str _,.str=>True
 | .ref a,.lst=>(∃xs,H a=some (.lst xs))∨∃o xs,H a=some (.frz o (.lst xs))
 | .ref a,.tup=>∃xs,H a=some (.tup xs)
 | .ref a,.dct=>∃kvs,H a=some (.dK kvs)
 | _,_=>False
def Wy:Kd->Kd->Bool | .non,.non=>true | .bl,.bl=>true | .int,.int=>true | .int,.bl=>true | .str,.str=>true | .lst,.lst=>true | .tup,.tup=>true | .dct,.dct=>true | _,_=>false
theorem Wz (K:W.Frag) (want k:Kd):W.kitOne K (.type (Mc k)) (.type (Mc want))=some (Wy want k):=by
 cases want <;> cases k <;> first | rfl | kernel_rfl
theorem Zr {K:W.Frag} {H:Hp} {x:V} {k:Kd} (h:Pf H x k):kW K H x (.type (Mc k)):=by
  cases x <;> cases k <;> first
    | exact h.elim
    | exact .non
    | exact .bl _
    | exact .int _
    | exact .str _
    | (obtain⟨xs,e⟩:=h;exact .tup e)
    | (obtain⟨xs,e⟩:=h;exact .dK e)
    | (rcases h with⟨xs,e⟩ | ⟨o,xs,e⟩
       . exact .lst e
       . exact .frz e)
def Sx (want:Kd):List V->Hp->VK->Prop:=fun vs H Q=>match vs with
 | [x,y]=>y=.ty (Mc want)/\∃k,Pf H x k/\Q (.bl (Wy want k)) H
 | _=>False
section
variable {X:Cx}
theorem Xa (want:Kd):CallR X (.builtin "isinstance") (Sx want):=Fk.imp fun vs H Q h=>by
 unfold Sx at h;split at h
 ·rename_i x y
  obtain⟨rfl,k,hk,h⟩:=h
  exact⟨x,_,_,_,rfl,Zr hk,Wz X.K want k,h⟩
 ·exact h.elim
variable {e:Expr} {te:TE} {p p2 pos:Pos} {T:Str}
def Sy (want:Kd) (te:TE):TE:=fun σ H Q=>te σ H fun x H1=>∃k,Pf H1 x k/\Q (.bl (Wy want k)) H1
theorem Xb (want:Kd) (he:PE X e te) (hg:Gl X "isinstance") (hm:X.mg "isinstance"=none) (hgT:Gl X T) (hmT:X.mg T=none) (hT:bootBuiltins T=some (.type (Mc want)))
  (hs:starEach [e,.Name T p2] X.env=(false,eval e X.env)::starEach [.Name T p2] X.env:=by rfl) (hs2:starEach [.Name T p2] X.env=(false,eval (.Name T p2) X.env)::starEach [] X.env:=by rfl)
  (hn:T≠"__name__":=by decide) (hd:(T == ("__debug__":Str))=false:=by decide) (hpl:(backTo pos (starEach [.Name T p2] X.env)).any (·.1)=false:=by rfl) :
  PE X (.Call (.Name "isinstance" p) [e,.Name T p2] [] pos) (Sy want te):=by
 have h:=uZ (X:=X) (x:="isinstance") (p:=p) (pos:=pos) (Xa want) hg hm PyProof.Rows.boot_isinstance (sX he (sX (Jx (v:=.ty (Mc want)) (pos:=p2) hgT hmT hT rfl hn hd) sW hs2) hs) Zd Zd hs hpl
 intro pins s σ H Q I q;exact h pins s σ H Q I (by
  show te σ H _
  have:(fun(x:V) (H1:Hp)=>Sx want [x,.ty (Mc want)] H1 Q)=(fun x H1=>∃k,Pf H1 x k/\Q (.bl (Wy want k)) H1):=by
   funext x H1
   apply propext
   constructor
   ·rintro⟨_,z⟩;exact z
   ·intro z;exact⟨rfl,z⟩
  exact this ▸ q)
end
structure aG (P:Program) (w:World) (K:W.Frag) (mg:Str->Option Value) (base:Heap) (n:Nat) (x:Str) (ps:List Str) (sp:Sp):Prop where
 ex:∃(f:Addr) (fd:FuncData),jG P w K mg base rK n f fd ps sp/\mg x=some (.ref f)/\W.keepIn K (.ref f)=true/\Binds K fd ps []
section
variable {X:Cx} {n:Nat} {x:Str} {ps:List Str} {sp:Sp} {p pos:Pos} {e:Expr} {es:List Expr} {t:TA}
def Zt (sp:Sp) (t:TA):TE:=fun σ H Q=>t σ H fun vs H1=>sp vs H1 Q E0
theorem Zu (c:aG X.prog X.w X.K X.mg X.base n x ps sp) (hr:Room n X.A) (hg:Gl X x) (ha:PA X (e::es) t) (hdb:(x == ("__debug__":Str))=false:=by decide)
  (he:starEach (e::es) X.env=(false,eval e X.env)::starEach es X.env:=by rfl) (hpl:(backTo pos (starEach es X.env)).any (·.1)=false:=by rfl):PE X (.Call (.Name x p) (e::es) [] pos) (Zt sp t):=by
 obtain⟨f,fd,F,hm,hk,hb⟩:=c.ex
 have h:=Ks (X:=X) (p:=p) (pos:=pos) (E:=E0) F hr hg hm hk hb (dvs:=[]) .nil zE ha hdb he hpl
 intro pins s σ H Q I q;exact h pins s σ H Q I (by
  show t σ H _
  have:(fun(vs:List V) (H1:Hp)=>sp (vs++[]) H1 Q E0)=(fun vs H1=>sp vs H1 Q E0):=by
   funext vs H1;rw[List.append_nil]
  rw[this];exact q)
end
structure DefAt (K:W.Frag) (mg:Str->Option Value) (x:Str) (st:Stmt) (ps:List Str):Prop where
 ex:∃(f:Addr) (fd:FuncData),Fun K x x st f fd/\mg x=some (.ref f)/\Binds K fd ps []
theorem DefAt.ok {P:Program} {w:World} {K:W.Frag} {mg:Str->Option Value} {base:Heap} {x:Str} {st:Stmt} {N ps:List Str} {k:Nat} {sp:Sp} (D:DefAt K mg x st ps) (S:aI N ps (aB st)) (len:∀vs H Q E,sp vs H Q E->vs.length=ps.length)
  (hbody:∀(f:Addr) (cdv:Value) (A:Around) (outer:List Env) (s:Shared) (H:Hp) (vs:List V) (Q:VK) (E:XK),Room k (A.deeper (envOfC x (aB st) s.heap.objs.size f cdv))->sp vs H Q E →
   ∃t,PSs (kX rK P w K mg base N x (aB st) f cdv A outer s H E).nox (bD st) t/\t {nx:=fun _ H'=>Q .non H',rt:=Q } (start N vs) H):aG P w K mg base (k+1) x ps sp:=by
 obtain⟨f,fd,F,hm,hb⟩:=D.ex
 exact⟨f,fd,F.ok S len (hbody f),hm,F.kp,hb⟩
def Fq (sc0:Scope) (N0:List Str) (scope:Scope) (N:List Str) (js:List (Option Nat)):Bool:=
 (scope.kind == .function)&&scope.names.all (fun y=>y.2 != .cell)&&scope.names.all (fun y=>y.2 != .local||scope.names.lookup y.1 == some .local)&&(js.length == N.length)&&
 (List.range js.length).all (fun i=>match js[i]? with | some (some j)=>(match N[i]? with | some x=>N0[j]? == some x&&scope.names.lookup x == some .free | none=>false) | _=>true)&&
 scope.names.all (fun y=>y.2 != .free||sc0.names.lookup y.1 == some .cell||sc0.names.lookup y.1 == some .free)
theorem CompScope.by {X:Cx} {scope:Scope} {N:List Str} {js:List (Option Nat)} (sc0:Scope) (N0:List Str) (h0:X.env.scope=sc0) (hN:X.N=N0) (ok:Fq sc0 N0 scope N js=true):CompScope X scope N js:=by
 unfold Fq at ok;simp only [Bool.and_eq_true]at ok
 obtain⟨⟨⟨⟨⟨h1,h2⟩,h3⟩,h4⟩,h5⟩,h6⟩:=ok
 refine⟨by simpa using h1,fun y hy=>?_,fun y hy hk=>?_,by simpa using h4,fun i j e=>?_,fun y hy hk=>?_⟩
 ·have:=List.all_eq_true.mp h2 y hy
  simpa using this
 ·have:=List.all_eq_true.mp h3 y hy
  rw[hk]at this;simpa using this
 ·have hi:i<js.length:=(Zgs.mp e).1
  have:=List.all_eq_true.mp h5 i (List.mem_range.mpr hi)
  rw[e]at this;cases q:N[i]? with
  | none=>simp [q]at this
  | some x=>
   simp only [q,Bool.and_eq_true,beq_iff_eq]at this
   exact⟨x,rfl,by rw[hN];exact this.1,this.2⟩
 ·have:=List.all_eq_true.mp h6 y hy
  rw[hk]at this;have z:(sc0.names.lookup y.1 == some .cell)=true∨(sc0.names.lookup y.1 == some .free)=true:=by simpa using this
  have ek:X.env.kindOf y.1=sc0.names.lookup y.1:=by rw[<- h0];rfl
  rw[ek];rcases z with z | z
  ·exact .inl (by simpa using z)
  ·exact .inr (by simpa using z)
end L2
namespace L2
open PySem PySem.Spec PyProof.Rows
def aQ:Expr->Bool | .Starred _ _=>false | _=>true
theorem bK {e:Expr} {es:List Expr} {env:Env} (h:aQ e=true):starEach (e::es) env=(false,eval e env)::starEach es env:=by
 cases e <;> first | rfl | cases h
theorem fT {es:List Expr} {env:Env} {pos:Pos} (h:es.all aQ=true):(backTo pos (starEach es env)).any (·.1)=false:=by
 induction es with
 | nil=>rfl
 | cons e es ih=>
  rw[List.all_cons,Bool.and_eq_true]at h;rw[bK h.1];have:=ih h.2
  show(false||(backTo pos (starEach es env)).any (·.1))=false
  rw[this];rfl
section
variable {X:Cx} {e o:Expr} {es:List Expr} {te to:TE} {t:TA} {x:Str} {p pos apos cpos:Pos} {id T:String} {r:List V->Hp->VK->Prop}
theorem tN (ha:PE X e te) (hr:PA X es t) (h:aQ e=true:=by rfl):PA X (e::es) (jB te t):=sX ha hr (bK h)
theorem Md (hc:CallR X (.builtin id) r) (hg:Gl X x) (hm:X.mg x=none) (hv:bootBuiltins x=some (.builtin id)) (ha:PA X (e::es) t) (hn:x≠"__name__":=by decide) (hdb:(x == ("__debug__":Str))=false:=by decide)
  (h1:aQ e=true:=by rfl) (h2:es.all aQ=true:=by rfl):PE X (.Call (.Name x p) (e::es) [] pos) (Ut r t):=uZ hc hg hm hv ha hn hdb (bK h1) (fT h2)
theorem Fs (hc:CallR X (.type T) r) (hg:Gl X x) (hm:X.mg x=none) (hv:bootBuiltins x=some (.type T)) (ha:PA X (e::es) t) (hn:x≠"__name__":=by decide) (hdb:(x == ("__debug__":Str))=false:=by decide)
  (h1:aQ e=true:=by rfl) (h2:es.all aQ=true:=by rfl):PE X (.Call (.Name x p) (e::es) [] pos) (Ut r t):=Bu hc hg hm hv ha hn hdb (bK h1) (fT h2)
theorem Xc {n:Nat} {ps:List Str} {sp:Sp} (c:aG X.prog X.w X.K X.mg X.base n x ps sp) (hr:Room n X.A) (hg:Gl X x) (ha:PA X (e::es) t) (hdb:(x == ("__debug__":Str))=false:=by decide)
  (h1:aQ e=true:=by rfl) (h2:es.all aQ=true:=by rfl):PE X (.Call (.Name x p) (e::es) [] pos) (Zt sp t):=Zu c hr hg ha hdb (bK h1) (fT h2)
theorem Ft {es:List Expr} {env:Env} {cpos:Pos} (h:es.all aQ=true):(backTo cpos (starEach es env)).all (fun x=>!x.1)=true:=by
 induction es with
 | nil=>rfl
 | cons e es ih=>
  rw[List.all_cons,Bool.and_eq_true]at h;rw[bK h.1];show(!false&&(backTo cpos (starEach es env)).all (fun x=>!x.1))=true
  rw[ih h.2];rfl
theorem Zv {name:Str} {r:V->List V->Hp->VK->Prop} (pa:PlainAttrs T) (slot:Slot T name id) (hty:typeOf (.builtin id)=pure (.type "method_descriptor")) (hm:Vw X id r) (ho:PE X o to) (ha:PA X (e::es) t)
  (hbase:attributeBase o name X.env (eval o X.env)=eval o X.env:=by rfl) (hline:(apos.endLine == cpos.line)=true:=by rfl) (h1:aQ e=true:=by rfl) (h2:es.all aQ=true:=by rfl) (hn:es.length+1<30:=by decide) :
  PE X (.Call (.Attribute o name apos) (e::es) [] cpos) (Yg X.K T r to t):=by
 refine Vy pa slot hty hm ho ha hbase ?_ hline (bK h1) (fT h2)
 rw[Ft (by rw[List.all_cons,h1,h2];rfl)]
 show(true&&true&&decide (es.length+1+0+0<30))=true
 simp
 omega
theorem Sz {p2:Pos} {T:Str} (want:Kd) (he:PE X e te) (hg:Gl X "isinstance") (hm:X.mg "isinstance"=none) (hgT:Gl X T) (hmT:X.mg T=none) (hT:bootBuiltins T=some (.type (Mc want)))
  (hn:T≠"__name__":=by decide) (hd:(T == ("__debug__":Str))=false:=by decide) (h1:aQ e=true:=by rfl):PE X (.Call (.Name "isinstance" p) [e,.Name T p2] [] pos) (Sy want te):=
 Xb want he hg hm hgT hmT hT (bK h1) (bK rfl) hn hd (fT rfl)
end
end L2
namespace L2
open PySem PySem.Spec PyProof.Rows
theorem bC:bootBuiltins "len"=some (.builtin "len"):=by decide +kernel
theorem Fu:bootBuiltins "all"=some (.builtin "all"):=by decide +kernel
theorem Ta:bootBuiltins "sum"=some (.builtin "sum"):=by decide +kernel
theorem Cf:bootBuiltins "sorted"=some (.builtin "sorted"):=by decide +kernel
theorem mL:bootBuiltins "max"=some (.builtin "max"):=by decide +kernel
theorem xN:bootBuiltins "min"=some (.builtin "min"):=by decide +kernel
theorem zM:bootBuiltins "list"=some (.type "list"):=by decide +kernel
theorem Fv:bootBuiltins "str"=some (.type "str"):=by decide +kernel
theorem jI:bootBuiltins "int"=some (.type "int"):=by decide +kernel
theorem zN:bootBuiltins "bool"=some (.type "bool"):=by decide +kernel
theorem vH:bootBuiltins "tuple"=some (.type "tuple"):=by decide +kernel
theorem iC:bootBuiltins "dict"=some (.type "dict"):=by decide +kernel
structure Dk (H:Hp) (d b:Addr):Prop where
 ex:∃(ns:List Int) (s k:Int),H d=some (.lst [.ref b,.int s,.int k])/\H b=some (.lst (ns.map V.int))/\ns.length<=63
def Kp (d b:Addr) (H H':Hp):Prop:=∀c o,H c=some o->c≠d->c≠b->H' c=some o
theorem Kp.refl {d b:Addr} {H:Hp}:Kp d b H H:=fun _ _ e _ _=>e
theorem Kp.trans {d b:Addr} {H H1 H2:Hp} (x:Kp d b H H1) (y:Kp d b H1 H2):Kp d b H H2:=fun c o e h1 h2=>y c o (x c o e h1 h2) h1 h2
theorem Kp.new {d b p:Addr} {H:Hp} {o:HO} (h:H p=none):Kp d b H (aJ H p o):=fun c u e _ _=>by rw[aD (aE e h)];exact e
theorem Dk.new {d b p:Addr} {H:Hp} {o:HO} (x:Dk H d b) (h:H p=none):Dk (aJ H p o) d b:=by
 obtain⟨ns,s,k,h1,h2,h3⟩:=x.ex
 exact⟨ns,s,k,by rw[aD (aE h1 h)];exact h1,by rw[aD (aE h2 h)];exact h2,h3⟩
def Fx (K:W.Frag):Sp:=fun vs H Q _=>∃(a:Addr) (ns:List Int),vs=[.ref a]/\SqL K H a (ns.map V.int)/\∀d b H',H d=none->H b=none->Dk H' d b->Same H H'->Q (.ref d) H'
end L2
namespace L2
theorem Cg {c:Bool} {A B:Prop} (h:c=true) (k:A):if c=true then A else B:=by rw[if_pos h];exact k
theorem tO {c:Bool} {A B:Prop} (h:c=false) (k:B):if c=true then A else B:=by rw[if_neg (by rw[h];exact Bool.false_ne_true)];exact k
theorem bF {c:Bool} {A B:Prop} (ht:c=true->A) (hf:c=false->B):if c=true then A else B:=by
 cases h:c with
 | true=>rw[if_pos rfl];exact ht h
 | false=>rw[if_neg Bool.false_ne_true];exact hf h
end L2
namespace L2
open PySem PySem.Spec PyProof.Rows
structure xO (J:It) (xs:List V) (A:Hp->Prop):Prop where
 go:∀i H,i<xs.length->A H->J.go i H
 yld:∀i H x H',i<xs.length->A H->J.yld i H x H'->H'=H/\xs[i]?=some x
 stop:∀H,A H->J.stop xs.length H
def rM (x:Str):List V:=x.cps.toList.map fun c=>V.str (tx [c])
theorem Me (x:Str):xO (Yh x) (rM x) (fun _=>True):=by
 have hl:(rM x).length=x.cps.size:=by simp [rM]
 refine⟨fun i H hi _=>by rw[hl]at hi;exact hi,fun i H v H' _ _ ⟨e,c,hc,ev⟩=>⟨e,?_⟩,fun H _=>by rw[hl];exact bM _⟩
 subst ev;unfold rM;rw[kE,Array.getElem?_toList,hc];rfl
def jJ (lo:Int) (n:Nat):List V:=(List.range n).map fun(i:Nat)=>V.int (lo+(i:Int))
theorem cR (lo:Int) (n:Nat):xO (Ye lo n) (jJ lo n) (fun _=>True):=by
 have hl:(jJ lo n).length=n:=by simp [jJ]
 refine⟨fun i H hi _=>by rw[hl]at hi;exact hi,fun i H v H' hi _ ⟨e,ev⟩=>⟨e,?_⟩,fun H _=>by rw[hl];exact bM _⟩
 subst ev;rw[hl]at hi;unfold jJ;rw[kE,List.getElem?_range hi];rfl
theorem cU (K:W.Frag) (a:Addr) (xs:List V):xO (Re K a) xs (fun H=>SqL K H a xs):=
 ⟨fun i H hi h=>⟨xs,xs[i],h,by simp [hi]⟩,fun i H x H' _ h ⟨e,y⟩=>⟨e,y xs h⟩,fun H h=>⟨xs,h,bM _⟩⟩
theorem lA (K:W.Frag) (a:Addr) (xs:List V):xO (Ys K a) xs (fun H=>SqT K H a xs):=
 ⟨fun i H hi h=>⟨xs,xs[i],h,by simp [hi]⟩,fun i H x H' _ h ⟨e,y⟩=>⟨e,y xs h⟩,fun H h=>⟨xs,h,bM _⟩⟩
theorem bT {J:It} {xs:List V} {A:Hp->Prop} {js:List (Option Nat)} {g:TG} {tt:TT} {te:TE} {σ:St} {H:Hp} {Q:List V->Hp->Prop} (S:xO J xs A) (hz:xs.length<=100000) (Pv:Nat->List V->Hp->Prop) (hA:∀i ys H,Pv i ys H->A H/\ys.length<=i) (h0:Pv 0 [] H)
  (hs:∀i x ys H,xs[i]?=some x->Pv i ys H->g x (qO js σ) H fun σ2 H2=>tt σ2 H2 fun b H3=>if b=true then te σ2 H3 fun y H4=>Pv (i+1) (ys++[y]) H4 else Pv (i+1) ys H3)
  (hd:∀ys H,Pv xs.length ys H->Q ys H):kI js g tt te σ J H Q:=by
 refine⟨fun i m ys H=>m=xs.length - i/\i<=xs.length/\Pv i ys H,⟨xs.length,Zs,Nat.zero_le _,h0⟩,?_⟩
 rintro i m ys H ⟨rfl,hi,p⟩
 obtain⟨pa,hy⟩:=hA i ys H p
 by_cases hlt:i<xs.length
 ·refine .inr ⟨S.go i H hlt pa,oK (m:=100000) Zo Zd,Pv (i+1),fun ys' H' p'=>⟨xs.length - (i+1),Zo,rfl,hlt,p'⟩,fun x H' y=>?_⟩
  obtain⟨rfl,hx⟩:=S.yld i H x H' hlt pa y
  exact hs i x ys H' hx p
 ·have e:i=xs.length:=by omega
  subst e;exact .inl ⟨S.stop H pa,hd ys H p⟩
theorem Ch {J:It} {xs:List V} {A:Hp->Prop} {js:List (Option Nat)} {g:TG} {tt:TT} {te:TE} {σ:St} {H:Hp} {Q:List V->Hp->Prop} (S:xO J xs A) (hz:xs.length<=100000) (p:V->Bool) (f:V->V) (hA:A H)
  (hs:∀(x:V) (ys:List V) (N:List V->Hp->Prop),x∈xs->(p x=true->N (ys++[f x]) H)->(p x=false->N ys H)->g x (qO js σ) H fun σ2 H2=>tt σ2 H2 fun b H3=>if b=true then te σ2 H3 fun y H4=>N (ys++[y]) H4 else N ys H3)
  (hd:Q ((xs.filter p).map f) H):kI js g tt te σ J H Q:=by
 refine bT S hz (fun i ys H'=>ys=((xs.take i).filter p).map f/\H'=H) (fun i ys H' ⟨e,e2⟩=>⟨by rw[e2];exact hA,?_⟩) ⟨Zs,rfl⟩ (fun i x ys H' hx ⟨e,e2⟩=>?_) (fun ys H' ⟨e,e2⟩=>?_)
 ·rw[e,bG];exact kK (List.length_filter_le _ _) (by rw[nF];exact Nat.min_le_left _ _)
 ·subst e2;have key:(xs.take (i+1)).filter p=(xs.take i).filter p++(if p x=true then [x] else []):=take_succ_filter p xs i x hx
  refine hs x ys (fun ys' H3=>ys'=((xs.take (i+1)).filter p).map f/\H3=H') (gX hx) (fun h=>⟨?_,rfl⟩) (fun h=>⟨?_,rfl⟩)
  ·rw[key,if_pos h,jF,e];rfl
  ·rw[key,if_neg (by rw[h];exact Bool.false_ne_true),List.append_nil,e]
 ·subst e2;rw[e,rA (bM _)];exact hd
theorem dM {J:It} {xs:List V} {A:Hp->Prop} {g:TG} {tb:TS} {D:nS} {σ:St} {H:Hp} (S:xO J xs A) (Pv:Nat->St->Hp->Prop) (hA:∀i σ H,Pv i σ H->A H) (h0:Pv 0 σ H)
  (hs:∀(i:Nat) (x:V) σ H,xs[i]?=some x->Pv i σ H->g x σ H fun σ2 H2=>tb {D with nx:=Pv (i+1),ct:=Pv (i+1),bk:=D.nx } σ2 H2) (hd:∀ σ H,Pv xs.length σ H->D.nx σ H) :
  ∃W:Nat->Nat->St->Hp->Prop,(∃m,W 0 m σ H)/\∀i m σ H,W i m σ H →
   (J.stop i H/\D.nx σ H)∨(J.go i H/\∃N:St->Hp->Prop,(∀ σ' H',N σ' H'->∃m',m'<m/\W (i+1) m' σ' H')/\∀x H',J.yld i H x H'->g x σ H' fun σ2 H2=>tb {D with nx:=N,ct:=N,bk:=D.nx } σ2 H2):=by
 refine⟨fun i m σ H=>m=xs.length - i/\i<=xs.length/\Pv i σ H,⟨xs.length,Zs,Nat.zero_le _,h0⟩,?_⟩
 rintro i m σ H ⟨rfl,hi,p⟩
 have pa:=hA i σ H p
 by_cases hlt:i<xs.length
 ·refine .inr ⟨S.go i H hlt pa,Pv (i+1),fun σ' H' p'=>⟨xs.length - (i+1),Zo,rfl,hlt,p'⟩,fun x H' y=>?_⟩
  obtain⟨rfl,hx⟩:=S.yld i H x H' hlt pa y
  exact hs i x σ H' hx p
 ·have e:i=xs.length:=by omega
  subst e;exact .inl ⟨S.stop H pa,hd σ H p⟩
end L2
namespace L2
open PySem
theorem aF {H:Hp} {p:Addr} {o:HO} (h:H p=none):Same H (aJ H p o):=fun b u q=>by rw[aD (aE q h)];exact q
theorem tP {α:Type} (xs:List α) (k:Nat):fI xs none (some (k:Int))=xs.take k:=by
 unfold fI;rw[HT.sIx_none,HT.sIx_nat,List.drop_zero,Nat.sub_zero,<- List.take_take,rA (bM _)]
theorem vI {α:Type} (xs:List α) (k:Nat):fI xs (some (k:Int)) none=xs.drop k:=by
 unfold fI;rw[HT.sIx_none,HT.sIx_nat];by_cases h:k<=xs.length
 ·rw[Nat.min_eq_left h,rA (by rw[List.length_drop];exact bM _)]
 ·rw[Nat.min_eq_right Zo,List.drop_of_length_le (bM _),List.drop_of_length_le Zo,List.take_nil]
theorem tQ {α β:Type} (f:α->β) (xs:List α) (lo hi:Option Int):fI (xs.map f) lo hi=(fI xs lo hi).map f:=by
 unfold fI;rw[bG,<- List.map_drop,<- List.map_take]
end L2
namespace L2
open PySem PySem.Spec PyProof.Rows
theorem aO {H:Hp} {p q:Addr} {o u:HO} (h:H p=some o) (hq:H q=none):aJ H q u p=some o:=by rw[aD (aE h hq)];exact h
theorem Fy {α:Type} {xs:List α} {i:Int} (h0:0<=i) (h1:i<xs.length):∃v,kT xs i=some v/\v∈xs:=by
 obtain⟨j,rfl⟩:=Int.eq_ofNat_of_zero_le h0
 have hj:j<xs.length:=by omega
 exact⟨xs[j],cE (by simp [hj]),List.getElem_mem hj⟩
theorem zO (g:Array Nat):∀(ps:List Str) (acc:Array Nat),(ps.foldl (fun acc p=>acc++g++p.cps) acc).toList=acc.toList++(ps.map fun p=>g.toList++p.cps.toList).flatten
 | [],acc=>by simp
 | p::ps,acc=>by
  rw[List.foldl_cons,zO g ps];simp
theorem Fz (ps:List Str):(Txt.join (tx []) ps).cps.toList=(ps.map fun p=>p.cps.toList).flatten:=by
 unfold Txt.join Builtin.Str.glued;rw[zO];cases ps with
 | nil=>simp [Str.empty]
 | cons p ps=>simp
theorem Mf (ps:List Str):Txt.join (tx []) ps=tx (ps.map fun p=>p.cps.toList).flatten:=by rw[<- Fz,xK]
theorem xP (ts:List Nat):Txt.join (tx []) (ts.map fun c=>tx [c])=tx ts:=by
 rw[Mf,List.map_map];congr 1
 congr 1
 induction ts with
 | nil=>rfl
 | cons c r ih=>rw[List.map_cons,List.flatten_cons,ih];rfl
theorem Ga:("":Str)=tx []:=by decide +kernel
end L2
namespace L2
open PySem
theorem Dk.ne {H:Hp} {d b p:Addr} (x:Dk H d b) (h:H p=none):p≠d/\p≠b:=by
 obtain⟨ns,s,k,h1,h2,h3⟩:=x.ex
 exact⟨(aE h1 h).symm,(aE h2 h).symm⟩
theorem pA (x:Str):x=tx x.cps.toList:=(xK x).symm
end L2
namespace L2
open PySem
theorem vJ:∀ts:List Nat,((ts.map fun c=>tx [c]).map (·.length)).sum=ts.length
 | []=>rfl
 | c::ts=>by
  rw[List.map_cons,List.map_cons,List.sum_cons,vJ ts,uR];show 1+ts.length=_
  omega
end L2
namespace L2
open PySem
theorem Xd {t:TT} {σ:St} {H:Hp} {Q:Bool->Hp->Prop} (R:Bool->Hp->Prop) (h:∀k:Bool->Hp->Prop,(∀v H',R v H'->k v H')->t σ H k) (h2:∀v H',R v H'->Q v H'):t σ H Q:=h Q h2
theorem Tb {t:TS} {D:nS} {σ:St} {H:Hp} (R:St->Hp->Prop) (h:∀nx:St->Hp->Prop,(∀ σ' H',R σ' H'->nx σ' H')->t {D with nx:=nx } σ H) (h2:∀ σ' H',R σ' H'->D.nx σ' H'):t D σ H:=h D.nx h2
theorem Dk.same {H H':Hp} {d b:Addr} (s:Same H H') (h:Dk H d b):Dk H' d b:=by
 obtain⟨ns,s0,k,h1,h2,h3⟩:=h.ex
 exact⟨ns,s0,k,s _ _ h1,s _ _ h2,h3⟩
end L2
namespace L2
open PySem PySem.Spec PyProof.Rows
structure XE (X:Cx) (e:Expr) (t:TE):Prop where
 h:PE X e t
structure XT (X:Cx) (e:Expr) (t:TT):Prop where
 h:PT X e t
structure XW (X:Cx) (e:Expr) (t:TT):Prop where
 h:PW X e t
structure XA (X:Cx) (es:List Expr) (t:TA):Prop where
 h:PA X es t
structure XS (X:Cx) (st:Stmt) (t:TS):Prop where
 h:PS X st t
structure XB (X:Cx) (st:List Stmt) (t:TS):Prop where
 h:PSs X st t
structure XI (X:Cx) (tg iter:Expr) (t:TI):Prop where
 h:PI X tg iter t
structure XG (X:Cx) (e:Expr) (t:TG):Prop where
 h:PG X e t
structure Xe (X:Cx) (es:List Expr) (t:yS):Prop where
 h:Vj X es t
structure XO (X:Cx) (e:Option Expr) (t:TO):Prop where
 h:PO X e t
structure Yi (X:Cx) (cs:List Expr) (t:TT):Prop where
 h:Uv X cs t
structure Tc (X:Cx) (t:Bh):Prop where
 h:Ke X t
structure jC (X:Cx) (f:Value->Value->Sem Value) (r:R2):Prop where
 h:OpR X f r
structure Td (X:Cx) (r:R2):Prop where
 h:IxR X r
structure Xf (X:Cx) (r:V->Option Int->Option Int->Hp->VK->Prop):Prop where
 h:SlR X r
structure XC (X:Cx) (f:Value) (r:List V->Hp->VK->Prop):Prop where
 h:CallR X f r
structure XM (X:Cx) (id:String) (r:V->List V->Hp->VK->Prop):Prop where
 h:Vw X id r
namespace R
section
variable {X:Cx} {a b c e o i:Expr} {es rest:List Expr} {ta tb tc te to ti:TE} {tA tB':TT} {t u:TA} {pos p p2 apos cpos pos':Pos} {x:Str} {n:Nat} {r r':R2}
theorem v (i:Nat) {x:Str} {pos:Pos} (hN:X.N[i]?=some x:=by rfl) (hv:Vc X.env.scope x:=by first | exact Or.inl rfl | exact Or.inr (Or.inl rfl) | exact Or.inr (Or.inr rfl)) (hd:(x == ("__debug__":Str))=false:=by decide)
  (hcd:(x == ("__classdict__":Str))=false:=by decide):XE X (.Name x pos) (vr i):=⟨xv i hN hv hd hcd⟩
theorem ac {i j pos}:XE X (.Constant (.int i) j pos) (tC (.int i)):=⟨Qk⟩
theorem bl {b j pos}:XE X (.Constant (.bool b) j pos) (tC (.bl b)):=⟨Vd⟩
theorem bh {j pos}:XE X (.Constant .none j pos) (tC .non):=⟨Ql⟩
theorem ag {x j pos}:XE X (.Constant (.str x) j pos) (tC (.str x)):=⟨Qm⟩
theorem gS {z:Str} (hg:Gl X x) (hm:∃t,X.mg x=some (.str z t)) (hd:(x == ("__debug__":Str))=false:=by decide):XE X (.Name x pos) (tC (.str z)):=by
 obtain⟨t,hm⟩:=hm;exact⟨sN hg hm ⟨t,rfl⟩ hd⟩
theorem gI {z:Int} (hg:Gl X x) (hm:∃t,X.mg x=some (.int z t)) (hd:(x == ("__debug__":Str))=false:=by decide):XE X (.Name x pos) (tC (.int z)):=by
 obtain⟨t,hm⟩:=hm;exact⟨sN hg hm ⟨t,rfl⟩ hd⟩
theorem gR {a:Addr} (hg:Gl X x) (hm:X.mg x=some (.ref a)) (hd:(x == ("__debug__":Str))=false:=by decide):XE X (.Name x pos) (tC (.ref a)):=⟨sN hg hm rfl hd⟩
theorem op {op:Operator} (ho:jC X (binaryOp op) r) (ha:XE X a ta) (hb:XE X b tb):XE X (.BinOp a op b pos) (sQ r ta tb):=⟨Vm ho.h ha.h hb.h⟩
theorem au:jC X (binaryOp .Add) (xM fun i j=>.int (i+j)):=⟨Wg⟩
theorem bi:jC X (binaryOp .Sub) (xM fun i j=>.int (i - j)):=⟨Wh⟩
theorem dz:jC X (binaryOp .Mult) (m2 CMul fun i j=>.int (i*j)):=⟨Wi⟩
theorem di:jC X (binaryOp .Mod) (m2 (fun _ j=>0<j) fun i j=>.int (i % j)):=⟨Wj⟩
theorem bg:jC X (binaryOp .Pow) (m2 Rj fun i j=>.int (i ^ j.toNat)):=⟨Wk⟩
theorem gs:jC X (binaryOp .Add) Fp:=⟨Sk⟩
theorem lt:jC X (compareOp .Lt) (xM fun i j=>.bl (decide (i<j))):=⟨Zf⟩
theorem le:jC X (compareOp .LtE) (xM fun i j=>.bl (decide (i<=j))):=⟨Zh⟩
theorem gt:jC X (compareOp .Gt) (xM fun i j=>.bl (decide (j<i))):=⟨Zi⟩
theorem ge:jC X (compareOp .GtE) (xM fun i j=>.bl (decide (j<=i))):=⟨Zj⟩
theorem eq:jC X (compareOp .Eq) Wl:=⟨Zl⟩
theorem ne:jC X (compareOp .NotEq) Wm:=⟨Zm⟩
theorem iz:jC X (compareOp .In) (Sl false):=⟨Wn⟩
theorem inQ:jC X (compareOp .In) (Yz X.K false):=⟨Bw⟩
theorem ft:jC X (compareOp .Is) (fun x y H Q=>match y with | .non=>Q (.bl (decide (x=.non))) H | _=>False):=⟨Wo⟩
theorem fj:jC X (compareOp .IsNot) (fun x y H Q=>match y with | .non=>Q (.bl (!decide (x=.non))) H | _=>False):=⟨Sm⟩
theorem eqNil (hu:X.A.units<cLine):jC X (compareOp .Eq) (mJ X.K false):=⟨Fn hu⟩
theorem neNil (hu:X.A.units<cLine):jC X (compareOp .NotEq) (mJ X.K true):=⟨Fo hu⟩
theorem ay {op:CmpOp} (ho:jC X (compareOp op) r) (ha:XE X a ta) (hb:XE X b tb) (hm:behindInMarks op b=false:=by first | exact sR _ | rfl):XE X (.Compare a [op] [b] pos) (sQ r ta tb):=⟨Wq ho.h ha.h hb.h hm⟩
theorem ao {op:CmpOp} (ho:jC X (compareOp op) r) (ha:XE X a ta) (hb:XE X b tb) (hm:behindInMarks op b=false:=by first | exact sR _ | rfl):XT X (.Compare a [op] [b] pos) (mT (sQ r ta tb)):=⟨Wp ho.h ha.h hb.h hm⟩
theorem ja {op op':CmpOp} (ho:jC X (compareOp op) r) (ho':jC X (compareOp op') r') (ha:XE X a ta) (hb:XE X b tb) (hc:XE X c tc) (hm:lastMarks [op,op'] [b,c]=false:=by with_unfolding_all rfl):XE X (.Compare a [op,op'] [b,c] pos) (mK r r' ta tb tc):=⟨Lx ho.h ho'.h ha.h hb.h hc.h hm⟩
theorem ik {op op':CmpOp} (ho:jC X (compareOp op) r) (ho':jC X (compareOp op') r') (ha:XE X a ta) (hb:XE X b tb) (hc:XE X c tc) (hm:lastMarks [op,op'] [b,c]=false:=by with_unfolding_all rfl):XT X (.Compare a [op,op'] [b,c] pos) (mT (mK r r' ta tb tc)):=⟨Ly ho.h ho'.h ha.h hb.h hc.h hm⟩
theorem ax (ha:XE X a ta):XE X (.UnaryOp .USub a pos) (Yt (fun x H Q=>mI x fun i=>Q (.int (-i)) H) ta):=⟨Wt ha.h⟩
theorem bq {t:TE} (h:XE X e t) (he:∀whole,isTrue e X.env whole=(do let v ← whole;standAt e.pos;holding [v] (truthy v)):=by intro _;rfl):XT X e (mT t):=⟨Wr h.h he⟩
theorem db (ha:XT X a tA):XT X (.UnaryOp .Not a pos) (Ve tA):=⟨Qq ha.h⟩
theorem cj (ha:XT X a tA):XW X (.BoolOp .And [a] pos) tA:=⟨Jz ha.h⟩
theorem dr (ha:XT X a tA):XW X (.BoolOp .Or [a] pos) tA:=⟨Qo ha.h⟩
theorem bv (ha:XT X a tA) (hb:XW X (.BoolOp .And (b::rest) pos) tB'):XW X (.BoolOp .And (a::b::rest) pos) (Jy tA tB'):=⟨Qp ha.h hb.h⟩
theorem da (ha:XT X a tA) (hb:XW X (.BoolOp .Or (b::rest) pos) tB'):XW X (.BoolOp .Or (a::b::rest) pos) (tOr tA tB'):=⟨Vf ha.h hb.h⟩
theorem tw (h:XW X e tA):XT X e tA:=⟨h.h.pt⟩
theorem cf {op} (h:XE X a ta):XE X (.BoolOp op [a] pos) ta:=⟨Qs h.h⟩
theorem bz (ha:XE X a ta) (hb:XE X (.BoolOp .And (b::rest) pos) tb):XE X (.BoolOp .And (a::b::rest) pos) (zK ta tb):=⟨Ws ha.h hb.h⟩
theorem or (ha:XE X a ta) (hb:XE X (.BoolOp .Or (b::rest) pos) tb):XE X (.BoolOp .Or (a::b::rest) pos) (Lz ta tb):=⟨Zp ha.h hb.h⟩
theorem ix (hr:Td X r) (ha:XE X a ta) (hb:XE X b tb) (hs:sZ b:=by exact fun _ _=>rfl):XE X (.Subscript a b pos) (sQ r ta tb):=⟨Zq hr.h ha.h hb.h hs⟩
theorem iL:Td X (Ma X.K):=⟨Sq⟩
theorem iT:Td X (qP X.K):=⟨Wu⟩
theorem iS:Td X So:=⟨Wv⟩
theorem pn:XO X none yZ:=⟨Ku⟩
theorem ps (h:XE X e te):XO X (some e) (zL te):=⟨Sr h.h⟩
theorem sl {r:V->Option Int->Option Int->Hp->VK->Prop} {lo hi:Option Expr} {tl th:TO} (hr:Xf X r) (he:XE X e te) (hl:XO X lo tl) (hu:XO X hi th):XE X (.Subscript e (.Slice lo hi none p2) pos) (tSl r te tl th):=⟨Eo hr.h he.h hl.h hu.h⟩
theorem sS:Xf X Ss:=⟨Ww⟩
theorem sL:Xf X (Mb X.K):=⟨Su⟩
theorem ad:XA X [] sV:=⟨sW⟩
theorem aa (ha:XE X e te) (hr:XA X es t) (h:aQ e=true:=by rfl):XA X (e::es) (jB te t):=⟨tN ha.h hr.h h⟩
theorem je {x1} (h:XA X es t):XE X (.Tuple es x1 pos) (Vs t):=⟨Rs h.h⟩
theorem av (h:XA X es t):XE X (.List es pos) (Vt t):=⟨Rt h.h⟩
theorem aw {id:String} {r:List V->Hp->VK->Prop} (hc:XC X (.builtin id) r) (hg:Gl X x) (hm:X.mg x=none) (hv:bootBuiltins x=some (.builtin id)) (ha:XA X (e::es) t) (hn:x≠"__name__":=by decide) (hdb:(x == ("__debug__":Str))=false:=by decide)
  (h1:aQ e=true:=by rfl) (h2:es.all aQ=true:=by rfl):XE X (.Call (.Name x p) (e::es) [] pos) (Ut r t):=⟨Md hc.h hg hm hv ha.h hn hdb h1 h2⟩
theorem bj {T:String} {r:List V->Hp->VK->Prop} (hc:XC X (.type T) r) (hg:Gl X x) (hm:X.mg x=none) (hv:bootBuiltins x=some (.type T)) (ha:XA X (e::es) t) (hn:x≠"__name__":=by decide) (hdb:(x == ("__debug__":Str))=false:=by decide)
  (h1:aQ e=true:=by rfl) (h2:es.all aQ=true:=by rfl):XE X (.Call (.Name x p) (e::es) [] pos) (Ut r t):=⟨Fs hc.h hg hm hv ha.h hn hdb h1 h2⟩
theorem fm:XC X (.builtin "len") (fun vs H Q=>match vs with | [.str z]=>z.length<=sizeLine/\Q (.int z.length) H | _=>False):=⟨Sv⟩
theorem lenL:XC X (.builtin "len") (fun vs H Q=>match vs with | [.ref p]=>∃ys,(SqL X.K H p ys∨SqT X.K H p ys)/\Q (.int ys.length) H | _=>False):=⟨Sw⟩
theorem ee:XC X (.type "int") (fun vs H Q=>match vs with | [.bl k]=>Q (.int (if k then 1 else 0)) H | _=>False):=⟨Wx⟩
theorem all (hc:X.calm=true):XC X (.builtin "all") (Si X.K):=⟨Fl hc⟩
theorem sum (hc:X.calm=true):XC X (.builtin "sum") (Sj X.K):=⟨Fm hc⟩
theorem fn {n:Nat} {ps:List Str} {sp:Sp} (c:aG X.prog X.w X.K X.mg X.base n x ps sp) (hr:Room n X.A) (hg:Gl X x) (ha:XA X (e::es) t) (hdb:(x == ("__debug__":Str))=false:=by decide)
  (h1:aQ e=true:=by rfl) (h2:es.all aQ=true:=by rfl):XE X (.Call (.Name x p) (e::es) [] pos) (Zt sp t):=⟨Xc c hr hg ha.h hdb h1 h2⟩
theorem bm {T id:String} {name:Str} {r:V->List V->Hp->VK->Prop} (pa:PlainAttrs T) (slot:Slot T name id) (hty:typeOf (.builtin id)=pure (.type "method_descriptor")) (hm:XM X id r) (ho:XE X o to) (ha:XA X (e::es) t)
  (hbase:attributeBase o name X.env (eval o X.env)=eval o X.env:=by rfl) (hline:(apos.endLine == cpos.line)=true:=by rfl) (h1:aQ e=true:=by rfl) (h2:es.all aQ=true:=by rfl) (hn:es.length+1<30:=by decide) :
  XE X (.Call (.Attribute o name apos) (e::es) [] cpos) (Yg X.K T r to t):=⟨Zv pa slot hty hm.h ho.h ha.h hbase hline h1 h2 hn⟩
theorem dl:XM X "list.append" zB:=⟨Bx⟩
theorem jc:XM X "list.pop" Et:=⟨Eu⟩
theorem join:XM X "str.join" (Fj X.K):=⟨Lw⟩
theorem dy {T:Str} (want:Kd) (he:XE X e te) (hg:Gl X "isinstance") (hm:X.mg "isinstance"=none) (hgT:Gl X T) (hmT:X.mg T=none) (hT:bootBuiltins T=some (.type (Mc want)))
  (hn:T≠"__name__":=by decide) (hd:(T == ("__debug__":Str))=false:=by decide) (h1:aQ e=true:=by rfl):XE X (.Call (.Name "isinstance" p) [e,.Name T p2] [] pos) (Sy want te):=⟨Sz want he.h hg hm hgT hmT hT hn hd h1⟩
theorem du:XE X (.Dict [] [] pos) (Ex):=⟨Ey⟩
variable {tg:Expr}
theorem wL (hl:XE X e te):XI X tg e (Ed X.K te):=⟨Ki hl.h⟩
theorem wT (hl:XE X e te):XI X tg e (Rf X.K te):=⟨Rg hl.h⟩
theorem wS (hl:XE X e te):XI X tg e (We te):=⟨Sg hl.h⟩
theorem dj (hg:Gl X "range") (hm:X.mg "range"=none) (ha:XA X [a] t) (h1:aQ a=true:=by rfl):XI X tg (.Call (.Name "range" p) [a] [] pos) (Op t):=⟨Bj hg hm ha.h (bK h1)⟩
theorem gn {i:Nat} (hN:X.N.Nodup) (hi:X.N[i]?=some x:=by rfl) (hx:On X.env.scope x:=by first | exact Or.inl rfl | exact Or.inr rfl) (hf:X.fn x=true∨X.env.scope.names.lookup x=some .local:=by first | exact .inl rfl | exact .inr rfl | assumption):XG X (.Name x pos) (aK i):=⟨Kf hN hi hx hf⟩
theorem df:Xe X [] Qv:=⟨Kg⟩
theorem bb {tg1:TG} {tgs:yS} (h1:XG X e tg1) (h2:Xe X es tgs) (hs:(assignEach (e::es) X.env).map (·.2)=assign e X.env::(assignEach es X.env).map (·.2):=by rfl):Xe X (e::es) (Ea tg1 tgs):=⟨Eb h1.h h2.h hs⟩
theorem gt' {k:Nat} {tgs:yS} (hc:X.calm=true) (h:Xe X es tgs) (hn:(assignEach es X.env).length=n:=by rfl) (hst:(assignEach es X.env).findIdx? (·.1)=none:=by rfl):XG X (.Tuple es k pos) (Kh X.K n tgs):=⟨Qw hc h.h hn hst⟩
theorem ir:Tc X Ow:=⟨Ep⟩
theorem cg {ts:Bh} (ho:XE X o to) (hi:XE X i ti) (hs:Tc X ts) (ha:∀v,assign (.Subscript o i pos) X.env v=(do
   let ov ← holding [v] (eval o X.env)
   let iv ← holding [v,ov] (eval i X.env)
   standAt pos
   holding [v,ov,iv] (setItem ov iv v)
   release [v,ov,iv] []):=by intro _;rfl):XG X (.Subscript o i pos) (Vk to ti ts):=⟨Qx ho.h hi.h hs.h ha⟩
end
section
variable {X:Cx} {c e tg iter elt:Expr} {ifs:List Expr} {te:TE} {tc tt:TT} {g:TG} {wi:TI} {st:Stmt} {ss sa sb:List Stmt} {t u:TS} {pos pos' spos py:Pos} {x y:Str} {scope:Scope} {N:List Str} {js:List (Option Nat)}
theorem dt:Yi X [] Pa:=⟨Lp⟩
theorem bu (h:XT X c tt) (hx:X.xe=fun _ _=>False:=by rfl):Yi X [c] tt:=⟨Lq h.h hx⟩
theorem bc (hc:X.calm=true) (S:CompScope X scope N js) (go:xI js g) (hi:XI X tg iter wi)
  (hb:∀(C:Addr) (s₂:Shared) (H₂:Hp) (fp:List Addr),XG (lV X scope C N s₂ H₂ fp) tg g/\Yi (lV X scope C N s₂ H₂ fp) ifs tt/\XE (lV X scope C N s₂ H₂ fp) elt te)
  (hs:∀x,foldedSetIterable iter X.env x=pure x:=by intro _;rfl):XE X (.ListComp elt [⟨tg,iter,ifs,0⟩] scope pos) (Pb wi js g tt te):=
 ⟨Lr hc S go hi.h (fun C s₂ H₂ fp=>let ⟨a,b,c⟩:=hb C s₂ H₂ fp;⟨a.h,b.h,c.h⟩) hs⟩
theorem jj {i:Nat} (hN:X.N.Nodup) (hy:X.N[i]?=some y) (hx:On X.env.scope y) (hc:X.calm=true) (S:CompScope X scope N js) (go:xI js g) (hi:XI X tg iter wi)
  (hb:∀(C:Addr) (s₂:Shared) (H₂:Hp) (fp:List Addr),XG (lV X scope C N s₂ H₂ fp) tg g/\Yi (lV X scope C N s₂ H₂ fp) ifs tt/\XE (lV X scope C N s₂ H₂ fp) elt te)
  (hsw:swapsWith (.ListComp elt [⟨tg,iter,ifs,0⟩] scope pos) (some (.Name y py)) spos.line X.env=pure true)
  (hs:∀x,foldedSetIterable iter X.env x=pure x:=by intro _;rfl) (hf:X.fn y=true∨X.env.scope.names.lookup y=some .local:=by first | exact .inl rfl | exact .inr rfl | assumption) :
  XS X (.Assign [.Name y py] (.ListComp elt [⟨tg,iter,ifs,0⟩] scope pos) spos) (Pd i wi js g tt te):=
 ⟨Ls hN hy hx hc S go hi.h (fun C s₂ H₂ fp=>let ⟨a,b,c⟩:=hb C s₂ H₂ fp;⟨a.h,b.h,c.h⟩) hsw hs hf⟩
theorem aq:XB X [] Dx:=⟨Ka⟩
theorem ah (h1:XS X st t):XB X [st] t:=⟨Kb h1.h⟩
theorem ae (h1:XS X st t) (h2:XB X ss u):XB X (st::ss) (sO t u):=⟨Dy h1.h h2.h⟩
theorem al (he:XE X e te):XS X (.Return (some e) pos) (Vh te):=⟨Qu he.h⟩
theorem bn (he:XE X e te) (hs:swapsWith e none pos.line X.env=pure false:=by rfl):XS X (.Expr e pos) (Oo te):=⟨Kc he.h hs⟩
theorem ap (hc:XT X c tc) (ha:XB X sa t) (hb:XB X sb u):XS X (.If c sa sb pos) (Dz tc t u):=⟨Vi hc.h ha.h hb.h⟩
theorem ai {i:Nat} (hN:X.N.Nodup) (he:XE X e te) (hi:X.N[i]?=some x:=by rfl) (hx:On X.env.scope x:=by first | exact Or.inl rfl | exact Or.inr rfl) (hs:swapsWith e (some (.Name x pos')) pos.line X.env=pure false:=by rfl)
  (hf:X.fn x=true∨X.env.scope.names.lookup x=some .local:=by first | exact .inl rfl | exact .inr rfl | assumption):XS X (.Assign [.Name x pos'] e pos) (Ec te (aK i)):=⟨Qz hN hi hx he.h hs hf⟩
theorem br (he:XE X e te) (hg:XG X tg g) (hs:swapsWithSole [tg] e pos.line X.env=pure false:=by rfl) (hw:swappedStores [tg] e X.env=pure none:=by rfl) (h1:(assignEach [tg] X.env).map (·.2)=[assign tg X.env]:=by rfl) :
  XS X (.Assign [tg] e pos) (Ec te g):=⟨Qy he.h hg.h hs hw h1⟩
theorem bp (hp:PassesOwn (model X.prog X.w) X.A X.env X.xe) (hc:X.calm=true) (hi:XI X tg iter wi) (hg:XG X tg g) (hb:XB X ss t) (hs:∀x,foldedSetIterable iter X.env x=pure x:=by intro _;rfl):XS X (.For tg iter ss [] pos) (Vl wi g t):=⟨Rh hp hc hi.h hg.h hb.h hs⟩
end
end R
theorem DefAt.go {P:Program} {w:World} {K:W.Frag} {mg:Str->Option Value} {base:Heap} {x:Str} {st:Stmt} {N ps:List Str} {k:Nat} {sp:Sp} (D:DefAt K mg x st ps) (S:aI N ps (aB st)) (len:∀vs H Q E,sp vs H Q E->vs.length=ps.length)
  (hbody:∀(f:Addr) (cdv:Value) (A:Around) (outer:List Env) (s:Shared) (H:Hp) (vs:List V) (Q:VK) (E:XK),Room k (A.deeper (envOfC x (aB st) s.heap.objs.size f cdv))->sp vs H Q E →
   ∃t,XB (kX rK P w K mg base N x (aB st) f cdv A outer s H E).nox (bD st) t/\t {nx:=fun _ H'=>Q .non H',rt:=Q } (start N vs) H):aG P w K mg base (k+1) x ps sp:=
 D.ok S len fun f cdv A outer s H vs Q E hr h=>let ⟨t,h1,h2⟩:=hbody f cdv A outer s H vs Q E hr h;⟨t,h1.h,h2⟩
theorem Fun.go {P:Program} {w:World} {K:W.Frag} {mg:Str->Option Value} {base:Heap} {x qual:Str} {st:Stmt} {f:Addr} {fd:FuncData} {N ps:List Str} {k:Nat} {sp:Sp} (F:Fun K x qual st f fd) (S:aI N ps (aB st)) (len:∀vs H Q E,sp vs H Q E->vs.length=ps.length)
  (hbody:∀(cdv:Value) (A:Around) (outer:List Env) (s:Shared) (H:Hp) (vs:List V) (Q:VK) (E:XK),Room k (A.deeper (envOfC qual (aB st) s.heap.objs.size f cdv))->sp vs H Q E →
   ∃t,XB (kX rK P w K mg base N qual (aB st) f cdv A outer s H E).nox (bD st) t/\t {nx:=fun _ H'=>Q .non H',rt:=Q } (start N vs) H):jG P w K mg base rK (k+1) f fd ps sp:=
 F.ok S len fun cdv A outer s H vs Q E hr h=>let ⟨t,h1,h2⟩:=hbody cdv A outer s H vs Q E hr h;⟨t,h1.h,h2⟩
theorem Te {K:W.Frag} {h:Heap} {mg:Str->Option Value} {x:Str} {st:Stmt} {ps:List Str} {f:Addr} {od an:Option Addr} {sl:Array (Option Value)} {oc kV dc pm cd ct:Value} (X:K.In h) (G:h.Ns mainGlobals mg)
  (a:W.nsIn K mainGlobals x=some (some (.ref f))) (l:K.lookup f=some ⟨oc,od,.func (W.fnOf x x (cA st) (bD st) (aB st) .none kV dc pm an cd ct),sl⟩) (c:W.codeIn K cd x=true) (k:W.keepIn K (.ref f)=true)
  (hb:∀(kV doc pm:Value) (an:Option Addr) (cdv ct:Value) (us:List Value),us.length=ps.length->bindArgs (W.fnOf x x (cA st) (bD st) (aB st) .none kV doc pm an cdv ct) ⟨us,[]⟩=pure (ps.zip us)):DefAt K mg x st ps:=
 ⟨f,_,oU l c k,W.mg_of X G a,(oU (st:=st) l c k).binds hb⟩
namespace R
section
variable {X:Cx} {K:W.Frag} {a b c e o i tg:Expr} {es rest:List Expr} {te to:TE} {t:TA} {pos p p2 apos cpos:Pos} {x:Str} {n:Nat}
theorem ar (hK:X.K=K:=by rfl):Td X (Ma K):=hK ▸ iL
theorem af (hK:X.K=K:=by rfl):Td X (qP K):=hK ▸ iT
theorem fi (hK:X.K=K:=by rfl):Xf X (Mb K):=hK ▸ sL
theorem be (hK:X.K=K:=by rfl):jC X (compareOp .In) (Yz K false):=hK ▸ inQ
theorem jf (hu:X.A.units<cLine) (hK:X.K=K:=by rfl):jC X (compareOp .Eq) (mJ K false):=hK ▸ eqNil hu
theorem iu (hu:X.A.units<cLine) (hK:X.K=K:=by rfl):jC X (compareOp .NotEq) (mJ K true):=hK ▸ neNil hu
theorem az (hK:X.K=K:=by rfl):XC X (.builtin "len") (fun vs H Q=>match vs with | [.ref p]=>∃ys,(SqL K H p ys∨SqT K H p ys)/\Q (.int ys.length) H | _=>False):=hK ▸ lenL
theorem il (hc:X.calm=true) (hK:X.K=K:=by rfl):XC X (.builtin "all") (Si K):=hK ▸ all hc
theorem jb (hc:X.calm=true) (hK:X.K=K:=by rfl):XC X (.builtin "sum") (Sj K):=hK ▸ sum hc
theorem jd (hK:X.K=K:=by rfl):XM X "str.join" (Fj K):=hK ▸ join
theorem bt {T id:String} {name:Str} {r:V->List V->Hp->VK->Prop} (pa:PlainAttrs T) (slot:Slot T name id) (hty:typeOf (.builtin id)=pure (.type "method_descriptor")) (hm:XM X id r) (ho:XE X o to) (ha:XA X (e::es) t) (hK:X.K=K:=by rfl)
  (hbase:attributeBase o name X.env (eval o X.env)=eval o X.env:=by rfl) (hline:(apos.endLine == cpos.line)=true:=by rfl) (h1:aQ e=true:=by rfl) (h2:es.all aQ=true:=by rfl) (hn:es.length+1<30:=by decide) :
  XE X (.Call (.Attribute o name apos) (e::es) [] cpos) (Yg K T r to t):=hK ▸ bm pa slot hty hm ho ha hbase hline h1 h2 hn
theorem bo (hl:XE X e te) (hK:X.K=K:=by rfl):XI X tg e (Ed K te):=hK ▸ wL hl
theorem fh (hl:XE X e te) (hK:X.K=K:=by rfl):XI X tg e (Rf K te):=hK ▸ wT hl
theorem de {k:Nat} {tgs:yS} (hc:X.calm=true) (h:Xe X es tgs) (hK:X.K=K:=by rfl) (hn:(assignEach es X.env).length=n:=by rfl) (hst:(assignEach es X.env).findIdx? (·.1)=none:=by rfl):XG X (.Tuple es k pos) (Kh K n tgs):=hK ▸ gt' hc h hn hst
end
end R
end L2
namespace L2
open PySem PySem.Spec PyProof.Rows
section
variable {X:Cx}
def Zw:List V->Hp->VK->Prop:=fun vs H Q=>match vs with
 | [.int i]=>(0<=i/\i<10 ^ 40)/\Q (.str (Str.ofString (toString i))) H
 | [.str z]=>Q (.str z) H
 | _=>False
def aAk:List V->Hp->VK->Prop:=fun vs H Q=>match vs with
 | [.str z]=>NumText.AllDigits z.cps.toList/\z.cps.toList≠[]/\z.length<=640/\Q (.int (NumText.digitsVal z.cps.toList:Nat)) H
 | _=>False
end
def LET:List Nat:=[97,98,99,100,101,102,103,104,105,106,107,108,109,110,111,112,113,114,115,116,117,118,119,120,121,122]
def FIG:List Nat:=[48,49,50,51,52,53,54,55,56,57]
theorem xQ:(("abcdefghijklmnopqrstuvwxyz":Str)).cps.toList=LET:=by decide +kernel
theorem Tf:(("0123456789":Str)).cps.toList=FIG:=by decide +kernel
def jK (x:V) (cs:List Nat) (n:Int):Bool:=match x with | .str z=>decide (1<=(z.length:Int))&&decide ((z.length:Int)<=n)&&z.cps.toList.all (fun c=>decide (c∈cs)) | _=>false
theorem iD (z:Str) (cs:List Nat) (n:Int):jK (.str z) cs n=(decide (1<=(z.length:Int))&&decide ((z.length:Int)<=n)&&z.cps.toList.all (fun c=>decide (c∈cs))):=rfl
def Gb:Sp:=fun vs H Q _=>∃x sg n k,vs=[x,.str sg,.int n]/\Pf H x k/\(∀z,x=.str z->z.length<=1000)/\∀H',Same H H'->Q (.bl (jK x sg.cps.toList n)) H'
def Gc (cs:List Nat) (n:Int):Sp:=fun vs H Q _=>∃x k,vs=[x]/\Pf H x k/\(∀z,x=.str z->z.length<=1000)/\∀H',Same H H'->Q (.bl (jK x cs n)) H'
end L2
namespace L2
open PySem PySem.Spec PyProof.Rows
def eZ (z:Str):Prop:=1<=z.length/\z.length<=8/\∀c∈z.cps.toList,c∈LET
theorem Mg (z:Str) (ns:List Str):kU (.str z) (ns.map V.str)=decide (z∈ns):=by
 unfold kU;rw[List.any_map,Bool.eq_iff_iff,List.any_eq_true,decide_eq_true_iff];constructor
 ·rintro⟨y,hy,e⟩
  have:y=z:=by simpa [uP]using e
  rw[<- this];exact hy
 ·intro h;exact⟨z,h,by simp [uP]⟩
theorem Ci (ns:List Str):(ns.map V.str).all dP=true:=by
 rw[List.all_map];exact List.all_eq_true.mpr fun _ _=>rfl
namespace R
variable {X:Cx}
theorem iw (hc:X.calm=true):XC X (.builtin "max") (fun vs H Q=>match vs with | [.int i,.int j]=>Q (.int (if j > i then j else i)) H | _=>False):=⟨(Bn hc).imp fun vs H Q h=>by
 split at h
 ·rename_i i j
  exact⟨i,j,rfl,h⟩
 ·exact h.elim⟩
end R
end L2
namespace L2
open PySem PySem.Spec PyProof.Rows
section
variable {prog:Program} {w:World} {A:Around} {E:Value->Shared->Prop} {s:Shared}
theorem Cj {t:Addr} {items:Array Value} {Q:Bool->Shared->Prop} (ht:IsTup s.heap t items) (h:Q true s):wpAny (model prog w) A (Builtin.Tuple.tupleIsExact (.ref t)) Q E s:=by
 unfold Builtin.Tuple.tupleIsExact;refine wpAny_bind (wpAny_typeOf ht.typeIs ?_)
 exact wpAny_pure h
theorem kF {t sl:Addr} {items:Array Value} {vl vu:Value} {lo hi:Option Int} {Q:Value->Shared->Prop} (ht:IsTup s.heap t items) (hs:s.heap.IsSliceOf sl vl vu .none) (pl:IsPart vl lo) (pu:IsPart vu hi)
  (hw:HT.sIx items.size 0 lo=0/\HT.sIx items.size items.size hi=items.size) (h:Q (.ref t) s):wpAny (model prog w) A (getItem (.ref t) (.ref sl)) Q E s:=by
 obtain⟨os,hos,hcs,hds⟩:=id hs
 have hTs:s.TypeIs (.ref sl) "slice":=⟨os,hos,hcs⟩
 unfold getItem;try with_reducible refine wpAny_holding ?_
 first | refine wpAny_bind (wpAny_pure ?_) | skip
 refine wpAny_bind (wpAny_sequenceKey ht.typeIs Zd ?_)
 refine wpAny_bind (wpAny_callSpecial?_slot (name:=Str.ofString "__getitem__") ht.typeIs PyProof.Rows.slot_tuple_getitem
  (wpAny_call_entry PyProof.Rows.slot_tuple_getitem ht.typeIs entry_tuple_getitem ?_ (args_tuple_getitem _ _)))
 show wpAny _ _ (Builtin.Tuple.tupleItemsOf (.ref t) >>= _) _ _ s
 refine wpAny_bind (tupleItemsOf_ ht ?_)
 refine wpAny_bind (wpAny_typeOf hTs ?_)
 rw[if_pos Zd]
 refine wpAny_bind (HT.sliceApplied_gen hs pl pu ?_)
 have hyes:(((HT.sIx items.size 0 lo:Nat):Int) == 0&&(1:Int) == 1&&(HT.sIx items.size items.size hi - HT.sIx items.size 0 lo) == items.size)=true:=by
  rw[hw.1,hw.2];simp
 show wpAny _ _ (if (((HT.sIx items.size 0 lo:Nat):Int) == 0&&(1:Int) == 1&&(HT.sIx items.size items.size hi - HT.sIx items.size 0 lo) == items.size)=true then _ else _) _ _ s
 rw[if_pos hyes];refine wpAny_bind (Cj ht ?_)
 rw[if_pos rfl];exact wpAny_bind (wpAny_rule (wpAny_pure ⟨_,rfl,wpAny_pure h⟩))
theorem Gd {t b:Addr} {ws:List Value} {Q:Value->Shared->Prop} (ht:IsTup s.heap t ([]:List Value).toArray) (hb:IsTup s.heap b ws.toArray) (h1:Q (.ref b) s):wpAny (model prog w) A (binaryOp .Add (.ref t) (.ref b)) Q E s:=by
 obtain⟨⟨cls,dd,data,sl⟩,ho,hc,n,hd⟩:=id ht
 obtain⟨⟨cls2,dd2,data2,sl2⟩,ho2,hc2,n2,hd2⟩:=id hb
 simp only at hc hd hc2 hd2
 subst hc hd hc2 hd2;exact concat_meets ⟨_,ho,rfl⟩ ⟨_,ho2,rfl⟩ noFill_tuple_add seq_tuple_add PySem.F.slot_tuple_add PySem.F.entry_tuple_add (PySem.F.args_tuple_add_2 _ _)
   (tuple_addW0 t b _ ws.toArray n n2 dd dd2 sl sl2 Zs) ⟨ho,ho2,h1⟩
end
section
variable {X:Cx} {e o e1 e2:Expr} {te:TE} {pos p2 p3:Pos}
def Th:V->Option Int->Option Int->Hp->VK->Prop:=fun x lo hi H Q=>mR x fun a=>∃xs,H a=some (.tup xs)/\∀p H',Same H H'->H' p=some (.tup (fI xs lo hi))->Q (.ref p) H'
theorem Xg:SlR X Th:=by
 intro pins s σ H x v vl vu lo hi sl Q I rx hs pl pu h;unfold Th at h;rw[dU]at h;obtain⟨a,rfl,xs,hx,q⟩:=h
 by_cases hw:HT.sIx xs.length 0 lo=0/\HT.sIx xs.length xs.length hi=xs.length
 ·cases rx
  obtain⟨its,r,ht,hz⟩:=I.tuple (SqT.of hx)
  have hlen:its.toArray.size=xs.length:=by rw[dS];exact r.length.symm
  refine⟨"tuple",_,PyProof.Rows.slot_tuple_getitem.lookup,ht.typeIs,?_⟩
  refine kF ht hs pl pu (by rw[hlen];exact hw) ⟨.ref a,H,I,rfl,q a H (Same.refl H) ?_⟩
  rw[hx];unfold fI;rw[hw.1,hw.2,List.drop_zero,Nat.sub_zero,rA (bM _)]
 ·exact Rv pins s σ H (.ref a) v vl vu lo hi sl Q I rx hs pl pu ⟨a,xs,rfl,SqT.of hx,hw,fun p hp=>q p _ (aF hp) aA⟩
def Ge:R2:=fun x y H Q=>mR x fun a=>mR y fun b=>∃xs ys,H a=some (.tup xs)/\H b=some (.tup ys)/\xs.length+ys.length<=1000/\∀p H',Same H H'->H' p=some (.tup (xs++ys))->Q (.ref p) H'
theorem Ti:OpR X (binaryOp .Add) Ge:=by
 intro pins s σ H x y v u Q I rx ry h;unfold Ge at h;rw[dU]at h;obtain⟨a,rfl,h⟩:=h
 rw[dU]at h;obtain⟨b,rfl,xs,ys,ha,hb,hz,q⟩:=h
 by_cases h0:xs=[]
 ·subst h0;cases rx
  cases ry
  obtain⟨its,r1,p1,_⟩:=I.tuple (SqT.of ha)
  obtain⟨its2,r2,p2,_⟩:=I.tuple (SqT.of hb)
  cases r1
  exact Gd p1 p2 ⟨.ref b,H,I,rfl,q b H (Same.refl H) (by rw[hb];rfl)⟩
 ·exact Kw pins s σ H _ _ v u Q I rx ry ⟨a,b,xs,ys,rfl,rfl,SqT.of ha,SqT.of hb,h0,kK hz Zd,(fun h1=>q a H (Same.refl H) (by rw[ha,h1,List.append_nil])),fun _ p hp=>q p _ (aF hp) aA⟩
end
def Tab (P:Params):List DictEntry->List (Str × Int)->Prop
 | [],[]=>True
 | e::r,(x,i)::q=>(∃t,e.key=.str x t)/\e.hash=PyData.keyHash P x/\(∃t,e.val=.int i t)/\Tab P r q
 | _,_=>False
theorem Tab.keys {P:Params}:∀ {es:List DictEntry} {ws:List (Str × Int)},Tab P es ws->W.KeysLit P es
 | [],[],_=>trivial
 | e::r,(x,i)::q,h=>⟨let ⟨t,ht⟩:=h.1;⟨x,t,ht,h.2.1⟩,Tab.keys h.2.2.2⟩
 | [],_::_,h=>h.elim
 | _::_,[],h=>h.elim
theorem Tab.find {P:Params} (z:Str):∀ {es:List DictEntry} {ws:List (Str × Int)},Tab P es ws->(match ws.lookup z with | some i=>∃t,(es.find? fun e=>Value.isStrOf z e.key).map (·.val)=some (.int i t) | none=>(es.find? fun e=>Value.isStrOf z e.key).map (·.val)=none)
 | [],[],_=>rfl
 | [],_::_,h=>h.elim
 | _::_,[],h=>h.elim
 | e::r,(x,i)::q,h=>by
  obtain⟨⟨t,ht⟩,h2,⟨t',hv⟩,h4⟩:=h
  have ih:=Tab.find z h4
  rw[List.lookup_cons,List.find?_cons];have e1:Value.isStrOf z e.key=(z == x):=by
   rw[ht];show(x == z)=(z == x)
   exact Bool.beq_comm
  rw[e1];cases hz:z == x with
  | true=>exact⟨t',by rw[<- hv];rfl⟩
  | false=>exact ih
structure KTab (K:W.Frag) (P:Params) (a:Addr) (ws:List (Str × Int)):Prop where
 ex:∃es n,K.lookup a=some ⟨.type "dict",none,.dict (List.toArray es) n,#[]⟩/\Tab P es ws/\(a == sysModules)=false
theorem KTab.map {K:W.Frag} {prog:Program} {w:World} {a:Addr} {ws:List (Str × Int)} {h:Heap} (T:KTab K w.params a ws) (X:K.In h) :
  ∃f:Str->Option Value,h.MapOf (strKind prog w) a f/\(a == sysModules)=false/\∀z,(match ws.lookup z with | some i=>∃t,f z=some (.int i t) | none=>f z=none):=by
 obtain⟨es,n,hl,ht,lo⟩:=T.ex
 refine⟨_,W.mapOf_K (prog:=prog) X hl ht.keys,lo,fun z=>?_⟩
 have:=ht.find z
 unfold findBy;rw[List.find?_toArray];exact this
section
variable {X:Cx}
def Tj (K:W.Frag) (P:Params):R2:=fun x y H Q=>mR x fun a=>mS y fun z=>∃ws i,KTab K P a ws/\ws.lookup z=some i/\Q (.int i) H
theorem i_K:IxR X (Tj X.K X.w.params):=by
 intro value slice pins s σ H x y v u Q I rx ry h hs;unfold Tj at h;rw[dU]at h;obtain⟨a,rfl,h⟩:=h
 rw[oZ]at h;obtain⟨z,rfl,ws,i,T,hi,h⟩:=h
 obtain⟨t,rfl⟩:=ry
 cases rx
 obtain⟨f,hm,lo,hf⟩:=T.map (prog:=X.prog) I.kIn
 have hz:=hf z
 rw[hi]at hz;obtain⟨t',hz⟩:=hz
 exact tail_any hm.typeIs slot_dict_getitem.lookup (wpAny_getItem_of (strKind_is X.prog X.w z t) hm hz ⟨.int i,H,I.tok _,⟨t',rfl⟩,h⟩) hs
end
structure Yj (X:Cx) (pos:Pos) (keys:List (Option Expr)) (values:List Expr) (trs:List (TE × TE)):Prop where
 h:Wd X pos keys values trs
namespace R
section
variable {X:Cx} {K:W.Frag} {P:Params} {e e1 k v o f:Expr} {te t1 tk tv td ty tx':TE} {pos p2 apos cpos:Pos} {ks:List (Option Expr)} {vs:List Expr} {trs:List (TE × TE)}
theorem sT:Xf X Th:=⟨Xg⟩
theorem dw:jC X (binaryOp .Add) Ge:=⟨Ti⟩
theorem iy (hK:X.K=K:=by rfl) (hP:X.w.params=P:=by rfl):Td X (Tj K P):=hK ▸ hP ▸ ⟨i_K⟩
theorem im (hK:X.K=K:=by rfl):XC X (.type "list") (fun vs H Q=>match vs with | [.ref p]=>∃ys,(SqL K H p ys∨SqT K H p ys)/\∀l,H l=none->Q (.ref l) (aJ H l (.lst ys)) | _=>False):=hK ▸ ⟨tH.imp fun vs H Q h=>by
 split at h
 ·rename_i p
  obtain⟨ys,hq,h⟩:=h
  exact⟨p,ys,rfl,hq,h⟩
 ·exact h.elim⟩
theorem ji (hK:X.K=K:=by rfl):XC X (.type "tuple") (fun vs H Q=>match vs with | [.ref p]=>∃ys,SqL K H p ys/\∀l,H l=none->Q (.ref l) (aJ H l (.tup ys)) | _=>False):=hK ▸ ⟨qN.imp fun vs H Q h=>by
 split at h
 ·rename_i p
  obtain⟨ys,hq,h⟩:=h
  exact⟨p,ys,rfl,.inl ⟨hq,h⟩⟩
 ·exact h.elim⟩
theorem fq:Yj X pos [] [] []:=⟨Lm⟩
theorem cv (hk:XE X k tk) (hv:XE X v tv) (hr:Yj X pos ks vs trs):Yj X pos (some k::ks) (v::vs) ((tk,tv)::trs):=⟨Ez hk.h hv.h hr.h⟩
theorem fo (h:Yj X pos ks vs trs) (hall:ks.all (·.isSome)=true:=by rfl) (hl:ks.length=vs.length:=by rfl) (h0:ks≠[]:=by simp) (h15:ks.length<=15:=by decide):XE X (.Dict ks vs pos) (Oz trs):=⟨Ln h.h hall hl h0 h15⟩
theorem dm (hu:X.A.units+1<cLine) (ho:XE X o td) (he:XE X e ty) (hf:XE X f tx') (h1:attributeBase o "get" X.env (eval o X.env)=eval o X.env:=by rfl) (h3:(apos.endLine == cpos.line)=true:=by rfl)
  (h2:((backTo cpos (starEach [e,f] X.env)).all (fun x=>!x.1)&&(backToKw cpos (keywordEach [] X.env)).all (fun x=>x.1.isSome)
  && decide (([e,f]:List Expr).length+([]:List Keyword).length+(if ([]:List Keyword).isEmpty then 0 else 1)<30))=true:=by rfl)
  (h4:backTo cpos (starEach [e,f] X.env)=[(false,eval e X.env),(false,eval f X.env)]:=by rfl):XE X (.Call (.Attribute o "get" apos) [e,f] [] cpos) (Fa td ty tx'):=⟨Fd hu ho.h he.h hf.h ⟨h1,h2,h3,h4⟩⟩
end
end R
end L2
namespace L2
open PySem PySem.Spec PyProof.Rows
def Uw (x:V):Bool:=jK x LET 8
def xR (lo hi:Int) (x:V):Bool:=match x with | .int n=>decide (lo<=n)&&decide (n<=hi) | _=>false
def Pt (H:Hp) (x:V):Prop:=∃k,Pf H x k/\∀z,x=.str z->z.length<=1000
def zP:Sp:=fun vs H Q _=>∃x lo hi,vs=[x,.int lo,.int hi]/\Pt H x/\∀H',Same H H'->Q (.bl (xR lo hi x)) H'
end L2
namespace L2
open PySem PySem.Spec PyProof.Rows
def Xh:R2:=fun x y H Q=>mR x fun l=>mR y fun b=>∃xs zs,H l=some (.lst xs)/\H b=some (.lst zs)/\xs.length+zs.length<=sizeLine/\∀p,H p=none->Q (.ref p) (aJ H p (.lst (xs++zs)))
theorem R.bw {X:Cx}:jC X (binaryOp .Add) Xh:=⟨Sb.imp fun x y H Q h=>by
 unfold Xh at h;rw[dU]at h;obtain⟨a,rfl,h⟩:=h
 rw[dU]at h;obtain⟨b,rfl,xs,zs,h⟩:=h
 exact⟨a,b,xs,zs,rfl,rfl,h⟩⟩
end L2
namespace L2
open PySem PySem.Spec PyProof.Rows
theorem Tk {z:Str} (h:eZ z):Uw (.str z)=true:=by
 unfold Uw;rw[iD,decide_eq_true (by have:=h.1;omega),decide_eq_true (by have:=h.2.1;omega),List.all_eq_true.mpr fun c hc=>decide_eq_true (h.2.2 c hc)]
 rfl
theorem Dk.tup_ne {H:Hp} {d b p:Addr} {xs:List V} (D:Dk H d b) (h:H p=some (.tup xs)):p≠d/\p≠b:=by
 obtain⟨ns,s,k,h1,h2,h3⟩:=D.ex
 exact⟨fun e=>(by rw[e,h1]at h;cases h),fun e=>(by rw[e,h2]at h;cases h)⟩
end L2
namespace L2
open PySem PySem.Spec PyProof.Rows
inductive TV where
 | sc (v:V)
 | tp (xs:List TV)
 | ls (xs:List TV)
def kN:V->Bool | .non=>true | .bl _=>true | .int _=>true | .str _=>true | _=>false
def Gf (H:Hp):Nat->TV->V->Prop
 | 0,.sc v,x=>x=v/\kN v=true
 | _+1,.sc v,x=>x=v/\kN v=true
 | n+1,.tp ts,x=>∃a xs,x=.ref a/\H a=some (.tup xs)/\Paired (Gf H n) ts xs
 | n+1,.ls ts,x=>∃a xs,x=.ref a/\H a=some (.lst xs)/\Paired (Gf H n) ts xs
 | 0,_,_=>False
theorem Paired.map' {α β:Type} {R S:α->β->Prop} (f:∀a b,R a b->S a b) {xs:List α} {ys:List β} (h:Paired R xs ys):Paired S xs ys:=by
 induction h with
 | nil=>exact .nil
 | cons h t ih=>exact .cons (f _ _ h) ih
theorem Paired.get' {α β:Type} {R:α->β->Prop}:∀ {xs:List α} {ys:List β} {j:Nat},Paired R xs ys->∀(h:j<ys.length),∃h':j<xs.length,R xs[j] ys[j]
 | _,_,0,.cons h t,_=>⟨Nat.succ_pos _,h⟩
 | _,_,j+1,.cons h t,hj=>let ⟨h',r⟩:=Paired.get' (j:=j) t (by simpa using hj);⟨by simpa using h',by simpa using r⟩
section
variable {X:Cx} {pins:List (Addr × Obj)} {s:Shared} {σ:St} {H:Hp}
theorem Mh (B:Around):B.in1.units=B.units+1:=rfl
theorem jL (n:Nat):(List.range n).all (fun _=>true)=true:=List.all_eq_true.mpr fun _ _=>rfl
theorem Gg (I:Inv X pins σ H s):∀(n:Nat) {t:TV} {x y:V} {v u:Value} {A:Around},Gf H n t x->Gf H n t y->RelV x v->RelV y u->A.units+n<cLine->SeqAt.EqAt A s v u true:=by
 have sc:∀ {v:V} {x y:V} {v1 u1:Value} {A:Around},(x=v/\kN v=true)->(y=v/\kN v=true)->RelV x v1->RelV y u1->SeqAt.EqAt A s v1 u1 true:=by
  rintro v x y v1 u1 A ⟨rfl,hx⟩ ⟨rfl,_⟩ r1 r2
  cases y with
  | non=>cases r1;cases r2;exact SeqAt.EqAt.same _
  | bl i=>cases r1;cases r2;exact SeqAt.EqAt.same _
  | int i=>
   obtain⟨t1,rfl⟩:=r1
   obtain⟨t2,rfl⟩:=r2
   have:=SeqAt.EqAt.int_int (A:=A) (s:=s) i t1 i t2
   rwa [beq_self_eq_true]at this
  | str i=>
   obtain⟨t1,rfl⟩:=r1
   obtain⟨t2,rfl⟩:=r2
   have:=SeqAt.EqAt.str_str (A:=A) (s:=s) i t1 i t2
   rwa [beq_self_eq_true]at this
  | _=>cases hx
 intro n;induction n with
 | zero=>
  intro t x y v u A h1 h2 r1 r2 hu;cases t with
  | sc z=>exact sc h1 h2 r1 r2
  | _=>exact h1.elim
 | succ n ih=>
  intro t x y v u A h1 h2 r1 r2 hu;cases t with
  | sc z=>exact sc h1 h2 r1 r2
  | tp ts=>
   obtain⟨a,xs,rfl,g1,p1⟩:=h1
   obtain⟨b,ys,rfl,g2,p2⟩:=h2
   cases r1
   cases r2
   by_cases hab:a=b
   ·subst hab;exact SeqAt.EqAt.same _
   ·obtain⟨its,ri,ti,_⟩:=I.tuple (SqT.of g1)
    obtain⟨its2,ri2,ti2,_⟩:=I.tuple (SqT.of g2)
    have el1:its.length=ts.length:=by rw[<- ri.length,p1.length]
    have el2:its2.length=ts.length:=by rw[<- ri2.length,p2.length]
    have key:=SeqAt.RcAt.tuples (A:=A) (s:=s) (e:=fun _=>true) ti ti2 Zo (fun j h1 h2=>by
     rw[dS]at h1 h2;obtain⟨h1',q1⟩:=Paired.get' (j:=j) ri h1
     obtain⟨h2',q2⟩:=Paired.get' (j:=j) ri2 h2
     obtain⟨h3,q3⟩:=Paired.get' (j:=j) p1 h1'
     obtain⟨h4,q4⟩:=Paired.get' (j:=j) p2 h2'
     simpa using ih q3 q4 q1 q2 (by rw[Mh];omega))
    have e:((List.range (min its.toArray.size its2.toArray.size)).all (fun _=>true)&&its.toArray.size == its2.toArray.size)=true:=by
     rw[jL,dS,dS,el1,el2,beq_self_eq_true];rfl
    rw[e]at key;exact SeqAt.EqAt.of_refs hab key
  | ls ts=>
   obtain⟨a,xs,rfl,g1,p1⟩:=h1
   obtain⟨b,ys,rfl,g2,p2⟩:=h2
   cases r1
   cases r2
   by_cases hab:a=b
   ·subst hab;exact SeqAt.EqAt.same _
   ·obtain⟨its,ri,ti,_⟩:=I.list (SqL.of g1)
    obtain⟨its2,ri2,ti2,_⟩:=I.list (SqL.of g2)
    have el1:its.length=ts.length:=by rw[<- ri.length,p1.length]
    have el2:its2.length=ts.length:=by rw[<- ri2.length,p2.length]
    have key:=SeqAt.RcAt.lists (A:=A) (s:=s) (e:=fun _=>true) ti.isList ti2.isList (by rw[dS,dS,el1,el2]) Zo (fun j h1 h2=>by
     rw[dS]at h1 h2;obtain⟨h1',q1⟩:=Paired.get' (j:=j) ri h1
     obtain⟨h2',q2⟩:=Paired.get' (j:=j) ri2 h2
     obtain⟨h3,q3⟩:=Paired.get' (j:=j) p1 h1'
     obtain⟨h4,q4⟩:=Paired.get' (j:=j) p2 h2'
     simpa using ih q3 q4 q1 q2 (by rw[Mh];omega))
    rw[jL]at key;exact SeqAt.EqAt.of_refs hab key
end
section
variable {X:Cx}
def Xi (neg:Bool):R2:=fun x y H Q=>∃n t,n<=50/\Gf H n t x/\Gf H n t y/\Q (.bl (!neg)) H
theorem Mi (neg:Bool) {pins:List (Addr × Obj)} {s:Shared} {σ:St} {H:Hp} {x y:V} {v u:Value} {Q:VK} {op:CmpOp} (hop:op=if neg then .NotEq else .Eq) (hu:X.A.units+64<cLine) (I:Inv X pins σ H s) (rx:RelV x v) (ry:RelV y u) (h:Xi neg x y H Q) :
  wpAny (model X.prog X.w) X.A (compareOp op v u) (EP X pins σ Q) X.xe s:=by
 obtain⟨n,t,hn,h1,h2,q⟩:=h
 have sc:∀z,t=.sc z->wpAny (model X.prog X.w) X.A (compareOp op v u) (EP X pins σ Q) X.xe s:=by
  rintro z rfl
  have e1:x=z/\kN z=true:=by cases n <;> exact h1
  have e2:y=z/\kN z=true:=by cases n <;> exact h2
  obtain⟨rfl,hx⟩:=e1
  obtain⟨rfl,_⟩:=e2
  have hs:L2.scal y y=true:=by cases y <;> first | rfl | cases hx
  cases neg with
  | true=>
   subst hop;exact Os pins s σ H y y v u Q I rx ry ⟨hs,by simpa using q⟩
  | false=>
   subst hop;exact Oq pins s σ H y y v u Q I rx ry ⟨hs,by simpa using q⟩
 cases n with
 | zero=>
  cases t with
  | sc z=>exact sc z rfl
  | _=>exact h1.elim
 | succ n=>
  cases t with
  | sc z=>exact sc z rfl
  | tp ts=>
   obtain⟨a,xs,rfl,g1,p1⟩:=h1
   obtain⟨b,ys,rfl,g2,p2⟩:=h2
   cases rx
   cases ry
   obtain⟨its,ri,ti,_⟩:=I.tuple (SqT.of g1)
   obtain⟨its2,ri2,ti2,_⟩:=I.tuple (SqT.of g2)
   have el1:its.length=ts.length:=by rw[<- ri.length,p1.length]
   have el2:its2.length=ts.length:=by rw[<- ri2.length,p2.length]
   have each:∀j (h1:j<its.toArray.size) (h2:j<its2.toArray.size),SeqAt.EqAt X.A.in1 s its.toArray[j] its2.toArray[j] true:=fun j h1 h2=>by
    rw[dS]at h1 h2;obtain⟨h1',q1⟩:=Paired.get' (j:=j) ri h1
    obtain⟨h2',q2⟩:=Paired.get' (j:=j) ri2 h2
    obtain⟨h3,q3⟩:=Paired.get' (j:=j) p1 h1'
    obtain⟨h4,q4⟩:=Paired.get' (j:=j) p2 h2'
    simpa using Gg I n q3 q4 q1 q2 (by rw[Mh];omega)
   have e:((List.range (min its.toArray.size its2.toArray.size)).all (fun _=>true)&&its.toArray.size == its2.toArray.size)=true:=by
    rw[jL,dS,dS,el1,el2,beq_self_eq_true];rfl
   cases neg with
   | true=>
    subst hop;have key:=SeqAt.RcNeAt.tuples (A:=X.A) (s:=s) (e:=fun _=>true) ti ti2 Zo each
    rw[e]at key;exact key _ _ _ _ ⟨.bl false,H,I,rfl,q⟩
   | false=>
    subst hop;have key:=SeqAt.RcAt.tuples (A:=X.A) (s:=s) (e:=fun _=>true) ti ti2 Zo each
    rw[e]at key;exact key _ _ _ _ ⟨.bl true,H,I,rfl,q⟩
  | ls ts=>
   obtain⟨a,xs,rfl,g1,p1⟩:=h1
   obtain⟨b,ys,rfl,g2,p2⟩:=h2
   cases rx
   cases ry
   obtain⟨its,ri,ti,_⟩:=I.list (SqL.of g1)
   obtain⟨its2,ri2,ti2,_⟩:=I.list (SqL.of g2)
   have el1:its.length=ts.length:=by rw[<- ri.length,p1.length]
   have el2:its2.length=ts.length:=by rw[<- ri2.length,p2.length]
   have each:∀j (h1:j<its.toArray.size) (h2:j<its2.toArray.size),SeqAt.EqAt X.A.in1 s its.toArray[j] its2.toArray[j] true:=fun j h1 h2=>by
    rw[dS]at h1 h2;obtain⟨h1',q1⟩:=Paired.get' (j:=j) ri h1
    obtain⟨h2',q2⟩:=Paired.get' (j:=j) ri2 h2
    obtain⟨h3,q3⟩:=Paired.get' (j:=j) p1 h1'
    obtain⟨h4,q4⟩:=Paired.get' (j:=j) p2 h2'
    simpa using Gg I n q3 q4 q1 q2 (by rw[Mh];omega)
   cases neg with
   | true=>
    subst hop;have key:=SeqAt.RcNeAt.lists (A:=X.A) (s:=s) (e:=fun _=>true) ti.isList ti2.isList (by rw[dS,dS,el1,el2]) Zo each
    rw[jL]at key;exact key _ _ _ _ ⟨.bl false,H,I,rfl,q⟩
   | false=>
    subst hop;have key:=SeqAt.RcAt.lists (A:=X.A) (s:=s) (e:=fun _=>true) ti.isList ti2.isList (by rw[dS,dS,el1,el2]) Zo each
    rw[jL]at key;exact key _ _ _ _ ⟨.bl true,H,I,rfl,q⟩
theorem R.gu (hu:X.A.units+64<cLine):jC X (compareOp .NotEq) (Xi true):=⟨fun pins s σ H x y v u Q I rx ry h=>Mi true rfl hu I rx ry h⟩
theorem R.fu {st:Stmt}:XS X st (fun _ _ _=>False):=⟨fun pins s σ H D I h=>h.elim⟩
end
end L2
namespace L2
open PySem PySem.Spec PyProof.Rows
theorem Tl (a b:Str):ltCps b.cps.toList a.cps.toList=false↔a.cps.toList<=b.cps.toList:=by
 rw[ltCps_eq,decide_eq_false_iff_not];exact Iff.rfl
theorem Gh {a b:Str} (h:a.cps.toList=b.cps.toList):a=b:=by rw[pA a,pA b,h]
theorem gZ:∀(l:List Str) (p:Str),risingS p l=true->(p::l).Pairwise (fun a b=>a.cps.toList<=b.cps.toList)
 | [],p,_=>List.pairwise_singleton _ _
 | x::r,p,h=>by
  unfold risingS at h;rw[Bool.and_eq_true]at h;obtain⟨h1,h2⟩:=h
  have ih:=gZ r x h2
  have hpx:p.cps.toList<=x.cps.toList:=(Tl p x).mp (by simpa using h1)
  refine List.pairwise_cons.mpr ⟨fun y hy=>?_,ih⟩
  rcases List.mem_cons.mp hy with rfl | hy
  ·exact hpx
  ·exact List.le_trans hpx ((List.pairwise_cons.mp ih).1 y hy)
theorem mM:∀(l:List Str),sortedS l=true->l.Pairwise (fun a b=>a.cps.toList<=b.cps.toList)
 | [],_=>List.Pairwise.nil
 | x::r,h=>gZ r x h
theorem nM:∀(l m:List Str),l.Perm m->l.Pairwise (fun a b=>a.cps.toList<=b.cps.toList)->m.Pairwise (fun a b=>a.cps.toList<=b.cps.toList)->l=m
 | [],m,hp,_,_=>(List.nil_perm.mp hp).symm
 | a::l,[],hp,_,_=>(List.perm_nil.mp hp)
 | a::l,b::m,hp,h1,h2=>by
  obtain⟨p1,p2⟩:=List.pairwise_cons.mp h1
  obtain⟨q1,q2⟩:=List.pairwise_cons.mp h2
  have e:a=b:=by
   have ma:a∈b::m:=hp.mem_iff.mp kG
   have mb:b∈a::l:=hp.mem_iff.mpr kG
   rcases List.mem_cons.mp ma with h | h
   ·exact h
   ·rcases List.mem_cons.mp mb with h' | h'
    ·exact h'.symm
    ·exact Gh (List.le_antisymm (p1 b h') (q1 a h))
  subst e;rw[nM l m (List.Perm.cons_inv hp) p2 q2]
def uQ (ss:List Str):List Str:=ss.mergeSort (fun a b=>decide (a.cps.toList<=b.cps.toList))
theorem lB (ss:List Str):(uQ ss).Perm ss:=List.mergeSort_perm _ _
theorem pB (ss:List Str):(uQ ss).Pairwise (fun a b=>a.cps.toList<=b.cps.toList):=by
 have:=List.pairwise_mergeSort (le:=fun(a b:Str)=>decide (a.cps.toList<=b.cps.toList)) (fun a b c h1 h2=>decide_eq_true (List.le_trans (of_decide_eq_true h1) (of_decide_eq_true h2))) (fun a b=>by
  rcases List.le_total a.cps.toList b.cps.toList with h | h
  ·simp [h]
  ·simp [h]) ss
 exact this.imp fun h=>of_decide_eq_true h
theorem Tm {ss ss':List Str} (hp:ss'.Perm ss) (hs:sortedS ss'=true):ss'=uQ ss:=
 nM _ _ (hp.trans (lB ss).symm) (mM _ hs) (pB ss)
theorem tT (ss:List Str):(uQ ss).length=ss.length:=(lB ss).length_eq
section
variable {prog:Program} {w:World} {A:Around} {E:Value->Shared->Prop} {s:Shared}
theorem pC {l:Addr} {T:String} {o:Obj} {vs:List Value} {ss:List Str} {n:Nat} {Q:Value->Shared->Prop} (hT:T="list"∨T="tuple") (ho:s.heap.get? l=some o) (hc:o.cls=.type T) (hd:o.data=.seq vs.toArray n) (hS:StrsAre vs ss) (h64:vs.length<64)
  (h:∀(h1 h':Heap) (out:Array Value) (e:Nat),(∀b ob,s.heap.get? b=some ob->h1.get? b=some ob)->(∀b ob,h1.get? b=some ob->h'.get? b=some ob)->h'.get? h1.objs.size=some (seqObj "list" out e)->StrsAre out.toList (uQ ss)->Q (.ref h1.objs.size) {s with heap:=h' }) :
  wpAny (model prog w) A (call (.builtin "sorted") [.ref l]) Q E s:=by
 apply Calls.call_function_entry kind_sorted plain_sorted entry_sorted (args_sorted1 _)
 unfold Builtin.«sorted»
 apply wpAny_bind (m:=checkCount "sorted" 1 1 _)
 apply wpAny_pure
 apply wpAny_bind
 refine wpAny_collect_seq l hT ho hc hd (fun h1 k1=>?_) (by rw[dS];exact kK (Nat.le_of_lt h64) Zd)
 have e1:vs.toArray.toList=vs:=by simp
 rw[e1];apply wpAny_bind
 apply wpAny_newList
 ·have g2:(h1.push (seqObj "list" vs.toArray 0)).get? h1.objs.size=some (seqObj "list" vs.toArray 0):=Heap.get?_push_size _ rfl
  apply wpAny_bind
  apply wpAny_holding
  refine wpAny_call_entry slot_list_sort ⟨_,g2,rfl⟩ entry_list_sort (list_sort_treeK strKind_oneLt g2 hS.keysOf (fun v₁ v₂ rest e=>keyKind_strs (by rw[<- e];exact hS)) h64 fun st' hp hs=>⟨_,rfl,wpAny_pure ⟨_,rfl,?_⟩⟩) (args_list_sort _)
  obtain⟨ss',q1,q2,q3⟩:=sorted_out_str hS hp hs
  obtain⟨e,he⟩:=sortedHeap_at (out:=(arrOf st').map (·.2)) g2
  refine h h1 _ _ e k1 (fun b ob hb1=>?_) he (Tm q2 q3 ▸ q1)
  have hlt:=Heap.lt_size hb1
  rw[sortedHeap_old (Nat.ne_of_lt hlt) (by rw[size_push'];exact Nat.lt_succ_of_lt hlt)]
  exact fP _ hb1
 ·exact kK (Nat.le_of_lt h64) Zd
end
theorem rN:∀ {vs:List Value} {ss:List Str},StrsAre vs ss->Vals (ss.map V.str) vs
 | _,_,.nil=>.nil
 | _,_,.cons x t h=>.cons ⟨t,rfl⟩ (rN h)
section
variable {X:Cx}
def tV (K:W.Frag):List V->Hp->VK->Prop:=fun vs H Q=>match vs with
 | [.ref a]=>∃ss:List Str,(SqL K H a (ss.map V.str)∨SqT K H a (ss.map V.str))/\ss.length<64/\∀l,H l=none->Q (.ref l) (aJ H l (.lst ((uQ ss).map V.str)))
 | _=>False
theorem Gi:CallR X (.builtin "sorted") (tV X.K):=by
 intro pins s σ H xs us Q I r h;unfold tV at h;split at h
 ·rename_i a
  obtain⟨ss,hq,h64,q⟩:=h
  obtain⟨u,rfl,ru⟩:=jA r
  cases ru
  have fin:∀(h1 h':Heap) (out:Array Value) (e:Nat),(∀c ob,s.heap.get? c=some ob->h1.get? c=some ob)->(∀c ob,h1.get? c=some ob->h'.get? c=some ob)->h'.get? h1.objs.size=some (seqObj "list" out e)->StrsAre out.toList (uQ ss)->EP X pins σ Q (.ref h1.objs.size) {s with heap:=h' }:=fun h1 h' out e k1 k he hS=>by
   have I1:=I.kept (t':=s.toks) k1
   refine⟨.ref h1.objs.size,_,I1.laid (t':=s.toks) (o:=.lst ((uQ ss).map V.str)) k (bM _) ?_,rfl,q _ (I1.hok.fresh (bM _))⟩
   refine⟨?_,out.toList,e,rN hS,he⟩
   rw[bG,tT];exact kK (Nat.le_of_lt h64) Zd
  rcases hq with hq | hq
  ·obtain⟨its,r1,p1,_⟩:=I.list hq
   obtain⟨o,ho,hc,n,hd⟩:=p1.isList
   have hl:=r1.length
   rw[bG]at hl;exact pC (.inl rfl) ho hc hd (kM r1) Zo fin
  ·obtain⟨its,r1,p1,_⟩:=I.tuple hq
   obtain⟨o,ho,hc,n,hd⟩:=p1
   have hl:=r1.length
   rw[bG]at hl;exact pC (.inr rfl) ho hc hd (kM r1) Zo fin
 ·exact h.elim
theorem R.gv {K:W.Frag} (hK:X.K=K:=by rfl):XC X (.builtin "sorted") (tV K):=hK ▸ ⟨Gi⟩
end
end L2
namespace L2
open PySem PySem.Spec PyProof.Rows
def TK (H H':Hp):Prop:=∀a xs,H a=some (.tup xs)->H' a=some (.tup xs)
theorem TK.refl {H:Hp}:TK H H:=fun _ _ h=>h
theorem TK.trans {H H1 H2:Hp} (a:TK H H1) (b:TK H1 H2):TK H H2:=fun p xs h=>b p xs (a p xs h)
theorem Same.tk {H H':Hp} (s:Same H H'):TK H H':=fun a xs h=>s _ _ h
theorem Kp.tk {H H':Hp} {d b:Addr} (D:Dk H d b) (k:Kp d b H H'):TK H H':=fun a xs h=>k _ _ h (D.tup_ne h).1 (D.tup_ne h).2
theorem gP {H:Hp} {l:Addr} {xs ys:List V} (g:H l=some (.lst xs)):TK H (aJ H l (.lst ys)):=fun a zs h=>by
 have:a≠l:=fun e=>by rw[e,g]at h;cases h
 rw[aD this];exact h
def RepT (H:Hp):Nat->TV->V->Prop
 | 0,.sc v,x=>x=v/\kN v=true
 | _+1,.sc v,x=>x=v/\kN v=true
 | n+1,.tp ts,x=>∃a xs,x=.ref a/\H a=some (.tup xs)/\Paired (RepT H n) ts xs
 | _,_,_=>False
theorem RepT.scal {H:Hp} {n:Nat} {v:V} (h:kN v=true):RepT H n (.sc v) v:=by
 cases n <;> exact⟨rfl,h⟩
theorem RepT.s {H:Hp} {n:Nat} {z:Str}:RepT H n (.sc (.str z)) (.str z):=.scal rfl
theorem RepT.i {H:Hp} {n:Nat} {z:Int}:RepT H n (.sc (.int z)) (.int z):=.scal rfl
section
variable {X:Cx} {es:List Expr} {t:TA} {pos:Pos}
def zQ (t:TA):TE:=fun σ H Q=>t σ H fun xs H1=>xs.length<=1000/\∀p H',Same H1 H'->H' p=some (.tup xs)->Q (.ref p) H'
theorem Mj {x1} (h:PA X es t):PE X (.Tuple es x1 pos) (zQ t):=by
 intro pins s σ H Q I hq;refine wpAny_Tuple_spliced (bV (h pos pins s σ H _ I hq) fun us s1 ⟨xs,H1,I1,r,z,q⟩=>⟨by rw[<- r.length];exact gY z,?_⟩)
 have hf:H1 s1.heap.objs.size=none:=I1.hok.fresh (bM _)
 refine⟨.ref s1.heap.objs.size,aJ H1 s1.heap.objs.size (.tup xs),I1.laid (t':=s1.toks) (fun b u e=>fP _ e) (bM _) ?_,rfl,q _ _ (aF hf) aA⟩
 exact⟨gY z,us,r,⟨_,Heap.get?_push_size _ rfl,rfl,_,rfl⟩⟩
theorem R.ak {x1} (h:XA X es t):XE X (.Tuple es x1 pos) (zQ t):=⟨Mj h.h⟩
end
end L2
namespace L2
open PySem PySem.Spec PyProof.Rows
abbrev Z:=Addr × Str × Int
def Ck (H:Hp) (zs:List Z):Prop:=∀z∈zs,H z.1=some (.tup [.str z.2.1,.int z.2.2])
def fA (zs:List Z):List V:=zs.map fun z=>V.ref z.1
section
variable {X:Cx} {pins:List (Addr × Obj)} {σ:St} {H:Hp} {s:Shared}
theorem mN:∀ {xs:List V} {vs:List Value} (i:Nat),Vals xs vs->i<xs.length->∀x,xs[i]?=some x->RelV x (vs.getD i Value.none)
 | x::xs,v::vs,0,.cons r rs,_,y,hy=>by
  cases hy
  exact r
 | x::xs,v::vs,i+1,.cons r rs,hi,y,hy=>by
  have:=mN i rs (by simpa using hi) y (by simpa using hy)
  simpa using this
end
end L2
namespace L2
open PySem PySem.Spec PyProof.Rows
theorem tW:typeLookup (.type "list") "keys"=pure none:=am_miss_of_fast (by kernel_rfl)
theorem jV:plainId "dict.update.loop"=true:=by decide +kernel
theorem rO:entryFor table "dict.update.loop"=some Builtin.«dict.update.loop»:=entryFor_of_tree (by kernel_rfl)
section
variable {prog:Program} {w:World} {A:Around} {E:Value->Shared->Prop} {s:Shared}
theorem Ml {a:Addr} {o:Obj} {xs:Array Value} {k:Nat} {Q:Option Value->Shared->Prop} (hx:s.heap.get? a=some o) (hc:o.cls=.type "list") (hdat:o.data=.seq xs k) (hd:o.dict=none) (hA:A.handled=none)
  (h:∀h' tk,(∀b ob,s.heap.get? b=some ob->h'.get? b=some ob)->Q none {s with heap:=h',toks:=tk }):wpAny (model prog w) A (getAttr? (.ref a) "keys") Q E s:=by
 obtain⟨c,dct,dat,sl⟩:=o
 simp only at hc hdat hd
 subst hc hdat hd;obtain⟨hp,g,d,tk,os⟩:=s
 have hT:∀tk',(⟨hp,g,d,tk',os⟩:Shared).TypeIs (.ref a) "list":=fun _=>⟨_,hx,rfl⟩
 have f1:=sub_AttributeError
 have f3:=F.slot_list_getattribute.lookup
 have f4:=F.slot_list_getattribute.bind (.ref a)
 have f5:=am_list_getattr_none
 have f6:=tW
 unfold getAttr? getAttrBy? getAttrBy
 repeat (any_goals (first | assumption | exact hT _ | ((with_reducible show wpAny _ _ (call (Value.builtin "list.__getattribute__") _ _) _ _ _);refine call_meets F.slot_list_getattribute (hT _) am_entry_list_getattribute (F.args_list_getattribute_2 _ _) (meets_getattribute_miss_list a xs k sl "keys" _ f6 Zk) ⟨hx,hA,fun h' tk' e hx'=>?_⟩) | wp_step))
 obtain⟨t',u',he⟩:=hx'.there
 show wpAny _ _ (getattributeRaised _ _ _ _ _ _ _) _ _ _
 unfold getattributeRaised;repeat (any_goals (first | assumption | wp_step))
 exact h _ _ hx'.keeps
def Pg (h:Heap) (v:Value) (q:aT × V):Prop:=∃a u x,v=Value.ref a/\IsTup h a #[u,x]/\RelV (kV q.1) u/\RelV q.2 x
theorem Gj (hh:A.handled=none) {I l d:Addr} {its:List Value} {qs:List (aT × V)} {R:Result->Shared->Prop} {res:Value} (hIl:I≠l) (hId:I≠d) (hld:l≠d) :
  ∀(k i:Nat) (s:Shared) (kvs:List (aT × V)) (vs:List (aT × Value)) (z:Int),its.length - i=k->i<=its.length->qs.length=its.length->s.heap.IsListIter I l i->s.heap.IsList l its.toArray->(∀(j:Nat) (v:Value) (q:aT × V),its[j]?=some v->qs[j]?=some q->Pg s.heap v q) →
  (∀(j:Nat) (v:Value) (a:Addr),its[j]?=some v->v=Value.ref a->a≠I/\a≠d)->s.heap.DictOf (aV prog w) d vs->KV kvs vs->kvs.length+k<=1000 →
  (∀h' tk vs',(∀b ob,b≠I->b≠d->s.heap.get? b=some ob->h'.get? b=some ob)->h'.DictOf (aV prog w) d vs'->KV (aS kvs (qs.drop i)) vs'->R (.ok (.ret res)) {s with heap:=h',toks:=tk }) →
  codeAny (model prog w) A (.builtin "dict.update.loop" ⟨[.ref d,.ref I,.int z 0,res],[]⟩) R s:=by
 intro k;induction k with
 | zero=>
  intro i s kvs vs z hk hi hql hit hl hp hne hd rel hz hR;obtain rfl:i=its.length:=by omega
  refine codeAny_builtin rO ?_
  rw[Around.under_plainId jV _];show wpAny _ A.in1 (pyNext (.ref I) >>= _) _ _ s
  apply wpAny_bind
  refine wpAny_pyNext_list_end hh hit hl Zs fun h' eb=>?_
  show wpAny _ A.in1 (Builtin.Dict.addKeywords d [] >>= _) _ _ _
  apply wpAny_bind
  apply wpAny_pure
  apply wpAny_pure
  refine hR h' s.toks vs (fun b ob hb _ e=>eb b ob hb e) (hd.extBut eb hId.symm) ?_
  rw[<- hql,List.drop_length];exact rel
 | succ k ih=>
  intro i s kvs vs z hk hi hql hit hl hp hne hd rel hz hR;have hlt:i<its.length:=by omega
  obtain⟨v,hv⟩:∃v,its[i]?=some v:=⟨its[i],by simp [hlt]⟩
  obtain⟨q,hq⟩:∃q,qs[i]?=some q:=⟨qs[i],by simp [hql,hlt]⟩
  obtain⟨a,u,x,rfl,⟨ob,hob,hoc,n,hod⟩,ru,rx⟩:=hp i v q hv hq
  obtain⟨na,nd⟩:=hne i _ a hv rfl
  refine codeAny_builtin rO ?_
  rw[Around.under_plainId jV _];show wpAny _ A.in1 (pyNext (.ref I) >>= _) _ _ s
  apply wpAny_bind
  refine wpAny_pyNext_list_item hit hl (x:=.ref a) (by simpa using hv) fun h' hit' sb=>?_
  have hob':h'.get? a=some ob:=(sb.2 a na).trans hob
  have hd':h'.DictOf (aV prog w) d vs:=hd.extBut sb.extBut hId.symm
  apply wpAny_bind
  apply wpAny_holding
  apply wpAny_bind
  apply wpAny_tryCatch
  unfold Builtin.Dict.pairItems;apply wpAny_bind
  refine wpAny_typeOf (T:="tuple") ⟨ob,hob',hoc⟩ ?_
  rw[if_pos Zd]
  apply wpAny_bind
  refine wpAny_seqItems hob' hod ?_
  apply wpAny_pure
  show wpAny _ _ (holding [u,x] (dictSet d u x)) _ _ _
  apply wpAny_holding
  have hvl:vs.length<=sizeLine:=by rw[<- rel.length];exact gY Zo
  refine wpAny_dictSet_pairs (s:={s with heap:=h' }) (nK ru) hd' (fun h2 hd2 sb2=>?_) hvl
  apply wpAny_pure
  refine⟨plainId_quiet jV _,?_⟩
  have hl0:=cJ kvs q.1 q.2
  have ex:∀b o,b≠I->b≠d->s.heap.get? b=some o->h2.get? b=some o:=fun b o b1 b2 e=>(sb2.2 b b2).trans ((sb.2 b b1).trans e)
  refine ih (i+1) _ (bO kvs q.1 q.2) (stored vs q.1 x) _ Zo Zo hql ?_ ?_ ?_ hne hd2 (rel.put q.1 rx) Zo fun h3 tk vs' k3 hd3 rel3=>?_
  ·exact hit'.at fun o e=>(sb2.2 I hId).trans e
  ·obtain⟨o,e,r⟩:=hl
   exact⟨o,ex l o hIl.symm hld e,r⟩
  ·intro j v q' hj hq';obtain⟨a',u',x',rfl,⟨o',ho',r'⟩,rr⟩:=hp j v q' hj hq'
   obtain⟨n1,n2⟩:=hne j _ a' hj rfl
   exact⟨a',u',x',rfl,⟨o',ex a' o' n1 n2 ho',r'⟩,rr⟩
  ·refine hR h3 tk vs' (fun b o b1 b2 e=>k3 b o b1 b2 (ex b o b1 b2 e)) hd3 ?_
   have e1:qs.drop i=q::qs.drop (i+1):=by
    rw[List.drop_eq_getElem_cons Zo]
    congr 1
    have:qs[i]?=some qs[i]:=iA Zo
    rw[this]at hq;exact Option.some.inj hq
   rw[e1];exact rel3
theorem vK (hh:A.handled=none) {l:Addr} {o:Obj} {n:Nat} {its:List Value} {qs:List (aT × V)} {Q:Value->Shared->Prop} (hlo:s.heap.get? l=some o) (hlc:o.cls=.type "list") (hld:o.data=.seq its.toArray n) (hldd:o.dict=none) (hql:qs.length=its.length)
  (hp:∀(j:Nat) (v:Value) (q:aT × V),its[j]?=some v->qs[j]?=some q->Pg s.heap v q) (hz:its.length<=1000)
  (h:∀h' tk vs',(∀b ob,s.heap.get? b=some ob->h'.get? b=some ob)->h'.DictOf (aV prog w) s.heap.objs.size vs'->KV (aS [] qs) vs'->Q (.ref s.heap.objs.size) {s with heap:=h',toks:=tk }) :
  wpAny (model prog w) A (call (.type "dict") [.ref l]) Q E s:=by
 refine callType_codes (Q₁:=fun obj s₁=>obj=.ref s.heap.objs.size/\s₁={s with heap:=s.heap.push {cls:=.type "dict",data:=.dict #[] } }) F.kt_called_dict (F.kt_typeCall_dict_1 _) F.entry_dict_init (kt_code_dict_new _ ⟨rfl,rfl⟩) ?_
 rintro obj s₁ ⟨rfl,rfl⟩
 have hnew:(s.heap.push {cls:=.type "dict",data:=.dict #[] }).DictOf (aV prog w) s.heap.objs.size []:=Heap.DictOf.new s.heap
 have hl1:(s.heap.push {cls:=.type "dict",data:=.dict #[] }).get? l=some o:=fP _ hlo
 refine⟨hnew.typeIs,F.args_dict_init_2 _ _,?_⟩
 unfold Builtin.«dict.__init__»
 apply wpAny_bind
 unfold Builtin.Dict.selfAndRest;apply wpAny_bind
 refine wpAny_notOrdered_dict hnew.typeIs ?_
 show wpAny _ _ (pure (s.heap.objs.size,[Value.ref l])) _ _ _
 apply wpAny_pure
 show wpAny _ _ (Builtin.Dict.updateFrom "dict.__init__" s.heap.objs.size (.ref l) [] .none) _ _ _
 unfold Builtin.Dict.updateFrom;apply wpAny_bind
 refine wpAny_typeOf (T:="list") ⟨o,hl1,hlc⟩ ?_
 rw[if_pos Zd]
 apply wpAny_bind
 refine Ml hl1 hlc hld hldd hh fun h1 tk k1=>?_
 rw[if_pos (show(none:Option Value).isNone=true from rfl)];apply wpAny_bind
 apply wpAny_rule
 have hl2:h1.get? l=some o:=k1 _ _ hl1
 have hL2:h1.IsList l its.toArray:=⟨o,hl2,hlc,n,hld⟩
 have hd2:h1.DictOf (aV prog w) s.heap.objs.size []:=by
  obtain⟨oo,es,ep,ho,r⟩:=hnew
  exact⟨oo,es,ep,k1 _ _ ho,r⟩
 have szl1:s.heap.objs.size<h1.objs.size:=by
  obtain⟨oo,es,ep,ho,r⟩:=hd2
  exact Heap.lt_size ho
 have ltl:l<s.heap.objs.size:=Heap.lt_size hlo
 apply wpAny_bind
 refine wpAny_pyIter_list (s:={s with heap:=h1,toks:=tk }) hL2 ?_
 apply wpAny_pure
 refine⟨plainId_quiet jV _,?_⟩
 refine Gj (A:=A.in1) (s:={s with heap:=h1.push {cls:=.type "list_iterator",data:=.fields #[.ref l,.int 0 0] },toks:=tk }) (its:=its) (qs:=qs) (l:=l) hh (Nat.ne_of_gt (Nat.lt_trans ltl szl1)) (Nat.ne_of_gt szl1) (Nat.ne_of_lt ltl) its.length 0 [] [] 0 rfl (Nat.zero_le _) hql ⟨_,Heap.get?_push_size _ rfl,rfl,rfl⟩ ?_ ?_ ?_ (hd2.push _) .nil (by simpa using hz) ?_
 ·exact⟨o,fP _ hl2,hlc,n,hld⟩
 ·intro j v q hj hq;obtain⟨a,u,x,rfl,⟨ob,hob,r⟩,rr⟩:=hp j v q hj hq
  exact⟨a,u,x,rfl,⟨ob,fP _ (k1 _ _ (fP _ hob)),r⟩,rr⟩
 ·intro j v a hj e;obtain⟨q,hq⟩:∃q,qs[j]?=some q:=by
   have:j<its.length:=(Zgs.mp hj).1
   exact⟨qs[j],by simp [hql,this]⟩
  obtain⟨a',u,x,e',⟨ob,hob,r⟩,rr⟩:=hp j v q hj hq
  rw[e]at e';cases e'
  have:=Heap.lt_size hob
  exact⟨Nat.ne_of_lt (Nat.lt_trans this szl1),Nat.ne_of_lt this⟩
 ·intro h' tk' vs' k' hd' rel';refine⟨rfl,h h' tk' vs' (fun b ob e=>?_) hd' rel'⟩
  have:=Heap.lt_size e
  exact k' b ob (Nat.ne_of_lt (Nat.lt_trans this szl1)) (Nat.ne_of_lt this) (fP _ (k1 _ _ (fP _ e)))
end
section
variable {X:Cx}
abbrev W:=Addr × aT × V
def Ux (H:Hp) (zs:List W):Prop:=∀z∈zs,H z.1=some (.tup [kV z.2.1,z.2.2])
def tX (K:W.Frag):List V->Hp->VK->Prop:=fun vs H Q=>match vs with
 | [.ref a]=>∃zs:List W,SqL K H a (zs.map fun z=>V.ref z.1)/\Ux H zs/\zs.length<=1000/\∀d,H d=none->Q (.ref d) (aJ H d (.dK (aS [] (zs.map (·.2)))))
 | _=>False
theorem Gk (hcm:X.calm=true):CallR X (.type "dict") (tX X.K):=by
 intro pins s σ H xs us Q I r h;unfold tX at h;split at h
 ·rename_i a
  obtain⟨zs,hq,hz,h1000,q⟩:=h
  obtain⟨u,rfl,ru⟩:=jA r
  cases ru
  obtain⟨its,r1,p1,_⟩:=I.list hq
  obtain⟨o,n,ho,hc,hdd,hd⟩:=p1
  have hl:zs.length=its.length:=by
   have:=r1.length
   rw[bG]at this;exact this
  refine vK (I.ok.hd hcm) ho hc hd hdd (qs:=zs.map (·.2)) (by rw[bG];exact hl) (fun j v q' hj hq'=>?_) Zo fun h' tk vs' k hd rel=>?_
  ·rw[kE]at hq';cases hzj:zs[j]? with
   | none=>rw[hzj]at hq';cases hq'
   | some z=>
    rw[hzj]at hq';cases hq'
    have e:=hz z (gX hzj)
    obtain⟨_,its2,r2,it⟩:=(show ObjOk X.prog X.w H s.heap z.1 (.tup [kV z.2.1,z.2.2]) from I.hok _ _ e)
    have hj2:j<zs.length:=(Zgs.mp hzj).1
    have rv:RelV (V.ref z.1) (its.getD j Value.none):=mN j r1 (by rw[bG];exact hj2) _ (by rw[kE,hzj];rfl)
    have ev:its.getD j Value.none=v:=by rw[List.getD_eq_getElem?_getD,hj];rfl
    rw[ev]at rv;cases rv
    cases r2 with
    | cons a1 r3=>
     cases r3 with
     | cons a2 r4=>
      cases r4
      exact⟨z.1,_,_,rfl,it,a1,a2⟩
  ·have hf:H s.heap.objs.size=none:=I.hok.fresh (bM _)
   refine⟨.ref s.heap.objs.size,_,I.laid (t':=tk) (o:=.dK (aS [] (zs.map (·.2)))) k (bM _) ⟨?_,?_,vs',rel,hd⟩,rfl,q _ hf⟩
   ·have:=dH (zs.map (·.2)) []
    rw[bG]at this;exact gY (by simp at this;omega)
   ·have hb:=I.big
    exact beq_eq_false_iff_ne.mpr (Nat.ne_of_gt hb)
 ·exact h.elim
theorem R.dq {K:W.Frag} (hcm:X.calm=true) (hK:X.K=K:=by rfl):XC X (.type "dict") (tX K):=hK ▸ ⟨Gk hcm⟩
end
end L2
namespace L2
open PySem PySem.Spec PyProof.Rows
def Xj (K:W.Frag) (te:TE) (f:Str):TE:=fun σ H Q=>te σ H fun x H1=>mR x fun a=>∃C dx fs v,H1 a=some (.ins C dx fs)/\Cls K C/\NoAttr K C f/\fs.lookup f=some v/\Q v H1
def Ph (K:W.Frag) (ta tv:TE) (f:Str):TS:=fun D σ H=>tv σ H fun y H1=>ta σ H1 fun x H2=>mR x fun a=>∃C dx fs,H2 a=some (.ins C dx fs)/\Cls K C/\NoAttr K C f/\fs.length<1000/\D.nx σ (aJ H2 a (.ins C dx (bN f y fs)))
section
variable {X:Cx} {e o value:Expr} {f:Str} {pos pos':Pos} {te ta tv:TE} {K:W.Frag}
theorem Mm (he:PE X e te) (hb:attributeBase e f X.env (eval e X.env)=eval e X.env):PE X (.Attribute e f pos) (Xj X.K te f):=by
 intro pins s σ H Q I h;refine Kr hb (bV (he pins s σ H _ I h) fun u s1 ⟨x,H1,I1,rx,q1⟩=>?_)
 dsimp only at q1
 rw[dU]at q1;obtain⟨a,rfl,C,dx,fs,v,ea,c,n,l,q⟩:=q1
 obtain rfl:u=Value.ref a:=rx
 exact wZ I1 ea c n l fun u' s2 I2 ru=>⟨v,H1,I2,ru,q⟩
theorem Mn (ha:PE X o ta) (hv:PE X value tv) (hs:swapsWith value (some (.Attribute o f pos')) pos.line X.env=pure false):PS X (.Assign [.Attribute o f pos'] value pos) (Ph X.K ta tv f):=by
 intro pins s σ H D I h;refine plainObj_wpAny_Assign_Attribute (bV (hv pins s σ H _ I h) fun u s1 ⟨y,H1,I1,ry,q⟩=>bV (ha pins s1 σ H1 _ I1 q) fun ov s2 ⟨x,H2,I2,rx,q1⟩=>?_) hs
 dsimp only at q1
 rw[dU]at q1;obtain⟨a,rfl,C,dx,fs,ea,c,n,l,q2⟩:=q1
 obtain rfl:ov=Value.ref a:=rx
 exact xB I2 ea c n l ry fun s3 I3=>⟨σ,_,I3,q2⟩
end
structure rP (P:Program) (w:World) (K:W.Frag) (mg:Str->Option Value) (base:Heap) (n:Nat) (C:Addr) (m:Str) (ps:List Str) (sp:Sp):Prop where
 ex:∃f fd,Cls K C/\Rr K C m f/\jG P w K mg base rK n f fd ps sp/\Binds K fd ps []
structure Tn (P:Program) (w:World) (K:W.Frag) (mg:Str->Option Value) (base:Heap) (n:Nat) (x:Str) (C:Addr) (ps:List Str) (dvs:List V) (sp:Sp):Prop where
 ex:∃f fd ds,mg x=some (.ref C)/\Mk K C f/\jG P w K mg base rK n f fd ps sp/\Binds K fd ps ds/\Vals dvs ds
def Pi (C:Addr) (m:Str) (sp:Sp) (ta:TE) (t:TA):TE:=fun σ H Q=>ta σ H fun x H1=>mR x fun a=>∃dx fs,H1 a=some (.ins C dx fs)/\fs.lookup m=none/\t σ H1 fun vs H2=>sp (.ref a::vs) H2 Q E0
section
variable {X:Cx} {e o:Expr} {es:List Expr} {m x:Str} {p pos apos:Pos} {ta:TE} {t:TA} {C:Addr} {n:Nat} {ps:List Str} {sp:Sp} {dvs:List V}
theorem Gm {pl:Sem Bool} (he:PE X o ta) (c:rP X.prog X.w X.K X.mg X.base n C m ps sp) (hr:Room n X.A) (ha:PA X (e::es) t) (hs:aQ e=true) (hpl:(backTo pos (starEach es X.env)).any (·.1)=false)
  (ht:eval (.Call (.Attribute o m apos) (e::es) [] pos) X.env=(do
   let ov ← eval o X.env
   standAt apos.atName
   let (f,first) ← holding [ov] (getMethod ov m pl)
   callWith pos f first (backTo pos (starEach (e::es) X.env)) (backToKw pos (keywordEach [] X.env)))) :
  PE X (.Call (.Attribute o m apos) (e::es) [] pos) (Pi C m sp ta t):=by
 obtain⟨f,fd,cl,hm,F,hb⟩:=c.ex
 intro pins s σ H Q I h;refine W.methodCall_KW (pl:=pl) (bV (he pins s σ H _ I h) fun u s1 ⟨x,H1,I1,rx,q1⟩=>?_) ht
 dsimp only at q1
 rw[dU]at q1;obtain⟨a,rfl,dx,fs,ea,l,q⟩:=q1
 obtain rfl:u=Value.ref a:=rx
 refine xA I1 ea cl hm l ?_
 refine W.callWith_K (first:=[.ref a]) (h₀:=X.base) I.ok.mod.kin hm.kp (bV (ha pos pins s1 σ H1 _ I1 q) fun us s2 ⟨vs,H2,I2,r,q2⟩=>⟨I2.kIn,?_⟩) (bK hs) hpl
 exact Ek (us:=.ref a::us) (vs:=.ref a::vs) (dvs:=[]) (ds:=[]) F hr hb .nil zE I2 (.cons rfl r) (by rw[List.append_nil];exact q2)
end
structure FunD (K:W.Frag) (x qual:Str) (st:Stmt) (dv:Value) (f:Addr) (fd:FuncData):Prop where
 ex:∃(oc:Value) (od:Option Addr) (kV doc pm:Value) (an:Option Addr) (cdv ct:Value) (osl:Array (Option Value)),
  fd=W.fnOf x qual (cA st) (bD st) (aB st) dv kV doc pm an cdv ct/\K.lookup f=some ⟨oc,od,.func fd,osl⟩/\W.codeIn K cdv qual=true
section
variable {P:Program} {w:World} {K:W.Frag} {mg:Str->Option Value} {base:Heap} {x qual:Str} {st:Stmt} {dv:Value} {f C:Addr} {fd:FuncData} {N ps:List Str} {k:Nat} {sp:Sp}
theorem FunD.go (F:FunD K x qual st dv f fd) (S:aI N ps (aB st)) (len:∀vs H Q E,sp vs H Q E->vs.length=ps.length)
  (hbody:∀(cdv:Value) (A:Around) (outer:List Env) (s:Shared) (H:Hp) (vs:List V) (Q:VK) (E:XK),Room k (A.deeper (envOfC qual (aB st) s.heap.objs.size f cdv))->sp vs H Q E →
   ∃t,XB (kX rK P w K mg base N qual (aB st) f cdv A outer s H E).nox (bD st) t/\t {nx:=fun _ H'=>Q .non H',rt:=Q } (start N vs) H):jG P w K mg base rK (k+1) f fd ps sp:=by
 obtain⟨oc,od,kV,doc,pm,an,cdv,ct,osl,rfl,lk,hcd⟩:=F.ex
 refine Ov lk hcd S len fun A outer s H vs Q E hr hsp=>?_
 obtain⟨t,h,q⟩:=hbody cdv A outer s H vs Q E hr hsp
 exact⟨t,h.h.nox,q⟩
structure MethAt (K:W.Frag) (C:Addr) (m qual:Str) (st:Stmt) (ps:List Str):Prop where
 cl:Cls K C
 ex:∃f fd,Fun K m qual st f fd/\Rr K C m f/\Binds K fd ps []
theorem MethAt.go {m:Str} (D:MethAt K C m qual st ps) (S:aI N ps (aB st)) (len:∀vs H Q E,sp vs H Q E->vs.length=ps.length)
  (hbody:∀(f:Addr) (cdv:Value) (A:Around) (outer:List Env) (s:Shared) (H:Hp) (vs:List V) (Q:VK) (E:XK),Room k (A.deeper (envOfC qual (aB st) s.heap.objs.size f cdv))->sp vs H Q E →
   ∃t,XB (kX rK P w K mg base N qual (aB st) f cdv A outer s H E).nox (bD st) t/\t {nx:=fun _ H'=>Q .non H',rt:=Q } (start N vs) H):rP P w K mg base (k+1) C m ps sp:=by
 obtain⟨f,fd,F,hm,hb⟩:=D.ex
 exact⟨f,fd,D.cl,hm,F.go S len (hbody f),hb⟩
structure ClsAt (K:W.Frag) (mg:Str->Option Value) (x:Str) (C:Addr) (qual:Str) (st:Stmt) (ps:List Str) (dvs:List (List V)):Prop where
 ex:∃f fd dv,mg x=some (.ref C)/\FunD K "__init__" qual st dv f fd/\Mk K C f/\∀d∈dvs,∃ds,Binds K fd ps ds/\Vals d ds
theorem ClsAt.go {dvs:List (List V)} (D:ClsAt K mg x C qual st ps dvs) (S:aI N ps (aB st)) (len:∀vs H Q E,sp vs H Q E->vs.length=ps.length)
  (hbody:∀(f:Addr) (cdv:Value) (A:Around) (outer:List Env) (s:Shared) (H:Hp) (vs:List V) (Q:VK) (E:XK),Room k (A.deeper (envOfC qual (aB st) s.heap.objs.size f cdv))->sp vs H Q E →
   ∃t,XB (kX rK P w K mg base N qual (aB st) f cdv A outer s H E).nox (bD st) t/\t {nx:=fun _ H'=>Q .non H',rt:=Q } (start N vs) H):∀d∈dvs,Tn P w K mg base (k+1) x C ps d sp:=by
 intro d hd;obtain⟨f,fd,dv,e,F,M,hb⟩:=D.ex
 obtain⟨ds,b,v⟩:=hb d hd
 exact⟨f,fd,ds,e,M,F.go S len (hbody f),b,v⟩
end
namespace R
section
variable {X:Cx} {e o i value:Expr} {es:List Expr} {m x f:Str} {p pos pos' apos:Pos} {te ta tv td ty:TE} {t:TA} {C:Addr} {n:Nat} {ps:List Str} {sp:Sp} {dvs:List V} {K:W.Frag} {tg:Expr}
theorem ba (he:XE X e te) (hK:X.K=K:=by rfl) (hb:attributeBase e f X.env (eval e X.env)=eval e X.env:=by rfl):XE X (.Attribute e f pos) (Xj K te f):=hK ▸ ⟨Mm he.h hb⟩
theorem cx (ha:XE X o ta) (hv:XE X value tv) (hK:X.K=K:=by rfl) (hs:swapsWith value (some (.Attribute o f pos')) pos.line X.env=pure false:=by rfl):XS X (.Assign [.Attribute o f pos'] value pos) (Ph K ta tv f):=hK ▸ ⟨Mn ha.h hv.h hs⟩
theorem dh (hu:X.A.units+1<cLine) (ho:XE X o td) (hi:XE X i ty) (hs:Sc i:=by exact fun _ _=>rfl):XE X (.Subscript o i pos) (Oy td ty):=⟨Ll hu ho.h hi.h hs⟩
theorem cn {pl:Sem Bool} (c:rP X.prog X.w X.K X.mg X.base n C m ps sp) (hr:Room n X.A) (he:XE X o ta) (ha:XA X (e::es) t) (hs:aQ e=true:=by rfl) (h2:es.all aQ=true:=by rfl)
  (ht:eval (.Call (.Attribute o m apos) (e::es) [] pos) X.env=(do
   let ov ← eval o X.env
   standAt apos.atName
   let (f,first) ← holding [ov] (getMethod ov m pl)
   callWith pos f first (backTo pos (starEach (e::es) X.env)) (backToKw pos (keywordEach [] X.env))):=by rfl):XE X (.Call (.Attribute o m apos) (e::es) [] pos) (Pi C m sp ta t):=⟨Gm he.h c hr ha.h hs (fT h2) ht⟩
theorem jg (c:Tn X.prog X.w X.K X.mg X.base n x C ps [] sp) (hr:Room (n+1) X.A) (hg:Gl X x) (ha:XA X (e::es) t) (hdb:(x == ("__debug__":Str))=false:=by decide) (hs:aQ e=true:=by rfl) (h2:es.all aQ=true:=by rfl) :
  XE X (.Call (.Name x p) (e::es) [] pos) (yX C sp [] E0 t):=by
 obtain⟨f,fd,ds,hm,M,F,hb,hd⟩:=c.ex
 exact⟨Kt M F hr hg hm hb hd zE ha.h hdb (bK hs) (fT h2)⟩
theorem jh (c:Tn X.prog X.w X.K X.mg X.base n x C ps dvs sp) (hr:Room (n+1) X.A) (hg:Gl X x) (hdb:(x == ("__debug__":Str))=false:=by decide) :
  XE X (.Call (.Name x p) [] [] pos) (yX C sp dvs E0 sV):=by
 obtain⟨f,fd,ds,hm,M,F,hb,hd⟩:=c.ex
 exact⟨El M F hr hg hm hb hd zE hdb⟩
end
end R
end L2
namespace L2
open PySem PySem.Spec PyProof.Rows
def lW (prs:List (Str × Int)):List (aT × V):=prs.map fun q=>(Sum.inr q.1,V.int q.2)
def dE (prs:List (Str × Int)) (n:Str):Int:=(prs.lookup n).getD 0
theorem vL (prs:List (Str × Int)):(lW prs).map (·.1)=(prs.map (·.1)).map Sum.inr:=by
 unfold lW;rw[List.map_map,List.map_map];rfl
theorem tY (n:Str):∀(prs:List (Str × Int)),bE (lW prs) (Sum.inr n)=(prs.lookup n).map V.int
 | []=>rfl
 | q::r=>by
  unfold lW;rw[List.map_cons,List.lookup_cons];by_cases h:n=q.1
  ·subst h;rw[cF rfl];simp
  ·have hb:(n == q.1)=false:=beq_eq_false_iff_ne.mpr h
   rw[cG (by intro z;exact h (Sum.inr.inj z).symm),hb]
   exact tY n r
theorem oC (prs:List (Str × Int)) (n:Str):(bE (lW prs) (Sum.inr n)).getD (V.int 0)=V.int (dE prs n):=by
 rw[tY];unfold dE;cases prs.lookup n <;> rfl
theorem jW:∀(more kvs:List (aT × V)),(more.map (·.1)).Nodup->(∀k∈more.map (·.1),bE kvs k=none)->aS kvs more=kvs++more
 | [],kvs,_,_=>(List.append_nil _).symm
 | p::r,kvs,hn,h=>by
  obtain⟨h1,h2⟩:=List.nodup_cons.mp hn
  show aS (bO kvs p.1 p.2) r=_
  have e0:bE kvs p.1=none:=h p.1 Zs
  rw[jW r _ h2 fun k hk=>?_,vB _ e0]
  ·simp
  ·rw[cP,if_neg (fun(z:k=p.1)=>h1 (by dsimp only;rw[<- z];exact hk))]
   exact h k (nY _ hk)
theorem rQ:∀ {l:List Str},l.Nodup->(l.map (Sum.inr:Str->aT)).Nodup
 | [],_=>List.nodup_nil
 | a::l,h=>by
  obtain⟨h1,h2⟩:=List.nodup_cons.mp h
  refine List.nodup_cons.mpr ⟨fun z=>?_,rQ h2⟩
  obtain⟨b,hb,e⟩:=Zmm.mp z
  cases e
  exact h1 hb
theorem rR {prs:List (Str × Int)} (h:(prs.map (·.1)).Nodup):aS [] (lW prs)=lW prs:=by
 rw[jW _ _ (by rw[vL];exact rQ h) fun _ _=>rfl]
 rfl
theorem pE {n:Str}:∀ {prs:List (Str × Int)},n∈prs.map (·.1)->∃a,prs.lookup n=some a
 | q::r,h=>by
  rw[List.lookup_cons];by_cases e:n=q.1
  ·subst e;exact⟨q.2,Zs⟩
  ·have hb:(n == q.1)=false:=beq_eq_false_iff_ne.mpr e
   rw[hb];rcases List.mem_cons.mp h with z | z
   ·exact absurd z e
   ·exact pE z
structure To (K:W.Frag) (C:Addr):Prop where
 cl:Cls K C
 nA:NoAttr K C "amounts"
structure BookAt (C:Addr) (H:Hp) (p:Addr) (prs:List (Str × Int)):Prop where
 ex:∃dx d,H p=some (.ins C dx [("amounts",.ref d)])/\H d=some (.dK (lW prs))
 nd:(prs.map (·.1)).Nodup
theorem BookAt.same {C:Addr} {H H':Hp} {p:Addr} {prs:List (Str × Int)} (B:BookAt C H p prs) (s:Same H H'):BookAt C H' p prs:=by
 obtain⟨dx,d,h1,h2⟩:=B.ex
 exact⟨⟨dx,d,s _ _ h1,s _ _ h2⟩,B.nd⟩
def Tp (H:Hp) (r:V) (prs:List (Str × Int)):Prop:=(r=.non/\prs=[])∨∃l zs,r=.ref l/\H l=some (.lst (fA zs))/\Ck H zs/\zs.map (·.2)=prs
def iE (C:Addr):Sp:=fun vs H Q _=>∃(p:Addr) (n:Str) (prs:List (Str × Int)),vs=[.ref p,.str n]/\BookAt C H p prs/\Q (.int (dE prs n)) H
def wz (zs:List Z):List W:=zs.map fun z=>(z.1,Sum.inr z.2.1,V.int z.2.2)
theorem Tq (zs:List Z):((wz zs).map fun z=>V.ref z.1)=fA zs:=by
 unfold wz fA;rw[List.map_map];rfl
theorem Xk {H:Hp} {zs:List Z} (h:Ck H zs):Ux H (wz zs):=fun z hz=>by
 obtain⟨y,hy,rfl⟩:=Zmm.mp hz
 exact h y hy
theorem Tr (zs:List Z):(wz zs).map (·.2)=lW (zs.map (·.2)):=by
 unfold wz lW;rw[List.map_map,List.map_map];rfl
theorem Zx (y:V):bN "amounts" y []=[(("amounts":Str),y)]:=rfl
theorem put1 (x y:V):bN "amounts" y [(("amounts":Str),x)]=[(("amounts":Str),y)]:=by
 unfold bN;rw[if_pos rfl]
theorem nN (y:V):([(("amounts":Str),y)]:List (Str × V)).lookup ("amounts":Str)=some y:=by
 rw[List.lookup_cons];simp
theorem pF {m:Str} (y:V) (h:(m == ("amounts":Str))=false):([(("amounts":Str),y)]:List (Str × V)).lookup m=none:=by
 rw[List.lookup_cons,h];rfl
end L2
namespace L2
open PySem PySem.Spec PyProof.Rows
section
variable {X:Cx}
theorem R.fk (hc:X.calm=true):XC X (.builtin "min") (fun vs H Q=>match vs with | [.int i,.int j]=>Q (.int (if j<i then j else i)) H | _=>False):=⟨(Bo hc).imp fun vs H Q h=>by
 split at h
 ·exact⟨_,_,rfl,h⟩
 ·exact h.elim⟩
end
inductive DW (one other nm:Str) (n:Int):Str->List V->List (Str × Int)->List (Str × List V)->Prop
 | add:DW one other nm n "add" [.str "add",.str nm,.int n] [(nm,n)] []
 | take:DW one other nm n "take" [.str "take",.str nm,.int n] [(nm,-n)] []
 | move:DW one other nm n "move" [.str "move",.str one,.str other,.int n] [(one,-n),(other,n)] []
 | send:DW one other nm n "send" [.str "send",.str one,.str nm,.int n] [(nm,-n)] [(one,[.str "add",.str nm,.int n])]
 | fetch:DW one other nm n "fetch" [.str "fetch",.str one,.str nm,.int n] [(nm,n)] [(one,[.str "take",.str nm,.int n])]
 | pass:DW one other nm n "pass" [.str "pass",.str one,.str other,.str nm,.int n] [] [(one,[.str "take",.str nm,.int n]),(other,[.str "add",.str nm,.int n])]
structure Pj (wd:Str) (xs:List V) (cs:List (Str × Int)) (as:List (Str × List V)):Prop where
 ex:∃one other nm n,DW one other nm n wd xs cs as
def Xl (H:Hp) (q:Str × List V) (v:V):Prop:=∃a d,v=.ref a/\H a=some (.tup [.str q.1,.ref d])/\H d=some (.tup q.2)
def mO:Sp:=fun vs H Q _=>∃p wd xs cs as,vs=[.ref p]/\H p=some (.tup xs)/\Pj wd xs cs as/\∀t zs H',Same H H'->H' t=some (.tup (fA zs))->Ck H' zs->zs.map (·.2)=cs->Q (.ref t) H'
def kO:Sp:=fun vs H Q _=>∃p wd xs cs as,vs=[.ref p]/\H p=some (.tup xs)/\Pj wd xs cs as/\∀t us H',Same H H'->H' t=some (.tup us)->Paired (Xl H') as us->Q (.ref t) H'
abbrev tS (z:Str):TV:=.sc (.str z)
abbrev tI (n:Int):TV:=.sc (.int n)
def Yk (f:Str->Int) (cs:List (Str × Int)):List V:=.str "is"::cs.map fun q=>V.int (f q.1+q.2)
def mP (C:Addr):Sp:=fun vs H Q _=>∃b p wd xs cs as prs,vs=[.ref b,.ref p]/\BookAt C H b prs/\H p=some (.tup xs)/\Pj wd xs cs as/\∀t H',Same H H'->H' t=some (.tup (Yk (dE prs) cs))->Q (.ref t) H'
def iF (f:Str->Int) (last:TV):List (Str × Int)->TV
 | []=>last
 | q::r=>if q.2<0/\f q.1+q.2<0 then .tp [tS "short",tI (f q.1)] else if 0<q.2/\1000000000000<f q.1+q.2 then .tp [tS "full",tI (f q.1)] else iF f last r
theorem vM (f:Str->Int) (last:TV) (q:Str × Int) (r:List (Str × Int)):iF f last (q::r)=if q.2<0/\f q.1+q.2<0 then .tp [tS "short",tI (f q.1)] else if 0<q.2/\1000000000000<f q.1+q.2 then .tp [tS "full",tI (f q.1)] else iF f last r:=rfl
def lC (f:Str->Int) (cs:List (Str × Int)) (as:List (Str × List V)):TV:=if as=[] then .tp ((Yk f cs).map .sc) else .sc .non
def zR (C:Addr):Sp:=fun vs H Q _=>∃b p wd xs cs as prs,vs=[.ref b,.ref p]/\BookAt C H b prs/\H p=some (.tup xs)/\Pj wd xs cs as/\∀v H',Same H H'->RepT H' 1 (iF (dE prs) (lC (dE prs) cs as) cs) v->Q v H'
theorem tZ {H:Hp} {n:Nat}:∀ {xs:List V},(∀y∈xs,kN y=true)->Paired (RepT H n) (xs.map TV.sc) xs
 | [],_=>.nil
 | y::r,h=>.cons (RepT.scal (h y kG)) (tZ fun z m=>h z (nY _ m))
theorem Gn (f:Str->Int) (cs:List (Str × Int)):∀y∈Yk f cs,kN y=true:=fun y hy=>by
 rcases List.mem_cons.mp hy with rfl | h
 ·rfl
 ·obtain⟨q,_,rfl⟩:=Zmm.mp h
  rfl
end L2
namespace L2
open PySem PySem.Spec PyProof.Rows
def Go:Bool->String | true=>"list_iterator" | false=>"tuple_iterator"
def lD (k:Bool) (a:Addr):Obj:={cls:=.type (Go k),data:=.fields #[.ref a,.int 0 0] }
def ItAt (k:Bool) (h:Heap) (it a:Addr) (i:Nat):Prop:=∃o,h.get? it=some o/\o.cls=.type (Go k)/\o.data=.fields #[.ref a,.int i 0]
def SeqIn (k:Bool) (h:Heap) (a:Addr) (vs:Array Value):Prop:=match k with | true=>h.IsList a vs | false=>h.IsTuple a vs
theorem ItAt.by {k:Bool} {h h':Heap} {it a:Addr} {i:Nat} (x:ItAt k h it a i) (g:∀o,h.get? it=some o->h'.get? it=some o):ItAt k h' it a i:=let ⟨o,e,r⟩:=x;⟨o,g o e,r⟩
theorem SeqIn.by {k:Bool} {h h':Heap} {a:Addr} {vs:Array Value} (x:SeqIn k h a vs) (g:∀o,h.get? a=some o->h'.get? a=some o):SeqIn k h' a vs:=by
 cases k
 ·obtain⟨o,e,r⟩:=x;exact⟨o,g o e,r⟩
 ·obtain⟨o,e,r⟩:=x;exact⟨o,g o e,r⟩
theorem SeqIn.lt {k:Bool} {h:Heap} {a:Addr} {vs:Array Value} (x:SeqIn k h a vs):a<h.objs.size:=by
 cases k
 ·obtain⟨o,e,r⟩:=x;exact Heap.lt_size e
 ·obtain⟨o,e,r⟩:=x;exact Heap.lt_size e
section
variable {prog:Program} {w:World} {A:Around} {E:Value->Shared->Prop} {s:Shared}
theorem Gp {k:Bool} {a:Addr} {vs:Array Value} {Q:Value->Shared->Prop} (h:SeqIn k s.heap a vs) (q:Q (.ref s.heap.objs.size) {s with heap:=s.heap.push (lD k a) }):wpAny (model prog w) A (pyIter (.ref a)) Q E s:=by
 cases k
 ·exact wpAny_pyIter_tuple (show s.heap.IsTuple a vs from h) q
 ·exact wpAny_pyIter_list (show s.heap.IsList a vs from h) q
theorem uA {k:Bool} {it a:Addr} {i:Nat} {vs:Array Value} {x:Value} {Q:Value->Shared->Prop} (hit:ItAt k s.heap it a i) (hs:SeqIn k s.heap a vs) (hx:vs[i]?=some x)
  (q:∀h',ItAt k h' it a (i+1)->Heap.SameBut it s.heap h'->Q x {s with heap:=h' }):wpAny (model prog w) A (Builtin.SmallTypes.nextOf (.ref it)) Q E s:=by
 cases k with
 | true=>exact wpAny_nextOf_list_item (show s.heap.IsListIter it a i from hit) (show s.heap.IsList a vs from hs) hx q
 | false=>
  have hit':s.heap.IsTupleIter it a i:=hit
  obtain⟨o,ho,hc,hd⟩:=hit
  obtain⟨ol,hol,_,nl,hdl⟩:=hs
  unfold Builtin.SmallTypes.nextOf;refine wpAny_bind (wpAny_callSpecial?_slot (name:=Str.ofString "__next__") hit'.typeIs F.slot_tuple_iterator_next (wpAny_call_entry F.slot_tuple_iterator_next hit'.typeIs F.entry_tuple_iterator_next ?_ (F.args_tuple_iterator_next_1 _)))
  show wpAny (model prog w) _ (field (.ref it) 0 >>= _) _ _ s
  refine wpAny_bind (wpAny_field ho hd (x:=.ref a) rfl ?_)
  show wpAny (model prog w) _ (if (Value.ref a == Value.none)=true then _ else _) _ _ s
  rw[if_neg (show ¬ ((Value.ref a == Value.none)=true) from Bool.false_ne_true)];show wpAny (model prog w) _ (field (.ref it) 1 >>= _) _ _ s
  refine wpAny_bind (wpAny_field (x:=.int i 0) ho hd rfl ?_)
  show wpAny (model prog w) _ (seqItems? (.ref a) >>= _) _ _ s
  refine wpAny_bind (wpAny_seqItems (hol) hdl ?_)
  simp only [hx,Int.toNat_natCast]
  refine wpAny_bind (wpAny_setField ho hd Zs (wpAny_pure ⟨x,rfl,wpAny_pure (q _ ?_ (Heap.SameBut.update ..))⟩))
  exact⟨_,Heap.get?_update_self _ ho (Obj.isFreed_of_fields (Obj.data_mapFields hd _)),(Obj.cls_mapFields ..).trans hc,by rw[Obj.data_mapFields hd];simp [rawInt]⟩
theorem Gq {k:Bool} {it a:Addr} {i:Nat} {vs:Array Value} {Q:Value->Shared->Prop} (hh:A.handled=none) (hit:ItAt k s.heap it a i) (hs:SeqIn k s.heap a vs) (hx:vs[i]?=none)
  (hE:∀h' e,Heap.ExtBut it s.heap h'->(∃o,h'.get? e=some o/\o.cls=.type "StopIteration")->E (.ref e) {s with heap:=h' }):wpAny (model prog w) A (Builtin.SmallTypes.nextOf (.ref it)) Q E s:=by
 cases k with
 | true=>exact wpAny_nextOf_list_end hh (show s.heap.IsListIter it a i from hit) (show s.heap.IsList a vs from hs) hx hE
 | false=>
  have hit':s.heap.IsTupleIter it a i:=hit
  obtain⟨o,ho,hc,hd⟩:=hit
  obtain⟨ol,hol,_,nl,hdl⟩:=hs
  unfold Builtin.SmallTypes.nextOf;refine wpAny_bind (wpAny_callSpecial?_slot (name:=Str.ofString "__next__") hit'.typeIs F.slot_tuple_iterator_next (wpAny_call_entry F.slot_tuple_iterator_next hit'.typeIs F.entry_tuple_iterator_next ?_ (F.args_tuple_iterator_next_1 _)))
  show wpAny (model prog w) _ (field (.ref it) 0 >>= _) _ _ s
  refine wpAny_bind (wpAny_field ho hd (x:=.ref a) rfl ?_)
  show wpAny (model prog w) _ (if (Value.ref a == Value.none)=true then _ else _) _ _ s
  rw[if_neg (show ¬ ((Value.ref a == Value.none)=true) from Bool.false_ne_true)];show wpAny (model prog w) _ (field (.ref it) 1 >>= _) _ _ s
  refine wpAny_bind (wpAny_field (x:=.int i 0) ho hd rfl ?_)
  show wpAny (model prog w) _ (seqItems? (.ref a) >>= _) _ _ s
  refine wpAny_bind (wpAny_seqItems (hol) hdl ?_)
  simp only [hx,Int.toNat_natCast]
  refine wpAny_bind (wpAny_rule (wpAny_bind (wpAny_setField (ho) hd Zs ?_)))
  show wpAny (model prog w) _ (newExc (.type "StopIteration") [] >>= _) _ _ _
  refine wpAny_bind ?_
  simp only [newTuple,newExc]
  refine wpAny_bind (wpAny_newObj_type ?_ (by size_fits))
  refine wpAny_bind (m:=firstArgMember _ _) (wpAny_of_eq (a:=Value.none) (by first | rfl | (simp only [firstArgMember];rfl)) ?_)
  refine wpAny_newObj_type ?_ (by size_fits)
  simp only [raiseNew]
  refine wpAny_bind (wpAny_handled ?_)
  first | rw[show A.in1.handled=none from(hh)] | rw[hh]
  refine wpAny_bind (wpAny_pure (wpAny_throw ?_))
  exact hE _ _ (((Heap.SameBut.update ..).extBut.push _).push _) ⟨_,Heap.get?_push_size _ rfl,rfl⟩
structure Mo (z ti to j1 j2 a1 a2:Addr):Prop where
 i:ti≠z
 o:to≠z
 p:j1≠z
 q:j2≠z
 io:ti≠to
 ip:ti≠j1
 iq:ti≠j2
 op:to≠j1
 oq:to≠j2
 pq:j1≠j2
 a:∀b,b=a1∨b=a2->b≠z/\b≠to/\b≠j1/\b≠j2
structure Xm (k1 k2:Bool) (h:Heap) (z ti to j1 j2 a1 a2:Addr) (f0:Value) (n1 n2:Nat):Prop where
 z:IsZip h z ti to f0
 i:IsPair h ti (.ref j1) (.ref j2)
 o:∃a b,IsPair h to a b
 x:ItAt k1 h j1 a1 n1
 y:ItAt k2 h j2 a2 n2
theorem Mp {k1 k2:Bool} {z ti to j1 j2 a1 a2:Addr} {n:Nat} {xs ys:Array Value} {x y:Value} {Q:Value->Shared->Prop} (D:Mo z ti to j1 j2 a1 a2) (S:Xm k1 k2 s.heap z ti to j1 j2 a1 a2 .none n n)
  (hl1:SeqIn k1 s.heap a1 xs) (hl2:SeqIn k2 s.heap a2 ys) (hx:xs[n]?=some x) (hy:ys[n]?=some y)
  (hQ:∀h',Xm k1 k2 h' z ti to j1 j2 a1 a2 (rawInt s.heap.objs.size) (n+1) (n+1)->IsPair h' s.heap.objs.size x y->h'.objs.size=s.heap.objs.size+1 →
   (∀c o,c≠z->c≠to->c≠j1->c≠j2->s.heap.get? c=some o->h'.get? c=some o)->Q (.ref s.heap.objs.size) {s with heap:=h' }) :
  wpAny (model prog w) A (Builtin.«zip.__next__» ⟨[.ref z],[]⟩) (fun fin s'=>∃v,fin=.done (.ret v)/\Q v s') E s:=by
 obtain⟨hz,hI,⟨u1,u2,hO⟩,h1,h2⟩:=S
 obtain⟨c1z,c1o,c1p,c1q⟩:=D.a a1 (.inl rfl)
 obtain⟨c2z,c2o,c2p,c2q⟩:=D.a a2 (.inr rfl)
 show wpAny (model prog w) _ (field (.ref z) 2 >>= _) _ _ _
 refine wpAny_bind (wpAny_field (x:=.bool false) hz rfl rfl ?_)
 show wpAny (model prog w) _ (field (.ref z) 3 >>= _) _ _ _
 refine wpAny_bind (wpAny_field (x:=.ref ti) hz rfl rfl ?_)
 refine wpAny_bind (wpAny_seqItems hI rfl ?_)
 show wpAny (model prog w) _ (Builtin.SmallTypes.ownedTupleIsFree (.ref z) >>= _) _ _ _
 refine wpAny_bind ?_
 unfold Builtin.SmallTypes.ownedTupleIsFree;refine wpAny_bind (wpAny_field (x:=.none) hz rfl rfl (wpAny_pure ?_))
 simp only [if_true]
 refine wpAny_bind (wpAny_rule ?_)
 refine wpAny_bind (wpAny_field (x:=.ref to) hz rfl rfl ?_)
 refine wpAny_bind (wpAny_setField_rec hz Zs fun g1 z1 b1=>?_)
 have z1:IsZip g1 z ti to .ellipsis:=z1
 refine wpAny_bind ?_
 simp only [List.zipIdx_nil,List.zipIdx_cons,List.forIn_nil,List.forIn_cons]
 refine wpAny_bind (wpAny_bind (wpAny_onRaise ?_))
 show wpAny (model prog w) _ (Builtin.SmallTypes.nextOf (.ref j1) >>= _) _ _ _
 refine wpAny_bind (uA (h1.by fun o e=>b1.extBut _ _ D.p e) (hl1.by fun o e=>b1.extBut _ _ c1z e) hx fun g2 i2 b2=>wpAny_pure ?_)
 have o2:IsPair g2 to u1 u2:=b2.extBut _ _ D.op (b1.extBut _ _ D.o hO)
 refine wpAny_bind (wpAny_seqItems o2 rfl ?_)
 refine wpAny_bind (wpAny_updateSeq_pair o2 fun g3 o3 b3=>?_)
 have o3:IsPair g3 to x u2:=o3
 refine wpAny_bind (wpAny_letGo (wpAny_pure ?_))
 refine wpAny_bind (wpAny_bind (wpAny_onRaise ?_))
 show wpAny (model prog w) _ (Builtin.SmallTypes.nextOf (.ref j2) >>= _) _ _ _
 refine wpAny_bind (uA (h2.by fun o e=>b3.extBut _ _ D.oq.symm (b2.extBut _ _ D.pq.symm (b1.extBut _ _ D.q e))) (hl2.by fun o e=>b3.extBut _ _ c2o (b2.extBut _ _ c2p (b1.extBut _ _ c2z e))) hy fun g4 i4 b4=>wpAny_pure ?_)
 have o4:IsPair g4 to x u2:=b4.extBut _ _ D.oq o3
 refine wpAny_bind (wpAny_seqItems o4 rfl ?_)
 refine wpAny_bind (wpAny_updateSeq_pair o4 fun g5 o5 b5=>?_)
 have o5:IsPair g5 to x y:=o5
 refine wpAny_bind (wpAny_letGo (wpAny_pure (wpAny_pure ?_)))
 refine wpAny_bind (wpAny_seqItems o5 rfl ?_)
 refine wpAny_bind (wpAny_newTuple ?_)
 have hsz:g5.objs.size=s.heap.objs.size:=by rw[b5.1,b4.1,b3.1,b2.1,b1.1]
 have z5:IsZip g5 z ti to .ellipsis:=b5.extBut _ _ D.o.symm (b4.extBut _ _ D.q.symm (b3.extBut _ _ D.o.symm (b2.extBut _ _ D.p.symm z1)))
 have hk5:∀c o,c≠z->c≠to->c≠j1->c≠j2->s.heap.get? c=some o->g5.get? c=some o:=fun c o n1 n2 n3 n4 e=>b5.extBut _ _ n2 (b4.extBut _ _ n4 (b3.extBut _ _ n2 (b2.extBut _ _ n3 (b1.extBut _ _ n1 e))))
 have i5:ItAt k1 g5 j1 a1 (n+1):=i2.by fun o e=>b5.extBut _ _ D.op.symm (b4.extBut _ _ D.pq (b3.extBut _ _ D.op.symm e))
 have j5:ItAt k2 g5 j2 a2 (n+1):=i4.by fun o e=>b5.extBut _ _ D.oq.symm e
 have zlt:z<g5.objs.size:=Heap.lt_size z5
 show wpAny (model prog w) _ (Builtin.SmallTypes.ownedTupleHandOut (.ref z) (.ref g5.objs.size) >>= _) _ _ _
 refine wpAny_bind ?_
 unfold Builtin.SmallTypes.ownedTupleHandOut;have z6:IsZip (g5.push {cls:=.type "tuple",data:=.seq #[x,y] }) z ti to .ellipsis:=fP _ z5
 refine wpAny_bind (wpAny_setField_rec z6 Zs fun g7 z7 b7=>?_)
 have z7:IsZip g7 z ti to (rawInt g5.objs.size):=z7
 refine wpAny_setField_rec z7 Zs fun g8 z8 b8=>?_
 have z8:IsZip g8 z ti to (rawInt g5.objs.size):=z8
 have up:∀c o,c≠z->g5.get? c=some o->g8.get? c=some o:=fun c o n1 e=>b8.extBut _ _ n1 (b7.extBut _ _ n1 (fP _ e))
 have t8:IsPair g8 g5.objs.size x y:=b8.extBut _ _ (Nat.ne_of_gt zlt) (b7.extBut _ _ (Nat.ne_of_gt zlt) (Heap.get?_push_size _ rfl))
 have s8:g8.objs.size=g5.objs.size+1:=by rw[b8.1,b7.1,Heap.size_push]
 rw[hsz]at z8 t8 s8;refine wpAny_pure ⟨_,rfl,?_⟩
 show Q (.ref g5.objs.size) _
 rw[hsz];exact hQ g8 ⟨z8,up _ _ D.i (hk5 _ _ D.i D.io D.ip D.iq hI),⟨_,_,up _ _ D.o o5⟩,i5.by fun o e=>up _ o D.p e,j5.by fun o e=>up _ o D.q e⟩ t8 s8 fun c o n1 n2 n3 n4 e=>up c o n1 (hk5 c o n1 n2 n3 n4 e)
theorem Ts {k1 k2:Bool} {z ti to j1 j2 a1 a2:Addr} {n:Nat} {xs ys:Array Value} {Q:Fin->Shared->Prop} (hh:A.handled=none) (D:Mo z ti to j1 j2 a1 a2) (S:Xm k1 k2 s.heap z ti to j1 j2 a1 a2 .none n n)
  (hl1:SeqIn k1 s.heap a1 xs) (hl2:SeqIn k2 s.heap a2 ys) (hend:xs[n]?=none∨ys[n]?=none)
  (hE:∀h' e,(∀c o,c≠z->c≠to->c≠j1->c≠j2->s.heap.get? c=some o->h'.get? c=some o)->(∃o,h'.get? e=some o/\o.cls=.type "StopIteration")->E (.ref e) {s with heap:=h' }) :
  wpAny (model prog w) A (Builtin.«zip.__next__» ⟨[.ref z],[]⟩) Q E s:=by
 obtain⟨hz,hI,⟨u1,u2,hO⟩,h1,h2⟩:=S
 obtain⟨c1z,c1o,c1p,c1q⟩:=D.a a1 (.inl rfl)
 obtain⟨c2z,c2o,c2p,c2q⟩:=D.a a2 (.inr rfl)
 show wpAny (model prog w) _ (field (.ref z) 2 >>= _) _ _ _
 refine wpAny_bind (wpAny_field (x:=.bool false) hz rfl rfl ?_)
 show wpAny (model prog w) _ (field (.ref z) 3 >>= _) _ _ _
 refine wpAny_bind (wpAny_field (x:=.ref ti) hz rfl rfl ?_)
 refine wpAny_bind (wpAny_seqItems hI rfl ?_)
 show wpAny (model prog w) _ (Builtin.SmallTypes.ownedTupleIsFree (.ref z) >>= _) _ _ _
 refine wpAny_bind ?_
 unfold Builtin.SmallTypes.ownedTupleIsFree;refine wpAny_bind (wpAny_field (x:=.none) hz rfl rfl (wpAny_pure ?_))
 simp only [if_true]
 refine wpAny_bind (wpAny_rule ?_)
 refine wpAny_bind (wpAny_field (x:=.ref to) hz rfl rfl ?_)
 refine wpAny_bind (wpAny_setField_rec hz Zs fun g1 z1 b1=>?_)
 have z1:IsZip g1 z ti to .ellipsis:=z1
 refine wpAny_bind ?_
 simp only [List.zipIdx_nil,List.zipIdx_cons,List.forIn_nil,List.forIn_cons]
 refine wpAny_bind (wpAny_bind (wpAny_onRaise ?_))
 show wpAny (model prog w) _ (Builtin.SmallTypes.nextOf (.ref j1) >>= _) _ _ _
 cases hx:xs[n]? with
 | none=>
  refine wpAny_bind (Gq hh (h1.by fun o e=>b1.extBut _ _ D.p e) (hl1.by fun o e=>b1.extBut _ _ c1z e) hx fun g2 e b2 he=>?_)
  obtain⟨oe,hoe,hce⟩:=he
  have z2:IsZip g2 z ti to .ellipsis:=b2 _ _ D.p.symm z1
  have ne:e≠z:=fun(q:e=z)=>by subst q;rw[z2]at hoe;cases hoe;simp at hce
  exact wpAny_setField_rec z2 Zs fun g3 _ b3=>hE g3 e (fun c o n1 _ n3 _ q=>b3.extBut _ _ n1 (b2 _ _ n3 (b1.extBut _ _ n1 q))) ⟨oe,b3.extBut _ _ ne hoe,hce⟩
 | some x=>
  have hy:ys[n]?=none:=hend.resolve_left (by rw[hx];exact fun q=>nomatch q)
  refine wpAny_bind (uA (h1.by fun o e=>b1.extBut _ _ D.p e) (hl1.by fun o e=>b1.extBut _ _ c1z e) hx fun g2 i2 b2=>wpAny_pure ?_)
  have o2:IsPair g2 to u1 u2:=b2.extBut _ _ D.op (b1.extBut _ _ D.o hO)
  refine wpAny_bind (wpAny_seqItems o2 rfl ?_)
  refine wpAny_bind (wpAny_updateSeq_pair o2 fun g3 o3 b3=>?_)
  refine wpAny_bind (wpAny_letGo (wpAny_pure ?_))
  refine wpAny_bind (wpAny_bind (wpAny_onRaise ?_))
  show wpAny (model prog w) _ (Builtin.SmallTypes.nextOf (.ref j2) >>= _) _ _ _
  refine wpAny_bind (Gq hh (h2.by fun o e=>b3.extBut _ _ D.oq.symm (b2.extBut _ _ D.pq.symm (b1.extBut _ _ D.q e))) (hl2.by fun o e=>b3.extBut _ _ c2o (b2.extBut _ _ c2p (b1.extBut _ _ c2z e))) hy fun g4 e b4 he=>?_)
  obtain⟨oe,hoe,hce⟩:=he
  have z4:IsZip g4 z ti to .ellipsis:=b4 _ _ D.q.symm (b3.extBut _ _ D.o.symm (b2.extBut _ _ D.p.symm z1))
  have ne:e≠z:=fun(q:e=z)=>by subst q;rw[z4]at hoe;cases hoe;simp at hce
  exact wpAny_setField_rec z4 Zs fun g5 _ b5=>hE g5 e (fun c o n1 n2 n3 n4 q=>b5.extBut _ _ n1 (b4 _ _ n4 (b3.extBut _ _ n2 (b2.extBut _ _ n3 (b1.extBut _ _ n1 q))))) ⟨oe,b5.extBut _ _ ne hoe,hce⟩
end
section
variable {X:Cx} {pins:List (Addr × Obj)} {σ:List (Option V)} {H:Hp} {s:Shared} {h':Heap}
theorem Inv.turnLaid {t':Nat} {ch:List Addr} {a:Addr} {o:HO} (I:Inv X pins σ H s) (hf:∀b∈ch,lY X pins H b) (k:∀b u,b∉ch->s.heap.get? b=some u->h'.get? b=some u) (hp:s.heap.objs.size<=a) (new:ObjOk X.prog X.w (aJ H a o) h' a o) :
  Inv X pins σ (aJ H a o) {s with heap:=h',toks:=t' }:=by
 have hn:=I.hok.fresh hp
 have nch:∀b u,H b=some u->b∉ch:=fun b u e z=>by rw[(hf b z).1]at e;cases e
 refine I.step (g':=s.gens) (d':=s.drawn) (ch:=ch) (fun b hb=>⟨(hf b hb).2.2.2.1,(hf b hb).2.1,(hf b hb).2.2.2.2.1,(hf b hb).2.2.2.2.2⟩) (fun b u _ _ hc e _=>k b u hc e) (fun b u _ _ hc e _=>⟨u.slots,k b u hc e⟩)
  (fun b u _ e n=>by rw[aD (Nat.ne_of_lt (Nat.lt_of_lt_of_le (Heap.lt_size e) hp))];exact n) (fun b u hc e=>⟨u,k b u hc e⟩) (fun b xs e=>by rw[aD (aE e hn)];exact e) (fun b v u e=>by rw[aD (aE e hn)];exact e)
  (fun b ps e=>⟨#[],by rw[aD (aE e hn),e];simp⟩) (fun m hm=>?_) (fun b u e=>?_) I.bare
 ·obtain⟨u,es,ep,ho,r⟩:=hm
  exact⟨u,es,ep,k _ u (fun z=>(hf _ z).2.1 rfl) ho,r⟩
 ·by_cases hb:b=a
  ·subst hb;rw[aA]at e;cases e;exact new
  ·rw[aD hb]at e;refine(I.hok b u e).stay (fun c v hc q=>k c v ?_ q) (fun c q=>by rw[aD (aE q hn)];exact q) fun c xs q=>by rw[aD (aE q hn)];exact q
   rcases hc with z | z
   ·rw[z];exact nch b u e
   ·exact nch c _ z
theorem Inv.turnL {t':Nat} {ch:List Addr} (I:Inv X pins σ H s) (hf:∀b∈ch,lY X pins H b) (k:∀b u,b∉ch->s.heap.get? b=some u->h'.get? b=some u):Inv X pins σ H {s with heap:=h',toks:=t' }:=by
 have nch:∀b u,H b=some u->b∉ch:=fun b u e z=>by rw[(hf b z).1]at e;cases e
 refine I.step (g':=s.gens) (d':=s.drawn) (ch:=ch) (fun b hb=>⟨(hf b hb).2.2.2.1,(hf b hb).2.1,(hf b hb).2.2.2.2.1,(hf b hb).2.2.2.2.2⟩) (fun b u _ _ hc e _=>k b u hc e) (fun b u _ _ hc e _=>⟨u.slots,k b u hc e⟩)
  (fun _ _ _ _ n=>n) (fun b u hc e=>⟨u,k b u hc e⟩) (fun _ _ e=>e) (fun _ _ _ e=>e) (fun b ps e=>⟨#[],by rw[e];simp⟩) (fun m hm=>?_) (fun b u e=>?_) I.bare
 ·obtain⟨u,es,ep,ho,r⟩:=hm
  exact⟨u,es,ep,k _ u (fun z=>(hf _ z).2.1 rfl) ho,r⟩
 ·refine(I.hok b u e).stay (fun c v hc q=>k c v ?_ q) (fun _ q=>q) fun _ _ q=>q
  rcases hc with z | z
  ·rw[z];exact nch b u e
  ·exact nch c _ z
end
def xS (K:W.Frag) (k:Bool) (H:Hp) (a:Addr) (xs:List V):Prop:=match k with | true=>SqL K H a xs | false=>SqT K H a xs
def Yl (K:W.Frag) (k1 k2:Bool) (a1 a2:Addr):It:=
  ⟨fun i H=>∃xs ys x y,xS K k1 H a1 xs/\xS K k2 H a2 ys/\xs[i]?=some x/\ys[i]?=some y,
   fun i H v H'=>∃t x y,H t=none/\v=.ref t/\H'=aJ H t (.tup [x,y])/\(∀xs,xS K k1 H a1 xs->xs[i]?=some x)/\∀ys,xS K k2 H a2 ys->ys[i]?=some y,
   fun i H=>∃xs ys,xS K k1 H a1 xs/\xS K k2 H a2 ys/\(xs.length<=i∨ys.length<=i)⟩
theorem Inv.sqk {X:Cx} {pins:List (Addr × Obj)} {σ:St} {H:Hp} {s:Shared} (I:Inv X pins σ H s) {k:Bool} {a:Addr} {xs:List V} (h:xS X.K k H a xs):∃its,Vals xs its/\SeqIn k s.heap a its.toArray:=by
 cases k
 ·obtain⟨its,r,p,_⟩:=I.tuple h
  exact⟨its,r,p⟩
 ·obtain⟨its,r,p,_⟩:=I.list h
  exact⟨its,r,p.isList⟩
theorem Inv.sqk_inj {X:Cx} {pins:List (Addr × Obj)} {σ:St} {H:Hp} {s:Shared} (I:Inv X pins σ H s) {k:Bool} {a:Addr} {xs ys:List V} (h:xS X.K k H a xs) (h2:xS X.K k H a ys):xs=ys:=by
 cases k
 ·exact I.tuple_inj h h2
 ·exact I.list_inj h h2
theorem Gr {P:Program} {w:World} {K:W.Frag} {es:List Expr} {n:Nat} {pos:Pos} {k1 k2:Bool} {z ti to j1 j2 a1 a2:Addr} (D:Mo z ti to j1 j2 a1 a2) :
  sP P w K (.Tuple es n pos) (Yl K k1 k2 a1 a2) [z,ti,to,j1,j2] z (fun i h=>Xm k1 k2 h z ti to j1 j2 a1 a2 .none i i) where
 mem:=by simp
 obj:=fun i h st b hb=>by
  obtain⟨u1,u2,hO⟩:=st.o
  obtain⟨o1,e1,_,d1⟩:=st.x
  obtain⟨o2,e2,_,d2⟩:=st.y
  simp only [List.mem_cons,List.not_mem_nil,or_false]at hb
  rcases hb with rfl | rfl | rfl | rfl | rfl
  ·exact⟨_,st.z,fun v q=>by have q':Data.fields _=Data.cell v:=q;cases q'⟩
  ·exact⟨_,st.i,fun v q=>by have q':Data.seq _ _=Data.cell v:=q;cases q'⟩
  ·exact⟨_,hO,fun v q=>by have q':Data.seq _ _=Data.cell v:=q;cases q'⟩
  ·exact⟨_,e1,fun v q=>by rw[d1]at q;cases q⟩
  ·exact⟨_,e2,fun v q=>by rw[d2]at q;cases q⟩
 keep:=fun i h h' st g=>by
  obtain⟨u1,u2,hO⟩:=st.o
  exact⟨g z Zs _ st.z,g ti Zs _ st.i,⟨u1,u2,g to Zs _ hO⟩,st.x.by fun o e=>g j1 Zs o e,st.y.by fun o e=>g j2 Zs o e⟩
 item:=by
  intro X hP hw hK hc i pins s σ H E I hf st hg;subst hP hw hK;obtain⟨xs,ys,x,y,hx,hy,ex,ey⟩:=hg
  obtain⟨its,rv,p⟩:=I.sqk hx
  obtain⟨jts,rw',p'⟩:=I.sqk hy
  obtain⟨u,hu,ru⟩:=rv.get ex
  obtain⟨v,hv,rv'⟩:=rw'.get ey
  have hT:s.TypeIs (.ref z) "zip":=⟨_,st.z,rfl⟩
  unfold pyNext;refine wpAny_bind (wpAny_attempt (wpAny_callSpecial?_slot (name:=Str.ofString "__next__") hT F.slot_zip_next (wpAny_call_entry F.slot_zip_next hT F.entry_zip_next (Mp D st p p' (by simpa using hu) (by simpa using hv) fun h1 st1 t1 z1 k1'=>wpAny_pure ?_) (F.args_zip_next_1 _))))
  refine⟨_,rfl,?_⟩
  refine wpAny_letOwnedTupleGo_zip st1.z fun h2 z2 b2=>?_
  obtain⟨w1,w2,hO⟩:=st1.o
  have zlt:z<s.heap.objs.size:=Heap.lt_size st.z
  have t2:IsPair h2 s.heap.objs.size u v:=b2.extBut _ _ (Nat.ne_of_gt zlt) t1
  refine⟨.ref s.heap.objs.size,aJ H s.heap.objs.size (.tup [x,y]),I.turnLaid (t':=s.toks) hf (fun b o hb e=>?_) (bM _) ⟨by show 2<=sizeLine;decide,[u,v],.cons ru (.cons rv' .nil),⟨_,t2,rfl,_,rfl⟩⟩,rfl,?_,?_,fun b hb=>?_⟩
  ·have hb':b≠z/\b≠ti/\b≠to/\b≠j1/\b≠j2:=by simpa using hb
   exact b2.extBut _ _ hb'.1 (k1' b o hb'.1 hb'.2.2.1 hb'.2.2.2.1 hb'.2.2.2.2 e)
  ·exact⟨s.heap.objs.size,x,y,I.hok.fresh (bM _),rfl,rfl,fun zs hz=>by rw[I.sqk_inj hz hx];exact ex,fun zs hz=>by rw[I.sqk_inj hz hy];exact ey⟩
  ·exact⟨z2,b2.extBut _ _ D.i st1.i,⟨_,_,b2.extBut _ _ D.o hO⟩,st1.x.by fun o e=>b2.extBut _ _ D.p e,st1.y.by fun o e=>b2.extBut _ _ D.q e⟩
  ·have hlt:b<s.heap.objs.size:=by
    obtain⟨u1,u2,hO'⟩:=st.o
    obtain⟨o1,e1,_⟩:=st.x
    obtain⟨o2,e2,_⟩:=st.y
    simp only [List.mem_cons,List.not_mem_nil,or_false]at hb
    rcases hb with rfl | rfl | rfl | rfl | rfl
    ·exact zlt
    ·exact Heap.lt_size st.i
    ·exact Heap.lt_size hO'
    ·exact Heap.lt_size e1
    ·exact Heap.lt_size e2
   rw[aD (Nat.ne_of_lt hlt)];exact(hf b hb).1
 done:=by
  intro X hP hw hK hc i pins s σ H E I hf st hg;subst hP hw hK;obtain⟨xs,ys,hx,hy,he⟩:=hg
  obtain⟨its,rv,p⟩:=I.sqk hx
  obtain⟨jts,rw',p'⟩:=I.sqk hy
  have hT:s.TypeIs (.ref z) "zip":=⟨_,st.z,rfl⟩
  have l1:=rv.length
  have l2:=rw'.length
  unfold pyNext;refine wpAny_bind (wpAny_attempt (wpAny_callSpecial?_slot (name:=Str.ofString "__next__") hT F.slot_zip_next (wpAny_call_entry F.slot_zip_next hT F.entry_zip_next (Ts (I.ok.hd hc) D st p p' (he.imp (fun h=>by simp;omega) (fun h=>by simp;omega)) fun h1 e k1' hx'=>?_) (F.args_zip_next_1 _))))
  obtain⟨o,ho,hcl⟩:=hx'
  refine wpAny_bind (wpAny_isInstance (T:="StopIteration") (b:=true) ⟨o,ho,hcl⟩ isSubtype_stop ?_)
  refine wpAny_pure ⟨rfl,I.turnL (t':=s.toks) hf fun b u hb e'=>?_⟩
  have hb':b≠z/\b≠ti/\b≠to/\b≠j1/\b≠j2:=by simpa using hb
  exact k1' b u hb'.1 hb'.2.2.1 hb'.2.2.2.1 hb'.2.2.2.2 e'
 self:=fun _ _ _ _ _ st h=>wpAny_pyIter_zip st.z h
def Uy (k1 k2:Bool) (h:Heap) (a1 a2:Addr):Heap:=
 ((((h.push (lD k1 a1)).push (lD k2 a2)).push {cls:=.type "tuple",data:=.seq #[.ref h.objs.size,.ref (h.objs.size+1)] }).push {cls:=.type "tuple",data:=.seq #[.none,.none] }).push {cls:=.type "zip",data:=.fields #[.none,.bool false,.bool false,.ref (h.objs.size+2),.ref (h.objs.size+3)] }
theorem Tt (k1 k2:Bool) (a1 a2:Addr) (xs ys:Array Value) :
  Meets (Builtin.«zip.__new__» ⟨[.type "zip",.ref a1,.ref a2],[]⟩) (fun _ R s=>SeqIn k1 s.heap a1 xs/\SeqIn k2 s.heap a2 ys/\R (.ok (.ret (.ref (s.heap.objs.size+4)))) {s with heap:=Uy k1 k2 s.heap a1 a2 }):=
 .of_wp fun prog w A R s h=>by
  obtain⟨hp,g,d,tk,os⟩:=s;obtain⟨hl1,hl2,h⟩:=h
  have hsub:=sub_zip
  have L1:SeqIn k1 (Shared.heap ⟨hp,g,d,tk,os⟩) a1 xs:=hl1
  have L2:SeqIn k2 (Shared.heap ⟨hp.push (lD k1 a1),g,d,tk,os⟩) a2 ys:=SeqIn.by hl2 fun o e=>fP _ e
  wp_walk using Gp L1,Gp L2
  refine⟨_,rfl,?_⟩
  simp only [Heap.size_push]
  exact h
theorem Tu {n a1 a2:Addr} (h1:a1<n) (h2:a2<n):Mo (n+4) (n+2) (n+3) n (n+1) a1 a2 where
 i:=Nat.ne_of_lt (Nat.add_lt_add_left Zd n)
 o:=Nat.ne_of_lt (Nat.add_lt_add_left Zd n)
 p:=Nat.ne_of_lt (Nat.lt_add_of_pos_right Zd)
 q:=Nat.ne_of_lt (Nat.add_lt_add_left Zd n)
 io:=Nat.ne_of_lt (Nat.add_lt_add_left Zd n)
 ip:=Nat.ne_of_gt (Nat.lt_add_of_pos_right Zd)
 iq:=Nat.ne_of_gt (Nat.add_lt_add_left Zd n)
 op:=Nat.ne_of_gt (Nat.lt_add_of_pos_right Zd)
 oq:=Nat.ne_of_gt (Nat.add_lt_add_left Zd n)
 pq:=Nat.ne_of_lt (Nat.lt_add_of_pos_right Zd)
 a:=fun b hb=>by
  have hlt:b<n:=by rcases hb with rfl | rfl <;> assumption
  exact⟨Nat.ne_of_lt (Nat.lt_of_lt_of_le hlt (Nat.le_add_right n 4)),Nat.ne_of_lt (Nat.lt_of_lt_of_le hlt (Nat.le_add_right n 3)),Nat.ne_of_lt hlt,Nat.ne_of_lt (Nat.lt_of_lt_of_le hlt (Nat.le_add_right n 1))⟩
section
variable {prog:Program} {w:World} {A:Around} {E:Value->Shared->Prop} {s:Shared}
theorem Mq {k1 k2:Bool} {a1 a2:Addr} {xs ys:Array Value} {Q:Value->Shared->Prop} (hl1:SeqIn k1 s.heap a1 xs) (hl2:SeqIn k2 s.heap a2 ys)
  (h:∀h',Xm k1 k2 h' (s.heap.objs.size+4) (s.heap.objs.size+2) (s.heap.objs.size+3) s.heap.objs.size (s.heap.objs.size+1) a1 a2 .none 0 0->(∀c o,s.heap.get? c=some o->h'.get? c=some o)->Q (.ref (s.heap.objs.size+4)) {s with heap:=h' }) :
  wpAny (model prog w) A (call (.type "zip") [.ref a1,.ref a2]) Q E s:=by
 refine callType_new F.called_zip Zd (F.typeCall_zip_2 _ _) (F.newCall_zip_2 _ _) (fun obj=>F.args_object_init_3 obj _ _) F.entry_zip_new (Tt k1 k2 a1 a2 xs ys) ⟨hl1,hl2,?_⟩
 have n1:(s.heap.push (lD k1 a1)).objs.size=s.heap.objs.size+1:=Heap.size_push ..
 have n2:((s.heap.push (lD k1 a1)).push (lD k2 a2)).objs.size=s.heap.objs.size+2:=by rw[Heap.size_push,n1]
 have up:∀ {o1 o2 o3 o4 o5:Obj} {b:Addr} {o:Obj},s.heap.get? b=some o->(((((s.heap.push o1).push o2).push o3).push o4).push o5).get? b=some o:=fun e=>fP _ (fP _ (fP _ (fP _ (fP _ e))))
 have at5:∀ {h0:Heap} {o:Obj} {n:Nat},h0.objs.size=n->o.isFreed=false->(h0.push o).get? n=some o:=fun e f=>by subst e;exact Heap.get?_push_size _ f
 have g1:(Uy k1 k2 s.heap a1 a2).get? s.heap.objs.size=some (lD k1 a1):=fP _ (fP _ (fP _ (fP _ (Heap.get?_push_size _ rfl))))
 have g2:(Uy k1 k2 s.heap a1 a2).get? (s.heap.objs.size+1)=some (lD k2 a2):=fP _ (fP _ (fP _ (at5 n1 rfl)))
 have g3:IsPair (Uy k1 k2 s.heap a1 a2) (s.heap.objs.size+2) (.ref s.heap.objs.size) (.ref (s.heap.objs.size+1)):=fP _ (fP _ (at5 n2 rfl))
 have g4:IsPair (Uy k1 k2 s.heap a1 a2) (s.heap.objs.size+3) .none .none:=fP _ (at5 (by rw[Heap.size_push,n2]) rfl)
 have g5:IsZip (Uy k1 k2 s.heap a1 a2) (s.heap.objs.size+4) (s.heap.objs.size+2) (s.heap.objs.size+3) .none:=at5 (by rw[Heap.size_push,Heap.size_push,n2]) rfl
 exact⟨⟨_,g5,rfl⟩,h _ ⟨g5,g3,⟨_,_,g4⟩,⟨_,g1,rfl,rfl⟩,⟨_,g2,rfl,rfl⟩⟩ fun c o e=>up e⟩
end
section
variable {X:Cx} {a b:Expr} {ta tb:TE} {p pos tpos:Pos} {es:List Expr} {n:Nat}
def Xn (K:W.Frag) (ta tb:TE):TI:=fun σ H R=>ta σ H fun x H1=>tb σ H1 fun y H2=>mR x fun a1=>mR y fun a2=>∃k1 k2 xs ys,xS K k1 H2 a1 xs/\xS K k2 H2 a2 ys/\R (Yl K k1 k2 a1 a2) H2
theorem Gs:bootBuiltins "zip"=some (.type "zip"):=by decide +kernel
theorem Tv (hg:Gl X "zip") (hm:X.mg "zip"=none) (ha:PE X a ta) (hb:PE X b tb) (h1:aQ a=true) (h2:aQ b=true):PI X (.Tuple es n tpos) (.Call (.Name "zip" p) [a,b] [] pos) (Xn X.K ta tb):=by
 intro pins s σ H R I h;have hs:starEach [a,b] X.env=[(false,eval a X.env),(false,eval b X.env)]:=by rw[bK h1,bK h2];rfl
 have hs2:starEach [b] X.env=[(false,eval b X.env)]:=by rw[bK h2];rfl
 have hA:PA X [a,b] (jB ta (jB tb sV)):=tN ha (tN hb sW h2) h1
 refine Call_ (lX I hg hm Gs (PyProof.Rows.callWith_type1 (bV (hA pos pins s σ H (fun vs H2=>match vs with | [x,y]=>(mR x fun a1=>mR y fun a2=>∃k1 k2 xs ys,xS X.K k1 H2 a1 xs/\xS X.K k2 H2 a2 ys/\R (Yl X.K k1 k2 a1 a2) H2) | _=>False) I ?_) fun us s1 ⟨vs,H1,I1,r1,q1⟩=>?_) (by rw[hs,hs2]) (by rw[hs2];rfl)))
 ·exact h
 ·dsimp only at q1
  split at q1
  rotate_left
  ·exact q1.elim
  rename_i x y
  rw[dU]at q1;obtain⟨a1,rfl,q1⟩:=q1
  rw[dU]at q1;obtain⟨a2,rfl,k1,k2,xs,ys,q2,q3,q⟩:=q1
  cases r1 with
  | cons r rr=>
   cases rr with
   | cons r' rr=>
    cases rr
    cases r
    cases r'
    obtain⟨its,rv,p1⟩:=I1.sqk q2
    obtain⟨jts,rw',p2⟩:=I1.sqk q3
    refine Mq p1 p2 fun h' S k=>?_
    have I2:Inv X pins σ H1 {s1 with heap:=h' }:=I1.kept (t':=s1.toks) k
    refine wpAny_pyIter_zip (s:={s1 with heap:=h' }) S.z ?_
    refine⟨s1.heap.objs.size+4,_,_,_,H1,rfl,I2,Gr (Tu p1.lt p2.lt),S,fun b hb=>?_,q⟩
    have hb':s1.heap.objs.size<=b:=by
     simp only [List.mem_cons,List.not_mem_nil,or_false]at hb
     rcases hb with rfl | rfl | rfl | rfl | rfl
     ·exact Nat.le_add_right _ 4
     ·exact Nat.le_add_right _ 2
     ·exact Nat.le_add_right _ 3
     ·exact bM _
     ·exact Nat.le_add_right _ 1
    exact I1.fpOk hb' (I1.hok.fresh hb')
theorem R.ia {K:W.Frag} (hg:Gl X "zip") (hm:X.mg "zip"=none) (ha:XE X a ta) (hb:XE X b tb) (hK:X.K=K:=by rfl) (h1:aQ a=true:=by rfl) (h2:aQ b=true:=by rfl):XI X (.Tuple es n tpos) (.Call (.Name "zip" p) [a,b] [] pos) (Xn K ta tb):=
 hK ▸ ⟨Tv hg hm ha.h hb.h h1 h2⟩
end
theorem Gu {K:W.Frag} {k1 k2:Bool} {a1 a2:Addr} {xs ys:List V} {js:List (Option Nat)} {g:TG} {tt:TT} {te:TE} {σ:St} {H:Hp} {Q:List V->Hp->Prop} (hz:xs.length<=100000) (Pv:Nat->List V->Hp->Prop) (hA:∀i zs H,Pv i zs H->xS K k1 H a1 xs/\xS K k2 H a2 ys/\zs.length<=i) (h0:Pv 0 [] H)
  (hs:∀i x y zs H t,xs[i]?=some x->ys[i]?=some y->Pv i zs H->H t=none->g (.ref t) (qO js σ) (aJ H t (.tup [x,y])) fun σ2 H2=>tt σ2 H2 fun b H3=>if b=true then te σ2 H3 fun v H4=>Pv (i+1) (zs++[v]) H4 else Pv (i+1) zs H3)
  (hd:∀zs H,Pv (min xs.length ys.length) zs H->Q zs H):kI js g tt te σ (Yl K k1 k2 a1 a2) H Q:=by
 refine⟨fun i m zs H=>m=min xs.length ys.length - i/\i<=min xs.length ys.length/\Pv i zs H,⟨_,rfl,Nat.zero_le _,h0⟩,?_⟩
 rintro i m zs H ⟨rfl,hi,p⟩
 obtain⟨q1,q2,q3⟩:=hA i zs H p
 by_cases hlt:i<min xs.length ys.length
 ·have l1:i<xs.length:=Nat.lt_of_lt_of_le hlt (Nat.min_le_left _ _)
  have l2:i<ys.length:=Nat.lt_of_lt_of_le hlt (Nat.min_le_right _ _)
  refine .inr ⟨⟨xs,ys,xs[i],ys[i],q1,q2,by simp [l1],by simp [l2]⟩,oK (m:=100000) Zo Zd,Pv (i+1),fun zs' H' p'=>⟨_,Zo,rfl,hlt,p'⟩,fun v H' y=>?_⟩
  obtain⟨t,x,y,ht,rfl,rfl,e1,e2⟩:=y
  exact hs i x y zs H t (e1 xs q1) (e2 ys q2) p ht
 ·have e:i=min xs.length ys.length:=by omega
  subst e;exact .inl ⟨⟨xs,ys,q1,q2,Zo⟩,hd zs H p⟩
end L2
namespace L2
open PySem PySem.Spec PyProof.Rows
def nU (x:V) (zs:List Str):Bool:=match x with | .str z=>decide (z∈zs) | _=>false
section
variable {X:Cx}
theorem Cl (A:Around):A.in1.units=A.units+1:=rfl
def hJ (xs ys:List V):Bool:=(List.range (min xs.length ys.length)).all (fun j=>uP (xs.getD j .non) (ys.getD j .non))&&xs.length == ys.length
end
def Ym:Option aT->Value->Bool
 | none,.none=>true
 | none,_=>false
 | some k,v=>kH k v
theorem cS:∀ {k:Option aT} {v:Value},Ym k v=true->(k=none/\v=.none)∨∃j,k=some j/\kH j v=true
 | none,v,h=>by cases v <;> first | exact .inl ⟨rfl,rfl⟩ | exact absurd (show false=true from h) Bool.false_ne_true
 | some j,v,h=>.inr ⟨j,rfl,h⟩
theorem pG {j:aT}:kH j .none=false:=by cases j <;> rfl
def vN:Int:=4238894112
section
variable {prog:Program} {w:World} {A:Around} {E:Value->Shared->Prop} {s:Shared}
theorem Cm {Q:Int->Shared->Prop} (h:Q vN {s with toks:=s.toks+1 }):wpAny (model prog w) A (PySem.pyHash .none) Q E s:=by
 have hT:s.TypeIs Value.none "NoneType":=rfl
 unfold PySem.pyHash;refine wpAny_bind ?_
 rw[cRoomFor,if_neg (show ¬ ([Value.none].any Value.onHeap=true) from Bool.false_ne_true)];refine wpAny_pure ?_
 refine wpAny_bind (wpAny_specialOf hT PySem.F.slot_NoneType_hash.lookup ?_)
 show wpAny (model prog w) A (if (some (Value.builtin "NoneType.__hash__") == some Value.none)=true then _ else _) Q E s
 rw[if_neg (show ¬ ((some (Value.builtin "NoneType.__hash__") == some Value.none)=true) from Bool.false_ne_true)];refine wpAny_bind (wpAny_specialOf hT PySem.F.slot_NoneType_hash.lookup ?_)
 show wpAny (model prog w) A (callSpecialIfBoundUnlessNone? Value.none "__hash__" _ >>= _) Q E s
 refine wpAny_bind (wpAny_callSpecialIfBoundUnlessNone?_slot hT PySem.F.slot_NoneType_hash (wpAny_call_entry PySem.F.slot_NoneType_hash hT PySem.F.entry_NoneType_hash (show wpAny (model prog w) _ (do ret (← mkInt vN)) _ _ s from wpAny_ret_mkInt ?_) (PySem.F.args_NoneType_hash_1 _)))
 show wpAny (model prog w) A (if (decide (-(2:Int) ^ 63<=vN)&&decide (vN<2 ^ 63))=true then _ else _) Q E _
 rw[if_pos Zd]
 exact wpAny_pure h
end
def Gv (prog:Program) (w:World):PySem.KeyKind prog w (Option aT) where
 is:=Ym
 hash:=fun k=>match k with | none=>vN | some j=>Va w j
 inj:=fun v a b ha hb=>by
  rcases cS ha with⟨rfl,rfl⟩ | ⟨i,rfl,h1⟩
  ·rcases cS hb with⟨rfl,_⟩ | ⟨j,rfl,h2⟩
   ·rfl
   ·rw[pG]at h2;cases h2
  ·rcases cS hb with⟨rfl,rfl⟩ | ⟨j,rfl,h2⟩
   ·rw[pG]at h1;cases h1
   ·rw[(aV prog w).inj v i j h1 h2]
 byValue:=fun k v h=>by
  rcases cS h with⟨rfl,rfl⟩ | ⟨i,rfl,h1⟩
  ·rfl
  ·exact(aV prog w).byValue i v h1
 pyHash:=fun {A E s k v Q} hv h=>by
  rcases cS hv with⟨rfl,rfl⟩ | ⟨i,rfl,h1⟩
  ·exact Cm h
  ·exact(aV prog w).pyHash h1 h
 eqBool:=fun {A E s a b u v Q} hu hv h=>by
  rcases cS hu with⟨rfl,rfl⟩ | ⟨i,rfl,h1⟩
  ·rcases cS hv with⟨rfl,rfl⟩ | ⟨j,rfl,h2⟩
   ·exact SeqAt.EqAt.same _ _ _ _ _ (by simpa using h)
   ·have h':Q false s:=by simpa using h
    rcases bQ h2 with⟨n,t,rfl,rfl⟩ | ⟨x,t,rfl,rfl⟩
    ·exact SeqAt.EqAt.none_int n t _ _ _ _ h'
    ·exact SeqAt.EqAt.none_str x t _ _ _ _ h'
  ·rcases cS hv with⟨rfl,rfl⟩ | ⟨j,rfl,h2⟩
   ·have h':Q false s:=by simpa using h
    rcases bQ h1 with⟨n,t,rfl,rfl⟩ | ⟨x,t,rfl,rfl⟩
    ·exact SeqAt.EqAt.int_none n t _ _ _ _ h'
    ·exact SeqAt.EqAt.str_none x t _ _ _ _ h'
   ·refine(aV prog w).eqBool h1 h2 ?_
    have e:decide (some i=some j)=decide (i=j):=by simp
    rw[<- e];exact h
 «strs»:=fun k x t v h=>by
  rcases cS h with⟨rfl,e⟩ | ⟨i,rfl,h1⟩
  ·cases e
  ·exact(aV prog w).strs i x t v h1
theorem Gw {prog:Program} {w:World} {h:Heap} {a:Addr} {f:aT->Option Value} (m:h.MapOf (aV prog w) a f):∃g:Option aT->Option Value,h.MapOf (Gv prog w) a g/\g none=none:=by
 obtain⟨o,es,ep,ho,hx,hd,hk,hf⟩:=m
 refine⟨_,⟨o,es,ep,ho,hx,hd,fun e he=>?_,fun k=>rfl⟩,?_⟩
 ·obtain⟨k,h1,h2⟩:=hk e he
  exact⟨some k,h1,h2⟩
 ·show findBy Ym es none=none
  unfold findBy;have:es.find? (fun e=>Ym none e.key)=none:=by
   rw[Array.find?_eq_none];intro e he z;obtain⟨k,h1,h2⟩:=hk e he
   rcases cS z with⟨_,e1⟩ | ⟨_,e1,_⟩
   ·rw[e1]at h1;have h1':kH k .none=true:=h1
    rw[pG]at h1';cases h1'
   ·cases e1
  rw[this];rfl
section
variable {X:Cx}
def Tw (neg:Bool):R2:=fun x y H Q=>mR y fun a=>match x with
 | .non=>(∃kvs,H a=some (.dK kvs))/\Q (.bl neg) H
 | .str z=>∃kvs,H a=some (.dK kvs)/\Q (.bl (if neg then !(bE kvs (Sum.inr z)).isSome else (bE kvs (Sum.inr z)).isSome)) H
 | _=>False
theorem Tx (neg:Bool) (hu:X.A.units+1<cLine):OpR X (compareOp (if neg then .NotIn else .In)) (Tw neg):=by
 intro pins s σ H x y v u Q I rx ry h;unfold Tw at h;rw[dU]at h;obtain⟨a,rfl,h⟩:=h
 cases ry
 cases x with
 | non=>
  obtain⟨⟨kvs,e⟩,q⟩:=h
  cases rx
  obtain⟨z,hd,vs,rel,dd⟩:=Ev I.hok e
  obtain⟨g,hm,hg⟩:=Gw dd.mapOf
  cases neg
  ·refine wpAny_in_of (knd:=Gv X.prog X.w) (k:=none) rfl hd hm ⟨.bl _,H,I.tok _,rfl,?_⟩
   rw[hg];exact q
  ·refine wpAny_notIn_of (knd:=Gv X.prog X.w) (k:=none) rfl hd hm ⟨.bl _,H,I.tok _,rfl,?_⟩
   rw[hg];exact q
 | str z=>
  obtain⟨kvs,e,q⟩:=h
  cases neg
  ·exact Wb hu I (DGet.k (k:=Sum.inr z) e) rx fun s' I'=>⟨.bl _,H,I',rfl,q⟩
  ·exact zC hu I (DGet.k (k:=Sum.inr z) e) rx fun s' I'=>⟨.bl _,H,I',rfl,q⟩
 | _=>exact h.elim
theorem R.ib (hu:X.A.units+1<cLine):jC X (compareOp .In) (Tw false):=⟨Tx false hu⟩
end
end L2
namespace L2
open PySem PySem.Spec PyProof.Rows
def Pc (H:Hp) (y:V):Prop:=(dP y=true/\∀z,y=.str z->z.length<=1000)∨(∃a ys,y=.ref a/\(H a=some (.lst ys)∨H a=some (.tup ys)))∨∃a kvs,y=.ref a/\H a=some (.dK kvs)
def Tg (H:Hp) (x:V):Prop:=Pc H x/\∀a xs,x=.ref a->H a=some (.tup xs)->xs.length<=1000/\∀y∈xs,Pc H y
theorem Pc.same {H H':Hp} {y:V} (s:Same H H') (h:Pc H y):Pc H' y:=by
 rcases h with h | ⟨a,ys,e,h⟩ | ⟨a,kvs,e,h⟩
 ·exact .inl h
 ·exact .inr (.inl ⟨a,ys,e,h.imp (s _ _) (s _ _)⟩)
 ·exact .inr (.inr ⟨a,kvs,e,s _ _ h⟩)
theorem Pc.kd {H:Hp} {y:V} (h:Pc H y):∃k,Pf H y k:=by
 rcases h with⟨h,_⟩ | ⟨a,ys,rfl,h | h⟩ | ⟨a,kvs,rfl,h⟩
 ·cases y with
  | non=>exact⟨.non,trivial⟩
  | bl _=>exact⟨.bl,trivial⟩
  | int _=>exact⟨.int,trivial⟩
  | str _=>exact⟨.str,trivial⟩
  | _=>exact absurd (show false=true from h) Bool.false_ne_true
 ·exact⟨.lst,.inl ⟨ys,h⟩⟩
 ·exact⟨.tup,⟨ys,h⟩⟩
 ·exact⟨.dct,⟨kvs,h⟩⟩
theorem Pc.pt {H:Hp} {y:V} (h:Pc H y):Pt H y:=by
 obtain⟨k,hk⟩:=h.kd
 refine⟨k,hk,fun z e=>?_⟩
 subst e;rcases h with⟨_,h⟩ | ⟨_,_,e,_⟩ | ⟨_,_,e,_⟩
 ·exact h z rfl
 ·cases e
 ·cases e
theorem Pc.int {H:Hp} {n:Int}:Pc H (.int n):=.inl ⟨rfl,fun _ e=>nomatch e⟩
theorem Pc.str {H:Hp} {z:Str} (h:z.length<=1000):Pc H (.str z):=.inl ⟨rfl,fun _ e=>by injection e with e;rw[<- e];exact h⟩
theorem Pc.tup {H:Hp} {a:Addr} {ys:List V} (h:H a=some (.tup ys)):Pc H (.ref a):=.inr (.inl ⟨a,ys,rfl,.inr h⟩)
theorem Tg.tup {H:Hp} {a:Addr} {xs:List V} (h:H a=some (.tup xs)) (hl:xs.length<=1000) (hx:∀y∈xs,Pc H y):Tg H (.ref a):=
 ⟨.tup h,fun b ys e g=>by cases e;rw[h]at g;cases g;exact⟨hl,hx⟩⟩
def jM (H:Hp) (x:V):Option (List V):=match x with | .ref a=>(match H a with | some (.tup xs)=>some xs | _=>none) | _=>none
def Pk (xs:List V):V:=match xs with | .str u::_=>.str u | _=>.non
def jN (H:Hp) (x:V):V:=match jM H x with | some xs=>Pk xs | none=>.non
theorem pH {H:Hp} {a:Addr} {xs:List V} (h:H a=some (.tup xs)):jM H (.ref a)=some xs:=by unfold jM;dsimp only;rw[h]
def Gx (wd:Str) (n:Int):List (Str × List (Int × Int)):=
 if wd="pass" then [] else if wd="move" then [("is",[(0,1000000000000 - n),(n,1000000000000)]),("short",[(0,n - 1)]),("full",[(1000000000000 - n+1,1000000000000)])]
 else if wd="take"∨wd="send" then [("is",[(0,1000000000000 - n)]),("short",[(0,n - 1)])] else [("is",[(n,1000000000000)]),("full",[(1000000000000 - n+1,1000000000000)])]
def aW (xs:List V) (bs:List (Int × Int)):Bool:=decide (xs.length=bs.length)&&(xs.zip bs).all fun q=>xR q.2.1 q.2.2 q.1
def Cn (wd:Str) (hs:List Str) (n:Int) (xs:List V):Bool:=match xs with
 | .str u::r=>
  if u="no" then (match r with | [y]=>nU y hs | _=>false)
  else if u="ok" then decide (wd="pass")&&r.isEmpty
  else match (Gx wd n).lookup u with | some bs=>aW r bs | none=>false
 | _=>false
def xT (H:Hp) (wd:Str) (hs:List Str) (n:Int) (x:V):Bool:=match jM H x with | some xs=>Cn wd hs n xs | none=>false
abbrev B2:=Addr × Int × Int
def BAt (H:Hp) (bs:List B2):Prop:=∀z∈bs,H z.1=some (.tup [.int z.2.1,.int z.2.2])
def uB (bs:List B2):List V:=bs.map fun z=>V.ref z.1
def vO (H:Hp) (o:Option (List (Int × Int))) (v:Option V):Prop:=match o with
 | some bs=>∃t zs,v=some (.ref t)/\H t=some (.tup (uB zs))/\BAt H zs/\zs.map (·.2)=bs
 | none=>v=none
theorem BAt.same {H H':Hp} {bs:List B2} (s:Same H H') (h:BAt H bs):BAt H' bs:=fun z hz=>s _ _ (h z hz)
structure DWN (wd:Str) (n:Int) (xs:List V) (as:List (Str × List V)):Prop where
 ex:∃one other nm cs,DW one other nm n wd xs cs as
 nm:∀q∈as,eZ q.1
theorem DWN.dwx {wd:Str} {n:Int} {xs:List V} {as:List (Str × List V)} (h:DWN wd n xs as):∃cs,Pj wd xs cs as:=by
 obtain⟨one,other,nm,cs,hd⟩:=h.ex
 exact⟨cs,one,other,nm,n,hd⟩
def vP:Sp:=fun vs H Q _=>∃x,vs=[x]/\Tg H x/\Q (jN H x) H
def Pl (xs:List V):Bool:=match xs with | [_,y]=>Uw y | _=>false
def Gy:Sp:=fun vs H Q _=>∃a xs,vs=[.ref a]/\H a=some (.tup xs)/\(∀y∈xs,Pc H y)/\∀H',Same H H'->Q (.bl (Pl xs)) H'
def vQ:Sp:=fun vs H Q _=>∃p wd n xs as,vs=[.ref p]/\H p=some (.tup xs)/\DWN wd n xs as/\∀d kvs H',Same H H'->H' d=some (.dK kvs)->(∀u:Str,vO H' ((Gx wd n).lookup u) (bE kvs (Sum.inr u)))->Q (.ref d) H'
def vR:Sp:=fun vs H Q _=>∃a t xs bs,vs=[.ref a,.ref t]/\H a=some (.tup xs)/\xs.length<=1000/\(∀y∈xs,Pc H y)/\H t=some (.tup (uB bs))/\BAt H bs/\∀H',Same H H'->Q (.bl (aW xs (bs.map (·.2)))) H'
def zS:Sp:=fun vs H Q _=>∃p wd n xs as x,vs=[.ref p,x]/\H p=some (.tup xs)/\DWN wd n xs as/\Tg H x/\∀H',Same H H'->Q (.bl (xT H wd (as.map (·.1)) n x)) H'
end L2
namespace L2
open PySem PySem.Spec PyProof.Rows
section
variable {X:Cx} {o:Expr} {to:TE} {p pos apos cpos:Pos}
def Pn:Bh:=fun o i v H Q=>∃a H',o=.ref a/\DPut H a i v H'/\Q H'
theorem Gz (hu:X.A.units+1<cLine):Ke X Pn:=by
 intro pins s σ H o i v ov iv u Q I ro ri rv h;obtain⟨a,H',rfl,g,q⟩:=h
 cases ro
 exact Bz hu I g ri rv fun s' I'=>⟨H',I',q⟩
theorem R.cq (hu:X.A.units+1<cLine):Tc X Pn:=⟨Gz hu⟩
end
end L2
namespace L2
open PySem PySem.Spec PyProof.Rows
def Hj (prs:List (Str × Int)) (n:Str) (v:Int):List (Str × Int):=prs.map fun q=>if q.1=n then (q.1,v) else q
theorem Co (prs:List (Str × Int)) (n:Str) (v:Int):(Hj prs n v).map (·.1)=prs.map (·.1):=by
 unfold Hj;rw[List.map_map];refine List.map_congr_left fun q _=>?_
 show(if q.1=n then (q.1,v) else q).1=q.1
 split <;> rfl
theorem Mr {prs:List (Str × Int)} {n:Str} {v:Int} (h:n∈prs.map (·.1)):bO (lW prs) (Sum.inr n) (.int v)=lW (Hj prs n v):=by
 unfold bO;rw[if_pos (by rw[fR,tY];obtain⟨a,ha⟩:=pE h;rw[ha];rfl)]
 unfold lW Hj;rw[List.map_map,List.map_map];refine List.map_congr_left fun q _=>?_
 show(if (Sum.inr q.1:aT)=Sum.inr n then (Sum.inr q.1,V.int v) else ((Sum.inr q.1:aT),V.int q.2))=((Sum.inr (if q.1=n then (q.1,v) else q).1:aT),V.int (if q.1=n then (q.1,v) else q).2)
 by_cases e:q.1=n
 ·rw[if_pos (by rw[e]),if_pos e]
 ·rw[if_neg (fun z=>e (Sum.inr.inj z)),if_neg e]
def zT (C:Addr):Sp:=fun vs H Q _=>∃(p dx:Addr) (r:V) (prs:List (Str × Int)),vs=[.ref p,r]/\H p=some (.ins C dx [])/\Tp H r prs/\(prs.map (·.1)).Nodup/\prs.length<=1000 ∧
 ∀H' d,H d=none->H' p=some (.ins C dx [("amounts",.ref d)])->H' d=some (.dK (lW prs))->(∀b o,H b=some o->b≠p->H' b=some o)->Q .non H'
end L2
namespace L2
open PySem PySem.Spec PyProof.Rows
section
variable {X:Cx}
def Hk (i j:Int):Prop:=0<j/\j<2 ^ 64
theorem Ms:OpR X (binaryOp .FloorDiv) (m2 Hk fun i j=>.int (i / j)):=(Yf (C:=Hk) (g:=fun i j=>i / j) fun i j _ _ s Q E hc q=>by
 have h1:i.fdiv j=i / j:=Int.fdiv_eq_ediv_of_nonneg _ (by have:=hc.1;omega)
 refine floordiv_int (by have:=hc.1;omega) (by rw[h1];exact q) (.inl (PyProof.noPylong_of_log2 ?_))
 have h2:j.natAbs<2 ^ 64:=by have:=hc.1;have:=hc.2;omega
 exact Nat.lt_of_lt_of_le (Nat.log2_lt (by have:=hc.1;omega) |>.mpr h2) Zd).imp tM
theorem R.gi:jC X (binaryOp .FloorDiv) (m2 Hk fun i j=>.int (i / j)):=⟨Ms⟩
end
def K1 (p:Addr) (H H':Hp):Prop:=∀c o,H c=some o->c≠p->H' c=some o
def KLET:List Nat:=LET++FIG
def vS (z:Str):Prop:=1<=z.length/\z.length<=12/\∀c∈z.cps.toList,c∈KLET
end L2
namespace L2
open PySem PySem.Spec PyProof.Rows
def Uz (K:W.Frag) (a:Addr):It:=
  ⟨fun i H=>∃xs x,SqL K H a xs/\xs[i]?=some x,
   fun i H v H'=>∃t x,H t=none/\v=.ref t/\H'=aJ H t (.tup [.int i,x])/\∀xs,SqL K H a xs->xs[i]?=some x,
   fun i H=>∃xs,SqL K H a xs/\xs.length<=i⟩
structure ESt (h:Heap) (e it a:Addr) (i:Nat):Prop where
 e:∃old,IsEnum h e it i old
 i:h.IsListIter it a i
theorem Cp {P:Program} {w:World} {K:W.Frag} {es:List Expr} {n:Nat} {pos:Pos} {e it a:Addr} (hne:e≠it) (hea:a≠e) (hia:a≠it) :
  sP P w K (.Tuple es n pos) (Uz K a) [e,it] e (fun i h=>ESt h e it a i) where
 mem:=by simp
 obj:=fun i h st b hb=>by
  obtain⟨old,he⟩:=st.e
  obtain⟨o1,e1,_,d1⟩:=st.i
  simp only [List.mem_cons,List.not_mem_nil,or_false]at hb
  rcases hb with rfl | rfl
  ·exact⟨_,he,fun v q=>by have q':Data.fields _=Data.cell v:=q;cases q'⟩
  ·exact⟨_,e1,fun v q=>by rw[d1]at q;cases q⟩
 keep:=fun i h h' st g=>by
  obtain⟨old,he⟩:=st.e
  obtain⟨o1,e1,r⟩:=st.i
  exact⟨⟨old,g e Zs _ he⟩,⟨o1,g it Zs _ e1,r⟩⟩
 item:=by
  intro X hP hw hK hc i pins s σ H E I hf st hg;subst hP hw hK;obtain⟨xs,x,hx,ex⟩:=hg
  obtain⟨its,rv,p,_⟩:=I.list hx
  obtain⟨u,hu,ru⟩:=rv.get ex
  obtain⟨old,he⟩:=st.e
  refine wpAny_pyNext_enum_item he st.i p.isList (by simpa using hu) hne fun h1 e1 i1 t1 z1 k1=>?_
  refine⟨_,rfl,?_⟩
  refine wpAny_letOwnedTupleGo_enum e1 fun h2 e2 b2=>?_
  have elt:e<s.heap.objs.size:=Heap.lt_size he
  have t2:h2.get? s.heap.objs.size=some {cls:=.type "tuple",data:=.seq #[.int i s.toks,u] }:=b2.extBut _ _ (Nat.ne_of_gt elt) t1
  refine⟨.ref s.heap.objs.size,aJ H s.heap.objs.size (.tup [.int i,x]),I.turnLaid (t':=s.toks+1) hf (fun b o hb e'=>?_) (bM _) ⟨by show 2<=sizeLine;decide,[.int i s.toks,u],.cons ⟨_,rfl⟩ (.cons ru .nil),⟨_,t2,rfl,_,rfl⟩⟩,rfl,?_,?_,fun b hb=>?_⟩
  ·have hb':b≠e/\b≠it:=by simpa using hb
   exact b2.extBut _ _ hb'.1 (k1 b o hb'.1 hb'.2 e')
  ·exact⟨s.heap.objs.size,x,I.hok.fresh (bM _),rfl,rfl,fun zs hz=>by rw[I.list_inj hz hx];exact ex⟩
  ·obtain⟨o1,q1,r1⟩:=i1
   exact⟨⟨_,by simpa using e2⟩,⟨o1,b2.extBut _ _ hne.symm q1,r1⟩⟩
  ·have hlt:b<s.heap.objs.size:=by
    obtain⟨o1,q1,r1⟩:=st.i
    simp only [List.mem_cons,List.not_mem_nil,or_false]at hb
    rcases hb with rfl | rfl
    ·exact elt
    ·exact Heap.lt_size q1
   rw[aD (Nat.ne_of_lt hlt)];exact(hf b hb).1
 done:=by
  intro X hP hw hK hc i pins s σ H E I hf st hg;subst hP hw hK;obtain⟨xs,hx,hl⟩:=hg
  obtain⟨its,rv,p,_⟩:=I.list hx
  obtain⟨old,he⟩:=st.e
  have l1:=rv.length
  refine wpAny_pyNext_enum_end (I.ok.hd hc) he st.i p.isList (by simp;omega) fun h1 k1=>?_
  refine⟨rfl,I.turnL (t':=s.toks) hf fun b u hb e'=>?_⟩
  have hb':b≠e/\b≠it:=by simpa using hb
  exact k1 b u hb'.2 e'
 self:=fun _ _ _ _ _ st h=>by
  obtain⟨old,he⟩:=st.e
  exact wpAny_pyIter_enum he h
section
variable {X:Cx} {a b:Expr} {ta tb:TE} {p pos tpos:Pos} {es:List Expr} {n:Nat}
def Po (K:W.Frag) (ta:TE):TI:=fun σ H R=>ta σ H fun x H1=>mR x fun a=>∃xs,SqL K H1 a xs/\R (Uz K a) H1
theorem Mt (hg:Gl X "enumerate") (hm:X.mg "enumerate"=none) (ha:PE X a ta) (h1:aQ a=true):PI X (.Tuple es n tpos) (.Call (.Name "enumerate" p) [a] [] pos) (Po X.K ta):=by
 intro pins s σ H R I h;have hs:starEach [a] X.env=[(false,eval a X.env)]:=by rw[bK h1];rfl
 have hA:PA X [a] (jB ta sV):=tN ha sW h1
 refine Call_ (lX I hg hm boot_enumerate (PyProof.Rows.callWith_type1 (bV (hA pos pins s σ H (fun vs H2=>match vs with | [x]=>(mR x fun a1=>∃xs,SqL X.K H2 a1 xs/\R (Uz X.K a1) H2) | _=>False) I ?_) fun us s1 ⟨vs,H1,I1,r1,q1⟩=>?_) (by rw[hs];rfl) rfl))
 ·exact h
 ·dsimp only at q1
  split at q1
  rotate_left
  ·exact q1.elim
  rename_i x
  rw[dU]at q1;obtain⟨a1,rfl,xs,q2,q⟩:=q1
  cases r1 with
  | cons r rr=>
   cases rr
   cases r
   obtain⟨its,rv,p1,_⟩:=I1.list q2
   refine call_enumerate_list p1.isList fun h' he hi hz k=>?_
   have I2:Inv X pins σ H1 {s1 with heap:=h' }:=I1.kept (t':=s1.toks) k
   have la:a1<s1.heap.objs.size:=by
    obtain⟨o,e',_⟩:=p1.isList
    exact Heap.lt_size e'
   refine wpAny_pyIter_enum (s:={s1 with heap:=h' }) he ?_
   refine⟨s1.heap.objs.size+1,_,_,_,H1,rfl,I2,Cp (Nat.ne_of_gt (Nat.lt_succ_self _)) (Nat.ne_of_lt (Nat.lt_succ_of_lt la)) (Nat.ne_of_lt la),⟨⟨_,he⟩,hi⟩,fun b hb=>?_,q⟩
   have hb':s1.heap.objs.size<=b:=by
    simp only [List.mem_cons,List.not_mem_nil,or_false]at hb
    rcases hb with rfl | rfl
    ·exact Nat.le_add_right _ 1
    ·exact bM _
   exact I1.fpOk hb' (I1.hok.fresh hb')
theorem R.gk {K:W.Frag} (hg:Gl X "enumerate") (hm:X.mg "enumerate"=none) (ha:XE X a ta) (hK:X.K=K:=by rfl) (h1:aQ a=true:=by rfl):XI X (.Tuple es n tpos) (.Call (.Name "enumerate" p) [a] [] pos) (Po K ta):=
 hK ▸ ⟨Mt hg hm ha.h h1⟩
end
theorem vT {K:W.Frag} {a:Addr} {xs:List V} {g:TG} {tb:TS} {D:nS} {σ:St} {H:Hp} (Pv:Nat->St->Hp->Prop) (hA:∀i σ H,Pv i σ H->SqL K H a xs) (h0:Pv 0 σ H)
  (hs:∀(i:Nat) (x:V) σ H t,xs[i]?=some x->Pv i σ H->H t=none->g (.ref t) σ (aJ H t (.tup [.int i,x])) fun σ2 H2=>tb {D with nx:=Pv (i+1),ct:=Pv (i+1),bk:=D.nx } σ2 H2) (hd:∀ σ H,Pv xs.length σ H->D.nx σ H) :
  ∃W:Nat->Nat->St->Hp->Prop,(∃m,W 0 m σ H)/\∀i m σ H,W i m σ H →
   ((Uz K a).stop i H/\D.nx σ H)∨((Uz K a).go i H/\∃N:St->Hp->Prop,(∀ σ' H',N σ' H'->∃m',m'<m/\W (i+1) m' σ' H')/\∀x H',(Uz K a).yld i H x H'->g x σ H' fun σ2 H2=>tb {D with nx:=N,ct:=N,bk:=D.nx } σ2 H2):=by
 refine⟨fun i m σ H=>m=xs.length - i/\i<=xs.length/\Pv i σ H,⟨_,rfl,Nat.zero_le _,h0⟩,?_⟩
 rintro i m σ H ⟨rfl,hi,p⟩
 have q1:=hA i σ H p
 by_cases hlt:i<xs.length
 ·refine .inr ⟨⟨xs,xs[i],q1,iA hlt⟩,Pv (i+1),fun σ' H' n=>⟨xs.length - (i+1),Zo,rfl,hlt,n⟩,?_⟩
  rintro v H' ⟨t,x,ht,rfl,rfl,e1⟩
  exact hs i x σ H t (e1 xs q1) p ht
 ·have:i=xs.length:=by omega
  subst this;exact .inl ⟨⟨xs,q1,bM _⟩,hd σ H p⟩
end L2
namespace L2
open PySem PySem.Spec PyProof.Rows
section
variable {X:Cx}
def uC {α:Type} (xs:List α) (k:Nat) (x:α):List α:=xs.take k++[x]++xs.drop k
def zU:V->List V->Hp->VK->Prop:=fun x vs H Q=>∃(l:Addr) (xs:List V) (k:Nat) (y:V),x=.ref l/\vs=[.int (k:Int),y]/\H l=some (.lst xs)/\k<=xs.length/\xs.length<1000/\Q .non (aJ H l (.lst (uC xs k y)))
theorem Hl {k:Nat} (h:k<1000):¬ (!Builtin.List.listFitsIndex (k:Int))=true:=by
 have e1:-(2 ^ 63)<=(k:Int):=by omega
 have e2:(k:Int)<2 ^ 63:=by omega
 rw[fitsIndex_both e1 e2];exact Bool.false_ne_true
theorem rS:∀ {xs:List V} {its:List Value} (k:Nat),Vals xs its->Vals (xs.take k) (its.take k)
 | _,_,0,_=>by simp;exact .nil
 | _,_,k+1,.nil=>by simp;exact .nil
 | _,_,k+1,.cons h t=>by rw[List.take_succ_cons,List.take_succ_cons];exact .cons h (rS k t)
theorem rT:∀ {xs:List V} {its:List Value} (k:Nat),Vals xs its->Vals (xs.drop k) (its.drop k)
 | _,_,0,h=>by simpa using h
 | _,_,k+1,.nil=>by simp;exact .nil
 | _,_,k+1,.cons h t=>by rw[List.drop_succ_cons,List.drop_succ_cons];exact rT k t
theorem Ty {s:Shared} {A:Around} {E:Value->Shared->Prop} {prog:Program} {w:World} {l:Addr} {its:List Value} {n:Nat} {k:Int} {t:Tok} {u2:Value} {Q:Value->Shared->Prop} (e:s.heap.get? l=some {cls:=.type "list",data:=.seq its.toArray n }) (f1:¬ (!Builtin.List.listFitsIndex k)=true) (f2:its.toArray.size<=sizeLine)
  (q:Q .none {s with heap:=s.heap.update l (Obj.mapSeq fun xs=>have k:=if k<0 then (k+(xs.size:Int)).toNat else min k.toNat xs.size;(xs.extract 0 k).push u2++xs.extract k),toks:=s.toks }) :
  wpAny (model prog w) A (call (.builtin "list.insert") [.ref l,.int k t,u2]) Q E s:=by
 have M:=AutoSeq1.list_insert_list_int_val_1 l its.toArray n k t u2 f1 f2
 exact call_meets PySem.F.slot_list_insert ⟨_,e,rfl⟩ PySem.F.entry_list_insert (PySem.F.args_list_insert_3 _ _ _) M ⟨e,q⟩
theorem Cq:Vz X "list.insert" zU:=by
 intro pins s σ H x vs v us Q I rx rv h;obtain⟨l,xs,k,y,rfl,rfl,hH,hk,hz,q⟩:=h
 cases rx
 obtain⟨u1,u2,rfl,ru1,ru2⟩:=rv.two
 obtain⟨t,rfl⟩:=ru1
 obtain⟨z,its,n,r,hl,e⟩:=I.lstM hH
 have hlen:(uC xs k y).length=xs.length+1:=by unfold uC;simp;omega
 have hv:Vals (uC xs k y) (uC its k u2):=by
  unfold uC;exact((rS k r).append (.cons ru2 .nil)).append (rT k r)
 have hle:(uC xs k y).length<=sizeLine:=gY (by rw[hlen];omega)
 refine Ty e (Hl (oK hk hz)) (by rw[dS,<- hl];exact z) ?_
 refine⟨.non,_,I.lset (its':=uC its k u2) hH e ?_ hv hle,rfl,q⟩
 have h0:¬ ((k:Int)<0):=by omega
 have h1:min (k:Int).toNat its.toArray.size=k:=by rw[dS,<- hl];simp;omega
 simp only [h0,if_false,h1]
 unfold uC;simp
 exact rA Zs
theorem R.ic:XM X "list.insert" zU:=⟨Cq⟩
end
end L2
namespace L2
open PySem PySem.Spec PyProof.Rows
section
open PySem.MeetsSeq PySem.SeqAt
open AutoSeq1 (wpAny_loadPart')
theorem qQ (l:Addr) (items:Array Value) (n:Nat) (x:Value) (e:Value->Bool) (j:Nat) (hj:j<items.size) (hit:e items[j]=true) (k:Nat) (hs1:items.size<=sizeLine) :
  ∀i:Nat,j - i=k->i<=j->(∀m (hm:m<items.size),i<=m->m<j->e items[m]=false)->Meets (Builtin.«list.remove.loop» ⟨[.ref l,x,rawInt i],[]⟩)
   (fun A R s=>s.heap.get? l=some {cls:=.type "list",dict:=none,data:=.seq items n,slots:=#[] }/\(∀y,y∈items->EqAt A.in1 s y x (e y))/\R (.ok (.ret .none)) {s with heap:=s.heap.update l (Obj.mapSeq fun xs=>xs.eraseIdxIfInBounds j) }):=by
 induction k with
 | zero=>
  intro i hk hij hno prog w A R s h;obtain⟨hp,g,d,tk,os⟩:=s;obtain⟨hl,he,h⟩:=h
  obtain rfl:i=j:=by omega
  wp_walk using wpAny_loadPart' hl
  rw[show items[((i:Nat):Int).toNat]?=some items[i] by simp [hj]]
  refine wpAny_bind (he _ (Array.getElem_mem hj) prog w _ _ ?_)
  rw[hit];have hz':(items.eraseIdxIfInBounds i).size<=sizeLine+1:=kK (size_erased items _) (Nat.le_succ_of_le hs1)
  wp_walk using (wpAny_updateSeq hl rfl (hz:=hs1) (_hz':=hz')),wpAny_loadPart' hl
  simpa using h
 | succ k ih=>
  intro i hk hij hno prog w A R s h;obtain⟨hp,g,d,tk,os⟩:=s;obtain⟨hl,he,h⟩:=h
  have hlt:i<items.size:=by omega
  wp_walk using wpAny_loadPart' hl
  have hc:((i:Int)+1)=((i+1:Nat):Int):=by push_cast;rfl
  rw[show items[((i:Nat):Int).toNat]?=some items[i] by simp [hlt]]
  refine wpAny_bind (he _ (Array.getElem_mem hlt) prog w _ _ ?_)
  rw[hno i hlt (bM _) Zo]
  wp_walk
  rw[hc];exact⟨plainId_quiet plain_remove_loop _,codeAny_builtin entry_remove_loop (by
   rw[Around.under_plainId plain_remove_loop _];exact ih (i+1) Zo Zo (fun m hm h1 h2=>hno m hm Zo h2) prog w A R _ ⟨hl,he,h⟩)⟩
theorem qR (l:Addr) (items:Array Value) (n:Nat) (x:Value) (e:Value->Bool) (j:Nat) (hj:j<items.size) (hit:e items[j]=true) (hno:∀m (hm:m<items.size),m<j->e items[m]=false) (hs1:items.size<=sizeLine) :
  Meets (Builtin.«list.remove» ⟨[.ref l,x],[]⟩)
   (fun A R s=>s.heap.get? l=some {cls:=.type "list",dict:=none,data:=.seq items n,slots:=#[] }/\(∀y,y∈items->EqAt A.in1 s y x (e y))/\R (.ok (.ret .none)) {s with heap:=s.heap.update l (Obj.mapSeq fun xs=>xs.eraseIdxIfInBounds j) }):=by
 intro prog w A R s h;obtain⟨hp,g,d,tk,os⟩:=s;obtain⟨hl,he,h⟩:=h
 wp_walk using wpAny_loadPart' hl
 exact⟨plainId_quiet plain_remove_loop _,codeAny_builtin entry_remove_loop (by
  rw[Around.under_plainId plain_remove_loop _];exact qQ l items n x e j hj hit _ hs1 0 rfl (Nat.zero_le _) (fun m hm _ h2=>hno m hm h2) prog w A R _ ⟨hl,he,h⟩)⟩
end
def EQ (H:Hp) (u v:V):Prop:=(dP u=true/\dP v=true)∨∃b b' ps qs,u=.ref b/\v=.ref b'/\H b=some (.tup ps)/\H b'=some (.tup qs)/\∀(j:Nat) (x y:V),ps[j]?=some x->qs[j]?=some y->dP x=true/\dP y=true
section
variable {X:Cx} {pins:List (Addr × Obj)} {σ:St} {H:Hp} {s:Shared}
theorem EQ.at {A:Around} {x y:V} {u v:Value} (hu:A.units<cLine) (I:Inv X pins σ H s) (rx:RelV x u) (ry:RelV y v) (h:EQ H x y):∃b,SeqAt.EqAt A s u v b:=by
 rcases h with⟨f1,f2⟩ | ⟨b,b',ps,qs,rfl,rfl,g1,g2,fl⟩
 ·exact⟨_,oP rx ry f1 f2⟩
 ·cases rx
  cases ry
  by_cases e:b=b'
  ·subst e;exact⟨true,SeqAt.EqAt.same _⟩
  ·obtain⟨its,ri,ti,_⟩:=I.tuple (SqT.of g1)
   obtain⟨its2,ri2,ti2,_⟩:=I.tuple (SqT.of g2)
   have each:∀j (h1:j<its.toArray.size) (h2:j<its2.toArray.size),SeqAt.EqAt A.in1 s its.toArray[j] its2.toArray[j] (uP (ps.getD j .non) (qs.getD j .non)):=fun j h1 h2=>by
    rw[dS]at h1 h2;obtain⟨h1',q1⟩:=Paired.get' (j:=j) ri h1
    obtain⟨h2',q2⟩:=Paired.get' (j:=j) ri2 h2
    obtain⟨f1,f2⟩:=fl j ps[j] qs[j] (iA h1') (iA h2')
    have e1:ps.getD j .non=ps[j]:=by simp [List.getD,h1']
    have e2:qs.getD j .non=qs[j]:=by simp [List.getD,h2']
    rw[e1,e2];simpa using oP q1 q2 f1 f2
   exact⟨_,.of_refs e (SeqAt.RcAt.tuples ti ti2 hu each)⟩
theorem vU {A:Around} {c a:Addr} {n m:Int} {xs ys:List V} (hu:A.units+1<cLine) (I:Inv X pins σ H s) (hne:c≠a) (g1:H c=some (.lst (.int n::xs))) (g2:H a=some (.lst (.int m::ys))) (hnm:n≠m) (hl:xs.length=ys.length)
  (h:∀(j:Nat) (u v:V),xs[j]?=some u->ys[j]?=some v->EQ H u v):SeqAt.EqAt A s (.ref c) (.ref a) false:=by
 obtain⟨its,ri,ti,_⟩:=I.list (SqL.of g1)
 obtain⟨its2,ri2,ti2,_⟩:=I.list (SqL.of g2)
 have el1:its.length=xs.length+1:=ri.length.symm
 have el2:its2.length=ys.length+1:=ri2.length.symm
 have es:its.toArray.size=its2.toArray.size:=by rw[dS,dS];omega
 have each:∀j:Nat,∃b,(j=0->b=false)/\∀(h1:j<its.toArray.size) (h2:j<its2.toArray.size),SeqAt.EqAt A.in1 s its.toArray[j] its2.toArray[j] b:=fun j=>by
  by_cases h1:j<its.length
  ·have h2:j<its2.length:=by omega
   obtain⟨h1',q1⟩:=Paired.get' (j:=j) ri h1
   obtain⟨h2',q2⟩:=Paired.get' (j:=j) ri2 h2
   cases j with
   | zero=>
    have key:=oP (A:=A.in1) (s:=s) q1 q2 rfl rfl
    rw[show uP ((V.int n::xs)[0]) ((V.int m::ys)[0])=false from decide_eq_false hnm]at key;exact⟨false,fun _=>rfl,fun _ _=>by simpa using key⟩
   | succ j=>
    have q1':RelV (xs[j]'(by simpa using h1')) its[j+1]:=q1
    have q2':RelV (ys[j]'(by simpa using h2')) its2[j+1]:=q2
    obtain⟨b,hb⟩:=EQ.at (A:=A.in1) (by show A.units+1<cLine;exact hu) I q1' q2' (h j _ _ (iA _) (iA _))
    exact⟨b,fun e=>absurd e Zo,fun _ _=>by simpa using hb⟩
  ·exact⟨false,fun _=>rfl,fun h _=>absurd (by simpa using h) h1⟩
 obtain⟨e,he⟩:=Classical.axiomOfChoice each
 have key:=SeqAt.EqAt.of_refs hne (SeqAt.RcAt.lists (A:=A) (s:=s) (e:=e) ti.isList ti2.isList es Zo (fun j h1 h2=>(he j).2 h1 h2))
 have ef:(List.range its.toArray.size).all e=false:=by
  rw[dS,el1];rw[List.all_eq_false];exact⟨0,List.mem_range.mpr Zo,by rw[(he 0).1 rfl];decide⟩
 rw[ef]at key;exact key
end
def jO:V->List V->Hp->VK->Prop:=fun x vs H Q=>match x,vs with
 | .ref l,[.ref a]=>∃(us:List Addr) (j:Nat),H l=some (.lst (us.map V.ref))/\us[j]?=some a/\us.Nodup ∧
  (∀c∈us,c≠a->∃n m xs ys,H c=some (.lst (.int n::xs))/\H a=some (.lst (.int m::ys))/\n≠m/\xs.length=ys.length/\∀(j:Nat) (u v:V),xs[j]?=some u->ys[j]?=some v->EQ H u v) ∧
  Q .non (aJ H l (.lst ((us.eraseIdx j).map V.ref)))
 | _,_=>False
theorem pI:∀(ss:List Addr) (j:Nat),(ss.eraseIdx j).map V.ref=(ss.map V.ref).eraseIdx j
 | [],j=>by simp
 | s::r,0=>by simp
 | s::r,j+1=>by
  rw[List.eraseIdx_cons_succ,List.map_cons,List.map_cons,List.eraseIdx_cons_succ,pI r j]
theorem xU {X:Cx} (hu:X.A.units+64<cLine):Vz X "list.remove" jO:=by
 intro pins s σ H x vs v us0 Q I rx rv h;unfold jO at h;split at h
 ·rename_i l a
  obtain⟨us,j,hl,hj,nd,ne,q⟩:=h
  cases rx
  obtain⟨u,rfl,ru⟩:=rv.one
  cases ru
  obtain⟨z0,its,n,r,hln,e⟩:=I.lstM hl
  rw[bG]at hln;have hjl:j<us.length:=(Zgs.mp hj).1
  have at_:∀(m:Nat) (hm:m<its.length),∃hm':m<us.length,its[m]=Value.ref us[m]:=fun m hm=>by
   have hm':m<us.length:=by omega
   have rv:RelV (V.ref us[m]) (its.getD m Value.none):=mN m r (by rw[bG];exact hm') _ (by rw[kE,iA hm'];rfl)
   have e1:its.getD m Value.none=its[m]:=by rw[List.getD_eq_getElem?_getD,iA hm];rfl
   rw[e1]at rv;exact⟨hm',rv⟩
  refine call_meets PySem.F.slot_list_remove ⟨_,e,rfl⟩ PySem.F.entry_list_remove (PySem.F.args_list_remove_2 _ _)
   (qR l its.toArray n (.ref a) (fun y=>y == Value.ref a) j (by simp;omega) ?_ ?_ (by rw[dS];rw[bG]at z0;omega)) ⟨e,?_,?_⟩
  ·obtain⟨hm',ej⟩:=at_ j Zo
   simp only [List.getElem_toArray]
   rw[ej,(Zgs.mp hj).2];exact beq_self_eq_true _
  ·intro m hm hlt;have hm2:m<its.length:=by simpa using hm
   obtain⟨hm',ej⟩:=at_ m hm2
   simp only [List.getElem_toArray]
   rw[ej];refine beq_eq_false_iff_ne.mpr fun h=>?_
   injection h with h
   exact(List.pairwise_iff_getElem.mp nd) m j hm' hjl hlt (h.trans (Zgs.mp hj).2.symm)
  ·intro y hy;obtain⟨m,hm,rfl⟩:=List.getElem_of_mem (show y∈its by simpa using hy)
   obtain⟨hm',ej⟩:=at_ m hm
   rw[ej];by_cases ea:us[m]=a
   ·rw[ea,beq_self_eq_true];exact SeqAt.EqAt.same _
   ·obtain⟨n1,n2,xs,ys,g1,g2,hn,hlen,heq⟩:=ne us[m] (List.getElem_mem hm') ea
    rw[show(Value.ref us[m] == Value.ref a)=false from beq_eq_false_iff_ne.mpr fun h=>ea (by injection h)]
    exact vU (by show X.A.units+1+1<cLine;omega) I ea g1 g2 hn hlen heq
  ·have er:(us.eraseIdx j).map V.ref=(us.map V.ref).eraseIdx j:=pI us j
   refine⟨.non,_,I.lset (its':=its.eraseIdx j) hl e ?_ (er ▸ r.eraseIdx j) ?_,rfl,q⟩
   ·show its.toArray.eraseIdxIfInBounds j=(its.eraseIdx j).toArray
    rw[List.eraseIdxIfInBounds_toArray]
   ·rw[er];have:=mF (us.map V.ref) j
    omega
 ·exact h.elim
theorem R.ie {X:Cx} (hu:X.A.units+64<cLine):XM X "list.remove" jO:=⟨xU hu⟩
end L2
namespace L2
open PySem PySem.Spec PyProof.Rows
section
variable {X:Cx}
def Pq (K:W.Frag):List V->Hp->VK->Prop:=fun vs H Q=>∃(p:Addr) (ns:List Int),vs=[.ref p]/\SqL K H p (ns.map V.int)/\0<ns.length/\∀M:Int,M∈ns->(∀a∈ns,a<=M)->Q (.int M) H
theorem Cr (hc:X.calm=true):CallR X (.builtin "max") (Pq X.K):=by
 intro pins s σ H xs us Q I r h;obtain⟨p,ns,rfl,hq,hn,q⟩:=h
 obtain⟨u,rfl,ru⟩:=jA r
 cases ru
 obtain⟨its,rv,pl,hz⟩:=I.list hq
 have hi:=oO rv
 obtain⟨xs,hx⟩:=hi.allInts.items
 have hl':s.heap.IsList p (intItems xs):=hx ▸ pl.isList
 have e1:ns=xs.toList.map (·.1):=by
  rw[<- nums_intItems,<- hx];exact(show numsOf its.toArray.toList=ns from hi.numsOf).symm
 have hsz:ns.length=xs.size:=by rw[e1];simp
 refine max_intList (I.ok.hd hc) hl' Zo fun v h' tk hv hk=>?_
 obtain⟨hle,hmx⟩:=argBest_gt (numAt xs) (xs.size - 1)
 generalize argBest (fun i j=>decide (numAt xs i > numAt xs j)) (xs.size - 1)=k at hv hle hmx
 obtain⟨t,rfl⟩:=intItems_at hv
 have at_:∀j,j<ns.length->numAt xs j=ns.getD j 0:=fun j _=>by rw[numAt_eq,e1]
 refine⟨.int _,H,I.kept hk,⟨_,rfl⟩,q _ ?_ ?_⟩
 ·rw[at_ k Zo,List.getD_eq_getElem?_getD,iA Zo]
  exact List.getElem_mem _
 ·intro a ha;obtain⟨j,hj,rfl⟩:=List.getElem_of_mem ha
  have:=hmx j Zo
  rw[at_ j hj,List.getD_eq_getElem?_getD,iA hj]at this;exact this
theorem R.eg {K:W.Frag} (hc:X.calm=true) (hK:X.K=K:=by rfl):XC X (.builtin "max") (Pq K):=hK ▸ ⟨Cr hc⟩
end
end L2
namespace L2
open PySem PySem.Spec PyProof.Rows
inductive Dd where
 | add (a:Str) (n:Nat)
 | take (a:Str) (n:Nat)
 | move (a b:Str) (n:Nat)
 | send (h a:Str) (n:Nat)
 | fetch (h a:Str) (n:Nat)
 | pass (h g a:Str) (n:Nat)
namespace Dd
def vs:Dd->List V
 | .add a n=>[.str "add",.str a,.int (n:Int)]
 | .take a n=>[.str "take",.str a,.int (n:Int)]
 | .move a b n=>[.str "move",.str a,.str b,.int (n:Int)]
 | .send h a n=>[.str "send",.str h,.str a,.int (n:Int)]
 | .fetch h a n=>[.str "fetch",.str h,.str a,.int (n:Int)]
 | .pass h g a n=>[.str "pass",.str h,.str g,.str a,.int (n:Int)]
def n:Dd->Nat
 | .add _ n=>n | .take _ n=>n | .move _ _ n=>n | .send _ _ n=>n | .fetch _ _ n=>n | .pass _ _ _ n=>n
def far:Dd->Bool
 | .send _ _ _=>true | .fetch _ _ _=>true | .pass _ _ _ _=>true | _=>false
def Ok:Dd->Prop
 | .add a n=>eZ a/\1<=n/\n<=1000000000000
 | .take a n=>eZ a/\1<=n/\n<=1000000000000
 | .move a b n=>eZ a/\eZ b/\a≠b/\1<=n/\n<=1000000000000
 | .send h a n=>eZ h/\eZ a/\1<=n/\n<=1000000000000
 | .fetch h a n=>eZ h/\eZ a/\1<=n/\n<=1000000000000
 | .pass h g a n=>eZ h/\eZ g/\eZ a/\h≠g/\1<=n/\n<=1000000000000
theorem Ok.n {d:Dd} (h:d.Ok):1<=d.n/\d.n<=1000000000000:=by
 cases d <;> simp only [Ok]at h <;> simp only [Dd.n] <;> omega
def wd:Dd->Str
 | .add _ _=>"add" | .take _ _=>"take" | .move _ _ _=>"move" | .send _ _ _=>"send" | .fetch _ _ _=>"fetch" | .pass _ _ _ _=>"pass"
end Dd
inductive An where
 | is1 (m:Nat)
 | is2 (l m:Nat)
 | short (m:Nat)
 | full (m:Nat)
 | no (h:Str)
 | ok
namespace An
def vs:An->List V
 | .is1 m=>[.str "is",.int (m:Int)]
 | .is2 l m=>[.str "is",.int (l:Int),.int (m:Int)]
 | .short m=>[.str "short",.int (m:Int)]
 | .full m=>[.str "full",.int (m:Int)]
 | .no h=>[.str "no",.str h]
 | .ok=>[.str "ok"]
def early:An->Bool | .short _=>true | .full _=>true | _=>false
def Of:Dd->An->Prop
 | .add _ n,.is1 m=>n<=m/\m<=1000000000000
 | .add _ n,.full m=>1000000000000<m+n/\m<=1000000000000
 | .take _ n,.is1 m=>m+n<=1000000000000
 | .take _ n,.short m=>m<n
 | .move _ _ n,.is2 l m=>l+n<=1000000000000/\n<=m/\m<=1000000000000
 | .move _ _ n,.short m=>m<n
 | .move _ _ n,.full m=>1000000000000<m+n/\m<=1000000000000
 | .send _ _ n,.is1 m=>m+n<=1000000000000
 | .send _ _ n,.short m=>m<n
 | .send h _ _,.no g=>g=h
 | .fetch _ _ n,.is1 m=>n<=m/\m<=1000000000000
 | .fetch _ _ n,.full m=>1000000000000<m+n/\m<=1000000000000
 | .fetch h _ _,.no g=>g=h
 | .pass h g _ _,.no k=>k=h∨k=g
 | .pass _ _ _ _,.ok=>True
 | _,_=>False
end An
inductive RX where
 | next (n t:Nat)
 | has (z:Str) (m:Nat)
 | kept (n t:Nat) (p k:Str) (d:Dd) (y:An)
 | came (n t:Nat) (p k:Str) (d:Dd)
 | asked (n:Nat)
 | done (n t:Nat) (y:An)
namespace RX
def At (H:Hp) (a:Addr):RX->Prop
 | .next n t=>H a=some (.tup [.str "next",.int (n:Int),.int (t:Int)])
 | .has z m=>H a=some (.tup [.str "has",.str z,.int (m:Int)])
 | .kept n t p k d y=>∃b c,H a=some (.tup [.str "kept",.int (n:Int),.int (t:Int),.str p,.str k,.ref b,.ref c])/\H b=some (.tup d.vs)/\H c=some (.tup y.vs)
 | .came n t p k d=>∃b,H a=some (.tup [.str "came",.int (n:Int),.int (t:Int),.str p,.str k,.ref b])/\H b=some (.tup d.vs)
 | .asked n=>H a=some (.tup [.str "asked",.int (n:Int)])
 | .done n t y=>∃c,H a=some (.tup [.str "done",.int (n:Int),.int (t:Int),.ref c])/\H c=some (.tup y.vs)
theorem At.tk {H H':Hp} {a:Addr} {r:RX} (s:TK H H') (h:r.At H a):r.At H' a:=by
 cases r with
 | next n t=>exact s _ _ h
 | has z m=>exact s _ _ h
 | kept n t p k d y=>obtain⟨b,c,h1,h2,h3⟩:=h;exact⟨b,c,s _ _ h1,s _ _ h2,s _ _ h3⟩
 | came n t p k d=>obtain⟨b,h1,h2⟩:=h;exact⟨b,s _ _ h1,s _ _ h2⟩
 | asked n=>exact s _ _ h
 | done n t y=>obtain⟨b,h1,h2⟩:=h;exact⟨b,s _ _ h1,s _ _ h2⟩
def tvs:List V->TV:=fun xs=>.tp (xs.map TV.sc)
def tv:RX->TV
 | .next n t=>.tp [.sc (.str "next"),.sc (.int (n:Int)),.sc (.int (t:Int))]
 | .has z m=>.tp [.sc (.str "has"),.sc (.str z),.sc (.int (m:Int))]
 | .kept n t p k d y=>.tp [.sc (.str "kept"),.sc (.int (n:Int)),.sc (.int (t:Int)),.sc (.str p),.sc (.str k),tvs d.vs,tvs y.vs]
 | .came n t p k d=>.tp [.sc (.str "came"),.sc (.int (n:Int)),.sc (.int (t:Int)),.sc (.str p),.sc (.str k),tvs d.vs]
 | .asked n=>.tp [.sc (.str "asked"),.sc (.int (n:Int))]
 | .done n t y=>.tp [.sc (.str "done"),.sc (.int (n:Int)),.sc (.int (t:Int)),tvs y.vs]
theorem lE {H:Hp} {b:Addr} {xs:List V} (g:H b=some (.tup xs)) (hf:∀x∈xs,kN x=true):Gf H 1 (tvs xs) (.ref b):=by
 refine⟨b,xs,rfl,g,?_⟩
 induction xs with
 | nil=>exact .nil
 | cons x xs ih=>
  clear g;refine .cons ⟨rfl,hf x kG⟩ ?_
  have:∀(ys:List V),(∀y∈ys,kN y=true)->Paired (Gf H 0) (ys.map TV.sc) ys:=fun ys h=>by
   induction ys with
   | nil=>exact .nil
   | cons y ys ih=>exact .cons ⟨rfl,h y kG⟩ (ih fun z hz=>h z (nY _ hz))
  exact this xs fun z hz=>hf z (nY _ hz)
theorem Pr (d:Dd):∀x∈d.vs,kN x=true:=by
 intro x hx;cases d <;> simp only [Dd.vs,List.mem_cons,List.not_mem_nil,or_false]at hx <;> rcases hx with rfl | rfl | rfl | rfl | rfl <;> rfl
theorem Ps (y:An):∀x∈y.vs,kN x=true:=by
 intro x hx;cases y <;> simp only [An.vs,List.mem_cons,List.not_mem_nil,or_false]at hx <;> rcases hx with rfl | rfl | rfl | rfl | rfl <;> rfl
theorem At.rep {H:Hp} {a:Addr} {r:RX} (h:r.At H a):Gf H 2 r.tv (.ref a):=by
 cases r with
 | next n t=>exact⟨a,_,rfl,h,.cons ⟨rfl,rfl⟩ (.cons ⟨rfl,rfl⟩ (.cons ⟨rfl,rfl⟩ .nil))⟩
 | has z m=>exact⟨a,_,rfl,h,.cons ⟨rfl,rfl⟩ (.cons ⟨rfl,rfl⟩ (.cons ⟨rfl,rfl⟩ .nil))⟩
 | kept n t p k d y=>
  obtain⟨b,c,h1,h2,h3⟩:=h
  exact⟨a,_,rfl,h1,.cons ⟨rfl,rfl⟩ (.cons ⟨rfl,rfl⟩ (.cons ⟨rfl,rfl⟩ (.cons ⟨rfl,rfl⟩ (.cons ⟨rfl,rfl⟩ (.cons (lE h2 (Pr d)) (.cons (lE h3 (Ps y)) .nil))))))⟩
 | came n t p k d=>
  obtain⟨b,h1,h2⟩:=h
  exact⟨a,_,rfl,h1,.cons ⟨rfl,rfl⟩ (.cons ⟨rfl,rfl⟩ (.cons ⟨rfl,rfl⟩ (.cons ⟨rfl,rfl⟩ (.cons ⟨rfl,rfl⟩ (.cons (lE h2 (Pr d)) .nil)))))⟩
 | asked n=>exact⟨a,_,rfl,h,.cons ⟨rfl,rfl⟩ (.cons ⟨rfl,rfl⟩ .nil)⟩
 | done n t y=>
  obtain⟨b,h1,h2⟩:=h
  exact⟨a,_,rfl,h1,.cons ⟨rfl,rfl⟩ (.cons ⟨rfl,rfl⟩ (.cons ⟨rfl,rfl⟩ (.cons (lE h2 (Ps y)) .nil)))⟩
def rank:RX->Nat | .next _ _=>0 | .has _ _=>1 | .kept _ _ _ _ _ _=>2 | _=>3
def turn:RX->Nat | .next _ t=>t | .came _ t _ _ _=>t | .done _ t _=>t | _=>0
def Fits (rs:List RX):RX->Prop
 | .next _ _=>rs=[]
 | .has z _=>(∀q∈rs,rank q<=1)/\(∃n t,.next n t∈rs)/\∀z' m,.has z' m∈rs->z'.cps.toList<z.cps.toList
 | .kept n t _ _ d y=>(∀q∈rs,rank q<=2)/\(∃n0 t0,.next n0 t0∈rs/\n<n0/\t<=t0)/\(∀n' t' p' k' d' y',.kept n' t' p' k' d' y'∈rs->n'<n)/\An.Of d y
 | .came n t _ _ _=>(∀n' t' p' k' d',.came n' t' p' k' d'∈rs->n'<n)/\(∀t' p' k' d' y',.kept n t' p' k' d' y'∉rs)/\∀q∈rs,turn q<=t
 | .asked n=>(∃t p k d,.came n t p k d∈rs/\d.far=true)/\.asked n∉rs/\∀t y,.done n t y∉rs
 | .done n t y=>(∀q∈rs,turn q<=t)/\(∀t y,.done n t y∉rs)/\∃t0 p k d,.came n t0 p k d∈rs/\An.Of d y/\(d.far=true->(.asked n∈rs↔y.early=false))
inductive Whole:List RX->Prop
 | nil:Whole []
 | snoc {rs:List RX} {r:RX}:Whole rs->Fits rs r->Whole (rs++[r])
def Ok:RX->Prop
 | .next n t=>1<=n/\n<=1000000/\t<=1000000000000
 | .has z m=>eZ z/\1<=m/\m<=1000000000000
 | .kept n t p k d y=>1<=n/\n<=999999/\t<=1000000000000/\eZ p/\vS k/\d.Ok/\An.Of d y
 | .came n t p k d=>1<=n/\n<=999999/\t<=1000000000000/\eZ p/\vS k/\d.Ok
 | .asked n=>1<=n/\n<=999999
 | .done n t _=>1<=n/\n<=999999/\t<=1000000000000
end RX
structure RxsAt (H:Hp) (ra:Addr) (rs:List RX) (as:List Addr):Prop where
 lst:H ra=some (.lst (as.map V.ref))
 each:Paired (fun r a=>RX.At H a r) rs as
theorem RxsAt.len {H:Hp} {ra:Addr} {rs:List RX} {as:List Addr} (h:RxsAt H ra rs as):rs.length=as.length:=h.each.length
theorem RxsAt.keep {H H':Hp} {ra:Addr} {rs:List RX} {as:List Addr} (h:RxsAt H ra rs as) (s:TK H H') (e:H' ra=some (.lst (as.map V.ref))):RxsAt H' ra rs as:=⟨e,Paired.map' (fun _ _ x=>x.tk s) h.each⟩
theorem RxsAt.same {H H':Hp} {ra:Addr} {rs:List RX} {as:List Addr} (h:RxsAt H ra rs as) (s:Same H H'):RxsAt H' ra rs as:=h.keep s.tk (s _ _ h.lst)
theorem RxsAt.snoc {H H':Hp} {ra:Addr} {rs:List RX} {as:List Addr} {r:RX} {a:Addr} (h:RxsAt H ra rs as) (s:TK H H') (hr:r.At H' a) (e:H' ra=some (.lst (as.map V.ref++[.ref a]))):RxsAt H' ra (rs++[r]) (as++[a]):=
 ⟨by rw[e,jF];rfl,Paired.snoc (Paired.map' (fun _ _ x=>x.tk s) h.each) hr⟩
theorem RxsAt.get {H:Hp} {ra:Addr} {rs:List RX} {as:List Addr} (h:RxsAt H ra rs as) {i:Nat} {v:V} (e:(as.map V.ref)[i]?=some v):∃(a:Addr) (r:RX),v=.ref a/\as[i]?=some a/\rs[i]?=some r/\r.At H a:=by
 rw[kE]at e;cases ha:as[i]? with
 | none=>rw[ha]at e;cases e
 | some a=>
  rw[ha]at e;cases e
  obtain⟨hi,ei⟩:=Zgs.mp ha
  obtain⟨hi',hr⟩:=Paired.get' (j:=i) h.each hi
  rw[ei]at hr;exact⟨a,rs[i],rfl,rfl,iA hi',hr⟩
theorem RxsAt.rep {H:Hp} {ra:Addr} {rs:List RX} {as:List Addr} (h:RxsAt H ra rs as):Gf H 3 (.ls (rs.map RX.tv)) (.ref ra):=by
 refine⟨ra,_,rfl,h.lst,?_⟩
 have:∀ {rs:List RX} {as:List Addr},Paired (fun r a=>RX.At H a r) rs as->Paired (Gf H 2) (rs.map RX.tv) (as.map V.ref):=by
  intro rs as p;induction p with
  | nil=>exact .nil
  | cons h t ih=>exact .cons h.rep ih
 exact this h.each
theorem RxsAt.nil {H:Hp} {ra:Addr} (h:H ra=some (.lst [])):RxsAt H ra [] []:=⟨h,.nil⟩
end L2
namespace L2
open PySem PySem.Spec PyProof.Rows
def Mu (l:List Stmt) (i:Nat):Stmt:=l.getD i (.Pass ⟨0,0,0,0⟩)
def stT:Stmt->List Stmt | .If _ a _ _=>a | _=>[]
def stE:Stmt->List Stmt | .If _ _ b _=>b | _=>[]
def stB:Stmt->List Stmt | .For _ _ ss _ _=>ss | .While _ ss _ _=>ss | _=>[]
theorem aY {t u:TS} {D:nS} {σ:St} {H:Hp} (R:St->Hp->Prop) (h:∀nx:St->Hp->Prop,(∀ σ' H',R σ' H'->nx σ' H')->t {D with nx:=nx } σ H) (h2:∀ σ' H',R σ' H'->u D σ' H'):sO t u D σ H:=h (u D) h2
theorem Hm {c:TT} {t u:TS} {D:nS} {σ:St} {H:Hp} (R:Bool->Hp->Prop) (h:∀k:Bool->Hp->Prop,(∀v H',R v H'->k v H')->c σ H k) (ht:∀H',R true H'->t D σ H') (hf:∀H',R false H'->u D σ H'):Dz c t u D σ H:=
 h (fun b H1=>if b=true then t D σ H1 else u D σ H1) fun v H' r=>match v,r with | true,r=>ht H' r | false,r=>hf H' r
end L2
namespace L2
open PySem PySem.Spec PyProof.Rows
section
variable {X:Cx}
def Mv (neg:Bool):R2:=fun x y H Q=>mR y fun a=>∃o,DGet H a x o/\Q (.bl (if neg then !o.isSome else o.isSome)) H
theorem Hn (neg:Bool) (hu:X.A.units+1<cLine):OpR X (compareOp (if neg then .NotIn else .In)) (Mv neg):=by
 intro pins s σ H x y v u Q I rx ry h;unfold Mv at h;rw[dU]at h;obtain⟨a,rfl,o,g,q⟩:=h
 cases ry
 cases neg
 ·exact Wb hu I g rx fun s' I'=>⟨.bl _,H,I',rfl,q⟩
 ·exact zC hu I g rx fun s' I'=>⟨.bl _,H,I',rfl,q⟩
theorem R.eh (hu:X.A.units+1<cLine):jC X (compareOp .In) (Mv false):=⟨Hn false hu⟩
theorem R.fg (hu:X.A.units+1<cLine):jC X (compareOp .NotIn) (Mv true):=⟨Hn true hu⟩
end
end L2
namespace L2
open PySem PySem.Spec PyProof.Rows
def RKS:List (Str × Int):=[("next",0),("has",1),("kept",2),("came",3),("asked",3),("done",3)]
def Zy:List V:=[.str "short",.str "full"]
section
variable {X:Cx}
def Tz:R2:=fun x y H Q=>match x,y with | .int i,.int j=>Q (.bl (decide (i<j))) H | .str i,.str j=>Q (.bl (decide (i.cps.toList<j.cps.toList))) H | _,_=>False
theorem Ua:OpR X (compareOp .Lt) Tz:=by
 intro pins s σ H x y v u Q I rx ry h;unfold Tz at h;split at h
 ·exact Ot pins s σ H _ _ v u Q I rx ry ⟨_,_,rfl,rfl,h⟩
 ·exact Bl pins s σ H _ _ v u Q I rx ry ⟨_,_,rfl,rfl,h⟩
 ·exact h.elim
theorem R.ig:jC X (compareOp .Lt) Tz:=⟨Ua⟩
theorem R.ii:XC X (.builtin "len") (fun vs H Q=>match vs with | [.ref a]=>∃kvs,H a=some (.dK kvs)/\Q (.int kvs.length) H | _=>False):=⟨Cc.imp fun vs H Q h=>by
 split at h
 ·obtain⟨kvs,g,q⟩:=h
  exact⟨_,kvs,rfl,g,q⟩
 ·exact h.elim⟩
end
end L2
namespace L2
open PySem PySem.Spec PyProof.Rows
def fB (xs ys:List V):Prop:=∀(j:Nat) (u v:V),xs[j]?=some u->ys[j]?=some v->dP u=true/\dP v=true
theorem xV {xs:List V} (h:fB xs xs):hJ xs xs=true:=by
 unfold hJ;rw[Bool.and_eq_true_iff];refine⟨List.all_eq_true.mpr fun j hj=>?_,Zs⟩
 have hj:j<xs.length:=by simpa using hj
 have e:xs.getD j .non=xs[j]:=by simp [List.getD,hj]
 rw[e];have:=(h j xs[j] xs[j] (iA hj) (iA hj)).1
 generalize xs[j]=v at this;cases v <;> first | exact absurd (show false=true from this) Bool.false_ne_true | simp [uP]
section
variable {X:Cx}
theorem Ho {pins:List (Addr × Obj)} {s:Shared} {σ:St} {H:Hp} {a b:Addr} {xs ys:List V} (I:Inv X pins σ H s) (hu:X.A.units+64<cLine) (g1:H a=some (.tup xs)) (g2:H b=some (.tup ys)) (fl:fB xs ys):SeqAt.EqAt X.A.in1 s (.ref a) (.ref b) (hJ xs ys):=by
 by_cases e:a=b
 ·subst e;rw[g1]at g2;cases g2
  rw[xV fl];exact SeqAt.EqAt.same _
 ·obtain⟨its,ri,ti,_⟩:=I.tuple (SqT.of g1)
  obtain⟨its2,ri2,ti2,_⟩:=I.tuple (SqT.of g2)
  have el1:its.length=xs.length:=ri.length.symm
  have el2:its2.length=ys.length:=ri2.length.symm
  have each:∀j (h1:j<its.toArray.size) (h2:j<its2.toArray.size),SeqAt.EqAt X.A.in1.in1 s its.toArray[j] its2.toArray[j] (uP (xs.getD j .non) (ys.getD j .non)):=fun j h1 h2=>by
   rw[dS]at h1 h2;obtain⟨h1',q1⟩:=Paired.get' (j:=j) ri h1
   obtain⟨h2',q2⟩:=Paired.get' (j:=j) ri2 h2
   obtain⟨f1,f2⟩:=fl j xs[j] ys[j] (iA h1') (iA h2')
   have e1:xs.getD j .non=xs[j]:=by simp [List.getD,h1']
   have e2:ys.getD j .non=ys[j]:=by simp [List.getD,h2']
   rw[e1,e2];simpa using oP q1 q2 f1 f2
  have e:((List.range (min its.toArray.size its2.toArray.size)).all (fun j=>uP (xs.getD j .non) (ys.getD j .non))&&its.toArray.size == its2.toArray.size)=hJ xs ys:=by
   rw[dS,dS,el1,el2];rfl
  have key:=SeqAt.RcAt.tuples (A:=X.A.in1) (s:=s) ti ti2 (by rw[Cl];omega) each
  rw[e]at key;intro prog w E Q h;unfold eqBool;refine wpAny_holding ?_
  refine wpAny_ite_split (fun hab=>absurd (eq_of_beq hab) (fun z=>by cases z;contradiction)) (fun _=>?_)
  exact wpAny_bind (key prog w E _ (wpAny_truthy_bool h))
def pJ (xs:List V) (zs:List (Addr × List V)):Bool:=zs.any fun z=>hJ z.2 xs
def Mw (neg:Bool):R2:=fun x y H Q=>mR x fun a=>mR y fun p=>∃(xs:List V) (zs:List (Addr × List V)),H a=some (.tup xs)/\H p=some (.lst (zs.map fun z=>V.ref z.1))/\(∀z∈zs,H z.1=some (.tup z.2)/\fB z.2 xs)/\Q (.bl (if neg then !pJ xs zs else pJ xs zs)) H
def Xo (H:Hp) (xs:List V) (v:Value):Bool:=match v with | .ref b=>(match H b with | some (.tup ys)=>hJ ys xs | _=>false) | _=>false
theorem Hq {H:Hp} {xs ys:List V} {b:Addr} (g:H b=some (.tup ys)):Xo H xs (.ref b)=hJ ys xs:=by unfold Xo;dsimp only;rw[g]
theorem xW {zs:List (Addr × List V)}:∀ {us:List Value},Vals (zs.map fun z=>V.ref z.1) us->us=zs.map fun z=>Value.ref z.1:=by
 induction zs with
 | nil=>intro us r;cases r;rfl
 | cons z zs ih=>intro us r;cases r with | cons r t=>rw[ih t];cases r;rfl
theorem Hr (neg:Bool) (hu:X.A.units+64<cLine):OpR X (compareOp (if neg then .NotIn else .In)) (Mw neg):=by
  intro pins s σ H x y v u Q I rx ry h;unfold Mw at h;rw[dU]at h;obtain⟨a,rfl,h⟩:=h
  rw[dU]at h;obtain⟨p,rfl,xs,zs,g1,g2,hz,q⟩:=h
  cases rx
  cases ry
  obtain⟨its,r,pl,_⟩:=I.list (SqL.of g2)
  have ei:=xW r
  have he:∀w,w∈its.toArray->SeqAt.EqAt X.A.in1 s w (.ref a) (Xo H xs w):=fun w hw=>by
    have hw:w∈its:=by simpa using hw
    rw[ei]at hw;obtain⟨z,hm,rfl⟩:=Zmm.mp hw
    rw[Hq (hz z hm).1];exact Ho I hu (hz z hm).1 g1 (hz z hm).2
  have ea:its.toArray.any (Xo H xs)=pJ xs zs:=by
    rw[ei];unfold pJ;rw[List.any_toArray,List.any_map];have:∀zs:List (Addr × List V),(∀z∈zs,H z.1=some (.tup z.2)/\fB z.2 xs)->zs.any (Xo H xs∘fun z=>Value.ref z.1)=zs.any fun z=>hJ z.2 xs:=fun zs hz=>by
     induction zs with
     | nil=>rfl
     | cons z zs ih=>
      rw[List.any_cons,List.any_cons,ih fun y hy=>hz y (nY _ hy)]
      congr 1
      exact Hq (hz z kG).1
    exact this zs hz
  cases neg
  . refine SeqAt.in_listAt _ pl.isList he ⟨.bl _,H,I,rfl,?_⟩
    rw[ea];exact q
  . refine SeqAt.notIn_listAt _ pl.isList he ⟨.bl _,H,I,rfl,?_⟩
    rw[ea];exact q
theorem R.ij (hu:X.A.units+64<cLine):jC X (compareOp .In) (Mw false):=⟨Hr false hu⟩
theorem R.gm (hu:X.A.units+64<cLine):jC X (compareOp .NotIn) (Mw true):=⟨Hr true hu⟩
end
end L2
namespace KL
open PySem L2
def eP (i:Nat):Stmt:=PySem.Challenge.pw_oncedoor_k70_wrong_answers_told.main.body.getD i (.Pass ⟨0,0,0,0⟩)
abbrev jX:Stmt:=eP 8
abbrev iG:Stmt:=eP 9
abbrev dW:Stmt:=eP 10
abbrev jY:Stmt:=eP 12
abbrev cV:Stmt:=eP 13
abbrev oE:Stmt:=eP 15
abbrev uD:Stmt:=eP 16
abbrev dI:Stmt:=eP 17
abbrev fJ:Stmt:=eP 18
abbrev fE:Stmt:=eP 19
abbrev jZ:Stmt:=eP 20
abbrev oF:Stmt:=eP 21
abbrev fZ:Stmt:=eP 22
abbrev dX:Stmt:=eP 23
abbrev bY:Stmt:=eO (eP 25) 0
abbrev eQ:Stmt:=eO (eP 25) 1
abbrev jP:Stmt:=eO (eP 25) 2
abbrev eR:Stmt:=eO (eP 25) 3
abbrev bZ:Stmt:=eO (eP 29) 0
abbrev gA:Stmt:=eO (eP 29) 1
abbrev fK:Stmt:=eO (eP 29) 2
abbrev cZ:Stmt:=eO (eP 29) 3
abbrev cM:Stmt:=eO (eP 29) 4
abbrev gB:Stmt:=eO (eP 29) 5
abbrev gC:Stmt:=eP 30
abbrev fL:Stmt:=eP 31
abbrev dY:Stmt:=eP 32
abbrev eS:Stmt:=eP 34
abbrev cQ:Stmt:=eP 35
abbrev iH:Stmt:=eP 37
abbrev iI:Stmt:=eP 38
abbrev cN:Stmt:=eP 39
abbrev kA:Stmt:=eP 40
abbrev iJ:Stmt:=eP 41
abbrev fF:Stmt:=eP 42
abbrev fM:Stmt:=eP 43
abbrev gD:Stmt:=eP 44
abbrev iK:Stmt:=eP 45
abbrev iM:Stmt:=eP 46
abbrev iN:Stmt:=eP 47
abbrev gE:Stmt:=eP 49
abbrev gF:Stmt:=eP 50
abbrev eT:Stmt:=eP 51
abbrev eU:Stmt:=eP 52
abbrev gG:Stmt:=eP 53
abbrev gH:Stmt:=eP 54
abbrev bI:Stmt:=eP 55
abbrev dN:Stmt:=eP 56
abbrev iO:Stmt:=eP 57
abbrev bL:Stmt:=eP 58
abbrev aX:Stmt:=eP 59
abbrev fQ:Stmt:=eP 60
abbrev iP:Stmt:=eP 61
abbrev lF:Stmt:=eP 62
theorem eV {N P:List Str} {sc:Scope} (a:sc.kind=.function:=by rfl) (b:sc.isCoroutine=false:=by rfl) (c:sc.isGenerator=false:=by rfl) (d:N.Nodup:=by decide +kernel) (e:N.take P.length=P:=by rfl) (f:∀x∈P,sc.names.lookup x=some .local∨sc.names.lookup x=some .cell:=by decide +kernel) (g:∀y∈sc.names,y.2≠.free:=by decide +kernel):aI N P sc:=⟨a,b,c,d,e,f,g⟩
theorem xX:aI ["thing"] ["thing"] (aB jX):=eV
theorem vV:aI ["thing","least","most"] ["thing","least","most"] (aB iG):=eV
theorem qS:aI ["thing","signs","longest"] ["thing","signs","longest"] (aB dW):=eV
theorem kP:aI ["deed","add","take"] ["deed"] (aB jY):=eV
theorem jD:aI ["deed"] ["deed"] (aB cV):=eV
theorem lG:aI ["book","deed","name","by","amount"] ["book","deed"] (aB oE):=eV
theorem zV:aI ["book","deed","heard","asks"] ["book","deed","heard"] (aB uD):=eV
theorem pK:aI ["book","deed"] ["book","deed"] (aB dI):=eV
theorem qT:aI ["deed","answer"] ["deed","answer"] (aB fJ):=eV
theorem iQ:aI ["deed","thing","word","bounds"] ["deed","thing"] (aB fE):=eV
theorem xY:aI ["thing"] ["thing"] (aB jZ):=eV
theorem Hs:aI ["answer"] ["answer"] (aB oF):=eV
theorem dA:aI ["deed","n","left","come","short","full"] ["deed"] (aB fZ):=eV
theorem qU:aI ["things","bounds"] ["things","bounds"] (aB dX):=eV
theorem mQ:aI ["self","rows"] ["self","rows"] (aB bY):=eV
theorem pL:aI ["self","name"] ["self","name"] (aB eQ):=eV
theorem Mx:aI ["self"] ["self"] (aB jP):=eV
theorem cW:aI ["self","changes","name","by"] ["self","changes"] (aB eR):=eV
theorem mU:aI ["self"] ["self"] (aB bZ):=eV
theorem lH:aI ["self","row","word"] ["self","row"] (aB gA):=eV
theorem qV:aI ["self","row"] ["self","row"] (aB fK):=eV
theorem gJ:aI ["self","row","ahead"] ["self","row"] (aB cZ):=eV
theorem dF:aI ["self","row","deed","was_asked"] ["self","row"] (aB cM):=eV
theorem lI:aI ["self","row","word"] ["self","row"] (aB gB):=eV
theorem fN:aI ["rows","walk","place","row"] ["rows"] (aB gC):=eV
theorem gQ:aI ["rows","word","told","row"] ["rows","word"] (aB fL):=eV
theorem qW:aI ["rows"] ["rows"] (aB dY):=eV
theorem bU:aI ["rows","odd","came","book","place","row","deed"] ["rows"] (aB eS):=eV
theorem hU:aI ["book","deed","known"] ["book","deed"] (aB cQ):=eV
theorem vW:aI ["_law_script"] ["_law_script"] (aB iH):=eV
theorem fG:aI ["_law_deck_here","_law_many","_law_cell","_law_number"] ["_law_deck_here","_law_many"] (aB iI):=eV
theorem cT:aI ["_law_deck_here","_law_signs","_law_longest","_law_many","_law_word","_law_size","_law_at","_law_first","_law_ends"] ["_law_deck_here","_law_signs","_law_longest","_law_many"] (aB cN):=eV
theorem xZ:aI ["_law_deck_here","_law_many"] ["_law_deck_here","_law_many"] (aB kA):=eV
theorem bS:aI ["_law_deck_here","_law_names","_law_houses","_law_amount","_law_at","_law_name","_law_other","_law_spot_here","_law_house","_law_there","_law_some"] ["_law_deck_here","_law_names","_law_houses"] (aB iJ):=eV
theorem iR:aI ["_law_deed_here","_law_asked","_law_words_here","_law_some"] ["_law_deed_here","_law_asked"] (aB fF):=eV
theorem eW:aI ["_law_deck_here","_law_deed_here","_law_word","_law_amount","_law_low","_law_high"] ["_law_deck_here","_law_deed_here","_law_word"] (aB fM):=eV
theorem iU:aI ["_law_deck_here","_law_letters","_law_menus_here"] ["_law_deck_here"] (aB gD):=eV
theorem vX:aI ["_law_deck_here","_law_menus_here"] ["_law_deck_here","_law_menus_here"] (aB iK):=eV
theorem gK:aI ["_law_deck_here","_law_menus_here","_law_number","_law_turn","_law_deed_here","_law_words_here","_law_answer_here"] ["_law_deck_here","_law_menus_here","_law_number","_law_turn"] (aB iM):=eV
theorem cK:aI ["_law_deck_here","_law_menus_here","_law_number","_law_turn","_law_rows","_law_name","_law_last","_law_k"] ["_law_deck_here","_law_menus_here"] (aB iN):=eV
theorem dZ:aI ["_law_book","_law_deed_here","_law_amount","_law_name","_law_have"] ["_law_book","_law_deed_here"] (aB gE):=eV
theorem lJ:aI ["_law_book","_law_deed_here","_law_behind"] ["_law_book","_law_deed_here"] (aB gF):=eV
theorem pM:aI ["_law_deed_here","_law_answer_here"] ["_law_deed_here","_law_answer_here"] (aB eT):=eV
theorem fU:aI ["_law_book","_law_deed_here","_law_answer_here","_law_name","_law_by"] ["_law_book","_law_deed_here","_law_answer_here"] (aB eU):=eV
theorem dB:aI ["_law_deck_here","_law_book","_law_deed_here","_law_name","_law_have","_law_some","_law_amount"] ["_law_deck_here","_law_book","_law_deed_here"] (aB gG):=eV
theorem fO:aI ["_law_deck_here","_law_book","_law_one","_law_due_here","_law_far","_law_some"] ["_law_deck_here","_law_book","_law_one"] (aB gH):=eV
theorem bB:aI ["_law_deck_here","_law_rows","_law_menus_here","_law_many","_law_book","_law_under","_law_words_here","_law_number","_law_turn","_law_k","_law_way","_law_deed_here","_law_one","_law_answer_here"] ["_law_deck_here","_law_rows","_law_menus_here","_law_many"] (aB bI):=eV
theorem eJ:aI ["_law_deck_here","_law_menus_here","_law_rows"] ["_law_deck_here","_law_menus_here"] (aB dN):=eV
theorem cB:aI ["_law_deck_here","_law_deed_here","_law_answer_here","_law_by","_law_low","_law_high"] ["_law_deck_here","_law_deed_here","_law_answer_here"] (aB iO):=eV
theorem aL:aI ["_law_deck_here","_law_rows","_law_came","_law_places","_law_turn","_law_at","_law_word","_law_number","_law_when","_law_answer_here","_law_deed_here","_law_words_here","_law_other"] ["_law_deck_here","_law_rows"] (aB bL):=eV
theorem aM:aI ["_law_deck_here","_law_rows","_law_menus_here","_law_book","_law_came","_law_row","_law_name","_law_house","_law_have","_law_deed_here","_law_number","_law_turn","_law_words_here","_law_answer_here","_law_more"] ["_law_deck_here","_law_rows","_law_menus_here"] (aB aX):=eV
theorem cX:aI ["_law_rows","_law_book","_law_came","_law_k","_law_deed_here","_law_due_here","_law_some"] ["_law_rows"] (aB fQ):=eV
theorem jQ:aI ["_law_rows","_law_kept_here","_law_found"] ["_law_rows"] (aB iP):=eV
theorem iV:aI ["_law_script","_law_deck_here","_law_menus_here","_law_turn","_law_rows","_law_due_here"] ["_law_script"] (aB lF):=eV
structure Txt (K:W.Frag) (mg:Str->Option Value):Prop where
 b_isinstance:mg "isinstance"=none
 b_int:mg "int"=none
 b_bool:mg "bool"=none
 b_str:mg "str"=none
 b_len:mg "len"=none
 b_all:mg "all"=none
 b_tuple:mg "tuple"=none
 b_zip:mg "zip"=none
 b_enumerate:mg "enumerate"=none
 b_sum:mg "sum"=none
 b_list:mg "list"=none
 b_range:mg "range"=none
 b_sorted:mg "sorted"=none
 b_max:mg "max"=none
 b_dict:mg "dict"=none
 b_min:mg "min"=none
 g_LETTERS:∃t,mg "LETTERS"=some (.str ("abcdefghijklmnopqrstuvwxyz") t)
 g_LONGEST_NAME:∃t,mg "LONGEST_NAME"=some (.int (8) t)
 g_MOST:∃t,mg "MOST"=some (.int (1000000000000) t)
structure Yn (Pm:Params) (K:W.Frag) (mg:Str->Option Value):Prop where
 g_RANKS:∃a,mg "RANKS"=some (.ref a)/\KTab K Pm a (RKS)
 g_UNASKED_WORDS:∃a,mg "UNASKED_WORDS"=some (.ref a)/\∀H,SqT K H a (Zy)
section
variable {P:Program} {w:World} {K:W.Frag} {mg:Str->Option Value} {base:Heap}
theorem Mz (T:Txt K mg) (D:DefAt K mg "is_made_of" dW ["thing","signs","longest"]):aG P w K mg base 1 "is_made_of" ["thing","signs","longest"] Gb:=by
 refine D.go qS (fun vs H Q E h=>?_) (fun f cdv A outer s H vs Q E hr h=>?_)
 ·obtain⟨x,sg,n,k,rfl,_⟩:=h;rfl
 ·obtain⟨x,sg,n,k,rfl,hk,hz,q⟩:=h
  refine⟨_,(R.ae (R.ap (R.tw (R.da (R.db (R.bq (R.dy .str (R.v 0) rfl T.b_isinstance rfl T.b_str Fv))) (R.dr (R.db (R.ik R.le R.le R.ac (R.aw R.fm rfl T.b_len bC (R.aa (R.v 0) R.ad)) (R.v 2)))))) (R.ah (R.al R.bl)) R.aq) (R.ah (R.al (R.aw (R.il (K:=K) rfl) rfl T.b_all Fu (R.aa (R.bc rfl (js:=[none,some 1]) (N:=["sign","signs"]) (CompScope.by (aB dW) ["thing","signs","longest"] rfl rfl Zk) (bA rfl) (R.wS (R.v 0)) (fun C s₂ H₂ fp=>⟨(R.gn (i:=0) (show(["sign","signs"]:List Str).Nodup by decide +kernel)),R.dt,(R.ay R.iz (R.v 0) (R.v 1))⟩)) R.ad))))),?_⟩
  have no:Wy .str k=false->jK x sg.cps.toList n=false:=fun e=>by
   cases x <;> first | rfl | (cases k <;> first | exact hk.elim | cases e)
  refine⟨k,hk,?_⟩
  cases x with
  | str z=>
   cases k <;> first | exact hk.elim | skip
   have hz1:=hz z rfl
   refine⟨gY hz1,?_⟩
   refine bF (fun h1=>?_) (fun h1=>?_)
   ·refine bF (fun h2=>?_) (fun h2=>?_)
    ·have e:jK (.str z) sg.cps.toList n=false:=by
      rw[iD];have h2':decide ((z.length:Int)<=n)=false:=by simpa using h2
      rw[h2'];simp
     have h:=q H (Same.refl H)
     rw[e]at h;exact h
    ·refine⟨z,rfl,Ch (Me z) (by simp [rM,Str.length]at hz1 ⊢;omega) (fun _=>true) (fun v=>match v with | .str y=>.bl (decide (y.cps.toList.headD 0∈sg.cps.toList)) | _=>.non) trivial (fun v ys N hv ht hf=>?_) ?_⟩
     ·obtain⟨c,hc,rfl⟩:=Zmm.mp hv
      exact⟨c,rfl,ht rfl⟩
     ·intro p hp;refine⟨p,z.cps.toList.map (fun c=>decide (c∈sg.cps.toList)),rfl,SqL.of (by rw[aA,List.filter_eq_self.mpr (fun _ _=>rfl)];unfold rM;rw[List.map_map,List.map_map];rfl),?_⟩
      have e:jK (.str z) sg.cps.toList n=List.all (z.cps.toList.map (fun c=>decide (c∈sg.cps.toList))) id:=by
       rw[iD];have h2':decide ((z.length:Int)<=n)=true:=by simpa using h2
       have h1':decide (1<=(z.length:Int))=true:=h1
       rw[h2',h1',List.all_map];simp [Function.comp_def]
      rw[<- e];exact q _ (fun c o e=>by rw[aD (aE e hp)];exact e)
   ·have e:jK (.str z) sg.cps.toList n=false:=by
     rw[iD];have h1':decide (1<=(z.length:Int))=false:=h1
     rw[h1'];simp
    have h:=q H (Same.refl H)
    rw[e]at h;exact h
  | _=>
   cases k <;> first | exact hk.elim | exact q H (Same.refl H)
theorem yA (T:Txt K mg) (c_is_made_of:aG P w K mg base 1 "is_made_of" ["thing","signs","longest"] Gb) (D:DefAt K mg "is_name" jX ["thing"]):aG P w K mg base 2 "is_name" ["thing"] (Gc LET 8):=by
 refine D.go xX (fun vs H Q E h=>?_) (fun f cdv A outer s H vs Q E hr h=>?_)
 ·obtain⟨x,k,rfl,_⟩:=h;rfl
 ·obtain⟨x,k,rfl,hk,hz,q⟩:=h
  have hr_is_made_of:=hr
  refine⟨_,(R.ah (R.al (R.fn c_is_made_of hr_is_made_of rfl (R.aa (R.v 0) (R.aa (R.gS rfl T.g_LETTERS) (R.aa (R.gI rfl T.g_LONGEST_NAME) R.ad)))))),?_⟩
  refine⟨x,_,8,k,rfl,hk,hz,fun H' s'=>?_⟩
  rw[xQ];exact q H' s'
theorem Ht (T:Txt K mg) (D:DefAt K mg "is_whole" iG ["thing","least","most"]):aG P w K mg base 1 "is_whole" ["thing","least","most"] zP:=by
 refine D.go vV (fun vs H Q E h=>?_) (fun f cdv A outer s H vs Q E hr h=>?_)
 ·obtain⟨x,lo,hi,rfl,_⟩:=h;rfl
 ·obtain⟨x,lo,hi,rfl,⟨k,hk,hz⟩,q⟩:=h
  refine⟨_,(R.ae (R.ap (R.tw (R.da (R.db (R.bq (R.dy .int (R.v 0) rfl T.b_isinstance rfl T.b_int jI))) (R.dr (R.bq (R.dy .bl (R.v 0) rfl T.b_isinstance rfl T.b_bool zN))))) (R.ah (R.al R.bl)) R.aq) (R.ah (R.al (R.ja R.le R.le (R.v 1) (R.v 0) (R.v 2))))),?_⟩
  have h:=q H (Same.refl H)
  refine⟨k,hk,?_⟩
  cases x with
  | int n=>
   cases k <;> first | exact hk.elim | skip
   refine⟨.int,trivial,?_⟩
   show if decide (lo<=n)=true then _ else _
   have e:xR lo hi (.int n)=(decide (lo<=n)&&decide (n<=hi)):=rfl
   refine bF (fun h1=>?_) (fun h1=>?_)
   ·rw[e,h1,Bool.true_and]at h;exact h
   ·rw[e,h1,Bool.false_and]at h;exact h
  | bl b=>
   cases k <;> first | exact hk.elim | skip
   exact⟨.bl,trivial,h⟩
  | _=>cases k <;> first | exact hk.elim | exact h
theorem Na (T:Txt K mg) (D:DefAt K mg "asks_of" jY ["deed"]):aG P w K mg base 1 "asks_of" ["deed"] kO:=by
 refine D.go kP (fun vs H Q E h=>?_) (fun f cdv A outer s H vs Q E hr h=>?_)
 ·obtain⟨p,wd,xs,cs,as,rfl,_⟩:=h;rfl
 ·obtain⟨p,wd,xs,cs,as,rfl,hp,⟨one,other,nm,n,hd⟩,q⟩:=h
  refine⟨_,(R.ae (R.ai (i:=1) kP.nd (R.ak (R.aa R.ag (R.aa (R.ix (R.af (K:=K)) (R.v 0) (R.ax R.ac)) (R.aa (R.ix (R.af (K:=K)) (R.v 0) (R.ax R.ac)) R.ad))))) (R.ae (R.ai (i:=2) kP.nd (R.ak (R.aa R.ag (R.aa (R.ix (R.af (K:=K)) (R.v 0) (R.ax R.ac)) (R.aa (R.ix (R.af (K:=K)) (R.v 0) (R.ax R.ac)) R.ad))))) (R.ae (R.ap (R.ao R.eq (R.ix (R.af (K:=K)) (R.v 0) R.ac) R.ag) (R.ah (R.al (R.ak (R.aa (R.ak (R.aa (R.ix (R.af (K:=K)) (R.v 0) R.ac) (R.aa (R.v 1) R.ad))) R.ad)))) R.aq) (R.ae (R.ap (R.ao R.eq (R.ix (R.af (K:=K)) (R.v 0) R.ac) R.ag) (R.ah (R.al (R.ak (R.aa (R.ak (R.aa (R.ix (R.af (K:=K)) (R.v 0) R.ac) (R.aa (R.v 2) R.ad))) R.ad)))) R.aq) (R.ae (R.ap (R.ao R.eq (R.ix (R.af (K:=K)) (R.v 0) R.ac) R.ag) (R.ah (R.al (R.ak (R.aa (R.ak (R.aa (R.ix (R.af (K:=K)) (R.v 0) R.ac) (R.aa (R.v 2) R.ad))) (R.aa (R.ak (R.aa (R.ix (R.af (K:=K)) (R.v 0) R.ac) (R.aa (R.v 1) R.ad))) R.ad))))) R.aq) (R.ah (R.al (R.ak R.ad)))))))),?_⟩
  cases hd
  all_goals
   refine⟨_,SqT.of hp,_,rfl,_,SqT.of hp,_,rfl,Zs,fun p1 H1 s1 g1=>⟨_,SqT.of (s1 _ _ hp),_,rfl,_,SqT.of (s1 _ _ hp),_,rfl,Zs,fun p2 H2 s2 g2=>?_⟩⟩
   have hp2:=(s1.trans s2) _ _ hp
   refine⟨_,SqT.of hp2,_,rfl,?_⟩
  case send=>exact⟨_,SqT.of hp2,_,rfl,Zs,fun p3 H3 s3 g3=>⟨Zs,fun p4 H4 s4 g4=>q p4 _ H4 (((s1.trans s2).trans s3).trans s4) g4 (.cons ⟨p3,p1,rfl,s4 _ _ g3,s4 _ _ (s3 _ _ (s2 _ _ g1))⟩ .nil)⟩⟩
  all_goals refine⟨_,SqT.of hp2,_,rfl,?_⟩
  case fetch=>exact⟨_,SqT.of hp2,_,rfl,Zs,fun p3 H3 s3 g3=>⟨Zs,fun p4 H4 s4 g4=>q p4 _ H4 (((s1.trans s2).trans s3).trans s4) g4 (.cons ⟨p3,p2,rfl,s4 _ _ g3,s4 _ _ (s3 _ _ g2)⟩ .nil)⟩⟩
  all_goals refine⟨_,SqT.of hp2,_,rfl,?_⟩
  case pass=>
   refine⟨_,SqT.of hp2,_,rfl,Zs,fun p3 H3 s3 g3=>⟨_,SqT.of (s3 _ _ hp2),_,rfl,Zs,fun p4 H4 s4 g4=>⟨Zs,fun p5 H5 s5 g5=>?_⟩⟩⟩
   exact q p5 _ H5 ((((s1.trans s2).trans s3).trans s4).trans s5) g5 (.cons ⟨p3,p2,rfl,s5 _ _ (s4 _ _ g3),s5 _ _ (s4 _ _ (s3 _ _ g2))⟩ (.cons ⟨p4,p1,rfl,s5 _ _ g4,s5 _ _ (s4 _ _ (s3 _ _ (s2 _ _ g1)))⟩ .nil))
  all_goals exact⟨Zd,fun p3 H3 s3 g3=>q p3 [] H3 ((s1.trans s2).trans s3) g3 .nil⟩
theorem yB (T:Txt K mg) (D:DefAt K mg "word_of" jZ ["thing"]):aG P w K mg base 1 "word_of" ["thing"] vP:=by
 refine D.go xY (fun vs H Q E h=>?_) (fun f cdv A outer s H vs Q E hr h=>?_)
 ·obtain⟨x,rfl,_⟩:=h;rfl
 ·obtain⟨x,rfl,hx,q⟩:=h
  refine⟨_,(R.ae (R.ap (R.tw (R.da (R.db (R.bq (R.dy .tup (R.v 0) rfl T.b_isinstance rfl T.b_tuple vH))) (R.da (R.ao R.eq (R.aw (R.az (K:=K)) rfl T.b_len bC (R.aa (R.v 0) R.ad)) R.ac) (R.dr (R.db (R.bq (R.dy .str (R.ix (R.af (K:=K)) (R.v 0) R.ac) rfl T.b_isinstance rfl T.b_str Fv))))))) (R.ah (R.al R.bh)) R.aq) (R.ah (R.al (R.ix (R.af (K:=K)) (R.v 0) R.ac)))),?_⟩
  rcases hx.1 with⟨hf,_⟩ | ⟨a,ys,rfl,h | h⟩ | ⟨a,kvs,rfl,h⟩
  ·cases x with
   | non=>exact⟨.non,trivial,q⟩
   | bl _=>exact⟨.bl,trivial,q⟩
   | int _=>exact⟨.int,trivial,q⟩
   | str _=>exact⟨.str,trivial,q⟩
   | _=>exact absurd (show false=true from hf) Bool.false_ne_true
  ·refine⟨.lst,.inl ⟨ys,h⟩,?_⟩
   have e:jN H (.ref a)=.non:=by unfold jN jM;dsimp only;rw[h]
   rw[e]at q;exact q
  ·refine⟨.tup,⟨ys,h⟩,ys,.inr (SqT.of h),?_⟩
   have e0:jN H (.ref a)=Pk ys:=by unfold jN;rw[pH h]
   rw[e0]at q;obtain⟨_,hp⟩:=hx.2 a ys rfl h
   cases ys with
   | nil=>exact q
   | cons y r=>
    have e1:kT (y::r) ((0:Nat):Int)=some y:=cE rfl
    refine⟨y::r,SqT.of h,y,e1,?_⟩
    obtain⟨k,hk⟩:=(hp y kG).kd
    refine⟨k,hk,?_⟩
    cases y with
    | str u=>
     cases k <;> first | exact hk.elim | skip
     exact⟨_,SqT.of h,_,e1,q⟩
    | non=>cases k <;> first | exact hk.elim | exact q
    | bl _=>cases k <;> first | exact hk.elim | exact q
    | int _=>cases k <;> first | exact hk.elim | exact q
    | ref _=>cases k <;> first | exact hk.elim | exact q
    | _=>cases k <;> exact hk.elim
  ·refine⟨.dct,⟨kvs,h⟩,?_⟩
   have e:jN H (.ref a)=.non:=by unfold jN jM;dsimp only;rw[h]
   rw[e]at q;exact q
theorem Hu (T:Txt K mg) (c_is_name:aG P w K mg base 2 "is_name" ["thing"] (Gc LET 8)) (D:DefAt K mg "is_no" oF ["answer"]):aG P w K mg base 3 "is_no" ["answer"] Gy:=by
 refine D.go Hs (fun vs H Q E h=>?_) (fun f cdv A outer s H vs Q E hr h=>?_)
 ·obtain⟨a,xs,rfl,_⟩:=h;rfl
 ·obtain⟨a,xs,rfl,h,hp,q⟩:=h
  have hr_is_name:=hr
  refine⟨_,(R.ah (R.al (R.bz (R.ay R.eq (R.aw (R.az (K:=K)) rfl T.b_len bC (R.aa (R.v 0) R.ad)) R.ac) (R.cf (R.fn c_is_name hr_is_name rfl (R.aa (R.ix (R.af (K:=K)) (R.v 0) R.ac) R.ad)))))),?_⟩
  refine⟨xs,.inr (SqT.of h),?_⟩
  match xs,h,hp,q with
  | [],h,hp,q=>exact q H (Same.refl _)
  | [_],h,hp,q=>exact q H (Same.refl _)
  | [x,y],h,hp,q=>
   obtain⟨k,hk⟩:=(hp y Zs).kd
   refine⟨_,SqT.of h,y,rfl,y,k,rfl,hk,?_,fun H' s'=>q H' s'⟩
   intro z e;subst e;rcases hp (.str z) Zs with⟨_,h⟩ | ⟨_,_,e,_⟩ | ⟨_,_,e,_⟩
   ·exact h z rfl
   ·cases e
   ·cases e
  | x::y::z::r,h,hp,q=>
   exact q H (Same.refl _)
theorem oG {H:Hp}:∀ {L:List (Str × List (Int × Int))} {kvs:List (aT × V)},Paired (fun a b=>b.1=Sum.inr a.1/\vO H (some a.2) (some b.2)) L kvs->∀u:Str,vO H (L.lookup u) (bE kvs (Sum.inr u))
 | _,_,.nil,u=>rfl
 | a::L,b::kvs,.cons h t,u=>by
  rw[List.lookup_cons];by_cases e:u=a.1
  ·subst e;rw[beq_self_eq_true,cF h.1];exact h.2
  ·have hb:(u == a.1)=false:=beq_eq_false_iff_ne.mpr e
   rw[hb,cG (by rw[h.1];intro z;exact e (Sum.inr.inj z).symm)]
   exact oG t u
theorem mk2 {a b:Str} (h:([Sum.inr a,Sum.inr b]:List aT).Nodup) (x y:V):aS [] [(Sum.inr a,x),(Sum.inr b,y)]=[(Sum.inr a,x),(Sum.inr b,y)]:=jW _ _ h fun _ _=>rfl
theorem mk3 {a b c:Str} (h:([Sum.inr a,Sum.inr b,Sum.inr c]:List aT).Nodup) (x y z:V):aS [] [(Sum.inr a,x),(Sum.inr b,y),(Sum.inr c,z)]=[(Sum.inr a,x),(Sum.inr b,y),(Sum.inr c,z)]:=jW _ _ h fun _ _=>rfl
theorem Cs (T:Txt K mg) (D:DefAt K mg "bounds_of" fZ ["deed"]):aG P w K mg base 1 "bounds_of" ["deed"] vQ:=by
 refine D.go dA (fun vs H Q E h=>?_) (fun f cdv A outer s H vs Q E hr h=>?_)
 ·obtain⟨p,wd,n,xs,as,rfl,_⟩:=h;rfl
 ·obtain⟨p,wd,n,xs,as,rfl,hp,⟨⟨one,other,nm,cs,hd⟩,_⟩,q⟩:=h
  refine⟨_,(R.ae (R.ai (i:=1) dA.nd (R.ix (R.af (K:=K)) (R.v 0) (R.ax R.ac))) (R.ae (R.ai (i:=2) dA.nd (R.ak (R.aa R.ac (R.aa (R.op R.bi (R.gI rfl T.g_MOST) (R.v 1)) R.ad)))) (R.ae (R.ai (i:=3) dA.nd (R.ak (R.aa (R.v 1) (R.aa (R.gI rfl T.g_MOST) R.ad)))) (R.ae (R.ai (i:=4) dA.nd (R.ak (R.aa R.ac (R.aa (R.op R.bi (R.v 1) R.ac) R.ad)))) (R.ae (R.ai (i:=5) dA.nd (R.ak (R.aa (R.op R.au (R.op R.bi (R.gI rfl T.g_MOST) (R.v 1)) R.ac) (R.aa (R.gI rfl T.g_MOST) R.ad)))) (R.ae (R.ap (R.ao R.eq (R.ix (R.af (K:=K)) (R.v 0) R.ac) R.ag) (R.ah (R.al R.du)) R.aq) (R.ae (R.ap (R.ao R.eq (R.ix (R.af (K:=K)) (R.v 0) R.ac) R.ag) (R.ah (R.al (R.fo (R.cv R.ag (R.ak (R.aa (R.v 2) (R.aa (R.v 3) R.ad))) (R.cv R.ag (R.ak (R.aa (R.v 4) R.ad)) (R.cv R.ag (R.ak (R.aa (R.v 5) R.ad)) R.fq)))))) R.aq) (R.ae (R.ap (R.ao (R.be (K:=K)) (R.ix (R.af (K:=K)) (R.v 0) R.ac) (R.ak (R.aa R.ag (R.aa R.ag R.ad)))) (R.ah (R.al (R.fo (R.cv R.ag (R.ak (R.aa (R.v 2) R.ad)) (R.cv R.ag (R.ak (R.aa (R.v 4) R.ad)) R.fq))))) R.aq) (R.ah (R.al (R.fo (R.cv R.ag (R.ak (R.aa (R.v 3) R.ad)) (R.cv R.ag (R.ak (R.aa (R.v 5) R.ad)) R.fq))))))))))))),?_⟩
  have el:kT xs (-1)=some (.int n):=by cases hd <;> rfl
  refine⟨_,SqT.of hp,_,el,?_⟩
  dsimp only [aK];refine⟨Zs,fun p1 H1 s1 g1=>⟨Zs,fun p2 H2 s2 g2=>⟨Zs,fun p3 H3 s3 g3=>⟨Zs,fun p4 H4 s4 g4=>?_⟩⟩⟩⟩
  have s04:=((s1.trans s2).trans s3).trans s4
  have hp4:=s04 _ _ hp
  have g1':=s4 _ _ (s3 _ _ (s2 _ _ g1))
  have g2':=s4 _ _ (s3 _ _ g2)
  have g3':=s4 _ _ g3
  have fin:∀(H5:Hp) (pd:Addr) (G:Hp) (kvs:List (aT × V)),Same H H5->H5 pd=none->Same (aJ H5 pd (.dK [])) G->(∀u:Str,vO (aJ G pd (.dK kvs)) ((Gx wd n).lookup u) (bE kvs (Sum.inr u)))->Q (.ref pd) (aJ G pd (.dK kvs)):=fun H5 pd G kvs sH hpd sG hb=>by
   refine q pd kvs _ (fun c o e=>?_) aA hb
   have e':=sH _ _ e
   rw[aD (aE e' hpd)];exact sG _ _ (aF hpd _ _ e')
  have at_:∀ {H5:Hp} {pd:Addr} {G:Hp} {kvs:List (aT × V)} {c:Addr} {ys:List V},Same (aJ H5 pd (.dK [])) G->G c=some (.tup ys)->aJ G pd (.dK kvs) c=some (.tup ys):=fun {H5 pd G kvs c ys} sG e=>by
   have:c≠pd:=fun z=>by have h:=sG _ _ aA;rw[<- z,e]at h;cases h
   rw[aD this];exact e
  have b1:∀ {G:Hp} {c t:Addr} {lo hi:Int},G t=some (.tup [.ref c])->G c=some (.tup [.int lo,.int hi])->vO G (some [(lo,hi)]) (some (.ref t)):=fun {G c t lo hi} h1 h2=>⟨t,[(c,lo,hi)],rfl,h1,fun z hz=>by rw[Zms.mp hz];exact h2,rfl⟩
  cases hd with
  | pass=>
   refine⟨_,SqT.of hp4,_,rfl,?_⟩
   intro d hd;exact q d [] _ (s04.trans (aF hd)) aA fun u=>rfl
  | move=>
   refine⟨_,SqT.of hp4,_,rfl,?_⟩
   refine⟨_,SqT.of hp4,_,rfl,?_⟩
   intro pd hpd;refine⟨Zs,fun q1 G1 r1 e1=>⟨Zs,fun q2 G2 r2 e2=>⟨Zs,fun q3 G3 r3 e3=>⟨r3 _ _ (r2 _ _ (r1 _ _ aA)),[(Sum.inr ("is":Str),.ref q1),(Sum.inr ("short":Str),.ref q2),(Sum.inr ("full":Str),.ref q3)],rfl,Zs,?_⟩⟩⟩⟩
   rw[mk3 Zk]
   have sG:=(r1.trans r2).trans r3
   have up:=fun {c:Addr} {ys:List V} (e:H4 c=some (.tup ys))=>sG _ _ (aF (o:=.dK []) hpd _ _ e)
   refine fin H4 pd G3 _ s04 hpd sG (oG (.cons ⟨rfl,?_⟩ (.cons ⟨rfl,b1 (at_ sG (r3 _ _ e2)) (at_ sG (up g3'))⟩ (.cons ⟨rfl,b1 (at_ sG e3) (at_ sG (up g4))⟩ .nil))))
   exact⟨q1,[(p1,_,_),(p2,_,_)],rfl,at_ sG (r3 _ _ (r2 _ _ e1)),fun z hz=>by
    simp only [List.mem_cons,List.not_mem_nil,or_false]at hz
    rcases hz with rfl | rfl
    ·exact at_ sG (up g1')
    ·exact at_ sG (up g2'),rfl⟩
  | take | send=>
   refine⟨_,SqT.of hp4,_,rfl,?_⟩
   refine⟨_,SqT.of hp4,_,rfl,?_⟩
   refine⟨_,SqT.of hp4,_,rfl,Zs,fun p5 H5 s5 g5=>⟨p5,_,rfl,.inr (SqT.of g5),rfl,rfl,?_⟩⟩
   intro pd hpd;refine⟨Zs,fun q1 G1 r1 e1=>⟨Zs,fun q2 G2 r2 e2=>⟨r2 _ _ (r1 _ _ aA),[(Sum.inr ("is":Str),.ref q1),(Sum.inr ("short":Str),.ref q2)],rfl,Zs,?_⟩⟩⟩
   rw[mk2 Zk]
   have sG:=r1.trans r2
   have up:=fun {c:Addr} {ys:List V} (e:H4 c=some (.tup ys))=>sG _ _ (aF (o:=.dK []) hpd _ _ (s5 _ _ e))
   exact fin H5 pd G2 _ (s04.trans s5) hpd sG (oG (.cons ⟨rfl,b1 (at_ sG (r2 _ _ e1)) (at_ sG (up g1'))⟩ (.cons ⟨rfl,b1 (at_ sG e2) (at_ sG (up g3'))⟩ .nil)))
  | add | fetch=>
   refine⟨_,SqT.of hp4,_,rfl,?_⟩
   refine⟨_,SqT.of hp4,_,rfl,?_⟩
   refine⟨_,SqT.of hp4,_,rfl,Zs,fun p5 H5 s5 g5=>⟨p5,_,rfl,.inr (SqT.of g5),rfl,rfl,?_⟩⟩
   intro pd hpd;refine⟨Zs,fun q1 G1 r1 e1=>⟨Zs,fun q2 G2 r2 e2=>⟨r2 _ _ (r1 _ _ aA),[(Sum.inr ("is":Str),.ref q1),(Sum.inr ("full":Str),.ref q2)],rfl,Zs,?_⟩⟩⟩
   rw[mk2 Zk]
   have sG:=r1.trans r2
   have up:=fun {c:Addr} {ys:List V} (e:H4 c=some (.tup ys))=>sG _ _ (aF (o:=.dK []) hpd _ _ (s5 _ _ e))
   exact fin H5 pd G2 _ (s04.trans s5) hpd sG (oG (.cons ⟨rfl,b1 (at_ sG (r2 _ _ e1)) (at_ sG (up g2'))⟩ (.cons ⟨rfl,b1 (at_ sG e2) (at_ sG (up g4))⟩ .nil)))
theorem vY {α:Type} {xs:List α} {i:Nat} {x:α} (h:xs[i]?=some x):xs.take (i+1)=xs.take i++[x]:=by
 rw[List.take_succ,h];rfl
theorem Ct (T:Txt K mg) (c_is_whole:aG P w K mg base 1 "is_whole" ["thing","least","most"] zP) (D:DefAt K mg "are_within" dX ["things","bounds"]):aG P w K mg base 2 "are_within" ["things","bounds"] vR:=by
 refine D.go qU (fun vs H Q E h=>?_) (fun f cdv A outer s H vs Q E hr h=>?_)
 ·obtain⟨a,t,xs,bs,rfl,_⟩:=h;rfl
 ·obtain⟨a,t,xs,bs,rfl,ha,hl,hx,ht,hb,q⟩:=h
  have hr_is_whole:=hr
  refine⟨_,(R.ae (R.ap (R.ao R.ne (R.aw (R.az (K:=K)) rfl T.b_len bC (R.aa (R.v 0) R.ad)) (R.aw (R.az (K:=K)) rfl T.b_len bC (R.aa (R.v 1) R.ad))) (R.ah (R.al R.bl)) R.aq) (R.ah (R.al (R.aw (R.il (K:=K) rfl) rfl T.b_all Fu (R.aa (R.bc rfl (js:=[none,none]) (N:=["thing","least_most"]) (CompScope.by (aB dX) ["things","bounds"] rfl rfl Zk) (oX (eI rfl (eI rfl mH))) (R.ia (K:=K) rfl T.b_zip (R.v 0) (R.v 1)) (fun C s₂ H₂ fp=>⟨(R.de (K:=K) (n:=2) rfl (R.bb (R.gn (i:=0) (show(["thing","least_most"]:List Str).Nodup by decide +kernel)) (R.bb (R.gn (i:=1) (show(["thing","least_most"]:List Str).Nodup by decide +kernel)) R.df))),R.dt,(R.fn c_is_whole hr_is_whole rfl (R.aa (R.v 0) (R.aa (R.ix (R.af (K:=K)) (R.v 1) R.ac) (R.aa (R.ix (R.af (K:=K)) (R.v 1) R.ac) R.ad))))⟩)) R.ad))))),?_⟩
  refine⟨xs,.inr (SqT.of ha),uB bs,.inr (SqT.of ht),?_⟩
  have elb:(uB bs).length=(bs.map (·.2)).length:=by unfold uB;rw[bG,bG]
  dsimp only [Wm,mB];refine bF (fun h=>?_) (fun h=>?_)
  ·have h':xs.length≠(bs.map (·.2)).length:=by
    rw[<- elb];intro e;rw[e]at h;simp at h
   have:=q H (Same.refl _)
   unfold aW at this;rw[decide_eq_false h',Bool.false_and]at this;exact this
  ·have h':xs.length=(bs.map (·.2)).length:=by
    rw[<- elb];have:((xs.length:Int)=((uB bs).length:Int)):=by simpa using h
    omega
   have hlb:bs.length=xs.length:=by rw[h',bG]
   refine⟨false,false,xs,uB bs,SqT.of ha,SqT.of ht,?_⟩
   refine Gu Zo (fun i ys H'=>ys=(((xs.zip (bs.map (·.2))).take i).map fun q=>xR q.2.1 q.2.2 q.1).map V.bl/\Same H H') (fun i ys H' ⟨e,s'⟩=>⟨SqT.of (s' _ _ ha),SqT.of (s' _ _ ht),by rw[e,bG,bG,nF];exact Nat.min_le_left _ _⟩) ⟨rfl,Same.refl _⟩ (fun i x y ys H' t' hx' hy' ⟨e,s'⟩ ht'=>?_) (fun ys H' ⟨e,s'⟩=>?_)
   ·unfold uB at hy';rw[kE]at hy';cases hn:bs[i]? with
    | none=>rw[hn]at hy';cases hy'
    | some z=>
     rw[hn]at hy';cases hy'
     have s2:=s'.trans (aF (o:=.tup [x,.ref z.1]) ht')
     have gz:=s2 _ _ (hb z (gX hn))
     have ez:(xs.zip (bs.map (·.2)))[i]?=some (x,z.2):=by
      rw[List.getElem?_zip_eq_some];exact⟨hx',by rw[kE,hn];rfl⟩
     refine⟨t',_,rfl,SqT.of aA,rfl,_,_,rfl,_,_,rfl,rfl,_,SqT.of gz,_,rfl,_,SqT.of gz,_,rfl,x,z.2.1,z.2.2,rfl,((hx x (gX hx')).same s2).pt,fun H'' s''=>⟨?_,s2.trans s''⟩⟩
     rw[vY ez,jF,jF,e];rfl
   ·intro l hl';refine⟨l,((xs.zip (bs.map (·.2))).map fun q=>xR q.2.1 q.2.2 q.1),rfl,SqL.of ?_,?_⟩
    ·rw[aA,e];have:(xs.zip (bs.map (·.2))).take (min xs.length (uB bs).length)=xs.zip (bs.map (·.2)):=rA (by rw[List.length_zip,elb];exact bM _)
     rw[this]
    ·have:=q (aJ H' l (.lst ys)) (s'.trans (aF hl'))
     unfold aW at this;rw[decide_eq_true h',Bool.true_and]at this;rw[List.all_map];exact this
theorem zW {wd:Str} {xs:List V} {cs:List (Str × Int)} {as:List (Str × List V)} (h:Pj wd xs cs as):kT xs 0=some (.str wd):=by
 obtain⟨one,other,nm,n,hd⟩:=h
 cases hd <;> rfl
theorem Cu (wd:Str) (hs:List Str) (n:Int) (u:Str) (r:List V):Cn wd hs n (.str u::r)=if u="no" then (match r with | [y]=>nU y hs | _=>false) else if u="ok" then decide (wd="pass")&&r.isEmpty else match (Gx wd n).lookup u with | some bs=>aW r bs | none=>false:=rfl
theorem Nb {hs:List Str} (h:∀z∈hs,eZ z) (y:V) (m:nU y hs=true):Uw y=true:=by
 cases y with
 | str z=>exact Tk (h z (by simpa [nU]using m))
 | _=>cases m
theorem uE (T:Txt K mg) (c_word_of:aG P w K mg base 1 "word_of" ["thing"] vP) (c_is_no:aG P w K mg base 3 "is_no" ["answer"] Gy) (c_asks_of:aG P w K mg base 1 "asks_of" ["deed"] kO) (c_bounds_of:aG P w K mg base 1 "bounds_of" ["deed"] vQ)
  (c_are_within:aG P w K mg base 2 "are_within" ["things","bounds"] vR) (D:DefAt K mg "is_answer" fE ["deed","thing"]):aG P w K mg base 4 "is_answer" ["deed","thing"] zS:=by
 refine D.go iQ (fun vs H Q E h=>?_) (fun f cdv A outer s H vs Q E hr h=>?_)
 ·obtain⟨p,wd,n,xs,as,x,rfl,_⟩:=h;rfl
 ·obtain⟨p,wd,n,xs,as,x,rfl,hp,hd,hx,q⟩:=h
  have hr_word_of:Room 1 _:=hr.mono Zd
  have hr_asks_of:Room 1 _:=hr.mono Zd
  have hr_bounds_of:Room 1 _:=hr.mono Zd
  have hr_are_within:Room 2 _:=hr.mono Zd
  have hr_is_no:=hr
  have hu1:=eG hr
  refine⟨_,(R.ae (R.ai (i:=2) iQ.nd (R.fn c_word_of hr_word_of rfl (R.aa (R.v 1) R.ad))) (R.ae (R.ap (R.ao R.eq (R.v 2) R.ag) (R.ah (R.al (R.bz (R.fn c_is_no hr_is_no rfl (R.aa (R.v 1) R.ad)) (R.cf (R.ay (R.be (K:=K)) (R.ix (R.af (K:=K)) (R.v 1) R.ac) (R.bc rfl (js:=[none,none]) (N:=["house","there"]) (CompScope.by (aB fE) ["deed","thing","word","bounds"] rfl rfl Zk) (oX (eI rfl (eI rfl mH))) (R.fh (K:=K) (R.fn c_asks_of hr_asks_of rfl (R.aa (R.v 0) R.ad))) (fun C s₂ H₂ fp=>⟨(R.de (K:=K) (n:=2) rfl (R.bb (R.gn (i:=0) (show(["house","there"]:List Str).Nodup by decide +kernel)) (R.bb (R.gn (i:=1) (show(["house","there"]:List Str).Nodup by decide +kernel)) R.df))),R.dt,(R.v 0)⟩))))))) R.aq) (R.ae (R.ap (R.ao R.eq (R.v 2) R.ag) (R.ah (R.al (R.bz (R.ay R.eq (R.ix (R.af (K:=K)) (R.v 0) R.ac) R.ag) (R.cf (R.ay R.eq (R.aw (R.az (K:=K)) rfl T.b_len bC (R.aa (R.v 1) R.ad)) R.ac))))) R.aq) (R.ae (R.ai (i:=3) iQ.nd (R.fn c_bounds_of hr_bounds_of rfl (R.aa (R.v 0) R.ad))) (R.ah (R.al (R.bz (R.ay (R.ib hu1) (R.v 2) (R.v 3)) (R.cf (R.fn c_are_within hr_are_within rfl (R.aa (R.sl R.sT (R.v 1) (R.ps R.ac) R.pn) (R.aa (R.dh hu1 (R.v 3) (R.v 2)) R.ad))))))))))),?_⟩
  refine⟨x,rfl,hx,?_⟩
  dsimp only [aK];obtain⟨cs,hdx⟩:=hd.dwx
  have none_case:jN H x=.non->xT H wd (as.map (·.1)) n x=false->∀ {R:Prop},R=R->True:=fun _ _ _ _=>trivial
  have key:(jN H x=.non/\xT H wd (as.map (·.1)) n x=false)∨∃a u r,x=.ref a/\H a=some (.tup (.str u::r))/\jN H x=.str u/\xT H wd (as.map (·.1)) n x=Cn wd (as.map (·.1)) n (.str u::r):=by
   unfold jN xT;cases e:jM H x with
   | none=>exact .inl ⟨rfl,rfl⟩
   | some ys=>
    have:∃a,x=.ref a/\H a=some (.tup ys):=by
     unfold jM at e;cases x with
     | ref a=>
      dsimp only at e
      refine⟨a,rfl,?_⟩
      split at e
      ·cases e;assumption
      ·cases e
     | _=>cases e
    obtain⟨a,rfl,h⟩:=this
    cases ys with
    | nil=>exact .inl ⟨rfl,rfl⟩
    | cons y r=>cases y with
     | str u=>exact .inr ⟨a,u,r,rfl,h,rfl,rfl⟩
     | _=>exact .inl ⟨rfl,rfl⟩
  rcases key with⟨ew,ea⟩ | ⟨a,u,r,rfl,h,ew,ea⟩
  ·rw[ew];refine⟨p,wd,n,xs,as,rfl,hp,hd,fun d kvs H1 s1 g1 hb=>?_⟩
   refine⟨⟨kvs,g1⟩,?_⟩
   have:=q H1 s1
   rw[ea]at this;exact this
  ·rw[ew];rw[ea,Cu]at q;obtain⟨hl,hpc⟩:=hx.2 a _ rfl h
   have hpr:∀y∈r,Pc H y:=fun y hy=>hpc y (nY _ hy)
   show if decide (u="no")=true then _ else _
   refine bF (fun h0=>?_) (fun h0=>?_)
   ·rw[if_pos (of_decide_eq_true h0)]at q;refine⟨a,_,rfl,h,hpc,fun H1 s1=>?_⟩
    show if Pl (.str u::r)=true then _ else _
    refine bF (fun h1=>?_) (fun h1=>?_)
    ·match r,h1,q,h,hpr with
     | [y],h1,q,h,hpr=>
      have hny:Uw y=true:=h1
      cases y with
      | str z=>
       refine⟨_,SqT.of (s1 _ _ h),_,rfl,p,wd,xs,cs,as,rfl,s1 _ _ hp,hdx,fun t us H2 s2 g2 ha=>⟨t,rfl,⟨_,SqT.of g2⟩,?_⟩⟩
       refine bT (lA K t us) (by have:=ha.length;obtain⟨one,other,nm,n',hh⟩:=hdx;rw[<- this];cases hh <;> simp) (fun i ys H'=>H'=H2/\ys=((as.take i).map (·.1)).map V.str) (fun i ys H' ⟨e,e2⟩=>⟨by rw[e];exact SqT.of g2,by rw[e2,bG,bG,nF];exact Nat.min_le_left _ _⟩) ⟨rfl,rfl⟩ (fun i v ys H' hv ⟨e,e2⟩=>?_) (fun ys H' ⟨e,e2⟩=>?_)
       ·subst e;obtain⟨hi,ev⟩:=Zgs.mp hv
        obtain⟨hi2,a',d',ev',ga,gd⟩:=Paired.get' (j:=i) ha hi
        rw[ev]at ev';subst ev';refine⟨a',_,rfl,SqT.of ga,rfl,_,_,rfl,_,_,rfl,rfl,rfl,?_⟩
        rw[vY (iA hi2),jF,jF,e2];rfl
       ·subst e;intro l hl';have e3:ys=(as.map (·.1)).map V.str:=by rw[e2,<- ha.length,List.take_length]
        refine⟨l,_,rfl,.inl (SqL.of aA),rfl,by rw[e3];exact Ci _,?_⟩
        have:=q (aJ H' l (.lst ys)) ((s1.trans s2).trans (aF hl'))
        show Q (.bl (kU (.str z) ys)) _
        rw[e3,Mg]at *;exact this
      | _=>cases hny
    ·have e:(match r with | [y]=>nU y (as.map (·.1)) | _=>false)=false:=by
      match r,h1 with
      | [],_=>rfl
      | [y],h1=>
       have h1':Uw y=false:=h1
       cases m:nU y (as.map (·.1)) with
       | false=>exact m
       | true=>
        have:=Nb (hs:=as.map (·.1)) (fun z hz=>by obtain⟨q',hq',rfl⟩:=Zmm.mp hz;exact hd.nm q' hq') y m
        rw[this]at h1';cases h1'
      | _::_::_,_=>rfl
     rw[e]at q;exact q H1 s1
   ·rw[if_neg (of_decide_eq_false h0)]at q;show if decide (u="ok")=true then _ else _
    refine bF (fun h1=>?_) (fun h1=>?_)
    ·rw[if_pos (of_decide_eq_true h1)]at q;refine⟨_,SqT.of hp,_,zW hdx,?_⟩
     show if decide (wd="pass")=true then _ else _
     have q':=q H (Same.refl _)
     refine bF (fun h2=>?_) (fun h2=>?_)
     ·rw[h2,Bool.true_and]at q';refine⟨_,.inr (SqT.of h),?_⟩
      have e:r.isEmpty=decide ((((V.str u::r).length:Nat):Int)=1):=by
       cases r with
       | nil=>rfl
       | cons y r=>symm;exact decide_eq_false (by rw[uR,uR];omega)
      rw[e]at q';exact q'
     ·rw[h2,Bool.false_and]at q';exact q'
    ·rw[if_neg (of_decide_eq_false h1)]at q;refine⟨p,wd,n,xs,as,rfl,hp,hd,fun d kvs H1 s1 g1 hb=>?_⟩
     dsimp only [aK];have hbu:=hb u
     refine⟨kvs,g1,?_⟩
     show if (bE kvs (Sum.inr u)).isSome=true then _ else _
     cases eb:(Gx wd n).lookup u with
     | none=>
      rw[eb]at hbu q;have hv:bE kvs (Sum.inr u)=none:=hbu
      rw[hv];exact q H1 s1
     | some bs=>
      rw[eb]at hbu q;obtain⟨t,zs,hv,gt,hba,hm⟩:=hbu
      rw[hv];refine⟨_,s1 _ _ h,fun p2 H2 s2 g2=>⟨d,.ref t,rfl,?_,p2,t,r,zs,rfl,?_,?_,fun y hy=>(hpr y hy).same (s1.trans s2),s2 _ _ gt,hba.same s2,fun H3 s3=>?_⟩⟩
      ·have:=DGet.k (k:=Sum.inr u) (s2 _ _ g1)
       rw[hv]at this;exact this
      ·have ec:fI (V.str u::r) (some 1) none=r:=vI _ 1
       rw[ec]at g2;exact g2
      ·rw[uR]at hl;omega
      ·rw[hm];exact q H3 ((s1.trans s2).trans s3)
end
end KL
namespace KL
open PySem L2
section
variable {P:Program} {w:World} {K:W.Frag} {mg:Str->Option Value} {base:Heap}
def bJ:Sp:=fun vs H Q _=>∃d b m,vs=[.ref d,.int m]/\Dk H d b/\0<m/\m<18446744073709551616/\∀r H',0<=r->r<m->Dk H' d b->Kp d b H H'->Q (.int r) H'
theorem Nc (T:Txt K mg) (D:DefAt K mg "_law_deck" iH ["_law_script"]):aG P w K mg base 1 "_law_deck" ["_law_script"] (Fx K):=by
 refine D.go vW (fun vs H Q E h=>?_) (fun f cdv A outer s H vs Q E hr h=>?_)
 ·obtain⟨a,ns,rfl,_⟩:=h;rfl
 ·obtain⟨a,ns,rfl,hS,q⟩:=h
  refine⟨_,(R.ah (R.al (R.av (R.aa (R.bj (R.im (K:=K)) rfl T.b_list zM (R.aa (R.sl (R.fi (K:=K)) (R.v 0) R.pn (R.ps R.ac)) R.ad)) (R.aa (R.op R.au R.ac (R.op R.di (R.aw (R.jb (K:=K) rfl) rfl T.b_sum Ta (R.aa (R.sl (R.fi (K:=K)) (R.v 0) R.pn (R.ps R.ac)) R.ad)) R.ac)) (R.aa R.ac R.ad)))))),?_⟩
  have hc:fI (ns.map V.int) none (some 63)=(ns.take 63).map V.int:=by rw[tQ];exact congrArg _ (tP ns 63)
  refine⟨_,hS,fun p1 hp1=>⟨_,.inl (SqL.of aA),fun b hb=>?_⟩⟩
  have s2:Same H (aJ (aJ H p1 (.lst (fI (ns.map V.int) none (some 63)))) b (.lst (fI (ns.map V.int) none (some 63)))):=(aF hp1).trans (aF hb)
  have g2:(aJ (aJ H p1 (.lst (fI (ns.map V.int) none (some 63)))) b (.lst (fI (ns.map V.int) none (some 63)))) b=some (.lst ((ns.take 63).map V.int)):=by rw[aA,hc]
  have hb0:H b=none:=(aF hp1).free hb
  show jB _ _ _ (aJ (aJ H p1 (.lst (fI (ns.map V.int) none (some 63)))) b (.lst (fI (ns.map V.int) none (some 63)))) _
  generalize aJ (aJ H p1 (.lst (fI (ns.map V.int) none (some 63)))) b (.lst (fI (ns.map V.int) none (some 63)))=H2 at s2 g2;refine⟨_,s2.seq hS,fun p2 hp2=>⟨p2,ns.take 63,rfl,SqL.of (by rw[aA,hc]),by show(0:Int)<2147483629;decide,dR rfl,fun d hd=>?_⟩⟩
  have s4:Same H (aJ H2 p2 (.lst (fI (ns.map V.int) none (some 63)))):=s2.trans (aF hp2)
  have nbd:b≠d:=aE ((aF hp2) _ _ g2) hd
  refine q d b _ (s4.free hd) hb0 ⟨ns.take 63,_,_,aA,?_,?_⟩ (s4.trans (aF hd))
  ·rw[aD nbd];exact(aF hp2) _ _ g2
  ·rw[nF];exact Nat.min_le_left _ _
theorem Hv (D:DefAt K mg "_law_draw" iI ["_law_deck_here","_law_many"]) :
  aG P w K mg base 1 "_law_draw" ["_law_deck_here","_law_many"] bJ:=by
 refine D.go fG (fun vs H Q E h=>?_) (fun f cdv A outer s H vs Q E hr h=>?_)
 ·obtain⟨d,b,m,rfl,_⟩:=h;rfl
 ·obtain⟨d,b,m,rfl,dk,hm,hm2,q⟩:=h
  have hu:=hr.units0
  obtain⟨ns,s0,k0,h1,h2,h3⟩:=dk.ex
  have ndb:d≠b:=eY h1 h2 (by
   intro z;injection z with z
   cases ns with
   | nil=>cases z
   | cons z1 zs=>injection z with z _;cases z)
  refine⟨_,(R.ae (R.br (R.op R.au (R.ix (R.ar (K:=K)) (R.v 0) R.ac) R.ac) (R.cg (R.v 0) R.ac R.ir)) (R.ae (R.ai (i:=2) fG.nd (R.ix (R.ar (K:=K)) (R.v 0) R.ac)) (R.ae (R.ap (R.ao (R.iu (K:=K) hu) (R.ix (R.ar (K:=K)) (R.v 0) R.ac) (R.av R.ad)) (R.ae (R.ai (i:=2) fG.nd (R.bt (K:=K) PySem.F.plainAttrs_list PySem.F.slot_list_pop PySem.F.type_list_pop R.jc (R.ix (R.ar (K:=K)) (R.v 0) R.ac) (R.aa R.ac R.ad))) (R.ah (R.ap (R.ao R.ge (R.v 2) (R.op R.bg R.ac R.ac)) (R.ae (R.bn (R.bt (K:=K) PySem.F.plainAttrs_list PySem.F.slot_list_insert PySem.F.type_list_insert R.ic (R.ix (R.ar (K:=K)) (R.v 0) R.ac) (R.aa R.ac (R.aa (R.op R.gi (R.v 2) (R.v 1)) R.ad)))) (R.ah (R.al (R.op R.di (R.v 2) (R.v 1))))) R.aq))) R.aq) (R.ae (R.ai (i:=3) fG.nd (R.op R.di (R.op R.au (R.op R.au (R.op R.dz (R.op R.di (R.v 2) R.ac) R.ac) (R.op R.dz R.ac (R.ix (R.ar (K:=K)) (R.v 0) R.ac))) R.ac) R.ac)) (R.ae (R.ai (i:=3) fG.nd (R.op R.di (R.op R.dz (R.v 3) (R.v 3)) R.ac)) (R.ah (R.al (R.op R.di (R.op R.gi (R.op R.di (R.op R.dz (R.v 3) (R.op R.au (R.v 3) R.ac)) R.ac) R.ac) (R.v 1))))))))),?_⟩
  refine⟨_,SqL.of h1,_,rfl,d,_,2,2,rfl,rfl,h1,rfl,?_⟩
  have g1:(aJ H d (.lst [.ref b,.int s0,.int (k0+1)])) d=some (.lst [.ref b,.int s0,.int (k0+1)]):=aA
  have g2:(aJ H d (.lst [.ref b,.int s0,.int (k0+1)])) b=some (.lst (ns.map V.int)):=by rw[aD ndb.symm];exact h2
  have kp1:Kp d b H (aJ H d (.lst [.ref b,.int s0,.int (k0+1)])):=fun c o e n1 n2=>by rw[aD n1];exact e
  show sO _ _ _ _ (aJ H d (.lst [.ref b,.int s0,.int (k0+1)]))
  generalize aJ H d (.lst [.ref b,.int s0,.int (k0+1)])=H1 at g1 g2 kp1;refine⟨_,SqL.of g1,_,rfl,?_⟩
  dsimp only [aK];refine Tb (t:=Dz _ _ _) (fun σ' H'=>∃c:Int,σ'=[some (.ref d),some (.int m),some (.int c),none]/\(∃ns':List Int,H' d=some (.lst [.ref b,.int s0,.int (k0+1)])/\H' b=some (.lst (ns'.map V.int))/\ns'.length<=63)/\Kp d b H H') (fun nx hnx=>?_) ?_
  ·refine⟨_,SqL.of g1,_,rfl,dR rfl,fun p hp=>⟨b,p,_,rfl,rfl,SqL.of (by rw[aD (aE g2 hp)];exact g2),SqL.of aA,?_⟩⟩
   have e1:(aJ H1 p (.lst [])) d=some (.lst [.ref b,.int s0,.int (k0+1)]):=by rw[aD (aE g1 hp)];exact g1
   have e2:(aJ H1 p (.lst [])) b=some (.lst (ns.map V.int)):=by rw[aD (aE g2 hp)];exact g2
   have kp2:Kp d b H (aJ H1 p (.lst [])):=kp1.trans (.new hp)
   generalize aJ H1 p (.lst [])=H2 at e1 e2 kp2;cases ns with
   | nil=>
    exact hnx _ _ ⟨_,rfl,⟨[],e1,e2,h3⟩,kp2⟩
   | cons z ns=>
    have hl:ns.length+1<=63:=by simpa using h3
    refine⟨_,SqL.of e1,_,rfl,.inl ⟨rfl,_,SqL.of e2⟩,b,_,0,0,.int z,rfl,rfl,e2,Zd,Zd,by simp [seqIndex?],rfl,?_⟩
    have f1:(aJ H2 b (.lst ((List.map V.int (z::ns)).eraseIdx 0))) d=some (.lst [.ref b,.int s0,.int (k0+1)]):=by rw[aD ndb];exact e1
    have f2:(aJ H2 b (.lst ((List.map V.int (z::ns)).eraseIdx 0))) b=some (.lst (ns.map V.int)):=by rw[aA];rfl
    have kp3:Kp d b H (aJ H2 b (.lst ((List.map V.int (z::ns)).eraseIdx 0))):=fun c o e n1 n2=>by rw[aD n2];exact kp2 c o e n1 n2
    dsimp only [aK];generalize aJ H2 b (.lst ((List.map V.int (z::ns)).eraseIdx 0))=H3 at f1 f2 kp3;refine⟨⟨Zd,Zd,Zd⟩,?_⟩
    refine bF (fun _=>?_) (fun _=>?_)
    ·refine⟨_,SqL.of f1,_,rfl,.inl ⟨rfl,_,SqL.of f2⟩,⟨hm,hm2⟩,b,_,0,_,rfl,rfl,f2,Nat.zero_le _,oK (m:=63) (by rw[bG];omega) Zd,hm,?_⟩
     refine q _ _ (Int.emod_nonneg _ Zo) (Int.emod_lt_of_pos _ hm) ⟨z / m::ns,s0,k0+1,by rw[aD ndb];exact f1,by rw[aA];rfl,by simpa using hl⟩ fun c o e n1 n2=>by rw[aD n2];exact kp3 c o e n1 n2
    ·exact hnx _ _ ⟨_,rfl,⟨ns,f1,f2,Zo⟩,kp3⟩
  ·rintro σ' H' ⟨c,rfl,⟨ns',f1,f2,f3⟩,kp⟩
   refine⟨by show(0:Int)<_;decide,.inr ⟨Zd,Zd⟩,_,SqL.of f1,_,rfl,.inl ⟨Zd,Zd⟩,by show(0:Int)<_;decide,?_⟩
   generalize hx:(c % 2147483629*16807+69621*(k0+1)+7919) % 2147483629=x;have hx0:0<=x:=by omega
   have hx1:x<2147483629:=by omega
   dsimp only [aK];refine⟨.inl ⟨Zo,Zo⟩,by show(0:Int)<_;decide,?_⟩
   generalize hy:x*x % 2147483587=y;have hy0:0<=y:=by omega
   have hy1:y<2147483587:=by omega
   dsimp only [aK];refine⟨.inl ⟨Zo,Zo⟩,by show(0:Int)<_;decide,⟨Zd,Zd⟩,hm,?_⟩
   exact q _ _ (Int.emod_nonneg _ Zo) (Int.emod_lt_of_pos _ hm) ⟨ns',s0,k0+1,f1,f2,f3⟩ kp
theorem Xp {r:Int} (h0:0<=r) (h1:r<4):r=0∨r=1∨r=2∨r=3:=by omega
theorem six {r:Int} (h0:0<=r) (h1:r<6):r=0∨r=1∨r=2∨r=3∨r=4∨r=5:=by omega
theorem Ub (T:Txt K mg) (cLdraw:aG P w K mg base 1 "_law_draw" ["_law_deck_here","_law_many"] bJ) (D:DefAt K mg "_law_end" kA ["_law_deck_here","_law_many"]) :
  aG P w K mg base 2 "_law_end" ["_law_deck_here","_law_many"] bJ:=by
 refine D.go xZ (fun vs H Q E h=>?_) (fun f cdv A outer s H vs Q E hr h=>?_)
 ·obtain⟨d,b,m,rfl,_⟩:=h;rfl
 ·obtain⟨d,b,m,rfl,dk,hm,hm2,q⟩:=h
  have hLdraw:=hr
  refine⟨_,(R.ah (R.al (R.ix (R.ar (K:=K)) (R.av (R.aa R.ac (R.aa (R.op R.bi (R.v 1) R.ac) (R.aa (R.fn cLdraw hLdraw rfl (R.aa (R.v 0) (R.aa (R.v 1) R.ad))) (R.aa (R.fn cLdraw hLdraw rfl (R.aa (R.v 0) (R.aa (R.v 1) R.ad))) R.ad))))) (R.fn cLdraw hLdraw rfl (R.aa (R.v 0) (R.aa R.ac R.ad)))))),?_⟩
  refine⟨d,b,m,rfl,dk,hm,hm2,fun r1 H1 a0 a1 D1 k1=>⟨d,b,m,rfl,D1,hm,hm2,fun r2 H2 b0 b1 D2 k2=>⟨dR rfl,fun p hp=>⟨d,b,4,rfl,D2.new hp,Zd,Zd,fun r3 H3 c0 c1 D3 k3=>?_⟩⟩⟩⟩
  have hpd:=D2.ne hp
  have gp:=k3 p _ aA hpd.1 hpd.2
  have kk:=((k1.trans k2).trans (.new hp)).trans k3
  rcases Xp c0 c1 with rfl | rfl | rfl | rfl
  ·exact⟨_,SqL.of gp,_,rfl,q _ _ Zo Zo D3 kk⟩
  ·exact⟨_,SqL.of gp,_,rfl,q _ _ Zo Zo D3 kk⟩
  ·exact⟨_,SqL.of gp,_,rfl,q _ _ a0 a1 D3 kk⟩
  ·exact⟨_,SqL.of gp,_,rfl,q _ _ b0 b1 D3 kk⟩
structure WordsOf (L:List Nat) (g:Nat) (ws:List Str):Prop where
 nd:ws.Nodup
 of:∀z∈ws,1<=z.length/\z.length<=g/\∀c∈z.cps.toList,c∈L
def rV:Sp:=fun vs H Q _=>∃(d b:Addr) (L:List Nat) (g m:Nat),vs=[.ref d,.str (tx L),.int (g:Int),.int (m:Int)]/\Dk H d b/\1<=m/\m<=g/\g<=12/\L.Nodup/\m<=L.length/\L.length<=40 ∧
 ∀(l:Addr) (ws:List Str) (H':Hp),WordsOf L g ws->ws.length=m->H' l=some (.lst (ws.map V.str))->l≠d->l≠b->Dk H' d b->Kp d b H H'->Q (.ref l) H'
theorem Hw {α:Type} (xs:List α) {i j:Nat} (hi:i<=xs.length) (hj:j<=xs.length):fI xs (some (i:Int)) (some (j:Int))=(xs.drop i).take (j - i):=by
 unfold fI;rw[HT.sIx_nat,HT.sIx_nat,Nat.min_eq_left hi,Nat.min_eq_left hj]
def pN (L ts:List Nat) (a sz f k:Nat):List Nat:=ts.take a++[L.getD ((f+k) % L.length) 0]++(ts.drop (a+1)).take (sz - (a+1))
theorem Nd {L:List Nat} (hn:L.Nodup) {i j:Nat} (hi:i<L.length) (hj:j<L.length) (h:L.getD i 0=L.getD j 0):i=j:=by
 rw[List.getD_eq_getElem?_getD,List.getD_eq_getElem?_getD,iA hi,iA hj]at h;have h':L[i]=L[j]:=h
 have p:=List.pairwise_iff_getElem.mp hn
 rcases Nat.lt_trichotomy i j with z | z | z
 ·exact absurd h' (p i j hi hj z)
 ·exact z
 ·exact absurd h'.symm (p j i hj hi z)
theorem Nf {f k k' n:Nat} (hk:k<n) (hk':k'<n) (h:(f+k) % n=(f+k') % n):k=k':=by
 have h1:=Nat.mod_add_div (f+k) n
 have h2:=Nat.mod_add_div (f+k') n
 rw[h]at h1;generalize (f+k) / n=u at h1;generalize (f+k') / n=v at h2;rcases Nat.lt_trichotomy u v with z | z | z
 ·have:n*(u+1)<=n*v:=Nat.mul_le_mul_left n z
  rw[Nat.mul_add,Nat.mul_one]at this;omega
 ·subst z;omega
 ·have:n*(v+1)<=n*u:=Nat.mul_le_mul_left n z
  rw[Nat.mul_add,Nat.mul_one]at this;omega
theorem Hx {L ts:List Nat} (hn:L.Nodup) {a sz f k k':Nat} (h:pN L ts a sz f k=pN L ts a sz f k') (hk:k<L.length) (hk':k'<L.length):k=k':=by
 unfold pN at h;have h1:=List.append_inj_left' h rfl
 have h2:=List.append_inj_right' h1 rfl
 have h3:L.getD ((f+k) % L.length) 0=L.getD ((f+k') % L.length) 0:=by injection h2
 exact Nf hk hk' (Nd hn (Nat.mod_lt _ Zo) (Nat.mod_lt _ Zo) h3)
theorem Xq {L:List Nat} {i:Nat} (h:i<L.length):L.getD i 0∈L/\L[i]?=some (L.getD i 0):=by
 have e:L[i]?=some (L[i]):=iA h
 have e2:L.getD i 0=L[i]:=by rw[List.getD_eq_getElem?_getD,e];rfl
 exact⟨e2 ▸ List.getElem_mem _,e2 ▸ e⟩
theorem Ng {L ts:List Nat} {g a sz f k:Nat} (h0:0<L.length) (hl:ts.length=g) (ht:∀c∈ts,c∈L) (ha:a<sz) (hs:sz<=g):1<=(pN L ts a sz f k).length/\(pN L ts a sz f k).length<=g/\∀c∈pN L ts a sz f k,c∈L:=by
 have e:(pN L ts a sz f k).length=sz:=by
  unfold pN;simp [hl]
  omega
 refine⟨Zo,Zo,fun c hc=>?_⟩
 unfold pN at hc;rcases Zma.mp hc with hc | hc
 ·rcases Zma.mp hc with hc | hc
  ·exact ht c (List.mem_of_mem_take hc)
  ·rw[Zms.mp hc];exact(Xq (Nat.mod_lt _ h0)).1
 ·exact ht c (List.mem_of_mem_drop (List.mem_of_mem_take hc))
theorem iW {n i:Nat} {x:V} (h:(jJ 0 n)[i]?=some x):x=.int (i:Int)/\i<n:=by
 unfold jJ at h;rw[kE]at h;cases hh:(List.range n)[i]? with
 | none=>rw[hh]at h;cases h
 | some y=>
  rw[hh]at h;obtain⟨h1,h2⟩:=Zgs.mp hh
  rw[List.getElem_range]at h2;cases h
  rw[<- h2];exact⟨Zs,by simpa using h1⟩
theorem dC (n:Nat):(jJ 0 n).length=n:=by simp [jJ]
theorem vZ {L:List Nat} {g m:Nat} {F:Nat->List Nat} (hi:∀k k',k<m->k'<m->F k=F k'->k=k') (ho:∀k,k<m->1<=(F k).length/\(F k).length<=g/\∀c∈F k,c∈L):WordsOf L g ((List.range m).map fun k=>tx (F k)):=by
 refine⟨?_,fun z hz=>?_⟩
 ·show List.Pairwise (·≠·) _
  rw[List.pairwise_map];refine List.Pairwise.imp_of_mem (fun {x y} hx hy hne exy=>hne ?_) List.nodup_range
  exact hi _ _ (List.mem_range.mp hx) (List.mem_range.mp hy) (by simpa using congrArg (fun z:Str=>z.cps.toList) exy)
 ·obtain⟨k,hk,rfl⟩:=Zmm.mp hz
  have:=ho k (List.mem_range.mp hk)
  exact⟨by rw[fS];exact this.1,by rw[fS];exact this.2.1,fun c hc=>this.2.2 c (by simpa using hc)⟩
theorem Cv (T:Txt K mg) (cLdraw:aG P w K mg base 1 "_law_draw" ["_law_deck_here","_law_many"] bJ) (D:DefAt K mg "_law_unlike" cN ["_law_deck_here","_law_signs","_law_longest","_law_many"]) :
  aG P w K mg base 2 "_law_unlike" ["_law_deck_here","_law_signs","_law_longest","_law_many"] rV:=by
 refine D.go cT (fun vs H Q E h=>?_) (fun f cdv A outer s H vs Q E hr h=>?_)
 ·obtain⟨d,b,L,g,m,rfl,_⟩:=h;rfl
 ·obtain⟨d,b,L,g,m,rfl,dk,hm1,hmg,hg,hnd,hmL,hL40,q⟩:=h
  have hLdraw:=hr
  have lL:(tx L).length=L.length:=fS L
  have h40:(tx L).length<=sizeLine:=gY Zo
  have cL:(tx L).cps.toList=L:=by simp
  refine⟨_,(R.ae (R.ai (i:=4) cT.nd (R.bt (K:=K) PySem.F.plainAttrs_str PySem.F.slot_str_join PySem.F.type_str_join (R.jd (K:=K)) R.ag (R.aa (R.bc rfl (js:=[none,some 0,some 1]) (N:=["_law_k","_law_deck_here","_law_signs"]) (CompScope.by (aB cN) ["_law_deck_here","_law_signs","_law_longest","_law_many","_law_word","_law_size","_law_at","_law_first","_law_ends"] rfl rfl Zk) (bA rfl) (R.dj rfl T.b_range (R.aa (R.v 2) R.ad)) (fun C s₂ H₂ fp=>⟨(R.gn (i:=0) (show(["_law_k","_law_deck_here","_law_signs"]:List Str).Nodup by decide +kernel)),R.dt,(R.ix R.iS (R.v 2) (R.fn cLdraw hLdraw rfl (R.aa (R.v 1) (R.aa (R.aw R.fm rfl T.b_len bC (R.aa (R.v 2) R.ad)) R.ad))))⟩)) R.ad))) (R.ae (R.ap (R.ao R.eq (R.fn cLdraw hLdraw rfl (R.aa (R.v 0) (R.aa R.ac R.ad))) R.ac) (R.ah (R.al (R.bc rfl (js:=[none,some 4]) (N:=["_law_k","_law_word"]) (CompScope.by (aB cN) ["_law_deck_here","_law_signs","_law_longest","_law_many","_law_word","_law_size","_law_at","_law_first","_law_ends"] rfl rfl Zk) (bA rfl) (R.dj rfl T.b_range (R.aa (R.v 3) R.ad)) (fun C s₂ H₂ fp=>⟨(R.gn (i:=0) (show(["_law_k","_law_word"]:List Str).Nodup by decide +kernel)),R.dt,(R.sl R.sS (R.v 1) R.pn (R.ps (R.op R.au (R.v 0) R.ac)))⟩)))) R.aq) (R.ae (R.ai (i:=5) cT.nd (R.op R.au R.ac (R.fn cLdraw hLdraw rfl (R.aa (R.v 0) (R.aa (R.v 2) R.ad))))) (R.ae (R.ai (i:=6) cT.nd (R.fn cLdraw hLdraw rfl (R.aa (R.v 0) (R.aa (R.v 5) R.ad)))) (R.ae (R.ai (i:=7) cT.nd (R.fn cLdraw hLdraw rfl (R.aa (R.v 0) (R.aa (R.aw R.fm rfl T.b_len bC (R.aa (R.v 1) R.ad)) R.ad)))) (R.ae (R.ai (i:=8) cT.nd (R.je (R.aa (R.sl R.sS (R.v 4) R.pn (R.ps (R.v 6))) (R.aa (R.sl R.sS (R.v 4) (R.ps (R.op R.au (R.v 6) R.ac)) (R.ps (R.v 5))) R.ad)))) (R.ah (R.al (R.bc rfl (js:=[none,some 1,some 7,some 8]) (N:=["_law_k","_law_signs","_law_first","_law_ends"]) (CompScope.by (aB cN) ["_law_deck_here","_law_signs","_law_longest","_law_many","_law_word","_law_size","_law_at","_law_first","_law_ends"] rfl rfl Zk) (bA rfl) (R.dj rfl T.b_range (R.aa (R.v 3) R.ad)) (fun C s₂ H₂ fp=>⟨(R.gn (i:=0) (show(["_law_k","_law_signs","_law_first","_law_ends"]:List Str).Nodup by decide +kernel)),R.dt,(R.op R.gs (R.op R.gs (R.ix (R.af (K:=K)) (R.v 3) R.ac) (R.ix R.iS (R.v 1) (R.op R.di (R.op R.au (R.v 2) (R.v 0)) (R.aw R.fm rfl T.b_len bC (R.aa (R.v 1) R.ad))))) (R.ix (R.af (K:=K)) (R.v 3) R.ac))⟩)))))))))),?_⟩
  refine Tb (t:=Ec _ _) (fun σ' H'=>∃ts:List Nat,σ'=[some (.ref d),some (.str (tx L)),some (.int (g:Int)),some (.int m),some (.str (tx ts)),none,none,none,none]/\ts.length=g/\(∀c∈ts,c∈L)/\Dk H' d b/\Kp d b H H') (fun nx hnx=>?_) ?_
  ·refine⟨rfl,g,rfl,Zo,Zo,?_⟩
   refine bT (cR 0 (g:Int).toNat) (by rw[dC];omega) (fun i ys H'=>Dk H' d b/\Kp d b H H'/\∃ts:List Nat,ys=ts.map (fun c=>V.str (tx [c]))/\ts.length=i/\∀c∈ts,c∈L) (fun i ys H' ⟨_,_,ts,e,e2,_⟩=>⟨trivial,by rw[e,bG,e2];exact bM _⟩) ⟨dk,.refl,[],rfl,rfl,(fun _ h=>nomatch h)⟩ (fun i x ys H' hx ⟨Di,kpi,ts,e,e2,e3⟩=>?_) (fun ys H' ⟨Di,kpi,ts,e,e2,e3⟩=>?_)
   ·refine⟨h40,d,b,_,rfl,Di,Zo,Zo,fun r2 H'' r20 r21 Dj kpj=>⟨h40,?_⟩⟩
    obtain⟨c,hc,hm⟩:=Fy (xs:=(tx L).cps.toList) r20 (by rw[cL];omega)
    rw[cL]at hm;refine⟨c,hc,Dj,kpi.trans kpj,ts++[c],by rw[e,jF];rfl,by rw[sK,e2];rfl,fun c' hc'=>?_⟩
    rcases Zma.mp hc' with h | h
    ·exact e3 c' h
    ·rw[Zms.mp h];exact hm
   ·intro p hp;have hts:ts.length=g:=by rw[e2,dC];omega
    refine⟨_,p,ts.map (fun c=>tx [c]),rfl,rfl,SqL.of (by rw[aA,e,List.map_map];rfl),?_,?_⟩
    ·rw[vJ,bG,Ga,fS];simp;omega
    ·refine hnx _ _ ⟨ts,?_,hts,e3,Di.new hp,kpi.trans (.new hp)⟩
     rw[Ga,xP];rfl
  ·rintro σ' H1 ⟨ts,rfl,hts,hlet,D1,k1⟩
   have hcl:(tx ts).cps.toList=ts:=by simp
   have em:((m:Int)).toNat=m:=by omega
   refine⟨d,b,3,rfl,D1,Zd,Zd,fun r H2 r0 r1 D2 k2=>?_⟩
   refine bF (fun _=>?_) (fun _=>?_)
   ·refine⟨m,rfl,Zo,Zo,?_⟩
    refine bT (cR 0 (m:Int).toNat) (by rw[dC];omega) (fun i ys H'=>ys=((List.range i).map fun k=>tx (ts.take (k+1))).map V.str/\H'=H2) (fun i ys H' ⟨e,_⟩=>⟨trivial,by rw[e];simp⟩) ⟨rfl,rfl⟩ (fun i x ys H' hx ⟨e,e2⟩=>?_) (fun ys H' ⟨e,e2⟩=>?_)
    ·subst e2;obtain⟨rfl,hi⟩:=iW hx
     refine⟨gY (by rw[fS];omega),?_,rfl⟩
     rw[hcl,show((i:Nat):Int)+1=((i+1:Nat):Int) by omega,tP,e,List.range_succ,jF,jF]
     rfl
    ·subst e2;intro p hp;rw[dC,em]at e;have hd:=D2.ne hp
     refine q p ((List.range m).map fun k=>tx (ts.take (k+1))) _ (vZ (fun k k' hk hk' e=>?_) (fun k hk=>?_)) Zs (by rw[aA,e]) hd.1 hd.2 (D2.new hp) ((k1.trans k2).trans (.new hp))
     ·have:=congrArg List.length e
      rw[nF,nF,hts]at this;omega
     ·exact⟨by rw[nF,hts];omega,by rw[nF,hts];omega,fun c hc=>hlet c (List.mem_of_mem_take hc)⟩
   ·refine⟨d,b,g,rfl,D2,Zo,Zo,fun r5 H3 s0 s1 D3 k3=>?_⟩
    dsimp only [aK];refine⟨d,b,1+r5,rfl,D3,Zo,Zo,fun ra H4 a0 a1 D4 k4=>?_⟩
    dsimp only [aK];refine⟨h40,d,b,_,rfl,D4,Zo,Zo,fun rf H5 f0 f1 D5 k5=>?_⟩
    rw[lL]at f1;dsimp only [aK];obtain⟨a,rfl⟩:∃a:Nat,ra=a:=⟨ra.toNat,Zo⟩
    obtain⟨z5,rfl⟩:∃z:Nat,r5=z:=⟨r5.toNat,Zo⟩
    obtain⟨fz,rfl⟩:∃z:Nat,rf=z:=⟨rf.toNat,Zo⟩
    refine⟨gY (by rw[fS];omega),gY (by rw[fS];omega),dR rfl,fun tp htp=>?_⟩
    have g5:(aJ H5 tp (.tup [.str (tx (fI (tx ts).cps.toList none (some (a:Int)))),.str (tx (fI (tx ts).cps.toList (some ((a:Int)+1)) (some (1+(z5:Int)))))])) tp=some (.tup [.str (tx (ts.take a)),.str (tx ((ts.drop (a+1)).take (z5+1 - (a+1))))]):=by
     rw[aA,hcl,tP,show(a:Int)+1=((a+1:Nat):Int) by omega,show 1+(z5:Int)=((z5+1:Nat):Int) by omega,Hw ts Zo Zo]
    have k6:Kp d b H (aJ H5 tp (.tup [.str (tx (fI (tx ts).cps.toList none (some (a:Int)))),.str (tx (fI (tx ts).cps.toList (some ((a:Int)+1)) (some (1+(z5:Int)))))])):=((((k1.trans k2).trans k3).trans k4).trans k5).trans (.new htp)
    have D6:=D5.new (o:=.tup [.str (tx (fI (tx ts).cps.toList none (some (a:Int)))),.str (tx (fI (tx ts).cps.toList (some ((a:Int)+1)) (some (1+(z5:Int)))))]) htp
    dsimp only [aK];generalize aJ H5 tp (.tup [.str (tx (fI (tx ts).cps.toList none (some (a:Int)))),.str (tx (fI (tx ts).cps.toList (some ((a:Int)+1)) (some (1+(z5:Int)))))])=H6 at g5 k6 D6;refine⟨m,rfl,Zo,Zo,?_⟩
    refine bT (cR 0 (m:Int).toNat) (by rw[dC];omega) (fun i ys H'=>ys=((List.range i).map fun k=>tx (pN L ts a (z5+1) fz k)).map V.str/\H'=H6) (fun i ys H' ⟨e,_⟩=>⟨trivial,by rw[e];simp⟩) ⟨rfl,rfl⟩ (fun i x ys H' hx ⟨e,e2⟩=>?_) (fun ys H' ⟨e,e2⟩=>?_)
    ·subst e2;obtain⟨rfl,hi⟩:=iW hx
     have h0:0<L.length:=by omega
     have hL:=Xq (L:=L) (Nat.mod_lt (fz+i) h0)
     have t1:(tx (ts.take a)).length<=12:=by rw[fS,nF];omega
     have t2:(tx ((ts.drop (a+1)).take (z5+1 - (a+1)))).length<=12:=by rw[fS,nF,List.length_drop];omega
     refine⟨_,SqT.of g5,_,rfl,h40,by rw[lL];omega,h40,L.getD ((fz+i) % L.length) 0,?_,gY (by have:=fS [L.getD ((fz+i) % L.length) 0];simp only [uR,List.length_nil]at this;omega),_,SqT.of g5,_,rfl,gY ?_,?_,rfl⟩
     ·rw[lL,cL,show((fz:Int)+(i:Int)) % (L.length:Int)=(((fz+i) % L.length:Nat):Int) by rw[Int.natCast_emod,Int.natCast_add]]
      exact cE hL.2
     ·rw[tL,fS,sK,nF];simp only [uR,List.length_nil]
      omega
     ·rw[e,List.range_succ,jF,jF,tL,tL];rfl
    ·subst e2;intro p hp;rw[dC,em]at e;have hd:=D6.ne hp
     refine q p ((List.range m).map fun k=>tx (pN L ts a (z5+1) fz k)) _ (vZ (fun k k' hk hk' e=>?_) (fun k hk=>?_)) Zs (by rw[aA,e]) hd.1 hd.2 (D6.new hp) (k6.trans (.new hp))
     ·exact Hx hnd e Zo Zo
     ·exact Ng Zo hts hlet Zo Zo
end
end KL
namespace KL
open PySem L2
section
variable {P:Program} {w:World} {K:W.Frag} {mg:Str->Option Value} {base:Heap}
theorem aN {n:Nat} (h:Nat.ble n 1000=true):n<=1000:=Nat.le_of_ble_eq_true h
structure Fw (d b:Addr) (H H':Hp):Prop where
 d0:Dk H d b
 dk:Dk H' d b
 kp:Kp d b H H'
theorem Kp.same' {d b:Addr} {H H':Hp} (s:Same H H'):Kp d b H H':=fun c o e _ _=>s c o e
theorem Fw.refl {d b:Addr} {H:Hp} (D:Dk H d b):Fw d b H H:=⟨D,D,.refl⟩
theorem Fw.same {d b:Addr} {H H1 H2:Hp} (f:Fw d b H H1) (s:Same H1 H2):Fw d b H H2:=⟨f.d0,f.dk.same s,f.kp.trans (Kp.same' s)⟩
theorem Fw.new {d b p:Addr} {H H1:Hp} {o:HO} (f:Fw d b H H1) (h:H1 p=none):Fw d b H (aJ H1 p o):=⟨f.d0,f.dk.new h,f.kp.trans (.new h)⟩
theorem Fw.draw {d b:Addr} {H H1 H2:Hp} (f:Fw d b H H1) (D:Dk H2 d b) (k:Kp d b H1 H2):Fw d b H H2:=⟨f.d0,D,f.kp.trans k⟩
theorem Fw.trans {d b:Addr} {H H1 H2:Hp} (f:Fw d b H H1) (g:Fw d b H1 H2):Fw d b H H2:=⟨f.d0,g.dk,f.kp.trans g.kp⟩
theorem Fw.tk {d b:Addr} {H H':Hp} (f:Fw d b H H'):TK H H':=Kp.tk f.d0 f.kp
theorem Fw.tup {d b a:Addr} {H H':Hp} {xs:List V} (f:Fw d b H H') (g:H a=some (.tup xs)):H' a=some (.tup xs):=f.tk _ _ g
theorem Fw.get {d b a:Addr} {H H':Hp} {o:HO} (f:Fw d b H H') (g:H a=some o) (n1:a≠d) (n2:a≠b):H' a=some o:=f.kp _ _ g n1 n2
theorem eB {ws:List Str} {r:Int} (h0:0<=r) (h1:r<ws.length):∃(i:Nat) (hi:i<ws.length),r=i/\kT (ws.map V.str) r=some (.str ws[i]):=by
 obtain⟨j,rfl⟩:=Int.eq_ofNat_of_zero_le h0
 have hj:j<ws.length:=by omega
 exact⟨j,hj,rfl,cE (by rw[kE,iA hj];rfl)⟩
theorem zX {n i r:Nat} (hi:i<n) (hr:r+1<n):(i+1+r) % n<n/\(i+1+r) % n≠i:=by
 refine⟨Nat.mod_lt _ Zo,fun e=>?_⟩
 by_cases h:i+1+r<n
 ·rw[Nat.mod_eq_of_lt h]at e;omega
 ·rw[Nat.mod_eq_sub_mod Zo,Nat.mod_eq_of_lt Zo]at e;omega
theorem Pu {ws:List Str} (h:ws.Nodup) {i j:Nat} (hi:i<ws.length) (hj:j<ws.length) (hn:i≠j):ws[i]≠ws[j]:=by
 have p:=List.pairwise_iff_getElem.mp h
 rcases Nat.lt_or_gt_of_ne hn with z | z
 ·exact p i j hi hj z
 ·exact fun e=>p j i hj hi z e.symm
structure Menu (ws:List Str):Prop where
 of:WordsOf LET 8 ws
 two:2<=ws.length
 six:ws.length<=6
theorem Menu.nm {ws:List Str} (h:Menu ws) {i:Nat} (hi:i<ws.length):eZ ws[i]:=h.of.of _ (List.getElem_mem hi)
def oH:Sp:=fun vs H Q _=>∃(d b la lb:Addr) (ws us:List Str),vs=[.ref d,.ref la,.ref lb]/\Dk H d b/\H la=some (.lst (ws.map V.str))/\H lb=some (.lst (us.map V.str))/\(la≠d/\la≠b/\lb≠d/\lb≠b)/\Menu ws/\Menu us ∧
 ∀(t:Addr) (x:Dd) (H':Hp),x.Ok->H' t=some (.tup x.vs)->Fw d b H H'->Q (.ref t) H'
theorem Nh (T:Txt K mg) (cLdraw:aG P w K mg base 1 "_law_draw" ["_law_deck_here","_law_many"] bJ) (cLend:aG P w K mg base 2 "_law_end" ["_law_deck_here","_law_many"] bJ)
  (D:DefAt K mg "_law_deed" iJ ["_law_deck_here","_law_names","_law_houses"]):aG P w K mg base 3 "_law_deed" ["_law_deck_here","_law_names","_law_houses"] oH:=by
 refine D.go bS (fun vs H Q E h=>?_) (fun f cdv A outer s H vs Q E hr h=>?_)
 ·obtain⟨d,b,la,lb,ws,us,rfl,_⟩:=h;rfl
 ·obtain⟨d,b,la,lb,ws,us,rfl,dk,ga,gb,⟨n1,n2,n3,n4⟩,mw,mu,q⟩:=h
  have hLdraw:Room 1 _:=hr.mono Zd
  have hLend:Room 2 _:=hr.mono Zd
  have w2:=mw.two
  have w6:=mw.six
  have u2:=mu.two
  have u6:=mu.six
  refine⟨_,(R.ae (R.ai (i:=3) bS.nd (R.ix (R.ar (K:=K)) (R.av (R.aa (R.op R.au R.ac (R.fn cLdraw hLdraw rfl (R.aa (R.v 0) (R.aa R.ac R.ad)))) (R.aa (R.op R.au R.ac (R.fn cLend hLend rfl (R.aa (R.v 0) (R.aa (R.op R.bg R.ac R.ac) R.ad)))) R.ad))) (R.fn cLdraw hLdraw rfl (R.aa (R.v 0) (R.aa R.ac R.ad))))) (R.ae (R.ai (i:=4) bS.nd (R.fn cLdraw hLdraw rfl (R.aa (R.v 0) (R.aa (R.aw (R.az (K:=K)) rfl T.b_len bC (R.aa (R.v 1) R.ad)) R.ad)))) (R.ae (R.ai (i:=5) bS.nd (R.ix (R.ar (K:=K)) (R.v 1) (R.v 4))) (R.ae (R.ai (i:=6) bS.nd (R.ix (R.ar (K:=K)) (R.v 1) (R.op R.di (R.op R.au (R.op R.au (R.v 4) R.ac) (R.fn cLdraw hLdraw rfl (R.aa (R.v 0) (R.aa (R.op R.bi (R.aw (R.az (K:=K)) rfl T.b_len bC (R.aa (R.v 1) R.ad)) R.ac) R.ad)))) (R.aw (R.az (K:=K)) rfl T.b_len bC (R.aa (R.v 1) R.ad))))) (R.ae (R.ai (i:=7) bS.nd (R.fn cLdraw hLdraw rfl (R.aa (R.v 0) (R.aa (R.aw (R.az (K:=K)) rfl T.b_len bC (R.aa (R.v 2) R.ad)) R.ad)))) (R.ae (R.ai (i:=8) bS.nd (R.ix (R.ar (K:=K)) (R.v 2) (R.v 7))) (R.ae (R.ai (i:=9) bS.nd (R.ix (R.ar (K:=K)) (R.v 2) (R.op R.di (R.op R.au (R.op R.au (R.v 7) R.ac) (R.fn cLdraw hLdraw rfl (R.aa (R.v 0) (R.aa (R.op R.bi (R.aw (R.az (K:=K)) rfl T.b_len bC (R.aa (R.v 2) R.ad)) R.ac) R.ad)))) (R.aw (R.az (K:=K)) rfl T.b_len bC (R.aa (R.v 2) R.ad))))) (R.ae (R.ai (i:=10) bS.nd (R.av (R.aa (R.ak (R.aa R.ag (R.aa (R.v 5) (R.aa (R.v 3) R.ad)))) (R.aa (R.ak (R.aa R.ag (R.aa (R.v 5) (R.aa (R.v 3) R.ad)))) (R.aa (R.ak (R.aa R.ag (R.aa (R.v 5) (R.aa (R.v 6) (R.aa (R.v 3) R.ad))))) R.ad))))) (R.ae (R.ai (i:=10) bS.nd (R.op R.bw (R.v 10) (R.av (R.aa (R.ak (R.aa R.ag (R.aa (R.v 8) (R.aa (R.v 5) (R.aa (R.v 3) R.ad))))) (R.aa (R.ak (R.aa R.ag (R.aa (R.v 8) (R.aa (R.v 5) (R.aa (R.v 3) R.ad))))) (R.aa (R.ak (R.aa R.ag (R.aa (R.v 8) (R.aa (R.v 9) (R.aa (R.v 5) (R.aa (R.v 3) R.ad)))))) R.ad)))))) (R.ah (R.al (R.ix (R.ar (K:=K)) (R.v 10) (R.fn cLdraw hLdraw rfl (R.aa (R.v 0) (R.aa R.ac R.ad))))))))))))))),?_⟩
  refine aY (fun σ' H'=>∃n:Nat,σ'=[some (.ref d),some (.ref la),some (.ref lb),some (.int (n:Int)),none,none,none,none,none,none,none]/\1<=n/\n<=1000000000000/\Fw d b H H') (fun nx hnx=>?_) ?_
  ·refine⟨d,b,9,rfl,dk,Zd,Zd,fun r1 H1 a0 a1 D1 k1=>⟨⟨Zd,Zd,Zd⟩,d,b,_,rfl,D1,Zd,Zd,fun r2 H2 b0 b1 D2 k2=>⟨dR rfl,fun p hp=>⟨d,b,2,rfl,D2.new hp,Zd,Zd,fun r3 H3 c0 c1 D3 k3=>?_⟩⟩⟩⟩
   have hpd:=D2.ne hp
   have gp:=k3 p _ aA hpd.1 hpd.2
   have ff:=((((Fw.refl dk).draw D1 k1).draw D2 k2).new hp).draw D3 k3
   have b1':r2<1000000000000:=b1
   rcases(by omega:r3=0∨r3=1) with rfl | rfl
   ·refine⟨_,SqL.of gp,_,rfl,hnx _ _ ⟨(1+r1).toNat,?_,Zo,Zo,ff⟩⟩
    rw[Int.toNat_of_nonneg Zo]
    rfl
   ·refine⟨_,SqL.of gp,_,rfl,hnx _ _ ⟨(1+r2).toNat,?_,Zo,Zo,ff⟩⟩
    rw[Int.toNat_of_nonneg Zo]
    rfl
  ·rintro σ' H1 ⟨n,rfl,hn1,hn2,f1⟩
   have ga1:=f1.get ga n1 n2
   have gb1:=f1.get gb n3 n4
   refine⟨_,.inl (SqL.of ga1),d,b,_,rfl,f1.dk,by rw[bG];omega,by rw[bG];omega,fun r2 H2 b0 b1 D2 k2=>?_⟩
   rw[bG]at b1;have f2:=f1.draw D2 k2
   have ga2:=f2.get ga n1 n2
   obtain⟨i,hi,rfl,ei⟩:=eB b0 b1
   dsimp only [aK];refine⟨_,SqL.of ga2,_,ei,?_⟩
   dsimp only [aK];refine⟨_,.inl (SqL.of ga2),d,b,_,rfl,f2.dk,by rw[bG];omega,by rw[bG];omega,fun r3 H3 c0 c1 D3 k3=>?_⟩
   rw[bG]at c1;have f3:=f2.draw D3 k3
   have ga3:=f3.get ga n1 n2
   obtain⟨r3,rfl⟩:∃z:Nat,r3=z:=⟨r3.toNat,Zo⟩
   obtain⟨hj,hji⟩:=zX (r:=r3) hi Zo
   have ej:((i:Int)+1+(r3:Int)) % ((ws.map V.str).length:Int)=(((i+1+r3) % ws.length:Nat):Int):=by
    rw[bG,Int.natCast_emod];rfl
   refine⟨_,.inl (SqL.of ga3),by rw[bG];omega,_,SqL.of ga3,V.str ws[(i+1+r3) % ws.length],?_,?_⟩
   ·rw[ej];exact cE (by rw[kE,iA hj];rfl)
   have hne:=Pu mw.of.nd hi hj (fun e=>hji e.symm)
   have nmi:=mw.nm hi
   have nmj:=mw.nm hj
   generalize ws[(i+1+r3) % ws.length]=zb at hne nmj;generalize ws[i]=za at hne nmi;dsimp only [aK];have gb3:=f3.get gb n3 n4
   refine⟨_,.inl (SqL.of gb3),d,b,_,rfl,f3.dk,by rw[bG];omega,by rw[bG];omega,fun r4 H4 d0 d1 D4 k4=>?_⟩
   rw[bG]at d1;have f4:=f3.draw D4 k4
   have gb4:=f4.get gb n3 n4
   obtain⟨u,hu',rfl,eu⟩:=eB d0 d1
   dsimp only [aK];refine⟨_,SqL.of gb4,_,eu,?_⟩
   dsimp only [aK];refine⟨_,.inl (SqL.of gb4),d,b,_,rfl,f4.dk,by rw[bG];omega,by rw[bG];omega,fun r5 H5 e0 e1 D5 k5=>?_⟩
   rw[bG]at e1;have f5:=f4.draw D5 k5
   have gb5:=f5.get gb n3 n4
   obtain⟨r5,rfl⟩:∃z:Nat,r5=z:=⟨r5.toNat,Zo⟩
   obtain⟨hv,hvu⟩:=zX (r:=r5) hu' Zo
   have ev:((u:Int)+1+(r5:Int)) % ((us.map V.str).length:Int)=(((u+1+r5) % us.length:Nat):Int):=by
    rw[bG,Int.natCast_emod];rfl
   refine⟨_,.inl (SqL.of gb5),by rw[bG];omega,_,SqL.of gb5,V.str us[(u+1+r5) % us.length],?_,?_⟩
   ·rw[ev];exact cE (by rw[kE,iA hv];rfl)
   have hne2:=Pu mu.of.nd hu' hv (fun e=>hvu e.symm)
   have nmu:=mu.nm hu'
   have nmv:=mu.nm hv
   generalize us[(u+1+r5) % us.length]=zv at hne2 nmv;generalize us[u]=zu at hne2 nmu;dsimp only [aK];refine⟨aN rfl,fun t1 H6 s6 g6=>⟨aN rfl,fun t2 H7 s7 g7=>⟨aN rfl,fun t3 H8 s8 g8=>⟨dR rfl,fun p hp=>?_⟩⟩⟩⟩
   have s58:Same H5 H8:=(s6.trans s7).trans s8
   have f8:=f5.same s58
   have h1:=s8 _ _ (s7 _ _ g6)
   have h2:=s8 _ _ g7
   have gp:(aJ H8 p (.lst [.ref t1,.ref t2,.ref t3])) p=some (.lst [.ref t1,.ref t2,.ref t3]):=aA
   have sp:=aF (o:=.lst [.ref t1,.ref t2,.ref t3]) hp
   dsimp only [aK];generalize aJ H8 p (.lst [.ref t1,.ref t2,.ref t3])=H9 at gp sp;refine⟨aN rfl,fun t4 Ha sa g4=>⟨aN rfl,fun t5 Hb sb g5=>⟨aN rfl,fun t6 Hc sc g9=>⟨dR rfl,fun p2 hp2=>?_⟩⟩⟩⟩
   have s9c:Same H9 Hc:=(sa.trans sb).trans sc
   have gp2:(aJ Hc p2 (.lst [.ref t4,.ref t5,.ref t6])) p2=some (.lst [.ref t4,.ref t5,.ref t6]):=aA
   have sp2:=aF (o:=.lst [.ref t4,.ref t5,.ref t6]) hp2
   generalize aJ Hc p2 (.lst [.ref t4,.ref t5,.ref t6])=Hd at gp2 sp2;have s9d:=s9c.trans sp2
   refine⟨_,_,s9d _ _ gp,gp2,dR rfl,fun p3 hp3=>?_⟩
   have fd:=f8.same (sp.trans s9d)
   have hp3d:=fd.dk.ne hp3
   have s8e:Same H8 (aJ Hd p3 (.lst ([.ref t1,.ref t2,.ref t3]++[.ref t4,.ref t5,.ref t6]))):=(sp.trans s9d).trans (aF hp3)
   have gt3:(aJ Hd p3 (.lst ([.ref t1,.ref t2,.ref t3]++[.ref t4,.ref t5,.ref t6]))) p3=some (.lst [.ref t1,.ref t2,.ref t3,.ref t4,.ref t5,.ref t6]):=aA
   have g4':=(sp2.trans (aF hp3 (o:=.lst ([.ref t1,.ref t2,.ref t3]++[.ref t4,.ref t5,.ref t6])))) _ _ (sc _ _ (sb _ _ g4))
   have g5':=(sp2.trans (aF hp3 (o:=.lst ([.ref t1,.ref t2,.ref t3]++[.ref t4,.ref t5,.ref t6])))) _ _ (sc _ _ g5)
   have g6':=(sp2.trans (aF hp3 (o:=.lst ([.ref t1,.ref t2,.ref t3]++[.ref t4,.ref t5,.ref t6])))) _ _ g9
   have f9:=f8.same s8e
   have h1':=s8e _ _ h1
   have h2':=s8e _ _ h2
   have h3':=s8e _ _ g8
   dsimp only [aK];generalize aJ Hd p3 (.lst ([.ref t1,.ref t2,.ref t3]++[.ref t4,.ref t5,.ref t6]))=He at gt3 g4' g5' g6' f9 h1' h2' h3';refine⟨d,b,6,rfl,f9.dk,Zd,Zd,fun r6 Hf i0 i1 Df kf=>?_⟩
   have ff:=f9.draw Df kf
   have F1:=Fw.draw (.refl f9.dk) Df kf
   have gq:=kf _ _ gt3 hp3d.1 hp3d.2
   rcases six i0 i1 with rfl | rfl | rfl | rfl | rfl | rfl
   ·exact⟨_,SqL.of gq,_,rfl,q _ (.add za n) _ ⟨nmi,hn1,hn2⟩ (F1.tup h1') ff⟩
   ·exact⟨_,SqL.of gq,_,rfl,q _ (.take za n) _ ⟨nmi,hn1,hn2⟩ (F1.tup h2') ff⟩
   ·exact⟨_,SqL.of gq,_,rfl,q _ (.move za zb n) _ ⟨nmi,nmj,hne,hn1,hn2⟩ (F1.tup h3') ff⟩
   ·exact⟨_,SqL.of gq,_,rfl,q _ (.send zu za n) _ ⟨nmu,nmi,hn1,hn2⟩ (F1.tup g4') ff⟩
   ·exact⟨_,SqL.of gq,_,rfl,q _ (.fetch zu za n) _ ⟨nmu,nmi,hn1,hn2⟩ (F1.tup g5') ff⟩
   ·exact⟨_,SqL.of gq,_,rfl,q _ (.pass zu zv za n) _ ⟨nmu,nmv,nmi,hne2,hn1,hn2⟩ (F1.tup g6') ff⟩
end
end KL
namespace KL
open PySem L2
section
variable {P:Program} {w:World} {K:W.Frag} {mg:Str->Option Value} {base:Heap}
def kB:Dd->Bool->List Str
 | .add _ _,_=>["is","full"]
 | .take _ _,_=>["is","short"]
 | .move _ _ _,_=>["is","short","full"]
 | .send _ _ _,true=>["is","no"] | .send _ _ _,false=>["short"]
 | .fetch _ _ _,true=>["is","no"] | .fetch _ _ _,false=>["full"]
 | .pass _ _ _ _,true=>["ok","no"] | .pass _ _ _ _,false=>[]
def lK:Sp:=fun vs H Q _=>∃(t:Addr) (x:Dd) (q:Bool),vs=[.ref t,.bl q]/\H t=some (.tup x.vs)/\∀l H',H l=none->H' l=some (.lst ((kB x q).map V.str))->Same H H'->Q (.ref l) H'
def kv6 (v1 v2 v3 v4 v5 v6:V):List (aT × V):=bO (bO (aS [] [(Sum.inr ("add":Str),v1),(Sum.inr ("take":Str),v2),(Sum.inr ("move":Str),v3),(Sum.inr ("pass":Str),v4)]) (Sum.inr ("send":Str)) v5) (Sum.inr ("fetch":Str)) v6
theorem Uc (v1 v2 v3 v4 v5 v6:V) (x:Dd):bE (kv6 v1 v2 v3 v4 v5 v6) (Sum.inr x.wd)=some (match x with | .add _ _=>v1 | .take _ _=>v2 | .move _ _ _=>v3 | .pass _ _ _ _=>v4 | .send _ _ _=>v5 | .fetch _ _ _=>v6):=by
 cases x <;> rfl
theorem nO (x:Dd):kT x.vs 0=some (.str x.wd):=by cases x <;> rfl
theorem Ud (x:Dd):kU (.str x.wd) [.str "add",.str "take",.str "move"]=!x.far:=by cases x <;> rfl
def iX:Dd->List Str
 | .add _ _=>["is","full"] | .take _ _=>["is","short"] | .move _ _ _=>["is","short","full"] | .send _ _ _=>["is","short","no"] | .fetch _ _ _=>["is","full","no"] | .pass _ _ _ _=>["ok","no"]
theorem pO (x:Dd) (h:x.far=false) (q:Bool):kB x q=iX x:=by cases x <;> first | rfl | cases h
theorem oI (x:Dd) (h:x.far=true) (q:Bool):kB x q=(iX x).filter fun z=>(kU (.str z) [.str "short",.str "full"]) != q:=by cases x <;> cases q <;> first | rfl | cases h
theorem Hy (x:Dd):(iX x).length<=3:=by cases x <;> exact Nat.le_of_ble_eq_true rfl
theorem cO {H:Hp} {p:Addr} {kvs:List (aT × V)} (e:H p=some (.dK kvs)) (kvs':List (aT × V)) {c:Addr} {o:HO} (ec:H c=some o) (ne:∀z,o≠.dK z):(aJ H p (.dK kvs')) c=some o:=by
 rw[aD (fun z=>by rw[z,e]at ec;cases ec;exact ne _ rfl)];exact ec
theorem cH {H H1:Hp} {p:Addr} {o:HO} (hp:H p=none) (s:Same H H1):Same H (aJ H1 p o):=fun c u e=>by
 rw[aD (aE e hp)];exact s _ _ e
theorem Hz (T:Txt K mg) (D:DefAt K mg "_law_words" fF ["_law_deed_here","_law_asked"]):aG P w K mg base 1 "_law_words" ["_law_deed_here","_law_asked"] lK:=by
 refine D.go iR (fun vs H Q E h=>?_) (fun f cdv A outer s H vs Q E hr h=>?_)
 ·obtain⟨t,x,q,rfl,_⟩:=h;rfl
 ·obtain⟨t,x,qq,rfl,gt,q⟩:=h
  have hu1:=eG hr
  refine⟨_,(R.ae (R.ai (i:=2) iR.nd (R.fo (R.cv R.ag (R.av (R.aa R.ag (R.aa R.ag R.ad))) (R.cv R.ag (R.av (R.aa R.ag (R.aa R.ag R.ad))) (R.cv R.ag (R.av (R.aa R.ag (R.aa R.ag (R.aa R.ag R.ad)))) (R.cv R.ag (R.av (R.aa R.ag (R.aa R.ag R.ad))) R.fq)))))) (R.ae (R.br (R.av (R.aa R.ag (R.aa R.ag (R.aa R.ag R.ad)))) (R.cg (R.v 2) R.ag (R.cq hu1))) (R.ae (R.br (R.av (R.aa R.ag (R.aa R.ag (R.aa R.ag R.ad)))) (R.cg (R.v 2) R.ag (R.cq hu1))) (R.ae (R.ai (i:=3) iR.nd (R.dh hu1 (R.v 2) (R.ix (R.af (K:=K)) (R.v 0) R.ac))) (R.ae (R.ap (R.ao (R.be (K:=K)) (R.ix (R.af (K:=K)) (R.v 0) R.ac) (R.ak (R.aa R.ag (R.aa R.ag (R.aa R.ag R.ad))))) (R.ah (R.al (R.v 3))) R.aq) (R.ah (R.al (R.bc rfl (js:=[none,some 1]) (N:=["_law_word","_law_asked"]) (CompScope.by (aB fF) ["_law_deed_here","_law_asked","_law_words_here","_law_some"] rfl rfl Zk) (bA rfl) (R.bo (K:=K) (R.v 3)) (fun C s₂ H₂ fp=>⟨(R.gn (i:=0) (show(["_law_word","_law_asked"]:List Str).Nodup by decide +kernel)),(R.bu (R.ao R.ne (R.ay (R.be (K:=K)) (R.v 0) (R.ak (R.aa R.ag (R.aa R.ag R.ad)))) (R.v 1))),(R.v 0)⟩))))))))),?_⟩
  refine fun p hp=>?_
  have g0:(aJ H p (.dK [])) p=some (.dK []):=aA
  have s0:=aF (o:=.dK []) hp
  generalize aJ H p (.dK [])=H0 at g0 s0;refine⟨dR rfl,fun p1 hp1=>⟨dR rfl,fun p2 hp2=>⟨dR rfl,fun p3 hp3=>⟨dR rfl,fun p4 hp4=>?_⟩⟩⟩⟩
  have s1:=aF (o:=.lst [.str "is",.str "full"]) hp1
  have i1:(aJ H0 p1 (.lst [.str "is",.str "full"])) p1=_:=aA
  have f1:H p1=none:=s0.free hp1
  generalize aJ H0 p1 (.lst [.str "is",.str "full"])=H1 at s1 i1 hp2 hp3 hp4 ⊢;have s2:=aF (o:=.lst [.str "is",.str "short"]) hp2
  have i2:(aJ H1 p2 (.lst [.str "is",.str "short"])) p2=_:=aA
  have f2:H p2=none:=(s0.trans s1).free hp2
  generalize aJ H1 p2 (.lst [.str "is",.str "short"])=H2 at s2 i2 hp3 hp4 ⊢;have s3:=aF (o:=.lst [.str "is",.str "short",.str "full"]) hp3
  have i3:(aJ H2 p3 (.lst [.str "is",.str "short",.str "full"])) p3=_:=aA
  have f3:H p3=none:=((s0.trans s1).trans s2).free hp3
  generalize aJ H2 p3 (.lst [.str "is",.str "short",.str "full"])=H3 at s3 i3 hp4 ⊢;have s4:=aF (o:=.lst [.str "ok",.str "no"]) hp4
  have i4:(aJ H3 p4 (.lst [.str "ok",.str "no"])) p4=_:=aA
  have f4:H p4=none:=(((s0.trans s1).trans s2).trans s3).free hp4
  generalize aJ H3 p4 (.lst [.str "ok",.str "no"])=H4 at s4 i4 ⊢;have S04:Same H0 H4:=((s1.trans s2).trans s3).trans s4
  have g4:=S04 _ _ g0
  refine⟨g4,[(Sum.inr ("add":Str),.ref p1),(Sum.inr ("take":Str),.ref p2),(Sum.inr ("move":Str),.ref p3),(Sum.inr ("pass":Str),.ref p4)],rfl,Nat.le_of_ble_eq_true rfl,?_⟩
  have S4:Same H H4:=s0.trans S04
  replace i1:=s4 _ _ (s3 _ _ (s2 _ _ i1))
  replace i2:=s4 _ _ (s3 _ _ i2)
  replace i3:=s4 _ _ i3
  show sO _ _ _ [some (.ref t),some (.bl qq),some (.ref p),none] (aJ H4 p (.dK (aS [] [(Sum.inr ("add":Str),.ref p1),(Sum.inr ("take":Str),.ref p2),(Sum.inr ("move":Str),.ref p3),(Sum.inr ("pass":Str),.ref p4)])))
  generalize hk:aS [] [(Sum.inr ("add":Str),V.ref p1),(Sum.inr ("take":Str),.ref p2),(Sum.inr ("move":Str),.ref p3),(Sum.inr ("pass":Str),.ref p4)]=kv4;have l4:kv4.length=4:=by rw[<- hk];rfl
  have S5:Same H (aJ H4 p (.dK kv4)):=cH hp S4
  have g5:(aJ H4 p (.dK kv4)) p=_:=aA
  replace i1:=cO g4 kv4 i1 (fun _ z=>nomatch z)
  replace i2:=cO g4 kv4 i2 (fun _ z=>nomatch z)
  replace i3:=cO g4 kv4 i3 (fun _ z=>nomatch z)
  replace i4:=cO g4 kv4 i4 (fun _ z=>nomatch z)
  generalize aJ H4 p (.dK kv4)=H5 at i1 i2 i3 i4 S5 g5 ⊢;refine⟨dR rfl,fun p5 hp5=>⟨p,_,rfl,DPut.k (k:=Sum.inr ("send":Str)) (aO g5 hp5) (oK (m:=100) Zo Zd),?_⟩⟩
  have f5:H p5=none:=S5.free hp5
  have s6:=aF (o:=.lst [.str "is",.str "short",.str "no"]) hp5
  have i5:(aJ H5 p5 (.lst [.str "is",.str "short",.str "no"])) p5=_:=aA
  have g6:=s6 _ _ g5
  generalize aJ H5 p5 (.lst [.str "is",.str "short",.str "no"])=H6 at s6 i5 g6 ⊢;generalize hk5:bO kv4 (Sum.inr ("send":Str)) (V.ref p5)=kv5;have l5:kv5.length<=5:=by rw[<- hk5];exact kK (cJ _ _ _) Zo
  have S7:Same H (aJ H6 p (.dK kv5)):=cH hp (S5.trans s6)
  have g7:(aJ H6 p (.dK kv5)) p=_:=aA
  replace i1:=cO g6 kv5 (s6 _ _ i1) (fun _ z=>nomatch z)
  replace i2:=cO g6 kv5 (s6 _ _ i2) (fun _ z=>nomatch z)
  replace i3:=cO g6 kv5 (s6 _ _ i3) (fun _ z=>nomatch z)
  replace i4:=cO g6 kv5 (s6 _ _ i4) (fun _ z=>nomatch z)
  replace i5:=cO g6 kv5 i5 (fun _ z=>nomatch z)
  generalize aJ H6 p (.dK kv5)=H7 at i1 i2 i3 i4 i5 S7 g7 ⊢;refine⟨dR rfl,fun p6 hp6=>⟨p,_,rfl,DPut.k (k:=Sum.inr ("fetch":Str)) (aO g7 hp6) (oK (m:=100) Zo Zd),?_⟩⟩
  have f6:H p6=none:=S7.free hp6
  have s8:=aF (o:=.lst [.str "is",.str "full",.str "no"]) hp6
  have i6:(aJ H7 p6 (.lst [.str "is",.str "full",.str "no"])) p6=_:=aA
  have g8:=s8 _ _ g7
  generalize aJ H7 p6 (.lst [.str "is",.str "full",.str "no"])=H8 at s8 i6 g8 ⊢;generalize hk6:bO kv5 (Sum.inr ("fetch":Str)) (V.ref p6)=kv6';have ek:kv6'=kv6 (.ref p1) (.ref p2) (.ref p3) (.ref p4) (.ref p5) (.ref p6):=by rw[<- hk6,<- hk5,<- hk];rfl
  have S9:Same H (aJ H8 p (.dK kv6')):=cH hp (S7.trans s8)
  have g9:(aJ H8 p (.dK kv6')) p=_:=aA
  replace i1:=cO g8 kv6' (s8 _ _ i1) (fun _ z=>nomatch z)
  replace i2:=cO g8 kv6' (s8 _ _ i2) (fun _ z=>nomatch z)
  replace i3:=cO g8 kv6' (s8 _ _ i3) (fun _ z=>nomatch z)
  replace i4:=cO g8 kv6' (s8 _ _ i4) (fun _ z=>nomatch z)
  replace i5:=cO g8 kv6' (s8 _ _ i5) (fun _ z=>nomatch z)
  replace i6:=cO g8 kv6' i6 (fun _ z=>nomatch z)
  generalize aJ H8 p (.dK kv6')=H9 at i1 i2 i3 i4 i5 i6 S9 g9 ⊢;have key:∃pl:Addr,bE kv6' (Sum.inr x.wd)=some (.ref pl)/\H pl=none/\H9 pl=some (.lst ((iX x).map V.str)):=by
   rw[ek,Uc];cases x with
   | add a n=>exact⟨p1,rfl,f1,i1⟩
   | take a n=>exact⟨p2,rfl,f2,i2⟩
   | move a b n=>exact⟨p3,rfl,f3,i3⟩
   | send a b n=>exact⟨p5,rfl,f5,i5⟩
   | fetch a b n=>exact⟨p6,rfl,f6,i6⟩
   | pass a b c n=>exact⟨p4,rfl,f4,i4⟩
  obtain⟨pl,hv,fl,gl⟩:=key
  have dg:DGet H9 p (.str x.wd) (some (.ref pl)):=by rw[<- hv];exact DGet.k (k:=Sum.inr x.wd) g9
  have gt9:=S9 _ _ gt
  refine⟨_,SqT.of gt9,_,nO x,p,_,rfl,dg,?_⟩
  dsimp only [aK];refine⟨_,SqT.of gt9,_,nO x,aN rfl,fun tq Ha sa ga=>⟨tq,_,rfl,.inr (SqT.of ga),rfl,rfl,?_⟩⟩
  have Sa:Same H Ha:=S9.trans sa
  show if kU (.str x.wd) [.str "add",.str "take",.str "move"]=true then _ else _
  rw[Ud];cases hf:x.far with
  | false=>
   refine Cg rfl ?_
   refine q pl Ha fl ?_ Sa
   rw[pO x hf];exact sa _ _ gl
  | true=>
   refine tO rfl ?_
   have gla:=sa _ _ gl
   refine⟨pl,rfl,⟨_,SqL.of gla⟩,?_⟩
   refine bT (cU K pl ((iX x).map V.str)) (by have:=Hy x;rw[bG];omega) (fun i ys H'=>ys=(((iX x).take i).filter fun z=>(kU (.str z) [.str "short",.str "full"]) != qq).map V.str/\Same H H'/\H' pl=some (.lst ((iX x).map V.str))) (fun i ys H' ⟨e,_,gl'⟩=>⟨SqL.of gl',by rw[e,bG];exact kK (List.length_filter_le _ _) (by rw[nF];omega)⟩) ⟨rfl,Sa,gla⟩ (fun i y ys H' hy ⟨e,S',gl'⟩=>?_) (fun ys H' ⟨e,S',gl'⟩=>?_)
   ·rw[kE]at hy;cases hz:(iX x)[i]? with
    | none=>rw[hz]at hy;cases hy
    | some z=>
     rw[hz]at hy;cases hy
     have key:=take_succ_filter (fun z=>(kU (.str z) [.str "short",.str "full"]) != qq) (iX x) i z hz
     refine⟨aN rfl,fun tp Hb sb gb=>⟨tp,_,rfl,.inr (SqT.of gb),rfl,rfl,?_⟩⟩
     show if (!decide (kU (.str z) [.str "short",.str "full"]=qq))=true then _ else _
     have eb:(!decide (kU (.str z) [.str "short",.str "full"]=qq))=(kU (.str z) [.str "short",.str "full"] != qq):=by cases kU (.str z) [.str "short",.str "full"] <;> cases qq <;> rfl
     rw[eb];refine bF (fun h=>⟨?_,S'.trans sb,sb _ _ gl'⟩) (fun h=>⟨?_,S'.trans sb,sb _ _ gl'⟩)
     ·rw[key,if_pos h,jF,e];rfl
     ·rw[key,if_neg (by rw[h];exact Bool.false_ne_true),List.append_nil,e]
   ·intro pn hpn;refine q pn _ (S'.free hpn) ?_ (S'.trans (aF hpn))
    rw[aA,e,bG,rA (bM _),oI x hf]
end
end KL
namespace KL
open PySem L2
section
variable {P:Program} {w:World} {K:W.Frag} {mg:Str->Option Value} {base:Heap}
def jR:An->Str | .is1 _=>"is" | .is2 _ _=>"is" | .short _=>"short" | .full _=>"full" | .no _=>"no" | .ok=>"ok"
def uF:Sp:=fun vs H Q _=>∃(d b t:Addr) (x:Dd) (z:Str),vs=[.ref d,.ref t,.str z]/\Dk H d b/\H t=some (.tup x.vs)/\x.Ok/\z∈iX x ∧
 ∀(c:Addr) (y:An) (H':Hp),An.Of x y->jR y=z->H' c=some (.tup y.vs)->Fw d b H H'->Q (.ref c) H'
theorem yC (x:Dd):kT x.vs (-1)=some (.int (x.n:Int)):=by cases x <;> rfl
theorem eK {r:Int} (h:0<=r):∃z:Nat,r=z:=⟨r.toNat,Zo⟩
theorem Cw (T:Txt K mg) (cLdraw:aG P w K mg base 1 "_law_draw" ["_law_deck_here","_law_many"] bJ) (cLend:aG P w K mg base 2 "_law_end" ["_law_deck_here","_law_many"] bJ)
  (D:DefAt K mg "_law_answer" fM ["_law_deck_here","_law_deed_here","_law_word"]):aG P w K mg base 3 "_law_answer" ["_law_deck_here","_law_deed_here","_law_word"] uF:=by
 refine D.go eW (fun vs H Q E h=>?_) (fun f cdv A outer s H vs Q E hr h=>?_)
 ·obtain⟨d,b,t,x,z,rfl,_⟩:=h;rfl
 ·obtain⟨d,b,t,x,z,rfl,dk,gt,hx,hz,q⟩:=h
  have hLdraw:Room 1 _:=hr.mono Zd
  have hLend:Room 2 _:=hr.mono Zd
  have hn:=hx.n
  refine⟨_,(R.ae (R.ai (i:=3) eW.nd (R.ix (R.af (K:=K)) (R.v 1) (R.ax R.ac))) (R.ae (R.ai (i:=4) eW.nd (R.fn cLend hLend rfl (R.aa (R.v 0) (R.aa (R.op R.au (R.op R.bi (R.op R.bg R.ac R.ac) (R.v 3)) R.ac) R.ad)))) (R.ae (R.ai (i:=5) eW.nd (R.op R.au (R.v 3) (R.fn cLend hLend rfl (R.aa (R.v 0) (R.aa (R.op R.au (R.op R.bi (R.op R.bg R.ac R.ac) (R.v 3)) R.ac) R.ad))))) (R.ae (R.ap (R.ao R.eq (R.v 2) R.ag) (R.ah (R.al (R.ak (R.aa R.ag (R.aa (R.ix (R.af (K:=K)) (R.v 1) (R.op R.au R.ac (R.op R.dz (R.fn cLdraw hLdraw rfl (R.aa (R.v 0) (R.aa R.ac R.ad))) (R.bj R.ee rfl T.b_int jI (R.aa (R.ay R.eq (R.ix (R.af (K:=K)) (R.v 1) R.ac) R.ag) R.ad))))) R.ad))))) R.aq) (R.ae (R.ap (R.ao R.eq (R.v 2) R.ag) (R.ah (R.al (R.ak (R.aa R.ag R.ad)))) R.aq) (R.ae (R.ap (R.ao R.eq (R.v 2) R.ag) (R.ah (R.al (R.ak (R.aa R.ag (R.aa (R.fn cLend hLend rfl (R.aa (R.v 0) (R.aa (R.v 3) R.ad))) R.ad))))) R.aq) (R.ae (R.ap (R.ao R.eq (R.v 2) R.ag) (R.ah (R.al (R.ak (R.aa R.ag (R.aa (R.op R.bi (R.op R.bg R.ac R.ac) (R.fn cLend hLend rfl (R.aa (R.v 0) (R.aa (R.v 3) R.ad)))) R.ad))))) R.aq) (R.ae (R.ap (R.ao R.eq (R.ix (R.af (K:=K)) (R.v 1) R.ac) R.ag) (R.ah (R.al (R.ak (R.aa R.ag (R.aa (R.v 4) (R.aa (R.v 5) R.ad)))))) R.aq) (R.ah (R.al (R.ak (R.aa R.ag (R.aa (R.ix (R.ar (K:=K)) (R.av (R.aa (R.v 4) (R.aa (R.v 5) R.ad))) (R.bj R.ee rfl T.b_int jI (R.aa (R.ay (R.be (K:=K)) (R.ix (R.af (K:=K)) (R.v 1) R.ac) (R.ak (R.aa R.ag (R.aa R.ag R.ad)))) R.ad))) R.ad))))))))))))),?_⟩
  refine⟨_,SqT.of gt,_,yC x,?_⟩
  dsimp only [aK];refine⟨⟨Zd,Zd,Zd⟩,d,b,1000000000000 - (x.n:Int)+1,rfl,dk,Zo,Zo,fun r1 H1 a0 a1 D1 k1=>?_⟩
  dsimp only [aK];refine⟨⟨Zd,Zd,Zd⟩,d,b,1000000000000 - (x.n:Int)+1,rfl,D1,Zo,Zo,fun r2 H2 b0 b1 D2 k2=>?_⟩
  dsimp only [aK];have f2:=((Fw.refl dk).draw D1 k1).draw D2 k2
  obtain⟨r1,rfl⟩:=eK a0
  obtain⟨r2,rfl⟩:=eK b0
  have gt2:=f2.tup gt
  have ff:=f2
  dsimp only [xM,mI];show sO _ _ _ [some (.ref d),some (.ref t),some (.str z),some (.int (x.n:Int)),some (.int (r1:Int)),some (.int ((x.n:Int)+(r2:Int)))] H2
  cases x with
  | add a n=>
   simp only [Dd.n]at hn a1 b1
   simp only [iX,List.mem_cons,List.not_mem_nil,or_false]at hz
   rcases hz with rfl | rfl
   ·refine⟨_,SqT.of gt2,_,rfl,⟨dR rfl,fun p hp=>⟨_,SqT.of (aO gt2 hp),_,rfl,aN rfl,fun tq Ha sa ga=>⟨tq,_,rfl,.inr (SqT.of ga),rfl,rfl,⟨_,SqL.of (sa _ _ aA),_,rfl,aN rfl,fun p' H' s' g'=>?_⟩⟩⟩⟩⟩
    refine q p' (.is1 (n+r2)) H' ⟨Zo,Zo⟩ rfl ?_ (((ff.new hp).same sa).same s')
    rw[g'];show some (HO.tup [V.str "is",.int ((n:Int)+(r2:Int))])=some (HO.tup [V.str "is",.int ((n+r2:Nat):Int)])
    rw[show((n+r2:Nat):Int)=(n:Int)+(r2:Int) by omega]
   ·refine⟨⟨Zd,Zd,Zd⟩,d,b,(n:Int),rfl,ff.dk,Zo,Zo,fun r3 H3 c0 c1 D3 k3=>⟨aN rfl,fun p H' s' g'=>?_⟩⟩
    obtain⟨r3,rfl⟩:=eK c0
    refine q p (.full (1000000000000 - r3)) H' ⟨Zo,Zo⟩ rfl ?_ ((ff.draw D3 k3).same s')
    rw[g'];show some (HO.tup [V.str "full",.int ((1000000000000:Int) - (r3:Int))])=some (HO.tup [V.str "full",.int ((1000000000000 - r3:Nat):Int)])
    rw[show((1000000000000 - r3:Nat):Int)=(1000000000000:Int) - (r3:Int) by omega]
  | take a n=>
   simp only [Dd.n]at hn a1 b1
   simp only [iX,List.mem_cons,List.not_mem_nil,or_false]at hz
   rcases hz with rfl | rfl
   ·refine⟨_,SqT.of gt2,_,rfl,⟨dR rfl,fun p hp=>⟨_,SqT.of (aO gt2 hp),_,rfl,aN rfl,fun tq Ha sa ga=>⟨tq,_,rfl,.inr (SqT.of ga),rfl,rfl,⟨_,SqL.of (sa _ _ aA),_,rfl,aN rfl,fun p' H' s' g'=>?_⟩⟩⟩⟩⟩
    exact q p' (.is1 r1) H' (by show r1+n<=1000000000000;omega) rfl g' (((ff.new hp).same sa).same s')
   ·refine⟨d,b,(n:Int),rfl,ff.dk,Zo,Zo,fun r3 H3 c0 c1 D3 k3=>⟨aN rfl,fun p H' s' g'=>?_⟩⟩
    obtain⟨r3,rfl⟩:=eK c0
    exact q p (.short r3) H' (by show r3<n;omega) rfl g' ((ff.draw D3 k3).same s')
  | move a b' n=>
   simp only [Dd.n]at hn a1 b1
   simp only [iX,List.mem_cons,List.not_mem_nil,or_false]at hz
   rcases hz with rfl | rfl | rfl
   ·refine⟨_,SqT.of gt2,_,rfl,aN rfl,fun p H' s' g'=>?_⟩
    refine q p (.is2 r1 (n+r2)) H' ⟨Zo,Zo,Zo⟩ rfl ?_ (ff.same s')
    rw[g'];show some (HO.tup [V.str "is",.int (r1:Int),.int ((n:Int)+(r2:Int))])=some (HO.tup [V.str "is",.int (r1:Int),.int ((n+r2:Nat):Int)])
    rw[show((n+r2:Nat):Int)=(n:Int)+(r2:Int) by omega]
   ·refine⟨d,b,(n:Int),rfl,ff.dk,Zo,Zo,fun r3 H3 c0 c1 D3 k3=>⟨aN rfl,fun p H' s' g'=>?_⟩⟩
    obtain⟨r3,rfl⟩:=eK c0
    exact q p (.short r3) H' (by show r3<n;omega) rfl g' ((ff.draw D3 k3).same s')
   ·refine⟨⟨Zd,Zd,Zd⟩,d,b,(n:Int),rfl,ff.dk,Zo,Zo,fun r3 H3 c0 c1 D3 k3=>⟨aN rfl,fun p H' s' g'=>?_⟩⟩
    obtain⟨r3,rfl⟩:=eK c0
    refine q p (.full (1000000000000 - r3)) H' ⟨Zo,Zo⟩ rfl ?_ ((ff.draw D3 k3).same s')
    rw[g'];show some (HO.tup [V.str "full",.int ((1000000000000:Int) - (r3:Int))])=some (HO.tup [V.str "full",.int ((1000000000000 - r3:Nat):Int)])
    rw[show((1000000000000 - r3:Nat):Int)=(1000000000000:Int) - (r3:Int) by omega]
  | send h a n=>
   simp only [Dd.n]at hn a1 b1
   simp only [iX,List.mem_cons,List.not_mem_nil,or_false]at hz
   rcases hz with rfl | rfl | rfl
   ·refine⟨_,SqT.of gt2,_,rfl,⟨dR rfl,fun p hp=>⟨_,SqT.of (aO gt2 hp),_,rfl,aN rfl,fun tq Ha sa ga=>⟨tq,_,rfl,.inr (SqT.of ga),rfl,rfl,⟨_,SqL.of (sa _ _ aA),_,rfl,aN rfl,fun p' H' s' g'=>?_⟩⟩⟩⟩⟩
    exact q p' (.is1 r1) H' (by show r1+n<=1000000000000;omega) rfl g' (((ff.new hp).same sa).same s')
   ·refine⟨d,b,(n:Int),rfl,ff.dk,Zo,Zo,fun r3 H3 c0 c1 D3 k3=>⟨aN rfl,fun p H' s' g'=>?_⟩⟩
    obtain⟨r3,rfl⟩:=eK c0
    exact q p (.short r3) H' (by show r3<n;omega) rfl g' ((ff.draw D3 k3).same s')
   ·refine⟨d,b,2,rfl,ff.dk,Zd,Zd,fun r3 H3 c0 c1 D3 k3=>⟨_,SqT.of ((ff.draw D3 k3).tup gt),_,rfl,.inl ⟨Zo,Zo⟩,_,SqT.of ((ff.draw D3 k3).tup gt),.str h,?_,aN rfl,fun p H' s' g'=>?_⟩⟩
    ·show kT _ (1+r3*0)=_
     rw[Int.mul_zero];rfl
    ·exact q p (.no h) H' rfl rfl g' ((ff.draw D3 k3).same s')
  | fetch h a n=>
   simp only [Dd.n]at hn a1 b1
   simp only [iX,List.mem_cons,List.not_mem_nil,or_false]at hz
   rcases hz with rfl | rfl | rfl
   ·refine⟨_,SqT.of gt2,_,rfl,⟨dR rfl,fun p hp=>⟨_,SqT.of (aO gt2 hp),_,rfl,aN rfl,fun tq Ha sa ga=>⟨tq,_,rfl,.inr (SqT.of ga),rfl,rfl,⟨_,SqL.of (sa _ _ aA),_,rfl,aN rfl,fun p' H' s' g'=>?_⟩⟩⟩⟩⟩
    refine q p' (.is1 (n+r2)) H' ⟨Zo,Zo⟩ rfl ?_ (((ff.new hp).same sa).same s')
    rw[g'];show some (HO.tup [V.str "is",.int ((n:Int)+(r2:Int))])=some (HO.tup [V.str "is",.int ((n+r2:Nat):Int)])
    rw[show((n+r2:Nat):Int)=(n:Int)+(r2:Int) by omega]
   ·refine⟨⟨Zd,Zd,Zd⟩,d,b,(n:Int),rfl,ff.dk,Zo,Zo,fun r3 H3 c0 c1 D3 k3=>⟨aN rfl,fun p H' s' g'=>?_⟩⟩
    obtain⟨r3,rfl⟩:=eK c0
    refine q p (.full (1000000000000 - r3)) H' ⟨Zo,Zo⟩ rfl ?_ ((ff.draw D3 k3).same s')
    rw[g'];show some (HO.tup [V.str "full",.int ((1000000000000:Int) - (r3:Int))])=some (HO.tup [V.str "full",.int ((1000000000000 - r3:Nat):Int)])
    rw[show((1000000000000 - r3:Nat):Int)=(1000000000000:Int) - (r3:Int) by omega]
   ·refine⟨d,b,2,rfl,ff.dk,Zd,Zd,fun r3 H3 c0 c1 D3 k3=>⟨_,SqT.of ((ff.draw D3 k3).tup gt),_,rfl,.inl ⟨Zo,Zo⟩,_,SqT.of ((ff.draw D3 k3).tup gt),.str h,?_,aN rfl,fun p H' s' g'=>?_⟩⟩
    ·show kT _ (1+r3*0)=_
     rw[Int.mul_zero];rfl
    ·exact q p (.no h) H' rfl rfl g' ((ff.draw D3 k3).same s')
  | pass h g a n=>
   simp only [Dd.n]at hn a1 b1
   simp only [iX,List.mem_cons,List.not_mem_nil,or_false]at hz
   rcases hz with rfl | rfl
   ·refine⟨aN rfl,fun p H' s' g'=>?_⟩
    exact q p .ok H' trivial rfl g' (ff.same s')
   ·refine⟨d,b,2,rfl,ff.dk,Zd,Zd,fun r3 H3 c0 c1 D3 k3=>?_⟩
    rcases(by omega:r3=0∨r3=1) with rfl | rfl
    ·refine⟨_,SqT.of ((ff.draw D3 k3).tup gt),_,rfl,.inl ⟨Zo,Zo⟩,_,SqT.of ((ff.draw D3 k3).tup gt),.str h,rfl,aN rfl,fun p H' s' g'=>?_⟩
     exact q p (.no h) H' (.inl rfl) rfl g' ((ff.draw D3 k3).same s')
    ·refine⟨_,SqT.of ((ff.draw D3 k3).tup gt),_,rfl,.inl ⟨Zo,Zo⟩,_,SqT.of ((ff.draw D3 k3).tup gt),.str g,rfl,aN rfl,fun p H' s' g'=>?_⟩
     exact q p (.no g) H' (.inr rfl) rfl g' ((ff.draw D3 k3).same s')
end
end KL
namespace KL
open PySem L2
section
variable {P:Program} {w:World} {K:W.Frag} {mg:Str->Option Value} {base:Heap}
structure MenusAt (H:Hp) (lm:Addr) (M:List Addr):Prop where
 ex:∃(a0 a1 a2 a3:Addr) (ws us ps ks:List Str),M=[lm,a0,a1,a2,a3]/\H lm=some (.lst [.ref a0,.ref a1,.ref a2,.ref a3])/\H a0=some (.lst (ws.map V.str))/\H a1=some (.lst (us.map V.str))/\H a2=some (.lst (ps.map V.str))/\H a3=some (.lst (ks.map V.str)) ∧
  Menu ws/\Menu us/\(1<=ps.length/\ps.length<=6/\∀z∈ps,eZ z)/\1<=ks.length/\ks.length<=6/\∀z∈ks,vS z
theorem MenusAt.keep {H H':Hp} {lm:Addr} {M:List Addr} (h:MenusAt H lm M) (k:∀c∈M,∀o,H c=some o->H' c=some o):MenusAt H' lm M:=by
 obtain⟨a0,a1,a2,a3,ws,us,ps,ks,rfl,h0,h1,h2,h3,h4,r⟩:=h.ex
 exact⟨a0,a1,a2,a3,ws,us,ps,ks,rfl,k _ Zs _ h0,k _ Zs _ h1,k _ Zs _ h2,k _ Zs _ h3,k _ Zs _ h4,r⟩
theorem Fw.menus {d b:Addr} {H H':Hp} {lm:Addr} {M:List Addr} (f:Fw d b H H') (h1:d∉M) (h2:b∉M) (h:MenusAt H lm M):MenusAt H' lm M:=h.keep fun c hc o e=>f.get e (fun z=>h1 (z ▸ hc)) (fun z=>h2 (z ▸ hc))
theorem Fw.put {d b a:Addr} {H H':Hp} {o:HO} (f:Fw d b H H') (hn:H a=none):Fw d b H (aJ H' a o):=by
 have hd:=f.d0.ne hn
 refine⟨f.d0,?_,fun c u e n1 n2=>?_⟩
 ·obtain⟨ns,s,k,h1,h2,h3⟩:=f.dk.ex
  exact⟨ns,s,k,by rw[aD (fun z=>hd.1 z.symm)];exact h1,by rw[aD (fun z=>hd.2 z.symm)];exact h2,h3⟩
 ·rw[aD (aE e hn)];exact f.kp _ _ e n1 n2
def lM:Sp:=fun vs H Q _=>∃(d b lm:Addr) (M:List Addr),vs=[.ref d,.ref lm]/\Dk H d b/\MenusAt H lm M/\d∉M/\b∉M/\∀(t:Addr) (p k:Str) (H':Hp),eZ p->vS k->H' t=some (.tup [.str p,.str k])->Fw d b H H'->Q (.ref t) H'
theorem Ni (T:Txt K mg) (cLdraw:aG P w K mg base 1 "_law_draw" ["_law_deck_here","_law_many"] bJ)
  (D:DefAt K mg "_law_spot" iK ["_law_deck_here","_law_menus_here"]):aG P w K mg base 2 "_law_spot" ["_law_deck_here","_law_menus_here"] lM:=by
 refine D.go vX (fun vs H Q E h=>?_) (fun f cdv A outer s H vs Q E hr h=>?_)
 ·obtain⟨d,b,lm,M,rfl,_⟩:=h;rfl
 ·obtain⟨d,b,lm,M,rfl,dk,hM,hd,hb,q⟩:=h
  have hLdraw:=hr
  obtain⟨a0,a1,a2,a3,ws,us,ps,ks,rfl,h0,h1,h2,h3,h4,mw,mu,⟨p1,p6,pn⟩,k1,k6,kn⟩:=hM.ex
  have nd:∀c∈[lm,a0,a1,a2,a3],c≠d/\c≠b:=fun c hc=>⟨fun z=>hd (z ▸ hc),fun z=>hb (z ▸ hc)⟩
  refine⟨_,(R.ah (R.al (R.ak (R.aa (R.ix (R.ar (K:=K)) (R.ix (R.ar (K:=K)) (R.v 1) R.ac) (R.fn cLdraw hLdraw rfl (R.aa (R.v 0) (R.aa (R.aw (R.az (K:=K)) rfl T.b_len bC (R.aa (R.ix (R.ar (K:=K)) (R.v 1) R.ac) R.ad)) R.ad)))) (R.aa (R.ix (R.ar (K:=K)) (R.ix (R.ar (K:=K)) (R.v 1) R.ac) (R.fn cLdraw hLdraw rfl (R.aa (R.v 0) (R.aa (R.aw (R.az (K:=K)) rfl T.b_len bC (R.aa (R.ix (R.ar (K:=K)) (R.v 1) R.ac) R.ad)) R.ad)))) R.ad))))),?_⟩
  refine⟨_,SqL.of h0,_,rfl,_,SqL.of h0,_,rfl,_,.inl (SqL.of h3),d,b,(ps.length:Int),by rw[bG],dk,Zo,Zo,fun r1 H1 x0 x1 D1 e1=>?_⟩
  have f1:=(Fw.refl dk).draw D1 e1
  have ge:∀c∈[lm,a0,a1,a2,a3],∀o,H c=some o->H1 c=some o:=fun c hc o e=>f1.get e (nd c hc).1 (nd c hc).2
  obtain⟨i,hi,rfl,ei⟩:=eB x0 x1
  refine⟨_,SqL.of (ge a2 Zs _ h3),_,ei,?_⟩
  refine⟨_,SqL.of (ge lm Zs _ h0),_,rfl,_,SqL.of (ge lm Zs _ h0),_,rfl,_,.inl (SqL.of (ge a3 Zs _ h4)),d,b,(ks.length:Int),by rw[bG],D1,Zo,Zo,fun r2 H2 y0 y1 D2 e2=>?_⟩
  have f2:=f1.draw D2 e2
  obtain⟨j,hj,rfl,ej⟩:=eB y0 y1
  refine⟨_,SqL.of (f2.get h4 (nd a3 Zs).1 (nd a3 Zs).2),_,ej,aN rfl,fun t H' s' g'=>?_⟩
  exact q t _ _ H' (pn _ (List.getElem_mem hi)) (kn _ (List.getElem_mem hj)) g' (f2.same s')
def zY:Sp:=fun vs H Q _=>∃(d b lm:Addr) (M:List Addr) (n t:Nat),vs=[.ref d,.ref lm,.int (n:Int),.int (t:Int)]/\Dk H d b/\MenusAt H lm M/\d∉M/\b∉M ∧
 ∀(a:Addr) (p k:Str) (x:Dd) (y:An) (H':Hp),eZ p->vS k->x.Ok->An.Of x y->RX.At H' a (.kept n t p k x y)->Fw d b H H'->Q (.ref a) H'
theorem zZ (x:Dd) (q:Bool):∀z∈kB x q,z∈iX x:=by
 cases hf:x.far with
 | false=>rw[pO x hf];exact fun z h=>h
 | true=>rw[oI x hf];exact fun z h=>(List.mem_filter.mp h).1
theorem wA (x:Dd):1<=(kB x true++kB x false).length/\(kB x true++kB x false).length<=6:=by cases x <;> exact⟨Nat.le_of_ble_eq_true rfl,Nat.le_of_ble_eq_true rfl⟩
theorem Nj (T:Txt K mg) (cLdraw:aG P w K mg base 1 "_law_draw" ["_law_deck_here","_law_many"] bJ) (cLdeed:aG P w K mg base 3 "_law_deed" ["_law_deck_here","_law_names","_law_houses"] oH)
  (cLwords:aG P w K mg base 1 "_law_words" ["_law_deed_here","_law_asked"] lK) (cLanswer:aG P w K mg base 3 "_law_answer" ["_law_deck_here","_law_deed_here","_law_word"] uF) (cLspot:aG P w K mg base 2 "_law_spot" ["_law_deck_here","_law_menus_here"] lM)
  (D:DefAt K mg "_law_kept" iM ["_law_deck_here","_law_menus_here","_law_number","_law_turn"]):aG P w K mg base 4 "_law_kept" ["_law_deck_here","_law_menus_here","_law_number","_law_turn"] zY:=by
 refine D.go gK (fun vs H Q E h=>?_) (fun f cdv A outer s H vs Q E hr h=>?_)
 ·obtain⟨d,b,lm,M,n,t,rfl,_⟩:=h;rfl
 ·obtain⟨d,b,lm,M,n,t,rfl,dk,hM,hd,hb,q⟩:=h
  have hLdraw:Room 1 _:=hr.mono Zd
  have hLdeed:Room 3 _:=hr.mono Zd
  have hLwords:Room 1 _:=hr.mono Zd
  have hLanswer:Room 3 _:=hr.mono Zd
  have hLspot:Room 2 _:=hr.mono Zd
  have hM':=hM
  obtain⟨a0,a1,a2,a3,ws,us,ps,ks,rfl,h0,h1,h2,h3,h4,mw,mu,⟨p1,p6,pn⟩,k1,k6,kn⟩:=hM.ex
  have nd:∀c∈[lm,a0,a1,a2,a3],c≠d/\c≠b:=fun c hc=>⟨fun z=>hd (z ▸ hc),fun z=>hb (z ▸ hc)⟩
  refine⟨_,(R.ae (R.ai (i:=4) gK.nd (R.fn cLdeed hLdeed rfl (R.aa (R.v 0) (R.aa (R.ix (R.ar (K:=K)) (R.v 1) R.ac) (R.aa (R.ix (R.ar (K:=K)) (R.v 1) R.ac) R.ad))))) (R.ae (R.ai (i:=5) gK.nd (R.op R.bw (R.fn cLwords hLwords rfl (R.aa (R.v 4) (R.aa R.bl R.ad))) (R.fn cLwords hLwords rfl (R.aa (R.v 4) (R.aa R.bl R.ad))))) (R.ae (R.ai (i:=6) gK.nd (R.fn cLanswer hLanswer rfl (R.aa (R.v 0) (R.aa (R.v 4) (R.aa (R.ix (R.ar (K:=K)) (R.v 5) (R.fn cLdraw hLdraw rfl (R.aa (R.v 0) (R.aa (R.aw (R.az (K:=K)) rfl T.b_len bC (R.aa (R.v 5) R.ad)) R.ad)))) R.ad))))) (R.ah (R.al (R.op R.dw (R.op R.dw (R.ak (R.aa R.ag (R.aa (R.v 2) (R.aa (R.v 3) R.ad)))) (R.fn cLspot hLspot rfl (R.aa (R.v 0) (R.aa (R.v 1) R.ad)))) (R.ak (R.aa (R.v 4) (R.aa (R.v 6) R.ad))))))))),?_⟩
  refine⟨_,SqL.of h0,_,rfl,_,SqL.of h0,_,rfl,d,b,a0,a1,ws,us,rfl,dk,h1,h2,⟨(nd a0 Zs).1,(nd a0 Zs).2,(nd a1 Zs).1,(nd a1 Zs).2⟩,mw,mu,fun td x H1 hx gx f1=>?_⟩
  dsimp only [aK];refine⟨td,x,true,rfl,gx,fun l1 H2 n1 g1 s1=>⟨td,x,false,rfl,s1 _ _ gx,fun l2 H3 n2 g2 s2=>⟨_,_,s2 _ _ g1,g2,?_,fun l3 hl3=>?_⟩⟩⟩
  ·have:=wA x
   rw[sK]at this;rw[bG,bG];exact gY Zo
  have s13:Same H1 (aJ H3 l3 (.lst ((kB x true).map V.str++(kB x false).map V.str))):=(s1.trans s2).trans (aF hl3)
  have g3:(aJ H3 l3 (.lst ((kB x true).map V.str++(kB x false).map V.str))) l3=some (.lst ((kB x true++kB x false).map V.str)):=by rw[aA,jF]
  have f3:=f1.same s13
  have l3d:=(f1.same (s1.trans s2)).dk.ne hl3
  have gx3:=s13 _ _ gx
  dsimp only [aK];generalize aJ H3 l3 (.lst ((kB x true).map V.str++(kB x false).map V.str))=H4 at g3 f3 gx3;have w6:=wA x
  refine⟨_,.inl (SqL.of g3),d,b,((kB x true++kB x false).length:Int),by rw[bG],f3.dk,Zo,Zo,fun r H5 r0 r1 D5 e5=>?_⟩
  have f5:=f3.draw D5 e5
  have F5:=(Fw.refl f3.dk).draw D5 e5
  obtain⟨i,hi,rfl,ei⟩:=eB r0 r1
  have hz:(kB x true++kB x false)[i]∈iX x:=by
   rcases Zma.mp (List.getElem_mem hi) with h | h
   ·exact zZ x _ _ h
   ·exact zZ x _ _ h
  refine⟨_,SqL.of (F5.get g3 l3d.1 l3d.2),_,ei,d,b,td,x,_,rfl,D5,F5.tup gx3,hx,hz,fun c y H6 hy _ gy f6=>?_⟩
  have f06:=f5.trans f6
  dsimp only [aK];refine⟨aN rfl,fun t1 H7 s7 g7=>?_⟩
  have f07:=f06.same s7
  refine⟨d,b,lm,_,rfl,f07.dk,f07.menus hd hb hM',hd,hb,fun t2 p k H8 hp hk g8 f8=>?_⟩
  refine⟨_,_,f8.tup g7,g8,Nat.le_of_ble_eq_true rfl,fun t3 H9 s9 g9=>⟨aN rfl,fun t4 Ha sa ga=>⟨_,_,sa _ _ g9,ga,Nat.le_of_ble_eq_true rfl,fun t5 Hb sb gb=>?_⟩⟩⟩
  have tkb:TK H7 Hb:=f8.tk.trans (((Same.tk s9).trans (Same.tk sa)).trans (Same.tk sb))
  refine q t5 p k x y Hb hp hk hx hy ⟨td,c,gb,?_,?_⟩ (((((f07.trans f8).same s9).same sa).same sb))
  ·exact tkb _ _ (s7 _ _ (f6.tup (F5.tup gx3)))
  ·exact tkb _ _ (s7 _ _ gy)
end
end KL
namespace KL
open PySem L2
section
variable {P:Program} {w:World} {K:W.Frag} {mg:Str->Option Value} {base:Heap}
theorem Fw.free {d b a:Addr} {H H':Hp} (f:Fw d b H H') (h:H' a=none):H a=none:=by
 have hd:=f.dk.ne h
 cases e:H a with
 | none=>rfl
 | some o=>rw[f.kp _ _ e hd.1 hd.2]at h;cases h
structure uG (rs:List RX):Prop where
 wh:RX.Whole rs
 ok:∀r∈rs,r.Ok
 rk:∀r∈rs,r.rank<=2
 len:rs.length<=13
 nx:∀n t,.next n t∈rs->n<=900006/\t<500000000000
structure Hd1 (n t:Nat) (zs:List Str) (rs:List RX):Prop where
 wh:RX.Whole rs
 ok:∀r∈rs,r.Ok
 nx:∀n' t',.next n' t'∈rs->n'=n/\t'=t
 one:.next n t∈rs
 rk:∀r∈rs,r.rank<=1
 hs:∀z m,.has z m∈rs->z∈zs
theorem aH {α:Type} {xs:List α} {x y:α} (h:y∈xs++[x]):y∈xs∨y=x:=by
 rcases Zma.mp h with h | h
 ·exact .inl h
 ·exact .inr (Zms.mp h)
theorem Hd1.skip {n t:Nat} {zs:List Str} {rs:List RX} (h:Hd1 n t zs rs) (z:Str):Hd1 n t (zs++[z]) rs:=⟨h.wh,h.ok,h.nx,h.one,h.rk,fun y m q=>List.mem_append_left _ (h.hs y m q)⟩
theorem Hd1.step {n t:Nat} {zs:List Str} {rs:List RX} (h:Hd1 n t zs rs) {z:Str} {m:Nat} (hz:∀y∈zs,y.cps.toList<z.cps.toList) (hn:eZ z) (h1:1<=m) (h2:m<=1000000000000):Hd1 n t (zs++[z]) (rs++[.has z m]):=by
 refine⟨h.wh.snoc ⟨h.rk,⟨n,t,h.one⟩,fun z' m' q=>hz z' (h.hs _ _ q)⟩,fun r hr=>?_,fun n' t' hr=>?_,List.mem_append_left _ h.one,fun r hr=>?_,fun z' m' hr=>?_⟩
 ·rcases aH hr with hr | rfl
  ·exact h.ok r hr
  ·exact⟨hn,h1,h2⟩
 ·rcases aH hr with hr | hr
  ·exact h.nx _ _ hr
  ·cases hr
 ·rcases aH hr with hr | rfl
  ·exact h.rk r hr
  ·exact bM _
 ·rcases aH hr with hr | hr
  ·exact List.mem_append_left _ (h.hs _ _ hr)
  ·cases hr;exact List.mem_append_right _ kG
structure Hd2 (n t last:Nat) (rs:List RX):Prop where
 wh:RX.Whole rs
 ok:∀r∈rs,r.Ok
 nx:∀n' t',.next n' t'∈rs->n'=n/\t'=t
 one:.next n t∈rs
 rk:∀r∈rs,r.rank<=2
 kp:∀n' t' p k x y,.kept n' t' p k x y∈rs->n'<=last
theorem Hd2.more {n t last last':Nat} {rs:List RX} (h:Hd2 n t last rs) (hl:last<=last'):Hd2 n t last' rs:=⟨h.wh,h.ok,h.nx,h.one,h.rk,fun n' t' p k x y q=>kK (h.kp n' t' p k x y q) hl⟩
theorem Hd2.step {n t last m u:Nat} {rs:List RX} (h:Hd2 n t last rs) {p k:Str} {x:Dd} {y:An} (hm:last<m) (hmn:m<n) (hn:n<=900006) (hu:u<=t) (ht:t<=1000000000000) (hp:eZ p) (hk:vS k) (hx:x.Ok) (hy:An.Of x y):Hd2 n t m (rs++[.kept m u p k x y]):=by
 refine⟨h.wh.snoc ⟨h.rk,⟨n,t,h.one,hmn,hu⟩,fun n' t' p' k' d' y' q=>oK (h.kp _ _ _ _ _ _ q) hm,hy⟩,fun r hr=>?_,fun n' t' hr=>?_,List.mem_append_left _ h.one,fun r hr=>?_,fun n' t' p' k' x' y' hr=>?_⟩
 ·rcases aH hr with hr | rfl
  ·exact h.ok r hr
  ·exact⟨Zo,Zo,Zo,hp,hk,hx,hy⟩
 ·rcases aH hr with hr | hr
  ·exact h.nx _ _ hr
  ·cases hr
 ·rcases aH hr with hr | rfl
  ·exact h.rk r hr
  ·exact bM _
 ·rcases aH hr with hr | hr
  ·exact Nat.le_of_lt (oK (h.kp _ _ _ _ _ _ hr) hm)
  ·cases hr;exact bM _
theorem Xr {zs:List Str} (hs:zs.Pairwise fun a b=>a.cps.toList<=b.cps.toList) (hn:zs.Nodup) {i:Nat} {z:Str} (h:zs[i]?=some z):∀y∈zs.take i,y.cps.toList<z.cps.toList:=by
 intro y hy;obtain⟨hi,ei⟩:=Zgs.mp h
 obtain⟨j,hj,ej⟩:=List.getElem_of_mem hy
 rw[nF]at hj;rw[List.getElem_take]at ej;have h1:=(List.pairwise_iff_getElem.mp hs) j i Zo hi Zo
 have h2:=(List.pairwise_iff_getElem.mp hn) j i Zo hi Zo
 rw[ej,ei]at h1 h2;rcases List.le_iff_lt_or_eq.mp h1 with h3 | h3
 ·exact h3
 ·exact absurd (by rw[pA y,pA z,h3]) h2
def oJ:Sp:=fun vs H Q _=>∃(d b lm:Addr) (M:List Addr),vs=[.ref d,.ref lm]/\Dk H d b/\MenusAt H lm M/\d∉M/\b∉M ∧
 ∀(ra:Addr) (rs:List RX) (as:List Addr) (H':Hp),H ra=none->RxsAt H' ra rs as->uG rs->Fw d b H H'->Q (.ref ra) H'
theorem Nk (T:Txt K mg) (cLdraw:aG P w K mg base 1 "_law_draw" ["_law_deck_here","_law_many"] bJ) (cLend:aG P w K mg base 2 "_law_end" ["_law_deck_here","_law_many"] bJ)
  (cLkept:aG P w K mg base 4 "_law_kept" ["_law_deck_here","_law_menus_here","_law_number","_law_turn"] zY)
  (D:DefAt K mg "_law_head" iN ["_law_deck_here","_law_menus_here"]):aG P w K mg base 5 "_law_head" ["_law_deck_here","_law_menus_here"] oJ:=by
 refine D.go cK (fun vs H Q E h=>?_) (fun f cdv A outer s H vs Q E hr h=>?_)
 ·obtain⟨d,b,lm,M,rfl,_⟩:=h;rfl
 ·obtain⟨d,b,lm,M,rfl,dk,hM,hd,hb,q⟩:=h
  have hLdraw:Room 1 _:=hr.mono Zd
  have hLend:Room 2 _:=hr.mono Zd
  have hLkept:Room 4 _:=hr.mono Zd
  refine⟨_,(R.ae (R.ai (i:=2) cK.nd (R.ix (R.ar (K:=K)) (R.av (R.aa (R.op R.au R.ac (R.fn cLdraw hLdraw rfl (R.aa (R.v 0) (R.aa R.ac R.ad)))) (R.aa (R.op R.au R.ac (R.fn cLdraw hLdraw rfl (R.aa (R.v 0) (R.aa R.ac R.ad)))) R.ad))) (R.fn cLdraw hLdraw rfl (R.aa (R.v 0) (R.aa R.ac R.ad))))) (R.ae (R.ai (i:=3) cK.nd (R.fn cLend hLend rfl (R.aa (R.v 0) (R.aa (R.op R.dz R.ac (R.op R.bg R.ac R.ac)) R.ad)))) (R.ae (R.ai (i:=4) cK.nd (R.av (R.aa (R.ak (R.aa R.ag (R.aa (R.v 2) (R.aa (R.v 3) R.ad)))) R.ad))) (R.ae (R.bp PassesOwn.never rfl (R.bo (K:=K) (R.aw (R.gv (K:=K)) rfl T.b_sorted Cf (R.aa (R.ix (R.ar (K:=K)) (R.v 1) R.ac) R.ad))) (R.gn (i:=5) cK.nd) (R.ah (R.ap (R.ao R.gt (R.fn cLdraw hLdraw rfl (R.aa (R.v 0) (R.aa R.ac R.ad))) R.ac) (R.ah (R.bn (R.bt (K:=K) PySem.F.plainAttrs_list PySem.F.slot_list_append PySem.F.type_list_append R.dl (R.v 4) (R.aa (R.ak (R.aa R.ag (R.aa (R.v 5) (R.aa (R.op R.au R.ac (R.fn cLend hLend rfl (R.aa (R.v 0) (R.aa (R.op R.bg R.ac R.ac) R.ad)))) R.ad)))) R.ad)))) R.aq))) (R.ae (R.ai (i:=6) cK.nd R.ac) (R.ae (R.bp PassesOwn.never rfl (R.dj rfl T.b_range (R.aa (R.fn cLdraw hLdraw rfl (R.aa (R.v 0) (R.aa R.ac R.ad))) R.ad)) (R.gn (i:=7) cK.nd) (R.ae (R.ai (i:=6) cK.nd (R.op R.au (R.op R.au (R.v 6) R.ac) (R.ix (R.ar (K:=K)) (R.av (R.aa R.ac (R.aa R.ac (R.aa (R.fn cLdraw hLdraw rfl (R.aa (R.v 0) (R.aa R.ac R.ad))) R.ad)))) (R.fn cLdraw hLdraw rfl (R.aa (R.v 0) (R.aa R.ac R.ad)))))) (R.ah (R.ap (R.ao R.lt (R.v 6) (R.v 2)) (R.ah (R.bn (R.bt (K:=K) PySem.F.plainAttrs_list PySem.F.slot_list_append PySem.F.type_list_append R.dl (R.v 4) (R.aa (R.fn cLkept hLkept rfl (R.aa (R.v 0) (R.aa (R.v 1) (R.aa (R.v 6) (R.aa (R.fn cLend hLend rfl (R.aa (R.v 0) (R.aa (R.op R.au (R.v 3) R.ac) R.ad))) R.ad))))) R.ad)))) R.aq)))) (R.ah (R.al (R.v 4))))))))),?_⟩
  refine aY (fun σ' H'=>∃n:Nat,σ'=[some (.ref d),some (.ref lm),some (.int (n:Int)),none,none,none,none,none]/\1<=n/\n<=900006/\Fw d b H H') (fun nx hnx=>?_) ?_
  ·refine⟨d,b,12,rfl,dk,Zd,Zd,fun r1 H1 a0 a1 D1 k1=>⟨d,b,900000,rfl,D1,Zd,Zd,fun r2 H2 b0 b1 D2 k2=>⟨dR rfl,fun p hp=>⟨d,b,2,rfl,D2.new hp,Zd,Zd,fun r3 H3 c0 c1 D3 k3=>?_⟩⟩⟩⟩
   have hpd:=D2.ne hp
   have gp:=k3 p _ aA hpd.1 hpd.2
   have ff:=((((Fw.refl dk).draw D1 k1).draw D2 k2).new hp).draw D3 k3
   rcases(by omega:r3=0∨r3=1) with rfl | rfl
   ·refine⟨_,SqL.of gp,_,rfl,hnx _ _ ⟨(1+r1).toNat,?_,Zo,Zo,ff⟩⟩
    rw[Int.toNat_of_nonneg Zo]
    rfl
   ·refine⟨_,SqL.of gp,_,rfl,hnx _ _ ⟨(7+r2).toNat,?_,Zo,Zo,ff⟩⟩
    rw[Int.toNat_of_nonneg Zo]
    rfl
  ·rintro σ' H1 ⟨n,rfl,hn1,hn2,f1⟩
   refine⟨⟨Zd,Zd,Zd⟩,.inl ⟨Zd,Zd⟩,d,b,500000000000,rfl,f1.dk,Zd,Zd,fun t H2 t0 t1 D2 k2=>?_⟩
   obtain⟨t,rfl⟩:=eK t0
   have f2:=f1.draw D2 k2
   dsimp only [aK];refine⟨aN rfl,fun a1 H3 s3 g3=>⟨dR rfl,fun ra hra=>?_⟩⟩
   have f3:=f2.same s3
   have fra:=f3.free hra
   have f4:=f3.new (o:=.lst [.ref a1]) hra
   have R4:RxsAt (aJ H3 ra (.lst [.ref a1])) ra [.next n t] [a1]:=⟨aA,.cons (aO g3 hra) .nil⟩
   dsimp only [aK];generalize aJ H3 ra (.lst [.ref a1])=H4 at f4 R4;have hM4:=f4.menus hd hb hM
   have hM':=hM4
   obtain⟨a0,a1',a2,a3,ws,us,ps,ks,rfl,h0,h1,h2,h3,h4,mw,mu,⟨p1,p6,pn⟩,k1,k6,kn⟩:=hM4.ex
   refine aY (fun σ' H'=>∃(rs:List RX) (as:List Addr) (o5:Option V),σ'=[some (.ref d),some (.ref lm),some (.int (n:Int)),some (.int (t:Int)),some (.ref ra),o5,none,none]/\RxsAt H' ra rs as/\Fw d b H H'/\rs.length<=7/\Hd1 n t (uQ ws) rs) (fun nx hnx=>?_) ?_
   ·refine⟨_,SqL.of h0,_,rfl,ws,.inl (SqL.of h1),by have:=mw.six;omega,fun ls hls=>⟨ls,rfl,⟨_,SqL.of aA⟩,?_⟩⟩
    have hlr:ls≠ra:=(aE R4.lst hls).symm
    have f5:=f4.new (o:=.lst ((uQ ws).map V.str)) hls
    have R5:=R4.same (aF (o:=.lst ((uQ ws).map V.str)) hls)
    have hld:=f4.dk.ne hls
    have w6:=mw.six
    have fls:=f4.free hls
    refine dM (cU K ls ((uQ ws).map V.str)) (fun i σ' H'=>∃(rs:List RX) (as:List Addr) (o5:Option V),σ'=[some (.ref d),some (.ref lm),some (.int (n:Int)),some (.int (t:Int)),some (.ref ra),o5,none,none]/\RxsAt H' ra rs as/\Fw d b H H'/\H' ls=some (.lst ((uQ ws).map V.str))/\rs.length<=1+i/\Hd1 n t ((uQ ws).take i) rs) (fun i σ' H' ⟨_,_,_,_,_,_,e,_⟩=>SqL.of e)
     ⟨[.next n t],[a1],_,rfl,R5,f5,aA,bM _,?_⟩ ?_ ?_
    ·refine⟨RX.Whole.snoc .nil rfl,fun r hr=>?_,fun n' t' hr=>?_,kG,fun r hr=>?_,fun z m hr=>?_⟩
     ·rw[Zms.mp hr];exact⟨hn1,Zo,Zo⟩
     ·cases Zms.mp hr;exact⟨rfl,rfl⟩
     ·rw[Zms.mp hr];exact Nat.zero_le _
     ·cases Zms.mp hr
    ·rintro i x σ' H6 hx ⟨rs,as,o5,rfl,R6,f6,g6,l6,hd6⟩
     rw[kE]at hx;cases hz:(uQ ws)[i]? with
     | none=>rw[hz]at hx;cases hx
     | some z=>
      rw[hz]at hx;cases hx
      have hi:i<(uQ ws).length:=(Zgs.mp hz).1
      rw[tT]at hi;have hzm:z∈ws:=(lB ws).mem_iff.mp (gX hz)
      have hrise:=Xr (pB ws) ((lB ws).nodup_iff.mpr mw.of.nd) hz
      have etk:(uQ ws).take (i+1)=(uQ ws).take i++[z]:=by rw[List.take_add_one,hz];rfl
      dsimp only [aK];refine⟨d,b,3,rfl,f6.dk,Zd,Zd,fun r H7 r0 r1 D7 k7=>?_⟩
      have f7:=f6.draw D7 k7
      have F7:=(Fw.refl f6.dk).draw D7 k7
      have hrd:=f6.d0.ne fra
      have R7:=R6.keep F7.tk (F7.get R6.lst hrd.1 hrd.2)
      have g7:=F7.get g6 hld.1 hld.2
      refine bF (fun _=>?_) (fun _=>?_)
      ·refine⟨.inl ⟨rfl,_,SqL.of R7.lst⟩,⟨Zd,Zd,Zd⟩,d,b,1000000000000,rfl,D7,Zd,Zd,fun m H8 m0 m1 D8 k8=>⟨aN rfl,fun ta H9 s9 g9=>?_⟩⟩
       obtain⟨m,rfl⟩:=eK m0
       have f8:=f7.draw D8 k8
       have F8:=(Fw.refl D7).draw D8 k8
       have f9:=f8.same s9
       have R9:=(R7.keep F8.tk (F8.get R7.lst hrd.1 hrd.2)).same s9
       have g9':=s9 _ _ (F8.get g7 hld.1 hld.2)
       have lr:=R9.len
       refine⟨ra,_,_,rfl,rfl,R9.lst,by rw[bG];exact oK (m:=1000) Zo Zd,?_⟩
       refine⟨rs++[.has z (1+m)],as++[ta],_,rfl,R9.snoc (gP R9.lst) ?_ aA,f9.put fra,by rw[aD hlr];exact g9',by simp;omega,?_⟩
       ·have:=gP R9.lst (ys:=as.map V.ref++[.ref ta]) _ _ g9
        show _=some (HO.tup [V.str "has",.str z,.int ((1+m:Nat):Int)])
        rw[this,show((1+m:Nat):Int)=1+(m:Int) by omega]
       ·rw[etk];exact hd6.step hrise (mw.of.of z hzm) Zo Zo
      ·refine⟨rs,as,_,rfl,R7,f7,g7,Zo,?_⟩
       rw[etk];exact hd6.skip z
    ·rintro σ' H6 ⟨rs,as,o5,rfl,R6,f6,g6,l6,hd6⟩
     refine hnx _ _ ⟨rs,as,o5,rfl,R6,f6,?_,?_⟩
     ·rw[bG,tT]at l6;omega
     ·rw[bG,rA (bM _)]at hd6;exact hd6
   ·rintro σ' H5 ⟨rs,as,o5,rfl,R5,f5,l5,hd5⟩
    have hrd:=f5.d0.ne fra
    refine⟨d,b,7,rfl,f5.dk,Zd,Zd,fun r7 H6 r0 r1 D6 k6=>⟨r7,rfl,Zo,Zo,?_⟩⟩
    have F6:=(Fw.refl f5.dk).draw D6 k6
    have f6:=f5.draw D6 k6
    have R6:=R5.keep F6.tk (F6.get R5.lst hrd.1 hrd.2)
    refine dM (cR 0 r7.toNat) (fun i σ' H'=>∃(rs:List RX) (as:List Addr) (last:Nat) (o7:Option V),σ'=[some (.ref d),some (.ref lm),some (.int (n:Int)),some (.int (t:Int)),some (.ref ra),o5,some (.int (last:Int)),o7]/\RxsAt H' ra rs as/\Fw d b H H'/\rs.length<=7+i/\last<=9*i/\Hd2 n t last rs) (fun _ _ _ _=>trivial)
     ⟨rs,as,0,_,rfl,R6,f6,Zo,bM _,⟨hd5.wh,hd5.ok,hd5.nx,hd5.one,fun r hr=>Nat.le_succ_of_le (hd5.rk r hr),fun n' t' p k x y q=>absurd (hd5.rk _ q) (by show ¬ (2<=1);decide)⟩⟩ ?_ ?_
    ·rintro i x σ' H7 hx ⟨rs,as,last,o7,rfl,R7,f7,l7,la7,hd7⟩
     obtain⟨rfl,hi⟩:=iW hx
     dsimp only [aK];refine aY (fun σ' H'=>∃(m:Nat),σ'=[some (.ref d),some (.ref lm),some (.int (n:Int)),some (.int (t:Int)),some (.ref ra),o5,some (.int (m:Int)),some (.int (i:Int))]/\last<m/\m<=last+9/\RxsAt H' ra rs as/\Fw d b H H') (fun nx' hnx'=>?_) ?_
     ·refine⟨d,b,9,rfl,f7.dk,Zd,Zd,fun r8 H8 x0 x1 D8 k8=>⟨dR rfl,fun p hp=>⟨d,b,3,rfl,D8.new hp,Zd,Zd,fun r9 H9 y0 y1 D9 k9=>?_⟩⟩⟩
      obtain⟨r8,rfl⟩:=eK x0
      have hpd:=D8.ne hp
      have gp:=k9 p _ aA hpd.1 hpd.2
      have F9:=(((Fw.refl f7.dk).draw D8 k8).new hp).draw D9 k9
      have R9:=R7.keep F9.tk (F9.get R7.lst hrd.1 hrd.2)
      have f9:=f7.trans F9
      rcases(by omega:r9=0∨r9=1∨r9=2) with rfl | rfl | rfl
      ·refine⟨_,SqL.of gp,_,rfl,hnx' _ _ ⟨last+1,?_,Zo,Zo,R9,f9⟩⟩
       rw[show((last+1:Nat):Int)=(last:Int)+1+0 by omega];rfl
      ·refine⟨_,SqL.of gp,_,rfl,hnx' _ _ ⟨last+1,?_,Zo,Zo,R9,f9⟩⟩
       rw[show((last+1:Nat):Int)=(last:Int)+1+0 by omega];rfl
      ·refine⟨_,SqL.of gp,_,rfl,hnx' _ _ ⟨last+1+r8,?_,Zo,Zo,R9,f9⟩⟩
       rw[show((last+1+r8:Nat):Int)=(last:Int)+1+(r8:Int) by omega];rfl
     ·rintro σ' H8 ⟨m,rfl,m1,m2,R8,f8⟩
      refine bF (fun hlt=>?_) (fun _=>?_)
      ·have hmn:m<n:=by have:=of_decide_eq_true hlt;omega
       refine⟨.inl ⟨rfl,_,SqL.of R8.lst⟩,d,b,(t:Int)+1,rfl,f8.dk,Zo,Zo,fun u H9 u0 u1 D9 k9=>?_⟩
       obtain⟨u,rfl⟩:=eK u0
       have F9:=(Fw.refl f8.dk).draw D9 k9
       have f9:=f8.trans F9
       have R9:=R8.keep F9.tk (F9.get R8.lst hrd.1 hrd.2)
       refine⟨d,b,lm,_,m,u,rfl,D9,f9.menus hd hb hM,hd,hb,fun ta p k x y Ha hp hk hxo hy at_ fa=>?_⟩
       have Ra:=R9.keep fa.tk (fa.get R9.lst hrd.1 hrd.2)
       have lr:=Ra.len
       refine⟨ra,_,_,rfl,rfl,Ra.lst,by rw[bG];exact oK (m:=1000) Zo Zd,?_⟩
       refine⟨rs++[.kept m u p k x y],as++[ta],m,_,rfl,Ra.snoc (gP Ra.lst) (at_.tk (gP Ra.lst)) aA,(f9.trans fa).put fra,by simp;omega,Zo,?_⟩
       exact hd7.step m1 hmn hn2 Zo Zo hp hk hxo hy
      ·exact⟨rs,as,m,_,rfl,R8,f8,Zo,Zo,hd7.more (Nat.le_of_lt m1)⟩
    ·rintro σ' H7 ⟨rs,as,last,o7,rfl,R7,f7,l7,la7,hd7⟩
     refine q ra rs as H7 fra R7 ⟨hd7.wh,hd7.ok,hd7.rk,?_,fun n' t' hr=>?_⟩ f7
     ·rw[dC]at l7;omega
     ·obtain⟨rfl,rfl⟩:=hd7.nx _ _ hr
      exact⟨Zo,Zo⟩
end
end KL
namespace KL
open PySem L2
section
variable {P:Program} {w:World} {K:W.Frag} {mg:Str->Option Value} {base:Heap}
theorem yD:("abcdefghijklmnopqrstuvwxyz":Str)=tx LET:=by rw[pA ("abcdefghijklmnopqrstuvwxyz":Str),xQ]
theorem Nl:("abcdefghijklmnopqrstuvwxyz":Str)++("0123456789":Str)=tx KLET:=by rw[pA ("abcdefghijklmnopqrstuvwxyz":Str),xQ,pA ("0123456789":Str),Tf,tL];rfl
theorem kC {H:Hp} {a l:Addr} {ws:List Str} {xs:List Addr} (h1:H a=some (.lst (ws.map V.str))) (h2:1<=ws.length) (h3:H l=some (.lst (xs.map V.ref))):a≠l:=by
 intro e;rw[e,h3]at h1;cases ws with
 | nil=>cases h2
 | cons w ws=>
  cases xs with
  | nil=>cases h1
  | cons x xs=>cases h1
theorem Ue:LET.Nodup:=by decide
theorem Xs:KLET.Nodup:=by decide
def wB:Sp:=fun vs H Q _=>∃(d b:Addr),vs=[.ref d]/\Dk H d b/\∀(lm:Addr) (M:List Addr) (H':Hp),MenusAt H' lm M->d∉M->b∉M->Fw d b H H'->Q (.ref lm) H'
theorem Xt {d a0 a1 a2 a3 a4:Addr} (h0:a0≠d) (h1:a1≠d) (h2:a2≠d) (h3:a3≠d) (h4:a4≠d):d∉[a0,a1,a2,a3,a4]:=by
 intro h;simp only [List.mem_cons,List.not_mem_nil,or_false]at h
 rcases h with h | h | h | h | h
 ·exact h0 h.symm
 ·exact h1 h.symm
 ·exact h2 h.symm
 ·exact h3 h.symm
 ·exact h4 h.symm
theorem WordsOf.nm {ws:List Str} (h:WordsOf LET 8 ws):∀z∈ws,eZ z:=fun z hz=>h.of z hz
theorem WordsOf.ky {ws:List Str} (h:WordsOf KLET 12 ws):∀z∈ws,vS z:=fun z hz=>h.of z hz
theorem Ia (T:Txt K mg) (cLdraw:aG P w K mg base 1 "_law_draw" ["_law_deck_here","_law_many"] bJ) (cLunlike:aG P w K mg base 2 "_law_unlike" ["_law_deck_here","_law_signs","_law_longest","_law_many"] rV)
  (D:DefAt K mg "_law_menus" gD ["_law_deck_here"]):aG P w K mg base 3 "_law_menus" ["_law_deck_here"] wB:=by
 refine D.go iU (fun vs H Q E h=>?_) (fun f cdv A outer s H vs Q E hr h=>?_)
 ·obtain⟨d,b,rfl,_⟩:=h;rfl
 ·obtain⟨d,b,rfl,dk,q⟩:=h
  have hLdraw:Room 1 _:=hr.mono Zd
  have hLunlike:Room 2 _:=hr.mono Zd
  refine⟨_,(R.ae (R.ai (i:=1) iU.nd R.ag) (R.ae (R.ai (i:=2) iU.nd (R.av (R.aa (R.fn cLunlike hLunlike rfl (R.aa (R.v 0) (R.aa (R.v 1) (R.aa R.ac (R.aa (R.op R.au R.ac (R.fn cLdraw hLdraw rfl (R.aa (R.v 0) (R.aa R.ac R.ad)))) R.ad))))) R.ad))) (R.ae (R.bn (R.bt (K:=K) PySem.F.plainAttrs_list PySem.F.slot_list_append PySem.F.type_list_append R.dl (R.v 2) (R.aa (R.fn cLunlike hLunlike rfl (R.aa (R.v 0) (R.aa (R.v 1) (R.aa R.ac (R.aa (R.op R.au R.ac (R.fn cLdraw hLdraw rfl (R.aa (R.v 0) (R.aa R.ac R.ad)))) R.ad))))) R.ad))) (R.ae (R.bn (R.bt (K:=K) PySem.F.plainAttrs_list PySem.F.slot_list_append PySem.F.type_list_append R.dl (R.v 2) (R.aa (R.fn cLunlike hLunlike rfl (R.aa (R.v 0) (R.aa (R.v 1) (R.aa R.ac (R.aa (R.op R.au R.ac (R.fn cLdraw hLdraw rfl (R.aa (R.v 0) (R.aa R.ac R.ad)))) R.ad))))) R.ad))) (R.ae (R.bn (R.bt (K:=K) PySem.F.plainAttrs_list PySem.F.slot_list_append PySem.F.type_list_append R.dl (R.v 2) (R.aa (R.fn cLunlike hLunlike rfl (R.aa (R.v 0) (R.aa (R.op R.gs (R.v 1) R.ag) (R.aa R.ac (R.aa (R.op R.au R.ac (R.fn cLdraw hLdraw rfl (R.aa (R.v 0) (R.aa R.ac R.ad)))) R.ad))))) R.ad))) (R.ah (R.al (R.v 2)))))))),?_⟩
  refine⟨d,b,5,rfl,dk,Zd,Zd,fun r1 H1 x0 x1 D1 e1=>?_⟩
  obtain⟨r1,rfl⟩:=eK x0
  refine⟨d,b,LET,8,2+r1,by rw[<- yD,show((2+r1:Nat):Int)=2+(r1:Int) by omega];rfl,D1,Zo,Zo,Zd,Ue,by show 2+r1<=26;omega,Zd,fun a0 ws H2 hw lw g0 n0 m0 D2 e2=>⟨dR rfl,fun lm hlm=>?_⟩⟩
  have f2:=((Fw.refl dk).draw D1 e1).draw D2 e2
  have nl:=D2.ne hlm
  have f3:=f2.new (o:=.lst [.ref a0]) hlm
  have gl:(aJ H2 lm (.lst [.ref a0])) lm=some (.lst ([a0].map V.ref)):=aA
  replace g0:=aO (u:=.lst [.ref a0]) g0 hlm
  dsimp only [aK];generalize aJ H2 lm (.lst [.ref a0])=H3 at f3 gl g0;refine⟨.inl ⟨rfl,_,SqL.of gl⟩,d,b,5,rfl,f3.dk,Zd,Zd,fun r2 H4 x0 x1 D4 e4=>?_⟩
  obtain⟨r2,rfl⟩:=eK x0
  refine⟨d,b,LET,8,2+r2,by rw[<- yD,show((2+r2:Nat):Int)=2+(r2:Int) by omega];rfl,D4,Zo,Zo,Zd,Ue,by show 2+r2<=26;omega,Zd,fun a1 us H5 hu lu g1 n1 m1 D5 e5=>?_⟩
  have f5:=(f3.draw D4 e4).draw D5 e5
  have F5:=((Fw.refl f3.dk).draw D4 e4).draw D5 e5
  replace gl:=F5.get gl nl.1 nl.2
  replace g0:=F5.get g0 n0 m0
  have w01:=kC g0 Zo gl
  have w11:=kC g1 Zo gl
  refine⟨lm,_,_,rfl,rfl,gl,oK (m:=100) (Nat.le_of_ble_eq_true rfl) Zd,?_⟩
  have f6:=f5.put (f2.free hlm) (o:=.lst ([a0].map V.ref++[.ref a1]))
  replace gl:(aJ H5 lm (.lst ([a0].map V.ref++[.ref a1]))) lm=some (.lst ([a0,a1].map V.ref)):=aA
  replace g0:(aJ H5 lm (.lst ([a0].map V.ref++[.ref a1]))) a0=_:=(aD w01).trans g0
  replace g1:(aJ H5 lm (.lst ([a0].map V.ref++[.ref a1]))) a1=_:=(aD w11).trans g1
  generalize aJ H5 lm (.lst ([a0].map V.ref++[.ref a1]))=H6 at f6 gl g0 g1;refine⟨.inl ⟨rfl,_,SqL.of gl⟩,d,b,6,rfl,f6.dk,Zd,Zd,fun r3 H7 x0 x1 D7 e7=>?_⟩
  obtain⟨r3,rfl⟩:=eK x0
  refine⟨d,b,LET,8,1+r3,by rw[<- yD,show((1+r3:Nat):Int)=1+(r3:Int) by omega];rfl,D7,Zo,Zo,Zd,Ue,by show 1+r3<=26;omega,Zd,fun a2 ps H8 hp lp g2 n2 m2 D8 e8=>?_⟩
  have f8:=(f6.draw D7 e7).draw D8 e8
  have F8:=((Fw.refl f6.dk).draw D7 e7).draw D8 e8
  replace gl:=F8.get gl nl.1 nl.2
  replace g0:=F8.get g0 n0 m0
  replace g1:=F8.get g1 n1 m1
  have w21:=kC g2 Zo gl
  refine⟨lm,_,_,rfl,rfl,gl,oK (m:=100) (Nat.le_of_ble_eq_true rfl) Zd,?_⟩
  have f9:=f8.put (f2.free hlm) (o:=.lst ([a0,a1].map V.ref++[.ref a2]))
  replace gl:(aJ H8 lm (.lst ([a0,a1].map V.ref++[.ref a2]))) lm=some (.lst ([a0,a1,a2].map V.ref)):=aA
  replace g0:(aJ H8 lm (.lst ([a0,a1].map V.ref++[.ref a2]))) a0=_:=(aD w01).trans g0
  replace g1:(aJ H8 lm (.lst ([a0,a1].map V.ref++[.ref a2]))) a1=_:=(aD w11).trans g1
  replace g2:(aJ H8 lm (.lst ([a0,a1].map V.ref++[.ref a2]))) a2=_:=(aD w21).trans g2
  generalize aJ H8 lm (.lst ([a0,a1].map V.ref++[.ref a2]))=H9 at f9 gl g0 g1 g2;refine⟨.inl ⟨rfl,_,SqL.of gl⟩,gY Zk,d,b,6,rfl,f9.dk,Zd,Zd,fun r4 Ha x0 x1 Da ea=>?_⟩
  obtain⟨r4,rfl⟩:=eK x0
  refine⟨d,b,KLET,12,1+r4,by rw[<- Nl,show((1+r4:Nat):Int)=1+(r4:Int) by omega];rfl,Da,Zo,Zo,Zd,Xs,by show 1+r4<=36;omega,Zd,fun a3 ks Hb hk lk g3 n3 m3 Db eb=>?_⟩
  have fb:=(f9.draw Da ea).draw Db eb
  have Fb:=((Fw.refl f9.dk).draw Da ea).draw Db eb
  replace gl:=Fb.get gl nl.1 nl.2
  replace g0:=Fb.get g0 n0 m0
  replace g1:=Fb.get g1 n1 m1
  replace g2:=Fb.get g2 n2 m2
  have w31:=kC g3 Zo gl
  refine⟨lm,_,_,rfl,rfl,gl,oK (m:=100) (Nat.le_of_ble_eq_true rfl) Zd,?_⟩
  have fc:=fb.put (f2.free hlm) (o:=.lst ([a0,a1,a2].map V.ref++[.ref a3]))
  replace gl:(aJ Hb lm (.lst ([a0,a1,a2].map V.ref++[.ref a3]))) lm=some (.lst ([a0,a1,a2,a3].map V.ref)):=aA
  replace g0:(aJ Hb lm (.lst ([a0,a1,a2].map V.ref++[.ref a3]))) a0=_:=(aD w01).trans g0
  replace g1:(aJ Hb lm (.lst ([a0,a1,a2].map V.ref++[.ref a3]))) a1=_:=(aD w11).trans g1
  replace g2:(aJ Hb lm (.lst ([a0,a1,a2].map V.ref++[.ref a3]))) a2=_:=(aD w21).trans g2
  replace g3:(aJ Hb lm (.lst ([a0,a1,a2].map V.ref++[.ref a3]))) a3=_:=(aD w31).trans g3
  generalize aJ Hb lm (.lst ([a0,a1,a2].map V.ref++[.ref a3]))=Hc at fc gl g0 g1 g2 g3;have mw:Menu ws:=⟨hw,Zo,Zo⟩
  have mu:Menu us:=⟨hu,Zo,Zo⟩
  have hM:MenusAt Hc lm [lm,a0,a1,a2,a3]:=⟨a0,a1,a2,a3,ws,us,ps,ks,rfl,gl,g0,g1,g2,g3,mw,mu,⟨Zo,Zo,hp.nm⟩,Zo,Zo,hk.ky⟩
  have od:=Xt nl.1 n0 n1 n2 n3
  have ob:=Xt nl.2 m0 m1 m2 m3
  exact q lm _ Hc hM od ob fc
end
end KL
namespace KL
open PySem L2
section
variable {P:Program} {w:World} {K:W.Frag} {mg:Str->Option Value} {base:Heap}
def eF (f:Str->Nat) (z:Str) (v:Nat):Str->Nat:=fun y=>if y=z then v else f y
def aP (f:Str->Nat):Dd->Option An
 | .add a n=>if 1000000000000<f a+n then some (.full (f a)) else some (.is1 (f a+n))
 | .take a n=>if f a<n then some (.short (f a)) else some (.is1 (f a - n))
 | .move a b n=>if f a<n then some (.short (f a)) else if 1000000000000<f b+n then some (.full (f b)) else some (.is2 (f a - n) (f b+n))
 | .send _ a n=>if f a<n then some (.short (f a)) else none
 | .fetch _ a n=>if 1000000000000<f a+n then some (.full (f a)) else none
 | .pass _ _ _ _=>none
def bH (f:Str->Nat):Dd->List An
 | .send h a n=>[.no h,.is1 (f a - n)]
 | .fetch h a n=>[.no h,.is1 (f a+n)]
 | .pass h g _ _=>[.no h,.no g,.ok]
 | _=>[]
def after (f:Str->Nat):Dd->An->(Str->Nat)
 | .add a n,.is1 _=>eF f a (f a+n)
 | .take a n,.is1 _=>eF f a (f a - n)
 | .move a b n,.is2 _ _=>eF (eF f a (f a - n)) b (f b+n)
 | .send _ a n,.is1 _=>eF f a (f a - n)
 | .fetch _ a n,.is1 _=>eF f a (f a+n)
 | _,_=>f
def gT (f:Str->Nat) (x:Dd) (q:Bool) (y:An):Prop:=(q=false/\aP f x=some y)∨(q=true/\aP f x=none/\y∈bH f x)
def BookIs (kvs:List (aT × V)) (f:Str->Nat):Prop:=∀z:Str,(bE kvs (Sum.inr z)).getD (.int 0)=.int (f z:Int)
theorem dg {H:Hp} {bk:Addr} {kvs:List (aT × V)} {f:Str->Nat} (gb:H bk=some (.dK kvs)) (hB:BookIs kvs f) (z:Str):∃o,DGet H bk (.str z) o/\o.getD (.int 0)=.int (f z:Int):=⟨_,DGet.k (k:=Sum.inr z) gb,hB z⟩
theorem Aa {H:Hp} {bk:Addr} {kvs:List (aT × V)} (gb:H bk=some (.dK kvs)):Zb H bk:=.inl ⟨_,.inl gb⟩
theorem wC {f:Str->Nat} (hf:∀z,f z<=1000000000000) {x:Dd} (hx:x.Ok) {q:Bool} {y:An} (h:gT f x q y) (hq:q=true->x.far=true):An.Of x y/\(x.far=true->(q=true↔y.early=false)):=by
 rcases h with⟨rfl,h⟩ | ⟨rfl,h1,h2⟩
 ·cases x with
  | add a n=>
   simp only [aP]at h
   have:=hf a
   split at h <;> cases h
   ·exact⟨⟨Zo,Zo⟩,fun z=>nomatch z⟩
   ·exact⟨⟨Zo,Zo⟩,fun z=>nomatch z⟩
  | take a n=>
   simp only [aP]at h
   have:=hf a
   split at h <;> cases h
   ·exact⟨by show f a<n;omega,fun z=>nomatch z⟩
   ·exact⟨by show f a - n+n<=1000000000000;omega,fun z=>nomatch z⟩
  | move a b n=>
   simp only [aP]at h
   have:=hf a
   have:=hf b
   split at h
   ·cases h;exact⟨by show f a<n;omega,fun z=>nomatch z⟩
   ·split at h <;> cases h
    ·exact⟨⟨Zo,Zo⟩,fun z=>nomatch z⟩
    ·exact⟨⟨Zo,Zo,Zo⟩,fun z=>nomatch z⟩
  | send g a n=>
   simp only [aP]at h
   split at h <;> cases h
   exact⟨by show f a<n;omega,fun _=>⟨(fun z=>nomatch z),(fun z=>nomatch z)⟩⟩
  | fetch g a n=>
   simp only [aP]at h
   have:=hf a
   split at h <;> cases h
   exact⟨⟨Zo,Zo⟩,fun _=>⟨(fun z=>nomatch z),(fun z=>nomatch z)⟩⟩
  | pass g k a n=>cases h
 ·cases x with
  | add a n=>cases hq rfl
  | take a n=>cases hq rfl
  | move a b n=>cases hq rfl
  | send g a n=>
   have:=hf a
   simp only [aP]at h1
   simp only [bH,List.mem_cons,List.not_mem_nil,or_false]at h2
   have hn:n<=f a:=by
    by_cases hh:f a<n
    ·rw[if_pos hh]at h1;cases h1
    ·omega
   rcases h2 with rfl | rfl
   ·exact⟨rfl,fun _=>⟨fun _=>rfl,fun _=>rfl⟩⟩
   ·exact⟨by show f a - n+n<=1000000000000;omega,fun _=>⟨fun _=>rfl,fun _=>rfl⟩⟩
  | fetch g a n=>
   simp only [aP]at h1
   simp only [bH,List.mem_cons,List.not_mem_nil,or_false]at h2
   have hn:¬ 1000000000000<f a+n:=by
    intro hh;rw[if_pos hh]at h1;cases h1
   rcases h2 with rfl | rfl
   ·exact⟨rfl,fun _=>⟨fun _=>rfl,fun _=>rfl⟩⟩
   ·exact⟨⟨Zo,Zo⟩,fun _=>⟨fun _=>rfl,fun _=>rfl⟩⟩
  | pass g k a n=>
   simp only [bH,List.mem_cons,List.not_mem_nil,or_false]at h2
   rcases h2 with rfl | rfl | rfl
   ·exact⟨.inl rfl,fun _=>⟨fun _=>rfl,fun _=>rfl⟩⟩
   ·exact⟨.inr rfl,fun _=>⟨fun _=>rfl,fun _=>rfl⟩⟩
   ·exact⟨trivial,fun _=>⟨fun _=>rfl,fun _=>rfl⟩⟩
theorem gL {f:Str->Nat} {z:Str} {v:Nat} (hf:∀z,f z<=1000000000000) (hv:v<=1000000000000):∀y,eF f z v y<=1000000000000:=fun y=>by
 unfold eF;split
 ·exact hv
 ·exact hf y
theorem lN {f:Str->Nat} (hf:∀z,f z<=1000000000000) {x:Dd} {q:Bool} {y:An} (h:gT f x q y):∀z,after f x y z<=1000000000000:=by
 rcases h with⟨rfl,h⟩ | ⟨rfl,h1,h2⟩
 ·cases x with
  | add a n=>
   simp only [aP]at h
   split at h <;> cases h
   ·exact hf
   ·exact gL hf Zo
  | take a n=>
   simp only [aP]at h
   have:=hf a
   split at h <;> cases h
   ·exact hf
   ·exact gL hf Zo
  | move a b n=>
   simp only [aP]at h
   have:=hf a
   split at h
   ·cases h;exact hf
   ·split at h <;> cases h
    ·exact hf
    ·exact gL (gL hf Zo) Zo
  | send g a n=>
   simp only [aP]at h
   split at h <;> cases h
   exact hf
  | fetch g a n=>
   simp only [aP]at h
   split at h <;> cases h
   exact hf
  | pass g k a n=>cases h
 ·cases x with
  | add a n=>cases h2
  | take a n=>cases h2
  | move a b n=>cases h2
  | send g a n=>
   have:=hf a
   simp only [bH,List.mem_cons,List.not_mem_nil,or_false]at h2
   rcases h2 with rfl | rfl
   ·exact hf
   ·exact gL hf Zo
  | fetch g a n=>
   simp only [aP]at h1
   simp only [bH,List.mem_cons,List.not_mem_nil,or_false]at h2
   have hn:¬ 1000000000000<f a+n:=by
    intro hh;rw[if_pos hh]at h1;cases h1
   rcases h2 with rfl | rfl
   ·exact hf
   ·exact gL hf Zo
  | pass g k a n=>
   simp only [bH,List.mem_cons,List.not_mem_nil,or_false]at h2
   rcases h2 with rfl | rfl | rfl <;> exact hf
theorem BookIs.put {kvs:List (aT × V)} {f:Str->Nat} (h:BookIs kvs f) (z:Str) (v:Nat):BookIs (bO kvs (Sum.inr z) (.int (v:Int))) (eF f z v):=fun y=>by
 rw[cP];unfold eF;by_cases e:y=z
 ·rw[if_pos (by rw[e]),if_pos e];rfl
 ·rw[if_neg (fun c=>e (by injection c)),if_neg e];exact h y
def pP:Sp:=fun vs H Q _=>∃(bk t:Addr) (kvs:List (aT × V)) (f:Str->Nat) (x:Dd),vs=[.ref bk,.ref t]/\H bk=some (.dK kvs)/\BookIs kvs f/\H t=some (.tup x.vs) ∧
 (∀y c H',aP f x=some y->Same H H'->H' c=some (.tup y.vs)->Q (.ref c) H')/\(aP f x=none->∀H',Same H H'->Q .non H')
theorem Ib (T:Txt K mg) (D:DefAt K mg "_law_early" gE ["_law_book","_law_deed_here"]):aG P w K mg base 1 "_law_early" ["_law_book","_law_deed_here"] pP:=by
 refine D.go dZ (fun vs H Q E h=>?_) (fun f cdv A outer s H vs Q E hr h=>?_)
 ·obtain⟨bk,t,kvs,f,x,rfl,_⟩:=h;rfl
 ·obtain⟨bk,t,kvs,f,x,rfl,gb,hB,gt,qs,qn⟩:=h
  have hu1:=eG hr
  refine⟨_,(R.ae (R.ai (i:=2) dZ.nd (R.ix (R.af (K:=K)) (R.v 1) (R.ax R.ac))) (R.ae (R.ai (i:=3) dZ.nd (R.ix (R.af (K:=K)) (R.v 1) (R.ax R.ac))) (R.ae (R.ap (R.ao R.eq (R.ix (R.af (K:=K)) (R.v 1) R.ac) R.ag) (R.ah (R.ai (i:=3) dZ.nd (R.ix (R.af (K:=K)) (R.v 1) R.ac))) R.aq) (R.ae (R.ai (i:=4) dZ.nd (R.dm hu1 (R.v 0) (R.v 3) R.ac)) (R.ae (R.ap (R.tw (R.bv (R.ao (R.be (K:=K)) (R.ix (R.af (K:=K)) (R.v 1) R.ac) (R.ak (R.aa R.ag (R.aa R.ag (R.aa R.ag R.ad))))) (R.cj (R.ao R.lt (R.v 4) (R.v 2))))) (R.ah (R.al (R.ak (R.aa R.ag (R.aa (R.v 4) R.ad))))) R.aq) (R.ae (R.ap (R.tw (R.bv (R.ao (R.be (K:=K)) (R.ix (R.af (K:=K)) (R.v 1) R.ac) (R.ak (R.aa R.ag (R.aa R.ag R.ad)))) (R.cj (R.ao R.gt (R.op R.au (R.v 4) (R.v 2)) (R.op R.bg R.ac R.ac))))) (R.ah (R.al (R.ak (R.aa R.ag (R.aa (R.v 4) R.ad))))) R.aq) (R.ae (R.ap (R.tw (R.bv (R.ao R.eq (R.ix (R.af (K:=K)) (R.v 1) R.ac) R.ag) (R.cj (R.ao R.gt (R.op R.au (R.dm hu1 (R.v 0) (R.ix (R.af (K:=K)) (R.v 1) R.ac) R.ac) (R.v 2)) (R.op R.bg R.ac R.ac))))) (R.ah (R.al (R.ak (R.aa R.ag (R.aa (R.dm hu1 (R.v 0) (R.ix (R.af (K:=K)) (R.v 1) R.ac) R.ac) R.ad))))) R.aq) (R.ae (R.ap (R.ao R.eq (R.ix (R.af (K:=K)) (R.v 1) R.ac) R.ag) (R.ah (R.al (R.ak (R.aa R.ag (R.aa (R.op R.bi (R.v 4) (R.v 2)) (R.aa (R.op R.au (R.dm hu1 (R.v 0) (R.ix (R.af (K:=K)) (R.v 1) R.ac) R.ac) (R.v 2)) R.ad)))))) R.aq) (R.ae (R.ap (R.ao (R.be (K:=K)) (R.ix (R.af (K:=K)) (R.v 1) R.ac) (R.ak (R.aa R.ag (R.aa R.ag R.ad)))) (R.ah (R.al (R.ak (R.aa R.ag (R.aa (R.op R.au (R.v 4) (R.ix (R.ar (K:=K)) (R.av (R.aa (R.v 2) (R.aa (R.ax (R.v 2)) R.ad))) (R.bj R.ee rfl T.b_int jI (R.aa (R.ay R.eq (R.ix (R.af (K:=K)) (R.v 1) R.ac) R.ag) R.ad)))) R.ad))))) R.aq) (R.ah (R.al R.bh))))))))))),?_⟩
  cases x with
  | add a n=>
   refine⟨_,SqT.of gt,_,rfl,⟨_,SqT.of gt,_,rfl,⟨_,SqT.of gt,_,rfl,?_⟩⟩⟩
   obtain⟨o,ho,eo⟩:=dg gb hB a
   refine⟨bk,rfl,Aa gb,o,ho,?_⟩
   rw[eo];refine⟨_,SqT.of gt,_,rfl,aN rfl,fun t1 H1 s1 g1=>⟨t1,_,rfl,.inr (SqT.of g1),rfl,rfl,?_⟩⟩
   have S1:Same H H1:=s1
   have gt1:=S1 _ _ gt
   have gb1:=S1 _ _ gb
   refine⟨_,SqT.of gt1,_,rfl,aN rfl,fun t2 H2 s2 g2=>⟨t2,_,rfl,.inr (SqT.of g2),rfl,rfl,?_⟩⟩
   have S2:Same H H2:=S1.trans s2
   have gt2:=S2 _ _ gt
   have gb2:=S2 _ _ gb
   refine⟨⟨Zd,Zd,Zd⟩,?_⟩
   refine bF (fun h=>?_) (fun h=>?_)
   ·have h':(1000000000000:Int)<(f a:Int)+(n:Int):=of_decide_eq_true h
    exact⟨aN rfl,fun c H' s' g'=>qs (.full (f a)) c H' (if_pos Zo) (S2.trans s') g'⟩
   ·have h':¬ (1000000000000:Int)<(f a:Int)+(n:Int):=of_decide_eq_false h
    refine⟨_,SqT.of gt2,_,rfl,_,SqT.of gt2,_,rfl,?_⟩
    refine⟨_,SqT.of gt2,_,rfl,aN rfl,fun t3 H3 s3 g3=>⟨t3,_,rfl,.inr (SqT.of g3),rfl,rfl,?_⟩⟩
    have S3:Same H H3:=S2.trans s3
    have gt3:=S3 _ _ gt
    have gb3:=S3 _ _ gb
    refine⟨dR rfl,fun p hp=>⟨_,SqT.of (aO gt3 hp),_,rfl,_,SqL.of aA,_,rfl,aN rfl,fun c H' s' g'=>?_⟩⟩
    refine qs (.is1 (f a+n)) c H' (if_neg Zo) ((S3.trans (aF hp)).trans s') ?_
    rw[g'];show some (HO.tup [V.str "is",.int ((f a:Int)+(n:Int))])=some (HO.tup [V.str "is",.int ((f a+n:Nat):Int)])
    rw[show((f a+n:Nat):Int)=(f a:Int)+(n:Int) by omega]
  | take a n=>
   refine⟨_,SqT.of gt,_,rfl,⟨_,SqT.of gt,_,rfl,⟨_,SqT.of gt,_,rfl,?_⟩⟩⟩
   obtain⟨o,ho,eo⟩:=dg gb hB a
   refine⟨bk,rfl,Aa gb,o,ho,?_⟩
   rw[eo];refine⟨_,SqT.of gt,_,rfl,aN rfl,fun t1 H1 s1 g1=>⟨t1,_,rfl,.inr (SqT.of g1),rfl,rfl,?_⟩⟩
   have S1:Same H H1:=s1
   have gt1:=S1 _ _ gt
   have gb1:=S1 _ _ gb
   refine bF (fun h=>?_) (fun h=>?_)
   ·have h':(f a:Int)<(n:Int):=of_decide_eq_true h
    exact⟨aN rfl,fun c H' s' g'=>qs (.short (f a)) c H' (if_pos Zo) (S1.trans s') g'⟩
   ·have h':¬ (f a:Int)<(n:Int):=of_decide_eq_false h
    refine⟨_,SqT.of gt1,_,rfl,aN rfl,fun t2 H2 s2 g2=>⟨t2,_,rfl,.inr (SqT.of g2),rfl,rfl,?_⟩⟩
    have S2:Same H H2:=S1.trans s2
    have gt2:=S2 _ _ gt
    have gb2:=S2 _ _ gb
    refine⟨_,SqT.of gt2,_,rfl,_,SqT.of gt2,_,rfl,?_⟩
    refine⟨_,SqT.of gt2,_,rfl,aN rfl,fun t3 H3 s3 g3=>⟨t3,_,rfl,.inr (SqT.of g3),rfl,rfl,?_⟩⟩
    have S3:Same H H3:=S2.trans s3
    have gt3:=S3 _ _ gt
    have gb3:=S3 _ _ gb
    refine⟨dR rfl,fun p hp=>⟨_,SqT.of (aO gt3 hp),_,rfl,_,SqL.of aA,_,rfl,aN rfl,fun c H' s' g'=>?_⟩⟩
    refine qs (.is1 (f a - n)) c H' (if_neg Zo) ((S3.trans (aF hp)).trans s') ?_
    rw[g'];show some (HO.tup [V.str "is",.int ((f a:Int)+-(n:Int))])=some (HO.tup [V.str "is",.int ((f a - n:Nat):Int)])
    rw[show((f a - n:Nat):Int)=(f a:Int)+-(n:Int) by omega]
  | move a b n=>
   refine⟨_,SqT.of gt,_,rfl,⟨_,SqT.of gt,_,rfl,⟨_,SqT.of gt,_,rfl,⟨_,SqT.of gt,_,rfl,?_⟩⟩⟩⟩
   obtain⟨o,ho,eo⟩:=dg gb hB a
   refine⟨bk,rfl,Aa gb,o,ho,?_⟩
   rw[eo];refine⟨_,SqT.of gt,_,rfl,aN rfl,fun t1 H1 s1 g1=>⟨t1,_,rfl,.inr (SqT.of g1),rfl,rfl,?_⟩⟩
   have S1:Same H H1:=s1
   have gt1:=S1 _ _ gt
   have gb1:=S1 _ _ gb
   refine bF (fun h=>?_) (fun h=>?_)
   ·have h':(f a:Int)<(n:Int):=of_decide_eq_true h
    exact⟨aN rfl,fun c H' s' g'=>qs (.short (f a)) c H' (if_pos Zo) (S1.trans s') g'⟩
   ·have h':¬ (f a:Int)<(n:Int):=of_decide_eq_false h
    refine⟨_,SqT.of gt1,_,rfl,aN rfl,fun t2 H2 s2 g2=>⟨t2,_,rfl,.inr (SqT.of g2),rfl,rfl,?_⟩⟩
    have S2:Same H H2:=S1.trans s2
    have gt2:=S2 _ _ gt
    have gb2:=S2 _ _ gb
    obtain⟨o2,ho2,eo2⟩:=dg gb2 hB b
    refine⟨_,SqT.of gt2,_,rfl,bk,rfl,Aa gb2,_,SqT.of gt2,_,rfl,o2,ho2,?_⟩
    rw[eo2];refine⟨⟨Zd,Zd,Zd⟩,?_⟩
    refine bF (fun h=>?_) (fun h=>?_)
    ·have h'':(1000000000000:Int)<(f b:Int)+(n:Int):=of_decide_eq_true h
     refine⟨bk,rfl,Aa gb2,_,SqT.of gt2,_,rfl,o2,ho2,?_⟩
     rw[eo2];exact⟨aN rfl,fun c H' s' g'=>qs (.full (f b)) c H' ((if_neg Zo).trans (if_pos Zo)) (S2.trans s') g'⟩
    ·have h'':¬ (1000000000000:Int)<(f b:Int)+(n:Int):=of_decide_eq_false h
     refine⟨_,SqT.of gt2,_,rfl,bk,rfl,Aa gb2,_,SqT.of gt2,_,rfl,o2,ho2,?_⟩
     rw[eo2];refine⟨aN rfl,fun c H' s' g'=>?_⟩
     refine qs (.is2 (f a - n) (f b+n)) c H' ((if_neg Zo).trans (if_neg Zo)) (S2.trans s') ?_
     rw[g'];show some (HO.tup [V.str "is",.int ((f a:Int) - (n:Int)),.int ((f b:Int)+(n:Int))])=some (HO.tup [V.str "is",.int ((f a - n:Nat):Int),.int ((f b+n:Nat):Int)])
     rw[show((f a - n:Nat):Int)=(f a:Int) - (n:Int) by omega,show((f b+n:Nat):Int)=(f b:Int)+(n:Int) by omega]
  | send h a n=>
   refine⟨_,SqT.of gt,_,rfl,⟨_,SqT.of gt,_,rfl,⟨_,SqT.of gt,_,rfl,?_⟩⟩⟩
   obtain⟨o,ho,eo⟩:=dg gb hB a
   refine⟨bk,rfl,Aa gb,o,ho,?_⟩
   rw[eo];refine⟨_,SqT.of gt,_,rfl,aN rfl,fun t1 H1 s1 g1=>⟨t1,_,rfl,.inr (SqT.of g1),rfl,rfl,?_⟩⟩
   have S1:Same H H1:=s1
   have gt1:=S1 _ _ gt
   have gb1:=S1 _ _ gb
   refine bF (fun h=>?_) (fun h=>?_)
   ·have h':(f a:Int)<(n:Int):=of_decide_eq_true h
    exact⟨aN rfl,fun c H' s' g'=>qs (.short (f a)) c H' (if_pos Zo) (S1.trans s') g'⟩
   ·have h':¬ (f a:Int)<(n:Int):=of_decide_eq_false h
    refine⟨_,SqT.of gt1,_,rfl,aN rfl,fun t2 H2 s2 g2=>⟨t2,_,rfl,.inr (SqT.of g2),rfl,rfl,?_⟩⟩
    have S2:Same H H2:=S1.trans s2
    have gt2:=S2 _ _ gt
    have gb2:=S2 _ _ gb
    refine⟨_,SqT.of gt2,_,rfl,_,SqT.of gt2,_,rfl,?_⟩
    refine⟨_,SqT.of gt2,_,rfl,aN rfl,fun t3 H3 s3 g3=>⟨t3,_,rfl,.inr (SqT.of g3),rfl,rfl,?_⟩⟩
    have S3:Same H H3:=S2.trans s3
    have gt3:=S3 _ _ gt
    have gb3:=S3 _ _ gb
    exact qn (if_neg Zo) _ S3
  | fetch h a n=>
   refine⟨_,SqT.of gt,_,rfl,⟨_,SqT.of gt,_,rfl,⟨_,SqT.of gt,_,rfl,?_⟩⟩⟩
   obtain⟨o,ho,eo⟩:=dg gb hB a
   refine⟨bk,rfl,Aa gb,o,ho,?_⟩
   rw[eo];refine⟨_,SqT.of gt,_,rfl,aN rfl,fun t1 H1 s1 g1=>⟨t1,_,rfl,.inr (SqT.of g1),rfl,rfl,?_⟩⟩
   have S1:Same H H1:=s1
   have gt1:=S1 _ _ gt
   have gb1:=S1 _ _ gb
   refine⟨_,SqT.of gt1,_,rfl,aN rfl,fun t2 H2 s2 g2=>⟨t2,_,rfl,.inr (SqT.of g2),rfl,rfl,?_⟩⟩
   have S2:Same H H2:=S1.trans s2
   have gt2:=S2 _ _ gt
   have gb2:=S2 _ _ gb
   refine⟨⟨Zd,Zd,Zd⟩,?_⟩
   refine bF (fun h=>?_) (fun h=>?_)
   ·have h':(1000000000000:Int)<(f a:Int)+(n:Int):=of_decide_eq_true h
    exact⟨aN rfl,fun c H' s' g'=>qs (.full (f a)) c H' (if_pos Zo) (S2.trans s') g'⟩
   ·have h':¬ (1000000000000:Int)<(f a:Int)+(n:Int):=of_decide_eq_false h
    refine⟨_,SqT.of gt2,_,rfl,_,SqT.of gt2,_,rfl,?_⟩
    refine⟨_,SqT.of gt2,_,rfl,aN rfl,fun t3 H3 s3 g3=>⟨t3,_,rfl,.inr (SqT.of g3),rfl,rfl,?_⟩⟩
    have S3:Same H H3:=S2.trans s3
    have gt3:=S3 _ _ gt
    have gb3:=S3 _ _ gb
    exact qn (if_neg Zo) _ S3
  | pass h g a n=>
   refine⟨_,SqT.of gt,_,rfl,⟨_,SqT.of gt,_,rfl,⟨_,SqT.of gt,_,rfl,?_⟩⟩⟩
   obtain⟨o,ho,eo⟩:=dg gb hB a
   refine⟨bk,rfl,Aa gb,o,ho,?_⟩
   rw[eo];refine⟨_,SqT.of gt,_,rfl,aN rfl,fun t1 H1 s1 g1=>⟨t1,_,rfl,.inr (SqT.of g1),rfl,rfl,?_⟩⟩
   have S1:Same H H1:=s1
   have gt1:=S1 _ _ gt
   have gb1:=S1 _ _ gb
   refine⟨_,SqT.of gt1,_,rfl,aN rfl,fun t2 H2 s2 g2=>⟨t2,_,rfl,.inr (SqT.of g2),rfl,rfl,?_⟩⟩
   have S2:Same H H2:=S1.trans s2
   have gt2:=S2 _ _ gt
   have gb2:=S2 _ _ gb
   refine⟨_,SqT.of gt2,_,rfl,_,SqT.of gt2,_,rfl,?_⟩
   refine⟨_,SqT.of gt2,_,rfl,aN rfl,fun t3 H3 s3 g3=>⟨t3,_,rfl,.inr (SqT.of g3),rfl,rfl,?_⟩⟩
   have S3:Same H H3:=S2.trans s3
   have gt3:=S3 _ _ gt
   have gb3:=S3 _ _ gb
   exact qn (rfl) _ S3
end
end KL
namespace KL
open PySem L2
section
variable {P:Program} {w:World} {K:W.Frag} {mg:Str->Option Value} {base:Heap}
def pQ:Sp:=fun vs H Q _=>∃(bk t:Addr) (kvs:List (aT × V)) (f:Str->Nat) (x:Dd),vs=[.ref bk,.ref t]/\H bk=some (.dK kvs)/\BookIs kvs f/\H t=some (.tup x.vs)/\x.far=true/\aP f x=none ∧
 ∀(l:Addr) (cs:List Addr) (H':Hp),H l=none->H' l=some (.lst (cs.map V.ref))->Paired (fun y c=>H' c=some (.tup (An.vs y))) (bH f x) cs->Same H H'->Q (.ref l) H'
theorem Ic (T:Txt K mg) (D:DefAt K mg "_law_lates" gF ["_law_book","_law_deed_here"]):aG P w K mg base 1 "_law_lates" ["_law_book","_law_deed_here"] pQ:=by
 refine D.go lJ (fun vs H Q E h=>?_) (fun f cdv A outer s H vs Q E hr h=>?_)
 ·obtain⟨bk,t,kvs,f,x,rfl,_⟩:=h;rfl
 ·obtain⟨bk,t,kvs,f,x,rfl,gb,hB,gt,hf,he,q⟩:=h
  have hu1:=eG hr
  refine⟨_,(R.ae (R.ap (R.ao R.eq (R.ix (R.af (K:=K)) (R.v 1) R.ac) R.ag) (R.ah (R.al (R.av (R.aa (R.ak (R.aa R.ag (R.aa (R.ix (R.af (K:=K)) (R.v 1) R.ac) R.ad))) (R.aa (R.ak (R.aa R.ag (R.aa (R.ix (R.af (K:=K)) (R.v 1) R.ac) R.ad))) (R.aa (R.ak (R.aa R.ag R.ad)) R.ad)))))) R.aq) (R.ae (R.ai (i:=2) lJ.nd (R.op R.au (R.dm hu1 (R.v 0) (R.ix (R.af (K:=K)) (R.v 1) R.ac) R.ac) (R.ix (R.ar (K:=K)) (R.av (R.aa (R.ix (R.af (K:=K)) (R.v 1) R.ac) (R.aa (R.ax (R.ix (R.af (K:=K)) (R.v 1) R.ac)) R.ad))) (R.bj R.ee rfl T.b_int jI (R.aa (R.ay R.eq (R.ix (R.af (K:=K)) (R.v 1) R.ac) R.ag) R.ad))))) (R.ah (R.al (R.av (R.aa (R.ak (R.aa R.ag (R.aa (R.ix (R.af (K:=K)) (R.v 1) R.ac) R.ad))) (R.aa (R.ak (R.aa R.ag (R.aa (R.v 2) R.ad))) R.ad))))))),?_⟩
  cases x with
  | add a n=>cases hf
  | take a n=>cases hf
  | move a b n=>cases hf
  | pass h g a n=>
   refine⟨_,SqT.of gt,_,rfl,_,SqT.of gt,_,rfl,aN rfl,fun c1 H1 s1 g1=>⟨_,SqT.of (s1 _ _ gt),_,rfl,aN rfl,fun c2 H2 s2 g2=>⟨aN rfl,fun c3 H3 s3 g3=>⟨dR rfl,fun l hl=>?_⟩⟩⟩⟩
   have S3:=(s1.trans s2).trans s3
   exact q l [c1,c2,c3] _ (S3.free hl) aA (.cons (aO (s3 _ _ (s2 _ _ g1)) hl) (.cons (aO (s3 _ _ g2) hl) (.cons (aO g3 hl) .nil))) (S3.trans (aF hl))
  | send h a n=>
   have hn:¬ f a<n:=fun z=>by simp only [aP]at he;rw[if_pos z]at he;cases he
   obtain⟨o,ho,eo⟩:=dg gb hB a
   refine⟨_,SqT.of gt,_,rfl,bk,rfl,Aa gb,_,SqT.of gt,_,rfl,o,ho,?_⟩
   rw[eo];refine⟨_,SqT.of gt,_,rfl,_,SqT.of gt,_,rfl,dR rfl,fun p hp=>⟨_,SqT.of (aO gt hp),_,rfl,_,SqL.of aA,_,rfl,?_⟩⟩
   have S0:=aF (o:=.lst [.int (n:Int),.int (-(n:Int))]) hp
   refine⟨_,SqT.of (aO gt hp),_,rfl,aN rfl,fun c1 H1 s1 g1=>⟨aN rfl,fun c2 H2 s2 g2=>⟨dR rfl,fun l hl=>?_⟩⟩⟩
   have S3:=(S0.trans s1).trans s2
   refine q l [c1,c2] _ (S3.free hl) aA (.cons (aO (s2 _ _ g1) hl) (.cons ?_ .nil)) (S3.trans (aF hl))
   rw[aO g2 hl];show some (HO.tup [V.str "is",.int ((f a:Int)+-(n:Int))])=some (HO.tup [V.str "is",.int ((f a - n:Nat):Int)])
   rw[show((f a - n:Nat):Int)=(f a:Int)+-(n:Int) by omega]
  | fetch h a n=>
   obtain⟨o,ho,eo⟩:=dg gb hB a
   refine⟨_,SqT.of gt,_,rfl,bk,rfl,Aa gb,_,SqT.of gt,_,rfl,o,ho,?_⟩
   rw[eo];refine⟨_,SqT.of gt,_,rfl,_,SqT.of gt,_,rfl,dR rfl,fun p hp=>⟨_,SqT.of (aO gt hp),_,rfl,_,SqL.of aA,_,rfl,?_⟩⟩
   have S0:=aF (o:=.lst [.int (n:Int),.int (-(n:Int))]) hp
   refine⟨_,SqT.of (aO gt hp),_,rfl,aN rfl,fun c1 H1 s1 g1=>⟨aN rfl,fun c2 H2 s2 g2=>⟨dR rfl,fun l hl=>?_⟩⟩⟩
   have S3:=(S0.trans s1).trans s2
   refine q l [c1,c2] _ (S3.free hl) aA (.cons (aO (s2 _ _ g1) hl) (.cons ?_ .nil)) (S3.trans (aF hl))
   rw[aO g2 hl];show some (HO.tup [V.str "is",.int ((f a:Int)+(n:Int))])=some (HO.tup [V.str "is",.int ((f a+n:Nat):Int)])
   rw[show((f a+n:Nat):Int)=(f a:Int)+(n:Int) by omega]
def rW:Dd->An->List (Str × Int)
 | .add a n,.is1 _=>[(a,(n:Int))]
 | .take a n,.is1 _=>[(a,-(n:Int))]
 | .move a b n,.is2 _ _=>[(a,-(n:Int)),(b,(n:Int))]
 | .send _ a n,.is1 _=>[(a,-(n:Int))]
 | .fetch _ a n,.is1 _=>[(a,(n:Int))]
 | _,_=>[]
def Xu (H:Hp) (c:Str × Int) (p:Addr):Prop:=H p=some (.tup [.str c.1,.int c.2])
def pR:Sp:=fun vs H Q _=>∃(t c:Addr) (x:Dd) (y:An),vs=[.ref t,.ref c]/\H t=some (.tup x.vs)/\H c=some (.tup y.vs)/\An.Of x y ∧
 ∀(l:Addr) (ps:List Addr) (H':Hp),H l=none->H' l=some (.lst (ps.map V.ref))->Paired (Xu H') (rW x y) ps->Same H H'->Q (.ref l) H'
theorem pS (y:An):kT y.vs 0=some (.str (jR y)):=by cases y <;> rfl
theorem pT {y:An} (h:jR y="is"):(∃m,y=.is1 m)∨∃l m,y=.is2 l m:=by
 cases y with
 | is1 m=>exact .inl ⟨m,rfl⟩
 | is2 l m=>exact .inr ⟨l,m,rfl⟩
 | short m=>exact absurd (show("short":Str)="is" from h) Zk
 | full m=>exact absurd (show("full":Str)="is" from h) Zk
 | no m=>exact absurd (show("no":Str)="is" from h) Zk
 | ok=>exact absurd (show("ok":Str)="is" from h) Zk
theorem wD (T:Txt K mg) (D:DefAt K mg "_law_changes" eT ["_law_deed_here","_law_answer_here"]):aG P w K mg base 1 "_law_changes" ["_law_deed_here","_law_answer_here"] pR:=by
 refine D.go pM (fun vs H Q E h=>?_) (fun f cdv A outer s H vs Q E hr h=>?_)
 ·obtain⟨t,c,x,y,rfl,_⟩:=h;rfl
 ·obtain⟨t,c,x,y,rfl,gt,gc,hy,q⟩:=h
  refine⟨_,(R.ae (R.ap (R.ao R.ne (R.ix (R.af (K:=K)) (R.v 1) R.ac) R.ag) (R.ah (R.al (R.av R.ad))) R.aq) (R.ae (R.ap (R.ao R.eq (R.ix (R.af (K:=K)) (R.v 0) R.ac) R.ag) (R.ah (R.al (R.av (R.aa (R.ak (R.aa (R.ix (R.af (K:=K)) (R.v 0) R.ac) (R.aa (R.ax (R.ix (R.af (K:=K)) (R.v 0) R.ac)) R.ad))) (R.aa (R.ak (R.aa (R.ix (R.af (K:=K)) (R.v 0) R.ac) (R.aa (R.ix (R.af (K:=K)) (R.v 0) R.ac) R.ad))) R.ad))))) R.aq) (R.ah (R.al (R.av (R.aa (R.ak (R.aa (R.ix (R.af (K:=K)) (R.v 0) (R.ax R.ac)) (R.aa (R.ix (R.ar (K:=K)) (R.av (R.aa (R.ix (R.af (K:=K)) (R.v 0) (R.ax R.ac)) (R.aa (R.ax (R.ix (R.af (K:=K)) (R.v 0) (R.ax R.ac))) R.ad))) (R.bj R.ee rfl T.b_int jI (R.aa (R.ay (R.be (K:=K)) (R.ix (R.af (K:=K)) (R.v 0) R.ac) (R.ak (R.aa R.ag (R.aa R.ag R.ad)))) R.ad))) R.ad))) R.ad)))))),?_⟩
  refine⟨_,SqT.of gc,_,pS y,?_⟩
  by_cases hw:jR y="is"
  ·show if (!decide (jR y="is"))=true then _ else _
   refine tO (by rw[decide_eq_true hw];rfl) ?_
   cases x with
   | add a n=>
    rcases pT hw with⟨m,rfl⟩ | ⟨l,m,rfl⟩
    ·refine⟨_,SqT.of gt,_,rfl,_,SqT.of gt,_,rfl,_,SqT.of gt,_,rfl,_,SqT.of gt,_,rfl,dR rfl,fun p hp=>⟨_,SqT.of (aO gt hp),_,rfl,aN rfl,fun tq Ha sa ga=>⟨tq,_,rfl,.inr (SqT.of ga),rfl,rfl,_,SqL.of (sa _ _ aA),_,rfl,aN rfl,fun c1 H1 s1 g1=>⟨dR rfl,fun l hl=>?_⟩⟩⟩⟩
     have S:=((aF hp).trans sa).trans s1
     exact q l [c1] _ (S.free hl) aA (.cons (aO g1 hl) .nil) (S.trans (aF hl))
    ·exact hy.elim
   | take a n=>
    rcases pT hw with⟨m,rfl⟩ | ⟨l,m,rfl⟩
    ·refine⟨_,SqT.of gt,_,rfl,_,SqT.of gt,_,rfl,_,SqT.of gt,_,rfl,_,SqT.of gt,_,rfl,dR rfl,fun p hp=>⟨_,SqT.of (aO gt hp),_,rfl,aN rfl,fun tq Ha sa ga=>⟨tq,_,rfl,.inr (SqT.of ga),rfl,rfl,_,SqL.of (sa _ _ aA),_,rfl,aN rfl,fun c1 H1 s1 g1=>⟨dR rfl,fun l hl=>?_⟩⟩⟩⟩
     have S:=((aF hp).trans sa).trans s1
     exact q l [c1] _ (S.free hl) aA (.cons (aO g1 hl) .nil) (S.trans (aF hl))
    ·exact hy.elim
   | send h a n=>
    rcases pT hw with⟨m,rfl⟩ | ⟨l,m,rfl⟩
    ·refine⟨_,SqT.of gt,_,rfl,_,SqT.of gt,_,rfl,_,SqT.of gt,_,rfl,_,SqT.of gt,_,rfl,dR rfl,fun p hp=>⟨_,SqT.of (aO gt hp),_,rfl,aN rfl,fun tq Ha sa ga=>⟨tq,_,rfl,.inr (SqT.of ga),rfl,rfl,_,SqL.of (sa _ _ aA),_,rfl,aN rfl,fun c1 H1 s1 g1=>⟨dR rfl,fun l hl=>?_⟩⟩⟩⟩
     have S:=((aF hp).trans sa).trans s1
     exact q l [c1] _ (S.free hl) aA (.cons (aO g1 hl) .nil) (S.trans (aF hl))
    ·exact hy.elim
   | fetch h a n=>
    rcases pT hw with⟨m,rfl⟩ | ⟨l,m,rfl⟩
    ·refine⟨_,SqT.of gt,_,rfl,_,SqT.of gt,_,rfl,_,SqT.of gt,_,rfl,_,SqT.of gt,_,rfl,dR rfl,fun p hp=>⟨_,SqT.of (aO gt hp),_,rfl,aN rfl,fun tq Ha sa ga=>⟨tq,_,rfl,.inr (SqT.of ga),rfl,rfl,_,SqL.of (sa _ _ aA),_,rfl,aN rfl,fun c1 H1 s1 g1=>⟨dR rfl,fun l hl=>?_⟩⟩⟩⟩
     have S:=((aF hp).trans sa).trans s1
     exact q l [c1] _ (S.free hl) aA (.cons (aO g1 hl) .nil) (S.trans (aF hl))
    ·exact hy.elim
   | move a b n=>
    rcases pT hw with⟨m,rfl⟩ | ⟨m',m,rfl⟩
    ·exact hy.elim
    ·refine⟨_,SqT.of gt,_,rfl,_,SqT.of gt,_,rfl,_,SqT.of gt,_,rfl,aN rfl,fun c1 H1 s1 g1=>⟨_,SqT.of (s1 _ _ gt),_,rfl,_,SqT.of (s1 _ _ gt),_,rfl,aN rfl,fun c2 H2 s2 g2=>⟨dR rfl,fun l hl=>?_⟩⟩⟩
     have S:=s1.trans s2
     exact q l [c1,c2] _ (S.free hl) aA (.cons (aO (s2 _ _ g1) hl) (.cons (aO g2 hl) .nil)) (S.trans (aF hl))
   | pass h g a n=>rcases pT hw with⟨m,rfl⟩ | ⟨m',m,rfl⟩ <;> exact hy.elim
  ·show if (!decide (jR y="is"))=true then _ else _
   refine Cg (by rw[decide_eq_false hw];rfl) ?_
   refine⟨dR rfl,fun l hl=>?_⟩
   have e:rW x y=[]:=by cases x <;> cases y <;> first | rfl | exact absurd rfl hw
   exact q l [] _ hl aA (by rw[e];exact .nil) (aF hl)
def eL (f:Str->Nat) (c:Str × Int):Str->Nat:=eF f c.1 ((f c.1:Int)+c.2).toNat
def pU (f:Str->Nat) (cs:List (Str × Int)):Str->Nat:=cs.foldl eL f
def wE:(Str->Nat)->List (Str × Int)->Prop
 | _,[]=>True
 | f,c::cs=>0<=(f c.1:Int)+c.2/\wE (eL f c) cs
theorem gM {f:Str->Nat} {x:Dd} {q:Bool} {y:An} (hx:x.Ok) (h:gT f x q y):pU f (rW x y)=after f x y/\wE f (rW x y):=by
 rcases h with⟨rfl,h⟩ | ⟨rfl,h1,h2⟩
 ·cases x with
  | add a n=>
   simp only [aP]at h
   split at h <;> cases h
   ·exact⟨rfl,trivial⟩
   ·refine⟨?_,by show(0:Int)<=_+_;omega,trivial⟩
    show eF f a ((f a:Int)+(n:Int)).toNat=eF f a (f a+n)
    rw[show((f a:Int)+(n:Int)).toNat=f a+n by omega]
  | take a n=>
   simp only [aP]at h
   split at h <;> cases h
   ·exact⟨rfl,trivial⟩
   ·refine⟨?_,by show(0:Int)<=(f a:Int)+-(n:Int);omega,trivial⟩
    show eF f a ((f a:Int)+-(n:Int)).toNat=eF f a (f a - n)
    rw[show((f a:Int)+-(n:Int)).toNat=f a - n by omega]
  | move a b n=>
   have hab:b≠a:=fun z=>hx.2.2.1 z.symm
   simp only [aP]at h
   split at h
   ·cases h;exact⟨rfl,trivial⟩
   ·split at h <;> cases h
    ·exact⟨rfl,trivial⟩
    ·have eb:eL f (a,-(n:Int)) b=f b:=by unfold eL eF;exact if_neg hab
     refine⟨?_,by show(0:Int)<=(f a:Int)+-(n:Int);omega,?_,trivial⟩
     ·show eL (eL f (a,-(n:Int))) (b,(n:Int))=eF (eF f a (f a - n)) b (f b+n)
      have e1:eL f (a,-(n:Int))=eF f a (f a - n):=by
       unfold eL;rw[show((f a:Int)+-(n:Int)).toNat=f a - n by omega]
      unfold eL at eb ⊢
      dsimp only at eb ⊢
      rw[eb,show((f b:Int)+(n:Int)).toNat=f b+n by omega]
      unfold eL at e1;rw[e1]
     ·show(0:Int)<=(eL f (a,-(n:Int)) b:Int)+(n:Int)
      omega
  | send g a n=>
   simp only [aP]at h
   split at h <;> cases h
   exact⟨rfl,trivial⟩
  | fetch g a n=>
   simp only [aP]at h
   split at h <;> cases h
   exact⟨rfl,trivial⟩
  | pass g k a n=>cases h
 ·cases x with
  | add a n=>cases h2
  | take a n=>cases h2
  | move a b n=>cases h2
  | send g a n=>
   simp only [aP]at h1
   simp only [bH,List.mem_cons,List.not_mem_nil,or_false]at h2
   have hn:¬ f a<n:=by
    intro hh;rw[if_pos hh]at h1;cases h1
   rcases h2 with rfl | rfl
   ·exact⟨rfl,trivial⟩
   ·refine⟨?_,by show(0:Int)<=(f a:Int)+-(n:Int);omega,trivial⟩
    show eF f a ((f a:Int)+-(n:Int)).toNat=eF f a (f a - n)
    rw[show((f a:Int)+-(n:Int)).toNat=f a - n by omega]
  | fetch g a n=>
   simp only [bH,List.mem_cons,List.not_mem_nil,or_false]at h2
   rcases h2 with rfl | rfl
   ·exact⟨rfl,trivial⟩
   ·refine⟨?_,by show(0:Int)<=(f a:Int)+(n:Int);omega,trivial⟩
    show eF f a ((f a:Int)+(n:Int)).toNat=eF f a (f a+n)
    rw[show((f a:Int)+(n:Int)).toNat=f a+n by omega]
  | pass g k a n=>
   simp only [bH,List.mem_cons,List.not_mem_nil,or_false]at h2
   rcases h2 with rfl | rfl | rfl <;> exact⟨rfl,trivial⟩
theorem uH (x:Dd) (y:An):(rW x y).length<=2:=by cases x <;> cases y <;> exact Nat.le_of_ble_eq_true rfl
def fV:Sp:=fun vs H Q _=>∃(bk t c:Addr) (kvs:List (aT × V)) (f:Str->Nat) (x:Dd) (y:An),vs=[.ref bk,.ref t,.ref c]/\H bk=some (.dK kvs)/\BookIs kvs f/\kvs.length<=900/\H t=some (.tup x.vs)/\H c=some (.tup y.vs)/\An.Of x y/\wE f (rW x y) ∧
 ∀(kvs':List (aT × V)) (H':Hp),H' bk=some (.dK kvs')->BookIs kvs' (pU f (rW x y))->kvs'.length<=kvs.length+2->K1 bk H H'->Q .non H'
theorem yE (T:Txt K mg) (cLchanges:aG P w K mg base 1 "_law_changes" ["_law_deed_here","_law_answer_here"] pR)
  (D:DefAt K mg "_law_changed" eU ["_law_book","_law_deed_here","_law_answer_here"]):aG P w K mg base 2 "_law_changed" ["_law_book","_law_deed_here","_law_answer_here"] fV:=by
 refine D.go fU (fun vs H Q E h=>?_) (fun f cdv A outer s H vs Q E hr h=>?_)
 ·obtain⟨bk,t,c,kvs,f,x,y,rfl,_⟩:=h;rfl
 ·obtain⟨bk,t,c,kvs,f,x,y,rfl,gb,hB,hl,gt,gc,hy,hG,q⟩:=h
  have hu1:=eG hr
  have hLchanges:=hr
  refine⟨_,(R.ah (R.bp PassesOwn.never rfl (R.bo (K:=K) (R.fn cLchanges hLchanges rfl (R.aa (R.v 1) (R.aa (R.v 2) R.ad)))) (R.de (K:=K) (n:=2) rfl (R.bb (R.gn (i:=3) fU.nd) (R.bb (R.gn (i:=4) fU.nd) R.df))) (R.ah (R.br (R.op R.au (R.dm hu1 (R.v 0) (R.v 3) R.ac) (R.v 4)) (R.cg (R.v 0) (R.v 3) (R.cq hu1)))))),?_⟩
  refine⟨t,c,x,y,rfl,gt,gc,hy,fun l ps H1 fl g1 pp s1=>⟨l,rfl,⟨_,SqL.of g1⟩,?_⟩⟩
  have hbl:bk≠l:=aE gb fl
  have h2:=uH x y
  have hpl:(rW x y).length=ps.length:=pp.length
  refine dM (cU K l (ps.map V.ref)) (fun i σ' H'=>∃(kvs':List (aT × V)) (g:Str->Nat) (o3 o4:Option V),σ'=[some (.ref bk),some (.ref t),some (.ref c),o3,o4]/\H' bk=some (.dK kvs')/\BookIs kvs' g/\kvs'.length<=kvs.length+i/\wE g ((rW x y).drop i)/\pU g ((rW x y).drop i)=pU f (rW x y)/\K1 bk H1 H'/\H' l=some (.lst (ps.map V.ref))) (fun i σ' H' ⟨_,_,_,_,_,_,_,_,_,_,_,e⟩=>SqL.of e)
   ⟨kvs,f,_,_,rfl,s1 _ _ gb,hB,bM _,hG,rfl,(fun _ _ e _=>e),g1⟩ ?_ ?_
  ·rintro i v σ' H2 hv ⟨kvs',g,o3,o4,rfl,gb2,hB2,hl2,hG2,ea,k2,gl2⟩
   rw[kE]at hv;cases hp:ps[i]? with
   | none=>rw[hp]at hv;cases hv
   | some p=>
    rw[hp]at hv;cases hv
    obtain⟨hi,ei⟩:=Zgs.mp hp
    obtain⟨hi',pv⟩:=Paired.get' (j:=i) pp hi
    rw[ei]at pv;generalize hcc:(rW x y)[i]=cc at pv;obtain⟨z,by_⟩:=cc
    have pv':H1 p=some (.tup [.str z,.int by_]):=pv
    have gp2:=k2 _ _ pv' (fun e=>by rw[e,s1 _ _ gb]at pv';cases pv')
    have ed:(rW x y).drop i=(z,by_)::(rW x y).drop (i+1):=by rw[List.drop_eq_getElem_cons hi',hcc]
    rw[ed]at hG2 ea;refine⟨p,_,rfl,SqT.of gp2,rfl,_,_,rfl,_,_,rfl,rfl,?_⟩
    obtain⟨o,ho,eo⟩:=dg gb2 hB2 z
    refine⟨bk,rfl,Aa gb2,o,ho,?_⟩
    rw[eo];refine⟨bk,_,rfl,DPut.k (k:=Sum.inr z) gb2 (oK (m:=1000) Zo Zd),?_⟩
    have e0:(0:Int)<=(g z:Int)+by_:=hG2.1
    have hput:=hB2.put z ((g z:Int)+by_).toNat
    rw[Int.toNat_of_nonneg e0]at hput;refine⟨_,_,_,_,rfl,aA,hput,kK (cJ _ _ _) Zo,hG2.2,ea,fun c' o' e' n'=>?_,?_⟩
    ·rw[aD n'];exact k2 _ _ e' n'
    ·rw[aD hbl.symm];exact gl2
  ·rintro σ' H2 ⟨kvs',g,o3,o4,rfl,gb2,hB2,hl2,hG2,ea,k2,gl2⟩
   rw[bG]at hl2 ea;rw[<- hpl,List.drop_length]at ea;refine q kvs' H2 gb2 ?_ Zo (fun c' o' e' n'=>k2 _ _ (s1 _ _ e') n')
   rw[<- ea];exact hB2
end
end KL
namespace KL
open PySem L2
section
variable {P:Program} {w:World} {K:W.Frag} {mg:Str->Option Value} {base:Heap}
def Pw:Dd->Nat->Dd
 | .add a _,m=>.add a m | .take a _,m=>.take a m | .move a b _,m=>.move a b m | .send h a _,m=>.send h a m | .fetch h a _,m=>.fetch h a m | .pass h g a _,m=>.pass h g a m
theorem Id {x:Dd} {m:Nat} (h:x.Ok) (h1:1<=m) (h2:m<=1000000000000):(Pw x m).Ok:=by
 cases x with
 | add a n=>exact⟨h.1,h1,h2⟩
 | take a n=>exact⟨h.1,h1,h2⟩
 | move a b n=>exact⟨h.1,h.2.1,h.2.2.1,h1,h2⟩
 | send a b n=>exact⟨h.1,h.2.1,h1,h2⟩
 | fetch a b n=>exact⟨h.1,h.2.1,h1,h2⟩
 | pass a b c n=>exact⟨h.1,h.2.1,h.2.2.1,h.2.2.2.1,h1,h2⟩
theorem Ie (x:Dd) (m:Nat):fI x.vs none (some (-1))++[.int (m:Int)]=(Pw x m).vs:=by cases x <;> rfl
theorem Zz (x:Dd):∃z:Str,kT x.vs (-2)=some (.str z):=by cases x <;> exact⟨_,rfl⟩
def pV:Sp:=fun vs H Q _=>∃(d b bk t:Addr) (kvs:List (aT × V)) (f:Str->Nat) (x:Dd),vs=[.ref d,.ref bk,.ref t]/\Dk H d b/\H bk=some (.dK kvs)/\BookIs kvs f/\H t=some (.tup x.vs)/\x.Ok ∧
 ∀(t':Addr) (x':Dd) (H':Hp),x'.Ok->H' t'=some (.tup x'.vs)->Fw d b H H'->Q (.ref t') H'
theorem Dk.dict {H:Hp} {d b a:Addr} {kvs:List (aT × V)} (D:Dk H d b) (g:H a=some (.dK kvs)):a≠d/\a≠b:=by
 obtain⟨ns,s,k,h1,h2,h3⟩:=D.ex
 exact⟨(fun e=>by rw[e,h1]at g;cases g),(fun e=>by rw[e,h2]at g;cases g)⟩
theorem Fw.dict {d b a:Addr} {H H':Hp} {kvs:List (aT × V)} (f:Fw d b H H') (g:H a=some (.dK kvs)):H' a=some (.dK kvs):=f.get g (Dk.dict f.d0 g).1 (Dk.dict f.d0 g).2
theorem Ig (T:Txt K mg) (cLdraw:aG P w K mg base 1 "_law_draw" ["_law_deck_here","_law_many"] bJ)
  (D:DefAt K mg "_law_sized" gG ["_law_deck_here","_law_book","_law_deed_here"]):aG P w K mg base 2 "_law_sized" ["_law_deck_here","_law_book","_law_deed_here"] pV:=by
 refine D.go dB (fun vs H Q E h=>?_) (fun f cdv A outer s H vs Q E hr h=>?_)
 ·obtain⟨d,b,bk,t,kvs,f,x,rfl,_⟩:=h;rfl
 ·obtain⟨d,b,bk,t,kvs,f,x,rfl,dk,gb,hB,gt,hx,q⟩:=h
  have hu1:=eG hr
  have hLdraw:=hr
  refine⟨_,(R.ae (R.ai (i:=3) dB.nd (R.ix (R.af (K:=K)) (R.v 2) (R.ax R.ac))) (R.ae (R.ap (R.ao R.eq (R.ix (R.af (K:=K)) (R.v 2) R.ac) R.ag) (R.ah (R.ai (i:=3) dB.nd (R.ix (R.af (K:=K)) (R.v 2) (R.op R.au R.ac (R.fn cLdraw hLdraw rfl (R.aa (R.v 0) (R.aa R.ac R.ad))))))) R.aq) (R.ae (R.ai (i:=4) dB.nd (R.dm hu1 (R.v 1) (R.v 3) R.ac)) (R.ae (R.ai (i:=5) dB.nd (R.av (R.aa (R.ix (R.af (K:=K)) (R.v 2) (R.ax R.ac)) (R.aa (R.op R.au R.ac (R.fn cLdraw hLdraw rfl (R.aa (R.v 0) (R.aa R.ac R.ad)))) (R.aa (R.v 4) (R.aa (R.op R.au (R.v 4) R.ac) (R.aa (R.op R.bi (R.op R.bg R.ac R.ac) (R.v 4)) (R.aa (R.op R.au (R.op R.bi (R.op R.bg R.ac R.ac) (R.v 4)) R.ac) R.ad)))))))) (R.ae (R.ai (i:=6) dB.nd (R.ix (R.ar (K:=K)) (R.v 5) (R.fn cLdraw hLdraw rfl (R.aa (R.v 0) (R.aa R.ac R.ad))))) (R.ah (R.al (R.op R.dw (R.sl R.sT (R.v 2) R.pn (R.ps (R.ax R.ac))) (R.ak (R.aa (R.aw (R.iw rfl) rfl T.b_max mL (R.aa R.ac (R.aa (R.aw (R.fk rfl) rfl T.b_min xN (R.aa (R.op R.bg R.ac R.ac) (R.aa (R.v 6) R.ad))) R.ad))) R.ad)))))))))),?_⟩
  obtain⟨z0,ez⟩:=Zz x
  refine⟨_,SqT.of gt,_,ez,?_⟩
  dsimp only [aK,sO];refine Tb (t:=Dz _ _ _) (fun σ' H'=>∃z:Str,σ'=[some (.ref d),some (.ref bk),some (.ref t),some (.str z),none,none,none]/\Fw d b H H') (fun nx hnx=>?_) ?_
  ·refine⟨_,SqT.of gt,_,nO x,?_⟩
   show if decide (x.wd="move")=true then _ else _
   refine bF (fun h=>?_) (fun _=>hnx _ _ ⟨z0,rfl,.refl dk⟩)
   refine⟨d,b,2,rfl,dk,Zd,Zd,fun r H1 r0 r1 D1 k1=>?_⟩
   have f1:=(Fw.refl dk).draw D1 k1
   have hw:=of_decide_eq_true h
   cases x with
   | move a b' n=>
    rcases(by omega:r=0∨r=1) with rfl | rfl
    ·exact⟨_,SqT.of (f1.tup gt),_,rfl,hnx _ _ ⟨a,rfl,f1⟩⟩
    ·exact⟨_,SqT.of (f1.tup gt),_,rfl,hnx _ _ ⟨b',rfl,f1⟩⟩
   | add a n=>exact absurd (show("add":Str)="move" from hw) Zk
   | take a n=>exact absurd (show("take":Str)="move" from hw) Zk
   | send a b n=>exact absurd (show("send":Str)="move" from hw) Zk
   | fetch a b n=>exact absurd (show("fetch":Str)="move" from hw) Zk
   | pass a b c n=>exact absurd (show("pass":Str)="move" from hw) Zk
  ·rintro σ' H1 ⟨z,rfl,f1⟩
   have gb1:=f1.dict gb
   have gt1:=f1.tup gt
   obtain⟨o,ho,eo⟩:=dg gb1 hB z
   refine⟨bk,rfl,Aa gb1,o,ho,?_⟩
   rw[eo];dsimp only [aK];refine⟨_,SqT.of gt1,_,yC x,d,b,9,rfl,f1.dk,Zd,Zd,fun r H2 r0 r1 D2 k2=>⟨⟨Zd,Zd,Zd⟩,⟨Zd,Zd,Zd⟩,dR rfl,fun p hp=>?_⟩⟩
   have f2:=f1.draw D2 k2
   have pd:=D2.ne hp
   have f3:=f2.new (o:=.lst [.int (x.n:Int),.int (1+r),.int (f z:Int),.int ((f z:Int)+1),.int (10 ^ (12:Int).toNat - (f z:Int)),.int (10 ^ (12:Int).toNat - (f z:Int)+1)]) hp
   dsimp only [aK];refine⟨d,b,6,rfl,f3.dk,Zd,Zd,fun r6 H4 i0 i1 D4 k4=>?_⟩
   have f4:=f3.draw D4 k4
   have gp:=k4 p _ aA pd.1 pd.2
   obtain⟨v,hv⟩:∃v:Int,kT [V.int (x.n:Int),.int (1+r),.int (f z:Int),.int ((f z:Int)+1),.int (10 ^ (12:Int).toNat - (f z:Int)),.int (10 ^ (12:Int).toNat - (f z:Int)+1)] r6=some (.int v):=by
    rcases six i0 i1 with rfl | rfl | rfl | rfl | rfl | rfl <;> exact⟨_,rfl⟩
   refine⟨_,SqL.of gp,_,hv,?_⟩
   dsimp only [aK];have gt4:=f4.tup gt
   refine⟨_,gt4,fun p1 H5 s5 g5=>⟨⟨Zd,Zd,Zd⟩,aN rfl,fun p2 H6 s6 g6=>⟨_,_,s6 _ _ g5,g6,?_,fun p3 H7 s7 g7=>?_⟩⟩⟩
   ·cases x <;> exact Nat.le_of_ble_eq_true rfl
   have f7:=((f4.same s5).same s6).same s7
   obtain⟨m,em,m1,m2⟩:∃m:Nat,(if (if v<(10:Int) ^ (12:Int).toNat then v else (10:Int) ^ (12:Int).toNat) > 1 then (if v<(10:Int) ^ (12:Int).toNat then v else (10:Int) ^ (12:Int).toNat) else (1:Int))=(m:Int)/\1<=m/\m<=1000000000000:=by
    have e12:(10:Int) ^ (12:Int).toNat=1000000000000:=rfl
    rw[e12];by_cases h1:v<1000000000000
    ·rw[if_pos h1];by_cases h2:v > 1
     ·rw[if_pos h2];exact⟨v.toNat,Zo,Zo,Zo⟩
     ·rw[if_neg h2];exact⟨1,rfl,Zo,Zo⟩
    ·rw[if_neg h1];exact⟨1000000000000,Zd,Zo,Zo⟩
   rw[em,Ie]at g7;exact q p3 _ H7 (Id hx m1 m2) g7 f7
def Ab (H:Hp) (e:Addr) (n:Nat) (t:Addr) (x:Dd) (q:Bool):Prop:=H e=some (.lst [.int (n:Int),.ref t,.bl q])/\H t=some (.tup x.vs)
def pW:Sp:=fun vs H Q _=>∃(d b bk e t:Addr) (kvs:List (aT × V)) (f:Str->Nat) (x:Dd) (n:Nat) (a:Bool),vs=[.ref d,.ref bk,.ref e]/\Dk H d b/\H bk=some (.dK kvs)/\BookIs kvs f/\Ab H e n t x a/\(a=true->x.far=true)/\e≠d/\e≠b ∧
 (∀y c H',gT f x a y->Fw d b H H'->H' c=some (.tup (An.vs y))->Q (.ref c) H')/\(∀H',Fw d b H H'->Q .non H')
theorem pX {f:Str->Nat} {x:Dd} (h:x.far=false):aP f x≠none:=by
 cases x with
 | add a n=>simp only [aP];split <;> exact fun z=>nomatch z
 | take a n=>simp only [aP];split <;> exact fun z=>nomatch z
 | move a b n=>
  simp only [aP];split
  ·exact fun z=>nomatch z
  ·split <;> exact fun z=>nomatch z
 | send a b n=>cases h
 | fetch a b n=>cases h
 | pass a b c n=>cases h
theorem Cy (f:Str->Nat) {x:Dd} (h:x.far=true):0<(bH f x).length:=by cases x <;> first | exact Nat.zero_lt_succ _ | cases h
theorem uI (x:Dd):kU (.str x.wd) [.str "send",.str "fetch",.str "pass"]=x.far:=by cases x <;> rfl
theorem Ih (T:Txt K mg) (cLdraw:aG P w K mg base 1 "_law_draw" ["_law_deck_here","_law_many"] bJ) (cLearly:aG P w K mg base 1 "_law_early" ["_law_book","_law_deed_here"] pP) (cLlates:aG P w K mg base 1 "_law_lates" ["_law_book","_law_deed_here"] pQ)
  (D:DefAt K mg "_law_right" gH ["_law_deck_here","_law_book","_law_one"]):aG P w K mg base 2 "_law_right" ["_law_deck_here","_law_book","_law_one"] pW:=by
 refine D.go fO (fun vs H Q E h=>?_) (fun f cdv A outer s H vs Q E hr h=>?_)
 ·obtain⟨d,b,bk,e,t,kvs,f,x,n,a,rfl,_⟩:=h;rfl
 ·obtain⟨d,b,bk,e,t,kvs,f,x,n,a,rfl,dk,gb,hB,⟨ge,gt⟩,ha,ed,eb,qs,qn⟩:=h
  have hLdraw:=hr
  have hLearly:=hr
  have hLlates:=hr
  refine⟨_,(R.ae (R.ai (i:=3) fO.nd (R.fn cLearly hLearly rfl (R.aa (R.v 1) (R.aa (R.ix (R.ar (K:=K)) (R.v 2) R.ac) R.ad)))) (R.ae (R.ai (i:=4) fO.nd (R.ay (R.be (K:=K)) (R.ix (R.af (K:=K)) (R.ix (R.ar (K:=K)) (R.v 2) R.ac) R.ac) (R.ak (R.aa R.ag (R.aa R.ag (R.aa R.ag R.ad)))))) (R.ae (R.ap (R.tw (R.bv (R.bq (R.ix (R.ar (K:=K)) (R.v 2) R.ac)) (R.cj (R.ao R.ft (R.v 3) R.bh)))) (R.ae (R.ai (i:=5) fO.nd (R.fn cLlates hLlates rfl (R.aa (R.v 1) (R.aa (R.ix (R.ar (K:=K)) (R.v 2) R.ac) R.ad)))) (R.ah (R.al (R.ix (R.ar (K:=K)) (R.v 5) (R.fn cLdraw hLdraw rfl (R.aa (R.v 0) (R.aa (R.aw (R.az (K:=K)) rfl T.b_len bC (R.aa (R.v 5) R.ad)) R.ad))))))) R.aq) (R.ae (R.ap (R.tw (R.da (R.bq (R.ix (R.ar (K:=K)) (R.v 2) R.ac)) (R.dr (R.tw (R.bv (R.ao R.ft (R.v 3) R.bh) (R.cj (R.bq (R.v 4)))))))) (R.ah (R.al R.bh)) R.aq) (R.ah (R.al (R.v 3))))))),?_⟩
  refine⟨_,SqL.of ge,_,rfl,bk,t,kvs,f,x,rfl,gb,hB,gt,fun y c H1 hy s1 gc=>?_,fun hy H1 s1=>?_⟩
  ·dsimp only [aK];have ge1:=s1 _ _ ge
   have gt1:=s1 _ _ gt
   refine⟨_,SqL.of ge1,_,rfl,_,SqT.of gt1,_,nO x,aN rfl,fun tq H2 s2 g2=>⟨tq,_,rfl,.inr (SqT.of g2),rfl,rfl,?_⟩⟩
   have ge2:=s2 _ _ ge1
   have f2:=((Fw.refl dk).same s1).same s2
   show sO _ _ _ [some (.ref d),some (.ref bk),some (.ref e),some (.ref c),some (.bl (kU (.str x.wd) [.str "send",.str "fetch",.str "pass"])),none] H2
   rw[uI];refine⟨_,SqL.of ge2,_,rfl,?_⟩
   cases a with
   | true=>exact⟨_,SqL.of ge2,_,rfl,qn H2 f2⟩
   | false=>exact⟨_,SqL.of ge2,_,rfl,qs y c H2 (.inl ⟨rfl,hy⟩) f2 (s2 _ _ gc)⟩
  ·dsimp only [aK];have ge1:=s1 _ _ ge
   have gt1:=s1 _ _ gt
   refine⟨_,SqL.of ge1,_,rfl,_,SqT.of gt1,_,nO x,aN rfl,fun tq H2 s2 g2=>⟨tq,_,rfl,.inr (SqT.of g2),rfl,rfl,?_⟩⟩
   have ge2:=s2 _ _ ge1
   have f2:=((Fw.refl dk).same s1).same s2
   have hfar:x.far=true:=by
    cases hh:x.far with
    | true=>rfl
    | false=>exact absurd hy (pX hh)
   show sO _ _ _ [some (.ref d),some (.ref bk),some (.ref e),some .non,some (.bl (kU (.str x.wd) [.str "send",.str "fetch",.str "pass"])),none] H2
   rw[uI,hfar];refine⟨_,SqL.of ge2,_,rfl,?_⟩
   cases a with
   | true=>
    refine⟨_,SqL.of ge2,_,rfl,bk,t,kvs,f,x,rfl,s2 _ _ (s1 _ _ gb),hB,s2 _ _ gt1,hfar,hy,fun l cs H3 fl gl pp s3=>?_⟩
    have f3:=f2.same s3
    have nl:=f2.dk.ne fl
    have hll:(bH f x).length=cs.length:=pp.length
    have hlp:0<(bH f x).length:=Cy f hfar
    have hlq:(bH f x).length<=3:=by cases x <;> exact Nat.le_of_ble_eq_true rfl
    dsimp only [aK];refine⟨_,.inl (SqL.of gl),d,b,(cs.length:Int),by rw[bG],f3.dk,Zo,Zo,fun r H4 r0 r1 D4 k4=>?_⟩
    have F4:=(Fw.refl f3.dk).draw D4 k4
    obtain⟨r,rfl⟩:=eK r0
    have hr':r<cs.length:=by omega
    obtain⟨hr2,pr⟩:=Paired.get' (j:=r) pp hr'
    refine⟨_,SqL.of (F4.get gl nl.1 nl.2),.ref cs[r],cE (by rw[kE,iA hr'];rfl),?_⟩
    exact qs _ _ H4 (.inr ⟨rfl,hy,List.getElem_mem hr2⟩) (f3.trans F4) (F4.tup pr)
   | false=>exact⟨_,SqL.of ge2,_,rfl,qn H2 f2⟩
end
end KL
namespace KL
open PySem L2
section
variable {P:Program} {w:World} {K:W.Frag} {mg:Str->Option Value} {base:Heap}
def bX:RX->Str | .next _ _=>"next" | .has _ _=>"has" | .kept _ _ _ _ _ _=>"kept" | .came _ _ _ _ _=>"came" | .asked _=>"asked" | .done _ _ _=>"done"
def Ii:RX->V | .next n _=>.int (n:Int) | .has z _=>.str z | .kept n _ _ _ _ _=>.int (n:Int) | .came n _ _ _ _=>.int (n:Int) | .asked n=>.int (n:Int) | .done n _ _=>.int (n:Int)
def Nm:RX->V | .next _ t=>.int (t:Int) | .has _ m=>.int (m:Int) | .kept _ t _ _ _ _=>.int (t:Int) | .came _ t _ _ _=>.int (t:Int) | .asked _=>.non | .done _ t _=>.int (t:Int)
theorem eC {H:Hp} {a:Addr} {r:RX} (h:r.At H a):∃xs,H a=some (.tup xs)/\kT xs 0=some (.str (bX r))/\kT xs 1=some (Ii r)/\(Nm r≠.non->kT xs 2=some (Nm r)):=by
 cases r with
 | next n t=>exact⟨_,h,rfl,rfl,fun _=>rfl⟩
 | has z m=>exact⟨_,h,rfl,rfl,fun _=>rfl⟩
 | kept n t p k d y=>obtain⟨b,c,h1,h2,h3⟩:=h;exact⟨_,h1,rfl,rfl,fun _=>rfl⟩
 | came n t p k d=>obtain⟨b,h1,h2⟩:=h;exact⟨_,h1,rfl,rfl,fun _=>rfl⟩
 | asked n=>exact⟨_,h,rfl,rfl,fun z=>absurd rfl z⟩
 | done n t y=>obtain⟨b,h1,h2⟩:=h;exact⟨_,h1,rfl,rfl,fun _=>rfl⟩
def dG (rs:List RX):Str->Nat:=rs.foldl (fun f r=>match r with | .has z m=>eF f z m | _=>f) (fun _=>0)
inductive jE:List RX->(Str->Nat)->Prop
 | head {rs:List RX}:uG rs->jE rs (dG rs)
 | came {rs:List RX} {f:Str->Nat} {n t:Nat} {p k:Str} {x:Dd}:jE rs f->jE (rs++[.came n t p k x]) f
 | asked {rs:List RX} {f:Str->Nat} {n:Nat}:jE rs f->jE (rs++[.asked n]) f
 | done {rs:List RX} {f:Str->Nat} {n t t0:Nat} {p k:Str} {x:Dd} {q:Bool} {y:An}:jE rs f->.came n t0 p k x∈rs->gT f x q y->jE (rs++[.done n t y]) (after f x y)
structure Un where
 n:Nat
 x:Dd
 q:Bool
 e:Addr
 t:Addr
structure LvP (rs:List RX) (f:Str->Nat) (num turn:Nat) (us:List Un):Prop where
 wh:RX.Whole rs
 ok:∀r∈rs,r.Ok
 lv:jE rs f
 fb:∀z,f z<=1000000000000
 cnum:∀n t p k x,.came n t p k x∈rs->n<=num
 knum:∀n t p k x y,.kept n t p k x y∈rs->n<=num
 trn:∀q∈rs,q.turn<=turn
 und:∀u∈us,u.x.Ok/\(∃t p k,.came u.n t p k u.x∈rs)/\(∀t y,.done u.n t y∉rs)/\(u.q=true↔.asked u.n∈rs)/\(u.q=true->u.x.far=true)
 nd:(us.map (·.n)).Nodup
 asn:∀n,.asked n∈rs->∃t p k x,.came n t p k x∈rs
 dnn:∀n t y,.done n t y∈rs->∃t p k x,.came n t p k x∈rs
theorem LvP.turn' {rs:List RX} {f:Str->Nat} {num turn turn':Nat} {us:List Un} (h:LvP rs f num turn us) (ht:turn<=turn'):LvP rs f num turn' us:=
 ⟨h.wh,h.ok,h.lv,h.fb,h.cnum,h.knum,fun q hq=>kK (h.trn q hq) ht,h.und,h.nd,h.asn,h.dnn⟩
theorem LvP.came {rs:List RX} {f:Str->Nat} {num turn n:Nat} {us:List Un} (h:LvP rs f num turn us) (hn:num<n) (hn2:n<=999999) (ht:turn<=1000000000000) {p k:Str} {x:Dd} {e t:Addr} (hp:eZ p) (hk:vS k) (hx:x.Ok) :
  LvP (rs++[.came n turn p k x]) f n turn (us++[⟨n,x,false,e,t⟩]):=by
 have no1:.asked n∉rs:=fun m=>by obtain⟨t,p,k,x,m⟩:=h.asn n m;have:=h.cnum _ _ _ _ _ m;omega
 have no2:∀t y,.done n t y∉rs:=fun t y m=>by obtain⟨t,p,k,x,m⟩:=h.dnn n t y m;have:=h.cnum _ _ _ _ _ m;omega
 refine⟨h.wh.snoc ⟨fun n' t' p' k' d' m=>oK (h.cnum _ _ _ _ _ m) hn,fun t' p' k' d' y' m=>absurd (h.knum _ _ _ _ _ _ m) Zo,h.trn⟩,fun r hr=>?_,h.lv.came,h.fb,fun n' t' p' k' x' hr=>?_,fun n' t' p' k' x' y' hr=>?_,fun q hq=>?_,fun u hu=>?_,?_,fun n' hr=>?_,fun n' t' y' hr=>?_⟩
 ·rcases aH hr with hr | rfl
  ·exact h.ok r hr
  ·exact⟨Zo,hn2,ht,hp,hk,hx⟩
 ·rcases aH hr with hr | hr
  ·have:=h.cnum _ _ _ _ _ hr;omega
  ·cases hr;exact bM _
 ·rcases aH hr with hr | hr
  ·have:=h.knum _ _ _ _ _ _ hr;omega
  ·cases hr
 ·rcases aH hq with hq | rfl
  ·exact h.trn q hq
  ·exact bM _
 ·rcases aH hu with hu | rfl
  ·obtain⟨h1,⟨t1,p1,k1,h2⟩,h3,h4,h5⟩:=h.und u hu
   refine⟨h1,⟨t1,p1,k1,List.mem_append_left _ h2⟩,fun t' y' m=>?_,⟨fun z=>List.mem_append_left _ (h4.mp z),fun m=>?_⟩,h5⟩
   ·rcases aH m with m | m
    ·exact h3 _ _ m
    ·cases m
   ·rcases aH m with m | m
    ·exact h4.mpr m
    ·cases m
  ·refine⟨hx,⟨turn,p,k,List.mem_append_right _ kG⟩,fun t' y' m=>?_,⟨(fun z=>nomatch z),fun m=>?_⟩,(fun z=>nomatch z)⟩
   ·rcases aH m with m | m
    ·exact no2 _ _ m
    ·cases m
   ·rcases aH m with m | m
    ·exact absurd m no1
    ·cases m
 ·rw[jF];refine List.nodup_append.mpr ⟨h.nd,Zs,fun a ha b hb=>?_⟩
  obtain⟨u,hu,rfl⟩:=Zmm.mp ha
  obtain⟨_,⟨t1,p1,k1,h2⟩,_⟩:=h.und u hu
  have:=h.cnum _ _ _ _ _ h2
  have hb':b=n:=by simpa using hb
  omega
 ·rcases aH hr with hr | hr
  ·obtain⟨t,p,k,x,m⟩:=h.asn n' hr;exact⟨t,p,k,x,List.mem_append_left _ m⟩
  ·cases hr
 ·rcases aH hr with hr | hr
  ·obtain⟨t,p,k,x,m⟩:=h.dnn n' _ _ hr;exact⟨t,p,k,x,List.mem_append_left _ m⟩
  ·cases hr
theorem Ij {us:List Un} (h:(us.map (·.n)).Nodup) {i j:Nat} {u v:Un} (hi:us[i]?=some u) (hj:us[j]?=some v) (hn:i≠j):u.n≠v.n:=by
 intro e;obtain⟨hi1,hi2⟩:=Zgs.mp hi
 obtain⟨hj1,hj2⟩:=Zgs.mp hj
 have p:=List.pairwise_iff_getElem.mp h
 rcases Nat.lt_or_gt_of_ne hn with z | z
 ·have:=p i j (by simpa using hi1) (by simpa using hj1) z
  simp only [List.getElem_map,hi2,hj2]at this
  exact this e
 ·have:=p j i (by simpa using hj1) (by simpa using hi1) z
  simp only [List.getElem_map,hi2,hj2]at this
  exact this e.symm
theorem fW {α:Type} {us:List α} {j:Nat} {u v:α} (h:v∈us.set j u):v=u∨∃i,i≠j/\us[i]?=some v:=by
 obtain⟨i,hi,e⟩:=List.getElem_of_mem h
 rw[List.getElem_set]at e;split at e
 ·exact .inl e.symm
 ·rename_i hne
  rw[List.length_set]at hi;exact .inr ⟨i,fun z=>hne z.symm,by rw[iA hi,e]⟩
theorem LvP.mark {rs:List RX} {f:Str->Nat} {num turn j:Nat} {us:List Un} {u:Un} (h:LvP rs f num turn us) (hu:us[j]?=some u) (hq:u.q=false) (hf:u.x.far=true) :
  LvP (rs++[.asked u.n]) f num turn (us.set j {u with q:=true }):=by
 have hm:=gX hu
 obtain⟨g1,⟨t1,p1,k1,g2⟩,g3,g4,g5⟩:=h.und u hm
 have no:.asked u.n∉rs:=fun m=>by rw[g4.mpr m]at hq;cases hq
 have ok1:=h.ok _ g2
 refine⟨h.wh.snoc ⟨⟨t1,p1,k1,u.x,g2,hf⟩,no,g3⟩,fun r hr=>?_,h.lv.asked,h.fb,fun n' t' p' k' x' hr=>?_,fun n' t' p' k' x' y' hr=>?_,fun q hq=>?_,fun v hv=>?_,?_,fun n' hr=>?_,fun n' t' y' hr=>?_⟩
 ·rcases aH hr with hr | rfl
  ·exact h.ok r hr
  ·exact⟨ok1.1,ok1.2.1⟩
 ·rcases aH hr with hr | hr
  ·exact h.cnum _ _ _ _ _ hr
  ·cases hr
 ·rcases aH hr with hr | hr
  ·exact h.knum _ _ _ _ _ _ hr
  ·cases hr
 ·rcases aH hq with hq | rfl
  ·exact h.trn q hq
  ·exact Nat.zero_le _
 ·rcases fW hv with rfl | ⟨i,hi,ei⟩
  ·refine⟨g1,⟨t1,p1,k1,List.mem_append_left _ g2⟩,fun t' y' m=>?_,⟨fun _=>List.mem_append_right _ kG,fun _=>rfl⟩,fun _=>hf⟩
   rcases aH m with m | m
   ·exact g3 _ _ m
   ·cases m
  ·obtain⟨h1,⟨t2,p2,k2,h2⟩,h3,h4,h5⟩:=h.und v (gX ei)
   have hne:=Ij h.nd ei hu hi
   refine⟨h1,⟨t2,p2,k2,List.mem_append_left _ h2⟩,fun t' y' m=>?_,⟨fun z=>List.mem_append_left _ (h4.mp z),fun m=>?_⟩,h5⟩
   ·rcases aH m with m | m
    ·exact h3 _ _ m
    ·cases m
   ·rcases aH m with m | m
    ·exact h4.mpr m
    ·injection m with m;exact absurd m hne
 ·have e:(us.set j {u with q:=true }).map (·.n)=us.map (·.n):=by
   obtain⟨hj1,hj2⟩:=Zgs.mp hu
   rw[List.map_set];apply List.ext_getElem Zs
   intro i h1 h2;rw[List.getElem_set];split
   ·rename_i z;subst z;simp [hj2]
   ·rfl
  rw[e];exact h.nd
 ·rcases aH hr with hr | hr
  ·obtain⟨t,p,k,x,m⟩:=h.asn n' hr;exact⟨t,p,k,x,List.mem_append_left _ m⟩
  ·cases hr;exact⟨t1,p1,k1,u.x,List.mem_append_left _ g2⟩
 ·rcases aH hr with hr | hr
  ·obtain⟨t,p,k,x,m⟩:=h.dnn n' _ _ hr;exact⟨t,p,k,x,List.mem_append_left _ m⟩
  ·cases hr
theorem LvP.done {rs:List RX} {f:Str->Nat} {num turn j:Nat} {us:List Un} {u:Un} {y:An} (h:LvP rs f num turn us) (hu:us[j]?=some u) (ht:turn<=1000000000000) (hy:gT f u.x u.q y) :
  LvP (rs++[.done u.n turn y]) (after f u.x y) num turn (us.eraseIdx j):=by
 have hm:=gX hu
 obtain⟨g1,⟨t1,p1,k1,g2⟩,g3,g4,g5⟩:=h.und u hm
 obtain⟨r1,r2⟩:=wC h.fb g1 hy g5
 have ok1:=h.ok _ g2
 refine⟨h.wh.snoc ⟨h.trn,g3,t1,p1,k1,u.x,g2,r1,fun z=>⟨fun m=>(r2 z).mp (g4.mpr m),fun m=>g4.mp ((r2 z).mpr m)⟩⟩,fun r hr=>?_,h.lv.done g2 hy,lN h.fb hy,fun n' t' p' k' x' hr=>?_,fun n' t' p' k' x' y' hr=>?_,fun q hq=>?_,fun v hv=>?_,?_,fun n' hr=>?_,fun n' t' y' hr=>?_⟩
 ·rcases aH hr with hr | rfl
  ·exact h.ok r hr
  ·exact⟨ok1.1,ok1.2.1,ht⟩
 ·rcases aH hr with hr | hr
  ·exact h.cnum _ _ _ _ _ hr
  ·cases hr
 ·rcases aH hr with hr | hr
  ·exact h.knum _ _ _ _ _ _ hr
  ·cases hr
 ·rcases aH hq with hq | rfl
  ·exact h.trn q hq
  ·exact bM _
 ·obtain⟨i,hi,ei⟩:=List.mem_eraseIdx_iff_getElem?.mp hv
  obtain⟨h1,⟨t2,p2,k2,h2⟩,h3,h4,h5⟩:=h.und v (gX ei)
  have hne:=Ij h.nd ei hu hi
  refine⟨h1,⟨t2,p2,k2,List.mem_append_left _ h2⟩,fun t' y' m=>?_,⟨fun z=>List.mem_append_left _ (h4.mp z),fun m=>?_⟩,h5⟩
  ·rcases aH m with m | m
   ·exact h3 _ _ m
   ·injection m with m;exact absurd m hne
  ·rcases aH m with m | m
   ·exact h4.mpr m
   ·cases m
 ·exact h.nd.sublist ((List.eraseIdx_sublist us j).map _)
 ·rcases aH hr with hr | hr
  ·obtain⟨t,p,k,x,m⟩:=h.asn n' hr;exact⟨t,p,k,x,List.mem_append_left _ m⟩
  ·cases hr
 ·rcases aH hr with hr | hr
  ·obtain⟨t,p,k,x,m⟩:=h.dnn n' _ _ hr;exact⟨t,p,k,x,List.mem_append_left _ m⟩
  ·cases hr;exact⟨t1,p1,k1,u.x,List.mem_append_left _ g2⟩
theorem LvP.start {rs:List RX} {num turn:Nat} (h:uG rs) (hk:∀n t p k x y,.kept n t p k x y∈rs->n<=num) (ht:∀n t,.next n t∈rs->t<=turn) (hf:∀z,dG rs z<=1000000000000):LvP rs (dG rs) num turn []:=by
 have no:∀r∈rs,r.rank=3->False:=fun r hr e=>by have:=h.rk r hr;omega
 refine⟨h.wh,h.ok,.head h,hf,fun n t p k x m=>(no _ m rfl).elim,hk,fun q hq=>?_,(fun u hu=>nomatch hu),List.nodup_nil,fun n m=>(no _ m rfl).elim,fun n t y m=>(no _ m rfl).elim⟩
 cases q with
 | next n t=>exact ht _ _ hq
 | has z m=>exact Nat.zero_le _
 | kept n t p k x y=>exact Nat.zero_le _
 | came n t p k x=>exact(no _ hq rfl).elim
 | asked n=>exact(no _ hq rfl).elim
 | done n t y=>exact(no _ hq rfl).elim
theorem rX {rs:List RX} (h:∀r∈rs,r.Ok) (z:Str):dG rs z<=1000000000000:=by
 have:∀(rs:List RX) (f:Str->Nat),(∀r∈rs,r.Ok)->(∀z,f z<=1000000000000)->∀z,rs.foldl (fun f r=>match r with | .has z m=>eF f z m | _=>f) f z<=1000000000000:=by
  intro rs;induction rs with
  | nil=>exact fun f _ hf=>hf
  | cons r rs ih=>
   intro f h hf;refine ih _ (fun r hr=>h r (nY _ hr)) ?_
   cases r with
   | has y m=>exact gL hf (h _ kG).2.2
   | _=>exact hf
 exact this rs _ h (fun _=>Nat.zero_le _) z
end
end KL
namespace KL
open PySem L2
section
variable {P:Program} {w:World} {K:W.Frag} {mg:Str->Option Value} {base:Heap}
theorem Ac (x:Dd):∀v∈x.vs,dP v=true:=by
 intro v hv;cases x <;> simp only [Dd.vs,List.mem_cons,List.not_mem_nil,or_false]at hv <;> rcases hv with rfl | rfl | rfl | rfl | rfl <;> rfl
structure LvH (H:Hp) (d b ra bk ul:Addr) (H':Hp) (rs:List RX) (as:List Addr) (kvs:List (aT × V)) (f:Str->Nat) (us:List Un):Prop where
 d0:Dk H d b
 r0:∃xs,H ra=some (.lst xs)
 fbk:H bk=none
 ful:H ul=none
 fes:∀u∈us,H u.e=none
 nra:ra≠d/\ra≠b
 nbu:bk≠ul
 nue:∀u∈us,u.e≠ul/\u.e≠bk
 nde:(us.map (·.e)).Nodup
 dk:Dk H' d b
 rows:RxsAt H' ra rs as
 book:H' bk=some (.dK kvs)
 bis:BookIs kvs f
 und:H' ul=some (.lst ((us.map (·.e)).map V.ref))
 ent:∀u∈us,Ab H' u.e u.n u.t u.x u.q
 fr:∀c o,H c=some o->c≠d->c≠b->c≠ra->H' c=some o
section
variable {H H' H'':Hp} {d b ra bk ul:Addr} {rs:List RX} {as:List Addr} {kvs:List (aT × V)} {f:Str->Nat} {us:List Un}
theorem LvH.ra_ne (h:LvH H d b ra bk ul H' rs as kvs f us):ra≠bk/\ra≠ul/\∀u∈us,ra≠u.e:=by
 obtain⟨xs,r0⟩:=h.r0
 exact⟨aE r0 h.fbk,aE r0 h.ful,fun u hu=>aE r0 (h.fes u hu)⟩
theorem LvH.ne_d (h:LvH H d b ra bk ul H' rs as kvs f us) {c:Addr} (hc:H c=none):c≠d/\c≠b:=h.d0.ne hc
theorem LvH.fw (h:LvH H d b ra bk ul H' rs as kvs f us) (F:Fw d b H' H''):LvH H d b ra bk ul H'' rs as kvs f us:=by
 have nb:=h.ne_d h.fbk
 have nu:=h.ne_d h.ful
 refine⟨h.d0,h.r0,h.fbk,h.ful,h.fes,h.nra,h.nbu,h.nue,h.nde,F.dk,h.rows.keep F.tk (F.get h.rows.lst h.nra.1 h.nra.2),F.get h.book nb.1 nb.2,h.bis,F.get h.und nu.1 nu.2,fun u hu=>?_,fun c o e n1 n2 n3=>F.get (h.fr c o e n1 n2 n3) n1 n2⟩
 have ne:=h.ne_d (h.fes u hu)
 exact⟨F.get (h.ent u hu).1 ne.1 ne.2,F.tup (h.ent u hu).2⟩
theorem Dk.put' {o:HO} {a:Addr} (D:Dk H' d b) (h1:a≠d) (h2:a≠b):Dk (aJ H' a o) d b:=by
 obtain⟨ns,s,k,e1,e2,e3⟩:=D.ex
 exact⟨ns,s,k,by rw[aD h1.symm];exact e1,by rw[aD h2.symm];exact e2,e3⟩
theorem LvH.row (h:LvH H d b ra bk ul H' rs as kvs f us) {r:RX} {a:Addr} (hr:r.At H' a):LvH H d b ra bk ul (aJ H' ra (.lst (as.map V.ref++[.ref a]))) (rs++[r]) (as++[a]) kvs f us:=by
 obtain⟨n1,n2,n3⟩:=h.ra_ne
 have tk:TK H' (aJ H' ra (.lst (as.map V.ref++[.ref a]))):=gP h.rows.lst
 refine⟨h.d0,h.r0,h.fbk,h.ful,h.fes,h.nra,h.nbu,h.nue,h.nde,Dk.put' h.dk h.nra.1 h.nra.2,h.rows.snoc tk (hr.tk tk) aA,by rw[aD n1.symm];exact h.book,h.bis,by rw[aD n2.symm];exact h.und,fun u hu=>⟨by rw[aD (n3 u hu).symm];exact(h.ent u hu).1,tk _ _ (h.ent u hu).2⟩,fun c o e m1 m2 m3=>by rw[aD m3];exact h.fr c o e m1 m2 m3⟩
theorem LvH.push (h:LvH H d b ra bk ul H' rs as kvs f us) {n:Nat} {x:Dd} {q:Bool} {e t:Addr} (he:Ab H' e n t x q) (hf:H e=none) (h1:e≠ul) (h2:e≠bk) (h3:∀u∈us,u.e≠e) :
  LvH H d b ra bk ul (aJ H' ul (.lst ((us.map (·.e)).map V.ref++[.ref e]))) rs as kvs f (us++[⟨n,x,q,e,t⟩]):=by
 obtain⟨n1,n2,n3⟩:=h.ra_ne
 have nu:=h.ne_d h.ful
 have tk:TK H' (aJ H' ul (.lst ((us.map (·.e)).map V.ref++[.ref e]))):=gP h.und
 refine⟨h.d0,h.r0,h.fbk,h.ful,fun u hu=>?_,h.nra,h.nbu,fun u hu=>?_,?_,Dk.put' h.dk nu.1 nu.2,h.rows.keep tk (by rw[aD n2];exact h.rows.lst),by rw[aD h.nbu];exact h.book,h.bis,by rw[aA,jF,jF];rfl,fun u hu=>?_,fun c o e' m1 m2 m3=>by rw[aD (aE e' h.ful)];exact h.fr c o e' m1 m2 m3⟩
 ·rcases aH hu with hu | rfl
  ·exact h.fes u hu
  ·exact hf
 ·rcases aH hu with hu | rfl
  ·exact h.nue u hu
  ·exact⟨h1,h2⟩
 ·rw[jF];refine List.nodup_append.mpr ⟨h.nde,Zs,fun a ha c hc=>?_⟩
  obtain⟨u,hu,rfl⟩:=Zmm.mp ha
  have:c=e:=by simpa using hc
  rw[this];exact h3 u hu
 ·rcases aH hu with hu | rfl
  ·exact⟨by rw[aD (h.nue u hu).1];exact(h.ent u hu).1,tk _ _ (h.ent u hu).2⟩
  ·exact⟨by rw[aD h1];exact he.1,tk _ _ he.2⟩
theorem Uf (h:(us.map (·.e)).Nodup) {i j:Nat} {u v:Un} (hi:us[i]?=some u) (hj:us[j]?=some v) (hn:i≠j):u.e≠v.e:=by
 intro e;obtain⟨hi1,hi2⟩:=Zgs.mp hi
 obtain⟨hj1,hj2⟩:=Zgs.mp hj
 have p:=List.pairwise_iff_getElem.mp h
 rcases Nat.lt_or_gt_of_ne hn with z | z
 ·have:=p i j (by simpa using hi1) (by simpa using hj1) z
  simp only [List.getElem_map,hi2,hj2]at this
  exact this e
 ·have:=p j i (by simpa using hj1) (by simpa using hi1) z
  simp only [List.getElem_map,hi2,hj2]at this
  exact this e.symm
theorem LvH.mark (h:LvH H d b ra bk ul H' rs as kvs f us) {j:Nat} {u:Un} (hu:us[j]?=some u) :
  LvH H d b ra bk ul (aJ H' u.e (.lst [.int (u.n:Int),.ref u.t,.bl true])) rs as kvs f (us.set j {u with q:=true }):=by
 obtain⟨n1,n2,n3⟩:=h.ra_ne
 have hm:=gX hu
 have ne:=h.ne_d (h.fes u hm)
 have tk:TK H' (aJ H' u.e (.lst [.int (u.n:Int),.ref u.t,.bl true])):=gP (h.ent u hm).1
 have em:(us.set j {u with q:=true }).map (·.e)=us.map (·.e):=by
  obtain⟨hj1,hj2⟩:=Zgs.mp hu
  rw[List.map_set];apply List.ext_getElem Zs
  intro i h1 h2;rw[List.getElem_set];split
  ·rename_i z;subst z;simp [hj2]
  ·rfl
 refine⟨h.d0,h.r0,h.fbk,h.ful,fun v hv=>?_,h.nra,h.nbu,fun v hv=>?_,by rw[em];exact h.nde,Dk.put' h.dk ne.1 ne.2,h.rows.keep tk (by rw[aD (n3 u hm)];exact h.rows.lst),by rw[aD (h.nue u hm).2.symm];exact h.book,h.bis,by rw[aD (h.nue u hm).1.symm,em];exact h.und,fun v hv=>?_,fun c o e' m1 m2 m3=>by rw[aD (aE e' (h.fes u hm))];exact h.fr c o e' m1 m2 m3⟩
 ·rcases fW hv with rfl | ⟨i,hi,ei⟩
  ·exact h.fes u hm
  ·exact h.fes v (gX ei)
 ·rcases fW hv with rfl | ⟨i,hi,ei⟩
  ·exact h.nue u hm
  ·exact h.nue v (gX ei)
 ·rcases fW hv with rfl | ⟨i,hi,ei⟩
  ·exact⟨aA,tk _ _ (h.ent u hm).2⟩
  ·have hv':=gX ei
   exact⟨by rw[aD (Uf h.nde ei hu hi)];exact(h.ent v hv').1,tk _ _ (h.ent v hv').2⟩
theorem LvH.drop (h:LvH H d b ra bk ul H' rs as kvs f us) (j:Nat):LvH H d b ra bk ul (aJ H' ul (.lst (((us.map (·.e)).eraseIdx j).map V.ref))) rs as kvs f (us.eraseIdx j):=by
 obtain⟨n1,n2,n3⟩:=h.ra_ne
 have nu:=h.ne_d h.ful
 have tk:TK H' (aJ H' ul (.lst (((us.map (·.e)).eraseIdx j).map V.ref))):=gP h.und
 have sub:∀u∈us.eraseIdx j,u∈us:=fun u hu=>List.mem_of_mem_eraseIdx hu
 have em:(us.eraseIdx j).map (·.e)=(us.map (·.e)).eraseIdx j:=by
  have:∀(us:List Un) (j:Nat),(us.eraseIdx j).map (·.e)=(us.map (·.e)).eraseIdx j:=by
   intro us;induction us with
   | nil=>intro j;simp
   | cons u us ih=>
    intro j;cases j with
    | zero=>simp
    | succ j=>rw[List.eraseIdx_cons_succ,List.map_cons,List.map_cons,List.eraseIdx_cons_succ,ih]
  exact this us j
 refine⟨h.d0,h.r0,h.fbk,h.ful,fun u hu=>h.fes u (sub u hu),h.nra,h.nbu,fun u hu=>h.nue u (sub u hu),h.nde.sublist ((List.eraseIdx_sublist us j).map _),Dk.put' h.dk nu.1 nu.2,h.rows.keep tk (by rw[aD n2];exact h.rows.lst),by rw[aD h.nbu];exact h.book,h.bis,by rw[aA,em],fun u hu=>⟨by rw[aD (h.nue u (sub u hu)).1];exact(h.ent u (sub u hu)).1,tk _ _ (h.ent u (sub u hu)).2⟩,fun c o e' m1 m2 m3=>by rw[aD (aE e' h.ful)];exact h.fr c o e' m1 m2 m3⟩
theorem LvH.pay (h:LvH H d b ra bk ul H' rs as kvs f us) {kvs':List (aT × V)} {f':Str->Nat} (k:K1 bk H' H'') (g:H'' bk=some (.dK kvs')) (hb:BookIs kvs' f'):LvH H d b ra bk ul H'' rs as kvs' f' us:=by
 obtain⟨n1,n2,n3⟩:=h.ra_ne
 have nb:=h.ne_d h.fbk
 have tk:TK H' H'':=fun a xs e=>k _ _ e (fun z=>by rw[z,h.book]at e;cases e)
 refine⟨h.d0,h.r0,h.fbk,h.ful,h.fes,h.nra,h.nbu,h.nue,h.nde,?_,h.rows.keep tk (k _ _ h.rows.lst n1),g,hb,k _ _ h.und h.nbu.symm,fun u hu=>⟨k _ _ (h.ent u hu).1 (h.nue u hu).2,tk _ _ (h.ent u hu).2⟩,fun c o e' m1 m2 m3=>k _ _ (h.fr c o e' m1 m2 m3) (aE e' h.fbk)⟩
 obtain⟨ns,s,k0,e1,e2,e3⟩:=h.dk.ex
 exact⟨ns,s,k0,k _ _ e1 nb.1.symm,k _ _ e2 nb.2.symm,e3⟩
theorem LvH.rem (h:LvH H d b ra bk ul H' rs as kvs f us) (hn:(us.map (·.n)).Nodup) {j:Nat} {u:Un} (hu:us[j]?=some u) {Q:VK} (q:Q .non (aJ H' ul (.lst (((us.map (·.e)).eraseIdx j).map V.ref)))):jO (.ref ul) [.ref u.e] H' Q:=by
 have hm:=gX hu
 refine⟨us.map (·.e),j,h.und,by rw[kE,hu];rfl,h.nde,fun c hc hne=>?_,q⟩
 obtain⟨v,hv,rfl⟩:=Zmm.mp hc
 obtain⟨i,hi,ei⟩:=List.getElem_of_mem hv
 have hv':us[i]?=some v:=by rw[iA hi,ei]
 have hij:i≠j:=fun z=>hne (by rw[z]at hv';rw[hu]at hv';cases hv';rfl)
 refine⟨(v.n:Int),(u.n:Int),[.ref v.t,.bl v.q],[.ref u.t,.bl u.q],(h.ent v hv).1,(h.ent u hm).1,?_,rfl,fun i u' v' e1 e2=>?_⟩
 ·have:=Ij hn hv' hu hij;omega
 ·match i,e1,e2 with
  | 0,e1,e2=>
   cases e1;cases e2
   exact .inr ⟨v.t,u.t,_,_,rfl,rfl,(h.ent v hv).2,(h.ent u hm).2,fun j x y h1 h2=>⟨Ac v.x x (gX h1),Ac u.x y (gX h2)⟩⟩
  | 1,e1,e2=>cases e1;cases e2;exact .inl ⟨rfl,rfl⟩
  | i+2,e1,e2=>cases e1
end
end
end KL
namespace KL
open PySem L2
section
variable {P:Program} {w:World} {K:W.Frag} {mg:Str->Option Value} {base:Heap}
theorem yF {rs:List RX} (h:RX.Whole rs) {n t:Nat} {p k:Str} {x:Dd} {y:An} (hm:.kept n t p k x y∈rs):∃n0 t0,RX.next n0 t0∈rs/\n<n0:=by
 induction h with
 | nil=>cases hm
 | snoc hw hf ih=>
  rcases aH hm with hm | rfl
  ·obtain⟨n0,t0,h1,h2⟩:=ih hm;exact⟨n0,t0,List.mem_append_left _ h1,h2⟩
  ·obtain⟨_,⟨n0,t0,h1,h2,_⟩,_⟩:=hf;exact⟨n0,t0,List.mem_append_left _ h1,h2⟩
def dJ (rs:List RX):List (aT × V):=rs.filterMap fun r=>match r with | .has z m=>some (Sum.inr z,.int (m:Int)) | _=>none
theorem cD:∀(rs:List RX) (kvs:List (aT × V)) (f:Str->Nat),BookIs kvs f->BookIs (aS kvs (dJ rs)) (rs.foldl (fun f r=>match r with | .has z m=>eF f z m | _=>f) f)
 | [],kvs,f,h=>h
 | r::rs,kvs,f,h=>by
  cases r with
  | has z m=>exact cD rs _ _ (h.put z m)
  | next n t=>exact cD rs _ _ h
  | kept n t p k x y=>exact cD rs _ _ h
  | came n t p k x=>exact cD rs _ _ h
  | asked n=>exact cD rs _ _ h
  | done n t y=>exact cD rs _ _ h
def Ik:RX->List (aT × V) | .has z m=>[(Sum.inr z,.int (m:Int))] | _=>[]
theorem Cz {r:RX} (h:bX r≠"has"):Ik r=[]:=by cases r <;> first | rfl | exact absurd rfl h
theorem pY (rs:List RX) (r:RX):dJ (rs++[r])=dJ rs++Ik r:=by
 unfold dJ;rw[List.filterMap_append];cases r <;> rfl
theorem rY (rs:List RX):(dJ rs).length<=rs.length:=List.length_filterMap_le _ _
theorem yG {r:RX} (h:bX r="has"):∃z m,r=.has z m:=by
 cases r with
 | has z m=>exact⟨z,m,rfl⟩
 | next n t=>exact absurd (show("next":Str)="has" from h) Zk
 | kept n t p k x y=>exact absurd (show("kept":Str)="has" from h) Zk
 | came n t p k x=>exact absurd (show("came":Str)="has" from h) Zk
 | asked n=>exact absurd (show("asked":Str)="has" from h) Zk
 | done n t y=>exact absurd (show("done":Str)="has" from h) Zk
theorem uJ {r:RX} (h:bX r="next"):∃n t,r=.next n t:=by
 cases r with
 | next n t=>exact⟨n,t,rfl⟩
 | has z m=>exact absurd (show("has":Str)="next" from h) Zk
 | kept n t p k x y=>exact absurd (show("kept":Str)="next" from h) Zk
 | came n t p k x=>exact absurd (show("came":Str)="next" from h) Zk
 | asked n=>exact absurd (show("asked":Str)="next" from h) Zk
 | done n t y=>exact absurd (show("done":Str)="next" from h) Zk
theorem Nn {r:RX} (h:bX r="kept"):∃n t p k x y,r=.kept n t p k x y:=by
 cases r with
 | kept n t p k x y=>exact⟨n,t,p,k,x,y,rfl⟩
 | has z m=>exact absurd (show("has":Str)="kept" from h) Zk
 | next n t=>exact absurd (show("next":Str)="kept" from h) Zk
 | came n t p k x=>exact absurd (show("came":Str)="kept" from h) Zk
 | asked n=>exact absurd (show("asked":Str)="kept" from h) Zk
 | done n t y=>exact absurd (show("done":Str)="kept" from h) Zk
theorem bP {α:Type} {xs:List α} {i:Nat} {x:α} (h:xs[i]?=some x):xs.take (i+1)=xs.take i++[x]:=by rw[List.take_add_one,h];rfl
theorem LvH.men {H H':Hp} {d b ra bk ul lm:Addr} {rs:List RX} {as:List Addr} {kvs:List (aT × V)} {f:Str->Nat} {us:List Un} {M:List Addr} (h:LvH H d b ra bk ul H' rs as kvs f us) (hM:MenusAt H lm M) (h1:d∉M) (h2:b∉M) (h3:ra∉M):MenusAt H' lm M:=
 hM.keep fun c hc o e=>h.fr c o e (fun z=>h1 (z ▸ hc)) (fun z=>h2 (z ▸ hc)) (fun z=>h3 (z ▸ hc))
def Ug (H:Hp) (d b ra lm bk ul wa:Addr) (many i:Nat) (σ':St) (H':Hp):Prop:=∃(rs:List RX) (as:List Addr) (kvs:List (aT × V)) (f:Str->Nat) (us:List Un) (num turn:Nat) (o9 o10 o11 o12 o13:Option V),σ'=[some (.ref d),some (.ref ra),some (.ref lm),some (.int (many:Int)),some (.ref bk),some (.ref ul),some (.ref wa),some (.int (num:Int)),some (.int (turn:Int)),o9,o10,o11,o12,o13]/\LvH H d b ra bk ul H' rs as kvs f us/\LvP rs f num turn us/\rs.length<=13+i/\num<=900006+9*i/\turn<=500000000000+9*i/\kvs.length<=13+2*i/\us.length<=i
theorem No (T:Txt K mg) (cLdraw:aG P w K mg base 1 "_law_draw" ["_law_deck_here","_law_many"] bJ) (cLdeed:aG P w K mg base 3 "_law_deed" ["_law_deck_here","_law_names","_law_houses"] oH) (cLspot:aG P w K mg base 2 "_law_spot" ["_law_deck_here","_law_menus_here"] lM) (cLsized:aG P w K mg base 2 "_law_sized" ["_law_deck_here","_law_book","_law_deed_here"] pV)
  {fa:Addr} {cdv:Value} {A:Around} {outer:List Env} {s:Shared} {H0:Hp} {E:XK} (hr:Room 3 (A.deeper (PyProof.Rows.envOfC "_law_lived" (aB bI) s.heap.objs.size fa cdv))) :
  ∃t,XB (kX rK P w K mg base ["_law_deck_here","_law_rows","_law_menus_here","_law_many","_law_book","_law_under","_law_words_here","_law_number","_law_turn","_law_k","_law_way","_law_deed_here","_law_one","_law_answer_here"] "_law_lived" (aB bI) fa cdv A outer s H0 E).nox (stT (Mu (stB (Mu (bD bI) 5)) 2)) t ∧
  ∀(D:nS) (H H9:Hp) (d b ra lm bk ul wa:Addr) (M:List Addr) (many i way num turn turn':Nat) (rs:List RX) (as:List Addr) (kvs:List (aT × V)) (f:Str->Nat) (us:List Un) (o11 o12 o13:Option V),MenusAt H lm M->d∉M->b∉M->ra∉M->i<30->LvH H d b ra bk ul H9 rs as kvs f us->LvP rs f num turn' us->rs.length<=13+i->num<=900006+9*i->turn<=500000000000+9*i->kvs.length<=13+2*i->us.length<=i->turn<=turn'->turn'<=turn+9->(∀ σ' H',Ug H d b ra lm bk ul wa many (i+1) σ' H'->D.nx σ' H') →
   t D [some (.ref d),some (.ref ra),some (.ref lm),some (.int (many:Int)),some (.ref bk),some (.ref ul),some (.ref wa),some (.int (num:Int)),some (.int (turn':Int)),some (.int (i:Int)),some (.int (way:Int)),o11,o12,o13] H9:=by
 have hLdraw:Room 1 _:=hr.mono Zd
 have hLdeed:Room 3 _:=hr.mono Zd
 have hLspot:Room 2 _:=hr.mono Zd
 have hLsized:Room 2 _:=hr.mono Zd
 have hu:=hr.units0
 have hu64:=hr.units
 refine⟨_,(R.ae (R.ai (i:=7) bB.nd (R.op R.au (R.op R.au (R.v 7) R.ac) (R.ix (R.ar (K:=K)) (R.av (R.aa R.ac (R.aa R.ac (R.aa (R.fn cLdraw hLdraw rfl (R.aa (R.v 0) (R.aa R.ac R.ad))) R.ad)))) (R.fn cLdraw hLdraw rfl (R.aa (R.v 0) (R.aa R.ac R.ad)))))) (R.ae (R.ai (i:=11) bB.nd (R.fn cLsized hLsized rfl (R.aa (R.v 0) (R.aa (R.v 4) (R.aa (R.fn cLdeed hLdeed rfl (R.aa (R.v 0) (R.aa (R.ix (R.ar (K:=K)) (R.v 2) R.ac) (R.aa (R.ix (R.ar (K:=K)) (R.v 2) R.ac) R.ad)))) R.ad))))) (R.ae (R.bn (R.bt (K:=K) PySem.F.plainAttrs_list PySem.F.slot_list_append PySem.F.type_list_append R.dl (R.v 1) (R.aa (R.op R.dw (R.op R.dw (R.ak (R.aa R.ag (R.aa (R.v 7) (R.aa (R.v 8) R.ad)))) (R.fn cLspot hLspot rfl (R.aa (R.v 0) (R.aa (R.v 2) R.ad)))) (R.ak (R.aa (R.v 11) R.ad))) R.ad))) (R.ah (R.bn (R.bt (K:=K) PySem.F.plainAttrs_list PySem.F.slot_list_append PySem.F.type_list_append R.dl (R.v 5) (R.aa (R.av (R.aa (R.v 7) (R.aa (R.v 11) (R.aa R.bl R.ad)))) R.ad))))))),?_⟩
 intro D H H9 d b ra lm bk ul wa M many i way num turn turn' rs as kvs f us o11 o12 o13 hM oD oB oR hi L9 P8 l1 l2 l3 l4 l5 t1 t2 nxt;refine aY (fun σ' H'=>∃(m:Nat),σ'=[some (.ref d),some (.ref ra),some (.ref lm),some (.int (many:Int)),some (.ref bk),some (.ref ul),some (.ref wa),some (.int (m:Int)),some (.int (turn':Int)),some (.int (i:Int)),some (.int (way:Int)),o11,o12,o13]/\num<m/\m<=num+9/\LvH H d b ra bk ul H' rs as kvs f us) (fun nx' hnx'=>?_) ?_
 ·refine⟨d,b,9,rfl,L9.dk,Zd,Zd,fun r8 H8 x0 x1 D8 k8=>⟨dR rfl,fun p hp=>⟨d,b,3,rfl,D8.new hp,Zd,Zd,fun r9 Ha y0 y1 D9 k9=>?_⟩⟩⟩
  obtain⟨r8,rfl⟩:=eK x0
  have hpd:=D8.ne hp
  have gp:=k9 p _ aA hpd.1 hpd.2
  have La:=L9.fw ((((Fw.refl L9.dk).draw D8 k8).new hp).draw D9 k9)
  rcases(by omega:r9=0∨r9=1∨r9=2) with rfl | rfl | rfl
  ·exact⟨_,SqL.of gp,_,rfl,hnx' _ _ ⟨num+1,rfl,Zo,Zo,La⟩⟩
  ·exact⟨_,SqL.of gp,_,rfl,hnx' _ _ ⟨num+1,rfl,Zo,Zo,La⟩⟩
  ·exact⟨_,SqL.of gp,_,rfl,hnx' _ _ ⟨num+1+r8,rfl,Zo,Zo,La⟩⟩
 rintro σ' Ha ⟨m,rfl,m1,m2,La⟩
 have hMa:=La.men hM oD oB oR
 obtain⟨a0,a1,a2,a3,ws,us',ps,ks,eM,h0,h1,h2,h3,h4,mw,mu,_⟩:=hMa.ex
 have nd:∀c∈M,c≠d/\c≠b:=fun c hc=>⟨(fun z=>oD (z ▸ hc)),(fun z=>oB (z ▸ hc))⟩
 have i0:a0∈M:=by rw[eM];simp
 have i1:a1∈M:=by rw[eM];simp
 refine⟨_,SqL.of h0,_,rfl,_,SqL.of h0,_,rfl,d,b,a0,a1,ws,us',rfl,La.dk,h1,h2,⟨(nd a0 i0).1,(nd a0 i0).2,(nd a1 i1).1,(nd a1 i1).2⟩,mw,mu,fun td xd Hb hxd gxd fb=>?_⟩
 have Lb:=La.fw fb
 refine⟨d,b,bk,td,kvs,f,xd,rfl,Lb.dk,Lb.book,Lb.bis,gxd,hxd,fun t' x' Hc hx' gx' fc=>?_⟩
 have Lc:=Lb.fw fc
 dsimp only [aK];refine⟨.inl ⟨rfl,_,SqL.of Lc.rows.lst⟩,aN rfl,fun q1 Hd sd gd=>?_⟩
 have Ld:=Lc.fw ((Fw.refl Lc.dk).same sd)
 refine⟨d,b,lm,M,rfl,Ld.dk,Ld.men hM oD oB oR,oD,oB,fun q2 pp kk He hpp hkk ge fe=>?_⟩
 refine⟨_,_,fe.tup gd,ge,Nat.le_of_ble_eq_true rfl,fun q3 Hf sf gf=>⟨aN rfl,fun q4 Hg sg gg=>⟨_,_,sg _ _ gf,gg,Nat.le_of_ble_eq_true rfl,fun q5 Hh sh gh=>?_⟩⟩⟩
 have Fh:=(((fe.same sf).same sg).same sh)
 have Lh:=Ld.fw Fh
 have lr:=Lh.rows.len
 refine⟨ra,_,_,rfl,rfl,Lh.rows.lst,by rw[bG];exact oK (m:=1000) Zo Zd,?_⟩
 have Li:=Lh.row (r:=.came m turn' pp kk x') (a:=q5) ⟨t',gh,Fh.tup (sd _ _ gx')⟩
 have gti:(aJ Hh ra (.lst (as.map V.ref++[.ref q5]))) t'=some (.tup x'.vs):=gP Lh.rows.lst _ _ (Fh.tup (sd _ _ gx'))
 generalize aJ Hh ra (.lst (as.map V.ref++[.ref q5]))=Hi at Li gti;refine⟨.inl ⟨rfl,_,SqL.of Li.und⟩,dR rfl,fun e he=>?_⟩
 have Lj:=Li.fw ((Fw.refl Li.dk).new (o:=.lst [.int (m:Int),.ref t',.bl false]) he)
 have ge':Ab (aJ Hi e (.lst [.int (m:Int),.ref t',.bl false])) e m t' x' false:=⟨aA,aO gti he⟩
 have eul:e≠ul:=(aE Li.und he).symm
 have ebk:e≠bk:=(aE Li.book he).symm
 have eus:∀u∈us,u.e≠e:=fun u hu=>aE (Li.ent u hu).1 he
 have fe0:H e=none:=by
  cases hh:H e with
  | none=>rfl
  | some o=>
   have hed:=Li.dk.ne he
   have:e≠ra:=(aE Li.rows.lst he).symm
   rw[Li.fr e o hh hed.1 hed.2 this]at he;cases he
 refine⟨ul,_,_,rfl,rfl,Lj.und,by rw[bG,bG];exact oK (m:=1000) Zo Zd,?_⟩
 exact nxt _ _ ⟨_,_,kvs,f,_,m,turn',_,_,_,_,_,rfl,Lj.push ge' fe0 eul ebk eus,P8.came m1 Zo Zo hpp hkk hx',by simp;omega,Zo,Zo,Zo,by simp;omega⟩
end
end KL
namespace KL
open PySem L2
section
variable {P:Program} {w:World} {K:W.Frag} {mg:Str->Option Value} {base:Heap}
theorem Np (T:Txt K mg) (cLdraw:aG P w K mg base 1 "_law_draw" ["_law_deck_here","_law_many"] bJ) (cLright:aG P w K mg base 2 "_law_right" ["_law_deck_here","_law_book","_law_one"] pW) (cLchanged:aG P w K mg base 2 "_law_changed" ["_law_book","_law_deed_here","_law_answer_here"] fV)
  {fa:Addr} {cdv:Value} {A:Around} {outer:List Env} {s:Shared} {H0:Hp} {E:XK} (hr:Room 3 (A.deeper (PyProof.Rows.envOfC "_law_lived" (aB bI) s.heap.objs.size fa cdv))) :
  ∃t,XB (kX rK P w K mg base ["_law_deck_here","_law_rows","_law_menus_here","_law_many","_law_book","_law_under","_law_words_here","_law_number","_law_turn","_law_k","_law_way","_law_deed_here","_law_one","_law_answer_here"] "_law_lived" (aB bI) fa cdv A outer s H0 E).nox (stE (Mu (stB (Mu (bD bI) 5)) 2)) t ∧
  ∀(D:nS) (H H9:Hp) (d b ra lm bk ul wa:Addr) (M:List Addr) (many i way num turn turn':Nat) (rs:List RX) (as:List Addr) (kvs:List (aT × V)) (f:Str->Nat) (us:List Un) (o11 o12 o13:Option V),MenusAt H lm M->d∉M->b∉M->ra∉M->i<30->LvH H d b ra bk ul H9 rs as kvs f us->LvP rs f num turn' us->rs.length<=13+i->num<=900006+9*i->turn<=500000000000+9*i->kvs.length<=13+2*i->us.length<=i->turn<=turn'->turn'<=turn+9->us≠[]->(∀ σ' H',Ug H d b ra lm bk ul wa many (i+1) σ' H'->D.nx σ' H') →
   t D [some (.ref d),some (.ref ra),some (.ref lm),some (.int (many:Int)),some (.ref bk),some (.ref ul),some (.ref wa),some (.int (num:Int)),some (.int (turn':Int)),some (.int (i:Int)),some (.int (way:Int)),o11,o12,o13] H9:=by
 have hLdraw:Room 1 _:=hr.mono Zd
 have hLright:Room 2 _:=hr.mono Zd
 have hLchanged:Room 2 _:=hr.mono Zd
 have hu:=hr.units0
 have hu64:=hr.units
 refine⟨_,(R.ae (R.ai (i:=12) bB.nd (R.ix (R.ar (K:=K)) (R.v 5) (R.fn cLdraw hLdraw rfl (R.aa (R.v 0) (R.aa (R.aw (R.az (K:=K)) rfl T.b_len bC (R.aa (R.v 5) R.ad)) R.ad))))) (R.ae (R.ai (i:=13) bB.nd (R.fn cLright hLright rfl (R.aa (R.v 0) (R.aa (R.v 4) (R.aa (R.v 12) R.ad))))) (R.ah (R.ap (R.tw (R.bv (R.ao R.eq (R.v 10) R.ac) (R.bv (R.db (R.bq (R.ix (R.ar (K:=K)) (R.v 12) R.ac))) (R.cj (R.ao (R.be (K:=K)) (R.ix (R.af (K:=K)) (R.ix (R.ar (K:=K)) (R.v 12) R.ac) R.ac) (R.ak (R.aa R.ag (R.aa R.ag (R.aa R.ag R.ad))))))))) (R.ae (R.bn (R.bt (K:=K) PySem.F.plainAttrs_list PySem.F.slot_list_append PySem.F.type_list_append R.dl (R.v 1) (R.aa (R.ak (R.aa R.ag (R.aa (R.ix (R.ar (K:=K)) (R.v 12) R.ac) R.ad))) R.ad))) (R.ah (R.br R.bl (R.cg (R.v 12) R.ac R.ir)))) (R.ah (R.ap (R.ao R.fj (R.v 13) R.bh) (R.ae (R.bn (R.bt (K:=K) PySem.F.plainAttrs_list PySem.F.slot_list_append PySem.F.type_list_append R.dl (R.v 1) (R.aa (R.ak (R.aa R.ag (R.aa (R.ix (R.ar (K:=K)) (R.v 12) R.ac) (R.aa (R.v 8) (R.aa (R.v 13) R.ad))))) R.ad))) (R.ae (R.bn (R.fn cLchanged hLchanged rfl (R.aa (R.v 4) (R.aa (R.ix (R.ar (K:=K)) (R.v 12) R.ac) (R.aa (R.v 13) R.ad))))) (R.ah (R.bn (R.bt (K:=K) PySem.F.plainAttrs_list PySem.F.slot_list_remove PySem.F.type_list_remove (R.ie hu64) (R.v 5) (R.aa (R.v 12) R.ad)))))) R.aq)))))),?_⟩
 intro D H H9 d b ra lm bk ul wa M many i way num turn turn' rs as kvs f us o11 o12 o13 hM oD oB oR hi L9 P8 l1 l2 l3 l4 l5 t1 t2 hne nxt;have hpos:0<us.length:=by cases us with | nil=>exact absurd rfl hne | cons _ _=>exact Nat.succ_pos _
 refine⟨_,.inl (SqL.of L9.und),d,b,(us.length:Int),by rw[bG,bG],L9.dk,Zo,Zo,fun r Ha r0 r1 Da ka=>?_⟩
 have La:=L9.fw ((Fw.refl L9.dk).draw Da ka)
 obtain⟨j,rfl⟩:=eK r0
 have hj:j<us.length:=by omega
 obtain⟨u,huj⟩:∃u,us[j]?=some u:=⟨us[j],iA hj⟩
 have hum:=gX huj
 obtain⟨g1,⟨tc,pc,kc,g2⟩,g3,g4,g5⟩:=P8.und u hum
 refine⟨_,SqL.of La.und,.ref u.e,cE (by rw[kE,kE,huj];rfl),?_⟩
 dsimp only [aK];refine aY (fun σ' H'=>∃(v:V),σ'=[some (.ref d),some (.ref ra),some (.ref lm),some (.int (many:Int)),some (.ref bk),some (.ref ul),some (.ref wa),some (.int (num:Int)),some (.int (turn':Int)),some (.int (i:Int)),some (.int (way:Int)),o11,some (.ref u.e),some v]/\LvH H d b ra bk ul H' rs as kvs f us/\(v=.non∨∃y c,v=.ref c/\gT f u.x u.q y/\H' c=some (.tup y.vs))) (fun nx' hnx'=>?_) ?_
 ·have ned:=La.ne_d (La.fes u hum)
  exact⟨d,b,bk,u.e,u.t,kvs,f,u.x,u.n,u.q,rfl,La.dk,La.book,La.bis,La.ent u hum,g5,ned.1,ned.2,fun y c H' hy ff gc=>hnx' _ _ ⟨.ref c,rfl,La.fw ff,.inr ⟨y,c,rfl,hy,gc⟩⟩,fun H' ff=>hnx' _ _ ⟨.non,rfl,La.fw ff,.inl rfl⟩⟩
 rintro σ' Hb ⟨v,rfl,Lb,hvv⟩
 refine Hm (fun c H'=>LvH H d b ra bk ul H' rs as kvs f us/\TK Hb H'/\(c=true->u.q=false/\u.x.far=true)) (fun k hk=>?_) ?_ ?_
 ·have en:=(Lb.ent u hum)
  refine bF (fun _=>?_) (fun _=>hk _ _ ⟨Lb,.refl,(fun z=>nomatch z)⟩)
  refine⟨_,SqL.of en.1,_,rfl,?_⟩
  show if (!u.q)=true then _ else _
  refine bF (fun hq=>?_) (fun _=>hk _ _ ⟨Lb,.refl,(fun z=>nomatch z)⟩)
  refine⟨_,SqL.of en.1,_,rfl,_,SqT.of en.2,_,nO u.x,aN rfl,fun tq Hc sc gc=>⟨tq,_,rfl,.inr (SqT.of gc),rfl,rfl,?_⟩⟩
  refine hk _ _ ⟨Lb.fw ((Fw.refl Lb.dk).same sc),Same.tk sc,fun z=>⟨by simpa using hq,?_⟩⟩
  rw[<- uI];exact z
 ·rintro Hc ⟨Lc,tkc,hc⟩
  obtain⟨hq,hf⟩:=hc rfl
  refine⟨.inl ⟨rfl,_,SqL.of Lc.rows.lst⟩,_,SqL.of (Lc.ent u hum).1,_,rfl,aN rfl,fun ta Hd sd gd=>?_⟩
  have Ld:=Lc.fw ((Fw.refl Lc.dk).same sd)
  have lr:=Ld.rows.len
  refine⟨ra,_,_,rfl,rfl,Ld.rows.lst,by rw[bG];exact oK (m:=1000) Zo Zd,?_⟩
  have Le:=Ld.row (r:=.asked u.n) (a:=ta) gd
  generalize aJ Hd ra (.lst (as.map V.ref++[.ref ta]))=He at Le;refine⟨u.e,_,2,2,rfl,rfl,(Le.ent u hum).1,rfl,?_⟩
  exact nxt _ _ ⟨_,_,kvs,f,_,num,turn',_,_,_,_,_,rfl,Le.mark huj,P8.mark huj hq hf,by simp;omega,Zo,Zo,Zo,by rw[List.length_set];omega⟩
 ·rintro Hc ⟨Lc,tkc,hc⟩
  rcases hvv with rfl | ⟨y,cc,rfl,hy,gcc⟩
  ·exact nxt _ _ ⟨rs,as,kvs,f,us,num,turn',_,_,_,_,_,rfl,Lc,P8,Zo,Zo,Zo,Zo,Zo⟩
  ·obtain⟨r1,r2⟩:=wC P8.fb g1 hy g5
   obtain⟨ea,hG⟩:=gM g1 hy
   refine⟨.inl ⟨rfl,_,SqL.of Lc.rows.lst⟩,_,SqL.of (Lc.ent u hum).1,_,rfl,aN rfl,fun ta Hd sd gd=>?_⟩
   have Ld:=Lc.fw ((Fw.refl Lc.dk).same sd)
   have lr:=Ld.rows.len
   have gcd:=sd _ _ (tkc _ _ gcc)
   refine⟨ra,_,_,rfl,rfl,Ld.rows.lst,by rw[bG];exact oK (m:=1000) Zo Zd,?_⟩
   have Le:=Ld.row (r:=.done u.n turn' y) (a:=ta) ⟨cc,gd,gcd⟩
   have gce:(aJ Hd ra (.lst (as.map V.ref++[.ref ta]))) cc=some (.tup y.vs):=gP Ld.rows.lst _ _ gcd
   generalize aJ Hd ra (.lst (as.map V.ref++[.ref ta]))=He at Le gce;refine⟨_,SqL.of (Le.ent u hum).1,_,rfl,bk,u.t,cc,kvs,f,u.x,y,rfl,Le.book,Le.bis,Zo,(Le.ent u hum).2,gce,r1,hG,fun kvs' Hf gf bf lf kf=>?_⟩
   have Lf:=Le.pay kf gf bf
   refine⟨.inl ⟨rfl,_,SqL.of Lf.und⟩,?_⟩
   dsimp only [jB,sV,vr];show jO (.ref ul) [.ref u.e] Hf _
   refine Lf.rem P8.nd huj ?_
   rw[ea]at Lf;exact nxt _ _ ⟨_,_,kvs',_,_,num,turn',_,_,_,_,_,rfl,Lf.drop j,P8.done huj Zo hy,by simp;omega,Zo,Zo,Zo,by have:=List.length_eraseIdx_le us j;omega⟩
end
end KL
namespace KL
open PySem L2
section
variable {P:Program} {w:World} {K:W.Frag} {mg:Str->Option Value} {base:Heap}
def pZ:Sp:=fun vs H Q _=>∃(d b ra lm:Addr) (M:List Addr) (rs:List RX) (as:List Addr) (many:Nat),vs=[.ref d,.ref ra,.ref lm,.int (many:Int)]/\Dk H d b/\RxsAt H ra rs as/\uG rs/\MenusAt H lm M/\d∉M/\b∉M/\ra∉M/\ra≠d/\ra≠b/\many<=30 ∧
 ∀(rs':List RX) (as':List Addr) (f:Str->Nat) (H':Hp),RxsAt H' ra rs' as'->RX.Whole rs'->(∀r∈rs',r.Ok)->jE rs' f->rs'.length<=43->Dk H' d b->(∀c o,H c=some o->c≠d->c≠b->c≠ra->H' c=some o)->Q (.ref ra) H'
theorem Il (T:Txt K mg) (cLdraw:aG P w K mg base 1 "_law_draw" ["_law_deck_here","_law_many"] bJ) (cLdeed:aG P w K mg base 3 "_law_deed" ["_law_deck_here","_law_names","_law_houses"] oH)
  (cLspot:aG P w K mg base 2 "_law_spot" ["_law_deck_here","_law_menus_here"] lM) (cLsized:aG P w K mg base 2 "_law_sized" ["_law_deck_here","_law_book","_law_deed_here"] pV)
  (cLright:aG P w K mg base 2 "_law_right" ["_law_deck_here","_law_book","_law_one"] pW) (cLchanged:aG P w K mg base 2 "_law_changed" ["_law_book","_law_deed_here","_law_answer_here"] fV)
  (D:DefAt K mg "_law_lived" bI ["_law_deck_here","_law_rows","_law_menus_here","_law_many"]):aG P w K mg base 4 "_law_lived" ["_law_deck_here","_law_rows","_law_menus_here","_law_many"] pZ:=by
 refine D.go bB (fun vs H Q E h=>?_) (fun f cdv A outer s H vs Q E hr h=>?_)
 ·obtain⟨d,b,ra,lm,M,rs,as,many,rfl,_⟩:=h;rfl
 ·obtain⟨d,b,ra,lm,M,rs0,as0,many,rfl,dk,R0,hd0,hM,oD,oB,oR,nrd,nrb,hmany,q⟩:=h
  have hLdraw:Room 1 _:=hr.mono Zd
  have hLdeed:Room 3 _:=hr.mono Zd
  have hLspot:Room 2 _:=hr.mono Zd
  have hLsized:Room 2 _:=hr.mono Zd
  have hLright:Room 2 _:=hr.mono Zd
  have hLchanged:Room 2 _:=hr.mono Zd
  have hu:=hr.units0
  have hu64:=hr.units
  have l0:=hd0.len
  have la0:=R0.len
  obtain⟨tc1,h1,p1⟩:=No (P:=P) (w:=w) (base:=base) T cLdraw cLdeed cLspot cLsized (fa:=f) (outer:=outer) (H0:=H) (E:=E) hr
  obtain⟨tc2,h2,p2⟩:=Np (P:=P) (w:=w) (base:=base) T cLdraw cLright cLchanged (fa:=f) (outer:=outer) (H0:=H) (E:=E) hr
  refine⟨_,(R.ae (R.ai (i:=4) bB.nd (R.bj (R.dq (K:=K) rfl) rfl T.b_dict iC (R.aa (R.bc rfl (js:=[none]) (N:=["_law_row"]) (CompScope.by (aB bI) ["_law_deck_here","_law_rows","_law_menus_here","_law_many","_law_book","_law_under","_law_words_here","_law_number","_law_turn","_law_k","_law_way","_law_deed_here","_law_one","_law_answer_here"] rfl rfl Zk) (bA rfl) (R.bo (K:=K) (R.v 1)) (fun C s₂ H₂ fp=>⟨(R.gn (i:=0) (show(["_law_row"]:List Str).Nodup by decide +kernel)),(R.bu (R.ao R.eq (R.ix (R.af (K:=K)) (R.v 0) R.ac) R.ag)),(R.ak (R.aa (R.ix (R.af (K:=K)) (R.v 0) R.ac) (R.aa (R.ix (R.af (K:=K)) (R.v 0) R.ac) R.ad)))⟩)) R.ad))) (R.ae (R.ai (i:=5) bB.nd (R.av R.ad)) (R.ae (R.ai (i:=6) bB.nd (R.sl (R.fi (K:=K)) (R.av (R.aa R.ag (R.aa R.ag R.ad))) R.pn (R.ps (R.op R.au R.ac (R.fn cLdraw hLdraw rfl (R.aa (R.v 0) (R.aa R.ac R.ad))))))) (R.ae (R.ai (i:=7) bB.nd (R.aw (R.eg (K:=K) rfl) rfl T.b_max mL (R.aa (R.op R.bw (R.bc rfl (js:=[none,some 6]) (N:=["_law_row","_law_words_here"]) (CompScope.by (aB bI) ["_law_deck_here","_law_rows","_law_menus_here","_law_many","_law_book","_law_under","_law_words_here","_law_number","_law_turn","_law_k","_law_way","_law_deed_here","_law_one","_law_answer_here"] rfl rfl Zk) (bA rfl) (R.bo (K:=K) (R.v 1)) (fun C s₂ H₂ fp=>⟨(R.gn (i:=0) (show(["_law_row","_law_words_here"]:List Str).Nodup by decide +kernel)),(R.bu (R.ao (R.be (K:=K)) (R.ix (R.af (K:=K)) (R.v 0) R.ac) (R.v 1))),(R.ix (R.af (K:=K)) (R.v 0) R.ac)⟩)) (R.av (R.aa R.ac R.ad))) R.ad))) (R.ae (R.ai (i:=8) bB.nd (R.aw (R.eg (K:=K) rfl) rfl T.b_max mL (R.aa (R.op R.bw (R.bc rfl (js:=[none]) (N:=["_law_row"]) (CompScope.by (aB bI) ["_law_deck_here","_law_rows","_law_menus_here","_law_many","_law_book","_law_under","_law_words_here","_law_number","_law_turn","_law_k","_law_way","_law_deed_here","_law_one","_law_answer_here"] rfl rfl Zk) (bA rfl) (R.bo (K:=K) (R.v 1)) (fun C s₂ H₂ fp=>⟨(R.gn (i:=0) (show(["_law_row"]:List Str).Nodup by decide +kernel)),(R.bu (R.ao R.eq (R.ix (R.af (K:=K)) (R.v 0) R.ac) R.ag)),(R.ix (R.af (K:=K)) (R.v 0) R.ac)⟩)) (R.av (R.aa R.ac R.ad))) R.ad))) (R.ae (R.bp PassesOwn.never rfl (R.dj rfl T.b_range (R.aa (R.v 3) R.ad)) (R.gn (i:=9) bB.nd) (R.ae (R.ai (i:=10) bB.nd (R.fn cLdraw hLdraw rfl (R.aa (R.v 0) (R.aa R.ac R.ad)))) (R.ae (R.ai (i:=8) bB.nd (R.op R.au (R.v 8) (R.ix (R.ar (K:=K)) (R.av (R.aa R.ac (R.aa R.ac (R.aa R.ac (R.aa (R.fn cLdraw hLdraw rfl (R.aa (R.v 0) (R.aa R.ac R.ad))) R.ad))))) (R.fn cLdraw hLdraw rfl (R.aa (R.v 0) (R.aa R.ac R.ad)))))) (R.ah (R.ap (R.tw (R.da (R.ao R.lt (R.v 10) R.ac) (R.dr (R.ao (R.jf (K:=K) hu) (R.v 5) (R.av R.ad)))))
   h1
   h2))))) (R.ah (R.al (R.v 1))))))))),?_⟩
  refine aY (fun σ' H'=>∃(bk:Addr) (kvs:List (aT × V)),σ'=[some (.ref d),some (.ref ra),some (.ref lm),some (.int (many:Int)),some (.ref bk),none,none,none,none,none,none,none,none,none]/\H bk=none/\H' bk=some (.dK kvs)/\BookIs kvs (dG rs0)/\kvs.length<=13/\Same H H') (fun nx hnx=>?_) ?_
  ·refine⟨ra,rfl,⟨_,SqL.of R0.lst⟩,?_⟩
   refine bT (cU K ra (as0.map V.ref)) (by rw[bG];omega) (fun i ys H'=>∃zs:List W,ys=zs.map (fun z=>V.ref z.1)/\Ux H' zs/\zs.map (·.2)=dJ (rs0.take i)/\Same H H'/\zs.length<=i) (fun i ys H' ⟨zs,e,_,_,s',l'⟩=>⟨SqL.of (s' _ _ R0.lst),by rw[e,bG];exact l'⟩) ⟨[],rfl,(fun _ h=>nomatch h),rfl,(fun _ _ e=>e),bM _⟩ (fun i x ys H' hx ⟨zs,e,hw,ez,s',l'⟩=>?_) (fun ys H' ⟨zs,e,hw,ez,s',l'⟩=>?_)
   ·obtain⟨a,r,rfl,ha,hrr,hat⟩:=(R0.same s').get hx
    obtain⟨xs,g,x0,x1,x2⟩:=eC hat
    have etk:=bP hrr
    dsimp only [aK];refine⟨_,SqT.of g,_,x0,?_⟩
    show if decide (bX r="has")=true then _ else _
    refine bF (fun h=>?_) (fun h=>?_)
    ·obtain⟨z,m,rfl⟩:=yG (of_decide_eq_true h)
     refine⟨_,SqT.of g,_,x1,_,SqT.of g,_,x2 (fun z=>nomatch z),aN rfl,fun tp H2 s2 g2=>?_⟩
     refine⟨zs++[(tp,(Sum.inr z,.int (m:Int)))],by rw[e,jF];rfl,fun y hy=>?_,?_,s'.trans s2,by simp;omega⟩
     ·rcases aH hy with hy | rfl
      ·exact s2 _ _ (hw y hy)
      ·exact g2
     ·rw[jF,ez,etk,pY];rfl
    ·refine⟨zs,e,hw,?_,s',Zo⟩
     rw[ez,etk,pY,Cz (of_decide_eq_false h),List.append_nil]
   ·intro p hp;have gp:(aJ H' p (.lst ys)) p=some (.lst (zs.map fun z=>V.ref z.1)):=by rw[aA,e]
    have s1:Same H (aJ H' p (.lst ys)):=s'.trans (aF hp)
    have hw1:Ux (aJ H' p (.lst ys)) zs:=fun z hz=>aO (hw z hz) hp
    generalize aJ H' p (.lst ys)=H1 at gp s1 hw1;rw[bG]at l';refine⟨zs,SqL.of gp,hw1,Zo,fun bk hbk=>?_⟩
    refine hnx _ _ ⟨bk,_,rfl,s1.free hbk,aA,?_,?_,s1.trans (aF hbk)⟩
    ·rw[ez,bG,<- la0,rA (bM _)];exact cD rs0 [] _ (fun z=>rfl)
    ·have:=dH (zs.map (·.2)) []
     rw[bG]at this;simp at this
     omega
  rintro σ' H1 ⟨bk,kvs0,rfl,fbk,gbk,bis0,lk0,s1⟩
  have f1:=(Fw.refl dk).same s1
  refine⟨dR rfl,fun ul hul=>?_⟩
  have ful:=s1.free hul
  have nbu:bk≠ul:=aE gbk hul
  have f2:=f1.new (o:=.lst []) hul
  have gul:(aJ H1 ul (.lst [])) ul=some (.lst []):=aA
  replace gbk:=aO (u:=.lst []) gbk hul
  dsimp only [aK];generalize aJ H1 ul (.lst [])=H2 at f2 gul gbk;refine aY (fun σ' H'=>∃(wa:Addr) (wz:List Str),σ'=[some (.ref d),some (.ref ra),some (.ref lm),some (.int (many:Int)),some (.ref bk),some (.ref ul),some (.ref wa),none,none,none,none,none,none,none]/\H' wa=some (.lst (wz.map V.str))/\(wz=[("kept":Str)]∨wz=[("kept":Str),"next"])/\wa≠d/\wa≠b/\Fw d b H2 H') (fun nx hnx=>?_) ?_
  ·refine⟨dR rfl,fun p hp=>⟨d,b,2,rfl,f2.dk.new hp,Zd,Zd,fun r H3 r0 r1 D3 k3=>?_⟩⟩
   have pd:=f2.dk.ne hp
   have F3:=((Fw.refl f2.dk).new (o:=.lst [.str "kept",.str "next"]) hp).draw D3 k3
   have gp:=k3 p _ aA pd.1 pd.2
   rcases(by omega:r=0∨r=1) with rfl | rfl
   ·refine⟨_,SqL.of gp,fun wa hwa=>hnx _ _ ⟨wa,["kept"],rfl,aA,.inl rfl,(F3.dk.ne hwa).1,(F3.dk.ne hwa).2,F3.new hwa⟩⟩
   ·refine⟨_,SqL.of gp,fun wa hwa=>hnx _ _ ⟨wa,["kept","next"],rfl,aA,.inr rfl,(F3.dk.ne hwa).1,(F3.dk.ne hwa).2,F3.new hwa⟩⟩
  rintro σ' H3 ⟨wa,wz,rfl,gwa,hwz,nwd,nwb,F3⟩
  have f3:=f2.trans F3
  have R3:=R0.keep f3.tk (f3.get R0.lst nrd nrb)
  refine aY (fun σ' H'=>∃(num:Nat),σ'=[some (.ref d),some (.ref ra),some (.ref lm),some (.int (many:Int)),some (.ref bk),some (.ref ul),some (.ref wa),some (.int (num:Int)),none,none,none,none,none,none]/\num<=900006/\(∀n t p k x y,.kept n t p k x y∈rs0->n<=num)/\Fw d b H2 H') (fun nx hnx=>?_) ?_
  ·refine⟨ra,rfl,⟨_,SqL.of R3.lst⟩,?_⟩
   refine bT (cU K ra (as0.map V.ref)) (by rw[bG];omega) (fun i ys H'=>H'=H3/\∃ns:List Nat,ys=ns.map (fun n:Nat=>V.int (n:Int))/\ns.length<=i/\(∀n∈ns,n<=900006)/\∀n t p k x y,.kept n t p k x y∈rs0.take i->n∈ns) (fun i ys H' ⟨e0,ns,e,l',_⟩=>⟨by rw[e0];exact SqL.of R3.lst,by rw[e,bG];exact l'⟩) ⟨rfl,[],rfl,bM _,(fun _ h=>nomatch h),(fun _ _ _ _ _ _ h=>nomatch h)⟩ (fun i x ys H' hx ⟨e0,ns,e,l',hb',hk'⟩=>?_) (fun ys H' ⟨e0,ns,e,l',hb',hk'⟩=>?_)
   ·subst e0;obtain⟨a,r,rfl,ha,hrr,hat⟩:=R3.get hx
    obtain⟨xs,g,x0,x1,x2⟩:=eC hat
    have etk:=bP hrr
    have hrm:r∈rs0:=gX hrr
    dsimp only [aK];refine⟨_,SqT.of g,_,x0,wa,_,rfl,.inl (SqL.of gwa),rfl,by rcases hwz with rfl | rfl <;> rfl,?_⟩
    have yes:∀n:Nat,Ii r=.int (n:Int)->n<=900006->(∀n' t p k x y,.kept n' t p k x y∈rs0.take (i+1)->n'∈ns++[n])->(∃xs,SqT K H' a xs/\∃v,kT xs 1=some v/\(H'=H'/\∃ns':List Nat,ys++[v]=ns'.map (fun n:Nat=>V.int (n:Int))/\ns'.length<=i+1/\(∀n∈ns',n<=900006)/\∀n t p k x y,.kept n t p k x y∈rs0.take (i+1)->n∈ns')):=fun n e1 hn hk2=>by
     refine⟨_,SqT.of g,_,x1,rfl,ns++[n],by rw[e,jF,e1];rfl,by simp;omega,fun m hm=>?_,hk2⟩
     rcases aH hm with hm | rfl
     ·exact hb' m hm
     ·exact hn
    have no:(∀n' t p k x y,r≠.kept n' t p k x y)->H'=H'/\∃ns':List Nat,ys=ns'.map (fun n:Nat=>V.int (n:Int))/\ns'.length<=i+1/\(∀n∈ns',n<=900006)/\∀n t p k x y,.kept n t p k x y∈rs0.take (i+1)->n∈ns':=fun hne=>by
     refine⟨rfl,ns,e,Zo,hb',fun n t p k x y hm=>?_⟩
     rw[etk]at hm;rcases aH hm with hm | hm
     ·exact hk' _ _ _ _ _ _ hm
     ·exact absurd hm.symm (hne _ _ _ _ _ _)
    show if kU (.str (bX r)) (wz.map V.str)=true then _ else _
    cases r with
    | kept n t p k x y=>
     refine Cg (by rcases hwz with rfl | rfl <;> rfl) ?_
     refine yes n rfl ?_ (fun n' t' p' k' x' y' hm=>?_)
     ·have h1:=hd0.ok _ hrm
      have:∃n0 t0,RX.next n0 t0∈rs0/\n<n0:=yF hd0.wh hrm
      obtain⟨n0,t0,hm0,hlt⟩:=this
      have:=hd0.nx _ _ hm0
      omega
     ·rw[etk]at hm;rcases aH hm with hm | hm
      ·exact List.mem_append_left _ (hk' _ _ _ _ _ _ hm)
      ·cases hm;exact List.mem_append_right _ kG
    | next n t=>
     rcases hwz with rfl | rfl
     ·exact tO rfl (no (fun _ _ _ _ _ _ z=>nomatch z))
     ·refine Cg rfl (yes n rfl (hd0.nx _ _ hrm).1 (fun n' t' p' k' x' y' hm=>?_))
      rw[etk]at hm;rcases aH hm with hm | hm
      ·exact List.mem_append_left _ (hk' _ _ _ _ _ _ hm)
      ·cases hm
    | has z m=>exact tO (by rcases hwz with rfl | rfl <;> rfl) (no (fun _ _ _ _ _ _ z=>nomatch z))
    | came n t p k x=>exact tO (by rcases hwz with rfl | rfl <;> rfl) (no (fun _ _ _ _ _ _ z=>nomatch z))
    | asked n=>exact tO (by rcases hwz with rfl | rfl <;> rfl) (no (fun _ _ _ _ _ _ z=>nomatch z))
    | done n t y=>exact tO (by rcases hwz with rfl | rfl <;> rfl) (no (fun _ _ _ _ _ _ z=>nomatch z))
   ·subst e0;intro p hp;rw[bG]at l' hk';rw[<- la0,rA (bM _)]at hk';refine⟨dR rfl,fun p2 hp2=>⟨_,_,aO aA hp2,aA,by rw[e,bG];exact gY (by simp;omega),fun p3 hp3=>?_⟩⟩
    refine⟨p3,(ns.map (fun n:Nat=>(n:Int)))++[0],rfl,SqL.of (by rw[aA,e,jF,List.map_map];rfl),Zs,fun mx hmx hall=>?_⟩
    have nn:∃m:Nat,mx=m/\m<=900006:=by
     rcases Zma.mp hmx with h | h
     ·obtain⟨n,hn,rfl⟩:=Zmm.mp h;exact⟨n,rfl,hb' n hn⟩
     ·rw[Zms.mp h];exact⟨0,rfl,Zo⟩
    obtain⟨m,rfl,hm⟩:=nn
    refine hnx _ _ ⟨m,rfl,hm,fun n t p' k x y hh=>?_,((F3.new hp).new hp2).new hp3⟩
    have:=hall (n:Int) (List.mem_append_left _ (List.mem_map_of_mem (hk' _ _ _ _ _ _ hh)))
    omega
  rintro σ' H4 ⟨num,rfl,hnum,hkn,F4⟩
  have f4:=f2.trans F4
  have R4:=R0.keep f4.tk (f4.get R0.lst nrd nrb)
  refine aY (fun σ' H'=>∃(turn:Nat),σ'=[some (.ref d),some (.ref ra),some (.ref lm),some (.int (many:Int)),some (.ref bk),some (.ref ul),some (.ref wa),some (.int (num:Int)),some (.int (turn:Int)),none,none,none,none,none]/\turn<500000000000/\(∀n t,.next n t∈rs0->t<=turn)/\Fw d b H2 H') (fun nx hnx=>?_) ?_
  ·refine⟨ra,rfl,⟨_,SqL.of R4.lst⟩,?_⟩
   refine bT (cU K ra (as0.map V.ref)) (by rw[bG];omega) (fun i ys H'=>H'=H4/\∃ns:List Nat,ys=ns.map (fun n:Nat=>V.int (n:Int))/\ns.length<=i/\(∀n∈ns,n<500000000000)/\∀n t,.next n t∈rs0.take i->t∈ns) (fun i ys H' ⟨e0,ns,e,l',_⟩=>⟨by rw[e0];exact SqL.of R4.lst,by rw[e,bG];exact l'⟩) ⟨rfl,[],rfl,bM _,(fun _ h=>nomatch h),(fun _ _ h=>nomatch h)⟩ (fun i x ys H' hx ⟨e0,ns,e,l',hb',hk'⟩=>?_) (fun ys H' ⟨e0,ns,e,l',hb',hk'⟩=>?_)
   ·subst e0;obtain⟨a,r,rfl,ha,hrr,hat⟩:=R4.get hx
    obtain⟨xs,g,x0,x1,x2⟩:=eC hat
    have etk:=bP hrr
    have hrm:r∈rs0:=gX hrr
    dsimp only [aK];refine⟨_,SqT.of g,_,x0,?_⟩
    show if decide (bX r="next")=true then _ else _
    refine bF (fun h=>?_) (fun h=>?_)
    ·obtain⟨n,t,rfl⟩:=uJ (of_decide_eq_true h)
     refine⟨_,SqT.of g,_,x2 (fun z=>nomatch z),rfl,ns++[t],by rw[e,jF];rfl,by simp;omega,fun m hm=>?_,fun n' t' hm=>?_⟩
     ·rcases aH hm with hm | rfl
      ·exact hb' m hm
      ·exact(hd0.nx _ _ hrm).2
     ·rw[etk]at hm;rcases aH hm with hm | hm
      ·exact List.mem_append_left _ (hk' _ _ hm)
      ·cases hm;exact List.mem_append_right _ kG
    ·refine⟨rfl,ns,e,Zo,hb',fun n' t' hm=>?_⟩
     rw[etk]at hm;rcases aH hm with hm | hm
     ·exact hk' _ _ hm
     ·subst hm;exact absurd rfl (of_decide_eq_false h)
   ·subst e0;intro p hp;rw[bG]at l' hk';rw[<- la0,rA (bM _)]at hk';refine⟨dR rfl,fun p2 hp2=>⟨_,_,aO aA hp2,aA,by rw[e,bG];exact gY (by simp;omega),fun p3 hp3=>?_⟩⟩
    refine⟨p3,(ns.map (fun n:Nat=>(n:Int)))++[0],rfl,SqL.of (by rw[aA,e,jF,List.map_map];rfl),Zs,fun mx hmx hall=>?_⟩
    have nn:∃m:Nat,mx=m/\m<500000000000:=by
     rcases Zma.mp hmx with h | h
     ·obtain⟨n,hn,rfl⟩:=Zmm.mp h;exact⟨n,rfl,hb' n hn⟩
     ·rw[Zms.mp h];exact⟨0,rfl,Zo⟩
    obtain⟨m,rfl,hm⟩:=nn
    refine hnx _ _ ⟨m,rfl,hm,fun n t hh=>?_,((F4.new hp).new hp2).new hp3⟩
    have:=hall (t:Int) (List.mem_append_left _ (List.mem_map_of_mem (hk' _ _ hh)))
    omega
  rintro σ' H5 ⟨turn,rfl,hturn,htn,F5⟩
  have f5:=f2.trans F5
  have R5:=R0.keep f5.tk (f5.get R0.lst nrd nrb)
  have nbd:=dk.ne fbk
  have nud:=dk.ne ful
  have L5:LvH H d b ra bk ul H5 rs0 as0 kvs0 (dG rs0) []:=⟨dk,⟨_,R0.lst⟩,fbk,ful,(fun _ h=>nomatch h),⟨nrd,nrb⟩,nbu,(fun _ h=>nomatch h),List.nodup_nil,f5.dk,R5,F5.get gbk nbd.1 nbd.2,bis0,F5.get gul nud.1 nud.2,(fun _ h=>nomatch h),fun c o e n1 n2 _=>f5.get e n1 n2⟩
  have P5:=LvP.start (num:=num) (turn:=turn) hd0 hkn htn (rX hd0.ok)
  refine aY (fun σ' H'=>∃(rs:List RX) (as:List Addr) (kvs:List (aT × V)) (f:Str->Nat) (us:List Un) (num turn:Nat) (o9 o10 o11 o12 o13:Option V),σ'=[some (.ref d),some (.ref ra),some (.ref lm),some (.int (many:Int)),some (.ref bk),some (.ref ul),some (.ref wa),some (.int (num:Int)),some (.int (turn:Int)),o9,o10,o11,o12,o13]/\LvH H d b ra bk ul H' rs as kvs f us/\LvP rs f num turn us/\rs.length<=43) (fun nx hnx=>?_) ?_
  ·refine⟨(many:Int),rfl,Zo,Zo,?_⟩
   have em:(many:Int).toNat=many:=by omega
   refine dM (cR 0 (many:Int).toNat) (Ug H d b ra lm bk ul wa many) (fun _ _ _ _=>trivial)
    ⟨rs0,as0,kvs0,dG rs0,[],num,turn,_,_,_,_,_,rfl,L5,P5,Zo,Zo,Zo,Zo,bM _⟩ ?_ ?_
   ·rintro i x σ' H6 hx ⟨rs,as,kvs,f,us,num,turn,o9,o10,o11,o12,o13,rfl,L6,P6,l1,l2,l3,l4,l5⟩
    obtain⟨rfl,hi⟩:=iW hx
    rw[em]at hi;dsimp only [aK];refine⟨d,b,4,rfl,L6.dk,Zd,Zd,fun way H7 w0 w1 D7 k7=>?_⟩
    obtain⟨way,rfl⟩:=eK w0
    have L7:=L6.fw ((Fw.refl L6.dk).draw D7 k7)
    dsimp only [aK];refine aY (fun σ' H'=>∃(turn':Nat),σ'=[some (.ref d),some (.ref ra),some (.ref lm),some (.int (many:Int)),some (.ref bk),some (.ref ul),some (.ref wa),some (.int (num:Int)),some (.int (turn':Int)),some (.int (i:Int)),some (.int (way:Int)),o11,o12,o13]/\turn<=turn'/\turn'<=turn+9/\LvH H d b ra bk ul H' rs as kvs f us) (fun nx' hnx'=>?_) ?_
    ·refine⟨d,b,9,rfl,L7.dk,Zd,Zd,fun r8 H8 x0 x1 D8 k8=>⟨dR rfl,fun p hp=>⟨d,b,4,rfl,D8.new hp,Zd,Zd,fun r9 H9 y0 y1 D9 k9=>?_⟩⟩⟩
     obtain⟨r8,rfl⟩:=eK x0
     have hpd:=D8.ne hp
     have gp:=k9 p _ aA hpd.1 hpd.2
     have L9:=L7.fw ((((Fw.refl L7.dk).draw D8 k8).new hp).draw D9 k9)
     rcases Xp y0 y1 with rfl | rfl | rfl | rfl
     ·refine⟨_,SqL.of gp,_,rfl,hnx' _ _ ⟨turn,?_,Zo,Zo,L9⟩⟩
      rw[show(turn:Int)=(turn:Int)+0 by omega];rfl
     ·refine⟨_,SqL.of gp,_,rfl,hnx' _ _ ⟨turn,?_,Zo,Zo,L9⟩⟩
      rw[show(turn:Int)=(turn:Int)+0 by omega];rfl
     ·exact⟨_,SqL.of gp,_,rfl,hnx' _ _ ⟨turn+1,rfl,Zo,Zo,L9⟩⟩
     ·exact⟨_,SqL.of gp,_,rfl,hnx' _ _ ⟨turn+r8,rfl,Zo,Zo,L9⟩⟩
    ·rintro σ' H8 ⟨turn',rfl,t1,t2,L8⟩
     have P8:=P6.turn' t1
     refine Hm (fun v H'=>LvH H d b ra bk ul H' rs as kvs f us/\(v=false->us≠[])) (fun k hk=>?_) ?_ ?_
     ·refine bF (fun _=>hk _ _ ⟨L8,(fun z=>nomatch z)⟩) (fun _=>?_)
      refine⟨dR rfl,fun p hp=>⟨ul,p,_,rfl,rfl,SqL.of (aO L8.und hp),SqL.of aA,?_⟩⟩
      refine hk _ _ ⟨L8.fw ((Fw.refl L8.dk).new hp),fun e z=>?_⟩
      subst z;cases e
     ·rintro H9 ⟨L9,hv⟩
      exact p1 _ H H9 d b ra lm bk ul wa M many i way num turn turn' rs as kvs f us o11 o12 o13 hM oD oB oR Zo L9 P8 l1 l2 l3 l4 l5 t1 t2 (fun _ _ h=>h)
     ·rintro H9 ⟨L9,hv⟩
      exact p2 _ H H9 d b ra lm bk ul wa M many i way num turn turn' rs as kvs f us o11 o12 o13 hM oD oB oR Zo L9 P8 l1 l2 l3 l4 l5 t1 t2 (hv rfl) (fun _ _ h=>h)
   ·rintro σ' H6 ⟨rs,as,kvs,f,us,num,turn,o9,o10,o11,o12,o13,rfl,L6,P6,l1,l2,l3,l4,l5⟩
    rw[dC]at l1;exact hnx _ _ ⟨rs,as,kvs,f,us,num,turn,o9,o10,o11,o12,o13,rfl,L6,P6,Zo⟩
  rintro σ' H6 ⟨rs,as,kvs,f,us,num,turn,o9,o10,o11,o12,o13,rfl,L6,P6,l1⟩
  exact q rs as f H6 L6.rows P6.wh P6.ok P6.lv l1 L6.dk L6.fr
end
end KL
namespace KL
open PySem L2
section
variable {P:Program} {w:World} {K:W.Frag} {mg:Str->Option Value} {base:Heap}
def lO:RX->aT | .next n _=>Sum.inl (n:Int) | .has z _=>Sum.inr z | .kept n _ _ _ _ _=>Sum.inl (n:Int) | .came n _ _ _ _=>Sum.inl (n:Int) | .asked n=>Sum.inl (n:Int) | .done n _ _=>Sum.inl (n:Int)
theorem Uh (r:RX):Ii r=kV (lO r):=by cases r <;> rfl
def kQ (wd:Str) (r:RX) (a:Addr):List (aT × V):=if bX r=wd then [(lO r,.ref a)] else []
def iY (wd:Str) (rs:List RX) (as:List Addr):Nat->List (aT × V)
 | 0=>[]
 | i+1=>iY wd rs as i++(match rs[i]?,as[i]? with | some r,some a=>kQ wd r a | _,_=>[])
theorem mV {wd:Str} {rs:List RX} {as:List Addr} {i:Nat} {r:RX} {a:Addr} (h1:rs[i]?=some r) (h2:as[i]?=some a):iY wd rs as (i+1)=iY wd rs as i++kQ wd r a:=by
 simp only [iY,h1,h2]
theorem wF (wd:Str) (rs:List RX) (as:List Addr):∀i,(iY wd rs as i).length<=i
 | 0=>bM _
 | i+1=>by
  have:=wF wd rs as i
  unfold iY;rw[sK];split
  ·unfold kQ;split <;> simp <;> omega
  ·simp;omega
theorem wG {wd:Str} {rs:List RX} {as:List Addr} {k:aT} {v:V}:∀ {i:Nat},(k,v)∈iY wd rs as i->∃j r a,j<i/\rs[j]?=some r/\as[j]?=some a/\bX r=wd/\k=lO r/\v=.ref a
 | 0,h=>nomatch h
 | i+1,h=>by
  unfold iY at h;rcases Zma.mp h with h | h
  ·obtain⟨j,r,a,h1,h2⟩:=wG h;exact⟨j,r,a,Zo,h2⟩
  ·split at h
   ·rename_i r a e1 e2
    unfold kQ at h;split at h
    ·rename_i e3
     have:=Zms.mp h
     injection this with h1 h2
     exact⟨i,r,a,Nat.lt_succ_self _,e1,e2,e3,h1,h2⟩
    ·cases h
   ·cases h
theorem wH {wd:Str} {rs:List RX} {as:List Addr} {j:Nat} {r:RX} {a:Addr} (h1:rs[j]?=some r) (h2:as[j]?=some a) (h3:bX r=wd):∀ {i:Nat},j<i->(lO r,V.ref a)∈iY wd rs as i
 | 0,h=>nomatch h
 | i+1,h=>by
  by_cases e:j=i
  ·subst e;rw[mV h1 h2];refine List.mem_append_right _ ?_
   unfold kQ;rw[if_pos h3];exact kG
  ·unfold iY;exact List.mem_append_left _ (wH h1 h2 h3 Zo)
theorem yH (kvs l:List (aT × V)) (k:aT) (v:V):aS kvs (l++[(k,v)])=bO (aS kvs l) k v:=by unfold aS;rw[List.foldl_append];rfl
theorem kR {k:aT} {v:V}:∀ {l kvs:List (aT × V)},bE (aS kvs l) k=some v->(k,v)∈l∨bE kvs k=some v
 | [],kvs,h=>.inr h
 | (k',v')::l,kvs,h=>by
  have h':bE (aS (bO kvs k' v') l) k=some v:=h
  rcases kR h' with h1 | h1
  ·exact .inl (nY _ h1)
  ·rw[cP]at h1;by_cases e:k=k'
   ·rw[if_pos e]at h1;injection h1 with h1
    rw[<- h1,e];exact .inl kG
   ·rw[if_neg e]at h1;exact .inr h1
theorem qA {k:aT}:∀ {l kvs:List (aT × V)},(k∈l.map (·.1)∨∃v,bE kvs k=some v)->∃v,bE (aS kvs l) k=some v
 | [],kvs,h=>by
  rcases h with h | h
  ·cases h
  ·exact h
 | (k',v')::l,kvs,h=>by
  refine qA (l:=l) (kvs:=bO kvs k' v') ?_
  rcases h with h | ⟨v,h⟩
  ·rcases List.mem_cons.mp h with h | h
   ·right
    rw[cP,if_pos h];exact⟨_,rfl⟩
   ·exact .inl h
  ·right
   rw[cP];split
   ·exact⟨_,rfl⟩
   ·exact⟨v,h⟩
theorem Im {wd:Str} {rs:List RX} {as:List Addr} (hl:rs.length=as.length) {r:RX} (hm:r∈rs) (hw:bX r=wd):∃(j:Nat) (r':RX) (a:Addr),bE (aS [] (iY wd rs as rs.length)) (lO r)=some (.ref a)/\rs[j]?=some r'/\as[j]?=some a/\bX r'=wd/\lO r=lO r':=by
 obtain⟨j,hj,ej⟩:=List.getElem_of_mem hm
 have h1:rs[j]?=some r:=by rw[iA hj,ej]
 have h2:as[j]?=some as[j]:=iA Zo
 have h3:=wH h1 h2 hw hj
 obtain⟨v,hv⟩:=qA (kvs:=[]) (k:=lO r) (l:=iY wd rs as rs.length) (.inl (List.mem_map_of_mem h3))
 rcases kR hv with h4 | h4
 ·obtain⟨j',r',a',_,g1,g2,g3,g4,g5⟩:=wG h4
  rw[g5]at hv;exact⟨j',r',a',hv,g1,g2,g3,g4⟩
 ·cases h4
def Ad:Sp:=fun vs H Q _=>∃(ra:Addr) (wd:Str) (rs:List RX) (as:List Addr),vs=[.ref ra,.str wd]/\RxsAt H ra rs as/\rs.length<=100/\∀(p:Addr) (H':Hp),H p=none->H' p=some (.dK (aS [] (iY wd rs as rs.length)))->Same H H'->Q (.ref p) H'
theorem qX (D:DefAt K mg "by_numbers" fL ["rows","word"]):aG P w K mg base 1 "by_numbers" ["rows","word"] Ad:=by
 refine D.go gQ (fun vs H Q E h=>?_) (fun f cdv A outer s H vs Q E hr h=>?_)
 ·obtain⟨ra,wd,rs,as,rfl,_⟩:=h;rfl
 ·obtain⟨ra,wd,rs,as,rfl,RR,hl,q⟩:=h
  have hu1:=eG hr
  have le:=RR.len
  refine⟨_,(R.ae (R.ai (i:=2) gQ.nd R.du) (R.ae (R.bp PassesOwn.never rfl (R.bo (K:=K) (R.v 0)) (R.gn (i:=3) gQ.nd) (R.ah (R.ap (R.ao R.eq (R.ix (R.af (K:=K)) (R.v 3) R.ac) (R.v 1)) (R.ah (R.br (R.v 3) (R.cg (R.v 2) (R.ix (R.af (K:=K)) (R.v 3) R.ac) (R.cq hu1)))) R.aq))) (R.ah (R.al (R.v 2))))),?_⟩
  refine fun p hp=>?_
  have nr:p≠ra:=(aE RR.lst hp).symm
  dsimp only [aK];refine aY (fun σ' H'=>∃o3,σ'=[some (.ref ra),some (.str wd),some (.ref p),o3]/\H' p=some (.dK (aS [] (iY wd rs as rs.length)))/\Same H H') (fun nx hnx=>?_) ?_
  ·refine⟨ra,rfl,⟨_,SqL.of (aO RR.lst hp)⟩,dM (cU K ra (as.map V.ref)) (fun i σ' H'=>∃o3,σ'=[some (.ref ra),some (.str wd),some (.ref p),o3]/\H' p=some (.dK (aS [] (iY wd rs as i)))/\Same H H') (fun i σ' H' ⟨_,_,_,s'⟩=>SqL.of (s' _ _ RR.lst))
    ⟨_,rfl,aA,aF hp⟩ ?_ ?_⟩
   ·rintro i x σ' H1 hx ⟨o3,rfl,g1,s1⟩
    obtain⟨a,r,rfl,ha,hrr,hat⟩:=(RR.same s1).get hx
    obtain⟨xs,g,x0,x1,x2⟩:=eC hat
    have hi:=(Zgs.mp ha).1
    have ln:=wF wd rs as i
    have lm:=dH (iY wd rs as i) []
    dsimp only [aK];refine⟨_,SqT.of g,_,x0,?_⟩
    show if decide (bX r=wd)=true then _ else _
    refine bF (fun h=>?_) (fun h=>?_)
    ·have dp:DPut H1 p (Ii r) (.ref a) (aJ H1 p (.dK (bO (aS [] (iY wd rs as i)) (lO r) (.ref a)))):=by
      rw[Uh];exact DPut.k g1 (oK (m:=1000) (by simp at lm;omega) Zd)
     refine⟨_,SqT.of g,_,x1,p,_,rfl,dp,?_⟩
     ·refine⟨_,rfl,?_,cH hp s1⟩
      rw[aA,mV hrr ha];unfold kQ;rw[if_pos (of_decide_eq_true h),yH]
    ·refine⟨_,rfl,?_,s1⟩
     rw[mV hrr ha];unfold kQ;rw[if_neg (of_decide_eq_false h),List.append_nil];exact g1
   ·rintro σ' H1 ⟨o3,rfl,g1,s1⟩
    rw[bG,<- le]at g1;exact hnx _ _ ⟨o3,rfl,g1,s1⟩
  ·rintro σ' H1 ⟨o3,rfl,g1,s1⟩
   exact q p H1 hp g1 s1
theorem uK (T:Txt K mg) (cLdraw:aG P w K mg base 1 "_law_draw" ["_law_deck_here","_law_many"] bJ) (cLhead:aG P w K mg base 5 "_law_head" ["_law_deck_here","_law_menus_here"] oJ)
  (D:DefAt K mg "_law_some_head" dN ["_law_deck_here","_law_menus_here"]):aG P w K mg base 6 "_law_some_head" ["_law_deck_here","_law_menus_here"] oJ:=by
 refine D.go eJ (fun vs H Q E h=>?_) (fun f cdv A outer s H vs Q E hr h=>?_)
 ·obtain⟨d,b,lm,M,rfl,_⟩:=h;rfl
 ·obtain⟨d,b,lm,M,rfl,dk,hM,hd,hb,q⟩:=h
  have hLdraw:Room 1 _:=hr.mono Zd
  have hLhead:Room 5 _:=hr.mono Zd
  refine⟨_,(R.ae (R.ai (i:=2) eJ.nd (R.av R.ad)) (R.ae (R.ap (R.ao R.eq (R.fn cLdraw hLdraw rfl (R.aa (R.v 0) (R.aa R.ac R.ad))) R.ac) (R.ah (R.ai (i:=2) eJ.nd (R.fn cLhead hLhead rfl (R.aa (R.v 0) (R.aa (R.v 1) R.ad))))) R.aq) (R.ah (R.al (R.v 2))))),?_⟩
  refine⟨dR rfl,fun p hp=>?_⟩
  have f1:=(Fw.refl dk).new (o:=.lst []) hp
  have g1:(aJ H p (.lst [])) p=some (.lst []):=aA
  dsimp only [aK];generalize aJ H p (.lst [])=H1 at f1 g1;refine⟨d,b,2,rfl,f1.dk,Zd,Zd,fun r H2 r0 r1 D2 k2=>?_⟩
  have f2:=f1.draw D2 k2
  have F2:=(Fw.refl f1.dk).draw D2 k2
  refine bF (fun _=>?_) (fun _=>?_)
  ·refine⟨d,b,lm,M,rfl,D2,f2.menus hd hb hM,hd,hb,fun ra rs as H3 fr R hk f3=>?_⟩
   exact q ra rs as H3 (f2.free fr) R hk (f2.trans f3)
  ·have pd:=dk.ne hp
   exact q p [] [] H2 hp (.nil (F2.get g1 pd.1 pd.2)) ⟨.nil,(fun _ h=>nomatch h),(fun _ h=>nomatch h),Nat.zero_le _,(fun _ _ h=>nomatch h)⟩ f2
end
end KL
namespace KL
open PySem L2
section
variable {P:Program} {w:World} {K:W.Frag} {mg:Str->Option Value} {base:Heap}
theorem dD {rs:List RX} (h:RX.Whole rs) {n t t':Nat} {p k p' k':Str} {x x':Dd} (h1:.came n t p k x∈rs) (h2:.came n t' p' k' x'∈rs):RX.came n t p k x=.came n t' p' k' x':=by
 induction h with
 | nil=>cases h1
 | snoc hw hf ih=>
  rcases aH h1 with h1 | h1
  ·rcases aH h2 with h2 | h2
   ·exact ih h1 h2
   ·rw[<- h2]at hf;exact absurd (hf.1 _ _ _ _ _ h1) (Nat.lt_irrefl _)
  ·rcases aH h2 with h2 | h2
   ·rw[<- h1]at hf;exact absurd (hf.1 _ _ _ _ _ h2) (Nat.lt_irrefl _)
   ·rw[h1,h2]
theorem hV {rs:List RX} (h:RX.Whole rs) {n t:Nat} {y:An} (h1:.done n t y∈rs):∃t0 p k x,RX.came n t0 p k x∈rs/\An.Of x y:=by
 induction h with
 | nil=>cases h1
 | snoc hw hf ih=>
  rcases aH h1 with h1 | h1
  ·obtain⟨t0,p,k,x,h2,h3⟩:=ih h1;exact⟨t0,p,k,x,List.mem_append_left _ h2,h3⟩
  ·rw[<- h1]at hf;obtain⟨_,_,t0,p,k,x,h2,h3,_⟩:=hf
   exact⟨t0,p,k,x,List.mem_append_left _ h2,h3⟩
theorem Ae {r:RX} (h:bX r="came"):∃n t p k x,r=.came n t p k x:=by
 cases r with
 | came n t p k x=>exact⟨n,t,p,k,x,rfl⟩
 | has z m=>exact absurd (show("has":Str)="came" from h) Zk
 | next n t=>exact absurd (show("next":Str)="came" from h) Zk
 | kept n t p k x y=>exact absurd (show("kept":Str)="came" from h) Zk
 | asked n=>exact absurd (show("asked":Str)="came" from h) Zk
 | done n t y=>exact absurd (show("done":Str)="came" from h) Zk
theorem lP {r:RX} (h:bX r="done"):∃n t y,r=.done n t y:=by
 cases r with
 | done n t y=>exact⟨n,t,y,rfl⟩
 | has z m=>exact absurd (show("has":Str)="done" from h) Zk
 | next n t=>exact absurd (show("next":Str)="done" from h) Zk
 | kept n t p k x y=>exact absurd (show("kept":Str)="done" from h) Zk
 | asked n=>exact absurd (show("asked":Str)="done" from h) Zk
 | came n t p k x=>exact absurd (show("came":Str)="done" from h) Zk
theorem jS (rs:List RX) (r:RX) (h:bX r≠"has"):dG (rs++[r])=dG rs:=by
 unfold dG;rw[List.foldl_append];cases r <;> first | rfl | exact absurd rfl h
structure RepF (rs:List RX) (F:Nat->Str->Nat) (f:Str->Nat):Prop where
 z:F 0=dG rs
 done:∀i n t y,rs[i]?=some (.done n t y)->∃t0 p k x q,.came n t0 p k x∈rs/\gT (F i) x q y/\F (i+1)=after (F i) x y
 rest:∀i r,rs[i]?=some r->bX r≠"done"->F (i+1)=F i
 last:F rs.length=f
theorem hW {α:Type} {xs:List α} {x y:α} {i:Nat} (h:(xs++[x])[i]?=some y):(i<xs.length/\xs[i]?=some y)∨(i=xs.length/\y=x):=by
 rcases Nat.lt_or_ge i xs.length with z | z
 ·rw[List.getElem?_append_left z]at h;exact .inl ⟨z,h⟩
 ·rw[List.getElem?_append_right z]at h;have hi:=(Zgs.mp h).1
  have:i=xs.length:=by simp at hi;omega
  subst this;rw[Nat.sub_self]at h;cases h
  exact .inr ⟨rfl,rfl⟩
theorem De {rs:List RX} {f:Str->Nat} (h:jE rs f):∃F,RepF rs F f:=by
 induction h with
 | head h=>exact⟨fun _=>dG _,rfl,fun i n t y e=>absurd (h.rk _ (gX e)) (by show ¬ (3<=2);decide),fun _ _ _ _=>rfl,rfl⟩
 | @came rs f n t p k x hl ih=>
  obtain⟨F,hF⟩:=ih
  refine⟨fun i=>if i<=rs.length then F i else f,?_,fun i n' t' y' e=>?_,fun i r e hr=>?_,?_⟩
  ·show(if 0<=rs.length then F 0 else f)=_
   rw[if_pos (Nat.zero_le _),hF.z,jS rs (.came n t p k x) (show("came":Str)≠"has" by decide +kernel)]
  ·rcases hW e with⟨hi,e⟩ | ⟨_,e⟩
   ·obtain⟨t0,p0,k0,x0,q,h1,h2,h3⟩:=hF.done i n' t' y' e
    refine⟨t0,p0,k0,x0,q,List.mem_append_left _ h1,?_,?_⟩
    ·rw[if_pos (Nat.le_of_lt hi)];exact h2
    ·rw[if_pos (Nat.le_of_lt hi),if_pos Zo];exact h3
   ·cases e
  ·rcases hW e with⟨hi,e⟩ | ⟨hi,e⟩
   ·rw[if_pos (Nat.le_of_lt hi),if_pos Zo];exact hF.rest i r e hr
   ·subst hi;rw[if_neg Zo,if_pos (bM _),hF.last]
  ·show(if (rs++[_]).length<=rs.length then _ else f)=f
   rw[if_neg Zs]
 | @asked rs f n hl ih=>
  obtain⟨F,hF⟩:=ih
  refine⟨fun i=>if i<=rs.length then F i else f,?_,fun i n' t' y' e=>?_,fun i r e hr=>?_,?_⟩
  ·show(if 0<=rs.length then F 0 else f)=_
   rw[if_pos (Nat.zero_le _),hF.z,jS rs (.asked n) (show("asked":Str)≠"has" by decide +kernel)]
  ·rcases hW e with⟨hi,e⟩ | ⟨_,e⟩
   ·obtain⟨t0,p0,k0,x0,q,h1,h2,h3⟩:=hF.done i n' t' y' e
    refine⟨t0,p0,k0,x0,q,List.mem_append_left _ h1,?_,?_⟩
    ·rw[if_pos (Nat.le_of_lt hi)];exact h2
    ·rw[if_pos (Nat.le_of_lt hi),if_pos Zo];exact h3
   ·cases e
  ·rcases hW e with⟨hi,e⟩ | ⟨hi,e⟩
   ·rw[if_pos (Nat.le_of_lt hi),if_pos Zo];exact hF.rest i r e hr
   ·subst hi;rw[if_neg Zo,if_pos (bM _),hF.last]
  ·show(if (rs++[_]).length<=rs.length then _ else f)=f
   rw[if_neg Zs]
 | @done rs f n t t0 p k x q y hl hc hy ih=>
  obtain⟨F,hF⟩:=ih
  refine⟨fun i=>if i<=rs.length then F i else after f x y,?_,fun i n' t' y' e=>?_,fun i r e hr=>?_,?_⟩
  ·show(if 0<=rs.length then F 0 else _)=_
   rw[if_pos (Nat.zero_le _),hF.z,jS rs (.done n t y) (show("done":Str)≠"has" by decide +kernel)]
  ·rcases hW e with⟨hi,e⟩ | ⟨hi,e⟩
   ·obtain⟨t0,p0,k0,x0,q,h1,h2,h3⟩:=hF.done i n' t' y' e
    refine⟨t0,p0,k0,x0,q,List.mem_append_left _ h1,?_,?_⟩
    ·rw[if_pos (Nat.le_of_lt hi)];exact h2
    ·rw[if_pos (Nat.le_of_lt hi),if_pos Zo];exact h3
   ·injection e with e1 e2 e3
    subst e1 e2 e3 hi;refine⟨t0,p,k,x,q,List.mem_append_left _ hc,?_,?_⟩
    ·rw[if_pos (bM _),hF.last];exact hy
    ·rw[if_neg Zo,if_pos (bM _),hF.last]
  ·rcases hW e with⟨hi,e⟩ | ⟨hi,e⟩
   ·rw[if_pos (Nat.le_of_lt hi),if_pos Zo];exact hF.rest i r e hr
   ·subst e;exact absurd rfl hr
  ·show(if (rs++[_]).length<=rs.length then _ else after f x y)=_
   rw[if_neg Zs]
theorem RepF.le {rs:List RX} {F:Nat->Str->Nat} {f:Str->Nat} (h:RepF rs F f) (ok:∀r∈rs,r.Ok):∀i,i<=rs.length->∀z,F i z<=1000000000000
 | 0,_,z=>by rw[h.z];exact rX ok z
 | i+1,hi,z=>by
  have ih:=h.le ok i Zo
  obtain⟨r,hr⟩:∃r,rs[i]?=some r:=⟨rs[i],iA Zo⟩
  by_cases e:bX r="done"
  ·obtain⟨n,t,y,rfl⟩:=lP e
   obtain⟨t0,p,k,x,q,_,h2,h3⟩:=h.done i n t y hr
   rw[h3];exact lN ih h2 z
  ·rw[h.rest i r hr e];exact ih z
def Io:RX->Bool | .done _ _ _=>true | _=>false
def aAa:RX->Bool | .came _ _ _ _ _=>true | _=>false
def nP:RX->Bool | .has _ _=>true | _=>false
def gN (rs:List RX):List Nat:=rs.filterMap fun r=>match r with | .done n _ _=>some n | _=>none
def Af (rs:List RX):List Nat:=rs.filterMap fun r=>match r with | .came n _ _ _ _=>some n | _=>none
theorem rZ {rs:List RX} {n:Nat} (h:n∈gN rs):∃t y,.done n t y∈rs:=by
 obtain⟨r,hr,e⟩:=List.mem_filterMap.mp h
 cases r <;> cases e
 exact⟨_,_,hr⟩
theorem Dg {rs:List RX} {n t:Nat} {p k:Str} {x:Dd} (h:.came n t p k x∈rs):n∈Af rs:=List.mem_filterMap.mpr ⟨_,h,rfl⟩
theorem Ip {rs:List RX} (h:RX.Whole rs):(gN rs).Nodup:=by
 induction h with
 | nil=>exact List.nodup_nil
 | @snoc rs r hw hf ih=>
  unfold gN at ih ⊢
  rw[List.filterMap_append];cases r with
  | done n t y=>
   refine List.nodup_append.mpr ⟨ih,Zs,fun a ha b hb=>?_⟩
   have hb':b=n:=by simpa using hb
   subst hb';rintro rfl
   obtain⟨t',y',hm⟩:=rZ ha
   exact hf.2.1 _ _ hm
  | _=>simpa using ih
theorem Ui {xs:List Nat}:∀ {ys:List Nat},xs.Nodup->(∀x∈xs,x∈ys)->xs.length<=ys.length:=by
 induction xs with
 | nil=>exact fun _ _=>Nat.zero_le _
 | cons x r ih=>
  intro ys hn h;obtain⟨h1,h2⟩:=List.nodup_cons.mp hn
  have hx:=h x kG
  have:=ih (ys:=ys.erase x) h2 fun y hy=>(List.mem_erase_of_ne (fun e=>h1 (by rw[<- e];exact hy))).mpr (h y (nY _ hy))
  rw[List.length_erase_of_mem hx]at this;have hp:0<ys.length:=List.length_pos_of_mem hx
  rw[uR];omega
theorem wI (rs:List RX):(dJ rs).length+(gN rs).length+(Af rs).length<=rs.length:=by
 induction rs with
 | nil=>exact bM _
 | cons r rs ih=>
  unfold dJ gN Af at ih ⊢
  cases r <;> simp only [List.filterMap_cons,uR] <;> omega
theorem Dh {rs:List RX} (h:RX.Whole rs):(dJ rs).length+2*(gN rs).length<=rs.length:=by
 have h1:=wI rs
 have h2:=Ui (Ip h) (ys:=Af rs) fun n hn=>by
  obtain⟨t,y,hm⟩:=rZ hn
  obtain⟨t0,p,k,x,hc,_⟩:=hV h hm
  exact Dg hc
 omega
theorem yI (rs:List RX) (i:Nat):(gN (rs.take i)).length<=(gN rs).length:=by
 unfold gN;exact((List.take_sublist i rs).filterMap _).length_le
def lQ:Dd->List (Str × Int)
 | .add a n=>[(a,(n:Int))]
 | .take a n=>[(a,-(n:Int))]
 | .move a b n=>[(a,-(n:Int)),(b,(n:Int))]
 | .send _ a n=>[(a,-(n:Int))]
 | .fetch _ a n=>[(a,(n:Int))]
 | .pass _ _ _ _=>[]
theorem Iq {x:Dd} {y:An} (hy:An.Of x y) (h:jR y="is"):rW x y=lQ x:=by
 rcases pT h with⟨m,rfl⟩ | ⟨l,m,rfl⟩ <;> cases x <;> first | rfl | exact hy.elim
theorem Uj {x:Dd} {y:An} (h:jR y≠"is"):rW x y=[]:=by cases x <;> cases y <;> first | rfl | exact absurd rfl h
def Ag:Sp:=fun vs H Q _=>∃(t:Addr) (x:Dd),vs=[.ref t]/\H t=some (.tup x.vs)/\∀(tp:Addr) (zs:List Z) (H':Hp),Same H H'->H' tp=some (.tup (fA zs))->Ck H' zs->zs.map (·.2)=lQ x->Q (.ref tp) H'
theorem nV (T:Txt K mg) (D:DefAt K mg "done_changes" cV ["deed"]):aG P w K mg base 1 "done_changes" ["deed"] Ag:=by
 refine D.go jD (fun vs H Q E h=>?_) (fun f cdv A outer s H vs Q E hr h=>?_)
 ·obtain⟨t,x,rfl,_⟩:=h;rfl
 ·obtain⟨p,x,rfl,hp,q⟩:=h
  refine⟨_,(R.ae (R.ap (R.ao R.eq (R.ix (R.af (K:=K)) (R.v 0) R.ac) R.ag) (R.ah (R.al (R.ak R.ad))) R.aq) (R.ae (R.ap (R.ao R.eq (R.ix (R.af (K:=K)) (R.v 0) R.ac) R.ag) (R.ah (R.al (R.ak (R.aa (R.ak (R.aa (R.ix (R.af (K:=K)) (R.v 0) R.ac) (R.aa (R.ax (R.ix (R.af (K:=K)) (R.v 0) (R.ax R.ac))) R.ad))) (R.aa (R.ak (R.aa (R.ix (R.af (K:=K)) (R.v 0) R.ac) (R.aa (R.ix (R.af (K:=K)) (R.v 0) (R.ax R.ac)) R.ad))) R.ad))))) R.aq) (R.ae (R.ap (R.ao (R.be (K:=K)) (R.ix (R.af (K:=K)) (R.v 0) R.ac) (R.ak (R.aa R.ag (R.aa R.ag R.ad)))) (R.ah (R.al (R.ak (R.aa (R.ak (R.aa (R.ix (R.af (K:=K)) (R.v 0) (R.ax R.ac)) (R.aa (R.ax (R.ix (R.af (K:=K)) (R.v 0) (R.ax R.ac))) R.ad))) R.ad)))) R.aq) (R.ah (R.al (R.ak (R.aa (R.ak (R.aa (R.ix (R.af (K:=K)) (R.v 0) (R.ax R.ac)) (R.aa (R.ix (R.af (K:=K)) (R.v 0) (R.ax R.ac)) R.ad))) R.ad))))))),?_⟩
  have z1:∀ {H':Hp} {a:Addr} {x:Str} {i:Int},H' a=some (.tup [.str x,.int i])->Ck H' [(a,x,i)]:=fun h z hz=>by
   rw[Zms.mp hz];exact h
  cases x with
  | add a n=>
   refine⟨_,SqT.of hp,_,rfl,_,SqT.of hp,_,rfl,_,SqT.of hp,_,rfl,aN rfl,fun p1 H1 s1 g1=>⟨p1,_,rfl,.inr (SqT.of g1),rfl,rfl,?_⟩⟩
   exact⟨_,SqT.of (s1 _ _ hp),_,rfl,_,SqT.of (s1 _ _ hp),_,rfl,aN rfl,fun p2 H2 s2 g2=>⟨aN rfl,fun p3 H3 s3 g3=>q p3 [(p2,a,(n:Int))] H3 ((s1.trans s2).trans s3) g3 (z1 (s3 _ _ g2)) rfl⟩⟩
  | take a n=>
   refine⟨_,SqT.of hp,_,rfl,_,SqT.of hp,_,rfl,_,SqT.of hp,_,rfl,aN rfl,fun p1 H1 s1 g1=>⟨p1,_,rfl,.inr (SqT.of g1),rfl,rfl,?_⟩⟩
   exact⟨_,SqT.of (s1 _ _ hp),_,rfl,_,SqT.of (s1 _ _ hp),_,rfl,aN rfl,fun p2 H2 s2 g2=>⟨aN rfl,fun p3 H3 s3 g3=>q p3 [(p2,a,-(n:Int))] H3 ((s1.trans s2).trans s3) g3 (z1 (s3 _ _ g2)) rfl⟩⟩
  | send h a n=>
   refine⟨_,SqT.of hp,_,rfl,_,SqT.of hp,_,rfl,_,SqT.of hp,_,rfl,aN rfl,fun p1 H1 s1 g1=>⟨p1,_,rfl,.inr (SqT.of g1),rfl,rfl,?_⟩⟩
   exact⟨_,SqT.of (s1 _ _ hp),_,rfl,_,SqT.of (s1 _ _ hp),_,rfl,aN rfl,fun p2 H2 s2 g2=>⟨aN rfl,fun p3 H3 s3 g3=>q p3 [(p2,a,-(n:Int))] H3 ((s1.trans s2).trans s3) g3 (z1 (s3 _ _ g2)) rfl⟩⟩
  | fetch h a n=>
   refine⟨_,SqT.of hp,_,rfl,_,SqT.of hp,_,rfl,_,SqT.of hp,_,rfl,aN rfl,fun p1 H1 s1 g1=>⟨p1,_,rfl,.inr (SqT.of g1),rfl,rfl,?_⟩⟩
   exact⟨_,SqT.of (s1 _ _ hp),_,rfl,_,SqT.of (s1 _ _ hp),_,rfl,aN rfl,fun p2 H2 s2 g2=>⟨aN rfl,fun p3 H3 s3 g3=>q p3 [(p2,a,(n:Int))] H3 ((s1.trans s2).trans s3) g3 (z1 (s3 _ _ g2)) rfl⟩⟩
  | move a b n=>
   refine⟨_,SqT.of hp,_,rfl,_,SqT.of hp,_,rfl,_,SqT.of hp,_,rfl,_,SqT.of hp,_,rfl,aN rfl,fun p2 H2 s2 g2=>⟨_,SqT.of (s2 _ _ hp),_,rfl,_,SqT.of (s2 _ _ hp),_,rfl,aN rfl,fun p3 H3 s3 g3=>⟨aN rfl,fun p4 H4 s4 g4=>?_⟩⟩⟩
   refine q p4 [(p2,a,-(n:Int)),(p3,b,(n:Int))] H4 ((s2.trans s3).trans s4) g4 (fun z hz=>?_) rfl
   rcases List.mem_cons.mp hz with rfl | hz
   ·exact s4 _ _ (s3 _ _ g2)
   ·rw[Zms.mp hz];exact s4 _ _ g3
  | pass h g a n=>
   refine⟨_,SqT.of hp,_,rfl,?_⟩
   exact⟨aN rfl,fun p1 H1 s1 g1=>q p1 [] H1 s1 g1 (fun _ h=>nomatch h) rfl⟩
def Px:Sp:=fun vs H Q _=>∃(t c:Addr) (x:Dd) (y:An),vs=[.ref t,.ref c]/\H t=some (.tup x.vs)/\H c=some (.tup y.vs)/\An.Of x y/\∀(tp:Addr) (zs:List Z) (H':Hp),Same H H'->H' tp=some (.tup (fA zs))->Ck H' zs->zs.map (·.2)=rW x y->Q (.ref tp) H'
theorem qY (T:Txt K mg) (c_done_changes:aG P w K mg base 1 "done_changes" ["deed"] Ag) (D:DefAt K mg "changes_of" fJ ["deed","answer"]):aG P w K mg base 2 "changes_of" ["deed","answer"] Px:=by
 refine D.go qT (fun vs H Q E h=>?_) (fun f cdv A outer s H vs Q E hr h=>?_)
 ·obtain⟨t,c,x,y,rfl,_⟩:=h;rfl
 ·obtain⟨t,c,x,y,rfl,gt,gc,hy,q⟩:=h
  have hr_done_changes:=hr
  refine⟨_,(R.ae (R.ap (R.ao R.ne (R.ix (R.af (K:=K)) (R.v 1) R.ac) R.ag) (R.ah (R.al (R.ak R.ad))) R.aq) (R.ah (R.al (R.fn c_done_changes hr_done_changes rfl (R.aa (R.v 0) R.ad))))),?_⟩
  refine⟨_,SqT.of gc,_,pS y,?_⟩
  show if (!decide (jR y="is"))=true then _ else _
  by_cases hw:jR y="is"
  ·refine tO (by rw[decide_eq_true hw];rfl) ?_
   exact⟨t,x,rfl,gt,fun tp zs H' s' g z e=>q tp zs H' s' g z (by rw[e,Iq hy hw])⟩
  ·refine Cg (by rw[decide_eq_false hw];rfl) ?_
   exact⟨aN rfl,fun p1 H1 s1 g1=>q p1 [] H1 s1 g1 (fun _ h=>nomatch h) (by rw[Uj hw];rfl)⟩
end
end KL
namespace KL
open PySem L2
section
variable {P:Program} {w:World} {K:W.Frag} {mg:Str->Option Value} {base:Heap}
theorem Ir {C:Addr} (T:Txt K mg) (B:To K C) (D:ClsAt K mg "Book" C "Book.__init__" bY ["self","rows"] [[],[.non]]):∀d∈([[],[.non]]:List (List V)),Tn P w K mg base 1 "Book" C ["self","rows"] d (zT C):=by
 refine D.go mQ (fun vs H Q E h=>?_) (fun f cdv A outer s H vs Q E hr h=>?_)
 ·obtain⟨p,dx,r,prs,rfl,_⟩:=h;rfl
 ·obtain⟨p,dx,r,prs,rfl,hp,hR,nd,hz,q⟩:=h
  refine⟨_,(R.ae (R.cx (K:=K) (R.v 0) R.du) (R.ah (R.ap (R.ao R.fj (R.v 1) R.bh) (R.ah (R.cx (K:=K) (R.v 0) (R.bj (R.dq (K:=K) rfl) rfl T.b_dict iC (R.aa (R.v 1) R.ad)))) R.aq))),?_⟩
  intro d1 hd1;have np:=aE hp hd1
  refine⟨C,dx,[],(by rw[aD np];exact hp),B.cl,B.nA,(by show 0<1000;decide),?_⟩
  have g1:(aJ (aJ H d1 (.dK [])) p (.ins C dx [("amounts",.ref d1)])) p=some (.ins C dx [("amounts",.ref d1)]):=aA
  have g2:(aJ (aJ H d1 (.dK [])) p (.ins C dx [("amounts",.ref d1)])) d1=some (.dK []):=by rw[aD np.symm];exact aA
  have k1:∀b o,H b=some o->b≠p->(aJ (aJ H d1 (.dK [])) p (.ins C dx [("amounts",.ref d1)])) b=some o:=fun b o e hb=>by rw[aD hb,aD (aE e hd1)];exact e
  dsimp only;rw[Zx];generalize aJ (aJ H d1 (.dK [])) p (.ins C dx [("amounts",.ref d1)])=H1 at g1 g2 k1;rcases hR with⟨rfl,rfl⟩ | ⟨l,zs,rfl,hl,hza,rfl⟩
  ·exact q H1 d1 hd1 g1 g2 k1
  ·have nl:l≠p:=eY hl hp (fun z=>nomatch z)
   have hza1:Ck H1 zs:=fun z hz=>k1 _ _ (hza z hz) (eY (hza z hz) hp (fun z=>nomatch z))
   refine⟨wz zs,by rw[Tq];exact SqL.of (k1 _ _ hl nl),Xk hza1,by unfold wz;rw[bG];simpa using hz,fun d hd=>?_⟩
   have hd0:H d=none:=by
    cases e:H d with
    | none=>rfl
    | some o=>
     by_cases z:d=p
     ·rw[z,g1]at hd;cases hd
     ·rw[k1 d o e z]at hd;cases hd
   rw[Tr,rR nd];refine⟨C,dx,_,(by rw[aD (aE g1 hd)];exact g1),B.cl,B.nA,(by show 1<1000;decide),?_⟩
   refine q _ d hd0 (by rw[aA,put1]) (by rw[aD (aE g1 hd).symm];exact aA) fun b o e hb=>?_
   rw[aD hb,aD (aE (k1 b o e hb) hd)];exact k1 b o e hb
theorem uL {C:Addr} (B:To K C) (D:MethAt K C "amount" "Book.amount" eQ ["self","name"]):rP P w K mg base 1 C "amount" ["self","name"] (iE C):=by
 refine D.go pL (fun vs H Q E h=>?_) (fun f cdv A outer s H vs Q E hr h=>?_)
 ·obtain⟨p,n,prs,rfl,_⟩:=h;rfl
 ·obtain⟨p,n,prs,rfl,bk,q⟩:=h
  have hu1:=eG hr
  obtain⟨dx,d,h1,h2⟩:=bk.ex
  refine⟨_,(R.ah (R.al (R.dm hu1 (R.ba (K:=K) (R.v 0)) (R.v 1) R.ac))),?_⟩
  refine⟨C,dx,_,.ref d,h1,B.cl,B.nA,nN _,d,rfl,.inl ⟨_,.inl h2⟩,_,DGet.k (k:=Sum.inr n) h2,?_⟩
  rw[oC];exact q
def mW (prs:List (Str × Int)) (n:Str) (v:Int):List (Str × Int):=if n∈prs.map (·.1) then Hj prs n v else prs++[(n,v)]
def nW:List (Str × Int)->List (Str × Int)->List (Str × Int)
 | prs,[]=>prs
 | prs,q::r=>nW (mW prs q.1 (dE prs q.1+q.2)) r
theorem sA:∀(cs prs:List (Str × Int)) (q:Str × Int),nW prs (cs++[q])=mW (nW prs cs) q.1 (dE (nW prs cs) q.1+q.2)
 | [],_,_=>rfl
 | p::r,prs,q=>sA r _ q
theorem wJ {prs:List (Str × Int)} {n:Str} {v:Int}:bO (lW prs) (Sum.inr n) (.int v)=lW (mW prs n v):=by
 unfold mW;by_cases h:n∈prs.map (·.1)
 ·rw[if_pos h];exact Mr h
 ·rw[if_neg h];have hv:bE (lW prs) (Sum.inr n)=none:=by
   cases e:bE (lW prs) (Sum.inr n) with
   | none=>rfl
   | some x=>
    have:=Lo e
    rw[vL]at this;obtain⟨m,hm,e2⟩:=Zmm.mp this
    cases e2
    exact absurd hm h
  rw[vB _ hv];unfold lW;rw[jF];rfl
theorem sC {prs:List (Str × Int)} {n:Str} {v:Int}:(mW prs n v).map (·.1)=if n∈prs.map (·.1) then prs.map (·.1) else prs.map (·.1)++[n]:=by
 unfold mW;by_cases h:n∈prs.map (·.1)
 ·rw[if_pos h,if_pos h];exact Co _ _ _
 ·rw[if_neg h,if_neg h,jF];rfl
theorem Nq {prs:List (Str × Int)} {n:Str} {v:Int} (h:(prs.map (·.1)).Nodup):((mW prs n v).map (·.1)).Nodup:=by
 rw[sC];split
 ·exact h
 ·rename_i hn;exact zF h hn
theorem uM:∀(cs prs:List (Str × Int)),(prs.map (·.1)).Nodup->((nW prs cs).map (·.1)).Nodup
 | [],_,h=>h
 | _::r,_,h=>uM r _ (Nq h)
def Py (prs:List (Str × Int)) (q:Str × Int):Prop:=0<=dE prs q.1+q.2/\dE prs q.1+q.2<=1000000000000
theorem Ah {H:Hp} {zs:List Z} {i:Nat} {x:V} (hz:Ck H zs) (hx:(fA zs)[i]?=some x):∃z,zs[i]?=some z/\x=.ref z.1/\H z.1=some (.tup [.str z.2.1,.int z.2.2]):=by
 unfold fA at hx;rw[kE]at hx;obtain⟨z,hn,rfl⟩:=Option.map_eq_some_iff.mp hx
 exact⟨z,hn,rfl,hz z (gX hn)⟩
theorem qB:∀(cs prs:List (Str × Int)),(nW prs cs).length<=prs.length+cs.length
 | [],prs=>bM _
 | q::r,prs=>by
  have h:=qB r (mW prs q.1 (dE prs q.1+q.2))
  have h2:(mW prs q.1 (dE prs q.1+q.2)).length<=prs.length+1:=by
   have:=congrArg List.length (sC (prs:=prs) (n:=q.1) (v:=dE prs q.1+q.2))
   rw[bG]at this;rw[this];split <;> simp
  show(nW (mW prs q.1 (dE prs q.1+q.2)) r).length<=_
  rw[uR];omega
def sD (C:Addr):Sp:=fun vs H Q E=>∃(p dx d t:Addr) (prs:List (Str × Int)) (zs:List Z),vs=[.ref p,.ref t]/\H p=some (.ins C dx [("amounts",.ref d)])/\H d=some (.dK (lW prs))/\(prs.map (·.1)).Nodup/\H t=some (.tup (fA zs))/\Ck H zs/\prs.length+zs.length<=100 ∧
 (∀q∈zs.map (·.2),Py prs q)/\∀H',H' d=some (.dK (lW (nW prs (zs.map (·.2)))))->(∀b o,H b=some o->b≠d->H' b=some o)->Q .non H'
theorem yJ {C:Addr} (T:Txt K mg) (B:To K C) (c_Book_amount:rP P w K mg base 1 C "amount" ["self","name"] (iE C)) (D:MethAt K C "change" "Book.change" eR ["self","changes"]):rP P w K mg base 2 C "change" ["self","changes"] (sD C):=by
 refine D.go cW (fun vs H Q E h=>?_) (fun f cdv A outer s H vs Q E hr h=>?_)
 ·obtain⟨p,dx,d,t,prs,zs,rfl,_⟩:=h;rfl
 ·obtain⟨p,dx,d,t,prs,zs,rfl,hp,hd,nd,ht,hz,hl,hg,Q0⟩:=h
  have hr_Book_amount:=hr
  have hu1:=eG hr
  have hlz:(fA zs).length=zs.length:=by unfold fA;rw[bG]
  refine⟨_,(R.ae (R.bp PassesOwn.never rfl (R.fh (K:=K) (R.v 1)) (R.de (K:=K) (n:=2) rfl (R.bb (R.gn (i:=2) cW.nd) (R.bb (R.gn (i:=3) cW.nd) R.df))) (R.ah (R.ap (R.db (R.ik R.le R.le R.ac (R.op R.au (R.cn c_Book_amount hr_Book_amount (R.v 0) (R.aa (R.v 2) R.ad)) (R.v 3)) (R.gI rfl T.g_MOST))) (R.ah R.fu) R.aq))) (R.ah (R.bp PassesOwn.never rfl (R.fh (K:=K) (R.v 1)) (R.de (K:=K) (n:=2) rfl (R.bb (R.gn (i:=2) cW.nd) (R.bb (R.gn (i:=3) cW.nd) R.df))) (R.ah (R.br (R.op R.au (R.cn c_Book_amount hr_Book_amount (R.v 0) (R.aa (R.v 2) R.ad)) (R.v 3)) (R.cg (R.ba (K:=K) (R.v 0)) (R.v 2) (R.cq hu1))))))),?_⟩
  refine aY (fun σ' H'=>H'=H/\∃o2 o3,σ'=[some (.ref p),some (.ref t),o2,o3]) (fun nx hnx=>?_) ?_
  ·refine⟨t,rfl,⟨_,SqT.of ht⟩,dM (lA K t (fA zs)) (fun i σ H'=>H'=H/\∃o2 o3,σ=[some (.ref p),some (.ref t),o2,o3]) (fun i σ H' ⟨e,_⟩=>by rw[e];exact SqT.of ht) ⟨rfl,_,_,rfl⟩ ?_ (fun σ H' h=>hnx σ H' h)⟩
   rintro i x σ H' hx ⟨rfl,o2,o3,rfl⟩
   obtain⟨z,hn,rfl,gz⟩:=Ah hz hx
   have hgz:=hg z.2 (List.mem_map_of_mem (gX hn))
   refine⟨z.1,_,rfl,SqT.of gz,rfl,_,_,rfl,_,_,rfl,rfl,dx,_,hp,pF _ Zk,p,z.2.1,prs,rfl,⟨⟨dx,d,hp,hd⟩,nd⟩,?_⟩
   refine Cg (decide_eq_true hgz.1) ?_
   show if (!decide (dE prs z.2.1+z.2.2<=1000000000000))=true then _ else _
   refine tO (by rw[decide_eq_true hgz.2];rfl) ?_
   exact⟨rfl,_,_,rfl⟩
  ·rintro σ H' ⟨rfl,o2,o3,rfl⟩
   have ntd:t≠d:=eY ht hd (fun z=>nomatch z)
   refine⟨t,rfl,⟨_,SqT.of ht⟩,dM (lA K t (fA zs)) (fun i σ H''=>H'' d=some (.dK (lW (nW prs ((zs.map (·.2)).take i))))/\(∀b o,H' b=some o->b≠d->H'' b=some o)/\∃o2 o3,σ=[some (.ref p),some (.ref t),o2,o3]) (fun i σ H'' ⟨_,k,_⟩=>SqT.of (k _ _ ht ntd)) ⟨hd,fun b o e _=>e,_,_,rfl⟩ ?_ ?_⟩
   ·rintro i x σ H'' hx ⟨g,k,o2,o3,rfl⟩
    obtain⟨z,hn,rfl,gz⟩:=Ah (fun z m=>k _ _ (hz z m) (eY (hz z m) hd (fun z=>nomatch z))) hx
    have hni:(zs.map (·.2))[i]?=some z.2:=by rw[kE,hn];rfl
    have hp':=k _ _ hp (eY hp hd (fun z=>nomatch z))
    have nd':=uM ((zs.map (·.2)).take i) prs nd
    have hle:=qB ((zs.map (·.2)).take i) prs
    have hle2:((zs.map (·.2)).take i).length<=zs.length:=by rw[nF,bG];exact Nat.min_le_right _ _
    refine⟨z.1,_,rfl,SqT.of gz,rfl,_,_,rfl,_,_,rfl,rfl,dx,_,hp',pF _ Zk,p,z.2.1,nW prs ((zs.map (·.2)).take i),rfl,⟨⟨dx,d,hp',g⟩,nd'⟩,?_⟩
    refine⟨C,dx,_,.ref d,hp',B.cl,B.nA,nN _,d,_,rfl,DPut.k (k:=Sum.inr z.2.1) g ?_,?_,fun b o e hb=>?_,_,_,rfl⟩
    ·unfold lW;rw[bG];exact oK (m:=1000) Zo Zd
    ·rw[aA,wJ,bP hni,sA]
    ·rw[aD hb];exact k b o e hb
   ·rintro σ H'' ⟨g,k,o2,o3,rfl⟩
    refine Q0 _ ?_ k
    rw[g,hlz,rA (by rw[bG];exact bM _)]
end
end KL
namespace KL
open PySem L2
section
variable {P:Program} {w:World} {K:W.Frag} {mg:Str->Option Value} {base:Heap}
def gU (rs:List RX):List (Str × Int):=rs.filterMap fun r=>match r with | .has z m=>some (z,(m:Int)) | _=>none
theorem mY:∀rs:List RX,dJ rs=lW (gU rs)
 | []=>rfl
 | r::rs=>by
  have ih:=mY rs
  unfold dJ gU lW at ih ⊢
  cases r <;> simp only [List.filterMap_cons,List.map_cons] <;> first | exact ih | rw[ih]
theorem Iu (rs:List RX):(gU rs).length=(dJ rs).length:=by rw[mY];unfold lW;rw[bG]
theorem Iv {rs:List RX} {z:Str} {m:Int} (h:(z,m)∈gU rs):∃m',.has z m'∈rs:=by
 obtain⟨r,hr,e⟩:=List.mem_filterMap.mp h
 cases r <;> cases e
 exact⟨_,hr⟩
theorem uN {rs:List RX} (h:RX.Whole rs):((gU rs).map (·.1)).Nodup:=by
 induction h with
 | nil=>exact List.nodup_nil
 | @snoc rs r hw hf ih=>
  have e:gU (rs++[r])=gU rs++gU [r]:=by unfold gU;rw[List.filterMap_append]
  rw[e,jF];cases r with
  | has z m=>
   refine List.nodup_append.mpr ⟨ih,by simp [gU],fun a ha b hb=>?_⟩
   have hb':b=z:=by simpa [gU]using hb
   subst hb';rintro rfl
   obtain⟨q,hq,rfl⟩:=Zmm.mp ha
   obtain⟨m',hm⟩:=Iv (z:=q.1) (m:=q.2) hq
   exact absurd (hf.2.2 _ _ hm) (List.lt_irrefl _)
  | _=>simpa [gU]using ih
theorem Iw {rs:List RX} (h:RX.Whole rs) (z:Str):dE (gU rs) z=(dG rs z:Int):=by
 have h1:=cD rs [] (fun _=>0) (fun _=>rfl) z
 rw[mY,rR (uN h),oC]at h1;injection h1
theorem Ix (prs:List (Str × Int)) (n m:Str) (v:Int):dE (mW prs n v) m=if m=n then v else dE prs m:=by
 have h1:=oC (mW prs n v) m
 rw[<- wJ,cP]at h1;by_cases e:m=n
 ·rw[if_pos (by rw[e])]at h1
  rw[if_pos e];injection h1 with h1
  exact h1.symm
 ·rw[if_neg (fun c=>e (by injection c)),oC]at h1
  rw[if_neg e];injection h1 with h1
  exact h1.symm
theorem wK:∀(cs:List (Str × Int)) (prs:List (Str × Int)) (g:Str->Nat),wE g cs->(∀z,dE prs z=(g z:Int))->∀z,dE (nW prs cs) z=(pU g cs z:Int)
 | [],prs,g,_,h=>h
 | c::cs,prs,g,hG,h=>by
  refine wK cs (mW prs c.1 (dE prs c.1+c.2)) (eL g c) hG.2 (fun z=>?_)
  rw[Ix,h];unfold eL eF;by_cases e:z=c.1
  ·rw[if_pos e,if_pos e,Int.toNat_of_nonneg hG.1]
  ·rw[if_neg e,if_neg e];exact h z
theorem Iy {f:Str->Nat} (hf:∀z,f z<=1000000000000) {x:Dd} {q:Bool} {y:An} (hx:x.Ok) (h:gT f x q y):∀c∈rW x y,0<=(f c.1:Int)+c.2/\(f c.1:Int)+c.2<=1000000000000:=by
 have hn:=hx.n
 rcases h with⟨rfl,h⟩ | ⟨rfl,h1,h2⟩
 ·cases x with
  | add a n=>
   have:=hf a
   simp only [aP]at h
   split at h <;> cases h
   ·exact fun c hc=>nomatch hc
   ·intro c hc;rw[Zms.mp hc];exact⟨by show(0:Int)<=(f a:Int)+(n:Int);omega,by show(f a:Int)+(n:Int)<=_;omega⟩
  | take a n=>
   have:=hf a
   simp only [aP]at h
   split at h <;> cases h
   ·exact fun c hc=>nomatch hc
   ·intro c hc;rw[Zms.mp hc];exact⟨by show(0:Int)<=(f a:Int)+-(n:Int);omega,by show(f a:Int)+-(n:Int)<=_;omega⟩
  | move a b n=>
   have:=hf a
   have:=hf b
   simp only [aP]at h
   split at h
   ·cases h;exact fun c hc=>nomatch hc
   ·split at h <;> cases h
    ·exact fun c hc=>nomatch hc
    ·intro c hc;rcases List.mem_cons.mp hc with rfl | hc
     ·exact⟨by show(0:Int)<=(f a:Int)+-(n:Int);omega,by show(f a:Int)+-(n:Int)<=_;omega⟩
     ·rw[Zms.mp hc];exact⟨by show(0:Int)<=(f b:Int)+(n:Int);omega,by show(f b:Int)+(n:Int)<=_;omega⟩
  | send g a n=>
   simp only [aP]at h
   split at h <;> cases h
   exact fun c hc=>nomatch hc
  | fetch g a n=>
   simp only [aP]at h
   split at h <;> cases h
   exact fun c hc=>nomatch hc
  | pass g k a n=>cases h
 ·cases x with
  | add a n=>cases h2
  | take a n=>cases h2
  | move a b n=>cases h2
  | send g a n=>
   have:=hf a
   simp only [aP]at h1
   simp only [bH,List.mem_cons,List.not_mem_nil,or_false]at h2
   have hh:¬ f a<n:=fun hh=>by rw[if_pos hh]at h1;cases h1
   rcases h2 with rfl | rfl
   ·exact fun c hc=>nomatch hc
   ·intro c hc;rw[Zms.mp hc];exact⟨by show(0:Int)<=(f a:Int)+-(n:Int);omega,by show(f a:Int)+-(n:Int)<=_;omega⟩
  | fetch g a n=>
   have:=hf a
   simp only [aP]at h1
   simp only [bH,List.mem_cons,List.not_mem_nil,or_false]at h2
   have hh:¬ 1000000000000<f a+n:=fun hh=>by rw[if_pos hh]at h1;cases h1
   rcases h2 with rfl | rfl
   ·exact fun c hc=>nomatch hc
   ·intro c hc;rw[Zms.mp hc];exact⟨by show(0:Int)<=(f a:Int)+(n:Int);omega,by show(f a:Int)+(n:Int)<=_;omega⟩
  | pass g k a n=>
   simp only [bH,List.mem_cons,List.not_mem_nil,or_false]at h2
   rcases h2 with rfl | rfl | rfl <;> exact fun c hc=>nomatch hc
def Ai (C:Addr):Sp:=fun vs H Q _=>∃(ra:Addr) (rs:List RX) (as:List Addr),vs=[.ref ra]/\RxsAt H ra rs as/\rs.length<=100/\RX.Whole rs ∧
 ∀(p dx d:Addr) (H':Hp),H p=none->H d=none->H' p=some (.ins C dx [("amounts",.ref d)])->H' d=some (.dK (lW (gU rs)))->Same H H'->Q (.ref p) H'
theorem qZ {C:Addr} (T:Txt K mg) (c_Book:Tn P w K mg base 1 "Book" C ["self","rows"] [] (zT C)) (D:DefAt K mg "first_book" dY ["rows"]):aG P w K mg base 3 "first_book" ["rows"] (Ai C):=by
 refine D.go qW (fun vs H Q E h=>?_) (fun f cdv A outer s H vs Q E hr h=>?_)
 ·obtain⟨ra,rs,as,rfl,_⟩:=h;rfl
 ·obtain⟨ra,rs,as,rfl,RR,hl,hw,q⟩:=h
  have hr_Book:Room 2 _:=hr.mono Zd
  have le:=RR.len
  refine⟨_,(R.ah (R.al (R.jg c_Book hr_Book rfl (R.aa (R.bc rfl (js:=[none]) (N:=["row"]) (CompScope.by (aB dY) ["rows"] rfl rfl Zk) (bA rfl) (R.bo (K:=K) (R.v 0)) (fun C s₂ H₂ fp=>⟨(R.gn (i:=0) (show(["row"]:List Str).Nodup by decide +kernel)),(R.bu (R.ao R.eq (R.ix (R.af (K:=K)) (R.v 0) R.ac) R.ag)),(R.sl R.sT (R.v 0) (R.ps R.ac) R.pn)⟩)) R.ad)))),?_⟩
  refine⟨ra,rfl,⟨_,SqL.of RR.lst⟩,?_⟩
  refine bT (cU K ra (as.map V.ref)) (by rw[bG];omega) (fun i ys H'=>∃zs:List Z,ys=fA zs/\Ck H' zs/\zs.map (·.2)=gU (rs.take i)/\Same H H'/\zs.length<=i) (fun i ys H' ⟨zs,e,_,_,s',l'⟩=>⟨SqL.of (s' _ _ RR.lst),by rw[e];unfold fA;rw[bG];exact l'⟩) ⟨[],rfl,(fun _ h=>nomatch h),rfl,(fun _ _ e=>e),bM _⟩ (fun i x ys H' hx ⟨zs,e,hz,ez,s',l'⟩=>?_) (fun ys H' ⟨zs,e,hz,ez,s',l'⟩=>?_)
  ·obtain⟨a,r,rfl,ha,hrr,hat⟩:=(RR.same s').get hx
   obtain⟨xs,g,x0,x1,x2⟩:=eC hat
   have etk:=bP hrr
   have esn:gU (rs.take i++[r])=gU (rs.take i)++gU [r]:=by unfold gU;rw[List.filterMap_append]
   dsimp only [aK];refine⟨_,SqT.of g,_,x0,?_⟩
   show if decide (bX r="has")=true then _ else _
   refine bF (fun h=>?_) (fun h=>?_)
   ·obtain⟨z,m,rfl⟩:=yG (of_decide_eq_true h)
    refine⟨_,hat,fun tp H2 s2 g2=>⟨zs++[(tp,z,(m:Int))],by rw[e];unfold fA;rw[jF];rfl,fun y hy=>?_,?_,s'.trans s2,by simp;omega⟩⟩
    ·rcases aH hy with hy | rfl
     ·exact s2 _ _ (hz y hy)
     ·exact g2
    ·rw[jF,ez,etk,esn];rfl
   ·refine⟨zs,e,hz,?_,s',Zo⟩
    rw[ez,etk,esn];have:gU [r]=[]:=by
     cases r with
     | has z m=>exact absurd rfl (of_decide_eq_false h)
     | _=>rfl
    rw[this,List.append_nil]
  ·intro l hll;rw[bG]at l' ez;rw[<- le,rA (bM _)]at ez;have s1:Same H (aJ H' l (.lst ys)):=s'.trans (aF hll)
   have gl:(aJ H' l (.lst ys)) l=some (.lst (fA zs)):=by rw[aA,e]
   have hz1:Ck (aJ H' l (.lst ys)) zs:=fun z hzz=>aO (hz z hzz) hll
   generalize aJ H' l (.lst ys)=H1 at s1 gl hz1;intro x dx hx hdx hne;have sB:Same H1 (aJ (aJ H1 dx (.own x)) x (.ins C dx [])):=fun c o e=>by
    rw[aD (aE e hx),aD (aE e hdx)];exact e
   refine⟨x,dx,.ref l,zs.map (·.2),rfl,aA,.inr ⟨l,zs,rfl,sB _ _ gl,fun z hzz=>sB _ _ (hz1 z hzz),rfl⟩,by rw[ez];exact uN hw,by rw[bG];omega,fun H2 d hd h1 h2 k=>⟨rfl,?_⟩⟩
   rw[ez]at h2;refine q x dx d H2 (s1.free hx) (s1.free (sB.free hd)) h1 h2 (fun c o e=>k _ _ (sB _ _ (s1 _ _ e)) (aE (s1 _ _ e) hx))
theorem Nr {H:Hp} {ra:Addr} {rs:List RX} {as:List Addr} (hw:RX.Whole rs) (RR:RxsAt H ra rs as) {n t:Nat} {p k:Str} {x:Dd} (hm:.came n t p k x∈rs):∃(a b:Addr) (t':Nat),bE (aS [] (iY "came" rs as rs.length)) (Sum.inl (n:Int))=some (.ref a)/\H a=some (.tup [.str "came",.int (n:Int),.int (t':Int),.str p,.str k,.ref b])/\H b=some (.tup x.vs):=by
 obtain⟨j,r',a',hv,hj1,hj2,hj3,hj4⟩:=Im RR.len hm (wd:="came") rfl
 obtain⟨n',t',p',k',x',rfl⟩:=Ae hj3
 have en:n=n':=by
  have:(Sum.inl (n:Int):aT)=Sum.inl (n':Int):=hj4
  injection this with this
  omega
 subst en;have ecm:=dD hw hm (gX hj1)
 injection ecm with _ _ e1 e2 e3
 subst e1;subst e2;subst e3
 obtain⟨aj,rj,e0,hj2',hj1',hatj⟩:=RR.get (i:=j) (v:=.ref a') (by rw[kE,hj2];rfl)
 injection e0 with e0
 subst e0;rw[hj1]at hj1';injection hj1' with e0
 subst e0;obtain⟨bx,gj,gj2⟩:=hatj
 exact⟨a',bx,t',hv,gj,gj2⟩
theorem qC (rs:List RX) (r:RX):gN (rs++[r])=gN rs++gN [r]:=by unfold gN;rw[List.filterMap_append]
end
end KL
namespace KL
open PySem L2
section
variable {P:Program} {w:World} {K:W.Frag} {mg:Str->Option Value} {base:Heap}
def dO (ps:List RX) (w:Str):Option RX:=ps.foldl (fun o r=>if bX r=w then some r else o) none
theorem cY (ps:List RX) (r:RX) (w:Str):dO (ps++[r]) w=if bX r=w then some r else dO ps w:=by
 unfold dO;rw[List.foldl_append];rfl
def cI (ps:List RX):Nat:=ps.foldl (fun _ r=>r.rank) 0
theorem gV (ps:List RX) (r:RX):cI (ps++[r])=r.rank:=by unfold cI;rw[List.foldl_append];rfl
def nQ:RX->Bool | .next _ _=>true | .came _ _ _ _ _=>true | .done _ _ _=>true | _=>false
def cC (ps:List RX):Nat:=ps.foldl (fun t r=>if nQ r=true then r.turn else t) 0
theorem kJ (ps:List RX) (r:RX):cC (ps++[r])=if nQ r=true then r.turn else cC ps:=by unfold cC;rw[List.foldl_append];rfl
theorem Aj {r:RX} (h:¬ nQ r=true):r.turn=0:=by cases r <;> first | rfl | exact absurd rfl h
theorem qD {ps:List RX} (h:RX.Whole ps):∀ {w:Str} {r:RX},dO ps w=some r->r∈ps/\bX r=w:=by
 induction h with
 | nil=>intro w r e;cases e
 | @snoc rs q _ _ ih=>
  intro w r e;rw[cY]at e;split at e
  ·cases e;exact⟨List.mem_append_right _ kG,by assumption⟩
  ·exact⟨List.mem_append_left _ (ih e).1,(ih e).2⟩
theorem hX {ps:List RX} (h:RX.Whole ps):∀ {r:RX},r∈ps->dO ps (bX r)≠none:=by
 induction h with
 | nil=>intro r e;cases e
 | @snoc rs q _ _ ih=>
  intro r e;rw[cY];rcases aH e with e | rfl
  ·split
   ·intro z;cases z
   ·exact ih e
  ·rw[if_pos rfl];intro z;cases z
theorem Nt {ps:List RX} (h:RX.Whole ps):∀q∈ps,q.rank<=cI ps:=by
 induction h with
 | nil=>intro q e;cases e
 | @snoc rs r _ hf ih=>
  intro q e;rw[gV];rcases aH e with e1 | rfl
  ·cases r with
   | next n t=>rw[show rs=[] from hf]at e1;cases e1
   | has z m=>exact hf.1 q e1
   | kept n t p k d y=>exact hf.1 q e1
   | came n t p k d=>cases q <;> (show _<=3;exact Nat.le_of_ble_eq_true rfl)
   | asked n=>cases q <;> (show _<=3;exact Nat.le_of_ble_eq_true rfl)
   | done n t y=>cases q <;> (show _<=3;exact Nat.le_of_ble_eq_true rfl)
  ·exact bM _
theorem fX {ps:List RX} (h:RX.Whole ps) (k:Nat):(∀q∈ps,q.rank<=k)↔cI ps<=k:=by
 refine⟨fun z=>?_,fun z q hq=>kK (Nt h q hq) z⟩
 cases h with
 | nil=>exact Nat.zero_le _
 | @snoc rs r _ _=>rw[gV];exact z r (List.mem_append_right _ kG)
theorem lR {ps:List RX} (h:RX.Whole ps):∀k:Nat,(∀q∈ps,q.turn<=k)↔cC ps<=k:=by
 induction h with
 | nil=>intro k;exact⟨fun _=>Nat.zero_le _,fun _ q e=>nomatch e⟩
 | @snoc rs r hw hf ih=>
  intro k;rw[kJ];refine⟨fun z=>?_,fun z q hq=>?_⟩
  ·split
   ·exact z r (List.mem_append_right _ kG)
   ·exact(ih k).mp fun q hq=>z q (List.mem_append_left _ hq)
  ·rcases aH hq with hq1 | rfl
   ·split at z
    ·cases r with
     | next n t=>rw[show rs=[] from hf]at hq1;cases hq1
     | came n t p k d=>exact kK (hf.2.2 q hq1) z
     | done n t y=>exact kK (hf.1 q hq1) z
     | _=>rename_i hh;cases hh
    ·exact(ih k).mpr z q hq1
   ·split at z
    ·exact z
    ·rename_i hh;rw[Aj hh];exact Nat.zero_le _
theorem sE {ps:List RX} (h:RX.Whole ps):∀ {n t n' t':Nat},.next n t∈ps->.next n' t'∈ps->n=n'/\t=t':=by
 induction h with
 | nil=>intro n t n' t' e;cases e
 | @snoc rs r hw hf ih=>
  have no:∀ {n t n' t':Nat},r=.next n t->.next n' t'∉rs:=fun e m=>by rw[e]at hf;rw[show rs=[] from hf]at m;cases m
  intro n t n' t' e1 e2;rcases aH e1 with z1 | z1
  ·rcases aH e2 with z2 | z2
   ·exact ih z1 z2
   ·exact absurd z1 (no z2.symm)
  ·rcases aH e2 with z2 | z2
   ·exact absurd z2 (no z1.symm)
   ·rw[<- z1]at z2;cases z2;exact⟨rfl,rfl⟩
theorem Iz {ps:List RX} (h:RX.Whole ps):∀ {z:Str} {m:Nat},dO ps "has"=some (.has z m)->∀z' m',.has z' m'∈ps->z'=z∨z'.cps.toList<z.cps.toList:=by
 induction h with
 | nil=>intro z m e;cases e
 | @snoc rs r hw hf ih=>
  intro z m e z' m' hm;rw[cY]at e;split at e
  ·cases e
   rcases aH hm with hm | hm
   ·exact .inr (hf.2.2 _ _ hm)
   ·cases hm;exact .inl rfl
  ·rename_i hh
   rcases aH hm with hm | hm
   ·exact ih e _ _ hm
   ·subst hm;exact absurd rfl hh
theorem Dl {ps:List RX} (h:RX.Whole ps):∀ {n t:Nat} {p k:Str} {x:Dd} {y:An},dO ps "kept"=some (.kept n t p k x y)->∀n' t' p' k' x' y',.kept n' t' p' k' x' y'∈ps->n'<=n:=by
 induction h with
 | nil=>intro n t p k x y e;cases e
 | @snoc rs r hw hf ih=>
  intro n t p k x y e n' t' p' k' x' y' hm;rw[cY]at e;split at e
  ·cases e
   rcases aH hm with hm | hm
   ·exact Nat.le_of_lt (hf.2.2.1 _ _ _ _ _ _ hm)
   ·cases hm;exact bM _
  ·rename_i hh
   rcases aH hm with hm | hm
   ·exact ih e _ _ _ _ _ _ hm
   ·subst hm;exact absurd rfl hh
theorem Dm {ps:List RX} (h:RX.Whole ps):∀ {n t:Nat} {p k:Str} {x:Dd},dO ps "came"=some (.came n t p k x)->∀n' t' p' k' x',.came n' t' p' k' x'∈ps->n'<=n:=by
 induction h with
 | nil=>intro n t p k x e;cases e
 | @snoc rs r hw hf ih=>
  intro n t p k x e n' t' p' k' x' hm;rw[cY]at e;split at e
  ·cases e
   rcases aH hm with hm | hm
   ·exact Nat.le_of_lt (hf.1 _ _ _ _ _ hm)
   ·cases hm;exact bM _
  ·rename_i hh
   rcases aH hm with hm | hm
   ·exact ih e _ _ _ _ _ hm
   ·subst hm;exact absurd rfl hh
def Ak (y:An):Prop:=∃x:Dd,x.Ok/\An.Of x y
def gO:RX->Prop
 | .kept _ _ _ _ d y=>d.Ok/\An.Of d y
 | .came _ _ _ _ d=>d.Ok
 | .done _ _ y=>Ak y
 | .has _ m=>m<=1000000000000
 | _=>True
theorem Nu {y:An} (hy:Ak y) {g:Str} (e:y=.no g):eZ g:=by
 obtain⟨d,hd,h⟩:=hy
 subst e;cases d with
 | send u a n=>rw[show g=u from h];exact hd.1
 | fetch u a n=>rw[show g=u from h];exact hd.1
 | pass u g' a n=>
  rcases(show g=u∨g=g' from h) with rfl | rfl
  ·exact hd.1
  ·exact hd.2.1
 | _=>exact h.elim
theorem qE {ps:List RX} (h:RX.Whole ps) (ho:∀r∈ps,r.Ok):∀r∈ps,gO r:=by
 induction h with
 | nil=>intro r e;cases e
 | @snoc rs r hw hf ih=>
  intro q hq;have ho':∀r∈rs,r.Ok:=fun r hr=>ho r (List.mem_append_left _ hr)
  rcases aH hq with hq | rfl
  ·exact ih ho' q hq
  ·have:=ho q (List.mem_append_right _ kG)
   cases q with
   | kept n t p k d y=>exact⟨this.2.2.2.2.2.1,this.2.2.2.2.2.2⟩
   | came n t p k d=>exact this.2.2.2.2.2
   | has z m=>exact this.2.2
   | done n t y=>
    obtain⟨_,_,t0,p,k,d,hm,hof,_⟩:=hf
    exact⟨d,(ho' _ hm).2.2.2.2.2,hof⟩
   | _=>trivial
def wM (rs:List RX):Option Nat->Prop
 | none=>RX.Whole rs
 | some i=>∃r,rs[i]?=some r/\RX.Whole (rs.take i)/\¬ RX.Fits (rs.take i) r
theorem fY {rs:List RX} (h:RX.Whole rs):∀ {i:Nat} {r:RX},rs[i]?=some r->RX.Whole (rs.take i)/\RX.Fits (rs.take i) r:=by
 induction h with
 | nil=>intro i r e;cases e
 | @snoc rs q hw hf ih=>
  intro i r e;by_cases hi:i<rs.length
  ·rw[List.getElem?_append_left hi]at e;rw[List.take_append_of_le_length (Nat.le_of_lt hi)];exact ih e
  ·rw[List.getElem?_append_right Zo]at e
   have:i=rs.length:=by
    have:=(Zgs.mp e).1
    simp at this;omega
   subst this;rw[Nat.sub_self]at e;cases e
   rw[List.take_left];exact⟨hw,hf⟩
theorem Ja {rs:List RX} {o o':Option Nat} (h:wM rs o) (h':wM rs o'):o=o':=by
 have key:∀ {i j:Nat},wM rs (some i)->wM rs (some j)->¬ i<j:=fun {i j} hi hj hij=>by
  obtain⟨r,e1,_,n1⟩:=hi
  obtain⟨_,_,w2,_⟩:=hj
  have e:(rs.take j)[i]?=some r:=by rw[List.getElem?_take_of_lt hij];exact e1
  have:=(fY w2 e).2
  rw[List.take_take,Nat.min_eq_left (Nat.le_of_lt hij)]at this;exact n1 this
 cases o with
 | none=>cases o' with
  | none=>rfl
  | some j=>obtain⟨r,e,_,n⟩:=h';exact absurd (fY h e).2 n
 | some i=>cases o' with
  | none=>obtain⟨r,e,_,n⟩:=h;exact absurd (fY h' e).2 n
  | some j=>
   have h1:=key h h'
   have h2:=key h' h
   rw[show i=j by omega]
def Nv:Option Nat->V | none=>.non | some i=>.int (i:Int)
end
end KL
namespace KL
open PySem L2
section
variable {P:Program} {w:World} {K:W.Frag} {mg:Str->Option Value} {base:Heap}
def dL:Dd->List (Str × List V)
 | .send h a n=>[(h,[.str "add",.str a,.int (n:Int)])]
 | .fetch h a n=>[(h,[.str "take",.str a,.int (n:Int)])]
 | .pass h g a n=>[(h,[.str "take",.str a,.int (n:Int)]),(g,[.str "add",.str a,.int (n:Int)])]
 | _=>[]
theorem yK {d:Dd} (h:d.Ok):DWN d.wd (d.n:Int) d.vs (dL d):=by
 cases d with
 | add a n=>exact⟨⟨a,a,a,_,.add⟩,(fun q hq=>nomatch hq)⟩
 | take a n=>exact⟨⟨a,a,a,_,.take⟩,(fun q hq=>nomatch hq)⟩
 | move a b n=>exact⟨⟨a,b,a,_,.move⟩,(fun q hq=>nomatch hq)⟩
 | send g a n=>exact⟨⟨g,a,a,_,.send⟩,fun q hq=>by rw[Zms.mp hq];exact h.1⟩
 | fetch g a n=>exact⟨⟨g,a,a,_,.fetch⟩,fun q hq=>by rw[Zms.mp hq];exact h.1⟩
 | pass g g' a n=>exact⟨⟨g,g',a,_,.pass⟩,fun q hq=>by
   simp only [dL,List.mem_cons,List.not_mem_nil,or_false]at hq
   rcases hq with rfl | rfl
   ·exact h.1
   ·exact h.2.1⟩
theorem wN (d:Dd):(dL d).length=0↔d.far=false:=by cases d <;> simp [dL,Dd.far]
theorem Jv (a b:Int) (m:Nat):aW [.int (m:Int)] [(a,b)]=true↔a<=(m:Int)/\(m:Int)<=b:=by
 simp [aW,xR]
theorem wi2 (a b c d:Int) (l m:Nat):aW [.int (l:Int),.int (m:Int)] [(a,b),(c,d)]=true↔(a<=(l:Int)/\(l:Int)<=b)/\c<=(m:Int)/\(m:Int)<=d:=by
 simp [aW,xR]
theorem Nw (a b:Int) (l m:Nat):aW [.int (l:Int),.int (m:Int)] [(a,b)]=true↔False:=by simp [aW]
theorem aAb (a b c d:Int) (m:Nat):aW [.int (m:Int)] [(a,b),(c,d)]=true↔False:=by simp [aW]
theorem Uk {d:Dd} {y:An} (hd:d.Ok):Cn d.wd ((dL d).map (·.1)) (d.n:Int) y.vs=true↔An.Of d y:=by
 have hn:=hd.n
 have ff:∀ {p:Prop},¬ p->((false=true)↔p):=fun h=>⟨(fun z=>nomatch z),fun z=>absurd z h⟩
 cases d with
 | add a n=>cases y with
  | is1 m=>show aW [.int (m:Int)] [((n:Int),1000000000000)]=true↔n<=m/\m<=1000000000000;rw[Jv];omega
  | is2 l m=>show aW [.int (l:Int),.int (m:Int)] [((n:Int),1000000000000)]=true↔False;exact Nw ..
  | short m=>exact ff id
  | full m=>show aW [.int (m:Int)] [(1000000000000 - (n:Int)+1,1000000000000)]=true↔1000000000000<m+n/\m<=1000000000000;rw[Jv];omega
  | no h=>exact ff id
  | ok=>exact ff id
 | take a n=>cases y with
  | is1 m=>show aW [.int (m:Int)] [(0,1000000000000 - (n:Int))]=true↔m+n<=1000000000000;rw[Jv];omega
  | is2 l m=>show aW [.int (l:Int),.int (m:Int)] [(0,1000000000000 - (n:Int))]=true↔False;exact Nw ..
  | short m=>show aW [.int (m:Int)] [(0,(n:Int) - 1)]=true↔m<n;rw[Jv];omega
  | full m=>exact ff id
  | no h=>exact ff id
  | ok=>exact ff id
 | move a b n=>cases y with
  | is1 m=>show aW [.int (m:Int)] [(0,1000000000000 - (n:Int)),((n:Int),1000000000000)]=true↔False;exact aAb ..
  | is2 l m=>
   have hn':1<=n/\n<=1000000000000:=hn
   show aW [.int (l:Int),.int (m:Int)] [(0,1000000000000 - (n:Int)),((n:Int),1000000000000)]=true↔l+n<=1000000000000/\n<=m/\m<=1000000000000
   rw[wi2];omega
  | short m=>show aW [.int (m:Int)] [(0,(n:Int) - 1)]=true↔m<n;rw[Jv];omega
  | full m=>show aW [.int (m:Int)] [(1000000000000 - (n:Int)+1,1000000000000)]=true↔1000000000000<m+n/\m<=1000000000000;rw[Jv];omega
  | no h=>exact ff id
  | ok=>exact ff id
 | send g a n=>cases y with
  | is1 m=>show aW [.int (m:Int)] [(0,1000000000000 - (n:Int))]=true↔m+n<=1000000000000;rw[Jv];omega
  | is2 l m=>show aW [.int (l:Int),.int (m:Int)] [(0,1000000000000 - (n:Int))]=true↔False;exact Nw ..
  | short m=>show aW [.int (m:Int)] [(0,(n:Int) - 1)]=true↔m<n;rw[Jv];omega
  | full m=>exact ff id
  | no h=>show nU (.str h) [g]=true↔h=g;simp [nU]
  | ok=>exact ff id
 | fetch g a n=>cases y with
  | is1 m=>show aW [.int (m:Int)] [((n:Int),1000000000000)]=true↔n<=m/\m<=1000000000000;rw[Jv];omega
  | is2 l m=>show aW [.int (l:Int),.int (m:Int)] [((n:Int),1000000000000)]=true↔False;exact Nw ..
  | short m=>exact ff id
  | full m=>show aW [.int (m:Int)] [(1000000000000 - (n:Int)+1,1000000000000)]=true↔1000000000000<m+n/\m<=1000000000000;rw[Jv];omega
  | no h=>show nU (.str h) [g]=true↔h=g;simp [nU]
  | ok=>exact ff id
 | pass g g' a n=>cases y with
  | is1 m=>exact ff id
  | is2 l m=>exact ff id
  | short m=>exact ff id
  | full m=>exact ff id
  | no h=>show nU (.str h) [g,g']=true↔h=g∨h=g';simp [nU]
  | ok=>exact⟨fun _=>trivial,fun _=>rfl⟩
theorem Xv {H:Hp} {c:Addr} {y:An} (h:H c=some (.tup y.vs)) (hf:Ak y):Tg H (.ref c):=by
 refine .tup h (by cases y <;> exact Nat.le_of_ble_eq_true rfl) fun v hv=>?_
 cases y with
 | is1 m=>simp only [An.vs,List.mem_cons,List.not_mem_nil,or_false]at hv;rcases hv with rfl | rfl <;> first | exact .int | exact .str Zk
 | is2 l m=>simp only [An.vs,List.mem_cons,List.not_mem_nil,or_false]at hv;rcases hv with rfl | rfl | rfl <;> first | exact .int | exact .str Zk
 | short m=>simp only [An.vs,List.mem_cons,List.not_mem_nil,or_false]at hv;rcases hv with rfl | rfl <;> first | exact .int | exact .str Zk
 | full m=>simp only [An.vs,List.mem_cons,List.not_mem_nil,or_false]at hv;rcases hv with rfl | rfl <;> first | exact .int | exact .str Zk
 | no g=>
  have:=Nu hf rfl
  simp only [An.vs,List.mem_cons,List.not_mem_nil,or_false]at hv
  rcases hv with rfl | rfl
  ·exact .str Zk
  ·exact .str (by have:=this.2.1;omega)
 | ok=>simp only [An.vs,List.mem_cons,List.not_mem_nil,or_false]at hv;rw[hv];exact .str Zk
structure Ul (K:W.Frag) (C:Addr):Prop where
 cl:Cls K C
 n1:NoAttr K C "last_rows"
 n2:NoAttr K C "last_rank"
 n3:NoAttr K C "last_turn"
 n4:NoAttr K C "kept_numbers"
 n5:NoAttr K C "came_deeds"
 n6:NoAttr K C "asked_numbers"
 n7:NoAttr K C "done_numbers"
structure WA where
 dx:Addr
 d1:Addr
 d2:Addr
 d3:Addr
 d4:Addr
 d5:Addr
def Um (A:WA) (rk tn:Nat):List (Str × V):=[("last_rows",.ref A.d1),("last_rank",.int (rk:Int)),("last_turn",.int (tn:Int)),("kept_numbers",.ref A.d2),("came_deeds",.ref A.d3),("asked_numbers",.ref A.d4),("done_numbers",.ref A.d5)]
def NumK (kvs:List (aT × V)) (p:Nat->Prop):Prop:=∀n:Nat,(bE kvs (Sum.inl (n:Int))).isSome=true↔p n
structure Xw (H:Hp) (kvs:List (aT × V)) (ps:List RX):Prop where
 em:kvs.length=0↔ps=[]
 no:∀w:Str,dO ps w=none->bE kvs (Sum.inr w)=none
 yes:∀(w:Str) (r:RX),dO ps w=some r->∃b,bE kvs (Sum.inr w)=some (.ref b)/\r.At H b
structure Xx (H:Hp) (kvs:List (aT × V)) (ps:List RX):Prop where
 no:∀n:Nat,bE kvs (Sum.inl (n:Int))=none->∀t p k x,.came n t p k x∉ps
 yes:∀(n:Nat) (v:V),bE kvs (Sum.inl (n:Int))=some v->∃b t p k x,v=.ref b/\H b=some (.tup x.vs)/\.came n t p k x∈ps
structure WkG (H:Hp) (C a:Addr) (A:WA) (rk tn:Nat) (k1 k2 k3 k4 k5:List (aT × V)):Prop where
 ins:H a=some (.ins C A.dx (Um A rk tn))
 g1:H A.d1=some (.dK k1)
 g2:H A.d2=some (.dK k2)
 g3:H A.d3=some (.dK k3)
 g4:H A.d4=some (.dK k4)
 g5:H A.d5=some (.dK k5)
structure WkP (H:Hp) (ps:List RX) (k1 k2 k3 k4 k5:List (aT × V)):Prop where
 l1:k1.length<=ps.length
 l2:k2.length<=ps.length
 l3:k3.length<=ps.length
 l4:k4.length<=ps.length
 l5:k5.length<=ps.length
 last:Xw H k1 ps
 kept:NumK k2 fun n=>∃t p k x y,.kept n t p k x y∈ps
 came:Xx H k3 ps
 asked:NumK k4 fun n=>.asked n∈ps
 done:NumK k5 fun n=>∃t y,.done n t y∈ps
structure WkF (H0:Hp) (a:Addr) (A:WA):Prop where
 fa:H0 a=none
 f1:H0 A.d1=none
 f2:H0 A.d2=none
 f3:H0 A.d3=none
 f4:H0 A.d4=none
 f5:H0 A.d5=none
 nd:[A.d1,A.d2,A.d3,A.d4,A.d5].Nodup
def WkAt (H0 H:Hp) (C a:Addr) (A:WA) (ps:List RX):Prop:=WkF H0 a A/\Same H0 H/\∃k1 k2 k3 k4 k5,WkG H C a A (cI ps) (cC ps) k1 k2 k3 k4 k5/\WkP H ps k1 k2 k3 k4 k5
theorem WkG.same {H H':Hp} {C a:Addr} {A:WA} {rk tn:Nat} {k1 k2 k3 k4 k5:List (aT × V)} (h:WkG H C a A rk tn k1 k2 k3 k4 k5) (s:Same H H'):WkG H' C a A rk tn k1 k2 k3 k4 k5:=
 ⟨s _ _ h.ins,s _ _ h.g1,s _ _ h.g2,s _ _ h.g3,s _ _ h.g4,s _ _ h.g5⟩
theorem WkP.tk {H H':Hp} {ps:List RX} {k1 k2 k3 k4 k5:List (aT × V)} (h:WkP H ps k1 k2 k3 k4 k5) (s:TK H H'):WkP H' ps k1 k2 k3 k4 k5:=
 ⟨h.l1,h.l2,h.l3,h.l4,h.l5,⟨h.last.em,h.last.no,fun w r e=>by obtain⟨b,h1,h2⟩:=h.last.yes w r e;exact⟨b,h1,h2.tk s⟩⟩,h.kept,⟨h.came.no,fun n v e=>by obtain⟨b,t,p,k,x,h1,h2,h3⟩:=h.came.yes n v e;exact⟨b,t,p,k,x,h1,s _ _ h2,h3⟩⟩,h.asked,h.done⟩
theorem WkAt.same {H0 H H':Hp} {C a:Addr} {A:WA} {ps:List RX} (h:WkAt H0 H C a A ps) (s:Same H H'):WkAt H0 H' C a A ps:=by
 obtain⟨h1,h2,k1,k2,k3,k4,k5,h3,h4⟩:=h
 exact⟨h1,h2.trans s,k1,k2,k3,k4,k5,h3.same s,h4.tk s.tk⟩
section
variable {H:Hp} {C a:Addr} {A:WA} {rk tn:Nat} {k1 k2 k3 k4 k5:List (aT × V)}
theorem WkG.ne (h:WkG H C a A rk tn k1 k2 k3 k4 k5):a≠A.d1/\a≠A.d2/\a≠A.d3/\a≠A.d4/\a≠A.d5:=
 ⟨eY h.ins h.g1 (fun z=>nomatch z),eY h.ins h.g2 (fun z=>nomatch z),eY h.ins h.g3 (fun z=>nomatch z),eY h.ins h.g4 (fun z=>nomatch z),eY h.ins h.g5 (fun z=>nomatch z)⟩
theorem WkF.nn {H0:Hp} (f:WkF H0 a A):A.d1≠A.d2/\A.d1≠A.d3/\A.d1≠A.d4/\A.d1≠A.d5/\A.d2≠A.d3/\A.d2≠A.d4/\A.d2≠A.d5/\A.d3≠A.d4/\A.d3≠A.d5/\A.d4≠A.d5:=by
 have:=f.nd
 simp only [List.nodup_cons,List.mem_cons,List.not_mem_nil,or_false,not_or]at this
 obtain⟨⟨a1,a2,a3,a4⟩,⟨b1,b2,b3⟩,⟨c1,c2⟩,d1,_⟩:=this
 exact⟨a1,a2,a3,a4,b1,b2,b3,c1,c2,d1⟩
theorem WkG.put1 {H0:Hp} (f:WkF H0 a A) (h:WkG H C a A rk tn k1 k2 k3 k4 k5) (k:List (aT × V)):WkG (aJ H A.d1 (.dK k)) C a A rk tn k k2 k3 k4 k5:=by
 obtain⟨a1,a2,a3,a4,a5⟩:=h.ne
 obtain⟨n12,n13,n14,n15,n23,n24,n25,n34,n35,n45⟩:=f.nn
 exact⟨by rw[aD a1];exact h.ins,aA,by rw[aD n12.symm];exact h.g2,by rw[aD n13.symm];exact h.g3,by rw[aD n14.symm];exact h.g4,by rw[aD n15.symm];exact h.g5⟩
theorem WkG.put2 {H0:Hp} (f:WkF H0 a A) (h:WkG H C a A rk tn k1 k2 k3 k4 k5) (k:List (aT × V)):WkG (aJ H A.d2 (.dK k)) C a A rk tn k1 k k3 k4 k5:=by
 obtain⟨a1,a2,a3,a4,a5⟩:=h.ne
 obtain⟨n12,n13,n14,n15,n23,n24,n25,n34,n35,n45⟩:=f.nn
 exact⟨by rw[aD a2];exact h.ins,by rw[aD n12];exact h.g1,aA,by rw[aD n23.symm];exact h.g3,by rw[aD n24.symm];exact h.g4,by rw[aD n25.symm];exact h.g5⟩
theorem WkG.put3 {H0:Hp} (f:WkF H0 a A) (h:WkG H C a A rk tn k1 k2 k3 k4 k5) (k:List (aT × V)):WkG (aJ H A.d3 (.dK k)) C a A rk tn k1 k2 k k4 k5:=by
 obtain⟨a1,a2,a3,a4,a5⟩:=h.ne
 obtain⟨n12,n13,n14,n15,n23,n24,n25,n34,n35,n45⟩:=f.nn
 exact⟨by rw[aD a3];exact h.ins,by rw[aD n13];exact h.g1,by rw[aD n23];exact h.g2,aA,by rw[aD n34.symm];exact h.g4,by rw[aD n35.symm];exact h.g5⟩
theorem WkG.put4 {H0:Hp} (f:WkF H0 a A) (h:WkG H C a A rk tn k1 k2 k3 k4 k5) (k:List (aT × V)):WkG (aJ H A.d4 (.dK k)) C a A rk tn k1 k2 k3 k k5:=by
 obtain⟨a1,a2,a3,a4,a5⟩:=h.ne
 obtain⟨n12,n13,n14,n15,n23,n24,n25,n34,n35,n45⟩:=f.nn
 exact⟨by rw[aD a4];exact h.ins,by rw[aD n14];exact h.g1,by rw[aD n24];exact h.g2,by rw[aD n34];exact h.g3,aA,by rw[aD n45.symm];exact h.g5⟩
theorem WkG.put5 {H0:Hp} (f:WkF H0 a A) (h:WkG H C a A rk tn k1 k2 k3 k4 k5) (k:List (aT × V)):WkG (aJ H A.d5 (.dK k)) C a A rk tn k1 k2 k3 k4 k:=by
 obtain⟨a1,a2,a3,a4,a5⟩:=h.ne
 obtain⟨n12,n13,n14,n15,n23,n24,n25,n34,n35,n45⟩:=f.nn
 exact⟨by rw[aD a5];exact h.ins,by rw[aD n15];exact h.g1,by rw[aD n25];exact h.g2,by rw[aD n35];exact h.g3,by rw[aD n45];exact h.g4,aA⟩
theorem WkG.fld (h:WkG H C a A rk tn k1 k2 k3 k4 k5) (rk' tn':Nat):WkG (aJ H a (.ins C A.dx (Um A rk' tn'))) C a A rk' tn' k1 k2 k3 k4 k5:=by
 obtain⟨a1,a2,a3,a4,a5⟩:=h.ne
 exact⟨aA,by rw[aD a1.symm];exact h.g1,by rw[aD a2.symm];exact h.g2,by rw[aD a3.symm];exact h.g3,by rw[aD a4.symm];exact h.g4,by rw[aD a5.symm];exact h.g5⟩
end
def Pz (ps:List RX):RX->Prop
 | .has z _=>∀z' m,.has z' m∈ps->z'.cps.toList<z.cps.toList
 | .kept n _ _ _ _ _=>∀n' t' p' k' d' y',.kept n' t' p' k' d' y'∈ps->n'<n
 | .came n _ _ _ _=>∀n' t' p' k' d',.came n' t' p' k' d'∈ps->n'<n
 | _=>False
def Ny:RX->Bool | .has _ _=>true | .kept _ _ _ _ _ _=>true | .came _ _ _ _ _=>true | _=>false
def qF (C:Addr):Sp:=fun vs H Q _=>∃(a b:Addr) (H0:Hp) (A:WA) (ps:List RX) (r:RX),vs=[.ref a,.ref b]/\WkAt H0 H C a A ps/\r.At H b/\RX.Whole ps/\Ny r=true/\∀fb:Bool,(fb=true↔Pz ps r)->Q (.bl fb) H
theorem Xy {a b c:Str} (h1:a=b∨a.cps.toList<b.cps.toList) (h2:b.cps.toList<c.cps.toList):a.cps.toList<c.cps.toList:=by
 rcases h1 with rfl | h1
 ·exact h2
 ·exact List.lt_trans h1 h2
theorem Dn {C:Addr} (B:Ul K C) (D:MethAt K C "rises" "Walk.rises" fK ["self","row"]):rP P w K mg base 1 C "rises" ["self","row"] (qF C):=by
 refine D.go qV (fun vs H Q E h=>?_) (fun f cdv A outer s H vs Q E hr h=>?_)
 ·obtain⟨a,b,H0,A,ps,r,rfl,_⟩:=h;rfl
 ·obtain⟨a,b,H0,A,ps,r,rfl,⟨_,_,k1,k2,k3,k4,k5,W,WP⟩,hat,hw,hri,q⟩:=h
  have hu1:=eG hr
  obtain⟨xs,g,x0,x1,x2⟩:=eC hat
  refine⟨_,(R.ah (R.al (R.or (R.ay (R.fg hu1) (R.ix (R.af (K:=K)) (R.v 1) R.ac) (R.ba (K:=K) (R.v 0))) (R.cf (R.ay R.ig (R.ix (R.af (K:=K)) (R.dh hu1 (R.ba (K:=K) (R.v 0)) (R.ix (R.af (K:=K)) (R.v 1) R.ac)) R.ac) (R.ix (R.af (K:=K)) (R.v 1) R.ac)))))),?_⟩
  refine⟨_,SqT.of g,_,x0,C,A.dx,_,.ref A.d1,W.ins,B.cl,B.n1,rfl,_,DGet.k (k:=Sum.inr (bX r)) W.g1,?_⟩
  cases e:dO ps (bX r) with
  | none=>
   rw[WP.last.no _ e];refine q true ⟨fun _=>?_,fun _=>rfl⟩
   cases r with
   | has z m=>exact fun z' m' hm=>absurd e (hX (r:=.has z' m') hw hm)
   | kept n t p k d y=>exact fun n' t' p' k' d' y' hm=>absurd e (hX (r:=.kept n' t' p' k' d' y') hw hm)
   | came n t p k d=>exact fun n' t' p' k' d' hm=>absurd e (hX (r:=.came n' t' p' k' d') hw hm)
   | _=>cases hri
  | some r'=>
   obtain⟨b',hv,hat'⟩:=WP.last.yes _ _ e
   obtain⟨hm',hwd'⟩:=qD hw e
   obtain⟨xs',g',x0',x1',x2'⟩:=eC hat'
   have dg:=DGet.k (k:=Sum.inr (bX r)) W.g1
   rw[hv]at dg ⊢;refine⟨C,A.dx,_,.ref A.d1,W.ins,B.cl,B.n1,rfl,_,SqT.of g,_,x0,A.d1,_,rfl,dg,_,SqT.of g',_,x1',_,SqT.of g,_,x1,?_⟩
   cases r with
   | has z m=>
    obtain⟨z',m',rfl⟩:=yG hwd'
    refine q _ ⟨fun h z2 m2 hm2=>?_,fun h=>?_⟩
    ·exact Xy (Iz hw e z2 m2 hm2) (of_decide_eq_true h)
    ·exact decide_eq_true (h _ _ hm')
   | kept n t p k d y=>
    obtain⟨n',t',p',k',d',y',rfl⟩:=Nn hwd'
    refine q _ ⟨fun h n2 t2 p2 k2 d2 y2 hm2=>?_,fun h=>?_⟩
    ·have:=Dl hw e _ _ _ _ _ _ hm2
     have h':(n':Int)<(n:Int):=of_decide_eq_true h
     omega
    ·exact decide_eq_true (by have:=h _ _ _ _ _ _ hm';omega)
   | came n t p k d=>
    obtain⟨n',t',p',k',d',rfl⟩:=Ae hwd'
    refine q _ ⟨fun h n2 t2 p2 k2 d2 hm2=>?_,fun h=>?_⟩
    ·have:=Dm hw e _ _ _ _ _ hm2
     have h':(n':Int)<(n:Int):=of_decide_eq_true h
     omega
    ·exact decide_eq_true (by have:=h _ _ _ _ _ hm';omega)
   | _=>cases hri
end
end KL
namespace KL
open PySem L2
section
variable {P:Program} {w:World} {K:W.Frag} {mg:Str->Option Value} {base:Heap}
def Al (C:Addr):Sp:=fun vs H Q _=>∃(a b:Addr) (H0:Hp) (A:WA) (ps:List RX) (n t:Nat) (p k:Str) (x:Dd) (y:An) (n0 t0:Nat),vs=[.ref a,.ref b]/\WkAt H0 H C a A ps/\RX.At H b (.kept n t p k x y)/\RX.Whole ps/\.next n0 t0∈ps/\∀fb:Bool,(fb=true↔Pz ps (.kept n t p k x y)/\n<n0/\t<=t0)->Q (.bl fb) H
theorem Jb {C:Addr} (B:Ul K C) (c_Walk_rises:rP P w K mg base 1 C "rises" ["self","row"] (qF C)) (D:MethAt K C "fits_kept" "Walk.fits_kept" cZ ["self","row"]):rP P w K mg base 2 C "fits_kept" ["self","row"] (Al C):=by
 refine D.go gJ (fun vs H Q E h=>?_) (fun f cdv A outer s H vs Q E hr h=>?_)
 ·obtain⟨a,b,H0,A,ps,n,t,p,k,x,y,n0,t0,rfl,_⟩:=h;rfl
 ·obtain⟨a,b,H0,A,ps,n,t,p,k,x,y,n0,t0,rfl,WW,hat,hw,hnx,q⟩:=h
  have⟨_,_,k1,k2,k3,k4,k5,W,WP⟩:=WW
  have hu1:=eG hr
  have hr_Walk_rises:Room 1 _:=hr
  obtain⟨b1,b2,g,_⟩:=id hat
  have hl:dO ps "next"=some (.next n0 t0):=by
   cases e:dO ps "next" with
   | none=>exact absurd e (hX hw hnx)
   | some r=>
    obtain⟨hm,hwd⟩:=qD hw e
    obtain⟨n',t',rfl⟩:=uJ hwd
    obtain⟨rfl,rfl⟩:=sE hw hm hnx
    rfl
  obtain⟨b',hv,gn⟩:=WP.last.yes _ _ hl
  have dg:=DGet.k (k:=Sum.inr ("next":Str)) W.g1
  rw[hv]at dg;refine⟨_,(R.ae (R.ai (i:=2) gJ.nd (R.dh hu1 (R.ba (K:=K) (R.v 0)) R.ag)) (R.ah (R.al (R.bz (R.cn c_Walk_rises hr_Walk_rises (R.v 0) (R.aa (R.v 1) R.ad)) (R.bz (R.ay R.lt (R.ix (R.af (K:=K)) (R.v 1) R.ac) (R.ix (R.af (K:=K)) (R.v 2) R.ac)) (R.cf (R.ay R.le (R.ix (R.af (K:=K)) (R.v 1) R.ac) (R.ix (R.af (K:=K)) (R.v 2) R.ac)))))))),?_⟩
  refine⟨C,A.dx,_,.ref A.d1,W.ins,B.cl,B.n1,rfl,A.d1,_,rfl,dg,?_⟩
  dsimp only [aK];refine⟨A.dx,_,W.ins,rfl,a,b,H0,A,ps,_,rfl,WW,hat,hw,rfl,fun fb hfb=>?_⟩
  show if fb=true then _ else _
  cases fb with
  | false=>exact q false ⟨(fun z=>nomatch z),fun z=>hfb.mpr z.1⟩
  | true=>
   have hri:=hfb.mp rfl
   refine⟨_,SqT.of g,_,rfl,_,SqT.of gn,_,rfl,?_⟩
   refine bF (fun h=>?_) (fun h=>?_)
   ·refine⟨_,SqT.of g,_,rfl,_,SqT.of gn,_,rfl,?_⟩
    refine q _ ⟨fun z=>⟨hri,?_,?_⟩,fun z=>?_⟩
    ·have:=of_decide_eq_true h;omega
    ·have:=of_decide_eq_true z;omega
    ·exact decide_eq_true (by have:=z.2.2;omega)
   ·exact q false ⟨(fun z=>nomatch z),fun z=>absurd (of_decide_eq_false h) (by have:=z.2.1;omega)⟩
def Jc (C:Addr):Sp:=fun vs H Q _=>∃(a b:Addr) (H0:Hp) (A:WA) (ps:List RX) (n t:Nat) (y:An) (t0:Nat) (p k:Str) (x:Dd),vs=[.ref a,.ref b]/\WkAt H0 H C a A ps/\RX.At H b (.done n t y)/\RX.Whole ps/\Ak y/\x.Ok/\.came n t0 p k x∈ps/\∀(fb:Bool) (H':Hp),(fb=true↔An.Of x y/\(x.far=true->(.asked n∈ps↔y.early=false)))->Same H H'->Q (.bl fb) H'
theorem Nz {y:An}:∃u,kT y.vs 0=some (.str u)/\kU (.str u) Zy=y.early:=by
 cases y with
 | is1 m=>exact⟨"is",rfl,rfl⟩
 | is2 l m=>exact⟨"is",rfl,rfl⟩
 | short m=>exact⟨"short",rfl,rfl⟩
 | full m=>exact⟨"full",rfl,rfl⟩
 | no h=>exact⟨"no",rfl,rfl⟩
 | ok=>exact⟨"ok",rfl,rfl⟩
theorem Am {H:Hp} {C a:Addr} {A:WA} {ps:List RX} {rk tn:Nat} {k1 k2 k3 k4 k5:List (aT × V)} (g:WkG H C a A rk tn k1 k2 k3 k4 k5) (h:WkP H ps k1 k2 k3 k4 k5) (hw:RX.Whole ps) {n t:Nat} {p k:Str} {x:Dd} (hm:.came n t p k x∈ps):∃b,DGet H A.d3 (.int (n:Int)) (some (.ref b))/\H b=some (.tup x.vs):=by
 have dg:=DGet.k (k:=Sum.inl (n:Int)) g.g3
 cases e:bE k3 (Sum.inl (n:Int)) with
 | none=>exact absurd hm (h.came.no n e t p k x)
 | some v=>
  obtain⟨b,t',p',k',x',rfl,h2,h3⟩:=h.came.yes n v e
  have:=dD hw hm h3
  cases this
  rw[e]at dg;exact⟨b,dg,h2⟩
theorem Jd {b c:Bool} {p:Prop} (h:b=true↔p):(!decide (b=c))=true↔(p↔c=false):=by
 cases b <;> cases c <;> simp_all
theorem Oa {C:Addr} (T:Txt K mg) (U:Yn w.params K mg) (B:Ul K C) (c_is_answer:aG P w K mg base 4 "is_answer" ["deed","thing"] zS) (c_asks_of:aG P w K mg base 1 "asks_of" ["deed"] kO)
  (D:MethAt K C "fits_answer" "Walk.fits_answer" cM ["self","row"]):rP P w K mg base 5 C "fits_answer" ["self","row"] (Jc C):=by
 refine D.go dF (fun vs H Q E h=>?_) (fun f cdv A outer s H vs Q E hr h=>?_)
 ·obtain⟨a,b,H0,A,ps,n,t,y,t0,p,k,x,rfl,_⟩:=h;rfl
 ·obtain⟨a,b,H0,A,ps,n,t,y,t0,p,k,x,rfl,⟨_,_,k1,k2,k3,k4,k5,W,WP⟩,hat,hw,hy,hx,hm,q⟩:=h
  have hu1:=eG hr
  have hr_is_answer:Room 4 _:=hr
  have hr_asks_of:Room 1 _:=hr.mono Zd
  obtain⟨aU,m_UNASKED_WORDS,tU⟩:=U.g_UNASKED_WORDS
  obtain⟨c,g,gc⟩:=id hat
  obtain⟨bd,dg,gd⟩:=Am W WP hw hm
  refine⟨_,(R.ae (R.ai (i:=2) dF.nd (R.dh hu1 (R.ba (K:=K) (R.v 0)) (R.ix (R.af (K:=K)) (R.v 1) R.ac))) (R.ae (R.ap (R.db (R.bq (R.fn c_is_answer hr_is_answer rfl (R.aa (R.v 2) (R.aa (R.ix (R.af (K:=K)) (R.v 1) R.ac) R.ad))))) (R.ah (R.al R.bl)) R.aq) (R.ae (R.ai (i:=3) dF.nd (R.ay (R.eh hu1) (R.ix (R.af (K:=K)) (R.v 1) R.ac) (R.ba (K:=K) (R.v 0)))) (R.ah (R.al (R.or (R.ay R.eq (R.aw (R.az (K:=K)) rfl T.b_len bC (R.aa (R.fn c_asks_of hr_asks_of rfl (R.aa (R.v 2) R.ad)) R.ad)) R.ac) (R.cf (R.ay R.ne (R.v 3) (R.ay (R.be (K:=K)) (R.ix (R.af (K:=K)) (R.ix (R.af (K:=K)) (R.v 1) R.ac) R.ac) (R.gR rfl m_UNASKED_WORDS)))))))))),?_⟩
  refine⟨C,A.dx,_,.ref A.d3,W.ins,B.cl,B.n5,rfl,_,SqT.of g,_,rfl,A.d3,_,rfl,dg,?_⟩
  dsimp only [aK];refine⟨_,SqT.of g,_,rfl,bd,x.wd,x.n,x.vs,dL x,.ref c,rfl,gd,yK hx,Xv gc hy,fun H1 s1=>?_⟩
  have ea:xT H x.wd ((dL x).map (·.1)) (x.n:Int) (.ref c)=Cn x.wd ((dL x).map (·.1)) (x.n:Int) y.vs:=by unfold xT;rw[pH gc]
  rw[ea];have hao:=Uk (y:=y) hx
  generalize Cn x.wd ((dL x).map (·.1)) (x.n:Int) y.vs=ab at hao;cases ab with
  | false=>exact q false H1 ⟨(fun z=>nomatch z),fun z=>hao.mpr z.1⟩ s1
  | true=>
   have hof:=hao.mp rfl
   have W1:=W.same s1
   refine⟨_,SqT.of (s1 _ _ g),_,rfl,C,A.dx,_,.ref A.d4,W1.ins,B.cl,B.n6,rfl,_,DGet.k (k:=Sum.inl (n:Int)) W1.g4,?_⟩
   have hasked:=WP.asked n
   dsimp only [aK];obtain⟨cs,hdx⟩:=(yK hx).dwx
   refine⟨bd,x.wd,x.vs,cs,dL x,rfl,s1 _ _ gd,hdx,fun tu us H2 s2 g2 ha=>⟨us,.inr (SqT.of g2),?_⟩⟩
   have s12:=s1.trans s2
   have hlen:=ha.length
   have hfar:=wN x
   show if decide ((us.length:Int)=0)=true then _ else _
   refine bF (fun h=>?_) (fun h=>?_)
   ·refine q true H2 ⟨fun _=>⟨hof,fun z=>?_⟩,fun _=>rfl⟩ s12
    have:=of_decide_eq_true h
    have:=hfar.mp Zo
    rw[this]at z;cases z
   ·have hf:x.far=true:=by
     cases e:x.far with
     | true=>rfl
     | false=>
      have:=hfar.mpr e
      exact absurd (of_decide_eq_false h) Zo
    obtain⟨u,hu0,hue⟩:=Nz (y:=y)
    refine⟨_,SqT.of (s12 _ _ g),_,rfl,_,SqT.of (s12 _ _ gc),_,hu0,aU,_,rfl,.inr (tU _),rfl,rfl,?_⟩
    refine q _ H2 ⟨fun z=>⟨hof,fun _=>?_⟩,fun z=>?_⟩ s12
    ·exact(Jd hasked).mp (hue ▸ z)
    ·have:=(Jd hasked).mpr (z.2 hf)
     rw[<- hue]at this;exact this
def Ao (C:Addr):Sp:=fun vs H Q _=>∃(a b:Addr) (H0:Hp) (A:WA) (ps:List RX) (r:RX),vs=[.ref a,.ref b]/\WkAt H0 H C a A ps/\r.At H b/\RX.Whole ps/\(∀q∈ps,gO q)/\gO r/\∀(fb:Bool) (H':Hp),(fb=true↔RX.Fits ps r)->Same H H'->Q (.bl fb) H'
theorem Ob (r:RX):RKS.lookup (bX r)=some (r.rank:Int):=by cases r <;> rfl
theorem Je {C:Addr} (T:Txt K mg) (U:Yn w.params K mg) (B:Ul K C) (c_Walk_rises:rP P w K mg base 1 C "rises" ["self","row"] (qF C)) (c_Walk_fits_kept:rP P w K mg base 2 C "fits_kept" ["self","row"] (Al C))
  (c_Walk_fits_answer:rP P w K mg base 5 C "fits_answer" ["self","row"] (Jc C)) (c_asks_of:aG P w K mg base 1 "asks_of" ["deed"] kO)
  (D:MethAt K C "fits" "Walk.fits" gA ["self","row"]):rP P w K mg base 6 C "fits" ["self","row"] (Ao C):=by
 refine D.go lH (fun vs H Q E h=>?_) (fun f cdv A outer s H vs Q E hr h=>?_)
 ·obtain⟨a,b,H0,A,ps,r,rfl,_⟩:=h;rfl
 ·obtain⟨a,b,H0,A,ps,r,rfl,WW,hat,hw,hfp,hfr,q⟩:=h
  have⟨_,_,k1,k2,k3,k4,k5,W,WP⟩:=WW
  have hu1:=eG hr
  have hr_Walk_rises:Room 1 _:=hr.mono Zd
  have hr_Walk_fits_kept:Room 2 _:=hr.mono Zd
  have hr_Walk_fits_answer:Room 5 _:=hr
  have hr_asks_of:Room 1 _:=hr.mono Zd
  obtain⟨aR,m_RANKS,tR⟩:=U.g_RANKS
  have sr:=Same.refl H
  have hnx:(bE k1 (Sum.inr ("next":Str))).isSome=true↔∃n t,.next n t∈ps:=by
   constructor
   ·intro h;cases e:dO ps "next" with
    | none=>rw[WP.last.no _ e]at h;cases h
    | some r'=>
     obtain⟨hm,hwd⟩:=qD hw e
     obtain⟨n',t',rfl⟩:=uJ hwd
     exact⟨n',t',hm⟩
   ·rintro⟨n,t,hm⟩
    cases e:dO ps "next" with
    | none=>exact absurd e (hX hw hm)
    | some r'=>obtain⟨b',hv,_⟩:=WP.last.yes _ _ e;rw[hv];rfl
  have hca:∀n:Nat,(bE k3 (Sum.inl (n:Int))).isSome=true↔∃t p k x,.came n t p k x∈ps:=fun n=>by
   constructor
   ·intro h;cases e:bE k3 (Sum.inl (n:Int)) with
    | none=>rw[e]at h;cases h
    | some v=>obtain⟨b,t,p,k,x,_,_,hm⟩:=WP.came.yes n v e;exact⟨t,p,k,x,hm⟩
   ·rintro⟨t,p,k,x,hm⟩
    cases e:bE k3 (Sum.inl (n:Int)) with
    | none=>exact absurd hm (WP.came.no n e _ _ _ _)
    | some v=>rfl
  refine⟨_,(R.ae (R.ai (i:=2) lH.nd (R.ix (R.af (K:=K)) (R.v 1) R.ac)) (R.ae (R.ap (R.ao R.eq (R.v 2) R.ag) (R.ah (R.al (R.ay R.eq (R.aw R.ii rfl T.b_len bC (R.aa (R.ba (K:=K) (R.v 0)) R.ad)) R.ac))) R.aq) (R.ae (R.ap (R.ao R.lt (R.ix (R.iy (K:=K) (P:=w.params)) (R.gR rfl m_RANKS) (R.v 2)) (R.ba (K:=K) (R.v 0))) (R.ah (R.al R.bl)) R.aq) (R.ae (R.ap (R.ao R.eq (R.v 2) R.ag) (R.ah (R.al (R.bz (R.ay (R.eh hu1) R.ag (R.ba (K:=K) (R.v 0))) (R.cf (R.cn c_Walk_rises hr_Walk_rises (R.v 0) (R.aa (R.v 1) R.ad)))))) R.aq) (R.ae (R.ap (R.ao R.eq (R.v 2) R.ag) (R.ah (R.al (R.bz (R.ay (R.eh hu1) R.ag (R.ba (K:=K) (R.v 0))) (R.cf (R.cn c_Walk_fits_kept hr_Walk_fits_kept (R.v 0) (R.aa (R.v 1) R.ad)))))) R.aq) (R.ae (R.ap (R.ao R.eq (R.v 2) R.ag) (R.ah (R.al (R.bz (R.cn c_Walk_rises hr_Walk_rises (R.v 0) (R.aa (R.v 1) R.ad)) (R.bz (R.ay (R.fg hu1) (R.ix (R.af (K:=K)) (R.v 1) R.ac) (R.ba (K:=K) (R.v 0))) (R.cf (R.ay R.ge (R.ix (R.af (K:=K)) (R.v 1) R.ac) (R.ba (K:=K) (R.v 0)))))))) R.aq) (R.ae (R.ap (R.tw (R.da (R.ao (R.fg hu1) (R.ix (R.af (K:=K)) (R.v 1) R.ac) (R.ba (K:=K) (R.v 0))) (R.dr (R.ao (R.eh hu1) (R.ix (R.af (K:=K)) (R.v 1) R.ac) (R.ba (K:=K) (R.v 0)))))) (R.ah (R.al R.bl)) R.aq) (R.ae (R.ap (R.ao R.eq (R.v 2) R.ag) (R.ah (R.al (R.bz (R.ay (R.fg hu1) (R.ix (R.af (K:=K)) (R.v 1) R.ac) (R.ba (K:=K) (R.v 0))) (R.cf (R.ay R.gt (R.aw (R.az (K:=K)) rfl T.b_len bC (R.aa (R.fn c_asks_of hr_asks_of rfl (R.aa (R.dh hu1 (R.ba (K:=K) (R.v 0)) (R.ix (R.af (K:=K)) (R.v 1) R.ac)) R.ad)) R.ad)) R.ac))))) R.aq) (R.ah (R.al (R.bz (R.ay R.ge (R.ix (R.af (K:=K)) (R.v 1) R.ac) (R.ba (K:=K) (R.v 0))) (R.cf (R.cn c_Walk_fits_answer hr_Walk_fits_answer (R.v 0) (R.aa (R.v 1) R.ad)))))))))))))),?_⟩
  cases r with
  | next n t=>
   refine⟨_,SqT.of hat,_,rfl,?_⟩
   dsimp only [aK];refine⟨C,A.dx,_,.ref A.d1,W.ins,B.cl,B.n1,rfl,_,W.g1,?_⟩
   refine q _ H ⟨fun z=>?_,fun z=>?_⟩ sr
   ·exact WP.last.em.mp (by have:=of_decide_eq_true z;omega)
   ·exact decide_eq_true (by have:=WP.last.em.mpr z;omega)
  | has z m=>
   refine⟨_,SqT.of hat,_,rfl,?_⟩
   dsimp only [aK];refine⟨RKS,1,tR,rfl,C,A.dx,_,.int (cI ps:Int),W.ins,B.cl,B.n2,rfl,?_⟩
   refine bF (fun h=>?_) (fun h=>?_)
   ·refine q false H ⟨(fun z=>nomatch z),fun z=>?_⟩ sr
    have:=(fX hw 1).mp z.1
    exact absurd (of_decide_eq_true h) Zo
   ·have hrk:cI ps<=1:=by have:=of_decide_eq_false h;omega
    refine⟨C,A.dx,_,.ref A.d1,W.ins,B.cl,B.n1,rfl,_,DGet.k (k:=Sum.inr ("next":Str)) W.g1,?_⟩
    show if (bE k1 (Sum.inr ("next":Str))).isSome=true then _ else _
    refine bF (fun h1=>?_) (fun h1=>?_)
    ·refine⟨A.dx,_,W.ins,rfl,a,b,H0,A,ps,_,rfl,WW,hat,hw,rfl,fun fb hfb=>?_⟩
     exact q fb H ⟨fun z=>⟨(fX hw 1).mpr hrk,hnx.mp h1,hfb.mp z⟩,fun z=>hfb.mpr z.2.2⟩ sr
    ·refine q false H ⟨(fun z=>nomatch z),fun z=>?_⟩ sr
     rw[hnx.mpr z.2.1]at h1;cases h1
  | kept n t p k x y=>
   obtain⟨b1,b2,g,_⟩:=id hat
   refine⟨_,SqT.of g,_,rfl,?_⟩
   dsimp only [aK];refine⟨RKS,2,tR,rfl,C,A.dx,_,.int (cI ps:Int),W.ins,B.cl,B.n2,rfl,?_⟩
   refine bF (fun h=>?_) (fun h=>?_)
   ·refine q false H ⟨(fun z=>nomatch z),fun z=>?_⟩ sr
    have:=(fX hw 2).mp z.1
    exact absurd (of_decide_eq_true h) Zo
   ·have hrk:cI ps<=2:=by have:=of_decide_eq_false h;omega
    refine⟨C,A.dx,_,.ref A.d1,W.ins,B.cl,B.n1,rfl,_,DGet.k (k:=Sum.inr ("next":Str)) W.g1,?_⟩
    show if (bE k1 (Sum.inr ("next":Str))).isSome=true then _ else _
    refine bF (fun h1=>?_) (fun h1=>?_)
    ·obtain⟨n0,t0,hm0⟩:=hnx.mp h1
     refine⟨A.dx,_,W.ins,rfl,a,b,H0,A,ps,n,t,p,k,x,y,n0,t0,rfl,WW,hat,hw,hm0,fun fb hfb=>?_⟩
     refine q fb H ⟨fun z=>?_,fun z=>hfb.mpr ?_⟩ sr
     ·obtain⟨h2,h3,h4⟩:=hfb.mp z
      exact⟨(fX hw 2).mpr hrk,⟨n0,t0,hm0,h3,h4⟩,h2,hfr.2⟩
     ·obtain⟨_,⟨n',t',hm',h3,h4⟩,h2,_⟩:=z
      obtain⟨rfl,rfl⟩:=sE hw hm' hm0
      exact⟨h2,h3,h4⟩
    ·refine q false H ⟨(fun z=>nomatch z),fun z=>?_⟩ sr
     obtain⟨n',t',hm',_⟩:=z.2.1
     rw[hnx.mpr ⟨_,_,hm'⟩]at h1;cases h1
  | came n t p k x=>
   obtain⟨b1,g,_⟩:=id hat
   refine⟨_,SqT.of g,_,rfl,?_⟩
   dsimp only [aK];refine⟨RKS,3,tR,rfl,C,A.dx,_,.int (cI ps:Int),W.ins,B.cl,B.n2,rfl,?_⟩
   refine bF (fun h=>?_) (fun h=>?_)
   ·exact absurd (of_decide_eq_true h) (by have:=(fX hw 3).mp (fun q _=>by cases q <;> exact Nat.le_of_ble_eq_true rfl);omega)
   ·refine⟨A.dx,_,W.ins,rfl,a,b,H0,A,ps,_,rfl,WW,hat,hw,rfl,fun fb hfb=>?_⟩
    show if fb=true then _ else _
    cases fb with
    | false=>exact q false H ⟨(fun z=>nomatch z),fun z=>hfb.mpr z.1⟩ sr
    | true=>
     refine⟨_,SqT.of g,_,rfl,C,A.dx,_,.ref A.d2,W.ins,B.cl,B.n4,rfl,_,DGet.k (k:=Sum.inl (n:Int)) W.g2,?_⟩
     have hk:=WP.kept n
     show if (!(bE k2 (Sum.inl (n:Int))).isSome)=true then _ else _
     refine bF (fun h1=>?_) (fun h1=>?_)
     ·refine⟨_,SqT.of g,_,rfl,C,A.dx,_,.int (cC ps:Int),W.ins,B.cl,B.n3,rfl,?_⟩
      refine q _ H ⟨fun z=>⟨hfb.mp rfl,fun t' p' k' d' y' hm=>?_,?_⟩,fun z=>?_⟩ sr
      ·rw[hk.mpr ⟨_,_,_,_,_,hm⟩]at h1;cases h1
      ·exact(lR hw t).mpr (by have:=of_decide_eq_true z;omega)
      ·exact decide_eq_true (by have:=(lR hw t).mp z.2.2;omega)
     ·refine q false H ⟨(fun z=>nomatch z),fun z=>?_⟩ sr
      obtain⟨t',p',k',x',y',hm⟩:=hk.mp (by simpa using h1)
      exact absurd hm (z.2.1 _ _ _ _ _)
  | asked n=>
   refine⟨_,SqT.of hat,_,rfl,?_⟩
   dsimp only [aK];refine⟨RKS,3,tR,rfl,C,A.dx,_,.int (cI ps:Int),W.ins,B.cl,B.n2,rfl,?_⟩
   refine bF (fun h=>?_) (fun h=>?_)
   ·exact absurd (of_decide_eq_true h) (by have:=(fX hw 3).mp (fun q _=>by cases q <;> exact Nat.le_of_ble_eq_true rfl);omega)
   ·refine⟨_,SqT.of hat,_,rfl,C,A.dx,_,.ref A.d3,W.ins,B.cl,B.n5,rfl,_,DGet.k (k:=Sum.inl (n:Int)) W.g3,?_⟩
    show if (!(bE k3 (Sum.inl (n:Int))).isSome)=true then _ else _
    refine bF (fun h1=>?_) (fun h1=>?_)
    ·refine q false H ⟨(fun z=>nomatch z),fun z=>?_⟩ sr
     obtain⟨⟨t,p,k,x,hm,_⟩,_⟩:=z
     rw[(hca n).mpr ⟨_,_,_,_,hm⟩]at h1;cases h1
    ·obtain⟨t,p,k,x,hm⟩:=(hca n).mp (by simpa using h1)
     refine⟨_,SqT.of hat,_,rfl,C,A.dx,_,.ref A.d5,W.ins,B.cl,B.n7,rfl,_,DGet.k (k:=Sum.inl (n:Int)) W.g5,?_⟩
     have hd:=WP.done n
     show if (bE k5 (Sum.inl (n:Int))).isSome=true then _ else _
     refine bF (fun h2=>?_) (fun h2=>?_)
     ·refine q false H ⟨(fun z=>nomatch z),fun z=>?_⟩ sr
      obtain⟨t',y',hm'⟩:=hd.mp h2
      exact absurd hm' (z.2.2 _ _)
     ·have nod:∀t y,.done n t y∉ps:=fun t y hm'=>by rw[hd.mpr ⟨_,_,hm'⟩]at h2;cases h2
      refine⟨_,SqT.of hat,_,rfl,C,A.dx,_,.ref A.d4,W.ins,B.cl,B.n6,rfl,_,DGet.k (k:=Sum.inl (n:Int)) W.g4,?_⟩
      have hk:=WP.asked n
      show if (!(bE k4 (Sum.inl (n:Int))).isSome)=true then _ else _
      refine bF (fun h3=>?_) (fun h3=>?_)
      ·have noa:.asked n∉ps:=fun hm'=>by rw[hk.mpr hm']at h3;cases h3
       obtain⟨bd,dg,gd⟩:=Am W WP hw hm
       have hx:x.Ok:=hfp _ hm
       obtain⟨cs,hdx⟩:=(yK hx).dwx
       refine⟨C,A.dx,_,.ref A.d3,W.ins,B.cl,B.n5,rfl,_,SqT.of hat,_,rfl,A.d3,_,rfl,dg,bd,x.wd,x.vs,cs,dL x,rfl,gd,hdx,fun tu us H2 s2 g2 ha=>⟨us,.inr (SqT.of g2),?_⟩⟩
       have hlen:=ha.length
       have hfar:=wN x
       refine q _ H2 ⟨fun z=>⟨⟨t,p,k,x,hm,?_⟩,noa,nod⟩,fun z=>?_⟩ s2
       ·cases e:x.far with
        | true=>rfl
        | false=>have:=hfar.mpr e;have:=of_decide_eq_true z;omega
       ·obtain⟨⟨t',p',k',x',hm',hf'⟩,_⟩:=z
        have:=dD hw hm hm'
        cases this
        refine decide_eq_true ?_
        have:(dL x).length≠0:=fun z=>by rw[hfar.mp z]at hf';cases hf'
        omega
      ·refine q false H ⟨(fun z=>nomatch z),fun z=>?_⟩ sr
       exact absurd (hk.mp (by simpa using h3)) z.2.1
  | done n t y=>
   obtain⟨b1,g,_⟩:=id hat
   refine⟨_,SqT.of g,_,rfl,?_⟩
   dsimp only [aK];refine⟨RKS,3,tR,rfl,C,A.dx,_,.int (cI ps:Int),W.ins,B.cl,B.n2,rfl,?_⟩
   refine bF (fun h=>?_) (fun h=>?_)
   ·exact absurd (of_decide_eq_true h) (by have:=(fX hw 3).mp (fun q _=>by cases q <;> exact Nat.le_of_ble_eq_true rfl);omega)
   ·refine⟨_,SqT.of g,_,rfl,C,A.dx,_,.ref A.d3,W.ins,B.cl,B.n5,rfl,_,DGet.k (k:=Sum.inl (n:Int)) W.g3,?_⟩
    show if (!(bE k3 (Sum.inl (n:Int))).isSome)=true then _ else _
    refine bF (fun h1=>?_) (fun h1=>?_)
    ·refine q false H ⟨(fun z=>nomatch z),fun z=>?_⟩ sr
     obtain⟨_,_,t,p,k,x,hm,_⟩:=z
     rw[(hca n).mpr ⟨_,_,_,_,hm⟩]at h1;cases h1
    ·obtain⟨t0,p,k,x,hm⟩:=(hca n).mp (by simpa using h1)
     refine⟨_,SqT.of g,_,rfl,C,A.dx,_,.ref A.d5,W.ins,B.cl,B.n7,rfl,_,DGet.k (k:=Sum.inl (n:Int)) W.g5,?_⟩
     have hd:=WP.done n
     show if (bE k5 (Sum.inl (n:Int))).isSome=true then _ else _
     refine bF (fun h2=>?_) (fun h2=>?_)
     ·refine q false H ⟨(fun z=>nomatch z),fun z=>?_⟩ sr
      obtain⟨t',y',hm'⟩:=hd.mp h2
      exact absurd hm' (z.2.1 _ _)
     ·have nod:∀t y,.done n t y∉ps:=fun t y hm'=>by rw[hd.mpr ⟨_,_,hm'⟩]at h2;cases h2
      refine⟨_,SqT.of g,_,rfl,C,A.dx,_,.int (cC ps:Int),W.ins,B.cl,B.n3,rfl,?_⟩
      refine bF (fun h3=>?_) (fun h3=>?_)
      ·have ht:=(lR hw t).mpr (by have:=of_decide_eq_true h3;omega)
       refine⟨A.dx,_,W.ins,rfl,a,b,H0,A,ps,n,t,y,t0,p,k,x,rfl,WW,hat,hw,hfr,hfp _ hm,hm,fun fb H' hfb s'=>?_⟩
       refine q fb H' ⟨fun z=>⟨ht,nod,t0,p,k,x,hm,hfb.mp z⟩,fun z=>?_⟩ s'
       obtain⟨_,_,t',p',k',x',hm',hz⟩:=z
       have:=dD hw hm hm'
       cases this
       exact hfb.mpr hz
      ·refine q false H ⟨(fun z=>nomatch z),fun z=>?_⟩ sr
       have:=(lR hw t).mp z.1
       exact absurd (of_decide_eq_false h3) Zo
end
end KL
namespace KL
open PySem L2
section
variable {P:Program} {w:World} {K:W.Frag} {mg:Str->Option Value} {base:Heap}
def s2K (k:List (aT × V)):RX->List (aT × V) | .kept n _ _ _ _ _=>bO k (Sum.inl (n:Int)) (.bl true) | _=>k
def s3K (k:List (aT × V)) (bd:Addr):RX->List (aT × V) | .came n _ _ _ _=>bO k (Sum.inl (n:Int)) (.ref bd) | _=>k
def s4K (k:List (aT × V)):RX->List (aT × V) | .asked n=>bO k (Sum.inl (n:Int)) (.bl true) | _=>k
def s5K (k:List (aT × V)):RX->List (aT × V) | .done n _ _=>bO k (Sum.inl (n:Int)) (.bl true) | _=>k
theorem NumK.put {k:List (aT × V)} {p q:Nat->Prop} (h:NumK k p) (n:Nat) (v:V) (hq:∀m,q m↔p m∨m=n):NumK (bO k (Sum.inl (n:Int)) v) q:=by
 intro m;rw[cP,hq];by_cases e:m=n
 ·subst e;rw[if_pos rfl];simp
 ·rw[if_neg (fun z=>e (by have:=Sum.inl.inj z;omega)),h m]
  exact⟨.inl,fun z=>z.resolve_right e⟩
theorem NumK.iff {k:List (aT × V)} {p q:Nat->Prop} (h:NumK k p) (hq:∀m,q m↔p m):NumK k q:=fun m=>by rw[hq];exact h m
theorem Jf (k:List (aT × V)) (x:aT) (v:V):(bO k x v).length≠0:=by
 unfold bO;split
 ·rename_i h
  cases k with
  | nil=>cases h
  | cons y r=>simp
 ·simp
theorem bR {α:Type} {l:List α} {x y:α}:x∈l++[y]↔x∈l∨x=y:=by simp
theorem WkP.step {H H':Hp} {ps:List RX} {k1 k2 k3 k4 k5:List (aT × V)} (h:WkP H ps k1 k2 k3 k4 k5) (s:TK H H') {r:RX} {b bd:Addr} (hr:r.At H' b) (hb:∀n t p k x,r=.came n t p k x->H' bd=some (.tup x.vs))  :
  WkP H' (ps++[r]) (bO k1 (Sum.inr (bX r)) (.ref b)) (s2K k2 r) (s3K k3 bd r) (s4K k4 r) (s5K k5 r):=by
 have h':=h.tk s
 have lp:∀(k:List (aT × V)) (x:aT) (v:V),k.length<=ps.length->(bO k x v).length<=(ps++[r]).length:=fun k x v l=>by have:=cJ k x v;rw[sK];simp;omega
 have ls:∀(k:List (aT × V)),k.length<=ps.length->k.length<=(ps++[r]).length:=fun k l=>by rw[sK];omega
 refine⟨lp _ _ _ h.l1,?_,?_,?_,?_,⟨⟨fun z=>absurd z (Jf _ _ _),fun z=>by simp at z⟩,fun w e=>?_,fun w q e=>?_⟩,?_,⟨fun n e t p k x hm=>?_,fun n v e=>?_⟩,?_,?_⟩
 ·cases r <;> first | exact lp _ _ _ h.l2 | exact ls _ h.l2
 ·cases r <;> first | exact lp _ _ _ h.l3 | exact ls _ h.l3
 ·cases r <;> first | exact lp _ _ _ h.l4 | exact ls _ h.l4
 ·cases r <;> first | exact lp _ _ _ h.l5 | exact ls _ h.l5
 ·rw[cY]at e;split at e
  ·cases e
  ·rename_i hne
   rw[cP,if_neg (fun z=>hne (Sum.inr.inj z).symm)]
   exact h'.last.no w e
 ·rw[cY]at e;split at e
  ·rename_i hw
   cases e
   rw[cP,if_pos (by rw[hw])]
   exact⟨b,rfl,hr⟩
  ·rename_i hne
   rw[cP,if_neg (fun z=>hne (Sum.inr.inj z).symm)]
   exact h'.last.yes w q e
 ·cases r with
  | kept n t p k x y=>
   refine h.kept.put n _ fun m=>⟨fun⟨t',p',k',x',y',hm⟩=>?_,fun z=>?_⟩
   ·rcases bR.mp hm with hm | hm
    ·exact .inl ⟨_,_,_,_,_,hm⟩
    ·cases hm;exact .inr rfl
   ·rcases z with⟨t',p',k',x',y',hm⟩ | rfl
    ·exact⟨_,_,_,_,_,bR.mpr (.inl hm)⟩
    ·exact⟨_,_,_,_,_,bR.mpr (.inr rfl)⟩
  | _=>
   refine h.kept.iff fun m=>⟨fun⟨t',p',k',x',y',hm⟩=>?_,fun⟨t',p',k',x',y',hm⟩=>⟨_,_,_,_,_,bR.mpr (.inl hm)⟩⟩
   rcases bR.mp hm with hm | hm
   ·exact⟨_,_,_,_,_,hm⟩
   ·cases hm
 ·cases r with
  | came n1 t1 p1 k1' x1=>
   change bE (bO k3 (Sum.inl (n1:Int)) (.ref bd)) _=none at e
   rw[cP]at e;split at e
   ·cases e
   ·rename_i hne
    rcases bR.mp hm with hm | hm
    ·exact h.came.no n e _ _ _ _ hm
    ·cases hm;exact hne rfl
  | _=>
   rcases bR.mp hm with hm | hm
   ·exact h.came.no n e _ _ _ _ hm
   ·cases hm
 ·cases r with
  | came n1 t1 p1 k1' x1=>
   change bE (bO k3 (Sum.inl (n1:Int)) (.ref bd)) _=some v at e
   rw[cP]at e;split at e
   ·rename_i he
    have:n=n1:=by have:=Sum.inl.inj he;omega
    subst this;cases e
    exact⟨bd,t1,p1,k1',x1,rfl,hb _ _ _ _ _ rfl,bR.mpr (.inr rfl)⟩
   ·obtain⟨b',t',p',k',x',h1,h2,h3⟩:=h'.came.yes n v e
    exact⟨b',t',p',k',x',h1,h2,bR.mpr (.inl h3)⟩
  | _=>
   obtain⟨b',t',p',k',x',h1,h2,h3⟩:=h'.came.yes n v e
   exact⟨b',t',p',k',x',h1,h2,bR.mpr (.inl h3)⟩
 ·cases r with
  | asked n=>
   refine h.asked.put n _ fun m=>⟨fun hm=>?_,fun z=>?_⟩
   ·rcases bR.mp hm with hm | hm
    ·exact .inl hm
    ·cases hm;exact .inr rfl
   ·rcases z with hm | rfl
    ·exact bR.mpr (.inl hm)
    ·exact bR.mpr (.inr rfl)
  | _=>
   refine h.asked.iff fun m=>⟨fun hm=>?_,fun hm=>bR.mpr (.inl hm)⟩
   rcases bR.mp hm with hm | hm
   ·exact hm
   ·cases hm
 ·cases r with
  | done n t y=>
   refine h.done.put n _ fun m=>⟨fun⟨t',y',hm⟩=>?_,fun z=>?_⟩
   ·rcases bR.mp hm with hm | hm
    ·exact .inl ⟨_,_,hm⟩
    ·cases hm;exact .inr rfl
   ·rcases z with⟨t',y',hm⟩ | rfl
    ·exact⟨_,_,bR.mpr (.inl hm)⟩
    ·exact⟨_,_,bR.mpr (.inr rfl)⟩
  | _=>
   refine h.done.iff fun m=>⟨fun⟨t',y',hm⟩=>?_,fun⟨t',y',hm⟩=>⟨_,_,bR.mpr (.inl hm)⟩⟩
   rcases bR.mp hm with hm | hm
   ·exact⟨_,_,hm⟩
   ·cases hm
def Ap (C:Addr):Sp:=fun vs H Q _=>∃(a b:Addr) (H0:Hp) (A:WA) (ps:List RX) (r:RX),vs=[.ref a,.ref b]/\WkAt H0 H C a A ps/\r.At H0 b/\ps.length<=200/\∀(v:V) (H':Hp),WkAt H0 H' C a A (ps++[r])->Q v H'
theorem qG {H:Hp} {a:Addr} {k:List (aT × V)} {o:HO} (h:H a=some (.dK k)):TK H (aJ H a o):=fun b xs e=>by rw[aD (eY e h (fun z=>nomatch z))];exact e
theorem Jg {H:Hp} {a C dx:Addr} {fs:List (Str × V)} {o:HO} (h:H a=some (.ins C dx fs)):TK H (aJ H a o):=fun b xs e=>by rw[aD (eY e h (fun z=>nomatch z))];exact e
theorem Jh {C:Addr} (T:Txt K mg) (U:Yn w.params K mg) (B:Ul K C) (D:MethAt K C "step" "Walk.step" gB ["self","row"]):rP P w K mg base 1 C "step" ["self","row"] (Ap C):=by
 refine D.go lI (fun vs H Q E h=>?_) (fun f cdv A outer s H vs Q E hr h=>?_)
 ·obtain⟨a,b,H0,A,ps,r,rfl,_⟩:=h;rfl
 ·obtain⟨a,b,H0,A,ps,r,rfl,⟨WF,s0,k1,k2,k3,k4,k5,W,WP⟩,hat0,hl,q⟩:=h
  have hu1:=eG hr
  obtain⟨aR,m_RANKS,tR⟩:=U.g_RANKS
  have hat:=hat0.tk s0.tk
  obtain⟨xs,g,x0,x1,x2⟩:=eC hat
  have hl1:=WP.l1
  have hl2:=WP.l2
  have hl3:=WP.l3
  have hl4:=WP.l4
  have hl5:=WP.l5
  have sz:∀(k:List (aT × V)),k.length<=ps.length->k.length<sizeLine:=fun k h=>oK (m:=1000) Zo Zd
  refine⟨_,(R.ae (R.ai (i:=2) lI.nd (R.ix (R.af (K:=K)) (R.v 1) R.ac)) (R.ae (R.br (R.v 1) (R.cg (R.ba (K:=K) (R.v 0)) (R.v 2) (R.cq hu1))) (R.ae (R.cx (K:=K) (R.v 0) (R.ix (R.iy (K:=K) (P:=w.params)) (R.gR rfl m_RANKS) (R.v 2))) (R.ae (R.ap (R.ao (R.be (K:=K)) (R.v 2) (R.ak (R.aa R.ag (R.aa R.ag (R.aa R.ag R.ad))))) (R.ah (R.cx (K:=K) (R.v 0) (R.ix (R.af (K:=K)) (R.v 1) R.ac))) R.aq) (R.ae (R.ap (R.ao R.eq (R.v 2) R.ag) (R.ah (R.br R.bl (R.cg (R.ba (K:=K) (R.v 0)) (R.ix (R.af (K:=K)) (R.v 1) R.ac) (R.cq hu1)))) R.aq) (R.ae (R.ap (R.ao R.eq (R.v 2) R.ag) (R.ah (R.br (R.ix (R.af (K:=K)) (R.v 1) R.ac) (R.cg (R.ba (K:=K) (R.v 0)) (R.ix (R.af (K:=K)) (R.v 1) R.ac) (R.cq hu1)))) R.aq) (R.ae (R.ap (R.ao R.eq (R.v 2) R.ag) (R.ah (R.br R.bl (R.cg (R.ba (K:=K) (R.v 0)) (R.ix (R.af (K:=K)) (R.v 1) R.ac) (R.cq hu1)))) R.aq) (R.ah (R.ap (R.ao R.eq (R.v 2) R.ag) (R.ah (R.br R.bl (R.cg (R.ba (K:=K) (R.v 0)) (R.ix (R.af (K:=K)) (R.v 1) R.ac) (R.cq hu1)))) R.aq))))))))),?_⟩
  refine⟨_,SqT.of g,_,x0,?_⟩
  dsimp only [aK];refine⟨C,A.dx,_,.ref A.d1,W.ins,B.cl,B.n1,rfl,A.d1,_,rfl,DPut.k (k:=Sum.inr (bX r)) W.g1 (sz _ hl1),?_⟩
  have W1:=W.put1 WF (bO k1 (Sum.inr (bX r)) (.ref b))
  have t1:TK H (aJ H A.d1 (.dK (bO k1 (Sum.inr (bX r)) (.ref b)))):=qG W.g1
  have s1:Same H0 (aJ H A.d1 (.dK (bO k1 (Sum.inr (bX r)) (.ref b)))):=cH WF.f1 s0
  generalize aJ H A.d1 (.dK (bO k1 (Sum.inr (bX r)) (.ref b)))=H1 at W1 t1 s1;refine⟨RKS,_,tR,Ob r,C,A.dx,_,W1.ins,B.cl,B.n2,Nat.le_of_ble_eq_true rfl,?_⟩
  have e2:bN "last_rank" (.int (r.rank:Int)) (Um A (cI ps) (cC ps))=Um A r.rank (cC ps):=rfl
  rw[e2];have W2:=W1.fld r.rank (cC ps)
  have t2:=t1.trans (Jg (o:=.ins C A.dx (Um A r.rank (cC ps))) W1.ins)
  have s2:Same H0 (aJ H1 a (.ins C A.dx (Um A r.rank (cC ps)))):=cH WF.fa s1
  generalize aJ H1 a (.ins C A.dx (Um A r.rank (cC ps)))=H2 at W2 t2 s2;dsimp only;refine aY (fun σ' H'=>σ'=[some (.ref a),some (.ref b),some (.str (bX r))]/\WkG H' C a A r.rank (cC (ps++[r])) (bO k1 (Sum.inr (bX r)) (.ref b)) k2 k3 k4 k5/\TK H H'/\Same H0 H') (fun nx hnx=>?_) ?_
  ·refine⟨aN rfl,fun tp H3 s3 g3=>⟨tp,_,rfl,.inr (SqT.of g3),rfl,rfl,?_⟩⟩
   have W3:=W2.same s3
   have t3:=t2.trans s3.tk
   have s03:=s2.trans s3
   have et:kU (.str (bX r)) [.str "next",.str "came",.str "done"]=nQ r:=by cases r <;> rfl
   rw[kJ]at hnx;show if kU (.str (bX r)) [.str "next",.str "came",.str "done"]=true then _ else _
   rw[et];refine bF (fun h=>?_) (fun h=>?_)
   ·rw[if_pos h]at hnx;have e2:Nm r=.int (r.turn:Int):=by cases r <;> first | rfl | cases h
    have x2':=x2 (by rw[e2];exact fun z=>nomatch z)
    rw[e2]at x2';refine⟨_,SqT.of (t3 _ _ g),_,x2',C,A.dx,_,W3.ins,B.cl,B.n3,Nat.le_of_ble_eq_true rfl,?_⟩
    exact hnx _ _ ⟨rfl,W3.fld r.rank r.turn,t3.trans (Jg W3.ins),cH WF.fa s03⟩
   ·rw[if_neg (by rw[h];exact Bool.false_ne_true)]at hnx
    exact hnx _ _ ⟨rfl,W3,t3,s03⟩
  rintro σ' H3 ⟨rfl,W3,t3,s3⟩
  have hat3:=hat.tk t3
  rw[<- gV ps r]at W3;cases r with
  | next n t=>exact q _ _ ⟨WF,s3,_,_,_,_,_,W3,WP.step (bd:=a) t3 hat3 (fun _ _ _ _ _ e=>nomatch e)⟩
  | has z m=>exact q _ _ ⟨WF,s3,_,_,_,_,_,W3,WP.step (bd:=a) t3 hat3 (fun _ _ _ _ _ e=>nomatch e)⟩
  | kept n t p k x y=>
   obtain⟨b1,b2,g',_⟩:=id hat3
   refine⟨C,A.dx,_,.ref A.d2,W3.ins,B.cl,B.n4,rfl,_,SqT.of g',_,rfl,A.d2,_,rfl,DPut.k (k:=Sum.inl (n:Int)) W3.g2 (sz _ hl2),?_⟩
   have t4:=t3.trans (qG (o:=.dK (bO k2 (Sum.inl (n:Int)) (.bl true))) W3.g2)
   exact q _ _ ⟨WF,cH WF.f2 s3,_,_,_,_,_,W3.put2 WF _,WP.step (bd:=a) t4 (hat.tk t4) (fun _ _ _ _ _ e=>nomatch e)⟩
  | came n t p k x=>
   obtain⟨b1,g',gd'⟩:=id hat3
   refine⟨_,SqT.of g',_,rfl,C,A.dx,_,.ref A.d3,W3.ins,B.cl,B.n5,rfl,_,SqT.of g',_,rfl,A.d3,_,rfl,DPut.k (k:=Sum.inl (n:Int)) W3.g3 (sz _ hl3),?_⟩
   have t5:=qG (o:=.dK (bO k3 (Sum.inl (n:Int)) (.ref b1))) W3.g3
   have t4:=t3.trans t5
   exact q _ _ ⟨WF,cH WF.f3 s3,_,_,_,_,_,W3.put3 WF _,WP.step (bd:=b1) t4 (hat.tk t4) (fun _ _ _ _ _ e=>by cases e;exact t5 _ _ gd')⟩
  | asked n=>
   refine⟨C,A.dx,_,.ref A.d4,W3.ins,B.cl,B.n6,rfl,_,SqT.of hat3,_,rfl,A.d4,_,rfl,DPut.k (k:=Sum.inl (n:Int)) W3.g4 (sz _ hl4),?_⟩
   have t4:=t3.trans (qG (o:=.dK (bO k4 (Sum.inl (n:Int)) (.bl true))) W3.g4)
   exact q _ _ ⟨WF,cH WF.f4 s3,_,_,_,_,_,W3.put4 WF _,WP.step (bd:=a) t4 (hat.tk t4) (fun _ _ _ _ _ e=>nomatch e)⟩
  | done n t y=>
   obtain⟨b1,g',_⟩:=id hat3
   refine⟨C,A.dx,_,.ref A.d5,W3.ins,B.cl,B.n7,rfl,_,SqT.of g',_,rfl,A.d5,_,rfl,DPut.k (k:=Sum.inl (n:Int)) W3.g5 (sz _ hl5),?_⟩
   have t4:=t3.trans (qG (o:=.dK (bO k5 (Sum.inl (n:Int)) (.bl true))) W3.g5)
   exact q _ _ ⟨WF,cH WF.f5 s3,_,_,_,_,_,W3.put5 WF _,WP.step (bd:=a) t4 (hat.tk t4) (fun _ _ _ _ _ e=>nomatch e)⟩
def Aq (C:Addr):Sp:=fun vs H Q _=>∃(p dx:Addr),vs=[.ref p]/\H p=some (.ins C dx [])/\∀(H':Hp) (A:WA),H A.d1=none->H A.d2=none->H A.d3=none->H A.d4=none->H A.d5=none->[A.d1,A.d2,A.d3,A.d4,A.d5].Nodup->WkG H' C p A 0 0 [] [] [] [] []->(∀b o,H b=some o->b≠p->H' b=some o)->Q .non H'
theorem Ji {C:Addr} (B:Ul K C) (D:ClsAt K mg "Walk" C "Walk.__init__" bZ ["self"] [[]]):∀d∈([[]]:List (List V)),Tn P w K mg base 1 "Walk" C ["self"] d (Aq C):=by
 refine D.go mU (fun vs H Q E h=>?_) (fun f cdv A outer s H vs Q E hr h=>?_)
 ·obtain⟨p,dx,rfl,_⟩:=h;rfl
 ·obtain⟨p,dx,rfl,hp,q⟩:=h
  refine⟨_,(R.ae (R.cx (K:=K) (R.v 0) R.du) (R.ae (R.cx (K:=K) (R.v 0) R.ac) (R.ae (R.cx (K:=K) (R.v 0) R.ac) (R.ae (R.cx (K:=K) (R.v 0) R.du) (R.ae (R.cx (K:=K) (R.v 0) R.du) (R.ae (R.cx (K:=K) (R.v 0) R.du) (R.ah (R.cx (K:=K) (R.v 0) R.du)))))))),?_⟩
  have st:∀ {H1:Hp} {d:Addr} {o o':HO},(∀b u,H b=some u->b≠p->H1 b=some u)->H1 d=none->p≠d->(∀b u,H b=some u->b≠p->(aJ (aJ H1 d o) p o') b=some u)/\H d=none:=fun {H1 d o o'} k hd hpd=>by
   refine⟨fun b u e hb=>?_,?_⟩
   ·rw[aD hb,aD (aE (k b u e hb) hd)];exact k b u e hb
   ·cases e:H d with
    | none=>rfl
    | some u=>rw[k d u e hpd.symm]at hd;cases hd
  intro d1 hd1;have n1:=aE hp hd1
  refine⟨C,dx,_,(by rw[aD n1];exact hp),B.cl,B.n1,(by show 0<1000;decide),?_⟩
  obtain⟨k1,f1⟩:=st (o:=.dK []) (o':=.ins C dx (bN "last_rows" (.ref d1) [])) (fun b u e _=>e) hd1 n1
  have i1:(aJ (aJ H d1 (.dK [])) p (.ins C dx (bN "last_rows" (.ref d1) []))) p=some (.ins C dx [("last_rows",.ref d1)]):=aA
  have a1:(aJ (aJ H d1 (.dK [])) p (.ins C dx (bN "last_rows" (.ref d1) []))) d1=some (.dK []):=by rw[aD n1.symm];exact aA
  dsimp only;generalize aJ (aJ H d1 (.dK [])) p (.ins C dx (bN "last_rows" (.ref d1) []))=H1 at k1 i1 a1;refine⟨C,dx,_,i1,B.cl,B.n2,Nat.le_of_ble_eq_true rfl,?_⟩
  refine⟨C,dx,_,aA,B.cl,B.n3,Nat.le_of_ble_eq_true rfl,?_⟩
  have i2:(aJ (aJ H1 p (.ins C dx (bN "last_rank" (.int 0) [("last_rows",.ref d1)]))) p (.ins C dx (bN "last_turn" (.int 0) (bN "last_rank" (.int 0) [("last_rows",.ref d1)])))) p=some (.ins C dx [("last_rows",.ref d1),("last_rank",.int 0),("last_turn",.int 0)]):=aA
  have a2:(aJ (aJ H1 p (.ins C dx (bN "last_rank" (.int 0) [("last_rows",.ref d1)]))) p (.ins C dx (bN "last_turn" (.int 0) (bN "last_rank" (.int 0) [("last_rows",.ref d1)])))) d1=some (.dK []):=by rw[aD n1.symm,aD n1.symm];exact a1
  have k2:∀b u,H b=some u->b≠p->(aJ (aJ H1 p (.ins C dx (bN "last_rank" (.int 0) [("last_rows",.ref d1)]))) p (.ins C dx (bN "last_turn" (.int 0) (bN "last_rank" (.int 0) [("last_rows",.ref d1)])))) b=some u:=fun b u e hb=>by rw[aD hb,aD hb];exact k1 b u e hb
  generalize aJ (aJ H1 p (.ins C dx (bN "last_rank" (.int 0) [("last_rows",.ref d1)]))) p (.ins C dx (bN "last_turn" (.int 0) (bN "last_rank" (.int 0) [("last_rows",.ref d1)])))=H2 at i2 a2 k2;intro d2 hd2;have n2:=aE i2 hd2
  have m12:=aE a2 hd2
  refine⟨C,dx,_,(by rw[aD n2];exact i2),B.cl,B.n4,Nat.le_of_ble_eq_true rfl,?_⟩
  obtain⟨k3,f2⟩:=st (o:=.dK []) (o':=.ins C dx (bN "kept_numbers" (.ref d2) [("last_rows",.ref d1),("last_rank",.int 0),("last_turn",.int 0)])) k2 hd2 n2
  have i3:(aJ (aJ H2 d2 (.dK [])) p (.ins C dx (bN "kept_numbers" (.ref d2) [("last_rows",.ref d1),("last_rank",.int 0),("last_turn",.int 0)]))) p=some (.ins C dx [("last_rows",.ref d1),("last_rank",.int 0),("last_turn",.int 0),("kept_numbers",.ref d2)]):=aA
  have a3:(aJ (aJ H2 d2 (.dK [])) p (.ins C dx (bN "kept_numbers" (.ref d2) [("last_rows",.ref d1),("last_rank",.int 0),("last_turn",.int 0)]))) d1=some (.dK []):=by rw[aD n1.symm,aD m12];exact a2
  have c3:(aJ (aJ H2 d2 (.dK [])) p (.ins C dx (bN "kept_numbers" (.ref d2) [("last_rows",.ref d1),("last_rank",.int 0),("last_turn",.int 0)]))) d2=some (.dK []):=by rw[aD n2.symm];exact aA
  dsimp only;generalize aJ (aJ H2 d2 (.dK [])) p (.ins C dx (bN "kept_numbers" (.ref d2) [("last_rows",.ref d1),("last_rank",.int 0),("last_turn",.int 0)]))=H3 at k3 i3 a3 c3;intro d3 hd3;have n3:=aE i3 hd3
  have m13:=aE a3 hd3
  have m23:=aE c3 hd3
  refine⟨C,dx,_,(by rw[aD n3];exact i3),B.cl,B.n5,Nat.le_of_ble_eq_true rfl,?_⟩
  obtain⟨k4,f3⟩:=st (o:=.dK []) (o':=.ins C dx (bN "came_deeds" (.ref d3) [("last_rows",.ref d1),("last_rank",.int 0),("last_turn",.int 0),("kept_numbers",.ref d2)])) k3 hd3 n3
  have i4:(aJ (aJ H3 d3 (.dK [])) p (.ins C dx (bN "came_deeds" (.ref d3) [("last_rows",.ref d1),("last_rank",.int 0),("last_turn",.int 0),("kept_numbers",.ref d2)]))) p=some (.ins C dx [("last_rows",.ref d1),("last_rank",.int 0),("last_turn",.int 0),("kept_numbers",.ref d2),("came_deeds",.ref d3)]):=aA
  have a4:(aJ (aJ H3 d3 (.dK [])) p (.ins C dx (bN "came_deeds" (.ref d3) [("last_rows",.ref d1),("last_rank",.int 0),("last_turn",.int 0),("kept_numbers",.ref d2)]))) d1=some (.dK []):=by rw[aD n1.symm,aD m13];exact a3
  have c4:(aJ (aJ H3 d3 (.dK [])) p (.ins C dx (bN "came_deeds" (.ref d3) [("last_rows",.ref d1),("last_rank",.int 0),("last_turn",.int 0),("kept_numbers",.ref d2)]))) d2=some (.dK []):=by rw[aD n2.symm,aD m23];exact c3
  have e4:(aJ (aJ H3 d3 (.dK [])) p (.ins C dx (bN "came_deeds" (.ref d3) [("last_rows",.ref d1),("last_rank",.int 0),("last_turn",.int 0),("kept_numbers",.ref d2)]))) d3=some (.dK []):=by rw[aD n3.symm];exact aA
  dsimp only;generalize aJ (aJ H3 d3 (.dK [])) p (.ins C dx (bN "came_deeds" (.ref d3) [("last_rows",.ref d1),("last_rank",.int 0),("last_turn",.int 0),("kept_numbers",.ref d2)]))=H4 at k4 i4 a4 c4 e4;intro d4 hd4;have n4:=aE i4 hd4
  have m14:=aE a4 hd4
  have m24:=aE c4 hd4
  have m34:=aE e4 hd4
  refine⟨C,dx,_,(by rw[aD n4];exact i4),B.cl,B.n6,Nat.le_of_ble_eq_true rfl,?_⟩
  obtain⟨k5,f4⟩:=st (o:=.dK []) (o':=.ins C dx (bN "asked_numbers" (.ref d4) [("last_rows",.ref d1),("last_rank",.int 0),("last_turn",.int 0),("kept_numbers",.ref d2),("came_deeds",.ref d3)])) k4 hd4 n4
  have i5:(aJ (aJ H4 d4 (.dK [])) p (.ins C dx (bN "asked_numbers" (.ref d4) [("last_rows",.ref d1),("last_rank",.int 0),("last_turn",.int 0),("kept_numbers",.ref d2),("came_deeds",.ref d3)]))) p=some (.ins C dx [("last_rows",.ref d1),("last_rank",.int 0),("last_turn",.int 0),("kept_numbers",.ref d2),("came_deeds",.ref d3),("asked_numbers",.ref d4)]):=aA
  have a5:(aJ (aJ H4 d4 (.dK [])) p (.ins C dx (bN "asked_numbers" (.ref d4) [("last_rows",.ref d1),("last_rank",.int 0),("last_turn",.int 0),("kept_numbers",.ref d2),("came_deeds",.ref d3)]))) d1=some (.dK []):=by rw[aD n1.symm,aD m14];exact a4
  have c5:(aJ (aJ H4 d4 (.dK [])) p (.ins C dx (bN "asked_numbers" (.ref d4) [("last_rows",.ref d1),("last_rank",.int 0),("last_turn",.int 0),("kept_numbers",.ref d2),("came_deeds",.ref d3)]))) d2=some (.dK []):=by rw[aD n2.symm,aD m24];exact c4
  have e5:(aJ (aJ H4 d4 (.dK [])) p (.ins C dx (bN "asked_numbers" (.ref d4) [("last_rows",.ref d1),("last_rank",.int 0),("last_turn",.int 0),("kept_numbers",.ref d2),("came_deeds",.ref d3)]))) d3=some (.dK []):=by rw[aD n3.symm,aD m34];exact e4
  have g5:(aJ (aJ H4 d4 (.dK [])) p (.ins C dx (bN "asked_numbers" (.ref d4) [("last_rows",.ref d1),("last_rank",.int 0),("last_turn",.int 0),("kept_numbers",.ref d2),("came_deeds",.ref d3)]))) d4=some (.dK []):=by rw[aD n4.symm];exact aA
  dsimp only;generalize aJ (aJ H4 d4 (.dK [])) p (.ins C dx (bN "asked_numbers" (.ref d4) [("last_rows",.ref d1),("last_rank",.int 0),("last_turn",.int 0),("kept_numbers",.ref d2),("came_deeds",.ref d3)]))=H5 at k5 i5 a5 c5 e5 g5;intro d5 hd5;have n5:=aE i5 hd5
  have m15:=aE a5 hd5
  have m25:=aE c5 hd5
  have m35:=aE e5 hd5
  have m45:=aE g5 hd5
  refine⟨C,dx,_,(by rw[aD n5];exact i5),B.cl,B.n7,Nat.le_of_ble_eq_true rfl,?_⟩
  obtain⟨k6,f5⟩:=st (o:=.dK []) (o':=.ins C dx (bN "done_numbers" (.ref d5) [("last_rows",.ref d1),("last_rank",.int 0),("last_turn",.int 0),("kept_numbers",.ref d2),("came_deeds",.ref d3),("asked_numbers",.ref d4)])) k5 hd5 n5
  refine q _ ⟨dx,d1,d2,d3,d4,d5⟩ f1 f2 f3 f4 f5 ?_ ⟨aA,?_,?_,?_,?_,?_⟩ k6
  ·simp only [List.nodup_cons,List.mem_cons,List.not_mem_nil,or_false,not_or]
   exact⟨⟨m12,m13,m14,m15⟩,⟨m23,m24,m25⟩,⟨m34,m35⟩,m45,not_false,List.nodup_nil⟩
  ·show(aJ _ p _) d1=_
   rw[aD n1.symm,aD m15];exact a5
  ·show(aJ _ p _) d2=_
   rw[aD n2.symm,aD m25];exact c5
  ·show(aJ _ p _) d3=_
   rw[aD n3.symm,aD m35];exact e5
  ·show(aJ _ p _) d4=_
   rw[aD n4.symm,aD m45];exact g5
  ·show(aJ _ p _) d5=_
   rw[aD n5.symm];exact aA
def Qa:Sp:=fun vs H Q _=>∃(ra:Addr) (rs:List RX) (as:List Addr),vs=[.ref ra]/\RxsAt H ra rs as/\(∀r∈rs,gO r)/\rs.length<=100/\∀(o:Option Nat) (H':Hp),wM rs o->Same H H'->Q (Nv o) H'
theorem uO {C:Addr} (T:Txt K mg) (c_Walk0:Tn P w K mg base 1 "Walk" C ["self"] [] (Aq C)) (c_Walk_fits:rP P w K mg base 6 C "fits" ["self","row"] (Ao C)) (c_Walk_step:rP P w K mg base 1 C "step" ["self","row"] (Ap C))
  (D:DefAt K mg "first_odd" gC ["rows"]):aG P w K mg base 7 "first_odd" ["rows"] Qa:=by
 refine D.go fN (fun vs H Q E h=>?_) (fun f cdv A outer s H vs Q E hr h=>?_)
 ·obtain⟨ra,rs,as,rfl,_⟩:=h;rfl
 ·obtain⟨ra,rs,as,rfl,RR,hf,hl,q⟩:=h
  have hr_Walk:Room 2 _:=hr.mono Zd
  have hr_Walk_fits:Room 6 _:=hr
  have hr_Walk_step:Room 1 _:=hr.mono Zd
  have le:=RR.len
  refine⟨_,(R.ae (R.ai (i:=1) fN.nd (R.jh c_Walk0 hr_Walk rfl)) (R.ae (R.bp PassesOwn.never rfl (R.gk (K:=K) rfl T.b_enumerate (R.v 0)) (R.de (K:=K) (n:=2) rfl (R.bb (R.gn (i:=2) fN.nd) (R.bb (R.gn (i:=3) fN.nd) R.df))) (R.ae (R.ap (R.db (R.bq (R.cn c_Walk_fits hr_Walk_fits (R.v 1) (R.aa (R.v 3) R.ad)))) (R.ah (R.al (R.v 2))) R.aq) (R.ah (R.bn (R.cn c_Walk_step hr_Walk_step (R.v 1) (R.aa (R.v 3) R.ad)))))) (R.ah (R.al R.bh)))),?_⟩
  refine fun a dx ha hdx hne=>?_
  refine⟨a,dx,rfl,aA,fun H1 A f1 f2 f3 f4 f5 nd W1 k1=>⟨rfl,?_⟩⟩
  have fr:∀ {d:Addr},(aJ (aJ H dx (.own a)) a (.ins C dx [])) d=none->H d=none:=fun {d} e=>by
   by_cases h1:d=a
   ·rw[h1,aA]at e;cases e
   ·by_cases h2:d=dx
    ·rw[h2];exact hdx
    ·rw[aD h1,aD h2]at e;exact e
  have s1:Same H H1:=fun c o e=>k1 c o (by rw[aD (aE e ha),aD (aE e hdx)];exact e) (aE e ha)
  have WF:WkF H a A:=⟨ha,fr f1,fr f2,fr f3,fr f4,fr f5,nd⟩
  have W0:WkAt H H1 C a A []:=⟨WF,s1,[],[],[],[],[],W1,⟨bM _,bM _,bM _,bM _,bM _,⟨⟨fun _=>rfl,fun _=>rfl⟩,fun _ _=>rfl,(fun _ _ e=>nomatch e)⟩,fun n=>⟨(fun z=>nomatch z),fun⟨_,_,_,_,_,z⟩=>nomatch z⟩,⟨(fun _ _ _ _ _ _ z=>nomatch z),(fun _ _ e=>nomatch e)⟩,fun n=>⟨(fun z=>nomatch z),(fun z=>nomatch z)⟩,fun n=>⟨(fun z=>nomatch z),fun⟨_,_,z⟩=>nomatch z⟩⟩⟩
  dsimp only [aK];refine aY (fun σ' H'=>RX.Whole rs/\Same H H') (fun nx hnx=>?_) ?_
  ·refine⟨_,SqL.of (s1 _ _ RR.lst),vT (xs:=as.map V.ref) (fun i σ' H'=>∃o2 o3,σ'=[some (.ref ra),some (.ref a),o2,o3]/\WkAt H H' C a A (rs.take i)/\RX.Whole (rs.take i)) (fun i σ' H' ⟨_,_,_,W',_⟩=>SqL.of (W'.2.1 _ _ RR.lst)) ⟨_,_,rfl,W0,.nil⟩ ?_ ?_⟩
   ·rintro i x σ' H2 te hx ⟨o2,o3,rfl,W2,hw⟩ hte
    obtain⟨b,r,rfl,hb,hrr,hat⟩:=RR.get hx
    have hil:i<rs.length:=(Zgs.mp hrr).1
    have se:=aF (o:=.tup [.int (i:Int),.ref b]) hte
    refine⟨te,_,rfl,SqT.of aA,rfl,_,_,rfl,_,_,rfl,rfl,?_⟩
    generalize aJ H2 te (.tup [.int (i:Int),.ref b])=H3 at se;replace W2:=W2.same se
    have⟨_,s3,k1',k2',k3',k4',k5',WG,_⟩:=W2
    dsimp only [aK];refine⟨A.dx,_,WG.ins,rfl,a,b,H,A,rs.take i,r,rfl,W2,hat.tk s3.tk,hw,fun q hq=>hf q (List.mem_of_mem_take hq),hf r (gX hrr),fun fb H4 hfb s4=>?_⟩
    have W4:=W2.same s4
    have⟨_,s04,_,_,_,_,_,WG4,_⟩:=W4
    cases fb with
    | false=>exact q (some i) H4 ⟨r,hrr,hw,fun z=>by have:=hfb.mpr z;cases this⟩ s04
    | true=>
     have hfit:=hfb.mp rfl
     refine⟨A.dx,_,WG4.ins,rfl,a,b,H,A,rs.take i,r,rfl,W4,hat,by rw[nF];omega,fun v H5 W5=>?_⟩
     rw[<- bP hrr]at W5;exact⟨_,_,rfl,W5,by rw[bP hrr];exact hw.snoc hfit⟩
   ·rintro σ' H2 ⟨o2,o3,rfl,W2,hw⟩
    rw[bG,<- le,rA (bM _)]at hw;exact hnx _ _ ⟨hw,W2.2.1⟩
  ·rintro σ' H2 ⟨hw,s2⟩
   exact q none H2 hw s2
end
end KL
namespace KL
open PySem L2
section
variable {P:Program} {w:World} {K:W.Frag} {mg:Str->Option Value} {base:Heap}
theorem MenusAt.new {H:Hp} {lm p:Addr} {M:List Addr} (h:MenusAt H lm M) (hp:H p=none):p∉M:=by
 obtain⟨a0,a1,a2,a3,ws,us,ps,ks,rfl,h0,h1,h2,h3,h4,_⟩:=h.ex
 intro hm;simp only [List.mem_cons,List.not_mem_nil,or_false]at hm
 rcases hm with rfl | rfl | rfl | rfl | rfl
 ·rw[h0]at hp;cases hp
 ·rw[h1]at hp;cases hp
 ·rw[h2]at hp;cases hp
 ·rw[h3]at hp;cases hp
 ·rw[h4]at hp;cases hp
theorem Jj (r:RX):kU (.str (bX r)) [.str "next",.str "came",.str "done"]=nQ r:=by cases r <;> rfl
theorem Jk {r:RX} (h:nQ r=true):Nm r=.int (r.turn:Int):=by cases r <;> first | rfl | cases h
theorem Paired.take {α β:Type} {R:α->β->Prop}:∀ {xs:List α} {ys:List β} (k:Nat),Paired R xs ys->Paired R (xs.take k) (ys.take k)
 | _,_,0,_=>by simp only [List.take_zero];exact .nil
 | _,_,k+1,.nil=>.nil
 | _,_,k+1,.cons h t=>.cons h (Paired.take k t)
theorem Paired.drop {α β:Type} {R:α->β->Prop}:∀ {xs:List α} {ys:List β} (k:Nat),Paired R xs ys->Paired R (xs.drop k) (ys.drop k)
 | _,_,0,h=>h
 | _,_,k+1,.nil=>.nil
 | _,_,k+1,.cons h t=>Paired.drop k t
theorem Paired.app {α β:Type} {R:α->β->Prop}:∀ {xs:List α} {ys:List β} {xs':List α} {ys':List β},Paired R xs ys->Paired R xs' ys'->Paired R (xs++xs') (ys++ys')
 | _,_,_,_,.nil,h=>h
 | _,_,_,_,.cons h t,h'=>.cons h (Paired.app t h')
theorem Jl {H:Hp} {ra p:Addr} {rs:List RX} {as:List Addr} (h:RxsAt H ra rs as) (k:Nat) (g:H p=some (.lst (fI (as.map V.ref) none (some (k:Int))))):RxsAt H p (rs.take k) (as.take k):=
 ⟨by rw[g,tQ,tP],Paired.take k h.each⟩
theorem Jm {H:Hp} {ra p:Addr} {rs:List RX} {as:List Addr} (h:RxsAt H ra rs as) (k:Nat) (g:H p=some (.lst (fI (as.map V.ref) (some (k:Int)) none))):RxsAt H p (rs.drop k) (as.drop k):=
 ⟨by rw[g,tQ,vI],Paired.drop k h.each⟩
theorem Oc {H:Hp} {p p' q:Addr} {rs rs':List RX} {as as':List Addr} (h:RxsAt H p rs as) (h':RxsAt H p' rs' as') (g:H q=some (.lst (as.map V.ref++as'.map V.ref))):RxsAt H q (rs++rs') (as++as'):=
 ⟨by rw[g,jF],Paired.app h.each h'.each⟩
theorem Ar {H:Hp} {p a:Addr} {r:RX} (h:r.At H a) (g:H p=some (.lst [.ref a])):RxsAt H p [r] [a]:=⟨g,.cons h .nil⟩
theorem slt {H:Hp} {ra p:Addr} {rs:List RX} {as:List Addr} (h:RxsAt H ra rs as) (hp:H p=none) (k:Nat):Same H (aJ H p (.lst (fI (as.map V.ref) none (some (k:Int)))))/\RxsAt (aJ H p (.lst (fI (as.map V.ref) none (some (k:Int))))) p (rs.take k) (as.take k):=⟨aF hp,Jl (h.same (aF hp)) k aA⟩
theorem sld {H:Hp} {ra p:Addr} {rs:List RX} {as:List Addr} (h:RxsAt H ra rs as) (hp:H p=none) (k:Nat):Same H (aJ H p (.lst (fI (as.map V.ref) (some (k:Int)) none)))/\RxsAt (aJ H p (.lst (fI (as.map V.ref) (some (k:Int)) none))) p (rs.drop k) (as.drop k):=⟨aF hp,Jm (h.same (aF hp)) k aA⟩
theorem Od {H:Hp} {p p' l:Addr} {rs rs':List RX} {as as':List Addr} (h:RxsAt H p rs as) (h':RxsAt H p' rs' as') (hl:H l=none):Same H (aJ H l (.lst (as.map V.ref++as'.map V.ref)))/\RxsAt (aJ H l (.lst (as.map V.ref++as'.map V.ref))) l (rs++rs') (as++as'):=⟨aF hl,Oc (h.same (aF hl)) (h'.same (aF hl)) aA⟩
theorem Oe {H H':Hp} {p p':Addr} {rs rs':List RX} {as as':List Addr} (h:RxsAt H p rs as) (h':RxsAt H' p' rs' as') (hl:rs.length+rs'.length<=200):(as.map V.ref).length+(as'.map V.ref).length<=sizeLine:=by
 have:=h.len;have:=h'.len;rw[bG,bG];exact gY Zo
theorem As {K:W.Frag} {js:List (Option Nat)} {tt:TT} {te:TE} {σ:St} {H:Hp} {Q:List V->Hp->Prop} {ra:Addr} {rs:List RX} {as:List Addr} (RR:RxsAt H ra rs as) (hl:rs.length<=100) (Pp:RX->Bool) (f:RX->Addr->V)
  (ht:∀(a:Addr) (r:RX) (H':Hp) (k:Bool->Hp->Prop),r∈rs->r.At H' a->Same H H'->(∀H'',Same H' H''->k (Pp r) H'')->tt ((qO js σ).set 0 (some (.ref a))) H' k)
  (he:∀(a:Addr) (r:RX) (H':Hp) (Q':VK),r∈rs->Pp r=true->r.At H' a->Q' (f r a) H'->te ((qO js σ).set 0 (some (.ref a))) H' Q')
  (hd:∀(prs:List (RX × Addr)) (H':Hp),Same H H'->(∀p∈prs,p.1∈rs/\Pp p.1=true/\p.1.At H' p.2)->(∀r∈rs,Pp r=true->∃a,(r,a)∈prs)->prs.length<=rs.length->Q (prs.map fun p=>f p.1 p.2) H') :
  kI js (aK 0) tt te σ (Re K ra) H Q:=by
 have le:=RR.len
 refine bT (cU K ra (as.map V.ref)) (by rw[bG];omega) (fun i ys H'=>∃prs:List (RX × Addr),ys=prs.map (fun p=>f p.1 p.2)/\prs.length<=i/\(∀p∈prs,p.1∈rs/\Pp p.1=true/\p.1.At H' p.2)/\(∀r∈rs.take i,Pp r=true->∃a,(r,a)∈prs)/\Same H H')
  (fun i ys H' ⟨prs,e,l',_,_,s'⟩=>⟨SqL.of (s' _ _ RR.lst),by rw[e,bG];exact l'⟩) ⟨[],rfl,bM _,(fun _ h=>nomatch h),(fun _ h=>by simp at h),Same.refl _⟩ (fun i x ys H' hx ⟨prs,e,l',h1,h2,s'⟩=>?_) (fun ys H' ⟨prs,e,l',h1,h2,s'⟩=>?_)
 ·obtain⟨a,r,rfl,ha,hrr,hat⟩:=(RR.same s').get hx
  have hm:=gX hrr
  have etk:rs.take (i+1)=rs.take i++[r]:=bP hrr
  refine ht a r H' _ hm hat s' fun H'' s''=>?_
  have h1':∀p∈prs,p.1∈rs/\Pp p.1=true/\p.1.At H'' p.2:=fun p hp=>⟨(h1 p hp).1,(h1 p hp).2.1,(h1 p hp).2.2.tk s''.tk⟩
  cases hp:Pp r with
  | true=>
   refine he a r H'' _ hm hp (hat.tk s''.tk) ⟨prs++[(r,a)],by rw[e,jF];rfl,by simp;omega,fun p hp'=>?_,fun r' hr' hpr=>?_,s'.trans s''⟩
   ·rcases aH hp' with hp' | rfl
    ·exact h1' p hp'
    ·exact⟨hm,hp,hat.tk s''.tk⟩
   ·rw[etk]at hr';rcases aH hr' with hr' | rfl
    ·obtain⟨a',ha'⟩:=h2 r' hr' hpr;exact⟨a',List.mem_append_left _ ha'⟩
    ·exact⟨a,List.mem_append_right _ kG⟩
  | false=>
   refine⟨prs,e,Zo,h1',fun r' hr' hpr=>?_,s'.trans s''⟩
   rw[etk]at hr';rcases aH hr' with hr' | rfl
   ·exact h2 r' hr' hpr
   ·rw[hp]at hpr;cases hpr
 ·rw[bG,<- le,rA (bM _)]at h2;rw[bG,<- le]at l';rw[e];exact hd prs H' s' h1 h2 l'
def Do:RX->Nat | .next n _=>n | .has _ _=>0 | .kept n _ _ _ _ _=>n | .came n _ _ _ _=>n | .asked n=>n | .done n _ _=>n
theorem Uo {r:RX} (h:nP r=false):Ii r=.int (Do r:Int):=by cases r <;> first | rfl | cases h
def Yo:RX->Bool | .came _ _ _ _ _=>true | _=>false
theorem Og (r:RX):decide (bX r="came")=Yo r:=by cases r <;> rfl
def nI (ns:List Nat):List V:=ns.map fun n:Nat=>V.int (n:Int)
end
end KL
namespace KL
open PySem L2
section
variable {P:Program} {w:World} {K:W.Frag} {mg:Str->Option Value} {base:Heap}
theorem yL (T:Txt K mg) (D:DefAt K mg "done_changes" cV ["deed"]):aG P w K mg base 1 "done_changes" ["deed"] mO:=by
 refine D.go jD (fun vs H Q E h=>?_) (fun f cdv A outer s H vs Q E hr h=>?_)
 ·obtain⟨p,wd,xs,cs,as,rfl,_⟩:=h;rfl
 ·obtain⟨p,wd,xs,cs,as,rfl,hp,⟨one,other,nm,n,hd⟩,q⟩:=h
  refine⟨_,(R.ae (R.ap (R.ao R.eq (R.ix (R.af (K:=K)) (R.v 0) R.ac) R.ag) (R.ah (R.al (R.ak R.ad))) R.aq) (R.ae (R.ap (R.ao R.eq (R.ix (R.af (K:=K)) (R.v 0) R.ac) R.ag) (R.ah (R.al (R.ak (R.aa (R.ak (R.aa (R.ix (R.af (K:=K)) (R.v 0) R.ac) (R.aa (R.ax (R.ix (R.af (K:=K)) (R.v 0) (R.ax R.ac))) R.ad))) (R.aa (R.ak (R.aa (R.ix (R.af (K:=K)) (R.v 0) R.ac) (R.aa (R.ix (R.af (K:=K)) (R.v 0) (R.ax R.ac)) R.ad))) R.ad))))) R.aq) (R.ae (R.ap (R.ao (R.be (K:=K)) (R.ix (R.af (K:=K)) (R.v 0) R.ac) (R.ak (R.aa R.ag (R.aa R.ag R.ad)))) (R.ah (R.al (R.ak (R.aa (R.ak (R.aa (R.ix (R.af (K:=K)) (R.v 0) (R.ax R.ac)) (R.aa (R.ax (R.ix (R.af (K:=K)) (R.v 0) (R.ax R.ac))) R.ad))) R.ad)))) R.aq) (R.ah (R.al (R.ak (R.aa (R.ak (R.aa (R.ix (R.af (K:=K)) (R.v 0) (R.ax R.ac)) (R.aa (R.ix (R.af (K:=K)) (R.v 0) (R.ax R.ac)) R.ad))) R.ad))))))),?_⟩
  have z1:∀ {H':Hp} {a:Addr} {x:Str} {i:Int},H' a=some (.tup [.str x,.int i])->Ck H' [(a,x,i)]:=fun h z hz=>by
   rw[Zms.mp hz];exact h
  have two:∀(nm:Str) (i:Int),H p=some (.tup xs)->kT xs (-2)=some (.str nm)->kT xs (-1)=some (.int i)->True:=fun _ _ _ _ _=>trivial
  cases hd with
  | add=>
   refine⟨_,SqT.of hp,_,rfl,?_⟩
   refine⟨_,SqT.of hp,_,rfl,?_⟩
   refine⟨_,SqT.of hp,_,rfl,Zs,fun p1 H1 s1 g1=>⟨p1,_,rfl,.inr (SqT.of g1),rfl,rfl,?_⟩⟩
   refine⟨_,SqT.of (s1 _ _ hp),_,rfl,_,SqT.of (s1 _ _ hp),_,rfl,Zs,fun p2 H2 s2 g2=>⟨Zs,fun p3 H3 s3 g3=>q p3 [(p2,nm,n)] H3 ((s1.trans s2).trans s3) g3 (z1 (s3 _ _ g2)) rfl⟩⟩
  | take=>
   refine⟨_,SqT.of hp,_,rfl,?_⟩
   refine⟨_,SqT.of hp,_,rfl,?_⟩
   refine⟨_,SqT.of hp,_,rfl,Zs,fun p1 H1 s1 g1=>⟨p1,_,rfl,.inr (SqT.of g1),rfl,rfl,?_⟩⟩
   refine⟨_,SqT.of (s1 _ _ hp),_,rfl,_,SqT.of (s1 _ _ hp),_,rfl,Zs,fun p2 H2 s2 g2=>⟨Zs,fun p3 H3 s3 g3=>q p3 [(p2,nm,-n)] H3 ((s1.trans s2).trans s3) g3 (z1 (s3 _ _ g2)) rfl⟩⟩
  | move=>
   refine⟨_,SqT.of hp,_,rfl,?_⟩
   refine⟨_,SqT.of hp,_,rfl,?_⟩
   refine⟨_,SqT.of hp,_,rfl,_,SqT.of hp,_,rfl,Zs,fun p2 H2 s2 g2=>⟨_,SqT.of (s2 _ _ hp),_,rfl,_,SqT.of (s2 _ _ hp),_,rfl,Zs,fun p3 H3 s3 g3=>⟨Zs,fun p4 H4 s4 g4=>?_⟩⟩⟩
   refine q p4 [(p2,one,-n),(p3,other,n)] H4 ((s2.trans s3).trans s4) g4 (fun z hz=>?_) rfl
   rcases List.mem_cons.mp hz with rfl | hz
   ·exact s4 _ _ (s3 _ _ g2)
   ·rw[Zms.mp hz];exact s4 _ _ g3
  | send=>
   refine⟨_,SqT.of hp,_,rfl,?_⟩
   refine⟨_,SqT.of hp,_,rfl,?_⟩
   refine⟨_,SqT.of hp,_,rfl,Zs,fun p1 H1 s1 g1=>⟨p1,_,rfl,.inr (SqT.of g1),rfl,rfl,?_⟩⟩
   refine⟨_,SqT.of (s1 _ _ hp),_,rfl,_,SqT.of (s1 _ _ hp),_,rfl,Zs,fun p2 H2 s2 g2=>⟨Zs,fun p3 H3 s3 g3=>q p3 [(p2,nm,-n)] H3 ((s1.trans s2).trans s3) g3 (z1 (s3 _ _ g2)) rfl⟩⟩
  | fetch=>
   refine⟨_,SqT.of hp,_,rfl,?_⟩
   refine⟨_,SqT.of hp,_,rfl,?_⟩
   refine⟨_,SqT.of hp,_,rfl,Zs,fun p1 H1 s1 g1=>⟨p1,_,rfl,.inr (SqT.of g1),rfl,rfl,?_⟩⟩
   refine⟨_,SqT.of (s1 _ _ hp),_,rfl,_,SqT.of (s1 _ _ hp),_,rfl,Zs,fun p2 H2 s2 g2=>⟨Zs,fun p3 H3 s3 g3=>q p3 [(p2,nm,n)] H3 ((s1.trans s2).trans s3) g3 (z1 (s3 _ _ g2)) rfl⟩⟩
  | pass=>
   refine⟨_,SqT.of hp,_,rfl,?_⟩
   exact⟨Zd,fun p1 H1 s1 g1=>q p1 [] H1 s1 g1 (fun _ h=>nomatch h) rfl⟩
theorem wO {H:Hp} {zs:List Z} (h:Ck H zs) {i:Nat} {x:V} (hx:(fA zs)[i]?=some x):∃z,zs[i]?=some z/\x=.ref z.1/\H z.1=some (.tup [.str z.2.1,.int z.2.2]):=by
 unfold fA at hx;rw[kE]at hx;cases hn:zs[i]? with
 | none=>rw[hn]at hx;cases hx
 | some z=>
  rw[hn]at hx;cases hx
  exact⟨z,rfl,rfl,h z (gX hn)⟩
theorem qH {C:Addr} (T:Txt K mg) (B:To K C) (c_done_changes:aG P w K mg base 1 "done_changes" ["deed"] mO) (c_Book_amount:rP P w K mg base 1 C "amount" ["self","name"] (iE C))
  (D:DefAt K mg "done_answer" dI ["book","deed"]):aG P w K mg base 2 "done_answer" ["book","deed"] (mP C):=by
 refine D.go pK (fun vs H Q E h=>?_) (fun f cdv A outer s H vs Q E hr h=>?_)
 ·obtain⟨b,p,wd,xs,cs,as,prs,rfl,_⟩:=h;rfl
 ·obtain⟨b,p,wd,xs,cs,as,prs,rfl,bk,hp,hd,q⟩:=h
  have hr_done_changes:=hr
  have hr_Book_amount:=hr
  refine⟨_,(R.ah (R.al (R.bj (R.ji (K:=K)) rfl T.b_tuple vH (R.aa (R.op R.bw (R.av (R.aa R.ag R.ad)) (R.bc rfl (js:=[none,none,some 0]) (N:=["name","by","book"]) (CompScope.by (aB dI) ["book","deed"] rfl rfl Zk) (oX (eI rfl (eI rfl mH))) (R.fh (K:=K) (R.fn c_done_changes hr_done_changes rfl (R.aa (R.v 1) R.ad))) (fun C s₂ H₂ fp=>⟨(R.de (K:=K) (n:=2) rfl (R.bb (R.gn (i:=0) (show(["name","by","book"]:List Str).Nodup by decide +kernel)) (R.bb (R.gn (i:=1) (show(["name","by","book"]:List Str).Nodup by decide +kernel)) R.df))),R.dt,(R.op R.au (R.cn c_Book_amount hr_Book_amount (R.v 2) (R.aa (R.v 0) R.ad)) (R.v 1))⟩))) R.ad)))),?_⟩
  refine⟨dR rfl,fun l0 h0=>⟨p,wd,xs,cs,as,rfl,aF h0 _ _ hp,hd,fun t zs H1 s1 g1 hz hm=>⟨t,rfl,⟨_,SqT.of g1⟩,?_⟩⟩⟩
  have s01:Same H H1:=(aF h0).trans s1
  have bk1:=bk.same s01
  have hlen:zs.length<=2:=by
   obtain⟨one,other,nm,n,hd⟩:=hd
   have:=congrArg List.length hm
   rw[bG]at this;rw[this];cases hd <;> simp
  refine bT (lA K t (fA zs)) (by unfold fA;rw[bG];omega) (fun i ys H'=>H'=H1/\ys=((zs.map (·.2)).take i).map fun q=>V.int (dE prs q.1+q.2)) (fun i ys H' ⟨e,e2⟩=>⟨by rw[e];exact SqT.of g1,by rw[e2,bG,nF];exact Nat.min_le_left _ _⟩) ⟨rfl,rfl⟩ (fun i x ys H' hx ⟨e,e2⟩=>?_) (fun ys H' ⟨e,e2⟩=>?_)
  ·subst e;obtain⟨z,hn,rfl,gz⟩:=wO hz hx
   obtain⟨dx,d,h1,h2⟩:=id bk1.ex
   refine⟨z.1,_,rfl,SqT.of gz,rfl,_,_,rfl,_,_,rfl,rfl,dx,_,h1,pF _ Zk,b,z.2.1,prs,rfl,bk1,rfl,?_⟩
   rw[bP (x:=z.2) (by rw[kE,hn];rfl),jF,e2]
   rfl
  ·subst e;intro l1 h1;have e3:ys=cs.map fun q=>V.int (dE prs q.1+q.2):=by
    rw[e2,hm];have:(fA zs).length=cs.length:=by rw[<- hm];unfold fA;rw[bG,bG]
    rw[this,List.take_length]
   have gl0:H' l0=some (.lst [.str "is"]):=s1 _ _ aA
   refine⟨[.str "is"],ys,aF h1 _ _ gl0,aA,gY (by rw[e3,bG,<- hm,bG];simp;omega),fun l2 h2=>⟨_,SqL.of aA,fun t2 ht2=>?_⟩⟩
   refine q t2 _ (((s01.trans (aF h1)).trans (aF h2)).trans (aF ht2)) ?_
   rw[aA,e3];rfl
theorem Dp {C:Addr} (T:Txt K mg) (B:To K C) (c_done_changes:aG P w K mg base 1 "done_changes" ["deed"] mO) (c_asks_of:aG P w K mg base 1 "asks_of" ["deed"] kO) (c_Book_amount:rP P w K mg base 1 C "amount" ["self","name"] (iE C))
  (c_done_answer:aG P w K mg base 2 "done_answer" ["book","deed"] (mP C)) (D:DefAt K mg "early" oE ["book","deed"]):aG P w K mg base 3 "early" ["book","deed"] (zR C):=by
 refine D.go lG (fun vs H Q E h=>?_) (fun f cdv A outer s H vs Q E hr h=>?_)
 ·obtain⟨b,p,wd,xs,cs,as,prs,rfl,_⟩:=h;rfl
 ·obtain⟨b,p,wd,xs,cs,as,prs,rfl,bk,hp,hd,q⟩:=h
  have hr_done_changes:Room 1 _:=hr.mono Zd
  have hr_asks_of:Room 1 _:=hr.mono Zd
  have hr_Book_amount:Room 1 _:=hr.mono Zd
  have hr_done_answer:=hr
  refine⟨_,(R.ae (R.bp PassesOwn.never rfl (R.fh (K:=K) (R.fn c_done_changes hr_done_changes rfl (R.aa (R.v 1) R.ad))) (R.de (K:=K) (n:=2) rfl (R.bb (R.gn (i:=2) lG.nd) (R.bb (R.gn (i:=3) lG.nd) R.df))) (R.ae (R.ai (i:=4) lG.nd (R.cn c_Book_amount hr_Book_amount (R.v 0) (R.aa (R.v 2) R.ad))) (R.ae (R.ap (R.tw (R.bv (R.ao R.lt (R.v 3) R.ac) (R.cj (R.ao R.lt (R.op R.au (R.v 4) (R.v 3)) R.ac)))) (R.ah (R.al (R.ak (R.aa R.ag (R.aa (R.v 4) R.ad))))) R.aq) (R.ah (R.ap (R.tw (R.bv (R.ao R.gt (R.v 3) R.ac) (R.cj (R.ao R.gt (R.op R.au (R.v 4) (R.v 3)) (R.gI rfl T.g_MOST))))) (R.ah (R.al (R.ak (R.aa R.ag (R.aa (R.v 4) R.ad))))) R.aq))))) (R.ae (R.ap (R.ao R.gt (R.aw (R.az (K:=K)) rfl T.b_len bC (R.aa (R.fn c_asks_of hr_asks_of rfl (R.aa (R.v 1) R.ad)) R.ad)) R.ac) (R.ah (R.al R.bh)) R.aq) (R.ah (R.al (R.fn c_done_answer hr_done_answer rfl (R.aa (R.v 0) (R.aa (R.v 1) R.ad))))))),?_⟩
  refine⟨p,wd,xs,cs,as,rfl,hp,hd,fun t zs H1 s1 g1 hz hm=>⟨t,rfl,⟨_,SqT.of g1⟩,?_⟩⟩
  have bk1:=bk.same s1
  have hp1:=s1 _ _ hp
  refine dM (lA K t (fA zs)) (fun i σ H'=>Same H1 H'/\(∃o2 o3 o4:Option V,σ=[some (.ref b),some (.ref p),o2,o3,o4])/\iF (dE prs) (lC (dE prs) cs as) cs=iF (dE prs) (lC (dE prs) cs as) (cs.drop i)) (fun i σ H' ⟨s',_⟩=>SqT.of (s' _ _ g1)) ⟨Same.refl _,⟨_,_,_,rfl⟩,rfl⟩ ?_ ?_
  ·rintro i x σ H2 hx ⟨s2,⟨o2,o3,o4,rfl⟩,he⟩
   obtain⟨z,hn,rfl,gz⟩:=wO (fun z m=>s2 _ _ (hz z m)) hx
   have bk2:=bk1.same s2
   obtain⟨dx,d,h1,h2⟩:=id bk2.ex
   have hcs:cs.drop i=z.2::cs.drop (i+1):=by
    have:cs[i]?=some z.2:=by rw[<- hm,kE,hn];rfl
    obtain⟨hi,e⟩:=Zgs.mp this
    rw[List.drop_eq_getElem_cons hi,e]
   rw[hcs,vM]at he;refine⟨z.1,_,rfl,SqT.of gz,rfl,_,_,rfl,_,_,rfl,rfl,dx,_,h1,pF _ Zk,b,z.2.1,prs,rfl,bk2,?_⟩
   dsimp only [aK];have fin:∀u:TV,iF (dE prs) (lC (dE prs) cs as) cs=u->∀v H',Same H2 H'->RepT H' 1 u v->Q v H':=fun u e v H' s' r=>q v H' ((s1.trans s2).trans s') (by rw[e];exact r)
   refine Xd (t:=Jy _ _) (fun v H'=>v=decide (z.2.2<0/\dE prs z.2.1+z.2.2<0)/\H'=H2) (fun k hk=>?_) ?_
   ·refine bF (fun h=>?_) (fun h=>?_)
    ·exact hk _ _ ⟨by rw[Bool.decide_and,h];rfl,rfl⟩
    ·exact hk _ _ ⟨by rw[Bool.decide_and,h];rfl,rfl⟩
   rintro v H' ⟨rfl,rfl⟩
   refine bF (fun h=>?_) (fun h=>?_)
   ·rw[if_pos (of_decide_eq_true h)]at he;exact⟨Zs,fun t2 H3 s3 g3=>fin _ he _ H3 s3 ⟨t2,_,rfl,g3,.cons .s (.cons .i .nil)⟩⟩
   rw[if_neg (of_decide_eq_false h)]at he;dsimp only [Dx];refine Xd (t:=Jy _ _) (fun v H''=>v=decide (0<z.2.2/\1000000000000<dE prs z.2.1+z.2.2)/\H''=H') (fun k hk=>?_) ?_
   ·refine bF (fun h=>?_) (fun h=>?_)
    ·exact hk _ _ ⟨by rw[Bool.decide_and,h];rfl,rfl⟩
    ·exact hk _ _ ⟨by rw[Bool.decide_and,h];rfl,rfl⟩
   rintro v H'' ⟨rfl,rfl⟩
   refine bF (fun h=>?_) (fun h=>?_)
   ·rw[if_pos (of_decide_eq_true h)]at he;exact⟨Zs,fun t2 H3 s3 g3=>fin _ he _ H3 s3 ⟨t2,_,rfl,g3,.cons .s (.cons .i .nil)⟩⟩
   rw[if_neg (of_decide_eq_false h)]at he;exact⟨s2,⟨_,_,_,rfl⟩,he⟩
  ·rintro σ H2 ⟨s2,⟨o2,o3,o4,rfl⟩,he⟩
   have el:(fA zs).length=cs.length:=by rw[<- hm];unfold fA;rw[bG,bG]
   rw[el,List.drop_length]at he;have he':iF (dE prs) (lC (dE prs) cs as) cs=lC (dE prs) cs as:=he
   refine⟨p,wd,xs,cs,as,rfl,s2 _ _ hp1,hd,fun t2 us H3 s3 g3 ha=>⟨us,.inr (SqT.of g3),?_⟩⟩
   have el2:us.length=as.length:=ha.length.symm
   refine bF (fun h=>?_) (fun h=>?_)
   ·have h':0<us.length:=by have:=of_decide_eq_true h;omega
    refine q _ H3 ((s1.trans s2).trans s3) ?_
    rw[he'];unfold lC;rw[if_neg (fun e=>by rw[el2,e]at h';exact absurd h' (Nat.lt_irrefl _))]
    exact RepT.scal rfl
   ·have h':¬ 0<us.length:=by have:=of_decide_eq_false h;omega
    have e0:as=[]:=List.length_eq_zero_iff.mp Zo
    refine⟨b,p,wd,xs,cs,as,prs,rfl,bk1.same (s2.trans s3),s3 _ _ (s2 _ _ hp1),hd,fun t4 H4 s4 g4=>?_⟩
    refine q _ H4 (((s1.trans s2).trans s3).trans s4) ?_
    rw[he'];unfold lC;rw[if_pos e0];exact⟨t4,_,rfl,g4,tZ (Gn _ _)⟩
def wP (f:Str->Int) (wd:Str) (cs:List (Str × Int)) (as:List (Str × List V)) (h:Nat):TV:=match as[h]? with
 | some q=>.tp [tS "no",tS q.1]
 | none=>if wd="pass" then .tp [tS "ok"] else .tp ((Yk f cs).map .sc)
def Jn (C:Addr):Sp:=fun vs H Q _=>∃b p wd xs cs as prs,∃h:Nat,vs=[.ref b,.ref p,.int h]/\BookAt C H b prs/\H p=some (.tup xs)/\Pj wd xs cs as/\∀v H',Same H H'->RepT H' 1 (wP (dE prs) wd cs as h) v->Q v H'
theorem Oh {C:Addr} (T:Txt K mg) (B:To K C) (c_asks_of:aG P w K mg base 1 "asks_of" ["deed"] kO) (c_done_answer:aG P w K mg base 2 "done_answer" ["book","deed"] (mP C)) (D:DefAt K mg "late" uD ["book","deed","heard"]):aG P w K mg base 3 "late" ["book","deed","heard"] (Jn C):=by
 refine D.go zV (fun vs H Q E h=>?_) (fun f cdv A outer s H vs Q E hr h=>?_)
 ·obtain⟨b,p,wd,xs,cs,as,prs,hh,rfl,_⟩:=h;rfl
 ·obtain⟨b,p,wd,xs,cs,as,prs,hh,rfl,bk,hp,hd,q⟩:=h
  have hr_asks_of:Room 1 _:=hr.mono Zd
  have hr_done_answer:=hr
  refine⟨_,(R.ae (R.ai (i:=3) zV.nd (R.fn c_asks_of hr_asks_of rfl (R.aa (R.v 1) R.ad))) (R.ae (R.ap (R.ao R.lt (R.v 2) (R.aw (R.az (K:=K)) rfl T.b_len bC (R.aa (R.v 3) R.ad))) (R.ah (R.al (R.ak (R.aa R.ag (R.aa (R.ix (R.af (K:=K)) (R.ix (R.af (K:=K)) (R.v 3) (R.v 2)) R.ac) R.ad))))) R.aq) (R.ae (R.ap (R.ao R.eq (R.ix (R.af (K:=K)) (R.v 1) R.ac) R.ag) (R.ah (R.al (R.ak (R.aa R.ag R.ad)))) R.aq) (R.ah (R.al (R.fn c_done_answer hr_done_answer rfl (R.aa (R.v 0) (R.aa (R.v 1) R.ad)))))))),?_⟩
  refine⟨p,wd,xs,cs,as,rfl,hp,hd,fun t us H1 s1 g1 ha=>?_⟩
  dsimp only [aK];have el:=ha.length
  refine⟨us,.inr (SqT.of g1),?_⟩
  refine bF (fun h=>?_) (fun h=>?_)
  ·have h':hh<us.length:=by have:=of_decide_eq_true h;omega
   obtain⟨h2,a,d,e,ga,gd⟩:=Paired.get' (j:=hh) ha h'
   have e':us[hh]?=some (.ref a):=by rw[iA h',e]
   refine⟨us,SqT.of g1,_,cE e',_,SqT.of ga,_,rfl,Zs,fun t2 H2 s2 g2=>q _ H2 (s1.trans s2) ?_⟩
   unfold wP;rw[iA h2];exact⟨t2,_,rfl,g2,.cons .s (.cons .s .nil)⟩
  ·have h':¬ hh<us.length:=by have:=of_decide_eq_false h;omega
   have en:as[hh]?=none:=List.getElem?_eq_none Zo
   have hp1:=s1 _ _ hp
   refine⟨_,SqT.of hp1,_,zW hd,?_⟩
   show if decide (wd="pass")=true then _ else _
   refine bF (fun h=>?_) (fun h=>?_)
   ·refine⟨Zs,fun t2 H2 s2 g2=>q _ H2 (s1.trans s2) ?_⟩
    unfold wP;rw[en];dsimp only;rw[if_pos (of_decide_eq_true h)];exact⟨t2,_,rfl,g2,.cons .s .nil⟩
   ·refine⟨b,p,wd,xs,cs,as,prs,rfl,bk.same s1,hp1,hd,fun t2 H2 s2 g2=>q _ H2 (s1.trans s2) ?_⟩
    unfold wP;rw[en];dsimp only;rw[if_neg (of_decide_eq_false h)];exact⟨t2,_,rfl,g2,tZ (Gn _ _)⟩
end
end KL
namespace KL
open PySem L2
section
variable {P:Program} {w:World} {K:W.Frag} {mg:Str->Option Value} {base:Heap}
def eE (f:Str->Nat) (x:Dd):List An:=match aP f x with | some y=>[y] | none=>bH f x
theorem wQ {f:Str->Nat} {x:Dd} {y:An} (h:y∈eE f x):∃q,gT f x q y:=by
 unfold eE at h;cases e:aP f x with
 | some y'=>rw[e]at h;rw[Zms.mp h];exact⟨false,.inl ⟨rfl,e⟩⟩
 | none=>rw[e]at h;exact⟨true,.inr ⟨rfl,e,h⟩⟩
theorem yM (x:Dd):Pj x.wd x.vs (lQ x) (dL x):=by
 cases x with
 | add a n=>exact⟨a,a,a,_,.add⟩
 | take a n=>exact⟨a,a,a,_,.take⟩
 | move a b n=>exact⟨a,b,a,_,.move⟩
 | send g a n=>exact⟨g,a,a,_,.send⟩
 | fetch g a n=>exact⟨g,a,a,_,.fetch⟩
 | pass g g' a n=>exact⟨g,g',a,_,.pass⟩
theorem yN {prs:List (Str × Int)} {f:Str->Nat} (am:∀z,dE prs z=(f z:Int)) {x:Dd} (hx:x.Ok) :
  iF (dE prs) (lC (dE prs) (lQ x) (dL x)) (lQ x)=(match aP f x with | some y=>RX.tvs y.vs | none=>.sc .non):=by
 have hn:=hx.n
 cases x with
 | add a n=>
  have hn:1<=n/\n<=1000000000000:=hn
  show(if (n:Int)<0/\dE prs a+(n:Int)<0 then _ else if 0<(n:Int)/\1000000000000<dE prs a+(n:Int) then TV.tp [tS "full",tI (dE prs a)] else TV.tp [tS "is",tI (dE prs a+(n:Int))])=(match (if 1000000000000<f a+n then some (An.full (f a)) else some (.is1 (f a+n))) with | some y=>RX.tvs y.vs | none=>.sc .non)
  rw[if_neg Zo,am]
  by_cases h:1000000000000<f a+n
  ·rw[if_pos h,if_pos Zo];rfl
  ·rw[if_neg h,if_neg Zo];rfl
 | take a n=>
  have hn:1<=n/\n<=1000000000000:=hn
  show(if -(n:Int)<0/\dE prs a+-(n:Int)<0 then TV.tp [tS "short",tI (dE prs a)] else if 0 < -(n:Int)/\1000000000000<dE prs a+-(n:Int) then _ else TV.tp [tS "is",tI (dE prs a+-(n:Int))])=(match (if f a<n then some (An.short (f a)) else some (.is1 (f a - n))) with | some y=>RX.tvs y.vs | none=>.sc .non)
  rw[am];by_cases h:f a<n
  ·rw[if_pos h,if_pos Zo];rfl
  ·rw[if_neg h,if_neg Zo,if_neg Zo,show(f a:Int)+-(n:Int)=((f a - n:Nat):Int) by omega];rfl
 | move a b n=>
  have hn:1<=n/\n<=1000000000000:=hn
  show(if -(n:Int)<0/\dE prs a+-(n:Int)<0 then TV.tp [tS "short",tI (dE prs a)] else if 0 < -(n:Int)/\1000000000000<dE prs a+-(n:Int) then TV.tp [tS "full",tI (dE prs a)] else if (n:Int)<0/\dE prs b+(n:Int)<0 then TV.tp [tS "short",tI (dE prs b)] else if 0<(n:Int)/\1000000000000<dE prs b+(n:Int) then TV.tp [tS "full",tI (dE prs b)] else TV.tp [tS "is",tI (dE prs a+-(n:Int)),tI (dE prs b+(n:Int))])=(match (if f a<n then some (An.short (f a)) else if 1000000000000<f b+n then some (.full (f b)) else some (.is2 (f a - n) (f b+n))) with | some y=>RX.tvs y.vs | none=>.sc .non)
  rw[am,am];by_cases h:f a<n
  ·rw[if_pos h,if_pos Zo];rfl
  ·rw[if_neg h,if_neg Zo,if_neg Zo,if_neg Zo]
   by_cases h2:1000000000000<f b+n
   ·rw[if_pos h2,if_pos Zo];rfl
   ·rw[if_neg h2,if_neg Zo,show(f a:Int)+-(n:Int)=((f a - n:Nat):Int) by omega];rfl
 | send g a n=>
  have hn:1<=n/\n<=1000000000000:=hn
  show(if -(n:Int)<0/\dE prs a+-(n:Int)<0 then TV.tp [tS "short",tI (dE prs a)] else if 0 < -(n:Int)/\1000000000000<dE prs a+-(n:Int) then _ else TV.sc .non)=(match (if f a<n then some (An.short (f a)) else none) with | some y=>RX.tvs y.vs | none=>.sc .non)
  rw[am];by_cases h:f a<n
  ·rw[if_pos h,if_pos Zo];rfl
  ·rw[if_neg h,if_neg Zo,if_neg Zo]
 | fetch g a n=>
  have hn:1<=n/\n<=1000000000000:=hn
  show(if (n:Int)<0/\dE prs a+(n:Int)<0 then _ else if 0<(n:Int)/\1000000000000<dE prs a+(n:Int) then TV.tp [tS "full",tI (dE prs a)] else TV.sc .non)=(match (if 1000000000000<f a+n then some (An.full (f a)) else none) with | some y=>RX.tvs y.vs | none=>.sc .non)
  rw[if_neg Zo,am]
  by_cases h:1000000000000<f a+n
  ·rw[if_pos h,if_pos Zo];rfl
  ·rw[if_neg h,if_neg Zo]
 | pass g g' a n=>rfl
theorem Dq {prs:List (Str × Int)} {f:Str->Nat} (am:∀z,dE prs z=(f z:Int)) {x:Dd} (hx:x.Ok) (he:aP f x=none) {h:Nat} {y:An} (hy:(bH f x)[h]?=some y) :
  wP (dE prs) x.wd (lQ x) (dL x) h=RX.tvs y.vs:=by
 cases x with
 | send g a n=>
  have hn:n<=f a:=by
   by_cases hh:f a<n
   ·rw[show aP f (.send g a n)=some (.short (f a)) from if_pos hh]at he;cases he
   ·omega
  match h,hy with
  | 0,hy=>cases hy;rfl
  | 1,hy=>
   cases hy
   show TV.tp [tS "is",tI (dE prs a+-(n:Int))]=_
   rw[am,show(f a:Int)+-(n:Int)=((f a - n:Nat):Int) by omega];rfl
  | h+2,hy=>cases hy
 | fetch g a n=>
  match h,hy with
  | 0,hy=>cases hy;rfl
  | 1,hy=>
   cases hy
   show TV.tp [tS "is",tI (dE prs a+(n:Int))]=_
   rw[am];rfl
  | h+2,hy=>cases hy
 | pass g g' a n=>
  match h,hy with
  | 0,hy=>cases hy;rfl
  | 1,hy=>cases hy;rfl
  | 2,hy=>cases hy;rfl
  | h+3,hy=>cases hy
 | _=>cases hy
theorem Au {H:Hp} {xs:List V} {v:V} (h:RepT H 1 (RX.tvs xs) v):∃a,v=.ref a/\H a=some (.tup xs):=by
 obtain⟨a,ys,rfl,g,p⟩:=h
 have:∀ {xs ys:List V},Paired (RepT H 0) (xs.map TV.sc) ys->ys=xs:=by
  intro xs;induction xs with
  | nil=>intro ys p;cases p;rfl
  | cons x xs ih=>intro ys p;cases p with | cons h t=>rw[ih t,h.1]
 rw[this p]at g;exact⟨a,rfl,g⟩
theorem mZ {f:Str->Nat} {x:Dd} (he:aP f x=none):(bH f x).length=(dL x).length+1:=by
 cases x with
 | add a n=>simp only [aP]at he;split at he <;> cases he
 | take a n=>simp only [aP]at he;split at he <;> cases he
 | move a b n=>simp only [aP]at he;split at he <;> first | cases he | (split at he <;> cases he)
 | _=>rfl
def Av (H:Hp) (zs:List (Addr × An)):Prop:=∀z∈zs,H z.1=some (.tup z.2.vs)
def Xz (C:Addr):Sp:=fun vs H Q _=>∃(b p:Addr) (x:Dd) (prs:List (Str × Int)) (f:Str->Nat),vs=[.ref b,.ref p]/\BookAt C H b prs/\H p=some (.tup x.vs)/\x.Ok/\(∀z,dE prs z=(f z:Int)) ∧
 ∀(l:Addr) (zs:List (Addr × An)) (H':Hp),H' l=some (.lst (zs.map fun z=>V.ref z.1))->Av H' zs->zs.map (·.2)=eE f x->Same H H'->Q (.ref l) H'
theorem nB {C:Addr} (T:Txt K mg) (c_early:aG P w K mg base 3 "early" ["book","deed"] (zR C)) (c_late:aG P w K mg base 3 "late" ["book","deed","heard"] (Jn C)) (c_asks_of:aG P w K mg base 1 "asks_of" ["deed"] kO)
  (D:DefAt K mg "right_answers" cQ ["book","deed"]):aG P w K mg base 4 "right_answers" ["book","deed"] (Xz C):=by
 refine D.go hU (fun vs H Q E h=>?_) (fun f cdv A outer s H vs Q E hr h=>?_)
 ·obtain⟨b,p,x,prs,f,rfl,_⟩:=h;rfl
 ·obtain⟨b,p,x,prs,f,rfl,bk,gp,hx,am,q⟩:=h
  have hr_early:Room 3 _:=hr
  have hr_late:Room 3 _:=hr
  have hr_asks_of:Room 1 _:=hr.mono Zd
  refine⟨_,(R.ae (R.ai (i:=2) hU.nd (R.fn c_early hr_early rfl (R.aa (R.v 0) (R.aa (R.v 1) R.ad)))) (R.ae (R.ap (R.ao R.fj (R.v 2) R.bh) (R.ah (R.al (R.av (R.aa (R.v 2) R.ad)))) R.aq) (R.ah (R.al (R.bc rfl (js:=[none,some 0,some 1]) (N:=["heard","book","deed"]) (CompScope.by (aB cQ) ["book","deed","known"] rfl rfl Zk) (bA rfl) (R.dj rfl T.b_range (R.aa (R.op R.au (R.aw (R.az (K:=K)) rfl T.b_len bC (R.aa (R.fn c_asks_of hr_asks_of rfl (R.aa (R.v 1) R.ad)) R.ad)) R.ac) R.ad)) (fun C s₂ H₂ fp=>⟨(R.gn (i:=0) (show(["heard","book","deed"]:List Str).Nodup by decide +kernel)),R.dt,(R.fn c_late hr_late rfl (R.aa (R.v 1) (R.aa (R.v 2) (R.aa (R.v 0) R.ad))))⟩)))))),?_⟩
  refine⟨b,p,x.wd,x.vs,lQ x,dL x,prs,rfl,bk,gp,yM x,fun v H1 s1 hv=>?_⟩
  rw[yN am hx]at hv;dsimp only [aK];cases e:aP f x with
  | some y=>
   rw[e]at hv;obtain⟨a,rfl,ga⟩:=Au hv
   refine⟨dR rfl,fun l hl=>q l [(a,y)] _ aA (fun z hz=>?_) ?_ (s1.trans (aF hl))⟩
   ·rw[Zms.mp hz];exact aO ga hl
   ·unfold eE;rw[e];rfl
  | none=>
   rw[e]at hv;obtain⟨rfl,_⟩:=hv
   refine⟨p,x.wd,x.vs,lQ x,dL x,rfl,s1 _ _ gp,yM x,fun t us H2 s2 g2 ha=>⟨us,.inr (SqT.of g2),((bH f x).length:Int),?_,Zo,?_,?_⟩⟩
   ·rw[mZ e,ha.length];rfl
   ·have:=mZ e
    have:(dL x).length<=2:=by cases x <;> exact Nat.le_of_ble_eq_true rfl
    omega
   ·have hll:(bH f x).length<=3:=by
     have:=mZ e
     have:(dL x).length<=2:=by cases x <;> exact Nat.le_of_ble_eq_true rfl
     omega
    have eN:((bH f x).length:Int).toNat=(bH f x).length:=by omega
    refine bT (cR 0 ((bH f x).length:Int).toNat) (by rw[dC];omega) (fun i ys H'=>∃zs:List (Addr × An),ys=zs.map (fun z=>V.ref z.1)/\Av H' zs/\zs.map (·.2)=(bH f x).take i/\Same H H') (fun i ys H' ⟨zs,e1,_,e2,_⟩=>⟨trivial,?_⟩) ⟨[],rfl,(fun _ h=>nomatch h),rfl,s1.trans s2⟩ (fun i v ys H' hv' ⟨zs,e1,hz,e2,s'⟩=>?_) (fun ys H' ⟨zs,e1,hz,e2,s'⟩=>?_)
    ·have:=congrArg List.length e2
     rw[bG,nF]at this;rw[e1,bG];omega
    ·obtain⟨rfl,hi⟩:=iW hv'
     rw[eN]at hi;have hy:(bH f x)[i]?=some (bH f x)[i]:=iA hi
     dsimp only [aK];refine⟨b,p,x.wd,x.vs,lQ x,dL x,prs,i,rfl,bk.same s',s' _ _ gp,yM x,fun v' H'' s'' hv''=>?_⟩
     rw[Dq am hx e hy]at hv'';obtain⟨a,rfl,ga⟩:=Au hv''
     refine⟨zs++[(a,(bH f x)[i])],by rw[e1,jF];rfl,fun z hz'=>?_,by rw[jF,e2,bP hy];rfl,s'.trans s''⟩
     rcases aH hz' with hz' | rfl
     ·exact s'' _ _ (hz z hz')
     ·exact ga
    ·intro l hl;rw[dC,eN,rA (bM _)]at e2;refine q l zs _ (by rw[aA,e1]) (fun z hz'=>aO (hz z hz') hl) ?_ (s'.trans (aF hl))
     rw[e2];unfold eE;rw[e]
end
end KL
namespace KL
open PySem L2
section
variable {P:Program} {w:World} {K:W.Frag} {mg:Str->Option Value} {base:Heap}
def nC (rs:List RX) (n:Nat):Option Dd:=rs.findSome? fun r=>match r with | .came m _ _ _ x=>if m=n then some x else none | _=>none
theorem nR {rs:List RX} (hw:RX.Whole rs) {n t:Nat} {p k:Str} {x:Dd} (hm:.came n t p k x∈rs):nC rs n=some x:=by
 unfold nC;cases e:rs.findSome? (fun r=>match r with | .came m _ _ _ x=>if m=n then some x else none | _=>none) with
 | none=>
  have:=List.findSome?_eq_none_iff.mp e _ hm
  simp at this
 | some x'=>
  obtain⟨r,hr,er⟩:=List.exists_of_findSome?_eq_some e
  cases r with
  | came m t' p' k' x''=>
   dsimp only at er
   split at er
   ·rename_i hmn
    cases er
    subst hmn;have:=dD hw hm hr
    cases this
    rfl
   ·cases er
  | _=>cases er
def Qb (rs:List RX) (f:Str->Nat):RX->(Str->Nat)
 | .done n _ y=>(match nC rs n with | some x=>after f x y | none=>f)
 | _=>f
def bW (rs:List RX) (i:Nat):Str->Nat:=(rs.take i).foldl (Qb rs) (dG rs)
theorem iZ {rs:List RX} {i:Nat} {r:RX} (h:rs[i]?=some r):bW rs (i+1)=Qb rs (bW rs i) r:=by
 unfold bW;rw[bP h,List.foldl_append];rfl
def eX (rs:List RX) (i:Nat):RX->Prop
 | .done n _ y=>∀x,nC rs n=some x->y∈eE (bW rs i) x
 | _=>True
def kD (rs:List RX):Option Nat->Prop
 | none=>∀i r,rs[i]?=some r->eX rs i r
 | some i=>(∃r,rs[i]?=some r/\¬ eX rs i r)/\∀j r,j<i->rs[j]?=some r->eX rs j r
theorem kS {rs:List RX} {o o':Option Nat} (h:kD rs o) (h':kD rs o'):o=o':=by
 cases o with
 | none=>cases o' with
  | none=>rfl
  | some j=>obtain⟨⟨r,e,n⟩,_⟩:=h';exact absurd (h j r e) n
 | some i=>cases o' with
  | none=>obtain⟨⟨r,e,n⟩,_⟩:=h;exact absurd (h' i r e) n
  | some j=>
   obtain⟨⟨r,e,n⟩,a⟩:=h
   obtain⟨⟨r',e',n'⟩,a'⟩:=h'
   rcases Nat.lt_trichotomy i j with z | z | z
   ·exact absurd (a' i r z e) n
   ·rw[z]
   ·exact absurd (a j r' z e') n'
theorem qI {rs:List RX} (h:∀r∈rs,gO r):∀z,dG rs z<=1000000000000:=by
 unfold dG;have:∀(rs:List RX) (f:Str->Nat),(∀r∈rs,gO r)->(∀z,f z<=1000000000000)->∀z,rs.foldl (fun f r=>match r with | .has z m=>eF f z m | _=>f) f z<=1000000000000:=by
  intro rs;induction rs with
  | nil=>intro f _ hf z;exact hf z
  | cons r rs ih=>
   intro f h hf;refine ih _ (fun q hq=>h q (nY _ hq)) ?_
   have hr:=h r kG
   cases r with
   | has z m=>exact gL hf hr
   | _=>exact hf
 exact this rs _ h fun _=>Nat.zero_le _
theorem Jo {u v:V} (hu:(∃z,u=.str z)∨∃n,u=.int n) (hv:(∃z,v=.str z)∨∃n,v=.int n):uP u v=true↔u=v:=by
 rcases hu with⟨z,rfl⟩ | ⟨n,rfl⟩ <;> rcases hv with⟨z',rfl⟩ | ⟨n',rfl⟩ <;> simp [uP]
theorem qJ {xs ys:List V} (hx:∀u∈xs,(∃z,u=.str z)∨∃n,u=.int n) (hy:∀u∈ys,(∃z,u=.str z)∨∃n,u=.int n):hJ xs ys=true↔xs=ys:=by
 unfold hJ;rw[Bool.and_eq_true_iff];constructor
 ·rintro⟨h1,h2⟩
  have hl:xs.length=ys.length:=by simpa using h2
  refine List.ext_getElem hl fun j a b=>?_
  have:=List.all_eq_true.mp h1 j (by simp;omega)
  have e1:xs.getD j .non=xs[j]:=by simp [List.getD,a]
  have e2:ys.getD j .non=ys[j]:=by simp [List.getD,b]
  rw[e1,e2]at this;exact(Jo (hx _ (List.getElem_mem a)) (hy _ (List.getElem_mem b))).mp this
 ·rintro rfl
  refine⟨List.all_eq_true.mpr fun j hj=>?_,Zs⟩
  have hj:j<xs.length:=by simpa using hj
  have e:xs.getD j .non=xs[j]:=by simp [List.getD,hj]
  rw[e];exact(Jo (hx _ (List.getElem_mem hj)) (hx _ (List.getElem_mem hj))).mpr rfl
theorem wR (y:An):∀u∈y.vs,(∃z,u=.str z)∨∃n,u=.int n:=by
 intro u hu;cases y <;> simp only [An.vs,List.mem_cons,List.not_mem_nil,or_false]at hu <;> rcases hu with rfl | rfl | rfl <;> first | exact .inl ⟨_,rfl⟩ | exact .inr ⟨_,rfl⟩
theorem Up {y y':An} (h:y.vs=y'.vs):y=y':=by
 cases y <;> cases y' <;> simp only [An.vs]at h <;> first
  | rfl
  | (injection h with h1 h2;injection h1 with h1;exact absurd h1 Zk)
  | (simp at h;rw[An.is1.injEq];omega)
  | (simp at h;rw[An.is2.injEq];omega)
  | (simp at h;rw[An.short.injEq];omega)
  | (simp at h;rw[An.full.injEq];omega)
  | (simp at h;rw[h])
  | (simp at h)
theorem Qc {y:An} {zs:List (Addr × An)}:pJ y.vs (zs.map fun z=>(z.1,z.2.vs))=true↔y∈zs.map (·.2):=by
 unfold pJ;rw[List.any_map,List.any_eq_true];constructor
 ·rintro⟨z,hz,e⟩
  have:=Up ((qJ (wR _) (wR _)).mp e)
  rw[<- this];exact List.mem_map_of_mem hz
 ·intro h;obtain⟨z,hz,e⟩:=Zmm.mp h
  exact⟨z,hz,(qJ (wR _) (wR _)).mpr (by rw[e])⟩
theorem Aw (y y':An):fB y.vs y'.vs:=fun j u v h1 h2=>by
 have f:∀ {y:An} {u:V},u∈y.vs->dP u=true:=fun {y u} hu=>by rcases wR y u hu with⟨z,rfl⟩ | ⟨n,rfl⟩ <;> rfl
 exact⟨f (gX h1),f (gX h2)⟩
def Uq:Sp:=fun vs H Q _=>∃(ra:Addr) (rs:List RX) (as:List Addr),vs=[.ref ra]/\RxsAt H ra rs as/\(∀r∈rs,gO r)/\rs.length<=60/\RX.Whole rs/\(∀(o:Option Nat) (H':Hp),kD rs o->Same H H'->Q (Nv o) H')
theorem qK {C:Addr} (T:Txt K mg) (c_first_odd:aG P w K mg base 7 "first_odd" ["rows"] Qa) (c_by_numbers:aG P w K mg base 1 "by_numbers" ["rows","word"] Ad)
  (c_first_book:aG P w K mg base 3 "first_book" ["rows"] (Ai C)) (c_right_answers:aG P w K mg base 4 "right_answers" ["book","deed"] (Xz C)) (c_changes_of:aG P w K mg base 2 "changes_of" ["deed","answer"] Px) (c_Book_change:rP P w K mg base 2 C "change" ["self","changes"] (sD C))
  (D:DefAt K mg "first_wrong" eS ["rows"]):aG P w K mg base 8 "first_wrong" ["rows"] Uq:=by
 refine D.go bU (fun vs H Q E h=>?_) (fun f cdv A outer s H vs Q E hr h=>?_)
 ·obtain⟨ra,rs,as,rfl,_⟩:=h;rfl
 ·obtain⟨ra,rs,as,rfl,RR,hf,hl,hw,q⟩:=h
  have hr_first_odd:Room 7 _:=hr
  have hr_by_numbers:Room 1 _:=hr.mono Zd
  have hr_first_book:Room 3 _:=hr.mono Zd
  have hr_right_answers:Room 4 _:=hr.mono Zd
  have hr_changes_of:Room 2 _:=hr.mono Zd
  have hr_Book_change:Room 2 _:=hr.mono Zd
  have hu1:=eG hr
  have hu64:=hr.units
  have le:=RR.len
  refine⟨_,(R.ae (R.ai (i:=1) bU.nd (R.fn c_first_odd hr_first_odd rfl (R.aa (R.v 0) R.ad))) (R.ae (R.ap (R.ao R.fj (R.v 1) R.bh) (R.ah R.fu) R.aq) (R.ae (R.ai (i:=2) bU.nd (R.fn c_by_numbers hr_by_numbers rfl (R.aa (R.v 0) (R.aa R.ag R.ad)))) (R.ae (R.ai (i:=3) bU.nd (R.fn c_first_book hr_first_book rfl (R.aa (R.v 0) R.ad))) (R.ae (R.bp PassesOwn.never rfl (R.gk (K:=K) rfl T.b_enumerate (R.v 0)) (R.de (K:=K) (n:=2) rfl (R.bb (R.gn (i:=4) bU.nd) (R.bb (R.gn (i:=5) bU.nd) R.df))) (R.ah (R.ap (R.ao R.eq (R.ix (R.af (K:=K)) (R.v 5) R.ac) R.ag) (R.ae (R.ai (i:=6) bU.nd (R.ix (R.af (K:=K)) (R.dh hu1 (R.v 2) (R.ix (R.af (K:=K)) (R.v 5) R.ac)) R.ac)) (R.ae (R.ap (R.ao (R.gm hu64) (R.ix (R.af (K:=K)) (R.v 5) R.ac) (R.fn c_right_answers hr_right_answers rfl (R.aa (R.v 3) (R.aa (R.v 6) R.ad)))) (R.ah (R.al (R.v 4))) R.aq) (R.ah (R.bn (R.cn c_Book_change hr_Book_change (R.v 3) (R.aa (R.fn c_changes_of hr_changes_of rfl (R.aa (R.v 6) (R.aa (R.ix (R.af (K:=K)) (R.v 5) R.ac) R.ad))) R.ad)))))) R.aq))) (R.ah (R.al R.bh))))))),?_⟩
  refine⟨ra,rs,as,rfl,RR,hf,Zo,fun o H1 ho s1=>?_⟩
  dsimp only [aK];cases o with
  | some i=>exact absurd (Ja ho (o':=none) hw) (fun z=>nomatch z)
  | none=>
   have hct:=Dh hw
   refine⟨ra,"came",rs,as,rfl,RR.same s1,Zo,fun cd H2 fcd gcd s2=>?_⟩
   dsimp only [aK];have s02:=s1.trans s2
   refine⟨ra,rs,as,rfl,RR.same s02,Zo,hw,fun p dx d H3 fp fd gp gd s3=>?_⟩
   have npd:p≠d:=eY gp gd (fun z=>nomatch z)
   have s03:=s02.trans s3
   have fp0:=s02.free fp
   have fd0:=s02.free fd
   have gcd3:=s3 _ _ gcd
   have ncd:cd≠d:=aE gcd fd
   have ncp:cd≠p:=aE gcd fp
   dsimp only [aK];refine aY (fun σ' H'=>kD rs none/\Same H H') (fun nx hnx=>?_) ?_
   ·refine⟨_,SqL.of (s03 _ _ RR.lst),vT (xs:=as.map V.ref) (fun i σ' H'=>∃(prs:List (Str × Int)) (o4 o5 o6:Option V),σ'=[some (.ref ra),some .non,some (.ref cd),some (.ref p),o4,o5,o6]/\H' p=some (.ins C dx [("amounts",.ref d)])/\H' d=some (.dK (lW prs))/\H' cd=some (.dK (aS [] (iY "came" rs as rs.length)))/\(prs.map (·.1)).Nodup/\(∀z,dE prs z=(bW rs i z:Int))/\(∀z,bW rs i z<=1000000000000)/\prs.length<=(dJ rs).length+2*(gN (rs.take i)).length/\(∀j r,j<i->rs[j]?=some r->eX rs j r)/\Same H H') (fun i σ' H' ⟨_,_,_,_,_,_,_,_,_,_,_,_,_,s'⟩=>SqL.of (s' _ _ RR.lst))
     ⟨gU rs,_,_,_,rfl,gp,gd,gcd3,uN hw,fun z=>Iw hw z,qI hf,by rw[Iu];omega,fun j r hj=>absurd hj (Nat.not_lt_zero _),s03⟩ ?_ ?_⟩
    ·rintro i x σ' H4 te hx ⟨prs,o4,o5,o6,rfl,gp4,gd4,gcd4,nd4,am4,le4,ln4,ri4,s4⟩ hte
     obtain⟨a,r,rfl,ha,hrr,hat⟩:=(RR.same s4).get hx
     have hil:i<rs.length:=(Zgs.mp hrr).1
     have se:=aF (o:=.tup [.int (i:Int),.ref a]) hte
     refine⟨te,_,rfl,SqT.of aA,rfl,_,_,rfl,_,_,rfl,rfl,?_⟩
     generalize aJ H4 te (.tup [.int (i:Int),.ref a])=H5 at se;replace gp4:=se _ _ gp4
     replace gd4:=se _ _ gd4
     replace gcd4:=se _ _ gcd4
     replace s4:=s4.trans se
     replace hat:=hat.tk se.tk
     obtain⟨xs,g,x0,x1,x2⟩:=eC hat
     have etk:=bP hrr
     dsimp only [aK];refine⟨_,SqT.of g,_,x0,?_⟩
     show if decide (bX r="done")=true then _ else _
     refine bF (fun h=>?_) (fun h=>?_)
     ·obtain⟨n,t,y,rfl⟩:=lP (of_decide_eq_true h)
      obtain⟨cy,gr,gy⟩:=hat
      obtain⟨t0,pp,kk,xd,hcm,hof⟩:=hV hw (gX hrr)
      have hxok:xd.Ok:=hf _ hcm
      have edo:=nR hw hcm
      obtain⟨ca,cb,ct,hv,gca,gcb⟩:=Nr hw (RR.same s4) hcm
      have dg':DGet H5 cd (.int (n:Int)) (some (.ref ca)):=by rw[<- hv];exact DGet.k (k:=Sum.inl (n:Int)) gcd4
      refine⟨_,SqT.of gr,_,rfl,cd,_,rfl,dg',_,SqT.of gca,_,rfl,?_⟩
      dsimp only [aK];have bkA:BookAt C H5 p prs:=⟨⟨dx,d,gp4,gd4⟩,nd4⟩
      refine⟨_,SqT.of gr,_,rfl,p,cb,xd,prs,bW rs i,rfl,bkA,gcb,hxok,am4,fun l zs H6 gl hz ez s6=>?_⟩
      refine⟨y.vs,zs.map (fun z=>(z.1,z.2.vs)),s6 _ _ gy,by rw[gl,List.map_map];rfl,fun z hz'=>?_,?_⟩
      ·obtain⟨z',hz'',rfl⟩:=Zmm.mp hz'
       exact⟨hz z' hz'',Aw _ _⟩
      ·have hin:=Qc (y:=y) (zs:=zs)
       rw[ez]at hin;show if (!pJ y.vs (zs.map fun z=>(z.1,z.2.vs)))=true then _ else _
       refine bF (fun hi=>?_) (fun hi=>?_)
       ·refine q (some i) H6 ⟨⟨_,hrr,fun hra=>?_⟩,ri4⟩ (s4.trans s6)
        have:=hin.mpr (hra xd edo)
        rw[this]at hi;cases hi
       ·have hri:y∈eE (bW rs i) xd:=hin.mp (by simpa using hi)
        obtain⟨qq,hR⟩:=wQ hri
        obtain⟨ea,hG⟩:=gM hxok hR
        have hrat:eX rs i (.done n t y):=fun x' hx'=>by rw[edo]at hx';cases hx';exact hri
        refine⟨dx,_,s6 _ _ gp4,pF _ Zk,_,SqT.of (s6 _ _ gr),_,rfl,cb,cy,xd,y,rfl,s6 _ _ gcb,s6 _ _ gy,hof,fun tp zs2 H7 s7 g7 hz2 ez2=>?_⟩
        have lz:zs2.length<=2:=by
         have:=congrArg List.length ez2
         rw[bG]at this;have:=uH xd y
         omega
        have s67:=s6.trans s7
        refine⟨p,dx,d,tp,prs,zs2,rfl,s67 _ _ gp4,s67 _ _ gd4,nd4,g7,hz2,?_,fun qc hq=>?_,fun H8 g8 k8=>?_⟩
        ·have:=yI rs i
         omega
        ·rw[ez2]at hq;have:=Iy le4 hxok hR qc hq
         unfold Py;rw[am4];exact this
        ·rw[ez2]at g8;have ebk:bW rs (i+1)=after (bW rs i) xd y:=by rw[iZ hrr];show(match nC rs n with | some x=>after (bW rs i) x y | none=>bW rs i)=_;rw[edo]
         refine⟨nW prs (rW xd y),_,_,_,rfl,k8 _ _ (s67 _ _ gp4) npd,g8,k8 _ _ (s67 _ _ gcd4) ncd,uM _ _ nd4,fun z=>?_,?_,?_,fun j r' hj hr'=>?_,fun c o e=>k8 _ _ (s67 _ _ (s4 _ _ e)) (aE e fd0)⟩
         ·rw[wK _ _ _ hG am4,ea,ebk]
         ·rw[ebk];exact lN le4 hR
         ·have h1:=qB (rW xd y) prs
          have h2:=uH xd y
          rw[etk,qC,sK];show _<=_+2*(_+1)
          omega
         ·rcases Nat.lt_or_ge j i with hji | hji
          ·exact ri4 j r' hji hr'
          ·have:j=i:=by omega
           subst this;rw[hrr]at hr';cases hr'
           exact hrat
     ·have ebk:bW rs (i+1)=bW rs i:=by
       rw[iZ hrr];cases r with
       | done n t y=>exact absurd rfl (of_decide_eq_false h)
       | _=>rfl
      refine⟨prs,_,_,_,rfl,gp4,gd4,gcd4,nd4,fun z=>by rw[ebk];exact am4 z,by rw[ebk];exact le4,?_,fun j r' hj hr'=>?_,s4⟩
      ·rw[etk,qC,sK];omega
      ·rcases Nat.lt_or_ge j i with hji | hji
       ·exact ri4 j r' hji hr'
       ·have:j=i:=by omega
        subst this;rw[hrr]at hr';cases hr'
        cases r with
        | done n t y=>exact absurd rfl (of_decide_eq_false h)
        | _=>trivial
    ·rintro σ' H4 ⟨prs,o4,o5,o6,rfl,gp4,gd4,gcd4,nd4,am4,le4,ln4,ri4,s4⟩
     rw[bG,<- le]at ri4;exact hnx _ _ ⟨fun i r hr'=>ri4 i r (Zgs.mp hr').1 hr',s4⟩
   rintro σ' H4 ⟨hri,s4⟩
   exact q none H4 hri s4
end
end KL
namespace KL
open PySem L2
section
variable {P:Program} {w:World} {K:W.Frag} {mg:Str->Option Value} {base:Heap}
theorem Jp {rs:List RX} (h:∀i r,rs[i]?=some r->RX.Fits (rs.take i) r):RX.Whole rs:=by
 have:∀k,k<=rs.length->RX.Whole (rs.take k):=by
  intro k;induction k with
  | zero=>intro _;rw[List.take_zero];exact .nil
  | succ k ih=>
   intro hk;have e:rs[k]?=some rs[k]:=iA Zo
   rw[bP e];exact(ih Zo).snoc (h k _ e)
 have:=this rs.length (bM _)
 rwa [rA (bM _)]at this
def Jq (r r':RX):Prop:=r=r'∨∃n t y y',r=.done n t y/\r'=.done n t y'
theorem yO {rs rs':List RX} (h:∀r∈rs,∃r'∈rs',Jq r r') (h':∀r'∈rs',∃r∈rs,Jq r r') {q:RX} (hq:RX.Fits rs q):RX.Fits rs' q:=by
 have up:∀r,Io r=false->r∈rs->r∈rs':=fun r hd hm=>by
  obtain⟨r',hm',e | ⟨n,t,y,y',e,_⟩⟩:=h r hm
  ·rw[e];exact hm'
  ·rw[e]at hd;cases hd
 have dn:∀r,Io r=false->r∈rs'->r∈rs:=fun r hd hm=>by
  obtain⟨r',hm',e | ⟨n,t,y,y',_,e⟩⟩:=h' r hm
  ·rw[<- e];exact hm'
  ·rw[e]at hd;cases hd
 have dd:∀n t y,.done n t y∈rs'->∃y',.done n t y'∈rs:=fun n t y hm=>by
  obtain⟨r',hm',e | ⟨n,t,y,y',e1,e⟩⟩:=h' _ hm
  ·rw[e]at hm';exact⟨_,hm'⟩
  ·cases e;rw[e1]at hm';exact⟨_,hm'⟩
 have rk:∀r∈rs',∃r'∈rs,r'.rank=r.rank/\r'.turn=r.turn:=fun r hm=>by
  obtain⟨r',hm',e | ⟨n,t,y,y',e1,e⟩⟩:=h' r hm
  ·exact⟨r',hm',by rw[e],by rw[e]⟩
  ·exact⟨r',hm',by rw[e1,e];rfl,by rw[e1,e];rfl⟩
 cases q with
 | next n t=>
  have e:rs=[]:=hq
  subst e;show rs'=[]
  cases rs' with
  | nil=>rfl
  | cons r rs'=>obtain⟨r',hm,_⟩:=h' r kG;cases hm
 | has z m=>
  refine⟨fun r hr=>?_,?_,fun z' m' hm=>hq.2.2 z' m' (dn _ rfl hm)⟩
  ·obtain⟨r',hm',e,_⟩:=rk r hr;rw[<- e];exact hq.1 r' hm'
  ·obtain⟨n,t,hm⟩:=hq.2.1;exact⟨n,t,up _ rfl hm⟩
 | kept n t p k x y=>
  refine⟨fun r hr=>?_,?_,fun n' t' p' k' x' y' hm=>hq.2.2.1 _ _ _ _ _ _ (dn _ rfl hm),hq.2.2.2⟩
  ·obtain⟨r',hm',e,_⟩:=rk r hr;rw[<- e];exact hq.1 r' hm'
  ·obtain⟨n0,t0,hm,h1,h2⟩:=hq.2.1;exact⟨n0,t0,up _ rfl hm,h1,h2⟩
 | came n t p k x=>
  refine⟨fun n' t' p' k' x' hm=>hq.1 _ _ _ _ _ (dn _ rfl hm),fun t' p' k' x' y' hm=>hq.2.1 _ _ _ _ _ (dn _ rfl hm),fun r hr=>?_⟩
  obtain⟨r',hm',_,e⟩:=rk r hr;rw[<- e];exact hq.2.2 r' hm'
 | asked n=>
  obtain⟨⟨t,p,k,x,hm,hf⟩,h1,h2⟩:=hq
  exact⟨⟨t,p,k,x,up _ rfl hm,hf⟩,fun hm=>h1 (dn _ rfl hm),fun t y hm=>by obtain⟨y',hm'⟩:=dd _ _ _ hm;exact h2 _ _ hm'⟩
 | done n t y=>
  obtain⟨h1,h2,t0,p,k,x,hm,ho,ha⟩:=hq
  refine⟨fun r hr=>?_,fun t y hm=>?_,t0,p,k,x,up _ rfl hm,ho,fun z=>⟨fun hm=>(ha z).mp (dn _ rfl hm),fun e=>up _ rfl ((ha z).mpr e)⟩⟩
  ·obtain⟨r',hm',_,e⟩:=rk r hr;rw[<- e];exact h1 r' hm'
  ·obtain⟨y',hm'⟩:=dd _ _ _ hm;exact h2 _ _ hm'
theorem lS {rs:List RX} (hw:RX.Whole rs) {j n t:Nat} {y:An} (hj:rs[j]?=some (.done n t y)) (ha:.asked n∈rs):.asked n∈rs.take j:=by
 obtain⟨i,hi,e⟩:=List.getElem_of_mem ha
 have e':rs[i]?=some (.asked n):=by rw[iA hi,e]
 rcases Nat.lt_trichotomy i j with z | z | z
 ·exact gX (i:=i) (by rw[List.getElem?_take_of_lt z];exact e')
 ·subst z;rw[hj]at e';cases e'
 ·have:=(fY hw e').2.2.2 t y
  exact absurd (gX (i:=j) (by rw[List.getElem?_take_of_lt z];exact hj)) this
theorem Dr {rs:List RX} (hw:RX.Whole rs) {j n t t0:Nat} {p k:Str} {x:Dd} {y y':An} (hj:rs[j]?=some (.done n t y)) (hc:.came n t0 p k x∈rs) (ho:An.Of x y') (he:x.far=true->(.asked n∈rs↔y'.early=false)):RX.Whole (rs.set j (.done n t y')):=by
 have hjl:=(Zgs.mp hj).1
 refine Jp fun i r hr=>?_
 rw[List.take_set];by_cases e:i=j
 ·subst e;rw[List.getElem?_set_self hjl]at hr;cases hr
  rw[List.set_eq_of_length_le (by rw[nF];omega)]
  obtain⟨h1,h2,t1,p1,k1,x1,hm1,ho1,ha1⟩:=(fY hw hj).2
  have:=dD hw (List.mem_of_mem_take hm1) hc
  cases this
  exact⟨h1,h2,_,_,_,_,hm1,ho,fun z=>⟨fun hm=>(he z).mp (List.mem_of_mem_take hm),fun hy=>lS hw hj ((he z).mpr hy)⟩⟩
 ·rw[List.getElem?_set_ne (fun z=>e z.symm)]at hr
  have hf:=(fY hw hr).2
  by_cases hji:j<i
  ·have hjt:(rs.take i)[j]?=some (.done n t y):=by rw[List.getElem?_take_of_lt hji];exact hj
   refine yO (fun r1 hr1=>?_) (fun r1 hr1=>?_) hf
   ·obtain⟨i1,hi1,e1⟩:=List.getElem_of_mem hr1
    by_cases e2:i1=j
    ·subst e2;have:r1=.done n t y:=by rw[iA hi1,e1]at hjt;cases hjt;rfl
     refine⟨_,gX (List.getElem?_set_self hi1),.inr ⟨n,t,y,y',this,rfl⟩⟩
    ·exact⟨r1,gX (i:=i1) (by rw[List.getElem?_set_ne (fun z=>e2 z.symm),iA hi1,e1]),.inl rfl⟩
   ·rcases fW hr1 with rfl | ⟨i1,_,e1⟩
    ·exact⟨_,gX hjt,.inr ⟨n,t,y,y',rfl,rfl⟩⟩
    ·exact⟨r1,gX e1,.inl rfl⟩
  ·rw[List.set_eq_of_length_le (by rw[nF];omega)]
   exact hf
def wU:Dd->Bool | .add _ _=>true | .fetch _ _ _=>true | _=>false
theorem Ax (x:Dd):kU (.str x.wd) [.str "add",.str "fetch"]=wU x:=by cases x <;> rfl
def Jr:Sp:=fun vs H Q _=>∃(d b td c:Addr) (x:Dd) (y:An),vs=[.ref d,.ref td,.ref c]/\Dk H d b/\H td=some (.tup x.vs)/\H c=some (.tup y.vs)/\x.Ok/\An.Of x y/\kU (.str (jR y)) [.str "is",.str "short",.str "full"]=true ∧
 ∀(c':Addr) (y':An) (H':Hp),An.Of x y'->y'.early=y.early->H' c'=some (.tup y'.vs)->Fw d b H H'->Q (.ref c') H'
def fH (x:Dd):An->Nat | .full _=>1000000000000 - x.n+1 | .is1 _=>if wU x then x.n else 0 | .is2 _ _=>if wU x then x.n else 0 | _=>0
def gW (x:Dd):An->Nat | .short _=>x.n - 1 | .full _=>1000000000000 | .is1 _=>if wU x then 1000000000000 else 1000000000000 - x.n | .is2 _ _=>if wU x then 1000000000000 else 1000000000000 - x.n | _=>1000000000000 - x.n
def Ds (v:Nat):An->An | .is1 _=>.is1 v | .is2 _ m=>.is2 v m | .short _=>.short v | .full _=>.full v | y=>y
theorem Oi {x:Dd} {y:An} {v:Nat} (hx:x.Ok) (ho:An.Of x y) (h1:fH x y<=v) (h2:v<=gW x y):An.Of x (Ds v y):=by
 have hn:=hx.n
 cases x <;> cases y <;> simp only [An.Of,Ds,fH,gW,wU,Dd.n]at*<;> first | exact ho.elim | trivial | (simp at h1 h2;omega) | omega | exact ho
theorem an1 {y:An} (h:kU (.str (jR y)) [.str "is",.str "short",.str "full"]=true):∃m:Nat,kT y.vs 1=some (.int (m:Int)):=by
 cases y <;> first | exact⟨_,rfl⟩ | cases h
theorem Oj {y:An} (h:kU (.str (jR y)) [.str "is",.str "short",.str "full"]=true) (v:Nat):[.str (jR y),.int (v:Int)]++fI y.vs (some 2) none=(Ds v y).vs:=by
 cases y <;> first | rfl | cases h
theorem yP (y:An) (v:Nat):(Ds v y).early=y.early:=by cases y <;> rfl
theorem Ol (T:Txt K mg) (cLdraw:aG P w K mg base 1 "_law_draw" ["_law_deck_here","_law_many"] bJ) (D:DefAt K mg "_law_near" iO ["_law_deck_here","_law_deed_here","_law_answer_here"]):aG P w K mg base 2 "_law_near" ["_law_deck_here","_law_deed_here","_law_answer_here"] Jr:=by
 refine D.go cB (fun vs H Q E h=>?_) (fun f cdv A outer s H vs Q E hr h=>?_)
 ·obtain⟨d,b,td,c,x,y,rfl,_⟩:=h;rfl
 ·obtain⟨d,b,td,c,x,y,rfl,dk,gx,gy,hx,ho,hin,q⟩:=h
  have hLdraw:Room 1 _:=hr
  have hn:=hx.n
  obtain⟨m,hm⟩:=an1 hin
  refine⟨_,(R.ae (R.ai (i:=3) cB.nd (R.ix (R.ar (K:=K)) (R.av (R.aa R.ac (R.aa (R.ax R.ac) R.ad))) (R.fn cLdraw hLdraw rfl (R.aa (R.v 0) (R.aa R.ac R.ad))))) (R.ae (R.ai (i:=4) cB.nd R.ac) (R.ae (R.ai (i:=5) cB.nd (R.op R.bi (R.op R.bg R.ac R.ac) (R.ix (R.af (K:=K)) (R.v 1) (R.ax R.ac)))) (R.ae (R.ap (R.ao R.eq (R.ix (R.af (K:=K)) (R.v 2) R.ac) R.ag) (R.ah (R.ai (i:=5) cB.nd (R.op R.bi (R.ix (R.af (K:=K)) (R.v 1) (R.ax R.ac)) R.ac))) R.aq) (R.ae (R.ap (R.ao R.eq (R.ix (R.af (K:=K)) (R.v 2) R.ac) R.ag) (R.ae (R.ai (i:=4) cB.nd (R.op R.au (R.op R.bi (R.op R.bg R.ac R.ac) (R.ix (R.af (K:=K)) (R.v 1) (R.ax R.ac))) R.ac)) (R.ah (R.ai (i:=5) cB.nd (R.op R.bg R.ac R.ac)))) R.aq) (R.ae (R.ap (R.tw (R.bv (R.ao R.eq (R.ix (R.af (K:=K)) (R.v 2) R.ac) R.ag) (R.cj (R.ao (R.be (K:=K)) (R.ix (R.af (K:=K)) (R.v 1) R.ac) (R.ak (R.aa R.ag (R.aa R.ag R.ad))))))) (R.ae (R.ai (i:=4) cB.nd (R.ix (R.af (K:=K)) (R.v 1) (R.ax R.ac))) (R.ah (R.ai (i:=5) cB.nd (R.op R.bg R.ac R.ac)))) R.aq) (R.ah (R.al (R.op R.dw (R.ak (R.aa (R.ix (R.af (K:=K)) (R.v 2) R.ac) (R.aa (R.aw (R.fk rfl) rfl T.b_min xN (R.aa (R.v 5) (R.aa (R.aw (R.iw rfl) rfl T.b_max mL (R.aa (R.v 4) (R.aa (R.op R.au (R.ix (R.af (K:=K)) (R.v 2) R.ac) (R.v 3)) R.ad))) R.ad))) R.ad))) (R.sl R.sT (R.v 2) (R.ps R.ac) R.pn)))))))))),?_⟩
  refine aY (fun σ' H'=>∃by':Int,σ'=[some (.ref d),some (.ref td),some (.ref c),some (.int by'),none,none]/\Fw d b H H') (fun nx hnx=>?_) ?_
  ·refine⟨dR rfl,fun p hp=>⟨d,b,2,rfl,dk.new hp,Zd,Zd,fun r3 H3 c0 c1 D3 k3=>?_⟩⟩
   have hpd:=dk.ne hp
   have gp:=k3 p _ aA hpd.1 hpd.2
   have f3:=((Fw.refl dk).new hp).draw D3 k3
   rcases(by omega:r3=0∨r3=1) with rfl | rfl
   ·exact⟨_,SqL.of gp,_,rfl,hnx _ _ ⟨1,rfl,f3⟩⟩
   ·exact⟨_,SqL.of gp,_,rfl,hnx _ _ ⟨-1,rfl,f3⟩⟩
  rintro σ' H1 ⟨by',rfl,f1⟩
  have gx1:=f1.tup gx
  have gy1:=f1.tup gy
  refine aY (fun σ' H'=>σ'=[some (.ref d),some (.ref td),some (.ref c),some (.int by'),some (.int 0),none]/\H1=H') (fun nx hnx=>hnx _ _ ⟨rfl,rfl⟩) ?_
  rintro _ _ ⟨rfl,rfl⟩
  refine aY (fun σ' H'=>σ'=[some (.ref d),some (.ref td),some (.ref c),some (.int by'),some (.int 0),some (.int ((1000000000000 - x.n:Nat):Int))]/\H1=H') (fun nx hnx=>?_) ?_
  ·refine⟨⟨Zd,Zd,Zd⟩,_,SqT.of gx1,_,yC x,hnx _ _ ⟨?_,rfl⟩⟩
   rw[show((1000000000000 - x.n:Nat):Int)=1000000000000 - (x.n:Int) by omega];rfl
  rintro _ _ ⟨rfl,rfl⟩
  refine aY (fun σ' H'=>σ'=[some (.ref d),some (.ref td),some (.ref c),some (.int by'),some (.int 0),some (.int ((match y with | .short _=>x.n - 1 | _=>1000000000000 - x.n:Nat):Int))]/\H1=H') (fun nx hnx=>?_) ?_
  ·refine⟨_,SqT.of gy1,_,pS y,?_⟩
   cases y with
   | short m'=>
    refine⟨_,SqT.of gx1,_,yC x,hnx _ _ ⟨?_,rfl⟩⟩
    show _=([_,_,_,_,_,some (V.int ((x.n - 1:Nat):Int))]:List (Option V))
    rw[show((x.n - 1:Nat):Int)=(x.n:Int) - 1 by omega];rfl
   | _=>exact hnx _ _ ⟨rfl,rfl⟩
  rintro _ _ ⟨rfl,rfl⟩
  refine aY (fun σ' H'=>σ'=[some (.ref d),some (.ref td),some (.ref c),some (.int by'),some (.int ((match y with | .full _=>1000000000000 - x.n+1 | _=>0:Nat):Int)),some (.int ((match y with | .short _=>x.n - 1 | .full _=>1000000000000 | _=>1000000000000 - x.n:Nat):Int))]/\H1=H') (fun nx hnx=>?_) ?_
  ·refine⟨_,SqT.of gy1,_,pS y,?_⟩
   cases y with
   | full m'=>
    refine⟨⟨Zd,Zd,Zd⟩,_,SqT.of gx1,_,yC x,⟨Zd,Zd,Zd⟩,hnx _ _ ⟨?_,rfl⟩⟩
    show _=([_,_,_,_,some (V.int ((1000000000000 - x.n+1:Nat):Int)),some (V.int ((1000000000000:Nat):Int))]:List (Option V))
    rw[show((1000000000000 - x.n+1:Nat):Int)=1000000000000 - (x.n:Int)+1 by omega];rfl
   | _=>exact hnx _ _ ⟨rfl,rfl⟩
  rintro _ _ ⟨rfl,rfl⟩
  refine aY (fun σ' H'=>σ'=[some (.ref d),some (.ref td),some (.ref c),some (.int by'),some (.int (fH x y:Int)),some (.int (gW x y:Int))]/\Same H1 H') (fun nx hnx=>?_) ?_
  ·refine⟨_,SqT.of gy1,_,pS y,?_⟩
   have lo1:∀m',y=.is1 m'∨(∃l',y=.is2 l' m')->fH x y=(if wU x then x.n else 0)/\gW x y=(if wU x then 1000000000000 else 1000000000000 - x.n):=fun m' h=>by rcases h with rfl | ⟨l',rfl⟩ <;> exact⟨rfl,rfl⟩
   cases y with
   | is1 m'=>
    refine⟨_,SqT.of gx1,_,nO x,aN rfl,fun tp H2 s2 g2=>⟨tp,_,rfl,.inr (SqT.of g2),rfl,rfl,?_⟩⟩
    obtain⟨e1,e2⟩:=lo1 m' (.inl rfl)
    rw[e1,e2]at hnx;show if kU (.str x.wd) [.str "add",.str "fetch"]=true then _ else _
    rw[Ax];refine bF (fun h=>?_) (fun h=>?_)
    ·rw[h]at hnx;exact⟨_,SqT.of (s2 _ _ gx1),_,yC x,⟨Zd,Zd,Zd⟩,hnx _ _ ⟨rfl,s2⟩⟩
    ·rw[h]at hnx;exact hnx _ _ ⟨rfl,s2⟩
   | is2 l' m'=>
    refine⟨_,SqT.of gx1,_,nO x,aN rfl,fun tp H2 s2 g2=>⟨tp,_,rfl,.inr (SqT.of g2),rfl,rfl,?_⟩⟩
    obtain⟨e1,e2⟩:=lo1 m' (.inr ⟨l',rfl⟩)
    rw[e1,e2]at hnx;show if kU (.str x.wd) [.str "add",.str "fetch"]=true then _ else _
    rw[Ax];refine bF (fun h=>?_) (fun h=>?_)
    ·rw[h]at hnx;exact⟨_,SqT.of (s2 _ _ gx1),_,yC x,⟨Zd,Zd,Zd⟩,hnx _ _ ⟨rfl,s2⟩⟩
    ·rw[h]at hnx;exact hnx _ _ ⟨rfl,s2⟩
   | _=>exact hnx _ _ ⟨rfl,Same.refl _⟩
  rintro _ H2 ⟨rfl,s2⟩
  have gy2:=s2 _ _ gy1
  have hlh:fH x y<=gW x y:=by
   unfold fH gW;cases y <;> dsimp only <;> (try split) <;> omega
  obtain⟨v,hv,hv1,hv2⟩:∃v:Nat,(if (if (m:Int)+by' > (fH x y:Int) then (m:Int)+by' else (fH x y:Int))<(gW x y:Int) then (if (m:Int)+by' > (fH x y:Int) then (m:Int)+by' else (fH x y:Int)) else (gW x y:Int))=(v:Int)/\fH x y<=v/\v<=gW x y:=by
   generalize fH x y=lo at hlh;generalize gW x y=hi at hlh;by_cases h1:(m:Int)+by' > (lo:Int)
   ·rw[if_pos h1];by_cases h2:(m:Int)+by'<(hi:Int)
    ·rw[if_pos h2];exact⟨((m:Int)+by').toNat,Zo,Zo,Zo⟩
    ·rw[if_neg h2];exact⟨hi,rfl,hlh,bM _⟩
   ·rw[if_neg h1];by_cases h2:(lo:Int)<(hi:Int)
    ·rw[if_pos h2];exact⟨lo,rfl,bM _,hlh⟩
    ·rw[if_neg h2];exact⟨hi,rfl,hlh,bM _⟩
  refine⟨_,SqT.of gy2,_,pS y,_,SqT.of gy2,_,hm,aN rfl,fun t1 H3 s3 g3=>⟨_,s3 _ _ gy2,fun t2 H4 s4 g4=>⟨_,_,s4 _ _ g3,g4,?_,fun t3 H5 s5 g5=>?_⟩⟩⟩
  ·have:=Lu y.vs (some 2) none
   have:y.vs.length<=3:=by cases y <;> exact Nat.le_of_ble_eq_true rfl
   show 2+_<=1000
   omega
  ·have g5':H5 t3=some (.tup (Ds v y).vs):=by
    rw[<- Oj hin v,<- hv];exact g5
   exact q t3 (Ds v y) H5 (Oi hx ho hv1 hv2) (yP _ _) g5' ((((f1.same s2).same s3).same s4).same s5)
end
end KL
namespace KL
open PySem L2
section
variable {P:Program} {w:World} {K:W.Frag} {mg:Str->Option Value} {base:Heap}
theorem Ay {K:W.Frag} {β:Type} {js:List (Option Nat)} {tt:TT} {te:TE} {σ:St} {H:Hp} {Q:List V->Hp->Prop} {ra:Addr} {rs:List RX} {as:List Addr} (RR:RxsAt H ra rs as) (hl:rs.length<=100) (Pp:RX->Bool) (val:β->V) (G:Hp->RX->β->Prop)
  (hG:∀H H' r w,Same H H'->G H r w->G H' r w)
  (ht:∀(a:Addr) (r:RX) (H':Hp) (k:Bool->Hp->Prop),r∈rs->r.At H' a->(∀H'',Same H' H''->k (Pp r) H'')->tt ((qO js σ).set 0 (some (.ref a))) H' k)
  (he:∀(a:Addr) (r:RX) (H':Hp) (Q':VK),r∈rs->Pp r=true->r.At H' a->(∀w H'',Same H' H''->G H'' r w->Q' (val w) H'')->te ((qO js σ).set 0 (some (.ref a))) H' Q')
  (hd:∀(prs:List (RX × β)) (H':Hp),Same H H'->(∀p∈prs,G H' p.1 p.2)->prs.map (·.1)=rs.filter Pp->Q (prs.map fun p=>val p.2) H') :
  kI js (aK 0) tt te σ (Re K ra) H Q:=by
 have le:=RR.len
 refine bT (cU K ra (as.map V.ref)) (by rw[bG];omega) (fun i ys H'=>∃prs:List (RX × β),ys=prs.map (fun p=>val p.2)/\(∀p∈prs,G H' p.1 p.2)/\prs.map (·.1)=(rs.take i).filter Pp/\Same H H')
  (fun i ys H' ⟨prs,e,_,e2,s'⟩=>⟨SqL.of (s' _ _ RR.lst),?_⟩) ⟨[],rfl,(fun _ h=>nomatch h),rfl,Same.refl _⟩ (fun i x ys H' hx ⟨prs,e,h1,h2,s'⟩=>?_) (fun ys H' ⟨prs,e,h1,h2,s'⟩=>?_)
 ·have:=congrArg List.length e2
  rw[bG]at this;have h3:=List.length_filter_le Pp (rs.take i)
  rw[nF]at h3;rw[e,bG];omega
 ·obtain⟨a,r,rfl,ha,hrr,hat⟩:=(RR.same s').get hx
  have hm:=gX hrr
  have etk:rs.take (i+1)=rs.take i++[r]:=bP hrr
  refine ht a r H' _ hm hat fun H'' s''=>?_
  have h1':∀p∈prs,G H'' p.1 p.2:=fun p hp=>hG _ _ _ _ s'' (h1 p hp)
  cases hp:Pp r with
  | true=>
   refine he a r H'' _ hm hp (hat.tk s''.tk) fun w H3 s3 gw=>⟨prs++[(r,w)],by rw[e,jF];rfl,fun p hp'=>?_,?_,(s'.trans s'').trans s3⟩
   ·rcases aH hp' with hp' | rfl
    ·exact hG _ _ _ _ s3 (h1' p hp')
    ·exact gw
   ·rw[jF,h2,etk,List.filter_append,List.filter_cons,if_pos hp];rfl
  | false=>
   refine⟨prs,e,h1',?_,s'.trans s''⟩
   rw[h2,etk,List.filter_append,List.filter_cons,if_neg (by rw[hp];exact Bool.false_ne_true)];simp
 ·rw[bG,<- le,rA (bM _)]at h2;rw[e];exact hd prs H' s' h1 h2
def kvH:RX->aT × V | .has z m=>(Sum.inr z,.int (m:Int)) | _=>(Sum.inl 0,.non)
theorem lT:∀rs:List RX,dJ rs=(rs.filter nP).map kvH
 | []=>rfl
 | r::rs=>by
  unfold dJ;rw[List.filterMap_cons];have ih:=lT rs
  unfold dJ at ih;cases r with
  | has z m=>dsimp only;rw[ih];rfl
  | _=>dsimp only;rw[ih];rfl
def aAc (H:Hp) (r:RX) (w:W):Prop:=H w.1=some (.tup [kV w.2.1,w.2.2])/\w.2=kvH r
theorem sF (r:RX):decide (bX r="has")=nP r:=by cases r <;> rfl
theorem wV {K:W.Frag} {σ:St} {H:Hp} {Q:List V->Hp->Prop} {ra:Addr} {rs:List RX} {as:List Addr} (RR:RxsAt H ra rs as) (hl:rs.length<=100)
  (hd:∀(zs:List W) (H':Hp),Ux H' zs->zs.map (·.2)=dJ rs->zs.length<=1000->Same H H'->Q (zs.map fun z=>V.ref z.1) H') :
  kI [none] (aK 0) (mT (sQ Wl (sQ (qP K) (vr 0) (tC (.int 0))) (tC (.str "has")))) (zQ (jB (sQ (qP K) (vr 0) (tC (.int 1))) (jB (sQ (qP K) (vr 0) (tC (.int 2))) sV))) σ (Re K ra) H Q:=by
 refine Ay RR hl nP (fun w:W=>V.ref w.1) aAc (fun H H' r w s g=>⟨s _ _ g.1,g.2⟩) (fun a r H' k hm hat hk=>?_) (fun a r H' Q' hm hp hat hq=>?_) (fun prs H' s' h1 h2=>?_)
 ·obtain⟨xs,g,x0,_,_⟩:=eC hat
  refine⟨_,SqT.of g,_,x0,?_⟩
  have:=hk H' (Same.refl _)
  rw[<- sF]at this;exact this
 ·cases r with
  | has z m=>exact⟨_,SqT.of hat,_,rfl,_,SqT.of hat,_,rfl,aN rfl,fun tp H2 s2 g2=>hq (tp,(Sum.inr z,.int (m:Int))) H2 s2 ⟨g2,rfl⟩⟩
  | _=>cases hp
 ·have e:=hd (prs.map (·.2)) H' (fun w hw=>by obtain⟨p,hp,rfl⟩:=Zmm.mp hw;exact(h1 p hp).1) ?_ ?_ s'
  ·rw[List.map_map]at e;exact e
  ·rw[lT,<- h2,List.map_map,List.map_map];exact List.map_congr_left fun p hp=>(h1 p hp).2
  ·have:=congrArg List.length h2
   rw[bG]at this;have:=List.length_filter_le nP rs
   rw[bG];omega
def Ya (H:Hp) (r:RX) (w:W):Prop:=H w.1=some (.tup [kV w.2.1,w.2.2])/\∃(n t:Nat) (p k:Str) (x:Dd) (b:Addr),r=.came n t p k x/\w.2=(Sum.inl (n:Int),.ref b)/\H b=some (.tup x.vs)
def CameD (H:Hp) (rs:List RX) (kvs:List (aT × V)):Prop:=∀(n t:Nat) (p k:Str) (x:Dd),.came n t p k x∈rs->∃b,bE kvs (Sum.inl (n:Int))=some (.ref b)/\H b=some (.tup x.vs)
theorem CameD.tk {H H':Hp} {rs:List RX} {kvs:List (aT × V)} (h:CameD H rs kvs) (s:TK H H'):CameD H' rs kvs:=fun n t p k x hm=>by obtain⟨b,h1,h2⟩:=h n t p k x hm;exact⟨b,h1,s _ _ h2⟩
theorem nD {K:W.Frag} {σ:St} {H:Hp} {Q:List V->Hp->Prop} {ra:Addr} {rs:List RX} {as:List Addr} (RR:RxsAt H ra rs as) (hw:RX.Whole rs) (hl:rs.length<=100)
  (hd:∀(zs:List W) (H':Hp),Ux H' zs->zs.length<=1000->CameD H' rs (aS [] (zs.map (·.2)))->Same H H'->Q (zs.map fun z=>V.ref z.1) H') :
  kI [none] (aK 0) (mT (sQ Wl (sQ (qP K) (vr 0) (tC (.int 0))) (tC (.str "came")))) (zQ (jB (sQ (qP K) (vr 0) (tC (.int 1))) (jB (sQ (qP K) (vr 0) (tC (.int 5))) sV))) σ (Re K ra) H Q:=by
 refine Ay RR hl Yo (fun w:W=>V.ref w.1) Ya (fun H H' r w s g=>⟨s _ _ g.1,by obtain⟨n,t,p,k,x,b,h1,h2,h3⟩:=g.2;exact⟨n,t,p,k,x,b,h1,h2,s _ _ h3⟩⟩) (fun a r H' k hm hat hk=>?_) (fun a r H' Q' hm hp hat hq=>?_) (fun prs H' s' h1 h2=>?_)
 ·obtain⟨xs,g,x0,_,_⟩:=eC hat
  refine⟨_,SqT.of g,_,x0,?_⟩
  have:=hk H' (Same.refl _)
  rw[<- Og]at this;exact this
 ·cases r with
  | came n t p k x=>
   obtain⟨b,g,gb⟩:=hat
   exact⟨_,SqT.of g,_,rfl,_,SqT.of g,_,rfl,aN rfl,fun tp H2 s2 g2=>hq (tp,(Sum.inl (n:Int),.ref b)) H2 s2 ⟨g2,n,t,p,k,x,b,rfl,rfl,s2 _ _ gb⟩⟩
  | _=>cases hp
 ·have e:=hd (prs.map (·.2)) H' (fun w hw=>by obtain⟨p,hp,rfl⟩:=Zmm.mp hw;exact(h1 p hp).1) ?_ ?_ s'
  ·rw[List.map_map]at e;exact e
  ·have:=congrArg List.length h2
   rw[bG]at this;have:=List.length_filter_le Yo rs
   rw[bG];omega
  ·intro n t p k x hm;rw[List.map_map];have hin:RX.came n t p k x∈prs.map (·.1):=by rw[h2];exact List.mem_filter.mpr ⟨hm,rfl⟩
   obtain⟨q,hq,eq⟩:=Zmm.mp hin
   obtain⟨_,n1,t1,p1,k1,x1,b1,e1,e2,g1⟩:=h1 q hq
   rw[eq]at e1;cases e1
   obtain⟨v,hv⟩:=qA (k:=Sum.inl (n:Int)) (l:=prs.map ((·.2)∘(·.2))) (kvs:=[]) (.inl (by rw[List.map_map];exact Zmm.mpr ⟨q,hq,by show q.2.2.1=_;rw[e2]⟩))
   rcases kR hv with hm2 | hm2
   ·obtain⟨q2,hq2,e3⟩:=Zmm.mp hm2
    obtain⟨_,n2,t2,p2,k2,x2,b2,e4,e5,g2⟩:=h1 q2 hq2
    have e3:q2.2.2=(Sum.inl (n:Int),v):=e3
    rw[e5]at e3;injection e3 with e6 e7
    have:n2=n:=by have:=Sum.inl.inj e6;omega
    subst this;have hm3:RX.came n2 t2 p2 k2 x2∈rs:=by
     have:q2.1∈rs.filter Yo:=by rw[<- h2];exact List.mem_map_of_mem hq2
     rw[e4]at this;exact(List.mem_filter.mp this).1
    have:=dD hw hm hm3
    cases this
    exact⟨b2,by rw[hv,<- e7],g2⟩
   ·cases hm2
theorem CameD.get {H:Hp} {a:Addr} {rs:List RX} {kvs:List (aT × V)} (h:CameD H rs kvs) (g:H a=some (.dK kvs)) {n t:Nat} {p k:Str} {x:Dd} (hm:.came n t p k x∈rs):∃b,DGet H a (.int (n:Int)) (some (.ref b))/\H b=some (.tup x.vs):=by
 obtain⟨b,hv,gb⟩:=h n t p k x hm
 exact⟨b,by rw[<- hv];exact DGet.k (k:=Sum.inl (n:Int)) g,gb⟩
theorem Az {α β:Type} {f:α->V}:∀ {xs:List α} {ys:List β},xs.length=ys.length->(xs.zip ys).map (fun z=>f z.1)=xs.map f
 | [],_,_=>by simp
 | x::xs,[],h=>by cases h
 | x::xs,y::ys,h=>by rw[List.zip_cons_cons,List.map_cons,List.map_cons,Az (by simpa using h)]
theorem Ba {α β:Type}:∀ {xs:List α} {ys:List β},xs.length=ys.length->(xs.zip ys).map (·.2)=ys
 | [],[],_=>rfl
 | [],y::ys,h=>by cases h
 | x::xs,[],h=>by cases h
 | x::xs,y::ys,h=>by rw[List.zip_cons_cons,List.map_cons,Ba (by simpa using h)]
theorem qL {H:Hp}:∀ {ys:List An} {cs:List Addr},Paired (fun y c=>H c=some (.tup (An.vs y))) ys cs->Av H (cs.zip ys)
 | _,_,.nil=>(fun _ h=>nomatch h)
 | _,_,.cons h t=>fun z hz=>by
  rw[List.zip_cons_cons]at hz;rcases List.mem_cons.mp hz with rfl | hz
  ·exact h
  ·exact qL t z hz
theorem sI (l:List (aT × V)):(aS [] l).length<=l.length:=by
 have:∀(l kvs:List (aT × V)),(aS kvs l).length<=kvs.length+l.length:=by
  intro l;induction l with
  | nil=>intro kvs;exact bM _
  | cons x l ih=>
   intro kvs;have h1:=ih (bO kvs x.1 x.2)
   have h2:=cJ kvs x.1 x.2
   have e:aS kvs (x::l)=aS (bO kvs x.1 x.2) l:=rfl
   rw[e,uR];omega
 have:=this l []
 simpa using this
end
end KL
namespace KL
open PySem L2
section
variable {P:Program} {w:World} {K:W.Frag} {mg:Str->Option Value} {base:Heap}
def lU:Sp:=fun vs H Q _=>∃(ra:Addr) (rs:List RX) (as:List Addr),vs=[.ref ra]/\RxsAt H ra rs as/\(∀r∈rs,gO r)/\rs.length<=60/\RX.Whole rs/\(∀(o:Option Nat) (H':Hp),kD rs o->Same H H'->Q (Nv o) H')
theorem Js (T:Txt K mg) (cLearly:aG P w K mg base 1 "_law_early" ["_law_book","_law_deed_here"] pP) (cLlates:aG P w K mg base 1 "_law_lates" ["_law_book","_law_deed_here"] pQ) (cLchanged:aG P w K mg base 2 "_law_changed" ["_law_book","_law_deed_here","_law_answer_here"] fV)
  (D:DefAt K mg "_law_due" fQ ["_law_rows"]):aG P w K mg base 3 "_law_due" ["_law_rows"] lU:=by
 refine D.go cX (fun vs H Q E h=>?_) (fun f cdv A outer s H vs Q E hr h=>?_)
 ·obtain⟨ra,rs,as,rfl,_⟩:=h;rfl
 ·obtain⟨ra,rs,as,rfl,RR,hf,hl,hw,q⟩:=h
  have hu1:=eG hr
  have hu64:=hr.units
  have hLearly:Room 1 _:=hr.mono Zd
  have hLlates:Room 1 _:=hr.mono Zd
  have hLchanged:Room 2 _:=hr
  have le:=RR.len
  have ela:(as.map V.ref).length=rs.length:=by rw[bG];omega
  refine⟨_,(R.ae (R.ai (i:=1) cX.nd (R.bj (R.dq (K:=K) rfl) rfl T.b_dict iC (R.aa (R.bc rfl (js:=[none]) (N:=["_law_row"]) (CompScope.by (aB fQ) ["_law_rows","_law_book","_law_came","_law_k","_law_deed_here","_law_due_here","_law_some"] rfl rfl Zk) (bA rfl) (R.bo (K:=K) (R.v 0)) (fun C s₂ H₂ fp=>⟨(R.gn (i:=0) (show(["_law_row"]:List Str).Nodup by decide +kernel)),(R.bu (R.ao R.eq (R.ix (R.af (K:=K)) (R.v 0) R.ac) R.ag)),(R.ak (R.aa (R.ix (R.af (K:=K)) (R.v 0) R.ac) (R.aa (R.ix (R.af (K:=K)) (R.v 0) R.ac) R.ad)))⟩)) R.ad))) (R.ae (R.ai (i:=2) cX.nd (R.bj (R.dq (K:=K) rfl) rfl T.b_dict iC (R.aa (R.bc rfl (js:=[none]) (N:=["_law_row"]) (CompScope.by (aB fQ) ["_law_rows","_law_book","_law_came","_law_k","_law_deed_here","_law_due_here","_law_some"] rfl rfl Zk) (bA rfl) (R.bo (K:=K) (R.v 0)) (fun C s₂ H₂ fp=>⟨(R.gn (i:=0) (show(["_law_row"]:List Str).Nodup by decide +kernel)),(R.bu (R.ao R.eq (R.ix (R.af (K:=K)) (R.v 0) R.ac) R.ag)),(R.ak (R.aa (R.ix (R.af (K:=K)) (R.v 0) R.ac) (R.aa (R.ix (R.af (K:=K)) (R.v 0) R.ac) R.ad)))⟩)) R.ad))) (R.ae (R.bp PassesOwn.never rfl (R.dj rfl T.b_range (R.aa (R.aw (R.az (K:=K)) rfl T.b_len bC (R.aa (R.v 0) R.ad)) R.ad)) (R.gn (i:=3) cX.nd) (R.ah (R.ap (R.ao R.eq (R.ix (R.af (K:=K)) (R.ix (R.ar (K:=K)) (R.v 0) (R.v 3)) R.ac) R.ag) (R.ae (R.ai (i:=4) cX.nd (R.dh hu1 (R.v 2) (R.ix (R.af (K:=K)) (R.ix (R.ar (K:=K)) (R.v 0) (R.v 3)) R.ac))) (R.ae (R.ai (i:=5) cX.nd (R.fn cLearly hLearly rfl (R.aa (R.v 1) (R.aa (R.v 4) R.ad)))) (R.ae (R.ai (i:=6) cX.nd (R.av (R.aa (R.v 5) R.ad))) (R.ae (R.ap (R.ao R.ft (R.v 5) R.bh) (R.ah (R.ai (i:=6) cX.nd (R.fn cLlates hLlates rfl (R.aa (R.v 1) (R.aa (R.v 4) R.ad))))) R.aq) (R.ae (R.ap (R.ao (R.gm hu64) (R.ix (R.af (K:=K)) (R.ix (R.ar (K:=K)) (R.v 0) (R.v 3)) R.ac) (R.v 6)) (R.ah (R.al (R.v 3))) R.aq) (R.ah (R.bn (R.fn cLchanged hLchanged rfl (R.aa (R.v 1) (R.aa (R.v 4) (R.aa (R.ix (R.af (K:=K)) (R.ix (R.ar (K:=K)) (R.v 0) (R.v 3)) R.ac) R.ad))))))))))) R.aq))) (R.ah (R.al R.bh))))),?_⟩
  refine aY (fun σ' H'=>∃(bk:Addr),σ'=[some (.ref ra),some (.ref bk),none,none,none,none,none]/\H bk=none/\H' bk=some (.dK (aS [] (dJ rs)))/\Same H H') (fun nx hnx=>?_) ?_
  ·refine⟨ra,rfl,⟨_,SqL.of RR.lst⟩,wV RR Zo fun zs H1 hz ez lz s1=>?_⟩
   intro p hp;have gp:(aJ H1 p (.lst (zs.map fun z=>V.ref z.1))) p=_:=aA
   refine⟨zs,SqL.of gp,fun z hz'=>aO (hz z hz') hp,lz,fun bk hbk=>?_⟩
   have s2:=s1.trans (aF (o:=.lst (zs.map fun z=>V.ref z.1)) hp)
   exact hnx _ _ ⟨bk,rfl,s2.free hbk,by rw[aA,ez],s2.trans (aF hbk)⟩
  rintro σ' H1 ⟨bk,rfl,fbk,gbk,s1⟩
  refine aY (fun σ' H'=>∃(cd:Addr) (dkv':List (aT × V)),σ'=[some (.ref ra),some (.ref bk),some (.ref cd),none,none,none,none]/\H1 cd=none/\H' cd=some (.dK dkv')/\CameD H' rs dkv'/\Same H1 H') (fun nx hnx=>?_) ?_
  ·refine⟨ra,rfl,⟨_,SqL.of (RR.same s1).lst⟩,nD (RR.same s1) hw Zo fun zs H2 hz lz hc s2=>?_⟩
   intro p hp;have gp:(aJ H2 p (.lst (zs.map fun z=>V.ref z.1))) p=_:=aA
   refine⟨zs,SqL.of gp,fun z hz'=>aO (hz z hz') hp,lz,fun cd hcd=>?_⟩
   have s3:=s2.trans (aF (o:=.lst (zs.map fun z=>V.ref z.1)) hp)
   have s4:=(aF (o:=.lst (zs.map fun z=>V.ref z.1)) hp).trans (aF (o:=.dK (aS [] (zs.map (·.2)))) hcd)
   exact hnx _ _ ⟨cd,_,rfl,s3.free hcd,aA,hc.tk s4.tk,s2.trans s4⟩
  rintro σ' H2 ⟨cd,dk,rfl,fcd,gcd,hcd,s2⟩
  have s02:=s1.trans s2
  have nbc:bk≠cd:=aE gbk fcd
  refine aY (fun σ' H'=>kD rs none/\Same H H') (fun nx hnx=>?_) ?_
  ·refine⟨_,.inl (SqL.of (s02 _ _ RR.lst)),(rs.length:Int),by rw[ela],Zo,Zo,?_⟩
   refine dM (cR 0 (rs.length:Int).toNat) (fun i σ' H'=>∃(kvs:List (aT × V)) (o3 o4 o5 o6:Option V),σ'=[some (.ref ra),some (.ref bk),some (.ref cd),o3,o4,o5,o6]/\H' bk=some (.dK kvs)/\BookIs kvs (bW rs i)/\kvs.length<=100+2*i/\(∀z,bW rs i z<=1000000000000)/\H' cd=some (.dK dk)/\CameD H' rs dk/\(∀j r,j<i->rs[j]?=some r->eX rs j r)/\Same H H') (fun _ _ _ _=>trivial)
    ⟨_,_,_,_,_,rfl,s2 _ _ gbk,cD rs [] _ (fun _=>rfl),?_,qI hf,gcd,hcd,fun j r hj=>absurd hj (Nat.not_lt_zero _),s02⟩ ?_ ?_
   ·have:=sI (dJ rs)
    have:=rY rs
    omega
   ·rintro i v σ' H3 hv ⟨kvs,o3,o4,o5,o6,rfl,gb3,hB3,lk3,le3,gc3,hc3,ri3,s3⟩
    obtain⟨rfl,hi⟩:=iW hv
    have hil:i<rs.length:=by omega
    have hva:(as.map V.ref)[i]?=some (.ref (as[i]'Zo)):=by rw[kE,iA];rfl
    obtain⟨a,r,ea,_,hrr,hat0⟩:=RR.get hva
    rw[ea]at hva;have etk:=bP hrr
    have hlst:=s3 _ _ RR.lst
    obtain⟨xs,g,x0,x1,x2⟩:=eC (hat0.tk s3.tk)
    dsimp only [aK];refine⟨_,SqL.of hlst,.ref a,cE hva,_,SqT.of g,_,x0,?_⟩
    show if decide (bX r="done")=true then _ else _
    have bel:eX rs i r->∀(j:Nat) (r':RX),j<i+1->rs[j]?=some r'->eX rs j r':=fun hra j r' hj hr'=>by
     rcases Nat.lt_or_ge j i with hji | hji
     ·exact ri3 j r' hji hr'
     ·have:j=i:=by omega
      subst this;rw[hrr]at hr';cases hr'
      exact hra
    refine bF (fun h=>?_) (fun h=>?_)
    ·obtain⟨n,t,y,rfl⟩:=lP (of_decide_eq_true h)
     obtain⟨cy,gr0,gy0⟩:=hat0
     obtain⟨t0,pp,kk,xd,hcm,hof⟩:=hV hw (gX hrr)
     have hxok:xd.Ok:=hf _ hcm
     have edo:=nR hw hcm
     obtain⟨cb,dg,gcb⟩:=hc3.get gc3 hcm
     refine⟨_,SqL.of hlst,.ref a,cE hva,_,SqT.of (s3 _ _ gr0),_,rfl,cd,_,rfl,dg,?_⟩
     dsimp only [aK];refine aY (fun σ' H'=>∃(v5:V),σ'=[some (.ref ra),some (.ref bk),some (.ref cd),some (.int (i:Int)),some (.ref cb),some v5,o6]/\((∃y5 c5,aP (bW rs i) xd=some y5/\v5=.ref c5/\H' c5=some (.tup (An.vs y5)))∨(aP (bW rs i) xd=none/\v5=.non))/\Same H3 H') (fun nx' hnx'=>?_) ?_
     ·refine⟨bk,cb,kvs,bW rs i,xd,rfl,gb3,hB3,gcb,fun y5 c5 H4 e4 s4 g4=>?_,fun e4 H4 s4=>?_⟩
      ·exact hnx' _ _ ⟨.ref c5,rfl,.inl ⟨y5,c5,e4,rfl,g4⟩,s4⟩
      ·exact hnx' _ _ ⟨.non,rfl,.inr ⟨e4,rfl⟩,s4⟩
     rintro σ' H4 ⟨v5,rfl,hv5,s4⟩
     refine⟨dR rfl,fun l6 hl6=>?_⟩
     have s5:=s4.trans (aF (o:=.lst [v5]) hl6)
     have gl6:(aJ H4 l6 (.lst [v5])) l6=some (.lst [v5]):=aA
     have g6:∀ {c5:Addr} {u:HO},H4 c5=some u->(aJ H4 l6 (.lst [v5])) c5=some u:=fun e=>aO e hl6
     dsimp only [aK];generalize aJ H4 l6 (.lst [v5])=H5 at s5 gl6 g6 ⊢;refine aY (fun σ' H'=>∃(l:Addr) (zs:List (Addr × An)),σ'=[some (.ref ra),some (.ref bk),some (.ref cd),some (.int (i:Int)),some (.ref cb),some v5,some (.ref l)]/\H' l=some (.lst (zs.map fun z=>V.ref z.1))/\Av H' zs/\zs.map (·.2)=eE (bW rs i) xd/\Same H3 H') (fun nx' hnx'=>?_) ?_
     ·rcases hv5 with⟨y5,c5,e4,rfl,g4⟩ | ⟨e4,rfl⟩
      ·refine hnx' _ _ ⟨l6,[(c5,y5)],rfl,gl6,fun z hz=>?_,by unfold eE;rw[e4];rfl,s5⟩
       rw[Zms.mp hz];exact g6 g4
      ·have hfar:xd.far=true:=by
        cases ef:xd.far with
        | true=>rfl
        | false=>exact absurd e4 (pX ef)
       refine⟨bk,cb,kvs,bW rs i,xd,rfl,s5 _ _ gb3,hB3,s5 _ _ gcb,hfar,e4,fun l cs H6 fl gl pc s6=>?_⟩
       refine hnx' _ _ ⟨l,cs.zip (bH (bW rs i) xd),rfl,?_,fun z hz=>?_,?_,s5.trans s6⟩
       ·rw[gl,Az pc.length.symm]
       ·exact qL pc z hz
       ·rw[Ba pc.length.symm];unfold eE;rw[e4]
     rintro σ' H6 ⟨l,zs,rfl,gl,hz,ez,s6⟩
     have s06:=s3.trans s6
     refine⟨_,SqL.of (s06 _ _ RR.lst),.ref a,cE hva,_,SqT.of (s06 _ _ gr0),_,rfl,?_⟩
     refine⟨y.vs,zs.map (fun z=>(z.1,z.2.vs)),s06 _ _ gy0,by rw[gl,List.map_map];rfl,fun z hz'=>?_,?_⟩
     ·obtain⟨z',hz'',rfl⟩:=Zmm.mp hz'
      exact⟨hz z' hz'',Aw _ _⟩
     ·have hin:=Qc (y:=y) (zs:=zs)
      rw[ez]at hin;show if (!pJ y.vs (zs.map fun z=>(z.1,z.2.vs)))=true then _ else _
      refine bF (fun hi'=>?_) (fun hi'=>?_)
      ·refine q (some i) H6 ⟨⟨_,hrr,fun hra=>?_⟩,ri3⟩ s06
       have:=hin.mpr (hra xd edo)
       rw[this]at hi';cases hi'
      ·have hri:y∈eE (bW rs i) xd:=hin.mp (by simpa using hi')
       obtain⟨qq,hR⟩:=wQ hri
       obtain⟨ea',hG⟩:=gM hxok hR
       have hrat:eX rs i (.done n t y):=fun x' hx'=>by rw[edo]at hx';cases hx';exact hri
       refine⟨_,SqL.of (s06 _ _ RR.lst),.ref a,cE hva,_,SqT.of (s06 _ _ gr0),_,rfl,bk,cb,cy,kvs,bW rs i,xd,y,rfl,s6 _ _ gb3,hB3,Zo,s6 _ _ gcb,s06 _ _ gy0,hof,hG,fun kvs' H7 g7 hB7 l7 k7=>?_⟩
       have ebk:bW rs (i+1)=after (bW rs i) xd y:=by rw[iZ hrr];show(match nC rs n with | some x=>after (bW rs i) x y | none=>bW rs i)=_;rw[edo]
       rw[ea',<- ebk]at hB7;refine⟨kvs',_,_,_,_,rfl,g7,hB7,Zo,by rw[ebk];exact lN le3 hR,k7 _ _ (s6 _ _ gc3) nbc.symm,?_,bel hrat,fun c o e=>k7 _ _ (s06 _ _ e) (aE e fbk)⟩
       intro n1 t1 p1 k1 x1 hm1;obtain⟨b1,h1,h2⟩:=hc3 n1 t1 p1 k1 x1 hm1
       exact⟨b1,h1,k7 _ _ (s6 _ _ h2) (eY (s6 _ _ h2) (s6 _ _ gb3) (fun z=>nomatch z))⟩
    ·have hrat:eX rs i r:=by
      cases r with
      | done n t y=>exact absurd rfl (of_decide_eq_false h)
      | _=>trivial
     have ebk:bW rs (i+1)=bW rs i:=by
      rw[iZ hrr];cases r with
      | done n t y=>exact absurd rfl (of_decide_eq_false h)
      | _=>rfl
     exact⟨kvs,_,_,_,_,rfl,gb3,by rw[ebk];exact hB3,Zo,by rw[ebk];exact le3,gc3,hc3,bel hrat,s3⟩
   ·rintro σ' H3 ⟨kvs,o3,o4,o5,o6,rfl,gb3,hB3,lk3,le3,gc3,hc3,ri3,s3⟩
    rw[dC,show(rs.length:Int).toNat=rs.length by omega]at ri3
    exact hnx _ _ ⟨fun i r hr'=>ri3 i r (Zgs.mp hr').1 hr',s3⟩
  rintro σ' H3 ⟨hri,s3⟩
  exact q none H3 hri s3
theorem Dt (T:Txt K mg) (c_first_wrong:aG P w K mg base 8 "first_wrong" ["rows"] Uq) (D:DefAt K mg "_law_told" iP ["_law_rows"]):aG P w K mg base 9 "_law_told" ["_law_rows"] lU:=by
 refine D.go jQ (fun vs H Q E h=>?_) (fun f cdv A outer s H vs Q E hr h=>?_)
 ·obtain⟨ra,rs,as,rfl,_⟩:=h;rfl
 ·obtain⟨ra,rs,as,rfl,RR,hf,hl,hw,q⟩:=h
  have hr_first_wrong:Room 8 _:=hr
  have hu64:=hr.units
  have le:=RR.len
  refine⟨_,(R.ae (R.ai (i:=1) jQ.nd (R.bj (R.im (K:=K)) rfl T.b_list zM (R.aa (R.v 0) R.ad))) (R.ae (R.ai (i:=2) jQ.nd (R.fn c_first_wrong hr_first_wrong rfl (R.aa (R.v 0) R.ad))) (R.ae (R.ap (R.tw (R.da (R.ao (R.gu hu64) (R.v 0) (R.v 1)) (R.da (R.bq (R.dy .bl (R.v 2) rfl T.b_isinstance rfl T.b_bool zN)) (R.dr (R.tw (R.bv (R.ao R.fj (R.v 2) R.bh) (R.cj (R.db (R.bq (R.dy .int (R.v 2) rfl T.b_isinstance rfl T.b_int jI)))))))))) (R.ah (R.al (R.ax R.ac))) R.aq) (R.ah (R.al (R.v 2)))))),?_⟩
  refine⟨_,.inl (SqL.of RR.lst),fun cp hcp=>?_⟩
  have s1:=aF (o:=.lst (as.map V.ref)) hcp
  have gcp:(aJ H cp (.lst (as.map V.ref))) cp=_:=aA
  dsimp only [aK];generalize aJ H cp (.lst (as.map V.ref))=H1 at s1 gcp ⊢;have R1:=RR.same s1
  refine⟨ra,rs,as,rfl,R1,hf,hl,hw,fun o H2 ho s2=>?_⟩
  have R2:=R1.same s2
  have C2:RxsAt H2 cp rs as:=⟨s2 _ _ gcp,R2.each⟩
  dsimp only [aK];have fin:=q o H2 ho (s1.trans s2)
  refine⟨3,_,Zd,R2.rep,C2.rep,?_⟩
  cases o with
  | none=>exact⟨.non,trivial,fin⟩
  | some i=>exact⟨.int,trivial,.int,trivial,fin⟩
end
end KL
namespace KL
open PySem L2
section
variable {P:Program} {w:World} {K:W.Frag} {mg:Str->Option Value} {base:Heap}
theorem Jt (y:An):kU (.str (jR y)) [.str "short",.str "full"]=y.early:=by cases y <;> rfl
theorem Bb {x:Dd} {q:Bool} {z:Str} (h:z∈kB x q):z∈iX x:=by
 cases hf:x.far with
 | false=>rw[pO x hf]at h;exact h
 | true=>rw[oI x hf]at h;exact(List.mem_filter.mp h).1
theorem sJ {x:Dd} {q:Bool} {y:An} (h:jR y∈kB x q) (hf:x.far=true):q=true↔y.early=false:=by
 rw[oI x hf]at h;have:=(List.mem_filter.mp h).2
 rw[Jt]at this;revert this
 cases q <;> cases y.early <;> decide
theorem hZ {xs ys:List V} (h:xs.length≠ys.length):hJ xs ys=false:=by
 unfold hJ;have:(xs.length == ys.length)=false:=beq_eq_false_iff_ne.mpr h
 rw[this,Bool.and_false]
theorem yQ {H:Hp} {a:Addr} {r:RX} {xs:List V} (h:r.At H a) (g:H a=some (.tup xs)) (n:Nat):fB xs [.str "asked",.int (n:Int)]/\(hJ xs [.str "asked",.int (n:Int)]=true↔r=.asked n):=by
 have fl:∀ {u v:V} {rest:List V},dP u=true->dP v=true->fB (u::v::rest) [.str "asked",.int (n:Int)]:=fun {u v rest} hu hv j x y h1 h2=>by
  match j,h1,h2 with
  | 0,h1,h2=>cases h1;cases h2;exact⟨hu,rfl⟩
  | 1,h1,h2=>cases h1;cases h2;exact⟨hv,rfl⟩
  | j+2,h1,h2=>cases h2
 have no:∀ {p:Prop},¬ p->((false=true)↔p):=fun h=>⟨(fun z=>nomatch z),fun z=>absurd z h⟩
 cases r with
 | next m t=>rw[show H a=_ from h]at g;cases g;exact⟨fl rfl rfl,by rw[hZ Zs];exact no (fun z=>nomatch z)⟩
 | has z m=>rw[show H a=_ from h]at g;cases g;exact⟨fl rfl rfl,by rw[hZ Zs];exact no (fun z=>nomatch z)⟩
 | kept m t p k x y=>obtain⟨b,c,h1,_⟩:=h;rw[h1]at g;cases g;exact⟨fl rfl rfl,by rw[hZ Zs];exact no (fun z=>nomatch z)⟩
 | came m t p k x=>obtain⟨b,h1,_⟩:=h;rw[h1]at g;cases g;exact⟨fl rfl rfl,by rw[hZ Zs];exact no (fun z=>nomatch z)⟩
 | done m t y=>obtain⟨b,h1,_⟩:=h;rw[h1]at g;cases g;exact⟨fl rfl rfl,by rw[hZ Zs];exact no (fun z=>nomatch z)⟩
 | asked m=>
  rw[show H a=_ from h]at g;cases g
  refine⟨fl rfl rfl,?_⟩
  have si:∀k:Nat,∀u∈([.str "asked",.int (k:Int)]:List V),(∃z,u=.str z)∨∃n,u=.int n:=fun k u hu=>by
   simp only [List.mem_cons,List.not_mem_nil,or_false]at hu
   rcases hu with rfl | rfl
   ·exact .inl ⟨_,rfl⟩
   ·exact .inr ⟨_,rfl⟩
  rw[qJ (si m) (si n)];constructor
  ·intro e;injection e with _ e
   injection e with e _
   injection e with e
   have:m=n:=by omega
   rw[this]
  ·intro e;cases e;rfl
theorem Bc {H:Hp} (n:Nat):∀ {rs:List RX} {as:List Addr},Paired (fun r a=>RX.At H a r) rs as->∃zs:List (Addr × List V),zs.map (fun z=>V.ref z.1)=as.map V.ref/\(∀z∈zs,H z.1=some (.tup z.2)/\fB z.2 [.str "asked",.int (n:Int)])/\(pJ [.str "asked",.int (n:Int)] zs=true↔.asked n∈rs)
 | _,_,.nil=>⟨[],rfl,(fun _ h=>nomatch h),⟨(fun z=>nomatch z),(fun z=>nomatch z)⟩⟩
 | r::rs,a::as,.cons h t=>by
  obtain⟨zs,h1,h2,h3⟩:=Bc n t
  obtain⟨xs,g,_⟩:=eC h
  obtain⟨f1,f2⟩:=yQ h g n
  refine⟨(a,xs)::zs,by rw[List.map_cons,h1];rfl,fun z hz=>?_,?_⟩
  ·rcases List.mem_cons.mp hz with rfl | hz
   ·exact⟨g,f1⟩
   ·exact h2 z hz
  ·unfold pJ at h3 ⊢
   rw[List.any_cons,Bool.or_eq_true_iff,h3,f2,List.mem_cons];exact⟨fun z=>z.imp Eq.symm id,fun z=>z.imp Eq.symm id⟩
theorem Om {x:Dd} {y:An} {qb:Bool} (ho:An.Of x y) (hq:x.far=true->(qb=true↔y.early=false)):1<=(kB x qb).length:=by
 cases x with
 | pass h g a n=>
  have:qb=true:=(hq rfl).mpr (by cases y <;> first | rfl | exact ho.elim)
  rw[this];exact Nat.le_of_ble_eq_true rfl
 | _=>cases qb <;> exact Nat.le_of_ble_eq_true rfl
def Yb:Sp:=fun vs H Q _=>∃(d b ra:Addr) (rs:List RX) (as:List Addr),vs=[.ref d,.ref ra]/\Dk H d b/\RxsAt H ra rs as/\(ra≠d/\ra≠b)/\rs.length<=50/\RX.Whole rs/\(∀r∈rs,gO r) ∧
 ∀(la:Addr) (rs':List RX) (as':List Addr) (H':Hp),RxsAt H' la rs' as'->RX.Whole rs'->(∀r∈rs',gO r)->rs'.length<=50->Fw d b H H'->Q (.ref la) H'
theorem nE (T:Txt K mg) (cLdraw:aG P w K mg base 1 "_law_draw" ["_law_deck_here","_law_many"] bJ) (cLwords:aG P w K mg base 1 "_law_words" ["_law_deed_here","_law_asked"] lK) (cLanswer:aG P w K mg base 3 "_law_answer" ["_law_deck_here","_law_deed_here","_law_word"] uF)
  (cLnear:aG P w K mg base 2 "_law_near" ["_law_deck_here","_law_deed_here","_law_answer_here"] Jr) (D:DefAt K mg "_law_other_answers" bL ["_law_deck_here","_law_rows"]):aG P w K mg base 4 "_law_other_answers" ["_law_deck_here","_law_rows"] Yb:=by
 refine D.go aL (fun vs H Q E h=>?_) (fun f cdv A outer s H vs Q E hr h=>?_)
 ·obtain⟨d,b,ra,rs,as,rfl,_⟩:=h;rfl
 ·obtain⟨d,b,ra,rs,as,rfl,dk,RR,nra,hl,hw,hf,q⟩:=h
  have hu:=hr.units0
  have hu1:=eG hr
  have hu64:=hr.units
  have hLdraw:Room 1 _:=hr.mono Zd
  have hLwords:Room 1 _:=hr.mono Zd
  have hLanswer:Room 3 _:=hr
  have hLnear:Room 2 _:=hr.mono Zd
  have le:=RR.len
  have ela:(as.map V.ref).length=rs.length:=by rw[bG];omega
  refine⟨_,(R.ae (R.ai (i:=2) aL.nd (R.bj (R.dq (K:=K) rfl) rfl T.b_dict iC (R.aa (R.bc rfl (js:=[none]) (N:=["_law_row"]) (CompScope.by (aB bL) ["_law_deck_here","_law_rows","_law_came","_law_places","_law_turn","_law_at","_law_word","_law_number","_law_when","_law_answer_here","_law_deed_here","_law_words_here","_law_other"] rfl rfl Zk) (bA rfl) (R.bo (K:=K) (R.v 1)) (fun C s₂ H₂ fp=>⟨(R.gn (i:=0) (show(["_law_row"]:List Str).Nodup by decide +kernel)),(R.bu (R.ao R.eq (R.ix (R.af (K:=K)) (R.v 0) R.ac) R.ag)),(R.ak (R.aa (R.ix (R.af (K:=K)) (R.v 0) R.ac) (R.aa (R.ix (R.af (K:=K)) (R.v 0) R.ac) R.ad)))⟩)) R.ad))) (R.ae (R.jj (i:=3) aL.nd rfl (Or.inl rfl) rfl (js:=[none,some 1]) (N:=["_law_k","_law_rows"]) (CompScope.by (aB bL) ["_law_deck_here","_law_rows","_law_came","_law_places","_law_turn","_law_at","_law_word","_law_number","_law_when","_law_answer_here","_law_deed_here","_law_words_here","_law_other"] rfl rfl Zk) (bA rfl) (R.dj rfl T.b_range (R.aa (R.aw (R.az (K:=K)) rfl T.b_len bC (R.aa (R.v 1) R.ad)) R.ad)) (fun C s₂ H₂ fp=>⟨(R.gn (i:=0) (show(["_law_k","_law_rows"]:List Str).Nodup by decide +kernel)),(R.bu (R.ao R.eq (R.ix (R.af (K:=K)) (R.ix (R.ar (K:=K)) (R.v 1) (R.v 0)) R.ac) R.ag)),(R.v 0)⟩) rfl) (R.ae (R.bp PassesOwn.never rfl (R.dj rfl T.b_range (R.aa (R.op R.dz (R.fn cLdraw hLdraw rfl (R.aa (R.v 0) (R.aa R.ac R.ad))) (R.bj R.ee rfl T.b_int jI (R.aa (R.ay (R.iu (K:=K) hu) (R.v 3) (R.av R.ad)) R.ad))) R.ad)) (R.gn (i:=4) aL.nd) (R.ae (R.ai (i:=5) aL.nd (R.ix (R.ar (K:=K)) (R.v 3) (R.fn cLdraw hLdraw rfl (R.aa (R.v 0) (R.aa (R.aw (R.az (K:=K)) rfl T.b_len bC (R.aa (R.v 3) R.ad)) R.ad))))) (R.ae (R.br (R.ix (R.ar (K:=K)) (R.v 1) (R.v 5)) (R.de (K:=K) (n:=4) rfl (R.bb (R.gn (i:=6) aL.nd) (R.bb (R.gn (i:=7) aL.nd) (R.bb (R.gn (i:=8) aL.nd) (R.bb (R.gn (i:=9) aL.nd) R.df)))))) (R.ae (R.ai (i:=10) aL.nd (R.dh hu1 (R.v 2) (R.v 7))) (R.ae (R.ai (i:=11) aL.nd (R.fn cLwords hLwords rfl (R.aa (R.v 10) (R.aa (R.ay (R.ij hu64) (R.ak (R.aa R.ag (R.aa (R.v 7) R.ad))) (R.v 1)) R.ad)))) (R.ae (R.ai (i:=12) aL.nd (R.fn cLanswer hLanswer rfl (R.aa (R.v 0) (R.aa (R.v 10) (R.aa (R.ix (R.ar (K:=K)) (R.v 11) (R.fn cLdraw hLdraw rfl (R.aa (R.v 0) (R.aa (R.aw (R.az (K:=K)) rfl T.b_len bC (R.aa (R.v 11) R.ad)) R.ad)))) R.ad))))) (R.ae (R.ap (R.tw (R.bv (R.ao (R.be (K:=K)) (R.ix (R.af (K:=K)) (R.v 9) R.ac) (R.ak (R.aa R.ag (R.aa R.ag (R.aa R.ag R.ad))))) (R.cj (R.ao R.eq (R.fn cLdraw hLdraw rfl (R.aa (R.v 0) (R.aa R.ac R.ad))) R.ac)))) (R.ah (R.ai (i:=12) aL.nd (R.fn cLnear hLnear rfl (R.aa (R.v 0) (R.aa (R.v 10) (R.aa (R.v 9) R.ad)))))) R.aq) (R.ah (R.ai (i:=1) aL.nd (R.op R.bw (R.op R.bw (R.sl (R.fi (K:=K)) (R.v 1) R.pn (R.ps (R.v 5))) (R.av (R.aa (R.ak (R.aa R.ag (R.aa (R.v 7) (R.aa (R.v 8) (R.aa (R.v 12) R.ad))))) R.ad))) (R.sl (R.fi (K:=K)) (R.v 1) (R.ps (R.op R.au (R.v 5) R.ac)) R.pn))))))))))) (R.ah (R.al (R.v 1)))))),?_⟩
  refine aY (fun σ' H'=>∃(cd:Addr) (dkv':List (aT × V)),σ'=[some (.ref d),some (.ref ra),some (.ref cd),none,none,none,none,none,none,none,none,none,none]/\H cd=none/\H' cd=some (.dK dkv')/\CameD H' rs dkv'/\Same H H') (fun nx hnx=>?_) ?_
  ·refine⟨ra,rfl,⟨_,SqL.of RR.lst⟩,nD RR hw Zo fun zs H2 hz lz hc s2=>?_⟩
   intro p hp;have gp:(aJ H2 p (.lst (zs.map fun z=>V.ref z.1))) p=_:=aA
   refine⟨zs,SqL.of gp,fun z hz'=>aO (hz z hz') hp,lz,fun cd hcd=>?_⟩
   have s3:=s2.trans (aF (o:=.lst (zs.map fun z=>V.ref z.1)) hp)
   have s4:=(aF (o:=.lst (zs.map fun z=>V.ref z.1)) hp).trans (aF (o:=.dK (aS [] (zs.map (·.2)))) hcd)
   exact hnx _ _ ⟨cd,_,rfl,s3.free hcd,aA,hc.tk s4.tk,s2.trans s4⟩
  rintro σ' H1 ⟨cd,dkv',rfl,fcd,gcd,hcd,s1⟩
  have R1:=RR.same s1
  refine aY (fun σ' H'=>∃(lp:Addr) (ns:List Nat),σ'=[some (.ref d),some (.ref ra),some (.ref cd),some (.ref lp),none,none,none,none,none,none,none,none,none]/\H1 lp=none/\H' lp=some (.lst (nI ns))/\ns.length<=50/\(∀j∈ns,∃n t y,rs[j]?=some (.done n t y))/\Same H1 H') (fun nx hnx=>?_) ?_
  ·refine⟨_,.inl (SqL.of R1.lst),(rs.length:Int),by rw[ela],Zo,Zo,?_⟩
   have eN:(rs.length:Int).toNat=rs.length:=by omega
   refine bT (cR 0 (rs.length:Int).toNat) (by rw[dC];omega) (fun i ys H'=>H'=H1/\∃ns:List Nat,ys=nI ns/\ns.length<=i/\∀j∈ns,∃n t y,rs[j]?=some (.done n t y)) (fun i ys H' ⟨_,ns,e,l',_⟩=>⟨trivial,by rw[e];unfold nI;rw[bG];exact l'⟩) ⟨rfl,[],rfl,bM _,(fun _ h=>nomatch h)⟩ (fun i v ys H' hv ⟨e0,ns,e,l',hn⟩=>?_) (fun ys H' ⟨e0,ns,e,l',hn⟩=>?_)
   ·subst e0;obtain⟨rfl,hi⟩:=iW hv
    have hva:(as.map V.ref)[i]?=some (.ref (as[i]'Zo)):=by rw[kE,iA];rfl
    obtain⟨a,r,ea,_,hrr,hat⟩:=R1.get hva
    rw[ea]at hva;obtain⟨xs,g,x0,_,_⟩:=eC hat
    dsimp only [aK];refine⟨_,SqL.of R1.lst,.ref a,cE hva,_,SqT.of g,_,x0,?_⟩
    show if decide (bX r="done")=true then _ else _
    refine bF (fun h=>?_) (fun h=>?_)
    ·obtain⟨n,t,y,rfl⟩:=lP (of_decide_eq_true h)
     refine⟨rfl,ns++[i],by rw[e];unfold nI;rw[jF];rfl,by simp;omega,fun j hj=>?_⟩
     rcases aH hj with hj | rfl
     ·exact hn j hj
     ·exact⟨n,t,y,hrr⟩
    ·exact⟨rfl,ns,e,Zo,hn⟩
   ·subst e0;intro p hp;rw[dC,eN]at l';exact hnx _ _ ⟨p,ns,rfl,hp,by rw[aA,e],Zo,hn,aF hp⟩
  rintro σ' H2 ⟨lp,ns,rfl,flp,glp,lns,hns,s2⟩
  have s02:=s1.trans s2
  have f2:=(Fw.refl dk).same s02
  have lpd:=dk.ne (s1.free flp)
  have cdd:=dk.ne fcd
  have gcd2:=s2 _ _ gcd
  have hcd2:=hcd.tk s2.tk
  have R2:=RR.same s02
  refine aY (fun σ' H'=>∃(la:Addr) (rs':List RX) (as':List Addr) (o4 o5 o6 o7 o8 o9 o10 o11 o12:Option V),σ'=[some (.ref d),some (.ref la),some (.ref cd),some (.ref lp),o4,o5,o6,o7,o8,o9,o10,o11,o12]/\RxsAt H' la rs' as'/\RX.Whole rs'/\(∀r∈rs',gO r)/\rs'.length=rs.length/\Fw d b H H') (fun nx hnx=>?_) ?_
  ·refine⟨d,b,4,rfl,f2.dk,Zd,Zd,fun r4 H3 r40 r41 D3 e3=>?_⟩
   have F3:=(Fw.refl f2.dk).draw D3 e3
   have f3:=f2.trans F3
   refine⟨dR rfl,fun p hp=>⟨lp,p,_,rfl,rfl,SqL.of (aO (F3.get glp lpd.1 lpd.2) hp),SqL.of aA,?_⟩⟩
   have F4:=F3.new (o:=.lst []) hp
   have f4:=f2.trans F4
   generalize aJ H3 p (.lst [])=H4 at F4 f4 ⊢;obtain⟨r4,rfl⟩:=eK r40
   obtain⟨M,eM,hM3,hM0⟩:∃M:Nat,(r4:Int)*(if (!(nI ns).isEmpty)=true then 1 else 0)=(M:Int)/\M<=3/\(0<M->0<ns.length):=by
    cases ns with
    | nil=>exact⟨0,by show(r4:Int)*0=0;omega,Zo,Zo⟩
    | cons x xs=>exact⟨r4,by show(r4:Int)*1=r4;omega,Zo,Zs⟩
   refine⟨.inl ⟨Zo,Zo⟩,(M:Int),congrArg (fun z=>[V.int z]) eM,Zo,Zo,?_⟩
   refine dM (cR 0 (M:Int).toNat) (fun i σ' H'=>∃(la:Addr) (rs':List RX) (as':List Addr) (o4 o5 o6 o7 o8 o9 o10 o11 o12:Option V),σ'=[some (.ref d),some (.ref la),some (.ref cd),some (.ref lp),o4,o5,o6,o7,o8,o9,o10,o11,o12]/\RxsAt H' la rs' as'/\(la≠d/\la≠b)/\RX.Whole rs'/\(∀r∈rs',gO r)/\rs'.length=rs.length/\(∀(j n t:Nat) (y:An),rs[j]?=some (RX.done n t y)->∃n' t' y',rs'[j]?=some (RX.done n' t' y'))/\(∀(n t:Nat) (p k:Str) (x:Dd),RX.came n t p k x∈rs'->RX.came n t p k x∈rs)/\Fw d b H2 H') (fun _ _ _ _=>trivial)
    ⟨ra,rs,as,_,_,_,_,_,_,_,_,_,rfl,R2.keep F4.tk (F4.get R2.lst nra.1 nra.2),nra,hw,hf,rfl,fun j n t y e=>⟨n,t,y,e⟩,fun _ _ _ _ _ h=>h,F4⟩ ?_ ?_
   ·rintro i v σ' H5 hv ⟨la,rs',as',o4,o5,o6,o7,o8,o9,o10,o11,o12,rfl,R5,nla,hw5,hf5,hl5,hdn5,hcm5,F5⟩
    obtain⟨rfl,hi⟩:=iW hv
    have hns0:=hM0 Zo
    have le5:=R5.len
    have en:(nI ns).length=ns.length:=by unfold nI;rw[bG]
    have glp5:=F5.get glp lpd.1 lpd.2
    dsimp only [aK];refine aY (fun σ' H'=>∃(j:Nat),j∈ns/\σ'=[some (.ref d),some (.ref la),some (.ref cd),some (.ref lp),some (.int (i:Int)),some (.int (j:Int)),o6,o7,o8,o9,o10,o11,o12]/\Fw d b H5 H') (fun nx' hnx'=>?_) ?_
    ·refine⟨_,.inl (SqL.of glp5),d,b,(ns.length:Int),by rw[en],F5.dk,Zo,Zo,fun k H6 k0 k1 D6 e6=>?_⟩
     obtain⟨k,rfl⟩:=eK k0
     have hk:k<ns.length:=by omega
     have F6:=(Fw.refl F5.dk).draw D6 e6
     exact⟨_,SqL.of (F6.get glp5 lpd.1 lpd.2),.int (ns[k]:Int),cE (by unfold nI;rw[kE,iA hk];rfl),hnx' _ _ ⟨ns[k],List.getElem_mem hk,rfl,F6⟩⟩
    rintro σ' H6 ⟨j,hjn,rfl,F6⟩
    obtain⟨n0,t0',y0,hrj0⟩:=hns j hjn
    obtain⟨n,t,y,hrj⟩:=hdn5 j n0 t0' y0 hrj0
    have hjl:=(Zgs.mp hrj).1
    have hva:(as'.map V.ref)[j]?=some (.ref (as'[j]'Zo)):=by rw[kE,iA];rfl
    have R6:=R5.keep F6.tk (F6.get R5.lst nla.1 nla.2)
    obtain⟨a,r,ea,_,hrr,hat⟩:=R6.get hva
    rw[hrj]at hrr;cases hrr
    rw[ea]at hva;obtain⟨cy,gr,gy⟩:=hat
    refine aY (fun σ' H'=>σ'=[some (.ref d),some (.ref la),some (.ref cd),some (.ref lp),some (.int (i:Int)),some (.int (j:Int)),some (.str "done"),some (.int (n:Int)),some (.int (t:Int)),some (.ref cy),o10,o11,o12]/\H6=H') (fun nx' hnx'=>?_) ?_
    ·exact⟨_,SqL.of R6.lst,.ref a,cE hva,a,_,rfl,SqT.of gr,rfl,_,_,rfl,_,_,rfl,_,_,rfl,_,_,rfl,rfl,hnx' _ _ ⟨rfl,rfl⟩⟩
    rintro _ _ ⟨rfl,rfl⟩
    obtain⟨t1,pp,kk,x,hcm,hof⟩:=hV hw5 (gX hrj)
    have hxok:x.Ok:=hf5 _ hcm
    have F26:=F5.trans F6
    obtain⟨cb,dg,gcb⟩:=(hcd2.tk F26.tk).get (F26.get gcd2 cdd.1 cdd.2) (hcm5 _ _ _ _ _ hcm)
    refine⟨cd,_,rfl,dg,?_⟩
    dsimp only [aK];refine aY (fun σ' H'=>∃(lw:Addr) (qb:Bool),σ'=[some (.ref d),some (.ref la),some (.ref cd),some (.ref lp),some (.int (i:Int)),some (.int (j:Int)),some (.str "done"),some (.int (n:Int)),some (.int (t:Int)),some (.ref cy),some (.ref cb),some (.ref lw),o12]/\H6 lw=none/\H' lw=some (.lst ((kB x qb).map V.str))/\(qb=true↔.asked n∈rs')/\Same H6 H') (fun nx' hnx'=>?_) ?_
    ·refine⟨aN rfl,fun tp H7 s7 g7=>?_⟩
     obtain⟨zs,hz1,hz2,hz3⟩:=Bc n (R6.same s7).each
     refine⟨[.str "asked",.int (n:Int)],zs,g7,by rw[(R6.same s7).lst,hz1],hz2,cb,x,_,rfl,s7 _ _ gcb,fun lw H8 flw g8 s8=>?_⟩
     exact hnx' _ _ ⟨lw,pJ [.str "asked",.int (n:Int)] zs,rfl,s7.free flw,g8,hz3,s7.trans s8⟩
    rintro σ' H7 ⟨lw,qb,rfl,flw,glw,hqb,s7⟩
    have lwd:=F6.dk.ne flw
    have F7:=(Fw.refl F6.dk).same s7
    obtain⟨_,_,t2,p2,k2,x2,hm2,ho2,ha2⟩:=(fY hw5 hrj).2
    have e2:=dD hw5 (List.mem_of_mem_take hm2) hcm
    injection e2 with _ _ _ _ e2
    subst e2;have hq2:x2.far=true->(qb=true↔y.early=false):=fun z=>by
     rw[hqb,<- ha2 z];exact⟨fun hm=>lS hw5 hrj hm,fun hm=>List.mem_of_mem_take hm⟩
    have hwn:1<=(kB x2 qb).length:=Om hof hq2
    refine aY (fun σ' H'=>∃(c':Addr) (y':An),σ'=[some (.ref d),some (.ref la),some (.ref cd),some (.ref lp),some (.int (i:Int)),some (.int (j:Int)),some (.str "done"),some (.int (n:Int)),some (.int (t:Int)),some (.ref cy),some (.ref cb),some (.ref lw),some (.ref c')]/\An.Of x2 y'/\(x2.far=true->(qb=true↔y'.early=false))/\H' c'=some (.tup y'.vs)/\Fw d b H6 H') (fun nx' hnx'=>?_) ?_
    ·have lw3:(kB x2 qb).length<=6:=by cases x2 <;> cases qb <;> exact Nat.le_of_ble_eq_true rfl
     refine⟨_,.inl (SqL.of glw),d,b,((kB x2 qb).length:Int),by rw[bG],F7.dk,Zo,Zo,fun k H8 k0 k1 D8 e8=>?_⟩
     have F8:=(Fw.refl F7.dk).draw D8 e8
     obtain⟨ki,hki,rfl,eki⟩:=eB k0 k1
     have hzm:(kB x2 qb)[ki]∈kB x2 qb:=List.getElem_mem hki
     refine⟨_,SqL.of (F8.get glw lwd.1 lwd.2),_,eki,d,b,cb,x2,_,rfl,D8,F8.tup (s7 _ _ gcb),hxok,Bb hzm,fun c' y' H9 hy' hwy gc' F9=>?_⟩
     rw[<- hwy]at hzm;exact hnx' _ _ ⟨c',y',rfl,hy',fun z=>sJ hzm z,gc',(F7.trans F8).trans F9⟩
    rintro σ' H8 ⟨c',y',rfl,hy',hye,gc',F8⟩
    have R8:=R6.keep F8.tk (F8.get R6.lst nla.1 nla.2)
    have gy8:=F8.tup gy
    have gcb8:=F8.tup gcb
    refine aY (fun σ' H'=>∃(c':Addr) (y':An),σ'=[some (.ref d),some (.ref la),some (.ref cd),some (.ref lp),some (.int (i:Int)),some (.int (j:Int)),some (.str "done"),some (.int (n:Int)),some (.int (t:Int)),some (.ref cy),some (.ref cb),some (.ref lw),some (.ref c')]/\An.Of x2 y'/\(x2.far=true->(qb=true↔y'.early=false))/\H' c'=some (.tup y'.vs)/\Fw d b H6 H') (fun nx' hnx'=>?_) ?_
    ·refine⟨_,SqT.of gy8,_,pS y,aN rfl,fun tp H9 s9 g9=>⟨tp,_,rfl,.inr (SqT.of g9),rfl,rfl,?_⟩⟩
     have F9:=F8.same s9
     show if kU (.str (jR y)) [.str "is",.str "short",.str "full"]=true then _ else _
     refine bF (fun h=>?_) (fun h=>?_)
     ·refine⟨d,b,2,rfl,F9.dk,Zd,Zd,fun k H10 k0 k1 D10 e10=>?_⟩
      have F10:=F9.draw D10 e10
      refine bF (fun _=>?_) (fun _=>?_)
      ·refine⟨d,b,cb,cy,x2,y,rfl,D10,F10.tup gcb,F10.tup gy,hxok,hof,h,fun c9 y9 H11 ho9 he9 g9' F11=>?_⟩
       exact hnx' _ _ ⟨c9,y9,rfl,ho9,fun z=>by rw[he9];exact hq2 z,g9',F10.trans F11⟩
      ·exact hnx' _ _ ⟨c',y',rfl,hy',hye,(((Fw.refl F9.dk).draw D10 e10).tup (s9 _ _ gc')),F10⟩
     ·exact hnx' _ _ ⟨c',y',rfl,hy',hye,s9 _ _ gc',F9⟩
    rintro σ' H9 ⟨c9,y9,rfl,hy9,hye9,gc9,F9⟩
    have R9:=R6.keep F9.tk (F9.get R6.lst nla.1 nla.2)
    refine⟨_,SqL.of R9.lst,fun p1 fp1=>?_⟩
    obtain⟨s10,T10⟩:=slt R9 fp1 j
    generalize aJ H9 p1 (.lst (fI (as'.map V.ref) none (some (j:Int))))=H10 at s10 T10 ⊢;refine⟨aN rfl,fun tp H11 s11 g11=>⟨dR rfl,fun p2 hp2=>?_⟩⟩
    have s12:=aF (o:=.lst [.ref tp]) hp2
    have O12:RxsAt (aJ H11 p2 (.lst [.ref tp])) p2 [.done n t y9] [tp]:=Ar ⟨c9,s12 _ _ g11,s12 _ _ (s11 _ _ (s10 _ _ gc9))⟩ aA
    have T12:=(T10.same s11).same s12
    have R12:=((R9.same s10).same s11).same s12
    have F12:=((F9.same s10).same s11).same s12
    generalize aJ H11 p2 (.lst [.ref tp])=H12 at s12 O12 T12 R12 F12 ⊢;have cz:=Oe T12 O12 (by rw[nF];simp;omega)
    refine⟨_,_,T12.lst,O12.lst,cz,fun p3 fp3=>?_⟩
    obtain⟨s13,A13⟩:=Od T12 O12 fp3
    generalize aJ H12 p3 _=H13 at s13 A13 ⊢;have R13:=R12.same s13
    refine⟨_,SqL.of R13.lst,fun p4 fp4=>?_⟩
    obtain⟨s14,B14⟩:=sld R13 fp4 (j+1)
    rw[Int.natCast_add]at s14 B14;generalize aJ H13 p4 (.lst (fI (as'.map V.ref) (some ((j:Int)+((1:Nat):Int))) none))=H14 at s14 B14 ⊢;have cz2:=Oe (A13.same s14) B14 (by rw[sK,nF,List.length_drop];simp;omega)
    refine⟨_,_,(A13.same s14).lst,B14.lst,cz2,fun p5 fp5=>?_⟩
    obtain⟨s15,A15⟩:=Od (A13.same s14) B14 fp5
    generalize aJ H14 p5 _=H15 at s15 A15 ⊢;have F14:=(F12.same s13).same s14
    have F15:=F14.same s15
    have p5d:=F14.dk.ne fp5
    have eset:rs'.take j++[.done n t y9]++rs'.drop (j+1)=rs'.set j (.done n t y9):=by
     rw[List.set_eq_take_append_cons_drop,if_pos hjl,List.append_assoc];rfl
    rw[eset]at A15;have hw15:=Dr hw5 hrj hcm hy9 (fun z=>by rw[<- hqb];exact hye9 z)
    refine⟨p5,_,_,_,_,_,_,_,_,_,_,_,rfl,A15,p5d,hw15,fun r hr=>?_,by rw[List.length_set];exact hl5,fun j' n' t' y' e'=>?_,fun n' t' p' k' x' hm'=>?_,F26.trans F15⟩
    ·rcases fW hr with rfl | ⟨i1,_,e1⟩
     ·exact⟨x2,hxok,hy9⟩
     ·exact hf5 r (gX e1)
    ·by_cases ej:j'=j
     ·subst ej;exact⟨n,t,y9,List.getElem?_set_self hjl⟩
     ·rw[List.getElem?_set_ne (fun z=>ej z.symm)]
      exact hdn5 j' n' t' y' e'
    ·rcases fW hm' with e1 | ⟨i1,_,e1⟩
     ·cases e1
     ·exact hcm5 _ _ _ _ _ (gX e1)
   ·rintro σ' H5 ⟨la,rs',as',o4,o5,o6,o7,o8,o9,o10,o11,o12,rfl,R5,nla,hw5,hf5,hl5,hdn5,hcm5,F5⟩
    exact hnx _ _ ⟨la,rs',as',_,_,_,_,_,_,_,_,_,rfl,R5,hw5,hf5,hl5,f2.trans F5⟩
  rintro σ' H3 ⟨la,rs',as',o4,o5,o6,o7,o8,o9,o10,o11,o12,rfl,R3,hw3,hf3,hl3,f3⟩
  exact q la rs' as' H3 R3 hw3 hf3 Zo f3
end
end KL
namespace KL
open PySem L2
section
variable {P:Program} {w:World} {K:W.Frag} {mg:Str->Option Value} {base:Heap}
theorem yR {rs:List RX} (hw:RX.Whole rs) {n t:Nat} {p k:Str} {x:Dd} {y:An} (hn:∀r∈rs,nP r=false->Do r<n) (ht:∀r∈rs,r.turn<=t) (hf:x.far=true) (ho:An.Of x y) (he:y.early=false):RX.Whole (rs++[.came n t p k x,.asked n]++[.done n t y]):=by
 have h1:RX.Whole (rs++[.came n t p k x]):=hw.snoc ⟨fun n' t' p' k' d' hm=>hn _ hm rfl,fun t' p' k' d' y' hm=>Nat.lt_irrefl _ (hn _ hm rfl),ht⟩
 have na:.asked n∉rs:=fun hm=>Nat.lt_irrefl _ (hn _ hm rfl)
 have ndn:∀t y,.done n t y∉rs:=fun t y hm=>Nat.lt_irrefl _ (hn _ hm rfl)
 have h2:RX.Whole (rs++[.came n t p k x]++[.asked n]):=by
  refine h1.snoc ⟨⟨t,p,k,x,Zs,hf⟩,fun hm=>?_,fun t' y' hm=>?_⟩
  ·rcases aH hm with hm | hm
   ·exact na hm
   ·cases hm
  ·rcases aH hm with hm | hm
   ·exact ndn _ _ hm
   ·cases hm
 have h3:=h2.snoc (r:=.done n t y) ⟨fun q hq=>?_,fun t' y' hm=>?_,t,p,k,x,Zs,ho,fun _=>⟨fun _=>he,fun _=>by simp⟩⟩
 ·rw[List.append_assoc]at h3 ⊢;rw[List.append_assoc]at h3;simpa using h3
 ·rcases aH hq with hq | rfl
  ·rcases aH hq with hq | rfl
   ·exact ht q hq
   ·exact bM _
  ·exact Nat.zero_le _
 ·rcases aH hm with hm | hm
  ·rcases aH hm with hm | hm
   ·exact ndn _ _ hm
   ·cases hm
  ·cases hm
def Yc:Sp:=fun vs H Q _=>∃(d b ra lm:Addr) (M:List Addr) (rs:List RX) (as:List Addr) (f:Str->Nat),vs=[.ref d,.ref ra,.ref lm]/\Dk H d b/\RxsAt H ra rs as/\(ra≠d/\ra≠b)/\rs.length<=43/\RX.Whole rs/\(∀r∈rs,r.Ok)/\jE rs f/\MenusAt H lm M/\d∉M/\b∉M ∧
 ∀(la:Addr) (rs':List RX) (as':List Addr) (H':Hp),H la=none->RxsAt H' la rs' as'->RX.Whole rs'->(∀r∈rs',gO r)->rs'.length<=46->Fw d b H H'->Q (.ref la) H'
theorem nX (T:Txt K mg) (cLdraw:aG P w K mg base 1 "_law_draw" ["_law_deck_here","_law_many"] bJ) (cLchanged:aG P w K mg base 2 "_law_changed" ["_law_book","_law_deed_here","_law_answer_here"] fV) (cLwords:aG P w K mg base 1 "_law_words" ["_law_deed_here","_law_asked"] lK)
  (cLanswer:aG P w K mg base 3 "_law_answer" ["_law_deck_here","_law_deed_here","_law_word"] uF) (cLspot:aG P w K mg base 2 "_law_spot" ["_law_deck_here","_law_menus_here"] lM)
  (D:DefAt K mg "_law_asked_anyhow" aX ["_law_deck_here","_law_rows","_law_menus_here"]):aG P w K mg base 4 "_law_asked_anyhow" ["_law_deck_here","_law_rows","_law_menus_here"] Yc:=by
 refine D.go aM (fun vs H Q E h=>?_) (fun f cdv A outer s H vs Q E hr h=>?_)
 ·obtain⟨d,b,ra,lm,M,rs,as,f,rfl,_⟩:=h;rfl
 ·obtain⟨d,b,ra,lm,M,rs,as,f,rfl,dk,RR,nra,hl,hw,hok,hlv,hM,hd,hb,q⟩:=h
  have hu1:=eG hr
  have hLdraw:Room 1 _:=hr.mono Zd
  have hLchanged:Room 2 _:=hr.mono Zd
  have hLwords:Room 1 _:=hr.mono Zd
  have hLanswer:Room 3 _:=hr
  have hLspot:Room 2 _:=hr.mono Zd
  have le:=RR.len
  have ela:(as.map V.ref).length=rs.length:=by rw[bG];omega
  obtain⟨F,hF⟩:=De hlv
  have hfine:=qE hw hok
  refine⟨_,(R.ae (R.ai (i:=3) aM.nd (R.bj (R.dq (K:=K) rfl) rfl T.b_dict iC (R.aa (R.bc rfl (js:=[none]) (N:=["_law_row"]) (CompScope.by (aB aX) ["_law_deck_here","_law_rows","_law_menus_here","_law_book","_law_came","_law_row","_law_name","_law_house","_law_have","_law_deed_here","_law_number","_law_turn","_law_words_here","_law_answer_here","_law_more"] rfl rfl Zk) (bA rfl) (R.bo (K:=K) (R.v 1)) (fun C s₂ H₂ fp=>⟨(R.gn (i:=0) (show(["_law_row"]:List Str).Nodup by decide +kernel)),(R.bu (R.ao R.eq (R.ix (R.af (K:=K)) (R.v 0) R.ac) R.ag)),(R.ak (R.aa (R.ix (R.af (K:=K)) (R.v 0) R.ac) (R.aa (R.ix (R.af (K:=K)) (R.v 0) R.ac) R.ad)))⟩)) R.ad))) (R.ae (R.ai (i:=4) aM.nd (R.bj (R.dq (K:=K) rfl) rfl T.b_dict iC (R.aa (R.bc rfl (js:=[none]) (N:=["_law_row"]) (CompScope.by (aB aX) ["_law_deck_here","_law_rows","_law_menus_here","_law_book","_law_came","_law_row","_law_name","_law_house","_law_have","_law_deed_here","_law_number","_law_turn","_law_words_here","_law_answer_here","_law_more"] rfl rfl Zk) (bA rfl) (R.bo (K:=K) (R.v 1)) (fun C s₂ H₂ fp=>⟨(R.gn (i:=0) (show(["_law_row"]:List Str).Nodup by decide +kernel)),(R.bu (R.ao R.eq (R.ix (R.af (K:=K)) (R.v 0) R.ac) R.ag)),(R.ak (R.aa (R.ix (R.af (K:=K)) (R.v 0) R.ac) (R.aa (R.ix (R.af (K:=K)) (R.v 0) R.ac) R.ad)))⟩)) R.ad))) (R.ae (R.bp PassesOwn.never rfl (R.bo (K:=K) (R.v 1)) (R.gn (i:=5) aM.nd) (R.ah (R.ap (R.ao R.eq (R.ix (R.af (K:=K)) (R.v 5) R.ac) R.ag) (R.ah (R.bn (R.fn cLchanged hLchanged rfl (R.aa (R.v 3) (R.aa (R.dh hu1 (R.v 4) (R.ix (R.af (K:=K)) (R.v 5) R.ac)) (R.aa (R.ix (R.af (K:=K)) (R.v 5) R.ac) R.ad)))))) R.aq))) (R.ae (R.ai (i:=6) aM.nd (R.ix (R.ar (K:=K)) (R.ix (R.ar (K:=K)) (R.v 2) R.ac) (R.fn cLdraw hLdraw rfl (R.aa (R.v 0) (R.aa (R.aw (R.az (K:=K)) rfl T.b_len bC (R.aa (R.ix (R.ar (K:=K)) (R.v 2) R.ac) R.ad)) R.ad))))) (R.ae (R.ai (i:=7) aM.nd (R.ix (R.ar (K:=K)) (R.ix (R.ar (K:=K)) (R.v 2) R.ac) (R.fn cLdraw hLdraw rfl (R.aa (R.v 0) (R.aa (R.aw (R.az (K:=K)) rfl T.b_len bC (R.aa (R.ix (R.ar (K:=K)) (R.v 2) R.ac) R.ad)) R.ad))))) (R.ae (R.ai (i:=8) aM.nd (R.dm hu1 (R.v 3) (R.v 6) R.ac)) (R.ae (R.ai (i:=9) aM.nd (R.ak (R.aa R.ag (R.aa (R.v 7) (R.aa (R.v 6) (R.aa (R.aw (R.fk rfl) rfl T.b_min xN (R.aa (R.op R.bg R.ac R.ac) (R.aa (R.op R.au (R.op R.au (R.v 8) R.ac) (R.fn cLdraw hLdraw rfl (R.aa (R.v 0) (R.aa R.ac R.ad)))) R.ad))) R.ad)))))) (R.ae (R.ap (R.tw (R.bv (R.ao R.gt (R.v 8) R.ac) (R.cj (R.ao R.eq (R.fn cLdraw hLdraw rfl (R.aa (R.v 0) (R.aa R.ac R.ad))) R.ac)))) (R.ah (R.ai (i:=9) aM.nd (R.ak (R.aa R.ag (R.aa (R.v 7) (R.aa (R.v 6) (R.aa (R.op R.bi (R.op R.bg R.ac R.ac) (R.fn cLdraw hLdraw rfl (R.aa (R.v 0) (R.aa (R.v 8) R.ad)))) R.ad))))))) R.aq) (R.ae (R.ai (i:=10) aM.nd (R.op R.au R.ac (R.aw (R.eg (K:=K) rfl) rfl T.b_max mL (R.aa (R.op R.bw (R.av (R.aa R.ac R.ad)) (R.bc rfl (js:=[none]) (N:=["_law_row"]) (CompScope.by (aB aX) ["_law_deck_here","_law_rows","_law_menus_here","_law_book","_law_came","_law_row","_law_name","_law_house","_law_have","_law_deed_here","_law_number","_law_turn","_law_words_here","_law_answer_here","_law_more"] rfl rfl Zk) (bA rfl) (R.bo (K:=K) (R.v 1)) (fun C s₂ H₂ fp=>⟨(R.gn (i:=0) (show(["_law_row"]:List Str).Nodup by decide +kernel)),(R.bu (R.ao R.ne (R.ix (R.af (K:=K)) (R.v 0) R.ac) R.ag)),(R.ix (R.af (K:=K)) (R.v 0) R.ac)⟩))) R.ad)))) (R.ae (R.ai (i:=11) aM.nd (R.aw (R.eg (K:=K) rfl) rfl T.b_max mL (R.aa (R.op R.bw (R.av (R.aa R.ac R.ad)) (R.bc rfl (js:=[none]) (N:=["_law_row"]) (CompScope.by (aB aX) ["_law_deck_here","_law_rows","_law_menus_here","_law_book","_law_came","_law_row","_law_name","_law_house","_law_have","_law_deed_here","_law_number","_law_turn","_law_words_here","_law_answer_here","_law_more"] rfl rfl Zk) (bA rfl) (R.bo (K:=K) (R.v 1)) (fun C s₂ H₂ fp=>⟨(R.gn (i:=0) (show(["_law_row"]:List Str).Nodup by decide +kernel)),(R.bu (R.ao (R.be (K:=K)) (R.ix (R.af (K:=K)) (R.v 0) R.ac) (R.ak (R.aa R.ag (R.aa R.ag (R.aa R.ag R.ad)))))),(R.ix (R.af (K:=K)) (R.v 0) R.ac)⟩))) R.ad))) (R.ae (R.ai (i:=12) aM.nd (R.fn cLwords hLwords rfl (R.aa (R.v 9) (R.aa R.bl R.ad)))) (R.ae (R.ai (i:=13) aM.nd (R.fn cLanswer hLanswer rfl (R.aa (R.v 0) (R.aa (R.v 9) (R.aa (R.ix (R.ar (K:=K)) (R.v 12) (R.fn cLdraw hLdraw rfl (R.aa (R.v 0) (R.aa (R.aw (R.az (K:=K)) rfl T.b_len bC (R.aa (R.v 12) R.ad)) R.ad)))) R.ad))))) (R.ae (R.ai (i:=14) aM.nd (R.av (R.aa (R.op R.dw (R.op R.dw (R.ak (R.aa R.ag (R.aa (R.v 10) (R.aa (R.v 11) R.ad)))) (R.fn cLspot hLspot rfl (R.aa (R.v 0) (R.aa (R.v 2) R.ad)))) (R.ak (R.aa (R.v 9) R.ad))) (R.aa (R.ak (R.aa R.ag (R.aa (R.v 10) R.ad))) R.ad)))) (R.ah (R.al (R.op R.bw (R.op R.bw (R.v 1) (R.v 14)) (R.av (R.aa (R.ak (R.aa R.ag (R.aa (R.v 10) (R.aa (R.v 11) (R.aa (R.v 13) R.ad))))) R.ad)))))))))))))))))),?_⟩
  refine aY (fun σ' H'=>∃(bk:Addr),σ'=[some (.ref d),some (.ref ra),some (.ref lm),some (.ref bk),none,none,none,none,none,none,none,none,none,none,none]/\H bk=none/\H' bk=some (.dK (aS [] (dJ rs)))/\Same H H') (fun nx hnx=>?_) ?_
  ·refine⟨ra,rfl,⟨_,SqL.of RR.lst⟩,wV RR Zo fun zs H1 hz ez lz s1=>?_⟩
   intro p hp;have gp:(aJ H1 p (.lst (zs.map fun z=>V.ref z.1))) p=_:=aA
   refine⟨zs,SqL.of gp,fun z hz'=>aO (hz z hz') hp,lz,fun bk hbk=>?_⟩
   have s2:=s1.trans (aF (o:=.lst (zs.map fun z=>V.ref z.1)) hp)
   exact hnx _ _ ⟨bk,rfl,s2.free hbk,by rw[aA,ez],s2.trans (aF hbk)⟩
  rintro σ' H1 ⟨bk,rfl,fbk,gbk,s1⟩
  refine aY (fun σ' H'=>∃(cd:Addr) (dkv':List (aT × V)),σ'=[some (.ref d),some (.ref ra),some (.ref lm),some (.ref bk),some (.ref cd),none,none,none,none,none,none,none,none,none,none]/\H1 cd=none/\H' cd=some (.dK dkv')/\CameD H' rs dkv'/\Same H1 H') (fun nx hnx=>?_) ?_
  ·refine⟨ra,rfl,⟨_,SqL.of (RR.same s1).lst⟩,nD (RR.same s1) hw Zo fun zs H2 hz lz hc s2=>?_⟩
   intro p hp;have gp:(aJ H2 p (.lst (zs.map fun z=>V.ref z.1))) p=_:=aA
   refine⟨zs,SqL.of gp,fun z hz'=>aO (hz z hz') hp,lz,fun cd hcd=>?_⟩
   have s3:=s2.trans (aF (o:=.lst (zs.map fun z=>V.ref z.1)) hp)
   have s4:=(aF (o:=.lst (zs.map fun z=>V.ref z.1)) hp).trans (aF (o:=.dK (aS [] (zs.map (·.2)))) hcd)
   exact hnx _ _ ⟨cd,_,rfl,s3.free hcd,aA,hc.tk s4.tk,s2.trans s4⟩
  rintro σ' H2 ⟨cd,dkv',rfl,fcd,gcd,hcd,s2⟩
  have s02:=s1.trans s2
  have nbc:bk≠cd:=aE gbk fcd
  have bkd:=dk.ne fbk
  refine aY (fun σ' H'=>∃(kvs:List (aT × V)) (o5:Option V),σ'=[some (.ref d),some (.ref ra),some (.ref lm),some (.ref bk),some (.ref cd),o5,none,none,none,none,none,none,none,none,none]/\H' bk=some (.dK kvs)/\BookIs kvs f/\Same H H') (fun nx hnx=>?_) ?_
  ·refine⟨ra,rfl,⟨_,SqL.of (s02 _ _ RR.lst)⟩,dM (cU K ra (as.map V.ref)) (fun i σ' H'=>∃(kvs:List (aT × V)) (o5:Option V),σ'=[some (.ref d),some (.ref ra),some (.ref lm),some (.ref bk),some (.ref cd),o5,none,none,none,none,none,none,none,none,none]/\H' bk=some (.dK kvs)/\BookIs kvs (F i)/\kvs.length<=100+2*i/\H' cd=some (.dK dkv')/\CameD H' rs dkv'/\Same H H') (fun i σ' H' ⟨_,_,_,_,_,_,_,_,s'⟩=>SqL.of (s' _ _ RR.lst))
    ⟨_,_,rfl,s2 _ _ gbk,by rw[hF.z];exact cD rs [] _ (fun _=>rfl),?_,gcd,hcd,s02⟩ ?_ ?_⟩
   ·have:=sI (dJ rs)
    have:=rY rs
    omega
   ·rintro i v σ' H3 hv ⟨kvs,o5,rfl,gb3,hB3,lk3,gc3,hc3,s3⟩
    obtain⟨a,r,rfl,ha,hrr,hat⟩:=(RR.same s3).get hv
    have hil:i<rs.length:=(Zgs.mp hrr).1
    obtain⟨xs,g,x0,x1,x2⟩:=eC hat
    dsimp only [aK];refine⟨_,SqT.of g,_,x0,?_⟩
    show if decide (bX r="done")=true then _ else _
    refine bF (fun h=>?_) (fun h=>?_)
    ·obtain⟨n,t,y,rfl⟩:=lP (of_decide_eq_true h)
     obtain⟨cy,gr,gy⟩:=hat
     obtain⟨t0,pp,kk,xd,qq,hcm,hR,hnext⟩:=hF.done i n t y hrr
     obtain⟨t0',pp',kk',xd',hcm',hof⟩:=hV hw (gX hrr)
     have ecm:=dD hw hcm hcm'
     injection ecm with _ _ _ _ e5
     subst e5;have hxok:xd.Ok:=(hok _ hcm).2.2.2.2.2
     obtain⟨cb,dg,gcb⟩:=hc3.get gc3 hcm
     obtain⟨ea,hG⟩:=gM hxok hR
     refine⟨_,SqT.of gr,_,rfl,cd,_,rfl,dg,_,SqT.of gr,_,rfl,bk,cb,cy,kvs,F i,xd,y,rfl,gb3,hB3,Zo,gcb,gy,hof,hG,fun kvs' H4 g4 hB4 l4 k4=>?_⟩
     rw[ea,<- hnext]at hB4;refine⟨kvs',_,rfl,g4,hB4,Zo,k4 _ _ gc3 nbc.symm,fun n1 t1 p1 k1 x1 hm1=>?_,fun c o e=>k4 _ _ (s3 _ _ e) (aE e fbk)⟩
     obtain⟨b1,h1,h2⟩:=hc3 n1 t1 p1 k1 x1 hm1
     exact⟨b1,h1,k4 _ _ h2 (eY h2 gb3 (fun z=>nomatch z))⟩
    ·refine⟨kvs,_,rfl,gb3,?_,Zo,gc3,hc3,s3⟩
     rw[hF.rest i r hrr (of_decide_eq_false h)];exact hB3
   ·rintro σ' H3 ⟨kvs,o5,rfl,gb3,hB3,lk3,gc3,hc3,s3⟩
    rw[ela,hF.last]at hB3;exact hnx _ _ ⟨kvs,o5,rfl,gb3,hB3,s3⟩
  rintro σ' H3 ⟨kvs,o5,rfl,gb3,hB3,s3⟩
  have f3:=(Fw.refl dk).same s3
  have hle:∀z,f z<=1000000000000:=fun z=>by have:=hF.le hok rs.length (bM _) z;rw[hF.last]at this;exact this
  have hMx:=hM
  obtain⟨a0,a1,a2,a3,ws,us,ps,ks,rfl,h0,h1,h2,h3,h4,mw,mu,_⟩:=hM.ex
  have nd:∀x∈[lm,a0,a1,a2,a3],x≠d/\x≠b:=fun x hx=>⟨fun z=>hd (z ▸ hx),fun z=>hb (z ▸ hx)⟩
  have nl:=nd lm Zs
  have n0:=nd a0 Zs
  have n1:=nd a1 Zs
  have w2:=mw.two
  have w3:=mu.two
  have w4:=mw.six
  have w5:=mu.six
  refine⟨_,SqL.of (f3.get h0 nl.1 nl.2),_,rfl,_,SqL.of (f3.get h0 nl.1 nl.2),_,rfl,_,.inl (SqL.of (f3.get h1 n0.1 n0.2)),d,b,(ws.length:Int),by rw[bG],f3.dk,Zo,Zo,fun k H4 k0 k1 D4 e4=>?_⟩
  have f4:=f3.draw D4 e4
  obtain⟨i0,hi0,rfl,ei0⟩:=eB k0 k1
  refine⟨_,SqL.of (f4.get h1 n0.1 n0.2),_,ei0,?_⟩
  have hnm:=mw.nm hi0
  dsimp only [aK];generalize ws[i0]=nm at hnm ⊢;refine⟨_,SqL.of (f4.get h0 nl.1 nl.2),_,rfl,_,SqL.of (f4.get h0 nl.1 nl.2),_,rfl,_,.inl (SqL.of (f4.get h2 n1.1 n1.2)),d,b,(us.length:Int),by rw[bG],f4.dk,Zo,Zo,fun k H5 k0 k1 D5 e5=>?_⟩
  have f5:=f4.draw D5 e5
  obtain⟨i1,hi1,rfl,ei1⟩:=eB k0 k1
  refine⟨_,SqL.of (f5.get h2 n1.1 n1.2),_,ei1,?_⟩
  have hhs:=mu.nm hi1
  dsimp only [aK];generalize us[i1]=hs at hhs ⊢;have gb5:H5 bk=some (.dK kvs):=(((Fw.refl f3.dk).draw D4 e4).draw D5 e5).get gb3 bkd.1 bkd.2
  obtain⟨o,ho,eo⟩:=dg gb5 hB3 nm
  refine⟨bk,rfl,Aa gb5,o,ho,?_⟩
  rw[eo];dsimp only [aK];have hv:=hle nm
  generalize f nm=have_ at hv ⊢;refine aY (fun σ' H'=>∃(td:Addr),σ'=[some (.ref d),some (.ref ra),some (.ref lm),some (.ref bk),some (.ref cd),o5,some (.str nm),some (.str hs),some (.int (have_:Int)),some (.ref td),none,none,none,none,none]/\(∃m:Nat,1<=m/\m<=1000000000000/\H' td=some (.tup (Dd.send hs nm m).vs))/\Fw d b H H') (fun nx hnx=>?_) ?_
  ·refine⟨⟨Zd,Zd,Zd⟩,d,b,3,rfl,f5.dk,Zd,Zd,fun k H6 k0 k1 D6 e6=>⟨aN rfl,fun td H7 s7 g7=>?_⟩⟩
   obtain⟨k,rfl⟩:=eK k0
   have f7:=(f5.draw D6 e6).same s7
   by_cases hlt:(have_:Int)+1+(k:Int)<1000000000000
   ·refine hnx _ _ ⟨td,rfl,⟨have_+1+k,Zo,Zo,?_⟩,f7⟩
    rw[show(if (have_:Int)+1+(k:Int)<10 ^ (12:Int).toNat then (have_:Int)+1+(k:Int) else 10 ^ (12:Int).toNat)=((have_+1+k:Nat):Int) from(if_pos hlt).trans Zo]at g7
    exact g7
   ·refine hnx _ _ ⟨td,rfl,⟨1000000000000,Zo,Zo,?_⟩,f7⟩
    rw[show(if (have_:Int)+1+(k:Int)<10 ^ (12:Int).toNat then (have_:Int)+1+(k:Int) else 10 ^ (12:Int).toNat)=((1000000000000:Nat):Int) from(if_neg hlt).trans rfl]at g7;exact g7
  rintro σ' H7 ⟨td0,rfl,⟨m0,hm01,hm02,gtd0⟩,f7⟩
  refine aY (fun σ' H'=>∃(td:Addr) (x:Dd),σ'=[some (.ref d),some (.ref ra),some (.ref lm),some (.ref bk),some (.ref cd),o5,some (.str nm),some (.str hs),some (.int (have_:Int)),some (.ref td),none,none,none,none,none]/\x.Ok/\x.far=true/\H' td=some (.tup x.vs)/\Fw d b H H') (fun nx hnx=>?_) ?_
  ·have keep:∀ {H8:Hp},Fw d b H7 H8->nx [some (.ref d),some (.ref ra),some (.ref lm),some (.ref bk),some (.ref cd),o5,some (.str nm),some (.str hs),some (.int (have_:Int)),some (.ref td0),none,none,none,none,none] H8:=fun F8=>hnx _ _ ⟨td0,.send hs nm m0,rfl,⟨hhs,hnm,hm01,hm02⟩,rfl,F8.tup gtd0,f7.trans F8⟩
   refine bF (fun h=>?_) (fun h=>keep (Fw.refl f7.dk))
   have hpos:0<have_:=by have:=of_decide_eq_true h;omega
   refine⟨d,b,2,rfl,f7.dk,Zd,Zd,fun k H8 k0 k1 D8 e8=>?_⟩
   have F8:=(Fw.refl f7.dk).draw D8 e8
   refine bF (fun _=>?_) (fun _=>keep F8)
   refine⟨⟨Zd,Zd,Zd⟩,d,b,(have_:Int),rfl,D8,Zo,Zo,fun k2 H9 k20 k21 D9 e9=>⟨aN rfl,fun td H10 s10 g10=>?_⟩⟩
   obtain⟨k2,rfl⟩:=eK k20
   refine hnx _ _ ⟨td,.fetch hs nm (1000000000000 - k2),rfl,⟨hhs,hnm,Zo,Zo⟩,rfl,?_,((f7.trans F8).draw D9 e9).same s10⟩
   have e:(10:Int) ^ (12:Int).toNat - (k2:Int)=((1000000000000 - k2:Nat):Int):=by show(1000000000000:Int) - (k2:Int)=_;omega
   dsimp only at g10
   rw[e]at g10;exact g10
  rintro σ' H8 ⟨td,x,rfl,hx,hfar,gtd,f8⟩
  have R8:=RR.keep f8.tk (f8.get RR.lst nra.1 nra.2)
  refine aY (fun σ' H'=>∃(num:Nat),σ'=[some (.ref d),some (.ref ra),some (.ref lm),some (.ref bk),some (.ref cd),o5,some (.str nm),some (.str hs),some (.int (have_:Int)),some (.ref td),some (.int (num:Int)),none,none,none,none]/\(∀r∈rs,nP r=false->Do r<num)/\Same H8 H') (fun nx hnx=>?_) ?_
  ·refine⟨dR rfl,fun p0 hp0=>?_⟩
   have s3:=aF (o:=.lst [.int 0]) hp0
   have g0:(aJ H8 p0 (.lst [.int 0])) p0=some (.lst [.int 0]):=aA
   generalize aJ H8 p0 (.lst [.int 0])=H9 at s3 g0 ⊢;refine⟨ra,rfl,⟨_,SqL.of (R8.same s3).lst⟩,?_⟩
   refine As (R8.same s3) Zo (fun r=>!nP r) (fun r _=>.int (Do r:Int)) (fun a1 r1 H' k1 hm1 hat1 s' hk1=>?_) (fun a1 r1 H' Q' _ hp1 hat1 h'=>?_) (fun prs H' s' g1 g2 l'=>?_)
   ·obtain⟨xs1,gg1,z0,z1,_⟩:=eC hat1
    refine⟨_,SqT.of gg1,_,z0,?_⟩
    have:=hk1 H' (Same.refl _)
    rw[<- sF]at this;exact this
   ·obtain⟨xs1,gg1,z0,z1,_⟩:=eC hat1
    rw[Uo (by simpa using hp1)]at z1
    exact⟨_,SqT.of gg1,_,z1,h'⟩
   ·intro p hp;refine⟨_,_,aO (s' _ _ g0) hp,aA,by rw[bG];exact gY (by simp;omega),fun p3 hp3=>?_⟩
    refine⟨p3,(0:Int)::prs.map (fun p=>(Do p.1:Int)),rfl,SqL.of (by rw[aA,List.map_cons,List.map_map];rfl),Zs,fun mx hmx hall=>?_⟩
    have nn:∃m:Nat,mx=m:=by
     rcases List.mem_cons.mp hmx with rfl | h
     ·exact⟨0,rfl⟩
     ·obtain⟨n,hn',rfl⟩:=Zmm.mp h;exact⟨_,rfl⟩
    obtain⟨m,rfl⟩:=nn
    refine hnx _ _ ⟨1+m,?_,fun r hr hh=>?_,((s3.trans s').trans (aF hp)).trans (aF hp3)⟩
    ·rw[show((1+m:Nat):Int)=1+(m:Int) by omega];rfl
    ·obtain⟨a',ha'⟩:=g2 r hr (by rw[hh];rfl)
     have:=hall _ (nY _ (Zmm.mpr ⟨_,ha',rfl⟩))
     have:(Do r:Int)<=(m:Int):=this
     omega
  rintro σ' H9 ⟨num,rfl,hnum,s9⟩
  have R9:=R8.same s9
  refine aY (fun σ' H'=>∃(turn:Nat),σ'=[some (.ref d),some (.ref ra),some (.ref lm),some (.ref bk),some (.ref cd),o5,some (.str nm),some (.str hs),some (.int (have_:Int)),some (.ref td),some (.int (num:Int)),some (.int (turn:Int)),none,none,none]/\(∀r∈rs,r.turn<=turn)/\Same H9 H') (fun nx hnx=>?_) ?_
  ·refine⟨dR rfl,fun p0 hp0=>?_⟩
   have s3:=aF (o:=.lst [.int 0]) hp0
   have g0:(aJ H9 p0 (.lst [.int 0])) p0=some (.lst [.int 0]):=aA
   generalize aJ H9 p0 (.lst [.int 0])=H10 at s3 g0 ⊢;refine⟨ra,rfl,⟨_,SqL.of (R9.same s3).lst⟩,?_⟩
   refine As (R9.same s3) Zo nQ (fun r _=>.int (r.turn:Int)) (fun a1 r1 H' k1 hm1 hat1 s' hk1=>?_) (fun a1 r1 H' Q' _ hp1 hat1 h'=>?_) (fun prs H' s' g1 g2 l'=>?_)
   ·obtain⟨xs1,gg1,z0,z1,_⟩:=eC hat1
    refine⟨_,SqT.of gg1,_,z0,aN rfl,fun tp H4 s4 g4=>⟨tp,_,rfl,.inr (SqT.of g4),rfl,rfl,?_⟩⟩
    have hk:=hk1 H4 s4
    rw[<- Jj]at hk;exact hk
   ·obtain⟨xs1,gg1,z0,z1,z2⟩:=eC hat1
    have e2:=Jk hp1
    have z2':=z2 (by rw[e2];exact fun z=>nomatch z)
    rw[e2]at z2';exact⟨_,SqT.of gg1,_,z2',h'⟩
   ·intro p hp;refine⟨_,_,aO (s' _ _ g0) hp,aA,by rw[bG];exact gY (by simp;omega),fun p3 hp3=>?_⟩
    refine⟨p3,(0:Int)::prs.map (fun p=>(p.1.turn:Int)),rfl,SqL.of (by rw[aA,List.map_cons,List.map_map];rfl),Zs,fun mx hmx hall=>?_⟩
    have nn:∃m:Nat,mx=m:=by
     rcases List.mem_cons.mp hmx with rfl | h
     ·exact⟨0,rfl⟩
     ·obtain⟨n,hn',rfl⟩:=Zmm.mp h;exact⟨_,rfl⟩
    obtain⟨m,rfl⟩:=nn
    refine hnx _ _ ⟨m,rfl,fun r hr=>?_,((s3.trans s').trans (aF hp)).trans (aF hp3)⟩
    cases ht:nQ r with
    | false=>rw[Aj (by rw[ht];exact Bool.false_ne_true)];exact Nat.zero_le _
    | true=>
     obtain⟨a',ha'⟩:=g2 r hr ht
     have:=hall _ (nY _ (Zmm.mpr ⟨_,ha',rfl⟩))
     have:(r.turn:Int)<=(m:Int):=this
     omega
  rintro σ' H10 ⟨turn,rfl,hturn,s10⟩
  have s810:=s9.trans s10
  have f10:=f8.same s810
  have gtd10:=s810 _ _ gtd
  refine⟨td,x,true,rfl,gtd10,fun lw H11 flw glw s11=>?_⟩
  have f11:=f10.same s11
  have lwd:=dk.ne (f10.free flw)
  dsimp only [aK];have hwl:1<=(kB x true).length/\(kB x true).length<=6:=by cases x <;> exact⟨Nat.le_of_ble_eq_true rfl,Nat.le_of_ble_eq_true rfl⟩
  refine⟨_,.inl (SqL.of glw),d,b,((kB x true).length:Int),by rw[bG],f11.dk,Zo,Zo,fun k H12 k0 k1 D12 e12=>?_⟩
  have F12:=(Fw.refl f11.dk).draw D12 e12
  obtain⟨ki,hki,rfl,eki⟩:=eB k0 k1
  have hzm:(kB x true)[ki]∈kB x true:=List.getElem_mem hki
  refine⟨_,SqL.of (F12.get glw lwd.1 lwd.2),_,eki,d,b,td,x,_,rfl,D12,F12.tup (s11 _ _ gtd10),hx,Bb hzm,fun c y H13 hy hwy gc F13=>?_⟩
  rw[<- hwy]at hzm;have hye:y.early=false:=(sJ hzm hfar).mp rfl
  have f13:=(f11.trans F12).trans F13
  have gtd13:=F13.tup (F12.tup (s11 _ _ gtd10))
  dsimp only [aK];refine⟨aN rfl,fun c1 H14 s14 g14=>?_⟩
  have f14:=f13.same s14
  refine⟨d,b,lm,_,rfl,f14.dk,f14.menus hd hb hMx,hd,hb,fun c2 p' k' H15 hp' hk' g15 F15=>?_⟩
  refine⟨_,_,F15.tup g14,g15,Nat.le_of_ble_eq_true rfl,fun c3 H16 s16 g16=>⟨aN rfl,fun c4 H17 s17 g17=>⟨_,_,s17 _ _ g16,g17,Nat.le_of_ble_eq_true rfl,fun c5 H18 s18 g18=>⟨aN rfl,fun c6 H19 s19 g19=>⟨dR rfl,fun lmo hlmo=>?_⟩⟩⟩⟩⟩
  have F19:=(((((Fw.refl f13.dk).same s14).trans F15).same s16).same s17).same s18
  have F19':=F19.same s19
  have f19:=f13.trans F19'
  have fmo:=f19.free hlmo
  have M20:RxsAt (aJ H19 lmo (.lst [.ref c5,.ref c6])) lmo [.came num turn p' k' x,.asked num] [c5,c6]:=⟨aA,.cons ⟨td,aO (s19 _ _ g18) hlmo,aO (F19'.tup gtd13) hlmo⟩ (.cons (aO g19 hlmo) .nil)⟩
  have s20:=aF (o:=.lst [.ref c5,.ref c6]) hlmo
  have f20:=f19.same s20
  have gc20:=s20 _ _ (F19'.tup gc)
  have R20:=RR.keep f20.tk (f20.get RR.lst nra.1 nra.2)
  dsimp only [aK];generalize aJ H19 lmo (.lst [.ref c5,.ref c6])=H20 at M20 s20 f20 gc20 R20 ⊢;have cz:=Oe R20 M20 (by simp;omega)
  refine⟨_,_,R20.lst,M20.lst,cz,fun p1 fp1=>?_⟩
  obtain⟨s21,A21⟩:=Od R20 M20 fp1
  generalize aJ H20 p1 _=H21 at s21 A21 ⊢;refine⟨aN rfl,fun c7 H22 s22 g22=>⟨dR rfl,fun p2 hp2=>?_⟩⟩
  have s23:=aF (o:=.lst [.ref c7]) hp2
  have O23:RxsAt (aJ H22 p2 (.lst [.ref c7])) p2 [.done num turn y] [c7]:=Ar ⟨c,s23 _ _ g22,s23 _ _ (s22 _ _ (s21 _ _ gc20))⟩ aA
  have A23:=(A21.same s22).same s23
  have f23:=((f20.same s21).same s22).same s23
  generalize aJ H22 p2 (.lst [.ref c7])=H23 at s23 O23 A23 f23 ⊢;have cz2:=Oe A23 O23 (by rw[sK];simp;omega)
  refine⟨_,_,A23.lst,O23.lst,cz2,fun p3 fp3=>?_⟩
  obtain⟨s24,A24⟩:=Od A23 O23 fp3
  generalize aJ H23 p3 _=H24 at s24 A24 ⊢;refine q p3 _ _ H24 (f23.free fp3) A24 (yR hw hnum hturn hfar hy hye) (fun r hr=>?_) (by rw[sK,sK];simp;omega) (f23.same s24)
  rcases aH hr with hr | rfl
  ·rcases Zma.mp hr with hr | hr
   ·exact hfine r hr
   ·simp only [List.mem_cons,List.not_mem_nil,or_false]at hr
    rcases hr with rfl | rfl
    ·exact hx
    ·trivial
  ·exact⟨x,hx,hy⟩
end
end KL
namespace KL
open PySem L2
section
variable {P:Program} {w:World} {K:W.Frag} {mg:Str->Option Value} {base:Heap}
def Bd (K:W.Frag):Sp:=fun vs H Q _=>∃(a:Addr) (ns:List Int),vs=[.ref a]/\SqL K H a (ns.map V.int)/\ns.length<=63/\∀H',Q (.bl true) H'
theorem Ur (T:Txt K mg) (cLdeck:aG P w K mg base 1 "_law_deck" ["_law_script"] (Fx K)) (cLmenus:aG P w K mg base 3 "_law_menus" ["_law_deck_here"] wB) (cLdraw:aG P w K mg base 1 "_law_draw" ["_law_deck_here","_law_many"] bJ)
  (cLsome_head:aG P w K mg base 6 "_law_some_head" ["_law_deck_here","_law_menus_here"] oJ) (cLlived:aG P w K mg base 4 "_law_lived" ["_law_deck_here","_law_rows","_law_menus_here","_law_many"] pZ)
  (cLasked_anyhow:aG P w K mg base 4 "_law_asked_anyhow" ["_law_deck_here","_law_rows","_law_menus_here"] Yc) (cLother_answers:aG P w K mg base 4 "_law_other_answers" ["_law_deck_here","_law_rows"] Yb)
  (cLdue:aG P w K mg base 3 "_law_due" ["_law_rows"] lU) (cLtold:aG P w K mg base 9 "_law_told" ["_law_rows"] lU) (c_first_wrong:aG P w K mg base 8 "first_wrong" ["rows"] Uq)
  {f:Addr} {fd:FuncData} (F:Fun K "law" "law" lF f fd):jG P w K mg base rK 10 f fd ["_law_script"] (Bd K):=by
 refine F.go iV (fun vs H Q E h=>?_) (fun cdv A outer s H vs Q E hr h=>?_)
 ·obtain⟨a,ns,rfl,_⟩:=h;rfl
 ·obtain⟨a,ns,rfl,hS,hlen,q⟩:=h
  have hLdeck:Room 1 _:=hr.mono Zd
  have hLmenus:Room 3 _:=hr.mono Zd
  have hLdraw:Room 1 _:=hr.mono Zd
  have hLsome_head:Room 6 _:=hr.mono Zd
  have hLlived:Room 4 _:=hr.mono Zd
  have hLasked_anyhow:Room 4 _:=hr.mono Zd
  have hLother_answers:Room 4 _:=hr.mono Zd
  have hLdue:Room 3 _:=hr.mono Zd
  have hLtold:Room 9 _:=hr
  have hr_first_wrong:Room 8 _:=hr.mono Zd
  refine⟨_,(R.ae (R.ai (i:=1) iV.nd (R.fn cLdeck hLdeck rfl (R.aa (R.v 0) R.ad))) (R.ae (R.ai (i:=2) iV.nd (R.fn cLmenus hLmenus rfl (R.aa (R.v 1) R.ad))) (R.ae (R.bp PassesOwn.never rfl (R.dj rfl T.b_range (R.aa R.ac R.ad)) (R.gn (i:=3) iV.nd) (R.ae (R.ai (i:=4) iV.nd (R.fn cLsome_head hLsome_head rfl (R.aa (R.v 1) (R.aa (R.v 2) R.ad)))) (R.ae (R.ai (i:=4) iV.nd (R.fn cLlived hLlived rfl (R.aa (R.v 1) (R.aa (R.v 4) (R.aa (R.v 2) (R.aa (R.ix (R.ar (K:=K)) (R.av (R.aa (R.fn cLdraw hLdraw rfl (R.aa (R.v 1) (R.aa R.ac R.ad))) (R.aa (R.fn cLdraw hLdraw rfl (R.aa (R.v 1) (R.aa R.ac R.ad))) R.ad))) (R.fn cLdraw hLdraw rfl (R.aa (R.v 1) (R.aa R.ac R.ad)))) R.ad)))))) (R.ae (R.ap (R.ao R.eq (R.fn cLdraw hLdraw rfl (R.aa (R.v 1) (R.aa R.ac R.ad))) R.ac) (R.ah (R.ai (i:=4) iV.nd (R.fn cLasked_anyhow hLasked_anyhow rfl (R.aa (R.v 1) (R.aa (R.v 4) (R.aa (R.v 2) R.ad)))))) R.aq) (R.ae (R.ai (i:=4) iV.nd (R.fn cLother_answers hLother_answers rfl (R.aa (R.v 1) (R.aa (R.v 4) R.ad)))) (R.ae (R.ai (i:=5) iV.nd (R.fn cLdue hLdue rfl (R.aa (R.v 4) R.ad))) (R.ah (R.ap (R.tw (R.da (R.ao R.ne (R.fn cLtold hLtold rfl (R.aa (R.v 4) R.ad)) (R.v 5)) (R.dr (R.ao R.ne (R.fn cLtold hLtold rfl (R.aa (R.v 4) R.ad)) (R.v 5))))) (R.ah (R.al R.bl)) R.aq)))))))) (R.ah (R.al (R.ay R.ft (R.fn c_first_wrong hr_first_wrong rfl (R.aa (R.av R.ad) R.ad)) R.bh)))))),?_⟩
  refine⟨a,ns,rfl,hS,fun d b H1 nd nb D1 s1=>?_⟩
  dsimp only [aK];refine⟨d,b,rfl,D1,fun lm M H2 hM oD oB f2=>?_⟩
  dsimp only [aK];refine aY (fun σ' H'=>True) (fun nx hnx=>?_) ?_
  ·refine⟨4,rfl,Zd,Zd,dM (cR 0 (4:Int).toNat) (fun i σ' H'=>∃(o3 o4 o5:Option V),σ'=[some (.ref a),some (.ref d),some (.ref lm),o3,o4,o5]/\Dk H' d b/\MenusAt H' lm M) (fun _ _ _ _=>trivial) ⟨_,_,_,rfl,f2.dk,hM⟩ ?_ ?_⟩
   ·rintro i x σ' H3 hx ⟨o3,o4,o5,rfl,D3,hM3⟩
    obtain⟨rfl,hi⟩:=iW hx
    dsimp only [aK];refine⟨d,b,lm,M,rfl,D3,hM3,oD,oB,fun ra rs as H9 fra R9 hk9 f9=>?_⟩
    have oR:=hM3.new fra
    have nra:=D3.ne fra
    dsimp only [aK];refine aY (fun σ' H'=>∃(rs':List RX) (as':List Addr) (f:Str->Nat),σ'=[some (.ref a),some (.ref d),some (.ref lm),some (.int (i:Int)),some (.ref ra),o5]/\RxsAt H' ra rs' as'/\RX.Whole rs'/\(∀r∈rs',r.Ok)/\jE rs' f/\rs'.length<=43/\Dk H' d b/\MenusAt H' lm M) (fun nx' hnx'=>?_) ?_
    ·refine⟨d,b,9,rfl,f9.dk,Zd,Zd,fun m1 Ha z0 z1 Da ea=>⟨d,b,31,rfl,Da,Zd,Zd,fun m2 Hb v0 v1 Db eb=>⟨dR rfl,fun p hp=>⟨d,b,2,rfl,Db.new hp,Zd,Zd,fun m3 Hc w0 w1 Dc ec=>?_⟩⟩⟩⟩
     have hpd:=Db.ne hp
     have gp:=ec p _ aA hpd.1 hpd.2
     obtain⟨m1,rfl⟩:=eK z0
     obtain⟨m2,rfl⟩:=eK v0
     have fc:=(((((Fw.refl f9.dk).draw Da ea).draw Db eb).new (o:=.lst [.int (m1:Int),.int (m2:Int)]) hp).draw Dc ec)
     have Rc:=R9.keep fc.tk (fc.get R9.lst nra.1 nra.2)
     have hMc:=(f9.trans fc).menus oD oB hM3
     have fin:∀(many:Nat),many<=30->pZ [.ref d,.ref ra,.ref lm,.int (many:Int)] Hc (fun v H'=>nx' [some (.ref a),some (.ref d),some (.ref lm),some (.int (i:Int)),some v,o5] H') E0:=fun many hm=>
      ⟨d,b,ra,lm,M,rs,as,many,rfl,fc.dk,Rc,hk9,hMc,oD,oB,oR,nra.1,nra.2,hm,fun rs' as' ff Hd Rd wd okd lvd ld Dd' frd=>
       hnx' _ _ ⟨rs',as',ff,rfl,Rd,wd,okd,lvd,ld,Dd',hMc.keep fun c hc o e=>frd c o e (fun z=>oD (z ▸ hc)) (fun z=>oB (z ▸ hc)) (fun z=>oR (z ▸ hc))⟩⟩
     rcases(by omega:m3=0∨m3=1) with rfl | rfl
     ·exact⟨_,SqL.of gp,_,rfl,fin m1 Zo⟩
     ·exact⟨_,SqL.of gp,_,rfl,fin m2 Zo⟩
    rintro σ' Ha ⟨rs',as',ff,rfl,Ra,wa,oka,lva,la,Da,hMa⟩
    refine aY (fun σ' H'=>∃(la:Addr) (rs2:List RX) (as2:List Addr),σ'=[some (.ref a),some (.ref d),some (.ref lm),some (.int (i:Int)),some (.ref la),o5]/\RxsAt H' la rs2 as2/\(la≠d/\la≠b)/\RX.Whole rs2/\(∀r∈rs2,gO r)/\rs2.length<=46/\Dk H' d b/\MenusAt H' lm M) (fun nx' hnx'=>?_) ?_
    ·refine⟨d,b,2,rfl,Da,Zd,Zd,fun k Hb k0 k1 Db eb=>?_⟩
     have fb:=(Fw.refl Da).draw Db eb
     have Rb:=Ra.keep fb.tk (fb.get Ra.lst nra.1 nra.2)
     have hMb:=fb.menus oD oB hMa
     refine bF (fun _=>?_) (fun _=>?_)
     ·refine⟨d,b,ra,lm,M,rs',as',ff,rfl,Db,Rb,nra,la,wa,oka,lva,hMb,oD,oB,fun l2 rs2 as2 Hc fl2 Rc wc fc lc Fc=>?_⟩
      exact hnx' _ _ ⟨l2,rs2,as2,rfl,Rc,Db.ne fl2,wc,fc,lc,Fc.dk,Fc.menus oD oB hMb⟩
     ·exact hnx' _ _ ⟨ra,rs',as',rfl,Rb,nra,wa,qE wa oka,Zo,Db,hMb⟩
    rintro σ' Hb ⟨l2,rs2,as2,rfl,Rb,nl2,wb,fb,lb,Db,hMb⟩
    refine⟨d,b,l2,rs2,as2,rfl,Db,Rb,nl2,Zo,wb,fb,fun l3 rs3 as3 Hc Rc wc fc lc Fc=>?_⟩
    have hMc:=Fc.menus oD oB hMb
    dsimp only [aK];refine⟨l3,rs3,as3,rfl,Rc,fc,Zo,wc,fun o Hd ho sd=>?_⟩
    have Rd:=Rc.same sd
    dsimp only [aK];refine Hm (fun v H'=>v=false/\Same Hd H') (fun kk hkk=>?_) ?_ ?_
    ·refine⟨l3,rs3,as3,rfl,Rd,fc,Zo,wc,fun o2 He ho2 se=>?_⟩
     have e2:=kS ho2 ho
     subst e2;have fin:lU [.ref l3] He (fun v H'=>Wm v (Nv o2) H' fun x H'=>mB x fun k=>kk k H') E0:=⟨l3,rs3,as3,rfl,Rd.same se,fc,Zo,wc,fun o3 Hf ho3 sf=>by
      have e3:=kS ho3 ho2
      subst e3;have:=hkk false Hf ⟨rfl,se.trans sf⟩
      cases o3 with
      | none=>exact this
      | some j=>
       show kk (!decide ((j:Int)=(j:Int))) Hf
       rw[decide_eq_true rfl];exact this⟩
     cases o2 with
     | none=>exact fin
     | some j=>
      show if (!decide ((j:Int)=(j:Int)))=true then _ else _
      rw[decide_eq_true rfl];exact fin
    ·rintro _ ⟨z,_⟩;cases z
    ·rintro He ⟨_,se⟩
     exact⟨_,_,_,rfl,(Fc.dk.same sd).same se,(hMc.keep fun c _ o e=>sd _ _ e).keep fun c _ o e=>se _ _ e⟩
   ·rintro σ' H3 _
    exact hnx _ _ trivial
  rintro σ' H3 _
  refine⟨dR rfl,fun p hp=>⟨p,[],[],rfl,.nil aA,(fun _ h=>nomatch h),Nat.zero_le _,.nil,fun o H4 ho s4=>?_⟩⟩
  have e:=kS (o':=none) ho (fun i r h=>by cases h)
  subst e;exact q H4
end
end KL
namespace KL
open PySem L2
structure FA (K:W.Frag) (x:Str) (st:Stmt):Prop where
 ex:∃(f:Addr) (od an:Option Addr) (sl:Array (Option Value)) (oc kV dc pm cd ct:Value),W.nsIn K mainGlobals x=some (some (.ref f))/\K.lookup f=some ⟨oc,od,.func (W.fnOf x x (cA st) (bD st) (aB st) .none kV dc pm an cd ct),sl⟩/\W.codeIn K cd x=true/\W.keepIn K (.ref f)=true
theorem FA.of {K:W.Frag} {x:Str} {st:Stmt} {f:Addr} {od an:Option Addr} {sl:Array (Option Value)} {oc kV dc pm cd ct:Value} (a:W.nsIn K mainGlobals x=some (some (.ref f))) (l:K.lookup f=some ⟨oc,od,.func (W.fnOf x x (cA st) (bD st) (aB st) .none kV dc pm an cd ct),sl⟩) (c:W.codeIn K cd x=true) (k:W.keepIn K (.ref f)=true):FA K x st:=⟨f,od,an,sl,oc,kV,dc,pm,cd,ct,a,l,c,k⟩
theorem FA.at {K:W.Frag} {x:Str} {st:Stmt} {ps:List Str} {h:Heap} {mg:Str->Option Value} (F:FA K x st) (X:K.In h) (G:h.Ns mainGlobals mg) (hb:∀(kV doc pm:Value) (an:Option Addr) (cdv ct:Value) (us:List Value),us.length=ps.length->bindArgs (W.fnOf x x (cA st) (bD st) (aB st) .none kV doc pm an cdv ct) ⟨us,[]⟩=pure (ps.zip us)):DefAt K mg x st ps:=by
 obtain⟨f,od,an,sl,oc,kV,dc,pm,cd,ct,a,l,c,k⟩:=F.ex
 exact Te X G a l c k hb
structure MA (K:W.Frag) (C:Addr) (m qual:Str) (st:Stmt):Prop where
 ex:∃(f:Addr) (od an:Option Addr) (sl:Array (Option Value)) (oc kV dc pm cd ct:Value),W.findIn K (.ref C) m=some (some (.ref f))/\W.isFn K (.ref f)=true/\K.lookup f=some ⟨oc,od,.func (W.fnOf m qual (cA st) (bD st) (aB st) .none kV dc pm an cd ct),sl⟩/\W.codeIn K cd qual=true/\W.keepIn K (.ref f)=true
theorem MA.of {K:W.Frag} {C:Addr} {m qual:Str} {st:Stmt} {f:Addr} {od an:Option Addr} {sl:Array (Option Value)} {oc kV dc pm cd ct:Value} (a:W.findIn K (.ref C) m=some (some (.ref f))) (i:W.isFn K (.ref f)=true) (l:K.lookup f=some ⟨oc,od,.func (W.fnOf m qual (cA st) (bD st) (aB st) .none kV dc pm an cd ct),sl⟩) (c:W.codeIn K cd qual=true) (k:W.keepIn K (.ref f)=true):MA K C m qual st:=⟨f,od,an,sl,oc,kV,dc,pm,cd,ct,a,i,l,c,k⟩
theorem MA.at {K:W.Frag} {C:Addr} {m qual:Str} {st:Stmt} {ps:List Str} (F:MA K C m qual st) (cl:Cls K C) (hb:∀(kV doc pm:Value) (an:Option Addr) (cdv ct:Value) (us:List Value),us.length=ps.length->bindArgs (W.fnOf m qual (cA st) (bD st) (aB st) .none kV doc pm an cdv ct) ⟨us,[]⟩=pure (ps.zip us)):MethAt K C m qual st ps:=by
 obtain⟨f,od,an,sl,oc,kV,dc,pm,cd,ct,a,i,l,c,k⟩:=F.ex
 exact⟨cl,_,_,oU l c k,⟨a,i,k⟩,(oU (st:=st) l c k).binds hb⟩
theorem Us {l:W.OpenLaw} {w:World} {K:W.Frag} {h:Heap} {mg:Str->Option Value} {fa f_law:Addr} (X:K.In h) (G:h.Ns mainGlobals mg) (hfa:mg "law"=some (.ref fa))
  {od_law an_law:Option Addr} {sl_law:Array (Option Value)} {oc_law kV_law dc_law pm_law cd_law ct_law:Value}
  (a_is_name:FA K "is_name" jX)
  (a_is_whole:FA K "is_whole" iG)
  (a_is_made_of:FA K "is_made_of" dW)
  (a_asks_of:FA K "asks_of" jY)
  (a_done_changes:FA K "done_changes" cV)
  (a_early:FA K "early" oE)
  (a_late:FA K "late" uD)
  (a_done_answer:FA K "done_answer" dI)
  (a_changes_of:FA K "changes_of" fJ)
  (a_is_answer:FA K "is_answer" fE)
  (a_word_of:FA K "word_of" jZ)
  (a_is_no:FA K "is_no" oF)
  (a_bounds_of:FA K "bounds_of" fZ)
  (a_are_within:FA K "are_within" dX)
  (a_first_odd:FA K "first_odd" gC)
  (a_by_numbers:FA K "by_numbers" fL)
  (a_first_book:FA K "first_book" dY)
  (a_first_wrong:FA K "first_wrong" eS)
  (a_right_answers:FA K "right_answers" cQ)
  (a_law_deck:FA K "_law_deck" iH)
  (a_law_draw:FA K "_law_draw" iI)
  (a_law_unlike:FA K "_law_unlike" cN)
  (a_law_end:FA K "_law_end" kA)
  (a_law_deed:FA K "_law_deed" iJ)
  (a_law_words:FA K "_law_words" fF)
  (a_law_answer:FA K "_law_answer" fM)
  (a_law_menus:FA K "_law_menus" gD)
  (a_law_spot:FA K "_law_spot" iK)
  (a_law_kept:FA K "_law_kept" iM)
  (a_law_head:FA K "_law_head" iN)
  (a_law_early:FA K "_law_early" gE)
  (a_law_lates:FA K "_law_lates" gF)
  (a_law_changes:FA K "_law_changes" eT)
  (a_law_changed:FA K "_law_changed" eU)
  (a_law_sized:FA K "_law_sized" gG)
  (a_law_right:FA K "_law_right" gH)
  (a_law_lived:FA K "_law_lived" bI)
  (a_law_some_head:FA K "_law_some_head" dN)
  (a_law_near:FA K "_law_near" iO)
  (a_law_other_answers:FA K "_law_other_answers" bL)
  (a_law_asked_anyhow:FA K "_law_asked_anyhow" aX)
  (a_law_due:FA K "_law_due" fQ)
  (a_law_told:FA K "_law_told" iP)
  (a_law:W.nsIn K mainGlobals "law"=some (some (.ref f_law))) (l_law:K.lookup f_law=some ⟨oc_law,od_law,.func (W.fnOf "law" "law" (cA lF) (bD lF) (aB lF) .none kV_law dc_law pm_law an_law cd_law ct_law),sl_law⟩) (c_law:W.codeIn K cd_law "law"=true) (k_law:W.keepIn K (.ref f_law)=true)
  {C_Walk:Addr} (aC_Walk:W.nsIn K mainGlobals "Walk"=some (some (.ref C_Walk))) (pg_Walk:W.plainGet K C_Walk Str.empty=true) (hd_Walk:W.hasDictIn K C_Walk=true) (po_Walk:W.plainOver K C_Walk=true) (sa_Walk:W.findIn K (.ref C_Walk) "__setattr__"=some (some (.builtin "object.__setattr__"))) (mk_Walk:W.makesIn K C_Walk=true) (kc_Walk:W.keepIn K (.ref C_Walk)=true)
  (n_Walk_last_rows:W.findIn K (.ref C_Walk) "last_rows"=some none)
  (n_Walk_last_rank:W.findIn K (.ref C_Walk) "last_rank"=some none)
  (n_Walk_last_turn:W.findIn K (.ref C_Walk) "last_turn"=some none)
  (n_Walk_kept_numbers:W.findIn K (.ref C_Walk) "kept_numbers"=some none)
  (n_Walk_came_deeds:W.findIn K (.ref C_Walk) "came_deeds"=some none)
  (n_Walk_asked_numbers:W.findIn K (.ref C_Walk) "asked_numbers"=some none)
  (n_Walk_done_numbers:W.findIn K (.ref C_Walk) "done_numbers"=some none)
  {f_Walk___init__:Addr} {od_Walk___init__ an_Walk___init__:Option Addr} {sl_Walk___init__:Array (Option Value)} {oc_Walk___init__ kV_Walk___init__ dc_Walk___init__ pm_Walk___init__ cd_Walk___init__ ct_Walk___init__:Value}
  (a_Walk___init__:W.findIn K (.ref C_Walk) "__init__"=some (some (.ref f_Walk___init__))) (i_Walk___init__:W.isFn K (.ref f_Walk___init__)=true) (l_Walk___init__:K.lookup f_Walk___init__=some ⟨oc_Walk___init__,od_Walk___init__,.func (W.fnOf "__init__" "Walk.__init__" (cA bZ) (bD bZ) (aB bZ) .none kV_Walk___init__ dc_Walk___init__ pm_Walk___init__ an_Walk___init__ cd_Walk___init__ ct_Walk___init__),sl_Walk___init__⟩) (c_Walk___init__:W.codeIn K cd_Walk___init__ "Walk.__init__"=true) (k_Walk___init__:W.keepIn K (.ref f_Walk___init__)=true)
  (a_Walk_fits:MA K C_Walk "fits" "Walk.fits" gA)
  (a_Walk_rises:MA K C_Walk "rises" "Walk.rises" fK)
  (a_Walk_fits_kept:MA K C_Walk "fits_kept" "Walk.fits_kept" cZ)
  (a_Walk_fits_answer:MA K C_Walk "fits_answer" "Walk.fits_answer" cM)
  (a_Walk_step:MA K C_Walk "step" "Walk.step" gB)
  {C_Book:Addr} (aC_Book:W.nsIn K mainGlobals "Book"=some (some (.ref C_Book))) (pg_Book:W.plainGet K C_Book Str.empty=true) (hd_Book:W.hasDictIn K C_Book=true) (po_Book:W.plainOver K C_Book=true) (sa_Book:W.findIn K (.ref C_Book) "__setattr__"=some (some (.builtin "object.__setattr__"))) (mk_Book:W.makesIn K C_Book=true) (kc_Book:W.keepIn K (.ref C_Book)=true)
  (n_Book_amounts:W.findIn K (.ref C_Book) "amounts"=some none)
  {f_Book___init__:Addr} {od_Book___init__ an_Book___init__:Option Addr} {sl_Book___init__:Array (Option Value)} {oc_Book___init__ kV_Book___init__ dc_Book___init__ pm_Book___init__ cd_Book___init__ ct_Book___init__:Value} {T_Book:Addr}
  (a_Book___init__:W.findIn K (.ref C_Book) "__init__"=some (some (.ref f_Book___init__))) (i_Book___init__:W.isFn K (.ref f_Book___init__)=true) (l_Book___init__:K.lookup f_Book___init__=some ⟨oc_Book___init__,od_Book___init__,.func (W.fnOf "__init__" "Book.__init__" (cA bY) (bD bY) (aB bY) (.ref T_Book) kV_Book___init__ dc_Book___init__ pm_Book___init__ an_Book___init__ cd_Book___init__ ct_Book___init__),sl_Book___init__⟩) (c_Book___init__:W.codeIn K cd_Book___init__ "Book.__init__"=true) (k_Book___init__:W.keepIn K (.ref f_Book___init__)=true)
  (a_Book_amount:MA K C_Book "amount" "Book.amount" eQ)
  (a_Book_rows:MA K C_Book "rows" "Book.rows" jP)
  (a_Book_change:MA K C_Book "change" "Book.change" eR)
  {dT_Book:Option Addr} {itsT_Book:List Value} {nT_Book:Nat} {slT_Book:Array (Option Value)} (lT_Book:K.lookup T_Book=some ⟨.type "tuple",dT_Book,.seq (List.toArray itsT_Book) nT_Book,slT_Book⟩) (vT_Book:itsT_Book=[.none])
  (z_isinstance:W.nsIn K mainGlobals "isinstance"=some none)
  (z_int:W.nsIn K mainGlobals "int"=some none)
  (z_bool:W.nsIn K mainGlobals "bool"=some none)
  (z_str:W.nsIn K mainGlobals "str"=some none)
  (z_len:W.nsIn K mainGlobals "len"=some none)
  (z_all:W.nsIn K mainGlobals "all"=some none)
  (z_tuple:W.nsIn K mainGlobals "tuple"=some none)
  (z_zip:W.nsIn K mainGlobals "zip"=some none)
  (z_enumerate:W.nsIn K mainGlobals "enumerate"=some none)
  (z_sum:W.nsIn K mainGlobals "sum"=some none)
  (z_list:W.nsIn K mainGlobals "list"=some none)
  (z_range:W.nsIn K mainGlobals "range"=some none)
  (z_sorted:W.nsIn K mainGlobals "sorted"=some none)
  (z_max:W.nsIn K mainGlobals "max"=some none)
  (z_dict:W.nsIn K mainGlobals "dict"=some none)
  (z_min:W.nsIn K mainGlobals "min"=some none)
  {t_LETTERS:Tok} (y_LETTERS:W.nsIn K mainGlobals "LETTERS"=some (some (.str ("abcdefghijklmnopqrstuvwxyz") t_LETTERS)))
  {t_LONGEST_NAME:Tok} (y_LONGEST_NAME:W.nsIn K mainGlobals "LONGEST_NAME"=some (some (.int (8) t_LONGEST_NAME)))
  {t_MOST:Tok} (y_MOST:W.nsIn K mainGlobals "MOST"=some (some (.int (1000000000000) t_MOST)))
  {a_RANKS:Addr} {es_RANKS:List DictEntry} {n_RANKS:Nat} (y_RANKS:W.nsIn K mainGlobals "RANKS"=some (some (.ref a_RANKS))) (l_RANKS:K.lookup a_RANKS=some ⟨.type "dict",none,.dict (List.toArray es_RANKS) n_RANKS,#[]⟩) (t_RANKS:Tab w.params es_RANKS (RKS)) (o_RANKS:(a_RANKS == sysModules)=false)
  {a_UNASKED_WORDS:Addr} {its_UNASKED_WORDS:List Value} {dd_UNASKED_WORDS:Option Addr} {n_UNASKED_WORDS:Nat} {sl_UNASKED_WORDS:Array (Option Value)} (y_UNASKED_WORDS:W.nsIn K mainGlobals "UNASKED_WORDS"=some (some (.ref a_UNASKED_WORDS))) (l_UNASKED_WORDS:K.lookup a_UNASKED_WORDS=some ⟨.type "tuple",dd_UNASKED_WORDS,.seq (List.toArray its_UNASKED_WORDS) n_UNASKED_WORDS,sl_UNASKED_WORDS⟩) (v_UNASKED_WORDS:Vals (Zy) its_UNASKED_WORDS)
  : ∃fd:FuncData,(∀(s:Shared) (v:Value),BindsTo s fd ⟨[v],[]⟩ [("_law_script",v)])/\∀base:Heap,K.In base->base.Ns mainGlobals mg->jG l.prog w K mg base rK 10 fa fd ["_law_script"] (Bd K):=by
 have e:=hfa.symm.trans (W.mg_of X G a_law)
 cases e
 have T:Txt K mg:=⟨W.mg_none_of X G z_isinstance,W.mg_none_of X G z_int,W.mg_none_of X G z_bool,W.mg_none_of X G z_str,W.mg_none_of X G z_len,W.mg_none_of X G z_all,W.mg_none_of X G z_tuple,W.mg_none_of X G z_zip,W.mg_none_of X G z_enumerate,W.mg_none_of X G z_sum,W.mg_none_of X G z_list,W.mg_none_of X G z_range,W.mg_none_of X G z_sorted,W.mg_none_of X G z_max,W.mg_none_of X G z_dict,W.mg_none_of X G z_min,⟨_,W.mg_of X G y_LETTERS⟩,⟨_,W.mg_of X G y_LONGEST_NAME⟩,⟨_,W.mg_of X G y_MOST⟩⟩
 have U:Yn w.params K mg:=⟨⟨_,W.mg_of X G y_RANKS,⟨_,_,l_RANKS,t_RANKS,o_RANKS⟩⟩,⟨_,W.mg_of X G y_UNASKED_WORDS,fun _=>.inr ⟨_,_,_,l_UNASKED_WORDS,rfl,rfl,by rw[dS,<- v_UNASKED_WORDS.length];decide,v_UNASKED_WORDS⟩⟩⟩
 have D_is_name:DefAt K mg "is_name" jX ["thing"]:=a_is_name.at X G fun _ _ _ _ _ _ us hl=>match us,hl with | [_],_=>rfl
 have D_is_whole:DefAt K mg "is_whole" iG ["thing","least","most"]:=a_is_whole.at X G fun _ _ _ _ _ _ us hl=>match us,hl with | [_,_,_],_=>rfl
 have D_is_made_of:DefAt K mg "is_made_of" dW ["thing","signs","longest"]:=a_is_made_of.at X G fun _ _ _ _ _ _ us hl=>match us,hl with | [_,_,_],_=>rfl
 have D_asks_of:DefAt K mg "asks_of" jY ["deed"]:=a_asks_of.at X G fun _ _ _ _ _ _ us hl=>match us,hl with | [_],_=>rfl
 have D_done_changes:DefAt K mg "done_changes" cV ["deed"]:=a_done_changes.at X G fun _ _ _ _ _ _ us hl=>match us,hl with | [_],_=>rfl
 have D_early:DefAt K mg "early" oE ["book","deed"]:=a_early.at X G fun _ _ _ _ _ _ us hl=>match us,hl with | [_,_],_=>rfl
 have D_late:DefAt K mg "late" uD ["book","deed","heard"]:=a_late.at X G fun _ _ _ _ _ _ us hl=>match us,hl with | [_,_,_],_=>rfl
 have D_done_answer:DefAt K mg "done_answer" dI ["book","deed"]:=a_done_answer.at X G fun _ _ _ _ _ _ us hl=>match us,hl with | [_,_],_=>rfl
 have D_changes_of:DefAt K mg "changes_of" fJ ["deed","answer"]:=a_changes_of.at X G fun _ _ _ _ _ _ us hl=>match us,hl with | [_,_],_=>rfl
 have D_is_answer:DefAt K mg "is_answer" fE ["deed","thing"]:=a_is_answer.at X G fun _ _ _ _ _ _ us hl=>match us,hl with | [_,_],_=>rfl
 have D_word_of:DefAt K mg "word_of" jZ ["thing"]:=a_word_of.at X G fun _ _ _ _ _ _ us hl=>match us,hl with | [_],_=>rfl
 have D_is_no:DefAt K mg "is_no" oF ["answer"]:=a_is_no.at X G fun _ _ _ _ _ _ us hl=>match us,hl with | [_],_=>rfl
 have D_bounds_of:DefAt K mg "bounds_of" fZ ["deed"]:=a_bounds_of.at X G fun _ _ _ _ _ _ us hl=>match us,hl with | [_],_=>rfl
 have D_are_within:DefAt K mg "are_within" dX ["things","bounds"]:=a_are_within.at X G fun _ _ _ _ _ _ us hl=>match us,hl with | [_,_],_=>rfl
 have D_first_odd:DefAt K mg "first_odd" gC ["rows"]:=a_first_odd.at X G fun _ _ _ _ _ _ us hl=>match us,hl with | [_],_=>rfl
 have D_by_numbers:DefAt K mg "by_numbers" fL ["rows","word"]:=a_by_numbers.at X G fun _ _ _ _ _ _ us hl=>match us,hl with | [_,_],_=>rfl
 have D_first_book:DefAt K mg "first_book" dY ["rows"]:=a_first_book.at X G fun _ _ _ _ _ _ us hl=>match us,hl with | [_],_=>rfl
 have D_first_wrong:DefAt K mg "first_wrong" eS ["rows"]:=a_first_wrong.at X G fun _ _ _ _ _ _ us hl=>match us,hl with | [_],_=>rfl
 have D_right_answers:DefAt K mg "right_answers" cQ ["book","deed"]:=a_right_answers.at X G fun _ _ _ _ _ _ us hl=>match us,hl with | [_,_],_=>rfl
 have D_law_deck:DefAt K mg "_law_deck" iH ["_law_script"]:=a_law_deck.at X G fun _ _ _ _ _ _ us hl=>match us,hl with | [_],_=>rfl
 have D_law_draw:DefAt K mg "_law_draw" iI ["_law_deck_here","_law_many"]:=a_law_draw.at X G fun _ _ _ _ _ _ us hl=>match us,hl with | [_,_],_=>rfl
 have D_law_unlike:DefAt K mg "_law_unlike" cN ["_law_deck_here","_law_signs","_law_longest","_law_many"]:=a_law_unlike.at X G fun _ _ _ _ _ _ us hl=>match us,hl with | [_,_,_,_],_=>rfl
 have D_law_end:DefAt K mg "_law_end" kA ["_law_deck_here","_law_many"]:=a_law_end.at X G fun _ _ _ _ _ _ us hl=>match us,hl with | [_,_],_=>rfl
 have D_law_deed:DefAt K mg "_law_deed" iJ ["_law_deck_here","_law_names","_law_houses"]:=a_law_deed.at X G fun _ _ _ _ _ _ us hl=>match us,hl with | [_,_,_],_=>rfl
 have D_law_words:DefAt K mg "_law_words" fF ["_law_deed_here","_law_asked"]:=a_law_words.at X G fun _ _ _ _ _ _ us hl=>match us,hl with | [_,_],_=>rfl
 have D_law_answer:DefAt K mg "_law_answer" fM ["_law_deck_here","_law_deed_here","_law_word"]:=a_law_answer.at X G fun _ _ _ _ _ _ us hl=>match us,hl with | [_,_,_],_=>rfl
 have D_law_menus:DefAt K mg "_law_menus" gD ["_law_deck_here"]:=a_law_menus.at X G fun _ _ _ _ _ _ us hl=>match us,hl with | [_],_=>rfl
 have D_law_spot:DefAt K mg "_law_spot" iK ["_law_deck_here","_law_menus_here"]:=a_law_spot.at X G fun _ _ _ _ _ _ us hl=>match us,hl with | [_,_],_=>rfl
 have D_law_kept:DefAt K mg "_law_kept" iM ["_law_deck_here","_law_menus_here","_law_number","_law_turn"]:=a_law_kept.at X G fun _ _ _ _ _ _ us hl=>match us,hl with | [_,_,_,_],_=>rfl
 have D_law_head:DefAt K mg "_law_head" iN ["_law_deck_here","_law_menus_here"]:=a_law_head.at X G fun _ _ _ _ _ _ us hl=>match us,hl with | [_,_],_=>rfl
 have D_law_early:DefAt K mg "_law_early" gE ["_law_book","_law_deed_here"]:=a_law_early.at X G fun _ _ _ _ _ _ us hl=>match us,hl with | [_,_],_=>rfl
 have D_law_lates:DefAt K mg "_law_lates" gF ["_law_book","_law_deed_here"]:=a_law_lates.at X G fun _ _ _ _ _ _ us hl=>match us,hl with | [_,_],_=>rfl
 have D_law_changes:DefAt K mg "_law_changes" eT ["_law_deed_here","_law_answer_here"]:=a_law_changes.at X G fun _ _ _ _ _ _ us hl=>match us,hl with | [_,_],_=>rfl
 have D_law_changed:DefAt K mg "_law_changed" eU ["_law_book","_law_deed_here","_law_answer_here"]:=a_law_changed.at X G fun _ _ _ _ _ _ us hl=>match us,hl with | [_,_,_],_=>rfl
 have D_law_sized:DefAt K mg "_law_sized" gG ["_law_deck_here","_law_book","_law_deed_here"]:=a_law_sized.at X G fun _ _ _ _ _ _ us hl=>match us,hl with | [_,_,_],_=>rfl
 have D_law_right:DefAt K mg "_law_right" gH ["_law_deck_here","_law_book","_law_one"]:=a_law_right.at X G fun _ _ _ _ _ _ us hl=>match us,hl with | [_,_,_],_=>rfl
 have D_law_lived:DefAt K mg "_law_lived" bI ["_law_deck_here","_law_rows","_law_menus_here","_law_many"]:=a_law_lived.at X G fun _ _ _ _ _ _ us hl=>match us,hl with | [_,_,_,_],_=>rfl
 have D_law_some_head:DefAt K mg "_law_some_head" dN ["_law_deck_here","_law_menus_here"]:=a_law_some_head.at X G fun _ _ _ _ _ _ us hl=>match us,hl with | [_,_],_=>rfl
 have D_law_near:DefAt K mg "_law_near" iO ["_law_deck_here","_law_deed_here","_law_answer_here"]:=a_law_near.at X G fun _ _ _ _ _ _ us hl=>match us,hl with | [_,_,_],_=>rfl
 have D_law_other_answers:DefAt K mg "_law_other_answers" bL ["_law_deck_here","_law_rows"]:=a_law_other_answers.at X G fun _ _ _ _ _ _ us hl=>match us,hl with | [_,_],_=>rfl
 have D_law_asked_anyhow:DefAt K mg "_law_asked_anyhow" aX ["_law_deck_here","_law_rows","_law_menus_here"]:=a_law_asked_anyhow.at X G fun _ _ _ _ _ _ us hl=>match us,hl with | [_,_,_],_=>rfl
 have D_law_due:DefAt K mg "_law_due" fQ ["_law_rows"]:=a_law_due.at X G fun _ _ _ _ _ _ us hl=>match us,hl with | [_],_=>rfl
 have D_law_told:DefAt K mg "_law_told" iP ["_law_rows"]:=a_law_told.at X G fun _ _ _ _ _ _ us hl=>match us,hl with | [_],_=>rfl
 have cl_Walk:Cls K C_Walk:=⟨pg_Walk,hd_Walk,po_Walk,sa_Walk⟩
 have M_Walk_fits:MethAt K C_Walk "fits" "Walk.fits" gA ["self","row"]:=a_Walk_fits.at cl_Walk fun _ _ _ _ _ _ us hl=>match us,hl with | [_,_],_=>rfl
 have M_Walk_rises:MethAt K C_Walk "rises" "Walk.rises" fK ["self","row"]:=a_Walk_rises.at cl_Walk fun _ _ _ _ _ _ us hl=>match us,hl with | [_,_],_=>rfl
 have M_Walk_fits_kept:MethAt K C_Walk "fits_kept" "Walk.fits_kept" cZ ["self","row"]:=a_Walk_fits_kept.at cl_Walk fun _ _ _ _ _ _ us hl=>match us,hl with | [_,_],_=>rfl
 have M_Walk_fits_answer:MethAt K C_Walk "fits_answer" "Walk.fits_answer" cM ["self","row"]:=a_Walk_fits_answer.at cl_Walk fun _ _ _ _ _ _ us hl=>match us,hl with | [_,_],_=>rfl
 have M_Walk_step:MethAt K C_Walk "step" "Walk.step" gB ["self","row"]:=a_Walk_step.at cl_Walk fun _ _ _ _ _ _ us hl=>match us,hl with | [_,_],_=>rfl
 have I_Walk:ClsAt K mg "Walk" C_Walk "Walk.__init__" bZ ["self"] [[]]:=⟨f_Walk___init__,_,_,W.mg_of X G aC_Walk,⟨_,_,_,_,_,_,_,_,_,rfl,l_Walk___init__,c_Walk___init__⟩,⟨mk_Walk,a_Walk___init__,i_Walk___init__,kc_Walk⟩,by
  intro d hd;obtain rfl:=Zms.mp hd
  exact⟨[],fun s us KI hl=>match us,(show us.length=1 by simpa using hl) with | [_],_=>BindsTo.of_eq rfl,.nil⟩⟩
 have cl_Book:Cls K C_Book:=⟨pg_Book,hd_Book,po_Book,sa_Book⟩
 have M_Book_amount:MethAt K C_Book "amount" "Book.amount" eQ ["self","name"]:=a_Book_amount.at cl_Book fun _ _ _ _ _ _ us hl=>match us,hl with | [_,_],_=>rfl
 have M_Book_rows:MethAt K C_Book "rows" "Book.rows" jP ["self"]:=a_Book_rows.at cl_Book fun _ _ _ _ _ _ us hl=>match us,hl with | [_],_=>rfl
 have M_Book_change:MethAt K C_Book "change" "Book.change" eR ["self","changes"]:=a_Book_change.at cl_Book fun _ _ _ _ _ _ us hl=>match us,hl with | [_,_],_=>rfl
 subst vT_Book;have I_Book:ClsAt K mg "Book" C_Book "Book.__init__" bY ["self","rows"] [[],[.non]]:=⟨f_Book___init__,_,_,W.mg_of X G aC_Book,⟨_,_,_,_,_,_,_,_,_,rfl,l_Book___init__,c_Book___init__⟩,⟨mk_Book,a_Book___init__,i_Book___init__,kc_Book⟩,by
  intro d hd;rcases List.mem_cons.mp hd with rfl | hd
  ·exact⟨[],fun s us KI hl=>match us,(show us.length=2 by simpa using hl) with | [_,_],_=>BindsTo.of_defaults (T:=T_Book) rfl (KI _ _ lT_Book) rfl rfl rfl,.nil⟩
  obtain rfl:=Zms.mp hd
  ·exact⟨[.none],fun s us KI hl=>match us,(show us.length=1 by simpa using hl) with | [_],_=>BindsTo.of_defaults (T:=T_Book) rfl (KI _ _ lT_Book) rfl rfl rfl,(.cons rfl .nil)⟩⟩
 refine⟨W.fnOf "law" "law" (cA lF) (bD lF) (aB lF) .none kV_law dc_law pm_law an_law cd_law ct_law,fun s v=>.of_eq rfl,fun base _ _=>?_⟩
 have F_law:=oU (st:=lF) l_law c_law k_law
 have BT:To K C_Book:=⟨cl_Book,n_Book_amounts⟩
 have cd:=Nc (P:=l.prog) (w:=w) (base:=base) T D_law_deck
 have cr:=Hv (P:=l.prog) (w:=w) (base:=base) D_law_draw
 have ce:=Ub T cr D_law_end
 have cu:=Cv T cr D_law_unlike
 have cde:=Nh T cr ce D_law_deed
 have cw:=Hz (P:=l.prog) (w:=w) (base:=base) T D_law_words
 have ca:=Cw T cr ce D_law_answer
 have csp:=Ni T cr D_law_spot
 have ck:=Nj T cr cde cw ca csp D_law_kept
 have ch:=Nk T cr ce ck D_law_head
 have cm:=Ia T cr cu D_law_menus
 have cea:=Ib (P:=l.prog) (w:=w) (base:=base) T D_law_early
 have cla:=Ic (P:=l.prog) (w:=w) (base:=base) T D_law_lates
 have cch:=wD (P:=l.prog) (w:=w) (base:=base) T D_law_changes
 have cc:=yE T cch D_law_changed
 have csz:=Ig T cr D_law_sized
 have cri:=Ih T cr cea cla D_law_right
 have cli:=Il T cr cde csp csz cri cc D_law_lived
 have csh:=uK T cr ch D_law_some_head
 have cbn:=qX (P:=l.prog) (w:=w) (base:=base) D_by_numbers
 have ci:=Ir (P:=l.prog) (w:=w) (base:=base) T BT I_Book
 have cam:=uL (P:=l.prog) (w:=w) (mg:=mg) (base:=base) BT M_Book_amount
 have cgn:=yJ T BT cam M_Book_change
 have cdc:=nV (P:=l.prog) (w:=w) (base:=base) T D_done_changes
 have cco:=qY T cdc D_changes_of
 have cfb:=qZ T (ci _ Zs) D_first_book
 have WT:Ul K C_Walk:=⟨cl_Walk,n_Walk_last_rows,n_Walk_last_rank,n_Walk_last_turn,n_Walk_kept_numbers,n_Walk_came_deeds,n_Walk_asked_numbers,n_Walk_done_numbers⟩
 have c3:=Mz (P:=l.prog) (w:=w) (base:=base) T D_is_made_of
 have c4:=yA T c3 D_is_name
 have c5:=Ht (P:=l.prog) (w:=w) (base:=base) T D_is_whole
 have cas:=Na (P:=l.prog) (w:=w) (base:=base) T D_asks_of
 have cwo:=yB (P:=l.prog) (w:=w) (base:=base) T D_word_of
 have cno:=Hu T c4 D_is_no
 have cb:=Cs (P:=l.prog) (w:=w) (base:=base) T D_bounds_of
 have cwi:=Ct T c5 D_are_within
 have cia:=uE T cwo cno cas cb cwi D_is_answer
 have cwr:=Dn (P:=l.prog) (w:=w) (mg:=mg) (base:=base) WT M_Walk_rises
 have cwk:=Jb WT cwr M_Walk_fits_kept
 have cwa:=Oa T U WT cia cas M_Walk_fits_answer
 have cwf:=Je T U WT cwr cwk cwa cas M_Walk_fits
 have cws:=Jh (P:=l.prog) (base:=base) T U WT M_Walk_step
 have cwn:=Ji (P:=l.prog) (w:=w) (base:=base) WT I_Walk
 have cfo:=uO T (cwn _ Zs) cwf cws D_first_odd
 have ccx:=yL (P:=l.prog) (w:=w) (base:=base) T D_done_changes
 have cda:=qH T BT ccx cam D_done_answer
 have ceb:=Dp T BT ccx cas cam cda D_early
 have clt:=Oh T BT cas cda D_late
 have cra:=nB T ceb clt cas D_right_answers
 have cfw:=qK T cfo cbn cfb cra cco cgn D_first_wrong
 have cne:=Ol T cr D_law_near
 have coa:=nE T cr cw ca cne D_law_other_answers
 have caa:=nX T cr cc cw ca csp D_law_asked_anyhow
 have cdu:=Js T cea cla cc D_law_due
 have cto:=Dt T cfw D_law_told
 exact Ur T cd cm cr csh cli caa coa cdu cto cfw F_law
theorem aAd {l:W.OpenLaw} {q:Program} {loose:List Str} {XP:(Str->Option Value)->Heap->Prop} {YP:World->Heap->Prop} {d:DefRec} {K:Params->W.Frag} (hn:l.most=some 63) (hdf:d.params.defaults=[])
  (hY:∀(w:World) (h:Heap),YP w h->(K w.params).In h)
  (F:∀(w:World) (mg:Str->Option Value) (fa:Addr) (h:Heap),(K w.params).In h->h.Ns mainGlobals mg->mg d.name=some (.ref fa) →
   ∃fd:FuncData,(∀(s:Shared) (u:Value),BindsTo s fd ⟨[u],[]⟩ [("_law_script",u)])/\∀base:Heap,(K w.params).In base->base.Ns mainGlobals mg->jG l.prog w (K w.params) mg base rK 10 fa fd ["_law_script"] (Bd (K w.params))) :
  W.WalkO q loose XP YP l.row.toRowW d [] (fun f vs=>PySem.call f vs):=
 L2.zD (n:=63) (k:=10) (x:="_law_script") (CX:=fun _=>rK) (sp:=fun w=>Bd (K w.params)) hn Zd hdf ⟨rfl,Zd,Zd⟩ hY F (fun _ _ a ns hl _ hS=>⟨a,ns,rfl,hS,hl,fun _=>rfl⟩) fun _ _ _ _ _ z=>z
end KL
namespace PySem.W.Fast
def tw2766889035205335337:=0
def tw11070179515784123341:=0
def tw16168056035118701906:=0
def tw9102884441356612751:=0
def tw10273688366132424025:=0
def tw7294460124808112044:=0
def tw2934897697535085099:=0
def tw12493284319617861336:=0
def tw9885380713026515519:=0
def tw3067028710324612873:=0
def tw1738460151988052232:=0
def tw4414540009587691597:=0
def tw13135069833328784990:=0
def tw15010903674405055902:=0
def tw16029644653363465735:=0
def tw2525125403043644018:=0
def tw4154543922707814595:=0
def tw4824469269846338485:=0
def tw13694802115924863766:=0
def tw1575278981482419335:=0
def tw9929563623056083368:=0
def tw12158742962631203454:=0
def tw15533370111817545133:=0
def tw3253797735286796792:=0
def tw7938329669240965677:=0
def tw13137955549111867280:=0
def tw9056482505119289301:=0
def tw14652349688876186734:=0
def tw11645188591881933983:=0
def tw550923391162662160:=0
def tw12567859993543994528:=0
def tw6066207775171182785:=0
def tw10545624186526811576:=0
def tw4621553524569714825:=0
def tw16418347300486179239:=0
def tw1119216931715231162:=0
def tw6781349067129395362:=0
def tw1442171593413305273:=0
def tw6557763101909893868:=0
def tw7559356516925861214:=0
def tw5047132194648883315:=0
def tw7955255679790369509:=0
def tw97303513768694736:=0
def tw3120772772634555261:=0
def tw5227742562473657137:=0
def tw15210518186929760815:=0
def tw14439178878201733296:=0
def tw3024041614680335179:=0
def tw7915390064690007332:=0
def tw12482292962272040971:=0
def tw5089698712004210067:=0
def tw11196185330185525686:=0
def tw4587039827637007025:=0
def tw16995850342301246:=0
def tw3319734711158188204:=0
def tw4442241032376105601:=0
def tw909288873906478135:=0
def tw3788327599805728801:=0
def tw11113532036093884620:=0
def tw3684132406592906816:=0
def tw11836175254820607662:=0
def tw15349112519213593825:=0
def tw18326569732887737964:=0
def tw890990830614732699:=0
def tw5204376061067282949:=0
def tw10408259242490327021:=0
def tw8197709157457918084:=0
def tw10620837178179748935:=0
def tw8725788338901628309:=0
def tw9907523443754098856:=0
def tw10400314514820855855:=0
def tw5799474940239394328:=0
def tw2223200418985192565:=0
def tw7671322316513450098:=0
def tw11623241837455841445:=0
def tw4379615325963982861:=0
def tw16030447390916114052:=0
def tw14977146367677166420:=0
def tw2590702267594426681:=0
def tw18277937715475374618:=0
def tw377392140685910822:=0
def tw15281015035024668070:=0
def tw7936354941317621549:=0
def tw15737639071460447407:=0
def tw5427783630523661013:=0
def tw17253726242178296256:=0
def tw8535971884163559378:=0
def tw8837031264917941088:=0
def tw7868168246484503245:=0
def tw11936401476920222368:=0
def tw5006815789751657103:=0
def tw15472116492290041379:=0
def tw13216070697738221378:=0
def tw15097163954858767683:=0
def tw2564662005761852333:=0
def tw410959395261727901:=0
def tw9669641301139748625:=0
def tw18101117900335490104:=0
def tw6514885467778338455:=0
def tw5960142291074177233:=0
def tw8138196499206023729:=0
def tw11237616136150486782:=0
def tw10402254235413693372:=0
def tw10285105820198368682:=0
def tw17679881643425138392:=0
def tw7421055598046011596:=0
def tw71409743403913971:=0
def tw6952089069109439014:=0
def tw14151676324201540563:=0
def tw3739530996069565272:=0
def tw12934166511889439664:=0
def tw7007235071314734600:=0
def tw5286530128885687303:=0
def tw17783684727998855633:=0
def tw7021255886624092254:=0
def tw17263890871152457292:=0
def tw1641710119685881439:=0
def tw10047260167767282609:=0
def tw3560377119739938392:=0
def tw11843633663604384305:=0
def tw16038791593799914529:=0
def tw16339663193428067942:=0
def tw3831890079114532776:=0
def tw17195371609669689783:=0
def tw14188961143537770224:=0
def tw6819743920271709670:=0
def tw10346455583444081918:=0
end PySem.W.Fast
open PySem PySem.W PyProof.Rows
set_option maxRecDepth 100000 in
set_option maxHeartbeats 0 in
theorem PySem.Challenge.cw_oncedoor_k70_wrong_answers_told_holds : PySem.Challenge.rw_oncedoor_k70_wrong_answers_told.Holds := by
 w_on;o_law;k_head;(case hw=>w_witness2)
 k_fill
 refine KL.aAd (l:=PySem.Challenge.rw_oncedoor_k70_wrong_answers_told) rfl rfl (fun w h Y=>W.kIn_of Y) ?F
 case F=>
  intro w mg fa h KX G hmg;refine' KL.Us KX G hmg ?a_is_name ?a_is_whole ?a_is_made_of ?a_asks_of ?a_done_changes ?a_early ?a_late ?a_done_answer ?a_changes_of ?a_is_answer ?a_word_of ?a_is_no ?a_bounds_of ?a_are_within ?a_first_odd ?a_by_numbers ?a_first_book ?a_first_wrong ?a_right_answers ?a_law_deck ?a_law_draw ?a_law_unlike ?a_law_end ?a_law_deed ?a_law_words ?a_law_answer ?a_law_menus ?a_law_spot ?a_law_kept ?a_law_head ?a_law_early ?a_law_lates ?a_law_changes ?a_law_changed ?a_law_sized ?a_law_right ?a_law_lived ?a_law_some_head ?a_law_near ?a_law_other_answers ?a_law_asked_anyhow ?a_law_due ?a_law_told ?a_law ?l_law ?c_law ?k_law ?aC_Walk ?pg_Walk ?hd_Walk ?po_Walk ?sa_Walk ?mk_Walk ?kc_Walk ?n_Walk_last_rows ?n_Walk_last_rank ?n_Walk_last_turn ?n_Walk_kept_numbers ?n_Walk_came_deeds ?n_Walk_asked_numbers ?n_Walk_done_numbers ?a_Walk___init__ ?i_Walk___init__ ?l_Walk___init__ ?c_Walk___init__ ?k_Walk___init__ ?a_Walk_fits ?a_Walk_rises ?a_Walk_fits_kept ?a_Walk_fits_answer ?a_Walk_step ?aC_Book ?pg_Book ?hd_Book ?po_Book ?sa_Book ?mk_Book ?kc_Book ?n_Book_amounts ?a_Book___init__ ?i_Book___init__ ?l_Book___init__ ?c_Book___init__ ?k_Book___init__ ?a_Book_amount ?a_Book_rows ?a_Book_change ?lT_Book ?vT_Book ?z_isinstance ?z_int ?z_bool ?z_str ?z_len ?z_all ?z_tuple ?z_zip ?z_enumerate ?z_sum ?z_list ?z_range ?z_sorted ?z_max ?z_dict ?z_min ?y_LETTERS ?y_LONGEST_NAME ?y_MOST ?y_RANKS ?l_RANKS ?t_RANKS ?o_RANKS ?y_UNASKED_WORDS ?l_UNASKED_WORDS ?v_UNASKED_WORDS
  (case a_is_name=>refine' KL.FA.of ?a ?l ?c ?k;(case a=>k_is);(case l=>k_is);(case c=>k_is);case k=>k_is)
  (case a_is_whole=>refine' KL.FA.of ?a ?l ?c ?k;(case a=>k_is);(case l=>k_is);(case c=>k_is);case k=>k_is)
  (case a_is_made_of=>refine' KL.FA.of ?a ?l ?c ?k;(case a=>k_is);(case l=>k_is);(case c=>k_is);case k=>k_is)
  (case a_asks_of=>refine' KL.FA.of ?a ?l ?c ?k;(case a=>k_is);(case l=>k_is);(case c=>k_is);case k=>k_is)
  (case a_done_changes=>refine' KL.FA.of ?a ?l ?c ?k;(case a=>k_is);(case l=>k_is);(case c=>k_is);case k=>k_is)
  (case a_early=>refine' KL.FA.of ?a ?l ?c ?k;(case a=>k_is);(case l=>k_is);(case c=>k_is);case k=>k_is)
  (case a_late=>refine' KL.FA.of ?a ?l ?c ?k;(case a=>k_is);(case l=>k_is);(case c=>k_is);case k=>k_is)
  (case a_done_answer=>refine' KL.FA.of ?a ?l ?c ?k;(case a=>k_is);(case l=>k_is);(case c=>k_is);case k=>k_is)
  (case a_changes_of=>refine' KL.FA.of ?a ?l ?c ?k;(case a=>k_is);(case l=>k_is);(case c=>k_is);case k=>k_is)
  (case a_is_answer=>refine' KL.FA.of ?a ?l ?c ?k;(case a=>k_is);(case l=>k_is);(case c=>k_is);case k=>k_is)
  (case a_word_of=>refine' KL.FA.of ?a ?l ?c ?k;(case a=>k_is);(case l=>k_is);(case c=>k_is);case k=>k_is)
  (case a_is_no=>refine' KL.FA.of ?a ?l ?c ?k;(case a=>k_is);(case l=>k_is);(case c=>k_is);case k=>k_is)
  (case a_bounds_of=>refine' KL.FA.of ?a ?l ?c ?k;(case a=>k_is);(case l=>k_is);(case c=>k_is);case k=>k_is)
  (case a_are_within=>refine' KL.FA.of ?a ?l ?c ?k;(case a=>k_is);(case l=>k_is);(case c=>k_is);case k=>k_is)
  (case a_first_odd=>refine' KL.FA.of ?a ?l ?c ?k;(case a=>k_is);(case l=>k_is);(case c=>k_is);case k=>k_is)
  (case a_by_numbers=>refine' KL.FA.of ?a ?l ?c ?k;(case a=>k_is);(case l=>k_is);(case c=>k_is);case k=>k_is)
  (case a_first_book=>refine' KL.FA.of ?a ?l ?c ?k;(case a=>k_is);(case l=>k_is);(case c=>k_is);case k=>k_is)
  (case a_first_wrong=>refine' KL.FA.of ?a ?l ?c ?k;(case a=>k_is);(case l=>k_is);(case c=>k_is);case k=>k_is)
  (case a_right_answers=>refine' KL.FA.of ?a ?l ?c ?k;(case a=>k_is);(case l=>k_is);(case c=>k_is);case k=>k_is)
  (case a_law_deck=>refine' KL.FA.of ?a ?l ?c ?k;(case a=>k_is);(case l=>k_is);(case c=>k_is);case k=>k_is)
  (case a_law_draw=>refine' KL.FA.of ?a ?l ?c ?k;(case a=>k_is);(case l=>k_is);(case c=>k_is);case k=>k_is)
  (case a_law_unlike=>refine' KL.FA.of ?a ?l ?c ?k;(case a=>k_is);(case l=>k_is);(case c=>k_is);case k=>k_is)
  (case a_law_end=>refine' KL.FA.of ?a ?l ?c ?k;(case a=>k_is);(case l=>k_is);(case c=>k_is);case k=>k_is)
  (case a_law_deed=>refine' KL.FA.of ?a ?l ?c ?k;(case a=>k_is);(case l=>k_is);(case c=>k_is);case k=>k_is)
  (case a_law_words=>refine' KL.FA.of ?a ?l ?c ?k;(case a=>k_is);(case l=>k_is);(case c=>k_is);case k=>k_is)
  (case a_law_answer=>refine' KL.FA.of ?a ?l ?c ?k;(case a=>k_is);(case l=>k_is);(case c=>k_is);case k=>k_is)
  (case a_law_menus=>refine' KL.FA.of ?a ?l ?c ?k;(case a=>k_is);(case l=>k_is);(case c=>k_is);case k=>k_is)
  (case a_law_spot=>refine' KL.FA.of ?a ?l ?c ?k;(case a=>k_is);(case l=>k_is);(case c=>k_is);case k=>k_is)
  (case a_law_kept=>refine' KL.FA.of ?a ?l ?c ?k;(case a=>k_is);(case l=>k_is);(case c=>k_is);case k=>k_is)
  (case a_law_head=>refine' KL.FA.of ?a ?l ?c ?k;(case a=>k_is);(case l=>k_is);(case c=>k_is);case k=>k_is)
  (case a_law_early=>refine' KL.FA.of ?a ?l ?c ?k;(case a=>k_is);(case l=>k_is);(case c=>k_is);case k=>k_is)
  (case a_law_lates=>refine' KL.FA.of ?a ?l ?c ?k;(case a=>k_is);(case l=>k_is);(case c=>k_is);case k=>k_is)
  (case a_law_changes=>refine' KL.FA.of ?a ?l ?c ?k;(case a=>k_is);(case l=>k_is);(case c=>k_is);case k=>k_is)
  (case a_law_changed=>refine' KL.FA.of ?a ?l ?c ?k;(case a=>k_is);(case l=>k_is);(case c=>k_is);case k=>k_is)
  (case a_law_sized=>refine' KL.FA.of ?a ?l ?c ?k;(case a=>k_is);(case l=>k_is);(case c=>k_is);case k=>k_is)
  (case a_law_right=>refine' KL.FA.of ?a ?l ?c ?k;(case a=>k_is);(case l=>k_is);(case c=>k_is);case k=>k_is)
  (case a_law_lived=>refine' KL.FA.of ?a ?l ?c ?k;(case a=>k_is);(case l=>k_is);(case c=>k_is);case k=>k_is)
  (case a_law_some_head=>refine' KL.FA.of ?a ?l ?c ?k;(case a=>k_is);(case l=>k_is);(case c=>k_is);case k=>k_is)
  (case a_law_near=>refine' KL.FA.of ?a ?l ?c ?k;(case a=>k_is);(case l=>k_is);(case c=>k_is);case k=>k_is)
  (case a_law_other_answers=>refine' KL.FA.of ?a ?l ?c ?k;(case a=>k_is);(case l=>k_is);(case c=>k_is);case k=>k_is)
  (case a_law_asked_anyhow=>refine' KL.FA.of ?a ?l ?c ?k;(case a=>k_is);(case l=>k_is);(case c=>k_is);case k=>k_is)
  (case a_law_due=>refine' KL.FA.of ?a ?l ?c ?k;(case a=>k_is);(case l=>k_is);(case c=>k_is);case k=>k_is)
  (case a_law_told=>refine' KL.FA.of ?a ?l ?c ?k;(case a=>k_is);(case l=>k_is);(case c=>k_is);case k=>k_is)
  (case a_law=>k_is)
  (case l_law=>k_is)
  (case c_law=>k_is)
  (case k_law=>k_is)
  (case aC_Walk=>k_is)
  (case pg_Walk=>k_is)
  (case hd_Walk=>k_is)
  (case po_Walk=>k_is)
  (case sa_Walk=>k_is)
  (case mk_Walk=>k_is)
  (case kc_Walk=>k_is)
  (case n_Walk_last_rows=>k_is)
  (case n_Walk_last_rank=>k_is)
  (case n_Walk_last_turn=>k_is)
  (case n_Walk_kept_numbers=>k_is)
  (case n_Walk_came_deeds=>k_is)
  (case n_Walk_asked_numbers=>k_is)
  (case n_Walk_done_numbers=>k_is)
  (case a_Walk___init__=>k_is)
  (case i_Walk___init__=>k_is)
  (case l_Walk___init__=>k_is)
  (case c_Walk___init__=>k_is)
  (case k_Walk___init__=>k_is)
  (case a_Walk_fits=>refine' KL.MA.of ?a ?i ?l ?c ?k;(case a=>k_is);(case i=>k_is);(case l=>k_is);(case c=>k_is);case k=>k_is)
  (case a_Walk_rises=>refine' KL.MA.of ?a ?i ?l ?c ?k;(case a=>k_is);(case i=>k_is);(case l=>k_is);(case c=>k_is);case k=>k_is)
  (case a_Walk_fits_kept=>refine' KL.MA.of ?a ?i ?l ?c ?k;(case a=>k_is);(case i=>k_is);(case l=>k_is);(case c=>k_is);case k=>k_is)
  (case a_Walk_fits_answer=>refine' KL.MA.of ?a ?i ?l ?c ?k;(case a=>k_is);(case i=>k_is);(case l=>k_is);(case c=>k_is);case k=>k_is)
  (case a_Walk_step=>refine' KL.MA.of ?a ?i ?l ?c ?k;(case a=>k_is);(case i=>k_is);(case l=>k_is);(case c=>k_is);case k=>k_is)
  (case aC_Book=>k_is)
  (case pg_Book=>k_is)
  (case hd_Book=>k_is)
  (case po_Book=>k_is)
  (case sa_Book=>k_is)
  (case mk_Book=>k_is)
  (case kc_Book=>k_is)
  (case n_Book_amounts=>k_is)
  (case a_Book___init__=>k_is)
  (case i_Book___init__=>k_is)
  (case l_Book___init__=>k_is)
  (case c_Book___init__=>k_is)
  (case k_Book___init__=>k_is)
  (case a_Book_amount=>refine' KL.MA.of ?a ?i ?l ?c ?k;(case a=>k_is);(case i=>k_is);(case l=>k_is);(case c=>k_is);case k=>k_is)
  (case a_Book_rows=>refine' KL.MA.of ?a ?i ?l ?c ?k;(case a=>k_is);(case i=>k_is);(case l=>k_is);(case c=>k_is);case k=>k_is)
  (case a_Book_change=>refine' KL.MA.of ?a ?i ?l ?c ?k;(case a=>k_is);(case i=>k_is);(case l=>k_is);(case c=>k_is);case k=>k_is)
  (case lT_Book=>k_is)
  (case vT_Book=>exact rfl)
  (case z_isinstance=>k_is)
  (case z_int=>k_is)
  (case z_bool=>k_is)
  (case z_str=>k_is)
  (case z_len=>k_is)
  (case z_all=>k_is)
  (case z_tuple=>k_is)
  (case z_zip=>k_is)
  (case z_enumerate=>k_is)
  (case z_sum=>k_is)
  (case z_list=>k_is)
  (case z_range=>k_is)
  (case z_sorted=>k_is)
  (case z_max=>k_is)
  (case z_dict=>k_is)
  (case z_min=>k_is)
  (case y_LETTERS=>k_is)
  (case y_LONGEST_NAME=>k_is)
  (case y_MOST=>k_is)
  (case y_RANKS=>k_is)
  (case l_RANKS=>k_is)
  (case t_RANKS=>repeat (first | exact True.intro | refine And.intro ⟨_,rfl⟩ (And.intro rfl (And.intro ⟨_,rfl⟩ ?_))))
  (case o_RANKS=>decide)
  (case y_UNASKED_WORDS=>k_is)
  (case l_UNASKED_WORDS=>k_is)
  (case v_UNASKED_WORDS=>repeat (first | exact .nil | refine .cons ⟨_,rfl⟩ ?_))
