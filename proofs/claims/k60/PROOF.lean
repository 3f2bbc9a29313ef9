import PyProof.Rows.All
import Wide.All
import OpenK.AllK
import Wide.FinOn
import Lean
import PyProof.EqAt
import PyProof.EqKinds
import PyProof.TupleCall
import KE.KSortTup
import KE.KDictSum
import KE.KDictOf
import PyProof.AttrMissHeap
import OpenK.KRaise
import KE.KIsAll
import KE.KTryMore
import KE.RegKIsAll
import KE.RegKTryMore
import PyProof.NsDelKeeps
import PyProof.ExcArgs
import PyProof.FitsReplace
import PyProof.Rows.StrJoin2
import PySem.Challenge.RW_oncedoor_k60_begun_busy_other_kept
set_option Elab.async false
set_option linter.all false
set_option maxRecDepth 100000
set_option maxHeartbeats 4000000
theorem Zk {p:Prop} (h:p:=by decide +kernel):p:=h
theorem Zo {p:Prop} (h:p:=by omega):p:=h
theorem Zs {p:Prop} (h:p:=by simp):p:=h
theorem Zd {p:Prop} (h:p:=by decide):p:=h
def dN:=@List.length_map
def iH:=@PySem.Heap.get?_push_of_some
def Zgs:=@List.getElem?_eq_some_iff
def mQ:=@List.getElem?_eq_getElem
def oX:=@List.mem_cons_of_mem
def Zmm:=@List.mem_map
def jV:=@List.map_append
def zO:=@List.length_append
def iU:=@List.getElem?_map
def Rx:=@Int.eq_ofNat_of_zero_le
def iE:=@Nat.le_trans
def nC:=@List.mem_cons_self
def eC:=@List.size_toArray
def qR:=@List.length_take
def Ib:=@List.take_of_length_le
def Zma:=@List.mem_append
def Zms:=@List.mem_singleton
def Cf:=@List.length_cons
def zP:=@Nat.lt_of_le_of_lt
def cB:=@Nat.le_refl
def jW:=@List.mem_of_getElem?
namespace L2
open PySem PySem.Spec PyProof.Rows
abbrev bE:=Sum Int Str
def jX:bE->Value->Bool
 | .inl k,v=>Value.isInt k v
 | .inr x,v=>Value.isStrOf x v
def Vh (w:World):bE->Int
 | .inl k=>hashInt k
 | .inr x=>hashStr w x
theorem bB:∀ {k:bE} {v:Value},jX k v=true->(∃i t,k=Sum.inl i/\v=Value.int i t)∨(∃x t,k=Sum.inr x/\v=Value.str x t)
 | .inl i,v,h=>by
  obtain⟨t,e⟩:=Value.isInt_shape (k:=i) (v:=v) h
  exact .inl ⟨i,t,rfl,e⟩
 | .inr x,v,h=>by
  obtain⟨t,e⟩:=Value.isStrOf_shape (x:=x) (v:=v) h
  exact .inr ⟨x,t,rfl,e⟩
theorem zQ (i:Int) (t:Tok):jX (.inl i) (.int i t)=true:=by simp [jX,Value.isInt]
theorem zR (x:Str) (t:Tok):jX (.inr x) (.str x t)=true:=by simp [jX,Value.isStrOf]
theorem Ng (a b:Int):decide ((Sum.inl a:bE)=Sum.inl b)=(a == b):=by
 by_cases e:a=b
 ·subst e;simp
 ·have h:¬ (Sum.inl a:bE)=Sum.inl b:=fun q=>e (Sum.inl.inj q)
  rw[decide_eq_false h];exact(beq_eq_false_iff_ne.mpr e).symm
theorem Nh (a b:Str):decide ((Sum.inr a:bE)=Sum.inr b)=decide (a=b):=by
 by_cases e:a=b
 ·subst e;simp
 ·have h:¬ (Sum.inr a:bE)=Sum.inr b:=fun q=>e (Sum.inr.inj q)
  rw[decide_eq_false h,decide_eq_false e]
theorem Ni (a:Int) (b:Str):decide ((Sum.inl a:bE)=Sum.inr b)=false:=decide_eq_false (fun q=>nomatch q)
theorem Nj (a:Str) (b:Int):decide ((Sum.inr a:bE)=Sum.inl b)=false:=decide_eq_false (fun q=>nomatch q)
def aQ (prog:Program) (w:World):PySem.KeyKind prog w bE where
 is:=jX
 hash:=Vh w
 inj:=fun v a b ha hb=>by
  rcases bB ha with⟨i,t,rfl,rfl⟩ | ⟨x,t,rfl,rfl⟩
  ·rcases bB hb with⟨j,u,rfl,e⟩ | ⟨y,u,rfl,e⟩
   ·injection e with e1 _;rw[e1]
   ·exact nomatch e
  ·rcases bB hb with⟨j,u,rfl,e⟩ | ⟨y,u,rfl,e⟩
   ·exact nomatch e
   ·injection e with e1 _;rw[e1]
 byValue:=fun k v h=>by
  rcases bB h with⟨i,t,rfl,rfl⟩ | ⟨x,t,rfl,rfl⟩ <;> rfl
 pyHash:=fun hv h=>by
  rcases bB hv with⟨i,t,rfl,rfl⟩ | ⟨x,t,rfl,rfl⟩
  ·exact wpAny_pyHash_int h
  ·exact wpAny_pyHash_str h
 eqBool:=fun hu hv h=>by
  rcases bB hu with⟨i,t,rfl,rfl⟩ | ⟨x,t,rfl,rfl⟩
  ·rcases bB hv with⟨j,u,rfl,rfl⟩ | ⟨y,u,rfl,rfl⟩
   ·rw[Ng]at h;exact wpAny_eqBool_int h
   ·rw[Ni]at h;exact SeqAt.EqAt.int_str i t y u _ _ _ _ h
  ·rcases bB hv with⟨j,u,rfl,rfl⟩ | ⟨y,u,rfl,rfl⟩
   ·rw[Nj]at h;exact SeqAt.EqAt.str_int x t j u _ _ _ _ h
   ·rw[Nh]at h;exact wpAny_eqBool_str h
 «strs»:=fun k x t v h=>by
  rcases bB h with⟨i,u,rfl,e⟩ | ⟨y,u,rfl,e⟩
  ·exact nomatch e
  ·injection e with e1 _
   subst e1;cases v <;> rfl
theorem sX (prog:Program) (w:World) (i:Int) (t:Tok):(aQ prog w).is (.inl i) (.int i t)=true:=zQ i t
theorem sY (prog:Program) (w:World) (x:Str) (t:Tok):(aQ prog w).is (.inr x) (.str x t)=true:=zR x t
end L2
namespace L2
open PySem PySem.Spec PyProof.Rows
inductive V where
 | non | bl (b:Bool) | int (i:Int) | str (x:Str) | byt (b:Array UInt8) | flt (b:UInt64) | ref (a:Addr) | ty (n:String)
 deriving DecidableEq
def RelV:V->Value->Prop
 | .non,u=>u=Value.none
 | .bl b,u=>u=Value.bool b
 | .int i,u=>∃t,u=Value.int i t
 | .str x,u=>∃t,u=Value.str x t
 | .byt b,u=>∃t,u=Value.bytes b t
 | .flt b,u=>∃t,u=Value.float b t
 | .ref a,u=>u=Value.ref a
 | .ty n,u=>u=Value.type n
abbrev Vals:List V->List Value->Prop:=Paired RelV
theorem Vals.length {xs:List V} {us:List Value} (r:Vals xs us):xs.length=us.length:=Paired.length r
theorem Vals.get:∀ {xs:List V} {us:List Value} {i:Nat} {x:V},Vals xs us->xs[i]?=some x->∃u,us[i]?=some u/\RelV x u
 | _,_,_,_,.nil,e=>by simp at e
 | _,_,0,_,.cons r _,e=>by simp at e;subst e;exact⟨_,rfl,r⟩
 | _,_,i+1,x,.cons _ t,e=>by
  obtain⟨u,h1,h2⟩:=Vals.get (i:=i) (x:=x) t (by simpa using e)
  exact⟨u,by simpa using h1,h2⟩
theorem Vals.set {x:V} {u:Value} (r:RelV x u):∀ {xs:List V} {us:List Value} (i:Nat),Vals xs us->Vals (xs.set i x) (us.set i u)
 | _,_,_,.nil=>.nil
 | _,_,0,.cons _ t=>.cons r t
 | _,_,i+1,.cons q t=>.cons q (Vals.set r i t)
theorem Vals.append:∀ {xs ys:List V} {us ws:List Value},Vals xs us->Vals ys ws->Vals (xs++ys) (us++ws)
 | _,_,_,_,.nil,s=>s
 | _,_,_,_,.cons r t,s=>.cons r (Vals.append t s)
theorem Vals.take:∀ {xs:List V} {us:List Value} (n:Nat),Vals xs us->Vals (xs.take n) (us.take n)
 | _,_,0,_=>.nil
 | _,_,_+1,.nil=>.nil
 | _,_,n+1,.cons r t=>.cons r (Vals.take n t)
theorem Vals.drop:∀ {xs:List V} {us:List Value} (n:Nat),Vals xs us->Vals (xs.drop n) (us.drop n)
 | _,_,0,r=>r
 | _,_,_+1,.nil=>.nil
 | _,_,n+1,.cons _ t=>Vals.drop n t
def RelO:Option V->Option Value->Prop
 | some v,some u=>RelV v u
 | none,none=>True
 | _,_=>False
def KV {κ:Type}:List (κ × V)->List (κ × Value)->Prop:=Paired fun(p:κ × V) (q:κ × Value)=>p.1=q.1/\RelV p.2 q.2
def kV:bE->V
 | .inl i=>.int i
 | .inr x=>.str x
inductive HO where
 /-- a list -/
 | lst (xs:List V)
 /-- a tuple (never changes) -/
 | tup (xs:List V)
 /-- a dict whose keys are ints and texts;one whose keys are tuples of ints and texts (the empty one is both) -/
 | dK (kvs:List (bE × V)) | dT (kvs:List (List bE × V))
 /-- a set of ints: its members,its size -/
 | set (S:Int->Bool) (n:Nat)
 /-- an instance of the class at C,its dict at dx,its attributes -/
 | ins (C dx:Addr) (fs:List (Str × V))
 /-- the dict of the instance at x -/
 | own (x:Addr)
 /-- the dict of an exception -/
 | xd (fs:List (Str × V))
 /-- a bound method,f of x -/
 | met (f x:Addr)
 /-- a range object lo,lo+1,.. below hi -/
 | rng (lo hi:Int)
 /-- a thing that is known to the object (the script;a dict while a loop walks it): read,never written while it is so -/
 | frz (o:Obj) (u:HO)
 /-- a code object's table -/
 | tbl (ps:Array Value)
 /-- any other thing,by what is true of its one object (a def of one's own: SetO a S n:=HO.ext fun h=>..) -/
 | ext (φ:Heap->Prop)
abbrev Hp:=Addr->Option HO
def aI (H:Hp) (a:Addr) (o:HO):Hp:=fun b=>if b=a then some o else H b
theorem aB {H:Hp} {a:Addr} {o:HO}:aI H a o a=some o:=by unfold aI;rw[if_pos rfl]
theorem aD {H:Hp} {a b:Addr} {o:HO} (h:b≠a):aI H a o b=H b:=by unfold aI;rw[if_neg h]
theorem gJ {H:Hp} {a:Addr} {o u:HO}:aI (aI H a o) a u=aI H a u:=by
 funext b;unfold aI;split <;> rfl
theorem aM {H:Hp} {a b:Addr} {o u:HO} (h:H a=some o) (h':H b=some u) (d:o≠u):a≠b:=by
 intro e;subst e;rw[h]at h';exact d (Option.some.inj h')
theorem aE {H:Hp} {a b:Addr} {o:HO} (h:H a=some o) (h':H b=none):a≠b:=by
 intro e;subst e;rw[h]at h';cases h'
section
variable (P:Program) (w:World)
def ObjOk (H:Hp) (h:Heap) (a:Addr):HO->Prop
 | .lst xs=>xs.length<=sizeLine/\∃(its:List Value) (n:Nat),Vals xs its/\h.get? a=some {cls:=.type "list",data:=.seq its.toArray n }
 | .tup xs=>xs.length<=sizeLine/\∃its:List Value,Vals xs its/\IsTup h a its.toArray
 | .dK kvs=>kvs.length<=sizeLine/\(a == sysModules)=false/\∃vs,KV kvs vs/\h.DictOf (aQ P w) a vs
 | .dT kvs=>kvs.length<=sizeLine/\(a == sysModules)=false/\∃xs:List (List bE × Addr × Value),
   Paired (fun(p:List bE × V) (q:List bE × Addr × Value)=>p.1=q.1/\H q.2.1=some (.tup (p.1.map kV))/\RelV p.2 q.2.2) kvs xs ∧
   ∃o es ep,h.get? a=some o/\o.ExactDict/\o.data=.dict es ep/\es.toList=xs.map (entryOfKey (tupleKind (aQ P w)))/\(xs.map (·.1)).Nodup
 | .set S n=>h.SetOf (intKind P w) a S n
 | .ins C dx fs=>H dx=some (.own a)/\fs.length<=1000/\dx≠a/\h.get? a=some (W.instObj C dx) ∧
   ∃mA,h.Ns1 dx mA/\(∀f,RelO (fs.lookup f) (mA f))/\PySem.Within mA (fs.map (·.1))
 | .own _=>∃o,h.get? a=some o
 | .xd fs=>∃mA,h.Ns1 a mA/\∀f,RelO (fs.lookup f) (mA f)
 | .rng lo hi=>∃t u v,h.get? a=some {cls:=.type "range",data:=.fields #[.int lo t,.int hi u,.int 1 v] }
 | .frz o u=>h.get? a=some o/\ObjOk H h a u
 | .tbl ps=>h.get? a=some {cls:=.none,data:=.fields ps }
 | .met f x=>h.get? a=some (W.methodObj (.ref f) (.ref x))
 | .ext φ=>φ h/\(∃o,h.get? a=some o)/\∀h1 h2:Heap,φ h1->(∀o,h1.get? a=some o->h2.get? a=some o)->φ h2
def HOk (H:Hp) (h:Heap):Prop:=∀a o,H a=some o->ObjOk P w H h a o
end
section
variable {P:Program} {w:World} {H H':Hp} {h h':Heap} {a:Addr} {o:HO}
theorem ObjOk.lt (x:ObjOk P w H h a o):a<h.objs.size:=by
 cases o with
 | lst xs=>obtain⟨_,_,_,_,e⟩:=x;exact Heap.lt_size e
 | tup xs=>obtain⟨_,_,_,p⟩:=x;exact p.lt
 | dK kvs=>obtain⟨_,_,_,_,o,_,_,e,_⟩:=x;exact Heap.lt_size e
 | dT kvs=>obtain⟨_,_,_,_,o,_,_,e,_⟩:=x;exact Heap.lt_size e
 | set S n=>obtain⟨o,_,_,_,e,_⟩:=x;exact Heap.lt_size e
 | ins C dx fs=>obtain⟨_,_,_,e,_⟩:=x;exact Heap.lt_size e
 | own y=>obtain⟨_,e⟩:=x;exact Heap.lt_size e
 | xd fs=>obtain⟨_,⟨_,_,_,e,_⟩,_⟩:=x;exact Heap.lt_size e
 | rng lo hi=>obtain⟨_,_,_,e⟩:=x;exact Heap.lt_size e
 | frz ob u=>obtain⟨e,_⟩:=x;exact Heap.lt_size e
 | tbl ps=>exact Heap.lt_size (show h.get? a=some _ from x)
 | met f y=>exact Heap.lt_size (show h.get? a=some _ from x)
 | ext φ=>obtain⟨_,⟨_,e⟩,_⟩:=x;exact Heap.lt_size e
theorem Paired.mapP {α β:Type} {F G:α->β->Prop}:∀ {l₁:List α} {l₂:List β},Paired F l₁ l₂->(∀a b,F a b->G a b)->Paired G l₁ l₂
 | _,_,.nil,_=>.nil
 | _,_,.cons r t,f=>.cons (f _ _ r) (Paired.mapP t f)
theorem ObjOk.stay (x:ObjOk P w H h a o) (k:∀b u,(b=a∨H b=some (.own a))->h.get? b=some u->h'.get? b=some u)
  (ho:∀b,H b=some (.own a)->H' b=some (.own a)) (ht:∀b xs,H b=some (.tup xs)->H' b=some (.tup xs)):ObjOk P w H' h' a o:=by
 induction o with
 | lst xs=>obtain⟨z,its,n,r,e⟩:=x;exact⟨z,its,n,r,k _ _ (.inl rfl) e⟩
 | tup xs=>obtain⟨z,its,r,ob,e,c⟩:=x;exact⟨z,its,r,ob,k _ _ (.inl rfl) e,c⟩
 | dK kvs=>obtain⟨z,y,vs,r,ob,es,ep,e,c⟩:=x;exact⟨z,y,vs,r,ob,es,ep,k _ _ (.inl rfl) e,c⟩
 | dT kvs=>
  obtain⟨z,y,xs,r,ob,es,ep,e,c⟩:=x
  exact⟨z,y,xs,Paired.mapP r fun p q z=>⟨z.1,ht _ _ z.2.1,z.2.2⟩,ob,es,ep,k _ _ (.inl rfl) e,c⟩
 | set S n=>obtain⟨ob,es,ep,t,e,c⟩:=x;exact⟨ob,es,ep,t,k _ _ (.inl rfl) e,c⟩
 | ins C dx fs=>
  obtain⟨d,z,ne,e,mA,⟨od,es,ep,e2,c⟩,r⟩:=x
  exact⟨ho _ d,z,ne,k _ _ (.inl rfl) e,mA,⟨od,es,ep,k _ _ (.inr d) e2,c⟩,r⟩
 | own y=>obtain⟨ob,e⟩:=x;exact⟨ob,k _ _ (.inl rfl) e⟩
 | xd fs=>obtain⟨mA,⟨od,es,ep,e,c⟩,r⟩:=x;exact⟨mA,⟨od,es,ep,k _ _ (.inl rfl) e,c⟩,r⟩
 | rng lo hi=>obtain⟨t,u,v,e⟩:=x;exact⟨t,u,v,k _ _ (.inl rfl) e⟩
 | frz ob u ih=>obtain⟨e,q⟩:=x;exact⟨k _ _ (.inl rfl) e,ih q⟩
 | tbl ps=>
  have e:h.get? a=some {cls:=.none,data:=.fields ps }:=x
  show h'.get? a=some {cls:=.none,data:=.fields ps }
  exact k a _ (.inl rfl) e
 | met f y=>
  have e:h.get? a=some (W.methodObj (.ref f) (.ref y)):=x
  show h'.get? a=some (W.methodObj (.ref f) (.ref y))
  exact k a _ (.inl rfl) e
 | ext φ=>obtain⟨p,⟨o,e⟩,st⟩:=x;exact⟨st _ _ p fun o q=>k _ _ (.inl rfl) q,⟨o,k _ _ (.inl rfl) e⟩,st⟩
theorem HOk.lt (x:HOk P w H h) (e:H a=some o):a<h.objs.size:=(x a o e).lt
theorem HOk.fresh (x:HOk P w H h) (e:h.objs.size<=a):H a=none:=by
 cases q:H a with
 | none=>rfl
 | some u=>exact absurd (Nat.lt_of_lt_of_le (x.lt q) e) (Nat.lt_irrefl _)
theorem HOk.kept (x:HOk P w H h) (k:∀b u,h.get? b=some u->h'.get? b=some u):HOk P w H h':=fun a o e=>
 (x a o e).stay (fun b u _ q=>k b u q) (fun _ q=>q) fun _ _ q=>q
theorem HOk.laid (x:HOk P w H h) (k:∀b u,h.get? b=some u->h'.get? b=some u) (hp:h.objs.size<=a) (new:ObjOk P w (aI H a o) h' a o):HOk P w (aI H a o) h':=fun b u e=>by
 have hn:=x.fresh hp
 by_cases hb:b=a
 ·subst hb;rw[aB]at e;cases e;exact new
 ·rw[aD hb]at e;exact(x b u e).stay (fun c v _ q=>k c v q) (fun c q=>by rw[aD (aE q hn)];exact q) fun c xs q=>by rw[aD (aE q hn)];exact q
end
def Rd (H:Hp) (a:Addr) (u:HO):Prop:=H a=some u∨∃o,H a=some (.frz o u)
theorem Rd.ok {P:Program} {w:World} {H:Hp} {h:Heap} {a:Addr} {u:HO} (r:Rd H a u) (x:HOk P w H h):ObjOk P w H h a u:=by
 rcases r with r | ⟨o,r⟩
 ·exact x a u r
 ·obtain⟨_,q⟩:=x a _ r
  exact q
def Ry:Option HO->Prop
 | some (.lst _)=>True
 | some (.dK _)=>True
 | some (.dT _)=>True
 | some (.set _ _)=>True
 | some (.ins _ _ _)=>True
 | some (.ext _)=>True
 | _=>False
section
variable {P:Program} {w:World} {H:Hp} {h h':Heap} {x e:Addr} {o':HO}
theorem HOk.write (ok:HOk P w H h) (mu:Ry (H x)) (he:e=x∨H e=some (.own x)) (k:∀b u,b≠e->h.get? b=some u->h'.get? b=some u) (heo:∃u,h'.get? e=some u)
  (new:ObjOk P w (aI H x o') h' x o'):HOk P w (aI H x o') h':=fun b u q=>by
 have nown:∀c y,H c=some (.own y)->c≠x:=fun c y r z=>by subst z;rw[r]at mu;exact mu
 have ntup:∀c xs,H c=some (.tup xs)->c≠x:=fun c xs r z=>by subst z;rw[r]at mu;exact mu
 by_cases hb:b=x
 ·subst hb;rw[aB]at q;cases q;exact new
 ·rw[aD hb]at q;by_cases hbe:b=e
  ·have q':H b=some (.own x):=by
    rcases he with z | z
    ·exact absurd (hbe.trans z) hb
    ·rw[hbe];exact z
   rw[q]at q';cases q'
   obtain⟨v,hv⟩:=heo
   exact⟨v,by rw[hbe];exact hv⟩
  ·refine(ok b u q).stay (fun c v hc r=>k c v ?_ r) (fun c r=>by rw[aD (nown c b r)];exact r) fun c xs r=>by rw[aD (ntup c xs r)];exact r
   rcases hc with rfl | hc
   ·exact hbe
   ·rintro rfl
    rcases he with z | z
    ·exact nown c b hc z
    ·rw[hc]at z;cases z;exact hb rfl
end
structure Un (fs ex:List Addr) (H H':Hp) (h h':Heap):Prop where
 keep:∀b o,h.get? b=some o->H b=none->b∉fs->b∉ex->h'.get? b=some o
 slot:∀b o,h.get? b=some o->H b=none->b∈fs->b∉ex->∃sl,h'.get? b=some {o with slots:=sl }
 free:∀b o,h.get? b=some o->H b=none->b∉ex->H' b=none
 there:∀b o,h.get? b=some o->b∉ex->∃o',h'.get? b=some o'
 tups:∀b xs,H b=some (.tup xs)->H' b=some (.tup xs)
 frzs:∀b o u,H b=some (.frz o u)->H' b=some (.frz o u)
 tbls:∀b ps,H b=some (.tbl ps)->∃more,H' b=some (.tbl (ps++more))
section
variable {fs fs' ex ex':List Addr} {H H1 H2:Hp} {h h1 h2 h':Heap} {a x e:Addr} {o:HO}
theorem Un.any (u:Un fs ex H H1 h h1) {b:Addr} {ob:Obj} (q:h.get? b=some ob) (n:H b=none) (hx:b∉ex):∃sl,h1.get? b=some {ob with slots:=sl }:=by
 by_cases hb:b∈fs
 ·exact u.slot b ob q n hb hx
 ·exact⟨ob.slots,u.keep b ob q n hb hx⟩
theorem Un.kept (k:∀b u,h.get? b=some u->h'.get? b=some u):Un fs ex H H h h':=
 ⟨fun b ob q _ _ _=>k b ob q,fun b ob q _ _ _=>⟨ob.slots,k b ob q⟩,fun _ _ _ n _=>n,fun b ob q _=>⟨ob,k b ob q⟩,fun _ _ q=>q,fun _ _ _ q=>q,fun _ ps q=>⟨#[],by rw[q];simp⟩⟩
theorem Un.refl:Un fs ex H H h h:=Un.kept fun _ _ q=>q
theorem Un.laid (k:∀b u,h.get? b=some u->h'.get? b=some u) (hp:h.objs.size<=a) (hn:H a=none):Un fs ex H (aI H a o) h h' where
 keep:=fun b u q _ _ _=>k b u q
 slot:=fun b u q _ _ _=>⟨u.slots,k b u q⟩
 free:=fun b u q n _=>by rw[aD (Nat.ne_of_lt (Nat.lt_of_lt_of_le (Heap.lt_size q) hp))];exact n
 there:=fun b u q _=>⟨u,k b u q⟩
 tups:=fun b xs q=>by rw[aD (aE q hn)];exact q
 frzs:=fun b u xs q=>by rw[aD (aE q hn)];exact q
 tbls:=fun b ps q=>⟨#[],by rw[aD (aE q hn),q];simp⟩
theorem Un.write (mu:Ry (H x)) (he:e=x∨H e=some (.own x)) (k:∀b u,b≠e->h.get? b=some u->h'.get? b=some u) (heo:∃u,h'.get? e=some u):Un fs ex H (aI H x o) h h':=by
 have hx:∀b,H b=none->b≠x:=fun b n z=>by subst z;rw[n]at mu;exact mu
 have hb:∀b,H b=none->b≠e:=fun b n z=>by
  subst z;rcases he with r | r
  ·exact hx b n r
  ·rw[n]at r;cases r
 have hm:∀b u,H b=some u->¬ Ry (some u)->b≠x:=fun b u q nm z=>by subst z;rw[q]at mu;exact nm mu
 refine⟨fun b u q n _ _=>k b u (hb b n) q,fun b u q n _ _=>⟨u.slots,k b u (hb b n) q⟩,fun b u q n _=>by rw[aD (hx b n)];exact n,fun b u q _=>?_,
  fun b xs q=>by rw[aD (hm b _ q fun z=>z)];exact q,fun b u xs q=>by rw[aD (hm b _ q fun z=>z)];exact q,fun b ps q=>⟨#[],by rw[aD (hm b _ q fun z=>z),q];simp⟩⟩
 by_cases hbe:b=e
 ·subst hbe;exact heo
 ·exact⟨u,k b u hbe q⟩
end
def Uy (h:Heap) (H:Hp):List Addr:=(List.range h.objs.size).filter fun a=>(H a).isSome
def qS (h:Heap) (H:Hp):Heap:=W.hideAll h (Uy h H)
theorem zS (h:Heap) (H:Hp):(qS h H).objs.size=h.objs.size:=W.hideAll_size _ _
theorem Ch {h:Heap} {H:Hp} {b:Addr} {o:Obj} (e:h.get? b=some o) (n:H b=none):(qS h H).get? b=some o:=
 W.hideAll_get _ e fun hm=>by
  have q:(H b).isSome=true:=(List.mem_filter.mp hm).2
  rw[n]at q;simp at q
theorem Ic {h:Heap} {H:Hp} {b:Addr} {o:Obj} (e:(qS h H).get? b=some o):h.get? b=some o/\H b=none:=by
 have e':h.get? b=some o:=W.of_hideAll (Uy h H) e
 refine⟨e',?_⟩
 cases q:H b with
 | none=>rfl
 | some x=>
  have hm:b∈Uy h H:=List.mem_filter.mpr ⟨List.mem_range.mpr (Heap.lt_size e'),by simp [q]⟩
  have z:(qS h H).get? b=none:=W.hideAll_none (Uy h H) hm
  rw[z]at e;cases e
end L2
namespace L2
open PySem PySem.Spec PyProof.Rows
structure Mod (K:W.Frag) (mg:Str->Option Value) (base:Heap):Prop where
 kin:K.In base
 glob:base.Ns mainGlobals mg
 blt:∃mb,base.Ns builtinsNs mb/\∀x:Str,x≠"__name__"->mb x=bootBuiltins x
 nolimit:base.NoLimit
structure Cx where
 prog:Program
 w:World
 K:W.Frag
 mg:Str->Option Value
 base:Heap
 A:Around
 N:List Str
 s₀:Shared
 H₀:Hp
 env:Env
 outer:List Env
 stack:List Env
 ex:List Addr
 fn:Str->Bool
 calm:Bool
 pn:List (Addr × Obj)
 xe:Value->Shared->Prop
def iF (l:List Env):List Addr:=l.filterMap (·.frame)
abbrev Cx.fs (X:Cx):List Addr:=iF X.outer
def Rz (sc:Scope) (x:Str):Prop:=sc.names.lookup x=some .local∨sc.names.lookup x=some .cell∨sc.names.lookup x=some .free
def Lv (sc:Scope) (x:Str):Prop:=sc.names.lookup x=some .local∨sc.names.lookup x=some .cell
def Vi (env:Env) (h:Heap) (m:Str->Option Value) (x:Str) (u:Value):Prop:=
 (env.kindOf x=some .local/\m x=some u)∨((env.kindOf x=some .cell∨env.kindOf x=some .free)/\∃c,env.cells.lookup x=some c/\h.IsCell c (some u))
structure Cx.Ok (X:Cx):Prop where
 mod:Mod X.K X.mg X.base
 kind:X.env.scope.kind=.function
 glob:X.env.globals=mainGlobals
 blt:X.env.builtins=builtinsNs
 above:X.s₀.heap.objs.size<=X.env.locals
 inj:∀x y c,X.env.cells.lookup x=some c->X.env.cells.lookup y=some c->x=y
 has:∀x,(X.env.kindOf x=some .cell∨X.env.kindOf x=some .free)->∃c,X.env.cells.lookup x=some c
 cab:∀x c,X.fn x=true->X.env.cells.lookup x=some c->X.s₀.heap.objs.size<=c
 hd:X.calm=true->X.A.handled=none
 frames:X.A.frames=some X.stack
 stk:X.stack=X.outer∨(X.stack=X.env::X.outer/\X.env.frame=some X.env.locals)
 exf:∀b∈X.ex,b≠X.env.locals/\∀x c,X.env.cells.lookup x=some c->c≠b
 bs:∀b o,X.base.get? b=some o->X.s₀.heap.get? b=some o/\X.H₀ b=none
 bsz:X.base.objs.size<=X.s₀.heap.objs.size
 noex:∀b o,X.base.get? b=some o->b∉X.ex
 exfs:∀b∈X.ex,b∉X.fs
 funs:X.s₀.heap.FunFrames X.base X.outer
 frf:∀b∈X.fs,X.H₀ b=none
structure Inv (X:Cx) (pins:List (Addr × Obj)) (σ:List (Option V)) (H:Hp) (s:Shared):Prop where
 ok:X.Ok
 os:s.os=X.s₀.os
 bare:AllBare s.gens
 base:Un X.fs X.ex X.H₀ H X.s₀.heap s.heap
 loc:∃m,s.heap.Ns X.env.locals m/\∀(i:Nat) (x:Str) (v:V),X.N[i]?=some x->σ[i]?=some (some v)->Rz X.env.scope x->∃u,RelV v u/\Vi X.env s.heap m x u
 cell:∀x c,X.env.cells.lookup x=some c->∃v,s.heap.IsCell c v
 free:H X.env.locals=none
 freeC:∀x c,X.env.cells.lookup x=some c->H c=none
 pin:∀p∈X.pn++pins,s.heap.get? p.1=some p.2/\H p.1=none/\p.1≠X.env.locals/\p.1∉X.fs/\∀v,p.2.data≠.cell v
 hok:HOk X.prog X.w H s.heap
 len:σ.length=X.N.length
section
variable {X:Cx} {pins:List (Addr × Obj)} {σ:List (Option V)} {H H':Hp} {s:Shared} {h':Heap}
theorem Cx.Ok.nofr (ok:X.Ok) {b:Addr} {o:Obj} (e:X.base.get? b=some o):b∉X.fs:=fun hb=>by
 have:=(ok.funs.mem hb).1
 rw[e]at this;cases this
theorem Inv.bs (I:Inv X pins σ H s):∀b o,X.base.get? b=some o->s.heap.get? b=some o/\H b=none:=fun b o e=>
 ⟨I.base.keep b o (I.ok.bs b o e).1 (I.ok.bs b o e).2 (I.ok.nofr e) (I.ok.noex b o e),I.base.free b o (I.ok.bs b o e).1 (I.ok.bs b o e).2 (I.ok.noex b o e)⟩
theorem Inv.bk (I:Inv X pins σ H s):∀b o,X.base.get? b=some o->s.heap.get? b=some o:=fun b o e=>(I.bs b o e).1
theorem Inv.mod (I:Inv X pins σ H s):Mod X.K X.mg X.base:=I.ok.mod
theorem Inv.kIn (I:Inv X pins σ H s):X.K.In s.heap:=I.ok.mod.kin.keeps I.bk
theorem Inv.fr (I:Inv X pins σ H s):∃m,Fr X.base X.env.locals s.heap m:=
 let ⟨m,hn,_⟩:=I.loc
 ⟨m,hn,I.bk,iE I.ok.bsz I.ok.above⟩
theorem Inv.lt (I:Inv X pins σ H s):X.env.locals<s.heap.objs.size:=let ⟨_,hn,_⟩:=I.loc;hn.lt
theorem Inv.sz (I:Inv X pins σ H s):X.s₀.heap.objs.size<=s.heap.objs.size:=iE I.ok.above (Nat.le_of_lt I.lt)
theorem Inv.nofs (I:Inv X pins σ H s) {a:Addr} (h:s.heap.objs.size<=a):a∉X.fs:=fun hb=>by
 obtain⟨_,o,ho,_⟩:=I.ok.funs.mem hb
 exact absurd (Nat.lt_of_lt_of_le (Heap.lt_size ho) (iE I.sz h)) (Nat.lt_irrefl _)
theorem Inv.cne (I:Inv X pins σ H s):∀x c,X.env.cells.lookup x=some c->c≠X.env.locals:=fun x c e z=>by
 obtain⟨v,o,ho,hd⟩:=I.cell x c e
 obtain⟨m,⟨o',es,ep,ho',hd',_⟩,_⟩:=I.loc
 rw[z,ho']at ho;cases ho;rw[hd']at hd;cases hd
theorem Inv.funs (I:Inv X pins σ H s):s.heap.FunFrames X.base X.outer:=by
 have all:∀(l:List Env),(∀b∈iF l,b∈X.fs)->X.s₀.heap.FunFrames X.base l->s.heap.FunFrames X.base l:=by
  intro l;induction l with
  | nil=>intro _ _;trivial
  | cons env r ih=>
   intro hs hl;obtain⟨hk,⟨L,o,hf,hn,ho,hd⟩,hr⟩:=hl
   have hL:L∈X.fs:=hs L (by unfold iF;rw[List.filterMap_cons,hf];exact nC)
   obtain⟨sl,e⟩:=I.base.slot L o ho (I.ok.frf L hL) hL fun z=>I.ok.exfs L z hL
   exact⟨hk,⟨L,_,hf,hn,e,hd⟩,ih (fun b hb=>hs b (by unfold iF;rw[List.filterMap_cons,hf];exact oX _ hb)) hr⟩
 exact all X.outer (fun _ hb=>hb) I.ok.funs
theorem Inv.stack (I:Inv X pins σ H s):s.heap.FunFrames X.base X.stack:=by
 rcases I.ok.stk with e | ⟨e,hf⟩
 ·rw[e];exact I.funs
 ·rw[e];obtain⟨m,hn,_⟩:=I.loc
  refine .cons (by rw[I.ok.kind];decide) hf hn ?_ I.funs
  exact Heap.get?_none_of_le (iE I.ok.bsz I.ok.above)
theorem Inv.stkSub (I:Inv X pins σ H s):∀b∈iF X.stack,b∈X.env.locals::X.fs:=fun b hb=>by
 rcases I.ok.stk with e | ⟨e,hf⟩
 ·rw[e]at hb;exact oX _ hb
 ·rw[e]at hb;unfold iF at hb;rw[List.filterMap_cons,hf]at hb;exact hb
theorem Inv.stkFree (I:Inv X pins σ H s):∀b∈iF X.stack,H b=none:=fun b hb=>by
 rcases List.mem_cons.mp (I.stkSub b hb) with e | hb
 ·rw[e];exact I.free
 ·obtain⟨_,o,ho,_⟩:=I.ok.funs.mem hb
  exact I.base.free b o ho (I.ok.frf b hb) fun z=>I.ok.exfs b z hb
theorem Inv.step {g':Array GenState} {t':Nat} {d':Drawn} {ch:List Addr} (I:Inv X pins σ H s)
  (hch:∀b∈ch,(b∈X.ex∨X.s₀.heap.objs.size<=b)/\b≠X.env.locals/\(∀x c,X.env.cells.lookup x=some c->c≠b)/\∀p∈X.pn++pins,p.1≠b)
  (keep:∀b o,b≠X.env.locals->b∉X.fs->b∉ch->s.heap.get? b=some o->H b=none->h'.get? b=some o)
  (slot:∀b o,b≠X.env.locals->b∈X.fs->b∉ch->s.heap.get? b=some o->H b=none->∃sl,h'.get? b=some {o with slots:=sl }) (free:∀b o,b∉ch->s.heap.get? b=some o->H b=none->H' b=none)
  (there:∀b o,b∉ch->s.heap.get? b=some o->∃o',h'.get? b=some o')
  (tups:∀b xs,H b=some (.tup xs)->H' b=some (.tup xs)) (frzs:∀b o u,H b=some (.frz o u)->H' b=some (.frz o u)) (tbls:∀b ps,H b=some (.tbl ps)->∃more,H' b=some (.tbl (ps++more)))
  (ns:∀m,s.heap.Ns X.env.locals m->h'.Ns X.env.locals m) (hok:HOk X.prog X.w H' h') (hg:AllBare g') :
  Inv X pins σ H' {s with heap:=h',gens:=g',drawn:=d',toks:=t' }:=by
 have neL:∀b o,X.s₀.heap.get? b=some o->b≠X.env.locals:=fun b o e=>Nat.ne_of_lt (Nat.lt_of_lt_of_le (Heap.lt_size e) I.ok.above)
 have neC:∀b o,X.s₀.heap.get? b=some o->b∉X.ex->b∉ch:=fun b o e hx hb=>by
  rcases(hch b hb).1 with z | z
  ·exact hx z
  ·exact absurd (Nat.lt_of_lt_of_le (Heap.lt_size e) z) (Nat.lt_irrefl _)
 have cellK:∀x c,X.env.cells.lookup x=some c->∀v,s.heap.IsCell c v->h'.IsCell c v:=fun x c e v ⟨o,ho,hd⟩=>by
  have nch:c∉ch:=fun z=>(hch c z).2.2.1 x c e rfl
  by_cases hc:c∈X.fs
  ·obtain⟨sl,q⟩:=slot c o (I.cne x c e) hc nch ho (I.freeC x c e)
   exact⟨_,q,hd⟩
  ·exact⟨o,keep c o (I.cne x c e) hc nch ho (I.freeC x c e),hd⟩
 refine⟨I.ok,I.os,hg,⟨fun b o e n hb hx=>?_,fun b o e n hb hx=>?_,fun b o e n hx=>?_,fun b o e hx=>?_,fun b xs e=>tups b xs (I.base.tups b xs e),fun b o xs e=>frzs b o xs (I.base.frzs b o xs e),fun b ps e=>?_⟩,?_,fun x c e=>?_,?_,fun x c e=>?_,fun p hp=>?_,hok,I.len⟩
 ·exact keep b o (neL b o e) hb (neC b o e hx) (I.base.keep b o e n hb hx) (I.base.free b o e n hx)
 ·obtain⟨sl,e1⟩:=I.base.slot b o e n hb hx
  obtain⟨sl',e2⟩:=slot b _ (neL b o e) hb (neC b o e hx) e1 (I.base.free b o e n hx)
  exact⟨sl',e2⟩
 ·obtain⟨o',e1⟩:=I.base.there b o e hx
  exact free b o' (neC b o e hx) e1 (I.base.free b o e n hx)
 ·obtain⟨o',e1⟩:=I.base.there b o e hx
  exact there b o' (neC b o e hx) e1
 ·obtain⟨m1,e1⟩:=I.base.tbls b ps e
  obtain⟨m2,e2⟩:=tbls b _ e1
  exact⟨m1++m2,by rw[e2,Array.append_assoc]⟩
 ·obtain⟨m,hn,hl⟩:=I.loc
  refine⟨m,ns m hn,fun i x v e1 e2 e3=>?_⟩
  obtain⟨u,r,l⟩:=hl i x v e1 e2 e3
  refine⟨u,r,?_⟩
  rcases l with l | ⟨k,c,e,z⟩
  ·exact .inl l
  ·exact .inr ⟨k,c,e,cellK x c e _ z⟩
 ·obtain⟨v,z⟩:=I.cell x c e
  exact⟨v,cellK x c e v z⟩
 ·obtain⟨m,⟨o,_,_,ho,_⟩,_⟩:=I.loc
  exact free _ o (fun z=>(hch _ z).2.1 rfl) ho I.free
 ·obtain⟨v,o,ho,hd⟩:=I.cell x c e
  exact free c o (fun z=>(hch c z).2.2.1 x c e rfl) ho (I.freeC x c e)
 ·obtain⟨e,n,ne,nf,d⟩:=I.pin p hp
  have nch:p.1∉ch:=fun z=>(hch p.1 z).2.2.2 p hp rfl
  exact⟨keep p.1 p.2 ne nf nch e n,free p.1 p.2 nch e n,ne,nf,d⟩
theorem Inv.un {t':Nat} (I:Inv X pins σ H s) (u:Un X.fs [] H H' s.heap h') (hok:HOk X.prog X.w H' h'):Inv X pins σ H' {s with heap:=h',toks:=t' }:=by
 obtain⟨m,⟨o,es,ep,ho,r⟩,_⟩:=id I.loc
 obtain⟨sl,hL⟩:=u.any ho I.free Zs
 exact I.step (g':=s.gens) (d':=s.drawn) (ch:=[]) (fun _ z=>nomatch z) (fun b o _ hb _ e n=>u.keep b o e n hb Zs) (fun b o _ hb _ e n=>u.slot b o e n hb Zs) (fun b o _ e n=>u.free b o e n Zs) (fun b o _ e=>u.there b o e Zs) u.tups u.frzs u.tbls (fun m' hm=>by
  obtain⟨o',es',ep',ho',r'⟩:=hm
  rw[ho]at ho';cases ho'
  exact⟨_,es',ep',hL,r'⟩) hok I.bare
theorem Inv.call {g':Array GenState} {t':Nat} {d':Drawn} {ch:List Addr} (I:Inv X pins σ H s) (u:Un (iF X.stack) ch H H' s.heap h') (hok:HOk X.prog X.w H' h') (hg:AllBare g')
  (hch:∀b∈ch,(b∈X.ex∨X.s₀.heap.objs.size<=b)/\b≠X.env.locals/\(∀x c,X.env.cells.lookup x=some c->c≠b)/\∀p∈X.pn++pins,p.1≠b) :
  Inv X pins σ H' {s with heap:=h',gens:=g',drawn:=d',toks:=t' }:=by
 obtain⟨m,⟨o,es,ep,ho,r⟩,_⟩:=id I.loc
 obtain⟨sl,hL⟩:=u.any ho I.free fun z=>(hch _ z).2.1 rfl
 exact I.step (ch:=ch) hch (fun b o hL hb hc e n=>u.keep b o e n (fun z=>(List.mem_cons.mp (I.stkSub b z)).elim hL hb) hc) (fun b o _ _ hc e n=>u.any e n hc) (fun b o hc e n=>u.free b o e n hc) (fun b o hc e=>u.there b o e hc) u.tups u.frzs u.tbls (fun m' hm=>by
  obtain⟨o',es',ep',ho',r'⟩:=hm
  rw[ho]at ho';cases ho'
  exact⟨_,es',ep',hL,r'⟩) hok hg
theorem Inv.turned {t':Nat} {it:Addr} (I:Inv X pins σ H s) (k:∀b o,b≠it->s.heap.get? b=some o->h'.get? b=some o) (hn:H it=none) (hL:it≠X.env.locals)
  (h1:it∈X.ex∨X.s₀.heap.objs.size<=it) (h2:∀x c,X.env.cells.lookup x=some c->c≠it) (h3:∀p∈X.pn++pins,p.1≠it):Inv X pins σ H {s with heap:=h',toks:=t' }:=by
 have nit:∀b u,H b=some u->b≠it:=fun b u e z=>by rw[z,hn]at e;cases e
 refine I.step (g':=s.gens) (d':=s.drawn) (ch:=[it]) (fun b hb=>?_) (fun b o _ _ hc e _=>k b o (fun z=>hc (by simp [z])) e) (fun b o _ _ hc e _=>⟨o.slots,k b o (fun z=>hc (by simp [z])) e⟩) (fun _ _ _ _ n=>n)
  (fun b o hc e=>⟨o,k b o (fun z=>hc (by simp [z])) e⟩) (fun _ _ e=>e) (fun _ _ _ e=>e) (fun b ps e=>⟨#[],by rw[e];simp⟩) (fun m hm=>?_) (fun b u e=>?_) I.bare
 ·have e:b=it:=by simpa using hb
  subst e;exact⟨h1,hL,h2,h3⟩
 ·obtain⟨o,es,ep,ho,r⟩:=hm
  exact⟨o,es,ep,k _ o (Ne.symm hL) ho,r⟩
 ·refine(I.hok b u e).stay (fun c v hc q=>k c v ?_ q) (fun _ q=>q) fun _ _ q=>q
  rcases hc with z | z
  ·rw[z];exact nit b u e
  ·exact nit c _ z
theorem Inv.tok (I:Inv X pins σ H s) (t:Nat):Inv X pins σ H {s with toks:=t }:=I.un (h':=s.heap) (t':=t) Un.refl I.hok
theorem Inv.kept {t':Nat} (I:Inv X pins σ H s) (k:∀b u,s.heap.get? b=some u->h'.get? b=some u):Inv X pins σ H {s with heap:=h',toks:=t' }:=I.un (Un.kept k) (I.hok.kept k)
theorem Inv.laid {a:Addr} {o:HO} {t':Nat} (I:Inv X pins σ H s) (k:∀b u,s.heap.get? b=some u->h'.get? b=some u) (hp:s.heap.objs.size<=a) (new:ObjOk X.prog X.w (aI H a o) h' a o) :
  Inv X pins σ (aI H a o) {s with heap:=h',toks:=t' }:=I.un (Un.laid k hp (I.hok.fresh hp)) (I.hok.laid k hp new)
theorem Inv.write {x e:Addr} {o:HO} {t':Nat} (I:Inv X pins σ H s) (mu:Ry (H x)) (he:e=x∨H e=some (.own x)) (k:∀b u,b≠e->s.heap.get? b=some u->h'.get? b=some u) (heo:∃u,h'.get? e=some u)
  (new:ObjOk X.prog X.w (aI H x o) h' x o):Inv X pins σ (aI H x o) {s with heap:=h',toks:=t' }:=I.un (Un.write mu he k heo) (I.hok.write mu he k heo new)
theorem Inv.weak {σ':List (Option V)} (I:Inv X pins σ H s) (hl:σ'.length=σ.length) (w:∀(i:Nat) v,σ'[i]?=some (some v)->σ[i]?=some (some v)):Inv X pins σ' H s:=
 ⟨I.ok,I.os,I.bare,I.base,let ⟨m,hn,hl'⟩:=I.loc;⟨m,hn,fun i x v e1 e2 e3=>hl' i x v e1 (w i v e2) e3⟩,I.cell,I.free,I.freeC,I.pin,I.hok,hl.trans I.len⟩
theorem Inv.pins_of {pins':List (Addr × Obj)} (I:Inv X pins σ H s) (h:∀p∈pins',s.heap.get? p.1=some p.2/\H p.1=none/\p.1≠X.env.locals/\p.1∉X.fs/\∀v,p.2.data≠.cell v):Inv X pins' σ H s:=
 ⟨I.ok,I.os,I.bare,I.base,I.loc,I.cell,I.free,I.freeC,fun p hp=>(Zma.mp hp).elim (fun z=>I.pin p (List.mem_append_left _ z)) (h p),I.hok,I.len⟩
theorem sZ {N:List Str} (hN:N.Nodup) {i j:Nat} {x:Str} (a:N[i]?=some x) (b:N[j]?=some x):i=j:=by
 obtain⟨h1,e1⟩:=Zgs.mp a
 obtain⟨h2,e2⟩:=Zgs.mp b
 exact(List.getElem_inj hN).mp (e1.trans e2.symm)
theorem pK {M:Model} {A:Around} {E:Value->Shared->Prop} {i:Nat} {x:Str} {v:V} {u:Value} {Q:Unit->Shared->Prop} (I:Inv X pins σ H s) (hN:X.N.Nodup) (hi:X.N[i]?=some x) (hx:Lv X.env.scope x) (r:RelV v u)
  (h:∀s',Inv X pins (σ.set i (some v)) H s'->(∃a,Heap.SameBut a s.heap s'.heap/\(a=X.env.locals∨X.env.cells.lookup x=some a))->Q () s') (hf:X.fn x=true∨X.env.scope.names.lookup x=some .local:=by first | exact .inl rfl | exact .inr rfl | assumption):wpAny M A (storeName X.env x u) Q E s:=by
 obtain⟨m,hn,hl⟩:=id I.loc
 have hcls:(X.env.scope.kind == .class||(X.env.scope.kind == .module&&X.env.locals != X.env.globals))=false:=by rw[I.ok.kind];rfl
 have hiσ:i<σ.length:=by rw[I.len];exact(Zgs.mp hi).1
 have cne:=I.cne
 have tracked:∀ {a:Addr} {h':Heap},(∃o,s.heap.get? a=some o/\H a=none)->Heap.SameBut a s.heap h'->HOk X.prog X.w H h':=fun {a h'} ha hs b ob e=>by
  obtain⟨_,_,hfree⟩:=ha
  refine(I.hok b ob e).stay (fun c w' hc q=>(hs.2 c ?_).trans q) (fun _ q=>q) fun _ _ q=>q
  rintro rfl
  rcases hc with rfl | hc
  ·rw[hfree]at e;cases e
  ·rw[hfree]at hc;cases hc
 rcases hx with hk | hk
 ·refine wpAny_storeName_local hk hn (fun h' hn' hs=>?_) hcls
  obtain⟨oL,_,_,hoL,_⟩:=id hn
  refine h _ ⟨I.ok,I.os,I.bare,⟨fun b o e n hb hx=>?_,fun b o e n hb hx=>?_,I.base.free,fun b o e hx=>?_,I.base.tups,I.base.frzs,I.base.tbls⟩,⟨_,hn',fun j y v' e1 e2 e3=>?_⟩,fun y c e=>?_,I.free,I.freeC,fun p hp=>?_,tracked ⟨oL,hoL,I.free⟩ hs,by simpa using I.len⟩ ⟨_,hs,.inl rfl⟩
  ·exact(hs.2 b (Nat.ne_of_lt (Nat.lt_of_lt_of_le (Heap.lt_size e) I.ok.above))).trans (I.base.keep b o e n hb hx)
  ·obtain⟨sl,e1⟩:=I.base.slot b o e n hb hx
   exact⟨sl,(hs.2 b (Nat.ne_of_lt (Nat.lt_of_lt_of_le (Heap.lt_size e) I.ok.above))).trans e1⟩
  ·obtain⟨o',e1⟩:=I.base.there b o e hx
   exact⟨o',(hs.2 b (Nat.ne_of_lt (Nat.lt_of_lt_of_le (Heap.lt_size e) I.ok.above))).trans e1⟩
  ·by_cases hj:j=i
   ·subst hj;rw[hi]at e1;cases e1
    rw[List.getElem?_set_self hiσ]at e2;cases e2
    exact⟨u,r,.inl ⟨hk,Zs⟩⟩
   ·rw[List.getElem?_set_ne (Ne.symm hj)]at e2;obtain⟨u',r',q⟩:=hl j y v' e1 e2 e3
    refine⟨u',r',?_⟩
    rcases q with⟨k,e⟩ | ⟨k,c,e,z⟩
    ·refine .inl ⟨k,?_⟩
     have:y≠x:=fun e=>hj (sZ hN e1 (e ▸ hi))
     simp [this,e]
    ·exact .inr ⟨k,c,e,z.sameBut hs (cne y c e)⟩
  ·obtain⟨w',z⟩:=I.cell y c e
   exact⟨w',z.sameBut hs (cne y c e)⟩
  ·obtain⟨e,n,ne,nf,d⟩:=I.pin p hp
   exact⟨(hs.2 p.1 ne).trans e,n,ne,nf,d⟩
 ·have hfn:X.fn x=true:=by
   rcases hf with z | z
   ·exact z
   ·rw[z]at hk;cases hk
  obtain⟨c,hc⟩:=I.ok.has x (.inl hk)
  obtain⟨w',z⟩:=I.cell x c hc
  refine wpAny_storeName_cell I.ok.kind hk hc z (fun h' hc' hs=>?_)
  obtain⟨oc,hoc,hocd⟩:=id z
  refine h {s with heap:=h' } ⟨I.ok,I.os,I.bare,⟨fun b o e n hb hx=>?_,fun b o e n hb hx=>?_,I.base.free,fun b o e hx=>?_,I.base.tups,I.base.frzs,I.base.tbls⟩,⟨m,hn.sameBut hs (Ne.symm (cne x c hc)),fun j y v' e1 e2 e3=>?_⟩,fun y c' e=>?_,I.free,I.freeC,fun p hp=>?_,tracked ⟨oc,hoc,I.freeC x c hc⟩ hs,by simpa using I.len⟩ ⟨c,hs,.inr hc⟩
  ·exact(hs.2 b (Nat.ne_of_lt (Nat.lt_of_lt_of_le (Heap.lt_size e) (I.ok.cab x c hfn hc)))).trans (I.base.keep b o e n hb hx)
  ·obtain⟨sl,e1⟩:=I.base.slot b o e n hb hx
   exact⟨sl,(hs.2 b (Nat.ne_of_lt (Nat.lt_of_lt_of_le (Heap.lt_size e) (I.ok.cab x c hfn hc)))).trans e1⟩
  ·obtain⟨o',e1⟩:=I.base.there b o e hx
   exact⟨o',(hs.2 b (Nat.ne_of_lt (Nat.lt_of_lt_of_le (Heap.lt_size e) (I.ok.cab x c hfn hc)))).trans e1⟩
  ·by_cases hj:j=i
   ·subst hj;rw[hi]at e1;cases e1
    rw[List.getElem?_set_self hiσ]at e2;cases e2
    exact⟨u,r,.inr ⟨.inl hk,c,hc,hc'⟩⟩
   ·rw[List.getElem?_set_ne (Ne.symm hj)]at e2;obtain⟨u',r',q⟩:=hl j y v' e1 e2 e3
    refine⟨u',r',?_⟩
    rcases q with q | ⟨k,c',e,z'⟩
    ·exact .inl q
    ·refine .inr ⟨k,c',e,z'.sameBut hs ?_⟩
     rintro rfl
     exact hj (sZ hN e1 (I.ok.inj _ _ _ e hc ▸ hi))
  ·by_cases hcc:c'=c
   ·subst hcc;exact⟨_,hc'⟩
   ·obtain⟨w2,z2⟩:=I.cell y c' e
    exact⟨w2,z2.sameBut hs hcc⟩
  ·obtain⟨e,n,ne,nf,d⟩:=I.pin p hp
   refine⟨(hs.2 p.1 ?_).trans e,n,ne,nf,d⟩
   intro q;rw[q,hoc]at e;have q':oc=p.2:=Option.some.inj e
   exact d w' (by rw[<- q'];exact hocd)
theorem tD {M:Model} {A:Around} {E:Value->Shared->Prop} {i:Nat} {x:Str} {v:V} {u:Value} {Q:Unit->Shared->Prop} (I:Inv X pins σ H s) (hN:X.N.Nodup) (hi:X.N[i]?=some x) (hx:Lv X.env.scope x) (r:RelV v u)
  (h:∀s',Inv X pins (σ.set i (some v)) H s'->Q () s') (hf:X.fn x=true∨X.env.scope.names.lookup x=some .local:=by first | exact .inl rfl | exact .inr rfl | assumption):wpAny M A (storeName X.env x u) Q E s:=
 pK I hN hi hx r (fun s' I' _=>h s' I') hf
theorem Inv.call' {s':Shared} {ch:List Addr} (I:Inv X pins σ H s) (ho:s'.os=s.os) (u:Un (iF X.stack) ch H H' s.heap s'.heap) (hok:HOk X.prog X.w H' s'.heap) (hg:AllBare s'.gens)
  (hch:∀b∈ch,(b∈X.ex∨X.s₀.heap.objs.size<=b)/\b≠X.env.locals/\(∀x c,X.env.cells.lookup x=some c->c≠b)/\∀p∈X.pn++pins,p.1≠b):Inv X pins σ H' s':=by
 obtain⟨h',g',d',t',o'⟩:=s'
 have e:o'=s.os:=ho
 subst e;exact I.call (g':=g') (t':=t') (d':=d') u hok hg hch
end
abbrev XK:=Value->Option Addr->Hp->Prop
abbrev St:=List (Option V)
abbrev VK:=V->Hp->Prop
abbrev TE:=St->Hp->VK->Prop
abbrev TT:=St->Hp->(Bool->Hp->Prop)->Prop
abbrev TA:=St->Hp->(List V->Hp->Prop)->Prop
structure jY where
 nx:St->Hp->Prop
 rt:VK
 bk:St->Hp->Prop:=fun _ _=>False
 ct:St->Hp->Prop:=fun _ _=>False
abbrev TS:=jY->St->Hp->Prop
def EP (X:Cx) (pins:List (Addr × Obj)) (σ:St) (Q:VK) (u:Value) (s':Shared):Prop:=∃v H',Inv X pins σ H' s'/\RelV v u/\Q v H'
def TP (X:Cx) (pins:List (Addr × Obj)) (σ:St) (Q:Bool->Hp->Prop) (b:Bool) (s':Shared):Prop:=∃H',Inv X pins σ H' s'/\Q b H'
def AP (X:Cx) (pins:List (Addr × Obj)) (σ:St) (Q:List V->Hp->Prop) (us:List Value) (s':Shared):Prop:=∃vs H',Inv X pins σ H' s'/\Vals vs us/\Q vs H'
def SP (X:Cx) (pins:List (Addr × Obj)) (D:jY) (f:Flow) (s':Shared):Prop:=
 match f with
 | .next=>∃ σ' H',Inv X pins σ' H' s'/\D.nx σ' H'
 | .brk=>∃ σ' H',Inv X pins σ' H' s'/\D.bk σ' H'
 | .cont=>∃ σ' H',Inv X pins σ' H' s'/\D.ct σ' H'
 | .ret u=>∃v σ' H',Inv X pins σ' H' s'/\RelV v u/\D.rt v H'
def PE (X:Cx) (e:Expr) (t:TE):Prop:=
 ∀(pins:List (Addr × Obj)) (s:Shared) (σ:St) (H:Hp) (Q:VK),Inv X pins σ H s->t σ H Q->wpAny (model X.prog X.w) X.A (eval e X.env) (EP X pins σ Q) X.xe s
def PT (X:Cx) (e:Expr) (t:TT):Prop:=
 ∀(pins:List (Addr × Obj)) (s:Shared) (σ:St) (H:Hp) (Q:Bool->Hp->Prop),Inv X pins σ H s->t σ H Q->wpAny (model X.prog X.w) X.A (isTrue e X.env (eval e X.env)) (TP X pins σ Q) X.xe s
def PW (X:Cx) (e:Expr) (t:TT):Prop:=
 ∀(whole:Sem Value) (pins:List (Addr × Obj)) (s:Shared) (σ:St) (H:Hp) (Q:Bool->Hp->Prop),Inv X pins σ H s->t σ H Q->wpAny (model X.prog X.w) X.A (isTrue e X.env whole) (TP X pins σ Q) X.xe s
theorem PW.pt {X:Cx} {e:Expr} {t:TT} (h:PW X e t):PT X e t:=h _
def PA (X:Cx) (es:List Expr) (t:TA):Prop:=
 ∀(pos:Pos) (pins:List (Addr × Obj)) (s:Shared) (σ:St) (H:Hp) (Q:List V->Hp->Prop),Inv X pins σ H s->t σ H Q->wpAny (model X.prog X.w) X.A (spliced (backTo pos (starEach es X.env))) (AP X pins σ Q) X.xe s
def PS (X:Cx) (st:Stmt) (t:TS):Prop:=
 ∀(pins:List (Addr × Obj)) (s:Shared) (σ:St) (H:Hp) (D:jY),Inv X pins σ H s->t D σ H->wpAny (model X.prog X.w) X.A (exec st X.env) (SP X pins D) X.xe s
def PSs (X:Cx) (st:List Stmt) (t:TS):Prop:=
 ∀(pins:List (Addr × Obj)) (s:Shared) (σ:St) (H:Hp) (D:jY),Inv X pins σ H s->t D σ H->wpAny (model X.prog X.w) X.A (execs st X.env) (SP X pins D) X.xe s
theorem bG {α:Type} {t:Sem α} {Q Q':α->Shared->Prop} {M:Model} {A:Around} {E:Value->Shared->Prop} {s:Shared} (h:wpAny M A t Q E s) (hQ:∀a s,Q a s->Q' a s):wpAny M A t Q' E s:=wpAny_mono h hQ fun _ _ x=>x
end L2
namespace L2
open PySem PySem.Spec PyProof.Rows
section
variable {X:Cx}
theorem Xi {a b:Expr} {ta tb:TE} (ha:PE X a ta) (hb:PE X b tb) {pins:List (Addr × Obj)} {s:Shared} {σ:St} {H:Hp} {R:V->V->Hp->Prop} (I:Inv X pins σ H s) (h:ta σ H fun x H1=>tb σ H1 fun y H2=>R x y H2)
  {α:Type} {Q:α->Shared->Prop} {f:Value->Value->Sem α}
  (hf:∀v u s2 x y H2,Inv X pins σ H2 s2->RelV x v->RelV y u->R x y H2->wpAny (model X.prog X.w) X.A (f v u) Q X.xe s2) :
  wpAny (model X.prog X.w) X.A (eval a X.env) (fun v s₁=>wpAny (model X.prog X.w) X.A (eval b X.env) (fun u s₂=>wpAny (model X.prog X.w) X.A (f v u) Q X.xe s₂) X.xe s₁) X.xe s:=by
 refine bG (ha pins s σ H _ I h) fun v s1 ⟨x,H1,I1,r1,q1⟩=>?_
 refine bG (hb pins s1 σ H1 _ I1 q1) fun u s2 ⟨y,H2,I2,r2,q2⟩=>?_
 exact hf v u s2 x y H2 I2 r1 r2 q2
def Nk (i:Nat):TE:=fun σ H Q=>∃v,σ[i]?=some (some v)/\Q v H
def tC (v:V):TE:=fun _ H Q=>Q v H
theorem Nl {i:Nat} {x:Str} {pos:Pos} (hN:X.N[i]?=some x) (hv:Rz X.env.scope x) (hd:(x == ("__debug__":Str))=false:=by decide) (hcd:(x == ("__classdict__":Str))=false:=by decide):PE X (.Name x pos) (Nk i):=by
 intro pins s σ H Q I h;obtain⟨v,e,h⟩:=h
 obtain⟨m,hn,hl⟩:=I.loc
 obtain⟨u,r,l⟩:=hl i x v hN e hv
 have fin:EP X pins σ Q u s:=⟨v,H,I,r,h⟩
 rcases l with⟨hk,hm⟩ | ⟨hk,c,hc,hcell⟩
 ·exact wpAny_Name (wpAny_loadName_local I.ok.kind hk hn hm fin) hd
 ·rcases hk with hk | hk
  ·exact wpAny_Name (wpAny_loadName_cell I.ok.kind hk hc hcell fin) hd
  ·exact wpAny_Name (wpAny_loadName_free I.ok.kind hk hc hcell fin hcd) hd
theorem Nm {i j pos}:PE X (.Constant (.int i) j pos) (tC (.int i)):=fun _ _ _ H _ I h=>wpAny_Constant_int ⟨.int i,H,I.tok _,⟨_,rfl⟩,h⟩
theorem Sa {b j pos}:PE X (.Constant (.bool b) j pos) (tC (.bl b)):=fun _ _ _ H _ I h=>Constant_bool ⟨.bl b,H,I,rfl,h⟩
theorem Nn {j pos}:PE X (.Constant .none j pos) (tC .non):=fun _ _ _ H _ I h=>Constant_none ⟨.non,H,I,rfl,h⟩
theorem No {x j pos}:PE X (.Constant (.str x) j pos) (tC (.str x)):=fun _ _ _ H _ I h=>Calls.Constant_str ⟨.str x,H,I.tok _,⟨_,rfl⟩,h⟩
def Gl (X:Cx) (x:Str):Prop:=X.env.kindOf x=some .globalImplicit
theorem iV {E:Value->Shared->Prop} {pins:List (Addr × Obj)} {s:Shared} {σ:St} {H:Hp} {x:Str} {u:Value} {pos:Pos} {Q:Value->Shared->Prop} (I:Inv X pins σ H s) (hg:Gl X x) (hm:X.mg x=some u) (h:Q u s)
  (hd:(x == ("__debug__":Str))=false:=by decide):wpAny (model X.prog X.w) X.A (eval (.Name x pos) X.env) Q E s:=
 Calls.Name_function_global I.ok.kind hg (Calls.loadGlobal_global (by rw[I.ok.glob];exact I.mod.glob.keeps I.bk) hm h) hd
theorem nE {E:Value->Shared->Prop} {pins:List (Addr × Obj)} {s:Shared} {σ:St} {H:Hp} {x:Str} {u:Value} {pos:Pos} {Q:Value->Shared->Prop} (I:Inv X pins σ H s) (hg:Gl X x) (hm:X.mg x=none) (hv:bootBuiltins x=some u) (h:Q u s)
  (hn:x≠"__name__":=by decide) (hd:(x == ("__debug__":Str))=false:=by decide):wpAny (model X.prog X.w) X.A (eval (.Name x pos) X.env) Q E s:=by
 obtain⟨mb,h1,h2⟩:=I.mod.blt
 exact Calls.Name_function_global I.ok.kind hg (Calls.loadGlobal_builtin (by rw[I.ok.glob];exact I.mod.glob.keeps I.bk) hm (by rw[I.ok.blt];exact h1.keeps I.bk) ((h2 x hn).trans hv) h) hd
theorem qT {x:Str} {v:V} {u:Value} {pos:Pos} (hg:Gl X x) (hm:X.mg x=some u) (r:RelV v u) (hd:(x == ("__debug__":Str))=false:=by decide):PE X (.Name x pos) (tC v):=
 fun _ _ _ H _ I h=>iV I hg hm ⟨v,H,I,r,h⟩ hd
theorem Id {x:Str} {v:V} {u:Value} {pos:Pos} (hg:Gl X x) (hm:X.mg x=none) (hv:bootBuiltins x=some u) (r:RelV v u) (hn:x≠"__name__":=by decide) (hd:(x == ("__debug__":Str))=false:=by decide):PE X (.Name x pos) (tC v):=
 fun _ _ _ H _ I h=>nE I hg hm hv ⟨v,H,I,r,h⟩ hn hd
variable {a b:Expr} {ta tb:TE} {pos:Pos}
def PC (X:Cx) (op:CmpOp) (a b:Expr) (t:TE):Prop:=
 ∀(pins:List (Addr × Obj)) (s:Shared) (σ:St) (H:Hp) (Q:VK),Inv X pins σ H s->t σ H Q →
  wpAny (model X.prog X.w) X.A (eval a X.env) (fun v s₁=>wpAny (model X.prog X.w) X.A (eval b X.env) (fun u s₂=>wpAny (model X.prog X.w) X.A (compareOp op v u) (EP X pins σ Q) X.xe s₂) X.xe s₁) X.xe s
def tB (t:TE):TT:=fun σ H Q=>t σ H fun x H1=>∃c,x=.bl c/\Q c H1
theorem Vj {op:CmpOp} {t:TE} (h:PC X op a b t) (h1:behindInMarks op b=false:=by first | exact nobehind _ Zd Zd | rfl):PT X (.Compare a [op] [b] pos) (tB t):=by
 intro pins s σ H Q I hw;refine wpAny_isTrue_Compare1 (bG (h pins s σ H _ I hw) fun v s1 h1=>bG h1 fun u s2 h2=>bG h2 fun c s3 ⟨x,H1,I1,r1,q1⟩=>?_) h1
 obtain⟨d,rfl,q⟩:=q1
 cases r1
 exact wpAny_truthy_bool ⟨H1,I1,q⟩
theorem Np {e:Expr} {t:TE} (h:PE X e t) (he:∀whole,isTrue e X.env whole=(do let v ← whole;standAt e.pos;holding [v] (truthy v)):=by intro _;rfl):PT X e (tB t):=by
 intro pins s σ H Q I hw;refine isTrue_plain (bG (h pins s σ H _ I hw) fun v s1 ⟨x,H1,I1,r1,q1⟩=>?_) (he _)
 obtain⟨d,rfl,q⟩:=q1
 cases r1
 exact wpAny_truthy_bool ⟨H1,I1,q⟩
variable {tA tB':TT} {rest:List Expr}
def Ie (t u:TT):TT:=fun σ H Q=>t σ H fun c H1=>if c=true then u σ H1 Q else Q false H1
def Wu (t u:TT):TT:=fun σ H Q=>t σ H fun c H1=>if c=true then Q true H1 else u σ H1 Q
def Sb (t:TT):TT:=fun σ H Q=>t σ H fun c H1=>Q (!c) H1
theorem Ig (ha:PT X a tA):PW X (.BoolOp .And [a] pos) tA:=by
 intro wh pins s σ H Q I h;refine isTrue_and (bG (ha pins s σ H Q I h) fun c s1 e=>?_)
 cases c with
 | true=>exact isTrue_and_nil e
 | false=>exact e
theorem Nq (ha:PT X a tA):PW X (.BoolOp .Or [a] pos) tA:=by
 intro wh pins s σ H Q I h;refine isTrue_or (bG (ha pins s σ H Q I h) fun c s1 e=>?_)
 cases c with
 | false=>exact isTrue_or_nil e
 | true=>exact e
theorem Nr (ha:PT X a tA) (hb:PW X (.BoolOp .And (b::rest) pos) tB'):PW X (.BoolOp .And (a::b::rest) pos) (Ie tA tB'):=by
 intro wh pins s σ H Q I h;refine isTrue_and (bG (ha pins s σ H _ I h) fun c s1 ⟨H1,I1,q1⟩=>?_)
 cases c with
 | true=>exact hb wh pins s1 σ H1 Q I1 q1
 | false=>exact⟨H1,I1,q1⟩
theorem Sc (ha:PT X a tA) (hb:PW X (.BoolOp .Or (b::rest) pos) tB'):PW X (.BoolOp .Or (a::b::rest) pos) (Wu tA tB'):=by
 intro wh pins s σ H Q I h;refine isTrue_or (bG (ha pins s σ H _ I h) fun c s1 ⟨H1,I1,q1⟩=>?_)
 cases c with
 | true=>exact⟨H1,I1,q1⟩
 | false=>exact hb wh pins s1 σ H1 Q I1 q1
theorem Nt (ha:PT X a tA):PT X (.UnaryOp .Not a pos) (Sb tA):=by
 intro pins s σ H Q I h;exact isTrue_not (ha pins s σ H (fun c H1=>Q (!c) H1) I h)
def Ci (ta tb:TE):TE:=fun σ H Q=>ta σ H fun x H1=>∃c,x=.bl c/\if c=true then tb σ H1 Q else Q (.bl false) H1
def Nu (ta tb:TE):TE:=fun σ H Q=>ta σ H fun x H1=>∃c,x=.bl c/\if c=true then Q (.bl true) H1 else tb σ H1 Q
theorem Nv {op} {t:TE} (h:PE X a t):PE X (.BoolOp op [a] pos) t:=fun pins s σ H Q I hw=>BoolOp_one (h pins s σ H Q I hw)
theorem Nw (ha:PE X a ta) (hb:PE X (.BoolOp .And (b::rest) pos) tb):PE X (.BoolOp .And (a::b::rest) pos) (Ci ta tb):=by
 intro pins s σ H Q I h;refine BoolOp_and (bG (ha pins s σ H _ I h) fun v s1 ⟨x,H1,I1,r1,q1⟩=>?_)
 obtain⟨c,rfl,q1⟩:=q1
 cases r1
 refine wpAny_truthy_bool ?_
 cases c with
 | true=>exact hb pins s1 σ H1 Q I1 q1
 | false=>exact⟨.bl false,H1,I1,rfl,q1⟩
theorem Sd (ha:PE X a ta) (hb:PE X (.BoolOp .Or (b::rest) pos) tb):PE X (.BoolOp .Or (a::b::rest) pos) (Nu ta tb):=by
 intro pins s σ H Q I h;refine BoolOp_or (bG (ha pins s σ H _ I h) fun v s1 ⟨x,H1,I1,r1,q1⟩=>?_)
 obtain⟨c,rfl,q1⟩:=q1
 cases r1
 refine wpAny_truthy_bool ?_
 cases c with
 | false=>exact hb pins s1 σ H1 Q I1 q1
 | true=>exact⟨.bl true,H1,I1,rfl,q1⟩
end
end L2
namespace L2
open PySem PySem.Spec PyProof.Rows
def SqL (K:W.Frag) (H:Hp) (a:Addr) (xs:List V):Prop:=
 Rd H a (.lst xs)∨
  ∃(o:Obj) (its:Array Value) (n:Nat),K.lookup a=some o/\o.cls=.type "list"/\o.dict=none/\o.data=.seq its n/\its.size<=sizeLine/\Vals xs its.toList
def SqT (K:W.Frag) (H:Hp) (a:Addr) (xs:List V):Prop:=
 Rd H a (.tup xs)∨
  ∃(o:Obj) (its:Array Value) (n:Nat),K.lookup a=some o/\o.cls=.type "tuple"/\o.data=.seq its n/\its.size<=sizeLine/\Vals xs its.toList
def Vk:Value->Option V
 | .none=>some .non
 | .bool b=>some (.bl b)
 | .int i _=>some (.int i)
 | .str x _=>some (.str x)
 | .bytes b _=>some (.byt b)
 | .float b _=>some (.flt b)
 | .ref a=>some (.ref a)
 | .type n=>some (.ty n)
 | _=>none
theorem RelV.abs {x:V} {u:Value} (r:RelV x u):Vk u=some x:=by
 cases x with
 | non=>cases r;rfl
 | bl _=>cases r;rfl
 | int _=>obtain⟨t,rfl⟩:=r;rfl
 | str _=>obtain⟨t,rfl⟩:=r;rfl
 | byt _=>obtain⟨t,rfl⟩:=r;rfl
 | flt _=>obtain⟨t,rfl⟩:=r;rfl
 | ref _=>cases r;rfl
 | ty _=>cases r;rfl
theorem RelV.inj {x y:V} {u:Value} (r:RelV x u) (q:RelV y u):x=y:=Option.some.inj (r.abs.symm.trans q.abs)
theorem Vals.inj:∀ {xs ys:List V} {us:List Value},Vals xs us->Vals ys us->xs=ys
 | _,_,_,.nil,.nil=>rfl
 | _,_,_,.cons r t,.cons r' t'=>by rw[r.inj r',Vals.inj t t']
section
variable {X:Cx} {pins:List (Addr × Obj)} {σ:St} {H:Hp} {s:Shared} {a:Addr} {xs ys:List V}
theorem SqL.of {K:W.Frag} (h:H a=some (.lst xs)):SqL K H a xs:=.inl (.inl h)
theorem SqT.of {K:W.Frag} (h:H a=some (.tup xs)):SqT K H a xs:=.inl (.inl h)
theorem Inv.list (I:Inv X pins σ H s) (h:SqL X.K H a xs):∃its:List Value,Vals xs its/\PlainL s.heap a its.toArray/\xs.length<=sizeLine:=by
 rcases h with h | ⟨o,its,n,hk,hc,hd,hs,hz,r⟩
 ·obtain⟨z,its,n,r,e⟩:=h.ok I.hok
  exact⟨its,r,⟨_,n,e,rfl,rfl,rfl⟩,z⟩
 ·refine⟨its.toList,r,⟨o,n,I.kIn a o hk,hc,hd,by simpa using hs⟩,?_⟩
  have e:=r.length
  simp only [Array.length_toList]at e
  omega
theorem Inv.tuple (I:Inv X pins σ H s) (h:SqT X.K H a xs):∃its:List Value,Vals xs its/\IsTup s.heap a its.toArray/\xs.length<=sizeLine:=by
 rcases h with h | ⟨o,its,n,hk,hc,hs,hz,r⟩
 ·obtain⟨z,its,r,p⟩:=h.ok I.hok
  exact⟨its,r,p,z⟩
 ·refine⟨its.toList,r,⟨o,I.kIn a o hk,hc,n,by simpa using hs⟩,?_⟩
  have e:=r.length
  simp only [Array.length_toList]at e
  omega
theorem Inv.list_inj (I:Inv X pins σ H s) (h:SqL X.K H a xs) (h':SqL X.K H a ys):xs=ys:=by
 obtain⟨its,r,⟨o,n,e,_,_,d⟩,_⟩:=I.list h
 obtain⟨its',r',⟨o',n',e',_,_,d'⟩,_⟩:=I.list h'
 rw[e]at e';cases e'
 rw[d]at d';injection d' with d1 _
 have:its=its':=by simpa using congrArg Array.toList d1
 subst this;exact r.inj r'
theorem Inv.tuple_inj (I:Inv X pins σ H s) (h:SqT X.K H a xs) (h':SqT X.K H a ys):xs=ys:=by
 obtain⟨its,r,⟨o,e,_,n,d⟩,_⟩:=I.tuple h
 obtain⟨its',r',⟨o',e',_,n',d'⟩,_⟩:=I.tuple h'
 rw[e]at e';cases e'
 rw[d]at d';injection d' with d1 _
 have:its=its':=by simpa using congrArg Array.toList d1
 subst this;exact r.inj r'
end
abbrev Cx.wish (X:Cx) (E:Value->Shared->Prop):Cx:={X with xe:=E }
abbrev Cx.nox (X:Cx):Cx:=X.wish fun _ _=>False
theorem Cx.Ok.wish {X:Cx} (ok:X.Ok) (E:Value->Shared->Prop):(X.wish E).Ok:=
 ⟨ok.mod,ok.kind,ok.glob,ok.blt,ok.above,ok.inj,ok.has,ok.cab,ok.hd,ok.frames,ok.stk,ok.exf,ok.bs,ok.bsz,ok.noex,ok.exfs,ok.funs,ok.frf⟩
theorem Cx.Ok.unwish {X:Cx} {E:Value->Shared->Prop} (ok:(X.wish E).Ok):X.Ok:=
 ⟨ok.mod,ok.kind,ok.glob,ok.blt,ok.above,ok.inj,ok.has,ok.cab,ok.hd,ok.frames,ok.stk,ok.exf,ok.bs,ok.bsz,ok.noex,ok.exfs,ok.funs,ok.frf⟩
section
variable {X:Cx} {pins:List (Addr × Obj)} {σ:St} {H:Hp} {s:Shared} {E:Value->Shared->Prop}
theorem Inv.wish (I:Inv X pins σ H s) (E:Value->Shared->Prop):Inv (X.wish E) pins σ H s:=⟨I.ok.wish E,I.os,I.bare,I.base,I.loc,I.cell,I.free,I.freeC,I.pin,I.hok,I.len⟩
theorem Inv.unwish (I:Inv (X.wish E) pins σ H s):Inv X pins σ H s:=⟨I.ok.unwish,I.os,I.bare,I.base,I.loc,I.cell,I.free,I.freeC,I.pin,I.hok,I.len⟩
theorem SP.unwish {D:jY} {f:Flow} {s':Shared} (h:SP (X.wish E) pins D f s'):SP X pins D f s':=by
 cases f with
 | next=>obtain⟨σ',H',I,q⟩:=h;exact⟨σ',H',I.unwish,q⟩
 | brk=>obtain⟨σ',H',I,q⟩:=h;exact⟨σ',H',I.unwish,q⟩
 | cont=>obtain⟨σ',H',I,q⟩:=h;exact⟨σ',H',I.unwish,q⟩
 | ret u=>obtain⟨v,σ',H',I,r,q⟩:=h;exact⟨v,σ',H',I.unwish,r,q⟩
theorem PSs.nox {st:List Stmt} {t:TS} (h:PSs X.nox st t):PSs X st t:=fun pins s σ H D I hw=>
 wpAny_mono (h pins s σ H D (I.wish _) hw) (fun _ _ q=>q.unwish) fun _ _ z=>False.elim z
end
section
variable {X:Cx} {st:Stmt} {rest:List Stmt} {t u:TS} {e:Expr} {te:TE} {pos:Pos}
def cT:TS:=fun D σ H=>D.nx σ H
def Cj (t u:TS):TS:=fun D σ H=>t {D with nx:=u D } σ H
theorem Ih:PSs X [] cT:=fun _ _ σ H _ I h=>wpAny_execs_nil ⟨σ,H,I,h⟩
theorem Ck (h1:PS X st t) (h2:PSs X rest u):PSs X (st::rest) (Cj t u):=by
 intro pins s σ H D I h;refine wpAny_execs_cons (bG (h1 pins s σ H {D with nx:=u D } I h) fun f s1 q=>?_)
 cases f with
 | next=>
  obtain⟨σ',H',I',q⟩:=q
  exact h2 pins s1 σ' H' D I' q
 | ret v=>exact q
 | brk=>exact q
 | cont=>exact q
theorem Ii (h1:PS X st t):PSs X [st] t:=by
 intro pins s σ H D I h;refine wpAny_execs_cons (bG (h1 pins s σ H D I h) fun f s1 q=>?_)
 cases f with
 | next=>exact wpAny_execs_nil q
 | ret v=>exact q
 | brk=>exact q
 | cont=>exact q
theorem Inv.quiet {pins:List (Addr × Obj)} {σ:St} {H:Hp} {s:Shared} (I:Inv X pins σ H s):interactive X.env=false:=by simp [interactive,I.ok.kind]
def Lw (te:TE):TS:=fun D σ H=>te σ H fun _ H1=>D.nx σ H1
theorem Ij (he:PE X e te) (hs:swapsWith e none pos.line X.env=pure false:=by rfl):PS X (.Expr e pos) (Lw te):=by
 intro pins s σ H D I h;exact wpAny_Expr_any (bG (he pins s σ H _ I h) fun v s1 ⟨x,H1,I1,r1,q1⟩=>⟨σ,H1,I1,q1⟩) I.quiet hs
def Se (te:TE):TS:=fun D σ H=>te σ H D.rt
theorem Ny (he:PE X e te):PS X (.Return (some e) pos) (Se te):=by
 intro pins s σ H D I h;exact wpAny_Return_some (bG (he pins s σ H _ I h) fun v s1 ⟨x,H1,I1,r1,q1⟩=>⟨x,σ,H1,I1,r1,q1⟩)
def Cl (c:TT) (t u:TS):TS:=fun D σ H=>c σ H fun b H1=>if b=true then t D σ H1 else u D σ H1
theorem Sf {c:Expr} {a b:List Stmt} {tc:TT} (hc:PT X c tc) (ha:PSs X a t) (hb:PSs X b u):PS X (.If c a b pos) (Cl tc t u):=by
 intro pins s σ H D I h;refine wpAny_If (bG (hc pins s σ H _ I h) fun d s1 ⟨H1,I1,q1⟩=>?_)
 cases d with
 | true=>exact ha pins s1 σ H1 D I1 q1
 | false=>exact hb pins s1 σ H1 D I1 q1
end
abbrev TG:=V->St->Hp->(St->Hp->Prop)->Prop
abbrev xL:=List V->St->Hp->(St->Hp->Prop)->Prop
def PG (X:Cx) (target:Expr) (t:TG):Prop:=
 ∀(pins:List (Addr × Obj)) (s:Shared) (σ:St) (H:Hp) (v:V) (u:Value) (Q:St->Hp->Prop),Inv X pins σ H s->RelV v u->t v σ H Q →
  wpAny (model X.prog X.w) X.A (assign target X.env u) (fun _ s'=>∃ σ' H',Inv X pins σ' H' s'/\Q σ' H') X.xe s
def Sg (X:Cx) (ts:List Expr) (t:xL):Prop:=
 ∀(pins:List (Addr × Obj)) (s:Shared) (σ:St) (H:Hp) (vs:List V) (us:List Value) (Q:St->Hp->Prop),Inv X pins σ H s->Vals vs us->t vs σ H Q →
  wpAny (model X.prog X.w) X.A (assignInOrder ((assignEach ts X.env).map (·.2)) us) (fun _ s'=>∃ σ' H',Inv X pins σ' H' s'/\Q σ' H') X.xe s
abbrev zT:=V->V->V->Hp->(Hp->Prop)->Prop
def Ik (X:Cx) (t:zT):Prop:=
 ∀(pins:List (Addr × Obj)) (s:Shared) (σ:St) (H:Hp) (o i v:V) (ov iv u:Value) (Q:Hp->Prop),Inv X pins σ H s->RelV o ov->RelV i iv->RelV v u->t o i v H Q →
  wpAny (model X.prog X.w) X.A (setItem ov iv u) (fun _ s'=>∃H',Inv X pins σ H' s'/\Q H') X.xe s
section
variable {X:Cx} {pos:Pos}
def aK (i:Nat):TG:=fun v σ H Q=>Q (σ.set i (some v)) H
theorem Il {i:Nat} {x:Str} (hN:X.N.Nodup) (hi:X.N[i]?=some x) (hx:Lv X.env.scope x) (hf:X.fn x=true∨X.env.scope.names.lookup x=some .local:=by first | exact .inl rfl | exact .inr rfl | assumption):PG X (.Name x pos) (aK i):=by
 intro pins s σ H v u Q I r h;exact wpAny_assign_Name (tD I hN hi hx r (fun s' I'=>⟨_,H,I',h⟩) hf)
def Nz:xL:=fun vs σ H Q=>vs=[]/\Q σ H
def Cm (t:TG) (u:xL):xL:=fun vs σ H Q=>∃v r,vs=v::r/\t v σ H fun σ' H'=>u r σ' H' Q
theorem Im:Sg X [] Nz:=by
 intro pins s σ H vs us Q I r h;obtain⟨e,h⟩:=h
 subst e;cases r
 exact assignInOrder_nil ⟨σ,H,I,h⟩
theorem Cn {e:Expr} {es:List Expr} {t:TG} {u:xL} (h1:PG X e t) (h2:Sg X es u)
  (hs:(assignEach (e::es) X.env).map (·.2)=assign e X.env::(assignEach es X.env).map (·.2):=by rfl):Sg X (e::es) (Cm t u):=by
 intro pins s σ H vs us Q I r h;obtain⟨v,vr,e1,h⟩:=h
 subst e1;cases r with
 | cons r rr=>
  rw[hs];refine assignInOrder_cons (bG (h1 pins s σ H _ _ _ I r h) fun _ s1 ⟨σ1,H1,I1,q1⟩=>?_)
  exact h2 pins s1 σ1 H1 _ _ Q I1 rr q1
def Io (K:W.Frag) (n:Nat) (t:xL):TG:=fun v σ H Q=>∃a xs,v=.ref a/\SqT K H a xs/\xs.length=n/\t xs σ H Q
theorem Oa {es:List Expr} {k:Nat} {t:xL} {n:Nat} (hc:X.calm=true) (h:Sg X es t)
  (hn:(assignEach es X.env).length=n:=by rfl) (hst:(assignEach es X.env).findIdx? (·.1)=none:=by rfl):PG X (.Tuple es k pos) (Io X.K n t):=by
 intro pins s σ H v u Q I r hw;obtain⟨a,xs,e1,hq,hl,hw⟩:=hw
 subst e1;cases r
 obtain⟨its,rv,ht,hz⟩:=I.tuple hq
 refine assign_Tuple_tuple (I.ok.hd hc) ht (by simp [hn,<- hl,rv.length]) hst fun h' hx=>?_
 have I1:Inv X pins σ H {s with heap:=h' }:=I.kept (t':=s.toks) fun b o e=>hx b o (Nat.ne_of_lt (Heap.lt_size e)) e
 exact h pins _ σ H xs _ Q I1 (by simpa using rv) hw
def Ob (to ti:TE) (t:zT):TG:=fun v σ H Q=>to σ H fun o H1=>ti σ H1 fun i H2=>t o i v H2 fun H3=>Q σ H3
theorem Oc {o i:Expr} {to ti:TE} {t:zT} (ho:PE X o to) (hi:PE X i ti) (hs:Ik X t)
  (ha:∀v,assign (.Subscript o i pos) X.env v=(do
   let ov ← holding [v] (eval o X.env)
   let iv ← holding [v,ov] (eval i X.env)
   standAt pos
   holding [v,ov,iv] (setItem ov iv v)
   release [v,ov,iv] []):=by intro _;rfl):PG X (.Subscript o i pos) (Ob to ti t):=by
 intro pins s σ H v u Q I r h;rw[ha];refine wpAny_bind (wpAny_holding (bG (ho pins s σ H _ I h) fun ov s1 ⟨x,H1,I1,r1,q1⟩=>?_))
 refine wpAny_bind (wpAny_holding (bG (hi pins s1 σ H1 _ I1 q1) fun iv s2 ⟨y,H2,I2,r2,q2⟩=>?_))
 refine wpAny_bind (wpAny_standAt (wpAny_bind (wpAny_holding (bG (hs pins s2 σ H2 x y v ov iv u _ I2 r1 r2 r q2) fun _ s3 ⟨H3,I3,q3⟩=>?_))))
 exact wpAny_release ⟨σ,H3,I3,q3⟩
def Co (te:TE) (g:TG):TS:=fun D σ H=>te σ H fun x H1=>g x σ H1 D.nx
theorem Od {tg e:Expr} {te:TE} {g:TG} (he:PE X e te) (hg:PG X tg g) (hs:swapsWithSole [tg] e pos.line X.env=pure false:=by rfl) (hw:swappedStores [tg] e X.env=pure none:=by rfl)
  (h1:(assignEach [tg] X.env).map (·.2)=[assign tg X.env]:=by rfl):PS X (.Assign [tg] e pos) (Co te g):=by
 intro pins s σ H D I h;refine wpAny_Assign_stores (bG (he pins s σ H _ I h) fun v s1 ⟨x,H1,I1,r1,q1⟩=>?_) hs hw
 rw[h1];exact bG (hg pins s1 σ H1 x v _ I1 r1 q1) fun _ s2 q=>q
theorem Oe {i:Nat} {x:Str} {e:Expr} {te:TE} {pos':Pos} (hN:X.N.Nodup) (hi:X.N[i]?=some x) (hx:Lv X.env.scope x) (he:PE X e te) (hs:swapsWith e (some (.Name x pos')) pos.line X.env=pure false:=by rfl) (hf:X.fn x=true∨X.env.scope.names.lookup x=some .local:=by first | exact .inl rfl | exact .inr rfl | assumption) :
  PS X (.Assign [.Name x pos'] e pos) (Co te (aK i)):=by
 intro pins s σ H D I h;refine wpAny_Assign_Name (bG (he pins s σ H _ I h) fun v s1 ⟨y,H1,I1,r1,q1⟩=>?_) hs
 exact tD I1 hN hi hx r1 (fun s2 I2=>⟨_,H1,I2,q1⟩) hf
end
structure It where
 go:Nat->Hp->Prop
 yld:Nat->Hp->V->Hp->Prop
 stop:Nat->Hp->Prop
def kU (X:Cx) (pins:List (Addr × Obj)) (H:Hp) (b:Addr):Prop:=
 H b=none/\b≠X.env.locals/\b∉X.fs/\(b∈X.ex∨X.s₀.heap.objs.size<=b)/\(∀x c,X.env.cells.lookup x=some c->c≠b)/\∀p∈X.pn++pins,p.1≠b
theorem Inv.fpOk {X:Cx} {pins:List (Addr × Obj)} {σ:St} {H H':Hp} {s:Shared} {b:Addr} (I:Inv X pins σ H s) (hb:s.heap.objs.size<=b) (hn:H' b=none):kU X pins H' b:=by
 refine⟨hn,Nat.ne_of_gt (Nat.lt_of_lt_of_le I.lt hb),I.nofs hb,.inr (iE I.sz hb),fun x c e z=>?_,fun p hp z=>?_⟩
 ·obtain⟨v,q⟩:=I.cell x c e
  exact absurd (Nat.lt_of_lt_of_le q.lt (by rw[z];exact hb)) (Nat.lt_irrefl _)
 ·exact absurd (Nat.lt_of_lt_of_le (Heap.lt_size (I.pin p hp).1) (by rw[z];exact hb)) (Nat.lt_irrefl _)
structure qU (P:Program) (w:World) (K:W.Frag) (tg:Expr) (J:It) (fp:List Addr) (it:Addr) (tn:Nat->Heap->Prop):Prop where
 mem:it∈fp
 obj:∀i h,tn i h->∀b∈fp,∃o,h.get? b=some o/\∀v,o.data≠.cell v
 keep:∀i h h',tn i h->(∀b∈fp,∀o,h.get? b=some o->h'.get? b=some o)->tn i h'
 item:∀(X:Cx),X.prog=P->X.w=w->X.K=K->X.calm=true->∀(i:Nat) (pins:List (Addr × Obj)) (s:Shared) (σ:St) (H:Hp) (E:Value->Shared->Prop),Inv X pins σ H s->(∀b∈fp,kU X pins H b)->tn i s.heap->J.go i H →
  wpAny (model P w) X.A (pyNext (.ref it)) (fun r s1=>∃u,r=some u ∧
   wpAny (model P w) X.A (letOwnedTupleGo tg (.ref it) u) (fun _ s2=>∃x H',Inv X pins σ H' s2/\RelV x u/\J.yld i H x H'/\tn (i+1) s2.heap/\∀b∈fp,H' b=none) E s1) E s
 done:∀(X:Cx),X.prog=P->X.w=w->X.K=K->X.calm=true->∀(i:Nat) (pins:List (Addr × Obj)) (s:Shared) (σ:St) (H:Hp) (E:Value->Shared->Prop),Inv X pins σ H s->(∀b∈fp,kU X pins H b)->tn i s.heap->J.stop i H →
  wpAny (model P w) X.A (pyNext (.ref it)) (fun r s1=>r=none/\Inv X pins σ H s1) E s
 self:∀(A:Around) (i:Nat) (s:Shared) (Q:Value->Shared->Prop) (E:Value->Shared->Prop),tn i s.heap->Q (.ref it) s->wpAny (model P w) A (pyIter (.ref it)) Q E s
abbrev TI:=St->Hp->(It->Hp->Prop)->Prop
def Wv (X:Cx) (pins:List (Addr × Obj)) (σ:St) (tg:Expr) (R:It->Hp->Prop) (itv:Value) (s2:Shared):Prop:=
 ∃(it:Addr) (fp:List Addr) (tn:Nat->Heap->Prop) (J:It) (H':Hp),itv=.ref it/\Inv X pins σ H' s2/\qU X.prog X.w X.K tg J fp it tn/\tn 0 s2.heap/\(∀b∈fp,kU X pins H' b)/\R J H'
def PI (X:Cx) (tg iter:Expr) (wi:TI):Prop:=
 ∀(pins:List (Addr × Obj)) (s:Shared) (σ:St) (H:Hp) (R:It->Hp->Prop),Inv X pins σ H s->wi σ H R →
  wpAny (model X.prog X.w) X.A (eval iter X.env) (fun v s1=>wpAny (model X.prog X.w) X.A (pyIter v) (Wv X pins σ tg R) X.xe s1) X.xe s
theorem pL {M:Model} {A:Around} {E:Value->Shared->Prop} {s:Shared} {tg:Expr} {it:Addr} {u:Value} {o:Obj} {n:String} {vs:Array Value} {Q:Unit->Shared->Prop} (ho:s.heap.get? it=some o) (hc:o.cls=.type n) (hd:o.data=.fields vs)
    (hn:["enumerate","zip","dict_itemiterator","dict_reverseitemiterator","odict_iterator","itertools.zip_longest","itertools.pairwise"].contains n=false) (hQ:Q () s):wpAny M A (letOwnedTupleGo tg (.ref it) u) Q E s:=by
  unfold letOwnedTupleGo;cases tg <;> first
    | exact wpAny_pure hQ
    | (cases u <;> first
        | exact wpAny_pure hQ
        | (refine wpAny_bind (wpAny_load ho ?_)
           rw[hc,hd];show wpAny M A (if (["enumerate","zip","dict_itemiterator","dict_reverseitemiterator","odict_iterator","itertools.zip_longest","itertools.pairwise"].contains n&&vs[0]? == some (rawInt _))=true then _ else _) Q E s
           rw[if_neg (by intro h;rw[hn,Bool.false_and]at h;cases h)]
           exact wpAny_pure hQ))
def Og (K:W.Frag) (a:Addr):It:=
 ⟨fun i H=>∃xs x,SqL K H a xs/\xs[i]?=some x,fun i H x H'=>H'=H/\∀xs,SqL K H a xs->xs[i]?=some x,fun i H=>∃xs,SqL K H a xs/\xs.length<=i⟩
def Vl (K:W.Frag) (a:Addr):It:=
 ⟨fun i H=>∃xs x,SqT K H a xs/\xs[i]?=some x,fun i H x H'=>H'=H/\∀xs,SqT K H a xs->xs[i]?=some x,fun i H=>∃xs,SqT K H a xs/\xs.length<=i⟩
def Uz (lo:Int) (n:Nat):It:=⟨fun i _=>i<n,fun i H x H'=>H'=H/\x=.int (lo+i),fun i _=>n<=i⟩
theorem zU {P:Program} {w:World} {K:W.Frag} {tg:Expr} (a it:Addr):qU P w K tg (Og K a) [it] it (fun i h=>h.IsListIter it a i) where
 mem:=by simp
 obj:=fun i h st b hb=>by
  have e:b=it:=by simpa using hb
  subst e;obtain⟨o,e,c,d⟩:=st
  exact⟨o,e,fun v z=>by rw[d]at z;cases z⟩
 keep:=fun i h h' st k=>st.at fun o e=>k it Zs o e
 item:=by
  intro X hP hw hK hc i pins s σ H E I hf st hg;subst hP hw hK;obtain⟨xs,x,hq,hx⟩:=hg
  obtain⟨its,rv,p,hz⟩:=I.list hq
  obtain⟨u,hu,ru⟩:=rv.get hx
  obtain⟨f0,f1,f2,f3,f4,f5⟩:=hf it Zs
  refine wpAny_pyNext_list_item st p.isList (x:=u) (by simpa using hu) fun h' st' sb=>?_
  have I1:Inv X pins σ H {s with heap:=h' }:=I.turned (t':=s.toks) (fun b o hb e=>(sb.2 b hb).trans e) f0 f1 f3 f4 f5
  obtain⟨o,e,c,d⟩:=id st'
  exact⟨u,rfl,pL (s:={s with heap:=h' }) e c d Zd ⟨x,H,I1,ru,⟨rfl,fun ys hy=>by rw[I.list_inj hy hq];exact hx⟩,st',fun b hb=>(hf b hb).1⟩⟩
 done:=by
  intro X hP hw hK hc i pins s σ H E I hf st hg;subst hP hw hK;obtain⟨xs,hq,hx⟩:=hg
  obtain⟨its,rv,p,hz⟩:=I.list hq
  obtain⟨f0,f1,f2,f3,f4,f5⟩:=hf it Zs
  have hl:=rv.length
  exact wpAny_pyNext_list_end (I.ok.hd hc) st p.isList (by simp;omega) fun h' eb=>⟨rfl,I.turned (t':=s.toks) (fun b o hb e=>eb b o hb e) f0 f1 f3 f4 f5⟩
 self:=fun _ _ _ _ _ st h=>wpAny_pyIter_listiter st h
theorem vM {P:Program} {w:World} {K:W.Frag} {tg:Expr} (a it:Addr):qU P w K tg (Vl K a) [it] it (fun i h=>h.IsTupleIter it a i) where
 mem:=by simp
 obj:=fun i h st b hb=>by
  have e:b=it:=by simpa using hb
  subst e;obtain⟨o,e,c,d⟩:=st
  exact⟨o,e,fun v z=>by rw[d]at z;cases z⟩
 keep:=fun i h h' st k=>st.at fun o e=>k it Zs o e
 item:=by
  intro X hP hw hK hc i pins s σ H E I hf st hg;subst hP hw hK;obtain⟨xs,x,hq,hx⟩:=hg
  obtain⟨its,rv,p,hz⟩:=I.tuple hq
  obtain⟨u,hu,ru⟩:=rv.get hx
  obtain⟨f0,f1,f2,f3,f4,f5⟩:=hf it Zs
  refine wpAny_pyNext_tuple_item st (show s.heap.IsTuple a its.toArray from p) (x:=u) (by simpa using hu) fun h' st' sb=>?_
  have I1:Inv X pins σ H {s with heap:=h' }:=I.turned (t':=s.toks) (fun b o hb e=>(sb.2 b hb).trans e) f0 f1 f3 f4 f5
  obtain⟨o,e,c,d⟩:=id st'
  exact⟨u,rfl,pL (s:={s with heap:=h' }) e c d Zd ⟨x,H,I1,ru,⟨rfl,fun ys hy=>by rw[I.tuple_inj hy hq];exact hx⟩,st',fun b hb=>(hf b hb).1⟩⟩
 done:=by
  intro X hP hw hK hc i pins s σ H E I hf st hg;subst hP hw hK;obtain⟨xs,hq,hx⟩:=hg
  obtain⟨its,rv,p,hz⟩:=I.tuple hq
  obtain⟨f0,f1,f2,f3,f4,f5⟩:=hf it Zs
  have hl:=rv.length
  exact wpAny_pyNext_tuple_end (I.ok.hd hc) st (show s.heap.IsTuple a its.toArray from p) (by simp;omega) fun h' eb=>⟨rfl,I.turned (t':=s.toks) (fun b o hb e=>eb b o hb e) f0 f1 f3 f4 f5⟩
 self:=fun _ _ _ _ _ st h=>wpAny_pyIter_tupleiter st h
theorem vN {P:Program} {w:World} {K:W.Frag} {tg:Expr} (it:Addr) (lo:Int) (n:Nat):qU P w K tg (Uz lo n) [it] it (fun i h=>IsRangeIter h it (lo+(i:Nat)*1) ((n:Int) - (i:Nat)) 1) where
 mem:=by simp
 obj:=fun i h st b hb=>by
  have e:b=it:=by simpa using hb
  subst e;exact⟨_,st,fun v z=>by
   have z':Data.fields _=Data.cell v:=z
   cases z'⟩
 keep:=fun i h h' st k=>k it Zs _ st
 item:=by
  intro X hP hw hK hc i pins s σ H E I hf st hg;subst hP hw hK;obtain⟨f0,f1,f2,f3,f4,f5⟩:=hf it Zs
  have W:=Walks.range (prog:=X.prog) (w:=X.w) (I.ok.hd hc) it lo 1 n
  refine W.item i s _ _ hg st fun v h' tk hv st' kk=>?_
  obtain⟨t,rfl⟩:=hv
  have I1:Inv X pins σ H {s with heap:=h',toks:=tk }:=I.turned (fun b o hb e=>kk b o (by simpa using hb) e) f0 f1 f3 f4 f5
  refine⟨_,rfl,pL (s:={s with heap:=h',toks:=tk }) (n:="range_iterator") st' rfl rfl Zd ⟨.int (lo+i),H,I1,⟨t,?_⟩,⟨rfl,rfl⟩,st',fun b hb=>(hf b hb).1⟩⟩
  rw[Int.mul_one]
 done:=by
  intro X hP hw hK hc i pins s σ H E I hf st hg;subst hP hw hK;obtain⟨f0,f1,f2,f3,f4,f5⟩:=hf it Zs
  exact wpAny_pyNext_range_end (I.ok.hd hc) st (by have:n<=i:=hg;omega) fun h' eb=>⟨rfl,I.turned (t':=s.toks) (fun b o hb e=>eb b o hb e) f0 f1 f3 f4 f5⟩
 self:=fun _ _ _ _ _ st h=>wpAny_pyIter_rangeiter st h
end L2
namespace L2
open PySem PySem.Spec PyProof.Rows
section
variable {X:Cx} {tg:Expr}
def Cp (K:W.Frag) (tl:TE):TI:=fun σ H R=>tl σ H fun x H1=>∃a,x=.ref a/\(∃xs,SqL K H1 a xs)/\R (Og K a) H1
def Oh (K:W.Frag) (tl:TE):TI:=fun σ H R=>tl σ H fun x H1=>∃a,x=.ref a/\(∃xs,SqT K H1 a xs)/\R (Vl K a) H1
theorem Ip {l:Expr} {tl:TE} (hl:PE X l tl):PI X tg l (Cp X.K tl):=by
 intro pins s σ H R I h;refine bG (hl pins s σ H _ I h) fun v s1 ⟨x,H1,I1,r1,q1⟩=>?_
 obtain⟨a,e,⟨xs,hq⟩,q⟩:=q1
 subst e;cases r1
 obtain⟨its,rv,p,hz⟩:=I1.list hq
 refine wpAny_pyIter_list p.isList ?_
 refine⟨s1.heap.objs.size,[s1.heap.objs.size],_,_,H1,rfl,I1.kept (t':=s1.toks) fun b o e=>iH _ e,zU a _,⟨_,Heap.get?_push_size _ rfl,rfl,rfl⟩,fun b hb=>?_,q⟩
 have e:b=s1.heap.objs.size:=by simpa using hb
 subst e;exact I1.fpOk (cB _) (I1.hok.fresh (cB _))
theorem Oi {l:Expr} {tl:TE} (hl:PE X l tl):PI X tg l (Oh X.K tl):=by
 intro pins s σ H R I h;refine bG (hl pins s σ H _ I h) fun v s1 ⟨x,H1,I1,r1,q1⟩=>?_
 obtain⟨a,e,⟨xs,hq⟩,q⟩:=q1
 subst e;cases r1
 obtain⟨its,rv,p,hz⟩:=I1.tuple hq
 refine wpAny_pyIter_tuple (show s1.heap.IsTuple a its.toArray from p) ?_
 refine⟨s1.heap.objs.size,[s1.heap.objs.size],_,_,H1,rfl,I1.kept (t':=s1.toks) fun b o e=>iH _ e,vM a _,⟨_,Heap.get?_push_size _ rfl,rfl,rfl⟩,fun b hb=>?_,q⟩
 have e:b=s1.heap.objs.size:=by simpa using hb
 subst e;exact I1.fpOk (cB _) (I1.hok.fresh (cB _))
theorem Cq {pins:List (Addr × Obj)} {σ:St} {H:Hp} {s:Shared} {R:It->Hp->Prop} {E:Value->Shared->Prop} {lo hi:Int} {t u v:Tok} {tk:Nat} (I:Inv X pins σ H s) (h1:-(2 ^ 62)<=lo) (h2:lo<2 ^ 62) (h3:-(2 ^ 62)<=hi) (h4:hi<2 ^ 62)
  (q:R (Uz lo (hi - lo).toNat) H):wpAny (model X.prog X.w) X.A (pyIter (.ref s.heap.objs.size)) (Wv X pins σ tg R) E {s with heap:=s.heap.push {cls:=.type "range",data:=.fields #[.int lo t,.int hi u,.int 1 v] },toks:=tk }:=by
 refine wpAny_pyIter_range (IsRange.new ..) (small_one h1 h2 h3 h4) ?_
 have I1:Inv X pins σ H {s with heap:=s.heap.push {cls:=.type "range",data:=.fields #[.int lo t,.int hi u,.int 1 v] },toks:=tk }:=I.kept fun b o e=>iH _ e
 refine⟨(s.heap.push {cls:=.type "range",data:=.fields #[.int lo t,.int hi u,.int 1 v] }).objs.size,[(s.heap.push {cls:=.type "range",data:=.fields #[.int lo t,.int hi u,.int 1 v] }).objs.size],_,_,H,rfl,
  I1.kept (t':=tk) fun b o e=>iH _ e,vN _ lo (hi - lo).toNat,?_,fun b hb=>?_,q⟩
 ·have e1:lo+((0:Nat):Int)*1=lo:=by simp
  have e2:(((hi - lo).toNat:Nat):Int) - ((0:Nat):Int)=Builtin.Range.rangeSize lo hi 1:=by rw[rangeSize_one];split <;> omega
  show IsRangeIter _ _ (lo+((0:Nat):Int)*1) ((((hi - lo).toNat:Nat):Int) - ((0:Nat):Int)) 1
  rw[e1,e2];exact Heap.get?_push_size _ rfl
 ·have e:b=(s.heap.push {cls:=.type "range",data:=.fields #[.int lo t,.int hi u,.int 1 v] }).objs.size:=by simpa using hb
  subst e;exact I1.fpOk (cB _) (I1.hok.fresh (cB _))
def Lx (ta:TA):TI:=fun σ H R=>ta σ H fun vs H1=>∃j:Int,vs=[.int j]/\-(2 ^ 62)<=j/\j<2 ^ 62/\R (Uz 0 j.toNat) H1
theorem zV {a:Expr} {ta:TA} {p pos:Pos} (hg:Gl X "range") (hm:X.mg "range"=none) (ha:PA X [a] ta) (hs:starEach [a] X.env=[(false,eval a X.env)]:=by rfl):PI X tg (.Call (.Name "range" p) [a] [] pos) (Lx ta):=by
 intro pins s σ H R I h;refine Call_ (nE I hg hm boot_range (PyProof.Rows.callWith_type1 (bG (ha pos pins s σ H _ I h) fun us s1 ⟨vs,H1,I1,r1,q1⟩=>?_) hs rfl))
 obtain⟨j,e,q1,q2,q⟩:=q1
 subst e;cases r1 with
 | cons r rr=>
  cases rr
  obtain⟨t,rfl⟩:=r
  exact call_range_1 (Cq I1 Zo Zo q1 q2 (by simpa using q))
def Sh (wi:TI) (g:TG) (tb:TS):TS:=fun D σ H=>wi σ H fun J H1=>∃W:Nat->Nat->St->Hp->Prop,(∃m,W 0 m σ H1)/\∀i m σ H,W i m σ H →
 (J.stop i H/\D.nx σ H)∨(J.go i H/\∃N:St->Hp->Prop,(∀ σ' H',N σ' H'->∃m',m'<m/\W (i+1) m' σ' H')/\∀x H',J.yld i H x H'->g x σ H' fun σ2 H2=>tb {D with nx:=N,ct:=N,bk:=D.nx } σ2 H2)
def nF (fp:List Addr) (h:Heap):List (Addr × Obj):=fp.filterMap fun b=>(h.get? b).map fun o=>(b,o)
theorem gK {fp:List Addr} {h:Heap} {b:Addr} {o:Obj} (hb:b∈fp) (e:h.get? b=some o):(b,o)∈nF fp h:=List.mem_filterMap.mpr ⟨b,hb,by rw[e];rfl⟩
theorem zW {fp:List Addr} {h:Heap} {p:Addr × Obj} (hp:p∈nF fp h):p.1∈fp/\h.get? p.1=some p.2:=by
 obtain⟨b,hb,e⟩:=List.mem_filterMap.mp hp
 cases q:h.get? b with
 | none=>rw[q]at e;cases e
 | some o=>
  rw[q]at e;have e':(b,o)=p:=Option.some.inj e
  subst e';exact⟨hb,q⟩
theorem Inv.pinned {pins:List (Addr × Obj)} {σ:St} {H:Hp} {s:Shared} {fp:List Addr} (I:Inv X pins σ H s) (hf:∀b∈fp,kU X pins H b) (ho:∀b∈fp,∃o,s.heap.get? b=some o/\∀v,o.data≠.cell v):Inv X (pins++nF fp s.heap) σ H s:=
 I.pins_of fun p hp=>(Zma.mp hp).elim (fun z=>I.pin p (List.mem_append_right _ z)) fun z=>by
  obtain⟨hb,e⟩:=zW z
  obtain⟨f0,f1,f2,_⟩:=hf p.1 hb
  obtain⟨o,e',d⟩:=ho p.1 hb
  rw[e]at e';cases e'
  exact⟨e,f0,f1,f2,d⟩
theorem Inv.unpinned {pins pl:List (Addr × Obj)} {σ:St} {H:Hp} {s:Shared} (I:Inv X (pins++pl) σ H s):Inv X pins σ H s:=I.pins_of fun p hp=>I.pin p (List.mem_append_right _ (List.mem_append_left _ hp))
theorem Oj {iter:Expr} {body:List Stmt} {wi:TI} {g:TG} {tb:TS} {pos:Pos} (hp:PassesOwn (model X.prog X.w) X.A X.env X.xe) (hc:X.calm=true) (hi:PI X tg iter wi) (hg:PG X tg g) (hb:PSs X body tb)
  (hs:∀x,foldedSetIterable iter X.env x=pure x:=by intro _;rfl):PS X (.For tg iter body [] pos) (Sh wi g tb):=by
 intro pins s σ H D I h;refine wpAny_For (bG (hi pins s σ H _ I h) fun v s1 h1=>bG h1 fun itv s2 h2=>?_) hs
 obtain⟨it,fp,tn,J,H2,e,I2,T,st2,f2,W,⟨m0,w0⟩,turn⟩:=h2
 subst e;have stat:∀ {H':Hp},(∀b∈fp,H' b=none)->∀b∈fp,kU X pins H' b:=fun hn b hb=>⟨hn b hb,(f2 b hb).2⟩
 refine codeAny_forLoop_any (fun n s'=>∃i σ' H',Inv X pins σ' H' s'/\tn i s'.heap/\(∀b∈fp,H' b=none)/\W i n σ' H') ?_ m0 ⟨0,σ,H2,I2,st2,fun b hb=>(f2 b hb).1,w0⟩
 rintro n s3 ⟨i,σ3,H3,I3,st3,fr3,w3⟩
 rcases turn i n σ3 H3 w3 with⟨stop,qn⟩ | ⟨go,N,hN,step⟩
 ·refine wpAny_passesOwn hp (bG (T.done X rfl rfl rfl hc i pins s3 σ3 H3 X.xe I3 (stat fr3) st3 stop) fun r s4 ⟨hr,I4⟩=>?_)
  subst hr;exact wpAny_execs_nil ⟨σ3,H3,I4,qn⟩
 ·refine wpAny_passesOwn hp (bG (T.item X rfl rfl rfl hc i pins s3 σ3 H3 X.xe I3 (stat fr3) st3 go) fun r s4 ⟨u,hr,h4⟩=>?_)
  subst hr;refine wpAny_passesOwn hp (bG h4 fun _ s5 ⟨x,H5,I5,r5,y5,st5,fr5⟩=>?_)
  have I5':=I5.pinned (stat fr5) (T.obj _ _ st5)
  refine wpAny_passesOwn hp (bG (hg _ s5 σ3 H5 x u _ I5' r5 (step x H5 y5)) fun _ s6 ⟨σ6,H6,I6,q6⟩=>?_)
  refine wpAny_passesOwn hp (bG (hb _ s6 σ6 H6 _ I6 q6) fun f s7 q7=>?_)
  have again:∀ {σ7:St} {H7:Hp},Inv X (pins++nF fp s5.heap) σ7 H7 s7->N σ7 H7->∃m,m<n/\∃i σ' H',Inv X pins σ' H' s7/\tn i s7.heap/\(∀b∈fp,H' b=none)/\W i m σ' H':=fun {σ7 H7} I7 n7=>by
   obtain⟨m',hm,w7⟩:=hN σ7 H7 n7
   refine⟨m',hm,i+1,σ7,H7,I7.unpinned,T.keep _ _ _ st5 fun b hb o e=>(I7.pin (b,o) (List.mem_append_right _ (List.mem_append_right _ (gK hb e)))).1,fun b hb=>?_,w7⟩
   obtain⟨o,e,d⟩:=T.obj _ _ st5 b hb
   exact(I7.pin (b,o) (List.mem_append_right _ (List.mem_append_right _ (gK hb e)))).2.1
  cases f with
  | next=>obtain⟨σ7,H7,I7,n7⟩:=q7;exact again I7 n7
  | cont=>obtain⟨σ7,H7,I7,n7⟩:=q7;exact again I7 n7
  | brk=>obtain⟨σ7,H7,I7,q7⟩:=q7;exact⟨σ7,H7,I7.unpinned,q7⟩
  | ret v=>obtain⟨x7,σ7,H7,I7,r7,q7⟩:=q7;exact⟨x7,σ7,H7,I7.unpinned,r7,q7⟩
end
end L2
namespace L2
open PySem PySem.Spec PyProof.Rows
abbrev R2:=V->V->Hp->VK->Prop
def OpR (X:Cx) (f:Value->Value->Sem Value) (r:R2):Prop:=
 ∀(pins:List (Addr × Obj)) (s:Shared) (σ:St) (H:Hp) (x y:V) (v u:Value) (Q:VK),Inv X pins σ H s->RelV x v->RelV y u->r x y H Q →
  wpAny (model X.prog X.w) X.A (f v u) (EP X pins σ Q) X.xe s
def UnR (X:Cx) (f:Value->Sem Value) (r:V->Hp->VK->Prop):Prop:=
 ∀(pins:List (Addr × Obj)) (s:Shared) (σ:St) (H:Hp) (x:V) (v:Value) (Q:VK),Inv X pins σ H s->RelV x v->r x H Q →
  wpAny (model X.prog X.w) X.A (f v) (EP X pins σ Q) X.xe s
def CallR (X:Cx) (f:Value) (r:List V->Hp->VK->Prop):Prop:=
 ∀(pins:List (Addr × Obj)) (s:Shared) (σ:St) (H:Hp) (xs:List V) (us:List Value) (Q:VK),Inv X pins σ H s->Vals xs us->r xs H Q →
  wpAny (model X.prog X.w) X.A (call f us) (EP X pins σ Q) X.xe s
def Cr (r:R2) (ta tb:TE):TE:=fun σ H Q=>ta σ H fun x H1=>tb σ H1 fun y H2=>r x y H2 Q
def Vm (r:V->Hp->VK->Prop) (ta:TE):TE:=fun σ H Q=>ta σ H fun x H1=>r x H1 Q
def rI (C:Int->Int->Prop) (g:Int->Int->V):R2:=fun x y H Q=>∃i j,x=.int i/\y=.int j/\C i j/\Q (g i j) H
def Iq (g:Int->Int->V):R2:=fun x y H Q=>∃i j,x=.int i/\y=.int j/\Q (g i j) H
def rU (g:Int->V):V->Hp->VK->Prop:=fun x H Q=>∃i,x=.int i/\Q (g i) H
section
variable {X:Cx} {a b c:Expr} {ta tb tc:TE} {pos:Pos}
theorem Ol (ha:PE X a ta) (hb:PE X b tb) {pins:List (Addr × Obj)} {s:Shared} {σ:St} {H:Hp} {R:V->V->Hp->Prop} (I:Inv X pins σ H s)
  (h:ta σ H fun x H1=>tb σ H1 fun y H2=>R x y H2) {Q:Value->Shared->Prop} {f:Value->Value->Sem Value}
  (hf:∀v u s2 x y H2,Inv X pins σ H2 s2->RelV x v->RelV y u->R x y H2->wpAny (model X.prog X.w) X.A (f v u) Q X.xe s2) :
  wpAny (model X.prog X.w) X.A (eval a X.env) (fun v s₁=>wpAny (model X.prog X.w) X.A (eval b X.env) (fun u s₂=>wpAny (model X.prog X.w) X.A (f v u) Q X.xe s₂) X.xe s₁) X.xe s:=by
 refine bG (ha pins s σ H _ I h) fun v s1 ⟨x,H1,I1,r1,q1⟩=>?_
 refine bG (hb pins s1 σ H1 _ I1 q1) fun u s2 ⟨y,H2,I2,r2,q2⟩=>?_
 exact hf v u s2 x y H2 I2 r1 r2 q2
theorem Si {op:Operator} {r:R2} (ho:OpR X (binaryOp op) r) (ha:PE X a ta) (hb:PE X b tb):PE X (.BinOp a op b pos) (Cr r ta tb):=by
 intro pins s σ H Q I h;exact wpAny_BinOp (Ol ha hb I h fun v u s2 x y H2 I2 rx ry q=>ho pins s2 σ H2 x y v u Q I2 rx ry q)
theorem Sj {op:UnaryOp} {r:V->Hp->VK->Prop} (ho:UnR X (unaryOp op) r) (ha:PE X a ta):PE X (.UnaryOp op a pos) (Vm r ta):=by
 intro pins s σ H Q I h;exact UnaryOp_ (bG (ha pins s σ H _ I h) fun v s1 ⟨x,H1,I1,r1,q1⟩=>ho pins s1 σ H1 x v Q I1 r1 q1)
theorem Va {f:Value->Value->Sem Value} {C:Int->Int->Prop} {g:Int->Int->Int}
  (rule:∀(i j:Int) (t u:Tok) (s:Shared) (Q:Value->Shared->Prop) (E:Value->Shared->Prop),C i j->Q (.int (g i j) s.toks) {s with toks:=s.toks+1 }->wpAny (model X.prog X.w) X.A (f (.int i t) (.int j u)) Q E s) :
  OpR X f (rI C fun i j=>.int (g i j)):=by
 intro pins s σ H x y v u Q I rx ry h;obtain⟨i,j,rfl,rfl,hc,q⟩:=h
 obtain⟨t,rfl⟩:=rx
 obtain⟨t',rfl⟩:=ry
 exact rule i j t t' s _ _ hc ⟨.int (g i j),H,I.tok _,⟨_,rfl⟩,q⟩
theorem Sk {f:Value->Value->Sem Value} {g:Int->Int->Int}
  (rule:∀(i j:Int) (t u:Tok) (s:Shared) (Q:Value->Shared->Prop) (E:Value->Shared->Prop),Q (.int (g i j) s.toks) {s with toks:=s.toks+1 }->wpAny (model X.prog X.w) X.A (f (.int i t) (.int j u)) Q E s) :
  OpR X f (Iq fun i j=>.int (g i j)):=by
 intro pins s σ H x y v u Q I rx ry h;obtain⟨i,j,rfl,rfl,q⟩:=h
 obtain⟨t,rfl⟩:=rx
 obtain⟨t',rfl⟩:=ry
 exact rule i j t t' s _ _ ⟨.int (g i j),H,I.tok _,⟨_,rfl⟩,q⟩
theorem Ir {f:Value->Value->Sem Value} {g:Int->Int->Bool}
  (rule:∀(i j:Int) (t u:Tok) (s:Shared) (Q:Value->Shared->Prop) (E:Value->Shared->Prop),Q (.bool (g i j)) s->wpAny (model X.prog X.w) X.A (f (.int i t) (.int j u)) Q E s) :
  OpR X f (Iq fun i j=>.bl (g i j)):=by
 intro pins s σ H x y v u Q I rx ry h;obtain⟨i,j,rfl,rfl,q⟩:=h
 obtain⟨t,rfl⟩:=rx
 obtain⟨t',rfl⟩:=ry
 exact rule i j t t' s _ _ ⟨.bl (g i j),H,I,rfl,q⟩
def Om (i j:Int):Prop:=0<=j/\j<=1000000/\i.natAbs<2 ^ 64
def CMul (i j:Int):Prop:=(-(2 ^ 64)<i/\i<2 ^ 64)∨(-(2 ^ 64)<j/\j<2 ^ 64)
theorem CMul.ok {i j:Int} (h:CMul i j):IntMulOk i j:=by
 rcases h with⟨h1,h2⟩ | ⟨h1,h2⟩
 ·exact .of_left (intBits_le_64 h1 h2)
 ·exact .of_right (intBits_le_64 h1 h2)
theorem On:OpR X (binaryOp .Add) (Iq fun i j=>.int (i+j)):=Sk fun _ _ _ _ _ _ _ q=>add_int q
theorem Oo:OpR X (binaryOp .Sub) (Iq fun i j=>.int (i - j)):=Sk fun _ _ _ _ _ _ _ q=>sub_int q
theorem Op:OpR X (binaryOp .Mult) (rI CMul fun i j=>.int (i*j)):=Va fun _ _ _ _ _ _ _ hc q=>mul_int q hc.ok
theorem Oq:OpR X (binaryOp .Mod) (rI (fun _ j=>0<j) fun i j=>.int (i % j)):=Va fun i j _ _ _ _ _ hc q=>by
 have h1:(0:Int)<j:=hc
 exact mod_int' Zo (by rw[Int.fmod_eq_emod_of_nonneg i Zo];exact q)
theorem Os:OpR X (binaryOp .Pow) (rI Om fun i j=>.int (i ^ j.toNat)):=Va fun _ _ _ _ _ _ _ hc q=>pow_int_small hc.1 hc.2.1 hc.2.2 q
theorem Xc {f:Value->Sem Value} {g:Int->Int}
  (rule:∀(i:Int) (t:Tok) (s:Shared) (Q:Value->Shared->Prop) (E:Value->Shared->Prop),Q (.int (g i) s.toks) {s with toks:=s.toks+1 }->wpAny (model X.prog X.w) X.A (f (.int i t)) Q E s) :
  UnR X f (rU fun i=>.int (g i)):=by
 intro pins s σ H x v Q I rx h;obtain⟨i,rfl,q⟩:=h
 obtain⟨t,rfl⟩:=rx
 exact rule i t s _ _ ⟨.int (g i),H,I.tok _,⟨_,rfl⟩,q⟩
theorem Ot:UnR X (unaryOp .USub) (rU fun i=>.int (-i)):=Xc fun _ _ _ _ _ q=>neg_int q
end
def scal:V->V->Bool
 | .non,.non=>true | .non,.int _=>true | .int _,.non=>true | .non,.bl _=>true | .bl _,.non=>true | .non,.str _=>true | .str _,.non=>true
 | .int _,.int _=>true | .bl _,.bl _=>true | .str _,.str _=>true | .byt _,.byt _=>true
 | .int _,.str _=>true | .str _,.int _=>true | .bl _,.str _=>true | .str _,.bl _=>true
 | _,_=>false
def Ww:R2:=fun x y H Q=>scal x y=true/\Q (.bl (decide (x=y))) H
def Wx:R2:=fun x y H Q=>scal x y=true/\Q (.bl (!decide (x=y))) H
theorem xM {i j:Int}:decide (V.int i=V.int j)=(i == j):=by
 rw[Bool.eq_iff_iff];simp
theorem Cs {i j:Bool}:decide (V.bl i=V.bl j)=(i == j):=by
 rw[Bool.eq_iff_iff];simp
theorem xN {i j:Str}:decide (V.str i=V.str j)=(i == j):=by
 rw[Bool.eq_iff_iff];simp
theorem xO {i j:Array UInt8}:decide (V.byt i=V.byt j)=(i.toList == j.toList):=by
 rw[Bool.eq_iff_iff];cases i
 cases j
 simp
section
variable {X:Cx} {a b c:Expr} {ta tb tc:TE} {pos:Pos}
theorem aT {pins:List (Addr × Obj)} {σ:St} {H:Hp} {s:Shared} {Q:VK} {k k':Bool} (I:Inv X pins σ H s) (q:Q (.bl k) H) (e:k=k'):EP X pins σ Q (.bool k') s:=by
 subst e;exact⟨.bl k,H,I,rfl,q⟩
theorem Ly:OpR X (compareOp .Eq) Ww:=by
 intro pins s σ H x y v u Q I rx ry h;obtain⟨hs,q⟩:=h
 cases x with
 | non=>
  cases rx
  cases y with
  | non=>cases ry;exact PySem.EqNone.eq_none_none (aT I q Zs)
  | bl j=>cases ry;exact PySem.EqNone.eq_none_bool (aT I q Zs)
  | int j=>obtain⟨t',rfl⟩:=ry;exact PySem.EqNone.eq_none_int (aT I q Zs)
  | str j=>obtain⟨t',rfl⟩:=ry;exact PySem.EqNone.eq_none_str (aT I q Zs)
  | _=>exact absurd (show false=true from hs) Bool.false_ne_true
 | bl i=>
  cases rx
  cases y with
  | non=>cases ry;exact PySem.EqNone.eq_bool_none (aT I q Zs)
  | bl j=>cases ry;exact eq_bool (aT I q Cs)
  | str j=>obtain⟨t',rfl⟩:=ry;exact PySem.EqMixed.eq_bool_str (aT I q Zs)
  | _=>exact absurd (show false=true from hs) Bool.false_ne_true
 | int i=>
  obtain⟨t,rfl⟩:=rx
  cases y with
  | non=>cases ry;exact PySem.EqNone.eq_int_none (aT I q Zs)
  | int j=>obtain⟨t',rfl⟩:=ry;exact eq_int (aT I q xM)
  | str j=>obtain⟨t',rfl⟩:=ry;exact PySem.EqMixed.eq_int_str (aT I q Zs)
  | _=>exact absurd (show false=true from hs) Bool.false_ne_true
 | str i=>
  obtain⟨t,rfl⟩:=rx
  cases y with
  | non=>cases ry;exact PySem.EqNone.eq_str_none (aT I q Zs)
  | bl j=>cases ry;exact PySem.EqMixed.eq_str_bool (aT I q Zs)
  | int j=>obtain⟨t',rfl⟩:=ry;exact PySem.EqMixed.eq_str_int (aT I q Zs)
  | str j=>obtain⟨t',rfl⟩:=ry;exact eq_str (aT I q xN)
  | _=>exact absurd (show false=true from hs) Bool.false_ne_true
 | byt i=>
  obtain⟨t,rfl⟩:=rx
  cases y with
  | byt j=>obtain⟨t',rfl⟩:=ry;exact W.eq_bytes (aT I q xO)
  | _=>exact absurd (show false=true from hs) Bool.false_ne_true
 | _=>cases y <;> exact absurd (show false=true from hs) Bool.false_ne_true
theorem Lz:OpR X (compareOp .NotEq) Wx:=by
 intro pins s σ H x y v u Q I rx ry h;obtain⟨hs,q⟩:=h
 cases x with
 | non=>
  cases rx
  cases y with
  | non=>cases ry;exact PySem.EqNone.ne_none_none (aT I q Zs)
  | bl j=>cases ry;exact PySem.EqNone.ne_none_bool (aT I q Zs)
  | int j=>obtain⟨t',rfl⟩:=ry;exact PySem.EqNone.ne_none_int (aT I q Zs)
  | str j=>obtain⟨t',rfl⟩:=ry;exact PySem.EqNone.ne_none_str (aT I q Zs)
  | _=>exact absurd (show false=true from hs) Bool.false_ne_true
 | bl i=>
  cases rx
  cases y with
  | non=>cases ry;exact PySem.EqNone.ne_bool_none (aT I q Zs)
  | bl j=>cases ry;exact ne_bool (aT I q (congrArg not Cs))
  | str j=>obtain⟨t',rfl⟩:=ry;exact PySem.EqMixed.ne_bool_str (aT I q Zs)
  | _=>exact absurd (show false=true from hs) Bool.false_ne_true
 | int i=>
  obtain⟨t,rfl⟩:=rx
  cases y with
  | non=>cases ry;exact PySem.EqNone.ne_int_none (aT I q Zs)
  | int j=>obtain⟨t',rfl⟩:=ry;exact ne_int (aT I q (congrArg not xM))
  | str j=>obtain⟨t',rfl⟩:=ry;exact PySem.EqMixed.ne_int_str (aT I q Zs)
  | _=>exact absurd (show false=true from hs) Bool.false_ne_true
 | str i=>
  obtain⟨t,rfl⟩:=rx
  cases y with
  | non=>cases ry;exact PySem.EqNone.ne_str_none (aT I q Zs)
  | bl j=>cases ry;exact PySem.EqMixed.ne_str_bool (aT I q Zs)
  | int j=>obtain⟨t',rfl⟩:=ry;exact PySem.EqMixed.ne_str_int (aT I q Zs)
  | str j=>obtain⟨t',rfl⟩:=ry;exact ne_str (aT I q (congrArg not xN))
  | _=>exact absurd (show false=true from hs) Bool.false_ne_true
 | byt i=>
  obtain⟨t,rfl⟩:=rx
  cases y with
  | byt j=>obtain⟨t',rfl⟩:=ry;exact W.ne_bytes (aT I q (congrArg not xO))
  | _=>exact absurd (show false=true from hs) Bool.false_ne_true
 | _=>cases y <;> exact absurd (show false=true from hs) Bool.false_ne_true
theorem Sl:OpR X (compareOp .Lt) (Iq fun i j=>.bl (decide (i<j))):=Ir fun _ _ _ _ _ _ _ q=>lt_int q
theorem Sm:OpR X (compareOp .LtE) (Iq fun i j=>.bl (decide (i<=j))):=Ir fun _ _ _ _ _ _ _ q=>le_int q
theorem Sn:OpR X (compareOp .Gt) (Iq fun i j=>.bl (decide (j<i))):=Ir fun _ _ _ _ _ _ _ q=>gt_int q
theorem So:OpR X (compareOp .GtE) (Iq fun i j=>.bl (decide (j<=i))):=Ir fun _ _ _ _ _ _ _ q=>ge_int q
theorem zX:OpR X (compareOp .In) (fun x y H Q=>∃i j,x=.str i/\y=.str j/\Q (.bl (!(Builtin.Str.occurrences j i 0 j.length 1).isEmpty)) H):=by
 intro pins s σ H x y v u Q I rx ry h;obtain⟨i,j,rfl,rfl,q⟩:=h
 obtain⟨t,rfl⟩:=rx
 obtain⟨t',rfl⟩:=ry
 exact in_str (aT I q rfl)
theorem Ou:OpR X (compareOp .Is) (fun x y H Q=>y=.non/\Q (.bl (decide (x=.non))) H):=by
 intro pins s σ H x y v u Q I rx ry h;obtain⟨rfl,q⟩:=h
 cases ry
 refine is_none_gen (aT I q ?_)
 cases x <;> first
  | (cases rx;rfl)
  | (obtain⟨t,rfl⟩:=rx;rfl)
theorem Iu:OpR X (compareOp .IsNot) (fun x y H Q=>y=.non/\Q (.bl (!decide (x=.non))) H):=by
 intro pins s σ H x y v u Q I rx ry h;obtain⟨rfl,q⟩:=h
 cases ry
 refine isnot_none_gen (aT I q ?_)
 cases x <;> first
  | (cases rx;rfl)
  | (obtain⟨t,rfl⟩:=rx;rfl)
theorem qV (b:Expr) {op:CmpOp} (h:op≠.In:=by decide) (h2:op≠.NotIn:=by decide):behindInMarks op b=false:=by
 have e1:(op == CmpOp.In)=false:=by cases op <;> first | rfl | exact absurd rfl h
 have e2:(op == CmpOp.NotIn)=false:=by cases op <;> first | rfl | exact absurd rfl h2
 cases b <;> simp [behindInMarks,e1,e2]
theorem Iv {op:CmpOp} {r:R2} (ho:OpR X (compareOp op) r) (ha:PE X a ta) (hb:PE X b tb) (hm:behindInMarks op b=false):PE X (.Compare a [op] [b] pos) (Cr r ta tb):=by
 intro pins s σ H Q I h;exact wpAny_Compare1 (Ol ha hb I h fun v u s2 x y H2 I2 rx ry q=>ho pins s2 σ H2 x y v u Q I2 rx ry q) hm
def xP (t:TE):TT:=fun σ H Q=>t σ H fun x H'=>∃k,x=.bl k/\Q k H'
theorem Iw {op:CmpOp} {r:R2} (ho:OpR X (compareOp op) r) (ha:PE X a ta) (hb:PE X b tb) (hm:behindInMarks op b=false):PT X (.Compare a [op] [b] pos) (xP (Cr r ta tb)):=by
 intro pins s σ H Q I h;refine wpAny_isTrue_Compare1 (bG (ha pins s σ H _ I h) fun v s1 ⟨x,H1,I1,r1,q1⟩=>bG (hb pins s1 σ H1 _ I1 q1) fun u s2 ⟨y,H2,I2,r2,q2⟩=>
  bG (ho pins s2 σ H2 x y v u _ I2 r1 r2 q2) fun c s3 ⟨z,H3,I3,r3,k,e,q3⟩=>?_) hm
 subst e;cases r3
 exact wpAny_truthy_bool ⟨H3,I3,q3⟩
def qW (r r':R2) (ta tb tc:TE):TE:=fun σ H Q=>ta σ H fun x H1=>tb σ H1 fun y H2=>r x y H2 fun z H3=>∃k,z=.bl k ∧
 (if k=true then tc σ H3 fun w' H4=>r' y w' H4 Q else Q (.bl false) H3)
theorem Ct {op op':CmpOp} {r r':R2} (ho:OpR X (compareOp op) r) (ho':OpR X (compareOp op') r') (ha:PE X a ta) (hb:PE X b tb) (hc:PE X c tc)
  (hm:lastMarks [op,op'] [b,c]=false:=by with_unfolding_all rfl):PE X (.Compare a [op,op'] [b,c] pos) (qW r r' ta tb tc):=by
 intro pins s σ H Q I h;refine Compare_chain (bG (ha pins s σ H _ I h) fun v s1 ⟨x,H1,I1,r1,q1⟩=>chain_link (bG (hb pins s1 σ H1 _ I1 q1) fun u s2 ⟨y,H2,I2,r2,q2⟩=>
  bG (ho pins s2 σ H2 x y v u _ I2 r1 r2 q2) fun d s3 ⟨z,H3,I3,r3,k,e,q3⟩=>?_)) hm
 subst e;cases r3
 refine wpAny_truthy_bool ?_
 cases k with
 | false=>exact ite_ff ⟨.bl false,H3,I3,rfl,q3⟩
 | true=>exact ite_tt (chain_last (bG (hc pins s3 σ H3 _ I3 q3) fun w' s4 ⟨z',H4,I4,r4,q4⟩=>ho' pins s4 σ H4 y z' u w' Q I4 r2 r4 q4))
theorem Cu {op op':CmpOp} {r r':R2} (ho:OpR X (compareOp op) r) (ho':OpR X (compareOp op') r') (ha:PE X a ta) (hb:PE X b tb) (hc:PE X c tc)
  (hm:lastMarks [op,op'] [b,c]=false:=by with_unfolding_all rfl):PT X (.Compare a [op,op'] [b,c] pos) (xP (qW r r' ta tb tc)):=by
 intro pins s σ H Q I h;refine isTrue_chain (bG (ha pins s σ H _ I h) fun v s1 ⟨x,H1,I1,r1,q1⟩=>test_link (bG (hb pins s1 σ H1 _ I1 q1) fun u s2 ⟨y,H2,I2,r2,q2⟩=>
  bG (ho pins s2 σ H2 x y v u _ I2 r1 r2 q2) fun d s3 ⟨z,H3,I3,r3,k,e,q3⟩=>?_)) hm
 subst e;cases r3
 refine wpAny_truthy_bool ?_
 cases k with
 | false=>
  obtain⟨k',e',q'⟩:=q3
  cases e'
  exact ite_ff ⟨H3,I3,q'⟩
 | true=>
  refine ite_tt (test_last (bG (hc pins s3 σ H3 _ I3 q3) fun w' s4 ⟨z',H4,I4,r4,q4⟩=>bG (ho' pins s4 σ H4 y z' u w' _ I4 r2 r4 q4) fun d' s5 ⟨z2,H5,I5,r5,k2,e2,q5⟩=>?_))
  subst e2;cases r5
  exact wpAny_truthy_bool ⟨H5,I5,q5⟩
theorem kW:(sizeLine:Nat)<2 ^ 63:=by rw[sizeLine_eq];decide
theorem vO:OpR X (binaryOp .Add) (fun x y H Q=>∃i j,x=.str i/\y=.str j/\i.length+j.length<=sizeLine/\Q (.str (i++j)) H):=by
 intro pins s σ H x y v u Q I rx ry h;obtain⟨i,j,rfl,rfl,hz,q⟩:=h
 obtain⟨t,rfl⟩:=rx
 obtain⟨t',rfl⟩:=ry
 exact add_str (fun t' tk=>⟨.str (i++j),H,I.tok _,⟨_,rfl⟩,q⟩) hz
theorem hZ {x:V} {us:List Value} (r:Vals [x] us):∃u,us=[u]/\RelV x u:=by
 cases r with
 | cons r1 r2=>cases r2;exact⟨_,rfl,r1⟩
theorem zY:CallR X (.type "int") (fun xs H Q=>(∃i,xs=[.int i]/\Q (.int i) H)∨∃k,xs=[.bl k]/\Q (.int (if k then 1 else 0)) H):=by
 intro pins s σ H xs us Q I r h;rcases h with⟨i,rfl,q⟩ | ⟨k,rfl,q⟩
 ·obtain⟨u,rfl,t,rfl⟩:=hZ r
  exact call_int_int ⟨.int i,H,I,⟨_,rfl⟩,q⟩
 ·obtain⟨u,rfl,r1⟩:=hZ r
  cases r1
  exact call_int_bool ⟨.int (if k then 1 else 0),H,I.tok _,⟨_,rfl⟩,q⟩
end
end L2
namespace L2
open PySem PySem.Spec PyProof.Rows
structure ObjM (h:Heap) (x dx C:Addr) (mA:Str->Option Value):Prop where
 obj:h.get? x=some (W.instObj C dx)
 ns:h.Ns1 dx mA
 ne:dx≠x
theorem zZ {h:Heap} {dx:Addr} {mA:Str->Option Value} (n:h.Ns1 dx mA):∃od,h.get? dx=some od/\∀name,W.lookIn name od=some (mA name):=by
 obtain⟨o,es,ep,ho,hd,hk,_,hm⟩:=n
 refine⟨o,ho,fun name=>?_⟩
 have e:=hm name
 unfold nsFind findBy at e;rw[<- Array.find?_toList]at e;unfold W.lookIn;rw[hd];dsimp only;split
 ·rename_i y q
  rw[q]at e;exact congrArg some e
 ·rename_i q
  rw[q]at e;have a:es.toList.any (·.refKey)=false:=by
   rw[List.any_eq_false];intro y hy;obtain⟨z,t,hkey⟩:=hk y (Array.mem_toList_iff.mp hy)
   simp [DictEntry.refKey,hkey]
  have a':¬ es.toList.any (·.refKey)=true:=by rw[a];exact Bool.false_ne_true
  rw[if_neg a'];exact congrArg some e
theorem ObjM.look {h:Heap} {x dx C:Addr} {mA:Str->Option Value} (I:ObjM h x dx C mA):∃od,W.InstAt h x (W.instObj C dx) C (some od)/\∀name,W.lookIn name od=some (mA name):=
 let ⟨od,ho,hl⟩:=zZ I.ns
 ⟨od,⟨I.obj,rfl,rfl,ho⟩,hl⟩
section
variable {prog:Program} {w:World} {A:Around} {E:Value->Shared->Prop} {s:Shared} {K:W.Frag} {x dx C f:Addr} {mA:Str->Option Value} {name:Str} {v:Value}
theorem Ix {expr:Bool} {Q:Value->Shared->Prop} (X:K.In s.heap) (I:ObjM s.heap x dx C mA) (hg:W.plainGet K C name=true) (hh:W.hasDictIn K C=true)
  (ha:W.findIn K (.ref C) name=some none) (hv:mA name=some v) (hv':W.handedIn v=true) (h:Q v {s with toks:=s.toks+1 }) :
  wpAny (model prog w) A (getAttr (.ref x) name expr) Q E s:=by
 obtain⟨od,J,hl⟩:=I.look
 exact W.get_value X J (W.plainGet_of hg).1 (W.findObj_own hh ha rfl (by rw[hl,hv])) hv' h
theorem Cv {pl:Sem Bool} {Q:Value × List Value->Shared->Prop} (X:K.In s.heap) (I:ObjM s.heap x dx C mA) (hg:W.plainGet K C name=true)
  (hf:W.findIn K (.ref C) name=some (some (.ref f))) (ht:W.isFn K (.ref f)=true) (hv:mA name=none) (h:Q (.ref f,[.ref x]) s) :
  wpAny (model prog w) A (getMethod (.ref x) name pl) Q E s:=by
 obtain⟨od,J,hl⟩:=I.look
 exact W.method_fn X J (W.plainGet_of hg).1 (W.plainGet_of hg).2 hf (beq_iff_eq.mp ht) (by show(W.lookIn name od).map (·.isSome)=some false;rw[hl,hv];rfl) h
theorem Iy {ns:List Str} {Q:Unit->Shared->Prop} (X:K.In s.heap) (I:ObjM s.heap x dx C mA)
  (hs:W.findIn K (.ref C) "__setattr__"=some (some (.builtin "object.__setattr__"))) (hp:W.plainOver K C=true) (ht:W.takerIn K C name=some none) (hh:W.hasDictIn K C=true)
  (hw:PySem.Within mA ns) (hsz:ns.length<=sizeLine)
  (h:∀h',ObjM h' x dx C (fun y=>if y=name then some v else mA y)->Heap.SameBut dx s.heap h'->Q () {s with heap:=h',toks:=s.toks+2 }) :
  wpAny (model prog w) A (setAttr (.ref x) name v) Q E s:=by
 obtain⟨od,J,hl⟩:=I.look
 refine W.set_plain X J hs (W.osa_open (s:={s with toks:=s.toks+1 }) (r:=none) X J hp ht fun b=>?_)
 obtain⟨cd,hc,hd'⟩:=W.any_some hh
 have hx:s.heap.get? x=some ⟨.ref C,some dx,.plain,#[]⟩:=I.obj
 refine wpAny_bind (wpAny_pure (wpAny_bind (wpAny_bind (wpAny_loadPart hx (wpAny_bind (W.Looks.here (s:={s with toks:=s.toks+1 }) (W.looks_clsIn X hc) ?_))))))
 rw[hd'];refine wpAny_pure (a:=some dx) (wpAny_bind (wpAny_pure (wpAny_bind ?_)))
 refine wpAny_nsSet1 (s:={s with toks:=s.toks+1 }) I.ns fun h' hn2 hs2=>?_
 obtain⟨oD,esD,epD,hoD,hdD,hcD⟩:=hn2.count (PySem.Within.cons name v hw)
 refine wpAny_bind (wpAny_lookBehind hoD (by rw[hdD];exact pastItsLine_dict (iE hcD (by rw[Cf];omega))) ?_)
 exact wpAny_pure (h _ ⟨(hs2.2 _ (Ne.symm I.ne)).trans I.obj,hn2,I.ne⟩ hs2)
theorem Cw {R:Result->Shared->Prop} {vs:List Value} {kw:List (Str × Value)} (X:K.In s.heap) (hm:W.makesIn K C=true)
  (hi:W.findIn K (.ref C) "__init__"=some (some (.ref f))) (hf:W.typeIn K (.ref f)=some (.type "function"))
  (h:codeAny (model prog w) (A.under (.builtin "type.__call__" ⟨.ref C::vs,kw⟩)) (.call (.ref f) ⟨.ref (s.heap.objs.size+1)::vs,kw⟩) (W.InitBack (s.heap.objs.size+1) R)
   {s with heap:=(s.heap.push W.emptyDict).push (W.instObj C s.heap.objs.size) }) :
  codeAny (model prog w) A (.call (.ref C) ⟨vs,kw⟩) R s:=by
 obtain⟨hh,g,d,t,os⟩:=s
 exact W.make_core (W.makes_of X hm) (W.looks_findIn X hi) (fun self=>W.bind_fn X self hf) (.inl rfl) h
end
def bI (f:Str) (v:V):List (Str × V)->List (Str × V)
 | []=>[(f,v)]
 | (g,x)::r=>if g=f then (g,v)::r else (g,x)::bI f v r
theorem lR (f g:Str) (v:V):∀fs:List (Str × V),(bI f v fs).lookup g=if g=f then some v else fs.lookup g
 | []=>by
  show List.lookup g [(f,v)]=_
  by_cases h:g=f
  ·have hb:(g == f)=true:=beq_iff_eq.mpr h
   simp only [List.lookup,hb,if_pos h]
  ·have hb:(g == f)=false:=beq_eq_false_iff_ne.mpr h
   simp only [List.lookup,hb,if_neg h]
 | (k,x)::r=>by
  have ih:=lR f g v r
  rw[show bI f v ((k,x)::r)=(if k=f then (k,v)::r else (k,x)::bI f v r) from rfl];by_cases hk:k=f
  ·rw[if_pos hk];by_cases h:g=k
   ·have hb:(g == k)=true:=beq_iff_eq.mpr h
    simp only [List.lookup,hb,if_pos (h.trans hk)]
   ·have hb:(g == k)=false:=beq_eq_false_iff_ne.mpr h
    simp only [List.lookup,hb,if_neg (fun e:g=f=>h (e.trans hk.symm))]
  ·rw[if_neg hk];by_cases h:g=k
   ·have hb:(g == k)=true:=beq_iff_eq.mpr h
    simp only [List.lookup,hb,if_neg (fun e:g=f=>hk (h.symm.trans e))]
   ·have hb:(g == k)=false:=beq_eq_false_iff_ne.mpr h
    simp only [List.lookup,hb]
    exact ih
theorem kX (f:Str) (v:V):∀fs:List (Str × V),f∈(bI f v fs).map (·.1)/\∀g,g∈fs.map (·.1)->g∈(bI f v fs).map (·.1)
 | []=>⟨by simp [bI],fun g h=>by simp at h⟩
 | (k,x)::r=>by
  obtain⟨i1,i2⟩:=kX f v r
  rw[show bI f v ((k,x)::r)=(if k=f then (k,v)::r else (k,x)::bI f v r) from rfl];by_cases hk:k=f
  ·rw[if_pos hk];subst hk;exact⟨Zs,fun g h=>by simpa using h⟩
  ·rw[if_neg hk];refine⟨?_,fun g h=>?_⟩
   ·rw[List.map_cons];exact oX _ i1
   ·rw[List.map_cons]at h ⊢;rcases List.mem_cons.mp h with e | e
    ·exact List.mem_cons.mpr (.inl e)
    ·exact oX _ (i2 g e)
theorem lS (f:Str) (v:V):∀fs:List (Str × V),(bI f v fs).length<=fs.length+1
 | []=>by simp [bI]
 | (k,x)::r=>by
  have ih:=lS f v r
  rw[show bI f v ((k,x)::r)=(if k=f then (k,v)::r else (k,x)::bI f v r) from rfl];by_cases hk:k=f
  ·rw[if_pos hk,Cf,Cf];omega
  ·rw[if_neg hk,Cf,Cf];omega
theorem RelO.some_of {v:V} {o:Option Value} (r:RelO (some v) o):∃u,o=some u/\RelV v u:=by
 cases o with
 | none=>exact(show False from r).elim
 | some u=>exact⟨u,rfl,r⟩
theorem RelO.none_of {o:Option Value} (r:RelO none o):o=none:=by
 cases o with
 | none=>rfl
 | some u=>exact(show False from r).elim
theorem Aa {v:V} {u:Value} (r:RelV v u):W.handedIn u=true:=by
 cases v with
 | non=>cases (show u=Value.none from r);rfl
 | bl b=>cases (show u=Value.bool b from r);rfl
 | int i=>obtain⟨t,e⟩:=(show ∃t,u=Value.int i t from r);cases e;rfl
 | str x=>obtain⟨t,e⟩:=(show ∃t,u=Value.str x t from r);cases e;rfl
 | byt b=>obtain⟨t,e⟩:=(show ∃t,u=Value.bytes b t from r);cases e;rfl
 | flt b=>obtain⟨t,e⟩:=(show ∃t,u=Value.float b t from r);cases e;rfl
 | ref a=>cases (show u=Value.ref a from r);rfl
 | ty n=>cases (show u=Value.type n from r);rfl
section
variable {P:Program} {w:World} {H H':Hp} {h h':Heap} {a C dx:Addr} {fs fs':List (Str × V)}
theorem mU (hok:HOk P w H h) (e:H a=some (.ins C dx fs)):∃mA,ObjM h a dx C mA/\(∀f,RelO (fs.lookup f) (mA f))/\PySem.Within mA (fs.map (·.1))/\fs.length<=1000/\H dx=some (.own a):=by
 obtain⟨d,z,ne,ob,mA,n,r,q⟩:=(show ObjOk P w H h a (.ins C dx fs) from hok a _ e)
 exact⟨mA,⟨ob,n,ne⟩,r,q,z,d⟩
end
structure Cls (K:W.Frag) (C:Addr):Prop where
 pg:W.plainGet K C Str.empty=true
 hd:W.hasDictIn K C=true
 po:W.plainOver K C=true
 sa:W.findIn K (.ref C) "__setattr__"=some (some (.builtin "object.__setattr__"))
theorem Cls.get {K:W.Frag} {C:Addr} (c:Cls K C) (f:Str):W.plainGet K C f=true:=c.pg
def NoAttr (K:W.Frag) (C:Addr) (f:Str):Prop:=W.findIn K (.ref C) f=some none
theorem NoAttr.taker {K:W.Frag} {C:Addr} {f:Str} (n:NoAttr K C f):W.takerIn K C f=some none:=by
 unfold W.takerIn;rw[show W.findIn K (.ref C) f=some none from n];rfl
structure Ab (K:W.Frag) (C:Addr) (m:Str) (f:Addr):Prop where
 at_:W.findIn K (.ref C) m=some (some (.ref f))
 fn:W.isFn K (.ref f)=true
 kp:W.keepIn K (.ref f)=true
section
variable {X:Cx} {pins:List (Addr × Obj)} {σ:St} {H:Hp} {s:Shared} {a C dx:Addr} {fs:List (Str × V)} {f:Str} {v:V} {A:Around} {E:Value->Shared->Prop}
theorem vP {b:Bool} {Q:Value->Shared->Prop} (I:Inv X pins σ H s) (e:H a=some (.ins C dx fs)) (c:Cls X.K C) (n:NoAttr X.K C f) (l:fs.lookup f=some v)
  (h:∀u s',Inv X pins σ H s'->RelV v u->Q u s'):wpAny (model X.prog X.w) A (getAttr (.ref a) f b) Q E s:=by
 obtain⟨mA,O,r,_,_,_⟩:=mU I.hok e
 obtain⟨u,hu,ru⟩:=RelO.some_of (v:=v) (o:=mA f) (by rw[<- l];exact r f)
 exact Ix I.kIn O (c.get f) c.hd n hu (Aa ru) (h u _ (I.tok _) ru)
theorem gL {m:Str} {g:Addr} {pl:Sem Bool} {Q:Value × List Value->Shared->Prop} (I:Inv X pins σ H s) (e:H a=some (.ins C dx fs)) (c:Cls X.K C) (k:Ab X.K C m g) (l:fs.lookup m=none)
  (h:Q (.ref g,[.ref a]) s):wpAny (model X.prog X.w) A (getMethod (.ref a) m pl) Q E s:=by
 obtain⟨mA,O,r,_,_,_⟩:=mU I.hok e
 have hn:mA m=none:=RelO.none_of (by rw[<- l];exact r m)
 exact Cv I.kIn O (c.get m) k.at_ k.fn hn h
theorem vQ {y:V} {u:Value} {Q:Unit->Shared->Prop} (I:Inv X pins σ H s) (e:H a=some (.ins C dx fs)) (c:Cls X.K C) (n:NoAttr X.K C f) (hl:fs.length<1000) (ry:RelV y u)
  (h:∀s',Inv X pins σ (aI H a (.ins C dx (bI f y fs))) s'->Q () s'):wpAny (model X.prog X.w) A (setAttr (.ref a) f u) Q E s:=by
 obtain⟨mA,O,r,wi,_,ho⟩:=mU I.hok e
 have hz:(fs.map (·.1)).length<=sizeLine:=by rw[dN,sizeLine_eq];omega
 refine Iy I.kIn O c.sa c.po n.taker c.hd wi hz fun h' O' sb=>h _ ?_
 have hd:∃o,h'.get? dx=some o:=let ⟨o,_,_,e',_⟩:=O'.ns;⟨o,e'⟩
 refine I.write (x:=a) (e:=dx) (by rw[e];exact True.intro) (.inr ho) (fun b q hb z=>(sb.2 b hb).trans z) hd ?_
 refine⟨by rw[aD O.ne];exact ho,?_,O.ne,O'.obj,_,O'.ns,fun g=>?_,fun g hg=>?_⟩
 ·have:=lS f y fs;omega
 ·show RelO ((bI f y fs).lookup g) (if g=f then some u else mA g)
  rw[lR];by_cases q:g=f
  ·rw[if_pos q,if_pos q];exact ry
  ·rw[if_neg q,if_neg q];exact r g
 ·by_cases q:g=f
  ·rw[q];exact(kX f y fs).1
  ·refine(kX f y fs).2 g (wi g fun z=>hg ?_)
   show(if g=f then some u else mA g)=none
   rw[if_neg q];exact z
theorem Inv.made (I:Inv X pins σ H s):Inv X pins σ (aI (aI H s.heap.objs.size (.own (s.heap.objs.size+1))) (s.heap.objs.size+1) (.ins C s.heap.objs.size []))
  {s with heap:=(s.heap.push W.emptyDict).push (W.instObj C s.heap.objs.size) }:=by
 have e1:(s.heap.push W.emptyDict).get? s.heap.objs.size=some W.emptyDict:=Heap.get?_push_size s.heap rfl
 have e2:((s.heap.push W.emptyDict).push (W.instObj C s.heap.objs.size)).get? (s.heap.objs.size+1)=some (W.instObj C s.heap.objs.size):=by
  have:=Heap.get?_push_size (s.heap.push W.emptyDict) (o:=W.instObj C s.heap.objs.size) rfl
  rwa [Heap.size_push]at this
 have e3:(s.heap.push W.emptyDict).Ns s.heap.objs.size (fun _=>none):=⟨W.emptyDict,#[],_,e1,rfl,(fun e he=>absurd he Zs),fun _=>rfl⟩
 have I1:=I.laid (a:=s.heap.objs.size) (o:=.own (s.heap.objs.size+1)) (h':=s.heap.push W.emptyDict) (t':=s.toks) (fun b u q=>iH _ q) (cB _) ⟨_,e1⟩
 refine I1.laid (a:=s.heap.objs.size+1) (o:=.ins C s.heap.objs.size []) (t':=s.toks) (fun b u q=>iH _ q) (Nat.le_of_eq (Heap.size_push _ _)) ?_
 have ne:s.heap.objs.size≠s.heap.objs.size+1:=Nat.ne_of_lt (Nat.lt_succ_self _)
 refine⟨by rw[aD ne,aB],Nat.zero_le _,ne,e2,fun _=>none,(Heap.Ns1.of_empty e3).at fun o q=>iH _ q,fun _=>True.intro,fun y hy=>absurd rfl hy⟩
theorem Iz {prog:Program} {w:World} {env:Env} {e:Expr} {f:Str} {pos:Pos} {s:Shared} {Q:Value->Shared->Prop} (hb:attributeBase e f env (eval e env)=eval e env)
  (h:wpAny (model prog w) A (eval e env) (fun o s₁=>wpAny (model prog w) A (getAttr o f true) Q E s₁) E s):wpAny (model prog w) A (eval (.Attribute e f pos) env) Q E s:=
 Attribute_any_ h (by rw[arm_eval_Attribute,hb])
end
section
variable {X:Cx} {pins:List (Addr × Obj)} {σ:St} {H:Hp} {s:Shared} {A:Around} {E:Value->Shared->Prop} {Q:Value->Shared->Prop} {c:Value} {b:Bool}
inductive jZ (K:W.Frag) (H:Hp):V->Value->Prop where
 | non:jZ K H .non (.type "NoneType")
 | bl (x:Bool):jZ K H (.bl x) (.type "bool")
 | int (i:Int):jZ K H (.int i) (.type "int")
 | str (x:Str):jZ K H (.str x) (.type "str")
 | flt (x:UInt64):jZ K H (.flt x) (.type "float")
 | lst {a:Addr} {xs:List V} (e:H a=some (.lst xs)):jZ K H (.ref a) (.type "list")
 | frz {a:Addr} {o:Obj} {xs:List V} (e:H a=some (.frz o (.lst xs))):jZ K H (.ref a) (.type "list")
 | tup {a:Addr} {xs:List V} (e:H a=some (.tup xs)):jZ K H (.ref a) (.type "tuple")
 | dK {a:Addr} {kvs:List (bE × V)} (e:H a=some (.dK kvs)):jZ K H (.ref a) (.type "dict")
 | dT {a:Addr} {kvs:List (List bE × V)} (e:H a=some (.dT kvs)):jZ K H (.ref a) (.type "dict")
 | ins {a C dx:Addr} {fs:List (Str × V)} (e:H a=some (.ins C dx fs)) (cl:Cls K C) (ha:W.findIn K (.ref C) "__class__"=some (some (.builtin "object.__class__")))
   (hn:W.specialIn K (.builtin "object.__class__") "__get__"=some (some (.builtin "getset_descriptor.__get__"))) (htk:W.takesIn K (.builtin "object.__class__")=some true)
   (hm:W.mroIn K C (.type "object")=some true):jZ K H (.ref a) (.ref C)
theorem Ac {x:V} {u t:Value} (I:Inv X pins σ H s) (rx:RelV x u) (ty:jZ X.K H x t) (e:W.kitOne X.K t c=some b) (h:∀tk,Q (.bool b) {s with toks:=tk }) :
  wpAny (model X.prog X.w) A (call (.builtin "isinstance") [u,c]) Q E s:=by
 cases ty with
 | non=>cases (show u=Value.none from rx);exact W.kia_one W.kitx_none I.kIn True.intro e (fun z=>nomatch z) h
 | bl y=>cases (show u=Value.bool y from rx);exact W.kia_one W.kitx_bool I.kIn True.intro e (fun z=>nomatch z) h
 | int i=>obtain⟨t,q⟩:=(show ∃t,u=Value.int i t from rx);cases q;exact W.kia_one W.kitx_int I.kIn True.intro e (fun z=>nomatch z) h
 | str y=>obtain⟨t,q⟩:=(show ∃t,u=Value.str y t from rx);cases q;exact W.kia_one W.kitx_str I.kIn True.intro e (fun z=>nomatch z) h
 | flt y=>obtain⟨t,q⟩:=(show ∃t,u=Value.float y t from rx);cases q;exact W.kia_one W.kitx_float I.kIn True.intro e (fun z=>nomatch z) h
 | @lst a xs ea=>
  cases (show u=Value.ref a from rx)
  obtain⟨_,_,n,_,h1⟩:=(show ObjOk X.prog X.w H s.heap a (.lst xs) from I.hok a _ ea)
  exact W.kia_one W.kitx_list I.kIn ⟨_,h1,rfl⟩ e (fun z=>nomatch z) h
 | @frz a ob xs ea=>
  cases (show u=Value.ref a from rx)
  obtain⟨_,_,_,n,_,h1⟩:=(show ObjOk X.prog X.w H s.heap a (.frz ob (.lst xs)) from I.hok a _ ea)
  exact W.kia_one W.kitx_list I.kIn ⟨_,h1,rfl⟩ e (fun z=>nomatch z) h
 | @tup a xs ea=>
  cases (show u=Value.ref a from rx)
  obtain⟨_,_,_,p⟩:=(show ObjOk X.prog X.w H s.heap a (.tup xs) from I.hok a _ ea)
  obtain⟨o,h1,h2,_⟩:=p
  exact W.kia_one W.kitx_tuple I.kIn ⟨o,h1,h2⟩ e (fun z=>nomatch z) h
 | @dK a kvs ea=>
  cases (show u=Value.ref a from rx)
  obtain⟨_,_,vs,_,p⟩:=(show ObjOk X.prog X.w H s.heap a (.dK kvs) from I.hok a _ ea)
  obtain⟨o,es,ep,h1,h2,_⟩:=p
  exact W.kia_one W.kitx_dict I.kIn ⟨o,h1,h2.1⟩ e (fun z=>nomatch z) h
 | @dT a kvs ea=>
  cases (show u=Value.ref a from rx)
  obtain⟨_,_,xs,_,o,es,ep,h1,h2,_⟩:=(show ObjOk X.prog X.w H s.heap a (.dT kvs) from I.hok a _ ea)
  exact W.kia_one W.kitx_dict I.kIn ⟨o,h1,h2.1⟩ e (fun z=>nomatch z) h
 | @ins a C dx fs ea cl ha hn htk hm=>
  cases (show u=Value.ref a from rx)
  obtain⟨mA,O,_⟩:=mU I.hok ea
  obtain⟨od,J,_⟩:=O.look
  exact W.kia_one (W.kitx_own (cl.get _) cl.hd ha hn htk hm) I.kIn J e (fun z=>nomatch z) h
end
end L2
namespace L2
open PySem PySem.Spec PyProof.Rows
structure Room (k:Nat) (A:Around):Prop where
 hd:A.handled=none
 dp:A.depth+3*k+5<recursionLimit
 un:A.units+16*k+200<cLine
theorem Room.mono {j k:Nat} {A:Around} (r:Room k A) (h:j<=k):Room j A:=⟨r.hd,by have:=r.dp;omega,by have:=r.un;omega⟩
theorem Room.deeper {k:Nat} {A:Around} (r:Room (k+1) A) (env:Env):Room k (A.deeper env):=
 ⟨r.hd,by have:=r.dp;show A.depth+1+3*k+5<_;omega,by have:=r.un;show A.units+3+16*k+200<_;omega⟩
theorem vR {A:Around} {C:Addr} {us:List Value} {kw:List (Str × Value)}:(A.under (.builtin "type.__call__" ⟨.ref C::us,kw⟩)).depth=A.depth+1:=by
 first | rfl | simp [Around.under,Code.weight,Code.isCreation,Code.isGuard,Code.isCaller,Code.frames,Code.isFrame,guardIds]
theorem vS {A:Around} {C:Addr} {us:List Value} {kw:List (Str × Value)}:(A.under (.builtin "type.__call__" ⟨.ref C::us,kw⟩)).units=A.units+1:=by
 first | rfl | simp [Around.under,Code.cUnits,Code.frames,Code.isFrame]
theorem Room.make {k:Nat} {A:Around} (r:Room (k+1) A) (C:Addr) (us:List Value) (kw:List (Str × Value)):Room k (A.under (.builtin "type.__call__" ⟨.ref C::us,kw⟩)):=
 ⟨r.hd,by have:=r.dp;rw[vR];omega,by have:=r.un;rw[vS];omega⟩
theorem Room.depth {k:Nat} {A:Around} (r:Room k A):A.depth<recursionLimit:=by have:=r.dp;omega
theorem Room.units {k:Nat} {A:Around} (r:Room k A):A.units+64<cLine:=by have:=r.un;omega
theorem Room.units0 {k:Nat} {A:Around} (r:Room k A):A.units<cLine:=by have:=r.un;omega
def vT:TA:=fun _ H Q=>Q [] H
def tE (ta:TE) (tr:TA):TA:=fun σ H Q=>ta σ H fun x H1=>tr σ H1 fun xs H2=>Q (x::xs) H2
section
variable {X:Cx} {e:Expr} {es:List Expr} {te:TE} {t:TA} {pos:Pos}
theorem vU:PA X [] vT:=fun _ _ _ _ H Q I h=>Calls.spliced_nil ⟨[],H,I,.nil,h⟩
theorem qX (ha:PE X e te) (hr:PA X es t) (hs:starEach (e::es) X.env=(false,eval e X.env)::starEach es X.env:=by rfl):PA X (e::es) (tE te t):=by
 intro pos pins s σ H Q I h;rw[hs];show wpAny _ _ (spliced ((false,eval e X.env)::backTo pos (starEach es X.env))) _ _ s
 refine Calls.spliced_cons (bG (ha pins s σ H _ I h) fun u s1 ⟨x,H1,I1,r1,q1⟩=>?_)
 exact bG (hr pos pins s1 σ H1 _ I1 q1) fun us s2 ⟨xs,H2,I2,r2,q2⟩=>⟨x::xs,H2,I2,.cons r1 r2,q2⟩
def Sq (t:TA):TE:=fun σ H Q=>t σ H fun xs H1=>xs.length<=sizeLine/\∀p,H1 p=none->Q (.ref p) (aI H1 p (.tup xs))
def Sr (t:TA):TE:=fun σ H Q=>t σ H fun xs H1=>xs.length<=sizeLine/\∀p,H1 p=none->Q (.ref p) (aI H1 p (.lst xs))
theorem Ov {x1} (h:PA X es t):PE X (.Tuple es x1 pos) (Sq t):=by
 intro pins s σ H Q I hq;refine wpAny_Tuple_spliced (bG (h pos pins s σ H _ I hq) fun us s1 ⟨xs,H1,I1,r,z,q⟩=>⟨by rw[<- r.length];exact z,?_⟩)
 have hf:H1 s1.heap.objs.size=none:=I1.hok.fresh (cB _)
 refine⟨.ref s1.heap.objs.size,aI H1 s1.heap.objs.size (.tup xs),I1.laid (t':=s1.toks) (fun b u e=>iH _ e) (cB _) ?_,rfl,q _ hf⟩
 exact⟨z,us,r,⟨_,Heap.get?_push_size _ rfl,rfl,_,rfl⟩⟩
theorem Ow (h:PA X es t):PE X (.List es pos) (Sr t):=by
 intro pins s σ H Q I hq;refine wpAny_List_spliced (bG (h pos pins s σ H _ I hq) fun us s1 ⟨xs,H1,I1,r,z,q⟩=>⟨by rw[<- r.length];exact z,?_⟩)
 have hf:H1 s1.heap.objs.size=none:=I1.hok.fresh (cB _)
 refine⟨.ref s1.heap.objs.size,aI H1 s1.heap.objs.size (.lst xs),I1.laid (t':=s1.toks) (fun b u e=>iH _ e) (cB _) ?_,rfl,q _ hf⟩
 exact⟨z,us,0,r,Heap.get?_push_size _ rfl⟩
end
abbrev Sp:=List V->Hp->VK->XK->Prop
abbrev Cy:=List Env->Hp->Shared->XK->Value->Shared->Prop
structure Env0 (P:Program) (w:World) (K:W.Frag) (mg:Str->Option Value) (base:Heap) (A:Around) (outer:List Env) (s:Shared) (H:Hp):Prop where
 frames:A.frames=some outer
 mod:Mod K mg base
 bs:∀b o,base.get? b=some o->s.heap.get? b=some o/\H b=none
 bsz:base.objs.size<=s.heap.objs.size
 funs:s.heap.FunFrames base outer
 frf:∀b∈iF outer,H b=none
 hok:HOk P w H s.heap
 bare:AllBare s.gens
def CE (outer:List Env) (P:Program) (w:World) (H:Hp) (s:Shared) (Q:VK) (u:Value) (s':Shared):Prop:=
 ∃v H',s'.os=s.os/\AllBare s'.gens/\Un (iF outer) [] H H' s.heap s'.heap/\HOk P w H' s'.heap/\RelV v u/\Q v H'
def CR (CX:Cy) (outer:List Env) (P:Program) (w:World) (H:Hp) (s:Shared) (Q:VK) (E:XK) (r:Result) (s':Shared):Prop:=
 match r with
 | .ok (.ret u)=>CE outer P w H s Q u s'
 | .ok _=>False
 | .error e=>CX outer H s E e s'
structure gM (P:Program) (w:World) (K:W.Frag) (mg:Str->Option Value) (base:Heap) (CX:Cy) (k:Nat) (f:Addr) (fd:FuncData) (ps:List Str) (sp:Sp):Prop where
 len:∀vs H Q E,sp vs H Q E->vs.length=ps.length
 run:∀(A:Around) (outer:List Env) (s:Shared) (H:Hp) (args:Args) (us:List Value) (vs:List V) (Q:VK) (E:XK),Room k A->Env0 P w K mg base A outer s H->BindsTo s fd args (ps.zip us)->Vals vs us->sp vs H Q E →
  codeAny (model P w) A (.call (.ref f) args) (CR CX outer P w H s Q E) s
theorem Env0.make {P:Program} {w:World} {K:W.Frag} {mg:Str->Option Value} {base:Heap} {A:Around} {outer:List Env} {s:Shared} {H:Hp} (e:Env0 P w K mg base A outer s H) (C:Addr) (us:List Value) (kw:List (Str × Value)) :
  Env0 P w K mg base (A.under (.builtin "type.__call__" ⟨.ref C::us,kw⟩)) outer s H:=⟨by first | exact e.frames | (simpa [Around.under,Code.envs,Code.isFrame,pushEnvs]using e.frames),e.mod,e.bs,e.bsz,e.funs,e.frf,e.hok,e.bare⟩
section
variable {X:Cx} {pins:List (Addr × Obj)} {σ:St} {H:Hp} {s s':Shared}
theorem Inv.env0 (I:Inv X pins σ H s):Env0 X.prog X.w X.K X.mg X.base X.A X.stack s H:=
 ⟨I.ok.frames,I.ok.mod,I.bs,iE I.ok.bsz I.sz,I.stack,I.stkFree,I.hok,I.bare⟩
theorem Inv.after {Q:VK} {u:Value} (I:Inv X pins σ H s) (h:CE X.stack X.prog X.w H s Q u s'):EP X pins σ Q u s':=by
 obtain⟨v,H',os,bare,un,hok,r,q⟩:=h
 obtain⟨hh,g,d,t,os'⟩:=s'
 obtain rfl:os'=s.os:=os
 exact⟨v,H',I.call (h':=hh) (g':=g) (d':=d) (t':=t) (ch:=[]) un hok bare (fun b z=>absurd z Zs),r,q⟩
end
def Ss (sp:Sp) (dvs:List V) (E:XK) (t:TA):TE:=fun σ H Q=>t σ H fun vs H1=>sp (vs++dvs) H1 Q E
def xQ (C:Addr) (sp:Sp) (dvs:List V) (E:XK) (t:TA):TE:=fun σ H Q=>t σ H fun vs H1=>∀x dx,H1 x=none->H1 dx=none->dx≠x →
 sp (.ref x::(vs++dvs)) (aI (aI H1 dx (.own x)) x (.ins C dx [])) (fun v H2=>v=.non/\Q (.ref x) H2) E
def Binds (K:W.Frag) (fd:FuncData) (ps:List Str) (ds:List Value):Prop:=
 ∀(s:Shared) (us:List Value),K.In s.heap->(us++ds).length=ps.length->BindsTo s fd ⟨us,[]⟩ (ps.zip (us++ds))
theorem Binds.all {K:W.Frag} {fd:FuncData} {ps:List Str} (h:∀us:List Value,us.length=ps.length->bindArgs fd ⟨us,[]⟩=pure (ps.zip us)):Binds K fd ps []:=fun s us _ hl=>by
 rw[List.append_nil]at hl ⊢;exact .of_eq (h us hl)
def kY (CX:Cy) (X:Cx) (E:XK):Prop:=∀(pins:List (Addr × Obj)) (σ:St) (H:Hp) (s:Shared) (e:Value) (s':Shared),Inv X pins σ H s->CX X.stack H s E e s'->X.xe e s'
section
variable {X:Cx} {CX:Cy} {k:Nat} {f C:Addr} {fd:FuncData} {ps:List Str} {sp:Sp} {dvs:List V} {ds:List Value} {E:XK} {x m:Str} {p pos apos:Pos} {e o:Expr} {es:List Expr} {ta:TE} {t:TA}
theorem qY {pins:List (Addr × Obj)} {σ:St} {H:Hp} {s:Shared} {Q:VK} {us:List Value} {vs:List V} (F:gM X.prog X.w X.K X.mg X.base CX k f fd ps sp) (hr:Room k X.A) (hb:Binds X.K fd ps ds) (hd:Vals dvs ds) (hx:kY CX X E)
  (I:Inv X pins σ H s) (r:Vals vs us) (h:sp (vs++dvs) H Q E):wpAny (model X.prog X.w) X.A (call (.ref f) us) (EP X pins σ Q) X.xe s:=by
 have r2:Vals (vs++dvs) (us++ds):=r.append hd
 have hl:(us++ds).length=ps.length:=by rw[<- r2.length];exact F.len _ _ _ _ h
 refine wpAny_call (codeAny_mono (F.run X.A X.stack s H ⟨us,[]⟩ (us++ds) (vs++dvs) Q E hr I.env0 (hb s us I.kIn hl) r2 h) fun r s' hq=>?_)
 cases r with
 | error e=>exact hx pins σ H s e s' I hq
 | ok fl=>
  cases fl with
  | ret u=>exact I.after hq
  | next=>exact False.elim hq
  | brk=>exact False.elim hq
  | cont=>exact False.elim hq
theorem Ja (F:gM X.prog X.w X.K X.mg X.base CX k f fd ps sp) (hr:Room k X.A) (hg:Gl X x) (hm:X.mg x=some (.ref f)) (hk:W.keepIn X.K (.ref f)=true) (hb:Binds X.K fd ps ds) (hd:Vals dvs ds) (hx:kY CX X E)
  (ha:PA X (e::es) t) (hdb:(x == ("__debug__":Str))=false:=by decide) (he:starEach (e::es) X.env=(false,eval e X.env)::starEach es X.env:=by rfl) (hpl:(backTo pos (starEach es X.env)).any (·.1)=false:=by rfl) :
  PE X (.Call (.Name x p) (e::es) [] pos) (Ss sp dvs E t):=by
 intro pins s σ H Q I h;refine wpAny_Call_Name_kw (iV I hg hm ?_ hdb)
 refine W.callWith_K (h₀:=X.base) I.ok.mod.kin hk (bG (ha pos pins s σ H _ I h) fun us s1 ⟨vs,H1,I1,r,q⟩=>⟨I1.kIn,?_⟩) he hpl
 exact qY F hr hb hd hx I1 r q
structure Mk (K:W.Frag) (C f:Addr):Prop where
 makes:W.makesIn K C=true
 init:W.findIn K (.ref C) "__init__"=some (some (.ref f))
 fn:W.isFn K (.ref f)=true
 kp:W.keepIn K (.ref C)=true
theorem tF {pins:List (Addr × Obj)} {σ:St} {H:Hp} {s:Shared} {Q:VK} {us:List Value} {vs:List V} (M:Mk X.K C f) (F:gM X.prog X.w X.K X.mg X.base CX k f fd ps sp) (hr:Room (k+1) X.A) (hb:Binds X.K fd ps ds) (hd:Vals dvs ds)
  (hx:kY CX X E) (I:Inv X pins σ H s) (r:Vals vs us)
  (h:∀x dx,H x=none->H dx=none->dx≠x->sp (.ref x::(vs++dvs)) (aI (aI H dx (.own x)) x (.ins C dx [])) (fun v H2=>v=.non/\Q (.ref x) H2) E) :
  wpAny (model X.prog X.w) X.A (call (.ref C) us) (EP X pins σ Q) X.xe s:=by
 have hq:=h (s.heap.objs.size+1) s.heap.objs.size (I.hok.fresh (Nat.le_succ _)) (I.hok.fresh (cB _)) (Nat.ne_of_lt (Nat.lt_succ_self _))
 have I2:=Inv.made (C:=C) I
 have r2:Vals (V.ref (s.heap.objs.size+1)::(vs++dvs)) (Value.ref (s.heap.objs.size+1)::(us++ds)):=.cons rfl (r.append hd)
 have hl:(Value.ref (s.heap.objs.size+1)::us++ds).length=ps.length:=by
  have e:=r2.length
  rw[F.len _ _ _ _ hq]at e;exact e.symm
 refine wpAny_call (Cw (f:=f) I.kIn M.makes M.init (beq_iff_eq.mp M.fn) (codeAny_mono (F.run _ X.stack _ _ ⟨Value.ref (s.heap.objs.size+1)::us,[]⟩ (Value.ref (s.heap.objs.size+1)::(us++ds)) _ _ E (hr.make C us [])
  (I2.env0.make C us []) (hb _ (Value.ref (s.heap.objs.size+1)::us) I2.kIn hl) r2 hq) fun r s' hq'=>?_))
 cases r with
 | error e=>exact hx pins σ _ _ e s' I2 hq'
 | ok fl=>
  cases fl with
  | ret u=>
   obtain⟨v,H',I3,rv,ev,q3⟩:=I2.after hq'
   subst ev;exact⟨rv,⟨V.ref (s.heap.objs.size+1),H',I3,rfl,q3⟩⟩
  | next=>exact False.elim hq'
  | brk=>exact False.elim hq'
  | cont=>exact False.elim hq'
theorem Jb (M:Mk X.K C f) (F:gM X.prog X.w X.K X.mg X.base CX k f fd ps sp) (hr:Room (k+1) X.A) (hg:Gl X x) (hm:X.mg x=some (.ref C)) (hb:Binds X.K fd ps ds) (hd:Vals dvs ds) (hx:kY CX X E)
  (ha:PA X (e::es) t) (hdb:(x == ("__debug__":Str))=false:=by decide) (he:starEach (e::es) X.env=(false,eval e X.env)::starEach es X.env:=by rfl) (hpl:(backTo pos (starEach es X.env)).any (·.1)=false:=by rfl) :
  PE X (.Call (.Name x p) (e::es) [] pos) (xQ C sp dvs E t):=by
 intro pins s σ H Q I h;refine wpAny_Call_Name_kw (iV I hg hm ?_ hdb)
 refine W.callWith_K (h₀:=X.base) I.ok.mod.kin M.kp (bG (ha pos pins s σ H _ I h) fun us s1 ⟨vs,H1,I1,r,q⟩=>⟨I1.kIn,?_⟩) he hpl
 exact tF M F hr hb hd hx I1 r q
theorem Cz (M:Mk X.K C f) (F:gM X.prog X.w X.K X.mg X.base CX k f fd ps sp) (hr:Room (k+1) X.A) (hg:Gl X x) (hm:X.mg x=some (.ref C)) (hb:Binds X.K fd ps ds) (hd:Vals dvs ds) (hx:kY CX X E)
  (hdb:(x == ("__debug__":Str))=false:=by decide):PE X (.Call (.Name x p) [] [] pos) (xQ C sp dvs E vT):=by
 intro pins s σ H Q I h;refine wpAny_Call_Name_kw (iV I hg hm ?_ hdb)
 exact W.callWith_K0 I.kIn M.kp (tF (us:=[]) M F hr hb hd hx I .nil h)
end
structure aG (N P:List Str) (sc:Scope):Prop where
 kind:sc.kind=.function
 co:sc.isCoroutine=false
 gen:sc.isGenerator=false
 nd:N.Nodup
 pre:N.take P.length=P
 par:∀x∈P,sc.names.lookup x=some .local∨sc.names.lookup x=some .cell
 nofree:∀y∈sc.names,y.2≠.free
theorem pM {kindOf:Str->Option NameKind} {x:Str}:∀ {binds:List (Str × Value)} {m:Str->Option Value},(∀v,(x,v)∉binds)->bindL kindOf binds m x=m x
 | [],_,_=>rfl
 | (n,v)::r,m,h=>by
  unfold bindL;rw[pM fun w hw=>h w (oX _ hw)]
  split
  ·have:x≠n:=by rintro rfl;exact h v nC
   simp [this]
  ·rfl
theorem pN {kindOf:Str->Option NameKind} {x:Str}:∀ {binds:List (Str × Value)} {m:Str->Option Value},(∀v,(x,v)∉binds)->bindC kindOf binds m x=m x
 | [],_,_=>rfl
 | (n,v)::r,m,h=>by
  unfold bindC;rw[pN fun w hw=>h w (oX _ hw)]
  split
  ·rfl
  ·have:x≠n:=by rintro rfl;exact h v nC
   simp [this]
theorem pO {kindOf:Str->Option NameKind} {x:Str} {v:Value}:∀ {P:List Str} {vs:List Value} {i:Nat} {m:Str->Option Value},P.Nodup->P[i]?=some x->vs[i]?=some v->kindOf x=some .local →
  bindL kindOf (P.zip vs) m x=some v
 | [],_,_,_,_,h,_,_=>by simp at h
 | _::_,[],_,_,_,_,h,_=>by simp at h
 | p::P,w::vs,0,m,nd,h1,h2,hk=>by
  simp at h1 h2;subst h1;subst h2
  show bindL kindOf ((p,w)::P.zip vs) m p=_
  unfold bindL;rw[pM fun v hv=>(List.nodup_cons.mp nd).1 (List.of_mem_zip hv).1,if_pos hk]
  simp
 | p::P,w::vs,i+1,m,nd,h1,h2,hk=>by
  show bindL kindOf ((p,w)::P.zip vs) m x=_
  unfold bindL;exact pO (i:=i) (List.nodup_cons.mp nd).2 (by simpa using h1) (by simpa using h2) hk
theorem pP {kindOf:Str->Option NameKind} {x:Str} {v:Value}:∀ {P:List Str} {vs:List Value} {i:Nat} {m:Str->Option Value},P.Nodup->P[i]?=some x->vs[i]?=some v->kindOf x≠some .local →
  bindC kindOf (P.zip vs) m x=some v
 | [],_,_,_,_,h,_,_=>by simp at h
 | _::_,[],_,_,_,_,h,_=>by simp at h
 | p::P,w::vs,0,m,nd,h1,h2,hk=>by
  simp at h1 h2;subst h1;subst h2
  show bindC kindOf ((p,w)::P.zip vs) m p=_
  unfold bindC;rw[pN fun v hv=>(List.nodup_cons.mp nd).1 (List.of_mem_zip hv).1,if_neg hk]
  simp
 | p::P,w::vs,i+1,m,nd,h1,h2,hk=>by
  show bindC kindOf ((p,w)::P.zip vs) m x=_
  unfold bindC;exact pP (i:=i) (List.nodup_cons.mp nd).2 (by simpa using h1) (by simpa using h2) hk
def start (N:List Str) (vs:List V):St:=vs.map some++List.replicate (N.length - vs.length) none
def eT (CX:Cy) (P:Program) (w:World) (K:W.Frag) (mg:Str->Option Value) (base:Heap) (N:List Str) (qual:Str) (scope:Scope) (f:Addr) (cd:Value) (A:Around) (outer:List Env) (s:Shared) (H:Hp) (E:XK):Cx where
 prog:=P
 w:=w
 K:=K
 mg:=mg
 base:=base
 A:=A.deeper (envOfC qual scope s.heap.objs.size f cd)
 N:=N
 s₀:=s
 H₀:=H
 env:=envOfC qual scope s.heap.objs.size f cd
 outer:=outer
 stack:=envOfC qual scope s.heap.objs.size f cd::outer
 ex:=[]
 calm:=true
 fn:=fun _=>true
 pn:=[]
 xe:=fun e s'=>wpAny (model P w) (A.deeper (envOfC qual scope s.heap.objs.size f cd)) (leaving (envOfC qual scope s.heap.objs.size f cd) e) (fun _ s''=>CX outer H s E e s'') (fun e' s''=>CX outer H s E e' s'') s'
theorem tG {sc:Scope} {n:Nat} {x:Str} (h:sc.names.lookup x=some .cell):∃c,(cellsFrom n sc.names []).lookup x=some c:=by
 have q:=W.cellsFrom_some sc.names n [] (.inl h)
 exact Option.isSome_iff_exists.mp q
theorem Ad {CX:Cy} {P:Program} {w:World} {K:W.Frag} {mg:Str->Option Value} {base:Heap} {N ps:List Str} {qual:Str} {scope:Scope} {f:Addr} {cd:Value} {A:Around} {outer:List Env} {s s1:Shared} {H:Hp} {E:XK} {us:List Value} {vs:List V}
  (S:aG N ps scope) (hd:A.handled=none) (e0:Env0 P w K mg base A outer s H) (hl:vs.length=ps.length) (r:Vals vs us)
  (x:InCallC s s.heap.objs.size (bindL (envOfC qual scope s.heap.objs.size f cd).kindOf (ps.zip us) fun _=>none) (cellsFrom (s.heap.objs.size+1) scope.names []) (bindC (envOfC qual scope s.heap.objs.size f cd).kindOf (ps.zip us) fun _=>none) s1) :
  Inv (eT CX P w K mg base N qual scope f cd A outer s H E) [] (start N vs) H s1:=by
 have hpl:ps.length<=N.length:=by have:=congrArg List.length S.pre;rw[qR]at this;omega
 obtain⟨h1,tk,rfl,hk⟩:=x.done
 have noA:∀b:Addr,b∉(eT CX P w K mg base N qual scope f cd A outer s H E).ex:=fun b z=>absurd (show b∈([]:List Addr) from z) Zs
 refine⟨⟨e0.mod,S.kind,rfl,rfl,cB _,fun y z c h1 h2=>?_,fun y hy=>?_,fun y c _ h=>?_,fun _=>hd,Around.frames_deeper e0.frames,.inr ⟨rfl,rfl⟩,fun b z=>absurd z (noA b),e0.bs,e0.bsz,fun b _ _=>noA b,fun b z=>absurd z (noA b),e0.funs,e0.frf⟩,
  rfl,e0.bare,Un.kept hk,⟨_,x.toInCall.ns,fun i y v h1 h2 h3=>?_⟩,fun y c h=>⟨_,x.cell y c h⟩,e0.hok.fresh (cB _),fun y c h=>?_,fun p hp=>absurd (show p∈([]:List (Addr × Obj)) from hp) Zs,e0.hok.kept hk,?_⟩
 ·exact name_of_addr x.apart (PySem.mem_of_lookup h1) (PySem.mem_of_lookup h2)
 ·have hy:scope.names.lookup y=some .cell∨scope.names.lookup y=some .free:=hy
  rcases hy with hy | hy
  ·exact tG hy
  ·exact absurd rfl (S.nofree _ (PySem.mem_of_lookup hy))
 ·exact Nat.le_of_lt (x.above y c (PySem.mem_of_lookup h))
 ·have hi:i<vs.length:=by
   unfold start at h2;by_cases hi:i<vs.length
   ·exact hi
   ·rw[List.getElem?_append_right (by simpa using hi)]at h2
    rw[List.getElem?_replicate]at h2;split at h2 <;> cases h2
  have ha:vs[i]?=some v:=by
   unfold start at h2;rw[List.getElem?_append_left (by simpa using hi),iU]at h2
   cases e:vs[i]? with
   | none=>rw[e]at h2;cases h2
   | some a=>rw[e]at h2;cases h2;rfl
  obtain⟨u,hu,rv⟩:=r.get ha
  have hp:ps[i]?=some y:=by
   rw[<- S.pre,List.getElem?_take_of_lt Zo];exact h1
  have ndP:ps.Nodup:=by rw[<- S.pre];exact S.nd.sublist (List.take_sublist _ _)
  refine⟨u,rv,?_⟩
  rcases S.par y (jW hp) with k | k
  ·exact .inl ⟨k,pO ndP hp hu k⟩
  ·obtain⟨c,e⟩:=tG (n:=s.heap.objs.size+1) k
   refine .inr ⟨.inl k,c,e,?_⟩
   have q:=x.cell y c e
   rw[pP ndP hp hu (by show scope.names.lookup y≠_;rw[k];decide)]at q
   exact q
 ·exact e0.hok.fresh (Nat.le_of_lt (x.above y c (PySem.mem_of_lookup h)))
 ·unfold start;show _=N.length
  rw[zO,dN,List.length_replicate];omega
theorem Db {CX:Cy} {P:Program} {w:World} {K:W.Frag} {mg:Str->Option Value} {base:Heap} {k:Nat} {f:Addr} {name qual:Str} {params:Arguments} {body:List Stmt} {scope:Scope} {dV kV doc pm cdv ct oc:Value} {an od:Option Addr}
  {osl:Array (Option Value)} {N ps:List Str} {sp:Sp} (lk:K.lookup f=some ⟨oc,od,.func (W.fnOf name qual params body scope dV kV doc pm an cdv ct),osl⟩) (hcd:W.codeIn K cdv qual=true) (S:aG N ps scope)
  (len:∀vs H Q E,sp vs H Q E->vs.length=ps.length)
  (hbody:∀(A:Around) (outer:List Env) (s:Shared) (H:Hp) (vs:List V) (Q:VK) (E:XK),Room k (A.deeper (envOfC qual scope s.heap.objs.size f cdv))->sp vs H Q E →
   ∃t,PSs (eT CX P w K mg base N qual scope f cdv A outer s H E) body t/\t {nx:=fun _ H'=>Q .non H',rt:=Q } (start N vs) H) :
  gM P w K mg base CX (k+1) f (W.fnOf name qual params body scope dV kV doc pm an cdv ct) ps sp:=by
 refine⟨len,fun A outer s H args us vs Q E hr e0 hb r hsp=>?_⟩
 have hl:=len _ _ _ _ hsp
 have KX:K.In s.heap:=e0.mod.kin.keeps fun b o e=>(e0.bs b o e).1
 have lim:s.heap.NoLimit:=e0.mod.nolimit.keeps fun b o e=>(e0.bs b o e).1
 have hkind:∀y∈ps.zip us,scope.names.lookup y.1=some .local∨(scope.names.lookup y.1=some .cell/\((cellsFrom (s.heap.objs.size+1) scope.names []).lookup y.1).isSome=true):=fun⟨n,v⟩ hy=>by
  rcases S.par n (List.of_mem_zip hy).1 with q | q
  ·exact .inl q
  ·exact .inr ⟨q,W.cellsFrom_some _ _ _ (.inl q)⟩
 refine codeAny_call_function hr.depth (KX _ _ lk) rfl S.co S.gen rfl (W.codeRec_of KX hcd) (hb _ _ _ _ ?_)
 refine wpAny_newFunctionEnv_cells S.kind hkind fun env he s1 x=>?_
 subst he;refine⟨lim.keeps x.toInCall.keep,codeAny_func ?_⟩
 obtain⟨t,ht,hq⟩:=hbody A outer s H vs Q E (hr.deeper _) hsp
 have I:Inv (eT CX P w K mg base N qual scope f cdv A outer s H E) [] (start N vs) H s1:=Ad S hr.hd e0 hl r x
 refine wpAny_mono (ht [] s1 (start N vs) H _ I hq) (fun fl s' hs=>?_) fun e s' hs=>hs
 have fin:∀ {σ':St} {H':Hp} {v:V} {u:Value},Inv (eT CX P w K mg base N qual scope f cdv A outer s H E) [] σ' H' s'->RelV v u->Q v H'->CE outer P w H s Q u s':=
  fun {σ' H' v u} J rv q=>⟨v,H',J.os,J.bare,J.base,J.hok,rv,q⟩
 cases fl with
 | ret u=>
  obtain⟨v,σ',H',J,rv,q⟩:=hs
  exact fin J rv q
 | next=>
  obtain⟨σ',H',J,q⟩:=hs
  exact fin (v:=V.non) (u:=Value.none) J rfl q
 | brk=>
  obtain⟨_,_,_,q⟩:=hs
  exact False.elim q
 | cont=>
  obtain⟨_,_,_,q⟩:=hs
  exact False.elim q
end L2
namespace L2
open PySem PySem.Spec PyProof.Rows
section
variable {X:Cx} {x:Str} {p pos:Pos} {e:Expr} {es:List Expr} {t:TA} {id T:String} {r:List V->Hp->VK->Prop}
def Rq (r:List V->Hp->VK->Prop) (t:TA):TE:=fun σ H Q=>t σ H fun vs H1=>r vs H1 Q
theorem tH (hc:CallR X (.builtin id) r) (hg:Gl X x) (hm:X.mg x=none) (hv:bootBuiltins x=some (.builtin id)) (ha:PA X (e::es) t) (hn:x≠"__name__":=by decide) (hdb:(x == ("__debug__":Str))=false:=by decide)
  (he:starEach (e::es) X.env=(false,eval e X.env)::starEach es X.env:=by rfl) (hpl:(backTo pos (starEach es X.env)).any (·.1)=false:=by rfl):PE X (.Call (.Name x p) (e::es) [] pos) (Rq r t):=by
 intro pins s σ H Q I h;refine wpAny_Call_Name_kw (nE I hg hm hv ?_ hn hdb)
 exact PyProof.Rows.callWith_builtin1 (bG (ha pos pins s σ H _ I h) fun us s1 ⟨vs,H1,I1,r1,q1⟩=>hc pins s1 σ H1 vs us Q I1 r1 q1) he hpl
theorem Ae (hc:CallR X (.type T) r) (hg:Gl X x) (hm:X.mg x=none) (hv:bootBuiltins x=some (.type T)) (ha:PA X (e::es) t) (hn:x≠"__name__":=by decide) (hdb:(x == ("__debug__":Str))=false:=by decide)
  (he:starEach (e::es) X.env=(false,eval e X.env)::starEach es X.env:=by rfl) (hpl:(backTo pos (starEach es X.env)).any (·.1)=false:=by rfl):PE X (.Call (.Name x p) (e::es) [] pos) (Rq r t):=by
 intro pins s σ H Q I h;refine wpAny_Call_Name_kw (nE I hg hm hv ?_ hn hdb)
 exact PyProof.Rows.callWith_type1 (bG (ha pos pins s σ H _ I h) fun us s1 ⟨vs,H1,I1,r1,q1⟩=>hc pins s1 σ H1 vs us Q I1 r1 q1) he hpl
end
end L2
namespace HT
open PySem PyProof.Rows
section
variable {prog:Program} {w:World} {A:Around} {E:Value->Shared->Prop} {s:Shared}
theorem cat_tup {t b:Addr} {vs ws:List Value} {Q:Value->Shared->Prop} (ht:IsTup s.heap t vs.toArray) (hb:IsTup s.heap b ws.toArray) (hv:vs≠[])
  (h1:ws=[]->Q (.ref t) s) (h2:ws≠[]->Q (.ref s.heap.objs.size) {s with heap:=s.heap.push {cls:=.type "tuple",data:=.seq (vs++ws).toArray } })
  (hsz:vs.length+ws.length<=sizeLine):wpAny (model prog w) A (binaryOp .Add (.ref t) (.ref b)) Q E s:=by
 obtain⟨⟨cls,dd,data,sl⟩,ho,hc,n,hd⟩:=id ht
 obtain⟨⟨cls2,dd2,data2,sl2⟩,ho2,hc2,n2,hd2⟩:=id hb
 simp only at hc hd hc2 hd2
 subst hc hd hc2 hd2;have e:vs.toArray++ws.toArray=(vs++ws).toArray:=by simp
 by_cases hw:ws=[]
 ·exact concat_meets ⟨_,ho,rfl⟩ ⟨_,ho2,rfl⟩ noFill_tuple_add seq_tuple_add PySem.F.slot_tuple_add PySem.F.entry_tuple_add (PySem.F.args_tuple_add_2 _ _)
   (tuple_addW1 t b vs.toArray ws.toArray n n2 dd dd2 sl sl2 (by simpa using hv) (by simp [hw])) ⟨ho,ho2,h1 hw⟩
 ·refine concat_meets ⟨_,ho,rfl⟩ ⟨_,ho2,rfl⟩ noFill_tuple_add seq_tuple_add PySem.F.slot_tuple_add PySem.F.entry_tuple_add (PySem.F.args_tuple_add_2 _ _)
   (tuple_addW2 t b vs.toArray ws.toArray n n2 dd dd2 sl sl2 (by simpa using hv) (by simpa using hw) (by rw[eC,eC];exact hsz)) ⟨ho,ho2,?_⟩
  rw[e];exact h2 hw
def sIx (n d:Nat):Option Int->Nat
 | none=>d
 | some v=>if v<0 then (v+(n:Int)).toNat else min v.toNat n
theorem sIx_none (n d:Nat):sIx n d none=d:=rfl
theorem sIx_nat (n d k:Nat):sIx n d (some (k:Int))=min k n:=by
 show(if (k:Int)<0 then ((k:Int)+(n:Int)).toNat else min (k:Int).toNat n)=min k n
 rw[if_neg Zo,Int.toNat_natCast]
theorem Ox (n d:Nat) (hd:d<=n) (o:Option Int):sIx n d o<=n:=by
 cases o with
 | none=>exact hd
 | some v=>
  show(if v<0 then (v+(n:Int)).toNat else min v.toNat n)<=n
  by_cases hv:v<0
  ·rw[if_pos hv];omega
  ·rw[if_neg hv];exact Nat.min_le_right _ _
theorem xR (v:Int) (n d:Nat):(if v<0 then max (v+(n:Int)) 0 else min v (n:Int))=((sIx n d (some v):Nat):Int):=by
 show(if v<0 then max (v+(n:Int)) 0 else min v (n:Int))=(((if v<0 then (v+(n:Int)).toNat else min v.toNat n):Nat):Int)
 by_cases hv:v<0
 ·simp only [if_pos hv];omega
 ·simp only [if_neg hv];omega
theorem vV (lo hi:Option Int) (n:Nat):Builtin.Slice.sliceAdjust lo hi 1 (n:Int)=(((sIx n 0 lo:Nat):Int),((sIx n n hi:Nat):Int)):=by
 have h1:¬ ((1:Int)<0):=by omega
 unfold Builtin.Slice.sliceAdjust;simp only [h1,if_false]
 refine Prod.ext ?_ ?_
 ·cases lo with
  | none=>rfl
  | some v=>exact xR v n 0
 ·cases hi with
  | none=>rfl
  | some v=>exact xR v n n
theorem vW (i j:Nat):Builtin.Slice.slicePlaces (i:Int) (j:Int) 1=j - i:=by
 unfold Builtin.Slice.slicePlaces;have h1:(1:Int) > 0:=by omega
 simp only [h1,if_true,Int.ediv_one]
 split <;> omega
theorem nG {v:Value} {o:Option Int} {Q:Option Int->Shared->Prop} (p:IsPart v o) (h:Q o s):wpAny (model prog w) A (Builtin.Slice.slicePartIndex v) Q E s:=by
 cases p with
 | none=>exact slicePart_none h
 | int i t=>exact slicePart_int h
theorem sliceApplied_gen {sl:Addr} {vl vu:Value} {lo hi:Option Int} {n:Nat} {Q:Int × Int × Nat->Shared->Prop} (hs:s.heap.IsSliceOf sl vl vu .none) (pl:IsPart vl lo) (pu:IsPart vu hi)
  (h:Q (((sIx n 0 lo:Nat):Int),1,sIx n n hi - sIx n 0 lo) s):wpAny (model prog w) A (Builtin.Slice.sliceApplied (.ref sl) (pure (n:Int))) Q E s:=by
 obtain⟨os,hos,hcs,hds⟩:=id hs
 unfold Builtin.Slice.sliceApplied Builtin.Slice.sliceFields;refine wpAny_bind (wpAny_bind (wpAny_field hos hds (x:=vl) rfl (wpAny_bind (wpAny_field hos hds (x:=vu) rfl (wpAny_bind (wpAny_field hos hds (x:=.none) rfl (wpAny_pure ?_)))))))
 refine wpAny_bind (slicePart_none ?_)
 show wpAny _ _ (if ((1:Int) == 0)=true then _ else _) _ _ s
 rw[if_neg Zd]
 refine wpAny_bind (nG pl (wpAny_bind (nG pu (wpAny_bind (wpAny_pure ?_)))))
 show wpAny _ _ (match Builtin.Slice.sliceAdjust lo hi 1 (n:Int) with | (lo,hi)=>pure (lo,(1:Int),Builtin.Slice.slicePlaces lo hi 1)) _ _ s
 rw[vV lo hi n];show wpAny _ _ (pure (((sIx n 0 lo:Nat):Int),(1:Int),Builtin.Slice.slicePlaces ((sIx n 0 lo:Nat):Int) ((sIx n n hi:Nat):Int) 1)) _ _ s
 rw[vW];exact wpAny_pure h
theorem Dc (xs:Array Value) (i k:Nat):((List.range k).filterMap fun(m:Nat)=>xs[((i:Int)+(m:Int)*1).toNat]?).toArray=((xs.toList.drop i).take k).toArray:=by
 have e:(fun(m:Nat)=>xs[((i:Int)+(m:Int)*1).toNat]?)=fun m=>xs[i+m]?:=by
  funext m
  have:((i:Int)+(m:Int)*1).toNat=i+m:=by omega
  rw[this]
 rw[e];have:=pick_run xs i k
 rw[List.filterMap_map]at this;have e2:((fun x=>xs[x]?)∘fun x=>i+x)=fun m=>xs[i+m]?:=rfl
 rw[e2]at this;rw[this]
theorem getItem_tuple_cut {t sl:Addr} {items:Array Value} {vl vu:Value} {lo hi:Option Int} {Q:Value->Shared->Prop} (ht:IsTup s.heap t items) (hs:s.heap.IsSliceOf sl vl vu .none) (pl:IsPart vl lo) (pu:IsPart vu hi)
  (hw:¬ (sIx items.size 0 lo=0/\sIx items.size items.size hi=items.size))
  (h:Q (.ref s.heap.objs.size) {s with heap:=s.heap.push {cls:=.type "tuple",data:=.seq ((items.toList.drop (sIx items.size 0 lo)).take (sIx items.size items.size hi - sIx items.size 0 lo)).toArray } })
  (hsz:items.size<=sizeLine):wpAny (model prog w) A (getItem (.ref t) (.ref sl)) Q E s:=by
 have htake:sizeOk (.seq ((items.toList.drop (sIx items.size 0 lo)).take (sIx items.size items.size hi - sIx items.size 0 lo)).toArray):=by
  show((items.toList.drop (sIx items.size 0 lo)).take (sIx items.size items.size hi - sIx items.size 0 lo)).toArray.size<=sizeLine
  rw[eC,qR,List.length_drop,Array.length_toList];omega
 have hj:sIx items.size items.size hi<=items.size:=Ox _ _ (cB _) hi
 obtain⟨os,hos,hcs,hds⟩:=id hs
 have hTs:s.TypeIs (.ref sl) "slice":=⟨os,hos,hcs⟩
 unfold getItem;try with_reducible refine wpAny_holding ?_
 first | refine wpAny_bind (wpAny_pure ?_) | skip
 refine wpAny_bind (wpAny_sequenceKey ht.typeIs Zd ?_)
 refine wpAny_bind (wpAny_callSpecial?_slot (name:=Str.ofString "__getitem__") ht.typeIs PyProof.Rows.slot_tuple_getitem
  (wpAny_call_entry PyProof.Rows.slot_tuple_getitem ht.typeIs entry_tuple_getitem ?_ (args_tuple_getitem _ _)))
 show wpAny _ _ (Builtin.Tuple.tupleItemsOf (.ref t) >>= _) _ _ s
 refine wpAny_bind (tupleItemsOf_ ht ?_)
 refine wpAny_bind (wpAny_typeOf hTs ?_)
 rw[if_pos Zd]
 refine wpAny_bind (sliceApplied_gen hs pl pu ?_)
 have hno:¬ ((((sIx items.size 0 lo:Nat):Int) == 0&&(1:Int) == 1&&(sIx items.size items.size hi - sIx items.size 0 lo) == items.size)=true):=by
  intro q;rw[Bool.and_eq_true,Bool.and_eq_true]at q;have q1:((sIx items.size 0 lo:Nat):Int)=0:=eq_of_beq q.1.1
  have q2:sIx items.size items.size hi - sIx items.size 0 lo=items.size:=eq_of_beq q.2
  exact hw ⟨Zo,Zo⟩
 show wpAny _ _ (if (((sIx items.size 0 lo:Nat):Int) == 0&&(1:Int) == 1&&(sIx items.size items.size hi - sIx items.size 0 lo) == items.size)=true then _ else _) _ _ s
 rw[if_neg hno,Dc];first
  | exact wpAny_bind (m:=Builtin.Tuple.tupleExact _) (wpAny_newObj_type (wpAny_pure ⟨_,rfl,wpAny_pure h⟩) htake)
  | exact wpAny_bind (m:=Builtin.Tuple.tupleExact _) (wpAny_newObj_type (wpAny_bind (wpAny_pure (wpAny_pure ⟨_,rfl,wpAny_pure h⟩))) htake)
  | exact wpAny_bind (wpAny_bind (m:=Builtin.Tuple.tupleExact _) (wpAny_newObj_type (wpAny_pure (wpAny_pure ⟨_,rfl,wpAny_pure h⟩)) htake))
  | exact wpAny_bind (wpAny_bind (m:=Builtin.Tuple.tupleExact _) (wpAny_newObj_type (wpAny_pure ⟨_,rfl,wpAny_pure h⟩) htake))
end
end HT
namespace L2
open PySem PySem.Spec PyProof.Rows
abbrev TO:=St->Hp->(Option Int->Hp->Prop)->Prop
def PO (X:Cx) (e:Option Expr) (t:TO):Prop:=
 ∀(pins:List (Addr × Obj)) (s:Shared) (σ:St) (H:Hp) (Q:Option Int->Hp->Prop),Inv X pins σ H s->t σ H Q →
  wpAny (model X.prog X.w) X.A (evalPart e X.env) (fun u s'=>∃o H',Inv X pins σ H' s'/\IsPart u o/\Q o H') X.xe s
def xS:TO:=fun _ H Q=>Q none H
def De (t:TE):TO:=fun σ H Q=>t σ H fun x H1=>∃i,x=.int i/\Q (some i) H1
theorem nI {ns:List Int}:∀ {us:List Value},Vals (ns.map V.int) us->IntsAre us ns:=by
 induction ns with
 | nil=>intro us r;rw[List.map_nil]at r;cases r;exact .nil
 | cons n ns ih=>
  intro us r;rw[List.map_cons]at r;cases r with
  | cons r1 r2=>
   obtain⟨t,e⟩:=r1
   subst e;exact .cons n t (ih r2)
section
variable {X:Cx} {e:Expr} {te:TE} {lo hi:Option Expr} {tl th:TO} {pos p2:Pos}
theorem Jc:PO X none xS:=by
 intro pins s σ H Q I h;rw[evalPart_none];exact wpAny_pure ⟨none,H,I,.none,h⟩
theorem Jd (h:PE X e te):PO X (some e) (De te):=by
 intro pins s σ H Q I hw;rw[evalPart_some];refine bG (h pins s σ H _ I hw) fun u s1 ⟨x,H1,I1,r1,q1⟩=>?_
 obtain⟨i,rfl,q⟩:=q1
 obtain⟨t,rfl⟩:=r1
 exact⟨some i,H1,I1,.int i t,q⟩
def SlR (X:Cx) (r:V->Option Int->Option Int->Hp->VK->Prop):Prop:=
 ∀(pins:List (Addr × Obj)) (s:Shared) (σ:St) (H:Hp) (x:V) (v vl vu:Value) (lo hi:Option Int) (sl:Addr) (Q:VK),Inv X pins σ H s->RelV x v->s.heap.IsSliceOf sl vl vu .none->IsPart vl lo->IsPart vu hi->r x lo hi H Q →
  ∃T id,typeLookup (.type T) "__getitem__"=pure (some (.builtin id))/\s.TypeIs v T/\wpAny (model X.prog X.w) X.A (getItem v (.ref sl)) (EP X pins σ Q) X.xe s
def Wy (r:V->Option Int->Option Int->Hp->VK->Prop) (te:TE) (tl th:TO):TE:=fun σ H Q=>te σ H fun x H1=>tl σ H1 fun l H2=>th σ H2 fun u H3=>r x l u H3 Q
theorem Df {r:V->Option Int->Option Int->Hp->VK->Prop} (hr:SlR X r) (he:PE X e te) (hl:PO X lo tl) (hu:PO X hi th):PE X (.Subscript e (.Slice lo hi none p2) pos) (Wy r te tl th):=by
 intro pins s σ H Q I h;refine Subscript_ (bG (he pins s σ H _ I h) fun v s1 ⟨x,H1,I1,r1,q1⟩=>?_)
 refine wpAny_Slice (bG (hl pins s1 σ H1 _ I1 q1) fun vl s2 ⟨l,H2,I2,pl,q2⟩=>bG (hu pins s2 σ H2 _ I2 q2) fun vu s3 ⟨u,H3,I3,pu,q3⟩=>?_)
 rw[evalPart_none];refine wpAny_pure ?_
 have I4:Inv X pins σ H3 {s3 with heap:=s3.heap.push {cls:=.type "slice",data:=.fields #[vl,vu,.none] } }:=I3.kept (t':=s3.toks) fun b ob q=>iH _ q
 obtain⟨T,id,hT,ht,hg⟩:=hr pins {s3 with heap:=s3.heap.push {cls:=.type "slice",data:=.fields #[vl,vu,.none] } } σ H3 x v vl vu l u s3.heap.objs.size Q I4 r1 (Heap.IsSliceOf.new ..) pl pu q3
 show wpAny (model X.prog X.w) X.A (subscriptTail e (.Slice lo hi none p2) v (.ref s3.heap.objs.size)) (EP X pins σ Q) X.xe {s3 with heap:=s3.heap.push {cls:=.type "slice",data:=.fields #[vl,vu,.none] } }
 exact tail_any (ops:=[.ref s3.heap.objs.size,v]) ht hT hg (by with_unfolding_all rfl)
def Af (xs:List V) (lo hi:Option Int):List V:=(xs.drop (HT.sIx xs.length 0 lo)).take (HT.sIx xs.length xs.length hi - HT.sIx xs.length 0 lo)
theorem lT (xs:List V) (lo hi:Option Int):(Af xs lo hi).length<=xs.length:=by
 unfold Af;rw[qR,List.length_drop];omega
def Vn (K:W.Frag):V->Option Int->Option Int->Hp->VK->Prop:=fun x lo hi H Q=>∃a xs,x=.ref a/\SqT K H a xs ∧
 ¬ (HT.sIx xs.length 0 lo=0/\HT.sIx xs.length xs.length hi=xs.length)/\∀p,H p=none->Q (.ref p) (aI H p (.tup (Af xs lo hi)))
theorem Oy:SlR X (Vn X.K):=by
 intro pins s σ H x v vl vu lo hi sl Q I rx hs pl pu h;obtain⟨a,xs,rfl,hx,hw,q⟩:=h
 cases rx
 obtain⟨its,r,ht,hz⟩:=I.tuple hx
 have hlen:its.toArray.size=xs.length:=by rw[eC];exact r.length.symm
 refine⟨"tuple",_,PyProof.Rows.slot_tuple_getitem.lookup,ht.typeIs,?_⟩
 refine HT.getItem_tuple_cut ht hs pl pu (by rw[hlen];exact hw) ?_ (by rw[hlen];exact hz)
 rw[hlen];refine⟨.ref s.heap.objs.size,_,I.laid (t':=s.toks) (o:=.tup (Af xs lo hi)) (fun b ob q=>iH _ q) (cB _) ?_,rfl,q _ (I.hok.fresh (cB _))⟩
 exact⟨iE (lT xs lo hi) hz,_,(r.drop (HT.sIx xs.length 0 lo)).take (HT.sIx xs.length xs.length hi - HT.sIx xs.length 0 lo),IsTup.new _ _⟩
def Su (K:W.Frag):R2:=fun x y H Q=>∃a b xs ys,x=.ref a/\y=.ref b/\SqT K H a xs/\SqT K H b ys/\xs≠[]/\xs.length+ys.length<=sizeLine ∧
 (ys=[]->Q (.ref a) H)/\(ys≠[]->∀p,H p=none->Q (.ref p) (aI H p (.tup (xs++ys))))
theorem Vals.nil_iff {xs:List V} {us:List Value} (r:Vals xs us):us=[]↔xs=[]:=by
 cases r with
 | nil=>simp
 | cons _ _=>simp
theorem Je:OpR X (binaryOp .Add) (Su X.K):=by
 intro pins s σ H x y v u Q I rx ry h;obtain⟨a,b,xs,ys,rfl,rfl,ha,hb,hx,hz,q1,q2⟩:=h
 cases rx
 cases ry
 obtain⟨its,r1,p1,_⟩:=I.tuple ha
 obtain⟨its2,r2,p2,_⟩:=I.tuple hb
 refine HT.cat_tup p1 p2 (fun z=>hx (r1.nil_iff.mp z)) (fun z=>⟨.ref a,H,I,rfl,q1 (r2.nil_iff.mp z)⟩) (fun z=>?_) (by rw[<- r1.length,<- r2.length];exact hz)
 refine⟨.ref s.heap.objs.size,_,I.laid (t':=s.toks) (o:=.tup (xs++ys)) (fun b ob q=>iH _ q) (cB _) ?_,rfl,q2 (fun w=>z (r2.nil_iff.mpr w)) _ (I.hok.fresh (cB _))⟩
 exact⟨by rw[zO];exact hz,_,r1.append r2,IsTup.new _ _⟩
end
end L2
namespace L2
open PySem PySem.Spec PyProof.Rows
def Jf (n:Nat) (i:Int):Option Nat:=if 0<=i then (if i<n then some i.toNat else none) else if -(n:Int)<=i then some (i+n).toNat else none
def kA {α:Type} (xs:List α) (i:Int):Option α:=(Jf xs.length i).bind fun j=>xs[j]?
theorem xT {n:Nat} {i:Int} {j:Nat} (h:Jf n i=some j):seqIndex? i n=some j/\j<n/\-(n:Int)<=i/\i<n:=by
 unfold Jf at h;by_cases h0:0<=i
 ·rw[if_pos h0]at h;by_cases h1:i<n
  ·rw[if_pos h1]at h;have e:i.toNat=j:=Option.some.inj h
   exact⟨by rw[seqIndex_of h0 h1,e],Zo,Zo,h1⟩
  ·rw[if_neg h1]at h;cases h
 ·rw[if_neg h0]at h;by_cases h1:-(n:Int)<=i
  ·rw[if_pos h1]at h;have e:(i+n).toNat=j:=Option.some.inj h
   exact⟨by rw[seqIndex_neg Zo h1,e],Zo,h1,Zo⟩
  ·rw[if_neg h1]at h;cases h
theorem qZ {α:Type} {xs:List α} {i:Int} {v:α} (h:kA xs i=some v):∃j,seqIndex? i xs.length=some j/\xs[j]?=some v/\j<xs.length/\-(xs.length:Int)<=i/\i<xs.length:=by
 unfold kA at h;cases e:Jf xs.length i with
 | none=>rw[e]at h;cases h
 | some j=>
  rw[e]at h;obtain⟨h1,h2,h3,h4⟩:=xT e
  exact⟨j,h1,h,h2,h3,h4⟩
theorem dA {α:Type} {xs:List α} {j:Nat} {v:α} (h:xs[j]?=some v):kA xs (j:Int)=some v:=by
 have hj:j<xs.length:=(Zgs.mp h).1
 have e:Jf xs.length (j:Int)=some j:=by
  unfold Jf;rw[if_pos Zo,if_pos Zo];simp
 unfold kA;rw[e];exact h
def rA (b:Expr):Prop:=∀o i,subscripted b false o i=operate [o,i] (getItem o i)
def IxR (X:Cx) (r:R2):Prop:=
 ∀(value slice:Expr) (pins:List (Addr × Obj)) (s:Shared) (σ:St) (H:Hp) (x y:V) (v u:Value) (Q:VK),Inv X pins σ H s->RelV x v->RelV y u->r x y H Q →
  subscripted slice false v u=operate [v,u] (getItem v u)->wpAny (model X.prog X.w) X.A (subscriptTail value slice v u) (EP X pins σ Q) X.xe s
def Oz (X:Cx) (id:String) (r:V->List V->Hp->VK->Prop):Prop:=
 ∀(pins:List (Addr × Obj)) (s:Shared) (σ:St) (H:Hp) (x:V) (xs:List V) (v:Value) (us:List Value) (Q:VK),Inv X pins σ H s->RelV x v->Vals xs us->r x xs H Q →
  wpAny (model X.prog X.w) X.A (call (.builtin id) (v::us)) (EP X pins σ Q) X.xe s
section
variable {X:Cx} {a b:Expr} {ta tb:TE} {pos:Pos}
theorem Sv {r:R2} (hr:IxR X r) (ha:PE X a ta) (hb:PE X b tb) (hs:rA b):PE X (.Subscript a b pos) (Cr r ta tb):=by
 intro pins s σ H Q I h;exact Subscript_ (Ol ha hb I h fun v u s2 x y H2 I2 rx ry q=>hr a b pins s2 σ H2 x y v u Q I2 rx ry q (hs _ _))
def Vo (K:W.Frag):R2:=fun x y H Q=>∃p xs i v,x=.ref p/\y=.int i/\SqL K H p xs/\kA xs i=some v/\Q v H
def Vp (K:W.Frag):R2:=fun x y H Q=>∃p xs i v,x=.ref p/\y=.int i/\SqT K H p xs/\kA xs i=some v/\Q v H
def Vq:R2:=fun x y H Q=>∃z i c,x=.str z/\y=.int i/\z.length<=sizeLine/\kA z.cps.toList i=some c/\Q (.str ⟨#[c]⟩) H
theorem Jg:IxR X (Vo X.K):=by
 intro value slice pins s σ H x y v u Q I rx ry h hs;obtain⟨p,xs,i,z,rfl,rfl,hq,he,q⟩:=h
 cases rx
 obtain⟨t,rfl⟩:=ry
 obtain⟨its,r,pl,hz⟩:=I.list hq
 obtain⟨j,h1,h2,h3,h4,h5⟩:=qZ he
 obtain⟨w,ew,rw'⟩:=r.get h2
 have hl:=r.length
 have hn:=kW
 have fin:EP X pins σ Q w s:=⟨z,H,I,rw',q⟩
 by_cases h0:0<=i
 ·have hj:i.toNat=j:=by
   rw[seqIndex_of h0 h5]at h1;exact Option.some.inj h1
  exact item_listR pl.isList h0 Zo (by rw[hj];simpa using ew) fin hs
 ·have hj:(i+(its.toArray.size:Int)).toNat=j:=by
   rw[seqIndex_neg Zo h4]at h1
   rw[eC,<- hl];exact Option.some.inj h1
  exact subscriptTail_builtinR (x:=w) pl.isList.typeIs slot_list_getitem.lookup
   (wpAny_getItem_list_neg (Q:=fun r s'=>r=w/\EP X pins σ Q r s') pl.isList Zo (by rw[eC] <;> omega) Zo (by rw[hj];simpa using ew) ⟨rfl,fin⟩) hs
theorem Pa:IxR X (Vp X.K):=by
 intro value slice pins s σ H x y v u Q I rx ry h hs;obtain⟨p,xs,i,z,rfl,rfl,hq,he,q⟩:=h
 cases rx
 obtain⟨t,rfl⟩:=ry
 obtain⟨its,r,pl,hz⟩:=I.tuple hq
 obtain⟨j,h1,h2,h3,h4,h5⟩:=qZ he
 obtain⟨w,ew,rw'⟩:=r.get h2
 have hl:=r.length
 have hn:=kW
 have fin:EP X pins σ Q w s:=⟨z,H,I,rw',q⟩
 exact subscriptTail_builtinR (x:=w) pl.typeIs slot_tuple_getitem.lookup
  (getItem_tuple (j:=j) (Q:=fun r s'=>r=w/\EP X pins σ Q r s') pl Zo Zo (by rw[eC,<- hl];exact h1) (by simpa using ew) ⟨rfl,fin⟩) hs
theorem Pb:IxR X Vq:=by
 intro value slice pins s σ H x y v u Q I rx ry h hs;obtain⟨z,i,c,rfl,rfl,hz,he,q⟩:=h
 obtain⟨t,rfl⟩:=rx
 obtain⟨t',rfl⟩:=ry
 obtain⟨j,h1,h2,h3,h4,h5⟩:=qZ he
 have hl:z.cps.toList.length=z.length:=by simp [Str.length]
 rw[hl]at h1 h4 h5;have hn:=kW
 exact tail_any (typeIs_str s z t) slot_str_getitem.lookup (getItem_str (c:=c) (by
  have e1:decide (i < -(2 ^ 63:Int))=false:=decide_eq_false Zo
  have e2:decide (i ≥ 2 ^ 63)=false:=decide_eq_false Zo
  rw[e1,e2,Bool.or_false]) (by rw[h1];simpa using h2) ⟨.str ⟨#[c]⟩,H,I.tok _,⟨_,rfl⟩,q⟩) hs
theorem vX (its:List Value) (n j:Nat) (u:Value):Obj.mapSeq (·.setIfInBounds j u) {cls:=.type "list",data:=.seq its.toArray n }={cls:=.type "list",data:=.seq (its.set j u).toArray n }:=by
 simp [Obj.mapSeq]
theorem Inv.lst {pins:List (Addr × Obj)} {σ:St} {H:Hp} {s:Shared} {p:Addr} {xs:List V} (I:Inv X pins σ H s) (h:H p=some (.lst xs)) :
  ∃(its:List Value) (n:Nat),Vals xs its/\s.heap.get? p=some {cls:=.type "list",data:=.seq its.toArray n }/\xs.length<=sizeLine:=by
 obtain⟨z,its,n,r,e⟩:=I.hok p _ h
 exact⟨its,n,r,e,z⟩
theorem Inv.lstUpd {pins:List (Addr × Obj)} {σ:St} {H:Hp} {s:Shared} {p:Addr} {xs ys:List V} {its its':List Value} {n n':Nat} {f:Obj->Obj} (I:Inv X pins σ H s) (h:H p=some (.lst xs))
  (ho:s.heap.get? p=some {cls:=.type "list",data:=.seq its.toArray n }) (hf:f {cls:=.type "list",data:=.seq its.toArray n }={cls:=.type "list",data:=.seq its'.toArray n' }) (r:Vals ys its') (hz:ys.length<=sizeLine) (t:Nat) :
  Inv X pins σ (aI H p (.lst ys)) {s with heap:=s.heap.update p f,toks:=t }:=by
 have e:(s.heap.update p f).get? p=some {cls:=.type "list",data:=.seq its'.toArray n' }:=by
  rw[Heap.get?_update_self f ho (by rw[hf] <;> rfl),hf]
 refine I.write (x:=p) (e:=p) (by rw[h];trivial) (.inl rfl) (fun b u hb q=>(Heap.get?_update_other _ _ (Ne.symm hb)).trans q) ⟨_,e⟩ ?_
 exact⟨hz,its',n',r,e⟩
def Ma:V->V->V->Hp->(Hp->Prop)->Prop:=fun o i v H Q=>∃p xs k j,o=.ref p/\i=.int k/\H p=some (.lst xs)/\Jf xs.length k=some j/\Q (aI H p (.lst (xs.set j v)))
theorem Dg:Ik X Ma:=by
 intro pins s σ H o i v ov iv u Q I ro ri rv h;obtain⟨p,xs,k,j,rfl,rfl,hp,hj,q⟩:=h
 cases ro
 obtain⟨t,rfl⟩:=ri
 obtain⟨its,n,r,ho,hz⟩:=I.lst hp
 obtain⟨h1,h2,h3,h4⟩:=xT hj
 have hl:=r.length
 have hn:=kW
 have I':Inv X pins σ (aI H p (.lst (xs.set j v))) {s with heap:=s.heap.update p (Obj.mapSeq (·.setIfInBounds j u)) }:=
  I.lstUpd hp ho (vX its n j u) (r.set rv j) (by rw[List.length_set];exact hz) s.toks
 by_cases h0:0<=k
 ·have hk:k.toNat=j:=by
   rw[seqIndex_of h0 h4]at h1;exact Option.some.inj h1
  exact W.ki_setAt ho h0 Zo (by rw[eC,<- hl];exact h4) (by rw[hk];exact⟨_,I',q⟩)
 ·have hk:(k+(its.toArray.size:Int)).toNat=j:=by
   rw[seqIndex_neg Zo h3]at h1
   rw[eC,<- hl];exact Option.some.inj h1
  exact W.ki_setBack ho Zo (by rw[eC,<- hl];exact h3) Zo (by rw[hk];exact⟨_,I',q⟩)
theorem rB (lo hi:Option Int) (n:Nat):(sliceBounds lo hi none n).1=((HT.sIx n 0 lo:Nat):Int)/\(sliceBounds lo hi none n).2.1=((HT.sIx n n hi:Nat):Int)/\(sliceBounds lo hi none n).2.2=1:=by
 refine⟨?_,?_,rfl⟩
 ·cases lo with
  | none=>simp [sliceBounds,HT.sIx]
  | some i=>
   simp only [sliceBounds,HT.sIx,Option.getD_none,show(1:Int) > 0 by decide,if_true]
   by_cases h:i<0
   ·simp only [h,if_true] <;> omega
   ·simp only [h,if_false] <;> omega
 ·cases hi with
  | none=>simp [sliceBounds,HT.sIx]
  | some i=>
   simp only [sliceBounds,HT.sIx,Option.getD_none,show(1:Int) > 0 by decide,if_true]
   by_cases h:i<0
   ·simp only [h,if_true] <;> omega
   ·simp only [h,if_false] <;> omega
theorem oY (its:List Value) (lo hi:Option Int):slicePick its.toArray lo hi none=((its.drop (HT.sIx its.length 0 lo)).take (HT.sIx its.length its.length hi - HT.sIx its.length 0 lo)).toArray:=by
 obtain⟨h1,h2,h3⟩:=rB lo hi its.toArray.size
 unfold slicePick;rw[h1,h2,h3];simp only [sliceRange_one,pick_run,eC] <;> rfl
def Vr (K:W.Frag):V->Option Int->Option Int->Hp->VK->Prop:=fun x lo hi H Q=>∃a xs,x=.ref a/\SqL K H a xs/\∀p,H p=none->Q (.ref p) (aI H p (.lst (Af xs lo hi)))
theorem Jh:SlR X (Vr X.K):=by
 intro pins s σ H x v vl vu lo hi sl Q I rx hs pl pu h;obtain⟨a,xs,rfl,hx,q⟩:=h
 cases rx
 obtain⟨its,r,ht,hz⟩:=I.list hx
 have hlen:=r.length
 refine⟨"list",_,slot_list_getitem.lookup,ht.isList.typeIs,?_⟩
 refine wpAny_getItem_list_slice ht.isList hs pl pu .none Zs ?_ (by rw[eC] <;> omega)
 rw[oY,<- hlen];refine⟨.ref s.heap.objs.size,_,I.laid (t':=s.toks) (o:=.lst (Af xs lo hi)) (fun b ob q=>iH _ q) (cB _) ?_,rfl,q _ (I.hok.fresh (cB _))⟩
 exact⟨iE (lT xs lo hi) hz,_,0,(r.drop (HT.sIx xs.length 0 lo)).take (HT.sIx xs.length xs.length hi - HT.sIx xs.length 0 lo),Heap.get?_push_size _ rfl⟩
def eE:V->Bool
 | .non=>true
 | .bl _=>true
 | .int _=>true
 | .str _=>true
 | _=>false
def Ag:V->V->Bool
 | .non,.non=>true
 | .bl a,.bl b=>a == b
 | .bl a,.int b=>(if a then 1 else 0) == b
 | .int a,.bl b=>a == (if b then 1 else 0)
 | .int a,.int b=>a == b
 | .str a,.str b=>a == b
 | _,_=>false
theorem Dh {A:Around} {s:Shared} {y x:V} {u v:Value} (ry:RelV y u) (rx:RelV x v) (fy:eE y=true) (fx:eE x=true):SeqAt.EqAt A s u v (Ag y x):=by
 cases y with
 | non=>
  cases ry
  cases x with
  | non=>cases rx;exact SeqAt.EqAt.same _
  | bl b=>cases rx;exact SeqAt.EqAt.none_bool b
  | int b=>obtain⟨t,rfl⟩:=rx;exact SeqAt.EqAt.none_int b t
  | str b=>obtain⟨t,rfl⟩:=rx;exact SeqAt.EqAt.none_str b t
  | _=>exact absurd (show false=true from fx) Bool.false_ne_true
 | bl a=>
  cases ry
  cases x with
  | non=>cases rx;exact SeqAt.EqAt.bool_none a
  | bl b=>cases rx;exact SeqAt.EqAt.bool_bool a b
  | int b=>obtain⟨t,rfl⟩:=rx;exact SeqAt.EqAt.bool_int a b t
  | str b=>obtain⟨t,rfl⟩:=rx;exact SeqAt.EqAt.bool_str a b t
  | _=>exact absurd (show false=true from fx) Bool.false_ne_true
 | int a=>
  obtain⟨t',rfl⟩:=ry
  cases x with
  | non=>cases rx;exact SeqAt.EqAt.int_none a t'
  | bl b=>cases rx;exact SeqAt.EqAt.int_bool a t' b
  | int b=>obtain⟨t,rfl⟩:=rx;exact SeqAt.EqAt.int_int a t' b t
  | str b=>obtain⟨t,rfl⟩:=rx;exact SeqAt.EqAt.int_str a t' b t
  | _=>exact absurd (show false=true from fx) Bool.false_ne_true
 | str a=>
  obtain⟨t',rfl⟩:=ry
  cases x with
  | non=>cases rx;exact SeqAt.EqAt.str_none a t'
  | bl b=>cases rx;exact SeqAt.EqAt.str_bool a t' b
  | int b=>obtain⟨t,rfl⟩:=rx;exact SeqAt.EqAt.str_int a t' b t
  | str b=>obtain⟨t,rfl⟩:=rx;exact SeqAt.EqAt.str_str a t' b t
  | _=>exact absurd (show false=true from fx) Bool.false_ne_true
 | _=>exact absurd (show false=true from fy) Bool.false_ne_true
def tJ (x:V) (u:Value):Bool:=match u with
 | .none=>Ag .non x
 | .bool b=>Ag (.bl b) x
 | .int i _=>Ag (.int i) x
 | .str z _=>Ag (.str z) x
 | _=>false
theorem vY {x y:V} {u:Value} (r:RelV y u) (f:eE y=true):tJ x u=Ag y x:=by
 cases y with
 | non=>cases r;rfl
 | bl b=>cases r;rfl
 | int i=>obtain⟨t,rfl⟩:=r;rfl
 | str z=>obtain⟨t,rfl⟩:=r;rfl
 | _=>exact absurd (show false=true from f) Bool.false_ne_true
theorem kB {x:V}:∀ {xs:List V} {us:List Value},Vals xs us->xs.all eE=true->us.any (tJ x)=xs.any fun y=>Ag y x
 | _,_,.nil,_=>rfl
 | y::xs,u::us,.cons r t,f=>by
  rw[List.all_cons,Bool.and_eq_true]at f;rw[List.any_cons,List.any_cons,vY r f.1,kB t f.2]
theorem fY {A:Around} {s:Shared} {x:V} {v:Value} (rx:RelV x v) (fx:eE x=true):∀ {xs:List V} {us:List Value},Vals xs us->xs.all eE=true->∀u∈us,SeqAt.EqAt A s u v (tJ x u)
 | _,_,.nil,_=>fun u hu=>by cases hu
 | y::xs,u::us,.cons r t,f=>fun u' hu=>by
  rw[List.all_cons,Bool.and_eq_true]at f;rcases List.mem_cons.mp hu with rfl | hu
  ·rw[vY r f.1];exact Dh r rx f.1 fx
  ·exact fY rx fx t f.2 u' hu
def Mb (x:V) (xs:List V):Bool:=xs.any fun y=>Ag y x
def Rr (K:W.Frag) (neg:Bool):R2:=fun x y H Q=>∃p xs,y=.ref p/\(SqL K H p xs∨SqT K H p xs)/\eE x=true/\xs.all eE=true/\Q (.bl (if neg then !Mb x xs else Mb x xs)) H
theorem Ah:OpR X (compareOp .In) (Rr X.K false):=by
 intro pins s σ H x y v u Q I rx ry h;obtain⟨p,xs,rfl,hq,fx,fs,q⟩:=h
 cases ry
 rcases hq with hq | hq
 ·obtain⟨its,r,pl,hz⟩:=I.list hq
  refine SeqAt.in_listAt (tJ x) pl.isList (fun w hw=>fY rx fx r fs w (by simpa using hw)) ⟨.bl _,H,I,rfl,?_⟩
  rw[show its.toArray.any (tJ x)=its.any (tJ x) by simp,kB r fs]
  exact q
 ·obtain⟨its,r,pl,hz⟩:=I.tuple hq
  refine SeqAt.in_tupleAt (tJ x) pl (fun w hw=>fY rx fx r fs w (by simpa using hw)) ⟨.bl _,H,I,rfl,?_⟩
  rw[show its.toArray.any (tJ x)=its.any (tJ x) by simp,kB r fs]
  exact q
theorem rC:OpR X (compareOp .NotIn) (Rr X.K true):=by
 intro pins s σ H x y v u Q I rx ry h;obtain⟨p,xs,rfl,hq,fx,fs,q⟩:=h
 cases ry
 rcases hq with hq | hq
 ·obtain⟨its,r,pl,hz⟩:=I.list hq
  refine SeqAt.notIn_listAt (tJ x) pl.isList (fun w hw=>fY rx fx r fs w (by simpa using hw)) ⟨.bl _,H,I,rfl,?_⟩
  rw[show its.toArray.any (tJ x)=its.any (tJ x) by simp,kB r fs]
  exact q
 ·obtain⟨its,r,pl,hz⟩:=I.tuple hq
  refine SeqAt.notIn_tupleAt (tJ x) pl (fun w hw=>fY rx fx r fs w (by simpa using hw)) ⟨.bl _,H,I,rfl,?_⟩
  rw[show its.toArray.any (tJ x)=its.any (tJ x) by simp,kB r fs]
  exact q
theorem rD:CallR X (.builtin "len") (fun xs H Q=>∃p ys,xs=[.ref p]/\(SqL X.K H p ys∨SqT X.K H p ys)/\Q (.int ys.length) H):=by
 intro pins s σ H xs us Q I r h;obtain⟨p,ys,rfl,hq,q⟩:=h
 obtain⟨u,rfl,rx⟩:=hZ r
 cases rx
 have hn:=kW
 rcases hq with hq | hq
 ·obtain⟨its,r',pl,hz⟩:=I.list hq
  have hlen:=r'.length
  exact Calls.call_len_list pl.isList (by simp only [eC] <;> omega) ⟨.int ys.length,H,I.tok _,⟨s.toks+1,by rw[eC,hlen]⟩,q⟩
 ·obtain⟨its,r',pl,hz⟩:=I.tuple hq
  have hlen:=r'.length
  exact len_tuple pl (by simp only [eC] <;> omega) ⟨.int ys.length,H,I.tok _,⟨s.toks+1,by rw[eC,hlen]⟩,q⟩
theorem rE:CallR X (.builtin "len") (fun xs H Q=>∃z,xs=[.str z]/\z.length<=sizeLine/\Q (.int z.length) H):=by
 intro pins s σ H xs us Q I r h;obtain⟨z,rfl,hz,q⟩:=h
 obtain⟨u,rfl,t,rfl⟩:=hZ r
 have hn:=kW
 exact len_str Zo ⟨.int z.length,H,I.tok _,⟨_,rfl⟩,q⟩
theorem rF:CallR X (.type "list") (fun xs H Q=>∃p ys,xs=[.ref p]/\(SqL X.K H p ys∨SqT X.K H p ys)/\∀l,H l=none->Q (.ref l) (aI H l (.lst ys))):=by
 intro pins s σ H xs us Q I r h;obtain⟨p,ys,rfl,hq,q⟩:=h
 obtain⟨u,rfl,rx⟩:=hZ r
 cases rx
 have fin:∀(its:List Value),Vals ys its->ys.length<=sizeLine->∀(h':Heap) (c':Nat),(∀b o',s.heap.get? b=some o'->h'.get? b=some o') →
   h'.get? s.heap.objs.size=some {cls:=.type "list",dict:=none,data:=.seq its.toArray c',slots:=#[] }->EP X pins σ Q (.ref s.heap.objs.size) {s with heap:=h' }:=fun its r' hz h' c' kp e=>
  ⟨.ref s.heap.objs.size,_,I.laid (t':=s.toks) kp (cB _) (show ObjOk X.prog X.w _ h' _ (.lst ys) from⟨hz,its,c',r',e⟩),rfl,q _ (I.hok.fresh (cB _))⟩
 rcases hq with hq | hq
 ·obtain⟨its,r',pl,hz⟩:=I.list hq
  have hlen:=r'.length
  obtain⟨o,ho,hc,n,hd⟩:=pl.isList
  exact call_list_seq p (.inl rfl) ho hc hd (fun h' c' kp e=>fin its r' hz h' c' kp e) (by simp only [eC] <;> omega)
 ·obtain⟨its,r',pl,hz⟩:=I.tuple hq
  have hlen:=r'.length
  obtain⟨o,ho,hc,n,hd⟩:=pl
  exact call_list_seq p (.inr rfl) ho hc hd (fun h' c' kp e=>fin its r' hz h' c' kp e) (by simp only [eC] <;> omega)
theorem oZ:CallR X (.type "tuple") (fun xs H Q=>∃p ys,xs=[.ref p]/\((SqL X.K H p ys/\∀l,H l=none->Q (.ref l) (aI H l (.tup ys)))∨(SqT X.K H p ys/\Q (.ref p) H))):=by
 intro pins s σ H xs us Q I r h;obtain⟨p,ys,rfl,h⟩:=h
 obtain⟨u,rfl,rx⟩:=hZ r
 cases rx
 rcases h with⟨hq,q⟩ | ⟨hq,q⟩
 ·obtain⟨its,r',pl,hz⟩:=I.list hq
  have hlen:=r'.length
  refine call_tuple_list pl.isList (fun h' kp=>?_) (by simp only [eC] <;> omega)
  have I1:Inv X pins σ H {s with heap:=h' }:=I.kept (t':=s.toks) kp
  have I2:Inv X pins σ (aI H h'.objs.size (.tup ys)) {s with heap:=h'.push {cls:=.type "tuple",data:=.seq its.toArray } }:=
   I1.laid (t':=s.toks) (fun b o e=>iH _ e) (cB _) (show ObjOk X.prog X.w _ _ _ (.tup ys) from⟨hz,its,r',IsTup.new _ _⟩)
  exact⟨.ref h'.objs.size,_,I2,rfl,q _ (I1.hok.fresh (cB _))⟩
 ·obtain⟨its,r',pl,hz⟩:=I.tuple hq
  exact call_tuple_same pl ⟨.ref p,H,I,rfl,q⟩
def Wz (K:W.Frag) (T:String) (x:V) (H:Hp):Prop:=match x with
 | .str _=>T="str"
 | .int _=>T="int"
 | .ref p=>(T="list"/\∃xs,SqL K H p xs)∨(T="tuple"/\∃o,K.lookup p=some o/\o.cls=.type "tuple"/\o.dict=none)∨
   (T="dict"/\((∃kvs,H p=some (.dK kvs))∨∃kvs,H p=some (.dT kvs)))∨(T="set"/\∃S n,H p=some (.set S n))
 | _=>False
theorem Pc {pins:List (Addr × Obj)} {σ:St} {H:Hp} {s:Shared} {T:String} {x:V} {v:Value} (I:Inv X pins σ H s) (r:RelV x v) (ty:Wz X.K T x H) :
  s.TypeIs v T/\∀a,v=.ref a->∃ob,s.heap.get? a=some ob/\ob.dict=none:=by
 cases x with
 | str z=>
  obtain⟨t,rfl⟩:=r
  cases (show T="str" from ty)
  exact⟨typeIs_str s z t,fun _ e=>nomatch e⟩
 | int i=>
  obtain⟨t,rfl⟩:=r
  cases (show T="int" from ty)
  exact⟨typeIs_int s i t,fun _ e=>nomatch e⟩
 | ref p=>
  cases r
  rcases ty with⟨rfl,xs,hq⟩ | ⟨rfl,o,hk,hc,hd⟩ | ⟨rfl,hk⟩ | ⟨rfl,S,n,hk⟩
  ·obtain⟨its,_,pl,_⟩:=I.list hq
   refine⟨pl.isList.typeIs,fun a e=>?_⟩
   cases e
   obtain⟨o,n,e,c,hd,_⟩:=pl
   exact⟨o,e,hd⟩
  ·refine⟨⟨o,I.kIn p o hk,hc⟩,fun a e=>?_⟩
   cases e
   exact⟨o,I.kIn _ o hk,hd⟩
  ·have z:∃o,s.heap.get? p=some o/\o.ExactDict:=by
    rcases hk with⟨kvs,hk⟩ | ⟨kvs,hk⟩
    ·obtain⟨_,_,_,_,o,_,_,e,ex,_⟩:=I.hok p _ hk
     exact⟨o,e,ex⟩
    ·obtain⟨_,_,_,_,o,_,_,e,ex,_⟩:=I.hok p _ hk
     exact⟨o,e,ex⟩
   obtain⟨o,e,ex⟩:=z
   refine⟨⟨o,e,ex.1⟩,fun a e2=>?_⟩
   cases e2
   exact⟨o,e,ex.2.1⟩
  ·obtain⟨o,_,_,_,e,ex,_⟩:=I.hok p _ hk
   refine⟨⟨o,e,ex.1⟩,fun a e2=>?_⟩
   cases e2
   exact⟨o,e,ex.2.1⟩
 | _=>exact False.elim ty
def Vb (K:W.Frag) (T:String) (r:V->List V->Hp->VK->Prop) (to:TE) (t:TA):TE:=fun σ H Q=>to σ H fun x H1=>Wz K T x H1/\t σ H1 fun xs H2=>r x xs H2 Q
variable {o e:Expr} {es:List Expr} {to:TE} {t:TA} {name:Str} {apos cpos:Pos} {T id:String} {r:V->List V->Hp->VK->Prop}
theorem Sw (pa:PlainAttrs T) (slot:Slot T name id) (hty:typeOf (.builtin id)=pure (.type "method_descriptor")) (hm:Oz X id r) (ho:PE X o to) (ha:PA X (e::es) t)
  (hbase:attributeBase o name X.env (eval o X.env)=eval o X.env:=by rfl)
  (hfew:((backTo cpos (starEach (e::es) X.env)).all (fun x=>!x.1)&&(backToKw cpos (keywordEach [] X.env)).all (fun x=>x.1.isSome)
   && decide ((e::es).length+([]:List Keyword).length+(if ([]:List Keyword).isEmpty then 0 else 1)<30))=true:=by rfl)
  (hline:(apos.endLine == cpos.line)=true:=by rfl) (hs:starEach (e::es) X.env=(false,eval e X.env)::starEach es X.env:=by rfl) (hplain:(backTo cpos (starEach es X.env)).any (·.1)=false:=by rfl) :
  PE X (.Call (.Attribute o name apos) (e::es) [] cpos) (Vb X.K T r to t):=by
 intro pins s σ H Q I h;refine wpAny_Call_method_late hbase hfew hline rfl (bG (ho pins s σ H _ I h) fun v s1 ⟨x,H1,I1,r1,ty,q1⟩=>?_)
 obtain⟨h1,h2⟩:=Pc I1 r1 ty
 refine⟨T,id,pa,slot,hty,h1,h2,?_⟩
 have hA:=ha cpos pins s1 σ H1 _ I1 q1
 rw[hs]at hA ⊢;refine Calls.callWith_builtin (by show(false||(backTo cpos (starEach es X.env)).any (·.1))=false;rw[hplain] <;> rfl) (Calls.evalArgs_plain ?_)
 exact bG hA fun us s2 ⟨vs,H2,I2,r2,q2⟩=>hm pins s2 σ H2 x vs v us Q I2 r1 r2 q2
/- xs.append(e),list.index on a module's tuple .. are Oz facts of 06m -/
end
end L2
namespace L2
open PySem PySem.Spec PyProof.Rows
def Vc (X:Cx) (id:String) (r:V->List V->Hp->VK->Prop):Prop:=
 ∀(pins:List (Addr × Obj)) (s:Shared) (σ:St) (H:Hp) (x:V) (xs:List V) (v:Value) (us:List Value) (Q:VK),Inv X pins σ H s->RelV x v->Vals xs us->r x xs H Q →
  wpAny (model X.prog X.w) X.A (call (.builtin id) (v::us)) (EP X pins σ Q) X.xe s
theorem Vals.one:∀ {x:V} {us:List Value},Vals [x] us->∃u,us=[u]/\RelV x u
 | _,_,.cons r .nil=>⟨_,rfl,r⟩
theorem Vals.two:∀ {x y:V} {us:List Value},Vals [x,y] us->∃u v,us=[u,v]/\RelV x u/\RelV y v
 | _,_,_,.cons r (.cons q .nil)=>⟨_,_,rfl,r,q⟩
theorem Vals.eraseIdx:∀ {xs:List V} {us:List Value} (i:Nat),Vals xs us->Vals (xs.eraseIdx i) (us.eraseIdx i)
 | _,_,_,.nil=>.nil
 | _,_,0,.cons _ t=>t
 | _,_,i+1,.cons r t=>.cons r (Vals.eraseIdx i t)
theorem pQ {α:Type}:∀(l:List α) (i:Nat),(l.eraseIdx i).length<=l.length
 | [],_=>cB _
 | _::_,0=>Nat.le_succ _
 | _::r,i+1=>Nat.succ_le_succ (pQ r i)
section
variable {X:Cx} {pins:List (Addr × Obj)} {σ:St} {H:Hp} {s:Shared} {l b:Addr} {xs ys zs:List V}
theorem Inv.lset {its its':List Value} {n:Nat} {f:Array Value->Array Value} {t':Nat} (I:Inv X pins σ H s) (hH:H l=some (.lst xs))
  (e:s.heap.get? l=some {cls:=.type "list",data:=.seq its.toArray n }) (hf:f its.toArray=its'.toArray) (hv:Vals ys its') (hz:ys.length<=sizeLine) :
  Inv X pins σ (aI H l (.lst ys)) {s with heap:=s.heap.update l (Obj.mapSeq f),toks:=t' }:=by
 have q:=PySem.IsL.update e f
 rw[hf]at q;refine I.write (x:=l) (e:=l) (by rw[hH];exact trivial) (.inl rfl) (fun b' u hb hu=>(Heap.get?_update_other s.heap (Obj.mapSeq f) (Ne.symm hb)).trans hu) ⟨_,q⟩ ?_
 exact⟨hz,its',_,hv,q⟩
theorem Inv.lnew {its:List Value} {t':Nat} (I:Inv X pins σ H s) (hv:Vals ys its) (hz:ys.length<=sizeLine) :
  Inv X pins σ (aI H s.heap.objs.size (.lst ys)) {s with heap:=s.heap.push {cls:=.type "list",data:=.seq its.toArray },toks:=t' }:=
 I.laid (fun _ _ q=>iH _ q) (cB _) ⟨hz,its,0,hv,Heap.get?_push_size _ rfl⟩
theorem Inv.fresh (I:Inv X pins σ H s):H s.heap.objs.size=none:=I.hok.fresh (cB _)
theorem Inv.lstM (I:Inv X pins σ H s) (hH:H l=some (.lst xs)):xs.length<=sizeLine/\∃(its:List Value) (n:Nat),Vals xs its/\xs.length=its.length/\s.heap.get? l=some {cls:=.type "list",data:=.seq its.toArray n }:=by
 obtain⟨z,its,n,r,e⟩:=I.hok l _ hH
 exact⟨z,its,n,r,r.length,e⟩
theorem Dl {n:Nat} (h:n<=sizeLine):Builtin.List.listTooLong n=false:=by
 unfold Builtin.List.listTooLong;exact decide_eq_false Zo
end
section
variable {X:Cx}
def xU:V->List V->Hp->VK->Prop:=fun x vs H Q=>∃l xs y,x=.ref l/\vs=[y]/\H l=some (.lst xs)/\xs.length<sizeLine/\Q .non (aI H l (.lst (xs++[y])))
theorem Ai:Vc X "list.append" xU:=by
 intro pins s σ H x vs v us Q I rx rv h;obtain⟨l,xs,y,rfl,rfl,hH,hz,q⟩:=h
 cases rx
 obtain⟨u,rfl,ru⟩:=rv.one
 obtain⟨z,its,n,r,hl,e⟩:=I.lstM hH
 refine call_meets F.slot_list_append ⟨_,e,rfl⟩ F.entry_list_append (F.args_list_append_2 _ _) (PySem.list_append l its.toArray n u (by rw[eC];omega)) ⟨e,?_⟩
 refine⟨.non,_,I.lset (its':=its++[u]) hH e Zs (r.append (.cons ru .nil)) ?_,rfl,q⟩
 rw[zO,List.length_singleton];omega
def Ji:V->List V->Hp->VK->Prop:=fun x vs H Q=>∃l b xs zs,x=.ref l/\vs=[.ref b]/\H l=some (.lst xs)/\H b=some (.lst zs)/\xs.length+zs.length<=sizeLine/\Q .non (aI H l (.lst (xs++zs)))
theorem Rs:Vc X "list.extend" Ji:=by
 intro pins s σ H x vs v us Q I rx rv h;obtain⟨l,b,xs,zs,rfl,rfl,hH,hB,hz,q⟩:=h
 cases rx
 obtain⟨u,rfl,ru⟩:=rv.one
 cases ru
 obtain⟨z,its,n,r,hl,e⟩:=I.lstM hH
 obtain⟨z2,its2,n2,r2,hl2,e2⟩:=I.lstM hB
 have hsz:its.toArray.size+its2.toArray.size<=sizeLine:=by rw[eC,eC];omega
 have hlong:¬ (!its.toArray.isEmpty&&Builtin.List.listTooLong (its.toArray.size+its2.toArray.size))=true:=by
  rw[Dl hsz,Bool.and_false];exact Bool.false_ne_true
 refine call_meets F.slot_list_extend ⟨_,e,rfl⟩ F.entry_list_extend (F.args_list_extend_2 _ _)
  (AutoSeq1.list_extend_list_list_0 l its.toArray n b its2.toArray n2 hlong (by rw[eC];omega) Zo) ⟨e,e2,?_⟩
 refine⟨.non,_,I.lset (its':=its++its2) hH e Zs (r.append r2) ?_,rfl,q⟩
 rw[zO];omega
def Dm:V->List V->Hp->VK->Prop:=fun x vs H Q=>∃l xs i k y,x=.ref l/\vs=[.int i]/\H l=some (.lst xs)/\-(2 ^ 63)<=i/\i<2 ^ 63/\seqIndex? i xs.length=some k/\xs[k]?=some y/\Q y (aI H l (.lst (xs.eraseIdx k)))
theorem Dn:Vc X "list.pop" Dm:=by
 intro pins s σ H x vs v us Q I rx rv h;obtain⟨l,xs,i,k,y,rfl,rfl,hH,h1,h2,hk,hy,q⟩:=h
 cases rx
 obtain⟨u,rfl,ru⟩:=rv.one
 obtain⟨t,rfl⟩:=ru
 obtain⟨z,its,n,r,hl,e⟩:=I.lstM hH
 obtain⟨w,hw,rw'⟩:=r.get hy
 refine call_meets F.slot_list_pop ⟨_,e,rfl⟩ F.entry_list_pop (F.args_list_pop_2 _ _)
  (MeetsSeq.list_pop_at l its.toArray n i t k w (fitsIndex_both h1 h2) (by rw[eC,<- hl];exact hk) (by rw[<- Array.getElem?_toList];exact hw) (by rw[eC];omega)) ⟨e,?_⟩
 refine⟨y,_,I.lset (its':=its.eraseIdx k) hH e ?_ (r.eraseIdx k) ?_,rw',q⟩
 ·show its.toArray.eraseIdxIfInBounds k=(its.eraseIdx k).toArray
  rw[List.eraseIdxIfInBounds_toArray]
 ·have:=pQ xs k
  omega
def Vs:R2:=fun x y H Q=>∃l b xs zs,x=.ref l/\y=.ref b/\H l=some (.lst xs)/\H b=some (.lst zs)/\xs.length+zs.length<=sizeLine/\∀p,H p=none->Q (.ref p) (aI H p (.lst (xs++zs)))
theorem Pd:OpR X (binaryOp .Add) Vs:=by
 intro pins s σ H x y v u Q I rx ry h;obtain⟨l,b,xs,zs,rfl,rfl,hH,hB,hz,q⟩:=h
 cases rx
 cases ry
 obtain⟨z,its,n,r,hl,e⟩:=I.lstM hH
 obtain⟨z2,its2,n2,r2,hl2,e2⟩:=I.lstM hB
 refine PySem.P.add_list e e2 ?_ (by rw[eC,eC];omega)
 have ea:its.toArray++its2.toArray=(its++its2).toArray:=by simp
 rw[ea];exact⟨.ref _,_,I.lnew (t':=s.toks) (r.append r2) (by rw[zO];omega),rfl,q _ I.fresh⟩
end
end L2
namespace L2
open PySem PySem.Spec PyProof.Rows
section
variable {κ:Type} [DecidableEq κ]
def aY (kvs:List (κ × V)) (k:κ):Option V:=(kvs.find? fun kv=>decide (kv.1=k)).map (·.2)
def bA (kvs:List (κ × V)) (k:κ) (v:V):List (κ × V):=
 if (kvs.any fun kv=>decide (kv.1=k))=true then kvs.map (fun kv=>if kv.1=k then (kv.1,v) else kv) else kvs++[(k,v)]
def bQ (kvs:List (κ × V)) (k:κ):List (κ × V):=kvs.filter fun kv=>decide (kv.1≠k)
theorem bN {p:κ × V} {r:List (κ × V)} {k:κ} (e:p.1=k):aY (p::r) k=some p.2:=by simp [aY,List.find?_cons,e]
theorem bO {p:κ × V} {r:List (κ × V)} {k:κ} (e:¬ p.1=k):aY (p::r) k=aY r k:=by simp [aY,List.find?_cons,e]
theorem bW (k:κ):∀kvs:List (κ × V),(kvs.any fun kv=>decide (kv.1=k))=(aY kvs k).isSome
 | []=>rfl
 | p::r=>by
  rw[List.any_cons];by_cases e:p.1=k
  ·simp only [bN e,decide_eq_true e,Bool.true_or,Option.isSome_some]
  ·rw[bO e,decide_eq_false e,Bool.false_or];exact bW k r
theorem tK (k j:κ) (y:V):∀kvs:List (κ × V),aY (kvs.map fun kv=>if kv.1=k then (kv.1,y) else kv) j=(aY kvs j).map fun x=>if j=k then y else x
 | []=>rfl
 | p::r=>by
  have ih:=tK k j y r
  rw[List.map_cons];by_cases h:p.1=k
  ·rw[if_pos h];by_cases e:p.1=j
   ·rw[bN (p:=(p.1,y)) e,bN e,Option.map_some,if_pos (e.symm.trans h)]
   ·rw[bO (p:=(p.1,y)) e,bO e,ih]
  ·rw[if_neg h];by_cases e:p.1=j
   ·rw[bN (p:=p) e,bN e,Option.map_some,if_neg (fun z=>h (e.trans z))]
   ·rw[bO (p:=p) e,bO e,ih]
theorem pR (k j:κ) (y:V):∀kvs:List (κ × V),aY kvs k=none->aY (kvs++[(k,y)]) j=if j=k then some y else aY kvs j
 | [],_=>by
  by_cases e:k=j
  ·rw[if_pos e.symm];exact bN (p:=(k,y)) e
  ·rw[if_neg (fun z=>e z.symm)];exact bO (p:=(k,y)) e
 | p::r,hn=>by
  rw[List.cons_append];have hk:¬ p.1=k:=fun z=>by rw[bN z]at hn;cases hn
  rw[bO hk]at hn;have ih:=pR k j y r hn
  by_cases e:p.1=j
  ·rw[bN e,bN e,if_neg (fun z=>hk (e.trans z))]
  ·rw[bO e,bO e,ih]
theorem eF (kvs:List (κ × V)) (k j:κ) (y:V):aY (bA kvs k y) j=if j=k then some y else aY kvs j:=by
 unfold bA;by_cases a:(kvs.any fun kv=>decide (kv.1=k))=true
 ·rw[if_pos a,tK];rw[bW]at a;by_cases e:j=k
  ·obtain⟨x,hx⟩:=Option.isSome_iff_exists.mp a
   rw[if_pos e,e,hx,Option.map_some,if_pos rfl]
  ·rw[if_neg e];cases aY kvs j with
   | none=>rfl
   | some x=>rw[Option.map_some,if_neg e]
 ·rw[if_neg a];refine pR k j y kvs ?_
  rw[bW]at a;cases q:aY kvs k with
  | none=>rfl
  | some x=>rw[q]at a;exact(a rfl).elim
theorem cU (kvs:List (κ × V)) (k:κ) (v:V):(bA kvs k v).length<=kvs.length+1:=by
 unfold bA;split
 ·rw[dN];omega
 ·rw[zO,Cf,List.length_nil];omega
theorem fZ {kvs:List (κ × V)} {k:κ} (v:V) (h:aY kvs k=none):bA kvs k v=kvs++[(k,v)]:=by
 unfold bA;rw[bW,h];exact if_neg Zd
theorem RelO.isSome_eq {o:Option V} {u:Option Value} (r:RelO o u):o.isSome=u.isSome:=by
 cases o with
 | none=>cases u with
  | none=>rfl
  | some _=>exact(show False from r).elim
 | some _=>cases u with
  | none=>exact(show False from r).elim
  | some _=>rfl
theorem RelO.getD {o:Option V} {u:Option Value} {d:V} {d':Value} (r:RelO o u) (rd:RelV d d'):RelV (o.getD d) (u.getD d'):=by
 cases o with
 | none=>cases u with
  | none=>exact rd
  | some _=>exact(show False from r).elim
 | some _=>cases u with
  | none=>exact(show False from r).elim
  | some _=>exact r
theorem KV.val {kvs:List (κ × V)} {vs:List (κ × Value)} (r:KV kvs vs) (k:κ):RelO (aY kvs k) (valueAt vs k):=by
 unfold KV at r;induction r with
 | nil=>exact True.intro
 | @cons p q ps qs h t ih=>
  obtain⟨h1,h2⟩:=h
  by_cases e:p.1=k
  ·have e':q.1=k:=h1.symm.trans e
   have b:valueAt (q::qs) k=some q.2:=by simp [valueAt,List.find?_cons,e']
   rw[bN e,b];exact h2
  ·have e':¬ q.1=k:=fun z=>e (h1.trans z)
   have b:valueAt (q::qs) k=valueAt qs k:=by simp [valueAt,List.find?_cons,e']
   rw[bO e,b];exact ih
theorem KV.any {kvs:List (κ × V)} {vs:List (κ × Value)} (r:KV kvs vs) (k:κ):(kvs.any fun kv=>decide (kv.1=k))=vs.any fun kv=>decide (kv.1=k):=by
 unfold KV at r;induction r with
 | nil=>rfl
 | cons h t ih=>rw[List.any_cons,List.any_cons,ih,h.1]
theorem KV.repl {kvs:List (κ × V)} {vs:List (κ × Value)} (r:KV kvs vs) (k:κ) {y:V} {u:Value} (ry:RelV y u) :
  KV (kvs.map fun kv=>if kv.1=k then (kv.1,y) else kv) (vs.map fun kv=>if kv.1=k then (kv.1,u) else kv):=by
 unfold KV at r ⊢
 induction r with
 | nil=>exact .nil
 | @cons p q ps qs h t ih=>
  rw[List.map_cons,List.map_cons];refine .cons ?_ ih
  obtain⟨h1,h2⟩:=h
  by_cases e:p.1=k
  ·rw[if_pos e,if_pos (h1.symm.trans e)];exact⟨h1,ry⟩
  ·rw[if_neg e,if_neg (fun z=>e (h1.trans z))];exact⟨h1,h2⟩
theorem KV.put {kvs:List (κ × V)} {vs:List (κ × Value)} (r:KV kvs vs) (k:κ) {y:V} {u:Value} (ry:RelV y u):KV (bA kvs k y) (stored vs k u):=by
 unfold bA stored;rw[r.any k];by_cases e:(vs.any fun kv=>decide (kv.1=k))=true
 ·rw[if_pos e,if_pos e];exact r.repl k ry
 ·rw[if_neg e,if_neg e];exact Paired.snoc r ⟨rfl,ry⟩
theorem KV.drop {kvs:List (κ × V)} {vs:List (κ × Value)} (r:KV kvs vs) (k:κ):KV (bQ kvs k) (without vs k):=by
 unfold KV at r ⊢
 unfold bQ without;induction r with
 | nil=>exact .nil
 | @cons p q ps qs h t ih=>
  obtain⟨h1,h2⟩:=h
  rw[List.filter_cons,List.filter_cons];by_cases e:p.1=k
  ·have a:¬ decide (p.1≠k)=true:=by simp [e]
   have b:¬ decide (q.1≠k)=true:=by simp [h1.symm.trans e]
   rw[if_neg a,if_neg b];exact ih
  ·have e':¬ q.1=k:=fun z=>e (h1.trans z)
   have a:decide (p.1≠k)=true:=by simp [e]
   have b:decide (q.1≠k)=true:=by simp [e']
   rw[if_pos a,if_pos b];exact .cons ⟨h1,h2⟩ ih
theorem KV.keys {kvs:List (κ × V)} {vs:List (κ × Value)} (r:KV kvs vs):kvs.map (·.1)=vs.map (·.1):=by
 unfold KV at r;induction r with
 | nil=>rfl
 | cons h t ih=>rw[List.map_cons,List.map_cons,ih,h.1]
theorem KV.length {kvs:List (κ × V)} {vs:List (κ × Value)} (r:KV kvs vs):kvs.length=vs.length:=Paired.length r
theorem kC (kvs:List (κ × V)) (k:κ):(bQ kvs k).length<=kvs.length:=List.length_filter_le _ _
end
theorem kD {P:Program} {w:World} {k:bE} {u:Value} (r:RelV (kV k) u):(aQ P w).is k u=true:=by
 cases k with
 | inl i=>obtain⟨t,e⟩:=(show ∃t,u=Value.int i t from r);subst e;exact sX P w i t
 | inr x=>obtain⟨t,e⟩:=(show ∃t,u=Value.str x t from r);subst e;exact sY P w x t
theorem pS {P:Program} {w:World}:∀ {ks:List bE} {us:List Value},Vals (ks.map kV) us->ItemsAre (aQ P w) ks us
 | [],_,r=>by rw[List.map_nil]at r;cases r;exact .nil
 | k::ks,_,r=>by
  rw[List.map_cons]at r;cases r with
  | cons h t=>exact .cons (kD h) (pS t)
abbrev KT (H:Hp):List (List bE × V)->List (List bE × Addr × Value)->Prop:=Paired fun p q=>p.1=q.1/\H q.2.1=some (.tup (p.1.map kV))/\RelV p.2 q.2.2
theorem KT.val {H:Hp} {kvs:List (List bE × V)} {xs:List (List bE × Addr × Value)} (r:KT H kvs xs) (k:List bE):RelO (aY kvs k) ((atKey xs k).map (·.2)):=by
 induction r with
 | nil=>exact True.intro
 | @cons p q ps qs h t ih=>
  obtain⟨h1,_,h2⟩:=h
  by_cases e:p.1=k
  ·have e':q.1=k:=h1.symm.trans e
   have b:atKey (q::qs) k=some q.2:=by simp [atKey,List.find?_cons,e']
   rw[bN e,b];exact h2
  ·have e':¬ q.1=k:=fun z=>e (h1.trans z)
   have b:atKey (q::qs) k=atKey qs k:=by simp [atKey,List.find?_cons,e']
   rw[bO e,b];exact ih
theorem KT.repl {H:Hp} {kvs:List (List bE × V)} {xs:List (List bE × Addr × Value)} (r:KT H kvs xs) (k:List bE) {y:V} {u:Value} (ry:RelV y u) :
  KT H (kvs.map fun kv=>if kv.1=k then (kv.1,y) else kv) (xs.map (putAt k u)):=by
 induction r with
 | nil=>exact .nil
 | @cons p q ps qs h t ih=>
  rw[List.map_cons,List.map_cons];refine .cons ?_ ih
  obtain⟨h1,h2,h3⟩:=h
  unfold putAt;by_cases e:p.1=k
  ·rw[if_pos e,if_pos (h1.symm.trans e)];exact⟨h1,h2,ry⟩
  ·rw[if_neg e,if_neg (fun z=>e (h1.trans z))];exact⟨h1,h2,h3⟩
theorem KT.put {H:Hp} {kvs:List (List bE × V)} {xs:List (List bE × Addr × Value)} (r:KT H kvs xs) (k:List bE) {b:Addr} {y:V} {u:Value} (hb:H b=some (.tup (k.map kV))) (ry:RelV y u) :
  KT H (bA kvs k y) (storedH xs k b u):=by
 have e:(kvs.any fun kv=>decide (kv.1=k))=(atKey xs k).isSome:=by
  rw[bW,(r.val k).isSome_eq,Option.isSome_map]
 unfold bA storedH;rw[e];by_cases q:(atKey xs k).isSome=true
 ·rw[if_pos q,if_pos q];exact r.repl k ry
 ·rw[if_neg q,if_neg q];exact Paired.snoc r ⟨rfl,hb,ry⟩
theorem KT.keeps {H H':Hp} {kvs:List (List bE × V)} {xs:List (List bE × Addr × Value)} (r:KT H kvs xs) (ht:∀b ys,H b=some (.tup ys)->H' b=some (.tup ys)):KT H' kvs xs:=
 Paired.mapP r fun _ _ z=>⟨z.1,ht _ _ z.2.1,z.2.2⟩
section
variable {P:Program} {w:World} {H:Hp} {h:Heap} {a:Addr}
theorem Mc {u:HO} (ok:HOk P w H h) (e:Rd H a u):ObjOk P w H h a u:=e.ok ok
theorem kF {kvs:List (bE × V)} (ok:HOk P w H h) (e:Rd H a (.dK kvs)):kvs.length<=sizeLine/\(a == sysModules)=false/\∃vs,KV kvs vs/\h.DictOf (aQ P w) a vs:=
 show ObjOk P w H h a (.dK kvs) from Mc ok e
theorem xV {kvs:List (bE × V)} (ok:HOk P w H h) (e:H a=some (.dK kvs)):kvs.length<=sizeLine/\(a == sysModules)=false/\∃vs,KV kvs vs/\h.DictOf (aQ P w) a vs:=kF ok (.inl e)
theorem iI {ks:List bE} (ok:HOk P w H h) (e:H a=some (.tup (ks.map kV))):(tupleKind (aQ P w)).is h ks a:=by
 obtain⟨_,its,r,o,h1,h2,n,h3⟩:=(show ObjOk P w H h a (.tup (ks.map kV)) from ok a _ e)
 exact⟨o,its.toArray,n,h1,h2,h3,by simpa using pS r⟩
theorem nO {kvs:List (List bE × V)} (ok:HOk P w H h) (e:Rd H a (.dT kvs)):kvs.length<=sizeLine/\(a == sysModules)=false ∧
  ∃xs,KT H kvs xs/\h.DictOfH (tupleKind (aQ P w)) a xs:=by
 obtain⟨z,y,xs,r,o,es,ep,h1,h2,h3,h4,h5⟩:=(show ObjOk P w H h a (.dT kvs) from Mc ok e)
 refine⟨z,y,xs,r,o,es,ep,h1,h2,h3,h4,fun x hx=>?_,h5⟩
 have all:∀ {l:List (List bE × V)} {m:List (List bE × Addr × Value)},KT H l m->∀x∈m,(tupleKind (aQ P w)).is h x.1 x.2.1:=by
  intro l m q;induction q with
  | nil=>intro x hx;exact nomatch hx
  | @cons p q ps qs hq t ih=>
   intro x hx;rcases List.mem_cons.mp hx with e | hx
   ·subst e;exact iI ok (by rw[<- hq.1];exact hq.2.1)
   ·exact ih x hx
 exact all r x hx
theorem Do {kvs:List (List bE × V)} (ok:HOk P w H h) (e:H a=some (.dT kvs)):kvs.length<=sizeLine/\(a == sysModules)=false ∧
  ∃xs,KT H kvs xs/\h.DictOfH (tupleKind (aQ P w)) a xs:=nO ok (.inl e)
end
def DGet (H:Hp) (a:Addr) (y:V) (r:Option V):Prop:=
 (∃kvs k,Rd H a (.dK kvs)/\y=kV k/\r=aY kvs k)∨∃kvs k b,Rd H a (.dT kvs)/\y=.ref b/\H b=some (.tup (k.map kV))/\r=aY kvs k
def DPut (H:Hp) (a:Addr) (y v:V) (H':Hp):Prop:=
 (∃kvs k,H a=some (.dK kvs)/\y=kV k/\kvs.length<sizeLine/\H'=aI H a (.dK (bA kvs k v)))∨
 ∃kvs k b,H a=some (.dT kvs)/\y=.ref b/\H b=some (.tup (k.map kV))/\kvs.length<sizeLine/\H'=aI H a (.dT (bA kvs k v))
theorem DGet.k {H:Hp} {a:Addr} {kvs:List (bE × V)} {k:bE} (e:H a=some (.dK kvs)):DGet H a (kV k) (aY kvs k):=.inl ⟨kvs,k,.inl e,rfl,rfl⟩
theorem DGet.t {H:Hp} {a b:Addr} {kvs:List (List bE × V)} {k:List bE} (e:H a=some (.dT kvs)) (eb:H b=some (.tup (k.map kV))):DGet H a (.ref b) (aY kvs k):=.inr ⟨kvs,k,b,.inl e,rfl,eb,rfl⟩
theorem DPut.k {H:Hp} {a:Addr} {kvs:List (bE × V)} {k:bE} {v:V} (e:H a=some (.dK kvs)) (hl:kvs.length<sizeLine):DPut H a (kV k) v (aI H a (.dK (bA kvs k v))):=.inl ⟨kvs,k,e,rfl,hl,rfl⟩
theorem DPut.t {H:Hp} {a b:Addr} {kvs:List (List bE × V)} {k:List bE} {v:V} (e:H a=some (.dT kvs)) (eb:H b=some (.tup (k.map kV))) (hl:kvs.length<sizeLine) :
  DPut H a (.ref b) v (aI H a (.dT (bA kvs k v))):=.inr ⟨kvs,k,b,e,rfl,eb,hl,rfl⟩
section
variable {X:Cx} {pins:List (Addr × Obj)} {σ:St} {H:Hp} {s:Shared} {a:Addr} {y v:V} {u r:Value} {o:Option V} {A:Around} {E:Value->Shared->Prop}
theorem Inv.big (I:Inv X pins σ H s):sysModules<s.heap.objs.size:=by
 have h:mainGlobals<s.heap.objs.size:=(I.mod.glob.keeps I.bk).lt
 exact Nat.lt_trans Zd h
theorem Aj {Q:Value->Shared->Prop} (hu:A.units+1<cLine) (I:Inv X pins σ H s) (g:DGet H a y (some v)) (ry:RelV y u) (h:∀w' s',Inv X pins σ H s'->RelV v w'->Q w' s') :
  wpAny (model X.prog X.w) A (getItem (.ref a) u) Q E s:=by
 rcases g with⟨kvs,k,e,ey,l⟩ | ⟨kvs,k,b,e,ey,eb,l⟩
 ·subst ey;obtain⟨z,hd,vs,rel,dd⟩:=kF I.hok e
  obtain⟨w',hw,rw'⟩:=RelO.some_of (v:=v) (o:=valueAt vs k) (by rw[l];exact rel.val k)
  exact wpAny_getItem_of (kD ry) dd.mapOf hw (h w' _ (I.tok _) rw')
 ·subst ey;cases (show u=Value.ref b from ry)
  obtain⟨z,hd,xs,rel,dd⟩:=nO I.hok e
  obtain⟨w',hw,rw'⟩:=RelO.some_of (v:=v) (o:=(atKey xs k).map (·.2)) (by rw[l];exact rel.val k)
  obtain⟨p,hp,hp2⟩:=Option.map_eq_some_iff.mp hw
  refine wpAny_getItem_heap (tupleKind_room_in1 hu) (iI I.hok eb) dd hp ?_
  rw[hp2];exact h w' _ (I.tok _) rw'
theorem Sx {Q:Value->Shared->Prop} (hu:A.units+1<cLine) (I:Inv X pins σ H s) (g:DGet H a y o) (ry:RelV y u) (h:∀s',Inv X pins σ H s'->Q (.bool o.isSome) s') :
  wpAny (model X.prog X.w) A (compareOp .In u (.ref a)) Q E s:=by
 rcases g with⟨kvs,k,e,ey,l⟩ | ⟨kvs,k,b,e,ey,eb,l⟩
 ·subst ey;obtain⟨z,hd,vs,rel,dd⟩:=kF I.hok e
  refine wpAny_in_of (kD ry) hd dd.mapOf ?_
  rw[<- (rel.val k).isSome_eq,<- l];exact h _ (I.tok _)
 ·subst ey;cases (show u=Value.ref b from ry)
  obtain⟨z,hd,xs,rel,dd⟩:=nO I.hok e
  refine wpAny_in_heap (tupleKind_room_in1 hu) (iI I.hok eb) hd dd ?_
  have q:=(rel.val k).isSome_eq
  rw[Option.isSome_map]at q;rw[<- q,<- l];exact h _ (I.tok _)
theorem xW {Q:Value->Shared->Prop} (hu:A.units+1<cLine) (I:Inv X pins σ H s) (g:DGet H a y o) (ry:RelV y u) (h:∀s',Inv X pins σ H s'->Q (.bool (!o.isSome)) s') :
  wpAny (model X.prog X.w) A (compareOp .NotIn u (.ref a)) Q E s:=by
 rcases g with⟨kvs,k,e,ey,l⟩ | ⟨kvs,k,b,e,ey,eb,l⟩
 ·subst ey;obtain⟨z,hd,vs,rel,dd⟩:=kF I.hok e
  refine wpAny_notIn_of (kD ry) hd dd.mapOf ?_
  rw[<- (rel.val k).isSome_eq,<- l];exact h _ (I.tok _)
 ·subst ey;cases (show u=Value.ref b from ry)
  obtain⟨z,hd,xs,rel,dd⟩:=nO I.hok e
  refine wpAny_notIn_heap (tupleKind_room_in1 hu) (iI I.hok eb) hd dd ?_
  have q:=(rel.val k).isSome_eq
  rw[Option.isSome_map]at q;rw[<- q,<- l];exact h _ (I.tok _)
theorem kG {h':Heap} {t':Nat} {ob:HO} (I:Inv X pins σ H s) (mu:Ry (H a)) (hs:Heap.SameBut a s.heap h') (he:∃q,h'.get? a=some q) (new:ObjOk X.prog X.w (aI H a ob) h' a ob) :
  Inv X pins σ (aI H a ob) {s with heap:=h',toks:=t' }:=
 I.write (x:=a) (e:=a) mu (.inl rfl) (fun b q hb z=>(hs.2 b hb).trans z) he new
theorem vZ {P:Program} {w:World} {H':Hp} {h':Heap} {kvs:List (bE × V)} {vs:List (bE × Value)} (z:kvs.length<=sizeLine) (hd:(a == sysModules)=false) (rel:KV kvs vs) (dd:h'.DictOf (aQ P w) a vs) :
  ObjOk P w H' h' a (.dK kvs):=⟨z,hd,vs,rel,dd⟩
theorem Ak {H':Hp} {Q:Unit->Shared->Prop} (hu:A.units+1<cLine) (I:Inv X pins σ H s) (g:DPut H a y v H') (ry:RelV y u) (rv:RelV v r) (h:∀s',Inv X pins σ H' s'->Q () s') :
  wpAny (model X.prog X.w) A (setItem (.ref a) u r) Q E s:=by
 rcases g with⟨kvs,k,e,ey,l,eH⟩ | ⟨kvs,k,b,e,ey,eb,l,eH⟩
 ·subst ey eH;obtain⟨z,hd,vs,rel,dd⟩:=xV I.hok e
  have hz:vs.length<=sizeLine:=by rw[<- rel.length];exact z
  have hl:(bA kvs k v).length<=sizeLine:=by have:=cU kvs k v;omega
  refine wpAny_setItem_pairs (hsz:=hz) (kD ry) dd fun h' dd' hs=>h _ ?_
  have he:∃q,h'.get? a=some q:=let ⟨q,_,_,hq,_⟩:=dd';⟨q,hq⟩
  exact kG I (by rw[e];exact True.intro) hs he (vZ hl hd (rel.put k rv) dd')
 ·subst ey eH;cases (show u=Value.ref b from ry)
  obtain⟨z,hd,xs,rel,dd⟩:=Do I.hok e
  have hz:xs.length<=sizeLine:=by rw[<- Paired.length rel];exact z
  have hl:(bA kvs k v).length<=sizeLine:=by have:=cU kvs k v;omega
  refine wpAny_setItem_heap (hsz:=hz) (tupleKind_room_in1 hu) (iI I.hok eb) dd fun h' dd' hs=>h _ ?_
  obtain⟨q,es,ep,hq,h2,h3,h4,_,h5⟩:=dd'
  refine kG I (by rw[e];exact True.intro) hs ⟨q,hq⟩ ⟨hl,hd,_,(rel.put k eb rv).keeps fun c ys ec=>?_,q,es,ep,hq,h2,h3,h4,h5⟩
  rw[aD (aM ec e (fun z=>nomatch z))]
  exact ec
end
section
variable {X:Cx} {pins:List (Addr × Obj)} {σ:St} {H:Hp} {s:Shared} {a:Addr} {kvs:List (bE × V)} {k:bE} {u:Value} {A:Around} {E:Value->Shared->Prop}
theorem Rt {Q:Unit->Shared->Prop} (I:Inv X pins σ H s) (e:H a=some (.dK kvs)) (ry:RelV (kV k) u) (l:(aY kvs k).isSome=true) (h:∀s',Inv X pins σ (aI H a (.dK (bQ kvs k))) s'->Q () s') :
  wpAny (model X.prog X.w) A (delItem (.ref a) u) Q E s:=by
 obtain⟨z,hd,vs,rel,dd⟩:=xV I.hok e
 refine wpAny_delItem_slot dd.typeIs Zd PySem.F.slot_dict_delitem
  (call_meetsIn PySem.F.slot_dict_delitem dd.typeIs PySem.F.entry_dict_delitem (PySem.F.args_dict_delitem_2 _ _) (meets_dict_delitem_pairs (aQ X.prog X.w) a (kD ry)) ⟨vs,dd,by rw[<- rel.length];exact z,by rw[<- (rel.val k).isSome_eq];exact l,fun h' dd' hs=>h _ ?_⟩)
 have he:∃q,h'.get? a=some q:=let ⟨q,_,_,hq,_⟩:=dd';⟨q,hq⟩
 exact kG I (by rw[e];exact True.intro) hs he (vZ (iE (kC kvs k) z) hd (rel.drop k) dd')
theorem Sy {v:V} {more:List Value} {Q:Value->Shared->Prop} (I:Inv X pins σ H s) (e:H a=some (.dK kvs)) (ry:RelV (kV k) u) (l:aY kvs k=some v) (hm:more=[]∨∃x,more=[x])
  (h:∀w' s',Inv X pins σ (aI H a (.dK (bQ kvs k))) s'->RelV v w'->Q w' s'):wpAny (model X.prog X.w) A (call (.builtin "dict.pop") (.ref a::u::more)) Q E s:=by
 obtain⟨z,hd,vs,rel,dd⟩:=xV I.hok e
 obtain⟨w',hw,rw'⟩:=RelO.some_of (v:=v) (o:=valueAt vs k) (by rw[<- l];exact rel.val k)
 have hp:(keyPart u).isSome=true:=by
  cases k with
  | inl i=>obtain⟨t,q⟩:=(show ∃t,u=Value.int i t from ry);subst q;rfl
  | inr x=>obtain⟨t,q⟩:=(show ∃t,u=Value.str x t from ry);subst q;rfl
 have ha:argsOk "dict.pop" ⟨.ref a::u::more,[]⟩:=by
  rcases hm with q | ⟨x,q⟩
  ·subst q;exact PySem.F.args_dict_pop_2 _ _
  ·subst q;exact PySem.F.args_dict_pop_3 _ _ _
 refine call_meetsIn PySem.F.slot_dict_pop dd.typeIs PySem.F.entry_dict_pop ha (meets_dict_pop_there (aQ X.prog X.w) a (kD ry) more hm hp)
  ⟨vs,w',dd,by rw[<- rel.length];exact z,hw,fun h' dd' hs=>h w' _ ?_ rw'⟩
 have he:∃q,h'.get? a=some q:=let ⟨q,_,_,hq,_⟩:=dd';⟨q,hq⟩
 exact kG I (by rw[e];exact True.intro) hs he (vZ (iE (kC kvs k) z) hd (rel.drop k) dd')
end
def Pe (i:Expr):Prop:=∀ov iv,subscripted i false ov iv=operate [ov,iv] (getItem ov iv)
theorem Jj {prog:Program} {w:World} {A:Around} {E:Value->Shared->Prop} {s:Shared} {env:Env} {value slice:Expr} {pos:Pos} {T id:String} {Q:Value->Shared->Prop}
  (hl:typeLookup (.type T) "__getitem__"=pure (some (.builtin id))) (hs:Pe slice)
  (h:wpAny (model prog w) A (eval value env) (fun o s₁=>wpAny (model prog w) A (eval slice env) (fun i s₂=>s₂.TypeIs o T/\wpAny (model prog w) A (getItem o i) Q E s₂) E s₁) E s) :
  wpAny (model prog w) A (eval (.Subscript value slice pos) env) Q E s:=by
 refine Subscript_ (wpAny_mono h (fun o s₁ h₁=>wpAny_mono h₁ (fun i s₂ h₂=>?_) fun _ _ x=>x) fun _ _ x=>x)
 obtain⟨hT,h₂⟩:=h₂
 unfold subscriptTail;refine wpAny_bind ?_
 rw[getitemInPython_of_ne hT.not_modules];refine wpAny_bind (wpAny_specialOf hT hl ?_)
 have fin:wpAny (model prog w) A (subscripted slice false o i) (fun r s₃=>wpAny (model prog w) A (letTemporaryGo value o r >>= fun _=>pure r) Q E s₃) E s₂:=by
  rw[hs o i];exact wpAny_operating (wpAny_mono h₂ (fun r s₃ h₃=>wpAny_bind (wpAny_letTemporaryGo (wpAny_pure h₃))) fun _ _ x=>x)
 first
  | exact wpAny_pure (wpAny_bind fin)
  | exact wpAny_bind (wpAny_pure (wpAny_bind fin))
  | exact wpAny_bind fin
theorem tL {X:Cx} {pins:List (Addr × Obj)} {σ:St} {H:Hp} {s:Shared} {a:Addr} {y:V} {o:Option V} (I:Inv X pins σ H s) (g:DGet H a y o):s.TypeIs (.ref a) "dict":=by
 rcases g with⟨kvs,k,e,_,_⟩ | ⟨kvs,k,b,e,_,_,_⟩
 ·obtain⟨_,_,vs,_,dd⟩:=kF I.hok e
  exact dd.typeIs
 ·obtain⟨_,_,xs,_,dd⟩:=nO I.hok e
  exact dd.typeIs
def Md (td ty:TE):TE:=fun σ H Q=>td σ H fun x H1=>ty σ H1 fun y H2=>∃a v,x=.ref a/\DGet H2 a y (some v)/\Q v H2
section
variable {X:Cx} {o i e value:Expr} {pos pos' tpos:Pos} {td ty tv:TE}
theorem Jk (hu:X.A.units+1<cLine) (ho:PE X o td) (hi:PE X i ty) (hs:Pe i):PE X (.Subscript o i pos) (Md td ty):=by
 intro pins s σ H Q I h;refine Jj PySem.F.slot_dict_getitem.lookup hs (bG (ho pins s σ H _ I h) fun u s1 ⟨x,H1,I1,rx,q1⟩=>bG (hi pins s1 σ H1 _ I1 q1) fun iv s2 ⟨y,H2,I2,ry,a,v,ex,g,q2⟩=>?_)
 subst ex;obtain rfl:u=Value.ref a:=rx
 exact⟨tL I2 g,Aj hu I2 g ry fun w' s3 I3 rw'=>⟨v,H2,I3,rw',q2⟩⟩
end
theorem Dp {P:Program} {w:World} {H:Hp} (h:Heap) (hb:sysModules<h.objs.size):ObjOk P w H (h.push {cls:=.type "dict",data:=.dict #[] }) h.objs.size (.dK []):=
 ⟨Nat.zero_le _,beq_eq_false_iff_ne.mpr (Ne.symm (Nat.ne_of_lt hb)),[],.nil,Heap.DictOf.new h⟩
theorem Dq {P:Program} {w:World} {H:Hp} (h:Heap) (hb:sysModules<h.objs.size):ObjOk P w H (h.push {cls:=.type "dict",data:=.dict #[] }) h.objs.size (.dT []):=
 ⟨Nat.zero_le _,beq_eq_false_iff_ne.mpr (Ne.symm (Nat.ne_of_lt hb)),[],.nil,_,#[],0,Heap.get?_push_size _ rfl,⟨rfl,rfl,rfl⟩,rfl,rfl,List.nodup_nil⟩
def Dr:TE:=fun _ H Q=>∀p,H p=none->Q (.ref p) (aI H p (.dK []))
def Ds:TE:=fun _ H Q=>∀p,H p=none->Q (.ref p) (aI H p (.dT []))
section
variable {X:Cx} {pos:Pos}
theorem Dt:PE X (.Dict [] [] pos) Dr:=fun pins s σ H Q I h=>
 wpAny_Dict_empty ⟨.ref s.heap.objs.size,_,I.laid (a:=s.heap.objs.size) (o:=.dK []) (t':=s.toks) (fun _ _ q=>iH _ q) (cB _) (Dp s.heap I.big),rfl,h _ (I.hok.fresh (cB _))⟩
theorem Du:PE X (.Dict [] [] pos) Ds:=fun pins s σ H Q I h=>
 wpAny_Dict_empty ⟨.ref s.heap.objs.size,_,I.laid (a:=s.heap.objs.size) (o:=.dT []) (t':=s.toks) (fun _ _ q=>iH _ q) (cB _) (Dq s.heap I.big),rfl,h _ (I.hok.fresh (cB _))⟩
end
def dB (kvs more:List (bE × V)):List (bE × V):=more.foldl (fun acc kv=>bA acc kv.1 kv.2) kvs
theorem jI:∀(more kvs:List (bE × V)),(dB kvs more).length<=kvs.length+more.length
 | [],kvs=>by show kvs.length<=kvs.length+0;omega
 | p::r,kvs=>by
  have h1:=jI r (bA kvs p.1 p.2)
  have h2:=cU kvs p.1 p.2
  show(dB (bA kvs p.1 p.2) r).length<=_
  rw[Cf];omega
structure M1 (X:Cx) (o:Expr) (m:Str) (apos:Pos) (e:Expr) (cpos:Pos):Prop where
 base:attributeBase o m X.env (eval o X.env)=eval o X.env
 few:((backTo cpos (starEach [e] X.env)).all (fun x=>!x.1)&&(backToKw cpos (keywordEach [] X.env)).all (fun x=>x.1.isSome)
  && decide (([e]:List Expr).length+([]:List Keyword).length+(if ([]:List Keyword).isEmpty then 0 else 1)<30))=true
 line:(apos.endLine == cpos.line)=true
 trees:backTo cpos (starEach [e] X.env)=[(false,eval e X.env)]
structure M2 (X:Cx) (o:Expr) (m:Str) (apos:Pos) (e f:Expr) (cpos:Pos):Prop where
 base:attributeBase o m X.env (eval o X.env)=eval o X.env
 few:((backTo cpos (starEach [e,f] X.env)).all (fun x=>!x.1)&&(backToKw cpos (keywordEach [] X.env)).all (fun x=>x.1.isSome)
  && decide (([e,f]:List Expr).length+([]:List Keyword).length+(if ([]:List Keyword).isEmpty then 0 else 1)<30))=true
 line:(apos.endLine == cpos.line)=true
 trees:backTo cpos (starEach [e,f] X.env)=[(false,eval e X.env),(false,eval f X.env)]
def Sz (H:Hp) (a:Addr):Prop:=(∃kvs,Rd H a (.dK kvs))∨∃kvs,Rd H a (.dT kvs)
theorem rG {X:Cx} {pins:List (Addr × Obj)} {σ:St} {H:Hp} {s:Shared} {a:Addr} (I:Inv X pins σ H s) (d:Sz H a) :
  s.TypeIs (.ref a) "dict"/\(∀b,Value.ref a=.ref b->∃ob,s.heap.get? b=some ob/\ob.dict=none)/\(a == sysModules)=false:=by
 rcases d with⟨kvs,e⟩ | ⟨kvs,e⟩
 ·obtain⟨_,hd,vs,_,dd⟩:=kF I.hok e
  refine⟨dd.typeIs,fun b q=>?_,hd⟩
  cases q
  obtain⟨ob,_,_,h1,h2,_⟩:=dd
  exact⟨ob,h1,h2.2.1⟩
 ·obtain⟨_,hd,xs,_,dd⟩:=nO I.hok e
  refine⟨dd.typeIs,fun b q=>?_,hd⟩
  cases q
  obtain⟨ob,_,_,h1,h2,_⟩:=dd
  exact⟨ob,h1,h2.2.1⟩
section
variable {X:Cx} {pins:List (Addr × Obj)} {σ:St} {H:Hp} {s:Shared} {a:Addr} {y d:V} {u r:Value} {o:Option V} {A:Around} {E:Value->Shared->Prop}
theorem Pf {Q:Value->Shared->Prop} (hu:A.units+1<cLine) (I:Inv X pins σ H s) (g:DGet H a y o) (ry:RelV y u) (rd:RelV d r) (h:∀w' s',Inv X pins σ H s'->RelV (o.getD d) w'->Q w' s') :
  wpAny (model X.prog X.w) A (call (.builtin "dict.get") [.ref a,u,r]) Q E s:=by
 rcases g with⟨kvs,k,e,ey,l⟩ | ⟨kvs,k,b,e,ey,eb,l⟩
 ·subst ey;obtain⟨z,hd,vs,rel,dd⟩:=kF I.hok e
  refine call_meetsIn PySem.F.slot_dict_get dd.typeIs PySem.F.entry_dict_get (PySem.F.args_dict_get_3 _ _ _) (meets_dict_get_default (aQ X.prog X.w) a (kD ry) hd r) ⟨_,dd.mapOf,h _ _ (I.tok _) ?_⟩
  rw[l];exact(rel.val k).getD rd
 ·subst ey;cases (show u=Value.ref b from ry)
  obtain⟨z,hd,xs,rel,dd⟩:=nO I.hok e
  refine call_meetsIn PySem.F.slot_dict_get dd.typeIs PySem.F.entry_dict_get (PySem.F.args_dict_get_3 _ _ _) (meetsH_dict_get_default (tupleKind (aQ X.prog X.w)) a b hd r) ⟨tupleKind_room_in1 hu,k,xs,iI I.hok eb,dd,h _ _ (I.tok _) ?_⟩
  rw[l];exact(rel.val k).getD rd
end
def Dv (td ty tx:TE):TE:=fun σ H Q=>td σ H fun x H1=>∃a,x=.ref a/\Sz H1 a/\ty σ H1 fun y H2=>tx σ H2 fun z H3=>∃o,DGet H3 a y o/\Q (o.getD z) H3
def Dw (td ty:TE):TE:=fun σ H Q=>td σ H fun x H1=>∃a,x=.ref a/\Sz H1 a/\ty σ H1 fun y H2=>∃kvs k v,H2 a=some (.dK kvs)/\y=kV k/\aY kvs k=some v/\Q v (aI H2 a (.dK (bQ kvs k)))
section
variable {X:Cx} {o e f:Expr} {apos cpos:Pos} {td ty tx:TE}
theorem Dx (hu:X.A.units+1<cLine) (ho:PE X o td) (he:PE X e ty) (hf:PE X f tx) (m:M2 X o "get" apos e f cpos):PE X (.Call (.Attribute o "get" apos) [e,f] [] cpos) (Dv td ty tx):=by
 intro pins s σ H Q I h;refine wpAny_Call_method m.base m.few m.line PySem.F.plainAttrs_dict PySem.F.slot_dict_get PySem.F.type_dict_get (bG (ho pins s σ H _ I h) fun u s1 ⟨x,H1,I1,rx,a,ex,d,q1⟩=>?_)
 subst ex;obtain rfl:u=Value.ref a:=rx
 obtain⟨t1,t2,_⟩:=rG I1 d
 refine⟨t1,t2,?_⟩
 rw[m.trees];refine Calls.callWith_builtin rfl (Calls.evalArgs_plain (Calls.spliced_cons (bG (he pins s1 σ H1 _ I1 q1) fun iv s2 ⟨y,H2,I2,ry,q2⟩=>
  Calls.spliced_cons (bG (hf pins s2 σ H2 _ I2 q2) fun fv s3 ⟨z,H3,I3,rz,ov,g,q3⟩=>Calls.spliced_nil ?_))))
 exact Pf hu I3 g ry rz fun w' s4 I4 rw'=>⟨_,H3,I4,rw',q3⟩
theorem Dy (ho:PE X o td) (he:PE X e ty) (m:M1 X o "pop" apos e cpos):PE X (.Call (.Attribute o "pop" apos) [e] [] cpos) (Dw td ty):=by
 intro pins s σ H Q I h;refine wpAny_Call_method m.base m.few m.line PySem.F.plainAttrs_dict PySem.F.slot_dict_pop PySem.F.type_dict_pop (bG (ho pins s σ H _ I h) fun u s1 ⟨x,H1,I1,rx,a,ex,d,q1⟩=>?_)
 subst ex;obtain rfl:u=Value.ref a:=rx
 obtain⟨t1,t2,_⟩:=rG I1 d
 refine⟨t1,t2,?_⟩
 rw[m.trees];refine Calls.callWith_builtin rfl (Calls.evalArgs_plain (Calls.spliced_cons (bG (he pins s1 σ H1 _ I1 q1) fun iv s2 ⟨y,H2,I2,ry,kvs,k,v,ea,ey,l,q2⟩=>Calls.spliced_nil ?_)))
 subst ey;exact Sy I2 ea ry l (.inl rfl) fun w' s3 I3 rw'=>⟨v,_,I3,rw',q2⟩
end
end L2
namespace Att
open PySem PySem.W PySem.Calls PyProof.Rows
theorem mE {P:Params} {h:Heap}:∀(ns:List Int) (vs:List Value),WellAll P h vs (ns.map WData.int)->IntsAre vs ns:=by
 intro ns;induction ns with
 | nil=>
  intro vs w;rw[List.map_nil]at w;cases w
  exact .nil
 | cons n ns ih=>
  intro vs w;rw[List.map_cons]at w;cases w with
  | cons a b=>
   cases a
   exact .cons _ _ (ih _ b)
theorem Al {l:OpenLaw} {n:Nat} (hn:l.most=some n) {P:Params} {h:Heap} {args:List WData} {vals:List Value}
  (hpre:l.row.toRowW.claim.pre args=true) (hwl:WellAll P h vals args) :
  ∃a vs ns,vals=[Value.ref a]/\args=[WData.list (ns.map WData.int)]/\h.get? a=some {cls:=.type "list",data:=.seq vs.toArray }/\IntsAre vs ns/\ns.length<=n:=by
 have hsh:WShape.hasAll [] args [.list .int]=true:=(pre_splitW hpre).1
 have hc:l.pre.holds [] {args:=args }=true:=(pre_splitW hpre).2
 obtain⟨d,r,rfl,h1,h2⟩:=hasAllW_cons hsh
 obtain rfl:=hasAllW_nil h2
 obtain⟨xs,rfl,h3⟩:=hasW_list h1
 obtain⟨ns,rfl⟩:=items_int h3
 have hlen:ns.length<=n:=by
  unfold OpenLaw.pre at hc;have h4:(WTm.not (.lt (.lit (.int (n:Int))) (.len (.arg 0)))).holds [] {args:=[.list (ns.map .int)] }=true:=by
   have h4:=(holds_andW hc).1
   rw[hn]at h4;exact h4
  have h5:=condW_of h4 (w_not (w_lt w_lit (w_len_list (w_arg rfl))))
  rw[dN]at h5;refine Nat.le_of_not_lt fun q=>?_
  have q':(n:Int)<((ns.length:Nat):Int):=by omega
  first
   | (rw[decide_eq_true q']at h5;exact absurd h5 Zd)
   | (simp at h5;omega)
 cases hwl with
 | cons w1 w2=>
  cases w2
  cases w1 with
  | list ho hall=>exact⟨_,_,ns,rfl,rfl,ho,mE ns _ hall,hlen⟩
theorem Am (l:OpenLaw) (args:List WData):l.row.toRowW.claim.post args (.bool true) args=true:=
 postW_of (r:=l.row.toRowW) (X:=(true == true))
  (show WShape.has [] (.bool true) .bool=true by first | rfl | decide | simp [WShape.has,WShape.arms,WShape.armsAll])
  (show(WTm.eq .res (.lit (.bool true))).value [] {args:=args,res:=some (.bool true),after:=args }=some (.bool (true == true)) from w_eq_bool (w_res rfl) w_lit) rfl
theorem attach_call {l:OpenLaw} {n:Nat} {q:Program} {loose:List Str} {XP:(Str->Option Value)->Heap->Prop} {YP:World->Heap->Prop} {d:DefRec}
  (hn:l.most=some n) (hdf:d.params.defaults=[])
  (call:∀(w:World) (s₀ s₁:Shared) (mg mb:Str->Option Value) (fa:Addr) (o:Obj) (pm cd doc:Value) (a:Addr) (vs:List Value) (ns:List Int),
   Ground q loose [] XP w s₀ mg mb s₁.heap->YP w s₁.heap →
   s₁.heap.get? fa=some o->o.data=.func (docDef d.name d.params d.body d.scope pm cd doc)->s₁.heap.CodeRec cd d.name->mg d.name=some (.ref fa) →
   s₁.heap.get? a=some {cls:=.type "list",data:=.seq vs.toArray }->IntsAre vs ns->ns.length<=n->s₁.gens=#[] →
   codeAny (model l.prog w) callerA (.call (.ref fa) ⟨[.ref a],[]⟩) (fun r s'=>r=.ok (.ret (.bool true))/\OldK s₁.heap s'.heap/\s'.os=s₁.os/\AllBare s'.gens) s₁) :
  WalkO q loose XP YP l.row.toRowW d [] (fun f vs=>PySem.call f vs):=by
 intro w s₀ s₁ mg mb G Y fa o pm cd doc dV kV ho hd hcd hD hmg hg args vals as hpre hlay hrd hwl hlo;obtain rfl:dV=.none:=Dflts.none hD hdf
 obtain rfl:kV=.none:=Dflts.noKw hD
 obtain⟨a,vs,ns,rfl,rfl,hobj,hints,hlen⟩:=Al hn hpre hwl
 refine enter_call (codeAny_mono (call w s₀ s₁ mg mb fa o pm cd doc a vs ns G Y ho (fd_plain hd) hcd hmg hobj hints hlen hg) fun r s' hq=>?_)
 obtain⟨rfl,h2,h3,h4⟩:=hq
 exact⟨.inl ⟨.bool true,.bool true,[],rfl,fun _=>rfl,.bool true,Am l _,fun _=>⟨List.Pairwise.nil,fun _ hm=>(nomatch hm)⟩⟩,h2,h3,h4⟩
end Att
namespace L2
open PySem PySem.Spec PyProof.Rows
theorem pT:∀ {vs:List Value} {ns:List Int},IntsAre vs ns->Vals (ns.map V.int) vs
 | _,_,.nil=>.nil
 | _,_,.cons n t h=>.cons ⟨t,rfl⟩ (pT h)
def Pg (H:Hp):Prop:=∀b,H b=none∨∃o xs,H b=some (.frz o (.lst xs))
theorem Dz {P:Program} {w:World} {K:W.Frag} {mg mb:Str->Option Value} {CX:Cy} {k:Nat} {fa a:Addr} {fd:FuncData} {x:Str} {sp:Sp} {s₁:Shared} {vs:List Value} {ns:List Int}
  (KX:K.In s₁.heap) (hns:s₁.heap.Ns mainGlobals mg) (hb:s₁.heap.Ns builtinsNs mb) (hbb:∀x:Str,x≠"__name__"->mb x=bootBuiltins x) (hlim:s₁.heap.NoLimit) (hg:s₁.gens=#[])
  (ha:s₁.heap.get? a=some {cls:=.type "list",data:=.seq vs.toArray }) (hi:IntsAre vs ns) (hl:ns.length<=sizeLine) (hr:Room k callerA)
  (F:∀base:Heap,K.In base->base.Ns mainGlobals mg->gM P w K mg base CX k fa fd [x] sp) (hbind:∀(s:Shared) (u:Value),BindsTo s fd ⟨[u],[]⟩ [(x,u)])
  (hsp:∀H:Hp,Pg H->SqL K H a (ns.map V.int)->sp [.ref a] H (fun v _=>v=.bl true) fun _ _ _=>False)
  (hCX:∀H e s',CX [] H s₁ (fun _ _ _=>False) e s'->False) :
  codeAny (model P w) callerA (.call (.ref fa) ⟨[.ref a],[]⟩) (fun r s'=>r=.ok (.ret (.bool true))/\OldK s₁.heap s'.heap/\s'.os=s₁.os/\AllBare s'.gens) s₁:=by
 have rv:=pT hi
 have lenV:=hi.length
 have core:∀H:Hp,Pg H->SqL K H a (ns.map V.int)->HOk P w H s₁.heap->(∀b,H b≠none->b=a)->(H a≠none->K.lookup a=none) →
   codeAny (model P w) callerA (.call (.ref fa) ⟨[.ref a],[]⟩) (fun r s'=>r=.ok (.ret (.bool true))/\OldK s₁.heap s'.heap/\s'.os=s₁.os/\AllBare s'.gens) s₁:=by
  intro H hO hS hok hA hK;have base_of:∀ {b:Addr} {o:Obj},s₁.heap.get? b=some o->H b=none->(qS s₁.heap H).get? b=some o:=fun e n=>Ch e n
  have noA:∀ {b:Addr} {o:Obj} {es:Array DictEntry} {ep:Nat},s₁.heap.get? b=some o->o.data=.dict es ep->H b=none:=fun {b o es ep} e d=>by
   cases q:H b with
   | none=>rfl
   | some u=>
    have e':b=a:=hA b (by rw[q];simp)
    subst e';rw[ha]at e;cases e
    have d':Data.seq vs.toArray _=Data.dict es ep:=d
    cases d'
  have nsK:∀ {b:Addr} {m:Str->Option Value},s₁.heap.Ns b m->(qS s₁.heap H).Ns b m:=fun {b m} ⟨o,es,ep,e,d,r⟩=>⟨o,es,ep,base_of e (noA e d),d,r⟩
  have hKb:K.In (qS s₁.heap H):=fun b o e=>base_of (KX b o e) (by
   cases q:H b with
   | none=>rfl
   | some u=>
    have e':b=a:=hA b (by rw[q];simp)
    subst e';rw[hK (by rw[q];simp)]at e;cases e)
  have hM:Mod K mg (qS s₁.heap H):=⟨hKb,nsK hns,⟨mb,nsK hb,hbb⟩,let ⟨mc,h1,h2⟩:=hlim;⟨mc,nsK h1,h2⟩⟩
  have e0:Env0 P w K mg (qS s₁.heap H) callerA [] s₁ H:=⟨rfl,hM,fun b o e=>Ic e,Nat.le_of_eq (zS _ _),trivial,fun b hb=>absurd (show b∈([]:List Addr) from hb) Zs,hok,.of_eq hg⟩
  refine codeAny_mono ((F _ hKb (nsK hns)).run callerA [] s₁ H ⟨[.ref a],[]⟩ [.ref a] [.ref a] _ _ hr e0 (hbind s₁ (.ref a)) (.cons rfl .nil) (hsp H hO hS)) fun r s' h=>?_
  cases r with
  | error e=>exact(hCX H e s' h).elim
  | ok fl=>
   cases fl with
   | next=>exact False.elim h
   | brk=>exact False.elim h
   | cont=>exact False.elim h
   | ret u=>
    obtain⟨v,H',os,bare,un,hok',r',q⟩:=h
    have q':v=.bl true:=q
    subst q';obtain rfl:u=Value.bool true:=r'
    refine⟨rfl,OldK.of_keep fun b o e=>?_,os,bare⟩
    cases q:H b with
    | none=>exact un.keep b o e q (by intro z;exact absurd (show b∈([]:List Addr) from z) Zs) Zs
    | some u=>
     rcases hO b with z | ⟨ob,xs,z⟩
     ·rw[q]at z;cases z
     ·have z2:=un.frzs b ob _ z
      obtain⟨e1,_⟩:=hok b _ z
      obtain⟨e2,_⟩:=hok' b _ z2
      rw[e]at e1;cases e1
      exact e2
 cases hk:K.lookup a with
 | some o=>
  have e:=KX a o hk
  rw[ha]at e;cases e
  refine core (fun _=>none) (fun _=>.inl rfl) (.inr ⟨_,vs.toArray,_,hk,rfl,rfl,rfl,by rw[eC,lenV];exact hl,by simpa using rv⟩) (fun b u z=>by have z':(none:Option HO)=some u:=z;cases z') (fun b z=>absurd rfl z) fun z=>absurd rfl z
 | none=>
  refine core (fun b=>if b=a then some (.frz {cls:=.type "list",data:=.seq vs.toArray } (.lst (ns.map V.int))) else none) (fun b=>?_) (.inl (.inr ⟨{cls:=.type "list",data:=.seq vs.toArray },if_pos rfl⟩)) (fun b u z=>?_) (fun b z=>?_) fun _=>hk
  ·by_cases hb:b=a
   ·exact .inr ⟨_,_,if_pos hb⟩
   ·exact .inl (if_neg hb)
  ·by_cases hb:b=a
   ·have z':=(if_pos hb).symm.trans z
    cases z'
    subst hb;exact⟨ha,by rw[dN];exact hl,vs,_,rv,ha⟩
   ·have z':=(if_neg hb).symm.trans z
    cases z'
  ·by_cases hb:b=a
   ·exact hb
   ·exact absurd (if_neg hb) z
end L2
namespace L2
open PySem PySem.Spec PyProof.Rows
theorem xX {l:W.OpenLaw} {n k:Nat} {q:Program} {loose:List Str} {XP:(Str->Option Value)->Heap->Prop} {YP:World->Heap->Prop} {d:DefRec} {K:Params->W.Frag} {CX:World->Cy} {sp:World->Sp} {x:Str}
  (hn:l.most=some n) (hn2:n<=sizeLine) (hdf:d.params.defaults=[]) (hr:Room k callerA)
  (hY:∀(w:World) (h:Heap),YP w h->(K w.params).In h)
  (F:∀(w:World) (mg:Str->Option Value) (fa:Addr) (h:Heap),(K w.params).In h->h.Ns mainGlobals mg->mg d.name=some (.ref fa) →
   ∃fd:FuncData,(∀(s:Shared) (u:Value),BindsTo s fd ⟨[u],[]⟩ [(x,u)]) ∧
    ∀base:Heap,(K w.params).In base->base.Ns mainGlobals mg->gM l.prog w (K w.params) mg base (CX w) k fa fd [x] (sp w))
  (hsp:∀(w:World) (H:Hp) (a:Addr) (ns:List Int),ns.length<=n->Pg H->SqL (K w.params) H a (ns.map V.int)->sp w [.ref a] H (fun v _=>v=.bl true) fun _ _ _=>False)
  (hCX:∀(w:World) (H:Hp) (s:Shared) (e:Value) (s':Shared),CX w [] H s (fun _ _ _=>False) e s'->False) :
  W.WalkO q loose XP YP l.row.toRowW d [] (fun f vs=>PySem.call f vs):=by
 refine Att.attach_call hn hdf fun w s₀ s₁ mg mb fa o pm cd doc a vs ns G Y ho hd hcd hmg hobj hints hlen hg=>?_
 have KX:=hY w _ Y
 obtain⟨fd,hb,hF⟩:=F w mg fa _ KX G.T.g hmg
 exact Dz KX G.T.g G.T.b G.T.builtins G.T.nolimit hg hobj hints (iE hlen hn2) hr hF hb (fun H hO hS=>hsp w H a ns hlen hO hS) fun H e s'=>hCX w H s₁ e s'
end L2
/- THE LAST THEOREM (shape;LID,My.* are yours):
   My.Adr: a structure of the addresses that your layer names (classes,functions);My.Txt K t: a structure (Prop) of the equations over K;
   My.txt_mk:{K} {implicit addresses ..} (e1:nsIn K mainGlobals "law"=some (some (.ref f))) (e2:K.lookup f=some ⟨oc,od,.func (fnOf "law" "law" params body scope dV kV doc pm an cdv ct),sl⟩) (e3:codeIn K cdv "law"=true) ..:∃t,My.Txt K t
set_option maxRecDepth 100000 in
set_option maxHeartbeats 0 in
theorem PySem.Challenge.cw_LID_holds : PySem.Challenge.rw_LID.Holds := by
 w_on;o_law;k_head;(case hw=>w_witness2)
 k_fill
 refine L2.xX (l:=PySem.Challenge.rw_LID) (n:=63) (k:=40) (x:="script") (CX:=fun w=>..) (sp:=fun _=>My.sp_law) rfl Zd rfl ⟨rfl,Zd,Zd⟩ (fun w h Y=>W.kIn_of Y) ?F ?S ?C
 case F=>
  intro w mg fa h KX G hmg;have T:∃t,My.Txt (L2.KOf KX) t:=by
   dsimp only [L2.KOf]                          -- K must stand as «<heap const> w.params» for k_is
   refine' My.txt_mk ?e1 ?e2 ?e3 ..
   (case e1=>W.k_is)                    -- in the order: a name->its address->its object->its parts
   (case e2=>W.k_is)
   ..
  obtain⟨t,T⟩:=T
  have e0:=hmg.symm.trans (W.mg_of KX G T.law)
  cases e0                                       -- fa is the law's own address
  exact⟨_,fun s u=>.of_eq rfl,fun base kb nb=>My.law_fn T kb nb⟩     -- if «.of_eq rfl» comes too early: refine' ⟨_,?b,fun base kb nb=>My.law_fn T kb nb⟩;exact fun s u=>.of_eq rfl
 case S=>exact fun w H a ns hl hO hS=>..
 case C=>exact ..
(the tactic k_is has no namespace: write k_is) -/
namespace L2
open PySem PySem.Spec PyProof.Rows
def aO (s:Stmt) (j:Nat):Stmt:=match s with
 | .ClassDef _ _ _ body _ _ _ _ _ _ _=>body.getD j (.Pass ⟨0,0,0,0⟩)
 | _=>.Pass ⟨0,0,0,0⟩
def bC (s:Stmt):Arguments:=match s with
 | .FunctionDef _ a _ _ _ _ _ _ _ _=>a
 | _=>{posonlyargs:=[],args:=[],vararg:=none,kwonlyargs:=[],kw_defaults:=[],kwarg:=none,defaults:=[] }
def aP (s:Stmt):List Stmt:=match s with
 | .FunctionDef _ _ b _ _ _ _ _ _ _=>b
 | _=>[]
def aA (s:Stmt):Scope:=match s with
 | .FunctionDef _ _ _ _ _ _ sc _ _ _=>sc
 | _=>{kind:=.function,names:=[],isGenerator:=false,isCoroutine:=false }
abbrev pU:Cy:=fun _ _ _ _ _ _=>False
abbrev E0:XK:=fun _ _ _=>False
theorem pV {X:Cx}:kY pU X E0:=fun _ _ _ _ _ _ _ h=>h.elim
structure Fun (K:W.Frag) (x qual:Str) (st:Stmt) (f:Addr) (fd:FuncData):Prop where
 ex:∃(oc:Value) (od:Option Addr) (kV doc pm:Value) (an:Option Addr) (cdv ct:Value) (osl:Array (Option Value)),
  fd=W.fnOf x qual (bC st) (aP st) (aA st) .none kV doc pm an cdv ct/\K.lookup f=some ⟨oc,od,.func fd,osl⟩/\W.codeIn K cdv qual=true
 kp:W.keepIn K (.ref f)=true
section
variable {P:Program} {w:World} {K:W.Frag} {mg:Str->Option Value} {base:Heap}
theorem Fun.ok {x qual:Str} {st:Stmt} {f:Addr} {fd:FuncData} {N ps:List Str} {k:Nat} {sp:Sp} (F:Fun K x qual st f fd) (S:aG N ps (aA st)) (len:∀vs H Q E,sp vs H Q E->vs.length=ps.length)
  (hbody:∀(cdv:Value) (A:Around) (outer:List Env) (s:Shared) (H:Hp) (vs:List V) (Q:VK) (E:XK),Room k (A.deeper (envOfC qual (aA st) s.heap.objs.size f cdv))->sp vs H Q E →
   ∃t,PSs (eT pU P w K mg base N qual (aA st) f cdv A outer s H E).nox (aP st) t/\t {nx:=fun _ H'=>Q .non H',rt:=Q } (start N vs) H):gM P w K mg base pU (k+1) f fd ps sp:=by
 obtain⟨oc,od,kV,doc,pm,an,cdv,ct,osl,rfl,lk,hcd⟩:=F.ex
 refine Db lk hcd S len fun A outer s H vs Q E hr hsp=>?_
 obtain⟨t,h,q⟩:=hbody cdv A outer s H vs Q E hr hsp
 exact⟨t,h.nox,q⟩
theorem Fun.binds {x qual:Str} {st:Stmt} {f:Addr} {fd:FuncData} {ps:List Str} (F:Fun K x qual st f fd)
  (h:∀(kV doc pm:Value) (an:Option Addr) (cdv ct:Value) (us:List Value),us.length=ps.length->bindArgs (W.fnOf x qual (bC st) (aP st) (aA st) .none kV doc pm an cdv ct) ⟨us,[]⟩=pure (ps.zip us)):Binds K fd ps []:=by
 obtain⟨oc,od,kV,doc,pm,an,cdv,ct,osl,rfl,lk,hcd⟩:=F.ex
 exact .all (h kV doc pm an cdv ct)
theorem nQ {x qual:Str} {st:Stmt} {f:Addr} {oc:Value} {od an:Option Addr} {osl:Array (Option Value)} {kV doc pm cdv ct:Value} (l:K.lookup f=some ⟨oc,od,.func (W.fnOf x qual (bC st) (aP st) (aA st) .none kV doc pm an cdv ct),osl⟩)
  (c:W.codeIn K cdv qual=true) (k:W.keepIn K (.ref f)=true):Fun K x qual st f (W.fnOf x qual (bC st) (aP st) (aA st) .none kV doc pm an cdv ct):=⟨⟨oc,od,kV,doc,pm,an,cdv,ct,osl,rfl,l,c⟩,k⟩
end
theorem dP {A:Around} {k:Nat} (hr:Room k A):A.units+1<cLine:=zP (Nat.add_le_add_left (by decide:1<=64) _) hr.units
def Same (H H':Hp):Prop:=∀b o,H b=some o->H' b=some o
theorem Same.refl (H:Hp):Same H H:=fun _ _ h=>h
theorem Same.trans {H H1 H2:Hp} (a:Same H H1) (b:Same H1 H2):Same H H2:=fun c o h=>b c o (a c o h)
theorem Same.free {H H':Hp} (e:Same H H') {l:Addr} (h:H' l=Option.none):H l=Option.none:=by
 cases q:H l with
 | none=>rfl
 | some o=>
  rw[e l o q]at h;cases h
theorem Same.seq {K:W.Frag} {H H':Hp} {a:Addr} {xs:List V} (e:Same H H') (h:SqL K H a xs):SqL K H' a xs:=by
 rcases h with(h | ⟨o,h⟩) | h
 ·exact .inl (.inl (e _ _ h))
 ·exact .inl (.inr ⟨o,e _ _ h⟩)
 ·exact .inr h
section
variable {κ:Type} [DecidableEq κ]
theorem iJ {kvs:List (κ × V)} {k:κ} (h:aY kvs k=none):¬ k∈kvs.map (·.1):=by
 intro m;obtain⟨p,hp,e⟩:=Zmm.mp m
 have q:(kvs.any fun kv=>decide (kv.1=k))=true:=List.any_eq_true.mpr ⟨p,hp,decide_eq_true e⟩
 rw[bW,h]at q;exact absurd q Zs
theorem xY {kvs:List (κ × V)} {k:κ} {v:V} (h:aY kvs k=some v):k∈kvs.map (·.1):=by
 have q:(kvs.any fun kv=>decide (kv.1=k))=true:=by
  rw[bW,h];all_goals rfl
 obtain⟨p,hp,e⟩:=List.any_eq_true.mp q
 exact Zmm.mpr ⟨p,hp,of_decide_eq_true e⟩
theorem rH:∀ {l:List κ} {k:κ},l.Nodup->¬ k∈l->(l++[k]).Nodup
 | [],k,_,_=>by simp
 | a::r,k,h,hk=>by
  obtain⟨h1,h2⟩:=List.nodup_cons.mp h
  show(a::(r++[k])).Nodup
  refine List.nodup_cons.mpr ⟨fun m=>?_,rH h2 fun m=>hk (List.mem_cons.mpr (Or.inr m))⟩
  rcases Zma.mp m with q | q
  ·exact h1 q
  ·exact hk (List.mem_cons.mpr (Or.inl (Zms.mp q).symm))
theorem Jl {kvs:List (κ × V)} {k:κ} (v:V) (hn:(kvs.map (·.1)).Nodup) (h:aY kvs k=none):((bA kvs k v).map (·.1)).Nodup:=by
 rw[fZ v h,jV];exact rH hn (iJ h)
theorem Ao {p:κ × V} {r:List (κ × V)} {k:κ} (e:p.1=k):bQ (p::r) k=bQ r k:=by
 unfold bQ;rw[List.filter_cons,if_neg (by simp [e])]
theorem pW {p:κ × V} {r:List (κ × V)} {k:κ} (e:¬ p.1=k):bQ (p::r) k=p::bQ r k:=by
 unfold bQ;rw[List.filter_cons,if_pos (by simp [e])]
theorem nV:∀ {kvs:List (κ × V)} {k:κ},¬ k∈kvs.map (·.1)->bQ kvs k=kvs
 | [],_,_=>rfl
 | p::r,k,h=>by
  have h':¬ k∈r.map (·.1):=fun m=>by
   obtain⟨q,hq,e⟩:=Zmm.mp m
   exact h (Zmm.mpr ⟨q,List.mem_cons.mpr (Or.inr hq),e⟩)
  rw[pW fun e=>h (Zmm.mpr ⟨p,List.mem_cons.mpr (Or.inl rfl),e⟩),nV h']
theorem pX {kvs:List (κ × V)} {k:κ} {p:κ × V} (h:p∈bQ kvs k):p∈kvs:=(List.mem_filter.mp h).1
theorem nX:∀ {kvs:List (κ × V)} {k:κ},(kvs.map (·.1)).Nodup->((bQ kvs k).map (·.1)).Nodup
 | [],_,_=>List.nodup_nil
 | p::r,k,h=>by
  have h:(p.1::r.map (·.1)).Nodup:=h
  obtain⟨h1,h2⟩:=List.nodup_cons.mp h
  by_cases e:p.1=k
  ·rw[Ao e];exact nX h2
  ·rw[pW e];show(p.1::(bQ r k).map (·.1)).Nodup
   refine List.nodup_cons.mpr ⟨fun m=>h1 ?_,nX h2⟩
   obtain⟨q,hq,eq⟩:=Zmm.mp m
   exact Zmm.mpr ⟨q,pX hq,eq⟩
end
end L2
namespace L2
open PySem PySem.Spec PyProof.Rows
def iK (env:Env):List (Str × NameKind)->List (Str × Addr)->List (Str × Addr)
 | [],cs=>cs
 | (n,k)::r,cs=>iK env r (if k=.free then (match env.cells.lookup n with | some c=>(n,c)::cs | none=>cs) else cs)
theorem jP {env:Env}:∀(names:List (Str × NameKind)) (cs:List (Str × Addr)),(∀x∈names,x.2=.free->∃c,env.cells.lookup x.1=some c) →
  (forIn names cs fun(x:Str × NameKind) (r:List (Str × Addr))=>(do
   if x.2 == .free then do
    let c ← cellOf env x.1
    pure (ForInStep.yield ((x.1,c)::r))
   else pure (ForInStep.yield r):Sem _))=pure (iK env names cs)
 | [],cs,_=>rfl
 | (n,k)::r,cs,h=>by
  rw[List.forIn_cons];by_cases hk:k=.free
  ·subst hk;obtain⟨c,hc⟩:=h (n,.free) nC rfl
   have hc':env.cells.lookup n=some c:=hc
   have e1:cellOf env n=pure c:=by unfold cellOf;rw[hc']
   simp only [beq_self_eq_true,if_true,e1,pure_bind]
   rw[jP r ((n,c)::cs) fun x hx=>h x (oX _ hx)]
   simp [iK,hc']
  ·have hb:(k == NameKind.free)=false:=by simpa using hk
   simp only [hb,Bool.false_eq_true,if_false,pure_bind]
   rw[jP r cs fun x hx=>h x (oX _ hx)]
   simp [iK,hk]
theorem nY {scope:Scope} {env:Env} (h:∀x∈scope.names,x.2=.free->∃c,env.cells.lookup x.1=some c):closureFor scope env=pure (iK env scope.names []):=by
 have e:=jP scope.names [] h
 unfold closureFor;exact(congrArg (fun z=>z >>= fun(r:List (Str × Addr))=>(pure r:Sem _)) e).trans (pure_bind _ _)
theorem tM {env:Env}:∀(names:List (Str × NameKind)) (cs:List (Str × Addr)),(∀y d,(y,d)∈cs->env.cells.lookup y=some d)->∀y d,(y,d)∈iK env names cs->env.cells.lookup y=some d
 | [],_,h=>h
 | (n,k)::r,cs,h=>by
  unfold iK;refine tM r _ fun y d hm=>?_
  split at hm
  ·split at hm
   ·rename_i c hc
    rcases List.mem_cons.mp hm with e | e
    ·cases e;exact hc
    ·exact h y d e
   ·exact h y d hm
  ·exact h y d hm
theorem xZ {env:Env}:∀(names:List (Str × NameKind)) (cs:List (Str × Addr)) (y:Str) (d:Addr),(y,d)∈iK env names cs->(y,.free)∈names∨(y,d)∈cs
 | [],_,_,_,h=>.inr h
 | (n,k)::r,cs,y,d,h=>by
  unfold iK at h;rcases xZ r _ y d h with e | hm
  ·exact .inl (oX _ e)
  ·split at hm
   ·rename_i hk
    split at hm
    ·rcases List.mem_cons.mp hm with e | e
     ·cases e;subst hk;exact .inl nC
     ·exact .inr e
    ·exact .inr hm
   ·exact .inr hm
theorem Ea {env:Env}:∀(names:List (Str × NameKind)) (cs:List (Str × Addr)) (y:Str),((∃d,(y,d)∈cs)∨(y,.free)∈names)->(∀x∈names,x.2=.free->∃c,env.cells.lookup x.1=some c)->∃d,(y,d)∈iK env names cs
 | [],_,_,h,_=>by
  rcases h with h | h
  ·exact h
  ·cases h
 | (n,k)::r,cs,y,h,hf=>by
  unfold iK;refine Ea r _ y ?_ fun x hx=>hf x (oX _ hx)
  rcases h with⟨d,hd⟩ | h
  ·refine .inl ⟨d,?_⟩
   split
   ·split
    ·exact oX _ hd
    ·exact hd
   ·exact hd
  ·rcases List.mem_cons.mp h with e | e
   ·have e1:y=n:=congrArg Prod.fst e
    have e2:NameKind.free=k:=congrArg Prod.snd e
    subst e1 e2;obtain⟨c,hc⟩:=hf (y,.free) nC rfl
    have hc':env.cells.lookup y=some c:=hc
    refine .inl ⟨c,?_⟩
    rw[if_pos rfl,hc'];exact nC
   ·exact .inr e
theorem nZ {α:Type}:∀ {l:List (Str × α)} {y:Str} {d:α},(y,d)∈l->∃d',l.lookup y=some d'/\(y,d')∈l
 | (n,c)::r,y,d,h=>by
  by_cases e:y=n
  ·subst e;exact⟨c,by simp [List.lookup_cons],nC⟩
  ·rcases List.mem_cons.mp h with q | q
   ·cases q;exact absurd rfl e
   ·obtain⟨d',h1,h2⟩:=nZ q
    have hb:(y == n)=false:=by simpa using e
    exact⟨d',by rw[List.lookup_cons,hb];exact h1,oX _ h2⟩
theorem cV {env:Env} {names:List (Str × NameKind)} {y:Str} {c:Addr} (h:(iK env names []).lookup y=some c):env.cells.lookup y=some c/\(y,.free)∈names:=by
 have hm:=PySem.mem_of_lookup h
 refine⟨tM names [] (fun _ _ z=>nomatch z) y c hm,?_⟩
 rcases xZ names [] y c hm with e | e
 ·exact e
 ·cases e
theorem yA {env:Env} {names:List (Str × NameKind)} {y:Str} (h:(y,.free)∈names) (hf:∀x∈names,x.2=.free->∃c,env.cells.lookup x.1=some c):∃c,(iK env names []).lookup y=some c/\env.cells.lookup y=some c:=by
 obtain⟨d,hd⟩:=Ea names [] y (.inr h) hf
 obtain⟨c,hc,_⟩:=nZ hd
 exact⟨c,hc,(cV hc).1⟩
theorem rJ {scope:Scope} {env:Env} (hcell:∀y∈scope.names,y.2≠.cell) {x:Str} (h:(relabel scope env).names.lookup x=some .cell∨(relabel scope env).names.lookup x=some .free):(x,.free)∈scope.names:=by
 have go:∀ {k:NameKind},k=.cell∨k=.free->(relabel scope env).names.lookup x=some k->(x,.free)∈scope.names:=fun {k} hk h=>by
  have hm:=PySem.mem_of_lookup h
  unfold relabel at hm;obtain⟨⟨n,j⟩,hp,e⟩:=Zmm.mp hm
  dsimp only at e
  split at e
  ·rename_i hc
   cases e
   have:j=.free:=by
    have:=(Bool.and_eq_true_iff.mp (Bool.and_eq_true_iff.mp hc).1).1
    simpa using this
   subst this;exact hp
  ·cases e
   rcases hk with q | q
   ·exact absurd q (hcell _ hp)
   ·subst q;exact hp
 rcases h with h | h
 ·exact go (.inl rfl) h
 ·exact go (.inr rfl) h
theorem kH {env:Env}:∀ {names:List (Str × NameKind)} {x:Str},names.lookup x=some .free →
  (names.map fun(n,k)=>if (k == NameKind.free&&env.scope.kind == .function&&env.kindOf n == some .cell) then (n,NameKind.cell) else (n,k)).lookup x=some .cell∨
  (names.map fun(n,k)=>if (k == NameKind.free&&env.scope.kind == .function&&env.kindOf n == some .cell) then (n,NameKind.cell) else (n,k)).lookup x=some .free
 | [],_,h=>by simp at h
 | (n,k)::r,x,h=>by
  have ih:=@kH env r x
  rw[List.map_cons];dsimp only;cases hx:x == n with
  | true=>
   simp only [List.lookup_cons,hx]at h
   cases h
   split
   ·left;simp [List.lookup_cons,hx]
   ·right;simp [List.lookup_cons,hx]
  | false=>
   simp only [List.lookup_cons,hx]at h
   split
   ·simp only [List.lookup_cons,hx];exact ih h
   ·simp only [List.lookup_cons,hx];exact ih h
def kT (X:Cx) (scope:Scope) (C:Addr) (N:List Str) (s₂:Shared) (H₂:Hp) (fp:List Addr):Cx where
 prog:=X.prog
 w:=X.w
 K:=X.K
 mg:=X.mg
 base:=X.base
 A:=X.A
 N:=N
 s₀:=s₂
 H₀:=H₂
 env:=compEnvC scope (iK X.env scope.names []) C X.env
 outer:=X.stack
 stack:=X.stack
 ex:=fp
 fn:=fun _=>false
 calm:=X.calm
 pn:=[]
 xe:=fun _ _=>False
def vH (js:List (Option Nat)) (σ:St):St:=js.map fun o=>match o with | some j=>(σ[j]?).getD none | none=>none
structure CompScope (X:Cx) (scope:Scope) (N:List Str) (js:List (Option Nat)):Prop where
 kind:scope.kind=.function
 nocell:∀y∈scope.names,y.2≠.cell
 loc:∀y∈scope.names,y.2=.local->scope.names.lookup y.1=some .local
 len:js.length=N.length
 cap:∀(i j:Nat),js[i]?=some (some j)->∃x,N[i]?=some x/\X.N[j]?=some x/\scope.names.lookup x=some .free
 out:∀y∈scope.names,y.2=.free->X.env.kindOf y.1=some .cell∨X.env.kindOf y.1=some .free
def wA (js:List (Option Nat)) (g:TG):Prop:=∀x σ H Q,g x σ H Q->g x σ H fun σ2 H2=>Q σ2 H2/\σ2.length=σ.length/\∀(i j:Nat),js[i]?=some (some j)->σ2[i]?=σ[i]?
def yB (js:List (Option Nat)) (g:xL):Prop:=∀xs σ H Q,g xs σ H Q->g xs σ H fun σ2 H2=>Q σ2 H2/\σ2.length=σ.length/\∀(i j:Nat),js[i]?=some (some j)->σ2[i]?=σ[i]?
theorem aS {js:List (Option Nat)} {k:Nat} (h:js[k]?=some none):wA js (aK k):=fun x σ H Q q=>by
 refine⟨q,Zs,fun i j e=>?_⟩
 have:k≠i:=fun z=>by subst z;rw[h]at e;cases e
 rw[List.getElem?_set_ne this]
theorem Ap {js:List (Option Nat)}:yB js Nz:=fun xs σ H Q q=>⟨q.1,q.2,rfl,fun _ _ _=>rfl⟩
theorem oA {js:List (Option Nat)} {k:Nat} {u:xL} (h:js[k]?=some none) (hu:yB js u):yB js (Cm (aK k) u):=fun xs σ H Q q=>by
 obtain⟨v,r,e,q⟩:=q
 refine⟨v,r,e,?_⟩
 obtain⟨_,h2⟩:=aS h v σ H (fun _ _=>True) trivial
 have q2:=hu r _ _ _ q
 have e2:(fun σ2 H2=>Q σ2 H2/\σ2.length=(σ.set k (some v)).length/\∀(i j:Nat),js[i]?=some (some j)->σ2[i]?=(σ.set k (some v))[i]?)=(fun σ2 (H2:Hp)=>Q σ2 H2/\σ2.length=σ.length/\∀(i j:Nat),js[i]?=some (some j)->σ2[i]?=σ[i]?):=by
  funext σ2 H2
  have e3:∀(i j:Nat),js[i]?=some (some j)->(σ.set k (some v))[i]?=σ[i]?:=h2.2
  apply propext
  constructor
  ·rintro⟨a,b,c⟩
   exact⟨a,by simpa using b,fun i j e=>(c i j e).trans (e3 i j e)⟩
  ·rintro⟨a,b,c⟩
   exact⟨a,by simpa using b,fun i j e=>(c i j e).trans (e3 i j e).symm⟩
 show u r (σ.set k (some v)) H _
 rw[<- e2];exact q2
theorem Eb {K:W.Frag} {n:Nat} {js:List (Option Nat)} {t:xL} (h:yB js t):wA js (Io K n t):=fun x σ H Q q=>by
 obtain⟨a,xs,e,hq,hl,q⟩:=q
 exact⟨a,xs,e,hq,hl,h xs σ H Q q⟩
section
variable {X:Cx} {pins:List (Addr × Obj)} {σ:St} {H H':Hp} {s:Shared}
theorem Un.more {fs ex:List Addr} {H H':Hp} {h h':Heap} {D:Addr} {o:HO} (u:Un fs ex H H' h h') (hD:h.get? D=none) (hH:H D=none):Un fs ex H (aI H' D o) h h' where
 keep:=u.keep
 slot:=u.slot
 free:=fun b ob q n hx=>by
  have:b≠D:=fun z=>by rw[z,hD]at q;cases q
  rw[aD this];exact u.free b ob q n hx
 there:=u.there
 tups:=fun b xs q=>by rw[aD (aE q hH)];exact u.tups b xs q
 frzs:=fun b ob xs q=>by rw[aD (aE q hH)];exact u.frzs b ob xs q
 tbls:=fun b ps q=>by rw[aD (aE q hH)];exact u.tbls b ps q
theorem HOk.more {P:Program} {w:World} {h:Heap} {D:Addr} {o:HO} (k:HOk P w H h) (hH:H D=none) (new:ObjOk P w (aI H D o) h D o):HOk P w (aI H D o) h:=fun b u e=>by
 by_cases hb:b=D
 ·subst hb;rw[aB]at e;cases e;exact new
 ·rw[aD hb]at e;exact(k b u e).stay (fun _ _ _ q=>q) (fun c q=>by rw[aD (aE q hH)];exact q) fun c xs q=>by rw[aD (aE q hH)];exact q
theorem CompScope.ok {scope:Scope} {N:List Str} {js:List (Option Nat)} {C:Addr} {fp:List Addr} (S:CompScope X scope N js) (I:Inv X pins σ H s) (hC:s.heap.objs.size<=C) (hf:∀b∈fp,kU X pins H b) (hl:∀b∈fp,b<s.heap.objs.size) :
  (kT X scope C N s H fp).Ok where
 mod:=I.ok.mod
 kind:=S.kind
 glob:=I.ok.glob
 blt:=I.ok.blt
 above:=hC
 inj:=fun x y c h1 h2=>I.ok.inj x y c (cV h1).1 (cV h2).1
 has:=fun x hx=>by
  have hm:(x,.free)∈scope.names:=rJ S.nocell hx
  obtain⟨c,h1,_⟩:=yA (env:=X.env) hm fun y hy hk=>I.ok.has y.1 (S.out y hy hk)
  exact⟨c,h1⟩
 cab:=fun x c z=>nomatch z
 hd:=I.ok.hd
 frames:=I.ok.frames
 stk:=.inl rfl
 exf:=fun b hb=>⟨Nat.ne_of_lt (Nat.lt_of_lt_of_le (hl b hb) hC),fun x c e=>(hf b hb).2.2.2.2.1 x c (cV e).1⟩
 bs:=I.bs
 bsz:=iE I.ok.bsz I.sz
 noex:=fun b o e hb=>by
  rcases(hf b hb).2.2.2.1 with z | z
  ·exact I.ok.noex b o e z
  ·exact absurd (Nat.lt_of_lt_of_le (Heap.lt_size e) (iE I.ok.bsz z)) (Nat.lt_irrefl _)
 exfs:=fun b hb hm=>by
  rcases List.mem_cons.mp (I.stkSub b hm) with z | z
  ·exact(hf b hb).2.1 z
  ·exact(hf b hb).2.2.1 z
 funs:=I.stack
 frf:=I.stkFree
theorem CompScope.start {scope:Scope} {N:List Str} {js:List (Option Nat)} {C D:Addr} {fp:List Addr} {ob:Obj} {h₁:Heap} {m:Str->Option Value} {tk:Nat} (S:CompScope X scope N js) (I:Inv X pins σ H s) (hC:s.heap.objs.size<=C) (hD:s.heap.objs.size<=D) (hDC:D≠C)
  (hf:∀b∈fp,kU X pins H b) (hl:∀b∈fp,b<s.heap.objs.size) (k:∀b o,s.heap.get? b=some o->h₁.get? b=some o) (hns:h₁.Ns C m) (eD:h₁.get? D=some ob) (nc:∀v,ob.data≠.cell v) :
  Inv (kT X scope C N s H fp) [(D,ob)] (vH js σ) H {s with heap:=h₁,toks:=tk } where
 ok:=S.ok I hC hf hl
 os:=rfl
 bare:=I.bare
 base:=Un.kept k
 loc:=by
  refine⟨m,hns,fun i x v h1 h2 h3=>?_⟩
  have h1:N[i]?=some x:=h1
  unfold vH at h2;rw[iU]at h2;cases e:js[i]? with
  | none=>rw[e]at h2;cases h2
  | some o=>
   rw[e]at h2;cases o with
   | none=>cases h2
   | some j=>
    have h2':(σ[j]?).getD none=some v:=Option.some.inj h2
    have hσ:σ[j]?=some (some v):=by
     cases q:σ[j]? with
     | none=>rw[q]at h2';cases h2'
     | some z=>rw[q]at h2';exact congrArg some h2'
    obtain⟨y,e1,e2,e3⟩:=S.cap i j e
    rw[h1]at e1;cases e1
    have hfree:(x,.free)∈scope.names:=PySem.mem_of_lookup e3
    have ho:=S.out (x,.free) hfree rfl
    obtain⟨mX,_,hlX⟩:=I.loc
    have hvX:Rz X.env.scope x:=by
     rcases ho with z | z
     ·exact .inr (.inl z)
     ·exact .inr (.inr z)
    obtain⟨u,r,l⟩:=hlX j x v e2 hσ hvX
    refine⟨u,r,.inr ?_⟩
    rcases l with⟨hk,_⟩ | ⟨hk,c,hc,hcell⟩
    ·rcases ho with z | z
     ·have z':X.env.kindOf x=some .cell:=z
      rw[hk]at z';cases z'
     ·have z':X.env.kindOf x=some .free:=z
      rw[hk]at z';cases z'
    ·obtain⟨c',h1',h2''⟩:=yA (env:=X.env) hfree fun y hy hk=>I.ok.has y.1 (S.out y hy hk)
     rw[hc]at h2'';cases h2''
     refine⟨kH e3,c,h1',?_⟩
     obtain⟨oc,q1,q2⟩:=hcell
     exact⟨oc,k c oc q1,q2⟩
 cell:=fun x c e=>by
  obtain⟨v,oc,q1,q2⟩:=I.cell x c (cV e).1
  exact⟨v,oc,k c oc q1,q2⟩
 free:=I.hok.fresh hC
 freeC:=fun x c e=>I.freeC x c (cV e).1
 pin:=fun p hp=>by
  have e:p=(D,ob):=by
   rcases Zma.mp hp with z | z
   ·exact absurd (show p∈([]:List (Addr × Obj)) from z) Zs
   ·simpa using z
  subst e;refine⟨eD,I.hok.fresh hD,hDC,fun hm=>?_,nc⟩
  rcases List.mem_cons.mp (I.stkSub D hm) with z | z
  ·have z:D=X.env.locals:=z
   have:=I.lt
   rw[<- z]at this;exact absurd (Nat.lt_of_lt_of_le this hD) (Nat.lt_irrefl _)
  ·exact I.nofs hD z
 hok:=I.hok.kept k
 len:=by
  unfold vH;rw[dN];exact S.len
end
def Ru (X:Cx) (cs:List Expr) (t:TT):Prop:=
 ∀(pins:List (Addr × Obj)) (s:Shared) (σ:St) (H:Hp) (Q:Bool->Hp->Prop) (E:Value->Shared->Prop),Inv X pins σ H s->t σ H Q →
  wpAny (model X.prog X.w) X.A (forIn cs true fun c r=>if r=true then do let ok ← isTrue c X.env (eval c X.env);pure (ForInStep.yield ok) else pure (ForInStep.yield r)) (TP X pins σ Q) E s
def Me:TT:=fun _ H Q=>Q true H
theorem Jm {X:Cx}:Ru X [] Me:=fun pins s σ H Q E I h=>wpAny_tests_nil ⟨H,I,h⟩
theorem Jn {X:Cx} {c:Expr} {t:TT} (h:PT X c t) (hx:X.xe=fun _ _=>False:=by rfl):Ru X [c] t:=fun pins s σ H Q E I q=>
 wpAny_tests_one (wpAny_mono (h pins s σ H Q I q) (fun _ _ z=>z) fun e s' z=>by rw[hx]at z;exact z.elim)
def oB (js:List (Option Nat)) (g:TG) (tt:TT) (te:TE) (σ:St) (J:It) (H1:Hp) (Q:List V->Hp->Prop):Prop:=
 ∃W:Nat->Nat->List V->Hp->Prop,(∃m,W 0 m [] H1)/\∀i m ys H,W i m ys H →
  (J.stop i H/\Q ys H)∨
  (J.go i H/\ys.length<sizeLine/\∃N:List V->Hp->Prop,(∀ys' H',N ys' H'->∃m',m'<m/\W (i+1) m' ys' H') ∧
   ∀x H',J.yld i H x H'->g x (vH js σ) H' fun σ2 H2=>tt σ2 H2 fun b H3=>if b=true then te σ2 H3 fun y H4=>N (ys++[y]) H4 else N ys H3)
def Mf (wi:TI) (js:List (Option Nat)) (g:TG) (tt:TT) (te:TE):TE:=fun σ H Q=>wi σ H fun J H1=>
 oB js g tt te σ J H1 fun ys H2=>∀p,H2 p=none->Q (.ref p) (aI H2 p (.lst ys))
def Mg (i:Nat) (wi:TI) (js:List (Option Nat)) (g:TG) (tt:TT) (te:TE):TS:=fun D σ H=>wi σ H fun J H1=>
 oB js g tt te σ J H1 fun ys H2=>∀p,H2 p=none->D.nx (σ.set i (some (.ref p))) (aI H2 p (.lst ys))
section
variable {X:Cx} {tg iter elt:Expr} {ifs:List Expr} {scope:Scope} {N:List Str} {js:List (Option Nat)} {wi:TI} {g:TG} {tt:TT} {te:TE} {pos:Pos}
theorem oC {pins:List (Addr × Obj)} {σ:St} {H2:Hp} {s2:Shared} {it:Addr} {fp:List Addr} {tn:Nat->Heap->Prop} {J:It} {Qf:List V->Hp->Prop} {RR:Value->Addr->Result->Shared->Prop} {E:Value->Shared->Prop} (hc:X.calm=true) (S:CompScope X scope N js) (go:wA js g)
  (hb:∀(C:Addr) (s₂:Shared) (H₂:Hp) (fp:List Addr),PG (kT X scope C N s₂ H₂ fp) tg g/\Ru (kT X scope C N s₂ H₂ fp) ifs tt/\PE (kT X scope C N s₂ H₂ fp) elt te)
  (I2:Inv X pins σ H2 s2) (T:qU X.prog X.w X.K tg J fp it tn) (st2:tn 0 s2.heap) (f2:∀b∈fp,kU X pins H2 b) (hw:oB js g tt te σ J H2 Qf)
  (hRR:∀(C D:Addr) (ys:List V) (H3:Hp) (s3:Shared) (m:Str->Option Value),s2.heap.objs.size<=C->s2.heap.objs.size<=D->D≠C->Inv X pins σ (aI H3 D (.lst ys)) s3->H3 C=none->H3 D=none->s3.heap.Ns C m->Qf ys H3->RR (.ref D) C (.ok .next) s3) :
  wpAny (model X.prog X.w) X.A (newList []) (fun acc s₃=>wpAny (model X.prog X.w) X.A (newFunctionEnv scope X.env.globals (iK X.env scope.names []) [] X.env.qual none .none (some X.env)) (fun cenv s₄=>
   codeAny (model X.prog X.w) X.A (.compStart (.ListComp elt [⟨tg,iter,ifs,0⟩] scope pos) 0 (.ref it) acc {cenv with scope:=relabel scope X.env }) (RR acc cenv.locals) s₄) E s₃) E s2:=by
 obtain⟨W,⟨m0,w0⟩,turn⟩:=hw
 refine wpAny_newObj_type (wpAny_newFunctionEnv S.nocell (by intro y hy;simp at hy) (fun h₁ hns₁ hsb₁=>?_) S.kind)
 dsimp only at hns₁ hsb₁ ⊢
 generalize hH2:s2.heap.push {cls:=.type "list",dict:=none,data:=.seq ([]:List Value).toArray }=HP at hns₁ hsb₁ ⊢;have hC:HP.objs.size=s2.heap.objs.size+1:=by rw[<- hH2,Heap.size_push]
 have hDC:s2.heap.objs.size≠HP.objs.size:=by rw[hC];exact Nat.ne_of_lt (Nat.lt_succ_self _)
 have hCle:s2.heap.objs.size<=HP.objs.size:=by rw[hC];exact Nat.le_succ _
 have old:∀b o,s2.heap.get? b=some o->h₁.get? b=some o:=fun b o e=>hsb₁.extBut b o (by rw[hC];exact Nat.ne_of_lt (Nat.lt_succ_of_lt (Heap.lt_size e))) (iH _ (hH2 ▸ iH _ e))
 have hacc:h₁.get? s2.heap.objs.size=some {cls:=.type "list",data:=.seq ([]:List Value).toArray 0 }:=hsb₁.extBut _ _ hDC (iH _ (hH2 ▸ Heap.get?_push_size _ rfl))
 have hfl:∀b∈fp,b<s2.heap.objs.size:=fun b hb=>by
  obtain⟨o,e,_⟩:=T.obj _ _ st2 b hb
  exact Heap.lt_size e
 generalize hDn:s2.heap.objs.size=D at hDC hCle hacc ⊢;generalize hCn:HP.objs.size=C at hDC hCle hns₁ ⊢;have hCs:s2.heap.objs.size<=C:=by rw[hDn];exact hCle
 have hDs:s2.heap.objs.size<=D:=Nat.le_of_eq hDn
 obtain⟨pg,pt,pe⟩:=hb C s2 H2 fp
 have I0:=S.start (D:=D) (fp:=fp) (tk:=s2.toks+([]:List (Str × Value)).length) I2 hCs hDs hDC f2 hfl old hns₁ hacc (fun v z=>nomatch z)
 have fpY:∀ {H':Hp} {pl:List (Addr × Obj)},(∀b∈fp,H' b=none)->(∀p∈pl,p.1∉fp)->∀b∈fp,kU (kT X scope C N s2 H2 fp) pl H' b:=fun hn hp b hb=>
  ⟨hn b hb,Nat.ne_of_lt (Nat.lt_of_lt_of_le (hfl b hb) hCs),(S.ok I2 hCs f2 hfl).exfs b hb,.inl hb,fun x c e=>(f2 b hb).2.2.2.2.1 x c (cV e).1,fun p hm z=>by
   rcases Zma.mp hm with q | q
   ·exact absurd (show p∈([]:List (Addr × Obj)) from q) Zs
   ·exact hp p q (z ▸ hb)⟩
 have dfp:D∉fp:=fun z=>absurd (Nat.lt_of_lt_of_le (hfl D z) hDs) (Nat.lt_irrefl _)
 have one:∀ {ob:Obj},∀p∈[(D,ob)],p.1∉fp:=fun p hp=>by
  have e:=Zms.mp hp
  subst e;exact dfp
 have loop:∀s₃:Shared,s₃={s2 with heap:=h₁,toks:=s2.toks+([]:List (Str × Value)).length } →
   codeAny (model X.prog X.w) X.A (.compLoop (.ListComp elt [⟨tg,iter,ifs,0⟩] scope pos) 0 (.ref it) (.ref D) (compEnvC scope (iK X.env scope.names []) C X.env)) (RR (.ref D) C) s₃:=by
  rintro s₃ rfl
  refine codeAny_loop rfl (fun n s'=>∃(i:Nat) (ys:List V) (H':Hp) (its:List Value) (k:Nat),Inv (kT X scope C N s2 H2 fp) [(D,{cls:=.type "list",data:=.seq its.toArray k })] (vH js σ) H' s'/\Vals ys its/\ys.length<=sizeLine/\tn i s'.heap/\(∀b∈fp,H' b=none)/\W i n ys H') ?_ m0 ?_
  ·rintro n s3 ⟨i,ys,H3,its,k,I3,rv,hz,st3,fr3,w3⟩
   show wpAny _ X.A ((compTurn (.ListComp elt [⟨tg,iter,ifs,0⟩] scope pos) 0 (.ref it) (.ref D) (compEnvC scope (iK X.env scope.names []) C X.env)).onRaise (fun x=>do noteFrame x _;theTreesLotGoes x)) _ _ s3
   refine wpAny_noted (wpAny_noRaise ?_)
   rw[compTurn_list];rcases turn i n ys H3 w3 with⟨stop,qn⟩ | ⟨goes,hlt,Nx,hN,step⟩
   ·refine wpAny_bind (wpAny_standAt (wpAny_bind (bG (T.done (kT X scope C N s2 H2 fp) rfl rfl rfl hc i _ s3 (vH js σ) H3 (fun _ _=>False) I3 (fpY fr3 one) st3 stop) fun r s4 ⟨hr,I4⟩=>?_)))
    subst hr;refine wpAny_pure ?_
    have pD:=I4.pin (D,{cls:=.type "list",data:=.seq its.toArray k }) (by simp [kT])
    obtain⟨mC,hnC,_⟩:=id I4.loc
    have IX:Inv X pins σ (aI H3 D (.lst ys)) s4:=by
     refine I2.call' (ch:=fp) I4.os (Un.more I4.base (Heap.get?_none_of_le hDs) (I2.hok.fresh hDs)) (HOk.more I4.hok pD.2.1 ⟨hz,its,k,rv,pD.1⟩) I4.bare fun b hb=>?_
     obtain⟨_,f1,_,f3,f4,f5⟩:=f2 b hb
     exact⟨f3,f1,f4,f5⟩
    exact hRR C D ys H3 s4 mC hCs hDs hDC IX I4.free pD.2.1 hnC qn
   ·refine wpAny_bind (wpAny_standAt (wpAny_bind (bG (T.item (kT X scope C N s2 H2 fp) rfl rfl rfl hc i _ s3 (vH js σ) H3 (fun _ _=>False) I3 (fpY fr3 one) st3 goes) fun r s4 ⟨u,hr,h4⟩=>?_)))
    subst hr;refine wpAny_bind (bG h4 fun _ s5 ⟨x,H5,I5,r5,y5,st5,fr5⟩=>?_)
    have I5':=I5.pinned (fpY fr5 one) (T.obj _ _ st5)
    refine wpAny_bind (bG (pg _ s5 (vH js σ) H5 x u _ I5' r5 (go _ _ _ _ (step x H5 y5))) fun _ s6 ⟨σ6,H6,I6,⟨q6,l6,e6⟩⟩=>?_)
    have weak:∀ {pl:List (Addr × Obj)} {H7:Hp} {s7:Shared},Inv (kT X scope C N s2 H2 fp) pl σ6 H7 s7->Inv (kT X scope C N s2 H2 fp) pl (vH js σ) H7 s7:=fun {pl H7 s7} I7=>by
     refine I7.weak l6.symm fun j v hj=>?_
     cases e:js[j]? with
     | none=>unfold vH at hj;rw[iU,e]at hj;cases hj
     | some o=>
      cases o with
      | none=>unfold vH at hj;rw[iU,e]at hj;cases hj
      | some j'=>rw[e6 j j' e];exact hj
    have keepN:∀ {H7:Hp} {s7:Shared} {pl:List (Addr × Obj)},Inv (kT X scope C N s2 H2 fp) (pl++nF fp s5.heap) (vH js σ) H7 s7->tn (i+1) s7.heap/\∀b∈fp,H7 b=none:=fun {H7 s7 pl} I7=>by
     refine⟨T.keep _ _ _ st5 fun b hb o e=>(I7.pin (b,o) (List.mem_append_right _ (List.mem_append_right _ (gK hb e)))).1,fun b hb=>?_⟩
     obtain⟨o,e,d⟩:=T.obj _ _ st5 b hb
     exact(I7.pin (b,o) (List.mem_append_right _ (List.mem_append_right _ (gK hb e)))).2.1
    refine wpAny_bind (bG (pt _ s6 σ6 H6 _ _ I6 q6) fun ok s7 ⟨H7,I7,q7⟩=>?_)
    cases ok with
    | false=>
     rw[if_neg Bool.false_ne_true]at q7;refine wpAny_pure ⟨rfl,?_⟩
     obtain⟨m',hm,w7⟩:=hN ys H7 q7
     have I7':=weak I7
     obtain⟨k1,k2⟩:=keepN I7'
     exact⟨m',hm,i+1,ys,H7,its,k,I7'.unpinned,rv,hz,k1,k2,w7⟩
    | true=>
     rw[if_pos rfl]at q7;show wpAny _ _ ((eval elt _ >>= fun x=>call (.builtin "list.append") [.ref D,x] >>= fun _=>pure ()) >>= fun _=>again _) _ _ _
     refine wpAny_bind (wpAny_bind (bG (pe _ s7 σ6 H7 _ I7 q7) fun y s8 ⟨yv,H8,I8,r8,q8⟩=>?_))
     obtain⟨m',hm,w8⟩:=hN (ys++[yv]) H8 q8
     have I8':=weak I8
     obtain⟨k1,k2⟩:=keepN I8'
     have pD:=I8'.pin (D,{cls:=.type "list",data:=.seq its.toArray k }) (by simp [kT])
     have hln:=rv.length
     refine wpAny_bind (call_meets F.slot_list_append ⟨_,pD.1,rfl⟩ F.entry_list_append (F.args_list_append_2 _ _) (PySem.list_append D its.toArray k y (by rw[eC];omega)) ⟨pD.1,?_⟩)
     refine wpAny_pure (wpAny_pure ⟨rfl,m',hm,i+1,ys++[yv],H8,its++[y],?_⟩)
     have q:=PySem.IsL.update pD.1 (fun z=>z.push y)
     have eA:its.toArray.push y=(its++[y]).toArray:=by simp
     rw[eA]at q;have I9:Inv (kT X scope C N s2 H2 fp) [] (vH js σ) H8 s8:=I8'.pins_of fun p hp=>absurd hp Zs
     have hob:∀b o,b≠D->s8.heap.get? b=some o->(s8.heap.update D (Obj.mapSeq fun z=>z.push y)).get? b=some o:=fun b o hb hu=>(Heap.get?_update_other s8.heap _ (Ne.symm hb)).trans hu
     have I10:Inv (kT X scope C N s2 H2 fp) [] (vH js σ) H8 {s8 with heap:=s8.heap.update D (Obj.mapSeq fun z=>z.push y),toks:=s8.toks }:=I9.turned hob pD.2.1 pD.2.2.1 (.inr hDs)
      (fun x c e z=>by
       obtain⟨v,oc,q1,q2⟩:=I2.cell x c (cV e).1
       rw[z]at q1;exact absurd (Nat.lt_of_lt_of_le (Heap.lt_size q1) hDs) (Nat.lt_irrefl _))
      (fun p hp=>by
       rcases Zma.mp hp with q | q
       ·exact absurd (show p∈([]:List (Addr × Obj)) from q) Zs
       ·exact absurd q Zs)
     refine⟨(if ((its++[y]).toArray).size == its.toArray.size then k else k+1),I10.pins_of fun p hp=>?_,rv.append (.cons r8 .nil),?_,?_,k2,w8⟩
     ·have e:=Zms.mp hp
      subst e;exact⟨q,pD.2.1,pD.2.2.1,pD.2.2.2.1,fun v z=>nomatch z⟩
     ·rw[zO,List.length_singleton];omega
     ·exact T.keep _ _ _ k1 fun b hb o e=>hob b o (fun z=>dfp (z ▸ hb)) e
  ·exact⟨0,[],H2,[],0,I0,.nil,Nat.zero_le _,T.keep _ _ _ st2 fun b _ o e=>old b o e,fun b hb=>(f2 b hb).1,w0⟩
 exact codeAny_compStart_list (loop _ rfl) (T.self _ 0 _ _ _ (T.keep _ _ _ st2 fun b _ o e=>old b o e) (loop _ rfl))
theorem Jo (hc:X.calm=true) (S:CompScope X scope N js) (go:wA js g) (hi:PI X tg iter wi)
  (hb:∀(C:Addr) (s₂:Shared) (H₂:Hp) (fp:List Addr),PG (kT X scope C N s₂ H₂ fp) tg g/\Ru (kT X scope C N s₂ H₂ fp) ifs tt/\PE (kT X scope C N s₂ H₂ fp) elt te)
  (hs:∀x,foldedSetIterable iter X.env x=pure x:=by intro _;rfl):PE X (.ListComp elt [⟨tg,iter,ifs,0⟩] scope pos) (Mf wi js g tt te):=by
 intro pins s σ H Q I h;rw[eval_ListComp];refine wpAny_comprehension_free (use:=none) rfl hs (nY fun y hy hk=>I.ok.has y.1 (S.out y hy hk)) S.kind S.loc (bG (hi pins s σ H _ I h) fun v s1 h1=>bG h1 fun itv s2 h2=>?_)
 obtain⟨it,fp,tn,J,H2,e,I2,T,st2,f2,hw⟩:=h2
 subst e;refine oC (RR:=fun acc C=>compPost (model X.prog X.w) X.A X.xe none (EP X pins σ Q) acc C) hc S go hb I2 T st2 f2 hw ?_
 intro C D ys H3 s3 m hC hD hDC I3 fC fD hn q;refine⟨m,hn,fun h' hs'=>?_⟩
 refine⟨.ref D,aI H3 D (.lst ys),I3.turned (it:=C) (t':=s3.toks) (fun b o hb e=>(hs'.2 b hb).trans e) (by rw[aD (Ne.symm hDC)];exact fC) ?_ (.inr (iE I2.sz hC)) ?_ ?_,rfl,q D fD⟩
 ·exact Nat.ne_of_gt (Nat.lt_of_lt_of_le I2.lt hC)
 ·intro x c e z;obtain⟨v,oc,q1,q2⟩:=I2.cell x c e
  rw[z]at q1;exact absurd (Nat.lt_of_lt_of_le (Heap.lt_size q1) hC) (Nat.lt_irrefl _)
 ·intro p hp z;have:=Heap.lt_size (I2.pin p hp).1
  rw[z]at this;exact absurd (Nat.lt_of_lt_of_le this hC) (Nat.lt_irrefl _)
theorem Jp {i:Nat} {y:Str} {py spos:Pos} (hN:X.N.Nodup) (hy:X.N[i]?=some y) (hx:Lv X.env.scope y) (hc:X.calm=true) (S:CompScope X scope N js) (go:wA js g) (hi:PI X tg iter wi)
  (hb:∀(C:Addr) (s₂:Shared) (H₂:Hp) (fp:List Addr),PG (kT X scope C N s₂ H₂ fp) tg g/\Ru (kT X scope C N s₂ H₂ fp) ifs tt/\PE (kT X scope C N s₂ H₂ fp) elt te)
  (hsw:swapsWith (.ListComp elt [⟨tg,iter,ifs,0⟩] scope pos) (some (.Name y py)) spos.line X.env=pure true)
  (hs:∀x,foldedSetIterable iter X.env x=pure x:=by intro _;rfl) (hf:X.fn y=true∨X.env.scope.names.lookup y=some .local:=by first | exact .inl rfl | exact .inr rfl | assumption) :
  PS X (.Assign [.Name y py] (.ListComp elt [⟨tg,iter,ifs,0⟩] scope pos) spos) (Mg i wi js g tt te):=by
 intro pins s σ H D I h;rw[exec_Assign_Name_used _ _ _ _ hsw];refine wpAny_bind (wpAny_standAt (wpAny_bind ?_))
 show wpAny _ X.A (do let _ ← comprehension (.ListComp elt [⟨tg,iter,ifs,0⟩] scope pos) scope X.env _ (newList []) false (eval iter X.env) (some (assign (.Name y py) X.env))) _ _ s
 refine wpAny_bind (bG (wpAny_comprehension_free (use:=some (assign (.Name y py) X.env)) (Q:=fun _ s'=>SP X pins D .next s') rfl hs (nY fun y hy hk=>I.ok.has y.1 (S.out y hy hk)) S.kind S.loc
  (bG (hi pins s σ H _ I h) fun v s1 h1=>bG h1 fun itv s2 h2=>?_)) fun _ s' hq=>wpAny_pure (wpAny_pure hq))
 obtain⟨it,fp,tn,J,H2,e,I2,T,st2,f2,hw⟩:=h2
 subst e;refine oC (RR:=fun acc C=>compPost (model X.prog X.w) X.A X.xe (some (assign (.Name y py) X.env)) (fun _ s'=>SP X pins D .next s') acc C) hc S go hb I2 T st2 f2 hw ?_
 intro C Da ys H3 s3 m hC hD hDC I3 fC fD hn q;have cne:∀x c,X.env.cells.lookup x=some c->c≠C:=fun x c e z=>by
  obtain⟨v,oc,q1,q2⟩:=I2.cell x c e
  rw[z]at q1;exact absurd (Nat.lt_of_lt_of_le (Heap.lt_size q1) hC) (Nat.lt_irrefl _)
 have lne:C≠X.env.locals:=Nat.ne_of_gt (Nat.lt_of_lt_of_le I2.lt hC)
 show wpAny _ X.A (assign (.Name y py) X.env (.ref Da)) _ _ _
 refine wpAny_assign_Name (pK (v:=.ref Da) I3 hN hy hx rfl (fun s4 I4 hs4=>?_) hf)
 obtain⟨a,hsb,ha⟩:=hs4
 have aC:C≠a:=by
  rcases ha with z | z
  ·rw[z];exact lne
  ·exact Ne.symm (cne y a z)
 refine⟨m,hn.sameBut hsb aC,fun h' hs'=>?_⟩
 refine⟨_,_,I4.turned (it:=C) (t':=s4.toks) (fun b o hb e=>(hs'.2 b hb).trans e) (by rw[aD (Ne.symm hDC)];exact fC) lne (.inr (iE I2.sz hC)) cne ?_,q Da fD⟩
 intro p hp z;have:=Heap.lt_size (I2.pin p hp).1
 rw[z]at this;exact absurd (Nat.lt_of_lt_of_le this hC) (Nat.lt_irrefl _)
end
end L2
namespace L2
open PySem PySem.Spec PyProof.Rows
def Vd (x:Str):It:=⟨fun i _=>i<x.cps.size,fun i H v H'=>H'=H/\∃c,x.cps[i]?=some c/\v=.str ⟨#[c]⟩,fun i _=>x.cps.size<=i⟩
theorem wB {P:Program} {w:World} {K:W.Frag} {tg:Expr} (it:Addr) (x:Str) (t:Tok):qU P w K tg (Vd x) [it] it (fun i h=>h.IsStrIter it "str_ascii_iterator" x t i) where
 mem:=by simp
 obj:=fun i h st b hb=>by
  have e:b=it:=by simpa using hb
  subst e;obtain⟨o,e,c,d⟩:=st
  exact⟨o,e,fun v z=>by rw[d]at z;cases z⟩
 keep:=fun i h h' st k=>let ⟨o,ho,r⟩:=st;⟨o,k it Zs o ho,r⟩
 item:=by
  intro X hP hw hK hc i pins s σ H E I hf st hg;subst hP hw hK;obtain⟨f0,f1,f2,f3,f4,f5⟩:=hf it Zs
  have hi:i<x.cps.size:=hg
  refine wpAny_pyNext_ascii_item st (c:=x.cps[i]) (by simp [hi]) fun h' st' sb=>?_
  have I1:Inv X pins σ H {s with heap:=h',toks:=s.toks+1 }:=I.turned (fun b o hb e=>(sb.2 b hb).trans e) f0 f1 f3 f4 f5
  obtain⟨o,e,c,d⟩:=id st'
  exact⟨_,rfl,pL (s:={s with heap:=h',toks:=s.toks+1 }) e c d Zd ⟨.str ⟨#[x.cps[i]]⟩,H,I1,⟨_,rfl⟩,⟨rfl,_,by simp [hi],rfl⟩,st',fun b hb=>(hf b hb).1⟩⟩
 done:=by
  intro X hP hw hK hc i pins s σ H E I hf st hg;subst hP hw hK;obtain⟨f0,f1,f2,f3,f4,f5⟩:=hf it Zs
  have hi:x.cps.size<=i:=hg
  exact wpAny_pyNext_ascii_end (I.ok.hd hc) st (by simp [hi]) fun h' eb=>⟨rfl,I.turned (t':=s.toks) (fun b o hb e=>eb b o hb e) f0 f1 f3 f4 f5⟩
 self:=fun _ _ _ _ _ st h=>wpAny_pyIter_striter_ascii st h
theorem Aq {P:Program} {w:World} {K:W.Frag} {tg:Expr} (it:Addr) (x:Str) (t:Tok):qU P w K tg (Vd x) [it] it (fun i h=>h.IsStrIter it "str_iterator" x t i) where
 mem:=by simp
 obj:=fun i h st b hb=>by
  have e:b=it:=by simpa using hb
  subst e;obtain⟨o,e,c,d⟩:=st
  exact⟨o,e,fun v z=>by rw[d]at z;cases z⟩
 keep:=fun i h h' st k=>let ⟨o,ho,r⟩:=st;⟨o,k it Zs o ho,r⟩
 item:=by
  intro X hP hw hK hc i pins s σ H E I hf st hg;subst hP hw hK;obtain⟨f0,f1,f2,f3,f4,f5⟩:=hf it Zs
  have hi:i<x.cps.size:=hg
  refine wpAny_pyNext_wide_item st (c:=x.cps[i]) (by simp [hi]) fun h' st' sb=>?_
  have I1:Inv X pins σ H {s with heap:=h',toks:=s.toks+1 }:=I.turned (fun b o hb e=>(sb.2 b hb).trans e) f0 f1 f3 f4 f5
  obtain⟨o,e,c,d⟩:=id st'
  exact⟨_,rfl,pL (s:={s with heap:=h',toks:=s.toks+1 }) e c d Zd ⟨.str ⟨#[x.cps[i]]⟩,H,I1,⟨_,rfl⟩,⟨rfl,_,by simp [hi],rfl⟩,st',fun b hb=>(hf b hb).1⟩⟩
 done:=by
  intro X hP hw hK hc i pins s σ H E I hf st hg;subst hP hw hK;obtain⟨f0,f1,f2,f3,f4,f5⟩:=hf it Zs
  have hi:x.cps.size<=i:=hg
  exact wpAny_pyNext_wide_end (I.ok.hd hc) st (by simp [hi]) fun h' eb=>⟨rfl,I.turned (t':=s.toks) (fun b o hb e=>eb b o hb e) f0 f1 f3 f4 f5⟩
 self:=fun _ _ _ _ _ st h=>wpAny_pyIter_striter_wide st h
section
variable {X:Cx} {tg:Expr}
def Ta (tl:TE):TI:=fun σ H R=>tl σ H fun x H1=>∃z,x=.str z/\R (Vd z) H1
theorem Ph {l:Expr} {tl:TE} (hl:PE X l tl):PI X tg l (Ta tl):=by
 intro pins s σ H R I h;refine bG (hl pins s σ H _ I h) fun v s1 ⟨x,H1,I1,r1,q1⟩=>?_
 obtain⟨z,rfl,q⟩:=q1
 obtain⟨t,rfl⟩:=r1
 have fp:∀b∈[s1.heap.objs.size],kU X pins H1 b:=fun b hb=>by
  have e:b=s1.heap.objs.size:=by simpa using hb
  subst e;exact I1.fpOk (cB _) (I1.hok.fresh (cB _))
 cases ha:z.cps.all (·<128)
 ·refine wpAny_pyIter_wide ha ?_
  exact⟨s1.heap.objs.size,[s1.heap.objs.size],_,_,H1,rfl,I1.kept (t':=s1.toks) fun b o e=>iH _ e,Aq _ z t,⟨_,Heap.get?_push_size _ rfl,rfl,rfl⟩,fp,q⟩
 ·refine wpAny_pyIter_ascii ha ?_
  exact⟨s1.heap.objs.size,[s1.heap.objs.size],_,_,H1,rfl,I1.kept (t':=s1.toks) fun b o e=>iH _ e,wB _ z t,⟨_,Heap.get?_push_size _ rfl,rfl,rfl⟩,fp,q⟩
end
abbrev tx (l:List Nat):Str:=⟨l.toArray⟩
theorem wC (x:Str):tx x.cps.toList=x:=by cases x;simp
theorem cC (l:List Nat):(tx l).length=l.length:=by simp [Str.length]
theorem rK (a b:List Nat):tx a++tx b=tx (a++b):=by
 show Str.append (tx a) (tx b)=_
 unfold Str.append;simp
theorem rL (x y:Str):(x++y).cps.toList=x.cps.toList++y.cps.toList:=by
 show(Str.append x y).cps.toList=_
 unfold Str.append;simp
def gH {α:Type} (xs:List α) (lo hi:Option Int):List α:=(xs.drop (HT.sIx xs.length 0 lo)).take (HT.sIx xs.length xs.length hi - HT.sIx xs.length 0 lo)
theorem yC (n d:Nat) (v:Option Int):(match v with | none=>(d:Int) | some i=>max 0 (min (if i<0 then i+(n:Int) else i) (n:Int)))=((HT.sIx n d v:Nat):Int):=by
 cases v with
 | none=>rfl
 | some i=>
  show max 0 (min (if i<0 then i+(n:Int) else i) (n:Int))=(((if i<0 then (i+(n:Int)).toNat else min i.toNat n):Nat):Int)
  by_cases h:i<0
  ·rw[if_pos h,if_pos h];omega
  ·rw[if_neg h,if_neg h];omega
theorem Ec (lo hi:Option Int) (n:Nat):Builtin.Str.strSliceIndices lo hi 1 n=(List.range (HT.sIx n n hi - HT.sIx n 0 lo)).map (HT.sIx n 0 lo+·):=by
 rw[<- sliceRange_one,<- yC n 0 lo,<- yC n n hi];unfold Builtin.Str.strSliceIndices;simp only [show(1:Int) > 0 by decide,if_true]
 cases lo <;> cases hi <;> rfl
theorem Jq (n d:Nat) (hd:d<=n) (v:Option Int):HT.sIx n d v<=n:=by
 cases v with
 | none=>exact hd
 | some i=>
  show(if i<0 then (i+(n:Int)).toNat else min i.toNat n)<=n
  split <;> omega
theorem Ar (x:Str) (lo hi:Option Int):(Txt.slice x lo hi).cps.toList=gH x.cps.toList lo hi:=by
 have hl:x.cps.toList.length=x.length:=by simp [Str.length]
 unfold Txt.slice gH;rw[hl,Ec];have key:=pick_run x.cps (HT.sIx x.length 0 lo) (HT.sIx x.length x.length hi - HT.sIx x.length 0 lo)
 split
 ·rename_i h
  have h2:(HT.sIx x.length x.length hi - HT.sIx x.length 0 lo)=x.length:=by simpa using h
  have h3:=Jq x.length x.length (cB _) hi
  have h4:HT.sIx x.length 0 lo=0∨x.length=0:=by omega
  rw[h2];rcases h4 with h4 | h4
  ·rw[h4,List.drop_zero,Ib (by rw[hl];exact cB _)]
  ·have e:x.cps.toList=[]:=List.eq_nil_of_length_eq_zero (by rw[hl];exact h4)
   rw[e];simp
 ·simpa using key
theorem Ed (x:Str) (lo hi:Option Int):Txt.slice x lo hi=tx (gH x.cps.toList lo hi):=by
 rw[<- Ar,wC]
section
variable {X:Cx}
def Vt:V->Option Int->Option Int->Hp->VK->Prop:=fun x lo hi H Q=>∃z,x=.str z/\z.length<=sizeLine/\Q (.str (tx (gH z.cps.toList lo hi))) H
theorem wE {h:Heap} {sl:Addr} {vl vu:Value} {lo hi:Option Int} (hs:h.IsSliceOf sl vl vu .none) (pl:IsPart vl lo) (pu:IsPart vu hi):∃l u:Option (Int × Tok),h.IsSlice sl l u none/\l.map (·.1)=lo/\u.map (·.1)=hi:=by
 cases pl with
 | none=>
  cases pu with
  | none=>exact⟨none,none,hs,rfl,rfl⟩
  | int j t=>exact⟨none,some (j,t),hs,rfl,rfl⟩
 | int i t=>
  cases pu with
  | none=>exact⟨some (i,t),none,hs,rfl,rfl⟩
  | int j u=>exact⟨some (i,t),some (j,u),hs,rfl,rfl⟩
theorem Pi:SlR X Vt:=by
 intro pins s σ H x v vl vu lo hi sl Q I rx hs pl pu h;obtain⟨z,rfl,hz,q⟩:=h
 obtain⟨t,rfl⟩:=rx
 obtain⟨l,u,hS,e1,e2⟩:=wE hs pl pu
 refine⟨"str",_,F.slot_str_getitem.lookup,typeIs_str _ _ _,wpAny_getItem_str_slice hS rfl ?_⟩
 have fin:∀t' k,EP X pins σ Q (.str (Txt.slice z lo hi) t') {s with toks:=k }:=fun t' k=>⟨.str (tx (gH z.cps.toList lo hi)),H,I.tok _,⟨t',by rw[Ed]⟩,q⟩
 subst e1 e2;exact post_val_or_str ⟨iE (Txt.slice_le z _ _) hz,fun t' k=>fin t' k⟩
theorem wF {ns:List Str}:∀ {us:List Value},Vals (ns.map V.str) us->StrsAre us ns:=by
 induction ns with
 | nil=>intro us r;rw[List.map_nil]at r;cases r;exact .nil
 | cons n ns ih=>
  intro us r;rw[List.map_cons]at r;cases r with
  | cons r1 r2=>
   obtain⟨t,e⟩:=r1
   subst e;exact .cons n t (ih r2)
def Ee (K:W.Frag):V->List V->Hp->VK->Prop:=fun x vs H Q=>∃sep p ys,x=.str sep/\vs=[.ref p]/\SqL K H p (ys.map V.str)/\(ys.map (·.length)).sum+ys.length*sep.length<=16777216/\Q (.str (Txt.join sep ys)) H
theorem Jr:Oz X "str.join" (Ee X.K):=by
 intro pins s σ H x vs v us Q I rx rv h;obtain⟨sep,p,ys,rfl,rfl,hq,hz,q⟩:=h
 obtain⟨t,rfl⟩:=rx
 obtain⟨u,rfl,ru⟩:=rv.one
 cases ru
 obtain⟨its,r,pl,_⟩:=I.list hq
 exact join_list pl.isList (by simpa using wF r) hz fun t' k=>⟨.str _,H,I.tok _,⟨_,rfl⟩,q⟩
def Vu (K:W.Frag):List V->Hp->VK->Prop:=fun vs H Q=>∃x T t b,vs=[x,.ty T]/\jZ K H x t/\W.kitOne K t (.type T)=some b/\Q (.bl b) H
theorem Ef:CallR X (.builtin "isinstance") (Vu X.K):=by
 intro pins s σ H xs us Q I r h;obtain⟨x,T,t,b,rfl,ty,e,q⟩:=h
 obtain⟨u,c,rfl,ru,rc⟩:∃u c,us=[u,c]/\RelV x u/\RelV (.ty T) c:=by
  cases r with
  | cons p q=>
   cases q with
   | cons p' q'=>
    cases q'
    exact⟨_,_,rfl,p,p'⟩
 cases (show c=Value.type T from rc)
 exact Ac I ru ty e fun tk=>⟨.bl b,H,I.tok _,rfl,q⟩
theorem tO {ns:List Bool}:∀ {us:List Value},Vals (ns.map V.bl) us->PyProof.Rows.LSm.BoolsAre us ns:=by
 induction ns with
 | nil=>intro us r;rw[List.map_nil]at r;cases r;exact .nil
 | cons n ns ih=>
  intro us r;rw[List.map_cons]at r;cases r with
  | cons r1 r2=>
   have e:=r1
   cases (show _=Value.bool n from e)
   exact .cons n (ih r2)
def Pj (K:W.Frag):List V->Hp->VK->Prop:=fun vs H Q=>∃(p:Addr) (bs:List Bool),vs=[.ref p]/\SqL K H p (bs.map V.bl)/\Q (.bl (bs.all id)) H
def Pk (K:W.Frag):List V->Hp->VK->Prop:=fun vs H Q=>∃(p:Addr) (ns:List Int),vs=[.ref p]/\SqL K H p (ns.map V.int)/\Q (.int (List.sum ns)) H
theorem Eg (hc:X.calm=true):CallR X (.builtin "all") (Pj X.K):=by
 intro pins s σ H xs us Q I r h;obtain⟨p,bs,rfl,hq,q⟩:=h
 obtain⟨u,rfl,ru⟩:=hZ r
 cases ru
 obtain⟨its,rv,pl,hz⟩:=I.list hq
 have hl:=pl.isList
 have hb:=tO rv
 have hlt:p<s.heap.objs.size:=by obtain⟨_,e,_⟩:=hl;exact Heap.lt_size e
 refine call_all_walk (wpAny_pyIter_list hl ?_)
 refine⟨s.heap.objs.size,[s.heap.objs.size,p],[s.heap.objs.size],its.toArray.size,_,_,fun i=>(bs[i]?).getD true,rfl,Walks.list (A:=X.A.in1) (I.ok.hd hc) _ p (Nat.ne_of_lt hlt) its.toArray,
  ⟨⟨_,Heap.get?_push_size _ rfl,rfl,rfl⟩,hl.push _⟩,fun i v s' Q' E' hP hQ=>?_,fun h' tk hk=>?_⟩
 ·obtain⟨b,e,rfl⟩:=hb.get i v (by simpa using hP)
  simp only [e,Option.getD_some]at hQ
  exact wpAny_truthy_bool hQ
 ·have e:((List.range its.toArray.size).all fun i=>(bs[i]?).getD true)=bs.all id:=by
   rw[eC,hb.length];exact PyProof.Rows.LSm.range_all bs
  rw[e];exact⟨.bl _,H,I.kept (PyProof.Rows.LSm.kept_iter hk),rfl,q⟩
theorem Eh (hc:X.calm=true):CallR X (.builtin "sum") (Pk X.K):=by
 intro pins s σ H xs us Q I r h;obtain⟨p,ns,rfl,hq,q⟩:=h
 obtain⟨u,rfl,ru⟩:=hZ r
 cases ru
 obtain⟨its,rv,pl,hz⟩:=I.list hq
 have hi:=nI rv
 obtain⟨xs,hx⟩:=hi.allInts.items
 have hl':s.heap.IsList p (intItems xs):=hx ▸ pl.isList
 refine sum_intListG (I.ok.hd hc) hl' fun h' tk t' hk=>?_
 have e1:ns=xs.toList.map (·.1):=by
  rw[<- nums_intItems,<- hx];exact(show numsOf its.toArray.toList=ns from hi.numsOf).symm
 have e2:preSum (numAt xs) xs.size=ns.sum:=by
  rw[preSum_eq,Ib Zs,e1]
 rw[e2];exact⟨.int _,H,I.kept hk,⟨_,rfl⟩,q⟩
end
section
variable {X:Cx}
def wG (K:W.Frag) (neg:Bool):R2:=fun x y H Q=>∃(a b:Addr) (xs:List V),x=.ref a/\y=.ref b/\SqL K H a xs/\SqL K H b []/\Q (.bl (if neg then !xs.isEmpty else xs.isEmpty)) H
theorem pY {us:List Value} (r:Vals [] us):us=[]:=by cases r;rfl
theorem Ei (hu:X.A.units<cLine):OpR X (compareOp .NotEq) (wG X.K true):=by
 intro pins s σ H x y v u Q I rx ry h;obtain⟨a,b,xs,rfl,rfl,h1,h2,q⟩:=h
 cases rx
 cases ry
 obtain⟨its,r1,p1,_⟩:=I.list h1
 obtain⟨its2,r2,p2,_⟩:=I.list h2
 have e2:=pY r2
 subst e2;have hl:=r1.length
 cases xs with
 | nil=>
  have e1:=pY r1
  subst e1;exact SeqAt.RcNeAt.lists (e:=fun _=>true) p1.isList p2.isList rfl hu (fun j h=>absurd h Zs) _ _ _ _ ⟨.bl false,H,I,rfl,q⟩
 | cons z zs=>
  exact SeqAt.RcNeAt.lists_lengths p1.isList p2.isList (by simp only [eC,<- hl];simp) hu _ _ _ _ ⟨.bl true,H,I,rfl,q⟩
end
end L2
namespace L2
open PySem PySem.Spec PyProof.Rows
def mB (x:V) (k:Bool->Prop):Prop:=match x with | .bl b=>k b | _=>False
def mI (x:V) (k:Int->Prop):Prop:=match x with | .int b=>k b | _=>False
def mS (x:V) (k:Str->Prop):Prop:=match x with | .str b=>k b | _=>False
def mR (x:V) (k:Addr->Prop):Prop:=match x with | .ref b=>k b | _=>False
theorem tP (x:V) (k:Bool->Prop):mB x k=∃b,x=.bl b/\k b:=by
 cases x <;> simp [mB]
theorem kI (x:V) (k:Int->Prop):mI x k=∃b,x=.int b/\k b:=by
 cases x <;> simp [mI]
theorem kJ (x:V) (k:Str->Prop):mS x k=∃b,x=.str b/\k b:=by
 cases x <;> simp [mS]
theorem cJ (x:V) (k:Addr->Prop):mR x k=∃b,x=.ref b/\k b:=by
 cases x <;> simp [mR]
theorem mF {n:Nat} (h:Nat.ble n 1000=true):n<=sizeLine:=iE (Nat.le_of_ble_eq_true h) Zd
theorem gA {n:Nat} (h:n<=1000):n<=sizeLine:=iE h Zd
section
variable {X:Cx} {a b c e:Expr} {ta tb tc te:TE} {pos:Pos}
def vr (i:Nat):TE:=fun σ H Q=>match σ[i]? with | some (some v)=>Q v H | _=>False
theorem Tb (i:Nat):vr i=Nk i:=by
 funext σ H Q
 unfold vr Nk;apply propext
 cases σ[i]? with
 | none=>simp
 | some o=>cases o <;> simp
theorem xv (i:Nat) {x:Str} {pos:Pos} (hN:X.N[i]?=some x:=by rfl) (hv:Rz X.env.scope x:=by first | exact Or.inl rfl | exact Or.inr (Or.inl rfl) | exact Or.inr (Or.inr rfl)) (hd:(x == ("__debug__":Str))=false:=by decide)
  (hcd:(x == ("__classdict__":Str))=false:=by decide):PE X (.Name x pos) (vr i):=by
 rw[Tb];exact Nl hN hv hd hcd
theorem OpR.imp {f:Value->Value->Sem Value} {r r':R2} (h:OpR X f r) (hi:∀x y H Q,r' x y H Q->r x y H Q):OpR X f r':=fun pins s σ H x y v u Q I rx ry q=>h pins s σ H x y v u Q I rx ry (hi x y H Q q)
theorem UnR.imp {f:Value->Sem Value} {r r':V->Hp->VK->Prop} (h:UnR X f r) (hi:∀x H Q,r' x H Q->r x H Q):UnR X f r':=fun pins s σ H x v Q I rx q=>h pins s σ H x v Q I rx (hi x H Q q)
theorem CallR.imp {f:Value} {r r':List V->Hp->VK->Prop} (h:CallR X f r) (hi:∀xs H Q,r' xs H Q->r xs H Q):CallR X f r':=fun pins s σ H xs us Q I rs q=>h pins s σ H xs us Q I rs (hi xs H Q q)
theorem IxR.imp {r r':R2} (h:IxR X r) (hi:∀x y H Q,r' x y H Q->r x y H Q):IxR X r':=fun value slice pins s σ H x y v u Q I rx ry q=>h value slice pins s σ H x y v u Q I rx ry (hi x y H Q q)
theorem SlR.imp {r r':V->Option Int->Option Int->Hp->VK->Prop} (h:SlR X r) (hi:∀x l u H Q,r' x l u H Q->r x l u H Q):SlR X r':=fun pins s σ H x v vl vu lo hi' sl Q I rx hs pl pu q=>h pins s σ H x v vl vu lo hi' sl Q I rx hs pl pu (hi x lo hi' H Q q)
def m2 (C:Int->Int->Prop) (g:Int->Int->V):R2:=fun x y H Q=>mI x fun i=>mI y fun j=>C i j/\Q (g i j) H
def yD (g:Int->Int->V):R2:=fun x y H Q=>mI x fun i=>mI y fun j=>Q (g i j) H
theorem iW {g:Int->Int->V} (x y:V) (H:Hp) (Q:VK) (h:yD g x y H Q):Iq g x y H Q:=by
 unfold yD at h;rw[kI]at h;obtain⟨i,rfl,h⟩:=h
 rw[kI]at h;obtain⟨j,rfl,h⟩:=h
 exact⟨i,j,rfl,rfl,h⟩
theorem rM {C:Int->Int->Prop} {g:Int->Int->V} (x y:V) (H:Hp) (Q:VK) (h:m2 C g x y H Q):rI C g x y H Q:=by
 unfold m2 at h;rw[kI]at h;obtain⟨i,rfl,h⟩:=h
 rw[kI]at h;obtain⟨j,rfl,hc,h⟩:=h
 exact⟨i,j,rfl,rfl,hc,h⟩
theorem Tc:OpR X (binaryOp .Add) (yD fun i j=>.int (i+j)):=On.imp iW
theorem Td:OpR X (binaryOp .Sub) (yD fun i j=>.int (i - j)):=Oo.imp iW
theorem Te:OpR X (binaryOp .Mult) (m2 CMul fun i j=>.int (i*j)):=Op.imp rM
theorem Tf:OpR X (binaryOp .Mod) (m2 (fun _ j=>0<j) fun i j=>.int (i % j)):=Oq.imp rM
theorem Tg:OpR X (binaryOp .Pow) (m2 Om fun i j=>.int (i ^ j.toNat)):=Os.imp rM
theorem Vv:OpR X (compareOp .Lt) (yD fun i j=>.bl (decide (i<j))):=Sl.imp iW
theorem Vw:OpR X (compareOp .LtE) (yD fun i j=>.bl (decide (i<=j))):=Sm.imp iW
theorem Vx:OpR X (compareOp .Gt) (yD fun i j=>.bl (decide (j<i))):=Sn.imp iW
theorem Vy:OpR X (compareOp .GtE) (yD fun i j=>.bl (decide (j<=i))):=So.imp iW
def Ej:R2:=fun x y H Q=>mS x fun i=>mS y fun j=>i.length+j.length<=sizeLine/\Q (.str (i++j)) H
theorem Pl:OpR X (binaryOp .Add) Ej:=vO.imp fun x y H Q h=>by
 unfold Ej at h;rw[kJ]at h;obtain⟨i,rfl,h⟩:=h
 rw[kJ]at h;obtain⟨j,rfl,hc,h⟩:=h
 exact⟨i,j,rfl,rfl,hc,h⟩
def Vz:R2:=fun x y H Q=>match x,y with
 | .int i,.int j=>Q (.bl (decide (i=j))) H
 | .str i,.str j=>Q (.bl (decide (i=j))) H
 | .bl i,.bl j=>Q (.bl (decide (i=j))) H
 | .non,.non=>Q (.bl true) H
 | .int _,.non=>Q (.bl false) H | .non,.int _=>Q (.bl false) H
 | .str _,.non=>Q (.bl false) H | .non,.str _=>Q (.bl false) H
 | .bl _,.non=>Q (.bl false) H | .non,.bl _=>Q (.bl false) H
 | .int _,.str _=>Q (.bl false) H | .str _,.int _=>Q (.bl false) H
 | .bl _,.str _=>Q (.bl false) H | .str _,.bl _=>Q (.bl false) H
 | _,_=>False
def Wa:R2:=fun x y H Q=>match x,y with
 | .int i,.int j=>Q (.bl (!decide (i=j))) H
 | .str i,.str j=>Q (.bl (!decide (i=j))) H
 | .bl i,.bl j=>Q (.bl (!decide (i=j))) H
 | .non,.non=>Q (.bl false) H
 | .int _,.non=>Q (.bl true) H | .non,.int _=>Q (.bl true) H
 | .str _,.non=>Q (.bl true) H | .non,.str _=>Q (.bl true) H
 | .bl _,.non=>Q (.bl true) H | .non,.bl _=>Q (.bl true) H
 | .int _,.str _=>Q (.bl true) H | .str _,.int _=>Q (.bl true) H
 | .bl _,.str _=>Q (.bl true) H | .str _,.bl _=>Q (.bl true) H
 | _,_=>False
theorem Wb:OpR X (compareOp .Eq) Vz:=Ly.imp fun x y H Q h=>by
 unfold Vz at h;unfold Ww;split at h <;> first | exact h.elim | (refine⟨rfl,?_⟩;first | simpa using h | exact h)
theorem Wc:OpR X (compareOp .NotEq) Wa:=Lz.imp fun x y H Q h=>by
 unfold Wa at h;unfold Wx;split at h <;> first | exact h.elim | (refine⟨rfl,?_⟩;first | simpa using h | exact h)
def Pn (neg:Bool):R2:=fun x y H Q=>mS x fun i=>mS y fun j=>∃c,i=tx [c]/\Q (.bl (if neg then !decide (c∈j.cps.toList) else decide (c∈j.cps.toList))) H
theorem Ti:OpR X (compareOp .In) (Pn false):=zX.imp fun x y H Q h=>by
 unfold Pn at h;rw[kJ]at h;obtain⟨i,rfl,h⟩:=h
 rw[kJ]at h;obtain⟨j,rfl,c,rfl,h⟩:=h
 refine⟨_,j,rfl,rfl,?_⟩
 have e:=StrLaws.found_one j c
 have e':(!(Builtin.Str.occurrences j (tx [c]) 0 j.length 1).isEmpty)=decide (c∈j.cps.toList):=e
 rw[e'];exact h
theorem Tj:OpR X (compareOp .Is) (fun x y H Q=>match y with | .non=>Q (.bl (decide (x=.non))) H | _=>False):=Ou.imp fun x y H Q h=>by
 cases y <;> first | exact⟨rfl,h⟩ | exact h.elim
theorem Po:OpR X (compareOp .IsNot) (fun x y H Q=>match y with | .non=>Q (.bl (!decide (x=.non))) H | _=>False):=Iu.imp fun x y H Q h=>by
 cases y <;> first | exact⟨rfl,h⟩ | exact h.elim
def mT (t:TE):TT:=fun σ H Q=>t σ H fun x H'=>mB x fun k=>Q k H'
theorem Mh (t:TE):mT t=xP t:=by
 funext σ H Q
 unfold mT xP;congr 1
 funext x H'
 exact tP x _
theorem Pp (t:TE):mT t=tB t:=by
 funext σ H Q
 unfold mT tB;congr 1
 funext x H'
 exact tP x _
theorem Tk {op:CmpOp} {r:R2} (ho:OpR X (compareOp op) r) (ha:PE X a ta) (hb:PE X b tb) (hm:behindInMarks op b=false:=by first | exact qV _ | rfl):PT X (.Compare a [op] [b] pos) (mT (Cr r ta tb)):=by
 rw[Mh];exact Iw ho ha hb hm
theorem Tl {op:CmpOp} {r:R2} (ho:OpR X (compareOp op) r) (ha:PE X a ta) (hb:PE X b tb) (hm:behindInMarks op b=false:=by first | exact qV _ | rfl):PE X (.Compare a [op] [b] pos) (Cr r ta tb):=Iv ho ha hb hm
def kZ (r r':R2) (ta tb tc:TE):TE:=fun σ H Q=>ta σ H fun x H1=>tb σ H1 fun y H2=>r x y H2 fun z H3=>mB z fun k=>(if k=true then tc σ H3 fun w' H4=>r' y w' H4 Q else Q (.bl false) H3)
theorem pZ (r r':R2) (ta tb tc:TE):kZ r r' ta tb tc=qW r r' ta tb tc:=by
 funext σ H Q
 unfold kZ qW;congr 1
 funext x H1
 congr 1
 funext y H2
 congr 1
 funext z H3
 exact tP z _
theorem Js {op op':CmpOp} {r r':R2} (ho:OpR X (compareOp op) r) (ho':OpR X (compareOp op') r') (ha:PE X a ta) (hb:PE X b tb) (hc:PE X c tc)
  (hm:lastMarks [op,op'] [b,c]=false:=by with_unfolding_all rfl):PE X (.Compare a [op,op'] [b,c] pos) (kZ r r' ta tb tc):=by
 rw[pZ];exact Ct ho ho' ha hb hc hm
theorem Jt {op op':CmpOp} {r r':R2} (ho:OpR X (compareOp op) r) (ho':OpR X (compareOp op') r') (ha:PE X a ta) (hb:PE X b tb) (hc:PE X c tc)
  (hm:lastMarks [op,op'] [b,c]=false:=by with_unfolding_all rfl):PT X (.Compare a [op,op'] [b,c] pos) (mT (kZ r r' ta tb tc)):=by
 rw[Mh,pZ];exact Cu ho ho' ha hb hc hm
theorem Tm {t:TE} (h:PE X e t) (he:∀whole,isTrue e X.env whole=(do let v ← whole;standAt e.pos;holding [v] (truthy v)):=by intro _;rfl):PT X e (mT t):=by
 rw[Pp];exact Np h he
def yE (ta tb:TE):TE:=fun σ H Q=>ta σ H fun x H1=>mB x fun c=>if c=true then tb σ H1 Q else Q (.bl false) H1
def Ju (ta tb:TE):TE:=fun σ H Q=>ta σ H fun x H1=>mB x fun c=>if c=true then Q (.bl true) H1 else tb σ H1 Q
theorem Tn {rest:List Expr} (ha:PE X a ta) (hb:PE X (.BoolOp .And (b::rest) pos) tb):PE X (.BoolOp .And (a::b::rest) pos) (yE ta tb):=by
 have:yE ta tb=Ci ta tb:=by
  funext σ H Q;unfold yE Ci;congr 1;funext x H1;exact tP x _
 rw[this];exact Nw ha hb
theorem Wd {rest:List Expr} (ha:PE X a ta) (hb:PE X (.BoolOp .Or (b::rest) pos) tb):PE X (.BoolOp .Or (a::b::rest) pos) (Ju ta tb):=by
 have:Ju ta tb=Nu ta tb:=by
  funext σ H Q;unfold Ju Nu;congr 1;funext x H1;exact tP x _
 rw[this];exact Sd ha hb
theorem To (ha:PE X a ta):PE X (.UnaryOp .USub a pos) (Vm (fun x H Q=>mI x fun i=>Q (.int (-i)) H) ta):=Sj (Ot.imp fun x H Q h=>by
 rw[kI]at h;obtain⟨i,rfl,h⟩:=h
 exact⟨i,rfl,h⟩) ha
def Jv (K:W.Frag):R2:=fun x y H Q=>mR x fun p=>mI y fun i=>∃xs,SqL K H p xs/\∃v,kA xs i=some v/\Q v H
def Jw (K:W.Frag):R2:=fun x y H Q=>mR x fun p=>mI y fun i=>∃xs,SqT K H p xs/\∃v,kA xs i=some v/\Q v H
def Pq:R2:=fun x y H Q=>mS x fun z=>mI y fun i=>z.length<=sizeLine/\∃c,kA z.cps.toList i=some c/\Q (.str (tx [c])) H
theorem Pr:IxR X (Jv X.K):=Jg.imp fun x y H Q h=>by
 unfold Jv at h;rw[cJ]at h;obtain⟨p,rfl,h⟩:=h
 rw[kI]at h;obtain⟨i,rfl,xs,hq,v,hv,h⟩:=h
 exact⟨p,xs,i,v,rfl,rfl,hq,hv,h⟩
theorem Tp:IxR X (Jw X.K):=Pa.imp fun x y H Q h=>by
 unfold Jw at h;rw[cJ]at h;obtain⟨p,rfl,h⟩:=h
 rw[kI]at h;obtain⟨i,rfl,xs,hq,v,hv,h⟩:=h
 exact⟨p,xs,i,v,rfl,rfl,hq,hv,h⟩
theorem Tq:IxR X Pq:=Pb.imp fun x y H Q h=>by
 unfold Pq at h;rw[kJ]at h;obtain⟨z,rfl,h⟩:=h
 rw[kI]at h;obtain⟨i,rfl,hz,c,hc,h⟩:=h
 exact⟨z,i,c,rfl,rfl,hz,hc,h⟩
theorem We {r:R2} (hr:IxR X r) (ha:PE X a ta) (hb:PE X b tb) (hs:rA b:=by exact fun _ _=>rfl):PE X (.Subscript a b pos) (Cr r ta tb):=Sv hr ha hb hs
def yF (t:TE):TO:=fun σ H Q=>t σ H fun x H1=>mI x fun i=>Q (some i) H1
theorem Ps (h:PE X e te):PO X (some e) (yF te):=by
 have:yF te=De te:=by
  funext σ H Q;unfold yF De;congr 1;funext x H1;exact kI x _
 rw[this];exact Jd h
def Pu:V->Option Int->Option Int->Hp->VK->Prop:=fun x lo hi H Q=>mS x fun z=>z.length<=sizeLine/\Q (.str (tx (gH z.cps.toList lo hi))) H
theorem Tr:SlR X Pu:=Pi.imp fun x l u H Q h=>by
 unfold Pu at h;rw[kJ]at h;obtain⟨z,rfl,hz,h⟩:=h
 exact⟨z,rfl,hz,h⟩
def Jx (K:W.Frag):V->Option Int->Option Int->Hp->VK->Prop:=fun x lo hi H Q=>mR x fun a=>∃xs,SqL K H a xs/\∀p,H p=none->Q (.ref p) (aI H p (.lst (gH xs lo hi)))
theorem Pw:SlR X (Jx X.K):=Jh.imp fun x l u H Q h=>by
 unfold Jx at h;rw[cJ]at h;obtain⟨a,rfl,xs,hq,h⟩:=h
 exact⟨a,xs,rfl,hq,h⟩
theorem Px:CallR X (.builtin "len") (fun vs H Q=>match vs with | [.str z]=>z.length<=sizeLine/\Q (.int z.length) H | _=>False):=rE.imp fun vs H Q h=>by
 split at h
 ·rename_i z
  exact⟨z,rfl,h.1,h.2⟩
 ·exact h.elim
theorem Py:CallR X (.builtin "len") (fun vs H Q=>match vs with | [.ref p]=>∃ys,(SqL X.K H p ys∨SqT X.K H p ys)/\Q (.int ys.length) H | _=>False):=rD.imp fun vs H Q h=>by
 split at h
 ·rename_i p
  obtain⟨ys,hq,h⟩:=h
  exact⟨p,ys,rfl,hq,h⟩
 ·exact h.elim
theorem Ts:CallR X (.type "int") (fun vs H Q=>match vs with | [.bl k]=>Q (.int (if k then 1 else 0)) H | _=>False):=zY.imp fun vs H Q h=>by
 split at h
 ·rename_i k
  exact .inr ⟨k,rfl,h⟩
 ·exact h.elim
end
inductive Kd where | non | bl | int | str | lst | tup | dct
def Jy:Kd->String | .non=>"NoneType" | .bl=>"bool" | .int=>"int" | .str=>"str" | .lst=>"list" | .tup=>"tuple" | .dct=>"dict"
def Kof (H:Hp):V->Kd->Prop
 | .non,.non=>True | .bl _,.bl=>True | .int _,.int=>True | .str _,.str=>True
 | .ref a,.lst=>(∃xs,H a=some (.lst xs))∨∃o xs,H a=some (.frz o (.lst xs))
 | .ref a,.tup=>∃xs,H a=some (.tup xs)
 | .ref a,.dct=>∃kvs,H a=some (.dK kvs)
 | _,_=>False
def Tt:Kd->Kd->Bool | .non,.non=>true | .bl,.bl=>true | .int,.int=>true | .int,.bl=>true | .str,.str=>true | .lst,.lst=>true | .tup,.tup=>true | .dct,.dct=>true | _,_=>false
theorem Tu (K:W.Frag) (want k:Kd):W.kitOne K (.type (Jy k)) (.type (Jy want))=some (Tt want k):=by
 cases want <;> cases k <;> first | rfl | kernel_rfl
theorem Wf {K:W.Frag} {H:Hp} {x:V} {k:Kd} (h:Kof H x k):jZ K H x (.type (Jy k)):=by
  cases x <;> cases k <;> first
    | exact h.elim
    | exact .non
    | exact .bl _
    | exact .int _
    | exact .str _
    | (obtain⟨xs,e⟩:=h;exact .tup e)
    | (obtain⟨xs,e⟩:=h;exact .dK e)
    | (rcases h with⟨xs,e⟩ | ⟨o,xs,e⟩
       . exact .lst e
       . exact .frz e)
def Pz (want:Kd):List V->Hp->VK->Prop:=fun vs H Q=>match vs with
 | [x,y]=>y=.ty (Jy want)/\∃k,Kof H x k/\Q (.bl (Tt want k)) H
 | _=>False
section
variable {X:Cx}
theorem Tv (want:Kd):CallR X (.builtin "isinstance") (Pz want):=Ef.imp fun vs H Q h=>by
 unfold Pz at h;split at h
 ·rename_i x y
  obtain⟨rfl,k,hk,h⟩:=h
  exact⟨x,_,_,_,rfl,Wf hk,Tu X.K want k,h⟩
 ·exact h.elim
variable {e:Expr} {te:TE} {p p2 pos:Pos} {T:Str}
def Qa (want:Kd) (te:TE):TE:=fun σ H Q=>te σ H fun x H1=>∃k,Kof H1 x k/\Q (.bl (Tt want k)) H1
theorem Tw (want:Kd) (he:PE X e te) (hg:Gl X "isinstance") (hm:X.mg "isinstance"=none) (hgT:Gl X T) (hmT:X.mg T=none) (hT:bootBuiltins T=some (.type (Jy want)))
  (hs:starEach [e,.Name T p2] X.env=(false,eval e X.env)::starEach [.Name T p2] X.env:=by rfl) (hs2:starEach [.Name T p2] X.env=(false,eval (.Name T p2) X.env)::starEach [] X.env:=by rfl)
  (hn:T≠"__name__":=by decide) (hd:(T == ("__debug__":Str))=false:=by decide) (hpl:(backTo pos (starEach [.Name T p2] X.env)).any (·.1)=false:=by rfl) :
  PE X (.Call (.Name "isinstance" p) [e,.Name T p2] [] pos) (Qa want te):=by
 have h:=tH (X:=X) (x:="isinstance") (p:=p) (pos:=pos) (Tv want) hg hm PyProof.Rows.boot_isinstance (qX he (qX (Id (v:=.ty (Jy want)) (pos:=p2) hgT hmT hT rfl hn hd) vU hs2) hs) Zd Zd hs hpl
 intro pins s σ H Q I q;exact h pins s σ H Q I (by
  show te σ H _
  have:(fun(x:V) (H1:Hp)=>Pz want [x,.ty (Jy want)] H1 Q)=(fun x H1=>∃k,Kof H1 x k/\Q (.bl (Tt want k)) H1):=by
   funext x H1
   apply propext
   constructor
   ·rintro⟨_,z⟩;exact z
   ·intro z;exact⟨rfl,z⟩
  exact this ▸ q)
end
structure aH (P:Program) (w:World) (K:W.Frag) (mg:Str->Option Value) (base:Heap) (n:Nat) (x:Str) (ps:List Str) (sp:Sp):Prop where
 ex:∃(f:Addr) (fd:FuncData),gM P w K mg base pU n f fd ps sp/\mg x=some (.ref f)/\W.keepIn K (.ref f)=true/\Binds K fd ps []
section
variable {X:Cx} {n:Nat} {x:Str} {ps:List Str} {sp:Sp} {p pos:Pos} {e:Expr} {es:List Expr} {t:TA}
def Wg (sp:Sp) (t:TA):TE:=fun σ H Q=>t σ H fun vs H1=>sp vs H1 Q E0
theorem Wh (c:aH X.prog X.w X.K X.mg X.base n x ps sp) (hr:Room n X.A) (hg:Gl X x) (ha:PA X (e::es) t) (hdb:(x == ("__debug__":Str))=false:=by decide)
  (he:starEach (e::es) X.env=(false,eval e X.env)::starEach es X.env:=by rfl) (hpl:(backTo pos (starEach es X.env)).any (·.1)=false:=by rfl):PE X (.Call (.Name x p) (e::es) [] pos) (Wg sp t):=by
 obtain⟨f,fd,F,hm,hk,hb⟩:=c.ex
 have h:=Ja (X:=X) (p:=p) (pos:=pos) (E:=E0) F hr hg hm hk hb (dvs:=[]) .nil pV ha hdb he hpl
 intro pins s σ H Q I q;exact h pins s σ H Q I (by
  show t σ H _
  have:(fun(vs:List V) (H1:Hp)=>sp (vs++[]) H1 Q E0)=(fun vs H1=>sp vs H1 Q E0):=by
   funext vs H1;rw[List.append_nil]
  rw[this];exact q)
end
structure DefAt (K:W.Frag) (mg:Str->Option Value) (x:Str) (st:Stmt) (ps:List Str):Prop where
 ex:∃(f:Addr) (fd:FuncData),Fun K x x st f fd/\mg x=some (.ref f)/\Binds K fd ps []
theorem DefAt.ok {P:Program} {w:World} {K:W.Frag} {mg:Str->Option Value} {base:Heap} {x:Str} {st:Stmt} {N ps:List Str} {k:Nat} {sp:Sp} (D:DefAt K mg x st ps) (S:aG N ps (aA st)) (len:∀vs H Q E,sp vs H Q E->vs.length=ps.length)
  (hbody:∀(f:Addr) (cdv:Value) (A:Around) (outer:List Env) (s:Shared) (H:Hp) (vs:List V) (Q:VK) (E:XK),Room k (A.deeper (envOfC x (aA st) s.heap.objs.size f cdv))->sp vs H Q E →
   ∃t,PSs (eT pU P w K mg base N x (aA st) f cdv A outer s H E).nox (aP st) t/\t {nx:=fun _ H'=>Q .non H',rt:=Q } (start N vs) H):aH P w K mg base (k+1) x ps sp:=by
 obtain⟨f,fd,F,hm,hb⟩:=D.ex
 exact⟨f,fd,F.ok S len (hbody f),hm,F.kp,hb⟩
def Ek (sc0:Scope) (N0:List Str) (scope:Scope) (N:List Str) (js:List (Option Nat)):Bool:=
 (scope.kind == .function)&&scope.names.all (fun y=>y.2 != .cell)&&scope.names.all (fun y=>y.2 != .local||scope.names.lookup y.1 == some .local)&&(js.length == N.length)&&
 (List.range js.length).all (fun i=>match js[i]? with | some (some j)=>(match N[i]? with | some x=>N0[j]? == some x&&scope.names.lookup x == some .free | none=>false) | _=>true)&&
 scope.names.all (fun y=>y.2 != .free||sc0.names.lookup y.1 == some .cell||sc0.names.lookup y.1 == some .free)
theorem CompScope.by {X:Cx} {scope:Scope} {N:List Str} {js:List (Option Nat)} (sc0:Scope) (N0:List Str) (h0:X.env.scope=sc0) (hN:X.N=N0) (ok:Ek sc0 N0 scope N js=true):CompScope X scope N js:=by
 unfold Ek at ok;simp only [Bool.and_eq_true]at ok
 obtain⟨⟨⟨⟨⟨h1,h2⟩,h3⟩,h4⟩,h5⟩,h6⟩:=ok
 refine⟨by simpa using h1,fun y hy=>?_,fun y hy hk=>?_,by simpa using h4,fun i j e=>?_,fun y hy hk=>?_⟩
 ·have:=List.all_eq_true.mp h2 y hy
  simpa using this
 ·have:=List.all_eq_true.mp h3 y hy
  rw[hk]at this;simpa using this
 ·have hi:i<js.length:=(Zgs.mp e).1
  have:=List.all_eq_true.mp h5 i (List.mem_range.mpr hi)
  rw[e]at this;cases q:N[i]? with
  | none=>simp [q]at this
  | some x=>
   simp only [q,Bool.and_eq_true,beq_iff_eq]at this
   exact⟨x,rfl,by rw[hN];exact this.1,this.2⟩
 ·have:=List.all_eq_true.mp h6 y hy
  rw[hk]at this;have z:(sc0.names.lookup y.1 == some .cell)=true∨(sc0.names.lookup y.1 == some .free)=true:=by simpa using this
  have ek:X.env.kindOf y.1=sc0.names.lookup y.1:=by rw[<- h0];rfl
  rw[ek];rcases z with z | z
  ·exact .inl (by simpa using z)
  ·exact .inr (by simpa using z)
end L2
namespace L2
open PySem PySem.Spec PyProof.Rows
def aJ:Expr->Bool | .Starred _ _=>false | _=>true
theorem aZ {e:Expr} {es:List Expr} {env:Env} (h:aJ e=true):starEach (e::es) env=(false,eval e env)::starEach es env:=by
 cases e <;> first | rfl | cases h
theorem cK {es:List Expr} {env:Env} {pos:Pos} (h:es.all aJ=true):(backTo pos (starEach es env)).any (·.1)=false:=by
 induction es with
 | nil=>rfl
 | cons e es ih=>
  rw[List.all_cons,Bool.and_eq_true]at h;rw[aZ h.1];have:=ih h.2
  show(false||(backTo pos (starEach es env)).any (·.1))=false
  rw[this];rfl
section
variable {X:Cx} {e o:Expr} {es:List Expr} {te to:TE} {t:TA} {x:Str} {p pos apos cpos:Pos} {id T:String} {r:List V->Hp->VK->Prop}
theorem El (ha:PE X e te) (hr:PA X es t) (h:aJ e=true:=by rfl):PA X (e::es) (tE te t):=qX ha hr (aZ h)
theorem Jz (hc:CallR X (.builtin id) r) (hg:Gl X x) (hm:X.mg x=none) (hv:bootBuiltins x=some (.builtin id)) (ha:PA X (e::es) t) (hn:x≠"__name__":=by decide) (hdb:(x == ("__debug__":Str))=false:=by decide)
  (h1:aJ e=true:=by rfl) (h2:es.all aJ=true:=by rfl):PE X (.Call (.Name x p) (e::es) [] pos) (Rq r t):=tH hc hg hm hv ha hn hdb (aZ h1) (cK h2)
theorem Em (hc:CallR X (.type T) r) (hg:Gl X x) (hm:X.mg x=none) (hv:bootBuiltins x=some (.type T)) (ha:PA X (e::es) t) (hn:x≠"__name__":=by decide) (hdb:(x == ("__debug__":Str))=false:=by decide)
  (h1:aJ e=true:=by rfl) (h2:es.all aJ=true:=by rfl):PE X (.Call (.Name x p) (e::es) [] pos) (Rq r t):=Ae hc hg hm hv ha hn hdb (aZ h1) (cK h2)
theorem Tx {n:Nat} {ps:List Str} {sp:Sp} (c:aH X.prog X.w X.K X.mg X.base n x ps sp) (hr:Room n X.A) (hg:Gl X x) (ha:PA X (e::es) t) (hdb:(x == ("__debug__":Str))=false:=by decide)
  (h1:aJ e=true:=by rfl) (h2:es.all aJ=true:=by rfl):PE X (.Call (.Name x p) (e::es) [] pos) (Wg sp t):=Wh c hr hg ha hdb (aZ h1) (cK h2)
theorem En {es:List Expr} {env:Env} {cpos:Pos} (h:es.all aJ=true):(backTo cpos (starEach es env)).all (fun x=>!x.1)=true:=by
 induction es with
 | nil=>rfl
 | cons e es ih=>
  rw[List.all_cons,Bool.and_eq_true]at h;rw[aZ h.1];show(!false&&(backTo cpos (starEach es env)).all (fun x=>!x.1))=true
  rw[ih h.2];rfl
theorem Wi {name:Str} {r:V->List V->Hp->VK->Prop} (pa:PlainAttrs T) (slot:Slot T name id) (hty:typeOf (.builtin id)=pure (.type "method_descriptor")) (hm:Oz X id r) (ho:PE X o to) (ha:PA X (e::es) t)
  (hbase:attributeBase o name X.env (eval o X.env)=eval o X.env:=by rfl) (hline:(apos.endLine == cpos.line)=true:=by rfl) (h1:aJ e=true:=by rfl) (h2:es.all aJ=true:=by rfl) (hn:es.length+1<30:=by decide) :
  PE X (.Call (.Attribute o name apos) (e::es) [] cpos) (Vb X.K T r to t):=by
 refine Sw pa slot hty hm ho ha hbase ?_ hline (aZ h1) (cK h2)
 rw[En (by rw[List.all_cons,h1,h2];rfl)]
 show(true&&true&&decide (es.length+1+0+0<30))=true
 simp
 omega
theorem Qb {p2:Pos} {T:Str} (want:Kd) (he:PE X e te) (hg:Gl X "isinstance") (hm:X.mg "isinstance"=none) (hgT:Gl X T) (hmT:X.mg T=none) (hT:bootBuiltins T=some (.type (Jy want)))
  (hn:T≠"__name__":=by decide) (hd:(T == ("__debug__":Str))=false:=by decide) (h1:aJ e=true:=by rfl):PE X (.Call (.Name "isinstance" p) [e,.Name T p2] [] pos) (Qa want te):=
 Tw want he hg hm hgT hmT hT (aZ h1) (aZ rfl) hn hd (cK rfl)
end
end L2
namespace L2
open PySem PySem.Spec PyProof.Rows
theorem bY:bootBuiltins "len"=some (.builtin "len"):=by decide +kernel
theorem Eo:bootBuiltins "all"=some (.builtin "all"):=by decide +kernel
theorem Qc:bootBuiltins "sum"=some (.builtin "sum"):=by decide +kernel
theorem lA:bootBuiltins "sorted"=some (.builtin "sorted"):=by decide +kernel
theorem Ep:bootBuiltins "max"=some (.builtin "max"):=by decide +kernel
theorem rN:bootBuiltins "list"=some (.type "list"):=by decide +kernel
theorem Er:bootBuiltins "str"=some (.type "str"):=by decide +kernel
theorem Es:bootBuiltins "int"=some (.type "int"):=by decide +kernel
theorem Ka:bootBuiltins "bool"=some (.type "bool"):=by decide +kernel
theorem tQ:bootBuiltins "tuple"=some (.type "tuple"):=by decide +kernel
theorem yG:bootBuiltins "dict"=some (.type "dict"):=by decide +kernel
structure Dk (H:Hp) (d b:Addr):Prop where
 ex:∃(ns:List Int) (s k:Int),H d=some (.lst [.ref b,.int s,.int k])/\H b=some (.lst (ns.map V.int))/\ns.length<=63
def Kp (d b:Addr) (H H':Hp):Prop:=∀c o,H c=some o->c≠d->c≠b->H' c=some o
theorem Kp.refl {d b:Addr} {H:Hp}:Kp d b H H:=fun _ _ e _ _=>e
theorem Kp.trans {d b:Addr} {H H1 H2:Hp} (x:Kp d b H H1) (y:Kp d b H1 H2):Kp d b H H2:=fun c o e h1 h2=>y c o (x c o e h1 h2) h1 h2
theorem Kp.new {d b p:Addr} {H:Hp} {o:HO} (h:H p=none):Kp d b H (aI H p o):=fun c u e _ _=>by rw[aD (aE e h)];exact e
theorem Dk.new {d b p:Addr} {H:Hp} {o:HO} (x:Dk H d b) (h:H p=none):Dk (aI H p o) d b:=by
 obtain⟨ns,s,k,h1,h2,h3⟩:=x.ex
 exact⟨ns,s,k,by rw[aD (aE h1 h)];exact h1,by rw[aD (aE h2 h)];exact h2,h3⟩
def Et (K:W.Frag):Sp:=fun vs H Q _=>∃(a:Addr) (ns:List Int),vs=[.ref a]/\SqL K H a (ns.map V.int)/\∀d b H',H d=none->H b=none->Dk H' d b->Same H H'->Q (.ref d) H'
end L2
namespace L2
theorem Qd {c:Bool} {A B:Prop} (h:c=true) (k:A):if c=true then A else B:=by rw[if_pos h];exact k
theorem tR {c:Bool} {A B:Prop} (h:c=false) (k:B):if c=true then A else B:=by rw[if_neg (by rw[h];exact Bool.false_ne_true)];exact k
theorem dQ {c:Bool} {A B:Prop} (ht:c=true->A) (hf:c=false->B):if c=true then A else B:=by
 cases h:c with
 | true=>rw[if_pos rfl];exact ht h
 | false=>rw[if_neg Bool.false_ne_true];exact hf h
end L2
namespace L2
open PySem PySem.Spec PyProof.Rows
structure tT (J:It) (xs:List V) (A:Hp->Prop):Prop where
 go:∀i H,i<xs.length->A H->J.go i H
 yld:∀i H x H',i<xs.length->A H->J.yld i H x H'->H'=H/\xs[i]?=some x
 stop:∀H,A H->J.stop xs.length H
def qA (x:Str):List V:=x.cps.toList.map fun c=>V.str (tx [c])
theorem Kb (x:Str):tT (Vd x) (qA x) (fun _=>True):=by
 have hl:(qA x).length=x.cps.size:=by simp [qA]
 refine⟨fun i H hi _=>by rw[hl]at hi;exact hi,fun i H v H' _ _ ⟨e,c,hc,ev⟩=>⟨e,?_⟩,fun H _=>by rw[hl];exact cB _⟩
 subst ev;unfold qA;rw[iU,Array.getElem?_toList,hc];rfl
def iM (lo:Int) (n:Nat):List V:=(List.range n).map fun(i:Nat)=>V.int (lo+(i:Int))
theorem fK (lo:Int) (n:Nat):tT (Uz lo n) (iM lo n) (fun _=>True):=by
 have hl:(iM lo n).length=n:=by simp [iM]
 refine⟨fun i H hi _=>by rw[hl]at hi;exact hi,fun i H v H' hi _ ⟨e,ev⟩=>⟨e,?_⟩,fun H _=>by rw[hl];exact cB _⟩
 subst ev;rw[hl]at hi;unfold iM;rw[iU,List.getElem?_range hi];rfl
theorem gB (K:W.Frag) (a:Addr) (xs:List V):tT (Og K a) xs (fun H=>SqL K H a xs):=
 ⟨fun i H hi h=>⟨xs,xs[i],h,by simp [hi]⟩,fun i H x H' _ h ⟨e,y⟩=>⟨e,y xs h⟩,fun H h=>⟨xs,h,cB _⟩⟩
theorem iX (K:W.Frag) (a:Addr) (xs:List V):tT (Vl K a) xs (fun H=>SqT K H a xs):=
 ⟨fun i H hi h=>⟨xs,xs[i],h,by simp [hi]⟩,fun i H x H' _ h ⟨e,y⟩=>⟨e,y xs h⟩,fun H h=>⟨xs,h,cB _⟩⟩
theorem bR {J:It} {xs:List V} {A:Hp->Prop} {js:List (Option Nat)} {g:TG} {tt:TT} {te:TE} {σ:St} {H:Hp} {Q:List V->Hp->Prop} (S:tT J xs A) (hz:xs.length<=100000) (Pv:Nat->List V->Hp->Prop) (hA:∀i ys H,Pv i ys H->A H/\ys.length<=i) (h0:Pv 0 [] H)
  (hs:∀i x ys H,xs[i]?=some x->Pv i ys H->g x (vH js σ) H fun σ2 H2=>tt σ2 H2 fun b H3=>if b=true then te σ2 H3 fun y H4=>Pv (i+1) (ys++[y]) H4 else Pv (i+1) ys H3)
  (hd:∀ys H,Pv xs.length ys H->Q ys H):oB js g tt te σ J H Q:=by
 refine⟨fun i m ys H=>m=xs.length - i/\i<=xs.length/\Pv i ys H,⟨xs.length,Zs,Nat.zero_le _,h0⟩,?_⟩
 rintro i m ys H ⟨rfl,hi,p⟩
 obtain⟨pa,hy⟩:=hA i ys H p
 by_cases hlt:i<xs.length
 ·refine .inr ⟨S.go i H hlt pa,zP (m:=100000) Zo Zd,Pv (i+1),fun ys' H' p'=>⟨xs.length - (i+1),Zo,rfl,hlt,p'⟩,fun x H' y=>?_⟩
  obtain⟨rfl,hx⟩:=S.yld i H x H' hlt pa y
  exact hs i x ys H' hx p
 ·have e:i=xs.length:=by omega
  subst e;exact .inl ⟨S.stop H pa,hd ys H p⟩
theorem As {J:It} {xs:List V} {A:Hp->Prop} {js:List (Option Nat)} {g:TG} {tt:TT} {te:TE} {σ:St} {H:Hp} {Q:List V->Hp->Prop} (S:tT J xs A) (hz:xs.length<=100000) (p:V->Bool) (f:V->V) (hA:A H)
  (hs:∀(x:V) (ys:List V) (N:List V->Hp->Prop),x∈xs->(p x=true->N (ys++[f x]) H)->(p x=false->N ys H)->g x (vH js σ) H fun σ2 H2=>tt σ2 H2 fun b H3=>if b=true then te σ2 H3 fun y H4=>N (ys++[y]) H4 else N ys H3)
  (hd:Q ((xs.filter p).map f) H):oB js g tt te σ J H Q:=by
 refine bR S hz (fun i ys H'=>ys=((xs.take i).filter p).map f/\H'=H) (fun i ys H' ⟨e,e2⟩=>⟨by rw[e2];exact hA,?_⟩) ⟨Zs,rfl⟩ (fun i x ys H' hx ⟨e,e2⟩=>?_) (fun ys H' ⟨e,e2⟩=>?_)
 ·rw[e,dN];exact iE (List.length_filter_le _ _) (by rw[qR];exact Nat.min_le_left _ _)
 ·subst e2;have key:(xs.take (i+1)).filter p=(xs.take i).filter p++(if p x=true then [x] else []):=take_succ_filter p xs i x hx
  refine hs x ys (fun ys' H3=>ys'=((xs.take (i+1)).filter p).map f/\H3=H') (jW hx) (fun h=>⟨?_,rfl⟩) (fun h=>⟨?_,rfl⟩)
  ·rw[key,if_pos h,jV,e];rfl
  ·rw[key,if_neg (by rw[h];exact Bool.false_ne_true),List.append_nil,e]
 ·subst e2;rw[e,Ib (cB _)];exact hd
theorem gN {J:It} {xs:List V} {A:Hp->Prop} {g:TG} {tb:TS} {D:jY} {σ:St} {H:Hp} (S:tT J xs A) (Pv:Nat->St->Hp->Prop) (hA:∀i σ H,Pv i σ H->A H) (h0:Pv 0 σ H)
  (hs:∀(i:Nat) (x:V) σ H,xs[i]?=some x->Pv i σ H->g x σ H fun σ2 H2=>tb {D with nx:=Pv (i+1),ct:=Pv (i+1),bk:=D.nx } σ2 H2) (hd:∀ σ H,Pv xs.length σ H->D.nx σ H) :
  ∃W:Nat->Nat->St->Hp->Prop,(∃m,W 0 m σ H)/\∀i m σ H,W i m σ H →
   (J.stop i H/\D.nx σ H)∨(J.go i H/\∃N:St->Hp->Prop,(∀ σ' H',N σ' H'->∃m',m'<m/\W (i+1) m' σ' H')/\∀x H',J.yld i H x H'->g x σ H' fun σ2 H2=>tb {D with nx:=N,ct:=N,bk:=D.nx } σ2 H2):=by
 refine⟨fun i m σ H=>m=xs.length - i/\i<=xs.length/\Pv i σ H,⟨xs.length,Zs,Nat.zero_le _,h0⟩,?_⟩
 rintro i m σ H ⟨rfl,hi,p⟩
 have pa:=hA i σ H p
 by_cases hlt:i<xs.length
 ·refine .inr ⟨S.go i H hlt pa,Pv (i+1),fun σ' H' p'=>⟨xs.length - (i+1),Zo,rfl,hlt,p'⟩,fun x H' y=>?_⟩
  obtain⟨rfl,hx⟩:=S.yld i H x H' hlt pa y
  exact hs i x σ H' hx p
 ·have e:i=xs.length:=by omega
  subst e;exact .inl ⟨S.stop H pa,hd σ H p⟩
end L2
namespace L2
open PySem
theorem aF {H:Hp} {p:Addr} {o:HO} (h:H p=none):Same H (aI H p o):=fun b u q=>by rw[aD (aE q h)];exact q
theorem oE {α:Type} (xs:List α) (k:Nat):gH xs none (some (k:Int))=xs.take k:=by
 unfold gH;rw[HT.sIx_none,HT.sIx_nat,List.drop_zero,Nat.sub_zero,<- List.take_take,Ib (cB _)]
theorem tV {α:Type} (xs:List α) (k:Nat):gH xs (some (k:Int)) none=xs.drop k:=by
 unfold gH;rw[HT.sIx_none,HT.sIx_nat];by_cases h:k<=xs.length
 ·rw[Nat.min_eq_left h,Ib (by rw[List.length_drop];exact cB _)]
 ·rw[Nat.min_eq_right Zo,List.drop_of_length_le (cB _),List.drop_of_length_le Zo,List.take_nil]
theorem Kc {α β:Type} (f:α->β) (xs:List α) (lo hi:Option Int):gH (xs.map f) lo hi=(gH xs lo hi).map f:=by
 unfold gH;rw[dN,<- List.map_drop,<- List.map_take]
end L2
namespace L2
open PySem PySem.Spec PyProof.Rows
theorem gC {α:Type} {xs:List α} {i:Int} (h0:0<=i) (h1:i<xs.length):∃v,kA xs i=some v/\v∈xs:=by
 obtain⟨j,rfl⟩:=Rx h0
 have hj:j<xs.length:=by omega
 exact⟨xs[j],dA (by simp [hj]),List.getElem_mem hj⟩
theorem yH (g:Array Nat):∀(ps:List Str) (acc:Array Nat),(ps.foldl (fun acc p=>acc++g++p.cps) acc).toList=acc.toList++(ps.map fun p=>g.toList++p.cps.toList).flatten
 | [],acc=>by simp
 | p::ps,acc=>by
  rw[List.foldl_cons,yH g ps];simp
theorem Eu (ps:List Str):(Txt.join (tx []) ps).cps.toList=(ps.map fun p=>p.cps.toList).flatten:=by
 unfold Txt.join Builtin.Str.glued;rw[yH];cases ps with
 | nil=>simp [Str.empty]
 | cons p ps=>simp
theorem Ke (ps:List Str):Txt.join (tx []) ps=tx (ps.map fun p=>p.cps.toList).flatten:=by rw[<- Eu,wC]
theorem wH (ts:List Nat):Txt.join (tx []) (ts.map fun c=>tx [c])=tx ts:=by
 rw[Ke,List.map_map];congr 1
 congr 1
 induction ts with
 | nil=>rfl
 | cons c r ih=>rw[List.map_cons,List.flatten_cons,ih];rfl
theorem Ev:("":Str)=tx []:=by decide +kernel
end L2
namespace L2
open PySem
theorem Dk.ne {H:Hp} {d b p:Addr} (x:Dk H d b) (h:H p=none):p≠d/\p≠b:=by
 obtain⟨ns,s,k,h1,h2,h3⟩:=x.ex
 exact⟨(aE h1 h).symm,(aE h2 h).symm⟩
theorem tX (x:Str):x=tx x.cps.toList:=(wC x).symm
end L2
namespace L2
open PySem
theorem tY:∀ts:List Nat,((ts.map fun c=>tx [c]).map (·.length)).sum=ts.length
 | []=>rfl
 | c::ts=>by
  rw[List.map_cons,List.map_cons,List.sum_cons,tY ts,Cf];show 1+ts.length=_
  omega
end L2
namespace L2
open PySem
theorem Ty {t:TT} {σ:St} {H:Hp} {Q:Bool->Hp->Prop} (R:Bool->Hp->Prop) (h:∀k:Bool->Hp->Prop,(∀v H',R v H'->k v H')->t σ H k) (h2:∀v H',R v H'->Q v H'):t σ H Q:=h Q h2
theorem Tz {t:TS} {D:jY} {σ:St} {H:Hp} (R:St->Hp->Prop) (h:∀nx:St->Hp->Prop,(∀ σ' H',R σ' H'->nx σ' H')->t {D with nx:=nx } σ H) (h2:∀ σ' H',R σ' H'->D.nx σ' H'):t D σ H:=h D.nx h2
theorem Kof.same {H H':Hp} {x:V} {k:Kd} (s:Same H H') (h:Kof H x k):Kof H' x k:=by
  cases x <;> cases k <;> first
    | exact h
    | (obtain⟨xs,e⟩:=h;exact⟨xs,s _ _ e⟩)
    | (rcases h with⟨xs,e⟩ | ⟨o,xs,e⟩
       . exact .inl ⟨xs,s _ _ e⟩
       . exact .inr ⟨o,xs,s _ _ e⟩)
theorem Dk.same {H H':Hp} {d b:Addr} (s:Same H H') (h:Dk H d b):Dk H' d b:=by
 obtain⟨ns,s0,k,h1,h2,h3⟩:=h.ex
 exact⟨ns,s0,k,s _ _ h1,s _ _ h2,h3⟩
end L2
namespace L2
open PySem PySem.Spec PyProof.Rows
structure XE (X:Cx) (e:Expr) (t:TE):Prop where
 h:PE X e t
structure XT (X:Cx) (e:Expr) (t:TT):Prop where
 h:PT X e t
structure XW (X:Cx) (e:Expr) (t:TT):Prop where
 h:PW X e t
structure XA (X:Cx) (es:List Expr) (t:TA):Prop where
 h:PA X es t
structure XS (X:Cx) (st:Stmt) (t:TS):Prop where
 h:PS X st t
structure XB (X:Cx) (st:List Stmt) (t:TS):Prop where
 h:PSs X st t
structure XI (X:Cx) (tg iter:Expr) (t:TI):Prop where
 h:PI X tg iter t
structure XG (X:Cx) (e:Expr) (t:TG):Prop where
 h:PG X e t
structure Ua (X:Cx) (es:List Expr) (t:xL):Prop where
 h:Sg X es t
structure XO (X:Cx) (e:Option Expr) (t:TO):Prop where
 h:PO X e t
structure Ve (X:Cx) (cs:List Expr) (t:TT):Prop where
 h:Ru X cs t
structure Qe (X:Cx) (t:zT):Prop where
 h:Ik X t
structure iA (X:Cx) (f:Value->Value->Sem Value) (r:R2):Prop where
 h:OpR X f r
structure Qg (X:Cx) (r:R2):Prop where
 h:IxR X r
structure Ub (X:Cx) (r:V->Option Int->Option Int->Hp->VK->Prop):Prop where
 h:SlR X r
structure XC (X:Cx) (f:Value) (r:List V->Hp->VK->Prop):Prop where
 h:CallR X f r
structure XM (X:Cx) (id:String) (r:V->List V->Hp->VK->Prop):Prop where
 h:Oz X id r
namespace R
section
variable {X:Cx} {a b c e o i:Expr} {es rest:List Expr} {ta tb tc te to ti:TE} {tA tB':TT} {t u:TA} {pos p p2 apos cpos pos':Pos} {x:Str} {n:Nat} {r r':R2}
theorem v (i:Nat) {x:Str} {pos:Pos} (hN:X.N[i]?=some x:=by rfl) (hv:Rz X.env.scope x:=by first | exact Or.inl rfl | exact Or.inr (Or.inl rfl) | exact Or.inr (Or.inr rfl)) (hd:(x == ("__debug__":Str))=false:=by decide)
  (hcd:(x == ("__classdict__":Str))=false:=by decide):XE X (.Name x pos) (vr i):=⟨xv i hN hv hd hcd⟩
theorem ad {i j pos}:XE X (.Constant (.int i) j pos) (tC (.int i)):=⟨Nm⟩
theorem bl {b j pos}:XE X (.Constant (.bool b) j pos) (tC (.bl b)):=⟨Sa⟩
theorem bu {j pos}:XE X (.Constant .none j pos) (tC .non):=⟨Nn⟩
theorem ak {x j pos}:XE X (.Constant (.str x) j pos) (tC (.str x)):=⟨No⟩
theorem gS {z:Str} (hg:Gl X x) (hm:∃t,X.mg x=some (.str z t)) (hd:(x == ("__debug__":Str))=false:=by decide):XE X (.Name x pos) (tC (.str z)):=by
 obtain⟨t,hm⟩:=hm;exact⟨qT hg hm ⟨t,rfl⟩ hd⟩
theorem gI {z:Int} (hg:Gl X x) (hm:∃t,X.mg x=some (.int z t)) (hd:(x == ("__debug__":Str))=false:=by decide):XE X (.Name x pos) (tC (.int z)):=by
 obtain⟨t,hm⟩:=hm;exact⟨qT hg hm ⟨t,rfl⟩ hd⟩
theorem gR {a:Addr} (hg:Gl X x) (hm:X.mg x=some (.ref a)) (hd:(x == ("__debug__":Str))=false:=by decide):XE X (.Name x pos) (tC (.ref a)):=⟨qT hg hm rfl hd⟩
theorem op {op:Operator} (ho:iA X (binaryOp op) r) (ha:XE X a ta) (hb:XE X b tb):XE X (.BinOp a op b pos) (Cr r ta tb):=⟨Si ho.h ha.h hb.h⟩
theorem aw:iA X (binaryOp .Add) (yD fun i j=>.int (i+j)):=⟨Tc⟩
theorem dw:iA X (binaryOp .Sub) (yD fun i j=>.int (i - j)):=⟨Td⟩
theorem dt:iA X (binaryOp .Mult) (m2 CMul fun i j=>.int (i*j)):=⟨Te⟩
theorem br:iA X (binaryOp .Mod) (m2 (fun _ j=>0<j) fun i j=>.int (i % j)):=⟨Tf⟩
theorem cy:iA X (binaryOp .Pow) (m2 Om fun i j=>.int (i ^ j.toNat)):=⟨Tg⟩
theorem di:iA X (binaryOp .Add) Ej:=⟨Pl⟩
theorem lt:iA X (compareOp .Lt) (yD fun i j=>.bl (decide (i<j))):=⟨Vv⟩
theorem le:iA X (compareOp .LtE) (yD fun i j=>.bl (decide (i<=j))):=⟨Vw⟩
theorem gt:iA X (compareOp .Gt) (yD fun i j=>.bl (decide (j<i))):=⟨Vx⟩
theorem ge:iA X (compareOp .GtE) (yD fun i j=>.bl (decide (j<=i))):=⟨Vy⟩
theorem eq:iA X (compareOp .Eq) Vz:=⟨Wb⟩
theorem ne:iA X (compareOp .NotEq) Wa:=⟨Wc⟩
theorem gm:iA X (compareOp .In) (Pn false):=⟨Ti⟩
theorem inQ:iA X (compareOp .In) (Rr X.K false):=⟨Ah⟩
theorem notInQ:iA X (compareOp .NotIn) (Rr X.K true):=⟨rC⟩
theorem eu:iA X (compareOp .Is) (fun x y H Q=>match y with | .non=>Q (.bl (decide (x=.non))) H | _=>False):=⟨Tj⟩
theorem et:iA X (compareOp .IsNot) (fun x y H Q=>match y with | .non=>Q (.bl (!decide (x=.non))) H | _=>False):=⟨Po⟩
theorem neNil (hu:X.A.units<cLine):iA X (compareOp .NotEq) (wG X.K true):=⟨Ei hu⟩
theorem cu {op:CmpOp} (ho:iA X (compareOp op) r) (ha:XE X a ta) (hb:XE X b tb) (hm:behindInMarks op b=false:=by first | exact qV _ | rfl):XE X (.Compare a [op] [b] pos) (Cr r ta tb):=⟨Tl ho.h ha.h hb.h hm⟩
theorem al {op:CmpOp} (ho:iA X (compareOp op) r) (ha:XE X a ta) (hb:XE X b tb) (hm:behindInMarks op b=false:=by first | exact qV _ | rfl):XT X (.Compare a [op] [b] pos) (mT (Cr r ta tb)):=⟨Tk ho.h ha.h hb.h hm⟩
theorem gq {op op':CmpOp} (ho:iA X (compareOp op) r) (ho':iA X (compareOp op') r') (ha:XE X a ta) (hb:XE X b tb) (hc:XE X c tc) (hm:lastMarks [op,op'] [b,c]=false:=by with_unfolding_all rfl):XE X (.Compare a [op,op'] [b,c] pos) (kZ r r' ta tb tc):=⟨Js ho.h ho'.h ha.h hb.h hc.h hm⟩
theorem ft {op op':CmpOp} (ho:iA X (compareOp op) r) (ho':iA X (compareOp op') r') (ha:XE X a ta) (hb:XE X b tb) (hc:XE X c tc) (hm:lastMarks [op,op'] [b,c]=false:=by with_unfolding_all rfl):XT X (.Compare a [op,op'] [b,c] pos) (mT (kZ r r' ta tb tc)):=⟨Jt ho.h ho'.h ha.h hb.h hc.h hm⟩
theorem az (ha:XE X a ta):XE X (.UnaryOp .USub a pos) (Vm (fun x H Q=>mI x fun i=>Q (.int (-i)) H) ta):=⟨To ha.h⟩
theorem bg {t:TE} (h:XE X e t) (he:∀whole,isTrue e X.env whole=(do let v ← whole;standAt e.pos;holding [v] (truthy v)):=by intro _;rfl):XT X e (mT t):=⟨Tm h.h he⟩
theorem bh (ha:XT X a tA):XT X (.UnaryOp .Not a pos) (Sb tA):=⟨Nt ha.h⟩
theorem ci (ha:XT X a tA):XW X (.BoolOp .And [a] pos) tA:=⟨Ig ha.h⟩
theorem cc (ha:XT X a tA):XW X (.BoolOp .Or [a] pos) tA:=⟨Nq ha.h⟩
theorem cg (ha:XT X a tA) (hb:XW X (.BoolOp .And (b::rest) pos) tB'):XW X (.BoolOp .And (a::b::rest) pos) (Ie tA tB'):=⟨Nr ha.h hb.h⟩
theorem bw (ha:XT X a tA) (hb:XW X (.BoolOp .Or (b::rest) pos) tB'):XW X (.BoolOp .Or (a::b::rest) pos) (Wu tA tB'):=⟨Sc ha.h hb.h⟩
theorem tw (h:XW X e tA):XT X e tA:=⟨h.h.pt⟩
theorem gf {op} (h:XE X a ta):XE X (.BoolOp op [a] pos) ta:=⟨Nv h.h⟩
theorem ia (ha:XE X a ta) (hb:XE X (.BoolOp .And (b::rest) pos) tb):XE X (.BoolOp .And (a::b::rest) pos) (yE ta tb):=⟨Tn ha.h hb.h⟩
theorem or (ha:XE X a ta) (hb:XE X (.BoolOp .Or (b::rest) pos) tb):XE X (.BoolOp .Or (a::b::rest) pos) (Ju ta tb):=⟨Wd ha.h hb.h⟩
theorem ix (hr:Qg X r) (ha:XE X a ta) (hb:XE X b tb) (hs:rA b:=by exact fun _ _=>rfl):XE X (.Subscript a b pos) (Cr r ta tb):=⟨We hr.h ha.h hb.h hs⟩
theorem iL:Qg X (Jv X.K):=⟨Pr⟩
theorem iT:Qg X (Jw X.K):=⟨Tp⟩
theorem iS:Qg X Pq:=⟨Tq⟩
theorem pn:XO X none xS:=⟨Jc⟩
theorem ps (h:XE X e te):XO X (some e) (yF te):=⟨Ps h.h⟩
theorem sl {r:V->Option Int->Option Int->Hp->VK->Prop} {lo hi:Option Expr} {tl th:TO} (hr:Ub X r) (he:XE X e te) (hl:XO X lo tl) (hu:XO X hi th):XE X (.Subscript e (.Slice lo hi none p2) pos) (Wy r te tl th):=⟨Df hr.h he.h hl.h hu.h⟩
theorem sS:Ub X Pu:=⟨Tr⟩
theorem sL:Ub X (Jx X.K):=⟨Pw⟩
theorem ac:XA X [] vT:=⟨vU⟩
theorem aa (ha:XE X e te) (hr:XA X es t) (h:aJ e=true:=by rfl):XA X (e::es) (tE te t):=⟨El ha.h hr.h h⟩
theorem gh {x1} (h:XA X es t):XE X (.Tuple es x1 pos) (Sq t):=⟨Ov h.h⟩
theorem bf (h:XA X es t):XE X (.List es pos) (Sr t):=⟨Ow h.h⟩
theorem ba {id:String} {r:List V->Hp->VK->Prop} (hc:XC X (.builtin id) r) (hg:Gl X x) (hm:X.mg x=none) (hv:bootBuiltins x=some (.builtin id)) (ha:XA X (e::es) t) (hn:x≠"__name__":=by decide) (hdb:(x == ("__debug__":Str))=false:=by decide)
  (h1:aJ e=true:=by rfl) (h2:es.all aJ=true:=by rfl):XE X (.Call (.Name x p) (e::es) [] pos) (Rq r t):=⟨Jz hc.h hg hm hv ha.h hn hdb h1 h2⟩
theorem cw {T:String} {r:List V->Hp->VK->Prop} (hc:XC X (.type T) r) (hg:Gl X x) (hm:X.mg x=none) (hv:bootBuiltins x=some (.type T)) (ha:XA X (e::es) t) (hn:x≠"__name__":=by decide) (hdb:(x == ("__debug__":Str))=false:=by decide)
  (h1:aJ e=true:=by rfl) (h2:es.all aJ=true:=by rfl):XE X (.Call (.Name x p) (e::es) [] pos) (Rq r t):=⟨Em hc.h hg hm hv ha.h hn hdb h1 h2⟩
theorem dh:XC X (.builtin "len") (fun vs H Q=>match vs with | [.str z]=>z.length<=sizeLine/\Q (.int z.length) H | _=>False):=⟨Px⟩
theorem lenL:XC X (.builtin "len") (fun vs H Q=>match vs with | [.ref p]=>∃ys,(SqL X.K H p ys∨SqT X.K H p ys)/\Q (.int ys.length) H | _=>False):=⟨Py⟩
theorem iq:XC X (.type "int") (fun vs H Q=>match vs with | [.bl k]=>Q (.int (if k then 1 else 0)) H | _=>False):=⟨Ts⟩
theorem all (hc:X.calm=true):XC X (.builtin "all") (Pj X.K):=⟨Eg hc⟩
theorem sum (hc:X.calm=true):XC X (.builtin "sum") (Pk X.K):=⟨Eh hc⟩
theorem fn {n:Nat} {ps:List Str} {sp:Sp} (c:aH X.prog X.w X.K X.mg X.base n x ps sp) (hr:Room n X.A) (hg:Gl X x) (ha:XA X (e::es) t) (hdb:(x == ("__debug__":Str))=false:=by decide)
  (h1:aJ e=true:=by rfl) (h2:es.all aJ=true:=by rfl):XE X (.Call (.Name x p) (e::es) [] pos) (Wg sp t):=⟨Tx c hr hg ha.h hdb h1 h2⟩
theorem bm {T id:String} {name:Str} {r:V->List V->Hp->VK->Prop} (pa:PlainAttrs T) (slot:Slot T name id) (hty:typeOf (.builtin id)=pure (.type "method_descriptor")) (hm:XM X id r) (ho:XE X o to) (ha:XA X (e::es) t)
  (hbase:attributeBase o name X.env (eval o X.env)=eval o X.env:=by rfl) (hline:(apos.endLine == cpos.line)=true:=by rfl) (h1:aJ e=true:=by rfl) (h2:es.all aJ=true:=by rfl) (hn:es.length+1<30:=by decide) :
  XE X (.Call (.Attribute o name apos) (e::es) [] cpos) (Vb X.K T r to t):=⟨Wi pa slot hty hm.h ho.h ha.h hbase hline h1 h2 hn⟩
theorem gi:XM X "list.append" xU:=⟨Ai⟩
theorem ig:XM X "list.pop" Dm:=⟨Dn⟩
theorem join:XM X "str.join" (Ee X.K):=⟨Jr⟩
theorem cr {T:Str} (want:Kd) (he:XE X e te) (hg:Gl X "isinstance") (hm:X.mg "isinstance"=none) (hgT:Gl X T) (hmT:X.mg T=none) (hT:bootBuiltins T=some (.type (Jy want)))
  (hn:T≠"__name__":=by decide) (hd:(T == ("__debug__":Str))=false:=by decide) (h1:aJ e=true:=by rfl):XE X (.Call (.Name "isinstance" p) [e,.Name T p2] [] pos) (Qa want te):=⟨Qb want he.h hg hm hgT hmT hT hn hd h1⟩
theorem er:XE X (.Dict [] [] pos) (Dr):=⟨Dt⟩
variable {tg:Expr}
theorem wL (hl:XE X e te):XI X tg e (Cp X.K te):=⟨Ip hl.h⟩
theorem wT (hl:XE X e te):XI X tg e (Oh X.K te):=⟨Oi hl.h⟩
theorem wS (hl:XE X e te):XI X tg e (Ta te):=⟨Ph hl.h⟩
theorem cz (hg:Gl X "range") (hm:X.mg "range"=none) (ha:XA X [a] t) (h1:aJ a=true:=by rfl):XI X tg (.Call (.Name "range" p) [a] [] pos) (Lx t):=⟨zV hg hm ha.h (aZ h1)⟩
theorem gn {i:Nat} (hN:X.N.Nodup) (hi:X.N[i]?=some x:=by rfl) (hx:Lv X.env.scope x:=by first | exact Or.inl rfl | exact Or.inr rfl) (hf:X.fn x=true∨X.env.scope.names.lookup x=some .local:=by first | exact .inl rfl | exact .inr rfl | assumption):XG X (.Name x pos) (aK i):=⟨Il hN hi hx hf⟩
theorem cb:Ua X [] Nz:=⟨Im⟩
theorem ay {tg1:TG} {tgs:xL} (h1:XG X e tg1) (h2:Ua X es tgs) (hs:(assignEach (e::es) X.env).map (·.2)=assign e X.env::(assignEach es X.env).map (·.2):=by rfl):Ua X (e::es) (Cm tg1 tgs):=⟨Cn h1.h h2.h hs⟩
theorem gt' {k:Nat} {tgs:xL} (hc:X.calm=true) (h:Ua X es tgs) (hn:(assignEach es X.env).length=n:=by rfl) (hst:(assignEach es X.env).findIdx? (·.1)=none:=by rfl):XG X (.Tuple es k pos) (Io X.K n tgs):=⟨Oa hc h.h hn hst⟩
theorem ic:Qe X Ma:=⟨Dg⟩
theorem cj {ts:zT} (ho:XE X o to) (hi:XE X i ti) (hs:Qe X ts) (ha:∀v,assign (.Subscript o i pos) X.env v=(do
   let ov ← holding [v] (eval o X.env)
   let iv ← holding [v,ov] (eval i X.env)
   standAt pos
   holding [v,ov,iv] (setItem ov iv v)
   release [v,ov,iv] []):=by intro _;rfl):XG X (.Subscript o i pos) (Ob to ti ts):=⟨Oc ho.h hi.h hs.h ha⟩
end
section
variable {X:Cx} {c e tg iter elt:Expr} {ifs:List Expr} {te:TE} {tc tt:TT} {g:TG} {wi:TI} {st:Stmt} {ss sa sb:List Stmt} {t u:TS} {pos pos' spos py:Pos} {x y:Str} {scope:Scope} {N:List Str} {js:List (Option Nat)}
theorem bt:Ve X [] Me:=⟨Jm⟩
theorem ck (h:XT X c tt) (hx:X.xe=fun _ _=>False:=by rfl):Ve X [c] tt:=⟨Jn h.h hx⟩
theorem bi (hc:X.calm=true) (S:CompScope X scope N js) (go:wA js g) (hi:XI X tg iter wi)
  (hb:∀(C:Addr) (s₂:Shared) (H₂:Hp) (fp:List Addr),XG (kT X scope C N s₂ H₂ fp) tg g/\Ve (kT X scope C N s₂ H₂ fp) ifs tt/\XE (kT X scope C N s₂ H₂ fp) elt te)
  (hs:∀x,foldedSetIterable iter X.env x=pure x:=by intro _;rfl):XE X (.ListComp elt [⟨tg,iter,ifs,0⟩] scope pos) (Mf wi js g tt te):=
 ⟨Jo hc S go hi.h (fun C s₂ H₂ fp=>let ⟨a,b,c⟩:=hb C s₂ H₂ fp;⟨a.h,b.h,c.h⟩) hs⟩
theorem dj {i:Nat} (hN:X.N.Nodup) (hy:X.N[i]?=some y) (hx:Lv X.env.scope y) (hc:X.calm=true) (S:CompScope X scope N js) (go:wA js g) (hi:XI X tg iter wi)
  (hb:∀(C:Addr) (s₂:Shared) (H₂:Hp) (fp:List Addr),XG (kT X scope C N s₂ H₂ fp) tg g/\Ve (kT X scope C N s₂ H₂ fp) ifs tt/\XE (kT X scope C N s₂ H₂ fp) elt te)
  (hsw:swapsWith (.ListComp elt [⟨tg,iter,ifs,0⟩] scope pos) (some (.Name y py)) spos.line X.env=pure true)
  (hs:∀x,foldedSetIterable iter X.env x=pure x:=by intro _;rfl) (hf:X.fn y=true∨X.env.scope.names.lookup y=some .local:=by first | exact .inl rfl | exact .inr rfl | assumption) :
  XS X (.Assign [.Name y py] (.ListComp elt [⟨tg,iter,ifs,0⟩] scope pos) spos) (Mg i wi js g tt te):=
 ⟨Jp hN hy hx hc S go hi.h (fun C s₂ H₂ fp=>let ⟨a,b,c⟩:=hb C s₂ H₂ fp;⟨a.h,b.h,c.h⟩) hsw hs hf⟩
theorem ar:XB X [] cT:=⟨Ih⟩
theorem af (h1:XS X st t):XB X [st] t:=⟨Ii h1.h⟩
theorem ae (h1:XS X st t) (h2:XB X ss u):XB X (st::ss) (Cj t u):=⟨Ck h1.h h2.h⟩
theorem aj (he:XE X e te):XS X (.Return (some e) pos) (Se te):=⟨Ny he.h⟩
theorem bq (he:XE X e te) (hs:swapsWith e none pos.line X.env=pure false:=by rfl):XS X (.Expr e pos) (Lw te):=⟨Ij he.h hs⟩
theorem aq (hc:XT X c tc) (ha:XB X sa t) (hb:XB X sb u):XS X (.If c sa sb pos) (Cl tc t u):=⟨Sf hc.h ha.h hb.h⟩
theorem au {i:Nat} (hN:X.N.Nodup) (he:XE X e te) (hi:X.N[i]?=some x:=by rfl) (hx:Lv X.env.scope x:=by first | exact Or.inl rfl | exact Or.inr rfl) (hs:swapsWith e (some (.Name x pos')) pos.line X.env=pure false:=by rfl)
  (hf:X.fn x=true∨X.env.scope.names.lookup x=some .local:=by first | exact .inl rfl | exact .inr rfl | assumption):XS X (.Assign [.Name x pos'] e pos) (Co te (aK i)):=⟨Oe hN hi hx he.h hs hf⟩
theorem bz (he:XE X e te) (hg:XG X tg g) (hs:swapsWithSole [tg] e pos.line X.env=pure false:=by rfl) (hw:swappedStores [tg] e X.env=pure none:=by rfl) (h1:(assignEach [tg] X.env).map (·.2)=[assign tg X.env]:=by rfl) :
  XS X (.Assign [tg] e pos) (Co te g):=⟨Od he.h hg.h hs hw h1⟩
theorem bv (hp:PassesOwn (model X.prog X.w) X.A X.env X.xe) (hc:X.calm=true) (hi:XI X tg iter wi) (hg:XG X tg g) (hb:XB X ss t) (hs:∀x,foldedSetIterable iter X.env x=pure x:=by intro _;rfl):XS X (.For tg iter ss [] pos) (Sh wi g t):=⟨Oj hp hc hi.h hg.h hb.h hs⟩
end
end R
theorem DefAt.go {P:Program} {w:World} {K:W.Frag} {mg:Str->Option Value} {base:Heap} {x:Str} {st:Stmt} {N ps:List Str} {k:Nat} {sp:Sp} (D:DefAt K mg x st ps) (S:aG N ps (aA st)) (len:∀vs H Q E,sp vs H Q E->vs.length=ps.length)
  (hbody:∀(f:Addr) (cdv:Value) (A:Around) (outer:List Env) (s:Shared) (H:Hp) (vs:List V) (Q:VK) (E:XK),Room k (A.deeper (envOfC x (aA st) s.heap.objs.size f cdv))->sp vs H Q E →
   ∃t,XB (eT pU P w K mg base N x (aA st) f cdv A outer s H E).nox (aP st) t/\t {nx:=fun _ H'=>Q .non H',rt:=Q } (start N vs) H):aH P w K mg base (k+1) x ps sp:=
 D.ok S len fun f cdv A outer s H vs Q E hr h=>let ⟨t,h1,h2⟩:=hbody f cdv A outer s H vs Q E hr h;⟨t,h1.h,h2⟩
theorem Fun.go {P:Program} {w:World} {K:W.Frag} {mg:Str->Option Value} {base:Heap} {x qual:Str} {st:Stmt} {f:Addr} {fd:FuncData} {N ps:List Str} {k:Nat} {sp:Sp} (F:Fun K x qual st f fd) (S:aG N ps (aA st)) (len:∀vs H Q E,sp vs H Q E->vs.length=ps.length)
  (hbody:∀(cdv:Value) (A:Around) (outer:List Env) (s:Shared) (H:Hp) (vs:List V) (Q:VK) (E:XK),Room k (A.deeper (envOfC qual (aA st) s.heap.objs.size f cdv))->sp vs H Q E →
   ∃t,XB (eT pU P w K mg base N qual (aA st) f cdv A outer s H E).nox (aP st) t/\t {nx:=fun _ H'=>Q .non H',rt:=Q } (start N vs) H):gM P w K mg base pU (k+1) f fd ps sp:=
 F.ok S len fun cdv A outer s H vs Q E hr h=>let ⟨t,h1,h2⟩:=hbody cdv A outer s H vs Q E hr h;⟨t,h1.h,h2⟩
theorem Qh {K:W.Frag} {h:Heap} {mg:Str->Option Value} {x:Str} {st:Stmt} {ps:List Str} {f:Addr} {od an:Option Addr} {sl:Array (Option Value)} {oc kV dc pm cd ct:Value} (X:K.In h) (G:h.Ns mainGlobals mg)
  (a:W.nsIn K mainGlobals x=some (some (.ref f))) (l:K.lookup f=some ⟨oc,od,.func (W.fnOf x x (bC st) (aP st) (aA st) .none kV dc pm an cd ct),sl⟩) (c:W.codeIn K cd x=true) (k:W.keepIn K (.ref f)=true)
  (hb:∀(kV doc pm:Value) (an:Option Addr) (cdv ct:Value) (us:List Value),us.length=ps.length->bindArgs (W.fnOf x x (bC st) (aP st) (aA st) .none kV doc pm an cdv ct) ⟨us,[]⟩=pure (ps.zip us)):DefAt K mg x st ps:=
 ⟨f,_,nQ l c k,W.mg_of X G a,(nQ (st:=st) l c k).binds hb⟩
namespace R
section
variable {X:Cx} {K:W.Frag} {a b c e o i tg:Expr} {es rest:List Expr} {te to:TE} {t:TA} {pos p p2 apos cpos:Pos} {x:Str} {n:Nat}
theorem bb (hK:X.K=K:=by rfl):Qg X (Jv K):=hK ▸ iL
theorem ah (hK:X.K=K:=by rfl):Qg X (Jw K):=hK ▸ iT
theorem dq (hK:X.K=K:=by rfl):Ub X (Jx K):=hK ▸ sL
theorem eo (hK:X.K=K:=by rfl):iA X (compareOp .In) (Rr K false):=hK ▸ inQ
theorem fw (hK:X.K=K:=by rfl):iA X (compareOp .NotIn) (Rr K true):=hK ▸ notInQ
theorem ie (hu:X.A.units<cLine) (hK:X.K=K:=by rfl):iA X (compareOp .NotEq) (wG K true):=hK ▸ neNil hu
theorem bo (hK:X.K=K:=by rfl):XC X (.builtin "len") (fun vs H Q=>match vs with | [.ref p]=>∃ys,(SqL K H p ys∨SqT K H p ys)/\Q (.int ys.length) H | _=>False):=hK ▸ lenL
theorem fu (hc:X.calm=true) (hK:X.K=K:=by rfl):XC X (.builtin "all") (Pj K):=hK ▸ all hc
theorem ib (hc:X.calm=true) (hK:X.K=K:=by rfl):XC X (.builtin "sum") (Pk K):=hK ▸ sum hc
theorem ii (hK:X.K=K:=by rfl):XM X "str.join" (Ee K):=hK ▸ join
theorem cn {T id:String} {name:Str} {r:V->List V->Hp->VK->Prop} (pa:PlainAttrs T) (slot:Slot T name id) (hty:typeOf (.builtin id)=pure (.type "method_descriptor")) (hm:XM X id r) (ho:XE X o to) (ha:XA X (e::es) t) (hK:X.K=K:=by rfl)
  (hbase:attributeBase o name X.env (eval o X.env)=eval o X.env:=by rfl) (hline:(apos.endLine == cpos.line)=true:=by rfl) (h1:aJ e=true:=by rfl) (h2:es.all aJ=true:=by rfl) (hn:es.length+1<30:=by decide) :
  XE X (.Call (.Attribute o name apos) (e::es) [] cpos) (Vb K T r to t):=hK ▸ bm pa slot hty hm ho ha hbase hline h1 h2 hn
theorem bj (hl:XE X e te) (hK:X.K=K:=by rfl):XI X tg e (Cp K te):=hK ▸ wL hl
theorem cv (hl:XE X e te) (hK:X.K=K:=by rfl):XI X tg e (Oh K te):=hK ▸ wT hl
theorem ca {k:Nat} {tgs:xL} (hc:X.calm=true) (h:Ua X es tgs) (hK:X.K=K:=by rfl) (hn:(assignEach es X.env).length=n:=by rfl) (hst:(assignEach es X.env).findIdx? (·.1)=none:=by rfl):XG X (.Tuple es k pos) (Io K n tgs):=hK ▸ gt' hc h hn hst
end
end R
end L2
namespace L2
open PySem PySem.Spec PyProof.Rows
section
variable {X:Cx}
def Wj:List V->Hp->VK->Prop:=fun vs H Q=>match vs with
 | [.int i]=>(0<=i/\i<10 ^ 40)/\Q (.str (Str.ofString (toString i))) H
 | [.str z]=>Q (.str z) H
 | _=>False
def Xa:List V->Hp->VK->Prop:=fun vs H Q=>match vs with
 | [.str z]=>NumText.AllDigits z.cps.toList/\z.cps.toList≠[]/\z.length<=640/\Q (.int (NumText.digitsVal z.cps.toList:Nat)) H
 | _=>False
end
def LET:List Nat:=[97,98,99,100,101,102,103,104,105,106,107,108,109,110,111,112,113,114,115,116,117,118,119,120,121,122]
def Rv:List Nat:=[48,49,50,51,52,53,54,55,56,57]
theorem rO:(("abcdefghijklmnopqrstuvwxyz":Str)).cps.toList=LET:=by decide +kernel
theorem Ew:(("0123456789":Str)).cps.toList=Rv:=by decide +kernel
def dR (x:V) (cs:List Nat) (n:Int):Bool:=match x with | .str z=>decide (1<=(z.length:Int))&&decide ((z.length:Int)<=n)&&z.cps.toList.all (fun c=>decide (c∈cs)) | _=>false
theorem fL (z:Str) (cs:List Nat) (n:Int):dR (.str z) cs n=(decide (1<=(z.length:Int))&&decide ((z.length:Int)<=n)&&z.cps.toList.all (fun c=>decide (c∈cs))):=rfl
def wI:Sp:=fun vs H Q _=>∃x sg n k,vs=[x,.str sg,.int n]/\Kof H x k/\(∀z,x=.str z->z.length<=1000)/\∀H',Same H H'->Q (.bl (dR x sg.cps.toList n)) H'
def lB (cs:List Nat) (n:Int):Sp:=fun vs H Q _=>∃x k,vs=[x]/\Kof H x k/\(∀z,x=.str z->z.length<=1000)/\∀H',Same H H'->Q (.bl (dR x cs n)) H'
end L2
namespace L2
open PySem PySem.Spec PyProof.Rows
def isNm (z:Str):Prop:=1<=z.length/\z.length<=8/\∀c∈z.cps.toList,c∈LET
end L2
namespace L2
open PySem PySem.Spec PyProof.Rows
section
variable {prog:Program} {w:World} {A:Around} {E:Value->Shared->Prop} {s:Shared}
theorem At {t:Addr} {items:Array Value} {Q:Bool->Shared->Prop} (ht:IsTup s.heap t items) (h:Q true s):wpAny (model prog w) A (Builtin.Tuple.tupleIsExact (.ref t)) Q E s:=by
 unfold Builtin.Tuple.tupleIsExact;refine wpAny_bind (wpAny_typeOf ht.typeIs ?_)
 exact wpAny_pure h
theorem jG {t sl:Addr} {items:Array Value} {vl vu:Value} {lo hi:Option Int} {Q:Value->Shared->Prop} (ht:IsTup s.heap t items) (hs:s.heap.IsSliceOf sl vl vu .none) (pl:IsPart vl lo) (pu:IsPart vu hi)
  (hw:HT.sIx items.size 0 lo=0/\HT.sIx items.size items.size hi=items.size) (h:Q (.ref t) s):wpAny (model prog w) A (getItem (.ref t) (.ref sl)) Q E s:=by
 obtain⟨os,hos,hcs,hds⟩:=id hs
 have hTs:s.TypeIs (.ref sl) "slice":=⟨os,hos,hcs⟩
 unfold getItem;try with_reducible refine wpAny_holding ?_
 first | refine wpAny_bind (wpAny_pure ?_) | skip
 refine wpAny_bind (wpAny_sequenceKey ht.typeIs Zd ?_)
 refine wpAny_bind (wpAny_callSpecial?_slot (name:=Str.ofString "__getitem__") ht.typeIs PyProof.Rows.slot_tuple_getitem
  (wpAny_call_entry PyProof.Rows.slot_tuple_getitem ht.typeIs entry_tuple_getitem ?_ (args_tuple_getitem _ _)))
 show wpAny _ _ (Builtin.Tuple.tupleItemsOf (.ref t) >>= _) _ _ s
 refine wpAny_bind (tupleItemsOf_ ht ?_)
 refine wpAny_bind (wpAny_typeOf hTs ?_)
 rw[if_pos Zd]
 refine wpAny_bind (HT.sliceApplied_gen hs pl pu ?_)
 have hyes:(((HT.sIx items.size 0 lo:Nat):Int) == 0&&(1:Int) == 1&&(HT.sIx items.size items.size hi - HT.sIx items.size 0 lo) == items.size)=true:=by
  rw[hw.1,hw.2];simp
 show wpAny _ _ (if (((HT.sIx items.size 0 lo:Nat):Int) == 0&&(1:Int) == 1&&(HT.sIx items.size items.size hi - HT.sIx items.size 0 lo) == items.size)=true then _ else _) _ _ s
 rw[if_pos hyes];refine wpAny_bind (At ht ?_)
 rw[if_pos rfl];exact wpAny_bind (wpAny_rule (wpAny_pure ⟨_,rfl,wpAny_pure h⟩))
theorem Ey {t b:Addr} {ws:List Value} {Q:Value->Shared->Prop} (ht:IsTup s.heap t ([]:List Value).toArray) (hb:IsTup s.heap b ws.toArray) (h1:Q (.ref b) s):wpAny (model prog w) A (binaryOp .Add (.ref t) (.ref b)) Q E s:=by
 obtain⟨⟨cls,dd,data,sl⟩,ho,hc,n,hd⟩:=id ht
 obtain⟨⟨cls2,dd2,data2,sl2⟩,ho2,hc2,n2,hd2⟩:=id hb
 simp only at hc hd hc2 hd2
 subst hc hd hc2 hd2;exact concat_meets ⟨_,ho,rfl⟩ ⟨_,ho2,rfl⟩ noFill_tuple_add seq_tuple_add PySem.F.slot_tuple_add PySem.F.entry_tuple_add (PySem.F.args_tuple_add_2 _ _)
   (tuple_addW0 t b _ ws.toArray n n2 dd dd2 sl sl2 Zs) ⟨ho,ho2,h1⟩
end
section
variable {X:Cx} {e o e1 e2:Expr} {te:TE} {pos p2 p3:Pos}
def Qi:V->Option Int->Option Int->Hp->VK->Prop:=fun x lo hi H Q=>mR x fun a=>∃xs,H a=some (.tup xs)/\∀p H',Same H H'->H' p=some (.tup (gH xs lo hi))->Q (.ref p) H'
theorem Uc:SlR X Qi:=by
 intro pins s σ H x v vl vu lo hi sl Q I rx hs pl pu h;unfold Qi at h;rw[cJ]at h;obtain⟨a,rfl,xs,hx,q⟩:=h
 by_cases hw:HT.sIx xs.length 0 lo=0/\HT.sIx xs.length xs.length hi=xs.length
 ·cases rx
  obtain⟨its,r,ht,hz⟩:=I.tuple (SqT.of hx)
  have hlen:its.toArray.size=xs.length:=by rw[eC];exact r.length.symm
  refine⟨"tuple",_,PyProof.Rows.slot_tuple_getitem.lookup,ht.typeIs,?_⟩
  refine jG ht hs pl pu (by rw[hlen];exact hw) ⟨.ref a,H,I,rfl,q a H (Same.refl H) ?_⟩
  rw[hx];unfold gH;rw[hw.1,hw.2,List.drop_zero,Nat.sub_zero,Ib (cB _)]
 ·exact Oy pins s σ H (.ref a) v vl vu lo hi sl Q I rx hs pl pu ⟨a,xs,rfl,SqT.of hx,hw,fun p hp=>q p _ (aF hp) aB⟩
def Ez:R2:=fun x y H Q=>mR x fun a=>mR y fun b=>∃xs ys,H a=some (.tup xs)/\H b=some (.tup ys)/\xs.length+ys.length<=1000/\∀p H',Same H H'->H' p=some (.tup (xs++ys))->Q (.ref p) H'
theorem Qj:OpR X (binaryOp .Add) Ez:=by
 intro pins s σ H x y v u Q I rx ry h;unfold Ez at h;rw[cJ]at h;obtain⟨a,rfl,h⟩:=h
 rw[cJ]at h;obtain⟨b,rfl,xs,ys,ha,hb,hz,q⟩:=h
 by_cases h0:xs=[]
 ·subst h0;cases rx
  cases ry
  obtain⟨its,r1,p1,_⟩:=I.tuple (SqT.of ha)
  obtain⟨its2,r2,p2,_⟩:=I.tuple (SqT.of hb)
  cases r1
  exact Ey p1 p2 ⟨.ref b,H,I,rfl,q b H (Same.refl H) (by rw[hb];rfl)⟩
 ·exact Je pins s σ H _ _ v u Q I rx ry ⟨a,b,xs,ys,rfl,rfl,SqT.of ha,SqT.of hb,h0,iE hz Zd,(fun h1=>q a H (Same.refl H) (by rw[ha,h1,List.append_nil])),fun _ p hp=>q p _ (aF hp) aB⟩
end
def Tab (P:Params):List DictEntry->List (Str × Int)->Prop
 | [],[]=>True
 | e::r,(x,i)::q=>(∃t,e.key=.str x t)/\e.hash=PyData.keyHash P x/\(∃t,e.val=.int i t)/\Tab P r q
 | _,_=>False
theorem Tab.keys {P:Params}:∀ {es:List DictEntry} {ws:List (Str × Int)},Tab P es ws->W.KeysLit P es
 | [],[],_=>trivial
 | e::r,(x,i)::q,h=>⟨let ⟨t,ht⟩:=h.1;⟨x,t,ht,h.2.1⟩,Tab.keys h.2.2.2⟩
 | [],_::_,h=>h.elim
 | _::_,[],h=>h.elim
theorem Tab.find {P:Params} (z:Str):∀ {es:List DictEntry} {ws:List (Str × Int)},Tab P es ws->(match ws.lookup z with | some i=>∃t,(es.find? fun e=>Value.isStrOf z e.key).map (·.val)=some (.int i t) | none=>(es.find? fun e=>Value.isStrOf z e.key).map (·.val)=none)
 | [],[],_=>rfl
 | [],_::_,h=>h.elim
 | _::_,[],h=>h.elim
 | e::r,(x,i)::q,h=>by
  obtain⟨⟨t,ht⟩,h2,⟨t',hv⟩,h4⟩:=h
  have ih:=Tab.find z h4
  rw[List.lookup_cons,List.find?_cons];have e1:Value.isStrOf z e.key=(z == x):=by
   rw[ht];show(x == z)=(z == x)
   exact Bool.beq_comm
  rw[e1];cases hz:z == x with
  | true=>exact⟨t',by rw[<- hv];rfl⟩
  | false=>exact ih
structure KTab (K:W.Frag) (P:Params) (a:Addr) (ws:List (Str × Int)):Prop where
 ex:∃es n,K.lookup a=some ⟨.type "dict",none,.dict (List.toArray es) n,#[]⟩/\Tab P es ws/\(a == sysModules)=false
theorem KTab.map {K:W.Frag} {prog:Program} {w:World} {a:Addr} {ws:List (Str × Int)} {h:Heap} (T:KTab K w.params a ws) (X:K.In h) :
  ∃f:Str->Option Value,h.MapOf (strKind prog w) a f/\(a == sysModules)=false/\∀z,(match ws.lookup z with | some i=>∃t,f z=some (.int i t) | none=>f z=none):=by
 obtain⟨es,n,hl,ht,lo⟩:=T.ex
 refine⟨_,W.mapOf_K (prog:=prog) X hl ht.keys,lo,fun z=>?_⟩
 have:=ht.find z
 unfold findBy;rw[List.find?_toArray];exact this
section
variable {X:Cx}
def Qk (K:W.Frag) (P:Params) (neg:Bool):R2:=fun x y H Q=>mS x fun z=>mR y fun a=>∃ws,KTab K P a ws/\Q (.bl (if neg then !(ws.lookup z).isSome else (ws.lookup z).isSome)) H
theorem Au {f:Option Value} {o:Option Int} (h:match o with | some i=>∃t,f=some (.int i t) | none=>f=none):f.isSome=o.isSome:=by
 cases o with
 | none=>rw[h];rfl
 | some i=>obtain⟨t,h⟩:=h;rw[h];rfl
theorem Fa:OpR X (compareOp .NotIn) (Qk X.K X.w.params true):=by
 intro pins s σ H x y v u Q I rx ry h;unfold Qk at h;rw[kJ]at h;obtain⟨z,rfl,h⟩:=h
 rw[cJ]at h;obtain⟨a,rfl,ws,T,h⟩:=h
 obtain⟨t,rfl⟩:=rx
 cases ry
 obtain⟨f,hm,lo,hf⟩:=T.map (prog:=X.prog) I.kIn
 exact wpAny_notIn_of (strKind_is X.prog X.w z t) lo hm ⟨.bl (!(ws.lookup z).isSome),H,I.tok _,by rw[Au (hf z)];rfl,h⟩
def Ql (K:W.Frag) (P:Params):R2:=fun x y H Q=>mR x fun a=>mS y fun z=>∃ws i,KTab K P a ws/\ws.lookup z=some i/\Q (.int i) H
theorem Xd:IxR X (Ql X.K X.w.params):=by
 intro value slice pins s σ H x y v u Q I rx ry h hs;unfold Ql at h;rw[cJ]at h;obtain⟨a,rfl,h⟩:=h
 rw[kJ]at h;obtain⟨z,rfl,ws,i,T,hi,h⟩:=h
 obtain⟨t,rfl⟩:=ry
 cases rx
 obtain⟨f,hm,lo,hf⟩:=T.map (prog:=X.prog) I.kIn
 have hz:=hf z
 rw[hi]at hz;obtain⟨t',hz⟩:=hz
 exact tail_any hm.typeIs slot_dict_getitem.lookup (wpAny_getItem_of (strKind_is X.prog X.w z t) hm hz ⟨.int i,H,I.tok _,⟨t',rfl⟩,h⟩) hs
end
namespace R
section
variable {X:Cx} {K:W.Frag} {P:Params} {e e1 k v o f:Expr} {te t1 tk tv td ty tx':TE} {pos p2 apos cpos:Pos} {ks:List (Option Expr)} {vs:List Expr} {trs:List (TE × TE)}
theorem sT:Ub X Qi:=⟨Uc⟩
theorem cf:iA X (binaryOp .Add) Ez:=⟨Qj⟩
theorem gv (hK:X.K=K:=by rfl) (hP:X.w.params=P:=by rfl):iA X (compareOp .NotIn) (Qk K P true):=hK ▸ hP ▸ ⟨Fa⟩
theorem gx (hK:X.K=K:=by rfl) (hP:X.w.params=P:=by rfl):Qg X (Ql K P):=hK ▸ hP ▸ ⟨Xd⟩
theorem gg (hK:X.K=K:=by rfl):XC X (.type "list") (fun vs H Q=>match vs with | [.ref p]=>∃ys,(SqL K H p ys∨SqT K H p ys)/\∀l,H l=none->Q (.ref l) (aI H l (.lst ys)) | _=>False):=hK ▸ ⟨rF.imp fun vs H Q h=>by
 split at h
 ·rename_i p
  obtain⟨ys,hq,h⟩:=h
  exact⟨p,ys,rfl,hq,h⟩
 ·exact h.elim⟩
theorem ik (hK:X.K=K:=by rfl):XC X (.type "tuple") (fun vs H Q=>match vs with | [.ref p]=>∃ys,SqL K H p ys/\∀l,H l=none->Q (.ref l) (aI H l (.tup ys)) | _=>False):=hK ▸ ⟨oZ.imp fun vs H Q h=>by
 split at h
 ·rename_i p
  obtain⟨ys,hq,h⟩:=h
  exact⟨p,ys,rfl,.inl ⟨hq,h⟩⟩
 ·exact h.elim⟩
theorem ij (hu:X.A.units+1<cLine) (ho:XE X o td) (he:XE X e ty) (hf:XE X f tx') (h1:attributeBase o "get" X.env (eval o X.env)=eval o X.env:=by rfl) (h3:(apos.endLine == cpos.line)=true:=by rfl)
  (h2:((backTo cpos (starEach [e,f] X.env)).all (fun x=>!x.1)&&(backToKw cpos (keywordEach [] X.env)).all (fun x=>x.1.isSome)
  && decide (([e,f]:List Expr).length+([]:List Keyword).length+(if ([]:List Keyword).isEmpty then 0 else 1)<30))=true:=by rfl)
  (h4:backTo cpos (starEach [e,f] X.env)=[(false,eval e X.env),(false,eval f X.env)]:=by rfl):XE X (.Call (.Attribute o "get" apos) [e,f] [] cpos) (Dv td ty tx'):=⟨Dx hu ho.h he.h hf.h ⟨h1,h2,h3,h4⟩⟩
end
end R
end L2
namespace L2
open PySem PySem.Spec PyProof.Rows
def WS:List (Str × Int):=[("add",1),("take",1),("move",2),("send",2),("fetch",2),("pass",3)]
def UW:List V:=[.str "move",.str "pass"]
def qB (x:V):Bool:=dR x LET 8
def tZ (lo hi:Int) (x:V):Bool:=match x with | .int n=>decide (lo<=n)&&decide (n<=hi) | _=>false
def eG (x:V) (ns:List V):Bool:=match x with
 | .str z=>(match WS.lookup z with
  | some i=>decide ((ns.length:Int)=i)&&ns.all qB&&(!Mb (.str z) UW||!decide (kA ns 0=kA ns 1))
  | none=>false)
 | _=>false
def rP (xs:List V):List V:=gH xs (some 1) (some (-1))
def jJ (xs:List V):Bool:=decide (3<=xs.length)&&eG ((kA xs 0).getD .non) (rP xs)&&tZ 1 1000000000000 ((kA xs (-1)).getD .non)
def Pt (H:Hp) (x:V):Prop:=∃k,Kof H x k/\∀z,x=.str z->z.length<=1000
theorem Pt.same {H H':Hp} {x:V} (s:Same H H') (h:Pt H x):Pt H' x:=let ⟨k,h1,h2⟩:=h;⟨k,h1.same s,h2⟩
def oF (H:Hp) (x:V):Bool:=match x with | .ref a=>(match H a with | some (.tup xs)=>jJ xs | _=>false) | _=>false
def Th (H:Hp) (x:V):Prop:=Pt H x/\∀a xs,x=.ref a->H a=some (.tup xs)->∀y∈xs,Pt H y
def yI:Sp:=fun vs H Q _=>∃x lo hi,vs=[x,.int lo,.int hi]/\Pt H x/\∀H',Same H H'->Q (.bl (tZ lo hi x)) H'
def Fb:Sp:=fun vs H Q _=>∃x a ns,vs=[x,.ref a]/\Pt H x/\H a=some (.tup ns)/\ns.length<=1000/\(∀y∈ns,Pt H y)/\∀H',Same H H'->Q (.bl (eG x ns)) H'
def uA:Sp:=fun vs H Q _=>∃x,vs=[x]/\Th H x/\(∀a xs,x=.ref a->H a=some (.tup xs)->xs.length<=1000)/\∀H',Same H H'->Q (.bl (oF H x)) H'
theorem Ud {z:Str} {i:Int} (h:WS.lookup z=some i) (u:Mb (.str z) UW=true):2<=i:=by
 have e:z="move"∨z="pass":=by
  unfold Mb UW at u;simp only [List.any_cons,List.any_nil,Bool.or_false,Bool.or_eq_true,Ag,beq_iff_eq,decide_eq_true_iff]at u
  rcases u with u | u
  ·exact .inl u.symm
  ·exact .inr u.symm
 rcases e with rfl | rfl
 ·have:WS.lookup ("move":Str)=some 2:=by decide +kernel
  rw[this]at h;injection h with h;omega
 ·have:WS.lookup ("pass":Str)=some 3:=by decide +kernel
  rw[this]at h;injection h with h;omega
theorem yJ {xs:List V} (h:3<=xs.length):rP xs=(xs.drop 1).take (xs.length - 2):=by
 unfold rP gH HT.sIx;simp only [Int.reduceNeg,Int.reduceLT,if_true,if_false]
 have e1:min (Int.toNat 1) xs.length=1:=by
  show min 1 xs.length=1
  omega
 have e2:((-1:Int)+(xs.length:Int)).toNat=xs.length - 1:=by omega
 rw[e2];show((xs.drop (min (Int.toNat 1) xs.length)).take (xs.length - 1 - min (Int.toNat 1) xs.length))=_
 rw[e1];congr 1
theorem Kf {xs:List V} (h:3<=xs.length):(rP xs).length=xs.length - 2:=by
 rw[yJ h,qR,List.length_drop];omega
theorem Kg {xs:List V} {y:V} (h:3<=xs.length) (m:y∈rP xs):y∈xs:=by
 rw[yJ h]at m;exact List.mem_of_mem_drop (List.mem_of_mem_take m)
end L2
namespace L2
open PySem PySem.Spec PyProof.Rows
def Ue:R2:=fun x y H Q=>mR x fun l=>mR y fun b=>∃xs zs,H l=some (.lst xs)/\H b=some (.lst zs)/\xs.length+zs.length<=sizeLine/\∀p,H p=none->Q (.ref p) (aI H p (.lst (xs++zs)))
theorem R.cm {X:Cx}:iA X (binaryOp .Add) Ue:=⟨Pd.imp fun x y H Q h=>by
 unfold Ue at h;rw[cJ]at h;obtain⟨a,rfl,h⟩:=h
 rw[cJ]at h;obtain⟨b,rfl,xs,zs,h⟩:=h
 exact⟨a,b,xs,zs,rfl,rfl,h⟩⟩
end L2
namespace L2
open PySem PySem.Spec PyProof.Rows
inductive DeedIs:List V->Prop
 | one (z a:Str) (n:Int):(z="add"∨z="take")->isNm a->1<=n->n<=1000000000000->DeedIs [.str z,.str a,.int n]
 | two (z a b:Str) (n:Int):(z="move"∨z="send"∨z="fetch")->isNm a->isNm b->a≠b->1<=n->n<=1000000000000->DeedIs [.str z,.str a,.str b,.int n]
 | three (a b c:Str) (n:Int):isNm a->isNm b->isNm c->a≠b->1<=n->n<=1000000000000->DeedIs [.str "pass",.str a,.str b,.str c,.int n]
theorem fM {z:Str} (h:isNm z):qB (.str z)=true:=by
 unfold qB;rw[fL,decide_eq_true (by have:=h.1;omega),decide_eq_true (by have:=h.2.1;omega),List.all_eq_true.mpr fun c hc=>decide_eq_true (h.2.2 c hc)]
 rfl
theorem DeedIs.ok {xs:List V} (h:DeedIs xs):jJ xs=true:=by
 cases h with
 | one z a n hz ha h1 h2=>
  show(eG (.str z) [.str a]&&tZ 1 1000000000000 (.int n))=true
  have e:eG (.str z) [.str a]=true:=by
   rcases hz with rfl | rfl
   ·show(true&&(qB (.str a)&&true)&&_)=true
    rw[fM ha];rfl
   ·show(true&&(qB (.str a)&&true)&&_)=true
    rw[fM ha];rfl
  rw[e];show(decide (1<=n)&&decide (n<=1000000000000))=true
  rw[decide_eq_true h1,decide_eq_true h2];rfl
 | two z a b n hz ha hb hn h1 h2=>
  show(eG (.str z) [.str a,.str b]&&tZ 1 1000000000000 (.int n))=true
  have ne:decide (some (V.str a)=some (V.str b))=false:=decide_eq_false fun e=>hn (by injection e with e;injection e)
  have e:eG (.str z) [.str a,.str b]=true:=by
   rcases hz with rfl | rfl | rfl
   all_goals
    show(true&&(qB (.str a)&&(qB (.str b)&&true))&&(_||!decide (some (V.str a)=some (V.str b))))=true
    rw[fM ha,fM hb,ne,Bool.not_false,Bool.or_true];rfl
  rw[e];show(decide (1<=n)&&decide (n<=1000000000000))=true
  rw[decide_eq_true h1,decide_eq_true h2];rfl
 | three a b c n ha hb hc hn h1 h2=>
  show(eG (.str "pass") [.str a,.str b,.str c]&&tZ 1 1000000000000 (.int n))=true
  have ne:decide (some (V.str a)=some (V.str b))=false:=decide_eq_false fun e=>hn (by injection e with e;injection e)
  have e:eG (.str "pass") [.str a,.str b,.str c]=true:=by
   show(true&&(qB (.str a)&&(qB (.str b)&&(qB (.str c)&&true)))&&(_||!decide (some (V.str a)=some (V.str b))))=true
   rw[fM ha,fM hb,fM hc,ne,Bool.not_false,Bool.or_true];rfl
  rw[e];show(decide (1<=n)&&decide (n<=1000000000000))=true
  rw[decide_eq_true h1,decide_eq_true h2];rfl
theorem isNm.len {z:Str} (h:isNm z):z.length<=1000:=iE h.2.1 Zd
theorem Fc:("add":Str).length<=1000/\("take":Str).length<=1000/\("move":Str).length<=1000/\("send":Str).length<=1000/\("fetch":Str).length<=1000/\("pass":Str).length<=1000:=by decide +kernel
end L2
namespace L2
open PySem PySem.Spec PyProof.Rows
inductive TV where
 | sc (v:V)
 | tp (xs:List TV)
 | ls (xs:List TV)
def jQ:V->Bool | .non=>true | .bl _=>true | .int _=>true | .str _=>true | _=>false
def vI (H:Hp):Nat->TV->V->Prop
 | 0,.sc v,x=>x=v/\jQ v=true
 | _+1,.sc v,x=>x=v/\jQ v=true
 | n+1,.tp ts,x=>∃a xs,x=.ref a/\H a=some (.tup xs)/\Paired (vI H n) ts xs
 | n+1,.ls ts,x=>∃a xs,x=.ref a/\H a=some (.lst xs)/\Paired (vI H n) ts xs
 | 0,_,_=>False
theorem Paired.map' {α β:Type} {R S:α->β->Prop} (f:∀a b,R a b->S a b) {xs:List α} {ys:List β} (h:Paired R xs ys):Paired S xs ys:=by
 induction h with
 | nil=>exact .nil
 | cons h t ih=>exact .cons (f _ _ h) ih
theorem Paired.get' {α β:Type} {R:α->β->Prop}:∀ {xs:List α} {ys:List β} {j:Nat},Paired R xs ys->∀(h:j<ys.length),∃h':j<xs.length,R xs[j] ys[j]
 | _,_,0,.cons h t,_=>⟨Nat.succ_pos _,h⟩
 | _,_,j+1,.cons h t,hj=>let ⟨h',r⟩:=Paired.get' (j:=j) t (by simpa using hj);⟨by simpa using h',by simpa using r⟩
section
variable {X:Cx} {pins:List (Addr × Obj)} {s:Shared} {σ:St} {H:Hp}
theorem Kh (B:Around):B.in1.units=B.units+1:=rfl
theorem iN (n:Nat):(List.range n).all (fun _=>true)=true:=List.all_eq_true.mpr fun _ _=>rfl
theorem Fd (I:Inv X pins σ H s):∀(n:Nat) {t:TV} {x y:V} {v u:Value} {A:Around},vI H n t x->vI H n t y->RelV x v->RelV y u->A.units+n<cLine->SeqAt.EqAt A s v u true:=by
 have sc:∀ {v:V} {x y:V} {v1 u1:Value} {A:Around},(x=v/\jQ v=true)->(y=v/\jQ v=true)->RelV x v1->RelV y u1->SeqAt.EqAt A s v1 u1 true:=by
  rintro v x y v1 u1 A ⟨rfl,hx⟩ ⟨rfl,_⟩ r1 r2
  cases y with
  | non=>cases r1;cases r2;exact SeqAt.EqAt.same _
  | bl i=>cases r1;cases r2;exact SeqAt.EqAt.same _
  | int i=>
   obtain⟨t1,rfl⟩:=r1
   obtain⟨t2,rfl⟩:=r2
   have:=SeqAt.EqAt.int_int (A:=A) (s:=s) i t1 i t2
   rwa [beq_self_eq_true]at this
  | str i=>
   obtain⟨t1,rfl⟩:=r1
   obtain⟨t2,rfl⟩:=r2
   have:=SeqAt.EqAt.str_str (A:=A) (s:=s) i t1 i t2
   rwa [beq_self_eq_true]at this
  | _=>cases hx
 intro n;induction n with
 | zero=>
  intro t x y v u A h1 h2 r1 r2 hu;cases t with
  | sc z=>exact sc h1 h2 r1 r2
  | _=>exact h1.elim
 | succ n ih=>
  intro t x y v u A h1 h2 r1 r2 hu;cases t with
  | sc z=>exact sc h1 h2 r1 r2
  | tp ts=>
   obtain⟨a,xs,rfl,g1,p1⟩:=h1
   obtain⟨b,ys,rfl,g2,p2⟩:=h2
   cases r1
   cases r2
   by_cases hab:a=b
   ·subst hab;exact SeqAt.EqAt.same _
   ·obtain⟨its,ri,ti,_⟩:=I.tuple (SqT.of g1)
    obtain⟨its2,ri2,ti2,_⟩:=I.tuple (SqT.of g2)
    have el1:its.length=ts.length:=by rw[<- ri.length,p1.length]
    have el2:its2.length=ts.length:=by rw[<- ri2.length,p2.length]
    have key:=SeqAt.RcAt.tuples (A:=A) (s:=s) (e:=fun _=>true) ti ti2 Zo (fun j h1 h2=>by
     rw[eC]at h1 h2;obtain⟨h1',q1⟩:=Paired.get' (j:=j) ri h1
     obtain⟨h2',q2⟩:=Paired.get' (j:=j) ri2 h2
     obtain⟨h3,q3⟩:=Paired.get' (j:=j) p1 h1'
     obtain⟨h4,q4⟩:=Paired.get' (j:=j) p2 h2'
     simpa using ih q3 q4 q1 q2 (by rw[Kh];omega))
    have e:((List.range (min its.toArray.size its2.toArray.size)).all (fun _=>true)&&its.toArray.size == its2.toArray.size)=true:=by
     rw[iN,eC,eC,el1,el2,beq_self_eq_true];rfl
    rw[e]at key;exact SeqAt.EqAt.of_refs hab key
  | ls ts=>
   obtain⟨a,xs,rfl,g1,p1⟩:=h1
   obtain⟨b,ys,rfl,g2,p2⟩:=h2
   cases r1
   cases r2
   by_cases hab:a=b
   ·subst hab;exact SeqAt.EqAt.same _
   ·obtain⟨its,ri,ti,_⟩:=I.list (SqL.of g1)
    obtain⟨its2,ri2,ti2,_⟩:=I.list (SqL.of g2)
    have el1:its.length=ts.length:=by rw[<- ri.length,p1.length]
    have el2:its2.length=ts.length:=by rw[<- ri2.length,p2.length]
    have key:=SeqAt.RcAt.lists (A:=A) (s:=s) (e:=fun _=>true) ti.isList ti2.isList (by rw[eC,eC,el1,el2]) Zo (fun j h1 h2=>by
     rw[eC]at h1 h2;obtain⟨h1',q1⟩:=Paired.get' (j:=j) ri h1
     obtain⟨h2',q2⟩:=Paired.get' (j:=j) ri2 h2
     obtain⟨h3,q3⟩:=Paired.get' (j:=j) p1 h1'
     obtain⟨h4,q4⟩:=Paired.get' (j:=j) p2 h2'
     simpa using ih q3 q4 q1 q2 (by rw[Kh];omega))
    rw[iN]at key;exact SeqAt.EqAt.of_refs hab key
end
section
variable {X:Cx}
def Uf (neg:Bool):R2:=fun x y H Q=>∃n t,n<=50/\vI H n t x/\vI H n t y/\Q (.bl (!neg)) H
theorem Ki (neg:Bool) {pins:List (Addr × Obj)} {s:Shared} {σ:St} {H:Hp} {x y:V} {v u:Value} {Q:VK} {op:CmpOp} (hop:op=if neg then .NotEq else .Eq) (hu:X.A.units+64<cLine) (I:Inv X pins σ H s) (rx:RelV x v) (ry:RelV y u) (h:Uf neg x y H Q) :
  wpAny (model X.prog X.w) X.A (compareOp op v u) (EP X pins σ Q) X.xe s:=by
 obtain⟨n,t,hn,h1,h2,q⟩:=h
 have sc:∀z,t=.sc z->wpAny (model X.prog X.w) X.A (compareOp op v u) (EP X pins σ Q) X.xe s:=by
  rintro z rfl
  have e1:x=z/\jQ z=true:=by cases n <;> exact h1
  have e2:y=z/\jQ z=true:=by cases n <;> exact h2
  obtain⟨rfl,hx⟩:=e1
  obtain⟨rfl,_⟩:=e2
  have hs:L2.scal y y=true:=by cases y <;> first | rfl | cases hx
  cases neg with
  | true=>
   subst hop;exact Lz pins s σ H y y v u Q I rx ry ⟨hs,by simpa using q⟩
  | false=>
   subst hop;exact Ly pins s σ H y y v u Q I rx ry ⟨hs,by simpa using q⟩
 cases n with
 | zero=>
  cases t with
  | sc z=>exact sc z rfl
  | _=>exact h1.elim
 | succ n=>
  cases t with
  | sc z=>exact sc z rfl
  | tp ts=>
   obtain⟨a,xs,rfl,g1,p1⟩:=h1
   obtain⟨b,ys,rfl,g2,p2⟩:=h2
   cases rx
   cases ry
   obtain⟨its,ri,ti,_⟩:=I.tuple (SqT.of g1)
   obtain⟨its2,ri2,ti2,_⟩:=I.tuple (SqT.of g2)
   have el1:its.length=ts.length:=by rw[<- ri.length,p1.length]
   have el2:its2.length=ts.length:=by rw[<- ri2.length,p2.length]
   have each:∀j (h1:j<its.toArray.size) (h2:j<its2.toArray.size),SeqAt.EqAt X.A.in1 s its.toArray[j] its2.toArray[j] true:=fun j h1 h2=>by
    rw[eC]at h1 h2;obtain⟨h1',q1⟩:=Paired.get' (j:=j) ri h1
    obtain⟨h2',q2⟩:=Paired.get' (j:=j) ri2 h2
    obtain⟨h3,q3⟩:=Paired.get' (j:=j) p1 h1'
    obtain⟨h4,q4⟩:=Paired.get' (j:=j) p2 h2'
    simpa using Fd I n q3 q4 q1 q2 (by rw[Kh];omega)
   have e:((List.range (min its.toArray.size its2.toArray.size)).all (fun _=>true)&&its.toArray.size == its2.toArray.size)=true:=by
    rw[iN,eC,eC,el1,el2,beq_self_eq_true];rfl
   cases neg with
   | true=>
    subst hop;have key:=SeqAt.RcNeAt.tuples (A:=X.A) (s:=s) (e:=fun _=>true) ti ti2 Zo each
    rw[e]at key;exact key _ _ _ _ ⟨.bl false,H,I,rfl,q⟩
   | false=>
    subst hop;have key:=SeqAt.RcAt.tuples (A:=X.A) (s:=s) (e:=fun _=>true) ti ti2 Zo each
    rw[e]at key;exact key _ _ _ _ ⟨.bl true,H,I,rfl,q⟩
  | ls ts=>
   obtain⟨a,xs,rfl,g1,p1⟩:=h1
   obtain⟨b,ys,rfl,g2,p2⟩:=h2
   cases rx
   cases ry
   obtain⟨its,ri,ti,_⟩:=I.list (SqL.of g1)
   obtain⟨its2,ri2,ti2,_⟩:=I.list (SqL.of g2)
   have el1:its.length=ts.length:=by rw[<- ri.length,p1.length]
   have el2:its2.length=ts.length:=by rw[<- ri2.length,p2.length]
   have each:∀j (h1:j<its.toArray.size) (h2:j<its2.toArray.size),SeqAt.EqAt X.A.in1 s its.toArray[j] its2.toArray[j] true:=fun j h1 h2=>by
    rw[eC]at h1 h2;obtain⟨h1',q1⟩:=Paired.get' (j:=j) ri h1
    obtain⟨h2',q2⟩:=Paired.get' (j:=j) ri2 h2
    obtain⟨h3,q3⟩:=Paired.get' (j:=j) p1 h1'
    obtain⟨h4,q4⟩:=Paired.get' (j:=j) p2 h2'
    simpa using Fd I n q3 q4 q1 q2 (by rw[Kh];omega)
   cases neg with
   | true=>
    subst hop;have key:=SeqAt.RcNeAt.lists (A:=X.A) (s:=s) (e:=fun _=>true) ti.isList ti2.isList (by rw[eC,eC,el1,el2]) Zo each
    rw[iN]at key;exact key _ _ _ _ ⟨.bl false,H,I,rfl,q⟩
   | false=>
    subst hop;have key:=SeqAt.RcAt.lists (A:=X.A) (s:=s) (e:=fun _=>true) ti.isList ti2.isList (by rw[eC,eC,el1,el2]) Zo each
    rw[iN]at key;exact key _ _ _ _ ⟨.bl true,H,I,rfl,q⟩
theorem R.cq (hu:X.A.units+64<cLine):iA X (compareOp .NotEq) (Uf true):=⟨fun pins s σ H x y v u Q I rx ry h=>Ki true rfl hu I rx ry h⟩
theorem R.bc {st:Stmt}:XS X st (fun _ _ _=>False):=⟨fun pins s σ H D I h=>h.elim⟩
end
end L2
namespace L2
open PySem PySem.Spec PyProof.Rows PySem.Builtin PySem.Builtin.Str
theorem yK:∀l:List (Str × Tok),Vals ((l.map (·.1)).map V.str) (strValues l)
 | []=>.nil
 | p::l=>.cons ⟨p.2,rfl⟩ (yK l)
section
variable {X:Cx}
def wJ:V->List V->Hp->VK->Prop:=fun x vs H Q=>mS x fun z=>match vs with
 | [.str y]=>(y.length == 0)=false/\z.length<=1000/\∀l,H l=none->Q (.ref l) (aI H l (.lst ((Txt.split z y).map V.str)))
 | _=>False
theorem Fe:Oz X "str.split" wJ:=by
 intro pins s σ H x vs v us Q I rx rv h;unfold wJ at h;rw[kJ]at h;obtain⟨z,rfl,h⟩:=h
 split at h
 ·rename_i y
  obtain⟨hy,hz,q⟩:=h
  obtain⟨t,rfl⟩:=rx
  obtain⟨uu,rfl,u,rfl⟩:=rv.one
  have fin:∀(l:List (Str × Tok)) (k:Nat),l.map (·.1)=Txt.split z y->EP X pins σ Q (.ref s.heap.objs.size) {s with heap:=s.heap.push {cls:=.type "list",data:=.seq (strValues l).toArray },toks:=k }:=fun l k e=>by
   refine⟨.ref s.heap.objs.size,_,I.laid (t':=k) (o:=.lst ((Txt.split z y).map V.str)) (fun b ob q=>iH _ q) (cB _) ?_,rfl,q _ (I.hok.fresh (cB _))⟩
   refine⟨?_,strValues l,0,by rw[<- e];exact yK l,Heap.get?_push_size _ rfl⟩
   rw[dN];have:=split_le z y
   exact iE this (iE (show z.length+2<=1002 by omega) Zd)
  have hsz:z.length<=sizeLine:=gA hz
  have hsz2:(partsBetween z (occurrences z y 0 z.length (z.length+1)) y.length).length<=sizeLine:=by
   rw[length_partsBetween];have:=StrLaws.occ_length_le z y 0 z.length (z.length+1)
   exact iE (show _<=1002 by omega) Zd
  cases h1:(decide (z.length<y.length)||decide (strKind z<strKind y))
  ·cases hf:(occurrences z y 0 z.length (z.length+1)).isEmpty
   ·refine call_meets F.slot_str_split (typeIs_str _ _ _) F.entry_str_split (F.args_str_split_2 _ _) (meets_str_split_sep z y t u h1 hy hf hsz hsz2) ?_
    show wants (EP X pins σ Q) X.xe _ {s with toks:=_,heap:=s.heap.push {cls:=.type "list",data:=.seq (strsFrom s.toks (partsBetween z (occurrences z y 0 z.length (z.length+1)) y.length)).toArray } }
    rw[strsFrom_eq];exact fin (numbered s.toks _) _ ((numbered_texts _ _).trans ((if_neg (ne_true_of_eq_false h1)).trans (if_neg (ne_true_of_eq_false hf))).symm)
   ·exact call_meets F.slot_str_split (typeIs_str _ _ _) F.entry_str_split (F.args_str_split_2 _ _) (meets_str_split_not_found z y t u h1 hy hf)
     (fin [(z,t)] s.toks ((if_neg (ne_true_of_eq_false h1)).trans (if_pos hf)).symm)
  ·exact call_meets F.slot_str_split (typeIs_str _ _ _) F.entry_str_split (F.args_str_split_2 _ _) (meets_str_split_cannot_occur z y t u h1)
    (fin [(z,t)] s.toks (if_pos h1).symm)
 ·exact h.elim
theorem R.fc:XM X "str.split" wJ:=⟨Fe⟩
end
end L2
namespace L2
open PySem PySem.Spec PyProof.Rows
theorem Qm (a b:Str):ltCps b.cps.toList a.cps.toList=false↔a.cps.toList<=b.cps.toList:=by
 rw[ltCps_eq,decide_eq_false_iff_not];exact Iff.rfl
theorem Ff {a b:Str} (h:a.cps.toList=b.cps.toList):a=b:=by rw[tX a,tX b,h]
theorem gD:∀(l:List Str) (p:Str),risingS p l=true->(p::l).Pairwise (fun a b=>a.cps.toList<=b.cps.toList)
 | [],p,_=>List.pairwise_singleton _ _
 | x::r,p,h=>by
  unfold risingS at h;rw[Bool.and_eq_true]at h;obtain⟨h1,h2⟩:=h
  have ih:=gD r x h2
  have hpx:p.cps.toList<=x.cps.toList:=(Qm p x).mp (by simpa using h1)
  refine List.pairwise_cons.mpr ⟨fun y hy=>?_,ih⟩
  rcases List.mem_cons.mp hy with rfl | hy
  ·exact hpx
  ·exact List.le_trans hpx ((List.pairwise_cons.mp ih).1 y hy)
theorem lC:∀(l:List Str),sortedS l=true->l.Pairwise (fun a b=>a.cps.toList<=b.cps.toList)
 | [],_=>List.Pairwise.nil
 | x::r,h=>gD r x h
theorem lU:∀(l m:List Str),l.Perm m->l.Pairwise (fun a b=>a.cps.toList<=b.cps.toList)->m.Pairwise (fun a b=>a.cps.toList<=b.cps.toList)->l=m
 | [],m,hp,_,_=>(List.nil_perm.mp hp).symm
 | a::l,[],hp,_,_=>(List.perm_nil.mp hp)
 | a::l,b::m,hp,h1,h2=>by
  obtain⟨p1,p2⟩:=List.pairwise_cons.mp h1
  obtain⟨q1,q2⟩:=List.pairwise_cons.mp h2
  have e:a=b:=by
   have ma:a∈b::m:=hp.mem_iff.mp nC
   have mb:b∈a::l:=hp.mem_iff.mpr nC
   rcases List.mem_cons.mp ma with h | h
   ·exact h
   ·rcases List.mem_cons.mp mb with h' | h'
    ·exact h'.symm
    ·exact Ff (List.le_antisymm (p1 b h') (q1 a h))
  subst e;rw[lU l m (List.Perm.cons_inv hp) p2 q2]
def uB (ss:List Str):List Str:=ss.mergeSort (fun a b=>decide (a.cps.toList<=b.cps.toList))
theorem oG (ss:List Str):(uB ss).Perm ss:=List.mergeSort_perm _ _
theorem wK (ss:List Str):(uB ss).Pairwise (fun a b=>a.cps.toList<=b.cps.toList):=by
 have:=List.pairwise_mergeSort (le:=fun(a b:Str)=>decide (a.cps.toList<=b.cps.toList)) (fun a b c h1 h2=>decide_eq_true (List.le_trans (of_decide_eq_true h1) (of_decide_eq_true h2))) (fun a b=>by
  rcases List.le_total a.cps.toList b.cps.toList with h | h
  ·simp [h]
  ·simp [h]) ss
 exact this.imp fun h=>of_decide_eq_true h
theorem Qn {ss ss':List Str} (hp:ss'.Perm ss) (hs:sortedS ss'=true):ss'=uB ss:=
 lU _ _ (hp.trans (oG ss).symm) (lC _ hs) (wK ss)
theorem rQ (ss:List Str):(uB ss).length=ss.length:=(oG ss).length_eq
theorem qC:∀ {vs:List Value} {ss:List Str},StrsAre vs ss->Vals (ss.map V.str) vs
 | _,_,.nil=>.nil
 | _,_,.cons x t h=>.cons ⟨t,rfl⟩ (qC h)
end L2
namespace L2
open PySem PySem.Spec PyProof.Rows
def TK (H H':Hp):Prop:=∀a xs,H a=some (.tup xs)->H' a=some (.tup xs)
theorem TK.trans {H H1 H2:Hp} (a:TK H H1) (b:TK H1 H2):TK H H2:=fun p xs h=>b p xs (a p xs h)
def RepT (H:Hp):Nat->TV->V->Prop
 | 0,.sc v,x=>x=v/\jQ v=true
 | _+1,.sc v,x=>x=v/\jQ v=true
 | n+1,.tp ts,x=>∃a xs,x=.ref a/\H a=some (.tup xs)/\Paired (RepT H n) ts xs
 | _,_,_=>False
theorem RepT.scal {H:Hp} {n:Nat} {v:V} (h:jQ v=true):RepT H n (.sc v) v:=by
 cases n <;> exact⟨rfl,h⟩
theorem RepT.s {H:Hp} {n:Nat} {z:Str}:RepT H n (.sc (.str z)) (.str z):=.scal rfl
theorem RepT.i {H:Hp} {n:Nat} {z:Int}:RepT H n (.sc (.int z)) (.int z):=.scal rfl
section
variable {X:Cx} {es:List Expr} {t:TA} {pos:Pos}
def Mi (t:TA):TE:=fun σ H Q=>t σ H fun xs H1=>xs.length<=1000/\∀p H',Same H1 H'->H' p=some (.tup xs)->Q (.ref p) H'
theorem Kj {x1} (h:PA X es t):PE X (.Tuple es x1 pos) (Mi t):=by
 intro pins s σ H Q I hq;refine wpAny_Tuple_spliced (bG (h pos pins s σ H _ I hq) fun us s1 ⟨xs,H1,I1,r,z,q⟩=>⟨by rw[<- r.length];exact gA z,?_⟩)
 have hf:H1 s1.heap.objs.size=none:=I1.hok.fresh (cB _)
 refine⟨.ref s1.heap.objs.size,aI H1 s1.heap.objs.size (.tup xs),I1.laid (t':=s1.toks) (fun b u e=>iH _ e) (cB _) ?_,rfl,q _ _ (aF hf) aB⟩
 exact⟨gA z,us,r,⟨_,Heap.get?_push_size _ rfl,rfl,_,rfl⟩⟩
theorem R.ap {x1} (h:XA X es t):XE X (.Tuple es x1 pos) (Mi t):=⟨Kj h.h⟩
end
end L2
namespace L2
open PySem PySem.Spec PyProof.Rows
abbrev Z:=Addr × Str × Int
def Xe (x y:Z):Prop:=x.2.1.cps.toList<=y.2.1.cps.toList
def ZAt (H:Hp) (zs:List Z):Prop:=∀z∈zs,H z.1=some (.tup [.str z.2.1,.int z.2.2])
theorem ZAt.same {H H':Hp} {zs:List Z} (h:ZAt H zs) (s:Same H H'):ZAt H' zs:=fun z hz=>s _ _ (h z hz)
def dO (zs:List Z):List V:=zs.map fun z=>V.ref z.1
section
variable {X:Cx} {pins:List (Addr × Obj)} {σ:St} {H:Hp} {s:Shared}
theorem lD:∀ {xs:List V} {vs:List Value} (i:Nat),Vals xs vs->i<xs.length->∀x,xs[i]?=some x->RelV x (vs.getD i Value.none)
 | x::xs,v::vs,0,.cons r rs,_,y,hy=>by
  cases hy
  exact r
 | x::xs,v::vs,i+1,.cons r rs,hi,y,hy=>by
  have:=lD i rs (by simpa using hi) y (by simpa using hy)
  simpa using this
def Ug (K:W.Frag):List V->Hp->VK->Prop:=fun vs H Q=>match vs with
 | [.ref a]=>∃zs:List Z,SqL K H a (dO zs)/\ZAt H zs/\(zs.map (·.2.1)).Nodup/\zs.length<64/\∀l zs',H l=none->zs'.Perm zs->zs'.Pairwise Xe->Q (.ref l) (aI H l (.lst (dO zs')))
 | _=>False
end
theorem oH:∀ {ks:List Str} {vs:List Value},vs.length=ks.length->(∀(i:Nat) (v:Value),vs[i]?=some v->∃x t,ks[i]?=some x/\v=Value.str x t)->StrsAre vs ks
 | [],[],_,_=>.nil
 | k::ks,v::vs,hl,h=>by
  obtain⟨x,t,e1,rfl⟩:=h 0 v rfl
  cases e1
  exact .cons k t (oH (by simpa using hl) fun i v hv=>by simpa using h (i+1) v (by simpa using hv))
section
variable {prog:Program} {w:World} {A:Around} {E:Value->Shared->Prop} {s:Shared}
theorem uC {d:Addr} {ss:List Str} {kvs:List (bE × Value)} {Q:Value->Shared->Prop} (hh:A.handled=none) (lo:(d == sysModules)=false) (hd:s.heap.DictOf (aQ prog w) d kvs) (hk:kvs.map (·.1)=ss.map Sum.inr) (h64:ss.length<64)
  (h:∀(h1 h':Heap) (tk:Nat) (out:Array Value) (e:Nat),(∀b ob,s.heap.get? b=some ob->h1.get? b=some ob)->(∀b ob,h1.get? b=some ob->h'.get? b=some ob)->h'.get? h1.objs.size=some (seqObj "list" out e)->StrsAre out.toList (uB ss)->Q (.ref h1.objs.size) {s with heap:=h',toks:=tk }) :
  wpAny (model prog w) A (call (.builtin "sorted") [.ref d]) Q E s:=by
 have hl:kvs.length=ss.length:=by simpa using congrArg List.length hk
 obtain⟨ep,hm⟩:=hd.dictAt
 apply Calls.call_function_entry kind_sorted plain_sorted entry_sorted (args_sorted1 _)
 unfold Builtin.«sorted»
 apply wpAny_bind (m:=checkCount "sorted" 1 1 _)
 apply wpAny_pure
 apply wpAny_bind
 refine W.kdu_collect (W.kdl_dict lo) hh hm (by rw[hl];exact iE (Nat.le_of_lt h64) Zd) fun h1 tk acc k1 hacc=>?_
 have hS:StrsAre acc.toList ss:=oH (by rw[Array.length_toList,hacc.1,hl]) fun i v hv=>by
  obtain⟨k,x,e1,e2⟩:=hacc.2 i v (by simpa using hv)
  have e3:(kvs.map (·.1))[i]?=some k:=by rw[iU,e1];rfl
  rw[hk,iU]at e3;cases e4:ss[i]? with
  | none=>rw[e4]at e3;cases e3
  | some y=>
   rw[e4]at e3;cases e3
   rcases bB (show jX (Sum.inr y) v=true from e2) with⟨_,_,e,_⟩ | ⟨z,t,e,ev⟩
   ·cases e
   ·cases e
    exact⟨_,t,rfl,ev⟩
 generalize acc.toList=vs at hS;have hvl:vs.length<64:=by rw[hS.length];exact h64
 apply wpAny_bind
 apply wpAny_newList
 ·have g2:(h1.push (seqObj "list" vs.toArray 0)).get? h1.objs.size=some (seqObj "list" vs.toArray 0):=Heap.get?_push_size _ rfl
  apply wpAny_bind
  apply wpAny_holding
  refine wpAny_call_entry slot_list_sort ⟨_,g2,rfl⟩ entry_list_sort (list_sort_treeK (s:={s with heap:=h1.push (seqObj "list" vs.toArray 0),toks:=tk }) strKind_oneLt g2 hS.keysOf (fun v₁ v₂ rest e=>keyKind_strs (by rw[<- e];exact hS)) hvl fun st' hp hs=>⟨_,rfl,wpAny_pure ⟨_,rfl,?_⟩⟩) (args_list_sort _)
  obtain⟨ss',q1,q2,q3⟩:=sorted_out_str hS hp hs
  obtain⟨e,he⟩:=sortedHeap_at (out:=(arrOf st').map (·.2)) g2
  refine h h1 _ _ _ e k1 (fun b ob hb1=>?_) he (Qn q2 q3 ▸ q1)
  have hlt:=Heap.lt_size hb1
  rw[sortedHeap_old (Nat.ne_of_lt hlt) (by rw[size_push'];exact Nat.lt_succ_of_lt hlt)]
  exact iH _ hb1
 ·exact iE (Nat.le_of_lt hvl) Zd
end
section
variable {X:Cx}
def oI:List V->Hp->VK->Prop:=fun vs H Q=>match vs with
 | [.ref a]=>∃(ss:List Str) (kvs:List (bE × V)),Rd H a (.dK kvs)/\kvs.map (·.1)=ss.map Sum.inr/\ss.length<64/\∀l,H l=none->Q (.ref l) (aI H l (.lst ((uB ss).map V.str)))
 | _=>False
theorem Av (hcm:X.calm=true):CallR X (.builtin "sorted") oI:=by
 intro pins s σ H xs us Q I r h;unfold oI at h;split at h
 ·rename_i a
  obtain⟨ss,kvs,hq,hk,h64,q⟩:=h
  obtain⟨u,rfl,ru⟩:=hZ r
  cases ru
  obtain⟨_,hd,vs,rel,dd⟩:=kF I.hok hq
  refine uC (I.ok.hd hcm) hd dd (by rw[<- rel.keys];exact hk) h64 fun h1 h' tk out e k1 k he hS=>?_
  have I1:=I.kept (t':=s.toks) k1
  refine⟨.ref h1.objs.size,_,I1.laid (t':=tk) (o:=.lst ((uB ss).map V.str)) k (cB _) ⟨?_,out.toList,e,qC hS,he⟩,rfl,q _ (I1.hok.fresh (cB _))⟩
  rw[dN,rQ];exact iE (Nat.le_of_lt h64) Zd
 ·exact h.elim
theorem R.fe (hcm:X.calm=true):XC X (.builtin "sorted") oI:=⟨Av hcm⟩
end
end L2
namespace L2
open PySem PySem.Spec PyProof.Rows
theorem rR:typeLookup (.type "list") "keys"=pure none:=am_miss_of_fast (by kernel_rfl)
theorem iY:plainId "dict.update.loop"=true:=by decide +kernel
theorem qD:entryFor table "dict.update.loop"=some Builtin.«dict.update.loop»:=entryFor_of_tree (by kernel_rfl)
section
variable {prog:Program} {w:World} {A:Around} {E:Value->Shared->Prop} {s:Shared}
theorem Kk {a:Addr} {o:Obj} {xs:Array Value} {k:Nat} {Q:Option Value->Shared->Prop} (hx:s.heap.get? a=some o) (hc:o.cls=.type "list") (hdat:o.data=.seq xs k) (hd:o.dict=none) (hA:A.handled=none)
  (h:∀h' tk,(∀b ob,s.heap.get? b=some ob->h'.get? b=some ob)->Q none {s with heap:=h',toks:=tk }):wpAny (model prog w) A (getAttr? (.ref a) "keys") Q E s:=by
 obtain⟨c,dct,dat,sl⟩:=o
 simp only at hc hdat hd
 subst hc hdat hd;obtain⟨hp,g,d,tk,os⟩:=s
 have hT:∀tk',(⟨hp,g,d,tk',os⟩:Shared).TypeIs (.ref a) "list":=fun _=>⟨_,hx,rfl⟩
 have f1:=sub_AttributeError
 have f3:=F.slot_list_getattribute.lookup
 have f4:=F.slot_list_getattribute.bind (.ref a)
 have f5:=am_list_getattr_none
 have f6:=rR
 unfold getAttr? getAttrBy? getAttrBy
 repeat (any_goals (first | assumption | exact hT _ | ((with_reducible show wpAny _ _ (call (Value.builtin "list.__getattribute__") _ _) _ _ _);refine call_meets F.slot_list_getattribute (hT _) am_entry_list_getattribute (F.args_list_getattribute_2 _ _) (meets_getattribute_miss_list a xs k sl "keys" _ f6 Zk) ⟨hx,hA,fun h' tk' e hx'=>?_⟩) | wp_step))
 obtain⟨t',u',he⟩:=hx'.there
 show wpAny _ _ (getattributeRaised _ _ _ _ _ _ _) _ _ _
 unfold getattributeRaised;repeat (any_goals (first | assumption | wp_step))
 exact h _ _ hx'.keeps
def Mj (h:Heap) (v:Value) (q:bE × V):Prop:=∃a u x,v=Value.ref a/\IsTup h a #[u,x]/\RelV (kV q.1) u/\RelV q.2 x
theorem Fg (hh:A.handled=none) {I l d:Addr} {its:List Value} {qs:List (bE × V)} {R:Result->Shared->Prop} {res:Value} (hIl:I≠l) (hId:I≠d) (hld:l≠d) :
  ∀(k i:Nat) (s:Shared) (kvs:List (bE × V)) (vs:List (bE × Value)) (z:Int),its.length - i=k->i<=its.length->qs.length=its.length->s.heap.IsListIter I l i->s.heap.IsList l its.toArray->(∀(j:Nat) (v:Value) (q:bE × V),its[j]?=some v->qs[j]?=some q->Mj s.heap v q) →
  (∀(j:Nat) (v:Value) (a:Addr),its[j]?=some v->v=Value.ref a->a≠I/\a≠d)->s.heap.DictOf (aQ prog w) d vs->KV kvs vs->kvs.length+k<=1000 →
  (∀h' tk vs',(∀b ob,b≠I->b≠d->s.heap.get? b=some ob->h'.get? b=some ob)->h'.DictOf (aQ prog w) d vs'->KV (dB kvs (qs.drop i)) vs'->R (.ok (.ret res)) {s with heap:=h',toks:=tk }) →
  codeAny (model prog w) A (.builtin "dict.update.loop" ⟨[.ref d,.ref I,.int z 0,res],[]⟩) R s:=by
 intro k;induction k with
 | zero=>
  intro i s kvs vs z hk hi hql hit hl hp hne hd rel hz hR;obtain rfl:i=its.length:=by omega
  refine codeAny_builtin qD ?_
  rw[Around.under_plainId iY _];show wpAny _ A.in1 (pyNext (.ref I) >>= _) _ _ s
  apply wpAny_bind
  refine wpAny_pyNext_list_end hh hit hl Zs fun h' eb=>?_
  show wpAny _ A.in1 (Builtin.Dict.addKeywords d [] >>= _) _ _ _
  apply wpAny_bind
  apply wpAny_pure
  apply wpAny_pure
  refine hR h' s.toks vs (fun b ob hb _ e=>eb b ob hb e) (hd.extBut eb hId.symm) ?_
  rw[<- hql,List.drop_length];exact rel
 | succ k ih=>
  intro i s kvs vs z hk hi hql hit hl hp hne hd rel hz hR;have hlt:i<its.length:=by omega
  obtain⟨v,hv⟩:∃v,its[i]?=some v:=⟨its[i],by simp [hlt]⟩
  obtain⟨q,hq⟩:∃q,qs[i]?=some q:=⟨qs[i],by simp [hql,hlt]⟩
  obtain⟨a,u,x,rfl,⟨ob,hob,hoc,n,hod⟩,ru,rx⟩:=hp i v q hv hq
  obtain⟨na,nd⟩:=hne i _ a hv rfl
  refine codeAny_builtin qD ?_
  rw[Around.under_plainId iY _];show wpAny _ A.in1 (pyNext (.ref I) >>= _) _ _ s
  apply wpAny_bind
  refine wpAny_pyNext_list_item hit hl (x:=.ref a) (by simpa using hv) fun h' hit' sb=>?_
  have hob':h'.get? a=some ob:=(sb.2 a na).trans hob
  have hd':h'.DictOf (aQ prog w) d vs:=hd.extBut sb.extBut hId.symm
  apply wpAny_bind
  apply wpAny_holding
  apply wpAny_bind
  apply wpAny_tryCatch
  unfold Builtin.Dict.pairItems;apply wpAny_bind
  refine wpAny_typeOf (T:="tuple") ⟨ob,hob',hoc⟩ ?_
  rw[if_pos Zd]
  apply wpAny_bind
  refine wpAny_seqItems hob' hod ?_
  apply wpAny_pure
  show wpAny _ _ (holding [u,x] (dictSet d u x)) _ _ _
  apply wpAny_holding
  have hvl:vs.length<=sizeLine:=by rw[<- rel.length];exact gA Zo
  refine wpAny_dictSet_pairs (s:={s with heap:=h' }) (kD ru) hd' (fun h2 hd2 sb2=>?_) hvl
  apply wpAny_pure
  refine⟨plainId_quiet iY _,?_⟩
  have hl0:=cU kvs q.1 q.2
  have ex:∀b o,b≠I->b≠d->s.heap.get? b=some o->h2.get? b=some o:=fun b o b1 b2 e=>(sb2.2 b b2).trans ((sb.2 b b1).trans e)
  refine ih (i+1) _ (bA kvs q.1 q.2) (stored vs q.1 x) _ Zo Zo hql ?_ ?_ ?_ hne hd2 (rel.put q.1 rx) Zo fun h3 tk vs' k3 hd3 rel3=>?_
  ·exact hit'.at fun o e=>(sb2.2 I hId).trans e
  ·obtain⟨o,e,r⟩:=hl
   exact⟨o,ex l o hIl.symm hld e,r⟩
  ·intro j v q' hj hq';obtain⟨a',u',x',rfl,⟨o',ho',r'⟩,rr⟩:=hp j v q' hj hq'
   obtain⟨n1,n2⟩:=hne j _ a' hj rfl
   exact⟨a',u',x',rfl,⟨o',ex a' o' n1 n2 ho',r'⟩,rr⟩
  ·refine hR h3 tk vs' (fun b o b1 b2 e=>k3 b o b1 b2 (ex b o b1 b2 e)) hd3 ?_
   have e1:qs.drop i=q::qs.drop (i+1):=by
    rw[List.drop_eq_getElem_cons Zo]
    congr 1
    have:qs[i]?=some qs[i]:=mQ Zo
    rw[this]at hq;exact Option.some.inj hq
   rw[e1];exact rel3
theorem uD (hh:A.handled=none) {l:Addr} {o:Obj} {n:Nat} {its:List Value} {qs:List (bE × V)} {Q:Value->Shared->Prop} (hlo:s.heap.get? l=some o) (hlc:o.cls=.type "list") (hld:o.data=.seq its.toArray n) (hldd:o.dict=none) (hql:qs.length=its.length)
  (hp:∀(j:Nat) (v:Value) (q:bE × V),its[j]?=some v->qs[j]?=some q->Mj s.heap v q) (hz:its.length<=1000)
  (h:∀h' tk vs',(∀b ob,s.heap.get? b=some ob->h'.get? b=some ob)->h'.DictOf (aQ prog w) s.heap.objs.size vs'->KV (dB [] qs) vs'->Q (.ref s.heap.objs.size) {s with heap:=h',toks:=tk }) :
  wpAny (model prog w) A (call (.type "dict") [.ref l]) Q E s:=by
 refine callType_codes (Q₁:=fun obj s₁=>obj=.ref s.heap.objs.size/\s₁={s with heap:=s.heap.push {cls:=.type "dict",data:=.dict #[] } }) F.kt_called_dict (F.kt_typeCall_dict_1 _) F.entry_dict_init (kt_code_dict_new _ ⟨rfl,rfl⟩) ?_
 rintro obj s₁ ⟨rfl,rfl⟩
 have hnew:(s.heap.push {cls:=.type "dict",data:=.dict #[] }).DictOf (aQ prog w) s.heap.objs.size []:=Heap.DictOf.new s.heap
 have hl1:(s.heap.push {cls:=.type "dict",data:=.dict #[] }).get? l=some o:=iH _ hlo
 refine⟨hnew.typeIs,F.args_dict_init_2 _ _,?_⟩
 unfold Builtin.«dict.__init__»
 apply wpAny_bind
 unfold Builtin.Dict.selfAndRest;apply wpAny_bind
 refine wpAny_notOrdered_dict hnew.typeIs ?_
 show wpAny _ _ (pure (s.heap.objs.size,[Value.ref l])) _ _ _
 apply wpAny_pure
 show wpAny _ _ (Builtin.Dict.updateFrom "dict.__init__" s.heap.objs.size (.ref l) [] .none) _ _ _
 unfold Builtin.Dict.updateFrom;apply wpAny_bind
 refine wpAny_typeOf (T:="list") ⟨o,hl1,hlc⟩ ?_
 rw[if_pos Zd]
 apply wpAny_bind
 refine Kk hl1 hlc hld hldd hh fun h1 tk k1=>?_
 rw[if_pos (show(none:Option Value).isNone=true from rfl)];apply wpAny_bind
 apply wpAny_rule
 have hl2:h1.get? l=some o:=k1 _ _ hl1
 have hL2:h1.IsList l its.toArray:=⟨o,hl2,hlc,n,hld⟩
 have hd2:h1.DictOf (aQ prog w) s.heap.objs.size []:=by
  obtain⟨oo,es,ep,ho,r⟩:=hnew
  exact⟨oo,es,ep,k1 _ _ ho,r⟩
 have szl1:s.heap.objs.size<h1.objs.size:=by
  obtain⟨oo,es,ep,ho,r⟩:=hd2
  exact Heap.lt_size ho
 have ltl:l<s.heap.objs.size:=Heap.lt_size hlo
 apply wpAny_bind
 refine wpAny_pyIter_list (s:={s with heap:=h1,toks:=tk }) hL2 ?_
 apply wpAny_pure
 refine⟨plainId_quiet iY _,?_⟩
 refine Fg (A:=A.in1) (s:={s with heap:=h1.push {cls:=.type "list_iterator",data:=.fields #[.ref l,.int 0 0] },toks:=tk }) (its:=its) (qs:=qs) (l:=l) hh (Nat.ne_of_gt (Nat.lt_trans ltl szl1)) (Nat.ne_of_gt szl1) (Nat.ne_of_lt ltl) its.length 0 [] [] 0 rfl (Nat.zero_le _) hql ⟨_,Heap.get?_push_size _ rfl,rfl,rfl⟩ ?_ ?_ ?_ (hd2.push _) .nil (by simpa using hz) ?_
 ·exact⟨o,iH _ hl2,hlc,n,hld⟩
 ·intro j v q hj hq;obtain⟨a,u,x,rfl,⟨ob,hob,r⟩,rr⟩:=hp j v q hj hq
  exact⟨a,u,x,rfl,⟨ob,iH _ (k1 _ _ (iH _ hob)),r⟩,rr⟩
 ·intro j v a hj e;obtain⟨q,hq⟩:∃q,qs[j]?=some q:=by
   have:j<its.length:=(Zgs.mp hj).1
   exact⟨qs[j],by simp [hql,this]⟩
  obtain⟨a',u,x,e',⟨ob,hob,r⟩,rr⟩:=hp j v q hj hq
  rw[e]at e';cases e'
  have:=Heap.lt_size hob
  exact⟨Nat.ne_of_lt (Nat.lt_trans this szl1),Nat.ne_of_lt this⟩
 ·intro h' tk' vs' k' hd' rel';refine⟨rfl,h h' tk' vs' (fun b ob e=>?_) hd' rel'⟩
  have:=Heap.lt_size e
  exact k' b ob (Nat.ne_of_lt (Nat.lt_trans this szl1)) (Nat.ne_of_lt this) (iH _ (k1 _ _ (iH _ e)))
end
section
variable {X:Cx}
abbrev W:=Addr × bE × V
def Wk (H:Hp) (zs:List W):Prop:=∀z∈zs,H z.1=some (.tup [kV z.2.1,z.2.2])
def rS (K:W.Frag):List V->Hp->VK->Prop:=fun vs H Q=>match vs with
 | [.ref a]=>∃zs:List W,SqL K H a (zs.map fun z=>V.ref z.1)/\Wk H zs/\zs.length<=1000/\∀d,H d=none->Q (.ref d) (aI H d (.dK (dB [] (zs.map (·.2)))))
 | _=>False
theorem Fh (hcm:X.calm=true):CallR X (.type "dict") (rS X.K):=by
 intro pins s σ H xs us Q I r h;unfold rS at h;split at h
 ·rename_i a
  obtain⟨zs,hq,hz,h1000,q⟩:=h
  obtain⟨u,rfl,ru⟩:=hZ r
  cases ru
  obtain⟨its,r1,p1,_⟩:=I.list hq
  obtain⟨o,n,ho,hc,hdd,hd⟩:=p1
  have hl:zs.length=its.length:=by
   have:=r1.length
   rw[dN]at this;exact this
  refine uD (I.ok.hd hcm) ho hc hd hdd (qs:=zs.map (·.2)) (by rw[dN];exact hl) (fun j v q' hj hq'=>?_) Zo fun h' tk vs' k hd rel=>?_
  ·rw[iU]at hq';cases hzj:zs[j]? with
   | none=>rw[hzj]at hq';cases hq'
   | some z=>
    rw[hzj]at hq';cases hq'
    have e:=hz z (jW hzj)
    obtain⟨_,its2,r2,it⟩:=(show ObjOk X.prog X.w H s.heap z.1 (.tup [kV z.2.1,z.2.2]) from I.hok _ _ e)
    have hj2:j<zs.length:=(Zgs.mp hzj).1
    have rv:RelV (V.ref z.1) (its.getD j Value.none):=lD j r1 (by rw[dN];exact hj2) _ (by rw[iU,hzj];rfl)
    have ev:its.getD j Value.none=v:=by rw[List.getD_eq_getElem?_getD,hj];rfl
    rw[ev]at rv;cases rv
    cases r2 with
    | cons a1 r3=>
     cases r3 with
     | cons a2 r4=>
      cases r4
      exact⟨z.1,_,_,rfl,it,a1,a2⟩
  ·have hf:H s.heap.objs.size=none:=I.hok.fresh (cB _)
   refine⟨.ref s.heap.objs.size,_,I.laid (t':=tk) (o:=.dK (dB [] (zs.map (·.2)))) k (cB _) ⟨?_,?_,vs',rel,hd⟩,rfl,q _ hf⟩
   ·have:=jI (zs.map (·.2)) []
    rw[dN]at this;exact gA (by simp at this;omega)
   ·have hb:=I.big
    exact beq_eq_false_iff_ne.mpr (Nat.ne_of_gt hb)
 ·exact h.elim
theorem R.dy {K:W.Frag} (hcm:X.calm=true) (hK:X.K=K:=by rfl):XC X (.type "dict") (rS K):=hK ▸ ⟨Fh hcm⟩
end
end L2
namespace L2
open PySem PySem.Spec PyProof.Rows
def Vf (a:Addr) (o:Obj) (kvs:List (bE × V)):It:=
 ⟨fun i H=>H a=some (.frz o (.dK kvs))/\i<kvs.length,fun i H x H'=>H'=H/\(kvs.map fun q=>kV q.1)[i]?=some x,fun i H=>H a=some (.frz o (.dK kvs))/\kvs.length<=i⟩
theorem Kl (a:Addr) (o:Obj) (kvs:List (bE × V)):tT (Vf a o kvs) (kvs.map fun q=>kV q.1) (fun H=>H a=some (.frz o (.dK kvs))):=
 ⟨fun i H hi e=>⟨e,by rwa [dN]at hi⟩,fun i H x H' _ _ y=>y,fun H e=>⟨e,by rw[dN];exact cB _⟩⟩
section
variable {X:Cx} {pins:List (Addr × Obj)} {σ:St} {H:Hp} {s:Shared} {a:Addr} {o:Obj} {kvs:List (bE × V)}
theorem wM {P:Program} {w:World} {h:Heap} (ok:HOk P w H h) (e:H a=some (.frz o (.dK kvs))):h.get? a=some o/\(a == sysModules)=false/\∃vs ep,KV kvs vs/\(∃es,o.data=.dict es ep)/\h.DictAt (aQ P w) a vs ep:=by
 obtain⟨h1,z,hd,vs,rel,dd⟩:=(show ObjOk P w H h a (.frz o (.dK kvs)) from ok a _ e)
 obtain⟨ep,d2⟩:=dd.dictAt
 obtain⟨o',es,g,r1,r2,r3⟩:=id d2
 rw[h1]at g;cases g
 exact⟨h1,hd,vs,ep,rel,⟨es,r2⟩,d2⟩
theorem Fi {P:Program} {w:World} {K:W.Frag} {tg:Expr} (a it:Addr) {ep:Nat} (he:∃es,o.data=.dict es ep):qU P w K tg (Vf a o kvs) [it] it (fun i h=>h.IsKeyIter it a i kvs.length ep) where
 mem:=by simp
 obj:=fun i h st b hb=>by
  obtain rfl:b=it:=by simpa using hb
  obtain⟨ob,e,c,d⟩:=st
  exact⟨ob,e,fun v z=>by rw[d]at z;cases z⟩
 keep:=fun i h h' st k=>st.at fun ob e=>k it Zs ob e
 item:=by
  intro X hP hw hK hc i pins s σ H E I hf st hg;subst hP hw hK;obtain⟨ef,hi⟩:=hg
  obtain⟨h1,lo,vs,ep',rel,⟨es',e'⟩,dd⟩:=wM I.hok ef
  obtain⟨es,e0⟩:=he
  obtain rfl:ep'=ep:=by
   rw[e0]at e';cases e'
   rfl
  have hl:=rel.length
  obtain⟨⟨k,x⟩,hx⟩:∃p,vs[i]?=some p:=⟨vs[i],mQ Zo⟩
  have hk:(kvs.map (·.1))[i]?=some k:=by rw[rel.keys,iU,hx];rfl
  obtain⟨f0,f1,f2,f3,f4,f5⟩:=hf it Zs
  rw[hl]at st;refine wpAny_pyNext_dict_item st dd hx fun key h' hkey st' sb=>?_
  have I1:Inv X pins σ H {s with heap:=h' }:=I.turned (t':=s.toks) (fun b ob hb e=>(sb.2 b hb).trans e) f0 f1 f3 f4 f5
  obtain⟨ob,e,c,d⟩:=id st'
  have rk:RelV (kV k) key:=by
   rcases bB (show jX k key=true from hkey) with⟨j,t,rfl,rfl⟩ | ⟨z,t,rfl,rfl⟩
   ·exact⟨t,rfl⟩
   ·exact⟨t,rfl⟩
  refine⟨key,rfl,pL (s:={s with heap:=h' }) e c d Zd ⟨kV k,H,I1,rk,⟨rfl,?_⟩,by rw[hl];exact st',fun b hb=>(hf b hb).1⟩⟩
  rw[iU]at hk ⊢;cases z:kvs[i]? with
  | none=>rw[z]at hk;cases hk
  | some q=>rw[z]at hk;cases hk;rfl
 done:=by
  intro X hP hw hK hc i pins s σ H E I hf st hg;subst hP hw hK;obtain⟨ef,hi⟩:=hg
  obtain⟨h1,lo,vs,ep',rel,⟨es',e'⟩,dd⟩:=wM I.hok ef
  obtain⟨es,e0⟩:=he
  obtain rfl:ep'=ep:=by
   rw[e0]at e';cases e'
   rfl
  have hl:=rel.length
  rw[hl]at st;obtain⟨f0,f1,f2,f3,f4,f5⟩:=hf it Zs
  exact wpAny_pyNext_dict_end (I.ok.hd hc) st dd (List.getElem?_eq_none Zo) fun h' eb=>⟨rfl,I.turned (t':=s.toks) (fun b ob hb e=>eb b ob hb e) f0 f1 f3 f4 f5⟩
 self:=fun _ _ _ _ _ st h=>wpAny_pyIter_keyiter st h
theorem Inv.freeze (I:Inv X pins σ H s) (e:H a=some (.dK kvs)):∃ob,s.heap.get? a=some ob/\Inv X pins σ (aI H a (.frz ob (.dK kvs))) s:=by
 obtain⟨z,hd,vs,rel,dd⟩:=xV I.hok e
 obtain⟨ob,es,ep,g,r⟩:=id dd
 refine⟨ob,g,?_⟩
 have:=I.write (t':=s.toks) (h':=s.heap) (x:=a) (e:=a) (o:=.frz ob (.dK kvs)) (by rw[e];exact True.intro) (.inl rfl) (fun b u _ q=>q) ⟨ob,g⟩ ⟨g,z,hd,vs,rel,dd⟩
 exact this
theorem Inv.thaw (I:Inv X pins σ H s) (e:H a=some (.frz o (.dK kvs))) (hn:∀o' u,X.H₀ a≠some (.frz o' u)):Inv X pins σ (aI H a (.dK kvs)) s where
 ok:=I.ok
 os:=I.os
 bare:=I.bare
 base:=by
  have na:∀b,H b=none->b≠a:=fun b z q=>by rw[q,e]at z;cases z
  refine⟨I.base.keep,I.base.slot,fun b ob q n hx=>?_,I.base.there,fun b xs q=>?_,fun b ob u q=>?_,fun b ps q=>?_⟩
  ·have:=I.base.free b ob q n hx
   rw[aD (na b this)];exact this
  ·have:=I.base.tups b xs q
   rw[aD (aM this e (fun z=>nomatch z))]
   exact this
  ·have:=I.base.frzs b ob u q
   by_cases hb:b=a
   ·subst hb;exact absurd q (hn ob u)
   ·rw[aD hb];exact this
  ·obtain⟨more,q2⟩:=I.base.tbls b ps q
   exact⟨more,by rw[aD (aM q2 e (fun z=>nomatch z))];exact q2⟩
 loc:=I.loc
 cell:=I.cell
 free:=by
  have z:=I.free
  rw[aD (fun q=>by rw[q,e]at z;cases z)]
  exact z
 freeC:=fun x c h=>by
  have z:=I.freeC x c h
  rw[aD (fun q=>by rw[q,e]at z;cases z)]
  exact z
 pin:=fun p hp=>by
  obtain⟨p1,p2,p3⟩:=I.pin p hp
  refine⟨p1,?_,p3⟩
  rw[aD (fun q=>by rw[q,e]at p2;cases p2)]
  exact p2
 hok:=by
  intro b u hb;by_cases q:b=a
  ·subst q;rw[aB]at hb;cases hb
   exact(show ObjOk X.prog X.w H s.heap b (.frz o (.dK kvs)) from I.hok b _ e).2
  ·rw[aD q]at hb;refine(I.hok b u hb).stay (fun c v _ h=>h) (fun c h=>?_) fun c xs h=>?_
   ·rw[aD (aM h e (fun z=>nomatch z))];exact h
   ·rw[aD (aM h e (fun z=>nomatch z))];exact h
 len:=I.len
def Uh (te:TE):TI:=fun σ H R=>te σ H fun x H1=>mR x fun a=>∃kvs,H1 a=some (.dK kvs)/\∀o,R (Vf a o kvs) (aI H1 a (.frz o (.dK kvs)))
theorem Qo {tg l:Expr} {tl:TE} (hl:PE X l tl):PI X tg l (Uh tl):=by
 intro pins s σ H R I h;refine bG (hl pins s σ H _ I h) fun v s1 ⟨x,H1,I1,r1,q1⟩=>?_
 dsimp only at q1
 rw[cJ]at q1;obtain⟨a,rfl,kvs,e,q⟩:=q1
 cases r1
 obtain⟨ob,g,I2⟩:=I1.freeze e
 obtain⟨h1,lo,vs,ep,rel,he,dd⟩:=wM I2.hok (aB (a:=a))
 have hn:(aI H1 a (.frz ob (.dK kvs))) s1.heap.objs.size=none:=I2.hok.fresh (cB _)
 refine wpAny_pyIter_dict lo dd ?_
 refine⟨s1.heap.objs.size,[s1.heap.objs.size],_,_,_,rfl,I2.kept (t':=s1.toks) fun b o e=>iH _ e,Fi a _ he,⟨_,Heap.get?_push_size _ rfl,rfl,?_⟩,fun b hb=>?_,q ob⟩
 ·rw[rel.length];rfl
 ·obtain rfl:b=s1.heap.objs.size:=by simpa using hb
  exact I2.fpOk (cB _) hn
def Ml (t:TE):TE:=fun σ H Q=>t σ H fun v H2=>∃a kvs o,(∃kvs0,H a=some (.dK kvs0))/\H2 a=some (.frz o (.dK kvs))/\Q v (aI H2 a (.dK kvs))
theorem Km {e:Expr} {t:TE} (he:PE X e t):PE X e (Ml t):=by
 intro pins s σ H Q I h;refine bG (he pins s σ H _ I h) fun u s1 ⟨v,H2,I2,rv,a,kvs,o,⟨kvs0,e0⟩,e2,q⟩=>⟨v,_,I2.thaw e2 (fun o' u' z=>?_),rv,q⟩
 have:=I.base.frzs a o' u' z
 rw[e0]at this;cases this
end
def Ui (K:W.Frag) (te:TE) (f:Str):TE:=fun σ H Q=>te σ H fun x H1=>mR x fun a=>∃C dx fs v,H1 a=some (.ins C dx fs)/\Cls K C/\NoAttr K C f/\fs.lookup f=some v/\Q v H1
def Mm (K:W.Frag) (ta tv:TE) (f:Str):TS:=fun D σ H=>tv σ H fun y H1=>ta σ H1 fun x H2=>mR x fun a=>∃C dx fs,H2 a=some (.ins C dx fs)/\Cls K C/\NoAttr K C f/\fs.length<1000/\D.nx σ (aI H2 a (.ins C dx (bI f y fs)))
section
variable {X:Cx} {e o value:Expr} {f:Str} {pos pos':Pos} {te ta tv:TE} {K:W.Frag}
theorem Kn (he:PE X e te) (hb:attributeBase e f X.env (eval e X.env)=eval e X.env):PE X (.Attribute e f pos) (Ui X.K te f):=by
 intro pins s σ H Q I h;refine Iz hb (bG (he pins s σ H _ I h) fun u s1 ⟨x,H1,I1,rx,q1⟩=>?_)
 dsimp only at q1
 rw[cJ]at q1;obtain⟨a,rfl,C,dx,fs,v,ea,c,n,l,q⟩:=q1
 obtain rfl:u=Value.ref a:=rx
 exact vP I1 ea c n l fun u' s2 I2 ru=>⟨v,H1,I2,ru,q⟩
theorem Ko (ha:PE X o ta) (hv:PE X value tv) (hs:swapsWith value (some (.Attribute o f pos')) pos.line X.env=pure false):PS X (.Assign [.Attribute o f pos'] value pos) (Mm X.K ta tv f):=by
 intro pins s σ H D I h;refine plainObj_wpAny_Assign_Attribute (bG (hv pins s σ H _ I h) fun u s1 ⟨y,H1,I1,ry,q⟩=>bG (ha pins s1 σ H1 _ I1 q) fun ov s2 ⟨x,H2,I2,rx,q1⟩=>?_) hs
 dsimp only at q1
 rw[cJ]at q1;obtain⟨a,rfl,C,dx,fs,ea,c,n,l,q2⟩:=q1
 obtain rfl:ov=Value.ref a:=rx
 exact vQ I2 ea c n l ry fun s3 I3=>⟨σ,_,I3,q2⟩
end
structure cZ (P:Program) (w:World) (K:W.Frag) (mg:Str->Option Value) (base:Heap) (n:Nat) (C:Addr) (m:Str) (ps:List Str) (sp:Sp):Prop where
 ex:∃f fd,Cls K C/\Ab K C m f/\gM P w K mg base pU n f fd ps sp/\Binds K fd ps []
structure vJ (P:Program) (w:World) (K:W.Frag) (mg:Str->Option Value) (base:Heap) (n:Nat) (x:Str) (C:Addr) (ps:List Str) (dvs:List V) (sp:Sp):Prop where
 ex:∃f fd ds,mg x=some (.ref C)/\Mk K C f/\gM P w K mg base pU n f fd ps sp/\Binds K fd ps ds/\Vals dvs ds
def yL (C:Addr) (m:Str) (sp:Sp) (ta:TE) (t:TA):TE:=fun σ H Q=>ta σ H fun x H1=>mR x fun a=>∃dx fs,H1 a=some (.ins C dx fs)/\fs.lookup m=none/\t σ H1 fun vs H2=>sp (.ref a::vs) H2 Q E0
section
variable {X:Cx} {e o:Expr} {es:List Expr} {m x:Str} {p pos apos:Pos} {ta:TE} {t:TA} {C:Addr} {n:Nat} {ps:List Str} {sp:Sp} {dvs:List V}
theorem Fj {pl:Sem Bool} (he:PE X o ta) (c:cZ X.prog X.w X.K X.mg X.base n C m ps sp) (hr:Room n X.A) (ha:PA X (e::es) t) (hs:aJ e=true) (hpl:(backTo pos (starEach es X.env)).any (·.1)=false)
  (ht:eval (.Call (.Attribute o m apos) (e::es) [] pos) X.env=(do
   let ov ← eval o X.env
   standAt apos.atName
   let (f,first) ← holding [ov] (getMethod ov m pl)
   callWith pos f first (backTo pos (starEach (e::es) X.env)) (backToKw pos (keywordEach [] X.env)))) :
  PE X (.Call (.Attribute o m apos) (e::es) [] pos) (yL C m sp ta t):=by
 obtain⟨f,fd,cl,hm,F,hb⟩:=c.ex
 intro pins s σ H Q I h;refine W.methodCall_KW (pl:=pl) (bG (he pins s σ H _ I h) fun u s1 ⟨x,H1,I1,rx,q1⟩=>?_) ht
 dsimp only at q1
 rw[cJ]at q1;obtain⟨a,rfl,dx,fs,ea,l,q⟩:=q1
 obtain rfl:u=Value.ref a:=rx
 refine gL I1 ea cl hm l ?_
 refine W.callWith_K (first:=[.ref a]) (h₀:=X.base) I.ok.mod.kin hm.kp (bG (ha pos pins s1 σ H1 _ I1 q) fun us s2 ⟨vs,H2,I2,r,q2⟩=>⟨I2.kIn,?_⟩) (aZ hs) hpl
 exact qY (us:=.ref a::us) (vs:=.ref a::vs) (dvs:=[]) (ds:=[]) F hr hb .nil pV I2 (.cons rfl r) (by rw[List.append_nil];exact q2)
theorem Aw {pl:Sem Bool} (he:PE X o ta) (c:cZ X.prog X.w X.K X.mg X.base n C m ps sp) (hr:Room n X.A)
  (ht:eval (.Call (.Attribute o m apos) [] [] pos) X.env=(do
   let ov ← eval o X.env
   standAt apos.atName
   let (f,first) ← holding [ov] (getMethod ov m pl)
   callWith pos f first (backTo pos (starEach [] X.env)) (backToKw pos (keywordEach [] X.env)))) :
  PE X (.Call (.Attribute o m apos) [] [] pos) (yL C m sp ta vT):=by
 obtain⟨f,fd,cl,hm,F,hb⟩:=c.ex
 intro pins s σ H Q I h;refine W.methodCall_KW (pl:=pl) (bG (he pins s σ H _ I h) fun u s1 ⟨x,H1,I1,rx,q1⟩=>?_) ht
 dsimp only at q1
 rw[cJ]at q1;obtain⟨a,rfl,dx,fs,ea,l,q⟩:=q1
 obtain rfl:u=Value.ref a:=rx
 refine gL I1 ea cl hm l ?_
 exact W.callWith_K0 (first:=[.ref a]) I1.kIn hm.kp (qY (us:=[.ref a]) (vs:=[.ref a]) (dvs:=[]) (ds:=[]) F hr hb .nil pV I1 (.cons rfl .nil) (by rw[List.append_nil];exact q))
end
structure FunD (K:W.Frag) (x qual:Str) (st:Stmt) (dv:Value) (f:Addr) (fd:FuncData):Prop where
 ex:∃(oc:Value) (od:Option Addr) (kV doc pm:Value) (an:Option Addr) (cdv ct:Value) (osl:Array (Option Value)),
  fd=W.fnOf x qual (bC st) (aP st) (aA st) dv kV doc pm an cdv ct/\K.lookup f=some ⟨oc,od,.func fd,osl⟩/\W.codeIn K cdv qual=true
section
variable {P:Program} {w:World} {K:W.Frag} {mg:Str->Option Value} {base:Heap} {x qual:Str} {st:Stmt} {dv:Value} {f C:Addr} {fd:FuncData} {N ps:List Str} {k:Nat} {sp:Sp}
theorem FunD.go (F:FunD K x qual st dv f fd) (S:aG N ps (aA st)) (len:∀vs H Q E,sp vs H Q E->vs.length=ps.length)
  (hbody:∀(cdv:Value) (A:Around) (outer:List Env) (s:Shared) (H:Hp) (vs:List V) (Q:VK) (E:XK),Room k (A.deeper (envOfC qual (aA st) s.heap.objs.size f cdv))->sp vs H Q E →
   ∃t,XB (eT pU P w K mg base N qual (aA st) f cdv A outer s H E).nox (aP st) t/\t {nx:=fun _ H'=>Q .non H',rt:=Q } (start N vs) H):gM P w K mg base pU (k+1) f fd ps sp:=by
 obtain⟨oc,od,kV,doc,pm,an,cdv,ct,osl,rfl,lk,hcd⟩:=F.ex
 refine Db lk hcd S len fun A outer s H vs Q E hr hsp=>?_
 obtain⟨t,h,q⟩:=hbody cdv A outer s H vs Q E hr hsp
 exact⟨t,h.h.nox,q⟩
structure MethAt (K:W.Frag) (C:Addr) (m qual:Str) (st:Stmt) (ps:List Str):Prop where
 cl:Cls K C
 ex:∃f fd,Fun K m qual st f fd/\Ab K C m f/\Binds K fd ps []
theorem MethAt.go {m:Str} (D:MethAt K C m qual st ps) (S:aG N ps (aA st)) (len:∀vs H Q E,sp vs H Q E->vs.length=ps.length)
  (hbody:∀(f:Addr) (cdv:Value) (A:Around) (outer:List Env) (s:Shared) (H:Hp) (vs:List V) (Q:VK) (E:XK),Room k (A.deeper (envOfC qual (aA st) s.heap.objs.size f cdv))->sp vs H Q E →
   ∃t,XB (eT pU P w K mg base N qual (aA st) f cdv A outer s H E).nox (aP st) t/\t {nx:=fun _ H'=>Q .non H',rt:=Q } (start N vs) H):cZ P w K mg base (k+1) C m ps sp:=by
 obtain⟨f,fd,F,hm,hb⟩:=D.ex
 exact⟨f,fd,D.cl,hm,F.go S len (hbody f),hb⟩
structure ClsAt (K:W.Frag) (mg:Str->Option Value) (x:Str) (C:Addr) (qual:Str) (st:Stmt) (ps:List Str) (dvs:List (List V)):Prop where
 ex:∃f fd dv,mg x=some (.ref C)/\FunD K "__init__" qual st dv f fd/\Mk K C f/\∀d∈dvs,∃ds,Binds K fd ps ds/\Vals d ds
theorem ClsAt.go {dvs:List (List V)} (D:ClsAt K mg x C qual st ps dvs) (S:aG N ps (aA st)) (len:∀vs H Q E,sp vs H Q E->vs.length=ps.length)
  (hbody:∀(f:Addr) (cdv:Value) (A:Around) (outer:List Env) (s:Shared) (H:Hp) (vs:List V) (Q:VK) (E:XK),Room k (A.deeper (envOfC qual (aA st) s.heap.objs.size f cdv))->sp vs H Q E →
   ∃t,XB (eT pU P w K mg base N qual (aA st) f cdv A outer s H E).nox (aP st) t/\t {nx:=fun _ H'=>Q .non H',rt:=Q } (start N vs) H):∀d∈dvs,vJ P w K mg base (k+1) x C ps d sp:=by
 intro d hd;obtain⟨f,fd,dv,e,F,M,hb⟩:=D.ex
 obtain⟨ds,b,v⟩:=hb d hd
 exact⟨f,fd,ds,e,M,F.go S len (hbody f),b,v⟩
end
namespace R
section
variable {X:Cx} {e o i value:Expr} {es:List Expr} {m x f:Str} {p pos pos' apos:Pos} {te ta tv td ty:TE} {t:TA} {C:Addr} {n:Nat} {ps:List Str} {sp:Sp} {dvs:List V} {K:W.Frag} {tg:Expr}
theorem wD (hl:XE X e te):XI X tg e (Uh te):=⟨Qo hl.h⟩
theorem im (he:XE X e te):XE X e (Ml te):=⟨Km he.h⟩
theorem av (he:XE X e te) (hK:X.K=K:=by rfl) (hb:attributeBase e f X.env (eval e X.env)=eval e X.env:=by rfl):XE X (.Attribute e f pos) (Ui K te f):=hK ▸ ⟨Kn he.h hb⟩
theorem ax (ha:XE X o ta) (hv:XE X value tv) (hK:X.K=K:=by rfl) (hs:swapsWith value (some (.Attribute o f pos')) pos.line X.env=pure false:=by rfl):XS X (.Assign [.Attribute o f pos'] value pos) (Mm K ta tv f):=hK ▸ ⟨Ko ha.h hv.h hs⟩
theorem bp (hu:X.A.units+1<cLine) (ho:XE X o td) (hi:XE X i ty) (hs:Pe i:=by exact fun _ _=>rfl):XE X (.Subscript o i pos) (Md td ty):=⟨Jk hu ho.h hi.h hs⟩
theorem be {pl:Sem Bool} (c:cZ X.prog X.w X.K X.mg X.base n C m ps sp) (hr:Room n X.A) (he:XE X o ta) (ha:XA X (e::es) t) (hs:aJ e=true:=by rfl) (h2:es.all aJ=true:=by rfl)
  (ht:eval (.Call (.Attribute o m apos) (e::es) [] pos) X.env=(do
   let ov ← eval o X.env
   standAt apos.atName
   let (f,first) ← holding [ov] (getMethod ov m pl)
   callWith pos f first (backTo pos (starEach (e::es) X.env)) (backToKw pos (keywordEach [] X.env))):=by rfl):XE X (.Call (.Attribute o m apos) (e::es) [] pos) (yL C m sp ta t):=⟨Fj he.h c hr ha.h hs (cK h2) ht⟩
theorem bn {pl:Sem Bool} (c:cZ X.prog X.w X.K X.mg X.base n C m ps sp) (hr:Room n X.A) (he:XE X o ta)
  (ht:eval (.Call (.Attribute o m apos) [] [] pos) X.env=(do
   let ov ← eval o X.env
   standAt apos.atName
   let (f,first) ← holding [ov] (getMethod ov m pl)
   callWith pos f first (backTo pos (starEach [] X.env)) (backToKw pos (keywordEach [] X.env))):=by rfl):XE X (.Call (.Attribute o m apos) [] [] pos) (yL C m sp ta vT):=⟨Aw he.h c hr ht⟩
theorem da (c:vJ X.prog X.w X.K X.mg X.base n x C ps [] sp) (hr:Room (n+1) X.A) (hg:Gl X x) (ha:XA X (e::es) t) (hdb:(x == ("__debug__":Str))=false:=by decide) (hs:aJ e=true:=by rfl) (h2:es.all aJ=true:=by rfl) :
  XE X (.Call (.Name x p) (e::es) [] pos) (xQ C sp [] E0 t):=by
 obtain⟨f,fd,ds,hm,M,F,hb,hd⟩:=c.ex
 exact⟨Jb M F hr hg hm hb hd pV ha.h hdb (aZ hs) (cK h2)⟩
theorem io (c:vJ X.prog X.w X.K X.mg X.base n x C ps dvs sp) (hr:Room (n+1) X.A) (hg:Gl X x) (hdb:(x == ("__debug__":Str))=false:=by decide) :
  XE X (.Call (.Name x p) [] [] pos) (xQ C sp dvs E0 vT):=by
 obtain⟨f,fd,ds,hm,M,F,hb,hd⟩:=c.ex
 exact⟨Cz M F hr hg hm hb hd pV hdb⟩
end
end R
end L2
namespace L2
open PySem PySem.Spec PyProof.Rows
def lE (prs:List (Str × Int)):List (bE × V):=prs.map fun q=>(Sum.inr q.1,V.int q.2)
def bZ (prs:List (Str × Int)) (n:Str):Int:=(prs.lookup n).getD 0
theorem oJ (prs:List (Str × Int)):(lE prs).map (·.1)=(prs.map (·.1)).map Sum.inr:=by
 unfold lE;rw[List.map_map,List.map_map];rfl
theorem mV (n:Str):∀(prs:List (Str × Int)),aY (lE prs) (Sum.inr n)=(prs.lookup n).map V.int
 | []=>rfl
 | q::r=>by
  unfold lE;rw[List.map_cons,List.lookup_cons];by_cases h:n=q.1
  ·subst h;rw[bN rfl];simp
  ·have hb:(n == q.1)=false:=beq_eq_false_iff_ne.mpr h
   rw[bO (by intro z;exact h (Sum.inr.inj z).symm),hb]
   exact mV n r
theorem rT (prs:List (Str × Int)) (n:Str):(aY (lE prs) (Sum.inr n)).getD (V.int 0)=V.int (bZ prs n):=by
 rw[mV];unfold bZ;cases prs.lookup n <;> rfl
theorem qE:∀(more kvs:List (bE × V)),(more.map (·.1)).Nodup->(∀k∈more.map (·.1),aY kvs k=none)->dB kvs more=kvs++more
 | [],kvs,_,_=>(List.append_nil _).symm
 | p::r,kvs,hn,h=>by
  obtain⟨h1,h2⟩:=List.nodup_cons.mp hn
  show dB (bA kvs p.1 p.2) r=_
  have e0:aY kvs p.1=none:=h p.1 Zs
  rw[qE r _ h2 fun k hk=>?_,fZ _ e0]
  ·simp
  ·rw[eF,if_neg (fun(z:k=p.1)=>h1 (by dsimp only;rw[<- z];exact hk))]
   exact h k (oX _ hk)
theorem qF:∀ {l:List Str},l.Nodup->(l.map (Sum.inr:Str->bE)).Nodup
 | [],_=>List.nodup_nil
 | a::l,h=>by
  obtain⟨h1,h2⟩:=List.nodup_cons.mp h
  refine List.nodup_cons.mpr ⟨fun z=>?_,qF h2⟩
  obtain⟨b,hb,e⟩:=Zmm.mp z
  cases e
  exact h1 hb
theorem Ax {prs:List (Str × Int)} (h:(prs.map (·.1)).Nodup):dB [] (lE prs)=lE prs:=by
 rw[qE _ _ (by rw[oJ];exact qF h) fun _ _=>rfl]
 rfl
def Fk (prs:List (Str × Int)):List (Str × Int):=((uB (prs.map (·.1))).filter fun n=>decide (0<bZ prs n)).map fun n=>(n,bZ prs n)
theorem jR {n:Str}:∀ {prs:List (Str × Int)},n∈prs.map (·.1)->∃a,prs.lookup n=some a
 | q::r,h=>by
  rw[List.lookup_cons];by_cases e:n=q.1
  ·subst e;exact⟨q.2,Zs⟩
  ·have hb:(n == q.1)=false:=beq_eq_false_iff_ne.mpr e
   rw[hb];rcases List.mem_cons.mp h with z | z
   ·exact absurd z e
   ·exact jR z
structure Mn (K:W.Frag) (C:Addr):Prop where
 cl:Cls K C
 nA:NoAttr K C "amounts"
structure BookAt (C:Addr) (H:Hp) (p:Addr) (prs:List (Str × Int)):Prop where
 ex:∃dx d,H p=some (.ins C dx [("amounts",.ref d)])/\H d=some (.dK (lE prs))
 nd:(prs.map (·.1)).Nodup
theorem BookAt.same {C:Addr} {H H':Hp} {p:Addr} {prs:List (Str × Int)} (B:BookAt C H p prs) (s:Same H H'):BookAt C H' p prs:=by
 obtain⟨dx,d,h1,h2⟩:=B.ex
 exact⟨⟨dx,d,s _ _ h1,s _ _ h2⟩,B.nd⟩
def Qp (H:Hp) (r:V) (prs:List (Str × Int)):Prop:=(r=.non/\prs=[])∨∃l zs,r=.ref l/\H l=some (.lst (dO zs))/\ZAt H zs/\zs.map (·.2)=prs
def gO (C:Addr):Sp:=fun vs H Q _=>∃(p:Addr) (n:Str) (prs:List (Str × Int)),vs=[.ref p,.str n]/\BookAt C H p prs/\Q (.int (bZ prs n)) H
def uE (C:Addr):Sp:=fun vs H Q _=>∃(p:Addr) (prs:List (Str × Int)),vs=[.ref p]/\BookAt C H p prs/\prs.length<64 ∧
 ∀(l:Addr) (zs:List Z) (H':Hp),Same H H'->H l=none->H' l=some (.lst (dO zs))->ZAt H' zs->zs.map (·.2)=Fk prs->Q (.ref l) H'
def wz (zs:List Z):List W:=zs.map fun z=>(z.1,Sum.inr z.2.1,V.int z.2.2)
theorem Qq (zs:List Z):((wz zs).map fun z=>V.ref z.1)=dO zs:=by
 unfold wz dO;rw[List.map_map];rfl
theorem Uj {H:Hp} {zs:List Z} (h:ZAt H zs):Wk H (wz zs):=fun z hz=>by
 obtain⟨y,hy,rfl⟩:=Zmm.mp hz
 exact h y hy
theorem Qr (zs:List Z):(wz zs).map (·.2)=lE (zs.map (·.2)):=by
 unfold wz lE;rw[List.map_map,List.map_map];rfl
theorem Wl (y:V):bI "amounts" y []=[(("amounts":Str),y)]:=rfl
theorem Wm (x y:V):bI "amounts" y [(("amounts":Str),x)]=[(("amounts":Str),y)]:=by
 unfold bI;rw[if_pos rfl]
theorem eI (y:V):([(("amounts":Str),y)]:List (Str × V)).lookup ("amounts":Str)=some y:=by
 rw[List.lookup_cons];simp
theorem rV {m:Str} (y:V) (h:(m == ("amounts":Str))=false):([(("amounts":Str),y)]:List (Str × V)).lookup m=none:=by
 rw[List.lookup_cons,h];rfl
end L2
namespace L2
open PySem PySem.Spec PyProof.Rows
section
variable {M:Model} {A:Around} {E:Value->Shared->Prop} {s:Shared}
def SD (oe oe':Obj):Prop:=oe'.dict=oe.dict/\∀vs,oe.data=.fields vs->∃vs',oe'.data=.fields vs'/\vs'[2]?=vs[2]?
def Fl (e:Addr) (oe:Obj) (h':Heap):Prop:=∃oe',h'.get? e=some oe'/\SD oe oe'
theorem Fm {base:Heap} {env:Env} {outer:List Env} {L e:Addr} {oe:Obj} {vs:Array Value} {head a0:Value} {hadNext:Bool} {Q:Unit->Shared->Prop}
  (hfr:A.frames=some (env::outer)) (hl:s.heap.FunFrames base (env::outer)) (hf:env.frame=some L) (he:s.heap.get? e=some oe) (hkb:base.StaysIn s.heap) (hen:base.get? e=none) (hd:oe.data=.fields vs) (hsz:1<vs.size) (h0:vs[0]?=some a0)
  (h:∀h',Heap.NotedW base (env::outer) e oe.cls a0 (rawInt L) s.heap h'->Fl e oe h'->Q () {s with heap:=h' }) :
  wpAny M A (do let a ← frameOf env;let pl ← entryPlaceOf L hadNext;let b ← EntryCells.newEntry head a .none (rawInt L) .none pl;setField (.ref e) 1 b) Q E s:=by
 have hene:e∉(env::outer).filterMap (·.frame):=fun hm=>by
  obtain⟨_,o,ho,hnf⟩:=hl.mem hm
  rw[he]at ho;cases ho;exact hnf vs hd
 refine wpAny_bind (wpAny_frameOf_fun hfr hl hf fun k1 s1=>wpAny_bind (wpAny_entryPlaceOf fun pl hpl=>?_))
 unfold EntryCells.newEntry newFields;refine wpAny_bind (wpAny_newObj_type ?_ (hpl.sizeOk5 _ _ _ _ _))
 have e1:k1.get? e=some oe:=(s1.2.1 e hene).trans he
 have b1:base.StaysIn k1:=fun b o hbo=>(s1.2.1 b fun hm=>by rw[(hl.mem hm).1]at hbo;cases hbo).trans (hkb b o hbo)
 have e2:=iH (h:=k1) {cls:=.type "traceback",dict:=none,data:=.fields ([head,.ref L,.none,rawInt L,.none]++(if pl.isEmpty then List.replicate 6 Value.none else pl)).toArray } e1
 have nTe:k1.objs.size≠e:=Nat.ne_of_gt (Heap.lt_size e1);have d3:=Obj.data_mapFields hd (·.setIfInBounds 1 (Value.ref k1.objs.size))
 have e3:=Heap.get?_update_self (Obj.mapFields (·.setIfInBounds 1 (Value.ref k1.objs.size))) e2 (Obj.isFreed_of_fields d3)
 have t3:=(Heap.get?_update_other (k1.push {cls:=.type "traceback",dict:=none,data:=.fields ([head,.ref L,.none,rawInt L,.none]++(if pl.isEmpty then List.replicate 6 Value.none else pl)).toArray }) (Obj.mapFields (·.setIfInBounds 1 (Value.ref k1.objs.size))) (Ne.symm nTe)).trans (Heap.get?_push_size k1 rfl)
 have kp:∀b o,b≠e->k1.get? b=some o->((k1.push {cls:=.type "traceback",dict:=none,data:=.fields ([head,.ref L,.none,rawInt L,.none]++(if pl.isEmpty then List.replicate 6 Value.none else pl)).toArray }).update e (Obj.mapFields (·.setIfInBounds 1 (Value.ref k1.objs.size)))).get? b=some o:=fun b o hbe hb=>by rw[Heap.get?_update_other _ _ (Ne.symm hbe)];exact iH _ hb
 have nr:∀b o,s.heap.get? b=some o->(∀vs,o.data≠.fields vs)->b≠e:=fun b o hb hnf q=>by rw[q,he]at hb;cases hb;exact hnf vs hd
 refine wpAny_setField e2 hd hsz (h _ ⟨fun b o hbo=>kp b o (fun q=>by rw[q,hen]at hbo;cases hbo) (b1 b o hbo),hl.of_keeps fun b o hb hnf=>?_,?_,fun b o hb hnf=>?_⟩ ⟨_,e3,?_⟩)
 ·obtain⟨sl,hs⟩:=s1.2.2 b o hb;exact⟨_,kp b _ (nr b o hb hnf) hs,rfl⟩
 ·exact⟨_,_,k1.objs.size,_,_,e3,⟨Obj.cls_mapFields _ _,by rw[Array.getElem?_setIfInBounds_ne Zd];exact h0⟩,d3,by simp [hsz],b1.fresh,nTe,t3,rfl,by first | (simp;done) | (rcases hpl with rfl | ⟨_,_,_,_,_,_,_,rfl⟩ <;> simp)⟩
 ·obtain⟨sl,hs⟩:=s1.2.2 b o hb;exact⟨sl,kp b _ (nr b o hb hnf) hs⟩
 ·refine⟨by obtain⟨oc,od,odt,osl⟩:=oe;cases hd;rfl,fun vs' hv=>⟨_,d3,?_⟩⟩
  rw[hd]at hv;cases hv
  exact Array.getElem?_setIfInBounds_ne Zd
theorem Uk {base:Heap} {env:Env} {outer:List Env} {L e:Addr} {oe:Obj} {cls a0:Value} {Q:Unit->Shared->Prop} (hfr:A.frames=some (env::outer)) (hl:s.heap.FunFrames base (env::outer)) (hf:env.frame=some L) (he:s.heap.get? e=some oe) (ht:s.heap.TracedW base e cls a0) (hkb:base.StaysIn s.heap) (hen:base.get? e=none)
  (h:∀h',Heap.NotedW base (env::outer) e cls a0 (rawInt L) s.heap h'->Fl e oe h'->Q () {s with heap:=h' }):wpAny M A (noteFrame (.ref e) env) Q E s:=by
 obtain⟨oe',vs,T,oT,ts,he',⟨hcls,h0⟩,hd,h1,hnT,hTe,hT,hdT,h3⟩:=ht
 rw[he]at he';cases he';subst hcls
 unfold noteFrame;simp only [hf];refine wpAny_bind (wpAny_field he hd h1 ?_);rw[if_pos (show(Value.ref T != Value.none)=true from by simp)]
 refine wpAny_bind (wpAny_field hT hdT h3 ?_);rw[if_neg (show ¬ ((Value.none == rawInt L)=true) from by simp [rawInt])];refine wpAny_bind (wpAny_setField hT hdT (Array.getElem?_eq_some_iff.mp h3).1 ?_)
 have ot:∀b,b≠T->(s.heap.update T (Obj.mapFields (·.setIfInBounds 3 Value.none))).get? b=s.heap.get? b:=fun b hb=>Heap.get?_update_other _ _ (Ne.symm hb)
 have nr:∀b o,s.heap.get? b=some o->(∀vs,o.data≠.fields vs)->b≠T:=fun b o hb hnf q=>by rw[q,hT]at hb;cases hb;exact hnf ts hdT
 refine Fm hfr (hl.of_keeps fun b o hb hnf=>⟨o,(ot b (nr b o hb hnf)).trans hb,rfl⟩) hf ((ot e (Ne.symm hTe)).trans he) (fun b o hbo=>(ot b fun q=>by rw[q,hnT]at hbo;cases hbo).trans (hkb b o hbo)) hen hd (Array.getElem?_eq_some_iff.mp h1).1 h0
  fun h' ⟨x1,x2,x3,x4⟩ hD=>h h' ⟨x1,x2,x3,fun b o hb hnf=>x4 b o ((ot b (nr b o hb hnf)).trans hb) hnf⟩ hD
theorem Mo {base:Heap} {l:List Env} {e:Addr} {oe:Obj} {cls a0 fl:Value} {Q:Unit->Shared->Prop} (hkb:base.StaysIn s.heap) (hl:s.heap.FunFrames base l) (he:s.heap.get? e=some oe) (ht:s.heap.TracedAtW base e cls a0 fl)
  (h:∀h',base.StaysIn h'->h'.FunFrames base l->h'.TracedW base e cls a0->(∀b o,s.heap.get? b=some o->(∀vs,o.data≠.fields vs)->h'.get? b=some o)->h'.get? e=some oe->Q () {s with heap:=h' }):wpAny M A (setFlight (.ref e) none) Q E s:=by
 obtain⟨oe',vs,T,oT,ts,he',hcls,hd,h1,hnT,hTe,hT,hdT,h3⟩:=ht
 rw[he]at he';cases he'
 have z3:3<ts.size:=(Array.getElem?_eq_some_iff.mp h3).1
 have ot:∀b,b≠T->(s.heap.update T (Obj.mapFields (·.setIfInBounds 3 ((none:Option Addr).elim Value.none fun f=>rawInt f)))).get? b=s.heap.get? b:=fun b hb=>Heap.get?_update_other _ _ (Ne.symm hb)
 have nr:∀b o,s.heap.get? b=some o->(∀vs,o.data≠.fields vs)->b≠T:=fun b o hb hnf q=>by rw[q,hT]at hb;cases hb;exact hnf ts hdT
 unfold setFlight;refine wpAny_bind (wpAny_field he hd h1 ?_);rw[if_pos (show(Value.ref T != Value.none)=true from by simp)]
 refine wpAny_setField hT hdT z3 (h _ (fun b o hbo=>(ot b fun q=>by rw[q,hnT]at hbo;cases hbo).trans (hkb b o hbo)) (hl.of_keeps fun b o hb hnf=>⟨o,(ot b (nr b o hb hnf)).trans hb,rfl⟩) ?_ (fun b o hb hnf=>(ot b (nr b o hb hnf)).trans hb) ((ot e (Ne.symm hTe)).trans he))
 exact⟨oe,vs,T,_,_,(ot e (Ne.symm hTe)).trans he,hcls,hd,h1,hnT,hTe,Heap.get?_update_self _ hT (Obj.isFreed_of_fields (Obj.data_mapFields hdT _)),Obj.data_mapFields hdT _,by simp [z3]⟩
theorem Qs {base:Heap} {env:Env} {outer:List Env} {L e:Addr} {oe:Obj} {vs:Array Value} {a0:Value} {Q:Unit->Shared->Prop} (hfr:A.frames=some (env::outer)) (hl:s.heap.FunFrames base (env::outer)) (hf:env.frame=some L) (he:s.heap.get? e=some oe) (hkb:base.StaysIn s.heap) (hen:base.get? e=none) (hd:oe.data=.fields vs) (h1:vs[1]?=some .none) (h0:vs[0]?=some a0)
  (h:∀h',Heap.LeftW base (env::outer) e oe.cls a0 s.heap h'->Fl e oe h'->Q () {s with heap:=h' }):wpAny M A (leaving env (.ref e)) Q E s:=by
 unfold leaving noteFrame;simp only [hf];refine wpAny_bind (wpAny_bind (wpAny_field he hd h1 ?_));rw[if_neg Zd]
 refine Fm hfr hl hf he hkb hen hd (Array.getElem?_eq_some_iff.mp h1).1 h0 fun k ⟨x1,x2,x3,x4⟩ ⟨oe',y1,y2⟩=>?_
 exact Mo (s:={s with heap:=k }) x1 x2 y1 x3 fun h' z1 z2 z3 z4 z5=>h h' ⟨z1,z2,z3,fun b o hb hnf=>let ⟨sl,q⟩:=x4 b o hb hnf;⟨sl,z4 b _ q hnf⟩⟩ ⟨oe',z5,y2⟩
end
section
variable {P:Program} {w:World} {H H0:Hp} {h h1 h2:Heap} {a:Addr} {o:HO}
theorem ObjOk.has (x:ObjOk P w H h a o):∃ob,h.get? a=some ob:=by
 cases o with
 | lst xs=>obtain⟨_,_,_,_,e⟩:=x;exact⟨_,e⟩
 | tup xs=>obtain⟨_,_,_,ob,e,_⟩:=x;exact⟨_,e⟩
 | dK kvs=>obtain⟨_,_,_,_,ob,_,_,e,_⟩:=x;exact⟨_,e⟩
 | dT kvs=>obtain⟨_,_,_,_,ob,_,_,e,_⟩:=x;exact⟨_,e⟩
 | set S n=>obtain⟨ob,_,_,_,e,_⟩:=x;exact⟨_,e⟩
 | ins C dx fs=>obtain⟨_,_,_,e,_⟩:=x;exact⟨_,e⟩
 | own y=>exact x
 | xd fs=>obtain⟨_,⟨ob,_,_,e,_⟩,_⟩:=x;exact⟨_,e⟩
 | rng lo hi=>obtain⟨_,_,_,e⟩:=x;exact⟨_,e⟩
 | frz ob u=>exact⟨_,x.1⟩
 | tbl ps=>exact⟨_,x⟩
 | met f y=>exact⟨_,x⟩
 | ext φ=>exact x.2.1
theorem HOk.none_of (x:HOk P w H h) (e:h.get? a=none):H a=none:=by
 cases q:H a with
 | none=>rfl
 | some u=>
  obtain⟨ob,z⟩:=(x a u q).has
  rw[e]at z;cases z
theorem wN {fs hid:List Addr} {s0:Heap} (un:Un fs [] H0 H s0 h1) (hok:HOk P w H h1) (hh:∀b∈hid,b∈fs∨(s0.get? b=none/\H b=none)) (hsub:∀b∈fs,b∈hid) (hfr:∀b∈fs,H0 b=none/\∃o,s0.get? b=some o/\∀vs,o.data≠.fields vs)
  (hB:(W.hideAll h1 hid).StaysIn h2) (hS:∀b o,h1.get? b=some o->(∀vs,o.data≠.fields vs)->∃sl,h2.get? b=some {o with slots:=sl }):Un fs [] H0 H s0 h2/\HOk P w H h2:=by
 have kp:∀b ob,h1.get? b=some ob->b∉hid->h2.get? b=some ob:=fun b ob q n=>hB b ob (W.hideAll_get _ q n)
 have nh:∀b ob,s0.get? b=some ob->b∉fs->b∉hid:=fun b ob q n z=>by
  rcases hh b z with y | y
  ·exact n y
  ·rw[y.1]at q;cases q
 have sl:∀b ob,s0.get? b=some ob->b∈fs->∃sl,h2.get? b=some {ob with slots:=sl }:=fun b ob q hb=>by
  obtain⟨h0,o',q',nf⟩:=hfr b hb
  rw[q]at q';cases q'
  obtain⟨sl,e⟩:=un.slot b ob q h0 hb Zs
  obtain⟨sl2,e2⟩:=hS b {ob with slots:=sl } e nf
  exact⟨sl2,e2⟩
 refine⟨⟨fun b ob q n hb hx=>kp b ob (un.keep b ob q n hb hx) (nh b ob q hb),fun b ob q n hb hx=>sl b ob q hb,un.free,fun b ob q hx=>?_,un.tups,un.frzs,un.tbls⟩,fun b u e=>?_⟩
 ·by_cases hb:b∈fs
  ·obtain⟨_,z⟩:=sl b ob q hb
   exact⟨_,z⟩
  ·obtain⟨o',z⟩:=un.there b ob q hx
   exact⟨o',kp b o' z (nh b ob q hb)⟩
 ·have nt:∀c v,H c=some v->c∉hid:=fun c v hc z=>by
   rcases hh c z with y | y
   ·obtain⟨h0,o',q',_⟩:=hfr c y
    rw[un.free c o' q' h0 Zs]at hc
    cases hc
   ·rw[y.2]at hc;cases hc
  refine(hok b u e).stay (fun c v hc q=>kp c v q ?_) (fun _ q=>q) fun _ _ q=>q
  rcases hc with z | z
  ·rw[z];exact nt b u e
  ·exact nt c _ z
theorem rW {fs hid:List Addr} {s0:Heap} {T:Addr} {oT:Obj} {ts:Array Value} (un:Un fs [] H0 H s0 h1) (hok:HOk P w H h1) (hh:∀b∈hid,b∈fs∨(s0.get? b=none/\H b=none)) (hfr:∀b∈fs,H0 b=none/\∃o,s0.get? b=some o/\∀vs,o.data≠.fields vs)
  (hS:∀b o,h1.get? b=some o->(∀vs,o.data≠.fields vs)->∃sl,h2.get? b=some {o with slots:=sl }) (hn:(W.hideAll h1 hid).get? T=none) (hT:h2.get? T=some oT) (hd:oT.data=.fields ts):s0.get? T=none/\H T=none:=by
 by_cases hm:T∈hid
 ·rcases hh T hm with y | y
  ·obtain⟨h0,o',q',nf⟩:=hfr T y
   obtain⟨sl,e⟩:=un.slot T o' q' h0 y Zs
   obtain⟨sl2,e2⟩:=hS T _ e nf
   rw[hT]at e2;cases e2
   exact absurd hd (nf ts)
  ·exact y
 ·have z:h1.get? T=none:=by
   cases q:h1.get? T with
   | none=>rfl
   | some ob=>
    rw[W.hideAll_get _ q hm]at hn;cases hn
  refine⟨?_,hok.none_of z⟩
  cases q:s0.get? T with
  | none=>rfl
  | some ob=>
   obtain⟨o',e⟩:=un.there T ob q Zs
   rw[z]at e;cases e
end
def Xf (h:Heap) (a:Addr) (cls fl:Value) (T:Addr):Prop:=
 ∃oe vs a0 oT ts,h.get? a=some oe/\oe.cls=cls/\vs[0]?=some a0/\oe.data=.fields vs/\vs[1]?=some (.ref T)/\T≠a/\h.get? T=some oT/\oT.data=.fields ts/\ts[3]?=some fl
def Xg (h:Heap) (a:Addr) (od:Option Addr):Prop:=∃oe vs,h.get? a=some oe/\oe.data=.fields vs/\(∀dx,od=some dx->oe.dict=some dx)/\(od=none->vs[2]?=some .none)
structure Fly (P:Program) (w:World) (l:List Env) (H0:Hp) (s0:Shared) (H:Hp) (a:Addr) (cls:Value) (od:Option Addr) (fl:Value) (s:Shared):Prop where
 na:s0.heap.get? a=none
 os:s.os=s0.os
 bare:AllBare s.gens
 un:Un (iF l) [] H0 H s0.heap s.heap
 hok:HOk P w H s.heap
 ha:H a=none
 tr:∃T,Xf s.heap a cls fl T/\s0.heap.get? T=none/\H T=none
 dd:Xg s.heap a od
def vK (P:Program) (w:World):Cy:=fun outer H s E e s'=>∃a cls od H',e=Value.ref a/\Fly P w outer H s H' a cls od .none s'/\E cls od H'
section
variable {X:Cx} {pins:List (Addr × Obj)} {σ:St} {H H0:Hp} {s s0:Shared} {a:Addr} {cls fl:Value} {od:Option Addr} {M:Model} {A:Around} {E:Value->Shared->Prop} {Q:Unit->Shared->Prop}
theorem rX {l:List Env} {env:Env} {b:Addr} (he:env∈l) (hb:env.frame=some b):b∈iF l:=List.mem_filterMap.mpr ⟨env,he,hb⟩
theorem Inv.frms (I:Inv X pins σ H s):∀b∈iF X.stack,H b=none/\∃o,s.heap.get? b=some o/\∀vs,o.data≠.fields vs:=fun b hb=>
 ⟨I.stkFree b hb,(I.stack.mem hb).2⟩
theorem Fly.inv (F:Fly X.prog X.w X.stack H0 s0 H a cls od fl s) (I0:Inv X pins σ H0 s0):Inv X pins σ H s:=I0.call' F.os F.un F.hok F.bare (fun _ z=>nomatch z)
theorem Fn (I0:Inv X pins σ H0 s0) (F:Fly X.prog X.w X.stack H0 s0 H a cls od .none s) (hA:A.frames=some X.stack) (hst:X.stack=X.env::X.outer) (hf:X.env.frame=some X.env.locals)
  (k:∀s',Fly X.prog X.w X.stack H0 s0 H a cls od (rawInt X.env.locals) s'->Q () s'):wpAny M A (noteFrame (.ref a) X.env) Q E s:=by
 have I:=F.inv I0
 obtain⟨T,⟨oe,vs,a0,oT,ts,e1,e2,e3,e4,e5,e6,e7,e8,e9⟩,nT,hT⟩:=F.tr
 have hin:∀env∈X.stack,∀b,env.frame=some b->b∈iF X.stack++[a,T]:=fun env he b hb=>List.mem_append_left _ (rX he hb)
 have hh:∀b∈iF X.stack++[a,T],b∈iF X.stack∨(s0.heap.get? b=none/\H b=none):=fun b hb=>by
  rcases Zma.mp hb with z | z
  ·exact .inl z
  ·rcases List.mem_cons.mp z with y | y
   ·rw[y];exact .inr ⟨F.na,F.ha⟩
   ·rw[Zms.mp y];exact .inr ⟨nT,hT⟩
 have hm1:a∈iF X.stack++[a,T]:=List.mem_append_right _ nC
 have hm2:T∈iF X.stack++[a,T]:=List.mem_append_right _ (oX _ nC)
 have ff:=W.funFrames_hide I.stack hin
 have go:=Uk (M:=M) (A:=A) (E:=E) (Q:=Q) (s:=s) (base:=W.hideAll s.heap (iF X.stack++[a,T])) (env:=X.env) (outer:=X.outer) (L:=X.env.locals) (e:=a) (cls:=cls) (a0:=a0) (by rw[hA,hst]) (by rw[<- hst];exact ff) hf e1
  ⟨oe,vs,T,oT,ts,e1,⟨e2,e3⟩,e4,e5,W.hideAll_none _ hm2,e6,e7,e8,e9⟩ (fun b o q=>W.of_hideAll _ q) (W.hideAll_none _ hm1) ?_
 ·exact go
 ·rintro h' ⟨k1,k2,⟨oe',vs',T',oT',ts',q1,⟨q2,q3⟩,q4,q5,q6,q7,q8,q9,q10⟩,k4⟩ ⟨od',d1,d2⟩
  obtain⟨u2,ok2⟩:=wN F.un F.hok hh (fun b hb=>List.mem_append_left _ hb) I0.frms k1 k4
  obtain⟨n1,n2⟩:=rW F.un F.hok hh I0.frms k4 q6 q8 q9
  refine k _ ⟨F.na,F.os,F.bare,u2,ok2,F.ha,⟨T',⟨oe',vs',a0,oT',ts',q1,q2,q3,q4,q5,q7,q8,q9,q10⟩,n1,n2⟩,?_⟩
  obtain⟨o1,v1,z1,z2,z3,z4⟩:=F.dd
  rw[e1]at z1;cases z1
  obtain⟨v2,y1,y2⟩:=d2.2 _ z2
  exact⟨od',v2,d1,y1,fun dx hdx=>d2.1.trans (z3 dx hdx),fun hn=>y2.trans (z4 hn)⟩
theorem uF (I0:Inv X pins σ H0 s0) (F:Fly X.prog X.w X.stack H0 s0 H a cls od fl s) (k:∀s',Fly X.prog X.w X.stack H0 s0 H a cls od .none s'->Q () s'):wpAny M A (setFlight (.ref a) none) Q E s:=by
 have I:=F.inv I0
 obtain⟨T,⟨oe,vs,a0,oT,ts,e1,e2,e3,e4,e5,e6,e7,e8,e9⟩,nT,hT⟩:=F.tr
 have hin:∀env∈X.stack,∀b,env.frame=some b->b∈iF X.stack++[a,T]:=fun env he b hb=>List.mem_append_left _ (rX he hb)
 have hh:∀b∈iF X.stack++[a,T],b∈iF X.stack∨(s0.heap.get? b=none/\H b=none):=fun b hb=>by
  rcases Zma.mp hb with z | z
  ·exact .inl z
  ·rcases List.mem_cons.mp z with y | y
   ·rw[y];exact .inr ⟨F.na,F.ha⟩
   ·rw[Zms.mp y];exact .inr ⟨nT,hT⟩
 have hm2:T∈iF X.stack++[a,T]:=List.mem_append_right _ (oX _ nC)
 refine Mo (base:=W.hideAll s.heap (iF X.stack++[a,T])) (l:=X.stack) (cls:=cls) (a0:=a0) (fl:=fl) (fun b o q=>W.of_hideAll _ q) (W.funFrames_hide I.stack hin) e1 ⟨oe,vs,T,oT,ts,e1,⟨e2,e3⟩,e4,e5,W.hideAll_none _ hm2,e6,e7,e8,e9⟩ ?_
 rintro h' k1 k2 ⟨oe',vs',T',oT',ts',q1,⟨q2,q3⟩,q4,q5,q6,q7,q8,q9,q10⟩ k4 kE
 have k5:∀b o,s.heap.get? b=some o->(∀vs,o.data≠.fields vs)->∃sl,h'.get? b=some {o with slots:=sl }:=fun b o q n=>⟨o.slots,k4 b o q n⟩
 obtain⟨u2,ok2⟩:=wN F.un F.hok hh (fun b hb=>List.mem_append_left _ hb) I0.frms k1 k5
 obtain⟨n1,n2⟩:=rW F.un F.hok hh I0.frms k5 q6 q8 q9
 refine k _ ⟨F.na,F.os,F.bare,u2,ok2,F.ha,⟨T',⟨oe',vs',a0,oT',ts',q1,q2,q3,q4,q5,q7,q8,q9,q10⟩,n1,n2⟩,?_⟩
 obtain⟨o1,v1,z1,z2,z3,z4⟩:=F.dd
 rw[e1]at z1;cases z1
 exact⟨oe,v1,kE,z2,z3,z4⟩
theorem Fo {pins:List (Addr × Obj)} {σ0 σ:St} {cls:Value} {P:Program} {w:World} {K:W.Frag} {mg:Str->Option Value} {base:Heap} {N:List Str} {qual:Str} {scope:Scope} {f:Addr} {cd:Value} {A:Around} {outer:List Env} {s s0 s1:Shared} {H H0 H1:Hp} {E:XK} {e t:Addr} {dx:Option Addr} {vs:Array Value} {sl:Array (Option Value)}
  (I0:Inv (eT (vK P w) P w K mg base N qual scope f cd A outer s H E) pins σ0 H0 s0) (n0:s0.heap.get? e=none) (he1:H1 e=none) (I:Inv (eT (vK P w) P w K mg base N qual scope f cd A outer s H E) pins σ H1 s1) (hf:(envOfC qual scope s.heap.objs.size f cd).frame=some (envOfC qual scope s.heap.objs.size f cd).locals)
  (he:s1.heap.get? e=some {cls:=cls,dict:=dx,data:=.fields vs,slots:=sl }) (hv0:vs[0]?=some (.ref t)) (hv1:vs[1]?=some .none) (hv2:dx=none->vs[2]?=some .none) (q:E cls dx H1) :
  (eT (vK P w) P w K mg base N qual scope f cd A outer s H E).xe (.ref e) s1:=by
 have und:Un (iF outer) [] H H1 s.heap s1.heap:=I.base
 have und0:Un (iF outer) [] H H0 s.heap s0.heap:=I0.base
 have fr0:∀b∈iF outer,H b=none/\∃o,s.heap.get? b=some o/\∀vs,o.data≠.fields vs:=fun b hb=>⟨I.ok.frf b hb,(I.ok.funs.mem hb).2⟩
 have st:(eT (vK P w) P w K mg base N qual scope f cd A outer s H E).stack=envOfC qual scope s.heap.objs.size f cd::outer:=rfl
 have nL:s.heap.get? (envOfC qual scope s.heap.objs.size f cd).locals=none:=Heap.get?_none_of_le I.ok.above
 have ne0:s.heap.get? e=none:=by
  cases z:s.heap.get? e with
  | none=>rfl
  | some ob=>
   obtain⟨o',y⟩:=und0.there e ob z Zs
   rw[n0]at y;cases y
 have hin:∀env∈(envOfC qual scope s.heap.objs.size f cd::outer),∀b,env.frame=some b->b∈iF (envOfC qual scope s.heap.objs.size f cd::outer)++[e]:=fun env he b hb=>List.mem_append_left _ (rX he hb)
 have hh:∀b∈iF (envOfC qual scope s.heap.objs.size f cd::outer)++[e],b∈iF outer∨(s.heap.get? b=none/\H1 b=none):=fun b hb=>by
  rcases Zma.mp hb with z | z
  ·unfold iF at z;rw[List.filterMap_cons,hf]at z;rcases List.mem_cons.mp z with y | y
   ·rw[y];exact .inr ⟨nL,I.free⟩
   ·exact .inl y
  ·rw[Zms.mp z];exact .inr ⟨ne0,he1⟩
 have hsub:∀b∈iF outer,b∈iF (envOfC qual scope s.heap.objs.size f cd::outer)++[e]:=fun b hb=>by
  refine List.mem_append_left _ ?_
  unfold iF;rw[List.filterMap_cons,hf];exact oX _ hb
 have hm1:e∈iF (envOfC qual scope s.heap.objs.size f cd::outer)++[e]:=List.mem_append_right _ nC
 have ff0:s1.heap.FunFrames base (envOfC qual scope s.heap.objs.size f cd::outer):=I.stack
 have go:=Qs (M:=model P w) (A:=A.deeper (envOfC qual scope s.heap.objs.size f cd)) (E:=fun e' s''=>vK P w outer H s E e' s'') (Q:=fun _ s''=>vK P w outer H s E (.ref e) s'') (s:=s1) (base:=W.hideAll s1.heap (iF (envOfC qual scope s.heap.objs.size f cd::outer)++[e])) (env:=envOfC qual scope s.heap.objs.size f cd) (outer:=outer) (e:=e) (a0:=.ref t)
  I.ok.frames (W.funFrames_hide ff0 hin) hf he (fun b o q=>W.of_hideAll _ q) (W.hideAll_none _ hm1) rfl hv1 hv0 ?_
 ·exact go
 ·rintro h2 ⟨k1,k2,⟨oe',vs',T',oT',ts',q1,⟨q2,q3⟩,q4,q5,q6,q7,q8,q9,q10⟩,k4⟩ ⟨od',d1,d2⟩
  obtain⟨u2,ok2⟩:=wN und I.hok hh hsub fr0 k1 k4
  obtain⟨n1,n2⟩:=rW und I.hok hh fr0 k4 q6 q8 q9
  exact⟨e,cls,dx,H1,rfl,⟨ne0,I.os,I.bare,u2,ok2,he1,⟨T',⟨oe',vs',_,oT',ts',q1,q2,q3,q4,q5,q7,q8,q9,q10⟩,n1,n2⟩,let ⟨v2,y1,y2⟩:=d2.2 _ rfl;⟨od',v2,d1,y1,fun dx' hdx=>d2.1.trans hdx,fun hn=>y2.trans (hv2 hn)⟩⟩,q⟩
theorem Fp {P:Program} {w:World} {K:W.Frag} {mg:Str->Option Value} {base:Heap} {N:List Str} {qual:Str} {scope:Scope} {f:Addr} {cd:Value} {A:Around} {outer:List Env} {s s1:Shared} {H H1:Hp} {E:XK} {e:Addr} {h':Heap} {args:List Value}
  (I:Inv (eT (vK P w) P w K mg base N qual scope f cd A outer s H E) pins σ H1 s1) (hf:(envOfC qual scope s.heap.objs.size f cd).frame=some (envOfC qual scope s.heap.objs.size f cd).locals) (hx:Heap.MadeExcOf s1.heap h' e cls args) (q:E cls none H1) :
  (eT (vK P w) P w K mg base N qual scope f cd A outer s H E).xe (.ref e) {s1 with heap:=h' }:=by
 obtain⟨t,he,_,_⟩:=hx.there
 exact Fo I hx.new (I.hok.none_of hx.new) (I.kept hx.keeps) hf he rfl rfl (fun _=>rfl) q
end
end L2
namespace L2
open PySem PySem.Spec PyProof.Rows
abbrev Mp:List Value:=[.type "ValueError",.type "Exception",.type "BaseException",.type "object"]
structure XCls (K:W.Frag) (mg:Str->Option Value) (x:Str) (C:Addr):Prop where
 at_:mg x=some (.ref C)
 ok:W.excIn K C Mp "ValueError.__new__"=true
theorem XCls.obj {K:W.Frag} {mg:Str->Option Value} {x:Str} {C:Addr} {h:Heap} (c:XCls K mg x C) (X:K.In h) :
  ∃bm N nm q bs hdct sn sub ab col dd k0 k1 k2 k3 k5 mN,h.get? C=some (excClassObj nm q C N bs bm hdct sn sub ab col dd k0 k1 k2 k3 k5 "ValueError.__new__")/\h.Ns N mN/\mN "__init__"=none/\OwnTail h Mp bm:=by
 have q:=c.ok
 unfold W.excIn at q;split at q
 ·rename_i dd cd sl ho
  split at q
  ·rename_i C' bm k0 k1 k2 k3 n k5 hm hs
   simp only [Bool.and_eq_true,beq_iff_eq,Bool.not_eq_true']at q
   obtain⟨⟨⟨⟨⟨e1,e2⟩,hdel⟩,ht⟩,hok⟩,hni⟩:=q
   subst e1 e2;obtain⟨nm,bs,mro,ns,qn,hd,sn,sub,ab,col,del⟩:=cd
   dsimp only at hm hdel hok hni
   subst hm hdel;have hsl:sl=#[k0,k1,k2,k3,some (.builtin "ValueError.__new__"),k5]:=by
    obtain⟨l⟩:=sl
    simp only at hs
    rw[hs]
   subst hsl;exact⟨bm,ns,nm,qn,bs,hd,sn,sub,ab,col,dd,k0,k1,k2,k3,k5,_,X _ _ ho,.of_isNs (W.isNs_of_in X hok),W.nsMap_none_of_in X hok hni,W.tail_of_in X ht⟩
  ·cases q
 ·cases q
def Fq (C:Addr) (E:XK) (t:TA):TS:=fun _ σ H=>t σ H fun vs H1=>vs.length<=sizeLine/\E (.ref C) none H1
def wO (X:Cx) (E:XK):Prop:=∀(pins:List (Addr × Obj)) (σ:St) (H:Hp) (s:Shared) (h':Heap) (e:Addr) (cls:Value) (args:List Value),Inv X pins σ H s->Heap.MadeExcOf s.heap h' e cls args->E cls none H->X.xe (.ref e) {s with heap:=h' }
theorem Ay {P:Program} {w:World} {K:W.Frag} {mg:Str->Option Value} {base:Heap} {N:List Str} {qual:Str} {scope:Scope} {f:Addr} {cd:Value} {A:Around} {outer:List Env} {s:Shared} {H:Hp} {E:XK}
  (hf:(envOfC qual scope s.heap.objs.size f cd).frame=some (envOfC qual scope s.heap.objs.size f cd).locals:=by rfl):wO (eT (vK P w) P w K mg base N qual scope f cd A outer s H E) E:=
 fun pins σ H1 s1 h' e cls args I hx q=>Fp I hf hx q
section
variable {X:Cx} {x:Str} {C:Addr} {E:XK} {e:Expr} {es:List Expr} {t:TA} {np cpos pos:Pos}
theorem Fs (c:XCls X.K X.mg x C) (hl:wO X E) (hc:X.calm=true) (hg:Gl X x) (ha:PA X (e::es) t) (hs:aJ e=true) (h2:es.all aJ=true) (hdb:(x == ("__debug__":Str))=false) :
  PS X (.Raise (some (.Call (.Name x np) (e::es) [] cpos)) none pos) (Fq C E t):=by
 intro pins s σ H D I h;obtain⟨tl,N,nm,q,bs,hdct,sn,sub,ab,col,dd,k0,k1,k2,k3,k5,mN,hC,hN,hni,T⟩:=c.obj I.mod.kin
 have he:starEach (e::es) X.env=(false,eval e X.env)::starEach es X.env:=aZ hs
 refine wpAny_Raise_call_subT (C:=C) (nm:=nm) (q:=q) (N:=N) (bs:=bs) (bm:=tl) (hdct:=hdct) (sn:=sn) (sub:=sub) (ab:=ab) (col:=col) (dd:=dd) (k0:=k0) (k1:=k1) (k2:=k2) (k3:=k3) (k5:=k5)
  PySem.F.excBase_ValueError (mN:=mN) (T.hasType PySem.F.excBase_ValueError.hasBase) (I.ok.hd hc) (by rw[he];show(false||(backTo cpos (starEach es X.env)).any (·.1))=false;rw[cK h2];rfl) hni (iV I hg c.at_ ⟨rfl,?_⟩ hdb)
 have hp:=ha cpos pins s σ H _ I h
 rw[he]at hp ⊢;refine Calls.evalArgs_plain (bG hp fun us s1 ⟨vs,H1,I1,r,z,q⟩=>⟨rfl,by rw[<- r.length];exact z,I1.bk _ _ hC,hN.keeps I1.bk,T.keeps I1.bk,fun h' e' hm=>hl pins σ H1 s1 h' e' _ _ I1 hm q⟩)
end
def yM (X:Cx) (Ex:St->Value->Option Addr->Hp->Prop):Prop:=∀(pins:List (Addr × Obj)) (σ:St) (H:Hp) (s:Shared) (e:Value) (s':Shared),Inv X pins σ H s->vK X.prog X.w X.stack H s (fun cls od H'=>Ex σ cls od H') e s'->X.xe e s'
def XF (X:Cx) (Ex:St->Value->Option Addr->Hp->Prop):Value->Shared->Prop:=fun e s'=>∃ σ H s,Inv X [] σ H s/\vK X.prog X.w X.stack H s (fun cls od H'=>Ex σ cls od H') e s'
abbrev Cx.pin (X:Cx) (pn:List (Addr × Obj)):Cx:={X with pn:=pn }
abbrev Cx.trying (X:Cx) (pn:List (Addr × Obj)) (Ex:St->Value->Option Addr->Hp->Prop):Cx:={X with pn:=pn,xe:=XF (X.pin pn) Ex }
abbrev Cx.handling (X:Cx) (a:Addr):Cx:={X with A:=X.A.mark (some (.ref a)),calm:=false,xe:=fun _ _=>False }
section
variable {X:Cx} {pins pn:List (Addr × Obj)} {σ:St} {H:Hp} {s:Shared} {Ex:St->Value->Option Addr->Hp->Prop} {a:Addr}
theorem Cx.Ok.pin (ok:X.Ok):(X.pin pn).Ok:=⟨ok.mod,ok.kind,ok.glob,ok.blt,ok.above,ok.inj,ok.has,ok.cab,ok.hd,ok.frames,ok.stk,ok.exf,ok.bs,ok.bsz,ok.noex,ok.exfs,ok.funs,ok.frf⟩
theorem Cx.Ok.handling (ok:X.Ok):(X.handling a).Ok:=⟨ok.mod,ok.kind,ok.glob,ok.blt,ok.above,ok.inj,ok.has,ok.cab,(fun z=>nomatch z),ok.frames,ok.stk,ok.exf,ok.bs,ok.bsz,ok.noex,ok.exfs,ok.funs,ok.frf⟩
theorem Inv.pnIn (I:Inv X pins σ H s):Inv (X.pin (X.pn++pins)) [] σ H s:=⟨I.ok.pin,I.os,I.bare,I.base,I.loc,I.cell,I.free,I.freeC,fun p hp=>I.pin p (by rw[List.append_nil]at hp;exact hp),I.hok,I.len⟩
theorem Inv.pnOut (I:Inv (X.pin (X.pn++pins)) [] σ H s) (ok:X.Ok):Inv X pins σ H s:=⟨ok,I.os,I.bare,I.base,I.loc,I.cell,I.free,I.freeC,fun p hp=>I.pin p (by rw[List.append_nil];exact hp),I.hok,I.len⟩
theorem Inv.handling (I:Inv X pins σ H s):Inv (X.handling a) pins σ H s:=⟨I.ok.handling,I.os,I.bare,I.base,I.loc,I.cell,I.free,I.freeC,I.pin,I.hok,I.len⟩
theorem Inv.handled (I:Inv (X.handling a) pins σ H s) (ok:X.Ok):Inv X pins σ H s:=⟨ok,I.os,I.bare,I.base,I.loc,I.cell,I.free,I.freeC,I.pin,I.hok,I.len⟩
theorem Inv.trying (I:Inv (X.pin pn) pins σ H s):Inv (X.trying pn Ex) pins σ H s:=I.wish _
theorem Inv.tried (I:Inv (X.trying pn Ex) pins σ H s):Inv (X.pin pn) pins σ H s:=Inv.unwish (X:=X.pin pn) (E:=XF (X.pin pn) Ex) I
theorem rY:yM (X.trying pn Ex) Ex:=fun pins σ H s e s' I h=>⟨σ,H,s,I.tried.pins_of (fun p hp=>nomatch hp),h⟩
theorem SP.handled {D:jY} {f:Flow} (h:SP (X.handling a) pins D f s) (ok:X.Ok):SP X pins D f s:=by
 cases f with
 | next=>obtain⟨σ',H',I,q⟩:=h;exact⟨σ',H',I.handled ok,q⟩
 | brk=>obtain⟨σ',H',I,q⟩:=h;exact⟨σ',H',I.handled ok,q⟩
 | cont=>obtain⟨σ',H',I,q⟩:=h;exact⟨σ',H',I.handled ok,q⟩
 | ret u=>obtain⟨v,σ',H',I,r,q⟩:=h;exact⟨v,σ',H',I.handled ok,r,q⟩
theorem SP.tried {D:jY} {f:Flow} (h:SP (X.trying (X.pn++pins) Ex) [] D f s) (ok:X.Ok):SP X pins D f s:=by
 cases f with
 | next=>obtain⟨σ',H',I,q⟩:=h;exact⟨σ',H',I.tried.pnOut ok,q⟩
 | brk=>obtain⟨σ',H',I,q⟩:=h;exact⟨σ',H',I.tried.pnOut ok,q⟩
 | cont=>obtain⟨σ',H',I,q⟩:=h;exact⟨σ',H',I.tried.pnOut ok,q⟩
 | ret u=>obtain⟨v,σ',H',I,r,q⟩:=h;exact⟨v,σ',H',I.tried.pnOut ok,r,q⟩
end
end L2
namespace L2
open PySem PySem.Spec PyProof.Rows
namespace R
section
variable {X:Cx} {x n c:Str} {C:Addr} {E:XK} {e:Expr} {es:List Expr} {t:TA} {np cpos pos p hpos:Pos} {m i:Nat} {ps:List Str} {sp:Sp} {Ex:St->Value->Option Addr->Hp->Prop} {K:W.Frag} {body suite:List Stmt} {s0:Stmt} {tb:(St->Value->Option Addr->Hp->Prop)->TS} {th:TS}
theorem ip (cx:XCls X.K X.mg x C) (hl:wO X E) (hg:Gl X x) (ha:XA X (e::es) t) (hc:X.calm=true:=by rfl) (hs:aJ e=true:=by rfl) (h2:es.all aJ=true:=by rfl) (hdb:(x == ("__debug__":Str))=false:=by decide) :
  XS X (.Raise (some (.Call (.Name x np) (e::es) [] cpos)) none pos) (Fq C E t):=⟨Fs cx hl hc hg ha.h hs h2 hdb⟩
end
end R
end L2
namespace L2
open PySem PySem.Spec PyProof.Rows
inductive DW (one other nm:Str) (n:Int):Str->List V->List (Str × Int)->List (Str × List V)->Prop
 | add:DW one other nm n "add" [.str "add",.str nm,.int n] [(nm,n)] []
 | take:DW one other nm n "take" [.str "take",.str nm,.int n] [(nm,-n)] []
 | move:DW one other nm n "move" [.str "move",.str one,.str other,.int n] [(one,-n),(other,n)] []
 | send:DW one other nm n "send" [.str "send",.str one,.str nm,.int n] [(nm,-n)] [(one,[.str "add",.str nm,.int n])]
 | fetch:DW one other nm n "fetch" [.str "fetch",.str one,.str nm,.int n] [(nm,n)] [(one,[.str "take",.str nm,.int n])]
 | pass:DW one other nm n "pass" [.str "pass",.str one,.str other,.str nm,.int n] [] [(one,[.str "take",.str nm,.int n]),(other,[.str "add",.str nm,.int n])]
structure Ul (wd:Str) (xs:List V) (cs:List (Str × Int)) (as:List (Str × List V)):Prop where
 ex:∃one other nm n,DW one other nm n wd xs cs as
def Um (H:Hp) (q:Str × List V) (v:V):Prop:=∃a d,v=.ref a/\H a=some (.tup [.str q.1,.ref d])/\H d=some (.tup q.2)
def lF:Sp:=fun vs H Q _=>∃p wd xs cs as,vs=[.ref p]/\H p=some (.tup xs)/\Ul wd xs cs as/\∀t zs H',Same H H'->H' t=some (.tup (dO zs))->ZAt H' zs->zs.map (·.2)=cs->Q (.ref t) H'
def wP:Sp:=fun vs H Q _=>∃p wd xs cs as,vs=[.ref p]/\H p=some (.tup xs)/\Ul wd xs cs as/\∀t us H',Same H H'->H' t=some (.tup us)->Paired (Um H') as us->Q (.ref t) H'
abbrev tS (z:Str):TV:=.sc (.str z)
abbrev tI (n:Int):TV:=.sc (.int n)
def Wn (f:Str->Int) (cs:List (Str × Int)):List V:=.str "is"::cs.map fun q=>V.int (f q.1+q.2)
def qG (C:Addr):Sp:=fun vs H Q _=>∃b p wd xs cs as prs,vs=[.ref b,.ref p]/\BookAt C H b prs/\H p=some (.tup xs)/\Ul wd xs cs as/\∀t H',Same H H'->H' t=some (.tup (Wn (bZ prs) cs))->Q (.ref t) H'
def gP (f:Str->Int) (last:TV):List (Str × Int)->TV
 | []=>last
 | q::r=>if q.2<0/\f q.1+q.2<0 then .tp [tS "short",tI (f q.1)] else if 0<q.2/\1000000000000<f q.1+q.2 then .tp [tS "full",tI (f q.1)] else gP f last r
theorem uG (f:Str->Int) (last:TV) (q:Str × Int) (r:List (Str × Int)):gP f last (q::r)=if q.2<0/\f q.1+q.2<0 then .tp [tS "short",tI (f q.1)] else if 0<q.2/\1000000000000<f q.1+q.2 then .tp [tS "full",tI (f q.1)] else gP f last r:=rfl
def kK (f:Str->Int) (cs:List (Str × Int)) (as:List (Str × List V)):TV:=if as=[] then .tp ((Wn f cs).map .sc) else .sc .non
def yN (C:Addr):Sp:=fun vs H Q _=>∃b p wd xs cs as prs,vs=[.ref b,.ref p]/\BookAt C H b prs/\H p=some (.tup xs)/\Ul wd xs cs as/\∀v H',Same H H'->RepT H' 1 (gP (bZ prs) (kK (bZ prs) cs as) cs) v->Q v H'
theorem yO {H:Hp} {n:Nat}:∀ {xs:List V},(∀y∈xs,jQ y=true)->Paired (RepT H n) (xs.map TV.sc) xs
 | [],_=>.nil
 | y::r,h=>.cons (RepT.scal (h y nC)) (yO fun z m=>h z (oX _ m))
theorem Qt (f:Str->Int) (cs:List (Str × Int)):∀y∈Wn f cs,jQ y=true:=fun y hy=>by
 rcases List.mem_cons.mp hy with rfl | h
 ·rfl
 ·obtain⟨q,_,rfl⟩:=Zmm.mp h
  rfl
end L2
namespace L2
open PySem PySem.Spec PyProof.Rows
section
variable {X:Cx} {pins:List (Addr × Obj)} {σ:List (Option V)} {H:Hp} {s:Shared} {h':Heap}
theorem Inv.turnLaid {t':Nat} {ch:List Addr} {a:Addr} {o:HO} (I:Inv X pins σ H s) (hf:∀b∈ch,kU X pins H b) (k:∀b u,b∉ch->s.heap.get? b=some u->h'.get? b=some u) (hp:s.heap.objs.size<=a) (new:ObjOk X.prog X.w (aI H a o) h' a o) :
  Inv X pins σ (aI H a o) {s with heap:=h',toks:=t' }:=by
 have hn:=I.hok.fresh hp
 have nch:∀b u,H b=some u->b∉ch:=fun b u e z=>by rw[(hf b z).1]at e;cases e
 refine I.step (g':=s.gens) (d':=s.drawn) (ch:=ch) (fun b hb=>⟨(hf b hb).2.2.2.1,(hf b hb).2.1,(hf b hb).2.2.2.2.1,(hf b hb).2.2.2.2.2⟩) (fun b u _ _ hc e _=>k b u hc e) (fun b u _ _ hc e _=>⟨u.slots,k b u hc e⟩)
  (fun b u _ e n=>by rw[aD (Nat.ne_of_lt (Nat.lt_of_lt_of_le (Heap.lt_size e) hp))];exact n) (fun b u hc e=>⟨u,k b u hc e⟩) (fun b xs e=>by rw[aD (aE e hn)];exact e) (fun b v u e=>by rw[aD (aE e hn)];exact e)
  (fun b ps e=>⟨#[],by rw[aD (aE e hn),e];simp⟩) (fun m hm=>?_) (fun b u e=>?_) I.bare
 ·obtain⟨u,es,ep,ho,r⟩:=hm
  exact⟨u,es,ep,k _ u (fun z=>(hf _ z).2.1 rfl) ho,r⟩
 ·by_cases hb:b=a
  ·subst hb;rw[aB]at e;cases e;exact new
  ·rw[aD hb]at e;refine(I.hok b u e).stay (fun c v hc q=>k c v ?_ q) (fun c q=>by rw[aD (aE q hn)];exact q) fun c xs q=>by rw[aD (aE q hn)];exact q
   rcases hc with z | z
   ·rw[z];exact nch b u e
   ·exact nch c _ z
theorem Inv.turnL {t':Nat} {ch:List Addr} (I:Inv X pins σ H s) (hf:∀b∈ch,kU X pins H b) (k:∀b u,b∉ch->s.heap.get? b=some u->h'.get? b=some u):Inv X pins σ H {s with heap:=h',toks:=t' }:=by
 have nch:∀b u,H b=some u->b∉ch:=fun b u e z=>by rw[(hf b z).1]at e;cases e
 refine I.step (g':=s.gens) (d':=s.drawn) (ch:=ch) (fun b hb=>⟨(hf b hb).2.2.2.1,(hf b hb).2.1,(hf b hb).2.2.2.2.1,(hf b hb).2.2.2.2.2⟩) (fun b u _ _ hc e _=>k b u hc e) (fun b u _ _ hc e _=>⟨u.slots,k b u hc e⟩)
  (fun _ _ _ _ n=>n) (fun b u hc e=>⟨u,k b u hc e⟩) (fun _ _ e=>e) (fun _ _ _ e=>e) (fun b ps e=>⟨#[],by rw[e];simp⟩) (fun m hm=>?_) (fun b u e=>?_) I.bare
 ·obtain⟨u,es,ep,ho,r⟩:=hm
  exact⟨u,es,ep,k _ u (fun z=>(hf _ z).2.1 rfl) ho,r⟩
 ·refine(I.hok b u e).stay (fun c v hc q=>k c v ?_ q) (fun _ q=>q) fun _ _ q=>q
  rcases hc with z | z
  ·rw[z];exact nch b u e
  ·exact nch c _ z
end
end L2
namespace L2
open PySem PySem.Spec PyProof.Rows
section
variable {X:Cx}
def bH (xs ys:List V):Bool:=(List.range (min xs.length ys.length)).all (fun j=>Ag (xs.getD j .non) (ys.getD j .non))&&xs.length == ys.length
def Qu (neg:Bool):R2:=fun x y H Q=>mR x fun a=>mR y fun b=>∃xs ys,H a=some (.tup xs)/\H b=some (.tup ys)/\(∀(j:Nat) (u v:V),xs[j]?=some u->ys[j]?=some v->eE u=true/\eE v=true)/\Q (.bl (if neg then !bH xs ys else bH xs ys)) H
theorem Qv (neg:Bool) (hu:X.A.units+64<cLine):OpR X (compareOp (if neg then .NotEq else .Eq)) (Qu neg):=by
 intro pins s σ H x y v u Q I rx ry h;unfold Qu at h;rw[cJ]at h;obtain⟨a,rfl,h⟩:=h
 rw[cJ]at h;obtain⟨b,rfl,xs,ys,g1,g2,fl,q⟩:=h
 cases rx
 cases ry
 obtain⟨its,ri,ti,_⟩:=I.tuple (SqT.of g1)
 obtain⟨its2,ri2,ti2,_⟩:=I.tuple (SqT.of g2)
 have el1:its.length=xs.length:=ri.length.symm
 have el2:its2.length=ys.length:=ri2.length.symm
 have each:∀j (h1:j<its.toArray.size) (h2:j<its2.toArray.size),SeqAt.EqAt X.A.in1 s its.toArray[j] its2.toArray[j] (Ag (xs.getD j .non) (ys.getD j .non)):=fun j h1 h2=>by
  rw[eC]at h1 h2;obtain⟨h1',q1⟩:=Paired.get' (j:=j) ri h1
  obtain⟨h2',q2⟩:=Paired.get' (j:=j) ri2 h2
  obtain⟨f1,f2⟩:=fl j xs[j] ys[j] (mQ h1') (mQ h2')
  have e1:xs.getD j .non=xs[j]:=by simp [List.getD,h1']
  have e2:ys.getD j .non=ys[j]:=by simp [List.getD,h2']
  rw[e1,e2];simpa using Dh q1 q2 f1 f2
 have e:((List.range (min its.toArray.size its2.toArray.size)).all (fun j=>Ag (xs.getD j .non) (ys.getD j .non))&&its.toArray.size == its2.toArray.size)=bH xs ys:=by
  rw[eC,eC,el1,el2];rfl
 cases neg with
 | true=>
  have key:=SeqAt.RcNeAt.tuples (A:=X.A) (s:=s) ti ti2 Zo each
  rw[e]at key;exact key _ _ _ _ ⟨.bl _,H,I,rfl,q⟩
 | false=>
  have key:=SeqAt.RcAt.tuples (A:=X.A) (s:=s) ti ti2 Zo each
  rw[e]at key;exact key _ _ _ _ ⟨.bl _,H,I,rfl,q⟩
theorem R.dz (hu:X.A.units+64<cLine):iA X (compareOp .NotEq) (Qu true):=⟨Qv true hu⟩
end
end L2
namespace L2
open PySem PySem.Spec PyProof.Rows
section
variable {X:Cx} {o:Expr} {to:TE} {p pos apos cpos:Pos}
def Mq:zT:=fun o i v H Q=>∃a H',o=.ref a/\DPut H a i v H'/\Q H'
theorem Ft (hu:X.A.units+1<cLine):Ik X Mq:=by
 intro pins s σ H o i v ov iv u Q I ro ri rv h;obtain⟨a,H',rfl,g,q⟩:=h
 cases ro
 exact Ak hu I g ri rv fun s' I'=>⟨H',I',q⟩
theorem R.ce (hu:X.A.units+1<cLine):Qe X Mq:=⟨Ft hu⟩
def Wo:List V->Hp->VK->Prop:=fun vs H Q=>match vs with
 | [.ref a]=>∃kvs,H a=some (.dK kvs)/\∀p,H p=none->Q (.ref p) (aI H p (.dK kvs))
 | _=>False
def rZ:V->List V->Hp->VK->Prop:=fun x vs H Q=>match x,vs with
 | .ref l,[.str z]=>∃ss:List Str,H l=some (.lst (ss.map V.str))/\z∈ss/\∀j:Nat,ss[j]?=some z->Q (.int j) H
 | _,_=>False
theorem uH {z:Str}:∀ {ss:List Str},z∈ss->∃j:Nat,ss[j]?=some z/\∀m,m<j->ss[m]?≠some z
 | [],h=>nomatch h
 | y::r,h=>by
  by_cases e:y=z
  ·subst e;exact⟨0,rfl,fun m hm=>absurd hm (Nat.not_lt_zero _)⟩
  ·rcases List.mem_cons.mp h with z' | h
   ·exact absurd z'.symm e
   ·obtain⟨j,hj,hm⟩:=uH h
    refine⟨j+1,by simpa using hj,fun m hm'=>?_⟩
    cases m with
    | zero=>simp;exact e
    | succ m=>simpa using hm m Zo
theorem Az:Oz X "list.index" rZ:=by
 intro pins s σ H x vs v us Q I rx rv h;unfold rZ at h;split at h
 ·rename_i l z
  obtain⟨ss,hl,hz,q⟩:=h
  cases rx
  obtain⟨u,rfl,t',rfl⟩:=rv.one
  obtain⟨its,n,r,ho,hsz⟩:=I.lst hl
  obtain⟨j,hj,hno⟩:=uH hz
  have hl':=r.length
  rw[dN]at hl';have hjl:j<ss.length:=(Zgs.mp hj).1
  have fl:(ss.map V.str).all eE=true:=by simp [eE]
  have ats:∀(m:Nat) (hm:m<its.length),tJ (.str z) its[m]=decide (ss[m]?=some z):=fun m hm=>by
   have hm':m<ss.length:=by omega
   have rv:RelV (V.str ss[m]) (its.getD m Value.none):=lD m r (by rw[dN];exact hm') _ (by rw[iU,mQ hm'];rfl)
   have e1:its.getD m Value.none=its[m]:=by rw[List.getD_eq_getElem?_getD,mQ hm];rfl
   rw[e1]at rv;rw[vY rv rfl,mQ hm'];show decide (ss[m]=z)=_
   simp
  refine call_meets PySem.F.slot_list_index ⟨_,ho,rfl⟩ PySem.F.entry_list_index (PySem.F.args_list_index_2 _ _)
   (SeqAt.list_indexAt l its.toArray n none #[] (.str z t') (tJ (.str z)) j (by simp;omega) (by rw[sizeLine_eq,dN]at hsz;omega) ?_ ?_) ⟨ho,fun y hy=>fY (x:=.str z) (show RelV (V.str z) (Value.str z t') from⟨t',rfl⟩) rfl r fl y (by simpa using hy),⟨.int j,H,I.tok _,⟨_,rfl⟩,q j hj⟩⟩
  ·have:=ats j Zo
   simp only [List.getElem_toArray]
   rw[this];exact decide_eq_true hj
  ·intro m hm hlt;have hm':m<its.length:=by simpa using hm
   have:=ats m hm'
   simp only [List.getElem_toArray]
   rw[this];exact decide_eq_false (hno m hlt)
 ·exact h.elim
theorem R.fg:XM X "list.index" rZ:=⟨Az⟩
end
end L2
namespace L2
open PySem PySem.Spec PyProof.Rows
def Fu (prs:List (Str × Int)) (n:Str) (v:Int):List (Str × Int):=prs.map fun q=>if q.1=n then (q.1,v) else q
theorem Ba (prs:List (Str × Int)) (n:Str) (v:Int):(Fu prs n v).map (·.1)=prs.map (·.1):=by
 unfold Fu;rw[List.map_map];refine List.map_congr_left fun q _=>?_
 show(if q.1=n then (q.1,v) else q).1=q.1
 split <;> rfl
theorem Kq {prs:List (Str × Int)} {n:Str} {v:Int} (h:n∈prs.map (·.1)):bA (lE prs) (Sum.inr n) (.int v)=lE (Fu prs n v):=by
 unfold bA;rw[if_pos (by rw[bW,mV];obtain⟨a,ha⟩:=jR h;rw[ha];rfl)]
 unfold lE Fu;rw[List.map_map,List.map_map];refine List.map_congr_left fun q _=>?_
 show(if (Sum.inr q.1:bE)=Sum.inr n then (Sum.inr q.1,V.int v) else ((Sum.inr q.1:bE),V.int q.2))=((Sum.inr (if q.1=n then (q.1,v) else q).1:bE),V.int (if q.1=n then (q.1,v) else q).2)
 by_cases e:q.1=n
 ·rw[if_pos (by rw[e]),if_pos e]
 ·rw[if_neg (fun z=>e (Sum.inr.inj z)),if_neg e]
def sM (C:Addr):Sp:=fun vs H Q _=>∃(p dx:Addr) (r:V) (prs:List (Str × Int)),vs=[.ref p,r]/\H p=some (.ins C dx [])/\Qp H r prs/\(prs.map (·.1)).Nodup/\prs.length<=1000 ∧
 ∀H' d,H d=none->H' p=some (.ins C dx [("amounts",.ref d)])->H' d=some (.dK (lE prs))->(∀b o,H b=some o->b≠p->H' b=some o)->Q .non H'
end L2
namespace L2
open PySem PySem.Spec PyProof.Rows
section
variable {X:Cx}
def Fv (i j:Int):Prop:=0<j/\j<2 ^ 64
theorem Kr:OpR X (binaryOp .FloorDiv) (m2 Fv fun i j=>.int (i / j)):=(Va (C:=Fv) (g:=fun i j=>i / j) fun i j _ _ s Q E hc q=>by
 have h1:i.fdiv j=i / j:=Int.fdiv_eq_ediv_of_nonneg _ (by have:=hc.1;omega)
 refine floordiv_int (by have:=hc.1;omega) (by rw[h1];exact q) (.inl (PyProof.noPylong_of_log2 ?_))
 have h2:j.natAbs<2 ^ 64:=by have:=hc.1;have:=hc.2;omega
 exact Nat.lt_of_lt_of_le (Nat.log2_lt (by have:=hc.1;omega) |>.mpr h2) Zd).imp rM
theorem R.dl:iA X (binaryOp .FloorDiv) (m2 Fv fun i j=>.int (i / j)):=⟨Kr⟩
end
def KLET:List Nat:=LET++Rv
def isKy (z:Str):Prop:=1<=z.length/\z.length<=12/\∀c∈z.cps.toList,c∈KLET
end L2
namespace L2
open PySem PySem.Spec PyProof.Rows
def Rw (K:W.Frag) (a:Addr):It:=
  ⟨fun i H=>∃xs x,SqL K H a xs/\xs[i]?=some x,
   fun i H v H'=>∃t x,H t=none/\v=.ref t/\H'=aI H t (.tup [.int i,x])/\∀xs,SqL K H a xs->xs[i]?=some x,
   fun i H=>∃xs,SqL K H a xs/\xs.length<=i⟩
structure Xh (h:Heap) (e it a:Addr) (i:Nat):Prop where
 e:∃old,IsEnum h e it i old
 i:h.IsListIter it a i
theorem Bb {P:Program} {w:World} {K:W.Frag} {es:List Expr} {n:Nat} {pos:Pos} {e it a:Addr} (hne:e≠it) (hea:a≠e) (hia:a≠it) :
  qU P w K (.Tuple es n pos) (Rw K a) [e,it] e (fun i h=>Xh h e it a i) where
 mem:=by simp
 obj:=fun i h st b hb=>by
  obtain⟨old,he⟩:=st.e
  obtain⟨o1,e1,_,d1⟩:=st.i
  simp only [List.mem_cons,List.not_mem_nil,or_false]at hb
  rcases hb with rfl | rfl
  ·exact⟨_,he,fun v q=>by have q':Data.fields _=Data.cell v:=q;cases q'⟩
  ·exact⟨_,e1,fun v q=>by rw[d1]at q;cases q⟩
 keep:=fun i h h' st g=>by
  obtain⟨old,he⟩:=st.e
  obtain⟨o1,e1,r⟩:=st.i
  exact⟨⟨old,g e Zs _ he⟩,⟨o1,g it Zs _ e1,r⟩⟩
 item:=by
  intro X hP hw hK hc i pins s σ H E I hf st hg;subst hP hw hK;obtain⟨xs,x,hx,ex⟩:=hg
  obtain⟨its,rv,p,_⟩:=I.list hx
  obtain⟨u,hu,ru⟩:=rv.get ex
  obtain⟨old,he⟩:=st.e
  refine wpAny_pyNext_enum_item he st.i p.isList (by simpa using hu) hne fun h1 e1 i1 t1 z1 k1=>?_
  refine⟨_,rfl,?_⟩
  refine wpAny_letOwnedTupleGo_enum e1 fun h2 e2 b2=>?_
  have elt:e<s.heap.objs.size:=Heap.lt_size he
  have t2:h2.get? s.heap.objs.size=some {cls:=.type "tuple",data:=.seq #[.int i s.toks,u] }:=b2.extBut _ _ (Nat.ne_of_gt elt) t1
  refine⟨.ref s.heap.objs.size,aI H s.heap.objs.size (.tup [.int i,x]),I.turnLaid (t':=s.toks+1) hf (fun b o hb e'=>?_) (cB _) ⟨by show 2<=sizeLine;decide,[.int i s.toks,u],.cons ⟨_,rfl⟩ (.cons ru .nil),⟨_,t2,rfl,_,rfl⟩⟩,rfl,?_,?_,fun b hb=>?_⟩
  ·have hb':b≠e/\b≠it:=by simpa using hb
   exact b2.extBut _ _ hb'.1 (k1 b o hb'.1 hb'.2 e')
  ·exact⟨s.heap.objs.size,x,I.hok.fresh (cB _),rfl,rfl,fun zs hz=>by rw[I.list_inj hz hx];exact ex⟩
  ·obtain⟨o1,q1,r1⟩:=i1
   exact⟨⟨_,by simpa using e2⟩,⟨o1,b2.extBut _ _ hne.symm q1,r1⟩⟩
  ·have hlt:b<s.heap.objs.size:=by
    obtain⟨o1,q1,r1⟩:=st.i
    simp only [List.mem_cons,List.not_mem_nil,or_false]at hb
    rcases hb with rfl | rfl
    ·exact elt
    ·exact Heap.lt_size q1
   rw[aD (Nat.ne_of_lt hlt)];exact(hf b hb).1
 done:=by
  intro X hP hw hK hc i pins s σ H E I hf st hg;subst hP hw hK;obtain⟨xs,hx,hl⟩:=hg
  obtain⟨its,rv,p,_⟩:=I.list hx
  obtain⟨old,he⟩:=st.e
  have l1:=rv.length
  refine wpAny_pyNext_enum_end (I.ok.hd hc) he st.i p.isList (by simp;omega) fun h1 k1=>?_
  refine⟨rfl,I.turnL (t':=s.toks) hf fun b u hb e'=>?_⟩
  have hb':b≠e/\b≠it:=by simpa using hb
  exact k1 b u hb'.2 e'
 self:=fun _ _ _ _ _ st h=>by
  obtain⟨old,he⟩:=st.e
  exact wpAny_pyIter_enum he h
section
variable {X:Cx} {a b:Expr} {ta tb:TE} {p pos tpos:Pos} {es:List Expr} {n:Nat}
def Mr (K:W.Frag) (ta:TE):TI:=fun σ H R=>ta σ H fun x H1=>mR x fun a=>∃xs,SqL K H1 a xs/\R (Rw K a) H1
theorem Kt (hg:Gl X "enumerate") (hm:X.mg "enumerate"=none) (ha:PE X a ta) (h1:aJ a=true):PI X (.Tuple es n tpos) (.Call (.Name "enumerate" p) [a] [] pos) (Mr X.K ta):=by
 intro pins s σ H R I h;have hs:starEach [a] X.env=[(false,eval a X.env)]:=by rw[aZ h1];rfl
 have hA:PA X [a] (tE ta vT):=El ha vU h1
 refine Call_ (nE I hg hm boot_enumerate (PyProof.Rows.callWith_type1 (bG (hA pos pins s σ H (fun vs H2=>match vs with | [x]=>(mR x fun a1=>∃xs,SqL X.K H2 a1 xs/\R (Rw X.K a1) H2) | _=>False) I ?_) fun us s1 ⟨vs,H1,I1,r1,q1⟩=>?_) (by rw[hs];rfl) rfl))
 ·exact h
 ·dsimp only at q1
  split at q1
  rotate_left
  ·exact q1.elim
  rename_i x
  rw[cJ]at q1;obtain⟨a1,rfl,xs,q2,q⟩:=q1
  cases r1 with
  | cons r rr=>
   cases rr
   cases r
   obtain⟨its,rv,p1,_⟩:=I1.list q2
   refine call_enumerate_list p1.isList fun h' he hi hz k=>?_
   have I2:Inv X pins σ H1 {s1 with heap:=h' }:=I1.kept (t':=s1.toks) k
   have la:a1<s1.heap.objs.size:=by
    obtain⟨o,e',_⟩:=p1.isList
    exact Heap.lt_size e'
   refine wpAny_pyIter_enum (s:={s1 with heap:=h' }) he ?_
   refine⟨s1.heap.objs.size+1,_,_,_,H1,rfl,I2,Bb (Nat.ne_of_gt (Nat.lt_succ_self _)) (Nat.ne_of_lt (Nat.lt_succ_of_lt la)) (Nat.ne_of_lt la),⟨⟨_,he⟩,hi⟩,fun b hb=>?_,q⟩
   have hb':s1.heap.objs.size<=b:=by
    simp only [List.mem_cons,List.not_mem_nil,or_false]at hb
    rcases hb with rfl | rfl
    ·exact Nat.le_add_right _ 1
    ·exact cB _
   exact I1.fpOk hb' (I1.hok.fresh hb')
theorem R.fh {K:W.Frag} (hg:Gl X "enumerate") (hm:X.mg "enumerate"=none) (ha:XE X a ta) (hK:X.K=K:=by rfl) (h1:aJ a=true:=by rfl):XI X (.Tuple es n tpos) (.Call (.Name "enumerate" p) [a] [] pos) (Mr K ta):=
 hK ▸ ⟨Kt hg hm ha.h h1⟩
end
theorem Fw {K:W.Frag} {a:Addr} {xs:List V} {g:TG} {tb:TS} {D:jY} {σ:St} {H:Hp} (Pv:Nat->St->Hp->Prop) (hA:∀i σ H,Pv i σ H->SqL K H a xs) (h0:Pv 0 σ H)
  (hs:∀(i:Nat) (x:V) σ H t,xs[i]?=some x->Pv i σ H->H t=none->g (.ref t) σ (aI H t (.tup [.int i,x])) fun σ2 H2=>tb {D with nx:=Pv (i+1),ct:=Pv (i+1),bk:=D.nx } σ2 H2) (hd:∀ σ H,Pv xs.length σ H->D.nx σ H) :
  ∃W:Nat->Nat->St->Hp->Prop,(∃m,W 0 m σ H)/\∀i m σ H,W i m σ H →
   ((Rw K a).stop i H/\D.nx σ H)∨((Rw K a).go i H/\∃N:St->Hp->Prop,(∀ σ' H',N σ' H'->∃m',m'<m/\W (i+1) m' σ' H')/\∀x H',(Rw K a).yld i H x H'->g x σ H' fun σ2 H2=>tb {D with nx:=N,ct:=N,bk:=D.nx } σ2 H2):=by
 refine⟨fun i m σ H=>m=xs.length - i/\i<=xs.length/\Pv i σ H,⟨_,rfl,Nat.zero_le _,h0⟩,?_⟩
 rintro i m σ H ⟨rfl,hi,p⟩
 have q1:=hA i σ H p
 by_cases hlt:i<xs.length
 ·refine .inr ⟨⟨xs,xs[i],q1,mQ hlt⟩,Pv (i+1),fun σ' H' n=>⟨xs.length - (i+1),Zo,rfl,hlt,n⟩,?_⟩
  rintro v H' ⟨t,x,ht,rfl,rfl,e1⟩
  exact hs i x σ H t (e1 xs q1) p ht
 ·have:i=xs.length:=by omega
  subst this;exact .inl ⟨⟨xs,q1,cB _⟩,hd σ H p⟩
end L2
namespace L2
open PySem PySem.Spec PyProof.Rows
structure wQ (P:Program) (w:World) (K:W.Frag) (mg:Str->Option Value) (base:Heap) (n:Nat) (C:Addr) (m:Str) (ps:List Str) (sp:Sp):Prop where
 ex:∃f fd,Cls K C/\Ab K C m f/\gM P w K mg base (vK P w) n f fd ps sp/\Binds K fd ps []
theorem MethAt.goX {P:Program} {w:World} {K:W.Frag} {mg:Str->Option Value} {base:Heap} {C:Addr} {m qual:Str} {st:Stmt} {N ps:List Str} {k:Nat} {sp:Sp} (D:MethAt K C m qual st ps) (S:aG N ps (aA st)) (len:∀vs H Q E,sp vs H Q E->vs.length=ps.length)
  (hbody:∀(f:Addr) (cdv:Value) (A:Around) (outer:List Env) (s:Shared) (H:Hp) (vs:List V) (Q:VK) (E:XK),Room k (A.deeper (envOfC qual (aA st) s.heap.objs.size f cdv))->sp vs H Q E →
   ∃t,XB (eT (vK P w) P w K mg base N qual (aA st) f cdv A outer s H E) (aP st) t/\t {nx:=fun _ H'=>Q .non H',rt:=Q } (start N vs) H):wQ P w K mg base (k+1) C m ps sp:=by
 obtain⟨f,fd,F,hm,hb⟩:=D.ex
 refine⟨f,fd,D.cl,hm,?_,hb⟩
 obtain⟨oc,od,kV,doc,pm,an,cdv,ct,osl,rfl,lk,hcd⟩:=F.ex
 refine Db lk hcd S len fun A outer s H vs Q E hr hsp=>?_
 obtain⟨t,h,q⟩:=hbody f cdv A outer s H vs Q E hr hsp
 exact⟨t,h.h,q⟩
def Fx (C:Addr) (m:Str) (sp:Sp) (Ex:St->Value->Option Addr->Hp->Prop) (ta:TE) (t:TA):TE:=fun σ H Q=>ta σ H fun x H1=>mR x fun a=>∃dx fs,H1 a=some (.ins C dx fs)/\fs.lookup m=none/\t σ H1 fun vs H2=>sp (.ref a::vs) H2 Q (fun cls od H'=>Ex σ cls od H')
section
variable {X:Cx} {e o:Expr} {es:List Expr} {m x:Str} {p pos apos:Pos} {ta:TE} {t:TA} {C:Addr} {n:Nat} {ps:List Str} {sp:Sp} {Ex:St->Value->Option Addr->Hp->Prop}
theorem Bc {pl:Sem Bool} (he:PE X o ta) (c:wQ X.prog X.w X.K X.mg X.base n C m ps sp) (hr:Room n X.A) (hx:yM X Ex) (ha:PA X (e::es) t) (hs:aJ e=true) (hpl:(backTo pos (starEach es X.env)).any (·.1)=false)
  (ht:eval (.Call (.Attribute o m apos) (e::es) [] pos) X.env=(do
   let ov ← eval o X.env
   standAt apos.atName
   let (f,first) ← holding [ov] (getMethod ov m pl)
   callWith pos f first (backTo pos (starEach (e::es) X.env)) (backToKw pos (keywordEach [] X.env)))) :
  PE X (.Call (.Attribute o m apos) (e::es) [] pos) (Fx C m sp Ex ta t):=by
 obtain⟨f,fd,cl,hm,F,hb⟩:=c.ex
 intro pins s σ H Q I h;refine W.methodCall_KW (pl:=pl) (bG (he pins s σ H _ I h) fun u s1 ⟨x,H1,I1,rx,q1⟩=>?_) ht
 dsimp only at q1
 rw[cJ]at q1;obtain⟨a,rfl,dx,fs,ea,l,q⟩:=q1
 obtain rfl:u=Value.ref a:=rx
 refine gL I1 ea cl hm l ?_
 refine W.callWith_K (first:=[.ref a]) (h₀:=X.base) I.ok.mod.kin hm.kp (bG (ha pos pins s1 σ H1 _ I1 q) fun us s2 ⟨vs,H2,I2,r,q2⟩=>⟨I2.kIn,?_⟩) (aZ hs) hpl
 have r2:Vals (V.ref a::vs) (Value.ref a::us):=.cons rfl r
 have hl:(Value.ref a::us).length=ps.length:=by rw[<- r2.length];exact F.len _ _ _ _ q2
 have hb':=hb s2 (Value.ref a::us) I2.kIn (by rw[List.append_nil];exact hl)
 rw[List.append_nil]at hb';refine wpAny_call (codeAny_mono (F.run X.A X.stack s2 H2 ⟨Value.ref a::us,[]⟩ (Value.ref a::us) (V.ref a::vs) Q _ hr I2.env0 hb' r2 q2) fun rs s' hq=>?_)
 cases rs with
 | error e'=>exact hx pins σ H2 s2 e' s' I2 hq
 | ok fl=>
  cases fl with
  | ret u=>exact I2.after hq
  | next=>exact False.elim hq
  | brk=>exact False.elim hq
  | cont=>exact False.elim hq
namespace R
theorem fb {pl:Sem Bool} (c:wQ X.prog X.w X.K X.mg X.base n C m ps sp) (hr:Room n X.A) (hx:yM X Ex) (he:XE X o ta) (ha:XA X (e::es) t) (hs:aJ e=true:=by rfl) (h2:es.all aJ=true:=by rfl)
  (ht:eval (.Call (.Attribute o m apos) (e::es) [] pos) X.env=(do
   let ov ← eval o X.env
   standAt apos.atName
   let (f,first) ← holding [ov] (getMethod ov m pl)
   callWith pos f first (backTo pos (starEach (e::es) X.env)) (backToKw pos (keywordEach [] X.env))):=by rfl):XE X (.Call (.Attribute o m apos) (e::es) [] pos) (Fx C m sp Ex ta t):=⟨Bc he.h c hr hx ha.h hs (cK h2) ht⟩
end R
end
end L2
namespace L2
open PySem PySem.Spec PyProof.Rows
section
variable {X:Cx} {pins:List (Addr × Obj)} {σ:St} {H:Hp} {s:Shared} {a:Addr} {o:Obj} {kvs:List (bE × V)}
def Ms (t:TS):TS:=fun D σ H=>t {nx:=fun σ' H2=>∃a kvs o,(∃kvs0,H a=some (.dK kvs0))/\H2 a=some (.frz o (.dK kvs))/\D.nx σ' (aI H2 a (.dK kvs)),rt:=fun _ _=>False } σ H
theorem Ku {e:Stmt} {t:TS} (he:PS X e t):PS X e (Ms t):=by
 intro pins s σ H D I h;refine bG (he pins s σ H _ I h) fun f s1 q=>?_
 cases f with
 | next=>
  obtain⟨σ',H2,I2,a,kvs,o,⟨kvs0,e0⟩,e2,q⟩:=q
  refine⟨σ',_,I2.thaw e2 (fun o' u' z=>?_),q⟩
  have:=I.base.frzs a o' u' z
  rw[e0]at this;cases this
 | brk=>obtain⟨_,_,_,q⟩:=q;exact q.elim
 | cont=>obtain⟨_,_,_,q⟩:=q;exact q.elim
 | ret u=>obtain⟨_,_,_,_,_,q⟩:=q;exact q.elim
end
namespace R
section
variable {X:Cx} {tg l:Expr} {tl:TE} {apos cpos:Pos} {e:Stmt} {t:TS}
theorem il (h:XS X e t):XS X e (Ms t):=⟨Ku h.h⟩
end
end R
end L2
namespace L2
open PySem PySem.Spec PyProof.Rows
section
variable {P:Program} {w:World} {K:W.Frag} {mg:Str->Option Value} {base:Heap} {N:List Str} {qual:Str} {scope:Scope} {f:Addr} {cd:Value} {A:Around} {outer:List Env} {s:Shared} {H:Hp} {E:XK}
theorem Bd:PassesOwn (model P w) (eT (vK P w) P w K mg base N qual scope f cd A outer s H E).A (eT (vK P w) P w K mg base N qual scope f cd A outer s H E).env (eT (vK P w) P w K mg base N qual scope f cd A outer s H E).xe:=by
 unfold eT;dsimp only;passes_own
end
end L2
namespace L2
open PySem PySem.Spec PyProof.Rows
section
variable {prog:Program} {w:World} {K:Type} [DecidableEq K] {knd:HeapKind prog w K} {A:Around} {E:Value->Shared->Prop} {s:Shared} {d a:Addr} {k:K}
def oK (xs:List (K × Addr × Value)) (k:K):List (K × Addr × Value):=xs.filter fun x=>decide (x.1≠k)
theorem Fy {xs:List (K × Addr × Value)} (h:k∉xs.map (·.1)):oK xs k=xs:=by
 unfold oK;rw[List.filter_eq_self];intro x hx;exact decide_eq_true fun e=>h (Zmm.mpr ⟨x,hx,e⟩)
theorem lV:∀ {xs:List (K × Addr × Value)} {j:Nat} {p:Addr × Value},(xs.map (·.1)).Nodup->xs[j]?=some (k,p)->oK xs k=xs.eraseIdx j
 | [],j,p,_,h=>by simp at h
 | x::r,0,p,hn,h=>by
  rw[List.map_cons,List.nodup_cons]at hn;have hx:x=(k,p):=by simpa using h
  subst hx;show List.filter _ _=r
  rw[List.filter_cons_of_neg Zs]
  exact Fy hn.1
 | x::r,j+1,p,hn,h=>by
  rw[List.map_cons,List.nodup_cons]at hn;have h':r[j]?=some (k,p):=by simpa using h
  have hne:x.1≠k:=fun e=>hn.1 (e ▸ Zmm.mpr ⟨(k,p),jW h',rfl⟩)
  show List.filter _ _=x::r.eraseIdx j
  rw[List.filter_cons_of_pos (by simpa using hne),<- lV hn.2 h']
  rfl
theorem jK {α β:Type} (f:α->β):∀(l:List α) (i:Nat),(l.map f).eraseIdx i=(l.eraseIdx i).map f
 | [],_=>rfl
 | _::_,0=>rfl
 | x::r,i+1=>by rw[List.map_cons,List.eraseIdx_cons_succ,List.eraseIdx_cons_succ,List.map_cons,jK f r i]
theorem gQ {xs:List (K × Addr × Value)} {Q:Option DictEntry->Shared->Prop} (hu:knd.room A) (hkey:knd.is s.heap k a) (hm:s.heap.DictOfH knd d xs)
  (hnone:atKey xs k=none->Q none {s with toks:=s.toks+knd.draws k })
  (hsome:∀e p,atKey xs k=some p->e.val=p.2->∀h',h'.DictOfH knd d (oK xs k)->Heap.SameBut d s.heap h'->Q (some e) {s with heap:=h',toks:=s.toks+knd.draws k })
  (hsz:xs.length<=sizeLine):wpAny (model prog w) A (Builtin.Dict.takeOut d (.ref a)) Q E s:=by
 obtain⟨o,es,ep,ho,hc,hd,he,his,hn⟩:=hm
 unfold Builtin.Dict.takeOut;try with_reducible refine wpAny_holding ?_
 refine wpAny_bind (knd.pyHash hu hkey ?_)
 refine wpAny_bind (wpAny_dictFind_heap (s:={s with toks:=s.toks+knd.draws k }) hu hkey ho hd he his hn ?_ ?_)
 ·intro hno;exact wpAny_pure (hnone (atKey_none_of_get hno))
 ·intro j p hj;refine wpAny_bind (wpAny_dictEntries (s:={s with toks:=s.toks+knd.draws k }) ho hd ?_)
  rw[entry_at he j,hj];refine wpAny_bind (wpAny_updateDictKeys (hz:=by have e:=size_of_entries he;omega) (s:={s with toks:=s.toks+knd.draws k }) ho hd (wpAny_pure (hsome _ p (atKey_of_get hn hj) rfl _ ⟨_,_,ep+1,Heap.get?_update_self _ ho (Obj.isFreed_of_dict (Obj.data_mapDictKeys hd _)),
   hc.mapDictKeys _,Obj.data_mapDictKeys hd _,?_,?_,?_⟩ (Heap.SameBut.update ..))))
  ·rw[lV hn hj,<- jK,<- he];obtain⟨l⟩:=es
   simp
  ·intro x hx;exact knd.keeps (his x (List.mem_filter.mp hx).1) ho hd (Heap.SameBut.update ..)
  ·exact List.Nodup.sublist (List.Sublist.map _ List.filter_sublist) hn
variable (knd)
theorem iB (hd:(d == sysModules)=false) (rest:List Value) (hrest:rest=[]∨∃dflt,rest=[dflt]) :
    MeetsIn prog w (Builtin.«dict.pop» ⟨.ref d::.ref a::rest,[]⟩) (fun A R s=>knd.room A.in1/\∃k xs,knd.is s.heap k a/\s.heap.DictOfH knd d xs/\xs.length<=sizeLine ∧
      ((∃p,atKey xs k=some p/\∀h' t',h'.DictOfH knd d (oK xs k)->Heap.SameBut d s.heap h'->R (.ok (.ret p.2)) {s with heap:=h',toks:=t' })∨
       (∃x,rest=[x]/\atKey xs k=none/\∀t',R (.ok (.ret x)) {s with toks:=t' }))):=
  .of_wp fun A R s ⟨hu,k,xs,hkey,hm,hsz,h⟩=>by
    have hm':=hm
    obtain⟨o,es,ep,ho,hc,hdd,he,his,hn⟩:=hm'
    unfold Builtin.«dict.pop»
    refine wpAny_bind ?_
    unfold Builtin.Dict.keyAndDefault;refine wpAny_bind (wpAny_notOrdered_dict hm.typeIs ?_)
    have hsz':es.size=xs.length:=size_of_entries he
    rcases hrest with rfl | ⟨dflt,rfl⟩
    . obtain⟨p,hp,h⟩ | ⟨x,hx,_⟩:=h
      . show wpAny _ _ (pure (d,Value.ref a,none)) _ _ s
        refine wpAny_pure ?_
        have hE:es.isEmpty=false:=by
          cases xs with
          | nil=>cases hp
          | cons x r=>rw[Array.isEmpty_eq_false_iff];intro e;rw[e]at hsz';simp at hsz'
        simp only [keyPart,Option.isSome_none,Bool.false_eq_true,if_false]
        refine wpAny_bind (wpAny_dictEntries ho hdd (wpAny_bind (wpAny_pure ?_)))
        rw[hE];simp only [Bool.false_eq_true,if_false]
        refine wpAny_bind (gQ hu hkey hm (fun hn=>by rw[hn]at hp;cases hp) (fun e p' hp' hv h' d' hs=>?_) hsz)
        rw[hp]at hp';cases hp'
        simp only [Option.isNone_some,Bool.false_eq_true,if_false]
        exact wpAny_bind (wpAny_letGo (wpAny_pure ⟨e.val,rfl,by rw[hv];exact h h' _ d' hs⟩))
      . cases hx
    . show wpAny _ _ (pure (d,Value.ref a,some dflt)) _ _ s
      refine wpAny_pure ?_
      simp only [keyPart,Option.isSome_none,Bool.false_eq_true,if_false]
      refine wpAny_bind (wpAny_dictEntries ho hdd (wpAny_bind (wpAny_pure ?_)))
      obtain⟨p,hp,h⟩ | ⟨x,hx,hno,h⟩:=h
      . have hE:es.isEmpty=false:=by
          cases xs with
          | nil=>cases hp
          | cons x r=>rw[Array.isEmpty_eq_false_iff];intro e;rw[e]at hsz';simp at hsz'
        rw[hE];simp only [Bool.false_eq_true,if_false]
        refine wpAny_bind (gQ hu hkey hm (fun hn=>by rw[hn]at hp;cases hp) (fun e p' hp' hv h' d' hs=>?_) hsz)
        rw[hp]at hp';cases hp'
        simp only [Option.isNone_some,Bool.false_eq_true,if_false]
        exact wpAny_bind (wpAny_letGo (wpAny_pure ⟨e.val,rfl,by rw[hv];exact h h' _ d' hs⟩))
      . cases hx
        cases hE:es.isEmpty with
        | true=>
          simp only [if_true]
          refine wpAny_bind (wpAny_rule (wpAny_bind (wpAny_pure ?_)))
          simp only [Option.isNone_none,if_true]
          refine wpAny_bind (wpAny_missedRemoval_other hd ?_)
          exact wpAny_bind (wpAny_rule (wpAny_pure ⟨dflt,rfl,h s.toks⟩))
        | false=>
          simp only [Bool.false_eq_true,if_false]
          refine wpAny_bind (gQ hu hkey hm (fun hn=>?_) (fun e p' hp' hv h' d' hs=>by rw[hno]at hp';cases hp') hsz)
          simp only [Option.isNone_none,if_true]
          refine wpAny_bind (wpAny_missedRemoval_other hd ?_)
          exact wpAny_bind (wpAny_rule (wpAny_pure ⟨dflt,rfl,h _⟩))
end
section
variable {X:Cx} {pins:List (Addr × Obj)} {σ:St} {H:Hp} {s:Shared} {a b:Addr} {kvs:List (List bE × V)} {k:List bE} {A:Around} {E:Value->Shared->Prop}
theorem KT.drop {kvs:List (List bE × V)} {xs:List (List bE × Addr × Value)} (r:KT H kvs xs) (k:List bE):KT H (bQ kvs k) (oK xs k):=by
 induction r with
 | nil=>exact .nil
 | @cons p q ps qs h t ih=>
  unfold bQ oK;by_cases e:p.1=k
  ·rw[List.filter_cons_of_neg (by simpa using e),List.filter_cons_of_neg (by rw[<- h.1];simpa using e)]
   exact ih
  ·rw[List.filter_cons_of_pos (by simpa using e),List.filter_cons_of_pos (by rw[<- h.1];simpa using e)]
   exact .cons h ih
theorem Fz {v:V} {more:List Value} {Q:Value->Shared->Prop} (hu:A.units+1<cLine) (I:Inv X pins σ H s) (e:H a=some (.dT kvs)) (eb:H b=some (.tup (k.map kV))) (l:aY kvs k=some v) (hm:more=[]∨∃x,more=[x])
  (h:∀w' s',Inv X pins σ (aI H a (.dT (bQ kvs k))) s'->RelV v w'->Q w' s'):wpAny (model X.prog X.w) A (call (.builtin "dict.pop") (.ref a::.ref b::more)) Q E s:=by
 obtain⟨z,hd,xs,rel,dd⟩:=Do I.hok e
 obtain⟨w',hw,rw'⟩:=RelO.some_of (v:=v) (o:=(atKey xs k).map (·.2)) (by rw[<- l];exact rel.val k)
 obtain⟨p,hp,rfl⟩:=Option.map_eq_some_iff.mp hw
 have ha:argsOk "dict.pop" ⟨.ref a::.ref b::more,[]⟩:=by
  rcases hm with q | ⟨x,q⟩
  ·subst q;exact PySem.F.args_dict_pop_2 _ _
  ·subst q;exact PySem.F.args_dict_pop_3 _ _ _
 refine call_meetsIn PySem.F.slot_dict_pop dd.typeIs PySem.F.entry_dict_pop ha (iB (tupleKind (aQ X.prog X.w)) hd more hm)
  ⟨tupleKind_room_in1 hu,k,xs,iI I.hok eb,dd,by rw[<- Paired.length rel];exact z,.inl ⟨p,hp,fun h' t' dd' hs=>h _ _ ?_ rw'⟩⟩
 obtain⟨q,es,ep,hq,h2,h3,h4,_,h5⟩:=dd'
 refine kG I (by rw[e];exact True.intro) hs ⟨q,hq⟩ ⟨iE (kC kvs k) z,hd,_,(rel.drop k).keeps fun c ys ec=>?_,q,es,ep,hq,h2,h3,h4,h5⟩
 rw[aD (aM ec e (fun z=>nomatch z))]
 exact ec
theorem Kv {r:Value} {Q:Value->Shared->Prop} (hu:A.units+1<cLine) (I:Inv X pins σ H s) (e:H a=some (.dT kvs)) (eb:H b=some (.tup (k.map kV))) (l:aY kvs k=none) (h:∀s',Inv X pins σ H s'->Q r s') :
  wpAny (model X.prog X.w) A (call (.builtin "dict.pop") [.ref a,.ref b,r]) Q E s:=by
 obtain⟨z,hd,xs,rel,dd⟩:=Do I.hok e
 have hn:(atKey xs k).map (·.2)=none:=RelO.none_of (by rw[<- l];exact rel.val k)
 have hn':atKey xs k=none:=by
  cases q:atKey xs k with
  | none=>rfl
  | some p=>rw[q]at hn;cases hn
 exact call_meetsIn PySem.F.slot_dict_pop dd.typeIs PySem.F.entry_dict_pop (PySem.F.args_dict_pop_3 _ _ _) (iB (tupleKind (aQ X.prog X.w)) hd [r] (.inr ⟨r,rfl⟩))
  ⟨tupleKind_room_in1 hu,k,xs,iI I.hok eb,dd,by rw[<- Paired.length rel];exact z,.inr ⟨r,rfl,hn',fun t'=>h _ (I.tok _)⟩⟩
end
def yP (td ty:TE):TE:=fun σ H Q=>td σ H fun x H1=>∃a,x=.ref a/\Sz H1 a/\ty σ H1 fun y H2=>∃kvs k b v,H2 a=some (.dT kvs)/\y=.ref b/\H2 b=some (.tup (k.map kV))/\aY kvs k=some v/\Q v (aI H2 a (.dT (bQ kvs k)))
def yQ (td ty tx:TE):TE:=fun σ H Q=>td σ H fun x H1=>∃a,x=.ref a/\Sz H1 a/\ty σ H1 fun y H2=>tx σ H2 fun z H3=>∃kvs k b,H3 a=some (.dT kvs)/\y=.ref b/\H3 b=some (.tup (k.map kV)) ∧
 (∀v,aY kvs k=some v->Q v (aI H3 a (.dT (bQ kvs k))))/\(aY kvs k=none->Q z H3)
section
variable {X:Cx} {o e f:Expr} {apos cpos:Pos} {td ty tx:TE}
theorem Be (hu:X.A.units+1<cLine) (ho:PE X o td) (he:PE X e ty) (m:M1 X o "pop" apos e cpos):PE X (.Call (.Attribute o "pop" apos) [e] [] cpos) (yP td ty):=by
 intro pins s σ H Q I h;refine wpAny_Call_method m.base m.few m.line PySem.F.plainAttrs_dict PySem.F.slot_dict_pop PySem.F.type_dict_pop (bG (ho pins s σ H _ I h) fun u s1 ⟨x,H1,I1,rx,a,ex,d,q1⟩=>?_)
 subst ex;obtain rfl:u=Value.ref a:=rx
 obtain⟨t1,t2,_⟩:=rG I1 d
 refine⟨t1,t2,?_⟩
 rw[m.trees];refine Calls.callWith_builtin rfl (Calls.evalArgs_plain (Calls.spliced_cons (bG (he pins s1 σ H1 _ I1 q1) fun iv s2 ⟨y,H2,I2,ry,kvs,k,b,v,ea,ey,eb,l,q2⟩=>Calls.spliced_nil ?_)))
 subst ey;obtain rfl:iv=Value.ref b:=ry
 exact Fz hu I2 ea eb l (.inl rfl) fun w' s3 I3 rw'=>⟨v,_,I3,rw',q2⟩
theorem Bf (hu:X.A.units+1<cLine) (ho:PE X o td) (he:PE X e ty) (hf:PE X f tx) (m:M2 X o "pop" apos e f cpos):PE X (.Call (.Attribute o "pop" apos) [e,f] [] cpos) (yQ td ty tx):=by
 intro pins s σ H Q I h;refine wpAny_Call_method m.base m.few m.line PySem.F.plainAttrs_dict PySem.F.slot_dict_pop PySem.F.type_dict_pop (bG (ho pins s σ H _ I h) fun u s1 ⟨x,H1,I1,rx,a,ex,d,q1⟩=>?_)
 subst ex;obtain rfl:u=Value.ref a:=rx
 obtain⟨t1,t2,_⟩:=rG I1 d
 refine⟨t1,t2,?_⟩
 rw[m.trees];refine Calls.callWith_builtin rfl (Calls.evalArgs_plain (Calls.spliced_cons (bG (he pins s1 σ H1 _ I1 q1) fun iv s2 ⟨y,H2,I2,ry,q2⟩=>
  Calls.spliced_cons (bG (hf pins s2 σ H2 _ I2 q2) fun fv s3 ⟨z,H3,I3,rz,kvs,k,b,ea,ey,eb,q3,q4⟩=>Calls.spliced_nil ?_))))
 subst ey;obtain rfl:iv=Value.ref b:=ry
 cases l:aY kvs k with
 | some v=>exact Fz hu I3 ea eb l (.inr ⟨fv,rfl⟩) fun w' s4 I4 rw'=>⟨v,_,I4,rw',q3 v l⟩
 | none=>exact Kv hu I3 ea eb l fun s4 I4=>⟨z,H3,I4,rz,q4 l⟩
theorem R.fi (hu:X.A.units+1<cLine) (ho:XE X o td) (he:XE X e ty) (h1:attributeBase o "pop" X.env (eval o X.env)=eval o X.env:=by rfl) (h3:(apos.endLine == cpos.line)=true:=by rfl)
  (h2:((backTo cpos (starEach [e] X.env)).all (fun x=>!x.1)&&(backToKw cpos (keywordEach [] X.env)).all (fun x=>x.1.isSome)
  && decide (([e]:List Expr).length+([]:List Keyword).length+(if ([]:List Keyword).isEmpty then 0 else 1)<30))=true:=by rfl)
  (h4:backTo cpos (starEach [e] X.env)=[(false,eval e X.env)]:=by rfl):XE X (.Call (.Attribute o "pop" apos) [e] [] cpos) (yP td ty):=⟨Be hu ho.h he.h ⟨h1,h2,h3,h4⟩⟩
theorem R.fj (hu:X.A.units+1<cLine) (ho:XE X o td) (he:XE X e ty) (hf:XE X f tx) (h1:attributeBase o "pop" X.env (eval o X.env)=eval o X.env:=by rfl) (h3:(apos.endLine == cpos.line)=true:=by rfl)
  (h2:((backTo cpos (starEach [e,f] X.env)).all (fun x=>!x.1)&&(backToKw cpos (keywordEach [] X.env)).all (fun x=>x.1.isSome)
  && decide (([e,f]:List Expr).length+([]:List Keyword).length+(if ([]:List Keyword).isEmpty then 0 else 1)<30))=true:=by rfl)
  (h4:backTo cpos (starEach [e,f] X.env)=[(false,eval e X.env),(false,eval f X.env)]:=by rfl):XE X (.Call (.Attribute o "pop" apos) [e,f] [] cpos) (yQ td ty tx):=⟨Bf hu ho.h he.h hf.h ⟨h1,h2,h3,h4⟩⟩
theorem R.dm {pos:Pos}:XE X (.Dict [] [] pos) Ds:=⟨Du⟩
end
end L2
namespace L2
open PySem PySem.Spec PyProof.Rows
section
variable {X:Cx}
def Kw (neg:Bool):R2:=fun x y H Q=>mR y fun a=>∃o,DGet H a x o/\Q (.bl (if neg then !o.isSome else o.isSome)) H
theorem Ga (neg:Bool) (hu:X.A.units+1<cLine):OpR X (compareOp (if neg then .NotIn else .In)) (Kw neg):=by
 intro pins s σ H x y v u Q I rx ry h;unfold Kw at h;rw[cJ]at h;obtain⟨a,rfl,o,g,q⟩:=h
 cases ry
 cases neg
 ·exact Sx hu I g rx fun s' I'=>⟨.bl _,H,I',rfl,q⟩
 ·exact xW hu I g rx fun s' I'=>⟨.bl _,H,I',rfl,q⟩
theorem R.de (hu:X.A.units+1<cLine):iA X (compareOp .In) (Kw false):=⟨Ga false hu⟩
theorem R.ed (hu:X.A.units+1<cLine):iA X (compareOp .NotIn) (Kw true):=⟨Ga true hu⟩
end
inductive KE where
 | busy (n:Int) (d:Addr)
 | kept (n t:Int) (d a:Addr)
abbrev KM:=Str × Str->Option KE
def KM.set (m:KM) (q:Str × Str) (e:Option KE):KM:=fun r=>if r=q then e else m r
theorem KM.set_same {m:KM} {q:Str × Str} {e:Option KE}:m.set q e q=e:=if_pos rfl
theorem KM.set_ne {m:KM} {q r:Str × Str} {e:Option KE} (h:r≠q):m.set q e r=m r:=if_neg h
def pk (q:Str × Str):List bE:=[Sum.inr q.1,Sum.inr q.2]
theorem wR {q r:Str × Str} (h:pk q=pk r):q=r:=by
 obtain⟨a,b⟩:=q
 obtain⟨c,d⟩:=r
 unfold pk at h;simp only [List.cons.injEq,Sum.inr.injEq,and_true]at h
 rw[h.1,h.2]
theorem dC {H:Hp} {t:Addr} {q:Str × Str} (h:H t=some (.tup [.str q.1,.str q.2])):H t=some (.tup ((pk q).map kV)):=h
def fB:KE->Option (List V)
 | .busy n d=>some [.int n,.ref d]
 | .kept ..=>none
def fS:KE->Option (List V)
 | .busy ..=>none
 | .kept n t d a=>some [.int n,.int t,.ref d,.ref a]
structure Dic (H:Hp) (kvs:List (List bE × V)) (m:KM) (f:KE->Option (List V)) (L:Nat):Prop where
 nd:(kvs.map (·.1)).Nodup
 all:∀p∈kvs,∃q e xs t,p=(pk q,V.ref t)/\m q=some e/\f e=some xs/\H t=some (.tup xs)
 has:∀q e xs,m q=some e->f e=some xs->pk q∈kvs.map (·.1)
 len:kvs.length<=L
section
variable {κ:Type} [DecidableEq κ]
theorem uI {kvs:List (κ × V)} {k:κ} {v:V} (h:aY kvs k=some v):(k,v)∈kvs:=by
 induction kvs with
 | nil=>cases h
 | cons p r ih=>
  by_cases e:p.1=k
  ·rw[bN e]at h;cases h
   cases e
   exact nC
  ·rw[bO e]at h;exact oX _ (ih h)
theorem Gb {kvs:List (κ × V)} {k:κ} {v:V} {p:κ × V} (h:p∈bA kvs k v):p=(k,v)∨(p∈kvs/\p.1≠k):=by
 cases hv:aY kvs k with
 | none=>
  rw[fZ v hv]at h;rcases Zma.mp h with h | h
  ·exact .inr ⟨h,fun e=>iJ hv (e ▸ Zmm.mpr ⟨p,h,rfl⟩)⟩
  ·exact .inl (Zms.mp h)
 | some x=>
  unfold bA at h;rw[bW,hv]at h;simp only [Option.isSome_some,if_true]at h
  obtain⟨p',hp',rfl⟩:=Zmm.mp h
  by_cases e:p'.1=k
  ·rw[if_pos e];left;rw[e]
  ·rw[if_neg e];exact .inr ⟨hp',e⟩
theorem Bg {kvs:List (κ × V)} {k:κ} {v:V} (j:κ):j∈(bA kvs k v).map (·.1)↔j=k∨j∈kvs.map (·.1):=by
 cases hv:aY kvs k with
 | none=>
  rw[fZ v hv,jV,Zma];simp only [List.map_cons,List.map_nil,Zms]
  exact Or.comm
 | some x=>
  have e:(bA kvs k v).map (·.1)=kvs.map (·.1):=by
   unfold bA;rw[bW,hv];simp only [Option.isSome_some,if_true,List.map_map]
   refine List.map_congr_left fun p _=>?_
   simp only [Function.comp]
   split <;> rfl
  rw[e];exact⟨.inr,fun z=>z.elim (fun z=>z ▸ xY hv) id⟩
theorem Kx {kvs:List (κ × V)} {k:κ} {v:V} (hn:(kvs.map (·.1)).Nodup):((bA kvs k v).map (·.1)).Nodup:=by
 cases hv:aY kvs k with
 | none=>exact Jl v hn hv
 | some x=>
  have e:(bA kvs k v).map (·.1)=kvs.map (·.1):=by
   unfold bA;rw[bW,hv];simp only [Option.isSome_some,if_true,List.map_map]
   refine List.map_congr_left fun p _=>?_
   simp only [Function.comp]
   split <;> rfl
  rw[e];exact hn
theorem wU {kvs:List (κ × V)} {k j:κ} (h:j∈kvs.map (·.1)) (hne:j≠k):j∈(bQ kvs k).map (·.1):=by
 obtain⟨p,hp,rfl⟩:=Zmm.mp h
 exact Zmm.mpr ⟨p,List.mem_filter.mpr ⟨hp,decide_eq_true hne⟩,rfl⟩
theorem Gc {kvs:List (κ × V)} {k:κ} {p:κ × V} (h:p∈bQ kvs k):p.1≠k:=of_decide_eq_true (List.mem_filter.mp h).2
end
section
variable {H H':Hp} {kvs:List (List bE × V)} {m m':KM} {f:KE->Option (List V)} {L:Nat} {q:Str × Str}
theorem Dic.keep (h:Dic H kvs m f L) (k:∀b xs,H b=some (.tup xs)->H' b=some (.tup xs)):Dic H' kvs m f L:=
 ⟨h.nd,fun p hp=>let ⟨q,e,xs,t,h1,h2,h3,h4⟩:=h.all p hp;⟨q,e,xs,t,h1,h2,h3,k _ _ h4⟩,h.has,h.len⟩
theorem Dic.more (h:Dic H kvs m f L):Dic H kvs m f (L+1):=⟨h.nd,h.all,h.has,Nat.le_succ_of_le h.len⟩
theorem Dic.get (h:Dic H kvs m f L) (q:Str × Str):(∃t e xs,aY kvs (pk q)=some (.ref t)/\m q=some e/\f e=some xs/\H t=some (.tup xs))∨(aY kvs (pk q)=none/\∀e,m q=some e->f e=none):=by
 cases hv:aY kvs (pk q) with
 | none=>
  refine .inr ⟨rfl,fun e he=>?_⟩
  cases hf:f e with
  | none=>rfl
  | some xs=>exact absurd (h.has q e xs he hf) (iJ hv)
 | some v=>
  obtain⟨q',e,xs,t,h1,h2,h3,h4⟩:=h.all _ (uI hv)
  cases wR (congrArg Prod.fst h1)
  cases (congrArg Prod.snd h1:v=V.ref t)
  exact .inl ⟨t,e,xs,rfl,h2,h3,h4⟩
theorem Dic.at (h:Dic H kvs m f L) {e:KE} {xs:List V} (hm:m q=some e) (hf:f e=some xs):∃t,aY kvs (pk q)=some (.ref t)/\H t=some (.tup xs):=by
 rcases h.get q with⟨t,e',xs',h1,h2,h3,h4⟩ | ⟨_,h2⟩
 ·rw[hm]at h2;cases h2;rw[hf]at h3;cases h3
  exact⟨t,h1,h4⟩
 ·rw[h2 e hm]at hf;cases hf
theorem Dic.no (h:Dic H kvs m f L) (hm:∀e,m q=some e->f e=none):aY kvs (pk q)=none:=by
 rcases h.get q with⟨t,e',xs',h1,h2,h3,h4⟩ | ⟨h1,_⟩
 ·rw[hm _ h2]at h3;cases h3
 ·exact h1
theorem Dic.put (h:Dic H kvs m f L) {e:KE} {xs:List V} {t:Addr} (hf:f e=some xs) (ht:H t=some (.tup xs)) (h1:m' q=some e) (h2:∀r,r≠q->m' r=m r):Dic H (bA kvs (pk q) (.ref t)) m' f (L+1):=by
 refine⟨Kx h.nd,fun p hp=>?_,fun r e' xs' hr hf'=>?_,iE (cU _ _ _) (Nat.succ_le_succ h.len)⟩
 ·rcases Gb hp with rfl | ⟨hp,hne⟩
  ·exact⟨q,e,xs,t,rfl,h1,hf,ht⟩
  ·obtain⟨r,e',xs',t',rfl,g2,g3,g4⟩:=h.all p hp
   exact⟨r,e',xs',t',rfl,by rw[h2 r (fun z=>hne (by rw[z]))];exact g2,g3,g4⟩
 ·rw[Bg];by_cases z:r=q
  ·exact .inl (by rw[z])
  ·exact .inr (h.has r e' xs' (by rw[<- h2 r z];exact hr) hf')
theorem Dic.drop (h:Dic H kvs m f L) (h1:∀e,m' q=some e->f e=none) (h2:∀r,r≠q->m' r=m r):Dic H (bQ kvs (pk q)) m' f L:=by
 refine⟨nX h.nd,fun p hp=>?_,fun r e' xs' hr hf'=>?_,iE (kC _ _) h.len⟩
 ·obtain⟨r,e',xs',t',rfl,g2,g3,g4⟩:=h.all p (pX hp)
  exact⟨r,e',xs',t',rfl,by rw[h2 r (fun z=>Gc hp (by rw[z]))];exact g2,g3,g4⟩
 ·have z:r≠q:=fun z=>by rw[z]at hr;rw[h1 _ hr]at hf';cases hf'
  exact wU (h.has r e' xs' (by rw[<- h2 r z];exact hr) hf') (fun e=>z (wR e))
theorem Dic.skip (h:Dic H kvs m f L) (h0:∀e,m q=some e->f e=none) (h1:∀e,m' q=some e->f e=none) (h2:∀r,r≠q->m' r=m r):Dic H kvs m' f L:=by
 have:=h.drop h1 h2
 rwa [nV (iJ (h.no h0))]at this
theorem Dic.nil:Dic H [] (fun _=>none) f L:=⟨List.nodup_nil,fun p hp=>absurd hp (List.not_mem_nil),fun q e xs he=>(by cases he),Nat.zero_le _⟩
end
structure KF where
 dx:Addr
 db:Addr
 ds:Addr
def yR (a:KF) (life:Int):List (Str × V):=[("life",.int life),("begun_ones",.ref a.db),("settled_ones",.ref a.ds)]
structure KyAt (C:Addr) (H:Hp) (p:Addr) (a:KF) (life:Int) (m:KM) (L:Nat):Prop where
 hp:H p=some (.ins C a.dx (yR a life))
 hb:∃kvs,H a.db=some (.dT kvs)/\Dic H kvs m fB L
 hs:∃kvs,H a.ds=some (.dT kvs)/\Dic H kvs m fS L
 ne:a.db≠a.ds
structure Qw (K:W.Frag) (C:Addr):Prop where
 cl:Cls K C
 nL:NoAttr K C "life"
 nB:NoAttr K C "begun_ones"
 nS:NoAttr K C "settled_ones"
theorem Wp (a:KF) (l:Int):(yR a l).lookup ("life":Str)=some (.int l):=by unfold yR;rw[List.lookup_cons];simp
theorem sN (a:KF) (l:Int):(yR a l).lookup ("begun_ones":Str)=some (.ref a.db):=by
 unfold yR;rw[List.lookup_cons,(by decide +kernel:(("begun_ones":Str) == ("life":Str))=false)]
 show List.lookup ("begun_ones":Str) [(("begun_ones":Str),V.ref a.db),(("settled_ones":Str),V.ref a.ds)]=_
 rw[List.lookup_cons];simp
theorem Bh (a:KF) (l:Int):(yR a l).lookup ("settled_ones":Str)=some (.ref a.ds):=by
 unfold yR;rw[List.lookup_cons,(by decide +kernel:(("settled_ones":Str) == ("life":Str))=false)]
 show List.lookup ("settled_ones":Str) [(("begun_ones":Str),V.ref a.db),(("settled_ones":Str),V.ref a.ds)]=_
 rw[List.lookup_cons,(by decide +kernel:(("settled_ones":Str) == ("begun_ones":Str))=false)]
 show List.lookup ("settled_ones":Str) [(("settled_ones":Str),V.ref a.ds)]=_
 rw[List.lookup_cons];simp
theorem uJ {m:Str} (a:KF) (l:Int) (h1:(m == ("life":Str))=false) (h2:(m == ("begun_ones":Str))=false) (h3:(m == ("settled_ones":Str))=false):(yR a l).lookup m=none:=by
 unfold yR;rw[List.lookup_cons,h1];show List.lookup m [(("begun_ones":Str),V.ref a.db),(("settled_ones":Str),V.ref a.ds)]=none
 rw[List.lookup_cons,h2];show List.lookup m [(("settled_ones":Str),V.ref a.ds)]=none
 rw[List.lookup_cons,h3];rfl
section
variable {C:Addr} {H H':Hp} {p:Addr} {a:KF} {life:Int} {m:KM} {L:Nat}
theorem KyAt.keep (h:KyAt C H p a life m L) (k:∀b o,H b=some o->(∀xs,o≠.lst xs)->H' b=some o):KyAt C H' p a life m L:=by
 obtain⟨b1,g1,d1⟩:=h.hb
 obtain⟨b2,g2,d2⟩:=h.hs
 have kt:∀b xs,H b=some (.tup xs)->H' b=some (.tup xs):=fun b xs e=>k _ _ e (fun _ z=>nomatch z)
 exact⟨k _ _ h.hp (fun _ z=>nomatch z),⟨b1,k _ _ g1 (fun _ z=>nomatch z),d1.keep kt⟩,⟨b2,k _ _ g2 (fun _ z=>nomatch z),d2.keep kt⟩,h.ne⟩
theorem KyAt.same (h:KyAt C H p a life m L) (s:Same H H'):KyAt C H' p a life m L:=h.keep fun b o e _=>s _ _ e
theorem KyAt.new (h:KyAt C H p a life m L) {m':KM} {L':Nat} {b1 b2:List (List bE × V)} (hp:H' p=H p) (g1:H' a.db=some (.dT b1)) (g2:H' a.ds=some (.dT b2)) (kt:∀b xs,H b=some (.tup xs)->H' b=some (.tup xs)) (d1:Dic H' b1 m' fB L') (d2:Dic H' b2 m' fS L'):KyAt C H' p a life m' L':=
 ⟨hp.trans h.hp,⟨b1,g1,d1⟩,⟨b2,g2,d2⟩,h.ne⟩
end
def Gd (life turn:Int):Option KE->List V
 | none=>[.str "free"]
 | some (.busy n d)=>[.str "busy",.int n,.ref d]
 | some (.kept n t d a)=>if t+life > turn then [.str "kept",.int n,.ref d,.ref a] else [.str "free"]
def Vg (H H':Hp) (a:KF):Prop:=∀c o,H c=some o->c≠a.db->c≠a.ds->H' c=some o
def yS (C:Addr):Sp:=fun vs H Q _=>∃(p dx:Addr) (life:Int),vs=[.ref p,.int life]/\H p=some (.ins C dx []) ∧
 ∀H' a,H a.db=none->H a.ds=none->KyAt C H' p a life (fun _=>none) 0->(∀b o,H b=some o->b≠p->H' b=some o)->Q .non H'
def yT:Sp:=fun vs H Q _=>∃t l n:Int,vs=[.int t,.int l,.int n]/\Q (.bl (decide (t+l > n))) H
def Ge (C:Addr):Sp:=fun vs H Q _=>∃p a life m L q now,vs=[.ref p,.str q.1,.str q.2,.int now]/\KyAt C H p a life m L/\∀t H',Same H H'->H' t=some (.tup (Gd life now (m q)))->Q (.ref t) H'
def yU (C:Addr):Sp:=fun vs H Q _=>∃p a life m L q n d,vs=[.ref p,.str q.1,.str q.2,.int n,.ref d]/\KyAt C H p a life m L/\L<=500/\(∀n' d',m q≠some (.busy n' d')) ∧
 ∀H',KyAt C H' p a life (m.set q (some (.busy n d))) (L+1)->Vg H H' a->Q .non H'
def Mt (C:Addr):Sp:=fun vs H Q _=>∃p a life m L t q n d,vs=[.ref p,.ref t]/\KyAt C H p a life m L/\H t=some (.tup [.str q.1,.str q.2])/\m q=some (.busy n d) ∧
 ∀u H',KyAt C H' p a life (m.set q none) L->Vg H H' a->H' u=some (.tup [.int n,.ref d])->Q (.ref u) H'
def uK (C:Addr):Sp:=fun vs H Q _=>∃p a life m L q n d w z,vs=[.ref p,.str q.1,.str q.2,.int w,.ref z]/\KyAt C H p a life m L/\L<=500/\m q=some (.busy n d) ∧
 ∀H',KyAt C H' p a life (m.set q (some (.kept n w d z))) (L+1)->Vg H H' a->Q .non H'
end L2
namespace L2
open PySem PySem.Spec PyProof.Rows
theorem oM {X:Cx}:yM X (fun _ _ _ _=>False):=fun pins σ H s e s' I h=>by
 obtain⟨a,cls,od,H',rfl,F,hE⟩:=h
 exact hE.elim
end L2
namespace L2
open PySem PySem.Spec PyProof.Rows
theorem qH:∀ {vs:List Value} {ns:List Int},IntsAre vs ns->Vals (ns.map V.int) vs
 | _,_,.nil=>.nil
 | _,_,.cons x t h=>.cons ⟨t,rfl⟩ (qH h)
end L2
namespace L2
open PySem PySem.Spec PyProof.Rows
section
variable {X:Cx}
def sO {α:Type} (xs:List α) (k:Nat) (x:α):List α:=xs.take k++[x]++xs.drop k
def yV:V->List V->Hp->VK->Prop:=fun x vs H Q=>∃(l:Addr) (xs:List V) (k:Nat) (y:V),x=.ref l/\vs=[.int (k:Int),y]/\H l=some (.lst xs)/\k<=xs.length/\xs.length<1000/\Q .non (aI H l (.lst (sO xs k y)))
theorem Gf {k:Nat} (h:k<1000):¬ (!Builtin.List.listFitsIndex (k:Int))=true:=by
 have e1:-(2 ^ 63)<=(k:Int):=by omega
 have e2:(k:Int)<2 ^ 63:=by omega
 rw[fitsIndex_both e1 e2];exact Bool.false_ne_true
theorem qI:∀ {xs:List V} {its:List Value} (k:Nat),Vals xs its->Vals (xs.take k) (its.take k)
 | _,_,0,_=>by simp;exact .nil
 | _,_,k+1,.nil=>by simp;exact .nil
 | _,_,k+1,.cons h t=>by rw[List.take_succ_cons,List.take_succ_cons];exact .cons h (qI k t)
theorem qJ:∀ {xs:List V} {its:List Value} (k:Nat),Vals xs its->Vals (xs.drop k) (its.drop k)
 | _,_,0,h=>by simpa using h
 | _,_,k+1,.nil=>by simp;exact .nil
 | _,_,k+1,.cons h t=>by rw[List.drop_succ_cons,List.drop_succ_cons];exact qJ k t
theorem Qx {s:Shared} {A:Around} {E:Value->Shared->Prop} {prog:Program} {w:World} {l:Addr} {its:List Value} {n:Nat} {k:Int} {t:Tok} {u2:Value} {Q:Value->Shared->Prop} (e:s.heap.get? l=some {cls:=.type "list",data:=.seq its.toArray n }) (f1:¬ (!Builtin.List.listFitsIndex k)=true) (f2:its.toArray.size<=sizeLine)
  (q:Q .none {s with heap:=s.heap.update l (Obj.mapSeq fun xs=>have k:=if k<0 then (k+(xs.size:Int)).toNat else min k.toNat xs.size;(xs.extract 0 k).push u2++xs.extract k),toks:=s.toks }) :
  wpAny (model prog w) A (call (.builtin "list.insert") [.ref l,.int k t,u2]) Q E s:=by
 have M:=AutoSeq1.list_insert_list_int_val_1 l its.toArray n k t u2 f1 f2
 exact call_meets PySem.F.slot_list_insert ⟨_,e,rfl⟩ PySem.F.entry_list_insert (PySem.F.args_list_insert_3 _ _ _) M ⟨e,q⟩
theorem Bi:Vc X "list.insert" yV:=by
 intro pins s σ H x vs v us Q I rx rv h;obtain⟨l,xs,k,y,rfl,rfl,hH,hk,hz,q⟩:=h
 cases rx
 obtain⟨u1,u2,rfl,ru1,ru2⟩:=rv.two
 obtain⟨t,rfl⟩:=ru1
 obtain⟨z,its,n,r,hl,e⟩:=I.lstM hH
 have hlen:(sO xs k y).length=xs.length+1:=by unfold sO;simp;omega
 have hv:Vals (sO xs k y) (sO its k u2):=by
  unfold sO;exact((qI k r).append (.cons ru2 .nil)).append (qJ k r)
 have hle:(sO xs k y).length<=sizeLine:=gA (by rw[hlen];omega)
 refine Qx e (Gf (zP hk hz)) (by rw[eC,<- hl];exact z) ?_
 refine⟨.non,_,I.lset (its':=sO its k u2) hH e ?_ hv hle,rfl,q⟩
 have h0:¬ ((k:Int)<0):=by omega
 have h1:min (k:Int).toNat its.toArray.size=k:=by rw[eC,<- hl];simp;omega
 simp only [h0,if_false,h1]
 unfold sO;simp
 exact Ib Zs
theorem R.fk:XM X "list.insert" yV:=⟨Bi⟩
end
section
variable {X:Cx}
def Mu (K:W.Frag) (C:Addr) (tb:(St->Value->Option Addr->Hp->Prop)->TS) (th:TS):TS:=fun D σ H=>
 tb (fun σ' cls od H'=>W.exmOne K cls (.ref C)=some true/\th D σ' H') D σ H
theorem Ky {C:Addr} {c:Str} {body suite:List Stmt} {s0:Stmt} {p hpos pos:Pos} {tb:(St->Value->Option Addr->Hp->Prop)->TS} {th:TS} (hst:X.stack=X.env::X.outer) (hf:X.env.frame=some X.env.locals)
  (hg:Gl X c) (hm:X.mg c=some (.ref C)) (hdb:(c == ("__debug__":Str))=false) (hb:∀pn Ex,PSs (X.trying pn Ex) body (tb Ex)) (hs:∀a,PSs (X.handling a) (s0::suite) th) :
  PS X (.Try body [.ExceptHandler (some (.Name c p)) none (s0::suite) hpos] [] [] pos) (Mu X.K C tb th):=by
 intro pins s σ H D I h;refine wpAny_Try_except (wpAny_mono (hb (X.pn++pins) _ [] s σ H D I.pnIn.trying h) (fun f s1 q=>?_) fun e s1 q=>?_)
 ·have q':=q.tried I.ok
  cases f with
  | next=>exact wpAny_execs_nil q'
  | brk=>exact q'
  | cont=>exact q'
  | ret u=>exact q'
 ·obtain⟨σ',H0,sc,I0,a,cls,od,H',rfl,F,hx1,hw⟩:=q
  have I0':Inv X pins σ' H0 sc:=I0.pnOut I.ok
  have F':Fly X.prog X.w X.stack H0 sc H' a cls od .none s1:=F
  refine Fn I0' F' I.ok.frames hst hf fun s2 F2=>?_
  refine uF I0' F2 fun s3 F3=>?_
  have I3:=F3.inv I0'
  refine wpAny_handleBy_cons (codeAny_handlers_test ?_) (by intro q;cases q)
  refine iV (X:=X.handling a) (I3.handling (a:=a)) hg hm ?_ hdb
  obtain⟨T,⟨oe,vs,a0,oT,ts,e1,e2,_⟩,_⟩:=F3.tr
  have LT:W.Looks (model X.prog X.w) s3.heap (typeOf (.ref a)) cls:=e2 ▸ (W.Looks.ld e1).andThen .now
  refine(W.exm_one I3.kIn LT hx1).here ?_
  show codeAny _ _ _ _ _
  refine codeAny_handlers_suite ?_
  refine uF I0' F3 fun s4 F4=>?_
  have I4:=F4.inv I0'
  refine wpAny_mono (hs a pins s4 _ _ _ (I4.handling (a:=a)) hw) (fun f s6 q=>?_) (fun _ _ z=>False.elim z)
  exact q.handled I.ok
theorem R.fm {K:W.Frag} {C:Addr} {c:Str} {body suite:List Stmt} {s0:Stmt} {p hpos pos:Pos} {tb:(St->Value->Option Addr->Hp->Prop)->TS} {th:TS} (hm:X.mg c=some (.ref C)) (hg:Gl X c) (hb:∀pn Ex,XB (X.trying pn Ex) body (tb Ex)) (hs:∀a,XB (X.handling a) (s0::suite) th) (hK:X.K=K:=by rfl) (hst:X.stack=X.env::X.outer:=by rfl) (hf:X.env.frame=some X.env.locals:=by rfl) (hdb:(c == ("__debug__":Str))=false:=by decide +kernel) :
  XS X (.Try body [.ExceptHandler (some (.Name c p)) none (s0::suite) hpos] [] [] pos) (Mu K C tb th):=hK ▸ ⟨Ky hst hf hg hm hdb (fun pn Ex=>(hb pn Ex).h) fun a=>(hs a).h⟩
end
end L2
namespace L2
open PySem PySem.Spec PyProof.Rows
theorem isKy.len {z:Str} (h:isKy z):z.length<=1000:=iE h.2.1 Zd
end L2
namespace L2
open PySem PySem.Spec PyProof.Rows
section
variable {X:Cx}
def Mw (K:W.Frag):List V->Hp->VK->Prop:=fun vs H Q=>∃(p:Addr) (ns:List Int),vs=[.ref p]/\SqL K H p (ns.map V.int)/\0<ns.length/\∀M:Int,M∈ns->(∀a∈ns,a<=M)->Q (.int M) H
theorem Bj (hc:X.calm=true):CallR X (.builtin "max") (Mw X.K):=by
 intro pins s σ H xs us Q I r h;obtain⟨p,ns,rfl,hq,hn,q⟩:=h
 obtain⟨u,rfl,ru⟩:=hZ r
 cases ru
 obtain⟨its,rv,pl,hz⟩:=I.list hq
 have hi:=nI rv
 obtain⟨xs,hx⟩:=hi.allInts.items
 have hl':s.heap.IsList p (intItems xs):=hx ▸ pl.isList
 have e1:ns=xs.toList.map (·.1):=by
  rw[<- nums_intItems,<- hx];exact(show numsOf its.toArray.toList=ns from hi.numsOf).symm
 have hsz:ns.length=xs.size:=by rw[e1];simp
 refine max_intList (I.ok.hd hc) hl' Zo fun v h' tk hv hk=>?_
 obtain⟨hle,hmx⟩:=argBest_gt (numAt xs) (xs.size - 1)
 generalize argBest (fun i j=>decide (numAt xs i > numAt xs j)) (xs.size - 1)=k at hv hle hmx
 obtain⟨t,rfl⟩:=intItems_at hv
 have at_:∀j,j<ns.length->numAt xs j=ns.getD j 0:=fun j _=>by rw[numAt_eq,e1]
 refine⟨.int _,H,I.kept hk,⟨_,rfl⟩,q _ ?_ ?_⟩
 ·rw[at_ k Zo,List.getD_eq_getElem?_getD,mQ Zo]
  exact List.getElem_mem _
 ·intro a ha;obtain⟨j,hj,rfl⟩:=List.getElem_of_mem ha
  have:=hmx j Zo
  rw[at_ j hj,List.getD_eq_getElem?_getD,mQ hj]at this;exact this
theorem R.eg {K:W.Frag} (hc:X.calm=true) (hK:X.K=K:=by rfl):XC X (.builtin "max") (Mw K):=hK ▸ ⟨Bj hc⟩
end
end L2
namespace L2
open PySem PySem.Spec PyProof.Rows
inductive Dd where
 | add (a:Str) (n:Nat)
 | take (a:Str) (n:Nat)
 | move (a b:Str) (n:Nat)
 | send (h a:Str) (n:Nat)
 | fetch (h a:Str) (n:Nat)
 | pass (h g a:Str) (n:Nat)
namespace Dd
def vs:Dd->List V
 | .add a n=>[.str "add",.str a,.int (n:Int)]
 | .take a n=>[.str "take",.str a,.int (n:Int)]
 | .move a b n=>[.str "move",.str a,.str b,.int (n:Int)]
 | .send h a n=>[.str "send",.str h,.str a,.int (n:Int)]
 | .fetch h a n=>[.str "fetch",.str h,.str a,.int (n:Int)]
 | .pass h g a n=>[.str "pass",.str h,.str g,.str a,.int (n:Int)]
def n:Dd->Nat
 | .add _ n=>n | .take _ n=>n | .move _ _ n=>n | .send _ _ n=>n | .fetch _ _ n=>n | .pass _ _ _ n=>n
def far:Dd->Bool
 | .send _ _ _=>true | .fetch _ _ _=>true | .pass _ _ _ _=>true | _=>false
def Ok:Dd->Prop
 | .add a n=>isNm a/\1<=n/\n<=1000000000000
 | .take a n=>isNm a/\1<=n/\n<=1000000000000
 | .move a b n=>isNm a/\isNm b/\a≠b/\1<=n/\n<=1000000000000
 | .send h a n=>isNm h/\isNm a/\1<=n/\n<=1000000000000
 | .fetch h a n=>isNm h/\isNm a/\1<=n/\n<=1000000000000
 | .pass h g a n=>isNm h/\isNm g/\isNm a/\h≠g/\1<=n/\n<=1000000000000
theorem Ok.n {d:Dd} (h:d.Ok):1<=d.n/\d.n<=1000000000000:=by
 cases d <;> simp only [Ok]at h <;> simp only [Dd.n] <;> omega
def wd:Dd->Str
 | .add _ _=>"add" | .take _ _=>"take" | .move _ _ _=>"move" | .send _ _ _=>"send" | .fetch _ _ _=>"fetch" | .pass _ _ _ _=>"pass"
end Dd
inductive An where
 | is1 (m:Nat)
 | is2 (l m:Nat)
 | short (m:Nat)
 | full (m:Nat)
 | no (h:Str)
 | ok
namespace An
def vs:An->List V
 | .is1 m=>[.str "is",.int (m:Int)]
 | .is2 l m=>[.str "is",.int (l:Int),.int (m:Int)]
 | .short m=>[.str "short",.int (m:Int)]
 | .full m=>[.str "full",.int (m:Int)]
 | .no h=>[.str "no",.str h]
 | .ok=>[.str "ok"]
def early:An->Bool | .short _=>true | .full _=>true | _=>false
def Of:Dd->An->Prop
 | .add _ n,.is1 m=>n<=m/\m<=1000000000000
 | .add _ n,.full m=>1000000000000<m+n/\m<=1000000000000
 | .take _ n,.is1 m=>m+n<=1000000000000
 | .take _ n,.short m=>m<n
 | .move _ _ n,.is2 l m=>l+n<=1000000000000/\n<=m/\m<=1000000000000
 | .move _ _ n,.short m=>m<n
 | .move _ _ n,.full m=>1000000000000<m+n/\m<=1000000000000
 | .send _ _ n,.is1 m=>m+n<=1000000000000
 | .send _ _ n,.short m=>m<n
 | .send h _ _,.no g=>g=h
 | .fetch _ _ n,.is1 m=>n<=m/\m<=1000000000000
 | .fetch _ _ n,.full m=>1000000000000<m+n/\m<=1000000000000
 | .fetch h _ _,.no g=>g=h
 | .pass h g _ _,.no k=>k=h∨k=g
 | .pass _ _ _ _,.ok=>True
 | _,_=>False
end An
inductive RX where
 | next (n t:Nat)
 | has (z:Str) (m:Nat)
 | kept (n t:Nat) (p k:Str) (d:Dd) (y:An)
 | came (n t:Nat) (p k:Str) (d:Dd)
 | asked (n:Nat)
 | done (n t:Nat) (y:An)
namespace RX
def tvs:List V->TV:=fun xs=>.tp (xs.map TV.sc)
theorem rep_flat {H:Hp} {b:Addr} {xs:List V} (g:H b=some (.tup xs)) (hf:∀x∈xs,jQ x=true):vI H 1 (tvs xs) (.ref b):=by
 refine⟨b,xs,rfl,g,?_⟩
 induction xs with
 | nil=>exact .nil
 | cons x xs ih=>
  clear g;refine .cons ⟨rfl,hf x nC⟩ ?_
  have:∀(ys:List V),(∀y∈ys,jQ y=true)->Paired (vI H 0) (ys.map TV.sc) ys:=fun ys h=>by
   induction ys with
   | nil=>exact .nil
   | cons y ys ih=>exact .cons ⟨rfl,h y nC⟩ (ih fun z hz=>h z (oX _ hz))
  exact this xs fun z hz=>hf z (oX _ hz)
theorem sc_dd (d:Dd):∀x∈d.vs,jQ x=true:=by
 intro x hx;cases d <;> simp only [Dd.vs,List.mem_cons,List.not_mem_nil,or_false]at hx <;> rcases hx with rfl | rfl | rfl | rfl | rfl <;> rfl
theorem sc_an (y:An):∀x∈y.vs,jQ x=true:=by
 intro x hx;cases y <;> simp only [An.vs,List.mem_cons,List.not_mem_nil,or_false]at hx <;> rcases hx with rfl | rfl | rfl | rfl | rfl <;> rfl
end RX
end L2
namespace L2
open PySem PySem.Spec PyProof.Rows
theorem lW {t u:TS} {D:jY} {σ:St} {H:Hp} (R:St->Hp->Prop) (h:∀nx:St->Hp->Prop,(∀ σ' H',R σ' H'->nx σ' H')->t {D with nx:=nx } σ H) (h2:∀ σ' H',R σ' H'->u D σ' H'):Cj t u D σ H:=h (u D) h2
theorem Xb {c:TT} {t u:TS} {D:jY} {σ:St} {H:Hp} (R:Bool->Hp->Prop) (h:∀k:Bool->Hp->Prop,(∀v H',R v H'->k v H')->c σ H k) (ht:∀H',R true H'->t D σ H') (hf:∀H',R false H'->u D σ H'):Cl c t u D σ H:=
 h (fun b H1=>if b=true then t D σ H1 else u D σ H1) fun v H' r=>match v,r with | true,r=>ht H' r | false,r=>hf H' r
theorem Gg {c:TT} {t u x:TS} {D:jY} {σ:St} {H:Hp} (R:Bool->Hp->Prop) (h:∀k:Bool->Hp->Prop,(∀v H',R v H'->k v H')->c σ H k) (ht:∀H',R true H'->t {D with nx:=x D } σ H') (hf:∀H',R false H'->u {D with nx:=x D } σ H'):Cj (Cl c t u) x D σ H:=
 h (fun b H1=>if b=true then t {D with nx:=x D } σ H1 else u {D with nx:=x D } σ H1) fun v H' r=>match v,r with | true,r=>ht H' r | false,r=>hf H' r
end L2
namespace L2
open PySem PySem.Spec PyProof.Rows
theorem oN:∀ {ks:List Int} {vs:List Value},vs.length=ks.length->(∀(i:Nat) (v:Value),vs[i]?=some v->∃x t,ks[i]?=some x/\v=Value.int x t)->IntsAre vs ks
 | [],[],_,_=>.nil
 | k::ks,v::vs,hl,h=>by
  obtain⟨x,t,e1,rfl⟩:=h 0 v rfl
  cases e1
  exact .cons k t (oN (by simpa using hl) fun i v hv=>by simpa using h (i+1) v (by simpa using hv))
section
variable {prog:Program} {w:World} {A:Around} {E:Value->Shared->Prop} {s:Shared}
theorem sP {d:Addr} {ss:List Int} {kvs:List (bE × Value)} {Q:Value->Shared->Prop} (hh:A.handled=none) (lo:(d == sysModules)=false) (hd:s.heap.DictOf (aQ prog w) d kvs) (hk:kvs.map (·.1)=ss.map Sum.inl) (h64:ss.length<64)
  (h:∀(h1 h':Heap) (tk:Nat) (out:Array Value) (e:Nat) (ns':List Int),(∀b ob,s.heap.get? b=some ob->h1.get? b=some ob)->(∀b ob,h1.get? b=some ob->h'.get? b=some ob)->h'.get? h1.objs.size=some (seqObj "list" out e)->IntsAre out.toList ns'->ns'.Perm ss->ns'.Pairwise (·<=·)->Q (.ref h1.objs.size) {s with heap:=h',toks:=tk }) :
  wpAny (model prog w) A (call (.builtin "sorted") [.ref d]) Q E s:=by
 have hl:kvs.length=ss.length:=by simpa using congrArg List.length hk
 obtain⟨ep,hm⟩:=hd.dictAt
 apply Calls.call_function_entry kind_sorted plain_sorted entry_sorted (args_sorted1 _)
 unfold Builtin.«sorted»
 apply wpAny_bind (m:=checkCount "sorted" 1 1 _)
 apply wpAny_pure
 apply wpAny_bind
 refine W.kdu_collect (W.kdl_dict lo) hh hm (by rw[hl];exact iE (Nat.le_of_lt h64) Zd) fun h1 tk acc k1 hacc=>?_
 have hS:IntsAre acc.toList ss:=oN (by rw[Array.length_toList,hacc.1,hl]) fun i v hv=>by
  obtain⟨k,x,e1,e2⟩:=hacc.2 i v (by simpa using hv)
  have e3:(kvs.map (·.1))[i]?=some k:=by rw[iU,e1];rfl
  rw[hk,iU]at e3;cases e4:ss[i]? with
  | none=>rw[e4]at e3;cases e3
  | some y=>
   rw[e4]at e3;cases e3
   rcases bB (show jX (Sum.inl y) v=true from e2) with⟨z,t,e,ev⟩ | ⟨_,_,e,_⟩
   ·cases e
    exact⟨_,t,rfl,ev⟩
   ·cases e
 generalize acc.toList=vs at hS;have hvl:vs.length<64:=by rw[hS.length];exact h64
 apply wpAny_bind
 apply wpAny_newList
 ·have g2:(h1.push (seqObj "list" vs.toArray 0)).get? h1.objs.size=some (seqObj "list" vs.toArray 0):=Heap.get?_push_size _ rfl
  apply wpAny_bind
  apply wpAny_holding
  refine wpAny_call_entry slot_list_sort ⟨_,g2,rfl⟩ entry_list_sort (list_sort_tree (s:={s with heap:=h1.push (seqObj "list" vs.toArray 0),toks:=tk }) g2 hS hvl fun out ns' a1 a2 a3=>⟨_,rfl,wpAny_pure ⟨_,rfl,?_⟩⟩) (args_list_sort _)
  obtain⟨e,he⟩:=sortedHeap_at (out:=out) g2
  refine h h1 _ _ _ e ns' k1 (fun b ob hb1=>?_) he a1 a2 a3
  have hlt:=Heap.lt_size hb1
  rw[sortedHeap_old (Nat.ne_of_lt hlt) (by rw[size_push'];exact Nat.lt_succ_of_lt hlt)]
  exact iH _ hb1
 ·exact iE (Nat.le_of_lt hvl) Zd
end
section
variable {X:Cx}
def lG:List V->Hp->VK->Prop:=fun vs H Q=>match vs with
 | [.ref a]=>∃(ss:List Int) (kvs:List (bE × V)),Rd H a (.dK kvs)/\kvs.map (·.1)=ss.map Sum.inl/\ss.length<64/\∀(l:Addr) (ns':List Int),H l=none->ns'.Perm ss->ns'.Pairwise (·<=·)->Q (.ref l) (aI H l (.lst (ns'.map V.int)))
 | _=>False
theorem wV (hcm:X.calm=true):CallR X (.builtin "sorted") lG:=by
 intro pins s σ H xs us Q I r h;unfold lG at h;split at h
 ·rename_i a
  obtain⟨ss,kvs,hq,hk,h64,q⟩:=h
  obtain⟨u,rfl,ru⟩:=hZ r
  cases ru
  obtain⟨_,hd,vs,rel,dd⟩:=kF I.hok hq
  refine sP (I.ok.hd hcm) hd dd (by rw[<- rel.keys];exact hk) h64 fun h1 h' tk out e ns' k1 k he hS hp hs=>?_
  have I1:=I.kept (t':=s.toks) k1
  refine⟨.ref h1.objs.size,_,I1.laid (t':=tk) (o:=.lst (ns'.map V.int)) k (cB _) ⟨?_,out.toList,e,qH hS,he⟩,rfl,q _ _ (I1.hok.fresh (cB _)) hp hs⟩
  rw[dN,hp.length_eq];exact iE (Nat.le_of_lt h64) Zd
 ·exact h.elim
theorem R.eh (hcm:X.calm=true):XC X (.builtin "sorted") lG:=⟨wV hcm⟩
end
end L2
namespace L2
open PySem PySem.Spec PyProof.Rows
section
variable {X:Cx}
def Kz (neg:Bool):R2:=fun x y H Q=>mR y fun a=>∃o,DGet H a x o/\Q (.bl (if neg then !o.isSome else o.isSome)) H
theorem Gh (neg:Bool) (hu:X.A.units+1<cLine):OpR X (compareOp (if neg then .NotIn else .In)) (Kz neg):=by
 intro pins s σ H x y v u Q I rx ry h;unfold Kz at h;rw[cJ]at h;obtain⟨a,rfl,o,g,q⟩:=h
 cases ry
 cases neg
 ·exact Sx hu I g rx fun s' I'=>⟨.bl _,H,I',rfl,q⟩
 ·exact xW hu I g rx fun s' I'=>⟨.bl _,H,I',rfl,q⟩
theorem R.fo (hu:X.A.units+1<cLine):iA X (compareOp .In) (Kz false):=⟨Gh false hu⟩
theorem R.en (hu:X.A.units+1<cLine):iA X (compareOp .NotIn) (Kz true):=⟨Gh true hu⟩
end
end L2
namespace L2
open PySem PySem.Spec PyProof.Rows
def Gi (xs ys:List V):Prop:=∀(j:Nat) (u v:V),xs[j]?=some u->ys[j]?=some v->eE u=true/\eE v=true
theorem wW {xs:List V} (h:Gi xs xs):bH xs xs=true:=by
 unfold bH;rw[Bool.and_eq_true_iff];refine⟨List.all_eq_true.mpr fun j hj=>?_,Zs⟩
 have hj:j<xs.length:=by simpa using hj
 have e:xs.getD j .non=xs[j]:=by simp [List.getD,hj]
 rw[e];have:=(h j xs[j] xs[j] (mQ hj) (mQ hj)).1
 generalize xs[j]=v at this;cases v <;> first | exact absurd (show false=true from this) Bool.false_ne_true | simp [Ag]
end L2
namespace L2
open PySem PySem.Spec PyProof.Rows
section
variable {X:Cx} {e o:Expr} {es:List Expr} {m:Str} {pos apos cpos:Pos} {ta td ty:TE} {t:TA} {C:Addr} {n:Nat} {ps:List Str} {sp:Sp} {dvs:List V}
theorem R.fq (ho:XE X o td) (he:XE X e ty) (h1:attributeBase o "pop" X.env (eval o X.env)=eval o X.env:=by rfl) (h3:(apos.endLine == cpos.line)=true:=by rfl)
  (h2:((backTo cpos (starEach [e] X.env)).all (fun x=>!x.1)&&(backToKw cpos (keywordEach [] X.env)).all (fun x=>x.1.isSome)
  && decide (([e]:List Expr).length+([]:List Keyword).length+(if ([]:List Keyword).isEmpty then 0 else 1)<30))=true:=by rfl)
  (h4:backTo cpos (starEach [e] X.env)=[(false,eval e X.env)]:=by rfl):XE X (.Call (.Attribute o "pop" apos) [e] [] cpos) (Dw td ty):=⟨Dy ho.h he.h ⟨h1,h2,h3,h4⟩⟩
structure Gj (P:Program) (w:World) (K:W.Frag) (mg:Str->Option Value) (base:Heap) (n:Nat) (C:Addr) (m:Str) (ps:List Str) (dvs:List V) (sp:Sp):Prop where
 ex:∃f fd ds,Cls K C/\Ab K C m f/\gM P w K mg base pU n f fd ps sp/\Binds K fd ps ds/\Vals dvs ds
def Gk (C:Addr) (m:Str) (sp:Sp) (dvs:List V) (ta:TE) (t:TA):TE:=fun σ H Q=>ta σ H fun x H1=>mR x fun a=>∃dx fs,H1 a=some (.ins C dx fs)/\fs.lookup m=none/\t σ H1 fun vs H2=>sp (.ref a::vs++dvs) H2 Q E0
theorem Bk {pl:Sem Bool} (he:PE X o ta) (c:Gj X.prog X.w X.K X.mg X.base n C m ps dvs sp) (hr:Room n X.A) (ha:PA X (e::es) t) (hs:aJ e=true) (hpl:(backTo pos (starEach es X.env)).any (·.1)=false)
  (ht:eval (.Call (.Attribute o m apos) (e::es) [] pos) X.env=(do
   let ov ← eval o X.env
   standAt apos.atName
   let (f,first) ← holding [ov] (getMethod ov m pl)
   callWith pos f first (backTo pos (starEach (e::es) X.env)) (backToKw pos (keywordEach [] X.env)))) :
  PE X (.Call (.Attribute o m apos) (e::es) [] pos) (Gk C m sp dvs ta t):=by
 obtain⟨f,fd,ds,cl,hm,F,hb,hd⟩:=c.ex
 intro pins s σ H Q I h;refine W.methodCall_KW (pl:=pl) (bG (he pins s σ H _ I h) fun u s1 ⟨x,H1,I1,rx,q1⟩=>?_) ht
 dsimp only at q1
 rw[cJ]at q1;obtain⟨a,rfl,dx,fs,ea,l,q⟩:=q1
 obtain rfl:u=Value.ref a:=rx
 refine gL I1 ea cl hm l ?_
 refine W.callWith_K (first:=[.ref a]) (h₀:=X.base) I.ok.mod.kin hm.kp (bG (ha pos pins s1 σ H1 _ I1 q) fun us s2 ⟨vs,H2,I2,r,q2⟩=>⟨I2.kIn,?_⟩) (aZ hs) hpl
 exact qY (us:=.ref a::us) (vs:=.ref a::vs) (dvs:=dvs) (ds:=ds) F hr hb hd pV I2 (.cons rfl r) q2
theorem R.dn {pl:Sem Bool} (c:Gj X.prog X.w X.K X.mg X.base n C m ps dvs sp) (hr:Room n X.A) (he:XE X o ta) (ha:XA X (e::es) t) (hs:aJ e=true:=by rfl) (h2:es.all aJ=true:=by rfl)
  (ht:eval (.Call (.Attribute o m apos) (e::es) [] pos) X.env=(do
   let ov ← eval o X.env
   standAt apos.atName
   let (f,first) ← holding [ov] (getMethod ov m pl)
   callWith pos f first (backTo pos (starEach (e::es) X.env)) (backToKw pos (keywordEach [] X.env))):=by rfl):XE X (.Call (.Attribute o m apos) (e::es) [] pos) (Gk C m sp dvs ta t):=⟨Bk he.h c hr ha.h hs (cK h2) ht⟩
end
section
variable {P:Program} {w:World} {K:W.Frag} {mg:Str->Option Value} {base:Heap} {qual m:Str} {st:Stmt} {C:Addr} {N ps:List Str} {k:Nat} {sp:Sp}
structure MethAtD (K:W.Frag) (C:Addr) (m qual:Str) (st:Stmt) (ps:List Str) (dvs:List (List V)):Prop where
 cl:Cls K C
 ex:∃f fd dv,FunD K m qual st dv f fd/\Ab K C m f/\∀d∈dvs,∃ds,Binds K fd ps ds/\Vals d ds
theorem MethAtD.go {dvs:List (List V)} (D:MethAtD K C m qual st ps dvs) (S:aG N ps (aA st)) (len:∀vs H Q E,sp vs H Q E->vs.length=ps.length)
  (hbody:∀(f:Addr) (cdv:Value) (A:Around) (outer:List Env) (s:Shared) (H:Hp) (vs:List V) (Q:VK) (E:XK),Room k (A.deeper (envOfC qual (aA st) s.heap.objs.size f cdv))->sp vs H Q E →
   ∃t,XB (eT pU P w K mg base N qual (aA st) f cdv A outer s H E).nox (aP st) t/\t {nx:=fun _ H'=>Q .non H',rt:=Q } (start N vs) H):∀d∈dvs,Gj P w K mg base (k+1) C m ps d sp:=by
 intro d hd;obtain⟨f,fd,dv,F,hm,hb⟩:=D.ex
 obtain⟨ds,b,v⟩:=hb d hd
 exact⟨f,fd,ds,D.cl,hm,F.go S len (hbody f),b,v⟩
end
end L2
namespace KL
open PySem L2
def cR (i:Nat):Stmt:=PySem.Challenge.pw_oncedoor_k60_begun_busy_other_kept.main.body.getD i (.Pass ⟨0,0,0,0⟩)
abbrev iZ:Stmt:=cR 23
abbrev kL:Stmt:=cR 24
abbrev gT:Stmt:=cR 27
abbrev dD:Stmt:=cR 28
abbrev jA:Stmt:=cR 32
abbrev eJ:Stmt:=cR 33
abbrev jB:Stmt:=cR 36
abbrev cD:Stmt:=cR 37
abbrev mW:Stmt:=cR 39
abbrev cM:Stmt:=cR 41
abbrev eW:Stmt:=cR 42
abbrev bK:Stmt:=aO (cR 51) 0
abbrev fQ:Stmt:=aO (cR 51) 1
abbrev eX:Stmt:=aO (cR 51) 2
abbrev dW:Stmt:=aO (cR 51) 4
abbrev gU:Stmt:=aO (cR 51) 7
abbrev dE:Stmt:=aO (cR 51) 8
abbrev gV:Stmt:=cR 52
abbrev bL:Stmt:=aO (cR 54) 0
abbrev dX:Stmt:=aO (cR 54) 1
abbrev eN:Stmt:=aO (cR 54) 2
abbrev dY:Stmt:=aO (cR 54) 3
abbrev eY:Stmt:=cR 56
abbrev eZ:Stmt:=cR 57
abbrev dF:Stmt:=cR 58
abbrev fA:Stmt:=cR 59
abbrev cG:Stmt:=cR 60
abbrev bD:Stmt:=aO (cR 71) 0
abbrev cP:Stmt:=aO (cR 71) 1
abbrev cQ:Stmt:=aO (cR 71) 2
abbrev dG:Stmt:=aO (cR 71) 4
abbrev dH:Stmt:=aO (cR 71) 6
abbrev jC:Stmt:=cR 73
abbrev bS:Stmt:=aO (cR 78) 0
abbrev dI:Stmt:=aO (cR 78) 1
abbrev bP:Stmt:=aO (cR 78) 4
abbrev bF:Stmt:=aO (cR 79) 0
abbrev fE:Stmt:=aO (cR 79) 1
abbrev dJ:Stmt:=aO (cR 79) 2
abbrev cN:Stmt:=aO (cR 79) 3
abbrev fF:Stmt:=aO (cR 79) 4
abbrev bM:Stmt:=aO (cR 83) 0
abbrev fR:Stmt:=aO (cR 83) 1
abbrev cW:Stmt:=aO (cR 83) 2
abbrev bT:Stmt:=aO (cR 83) 3
abbrev cA:Stmt:=aO (cR 83) 4
abbrev fG:Stmt:=aO (cR 83) 7
abbrev gW:Stmt:=aO (cR 83) 13
abbrev dL:Stmt:=aO (cR 83) 17
abbrev fH:Stmt:=aO (cR 83) 19
abbrev fI:Stmt:=cR 84
abbrev gX:Stmt:=cR 86
abbrev gY:Stmt:=cR 87
abbrev bU:Stmt:=cR 88
abbrev fJ:Stmt:=cR 89
abbrev gZ:Stmt:=cR 90
abbrev fT:Stmt:=cR 91
abbrev fU:Stmt:=cR 92
abbrev dZ:Stmt:=cR 93
abbrev cH:Stmt:=cR 94
abbrev cX:Stmt:=cR 95
abbrev jD:Stmt:=cR 96
abbrev kM:Stmt:=cR 97
theorem cS {N P:List Str} {sc:Scope} (a:sc.kind=.function:=by rfl) (b:sc.isCoroutine=false:=by rfl) (c:sc.isGenerator=false:=by rfl) (d:N.Nodup:=by decide +kernel) (e:N.take P.length=P:=by rfl) (f:∀x∈P,sc.names.lookup x=some .local∨sc.names.lookup x=some .cell:=by decide +kernel) (g:∀y∈sc.names,y.2≠.free:=by decide +kernel):aG N P sc:=⟨a,b,c,d,e,f,g⟩
theorem wX:aG ["thing"] ["thing"] (aA iZ):=cS
theorem Bl:aG ["thing"] ["thing"] (aA kL):=cS
theorem uL:aG ["thing","least","most"] ["thing","least","most"] (aA gT):=cS
theorem pA:aG ["thing","signs","longest"] ["thing","signs","longest"] (aA dD):=cS
theorem wY:aG ["thing"] ["thing"] (aA jA):=cS
theorem sQ:aG ["word","names"] ["word","names"] (aA eJ):=cS
theorem jS:aG ["deed","add","take"] ["deed"] (aA jB):=cS
theorem iC:aG ["deed"] ["deed"] (aA cD):=cS
theorem kN:aG ["book","deed","name","by","amount"] ["book","deed"] (aA mW):=cS
theorem oO:aG ["book","deed"] ["book","deed"] (aA cM):=cS
theorem pB:aG ["deed","answer"] ["deed","answer"] (aA eW):=cS
theorem lH:aG ["self","life"] ["self","life"] (aA bK):=cS
theorem hI:aG ["self","asker","key","turn","pair","entry"] ["self","asker","key","turn"] (aA fQ):=cS
theorem jL:aG ["self","asker","key","number","deed","pair"] ["self","asker","key","number","deed"] (aA eX):=cS
theorem iO:aG ["self","asker","key","turn","answer","entry"] ["self","asker","key","turn","answer"] (aA dW):=cS
theorem uM:aG ["self","pair"] ["self","pair"] (aA gU):=cS
theorem mG:aG ["self","pair","turn"] ["self","pair","turn"] (aA dE):=cS
theorem uN:aG ["since","life","turn"] ["since","life","turn"] (aA gV):=cS
theorem lI:aG ["self","rows"] ["self","rows"] (aA bL):=cS
theorem oP:aG ["self","name"] ["self","name"] (aA dX):=cS
theorem sR:aG ["self"] ["self"] (aA eN):=cS
theorem cE:aG ["self","changes","name","by"] ["self","changes"] (aA dY):=cS
theorem iP:aG ["rows","done","asked","came","still"] ["rows"] (aA eY):=cS
theorem fV:aG ["rows","word","told","row"] ["rows","word"] (aA eZ):=cS
theorem pC:aG ["rows"] ["rows"] (aA dF):=cS
theorem fW:aG ["rows","came","book","row"] ["rows","came"] (aA fA):=cS
theorem jM:aG ["rows","came","kept"] ["rows","came"] (aA cG):=cS
theorem jH:aG ["self","text"] ["self","text"] (aA bD):=cS
theorem lJ:aG ["self","row"] ["self","row"] (aA cP):=cS
theorem lK:aG ["self"] ["self"] (aA cQ):=cS
theorem mH:aG ["self"] ["self"] (aA dG):=cS
theorem mJ:aG ["self"] ["self"] (aA dH):=cS
theorem hJ:aG ["text","rows","place","line"] ["text"] (aA jC):=cS
theorem mK:aG ["self","number","asker","key","deed","stage"] ["self","number","asker","key","deed","stage"] (aA bS):=cS
theorem mL:aG ["self"] ["self"] (aA dI):=cS
theorem iQ:aG ["self","other"] ["self","other"] (aA bP):=cS
theorem aL:aG ["self","life","turn","up","number","since","asker","key","deed","answer"] ["self","life","turn","up"] (aA bF):=cS
theorem pE:aG ["self","number","asker","key","deed","stage"] ["self","number","asker","key","deed","stage"] (aA fE):=cS
theorem iD:aG ["self","asker","key","deed","number"] ["self","asker","key","deed"] (aA dJ):=cS
theorem iR:aG ["self","run","holders"] ["self","run"] (aA cN):=cS
theorem jN:aG ["self","number","turn","answer","run"] ["self","number","turn","answer"] (aA fF):=cS
theorem lM:aG ["self","name","life","houses"] ["self","name","life","houses"] (aA bM):=cS
theorem cI:aG ["self","turn","asker","key","deed","memory","house","there","seen","number"] ["self","turn","asker","key","deed"] (aA fR):=cS
theorem hU:aG ["self","number","way","memory","run"] ["self","number","way"] (aA cW):=cS
theorem eU:aG ["self","run","answer"] ["self","run"] (aA bT):=cS
theorem jT:aG ["self","run","answer"] ["self","run","answer"] (aA cA):=cS
theorem cO:aG ["self","memory","safe","told","row"] ["self"] (aA fG):=cS
theorem uO:aG ["self"] ["self"] (aA gW):=cS
theorem jO:aG ["self","runs"] ["self"] (aA dL):=cS
theorem pF:aG ["self"] ["self"] (aA fH):=cS
theorem pG:aG ["seen","deed"] ["seen","deed"] (aA fI):=cS
theorem uP:aG ["_law_script"] ["_law_script"] (aA gX):=cS
theorem eP:aG ["_law_deck_here","_law_many","_law_cell","_law_number"] ["_law_deck_here","_law_many"] (aA gY):=cS
theorem bX:aG ["_law_deck_here","_law_signs","_law_longest","_law_many","_law_word","_law_size","_law_at","_law_first","_law_ends"] ["_law_deck_here","_law_signs","_law_longest","_law_many"] (aA bU):=cS
theorem pH:aG ["_law_deck_here"] ["_law_deck_here"] (aA fJ):=cS
theorem eQ:aG ["_law_deck_here","_law_names","_law_one","_law_other","_law_amount_here","_law_some"] ["_law_deck_here","_law_names"] (aA gZ):=cS
theorem hV:aG ["_law_door","_law_number","_law_asker","_law_key","_law_steps","_law_told"] ["_law_door","_law_number","_law_asker","_law_key"] (aA fT):=cS
theorem hW:aG ["_law_deck_here","_law_first","_law_deed_here","_law_names","_law_way","_law_part"] ["_law_deck_here","_law_first","_law_deed_here","_law_names"] (aA fU):=cS
theorem fN:aG ["_law_door","_law_turn","_law_spot","_law_deed_here","_law_refused"] ["_law_door","_law_turn","_law_spot","_law_deed_here"] (aA dZ):=cS
theorem kO:aG ["_law_door","_law_turn","_law_spot","_law_deed_here","_law_due_here"] ["_law_door","_law_turn","_law_spot","_law_deed_here","_law_due_here"] (aA cH):=cS
theorem bV:aG ["_law_deck_here","_law_letters","_law_askers","_law_keys","_law_word"] ["_law_deck_here"] (aA cX):=cS
theorem fO:aG ["_law_table","_law_spot","_law_deed_here","_law_turn","_law_life","_law_number","_law_stands","_law_answer","_law_there","_law_when"] ["_law_table","_law_spot","_law_deed_here","_law_turn","_law_life","_law_number"] (aA jD):=cS
theorem bJ:aG ["_law_script","_law_deck_here","_law_letters","_law_names","_law_askers","_law_keys","_law_some","_law_life","_law_door","_law_table","_law_turn","_law_number","_law_k","_law_spot","_law_deed_here","_law_due_here","_law_again_here","_law_answer"] ["_law_script"] (aA kM):=cS
structure Txt (K:W.Frag) (mg:Str->Option Value):Prop where
 b_isinstance:mg "isinstance"=none
 b_int:mg "int"=none
 b_bool:mg "bool"=none
 b_str:mg "str"=none
 b_len:mg "len"=none
 b_all:mg "all"=none
 b_tuple:mg "tuple"=none
 b_dict:mg "dict"=none
 b_sorted:mg "sorted"=none
 b_max:mg "max"=none
 b_list:mg "list"=none
 b_enumerate:mg "enumerate"=none
 b_sum:mg "sum"=none
 b_range:mg "range"=none
 g_LETTERS:∃t,mg "LETTERS"=some (.str ("abcdefghijklmnopqrstuvwxyz") t)
 g_FIGURES:∃t,mg "FIGURES"=some (.str ("0123456789") t)
 g_LONGEST_NAME:∃t,mg "LONGEST_NAME"=some (.int (8) t)
 g_LONGEST_KEY:∃t,mg "LONGEST_KEY"=some (.int (12) t)
 g_MOST:∃t,mg "MOST"=some (.int (1000000000000) t)
 g_LONGEST_DOOR_NAME:∃t,mg "LONGEST_DOOR_NAME"=some (.int (5) t)
structure Wq (Pm:Params) (K:W.Frag) (mg:Str->Option Value):Prop where
 g_NAME_COUNTS:∃a,mg "NAME_COUNTS"=some (.ref a)/\KTab K Pm a (WS)
 g_UNLIKE_WORDS:∃a,mg "UNLIKE_WORDS"=some (.ref a)/\∀H,SqT K H a (UW)
 g_WAYS:∃a,mg "WAYS"=some (.ref a)/\∀H,SqT K H a ([V.str "through",V.str "lost",V.str "unheard"])
section
variable {P:Program} {w:World} {K:W.Frag} {mg:Str->Option Value} {base:Heap}
theorem La (T:Txt K mg) (D:DefAt K mg "is_made_of" dD ["thing","signs","longest"]):aH P w K mg base 1 "is_made_of" ["thing","signs","longest"] wI:=by
 refine D.go pA (fun vs H Q E h=>?_) (fun f cdv A outer s H vs Q E hr h=>?_)
 ·obtain⟨x,sg,n,k,rfl,_⟩:=h;rfl
 ·obtain⟨x,sg,n,k,rfl,hk,hz,q⟩:=h
  refine⟨_,(R.ae (R.aq (R.tw (R.bw (R.bh (R.bg (R.cr .str (R.v 0) rfl T.b_isinstance rfl T.b_str Er))) (R.cc (R.bh (R.ft R.le R.le R.ad (R.ba R.dh rfl T.b_len bY (R.aa (R.v 0) R.ac)) (R.v 2)))))) (R.af (R.aj R.bl)) R.ar) (R.af (R.aj (R.ba (R.fu (K:=K) rfl) rfl T.b_all Eo (R.aa (R.bi rfl (js:=[none,some 1]) (N:=["sign","signs"]) (CompScope.by (aA dD) ["thing","signs","longest"] rfl rfl Zk) (aS rfl) (R.wS (R.v 0)) (fun C s₂ H₂ fp=>⟨(R.gn (i:=0) (show(["sign","signs"]:List Str).Nodup by decide +kernel)),R.bt,(R.cu R.gm (R.v 0) (R.v 1))⟩)) R.ac))))),?_⟩
  have no:Tt .str k=false->dR x sg.cps.toList n=false:=fun e=>by
   cases x <;> first | rfl | (cases k <;> first | exact hk.elim | cases e)
  refine⟨k,hk,?_⟩
  cases x with
  | str z=>
   cases k <;> first | exact hk.elim | skip
   have hz1:=hz z rfl
   refine⟨gA hz1,?_⟩
   refine dQ (fun h1=>?_) (fun h1=>?_)
   ·refine dQ (fun h2=>?_) (fun h2=>?_)
    ·have e:dR (.str z) sg.cps.toList n=false:=by
      rw[fL];have h2':decide ((z.length:Int)<=n)=false:=by simpa using h2
      rw[h2'];simp
     have h:=q H (Same.refl H)
     rw[e]at h;exact h
    ·refine⟨z,rfl,As (Kb z) (by simp [qA,Str.length]at hz1 ⊢;omega) (fun _=>true) (fun v=>match v with | .str y=>.bl (decide (y.cps.toList.headD 0∈sg.cps.toList)) | _=>.non) trivial (fun v ys N hv ht hf=>?_) ?_⟩
     ·obtain⟨c,hc,rfl⟩:=Zmm.mp hv
      exact⟨c,rfl,ht rfl⟩
     ·intro p hp;refine⟨p,z.cps.toList.map (fun c=>decide (c∈sg.cps.toList)),rfl,SqL.of (by rw[aB,List.filter_eq_self.mpr (fun _ _=>rfl)];unfold qA;rw[List.map_map,List.map_map];rfl),?_⟩
      have e:dR (.str z) sg.cps.toList n=List.all (z.cps.toList.map (fun c=>decide (c∈sg.cps.toList))) id:=by
       rw[fL];have h2':decide ((z.length:Int)<=n)=true:=by simpa using h2
       have h1':decide (1<=(z.length:Int))=true:=h1
       rw[h2',h1',List.all_map];simp [Function.comp_def]
      rw[<- e];exact q _ (fun c o e=>by rw[aD (aE e hp)];exact e)
   ·have e:dR (.str z) sg.cps.toList n=false:=by
     rw[fL];have h1':decide (1<=(z.length:Int))=false:=h1
     rw[h1'];simp
    have h:=q H (Same.refl H)
    rw[e]at h;exact h
  | _=>
   cases k <;> first | exact hk.elim | exact q H (Same.refl H)
theorem wZ (T:Txt K mg) (c_is_made_of:aH P w K mg base 1 "is_made_of" ["thing","signs","longest"] wI) (D:DefAt K mg "is_name" iZ ["thing"]):aH P w K mg base 2 "is_name" ["thing"] (lB LET 8):=by
 refine D.go wX (fun vs H Q E h=>?_) (fun f cdv A outer s H vs Q E hr h=>?_)
 ·obtain⟨x,k,rfl,_⟩:=h;rfl
 ·obtain⟨x,k,rfl,hk,hz,q⟩:=h
  have hr_is_made_of:=hr
  refine⟨_,(R.af (R.aj (R.fn c_is_made_of hr_is_made_of rfl (R.aa (R.v 0) (R.aa (R.gS rfl T.g_LETTERS) (R.aa (R.gI rfl T.g_LONGEST_NAME) R.ac)))))),?_⟩
  refine⟨x,_,8,k,rfl,hk,hz,fun H' s'=>?_⟩
  rw[rO];exact q H' s'
theorem Bm (T:Txt K mg) (c_is_made_of:aH P w K mg base 1 "is_made_of" ["thing","signs","longest"] wI) (D:DefAt K mg "is_key" kL ["thing"]):aH P w K mg base 2 "is_key" ["thing"] (lB (LET++Rv) 12):=by
 refine D.go Bl (fun vs H Q E h=>?_) (fun f cdv A outer s H vs Q E hr h=>?_)
 ·obtain⟨x,k,rfl,_⟩:=h;rfl
 ·obtain⟨x,k,rfl,hk,hz,q⟩:=h
  have hr_is_made_of:=hr
  refine⟨_,(R.af (R.aj (R.fn c_is_made_of hr_is_made_of rfl (R.aa (R.v 0) (R.aa (R.op R.di (R.gS rfl T.g_LETTERS) (R.gS rfl T.g_FIGURES)) (R.aa (R.gI rfl T.g_LONGEST_KEY) R.ac)))))),?_⟩
  refine⟨Zk,x,_,12,k,rfl,hk,hz,fun H' s'=>?_⟩
  rw[rL,rO,Ew];exact q H' s'
theorem Gm (T:Txt K mg) (D:DefAt K mg "is_whole" gT ["thing","least","most"]):aH P w K mg base 1 "is_whole" ["thing","least","most"] yI:=by
 refine D.go uL (fun vs H Q E h=>?_) (fun f cdv A outer s H vs Q E hr h=>?_)
 ·obtain⟨x,lo,hi,rfl,_⟩:=h;rfl
 ·obtain⟨x,lo,hi,rfl,⟨k,hk,hz⟩,q⟩:=h
  refine⟨_,(R.ae (R.aq (R.tw (R.bw (R.bh (R.bg (R.cr .int (R.v 0) rfl T.b_isinstance rfl T.b_int Es))) (R.cc (R.bg (R.cr .bl (R.v 0) rfl T.b_isinstance rfl T.b_bool Ka))))) (R.af (R.aj R.bl)) R.ar) (R.af (R.aj (R.gq R.le R.le (R.v 1) (R.v 0) (R.v 2))))),?_⟩
  have h:=q H (Same.refl H)
  refine⟨k,hk,?_⟩
  cases x with
  | int n=>
   cases k <;> first | exact hk.elim | skip
   refine⟨.int,trivial,?_⟩
   show if decide (lo<=n)=true then _ else _
   have e:tZ lo hi (.int n)=(decide (lo<=n)&&decide (n<=hi)):=rfl
   refine dQ (fun h1=>?_) (fun h1=>?_)
   ·rw[e,h1,Bool.true_and]at h;exact h
   ·rw[e,h1,Bool.false_and]at h;exact h
  | bl b=>
   cases k <;> first | exact hk.elim | skip
   exact⟨.bl,trivial,h⟩
  | _=>cases k <;> first | exact hk.elim | exact h
theorem Lb (T:Txt K mg) (U:Wq w.params K mg) (c_is_name:aH P w K mg base 2 "is_name" ["thing"] (lB LET 8)) (D:DefAt K mg "fits_word" eJ ["word","names"]):aH P w K mg base 3 "fits_word" ["word","names"] Fb:=by
 refine D.go sQ (fun vs H Q E h=>?_) (fun f cdv A outer s H vs Q E hr h=>?_)
 ·obtain⟨x,a,ns,rfl,_⟩:=h;rfl
 ·obtain⟨x,a,ns,rfl,⟨k,hk,hz⟩,ha,hns,hp,q⟩:=h
  have hr_is_name:=hr
  obtain⟨aN,m_NAME_COUNTS,tN⟩:=U.g_NAME_COUNTS
  obtain⟨aU,m_UNLIKE_WORDS,tU⟩:=U.g_UNLIKE_WORDS
  refine⟨_,(R.ae (R.aq (R.tw (R.bw (R.bh (R.bg (R.cr .str (R.v 0) rfl T.b_isinstance rfl T.b_str Er))) (R.cc (R.al (R.gv (K:=K) (P:=w.params)) (R.v 0) (R.gR rfl m_NAME_COUNTS))))) (R.af (R.aj R.bl)) R.ar) (R.ae (R.aq (R.tw (R.bw (R.al R.ne (R.ba (R.bo (K:=K)) rfl T.b_len bY (R.aa (R.v 1) R.ac)) (R.ix (R.gx (K:=K) (P:=w.params)) (R.gR rfl m_NAME_COUNTS) (R.v 0))) (R.cc (R.bh (R.bg (R.ba (R.fu (K:=K) rfl) rfl T.b_all Eo (R.aa (R.bi rfl (js:=[none]) (N:=["name"]) (CompScope.by (aA eJ) ["word","names"] rfl rfl Zk) (aS rfl) (R.cv (K:=K) (R.v 1)) (fun C s₂ H₂ fp=>⟨(R.gn (i:=0) (show(["name"]:List Str).Nodup by decide +kernel)),R.bt,(R.fn c_is_name hr_is_name rfl (R.aa (R.v 0) R.ac))⟩)) R.ac))))))) (R.af (R.aj R.bl)) R.ar) (R.af (R.aj (R.or (R.cu (R.fw (K:=K)) (R.v 0) (R.gR rfl m_UNLIKE_WORDS)) (R.gf (R.cu R.ne (R.ix (R.ah (K:=K)) (R.v 1) R.ad) (R.ix (R.ah (K:=K)) (R.v 1) R.ad)))))))),?_⟩
  have h:=q H (Same.refl H)
  refine⟨k,hk,?_⟩
  cases x with
  | str z=>
   cases k <;> first | exact hk.elim | skip
   refine⟨WS,tN,?_⟩
   show if (!(WS.lookup z).isSome)=true then _ else _
   cases e:WS.lookup z with
   | none=>
    have e2:eG (.str z) ns=false:=by unfold eG;simp only [e]
    rw[e2]at h;exact h
   | some i=>
    have e2:eG (.str z) ns=(decide ((ns.length:Int)=i)&&ns.all qB&&(!Mb (.str z) UW||!decide (kA ns 0=kA ns 1))):=by unfold eG;simp only [e]
    refine⟨ns,.inr (SqT.of ha),WS,i,tN,e,?_⟩
    refine dQ (fun h1=>?_) (fun h1=>?_)
    ·have h1':decide ((ns.length:Int)=i)=false:=by simpa using h1
     rw[e2,h1']at h;exact h
    ·have h1':decide ((ns.length:Int)=i)=true:=by simpa using h1
     refine⟨a,rfl,⟨_,SqT.of ha⟩,?_⟩
     refine bR (iX K a ns) Zo (fun j ys H'=>ys=(ns.take j).map (fun y=>V.bl (qB y))/\Same H H') (fun j ys H' ⟨e3,s3⟩=>⟨SqT.of (s3 _ _ ha),by rw[e3,dN,qR];omega⟩) ⟨rfl,Same.refl H⟩ (fun j y ys H' hy ⟨e3,s3⟩=>?_) (fun ys H' ⟨e3,s3⟩=>?_)
     ·obtain⟨ky,hky,hzy⟩:=(hp y (jW hy)).same s3
      refine⟨y,ky,rfl,hky,hzy,fun H'' s''=>⟨?_,s3.trans s''⟩⟩
      rw[List.take_add_one,hy,jV,e3];rfl
     ·intro p hpn;rw[Ib (cB _)]at e3;have hs:Same H (aI H' p (.lst ys)):=s3.trans (aF hpn)
      refine⟨p,ns.map qB,rfl,SqL.of (by rw[aB,e3,List.map_map];rfl),?_⟩
      have e4:List.all (ns.map qB) id=ns.all qB:=by rw[List.all_map];rfl
      have h5:=q _ hs
      dsimp only;rw[e4];cases e5:ns.all qB with
      | false=>
       rw[e2,h1',e5]at h5;exact h5
      | true=>
       rw[e2,h1',e5]at h5;refine⟨aU,UW,rfl,.inr (tU _),rfl,rfl,?_⟩
       show if (!Mb (.str z) UW)=true then _ else _
       cases e6:Mb (.str z) UW with
       | false=>
        rw[e6]at h5;exact h5
       | true=>
        rw[e6]at h5;have i2:=Ud e e6
        have hl:(ns.length:Int)=i:=of_decide_eq_true h1'
        obtain⟨y0,hy0,m0⟩:=gC (xs:=ns) (i:=0) Zd Zo
        obtain⟨y1,hy1,m1⟩:=gC (xs:=ns) (i:=1) Zd Zo
        have n0:=List.all_eq_true.mp e5 y0 m0
        have n1:=List.all_eq_true.mp e5 y1 m1
        refine⟨ns,SqT.of (hs _ _ ha),y0,hy0,ns,SqT.of (hs _ _ ha),y1,hy1,?_⟩
        rw[hy0,hy1]at h5;cases y0 <;> first | (unfold qB dR at n0;exact absurd n0 Bool.false_ne_true) | skip
        cases y1 <;> first | (unfold qB dR at n1;exact absurd n1 Bool.false_ne_true) | skip
        rename_i z0 z1
        have e7:decide (some (V.str z0)=some (V.str z1))=decide (z0=z1):=by
         rw[decide_eq_decide];constructor
         ·intro e8;injection e8 with e8;injection e8
         ·intro e8;rw[e8]
        rw[e7]at h5;exact h5
  | _=>cases k <;> first | exact hk.elim | exact h
theorem xA (T:Txt K mg) (c_fits_word:aH P w K mg base 3 "fits_word" ["word","names"] Fb) (c_is_whole:aH P w K mg base 1 "is_whole" ["thing","least","most"] yI) (D:DefAt K mg "is_deed" jA ["thing"]):aH P w K mg base 4 "is_deed" ["thing"] uA:=by
 refine D.go wY (fun vs H Q E h=>?_) (fun f cdv A outer s H vs Q E hr h=>?_)
 ·obtain⟨x,rfl,_⟩:=h;rfl
 ·obtain⟨x,rfl,⟨⟨k,hk,hz⟩,hp⟩,hlen,q⟩:=h
  have hr_fits_word:=hr
  have hr_is_whole:Room 1 _:=hr.mono Zd
  refine⟨_,(R.ae (R.aq (R.tw (R.bw (R.bh (R.bg (R.cr .tup (R.v 0) rfl T.b_isinstance rfl T.b_tuple tQ))) (R.cc (R.al R.lt (R.ba (R.bo (K:=K)) rfl T.b_len bY (R.aa (R.v 0) R.ac)) R.ad)))) (R.af (R.aj R.bl)) R.ar) (R.af (R.aj (R.ia (R.fn c_fits_word hr_fits_word rfl (R.aa (R.ix (R.ah (K:=K)) (R.v 0) R.ad) (R.aa (R.sl R.sT (R.v 0) (R.ps R.ad) (R.ps (R.az R.ad))) R.ac))) (R.gf (R.fn c_is_whole hr_is_whole rfl (R.aa (R.ix (R.ah (K:=K)) (R.v 0) (R.az R.ad)) (R.aa R.ad (R.aa (R.gI rfl T.g_MOST) R.ac))))))))),?_⟩
  have h:=q H (Same.refl H)
  refine⟨k,hk,?_⟩
  cases x with
  | ref a=>
   cases k <;> first | exact hk.elim | skip
   case tup=>
    obtain⟨xs,hx⟩:=hk
    have hpx:=hp a xs rfl hx
    have hlx:=hlen a xs rfl hx
    have eV:oF H (.ref a)=jJ xs:=by unfold oF;simp only [hx]
    refine⟨xs,.inr (SqT.of hx),?_⟩
    refine dQ (fun h1=>?_) (fun h1=>?_)
    ·have h1':((xs.length:Int)<3):=of_decide_eq_true h1
     have e1:jJ xs=false:=by
      unfold jJ;rw[decide_eq_false Zo];rfl
     rw[eV,e1]at h;exact h
    ·have h1':¬ ((xs.length:Int)<3):=of_decide_eq_false h1
     have h3:3<=xs.length:=by omega
     obtain⟨y0,hy0,m0⟩:=gC (xs:=xs) (i:=0) Zd Zo
     refine⟨xs,SqT.of hx,y0,hy0,xs,hx,fun p H1 s1 g1=>?_⟩
     refine⟨y0,p,_,rfl,(hpx y0 m0).same s1,g1,?_,fun y hy=>(hpx y (Kg h3 hy)).same s1,fun H2 s2=>?_⟩
     ·have:=Kf h3
      unfold rP at this;omega
     have e2:jJ xs=(eG y0 (rP xs)&&tZ 1 1000000000000 ((kA xs (-1)).getD .non)):=by
      unfold jJ;rw[decide_eq_true h3,hy0];rfl
     have hs:=s1.trans s2
     have h5:=q H2 hs
     show if eG y0 (rP xs)=true then _ else _
     cases e3:eG y0 (rP xs) with
     | false=>
      rw[eV,e2,e3]at h5;exact h5
     | true=>
      rw[eV,e2,e3]at h5;obtain⟨yl,hyl,ml⟩:∃v,kA xs (-1)=some v/\v∈xs:=by
       have hj:xs.length - 1<xs.length:=by omega
       refine⟨xs[xs.length - 1],?_,List.getElem_mem hj⟩
       unfold kA Jf;rw[if_neg Zd,if_pos Zo]
       have:((-1:Int)+(xs.length:Int)).toNat=xs.length - 1:=by omega
       simp [this,hj]
      refine⟨xs,SqT.of (hs _ _ hx),yl,hyl,?_⟩
      refine⟨yl,1,1000000000000,rfl,(hpx yl ml).same hs,fun H3 s3=>?_⟩
      have h6:=q H3 (hs.trans s3)
      rw[eV,e2,e3,hyl]at h6;exact h6
   all_goals
    have e1:oF H (.ref a)=false:=by
     unfold oF;first
      | (rcases hk with⟨xs,e⟩ | ⟨o,xs,e⟩ <;> simp only [e])
      | (obtain⟨kvs,e⟩:=hk;simp only [e])
    rw[e1]at h;exact h
  | _=>cases k <;> first | exact hk.elim | exact h
theorem Lc (T:Txt K mg) (D:DefAt K mg "asks_of" jB ["deed"]):aH P w K mg base 1 "asks_of" ["deed"] wP:=by
 refine D.go jS (fun vs H Q E h=>?_) (fun f cdv A outer s H vs Q E hr h=>?_)
 ·obtain⟨p,wd,xs,cs,as,rfl,_⟩:=h;rfl
 ·obtain⟨p,wd,xs,cs,as,rfl,hp,⟨one,other,nm,n,hd⟩,q⟩:=h
  refine⟨_,(R.ae (R.au (i:=1) jS.nd (R.ap (R.aa R.ak (R.aa (R.ix (R.ah (K:=K)) (R.v 0) (R.az R.ad)) (R.aa (R.ix (R.ah (K:=K)) (R.v 0) (R.az R.ad)) R.ac))))) (R.ae (R.au (i:=2) jS.nd (R.ap (R.aa R.ak (R.aa (R.ix (R.ah (K:=K)) (R.v 0) (R.az R.ad)) (R.aa (R.ix (R.ah (K:=K)) (R.v 0) (R.az R.ad)) R.ac))))) (R.ae (R.aq (R.al R.eq (R.ix (R.ah (K:=K)) (R.v 0) R.ad) R.ak) (R.af (R.aj (R.ap (R.aa (R.ap (R.aa (R.ix (R.ah (K:=K)) (R.v 0) R.ad) (R.aa (R.v 1) R.ac))) R.ac)))) R.ar) (R.ae (R.aq (R.al R.eq (R.ix (R.ah (K:=K)) (R.v 0) R.ad) R.ak) (R.af (R.aj (R.ap (R.aa (R.ap (R.aa (R.ix (R.ah (K:=K)) (R.v 0) R.ad) (R.aa (R.v 2) R.ac))) R.ac)))) R.ar) (R.ae (R.aq (R.al R.eq (R.ix (R.ah (K:=K)) (R.v 0) R.ad) R.ak) (R.af (R.aj (R.ap (R.aa (R.ap (R.aa (R.ix (R.ah (K:=K)) (R.v 0) R.ad) (R.aa (R.v 2) R.ac))) (R.aa (R.ap (R.aa (R.ix (R.ah (K:=K)) (R.v 0) R.ad) (R.aa (R.v 1) R.ac))) R.ac))))) R.ar) (R.af (R.aj (R.ap R.ac)))))))),?_⟩
  cases hd
  all_goals
   refine⟨_,SqT.of hp,_,rfl,_,SqT.of hp,_,rfl,Zs,fun p1 H1 s1 g1=>⟨_,SqT.of (s1 _ _ hp),_,rfl,_,SqT.of (s1 _ _ hp),_,rfl,Zs,fun p2 H2 s2 g2=>?_⟩⟩
   have hp2:=(s1.trans s2) _ _ hp
   refine⟨_,SqT.of hp2,_,rfl,?_⟩
  case send=>exact⟨_,SqT.of hp2,_,rfl,Zs,fun p3 H3 s3 g3=>⟨Zs,fun p4 H4 s4 g4=>q p4 _ H4 (((s1.trans s2).trans s3).trans s4) g4 (.cons ⟨p3,p1,rfl,s4 _ _ g3,s4 _ _ (s3 _ _ (s2 _ _ g1))⟩ .nil)⟩⟩
  all_goals refine⟨_,SqT.of hp2,_,rfl,?_⟩
  case fetch=>exact⟨_,SqT.of hp2,_,rfl,Zs,fun p3 H3 s3 g3=>⟨Zs,fun p4 H4 s4 g4=>q p4 _ H4 (((s1.trans s2).trans s3).trans s4) g4 (.cons ⟨p3,p2,rfl,s4 _ _ g3,s4 _ _ (s3 _ _ g2)⟩ .nil)⟩⟩
  all_goals refine⟨_,SqT.of hp2,_,rfl,?_⟩
  case pass=>
   refine⟨_,SqT.of hp2,_,rfl,Zs,fun p3 H3 s3 g3=>⟨_,SqT.of (s3 _ _ hp2),_,rfl,Zs,fun p4 H4 s4 g4=>⟨Zs,fun p5 H5 s5 g5=>?_⟩⟩⟩
   exact q p5 _ H5 ((((s1.trans s2).trans s3).trans s4).trans s5) g5 (.cons ⟨p3,p2,rfl,s5 _ _ (s4 _ _ g3),s5 _ _ (s4 _ _ (s3 _ _ g2))⟩ (.cons ⟨p4,p1,rfl,s5 _ _ g4,s5 _ _ (s4 _ _ (s3 _ _ (s2 _ _ g1)))⟩ .nil))
  all_goals exact⟨Zd,fun p3 H3 s3 g3=>q p3 [] H3 ((s1.trans s2).trans s3) g3 .nil⟩
theorem Gn {C:Addr} (B:Qw K C) (D:ClsAt K mg "Keys" C "Keys.__init__" bK ["self","life"] [[]]):∀d∈([[]]:List (List V)),vJ P w K mg base 1 "Keys" C ["self","life"] d (yS C):=by
 refine D.go lH (fun vs H Q E h=>?_) (fun f cdv A outer s H vs Q E hr h=>?_)
 ·obtain⟨p,dx,life,rfl,_⟩:=h;rfl
 ·obtain⟨p,dx,life,rfl,hp,q⟩:=h
  refine⟨_,(R.ae (R.ax (K:=K) (R.v 0) (R.v 1)) (R.ae (R.ax (K:=K) (R.v 0) R.dm) (R.af (R.ax (K:=K) (R.v 0) R.dm)))),?_⟩
  refine⟨C,dx,[],hp,B.cl,B.nL,(by show 0<1000;decide),?_⟩
  have e0:bI "life" (.int life) []=[(("life":Str),V.int life)]:=rfl
  dsimp only;rw[e0];intro d1 hd1;have g0:(aI H p (.ins C dx [("life",.int life)])) p=some (.ins C dx [("life",.int life)]):=aB
  have k0:∀b o,H b=some o->b≠p->(aI H p (.ins C dx [("life",.int life)])) b=some o:=fun b o e hb=>by rw[aD hb];exact e
  have f1:H d1=none:=by
   cases e:H d1 with
   | none=>rfl
   | some o=>
    by_cases z:d1=p
    ·rw[z,g0]at hd1;cases hd1
    ·rw[k0 _ _ e z]at hd1;cases hd1
  generalize aI H p (.ins C dx [("life",.int life)])=H0 at g0 k0 hd1 ⊢;have np1:=aE g0 hd1
  refine⟨C,dx,_,(by rw[aD np1];exact g0),B.cl,B.nB,(by show 1<1000;decide),?_⟩
  have e1:bI "begun_ones" (.ref d1) [(("life":Str),V.int life)]=[(("life":Str),V.int life),("begun_ones",.ref d1)]:=by
   unfold bI;rw[if_neg Zk];rfl
  dsimp only;rw[e1];have g1:(aI (aI H0 d1 (.dT [])) p (.ins C dx [("life",.int life),("begun_ones",.ref d1)])) p=some (.ins C dx [("life",.int life),("begun_ones",.ref d1)]):=aB
  have a1:(aI (aI H0 d1 (.dT [])) p (.ins C dx [("life",.int life),("begun_ones",.ref d1)])) d1=some (.dT []):=by rw[aD np1.symm];exact aB
  have k1:∀b o,H0 b=some o->b≠p->(aI (aI H0 d1 (.dT [])) p (.ins C dx [("life",.int life),("begun_ones",.ref d1)])) b=some o:=fun b o e hb=>by rw[aD hb,aD (aE e hd1)];exact e
  generalize aI (aI H0 d1 (.dT [])) p (.ins C dx [("life",.int life),("begun_ones",.ref d1)])=H1 at g1 a1 k1 ⊢;intro d2 hd2;have np2:=aE g1 hd2
  refine⟨C,dx,_,(by rw[aD np2];exact g1),B.cl,B.nS,(by show 2<1000;decide),?_⟩
  have e2:bI "settled_ones" (.ref d2) [(("life":Str),V.int life),("begun_ones",.ref d1)]=[(("life":Str),V.int life),("begun_ones",.ref d1),("settled_ones",.ref d2)]:=by
   unfold bI;rw[if_neg Zk];unfold bI;rw[if_neg Zk];rfl
  dsimp only;rw[e2];have n12:d1≠d2:=aE a1 hd2
  have f2:H d2=none:=by
   cases e:H d2 with
   | none=>rfl
   | some o=>rw[k1 _ _ (k0 _ _ e np2.symm) np2.symm]at hd2;cases hd2
  refine q _ ⟨dx,d1,d2⟩ f1 f2 ⟨aB,⟨[],?_,Dic.nil⟩,⟨[],?_,Dic.nil⟩,n12⟩ (fun b o e hb=>?_)
  ·show(aI _ p _) d1=_
   rw[aD np1.symm,aD n12];exact a1
  ·show(aI _ p _) d2=_
   rw[aD np2.symm];exact aB
  ·rw[aD hb,aD (aE (k1 _ _ (k0 _ _ e hb) hb) hd2)];exact k1 _ _ (k0 _ _ e hb) hb
theorem Go (D:DefAt K mg "is_alive" gV ["since","life","turn"]):aH P w K mg base 1 "is_alive" ["since","life","turn"] yT:=by
 refine D.go uN (fun vs H Q E h=>?_) (fun f cdv A outer s H vs Q E hr h=>?_)
 ·obtain⟨t,l,n,rfl,_⟩:=h;rfl
 ·obtain⟨t,l,n,rfl,q⟩:=h
  refine⟨_,(R.af (R.aj (R.cu R.gt (R.op R.aw (R.v 0) (R.v 1)) (R.v 2)))),?_⟩
  exact q
def qK (C:Addr):Sp:=fun vs H Q _=>∃(p:Addr) (a:KF) (life:Int) (m:KM) (L:Nat) (sk:List (List bE × V)) (t:Addr) (q:Str × Str) (now n w:Int) (d z:Addr),vs=[.ref p,.ref t,.int now]/\H p=some (.ins C a.dx (yR a life))/\Rd H a.ds (.dT sk)/\Dic H sk m fS L/\H t=some (.tup [.str q.1,.str q.2])/\m q=some (.kept n w d z)/\Q (.bl (decide (w+life > now))) H
theorem DGet.rd {H:Hp} {a b:Addr} {kvs:List (List bE × V)} {k:List bE} (e:Rd H a (.dT kvs)) (eb:H b=some (.tup (k.map kV))):DGet H a (.ref b) (aY kvs k):=.inr ⟨kvs,k,b,e,rfl,eb,rfl⟩
theorem Bn {C:Addr} (B:Qw K C) (c_is_alive:aH P w K mg base 1 "is_alive" ["since","life","turn"] yT) (D:MethAt K C "is_kept" "Keys.is_kept" dE ["self","pair","turn"]):cZ P w K mg base 2 C "is_kept" ["self","pair","turn"] (qK C):=by
 refine D.go mG (fun vs H Q E h=>?_) (fun f cdv A outer s H vs Q E hr h=>?_)
 ·obtain⟨p,a,life,m,L,sk,t,q,now,n,w',d,z,rfl,_⟩:=h;rfl
 ·obtain⟨p,a,life,m,L,sk,t,q,now,n,w',d,z,rfl,hp,gs,ds,gt,hm,Q0⟩:=h
  obtain⟨u,hv,gu⟩:=ds.at hm (rfl:fS (.kept n w' d z)=some _)
  have hu1:=dP hr
  have hr_is_alive:=hr
  have dg:=DGet.rd gs (dC gt)
  rw[hv]at dg;refine⟨_,(R.af (R.aj (R.fn c_is_alive hr_is_alive rfl (R.aa (R.ix (R.ah (K:=K)) (R.bp hu1 (R.av (K:=K) (R.v 0)) (R.v 1)) R.ad) (R.aa (R.av (K:=K) (R.v 0)) (R.aa (R.v 2) R.ac)))))),?_⟩
  exact⟨C,a.dx,_,.ref a.ds,hp,B.cl,B.nS,Bh a life,a.ds,.ref u,rfl,dg,_,SqT.of gu,_,rfl,C,a.dx,_,.int life,hp,B.cl,B.nL,Wp a life,w',life,now,rfl,Q0⟩
theorem Ld {C:Addr} (B:Qw K C) (c_Keys_is_kept:cZ P w K mg base 2 C "is_kept" ["self","pair","turn"] (qK C)) (D:MethAt K C "look" "Keys.look" fQ ["self","asker","key","turn"]):cZ P w K mg base 3 C "look" ["self","asker","key","turn"] (Ge C):=by
 refine D.go hI (fun vs H Q E h=>?_) (fun f cdv A outer s H vs Q E hr h=>?_)
 ·obtain⟨p,a,life,m,L,q,now,rfl,_⟩:=h;rfl
 ·obtain⟨p,a,life,m,L,q,now,rfl,ht,Q0⟩:=h
  have hu1:=dP hr
  have hr_Keys_is_kept:=hr
  refine⟨_,(R.ae (R.au (i:=4) hI.nd (R.ap (R.aa (R.v 1) (R.aa (R.v 2) R.ac)))) (R.ae (R.aq (R.al (R.de hu1) (R.v 4) (R.av (K:=K) (R.v 0))) (R.af (R.aj (R.op R.cf (R.ap (R.aa R.ak R.ac)) (R.bp hu1 (R.av (K:=K) (R.v 0)) (R.v 4))))) R.ar) (R.ae (R.aq (R.tw (R.cg (R.al (R.de hu1) (R.v 4) (R.av (K:=K) (R.v 0))) (R.ci (R.bg (R.be c_Keys_is_kept hr_Keys_is_kept (R.v 0) (R.aa (R.v 4) (R.aa (R.v 3) R.ac))))))) (R.ae (R.au (i:=5) hI.nd (R.bp hu1 (R.av (K:=K) (R.v 0)) (R.v 4))) (R.af (R.aj (R.ap (R.aa R.ak (R.aa (R.ix (R.ah (K:=K)) (R.v 5) R.ad) (R.aa (R.ix (R.ah (K:=K)) (R.v 5) R.ad) (R.aa (R.ix (R.ah (K:=K)) (R.v 5) R.ad) R.ac)))))))) R.ar) (R.af (R.aj (R.ap (R.aa R.ak R.ac))))))),?_⟩
  refine⟨Zs,fun t G s1 gt=>?_⟩
  dsimp only [aK];have ht1:=ht.same s1
  obtain⟨bk,gb,db⟩:=ht1.hb
  obtain⟨sk,gs,ds⟩:=ht1.hs
  have dgb:=DGet.t gb (dC gt)
  have dgs:=DGet.t gs (dC gt)
  cases hm:m q with
  | none=>
   rw[db.no (fun e z=>by rw[hm]at z;cases z)]at dgb
   rw[ds.no (fun e z=>by rw[hm]at z;cases z)]at dgs
   rw[hm]at Q0;refine⟨C,a.dx,_,.ref a.db,ht1.hp,B.cl,B.nB,sN a life,none,dgb,?_⟩
   refine⟨C,a.dx,_,.ref a.ds,ht1.hp,B.cl,B.nS,Bh a life,none,dgs,?_⟩
   exact⟨Zs,fun t2 G2 s2 g2=>Q0 t2 G2 (s1.trans s2) g2⟩
  | some e=>
   rw[hm]at Q0;cases e with
   | busy n d=>
    obtain⟨u,hv,gu⟩:=db.at hm (rfl:fB (.busy n d)=some _)
    rw[hv]at dgb;refine⟨C,a.dx,_,.ref a.db,ht1.hp,B.cl,B.nB,sN a life,_,dgb,?_⟩
    refine⟨Zs,fun t2 G2 s2 g2=>⟨C,a.dx,_,.ref a.db,s2 _ _ ht1.hp,B.cl,B.nB,sN a life,a.db,.ref u,rfl,?_,_,_,g2,s2 _ _ gu,Zs,fun t3 G3 s3 g3=>Q0 t3 G3 ((s1.trans s2).trans s3) g3⟩⟩
    have:=DGet.t (s2 _ _ gb) (dC (s2 _ _ gt))
    rw[hv]at this;exact this
   | kept n w' d z=>
    obtain⟨u,hv,gu⟩:=ds.at hm (rfl:fS (.kept n w' d z)=some _)
    rw[hv]at dgs;rw[db.no (fun e h=>by rw[hm]at h;cases h;rfl)]at dgb
    refine⟨C,a.dx,_,.ref a.db,ht1.hp,B.cl,B.nB,sN a life,none,dgb,?_⟩
    refine⟨C,a.dx,_,.ref a.ds,ht1.hp,B.cl,B.nS,Bh a life,_,dgs,?_⟩
    refine⟨a.dx,_,ht1.hp,uJ a life Zk Zk Zk,p,a,life,m,L,sk,t,q,now,n,w',d,z,rfl,ht1.hp,.inl gs,ds,gt,hm,?_⟩
    show if decide (w'+life > now)=true then _ else _
    refine dQ (fun hb=>?_) (fun hb=>?_)
    ·have hb':=of_decide_eq_true hb
     refine⟨C,a.dx,_,.ref a.ds,ht1.hp,B.cl,B.nS,Bh a life,a.ds,.ref u,rfl,dgs,?_⟩
     dsimp only [aK];refine⟨_,SqT.of gu,_,rfl,_,SqT.of gu,_,rfl,_,SqT.of gu,_,rfl,Zs,fun t2 G2 s2 g2=>Q0 t2 G2 (s1.trans s2) ?_⟩
     show G2 t2=some (.tup (if w'+life > now then _ else _))
     rw[if_pos hb'];exact g2
    ·have hb':=of_decide_eq_false hb
     refine⟨Zs,fun t2 G2 s2 g2=>Q0 t2 G2 (s1.trans s2) ?_⟩
     show G2 t2=some (.tup (if w'+life > now then _ else _))
     rw[if_neg hb'];exact g2
theorem Qy {C:Addr} (B:Qw K C) (D:MethAt K C "end" "Keys.end" gU ["self","pair"]):cZ P w K mg base 1 C "end" ["self","pair"] (Mt C):=by
 refine D.go uM (fun vs H Q E h=>?_) (fun f cdv A outer s H vs Q E hr h=>?_)
 ·obtain⟨p,a,life,m,L,t,q,n,d,rfl,_⟩:=h;rfl
 ·obtain⟨p,a,life,m,L,t,q,n,d,rfl,ht,gt,hm,Q0⟩:=h
  have hu1:=dP hr
  obtain⟨bk,gb,db⟩:=ht.hb
  obtain⟨sk,gs,ds⟩:=ht.hs
  obtain⟨u,hv,gu⟩:=db.at hm (rfl:fB (.busy n d)=some _)
  have dgb:=DGet.t gb (dC gt)
  rw[hv]at dgb;refine⟨_,(R.ae (R.aq (R.al (R.ed hu1) (R.v 1) (R.av (K:=K) (R.v 0))) (R.af R.bc) R.ar) (R.af (R.aj (R.fi hu1 (R.av (K:=K) (R.v 0)) (R.v 1))))),?_⟩
  refine⟨C,a.dx,_,.ref a.db,ht.hp,B.cl,B.nB,sN a life,_,dgb,?_⟩
  refine⟨C,a.dx,_,.ref a.db,ht.hp,B.cl,B.nB,sN a life,a.db,rfl,.inr ⟨bk,.inl gb⟩,bk,pk q,t,.ref u,gb,rfl,dC gt,hv,?_⟩
  have kt:∀b xs,H b=some (.tup xs)->(aI H a.db (.dT (bQ bk (pk q)))) b=some (.tup xs):=fun b xs e=>by rw[aD (aM e gb (fun z=>nomatch z))];exact e
  have h2:∀r,r≠q->(m.set q none) r=m r:=fun r hr=>KM.set_ne hr
  have h1:∀e,(m.set q none) q=some e->False:=fun e he=>by rw[KM.set_same]at he;cases he
  refine Q0 u _ (ht.new (by rw[aD (aM ht.hp gb (fun z=>nomatch z))]) aB (by rw[aD ht.ne.symm];exact gs) kt ((db.drop (fun e he=>(h1 e he).elim) h2).keep kt) ((ds.skip (fun e he=>?_) (fun e he=>(h1 e he).elim) h2).keep kt)) (fun c o e n1 n2=>by rw[aD n1];exact e) (kt _ _ gu)
  rw[hm]at he;cases he
  rfl
theorem Bo {C:Addr} (B:Qw K C) (c_Keys_end:cZ P w K mg base 1 C "end" ["self","pair"] (Mt C)) (D:MethAt K C "settle" "Keys.settle" dW ["self","asker","key","turn","answer"]):cZ P w K mg base 2 C "settle" ["self","asker","key","turn","answer"] (uK C):=by
 refine D.go iO (fun vs H Q E h=>?_) (fun f cdv A outer s H vs Q E hr h=>?_)
 ·obtain⟨p,a,life,m,L,q,n,d,w',z,rfl,_⟩:=h;rfl
 ·obtain⟨p,a,life,m,L,q,n,d,w',z,rfl,ht,hL,hm,Q0⟩:=h
  have hu1:=dP hr
  have hr_Keys_end:=hr
  refine⟨_,(R.ae (R.au (i:=5) iO.nd (R.be c_Keys_end hr_Keys_end (R.v 0) (R.aa (R.ap (R.aa (R.v 1) (R.aa (R.v 2) R.ac))) R.ac))) (R.af (R.bz (R.ap (R.aa (R.ix (R.ah (K:=K)) (R.v 5) R.ad) (R.aa (R.v 3) (R.aa (R.ix (R.ah (K:=K)) (R.v 5) R.ad) (R.aa (R.v 4) R.ac))))) (R.cj (R.av (K:=K) (R.v 0)) (R.ap (R.aa (R.v 1) (R.aa (R.v 2) R.ac))) (R.ce hu1))))),?_⟩
  refine⟨a.dx,_,ht.hp,uJ a life Zk Zk Zk,Zs,fun t G s1 gt=>⟨p,a,life,m,L,t,q,n,d,rfl,ht.same s1,gt,hm,fun u G2 h2 fr gu=>?_⟩⟩
  dsimp only [aK];refine⟨_,SqT.of gu,_,rfl,_,SqT.of gu,_,rfl,Zs,fun t3 G3 s3 g3=>?_⟩
  have h3:=h2.same s3
  obtain⟨bk,gb,db⟩:=h3.hb
  obtain⟨sk,gs,ds⟩:=h3.hs
  refine⟨C,a.dx,_,.ref a.ds,h3.hp,B.cl,B.nS,Bh a life,Zs,fun t4 G4 s4 g4=>⟨a.ds,_,rfl,DPut.t (s4 _ _ gs) (dC g4) (zP ds.len (zP hL Zd)),?_⟩⟩
  have kt:∀b xs,G4 b=some (.tup xs)->(aI G4 a.ds (.dT (bA sk (pk q) (.ref t3)))) b=some (.tup xs):=fun b xs e=>by rw[aD (aM e (s4 _ _ gs) (fun z=>nomatch z))];exact e
  have kt':∀b xs,G3 b=some (.tup xs)->(aI G4 a.ds (.dT (bA sk (pk q) (.ref t3)))) b=some (.tup xs):=fun b xs e=>kt _ _ (s4 _ _ e)
  have e2:∀r,r≠q->(m.set q (some (.kept n w' d z))) r=(m.set q none) r:=fun r hr=>by rw[KM.set_ne hr,KM.set_ne hr]
  refine Q0 _ (h3.new (by rw[aD (aM (s4 _ _ h3.hp) (s4 _ _ gs) (fun z=>nomatch z)),s4 _ _ h3.hp,h3.hp]) (by rw[aD h3.ne];exact s4 _ _ gb) aB kt' (((db.skip (fun e he=>?_) (fun e he=>?_) e2).more).keep kt') (((ds.keep (fun b xs e=>s4 _ _ e)).put (rfl:fS (.kept n w' d z)=some _) (s4 _ _ g3) KM.set_same e2).keep kt)) (fun c o e n1 n2=>by rw[aD n2];exact s4 _ _ (s3 _ _ (fr _ _ (s1 _ _ e) n1 n2)))
  ·rw[KM.set_same]at he;cases he
  ·rw[KM.set_same]at he;cases he;rfl
theorem Gp {C:Addr} (B:Qw K C) (D:MethAt K C "begin" "Keys.begin" eX ["self","asker","key","number","deed"]):cZ P w K mg base 1 C "begin" ["self","asker","key","number","deed"] (yU C):=by
 refine D.go jL (fun vs H Q E h=>?_) (fun f cdv A outer s H vs Q E hr h=>?_)
 ·obtain⟨p,a,life,m,L,q,n,d,rfl,_⟩:=h;rfl
 ·obtain⟨p,a,life,m,L,q,n,d,rfl,ht,hL,hm,Q0⟩:=h
  have hu1:=dP hr
  refine⟨_,(R.ae (R.au (i:=5) jL.nd (R.ap (R.aa (R.v 1) (R.aa (R.v 2) R.ac)))) (R.ae (R.aq (R.al (R.de hu1) (R.v 5) (R.av (K:=K) (R.v 0))) (R.af R.bc) R.ar) (R.ae (R.bq (R.fj hu1 (R.av (K:=K) (R.v 0)) (R.v 5) R.bu)) (R.af (R.bz (R.ap (R.aa (R.v 3) (R.aa (R.v 4) R.ac))) (R.cj (R.av (K:=K) (R.v 0)) (R.v 5) (R.ce hu1))))))),?_⟩
  refine⟨Zs,fun t G s1 gt=>?_⟩
  dsimp only [aK];have ht1:=ht.same s1
  obtain⟨bk,gb,db⟩:=ht1.hb
  obtain⟨sk,gs,ds⟩:=ht1.hs
  have hB:∀e,m q=some e->fB e=none:=fun e he=>by
   cases e with
   | busy n' d'=>exact absurd he (hm n' d')
   | kept=>rfl
  have dgb:=DGet.t gb (dC gt)
  rw[db.no hB]at dgb;refine⟨C,a.dx,_,.ref a.db,ht1.hp,B.cl,B.nB,sN a life,none,dgb,?_⟩
  have nn:∀e,(m.set q none) q=some e->False:=fun e he=>by rw[KM.set_same]at he;cases he
  have ne0:∀r,r≠q->(m.set q none) r=m r:=fun r hr=>KM.set_ne hr
  have step:∀sk' G',G'=aI G a.ds (.dT sk')∨(G'=G/\sk'=sk)->Dic G sk' (m.set q none) fS L->∃_:True,KyAt C G' p a life (m.set q none) L/\G' a.ds=some (.dT sk')/\(∀c o,G c=some o->c≠a.ds->G' c=some o):=by
   intro sk' G' hG d';rcases hG with rfl | ⟨rfl,rfl⟩
   ·have kt:∀b xs,G b=some (.tup xs)->(aI G a.ds (.dT sk')) b=some (.tup xs):=fun b xs e=>by rw[aD (aM e gs (fun z=>nomatch z))];exact e
    exact⟨trivial,ht1.new (by rw[aD (aM ht1.hp gs (fun z=>nomatch z))]) (by rw[aD ht1.ne];exact gb) aB kt ((db.skip hB (fun e he=>(nn e he).elim) ne0).keep kt) (d'.keep kt),aB,fun c o e hn=>by rw[aD hn];exact e⟩
   ·exact⟨trivial,ht1.new rfl gb gs (fun b xs e=>e) (db.skip hB (fun e he=>(nn e he).elim) ne0) d',gs,fun c o e _=>e⟩
  have fin:∀sk' G',KyAt C G' p a life (m.set q none) L->G' a.ds=some (.dT sk')->(∀c o,G c=some o->c≠a.ds->G' c=some o)->5<=5->∀t2 G2,Same G' G2->G2 t2=some (.tup [.int n,.ref d]) →
    ∃bk',DPut G2 a.db (.ref t) (.ref t2) (aI G2 a.db (.dT bk'))/\Q .non (aI G2 a.db (.dT bk')):=by
   intro sk' G' h' gs' fr _ t2 G2 s2 g2;obtain⟨bk',gb',db'⟩:=h'.hb
   have h2:=h'.same s2
   have gt2:=s2 _ _ (fr _ _ gt (aM gt gs (fun z=>nomatch z)))
   refine⟨_,DPut.t (s2 _ _ gb') (dC gt2) (zP db'.len (zP hL Zd)),?_⟩
   have kt:∀b xs,G2 b=some (.tup xs)->(aI G2 a.db (.dT (bA bk' (pk q) (.ref t2)))) b=some (.tup xs):=fun b xs e=>by rw[aD (aM e (s2 _ _ gb') (fun z=>nomatch z))];exact e
   obtain⟨sk2,gs2,ds2⟩:=h2.hs
   have e2:∀r,r≠q->(m.set q (some (.busy n d))) r=(m.set q none) r:=fun r hr=>by rw[KM.set_ne hr,KM.set_ne hr]
   refine Q0 _ (h2.new (by rw[aD (aM h2.hp (s2 _ _ gb') (fun z=>nomatch z))]) aB (by rw[aD h2.ne.symm];exact gs2) kt (((db'.keep (fun b xs e=>s2 _ _ e)).put (rfl:fB (.busy n d)=some _) g2 KM.set_same e2).keep kt) (((ds2.skip (fun e he=>(nn e he).elim) (fun e he=>?_) e2).more).keep kt)) (fun c o e n1 n2=>by rw[aD n1];exact s2 _ _ (fr _ _ (s1 _ _ e) n2))
   rw[KM.set_same]at he;cases he;rfl
  refine⟨C,a.dx,_,.ref a.ds,ht1.hp,B.cl,B.nS,Bh a life,a.ds,rfl,.inr ⟨sk,.inl gs⟩,sk,pk q,t,gs,rfl,dC gt,fun v hv=>?_,fun hv=>?_⟩
  ·obtain⟨_,h',gs',fr⟩:=step _ _ (.inl rfl) (ds.drop (fun e he=>(nn e he).elim) ne0)
   refine⟨Zs,fun t2 G2 s2 g2=>?_⟩
   obtain⟨bk',dp,hq⟩:=fin _ _ h' gs' fr Zd t2 G2 s2 g2
   exact⟨C,a.dx,_,.ref a.db,s2 _ _ h'.hp,B.cl,B.nB,sN a life,a.db,_,rfl,dp,hq⟩
  ·have d':Dic G sk (m.set q none) fS L:=by
    have:=ds.drop (m':=m.set q none) (fun e he=>(nn e he).elim) ne0
    rwa [nV (iJ hv)]at this
   obtain⟨_,h',gs',fr⟩:=step _ _ (.inr ⟨rfl,rfl⟩) d'
   refine⟨Zs,fun t2 G2 s2 g2=>?_⟩
   obtain⟨bk',dp,hq⟩:=fin _ _ h' gs' fr Zd t2 G2 s2 g2
   exact⟨C,a.dx,_,.ref a.db,s2 _ _ h'.hp,B.cl,B.nB,sN a life,a.db,_,rfl,dp,hq⟩
end
end KL
namespace KL
open PySem L2
section
variable {P:Program} {w:World} {K:W.Frag} {mg:Str->Option Value} {base:Heap}
def hX:Sp:=fun vs H Q _=>∃d b m,vs=[.ref d,.int m]/\Dk H d b/\0<m/\m<18446744073709551616/\∀r H',0<=r->r<m->Dk H' d b->Kp d b H H'->Q (.int r) H'
theorem Le (T:Txt K mg) (D:DefAt K mg "_law_deck" gX ["_law_script"]):aH P w K mg base 1 "_law_deck" ["_law_script"] (Et K):=by
 refine D.go uP (fun vs H Q E h=>?_) (fun f cdv A outer s H vs Q E hr h=>?_)
 ·obtain⟨a,ns,rfl,_⟩:=h;rfl
 ·obtain⟨a,ns,rfl,hS,q⟩:=h
  refine⟨_,(R.af (R.aj (R.bf (R.aa (R.cw (R.gg (K:=K)) rfl T.b_list rN (R.aa (R.sl (R.dq (K:=K)) (R.v 0) R.pn (R.ps R.ad)) R.ac)) (R.aa (R.op R.aw R.ad (R.op R.br (R.ba (R.ib (K:=K) rfl) rfl T.b_sum Qc (R.aa (R.sl (R.dq (K:=K)) (R.v 0) R.pn (R.ps R.ad)) R.ac)) R.ad)) (R.aa R.ad R.ac)))))),?_⟩
  have hc:gH (ns.map V.int) none (some 63)=(ns.take 63).map V.int:=by rw[Kc];exact congrArg _ (oE ns 63)
  refine⟨_,hS,fun p1 hp1=>⟨_,.inl (SqL.of aB),fun b hb=>?_⟩⟩
  have s2:Same H (aI (aI H p1 (.lst (gH (ns.map V.int) none (some 63)))) b (.lst (gH (ns.map V.int) none (some 63)))):=(aF hp1).trans (aF hb)
  have g2:(aI (aI H p1 (.lst (gH (ns.map V.int) none (some 63)))) b (.lst (gH (ns.map V.int) none (some 63)))) b=some (.lst ((ns.take 63).map V.int)):=by rw[aB,hc]
  have hb0:H b=none:=(aF hp1).free hb
  show tE _ _ _ (aI (aI H p1 (.lst (gH (ns.map V.int) none (some 63)))) b (.lst (gH (ns.map V.int) none (some 63)))) _
  generalize aI (aI H p1 (.lst (gH (ns.map V.int) none (some 63)))) b (.lst (gH (ns.map V.int) none (some 63)))=H2 at s2 g2;refine⟨_,s2.seq hS,fun p2 hp2=>⟨p2,ns.take 63,rfl,SqL.of (by rw[aB,hc]),by show(0:Int)<2147483629;decide,mF rfl,fun d hd=>?_⟩⟩
  have s4:Same H (aI H2 p2 (.lst (gH (ns.map V.int) none (some 63)))):=s2.trans (aF hp2)
  have nbd:b≠d:=aE ((aF hp2) _ _ g2) hd
  refine q d b _ (s4.free hd) hb0 ⟨ns.take 63,_,_,aB,?_,?_⟩ (s4.trans (aF hd))
  ·rw[aD nbd];exact(aF hp2) _ _ g2
  ·rw[qR];exact Nat.min_le_left _ _
theorem Gq (D:DefAt K mg "_law_draw" gY ["_law_deck_here","_law_many"]) :
  aH P w K mg base 1 "_law_draw" ["_law_deck_here","_law_many"] hX:=by
 refine D.go eP (fun vs H Q E h=>?_) (fun f cdv A outer s H vs Q E hr h=>?_)
 ·obtain⟨d,b,m,rfl,_⟩:=h;rfl
 ·obtain⟨d,b,m,rfl,dk,hm,hm2,q⟩:=h
  have hu:=hr.units0
  obtain⟨ns,s0,k0,h1,h2,h3⟩:=dk.ex
  have ndb:d≠b:=aM h1 h2 (by
   intro z;injection z with z
   cases ns with
   | nil=>cases z
   | cons z1 zs=>injection z with z _;cases z)
  refine⟨_,(R.ae (R.bz (R.op R.aw (R.ix (R.bb (K:=K)) (R.v 0) R.ad) R.ad) (R.cj (R.v 0) R.ad R.ic)) (R.ae (R.au (i:=2) eP.nd (R.ix (R.bb (K:=K)) (R.v 0) R.ad)) (R.ae (R.aq (R.al (R.ie (K:=K) hu) (R.ix (R.bb (K:=K)) (R.v 0) R.ad) (R.bf R.ac)) (R.ae (R.au (i:=2) eP.nd (R.cn (K:=K) PySem.F.plainAttrs_list PySem.F.slot_list_pop PySem.F.type_list_pop R.ig (R.ix (R.bb (K:=K)) (R.v 0) R.ad) (R.aa R.ad R.ac))) (R.af (R.aq (R.al R.ge (R.v 2) (R.op R.cy R.ad R.ad)) (R.ae (R.bq (R.cn (K:=K) PySem.F.plainAttrs_list PySem.F.slot_list_insert PySem.F.type_list_insert R.fk (R.ix (R.bb (K:=K)) (R.v 0) R.ad) (R.aa R.ad (R.aa (R.op R.dl (R.v 2) (R.v 1)) R.ac)))) (R.af (R.aj (R.op R.br (R.v 2) (R.v 1))))) R.ar))) R.ar) (R.ae (R.au (i:=3) eP.nd (R.op R.br (R.op R.aw (R.op R.aw (R.op R.dt (R.op R.br (R.v 2) R.ad) R.ad) (R.op R.dt R.ad (R.ix (R.bb (K:=K)) (R.v 0) R.ad))) R.ad) R.ad)) (R.ae (R.au (i:=3) eP.nd (R.op R.br (R.op R.dt (R.v 3) (R.v 3)) R.ad)) (R.af (R.aj (R.op R.br (R.op R.dl (R.op R.br (R.op R.dt (R.v 3) (R.op R.aw (R.v 3) R.ad)) R.ad) R.ad) (R.v 1))))))))),?_⟩
  refine⟨_,SqL.of h1,_,rfl,d,_,2,2,rfl,rfl,h1,rfl,?_⟩
  have g1:(aI H d (.lst [.ref b,.int s0,.int (k0+1)])) d=some (.lst [.ref b,.int s0,.int (k0+1)]):=aB
  have g2:(aI H d (.lst [.ref b,.int s0,.int (k0+1)])) b=some (.lst (ns.map V.int)):=by rw[aD ndb.symm];exact h2
  have kp1:Kp d b H (aI H d (.lst [.ref b,.int s0,.int (k0+1)])):=fun c o e n1 n2=>by rw[aD n1];exact e
  show Cj _ _ _ _ (aI H d (.lst [.ref b,.int s0,.int (k0+1)]))
  generalize aI H d (.lst [.ref b,.int s0,.int (k0+1)])=H1 at g1 g2 kp1;refine⟨_,SqL.of g1,_,rfl,?_⟩
  dsimp only [aK];refine Tz (t:=Cl _ _ _) (fun σ' H'=>∃c:Int,σ'=[some (.ref d),some (.int m),some (.int c),none]/\(∃ns':List Int,H' d=some (.lst [.ref b,.int s0,.int (k0+1)])/\H' b=some (.lst (ns'.map V.int))/\ns'.length<=63)/\Kp d b H H') (fun nx hnx=>?_) ?_
  ·refine⟨_,SqL.of g1,_,rfl,mF rfl,fun p hp=>⟨b,p,_,rfl,rfl,SqL.of (by rw[aD (aE g2 hp)];exact g2),SqL.of aB,?_⟩⟩
   have e1:(aI H1 p (.lst [])) d=some (.lst [.ref b,.int s0,.int (k0+1)]):=by rw[aD (aE g1 hp)];exact g1
   have e2:(aI H1 p (.lst [])) b=some (.lst (ns.map V.int)):=by rw[aD (aE g2 hp)];exact g2
   have kp2:Kp d b H (aI H1 p (.lst [])):=kp1.trans (.new hp)
   generalize aI H1 p (.lst [])=H2 at e1 e2 kp2;cases ns with
   | nil=>
    exact hnx _ _ ⟨_,rfl,⟨[],e1,e2,h3⟩,kp2⟩
   | cons z ns=>
    have hl:ns.length+1<=63:=by simpa using h3
    refine⟨_,SqL.of e1,_,rfl,.inl ⟨rfl,_,SqL.of e2⟩,b,_,0,0,.int z,rfl,rfl,e2,Zd,Zd,by simp [seqIndex?],rfl,?_⟩
    have f1:(aI H2 b (.lst ((List.map V.int (z::ns)).eraseIdx 0))) d=some (.lst [.ref b,.int s0,.int (k0+1)]):=by rw[aD ndb];exact e1
    have f2:(aI H2 b (.lst ((List.map V.int (z::ns)).eraseIdx 0))) b=some (.lst (ns.map V.int)):=by rw[aB];rfl
    have kp3:Kp d b H (aI H2 b (.lst ((List.map V.int (z::ns)).eraseIdx 0))):=fun c o e n1 n2=>by rw[aD n2];exact kp2 c o e n1 n2
    dsimp only [aK];generalize aI H2 b (.lst ((List.map V.int (z::ns)).eraseIdx 0))=H3 at f1 f2 kp3;refine⟨⟨Zd,Zd,Zd⟩,?_⟩
    refine dQ (fun _=>?_) (fun _=>?_)
    ·refine⟨_,SqL.of f1,_,rfl,.inl ⟨rfl,_,SqL.of f2⟩,⟨hm,hm2⟩,b,_,0,_,rfl,rfl,f2,Nat.zero_le _,zP (m:=63) (by rw[dN];omega) Zd,hm,?_⟩
     refine q _ _ (Int.emod_nonneg _ Zo) (Int.emod_lt_of_pos _ hm) ⟨z / m::ns,s0,k0+1,by rw[aD ndb];exact f1,by rw[aB];rfl,by simpa using hl⟩ fun c o e n1 n2=>by rw[aD n2];exact kp3 c o e n1 n2
    ·exact hnx _ _ ⟨_,rfl,⟨ns,f1,f2,Zo⟩,kp3⟩
  ·rintro σ' H' ⟨c,rfl,⟨ns',f1,f2,f3⟩,kp⟩
   refine⟨by show(0:Int)<_;decide,.inr ⟨Zd,Zd⟩,_,SqL.of f1,_,rfl,.inl ⟨Zd,Zd⟩,by show(0:Int)<_;decide,?_⟩
   generalize hx:(c % 2147483629*16807+69621*(k0+1)+7919) % 2147483629=x;have hx0:0<=x:=by omega
   have hx1:x<2147483629:=by omega
   dsimp only [aK];refine⟨.inl ⟨Zo,Zo⟩,by show(0:Int)<_;decide,?_⟩
   generalize hy:x*x % 2147483587=y;have hy0:0<=y:=by omega
   have hy1:y<2147483587:=by omega
   dsimp only [aK];refine⟨.inl ⟨Zo,Zo⟩,by show(0:Int)<_;decide,⟨Zd,Zd⟩,hm,?_⟩
   exact q _ _ (Int.emod_nonneg _ Zo) (Int.emod_lt_of_pos _ hm) ⟨ns',s0,k0+1,f1,f2,f3⟩ kp
theorem Uo {r:Int} (h0:0<=r) (h1:r<4):r=0∨r=1∨r=2∨r=3:=by omega
structure WordsOf (L:List Nat) (g:Nat) (ws:List Str):Prop where
 nd:ws.Nodup
 of:∀z∈ws,1<=z.length/\z.length<=g/\∀c∈z.cps.toList,c∈L
def lN:Sp:=fun vs H Q _=>∃(d b:Addr) (L:List Nat) (g m:Nat),vs=[.ref d,.str (tx L),.int (g:Int),.int (m:Int)]/\Dk H d b/\1<=m/\m<=g/\g<=12/\L.Nodup/\m<=L.length/\L.length<=40 ∧
 ∀(l:Addr) (ws:List Str) (H':Hp),WordsOf L g ws->ws.length=m->H' l=some (.lst (ws.map V.str))->l≠d->l≠b->Dk H' d b->Kp d b H H'->Q (.ref l) H'
theorem Gr {α:Type} (xs:List α) {i j:Nat} (hi:i<=xs.length) (hj:j<=xs.length):gH xs (some (i:Int)) (some (j:Int))=(xs.drop i).take (j - i):=by
 unfold gH;rw[HT.sIx_nat,HT.sIx_nat,Nat.min_eq_left hi,Nat.min_eq_left hj]
def oQ (L ts:List Nat) (a sz f k:Nat):List Nat:=ts.take a++[L.getD ((f+k) % L.length) 0]++(ts.drop (a+1)).take (sz - (a+1))
theorem Lf {L:List Nat} (hn:L.Nodup) {i j:Nat} (hi:i<L.length) (hj:j<L.length) (h:L.getD i 0=L.getD j 0):i=j:=by
 rw[List.getD_eq_getElem?_getD,List.getD_eq_getElem?_getD,mQ hi,mQ hj]at h;have h':L[i]=L[j]:=h
 have p:=List.pairwise_iff_getElem.mp hn
 rcases Nat.lt_trichotomy i j with z | z | z
 ·exact absurd h' (p i j hi hj z)
 ·exact z
 ·exact absurd h'.symm (p j i hj hi z)
theorem Lg {f k k' n:Nat} (hk:k<n) (hk':k'<n) (h:(f+k) % n=(f+k') % n):k=k':=by
 have h1:=Nat.mod_add_div (f+k) n
 have h2:=Nat.mod_add_div (f+k') n
 rw[h]at h1;generalize (f+k) / n=u at h1;generalize (f+k') / n=v at h2;rcases Nat.lt_trichotomy u v with z | z | z
 ·have:n*(u+1)<=n*v:=Nat.mul_le_mul_left n z
  rw[Nat.mul_add,Nat.mul_one]at this;omega
 ·subst z;omega
 ·have:n*(v+1)<=n*u:=Nat.mul_le_mul_left n z
  rw[Nat.mul_add,Nat.mul_one]at this;omega
theorem Gs {L ts:List Nat} (hn:L.Nodup) {a sz f k k':Nat} (h:oQ L ts a sz f k=oQ L ts a sz f k') (hk:k<L.length) (hk':k'<L.length):k=k':=by
 unfold oQ at h;have h1:=List.append_inj_left' h rfl
 have h2:=List.append_inj_right' h1 rfl
 have h3:L.getD ((f+k) % L.length) 0=L.getD ((f+k') % L.length) 0:=by injection h2
 exact Lg hk hk' (Lf hn (Nat.mod_lt _ Zo) (Nat.mod_lt _ Zo) h3)
theorem Up {L:List Nat} {i:Nat} (h:i<L.length):L.getD i 0∈L/\L[i]?=some (L.getD i 0):=by
 have e:L[i]?=some (L[i]):=mQ h
 have e2:L.getD i 0=L[i]:=by rw[List.getD_eq_getElem?_getD,e];rfl
 exact⟨e2 ▸ List.getElem_mem _,e2 ▸ e⟩
theorem Lh {L ts:List Nat} {g a sz f k:Nat} (h0:0<L.length) (hl:ts.length=g) (ht:∀c∈ts,c∈L) (ha:a<sz) (hs:sz<=g):1<=(oQ L ts a sz f k).length/\(oQ L ts a sz f k).length<=g/\∀c∈oQ L ts a sz f k,c∈L:=by
 have e:(oQ L ts a sz f k).length=sz:=by
  unfold oQ;simp [hl]
  omega
 refine⟨Zo,Zo,fun c hc=>?_⟩
 unfold oQ at hc;rcases Zma.mp hc with hc | hc
 ·rcases Zma.mp hc with hc | hc
  ·exact ht c (List.mem_of_mem_take hc)
  ·rw[Zms.mp hc];exact(Up (Nat.mod_lt _ h0)).1
 ·exact ht c (List.mem_of_mem_drop (List.mem_of_mem_take hc))
theorem oR {n i:Nat} {x:V} (h:(iM 0 n)[i]?=some x):x=.int (i:Int)/\i<n:=by
 unfold iM at h;rw[iU]at h;cases hh:(List.range n)[i]? with
 | none=>rw[hh]at h;cases h
 | some y=>
  rw[hh]at h;obtain⟨h1,h2⟩:=Zgs.mp hh
  rw[List.getElem_range]at h2;cases h
  rw[<- h2];exact⟨Zs,by simpa using h1⟩
theorem eB (n:Nat):(iM 0 n).length=n:=by simp [iM]
theorem uQ {L:List Nat} {g m:Nat} {F:Nat->List Nat} (hi:∀k k',k<m->k'<m->F k=F k'->k=k') (ho:∀k,k<m->1<=(F k).length/\(F k).length<=g/\∀c∈F k,c∈L):WordsOf L g ((List.range m).map fun k=>tx (F k)):=by
 refine⟨?_,fun z hz=>?_⟩
 ·show List.Pairwise (·≠·) _
  rw[List.pairwise_map];refine List.Pairwise.imp_of_mem (fun {x y} hx hy hne exy=>hne ?_) List.nodup_range
  exact hi _ _ (List.mem_range.mp hx) (List.mem_range.mp hy) (by simpa using congrArg (fun z:Str=>z.cps.toList) exy)
 ·obtain⟨k,hk,rfl⟩:=Zmm.mp hz
  have:=ho k (List.mem_range.mp hk)
  exact⟨by rw[cC];exact this.1,by rw[cC];exact this.2.1,fun c hc=>this.2.2 c (by simpa using hc)⟩
theorem Bp (T:Txt K mg) (cLdraw:aH P w K mg base 1 "_law_draw" ["_law_deck_here","_law_many"] hX) (D:DefAt K mg "_law_unlike" bU ["_law_deck_here","_law_signs","_law_longest","_law_many"]) :
  aH P w K mg base 2 "_law_unlike" ["_law_deck_here","_law_signs","_law_longest","_law_many"] lN:=by
 refine D.go bX (fun vs H Q E h=>?_) (fun f cdv A outer s H vs Q E hr h=>?_)
 ·obtain⟨d,b,L,g,m,rfl,_⟩:=h;rfl
 ·obtain⟨d,b,L,g,m,rfl,dk,hm1,hmg,hg,hnd,hmL,hL40,q⟩:=h
  have hLdraw:=hr
  have lL:(tx L).length=L.length:=cC L
  have h40:(tx L).length<=sizeLine:=gA Zo
  have cL:(tx L).cps.toList=L:=by simp
  refine⟨_,(R.ae (R.au (i:=4) bX.nd (R.cn (K:=K) PySem.F.plainAttrs_str PySem.F.slot_str_join PySem.F.type_str_join (R.ii (K:=K)) R.ak (R.aa (R.bi rfl (js:=[none,some 0,some 1]) (N:=["_law_k","_law_deck_here","_law_signs"]) (CompScope.by (aA bU) ["_law_deck_here","_law_signs","_law_longest","_law_many","_law_word","_law_size","_law_at","_law_first","_law_ends"] rfl rfl Zk) (aS rfl) (R.cz rfl T.b_range (R.aa (R.v 2) R.ac)) (fun C s₂ H₂ fp=>⟨(R.gn (i:=0) (show(["_law_k","_law_deck_here","_law_signs"]:List Str).Nodup by decide +kernel)),R.bt,(R.ix R.iS (R.v 2) (R.fn cLdraw hLdraw rfl (R.aa (R.v 1) (R.aa (R.ba R.dh rfl T.b_len bY (R.aa (R.v 2) R.ac)) R.ac))))⟩)) R.ac))) (R.ae (R.aq (R.al R.eq (R.fn cLdraw hLdraw rfl (R.aa (R.v 0) (R.aa R.ad R.ac))) R.ad) (R.af (R.aj (R.bi rfl (js:=[none,some 4]) (N:=["_law_k","_law_word"]) (CompScope.by (aA bU) ["_law_deck_here","_law_signs","_law_longest","_law_many","_law_word","_law_size","_law_at","_law_first","_law_ends"] rfl rfl Zk) (aS rfl) (R.cz rfl T.b_range (R.aa (R.v 3) R.ac)) (fun C s₂ H₂ fp=>⟨(R.gn (i:=0) (show(["_law_k","_law_word"]:List Str).Nodup by decide +kernel)),R.bt,(R.sl R.sS (R.v 1) R.pn (R.ps (R.op R.aw (R.v 0) R.ad)))⟩)))) R.ar) (R.ae (R.au (i:=5) bX.nd (R.op R.aw R.ad (R.fn cLdraw hLdraw rfl (R.aa (R.v 0) (R.aa (R.v 2) R.ac))))) (R.ae (R.au (i:=6) bX.nd (R.fn cLdraw hLdraw rfl (R.aa (R.v 0) (R.aa (R.v 5) R.ac)))) (R.ae (R.au (i:=7) bX.nd (R.fn cLdraw hLdraw rfl (R.aa (R.v 0) (R.aa (R.ba R.dh rfl T.b_len bY (R.aa (R.v 1) R.ac)) R.ac)))) (R.ae (R.au (i:=8) bX.nd (R.gh (R.aa (R.sl R.sS (R.v 4) R.pn (R.ps (R.v 6))) (R.aa (R.sl R.sS (R.v 4) (R.ps (R.op R.aw (R.v 6) R.ad)) (R.ps (R.v 5))) R.ac)))) (R.af (R.aj (R.bi rfl (js:=[none,some 1,some 7,some 8]) (N:=["_law_k","_law_signs","_law_first","_law_ends"]) (CompScope.by (aA bU) ["_law_deck_here","_law_signs","_law_longest","_law_many","_law_word","_law_size","_law_at","_law_first","_law_ends"] rfl rfl Zk) (aS rfl) (R.cz rfl T.b_range (R.aa (R.v 3) R.ac)) (fun C s₂ H₂ fp=>⟨(R.gn (i:=0) (show(["_law_k","_law_signs","_law_first","_law_ends"]:List Str).Nodup by decide +kernel)),R.bt,(R.op R.di (R.op R.di (R.ix (R.ah (K:=K)) (R.v 3) R.ad) (R.ix R.iS (R.v 1) (R.op R.br (R.op R.aw (R.v 2) (R.v 0)) (R.ba R.dh rfl T.b_len bY (R.aa (R.v 1) R.ac))))) (R.ix (R.ah (K:=K)) (R.v 3) R.ad))⟩)))))))))),?_⟩
  refine Tz (t:=Co _ _) (fun σ' H'=>∃ts:List Nat,σ'=[some (.ref d),some (.str (tx L)),some (.int (g:Int)),some (.int m),some (.str (tx ts)),none,none,none,none]/\ts.length=g/\(∀c∈ts,c∈L)/\Dk H' d b/\Kp d b H H') (fun nx hnx=>?_) ?_
  ·refine⟨rfl,g,rfl,Zo,Zo,?_⟩
   refine bR (fK 0 (g:Int).toNat) (by rw[eB];omega) (fun i ys H'=>Dk H' d b/\Kp d b H H'/\∃ts:List Nat,ys=ts.map (fun c=>V.str (tx [c]))/\ts.length=i/\∀c∈ts,c∈L) (fun i ys H' ⟨_,_,ts,e,e2,_⟩=>⟨trivial,by rw[e,dN,e2];exact cB _⟩) ⟨dk,.refl,[],rfl,rfl,(fun _ h=>nomatch h)⟩ (fun i x ys H' hx ⟨Di,kpi,ts,e,e2,e3⟩=>?_) (fun ys H' ⟨Di,kpi,ts,e,e2,e3⟩=>?_)
   ·refine⟨h40,d,b,_,rfl,Di,Zo,Zo,fun r2 H'' r20 r21 Dj kpj=>⟨h40,?_⟩⟩
    obtain⟨c,hc,hm⟩:=gC (xs:=(tx L).cps.toList) r20 (by rw[cL];omega)
    rw[cL]at hm;refine⟨c,hc,Dj,kpi.trans kpj,ts++[c],by rw[e,jV];rfl,by rw[zO,e2];rfl,fun c' hc'=>?_⟩
    rcases Zma.mp hc' with h | h
    ·exact e3 c' h
    ·rw[Zms.mp h];exact hm
   ·intro p hp;have hts:ts.length=g:=by rw[e2,eB];omega
    refine⟨_,p,ts.map (fun c=>tx [c]),rfl,rfl,SqL.of (by rw[aB,e,List.map_map];rfl),?_,?_⟩
    ·rw[tY,dN,Ev,cC];simp;omega
    ·refine hnx _ _ ⟨ts,?_,hts,e3,Di.new hp,kpi.trans (.new hp)⟩
     rw[Ev,wH];rfl
  ·rintro σ' H1 ⟨ts,rfl,hts,hlet,D1,k1⟩
   have hcl:(tx ts).cps.toList=ts:=by simp
   have em:((m:Int)).toNat=m:=by omega
   refine⟨d,b,3,rfl,D1,Zd,Zd,fun r H2 r0 r1 D2 k2=>?_⟩
   refine dQ (fun _=>?_) (fun _=>?_)
   ·refine⟨m,rfl,Zo,Zo,?_⟩
    refine bR (fK 0 (m:Int).toNat) (by rw[eB];omega) (fun i ys H'=>ys=((List.range i).map fun k=>tx (ts.take (k+1))).map V.str/\H'=H2) (fun i ys H' ⟨e,_⟩=>⟨trivial,by rw[e];simp⟩) ⟨rfl,rfl⟩ (fun i x ys H' hx ⟨e,e2⟩=>?_) (fun ys H' ⟨e,e2⟩=>?_)
    ·subst e2;obtain⟨rfl,hi⟩:=oR hx
     refine⟨gA (by rw[cC];omega),?_,rfl⟩
     rw[hcl,show((i:Nat):Int)+1=((i+1:Nat):Int) by omega,oE,e,List.range_succ,jV,jV]
     rfl
    ·subst e2;intro p hp;rw[eB,em]at e;have hd:=D2.ne hp
     refine q p ((List.range m).map fun k=>tx (ts.take (k+1))) _ (uQ (fun k k' hk hk' e=>?_) (fun k hk=>?_)) Zs (by rw[aB,e]) hd.1 hd.2 (D2.new hp) ((k1.trans k2).trans (.new hp))
     ·have:=congrArg List.length e
      rw[qR,qR,hts]at this;omega
     ·exact⟨by rw[qR,hts];omega,by rw[qR,hts];omega,fun c hc=>hlet c (List.mem_of_mem_take hc)⟩
   ·refine⟨d,b,g,rfl,D2,Zo,Zo,fun r5 H3 s0 s1 D3 k3=>?_⟩
    dsimp only [aK];refine⟨d,b,1+r5,rfl,D3,Zo,Zo,fun ra H4 a0 a1 D4 k4=>?_⟩
    dsimp only [aK];refine⟨h40,d,b,_,rfl,D4,Zo,Zo,fun rf H5 f0 f1 D5 k5=>?_⟩
    rw[lL]at f1;dsimp only [aK];obtain⟨a,rfl⟩:∃a:Nat,ra=a:=⟨ra.toNat,Zo⟩
    obtain⟨z5,rfl⟩:∃z:Nat,r5=z:=⟨r5.toNat,Zo⟩
    obtain⟨fz,rfl⟩:∃z:Nat,rf=z:=⟨rf.toNat,Zo⟩
    refine⟨gA (by rw[cC];omega),gA (by rw[cC];omega),mF rfl,fun tp htp=>?_⟩
    have g5:(aI H5 tp (.tup [.str (tx (gH (tx ts).cps.toList none (some (a:Int)))),.str (tx (gH (tx ts).cps.toList (some ((a:Int)+1)) (some (1+(z5:Int)))))])) tp=some (.tup [.str (tx (ts.take a)),.str (tx ((ts.drop (a+1)).take (z5+1 - (a+1))))]):=by
     rw[aB,hcl,oE,show(a:Int)+1=((a+1:Nat):Int) by omega,show 1+(z5:Int)=((z5+1:Nat):Int) by omega,Gr ts Zo Zo]
    have k6:Kp d b H (aI H5 tp (.tup [.str (tx (gH (tx ts).cps.toList none (some (a:Int)))),.str (tx (gH (tx ts).cps.toList (some ((a:Int)+1)) (some (1+(z5:Int)))))])):=((((k1.trans k2).trans k3).trans k4).trans k5).trans (.new htp)
    have D6:=D5.new (o:=.tup [.str (tx (gH (tx ts).cps.toList none (some (a:Int)))),.str (tx (gH (tx ts).cps.toList (some ((a:Int)+1)) (some (1+(z5:Int)))))]) htp
    dsimp only [aK];generalize aI H5 tp (.tup [.str (tx (gH (tx ts).cps.toList none (some (a:Int)))),.str (tx (gH (tx ts).cps.toList (some ((a:Int)+1)) (some (1+(z5:Int)))))])=H6 at g5 k6 D6;refine⟨m,rfl,Zo,Zo,?_⟩
    refine bR (fK 0 (m:Int).toNat) (by rw[eB];omega) (fun i ys H'=>ys=((List.range i).map fun k=>tx (oQ L ts a (z5+1) fz k)).map V.str/\H'=H6) (fun i ys H' ⟨e,_⟩=>⟨trivial,by rw[e];simp⟩) ⟨rfl,rfl⟩ (fun i x ys H' hx ⟨e,e2⟩=>?_) (fun ys H' ⟨e,e2⟩=>?_)
    ·subst e2;obtain⟨rfl,hi⟩:=oR hx
     have h0:0<L.length:=by omega
     have hL:=Up (L:=L) (Nat.mod_lt (fz+i) h0)
     have t1:(tx (ts.take a)).length<=12:=by rw[cC,qR];omega
     have t2:(tx ((ts.drop (a+1)).take (z5+1 - (a+1)))).length<=12:=by rw[cC,qR,List.length_drop];omega
     refine⟨_,SqT.of g5,_,rfl,h40,by rw[lL];omega,h40,L.getD ((fz+i) % L.length) 0,?_,gA (by have:=cC [L.getD ((fz+i) % L.length) 0];simp only [Cf,List.length_nil]at this;omega),_,SqT.of g5,_,rfl,gA ?_,?_,rfl⟩
     ·rw[lL,cL,show((fz:Int)+(i:Int)) % (L.length:Int)=(((fz+i) % L.length:Nat):Int) by rw[Int.natCast_emod,Int.natCast_add]]
      exact dA hL.2
     ·rw[rK,cC,zO,qR];simp only [Cf,List.length_nil]
      omega
     ·rw[e,List.range_succ,jV,jV,rK,rK];rfl
    ·subst e2;intro p hp;rw[eB,em]at e;have hd:=D6.ne hp
     refine q p ((List.range m).map fun k=>tx (oQ L ts a (z5+1) fz k)) _ (uQ (fun k k' hk hk' e=>?_) (fun k hk=>?_)) Zs (by rw[aB,e]) hd.1 hd.2 (D6.new hp) (k6.trans (.new hp))
     ·exact Gs hnd e Zo Zo
     ·exact Lh Zo hts hlet Zo Zo
end
end KL
namespace KL
open PySem L2
section
variable {P:Program} {w:World} {K:W.Frag} {mg:Str->Option Value} {base:Heap}
theorem aX {n:Nat} (h:Nat.ble n 1000=true):n<=1000:=Nat.le_of_ble_eq_true h
def Bq:An->Str | .is1 _=>"is" | .is2 _ _=>"is" | .short _=>"short" | .full _=>"full" | .no _=>"no" | .ok=>"ok"
theorem sU {C:Addr} (B:Mn K C) (D:MethAt K C "amount" "Book.amount" dX ["self","name"]):cZ P w K mg base 1 C "amount" ["self","name"] (gO C):=by
 refine D.go oP (fun vs H Q E h=>?_) (fun f cdv A outer s H vs Q E hr h=>?_)
 ·obtain⟨p,n,prs,rfl,_⟩:=h;rfl
 ·obtain⟨p,n,prs,rfl,bk,q⟩:=h
  have hu1:=dP hr
  obtain⟨dx,d,h1,h2⟩:=bk.ex
  refine⟨_,(R.af (R.aj (R.ij hu1 (R.av (K:=K) (R.v 0)) (R.v 1) R.ad))),?_⟩
  refine⟨C,dx,_,.ref d,h1,B.cl,B.nA,eI _,d,rfl,.inl ⟨_,.inl h2⟩,_,DGet.k (k:=Sum.inr n) h2,?_⟩
  rw[rT];exact q
theorem gE {α:Type} {xs:List α} {i:Nat} {x:α} (h:xs[i]?=some x):xs.take (i+1)=xs.take i++[x]:=by
 rw[List.take_succ,h];rfl
theorem xB {C:Addr} (T:Txt K mg) (B:Mn K C) (D:MethAt K C "rows" "Book.rows" eN ["self"]):cZ P w K mg base 1 C "rows" ["self"] (uE C):=by
 refine D.go sR (fun vs H Q E h=>?_) (fun f cdv A outer s H vs Q E hr h=>?_)
 ·obtain⟨p,prs,rfl,_⟩:=h;rfl
 ·obtain⟨p,prs,rfl,bk,hz,q⟩:=h
  have hu1:=dP hr
  obtain⟨dx,d,h1,h2⟩:=bk.ex
  refine⟨_,(R.af (R.aj (R.bi rfl (js:=[none,some 0]) (N:=["name","self"]) (CompScope.by (aA eN) ["self"] rfl rfl Zk) (aS rfl) (R.bj (K:=K) (R.ba (R.fe rfl) rfl T.b_sorted lA (R.aa (R.av (K:=K) (R.v 0)) R.ac))) (fun C s₂ H₂ fp=>⟨(R.gn (i:=0) (show(["name","self"]:List Str).Nodup by decide +kernel)),(R.ck (R.al R.gt (R.bp hu1 (R.av (K:=K) (R.v 1)) (R.v 0)) R.ad)),(R.gh (R.aa (R.v 0) (R.aa (R.bp hu1 (R.av (K:=K) (R.v 1)) (R.v 0)) R.ac)))⟩)))),?_⟩
  refine⟨C,dx,_,.ref d,h1,B.cl,B.nA,eI _,prs.map (·.1),_,.inl h2,oJ prs,by rw[dN];exact hz,fun l hl=>⟨l,rfl,⟨_,SqL.of aB⟩,?_⟩⟩
  have s1:Same H (aI H l (.lst ((uB (prs.map (·.1))).map V.str))):=aF hl
  have g1:(aI H l (.lst ((uB (prs.map (·.1))).map V.str))) l=some (.lst ((uB (prs.map (·.1))).map V.str)):=aB
  generalize aI H l (.lst ((uB (prs.map (·.1))).map V.str))=H1 at s1 g1;have hlen:(uB (prs.map (·.1))).length<64:=by rw[rQ,dN];exact hz
  refine bR (gB K l ((uB (prs.map (·.1))).map V.str)) (by rw[dN];omega) (fun i ys H'=>∃zs:List Z,ys=dO zs/\Same H1 H'/\ZAt H' zs/\zs.length<=i/\zs.map (·.2)=(((uB (prs.map (·.1))).take i).filter fun n=>decide (0<bZ prs n)).map fun n=>(n,bZ prs n))
   (fun i ys H' ⟨zs,e,s',_,hl',_⟩=>⟨SqL.of (s' _ _ g1),by rw[e];unfold dO;rw[dN];exact hl'⟩) ⟨[],rfl,Same.refl _,(fun _ h=>nomatch h),cB _,rfl⟩ (fun i x ys H' hx ⟨zs,e,s',hza,hzl,hzm⟩=>?_) (fun ys H' ⟨zs,e,s',hza,hzl,hzm⟩=>?_)
  ·rw[iU]at hx;cases hn:(uB (prs.map (·.1)))[i]? with
   | none=>rw[hn]at hx;cases hx
   | some n=>
    rw[hn]at hx;cases hx
    have hmem:n∈prs.map (·.1):=(oG _).mem_iff.mp (jW hn)
    obtain⟨a,ha⟩:=jR hmem
    have ea:bZ prs n=a:=by unfold bZ;rw[ha];rfl
    have gd:∀H'',Same H1 H''->DGet H'' d (.str n) (some (.int a)):=fun H'' s''=>by
     have:=DGet.k (k:=Sum.inr n) (s''  _ _ (s1 _ _ h2))
     rw[mV,ha]at this;exact this
    have h1':=s' _ _ (s1 _ _ h1)
    refine⟨C,dx,_,.ref d,h1',B.cl,B.nA,eI _,d,_,rfl,gd H' s',?_⟩
    refine dQ (fun hb=>?_) (fun hb=>?_)
    ·have hb':0<a:=by simpa using hb
     refine⟨C,dx,_,.ref d,h1',B.cl,B.nA,eI _,d,_,rfl,gd H' s',mF rfl,fun t ht=>⟨zs++[(t,n,a)],by rw[e];unfold dO;rw[jV];rfl,s'.trans (aF ht),?_,by rw[zO];simpa using hzl,?_⟩⟩
     ·intro z hz';rcases Zma.mp hz' with m | m
      ·exact(hza.same (aF ht)) z m
      ·rw[Zms.mp m];exact aB
     ·rw[jV,hzm,gE hn,List.filter_append,jV];congr 1
      rw[List.filter_cons,if_pos (by rw[ea];exact decide_eq_true hb')]
      rw[<- ea];rfl
    ·have hb':¬ 0<a:=by simpa using hb
     refine⟨zs,e,s',hza,Zo,?_⟩
     rw[hzm,gE hn,List.filter_append,List.filter_cons,if_neg (by rw[ea];simpa using hb')]
     simp
  ·intro l2 hl2;subst e;refine q l2 zs _ (s1.trans (s'.trans (aF hl2))) ?_ aB (hza.same (aF hl2)) ?_
   ·exact s1.free (s'.free hl2)
   ·rw[hzm,dN,List.take_length];rfl
def fP (f:Str->Nat) (z:Str) (v:Nat):Str->Nat:=fun y=>if y=z then v else f y
def aR (f:Str->Nat):Dd->Option An
 | .add a n=>if 1000000000000<f a+n then some (.full (f a)) else some (.is1 (f a+n))
 | .take a n=>if f a<n then some (.short (f a)) else some (.is1 (f a - n))
 | .move a b n=>if f a<n then some (.short (f a)) else if 1000000000000<f b+n then some (.full (f b)) else some (.is2 (f a - n) (f b+n))
 | .send _ a n=>if f a<n then some (.short (f a)) else none
 | .fetch _ a n=>if 1000000000000<f a+n then some (.full (f a)) else none
 | .pass _ _ _ _=>none
def dS (f:Str->Nat):Dd->List An
 | .send h a n=>[.no h,.is1 (f a - n)]
 | .fetch h a n=>[.no h,.is1 (f a+n)]
 | .pass h g _ _=>[.no h,.no g,.ok]
 | _=>[]
def after (f:Str->Nat):Dd->An->(Str->Nat)
 | .add a n,.is1 _=>fP f a (f a+n)
 | .take a n,.is1 _=>fP f a (f a - n)
 | .move a b n,.is2 _ _=>fP (fP f a (f a - n)) b (f b+n)
 | .send _ a n,.is1 _=>fP f a (f a - n)
 | .fetch _ a n,.is1 _=>fP f a (f a+n)
 | _,_=>f
def jU (f:Str->Nat) (x:Dd) (q:Bool) (y:An):Prop:=(q=false/\aR f x=some y)∨(q=true/\aR f x=none/\y∈dS f x)
theorem Gu {f:Str->Nat} (hf:∀z,f z<=1000000000000) {x:Dd} (hx:x.Ok) {q:Bool} {y:An} (h:jU f x q y) (hq:q=true->x.far=true):An.Of x y/\(x.far=true->(q=true↔y.early=false)):=by
 rcases h with⟨rfl,h⟩ | ⟨rfl,h1,h2⟩
 ·cases x with
  | add a n=>
   simp only [aR]at h
   have:=hf a
   split at h <;> cases h
   ·exact⟨⟨Zo,Zo⟩,fun z=>nomatch z⟩
   ·exact⟨⟨Zo,Zo⟩,fun z=>nomatch z⟩
  | take a n=>
   simp only [aR]at h
   have:=hf a
   split at h <;> cases h
   ·exact⟨by show f a<n;omega,fun z=>nomatch z⟩
   ·exact⟨by show f a - n+n<=1000000000000;omega,fun z=>nomatch z⟩
  | move a b n=>
   simp only [aR]at h
   have:=hf a
   have:=hf b
   split at h
   ·cases h;exact⟨by show f a<n;omega,fun z=>nomatch z⟩
   ·split at h <;> cases h
    ·exact⟨⟨Zo,Zo⟩,fun z=>nomatch z⟩
    ·exact⟨⟨Zo,Zo,Zo⟩,fun z=>nomatch z⟩
  | send g a n=>
   simp only [aR]at h
   split at h <;> cases h
   exact⟨by show f a<n;omega,fun _=>⟨(fun z=>nomatch z),(fun z=>nomatch z)⟩⟩
  | fetch g a n=>
   simp only [aR]at h
   have:=hf a
   split at h <;> cases h
   exact⟨⟨Zo,Zo⟩,fun _=>⟨(fun z=>nomatch z),(fun z=>nomatch z)⟩⟩
  | pass g k a n=>cases h
 ·cases x with
  | add a n=>cases hq rfl
  | take a n=>cases hq rfl
  | move a b n=>cases hq rfl
  | send g a n=>
   have:=hf a
   simp only [aR]at h1
   simp only [dS,List.mem_cons,List.not_mem_nil,or_false]at h2
   have hn:n<=f a:=by
    by_cases hh:f a<n
    ·rw[if_pos hh]at h1;cases h1
    ·omega
   rcases h2 with rfl | rfl
   ·exact⟨rfl,fun _=>⟨fun _=>rfl,fun _=>rfl⟩⟩
   ·exact⟨by show f a - n+n<=1000000000000;omega,fun _=>⟨fun _=>rfl,fun _=>rfl⟩⟩
  | fetch g a n=>
   simp only [aR]at h1
   simp only [dS,List.mem_cons,List.not_mem_nil,or_false]at h2
   have hn:¬ 1000000000000<f a+n:=by
    intro hh;rw[if_pos hh]at h1;cases h1
   rcases h2 with rfl | rfl
   ·exact⟨rfl,fun _=>⟨fun _=>rfl,fun _=>rfl⟩⟩
   ·exact⟨⟨Zo,Zo⟩,fun _=>⟨fun _=>rfl,fun _=>rfl⟩⟩
  | pass g k a n=>
   simp only [dS,List.mem_cons,List.not_mem_nil,or_false]at h2
   rcases h2 with rfl | rfl | rfl
   ·exact⟨.inl rfl,fun _=>⟨fun _=>rfl,fun _=>rfl⟩⟩
   ·exact⟨.inr rfl,fun _=>⟨fun _=>rfl,fun _=>rfl⟩⟩
   ·exact⟨trivial,fun _=>⟨fun _=>rfl,fun _=>rfl⟩⟩
theorem jE {f:Str->Nat} {z:Str} {v:Nat} (hf:∀z,f z<=1000000000000) (hv:v<=1000000000000):∀y,fP f z v y<=1000000000000:=fun y=>by
 unfold fP;split
 ·exact hv
 ·exact hf y
theorem Gv {f:Str->Nat} (hf:∀z,f z<=1000000000000) {x:Dd} {q:Bool} {y:An} (h:jU f x q y):∀z,after f x y z<=1000000000000:=by
 rcases h with⟨rfl,h⟩ | ⟨rfl,h1,h2⟩
 ·cases x with
  | add a n=>
   simp only [aR]at h
   split at h <;> cases h
   ·exact hf
   ·exact jE hf Zo
  | take a n=>
   simp only [aR]at h
   have:=hf a
   split at h <;> cases h
   ·exact hf
   ·exact jE hf Zo
  | move a b n=>
   simp only [aR]at h
   have:=hf a
   split at h
   ·cases h;exact hf
   ·split at h <;> cases h
    ·exact hf
    ·exact jE (jE hf Zo) Zo
  | send g a n=>
   simp only [aR]at h
   split at h <;> cases h
   exact hf
  | fetch g a n=>
   simp only [aR]at h
   split at h <;> cases h
   exact hf
  | pass g k a n=>cases h
 ·cases x with
  | add a n=>cases h2
  | take a n=>cases h2
  | move a b n=>cases h2
  | send g a n=>
   have:=hf a
   simp only [dS,List.mem_cons,List.not_mem_nil,or_false]at h2
   rcases h2 with rfl | rfl
   ·exact hf
   ·exact jE hf Zo
  | fetch g a n=>
   simp only [aR]at h1
   simp only [dS,List.mem_cons,List.not_mem_nil,or_false]at h2
   have hn:¬ 1000000000000<f a+n:=by
    intro hh;rw[if_pos hh]at h1;cases h1
   rcases h2 with rfl | rfl
   ·exact hf
   ·exact jE hf Zo
  | pass g k a n=>
   simp only [dS,List.mem_cons,List.not_mem_nil,or_false]at h2
   rcases h2 with rfl | rfl | rfl <;> exact hf
def vL:Dd->An->List (Str × Int)
 | .add a n,.is1 _=>[(a,(n:Int))]
 | .take a n,.is1 _=>[(a,-(n:Int))]
 | .move a b n,.is2 _ _=>[(a,-(n:Int)),(b,(n:Int))]
 | .send _ a n,.is1 _=>[(a,-(n:Int))]
 | .fetch _ a n,.is1 _=>[(a,(n:Int))]
 | _,_=>[]
theorem Uq (y:An):kA y.vs 0=some (.str (Bq y)):=by cases y <;> rfl
theorem Ur {y:An} (h:Bq y="is"):(∃m,y=.is1 m)∨∃l m,y=.is2 l m:=by
 cases y with
 | is1 m=>exact .inl ⟨m,rfl⟩
 | is2 l m=>exact .inr ⟨l,m,rfl⟩
 | short m=>exact absurd (show("short":Str)="is" from h) Zk
 | full m=>exact absurd (show("full":Str)="is" from h) Zk
 | no m=>exact absurd (show("no":Str)="is" from h) Zk
 | ok=>exact absurd (show("ok":Str)="is" from h) Zk
def dU (f:Str->Nat) (c:Str × Int):Str->Nat:=fP f c.1 ((f c.1:Int)+c.2).toNat
def Gx (f:Str->Nat) (cs:List (Str × Int)):Str->Nat:=cs.foldl dU f
def Gy:(Str->Nat)->List (Str × Int)->Prop
 | _,[]=>True
 | f,c::cs=>0<=(f c.1:Int)+c.2/\Gy (dU f c) cs
theorem uR {f:Str->Nat} {x:Dd} {q:Bool} {y:An} (hx:x.Ok) (h:jU f x q y):Gx f (vL x y)=after f x y/\Gy f (vL x y):=by
 rcases h with⟨rfl,h⟩ | ⟨rfl,h1,h2⟩
 ·cases x with
  | add a n=>
   simp only [aR]at h
   split at h <;> cases h
   ·exact⟨rfl,trivial⟩
   ·refine⟨?_,by show(0:Int)<=_+_;omega,trivial⟩
    show fP f a ((f a:Int)+(n:Int)).toNat=fP f a (f a+n)
    rw[show((f a:Int)+(n:Int)).toNat=f a+n by omega]
  | take a n=>
   simp only [aR]at h
   split at h <;> cases h
   ·exact⟨rfl,trivial⟩
   ·refine⟨?_,by show(0:Int)<=(f a:Int)+-(n:Int);omega,trivial⟩
    show fP f a ((f a:Int)+-(n:Int)).toNat=fP f a (f a - n)
    rw[show((f a:Int)+-(n:Int)).toNat=f a - n by omega]
  | move a b n=>
   have hab:b≠a:=fun z=>hx.2.2.1 z.symm
   simp only [aR]at h
   split at h
   ·cases h;exact⟨rfl,trivial⟩
   ·split at h <;> cases h
    ·exact⟨rfl,trivial⟩
    ·have eb:dU f (a,-(n:Int)) b=f b:=by unfold dU fP;exact if_neg hab
     refine⟨?_,by show(0:Int)<=(f a:Int)+-(n:Int);omega,?_,trivial⟩
     ·show dU (dU f (a,-(n:Int))) (b,(n:Int))=fP (fP f a (f a - n)) b (f b+n)
      have e1:dU f (a,-(n:Int))=fP f a (f a - n):=by
       unfold dU;rw[show((f a:Int)+-(n:Int)).toNat=f a - n by omega]
      unfold dU at eb ⊢
      dsimp only at eb ⊢
      rw[eb,show((f b:Int)+(n:Int)).toNat=f b+n by omega]
      unfold dU at e1;rw[e1]
     ·show(0:Int)<=(dU f (a,-(n:Int)) b:Int)+(n:Int)
      omega
  | send g a n=>
   simp only [aR]at h
   split at h <;> cases h
   exact⟨rfl,trivial⟩
  | fetch g a n=>
   simp only [aR]at h
   split at h <;> cases h
   exact⟨rfl,trivial⟩
  | pass g k a n=>cases h
 ·cases x with
  | add a n=>cases h2
  | take a n=>cases h2
  | move a b n=>cases h2
  | send g a n=>
   simp only [aR]at h1
   simp only [dS,List.mem_cons,List.not_mem_nil,or_false]at h2
   have hn:¬ f a<n:=by
    intro hh;rw[if_pos hh]at h1;cases h1
   rcases h2 with rfl | rfl
   ·exact⟨rfl,trivial⟩
   ·refine⟨?_,by show(0:Int)<=(f a:Int)+-(n:Int);omega,trivial⟩
    show fP f a ((f a:Int)+-(n:Int)).toNat=fP f a (f a - n)
    rw[show((f a:Int)+-(n:Int)).toNat=f a - n by omega]
  | fetch g a n=>
   simp only [dS,List.mem_cons,List.not_mem_nil,or_false]at h2
   rcases h2 with rfl | rfl
   ·exact⟨rfl,trivial⟩
   ·refine⟨?_,by show(0:Int)<=(f a:Int)+(n:Int);omega,trivial⟩
    show fP f a ((f a:Int)+(n:Int)).toNat=fP f a (f a+n)
    rw[show((f a:Int)+(n:Int)).toNat=f a+n by omega]
  | pass g k a n=>
   simp only [dS,List.mem_cons,List.not_mem_nil,or_false]at h2
   rcases h2 with rfl | rfl | rfl <;> exact⟨rfl,trivial⟩
def cY:Dd->List (Str × Int)
 | .add a n=>[(a,(n:Int))]
 | .take a n=>[(a,-(n:Int))]
 | .move a b n=>[(a,-(n:Int)),(b,(n:Int))]
 | .send _ a n=>[(a,-(n:Int))]
 | .fetch _ a n=>[(a,(n:Int))]
 | .pass _ _ _ _=>[]
theorem Gz {x:Dd} {y:An} (hy:An.Of x y) (h:Bq y="is"):vL x y=cY x:=by
 rcases Ur h with⟨m,rfl⟩ | ⟨l,m,rfl⟩ <;> cases x <;> first | rfl | exact hy.elim
theorem Qz {x:Dd} {y:An} (h:Bq y≠"is"):vL x y=[]:=by cases x <;> cases y <;> first | rfl | exact absurd rfl h
def yW:Sp:=fun vs H Q _=>∃(t:Addr) (x:Dd),vs=[.ref t]/\H t=some (.tup x.vs)/\∀(tp:Addr) (zs:List Z) (H':Hp),Same H H'->H' tp=some (.tup (dO zs))->ZAt H' zs->zs.map (·.2)=cY x->Q (.ref tp) H'
theorem mM (T:Txt K mg) (D:DefAt K mg "done_changes" cD ["deed"]):aH P w K mg base 1 "done_changes" ["deed"] yW:=by
 refine D.go iC (fun vs H Q E h=>?_) (fun f cdv A outer s H vs Q E hr h=>?_)
 ·obtain⟨t,x,rfl,_⟩:=h;rfl
 ·obtain⟨p,x,rfl,hp,q⟩:=h
  refine⟨_,(R.ae (R.aq (R.al R.eq (R.ix (R.ah (K:=K)) (R.v 0) R.ad) R.ak) (R.af (R.aj (R.ap R.ac))) R.ar) (R.ae (R.aq (R.al R.eq (R.ix (R.ah (K:=K)) (R.v 0) R.ad) R.ak) (R.af (R.aj (R.ap (R.aa (R.ap (R.aa (R.ix (R.ah (K:=K)) (R.v 0) R.ad) (R.aa (R.az (R.ix (R.ah (K:=K)) (R.v 0) (R.az R.ad))) R.ac))) (R.aa (R.ap (R.aa (R.ix (R.ah (K:=K)) (R.v 0) R.ad) (R.aa (R.ix (R.ah (K:=K)) (R.v 0) (R.az R.ad)) R.ac))) R.ac))))) R.ar) (R.ae (R.aq (R.al (R.eo (K:=K)) (R.ix (R.ah (K:=K)) (R.v 0) R.ad) (R.ap (R.aa R.ak (R.aa R.ak R.ac)))) (R.af (R.aj (R.ap (R.aa (R.ap (R.aa (R.ix (R.ah (K:=K)) (R.v 0) (R.az R.ad)) (R.aa (R.az (R.ix (R.ah (K:=K)) (R.v 0) (R.az R.ad))) R.ac))) R.ac)))) R.ar) (R.af (R.aj (R.ap (R.aa (R.ap (R.aa (R.ix (R.ah (K:=K)) (R.v 0) (R.az R.ad)) (R.aa (R.ix (R.ah (K:=K)) (R.v 0) (R.az R.ad)) R.ac))) R.ac))))))),?_⟩
  have z1:∀ {H':Hp} {a:Addr} {x:Str} {i:Int},H' a=some (.tup [.str x,.int i])->ZAt H' [(a,x,i)]:=fun h z hz=>by
   rw[Zms.mp hz];exact h
  cases x with
  | add a n=>
   refine⟨_,SqT.of hp,_,rfl,_,SqT.of hp,_,rfl,_,SqT.of hp,_,rfl,aX rfl,fun p1 H1 s1 g1=>⟨p1,_,rfl,.inr (SqT.of g1),rfl,rfl,?_⟩⟩
   exact⟨_,SqT.of (s1 _ _ hp),_,rfl,_,SqT.of (s1 _ _ hp),_,rfl,aX rfl,fun p2 H2 s2 g2=>⟨aX rfl,fun p3 H3 s3 g3=>q p3 [(p2,a,(n:Int))] H3 ((s1.trans s2).trans s3) g3 (z1 (s3 _ _ g2)) rfl⟩⟩
  | take a n=>
   refine⟨_,SqT.of hp,_,rfl,_,SqT.of hp,_,rfl,_,SqT.of hp,_,rfl,aX rfl,fun p1 H1 s1 g1=>⟨p1,_,rfl,.inr (SqT.of g1),rfl,rfl,?_⟩⟩
   exact⟨_,SqT.of (s1 _ _ hp),_,rfl,_,SqT.of (s1 _ _ hp),_,rfl,aX rfl,fun p2 H2 s2 g2=>⟨aX rfl,fun p3 H3 s3 g3=>q p3 [(p2,a,-(n:Int))] H3 ((s1.trans s2).trans s3) g3 (z1 (s3 _ _ g2)) rfl⟩⟩
  | send h a n=>
   refine⟨_,SqT.of hp,_,rfl,_,SqT.of hp,_,rfl,_,SqT.of hp,_,rfl,aX rfl,fun p1 H1 s1 g1=>⟨p1,_,rfl,.inr (SqT.of g1),rfl,rfl,?_⟩⟩
   exact⟨_,SqT.of (s1 _ _ hp),_,rfl,_,SqT.of (s1 _ _ hp),_,rfl,aX rfl,fun p2 H2 s2 g2=>⟨aX rfl,fun p3 H3 s3 g3=>q p3 [(p2,a,-(n:Int))] H3 ((s1.trans s2).trans s3) g3 (z1 (s3 _ _ g2)) rfl⟩⟩
  | fetch h a n=>
   refine⟨_,SqT.of hp,_,rfl,_,SqT.of hp,_,rfl,_,SqT.of hp,_,rfl,aX rfl,fun p1 H1 s1 g1=>⟨p1,_,rfl,.inr (SqT.of g1),rfl,rfl,?_⟩⟩
   exact⟨_,SqT.of (s1 _ _ hp),_,rfl,_,SqT.of (s1 _ _ hp),_,rfl,aX rfl,fun p2 H2 s2 g2=>⟨aX rfl,fun p3 H3 s3 g3=>q p3 [(p2,a,(n:Int))] H3 ((s1.trans s2).trans s3) g3 (z1 (s3 _ _ g2)) rfl⟩⟩
  | move a b n=>
   refine⟨_,SqT.of hp,_,rfl,_,SqT.of hp,_,rfl,_,SqT.of hp,_,rfl,_,SqT.of hp,_,rfl,aX rfl,fun p2 H2 s2 g2=>⟨_,SqT.of (s2 _ _ hp),_,rfl,_,SqT.of (s2 _ _ hp),_,rfl,aX rfl,fun p3 H3 s3 g3=>⟨aX rfl,fun p4 H4 s4 g4=>?_⟩⟩⟩
   refine q p4 [(p2,a,-(n:Int)),(p3,b,(n:Int))] H4 ((s2.trans s3).trans s4) g4 (fun z hz=>?_) rfl
   rcases List.mem_cons.mp hz with rfl | hz
   ·exact s4 _ _ (s3 _ _ g2)
   ·rw[Zms.mp hz];exact s4 _ _ g3
  | pass h g a n=>
   refine⟨_,SqT.of hp,_,rfl,?_⟩
   exact⟨aX rfl,fun p1 H1 s1 g1=>q p1 [] H1 s1 g1 (fun _ h=>nomatch h) rfl⟩
def Ha:Sp:=fun vs H Q _=>∃(t c:Addr) (x:Dd) (y:An),vs=[.ref t,.ref c]/\H t=some (.tup x.vs)/\H c=some (.tup y.vs)/\An.Of x y/\∀(tp:Addr) (zs:List Z) (H':Hp),Same H H'->H' tp=some (.tup (dO zs))->ZAt H' zs->zs.map (·.2)=vL x y->Q (.ref tp) H'
theorem pI (T:Txt K mg) (c_done_changes:aH P w K mg base 1 "done_changes" ["deed"] yW) (D:DefAt K mg "changes_of" eW ["deed","answer"]):aH P w K mg base 2 "changes_of" ["deed","answer"] Ha:=by
 refine D.go pB (fun vs H Q E h=>?_) (fun f cdv A outer s H vs Q E hr h=>?_)
 ·obtain⟨t,c,x,y,rfl,_⟩:=h;rfl
 ·obtain⟨t,c,x,y,rfl,gt,gc,hy,q⟩:=h
  have hr_done_changes:=hr
  refine⟨_,(R.ae (R.aq (R.al R.ne (R.ix (R.ah (K:=K)) (R.v 1) R.ad) R.ak) (R.af (R.aj (R.ap R.ac))) R.ar) (R.af (R.aj (R.fn c_done_changes hr_done_changes rfl (R.aa (R.v 0) R.ac))))),?_⟩
  refine⟨_,SqT.of gc,_,Uq y,?_⟩
  show if (!decide (Bq y="is"))=true then _ else _
  by_cases hw:Bq y="is"
  ·refine tR (by rw[decide_eq_true hw];rfl) ?_
   exact⟨t,x,rfl,gt,fun tp zs H' s' g z e=>q tp zs H' s' g z (by rw[e,Gz hy hw])⟩
  ·refine Qd (by rw[decide_eq_false hw];rfl) ?_
   exact⟨aX rfl,fun p1 H1 s1 g1=>q p1 [] H1 s1 g1 (fun _ h=>nomatch h) (by rw[Qz hw];rfl)⟩
theorem Hb {C:Addr} (T:Txt K mg) (B:Mn K C) (D:ClsAt K mg "Book" C "Book.__init__" bL ["self","rows"] [[],[.non]]):∀d∈([[],[.non]]:List (List V)),vJ P w K mg base 1 "Book" C ["self","rows"] d (sM C):=by
 refine D.go lI (fun vs H Q E h=>?_) (fun f cdv A outer s H vs Q E hr h=>?_)
 ·obtain⟨p,dx,r,prs,rfl,_⟩:=h;rfl
 ·obtain⟨p,dx,r,prs,rfl,hp,hR,nd,hz,q⟩:=h
  refine⟨_,(R.ae (R.ax (K:=K) (R.v 0) R.er) (R.af (R.aq (R.al R.et (R.v 1) R.bu) (R.af (R.ax (K:=K) (R.v 0) (R.cw (R.dy (K:=K) rfl) rfl T.b_dict yG (R.aa (R.v 1) R.ac)))) R.ar))),?_⟩
  intro d1 hd1;have np:=aE hp hd1
  refine⟨C,dx,[],(by rw[aD np];exact hp),B.cl,B.nA,(by show 0<1000;decide),?_⟩
  have g1:(aI (aI H d1 (.dK [])) p (.ins C dx [("amounts",.ref d1)])) p=some (.ins C dx [("amounts",.ref d1)]):=aB
  have g2:(aI (aI H d1 (.dK [])) p (.ins C dx [("amounts",.ref d1)])) d1=some (.dK []):=by rw[aD np.symm];exact aB
  have k1:∀b o,H b=some o->b≠p->(aI (aI H d1 (.dK [])) p (.ins C dx [("amounts",.ref d1)])) b=some o:=fun b o e hb=>by rw[aD hb,aD (aE e hd1)];exact e
  dsimp only;rw[Wl];generalize aI (aI H d1 (.dK [])) p (.ins C dx [("amounts",.ref d1)])=H1 at g1 g2 k1;rcases hR with⟨rfl,rfl⟩ | ⟨l,zs,rfl,hl,hza,rfl⟩
  ·exact q H1 d1 hd1 g1 g2 k1
  ·have nl:l≠p:=aM hl hp (fun z=>nomatch z)
   have hza1:ZAt H1 zs:=fun z hz=>k1 _ _ (hza z hz) (aM (hza z hz) hp (fun z=>nomatch z))
   refine⟨wz zs,by rw[Qq];exact SqL.of (k1 _ _ hl nl),Uj hza1,by unfold wz;rw[dN];simpa using hz,fun d hd=>?_⟩
   have hd0:H d=none:=by
    cases e:H d with
    | none=>rfl
    | some o=>
     by_cases z:d=p
     ·rw[z,g1]at hd;cases hd
     ·rw[k1 d o e z]at hd;cases hd
   rw[Qr,Ax nd];refine⟨C,dx,_,(by rw[aD (aE g1 hd)];exact g1),B.cl,B.nA,(by show 1<1000;decide),?_⟩
   refine q _ d hd0 (by rw[aB,Wm]) (by rw[aD (aE g1 hd).symm];exact aB) fun b o e hb=>?_
   rw[aD hb,aD (aE (k1 b o e hb) hd)];exact k1 b o e hb
def kP (prs:List (Str × Int)) (n:Str) (v:Int):List (Str × Int):=if n∈prs.map (·.1) then Fu prs n v else prs++[(n,v)]
def iG:List (Str × Int)->List (Str × Int)->List (Str × Int)
 | prs,[]=>prs
 | prs,q::r=>iG (kP prs q.1 (bZ prs q.1+q.2)) r
theorem qL:∀(cs prs:List (Str × Int)) (q:Str × Int),iG prs (cs++[q])=kP (iG prs cs) q.1 (bZ (iG prs cs) q.1+q.2)
 | [],_,_=>rfl
 | p::r,prs,q=>qL r _ q
theorem uS {prs:List (Str × Int)} {n:Str} {v:Int}:bA (lE prs) (Sum.inr n) (.int v)=lE (kP prs n v):=by
 unfold kP;by_cases h:n∈prs.map (·.1)
 ·rw[if_pos h];exact Kq h
 ·rw[if_neg h];have hv:aY (lE prs) (Sum.inr n)=none:=by
   cases e:aY (lE prs) (Sum.inr n) with
   | none=>rfl
   | some x=>
    have:=xY e
    rw[oJ]at this;obtain⟨m,hm,e2⟩:=Zmm.mp this
    cases e2
    exact absurd hm h
  rw[fZ _ hv];unfold lE;rw[jV];rfl
theorem lO {prs:List (Str × Int)} {n:Str} {v:Int}:(kP prs n v).map (·.1)=if n∈prs.map (·.1) then prs.map (·.1) else prs.map (·.1)++[n]:=by
 unfold kP;by_cases h:n∈prs.map (·.1)
 ·rw[if_pos h,if_pos h];exact Ba _ _ _
 ·rw[if_neg h,if_neg h,jV];rfl
theorem Li {prs:List (Str × Int)} {n:Str} {v:Int} (h:(prs.map (·.1)).Nodup):((kP prs n v).map (·.1)).Nodup:=by
 rw[lO];split
 ·exact h
 ·rename_i hn;exact rH h hn
theorem sV:∀(cs prs:List (Str × Int)),(prs.map (·.1)).Nodup->((iG prs cs).map (·.1)).Nodup
 | [],_,h=>h
 | _::r,_,h=>sV r _ (Li h)
def Hc (prs:List (Str × Int)) (q:Str × Int):Prop:=0<=bZ prs q.1+q.2/\bZ prs q.1+q.2<=1000000000000
theorem yX {H:Hp} {zs:List Z} {i:Nat} {x:V} (hz:ZAt H zs) (hx:(dO zs)[i]?=some x):∃z,zs[i]?=some z/\x=.ref z.1/\H z.1=some (.tup [.str z.2.1,.int z.2.2]):=by
 unfold dO at hx;rw[iU]at hx;obtain⟨z,hn,rfl⟩:=Option.map_eq_some_iff.mp hx
 exact⟨z,hn,rfl,hz z (jW hn)⟩
theorem uT:∀(cs prs:List (Str × Int)),(iG prs cs).length<=prs.length+cs.length
 | [],prs=>cB _
 | q::r,prs=>by
  have h:=uT r (kP prs q.1 (bZ prs q.1+q.2))
  have h2:(kP prs q.1 (bZ prs q.1+q.2)).length<=prs.length+1:=by
   have:=congrArg List.length (lO (prs:=prs) (n:=q.1) (v:=bZ prs q.1+q.2))
   rw[dN]at this;rw[this];split <;> simp
  show(iG (kP prs q.1 (bZ prs q.1+q.2)) r).length<=_
  rw[Cf];omega
def lP (C:Addr):Sp:=fun vs H Q E=>∃(p dx d t:Addr) (prs:List (Str × Int)) (zs:List Z),vs=[.ref p,.ref t]/\H p=some (.ins C dx [("amounts",.ref d)])/\H d=some (.dK (lE prs))/\(prs.map (·.1)).Nodup/\H t=some (.tup (dO zs))/\ZAt H zs/\prs.length+zs.length<=100 ∧
 (∀q∈zs.map (·.2),Hc prs q)/\∀H',H' d=some (.dK (lE (iG prs (zs.map (·.2)))))->(∀b o,H b=some o->b≠d->H' b=some o)->Q .non H'
theorem xC {C:Addr} (T:Txt K mg) (B:Mn K C) (c_Book_amount:cZ P w K mg base 1 C "amount" ["self","name"] (gO C)) (D:MethAt K C "change" "Book.change" dY ["self","changes"]):cZ P w K mg base 2 C "change" ["self","changes"] (lP C):=by
 refine D.go cE (fun vs H Q E h=>?_) (fun f cdv A outer s H vs Q E hr h=>?_)
 ·obtain⟨p,dx,d,t,prs,zs,rfl,_⟩:=h;rfl
 ·obtain⟨p,dx,d,t,prs,zs,rfl,hp,hd,nd,ht,hz,hl,hg,Q0⟩:=h
  have hr_Book_amount:=hr
  have hu1:=dP hr
  have hlz:(dO zs).length=zs.length:=by unfold dO;rw[dN]
  refine⟨_,(R.ae (R.bv PassesOwn.never rfl (R.cv (K:=K) (R.v 1)) (R.ca (K:=K) (n:=2) rfl (R.ay (R.gn (i:=2) cE.nd) (R.ay (R.gn (i:=3) cE.nd) R.cb))) (R.af (R.aq (R.bh (R.ft R.le R.le R.ad (R.op R.aw (R.be c_Book_amount hr_Book_amount (R.v 0) (R.aa (R.v 2) R.ac)) (R.v 3)) (R.gI rfl T.g_MOST))) (R.af R.bc) R.ar))) (R.af (R.bv PassesOwn.never rfl (R.cv (K:=K) (R.v 1)) (R.ca (K:=K) (n:=2) rfl (R.ay (R.gn (i:=2) cE.nd) (R.ay (R.gn (i:=3) cE.nd) R.cb))) (R.af (R.bz (R.op R.aw (R.be c_Book_amount hr_Book_amount (R.v 0) (R.aa (R.v 2) R.ac)) (R.v 3)) (R.cj (R.av (K:=K) (R.v 0)) (R.v 2) (R.ce hu1))))))),?_⟩
  refine lW (fun σ' H'=>H'=H/\∃o2 o3,σ'=[some (.ref p),some (.ref t),o2,o3]) (fun nx hnx=>?_) ?_
  ·refine⟨t,rfl,⟨_,SqT.of ht⟩,gN (iX K t (dO zs)) (fun i σ H'=>H'=H/\∃o2 o3,σ=[some (.ref p),some (.ref t),o2,o3]) (fun i σ H' ⟨e,_⟩=>by rw[e];exact SqT.of ht) ⟨rfl,_,_,rfl⟩ ?_ (fun σ H' h=>hnx σ H' h)⟩
   rintro i x σ H' hx ⟨rfl,o2,o3,rfl⟩
   obtain⟨z,hn,rfl,gz⟩:=yX hz hx
   have hgz:=hg z.2 (List.mem_map_of_mem (jW hn))
   refine⟨z.1,_,rfl,SqT.of gz,rfl,_,_,rfl,_,_,rfl,rfl,dx,_,hp,rV _ Zk,p,z.2.1,prs,rfl,⟨⟨dx,d,hp,hd⟩,nd⟩,?_⟩
   refine Qd (decide_eq_true hgz.1) ?_
   show if (!decide (bZ prs z.2.1+z.2.2<=1000000000000))=true then _ else _
   refine tR (by rw[decide_eq_true hgz.2];rfl) ?_
   exact⟨rfl,_,_,rfl⟩
  ·rintro σ H' ⟨rfl,o2,o3,rfl⟩
   have ntd:t≠d:=aM ht hd (fun z=>nomatch z)
   refine⟨t,rfl,⟨_,SqT.of ht⟩,gN (iX K t (dO zs)) (fun i σ H''=>H'' d=some (.dK (lE (iG prs ((zs.map (·.2)).take i))))/\(∀b o,H' b=some o->b≠d->H'' b=some o)/\∃o2 o3,σ=[some (.ref p),some (.ref t),o2,o3]) (fun i σ H'' ⟨_,k,_⟩=>SqT.of (k _ _ ht ntd)) ⟨hd,fun b o e _=>e,_,_,rfl⟩ ?_ ?_⟩
   ·rintro i x σ H'' hx ⟨g,k,o2,o3,rfl⟩
    obtain⟨z,hn,rfl,gz⟩:=yX (fun z m=>k _ _ (hz z m) (aM (hz z m) hd (fun z=>nomatch z))) hx
    have hni:(zs.map (·.2))[i]?=some z.2:=by rw[iU,hn];rfl
    have hp':=k _ _ hp (aM hp hd (fun z=>nomatch z))
    have nd':=sV ((zs.map (·.2)).take i) prs nd
    have hle:=uT ((zs.map (·.2)).take i) prs
    have hle2:((zs.map (·.2)).take i).length<=zs.length:=by rw[qR,dN];exact Nat.min_le_right _ _
    refine⟨z.1,_,rfl,SqT.of gz,rfl,_,_,rfl,_,_,rfl,rfl,dx,_,hp',rV _ Zk,p,z.2.1,iG prs ((zs.map (·.2)).take i),rfl,⟨⟨dx,d,hp',g⟩,nd'⟩,?_⟩
    refine⟨C,dx,_,.ref d,hp',B.cl,B.nA,eI _,d,_,rfl,DPut.k (k:=Sum.inr z.2.1) g ?_,?_,fun b o e hb=>?_,_,_,rfl⟩
    ·unfold lE;rw[dN];exact zP (m:=1000) Zo Zd
    ·rw[aB,uS,gE hni,qL]
    ·rw[aD hb];exact k b o e hb
   ·rintro σ H'' ⟨g,k,o2,o3,rfl⟩
    refine Q0 _ ?_ k
    rw[g,hlz,Ib (by rw[dN];exact cB _)]
theorem Hd (prs:List (Str × Int)) (n m:Str) (v:Int):bZ (kP prs n v) m=if m=n then v else bZ prs m:=by
 have h1:=rT (kP prs n v) m
 rw[<- uS,eF]at h1;by_cases e:m=n
 ·rw[if_pos (by rw[e])]at h1
  rw[if_pos e];injection h1 with h1
  exact h1.symm
 ·rw[if_neg (fun c=>e (by injection c)),rT]at h1
  rw[if_neg e];injection h1 with h1
  exact h1.symm
theorem uU:∀(cs:List (Str × Int)) (prs:List (Str × Int)) (g:Str->Nat),Gy g cs->(∀z,bZ prs z=(g z:Int))->∀z,bZ (iG prs cs) z=(Gx g cs z:Int)
 | [],prs,g,_,h=>h
 | c::cs,prs,g,hG,h=>by
  refine uU cs (kP prs c.1 (bZ prs c.1+c.2)) (dU g c) hG.2 (fun z=>?_)
  rw[Hd,h];unfold dU fP;by_cases e:z=c.1
  ·rw[if_pos e,if_pos e,Int.toNat_of_nonneg hG.1]
  ·rw[if_neg e,if_neg e];exact h z
theorem He {f:Str->Nat} (hf:∀z,f z<=1000000000000) {x:Dd} {q:Bool} {y:An} (hx:x.Ok) (h:jU f x q y):∀c∈vL x y,0<=(f c.1:Int)+c.2/\(f c.1:Int)+c.2<=1000000000000:=by
 have hn:=hx.n
 rcases h with⟨rfl,h⟩ | ⟨rfl,h1,h2⟩
 ·cases x with
  | add a n=>
   have:=hf a
   simp only [aR]at h
   split at h <;> cases h
   ·exact fun c hc=>nomatch hc
   ·intro c hc;rw[Zms.mp hc];exact⟨by show(0:Int)<=(f a:Int)+(n:Int);omega,by show(f a:Int)+(n:Int)<=_;omega⟩
  | take a n=>
   have:=hf a
   simp only [aR]at h
   split at h <;> cases h
   ·exact fun c hc=>nomatch hc
   ·intro c hc;rw[Zms.mp hc];exact⟨by show(0:Int)<=(f a:Int)+-(n:Int);omega,by show(f a:Int)+-(n:Int)<=_;omega⟩
  | move a b n=>
   have:=hf a
   have:=hf b
   simp only [aR]at h
   split at h
   ·cases h;exact fun c hc=>nomatch hc
   ·split at h <;> cases h
    ·exact fun c hc=>nomatch hc
    ·intro c hc;rcases List.mem_cons.mp hc with rfl | hc
     ·exact⟨by show(0:Int)<=(f a:Int)+-(n:Int);omega,by show(f a:Int)+-(n:Int)<=_;omega⟩
     ·rw[Zms.mp hc];exact⟨by show(0:Int)<=(f b:Int)+(n:Int);omega,by show(f b:Int)+(n:Int)<=_;omega⟩
  | send g a n=>
   simp only [aR]at h
   split at h <;> cases h
   exact fun c hc=>nomatch hc
  | fetch g a n=>
   simp only [aR]at h
   split at h <;> cases h
   exact fun c hc=>nomatch hc
  | pass g k a n=>cases h
 ·cases x with
  | add a n=>cases h2
  | take a n=>cases h2
  | move a b n=>cases h2
  | send g a n=>
   have:=hf a
   simp only [aR]at h1
   simp only [dS,List.mem_cons,List.not_mem_nil,or_false]at h2
   have hh:¬ f a<n:=fun hh=>by rw[if_pos hh]at h1;cases h1
   rcases h2 with rfl | rfl
   ·exact fun c hc=>nomatch hc
   ·intro c hc;rw[Zms.mp hc];exact⟨by show(0:Int)<=(f a:Int)+-(n:Int);omega,by show(f a:Int)+-(n:Int)<=_;omega⟩
  | fetch g a n=>
   have:=hf a
   simp only [aR]at h1
   simp only [dS,List.mem_cons,List.not_mem_nil,or_false]at h2
   have hh:¬ 1000000000000<f a+n:=fun hh=>by rw[if_pos hh]at h1;cases h1
   rcases h2 with rfl | rfl
   ·exact fun c hc=>nomatch hc
   ·intro c hc;rw[Zms.mp hc];exact⟨by show(0:Int)<=(f a:Int)+(n:Int);omega,by show(f a:Int)+(n:Int)<=_;omega⟩
  | pass g k a n=>
   simp only [dS,List.mem_cons,List.not_mem_nil,or_false]at h2
   rcases h2 with rfl | rfl | rfl <;> exact fun c hc=>nomatch hc
def uV:Dd->List (Str × List V)
 | .send h a n=>[(h,[.str "add",.str a,.int (n:Int)])]
 | .fetch h a n=>[(h,[.str "take",.str a,.int (n:Int)])]
 | .pass h g a n=>[(h,[.str "take",.str a,.int (n:Int)]),(g,[.str "add",.str a,.int (n:Int)])]
 | _=>[]
theorem xD (T:Txt K mg) (D:DefAt K mg "done_changes" cD ["deed"]):aH P w K mg base 1 "done_changes" ["deed"] lF:=by
 refine D.go iC (fun vs H Q E h=>?_) (fun f cdv A outer s H vs Q E hr h=>?_)
 ·obtain⟨p,wd,xs,cs,as,rfl,_⟩:=h;rfl
 ·obtain⟨p,wd,xs,cs,as,rfl,hp,⟨one,other,nm,n,hd⟩,q⟩:=h
  refine⟨_,(R.ae (R.aq (R.al R.eq (R.ix (R.ah (K:=K)) (R.v 0) R.ad) R.ak) (R.af (R.aj (R.ap R.ac))) R.ar) (R.ae (R.aq (R.al R.eq (R.ix (R.ah (K:=K)) (R.v 0) R.ad) R.ak) (R.af (R.aj (R.ap (R.aa (R.ap (R.aa (R.ix (R.ah (K:=K)) (R.v 0) R.ad) (R.aa (R.az (R.ix (R.ah (K:=K)) (R.v 0) (R.az R.ad))) R.ac))) (R.aa (R.ap (R.aa (R.ix (R.ah (K:=K)) (R.v 0) R.ad) (R.aa (R.ix (R.ah (K:=K)) (R.v 0) (R.az R.ad)) R.ac))) R.ac))))) R.ar) (R.ae (R.aq (R.al (R.eo (K:=K)) (R.ix (R.ah (K:=K)) (R.v 0) R.ad) (R.ap (R.aa R.ak (R.aa R.ak R.ac)))) (R.af (R.aj (R.ap (R.aa (R.ap (R.aa (R.ix (R.ah (K:=K)) (R.v 0) (R.az R.ad)) (R.aa (R.az (R.ix (R.ah (K:=K)) (R.v 0) (R.az R.ad))) R.ac))) R.ac)))) R.ar) (R.af (R.aj (R.ap (R.aa (R.ap (R.aa (R.ix (R.ah (K:=K)) (R.v 0) (R.az R.ad)) (R.aa (R.ix (R.ah (K:=K)) (R.v 0) (R.az R.ad)) R.ac))) R.ac))))))),?_⟩
  have z1:∀ {H':Hp} {a:Addr} {x:Str} {i:Int},H' a=some (.tup [.str x,.int i])->ZAt H' [(a,x,i)]:=fun h z hz=>by
   rw[Zms.mp hz];exact h
  have two:∀(nm:Str) (i:Int),H p=some (.tup xs)->kA xs (-2)=some (.str nm)->kA xs (-1)=some (.int i)->True:=fun _ _ _ _ _=>trivial
  cases hd with
  | add=>
   refine⟨_,SqT.of hp,_,rfl,?_⟩
   refine⟨_,SqT.of hp,_,rfl,?_⟩
   refine⟨_,SqT.of hp,_,rfl,Zs,fun p1 H1 s1 g1=>⟨p1,_,rfl,.inr (SqT.of g1),rfl,rfl,?_⟩⟩
   refine⟨_,SqT.of (s1 _ _ hp),_,rfl,_,SqT.of (s1 _ _ hp),_,rfl,Zs,fun p2 H2 s2 g2=>⟨Zs,fun p3 H3 s3 g3=>q p3 [(p2,nm,n)] H3 ((s1.trans s2).trans s3) g3 (z1 (s3 _ _ g2)) rfl⟩⟩
  | take=>
   refine⟨_,SqT.of hp,_,rfl,?_⟩
   refine⟨_,SqT.of hp,_,rfl,?_⟩
   refine⟨_,SqT.of hp,_,rfl,Zs,fun p1 H1 s1 g1=>⟨p1,_,rfl,.inr (SqT.of g1),rfl,rfl,?_⟩⟩
   refine⟨_,SqT.of (s1 _ _ hp),_,rfl,_,SqT.of (s1 _ _ hp),_,rfl,Zs,fun p2 H2 s2 g2=>⟨Zs,fun p3 H3 s3 g3=>q p3 [(p2,nm,-n)] H3 ((s1.trans s2).trans s3) g3 (z1 (s3 _ _ g2)) rfl⟩⟩
  | move=>
   refine⟨_,SqT.of hp,_,rfl,?_⟩
   refine⟨_,SqT.of hp,_,rfl,?_⟩
   refine⟨_,SqT.of hp,_,rfl,_,SqT.of hp,_,rfl,Zs,fun p2 H2 s2 g2=>⟨_,SqT.of (s2 _ _ hp),_,rfl,_,SqT.of (s2 _ _ hp),_,rfl,Zs,fun p3 H3 s3 g3=>⟨Zs,fun p4 H4 s4 g4=>?_⟩⟩⟩
   refine q p4 [(p2,one,-n),(p3,other,n)] H4 ((s2.trans s3).trans s4) g4 (fun z hz=>?_) rfl
   rcases List.mem_cons.mp hz with rfl | hz
   ·exact s4 _ _ (s3 _ _ g2)
   ·rw[Zms.mp hz];exact s4 _ _ g3
  | send=>
   refine⟨_,SqT.of hp,_,rfl,?_⟩
   refine⟨_,SqT.of hp,_,rfl,?_⟩
   refine⟨_,SqT.of hp,_,rfl,Zs,fun p1 H1 s1 g1=>⟨p1,_,rfl,.inr (SqT.of g1),rfl,rfl,?_⟩⟩
   refine⟨_,SqT.of (s1 _ _ hp),_,rfl,_,SqT.of (s1 _ _ hp),_,rfl,Zs,fun p2 H2 s2 g2=>⟨Zs,fun p3 H3 s3 g3=>q p3 [(p2,nm,-n)] H3 ((s1.trans s2).trans s3) g3 (z1 (s3 _ _ g2)) rfl⟩⟩
  | fetch=>
   refine⟨_,SqT.of hp,_,rfl,?_⟩
   refine⟨_,SqT.of hp,_,rfl,?_⟩
   refine⟨_,SqT.of hp,_,rfl,Zs,fun p1 H1 s1 g1=>⟨p1,_,rfl,.inr (SqT.of g1),rfl,rfl,?_⟩⟩
   refine⟨_,SqT.of (s1 _ _ hp),_,rfl,_,SqT.of (s1 _ _ hp),_,rfl,Zs,fun p2 H2 s2 g2=>⟨Zs,fun p3 H3 s3 g3=>q p3 [(p2,nm,n)] H3 ((s1.trans s2).trans s3) g3 (z1 (s3 _ _ g2)) rfl⟩⟩
  | pass=>
   refine⟨_,SqT.of hp,_,rfl,?_⟩
   exact⟨Zd,fun p1 H1 s1 g1=>q p1 [] H1 s1 g1 (fun _ h=>nomatch h) rfl⟩
theorem uW {H:Hp} {zs:List Z} (h:ZAt H zs) {i:Nat} {x:V} (hx:(dO zs)[i]?=some x):∃z,zs[i]?=some z/\x=.ref z.1/\H z.1=some (.tup [.str z.2.1,.int z.2.2]):=by
 unfold dO at hx;rw[iU]at hx;cases hn:zs[i]? with
 | none=>rw[hn]at hx;cases hx
 | some z=>
  rw[hn]at hx;cases hx
  exact⟨z,rfl,rfl,h z (jW hn)⟩
theorem oS {C:Addr} (T:Txt K mg) (B:Mn K C) (c_done_changes:aH P w K mg base 1 "done_changes" ["deed"] lF) (c_Book_amount:cZ P w K mg base 1 C "amount" ["self","name"] (gO C))
  (D:DefAt K mg "done_answer" cM ["book","deed"]):aH P w K mg base 2 "done_answer" ["book","deed"] (qG C):=by
 refine D.go oO (fun vs H Q E h=>?_) (fun f cdv A outer s H vs Q E hr h=>?_)
 ·obtain⟨b,p,wd,xs,cs,as,prs,rfl,_⟩:=h;rfl
 ·obtain⟨b,p,wd,xs,cs,as,prs,rfl,bk,hp,hd,q⟩:=h
  have hr_done_changes:=hr
  have hr_Book_amount:=hr
  refine⟨_,(R.af (R.aj (R.cw (R.ik (K:=K)) rfl T.b_tuple tQ (R.aa (R.op R.cm (R.bf (R.aa R.ak R.ac)) (R.bi rfl (js:=[none,none,some 0]) (N:=["name","by","book"]) (CompScope.by (aA cM) ["book","deed"] rfl rfl Zk) (Eb (oA rfl (oA rfl Ap))) (R.cv (K:=K) (R.fn c_done_changes hr_done_changes rfl (R.aa (R.v 1) R.ac))) (fun C s₂ H₂ fp=>⟨(R.ca (K:=K) (n:=2) rfl (R.ay (R.gn (i:=0) (show(["name","by","book"]:List Str).Nodup by decide +kernel)) (R.ay (R.gn (i:=1) (show(["name","by","book"]:List Str).Nodup by decide +kernel)) R.cb))),R.bt,(R.op R.aw (R.be c_Book_amount hr_Book_amount (R.v 2) (R.aa (R.v 0) R.ac)) (R.v 1))⟩))) R.ac)))),?_⟩
  refine⟨mF rfl,fun l0 h0=>⟨p,wd,xs,cs,as,rfl,aF h0 _ _ hp,hd,fun t zs H1 s1 g1 hz hm=>⟨t,rfl,⟨_,SqT.of g1⟩,?_⟩⟩⟩
  have s01:Same H H1:=(aF h0).trans s1
  have bk1:=bk.same s01
  have hlen:zs.length<=2:=by
   obtain⟨one,other,nm,n,hd⟩:=hd
   have:=congrArg List.length hm
   rw[dN]at this;rw[this];cases hd <;> simp
  refine bR (iX K t (dO zs)) (by unfold dO;rw[dN];omega) (fun i ys H'=>H'=H1/\ys=((zs.map (·.2)).take i).map fun q=>V.int (bZ prs q.1+q.2)) (fun i ys H' ⟨e,e2⟩=>⟨by rw[e];exact SqT.of g1,by rw[e2,dN,qR];exact Nat.min_le_left _ _⟩) ⟨rfl,rfl⟩ (fun i x ys H' hx ⟨e,e2⟩=>?_) (fun ys H' ⟨e,e2⟩=>?_)
  ·subst e;obtain⟨z,hn,rfl,gz⟩:=uW hz hx
   obtain⟨dx,d,h1,h2⟩:=id bk1.ex
   refine⟨z.1,_,rfl,SqT.of gz,rfl,_,_,rfl,_,_,rfl,rfl,dx,_,h1,rV _ Zk,b,z.2.1,prs,rfl,bk1,rfl,?_⟩
   rw[gE (x:=z.2) (by rw[iU,hn];rfl),jV,e2]
   rfl
  ·subst e;intro l1 h1;have e3:ys=cs.map fun q=>V.int (bZ prs q.1+q.2):=by
    rw[e2,hm];have:(dO zs).length=cs.length:=by rw[<- hm];unfold dO;rw[dN,dN]
    rw[this,List.take_length]
   have gl0:H' l0=some (.lst [.str "is"]):=s1 _ _ aB
   refine⟨[.str "is"],ys,aF h1 _ _ gl0,aB,gA (by rw[e3,dN,<- hm,dN];simp;omega),fun l2 h2=>⟨_,SqL.of aB,fun t2 ht2=>?_⟩⟩
   refine q t2 _ (((s01.trans (aF h1)).trans (aF h2)).trans (aF ht2)) ?_
   rw[aB,e3];rfl
theorem Br {C:Addr} (T:Txt K mg) (B:Mn K C) (c_done_changes:aH P w K mg base 1 "done_changes" ["deed"] lF) (c_asks_of:aH P w K mg base 1 "asks_of" ["deed"] wP) (c_Book_amount:cZ P w K mg base 1 C "amount" ["self","name"] (gO C))
  (c_done_answer:aH P w K mg base 2 "done_answer" ["book","deed"] (qG C)) (D:DefAt K mg "early" mW ["book","deed"]):aH P w K mg base 3 "early" ["book","deed"] (yN C):=by
 refine D.go kN (fun vs H Q E h=>?_) (fun f cdv A outer s H vs Q E hr h=>?_)
 ·obtain⟨b,p,wd,xs,cs,as,prs,rfl,_⟩:=h;rfl
 ·obtain⟨b,p,wd,xs,cs,as,prs,rfl,bk,hp,hd,q⟩:=h
  have hr_done_changes:Room 1 _:=hr.mono Zd
  have hr_asks_of:Room 1 _:=hr.mono Zd
  have hr_Book_amount:Room 1 _:=hr.mono Zd
  have hr_done_answer:=hr
  refine⟨_,(R.ae (R.bv PassesOwn.never rfl (R.cv (K:=K) (R.fn c_done_changes hr_done_changes rfl (R.aa (R.v 1) R.ac))) (R.ca (K:=K) (n:=2) rfl (R.ay (R.gn (i:=2) kN.nd) (R.ay (R.gn (i:=3) kN.nd) R.cb))) (R.ae (R.au (i:=4) kN.nd (R.be c_Book_amount hr_Book_amount (R.v 0) (R.aa (R.v 2) R.ac))) (R.ae (R.aq (R.tw (R.cg (R.al R.lt (R.v 3) R.ad) (R.ci (R.al R.lt (R.op R.aw (R.v 4) (R.v 3)) R.ad)))) (R.af (R.aj (R.ap (R.aa R.ak (R.aa (R.v 4) R.ac))))) R.ar) (R.af (R.aq (R.tw (R.cg (R.al R.gt (R.v 3) R.ad) (R.ci (R.al R.gt (R.op R.aw (R.v 4) (R.v 3)) (R.gI rfl T.g_MOST))))) (R.af (R.aj (R.ap (R.aa R.ak (R.aa (R.v 4) R.ac))))) R.ar))))) (R.ae (R.aq (R.al R.gt (R.ba (R.bo (K:=K)) rfl T.b_len bY (R.aa (R.fn c_asks_of hr_asks_of rfl (R.aa (R.v 1) R.ac)) R.ac)) R.ad) (R.af (R.aj R.bu)) R.ar) (R.af (R.aj (R.fn c_done_answer hr_done_answer rfl (R.aa (R.v 0) (R.aa (R.v 1) R.ac))))))),?_⟩
  refine⟨p,wd,xs,cs,as,rfl,hp,hd,fun t zs H1 s1 g1 hz hm=>⟨t,rfl,⟨_,SqT.of g1⟩,?_⟩⟩
  have bk1:=bk.same s1
  have hp1:=s1 _ _ hp
  refine gN (iX K t (dO zs)) (fun i σ H'=>Same H1 H'/\(∃o2 o3 o4:Option V,σ=[some (.ref b),some (.ref p),o2,o3,o4])/\gP (bZ prs) (kK (bZ prs) cs as) cs=gP (bZ prs) (kK (bZ prs) cs as) (cs.drop i)) (fun i σ H' ⟨s',_⟩=>SqT.of (s' _ _ g1)) ⟨Same.refl _,⟨_,_,_,rfl⟩,rfl⟩ ?_ ?_
  ·rintro i x σ H2 hx ⟨s2,⟨o2,o3,o4,rfl⟩,he⟩
   obtain⟨z,hn,rfl,gz⟩:=uW (fun z m=>s2 _ _ (hz z m)) hx
   have bk2:=bk1.same s2
   obtain⟨dx,d,h1,h2⟩:=id bk2.ex
   have hcs:cs.drop i=z.2::cs.drop (i+1):=by
    have:cs[i]?=some z.2:=by rw[<- hm,iU,hn];rfl
    obtain⟨hi,e⟩:=Zgs.mp this
    rw[List.drop_eq_getElem_cons hi,e]
   rw[hcs,uG]at he;refine⟨z.1,_,rfl,SqT.of gz,rfl,_,_,rfl,_,_,rfl,rfl,dx,_,h1,rV _ Zk,b,z.2.1,prs,rfl,bk2,?_⟩
   dsimp only [aK];have fin:∀u:TV,gP (bZ prs) (kK (bZ prs) cs as) cs=u->∀v H',Same H2 H'->RepT H' 1 u v->Q v H':=fun u e v H' s' r=>q v H' ((s1.trans s2).trans s') (by rw[e];exact r)
   refine Ty (t:=Ie _ _) (fun v H'=>v=decide (z.2.2<0/\bZ prs z.2.1+z.2.2<0)/\H'=H2) (fun k hk=>?_) ?_
   ·refine dQ (fun h=>?_) (fun h=>?_)
    ·exact hk _ _ ⟨by rw[Bool.decide_and,h];rfl,rfl⟩
    ·exact hk _ _ ⟨by rw[Bool.decide_and,h];rfl,rfl⟩
   rintro v H' ⟨rfl,rfl⟩
   refine dQ (fun h=>?_) (fun h=>?_)
   ·rw[if_pos (of_decide_eq_true h)]at he;exact⟨Zs,fun t2 H3 s3 g3=>fin _ he _ H3 s3 ⟨t2,_,rfl,g3,.cons .s (.cons .i .nil)⟩⟩
   rw[if_neg (of_decide_eq_false h)]at he;dsimp only [cT];refine Ty (t:=Ie _ _) (fun v H''=>v=decide (0<z.2.2/\1000000000000<bZ prs z.2.1+z.2.2)/\H''=H') (fun k hk=>?_) ?_
   ·refine dQ (fun h=>?_) (fun h=>?_)
    ·exact hk _ _ ⟨by rw[Bool.decide_and,h];rfl,rfl⟩
    ·exact hk _ _ ⟨by rw[Bool.decide_and,h];rfl,rfl⟩
   rintro v H'' ⟨rfl,rfl⟩
   refine dQ (fun h=>?_) (fun h=>?_)
   ·rw[if_pos (of_decide_eq_true h)]at he;exact⟨Zs,fun t2 H3 s3 g3=>fin _ he _ H3 s3 ⟨t2,_,rfl,g3,.cons .s (.cons .i .nil)⟩⟩
   rw[if_neg (of_decide_eq_false h)]at he;exact⟨s2,⟨_,_,_,rfl⟩,he⟩
  ·rintro σ H2 ⟨s2,⟨o2,o3,o4,rfl⟩,he⟩
   have el:(dO zs).length=cs.length:=by rw[<- hm];unfold dO;rw[dN,dN]
   rw[el,List.drop_length]at he;have he':gP (bZ prs) (kK (bZ prs) cs as) cs=kK (bZ prs) cs as:=he
   refine⟨p,wd,xs,cs,as,rfl,s2 _ _ hp1,hd,fun t2 us H3 s3 g3 ha=>⟨us,.inr (SqT.of g3),?_⟩⟩
   have el2:us.length=as.length:=ha.length.symm
   refine dQ (fun h=>?_) (fun h=>?_)
   ·have h':0<us.length:=by have:=of_decide_eq_true h;omega
    refine q _ H3 ((s1.trans s2).trans s3) ?_
    rw[he'];unfold kK;rw[if_neg (fun e=>by rw[el2,e]at h';exact absurd h' (Nat.lt_irrefl _))]
    exact RepT.scal rfl
   ·have h':¬ 0<us.length:=by have:=of_decide_eq_false h;omega
    have e0:as=[]:=List.length_eq_zero_iff.mp Zo
    refine⟨b,p,wd,xs,cs,as,prs,rfl,bk1.same (s2.trans s3),s3 _ _ (s2 _ _ hp1),hd,fun t4 H4 s4 g4=>?_⟩
    refine q _ H4 (((s1.trans s2).trans s3).trans s4) ?_
    rw[he'];unfold kK;rw[if_pos e0];exact⟨t4,_,rfl,g4,yO (Qt _ _)⟩
theorem Hf (x:Dd):Ul x.wd x.vs (cY x) (uV x):=by
 cases x with
 | add a n=>exact⟨a,a,a,_,.add⟩
 | take a n=>exact⟨a,a,a,_,.take⟩
 | move a b n=>exact⟨a,b,a,_,.move⟩
 | send g a n=>exact⟨g,a,a,_,.send⟩
 | fetch g a n=>exact⟨g,a,a,_,.fetch⟩
 | pass g g' a n=>exact⟨g,g',a,_,.pass⟩
theorem xE {prs:List (Str × Int)} {f:Str->Nat} (am:∀z,bZ prs z=(f z:Int)) {x:Dd} (hx:x.Ok) :
  gP (bZ prs) (kK (bZ prs) (cY x) (uV x)) (cY x)=(match aR f x with | some y=>RX.tvs y.vs | none=>.sc .non):=by
 have hn:=hx.n
 cases x with
 | add a n=>
  have hn:1<=n/\n<=1000000000000:=hn
  show(if (n:Int)<0/\bZ prs a+(n:Int)<0 then _ else if 0<(n:Int)/\1000000000000<bZ prs a+(n:Int) then TV.tp [tS "full",tI (bZ prs a)] else TV.tp [tS "is",tI (bZ prs a+(n:Int))])=(match (if 1000000000000<f a+n then some (An.full (f a)) else some (.is1 (f a+n))) with | some y=>RX.tvs y.vs | none=>.sc .non)
  rw[if_neg Zo,am]
  by_cases h:1000000000000<f a+n
  ·rw[if_pos h,if_pos Zo];rfl
  ·rw[if_neg h,if_neg Zo];rfl
 | take a n=>
  have hn:1<=n/\n<=1000000000000:=hn
  show(if -(n:Int)<0/\bZ prs a+-(n:Int)<0 then TV.tp [tS "short",tI (bZ prs a)] else if 0 < -(n:Int)/\1000000000000<bZ prs a+-(n:Int) then _ else TV.tp [tS "is",tI (bZ prs a+-(n:Int))])=(match (if f a<n then some (An.short (f a)) else some (.is1 (f a - n))) with | some y=>RX.tvs y.vs | none=>.sc .non)
  rw[am];by_cases h:f a<n
  ·rw[if_pos h,if_pos Zo];rfl
  ·rw[if_neg h,if_neg Zo,if_neg Zo,show(f a:Int)+-(n:Int)=((f a - n:Nat):Int) by omega];rfl
 | move a b n=>
  have hn:1<=n/\n<=1000000000000:=hn
  show(if -(n:Int)<0/\bZ prs a+-(n:Int)<0 then TV.tp [tS "short",tI (bZ prs a)] else if 0 < -(n:Int)/\1000000000000<bZ prs a+-(n:Int) then TV.tp [tS "full",tI (bZ prs a)] else if (n:Int)<0/\bZ prs b+(n:Int)<0 then TV.tp [tS "short",tI (bZ prs b)] else if 0<(n:Int)/\1000000000000<bZ prs b+(n:Int) then TV.tp [tS "full",tI (bZ prs b)] else TV.tp [tS "is",tI (bZ prs a+-(n:Int)),tI (bZ prs b+(n:Int))])=(match (if f a<n then some (An.short (f a)) else if 1000000000000<f b+n then some (.full (f b)) else some (.is2 (f a - n) (f b+n))) with | some y=>RX.tvs y.vs | none=>.sc .non)
  rw[am,am];by_cases h:f a<n
  ·rw[if_pos h,if_pos Zo];rfl
  ·rw[if_neg h,if_neg Zo,if_neg Zo,if_neg Zo]
   by_cases h2:1000000000000<f b+n
   ·rw[if_pos h2,if_pos Zo];rfl
   ·rw[if_neg h2,if_neg Zo,show(f a:Int)+-(n:Int)=((f a - n:Nat):Int) by omega];rfl
 | send g a n=>
  have hn:1<=n/\n<=1000000000000:=hn
  show(if -(n:Int)<0/\bZ prs a+-(n:Int)<0 then TV.tp [tS "short",tI (bZ prs a)] else if 0 < -(n:Int)/\1000000000000<bZ prs a+-(n:Int) then _ else TV.sc .non)=(match (if f a<n then some (An.short (f a)) else none) with | some y=>RX.tvs y.vs | none=>.sc .non)
  rw[am];by_cases h:f a<n
  ·rw[if_pos h,if_pos Zo];rfl
  ·rw[if_neg h,if_neg Zo,if_neg Zo]
 | fetch g a n=>
  have hn:1<=n/\n<=1000000000000:=hn
  show(if (n:Int)<0/\bZ prs a+(n:Int)<0 then _ else if 0<(n:Int)/\1000000000000<bZ prs a+(n:Int) then TV.tp [tS "full",tI (bZ prs a)] else TV.sc .non)=(match (if 1000000000000<f a+n then some (An.full (f a)) else none) with | some y=>RX.tvs y.vs | none=>.sc .non)
  rw[if_neg Zo,am]
  by_cases h:1000000000000<f a+n
  ·rw[if_pos h,if_pos Zo];rfl
  ·rw[if_neg h,if_neg Zo]
 | pass g g' a n=>rfl
end
end KL
namespace KL
open PySem L2
section
variable {P:Program} {w:World} {K:W.Frag} {mg:Str->Option Value} {base:Heap}
theorem Hg {α:Type} {N:List α} (hN:N.Nodup) {i j:Nat} {x:α} (a:N[i]?=some x) (b:N[j]?=some x):i=j:=by
 obtain⟨hi,ei⟩:=Zgs.mp a
 obtain⟨hj,ej⟩:=Zgs.mp b
 have h:=List.pairwise_iff_getElem.mp hN
 rcases Nat.lt_trichotomy i j with z | z | z
 ·exact absurd (ei.trans ej.symm) (h i j hi hj z)
 ·exact z
 ·exact absurd (ej.trans ei.symm) (h j i hj hi z)
def Own (H:Hp) (L:List (Addr × HO)):Prop:=(L.map (·.1)).Nodup/\∀q∈L,H q.1=some q.2
theorem Own.get {H:Hp} {L:List (Addr × HO)} (h:Own H L) (i:Nat) {a:Addr} {o:HO} (e:L[i]?=some (a,o)):H a=some o:=h.2 _ (jW e)
theorem Own.same {H H':Hp} {L:List (Addr × HO)} (s:Same H H') (h:Own H L):Own H' L:=⟨h.1,fun q hq=>s _ _ (h.2 q hq)⟩
theorem Own.keys {H:Hp} {L:List (Addr × HO)} (h:Own H L) {b:Addr} (hb:H b=none):b∉L.map (·.1):=fun m=>by
 obtain⟨q,hq,e⟩:=Zmm.mp m
 rw[<- e,h.2 q hq]at hb;cases hb
theorem Own.set {H:Hp} {L:List (Addr × HO)} (h:Own H L) (i:Nat) {a:Addr} {o:HO} (e:L[i]?=some (a,o)) (o':HO):Own (aI H a o') (L.set i (a,o')):=by
 obtain⟨hi,ei⟩:=Zgs.mp e
 refine⟨?_,fun q hq=>?_⟩
 ·have:(L.set i (a,o')).map (·.1)=L.map (·.1):=by
   rw[List.map_set];apply List.ext_getElem Zs
   intro j h1 h2;rw[List.getElem_set];split
   ·rename_i z;subst z;simp [ei]
   ·rfl
  rw[this];exact h.1
 ·obtain⟨j,hj,ej⟩:=List.mem_iff_getElem.mp hq
  rw[List.getElem_set]at ej;split at ej
  ·rw[<- ej];exact aB
  ·rename_i hne
   rw[List.length_set]at hj;have hq':L[j]∈L:=List.getElem_mem hj
   have:q.1≠a:=fun z=>by
    have n:=Hg h.1 (i:=i) (j:=j) (x:=a) (by rw[iU,e];rfl) (by rw[iU,mQ hj,ej,<- z];rfl)
    exact hne n
   rw[aD this,<- ej];exact h.2 _ hq'
theorem fX {H:Hp} {a:Addr} {o o':HO} (g:H a=some o) (ho:∀xs,o≠.tup xs):TK H (aI H a o'):=fun c xs e=>by
 rw[aD (fun z=>by rw[z,g]at e;exact ho xs (Option.some.inj e))];exact e
theorem TK.of {H H':Hp} (s:Same H H'):TK H H':=fun c xs e=>s _ _ e
theorem Own.ne {H:Hp} {L:List (Addr × HO)} (h:Own H L) {i j:Nat} {a b:Addr} {o o':HO} (ei:L[i]?=some (a,o)) (ej:L[j]?=some (b,o')) (hij:i≠j):a≠b:=fun e=>
 hij (Hg h.1 (x:=a) (by rw[iU,ei];rfl) (by rw[iU,ej,e];rfl))
theorem Own.at {H H':Hp} {L:List (Addr × HO)} (h:Own H L) (i:Nat) {a:Addr} {o o':HO} (e:L[i]?=some (a,o)) (g:H' a=some o') (k:∀b u,H b=some u->b≠a->H' b=some u):Own H' (L.set i (a,o')):=by
 have h1:=h.set i e o'
 refine⟨h1.1,fun q hq=>?_⟩
 by_cases z:q.1=a
 ·have:=h1.2 q hq
  rw[z,aB]at this;rw[z,g];exact this
 ·have:=h1.2 q hq
  rw[aD z]at this;exact k _ _ this z
theorem Own.sub {H:Hp} {L L':List (Addr × HO)} (h:Own H L) (s:L'.Sublist L):Own H L':=⟨h.1.sublist (s.map _),fun q hq=>h.2 q (s.subset hq)⟩
theorem Own.snoc {H:Hp} {L:List (Addr × HO)} (h:Own H L) {a:Addr} {o:HO} (ha:a∉L.map (·.1)) (g:H a=some o):Own H (L++[(a,o)]):=by
 refine⟨?_,fun q hq=>(Zma.mp hq).elim (h.2 q) fun z=>by rw[Zms.mp z];exact g⟩
 rw[jV];exact List.nodup_append.mpr ⟨h.1,Zs,fun x hx y hy e=>ha ((show y=a by simpa using hy) ▸ e ▸ hx)⟩
structure CK where
 (D M R J B Ks:Addr)
structure Rn where
 (p dx:Addr)
 (n:Nat)
 (q:Str × Str)
 (d:Addr)
 (x:Dd)
 (st:Str)
 (pl un:Int)
def Rn.fs (r:Rn):List (Str × V):=[("number",.int r.n),("asker",.str r.q.1),("key",.str r.q.2),("deed",.ref r.d),("stage",.str r.st),("place",.int r.pl),("undos",.int r.un)]
structure DA where
 (dr dx hd j jx jl me mx bk bx bd ks rn:Addr)
 (kf:KF)
structure DS where
 (name:Str)
 (life turn:Int)
 (next:Nat)
 (hs:List (bE × V))
 (prs:List (Str × Int))
 (m:KM)
 (L:Nat)
 (runs:List Rn)
 (rows:List V)
 (safe:Int)
def jf (lw:Addr) (n:Int):List (Str × V):=[("written",.ref lw),("safe_count",.int n)]
def df (a:DA) (s:DS):List (Str × V):=[("name",.str s.name),("life",.int s.life),("houses",.ref a.hd),("journal",.ref a.j),("memory",.ref a.me)]
def mf (a:DA) (turn:Int) (next:Int):List (Str × V):=[("turn",.int turn),("book",.ref a.bk),("standing",.ref a.ks),("runs",.ref a.rn),("next_number",.int next)]
def aV (rs:List Rn):List (bE × V):=rs.map fun r=>(Sum.inl (r.n:Int),.ref r.p)
def mO (c:CK) (r:Rn):Addr × HO:=(r.p,.ins c.R r.dx r.fs)
def DA.fix (a:DA):List Addr:=[a.dr,a.hd,a.j,a.jl,a.me,a.bk,a.bd,a.ks,a.kf.db,a.kf.ds,a.rn]
def DA.objs (c:CK) (a:DA) (s:DS) (bs ss:List (List bE × V)):List (Addr × HO):=
  [(a.dr,.ins c.D a.dx (df a s)),(a.hd,.dK s.hs),(a.j,.ins c.J a.jx (jf a.jl s.safe)),(a.jl,.lst s.rows),(a.me,.ins c.M a.mx (mf a s.turn s.next)),(a.bk,.ins c.B a.bx [("amounts",.ref a.bd)]),(a.bd,.dK (lE s.prs)),
   (a.ks,.ins c.Ks a.kf.dx (yR a.kf s.life)),(a.kf.db,.dT bs),(a.kf.ds,.dT ss),(a.rn,.dK (aV s.runs))]
def DA.all (c:CK) (a:DA) (s:DS) (bs ss:List (List bE × V)):List (Addr × HO):=a.objs c s bs ss++s.runs.map (mO c)
structure DAt (c:CK) (H:Hp) (a:DA) (s:DS):Prop where
 own:∃bs ss,Own H (a.all c s bs ss)/\Dic H bs s.m fB s.L/\Dic H ss s.m fS s.L
 nd:(s.prs.map (·.1)).Nodup
 up:s.runs.Pairwise fun r r'=>r.n<r'.n
 dd:∀r∈s.runs,H r.d=some (.tup r.x.vs)
theorem gF (c:CK) (a:DA) (s:DS) (bs ss:List (List bE × V)):(a.all c s bs ss).map (·.1)=a.fix++s.runs.map (·.p):=by
 unfold DA.all;rw[jV,List.map_map];rfl
theorem yY {c:CK} {a:DA} {s:DS} {bs ss:List (List bE × V)}:∀q∈a.all c s bs ss,∀xs,q.2≠.tup xs:=by
 intro q hq xs;rcases Zma.mp hq with m | m
 ·simp only [DA.objs,List.mem_cons,List.not_mem_nil,or_false]at m
  rcases m with rfl | rfl | rfl | rfl | rfl | rfl | rfl | rfl | rfl | rfl | rfl <;> exact fun z=>nomatch z
 ·obtain⟨r,_,rfl⟩:=Zmm.mp m
  exact fun z=>nomatch z
structure Mv (a:DA) (s s':DS) (H H':Hp):Prop where
 fr:∀c o,H c=some o->c∉a.fix++s.runs.map (·.p)->H' c=some o
 nw:∀r∈s'.runs,r.p∈s.runs.map (·.p)∨H r.p=none
 gr:∀c,H' c=none->H c=none
theorem Same.gr {H H':Hp} (k:Same H H') (c:Addr) (e:H' c=none):H c=none:=by
 cases z:H c with
 | none=>rfl
 | some o=>rw[k _ _ z]at e;cases e
theorem Mv.same {a:DA} {s:DS} {H H':Hp} (k:Same H H'):Mv a s s H H':=⟨fun c o e _=>k c o e,fun r hr=>.inl (List.mem_map_of_mem hr),fun c e=>Same.gr k c e⟩
theorem Mv.trans {a:DA} {s s1 s2:DS} {H H1 H2:Hp} (x:Mv a s s1 H H1) (y:Mv a s1 s2 H1 H2):Mv a s s2 H H2:=by
 refine⟨fun c o e hc=>y.fr c o (x.fr c o e hc) fun m=>?_,fun r hr=>?_,fun c e=>x.gr c (y.gr c e)⟩
 ·rcases Zma.mp m with m | m
  ·exact hc (List.mem_append_left _ m)
  ·obtain⟨r,hr,rfl⟩:=Zmm.mp m
   rcases x.nw r hr with z | z
   ·exact hc (List.mem_append_right _ z)
   ·rw[z]at e;cases e
 ·rcases y.nw r hr with z | z
  ·obtain⟨r',hr',e⟩:=Zmm.mp z
   rw[<- e];exact x.nw r' hr'
  ·exact .inr (x.gr _ z)
section
variable {c:CK} {H H':Hp} {a:DA} {s s':DS}
theorem DAt.out (h:DAt c H a s) {b:Addr} {o:HO} (hb:H b=some o) (ht:∃xs,o=.tup xs):b∉a.fix++s.runs.map (·.p):=by
 obtain⟨bs,ss,ho,_,_⟩:=h.own
 obtain⟨xs,rfl⟩:=ht
 intro m;rw[<- gF c a s bs ss]at m;obtain⟨q,hq,rfl⟩:=Zmm.mp m
 have:=ho.2 q hq
 rw[hb]at this;exact yY q hq xs (Option.some.inj this).symm
theorem DAt.fresh (h:DAt c H a s) {b:Addr} (hb:H b=none):b∉a.fix++s.runs.map (·.p):=by
 obtain⟨bs,ss,ho,_,_⟩:=h.own
 have:=ho.keys hb
 rwa [gF]at this
theorem Mv.tk (m:Mv a s s' H H') (h:DAt c H a s):TK H H':=fun b xs e=>m.fr _ _ e (h.out e ⟨xs,rfl⟩)
theorem DAt.keep (h:DAt c H a s) (k:∀b o,H b=some o->b∈a.fix++s.runs.map (·.p)->H' b=some o) (t:TK H H'):DAt c H' a s:=by
 obtain⟨bs,ss,ho,d1,d2⟩:=h.own
 refine⟨⟨bs,ss,⟨ho.1,fun q hq=>k _ _ (ho.2 q hq) ?_⟩,d1.keep t,d2.keep t⟩,h.nd,h.up,fun r hr=>t _ _ (h.dd r hr)⟩
 rw[<- gF c a s bs ss];exact List.mem_map_of_mem hq
theorem DAt.same (h:DAt c H a s) (k:Same H H'):DAt c H' a s:=h.keep (fun b o e _=>k b o e) (TK.of k)
theorem DAt.put (h:DAt c H a s) (i:Nat) {p:Addr} {o o':HO} (s':DS) (e:∀bs ss,(a.all c s bs ss)[i]?=some (p,o)) (e':∀bs ss,(a.all c s bs ss).set i (p,o')=a.all c s' bs ss) (g:H' p=some o') (k:∀b u,H b=some u->b≠p->H' b=some u) (hm:s'.m=s.m) (hL:s'.L=s.L) (hn:(s'.prs.map (·.1)).Nodup) (hr:s'.runs=s.runs) :
  DAt c H' a s'/\Mv a s s' H H':=by
 obtain⟨bs,ss,ho,d1,d2⟩:=h.own
 have hp:p∈a.fix++s.runs.map (·.p):=by
  rw[<- gF c a s bs ss];exact List.mem_map_of_mem (jW (e bs ss))
 have t:TK H H':=fun b xs z=>k _ _ z fun w=>yY (p,o) (jW (e bs ss)) xs (Option.some.inj ((ho.2 _ (jW (e bs ss))).symm.trans (w ▸ z)))
 have ho':=ho.at i (e bs ss) g k
 rw[e' bs ss]at ho';refine⟨⟨⟨bs,ss,ho',?_,?_⟩,hn,by rw[hr];exact h.up,by rw[hr];exact fun r m=>t _ _ (h.dd r m)⟩,⟨fun b u z hb=>k b u z fun w=>hb (w ▸ hp),fun r m=>.inl (by rw[hr]at m;exact List.mem_map_of_mem m),fun b z=>?_⟩⟩
 ·rw[hm,hL];exact d1.keep t
 ·rw[hm,hL];exact d2.keep t
 ·cases w:H b with
  | none=>rfl
  | some u=>
   by_cases q:b=p
   ·rw[q,g]at z;cases z
   ·rw[k b u w q]at z;cases z
theorem DAt.dr (h:DAt c H a s):H a.dr=some (.ins c.D a.dx (df a s)):=let ⟨_,_,ho,_⟩:=h.own;ho.get 0 rfl
theorem DAt.j (h:DAt c H a s):H a.j=some (.ins c.J a.jx (jf a.jl s.safe)):=let ⟨_,_,ho,_⟩:=h.own;ho.get 2 rfl
theorem DAt.jl (h:DAt c H a s):H a.jl=some (.lst s.rows):=let ⟨_,_,ho,_⟩:=h.own;ho.get 3 rfl
theorem DAt.me (h:DAt c H a s):H a.me=some (.ins c.M a.mx (mf a s.turn s.next)):=let ⟨_,_,ho,_⟩:=h.own;ho.get 4 rfl
theorem DAt.bk (h:DAt c H a s):H a.bk=some (.ins c.B a.bx [("amounts",.ref a.bd)]):=let ⟨_,_,ho,_⟩:=h.own;ho.get 5 rfl
theorem DAt.bd (h:DAt c H a s):H a.bd=some (.dK (lE s.prs)):=let ⟨_,_,ho,_⟩:=h.own;ho.get 6 rfl
theorem DAt.ks (h:DAt c H a s):H a.ks=some (.ins c.Ks a.kf.dx (yR a.kf s.life)):=let ⟨_,_,ho,_⟩:=h.own;ho.get 7 rfl
theorem DAt.rn (h:DAt c H a s):H a.rn=some (.dK (aV s.runs)):=let ⟨_,_,ho,_⟩:=h.own;ho.get 10 rfl
theorem DAt.run (h:DAt c H a s) {r:Rn} (hr:r∈s.runs):H r.p=some (.ins c.R r.dx r.fs):=let ⟨_,_,ho,_⟩:=h.own;ho.2 (mO c r) (List.mem_append_right _ (List.mem_map_of_mem hr))
theorem DAt.book (h:DAt c H a s):BookAt c.B H a.bk s.prs:=⟨⟨_,_,h.bk,h.bd⟩,h.nd⟩
theorem DAt.ky (h:DAt c H a s):KyAt c.Ks H a.ks a.kf s.life s.m s.L:=by
 obtain⟨bs,ss,ho,d1,d2⟩:=h.own
 exact⟨ho.get 7 rfl,⟨bs,ho.get 8 rfl,d1⟩,⟨ss,ho.get 9 rfl,d2⟩,ho.ne (i:=8) (j:=9) rfl rfl Zd⟩
theorem DAt.keys (h:DAt c H a s) {m':KM} {L':Nat} (k:KyAt c.Ks H' a.ks a.kf s.life m' L') (fr:Vg H H' a.kf):DAt c H' a {s with m:=m',L:=L' }/\Mv a s {s with m:=m',L:=L' } H H':=by
 obtain⟨bs,ss,ho,d1,d2⟩:=h.own
 obtain⟨b1,g1,e1⟩:=k.hb
 obtain⟨b2,g2,e2⟩:=k.hs
 have gb:=ho.get 8 rfl
 have gs:=ho.get 9 rfl
 have t:TK H H':=fun b xs z=>fr _ _ z (aM z gb fun w=>nomatch w) (aM z gs fun w=>nomatch w)
 have kp:∀q∈a.all c s bs ss,(∀kv,q.2≠.dT kv)->H' q.1=some q.2:=fun q hq hn=>fr _ _ (ho.2 q hq) (aM (ho.2 q hq) gb (hn _)) (aM (ho.2 q hq) gs (hn _))
 have ownN:Own H' (a.all c {s with m:=m',L:=L' } b1 b2):=by
  refine⟨by rw[gF];have:=ho.1;rwa [gF]at this,fun q hq=>?_⟩
  rcases Zma.mp hq with m | m
  ·simp only [DA.objs,List.mem_cons,List.not_mem_nil,or_false]at m
   have z:∀(i:Nat) (q:Addr × HO),(a.all c s bs ss)[i]?=some q->(∀kv,q.2≠.dT kv)->H' q.1=some q.2:=fun i q e hn=>kp q (jW e) hn
   rcases m with rfl | rfl | rfl | rfl | rfl | rfl | rfl | rfl | rfl | rfl | rfl
   ·exact z 0 _ rfl fun _ w=>nomatch w
   ·exact z 1 _ rfl fun _ w=>nomatch w
   ·exact z 2 _ rfl fun _ w=>nomatch w
   ·exact z 3 _ rfl fun _ w=>nomatch w
   ·exact z 4 _ rfl fun _ w=>nomatch w
   ·exact z 5 _ rfl fun _ w=>nomatch w
   ·exact z 6 _ rfl fun _ w=>nomatch w
   ·exact z 7 _ rfl fun _ w=>nomatch w
   ·exact g1
   ·exact g2
   ·exact z 10 _ rfl fun _ w=>nomatch w
  ·obtain⟨r,hr,rfl⟩:=Zmm.mp m
   exact kp (mO c r) (List.mem_append_right _ (List.mem_map_of_mem hr)) fun _ w=>nomatch w
 refine⟨⟨⟨b1,b2,ownN,e1,e2⟩,h.nd,h.up,fun r hr=>t _ _ (h.dd r hr)⟩,⟨fun b o z hb=>fr b o z ?_ ?_,fun r hr=>.inl (List.mem_map_of_mem hr),fun b z=>?_⟩⟩
 ·exact fun w=>hb (by rw[w];simp [DA.fix])
 ·exact fun w=>hb (by rw[w];simp [DA.fix])
 ·cases w:H b with
  | none=>rfl
  | some u=>
   by_cases q1:b=a.kf.db
   ·rw[q1,g1]at z;cases z
   ·by_cases q2:b=a.kf.ds
    ·rw[q2,g2]at z;cases z
    ·rw[fr b u w q1 q2]at z;cases z
theorem DAt.rput {pre post:List Rn} {r r':Rn} (h:DAt c H a s) (hs:s.runs=pre++r::post) (h1:r'.p=r.p) (h3:r'.n=r.n) (h5:r'.d=r.d) (h6:r'.x=r.x) :
  DAt c (aI H r.p (.ins c.R r'.dx r'.fs)) a {s with runs:=pre++r'::post }/\Mv a s {s with runs:=pre++r'::post } H (aI H r.p (.ins c.R r'.dx r'.fs)):=by
 obtain⟨bs,ss,ho,d1,d2⟩:=h.own
 have hr:r∈s.runs:=by rw[hs];simp
 have gr:=h.run hr
 have t:TK H (aI H r.p (.ins c.R r'.dx r'.fs)):=fX gr fun _ z=>nomatch z
 have el:(a.objs c s bs ss++pre.map (mO c)).length=11+pre.length:=by simp [DA.objs];omega
 have eA:a.all c s bs ss=(a.objs c s bs ss++pre.map (mO c))++mO c r::post.map (mO c):=by
  unfold DA.all;rw[hs,jV,List.map_cons,List.append_assoc]
 have eK:aV (pre++r'::post)=aV s.runs:=by rw[hs];unfold aV;simp [h1,h3]
 have eO:a.objs c {s with runs:=pre++r'::post } bs ss=a.objs c s bs ss:=by unfold DA.objs df;dsimp only;rw[eK]
 have e0:(a.all c s bs ss)[11+pre.length]?=some (r.p,.ins c.R r.dx r.fs):=by
  rw[eA,List.getElem?_append_right Zo,el,Nat.sub_self];rfl
 have ho':=ho.set _ e0 (.ins c.R r'.dx r'.fs)
 have e1:(a.all c s bs ss).set (11+pre.length) (r.p,.ins c.R r'.dx r'.fs)=a.all c {s with runs:=pre++r'::post } bs ss:=by
  rw[eA,List.set_append_right _ _ Zo,el,Nat.sub_self,List.set_cons_zero]
  unfold DA.all;rw[eO];show _=a.objs c s bs ss++List.map (mO c) (pre++r'::post)
  rw[jV,List.map_cons,List.append_assoc];have:mO c r'=(r.p,.ins c.R r'.dx r'.fs):=by unfold mO;rw[h1]
  rw[this]
 rw[e1]at ho';refine⟨⟨⟨bs,ss,ho',d1.keep t,d2.keep t⟩,h.nd,?_,fun q hq=>?_⟩,⟨fun b o z hb=>?_,fun q hq=>.inl ?_,fun b z=>?_⟩⟩
 ·have:=h.up
  rw[hs]at this;have e:(pre++r'::post).map (·.n)=(pre++r::post).map (·.n):=by simp [h3]
  have:=(List.pairwise_map (f:=fun(r:Rn)=>r.n) (R:=fun(x y:Nat)=>x<y)).mpr this
  rw[<- e]at this;exact List.pairwise_map.mp this
 ·rcases Zma.mp hq with m | m
  ·exact t _ _ (h.dd q (by rw[hs];exact List.mem_append_left _ m))
  ·rcases List.mem_cons.mp m with rfl | m
   ·rw[h5,h6];exact t _ _ (h.dd r hr)
   ·exact t _ _ (h.dd q (by rw[hs];simp [m]))
 ·rw[aD fun w=>hb (by rw[w];exact List.mem_append_right _ (List.mem_map_of_mem hr))];exact z
 ·rw[hs];rcases Zma.mp hq with m | m
  ·exact List.mem_map_of_mem (List.mem_append_left _ m)
  ·rcases List.mem_cons.mp m with rfl | m
   ·rw[h1];exact List.mem_map_of_mem Zs
   ·exact List.mem_map_of_mem (by simp [m])
 ·cases w:H b with
  | none=>rfl
  | some u=>
   by_cases q:b=r.p
   ·rw[q,aB]at z;cases z
   ·rw[aD q,w]at z;cases z
end
end
end KL
namespace KL
open PySem L2
section
variable {P:Program} {w:World} {K:W.Frag} {mg:Str->Option Value} {base:Heap}
theorem gG {js:List (Option Nat)} {g:TG} {tt:TT} {te:TE} {σ:St} {H:Hp} {a:Addr} {Q:List V->Hp->Prop} (e:SqL K H a []) (h:Q [] H):oB js g tt te σ (Og K a) H Q:=
 bR (gB K a []) Zs (fun i ys H'=>H'=H/\ys=[]) (fun i ys H' ⟨e1,e2⟩=>⟨by rw[e1];exact e,by rw[e2];simp⟩) ⟨rfl,rfl⟩ (fun i x ys H' hx _=>by simp at hx) (fun ys H' ⟨e1,e2⟩=>by subst e1;subst e2;exact h)
theorem qM {js:List (Option Nat)} {g:TG} {tt:TT} {te:TE} {σ:St} {H:Hp} {a:Addr} {o:Obj} {Q:List V->Hp->Prop} (e:H a=some (.frz o (.dK []))) (h:Q [] H):oB js g tt te σ (Vf a o []) H Q:=
 bR (Kl a o []) Zs (fun i ys H'=>H'=H/\ys=[]) (fun i ys H' ⟨e1,e2⟩=>⟨by rw[e1];exact e,by rw[e2];simp⟩) ⟨rfl,rfl⟩ (fun i x ys H' hx _=>by simp at hx) (fun ys H' ⟨e1,e2⟩=>by subst e1;subst e2;exact h)
theorem mY {g:TG} {tb:TS} {D:jY} {σ:St} {H:Hp} {a:Addr} (e:SqL K H a []) (h:D.nx σ H) :
  ∃W:Nat->Nat->St->Hp->Prop,(∃m,W 0 m σ H)/\∀i m σ H,W i m σ H →
   ((Og K a).stop i H/\D.nx σ H)∨((Og K a).go i H/\∃N:St->Hp->Prop,(∀ σ' H',N σ' H'->∃m',m'<m/\W (i+1) m' σ' H')/\∀x H',(Og K a).yld i H x H'->g x σ H' fun σ2 H2=>tb {D with nx:=N,ct:=N,bk:=D.nx } σ2 H2):=
 gN (gB K a []) (fun i σ' H'=>H'=H/\σ'=σ) (fun i σ' H' ⟨e1,_⟩=>by rw[e1];exact e) ⟨rfl,rfl⟩ (fun i x σ' H' hx _=>by simp at hx) (fun σ' H' ⟨e1,e2⟩=>by subst e1;subst e2;exact h)
theorem oU {H:Hp} {d x:Addr} {o:Obj} {kvs:List (bE × V)} {u:HO} (g:H d=some (.dK kvs)) (h:(aI H d (.frz o (.dK kvs))) x=none):Same H (aI (aI (aI H d (.frz o (.dK kvs))) x u) d (.dK kvs)):=fun c v e=>by
 by_cases z:c=d
 ·rw[z,aB,<- g,<- z,e]
 ·have n:c≠x:=fun w=>by rw[<- w,aD z,e]at h;cases h
  rw[aD z,aD n,aD z];exact e
def Mx:Sp:=fun vs H Q _=>∃(ra:Addr) (w:Str),vs=[.ref ra,.str w]/\H ra=some (.lst [])/\∀d,H d=none->Q (.ref d) (aI H d (.dK []))
theorem Ra (D:DefAt K mg "by_numbers" eZ ["rows","word"]):aH P w K mg base 1 "by_numbers" ["rows","word"] Mx:=by
 refine D.go fV (fun vs H Q E h=>?_) (fun f cdv A outer s H vs Q E hr h=>?_)
 ·obtain⟨ra,w,rfl,_⟩:=h;rfl
 ·obtain⟨ra,w,rfl,g,q⟩:=h
  have hu1:=dP hr
  refine⟨_,(R.ae (R.au (i:=2) fV.nd R.er) (R.ae (R.bv PassesOwn.never rfl (R.bj (K:=K) (R.v 0)) (R.gn (i:=3) fV.nd) (R.af (R.aq (R.al R.eq (R.ix (R.ah (K:=K)) (R.v 3) R.ad) (R.v 1)) (R.af (R.bz (R.v 3) (R.cj (R.v 2) (R.ix (R.ah (K:=K)) (R.v 3) R.ad) (R.ce hu1)))) R.ar))) (R.af (R.aj (R.v 2))))),?_⟩
  intro d hd;dsimp only [aK];have g':=aF (o:=.dK []) hd _ _ g
  exact⟨ra,rfl,⟨_,SqL.of g'⟩,mY (SqL.of g') (q d hd)⟩
def yZ (C:Addr):Sp:=fun vs H Q _=>∃ra:Addr,vs=[.ref ra]/\H ra=some (.lst [])/\∀(b bx bd:Addr) (H':Hp),H b=none->H bd=none->H' b=some (.ins C bx [("amounts",.ref bd)])->H' bd=some (.dK [])->Same H H'->Q (.ref b) H'
theorem Rb {C:Addr} (c_Book:vJ P w K mg base 1 "Book" C ["self","rows"] [] (sM C)) (D:DefAt K mg "first_book" dF ["rows"]):aH P w K mg base 3 "first_book" ["rows"] (yZ C):=by
 refine D.go pC (fun vs H Q E h=>?_) (fun f cdv A outer s H vs Q E hr h=>?_)
 ·obtain⟨ra,rfl,_⟩:=h;rfl
 ·obtain⟨ra,rfl,g,q⟩:=h
  have hr_Book:=hr
  refine⟨_,(R.af (R.aj (R.da c_Book hr_Book rfl (R.aa (R.bi rfl (js:=[none]) (N:=["row"]) (CompScope.by (aA dF) ["rows"] rfl rfl Zk) (aS rfl) (R.bj (K:=K) (R.v 0)) (fun C s₂ H₂ fp=>⟨(R.gn (i:=0) (show(["row"]:List Str).Nodup by decide +kernel)),(R.ck (R.al R.eq (R.ix (R.ah (K:=K)) (R.v 0) R.ad) R.ak)),(R.sl R.sT (R.v 0) (R.ps R.ad) R.pn)⟩)) R.ac)))),?_⟩
  refine⟨ra,rfl,⟨_,SqL.of g⟩,gG (SqL.of g) fun l hl=>?_⟩
  intro b bx hb hbx hne;have s1:=aF (o:=.lst []) hl
  refine⟨b,bx,_,[],rfl,aB,.inr ⟨l,[],rfl,?_,(fun _ h=>nomatch h),rfl⟩,List.nodup_nil,Zs,fun H' d hd g1 g2 k=>⟨rfl,?_⟩⟩
  ·rw[aD (aE aB hb),aD (aE aB hbx)];exact aB
  ·have s2:Same (aI H l (.lst [])) H':=fun c o e=>k _ _ (by rw[aD (aE e hb),aD (aE e hbx)];exact e) (aE e hb)
   refine q b bx d H' (s1.free hb) ?_ g1 g2 (s1.trans s2)
   cases e:H d with
   | none=>rfl
   | some o=>have e':=s1 _ _ e;rw[aD (aE e' hb),aD (aE e' hbx),e']at hd;cases hd
theorem Rc {C:Addr} (c_first_book:aH P w K mg base 3 "first_book" ["rows"] (yZ C)) (c_changes_of:aH P w K mg base 2 "changes_of" ["deed","answer"] Ha) (c_Book_change:cZ P w K mg base 2 C "change" ["self","changes"] (lP C)) (D:DefAt K mg "risen_book" fA ["rows","came"]) :
  aH P w K mg base 4 "risen_book" ["rows","came"] (fun vs H Q E=>∃ra v,vs=[ra,v]/\yZ C [ra] H Q E):=by
 refine D.go fW (fun vs H Q E h=>?_) (fun f cdv A outer s H vs Q E hr h=>?_)
 ·obtain⟨ra,v,rfl,_⟩:=h;rfl
 ·obtain⟨_,v,rfl,ra,e,g,q⟩:=h
  cases e
  have hr_first_book:=hr
  have hr_changes_of:Room 2 _:=hr.mono Zd
  have hr_Book_change:Room 2 _:=hr.mono Zd
  have hu1:=dP hr
  refine⟨_,(R.ae (R.au (i:=2) fW.nd (R.fn c_first_book hr_first_book rfl (R.aa (R.v 0) R.ac))) (R.ae (R.bv PassesOwn.never rfl (R.bj (K:=K) (R.v 0)) (R.gn (i:=3) fW.nd) (R.af (R.aq (R.al R.eq (R.ix (R.ah (K:=K)) (R.v 3) R.ad) R.ak) (R.af (R.bq (R.be c_Book_change hr_Book_change (R.v 2) (R.aa (R.fn c_changes_of hr_changes_of rfl (R.aa (R.ix (R.ah (K:=K)) (R.bp hu1 (R.v 1) (R.ix (R.ah (K:=K)) (R.v 3) R.ad)) R.ad) (R.aa (R.ix (R.ah (K:=K)) (R.v 3) R.ad) R.ac))) R.ac)))) R.ar))) (R.af (R.aj (R.v 2))))),?_⟩
  refine⟨ra,rfl,g,fun b bx bd H' h1 h2 g1 g2 s1=>?_⟩
  dsimp only [aK];exact⟨ra,rfl,⟨_,SqL.of (s1 _ _ g)⟩,mY (SqL.of (s1 _ _ g)) (q b bx bd H' h1 h2 g1 g2 s1)⟩
def Mz:Sp:=fun vs H Q _=>∃(ra:Addr) (v:V),vs=[.ref ra,v]/\H ra=some (.lst [])/\∀l H',Same H H'->H' l=some (.lst [])->Q (.ref l) H'
theorem Re (D:DefAt K mg "risen_kept" cG ["rows","came"]):aH P w K mg base 1 "risen_kept" ["rows","came"] Mz:=by
 refine D.go jM (fun vs H Q E h=>?_) (fun f cdv A outer s H vs Q E hr h=>?_)
 ·obtain⟨ra,v,rfl,_⟩:=h;rfl
 ·obtain⟨ra,v,rfl,g,q⟩:=h
  have hu1:=dP hr
  refine⟨_,(R.ae (R.dj (i:=2) jM.nd rfl (Or.inl rfl) rfl (js:=[none]) (N:=["row"]) (CompScope.by (aA cG) ["rows","came","kept"] rfl rfl Zk) (aS rfl) (R.bj (K:=K) (R.v 0)) (fun C s₂ H₂ fp=>⟨(R.gn (i:=0) (show(["row"]:List Str).Nodup by decide +kernel)),(R.ck (R.al R.eq (R.ix (R.ah (K:=K)) (R.v 0) R.ad) R.ak)),(R.sl R.sT (R.v 0) (R.ps R.ad) R.pn)⟩) rfl) (R.af (R.aj (R.op R.cm (R.v 2) (R.bi rfl (js:=[none,some 1]) (N:=["row","came"]) (CompScope.by (aA cG) ["rows","came","kept"] rfl rfl Zk) (aS rfl) (R.bj (K:=K) (R.v 0)) (fun C s₂ H₂ fp=>⟨(R.gn (i:=0) (show(["row","came"]:List Str).Nodup by decide +kernel)),(R.ck (R.al R.eq (R.ix (R.ah (K:=K)) (R.v 0) R.ad) R.ak)),(R.op R.cf (R.op R.cf (R.sl R.sT (R.v 0) (R.ps R.ad) (R.ps R.ad)) (R.sl R.sT (R.bp hu1 (R.v 1) (R.ix (R.ah (K:=K)) (R.v 0) R.ad)) (R.ps R.ad) R.pn)) (R.sl R.sT (R.v 0) (R.ps R.ad) R.pn))⟩)))))),?_⟩
  refine⟨ra,rfl,⟨_,SqL.of g⟩,gG (SqL.of g) fun l hl=>?_⟩
  dsimp only [aK];have s1:=aF (o:=.lst []) hl
  refine⟨ra,rfl,⟨_,SqL.of (s1 _ _ g)⟩,gG (SqL.of (s1 _ _ g)) fun l2 hl2=>?_⟩
  have s2:=aF (o:=.lst []) hl2
  exact⟨[],[],s2 _ _ aB,aB,mF rfl,fun l3 hl3=>q l3 _ ((s1.trans s2).trans (aF hl3)) aB⟩
def Hh:Sp:=fun vs H Q _=>∃ra:Addr,vs=[.ref ra]/\H ra=some (.lst [])/\∀t b l o H',Same H H'->H' t=some (.tup [.ref b,.ref l,.ref o,.int 1,.int 0])->H' b=some (.lst [])->H' l=some (.lst [])->H' o=some (.lst [])->Q (.ref t) H'
theorem Lj {C:Addr} (T:Txt K mg) (c_by_numbers:aH P w K mg base 1 "by_numbers" ["rows","word"] Mx) (c_risen_book:aH P w K mg base 4 "risen_book" ["rows","came"] (fun vs H Q E=>∃ra v,vs=[ra,v]/\yZ C [ra] H Q E)) (c_risen_kept:aH P w K mg base 1 "risen_kept" ["rows","came"] Mz) (c_Book_rows:cZ P w K mg base 1 C "rows" ["self"] (uE C)) (D:DefAt K mg "risen" eY ["rows"]) :
  aH P w K mg base 5 "risen" ["rows"] Hh:=by
 refine D.go iP (fun vs H Q E h=>?_) (fun f cdv A outer s H vs Q E hr h=>?_)
 ·obtain⟨ra,rfl,_⟩:=h;rfl
 ·obtain⟨ra,rfl,g,q⟩:=h
  have hu1:=dP hr
  have hr_by_numbers:Room 1 _:=hr.mono Zd
  have hr_risen_book:Room 4 _:=hr
  have hr_Book_rows:Room 1 _:=hr.mono Zd
  have hr_risen_kept:Room 1 _:=hr.mono Zd
  refine⟨_,(R.ae (R.au (i:=1) iP.nd (R.fn c_by_numbers hr_by_numbers rfl (R.aa (R.v 0) (R.aa R.ak R.ac)))) (R.ae (R.au (i:=2) iP.nd (R.fn c_by_numbers hr_by_numbers rfl (R.aa (R.v 0) (R.aa R.ak R.ac)))) (R.ae (R.au (i:=3) iP.nd (R.fn c_by_numbers hr_by_numbers rfl (R.aa (R.v 0) (R.aa R.ak R.ac)))) (R.ae (R.il (R.dj (i:=4) iP.nd rfl (Or.inl rfl) rfl (js:=[none,some 1,some 2,some 3]) (N:=["number","done","asked","came"]) (CompScope.by (aA eY) ["rows","done","asked","came","still"] rfl rfl Zk) (aS rfl) (R.wD (R.v 3)) (fun C s₂ H₂ fp=>⟨(R.gn (i:=0) (show(["number","done","asked","came"]:List Str).Nodup by decide +kernel)),(R.ck (R.tw (R.cg (R.al (R.fo hu1) (R.v 0) (R.v 2)) (R.ci (R.al (R.en hu1) (R.v 0) (R.v 1)))))),(R.bp hu1 (R.v 3) (R.v 0))⟩) rfl)) (R.af (R.aj (R.ap (R.aa (R.bn c_Book_rows hr_Book_rows (R.fn c_risen_book hr_risen_book rfl (R.aa (R.v 0) (R.aa (R.v 3) R.ac)))) (R.aa (R.fn c_risen_kept hr_risen_kept rfl (R.aa (R.v 0) (R.aa (R.v 3) R.ac))) (R.aa (R.bi rfl (js:=[none]) (N:=["row"]) (CompScope.by (aA eY) ["rows","done","asked","came","still"] rfl rfl Zk) (aS rfl) (R.bj (K:=K) (R.v 4)) (fun C s₂ H₂ fp=>⟨(R.gn (i:=0) (show(["row"]:List Str).Nodup by decide +kernel)),R.bt,(R.op R.cf (R.sl R.sT (R.v 0) (R.ps R.ad) (R.ps R.ad)) (R.sl R.sT (R.v 0) (R.ps R.ad) R.pn))⟩)) (R.aa (R.ba (R.eg (K:=K) rfl) rfl T.b_max Ep (R.aa (R.op R.cm (R.op R.cm (R.bf (R.aa R.ad R.ac)) (R.bi rfl (js:=[none]) (N:=["row"]) (CompScope.by (aA eY) ["rows","done","asked","came","still"] rfl rfl Zk) (aS rfl) (R.bj (K:=K) (R.v 0)) (fun C s₂ H₂ fp=>⟨(R.gn (i:=0) (show(["row"]:List Str).Nodup by decide +kernel)),(R.ck (R.al R.eq (R.ix (R.ah (K:=K)) (R.v 0) R.ad) R.ak)),(R.ix (R.ah (K:=K)) (R.v 0) R.ad)⟩))) (R.im (R.bi rfl (js:=[none]) (N:=["number"]) (CompScope.by (aA eY) ["rows","done","asked","came","still"] rfl rfl Zk) (aS rfl) (R.wD (R.v 3)) (fun C s₂ H₂ fp=>⟨(R.gn (i:=0) (show(["number"]:List Str).Nodup by decide +kernel)),R.bt,(R.op R.aw (R.v 0) R.ad)⟩)))) R.ac)) (R.aa (R.ba (R.eg (K:=K) rfl) rfl T.b_max Ep (R.aa (R.op R.cm (R.bf (R.aa R.ad R.ac)) (R.bi rfl (js:=[none]) (N:=["row"]) (CompScope.by (aA eY) ["rows","done","asked","came","still"] rfl rfl Zk) (aS rfl) (R.bj (K:=K) (R.v 0)) (fun C s₂ H₂ fp=>⟨(R.gn (i:=0) (show(["row"]:List Str).Nodup by decide +kernel)),(R.ck (R.al (R.eo (K:=K)) (R.ix (R.ah (K:=K)) (R.v 0) R.ad) (R.ap (R.aa R.ak (R.aa R.ak (R.aa R.ak R.ac)))))),(R.ix (R.ah (K:=K)) (R.v 0) R.ad)⟩))) R.ac)) R.ac)))))))))))),?_⟩
  refine⟨ra,"done",rfl,g,fun d1 h1=>?_⟩
  dsimp only [aK];have s1:=aF (o:=.dK []) h1
  generalize aI H d1 (.dK [])=H1 at s1 ⊢;refine⟨ra,"asked",rfl,s1 _ _ g,fun d2 h2=>?_⟩
  dsimp only [aK];have s2:=s1.trans (aF (o:=.dK []) h2)
  generalize aI H1 d2 (.dK [])=H2 at s2 ⊢;refine⟨ra,"came",rfl,s2 _ _ g,fun d3 h3=>?_⟩
  dsimp only [aK];have s3:=s2.trans (aF (o:=.dK []) h3)
  have g3:(aI H2 d3 (.dK [])) d3=some (.dK []):=aB
  generalize aI H2 d3 (.dK [])=H3 at s3 g3 ⊢;refine lW (fun σ' H'=>∃sl:Addr,σ'=[some (.ref ra),some (.ref d1),some (.ref d2),some (.ref d3),some (.ref sl)]/\H' sl=some (.lst [])/\Same H3 H') (fun nx hnx=>?_) ?_
  ·refine⟨_,g3,fun o=>qM aB fun sl hsl=>?_⟩
   have nds:d3≠sl:=aE aB hsl
   exact⟨d3,[],o,⟨_,g3⟩,by rw[aD nds];exact aB,hnx _ _ ⟨sl,rfl,by rw[aD nds.symm];exact aB,oU g3 hsl⟩⟩
  ·rintro σ' H4 ⟨sl,rfl,gsl,s4⟩
   have sA:=s3.trans s4
   refine⟨.ref ra,.ref d3,rfl,ra,rfl,sA _ _ g,fun b bx bd H5 hb hbd gb gd s5=>?_⟩
   refine⟨bx,_,gb,by kernel_rfl,b,[],rfl,⟨⟨bx,bd,gb,gd⟩,List.nodup_nil⟩,Zd,fun bl zs H6 s6 fbl gbl hz ez=>?_⟩
   have ez':zs=[]:=by
    have e0:uB (([]:List (Str × Int)).map (·.1))=[]:=List.length_eq_zero_iff.mp (by rw[rQ];rfl)
    unfold Fk at ez;rw[e0]at ez;exact List.map_eq_nil_iff.mp ez
   subst ez';have sB:=(sA.trans s5).trans s6
   refine⟨ra,.ref d3,rfl,sB _ _ g,fun kl H7 s7 gkl=>?_⟩
   have sC:=sB.trans s7
   have gs7:=s7 _ _ (s6 _ _ (s5 _ _ gsl))
   refine⟨sl,rfl,⟨_,SqL.of gs7⟩,gG (SqL.of gs7) fun ol hol=>?_⟩
   have sD:=sC.trans (aF (o:=.lst []) hol)
   have gbl8:=aF (o:=.lst []) hol _ _ (s7 _ _ gbl)
   have gkl8:=aF (o:=.lst []) hol _ _ gkl
   have gol8:(aI H7 ol (.lst [])) ol=some (.lst []):=aB
   have gd8:=aF (o:=.lst []) hol _ _ (s7 _ _ (s6 _ _ (s5 _ _ (s4 _ _ g3))))
   generalize aI H7 ol (.lst [])=H8 at sD gbl8 gkl8 gol8 gd8 ⊢;refine⟨mF rfl,fun x1 hx1=>?_⟩
   have sE:=aF (o:=.lst [.int 1]) hx1
   have gx1:(aI H8 x1 (.lst [.int 1])) x1=some (.lst [.int 1]):=aB
   generalize aI H8 x1 (.lst [.int 1])=H9 at sE gx1 ⊢;refine⟨ra,rfl,⟨_,SqL.of (sE _ _ (sD _ _ g))⟩,gG (SqL.of (sE _ _ (sD _ _ g))) fun x2 hx2=>?_⟩
   have sF:=sE.trans (aF (o:=.lst []) hx2)
   refine⟨_,_,aF hx2 _ _ gx1,aB,mF rfl,fun x3 hx3=>?_⟩
   have gx3:(aI (aI H9 x2 (.lst [])) x3 (.lst ([.int 1]++[]))) x3=some (.lst ([.int 1]++[])):=aB
   have sG:=sF.trans (aF (o:=.lst ([.int 1]++[])) hx3)
   generalize aI (aI H9 x2 (.lst [])) x3 (.lst ([.int 1]++[]))=H10 at sG gx3 ⊢;have g10:=sG _ _ gd8
   refine⟨_,g10,fun o=>qM aB fun x4 hx4=>?_⟩
   have nds:d3≠x4:=aE aB hx4
   refine⟨d3,[],o,⟨_,g10⟩,by rw[aD nds];exact aB,?_⟩
   have sH:=oU (u:=.lst []) g10 hx4
   have gx4:(aI (aI (aI H10 d3 (.frz o (.dK []))) x4 (.lst [])) d3 (.dK [])) x4=some (.lst []):=by rw[aD nds.symm];exact aB
   generalize aI (aI (aI H10 d3 (.frz o (.dK []))) x4 (.lst [])) d3 (.dK [])=H11 at sH gx4 ⊢;refine⟨_,_,sH _ _ gx3,gx4,mF rfl,fun x5 hx5=>⟨x5,[1],rfl,SqL.of aB,Zd,fun M hM _=>?_⟩⟩
   have eM:M=1:=by simpa using hM
   subst eM;have sI:=(sG.trans sH).trans (aF (o:=.lst ([.int 1]++[]++[])) hx5)
   generalize aI H11 x5 (.lst ([.int 1]++[]++[]))=H12 at sI ⊢;refine⟨mF rfl,fun y1 hy1=>?_⟩
   have sJ:=sI.trans (aF (o:=.lst [.int 0]) hy1)
   have gy1:(aI H12 y1 (.lst [.int 0])) y1=some (.lst [.int 0]):=aB
   generalize aI H12 y1 (.lst [.int 0])=H13 at sJ gy1 ⊢;have gr13:=sJ _ _ (sD _ _ g)
   refine⟨ra,rfl,⟨_,SqL.of gr13⟩,gG (SqL.of gr13) fun y2 hy2=>?_⟩
   refine⟨_,_,aF hy2 _ _ gy1,aB,mF rfl,fun y3 hy3=>⟨y3,[0],rfl,SqL.of aB,Zd,fun M hM _=>?_⟩⟩
   have eM:M=0:=by simpa using hM
   subst eM;have sK:=(sJ.trans (aF (o:=.lst []) hy2)).trans (aF (o:=.lst ([.int 0]++[])) hy3)
   refine⟨aX rfl,fun t H' sL gt=>q t bl kl ol H' ((sD.trans sK).trans sL) gt (sL _ _ (sK _ _ gbl8)) (sL _ _ (sK _ _ gkl8)) (sL _ _ (sK _ _ gol8))⟩
end
end KL
namespace KL
open PySem L2
section
variable {P:Program} {w:World} {K:W.Frag} {mg:Str->Option Value} {base:Heap}
structure JT (K:W.Frag) (C:Addr):Prop where
 cl:Cls K C
 nW:NoAttr K C "written"
 nS:NoAttr K C "safe_count"
def qN:Sp:=fun vs H Q _=>vs=[.str ("":Str)]/\∀l H',H l=none->H' l=some (.lst [])->Same H H'->Q (.ref l) H'
theorem uX (T:Txt K mg) (D:DefAt K mg "rows_of" jC ["text"]):aH P w K mg base 1 "rows_of" ["text"] qN:=by
 refine D.go hJ (fun vs H Q E h=>?_) (fun f cdv A outer s H vs Q E hr h=>?_)
 ·obtain⟨rfl,_⟩:=h;rfl
 ·obtain⟨rfl,q⟩:=h
  refine⟨_,(R.ae (R.au (i:=1) hJ.nd (R.bf R.ac)) (R.ae (R.bv PassesOwn.never rfl (R.fh (K:=K) rfl T.b_enumerate (R.sl (R.dq (K:=K)) (R.cn (K:=K) PySem.F.plainAttrs_str PySem.F.slot_str_split PySem.F.type_str_split R.fc (R.v 0) (R.aa R.ak R.ac)) R.pn (R.ps (R.az R.ad)))) (R.ca (K:=K) (n:=2) rfl (R.ay (R.gn (i:=2) hJ.nd) (R.ay (R.gn (i:=3) hJ.nd) R.cb))) (R.af R.bc)) (R.af (R.aj (R.v 1))))),?_⟩
  refine⟨mF rfl,fun l hl=>?_⟩
  dsimp only [aK];have s1:=aF (o:=.lst []) hl
  have g1:(aI H l (.lst [])) l=some (.lst []):=aB
  generalize aI H l (.lst [])=H1 at s1 g1 ⊢;refine⟨rfl,Zk,Zk,fun l2 h2=>?_⟩
  have e2:(Txt.split ("":Str) ("\n":Str)).map V.str=[V.str ("":Str)]:=by kernel_rfl
  rw[e2];have s2:=s1.trans (aF (o:=.lst [V.str ("":Str)]) h2)
  have g2:=aF (o:=.lst [V.str ("":Str)]) h2 _ _ g1
  have gl2:(aI H1 l2 (.lst [V.str ("":Str)])) l2=some (.lst [V.str ("":Str)]):=aB
  generalize aI H1 l2 (.lst [V.str ("":Str)])=H2 at s2 g2 gl2 ⊢;refine⟨_,SqL.of gl2,fun l3 h3=>?_⟩
  rw[show gH [V.str ("":Str)] none (some (-1))=[] by kernel_rfl]
  have s3:=s2.trans (aF (o:=.lst []) h3)
  have g3:=aF (o:=.lst []) h3 _ _ g2
  have gl3:(aI H2 l3 (.lst [])) l3=some (.lst []):=aB
  generalize aI H2 l3 (.lst [])=H3 at s3 g3 gl3 ⊢;refine⟨_,SqL.of gl3,?_⟩
  refine Fw (K:=K) (a:=l3) (xs:=[]) (tb:=fun _ _ _=>False) (fun i σ H'=>H'=H3/\σ=[some (.str ("":Str)),some (.ref l),none,none]) (fun i σ H' h=>by rw[h.1];exact SqL.of gl3) ⟨rfl,rfl⟩ (fun i x σ H' t hx=>by simp at hx) fun σ H' h=>?_
  rw[h.1,h.2];exact q l H3 hl g3 s3
def Na (C:Addr):Sp:=fun vs H Q _=>∃p dx,vs=[.ref p,.str ("":Str)]/\H p=some (.ins C dx [])/\∀H' lw,H lw=none->H' p=some (.ins C dx (jf lw 0))->H' lw=some (.lst [])->(∀c o,H c=some o->c≠p->H' c=some o)->Q .non H'
theorem Bs {C:Addr} (T:Txt K mg) (B:JT K C) (c_rows_of:aH P w K mg base 1 "rows_of" ["text"] qN) (D:ClsAt K mg "Journal" C "Journal.__init__" bD ["self","text"] [[],[.str ("":Str)]]):∀d∈([[],[.str ("":Str)]]:List (List V)),vJ P w K mg base 2 "Journal" C ["self","text"] d (Na C):=by
 refine D.go jH (fun vs H Q E h=>?_) (fun f cdv A outer s H vs Q E hr h=>?_)
 ·obtain⟨p,dx,rfl,_⟩:=h;rfl
 ·obtain⟨p,dx,rfl,hp,q⟩:=h
  have hr_rows_of:=hr
  refine⟨_,(R.ae (R.ax (K:=K) (R.v 0) (R.fn c_rows_of hr_rows_of rfl (R.aa (R.v 1) R.ac))) (R.af (R.ax (K:=K) (R.v 0) (R.ba (R.bo (K:=K)) rfl T.b_len bY (R.aa (R.av (K:=K) (R.v 0)) R.ac))))),?_⟩
  refine⟨rfl,fun l H1 hl g1 s1=>?_⟩
  have npl:p≠l:=aE hp hl
  refine⟨C,dx,[],s1 _ _ hp,B.cl,B.nW,(by show 0<1000;decide),?_⟩
  dsimp only;rw[show bI "written" (.ref l) []=([("written",.ref l)]:List (Str × V)) from rfl];have g2:(aI H1 p (.ins C dx [("written",.ref l)])) p=some (.ins C dx [("written",.ref l)]):=aB
  have gl2:(aI H1 p (.ins C dx [("written",.ref l)])) l=some (.lst []):=by rw[aD npl.symm];exact g1
  have k2:∀c o,H1 c=some o->c≠p->(aI H1 p (.ins C dx [("written",.ref l)])) c=some o:=fun c o e hc=>by rw[aD hc];exact e
  generalize aI H1 p (.ins C dx [("written",.ref l)])=H2 at g2 gl2 k2 ⊢;refine⟨C,dx,_,.ref l,g2,B.cl,B.nW,by kernel_rfl,_,.inl (SqL.of gl2),?_⟩
  refine⟨C,dx,_,g2,B.cl,B.nS,(by show 1<1000;decide),?_⟩
  refine q _ l hl (by rw[aB];congr 1) (by rw[aD npl.symm];exact gl2) fun c o e hc=>?_
  rw[aD hc];exact k2 _ _ (s1 _ _ e) hc
def oV (C:Addr):Sp:=fun vs H Q _=>∃(x lw dx:Addr) (n:Int) (us:List V) (v:V),vs=[.ref x,v]/\H x=some (.ins C dx (jf lw n))/\H lw=some (.lst us)/\us.length<=1000/\Q .non (aI H lw (.lst (us++[v])))
def uY (C:Addr):Sp:=fun vs H Q _=>∃(x lw dx:Addr) (n:Int) (us:List V),vs=[.ref x]/\H x=some (.ins C dx (jf lw n))/\H lw=some (.lst us)/\Q .non (aI H x (.ins C dx (jf lw us.length)))
def zA (C:Addr):Sp:=fun vs H Q _=>∃(x lw dx:Addr) (n:Int) (us:List V),vs=[.ref x]/\H x=some (.ins C dx (jf lw n))/\H lw=some (.lst us)/\∀l,H l=none->Q (.ref l) (aI H l (.lst us))
def zB (C:Addr):Sp:=fun vs H Q _=>∃(x lw dx:Addr) (n:Int),vs=[.ref x]/\H x=some (.ins C dx (jf lw n))/\Q (.int n) H
theorem Bt {C:Addr} (B:JT K C) (D:MethAt K C "write" "Journal.write" cP ["self","row"]):cZ P w K mg base 1 C "write" ["self","row"] (oV C):=by
 refine D.go lJ (fun vs H Q E h=>?_) (fun f cdv A outer s H vs Q E hr h=>?_)
 ·obtain⟨x,lw,dx,n,us,v,rfl,_⟩:=h;rfl
 ·obtain⟨x,lw,dx,n,us,v,rfl,hx,hl,hn,q⟩:=h
  refine⟨_,(R.af (R.bq (R.cn (K:=K) PySem.F.plainAttrs_list PySem.F.slot_list_append PySem.F.type_list_append R.gi (R.av (K:=K) (R.v 0)) (R.aa (R.v 1) R.ac)))),?_⟩
  exact⟨C,dx,_,.ref lw,hx,B.cl,B.nW,by kernel_rfl,.inl ⟨rfl,_,SqL.of hl⟩,lw,us,v,rfl,rfl,hl,zP hn Zd,q⟩
theorem Bu {C:Addr} (T:Txt K mg) (B:JT K C) (D:MethAt K C "force" "Journal.force" cQ ["self"]):cZ P w K mg base 1 C "force" ["self"] (uY C):=by
 refine D.go lK (fun vs H Q E h=>?_) (fun f cdv A outer s H vs Q E hr h=>?_)
 ·obtain⟨x,lw,dx,n,us,rfl,_⟩:=h;rfl
 ·obtain⟨x,lw,dx,n,us,rfl,hx,hl,q⟩:=h
  refine⟨_,(R.af (R.ax (K:=K) (R.v 0) (R.ba (R.bo (K:=K)) rfl T.b_len bY (R.aa (R.av (K:=K) (R.v 0)) R.ac)))),?_⟩
  refine⟨C,dx,_,.ref lw,hx,B.cl,B.nW,by kernel_rfl,_,.inl (SqL.of hl),?_⟩
  refine⟨C,dx,_,hx,B.cl,B.nS,(by show 2<1000;decide),?_⟩
  dsimp only;rw[show bI "safe_count" (.int us.length) (jf lw n)=jf lw us.length by kernel_rfl]
  exact q
theorem Hi {C:Addr} (T:Txt K mg) (B:JT K C) (D:MethAt K C "rows" "Journal.rows" dG ["self"]):cZ P w K mg base 1 C "rows" ["self"] (zA C):=by
 refine D.go mH (fun vs H Q E h=>?_) (fun f cdv A outer s H vs Q E hr h=>?_)
 ·obtain⟨x,lw,dx,n,us,rfl,_⟩:=h;rfl
 ·obtain⟨x,lw,dx,n,us,rfl,hx,hl,q⟩:=h
  refine⟨_,(R.af (R.aj (R.cw (R.gg (K:=K)) rfl T.b_list rN (R.aa (R.av (K:=K) (R.v 0)) R.ac)))),?_⟩
  exact⟨C,dx,_,.ref lw,hx,B.cl,B.nW,by kernel_rfl,_,.inl (SqL.of hl),q⟩
theorem Hj {C:Addr} (B:JT K C) (D:MethAt K C "safe" "Journal.safe" dH ["self"]):cZ P w K mg base 1 C "safe" ["self"] (zB C):=by
 refine D.go mJ (fun vs H Q E h=>?_) (fun f cdv A outer s H vs Q E hr h=>?_)
 ·obtain⟨x,lw,dx,n,rfl,_⟩:=h;rfl
 ·obtain⟨x,lw,dx,n,rfl,hx,q⟩:=h
  refine⟨_,(R.af (R.aj (R.av (K:=K) (R.v 0)))),?_⟩
  exact⟨C,dx,_,.int n,hx,B.cl,B.nS,by kernel_rfl,q⟩
end
end KL
namespace KL
open PySem L2
section
variable {P:Program} {w:World} {K:W.Frag} {mg:Str->Option Value} {base:Heap}
structure Lk (K:W.Frag) (C:Addr):Prop where
 cl:Cls K C
 nN:NoAttr K C "number"
 nA:NoAttr K C "asker"
 nK:NoAttr K C "key"
 nD:NoAttr K C "deed"
 nS:NoAttr K C "stage"
 nP:NoAttr K C "place"
 nU:NoAttr K C "undos"
structure Cg (K:W.Frag) (C:Addr):Prop where
 cl:Cls K C
 nT:NoAttr K C "turn"
 nB:NoAttr K C "book"
 nS:NoAttr K C "standing"
 nR:NoAttr K C "runs"
 nN:NoAttr K C "next_number"
def Hk (C:Addr):Sp:=fun vs H Q _=>∃r:Rn,vs=[.ref r.p,.int r.n,.str r.q.1,.str r.q.2,.ref r.d,.str r.st]/\r.pl=0/\r.un=0/\H r.p=some (.ins C r.dx [])/\Q .non (aI H r.p (.ins C r.dx r.fs))
theorem Ll {C:Addr} (B:Lk K C) (D:ClsAt K mg "Run" C "Run.__init__" bS ["self","number","asker","key","deed","stage"] [[]]):∀d∈([[]]:List (List V)),vJ P w K mg base 1 "Run" C ["self","number","asker","key","deed","stage"] d (Hk C):=by
 refine D.go mK (fun vs H Q E h=>?_) (fun f cdv A outer s H vs Q E hr h=>?_)
 ·obtain⟨r,rfl,_⟩:=h;rfl
 ·obtain⟨⟨p,dx,n,q,d,x,st,pl,un⟩,rfl,rfl,rfl,hp,q0⟩:=h
  refine⟨_,(R.ae (R.ax (K:=K) (R.v 0) (R.v 1)) (R.ae (R.ax (K:=K) (R.v 0) (R.v 2)) (R.ae (R.ax (K:=K) (R.v 0) (R.v 3)) (R.ae (R.ax (K:=K) (R.v 0) (R.v 4)) (R.ae (R.ax (K:=K) (R.v 0) (R.v 5)) (R.ae (R.ax (K:=K) (R.v 0) R.ad) (R.af (R.ax (K:=K) (R.v 0) R.ad)))))))),?_⟩
  refine⟨C,dx,[],hp,B.cl,B.nN,(by show 0<1000;decide),?_⟩
  dsimp only;rw[show bI "number" (.int n) []=([("number",.int n)]:List (Str × V)) by kernel_rfl]
  refine⟨C,dx,_,aB,B.cl,B.nA,(by show 1<1000;decide),?_⟩
  dsimp only;rw[gJ,show bI "asker" (.str q.1) ([("number",.int n)]:List (Str × V))=([("number",.int n),("asker",.str q.1)]:List (Str × V)) by kernel_rfl]
  refine⟨C,dx,_,aB,B.cl,B.nK,(by show 2<1000;decide),?_⟩
  dsimp only;rw[gJ,show bI "key" (.str q.2) ([("number",.int n),("asker",.str q.1)]:List (Str × V))=([("number",.int n),("asker",.str q.1),("key",.str q.2)]:List (Str × V)) by kernel_rfl]
  refine⟨C,dx,_,aB,B.cl,B.nD,(by show 3<1000;decide),?_⟩
  dsimp only;rw[gJ,show bI "deed" (.ref d) ([("number",.int n),("asker",.str q.1),("key",.str q.2)]:List (Str × V))=([("number",.int n),("asker",.str q.1),("key",.str q.2),("deed",.ref d)]:List (Str × V)) by kernel_rfl]
  refine⟨C,dx,_,aB,B.cl,B.nS,(by show 4<1000;decide),?_⟩
  dsimp only;rw[gJ,show bI "stage" (.str st) ([("number",.int n),("asker",.str q.1),("key",.str q.2),("deed",.ref d)]:List (Str × V))=([("number",.int n),("asker",.str q.1),("key",.str q.2),("deed",.ref d),("stage",.str st)]:List (Str × V)) by kernel_rfl]
  refine⟨C,dx,_,aB,B.cl,B.nP,(by show 5<1000;decide),?_⟩
  dsimp only;rw[gJ,show bI "place" (.int 0) ([("number",.int n),("asker",.str q.1),("key",.str q.2),("deed",.ref d),("stage",.str st)]:List (Str × V))=([("number",.int n),("asker",.str q.1),("key",.str q.2),("deed",.ref d),("stage",.str st),("place",.int 0)]:List (Str × V)) by kernel_rfl]
  refine⟨C,dx,_,aB,B.cl,B.nU,(by show 6<1000;decide),?_⟩
  dsimp only;rw[gJ,show bI "undos" (.int 0) ([("number",.int n),("asker",.str q.1),("key",.str q.2),("deed",.ref d),("stage",.str st),("place",.int 0)]:List (Str × V))=([("number",.int n),("asker",.str q.1),("key",.str q.2),("deed",.ref d),("stage",.str st),("place",.int 0),("undos",.int 0)]:List (Str × V)) by kernel_rfl]
  exact q0
def Us (r:Rn):List V:=[.int r.n,.str r.q.1,.str r.q.2,.ref r.d,.str r.st]
def Nb (C:Addr):Sp:=fun vs H Q _=>∃r:Rn,vs=[.ref r.p]/\H r.p=some (.ins C r.dx r.fs)/\∀t H',Same H H'->H' t=some (.tup (Us r))->Q (.ref t) H'
theorem Rf {C:Addr} (B:Lk K C) (D:MethAt K C "as_tuple" "Run.as_tuple" dI ["self"]):cZ P w K mg base 1 C "as_tuple" ["self"] (Nb C):=by
 refine D.go mL (fun vs H Q E h=>?_) (fun f cdv A outer s H vs Q E hr h=>?_)
 ·obtain⟨r,rfl,_⟩:=h;rfl
 ·obtain⟨r,rfl,hp,q⟩:=h
  refine⟨_,(R.af (R.aj (R.ap (R.aa (R.av (K:=K) (R.v 0)) (R.aa (R.av (K:=K) (R.v 0)) (R.aa (R.av (K:=K) (R.v 0)) (R.aa (R.av (K:=K) (R.v 0)) (R.aa (R.av (K:=K) (R.v 0)) R.ac)))))))),?_⟩
  exact⟨C,_,_,.int r.n,hp,B.cl,B.nN,by kernel_rfl,C,_,_,.str r.q.1,hp,B.cl,B.nA,by kernel_rfl,C,_,_,.str r.q.2,hp,B.cl,B.nK,by kernel_rfl,C,_,_,.ref r.d,hp,B.cl,B.nD,by kernel_rfl,C,_,_,.str r.st,hp,B.cl,B.nS,by kernel_rfl,aX rfl,q⟩
def zC (C:Addr):Sp:=fun vs H Q _=>∃(v:V) (r:Rn),vs=[v,.ref r.p]/\H r.p=some (.ins C r.dx r.fs)/\r.st="new"/\Q (.bl false) H
theorem Hl {C:Addr} (B:Lk K C) (D:MethAt K C "is_held_up_by" "Run.is_held_up_by" bP ["self","other"]):cZ P w K mg base 1 C "is_held_up_by" ["self","other"] (zC C):=by
 refine D.go iQ (fun vs H Q E h=>?_) (fun f cdv A outer s H vs Q E hr h=>?_)
 ·obtain⟨v,r,rfl,_⟩:=h;rfl
 ·obtain⟨v,r,rfl,hp,hs,q⟩:=h
  refine⟨_,(R.ae (R.aq (R.al R.eq (R.av (K:=K) (R.v 1)) R.ak) (R.af (R.aj R.bl)) R.ar) (R.af R.bc)),?_⟩
  refine⟨C,_,_,.str r.st,hp,B.cl,B.nS,by kernel_rfl,?_⟩
  rw[hs];exact q
theorem kQ {rs:List Rn} (hu:rs.Pairwise fun r r'=>r.n<r'.n) {r:Rn} (hr:r∈rs):aY (aV rs) (Sum.inl (r.n:Int))=some (.ref r.p):=by
 induction rs with
 | nil=>cases hr
 | cons z zs ih=>
  obtain⟨h1,h2⟩:=List.pairwise_cons.mp hu
  unfold aV;rw[List.map_cons];rcases List.mem_cons.mp hr with rfl | m
  ·exact bN rfl
  ·have hlt:=h1 r m
   rw[bO (fun e=>by have e':(z.n:Int)=(r.n:Int):=Sum.inl.inj e;omega)]
   exact ih h2 m
theorem Bv {rs:List Rn} {n:Nat} (h:∀r∈rs,r.n<n):aY (aV rs) (Sum.inl (n:Int))=none:=by
 cases e:aY (aV rs) (Sum.inl (n:Int)) with
 | none=>rfl
 | some v=>
  have:=uI e
  unfold aV at this;obtain⟨r,hr,e2⟩:=Zmm.mp this
  have e3:(r.n:Int)=(n:Int):=Sum.inl.inj (congrArg Prod.fst e2)
  have:=h r hr
  omega
theorem Bw {pre post:List Rn} {r:Rn} (hu:(pre++r::post).Pairwise fun r r'=>r.n<r'.n):bQ (aV (pre++r::post)) (Sum.inl (r.n:Int))=aV (pre++post):=by
 have h1:=List.pairwise_append.mp hu
 have h2:=List.pairwise_cons.mp h1.2.1
 unfold aV bQ;rw[jV,List.map_cons,List.filter_append,List.filter_cons,if_neg Zs,jV]
 congr 1
 ·rw[List.filter_eq_self];intro kv hkv;obtain⟨z,hz,rfl⟩:=Zmm.mp hkv
  have:=h1.2.2 z hz r nC
  exact decide_eq_true fun e=>by have e':(z.n:Int)=(r.n:Int):=Sum.inl.inj e;omega
 ·rw[List.filter_eq_self];intro kv hkv;obtain⟨z,hz,rfl⟩:=Zmm.mp hkv
  have:=h2.1 z hz
  exact decide_eq_true fun e=>by have e':(z.n:Int)=(r.n:Int):=Sum.inl.inj e;omega
section
variable {c:CK} {H H':Hp} {a:DA} {s s':DS}
theorem DAt.radd (h:DAt c H a s) {r:Rn} (hp:H r.p=none) (hx:H r.dx=none) (hne:r.dx≠r.p) (hd:H r.d=some (.tup r.x.vs)) (hu:∀r'∈s.runs,r'.n<r.n) :
  DAt c (aI (aI (aI H r.dx (.own r.p)) r.p (.ins c.R r.dx r.fs)) a.rn (.dK (aV (s.runs++[r])))) a {s with runs:=s.runs++[r] }/\Mv a s {s with runs:=s.runs++[r] } H (aI (aI (aI H r.dx (.own r.p)) r.p (.ins c.R r.dx r.fs)) a.rn (.dK (aV (s.runs++[r])))):=by
 have k1:Same H (aI (aI H r.dx (.own r.p)) r.p (.ins c.R r.dx r.fs)):=fun b o e=>by rw[aD (aE e hp),aD (aE e hx)];exact e
 have g1:(aI (aI H r.dx (.own r.p)) r.p (.ins c.R r.dx r.fs)) r.p=some (.ins c.R r.dx r.fs):=aB
 generalize aI (aI H r.dx (.own r.p)) r.p (.ins c.R r.dx r.fs)=H1 at k1 g1 ⊢;obtain⟨bs,ss,ho,d1,d2⟩:=h.own
 have grn:=ho.get 10 rfl
 have npr:r.p≠a.rn:=(aE grn hp).symm
 have t:TK H (aI H1 a.rn (.dK (aV (s.runs++[r])))):=fun b xs e=>by rw[aD (aM e grn fun z=>nomatch z)];exact k1 _ _ e
 have ho1:=(ho.same k1).set 10 rfl (.dK (aV (s.runs++[r])))
 have hk:r.p∉((a.all c s bs ss).set 10 (a.rn,.dK (aV (s.runs++[r])))).map (·.1):=by
  rw[List.map_set];intro m;rcases List.mem_or_eq_of_mem_set m with z | z
  ·exact ho.keys hp z
  ·exact npr z
 have ho2:=ho1.snoc hk (o:=.ins c.R r.dx r.fs) (by rw[aD npr];exact g1)
 have e:(a.all c s bs ss).set 10 (a.rn,.dK (aV (s.runs++[r])))++[(r.p,.ins c.R r.dx r.fs)]=a.all c {s with runs:=s.runs++[r] } bs ss:=by
  unfold DA.all;show _=a.objs c {s with runs:=s.runs++[r] } bs ss++(s.runs++[r]).map (mO c)
  rw[jV,<- List.append_assoc];rfl
 rw[e]at ho2;refine⟨⟨⟨bs,ss,ho2,d1.keep t,d2.keep t⟩,h.nd,?_,fun q hq=>?_⟩,⟨fun b o z hb=>?_,fun q hq=>?_,fun b z=>?_⟩⟩
 ·exact List.pairwise_append.mpr ⟨h.up,Zs,fun x hx y hy=>by rw[Zms.mp hy];exact hu x hx⟩
 ·rcases Zma.mp hq with m | m
  ·exact t _ _ (h.dd q m)
  ·rw[Zms.mp m];exact t _ _ hd
 ·rw[aD fun w=>hb (by rw[w];simp [DA.fix])];exact k1 _ _ z
 ·rcases Zma.mp hq with m | m
  ·exact .inl (List.mem_map_of_mem m)
  ·rw[Zms.mp m];exact .inr hp
 ·by_cases q:b=a.rn
  ·rw[q,aB]at z;cases z
  ·rw[aD q]at z;exact Same.gr k1 b z
theorem DAt.rdrop {pre post:List Rn} {r:Rn} (h:DAt c H a s) (hs:s.runs=pre++r::post):DAt c (aI H a.rn (.dK (aV (pre++post)))) a {s with runs:=pre++post }/\Mv a s {s with runs:=pre++post } H (aI H a.rn (.dK (aV (pre++post)))):=by
 obtain⟨bs,ss,ho,d1,d2⟩:=h.own
 have grn:=ho.get 10 rfl
 have t:TK H (aI H a.rn (.dK (aV (pre++post)))):=fX grn fun _ z=>nomatch z
 have ho1:=ho.set 10 rfl (.dK (aV (pre++post)))
 have sub:(pre++post).Sublist s.runs:=by rw[hs];exact List.Sublist.append_left (List.sublist_cons_self _ _) _
 have e:(a.all c s bs ss).set 10 (a.rn,.dK (aV (pre++post)))=a.objs c {s with runs:=pre++post } bs ss++s.runs.map (mO c):=rfl
 rw[e]at ho1;have ho2:Own _ (a.all c {s with runs:=pre++post } bs ss):=ho1.sub (List.Sublist.append_left (sub.map _) _)
 refine⟨⟨⟨bs,ss,ho2,d1.keep t,d2.keep t⟩,h.nd,h.up.sublist sub,fun q hq=>t _ _ (h.dd q (sub.subset hq))⟩,⟨fun b o z hb=>?_,fun q hq=>.inl (List.mem_map_of_mem (sub.subset hq)),fun b z=>?_⟩⟩
 ·rw[aD fun w=>hb (by rw[w];simp [DA.fix])];exact z
 ·by_cases q:b=a.rn
  ·rw[q,aB]at z;cases z
  ·rw[aD q]at z;exact z
end
def kR (p dx:Addr) (n:Nat) (q:Str × Str) (d:Addr) (x:Dd) (st:Str):Rn:=⟨p,dx,n,q,d,x,st,0,0⟩
def Nc (c:CK):Sp:=fun vs H Q _=>∃(a:DA) (s:DS) (n:Nat) (q:Str × Str) (d:Addr) (x:Dd) (st:Str),vs=[.ref a.me,.int n,.str q.1,.str q.2,.ref d,.str st]/\DAt c H a s/\s.L<=500/\(∀n' d',s.m q≠some (.busy n' d'))/\H d=some (.tup x.vs)/\(∀r∈s.runs,r.n<n)/\s.runs.length<=500 ∧
 ∀p dx H',DAt c H' a {s with m:=s.m.set q (some (.busy n d)),L:=s.L+1,runs:=s.runs++[kR p dx n q d x st] }->Mv a s {s with m:=s.m.set q (some (.busy n d)),L:=s.L+1,runs:=s.runs++[kR p dx n q d x st] } H H'->Q .non H'
theorem Rg {c:CK} (BM:Cg K c.M) (c_Keys_begin:cZ P w K mg base 1 c.Ks "begin" ["self","asker","key","number","deed"] (yU c.Ks)) (c_Run:vJ P w K mg base 1 "Run" c.R ["self","number","asker","key","deed","stage"] [] (Hk c.R)) (D:MethAt K c.M "put" "Memory.put" fE ["self","number","asker","key","deed","stage"]) :
  cZ P w K mg base 3 c.M "put" ["self","number","asker","key","deed","stage"] (Nc c):=by
 refine D.go pE (fun vs H Q E h=>?_) (fun f cdv A outer s H vs Q E hr h=>?_)
 ·obtain⟨a,s,n,q,d,x,st,rfl,_⟩:=h;rfl
 ·obtain⟨a,s,n,q,d,x,st,rfl,h,hL,hm,hd,hu,hl,q0⟩:=h
  have hu1:=dP hr
  have hr_Keys_begin:Room 1 _:=hr.mono Zd
  have hr_Run:=hr
  refine⟨_,(R.ae (R.bq (R.be c_Keys_begin hr_Keys_begin (R.av (K:=K) (R.v 0)) (R.aa (R.v 2) (R.aa (R.v 3) (R.aa (R.v 1) (R.aa (R.v 4) R.ac)))))) (R.af (R.bz (R.da c_Run hr_Run rfl (R.aa (R.v 1) (R.aa (R.v 2) (R.aa (R.v 3) (R.aa (R.v 4) (R.aa (R.v 5) R.ac)))))) (R.cj (R.av (K:=K) (R.v 0)) (R.v 1) (R.ce hu1))))),?_⟩
  refine⟨c.M,_,_,.ref a.ks,h.me,BM.cl,BM.nS,by kernel_rfl,a.kf.dx,_,h.ks,uJ _ _ Zk Zk Zk,a.ks,a.kf,s.life,s.m,s.L,q,n,d,rfl,h.ky,hL,hm,fun H1 k1 f1=>?_⟩
  obtain⟨h1,v1⟩:=h.keys k1 f1
  dsimp only [aK];intro p dx hp hdx hne;refine⟨kR p dx n q d x st,rfl,rfl,rfl,aB,rfl,?_⟩
  obtain⟨h2,v2⟩:=h1.radd (r:=kR p dx n q d x st) hp hdx hne (v1.tk h _ _ hd) hu
  show Ob _ _ _ _ _ (aI (aI (aI H1 dx (.own p)) p (.ins c.R dx [])) p (.ins c.R dx (kR p dx n q d x st).fs)) _
  rw[gJ];have gme:(aI (aI H1 dx (.own p)) p (.ins c.R dx (kR p dx n q d x st).fs)) a.me=some (.ins c.M a.mx (mf a s.turn s.next)):=by rw[aD (aE h1.me hp),aD (aE h1.me hdx)];exact h1.me
  have grn:(aI (aI H1 dx (.own p)) p (.ins c.R dx (kR p dx n q d x st).fs)) a.rn=some (.dK (aV s.runs)):=by rw[aD (aE h1.rn hp),aD (aE h1.rn hdx)];exact h1.rn
  refine⟨c.M,_,_,.ref a.rn,gme,BM.cl,BM.nR,by kernel_rfl,a.rn,_,rfl,DPut.k (k:=Sum.inl (n:Int)) grn (by unfold aV;rw[dN];exact zP hl Zd),?_⟩
  rw[fZ _ (Bv hu)];have e:aV s.runs++[(Sum.inl (n:Int),V.ref p)]=aV (s.runs++[kR p dx n q d x st]):=by unfold aV;rw[jV];rfl
  rw[e];exact q0 p dx _ h2 (v1.trans v2)
def uZ (c:CK):Sp:=fun vs H Q _=>∃(a:DA) (s:DS) (q:Str × Str) (d:Addr) (x:Dd),vs=[.ref a.me,.str q.1,.str q.2,.ref d]/\DAt c H a s/\s.L<=500/\(∀n' d',s.m q≠some (.busy n' d'))/\H d=some (.tup x.vs)/\(∀r∈s.runs,r.n<s.next)/\s.runs.length<=500 ∧
 ∀p dx H',DAt c H' a {s with m:=s.m.set q (some (.busy s.next d)),L:=s.L+1,runs:=s.runs++[kR p dx s.next q d x "new"],next:=s.next+1 }->Mv a s {s with m:=s.m.set q (some (.busy s.next d)),L:=s.L+1,runs:=s.runs++[kR p dx s.next q d x "new"],next:=s.next+1 } H H'->Q (.int s.next) H'
theorem Bx {c:CK} (BM:Cg K c.M) (c_Memory_put:cZ P w K mg base 3 c.M "put" ["self","number","asker","key","deed","stage"] (Nc c)) (D:MethAt K c.M "begin" "Memory.begin" dJ ["self","asker","key","deed"]):cZ P w K mg base 4 c.M "begin" ["self","asker","key","deed"] (uZ c):=by
 refine D.go iD (fun vs H Q E h=>?_) (fun f cdv A outer s H vs Q E hr h=>?_)
 ·obtain⟨a,s,q,d,x,rfl,_⟩:=h;rfl
 ·obtain⟨a,s,q,d,x,rfl,h,hL,hm,hd,hu,hl,q0⟩:=h
  have hr_Memory_put:=hr
  refine⟨_,(R.ae (R.au (i:=4) iD.nd (R.av (K:=K) (R.v 0))) (R.ae (R.ax (K:=K) (R.v 0) (R.op R.aw (R.v 4) R.ad)) (R.ae (R.bq (R.be c_Memory_put hr_Memory_put (R.v 0) (R.aa (R.v 4) (R.aa (R.v 1) (R.aa (R.v 2) (R.aa (R.v 3) (R.aa R.ak R.ac))))))) (R.af (R.aj (R.v 4)))))),?_⟩
  refine⟨c.M,_,_,.int s.next,h.me,BM.cl,BM.nN,by kernel_rfl,?_⟩
  dsimp only [aK];refine⟨c.M,a.mx,_,h.me,BM.cl,BM.nN,(by show 5<1000;decide),?_⟩
  dsimp only;rw[show bI "next_number" (.int (s.next+1)) (mf a s.turn s.next)=mf a s.turn ((s.next+1:Nat):Int) by kernel_rfl]
  obtain⟨h1,v1⟩:=h.put (H':=aI H a.me (.ins c.M a.mx (mf a s.turn ((s.next+1:Nat):Int)))) 4 {s with next:=s.next+1 } (fun _ _=>rfl) (fun _ _=>rfl) aB (fun b u e hb=>by rw[aD hb];exact e) rfl rfl h.nd rfl
  generalize aI H a.me (.ins c.M a.mx (mf a s.turn ((s.next+1:Nat):Int)))=H1 at h1 v1 ⊢;refine⟨a.mx,_,h1.me,by kernel_rfl,a,_,s.next,q,d,x,"new",rfl,h1,hL,hm,v1.tk h _ _ hd,hu,hl,fun p dx H2 h2 v2=>?_⟩
  exact q0 p dx H2 h2 (v1.trans v2)
end
end KL
namespace KL
open PySem L2
section
variable {P:Program} {w:World} {K:W.Frag} {mg:Str->Option Value} {base:Heap}
def zD (c:CK):Sp:=fun vs H Q _=>∃(a:DA) (s:DS) (pre post:List Rn) (r:Rn),vs=[.ref a.me,.ref r.p]/\DAt c H a s/\s.runs=pre++r::post/\(∀r∈s.runs,r.st="new")/\s.runs.length<64 ∧
 ∀t H',DAt c H' a {s with runs:=pre++{r with st:="held" }::post }->Mv a s {s with runs:=pre++{r with st:="held" }::post } H H'->H' t=some (.tup [.str "holds"])->Q (.ref t) H'
theorem Hm {c:CK} (T:Txt K mg) (BM:Cg K c.M) (BR:Lk K c.R) (c_Run_is_held_up_by:cZ P w K mg base 1 c.R "is_held_up_by" ["self","other"] (zC c.R)) (D:MethAt K c.M "hold" "Memory.hold" cN ["self","run"]):cZ P w K mg base 2 c.M "hold" ["self","run"] (zD c):=by
 refine D.go iR (fun vs H Q E h=>?_) (fun f cdv A outer s H vs Q E hr h=>?_)
 ·obtain⟨a,s,pre,post,r,rfl,_⟩:=h;rfl
 ·obtain⟨a,s,pre,post,r,rfl,h,hs,hn,hl,q0⟩:=h
  have hu1:=dP hr
  have hr_Run_is_held_up_by:=hr
  have hrm:r∈s.runs:=by rw[hs];simp
  refine⟨_,(R.ae (R.dj (i:=2) iR.nd rfl (Or.inl rfl) rfl (js:=[none,some 0,some 1]) (N:=["other","self","run"]) (CompScope.by (aA cN) ["self","run","holders"] rfl rfl Zk) (aS rfl) (R.bj (K:=K) (R.ba (R.eh rfl) rfl T.b_sorted lA (R.aa (R.av (K:=K) (R.v 0)) R.ac))) (fun C s₂ H₂ fp=>⟨(R.gn (i:=0) (show(["other","self","run"]:List Str).Nodup by decide +kernel)),(R.ck (R.bg (R.be c_Run_is_held_up_by hr_Run_is_held_up_by (R.v 2) (R.aa (R.bp hu1 (R.av (K:=K) (R.v 1)) (R.v 0)) R.ac)))),(R.v 0)⟩) rfl) (R.ae (R.aq (R.al R.gt (R.ba (R.bo (K:=K)) rfl T.b_len bY (R.aa (R.v 2) R.ac)) R.ad) (R.af R.bc) R.ar) (R.ae (R.ax (K:=K) (R.v 1) R.ak) (R.af (R.aj (R.ap (R.aa R.ak R.ac))))))),?_⟩
  refine⟨c.M,_,_,.ref a.rn,h.me,BM.cl,BM.nR,by kernel_rfl,s.runs.map fun r=>(r.n:Int),_,.inl h.rn,by unfold aV;rw[List.map_map,List.map_map];rfl,by rw[dN];exact hl,fun l ns hlf hp hso=>⟨l,rfl,⟨_,SqL.of aB⟩,?_⟩⟩
  have k1:=aF (o:=.lst (ns.map V.int)) hlf
  have gl:(aI H l (.lst (ns.map V.int))) l=some (.lst (ns.map V.int)):=aB
  generalize aI H l (.lst (ns.map V.int))=H1 at k1 gl ⊢;have h1:=h.same k1
  refine bR (gB K l (ns.map V.int)) (by rw[dN,hp.length_eq,dN];omega) (fun i ys H'=>H'=H1/\ys=[]) (fun i ys H' ⟨e1,e2⟩=>⟨by rw[e1];exact SqL.of gl,by rw[e2];simp⟩) ⟨rfl,rfl⟩ (fun i x ys H' hx ⟨e1,e2⟩=>?_) (fun ys H' ⟨e1,e2⟩=>?_)
  ·subst e1;subst e2
   rw[iU]at hx;obtain⟨n,hn',rfl⟩:=Option.map_eq_some_iff.mp hx
   have hmem:=hp.mem_iff.mp (jW hn')
   obtain⟨r',hr',rfl⟩:=Zmm.mp hmem
   dsimp only [aK];refine⟨r.dx,_,h1.run hrm,by kernel_rfl,c.M,_,_,.ref a.rn,h1.me,BM.cl,BM.nR,by kernel_rfl,a.rn,.ref r'.p,rfl,?_,.ref r.p,r',rfl,h1.run hr',hn r' hr',?_⟩
   ·have:=DGet.k (k:=Sum.inl (r'.n:Int)) h1.rn
    rw[kQ h.up hr']at this;exact this
   ·exact⟨rfl,rfl⟩
  ·subst e1;subst e2
   intro l2 hl2;dsimp only [aK];have k2:=k1.trans (aF (o:=.lst []) hl2)
   have gl2:(aI H' l2 (.lst [])) l2=some (.lst []):=aB
   generalize aI H' l2 (.lst [])=H2 at k2 gl2 ⊢;have h2:=h.same k2
   refine⟨_,.inl (SqL.of gl2),?_⟩
   refine⟨c.R,r.dx,_,h2.run hrm,BR.cl,BR.nS,(by show 7<1000;decide),?_⟩
   dsimp only;rw[show bI "stage" (.str "held") r.fs={r with st:="held" }.fs by kernel_rfl]
   obtain⟨h3,v3⟩:=h2.rput (r':={r with st:="held" }) hs rfl rfl rfl rfl
   exact⟨aX rfl,fun t H3 k3 gt=>q0 t H3 (h3.same k3) (((Mv.same k2).trans v3).trans (.same k3)) gt⟩
def Hn (c:CK):Sp:=fun vs H Q _=>∃(a:DA) (s:DS) (pre post:List Rn) (r:Rn) (w:Int) (z:Addr) (y:An),vs=[.ref a.me,.int r.n,.int w,.ref z]/\DAt c H a s/\s.runs=pre++r::post/\H z=some (.tup y.vs)/\An.Of r.x y/\(∀q∈vL r.x y,Hc s.prs q)/\s.prs.length<=90/\s.L<=500/\s.m r.q=some (.busy r.n r.d) ∧
 ∀t H',DAt c H' a {s with runs:=pre++post,prs:=iG s.prs (vL r.x y),m:=s.m.set r.q (some (.kept r.n w r.d z)),L:=s.L+1 }->Mv a s {s with runs:=pre++post,prs:=iG s.prs (vL r.x y),m:=s.m.set r.q (some (.kept r.n w r.d z)),L:=s.L+1 } H H'->H' t=some (.tup [.int r.n,.str r.q.1,.str r.q.2,.ref z])->Q (.ref t) H'
theorem Lm {c:CK} (BM:Cg K c.M) (BR:Lk K c.R) (BB:Mn K c.B) (c_changes_of:aH P w K mg base 2 "changes_of" ["deed","answer"] Ha) (c_Book_change:cZ P w K mg base 2 c.B "change" ["self","changes"] (lP c.B)) (c_Keys_settle:cZ P w K mg base 2 c.Ks "settle" ["self","asker","key","turn","answer"] (uK c.Ks)) (D:MethAt K c.M "end" "Memory.end" fF ["self","number","turn","answer"]) :
  cZ P w K mg base 3 c.M "end" ["self","number","turn","answer"] (Hn c):=by
 refine D.go jN (fun vs H Q E h=>?_) (fun f cdv A outer s H vs Q E hr h=>?_)
 ·obtain⟨a,s,pre,post,r,w',z,y,rfl,_⟩:=h;rfl
 ·obtain⟨a,s,pre,post,r,w',z,y,rfl,h,hs,hz,hof,hg,hp90,hL,hm,q0⟩:=h
  have hr_changes_of:=hr
  have hr_Book_change:=hr
  have hr_Keys_settle:=hr
  have hrm:r∈s.runs:=by rw[hs];simp
  refine⟨_,(R.ae (R.au (i:=4) jN.nd (R.fq (R.av (K:=K) (R.v 0)) (R.v 1))) (R.ae (R.bq (R.be c_Book_change hr_Book_change (R.av (K:=K) (R.v 0)) (R.aa (R.fn c_changes_of hr_changes_of rfl (R.aa (R.av (K:=K) (R.v 4)) (R.aa (R.v 3) R.ac))) R.ac))) (R.ae (R.bq (R.be c_Keys_settle hr_Keys_settle (R.av (K:=K) (R.v 0)) (R.aa (R.av (K:=K) (R.v 4)) (R.aa (R.av (K:=K) (R.v 4)) (R.aa (R.v 2) (R.aa (R.v 3) R.ac)))))) (R.af (R.aj (R.ap (R.aa (R.v 1) (R.aa (R.av (K:=K) (R.v 4)) (R.aa (R.av (K:=K) (R.v 4)) (R.aa (R.v 3) R.ac)))))))))),?_⟩
  refine⟨c.M,_,_,.ref a.rn,h.me,BM.cl,BM.nR,by kernel_rfl,a.rn,rfl,.inl ⟨_,.inl h.rn⟩,_,Sum.inl (r.n:Int),.ref r.p,h.rn,rfl,kQ h.up hrm,?_⟩
  rw[hs,Bw (by rw[<- hs];exact h.up)]
  obtain⟨h1,v1⟩:=h.rdrop hs
  have nrp:r.p≠a.rn:=aM (h.run hrm) h.rn fun z=>nomatch z
  have gr1:(aI H a.rn (.dK (aV (pre++post)))) r.p=some (.ins c.R r.dx r.fs):=by rw[aD nrp];exact h.run hrm
  have hz1:=v1.tk h _ _ hz
  have hd1:=v1.tk h _ _ (h.dd r hrm)
  generalize aI H a.rn (.dK (aV (pre++post)))=H1 at h1 v1 gr1 hz1 hd1 ⊢;dsimp only [aK];refine⟨c.M,_,_,.ref a.bk,h1.me,BM.cl,BM.nB,by kernel_rfl,a.bx,_,h1.bk,by kernel_rfl,c.R,_,_,.ref r.d,gr1,BR.cl,BR.nD,by kernel_rfl,r.d,z,r.x,y,rfl,hd1,hz1,hof,fun tp zs H2 s2 gtp hza hzs=>?_⟩
  have h2:=h1.same s2
  have hzl:zs.length<=2:=by
   have:=congrArg List.length hzs
   rw[dN]at this;rw[this];cases r.x <;> cases y <;> simp [vL]
  refine⟨a.bk,a.bx,a.bd,tp,s.prs,zs,rfl,h2.bk,h2.bd,h.nd,gtp,hza,Zo,by rw[hzs];exact hg,fun H3 g3 k3=>?_⟩
  rw[hzs]at g3;obtain⟨h3,v3⟩:=h2.put (H':=H3) 6 {s with runs:=pre++post,prs:=iG s.prs (vL r.x y) } (fun _ _=>rfl) (fun _ _=>rfl) g3 k3 rfl rfl (sV _ _ h.nd) rfl
  have gr3:=k3 _ _ (s2 _ _ gr1) (aM (s2 _ _ gr1) h2.bd fun z=>nomatch z)
  refine⟨c.M,_,_,.ref a.ks,h3.me,BM.cl,BM.nS,by kernel_rfl,a.kf.dx,_,h3.ks,uJ _ _ Zk Zk Zk,c.R,_,_,.str r.q.1,gr3,BR.cl,BR.nA,by kernel_rfl,c.R,_,_,.str r.q.2,gr3,BR.cl,BR.nK,by kernel_rfl,a.ks,a.kf,s.life,s.m,s.L,r.q,r.n,r.d,w',z,rfl,h3.ky,hL,hm,fun H4 k4 f4=>?_⟩
  obtain⟨h4,v4⟩:=h3.keys k4 f4
  have gr4:H4 r.p=some (.ins c.R r.dx r.fs):=by
   have e:=h3.ky
   obtain⟨b1,e1,_⟩:=e.hb
   obtain⟨b2,e2,_⟩:=e.hs
   exact f4 _ _ gr3 (aM gr3 e1 fun z=>nomatch z) (aM gr3 e2 fun z=>nomatch z)
  refine⟨c.R,_,_,.str r.q.1,gr4,BR.cl,BR.nA,by kernel_rfl,c.R,_,_,.str r.q.2,gr4,BR.cl,BR.nK,by kernel_rfl,aX rfl,fun t H5 s5 gt=>q0 t H5 (h4.same s5) ((((v1.trans (.same s2)).trans v3).trans v4).trans (.same s5)) gt⟩
end
end KL
namespace KL
open PySem L2
section
variable {P:Program} {w:World} {K:W.Frag} {mg:Str->Option Value} {base:Heap}
theorem Own.rev {H:Hp} {L:List (Addr × HO)} (h:Own H L):Own H L.reverse:=⟨by rw[List.map_reverse];exact List.pairwise_reverse.mpr (h.1.imp fun z=>Ne.symm z),fun q hq=>h.2 q (List.mem_reverse.mp hq)⟩
structure Gw (p:Addr) (H0:Hp) (L:List (Addr × HO)) (H:Hp):Prop where
 own:Own H L
 fr:∀c o,H0 c=some o->c≠p->H c=some o
 nw:∀q∈L,q.1=p∨H0 q.1=none
 hp:∃o,H p=some o
section
variable {p:Addr} {H0 H H':Hp} {L:List (Addr × HO)}
theorem Gw.free (g:Gw p H0 L H) {b:Addr} (hb:H b=none):H0 b=none:=by
 obtain⟨o,e⟩:=g.hp
 cases z:H0 b with
 | none=>rfl
 | some u=>rw[g.fr b u z (fun w=>by rw[w,e]at hb;cases hb)]at hb;cases hb
theorem Gw.same (g:Gw p H0 L H) (k:Same H H'):Gw p H0 L H':=⟨g.own.same k,fun c o e n=>k _ _ (g.fr c o e n),g.nw,let ⟨o,e⟩:=g.hp;⟨o,k _ _ e⟩⟩
theorem Gw.set (g:Gw p H0 L H) (i:Nat) {o:HO} (e:L[i]?=some (p,o)) (o':HO):Gw p H0 (L.set i (p,o')) (aI H p o'):=
 ⟨g.own.set i e o',fun c u z n=>by rw[aD n];exact g.fr c u z n,fun q hq=>(List.mem_or_eq_of_mem_set hq).elim (g.nw q) fun z=>.inl (by rw[z]),⟨o',aB⟩⟩
theorem Gw.add (g:Gw p H0 L H) (M:List (Addr × HO)) (k:Same H H') (hn:(M.map (·.1)).Nodup) (hM:∀q∈M,H q.1=none/\H' q.1=some q.2):Gw p H0 (M++L) H':=by
 have g':=g.same k
 refine⟨⟨?_,fun q hq=>(Zma.mp hq).elim (fun m=>(hM q m).2) (g'.own.2 q)⟩,g'.fr,fun q hq=>(Zma.mp hq).elim (fun m=>.inr (g.free (hM q m).1)) (g.nw q),g'.hp⟩
 rw[jV];refine List.nodup_append.mpr ⟨hn,g.own.1,fun x hx y hy e=>?_⟩
 obtain⟨q,hq,rfl⟩:=Zmm.mp hx
 exact g.own.keys (hM q hq).1 (by rw[e];exact hy)
theorem Gw.add1 (g:Gw p H0 L H) {b:Addr} (o:HO) (hb:H b=none):Gw p H0 ((b,o)::L) (aI H b o):=g.add [(b,o)] (aF hb) Zs (fun q hq=>by rw[Zms.mp hq];exact⟨hb,aB⟩)
end
def Nd (c:CK):Sp:=fun vs H Q _=>∃(p dx:Addr) (life:Int) (t b l o:Addr),vs=[.ref p,.int life,.int 0,.ref t]/\H p=some (.ins c.M dx [])/\H t=some (.tup [.ref b,.ref l,.ref o,.int 1,.int 0])/\H b=some (.lst [])/\H l=some (.lst [])/\H o=some (.lst []) ∧
 ∀(bk bx bd ks rn:Addr) (kf:KF) (bs ss:List (List bE × V)) (H':Hp),Gw p H [(rn,.dK []),(kf.ds,.dT ss),(kf.db,.dT bs),(ks,.ins c.Ks kf.dx (yR kf life)),(bd,.dK (lE [])),(bk,.ins c.B bx [("amounts",.ref bd)]),(p,.ins c.M dx [("turn",.int 0),("book",.ref bk),("standing",.ref ks),("runs",.ref rn),("next_number",.int 1)])] H' →
  Dic H' bs (fun _=>none) fB 0->Dic H' ss (fun _=>none) fS 0->Q .non H'
theorem Rh {c:CK} (BM:Cg K c.M) (c_Book:vJ P w K mg base 1 "Book" c.B ["self","rows"] [] (sM c.B)) (c_Keys:vJ P w K mg base 1 "Keys" c.Ks ["self","life"] [] (yS c.Ks)) (D:ClsAt K mg "Memory" c.M "Memory.__init__" bF ["self","life","turn","up"] [[]]) :
  ∀d∈([[]]:List (List V)),vJ P w K mg base 3 "Memory" c.M ["self","life","turn","up"] d (Nd c):=by
 refine D.go aL (fun vs H Q E h=>?_) (fun f cdv A outer s H vs Q E hr h=>?_)
 ·obtain⟨p,dx,life,t,b,l,o,rfl,_⟩:=h;rfl
 ·obtain⟨p,dx,life,t,b,l,o,rfl,hp,ht,hb,hl,ho,q⟩:=h
  have hr_Book:=hr
  have hr_Keys:=hr
  refine⟨_,(R.ae (R.ax (K:=K) (R.v 0) (R.v 2)) (R.ae (R.ax (K:=K) (R.v 0) (R.da c_Book hr_Book rfl (R.aa (R.ix (R.ah (K:=K)) (R.v 3) R.ad) R.ac))) (R.ae (R.ax (K:=K) (R.v 0) (R.da c_Keys hr_Keys rfl (R.aa (R.v 1) R.ac))) (R.ae (R.ax (K:=K) (R.v 0) R.er) (R.ae (R.ax (K:=K) (R.v 0) (R.ix (R.ah (K:=K)) (R.v 3) R.ad)) (R.ae (R.bv PassesOwn.never rfl (R.bj (K:=K) (R.ix (R.ah (K:=K)) (R.v 3) R.ad)) (R.ca (K:=K) (n:=6) rfl (R.ay (R.gn (i:=4) aL.nd) (R.ay (R.gn (i:=5) aL.nd) (R.ay (R.gn (i:=6) aL.nd) (R.ay (R.gn (i:=7) aL.nd) (R.ay (R.gn (i:=8) aL.nd) (R.ay (R.gn (i:=9) aL.nd) R.cb))))))) (R.ae R.bc (R.af R.bc))) (R.af (R.bv PassesOwn.never rfl (R.bj (K:=K) (R.ix (R.ah (K:=K)) (R.v 3) R.ad)) (R.ca (K:=K) (n:=4) rfl (R.ay (R.gn (i:=4) aL.nd) (R.ay (R.gn (i:=6) aL.nd) (R.ay (R.gn (i:=7) aL.nd) (R.ay (R.gn (i:=8) aL.nd) R.cb))))) (R.af R.bc))))))))),?_⟩
  have g0:Gw p H [(p,.ins c.M dx [])] H:=⟨⟨Zs,fun q hq=>by rw[Zms.mp hq];exact hp⟩,fun _ _ e _=>e,fun q hq=>.inl (by rw[Zms.mp hq]),⟨_,hp⟩⟩
  have ntp:t≠p:=aM ht hp fun z=>nomatch z
  have nbp:b≠p:=aM hb hp fun z=>nomatch z
  have nlp:l≠p:=aM hl hp fun z=>nomatch z
  have nop:o≠p:=aM ho hp fun z=>nomatch z
  refine⟨c.M,dx,[],hp,BM.cl,BM.nT,(by show 0<1000;decide),?_⟩
  dsimp only;rw[show bI "turn" (.int 0) []=([("turn",.int 0)]:List (Str × V)) by kernel_rfl]
  have g1:=g0.set 0 rfl (.ins c.M dx [("turn",.int 0)])
  generalize aI H p (.ins c.M dx [("turn",.int 0)])=H1 at g1 ⊢;refine⟨_,SqT.of (g1.fr _ _ ht ntp),_,rfl,fun bk bx hbk hbx hne=>?_⟩
  have nb:H1 b=some (.lst []):=g1.fr _ _ hb nbp
  refine⟨bk,bx,_,[],rfl,aB,.inr ⟨b,[],rfl,by rw[aD (aE nb hbk),aD (aE nb hbx)];exact nb,(fun _ h=>nomatch h),rfl⟩,List.nodup_nil,Zs,fun H2 bd hbd gbk gbd k2=>⟨rfl,?_⟩⟩
  have s2:Same H1 H2:=fun c o e=>k2 _ _ (by rw[aD (aE e hbk),aD (aE e hbx)];exact e) (aE e hbk)
  have hbd1:H1 bd=none:=by
   cases e:H1 bd with
   | none=>rfl
   | some u=>rw[aD (aE e hbk),aD (aE e hbx),e]at hbd;cases hbd
  have nbk:bd≠bk:=aM gbd gbk fun z=>nomatch z
  have g2:=g1.add [(bd,.dK (lE [])),(bk,.ins c.B bx [("amounts",.ref bd)])] s2 (by simp [nbk]) (fun q hq=>by
   simp only [List.mem_cons,List.not_mem_nil,or_false]at hq
   rcases hq with rfl | rfl
   ·exact⟨hbd1,gbd⟩
   ·exact⟨hbk,gbk⟩)
  refine⟨c.M,dx,_,g2.own.get 2 rfl,BM.cl,BM.nB,(by show 1<1000;decide),?_⟩
  dsimp only;rw[show bI "book" (.ref bk) ([("turn",.int 0)]:List (Str × V))=([("turn",.int 0),("book",.ref bk)]:List (Str × V)) by kernel_rfl]
  have g3:=g2.set 2 rfl (.ins c.M dx [("turn",.int 0),("book",.ref bk)])
  generalize aI H2 p (.ins c.M dx [("turn",.int 0),("book",.ref bk)])=H3 at g3 ⊢;intro ks kx hks hkx hnk;refine⟨ks,kx,life,rfl,aB,fun H4 kf fdb fds ky k4=>⟨rfl,?_⟩⟩
  have s4:Same H3 H4:=fun c o e=>k4 _ _ (by rw[aD (aE e hks),aD (aE e hkx)];exact e) (aE e hks)
  have fr3:∀d,(aI (aI H3 kx (.own ks)) ks (.ins c.Ks kx [])) d=none->H3 d=none:=fun d hd=>by
   cases e:H3 d with
   | none=>rfl
   | some u=>rw[aD (aE e hks),aD (aE e hkx),e]at hd;cases hd
  obtain⟨bs,gdb,db⟩:=ky.hb
  obtain⟨ss,gds,ds⟩:=ky.hs
  have n1:kf.ds≠kf.db:=ky.ne.symm
  have n2:kf.ds≠ks:=aM gds ky.hp fun z=>nomatch z
  have n3:kf.db≠ks:=aM gdb ky.hp fun z=>nomatch z
  have g4:=g3.add [(kf.ds,.dT ss),(kf.db,.dT bs),(ks,.ins c.Ks kf.dx (yR kf life))] s4 (by simp [n1,n2,n3]) (fun q hq=>by
   simp only [List.mem_cons,List.not_mem_nil,or_false]at hq
   rcases hq with rfl | rfl | rfl
   ·exact⟨fr3 _ fds,gds⟩
   ·exact⟨fr3 _ fdb,gdb⟩
   ·exact⟨hks,ky.hp⟩)
  refine⟨c.M,dx,_,g4.own.get 5 rfl,BM.cl,BM.nS,(by show 2<1000;decide),?_⟩
  dsimp only;rw[show bI "standing" (.ref ks) ([("turn",.int 0),("book",.ref bk)]:List (Str × V))=([("turn",.int 0),("book",.ref bk),("standing",.ref ks)]:List (Str × V)) by kernel_rfl]
  have g5:=g4.set 5 rfl (.ins c.M dx [("turn",.int 0),("book",.ref bk),("standing",.ref ks)])
  have t5:TK H4 (aI H4 p (.ins c.M dx [("turn",.int 0),("book",.ref bk),("standing",.ref ks)])):=fX (g4.own.get 5 rfl) fun _ z=>nomatch z
  generalize aI H4 p (.ins c.M dx [("turn",.int 0),("book",.ref bk),("standing",.ref ks)])=H5 at g5 t5 ⊢;intro rn hrn;have g6:=g5.add1 (.dK []) hrn
  have t6:=t5.trans (TK.of (aF (o:=.dK []) hrn))
  generalize aI H5 rn (.dK [])=H6 at g6 t6 ⊢;refine⟨c.M,dx,_,g6.own.get 6 rfl,BM.cl,BM.nR,(by show 3<1000;decide),?_⟩
  dsimp only;rw[show bI "runs" (.ref rn) ([("turn",.int 0),("book",.ref bk),("standing",.ref ks)]:List (Str × V))=([("turn",.int 0),("book",.ref bk),("standing",.ref ks),("runs",.ref rn)]:List (Str × V)) by kernel_rfl]
  have g7:=g6.set 6 rfl (.ins c.M dx [("turn",.int 0),("book",.ref bk),("standing",.ref ks),("runs",.ref rn)])
  have t7:=t6.trans (fX (g6.own.get 6 rfl) (o':=.ins c.M dx [("turn",.int 0),("book",.ref bk),("standing",.ref ks),("runs",.ref rn)]) fun _ z=>nomatch z)
  generalize aI H6 p (.ins c.M dx [("turn",.int 0),("book",.ref bk),("standing",.ref ks),("runs",.ref rn)])=H7 at g7 t7 ⊢;refine⟨_,SqT.of (g7.fr _ _ ht ntp),_,rfl,?_⟩
  refine⟨c.M,dx,_,g7.own.get 6 rfl,BM.cl,BM.nN,(by show 4<1000;decide),?_⟩
  dsimp only;rw[show bI "next_number" (.int 1) ([("turn",.int 0),("book",.ref bk),("standing",.ref ks),("runs",.ref rn)]:List (Str × V))=([("turn",.int 0),("book",.ref bk),("standing",.ref ks),("runs",.ref rn),("next_number",.int 1)]:List (Str × V)) by kernel_rfl]
  have g8:=g7.set 6 rfl (.ins c.M dx [("turn",.int 0),("book",.ref bk),("standing",.ref ks),("runs",.ref rn),("next_number",.int 1)])
  have t8:=t7.trans (fX (g7.own.get 6 rfl) (o':=.ins c.M dx [("turn",.int 0),("book",.ref bk),("standing",.ref ks),("runs",.ref rn),("next_number",.int 1)]) fun _ z=>nomatch z)
  generalize aI H7 p (.ins c.M dx [("turn",.int 0),("book",.ref bk),("standing",.ref ks),("runs",.ref rn),("next_number",.int 1)])=H8 at g8 t8 ⊢;have gl8:=g8.fr _ _ hl nlp
  have go8:=g8.fr _ _ ho nop
  refine⟨_,SqT.of (g8.fr _ _ ht ntp),_,rfl,l,rfl,⟨_,SqL.of gl8⟩,?_⟩
  refine mY (tb:=fun _ _ _=>False) (SqL.of gl8) ?_
  refine⟨_,SqT.of (g8.fr _ _ ht ntp),_,rfl,o,rfl,⟨_,SqL.of go8⟩,?_⟩
  exact mY (tb:=fun _ _ _=>False) (SqL.of go8) (q bk bx bd ks rn kf bs ss H8 g8 (db.keep t8) (ds.keep t8))
end
end KL
namespace KL
open PySem L2
section
variable {P:Program} {w:World} {K:W.Frag} {mg:Str->Option Value} {base:Heap}
theorem Ho {z a:Str} {n:Int} (hz:z="add"∨z="take") (ha:isNm a) (h1:1<=n) (h2:n<=1000000000000):jJ [.str z,.str a,.int n]=true:=(DeedIs.one z a n hz ha h1 h2).ok
theorem Hq {z a b:Str} {n:Int} (hz:z="send"∨z="fetch") (ha:isNm a) (hb:isNm b) (h1:1<=n) (h2:n<=1000000000000):jJ [.str z,.str a,.str b,.int n]=true:=by
 show(eG (.str z) [.str a,.str b]&&tZ 1 1000000000000 (.int n))=true
 have e:eG (.str z) [.str a,.str b]=true:=by
  rcases hz with rfl | rfl
  all_goals
   show(true&&(qB (.str a)&&(qB (.str b)&&true))&&(true||_))=true
   rw[fM ha,fM hb];rfl
 rw[e];show(decide (1<=n)&&decide (n<=1000000000000))=true
 rw[decide_eq_true h1,decide_eq_true h2];rfl
theorem Ln {x:Dd} (h:x.Ok):jJ x.vs=true:=by
 cases x with
 | add a n=>exact Ho (.inl rfl) h.1 (by have:=h.2.1;omega) (by have:=h.2.2;omega)
 | take a n=>exact Ho (.inr rfl) h.1 (by have:=h.2.1;omega) (by have:=h.2.2;omega)
 | move a b n=>exact(DeedIs.two "move" a b n (.inl rfl) h.1 h.2.1 h.2.2.1 (by have:=h.2.2.2.1;omega) (by have:=h.2.2.2.2;omega)).ok
 | send g a n=>exact Hq (.inl rfl) h.1 h.2.1 (by have:=h.2.2.1;omega) (by have:=h.2.2.2;omega)
 | fetch g a n=>exact Hq (.inr rfl) h.1 h.2.1 (by have:=h.2.2.1;omega) (by have:=h.2.2.2;omega)
 | pass g g' a n=>exact(DeedIs.three g g' a n h.1 h.2.1 h.2.2.1 h.2.2.2.1 (by have:=h.2.2.2.2.1;omega) (by have:=h.2.2.2.2.2;omega)).ok
theorem Ut {z:Str} (h:isKy z):dR (.str z) (LET++Rv) 12=true:=by
 rw[fL,decide_eq_true (by have:=h.1;omega),decide_eq_true (by have:=h.2.1;omega),List.all_eq_true.mpr fun c hc=>decide_eq_true (show c∈LET++Rv from h.2.2 c hc)]
 rfl
theorem cF {H:Hp} {z:Str} (h:z.length<=1000):Pt H (.str z):=⟨.str,trivial,fun y e=>by cases e;exact h⟩
theorem lQ {H:Hp} {n:Int}:Pt H (.int n):=⟨.int,trivial,fun y e=>nomatch e⟩
theorem Uu {H:Hp} {d:Addr} {x:Dd} (h:x.Ok) (g:H d=some (.tup x.vs)):Th H (.ref d):=by
 refine⟨⟨.tup,⟨_,g⟩,fun y e=>nomatch e⟩,fun a xs e g' y hy=>?_⟩
 cases e
 rw[g]at g';cases g'
 obtain⟨w1,w2,w3,w4,w5,w6⟩:=Fc
 cases x <;> simp only [Dd.vs,List.mem_cons,List.not_mem_nil,or_false]at hy
 case add=>rcases hy with rfl | rfl | rfl <;> first | exact lQ | exact cF w1 | exact cF h.1.len
 case take=>rcases hy with rfl | rfl | rfl <;> first | exact lQ | exact cF w2 | exact cF h.1.len
 case move=>rcases hy with rfl | rfl | rfl | rfl <;> first | exact lQ | exact cF w3 | exact cF h.1.len | exact cF h.2.1.len
 case send=>rcases hy with rfl | rfl | rfl | rfl <;> first | exact lQ | exact cF w4 | exact cF h.1.len | exact cF h.2.1.len
 case fetch=>rcases hy with rfl | rfl | rfl | rfl <;> first | exact lQ | exact cF w5 | exact cF h.1.len | exact cF h.2.1.len
 case pass=>rcases hy with rfl | rfl | rfl | rfl | rfl <;> first | exact lQ | exact cF w6 | exact cF h.1.len | exact cF h.2.1.len | exact cF h.2.2.1.len
structure Ri (K:W.Frag) (C:Addr):Prop where
 cl:Cls K C
 nN:NoAttr K C "name"
 nL:NoAttr K C "life"
 nH:NoAttr K C "houses"
 nJ:NoAttr K C "journal"
 nM:NoAttr K C "memory"
def Wr (name:Str) (life:Int) (hs:List (bE × V)):DS:=⟨name,life,0,1,hs,[],fun _=>none,0,[],[],0⟩
def zE (c:CK):Sp:=fun vs H Q _=>∃(p dx l:Addr) (name:Str) (life:Int) (zs:List W),vs=[.ref p,.str name,.int life,.ref l]/\H p=some (.ins c.D dx [])/\isNm name/\name.length<=5/\H l=some (.lst (zs.map fun z=>V.ref z.1))/\Wk H zs/\zs.length<=6 ∧
 ∀(a:DA) (H':Hp),a.dr=p->DAt c H' a (Wr name life (dB [] (zs.map (·.2))))->(∀b∈a.fix,b=p∨H b=none)->(∀b o,H b=some o->b≠p->H' b=some o)->Q .non H'
theorem Hr {c:CK} (T:Txt K mg) (BD:Ri K c.D) (c_is_name:aH P w K mg base 2 "is_name" ["thing"] (lB LET 8)) (c_Journal0:vJ P w K mg base 2 "Journal" c.J ["self","text"] [.str ("":Str)] (Na c.J)) (c_risen:aH P w K mg base 5 "risen" ["rows"] Hh) (c_Memory:vJ P w K mg base 3 "Memory" c.M ["self","life","turn","up"] [] (Nd c))
  (D:ClsAt K mg "Door" c.D "Door.__init__" bM ["self","name","life","houses"] [[]]):∀d∈([[]]:List (List V)),vJ P w K mg base 6 "Door" c.D ["self","name","life","houses"] d (zE c):=by
 refine D.go lM (fun vs H Q E h=>?_) (fun f cdv A outer s H vs Q E hr h=>?_)
 ·obtain⟨p,dx,l,name,life,zs,rfl,_⟩:=h;rfl
 ·obtain⟨p,dx,l,name,life,zs,rfl,hp,hnm,hn5,hl,hza,hzl,q⟩:=h
  have hr_is_name:Room 2 _:=hr.mono Zd
  have hr_Journal:Room 3 _:=hr.mono Zd
  have hr_risen:Room 5 _:=hr
  have hr_Memory:Room 4 _:=hr.mono Zd
  refine⟨_,(R.ae (R.aq (R.tw (R.bw (R.bh (R.bg (R.fn c_is_name hr_is_name rfl (R.aa (R.v 1) R.ac)))) (R.cc (R.al R.gt (R.ba R.dh rfl T.b_len bY (R.aa (R.v 1) R.ac)) (R.gI rfl T.g_LONGEST_DOOR_NAME))))) (R.af R.bc) R.ar) (R.ae (R.ax (K:=K) (R.v 0) (R.v 1)) (R.ae (R.ax (K:=K) (R.v 0) (R.v 2)) (R.ae (R.ax (K:=K) (R.v 0) (R.cw (R.dy (K:=K) rfl) rfl T.b_dict yG (R.aa (R.v 3) R.ac))) (R.ae (R.ax (K:=K) (R.v 0) (R.io c_Journal0 hr_Journal rfl)) (R.af (R.ax (K:=K) (R.v 0) (R.da c_Memory hr_Memory rfl (R.aa (R.v 2) (R.aa R.ad (R.aa (R.fn c_risen hr_risen rfl (R.aa (R.bf R.ac) R.ac)) R.ac))))))))))),?_⟩
  refine⟨.str name,.str,rfl,trivial,fun z e=>by cases e;exact hnm.len,fun H1 s1=>?_⟩
  rw[show dR (.str name) LET 8=true from fM hnm];refine⟨gA hnm.len,?_⟩
  refine tR (by rw[decide_eq_false];omega) ?_
  have g0:Gw p H [(p,.ins c.D dx [])] H1:=⟨⟨Zs,fun q hq=>by rw[Zms.mp hq];exact s1 _ _ hp⟩,fun _ _ e _=>s1 _ _ e,fun q hq=>.inl (by rw[Zms.mp hq]),⟨_,s1 _ _ hp⟩⟩
  dsimp only [cT];refine⟨c.D,dx,_,s1 _ _ hp,BD.cl,BD.nN,(by show 0<1000;decide),?_⟩
  dsimp only;rw[show bI "name" (.str name) []=([("name",.str name)]:List (Str × V)) by kernel_rfl]
  have g1:=g0.set 0 rfl (.ins c.D dx [("name",.str name)])
  generalize aI H1 p (.ins c.D dx [("name",.str name)])=H2 at g1 ⊢;refine⟨c.D,dx,_,g1.own.get 0 rfl,BD.cl,BD.nL,(by show 1<1000;decide),?_⟩
  dsimp only;rw[show bI "life" (.int life) ([("name",.str name)]:List (Str × V))=([("name",.str name),("life",.int life)]:List (Str × V)) by kernel_rfl]
  have g2:=g1.set 0 rfl (.ins c.D dx [("name",.str name),("life",.int life)])
  generalize aI H2 p (.ins c.D dx [("name",.str name),("life",.int life)])=H3 at g2 ⊢;have nlp:l≠p:=aM hl hp fun z=>nomatch z
  refine⟨zs,SqL.of (g2.fr _ _ hl nlp),fun z hz=>g2.fr _ _ (hza z hz) (aM (hza z hz) hp fun z=>nomatch z),Zo,fun hd hhd=>?_⟩
  have g3:=g2.add1 (.dK (dB [] (zs.map (·.2)))) hhd
  generalize aI H3 hd (.dK (dB [] (zs.map (·.2))))=H4 at g3 ⊢;refine⟨c.D,dx,_,g3.own.get 1 rfl,BD.cl,BD.nH,(by show 2<1000;decide),?_⟩
  dsimp only;rw[show bI "houses" (.ref hd) ([("name",.str name),("life",.int life)]:List (Str × V))=([("name",.str name),("life",.int life),("houses",.ref hd)]:List (Str × V)) by kernel_rfl]
  have g4:=g3.set 1 rfl (.ins c.D dx [("name",.str name),("life",.int life),("houses",.ref hd)])
  generalize aI H4 p (.ins c.D dx [("name",.str name),("life",.int life),("houses",.ref hd)])=H5 at g4 ⊢;intro j jx hj hjx hjn;refine⟨j,jx,rfl,aB,fun H6 jl hjl gj gjl k6=>⟨rfl,?_⟩⟩
  have s6:Same H5 H6:=fun c o e=>k6 _ _ (by rw[aD (aE e hj),aD (aE e hjx)];exact e) (aE e hj)
  have hjl5:H5 jl=none:=by
   cases e:H5 jl with
   | none=>rfl
   | some u=>rw[aD (aE e hj),aD (aE e hjx),e]at hjl;cases hjl
  have njl:jl≠j:=aM gjl gj fun z=>nomatch z
  have g5:=g4.add [(jl,.lst []),(j,.ins c.J jx (jf jl 0))] s6 (by simp [njl]) (fun q hq=>by
   simp only [List.mem_cons,List.not_mem_nil,or_false]at hq
   rcases hq with rfl | rfl
   ·exact⟨hjl5,gjl⟩
   ·exact⟨hj,gj⟩)
  refine⟨c.D,dx,_,g5.own.get 3 rfl,BD.cl,BD.nJ,(by show 3<1000;decide),?_⟩
  dsimp only;rw[show bI "journal" (.ref j) ([("name",.str name),("life",.int life),("houses",.ref hd)]:List (Str × V))=([("name",.str name),("life",.int life),("houses",.ref hd),("journal",.ref j)]:List (Str × V)) by kernel_rfl]
  have g6:=g5.set 3 rfl (.ins c.D dx [("name",.str name),("life",.int life),("houses",.ref hd),("journal",.ref j)])
  generalize aI H6 p (.ins c.D dx [("name",.str name),("life",.int life),("houses",.ref hd),("journal",.ref j)])=H7 at g6 ⊢;refine⟨mF rfl,fun e he=>?_⟩
  have g7:=g6.same (aF (o:=.lst []) he)
  refine⟨e,rfl,aB,fun t b kl ol H8 s8 gt gb gkl gol=>?_⟩
  have g8:=g7.same s8
  intro me mx hme hmx hmn;have nn:∀ {b u},H8 b=some u->(aI (aI H8 mx (.own me)) me (.ins c.M mx [])) b=some u:=fun e=>by rw[aD (aE e hme),aD (aE e hmx)];exact e
  refine⟨me,mx,life,t,b,kl,ol,rfl,aB,nn gt,nn gb,nn gkl,nn gol,fun bk bx bd ks rn kf bs ss H9 G db ds=>⟨rfl,?_⟩⟩
  have s9:Same H8 H9:=fun b u e=>G.fr _ _ (nn e) (aE e hme)
  have fr8:∀b,(aI (aI H8 mx (.own me)) me (.ins c.M mx [])) b=none->H8 b=none:=fun b e=>by
   cases z:H8 b with
   | none=>rfl
   | some u=>rw[nn z]at e;cases e
  have g9:=g8.add _ s9 G.own.1 fun q hq=>⟨(G.nw q hq).elim (fun e=>by rw[e];exact hme) (fr8 _),G.own.2 q hq⟩
  refine⟨c.D,dx,_,g9.own.get 10 rfl,BD.cl,BD.nM,(by show 4<1000;decide),?_⟩
  dsimp only;rw[show bI "memory" (.ref me) ([("name",.str name),("life",.int life),("houses",.ref hd),("journal",.ref j)]:List (Str × V))=([("name",.str name),("life",.int life),("houses",.ref hd),("journal",.ref j),("memory",.ref me)]:List (Str × V)) by kernel_rfl]
  have t10:TK H9 (aI H9 p (.ins c.D dx [("name",.str name),("life",.int life),("houses",.ref hd),("journal",.ref j),("memory",.ref me)])):=fX (g9.own.get 10 rfl) fun _ z=>nomatch z
  have g10:=g9.set 10 rfl (.ins c.D dx [("name",.str name),("life",.int life),("houses",.ref hd),("journal",.ref j),("memory",.ref me)])
  generalize aI H9 p (.ins c.D dx [("name",.str name),("life",.int life),("houses",.ref hd),("journal",.ref j),("memory",.ref me)])=H10 at t10 g10 ⊢;refine q ⟨p,dx,hd,j,jx,jl,me,mx,bk,bx,bd,ks,rn,kf⟩ H10 rfl ⟨⟨bs,ss,g10.own.rev,db.keep t10,ds.keep t10⟩,List.nodup_nil,List.Pairwise.nil,fun r hr=>nomatch hr⟩ (fun b hb=>?_) g10.fr
  simp only [DA.fix,List.mem_cons,List.not_mem_nil,or_false]at hb
  rcases hb with rfl | rfl | rfl | rfl | rfl | rfl | rfl | rfl | rfl | rfl | rfl
  ·exact .inl rfl
  ·exact g10.nw _ (jW (i:=9) rfl)
  ·exact g10.nw _ (jW (i:=8) rfl)
  ·exact g10.nw _ (jW (i:=7) rfl)
  ·exact g10.nw _ (jW (i:=6) rfl)
  ·exact g10.nw _ (jW (i:=5) rfl)
  ·exact g10.nw _ (jW (i:=4) rfl)
  ·exact g10.nw _ (jW (i:=3) rfl)
  ·exact g10.nw _ (jW (i:=2) rfl)
  ·exact g10.nw _ (jW (i:=1) rfl)
  ·exact g10.nw _ (jW (i:=0) rfl)
end
end KL
namespace KL
open PySem L2
section
variable {P:Program} {w:World} {K:W.Frag} {mg:Str->Option Value} {base:Heap}
theorem vA:∀ {xs ys:List Int},xs.Pairwise (·<=·)->ys.Pairwise (·<=·)->xs.Perm ys->xs=ys
 | [],ys,_,_,p=>(List.nil_perm.mp p).symm
 | x::xs,[],_,_,p=>absurd (List.perm_nil.mp p) Zs
 | x::xs,y::ys,h1,h2,p=>by
  have a1:=List.pairwise_cons.mp h1
  have a2:=List.pairwise_cons.mp h2
  have e:x=y:=by
   have hx:x∈y::ys:=p.mem_iff.mp nC
   have hy:y∈x::xs:=p.mem_iff.mpr nC
   rcases List.mem_cons.mp hx with z | z
   ·exact z
   ·rcases List.mem_cons.mp hy with z' | z'
    ·exact z'.symm
    ·have:=a2.1 _ z;have:=a1.1 _ z';omega
  subst e;rw[vA a1.2 a2.2 ((List.perm_cons x).mp p)]
def jF (c:CK):Sp:=fun vs H Q _=>∃(a:DA) (s:DS),vs=[.ref a.dr]/\DAt c H a s/\Q (.ref a.me) H
theorem Hs {c:CK} (BD:Ri K c.D) (D:MethAt K c.D "known" "Door.known" fH ["self"]):cZ P w K mg base 1 c.D "known" ["self"] (jF c):=by
 refine D.go pF (fun vs H Q E h=>?_) (fun f cdv A outer s H vs Q E hr h=>?_)
 ·obtain⟨a,s,rfl,_⟩:=h;rfl
 ·obtain⟨a,s,rfl,h,q⟩:=h
  refine⟨_,(R.ae (R.aq (R.al R.eu (R.av (K:=K) (R.v 0)) R.bu) (R.af R.bc) R.ar) (R.af (R.aj (R.av (K:=K) (R.v 0))))),?_⟩
  exact⟨c.D,_,_,.ref a.me,h.dr,BD.cl,BD.nM,by kernel_rfl,c.D,_,_,.ref a.me,h.dr,BD.cl,BD.nM,by kernel_rfl,q⟩
def Nf (c:CK):Sp:=fun vs H Q _=>∃(a:DA) (s:DS),vs=[.ref a.dr]/\DAt c H a s/\Q (.int s.turn) H
theorem Rj {c:CK} (BM:Cg K c.M) (c_Door_known:cZ P w K mg base 1 c.D "known" ["self"] (jF c)) (D:MethAt K c.D "now" "Door.now" gW ["self"]):cZ P w K mg base 2 c.D "now" ["self"] (Nf c):=by
 refine D.go uO (fun vs H Q E h=>?_) (fun f cdv A outer s H vs Q E hr h=>?_)
 ·obtain⟨a,s,rfl,_⟩:=h;rfl
 ·obtain⟨a,s,rfl,h,q⟩:=h
  have hr_Door_known:=hr
  refine⟨_,(R.af (R.aj (R.av (K:=K) (R.bn c_Door_known hr_Door_known (R.v 0))))),?_⟩
  exact⟨_,_,h.dr,by kernel_rfl,a,s,rfl,h,c.M,_,_,.int s.turn,h.me,BM.cl,BM.nT,by kernel_rfl,q⟩
def Uv (H:Hp) (r:Rn) (v:V):Prop:=∃t,v=.ref t/\H t=some (.tup (Us r))
def zF (c:CK):Sp:=fun vs H Q _=>∃(a:DA) (s:DS),vs=[.ref a.dr]/\DAt c H a s/\s.runs.length<64/\∀l us H',Same H H'->H' l=some (.lst us)->Paired (Uv H') s.runs us->Q (.ref l) H'
theorem Ht {c:CK} (T:Txt K mg) (BM:Cg K c.M) (c_Door_known:cZ P w K mg base 1 c.D "known" ["self"] (jF c)) (c_Run_as_tuple:cZ P w K mg base 1 c.R "as_tuple" ["self"] (Nb c.R)) (D:MethAt K c.D "under" "Door.under" dL ["self"]):cZ P w K mg base 2 c.D "under" ["self"] (zF c):=by
 refine D.go jO (fun vs H Q E h=>?_) (fun f cdv A outer s H vs Q E hr h=>?_)
 ·obtain⟨a,s,rfl,_⟩:=h;rfl
 ·obtain⟨a,s,rfl,h,hl,q⟩:=h
  have hu1:=dP hr
  have hr_Door_known:=hr
  have hr_Run_as_tuple:=hr
  refine⟨_,(R.ae (R.au (i:=1) jO.nd (R.av (K:=K) (R.bn c_Door_known hr_Door_known (R.v 0)))) (R.af (R.aj (R.bi rfl (js:=[none,some 1]) (N:=["number","runs"]) (CompScope.by (aA dL) ["self","runs"] rfl rfl Zk) (aS rfl) (R.bj (K:=K) (R.ba (R.eh rfl) rfl T.b_sorted lA (R.aa (R.v 1) R.ac))) (fun C s₂ H₂ fp=>⟨(R.gn (i:=0) (show(["number","runs"]:List Str).Nodup by decide +kernel)),R.bt,(R.bn c_Run_as_tuple hr_Run_as_tuple (R.bp hu1 (R.v 1) (R.v 0)))⟩))))),?_⟩
  refine⟨_,_,h.dr,by kernel_rfl,a,s,rfl,h,c.M,_,_,.ref a.rn,h.me,BM.cl,BM.nR,by kernel_rfl,?_⟩
  dsimp only [aK];refine⟨s.runs.map fun r=>(r.n:Int),_,.inl h.rn,by unfold aV;rw[List.map_map,List.map_map];rfl,by rw[dN];exact hl,fun l ns hlf hp hso=>⟨l,rfl,⟨_,SqL.of aB⟩,?_⟩⟩
  have ens:ns=s.runs.map fun r=>(r.n:Int):=vA hso (List.pairwise_map.mpr (h.up.imp fun z=>by omega)) hp
  subst ens;have k1:=aF (o:=.lst ((s.runs.map fun r=>(r.n:Int)).map V.int)) hlf
  have gl:(aI H l (.lst ((s.runs.map fun r=>(r.n:Int)).map V.int))) l=some (.lst ((s.runs.map fun r=>(r.n:Int)).map V.int)):=aB
  generalize aI H l (.lst ((s.runs.map fun r=>(r.n:Int)).map V.int))=H1 at k1 gl ⊢
  have h1:=h.same k1
  have eL:((s.runs.map fun r=>(r.n:Int)).map V.int).length=s.runs.length:=by rw[dN,dN]
  refine bR (gB K l ((s.runs.map fun r=>(r.n:Int)).map V.int)) (by rw[eL];omega) (fun i ys H'=>Same H1 H'/\ys.length<=i/\Paired (Uv H') (s.runs.take i) ys) (fun i ys H' ⟨e1,e2,_⟩=>⟨SqL.of (e1 _ _ gl),e2⟩) ⟨Same.refl _,cB _,.nil⟩ (fun i x ys H' hx ⟨e1,e2,e3⟩=>?_) (fun ys H' ⟨e1,e2,e3⟩=>?_)
  ·rw[List.map_map,iU]at hx;obtain⟨r,hr',rfl⟩:=Option.map_eq_some_iff.mp hx
   have hm:=jW hr'
   have h2:=h1.same e1
   dsimp only [aK];have dg:=DGet.k (k:=Sum.inl (r.n:Int)) h2.rn
   rw[kQ h.up hm]at dg;refine⟨a.rn,.ref r.p,rfl,dg,r.dx,_,h2.run hm,by kernel_rfl,r,rfl,h2.run hm,fun t H3 s3 gt=>⟨e1.trans s3,by rw[zO];simpa using e2,?_⟩⟩
   rw[gE hr'];exact Paired.snoc (Paired.map' (fun _ _ ⟨t,e,g⟩=>⟨t,e,s3 _ _ g⟩) e3) ⟨t,rfl,gt⟩
  ·rw[eL,List.take_length]at e3;intro l2 hl2;have s3:=aF (o:=.lst ys) hl2
   exact q l2 ys _ ((k1.trans e1).trans s3) aB (Paired.map' (fun _ _ ⟨t,e,g⟩=>⟨t,e,s3 _ _ g⟩) e3)
def vB {x y:Dd}:∀(j:Nat) (u v:V),x.vs[j]?=some u->y.vs[j]?=some v->eE u=true/\eE v=true:=fun j u v h1 h2=>
 have z:∀(d:Dd) (u:V),u∈d.vs->eE u=true:=fun d u hu=>by
  cases d <;> simp only [Dd.vs,List.mem_cons,List.not_mem_nil,or_false]at hu <;> rcases hu with rfl | rfl | rfl | rfl | rfl <;> rfl
 ⟨z _ _ (jW h1),z _ _ (jW h2)⟩
def lX (same:Bool):KE->List V
 | .busy n _=>if same=true then [.str "busy",.int n] else [.str "other"]
 | .kept _ _ _ z=>if same=true then [.str "kept",.ref z] else [.str "other"]
def Ws:KE->List V
 | .busy n d=>[.str "busy",.int n,.ref d]
 | .kept n _ d z=>[.str "kept",.int n,.ref d,.ref z]
def KE.dd:KE->Addr
 | .busy _ d=>d
 | .kept _ _ d _=>d
def zG:Sp:=fun vs H Q _=>∃(sn d:Addr) (e:KE) (x0 x:Dd),vs=[.ref sn,.ref d]/\H sn=some (.tup (Ws e))/\H (KE.dd e)=some (.tup x0.vs)/\H d=some (.tup x.vs)/\∀t H',Same H H'->H' t=some (.tup (lX (bH x0.vs x.vs) e))->Q (.ref t) H'
theorem Hu (D:DefAt K mg "told_again" fI ["seen","deed"]):aH P w K mg base 1 "told_again" ["seen","deed"] zG:=by
 refine D.go pG (fun vs H Q E h=>?_) (fun f cdv A outer s H vs Q E hr h=>?_)
 ·obtain⟨sn,d,e,x0,x,rfl,_⟩:=h;rfl
 ·obtain⟨sn,d,e,x0,x,rfl,gs,g0,gd,q⟩:=h
  have hu64:=hr.units
  refine⟨_,(R.ae (R.aq (R.al (R.dz hu64) (R.ix (R.ah (K:=K)) (R.v 0) R.ad) (R.v 1)) (R.af (R.aj (R.ap (R.aa R.ak R.ac)))) R.ar) (R.ae (R.aq (R.al R.eq (R.ix (R.ah (K:=K)) (R.v 0) R.ad) R.ak) (R.af (R.aj (R.ap (R.aa R.ak (R.aa (R.ix (R.ah (K:=K)) (R.v 0) R.ad) R.ac))))) R.ar) (R.af (R.aj (R.ap (R.aa R.ak (R.aa (R.ix (R.ah (K:=K)) (R.v 0) R.ad) R.ac))))))),?_⟩
  cases e with
  | busy n d0=>
   refine⟨_,SqT.of gs,_,rfl,_,_,g0,gd,vB,?_⟩
   show if (!bH x0.vs x.vs)=true then _ else _
   cases he:bH x0.vs x.vs with
   | false=>
    rw[he]at q;exact⟨aX rfl,fun t H' s' g=>q t H' s' g⟩
   | true=>
    rw[he]at q;exact⟨_,SqT.of gs,_,rfl,_,SqT.of gs,_,rfl,aX rfl,fun t H' s' g=>q t H' s' g⟩
  | kept n w' d0 z=>
   refine⟨_,SqT.of gs,_,rfl,_,_,g0,gd,vB,?_⟩
   show if (!bH x0.vs x.vs)=true then _ else _
   cases he:bH x0.vs x.vs with
   | false=>
    rw[he]at q;exact⟨aX rfl,fun t H' s' g=>q t H' s' g⟩
   | true=>
    rw[he]at q;exact⟨_,SqT.of gs,_,rfl,_,SqT.of gs,_,rfl,aX rfl,fun t H' s' g=>q t H' s' g⟩
def eR (life turn:Int):Option KE->Bool
 | none=>true
 | some (.busy _ _)=>false
 | some (.kept _ w _ _)=>!decide (w+life > turn)
theorem By {life turn:Int} {o:Option KE} (h:eR life turn o=true):Gd life turn o=[.str "free"]:=by
 match o,h with
 | none,_=>rfl
 | some (.kept n w d z),h=>
  have h':¬ w+life > turn:=by simpa [eR]using h
  show(if w+life > turn then _ else _)=_
  rw[if_neg h']
theorem oW {life turn:Int} {o:Option KE} (h:eR life turn o=false):∃e,o=some e/\Gd life turn o=Ws e:=by
 match o,h with
 | some (.busy n d),_=>exact⟨_,rfl,rfl⟩
 | some (.kept n w d z),h=>
  have h':w+life > turn:=by simpa [eR]using h
  refine⟨_,rfl,?_⟩
  show(if w+life > turn then _ else _)=_
  rw[if_pos h'];rfl
end
end KL
namespace KL
open PySem L2
section
variable {P:Program} {w:World} {K:W.Frag} {mg:Str->Option Value} {base:Heap}
def dM (s:DS) (turn:Int) (q:Str × Str) (d:Addr) (x:Dd) (p dx ra:Addr):DS:={s with turn:=turn,m:=s.m.set q (some (.busy s.next d)),L:=s.L+1,runs:=s.runs++[kR p dx s.next q d x "new"],next:=s.next+1,rows:=s.rows++[.ref ra] }
def sW (c:CK) (CL:Addr):Sp:=fun vs H Q E=>∃(a:DA) (s:DS) (turn:Int) (q:Str × Str) (d:Addr) (x x0:Dd),vs=[.ref a.dr,.int turn,.str q.1,.str q.2,.ref d]/\DAt c H a s/\isNm q.1/\isKy q.2/\x.Ok/\x.far=false/\H d=some (.tup x.vs)/\(∀e,s.m q=some e->H (KE.dd e)=some (.tup x0.vs))/\s.L<=500/\(∀r∈s.runs,r.n<s.next)/\s.runs.length<=500/\s.rows.length<=1000 ∧
 (turn<s.turn->∀H',Same H H'->E (.ref CL) none H') ∧
 (s.turn<=turn->∀e,s.m q=some e->eR s.life turn (s.m q)=false->∀t H',DAt c H' a {s with turn:=turn }->Mv a s {s with turn:=turn } H H'->H' t=some (.tup (lX (bH x0.vs x.vs) e))->Q (.ref t) H') ∧
 (s.turn<=turn->eR s.life turn (s.m q)=true->∀t p dx ra H',DAt c H' a (dM s turn q d x p dx ra)->Mv a s (dM s turn q d x p dx ra) H H'->H' ra=some (.tup [.str "came",.int s.next,.int turn,.str q.1,.str q.2,.ref d])->H' t=some (.tup [.str "begun",.int s.next])->Q (.ref t) H')
theorem Lo {c:CK} {CL:Addr} (T:Txt K mg) (BD:Ri K c.D) (BM:Cg K c.M) (X_Late:XCls K mg "Late" CL) (c_Door_known:cZ P w K mg base 1 c.D "known" ["self"] (jF c)) (c_is_name:aH P w K mg base 2 "is_name" ["thing"] (lB LET 8)) (c_is_key:aH P w K mg base 2 "is_key" ["thing"] (lB (LET++Rv) 12)) (c_is_deed:aH P w K mg base 4 "is_deed" ["thing"] uA) (c_asks_of:aH P w K mg base 1 "asks_of" ["deed"] wP)
  (c_Keys_look:cZ P w K mg base 3 c.Ks "look" ["self","asker","key","turn"] (Ge c.Ks)) (c_told_again:aH P w K mg base 1 "told_again" ["seen","deed"] zG) (c_Memory_begin:cZ P w K mg base 4 c.M "begin" ["self","asker","key","deed"] (uZ c)) (c_Journal_write:cZ P w K mg base 1 c.J "write" ["self","row"] (oV c.J))
  (D:MethAt K c.D "come" "Door.come" fR ["self","turn","asker","key","deed"]):wQ P w K mg base 5 c.D "come" ["self","turn","asker","key","deed"] (sW c CL):=by
 refine D.goX cI (fun vs H Q E h=>?_) (fun f cdv A outer s H vs Q E hr h=>?_)
 ·obtain⟨a,s,turn,q,d,x,x0,rfl,_⟩:=h;rfl
 ·obtain⟨a,s,turn,q,d,x,x0,rfl,h,hq1,hq2,hx,hfar,hd,hkd,hL,hrn,hrl,hro,EL,QT,QB⟩:=h
  have hr_Door_known:Room 1 _:=hr.mono Zd
  have hr_is_name:Room 2 _:=hr.mono Zd
  have hr_is_key:Room 2 _:=hr.mono Zd
  have hr_is_deed:Room 4 _:=hr
  have hr_asks_of:Room 1 _:=hr.mono Zd
  have hr_Keys_look:Room 3 _:=hr.mono Zd
  have hr_told_again:Room 1 _:=hr.mono Zd
  have hr_Memory_begin:Room 4 _:=hr
  have hr_Journal_write:Room 1 _:=hr.mono Zd
  refine⟨_,(R.ae (R.au (i:=5) cI.nd (R.bn c_Door_known hr_Door_known (R.v 0))) (R.ae (R.aq (R.tw (R.bw (R.bh (R.bg (R.fn c_is_name hr_is_name rfl (R.aa (R.v 2) R.ac)))) (R.cc (R.bh (R.bg (R.fn c_is_key hr_is_key rfl (R.aa (R.v 3) R.ac))))))) (R.af R.bc) R.ar) (R.ae (R.aq (R.bh (R.bg (R.fn c_is_deed hr_is_deed rfl (R.aa (R.v 4) R.ac)))) (R.af R.bc) R.ar) (R.ae (R.bv Bd rfl (R.cv (K:=K) (R.fn c_asks_of hr_asks_of rfl (R.aa (R.v 4) R.ac))) (R.ca (K:=K) (n:=2) rfl (R.ay (R.gn (i:=6) cI.nd) (R.ay (R.gn (i:=7) cI.nd) R.cb))) (R.af R.bc)) (R.ae (R.aq (R.al R.lt (R.v 1) (R.av (K:=K) (R.v 5))) (R.af (R.ip X_Late Ay rfl (R.aa R.ak R.ac))) R.ar) (R.ae (R.ax (K:=K) (R.v 5) (R.v 1)) (R.ae (R.au (i:=8) cI.nd (R.be c_Keys_look hr_Keys_look (R.av (K:=K) (R.v 5)) (R.aa (R.v 2) (R.aa (R.v 3) (R.aa (R.v 1) R.ac))))) (R.ae (R.aq (R.al R.ne (R.ix (R.ah (K:=K)) (R.v 8) R.ad) R.ak) (R.af (R.aj (R.fn c_told_again hr_told_again rfl (R.aa (R.v 8) (R.aa (R.v 4) R.ac))))) R.ar) (R.ae (R.au (i:=9) cI.nd (R.be c_Memory_begin hr_Memory_begin (R.v 5) (R.aa (R.v 2) (R.aa (R.v 3) (R.aa (R.v 4) R.ac))))) (R.ae (R.bq (R.be c_Journal_write hr_Journal_write (R.av (K:=K) (R.v 0)) (R.aa (R.ap (R.aa R.ak (R.aa (R.v 9) (R.aa (R.v 1) (R.aa (R.v 2) (R.aa (R.v 3) (R.aa (R.v 4) R.ac))))))) R.ac))) (R.af (R.aj (R.ap (R.aa R.ak (R.aa (R.v 9) R.ac))))))))))))))),?_⟩
  refine⟨_,_,h.dr,by kernel_rfl,a,s,rfl,h,?_⟩
  dsimp only [aK];refine⟨.str q.1,.str,rfl,trivial,fun z e=>by cases e;exact hq1.len,fun H1 s1=>?_⟩
  rw[show dR (.str q.1) LET 8=true from fM hq1];refine⟨.str q.2,.str,rfl,trivial,fun z e=>by cases e;exact hq2.len,fun H2 s2=>?_⟩
  rw[Ut hq2];have k2:=s1.trans s2
  refine⟨.ref d,rfl,Uu hx (k2 _ _ hd),fun b xs e g=>?_,fun H3 s3=>?_⟩
  ·cases e
   rw[k2 _ _ hd]at g;cases g
   cases x <;> exact aX rfl
  have k3:=k2.trans s3
  rw[show oF H2 (.ref d)=true by unfold oF;simp only [k2 _ _ hd];exact Ln hx]
  refine⟨d,x.wd,x.vs,cY x,uV x,rfl,k3 _ _ hd,Hf x,fun ta us H4 s4 gta pus=>?_⟩
  have eus:us=[]:=by
   have:uV x=[]:=by cases x <;> first | rfl | cases hfar
   rw[this]at pus;cases pus;rfl
  subst eus;have k4:=k3.trans s4
  have h4:=h.same k4
  refine⟨ta,rfl,⟨_,SqT.of gta⟩,gN (iX K ta []) (tb:=fun _ _ _=>False) (fun i σ H'=>H'=H4/\σ=[some (.ref a.dr),some (.int turn),some (.str q.1),some (.str q.2),some (.ref d),some (.ref a.me),none,none,none,none]) (fun i σ H' e=>by rw[e.1];exact SqT.of gta) ⟨rfl,rfl⟩ (fun i x σ H' hx=>by simp at hx) fun σ H' e=>?_⟩
  obtain⟨rfl,rfl⟩:=e
  refine⟨c.M,_,_,.int s.turn,h4.me,BM.cl,BM.nT,by kernel_rfl,?_⟩
  show if decide (turn<s.turn)=true then _ else _
  refine dQ (fun hb=>?_) (fun hb=>?_)
  ·exact⟨Zd,EL (of_decide_eq_true hb) _ k4⟩
  have hle:s.turn<=turn:=by have:=of_decide_eq_false hb;omega
  dsimp only [cT];refine⟨c.M,a.mx,_,h4.me,BM.cl,BM.nT,(by show 5<1000;decide),?_⟩
  dsimp only;rw[show bI "turn" (.int turn) (mf a s.turn s.next)=mf a turn s.next by kernel_rfl]
  obtain⟨h5,v5⟩:=h4.put (H':=aI H' a.me (.ins c.M a.mx (mf a turn s.next))) 4 {s with turn:=turn } (fun _ _=>rfl) (fun _ _=>rfl) aB (fun b u e hb=>by rw[aD hb];exact e) rfl rfl h.nd rfl
  have w5:=(Mv.same (a:=a) (s:=s) k4).trans v5
  generalize aI H' a.me (.ins c.M a.mx (mf a turn s.next))=H5 at h5 v5 w5 ⊢;refine⟨c.M,_,_,.ref a.ks,h5.me,BM.cl,BM.nS,by kernel_rfl,a.kf.dx,_,h5.ks,uJ _ _ Zk Zk Zk,a.ks,a.kf,s.life,s.m,s.L,q,turn,rfl,h5.ky,fun sn H6 s6 gsn=>?_⟩
  dsimp only [aK];have h6:=h5.same s6
  have w6:=w5.trans (.same s6)
  have hd6:=w6.tk h _ _ hd
  cases hfr:eR s.life turn (s.m q) with
  | false=>
   obtain⟨e,he,hlk⟩:=oW hfr
   rw[hlk]at gsn;have h0:=w6.tk h _ _ (hkd e he)
   have z:∃v0 vr,Ws e=.str v0::vr/\v0≠"free":=by
    cases e with
    | busy n d0=>exact⟨_,_,rfl,Zk⟩
    | kept n w0 d0 z0=>exact⟨_,_,rfl,Zk⟩
   obtain⟨v0,vr',hv0,hne⟩:=z
   refine⟨_,SqT.of gsn,.str v0,by rw[hv0];exact dA (show(V.str v0::vr')[0]?=some _ from rfl),?_⟩
   show if (!decide (v0="free"))=true then _ else _
   refine Qd (by rw[decide_eq_false hne];rfl) ?_
   exact⟨sn,d,e,x0,x,rfl,gsn,h0,hd6,fun t H7 s7 gt=>QT hle e he hfr t H7 (h6.same s7) (w6.trans (.same s7)) gt⟩
  | true=>
   rw[By hfr]at gsn;refine⟨_,SqT.of gsn,_,rfl,?_⟩
   dsimp only [cT];have hnb:∀n' d',s.m q≠some (.busy n' d'):=fun n' d' e=>by rw[e]at hfr;cases hfr
   refine⟨_,_,h6.me,by kernel_rfl,a,_,q,d,x,rfl,h6,hL,hnb,hd6,hrn,hrl,fun p dx H7 h7 v7=>?_⟩
   dsimp only [aK];have w7:=w6.trans v7
   refine⟨c.D,_,_,.ref a.j,h7.dr,BD.cl,BD.nJ,by kernel_rfl,_,_,h7.j,by kernel_rfl,aX rfl,fun ra H8 s8 gra=>?_⟩
   have h8:=h7.same s8
   refine⟨a.j,a.jl,a.jx,s.safe,s.rows,.ref ra,rfl,h8.j,h8.jl,hro,?_⟩
   obtain⟨h9,v9⟩:=h8.put (H':=aI H8 a.jl (.lst (s.rows++[.ref ra]))) 3 (dM s turn q d x p dx ra) (fun _ _=>rfl) (fun _ _=>rfl) aB (fun b u e hb=>by rw[aD hb];exact e) rfl rfl h.nd rfl
   have g9:=v9.tk h8 _ _ gra
   have w9:=(w7.trans (.same s8)).trans v9
   generalize aI H8 a.jl (.lst (s.rows++[.ref ra]))=H9 at h9 g9 w9 ⊢;exact⟨aX rfl,fun t H10 s10 gt=>QB hle hfr t p dx ra H10 (h9.same s10) (w9.trans (.same s10)) (s10 _ _ g9) gt⟩
def lY (s:DS) (pre post:List Rn) (r:Rn) (st:Str):DS:={s with runs:=pre++{r with st:=st }::post }
def zH (c:CK):Sp:=fun vs H Q _=>∃(a:DA) (s:DS) (pre post:List Rn) (r:Rn) (z:Addr),vs=[.ref a.dr,.ref r.p,.ref z]/\DAt c H a s/\s.runs=pre++r::post/\s.rows.length<=1000 ∧
 ∀t ra H',DAt c H' a {lY s pre post r "written" with rows:=s.rows++[.ref ra] }->Mv a s {lY s pre post r "written" with rows:=s.rows++[.ref ra] } H H'->H' ra=some (.tup [.str "done",.int r.n,.int s.turn,.ref z])->H' t=some (.tup [.str "writes",.str "done"])->Q (.ref t) H'
theorem Hv {c:CK} (BD:Ri K c.D) (BM:Cg K c.M) (BR:Lk K c.R) (c_Journal_write:cZ P w K mg base 1 c.J "write" ["self","row"] (oV c.J)) (D:MethAt K c.D "write_done" "Door.write_done" cA ["self","run","answer"]):cZ P w K mg base 2 c.D "write_done" ["self","run","answer"] (zH c):=by
 refine D.go jT (fun vs H Q E h=>?_) (fun f cdv A outer s H vs Q E hr h=>?_)
 ·obtain⟨a,s,pre,post,r,z,rfl,_⟩:=h;rfl
 ·obtain⟨a,s,pre,post,r,z,rfl,h,hs,hro,q⟩:=h
  have hr_Journal_write:=hr
  have hrm:r∈s.runs:=by rw[hs];simp
  refine⟨_,(R.ae (R.bq (R.be c_Journal_write hr_Journal_write (R.av (K:=K) (R.v 0)) (R.aa (R.ap (R.aa R.ak (R.aa (R.av (K:=K) (R.v 1)) (R.aa (R.av (K:=K) (R.av (K:=K) (R.v 0))) (R.aa (R.v 2) R.ac))))) R.ac))) (R.ae (R.ax (K:=K) (R.v 1) R.ak) (R.af (R.aj (R.ap (R.aa R.ak (R.aa R.ak R.ac))))))),?_⟩
  refine⟨c.D,_,_,.ref a.j,h.dr,BD.cl,BD.nJ,by kernel_rfl,_,_,h.j,by kernel_rfl,c.R,_,_,.int r.n,h.run hrm,BR.cl,BR.nN,by kernel_rfl,c.D,_,_,.ref a.me,h.dr,BD.cl,BD.nM,by kernel_rfl,c.M,_,_,.int s.turn,h.me,BM.cl,BM.nT,by kernel_rfl,aX rfl,fun ra H1 s1 gra=>?_⟩
  have h1:=h.same s1
  refine⟨a.j,a.jl,a.jx,s.safe,s.rows,.ref ra,rfl,h1.j,h1.jl,hro,?_⟩
  obtain⟨h2,v2⟩:=h1.put (H':=aI H1 a.jl (.lst (s.rows++[.ref ra]))) 3 {s with rows:=s.rows++[.ref ra] } (fun _ _=>rfl) (fun _ _=>rfl) aB (fun b u e hb=>by rw[aD hb];exact e) rfl rfl h.nd rfl
  have g2:=v2.tk h1 _ _ gra
  generalize aI H1 a.jl (.lst (s.rows++[.ref ra]))=H2 at h2 v2 g2 ⊢;dsimp only;refine⟨c.R,r.dx,_,h2.run hrm,BR.cl,BR.nS,(by show 7<1000;decide),?_⟩
  dsimp only;rw[show bI "stage" (.str "written") r.fs={r with st:="written" }.fs by kernel_rfl]
  obtain⟨h3,v3⟩:=h2.rput (r':={r with st:="written" }) hs rfl rfl rfl rfl
  have g3:=v3.tk h2 _ _ g2
  exact⟨aX rfl,fun t H4 s4 gt=>q t ra H4 (h3.same s4) ((((Mv.same s1).trans v2).trans v3).trans (.same s4)) (s4 _ _ g3) gt⟩
end
end KL
namespace KL
open PySem L2
section
variable {P:Program} {w:World} {K:W.Frag} {mg:Str->Option Value} {base:Heap}
theorem xF {f:Str->Nat} {x:Dd} (hfar:x.far=false):∃y,aR f x=some y:=by
 cases x with
 | add a n=>simp only [aR];split <;> exact⟨_,rfl⟩
 | take a n=>simp only [aR];split <;> exact⟨_,rfl⟩
 | move a b n=>
  simp only [aR]
  split
  ·exact⟨_,rfl⟩
  ·split <;> exact⟨_,rfl⟩
 | send g a n=>cases hfar
 | fetch g a n=>cases hfar
 | pass g g' a n=>cases hfar
theorem Rk {H:Hp} {y:An} {v:V} (h:RepT H 1 (RX.tvs y.vs) v):∃z,v=.ref z/\H z=some (.tup y.vs):=by
 obtain⟨z,xs,rfl,g,p⟩:=h
 refine⟨z,rfl,?_⟩
 have:∀ {ts:List V} {xs:List V},Paired (RepT H 0) (ts.map TV.sc) xs->xs=ts:=by
  intro ts;induction ts with
  | nil=>intro xs h;cases h;rfl
  | cons t ts ih=>
   intro xs h;cases h with
   | cons h1 h2=>rw[ih h2,h1.1]
 rw[g,this p]
def vC (c:CK):Sp:=fun vs H Q _=>∃(a:DA) (s:DS) (pre post:List Rn) (r:Rn) (f:Str->Nat) (y:An),vs=[.ref a.dr,.ref r.p]/\DAt c H a s/\s.runs=pre++r::post/\r.x.Ok/\(∀z,bZ s.prs z=(f z:Int))/\aR f r.x=some y/\s.rows.length<=1000 ∧
 ∀t ra z H',DAt c H' a {lY s pre post r "written" with rows:=s.rows++[.ref ra] }->Mv a s {lY s pre post r "written" with rows:=s.rows++[.ref ra] } H H'->H' ra=some (.tup [.str "done",.int r.n,.int s.turn,.ref z])->H' z=some (.tup y.vs)->H' t=some (.tup [.str "writes",.str "done"])->Q (.ref t) H'
theorem Bz {c:CK} (BD:Ri K c.D) (BM:Cg K c.M) (BR:Lk K c.R) (c_early:aH P w K mg base 3 "early" ["book","deed"] (yN c.B)) (c_Door_write_done:cZ P w K mg base 2 c.D "write_done" ["self","run","answer"] (zH c)) (D:MethAt K c.D "write_first" "Door.write_first" bT ["self","run"]):cZ P w K mg base 4 c.D "write_first" ["self","run"] (vC c):=by
 refine D.go eU (fun vs H Q E h=>?_) (fun f cdv A outer s H vs Q E hr h=>?_)
 ·obtain⟨a,s,pre,post,r,f,y,rfl,_⟩:=h;rfl
 ·obtain⟨a,s,pre,post,r,f,y,rfl,h,hs,hx,hf,hy,hro,q⟩:=h
  have hr_early:=hr
  have hr_Door_write_done:Room 2 _:=hr.mono Zd
  have hrm:r∈s.runs:=by rw[hs];simp
  refine⟨_,(R.ae (R.au (i:=2) eU.nd (R.fn c_early hr_early rfl (R.aa (R.av (K:=K) (R.av (K:=K) (R.v 0))) (R.aa (R.av (K:=K) (R.v 1)) R.ac)))) (R.ae (R.aq (R.al R.et (R.v 2) R.bu) (R.af (R.aj (R.be c_Door_write_done hr_Door_write_done (R.v 0) (R.aa (R.v 1) (R.aa (R.v 2) R.ac))))) R.ar) (R.ae R.bc (R.ae R.bc (R.af R.bc))))),?_⟩
  refine⟨c.D,_,_,.ref a.me,h.dr,BD.cl,BD.nM,by kernel_rfl,c.M,_,_,.ref a.bk,h.me,BM.cl,BM.nB,by kernel_rfl,c.R,_,_,.ref r.d,h.run hrm,BR.cl,BR.nD,by kernel_rfl,a.bk,r.d,r.x.wd,r.x.vs,cY r.x,uV r.x,s.prs,rfl,h.book,h.dd r hrm,Hf r.x,fun v H1 s1 hv=>?_⟩
  rw[xE hf hx,hy]at hv;obtain⟨z,rfl,gz⟩:=Rk hv
  have h1:=h.same s1
  dsimp only [aK];refine⟨_,_,h1.dr,by kernel_rfl,a,s,pre,post,r,z,rfl,h1,hs,hro,fun t ra H2 h2 v2 gra gt=>q t ra z H2 h2 ((Mv.same s1).trans v2) gra (v2.tk h1 _ _ gz) gt⟩
def Hw (c:CK):Sp:=fun vs H Q _=>∃(a:DA) (s:DS) (pre post:List Rn) (r:Rn),vs=[.ref a.dr,.int r.n,.str "through"]/\DAt c H a s/\s.runs=pre++r::post/\s.runs.length<64 ∧
  ((r.st="new"/\(∀r∈s.runs,r.st="new")/\∀t H',DAt c H' a (lY s pre post r "held")->Mv a s (lY s pre post r "held") H H'->H' t=some (.tup [.str "holds"])->Q (.ref t) H')∨
   (r.st="held"/\r.x.Ok/\s.rows.length<=1000/\∃f y,(∀z,bZ s.prs z=((f:Str->Nat) z:Int))/\aR f r.x=some y ∧
     ∀t ra z H',DAt c H' a {lY s pre post r "written" with rows:=s.rows++[.ref ra] }->Mv a s {lY s pre post r "written" with rows:=s.rows++[.ref ra] } H H'->H' ra=some (.tup [.str "done",.int r.n,.int s.turn,.ref z])->H' z=some (.tup y.vs)->H' t=some (.tup [.str "writes",.str "done"])->Q (.ref t) H')∨
   (r.st="written"/\∀t H',Same H H'->H' t=some (.tup [.str "unsafe"])->Q (.ref t) H'))
theorem Lp {c:CK} (U:Wq w.params K mg) (BM:Cg K c.M) (BR:Lk K c.R) (c_Door_known:cZ P w K mg base 1 c.D "known" ["self"] (jF c)) (c_Memory_hold:cZ P w K mg base 2 c.M "hold" ["self","run"] (zD c)) (c_Door_write_first:cZ P w K mg base 4 c.D "write_first" ["self","run"] (vC c)) (D:MethAtD K c.D "work" "Door.work" cW ["self","number","way"] [[],[.str ("through":Str)]]) :
  ∀d∈([[],[.str ("through":Str)]]:List (List V)),Gj P w K mg base 5 c.D "work" ["self","number","way"] d (Hw c):=by
 refine D.go hU (fun vs H Q E h=>?_) (fun f cdv A outer s H vs Q E hr h=>?_)
 ·obtain⟨a,s,pre,post,r,rfl,_⟩:=h;rfl
 ·obtain⟨a,s,pre,post,r,rfl,h,hs,hl,hc⟩:=h
  have hu1:=dP hr
  obtain⟨aW,m_WAYS,tW⟩:=U.g_WAYS
  have hr_Door_known:Room 1 _:=hr.mono Zd
  have hr_Memory_hold:Room 2 _:=hr.mono Zd
  have hr_Door_write_first:Room 4 _:=hr
  have hrm:r∈s.runs:=by rw[hs];simp
  refine⟨_,(R.ae (R.au (i:=3) hU.nd (R.bn c_Door_known hr_Door_known (R.v 0))) (R.ae (R.aq (R.al (R.en hu1) (R.v 1) (R.av (K:=K) (R.v 3))) (R.af R.bc) R.ar) (R.ae (R.aq (R.al (R.fw (K:=K)) (R.v 2) (R.gR rfl m_WAYS)) (R.af R.bc) R.ar) (R.ae (R.au (i:=4) hU.nd (R.bp hu1 (R.av (K:=K) (R.v 3)) (R.v 1))) (R.ae (R.aq (R.al R.eq (R.av (K:=K) (R.v 4)) R.ak) (R.af (R.aj (R.be c_Memory_hold hr_Memory_hold (R.v 3) (R.aa (R.v 4) R.ac)))) R.ar) (R.ae (R.aq (R.al R.eq (R.av (K:=K) (R.v 4)) R.ak) (R.af (R.aj (R.be c_Door_write_first hr_Door_write_first (R.v 0) (R.aa (R.v 4) R.ac)))) R.ar) (R.ae (R.aq (R.al R.eq (R.av (K:=K) (R.v 4)) R.ak) (R.af R.bc) R.ar) (R.ae (R.aq (R.al R.eq (R.av (K:=K) (R.v 4)) R.ak) (R.af R.bc) R.ar) (R.ae (R.aq (R.al R.eq (R.av (K:=K) (R.v 4)) R.ak) (R.af R.bc) R.ar) (R.af (R.aj (R.ap (R.aa R.ak R.ac))))))))))))),?_⟩
  refine⟨_,_,h.dr,by kernel_rfl,a,s,rfl,h,?_⟩
  dsimp only [aK];have dg:=DGet.k (k:=Sum.inl (r.n:Int)) h.rn
  rw[kQ h.up hrm]at dg;refine⟨c.M,_,_,.ref a.rn,h.me,BM.cl,BM.nR,by kernel_rfl,_,dg,?_⟩
  dsimp only [cT];refine⟨aW,_,rfl,.inr (tW _),by kernel_rfl,by kernel_rfl,?_⟩
  refine⟨c.M,_,_,.ref a.rn,h.me,BM.cl,BM.nR,by kernel_rfl,a.rn,.ref r.p,rfl,dg,?_⟩
  dsimp only [aK];rcases hc with⟨e,hall,q⟩ | ⟨e,hx,hro,f,y,hf,hy,q⟩ | ⟨e,q⟩
  ·refine⟨c.R,_,_,.str r.st,h.run hrm,BR.cl,BR.nS,by kernel_rfl,?_⟩
   rw[e];exact⟨_,_,h.me,by kernel_rfl,a,s,pre,post,r,rfl,h,hs,hall,hl,q⟩
  ·refine⟨c.R,_,_,.str r.st,h.run hrm,BR.cl,BR.nS,by kernel_rfl,?_⟩
   rw[e];refine⟨c.R,_,_,.str r.st,h.run hrm,BR.cl,BR.nS,by kernel_rfl,?_⟩
   rw[e];exact⟨_,_,h.dr,by kernel_rfl,a,s,pre,post,r,f,y,rfl,h,hs,hx,hf,hy,hro,q⟩
  ·refine⟨c.R,_,_,.str r.st,h.run hrm,BR.cl,BR.nS,by kernel_rfl,?_⟩
   rw[e];refine⟨c.R,_,_,.str r.st,h.run hrm,BR.cl,BR.nS,by kernel_rfl,?_⟩
   rw[e];refine⟨c.R,_,_,.str r.st,h.run hrm,BR.cl,BR.nS,by kernel_rfl,?_⟩
   rw[e];refine⟨c.R,_,_,.str r.st,h.run hrm,BR.cl,BR.nS,by kernel_rfl,?_⟩
   rw[e];refine⟨c.R,_,_,.str r.st,h.run hrm,BR.cl,BR.nS,by kernel_rfl,?_⟩
   rw[e];exact⟨aX rfl,fun t H' s' g=>q t H' s' g⟩
end
end KL
namespace KL
open PySem L2
section
variable {P:Program} {w:World} {K:W.Frag} {mg:Str->Option Value} {base:Heap}
section
variable {c:CK} {H H':Hp} {a:DA} {s s':DS}
theorem DAt.outside (h:DAt c H a s) {b:Addr} {o:HO} (hb:b∉a.fix++s.runs.map (·.p)) (g:H b=some o) (ho:∀xs,o≠.tup xs) (o':HO):DAt c (aI H b o') a s:=
 h.keep (fun d u e hd=>by rw[aD (fun(z:d=b)=>hb (z ▸ hd))];exact e) (fX g ho)
theorem Mv.out (m:Mv a s s' H H') {b:Addr} (hb:H b=none) (o':HO):Mv a s s' H (aI H' b o'):=
 ⟨fun d u e hd=>by rw[aD (aE e hb)];exact m.fr d u e hd,m.nw,fun d e=>by
  by_cases z:d=b
  ·rw[z];exact hb
  ·rw[aD z]at e;exact m.gr d e⟩
theorem Mv.stay (m:Mv a s s' H H') {b:Addr} {o:HO} (hb:b∉a.fix++s.runs.map (·.p)) (g:H b=some o):b∉a.fix++s'.runs.map (·.p):=fun z=>by
 rcases Zma.mp z with z | z
 ·exact hb (List.mem_append_left _ z)
 ·obtain⟨r,hr,e⟩:=Zmm.mp z
  rcases m.nw r hr with w | w
  ·exact hb (List.mem_append_right _ (e ▸ w))
  ·rw[e,g]at w;cases w
end
def pJ (s:DS) (pre post:List Rn) (r:Rn) (w:Int) (z:Addr) (y:An):DS:={s with runs:=pre++post,prs:=iG s.prs (vL r.x y),m:=s.m.set r.q (some (.kept r.n w r.d z)),L:=s.L+1,safe:=s.rows.length }
def vD (c:CK):Sp:=fun vs H Q _=>∃(a:DA) (s:DS) (old news:List V) (pre post:List Rn) (r:Rn) (w:Int) (rd z:Addr) (y:An),vs=[.ref a.dr]/\DAt c H a s/\s.rows=old++(news++[.ref rd])/\s.safe=(old.length:Int)/\s.rows.length<=1000/\(∀v∈news,∃t xs,v=.ref t/\H t=some (.tup (.str "came"::xs)))/\H rd=some (.tup [.str "done",.int r.n,.int w,.ref z]) ∧
 s.runs=pre++r::post/\H z=some (.tup y.vs)/\An.Of r.x y/\(∀q∈vL r.x y,Hc s.prs q)/\s.prs.length<=90/\s.L<=500/\s.m r.q=some (.busy r.n r.d) ∧
 ∀l t H',DAt c H' a (pJ s pre post r w z y)->Mv a s (pJ s pre post r w z y) H H'->H' l=some (.lst [.ref t])->H' t=some (.tup [.int r.n,.str r.q.1,.str r.q.2,.ref z])->Q (.ref l) H'
theorem Ca {c:CK} (BD:Ri K c.D) (c_Door_known:cZ P w K mg base 1 c.D "known" ["self"] (jF c)) (c_Journal_safe:cZ P w K mg base 1 c.J "safe" ["self"] (zB c.J)) (c_Journal_force:cZ P w K mg base 1 c.J "force" ["self"] (uY c.J)) (c_Journal_rows:cZ P w K mg base 1 c.J "rows" ["self"] (zA c.J)) (c_Memory_end:cZ P w K mg base 3 c.M "end" ["self","number","turn","answer"] (Hn c))
  (D:MethAt K c.D "force" "Door.force" fG ["self"]):cZ P w K mg base 4 c.D "force" ["self"] (vD c):=by
 refine D.go cO (fun vs H Q E h=>?_) (fun f cdv A outer s H vs Q E hr h=>?_)
 ·obtain⟨a,s,old,news,pre,post,r,w',rd,z,y,rfl,_⟩:=h;rfl
 ·obtain⟨a,s,old,news,pre,post,r,w',rd,z,y,rfl,h,hrows,hsafe,hro,hnews,grd,hs,hz,hof,hg,hp90,hL,hm,q⟩:=h
  have hr_Door_known:Room 1 _:=hr.mono Zd
  have hr_Journal_safe:Room 1 _:=hr.mono Zd
  have hr_Journal_force:Room 1 _:=hr.mono Zd
  have hr_Journal_rows:Room 1 _:=hr.mono Zd
  have hr_Memory_end:Room 3 _:=hr
  refine⟨_,(R.ae (R.au (i:=1) cO.nd (R.bn c_Door_known hr_Door_known (R.v 0))) (R.ae (R.au (i:=2) cO.nd (R.bn c_Journal_safe hr_Journal_safe (R.av (K:=K) (R.v 0)))) (R.ae (R.bq (R.bn c_Journal_force hr_Journal_force (R.av (K:=K) (R.v 0)))) (R.ae (R.au (i:=3) cO.nd (R.bf R.ac)) (R.ae (R.bv PassesOwn.never rfl (R.bj (K:=K) (R.sl (R.dq (K:=K)) (R.bn c_Journal_rows hr_Journal_rows (R.av (K:=K) (R.v 0))) (R.ps (R.v 2)) R.pn)) (R.gn (i:=4) cO.nd) (R.af (R.aq (R.al R.eq (R.ix (R.ah (K:=K)) (R.v 4) R.ad) R.ak) (R.af (R.bq (R.cn (K:=K) PySem.F.plainAttrs_list PySem.F.slot_list_append PySem.F.type_list_append R.gi (R.v 3) (R.aa (R.be c_Memory_end hr_Memory_end (R.v 1) (R.aa (R.ix (R.ah (K:=K)) (R.v 4) R.ad) (R.aa (R.ix (R.ah (K:=K)) (R.v 4) R.ad) (R.aa (R.ix (R.ah (K:=K)) (R.v 4) R.ad) R.ac)))) R.ac)))) R.ar))) (R.af (R.aj (R.v 3)))))))),?_⟩
  refine⟨_,_,h.dr,by kernel_rfl,a,s,rfl,h,?_⟩
  dsimp only [aK];refine⟨c.D,_,_,.ref a.j,h.dr,BD.cl,BD.nJ,by kernel_rfl,_,_,h.j,by kernel_rfl,a.j,a.jl,a.jx,s.safe,rfl,h.j,?_⟩
  dsimp only [aK];refine⟨c.D,_,_,.ref a.j,h.dr,BD.cl,BD.nJ,by kernel_rfl,_,_,h.j,by kernel_rfl,a.j,a.jl,a.jx,s.safe,s.rows,rfl,h.j,h.jl,?_⟩
  obtain⟨h1,v1⟩:=h.put (H':=aI H a.j (.ins c.J a.jx (jf a.jl s.rows.length))) 2 {s with safe:=s.rows.length } (fun _ _=>rfl) (fun _ _=>rfl) aB (fun b u e hb=>by rw[aD hb];exact e) rfl rfl h.nd rfl
  generalize aI H a.j (.ins c.J a.jx (jf a.jl s.rows.length))=H1 at h1 v1 ⊢;refine⟨mF rfl,fun lt hlt=>?_⟩
  dsimp only [aK];have s2:=aF (o:=.lst []) hlt
  have glt:(aI H1 lt (.lst [])) lt=some (.lst []):=aB
  generalize aI H1 lt (.lst [])=H2 at s2 glt ⊢;have h2:=h1.same s2
  refine⟨c.D,_,_,.ref a.j,h2.dr,BD.cl,BD.nJ,by kernel_rfl,_,_,h2.j,by kernel_rfl,a.j,a.jl,a.jx,_,s.rows,rfl,h2.j,h2.jl,fun lr hlr=>?_⟩
  have s3:=aF (o:=.lst s.rows) hlr
  have glr:(aI H2 lr (.lst s.rows)) lr=some (.lst s.rows):=aB
  generalize aI H2 lr (.lst s.rows)=H3 at s3 glr ⊢;refine⟨_,SqL.of glr,fun ls hls=>?_⟩
  have ecut:gH s.rows (some s.safe) none=news++[.ref rd]:=by
   rw[hsafe,tV,hrows,List.drop_left]
  rw[ecut];have s4:=aF (o:=.lst (news++[.ref rd])) hls
  have gls:(aI H3 ls (.lst (news++[.ref rd]))) ls=some (.lst (news++[.ref rd])):=aB
  have k4:=(s2.trans s3).trans s4
  have hls3:=hls
  have hls1:H1 ls=none:=s2.free (s3.free hls)
  generalize aI H3 ls (.lst (news++[.ref rd]))=H4 at s4 gls k4 ⊢;have h4:=h1.same k4
  have w4:=v1.trans (.same k4)
  have glt4:=s4 _ _ (s3 _ _ glt)
  have olt:lt∉a.fix++s.runs.map (·.p):=h1.fresh hlt
  have ols:ls∉a.fix++s.runs.map (·.p):=h1.fresh hls1
  have nlt:lt≠ls:=aE (s3 _ _ glt) hls3
  have hlt0:H lt=none:=v1.gr _ hlt
  have hlen:(news++[V.ref rd]).length=news.length+1:=by simp
  refine⟨ls,rfl,⟨_,SqL.of gls⟩,gN (gB K ls (news++[.ref rd])) (fun i σ H'=>H' ls=some (.lst (news++[.ref rd]))/\∃o,σ=[some (.ref a.dr),some (.ref a.me),some (.int s.safe),some (.ref lt),o]/\((i<=news.length/\H'=H4)∨(i=news.length+1/\∃t,DAt c H' a (pJ s pre post r w' z y)/\Mv a s (pJ s pre post r w' z y) H H'/\H' lt=some (.lst [.ref t])/\H' t=some (.tup [.int r.n,.str r.q.1,.str r.q.2,.ref z]))))
   (fun i σ H' e=>SqL.of e.1) ⟨gls,_,rfl,.inl ⟨Nat.zero_le _,rfl⟩⟩ ?_ ?_⟩
  ·rintro i x σ H' hx ⟨gl,o,rfl,hc⟩
   have hi:i<news.length+1:=by have:=(Zgs.mp hx).1;rw[hlen]at this;exact this
   rcases hc with⟨hi',rfl⟩ | ⟨e,_⟩
   ·dsimp only [aK];by_cases hin:i<news.length
    ·rw[List.getElem?_append_left hin]at hx;obtain⟨t,xs,rfl,gt⟩:=hnews x (jW hx)
     have gt4:=w4.tk h _ _ gt
     refine⟨_,SqT.of gt4,.str "came",dA (show(V.str "came"::xs)[0]?=some _ from rfl),?_⟩
     exact⟨gl,_,rfl,.inl ⟨Zo,rfl⟩⟩
    ·have ei:i=news.length:=by omega
     subst ei;rw[List.getElem?_append_right (cB _),Nat.sub_self]at hx;cases hx
     have grd4:=w4.tk h _ _ grd
     refine⟨_,SqT.of grd4,_,rfl,?_⟩
     refine⟨.inl ⟨rfl,_,SqL.of glt4⟩,_,_,h4.me,by kernel_rfl,_,SqT.of grd4,_,rfl,_,SqT.of grd4,_,rfl,_,SqT.of grd4,_,rfl,a,_,pre,post,r,w',z,y,rfl,h4,hs,w4.tk h _ _ hz,hof,hg,hp90,hL,hm,fun t H5 h5 v5 gt=>?_⟩
     have glt5:=v5.fr _ _ glt4 olt
     have gls5:=v5.fr _ _ gl ols
     have olt5:=v5.stay olt glt4
     have w5:=w4.trans v5
     refine⟨lt,[],.ref t,rfl,rfl,glt5,Zd,?_⟩
     exact⟨by rw[aD nlt.symm];exact gls5,_,rfl,.inr ⟨rfl,t,h5.outside olt5 glt5 (fun _ z=>nomatch z) _,w5.out hlt0 _,aB,by rw[aD (aM gt glt5 fun z=>nomatch z)];exact gt⟩⟩
   ·omega
  ·rintro σ H' ⟨gl,o,rfl,hc⟩
   rw[hlen]at hc;rcases hc with⟨e,_⟩ | ⟨_,t,h5,v5,g5,gt⟩
   ·omega
   ·exact q lt t H' h5 v5 g5 gt
end
end KL
namespace KL
open PySem L2
section
variable {P:Program} {w:World} {K:W.Frag} {mg:Str->Option Value} {base:Heap}
def vE:Sp:=fun vs H Q _=>∃d b,vs=[.ref d]/\Dk H d b/\∀(n:Nat) H',1<=n->n<=1000000000000->Dk H' d b->Kp d b H H'->Q (.int (n:Int)) H'
theorem Cb (T:Txt K mg) (cLdraw:aH P w K mg base 1 "_law_draw" ["_law_deck_here","_law_many"] hX) (D:DefAt K mg "_law_amount" fJ ["_law_deck_here"]):aH P w K mg base 2 "_law_amount" ["_law_deck_here"] vE:=by
 refine D.go pH (fun vs H Q E h=>?_) (fun f cdv A outer s H vs Q E hr h=>?_)
 ·obtain⟨d,b,rfl,_⟩:=h;rfl
 ·obtain⟨d,b,rfl,dk,q⟩:=h
  have hLdraw:=hr
  refine⟨_,(R.af (R.aj (R.ix (R.bb (K:=K)) (R.bf (R.aa (R.op R.aw R.ad (R.fn cLdraw hLdraw rfl (R.aa (R.v 0) (R.aa R.ad R.ac)))) (R.aa (R.op R.aw R.ad (R.fn cLdraw hLdraw rfl (R.aa (R.v 0) (R.aa R.ad R.ac)))) (R.aa (R.op R.dw (R.op R.cy R.ad R.ad) (R.fn cLdraw hLdraw rfl (R.aa (R.v 0) (R.aa R.ad R.ac)))) (R.aa (R.op R.aw R.ad (R.fn cLdraw hLdraw rfl (R.aa (R.v 0) (R.aa (R.op R.cy R.ad R.ad) R.ac)))) R.ac))))) (R.fn cLdraw hLdraw rfl (R.aa (R.v 0) (R.aa R.ad R.ac)))))),?_⟩
  refine⟨d,b,9,rfl,dk,Zd,Zd,fun r1 H1 a0 a1 D1 k1=>⟨d,b,99,rfl,D1,Zd,Zd,fun r2 H2 b0 b1 D2 k2=>⟨⟨Zd,Zd,Zd⟩,d,b,3,rfl,D2,Zd,Zd,fun r3 H3 c0 c1 D3 k3=>⟨⟨Zd,Zd,Zd⟩,d,b,_,rfl,D3,Zd,Zd,fun r4 H4 d0 d1 D4 k4=>⟨mF rfl,fun p hp=>⟨d,b,4,rfl,D4.new hp,Zd,Zd,fun r5 H5 e0 e1 D5 k5=>?_⟩⟩⟩⟩⟩⟩
  have hpd:=D4.ne hp
  have gp:=k5 p _ aB hpd.1 hpd.2
  have kk:=((((k1.trans k2).trans k3).trans k4).trans (.new hp)).trans k5
  have d1':r4<1000000000000:=d1
  have fin:∀m:Int,1<=m->m<=1000000000000->Q (.int m) H5:=fun m h1 h2=>by
   have:=q m.toNat H5 Zo Zo D5 kk
   rwa [Int.toNat_of_nonneg Zo]at this
  rcases Uo e0 e1 with rfl | rfl | rfl | rfl
  ·exact⟨_,SqL.of gp,_,rfl,fin _ Zo Zo⟩
  ·exact⟨_,SqL.of gp,_,rfl,fin _ Zo Zo⟩
  ·exact⟨_,SqL.of gp,_,rfl,fin (10 ^ (12:Int).toNat - r3) (by show(1:Int)<=1000000000000 - r3;omega) (by show(1000000000000:Int) - r3<=_;omega)⟩
  ·exact⟨_,SqL.of gp,_,rfl,fin _ Zo Zo⟩
def Hx (zs:List Str):Prop:=zs.Nodup/\(∀z∈zs,isNm z)/\2<=zs.length/\zs.length<=20
def mP (zs:List Str) (x:Dd):Prop:=x.Ok/\x.far=false/\∀q∈cY x,q.1∈zs
def vF:Sp:=fun vs H Q _=>∃(d b l:Addr) (zs:List Str),vs=[.ref d,.ref l]/\Dk H d b/\H l=some (.lst (zs.map V.str))/\l≠d/\l≠b/\Hx zs/\∀(t:Addr) (x:Dd) H',mP zs x->H' t=some (.tup x.vs)->Dk H' d b->Kp d b H H'->Q (.ref t) H'
theorem Cc (T:Txt K mg) (cLdraw:aH P w K mg base 1 "_law_draw" ["_law_deck_here","_law_many"] hX) (cLamount:aH P w K mg base 2 "_law_amount" ["_law_deck_here"] vE) (D:DefAt K mg "_law_deed" gZ ["_law_deck_here","_law_names"]):aH P w K mg base 3 "_law_deed" ["_law_deck_here","_law_names"] vF:=by
 refine D.go eQ (fun vs H Q E h=>?_) (fun f cdv A outer s H vs Q E hr h=>?_)
 ·obtain⟨d,b,l,zs,rfl,_⟩:=h;rfl
 ·obtain⟨d,b,l,zs,rfl,dk,gl,nd,nb,hz,q⟩:=h
  have hLdraw:Room 1 _:=hr.mono Zd
  have hLamount:=hr
  obtain⟨hnd,hnm,h2,h20⟩:=hz
  have el:(zs.map V.str).length=zs.length:=dN ..
  refine⟨_,(R.ae (R.au (i:=2) eQ.nd (R.fn cLdraw hLdraw rfl (R.aa (R.v 0) (R.aa (R.ba (R.bo (K:=K)) rfl T.b_len bY (R.aa (R.v 1) R.ac)) R.ac)))) (R.ae (R.au (i:=3) eQ.nd (R.op R.br (R.op R.aw (R.op R.aw (R.v 2) R.ad) (R.fn cLdraw hLdraw rfl (R.aa (R.v 0) (R.aa (R.op R.dw (R.ba (R.bo (K:=K)) rfl T.b_len bY (R.aa (R.v 1) R.ac)) R.ad) R.ac)))) (R.ba (R.bo (K:=K)) rfl T.b_len bY (R.aa (R.v 1) R.ac)))) (R.ae (R.au (i:=4) eQ.nd (R.fn cLamount hLamount rfl (R.aa (R.v 0) R.ac))) (R.ae (R.au (i:=5) eQ.nd (R.bf (R.aa (R.ap (R.aa R.ak (R.aa (R.ix (R.bb (K:=K)) (R.v 1) (R.v 2)) (R.aa (R.v 4) R.ac)))) (R.aa (R.ap (R.aa R.ak (R.aa (R.ix (R.bb (K:=K)) (R.v 1) (R.v 2)) (R.aa (R.v 4) R.ac)))) (R.aa (R.ap (R.aa R.ak (R.aa (R.ix (R.bb (K:=K)) (R.v 1) (R.v 2)) (R.aa (R.ix (R.bb (K:=K)) (R.v 1) (R.v 3)) (R.aa (R.v 4) R.ac))))) R.ac))))) (R.af (R.aj (R.ix (R.bb (K:=K)) (R.op R.cm (R.v 5) (R.bf (R.aa (R.ap (R.aa R.ak (R.aa (R.ix (R.bb (K:=K)) (R.v 1) (R.v 2)) (R.aa (R.v 4) R.ac)))) R.ac))) (R.fn cLdraw hLdraw rfl (R.aa (R.v 0) (R.aa R.ad R.ac)))))))))),?_⟩
  refine⟨_,.inl (SqL.of gl),d,b,_,rfl,dk,by rw[el];omega,by rw[el];omega,fun r1 H1 a0 a1 D1 k1=>?_⟩
  rw[el]at a1;dsimp only [aK];have gl1:=k1 _ _ gl nd nb
  refine⟨_,.inl (SqL.of gl1),d,b,_,rfl,D1,by rw[el];omega,by rw[el];omega,fun r2 H2 b0 b1 D2 k2=>?_⟩
  rw[el]at b1;have gl2:=k2 _ _ gl1 nd nb
  refine⟨_,.inl (SqL.of gl2),by rw[el];omega,?_⟩
  rw[el];dsimp only [aK];refine⟨d,b,rfl,D2,fun n H3 n1 n2 D3 k3=>?_⟩
  dsimp only [aK];have gl3:=k3 _ _ gl2 nd nb
  obtain⟨i,rfl⟩:=Rx a0
  have hi:i<zs.length:=by omega
  have ho0:0<=(((i:Int)+1+r2) % (zs.length:Int)):=Int.emod_nonneg _ Zo
  have ho1:(((i:Int)+1+r2) % (zs.length:Int))<zs.length:=Int.emod_lt_of_pos _ Zo
  have hon:(((i:Int)+1+r2) % (zs.length:Int))≠(i:Int):=by
   have h2':(i:Int)+1+r2<2*zs.length:=by omega
   by_cases hlt:(i:Int)+1+r2<zs.length
   ·rw[Int.emod_eq_of_lt Zo hlt];omega
   ·have:((i:Int)+1+r2) % (zs.length:Int)=(i:Int)+1+r2 - zs.length:=by
     rw[<- Int.sub_emod_right,Int.emod_eq_of_lt Zo Zo]
    rw[this];omega
  obtain⟨o,ho⟩:=Rx ho0
  have hoe:((i:Int)+1+r2) % (zs.length:Int)=((o:Nat):Int):=ho
  rw[hoe];have ho':o<zs.length:=by omega
  have hio:i≠o:=by omega
  have ai:kA (zs.map V.str) (i:Int)=some (.str zs[i]):=dA (by rw[iU,mQ hi];rfl)
  have ao:kA (zs.map V.str) (o:Int)=some (.str zs[o]):=dA (by rw[iU,mQ ho'];rfl)
  have mi:=List.getElem_mem hi
  have mo:=List.getElem_mem ho'
  have nio:zs[i]≠zs[o]:=fun e=>hio (Hg hnd (by rw[mQ hi]) (by rw[mQ ho',e]))
  refine⟨_,SqL.of gl3,_,ai,aX rfl,fun t1 H4 s4 g4=>⟨_,SqL.of (s4 _ _ gl3),_,ai,aX rfl,fun t2 H5 s5 g5=>⟨_,SqL.of (s5 _ _ (s4 _ _ gl3)),_,ai,_,SqL.of (s5 _ _ (s4 _ _ gl3)),_,ao,aX rfl,fun t3 H6 s6 g6=>⟨mF rfl,fun p hp=>?_⟩⟩⟩⟩
  have k6:=(s4.trans s5).trans s6
  dsimp only [aK];have s7:=aF (o:=.lst [.ref t1,.ref t2,.ref t3]) hp
  have gp:(aI H6 p (.lst [.ref t1,.ref t2,.ref t3])) p=some (.lst [.ref t1,.ref t2,.ref t3]):=aB
  generalize aI H6 p (.lst [.ref t1,.ref t2,.ref t3])=H7 at s7 gp ⊢;refine⟨_,SqL.of (s7 _ _ (k6 _ _ gl3)),_,ai,aX rfl,fun t4 H8 s8 g8=>⟨mF rfl,fun p2 hp2=>⟨_,_,aF hp2 _ _ (s8 _ _ gp),aB,mF rfl,fun p3 hp3=>?_⟩⟩⟩
  have s9:=(s8.trans (aF (o:=.lst [.ref t4]) hp2)).trans (aF (o:=.lst ([.ref t1,.ref t2,.ref t3]++[.ref t4])) hp3)
  have gp3:(aI (aI H8 p2 (.lst [.ref t4])) p3 (.lst ([.ref t1,.ref t2,.ref t3]++[.ref t4]))) p3=some (.lst ([.ref t1,.ref t2,.ref t3]++[.ref t4])):=aB
  have g84:=(aF (o:=.lst ([.ref t1,.ref t2,.ref t3]++[.ref t4])) hp3) _ _ (aF (o:=.lst [.ref t4]) hp2 _ _ g8)
  have hp3d:=fun(D9:Dk H8 d b)=>(D9.new (o:=.lst [.ref t4]) hp2).ne hp3
  generalize aI (aI H8 p2 (.lst [.ref t4])) p3 (.lst ([.ref t1,.ref t2,.ref t3]++[.ref t4]))=H9 at s9 gp3 g84 ⊢;have k9:=(k6.trans s7).trans s9
  have D8:Dk H8 d b:=D3.same ((k6.trans s7).trans s8)
  have D9:=D3.same k9
  refine⟨d,b,4,rfl,D9,Zd,Zd,fun r5 H10 e0 e1 D10 k10=>?_⟩
  have np3:=hp3d D8
  have gp10:=k10 _ _ gp3 np3.1 np3.2
  have kk:Kp d b H H10:=((((k1.trans k2).trans k3).trans (fun c o e _ _=>k9 _ _ e)).trans k10)
  have dd:=D9.ex
  obtain⟨ns0,s0,k0,gd,gb,_⟩:=dd
  have tk10:∀t xs,H9 t=some (.tup xs)->H10 t=some (.tup xs):=fun t xs e=>k10 _ _ e (aM e gd fun z=>nomatch z) (aM e gb fun z=>nomatch z)
  have one:∀m∈zs,∀q∈cY (.add m n),q.1∈zs:=fun m hm q hq=>by rw[Zms.mp hq];exact hm
  have one':∀m∈zs,∀q∈cY (.take m n),q.1∈zs:=fun m hm q hq=>by rw[Zms.mp hq];exact hm
  rcases Uo e0 e1 with rfl | rfl | rfl | rfl
  ·exact⟨_,SqL.of gp10,_,rfl,q t1 (.add zs[i] n) H10 ⟨⟨hnm _ mi,n1,n2⟩,rfl,one _ mi⟩ (tk10 _ _ (s9 _ _ (s7 _ _ (s6 _ _ (s5 _ _ g4))))) D10 kk⟩
  ·exact⟨_,SqL.of gp10,_,rfl,q t2 (.take zs[i] n) H10 ⟨⟨hnm _ mi,n1,n2⟩,rfl,one' _ mi⟩ (tk10 _ _ (s9 _ _ (s7 _ _ (s6 _ _ g5)))) D10 kk⟩
  ·refine⟨_,SqL.of gp10,_,rfl,q t3 (.move zs[i] zs[o] n) H10 ⟨⟨hnm _ mi,hnm _ mo,nio,n1,n2⟩,rfl,fun q hq=>?_⟩ (tk10 _ _ (s9 _ _ (s7 _ _ g6))) D10 kk⟩
   simp only [cY,List.mem_cons,List.not_mem_nil,or_false]at hq
   rcases hq with rfl | rfl
   ·exact mi
   ·exact mo
  ·exact⟨_,SqL.of gp10,_,rfl,q t4 (.add zs[i] n) H10 ⟨⟨hnm _ mi,n1,n2⟩,rfl,one _ mi⟩ (tk10 _ _ g84) D10 kk⟩
end
end KL
namespace KL
open PySem L2
section
variable {P:Program} {w:World} {K:W.Frag} {mg:Str->Option Value} {base:Heap}
theorem mZ {d b:Addr} {H H':Hp} (s:Same H H'):Kp d b H H':=fun c o e _ _=>s c o e
theorem lZ {H H':Hp} {d b:Addr} (D:Dk H d b) (k:Kp d b H H'):TK H H':=by
 obtain⟨ns0,s0,k0,gd,gb,_⟩:=D.ex
 exact fun t xs e=>k _ _ e (aM e gd fun z=>nomatch z) (aM e gb fun z=>nomatch z)
def qO:Sp:=fun vs H Q _=>∃(d b l t0 t1:Addr) (zs:List Str) (x0 x1:Dd),vs=[.ref d,.ref t0,.ref t1,.ref l]/\Dk H d b/\H l=some (.lst (zs.map V.str))/\l≠d/\l≠b/\Hx zs/\mP zs x0/\mP zs x1/\H t0=some (.tup x0.vs)/\H t1=some (.tup x1.vs)/\∀(t:Addr) (x:Dd) H',mP zs x->H' t=some (.tup x.vs)->Dk H' d b->Kp d b H H'->Q (.ref t) H'
theorem xG (T:Txt K mg) (cLdraw:aH P w K mg base 1 "_law_draw" ["_law_deck_here","_law_many"] hX) (D:DefAt K mg "_law_again" fU ["_law_deck_here","_law_first","_law_deed_here","_law_names"]):aH P w K mg base 2 "_law_again" ["_law_deck_here","_law_first","_law_deed_here","_law_names"] qO:=by
 refine D.go hW (fun vs H Q E h=>?_) (fun f cdv A outer s H vs Q E hr h=>?_)
 ·obtain⟨d,b,l,t0,t1,zs,x0,x1,rfl,_⟩:=h;rfl
 ·obtain⟨d,b,l,t0,t1,zs,x0,x1,rfl,dk,gl,nd,nb,hz,hn0,hn1,g0,g1,q⟩:=h
  have hLdraw:=hr
  obtain⟨hnd,hnm,h2,h20⟩:=hz
  have el:(zs.map V.str).length=zs.length:=dN ..
  refine⟨_,(R.ae (R.au (i:=4) hW.nd (R.fn cLdraw hLdraw rfl (R.aa (R.v 0) (R.aa R.ad R.ac)))) (R.ae (R.aq (R.al R.eq (R.v 4) R.ad) (R.af (R.aj (R.v 2))) R.ar) (R.ae (R.aq (R.al R.gt (R.v 4) R.ad) (R.af (R.aj (R.v 1))) R.ar) (R.ae (R.au (i:=5) hW.nd (R.fn cLdraw hLdraw rfl (R.aa (R.v 0) (R.aa R.ad R.ac)))) (R.ae (R.aq (R.al R.eq (R.v 5) R.ad) (R.af (R.aj (R.op R.cf (R.sl R.sT (R.v 1) R.pn (R.ps (R.az R.ad))) (R.ap (R.aa (R.op R.aw (R.op R.br (R.ix (R.ah (K:=K)) (R.v 1) (R.az R.ad)) (R.op R.cy R.ad R.ad)) R.ad) R.ac))))) R.ar) (R.ae (R.aq (R.al R.eq (R.ix (R.ah (K:=K)) (R.v 1) R.ad) R.ak) (R.af (R.aj (R.ap (R.aa (R.ix (R.ah (K:=K)) (R.v 1) R.ad) (R.aa (R.ix (R.ah (K:=K)) (R.v 1) R.ad) (R.aa (R.ix (R.ah (K:=K)) (R.v 1) R.ad) (R.aa (R.ix (R.ah (K:=K)) (R.v 1) R.ad) R.ac))))))) R.ar) (R.ae (R.aq (R.al R.eq (R.v 5) R.ad) (R.af (R.aj (R.op R.cf (R.ap (R.aa (R.ix (R.bb (K:=K)) (R.bf (R.aa R.ak (R.aa R.ak R.ac))) (R.cw R.iq rfl T.b_int Es (R.aa (R.cu R.eq (R.ix (R.ah (K:=K)) (R.v 1) R.ad) R.ak) R.ac))) R.ac)) (R.sl R.sT (R.v 1) (R.ps R.ad) R.pn)))) R.ar) (R.af (R.aj (R.ap (R.aa (R.ix (R.ah (K:=K)) (R.v 1) R.ad) (R.aa (R.ix (R.bb (K:=K)) (R.v 3) (R.op R.br (R.op R.aw (R.cn (K:=K) PySem.F.plainAttrs_list PySem.F.slot_list_index PySem.F.type_list_index R.fg (R.v 3) (R.aa (R.ix (R.ah (K:=K)) (R.v 1) R.ad) R.ac)) R.ad) (R.ba (R.bo (K:=K)) rfl T.b_len bY (R.aa (R.v 3) R.ac)))) (R.aa (R.ix (R.ah (K:=K)) (R.v 1) R.ad) R.ac))))))))))))),?_⟩
  refine⟨d,b,4,rfl,dk,Zd,Zd,fun r1 H1 a0 a1 D1 k1=>?_⟩
  dsimp only [aK];have g01:=lZ dk k1 _ _ g0
  have g11:=lZ dk k1 _ _ g1
  show if decide (r1=0)=true then _ else _
  refine dQ (fun _=>?_) (fun _=>?_)
  ·exact q t1 x1 H1 hn1 g11 D1 k1
  dsimp only [cT];show if decide (1<r1)=true then _ else _
  refine dQ (fun _=>?_) (fun _=>?_)
  ·exact q t0 x0 H1 hn0 g01 D1 k1
  dsimp only [cT];refine⟨d,b,3,rfl,D1,Zd,Zd,fun r2 H2 b0 b1 D2 k2=>?_⟩
  dsimp only [aK];have kk:=k1.trans k2
  have g02:=lZ D1 k2 _ _ g01
  have gl2:=kk _ _ gl nd nb
  have fin:∀(t:Addr) (x:Dd) H',mP zs x->H' t=some (.tup x.vs)->Same H2 H'->Q (.ref t) H':=fun t x H' hx g s'=>q t x H' hx g (D2.same s') (kk.trans (mZ s'))
  have md:∀n:Nat,∃m:Nat,((n:Int) % 1000000000000+1)=(m:Int)/\1<=m/\m<=1000000000000:=fun n=>⟨n % 1000000000000+1,Zo,Zo,Zo⟩
  have at1:∀a n,mP zs (.add a n)->a∈zs:=fun a n h=>h.2.2 (a,(n:Int)) (by simp [cY])
  have at2:∀a n,mP zs (.take a n)->a∈zs:=fun a n h=>h.2.2 (a,-(n:Int)) (by simp [cY])
  cases x0 with
  | send g a n=>exact nomatch hn0.2.1
  | fetch g a n=>exact nomatch hn0.2.1
  | pass g g' a n=>exact nomatch hn0.2.1
  | move a c n=>
   obtain⟨m,em,m1,m2⟩:=md n
   show if decide (r2=0)=true then _ else _
   refine dQ (fun _=>?_) (fun _=>?_)
   ·refine⟨_,g02,fun p3 H3 s3 g3=>⟨_,SqT.of (s3 _ _ g02),_,rfl,⟨Zd,Zd,Zd⟩,by show(0:Int)<1000000000000;decide,aX rfl,fun p4 H4 s4 g4=>⟨_,_,s4 _ _ g3,g4,aX rfl,fun p5 H5 s5 g5=>?_⟩⟩⟩
    refine fin p5 (.move a c m) H5 ⟨⟨hn0.1.1,hn0.1.2.1,hn0.1.2.2.1,m1,m2⟩,rfl,fun q hq=>?_⟩ ?_ ((s3.trans s4).trans s5)
    ·simp only [cY,List.mem_cons,List.not_mem_nil,or_false]at hq
     rcases hq with rfl | rfl
     ·exact hn0.2.2 (a,-(n:Int)) (by simp [cY])
     ·exact hn0.2.2 (c,(n:Int)) (by simp [cY])
    ·rw[g5];show some (HO.tup [V.str "move",V.str a,V.str c,V.int ((n:Int) % 1000000000000+1)])=_
     rw[em];rfl
   refine⟨_,SqT.of g02,_,rfl,?_⟩
   refine⟨_,SqT.of g02,_,rfl,_,SqT.of g02,_,rfl,_,SqT.of g02,_,rfl,_,SqT.of g02,_,rfl,aX rfl,fun p3 H3 s3 g3=>fin p3 (.move c a n) H3 ⟨⟨hn0.1.2.1,hn0.1.1,hn0.1.2.2.1.symm,hn0.1.2.2.2⟩,rfl,fun q hq=>?_⟩ g3 s3⟩
   simp only [cY,List.mem_cons,List.not_mem_nil,or_false]at hq
   rcases hq with rfl | rfl
   ·exact hn0.2.2 (c,(n:Int)) (by simp [cY])
   ·exact hn0.2.2 (a,-(n:Int)) (by simp [cY])
  | add a n=>
   obtain⟨m,em,m1,m2⟩:=md n
   have ha:=at1 a n hn0
   show if decide (r2=0)=true then _ else _
   refine dQ (fun _=>?_) (fun _=>?_)
   ·refine⟨_,g02,fun p3 H3 s3 g3=>⟨_,SqT.of (s3 _ _ g02),_,rfl,⟨Zd,Zd,Zd⟩,by show(0:Int)<1000000000000;decide,aX rfl,fun p4 H4 s4 g4=>⟨_,_,s4 _ _ g3,g4,aX rfl,fun p5 H5 s5 g5=>?_⟩⟩⟩
    refine fin p5 (.add a m) H5 ⟨⟨hn0.1.1,m1,m2⟩,rfl,fun q hq=>by rw[Zms.mp hq];exact ha⟩ ?_ ((s3.trans s4).trans s5)
    rw[g5];show some (HO.tup [V.str "add",V.str a,V.int ((n:Int) % 1000000000000+1)])=_
    rw[em];rfl
   refine⟨_,SqT.of g02,_,rfl,?_⟩
   dsimp only [cT];show if decide (r2=1)=true then _ else _
   refine dQ (fun _=>?_) (fun _=>?_)
   ·refine⟨mF rfl,fun p3 h3=>⟨_,SqT.of (aF h3 _ _ g02),_,rfl,_,SqL.of aB,_,rfl,aX rfl,fun p4 H4 s4 g4=>⟨_,s4 _ _ (aF h3 _ _ g02),fun p5 H5 s5 g5=>⟨_,_,s5 _ _ g4,g5,aX rfl,fun p6 H6 s6 g6=>fin p6 (.take a n) H6 ⟨hn0.1,rfl,fun q hq=>by rw[Zms.mp hq];exact ha⟩ g6 ((((aF h3).trans s4).trans s5).trans s6)⟩⟩⟩⟩
   refine⟨_,SqT.of g02,_,rfl,.inl ⟨rfl,_,SqL.of gl2⟩,_,SqT.of g02,_,rfl,zs,gl2,ha,fun j hj=>⟨_,.inl (SqL.of gl2),by rw[el];omega,?_⟩⟩
   rw[el];obtain⟨o,ho⟩:=Rx (Int.emod_nonneg ((j:Int)+1) (show(zs.length:Int)≠0 by omega))
   have ho1:=Int.emod_lt_of_pos ((j:Int)+1) (show(0:Int)<zs.length by omega)
   have hoe:((j:Int)+1) % (zs.length:Int)=((o:Nat):Int):=ho
   dsimp only;rw[hoe]at ho1 ⊢;have ho':o<zs.length:=by omega
   refine⟨_,SqL.of gl2,.str zs[o],dA (by rw[iU,mQ ho'];rfl),_,SqT.of g02,_,rfl,aX rfl,fun p3 H3 s3 g3=>fin p3 (.add zs[o] n) H3 ⟨⟨hnm _ (List.getElem_mem ho'),hn0.1.2⟩,rfl,fun q hq=>by rw[Zms.mp hq];exact List.getElem_mem ho'⟩ g3 s3⟩
  | take a n=>
   obtain⟨m,em,m1,m2⟩:=md n
   have ha:=at2 a n hn0
   show if decide (r2=0)=true then _ else _
   refine dQ (fun _=>?_) (fun _=>?_)
   ·refine⟨_,g02,fun p3 H3 s3 g3=>⟨_,SqT.of (s3 _ _ g02),_,rfl,⟨Zd,Zd,Zd⟩,by show(0:Int)<1000000000000;decide,aX rfl,fun p4 H4 s4 g4=>⟨_,_,s4 _ _ g3,g4,aX rfl,fun p5 H5 s5 g5=>?_⟩⟩⟩
    refine fin p5 (.take a m) H5 ⟨⟨hn0.1.1,m1,m2⟩,rfl,fun q hq=>by rw[Zms.mp hq];exact ha⟩ ?_ ((s3.trans s4).trans s5)
    rw[g5];show some (HO.tup [V.str "take",V.str a,V.int ((n:Int) % 1000000000000+1)])=_
    rw[em];rfl
   refine⟨_,SqT.of g02,_,rfl,?_⟩
   dsimp only [cT];show if decide (r2=1)=true then _ else _
   refine dQ (fun _=>?_) (fun _=>?_)
   ·refine⟨mF rfl,fun p3 h3=>⟨_,SqT.of (aF h3 _ _ g02),_,rfl,_,SqL.of aB,_,rfl,aX rfl,fun p4 H4 s4 g4=>⟨_,s4 _ _ (aF h3 _ _ g02),fun p5 H5 s5 g5=>⟨_,_,s5 _ _ g4,g5,aX rfl,fun p6 H6 s6 g6=>fin p6 (.add a n) H6 ⟨hn0.1,rfl,fun q hq=>by rw[Zms.mp hq];exact ha⟩ g6 ((((aF h3).trans s4).trans s5).trans s6)⟩⟩⟩⟩
   refine⟨_,SqT.of g02,_,rfl,.inl ⟨rfl,_,SqL.of gl2⟩,_,SqT.of g02,_,rfl,zs,gl2,ha,fun j hj=>⟨_,.inl (SqL.of gl2),by rw[el];omega,?_⟩⟩
   rw[el];obtain⟨o,ho⟩:=Rx (Int.emod_nonneg ((j:Int)+1) (show(zs.length:Int)≠0 by omega))
   have ho1:=Int.emod_lt_of_pos ((j:Int)+1) (show(0:Int)<zs.length by omega)
   have hoe:((j:Int)+1) % (zs.length:Int)=((o:Nat):Int):=ho
   dsimp only;rw[hoe]at ho1 ⊢;have ho':o<zs.length:=by omega
   refine⟨_,SqL.of gl2,.str zs[o],dA (by rw[iU,mQ ho'];rfl),_,SqT.of g02,_,rfl,aX rfl,fun p3 H3 s3 g3=>fin p3 (.take zs[o] n) H3 ⟨⟨hnm _ (List.getElem_mem ho'),hn0.1.2⟩,rfl,fun q hq=>by rw[Zms.mp hq];exact List.getElem_mem ho'⟩ g3 s3⟩
end
end KL
namespace KL
open PySem L2
section
variable {P:Program} {w:World} {K:W.Frag} {mg:Str->Option Value} {base:Heap}
theorem Cd {r:Int} (h:0<=r):∃z:Nat,r=z:=⟨r.toNat,Zo⟩
theorem xH:("abcdefghijklmnopqrstuvwxyz":Str)=tx LET:=by rw[tX ("abcdefghijklmnopqrstuvwxyz":Str),rO]
theorem Lq:("abcdefghijklmnopqrstuvwxyz":Str)++("0123456789":Str)=tx KLET:=by rw[tX ("abcdefghijklmnopqrstuvwxyz":Str),rO,tX ("0123456789":Str),Ew,rK];rfl
theorem Rl:LET.Nodup:=by decide
theorem Uw:KLET.Nodup:=by decide
theorem WordsOf.nm {ws:List Str} (h:WordsOf LET 8 ws):∀z∈ws,isNm z:=fun z hz=>h.of z hz
theorem WordsOf.ky {ws:List Str} (h:WordsOf KLET 12 ws):∀z∈ws,isKy z:=fun z hz=>h.of z hz
theorem zI {xs:List V} {v:V}:kA (xs++[v]) (-1)=some v:=by
 unfold kA Jf;rw[if_neg Zd,if_pos (by simp;omega)]
 have:((-1:Int)+((xs++[v]).length:Int)).toNat=xs.length:=by simp;omega
 show(xs++[v])[((-1:Int)+((xs++[v]).length:Int)).toNat]?=some v
 rw[this];simp
theorem kS (z:Str):z.length=z.cps.toList.length:=by simp [Str.length]
def zJ:Sp:=fun vs H Q _=>∃d b,vs=[.ref d]/\Dk H d b/\∀(t la lk:Addr) (as ks:List Str) (H':Hp),H' t=some (.tup [.ref la,.ref lk])->H' la=some (.lst (as.map V.str))->H' lk=some (.lst (ks.map V.str))->(∀z∈as,isNm z)->(∀z∈ks,isKy z)->1<=as.length->as.length<=6->1<=ks.length->ks.length<=6->la≠d->la≠b->lk≠d->lk≠b->Dk H' d b->Kp d b H H'->Q (.ref t) H'
theorem Hy (T:Txt K mg) (cLdraw:aH P w K mg base 1 "_law_draw" ["_law_deck_here","_law_many"] hX) (cLunlike:aH P w K mg base 2 "_law_unlike" ["_law_deck_here","_law_signs","_law_longest","_law_many"] lN) (D:DefAt K mg "_law_spots" cX ["_law_deck_here"]):aH P w K mg base 3 "_law_spots" ["_law_deck_here"] zJ:=by
 refine D.go bV (fun vs H Q E h=>?_) (fun f cdv A outer s H vs Q E hr h=>?_)
 ·obtain⟨d,b,rfl,_⟩:=h;rfl
 ·obtain⟨d,b,rfl,dk,q⟩:=h
  have hLdraw:Room 1 _:=hr.mono Zd
  have hLunlike:=hr
  refine⟨_,(R.ae (R.au (i:=1) bV.nd R.ak) (R.ae (R.au (i:=2) bV.nd (R.fn cLunlike hLunlike rfl (R.aa (R.v 0) (R.aa (R.v 1) (R.aa R.ad (R.aa (R.op R.aw R.ad (R.fn cLdraw hLdraw rfl (R.aa (R.v 0) (R.aa R.ad R.ac)))) R.ac)))))) (R.ae (R.au (i:=3) bV.nd (R.fn cLunlike hLunlike rfl (R.aa (R.v 0) (R.aa (R.op R.di (R.v 1) R.ak) (R.aa R.ad (R.aa (R.op R.aw R.ad (R.fn cLdraw hLdraw rfl (R.aa (R.v 0) (R.aa R.ad R.ac)))) R.ac)))))) (R.ae (R.aq (R.al R.eq (R.fn cLdraw hLdraw rfl (R.aa (R.v 0) (R.aa R.ad R.ac))) R.ad) (R.ae (R.au (i:=4) bV.nd (R.sl R.sS (R.op R.di (R.ix (R.bb (K:=K)) (R.v 2) (R.az R.ad)) R.ak) R.pn (R.ps R.ad))) (R.ae (R.dj (i:=2) bV.nd rfl (Or.inl rfl) rfl (js:=[none,some 4]) (N:=["_law_k","_law_word"]) (CompScope.by (aA cX) ["_law_deck_here","_law_letters","_law_askers","_law_keys","_law_word"] rfl rfl Zk) (aS rfl) (R.cz rfl T.b_range (R.aa R.ad R.ac)) (fun C s₂ H₂ fp=>⟨(R.gn (i:=0) (show(["_law_k","_law_word"]:List Str).Nodup by decide +kernel)),R.bt,(R.sl R.sS (R.v 1) R.pn (R.ps (R.op R.aw (R.v 0) R.ad)))⟩) rfl) (R.af (R.dj (i:=3) bV.nd rfl (Or.inl rfl) rfl (js:=[none,some 4]) (N:=["_law_k","_law_word"]) (CompScope.by (aA cX) ["_law_deck_here","_law_letters","_law_askers","_law_keys","_law_word"] rfl rfl Zk) (aS rfl) (R.cz rfl T.b_range (R.aa R.ad R.ac)) (fun C s₂ H₂ fp=>⟨(R.gn (i:=0) (show(["_law_k","_law_word"]:List Str).Nodup by decide +kernel)),R.bt,(R.sl R.sS (R.v 1) (R.ps (R.op R.aw (R.v 0) R.ad)) R.pn)⟩) rfl)))) R.ar) (R.af (R.aj (R.ap (R.aa (R.v 2) (R.aa (R.v 3) R.ac))))))))),?_⟩
  refine⟨d,b,6,rfl,dk,Zd,Zd,fun r1 H1 a0 a1 D1 k1=>?_⟩
  obtain⟨i,rfl⟩:=Cd a0
  refine⟨d,b,LET,8,1+i,by rw[<- xH,show((1+i:Nat):Int)=1+(i:Int) by omega];rfl,D1,Zo,Zo,Zd,Rl,by show 1+i<=26;omega,Zd,fun la as H2 wa hal gla na nb D2 k2=>?_⟩
  dsimp only [aK];refine⟨gA Zk,d,b,6,rfl,D2,Zd,Zd,fun r2 H3 b0 b1 D3 k3=>?_⟩
  obtain⟨j,rfl⟩:=Cd b0
  refine⟨d,b,KLET,12,1+j,by rw[<- Lq,show((1+j:Nat):Int)=1+(j:Int) by omega];rfl,D3,Zo,Zo,Zd,Uw,by show 1+j<=36;omega,Zd,fun lk ks H4 wk hkl glk nka nkb D4 k4=>?_⟩
  dsimp only [aK];have gla4:=(k3.trans k4) _ _ gla na nb
  refine lW (fun σ' H'=>∃(la lk:Addr) (as ks:List Str) (o:Option V),σ'=[some (.ref d),some (.str "abcdefghijklmnopqrstuvwxyz"),some (.ref la),some (.ref lk),o]/\H' la=some (.lst (as.map V.str))/\H' lk=some (.lst (ks.map V.str))/\(∀z∈as,isNm z)/\(∀z∈ks,isKy z)/\1<=as.length/\as.length<=6/\1<=ks.length/\ks.length<=6/\la≠d/\la≠b/\lk≠d/\lk≠b/\Dk H' d b/\Kp d b H H') (fun nx hnx=>?_) ?_
  ·refine⟨d,b,4,rfl,D4,Zd,Zd,fun r3 H5 c0 c1 D5 k5=>?_⟩
   have kk:=(((k1.trans k2).trans k3).trans k4).trans k5
   have gla5:=k5 _ _ gla4 na nb
   have glk5:=k5 _ _ glk nka nkb
   show if decide (r3=0)=true then _ else _
   refine dQ (fun _=>?_) (fun _=>?_)
   ·obtain⟨pre,z,rfl⟩:∃pre z,as=pre++[z]:=by
     rcases List.eq_nil_or_concat as with e | ⟨l,a,e⟩
     ·rw[e]at hal;simp at hal;omega
     ·exact⟨l,a,by rw[e,List.concat_eq_append]⟩
    have hz:isNm z:=wa.of z Zs
    refine⟨_,SqL.of gla5,.str z,by rw[jV];exact zI,gA (by have:=hz.2.1;rw[show("abcdefgh":Str).length=8 by decide +kernel];omega),gA ?_,?_⟩
    ·rw[kS,rL,zO,<- kS,<- kS,show("abcdefgh":Str).length=8 by decide +kernel];have:=hz.2.1;omega
    rw[rL,show(8:Int)=((8:Nat):Int) by rfl,oE]
    obtain⟨ts,hts⟩:∃ts,ts=(z.cps.toList++("abcdefgh":Str).cps.toList).take 8:=⟨_,rfl⟩
    rw[<- hts];have hlen:ts.length=8:=by
     rw[hts,qR,zO,<- kS,<- kS,show("abcdefgh":Str).length=8 by decide +kernel];have:=hz.1;omega
    have hlet:∀c∈ts,c∈LET:=fun c hc=>by
     rw[hts]at hc;rcases Zma.mp (List.mem_of_mem_take hc) with m | m
     ·exact hz.2.2 c m
     ·exact(by decide +kernel:∀c∈("abcdefgh":Str).cps.toList,c∈LET) c m
    have hcl:(tx ts).cps.toList=ts:=by simp
    dsimp only [aK];refine⟨6,rfl,Zo,Zo,?_⟩
    refine bR (fK 0 (6:Int).toNat) (by rw[eB];decide) (fun i ys H'=>ys=((List.range i).map fun k=>tx (ts.take (k+1))).map V.str/\H'=H5) (fun i ys H' ⟨e,_⟩=>⟨trivial,by rw[e];simp⟩) ⟨rfl,rfl⟩ (fun i x ys H' hx ⟨e,e2⟩=>?_) (fun ys H' ⟨e,e2⟩=>?_)
    ·subst e2;obtain⟨rfl,hi⟩:=oR hx
     refine⟨gA (by rw[cC];omega),?_,rfl⟩
     rw[hcl,show((i:Nat):Int)+1=((i+1:Nat):Int) by omega,oE,e,List.range_succ,jV,jV]
     rfl
    ·subst e2;intro p hp;rw[eB]at e;have hpd:=D5.ne hp
     dsimp only [aK];have gp:(aI H' p (.lst ys)) p=some (.lst ys):=aB
     have s6:=aF (o:=.lst ys) hp
     generalize aI H' p (.lst ys)=H6 at gp s6 ⊢;have D6:=D5.same s6
     refine⟨6,rfl,Zo,Zo,?_⟩
     refine bR (fK 0 (6:Int).toNat) (by rw[eB];decide) (fun i zs H'=>zs=((List.range i).map fun k=>tx (ts.drop (k+1))).map V.str/\H'=H6) (fun i zs H' ⟨e,_⟩=>⟨trivial,by rw[e];simp⟩) ⟨rfl,rfl⟩ (fun i x zs H' hx ⟨e,e2⟩=>?_) (fun zs H' ⟨e',e2⟩=>?_)
     ·subst e2;obtain⟨rfl,hi⟩:=oR hx
      refine⟨gA (by rw[cC];omega),?_,rfl⟩
      rw[hcl,show((i:Nat):Int)+1=((i+1:Nat):Int) by omega,tV,e,List.range_succ,jV,jV]
      rfl
     ·subst e2;intro p2 hp2;rw[eB]at e';have hp2d:=D6.ne hp2
      have s7:=aF (o:=.lst zs) hp2
      refine hnx _ _ ⟨p,p2,(List.range 6).map fun k=>tx (ts.take (k+1)),(List.range 6).map fun k=>tx (ts.drop (k+1)),_,rfl,by rw[s7 _ _ gp,e];rfl,by rw[aB,e'];rfl,fun z hz=>?_,fun z hz=>?_,Zs,Zs,Zs,Zs,hpd.1,hpd.2,hp2d.1,hp2d.2,D6.same s7,(kk.trans (mZ s6)).trans (mZ s7)⟩
      ·obtain⟨k,hk,rfl⟩:=Zmm.mp hz
       have hk':=List.mem_range.mp hk
       exact⟨by rw[cC,qR,hlen];omega,by rw[cC,qR,hlen];omega,fun c hc=>hlet c (List.mem_of_mem_take (by simpa using hc))⟩
      ·obtain⟨k,hk,rfl⟩:=Zmm.mp hz
       have hk':=List.mem_range.mp hk
       exact⟨by rw[cC,List.length_drop,hlen];omega,by rw[cC,List.length_drop,hlen];omega,fun c hc=>List.mem_append_left _ (hlet c (List.mem_of_mem_drop (by simpa using hc)))⟩
   ·exact hnx _ _ ⟨la,lk,as,ks,_,rfl,gla5,glk5,wa.nm,wk.ky,Zo,Zo,Zo,Zo,na,nb,nka,nkb,D5,kk⟩
  ·rintro σ' H5 ⟨la,lk,as,ks,o,rfl,gla,glk,h1,h2,h3,h4,h5,h6,h7,h8,h9,h10,D5,kk⟩
   exact⟨aX rfl,fun t H6 s6 gt=>q t la lk as ks H6 gt (s6 _ _ gla) (s6 _ _ glk) h1 h2 h3 h4 h5 h6 h7 h8 h9 h10 (D5.same s6) (kk.trans (mZ s6))⟩
end
end KL
namespace KL
open PySem L2
section
variable {P:Program} {w:World} {K:W.Frag} {mg:Str->Option Value} {base:Heap}
def eS (life turn:Int) (next:Nat) (same:Bool) (o:Option KE):List V:=if eR life turn o=true then [.str "begun",.int next] else match o with | some e=>lX same e | none=>[]
def TabOk (H:Hp) (tkv:List (List bE × V)) (m:KM):Prop:=∀q:Str × Str,match m q with
 | none=>aY tkv (pk q)=none
 | some (.busy n d)=>∃t w,aY tkv (pk q)=some (.ref t)/\H t=some (.tup [.int n,.non,.ref d,.int w])
 | some (.kept n w d z)=>∃t,aY tkv (pk q)=some (.ref t)/\H t=some (.tup [.int n,.ref z,.ref d,.int w])
theorem TabOk.tk {H H':Hp} {tkv:List (List bE × V)} {m:KM} (h:TabOk H tkv m) (k:TK H H'):TabOk H' tkv m:=fun q=>by
 have:=h q
 cases e:m q with
 | none=>rw[e]at this;exact this
 | some v=>
  rw[e]at this;cases v with
  | busy n d=>obtain⟨t,w,h1,h2⟩:=this;exact⟨t,w,h1,k _ _ h2⟩
  | kept n w d z=>obtain⟨t,h1,h2⟩:=this;exact⟨t,h1,k _ _ h2⟩
theorem TabOk.put {H:Hp} {tkv:List (List bE × V)} {m:KM} {q:Str × Str} {e:KE} {t:Addr} (h:TabOk H tkv m) (ht:match e with | .busy n d=>∃w,H t=some (.tup [.int n,.non,.ref d,.int w]) | .kept n w d z=>H t=some (.tup [.int n,.ref z,.ref d,.int w])):TabOk H (bA tkv (pk q) (.ref t)) (m.set q (some e)):=fun r=>by
 by_cases z:r=q
 ·subst z;rw[KM.set_same];cases e with
  | busy n d=>obtain⟨w,g⟩:=ht;exact⟨t,w,by rw[eF,if_pos rfl],g⟩
  | kept n w d z=>exact⟨t,by rw[eF,if_pos rfl],ht⟩
 ·rw[KM.set_ne z];have:=h r
  have hne:pk r≠pk q:=fun e=>z (wR e)
  cases e:m r with
  | none=>rw[e]at this;show aY _ _=none;rw[eF,if_neg hne];exact this
  | some v=>
   rw[e]at this;cases v with
   | busy n d=>obtain⟨t,w,h1,h2⟩:=this;exact⟨t,w,by rw[eF,if_neg hne];exact h1,h2⟩
   | kept n w d z=>obtain⟨t,h1,h2⟩:=this;exact⟨t,by rw[eF,if_neg hne];exact h1,h2⟩
def zK:Sp:=fun vs H Q _=>∃(tb sp d:Addr) (tkv:List (List bE × V)) (m:KM) (q:Str × Str) (x x0:Dd) (turn life:Int) (n:Nat),vs=[.ref tb,.ref sp,.ref d,.int turn,.int life,.int n]/\H tb=some (.dT tkv)/\TabOk H tkv m/\H sp=some (.tup [.str q.1,.str q.2])/\H d=some (.tup x.vs)/\(∀e,m q=some e->H (KE.dd e)=some (.tup x0.vs)) ∧
 ∀t H',Same H H'->H' t=some (.tup (eS life turn n (bH x0.vs x.vs) (m q)))->Q (.ref t) H'
theorem Hz (D:DefAt K mg "_law_due" jD ["_law_table","_law_spot","_law_deed_here","_law_turn","_law_life","_law_number"]):aH P w K mg base 1 "_law_due" ["_law_table","_law_spot","_law_deed_here","_law_turn","_law_life","_law_number"] zK:=by
 refine D.go fO (fun vs H Q E h=>?_) (fun f cdv A outer s H vs Q E hr h=>?_)
 ·obtain⟨tb,sp,d,tkv,m,q,x,x0,turn,life,n,rfl,_⟩:=h;rfl
 ·obtain⟨tb,sp,d,tkv,m,q,x,x0,turn,life,n,rfl,gtb,tab,gsp,gd,hkd,q0⟩:=h
  have hu1:=dP hr
  have hu64:=hr.units
  refine⟨_,(R.ae (R.aq (R.al (R.ed hu1) (R.v 1) (R.v 0)) (R.af (R.aj (R.ap (R.aa R.ak (R.aa (R.v 5) R.ac))))) R.ar) (R.ae (R.bz (R.bp hu1 (R.v 0) (R.v 1)) (R.ca (K:=K) (n:=4) rfl (R.ay (R.gn (i:=6) fO.nd) (R.ay (R.gn (i:=7) fO.nd) (R.ay (R.gn (i:=8) fO.nd) (R.ay (R.gn (i:=9) fO.nd) R.cb)))))) (R.ae (R.aq (R.tw (R.cg (R.al R.et (R.v 7) R.bu) (R.ci (R.al R.le (R.op R.aw (R.v 9) (R.v 4)) (R.v 3))))) (R.af (R.aj (R.ap (R.aa R.ak (R.aa (R.v 5) R.ac))))) R.ar) (R.ae (R.aq (R.al (R.dz hu64) (R.v 8) (R.v 2)) (R.af (R.aj (R.ap (R.aa R.ak R.ac)))) R.ar) (R.ae (R.aq (R.al R.eu (R.v 7) R.bu) (R.af (R.aj (R.ap (R.aa R.ak (R.aa (R.v 6) R.ac))))) R.ar) (R.af (R.aj (R.ap (R.aa R.ak (R.aa (R.v 7) R.ac)))))))))),?_⟩
  have dg:=DGet.t gtb (dC gsp)
  have tq:=tab q
  cases hm:m q with
  | none=>
   rw[hm]at tq q0;have tq':aY tkv (pk q)=none:=tq
   rw[tq']at dg;refine⟨_,dg,?_⟩
   exact⟨aX rfl,fun t H' s' g=>q0 t H' s' g⟩
  | some e=>
   rw[hm]at tq q0;have h0:=hkd e hm
   cases e with
   | busy n0 d0=>
    obtain⟨t0,w0,hv,g0⟩:=tq
    rw[hv]at dg;refine⟨_,dg,?_⟩
    dsimp only [cT];refine⟨tb,.ref t0,rfl,dg,t0,_,rfl,SqT.of g0,rfl,_,_,rfl,_,_,rfl,_,_,rfl,_,_,rfl,rfl,?_⟩
    dsimp only [aK];refine⟨_,_,h0,gd,vB,?_⟩
    show if (!bH x0.vs x.vs)=true then _ else _
    cases he:bH x0.vs x.vs with
    | false=>rw[he]at q0;exact⟨aX rfl,fun t H' s' g=>q0 t H' s' g⟩
    | true=>rw[he]at q0;exact⟨aX rfl,fun t H' s' g=>q0 t H' s' g⟩
   | kept n0 w0 d0 z0=>
    obtain⟨t0,hv,g0⟩:=tq
    rw[hv]at dg;refine⟨_,dg,?_⟩
    dsimp only [cT];refine⟨tb,.ref t0,rfl,dg,t0,_,rfl,SqT.of g0,rfl,_,_,rfl,_,_,rfl,_,_,rfl,_,_,rfl,rfl,?_⟩
    dsimp only [aK];show if decide (w0+life<=turn)=true then _ else _
    refine dQ (fun hb=>?_) (fun hb=>?_)
    ·have hf:eR life turn (some (.kept n0 w0 d0 z0))=true:=by simp [eR];have:=of_decide_eq_true hb;omega
     have e1:eS life turn n (bH x0.vs x.vs) (some (.kept n0 w0 d0 z0))=[.str "begun",.int n]:=by unfold eS;rw[if_pos hf]
     rw[e1]at q0;exact⟨aX rfl,fun t H' s' g=>q0 t H' s' g⟩
    ·have hf:eR life turn (some (.kept n0 w0 d0 z0))=false:=by simp [eR];have:=of_decide_eq_false hb;omega
     have e1:eS life turn n (bH x0.vs x.vs) (some (.kept n0 w0 d0 z0))=lX (bH x0.vs x.vs) (.kept n0 w0 d0 z0):=by unfold eS;rw[if_neg (by rw[hf];exact Bool.false_ne_true)]
     rw[e1]at q0;dsimp only [cT];refine⟨_,_,h0,gd,vB,?_⟩
     show if (!bH x0.vs x.vs)=true then _ else _
     cases he:bH x0.vs x.vs with
     | false=>rw[he]at q0;exact⟨aX rfl,fun t H' s' g=>q0 t H' s' g⟩
     | true=>rw[he]at q0;exact⟨aX rfl,fun t H' s' g=>q0 t H' s' g⟩
structure Ia (c:CK) (H:Hp) (a:DA) (s:DS) (q:Str × Str) (d:Addr) (x x0:Dd):Prop where
 h:DAt c H a s
 q1:isNm q.1
 q2:isKy q.2
 ok:x.Ok
 far:x.far=false
 gd:H d=some (.tup x.vs)
 kd:∀e,s.m q=some e->H (KE.dd e)=some (.tup x0.vs)
 hL:s.L<=400
 hn:∀r∈s.runs,r.n<s.next
 hr:s.runs.length<=400
 ho:s.rows.length<=900
def vG (c:CK):Sp:=fun vs H Q _=>∃(a:DA) (s:DS) (turn:Int) (sp:Addr) (q:Str × Str) (d:Addr) (x x0:Dd),vs=[.ref a.dr,.int turn,.ref sp,.ref d]/\DAt c H a s/\isNm q.1/\isKy q.2/\x.Ok/\x.far=false/\H d=some (.tup x.vs)/\(∀e,s.m q=some e->H (KE.dd e)=some (.tup x0.vs))/\s.L<=500/\(∀r∈s.runs,r.n<s.next)/\s.runs.length<=500/\s.rows.length<=1000/\H sp=some (.tup [.str q.1,.str q.2])/\turn<s.turn/\∀H',Same H H'->Q (.bl true) H'
theorem Ce {c:CK} {CL:Addr} (M_Late:mg "Late"=some (.ref CL)) (xm:W.exmOne K (.ref CL) (.ref CL)=some true) (c_Door_come:wQ P w K mg base 5 c.D "come" ["self","turn","asker","key","deed"] (sW c CL)) (D:DefAt K mg "_law_is_late" dZ ["_law_door","_law_turn","_law_spot","_law_deed_here"]) :
  aH P w K mg base 6 "_law_is_late" ["_law_door","_law_turn","_law_spot","_law_deed_here"] (vG c):=by
 refine D.go fN (fun vs H Q E h=>?_) (fun f cdv A outer s H vs Q E hr h=>?_)
 ·obtain⟨a,s,turn,sp,q,d,x,x0,rfl,_⟩:=h;rfl
 ·obtain⟨a,s,turn,sp,q,d,x,x0,rfl,h,q1,q2,ok,far,gd,kd,hL,hn,hrl,ho,gsp,hlt,q0⟩:=h
  have hr_Door_come:=hr
  refine⟨_,(R.ae (R.au (i:=4) fN.nd R.bl) (R.ae (R.fm (K:=K) M_Late rfl (fun pn Ex=>(R.af (R.bq (R.fb c_Door_come hr_Door_come rY (R.v 0) (R.aa (R.v 1) (R.aa (R.ix (R.ah (K:=K)) (R.v 2) R.ad) (R.aa (R.ix (R.ah (K:=K)) (R.v 2) R.ad) (R.aa (R.v 3) R.ac)))))))) (fun a=>(R.af (R.au (i:=4) fN.nd R.bl)))) (R.af (R.aj (R.v 4))))),?_⟩
  refine⟨_,_,h.dr,by kernel_rfl,_,SqT.of gsp,_,rfl,_,SqT.of gsp,_,rfl,a,s,turn,q,d,x,x0,rfl,h,q1,q2,ok,far,gd,kd,hL,hn,hrl,ho,fun _ H' s'=>⟨xm,q0 H' s'⟩,fun hle=>by omega,fun hle=>by omega⟩
theorem zL (b:Bool) (e:KE) (H:Hp) (ya:∀n w d z,e=.kept n w d z->∃y:An,H z=some (.tup y.vs)):∃tv,∀t H',TK H H'->H' t=some (.tup (lX b e))->vI H' 2 tv (.ref t):=by
 cases b with
 | false=>
  refine⟨.tp [.sc (.str "other")],fun t H' k g=>⟨t,_,rfl,g,?_⟩⟩
  cases e <;> exact .cons ⟨rfl,rfl⟩ .nil
 | true=>
  cases e with
  | busy n d=>exact⟨.tp [.sc (.str "busy"),.sc (.int n)],fun t H' k g=>⟨t,_,rfl,g,.cons ⟨rfl,rfl⟩ (.cons ⟨rfl,rfl⟩ .nil)⟩⟩
  | kept n w d z=>
   obtain⟨y,gy⟩:=ya n w d z rfl
   exact⟨.tp [.sc (.str "kept"),RX.tvs y.vs],fun t H' k g=>⟨t,_,rfl,g,.cons ⟨rfl,rfl⟩ (.cons (RX.rep_flat (k _ _ gy) (RX.sc_an y)) .nil)⟩⟩
theorem Lr (life turn:Int) (n:Nat) (b:Bool) (o:Option KE) (H:Hp) (ya:∀n w d z,o=some (.kept n w d z)->∃y:An,H z=some (.tup y.vs)):∃tv,∀t H',TK H H'->H' t=some (.tup (eS life turn n b o))->vI H' 2 tv (.ref t):=by
 unfold eS;cases hf:eR life turn o with
 | true=>
  rw[if_pos rfl];exact⟨.tp [.sc (.str "begun"),.sc (.int n)],fun t H' k g=>⟨t,_,rfl,g,.cons ⟨rfl,rfl⟩ (.cons ⟨rfl,rfl⟩ .nil)⟩⟩
 | false=>
  rw[if_neg Bool.false_ne_true];obtain⟨e,he,_⟩:=oW hf
  subst he;exact zL b e H fun n w d z ez=>ya n w d z (by rw[ez])
end
end KL
namespace KL
open PySem L2
section
variable {P:Program} {w:World} {K:W.Frag} {mg:Str->Option Value} {base:Heap}
def qP (c:CK):Sp:=fun vs H Q _=>∃(a:DA) (s:DS) (turn:Int) (sp:Addr) (q:Str × Str) (d du:Addr) (x x0:Dd),vs=[.ref a.dr,.int turn,.ref sp,.ref d,.ref du]/\Ia c H a s q d x x0/\H sp=some (.tup [.str q.1,.str q.2])/\s.turn<=turn/\H du=some (.tup (eS s.life turn s.next (bH x0.vs x.vs) (s.m q)))/\(∀n w d z,s.m q=some (.kept n w d z)->∃y:An,H z=some (.tup y.vs)) ∧
 (eR s.life turn (s.m q)=false->∀H',DAt c H' a {s with turn:=turn }->Mv a s {s with turn:=turn } H H'->Q (.bl true) H') ∧
 (eR s.life turn (s.m q)=true->∀p dx ra H',DAt c H' a (dM s turn q d x p dx ra)->Mv a s (dM s turn q d x p dx ra) H H'->H' ra=some (.tup [.str "came",.int s.next,.int turn,.str q.1,.str q.2,.ref d])->Q (.bl true) H')
theorem xI {c:CK} {CL:Addr} (c_Door_come:wQ P w K mg base 5 c.D "come" ["self","turn","asker","key","deed"] (sW c CL)) (c_Door_now:cZ P w K mg base 2 c.D "now" ["self"] (Nf c)) (cLis_late:aH P w K mg base 6 "_law_is_late" ["_law_door","_law_turn","_law_spot","_law_deed_here"] (vG c))
  (D:DefAt K mg "_law_come_right" cH ["_law_door","_law_turn","_law_spot","_law_deed_here","_law_due_here"]):aH P w K mg base 7 "_law_come_right" ["_law_door","_law_turn","_law_spot","_law_deed_here","_law_due_here"] (qP c):=by
 refine D.go kO (fun vs H Q E h=>?_) (fun f cdv A outer s H vs Q E hr h=>?_)
 ·obtain⟨a,s,turn,sp,q,d,du,x,x0,rfl,_⟩:=h;rfl
 ·obtain⟨a,s,turn,sp,q,d,du,x,x0,rfl,h,gsp,hle,gdu,hya,QT,QB⟩:=h
  have hu64:=hr.units
  have hr_Door_come:Room 5 _:=hr.mono Zd
  have hr_Door_now:Room 2 _:=hr.mono Zd
  have hLis_late:=hr
  refine⟨_,(R.ae (R.aq (R.tw (R.bw (R.al (R.cq hu64) (R.fb c_Door_come hr_Door_come oM (R.v 0) (R.aa (R.v 1) (R.aa (R.ix (R.ah (K:=K)) (R.v 2) R.ad) (R.aa (R.ix (R.ah (K:=K)) (R.v 2) R.ad) (R.aa (R.v 3) R.ac))))) (R.v 4)) (R.cc (R.al R.ne (R.bn c_Door_now hr_Door_now (R.v 0)) (R.v 1))))) (R.af (R.aj R.bl)) R.ar) (R.ae (R.aq (R.tw (R.cg (R.al R.gt (R.v 1) R.ad) (R.ci (R.bh (R.bg (R.fn cLis_late hLis_late rfl (R.aa (R.v 0) (R.aa (R.op R.dw (R.v 1) R.ad) (R.aa (R.v 2) (R.aa (R.v 3) R.ac)))))))))) (R.af (R.aj R.bl)) R.ar) (R.af (R.aj (R.cu R.eq (R.bn c_Door_now hr_Door_now (R.v 0)) (R.v 1)))))),?_⟩
  obtain⟨tv,htv⟩:=Lr s.life turn s.next (bH x0.vs x.vs) (s.m q) H hya
  have rest:∀(t:Addr) (s':DS) (x0':Dd) (H':Hp),Ia c H' a s' q d x x0'->s'.turn=turn->s'.L<=500->s'.runs.length<=500->s'.rows.length<=1000->True->True:=fun _ _ _ _ _ _ _ _ _ _=>trivial
  have tail:∀(t:Addr) (s':DS) (x0':Dd) (H':Hp),DAt c H' a s'->Mv a s s' H H'->s'.turn=turn->s'.L<=500->s'.runs.length<=500->s'.rows.length<=1000->(∀r∈s'.runs,r.n<s'.next)->(∀e,s'.m q=some e->H' (KE.dd e)=some (.tup x0'.vs))->H' t=some (.tup (eS s.life turn s.next (bH x0.vs x.vs) (s.m q))) →
    (∀H2,DAt c H2 a s'->Mv a s s' H H2->TK H' H2->Q (.bl true) H2)->(∃n t',n<=50/\vI H' n t' (.ref t)/\vI H' n t' (.ref du))/\True:=fun t s' x0' H' h' v' _ _ _ _ _ _ gt _=>⟨⟨2,tv,Zd,htv t H' (v'.tk h.h) gt,htv du H' (v'.tk h.h) (v'.tk h.h _ _ gdu)⟩,trivial⟩
  refine⟨_,_,h.h.dr,by kernel_rfl,_,SqT.of gsp,_,rfl,_,SqT.of gsp,_,rfl,a,s,turn,q,d,x,x0,rfl,h.h,h.q1,h.q2,h.ok,h.far,h.gd,h.kd,by have:=h.hL;omega,h.hn,by have:=h.hr;omega,by have:=h.ho;omega,fun hlt=>by omega,fun _ e he hfr t H1 h1 v1 gt=>?_,fun _ hfr t p dx ra H1 h1 v1 gra gt=>?_⟩
  ·have gt':H1 t=some (.tup (eS s.life turn s.next (bH x0.vs x.vs) (s.m q))):=by
    rw[gt];unfold eS;rw[if_neg (by rw[hfr];exact Bool.false_ne_true),he]
   have tk1:=v1.tk h.h
   refine⟨2,tv,Zd,htv t H1 tk1 gt',htv du H1 tk1 (tk1 _ _ gdu),?_⟩
   refine⟨_,_,h1.dr,by kernel_rfl,a,_,rfl,h1,?_⟩
   show if (!decide (turn=turn))=true then _ else _
   refine tR Zs ?_
   dsimp only [cT];refine Gg (fun v H'=>v=false/\Same H1 H') (fun k hk=>?_) (fun H' e=>nomatch e.1) (fun H' e=>?_)
   ·show if decide (0<turn)=true then _ else _
    refine dQ (fun _=>?_) (fun _=>?_)
    ·refine⟨a,_,turn - 1,sp,q,d,x,x0,rfl,h1,h.q1,h.q2,h.ok,h.far,tk1 _ _ h.gd,fun e he=>tk1 _ _ (h.kd e he),by have:=h.hL;show s.L<=500;omega,h.hn,by have:=h.hr;show s.runs.length<=500;omega,by have:=h.ho;show s.rows.length<=1000;omega,tk1 _ _ gsp,by show turn - 1<turn;omega,fun H2 s2=>?_⟩
     exact hk _ _ ⟨rfl,s2⟩
    ·exact hk _ _ ⟨rfl,Same.refl _⟩
   ·dsimp only [cT];have h2:=h1.same e.2
    refine⟨_,_,h2.dr,by kernel_rfl,a,_,rfl,h2,?_⟩
    have:=QT hfr H' h2 (v1.trans (.same e.2))
    rw[<- decide_eq_true (p:=turn=turn) rfl]at this;exact this
  ·have gt':H1 t=some (.tup (eS s.life turn s.next (bH x0.vs x.vs) (s.m q))):=by
    rw[gt];unfold eS;rw[if_pos hfr]
   have tk1:=v1.tk h.h
   refine⟨2,tv,Zd,htv t H1 tk1 gt',htv du H1 tk1 (tk1 _ _ gdu),?_⟩
   refine⟨_,_,h1.dr,by kernel_rfl,a,_,rfl,h1,?_⟩
   show if (!decide (turn=turn))=true then _ else _
   refine tR Zs ?_
   dsimp only [cT];refine Gg (fun v H'=>v=false/\Same H1 H') (fun k hk=>?_) (fun H' e=>nomatch e.1) (fun H' e=>?_)
   ·show if decide (0<turn)=true then _ else _
    refine dQ (fun _=>?_) (fun _=>?_)
    ·refine⟨a,_,turn - 1,sp,q,d,x,x,rfl,h1,h.q1,h.q2,h.ok,h.far,tk1 _ _ h.gd,fun e he=>?_,by have:=h.hL;show s.L+1<=500;omega,fun r hr'=>?_,by have:=h.hr;show(s.runs++[_]).length<=500;simp;omega,by have:=h.ho;show(s.rows++[_]).length<=1000;simp;omega,tk1 _ _ gsp,by show turn - 1<turn;omega,fun H2 s2=>?_⟩
     ·have he':(s.m.set q (some (.busy s.next d))) q=some e:=he
      rw[KM.set_same]at he';cases he'
      exact tk1 _ _ h.gd
     ·show r.n<s.next+1
      rcases Zma.mp hr' with m | m
      ·have:=h.hn r m;omega
      ·rw[Zms.mp m];show s.next<s.next+1;omega
     ·exact hk _ _ ⟨rfl,s2⟩
    ·exact hk _ _ ⟨rfl,Same.refl _⟩
   ·dsimp only [cT];have h2:=h1.same e.2
    refine⟨_,_,h2.dr,by kernel_rfl,a,_,rfl,h2,?_⟩
    have:=QB hfr p dx ra H' h2 (v1.trans (.same e.2)) (e.2 _ _ gra)
    rw[<- decide_eq_true (p:=turn=turn) rfl]at this;exact this
def qQ (c:CK):Sp:=fun vs H Q _=>∃(a:DA) (s:DS) (old news:List V) (pre post:List Rn) (r:Rn) (f:Str->Nat),vs=[.ref a.dr,.int r.n,.str r.q.1,.str r.q.2]/\DAt c H a s/\s.rows=old++news/\s.safe=(old.length:Int)/\s.rows.length<=900/\(∀v∈news,∃t xs,v=.ref t/\H t=some (.tup (.str "came"::xs)))/\s.runs=pre++r::post/\(∀r∈s.runs,r.st="new")/\s.runs.length<64/\r.x.Ok/\r.x.far=false/\(∀z,bZ s.prs z=(f z:Int))/\(∀z,f z<=1000000000000)/\s.prs.length<=90/\s.L<=400/\s.m r.q=some (.busy r.n r.d) ∧
 ∀ra z y H',jU f r.x false y->DAt c H' a (pJ {s with rows:=s.rows++[.ref ra] } pre post r s.turn z y)->Mv a s (pJ {s with rows:=s.rows++[.ref ra] } pre post r s.turn z y) H H'->H' z=some (.tup y.vs)->Q (.ref z) H'
theorem xJ {c:CK} (T:Txt K mg) (c_Door_work:Gj P w K mg base 5 c.D "work" ["self","number","way"] [.str ("through":Str)] (Hw c)) (c_Door_force:cZ P w K mg base 4 c.D "force" ["self"] (vD c)) (D:DefAt K mg "_law_ended" fT ["_law_door","_law_number","_law_asker","_law_key"]):aH P w K mg base 6 "_law_ended" ["_law_door","_law_number","_law_asker","_law_key"] (qQ c):=by
 refine D.go hV (fun vs H Q E h=>?_) (fun f cdv A outer s H vs Q E hr h=>?_)
 ·obtain⟨a,s,old,news,pre,post,r,f,rfl,_⟩:=h;rfl
 ·obtain⟨a,s,old,news,pre,post,r,f,rfl,h,hrows,hsafe,hro,hnews,hs,hall,hl,hx,hfar,hf,hf12,hp90,hL,hm,q⟩:=h
  have hu64:=hr.units
  have hr_Door_work:=hr
  have hr_Door_force:Room 4 _:=hr.mono Zd
  have hrm:r∈s.runs:=by rw[hs];simp
  obtain⟨y,hy⟩:=xF (f:=f) hfar
  have hR:jU f r.x false y:=.inl ⟨rfl,hy⟩
  have hof:=(Gu hf12 hx hR (fun z=>nomatch z)).1
  refine⟨_,(R.ae (R.au (i:=4) hV.nd (R.bf (R.aa (R.dn c_Door_work hr_Door_work (R.v 0) (R.aa (R.v 1) R.ac)) (R.aa (R.dn c_Door_work hr_Door_work (R.v 0) (R.aa (R.v 1) R.ac)) (R.aa (R.dn c_Door_work hr_Door_work (R.v 0) (R.aa (R.v 1) R.ac)) R.ac))))) (R.ae (R.aq (R.al (R.cq hu64) (R.v 4) (R.bf (R.aa (R.ap (R.aa R.ak R.ac)) (R.aa (R.ap (R.aa R.ak (R.aa R.ak R.ac))) (R.aa (R.ap (R.aa R.ak R.ac)) R.ac))))) (R.af (R.aj R.bu)) R.ar) (R.ae (R.au (i:=5) hV.nd (R.bn c_Door_force hr_Door_force (R.v 0))) (R.ae (R.aq (R.tw (R.bw (R.bh (R.bg (R.cr .lst (R.v 5) rfl T.b_isinstance rfl T.b_list rN))) (R.bw (R.al R.ne (R.ba (R.bo (K:=K)) rfl T.b_len bY (R.aa (R.v 5) R.ac)) R.ad) (R.cc (R.al (R.cq hu64) (R.sl R.sT (R.ix (R.bb (K:=K)) (R.v 5) R.ad) R.pn (R.ps R.ad)) (R.ap (R.aa (R.v 1) (R.aa (R.v 2) (R.aa (R.v 3) R.ac))))))))) (R.af (R.aj R.bu)) R.ar) (R.af (R.aj (R.ix (R.ah (K:=K)) (R.ix (R.bb (K:=K)) (R.v 5) R.ad) R.ad))))))),?_⟩
  refine⟨_,_,h.dr,by kernel_rfl,a,s,pre,post,r,rfl,h,hs,hl,.inl ⟨hall r hrm,hall,fun t1 H1 h1 v1 g1=>?_⟩⟩
  refine⟨_,_,h1.dr,by kernel_rfl,a,_,pre,post,{r with st:="held" },rfl,h1,rfl,by show(pre++_::post).length<64;rw[hs]at hl;simpa using hl,.inr (.inl ⟨rfl,hx,by show s.rows.length<=1000;omega,f,y,hf,hy,fun t2 ra z H2 h2 v2 gra gz g2=>?_⟩)⟩
  have w2:=v1.trans v2
  refine⟨_,_,h2.dr,by kernel_rfl,a,_,pre,post,{r with st:="written" },rfl,h2,rfl,by show(pre++_::post).length<64;rw[hs]at hl;simpa using hl,.inr (.inr ⟨rfl,fun t3 H3 s3 g3=>⟨mF rfl,fun l hl'=>?_⟩⟩)⟩
  have h3:=h2.same s3
  have w3:=w2.trans (.same s3)
  dsimp only [aK];have s4:=aF (o:=.lst [.ref t1,.ref t2,.ref t3]) hl'
  have gl:(aI H3 l (.lst [.ref t1,.ref t2,.ref t3])) l=some (.lst [.ref t1,.ref t2,.ref t3]):=aB
  generalize aI H3 l (.lst [.ref t1,.ref t2,.ref t3])=H4 at s4 gl ⊢;refine⟨aX rfl,fun u1 H5 s5 e1=>⟨aX rfl,fun u2 H6 s6 e2=>⟨aX rfl,fun u3 H7 s7 e3=>⟨mF rfl,fun l2 hl2=>?_⟩⟩⟩⟩
  have k7:=(s5.trans s6).trans s7
  have s8:=aF (o:=.lst [.ref u1,.ref u2,.ref u3]) hl2
  have g1':=(v2.tk h1) _ _ g1
  have k38:=(s4.trans k7).trans s8
  have rp:∀(v1 v2 v3:Addr) (ll:Addr),(aI H7 l2 (.lst [.ref u1,.ref u2,.ref u3])) ll=some (.lst [.ref v1,.ref v2,.ref v3])->(aI H7 l2 (.lst [.ref u1,.ref u2,.ref u3])) v1=some (.tup [.str "holds"])->(aI H7 l2 (.lst [.ref u1,.ref u2,.ref u3])) v2=some (.tup [.str "writes",.str "done"])->(aI H7 l2 (.lst [.ref u1,.ref u2,.ref u3])) v3=some (.tup [.str "unsafe"])->vI (aI H7 l2 (.lst [.ref u1,.ref u2,.ref u3])) 2 (.ls [.tp [.sc (.str "holds")],.tp [.sc (.str "writes"),.sc (.str "done")],.tp [.sc (.str "unsafe")]]) (.ref ll):=fun v1 v2 v3 ll g a1 a2 a3=>
   ⟨ll,_,rfl,g,.cons ⟨v1,_,rfl,a1,.cons ⟨rfl,rfl⟩ .nil⟩ (.cons ⟨v2,_,rfl,a2,.cons ⟨rfl,rfl⟩ (.cons ⟨rfl,rfl⟩ .nil)⟩ (.cons ⟨v3,_,rfl,a3,.cons ⟨rfl,rfl⟩ .nil⟩ .nil))⟩
  refine⟨2,_,Zd,rp t1 t2 t3 l (s8 _ _ (k7 _ _ gl)) (k38 _ _ (s3 _ _ g1')) (k38 _ _ (s3 _ _ g2)) (k38 _ _ g3),rp u1 u2 u3 l2 aB (s8 _ _ (s7 _ _ (s6 _ _ e1))) (s8 _ _ (s7 _ _ e2)) (s8 _ _ e3),?_⟩
  dsimp only [cT];have h8:=h3.same k38
  have w8:=w3.trans (.same k38)
  have gra8:=k38 _ _ (s3 _ _ gra)
  have gz8:=k38 _ _ (s3 _ _ gz)
  generalize aI H7 l2 (.lst [.ref u1,.ref u2,.ref u3])=H8 at h8 w8 gra8 gz8 ⊢;refine⟨_,_,h8.dr,by kernel_rfl,a,_,old,news,pre,post,{r with st:="written" },s.turn,ra,z,y,rfl,h8,by show s.rows++[_]=_;rw[hrows,List.append_assoc],hsafe,by show(s.rows++[_]).length<=1000;simp;omega,fun v hv=>?_,gra8,rfl,gz8,hof,fun c hc=>?_,hp90,by show s.L<=500;omega,hm,fun lf t H9 h9 v9 glf gt=>?_⟩
  ·obtain⟨t,xs,rfl,gt⟩:=hnews v hv
   exact⟨t,xs,rfl,w8.tk h _ _ gt⟩
  ·have:=He hf12 hx hR c hc
   show 0<=bZ s.prs c.1+c.2/\bZ s.prs c.1+c.2<=1000000000000
   rw[hf];exact this
  dsimp only [aK];refine⟨.lst,.inl ⟨_,glf⟩,?_⟩
  refine⟨_,.inl (SqL.of glf),?_⟩
  refine⟨_,SqL.of glf,_,rfl,_,gt,fun p H10 s10 g10=>⟨aX rfl,fun p2 H11 s11 g11=>?_⟩⟩
  have g10':H10 p=some (.tup [.int r.n,.str r.q.1,.str r.q.2]):=by rw[g10];rfl
  have rp2:∀u,H11 u=some (.tup [.int r.n,.str r.q.1,.str r.q.2])->vI H11 1 (.tp [.sc (.int r.n),.sc (.str r.q.1),.sc (.str r.q.2)]) (.ref u):=fun u g=>⟨u,_,rfl,g,.cons ⟨rfl,rfl⟩ (.cons ⟨rfl,rfl⟩ (.cons ⟨rfl,rfl⟩ .nil))⟩
  refine⟨1,_,Zd,rp2 p (s11 _ _ g10'),rp2 p2 g11,?_⟩
  have k11:=s10.trans s11
  exact⟨_,SqL.of (k11 _ _ glf),_,rfl,_,SqT.of (k11 _ _ gt),_,rfl,q ra z y H11 hR (h9.same k11) ((w8.trans v9).trans (.same k11)) (k11 _ _ (v9.tk h8 _ _ gz8))⟩
end
end KL
namespace KL
open PySem L2
section
variable {P:Program} {w:World} {K:W.Frag} {mg:Str->Option Value} {base:Heap}
theorem Ls {prs:List (Str × Int)} {n:Str} {v:Int} {zn:List Str} (h:∀m∈prs.map (·.1),m∈zn) (hn:n∈zn):∀m∈(kP prs n v).map (·.1),m∈zn:=by
 rw[lO];split
 ·exact h
 ·intro m hm;rcases Zma.mp hm with hm | hm
  ·exact h m hm
  ·cases Zms.mp hm;exact hn
theorem zM {zn:List Str}:∀(cs prs:List (Str × Int)),(∀m∈prs.map (·.1),m∈zn)->(∀q∈cs,q.1∈zn)->∀m∈(iG prs cs).map (·.1),m∈zn
 | [],_,h,_=>h
 | q::r,_,h,hc=>zM r _ (Ls h (hc q nC)) fun p hp=>hc p (oX _ hp)
theorem Ux {xs:List Str}:∀ {ys:List Str},xs.Nodup->(∀x∈xs,x∈ys)->xs.length<=ys.length:=by
 induction xs with
 | nil=>exact fun _ _=>Nat.zero_le _
 | cons x r ih=>
  intro ys hn h;obtain⟨h1,h2⟩:=List.nodup_cons.mp hn
  have hx:=h x nC
  have:=ih (ys:=ys.erase x) h2 fun y hy=>(List.mem_erase_of_ne (fun e=>h1 (by rw[<- e];exact hy))).mpr (h y (oX _ hy))
  rw[List.length_erase_of_mem hx]at this;have hp:0<ys.length:=List.length_pos_of_mem hx
  rw[Cf];omega
structure LI (c:CK) (H:Hp) (i:Nat) (d b ln la lk tb:Addr) (zs as ks:List Str) (a:DA) (s:DS) (tkv:List (List bE × V)):Prop where
 dk:Dk H d b
 gn:H ln=some (.lst (zs.map V.str))
 ga:H la=some (.lst (as.map V.str))
 gk:H lk=some (.lst (ks.map V.str))
 nn:ln≠d/\ln≠b
 na:la≠d/\la≠b
 nk:lk≠d/\lk≠b
 gt:H tb=some (.dT tkv)
 tab:TabOk H tkv s.m
 tl:tkv.length<=i
 h:DAt c H a s
 out:∀p∈[d,b,ln,la,lk,tb],p∉a.fix++s.runs.map (·.p)
 hL:s.L<=2*i
 hr:s.runs.length<=i
 ho:s.rows.length<=2*i
 hn:∀r∈s.runs,r.n<s.next
 all:∀r∈s.runs,r.st="new"/\s.m r.q=some (.busy r.n r.d)/\mP zs r.x
 kd:∀q e,s.m q=some e->∃x0,mP zs x0/\H (KE.dd e)=some (.tup x0.vs)
 ky:∀q n w d z,s.m q=some (.kept n w d z)->∃y:An,H z=some (.tup y.vs)
 bk:∃f:Str->Nat,(∀z,bZ s.prs z=(f z:Int))/\∀z,f z<=1000000000000
 pl:∀z∈s.prs.map (·.1),z∈zs
 rw:∃old news,s.rows=old++news/\s.safe=(old.length:Int)/\∀v∈news,∃t xs,v=.ref t/\H t=some (.tup (.str "came"::xs))
section
variable {c:CK} {H H':Hp} {i:Nat} {d b ln la lk tb:Addr} {zs as ks:List Str} {a:DA} {s s':DS} {tkv:List (List bE × V)}
theorem LI.dkl (L:LI c H i d b ln la lk tb zs as ks a s tkv):(∃xs,H d=some (.lst xs))/\∃xs,H b=some (.lst xs):=by
 obtain⟨ns,s0,k0,h1,h2,_⟩:=L.dk.ex
 exact⟨⟨_,h1⟩,⟨_,h2⟩⟩
theorem LI.move (L:LI c H i d b ln la lk tb zs as ks a s tkv) (k:TK H H') (dk:Dk H' d b) (gn:H' ln=some (.lst (zs.map V.str))) (ga:H' la=some (.lst (as.map V.str))) (gk:H' lk=some (.lst (ks.map V.str))) (gt:H' tb=some (.dT tkv)) (h:DAt c H' a s):LI c H' i d b ln la lk tb zs as ks a s tkv where
 dk:=dk
 gn:=gn
 ga:=ga
 gk:=gk
 nn:=L.nn
 na:=L.na
 nk:=L.nk
 gt:=gt
 tab:=L.tab.tk k
 tl:=L.tl
 h:=h
 out:=L.out
 hL:=L.hL
 hr:=L.hr
 ho:=L.ho
 hn:=L.hn
 all:=L.all
 kd:=fun q e he=>let ⟨x0,h1,h2⟩:=L.kd q e he;⟨x0,h1,k _ _ h2⟩
 ky:=fun q n w d z he=>let ⟨y,h1⟩:=L.ky q n w d z he;⟨y,k _ _ h1⟩
 bk:=L.bk
 pl:=L.pl
 rw:=by
  obtain⟨old,news,h1,h2,h3⟩:=L.rw
  exact⟨old,news,h1,h2,fun v hv=>let ⟨t,xs,e,g⟩:=h3 v hv;⟨t,xs,e,k _ _ g⟩⟩
theorem LI.same (L:LI c H i d b ln la lk tb zs as ks a s tkv) (k:Same H H'):LI c H' i d b ln la lk tb zs as ks a s tkv:=
 L.move (TK.of k) (L.dk.same k) (k _ _ L.gn) (k _ _ L.ga) (k _ _ L.gk) (k _ _ L.gt) (L.h.same k)
theorem LI.draw (L:LI c H i d b ln la lk tb zs as ks a s tkv) (D:Dk H' d b) (k:Kp d b H H'):LI c H' i d b ln la lk tb zs as ks a s tkv:=by
 obtain⟨⟨x1,e1⟩,⟨x2,e2⟩⟩:=L.dkl
 refine L.move (lZ L.dk k) D (k _ _ L.gn L.nn.1 L.nn.2) (k _ _ L.ga L.na.1 L.na.2) (k _ _ L.gk L.nk.1 L.nk.2) (k _ _ L.gt (aM L.gt e1 fun z=>nomatch z) (aM L.gt e2 fun z=>nomatch z)) (L.h.keep (fun p o e hp=>k _ _ e (fun z=>L.out d Zs (z ▸ hp)) fun z=>L.out b Zs (z ▸ hp)) (lZ L.dk k))
theorem LI.left (L:LI c H i d b ln la lk tb zs as ks a s tkv) (m:Mv a s s' H H'):Dk H' d b/\H' ln=some (.lst (zs.map V.str))/\H' la=some (.lst (as.map V.str))/\H' lk=some (.lst (ks.map V.str))/\H' tb=some (.dT tkv)/\∀p∈[d,b,ln,la,lk,tb],p∉a.fix++s'.runs.map (·.p):=by
 obtain⟨ns,s0,k0,h1,h2,h3⟩:=L.dk.ex
 refine⟨⟨ns,s0,k0,m.fr _ _ h1 (L.out d Zs),m.fr _ _ h2 (L.out b Zs),h3⟩,m.fr _ _ L.gn (L.out ln Zs),m.fr _ _ L.ga (L.out la Zs),m.fr _ _ L.gk (L.out lk Zs),m.fr _ _ L.gt (L.out tb Zs),fun p hp=>?_⟩
 have g:∃o,H p=some o:=by
  simp only [List.mem_cons,List.not_mem_nil,or_false]at hp
  rcases hp with rfl | rfl | rfl | rfl | rfl | rfl
  ·exact⟨_,h1⟩
  ·exact⟨_,h2⟩
  ·exact⟨_,L.gn⟩
  ·exact⟨_,L.ga⟩
  ·exact⟨_,L.gk⟩
  ·exact⟨_,L.gt⟩
 obtain⟨o,g⟩:=g
 exact m.stay (L.out p hp) g
theorem LI.turned (L:LI c H i d b ln la lk tb zs as ks a s tkv) {t:Int} (h:DAt c H' a {s with turn:=t }) (m:Mv a s {s with turn:=t } H H'):LI c H' i d b ln la lk tb zs as ks a {s with turn:=t } tkv:=by
 obtain⟨e1,e2,e3,e4,e5,e6⟩:=L.left m
 have k:=m.tk L.h
 refine⟨e1,e2,e3,e4,L.nn,L.na,L.nk,e5,L.tab.tk k,L.tl,h,e6,L.hL,L.hr,L.ho,L.hn,L.all,fun q e he=>let ⟨x0,h1,h2⟩:=L.kd q e he;⟨x0,h1,k _ _ h2⟩,fun q n w d z he=>let ⟨y,h1⟩:=L.ky q n w d z he;⟨y,k _ _ h1⟩,L.bk,L.pl,?_⟩
 obtain⟨old,news,h1,h2,h3⟩:=L.rw
 exact⟨old,news,h1,h2,fun v hv=>let ⟨t,xs,e,g⟩:=h3 v hv;⟨t,xs,e,k _ _ g⟩⟩
theorem LI.more (L:LI c H i d b ln la lk tb zs as ks a s tkv):LI c H (i+1) d b ln la lk tb zs as ks a s tkv:=
 {L with tl:=by have:=L.tl;omega,hL:=by have:=L.hL;omega,hr:=by have:=L.hr;omega,ho:=by have:=L.ho;omega }
theorem Lu (kvs:List (List bE × V)) (k:List bE) (v:V):(bA kvs k v).length<=kvs.length+1:=cU _ _ _
theorem LI.begun (L:LI c H i d b ln la lk tb zs as ks a s tkv) {turn:Int} {q:Str × Str} {dd:Addr} {x:Dd} {p dx ra:Addr} (hfr:eR s.life turn (s.m q)=true) (hx:mP zs x) (hd:H dd=some (.tup x.vs)) (h:DAt c H' a (dM s turn q dd x p dx ra)) (m:Mv a s (dM s turn q dd x p dx ra) H H') (gra:H' ra=some (.tup [.str "came",.int s.next,.int turn,.str q.1,.str q.2,.ref dd]))
  {t:Addr} {w:Int} {H2:Hp} (s2:Same H' H2) (gt:H2 t=some (.tup [.int s.next,.non,.ref dd,.int w])):LI c (aI H2 tb (.dT (bA tkv (pk q) (.ref t)))) (i+1) d b ln la lk tb zs as ks a (dM s turn q dd x p dx ra) (bA tkv (pk q) (.ref t)):=by
 obtain⟨e1,e2,e3,e4,e5,e6⟩:=L.left m
 have k:=m.tk L.h
 have hb:∀r∈s.runs,r.q≠q:=fun r hr e=>by
  have:=(L.all r hr).2.1
  rw[e]at this;rw[this]at hfr;cases hfr
 have gtb2:=s2 _ _ e5
 have k2:TK H' (aI H2 tb (.dT (bA tkv (pk q) (.ref t)))):=(TK.of s2).trans (fX gtb2 fun _ z=>nomatch z)
 have kk:=k.trans k2
 have ki:∀ {p o},H' p=some o->p≠tb->(aI H2 tb (.dT (bA tkv (pk q) (.ref t)))) p=some o:=fun e n=>by rw[aD n];exact s2 _ _ e
 obtain⟨ns,s0,k0,h1,h2,h3⟩:=e1.ex
 refine⟨⟨ns,s0,k0,ki h1 (aM h1 e5 fun z=>nomatch z),ki h2 (aM h2 e5 fun z=>nomatch z),h3⟩,ki e2 (aM e2 e5 fun z=>nomatch z),ki e3 (aM e3 e5 fun z=>nomatch z),ki e4 (aM e4 e5 fun z=>nomatch z),L.nn,L.na,L.nk,aB,?_,?_,?_,e6,?_,?_,?_,?_,?_,?_,?_,L.bk,L.pl,?_⟩
 ·exact TabOk.put (e:=.busy s.next dd) (L.tab.tk kk) ⟨w,by rw[aD (aM gt gtb2 fun z=>nomatch z)];exact gt⟩
 ·exact iE (Lu _ _ _) (by have:=L.tl;omega)
 ·exact(h.same s2).outside (e6 tb Zs) gtb2 (fun _ z=>nomatch z) _
 ·have:=L.hL;show s.L+1<=_;omega
 ·have:=L.hr;show(s.runs++[_]).length<=_;simp;omega
 ·have:=L.ho;show(s.rows++[_]).length<=_;simp;omega
 ·intro r hr;show r.n<s.next+1
  rcases Zma.mp hr with z | z
  ·have:=L.hn r z;omega
  ·rw[Zms.mp z];show s.next<s.next+1;omega
 ·intro r hr;rcases Zma.mp hr with z | z
  ·obtain⟨z1,z2,z3⟩:=L.all r z
   exact⟨z1,by show(s.m.set q _) r.q=_;rw[KM.set_ne (hb r z)];exact z2,z3⟩
  ·rw[Zms.mp z];exact⟨rfl,by show(s.m.set q _) q=_;rw[KM.set_same];rfl,hx⟩
 ·intro q' e he;by_cases z:q'=q
  ·subst z;have he':(s.m.set q' (some (.busy s.next dd))) q'=some e:=he
   rw[KM.set_same]at he';cases he'
   exact⟨x,hx,kk _ _ hd⟩
  ·have he':(s.m.set q (some (.busy s.next dd))) q'=some e:=he
   rw[KM.set_ne z]at he';obtain⟨x0,z1,z2⟩:=L.kd q' e he'
   exact⟨x0,z1,kk _ _ z2⟩
 ·intro q' n w d z he;by_cases z':q'=q
  ·subst z';have he':(s.m.set q' (some (.busy s.next dd))) q'=some (.kept n w d z):=he
   rw[KM.set_same]at he';cases he'
  ·have he':(s.m.set q (some (.busy s.next dd))) q'=some (.kept n w d z):=he
   rw[KM.set_ne z']at he';obtain⟨y,z1⟩:=L.ky q' n w d z he'
   exact⟨y,kk _ _ z1⟩
 ·obtain⟨old,news,h1,h2,h3⟩:=L.rw
  refine⟨old,news++[.ref ra],by show s.rows++[_]=_;rw[h1,List.append_assoc],h2,fun v hv=>?_⟩
  rcases Zma.mp hv with z | z
  ·obtain⟨t,xs,e,g⟩:=h3 v z
   exact⟨t,xs,e,kk _ _ g⟩
  ·exact⟨ra,_,Zms.mp z,k2 _ _ gra⟩
theorem Rm {x:Dd} {y:An} {q:Str × Int} (h:q∈vL x y):q∈cY x:=by
 cases x <;> cases y <;> first | exact h | exact nomatch h
theorem LI.ended {j:Nat} {pre:List Rn} {r:Rn} (L:LI c H (j+1) d b ln la lk tb zs as ks a s tkv) (hs:s.runs=pre++[r]) (hL:s.L<=2*j+1) (hr:pre.length<=j) (ho:s.rows.length<=2*j+1) {f:Str->Nat} (hf:∀z,bZ s.prs z=(f z:Int)) (hf12:∀z,f z<=1000000000000) {ra z:Addr} {y:An} (hR:jU f r.x false y) (h:DAt c H' a (pJ {s with rows:=s.rows++[.ref ra] } pre [] r s.turn z y)) (m:Mv a s (pJ {s with rows:=s.rows++[.ref ra] } pre [] r s.turn z y) H H') (gz:H' z=some (.tup y.vs))
  {t:Addr} {H2:Hp} (s2:Same H' H2) (gt:H2 t=some (.tup [.int r.n,.ref z,.ref r.d,.int s.turn])) (htl:(bA tkv (pk r.q) (.ref t)).length<=j+1):LI c (aI H2 tb (.dT (bA tkv (pk r.q) (.ref t)))) (j+1) d b ln la lk tb zs as ks a (pJ {s with rows:=s.rows++[.ref ra] } pre [] r s.turn z y) (bA tkv (pk r.q) (.ref t)):=by
 obtain⟨e1,e2,e3,e4,e5,e6⟩:=L.left m
 have k:=m.tk L.h
 have hrm:r∈s.runs:=by rw[hs];simp
 obtain⟨_,hbr,hxr⟩:=L.all r hrm
 have hsub:∀r'∈pre,r'∈s.runs:=fun r' h'=>by rw[hs];exact List.mem_append_left _ h'
 have hb:∀r'∈pre,r'.q≠r.q:=fun r' h' e=>by
  have z1:=(L.all r' (hsub r' h')).2.1
  rw[e,hbr]at z1;have z2:r.n=r'.n:=by injection z1 with z1;injection z1 with z1;omega
  have:=L.h.up
  rw[hs]at this;have:=(List.pairwise_append.mp this).2.2 r' h' r Zs
  omega
 have gtb2:=s2 _ _ e5
 have k2:TK H' (aI H2 tb (.dT (bA tkv (pk r.q) (.ref t)))):=(TK.of s2).trans (fX gtb2 fun _ z=>nomatch z)
 have kk:=k.trans k2
 have ki:∀ {p o},H' p=some o->p≠tb->(aI H2 tb (.dT (bA tkv (pk r.q) (.ref t)))) p=some o:=fun e n=>by rw[aD n];exact s2 _ _ e
 obtain⟨ns,s0,k0,h1,h2,h3⟩:=e1.ex
 refine⟨⟨ns,s0,k0,ki h1 (aM h1 e5 fun z=>nomatch z),ki h2 (aM h2 e5 fun z=>nomatch z),h3⟩,ki e2 (aM e2 e5 fun z=>nomatch z),ki e3 (aM e3 e5 fun z=>nomatch z),ki e4 (aM e4 e5 fun z=>nomatch z),L.nn,L.na,L.nk,aB,?_,htl,?_,e6,?_,?_,?_,?_,?_,?_,?_,?_,?_,?_⟩
 ·exact TabOk.put (e:=.kept r.n s.turn r.d z) (L.tab.tk kk) (by rw[aD (aM gt gtb2 fun z=>nomatch z)];exact gt)
 ·exact(h.same s2).outside (e6 tb Zs) gtb2 (fun _ z=>nomatch z) _
 ·show s.L+1<=_;omega
 ·show(pre++[]).length<=_;simp;omega
 ·show(s.rows++[_]).length<=_;simp;omega
 ·intro r' h';have h'':r'∈pre++[]:=h'
  rw[List.append_nil]at h'';exact L.hn r' (hsub r' h'')
 ·intro r' h';have h'':r'∈pre++[]:=h'
  rw[List.append_nil]at h'';obtain⟨z1,z2,z3⟩:=L.all r' (hsub r' h'')
  exact⟨z1,by show(s.m.set r.q _) r'.q=_;rw[KM.set_ne (hb r' h'')];exact z2,z3⟩
 ·intro q' e he;by_cases zq:q'=r.q
  ·have he':(s.m.set r.q (some (.kept r.n s.turn r.d z))) q'=some e:=he
   rw[zq,KM.set_same]at he';cases he'
   exact⟨r.x,hxr,kk _ _ (L.h.dd r hrm)⟩
  ·have he':(s.m.set r.q (some (.kept r.n s.turn r.d z))) q'=some e:=he
   rw[KM.set_ne zq]at he';obtain⟨x0,z1,z2⟩:=L.kd q' e he'
   exact⟨x0,z1,kk _ _ z2⟩
 ·intro q' n w d' z' he;by_cases zq:q'=r.q
  ·have he':(s.m.set r.q (some (.kept r.n s.turn r.d z))) q'=some (.kept n w d' z'):=he
   rw[zq,KM.set_same]at he';cases he'
   exact⟨y,k2 _ _ gz⟩
  ·have he':(s.m.set r.q (some (.kept r.n s.turn r.d z))) q'=some (.kept n w d' z'):=he
   rw[KM.set_ne zq]at he';obtain⟨y',z1⟩:=L.ky q' n w d' z' he'
   exact⟨y',kk _ _ z1⟩
 ·have ha:=uR hxr.1 hR
  refine⟨after f r.x y,fun u=>?_,Gv hf12 hR⟩
  show bZ (iG s.prs (vL r.x y)) u=_
  rw[uU _ _ f ha.2 hf,ha.1]
 ·show ∀u∈(iG s.prs (vL r.x y)).map (·.1),u∈zs
  exact zM _ _ L.pl fun q hq=>hxr.2.2 q (Rm hq)
 ·exact⟨s.rows++[.ref ra],[],by show s.rows++[_]=_;simp,rfl,fun v hv=>nomatch hv⟩
end
end
end KL
namespace KL
open PySem L2
section
variable {P:Program} {w:World} {K:W.Frag} {mg:Str->Option Value} {base:Heap}
theorem mD {α:Type} {R:α->V->Prop} {x:α}:∀ {xs:List α} {ys:List V},Paired R (xs++[x]) ys->∃ys' y,ys=ys'++[y]/\R x y
 | [],_,.cons h .nil=>⟨[],_,rfl,h⟩
 | _::_,_,.cons (b:=b) h t=>let ⟨ys',y,e,r⟩:=mD t;⟨b::ys',y,by rw[e];rfl,r⟩
theorem xK {kvs:List (List bE × V)} {k:List bE} {v w:V} (h:aY kvs k=some v):(bA kvs k w).length=kvs.length:=by
 unfold bA;rw[if_pos (by rw[bW,h];rfl),dN]
def zN (K:W.Frag):Sp:=fun vs H Q _=>∃(a:Addr) (ns:List Int),vs=[.ref a]/\SqL K H a (ns.map V.int)/\ns.length<=63/\∀H',Q (.bl true) H'
theorem Ro {c:CK} {CL:Addr} (T:Txt K mg) (cLdeck:aH P w K mg base 1 "_law_deck" ["_law_script"] (Et K)) (cLdraw:aH P w K mg base 1 "_law_draw" ["_law_deck_here","_law_many"] hX) (cLunlike:aH P w K mg base 2 "_law_unlike" ["_law_deck_here","_law_signs","_law_longest","_law_many"] lN) (cLspots:aH P w K mg base 3 "_law_spots" ["_law_deck_here"] zJ) (c_Door:vJ P w K mg base 6 "Door" c.D ["self","name","life","houses"] [] (zE c)) (cLdeed:aH P w K mg base 3 "_law_deed" ["_law_deck_here","_law_names"] vF) (cLagain:aH P w K mg base 2 "_law_again" ["_law_deck_here","_law_first","_law_deed_here","_law_names"] qO)
  (cLdue:aH P w K mg base 1 "_law_due" ["_law_table","_law_spot","_law_deed_here","_law_turn","_law_life","_law_number"] zK) (cLcome_right:aH P w K mg base 7 "_law_come_right" ["_law_door","_law_turn","_law_spot","_law_deed_here","_law_due_here"] (qP c)) (c_Door_come:wQ P w K mg base 5 c.D "come" ["self","turn","asker","key","deed"] (sW c CL)) (c_Door_under:cZ P w K mg base 2 c.D "under" ["self"] (zF c)) (cLended:aH P w K mg base 6 "_law_ended" ["_law_door","_law_number","_law_asker","_law_key"] (qQ c))
  {f:Addr} {fd:FuncData} (F:Fun K "law" "law" kM f fd):gM P w K mg base pU 8 f fd ["_law_script"] (zN K):=by
 refine F.go bJ (fun vs H Q E h=>?_) (fun cdv A outer s H vs Q E hr h=>?_)
 ·obtain⟨a,ns,rfl,_⟩:=h;rfl
 ·obtain⟨sa,ns,rfl,hS,hlen,Q0⟩:=h
  have hu1:=dP hr
  have hu64:=hr.units
  have hLdeck:Room 1 _:=hr.mono Zd
  have hLdraw:Room 1 _:=hr.mono Zd
  have hLunlike:Room 2 _:=hr.mono Zd
  have hLspots:Room 3 _:=hr.mono Zd
  have hr_Door:Room 7 _:=hr
  have hLdeed:Room 3 _:=hr.mono Zd
  have hLagain:Room 2 _:=hr.mono Zd
  have hLdue:Room 1 _:=hr.mono Zd
  have hLcome_right:Room 7 _:=hr
  have hr_Door_come:Room 5 _:=hr.mono Zd
  have hr_Door_under:Room 2 _:=hr.mono Zd
  have hLended:Room 6 _:=hr.mono Zd
  refine⟨_,(R.ae (R.au (i:=1) bJ.nd (R.fn cLdeck hLdeck rfl (R.aa (R.v 0) R.ac))) (R.ae (R.au (i:=2) bJ.nd R.ak) (R.ae (R.au (i:=3) bJ.nd (R.fn cLunlike hLunlike rfl (R.aa (R.v 1) (R.aa (R.v 2) (R.aa R.ad (R.aa (R.op R.aw R.ad (R.fn cLdraw hLdraw rfl (R.aa (R.v 1) (R.aa R.ad R.ac)))) R.ac)))))) (R.ae (R.bz (R.fn cLspots hLspots rfl (R.aa (R.v 1) R.ac)) (R.ca (K:=K) (n:=2) rfl (R.ay (R.gn (i:=4) bJ.nd) (R.ay (R.gn (i:=5) bJ.nd) R.cb)))) (R.ae (R.au (i:=6) bJ.nd (R.bf (R.aa (R.op R.aw R.ad (R.fn cLdraw hLdraw rfl (R.aa (R.v 1) (R.aa R.ad R.ac)))) (R.aa (R.op R.aw R.ad (R.fn cLdraw hLdraw rfl (R.aa (R.v 1) (R.aa R.ad R.ac)))) (R.aa (R.op R.aw R.ad (R.fn cLdraw hLdraw rfl (R.aa (R.v 1) (R.aa R.ad R.ac)))) (R.aa (R.op R.aw R.ad (R.fn cLdraw hLdraw rfl (R.aa (R.v 1) (R.aa (R.op R.cy R.ad R.ad) R.ac)))) R.ac)))))) (R.ae (R.au (i:=7) bJ.nd (R.ix (R.bb (K:=K)) (R.v 6) (R.fn cLdraw hLdraw rfl (R.aa (R.v 1) (R.aa R.ad R.ac))))) (R.ae (R.au (i:=8) bJ.nd (R.da c_Door hr_Door rfl (R.aa (R.ix (R.bb (K:=K)) (R.fn cLunlike hLunlike rfl (R.aa (R.v 1) (R.aa (R.v 2) (R.aa R.ad (R.aa R.ad R.ac))))) R.ad) (R.aa (R.v 7) (R.aa (R.bf R.ac) R.ac))))) (R.ae (R.au (i:=9) bJ.nd R.dm) (R.ae (R.au (i:=10) bJ.nd R.ad) (R.ae (R.au (i:=11) bJ.nd R.ad) (R.ae (R.bv PassesOwn.never rfl (R.cz rfl T.b_range (R.aa (R.op R.aw R.ad (R.fn cLdraw hLdraw rfl (R.aa (R.v 1) (R.aa R.ad R.ac)))) R.ac)) (R.gn (i:=12) bJ.nd) (R.ae (R.au (i:=10) bJ.nd (R.op R.aw (R.v 10) (R.op R.br (R.ix (R.bb (K:=K)) (R.bf (R.aa R.ad (R.aa R.ad (R.aa R.ad (R.aa (R.fn cLdraw hLdraw rfl (R.aa (R.v 1) (R.aa R.ad R.ac))) (R.aa (R.v 7) (R.aa (R.op R.dw (R.v 7) R.ad) R.ac))))))) (R.fn cLdraw hLdraw rfl (R.aa (R.v 1) (R.aa R.ad R.ac)))) (R.op R.dl (R.op R.cy R.ad R.ad) R.ad)))) (R.ae (R.au (i:=13) bJ.nd (R.ap (R.aa (R.ix (R.bb (K:=K)) (R.v 4) (R.fn cLdraw hLdraw rfl (R.aa (R.v 1) (R.aa (R.ba (R.bo (K:=K)) rfl T.b_len bY (R.aa (R.v 4) R.ac)) R.ac)))) (R.aa (R.ix (R.bb (K:=K)) (R.v 5) (R.fn cLdraw hLdraw rfl (R.aa (R.v 1) (R.aa (R.ba (R.bo (K:=K)) rfl T.b_len bY (R.aa (R.v 5) R.ac)) R.ac)))) R.ac)))) (R.ae (R.au (i:=14) bJ.nd (R.fn cLdeed hLdeed rfl (R.aa (R.v 1) (R.aa (R.v 3) R.ac)))) (R.ae (R.aq (R.al (R.de hu1) (R.v 13) (R.v 9)) (R.af (R.au (i:=14) bJ.nd (R.fn cLagain hLagain rfl (R.aa (R.v 1) (R.aa (R.ix (R.ah (K:=K)) (R.bp hu1 (R.v 9) (R.v 13)) R.ad) (R.aa (R.v 14) (R.aa (R.v 3) R.ac))))))) R.ar) (R.ae (R.au (i:=15) bJ.nd (R.fn cLdue hLdue rfl (R.aa (R.v 9) (R.aa (R.v 13) (R.aa (R.v 14) (R.aa (R.v 10) (R.aa (R.v 7) (R.aa (R.v 11) R.ac)))))))) (R.ae (R.aq (R.bh (R.bg (R.fn cLcome_right hLcome_right rfl (R.aa (R.v 8) (R.aa (R.v 10) (R.aa (R.v 13) (R.aa (R.v 14) (R.aa (R.v 15) R.ac)))))))) (R.af (R.aj R.bl)) R.ar) (R.ae (R.au (i:=16) bJ.nd (R.v 15)) (R.ae (R.aq (R.al R.eq (R.ix (R.ah (K:=K)) (R.v 15) R.ad) R.ak) (R.ae (R.bz (R.ap (R.aa (R.v 11) (R.aa R.bu (R.aa (R.v 14) (R.aa (R.v 10) R.ac))))) (R.cj (R.v 9) (R.v 13) (R.ce hu1))) (R.ae (R.au (i:=11) bJ.nd (R.op R.aw (R.v 11) R.ad)) (R.af (R.au (i:=16) bJ.nd (R.ap (R.aa R.ak (R.aa (R.ix (R.ah (K:=K)) (R.v 15) R.ad) R.ac))))))) R.ar) (R.ae (R.aq (R.al (R.cq hu64) (R.fb c_Door_come hr_Door_come oM (R.v 8) (R.aa (R.v 10) (R.aa (R.ix (R.ah (K:=K)) (R.v 13) R.ad) (R.aa (R.ix (R.ah (K:=K)) (R.v 13) R.ad) (R.aa (R.v 14) R.ac))))) (R.v 16)) (R.af (R.aj R.bl)) R.ar) (R.ae (R.aq (R.tw (R.cg (R.al R.eq (R.ix (R.ah (K:=K)) (R.v 15) R.ad) R.ak) (R.ci (R.al (R.cq hu64) (R.ix (R.bb (K:=K)) (R.bn c_Door_under hr_Door_under (R.v 8)) (R.az R.ad)) (R.op R.cf (R.op R.cf (R.sl R.sT (R.v 15) (R.ps R.ad) R.pn) (R.v 13)) (R.ap (R.aa (R.v 14) (R.aa R.ak R.ac)))))))) (R.af (R.aj R.bl)) R.ar) (R.af (R.aq (R.tw (R.cg (R.al R.eq (R.ix (R.ah (K:=K)) (R.v 15) R.ad) R.ak) (R.ci (R.al R.gt (R.fn cLdraw hLdraw rfl (R.aa (R.v 1) (R.aa R.ad R.ac))) R.ad)))) (R.ae (R.au (i:=17) bJ.nd (R.fn cLended hLended rfl (R.aa (R.v 8) (R.aa (R.ix (R.ah (K:=K)) (R.v 15) R.ad) (R.aa (R.ix (R.ah (K:=K)) (R.v 13) R.ad) (R.aa (R.ix (R.ah (K:=K)) (R.v 13) R.ad) R.ac)))))) (R.ae (R.aq (R.al R.eu (R.v 17) R.bu) (R.af (R.aj R.bl)) R.ar) (R.af (R.bz (R.ap (R.aa (R.ix (R.ah (K:=K)) (R.v 15) R.ad) (R.aa (R.v 17) (R.aa (R.v 14) (R.aa (R.v 10) R.ac))))) (R.cj (R.v 9) (R.v 13) (R.ce hu1)))))) R.ar))))))))))))) (R.af (R.aj R.bl))))))))))))),?_⟩
  refine⟨sa,ns,rfl,hS,fun d b H1 hd0 hb0 D1 s1=>?_⟩
  dsimp only [aK];refine⟨d,b,5,rfl,D1,Zd,Zd,fun r1 H2 a0 a1 D2 k2=>?_⟩
  obtain⟨r1,rfl⟩:=Cd a0
  refine⟨d,b,LET,8,2+r1,by rw[<- xH,show((2+r1:Nat):Int)=2+(r1:Int) by omega];rfl,D2,Zo,Zo,Zd,Rl,by show 2+r1<=26;omega,Zd,fun ln zs H3 wz hzl gn nn nn' D3 k3=>?_⟩
  dsimp only [aK];have hzs:Hx zs:=⟨wz.nd,wz.nm,Zo,Zo⟩
  refine⟨d,b,rfl,D3,fun t la lk as ks H4 gt ga gk ham hkm ha1 ha6 hk1 hk6 nad nab nkd nkb D4 k4=>?_⟩
  refine⟨t,_,rfl,SqT.of gt,rfl,_,_,rfl,_,_,rfl,rfl,?_⟩
  dsimp only [aK];have gn4:=k4 _ _ gn nn nn'
  refine⟨d,b,12,rfl,D4,Zd,Zd,fun q1 H5 b0 b1 D5 k5=>⟨d,b,12,rfl,D5,Zd,Zd,fun q2 H6 c0 c1 D6 k6=>⟨d,b,12,rfl,D6,Zd,Zd,fun q3 H7 d0 d1 D7 k7=>⟨⟨Zd,Zd,Zd⟩,d,b,_,rfl,D7,Zd,Zd,fun q4 H8 e0 e1 D8 k8=>⟨mF rfl,fun lsm hlsm=>?_⟩⟩⟩⟩⟩
  dsimp only [aK];have k48:=((k5.trans k6).trans k7).trans k8
  have gls:(aI H8 lsm (.lst [.int (1+q1),.int (1+q2),.int (1+q3),.int (1+q4)])) lsm=some (.lst [.int (1+q1),.int (1+q2),.int (1+q3),.int (1+q4)]):=aB
  have k9:Kp d b H4 (aI H8 lsm (.lst [.int (1+q1),.int (1+q2),.int (1+q3),.int (1+q4)])):=k48.trans (.new hlsm)
  have D9:Dk (aI H8 lsm (.lst [.int (1+q1),.int (1+q2),.int (1+q3),.int (1+q4)])) d b:=D8.new hlsm
  have nls:=D8.ne hlsm
  generalize aI H8 lsm (.lst [.int (1+q1),.int (1+q2),.int (1+q3),.int (1+q4)])=H9 at gls k9 D9 ⊢;refine⟨d,b,4,rfl,D9,Zd,Zd,fun q5 H10 f0 f1 D10 k10=>?_⟩
  have gls10:=k10 _ _ gls nls.1 nls.2
  obtain⟨life,hlife,_⟩:=gC (xs:=[V.int (1+q1),.int (1+q2),.int (1+q3),.int (1+q4)]) f0 (by simpa using f1)
  obtain⟨life,rfl⟩:∃l,life=V.int l:=by
   rename_i hmem
   simp only [List.mem_cons,List.not_mem_nil,or_false]at hmem
   rcases hmem with e | e | e | e <;> exact⟨_,e⟩
  refine⟨_,SqL.of gls10,_,hlife,?_⟩
  dsimp only [aK];refine⟨d,b,LET,5,1,by rw[<- xH];rfl,D10,Zd,Zd,Zd,Rl,Zd,Zd,fun lnm ws H11 ww hwl gw nw nw' D11 k11=>?_⟩
  obtain⟨nm,rfl⟩:∃nm,ws=[nm]:=by
   match ws,hwl with
   | [nm],_=>exact⟨nm,rfl⟩
  have hnm:=ww.of nm Zs
  refine⟨_,SqL.of gw,_,rfl,mF rfl,fun lh hlh=>?_⟩
  have k4_11:=(k9.trans k10).trans k11
  have s12:=aF (o:=.lst []) hlh
  have glh:(aI H11 lh (.lst [])) lh=some (.lst []):=aB
  have D12:=D11.same s12
  have gn12:=s12 _ _ (k4_11 _ _ gn4 nn nn')
  have ga12:=s12 _ _ (k4_11 _ _ ga nad nab)
  have gk12:=s12 _ _ (k4_11 _ _ gk nkd nkb)
  generalize aI H11 lh (.lst [])=H12 at s12 glh D12 gn12 ga12 gk12 ⊢;intro p dx hp hdx hne;have nn12:∀ {q u},H12 q=some u->(aI (aI H12 dx (.own p)) p (.ins c.D dx [])) q=some u:=fun e=>by rw[aD (aE e hp),aD (aE e hdx)];exact e
  refine⟨p,dx,lh,nm,life,[],rfl,aB,⟨hnm.1,iE hnm.2.1 Zd,hnm.2.2⟩,hnm.2.1,nn12 glh,(fun _ h=>nomatch h),Zs,fun a H13 hdr h13 hfx k13=>⟨rfl,?_⟩⟩
  have s13:Same H12 H13:=fun q u e=>k13 _ _ (nn12 e) (aE e hp)
  have out13:∀q u,H12 q=some u->q∉a.fix++(Wr nm life (dB [] (([]:List W).map (·.2)))).runs.map (·.p):=fun q u e m=>by
   have m':q∈a.fix:=by
    rcases Zma.mp m with z | z
    ·exact z
    ·exact nomatch z
   rcases hfx q m' with z | z
   ·rw[z]at e;rw[e]at hp;cases hp
   ·rw[nn12 e]at z;cases z
  dsimp only [aK];intro tb htb;dsimp only [aK];have s14:=aF (o:=.dT []) htb
  have gtb:(aI H13 tb (.dT [])) tb=some (.dT []):=aB
  have otb:=h13.fresh htb
  generalize aI H13 tb (.dT [])=H14 at s14 gtb ⊢;have L0:LI c H14 0 d b ln la lk tb zs as ks a (Wr nm life (dB [] (([]:List W).map (·.2)))) []:=by
   obtain⟨ns0,s0,k0,gd,gb,_⟩:=D12.ex
   refine⟨(D12.same s13).same s14,s14 _ _ (s13 _ _ gn12),s14 _ _ (s13 _ _ ga12),s14 _ _ (s13 _ _ gk12),⟨nn,nn'⟩,⟨nad,nab⟩,⟨nkd,nkb⟩,gtb,fun q=>rfl,cB _,h13.same s14,fun q hq=>?_,cB _,cB _,cB _,(fun r hr=>nomatch hr),(fun r hr=>nomatch hr),(fun q e he=>nomatch he),(fun q n w d z he=>nomatch he),⟨fun _=>0,fun _=>rfl,fun _=>Nat.zero_le _⟩,(fun z hz=>nomatch hz),⟨[],[],rfl,rfl,fun v hv=>nomatch hv⟩⟩
   simp only [List.mem_cons,List.not_mem_nil,or_false]at hq
   rcases hq with rfl | rfl | rfl | rfl | rfl | rfl
   ·exact out13 _ _ gd
   ·exact out13 _ _ gb
   ·exact out13 _ _ gn12
   ·exact out13 _ _ ga12
   ·exact out13 _ _ gk12
   ·exact otb
  refine⟨d,b,35,rfl,L0.dk,Zd,Zd,fun r2 H15 g0 g1 D15 k15=>?_⟩
  obtain⟨r2,rfl⟩:=Cd g0
  have L1:=L0.draw D15 k15
  refine⟨6+(r2:Int),rfl,Zo,Zo,?_⟩
  refine gN (fK 0 (6+(r2:Int)).toNat) (fun i σ H'=>∃(s:DS) (tkv:List (List bE × V)) (o12 o13 o14 o15 o16 o17:Option V),σ=[some (.ref sa),some (.ref d),some (.str "abcdefghijklmnopqrstuvwxyz"),some (.ref ln),some (.ref la),some (.ref lk),some (.ref lsm),some (.int life),some (.ref a.dr),some (.ref tb),some (.int s.turn),some (.int s.next),o12,o13,o14,o15,o16,o17]/\s.life=life/\LI c H' i d b ln la lk tb zs as ks a s tkv) (fun _ _ _ _=>trivial)
   ⟨_,_,_,_,_,_,_,_,by rw[<- hdr];rfl,rfl,L1⟩ ?_ (fun σ H' _=>Q0 H')
  rintro i x σ G hx ⟨s,tkv,o12,o13,o14,o15,o16,o17,rfl,hlf,L⟩
  obtain⟨rfl,hi⟩:=oR hx
  have hi40:i<=40:=by omega
  dsimp only [aK];refine lW (fun σ' H'=>∃turn:Int,s.turn<=turn/\σ'=[some (.ref sa),some (.ref d),some (.str "abcdefghijklmnopqrstuvwxyz"),some (.ref ln),some (.ref la),some (.ref lk),some (.ref lsm),some (.int life),some (.ref a.dr),some (.ref tb),some (.int turn),some (.int s.next),some (.int (i:Int)),o13,o14,o15,o16,o17]/\LI c H' i d b ln la lk tb zs as ks a s tkv) (fun nx hnx=>?_) ?_
  ·refine⟨d,b,9,rfl,L.dk,Zd,Zd,fun v1 G1 h0 h1 D1' j1=>⟨mF rfl,fun lt hlt=>?_⟩⟩
   have L2:=(L.draw D1' j1).same (aF (o:=.lst [.int 0,.int 0,.int 1,.int v1,.int life,.int (life - 1)]) hlt)
   have glt:(aI G1 lt (.lst [.int 0,.int 0,.int 1,.int v1,.int life,.int (life - 1)])) lt=some (.lst [.int 0,.int 0,.int 1,.int v1,.int life,.int (life - 1)]):=aB
   have nlt:=D1'.ne hlt
   generalize aI G1 lt (.lst [.int 0,.int 0,.int 1,.int v1,.int life,.int (life - 1)])=G2 at L2 glt ⊢;refine⟨d,b,6,rfl,L2.dk,Zd,Zd,fun v2 G3 h2 h3 D3' j3=>?_⟩
   have glt3:=j3 _ _ glt nlt.1 nlt.2
   obtain⟨val,hval,hmem⟩:=gC (xs:=[V.int 0,.int 0,.int 1,.int v1,.int life,.int (life - 1)]) h2 (by simpa using h3)
   obtain⟨v,rfl⟩:∃v,val=V.int v:=by
    simp only [List.mem_cons,List.not_mem_nil,or_false]at hmem
    rcases hmem with e | e | e | e | e | e <;> exact⟨_,e⟩
   refine⟨_,SqL.of glt3,_,hval,⟨Zd,Zd,Zd⟩,⟨Zd,Zd⟩,by show(0:Int)<10 ^ (12:Int).toNat / 64;decide,?_⟩
   exact hnx _ _ ⟨_,by have:=Int.emod_nonneg v (show((10:Int) ^ (12:Int).toNat / 64)≠0 by decide);omega,rfl,L2.draw D3' j3⟩
  rintro σ' G1 ⟨turn,htn,rfl,L⟩
  refine lW (fun σ' H'=>∃(sp:Addr) (q:Str × Str),isNm q.1/\isKy q.2/\H' sp=some (.tup [.str q.1,.str q.2])/\σ'=[some (.ref sa),some (.ref d),some (.str "abcdefghijklmnopqrstuvwxyz"),some (.ref ln),some (.ref la),some (.ref lk),some (.ref lsm),some (.int life),some (.ref a.dr),some (.ref tb),some (.int turn),some (.int s.next),some (.int (i:Int)),some (.ref sp),o14,o15,o16,o17]/\LI c H' i d b ln la lk tb zs as ks a s tkv) (fun nx hnx=>?_) ?_
  ·have ela:(as.map V.str).length=as.length:=dN ..
   have elk:(ks.map V.str).length=ks.length:=dN ..
   refine⟨_,.inl (SqL.of L.ga),d,b,_,rfl,L.dk,by rw[ela];omega,by rw[ela];omega,fun v1 G2 h0 h1 D2' j2=>?_⟩
   rw[ela]at h1;have L2:=L.draw D2' j2
   obtain⟨v1,rfl⟩:=Cd h0
   have hv1:v1<as.length:=by omega
   refine⟨_,SqL.of L2.ga,.str as[v1],dA (by rw[iU,mQ hv1];rfl),_,.inl (SqL.of L2.gk),d,b,_,rfl,L2.dk,by rw[elk];omega,by rw[elk];omega,fun v2 G3 h2 h3 D3' j3=>?_⟩
   rw[elk]at h3;have L3:=L2.draw D3' j3
   obtain⟨v2,rfl⟩:=Cd h2
   have hv2:v2<ks.length:=by omega
   refine⟨_,SqL.of L3.gk,.str ks[v2],dA (by rw[iU,mQ hv2];rfl),aX rfl,fun sp G4 s4 gsp=>?_⟩
   exact hnx _ _ ⟨sp,(as[v1],ks[v2]),ham _ (List.getElem_mem hv1),hkm _ (List.getElem_mem hv2),gsp,rfl,L3.same s4⟩
  rintro σ' G2 ⟨sp,q,hq1,hq2,gsp,rfl,L⟩
  refine lW (fun σ' H'=>∃(dd:Addr) (x:Dd),mP zs x/\H' dd=some (.tup x.vs)/\H' sp=some (.tup [.str q.1,.str q.2])/\σ'=[some (.ref sa),some (.ref d),some (.str "abcdefghijklmnopqrstuvwxyz"),some (.ref ln),some (.ref la),some (.ref lk),some (.ref lsm),some (.int life),some (.ref a.dr),some (.ref tb),some (.int turn),some (.int s.next),some (.int (i:Int)),some (.ref sp),some (.ref dd),o15,o16,o17]/\LI c H' i d b ln la lk tb zs as ks a s tkv) (fun nx hnx=>?_) ?_
  ·exact⟨d,b,ln,zs,rfl,L.dk,L.gn,L.nn.1,L.nn.2,hzs,fun dd x G3 hx gdd D3' j3=>hnx _ _ ⟨dd,x,hx,gdd,lZ L.dk j3 _ _ gsp,rfl,L.draw D3' j3⟩⟩
  rintro σ' G3 ⟨dd,x,hx,gdd,gsp,rfl,L⟩
  refine lW (fun σ' H'=>∃(dd:Addr) (x:Dd),mP zs x/\H' dd=some (.tup x.vs)/\H' sp=some (.tup [.str q.1,.str q.2])/\σ'=[some (.ref sa),some (.ref d),some (.str "abcdefghijklmnopqrstuvwxyz"),some (.ref ln),some (.ref la),some (.ref lk),some (.ref lsm),some (.int life),some (.ref a.dr),some (.ref tb),some (.int turn),some (.int s.next),some (.int (i:Int)),some (.ref sp),some (.ref dd),o15,o16,o17]/\LI c H' i d b ln la lk tb zs as ks a s tkv) (fun nx hnx=>?_) ?_
  ·have dg:=DGet.t L.gt (dC gsp)
   have tq:=L.tab q
   cases hm:s.m q with
   | none=>
    rw[hm]at tq;have tq':aY tkv (pk q)=none:=tq
    rw[tq']at dg;exact⟨_,dg,hnx _ _ ⟨dd,x,hx,gdd,gsp,rfl,L⟩⟩
   | some e=>
    rw[hm]at tq;obtain⟨x0,hx0,g0⟩:=L.kd q e hm
    obtain⟨t0,xs,hv,gt0,h2⟩:∃t0 xs,aY tkv (pk q)=some (.ref t0)/\G3 t0=some (.tup xs)/\kA xs 2=some (.ref (KE.dd e)):=by
     cases e with
     | busy n d0=>obtain⟨t0,w0,h1,h2⟩:=tq;exact⟨t0,_,h1,h2,rfl⟩
     | kept n w0 d0 z0=>obtain⟨t0,h1,h2⟩:=tq;exact⟨t0,_,h1,h2,rfl⟩
    rw[hv]at dg;refine⟨_,dg,?_⟩
    refine⟨tb,.ref t0,rfl,dg,xs,SqT.of gt0,_,h2,d,b,ln,_,dd,zs,x0,x,rfl,L.dk,L.gn,L.nn.1,L.nn.2,hzs,hx0,hx,g0,gdd,fun d2 x2 G4 hx2 gd2 D4' j4=>?_⟩
    exact hnx _ _ ⟨d2,x2,hx2,gd2,lZ L.dk j4 _ _ gsp,rfl,L.draw D4' j4⟩
  rintro σ' G4 ⟨dd,x,hx,gdd,gsp,rfl,L⟩
  obtain⟨x0,hx0⟩:∃x0:Dd,∀e,s.m q=some e->G4 (KE.dd e)=some (.tup x0.vs):=by
   cases hm:s.m q with
   | none=>exact⟨x,fun e he=>nomatch he⟩
   | some e=>
    obtain⟨x0,_,g0⟩:=L.kd q e hm
    exact⟨x0,fun e' he=>by cases he;exact g0⟩
  refine⟨tb,sp,dd,tkv,s.m,q,x,x0,turn,life,s.next,rfl,L.gt,L.tab,gsp,gdd,hx0,fun du G5 s5 gdu=>?_⟩
  rw[<- hlf]at gdu;have L5:=L.same s5
  have cp:Ia c G5 a s q dd x x0:=⟨L5.h,hq1,hq2,hx.1,hx.2.1,s5 _ _ gdd,fun e he=>s5 _ _ (hx0 e he),by have:=L.hL;omega,L.hn,by have:=L.hr;omega,by have:=L.ho;omega⟩
  refine⟨a,s,turn,sp,q,dd,du,x,x0,rfl,cp,s5 _ _ gsp,htn,gdu,L5.ky q,fun hfr G6 h6 v6=>?_,fun hfr p6 dx6 ra6 G6 h6 v6 gra6=>?_⟩
  ·obtain⟨e,he,_⟩:=oW hfr
   have ecv:eS s.life turn s.next (bH x0.vs x.vs) (s.m q)=lX (bH x0.vs x.vs) e:=by unfold eS;rw[if_neg (by rw[hfr];exact Bool.false_ne_true),he]
   rw[ecv]at gdu;obtain⟨v0,vr0,hv0,hne⟩:∃v0 vr0,lX (bH x0.vs x.vs) e=.str v0::vr0/\v0≠"begun":=by
    cases e <;> cases bH x0.vs x.vs <;> exact⟨_,_,rfl,Zk⟩
   have L6:=L5.turned h6 v6
   have tk6:=v6.tk L5.h
   have gdu6:=tk6 _ _ gdu
   have gsp6:=tk6 _ _ (s5 _ _ gsp)
   have at0:kA (lX (bH x0.vs x.vs) e) 0=some (.str v0):=by rw[hv0];exact dA (show(V.str v0::vr0)[0]?=some _ from rfl)
   refine⟨_,SqT.of gdu6,.str v0,at0,?_⟩
   show if decide (v0="begun")=true then _ else _
   refine tR (decide_eq_false hne) ?_
   obtain⟨tv,htv⟩:=zL (bH x0.vs x.vs) e G6 fun n w d z ez=>L6.ky q n w d z (by rw[<- ez];exact he)
   refine⟨_,_,L6.h.dr,by kernel_rfl,_,SqT.of gsp6,_,rfl,_,SqT.of gsp6,_,rfl,a,_,turn,q,dd,x,x0,rfl,L6.h,hq1,hq2,hx.1,hx.2.1,tk6 _ _ (s5 _ _ gdd),fun e he=>tk6 _ _ (s5 _ _ (hx0 e he)),by have:=L.hL;show s.L<=500;omega,L6.hn,by have:=L.hr;show s.runs.length<=500;omega,by have:=L.ho;show s.rows.length<=1000;omega,fun hlt=>absurd hlt (Int.lt_irrefl _),fun _ e' he' hfr' t G7 h7 v7 gt=>?_,fun _ hfr'=>absurd (hfr.symm.trans hfr') Bool.false_ne_true⟩
   have ee:e'=e:=by
    have he2:s.m q=some e':=he'
    rw[he]at he2;cases he2;rfl
   rw[ee]at gt;have L7:=L6.turned h7 v7
   have tk7:=v7.tk L6.h
   have gdu7:=tk7 _ _ gdu6
   refine⟨2,tv,Zd,htv t G7 tk7 gt,htv du G7 tk7 gdu7,?_⟩
   refine⟨_,SqT.of gdu7,.str v0,at0,?_⟩
   show if decide (v0="begun")=true then _ else _
   refine tR (decide_eq_false hne) ?_
   refine⟨_,SqT.of gdu7,.str v0,at0,?_⟩
   show if decide (v0="begun")=true then _ else _
   refine tR (decide_eq_false hne) ?_
   exact⟨{s with turn:=turn },tkv,_,_,_,_,_,_,rfl,hlf,L7.more⟩
  ·have ecv:eS s.life turn s.next (bH x0.vs x.vs) (s.m q)=[.str "begun",.int s.next]:=by unfold eS;rw[if_pos hfr]
   rw[ecv]at gdu;have tk6:=v6.tk L5.h
   have gdu6:=tk6 _ _ gdu
   have gsp6:=tk6 _ _ (s5 _ _ gsp)
   have gdd6:=tk6 _ _ (s5 _ _ gdd)
   refine⟨_,SqT.of gdu6,_,rfl,?_⟩
   refine⟨aX rfl,fun t7 G7 s7 gt7=>?_⟩
   have gtb6:=(L5.left v6).2.2.2.2.1
   refine⟨tb,_,rfl,DPut.t (s7 _ _ gtb6) (dC (s7 _ _ gsp6)) (zP (m:=1000) (by have:=L.tl;omega) Zd),?_⟩
   have L8:=L5.begun hfr hx (s5 _ _ gdd) h6 v6 gra6 s7 gt7
   have tk8:TK G6 (aI G7 tb (.dT (bA tkv (pk q) (.ref t7)))):=(TK.of s7).trans (fX (s7 _ _ gtb6) fun _ z=>nomatch z)
   generalize aI G7 tb (.dT (bA tkv (pk q) (.ref t7)))=G8 at L8 tk8 ⊢;have gdu8:=tk8 _ _ gdu6
   dsimp only [aK];refine⟨_,SqT.of gdu8,_,rfl,aX rfl,fun ag G9 s9 gag=>?_⟩
   have L9:=L8.same s9
   have tk9:=tk8.trans (TK.of s9)
   have gdu9:=tk9 _ _ gdu6
   have gsp9:=tk9 _ _ gsp6
   have gdd9:=tk9 _ _ gdd6
   have hmq:(dM s turn q dd x p6 dx6 ra6).m q=some (.busy s.next dd):=by show(s.m.set q _) q=_;rw[KM.set_same]
   dsimp only [aK];refine⟨_,_,L9.h.dr,by kernel_rfl,_,SqT.of gsp9,_,rfl,_,SqT.of gsp9,_,rfl,a,_,turn,q,dd,x,x,rfl,L9.h,hq1,hq2,hx.1,hx.2.1,gdd9,fun e he=>?_,by have:=L9.hL;omega,L9.hn,by have:=L9.hr;omega,by have:=L9.ho;omega,fun hlt=>absurd hlt (Int.lt_irrefl _),fun _ e' he' hfr' t G10 h10 v10 gt=>?_,fun _ hfr'=>?_⟩
   ·rw[hmq]at he;cases he;exact gdd9
   ·have L10:LI c G10 (i+1) d b ln la lk tb zs as ks a (dM s turn q dd x p6 dx6 ra6) (bA tkv (pk q) (.ref t7)):=L9.turned h10 v10
    have tk10:=tk9.trans (v10.tk L9.h)
    have gdu10:=tk10 _ _ gdu6
    have gsp10:=tk10 _ _ gsp6
    have gdd10:=tk10 _ _ gdd6
    have gag10:=v10.tk L9.h _ _ gag
    rw[hmq]at he';cases he'
    rw[show bH x.vs x.vs=true from wW vB]at gt;have rp:∀u,G10 u=some (.tup [.str "busy",.int s.next])->vI G10 1 (.tp [.sc (.str "busy"),.sc (.int s.next)]) (.ref u):=fun u g=>⟨u,_,rfl,g,.cons ⟨rfl,rfl⟩ (.cons ⟨rfl,rfl⟩ .nil)⟩
    refine⟨1,_,Zd,rp t gt,rp ag gag10,?_⟩
    dsimp only [mB];rw[if_neg Zd]
    dsimp only [cT];refine lW (fun σ' H'=>σ'=[some (.ref sa),some (.ref d),some (.str "abcdefghijklmnopqrstuvwxyz"),some (.ref ln),some (.ref la),some (.ref lk),some (.ref lsm),some (.int life),some (.ref a.dr),some (.ref tb),some (.int turn),some (.int ((s.next:Int)+1)),some (.int (i:Int)),some (.ref sp),some (.ref dd),some (.ref du),some (.ref ag),o17]/\Same G10 H') (fun nx hnx=>?_) ?_
    ·refine⟨_,SqT.of gdu10,_,rfl,?_⟩
     refine⟨_,_,L10.h.dr,by kernel_rfl,a,_,rfl,L10.h,by have:=L10.hr;omega,fun lu us G11 s11 glu pus=>?_⟩
     obtain⟨us',uv,rfl,tu,rfl,gtu⟩:=mD (xs:=s.runs) pus
     refine⟨_,SqL.of glu,_,zI,?_⟩
     have k11:=tk10.trans (TK.of s11)
     refine⟨_,s11 _ _ gdu10,fun p1 G12 s12 g12=>⟨_,_,g12,s12 _ _ (s11 _ _ gsp10),aX rfl,fun p2 G13 s13 g13=>⟨aX rfl,fun p3 G14 s14 g14=>⟨_,_,s14 _ _ g13,g14,aX rfl,fun p4 G15 s15 g15=>?_⟩⟩⟩⟩
     have s1115:=((s12.trans s13).trans s14).trans s15
     have gdd15:=s1115 _ _ (s11 _ _ gdd10)
     have rp2:∀u,G15 u=some (.tup [.int s.next,.str q.1,.str q.2,.ref dd,.str "new"])->vI G15 2 (.tp [.sc (.int s.next),.sc (.str q.1),.sc (.str q.2),RX.tvs x.vs,.sc (.str "new")]) (.ref u):=fun u g=>⟨u,_,rfl,g,.cons ⟨rfl,rfl⟩ (.cons ⟨rfl,rfl⟩ (.cons ⟨rfl,rfl⟩ (.cons (RX.rep_flat gdd15 (RX.sc_dd x)) (.cons ⟨rfl,rfl⟩ .nil))))⟩
     refine⟨2,_,Zd,rp2 tu (s1115 _ _ gtu),rp2 p4 g15,?_⟩
     exact hnx _ _ ⟨rfl,s11.trans s1115⟩
    ·rintro σ' G11 ⟨rfl,s11⟩
     have L11:=L10.same s11
     have tk11:=tk10.trans (TK.of s11)
     have gdu11:=tk11 _ _ gdu6
     refine⟨_,SqT.of gdu11,_,rfl,?_⟩
     refine⟨d,b,4,rfl,L11.dk,Zd,Zd,fun v3 G12 h0 h1 D12' j12=>?_⟩
     have L12:=L11.draw D12' j12
     have tk12:=tk11.trans (lZ L11.dk j12)
     have gdu12:=tk12 _ _ gdu6
     have gsp12:=tk12 _ _ gsp6
     show if decide (0<v3)=true then _ else _
     refine dQ (fun _=>?_) (fun _=>?_)
     ·obtain⟨f,hf,hf12⟩:=L12.bk
      obtain⟨old,news,w1,w2,w3⟩:=L12.rw
      have hpl:s.prs.length<=zs.length:=by
       have:=Ux L.h.nd L.pl
       rwa [dN]at this
      refine⟨_,SqT.of gdu12,_,rfl,_,SqT.of gsp12,_,rfl,_,SqT.of gsp12,_,rfl,a,_,old,news,s.runs,[],kR p6 dx6 s.next q dd x "new",f,rfl,L12.h,w1,w2,by have:=L12.ho;omega,w3,rfl,fun r hr=>(L12.all r hr).1,by have:=L12.hr;omega,hx.1,hx.2.1,hf,hf12,by have:=hzs.2.2.2;show s.prs.length<=90;omega,by have:=L12.hL;omega,hmq,fun ra13 z13 y13 G13 hR h13 v13 gz13=>?_⟩
      dsimp only [aK];have tk13:=tk12.trans (v13.tk L12.h)
      refine⟨_,SqT.of (tk13 _ _ gdu6),_,rfl,aX rfl,fun t14 G14 s14 gt14=>?_⟩
      have gtb13:=(L12.left v13).2.2.2.2.1
      refine⟨tb,_,rfl,DPut.t (s14 _ _ gtb13) (dC (s14 _ _ (tk13 _ _ gsp6))) (zP (m:=1000) (by have:=L12.tl;omega) Zd),?_⟩
      refine⟨pJ {dM s turn q dd x p6 dx6 ra6 with rows:=(dM s turn q dd x p6 dx6 ra6).rows++[.ref ra13] } s.runs [] (kR p6 dx6 s.next q dd x "new") turn z13 y13,bA (bA tkv (pk q) (.ref t7)) (pk q) (.ref t14),_,_,_,_,_,_,rfl,hlf,L12.ended (r:=kR p6 dx6 s.next q dd x "new") rfl (by have:=L.hL;show s.L+1<=_;omega) L.hr (by have:=L.ho;show(s.rows++[_]).length<=_;simp;omega) hf hf12 hR h13 v13 gz13 s14 gt14 ?_⟩
      show(bA (bA tkv (pk q) (.ref t7)) (pk q) (.ref t14)).length<=i+1
      rw[xK (v:=.ref t7) (by rw[eF,if_pos rfl])]
      exact L12.tl
     ·exact⟨dM s turn q dd x p6 dx6 ra6,bA tkv (pk q) (.ref t7),_,_,_,_,_,_,rfl,hlf,L12⟩
   ·have:eR s.life turn ((dM s turn q dd x p6 dx6 ra6).m q)=true:=hfr'
    rw[hmq]at this;cases this
end
end KL
namespace KL
open PySem L2
structure FA (K:W.Frag) (x:Str) (st:Stmt):Prop where
 ex:∃(f:Addr) (od an:Option Addr) (sl:Array (Option Value)) (oc kV dc pm cd ct:Value),W.nsIn K mainGlobals x=some (some (.ref f))/\K.lookup f=some ⟨oc,od,.func (W.fnOf x x (bC st) (aP st) (aA st) .none kV dc pm an cd ct),sl⟩/\W.codeIn K cd x=true/\W.keepIn K (.ref f)=true
theorem FA.of {K:W.Frag} {x:Str} {st:Stmt} {f:Addr} {od an:Option Addr} {sl:Array (Option Value)} {oc kV dc pm cd ct:Value} (a:W.nsIn K mainGlobals x=some (some (.ref f))) (l:K.lookup f=some ⟨oc,od,.func (W.fnOf x x (bC st) (aP st) (aA st) .none kV dc pm an cd ct),sl⟩) (c:W.codeIn K cd x=true) (k:W.keepIn K (.ref f)=true):FA K x st:=⟨f,od,an,sl,oc,kV,dc,pm,cd,ct,a,l,c,k⟩
theorem FA.at {K:W.Frag} {x:Str} {st:Stmt} {ps:List Str} {h:Heap} {mg:Str->Option Value} (F:FA K x st) (X:K.In h) (G:h.Ns mainGlobals mg) (hb:∀(kV doc pm:Value) (an:Option Addr) (cdv ct:Value) (us:List Value),us.length=ps.length->bindArgs (W.fnOf x x (bC st) (aP st) (aA st) .none kV doc pm an cdv ct) ⟨us,[]⟩=pure (ps.zip us)):DefAt K mg x st ps:=by
 obtain⟨f,od,an,sl,oc,kV,dc,pm,cd,ct,a,l,c,k⟩:=F.ex
 exact Qh X G a l c k hb
structure MA (K:W.Frag) (C:Addr) (m qual:Str) (st:Stmt):Prop where
 ex:∃(f:Addr) (od an:Option Addr) (sl:Array (Option Value)) (oc kV dc pm cd ct:Value),W.findIn K (.ref C) m=some (some (.ref f))/\W.isFn K (.ref f)=true/\K.lookup f=some ⟨oc,od,.func (W.fnOf m qual (bC st) (aP st) (aA st) .none kV dc pm an cd ct),sl⟩/\W.codeIn K cd qual=true/\W.keepIn K (.ref f)=true
theorem MA.of {K:W.Frag} {C:Addr} {m qual:Str} {st:Stmt} {f:Addr} {od an:Option Addr} {sl:Array (Option Value)} {oc kV dc pm cd ct:Value} (a:W.findIn K (.ref C) m=some (some (.ref f))) (i:W.isFn K (.ref f)=true) (l:K.lookup f=some ⟨oc,od,.func (W.fnOf m qual (bC st) (aP st) (aA st) .none kV dc pm an cd ct),sl⟩) (c:W.codeIn K cd qual=true) (k:W.keepIn K (.ref f)=true):MA K C m qual st:=⟨f,od,an,sl,oc,kV,dc,pm,cd,ct,a,i,l,c,k⟩
theorem MA.at {K:W.Frag} {C:Addr} {m qual:Str} {st:Stmt} {ps:List Str} (F:MA K C m qual st) (cl:Cls K C) (hb:∀(kV doc pm:Value) (an:Option Addr) (cdv ct:Value) (us:List Value),us.length=ps.length->bindArgs (W.fnOf m qual (bC st) (aP st) (aA st) .none kV doc pm an cdv ct) ⟨us,[]⟩=pure (ps.zip us)):MethAt K C m qual st ps:=by
 obtain⟨f,od,an,sl,oc,kV,dc,pm,cd,ct,a,i,l,c,k⟩:=F.ex
 exact⟨cl,_,_,nQ l c k,⟨a,i,k⟩,(nQ (st:=st) l c k).binds hb⟩
theorem Rp {l:W.OpenLaw} {w:World} {K:W.Frag} {h:Heap} {mg:Str->Option Value} {fa f_law:Addr} (X:K.In h) (G:h.Ns mainGlobals mg) (hfa:mg "law"=some (.ref fa))
  {od_law an_law:Option Addr} {sl_law:Array (Option Value)} {oc_law kV_law dc_law pm_law cd_law ct_law:Value}
  (a_is_name:FA K "is_name" iZ)
  (a_is_key:FA K "is_key" kL)
  (a_is_whole:FA K "is_whole" gT)
  (a_is_made_of:FA K "is_made_of" dD)
  (a_is_deed:FA K "is_deed" jA)
  (a_fits_word:FA K "fits_word" eJ)
  (a_asks_of:FA K "asks_of" jB)
  (a_done_changes:FA K "done_changes" cD)
  (a_early:FA K "early" mW)
  (a_done_answer:FA K "done_answer" cM)
  (a_changes_of:FA K "changes_of" eW)
  (a_is_alive:FA K "is_alive" gV)
  (a_risen:FA K "risen" eY)
  (a_by_numbers:FA K "by_numbers" eZ)
  (a_first_book:FA K "first_book" dF)
  (a_risen_book:FA K "risen_book" fA)
  (a_risen_kept:FA K "risen_kept" cG)
  (a_rows_of:FA K "rows_of" jC)
  (a_told_again:FA K "told_again" fI)
  (a_law_deck:FA K "_law_deck" gX)
  (a_law_draw:FA K "_law_draw" gY)
  (a_law_unlike:FA K "_law_unlike" bU)
  (a_law_amount:FA K "_law_amount" fJ)
  (a_law_deed:FA K "_law_deed" gZ)
  (a_law_ended:FA K "_law_ended" fT)
  (a_law_again:FA K "_law_again" fU)
  (a_law_is_late:FA K "_law_is_late" dZ)
  (a_law_come_right:FA K "_law_come_right" cH)
  (a_law_spots:FA K "_law_spots" cX)
  (a_law_due:FA K "_law_due" jD)
  (a_law:W.nsIn K mainGlobals "law"=some (some (.ref f_law))) (l_law:K.lookup f_law=some ⟨oc_law,od_law,.func (W.fnOf "law" "law" (bC kM) (aP kM) (aA kM) .none kV_law dc_law pm_law an_law cd_law ct_law),sl_law⟩) (c_law:W.codeIn K cd_law "law"=true) (k_law:W.keepIn K (.ref f_law)=true)
  {C_Keys:Addr} (aC_Keys:W.nsIn K mainGlobals "Keys"=some (some (.ref C_Keys))) (pg_Keys:W.plainGet K C_Keys Str.empty=true) (hd_Keys:W.hasDictIn K C_Keys=true) (po_Keys:W.plainOver K C_Keys=true) (sa_Keys:W.findIn K (.ref C_Keys) "__setattr__"=some (some (.builtin "object.__setattr__"))) (mk_Keys:W.makesIn K C_Keys=true) (kc_Keys:W.keepIn K (.ref C_Keys)=true)
  (n_Keys_life:W.findIn K (.ref C_Keys) "life"=some none)
  (n_Keys_begun_ones:W.findIn K (.ref C_Keys) "begun_ones"=some none)
  (n_Keys_settled_ones:W.findIn K (.ref C_Keys) "settled_ones"=some none)
  {f_Keys___init__:Addr} {od_Keys___init__ an_Keys___init__:Option Addr} {sl_Keys___init__:Array (Option Value)} {oc_Keys___init__ kV_Keys___init__ dc_Keys___init__ pm_Keys___init__ cd_Keys___init__ ct_Keys___init__:Value}
  (a_Keys___init__:W.findIn K (.ref C_Keys) "__init__"=some (some (.ref f_Keys___init__))) (i_Keys___init__:W.isFn K (.ref f_Keys___init__)=true) (l_Keys___init__:K.lookup f_Keys___init__=some ⟨oc_Keys___init__,od_Keys___init__,.func (W.fnOf "__init__" "Keys.__init__" (bC bK) (aP bK) (aA bK) .none kV_Keys___init__ dc_Keys___init__ pm_Keys___init__ an_Keys___init__ cd_Keys___init__ ct_Keys___init__),sl_Keys___init__⟩) (c_Keys___init__:W.codeIn K cd_Keys___init__ "Keys.__init__"=true) (k_Keys___init__:W.keepIn K (.ref f_Keys___init__)=true)
  (a_Keys_look:MA K C_Keys "look" "Keys.look" fQ)
  (a_Keys_begin:MA K C_Keys "begin" "Keys.begin" eX)
  (a_Keys_settle:MA K C_Keys "settle" "Keys.settle" dW)
  (a_Keys_end:MA K C_Keys "end" "Keys.end" gU)
  (a_Keys_is_kept:MA K C_Keys "is_kept" "Keys.is_kept" dE)
  {C_Book:Addr} (aC_Book:W.nsIn K mainGlobals "Book"=some (some (.ref C_Book))) (pg_Book:W.plainGet K C_Book Str.empty=true) (hd_Book:W.hasDictIn K C_Book=true) (po_Book:W.plainOver K C_Book=true) (sa_Book:W.findIn K (.ref C_Book) "__setattr__"=some (some (.builtin "object.__setattr__"))) (mk_Book:W.makesIn K C_Book=true) (kc_Book:W.keepIn K (.ref C_Book)=true)
  (n_Book_amounts:W.findIn K (.ref C_Book) "amounts"=some none)
  {f_Book___init__:Addr} {od_Book___init__ an_Book___init__:Option Addr} {sl_Book___init__:Array (Option Value)} {oc_Book___init__ kV_Book___init__ dc_Book___init__ pm_Book___init__ cd_Book___init__ ct_Book___init__:Value} {T_Book:Addr}
  (a_Book___init__:W.findIn K (.ref C_Book) "__init__"=some (some (.ref f_Book___init__))) (i_Book___init__:W.isFn K (.ref f_Book___init__)=true) (l_Book___init__:K.lookup f_Book___init__=some ⟨oc_Book___init__,od_Book___init__,.func (W.fnOf "__init__" "Book.__init__" (bC bL) (aP bL) (aA bL) (.ref T_Book) kV_Book___init__ dc_Book___init__ pm_Book___init__ an_Book___init__ cd_Book___init__ ct_Book___init__),sl_Book___init__⟩) (c_Book___init__:W.codeIn K cd_Book___init__ "Book.__init__"=true) (k_Book___init__:W.keepIn K (.ref f_Book___init__)=true)
  (a_Book_amount:MA K C_Book "amount" "Book.amount" dX)
  (a_Book_rows:MA K C_Book "rows" "Book.rows" eN)
  (a_Book_change:MA K C_Book "change" "Book.change" dY)
  {dT_Book:Option Addr} {itsT_Book:List Value} {nT_Book:Nat} {slT_Book:Array (Option Value)} (lT_Book:K.lookup T_Book=some ⟨.type "tuple",dT_Book,.seq (List.toArray itsT_Book) nT_Book,slT_Book⟩) (vT_Book:itsT_Book=[.none])
  {C_Journal:Addr} (aC_Journal:W.nsIn K mainGlobals "Journal"=some (some (.ref C_Journal))) (pg_Journal:W.plainGet K C_Journal Str.empty=true) (hd_Journal:W.hasDictIn K C_Journal=true) (po_Journal:W.plainOver K C_Journal=true) (sa_Journal:W.findIn K (.ref C_Journal) "__setattr__"=some (some (.builtin "object.__setattr__"))) (mk_Journal:W.makesIn K C_Journal=true) (kc_Journal:W.keepIn K (.ref C_Journal)=true)
  (n_Journal_written:W.findIn K (.ref C_Journal) "written"=some none)
  (n_Journal_safe_count:W.findIn K (.ref C_Journal) "safe_count"=some none)
  {f_Journal___init__:Addr} {od_Journal___init__ an_Journal___init__:Option Addr} {sl_Journal___init__:Array (Option Value)} {oc_Journal___init__ kV_Journal___init__ dc_Journal___init__ pm_Journal___init__ cd_Journal___init__ ct_Journal___init__:Value} {T_Journal:Addr}
  (a_Journal___init__:W.findIn K (.ref C_Journal) "__init__"=some (some (.ref f_Journal___init__))) (i_Journal___init__:W.isFn K (.ref f_Journal___init__)=true) (l_Journal___init__:K.lookup f_Journal___init__=some ⟨oc_Journal___init__,od_Journal___init__,.func (W.fnOf "__init__" "Journal.__init__" (bC bD) (aP bD) (aA bD) (.ref T_Journal) kV_Journal___init__ dc_Journal___init__ pm_Journal___init__ an_Journal___init__ cd_Journal___init__ ct_Journal___init__),sl_Journal___init__⟩) (c_Journal___init__:W.codeIn K cd_Journal___init__ "Journal.__init__"=true) (k_Journal___init__:W.keepIn K (.ref f_Journal___init__)=true)
  (a_Journal_write:MA K C_Journal "write" "Journal.write" cP)
  (a_Journal_force:MA K C_Journal "force" "Journal.force" cQ)
  (a_Journal_rows:MA K C_Journal "rows" "Journal.rows" dG)
  (a_Journal_safe:MA K C_Journal "safe" "Journal.safe" dH)
  {tk0_Journal:Tok}
  {dT_Journal:Option Addr} {itsT_Journal:List Value} {nT_Journal:Nat} {slT_Journal:Array (Option Value)} (lT_Journal:K.lookup T_Journal=some ⟨.type "tuple",dT_Journal,.seq (List.toArray itsT_Journal) nT_Journal,slT_Journal⟩) (vT_Journal:itsT_Journal=[.str ("") tk0_Journal])
  {C_Run:Addr} (aC_Run:W.nsIn K mainGlobals "Run"=some (some (.ref C_Run))) (pg_Run:W.plainGet K C_Run Str.empty=true) (hd_Run:W.hasDictIn K C_Run=true) (po_Run:W.plainOver K C_Run=true) (sa_Run:W.findIn K (.ref C_Run) "__setattr__"=some (some (.builtin "object.__setattr__"))) (mk_Run:W.makesIn K C_Run=true) (kc_Run:W.keepIn K (.ref C_Run)=true)
  (n_Run_number:W.findIn K (.ref C_Run) "number"=some none)
  (n_Run_asker:W.findIn K (.ref C_Run) "asker"=some none)
  (n_Run_key:W.findIn K (.ref C_Run) "key"=some none)
  (n_Run_deed:W.findIn K (.ref C_Run) "deed"=some none)
  (n_Run_stage:W.findIn K (.ref C_Run) "stage"=some none)
  (n_Run_place:W.findIn K (.ref C_Run) "place"=some none)
  (n_Run_undos:W.findIn K (.ref C_Run) "undos"=some none)
  {f_Run___init__:Addr} {od_Run___init__ an_Run___init__:Option Addr} {sl_Run___init__:Array (Option Value)} {oc_Run___init__ kV_Run___init__ dc_Run___init__ pm_Run___init__ cd_Run___init__ ct_Run___init__:Value}
  (a_Run___init__:W.findIn K (.ref C_Run) "__init__"=some (some (.ref f_Run___init__))) (i_Run___init__:W.isFn K (.ref f_Run___init__)=true) (l_Run___init__:K.lookup f_Run___init__=some ⟨oc_Run___init__,od_Run___init__,.func (W.fnOf "__init__" "Run.__init__" (bC bS) (aP bS) (aA bS) .none kV_Run___init__ dc_Run___init__ pm_Run___init__ an_Run___init__ cd_Run___init__ ct_Run___init__),sl_Run___init__⟩) (c_Run___init__:W.codeIn K cd_Run___init__ "Run.__init__"=true) (k_Run___init__:W.keepIn K (.ref f_Run___init__)=true)
  (a_Run_as_tuple:MA K C_Run "as_tuple" "Run.as_tuple" dI)
  (a_Run_is_held_up_by:MA K C_Run "is_held_up_by" "Run.is_held_up_by" bP)
  {C_Memory:Addr} (aC_Memory:W.nsIn K mainGlobals "Memory"=some (some (.ref C_Memory))) (pg_Memory:W.plainGet K C_Memory Str.empty=true) (hd_Memory:W.hasDictIn K C_Memory=true) (po_Memory:W.plainOver K C_Memory=true) (sa_Memory:W.findIn K (.ref C_Memory) "__setattr__"=some (some (.builtin "object.__setattr__"))) (mk_Memory:W.makesIn K C_Memory=true) (kc_Memory:W.keepIn K (.ref C_Memory)=true)
  (n_Memory_turn:W.findIn K (.ref C_Memory) "turn"=some none)
  (n_Memory_book:W.findIn K (.ref C_Memory) "book"=some none)
  (n_Memory_standing:W.findIn K (.ref C_Memory) "standing"=some none)
  (n_Memory_runs:W.findIn K (.ref C_Memory) "runs"=some none)
  (n_Memory_next_number:W.findIn K (.ref C_Memory) "next_number"=some none)
  {f_Memory___init__:Addr} {od_Memory___init__ an_Memory___init__:Option Addr} {sl_Memory___init__:Array (Option Value)} {oc_Memory___init__ kV_Memory___init__ dc_Memory___init__ pm_Memory___init__ cd_Memory___init__ ct_Memory___init__:Value}
  (a_Memory___init__:W.findIn K (.ref C_Memory) "__init__"=some (some (.ref f_Memory___init__))) (i_Memory___init__:W.isFn K (.ref f_Memory___init__)=true) (l_Memory___init__:K.lookup f_Memory___init__=some ⟨oc_Memory___init__,od_Memory___init__,.func (W.fnOf "__init__" "Memory.__init__" (bC bF) (aP bF) (aA bF) .none kV_Memory___init__ dc_Memory___init__ pm_Memory___init__ an_Memory___init__ cd_Memory___init__ ct_Memory___init__),sl_Memory___init__⟩) (c_Memory___init__:W.codeIn K cd_Memory___init__ "Memory.__init__"=true) (k_Memory___init__:W.keepIn K (.ref f_Memory___init__)=true)
  (a_Memory_put:MA K C_Memory "put" "Memory.put" fE)
  (a_Memory_begin:MA K C_Memory "begin" "Memory.begin" dJ)
  (a_Memory_hold:MA K C_Memory "hold" "Memory.hold" cN)
  (a_Memory_end:MA K C_Memory "end" "Memory.end" fF)
  {C_Door:Addr} (aC_Door:W.nsIn K mainGlobals "Door"=some (some (.ref C_Door))) (pg_Door:W.plainGet K C_Door Str.empty=true) (hd_Door:W.hasDictIn K C_Door=true) (po_Door:W.plainOver K C_Door=true) (sa_Door:W.findIn K (.ref C_Door) "__setattr__"=some (some (.builtin "object.__setattr__"))) (mk_Door:W.makesIn K C_Door=true) (kc_Door:W.keepIn K (.ref C_Door)=true)
  (n_Door_name:W.findIn K (.ref C_Door) "name"=some none)
  (n_Door_life:W.findIn K (.ref C_Door) "life"=some none)
  (n_Door_houses:W.findIn K (.ref C_Door) "houses"=some none)
  (n_Door_journal:W.findIn K (.ref C_Door) "journal"=some none)
  (n_Door_memory:W.findIn K (.ref C_Door) "memory"=some none)
  {f_Door___init__:Addr} {od_Door___init__ an_Door___init__:Option Addr} {sl_Door___init__:Array (Option Value)} {oc_Door___init__ kV_Door___init__ dc_Door___init__ pm_Door___init__ cd_Door___init__ ct_Door___init__:Value}
  (a_Door___init__:W.findIn K (.ref C_Door) "__init__"=some (some (.ref f_Door___init__))) (i_Door___init__:W.isFn K (.ref f_Door___init__)=true) (l_Door___init__:K.lookup f_Door___init__=some ⟨oc_Door___init__,od_Door___init__,.func (W.fnOf "__init__" "Door.__init__" (bC bM) (aP bM) (aA bM) .none kV_Door___init__ dc_Door___init__ pm_Door___init__ an_Door___init__ cd_Door___init__ ct_Door___init__),sl_Door___init__⟩) (c_Door___init__:W.codeIn K cd_Door___init__ "Door.__init__"=true) (k_Door___init__:W.keepIn K (.ref f_Door___init__)=true)
  (a_Door_come:MA K C_Door "come" "Door.come" fR)
  {f_Door_work:Addr} {od_Door_work an_Door_work:Option Addr} {sl_Door_work:Array (Option Value)} {oc_Door_work kV_Door_work dc_Door_work pm_Door_work cd_Door_work ct_Door_work:Value} {T_Door_work:Addr}
  (a_Door_work:W.findIn K (.ref C_Door) "work"=some (some (.ref f_Door_work))) (i_Door_work:W.isFn K (.ref f_Door_work)=true) (l_Door_work:K.lookup f_Door_work=some ⟨oc_Door_work,od_Door_work,.func (W.fnOf "work" "Door.work" (bC cW) (aP cW) (aA cW) (.ref T_Door_work) kV_Door_work dc_Door_work pm_Door_work an_Door_work cd_Door_work ct_Door_work),sl_Door_work⟩) (c_Door_work:W.codeIn K cd_Door_work "Door.work"=true) (k_Door_work:W.keepIn K (.ref f_Door_work)=true)
  {tk0_Door_work:Tok}
  {dT_Door_work:Option Addr} {itsT_Door_work:List Value} {nT_Door_work:Nat} {slT_Door_work:Array (Option Value)} (lT_Door_work:K.lookup T_Door_work=some ⟨.type "tuple",dT_Door_work,.seq (List.toArray itsT_Door_work) nT_Door_work,slT_Door_work⟩) (vT_Door_work:itsT_Door_work=[.str ("through") tk0_Door_work])
  (a_Door_write_first:MA K C_Door "write_first" "Door.write_first" bT)
  (a_Door_write_done:MA K C_Door "write_done" "Door.write_done" cA)
  (a_Door_force:MA K C_Door "force" "Door.force" fG)
  (a_Door_now:MA K C_Door "now" "Door.now" gW)
  (a_Door_under:MA K C_Door "under" "Door.under" dL)
  (a_Door_known:MA K C_Door "known" "Door.known" fH)
  {C_Late:Addr} (aC_Late:W.nsIn K mainGlobals "Late"=some (some (.ref C_Late)))
  (x_lexc:W.excIn K C_Late [.type "ValueError",.type "Exception",.type "BaseException",.type "object"] "ValueError.__new__"=true)
  (x_lxm:W.exmOne K (.ref C_Late) (.ref C_Late)=some true)
  (z_isinstance:W.nsIn K mainGlobals "isinstance"=some none)
  (z_int:W.nsIn K mainGlobals "int"=some none)
  (z_bool:W.nsIn K mainGlobals "bool"=some none)
  (z_str:W.nsIn K mainGlobals "str"=some none)
  (z_len:W.nsIn K mainGlobals "len"=some none)
  (z_all:W.nsIn K mainGlobals "all"=some none)
  (z_tuple:W.nsIn K mainGlobals "tuple"=some none)
  (z_dict:W.nsIn K mainGlobals "dict"=some none)
  (z_sorted:W.nsIn K mainGlobals "sorted"=some none)
  (z_max:W.nsIn K mainGlobals "max"=some none)
  (z_list:W.nsIn K mainGlobals "list"=some none)
  (z_enumerate:W.nsIn K mainGlobals "enumerate"=some none)
  (z_sum:W.nsIn K mainGlobals "sum"=some none)
  (z_range:W.nsIn K mainGlobals "range"=some none)
  {t_LETTERS:Tok} (y_LETTERS:W.nsIn K mainGlobals "LETTERS"=some (some (.str ("abcdefghijklmnopqrstuvwxyz") t_LETTERS)))
  {t_FIGURES:Tok} (y_FIGURES:W.nsIn K mainGlobals "FIGURES"=some (some (.str ("0123456789") t_FIGURES)))
  {t_LONGEST_NAME:Tok} (y_LONGEST_NAME:W.nsIn K mainGlobals "LONGEST_NAME"=some (some (.int (8) t_LONGEST_NAME)))
  {t_LONGEST_KEY:Tok} (y_LONGEST_KEY:W.nsIn K mainGlobals "LONGEST_KEY"=some (some (.int (12) t_LONGEST_KEY)))
  {t_MOST:Tok} (y_MOST:W.nsIn K mainGlobals "MOST"=some (some (.int (1000000000000) t_MOST)))
  {t_LONGEST_DOOR_NAME:Tok} (y_LONGEST_DOOR_NAME:W.nsIn K mainGlobals "LONGEST_DOOR_NAME"=some (some (.int (5) t_LONGEST_DOOR_NAME)))
  {a_NAME_COUNTS:Addr} {es_NAME_COUNTS:List DictEntry} {n_NAME_COUNTS:Nat} (y_NAME_COUNTS:W.nsIn K mainGlobals "NAME_COUNTS"=some (some (.ref a_NAME_COUNTS))) (l_NAME_COUNTS:K.lookup a_NAME_COUNTS=some ⟨.type "dict",none,.dict (List.toArray es_NAME_COUNTS) n_NAME_COUNTS,#[]⟩) (t_NAME_COUNTS:Tab w.params es_NAME_COUNTS (WS)) (o_NAME_COUNTS:(a_NAME_COUNTS == sysModules)=false)
  {a_UNLIKE_WORDS:Addr} {its_UNLIKE_WORDS:List Value} {dd_UNLIKE_WORDS:Option Addr} {n_UNLIKE_WORDS:Nat} {sl_UNLIKE_WORDS:Array (Option Value)} (y_UNLIKE_WORDS:W.nsIn K mainGlobals "UNLIKE_WORDS"=some (some (.ref a_UNLIKE_WORDS))) (l_UNLIKE_WORDS:K.lookup a_UNLIKE_WORDS=some ⟨.type "tuple",dd_UNLIKE_WORDS,.seq (List.toArray its_UNLIKE_WORDS) n_UNLIKE_WORDS,sl_UNLIKE_WORDS⟩) (v_UNLIKE_WORDS:Vals (UW) its_UNLIKE_WORDS)
  {a_WAYS:Addr} {its_WAYS:List Value} {dd_WAYS:Option Addr} {n_WAYS:Nat} {sl_WAYS:Array (Option Value)} (y_WAYS:W.nsIn K mainGlobals "WAYS"=some (some (.ref a_WAYS))) (l_WAYS:K.lookup a_WAYS=some ⟨.type "tuple",dd_WAYS,.seq (List.toArray its_WAYS) n_WAYS,sl_WAYS⟩) (v_WAYS:Vals ([V.str "through",V.str "lost",V.str "unheard"]) its_WAYS)
  : ∃fd:FuncData,(∀(s:Shared) (v:Value),BindsTo s fd ⟨[v],[]⟩ [("_law_script",v)])/\∀base:Heap,K.In base->base.Ns mainGlobals mg->gM l.prog w K mg base pU 8 fa fd ["_law_script"] (zN K):=by
 have e:=hfa.symm.trans (W.mg_of X G a_law)
 cases e
 have T:Txt K mg:=⟨W.mg_none_of X G z_isinstance,W.mg_none_of X G z_int,W.mg_none_of X G z_bool,W.mg_none_of X G z_str,W.mg_none_of X G z_len,W.mg_none_of X G z_all,W.mg_none_of X G z_tuple,W.mg_none_of X G z_dict,W.mg_none_of X G z_sorted,W.mg_none_of X G z_max,W.mg_none_of X G z_list,W.mg_none_of X G z_enumerate,W.mg_none_of X G z_sum,W.mg_none_of X G z_range,⟨_,W.mg_of X G y_LETTERS⟩,⟨_,W.mg_of X G y_FIGURES⟩,⟨_,W.mg_of X G y_LONGEST_NAME⟩,⟨_,W.mg_of X G y_LONGEST_KEY⟩,⟨_,W.mg_of X G y_MOST⟩,⟨_,W.mg_of X G y_LONGEST_DOOR_NAME⟩⟩
 have U:Wq w.params K mg:=⟨⟨_,W.mg_of X G y_NAME_COUNTS,⟨_,_,l_NAME_COUNTS,t_NAME_COUNTS,o_NAME_COUNTS⟩⟩,⟨_,W.mg_of X G y_UNLIKE_WORDS,fun _=>.inr ⟨_,_,_,l_UNLIKE_WORDS,rfl,rfl,by rw[eC,<- v_UNLIKE_WORDS.length];decide,v_UNLIKE_WORDS⟩⟩,⟨_,W.mg_of X G y_WAYS,fun _=>.inr ⟨_,_,_,l_WAYS,rfl,rfl,by rw[eC,<- v_WAYS.length];decide,v_WAYS⟩⟩⟩
 have D_is_name:DefAt K mg "is_name" iZ ["thing"]:=a_is_name.at X G fun _ _ _ _ _ _ us hl=>match us,hl with | [_],_=>rfl
 have D_is_key:DefAt K mg "is_key" kL ["thing"]:=a_is_key.at X G fun _ _ _ _ _ _ us hl=>match us,hl with | [_],_=>rfl
 have D_is_whole:DefAt K mg "is_whole" gT ["thing","least","most"]:=a_is_whole.at X G fun _ _ _ _ _ _ us hl=>match us,hl with | [_,_,_],_=>rfl
 have D_is_made_of:DefAt K mg "is_made_of" dD ["thing","signs","longest"]:=a_is_made_of.at X G fun _ _ _ _ _ _ us hl=>match us,hl with | [_,_,_],_=>rfl
 have D_is_deed:DefAt K mg "is_deed" jA ["thing"]:=a_is_deed.at X G fun _ _ _ _ _ _ us hl=>match us,hl with | [_],_=>rfl
 have D_fits_word:DefAt K mg "fits_word" eJ ["word","names"]:=a_fits_word.at X G fun _ _ _ _ _ _ us hl=>match us,hl with | [_,_],_=>rfl
 have D_asks_of:DefAt K mg "asks_of" jB ["deed"]:=a_asks_of.at X G fun _ _ _ _ _ _ us hl=>match us,hl with | [_],_=>rfl
 have D_done_changes:DefAt K mg "done_changes" cD ["deed"]:=a_done_changes.at X G fun _ _ _ _ _ _ us hl=>match us,hl with | [_],_=>rfl
 have D_early:DefAt K mg "early" mW ["book","deed"]:=a_early.at X G fun _ _ _ _ _ _ us hl=>match us,hl with | [_,_],_=>rfl
 have D_done_answer:DefAt K mg "done_answer" cM ["book","deed"]:=a_done_answer.at X G fun _ _ _ _ _ _ us hl=>match us,hl with | [_,_],_=>rfl
 have D_changes_of:DefAt K mg "changes_of" eW ["deed","answer"]:=a_changes_of.at X G fun _ _ _ _ _ _ us hl=>match us,hl with | [_,_],_=>rfl
 have D_is_alive:DefAt K mg "is_alive" gV ["since","life","turn"]:=a_is_alive.at X G fun _ _ _ _ _ _ us hl=>match us,hl with | [_,_,_],_=>rfl
 have D_risen:DefAt K mg "risen" eY ["rows"]:=a_risen.at X G fun _ _ _ _ _ _ us hl=>match us,hl with | [_],_=>rfl
 have D_by_numbers:DefAt K mg "by_numbers" eZ ["rows","word"]:=a_by_numbers.at X G fun _ _ _ _ _ _ us hl=>match us,hl with | [_,_],_=>rfl
 have D_first_book:DefAt K mg "first_book" dF ["rows"]:=a_first_book.at X G fun _ _ _ _ _ _ us hl=>match us,hl with | [_],_=>rfl
 have D_risen_book:DefAt K mg "risen_book" fA ["rows","came"]:=a_risen_book.at X G fun _ _ _ _ _ _ us hl=>match us,hl with | [_,_],_=>rfl
 have D_risen_kept:DefAt K mg "risen_kept" cG ["rows","came"]:=a_risen_kept.at X G fun _ _ _ _ _ _ us hl=>match us,hl with | [_,_],_=>rfl
 have D_rows_of:DefAt K mg "rows_of" jC ["text"]:=a_rows_of.at X G fun _ _ _ _ _ _ us hl=>match us,hl with | [_],_=>rfl
 have D_told_again:DefAt K mg "told_again" fI ["seen","deed"]:=a_told_again.at X G fun _ _ _ _ _ _ us hl=>match us,hl with | [_,_],_=>rfl
 have D_law_deck:DefAt K mg "_law_deck" gX ["_law_script"]:=a_law_deck.at X G fun _ _ _ _ _ _ us hl=>match us,hl with | [_],_=>rfl
 have D_law_draw:DefAt K mg "_law_draw" gY ["_law_deck_here","_law_many"]:=a_law_draw.at X G fun _ _ _ _ _ _ us hl=>match us,hl with | [_,_],_=>rfl
 have D_law_unlike:DefAt K mg "_law_unlike" bU ["_law_deck_here","_law_signs","_law_longest","_law_many"]:=a_law_unlike.at X G fun _ _ _ _ _ _ us hl=>match us,hl with | [_,_,_,_],_=>rfl
 have D_law_amount:DefAt K mg "_law_amount" fJ ["_law_deck_here"]:=a_law_amount.at X G fun _ _ _ _ _ _ us hl=>match us,hl with | [_],_=>rfl
 have D_law_deed:DefAt K mg "_law_deed" gZ ["_law_deck_here","_law_names"]:=a_law_deed.at X G fun _ _ _ _ _ _ us hl=>match us,hl with | [_,_],_=>rfl
 have D_law_ended:DefAt K mg "_law_ended" fT ["_law_door","_law_number","_law_asker","_law_key"]:=a_law_ended.at X G fun _ _ _ _ _ _ us hl=>match us,hl with | [_,_,_,_],_=>rfl
 have D_law_again:DefAt K mg "_law_again" fU ["_law_deck_here","_law_first","_law_deed_here","_law_names"]:=a_law_again.at X G fun _ _ _ _ _ _ us hl=>match us,hl with | [_,_,_,_],_=>rfl
 have D_law_is_late:DefAt K mg "_law_is_late" dZ ["_law_door","_law_turn","_law_spot","_law_deed_here"]:=a_law_is_late.at X G fun _ _ _ _ _ _ us hl=>match us,hl with | [_,_,_,_],_=>rfl
 have D_law_come_right:DefAt K mg "_law_come_right" cH ["_law_door","_law_turn","_law_spot","_law_deed_here","_law_due_here"]:=a_law_come_right.at X G fun _ _ _ _ _ _ us hl=>match us,hl with | [_,_,_,_,_],_=>rfl
 have D_law_spots:DefAt K mg "_law_spots" cX ["_law_deck_here"]:=a_law_spots.at X G fun _ _ _ _ _ _ us hl=>match us,hl with | [_],_=>rfl
 have D_law_due:DefAt K mg "_law_due" jD ["_law_table","_law_spot","_law_deed_here","_law_turn","_law_life","_law_number"]:=a_law_due.at X G fun _ _ _ _ _ _ us hl=>match us,hl with | [_,_,_,_,_,_],_=>rfl
 have cl_Keys:Cls K C_Keys:=⟨pg_Keys,hd_Keys,po_Keys,sa_Keys⟩
 have M_Keys_look:MethAt K C_Keys "look" "Keys.look" fQ ["self","asker","key","turn"]:=a_Keys_look.at cl_Keys fun _ _ _ _ _ _ us hl=>match us,hl with | [_,_,_,_],_=>rfl
 have M_Keys_begin:MethAt K C_Keys "begin" "Keys.begin" eX ["self","asker","key","number","deed"]:=a_Keys_begin.at cl_Keys fun _ _ _ _ _ _ us hl=>match us,hl with | [_,_,_,_,_],_=>rfl
 have M_Keys_settle:MethAt K C_Keys "settle" "Keys.settle" dW ["self","asker","key","turn","answer"]:=a_Keys_settle.at cl_Keys fun _ _ _ _ _ _ us hl=>match us,hl with | [_,_,_,_,_],_=>rfl
 have M_Keys_end:MethAt K C_Keys "end" "Keys.end" gU ["self","pair"]:=a_Keys_end.at cl_Keys fun _ _ _ _ _ _ us hl=>match us,hl with | [_,_],_=>rfl
 have M_Keys_is_kept:MethAt K C_Keys "is_kept" "Keys.is_kept" dE ["self","pair","turn"]:=a_Keys_is_kept.at cl_Keys fun _ _ _ _ _ _ us hl=>match us,hl with | [_,_,_],_=>rfl
 have I_Keys:ClsAt K mg "Keys" C_Keys "Keys.__init__" bK ["self","life"] [[]]:=⟨f_Keys___init__,_,_,W.mg_of X G aC_Keys,⟨_,_,_,_,_,_,_,_,_,rfl,l_Keys___init__,c_Keys___init__⟩,⟨mk_Keys,a_Keys___init__,i_Keys___init__,kc_Keys⟩,by
  intro d hd;obtain rfl:=Zms.mp hd
  exact⟨[],fun s us KI hl=>match us,(show us.length=2 by simpa using hl) with | [_,_],_=>BindsTo.of_eq rfl,.nil⟩⟩
 have cl_Book:Cls K C_Book:=⟨pg_Book,hd_Book,po_Book,sa_Book⟩
 have M_Book_amount:MethAt K C_Book "amount" "Book.amount" dX ["self","name"]:=a_Book_amount.at cl_Book fun _ _ _ _ _ _ us hl=>match us,hl with | [_,_],_=>rfl
 have M_Book_rows:MethAt K C_Book "rows" "Book.rows" eN ["self"]:=a_Book_rows.at cl_Book fun _ _ _ _ _ _ us hl=>match us,hl with | [_],_=>rfl
 have M_Book_change:MethAt K C_Book "change" "Book.change" dY ["self","changes"]:=a_Book_change.at cl_Book fun _ _ _ _ _ _ us hl=>match us,hl with | [_,_],_=>rfl
 subst vT_Book;have I_Book:ClsAt K mg "Book" C_Book "Book.__init__" bL ["self","rows"] [[],[.non]]:=⟨f_Book___init__,_,_,W.mg_of X G aC_Book,⟨_,_,_,_,_,_,_,_,_,rfl,l_Book___init__,c_Book___init__⟩,⟨mk_Book,a_Book___init__,i_Book___init__,kc_Book⟩,by
  intro d hd;rcases List.mem_cons.mp hd with rfl | hd
  ·exact⟨[],fun s us KI hl=>match us,(show us.length=2 by simpa using hl) with | [_,_],_=>BindsTo.of_defaults (T:=T_Book) rfl (KI _ _ lT_Book) rfl rfl rfl,.nil⟩
  obtain rfl:=Zms.mp hd
  ·exact⟨[.none],fun s us KI hl=>match us,(show us.length=1 by simpa using hl) with | [_],_=>BindsTo.of_defaults (T:=T_Book) rfl (KI _ _ lT_Book) rfl rfl rfl,(.cons rfl .nil)⟩⟩
 have cl_Journal:Cls K C_Journal:=⟨pg_Journal,hd_Journal,po_Journal,sa_Journal⟩
 have M_Journal_write:MethAt K C_Journal "write" "Journal.write" cP ["self","row"]:=a_Journal_write.at cl_Journal fun _ _ _ _ _ _ us hl=>match us,hl with | [_,_],_=>rfl
 have M_Journal_force:MethAt K C_Journal "force" "Journal.force" cQ ["self"]:=a_Journal_force.at cl_Journal fun _ _ _ _ _ _ us hl=>match us,hl with | [_],_=>rfl
 have M_Journal_rows:MethAt K C_Journal "rows" "Journal.rows" dG ["self"]:=a_Journal_rows.at cl_Journal fun _ _ _ _ _ _ us hl=>match us,hl with | [_],_=>rfl
 have M_Journal_safe:MethAt K C_Journal "safe" "Journal.safe" dH ["self"]:=a_Journal_safe.at cl_Journal fun _ _ _ _ _ _ us hl=>match us,hl with | [_],_=>rfl
 subst vT_Journal;have I_Journal:ClsAt K mg "Journal" C_Journal "Journal.__init__" bD ["self","text"] [[],[.str ("":Str)]]:=⟨f_Journal___init__,_,_,W.mg_of X G aC_Journal,⟨_,_,_,_,_,_,_,_,_,rfl,l_Journal___init__,c_Journal___init__⟩,⟨mk_Journal,a_Journal___init__,i_Journal___init__,kc_Journal⟩,by
  intro d hd;rcases List.mem_cons.mp hd with rfl | hd
  ·exact⟨[],fun s us KI hl=>match us,(show us.length=2 by simpa using hl) with | [_,_],_=>BindsTo.of_defaults (T:=T_Journal) rfl (KI _ _ lT_Journal) rfl rfl rfl,.nil⟩
  obtain rfl:=Zms.mp hd
  ·exact⟨[.str ("":Str) tk0_Journal],fun s us KI hl=>match us,(show us.length=1 by simpa using hl) with | [_],_=>BindsTo.of_defaults (T:=T_Journal) rfl (KI _ _ lT_Journal) rfl rfl rfl,(.cons ⟨_,rfl⟩ .nil)⟩⟩
 have cl_Run:Cls K C_Run:=⟨pg_Run,hd_Run,po_Run,sa_Run⟩
 have M_Run_as_tuple:MethAt K C_Run "as_tuple" "Run.as_tuple" dI ["self"]:=a_Run_as_tuple.at cl_Run fun _ _ _ _ _ _ us hl=>match us,hl with | [_],_=>rfl
 have M_Run_is_held_up_by:MethAt K C_Run "is_held_up_by" "Run.is_held_up_by" bP ["self","other"]:=a_Run_is_held_up_by.at cl_Run fun _ _ _ _ _ _ us hl=>match us,hl with | [_,_],_=>rfl
 have I_Run:ClsAt K mg "Run" C_Run "Run.__init__" bS ["self","number","asker","key","deed","stage"] [[]]:=⟨f_Run___init__,_,_,W.mg_of X G aC_Run,⟨_,_,_,_,_,_,_,_,_,rfl,l_Run___init__,c_Run___init__⟩,⟨mk_Run,a_Run___init__,i_Run___init__,kc_Run⟩,by
  intro d hd;obtain rfl:=Zms.mp hd
  exact⟨[],fun s us KI hl=>match us,(show us.length=6 by simpa using hl) with | [_,_,_,_,_,_],_=>BindsTo.of_eq rfl,.nil⟩⟩
 have cl_Memory:Cls K C_Memory:=⟨pg_Memory,hd_Memory,po_Memory,sa_Memory⟩
 have M_Memory_put:MethAt K C_Memory "put" "Memory.put" fE ["self","number","asker","key","deed","stage"]:=a_Memory_put.at cl_Memory fun _ _ _ _ _ _ us hl=>match us,hl with | [_,_,_,_,_,_],_=>rfl
 have M_Memory_begin:MethAt K C_Memory "begin" "Memory.begin" dJ ["self","asker","key","deed"]:=a_Memory_begin.at cl_Memory fun _ _ _ _ _ _ us hl=>match us,hl with | [_,_,_,_],_=>rfl
 have M_Memory_hold:MethAt K C_Memory "hold" "Memory.hold" cN ["self","run"]:=a_Memory_hold.at cl_Memory fun _ _ _ _ _ _ us hl=>match us,hl with | [_,_],_=>rfl
 have M_Memory_end:MethAt K C_Memory "end" "Memory.end" fF ["self","number","turn","answer"]:=a_Memory_end.at cl_Memory fun _ _ _ _ _ _ us hl=>match us,hl with | [_,_,_,_],_=>rfl
 have I_Memory:ClsAt K mg "Memory" C_Memory "Memory.__init__" bF ["self","life","turn","up"] [[]]:=⟨f_Memory___init__,_,_,W.mg_of X G aC_Memory,⟨_,_,_,_,_,_,_,_,_,rfl,l_Memory___init__,c_Memory___init__⟩,⟨mk_Memory,a_Memory___init__,i_Memory___init__,kc_Memory⟩,by
  intro d hd;obtain rfl:=Zms.mp hd
  exact⟨[],fun s us KI hl=>match us,(show us.length=4 by simpa using hl) with | [_,_,_,_],_=>BindsTo.of_eq rfl,.nil⟩⟩
 have cl_Door:Cls K C_Door:=⟨pg_Door,hd_Door,po_Door,sa_Door⟩
 have M_Door_come:MethAt K C_Door "come" "Door.come" fR ["self","turn","asker","key","deed"]:=a_Door_come.at cl_Door fun _ _ _ _ _ _ us hl=>match us,hl with | [_,_,_,_,_],_=>rfl
 subst vT_Door_work;have M_Door_work:MethAtD K C_Door "work" "Door.work" cW ["self","number","way"] [[],[.str ("through":Str)]]:=⟨cl_Door,f_Door_work,_,_,⟨_,_,_,_,_,_,_,_,_,rfl,l_Door_work,c_Door_work⟩,⟨a_Door_work,i_Door_work,k_Door_work⟩,by
  intro d hd;rcases List.mem_cons.mp hd with rfl | hd
  ·exact⟨[],fun s us KI hl=>match us,(show us.length=3 by simpa using hl) with | [_,_,_],_=>BindsTo.of_defaults (T:=T_Door_work) rfl (KI _ _ lT_Door_work) rfl rfl rfl,.nil⟩
  obtain rfl:=Zms.mp hd
  ·exact⟨[.str ("through":Str) tk0_Door_work],fun s us KI hl=>match us,(show us.length=2 by simpa using hl) with | [_,_],_=>BindsTo.of_defaults (T:=T_Door_work) rfl (KI _ _ lT_Door_work) rfl rfl rfl,(.cons ⟨_,rfl⟩ .nil)⟩⟩
 have M_Door_write_first:MethAt K C_Door "write_first" "Door.write_first" bT ["self","run"]:=a_Door_write_first.at cl_Door fun _ _ _ _ _ _ us hl=>match us,hl with | [_,_],_=>rfl
 have M_Door_write_done:MethAt K C_Door "write_done" "Door.write_done" cA ["self","run","answer"]:=a_Door_write_done.at cl_Door fun _ _ _ _ _ _ us hl=>match us,hl with | [_,_,_],_=>rfl
 have M_Door_force:MethAt K C_Door "force" "Door.force" fG ["self"]:=a_Door_force.at cl_Door fun _ _ _ _ _ _ us hl=>match us,hl with | [_],_=>rfl
 have M_Door_now:MethAt K C_Door "now" "Door.now" gW ["self"]:=a_Door_now.at cl_Door fun _ _ _ _ _ _ us hl=>match us,hl with | [_],_=>rfl
 have M_Door_under:MethAt K C_Door "under" "Door.under" dL ["self"]:=a_Door_under.at cl_Door fun _ _ _ _ _ _ us hl=>match us,hl with | [_],_=>rfl
 have M_Door_known:MethAt K C_Door "known" "Door.known" fH ["self"]:=a_Door_known.at cl_Door fun _ _ _ _ _ _ us hl=>match us,hl with | [_],_=>rfl
 have I_Door:ClsAt K mg "Door" C_Door "Door.__init__" bM ["self","name","life","houses"] [[]]:=⟨f_Door___init__,_,_,W.mg_of X G aC_Door,⟨_,_,_,_,_,_,_,_,_,rfl,l_Door___init__,c_Door___init__⟩,⟨mk_Door,a_Door___init__,i_Door___init__,kc_Door⟩,by
  intro d hd;obtain rfl:=Zms.mp hd
  exact⟨[],fun s us KI hl=>match us,(show us.length=4 by simpa using hl) with | [_,_,_,_],_=>BindsTo.of_eq rfl,.nil⟩⟩
 refine⟨W.fnOf "law" "law" (bC kM) (aP kM) (aA kM) .none kV_law dc_law pm_law an_law cd_law ct_law,fun s v=>.of_eq rfl,fun base _ _=>?_⟩
 have F_law:=nQ (st:=kM) l_law c_law k_law
 have BD:Ri K C_Door:=⟨cl_Door,n_Door_name,n_Door_life,n_Door_houses,n_Door_journal,n_Door_memory⟩
 have BM:Cg K C_Memory:=⟨cl_Memory,n_Memory_turn,n_Memory_book,n_Memory_standing,n_Memory_runs,n_Memory_next_number⟩
 have BR:Lk K C_Run:=⟨cl_Run,n_Run_number,n_Run_asker,n_Run_key,n_Run_deed,n_Run_stage,n_Run_place,n_Run_undos⟩
 have JB:JT K C_Journal:=⟨cl_Journal,n_Journal_written,n_Journal_safe_count⟩
 have BB:Mn K C_Book:=⟨cl_Book,n_Book_amounts⟩
 have KT:Qw K C_Keys:=⟨cl_Keys,n_Keys_life,n_Keys_begun_ones,n_Keys_settled_ones⟩
 have XL:XCls K mg "Late" C_Late:=⟨W.mg_of X G aC_Late,x_lexc⟩
 have cmade:=La (P:=l.prog) (w:=w) (mg:=mg) (base:=base) T D_is_made_of
 have cname:=wZ T cmade D_is_name
 have ckey:=Bm T cmade D_is_key
 have cwh:=Gm (P:=l.prog) (w:=w) (mg:=mg) (base:=base) T D_is_whole
 have cfit:=Lb T U cname D_fits_word
 have cdeed:=xA T cfit cwh D_is_deed
 have casks:=Lc (P:=l.prog) (w:=w) (mg:=mg) (base:=base) T D_asks_of
 have cdc:=xD (P:=l.prog) (w:=w) (mg:=mg) (base:=base) T D_done_changes
 have cdd:=mM (P:=l.prog) (w:=w) (mg:=mg) (base:=base) T D_done_changes
 have cam:=sU (P:=l.prog) (w:=w) (mg:=mg) (base:=base) BB M_Book_amount
 have cbr:=xB (P:=l.prog) (w:=w) (mg:=mg) (base:=base) T BB M_Book_rows
 have cbc:=xC T BB cam M_Book_change
 have cda:=oS T BB cdc cam D_done_answer
 have cea:=Br T BB cdc casks cam cda D_early
 have cco:=pI T cdd D_changes_of
 have cbi:=Hb (P:=l.prog) (w:=w) (mg:=mg) (base:=base) T BB I_Book
 have cal:=Go (P:=l.prog) (w:=w) (mg:=mg) (base:=base) D_is_alive
 have cik:=Bn KT cal M_Keys_is_kept
 have clo:=Ld KT cik M_Keys_look
 have cen:=Qy (P:=l.prog) (w:=w) (mg:=mg) (base:=base) KT M_Keys_end
 have cse:=Bo KT cen M_Keys_settle
 have cbe:=Gp (P:=l.prog) (w:=w) (mg:=mg) (base:=base) KT M_Keys_begin
 have cki:=Gn (P:=l.prog) (w:=w) (mg:=mg) (base:=base) KT I_Keys
 have cby:=Ra (P:=l.prog) (w:=w) (mg:=mg) (base:=base) D_by_numbers
 have cfb:=Rb (cbi [] Zs) D_first_book
 have crb:=Rc cfb cco cbc D_risen_book
 have crk:=Re (P:=l.prog) (w:=w) (mg:=mg) (base:=base) D_risen_kept
 have cri:=Lj T cby crb crk cbr D_risen
 have cro:=uX (P:=l.prog) (w:=w) (mg:=mg) (base:=base) T D_rows_of
 have cji:=Bs T JB cro I_Journal
 have cjw:=Bt (P:=l.prog) (w:=w) (mg:=mg) (base:=base) JB M_Journal_write
 have cjf:=Bu (P:=l.prog) (w:=w) (mg:=mg) (base:=base) T JB M_Journal_force
 have cjr:=Hi (P:=l.prog) (w:=w) (mg:=mg) (base:=base) T JB M_Journal_rows
 have cjs:=Hj (P:=l.prog) (w:=w) (mg:=mg) (base:=base) JB M_Journal_safe
 have crun:=Ll (P:=l.prog) (w:=w) (mg:=mg) (base:=base) BR I_Run
 have cas:=Rf (P:=l.prog) (w:=w) (mg:=mg) (base:=base) BR M_Run_as_tuple
 have che:=Hl (P:=l.prog) (w:=w) (mg:=mg) (base:=base) BR M_Run_is_held_up_by
 have cpu:=Rg (c:=⟨C_Door,C_Memory,C_Run,C_Journal,C_Book,C_Keys⟩) BM cbe (crun [] Zs) M_Memory_put
 have cmb:=Bx (c:=⟨C_Door,C_Memory,C_Run,C_Journal,C_Book,C_Keys⟩) BM cpu M_Memory_begin
 have chd:=Hm (c:=⟨C_Door,C_Memory,C_Run,C_Journal,C_Book,C_Keys⟩) T BM BR che M_Memory_hold
 have cme:=Lm (c:=⟨C_Door,C_Memory,C_Run,C_Journal,C_Book,C_Keys⟩) BM BR BB cco cbc cse M_Memory_end
 have cmi:=Rh (c:=⟨C_Door,C_Memory,C_Run,C_Journal,C_Book,C_Keys⟩) BM (cbi [] Zs) (cki [] Zs) I_Memory
 have cdi:=Hr (c:=⟨C_Door,C_Memory,C_Run,C_Journal,C_Book,C_Keys⟩) T BD cname (cji [.str ("":Str)] Zs) cri (cmi [] Zs) I_Door
 have ckn:=Hs (P:=l.prog) (w:=w) (mg:=mg) (base:=base) (c:=⟨C_Door,C_Memory,C_Run,C_Journal,C_Book,C_Keys⟩) BD M_Door_known
 have cnow:=Rj (c:=⟨C_Door,C_Memory,C_Run,C_Journal,C_Book,C_Keys⟩) BM ckn M_Door_now
 have cun:=Ht (c:=⟨C_Door,C_Memory,C_Run,C_Journal,C_Book,C_Keys⟩) T BM ckn cas M_Door_under
 have cag:=Hu (P:=l.prog) (w:=w) (mg:=mg) (base:=base) D_told_again
 have ccm:=Lo (c:=⟨C_Door,C_Memory,C_Run,C_Journal,C_Book,C_Keys⟩) T BD BM XL ckn cname ckey cdeed casks clo cag cmb cjw M_Door_come
 have cwd:=Hv (c:=⟨C_Door,C_Memory,C_Run,C_Journal,C_Book,C_Keys⟩) BD BM BR cjw M_Door_write_done
 have cwf:=Bz (c:=⟨C_Door,C_Memory,C_Run,C_Journal,C_Book,C_Keys⟩) BD BM BR cea cwd M_Door_write_first
 have cwk:=Lp (c:=⟨C_Door,C_Memory,C_Run,C_Journal,C_Book,C_Keys⟩) U BM BR ckn chd cwf M_Door_work
 have cfo:=Ca (c:=⟨C_Door,C_Memory,C_Run,C_Journal,C_Book,C_Keys⟩) BD ckn cjs cjf cjr cme M_Door_force
 have cdk:=Le (P:=l.prog) (w:=w) (mg:=mg) (base:=base) T D_law_deck
 have cdr:=Gq (P:=l.prog) (w:=w) (mg:=mg) (base:=base) D_law_draw
 have cul:=Bp T cdr D_law_unlike
 have cams:=Cb T cdr D_law_amount
 have cde6:=Cc T cdr cams D_law_deed
 have cag6:=xG T cdr D_law_again
 have csp:=Hy T cdr cul D_law_spots
 have cdu:=Hz (P:=l.prog) (w:=w) (mg:=mg) (base:=base) D_law_due
 have cla:=Ce (c:=⟨C_Door,C_Memory,C_Run,C_Journal,C_Book,C_Keys⟩) (W.mg_of X G aC_Late) x_lxm ccm D_law_is_late
 have crt:=xI (c:=⟨C_Door,C_Memory,C_Run,C_Journal,C_Book,C_Keys⟩) ccm cnow cla D_law_come_right
 have ced:=xJ (c:=⟨C_Door,C_Memory,C_Run,C_Journal,C_Book,C_Keys⟩) T (cwk [.str ("through":Str)] Zs) cfo D_law_ended
 exact Ro (c:=⟨C_Door,C_Memory,C_Run,C_Journal,C_Book,C_Keys⟩) T cdk cdr cul csp (cdi [] Zs) cde6 cag6 cdu crt ccm cun ced F_law
theorem Wt {l:W.OpenLaw} {q:Program} {loose:List Str} {XP:(Str->Option Value)->Heap->Prop} {YP:World->Heap->Prop} {d:DefRec} {K:Params->W.Frag} (hn:l.most=some 63) (hdf:d.params.defaults=[])
  (hY:∀(w:World) (h:Heap),YP w h->(K w.params).In h)
  (F:∀(w:World) (mg:Str->Option Value) (fa:Addr) (h:Heap),(K w.params).In h->h.Ns mainGlobals mg->mg d.name=some (.ref fa) →
   ∃fd:FuncData,(∀(s:Shared) (u:Value),BindsTo s fd ⟨[u],[]⟩ [("_law_script",u)])/\∀base:Heap,(K w.params).In base->base.Ns mainGlobals mg->gM l.prog w (K w.params) mg base pU 8 fa fd ["_law_script"] (zN (K w.params))) :
  W.WalkO q loose XP YP l.row.toRowW d [] (fun f vs=>PySem.call f vs):=
 L2.xX (n:=63) (k:=8) (x:="_law_script") (CX:=fun _=>pU) (sp:=fun w=>zN (K w.params)) hn Zd hdf ⟨rfl,Zd,Zd⟩ hY F (fun _ _ a ns hl _ hS=>⟨a,ns,rfl,hS,hl,fun _=>rfl⟩) fun _ _ _ _ _ z=>z
end KL
def PySem.W.Fast.tw9429767683685014520:Nat:=0
def PySem.W.Fast.tw14732121571648964936:Nat:=0
def PySem.W.Fast.tw1705937164719504164:Nat:=0
def PySem.W.Fast.tw6082662337499645415:Nat:=0
def PySem.W.Fast.tw2918798293484112481:Nat:=0
def PySem.W.Fast.tw14585040506305014873:Nat:=0
def PySem.W.Fast.tw8516547732686420122:Nat:=0
def PySem.W.Fast.tw4205366232682677754:Nat:=0
def PySem.W.Fast.tw6871663028148813274:Nat:=0
def PySem.W.Fast.tw1468305549834272167:Nat:=0
def PySem.W.Fast.tw11602225049560977700:Nat:=0
def PySem.W.Fast.tw4763056355689860685:Nat:=0
def PySem.W.Fast.tw15281637228060949993:Nat:=0
def PySem.W.Fast.tw1218278181615399094:Nat:=0
def PySem.W.Fast.tw10084902263285564635:Nat:=0
def PySem.W.Fast.tw14220515639228162794:Nat:=0
def PySem.W.Fast.tw10727031087343989767:Nat:=0
def PySem.W.Fast.tw3471984382219500722:Nat:=0
def PySem.W.Fast.tw12940456119227134446:Nat:=0
def PySem.W.Fast.tw8123247803689308151:Nat:=0
def PySem.W.Fast.tw12772081641825203306:Nat:=0
def PySem.W.Fast.tw1550034485119282573:Nat:=0
def PySem.W.Fast.tw14180750353826010873:Nat:=0
def PySem.W.Fast.tw14879380667000696145:Nat:=0
def PySem.W.Fast.tw10217146596512228183:Nat:=0
def PySem.W.Fast.tw7061133138500678347:Nat:=0
def PySem.W.Fast.tw4467594595193463464:Nat:=0
def PySem.W.Fast.tw15890088946601880693:Nat:=0
def PySem.W.Fast.tw9579186826885954460:Nat:=0
def PySem.W.Fast.tw11482056145918682146:Nat:=0
def PySem.W.Fast.tw11650427194154539957:Nat:=0
def PySem.W.Fast.tw12711069997955195721:Nat:=0
def PySem.W.Fast.tw15139720556387649309:Nat:=0
def PySem.W.Fast.tw10451954557157489301:Nat:=0
def PySem.W.Fast.tw7474345827655965020:Nat:=0
def PySem.W.Fast.tw10921677424348017754:Nat:=0
def PySem.W.Fast.tw10671411367777902195:Nat:=0
def PySem.W.Fast.tw9866898682823905652:Nat:=0
def PySem.W.Fast.tw8270993380057026449:Nat:=0
def PySem.W.Fast.tw12060870299717401815:Nat:=0
def PySem.W.Fast.tw10232275625298356237:Nat:=0
def PySem.W.Fast.tw4788266655394790986:Nat:=0
def PySem.W.Fast.tw1070967546519680532:Nat:=0
def PySem.W.Fast.tw3623001143145329171:Nat:=0
def PySem.W.Fast.tw16469150241081628885:Nat:=0
def PySem.W.Fast.tw18337559981147085509:Nat:=0
def PySem.W.Fast.tw343403879282223827:Nat:=0
def PySem.W.Fast.tw8751358686386057439:Nat:=0
def PySem.W.Fast.tw16984373977336482194:Nat:=0
def PySem.W.Fast.tw1681447030627906547:Nat:=0
def PySem.W.Fast.tw206977930794561672:Nat:=0
def PySem.W.Fast.tw5936824639737803708:Nat:=0
def PySem.W.Fast.tw12965915787424725807:Nat:=0
def PySem.W.Fast.tw8430022781340100384:Nat:=0
def PySem.W.Fast.tw9351347738321530504:Nat:=0
def PySem.W.Fast.tw11215154779669854589:Nat:=0
def PySem.W.Fast.tw14166569860677900574:Nat:=0
def PySem.W.Fast.tw12347253049064458214:Nat:=0
def PySem.W.Fast.tw15163784348119782843:Nat:=0
def PySem.W.Fast.tw10235863980172998635:Nat:=0
def PySem.W.Fast.tw14737757597651021410:Nat:=0
def PySem.W.Fast.tw4403256605105529516:Nat:=0
def PySem.W.Fast.tw13356322533302018224:Nat:=0
def PySem.W.Fast.tw6442827937337359789:Nat:=0
def PySem.W.Fast.tw17494014783483344383:Nat:=0
def PySem.W.Fast.tw8310733880710867428:Nat:=0
def PySem.W.Fast.tw14563872036787014817:Nat:=0
def PySem.W.Fast.tw1327567332180537642:Nat:=0
def PySem.W.Fast.tw16959455031618988134:Nat:=0
def PySem.W.Fast.tw8398478673179762889:Nat:=0
def PySem.W.Fast.tw4963449462476904343:Nat:=0
def PySem.W.Fast.tw9839449326343803848:Nat:=0
def PySem.W.Fast.tw16329168475299013815:Nat:=0
def PySem.W.Fast.tw7406077509788597353:Nat:=0
def PySem.W.Fast.tw490974914152279462:Nat:=0
def PySem.W.Fast.tw6525469740294079762:Nat:=0
def PySem.W.Fast.tw16987048191253162662:Nat:=0
def PySem.W.Fast.tw2603626020718489129:Nat:=0
def PySem.W.Fast.tw5842150165819080285:Nat:=0
def PySem.W.Fast.tw2091870936548265938:Nat:=0
def PySem.W.Fast.tw10675229781331819:Nat:=0
def PySem.W.Fast.tw15240692600318353145:Nat:=0
def PySem.W.Fast.tw11836024924577242098:Nat:=0
def PySem.W.Fast.tw4319424869833201052:Nat:=0
def PySem.W.Fast.tw10499797779851738985:Nat:=0
def PySem.W.Fast.tw12946156200373028633:Nat:=0
def PySem.W.Fast.tw3999436849341849702:Nat:=0
def PySem.W.Fast.tw1759562934212157957:Nat:=0
def PySem.W.Fast.tw15190187356516196455:Nat:=0
def PySem.W.Fast.tw766970903596474436:Nat:=0
def PySem.W.Fast.tw17745463583245050926:Nat:=0
def PySem.W.Fast.tw9800755383015186322:Nat:=0
def PySem.W.Fast.tw330097549263432129:Nat:=0
def PySem.W.Fast.tw16103722467497177626:Nat:=0
def PySem.W.Fast.tw6175025165923743468:Nat:=0
def PySem.W.Fast.tw16405520667741341253:Nat:=0
def PySem.W.Fast.tw16656392384078798356:Nat:=0
def PySem.W.Fast.tw7407610610693623177:Nat:=0
def PySem.W.Fast.tw8970780276611848066:Nat:=0
def PySem.W.Fast.tw5451487059524058642:Nat:=0
def PySem.W.Fast.tw1421735406262472148:Nat:=0
def PySem.W.Fast.tw15700751052836724854:Nat:=0
def PySem.W.Fast.tw16152925321437382832:Nat:=0
def PySem.W.Fast.tw12396484933545040689:Nat:=0
def PySem.W.Fast.tw16749409821457362619:Nat:=0
def PySem.W.Fast.tw3816426732155771063:Nat:=0
def PySem.W.Fast.tw13729158233848542130:Nat:=0
def PySem.W.Fast.tw16684831940319310744:Nat:=0
def PySem.W.Fast.tw333057954761533159:Nat:=0
def PySem.W.Fast.tw4318926891346842667:Nat:=0
def PySem.W.Fast.tw6013465886607225558:Nat:=0
def PySem.W.Fast.tw16768871731685219889:Nat:=0
def PySem.W.Fast.tw11617805677431170975:Nat:=0
def PySem.W.Fast.tw11986094505624953631:Nat:=0
def PySem.W.Fast.tw10678418183715071492:Nat:=0
def PySem.W.Fast.tw14246221052464494109:Nat:=0
def PySem.W.Fast.tw4273748886791343854:Nat:=0
def PySem.W.Fast.tw14181518592681197776:Nat:=0
def PySem.W.Fast.tw16881800528877326107:Nat:=0
def PySem.W.Fast.tw14971197479569737549:Nat:=0
def PySem.W.Fast.tw17771523963814782678:Nat:=0
def PySem.W.Fast.tw3126814419728803611:Nat:=0
def PySem.W.Fast.tw17082944605927517733:Nat:=0
def PySem.W.Fast.tw5344848210778804058:Nat:=0
def PySem.W.Fast.tw173046779925348890:Nat:=0
def PySem.W.Fast.tw14922783264425894635:Nat:=0
def PySem.W.Fast.tw18340420774421420642:Nat:=0
def PySem.W.Fast.tw15145874754597071065:Nat:=0
def PySem.W.Fast.tw6308590049015923052:Nat:=0
def PySem.W.Fast.tw2643876068132359278:Nat:=0
def PySem.W.Fast.tw455202280220051615:Nat:=0
def PySem.W.Fast.tw7274321496010423143:Nat:=0
def PySem.W.Fast.tw13257403159751348157:Nat:=0
def PySem.W.Fast.tw17892815100316486855:Nat:=0
def PySem.W.Fast.tw2360596071849824462:Nat:=0
def PySem.W.Fast.tw18084275959121808715:Nat:=0
def PySem.W.Fast.tw5305407057456101764:Nat:=0
def PySem.W.Fast.tw16535744398992952369:Nat:=0
def PySem.W.Fast.tw13608842532604136463:Nat:=0
def PySem.W.Fast.tw3507603730638326681:Nat:=0
def PySem.W.Fast.tw17560843740255732580:Nat:=0
def PySem.W.Fast.tw5004443943810793350:Nat:=0
def PySem.W.Fast.tw13890059887588363156:Nat:=0
def PySem.W.Fast.tw1840135511775959225:Nat:=0
def PySem.W.Fast.tw3094351488596774595:Nat:=0
def PySem.W.Fast.tw10118246978799085423:Nat:=0
def PySem.W.Fast.tw7083150037005213607:Nat:=0
def PySem.W.Fast.tw11393399985774189669:Nat:=0
def PySem.W.Fast.tw6363943198319606540:Nat:=0
def PySem.W.Fast.tw8881223787502660309:Nat:=0
def PySem.W.Fast.tw9095738027201552573:Nat:=0
def PySem.W.Fast.tw7448356472513111284:Nat:=0
def PySem.W.Fast.tw14034370078403918:Nat:=0
def PySem.W.Fast.tw11619662530993102644:Nat:=0
def PySem.W.Fast.tw5702086633951212885:Nat:=0
def PySem.W.Fast.tw5636257533366273685:Nat:=0
def PySem.W.Fast.tw2535481774538208733:Nat:=0
def PySem.W.Fast.tw11652452256601603689:Nat:=0
def PySem.W.Fast.tw8195972288441831822:Nat:=0
def PySem.W.Fast.tw5675832130516812252:Nat:=0
def PySem.W.Fast.tw17767977462131294852:Nat:=0
def PySem.W.Fast.tw3747386961836525376:Nat:=0
def PySem.W.Fast.tw12729703186012783493:Nat:=0
def PySem.W.Fast.tw4633844043953830806:Nat:=0
def PySem.W.Fast.tw15388598330426948784:Nat:=0
def PySem.W.Fast.tw3999110165956974192:Nat:=0
def PySem.W.Fast.tw16796230731077818014:Nat:=0
def PySem.W.Fast.tw3229883132220825734:Nat:=0
def PySem.W.Fast.tw8129436956102947376:Nat:=0
def PySem.W.Fast.tw3506389138204249459:Nat:=0
def PySem.W.Fast.tw11248213608434427419:Nat:=0
def PySem.W.Fast.tw17995750908989511049:Nat:=0
def PySem.W.Fast.tw14183835438804207607:Nat:=0
def PySem.W.Fast.tw17513984865157648473:Nat:=0
def PySem.W.Fast.tw9661886783277926896:Nat:=0
def PySem.W.Fast.tw10753588631026864221:Nat:=0
def PySem.W.Fast.tw11309849122728075715:Nat:=0
def PySem.W.Fast.tw16775133200165130854:Nat:=0
def PySem.W.Fast.tw13633258752173575328:Nat:=0
def PySem.W.Fast.tw14114214090004675412:Nat:=0
def PySem.W.Fast.tw13508132657394770356:Nat:=0
def PySem.W.Fast.tw14758605259018999865:Nat:=0
def PySem.W.Fast.tw17961942914765877364:Nat:=0
def PySem.W.Fast.tw9643863389113328364:Nat:=0
def PySem.W.Fast.tw1553063555961874486:Nat:=0
def PySem.W.Fast.tw17860391017437282500:Nat:=0
def PySem.W.Fast.tw11545341227949376351:Nat:=0
def PySem.W.Fast.tw9567332860632956286:Nat:=0
def PySem.W.Fast.tw4881515946503723571:Nat:=0
def PySem.W.Fast.tw7638103621725627985:Nat:=0
def PySem.W.Fast.tw9399360718866290883:Nat:=0
def PySem.W.Fast.tw10508400916843386336:Nat:=0
def PySem.W.Fast.tw119129611618133565:Nat:=0
def PySem.W.Fast.tw3986917029856446061:Nat:=0
def PySem.W.Fast.tw6861523362954772449:Nat:=0
def PySem.W.Fast.tw5261792573462321952:Nat:=0
def PySem.W.Fast.tw399901159725868849:Nat:=0
def PySem.W.Fast.tw18066435068569342155:Nat:=0
def PySem.W.Fast.tw5203259300874521498:Nat:=0
def PySem.W.Fast.tw14651206438064579187:Nat:=0
def PySem.W.Fast.tw11222544076298720817:Nat:=0
def PySem.W.Fast.tw1727728185735770600:Nat:=0
def PySem.W.Fast.tw4212561869265274599:Nat:=0
def PySem.W.Fast.tw3903273535700295621:Nat:=0
def PySem.W.Fast.tw6061803509393734325:Nat:=0
def PySem.W.Fast.tw16214139383471604294:Nat:=0
def PySem.W.Fast.tw8114775179742432299:Nat:=0
def PySem.W.Fast.tw2938666043551191319:Nat:=0
def PySem.W.Fast.tw13441600048940412495:Nat:=0
def PySem.W.Fast.tw5588104106210015778:Nat:=0
def PySem.W.Fast.tw12239250967943318098:Nat:=0
def PySem.W.Fast.tw14810181628182168755:Nat:=0
def PySem.W.Fast.tw8104200395330238552:Nat:=0
def PySem.W.Fast.tw1420054346814736235:Nat:=0
def PySem.W.Fast.tw13941098526886389749:Nat:=0
def PySem.W.Fast.tw7077220060660232404:Nat:=0
def PySem.W.Fast.tw7819519140481934629:Nat:=0
def PySem.W.Fast.tw14881873844469106386:Nat:=0
def PySem.W.Fast.tw16872532381984678852:Nat:=0
def PySem.W.Fast.tw12991335789004195496:Nat:=0
def PySem.W.Fast.tw8558852584500529479:Nat:=0
def PySem.W.Fast.tw8610519791703660149:Nat:=0
def PySem.W.Fast.tw11243234042561564721:Nat:=0
def PySem.W.Fast.tw5774315824605485979:Nat:=0
def PySem.W.Fast.tw13847978896803675733:Nat:=0
def PySem.W.Fast.tw8027134816796412954:Nat:=0
def PySem.W.Fast.tw9342660534066766874:Nat:=0
def PySem.W.Fast.tw11063542852323791666:Nat:=0
def PySem.W.Fast.tw4020926582956892929:Nat:=0
def PySem.W.Fast.tw2395029014143139266:Nat:=0
def PySem.W.Fast.tw6156308529421936397:Nat:=0
def PySem.W.Fast.tw14061770815377902152:Nat:=0
def PySem.W.Fast.tw1841790345757778745:Nat:=0
def PySem.W.Fast.tw6130978599144152831:Nat:=0
def PySem.W.Fast.tw5071017838331470885:Nat:=0
def PySem.W.Fast.tw5403944596053001420:Nat:=0
def PySem.W.Fast.tw11731599535112970472:Nat:=0
def PySem.W.Fast.tw4776755928728675212:Nat:=0
def PySem.W.Fast.tw17106232852088966706:Nat:=0
def PySem.W.Fast.tw15484751355736675923:Nat:=0
def PySem.W.Fast.tw16800904925589902216:Nat:=0
def PySem.W.Fast.tw2845917295886452107:Nat:=0
def PySem.W.Fast.tw18397822371891621835:Nat:=0
def PySem.W.Fast.tw3976377432731766803:Nat:=0
def PySem.W.Fast.tw2418664518856512309:Nat:=0
def PySem.W.Fast.tw4840100596276201592:Nat:=0
def PySem.W.Fast.tw8224605273247201920:Nat:=0
def PySem.W.Fast.tw734197478462215559:Nat:=0
def PySem.W.Fast.tw17737772660899395763:Nat:=0
def PySem.W.Fast.tw17219481952433968772:Nat:=0
def PySem.W.Fast.tw3877982077457823100:Nat:=0
def PySem.W.Fast.tw11679844169295272782:Nat:=0
def PySem.W.Fast.tw12479575618794006477:Nat:=0
def PySem.W.Fast.tw4400663902455054840:Nat:=0
def PySem.W.Fast.tw12449634965202554330:Nat:=0
def PySem.W.Fast.tw16697930978414974194:Nat:=0
def PySem.W.Fast.tw2496607486834524715:Nat:=0
def PySem.W.Fast.tw11176976435900675561:Nat:=0
def PySem.W.Fast.tw14938429781700639017:Nat:=0
def PySem.W.Fast.tw4109567255626903936:Nat:=0
def PySem.W.Fast.tw11845113684544582748:Nat:=0
def PySem.W.Fast.tw14039607527127343085:Nat:=0
def PySem.W.Fast.tw5456992250511328173:Nat:=0
def PySem.W.Fast.tw5622682281299171151:Nat:=0
def PySem.W.Fast.tw16034180743301254233:Nat:=0
def PySem.W.Fast.tw9505782748494199357:Nat:=0
def PySem.W.Fast.tw3788854099622408701:Nat:=0
def PySem.W.Fast.tw2418937227749642262:Nat:=0
def PySem.W.Fast.tw2126980977100481624:Nat:=0
def PySem.W.Fast.tw17152626467995609047:Nat:=0
def PySem.W.Fast.tw3594598945870616294:Nat:=0
def PySem.W.Fast.tw9011623667569605656:Nat:=0
def PySem.W.Fast.tw15961952615635091278:Nat:=0
def PySem.W.Fast.tw14272154691108155219:Nat:=0
def PySem.W.Fast.tw146572641413819546:Nat:=0
def PySem.W.Fast.tw11498742556890400859:Nat:=0
def PySem.W.Fast.tw15817619307923043304:Nat:=0
def PySem.W.Fast.tw6961983722978438434:Nat:=0
def PySem.W.Fast.tw2236117105543850848:Nat:=0
def PySem.W.Fast.tw13251504382423826894:Nat:=0
def PySem.W.Fast.tw7726140370492741160:Nat:=0
def PySem.W.Fast.tw15223479788712230169:Nat:=0
open PySem PySem.W PyProof.Rows
set_option maxRecDepth 100000 in
set_option maxHeartbeats 0 in
theorem PySem.Challenge.cw_oncedoor_k60_begun_busy_other_kept_holds : PySem.Challenge.rw_oncedoor_k60_begun_busy_other_kept.Holds := by
 w_on;o_law;k_head;(case hw=>w_witness2)
 k_fill
 refine KL.Wt (l:=PySem.Challenge.rw_oncedoor_k60_begun_busy_other_kept) rfl rfl (fun w h Y=>W.kIn_of Y) ?F
 case F=>
  intro w mg fa h KX G hmg;refine' KL.Rp KX G hmg ?a_is_name ?a_is_key ?a_is_whole ?a_is_made_of ?a_is_deed ?a_fits_word ?a_asks_of ?a_done_changes ?a_early ?a_done_answer ?a_changes_of ?a_is_alive ?a_risen ?a_by_numbers ?a_first_book ?a_risen_book ?a_risen_kept ?a_rows_of ?a_told_again ?a_law_deck ?a_law_draw ?a_law_unlike ?a_law_amount ?a_law_deed ?a_law_ended ?a_law_again ?a_law_is_late ?a_law_come_right ?a_law_spots ?a_law_due ?a_law ?l_law ?c_law ?k_law ?aC_Keys ?pg_Keys ?hd_Keys ?po_Keys ?sa_Keys ?mk_Keys ?kc_Keys ?n_Keys_life ?n_Keys_begun_ones ?n_Keys_settled_ones ?a_Keys___init__ ?i_Keys___init__ ?l_Keys___init__ ?c_Keys___init__ ?k_Keys___init__ ?a_Keys_look ?a_Keys_begin ?a_Keys_settle ?a_Keys_end ?a_Keys_is_kept ?aC_Book ?pg_Book ?hd_Book ?po_Book ?sa_Book ?mk_Book ?kc_Book ?n_Book_amounts ?a_Book___init__ ?i_Book___init__ ?l_Book___init__ ?c_Book___init__ ?k_Book___init__ ?a_Book_amount ?a_Book_rows ?a_Book_change ?lT_Book ?vT_Book ?aC_Journal ?pg_Journal ?hd_Journal ?po_Journal ?sa_Journal ?mk_Journal ?kc_Journal ?n_Journal_written ?n_Journal_safe_count ?a_Journal___init__ ?i_Journal___init__ ?l_Journal___init__ ?c_Journal___init__ ?k_Journal___init__ ?a_Journal_write ?a_Journal_force ?a_Journal_rows ?a_Journal_safe ?lT_Journal ?vT_Journal ?aC_Run ?pg_Run ?hd_Run ?po_Run ?sa_Run ?mk_Run ?kc_Run ?n_Run_number ?n_Run_asker ?n_Run_key ?n_Run_deed ?n_Run_stage ?n_Run_place ?n_Run_undos ?a_Run___init__ ?i_Run___init__ ?l_Run___init__ ?c_Run___init__ ?k_Run___init__ ?a_Run_as_tuple ?a_Run_is_held_up_by ?aC_Memory ?pg_Memory ?hd_Memory ?po_Memory ?sa_Memory ?mk_Memory ?kc_Memory ?n_Memory_turn ?n_Memory_book ?n_Memory_standing ?n_Memory_runs ?n_Memory_next_number ?a_Memory___init__ ?i_Memory___init__ ?l_Memory___init__ ?c_Memory___init__ ?k_Memory___init__ ?a_Memory_put ?a_Memory_begin ?a_Memory_hold ?a_Memory_end ?aC_Door ?pg_Door ?hd_Door ?po_Door ?sa_Door ?mk_Door ?kc_Door ?n_Door_name ?n_Door_life ?n_Door_houses ?n_Door_journal ?n_Door_memory ?a_Door___init__ ?i_Door___init__ ?l_Door___init__ ?c_Door___init__ ?k_Door___init__ ?a_Door_come ?a_Door_work ?i_Door_work ?l_Door_work ?c_Door_work ?k_Door_work ?lT_Door_work ?vT_Door_work ?a_Door_write_first ?a_Door_write_done ?a_Door_force ?a_Door_now ?a_Door_under ?a_Door_known ?aC_Late ?x_lexc ?x_lxm ?z_isinstance ?z_int ?z_bool ?z_str ?z_len ?z_all ?z_tuple ?z_dict ?z_sorted ?z_max ?z_list ?z_enumerate ?z_sum ?z_range ?y_LETTERS ?y_FIGURES ?y_LONGEST_NAME ?y_LONGEST_KEY ?y_MOST ?y_LONGEST_DOOR_NAME ?y_NAME_COUNTS ?l_NAME_COUNTS ?t_NAME_COUNTS ?o_NAME_COUNTS ?y_UNLIKE_WORDS ?l_UNLIKE_WORDS ?v_UNLIKE_WORDS ?y_WAYS ?l_WAYS ?v_WAYS
  (case a_is_name=>refine' KL.FA.of ?a ?l ?c ?k;(case a=>k_is);(case l=>k_is);(case c=>k_is);case k=>k_is)
  (case a_is_key=>refine' KL.FA.of ?a ?l ?c ?k;(case a=>k_is);(case l=>k_is);(case c=>k_is);case k=>k_is)
  (case a_is_whole=>refine' KL.FA.of ?a ?l ?c ?k;(case a=>k_is);(case l=>k_is);(case c=>k_is);case k=>k_is)
  (case a_is_made_of=>refine' KL.FA.of ?a ?l ?c ?k;(case a=>k_is);(case l=>k_is);(case c=>k_is);case k=>k_is)
  (case a_is_deed=>refine' KL.FA.of ?a ?l ?c ?k;(case a=>k_is);(case l=>k_is);(case c=>k_is);case k=>k_is)
  (case a_fits_word=>refine' KL.FA.of ?a ?l ?c ?k;(case a=>k_is);(case l=>k_is);(case c=>k_is);case k=>k_is)
  (case a_asks_of=>refine' KL.FA.of ?a ?l ?c ?k;(case a=>k_is);(case l=>k_is);(case c=>k_is);case k=>k_is)
  (case a_done_changes=>refine' KL.FA.of ?a ?l ?c ?k;(case a=>k_is);(case l=>k_is);(case c=>k_is);case k=>k_is)
  (case a_early=>refine' KL.FA.of ?a ?l ?c ?k;(case a=>k_is);(case l=>k_is);(case c=>k_is);case k=>k_is)
  (case a_done_answer=>refine' KL.FA.of ?a ?l ?c ?k;(case a=>k_is);(case l=>k_is);(case c=>k_is);case k=>k_is)
  (case a_changes_of=>refine' KL.FA.of ?a ?l ?c ?k;(case a=>k_is);(case l=>k_is);(case c=>k_is);case k=>k_is)
  (case a_is_alive=>refine' KL.FA.of ?a ?l ?c ?k;(case a=>k_is);(case l=>k_is);(case c=>k_is);case k=>k_is)
  (case a_risen=>refine' KL.FA.of ?a ?l ?c ?k;(case a=>k_is);(case l=>k_is);(case c=>k_is);case k=>k_is)
  (case a_by_numbers=>refine' KL.FA.of ?a ?l ?c ?k;(case a=>k_is);(case l=>k_is);(case c=>k_is);case k=>k_is)
  (case a_first_book=>refine' KL.FA.of ?a ?l ?c ?k;(case a=>k_is);(case l=>k_is);(case c=>k_is);case k=>k_is)
  (case a_risen_book=>refine' KL.FA.of ?a ?l ?c ?k;(case a=>k_is);(case l=>k_is);(case c=>k_is);case k=>k_is)
  (case a_risen_kept=>refine' KL.FA.of ?a ?l ?c ?k;(case a=>k_is);(case l=>k_is);(case c=>k_is);case k=>k_is)
  (case a_rows_of=>refine' KL.FA.of ?a ?l ?c ?k;(case a=>k_is);(case l=>k_is);(case c=>k_is);case k=>k_is)
  (case a_told_again=>refine' KL.FA.of ?a ?l ?c ?k;(case a=>k_is);(case l=>k_is);(case c=>k_is);case k=>k_is)
  (case a_law_deck=>refine' KL.FA.of ?a ?l ?c ?k;(case a=>k_is);(case l=>k_is);(case c=>k_is);case k=>k_is)
  (case a_law_draw=>refine' KL.FA.of ?a ?l ?c ?k;(case a=>k_is);(case l=>k_is);(case c=>k_is);case k=>k_is)
  (case a_law_unlike=>refine' KL.FA.of ?a ?l ?c ?k;(case a=>k_is);(case l=>k_is);(case c=>k_is);case k=>k_is)
  (case a_law_amount=>refine' KL.FA.of ?a ?l ?c ?k;(case a=>k_is);(case l=>k_is);(case c=>k_is);case k=>k_is)
  (case a_law_deed=>refine' KL.FA.of ?a ?l ?c ?k;(case a=>k_is);(case l=>k_is);(case c=>k_is);case k=>k_is)
  (case a_law_ended=>refine' KL.FA.of ?a ?l ?c ?k;(case a=>k_is);(case l=>k_is);(case c=>k_is);case k=>k_is)
  (case a_law_again=>refine' KL.FA.of ?a ?l ?c ?k;(case a=>k_is);(case l=>k_is);(case c=>k_is);case k=>k_is)
  (case a_law_is_late=>refine' KL.FA.of ?a ?l ?c ?k;(case a=>k_is);(case l=>k_is);(case c=>k_is);case k=>k_is)
  (case a_law_come_right=>refine' KL.FA.of ?a ?l ?c ?k;(case a=>k_is);(case l=>k_is);(case c=>k_is);case k=>k_is)
  (case a_law_spots=>refine' KL.FA.of ?a ?l ?c ?k;(case a=>k_is);(case l=>k_is);(case c=>k_is);case k=>k_is)
  (case a_law_due=>refine' KL.FA.of ?a ?l ?c ?k;(case a=>k_is);(case l=>k_is);(case c=>k_is);case k=>k_is)
  (case a_law=>k_is)
  (case l_law=>k_is)
  (case c_law=>k_is)
  (case k_law=>k_is)
  (case aC_Keys=>k_is)
  (case pg_Keys=>k_is)
  (case hd_Keys=>k_is)
  (case po_Keys=>k_is)
  (case sa_Keys=>k_is)
  (case mk_Keys=>k_is)
  (case kc_Keys=>k_is)
  (case n_Keys_life=>k_is)
  (case n_Keys_begun_ones=>k_is)
  (case n_Keys_settled_ones=>k_is)
  (case a_Keys___init__=>k_is)
  (case i_Keys___init__=>k_is)
  (case l_Keys___init__=>k_is)
  (case c_Keys___init__=>k_is)
  (case k_Keys___init__=>k_is)
  (case a_Keys_look=>refine' KL.MA.of ?a ?i ?l ?c ?k;(case a=>k_is);(case i=>k_is);(case l=>k_is);(case c=>k_is);case k=>k_is)
  (case a_Keys_begin=>refine' KL.MA.of ?a ?i ?l ?c ?k;(case a=>k_is);(case i=>k_is);(case l=>k_is);(case c=>k_is);case k=>k_is)
  (case a_Keys_settle=>refine' KL.MA.of ?a ?i ?l ?c ?k;(case a=>k_is);(case i=>k_is);(case l=>k_is);(case c=>k_is);case k=>k_is)
  (case a_Keys_end=>refine' KL.MA.of ?a ?i ?l ?c ?k;(case a=>k_is);(case i=>k_is);(case l=>k_is);(case c=>k_is);case k=>k_is)
  (case a_Keys_is_kept=>refine' KL.MA.of ?a ?i ?l ?c ?k;(case a=>k_is);(case i=>k_is);(case l=>k_is);(case c=>k_is);case k=>k_is)
  (case aC_Book=>k_is)
  (case pg_Book=>k_is)
  (case hd_Book=>k_is)
  (case po_Book=>k_is)
  (case sa_Book=>k_is)
  (case mk_Book=>k_is)
  (case kc_Book=>k_is)
  (case n_Book_amounts=>k_is)
  (case a_Book___init__=>k_is)
  (case i_Book___init__=>k_is)
  (case l_Book___init__=>k_is)
  (case c_Book___init__=>k_is)
  (case k_Book___init__=>k_is)
  (case a_Book_amount=>refine' KL.MA.of ?a ?i ?l ?c ?k;(case a=>k_is);(case i=>k_is);(case l=>k_is);(case c=>k_is);case k=>k_is)
  (case a_Book_rows=>refine' KL.MA.of ?a ?i ?l ?c ?k;(case a=>k_is);(case i=>k_is);(case l=>k_is);(case c=>k_is);case k=>k_is)
  (case a_Book_change=>refine' KL.MA.of ?a ?i ?l ?c ?k;(case a=>k_is);(case i=>k_is);(case l=>k_is);(case c=>k_is);case k=>k_is)
  (case lT_Book=>k_is)
  (case vT_Book=>exact rfl)
  (case aC_Journal=>k_is)
  (case pg_Journal=>k_is)
  (case hd_Journal=>k_is)
  (case po_Journal=>k_is)
  (case sa_Journal=>k_is)
  (case mk_Journal=>k_is)
  (case kc_Journal=>k_is)
  (case n_Journal_written=>k_is)
  (case n_Journal_safe_count=>k_is)
  (case a_Journal___init__=>k_is)
  (case i_Journal___init__=>k_is)
  (case l_Journal___init__=>k_is)
  (case c_Journal___init__=>k_is)
  (case k_Journal___init__=>k_is)
  (case a_Journal_write=>refine' KL.MA.of ?a ?i ?l ?c ?k;(case a=>k_is);(case i=>k_is);(case l=>k_is);(case c=>k_is);case k=>k_is)
  (case a_Journal_force=>refine' KL.MA.of ?a ?i ?l ?c ?k;(case a=>k_is);(case i=>k_is);(case l=>k_is);(case c=>k_is);case k=>k_is)
  (case a_Journal_rows=>refine' KL.MA.of ?a ?i ?l ?c ?k;(case a=>k_is);(case i=>k_is);(case l=>k_is);(case c=>k_is);case k=>k_is)
  (case a_Journal_safe=>refine' KL.MA.of ?a ?i ?l ?c ?k;(case a=>k_is);(case i=>k_is);(case l=>k_is);(case c=>k_is);case k=>k_is)
  (case lT_Journal=>k_is)
  (case vT_Journal=>exact rfl)
  (case aC_Run=>k_is)
  (case pg_Run=>k_is)
  (case hd_Run=>k_is)
  (case po_Run=>k_is)
  (case sa_Run=>k_is)
  (case mk_Run=>k_is)
  (case kc_Run=>k_is)
  (case n_Run_number=>k_is)
  (case n_Run_asker=>k_is)
  (case n_Run_key=>k_is)
  (case n_Run_deed=>k_is)
  (case n_Run_stage=>k_is)
  (case n_Run_place=>k_is)
  (case n_Run_undos=>k_is)
  (case a_Run___init__=>k_is)
  (case i_Run___init__=>k_is)
  (case l_Run___init__=>k_is)
  (case c_Run___init__=>k_is)
  (case k_Run___init__=>k_is)
  (case a_Run_as_tuple=>refine' KL.MA.of ?a ?i ?l ?c ?k;(case a=>k_is);(case i=>k_is);(case l=>k_is);(case c=>k_is);case k=>k_is)
  (case a_Run_is_held_up_by=>refine' KL.MA.of ?a ?i ?l ?c ?k;(case a=>k_is);(case i=>k_is);(case l=>k_is);(case c=>k_is);case k=>k_is)
  (case aC_Memory=>k_is)
  (case pg_Memory=>k_is)
  (case hd_Memory=>k_is)
  (case po_Memory=>k_is)
  (case sa_Memory=>k_is)
  (case mk_Memory=>k_is)
  (case kc_Memory=>k_is)
  (case n_Memory_turn=>k_is)
  (case n_Memory_book=>k_is)
  (case n_Memory_standing=>k_is)
  (case n_Memory_runs=>k_is)
  (case n_Memory_next_number=>k_is)
  (case a_Memory___init__=>k_is)
  (case i_Memory___init__=>k_is)
  (case l_Memory___init__=>k_is)
  (case c_Memory___init__=>k_is)
  (case k_Memory___init__=>k_is)
  (case a_Memory_put=>refine' KL.MA.of ?a ?i ?l ?c ?k;(case a=>k_is);(case i=>k_is);(case l=>k_is);(case c=>k_is);case k=>k_is)
  (case a_Memory_begin=>refine' KL.MA.of ?a ?i ?l ?c ?k;(case a=>k_is);(case i=>k_is);(case l=>k_is);(case c=>k_is);case k=>k_is)
  (case a_Memory_hold=>refine' KL.MA.of ?a ?i ?l ?c ?k;(case a=>k_is);(case i=>k_is);(case l=>k_is);(case c=>k_is);case k=>k_is)
  (case a_Memory_end=>refine' KL.MA.of ?a ?i ?l ?c ?k;(case a=>k_is);(case i=>k_is);(case l=>k_is);(case c=>k_is);case k=>k_is)
  (case aC_Door=>k_is)
  (case pg_Door=>k_is)
  (case hd_Door=>k_is)
  (case po_Door=>k_is)
  (case sa_Door=>k_is)
  (case mk_Door=>k_is)
  (case kc_Door=>k_is)
  (case n_Door_name=>k_is)
  (case n_Door_life=>k_is)
  (case n_Door_houses=>k_is)
  (case n_Door_journal=>k_is)
  (case n_Door_memory=>k_is)
  (case a_Door___init__=>k_is)
  (case i_Door___init__=>k_is)
  (case l_Door___init__=>k_is)
  (case c_Door___init__=>k_is)
  (case k_Door___init__=>k_is)
  (case a_Door_come=>refine' KL.MA.of ?a ?i ?l ?c ?k;(case a=>k_is);(case i=>k_is);(case l=>k_is);(case c=>k_is);case k=>k_is)
  (case a_Door_work=>k_is)
  (case i_Door_work=>k_is)
  (case l_Door_work=>k_is)
  (case c_Door_work=>k_is)
  (case k_Door_work=>k_is)
  (case lT_Door_work=>k_is)
  (case vT_Door_work=>exact rfl)
  (case a_Door_write_first=>refine' KL.MA.of ?a ?i ?l ?c ?k;(case a=>k_is);(case i=>k_is);(case l=>k_is);(case c=>k_is);case k=>k_is)
  (case a_Door_write_done=>refine' KL.MA.of ?a ?i ?l ?c ?k;(case a=>k_is);(case i=>k_is);(case l=>k_is);(case c=>k_is);case k=>k_is)
  (case a_Door_force=>refine' KL.MA.of ?a ?i ?l ?c ?k;(case a=>k_is);(case i=>k_is);(case l=>k_is);(case c=>k_is);case k=>k_is)
  (case a_Door_now=>refine' KL.MA.of ?a ?i ?l ?c ?k;(case a=>k_is);(case i=>k_is);(case l=>k_is);(case c=>k_is);case k=>k_is)
  (case a_Door_under=>refine' KL.MA.of ?a ?i ?l ?c ?k;(case a=>k_is);(case i=>k_is);(case l=>k_is);(case c=>k_is);case k=>k_is)
  (case a_Door_known=>refine' KL.MA.of ?a ?i ?l ?c ?k;(case a=>k_is);(case i=>k_is);(case l=>k_is);(case c=>k_is);case k=>k_is)
  (case aC_Late=>k_is)
  (case x_lexc=>k_exc)
  (case x_lxm=>kts_exm)
  (case z_isinstance=>k_is)
  (case z_int=>k_is)
  (case z_bool=>k_is)
  (case z_str=>k_is)
  (case z_len=>k_is)
  (case z_all=>k_is)
  (case z_tuple=>k_is)
  (case z_dict=>k_is)
  (case z_sorted=>k_is)
  (case z_max=>k_is)
  (case z_list=>k_is)
  (case z_enumerate=>k_is)
  (case z_sum=>k_is)
  (case z_range=>k_is)
  (case y_LETTERS=>k_is)
  (case y_FIGURES=>k_is)
  (case y_LONGEST_NAME=>k_is)
  (case y_LONGEST_KEY=>k_is)
  (case y_MOST=>k_is)
  (case y_LONGEST_DOOR_NAME=>k_is)
  (case y_NAME_COUNTS=>k_is)
  (case l_NAME_COUNTS=>k_is)
  (case t_NAME_COUNTS=>repeat (first | exact True.intro | refine And.intro ⟨_,rfl⟩ (And.intro rfl (And.intro ⟨_,rfl⟩ ?_))))
  (case o_NAME_COUNTS=>decide)
  (case y_UNLIKE_WORDS=>k_is)
  (case l_UNLIKE_WORDS=>k_is)
  (case v_UNLIKE_WORDS=>repeat (first | exact .nil | refine .cons ⟨_,rfl⟩ ?_))
  (case y_WAYS=>k_is)
  (case l_WAYS=>k_is)
  (case v_WAYS=>repeat (first | exact .nil | refine .cons ⟨_,rfl⟩ ?_))
